/-
  SmSym SmSym2 SmSym3 SmStab SmNorm UnPairs UnBig UnLaws UnMid SbRef7 SbRef7N UnRefW UnMidW SbVnt2
-/
import Derived.Test.YtiammidklcjelabMg7
import Derived.Test.YtiammidklcjelabMg4
import Derived.Test.YtiammidklcjelabMg6
import Derived.Test.YtiammidklcjelabMg5
import Derived.Test.YtiammidklcjelabMg3
import Derived.Test.YtiammidklcjelabMg2
namespace Go.Proofs.Ytiammidklcjelab
open Go.RowKit
set_option linter.unusedVariables false
set_option linter.unusedSimpArgs false
set_option maxRecDepth 100000
section
variable {P : Program} {w0 : World} {U0 : UX} {nt : Nat} {Q : Exit → AS → Prop} {s : AS}
def midQE (w0 : World) (U0 : UX) (nt : Nat) {Sg : Type} (R : Sg → Prop) (st : Sg → AS) (Q : Exit → AS → Prop) : Exit → AS → Prop
  | .normal, s => ∃ σ, R σ ∧ Wk w0 U0 nt s (st σ)
  | e, s => Q e s
theorem awp_midE {Sg : Type} {x y : Code} (R : Sg → Prop) (st : Sg → AS) (hx : AWp P w0 U0 nt x (midQE w0 U0 nt R st Q) s) (hy : ∀ σ, R σ → AWp P w0 U0 nt y Q (st σ)) : AWp P w0 U0 nt (.seq x y) Q s :=
  aS fun M a w hs => WP_mono (hx M a w hs) fun e a' w' ⟨s', h1, h2⟩ => by
    cases e with
    | normal => obtain ⟨σ, k1, k2⟩ := h1; exact ⟨st σ, hy σ k1, k2 a' w' h2⟩
    | _ => exact ⟨s', h1, h2⟩
variable {ops : Array Oper} {o : Oper} {gs : List Nat} {S : Nat → Option AV} {d : Nat}
theorem a_shr (hg : Gd w0 U0 nt ops o gs S) (hd : o.dst = some d) (hn : Nat.blt d nt = true) (h5 : Nat.blt d 100000 = true) {x y : Operand} {t1 t2 : TypeId} {k : IntKind} {i : Int} {n q p n' q' p'} (ho : o.op = .binOp .shr t1 x y t2) (hx : ev S x = some ⟨0, .sc (.int k i), n, q, p⟩) (hy : ev S y = some ⟨0, .sc (.int k 1), n', q', p'⟩) : AOp P w0 U0 nt ops o (gs ++ (rd x ++ rd y)) [] S [(d, .val (.sc (.int k (i / 2))))] :=
  aop_int2 hg hd hn h5 ho hx hy (fun w => by
    have hm : min (1 : Int).toNat k.bits = 1 := by cases k <;> rfl
    rw [binOp_shr, shift_shr_any k k i 1 (by decide), hm]
    simp [go_sem]) rfl
end

theorem rt_up {L M : List Bd} {a k : Nat} {y z : Bd} (hak : a ≤ k) (hk : k + 1 < L.length) (h : IsG M L.length (rtG a (a + 1) (k + 1) fun t => L[t]?)) (hz : M[k]? = some z) (hy : M[k + 1]? = some y) : IsG ((M.set k y).set (k + 1) z) L.length (rtG a (a + 1) (k + 2) fun t => L[t]?) := by
  have hl := h.1
  have ez := h.2 k
  have ey := h.2 (k + 1)
  rw [hz] at ez
  rw [hy] at ey
  refine ⟨by rw [List.length_set, List.length_set]; exact hl, fun t => ?_⟩
  have et := h.2 t
  unfold rtG at ez ey et ⊢
  rw [List.getElem?_set, List.getElem?_set]
  by_cases c1 : t = k + 1
  · subst c1
    rw [if_pos rfl, if_pos (by rw [List.length_set]; omega), if_neg (by omega), if_pos (by omega), ez]
    by_cases c : a ≤ k ∧ k < a + (k + 1 - (a + 1))
    · omega
    · rw [if_neg c, if_pos (by omega)]; congr 1; omega
  · rw [if_neg (by omega)]
    by_cases c2 : t = k
    · subst c2
      rw [if_pos rfl, if_pos (by omega), if_pos (by omega), ey, if_neg (by omega), if_neg (by omega)]; congr 1; omega
    · rw [if_neg (by omega), et]
      by_cases c3 : a ≤ t ∧ t < a + (k + 1 - (a + 1))
      · rw [if_pos c3, if_pos (by omega)]
      · rw [if_neg c3, if_neg (by omega), if_neg (by omega), if_neg (by omega)]
theorem rt_dn {L M : List Bd} {k m : Nat} {y z : Bd} (hkm : k + 1 ≤ m) (hm : m < L.length) (h : IsG M L.length (rtG (k + 1) m (m + 1) fun t => L[t]?)) (hz : M[k + 1]? = some z) (hy : M[k]? = some y) : IsG ((M.set (k + 1) y).set k z) L.length (rtG k m (m + 1) fun t => L[t]?) := by
  have hl := h.1
  have ez := h.2 (k + 1)
  have ey := h.2 k
  rw [hz] at ez
  rw [hy] at ey
  refine ⟨by rw [List.length_set, List.length_set]; exact hl, fun t => ?_⟩
  have et := h.2 t
  unfold rtG at ez ey et ⊢
  rw [List.getElem?_set, List.getElem?_set]
  by_cases c1 : t = k
  · subst c1
    rw [if_pos rfl, if_pos (by rw [List.length_set]; omega), if_pos (by omega), ez, if_pos (by omega)]; congr 1; omega
  · rw [if_neg (by omega)]
    by_cases c2 : t = k + 1
    · subst c2
      rw [if_pos rfl, if_pos (by omega), if_neg (by omega), if_pos (by omega), ey, if_neg (by omega), if_neg (by omega)]; congr 1; omega
    · rw [if_neg (by omega), et]
      by_cases c3 : k + 1 + (m + 1 - m) ≤ t ∧ t < m + 1
      · rw [if_neg (by omega), if_pos c3, if_neg (by omega), if_pos (by omega)]
      · rw [if_neg (by omega), if_neg c3, if_neg (by omega), if_neg (by omega)]
theorem mid_cast (i j : Nat) : ((i : Int) + j) / 2 = (((i + j) / 2 : Nat) : Int) := by omega
theorem mid_wrap {i j : Nat} (hi : i ≤ 1000000) (hj : j ≤ 1000000) : IntKind.u64.wrap ((i : Int) + j) = (i : Int) + j := by rw [IntKind.wrap_u64]; omega
noncomputable abbrev symR (a b : Nat) (L σ : List Bd) : Prop := Mg a b L σ ∧ srtB σ a b
-- 
set_option maxHeartbeats 4000000 in
theorem symM_one (cmp : Bd → Bd → Int) (fc : CV) (hcm : ∀ W x y, AFunW Try.prog W fc [x.cw, y.cw] (.val (.i (cmp x y)))) (hv : ∀ x y, cmp x y < 0 ↔ x.v < y.v) (L : List Bd) (a m b : Nat) (ham : m = a + 1) (hmb : m < b) (hb : b ≤ L.length) (hl : L.length ≤ 1000000) (h2 : srtB L m b) : AFunE (Sg := List Bd) Try.prog 84 (rwB L) [.sl 400000 0 L.length 3, .val (.i a), .val (.i m), .val (.i b), .val fc] (symR a b L) (fun _ => .tup []) (fun σ => rwB σ) := by
  refine afunE_of Try.func84 Try.ntmps84 rfl rfl rfl rfl rfl (fun σ => rfl) ?_
  intro w U hU
  refine aS (aS (aR ?_))
  (refine nx (aM (gN rfl) rfl rfl rfl rfl rfl) rfl ?_)
  (refine nx (aM (gN rfl) rfl rfl rfl rfl rfl) rfl ?_)
  (refine nx (a_sub (gN rfl) rfl rfl rfl rfl rfl rfl (by first | omega | (simp only [List.length_map, List.length_append, List.length_cons, List.length_nil] <;> omega) | (simp <;> omega))) rfl ?_)
  (refine nx (a_eql (gN rfl) rfl rfl rfl rfl rfl rfl) rfl ?_)
  show AWp _ _ _ _ _ _ _
  refine aC rfl (fun _ => ?_) (fun hc => ?_)
  case refine_2 =>
    have hc := of_decide_eq_false hc
    omega
  refine aS (aR ?_)
  (refine nx (aM (gN rfl) rfl rfl rfl rfl rfl) rfl ?_)
  (refine nx (aA (gN rfl) rfl rfl rfl rfl rfl) rfl ?_)
  show AWp _ _ _ _ _ _ _
  refine aS (aR ?_)
  (refine nx (aM (gN rfl) rfl rfl rfl rfl rfl) rfl ?_)
  (refine nx (aA (gN rfl) rfl rfl rfl rfl rfl) rfl ?_)
  show AWp _ _ _ _ _ _ _
  obtain ⟨z, hz⟩ := bd_at (L := L) (t := a) (by omega)
  have hz' := Bd.map_at hz
  have hlm : (L.map Bd.cv).length = L.length := List.length_map ..
  obtain ⟨N, hN⟩ : ∃ N, N = L.length := ⟨_, rfl⟩
  rw [← hN] at hb hl ⊢
  obtain ⟨st, hst⟩ : ∃ st : Nat → Nat → AS, st = fun i j => (0, AV.sl 400000 0 N 3) :: (1, .val (.i a)) :: (4, .val fc) :: (10, .val (.i (i : Nat))) :: (11, .val (.i (j : Nat))) :: rwB L := ⟨_, rfl⟩
  refine aS (aB (awp_loop (fun k s => ∃ i j, k = j - i ∧ m ≤ i ∧ i ≤ j ∧ j ≤ b ∧ (∀ t x, m ≤ t → t < i → L[t]? = some x → x.v < z.v) ∧ (∀ t x, j ≤ t → t < b → L[t]? = some x → z.v ≤ x.v) ∧ s = st i j) (n := b - m) (s' := st m b) (by rw [hst, hN]; exact wk_sub ⟨rfl, rfl, rfl, rfl, rfl, rfl, trivial⟩) ⟨m, b, rfl, Nat.le_refl _, by omega, Nat.le_refl _, fun t x _ _ _ => by omega, fun t x _ _ _ => by omega, rfl⟩ ?_))
  rintro k s ⟨i, j, rfl, hmi, hij, hjb, hlo, hhi, rfl⟩
  rw [hst]
  refine aS (aS (aR ?_))
  (refine nx (aM (gN rfl) rfl rfl rfl rfl rfl) rfl ?_)
  (refine nx (aM (gN rfl) rfl rfl rfl rfl rfl) rfl ?_)
  (refine nx (a_lss (gN rfl) rfl rfl rfl rfl rfl rfl) rfl ?_)
  show AWp _ _ _ _ _ _ _
  refine aC rfl (fun hc => aK ?_) (fun hc => aE ?_)
  · have hlt : i < j := by have := of_decide_eq_true hc; omega
    show AWp _ _ _ _ _ _ _
    have hw := mid_wrap (i := i) (j := j) (by omega) (by omega)
    refine aB (aS (aR ?_))
    (refine nx (aM (gN rfl) rfl rfl rfl rfl rfl) rfl ?_)
    (refine nx (aM (gN rfl) rfl rfl rfl rfl rfl) rfl ?_)
    (refine nx (a_add (gN rfl) rfl rfl rfl rfl rfl rfl (by first | omega | (simp only [List.length_map, List.length_append, List.length_cons, List.length_nil] <;> omega) | (simp <;> omega))) rfl ?_)
    (refine nx (a_conv (gN rfl) rfl rfl rfl rfl rfl rfl rfl (by first | rfl | (rw [IntKind.wrap_i64]; omega) | assumption)) rfl ?_)
    (refine nx (a_shr (gN rfl) rfl rfl rfl rfl rfl rfl) rfl ?_)
    (refine nx (a_conv (gN rfl) rfl rfl rfl rfl rfl rfl rfl (by first | rfl | (rw [IntKind.wrap_i64]; omega) | assumption)) rfl ?_)
    (refine nx (aA (gN rfl) rfl rfl rfl rfl rfl) rfl ?_)
    show AWp _ _ _ _ _ _ _
    have hh : i ≤ (i + j) / 2 ∧ (i + j) / 2 < j := by omega
    have hcast := mid_cast i j
    obtain ⟨h, hhd⟩ : ∃ h, h = (i + j) / 2 := ⟨_, rfl⟩
    rw [← hhd] at hh hcast
    refine AWp.wk (wk_sub (s' := (0, AV.sl 400000 0 N 3) :: (1, .val (.i a)) :: (4, .val fc) :: (10, .val (.i (i : Nat))) :: (11, .val (.i (j : Nat))) :: (12, .val (.i (h : Nat))) :: rwB L) ⟨rfl, rfl, rfl, rfl, rfl, by rw [← hcast]; rfl, rfl, trivial⟩) ?_
    obtain ⟨x, hx⟩ := bd_at (L := L) (t := h) (by omega)
    have hx' := Bd.map_at hx
    refine aS (aD (by kernel_rfl) (by kernel_rfl) ?_)
    (refine nx (aM (gN rfl) rfl rfl rfl rfl rfl) rfl ?_)
    (refine nx (aM (gN rfl) rfl rfl rfl rfl rfl) rfl ?_)
    (refine nx (aM (gN rfl) rfl rfl rfl rfl rfl) rfl ?_)
    (refine nx (aIm (k := h) (gN rfl) rfl rfl rfl rfl rfl rfl rfl rfl rfl (by first | rfl | omega | (simp only [List.length_set, List.length_map, List.length_append, List.length_cons, List.length_nil] <;> omega) | (simp <;> omega))) rfl ?_)
    (refine nx (a_loadM (gN rfl) rfl rfl rfl rfl rfl rfl rfl rfl (hx') rfl (by first | rfl | omega | (simp only [List.length_set, List.length_map, List.length_append, List.length_cons, List.length_nil] <;> omega) | (simp <;> omega)) rfl rfl) rfl ?_)
    (refine nx (aM (gN rfl) rfl rfl rfl rfl rfl) rfl ?_)
    (refine nx (aM (gN rfl) rfl rfl rfl rfl rfl) rfl ?_)
    (refine nx (aIm (k := a) (gN rfl) rfl rfl rfl rfl rfl rfl rfl rfl rfl (by first | rfl | omega | (simp only [List.length_set, List.length_map, List.length_append, List.length_cons, List.length_nil] <;> omega) | (simp <;> omega))) rfl ?_)
    (refine nx (a_loadM (gN rfl) rfl rfl rfl rfl rfl rfl rfl rfl (hz') rfl (by first | rfl | omega | (simp only [List.length_set, List.length_map, List.length_append, List.length_cons, List.length_nil] <;> omega) | (simp <;> omega)) rfl rfl) rfl ?_)
    (refine nx (a_callw (gN rfl) rfl rfl rfl rfl rfl rfl (hcm _ x z)) rfl ?_)
    (refine nx (a_lss (gN rfl) rfl rfl rfl rfl rfl rfl) rfl ?_)
    refine ⟨by kernel_rfl, ?_⟩
    show AWp _ _ _ _ _ _ _
    refine aC rfl (fun c1 => ?_) (fun c1 => ?_)
    · have c2 := (hv x z).1 (of_decide_eq_true c1)
      refine aR ?_
      (refine nx (aM (gN rfl) rfl rfl rfl rfl rfl) rfl ?_)
      (refine nx (a_add (gN rfl) rfl rfl rfl rfl rfl rfl (by first | omega | (simp only [List.length_map, List.length_append, List.length_cons, List.length_nil] <;> omega) | (simp <;> omega))) rfl ?_)
      (refine nx (aA (gN rfl) rfl rfl rfl rfl rfl) rfl ?_)
      refine ⟨j - (h + 1), st (h + 1) j, by omega, ⟨h + 1, j, rfl, by omega, by omega, hjb, fun t y k1 k2 k3 => ?_, hhi, by rw [hst]⟩, by rw [hst]; exact wk_sub ⟨rfl, rfl, rfl, rfl, rfl, rfl, trivial⟩⟩
      by_cases ct : t = h
      · rw [ct, hx] at k3; cases k3; exact c2
      · exact Int.lt_of_le_of_lt (h2 t h y x k1 (by omega) (by omega) k3 hx) c2
    · have c2 : ¬ x.v < z.v := fun c => of_decide_eq_false c1 ((hv x z).2 c)
      refine aR ?_
      (refine nx (aM (gN rfl) rfl rfl rfl rfl rfl) rfl ?_)
      (refine nx (aA (gN rfl) rfl rfl rfl rfl rfl) rfl ?_)
      refine ⟨h - i, st i h, by omega, ⟨i, h, rfl, hmi, by omega, by omega, hlo, fun t y k1 k2 k3 => ?_, by rw [hst]⟩, by rw [hst]; exact wk_sub ⟨rfl, rfl, rfl, rfl, rfl, rfl, trivial⟩⟩
      by_cases ct : t = h
      · rw [ct, hx] at k3; cases k3; omega
      · have := h2 h t x y (by omega) (by omega) (by omega) hx k3
        omega
  · have hij' : i = j := by have := of_decide_eq_false hc; omega
    subst hij'
    show AWp _ _ _ _ _ _ _
    refine aS (aS (aR ?_))
    (refine nx (aM (gN rfl) rfl rfl rfl rfl rfl) rfl ?_)
    (refine nx (aA (gN rfl) rfl rfl rfl rfl rfl) rfl ?_)
    show AWp _ _ _ _ _ _ _
    obtain ⟨st2, hst2⟩ : ∃ st : Nat → List Bd → AS, st = fun k M => (0, AV.sl 400000 0 N 3) :: (10, .val (.i (i : Nat))) :: (13, .val (.i (k : Nat))) :: rwB M := ⟨_, rfl⟩
    refine aB (awp_loop (fun q s => ∃ k M, q = i - k ∧ a ≤ k ∧ k < i ∧ IsG M N (rtG a (a + 1) (k + 1) fun t => L[t]?) ∧ s = st2 k M) (n := i - a) (s' := st2 a L) (by rw [hst2]; exact wk_sub ⟨rfl, rfl, rfl, rfl, trivial⟩) ⟨a, L, rfl, Nat.le_refl _, by omega, by rw [hN]; exact rt_id (by omega) (by omega) (.inr rfl), rfl⟩ ?_)
    rintro q s ⟨k, M, rfl, hak, hki, hM, rfl⟩
    rw [hst2]
    refine aS (aS (aR ?_))
    (refine nx (aM (gN rfl) rfl rfl rfl rfl rfl) rfl ?_)
    (refine nx (aM (gN rfl) rfl rfl rfl rfl rfl) rfl ?_)
    (refine nx (a_sub (gN rfl) rfl rfl rfl rfl rfl rfl (by first | omega | (simp only [List.length_map, List.length_append, List.length_cons, List.length_nil] <;> omega) | (simp <;> omega))) rfl ?_)
    (refine nx (a_lss (gN rfl) rfl rfl rfl rfl rfl rfl) rfl ?_)
    show AWp _ _ _ _ _ _ _
    refine aC rfl (fun hc => aK ?_) (fun hc => aE ?_)
    · have hlt : k + 1 < i := by have := of_decide_eq_true hc; omega
      have hMl := hM.1
      obtain ⟨x, hx⟩ := bd_at (L := M) (t := k) (by omega)
      obtain ⟨y, hy⟩ := bd_at (L := M) (t := k + 1) (by omega)
      have hx' := Bd.map_at hx
      have hy' := Bd.map_at hy
      have hlm : (M.map Bd.cv).length = M.length := List.length_map ..
      have hy2 : ((M.map Bd.cv).set k y.cw)[k + 1]? = some y.cw := by rw [List.getElem?_set_ne (by omega)]; exact hy'
      show AWp _ _ _ _ _ _ _
      refine aS (aB (aD (by kernel_rfl) (by kernel_rfl) ?_))
      (refine nx (aM (gN rfl) rfl rfl rfl rfl rfl) rfl ?_)
      (refine nx (aM (gN rfl) rfl rfl rfl rfl rfl) rfl ?_)
      (refine nx (aM (gN rfl) rfl rfl rfl rfl rfl) rfl ?_)
      (refine nx (aM (gN rfl) rfl rfl rfl rfl rfl) rfl ?_)
      (refine nx (a_add (gN rfl) rfl rfl rfl rfl rfl rfl (by first | omega | (simp only [List.length_map, List.length_append, List.length_cons, List.length_nil] <;> omega) | (simp <;> omega))) rfl ?_)
      (refine nx (aM (gN rfl) rfl rfl rfl rfl rfl) rfl ?_)
      (refine nx (aM (gN rfl) rfl rfl rfl rfl rfl) rfl ?_)
      (refine nx (a_add (gN rfl) rfl rfl rfl rfl rfl rfl (by first | omega | (simp only [List.length_map, List.length_append, List.length_cons, List.length_nil] <;> omega) | (simp <;> omega))) rfl ?_)
      (refine nx (aIm (k := k + 1) (gN rfl) rfl rfl rfl rfl rfl rfl rfl rfl rfl (by first | rfl | omega | (simp only [List.length_set, List.length_map, List.length_append, List.length_cons, List.length_nil] <;> omega) | (simp <;> omega))) rfl ?_)
      (refine nx (a_loadM (gN rfl) rfl rfl rfl rfl rfl rfl rfl rfl (hy') rfl (by first | rfl | omega | (simp only [List.length_set, List.length_map, List.length_append, List.length_cons, List.length_nil] <;> omega) | (simp <;> omega)) rfl rfl) rfl ?_)
      (refine nx (aM (gN rfl) rfl rfl rfl rfl rfl) rfl ?_)
      (refine nx (aM (gN rfl) rfl rfl rfl rfl rfl) rfl ?_)
      (refine nx (aIm (k := k) (gN rfl) rfl rfl rfl rfl rfl rfl rfl rfl rfl (by first | rfl | omega | (simp only [List.length_set, List.length_map, List.length_append, List.length_cons, List.length_nil] <;> omega) | (simp <;> omega))) rfl ?_)
      (refine nx (a_loadM (gN rfl) rfl rfl rfl rfl rfl rfl rfl rfl (hx') rfl (by first | rfl | omega | (simp only [List.length_set, List.length_map, List.length_append, List.length_cons, List.length_nil] <;> omega) | (simp <;> omega)) rfl rfl) rfl ?_)
      (refine nx (aIm (k := k) (gN rfl) rfl rfl rfl rfl rfl rfl rfl rfl rfl (by first | rfl | omega | (simp only [List.length_set, List.length_map, List.length_append, List.length_cons, List.length_nil] <;> omega) | (simp <;> omega))) rfl ?_)
      (refine nx (a_storeM (gN rfl) rfl rfl rfl rfl rfl rfl (hx') rfl rfl (by first | rfl | omega | (simp only [List.length_set, List.length_map, List.length_append, List.length_cons, List.length_nil] <;> omega) | (simp <;> omega)) rfl) rfl ?_)
      (refine nx (aIm (k := k + 1) (gN rfl) rfl rfl rfl rfl rfl rfl rfl rfl rfl (by first | rfl | omega | (simp only [List.length_set, List.length_map, List.length_append, List.length_cons, List.length_nil] <;> omega) | (simp <;> omega))) rfl ?_)
      (refine nx (a_storeM (gN rfl) rfl rfl rfl rfl rfl rfl (hy2) rfl rfl (by first | rfl | omega | (simp only [List.length_set, List.length_map, List.length_append, List.length_cons, List.length_nil] <;> omega) | (simp <;> omega)) rfl) rfl ?_)
      refine ⟨by kernel_rfl, ?_⟩
      show AWp _ _ _ _ _ _ _
      refine aR ?_
      (refine nx (aM (gN rfl) rfl rfl rfl rfl rfl) rfl ?_)
      (refine nx (a_add (gN rfl) rfl rfl rfl rfl rfl rfl (by first | omega | (simp only [List.length_map, List.length_append, List.length_cons, List.length_nil] <;> omega) | (simp <;> omega))) rfl ?_)
      (refine nx (aA (gN rfl) rfl rfl rfl rfl rfl) rfl ?_)
      refine ⟨i - (k + 1), st2 (k + 1) ((M.set k y).set (k + 1) x), by omega, ⟨k + 1, (M.set k y).set (k + 1) x, rfl, by omega, hlt, ?_, by rw [hst2]⟩, ?_⟩
      · rw [hN] at hM ⊢
        exact rt_up hak (by omega) hM hx hy
      · rw [hst2]
        refine wk_sub ⟨rfl, rfl, rfl, ?_, trivial⟩
        rw [← set_map_cv, ← set_map_cv]; rfl
    · have hge : k + 1 = i := by have := of_decide_eq_false hc; omega
      show AWp _ _ _ _ _ _ _
      rw [hge, hN] at hM
      refine aT ⟨.inr rfl, M, ⟨(Mg.rt (by omega) (by omega) (by omega) hM).mono (Nat.le_refl _) hjb, ?_⟩, _, Wk.refl _, rfl, rfl, trivial⟩
      have hf := turn_facts (a := a) (b := b) (mid := i - 1) (Nat.le_refl a) (by omega) (by omega) hjb (by omega) (by omega) (fun i j x y k1 k2 k3 _ _ => by omega) (by rw [← ham]; exact h2) (fun i j x y k1 k2 _ _ _ _ => by omega) (fun t u x y k1 k2 k3 k4 k5 k6 => by
        rw [show u = a by omega, hz] at k6; cases k6
        have := hlo t x (by omega) (by omega) k5
        omega) hM
      refine hf.2.1.glue ((hf.2.2.1).glue hf.2.2.2.1 fun t u x y k1 k2 k3 k4 k5 k6 => ?_) hf.2.2.2.2
      have e1 : M[t]? = some z := by
        rw [hM.2, ← hz]; unfold rtG; rw [if_neg (by omega), if_pos (by omega)]; congr 1; omega
      rw [e1] at k5; cases k5
      have e2 : M[u]? = L[u]? := by rw [hM.2]; unfold rtG; rw [if_neg (by omega), if_neg (by omega)]
      rw [e2] at k6
      exact hhi u y k3 k4 k6
-- 
set_option maxHeartbeats 4000000 in
theorem symM_last (cmp : Bd → Bd → Int) (fc : CV) (hcm : ∀ W x y, AFunW Try.prog W fc [x.cw, y.cw] (.val (.i (cmp x y)))) (hv : ∀ x y, cmp x y < 0 ↔ x.v < y.v) (L : List Bd) (a m b : Nat) (ham : a + 1 < m) (hmb : b = m + 1) (hb : b ≤ L.length) (hl : L.length ≤ 1000000) (h1 : srtB L a m) : AFunE (Sg := List Bd) Try.prog 84 (rwB L) [.sl 400000 0 L.length 3, .val (.i a), .val (.i m), .val (.i b), .val fc] (symR a b L) (fun _ => .tup []) (fun σ => rwB σ) := by
  refine afunE_of Try.func84 Try.ntmps84 rfl rfl rfl rfl rfl (fun σ => rfl) ?_
  intro w U hU
  refine aS (aS (aR ?_))
  (refine nx (aM (gN rfl) rfl rfl rfl rfl rfl) rfl ?_)
  (refine nx (aM (gN rfl) rfl rfl rfl rfl rfl) rfl ?_)
  (refine nx (a_sub (gN rfl) rfl rfl rfl rfl rfl rfl (by first | omega | (simp only [List.length_map, List.length_append, List.length_cons, List.length_nil] <;> omega) | (simp <;> omega))) rfl ?_)
  (refine nx (a_eql (gN rfl) rfl rfl rfl rfl rfl rfl) rfl ?_)
  show AWp _ _ _ _ _ _ _
  refine aC rfl (fun hc => ?_) (fun _ => aK ?_)
  case refine_1 =>
    have hc := of_decide_eq_true hc
    omega
  show AWp _ _ _ _ _ _ _
  refine aS (aS (aR ?_))
  (refine nx (aM (gN rfl) rfl rfl rfl rfl rfl) rfl ?_)
  (refine nx (aM (gN rfl) rfl rfl rfl rfl rfl) rfl ?_)
  (refine nx (a_sub (gN rfl) rfl rfl rfl rfl rfl rfl (by first | omega | (simp only [List.length_map, List.length_append, List.length_cons, List.length_nil] <;> omega) | (simp <;> omega))) rfl ?_)
  (refine nx (a_eql (gN rfl) rfl rfl rfl rfl rfl rfl) rfl ?_)
  show AWp _ _ _ _ _ _ _
  refine aC rfl (fun _ => ?_) (fun hc => ?_)
  case refine_2 =>
    have hc := of_decide_eq_false hc
    omega
  refine aS (aR ?_)
  (refine nx (aM (gN rfl) rfl rfl rfl rfl rfl) rfl ?_)
  (refine nx (aA (gN rfl) rfl rfl rfl rfl rfl) rfl ?_)
  show AWp _ _ _ _ _ _ _
  refine aS (aR ?_)
  (refine nx (aM (gN rfl) rfl rfl rfl rfl rfl) rfl ?_)
  (refine nx (aA (gN rfl) rfl rfl rfl rfl rfl) rfl ?_)
  show AWp _ _ _ _ _ _ _
  obtain ⟨z, hz⟩ := bd_at (L := L) (t := m) (by omega)
  have hz' := Bd.map_at hz
  have hlm : (L.map Bd.cv).length = L.length := List.length_map ..
  obtain ⟨N, hN⟩ : ∃ N, N = L.length := ⟨_, rfl⟩
  rw [← hN] at hb hl ⊢
  obtain ⟨st, hst⟩ : ∃ st : Nat → Nat → AS, st = fun i j => (0, AV.sl 400000 0 N 3) :: (2, .val (.i m)) :: (4, .val fc) :: (14, .val (.i (i : Nat))) :: (15, .val (.i (j : Nat))) :: rwB L := ⟨_, rfl⟩
  refine aS (aB (awp_loop (fun k s => ∃ i j, k = j - i ∧ a ≤ i ∧ i ≤ j ∧ j ≤ m ∧ (∀ t x, a ≤ t → t < i → L[t]? = some x → x.v ≤ z.v) ∧ (∀ t x, j ≤ t → t < m → L[t]? = some x → z.v < x.v) ∧ s = st i j) (n := m - a) (s' := st a m) (by rw [hst, hN]; exact wk_sub ⟨rfl, rfl, rfl, rfl, rfl, rfl, trivial⟩) ⟨a, m, rfl, Nat.le_refl _, by omega, Nat.le_refl _, fun t x _ _ _ => by omega, fun t x _ _ _ => by omega, rfl⟩ ?_))
  rintro k s ⟨i, j, rfl, hmi, hij, hjb, hlo, hhi, rfl⟩
  rw [hst]
  refine aS (aS (aR ?_))
  (refine nx (aM (gN rfl) rfl rfl rfl rfl rfl) rfl ?_)
  (refine nx (aM (gN rfl) rfl rfl rfl rfl rfl) rfl ?_)
  (refine nx (a_lss (gN rfl) rfl rfl rfl rfl rfl rfl) rfl ?_)
  show AWp _ _ _ _ _ _ _
  refine aC rfl (fun hc => aK ?_) (fun hc => aE ?_)
  · have hlt : i < j := by have := of_decide_eq_true hc; omega
    show AWp _ _ _ _ _ _ _
    have hw := mid_wrap (i := i) (j := j) (by omega) (by omega)
    refine aB (aS (aR ?_))
    (refine nx (aM (gN rfl) rfl rfl rfl rfl rfl) rfl ?_)
    (refine nx (aM (gN rfl) rfl rfl rfl rfl rfl) rfl ?_)
    (refine nx (a_add (gN rfl) rfl rfl rfl rfl rfl rfl (by first | omega | (simp only [List.length_map, List.length_append, List.length_cons, List.length_nil] <;> omega) | (simp <;> omega))) rfl ?_)
    (refine nx (a_conv (gN rfl) rfl rfl rfl rfl rfl rfl rfl (by first | rfl | (rw [IntKind.wrap_i64]; omega) | assumption)) rfl ?_)
    (refine nx (a_shr (gN rfl) rfl rfl rfl rfl rfl rfl) rfl ?_)
    (refine nx (a_conv (gN rfl) rfl rfl rfl rfl rfl rfl rfl (by first | rfl | (rw [IntKind.wrap_i64]; omega) | assumption)) rfl ?_)
    (refine nx (aA (gN rfl) rfl rfl rfl rfl rfl) rfl ?_)
    show AWp _ _ _ _ _ _ _
    have hh : i ≤ (i + j) / 2 ∧ (i + j) / 2 < j := by omega
    have hcast := mid_cast i j
    obtain ⟨h, hhd⟩ : ∃ h, h = (i + j) / 2 := ⟨_, rfl⟩
    rw [← hhd] at hh hcast
    refine AWp.wk (wk_sub (s' := (0, AV.sl 400000 0 N 3) :: (2, .val (.i m)) :: (4, .val fc) :: (14, .val (.i (i : Nat))) :: (15, .val (.i (j : Nat))) :: (16, .val (.i (h : Nat))) :: rwB L) ⟨rfl, rfl, rfl, rfl, rfl, by rw [← hcast]; rfl, rfl, trivial⟩) ?_
    obtain ⟨x, hx⟩ := bd_at (L := L) (t := h) (by omega)
    have hx' := Bd.map_at hx
    refine aS (aD (by kernel_rfl) (by kernel_rfl) ?_)
    (refine nx (aM (gN rfl) rfl rfl rfl rfl rfl) rfl ?_)
    (refine nx (aM (gN rfl) rfl rfl rfl rfl rfl) rfl ?_)
    (refine nx (aM (gN rfl) rfl rfl rfl rfl rfl) rfl ?_)
    (refine nx (aIm (k := m) (gN rfl) rfl rfl rfl rfl rfl rfl rfl rfl rfl (by first | rfl | omega | (simp only [List.length_set, List.length_map, List.length_append, List.length_cons, List.length_nil] <;> omega) | (simp <;> omega))) rfl ?_)
    (refine nx (a_loadM (gN rfl) rfl rfl rfl rfl rfl rfl rfl rfl (hz') rfl (by first | rfl | omega | (simp only [List.length_set, List.length_map, List.length_append, List.length_cons, List.length_nil] <;> omega) | (simp <;> omega)) rfl rfl) rfl ?_)
    (refine nx (aM (gN rfl) rfl rfl rfl rfl rfl) rfl ?_)
    (refine nx (aM (gN rfl) rfl rfl rfl rfl rfl) rfl ?_)
    (refine nx (aIm (k := h) (gN rfl) rfl rfl rfl rfl rfl rfl rfl rfl rfl (by first | rfl | omega | (simp only [List.length_set, List.length_map, List.length_append, List.length_cons, List.length_nil] <;> omega) | (simp <;> omega))) rfl ?_)
    (refine nx (a_loadM (gN rfl) rfl rfl rfl rfl rfl rfl rfl rfl (hx') rfl (by first | rfl | omega | (simp only [List.length_set, List.length_map, List.length_append, List.length_cons, List.length_nil] <;> omega) | (simp <;> omega)) rfl rfl) rfl ?_)
    (refine nx (a_callw (gN rfl) rfl rfl rfl rfl rfl rfl (hcm _ z x)) rfl ?_)
    (refine nx (a_lss (gN rfl) rfl rfl rfl rfl rfl rfl) rfl ?_)
    (refine nx (a_not (gN rfl) rfl rfl rfl rfl rfl) rfl ?_)
    refine ⟨by kernel_rfl, ?_⟩
    show AWp _ _ _ _ _ _ _
    refine aC rfl (fun c1 => ?_) (fun c1 => ?_)
    · have c2 : ¬ z.v < x.v := fun c => by
        have := (hv z x).2 c
        simp [this] at c1
      refine aR ?_
      (refine nx (aM (gN rfl) rfl rfl rfl rfl rfl) rfl ?_)
      (refine nx (a_add (gN rfl) rfl rfl rfl rfl rfl rfl (by first | omega | (simp only [List.length_map, List.length_append, List.length_cons, List.length_nil] <;> omega) | (simp <;> omega))) rfl ?_)
      (refine nx (aA (gN rfl) rfl rfl rfl rfl rfl) rfl ?_)
      refine ⟨j - (h + 1), st (h + 1) j, by omega, ⟨h + 1, j, rfl, by omega, by omega, hjb, fun t y k1 k2 k3 => ?_, hhi, by rw [hst]⟩, by rw [hst]; exact wk_sub ⟨rfl, rfl, rfl, rfl, rfl, rfl, trivial⟩⟩
      by_cases ct : t = h
      · rw [ct, hx] at k3; cases k3; omega
      · have := h1 t h y x k1 (by omega) (by omega) k3 hx
        omega
    · have c2 : z.v < x.v := (hv z x).1 (by simpa using c1)
      refine aR ?_
      (refine nx (aM (gN rfl) rfl rfl rfl rfl rfl) rfl ?_)
      (refine nx (aA (gN rfl) rfl rfl rfl rfl rfl) rfl ?_)
      refine ⟨h - i, st i h, by omega, ⟨i, h, rfl, hmi, by omega, by omega, hlo, fun t y k1 k2 k3 => ?_, by rw [hst]⟩, by rw [hst]; exact wk_sub ⟨rfl, rfl, rfl, rfl, rfl, rfl, trivial⟩⟩
      by_cases ct : t = h
      · rw [ct, hx] at k3; cases k3; omega
      · have := h1 h t x y (by omega) (by omega) (by omega) hx k3
        omega
  · have hij' : i = j := by have := of_decide_eq_false hc; omega
    subst hij'
    show AWp _ _ _ _ _ _ _
    refine aS (aS (aR ?_))
    (refine nx (aM (gN rfl) rfl rfl rfl rfl rfl) rfl ?_)
    (refine nx (aA (gN rfl) rfl rfl rfl rfl rfl) rfl ?_)
    show AWp _ _ _ _ _ _ _
    obtain ⟨st2, hst2⟩ : ∃ st : Nat → List Bd → AS, st = fun k M => (0, AV.sl 400000 0 N 3) :: (14, .val (.i (i : Nat))) :: (17, .val (.i (k : Nat))) :: rwB M := ⟨_, rfl⟩
    refine aB (awp_loop (fun q s => ∃ k M, q = k ∧ i ≤ k ∧ k ≤ m ∧ IsG M N (rtG k m (m + 1) fun t => L[t]?) ∧ s = st2 k M) (n := m) (s' := st2 m L) (by rw [hst2]; exact wk_sub ⟨rfl, rfl, rfl, rfl, trivial⟩) ⟨m, L, rfl, by omega, Nat.le_refl _, by rw [hN]; exact rt_id (by omega) (by omega) (.inl rfl), rfl⟩ ?_)
    rintro q s ⟨k, M, hqk, hik, hkm, hM, rfl⟩
    rw [hst2]
    refine aS (aS (aR ?_))
    (refine nx (aM (gN rfl) rfl rfl rfl rfl rfl) rfl ?_)
    (refine nx (aM (gN rfl) rfl rfl rfl rfl rfl) rfl ?_)
    (refine nx (a_gtr (gN rfl) rfl rfl rfl rfl rfl rfl) rfl ?_)
    show AWp _ _ _ _ _ _ _
    refine aC rfl (fun hc => aK ?_) (fun hc => aE ?_)
    · have hlt : i < k := by have := of_decide_eq_true hc; omega
      obtain ⟨k, rfl⟩ : ∃ k', k = k' + 1 := ⟨k - 1, by omega⟩
      have hMl := hM.1
      obtain ⟨x, hx⟩ := bd_at (L := M) (t := k + 1) (by omega)
      obtain ⟨y, hy⟩ := bd_at (L := M) (t := k) (by omega)
      have hx' := Bd.map_at hx
      have hy' := Bd.map_at hy
      have hlm : (M.map Bd.cv).length = M.length := List.length_map ..
      have hy2 : ((M.map Bd.cv).set (k + 1) y.cw)[k]? = some y.cw := by rw [List.getElem?_set_ne (by omega)]; exact hy'
      show AWp _ _ _ _ _ _ _
      refine aS (aB (aD (by kernel_rfl) (by kernel_rfl) ?_))
      (refine nx (aM (gN rfl) rfl rfl rfl rfl rfl) rfl ?_)
      (refine nx (aM (gN rfl) rfl rfl rfl rfl rfl) rfl ?_)
      (refine nx (aM (gN rfl) rfl rfl rfl rfl rfl) rfl ?_)
      (refine nx (aM (gN rfl) rfl rfl rfl rfl rfl) rfl ?_)
      (refine nx (a_sub (gN rfl) rfl rfl rfl rfl rfl rfl (by first | omega | (simp only [List.length_map, List.length_append, List.length_cons, List.length_nil] <;> omega) | (simp <;> omega))) rfl ?_)
      (refine nx (aM (gN rfl) rfl rfl rfl rfl rfl) rfl ?_)
      (refine nx (aM (gN rfl) rfl rfl rfl rfl rfl) rfl ?_)
      (refine nx (a_sub (gN rfl) rfl rfl rfl rfl rfl rfl (by first | omega | (simp only [List.length_map, List.length_append, List.length_cons, List.length_nil] <;> omega) | (simp <;> omega))) rfl ?_)
      (refine nx (aIm (k := k) (gN rfl) rfl rfl rfl rfl rfl rfl rfl rfl rfl (by first | rfl | omega | (simp only [List.length_set, List.length_map, List.length_append, List.length_cons, List.length_nil] <;> omega) | (simp <;> omega))) rfl ?_)
      (refine nx (a_loadM (gN rfl) rfl rfl rfl rfl rfl rfl rfl rfl (hy') rfl (by first | rfl | omega | (simp only [List.length_set, List.length_map, List.length_append, List.length_cons, List.length_nil] <;> omega) | (simp <;> omega)) rfl rfl) rfl ?_)
      (refine nx (aM (gN rfl) rfl rfl rfl rfl rfl) rfl ?_)
      (refine nx (aM (gN rfl) rfl rfl rfl rfl rfl) rfl ?_)
      (refine nx (aIm (k := k + 1) (gN rfl) rfl rfl rfl rfl rfl rfl rfl rfl rfl (by first | rfl | omega | (simp only [List.length_set, List.length_map, List.length_append, List.length_cons, List.length_nil] <;> omega) | (simp <;> omega))) rfl ?_)
      (refine nx (a_loadM (gN rfl) rfl rfl rfl rfl rfl rfl rfl rfl (hx') rfl (by first | rfl | omega | (simp only [List.length_set, List.length_map, List.length_append, List.length_cons, List.length_nil] <;> omega) | (simp <;> omega)) rfl rfl) rfl ?_)
      (refine nx (aIm (k := k + 1) (gN rfl) rfl rfl rfl rfl rfl rfl rfl rfl rfl (by first | rfl | omega | (simp only [List.length_set, List.length_map, List.length_append, List.length_cons, List.length_nil] <;> omega) | (simp <;> omega))) rfl ?_)
      (refine nx (a_storeM (gN rfl) rfl rfl rfl rfl rfl rfl (hx') rfl rfl (by first | rfl | omega | (simp only [List.length_set, List.length_map, List.length_append, List.length_cons, List.length_nil] <;> omega) | (simp <;> omega)) rfl) rfl ?_)
      (refine nx (aIm (k := k) (gN rfl) rfl rfl rfl rfl rfl rfl rfl rfl rfl (by first | rfl | omega | (simp only [List.length_set, List.length_map, List.length_append, List.length_cons, List.length_nil] <;> omega) | (simp <;> omega))) rfl ?_)
      (refine nx (a_storeM (gN rfl) rfl rfl rfl rfl rfl rfl (hy2) rfl rfl (by first | rfl | omega | (simp only [List.length_set, List.length_map, List.length_append, List.length_cons, List.length_nil] <;> omega) | (simp <;> omega)) rfl) rfl ?_)
      refine ⟨by kernel_rfl, ?_⟩
      show AWp _ _ _ _ _ _ _
      refine aR ?_
      (refine nx (aM (gN rfl) rfl rfl rfl rfl rfl) rfl ?_)
      (refine nx (a_sub (gN rfl) rfl rfl rfl rfl rfl rfl (by first | omega | (simp only [List.length_map, List.length_append, List.length_cons, List.length_nil] <;> omega) | (simp <;> omega))) rfl ?_)
      (refine nx (aA (gN rfl) rfl rfl rfl rfl rfl) rfl ?_)
      refine ⟨k, st2 k ((M.set (k + 1) y).set k x), by omega, ⟨k, (M.set (k + 1) y).set k x, rfl, by omega, by omega, ?_, by rw [hst2]⟩, ?_⟩
      · rw [hN] at hM ⊢
        exact rt_dn hkm (by omega) hM hx hy
      · rw [hst2]
        refine wk_sub ⟨rfl, rfl, ?_, ?_, trivial⟩
        · show some (AV.val (.i _)) = some (AV.val (.i _))
          congr 3; omega
        · rw [← set_map_cv, ← set_map_cv]; rfl
    · have hge : k = i := by have := of_decide_eq_false hc; omega
      show AWp _ _ _ _ _ _ _
      rw [hge, hN] at hM
      refine aT ⟨.inr rfl, M, ⟨(Mg.rt (by omega) (by omega) (by omega) hM).mono hmi (by omega), ?_⟩, _, Wk.refl _, rfl, rfl, trivial⟩
      have hf := turn_facts (a := a) (b := b) (mid := i + 1) hmi (by omega) (by omega) (by omega) (by omega) (by omega) h1 (fun i j x y k1 k2 k3 _ _ => by omega) (fun i j x y k1 k2 _ _ _ _ => by omega) (fun t u x y k1 k2 k3 k4 k5 k6 => by
        rw [show t = m by omega, hz] at k5; cases k5
        have := hhi u y (by omega) (by omega) k6
        omega) hM
      refine srtB.glue (m := i + 1) ((hf.1).glue hf.2.1 fun t u x y k1 k2 k3 k4 k5 k6 => ?_) (by rw [hmb]; exact hf.2.2.1) hf.2.2.2.2
      have e1 : M[u]? = some z := by
        rw [hM.2, ← hz]; unfold rtG; rw [if_pos (by omega)]; congr 1; omega
      rw [e1] at k6; cases k6
      have e2 : M[t]? = L[t]? := by rw [hM.2]; unfold rtG; rw [if_neg (by omega), if_neg (by omega)]
      rw [e2] at k5
      exact hlo t x k1 k2 k5
-- 
set_option maxHeartbeats 4000000 in
theorem symM_abs (cmp : Bd → Bd → Int) (fc : CV) (hcm : ∀ W x y, AFunW Try.prog W fc [x.cw, y.cw] (.val (.i (cmp x y)))) (hv : ∀ x y, cmp x y < 0 ↔ x.v < y.v) : ∀ (d : Nat) (L : List Bd) (a m b : Nat), b - a ≤ d → a < m → m < b → b ≤ L.length → L.length ≤ 1000000 → srtB L a m → srtB L m b → AFunE (Sg := List Bd) Try.prog 84 (rwB L) [.sl 400000 0 L.length 3, .val (.i a), .val (.i m), .val (.i b), .val fc] (symR a b L) (fun _ => .tup []) (fun σ => rwB σ) := by
  intro d
  induction d with
  | zero => intro L a m b hd ham hmb; omega
  | succ d ih =>
  intro L a m b hd ham hmb hb hl h1 h2
  by_cases q1 : m = a + 1
  · exact symM_one cmp fc hcm hv L a m b q1 hmb hb hl h2
  by_cases q2 : b = m + 1
  · exact symM_last cmp fc hcm hv L a m b (by omega) q2 hb hl h1
  refine afunE_of Try.func84 Try.ntmps84 rfl rfl rfl rfl rfl (fun σ => rfl) ?_
  intro w U hU
  refine aS (aS (aR ?_))
  (refine nx (aM (gN rfl) rfl rfl rfl rfl rfl) rfl ?_)
  (refine nx (aM (gN rfl) rfl rfl rfl rfl rfl) rfl ?_)
  (refine nx (a_sub (gN rfl) rfl rfl rfl rfl rfl rfl (by first | omega | (simp only [List.length_map, List.length_append, List.length_cons, List.length_nil] <;> omega) | (simp <;> omega))) rfl ?_)
  (refine nx (a_eql (gN rfl) rfl rfl rfl rfl rfl rfl) rfl ?_)
  show AWp _ _ _ _ _ _ _
  refine aC rfl (fun hc => ?_) (fun _ => aK ?_)
  case refine_1 =>
    have hc := of_decide_eq_true hc
    omega
  show AWp _ _ _ _ _ _ _
  refine aS (aS (aR ?_))
  (refine nx (aM (gN rfl) rfl rfl rfl rfl rfl) rfl ?_)
  (refine nx (aM (gN rfl) rfl rfl rfl rfl rfl) rfl ?_)
  (refine nx (a_sub (gN rfl) rfl rfl rfl rfl rfl rfl (by first | omega | (simp only [List.length_map, List.length_append, List.length_cons, List.length_nil] <;> omega) | (simp <;> omega))) rfl ?_)
  (refine nx (a_eql (gN rfl) rfl rfl rfl rfl rfl rfl) rfl ?_)
  show AWp _ _ _ _ _ _ _
  refine aC rfl (fun hc => ?_) (fun _ => aK ?_)
  case refine_1 =>
    have hc := of_decide_eq_true hc
    omega
  show AWp _ _ _ _ _ _ _
  have hw := mid_wrap (i := a) (j := b) (by omega) (by omega)
  refine aS (aR ?_)
  (refine nx (aM (gN rfl) rfl rfl rfl rfl rfl) rfl ?_)
  (refine nx (aM (gN rfl) rfl rfl rfl rfl rfl) rfl ?_)
  (refine nx (a_add (gN rfl) rfl rfl rfl rfl rfl rfl (by first | omega | (simp only [List.length_map, List.length_append, List.length_cons, List.length_nil] <;> omega) | (simp <;> omega))) rfl ?_)
  (refine nx (a_conv (gN rfl) rfl rfl rfl rfl rfl rfl rfl (by first | rfl | (rw [IntKind.wrap_i64]; omega) | assumption)) rfl ?_)
  (refine nx (a_shr (gN rfl) rfl rfl rfl rfl rfl rfl) rfl ?_)
  (refine nx (a_conv (gN rfl) rfl rfl rfl rfl rfl rfl rfl (by first | rfl | (rw [IntKind.wrap_i64]; omega) | assumption)) rfl ?_)
  (refine nx (aA (gN rfl) rfl rfl rfl rfl rfl) rfl ?_)
  show AWp _ _ _ _ _ _ _
  have hcast := mid_cast a b
  obtain ⟨mid, hmid⟩ : ∃ mid, mid = (a + b) / 2 := ⟨_, rfl⟩
  have hm2 : mid + mid ≤ a + b ∧ a + b ≤ mid + mid + 1 := by omega
  rw [← hmid] at hcast
  obtain ⟨N, hN⟩ : ∃ N, N = L.length := ⟨_, rfl⟩
  rw [← hN] at hb hl ⊢
  refine AWp.wk (wk_sub (s' := (0, AV.sl 400000 0 N 3) :: (1, .val (.i a)) :: (2, .val (.i m)) :: (3, .val (.i b)) :: (4, .val fc) :: (18, .val (.i (mid : Nat))) :: rwB L) ⟨by rw [hN]; rfl, rfl, rfl, rfl, rfl, by rw [← hcast]; rfl, rfl, trivial⟩) ?_
  refine aS (aR ?_)
  (refine nx (aM (gN rfl) rfl rfl rfl rfl rfl) rfl ?_)
  (refine nx (aM (gN rfl) rfl rfl rfl rfl rfl) rfl ?_)
  (refine nx (a_add (gN rfl) rfl rfl rfl rfl rfl rfl (by first | omega | (simp only [List.length_map, List.length_append, List.length_cons, List.length_nil] <;> omega) | (simp <;> omega))) rfl ?_)
  (refine nx (aA (gN rfl) rfl rfl rfl rfl rfl) rfl ?_)
  show AWp _ _ _ _ _ _ _
  refine aS (aR ?_)
  (refine nx (aA (gN rfl) rfl rfl rfl rfl rfl) rfl ?_)
  (refine nx (aA (gN rfl) rfl rfl rfl rfl rfl) rfl ?_)
  show AWp _ _ _ _ _ _ _
  obtain ⟨n, hn⟩ : ∃ n, n = mid + m := ⟨_, rfl⟩
  obtain ⟨s0, r0, h0⟩ : ∃ s0 r0, (m > mid ∧ s0 = n - b ∧ r0 = mid) ∨ (m ≤ mid ∧ s0 = a ∧ r0 = m) := by
    rcases Nat.lt_or_ge mid m with c | c
    · exact ⟨_, _, .inl ⟨c, rfl, rfl⟩⟩
    · exact ⟨_, _, .inr ⟨c, rfl, rfl⟩⟩
  refine awp_mid ((0, AV.sl 400000 0 N 3) :: (1, .val (.i a)) :: (2, .val (.i m)) :: (3, .val (.i b)) :: (4, .val fc) :: (18, .val (.i (mid : Nat))) :: (19, .val (.i (n : Nat))) :: (20, .val (.i (s0 : Nat))) :: (21, .val (.i (r0 : Nat))) :: rwB L) ?_ ?_
  · refine aS (aR ?_)
    (refine nx (aM (gN rfl) rfl rfl rfl rfl rfl) rfl ?_)
    (refine nx (aM (gN rfl) rfl rfl rfl rfl rfl) rfl ?_)
    (refine nx (a_gtr (gN rfl) rfl rfl rfl rfl rfl rfl) rfl ?_)
    show AWp _ _ _ _ _ _ _
    rcases h0 with ⟨c, e1, e2⟩ | ⟨c, e1, e2⟩
    · refine aC rfl (fun _ => ?_) (fun hc => ?_)
      case refine_2 =>
        have hc := of_decide_eq_false hc
        omega
      refine aS (aR ?_)
      (refine nx (aM (gN rfl) rfl rfl rfl rfl rfl) rfl ?_)
      (refine nx (aM (gN rfl) rfl rfl rfl rfl rfl) rfl ?_)
      (refine nx (a_sub (gN rfl) rfl rfl rfl rfl rfl rfl (by first | omega | (simp only [List.length_map, List.length_append, List.length_cons, List.length_nil] <;> omega) | (simp <;> omega))) rfl ?_)
      (refine nx (aA (gN rfl) rfl rfl rfl rfl rfl) rfl ?_)
      show AWp _ _ _ _ _ _ _
      refine aR ?_
      (refine nx (aM (gN rfl) rfl rfl rfl rfl rfl) rfl ?_)
      (refine nx (aA (gN rfl) rfl rfl rfl rfl rfl) rfl ?_)
      refine wk_sub ⟨rfl, rfl, rfl, rfl, rfl, rfl, ?_, ?_, ?_, rfl, trivial⟩
      · rw [show ((n : Nat) : Int) = (mid : Int) + m by omega]; rfl
      · rw [show ((s0 : Nat) : Int) = (mid : Int) + m - b by omega]; rfl
      · rw [e2]; rfl
    · refine aC rfl (fun hc => ?_) (fun _ => ?_)
      case refine_1 =>
        have hc := of_decide_eq_true hc
        omega
      refine aS (aR ?_)
      (refine nx (aM (gN rfl) rfl rfl rfl rfl rfl) rfl ?_)
      (refine nx (aA (gN rfl) rfl rfl rfl rfl rfl) rfl ?_)
      show AWp _ _ _ _ _ _ _
      refine aR ?_
      (refine nx (aM (gN rfl) rfl rfl rfl rfl rfl) rfl ?_)
      (refine nx (aA (gN rfl) rfl rfl rfl rfl rfl) rfl ?_)
      refine wk_sub ⟨rfl, rfl, rfl, rfl, rfl, rfl, ?_, ?_, ?_, rfl, trivial⟩
      · rw [show ((n : Nat) : Int) = (mid : Int) + m by omega]; rfl
      · rw [e1]; rfl
      · rw [e2]; rfl
  refine aS (aR ?_)
  (refine nx (aM (gN rfl) rfl rfl rfl rfl rfl) rfl ?_)
  (refine nx (a_sub (gN rfl) rfl rfl rfl rfl rfl rfl (by first | omega | (simp only [List.length_map, List.length_append, List.length_cons, List.length_nil] <;> omega) | (simp <;> omega))) rfl ?_)
  (refine nx (aA (gN rfl) rfl rfl rfl rfl rfl) rfl ?_)
  show AWp _ _ _ _ _ _ _
  have hidx : ∀ c, s0 ≤ c → c < r0 → a ≤ c ∧ c < m ∧ m ≤ n - 1 - c ∧ n - 1 - c < b ∧ c ≤ n - 1 := fun c k1 k2 => by omega
  have hsr : s0 ≤ r0 ∧ r0 ≤ m := by omega
  have hlm : (L.map Bd.cv).length = L.length := List.length_map ..
  obtain ⟨st, hst⟩ : ∃ st : Nat → Nat → AS, st = fun i j => (0, AV.sl 400000 0 N 3) :: (1, .val (.i a)) :: (2, .val (.i m)) :: (3, .val (.i b)) :: (4, .val fc) :: (18, .val (.i (mid : Nat))) :: (19, .val (.i (n : Nat))) :: (20, .val (.i (i : Nat))) :: (21, .val (.i (j : Nat))) :: (22, .val (.i ((n - 1 : Nat) : Int))) :: rwB L := ⟨_, rfl⟩
  refine aS (aB (awp_loop (fun k s => ∃ i j, k = j - i ∧ s0 ≤ i ∧ i ≤ j ∧ j ≤ r0 ∧ (∀ c x y, s0 ≤ c → c < i → L[c]? = some x → L[n - 1 - c]? = some y → x.v ≤ y.v) ∧ (∀ c x y, j ≤ c → c < r0 → L[c]? = some x → L[n - 1 - c]? = some y → y.v < x.v) ∧ s = st i j) (n := r0 - s0) (s' := st s0 r0) (by
    rw [hst]
    refine wk_sub ⟨rfl, rfl, rfl, rfl, rfl, rfl, rfl, rfl, rfl, ?_, rfl, trivial⟩
    rw [show ((n - 1 : Nat) : Int) = (n : Int) - 1 by omega]; rfl) ⟨s0, r0, rfl, Nat.le_refl _, hsr.1, Nat.le_refl _, fun c x y _ _ _ => by omega, fun c x y _ _ _ => by omega, rfl⟩ ?_))
  rintro k s ⟨i, j, rfl, hmi, hij, hjb, hlo, hhi, rfl⟩
  rw [hst]
  refine aS (aS (aR ?_))
  (refine nx (aM (gN rfl) rfl rfl rfl rfl rfl) rfl ?_)
  (refine nx (aM (gN rfl) rfl rfl rfl rfl rfl) rfl ?_)
  (refine nx (a_lss (gN rfl) rfl rfl rfl rfl rfl rfl) rfl ?_)
  show AWp _ _ _ _ _ _ _
  refine aC rfl (fun hc => aK ?_) (fun hc => aE ?_)
  · have hlt : i < j := by have := of_decide_eq_true hc; omega
    show AWp _ _ _ _ _ _ _
    have hw := mid_wrap (i := i) (j := j) (by omega) (by omega)
    refine aB (aS (aR ?_))
    (refine nx (aM (gN rfl) rfl rfl rfl rfl rfl) rfl ?_)
    (refine nx (aM (gN rfl) rfl rfl rfl rfl rfl) rfl ?_)
    (refine nx (a_add (gN rfl) rfl rfl rfl rfl rfl rfl (by first | omega | (simp only [List.length_map, List.length_append, List.length_cons, List.length_nil] <;> omega) | (simp <;> omega))) rfl ?_)
    (refine nx (a_conv (gN rfl) rfl rfl rfl rfl rfl rfl rfl (by first | rfl | (rw [IntKind.wrap_i64]; omega) | assumption)) rfl ?_)
    (refine nx (a_shr (gN rfl) rfl rfl rfl rfl rfl rfl) rfl ?_)
    (refine nx (a_conv (gN rfl) rfl rfl rfl rfl rfl rfl rfl (by first | rfl | (rw [IntKind.wrap_i64]; omega) | assumption)) rfl ?_)
    (refine nx (aA (gN rfl) rfl rfl rfl rfl rfl) rfl ?_)
    show AWp _ _ _ _ _ _ _
    have hh : i ≤ (i + j) / 2 ∧ (i + j) / 2 < j := by omega
    have hcast := mid_cast i j
    obtain ⟨h, hhd⟩ : ∃ h, h = (i + j) / 2 := ⟨_, rfl⟩
    rw [← hhd] at hh hcast
    obtain ⟨k1, k2, k3, k4, k5⟩ := hidx h (by omega) (by omega)
    refine AWp.wk (wk_sub (s' := (23, .val (.i (h : Nat))) :: (0, AV.sl 400000 0 N 3) :: (1, .val (.i a)) :: (2, .val (.i m)) :: (3, .val (.i b)) :: (4, .val fc) :: (18, .val (.i (mid : Nat))) :: (19, .val (.i (n : Nat))) :: (20, .val (.i (i : Nat))) :: (21, .val (.i (j : Nat))) :: (22, .val (.i ((n - 1 : Nat) : Int))) :: rwB L) ⟨by rw [← hcast]; rfl, rfl, rfl, rfl, rfl, rfl, rfl, rfl, rfl, rfl, rfl, rfl, trivial⟩) ?_
    obtain ⟨x, hx⟩ := bd_at (L := L) (t := n - 1 - h) (by omega)
    obtain ⟨y, hy⟩ := bd_at (L := L) (t := h) (by omega)
    have hx' := Bd.map_at hx
    have hy' := Bd.map_at hy
    refine aS (aD (by kernel_rfl) (by kernel_rfl) ?_)
    (refine nx (aM (gN rfl) rfl rfl rfl rfl rfl) rfl ?_)
    (refine nx (aM (gN rfl) rfl rfl rfl rfl rfl) rfl ?_)
    (refine nx (aM (gN rfl) rfl rfl rfl rfl rfl) rfl ?_)
    (refine nx (aM (gN rfl) rfl rfl rfl rfl rfl) rfl ?_)
    (refine nx (a_sub (gN rfl) rfl rfl rfl rfl rfl rfl (by first | omega | (simp only [List.length_map, List.length_append, List.length_cons, List.length_nil] <;> omega) | (simp <;> omega))) rfl ?_)
    (refine nx (aIm (k := n - 1 - h) (gN rfl) rfl rfl rfl rfl rfl rfl rfl rfl rfl (by first | rfl | omega | (simp only [List.length_set, List.length_map, List.length_append, List.length_cons, List.length_nil] <;> omega) | (simp <;> omega))) rfl ?_)
    (refine nx (a_loadM (gN rfl) rfl rfl rfl rfl rfl rfl rfl rfl (hx') rfl (by first | rfl | omega | (simp only [List.length_set, List.length_map, List.length_append, List.length_cons, List.length_nil] <;> omega) | (simp <;> omega)) rfl rfl) rfl ?_)
    (refine nx (aM (gN rfl) rfl rfl rfl rfl rfl) rfl ?_)
    (refine nx (aM (gN rfl) rfl rfl rfl rfl rfl) rfl ?_)
    (refine nx (aIm (k := h) (gN rfl) rfl rfl rfl rfl rfl rfl rfl rfl rfl (by first | rfl | omega | (simp only [List.length_set, List.length_map, List.length_append, List.length_cons, List.length_nil] <;> omega) | (simp <;> omega))) rfl ?_)
    (refine nx (a_loadM (gN rfl) rfl rfl rfl rfl rfl rfl rfl rfl (hy') rfl (by first | rfl | omega | (simp only [List.length_set, List.length_map, List.length_append, List.length_cons, List.length_nil] <;> omega) | (simp <;> omega)) rfl rfl) rfl ?_)
    (refine nx (a_callw (gN rfl) rfl rfl rfl rfl rfl rfl (hcm _ x y)) rfl ?_)
    (refine nx (a_lss (gN rfl) rfl rfl rfl rfl rfl rfl) rfl ?_)
    (refine nx (a_not (gN rfl) rfl rfl rfl rfl rfl) rfl ?_)
    refine ⟨by kernel_rfl, ?_⟩
    show AWp _ _ _ _ _ _ _
    refine aC rfl (fun c1 => ?_) (fun c1 => ?_)
    · have c2 : ¬ x.v < y.v := fun c => by
        have := (hv x y).2 c
        simp [this] at c1
      refine aR ?_
      (refine nx (aM (gN rfl) rfl rfl rfl rfl rfl) rfl ?_)
      (refine nx (a_add (gN rfl) rfl rfl rfl rfl rfl rfl (by first | omega | (simp only [List.length_map, List.length_append, List.length_cons, List.length_nil] <;> omega) | (simp <;> omega))) rfl ?_)
      (refine nx (aA (gN rfl) rfl rfl rfl rfl rfl) rfl ?_)
      refine ⟨j - (h + 1), st (h + 1) j, by omega, ⟨h + 1, j, rfl, by omega, by omega, hjb, fun c x' y' g1 g2 g3 g4 => ?_, hhi, by rw [hst]⟩, by rw [hst]; exact wk_sub ⟨rfl, rfl, rfl, rfl, rfl, rfl, rfl, rfl, rfl, rfl, rfl, trivial⟩⟩
      by_cases ct : c = h
      · rw [ct] at g3 g4
        rw [hy] at g3; rw [hx] at g4; cases g3; cases g4; omega
      · obtain ⟨l1, l2, l3, l4, l5⟩ := hidx c g1 (by omega)
        have e1 := h1 c h x' y (by omega) (by omega) (by omega) g3 hy
        have e2 := h2 (n - 1 - h) (n - 1 - c) x y' (by omega) (by omega) (by omega) hx g4
        omega
    · have c2 : x.v < y.v := (hv x y).1 (by simpa using c1)
      refine aR ?_
      (refine nx (aM (gN rfl) rfl rfl rfl rfl rfl) rfl ?_)
      (refine nx (aA (gN rfl) rfl rfl rfl rfl rfl) rfl ?_)
      refine ⟨h - i, st i h, by omega, ⟨i, h, rfl, hmi, by omega, by omega, hlo, fun c x' y' g1 g2 g3 g4 => ?_, by rw [hst]⟩, by rw [hst]; exact wk_sub ⟨rfl, rfl, rfl, rfl, rfl, rfl, rfl, rfl, rfl, rfl, rfl, trivial⟩⟩
      by_cases ct : c = h
      · rw [ct] at g3 g4
        rw [hy] at g3; rw [hx] at g4; cases g3; cases g4; omega
      · obtain ⟨l1, l2, l3, l4, l5⟩ := hidx c (by omega) g2
        have e1 := h1 h c y x' (by omega) (by omega) (by omega) hy g3
        have e2 := h2 (n - 1 - c) (n - 1 - h) y' x (by omega) (by omega) (by omega) g4 hx
        omega
  have hij' : i = j := by have := of_decide_eq_false hc; omega
  subst hij'
  have hcut : Cut L n s0 i r0 := ⟨hlo, hhi⟩
  obtain ⟨f1, f2, f3, f4, f5, f6, f7⟩ := hcut.sides (hN ▸ hb) ham hmb (by rw [hn, hmid]) (by rw [← hmid]; exact h0) h1 h2 hmi hjb
  rw [← hmid] at f5
  show AWp _ _ _ _ _ _ _
  refine aS (aR ?_)
  (refine nx (aM (gN rfl) rfl rfl rfl rfl rfl) rfl ?_)
  (refine nx (aM (gN rfl) rfl rfl rfl rfl rfl) rfl ?_)
  (refine nx (a_sub (gN rfl) rfl rfl rfl rfl rfl rfl (by first | omega | (simp only [List.length_map, List.length_append, List.length_cons, List.length_nil] <;> omega) | (simp <;> omega))) rfl ?_)
  (refine nx (aA (gN rfl) rfl rfl rfl rfl rfl) rfl ?_)
  show AWp _ _ _ _ _ _ _
  have hecast : ((n : Nat) : Int) - (i : Nat) = ((n - i : Nat) : Int) := by omega
  obtain ⟨e, he⟩ : ∃ e, e = n - i := ⟨_, rfl⟩
  rw [← he] at f3 f4 f5 f6 f7 hecast
  obtain ⟨st3, hst3⟩ : ∃ st : List Bd → AS, st = fun M => (0, AV.sl 400000 0 N 3) :: (1, .val (.i a)) :: (2, .val (.i m)) :: (3, .val (.i b)) :: (4, .val fc) :: (18, .val (.i (mid : Nat))) :: (20, .val (.i (i : Nat))) :: (24, .val (.i (e : Nat))) :: rwB M := ⟨_, rfl⟩
  refine AWp.wk (s' := st3 L) (by rw [hst3]; exact wk_sub ⟨rfl, rfl, rfl, rfl, rfl, rfl, rfl, by rw [← hecast]; rfl, rfl, trivial⟩) ?_
  refine awp_midE (fun M => IsG M N (rtG i m e fun t => L[t]?)) st3 ?_ ?_
  · rw [hst3]
    refine aS (aR ?_)
    rcases Nat.lt_or_ge i m with c | c
    · have g : decide (((i : Nat) : Int) < (m : Nat)) = true := decide_eq_true (by omega)
      (refine nx (aM (gN rfl) rfl rfl rfl rfl rfl) rfl ?_)
      (refine nx (aM (gN rfl) rfl rfl rfl rfl rfl) rfl ?_)
      (refine nx (a_lss (gN rfl) rfl rfl rfl rfl rfl rfl) rfl ?_)
      (refine nx (aM (gN rfl) rfl rfl rfl rfl rfl) rfl ?_)
      (refine nx (aM (gd_on rfl rfl rfl rfl (by first | rfl | assumption | (simp; done))) rfl rfl rfl rfl rfl) rfl ?_)
      (refine nx (aM (gd_on rfl rfl rfl rfl (by first | rfl | assumption | (simp; done))) rfl rfl rfl rfl rfl) rfl ?_)
      (refine nx (a_lss (gd_on rfl rfl rfl rfl (by first | rfl | assumption | (simp; done))) rfl rfl rfl rfl rfl rfl) rfl ?_)
      (refine ⟨_, _, _, aPt (gN rfl) rfl rfl rfl rfl rfl ?hb rfl, rfl, ?_⟩; case hb => (first | rfl | assumption | (simp; done)))
      show AWp _ _ _ _ _ _ _
      refine aC rfl (fun hc => ?_) (fun hc => aK ?_)
      · have hc := of_decide_eq_true hc
        have hr := rotate_abs fc L i m e c (by omega) (by omega) (by omega)
        rw [← hN] at hr
        refine awp_regionE 5 rfl rfl rfl rfl rfl rfl hr (by kernel_rfl) (fun σ => by kernel_rfl) (fun σ => by kernel_rfl) (fun σ => rfl) (fun σ => hnb_of (by kernel_rfl)) ?_
        (refine nx (aM (gN rfl) rfl rfl rfl rfl rfl) rfl ?_)
        (refine nx (aM (gN rfl) rfl rfl rfl rfl rfl) rfl ?_)
        (refine nx (aM (gN rfl) rfl rfl rfl rfl rfl) rfl ?_)
        (refine nx (aM (gN rfl) rfl rfl rfl rfl rfl) rfl ?_)
        (refine nx (aM (gN rfl) rfl rfl rfl rfl rfl) rfl ?_)
        refine ⟨rfl, ⟨rfl, trivial⟩, fun σ hσ => ⟨by kernel_rfl, ?_⟩⟩
        exact ⟨σ, hσ, wk_sub ⟨rfl, rfl, rfl, rfl, rfl, rfl, rfl, rfl, rfl, trivial⟩⟩
      · have hc := of_decide_eq_false hc
        exact ⟨L, by rw [hN]; exact rt_id f2 f3 (.inr (by omega)), wk_sub ⟨rfl, rfl, rfl, rfl, rfl, rfl, rfl, rfl, rfl, trivial⟩⟩
    · have g : decide (((i : Nat) : Int) < (m : Nat)) = false := decide_eq_false (by omega)
      (refine nx (aM (gN rfl) rfl rfl rfl rfl rfl) rfl ?_)
      (refine nx (aM (gN rfl) rfl rfl rfl rfl rfl) rfl ?_)
      (refine nx (a_lss (gN rfl) rfl rfl rfl rfl rfl rfl) rfl ?_)
      (refine nx (aM (gN rfl) rfl rfl rfl rfl rfl) rfl ?_)
      (refine ⟨_, _, _, a_off (go_off rfl rfl rfl rfl (by first | rfl | assumption | (simp; done) | (simp [*]; done))) rfl rfl rfl, rfl, ?_⟩)
      (refine ⟨_, _, _, a_off (go_off rfl rfl rfl rfl (by first | rfl | assumption | (simp; done) | (simp [*]; done))) rfl rfl rfl, rfl, ?_⟩)
      (refine ⟨_, _, _, a_off (go_off rfl rfl rfl rfl (by first | rfl | assumption | (simp; done) | (simp [*]; done))) rfl rfl rfl, rfl, ?_⟩)
      (refine ⟨_, _, _, aPf (gN rfl) rfl rfl rfl rfl rfl ?hb rfl, rfl, ?_⟩; case hb => (first | rfl | assumption | (simp; done)))
      show AWp _ _ _ _ _ _ _
      refine aC rfl (fun hc => ?_) (fun hc => aK ?_)
      · cases hc
      · exact ⟨L, by rw [hN]; exact rt_id f2 f3 (.inl (by omega)), wk_sub ⟨rfl, rfl, rfl, rfl, rfl, rfl, rfl, rfl, rfl, trivial⟩⟩
  intro M hM
  have hMl := hM.1
  have hM' := hM
  rw [hN] at hM'
  obtain ⟨t1, t2, t3, t4, t5⟩ := turn_facts f1 f2 f3 f4 (hN ▸ hb) f5 h1 h2 f6 f7 hM'
  have hg1 : Mg a b L M := (Mg.rt f2 f3 (by omega) hM').mono f1 f4
  refine awp_midE (fun M2 => Mg a mid M M2 ∧ srtB M2 a mid) st3 ?_ ?_
  · rw [hst3]
    refine aS (aR ?_)
    rcases Nat.lt_or_ge a i with c | c
    · have g : decide (((a : Nat) : Int) < (i : Nat)) = true := decide_eq_true (by omega)
      (refine nx (aM (gN rfl) rfl rfl rfl rfl rfl) rfl ?_)
      (refine nx (aM (gN rfl) rfl rfl rfl rfl rfl) rfl ?_)
      (refine nx (a_lss (gN rfl) rfl rfl rfl rfl rfl rfl) rfl ?_)
      (refine nx (aM (gN rfl) rfl rfl rfl rfl rfl) rfl ?_)
      (refine nx (aM (gd_on rfl rfl rfl rfl (by first | rfl | assumption | (simp; done))) rfl rfl rfl rfl rfl) rfl ?_)
      (refine nx (aM (gd_on rfl rfl rfl rfl (by first | rfl | assumption | (simp; done))) rfl rfl rfl rfl rfl) rfl ?_)
      (refine nx (a_lss (gd_on rfl rfl rfl rfl (by first | rfl | assumption | (simp; done))) rfl rfl rfl rfl rfl rfl) rfl ?_)
      (refine ⟨_, _, _, aPt (gN rfl) rfl rfl rfl rfl rfl ?hb rfl, rfl, ?_⟩; case hb => (first | rfl | assumption | (simp; done)))
      show AWp _ _ _ _ _ _ _
      refine aC rfl (fun hc => ?_) (fun hc => aK ?_)
      · have hc := of_decide_eq_true hc
        have hr := ih M a i mid (by omega) c (by omega) (by omega) (by omega) t1 t2
        rw [hMl] at hr
        refine awp_regionE 5 rfl rfl rfl rfl rfl rfl hr (by kernel_rfl) (fun σ => by kernel_rfl) (fun σ => by kernel_rfl) (fun σ => rfl) (fun σ => hnb_of (by kernel_rfl)) ?_
        (refine nx (aM (gN rfl) rfl rfl rfl rfl rfl) rfl ?_)
        (refine nx (aM (gN rfl) rfl rfl rfl rfl rfl) rfl ?_)
        (refine nx (aM (gN rfl) rfl rfl rfl rfl rfl) rfl ?_)
        (refine nx (aM (gN rfl) rfl rfl rfl rfl rfl) rfl ?_)
        (refine nx (aM (gN rfl) rfl rfl rfl rfl rfl) rfl ?_)
        refine ⟨rfl, ⟨rfl, trivial⟩, fun σ hσ => ⟨by kernel_rfl, ?_⟩⟩
        exact ⟨σ, hσ, wk_sub ⟨rfl, rfl, rfl, rfl, rfl, rfl, rfl, rfl, rfl, trivial⟩⟩
      · have hc := of_decide_eq_false hc
        exact ⟨M, ⟨Mg.refl _ _ _, by rw [show mid = i by omega]; exact t1⟩, wk_sub ⟨rfl, rfl, rfl, rfl, rfl, rfl, rfl, rfl, rfl, trivial⟩⟩
    · have g : decide (((a : Nat) : Int) < (i : Nat)) = false := decide_eq_false (by omega)
      (refine nx (aM (gN rfl) rfl rfl rfl rfl rfl) rfl ?_)
      (refine nx (aM (gN rfl) rfl rfl rfl rfl rfl) rfl ?_)
      (refine nx (a_lss (gN rfl) rfl rfl rfl rfl rfl rfl) rfl ?_)
      (refine nx (aM (gN rfl) rfl rfl rfl rfl rfl) rfl ?_)
      (refine ⟨_, _, _, a_off (go_off rfl rfl rfl rfl (by first | rfl | assumption | (simp; done) | (simp [*]; done))) rfl rfl rfl, rfl, ?_⟩)
      (refine ⟨_, _, _, a_off (go_off rfl rfl rfl rfl (by first | rfl | assumption | (simp; done) | (simp [*]; done))) rfl rfl rfl, rfl, ?_⟩)
      (refine ⟨_, _, _, a_off (go_off rfl rfl rfl rfl (by first | rfl | assumption | (simp; done) | (simp [*]; done))) rfl rfl rfl, rfl, ?_⟩)
      (refine ⟨_, _, _, aPf (gN rfl) rfl rfl rfl rfl rfl ?hb rfl, rfl, ?_⟩; case hb => (first | rfl | assumption | (simp; done)))
      show AWp _ _ _ _ _ _ _
      refine aC rfl (fun hc => ?_) (fun hc => aK ?_)
      · cases hc
      · exact ⟨M, ⟨Mg.refl _ _ _, by rw [show a = i by omega]; exact t2⟩, wk_sub ⟨rfl, rfl, rfl, rfl, rfl, rfl, rfl, rfl, rfl, trivial⟩⟩
  intro M2 hM2
  obtain ⟨hg2, u1⟩ := hM2
  have hMl2 : M2.length = N := hg2.len.trans hMl
  have u2 : srtB M2 mid e := t3.same fun t k1 k2 => hg2.out t (by omega)
  have u3 : srtB M2 e b := t4.same fun t k1 k2 => hg2.out t (by omega)
  have u4 : leB M2 a mid mid b := t5.mg (by omega) (by omega) (.inl hg2)
  have fin : ∀ σ, Mg mid b M2 σ → srtB σ mid b → symR a b L σ := fun σ g1 g2 =>
    ⟨(hg1.trans (hg2.mono (Nat.le_refl _) (by omega))).trans (g1.mono (by omega) (Nat.le_refl _)), (u1.same fun t k1 k2 => g1.out t (by omega)).glue g2 (u4.mg (by omega) (by omega) (.inr g1))⟩
  rw [hst3]
  refine aS (aR ?_)
  rcases Nat.lt_or_ge mid e with c | c
  · have g : decide (((mid : Nat) : Int) < (e : Nat)) = true := decide_eq_true (by omega)
    (refine nx (aM (gN rfl) rfl rfl rfl rfl rfl) rfl ?_)
    (refine nx (aM (gN rfl) rfl rfl rfl rfl rfl) rfl ?_)
    (refine nx (a_lss (gN rfl) rfl rfl rfl rfl rfl rfl) rfl ?_)
    (refine nx (aM (gN rfl) rfl rfl rfl rfl rfl) rfl ?_)
    (refine nx (aM (gd_on rfl rfl rfl rfl (by first | rfl | assumption | (simp; done))) rfl rfl rfl rfl rfl) rfl ?_)
    (refine nx (aM (gd_on rfl rfl rfl rfl (by first | rfl | assumption | (simp; done))) rfl rfl rfl rfl rfl) rfl ?_)
    (refine nx (a_lss (gd_on rfl rfl rfl rfl (by first | rfl | assumption | (simp; done))) rfl rfl rfl rfl rfl rfl) rfl ?_)
    (refine ⟨_, _, _, aPt (gN rfl) rfl rfl rfl rfl rfl ?hb rfl, rfl, ?_⟩; case hb => (first | rfl | assumption | (simp; done)))
    show AWp _ _ _ _ _ _ _
    refine aC rfl (fun hc => ?_) (fun hc => aK ?_)
    · have hc := of_decide_eq_true hc
      have hr := ih M2 mid e b (by omega) c (by omega) (by omega) (by omega) u2 u3
      rw [hMl2] at hr
      refine awp_regionE 5 rfl rfl rfl rfl rfl rfl hr (by kernel_rfl) (fun σ => by kernel_rfl) (fun σ => by kernel_rfl) (fun σ => rfl) (fun σ => hnb_of (by kernel_rfl)) ?_
      (refine nx (aM (gN rfl) rfl rfl rfl rfl rfl) rfl ?_)
      (refine nx (aM (gN rfl) rfl rfl rfl rfl rfl) rfl ?_)
      (refine nx (aM (gN rfl) rfl rfl rfl rfl rfl) rfl ?_)
      (refine nx (aM (gN rfl) rfl rfl rfl rfl rfl) rfl ?_)
      (refine nx (aM (gN rfl) rfl rfl rfl rfl rfl) rfl ?_)
      refine ⟨rfl, ⟨rfl, trivial⟩, fun σ hσ => ⟨by kernel_rfl, ?_⟩⟩
      exact ⟨.inl rfl, σ, fin σ hσ.1 hσ.2, _, Wk.refl _, rfl, rfl, trivial⟩
    · have hc := of_decide_eq_false hc
      exact ⟨.inl rfl, M2, fin M2 (Mg.refl _ _ _) (by rw [show b = e by omega]; exact u2), _, Wk.refl _, rfl, rfl, trivial⟩
  · have g : decide (((mid : Nat) : Int) < (e : Nat)) = false := decide_eq_false (by omega)
    (refine nx (aM (gN rfl) rfl rfl rfl rfl rfl) rfl ?_)
    (refine nx (aM (gN rfl) rfl rfl rfl rfl rfl) rfl ?_)
    (refine nx (a_lss (gN rfl) rfl rfl rfl rfl rfl rfl) rfl ?_)
    (refine nx (aM (gN rfl) rfl rfl rfl rfl rfl) rfl ?_)
    (refine ⟨_, _, _, a_off (go_off rfl rfl rfl rfl (by first | rfl | assumption | (simp; done) | (simp [*]; done))) rfl rfl rfl, rfl, ?_⟩)
    (refine ⟨_, _, _, a_off (go_off rfl rfl rfl rfl (by first | rfl | assumption | (simp; done) | (simp [*]; done))) rfl rfl rfl, rfl, ?_⟩)
    (refine ⟨_, _, _, a_off (go_off rfl rfl rfl rfl (by first | rfl | assumption | (simp; done) | (simp [*]; done))) rfl rfl rfl, rfl, ?_⟩)
    (refine ⟨_, _, _, aPf (gN rfl) rfl rfl rfl rfl rfl ?hb rfl, rfl, ?_⟩; case hb => (first | rfl | assumption | (simp; done)))
    show AWp _ _ _ _ _ _ _
    refine aC rfl (fun hc => ?_) (fun hc => aK ?_)
    · cases hc
    · exact ⟨.inl rfl, M2, fin M2 (Mg.refl _ _ _) (by rw [show mid = e by omega]; exact u3), _, Wk.refl _, rfl, rfl, trivial⟩
structure SkI (L : List Bd) (a j e : Nat) : Prop where
  oth : ∀ p q x y, a ≤ p → p < q → q < e → p ≠ j → q ≠ j → L[p]? = some x → L[q]? = some y → x.v ≤ y.v
  beh : ∀ q x y, j < q → q < e → L[j]? = some x → L[q]? = some y → x.v ≤ y.v
theorem sink_srt {cmp : Bd → Bd → Int} (hv : ∀ x y, cmp x y < 0 ↔ x.v < y.v) {a e : Nat} : ∀ (j : Nat) (L : List Bd), j < e → e ≤ L.length → SkI L a j e → Mg a e L (sink (ltC cmp) a j L) ∧ srtB (sink (ltC cmp) a j L) a e
  | 0, L, hj, he, h => ⟨Mg.refl _ _ _, fun p q x y k1 k2 k3 k4 k5 => by
      by_cases c : p = 0
      · subst c; exact h.beh q x y (by omega) k3 k4 k5
      · exact h.oth p q x y k1 k2 k3 c (by omega) k4 k5⟩
  | j + 1, L, hj, he, h => by
    by_cases ha : a < j + 1
    · obtain ⟨x, hx⟩ := bd_at (L := L) (t := j + 1) (by omega)
      obtain ⟨y, hy⟩ := bd_at (L := L) (t := j) (by omega)
      by_cases hlt : ltC cmp x y = true
      · rw [sink_yes _ _ hx hy ha hlt]
        have hxy : x.v < y.v := (hv x y).1 (of_decide_eq_true hlt)
        have hg : IsG ((L.set (j + 1) y).set j x) L.length (rtG j (j + 1) (j + 1 + 1) fun t => L[t]?) := rt_dn (Nat.le_refl _) (by omega) (rt_id (Nat.le_refl _) (by omega) (.inl rfl)) hx hy
        have hm := (Mg.rt (by omega) (by omega) (by omega) hg).mono (c := a) (d := e) (by omega) (by omega)
        have e1 : ((L.set (j + 1) y).set j x)[j]? = some x := by rw [List.getElem?_set, if_pos rfl, if_pos (by rw [List.length_set]; omega)]
        have e2 : ((L.set (j + 1) y).set j x)[j + 1]? = some y := by rw [List.getElem?_set, if_neg (by omega), List.getElem?_set, if_pos rfl, if_pos (by omega)]
        have e3 : ∀ t, t ≠ j → t ≠ j + 1 → ((L.set (j + 1) y).set j x)[t]? = L[t]? := fun t k1 k2 => by rw [List.getElem?_set, if_neg (by omega), List.getElem?_set, if_neg (by omega)]
        have hI : SkI ((L.set (j + 1) y).set j x) a j e := by
          refine ⟨fun p q x' y' k1 k2 k3 k4 k5 k6 k7 => ?_, fun q x' y' k1 k2 k3 k4 => ?_⟩
          · by_cases c1 : p = j + 1
            · subst c1
              rw [e2] at k6; cases k6
              rw [e3 q (by omega) (by omega)] at k7
              exact h.oth j q _ y' (by omega) (by omega) k3 (by omega) (by omega) hy k7
            · rw [e3 p k4 c1] at k6
              by_cases c2 : q = j + 1
              · subst c2
                rw [e2] at k7; cases k7
                exact h.oth p j x' _ k1 (by omega) (by omega) (by omega) (by omega) k6 hy
              · rw [e3 q k5 c2] at k7
                exact h.oth p q x' y' k1 k2 k3 c1 c2 k6 k7
          · rw [e1] at k3; cases k3
            by_cases c2 : q = j + 1
            · subst c2
              rw [e2] at k4; cases k4; omega
            · rw [e3 q (by omega) c2] at k4
              exact h.beh q _ y' (by omega) k2 hx k4
        obtain ⟨r1, r2⟩ := sink_srt hv j ((L.set (j + 1) y).set j x) (by omega) (by rw [List.length_set, List.length_set]; exact he) hI
        exact ⟨hm.trans r1, r2⟩
      · have hlt' : ltC cmp x y = false := by simpa using hlt
        rw [sink_no _ _ hx hy hlt']
        have hxy : ¬ x.v < y.v := fun c => by
          have := decide_eq_true ((hv x y).2 c)
          exact hlt this
        refine ⟨Mg.refl _ _ _, fun p q x' y' k1 k2 k3 k4 k5 => ?_⟩
        by_cases c1 : p = j + 1
        · subst c1; exact h.beh q x' y' k2 k3 k4 k5
        · by_cases c2 : q = j + 1
          · subst c2
            rw [hx] at k5; cases k5
            by_cases c3 : p = j
            · subst c3; rw [hy] at k4; cases k4; omega
            · have := h.oth p j x' y k1 (by omega) (by omega) c1 (by omega) k4 hy
              omega
          · exact h.oth p q x' y' k1 k2 k3 c1 c2 k4 k5
    · rw [sink_stop _ _ ha]
      refine ⟨Mg.refl _ _ _, fun p q x' y' k1 k2 k3 k4 k5 => ?_⟩
      by_cases c1 : p = j + 1
      · subst c1; exact h.beh q x' y' k2 k3 k4 k5
      · exact h.oth p q x' y' k1 k2 k3 c1 (by omega) k4 k5
theorem isort_srt {cmp : Bd → Bd → Int} (hv : ∀ x y, cmp x y < 0 ↔ x.v < y.v) {a : Nat} : ∀ (n i : Nat) (L : List Bd), a ≤ i → i + n ≤ L.length → srtB L a i → Mg a (i + n) L (isortN (ltC cmp) a n i L) ∧ srtB (isortN (ltC cmp) a n i L) a (i + n)
  | 0, i, L, ha, he, h => ⟨Mg.refl _ _ _, h⟩
  | n + 1, i, L, ha, he, h => by
    have hs := sink_srt hv (a := a) (e := i + 1) i L (by omega) (by omega) ⟨fun p q x y k1 k2 k3 k4 k5 k6 k7 => h p q x y k1 k2 (by omega) k6 k7, fun q x y k1 k2 _ _ => by omega⟩
    have hr := isort_srt hv n (i + 1) (sink (ltC cmp) a i L) (by omega) (by rw [sink_len]; omega) hs.2
    rw [show i + 1 + n = i + (n + 1) by omega] at hr
    exact ⟨(hs.1.mono (Nat.le_refl _) (by omega)).trans hr.1, hr.2⟩
theorem ins_srt {cmp : Bd → Bd → Int} (hv : ∀ x y, cmp x y < 0 ↔ x.v < y.v) {a b : Nat} (L : List Bd) (hab : a ≤ b) (hb : b ≤ L.length) : Mg a b L (isortN (ltC cmp) a (b - (a + 1)) (a + 1) L) ∧ srtB (isortN (ltC cmp) a (b - (a + 1)) (a + 1) L) a b := by
  by_cases c : a + 1 ≤ b
  · have h := isort_srt hv (a := a) (b - (a + 1)) (a + 1) L (by omega) (by omega) (fun p q x y _ _ _ _ _ => by omega)
    rw [show a + 1 + (b - (a + 1)) = b by omega] at h
    exact h
  · rw [show b - (a + 1) = 0 by omega]
    exact ⟨Mg.refl _ _ _, fun p q x y _ _ _ _ _ => by omega⟩
def blk (M : List Bd) (bs n a b : Nat) : Prop := ∀ lo, bs ∣ lo → a ≤ lo → lo < b → srtB M lo (min (lo + bs) n)
theorem dvd_gap {k x y : Nat} (hx : k ∣ x) (hy : k ∣ y) (h : x < y) : x + k ≤ y := by
  have := Nat.le_of_dvd (by omega) (Nat.dvd_sub hy hx)
  omega
theorem blk.mg {M σ : List Bd} {bs n a b c d : Nat} (h : blk M bs n a b) (hm : Mg c d M σ) (hs : (bs ∣ c ∧ b ≤ c) ∨ d ≤ a) : blk σ bs n a b := fun lo k1 k2 k3 => by
  refine (h lo k1 k2 k3).same fun t h1 h2 => hm.out t ?_
  rcases hs with ⟨s1, s2⟩ | s
  · have := dvd_gap k1 s1 (by omega)
    omega
  · omega
-- 
set_option maxHeartbeats 4000000 in
theorem stableE_abs (cmp : Bd → Bd → Int) (fc : CV) (hcm : ∀ W x y, AFunW Try.prog W fc [x.cw, y.cw] (.val (.i (cmp x y)))) (hv : ∀ x y, cmp x y < 0 ↔ x.v < y.v) (L : List Bd) (hl : L.length ≤ 1000000) : AFunE (Sg := List Bd) Try.prog 77 (rwB L) [.sl 400000 0 L.length 3, .val (.i L.length), .val fc] (symR 0 L.length L) (fun _ => .tup []) (fun σ => rwB σ) := by
  refine afunE_of Try.func77 Try.ntmps77 rfl rfl rfl rfl rfl (fun σ => rfl) ?_
  intro w U hU
  refine aS (aR ?_)
  (refine nx (aA (gN rfl) rfl rfl rfl rfl rfl) rfl ?_)
  show AWp _ _ _ _ _ _ _
  refine aS (aR ?_)
  (refine nx (aM (gN rfl) rfl rfl rfl rfl rfl) rfl ?_)
  (refine nx (aA (gN rfl) rfl rfl rfl rfl rfl) rfl ?_)
  (refine nx (aA (gN rfl) rfl rfl rfl rfl rfl) rfl ?_)
  show AWp _ _ _ _ _ _ _
  obtain ⟨N, hN⟩ : ∃ N, N = L.length := ⟨_, rfl⟩
  rw [← hN] at hl ⊢
  obtain ⟨st, hst⟩ : ∃ st : Nat → Nat → Nat → List Bd → AS, st = fun bs a b M => (0, AV.sl 400000 0 N 3) :: (1, .val (.i N)) :: (2, .val fc) :: (6, .val (.i (bs : Nat))) :: (7, .val (.i (a : Nat))) :: (8, .val (.i (b : Nat))) :: rwB M := ⟨_, rfl⟩
  refine aS (aB (awp_loop (fun k s => ∃ a M, k = N - a ∧ 20 ∣ a ∧ a ≤ N ∧ Mg 0 N L M ∧ blk M 20 N 0 a ∧ s = st 20 a (a + 20) M) (n := N - 0) (s' := st 20 0 (0 + 20) L) (by rw [hst, hN]; exact wk_sub ⟨rfl, rfl, rfl, rfl, rfl, rfl, rfl, trivial⟩) ⟨0, L, rfl, ⟨0, rfl⟩, Nat.zero_le _, Mg.refl _ _ _, fun lo _ _ h => by omega, rfl⟩ ?_))
  rintro k s ⟨a, M, rfl, hda, haN, hMg, hbl, rfl⟩
  have hMl : M.length = N := hMg.len.trans hN.symm
  rw [hst]
  refine aS (aS (aR ?_))
  (refine nx (aM (gN rfl) rfl rfl rfl rfl rfl) rfl ?_)
  (refine nx (aM (gN rfl) rfl rfl rfl rfl rfl) rfl ?_)
  (refine nx (a_leq (gN rfl) rfl rfl rfl rfl rfl rfl) rfl ?_)
  show AWp _ _ _ _ _ _ _
  refine aC rfl (fun hc => aK ?_) (fun hc => aE ?_)
  · have hlt : a + 20 ≤ N := by have := of_decide_eq_true hc; omega
    show AWp _ _ _ _ _ _ _
    have hins := insSort_abs cmp fc M a (a + 20) (by omega) (by omega) (by omega) hcm
    rw [hMl] at hins
    have hs := ins_srt hv (a := a) (b := a + 20) M (by omega) (by omega)
    obtain ⟨M', hM'⟩ : ∃ M', M' = isortN (ltC cmp) a (a + 20 - (a + 1)) (a + 1) M := ⟨_, rfl⟩
    rw [← hM'] at hins hs
    refine aB (aS (aR ?_))
    (refine nx (aM (gN rfl) rfl rfl rfl rfl rfl) rfl ?_)
    (refine nx (aM (gN rfl) rfl rfl rfl rfl rfl) rfl ?_)
    (refine nx (aM (gN rfl) rfl rfl rfl rfl rfl) rfl ?_)
    (refine nx (aM (gN rfl) rfl rfl rfl rfl rfl) rfl ?_)
    (refine nx (a_callO (gN rfl) rfl rfl rfl rfl rfl (hins) (by repeat (first | exact trivial | refine ⟨rfl, ?_⟩)) (by first | rfl | kernel_rfl) (by first | rfl | kernel_rfl) (by first | rfl | kernel_rfl) (by first | rfl | kernel_rfl) (hnb_of (by first | rfl | kernel_rfl))) rfl ?_)
    show AWp _ _ _ _ _ _ _
    refine aS (aR ?_)
    (refine nx (aM (gN rfl) rfl rfl rfl rfl rfl) rfl ?_)
    (refine nx (aA (gN rfl) rfl rfl rfl rfl rfl) rfl ?_)
    show AWp _ _ _ _ _ _ _
    refine aR ?_
    (refine nx (aM (gN rfl) rfl rfl rfl rfl rfl) rfl ?_)
    (refine nx (aM (gN rfl) rfl rfl rfl rfl rfl) rfl ?_)
    (refine nx (a_add (gN rfl) rfl rfl rfl rfl rfl rfl (by first | omega | (simp only [List.length_map, List.length_append, List.length_cons, List.length_nil] <;> omega) | (simp <;> omega))) rfl ?_)
    (refine nx (aA (gN rfl) rfl rfl rfl rfl rfl) rfl ?_)
    refine ⟨N - (a + 20), st 20 (a + 20) (a + 20 + 20) M', by omega, ⟨a + 20, M', rfl, Nat.dvd_add hda ⟨1, rfl⟩, hlt, hMg.trans (hs.1.mono (Nat.zero_le _) hlt), fun lo k1 k2 k3 => ?_, by rw [hst]⟩, by rw [hst]; exact wk_sub ⟨rfl, rfl, rfl, rfl, rfl, rfl, rfl, trivial⟩⟩
    by_cases c : lo < a
    · exact (hbl.mg hs.1 (.inl ⟨hda, Nat.le_refl _⟩)) lo k1 k2 c
    · have : lo = a := by
        rcases Nat.lt_or_ge a lo with c2 | c2
        · have := dvd_gap hda k1 c2
          omega
        · omega
      subst this
      rw [Nat.min_eq_left hlt]
      exact hs.2
  · have hge : N < a + 20 := by have := of_decide_eq_false hc; omega
    show AWp _ _ _ _ _ _ _
    have hins := insSort_abs cmp fc M a N (by omega) (by omega) (by omega) hcm
    rw [hMl] at hins
    have hs := ins_srt hv (a := a) (b := N) M haN (by omega)
    obtain ⟨M', hM'⟩ : ∃ M', M' = isortN (ltC cmp) a (N - (a + 1)) (a + 1) M := ⟨_, rfl⟩
    rw [← hM'] at hins hs
    refine aS (aR ?_)
    (refine nx (aM (gN rfl) rfl rfl rfl rfl rfl) rfl ?_)
    (refine nx (aM (gN rfl) rfl rfl rfl rfl rfl) rfl ?_)
    (refine nx (aM (gN rfl) rfl rfl rfl rfl rfl) rfl ?_)
    (refine nx (aM (gN rfl) rfl rfl rfl rfl rfl) rfl ?_)
    (refine nx (a_callO (gN rfl) rfl rfl rfl rfl rfl (hins) (by repeat (first | exact trivial | refine ⟨rfl, ?_⟩)) (by first | rfl | kernel_rfl) (by first | rfl | kernel_rfl) (by first | rfl | kernel_rfl) (by first | rfl | kernel_rfl) (hnb_of (by first | rfl | kernel_rfl))) rfl ?_)
    show AWp _ _ _ _ _ _ _
    obtain ⟨st2, hst2⟩ : ∃ st : Nat → List Bd → AS, st = fun bs M => (0, AV.sl 400000 0 N 3) :: (1, .val (.i N)) :: (2, .val fc) :: (6, .val (.i (bs : Nat))) :: rwB M := ⟨_, rfl⟩
    have hb0 : blk M' 20 N 0 N := fun lo k1 k2 k3 => by
      by_cases c : lo < a
      · exact (hbl.mg hs.1 (.inl ⟨hda, Nat.le_refl _⟩)) lo k1 k2 c
      · have : lo = a := by
          rcases Nat.lt_or_ge a lo with c2 | c2
          · have := dvd_gap hda k1 c2
            omega
          · omega
        subst this
        rw [Nat.min_eq_right (by omega)]
        exact hs.2
    refine aB (awp_loop (fun k s => ∃ bs M, k = 2 * N - bs ∧ 0 < bs ∧ (bs ≤ 20 ∨ bs ≤ 2 * N) ∧ Mg 0 N L M ∧ blk M bs N 0 N ∧ s = st2 bs M) (n := 2 * N - 20) (s' := st2 20 M') (by rw [hst2]; exact wk_sub ⟨rfl, rfl, rfl, rfl, rfl, trivial⟩) ⟨20, M', rfl, by omega, .inl (Nat.le_refl _), hMg.trans (hs.1.mono (Nat.zero_le _) (Nat.le_refl _)), hb0, rfl⟩ ?_)
    clear hs hb0 hins hM' M' hMg hbl hMl M hge hc haN hda a
    rintro k s ⟨bs, M, rfl, hbs, hbn, hMg, hbl, rfl⟩
    rw [hst2]
    refine aS (aS (aR ?_))
    (refine nx (aM (gN rfl) rfl rfl rfl rfl rfl) rfl ?_)
    (refine nx (aM (gN rfl) rfl rfl rfl rfl rfl) rfl ?_)
    (refine nx (a_lss (gN rfl) rfl rfl rfl rfl rfl rfl) rfl ?_)
    show AWp _ _ _ _ _ _ _
    refine aC rfl (fun hc => aK ?_) (fun hc => aE ?_)
    · have hlt : bs < N := by have := of_decide_eq_true hc; omega
      show AWp _ _ _ _ _ _ _
      refine aB (aS (aR ?_))
      (refine nx (aM (gN rfl) rfl rfl rfl rfl rfl) rfl ?_)
      (refine nx (a_mul (gN rfl) rfl rfl rfl rfl rfl rfl (by first | omega | (simp only [List.length_map, List.length_append, List.length_cons, List.length_nil] <;> omega) | (simp <;> omega))) rfl ?_)
      (refine nx (aA (gN rfl) rfl rfl rfl rfl rfl) rfl ?_)
      (refine nx (aA (gN rfl) rfl rfl rfl rfl rfl) rfl ?_)
      show AWp _ _ _ _ _ _ _
      refine aS (aB (awp_loop (fun k s => ∃ a M, k = N - a ∧ 2 * bs ∣ a ∧ a ≤ N ∧ Mg 0 N L M ∧ blk M (2 * bs) N 0 a ∧ blk M bs N a N ∧ s = st bs a (a + 2 * bs) M) (n := N - 0) (s' := st bs 0 (0 + 2 * bs) M) (by
        rw [hst]
        refine wk_sub ⟨rfl, rfl, rfl, rfl, rfl, ?_, rfl, trivial⟩
        rw [show ((0 + 2 * bs : Nat) : Int) = 2 * (bs : Int) by omega]; rfl) ⟨0, M, rfl, ⟨0, rfl⟩, Nat.zero_le _, hMg, fun lo _ _ h => by omega, hbl, rfl⟩ ?_))
      clear hMg hbl M
      rintro k s ⟨a, M, rfl, hda, haN, hMg, hbl, hbr, rfl⟩
      have hMl : M.length = N := hMg.len.trans hN.symm
      have hda1 : bs ∣ a := Nat.dvd_trans ⟨2, by omega⟩ hda
      rw [hst]
      refine aS (aS (aR ?_))
      (refine nx (aM (gN rfl) rfl rfl rfl rfl rfl) rfl ?_)
      (refine nx (aM (gN rfl) rfl rfl rfl rfl rfl) rfl ?_)
      (refine nx (a_leq (gN rfl) rfl rfl rfl rfl rfl rfl) rfl ?_)
      show AWp _ _ _ _ _ _ _
      refine aC rfl (fun hc => aK ?_) (fun hc => aE ?_)
      · have hle : a + 2 * bs ≤ N := by have := of_decide_eq_true hc; omega
        show AWp _ _ _ _ _ _ _
        have p1 := hbr a hda1 (Nat.le_refl _) (by omega)
        have p2 := hbr (a + bs) (Nat.dvd_add hda1 (Nat.dvd_refl _)) (by omega) (by omega)
        rw [Nat.min_eq_left (by omega)] at p1 p2
        have hr := symM_abs cmp fc hcm hv (a + 2 * bs - a) M a (a + bs) (a + 2 * bs) (Nat.le_refl _) (by omega) (by omega) (by omega) (by omega) p1 (by rw [show a + 2 * bs = a + bs + bs by omega]; exact p2)
        rw [hMl] at hr
        refine aB (aS (awp_regionE 7 rfl rfl rfl rfl rfl rfl hr (by kernel_rfl) (fun σ => by kernel_rfl) (fun σ => by kernel_rfl) (fun σ => rfl) (fun σ => hnb_of (by kernel_rfl)) ?_))
        (refine nx (aM (gN rfl) rfl rfl rfl rfl rfl) rfl ?_)
        (refine nx (aM (gN rfl) rfl rfl rfl rfl rfl) rfl ?_)
        (refine nx (aM (gN rfl) rfl rfl rfl rfl rfl) rfl ?_)
        (refine nx (aM (gN rfl) rfl rfl rfl rfl rfl) rfl ?_)
        (refine nx (a_add (gN rfl) rfl rfl rfl rfl rfl rfl (by first | omega | (simp only [List.length_map, List.length_append, List.length_cons, List.length_nil] <;> omega) | (simp <;> omega))) rfl ?_)
        (refine nx (aM (gN rfl) rfl rfl rfl rfl rfl) rfl ?_)
        (refine nx (aM (gN rfl) rfl rfl rfl rfl rfl) rfl ?_)
        refine ⟨rfl, ⟨rfl, trivial⟩, fun σ hσ => ⟨by kernel_rfl, ?_⟩⟩
        show AWp _ _ _ _ _ _ _
        refine aS (aR ?_)
        (refine nx (aM (gN rfl) rfl rfl rfl rfl rfl) rfl ?_)
        (refine nx (aA (gN rfl) rfl rfl rfl rfl rfl) rfl ?_)
        show AWp _ _ _ _ _ _ _
        refine aR ?_
        (refine nx (aM (gN rfl) rfl rfl rfl rfl rfl) rfl ?_)
        (refine nx (aM (gN rfl) rfl rfl rfl rfl rfl) rfl ?_)
        (refine nx (a_mul (gN rfl) rfl rfl rfl rfl rfl rfl (by first | omega | (simp only [List.length_map, List.length_append, List.length_cons, List.length_nil] <;> omega) | (simp <;> omega))) rfl ?_)
        (refine nx (a_add (gN rfl) rfl rfl rfl rfl rfl rfl (by first | omega | (simp only [List.length_map, List.length_append, List.length_cons, List.length_nil] <;> omega) | (simp <;> omega))) rfl ?_)
        (refine nx (aA (gN rfl) rfl rfl rfl rfl rfl) rfl ?_)
        refine ⟨N - (a + 2 * bs), st bs (a + 2 * bs) (a + 2 * bs + 2 * bs) σ, by omega, ⟨a + 2 * bs, σ, rfl, Nat.dvd_add hda (Nat.dvd_refl _), hle, hMg.trans (hσ.1.mono (Nat.zero_le _) hle), fun lo k1 k2 k3 => ?_, ?_, by rw [hst]⟩, ?_⟩
        · by_cases c : lo < a
          · exact (hbl.mg hσ.1 (.inl ⟨hda, Nat.le_refl _⟩)) lo k1 k2 c
          · have : lo = a := by
              rcases Nat.lt_or_ge a lo with c2 | c2
              · have := dvd_gap hda k1 c2
                omega
              · omega
            subst this
            rw [Nat.min_eq_left hle]
            exact hσ.2
        · exact fun lo k1 k2 k3 => (hbr lo k1 (by omega) k3).same fun t h1 h2 => hσ.1.out t (by omega)
        · rw [hst]
          exact wk_sub ⟨rfl, rfl, rfl, rfl, rfl, rfl, rfl, trivial⟩
      · have hge : N < a + 2 * bs := by have := of_decide_eq_false hc; omega
        show AWp _ _ _ _ _ _ _
        refine awp_midE (fun M2 => Mg 0 N L M2 ∧ blk M2 (2 * bs) N 0 N) (st2 bs) ?_ ?_
        · have hfin : ∀ σ, Mg a N M σ → srtB σ a N → Mg 0 N L σ ∧ blk σ (2 * bs) N 0 N := fun σ g1 g2 =>
            ⟨hMg.trans (g1.mono (Nat.zero_le _) (Nat.le_refl _)), fun lo k1 k2 k3 => by
              by_cases c : lo < a
              · exact (hbl.mg g1 (.inl ⟨hda, Nat.le_refl _⟩)) lo k1 k2 c
              · have : lo = a := by
                  rcases Nat.lt_or_ge a lo with c2 | c2
                  · have := dvd_gap hda k1 c2
                    omega
                  · omega
                subst this
                rw [Nat.min_eq_right (by omega)]
                exact g2⟩
          refine aS (aR ?_)
          (refine nx (aM (gN rfl) rfl rfl rfl rfl rfl) rfl ?_)
          (refine nx (aM (gN rfl) rfl rfl rfl rfl rfl) rfl ?_)
          (refine nx (a_add (gN rfl) rfl rfl rfl rfl rfl rfl (by first | omega | (simp only [List.length_map, List.length_append, List.length_cons, List.length_nil] <;> omega) | (simp <;> omega))) rfl ?_)
          (refine nx (aA (gN rfl) rfl rfl rfl rfl rfl) rfl ?_)
          show AWp _ _ _ _ _ _ _
          refine aS (aR ?_)
          (refine nx (aM (gN rfl) rfl rfl rfl rfl rfl) rfl ?_)
          (refine nx (aM (gN rfl) rfl rfl rfl rfl rfl) rfl ?_)
          (refine nx (a_lss (gN rfl) rfl rfl rfl rfl rfl rfl) rfl ?_)
          show AWp _ _ _ _ _ _ _
          refine aC rfl (fun hc => ?_) (fun hc => aK ?_)
          · have hm : a + bs < N := by have := of_decide_eq_true hc; omega
            have p1 := hbr a hda1 (Nat.le_refl _) (by omega)
            have p2 := hbr (a + bs) (Nat.dvd_add hda1 (Nat.dvd_refl _)) (by omega) (by omega)
            rw [Nat.min_eq_left (by omega)] at p1
            rw [Nat.min_eq_right (by omega)] at p2
            have hr := symM_abs cmp fc hcm hv (N - a) M a (a + bs) N (Nat.le_refl _) (by omega) (by omega) (by omega) (by omega) p1 p2
            rw [hMl] at hr
            refine awp_regionE 5 rfl rfl rfl rfl rfl rfl hr (by kernel_rfl) (fun σ => by kernel_rfl) (fun σ => by kernel_rfl) (fun σ => rfl) (fun σ => hnb_of (by kernel_rfl)) ?_
            (refine nx (aM (gN rfl) rfl rfl rfl rfl rfl) rfl ?_)
            (refine nx (aM (gN rfl) rfl rfl rfl rfl rfl) rfl ?_)
            (refine nx (aM (gN rfl) rfl rfl rfl rfl rfl) rfl ?_)
            (refine nx (aM (gN rfl) rfl rfl rfl rfl rfl) rfl ?_)
            (refine nx (aM (gN rfl) rfl rfl rfl rfl rfl) rfl ?_)
            refine ⟨rfl, ⟨rfl, trivial⟩, fun σ hσ => ⟨by kernel_rfl, ?_⟩⟩
            exact ⟨σ, hfin σ hσ.1 hσ.2, by rw [hst2]; exact wk_sub ⟨rfl, rfl, rfl, rfl, rfl, trivial⟩⟩
          · have hm : N ≤ a + bs := by have := of_decide_eq_false hc; omega
            refine ⟨M, hfin M (Mg.refl _ _ _) ?_, by rw [hst2]; exact wk_sub ⟨rfl, rfl, rfl, rfl, rfl, trivial⟩⟩
            by_cases c : a < N
            · have p1 := hbr a hda1 (Nat.le_refl _) c
              rw [Nat.min_eq_right hm] at p1
              exact p1
            · exact fun p q x y _ _ _ _ _ => by omega
        intro M2 hM2
        rw [hst2]
        refine aR ?_
        (refine nx (aM (gN rfl) rfl rfl rfl rfl rfl) rfl ?_)
        (refine nx (a_mul (gN rfl) rfl rfl rfl rfl rfl rfl (by first | omega | (simp only [List.length_map, List.length_append, List.length_cons, List.length_nil] <;> omega) | (simp <;> omega))) rfl ?_)
        (refine nx (aA (gN rfl) rfl rfl rfl rfl rfl) rfl ?_)
        refine ⟨2 * N - bs * 2, st2 (bs * 2) M2, by omega, ⟨bs * 2, M2, rfl, by omega, .inr (by omega), hM2.1, by rw [Nat.mul_comm]; exact hM2.2, by rw [hst2]⟩, by rw [hst2]; exact wk_sub ⟨rfl, rfl, rfl, rfl, rfl, trivial⟩⟩
    · have hge : N ≤ bs := by have := of_decide_eq_false hc; omega
      refine ⟨.inl rfl, M, ⟨hMg, ?_⟩, _, Wk.refl _, rfl, rfl, trivial⟩
      by_cases c : 0 < N
      · have := hbl 0 ⟨0, rfl⟩ (Nat.le_refl _) c
        rw [Nat.zero_add, Nat.min_eq_right hge] at this
        exact this
      · exact fun p q x y _ _ _ _ _ => by omega
-- 
theorem sortStableE_abs (cmp : Bd → Bd → Int) (fc : CV) (hcm : ∀ W x y, AFunW Try.prog W fc [x.cw, y.cw] (.val (.i (cmp x y)))) (hv : ∀ x y, cmp x y < 0 ↔ x.v < y.v) (L : List Bd) (hl : L.length ≤ 1000000) : AFunE (Sg := List Bd) Try.prog 58 (rwB L) [.sl 400000 0 L.length 3, .val fc] (symR 0 L.length L) (fun _ => .tup []) (fun σ => rwB σ) := by
  refine afunE_of Try.func58 Try.ntmps58 rfl rfl rfl rfl rfl (fun σ => rfl) ?_
  intro w U hU
  have hr := stableE_abs cmp fc hcm hv L hl
  refine awp_regionE 4 rfl rfl rfl rfl rfl rfl hr (by kernel_rfl) (fun σ => by kernel_rfl) (fun σ => by kernel_rfl) (fun σ => rfl) (fun σ => hnb_of (by kernel_rfl)) ?_
  (refine nx (aM (gN rfl) rfl rfl rfl rfl rfl) rfl ?_)
  (refine nx (aM (gN rfl) rfl rfl rfl rfl rfl) rfl ?_)
  (refine nx (a_lenM (gN rfl) rfl rfl rfl rfl rfl rfl rfl) rfl ?_)
  (refine nx (aM (gN rfl) rfl rfl rfl rfl rfl) rfl ?_)
  refine ⟨rfl, ⟨rfl, trivial⟩, fun σ hσ => ⟨by kernel_rfl, ?_⟩⟩
  exact ⟨.inl rfl, σ, hσ, _, Wk.refl _, rfl, rfl, trivial⟩
theorem AFunE.one {P : Program} {Sg : Type} {R : Sg → Prop} {r : Sg → AV} {post : Sg → AS} {f : FuncId} {pre : AS} {args : List AV} {σ0 : Sg} (h : AFunE P f pre args R r post) (hone : ∀ σ, R σ → σ = σ0) : AFunO P f pre args (r σ0) (post σ0) :=
  ⟨h.1, fun U w hv a0 vs hU hp ha => (h.2 U w hv a0 vs hU hp ha).mono fun e w' ⟨σ, k1, k2⟩ => by rw [hone σ k1] at k2; exact k2⟩
theorem lt_eq : ∀ {A B : List Bd}, A.Pairwise (fun x y => x.v < y.v) → B.Pairwise (fun x y => x.v < y.v) → (∀ x, x ∈ A ↔ x ∈ B) → A = B
  | [], [], _, _, _ => rfl
  | [], b :: B, _, _, h => by have := (h b).2 List.mem_cons_self; cases this
  | a :: A, [], _, _, h => by have := (h a).1 List.mem_cons_self; cases this
  | a :: A, b :: B, hA, hB, h => by
    obtain ⟨a1, a2⟩ := List.pairwise_cons.1 hA
    obtain ⟨b1, b2⟩ := List.pairwise_cons.1 hB
    have e : a = b := by
      rcases List.mem_cons.1 ((h a).1 List.mem_cons_self) with e | e
      · exact e
      · rcases List.mem_cons.1 ((h b).2 List.mem_cons_self) with e' | e'
        · exact e'.symm
        · have := a1 b e'
          have := b1 a e
          omega
    subst e
    rw [lt_eq a2 b2 fun x => ⟨fun hx => ?_, fun hx => ?_⟩]
    · rcases List.mem_cons.1 ((h x).1 (List.mem_cons_of_mem _ hx)) with e | e
      · have := a1 x hx
        rw [e] at this
        omega
      · exact e
    · rcases List.mem_cons.1 ((h x).2 (List.mem_cons_of_mem _ hx)) with e | e
      · have := b1 x hx
        rw [e] at this
        omega
      · exact e
theorem sym_pair {L σ : List Bd} (hd : (L.map Bd.v).Nodup) (h : symR 0 L.length L σ) : σ.Pairwise (fun x y => x.v < y.v) := by
  have hp := h.1.perm
  have hn : (σ.map Bd.v).Nodup := (hp.map Bd.v).nodup_iff.2 hd
  rw [List.pairwise_iff_getElem]
  intro i j hi hj hij
  have h1 := h.2 i j σ[i] σ[j] (Nat.zero_le _) hij (by rw [← h.1.len]; exact hj) (List.getElem?_eq_getElem hi) (List.getElem?_eq_getElem hj)
  have h2 := (List.pairwise_iff_getElem.1 hn) i j (by simpa using hi) (by simpa using hj) hij
  simp only [List.getElem_map] at h2
  omega
theorem cmpB_lt (x y : Bd) : cmpB x y < 0 ↔ x.v < y.v := by
  unfold cmpB cmpZ
  split
  · simp_all
  · split <;> simp_all <;> omega
theorem sym_sort {L σ : List Bd} (hd : (L.map Bd.v).Nodup) (h : symR 0 L.length L σ) : σ = sortF L := by
  have hs := ins_srt cmpB_lt (a := 0) (b := L.length) L (Nat.zero_le _) (Nat.le_refl _)
  rw [Nat.zero_add] at hs
  refine lt_eq (sym_pair hd h) (sym_pair hd hs) fun x => ?_
  rw [h.1.perm.mem_iff]
  exact hs.1.perm.mem_iff.symm
theorem normD_abs (W : World) (L : List Bd) (hl : L.length ≤ 1000000) (hd : (L.map Bd.v).Nodup) (hb : bdsOk L) : AFun Try.prog W 34 [.lst (L.map Bd.cv)] (.val (.lst ((normF L).map Bd.cv))) :=
  normG_abs W L hl hb (firstsG_abs L hl ((sortStableE_abs cmpB (.sc (.func (.func 59) #[] #[])) (fun W x y => .inr ⟨_, rfl, cmpB_abs W x y⟩) cmpB_lt L hl).one fun σ hσ => sym_sort hd hσ))
theorem vr_len {c : Cl} {H r : Nat → Nat} {E} (h : ClsC c H r E) (hv : vrOk c.vr) : c.vr.length ≤ c.ns.length := by
  have hn : (c.vr.map Prod.snd).Nodup := by
    have h1 : c.vr.Pairwise (fun a b => a.1 ≠ b.1) := List.pairwise_map.1 hv.1
    refine List.pairwise_map.2 (List.Pairwise.imp_of_mem (fun {a b} ha hb hab e => hab ?_) h1)
    have e1 := (h.vrt a.1 a.2 (lookV_mem hv.1 ha)).2
    have e2 := (h.vrt b.1 b.2 (lookV_mem hv.1 hb)).2
    rw [e] at e1
    omega
  have := nodup_le c.ns.length hn (fun x hx => by
    obtain ⟨p, hp, rfl⟩ := List.mem_map.1 hx
    exact (h.vrt p.1 p.2 (lookV_mem hv.1 hp)).1)
  simpa using this
def ToldU (l : List (Tm × Tm)) (r : List Bd × Bool) : Prop := (r.2 = false ∧ r.1 = [] ∧ ∀ τ, ¬ uni τ l) ∨ (r.2 = true ∧ ∃ s : List Bd, Mgu (imgB s) l ∧ (∀ b ∈ s, 0 ≤ b.v) ∧ (∀ v, 0 ≤ v → imgB s v = varT v ∨ ((imgB s v).rng ∧ (imgB s v).size ≤ 90000000000)) ∧ r.1 = normF s)
theorem ToldU.no {l : List (Tm × Tm)} {r : List Bd × Bool} (h : ToldU l r) (hn : ∀ τ, ¬ uni τ l) : r = ([], false) := by
  rcases h with ⟨h1, h2, _⟩ | ⟨_, s, hs, _⟩
  · cases r; simp_all
  · exact absurd hs.uni (hn _)
theorem ToldU.yes {l : List (Tm × Tm)} {r : List Bd × Bool} (h : ToldU l r) {u : List Bd} (hu : Mgu (imgB u) l) (hu0 : ∀ b ∈ u, 0 ≤ b.v) : r = (normF u, true) ∧ ∀ v, 0 ≤ v → imgB u v = varT v ∨ ((imgB u v).rng ∧ (imgB u v).size ≤ 90000000000) := by
  rcases h with ⟨_, _, h3⟩ | ⟨h1, s, hs, h0, hb, h2⟩
  · exact absurd hu.uni (h3 _)
  · refine ⟨?_, fun v hv => by rw [hs.one hu hv]; exact hb v hv⟩
    rw [← mgu_norm h0 hu0 hs hu, ← h2, ← h1]
theorem told_bind {l : List (Tm × Tm)} {r : List Bd × Bool} (h : ToldU l r) {vr vr' : List (Int × Nat)} (hv : vrOk vr) (hvb : ∀ p ∈ vr, p.1 ≤ 9223372036854775807) (hp : vr'.Perm vr) {g : Nat → Tm} {u : List Bd} (hu : u = vr'.map fun p => (⟨p.1, g p.2⟩ : Bd)) (hm : ∀ s : List Bd, (∀ v, findB s v = (lookV vr v).map g) → Mgu (imgB s) l) : r = (normF u, true) ∧ (u.map Bd.v).Nodup ∧ bdsOk u := by
  have hf : ∀ v, findB u v = (lookV vr v).map g := fun v => by rw [hu]; exact findB_bind hv.1 hp g v
  have hu0 : ∀ b ∈ u, 0 ≤ b.v := fun b hb => by
    rw [hu] at hb
    obtain ⟨p, hp2, rfl⟩ := List.mem_map.1 hb
    exact hv.2 p (hp.mem_iff.1 hp2)
  obtain ⟨h1, h2⟩ := h.yes (hm u hf) hu0
  refine ⟨h1, ?_, fun b hb => ?_⟩
  · rw [hu, List.map_map]
    exact (hp.map Prod.fst).nodup_iff.2 hv.1
  · have h3 := h2 b.v (hu0 b hb)
    have e : imgB u b.v = b.t := by
      unfold imgB
      rw [hf]
      rw [hu] at hb
      obtain ⟨p, hp2, rfl⟩ := List.mem_map.1 hb
      show ((lookV vr p.1).map g).getD _ = _
      rw [lookV_mem hv.1 (hp.mem_iff.1 hp2)]
      rfl
    rw [e] at h3
    rcases h3 with h3 | h3
    · rw [h3]
      have hb1 : b.v ≤ 9223372036854775807 := by
        rw [hu] at hb
        obtain ⟨p, hp2, rfl⟩ := List.mem_map.1 hb
        exact hvb p (hp.mem_iff.1 hp2)
      have hb0 := hu0 b hb
      exact ⟨leaf_rng (by omega) (by omega), by rw [Tm.size_var (by rw [varT_f]; omega)]; decide⟩
    · exact h3
-- 
set_option maxHeartbeats 2000000 in
theorem uPairs_abs (W : World) (l : List (Tm × Tm)) (hl : ∀ p ∈ l, (p.1.rng ∧ p.1.ok) ∧ (p.2.rng ∧ p.2.ok)) (hpl : plcS l ≤ 1000) (r : List Bd × Bool) (hT : ToldU l r) : AFun Try.prog W 26 [.lst (l.map prv)] (.tup [.lst (r.1.map Bd.cv), .b r.2]) := by
  obtain ⟨k, j, e1, f1, f2⟩ := pairs_spec l
  have hj := e1 k (Nat.le_refl _)
  have hja := uJoinAll_abs k l j hj hl hpl
  refine afun_of (rs := [.lst (r.1.map Bd.cv), .b r.2]) Try.func26 Try.ntmps26 rfl rfl rfl rfl ?_
  intro w U hW
  refine aS (aR ?_)
  (refine nx (aA (gN rfl) rfl rfl rfl rfl rfl) rfl ?_)
  (refine nx (aA (gN rfl) rfl rfl rfl rfl rfl) rfl ?_)
  show AWp _ _ _ _ _ _ _
  refine aS (aR ?_)
  (refine nx (a_callO (gN rfl) rfl rfl rfl rfl rfl (newC_abs) (by repeat (first | exact trivial | refine ⟨rfl, ?_⟩)) rfl rfl rfl rfl (fun k v h => by first | (rw [hW.1] at h; cases h) | (have h2 := hU k v h; cases h2))) rfl ?_)
  (refine nx (aA (gN rfl) rfl rfl rfl rfl rfl) rfl ?_)
  show AWp _ _ _ _ _ _ _
  refine aS (aS (aR ?_))
  (refine nx (aM (gN rfl) rfl rfl rfl rfl rfl) rfl ?_)
  (refine nx (aM (gN rfl) rfl rfl rfl rfl rfl) rfl ?_)
  (refine nx (a_callO (gN rfl) rfl rfl rfl rfl rfl (hja) (by repeat (first | exact trivial | refine ⟨rfl, ?_⟩)) (by first | rfl | kernel_rfl) (by first | rfl | kernel_rfl) (by first | rfl | kernel_rfl) (by first | rfl | kernel_rfl) (hnb_of (by first | rfl | kernel_rfl))) rfl ?_)
  (refine nx (a_not (gN rfl) rfl rfl rfl rfl rfl) rfl ?_)
  show AWp _ _ _ _ _ _ _
  cases hj2 : j.2 with
  | false =>
    rw [hT.no (f1 hj2)]
    refine aC rfl (fun hc => ?_) (fun hc => by cases hc)
    refine aS (aR ?_)
    (refine nx (aA (gN rfl) rfl rfl rfl rfl rfl) rfl ?_)
    (refine nx (aA (gN rfl) rfl rfl rfl rfl rfl) rfl ?_)
    show AWp _ _ _ _ _ _ _
    exact aT (And.intro (.inr rfl) rfl)
  | true =>
    obtain ⟨cn, od, H, r', e2, g1, g2, g3, ki, hcn, n1, n2⟩ := f2 hj2
    obtain ⟨e3, e4⟩ := e2 k (Nat.le_refl _)
    obtain ⟨E', hI⟩ := joinAllC_inv l hj (E := []) ⟨⟨id, id, Cls.nil, by show 0 + sumTo _ 0 ≤ _; simp [sumTo]⟩, (fun x hx => by cases hx), by show sumTo _ 0 ≤ _; simp [sumTo]⟩ rfl hl (by show sumTo _ 0 + _ ≤ _; simpa [sumTo] using hpl) hj2
    have hF := hI.fitU
    have hu0 : usB j.1.ns 0 := fun m => by rw [nS_all hj]; exact ⟨Int.le_refl _, Int.le_refl _⟩
    obtain ⟨hF1, hu1, hh1, hhl⟩ := countC_keep k 0 e3 hF (by simpa using hu0) (by omega) (fun h hm => by cases hm) (Nat.le_refl _)
    have hF2 := ordC_fit k 0 e4 hF1 (fun h hm => hh1 h (List.mem_filter.1 hm).1) (by decide) hu1
    have hnsl : od.1.ns.length ≤ 1000 := Nat.le_trans (len_pw _) hF2.big
    have hod : ∀ x ∈ od.2, x < od.1.ns.length := fun x hx => (ki.hd x hx).1
    have hol : od.2.length ≤ 1000 := Nat.le_trans (nodup_le _ ki.nd hod) hnsl
    have hor := uOrd_abs k j.1 cn od e3 e4 hF hu0 hol
    have hvr : vrOk od.1.vr := vr_ord k 0 e4 (vr_count k 0 e3 (vr_all hj ⟨List.nodup_nil, fun p hp => by cases hp⟩))
    have hvl := vr_len g1 hvr
    have hvb : ∀ p ∈ od.1.vr, p.1 ≤ 9223372036854775807 := fun p hp => by
      obtain ⟨v1, v2⟩ := g1.vrt p.1 p.2 (lookV_mem hvr.1 hp)
      have v3 := ((Tm.rng_iff _).1 ((trmOk_iff _).1 hF2.trm p.2 v1).1).1
      omega
    refine aC rfl (fun hc => by cases hc) (fun hc => aK ?_)
    show AWp _ _ _ _ _ _ _
    by_cases h : od.2.length = cn.2.length
    · have h9 : decide ((od.2.length : Int) = cn.2.length) = true := by rw [h]; simp
      rw [h9] at hor
      obtain ⟨k1, tm, e5, c1, c5, c2, hm⟩ := n2 h
      have hFq := (TI.all (t := (od.1, List.replicate od.1.ns.length tm0)) (N := od.1.ns.length) ⟨hF2, by simp, Nat.le_refl _⟩ (fun n hn => hod n (List.mem_reverse.1 hn)) (e5 k1 (Nat.le_refl _))).1.fit
      have hbi := uBind_abs k1 od.1 od.2 tm (e5 k1 (Nat.le_refl _)) hF2 c2 hod hol c1 hFq (by rw [c5]; exact hvr) (by rw [c5]; omega)
      refine aS (aR ?_)
      (refine nx (aM (gN rfl) rfl rfl rfl rfl rfl) rfl ?_)
      (refine nx (a_callO (gN rfl) rfl rfl rfl rfl rfl (hor) (by repeat (first | exact trivial | refine ⟨rfl, ?_⟩)) (by first | rfl | kernel_rfl) (by first | rfl | kernel_rfl) (by first | rfl | kernel_rfl) (by first | rfl | kernel_rfl) (hnb_of (by first | rfl | kernel_rfl))) rfl ?_)
      (refine nx (aM (gN rfl) rfl rfl rfl rfl rfl) rfl ?_)
      (refine nx (aX (gN rfl) rfl rfl rfl rfl rfl rfl) rfl ?_)
      (refine nx (aX (gN rfl) rfl rfl rfl rfl rfl rfl) rfl ?_)
      (refine nx (aA (gN rfl) rfl rfl rfl rfl rfl) rfl ?_)
      (refine nx (aA (gN rfl) rfl rfl rfl rfl rfl) rfl ?_)
      show AWp _ _ _ _ _ _ _
      refine aS (aS (aR ?_))
      (refine nx (aM (gN rfl) rfl rfl rfl rfl rfl) rfl ?_)
      (refine nx (a_not (gN rfl) rfl rfl rfl rfl rfl) rfl ?_)
      show AWp _ _ _ _ _ _ _
      refine aC rfl (fun hc => by cases hc) (fun hc => aK ?_)
      show AWp _ _ _ _ _ _ _
      refine aS (awp_regionE 2 rfl rfl rfl rfl rfl rfl hbi (by kernel_rfl) (fun σ => by kernel_rfl) (fun σ => by kernel_rfl) (fun σ => rfl) (fun σ => hnb_of (by kernel_rfl)) ?_)
      (refine nx (aM (gN rfl) rfl rfl rfl rfl rfl) rfl ?_)
      (refine nx (aM (gN rfl) rfl rfl rfl rfl rfl) rfl ?_)
      refine ⟨rfl, ⟨rfl, rfl, rfl, rfl, rfl, rfl, rfl, trivial⟩, fun σ hσ => ⟨by kernel_rfl, ?_⟩⟩
      obtain ⟨vr', hp, hσ1⟩ := hσ
      rw [c5] at hp
      obtain ⟨t1, t2, t3⟩ := told_bind hT hvr hvb hp hσ1 hm
      have hsl : σ.1.length ≤ 1000000 := by rw [hσ1, List.length_map, hp.length_eq]; omega
      (refine nx (a_call (gN rfl) rfl rfl rfl rfl rfl (normD_abs _ σ.1 hsl t2 t3)) rfl ?_)
      (refine nx (aA (gN rfl) rfl rfl rfl rfl rfl) rfl ?_)
      (refine nx (aA (gN rfl) rfl rfl rfl rfl rfl) rfl ?_)
      show AWp _ _ _ _ _ _ _
      rw [t1]
      exact aT (And.intro (.inr rfl) rfl)
    · have h9 : decide ((od.2.length : Int) = cn.2.length) = false := by
        rw [decide_eq_false_iff_not]
        omega
      rw [h9] at hor
      rw [hT.no (n1 h)]
      refine aS (aR ?_)
      (refine nx (aM (gN rfl) rfl rfl rfl rfl rfl) rfl ?_)
      (refine nx (a_callO (gN rfl) rfl rfl rfl rfl rfl (hor) (by repeat (first | exact trivial | refine ⟨rfl, ?_⟩)) (by first | rfl | kernel_rfl) (by first | rfl | kernel_rfl) (by first | rfl | kernel_rfl) (by first | rfl | kernel_rfl) (hnb_of (by first | rfl | kernel_rfl))) rfl ?_)
      (refine nx (aM (gN rfl) rfl rfl rfl rfl rfl) rfl ?_)
      (refine nx (aX (gN rfl) rfl rfl rfl rfl rfl rfl) rfl ?_)
      (refine nx (aX (gN rfl) rfl rfl rfl rfl rfl rfl) rfl ?_)
      (refine nx (aA (gN rfl) rfl rfl rfl rfl rfl) rfl ?_)
      (refine nx (aA (gN rfl) rfl rfl rfl rfl rfl) rfl ?_)
      show AWp _ _ _ _ _ _ _
      refine aS (aS (aR ?_))
      (refine nx (aM (gN rfl) rfl rfl rfl rfl rfl) rfl ?_)
      (refine nx (a_not (gN rfl) rfl rfl rfl rfl rfl) rfl ?_)
      show AWp _ _ _ _ _ _ _
      refine aC rfl (fun hc => ?_) (fun hc => by cases hc)
      refine aS (aR ?_)
      (refine nx (aA (gN rfl) rfl rfl rfl rfl rfl) rfl ?_)
      (refine nx (aA (gN rfl) rfl rfl rfl rfl rfl) rfl ?_)
      show AWp _ _ _ _ _ _ _
      exact aT (And.intro (.inr rfl) rfl)
-- 
set_option maxHeartbeats 2000000 in
theorem uUnify_abs (W : World) (a b : Tm) (ha : a.rng) (hao : a.ok) (hb : b.rng) (hbo : b.ok) (hs : a.size + b.size ≤ 1000) (r : List Bd × Bool) (hT : ToldU [(a, b)] r) : AFun Try.prog W 11 [a.cw, b.cw] (.tup [.lst (r.1.map Bd.cv), .b r.2]) := by
  have hl : ∀ p ∈ [(a, b)], (p.1.rng ∧ p.1.ok) ∧ (p.2.rng ∧ p.2.ok) := fun p hp => by
    rw [List.mem_singleton] at hp
    rw [hp]
    exact ⟨⟨ha, hao⟩, hb, hbo⟩
  have hpl : plcS [(a, b)] ≤ 1000 := by unfold plcS; simpa using hs
  have hpa := uPairs_abs W [(a, b)] hl hpl r hT
  refine afun_of (rs := [.lst (r.1.map Bd.cv), .b r.2]) Try.func11 Try.ntmps11 rfl rfl rfl rfl ?_
  intro w U hW
  refine aS (aR ?_)
  (refine nx (a_box (gN rfl) rfl rfl rfl rfl rfl) rfl ?_)
  (refine nx (a_box (gN rfl) rfl rfl rfl rfl rfl) rfl ?_)
  (refine nx (aA (gN rfl) rfl rfl rfl rfl rfl) rfl ?_)
  (refine nx (aA (gN rfl) rfl rfl rfl rfl rfl) rfl ?_)
  show AWp _ _ _ _ _ _ _
  refine aS (aR ?_)
  (refine nx (aL (gN rfl) rfl rfl rfl rfl rfl rfl rfl rfl rfl rfl rfl rfl) rfl ?_)
  (refine nx (aL (gN rfl) rfl rfl rfl rfl rfl rfl rfl rfl rfl rfl rfl rfl) rfl ?_)
  (refine nx (a_buildA [2, 2] (gN rfl) rfl rfl rfl rfl rfl rfl rfl rfl rfl rfl rfl rfl) rfl ?_)
  (refine nx (a_bslice (gN rfl) rfl rfl rfl rfl rfl rfl rfl rfl rfl rfl rfl rfl rfl) rfl ?_)
  (refine nx (a_call (gN rfl) rfl rfl rfl rfl rfl (uPairs_abs _ [(a, b)] hl hpl r hT)) rfl ?_)
  (refine nx (aX (gN rfl) rfl rfl rfl rfl rfl rfl) rfl ?_)
  (refine nx (aX (gN rfl) rfl rfl rfl rfl rfl rfl) rfl ?_)
  (refine nx (aA (gN rfl) rfl rfl rfl rfl rfl) rfl ?_)
  (refine nx (aA (gN rfl) rfl rfl rfl rfl rfl) rfl ?_)
  show AWp _ _ _ _ _ _ _
  exact aT (And.intro (.inr rfl) rfl)
end Go.Proofs.Ytiammidklcjelab
namespace Go.Proofs.Ytiammidklcjelab
set_option linter.unusedVariables false
set_option linter.unusedSimpArgs false
theorem two_three : ∀ E : Nat, 2 ^ E ≤ 3 ^ E
  | 0 => Nat.le_refl _
  | E + 1 => by
    have := two_three E
    rw [Nat.pow_succ, Nat.pow_succ]; omega
theorem k_two_three : ∀ k : Nat, k * 2 ^ k ≤ 3 ^ k
  | 0 => by decide
  | 1 => by decide
  | 2 => by decide
  | k + 3 => by
    have h := k_two_three (k + 2)
    have e1 : (k + 3) * 2 ^ (k + 3) = (2 * (k + 3)) * 2 ^ (k + 2) := by
      rw [Nat.pow_succ 2 (k + 2), Nat.mul_comm (2 ^ (k + 2)) 2, ← Nat.mul_assoc, Nat.mul_comm (k + 3) 2]
    have e2 : 3 ^ (k + 3) = 3 * 3 ^ (k + 2) := by rw [Nat.pow_succ 3 (k + 2), Nat.mul_comm]
    rw [e1, e2]
    have h2 : (2 * (k + 3)) * 2 ^ (k + 2) ≤ (3 * (k + 2)) * 2 ^ (k + 2) := Nat.mul_le_mul_right _ (by omega)
    rw [Nat.mul_assoc 3] at h2
    omega
def Big (E s : Nat) : Prop := 2 ^ E * (s + 1) ≤ 2 * 3 ^ E
theorem Big.succ {E s : Nat} (h : Big E s) : Big (E + 1) s := by
  unfold Big at *
  rw [Nat.pow_succ, Nat.pow_succ, Nat.mul_assoc, Nat.mul_left_comm]
  omega
theorem Big.up {E F s : Nat} (h : Big E s) (hf : E ≤ F) : Big F s := by
  induction hf with
  | refl => exact h
  | step _ ih => exact ih.succ
theorem Big.sum {E : Nat} : ∀ (l : List Nat), (∀ s ∈ l, Big E s) → 2 ^ E * (l.sum + l.length) ≤ 2 * l.length * 3 ^ E
  | [], _ => by simp
  | s :: l, h => by
    have h1 : 2 ^ E * (s + 1) ≤ 2 * 3 ^ E := h s (by simp)
    have h2 := Big.sum l fun x hx => h x (List.mem_cons_of_mem _ hx)
    rw [List.sum_cons, List.length_cons, show s + l.sum + (l.length + 1) = (s + 1) + (l.sum + l.length) by omega, Nat.mul_add, show 2 * (l.length + 1) * 3 ^ E = 2 * 3 ^ E + 2 * l.length * 3 ^ E by rw [Nat.mul_add, Nat.add_mul, Nat.add_comm]]
    omega
theorem Big.node {E : Nat} (l : List Nat) (h : ∀ s ∈ l, Big E s) : Big (E + l.length) (1 + l.sum) := by
  have h1 := Big.sum l h
  have h23 := two_three E
  have hk := k_two_three l.length
  unfold Big
  rw [Nat.pow_add, Nat.pow_add]
  obtain ⟨A, hA⟩ : ∃ A, A = 2 ^ E := ⟨_, rfl⟩
  obtain ⟨B, hB⟩ : ∃ B, B = 3 ^ E := ⟨_, rfl⟩
  rw [← hA, ← hB] at h1 h23 ⊢
  match l, h1, hk with
  | [], h1, hk => simp; omega
  | [s], h1, hk =>
    simp only [List.sum_cons, List.sum_nil, List.length_cons, List.length_nil, Nat.add_zero, Nat.zero_add, Nat.pow_one, Nat.mul_one] at h1 ⊢
    rw [Nat.mul_comm A 2, Nat.mul_assoc, show A * (1 + s + 1) = A * (s + 1) + A by rw [show 1 + s + 1 = (s + 1) + 1 by omega, Nat.mul_add, Nat.mul_one]]
    omega
  | s :: t :: l, h1, hk =>
    obtain ⟨m, hm⟩ : ∃ m, m = s :: t :: l := ⟨_, rfl⟩
    have hlen : 2 ≤ m.length := by rw [hm]; simp
    rw [← hm] at h1 hk ⊢
    obtain ⟨P, hP⟩ : ∃ P, P = 2 ^ m.length := ⟨_, rfl⟩
    obtain ⟨Q, hQ⟩ : ∃ Q, Q = 3 ^ m.length := ⟨_, rfl⟩
    rw [← hP, ← hQ] at hk
    rw [← hP, ← hQ]
    have h2 : A * (1 + m.sum + 1) ≤ A * (m.sum + m.length) := Nat.mul_le_mul_left _ (by omega)
    have h3 : A * (1 + m.sum + 1) ≤ 2 * m.length * B := Nat.le_trans h2 h1
    have h4 : P * (A * (1 + m.sum + 1)) ≤ P * (2 * m.length * B) := Nat.mul_le_mul_left _ h3
    have h5 : P * (2 * m.length * B) = 2 * (m.length * P * B) := by
      rw [Nat.mul_assoc 2, Nat.mul_left_comm P 2, ← Nat.mul_assoc P, Nat.mul_comm P m.length]
    have h6 : m.length * P * B ≤ Q * B := Nat.mul_le_mul_right _ hk
    rw [show A * P * (1 + m.sum + 1) = P * (A * (1 + m.sum + 1)) by rw [Nat.mul_comm A P, Nat.mul_assoc], Nat.mul_comm B Q]
    omega
def backS (k v : Int) : Tm := varT (if v < k then v else v - k)
theorem no_self (τ : Int → Tm) (x : Tm) {f : Int} (hf : ¬ f < 0) : repT τ x ≠ repT τ ⟨f, [x]⟩ := fun e => by
  have h1 : (repT τ ⟨f, [x]⟩).size = 1 + (repT τ x).size := by
    rw [repT_sym (t := ⟨f, [x]⟩) hf, Tm.size_sym (t := ⟨f, _⟩) hf]; simp
  rw [← e] at h1
  omega
theorem rep_ground {x : Tm} (hx : x.vs = []) (τ : Int → Tm) : repT τ x = x.strip := rep_idem fun u hu => by rw [hx] at hu; cases hu
theorem left_free {s : List Bd} {E : List (Tm × Tm)} (h : Mgu (imgB s) E) {t : Tm} {u : Int} (hu : u ∈ (repT (imgB s) t).vs) : findB (normF s) u = none := by
  have hu0 := vs_nonneg _ u hu
  rw [findN s hu0, h.rep_vs hu, if_pos]
  show (decide ((varT u).f < 0) && decide (-1 - (varT u).f = u)) = true
  rw [varT_f, decide_eq_true (by omega), decide_eq_true (by omega)]; rfl
def Shut (S : List Tm) : Prop := ∀ s ∈ S, ∀ p ∈ s.ps, p ∈ S
def Hits (S : List Tm) (σ : Int → Tm) (t : Tm) : Prop := ∃ s ∈ S, repT σ t = repT σ s
def Orig (S : List Tm) (σ : Int → Tm) : Prop := ∀ v, 0 ≤ v → ¬ (σ v).f < 0 → ∃ s ∈ S, ¬ s.f < 0 ∧ repT σ s = σ v
theorem Hits.sym {S : List Tm} {σ : Int → Tm} {t : Tm} (h : Hits S σ t) (ho : Orig S σ) (hb : ∀ v, 0 ≤ v → (σ v).strip = σ v) (hf : ¬ (repT σ t).f < 0) : ∃ s ∈ S, ¬ s.f < 0 ∧ repT σ t = repT σ s := by
  obtain ⟨s, hs, e⟩ := h
  by_cases hs0 : s.f < 0
  · have h0 : 0 ≤ -1 - s.f := by omega
    have e2 : repT σ s = σ (-1 - s.f) := by rw [repT_var hs0, hb _ h0]
    rw [e, e2] at hf
    obtain ⟨q, hq, hq0, e3⟩ := ho _ h0 hf
    exact ⟨q, hq, hq0, by rw [e, e2, e3]⟩
  · exact ⟨s, hs, hs0, e⟩
theorem sum_map_le {S : List Tm} {f g : Tm → Nat} (h : ∀ x ∈ S, f x ≤ g x) : (S.map f).sum ≤ (S.map g).sum := by
  induction S with
  | nil => exact Nat.le_refl _
  | cons a S ih =>
    rw [List.map_cons, List.map_cons, List.sum_cons, List.sum_cons]
    have h1 := h a (by simp)
    have h2 := ih fun x hx => h x (List.mem_cons_of_mem _ hx)
    omega
theorem sum_map_add {S : List Tm} {f g : Tm → Nat} {c : Nat} {s : Tm} (hs : s ∈ S) (hc : f s + c ≤ g s) (h : ∀ x ∈ S, f x ≤ g x) : (S.map f).sum + c ≤ (S.map g).sum := by
  induction S with
  | nil => cases hs
  | cons a S ih =>
    rw [List.map_cons, List.map_cons, List.sum_cons, List.sum_cons]
    have h1 := h a (by simp)
    rcases List.mem_cons.1 hs with rfl | hs
    · have := sum_map_le (S := S) fun x hx => h x (List.mem_cons_of_mem _ hx)
      omega
    · have := ih hs fun x hx => h x (List.mem_cons_of_mem _ hx)
      omega
def arN (S : List Tm) (σ : Int → Tm) (n : Nat) : Nat := (S.map fun s => if (repT σ s).size ≤ n then s.ps.length else 0).sum
theorem arN_mono {S : List Tm} {σ : Int → Tm} {n m : Nat} (h : n ≤ m) : arN S σ n ≤ arN S σ m := sum_map_le fun x _ => by
  split
  · rw [if_pos (by omega)]; exact Nat.le_refl _
  · exact Nat.zero_le _
theorem Big.one (E : Nat) : Big E 1 := by
  unfold Big
  have := two_three E
  omega
theorem img_big {S : List Tm} {σ : Int → Tm} (hc : Shut S) (ho : Orig S σ) (hb : ∀ v, 0 ≤ v → (σ v).strip = σ v) : ∀ (n : Nat), ∀ s ∈ S, ¬ s.f < 0 → (repT σ s).size ≤ n → Big (arN S σ n) (repT σ s).size := by
  intro n
  induction n with
  | zero => intro s _ _ h; have := Tm.size_pos (repT σ s); omega
  | succ n ih =>
    intro s hs hf hn
    by_cases hle : (repT σ s).size ≤ n
    · exact (ih s hs hf hle).up (arN_mono (by omega))
    have hsz : (repT σ s).size = n + 1 := by omega
    have hps : s.ps = s.l := Tm.ps_of_sym (by omega)
    have he : repT σ s = ⟨s.f, s.l.map (repT σ)⟩ := repT_sym hf
    have h1 : (repT σ s).size = 1 + ((s.l.map (repT σ)).map Tm.size).sum := by rw [he]; exact Tm.size_sym (t := ⟨s.f, s.l.map (repT σ)⟩) hf
    have hparts : ∀ x ∈ (s.l.map (repT σ)).map Tm.size, Big (arN S σ n) x := by
      intro x hx
      rw [List.map_map] at hx
      obtain ⟨p, hp, rfl⟩ := List.mem_map.1 hx
      show Big _ (repT σ p).size
      have hpS : p ∈ S := hc s hs p (by rw [hps]; exact hp)
      have hlt : (repT σ p).size < (repT σ s).size := Tm.size_part (by rw [he, Tm.ps_of_sym (by show 0 ≤ s.f; omega)]; exact List.mem_map.2 ⟨p, hp, rfl⟩)
      by_cases hv : (repT σ p).f < 0
      · rw [Tm.size_var hv]; exact Big.one _
      · obtain ⟨q, hq, hq0, e⟩ := Hits.sym ⟨p, hpS, rfl⟩ ho hb hv
        rw [e] at hlt ⊢
        exact ih q hq hq0 (by omega)
    have h2 := Big.node _ hparts
    rw [← h1] at h2
    refine h2.up ?_
    rw [List.length_map, List.length_map]
    refine sum_map_add hs ?_ fun x _ => ?_
    · rw [if_neg (by omega), if_pos (by omega), hps]; omega
    · split
      · rw [if_pos (by omega)]; exact Nat.le_refl _
      · exact Nat.zero_le _
def arA (S : List Tm) : Nat := (S.map fun s => s.ps.length).sum
theorem hits_big {S : List Tm} {σ : Int → Tm} (hc : Shut S) (ho : Orig S σ) (hb : ∀ v, 0 ≤ v → (σ v).strip = σ v) {t : Tm} (h : Hits S σ t) : Big (arA S) (repT σ t).size := by
  by_cases hv : (repT σ t).f < 0
  · rw [Tm.size_var hv]; exact Big.one _
  · obtain ⟨q, hq, hq0, e⟩ := h.sym ho hb hv
    rw [e]
    refine (img_big hc ho hb _ q hq hq0 (Nat.le_refl _)).up (sum_map_le fun x _ => ?_)
    split
    · exact Nat.le_refl _
    · exact Nat.zero_le _
theorem arA_app (S T : List Tm) : arA (S ++ T) = arA S + arA T := by unfold arA; rw [List.map_append, List.sum_append]
theorem arA_flat (t : Tm) : arA t.flat + 1 = t.size := by
  induction t using Tm.indp with
  | h t ih =>
    have : ∀ l : List Tm, (∀ s ∈ l, arA s.flat + 1 = s.size) → arA (l.flatMap Tm.flat) + l.length = (l.flatMap Tm.flat).length := by
      intro l
      induction l with
      | nil => intro _; rfl
      | cons a l ih2 =>
        intro h
        have h1 := h a (by simp)
        have h2 := ih2 fun s hs => h s (List.mem_cons_of_mem _ hs)
        unfold Tm.size at h1
        rw [List.flatMap_cons, arA_app, List.length_append, List.length_cons]
        omega
    have h3 := this t.ps ih
    rw [Tm.size_eq, Tm.flat_eq]
    show ((t :: t.ps.flatMap Tm.flat).map fun s : Tm => s.ps.length).sum + 1 = _
    rw [List.map_cons, List.sum_cons]
    have h4 : arA (t.ps.flatMap Tm.flat) = ((t.ps.flatMap Tm.flat).map fun s : Tm => s.ps.length).sum := rfl
    omega
theorem flat_shut (t : Tm) : Shut t.flat := by
  induction t using Tm.indp with
  | h t ih =>
    intro s hs p hp
    rw [Tm.flat_eq] at hs ⊢
    rcases List.mem_cons.1 hs with rfl | hs
    · refine List.mem_cons_of_mem _ (List.mem_flatMap.2 ⟨p, hp, ?_⟩)
      rw [Tm.flat_eq]; simp
    · obtain ⟨q, hq, hs⟩ := List.mem_flatMap.1 hs
      exact List.mem_cons_of_mem _ (List.mem_flatMap.2 ⟨q, hq, ih q hq s hs p hp⟩)
def subsP (l : List (Tm × Tm)) : List Tm := l.flatMap fun p => p.1.flat ++ p.2.flat
theorem subs_shut (l : List (Tm × Tm)) : Shut (subsP l) := by
  intro s hs p hp
  obtain ⟨q, hq, hs⟩ := List.mem_flatMap.1 hs
  refine List.mem_flatMap.2 ⟨q, hq, ?_⟩
  rcases List.mem_append.1 hs with hs | hs
  · exact List.mem_append_left _ (flat_shut _ s hs p hp)
  · exact List.mem_append_right _ (flat_shut _ s hs p hp)
theorem subs_has {l : List (Tm × Tm)} {p : Tm × Tm} (h : p ∈ l) : p.1 ∈ subsP l ∧ p.2 ∈ subsP l := by
  refine ⟨List.mem_flatMap.2 ⟨p, h, List.mem_append_left _ ?_⟩, List.mem_flatMap.2 ⟨p, h, List.mem_append_right _ ?_⟩⟩ <;> (rw [Tm.flat_eq]; simp)
theorem subs_ar : ∀ l : List (Tm × Tm), (∀ p ∈ l, p.1.size ≤ 16 ∧ p.2.size ≤ 16) → arA (subsP l) ≤ 30 * l.length
  | [], _ => Nat.le_refl _
  | p :: l, h => by
    have h1 := h p (by simp)
    have h2 := subs_ar l fun q hq => h q (List.mem_cons_of_mem _ hq)
    have e : subsP (p :: l) = (p.1.flat ++ p.2.flat) ++ subsP l := List.flatMap_cons
    have h3 := arA_flat p.1
    have h4 := arA_flat p.2
    rw [e, arA_app, arA_app, List.length_cons]
    omega
theorem big_60 {s E : Nat} (hE : E ≤ 60) (h : Big E s) : s ≤ 90000000000 := by
  have h := h.up hE
  unfold Big at h
  have e1 : (2 : Nat) ^ 60 = 1152921504606846976 := by decide
  have e2 : (3 : Nat) ^ 60 = 42391158275216203514294433201 := by decide
  rw [e1, e2] at h
  omega

structure MidU (V : List Int) (S : List Tm) (K : Nat) (s : List Bd) (E : List (Tm × Tm)) : Prop where
  mgu : Mgu (imgB s) E
  bare : bareB s
  inV : inV V s
  orig : Orig S (imgB s)
  len : s.length + frN V s ≤ K
  num : ∀ b ∈ s, b.v ∈ V
theorem rU_spec {V : List Int} (hV : ∀ v ∈ V, 0 ≤ v) {n : Nat} {s : List Bd} {a b : Tm} {E : List (Tm × Tm)} {r} (e : rU n s a b = some r) (hm : Mgu (imgB s) E) (hb : bareB s) (hi : inV V s) (ha : ∀ u ∈ a.vs, u ∈ V) (hbv : ∀ u ∈ b.vs, u ∈ V) : RSpec V E [(a, b)] s r := by
  obtain ⟨m, r', e', h⟩ := rU_ends hV _ _ s a b E rfl rfl hm hb hi ha hbv
  have h1 := rU_le (Nat.le_max_left n m) _ _ _ _ e
  have h2 := rU_le (Nat.le_max_right n m) _ _ _ _ e'
  rw [h1] at h2
  cases h2
  exact h
theorem bnd_len (s : List Bd) (x : Int) (t : Tm) : (bndS s x t).length = s.length + 1 := by unfold bndS; simp
theorem Orig.bnd {S : List Tm} {s : List Bd} (ho : Orig S (imgB s)) (hb : bareB s) {x : Int} {b : Tm} (hin : x ∉ (repT (imgB s) b).vs) (hh : Hits S (imgB s) b) : Orig S (imgB (bndS s x (repT (imgB s) b))) := by
  have hB : (repT (imgB s) b).strip = repT (imgB s) b := rep_bare _ _
  have hr : ∀ t, repT (imgB (bndS s x (repT (imgB s) b))) t = repT (oneS x (repT (imgB s) b)) (repT (imgB s) t) := fun t => by
    rw [rep_two]
    exact rep_congr fun v hv => img_bnd hB (vs_nonneg _ v hv)
  intro v hv hf
  rw [img_bnd hB hv] at hf ⊢
  by_cases h1 : (imgB s v).f < 0
  · obtain ⟨w, hw⟩ : ∃ w, w = -1 - (imgB s v).f := ⟨_, rfl⟩
    have e1 : repT (oneS x (repT (imgB s) b)) (imgB s v) = (oneS x (repT (imgB s) b) w).strip := by rw [repT_var h1, hw]
    rw [e1] at hf ⊢
    unfold oneS at hf ⊢
    by_cases hx : w = x
    · rw [if_pos hx, hB] at hf ⊢
      obtain ⟨q, hq, hq0, e⟩ := hh.sym ho (fun v hv => bare_img hb v) hf
      refine ⟨q, hq, hq0, ?_⟩
      rw [hr, ← e, one_off hin, hB]
    · rw [if_neg hx, varT_strip, varT_f] at hf
      omega
  · obtain ⟨q, hq, hq0, e⟩ := ho v hv h1
    exact ⟨q, hq, hq0, by rw [hr, e]⟩
structure Way (V : List Int) (S : List Tm) (s : List Bd) (a : Tm) : Prop where
  vs : ∀ u ∈ a.vs, u ∈ V
  hits : Hits S (imgB s) a
theorem bnd_num {V : List Int} {s : List Bd} {x : Int} {t : Tm} (h : ∀ b ∈ s, b.v ∈ V) (hx : x ∈ V) : ∀ b ∈ bndS s x t, b.v ∈ V := fun b hb => by
  rcases List.mem_append.1 hb with hb | hb
  · obtain ⟨c, hc, rfl⟩ := List.mem_map.1 hb; exact h c hc
  · rw [List.mem_singleton] at hb; rw [hb]; exact hx
theorem rUgo_var {V : List Int} (hV : ∀ v ∈ V, 0 ≤ v) {S : List Tm} {K n : Nat} {s : List Bd} {E : List (Tm × Tm)} (h : MidU V S K s E) {a b a1 b1 : Tm} (ha1 : a1 = repT (imgB s) a) (hb1 : b1 = repT (imgB s) b) (ha : Way V S s a) (hb : Way V S s b) (hf : a1.f < 0) {s' : List Bd} (hr : rUgo (rU n) s a1 b1 = some (some s')) : Orig S (imgB s') ∧ s'.length = s.length + 1 ∧ ∀ b ∈ s', b.v ∈ V := by
  unfold rUgo at hr
  rw [if_pos hf] at hr
  split at hr
  · cases hr
  · rename_i hin
    cases hr
    have hx : -1 - a1.f ∈ V := rep_inV h.inV ha.vs _ (by rw [← ha1, Tm.vs_var hf]; simp)
    rw [hb1] at hin ⊢
    exact ⟨h.orig.bnd h.bare hin hb.hits, bnd_len _ _ _, bnd_num h.num hx⟩
end Go.Proofs.Ytiammidklcjelab
namespace Go.Proofs.Ytiammidklcjelab
open Go.RowKit
set_option linter.unusedVariables false
set_option linter.unusedSimpArgs false
set_option maxRecDepth 100000
def same7 : List Bd → List Bd → Bool
  | [], [] => true
  | a :: l, b :: m => decide (a.v = b.v) && (sameT a.t b.t && same7 l m)
  | _, _ => false
def lessN (v : Int) : List Bd → Nat
  | [] => 0
  | b :: l => if b.v < v then lessN v l + 1 else 0
def insV (b : Bd) (l : List Bd) : List Bd := l.take (lessN b.v l) ++ [b] ++ l.drop (lessN b.v l)
def knownB (L : List Bd) (i : Nat) (v : Int) : Bool := (L.take i).any fun c => decide (c.v = v)
def rnmF (L : List Bd) : Nat → List Bd
  | 0 => []
  | i + 1 => match L[i]? with
    | none => rnmF L i
    | some b => if knownB L i b.v || idleB b then rnmF L i else insV b (rnmF L i)
theorem nubL8 : ∀ l : List Int, (nub l).length ≤ l.length := by
  refine snoc_ind (by simp [nub]) fun l x ih => ?_
  rw [nub_snoc, List.length_append]
  split
  · simp only [List.length_cons, List.length_nil]; omega
  · rw [List.length_append]; simp only [List.length_cons, List.length_nil]; omega
theorem vsL8 (t : Tm) : t.vs.length ≤ t.size := by
  unfold Tm.vs Tm.size vsL
  rw [List.length_map]
  exact List.length_filter_le _ _
theorem appR_rng {l : List Bd} {t : Tm} (h : t.rng) (hi : ∀ b ∈ l, b.t.rng) : (appR l t).rng := by
  induction t using Tm.ind with
  | h f k ih =>
    obtain ⟨h1, h2⟩ := (Tm.rng_iff _).1 h
    simp only at h1 h2
    by_cases hf : f < 0
    · rw [appR_var hf]
      unfold imgB
      cases hb : findB l (-1 - (Tm.mk f k).f) with
      | none =>
        show (varT (-1 - f)).rng
        exact leaf_rng (by omega) (by omega)
      | some t =>
        obtain ⟨b, hbm, e, _⟩ := findB_mem hb
        show t.rng
        rw [← e]; exact hi b hbm
    · rw [appR_sym hf]
      refine (Tm.rng_iff _).2 ⟨h1, fun s hs => ?_⟩
      obtain ⟨u, hu, rfl⟩ := List.mem_map.1 hs
      exact ih u hu (h2 u hu)
def CndL (g : List Bd → Tm → Tm → Option (Option (List Bd))) (C : List Bd → Tm → Tm → Prop) : List (Tm × Tm) → List Bd → Prop
  | [], _ => True
  | p :: ps, s => C s p.1 p.2 ∧ ∀ s', g s p.1 p.2 = some (some s') → CndL g C ps s'
def Cnd : Nat → List Bd → Tm → Tm → Prop
  | 0, _, _, _ => True
  | n + 1, s, a, b => (s.length ≤ 100000 ∧ ∀ x ∈ s, x.t.rng ∧ x.t.ok) ∧ (a.rng ∧ a.ok ∧ b.rng ∧ b.ok) ∧ ((appR s a).size ≤ 90000000000 ∧ (appR s b).size ≤ 90000000000) ∧ ∀ a2 b2 : Tm, a2 = (if swC (appR s a) (appR s b) then appR s b else appR s a) → b2 = (if swC (appR s a) (appR s b) then appR s a else appR s b) → ¬ a2.f < 0 → a2.f = b2.f → a2.l.length = b2.l.length → CndL (rU n) (Cnd n) (a2.l.zip b2.l) s
end Go.Proofs.Ytiammidklcjelab
namespace Go.Proofs.Ytiammidklcjelab
open Go.RowKit
set_option linter.unusedVariables false
set_option linter.unusedSimpArgs false
def bdsRo (s : List Bd) : Prop := ∀ x ∈ s, x.t.rng ∧ x.t.ok
theorem bnd_ro {s : List Bd} {x : Int} {t : Tm} (h : bdsRo s) (ht : t.rng ∧ t.ok) : bdsRo (bndS s x t) := fun y hy => by
  have h1 : bdsRo [⟨x, t⟩] := fun b hb => by rw [List.mem_singleton] at hb; rw [hb]; exact ht
  rcases List.mem_append.1 hy with hy | hy
  · obtain ⟨c, hc, rfl⟩ := List.mem_map.1 hy
    exact ⟨appR_rng (h c hc).1 fun b hb => (h1 b hb).1, appR_ok (h c hc).2 fun b hb => (h1 b hb).2⟩
  · exact h1 y hy
theorem frn_le {V : List Int} {K : Nat} {s s' : List Bd} (h : s.length + frN V s ≤ K) (hl : s'.length = s.length + 1) (hd : s' = s ∨ frN V s' < frN V s) : s'.length + frN V s' ≤ K := by
  rcases hd with rfl | hd
  · omega
  · omega
section
variable {V : List Int} {S : List Tm} {K : Nat}

theorem rUs_mid (hV : ∀ v ∈ V, 0 ≤ v) {n : Nat} {E : List (Tm × Tm)} (ih : ∀ (s : List Bd) (a b : Tm) (E : List (Tm × Tm)), MidU V S K s E → bdsRo s → Way V S s a → Way V S s b → (a.rng ∧ a.ok) → (b.rng ∧ b.ok) → Cnd n s a b ∧ ∀ s', rU n s a b = some (some s') → MidU V S K s' (E ++ [(a, b)]) ∧ bdsRo s') : ∀ (ps : List (Tm × Tm)) (s : List Bd) (F : List (Tm × Tm)), MidU V S K s (E ++ F) → bdsRo s → (∀ p ∈ ps, (∀ (s1 : List Bd) F1, Mgu (imgB s1) (E ++ F1) → Way V S s1 p.1 ∧ Way V S s1 p.2) ∧ (p.1.rng ∧ p.1.ok) ∧ (p.2.rng ∧ p.2.ok)) → CndL (rU n) (Cnd n) ps s ∧ ∀ s', rUs (rU n) ps s = some (some s') → MidU V S K s' (E ++ F ++ ps) ∧ bdsRo s'
  | [], s, F, hm, hr, _ => ⟨trivial, fun s' e => by cases e; rw [List.append_nil]; exact ⟨hm, hr⟩⟩
  | p :: ps, s, F, hm, hr, hp => by
    obtain ⟨h1, h2, h3⟩ := hp p (by simp)
    obtain ⟨w1, w2⟩ := h1 s F hm.mgu
    obtain ⟨c1, c2⟩ := ih s p.1 p.2 (E ++ F) hm hr w1 w2 h2 h3
    have next : ∀ s1, rU n s p.1 p.2 = some (some s1) → CndL (rU n) (Cnd n) ps s1 ∧ ∀ s', rUs (rU n) ps s1 = some (some s') → MidU V S K s' (E ++ F ++ p :: ps) ∧ bdsRo s' := fun s1 e => by
      obtain ⟨m1, m2⟩ := c2 s1 e
      have e3 : E ++ F ++ [(p.1, p.2)] = E ++ (F ++ [p]) := by rw [List.append_assoc]
      rw [e3] at m1
      have := rUs_mid hV ih ps s1 (F ++ [p]) m1 m2 fun q hq => hp q (List.mem_cons_of_mem _ hq)
      rw [show E ++ (F ++ [p]) ++ ps = E ++ F ++ p :: ps by simp] at this
      exact this
    refine ⟨⟨c1, fun s1 e => (next s1 e).1⟩, fun s' e => ?_⟩
    rw [rUs] at e
    cases hg : rU n s p.1 p.2 with
    | none => rw [hg] at e; cases e
    | some q =>
      rw [hg] at e
      cases q with
      | none => cases e
      | some s1 => exact (next s1 hg).2 s' e
theorem rU_mid (hV : ∀ v ∈ V, 0 ≤ v) (hc : Shut S) (hK : K ≤ 100000) (hE : arA S ≤ 60) : ∀ (n : Nat) (s : List Bd) (a b : Tm) (E : List (Tm × Tm)), MidU V S K s E → bdsRo s → Way V S s a → Way V S s b → (a.rng ∧ a.ok) → (b.rng ∧ b.ok) → Cnd n s a b ∧ ∀ s', rU n s a b = some (some s') → MidU V S K s' (E ++ [(a, b)]) ∧ bdsRo s' := by
  intro n
  induction n with
  | zero => intro s a b E _ _ _ _ _ _; exact ⟨trivial, fun s' e => by cases e⟩
  | succ n ih =>
    intro s a b E hm hr wa wb ha hb
    have ea : appR s a = repT (imgB s) a := appR_bare hm.bare a
    have eb : appR s b = repT (imgB s) b := appR_bare hm.bare b
    have hbare : ∀ v, 0 ≤ v → (imgB s v).strip = imgB s v := fun v _ => bare_img hm.bare v
    have za : (appR s a).size ≤ 90000000000 := by rw [ea]; exact big_60 hE (hits_big hc hm.orig hbare wa.hits)
    have zb : (appR s b).size ≤ 90000000000 := by rw [eb]; exact big_60 hE (hits_big hc hm.orig hbare wb.hits)
    have ra : (appR s a).rng ∧ (appR s a).ok := ⟨appR_rng ha.1 fun x hx => (hr x hx).1, appR_ok ha.2 fun x hx => (hr x hx).2⟩
    have rb : (appR s b).rng ∧ (appR s b).ok := ⟨appR_rng hb.1 fun x hx => (hr x hx).1, appR_ok hb.2 fun x hx => (hr x hx).2⟩
    -- the parts of what a term became
    have part : ∀ c : Tm, Way V S s c → (appR s c).rng ∧ (appR s c).ok → ¬ (appR s c).f < 0 → ∀ p ∈ (appR s c).l, (∀ (s1 : List Bd) F1, Mgu (imgB s1) (E ++ F1) → Way V S s1 p) ∧ p.rng ∧ p.ok := by
      intro c wc hcr hcf p hp
      have ec : appR s c = repT (imgB s) c := appR_bare hm.bare c
      refine ⟨fun s1 F1 h1 => ?_, ((Tm.rng_iff _).1 hcr.1).2 p hp, ((Tm.ok_iff _).1 hcr.2).2 p hp⟩
      have hu : uni (imgB s1) E := (uni_app.1 h1.uni).1
      refine ⟨fun u hu => rep_inV hm.inV wc.vs u ?_, ?_⟩
      · rw [← ec, Tm.vs_sym hcf]; exact List.mem_flatMap.2 ⟨p, hp, hu⟩
      · rw [ec] at hcf hp
        obtain ⟨q, hq, hq0, e⟩ := wc.hits.sym hm.orig hbare hcf
        rw [e, repT_sym hq0] at hp
        obtain ⟨q2, hq2, rfl⟩ := List.mem_map.1 hp
        exact ⟨q2, hc q hq q2 (by rw [Tm.ps_of_sym (by omega)]; exact hq2), hm.mgu.rep hu q2⟩
    have list : ∀ c d : Tm, Way V S s c → Way V S s d → (appR s c).rng ∧ (appR s c).ok → (appR s d).rng ∧ (appR s d).ok → ¬ (appR s c).f < 0 → (appR s c).f = (appR s d).f → CndL (rU n) (Cnd n) ((appR s c).l.zip (appR s d).l) s ∧ ∀ s', rUs (rU n) ((appR s c).l.zip (appR s d).l) s = some (some s') → MidU V S K s' (E ++ [] ++ (appR s c).l.zip (appR s d).l) ∧ bdsRo s' := by
      intro c d wc wd hcr hdr hcf hfe
      refine rUs_mid hV ih _ s [] (by rw [List.append_nil]; exact hm) hr fun p hp => ?_
      obtain ⟨p1, p2⟩ := List.of_mem_zip (a := p.1) (b := p.2) hp
      obtain ⟨a1, a2⟩ := part c wc hcr hcf _ p1
      obtain ⟨b1, b2⟩ := part d wd hdr (by rw [← hfe]; exact hcf) _ p2
      exact ⟨fun s1 F1 h1 => ⟨a1 s1 F1 h1, b1 s1 F1 h1⟩, a2, b2⟩
    refine ⟨⟨⟨by have := hm.len; omega, hr⟩, ⟨ha.1, ha.2, hb.1, hb.2⟩, ⟨za, zb⟩, ?_⟩, fun s' e => ?_⟩
    · intro a2 b2 e1 e2 hf hff hll
      split at e1
      · rename_i hs
        rw [if_pos hs] at e2
        subst e1 e2
        exact (list b a wb wa rb ra hf hff).1
      · rename_i hs
        rw [if_neg hs] at e2
        subst e1 e2
        exact (list a b wa wb ra rb hf hff).1
    · have hsp := rU_spec hV e hm.mgu hm.bare hm.inV wa.vs wb.vs
      obtain ⟨q1, q2, q3, q4⟩ := hsp
      have go : ∀ c d : Tm, Way V S s c → Way V S s d → (appR s c).rng ∧ (appR s c).ok → (appR s d).rng ∧ (appR s d).ok → rUgo (rU n) s (appR s c) (appR s d) = some (some s') → (Orig S (imgB s') ∧ s'.length + frN V s' ≤ K ∧ ∀ b ∈ s', b.v ∈ V) ∧ bdsRo s' := by
        intro c d wc wd hcr hdr e
        by_cases hf : (appR s c).f < 0
        · obtain ⟨o1, o2, o3⟩ := rUgo_var hV hm (appR_bare hm.bare c) (appR_bare hm.bare d) wc wd hf e
          refine ⟨⟨o1, frn_le hm.len o2 q4, o3⟩, ?_⟩
          unfold rUgo at e
          rw [if_pos hf] at e
          split at e
          · cases e
          · cases e; exact bnd_ro hr hdr
        · unfold rUgo at e
          rw [if_neg hf] at e
          split at e
          · cases e
          · rename_i hne
            obtain ⟨m1, m2⟩ := (list c d wc wd hcr hdr hf (Decidable.byContradiction fun h => hne (.inl h))).2 s' e
            exact ⟨⟨m1.orig, m1.len, m1.num⟩, m2⟩
      rw [rU] at e
      split at e
      · cases e; exact ⟨⟨q1, q2, q3, hm.orig, hm.len, hm.num⟩, hr⟩
      · split at e
        · obtain ⟨⟨o1, o2, o4⟩, o3⟩ := go b a wb wa rb ra e
          exact ⟨⟨q1, q2, q3, o1, o2, o4⟩, o3⟩
        · obtain ⟨⟨o1, o2, o4⟩, o3⟩ := go a b wa wb ra rb e
          exact ⟨⟨q1, q2, q3, o1, o2, o4⟩, o3⟩
end
def Tiny2 (l : List (Tm × Tm)) : Prop := ∀ p ∈ l, ((p.1.rng ∧ p.1.ok) ∧ p.1.size ≤ 16) ∧ ((p.2.rng ∧ p.2.ok) ∧ p.2.size ≤ 16)
def varsP (l : List (Tm × Tm)) : List Int := l.flatMap fun p => p.1.vs ++ p.2.vs
theorem filt_len {V : List Int} (p : Int → Bool) : (V.filter p).length ≤ V.length := List.length_filter_le _ _
theorem vs_lenU (t : Tm) : t.vs.length ≤ t.size := by
  unfold Tm.vs Tm.size vsL
  rw [List.length_map]
  exact List.length_filter_le _ _
theorem varsP_len : ∀ l : List (Tm × Tm), Tiny2 l → (varsP l).length ≤ 32 * l.length
  | [], _ => Nat.le_refl _
  | p :: l, h => by
    have h1 := h p (by simp)
    have h2 := varsP_len l fun q hq => h q (List.mem_cons_of_mem _ hq)
    have e : varsP (p :: l) = (p.1.vs ++ p.2.vs) ++ varsP l := List.flatMap_cons
    have h3 := vs_lenU p.1
    have h4 := vs_lenU p.2
    rw [e, List.length_append, List.length_append, List.length_cons]
    omega
theorem all_mid (l : List (Tm × Tm)) (hl : l.length ≤ 2) (ht : Tiny2 l) : ∃ n r, rUs (rU n) l [] = some r ∧ CndL (rU n) (Cnd n) l [] ∧ (r = none → ∀ τ, ¬ uni τ l) ∧ ∀ s, r = some s → Mgu (imgB s) l ∧ bareB s ∧ inV (varsP l) s ∧ bdsRo s ∧ (∀ b ∈ s, 0 ≤ b.v) ∧ s.length ≤ 64 ∧ (∀ b ∈ s, b.v ∈ varsP l) ∧ (∀ t, (∃ q ∈ subsP l, t = q) → (repT (imgB s) t).size ≤ 90000000000) ∧ ∀ v, 0 ≤ v → imgB s v = varT v ∨ ((imgB s v).rng ∧ (imgB s v).size ≤ 90000000000) := by
  have hV : ∀ v ∈ varsP l, 0 ≤ v := fun v hv => by
    obtain ⟨p, _, hv⟩ := List.mem_flatMap.1 hv
    rcases List.mem_append.1 hv with hv | hv <;> exact vs_nonneg _ v hv
  have hsub : ∀ p ∈ l, (∀ u ∈ p.1.vs, u ∈ varsP l) ∧ ∀ u ∈ p.2.vs, u ∈ varsP l := fun p hp => ⟨fun u hu => List.mem_flatMap.2 ⟨p, hp, List.mem_append_left _ hu⟩, fun u hu => List.mem_flatMap.2 ⟨p, hp, List.mem_append_right _ hu⟩⟩
  have h0 : Mgu (imgB []) [] := Mgu.nil
  obtain ⟨n, r, e, g1, g2⟩ := allR_spec hV l [] [] h0 (fun b hb => by cases hb) (fun b hb => by cases hb) hsub
  rw [List.nil_append] at g1 g2
  have hE : arA (subsP l) ≤ 60 := by
    have := subs_ar l fun p hp => ⟨(ht p hp).1.2, (ht p hp).2.2⟩
    omega
  have hvl := varsP_len l ht
  have hmid0 : MidU (varsP l) (subsP l) 64 [] ([] ++ []) := ⟨h0, (fun b hb => by cases hb), (fun b hb => by cases hb), (fun v hv hf => by exfalso; apply hf; show (varT v).f < 0; rw [varT_f]; omega), by
    have : frN (varsP l) [] ≤ (varsP l).length := filt_len _
    show 0 + _ ≤ 64
    omega, fun b hb => by cases hb⟩
  obtain ⟨c1, c2⟩ := rUs_mid (V := varsP l) (S := subsP l) (K := 64) (E := []) hV (rU_mid hV (subs_shut l) (by decide) hE n) l [] [] hmid0 (fun b hb => by cases hb) fun p hp => by
    obtain ⟨s1, s2⟩ := subs_has hp
    exact ⟨fun s1' F1 h1 => ⟨⟨(hsub p hp).1, p.1, s1, rfl⟩, ⟨(hsub p hp).2, p.2, s2, rfl⟩⟩, (ht p hp).1.1, (ht p hp).2.1⟩
  refine ⟨n, r, e, c1, g1, fun s hs => ?_⟩
  obtain ⟨k1, k2, k3⟩ := g2 s hs
  rw [hs] at e
  obtain ⟨m1, m2⟩ := c2 s e
  have hbare : ∀ v, 0 ≤ v → (imgB s v).strip = imgB s v := fun v _ => bare_img k2 v
  have hbig : ∀ q ∈ subsP l, (repT (imgB s) q).size ≤ 90000000000 := fun q hq => big_60 hE (hits_big (subs_shut l) m1.orig hbare ⟨q, hq, rfl⟩)
  refine ⟨k1, k2, k3, m2, rUs_pos (rU_pos n) l [] s e (fun b hb => by cases hb), by have := m1.len; omega, m1.num, fun t ⟨q, hq, e⟩ => by rw [e]; exact hbig q hq, fun v hv => ?_⟩
  by_cases hf : (imgB s v).f < 0
  · unfold imgB at hf ⊢
    cases hfd : findB s v with
    | none => exact .inl rfl
    | some t =>
      right
      rw [hfd] at hf
      obtain ⟨b, hbm, e1, _⟩ := findB_mem hfd
      refine ⟨by show t.rng; rw [← e1]; exact (m2 b hbm).1, ?_⟩
      show t.size ≤ _
      rw [Tm.size_var (show t.f < 0 from hf)]
      decide
  · right
    obtain ⟨q, hq, hq0, e1⟩ := m1.orig v hv hf
    refine ⟨?_, by rw [← e1]; exact hbig q hq⟩
    unfold imgB at hf ⊢
    cases hfd : findB s v with
    | none => rw [hfd] at hf; exact absurd (show (varT v).f < 0 by rw [varT_f]; omega) hf
    | some t =>
      obtain ⟨b, hbm, e2, _⟩ := findB_mem hfd
      show t.rng
      rw [← e2]; exact (m2 b hbm).1
end Go.Proofs.Ytiammidklcjelab
namespace Go.Proofs.Ytiammidklcjelab
open Go.RowKit
set_option linter.unusedVariables false
set_option linter.unusedSimpArgs false
set_option maxRecDepth 100000
theorem nv_len (t : Tm) : t.nv.length ≤ t.size := by
  have h : ∀ l : List Int, (nub l).length ≤ l.length := by
    intro l
    induction l using snoc_ind with
    | h0 => exact Nat.le_refl _
    | h1 l x ih => rw [nub_snoc]; split <;> simp <;> omega
  refine Nat.le_trans (h t.vs) ?_
  unfold Tm.vs vsL Tm.size
  rw [List.length_map]
  exact List.length_filter_le _ _
def alikeB (p q : List Bd) (l : List Int) : Bool := l.all fun v => sameT (imgB p v) (imgB q v)
-- 
set_option maxHeartbeats 1000000 in
theorem alike_abs (W : World) (p q : List Bd) (l : List Int) (hp : p.length ≤ 64) (hq : q.length ≤ 64) (hpo : bdsOk p) (hqo : bdsOk q) (hll : l.length ≤ 1000000) (hl : ∀ v ∈ l, 0 ≤ v ∧ v ≤ 9223372036854775807) : AFun Try.prog W 17 [.lst (p.map Bd.cv), .lst (q.map Bd.cv), .lst (l.map CV.i)] (.val (.b (alikeB p q l))) := by
  have hsz := ints_size l
  refine afun_of (rs := [.b (alikeB p q l)]) Try.func17 Try.ntmps17 rfl rfl rfl rfl ?_
  intro w U hW
  refine aS (aR ?_)
  (refine nx (aA (gN rfl) rfl rfl rfl rfl rfl) rfl ?_)
  show AWp _ _ _ _ _ _ _
  refine aS (aR ?_)
  (refine nx (aM (gN rfl) rfl rfl rfl rfl rfl) rfl ?_)
  (refine nx (a_call (gN rfl) rfl rfl rfl rfl rfl (images_abs w p hp)) rfl ?_)
  (refine nx (aM (gN rfl) rfl rfl rfl rfl rfl) rfl ?_)
  (refine nx (a_call (gN rfl) rfl rfl rfl rfl rfl (images_abs w q hq)) rfl ?_)
  (refine nx (aA (gN rfl) rfl rfl rfl rfl rfl) rfl ?_)
  (refine nx (aA (gN rfl) rfl rfl rfl rfl rfl) rfl ?_)
  show AWp _ _ _ _ _ _ _
  refine aS (aS (aR ?_))
  (refine nx (aM (gN rfl) rfl rfl rfl rfl rfl) rfl ?_)
  (refine nx (a_len (gN rfl) rfl rfl rfl rfl rfl rfl rfl) rfl ?_)
  (refine nx (aM (gN rfl) rfl rfl rfl rfl rfl) rfl ?_)
  show AWp _ _ _ _ _ _ _
  refine aB (awp_countI l.length (fun k => ∀ v ∈ l.take k, sameT (imgB p v) (imgB q v) = true) (fun k => [(7, .val (.fn 54 1 [.lst (p.map Bd.cv)])), (8, .val (.fn 54 1 [.lst (q.map Bd.cv)])), (15, .val (.lst (l.map CV.i))), (16, .val (.i (l.map CV.i).length)), (17, .val (.i k))]) (wk_sub ⟨rfl, rfl, rfl, rfl, rfl, trivial⟩) (by simp) ?_)
  intro k hk hI
  refine aS (aR ?_)
  (refine nx (a_lss (gN rfl) rfl rfl rfl rfl rfl rfl) rfl ?_)
  show AWp _ _ _ _ _ _ _
  refine aS (aC rfl (fun hc => aK ?_) (fun hc => aE ?_))
  · have hkl : k < l.length := by
      simp only [List.length_map, decide_eq_true_eq] at hc
      omega
    clear hc
    obtain ⟨v, hv⟩ : ∃ v, l[k]? = some v := ⟨l[k], List.getElem?_eq_getElem hkl⟩
    have hv' := ints_at hv
    have hvm := List.mem_of_getElem? hv
    have hvb := hl v hvm
    have hg : decide (v ≥ 0) = true := by simpa using hvb.1
    have i1 : AFunV Try.prog w (.fn 54 1 [.lst (p.map Bd.cv)]) [.i v] (.val (imgB p v).cw) := ⟨_, _, _, rfl, image_abs w p v (by omega) hvb.1 hvb.2⟩
    have i2 : AFunV Try.prog w (.fn 54 1 [.lst (q.map Bd.cv)]) [.i v] (.val (imgB q v).cw) := ⟨_, _, _, rfl, image_abs w q v (by omega) hvb.1 hvb.2⟩
    show AWp _ _ _ _ _ _ _
    refine aS (aB (aS (aR ?_)))
    (refine nx (a_index (gN rfl) rfl rfl rfl rfl rfl rfl rfl rfl rfl (by assumption) rfl (by first | assumption | exact sZ rfl | exact Tm.size_all _ | exact Bd.size_all _ | exact ints_size _ | exact bys_size _ | exact Lt.size_all _)) rfl ?_)
    (refine nx (a_load_ad (gN rfl) rfl rfl rfl rfl rfl rfl rfl rfl rfl) rfl ?_)
    (refine nx (aA (gN rfl) rfl rfl rfl rfl rfl) rfl ?_)
    show AWp _ _ _ _ _ _ _
    refine aS (aR ?_)
    (refine nx (aM (gN rfl) rfl rfl rfl rfl rfl) rfl ?_)
    (refine nx (a_geq (gN rfl) rfl rfl rfl rfl rfl rfl) rfl ?_)
    (refine nx (aM (gN rfl) rfl rfl rfl rfl rfl) rfl ?_)
    (refine nx (aM (gd_on rfl rfl rfl rfl (by first | rfl | assumption | (simp; done))) rfl rfl rfl rfl rfl) rfl ?_)
    (refine nx (aM (gd_on rfl rfl rfl rfl (by first | rfl | assumption | (simp; done))) rfl rfl rfl rfl rfl) rfl ?_)
    (refine nx (a_callv (gd_on rfl rfl rfl rfl (by first | rfl | assumption | (simp; done))) rfl rfl rfl rfl rfl rfl (i1)) rfl ?_)
    (refine nx (aM (gd_on rfl rfl rfl rfl (by first | rfl | assumption | (simp; done))) rfl rfl rfl rfl rfl) rfl ?_)
    (refine nx (aM (gd_on rfl rfl rfl rfl (by first | rfl | assumption | (simp; done))) rfl rfl rfl rfl rfl) rfl ?_)
    (refine nx (a_callv (gd_on rfl rfl rfl rfl (by first | rfl | assumption | (simp; done))) rfl rfl rfl rfl rfl rfl (i2)) rfl ?_)
    (refine nx (a_call (gd_on rfl rfl rfl rfl (by first | rfl | assumption | (simp; done))) rfl rfl rfl rfl rfl (same_abs w (imgB_ok hpo hvb.1 hvb.2).1 (imgB_ok hqo hvb.1 hvb.2).1)) rfl ?_)
    (refine nx (a_not (gd_on rfl rfl rfl rfl (by first | rfl | assumption | (simp; done))) rfl rfl rfl rfl rfl) rfl ?_)
    (refine ⟨_, _, _, aPt (gN rfl) rfl rfl rfl rfl rfl ?hb rfl, rfl, ?_⟩; case hb => (first | rfl | assumption | (simp; done)))
    show AWp _ _ _ _ _ _ _
    refine aC rfl (fun hc => ?_) (fun hc => aK ?_)
    · have hs : sameT (imgB p v) (imgB q v) = false := by simpa using hc
      rw [show alikeB p q l = false by unfold alikeB; rw [List.all_eq_false]; exact ⟨v, hvm, by simp [hs]⟩]
      refine aS (aR ?_)
      (refine nx (aA (gN rfl) rfl rfl rfl rfl rfl) rfl ?_)
      show AWp _ _ _ _ _ _ _
      exact aT (And.intro (.inr rfl) rfl)
    have hs : sameT (imgB p v) (imgB q v) = true := by simpa using hc
    show AWp _ _ _ _ _ _ _
    refine aR ?_
    (refine nx (a_add (gN rfl) rfl rfl rfl rfl rfl rfl (by first | omega | (simp only [List.length_map, List.length_append, List.length_cons, List.length_nil] <;> omega) | (simp <;> omega))) rfl ?_)
    (refine nx (aM (gN rfl) rfl rfl rfl rfl rfl) rfl ?_)
    refine ⟨hkl, fun x hx => ?_, wk_sub ⟨rfl, rfl, rfl, rfl, rfl, trivial⟩⟩
    rw [List.take_add_one, hv] at hx
    rcases List.mem_append.1 hx with hx | hx
    · exact hI x hx
    · rw [List.mem_singleton.1 hx]; exact hs
  · have hkl : k = l.length := by
      simp only [List.length_map, decide_eq_false_iff_not] at hc
      omega
    subst hkl
    rw [List.take_length] at hI
    rw [show alikeB p q l = true from List.all_eq_true.2 hI]
    show AWp _ _ _ _ _ _ _
    refine aS (aR ?_)
    (refine nx (aA (gN rfl) rfl rfl rfl rfl rfl) rfl ?_)
    show AWp _ _ _ _ _ _ _
    exact aT (And.intro (.inr rfl) rfl)
end Go.Proofs.Ytiammidklcjelab
