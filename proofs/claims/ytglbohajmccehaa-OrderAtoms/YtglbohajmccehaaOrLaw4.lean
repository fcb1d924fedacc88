/-
  OrderAtoms: of atoms the greater one's term is greater; the heaviest one that is Neg is looked at alone; turning sides plays no part.
-/
import Derived.Test.YtglbohajmccehaaMg4
import Derived.Test.YtglbohajmccehaaAbShp
namespace Go.Proofs.Ytglbohajmccehaa
open Go.RowKit
set_option linter.unusedVariables false
set_option linter.unusedSimpArgs false
set_option maxRecDepth 100000

def atT (x : Tm) : Tm := ⟨20, [x]⟩
def atL (nb : Nat → Bool) (k : Nat) (x : Tm) : Lt := ⟨nb k, atT x, zTm⟩
def atK (l : List Tm) (nb : Nat → Bool) : Nat → List Lt
  | 0 => []
  | k + 1 => match l[k]? with | some x => atK l nb k ++ [atL nb k x] | none => atK l nb k
theorem atK_len (l : List Tm) (nb : Nat → Bool) : ∀ k, k ≤ l.length → (atK l nb k).length = k
  | 0, _ => rfl
  | k + 1, h => by
    unfold atK
    rw [List.getElem?_eq_getElem (by omega)]
    simp only
    rw [List.length_append, atK_len l nb k (by omega)]; rfl
theorem atK_at (l : List Tm) (nb : Nat → Bool) : ∀ k, k ≤ l.length → ∀ j x, j < k → l[j]? = some x → (atK l nb k)[j]? = some (atL nb j x)
  | 0, _, j, x, hj, _ => by omega
  | k + 1, h, j, x, hj, hx => by
    unfold atK
    rw [List.getElem?_eq_getElem (show k < l.length by omega)]
    simp only
    have hl := atK_len l nb k (by omega)
    by_cases hjk : j < k
    · rw [List.getElem?_append_left (by omega)]; exact atK_at l nb k (by omega) j x hjk hx
    · have : j = k := by omega
      subst this
      rw [List.getElem?_append_right (by omega), hl, Nat.sub_self]
      rw [List.getElem?_eq_getElem (by omega)] at hx
      cases hx
      rfl
theorem atT_size (x : Tm) : (atT x).size = x.size + 1 := by
  unfold atT
  rw [Tm.size_sym (by show ¬ (20 : Int) < 0; decide)]
  simp
  omega
theorem zTm_size : zTm.size = 1 := leaf_size 0
theorem atT_fit {x : Tm} (h : x.fit) (hz : x.size ≤ 60) : (atT x).fit :=
  ⟨(Tm.rng_iff _).2 ⟨⟨by show (-9223372036854775808 : Int) ≤ 20; decide, by show (20 : Int) ≤ _; decide⟩, fun t ht => by rw [show t = x by simpa [atT] using ht]; exact h.1⟩, (Tm.ok_iff _).2 ⟨by show 1 ≤ _; omega, fun t ht => by rw [show t = x by simpa [atT] using ht]; exact h.2.1⟩, by rw [atT_size]; omega⟩
theorem zTm_fit : zTm.fit := ⟨leaf_rng (by decide) (by decide), leaf_ok 0, by rw [zTm_size]; omega⟩
theorem kb_at0 (x : Tm) : kb (atT x) zTm = 1 := by
  refine kb_big (fun v => ?_) (by rw [zTm_size, atT_size]; have := x.size_pos; omega)
  rw [show zTm.vs = [] from by unfold zTm; rw [Tm.vs_sym (by show ¬ (0 : Int) < 0; decide)]; rfl]
  simp
theorem kb_at1 (x : Tm) : kb zTm (atT x) = -1 := kb_anti (kb_at0 x)
theorem or_at (n : Bool) (x : Tm) : orK ⟨n, atT x, zTm⟩ 2 = [((atT x).strip, zTm.strip)] := by
  rw [orD_orK]
  unfold orD
  rw [kb_at0]
  rfl
theorem or_at1 (n : Bool) (x : Tm) : orK ⟨n, zTm, atT x⟩ 2 = [((atT x).strip, zTm.strip)] := by
  rw [orD_orK]
  unfold orD
  rw [kb_at1]
  rfl
def hvA (c : List Lt) : Nat → Int × Int
  | 0 => (-1, 0)
  | k + 1 => match c[k]? with
    | none => hvA c k
    | some l => if l.neg = true ∧ (hvA c k).2 < (l.a.size : Int) then ((k : Int), (l.a.size : Int)) else hvA c k
theorem hvA_hvK (c : List Lt) (hb : ∀ x ∈ c, x.b.size = 1) : ∀ k, k ≤ c.length → (hvA c k = (-1, 0) ∧ hvK c k = (-1, 0)) ∨ ∃ p : Nat, ∃ W : Int, hvA c k = ((p : Int), W) ∧ hvK c k = ((p : Int), W + 1)
  | 0, _ => .inl ⟨rfl, rfl⟩
  | k + 1, hk => by
    obtain ⟨y, hy⟩ : ∃ y, c[k]? = some y := ⟨c[k], List.getElem?_eq_getElem (by omega)⟩
    have hyb := hb y (List.mem_of_getElem? hy)
    have hK : hvK c (k + 1) = if y.neg = true ∧ (hvK c k).2 < wtL y then ((k : Int), wtL y) else hvK c k := by conv => lhs; unfold hvK; rw [hy]
    have hA : hvA c (k + 1) = if y.neg = true ∧ (hvA c k).2 < (y.a.size : Int) then ((k : Int), (y.a.size : Int)) else hvA c k := by conv => lhs; unfold hvA; rw [hy]
    have hw : wtL y = (y.a.size : Int) + 1 := by unfold wtL; rw [hyb]; rfl
    have hp := y.a.size_pos
    rw [hK, hA, hw]
    rcases hvA_hvK c hb k (by omega) with ⟨h1, h2⟩ | ⟨p, W, h1, h2⟩
    · rw [h1, h2]
      by_cases hn : y.neg = true
      · right
        refine ⟨k, (y.a.size : Int), ?_, ?_⟩
        · rw [if_pos ⟨hn, by show (0 : Int) < _; omega⟩]
        · rw [if_pos ⟨hn, by show (0 : Int) < _; omega⟩]
      · left
        exact ⟨if_neg (fun h => hn h.1), if_neg (fun h => hn h.1)⟩
    · rw [h1, h2]
      right
      by_cases hn : y.neg = true ∧ W < (y.a.size : Int)
      · refine ⟨k, (y.a.size : Int), ?_, ?_⟩
        · rw [if_pos hn]
        · rw [if_pos ⟨hn.1, by show W + 1 < _; have := hn.2; omega⟩]
      · refine ⟨p, W, ?_, ?_⟩
        · rw [if_neg hn]
        · rw [if_neg (fun h => hn ⟨h.1, by have h2 : W + 1 < _ := h.2; omega⟩)]
theorem hvA_more (c d : List Lt) : ∀ k, k ≤ c.length → hvA (c ++ d) k = hvA c k
  | 0, _ => rfl
  | k + 1, h => by
    unfold hvA
    rw [List.getElem?_append_left (by omega), hvA_more c d k (by omega)]
-- 
set_option maxHeartbeats 8000000 in
theorem orderAtoms_abs (W : World) (l : List Tm) (y : Int) (hlr : ∀ t ∈ l, t.rng) : AFun Try.prog W 6 [.lst (l.map Tm.cv), .sc (.int .u16 y)] (.val (.b true)) := by
  have hsl := Tm.size_all l
  refine afun_of (rs := [.b true]) Try.func6 Try.ntmps6 rfl rfl rfl rfl ?_
  intro w U hW
  refine aS (aR ?_)
  (refine nx (aA (gN rfl) rfl rfl rfl rfl rfl) rfl ?_)
  show AWp _ _ _ _ _ _ _
  refine aS (aS (aR ?_))
  (refine nx (a_call (gN rfl) rfl rfl rfl rfl rfl (alive14_abs w)) rfl ?_)
  (refine nx (a_not (gN rfl) rfl rfl rfl rfl rfl) rfl ?_)
  show AWp _ _ _ _ _ _ _
  refine aC rfl (fun hc => by cases hc) (fun _ => aK ?_)
  show AWp _ _ _ _ _ _ _
  refine aS (aS (aR ?_))
  (refine nx (aM (gN rfl) rfl rfl rfl rfl rfl) rfl ?_)
  (refine nx (a_len (gN rfl) rfl rfl rfl rfl rfl rfl rfl) rfl ?_)
  (refine nx (a_gtr (gN rfl) rfl rfl rfl rfl rfl rfl) rfl ?_)
  show AWp _ _ _ _ _ _ _
  refine aC rfl (fun hc => ?_) (fun hc => ?_)
  · refine aS (aR ?_)
    (refine nx (aA (gN rfl) rfl rfl rfl rfl rfl) rfl ?_)
    show AWp _ _ _ _ _ _ _
    exact aT (And.intro (.inr rfl) rfl)
  have hll : l.length ≤ 5 := by
    have hc : decide (((l.map Tm.cv).length : Int) > 5) = false := hc
    have := of_decide_eq_false hc
    rw [List.length_map] at this
    omega
  refine aK ?_
  show AWp _ _ _ _ _ _ _
  refine aS (aR ?_)
  (refine nx (aA (gN rfl) rfl rfl rfl rfl rfl) rfl ?_)
  show AWp _ _ _ _ _ _ _
  refine aS (aR ?_)
  (refine nx (aA (gN rfl) rfl rfl rfl rfl rfl) rfl ?_)
  (refine nx (aA (gN rfl) rfl rfl rfl rfl rfl) rfl ?_)
  show AWp _ _ _ _ _ _ _
  refine aS (aS (aR ?_))
  (refine nx (aA (gN rfl) rfl rfl rfl rfl rfl) rfl ?_)
  show AWp _ _ _ _ _ _ _
  obtain ⟨nb, hnb⟩ : ∃ nb : Nat → Bool, nb = fun k : Nat => decide ((y / 2 ^ min (IntKind.u64.wrap (k : Int)).toNat IntKind.u16.bits).tmod 2 = 1) := ⟨_, rfl⟩
  let st : Nat → AS := fun k => [(0, .val (.lst (l.map Tm.cv))), (1, .val (.sc (.int .u16 y))), (5, .own (.lst ((atK l nb k).map Lt.cv)) 200050), (200050, .tok 35 5), (6, .val (.i (hvA (atK l nb k) k).2)), (7, .val (.i (hvA (atK l nb k) k).1)), (8, .val (.i k))]
  refine aB (awp_countI l.length (fun k => ∀ t ∈ l.take k, t.fit ∧ t.size ≤ 12) st ((wk_nil 5 200050 35 5 rfl rfl rfl rfl rfl rfl rfl).trans (wk_sub ⟨rfl, rfl, rfl, rfl, rfl, rfl, rfl, trivial⟩)) (by simp) ?_)
  intro k hk hI
  refine aS (aS (aR ?_))
  (refine nx (aM (gN rfl) rfl rfl rfl rfl rfl) rfl ?_)
  (refine nx (aM (gN rfl) rfl rfl rfl rfl rfl) rfl ?_)
  (refine nx (a_len (gN rfl) rfl rfl rfl rfl rfl rfl rfl) rfl ?_)
  (refine nx (a_lss (gN rfl) rfl rfl rfl rfl rfl rfl) rfl ?_)
  show AWp _ _ _ _ _ _ _
  refine aC rfl (fun hlt => ?_) (fun hlt => ?_)
  · have hkl : k < l.length := by simpa using hlt
    obtain ⟨x, hx⟩ : ∃ x, l[k]? = some x := ⟨l[k], List.getElem?_eq_getElem hkl⟩
    have hx' := Tm.map_at hx
    have hxr := hlr x (List.mem_of_getElem? hx)
    refine aK ?_
    show AWp _ _ _ _ _ _ _
    refine aS (aB (aS (aS (aR ?_))))
    (refine nx (aM (gN rfl) rfl rfl rfl rfl rfl) rfl ?_)
    (refine nx (aM (gN rfl) rfl rfl rfl rfl rfl) rfl ?_)
    (refine nx (a_index (j := k) (gN rfl) rfl rfl rfl rfl rfl rfl rfl rfl rfl (hx') rfl (hsl)) rfl ?_)
    (refine nx (a_load_ad (gN rfl) rfl rfl rfl rfl rfl rfl rfl rfl rfl) rfl ?_)
    (refine nx (a_call (gN rfl) rfl rfl rfl rfl rfl (small_abs w x 12 8 hxr (by decide) (by decide) (by decide) (by decide))) rfl ?_)
    (refine nx (a_lss (gN rfl) rfl rfl rfl rfl rfl rfl) rfl ?_)
    show AWp _ _ _ _ _ _ _
    refine aC rfl (fun hs => ?_) (fun hs => ?_)
    · refine aS (aR ?_)
      (refine nx (aA (gN rfl) rfl rfl rfl rfl rfl) rfl ?_)
      show AWp _ _ _ _ _ _ _
      exact aT (And.intro (.inr rfl) rfl)
    · have hs : decide (smallT x 12 8 < 0) = false := hs
      obtain ⟨hxf, hxz⟩ := small_fit (size := 12) (by decide) (by decide) (show 0 ≤ smallT x 12 8 by have := of_decide_eq_false hs; omega)
      have hlen := atK_len l nb k (by omega)
      obtain ⟨C, hC⟩ : ∃ C, C = atK l nb k := ⟨_, rfl⟩
      have hsC := Lt.size_all C
      have hlC : (C.map Lt.cv).length ≤ 5 := by rw [List.length_map, hC, hlen]; omega
      have hlC2 : C.length ≤ 5 := by rw [hC, hlen]; omega
      have hCk : C.length = k := by rw [hC]; exact hlen
      have haf := atT_fit hxf (by omega)
      have haz := atT_size x
      have hSz := size_abs w haf.1 (by omega)
      have hnext : atK l nb (k + 1) = atK l nb k ++ [atL nb k x] := by conv => lhs; unfold atK; rw [hx]
      rw [← hC] at hnext
      have hvn : hvA (C ++ [atL nb k x]) (k + 1) = if nb k = true ∧ (hvA C k).2 < ((atT x).size : Int) then ((k : Int), ((atT x).size : Int)) else hvA C k := by
        conv => lhs; unfold hvA; rw [List.getElem?_append_right (by omega), hCk, Nat.sub_self]
        rw [hvA_more C _ k (by omega)]
        rfl
      have hj0 : 0 ≤ IntKind.u64.wrap (k : Int) := by rw [IntKind.wrap_u64]; omega
      refine aK ?_
      show AWp _ _ _ _ _ _ _
      refine AWp.wk (wk_sub (s' := [(0, .val (.lst (l.map Tm.cv))), (1, .val (.sc (.int .u16 y))), (5, .own (.lst (C.map Lt.cv)) 200050), (200050, .tok 35 5), (6, .val (.i (hvA C k).2)), (7, .val (.i (hvA C k).1)), (8, .val (.i k))]) ⟨rfl, rfl, by rw [hC]; rfl, rfl, by rw [hC]; rfl, by rw [hC]; rfl, rfl, trivial⟩) ?_
      refine aS (aR ?_)
      (refine nx (aM (gN rfl) rfl rfl rfl rfl rfl) rfl ?_)
      (refine nx (aM (gN rfl) rfl rfl rfl rfl rfl) rfl ?_)
      (refine nx (a_index (j := k) (gN rfl) rfl rfl rfl rfl rfl rfl rfl rfl rfl (hx') rfl (hsl)) rfl ?_)
      (refine nx (a_load_ad (gN rfl) rfl rfl rfl rfl rfl rfl rfl rfl rfl) rfl ?_)
      (refine nx (a_call (gN rfl) rfl rfl rfl rfl rfl (of_abs w x hxf.2.1)) rfl ?_)
      (refine nx (a_bslice (gN rfl) rfl rfl rfl rfl rfl rfl rfl rfl rfl rfl rfl rfl rfl) rfl ?_)
      (refine nx (a_buildP (gN rfl) rfl rfl rfl rfl rfl rfl rfl rfl rfl rfl rfl) rfl ?_)
      (refine nx (a_alloc (gN rfl) rfl rfl rfl rfl rfl rfl rfl rfl rfl rfl) rfl ?_)
      (refine nx (aSt (gN rfl) rfl rfl rfl rfl rfl rfl rfl rfl rfl rfl) rfl ?_)
      show AWp _ _ _ _ _ _ _
      refine aS (aR ?_)
      (refine nx (aM (gN rfl) rfl rfl rfl rfl rfl) rfl ?_)
      (refine nx (aM (gN rfl) rfl rfl rfl rfl rfl) rfl ?_)
      (refine nx (a_convW (gN rfl) rfl rfl rfl rfl rfl rfl rfl) rfl ?_)
      (refine nx (a_shrN (gN rfl) rfl rfl rfl rfl rfl rfl (hj0)) rfl ?_)
      (refine nx (a_rem (gN rfl) rfl rfl rfl rfl rfl rfl (by first | decide | assumption)) rfl ?_)
      (refine nx (a_eql (gN rfl) rfl rfl rfl rfl rfl rfl) rfl ?_)
      (refine nx (aA (gN rfl) rfl rfl rfl rfl rfl) rfl ?_)
      show AWp _ _ _ _ _ _ _
      have hAcw : (atT x).cw = .row [.i 20, .lst [x.cw]] := by unfold atT; show CV.row [.i 20, .lst ([x].map Tm.cv)] = _; rw [List.map_cons, List.map_nil, Tm.cv_eq]
      refine AWp.wk (wk_sub (s' := [(0, .val (.lst (l.map Tm.cv))), (1, .val (.sc (.int .u16 y))), (5, .own (.lst (C.map Lt.cv)) 200050), (200050, .tok 35 5), (6, .val (.i (hvA C k).2)), (7, .val (.i (hvA C k).1)), (8, .val (.i k)), (9, .bp 9 0 []), (100009, .bx (atT x).cw), (10, .val (.b (nb k)))]) ⟨rfl, rfl, rfl, rfl, rfl, rfl, rfl, rfl, by rw [hAcw]; rfl, by rw [hnb]; rfl, trivial⟩) ?_
      refine aS (aR ?_)
      (refine nx (aM (gN rfl) rfl rfl rfl rfl rfl) rfl ?_)
      (refine nx (aM (gN rfl) rfl rfl rfl rfl rfl) rfl ?_)
      (refine nx (aL (gN rfl) rfl rfl rfl rfl rfl rfl rfl rfl rfl rfl rfl rfl) rfl ?_)
      (refine nx (a_build (gN rfl) rfl rfl rfl rfl rfl rfl rfl rfl rfl rfl rfl) rfl ?_)
      (refine nx (a_bslice (gN rfl) rfl rfl rfl rfl rfl rfl rfl rfl rfl rfl rfl rfl rfl) rfl ?_)
      (refine nx (a_app (gN rfl) rfl rfl rfl rfl rfl rfl rfl rfl rfl rfl rfl rfl rfl rfl rfl (by first | assumption | exact sZ rfl | exact Tm.size_all _ | exact Bd.size_all _ | exact ints_size _ | exact bys_size _ | exact Lt.size_all _) (by first | assumption | exact sZ rfl | exact Tm.size_all _ | exact Bd.size_all _ | exact ints_size _ | exact bys_size _ | exact Lt.size_all _) (by first | omega | (simp only [List.length_map, List.length_append, List.length_cons, List.length_nil] <;> omega) | (simp <;> omega))) rfl ?_)
      (refine nx (aA (gN rfl) rfl rfl rfl rfl rfl) rfl ?_)
      show AWp _ _ _ _ _ _ _
      refine AWp.wk ((wk_sub (s' := [(0, .val (.lst (l.map Tm.cv))), (1, .val (.sc (.int .u16 y))), (5, .own (.lst ((C ++ [atL nb k x]).map Lt.cv)) 300050), (300050, .tok 35 5), (6, .val (.i (hvA C k).2)), (7, .val (.i (hvA C k).1)), (8, .val (.i k)), (9, .bp 9 0 []), (100009, .bx (atT x).cw), (10, .val (.b (nb k)))]) ⟨rfl, rfl, ?_, rfl, rfl, rfl, rfl, rfl, rfl, rfl, trivial⟩).trans (wk_ren 300050 200050 rfl rfl rfl rfl)) ?_
      · show some (AV.own (.lst _) _) = some (AV.own (.lst _) _)
        rw [List.map_append]
        rfl
      have hfin : ∀ p m s', hvA (C ++ [atL nb k x]) (k + 1) = (p, m) → SubL s' [(0, .val (.lst (l.map Tm.cv))), (1, .val (.sc (.int .u16 y))), (5, .own (.lst ((C ++ [atL nb k x]).map Lt.cv)) 200050), (200050, .tok 35 5), (6, .val (.i m)), (7, .val (.i p)), (8, .val (.i ((k : Int) + 1)))] → Wk w U 160 s' (st (k + 1)) := fun p m s' e hsub => by
        refine (wk_sub hsub).trans (wk_sub ⟨rfl, rfl, ?_, rfl, ?_, ?_, rfl, trivial⟩)
        · rw [hnext]; rfl
        · rw [hnext, e]; rfl
        · rw [hnext, e]; rfl
      cases hn : nb k with
      | true =>
        refine aS (aR ?_)
        (refine nx (aM (gN rfl) rfl rfl rfl rfl rfl) rfl ?_)
        (refine nx (aM (gN rfl) rfl rfl rfl rfl rfl) rfl ?_)
        (refine nx (aL (gd_on rfl rfl rfl rfl (by first | rfl | assumption | (simp; done))) rfl rfl rfl rfl rfl rfl rfl rfl rfl rfl rfl rfl) rfl ?_)
        (refine nx (a_call (gd_on rfl rfl rfl rfl (by first | rfl | assumption | (simp; done))) rfl rfl rfl rfl rfl (hSz)) rfl ?_)
        (refine nx (aM (gd_on rfl rfl rfl rfl (by first | rfl | assumption | (simp; done))) rfl rfl rfl rfl rfl) rfl ?_)
        (refine nx (a_gtr (gd_on rfl rfl rfl rfl (by first | rfl | assumption | (simp; done))) rfl rfl rfl rfl rfl rfl) rfl ?_)
        (refine ⟨_, _, _, aPt (gN rfl) rfl rfl rfl rfl rfl ?hb rfl, rfl, ?_⟩; case hb => (first | rfl | assumption | (simp; done)))
        show AWp _ _ _ _ _ _ _
        refine aC rfl (fun hg => ?_) (fun hg => ?_)
        · have hg : decide (((atT x).size : Int) > (hvA C k).2) = true := hg
          have e := hvn
          rw [if_pos ⟨hn, by have := of_decide_eq_true hg; omega⟩] at e
          refine aS (aR ?_)
          (refine nx (aL (gN rfl) rfl rfl rfl rfl rfl rfl rfl rfl rfl rfl rfl rfl) rfl ?_)
          (refine nx (a_call (gN rfl) rfl rfl rfl rfl rfl (hSz)) rfl ?_)
          (refine nx (aA (gN rfl) rfl rfl rfl rfl rfl) rfl ?_)
          show AWp _ _ _ _ _ _ _
          refine aR ?_
          (refine nx (aM (gN rfl) rfl rfl rfl rfl rfl) rfl ?_)
          (refine nx (aA (gN rfl) rfl rfl rfl rfl rfl) rfl ?_)
          show AWp _ _ _ _ _ _ _
          refine aR ?_
          (refine nx (aM (gN rfl) rfl rfl rfl rfl rfl) rfl ?_)
          (refine nx (a_add (gN rfl) rfl rfl rfl rfl rfl rfl (by first | omega | (simp only [List.length_map, List.length_append, List.length_cons, List.length_nil] <;> omega) | (simp <;> omega))) rfl ?_)
          (refine nx (aA (gN rfl) rfl rfl rfl rfl rfl) rfl ?_)
          refine ⟨hkl, ?_, hfin _ _ _ e ⟨rfl, rfl, rfl, rfl, rfl, rfl, rfl, trivial⟩⟩
          intro z hz
          rw [List.take_add_one, hx, List.mem_append] at hz
          rcases hz with hz | hz
          · exact hI z hz
          · simp at hz; rw [hz]; exact ⟨hxf, by omega⟩
        · have hg : decide (((atT x).size : Int) > (hvA C k).2) = false := hg
          have e := hvn
          rw [if_neg (fun h => by have := of_decide_eq_false hg; have := h.2; omega)] at e
          refine aK ?_
          show AWp _ _ _ _ _ _ _
          refine aR ?_
          (refine nx (aM (gN rfl) rfl rfl rfl rfl rfl) rfl ?_)
          (refine nx (a_add (gN rfl) rfl rfl rfl rfl rfl rfl (by first | omega | (simp only [List.length_map, List.length_append, List.length_cons, List.length_nil] <;> omega) | (simp <;> omega))) rfl ?_)
          (refine nx (aA (gN rfl) rfl rfl rfl rfl rfl) rfl ?_)
          refine ⟨hkl, ?_, hfin _ _ _ e ⟨rfl, rfl, rfl, rfl, rfl, rfl, rfl, trivial⟩⟩
          intro z hz
          rw [List.take_add_one, hx, List.mem_append] at hz
          rcases hz with hz | hz
          · exact hI z hz
          · simp at hz; rw [hz]; exact ⟨hxf, by omega⟩
      | false =>
        have e := hvn
        rw [if_neg (fun h => by rw [hn] at h; cases h.1)] at e
        refine aS (aR ?_)
        (refine nx (aM (gN rfl) rfl rfl rfl rfl rfl) rfl ?_)
        (refine nx (aM (gN rfl) rfl rfl rfl rfl rfl) rfl ?_)
        (refine ⟨_, _, _, a_off (go_off rfl rfl rfl rfl (by first | rfl | assumption | (simp; done) | (simp [*]; done))) rfl rfl rfl, rfl, ?_⟩)
        (refine ⟨_, _, _, a_off (go_off rfl rfl rfl rfl (by first | rfl | assumption | (simp; done) | (simp [*]; done))) rfl rfl rfl, rfl, ?_⟩)
        (refine ⟨_, _, _, a_off (go_off rfl rfl rfl rfl (by first | rfl | assumption | (simp; done) | (simp [*]; done))) rfl rfl rfl, rfl, ?_⟩)
        (refine ⟨_, _, _, a_off (go_off rfl rfl rfl rfl (by first | rfl | assumption | (simp; done) | (simp [*]; done))) rfl rfl rfl, rfl, ?_⟩)
        (refine ⟨_, _, _, aPf (gN rfl) rfl rfl rfl rfl rfl ?hb rfl, rfl, ?_⟩; case hb => (first | rfl | assumption | (simp; done)))
        show AWp _ _ _ _ _ _ _
        refine aC rfl (fun h => by cases h) (fun _ => ?_)
        refine aK ?_
        show AWp _ _ _ _ _ _ _
        refine aR ?_
        (refine nx (aM (gN rfl) rfl rfl rfl rfl rfl) rfl ?_)
        (refine nx (a_add (gN rfl) rfl rfl rfl rfl rfl rfl (by first | omega | (simp only [List.length_map, List.length_append, List.length_cons, List.length_nil] <;> omega) | (simp <;> omega))) rfl ?_)
        (refine nx (aA (gN rfl) rfl rfl rfl rfl rfl) rfl ?_)
        refine ⟨hkl, ?_, hfin _ _ _ e ⟨rfl, rfl, rfl, rfl, rfl, rfl, rfl, trivial⟩⟩
        intro z hz
        rw [List.take_add_one, hx, List.mem_append] at hz
        rcases hz with hz | hz
        · exact hI z hz
        · simp at hz; rw [hz]; exact ⟨hxf, by omega⟩
  have hkl : k = l.length := by
    have : ¬ k < l.length := by simpa using hlt
    omega
  subst hkl
  rw [List.take_length] at hI
  have hlf := hI
  clear hI hk hlt
  refine aE ?_
  show AWp _ _ _ _ _ _ _
  obtain ⟨C, hC⟩ : ∃ C, C = atK l nb l.length := ⟨_, rfl⟩
  have hCl : C.length = l.length := by rw [hC]; exact atK_len l nb _ (Nat.le_refl _)
  have hCat : ∀ j x, l[j]? = some x → C[j]? = some (atL nb j x) := fun j x hx => by
    have hj : j < l.length := by
      rcases Nat.lt_or_ge j l.length with h | h
      · exact h
      · rw [List.getElem?_eq_none h] at hx; cases hx
    rw [hC]; exact atK_at l nb _ (Nat.le_refl _) j x hj hx
  have hCmem : ∀ z ∈ C, ∃ j x, l[j]? = some x ∧ z = atL nb j x := fun z hz => by
    obtain ⟨j, hj, he⟩ := List.getElem_of_mem hz
    have hjl : j < l.length := by omega
    refine ⟨j, l[j], List.getElem?_eq_getElem hjl, ?_⟩
    have h1 := hCat j l[j] (List.getElem?_eq_getElem hjl)
    rw [List.getElem?_eq_getElem hj, he] at h1
    exact (Option.some.inj h1)
  have hatf : ∀ j x, l[j]? = some x → (atL nb j x).fit := fun j x hx => ⟨atT_fit (hlf x (List.mem_of_getElem? hx)).1 (by have := (hlf x (List.mem_of_getElem? hx)).2; omega), zTm_fit⟩
  have hCf : ∀ z ∈ C, z.fit := fun z hz => by
    obtain ⟨j, x, hx, rfl⟩ := hCmem z hz
    exact hatf j x hx
  have hCb : ∀ z ∈ C, z.b.size = 1 := fun z hz => by
    obtain ⟨j, x, hx, rfl⟩ := hCmem z hz
    exact zTm_size
  have hAK := hvA_hvK C hCb l.length (by omega)
  have hlok : (hvA C l.length).1 ≥ 0 → lokL C = [(hvA C l.length).1] := fun h => by
    rcases hAK with ⟨h1, _⟩ | ⟨p, W2, h1, h2⟩
    · rw [h1] at h; exact absurd h (by decide)
    · unfold lokL
      rw [hCl, h2, h1, if_pos (by show (p : Int) ≥ 0; omega)]
  have hsC := Lt.size_all C
  refine AWp.wk (wk_sub (s' := [(5, .own (.lst (C.map Lt.cv)) 200050), (200050, .tok 35 5), (7, .val (.i (hvA C l.length).1))]) ⟨by rw [hC]; rfl, rfl, by rw [hC]; rfl, trivial⟩) ?_
  refine aS (aR ?_)
  (refine nx (aM (gN rfl) rfl rfl rfl rfl rfl) rfl ?_)
  (refine nx (a_call (gN rfl) rfl rfl rfl rfl rfl (oLook_abs w C (by omega) hCf)) rfl ?_)
  (refine nx (aA (gN rfl) rfl rfl rfl rfl rfl) rfl ?_)
  show AWp _ _ _ _ _ _ _
  refine aS ?_
  refine awp_mid [(5, .own (.lst (C.map Lt.cv)) 200050), (200050, .tok 35 5), (76, .val (.b false))] ?_ ?_
  · obtain ⟨z, hz⟩ : ∃ z, z = (hvA C l.length).1 := ⟨_, rfl⟩
    rw [← hz] at hlok ⊢
    by_cases hz0 : z ≥ 0
    · have g0 : decide (z ≥ 0) = true := decide_eq_true hz0
      have g1 : decide (z ≠ z) = false := decide_eq_false (fun h => h rfl)
      rw [hlok hz0]
      refine aR ?_
      (refine nx (aM (gN rfl) rfl rfl rfl rfl rfl) rfl ?_)
      (refine nx (a_geq (gN rfl) rfl rfl rfl rfl rfl rfl) rfl ?_)
      (refine nx (aM (gN rfl) rfl rfl rfl rfl rfl) rfl ?_)
      (refine nx (aM (gd_on rfl rfl rfl rfl (by first | rfl | assumption | (simp; done))) rfl rfl rfl rfl rfl) rfl ?_)
      (refine nx (a_len (gd_on rfl rfl rfl rfl (by first | rfl | assumption | (simp; done))) rfl rfl rfl rfl rfl rfl rfl) rfl ?_)
      (refine nx (a_neq (gd_on rfl rfl rfl rfl (by first | rfl | assumption | (simp; done))) rfl rfl rfl rfl rfl rfl) rfl ?_)
      (refine nx (aM (gd_on rfl rfl rfl rfl (by first | rfl | assumption | (simp; done))) rfl rfl rfl rfl rfl) rfl ?_)
      (refine nx (aM (gd_on rfl rfl rfl rfl (by first | rfl | assumption | (simp; done))) rfl rfl rfl rfl rfl) rfl ?_)
      (refine nx (a_index (j := 0) (gd_on rfl rfl rfl rfl (by first | rfl | assumption | (simp; done))) rfl rfl rfl rfl rfl rfl rfl rfl rfl (rfl) rfl (ints_size [z])) rfl ?_)
      (refine nx (a_load_ad (gd_on rfl rfl rfl rfl (by first | rfl | assumption | (simp; done))) rfl rfl rfl rfl rfl rfl rfl rfl rfl) rfl ?_)
      (refine nx (aM (gd_on rfl rfl rfl rfl (by first | rfl | assumption | (simp; done))) rfl rfl rfl rfl rfl) rfl ?_)
      (refine nx (a_neq (gd_on rfl rfl rfl rfl (by first | rfl | assumption | (simp; done))) rfl rfl rfl rfl rfl rfl) rfl ?_)
      (refine ⟨_, _, _, aPf (gd_on rfl rfl rfl rfl (by first | rfl | assumption | (simp; done))) rfl rfl rfl rfl rfl ?hb rfl, rfl, ?_⟩; case hb => (first | rfl | assumption | (simp; done)))
      (refine ⟨_, _, _, aPt (gN rfl) rfl rfl rfl rfl rfl ?hb rfl, rfl, ?_⟩; case hb => (first | rfl | assumption | (simp; done)))
      refine wk_sub ⟨rfl, rfl, ?_, trivial⟩
      show some (AV.val (.b (decide (z ≠ z)))) = some (AV.val (.b false))
      rw [g1]
    · have g0 : decide (z ≥ 0) = false := decide_eq_false hz0
      refine aR ?_
      (refine nx (aM (gN rfl) rfl rfl rfl rfl rfl) rfl ?_)
      (refine nx (a_geq (gN rfl) rfl rfl rfl rfl rfl rfl) rfl ?_)
      (refine nx (aM (gN rfl) rfl rfl rfl rfl rfl) rfl ?_)
      (refine ⟨_, _, _, a_offt (go_off rfl rfl rfl rfl (by first | rfl | assumption | (simp; done) | (simp [*]; done))) rfl rfl rfl, rfl, ?_⟩)
      (refine ⟨_, _, _, a_offt (go_off rfl rfl rfl rfl (by first | rfl | assumption | (simp; done) | (simp [*]; done))) rfl rfl rfl, rfl, ?_⟩)
      (refine ⟨_, _, _, a_offt (go_off rfl rfl rfl rfl (by first | rfl | assumption | (simp; done) | (simp [*]; done))) rfl rfl rfl, rfl, ?_⟩)
      (refine ⟨_, _, _, a_offt (go_off rfl rfl rfl rfl (by first | rfl | assumption | (simp; done) | (simp [*]; done))) rfl rfl rfl, rfl, ?_⟩)
      (refine ⟨_, _, _, a_offt (go_off_t rfl rfl rfl rfl) rfl rfl rfl, rfl, ?_⟩)
      (refine ⟨_, _, _, a_offt (go_off_t rfl rfl rfl rfl) rfl rfl rfl, rfl, ?_⟩)
      (refine ⟨_, _, _, a_offt (go_off_t rfl rfl rfl rfl) rfl rfl rfl, rfl, ?_⟩)
      (refine ⟨_, _, _, a_offt (go_off_t rfl rfl rfl rfl) rfl rfl rfl, rfl, ?_⟩)
      (refine ⟨_, _, _, a_offt (go_off_t rfl rfl rfl rfl) rfl rfl rfl, rfl, ?_⟩)
      (refine ⟨_, _, _, a_offt (go_off rfl rfl rfl rfl (by first | rfl | assumption | (simp; done) | (simp [*]; done))) rfl rfl rfl, rfl, ?_⟩)
      (refine ⟨_, _, _, aPf (gN rfl) rfl rfl rfl rfl rfl ?hb rfl, rfl, ?_⟩; case hb => (first | rfl | assumption | (simp; done)))
      exact wk_sub ⟨rfl, rfl, rfl, trivial⟩
  refine aC rfl (fun hc => by cases hc) (fun _ => aK ?_)
  show AWp _ _ _ _ _ _ _
  refine aS (aS (aR ?_))
  (refine nx (aA (gN rfl) rfl rfl rfl rfl rfl) rfl ?_)
  show AWp _ _ _ _ _ _ _
  have hCl5 : C.length ≤ 5 := by omega
  let st7 : Nat → AS := fun i => [(5, .own (.lst (C.map Lt.cv)) 200050), (200050, .tok 35 5), (12, .val (.i i))]
  refine aB (awp_count C.length st7 (wk_sub ⟨rfl, rfl, rfl, trivial⟩) ?_)
  intro i hi
  refine aS (aS (aR ?_))
  (refine nx (aM (gN rfl) rfl rfl rfl rfl rfl) rfl ?_)
  (refine nx (aM (gN rfl) rfl rfl rfl rfl rfl) rfl ?_)
  (refine nx (a_len (gN rfl) rfl rfl rfl rfl rfl rfl rfl) rfl ?_)
  (refine nx (a_lss (gN rfl) rfl rfl rfl rfl rfl rfl) rfl ?_)
  show AWp _ _ _ _ _ _ _
  refine aC rfl (fun hlt => ?_) (fun hlt => ?_)
  · have hil : i < C.length := by simpa using hlt
    obtain ⟨x, hx⟩ : ∃ x, l[i]? = some x := ⟨l[i]'(by omega), List.getElem?_eq_getElem (by omega)⟩
    have hxc := hCat i x hx
    have hx' := Lt.map_at hxc
    have hxf := hatf i x hx
    refine aK ?_
    show AWp _ _ _ _ _ _ _
    refine aS (aB (aS (aS (aR ?_))))
    (refine nx (aA (gN rfl) rfl rfl rfl rfl rfl) rfl ?_)
    show AWp _ _ _ _ _ _ _
    let st8 : Nat → AS := fun k => [(5, .own (.lst (C.map Lt.cv)) 200050), (200050, .tok 35 5), (12, .val (.i i)), (13, .val (.i k))]
    refine aB (awp_count C.length st8 (wk_sub ⟨rfl, rfl, rfl, rfl, trivial⟩) ?_)
    intro k hk
    refine aS (aS (aR ?_))
    (refine nx (aM (gN rfl) rfl rfl rfl rfl rfl) rfl ?_)
    (refine nx (aM (gN rfl) rfl rfl rfl rfl rfl) rfl ?_)
    (refine nx (a_len (gN rfl) rfl rfl rfl rfl rfl rfl rfl) rfl ?_)
    (refine nx (a_lss (gN rfl) rfl rfl rfl rfl rfl rfl) rfl ?_)
    show AWp _ _ _ _ _ _ _
    refine aC rfl (fun hlt2 => ?_) (fun hlt2 => ?_)
    · have hkl : k < C.length := by simpa using hlt2
      obtain ⟨u, hu⟩ : ∃ u, l[k]? = some u := ⟨l[k]'(by omega), List.getElem?_eq_getElem (by omega)⟩
      have huc := hCat k u hu
      have hu' := Lt.map_at huc
      have huf := hatf k u hu
      refine aK ?_
      show AWp _ _ _ _ _ _ _
      refine aS (aB ?_)
      cases hsg : (nb i == nb k) with
      | true =>
        have hsg2 : nb i = nb k := by simpa using hsg
        have G1 := oGr_abs w (atL nb i x) (atL nb k u) hxf huf
        have hme : mulB (tmsL (atL nb i x)) (tmsL (atL nb k u)) = decide (kb (atT x) (atT u) = 1) := by unfold atL; rw [hsg2]; exact mul_atoms _ _ _ _
        rw [hme] at G1
        have G2 := kGreater_abs w (atT x) (atT u) hxf.1.1 hxf.1.2.1 (Nat.le_trans hxf.1.2.2 (by omega)) huf.1.1 huf.1.2.1 (Nat.le_trans huf.1.2.2 (by omega))
        obtain ⟨X, hX⟩ : ∃ X, X = decide (kb (atT x) (atT u) = 1) := ⟨_, rfl⟩
        rw [← hX] at G1 G2
        refine aS (aD (by kernel_rfl) (by kernel_rfl) ?_)
        (refine nx (aM (gN rfl) rfl rfl rfl rfl rfl) rfl ?_)
        (refine nx (aM (gN rfl) rfl rfl rfl rfl rfl) rfl ?_)
        (refine nx (a_index (j := i) (gN rfl) rfl rfl rfl rfl rfl rfl rfl rfl rfl (hx') rfl (hsC)) rfl ?_)
        (refine nx (a_field_ad (gN rfl) rfl rfl rfl rfl rfl rfl rfl rfl rfl rfl rfl) rfl ?_)
        (refine nx (a_load_ad (gN rfl) rfl rfl rfl rfl rfl rfl rfl rfl rfl) rfl ?_)
        (refine nx (aM (gN rfl) rfl rfl rfl rfl rfl) rfl ?_)
        (refine nx (aM (gN rfl) rfl rfl rfl rfl rfl) rfl ?_)
        (refine nx (a_index (j := k) (gN rfl) rfl rfl rfl rfl rfl rfl rfl rfl rfl (hu') rfl (hsC)) rfl ?_)
        (refine nx (a_field_ad (gN rfl) rfl rfl rfl rfl rfl rfl rfl rfl rfl rfl rfl) rfl ?_)
        (refine nx (a_load_ad (gN rfl) rfl rfl rfl rfl rfl rfl rfl rfl rfl) rfl ?_)
        (refine nx (a_beq (gN rfl) rfl rfl rfl rfl rfl rfl rfl) rfl ?_)
        (refine nx (aM (gN rfl) rfl rfl rfl rfl rfl) rfl ?_)
        (refine nx (aM (gd_on rfl rfl rfl rfl (by first | rfl | assumption | (simp; done))) rfl rfl rfl rfl rfl) rfl ?_)
        (refine nx (aM (gd_on rfl rfl rfl rfl (by first | rfl | assumption | (simp; done))) rfl rfl rfl rfl rfl) rfl ?_)
        (refine nx (a_index (j := i) (gd_on rfl rfl rfl rfl (by first | rfl | assumption | (simp; done))) rfl rfl rfl rfl rfl rfl rfl rfl rfl (hx') rfl (hsC)) rfl ?_)
        (refine nx (a_load_ad (gd_on rfl rfl rfl rfl (by first | rfl | assumption | (simp; done))) rfl rfl rfl rfl rfl rfl rfl rfl rfl) rfl ?_)
        (refine nx (aM (gd_on rfl rfl rfl rfl (by first | rfl | assumption | (simp; done))) rfl rfl rfl rfl rfl) rfl ?_)
        (refine nx (aM (gd_on rfl rfl rfl rfl (by first | rfl | assumption | (simp; done))) rfl rfl rfl rfl rfl) rfl ?_)
        (refine nx (a_index (j := k) (gd_on rfl rfl rfl rfl (by first | rfl | assumption | (simp; done))) rfl rfl rfl rfl rfl rfl rfl rfl rfl (hu') rfl (hsC)) rfl ?_)
        (refine nx (a_load_ad (gd_on rfl rfl rfl rfl (by first | rfl | assumption | (simp; done))) rfl rfl rfl rfl rfl rfl rfl rfl rfl) rfl ?_)
        (refine nx (a_call (gd_on rfl rfl rfl rfl (by first | rfl | assumption | (simp; done))) rfl rfl rfl rfl rfl (G1)) rfl ?_)
        (refine nx (aM (gd_on rfl rfl rfl rfl (by first | rfl | assumption | (simp; done))) rfl rfl rfl rfl rfl) rfl ?_)
        (refine nx (aM (gd_on rfl rfl rfl rfl (by first | rfl | assumption | (simp; done))) rfl rfl rfl rfl rfl) rfl ?_)
        (refine nx (a_index (j := i) (gd_on rfl rfl rfl rfl (by first | rfl | assumption | (simp; done))) rfl rfl rfl rfl rfl rfl rfl rfl rfl (hx') rfl (hsC)) rfl ?_)
        (refine nx (a_field_ad (gd_on rfl rfl rfl rfl (by first | rfl | assumption | (simp; done))) rfl rfl rfl rfl rfl rfl rfl rfl rfl rfl rfl) rfl ?_)
        (refine nx (a_load_ad (gd_on rfl rfl rfl rfl (by first | rfl | assumption | (simp; done))) rfl rfl rfl rfl rfl rfl rfl rfl rfl) rfl ?_)
        (refine nx (aM (gd_on rfl rfl rfl rfl (by first | rfl | assumption | (simp; done))) rfl rfl rfl rfl rfl) rfl ?_)
        (refine nx (aM (gd_on rfl rfl rfl rfl (by first | rfl | assumption | (simp; done))) rfl rfl rfl rfl rfl) rfl ?_)
        (refine nx (a_index (j := k) (gd_on rfl rfl rfl rfl (by first | rfl | assumption | (simp; done))) rfl rfl rfl rfl rfl rfl rfl rfl rfl (hu') rfl (hsC)) rfl ?_)
        (refine nx (a_field_ad (gd_on rfl rfl rfl rfl (by first | rfl | assumption | (simp; done))) rfl rfl rfl rfl rfl rfl rfl rfl rfl rfl rfl) rfl ?_)
        (refine nx (a_load_ad (gd_on rfl rfl rfl rfl (by first | rfl | assumption | (simp; done))) rfl rfl rfl rfl rfl rfl rfl rfl rfl) rfl ?_)
        (refine nx (a_call (gd_on rfl rfl rfl rfl (by first | rfl | assumption | (simp; done))) rfl rfl rfl rfl rfl (G2)) rfl ?_)
        (refine nx (a_bne (gd_on rfl rfl rfl rfl (by first | rfl | assumption | (simp; done))) rfl rfl rfl rfl rfl rfl rfl) rfl ?_)
        (refine ⟨_, _, _, aPt (gN rfl) rfl rfl rfl rfl rfl ?hb rfl, rfl, ?_⟩; case hb => (first | rfl | assumption | (simp; done)))
        refine ⟨by kernel_rfl, ?_⟩
        show AWp _ _ _ _ _ _ _
        refine aC rfl (fun hc => by have hc : (X != X) = true := hc; simp at hc) (fun _ => aK ?_)
        show AWp _ _ _ _ _ _ _
        refine aR ?_
        (refine nx (aM (gN rfl) rfl rfl rfl rfl rfl) rfl ?_)
        (refine nx (a_add (gN rfl) rfl rfl rfl rfl rfl rfl (by first | omega | (simp only [List.length_map, List.length_append, List.length_cons, List.length_nil] <;> omega) | (simp <;> omega))) rfl ?_)
        (refine nx (aA (gN rfl) rfl rfl rfl rfl rfl) rfl ?_)
        exact ⟨hkl, wk_sub ⟨rfl, rfl, rfl, rfl, trivial⟩⟩
      | false =>
        refine aS (aD (by kernel_rfl) (by kernel_rfl) ?_)
        (refine nx (aM (gN rfl) rfl rfl rfl rfl rfl) rfl ?_)
        (refine nx (aM (gN rfl) rfl rfl rfl rfl rfl) rfl ?_)
        (refine nx (a_index (j := i) (gN rfl) rfl rfl rfl rfl rfl rfl rfl rfl rfl (hx') rfl (hsC)) rfl ?_)
        (refine nx (a_field_ad (gN rfl) rfl rfl rfl rfl rfl rfl rfl rfl rfl rfl rfl) rfl ?_)
        (refine nx (a_load_ad (gN rfl) rfl rfl rfl rfl rfl rfl rfl rfl rfl) rfl ?_)
        (refine nx (aM (gN rfl) rfl rfl rfl rfl rfl) rfl ?_)
        (refine nx (aM (gN rfl) rfl rfl rfl rfl rfl) rfl ?_)
        (refine nx (a_index (j := k) (gN rfl) rfl rfl rfl rfl rfl rfl rfl rfl rfl (hu') rfl (hsC)) rfl ?_)
        (refine nx (a_field_ad (gN rfl) rfl rfl rfl rfl rfl rfl rfl rfl rfl rfl rfl) rfl ?_)
        (refine nx (a_load_ad (gN rfl) rfl rfl rfl rfl rfl rfl rfl rfl rfl) rfl ?_)
        (refine nx (a_beq (gN rfl) rfl rfl rfl rfl rfl rfl rfl) rfl ?_)
        (refine nx (aM (gN rfl) rfl rfl rfl rfl rfl) rfl ?_)
        (refine ⟨_, _, _, a_off (go_off rfl rfl rfl rfl (by first | rfl | assumption | (simp; done) | (simp [*]; done))) rfl rfl rfl, rfl, ?_⟩)
        (refine ⟨_, _, _, a_off (go_off rfl rfl rfl rfl (by first | rfl | assumption | (simp; done) | (simp [*]; done))) rfl rfl rfl, rfl, ?_⟩)
        (refine ⟨_, _, _, a_off (go_off rfl rfl rfl rfl (by first | rfl | assumption | (simp; done) | (simp [*]; done))) rfl rfl rfl, rfl, ?_⟩)
        (refine ⟨_, _, _, a_off (go_off rfl rfl rfl rfl (by first | rfl | assumption | (simp; done) | (simp [*]; done))) rfl rfl rfl, rfl, ?_⟩)
        (refine ⟨_, _, _, a_off (go_off rfl rfl rfl rfl (by first | rfl | assumption | (simp; done) | (simp [*]; done))) rfl rfl rfl, rfl, ?_⟩)
        (refine ⟨_, _, _, a_off (go_off rfl rfl rfl rfl (by first | rfl | assumption | (simp; done) | (simp [*]; done))) rfl rfl rfl, rfl, ?_⟩)
        (refine ⟨_, _, _, a_off (go_off rfl rfl rfl rfl (by first | rfl | assumption | (simp; done) | (simp [*]; done))) rfl rfl rfl, rfl, ?_⟩)
        (refine ⟨_, _, _, a_off (go_off rfl rfl rfl rfl (by first | rfl | assumption | (simp; done) | (simp [*]; done))) rfl rfl rfl, rfl, ?_⟩)
        (refine ⟨_, _, _, a_off (go_off rfl rfl rfl rfl (by first | rfl | assumption | (simp; done) | (simp [*]; done))) rfl rfl rfl, rfl, ?_⟩)
        (refine ⟨_, _, _, a_off (go_off rfl rfl rfl rfl (by first | rfl | assumption | (simp; done) | (simp [*]; done))) rfl rfl rfl, rfl, ?_⟩)
        (refine ⟨_, _, _, a_off (go_off rfl rfl rfl rfl (by first | rfl | assumption | (simp; done) | (simp [*]; done))) rfl rfl rfl, rfl, ?_⟩)
        (refine ⟨_, _, _, a_off (go_off rfl rfl rfl rfl (by first | rfl | assumption | (simp; done) | (simp [*]; done))) rfl rfl rfl, rfl, ?_⟩)
        (refine ⟨_, _, _, a_off (go_off rfl rfl rfl rfl (by first | rfl | assumption | (simp; done) | (simp [*]; done))) rfl rfl rfl, rfl, ?_⟩)
        (refine ⟨_, _, _, a_off (go_off rfl rfl rfl rfl (by first | rfl | assumption | (simp; done) | (simp [*]; done))) rfl rfl rfl, rfl, ?_⟩)
        (refine ⟨_, _, _, a_off (go_off rfl rfl rfl rfl (by first | rfl | assumption | (simp; done) | (simp [*]; done))) rfl rfl rfl, rfl, ?_⟩)
        (refine ⟨_, _, _, a_off (go_off rfl rfl rfl rfl (by first | rfl | assumption | (simp; done) | (simp [*]; done))) rfl rfl rfl, rfl, ?_⟩)
        (refine ⟨_, _, _, a_off (go_off rfl rfl rfl rfl (by first | rfl | assumption | (simp; done) | (simp [*]; done))) rfl rfl rfl, rfl, ?_⟩)
        (refine ⟨_, _, _, a_off (go_off rfl rfl rfl rfl (by first | rfl | assumption | (simp; done) | (simp [*]; done))) rfl rfl rfl, rfl, ?_⟩)
        (refine ⟨_, _, _, a_off (go_off rfl rfl rfl rfl (by first | rfl | assumption | (simp; done) | (simp [*]; done))) rfl rfl rfl, rfl, ?_⟩)
        (refine ⟨_, _, _, a_off (go_off rfl rfl rfl rfl (by first | rfl | assumption | (simp; done) | (simp [*]; done))) rfl rfl rfl, rfl, ?_⟩)
        (refine ⟨_, _, _, a_off (go_off rfl rfl rfl rfl (by first | rfl | assumption | (simp; done) | (simp [*]; done))) rfl rfl rfl, rfl, ?_⟩)
        (refine ⟨_, _, _, aPf (gN rfl) rfl rfl rfl rfl rfl ?hb rfl, rfl, ?_⟩; case hb => (first | rfl | assumption | (simp; done)))
        refine ⟨by kernel_rfl, ?_⟩
        show AWp _ _ _ _ _ _ _
        refine aC rfl (fun hc => by cases hc) (fun _ => aK ?_)
        show AWp _ _ _ _ _ _ _
        refine aR ?_
        (refine nx (aM (gN rfl) rfl rfl rfl rfl rfl) rfl ?_)
        (refine nx (a_add (gN rfl) rfl rfl rfl rfl rfl rfl (by first | omega | (simp only [List.length_map, List.length_append, List.length_cons, List.length_nil] <;> omega) | (simp <;> omega))) rfl ?_)
        (refine nx (aA (gN rfl) rfl rfl rfl rfl rfl) rfl ?_)
        exact ⟨hkl, wk_sub ⟨rfl, rfl, rfl, rfl, trivial⟩⟩
    have hkl : k = C.length := by
      have : ¬ k < C.length := by simpa using hlt2
      omega
    subst hkl
    refine aE ?_
    show AWp _ _ _ _ _ _ _
    refine aS (aD (by kernel_rfl) (by kernel_rfl) ?_)
    (refine nx (aM (gN rfl) rfl rfl rfl rfl rfl) rfl ?_)
    (refine nx (aM (gN rfl) rfl rfl rfl rfl rfl) rfl ?_)
    (refine nx (a_index (j := i) (gN rfl) rfl rfl rfl rfl rfl rfl rfl rfl rfl (hx') rfl (hsC)) rfl ?_)
    (refine nx (a_field_ad (gN rfl) rfl rfl rfl rfl rfl rfl rfl rfl rfl rfl rfl) rfl ?_)
    (refine nx (a_load_ad (gN rfl) rfl rfl rfl rfl rfl rfl rfl rfl rfl) rfl ?_)
    (refine nx (aM (gN rfl) rfl rfl rfl rfl rfl) rfl ?_)
    (refine nx (aM (gN rfl) rfl rfl rfl rfl rfl) rfl ?_)
    (refine nx (a_index (j := i) (gN rfl) rfl rfl rfl rfl rfl rfl rfl rfl rfl (hx') rfl (hsC)) rfl ?_)
    (refine nx (a_field_ad (gN rfl) rfl rfl rfl rfl rfl rfl rfl rfl rfl rfl rfl) rfl ?_)
    (refine nx (a_load_ad (gN rfl) rfl rfl rfl rfl rfl rfl rfl rfl rfl) rfl ?_)
    (refine nx (aM (gN rfl) rfl rfl rfl rfl rfl) rfl ?_)
    (refine nx (aM (gN rfl) rfl rfl rfl rfl rfl) rfl ?_)
    (refine nx (a_index (j := i) (gN rfl) rfl rfl rfl rfl rfl rfl rfl rfl rfl (hx') rfl (hsC)) rfl ?_)
    (refine nx (a_field_ad (gN rfl) rfl rfl rfl rfl rfl rfl rfl rfl rfl rfl rfl) rfl ?_)
    (refine nx (a_load_ad (gN rfl) rfl rfl rfl rfl rfl rfl rfl rfl rfl) rfl ?_)
    (refine nx (a_build (gN rfl) rfl rfl rfl rfl rfl rfl rfl rfl rfl rfl rfl) rfl ?_)
    (refine nx (a_alloc (gN rfl) rfl rfl rfl rfl rfl rfl rfl rfl rfl rfl) rfl ?_)
    (refine nx (aSt (gN rfl) rfl rfl rfl rfl rfl rfl rfl rfl rfl rfl) rfl ?_)
    refine ⟨by kernel_rfl, ?_⟩
    show AWp _ _ _ _ _ _ _
    have O1 := oOri_abs w (atL nb i x) hxf
    rw [show orK (atL nb i x) 2 = _ from or_at _ _] at O1
    have O2 := oOri_abs w ⟨nb i, zTm, atT x⟩ ⟨hxf.2, hxf.1⟩
    rw [or_at1] at O2
    have G3 := oGr_abs w (atL nb i x) ⟨nb i, zTm, atT x⟩ hxf ⟨hxf.2, hxf.1⟩
    rw [show mulB (tmsL (atL nb i x)) (tmsL ⟨nb i, zTm, atT x⟩) = false from mul_self_turn (atL nb i x)] at G3
    refine AWp.wk (wk_sub (s' := [(5, .own (.lst (C.map Lt.cv)) 200050), (200050, .tok 35 5), (12, .val (.i i)), (14, .bp 14 0 []), (100014, .bx (Lt.cw ⟨nb i, zTm, atT x⟩))]) ⟨rfl, rfl, rfl, rfl, rfl, trivial⟩) ?_
    refine aS (aD (by kernel_rfl) (by kernel_rfl) ?_)
    (refine nx (aM (gN rfl) rfl rfl rfl rfl rfl) rfl ?_)
    (refine nx (aM (gN rfl) rfl rfl rfl rfl rfl) rfl ?_)
    (refine nx (a_index (j := i) (gN rfl) rfl rfl rfl rfl rfl rfl rfl rfl rfl (hx') rfl (hsC)) rfl ?_)
    (refine nx (a_load_ad (gN rfl) rfl rfl rfl rfl rfl rfl rfl rfl rfl) rfl ?_)
    (refine nx (a_call (gN rfl) rfl rfl rfl rfl rfl (O1)) rfl ?_)
    (refine nx (a_len (gN rfl) rfl rfl rfl rfl rfl rfl rfl) rfl ?_)
    (refine nx (a_neq (gN rfl) rfl rfl rfl rfl rfl rfl) rfl ?_)
    (refine nx (aM (gN rfl) rfl rfl rfl rfl rfl) rfl ?_)
    (refine nx (aL (gd_on rfl rfl rfl rfl (by first | rfl | assumption | (simp; done))) rfl rfl rfl rfl rfl rfl rfl rfl rfl rfl rfl rfl) rfl ?_)
    (refine nx (a_call (gd_on rfl rfl rfl rfl (by first | rfl | assumption | (simp; done))) rfl rfl rfl rfl rfl (O2)) rfl ?_)
    (refine nx (a_len (gd_on rfl rfl rfl rfl (by first | rfl | assumption | (simp; done))) rfl rfl rfl rfl rfl rfl rfl) rfl ?_)
    (refine nx (a_neq (gd_on rfl rfl rfl rfl (by first | rfl | assumption | (simp; done))) rfl rfl rfl rfl rfl rfl) rfl ?_)
    (refine ⟨_, _, _, aPf (gN rfl) rfl rfl rfl rfl rfl ?hb rfl, rfl, ?_⟩; case hb => (first | rfl | assumption | (simp; done)))
    (refine nx (aM (gN rfl) rfl rfl rfl rfl rfl) rfl ?_)
    (refine nx (aM (gd_on rfl rfl rfl rfl (by first | rfl | assumption | (simp; done))) rfl rfl rfl rfl rfl) rfl ?_)
    (refine nx (aM (gd_on rfl rfl rfl rfl (by first | rfl | assumption | (simp; done))) rfl rfl rfl rfl rfl) rfl ?_)
    (refine nx (a_index (j := i) (gd_on rfl rfl rfl rfl (by first | rfl | assumption | (simp; done))) rfl rfl rfl rfl rfl rfl rfl rfl rfl (hx') rfl (hsC)) rfl ?_)
    (refine nx (a_load_ad (gd_on rfl rfl rfl rfl (by first | rfl | assumption | (simp; done))) rfl rfl rfl rfl rfl rfl rfl rfl rfl) rfl ?_)
    (refine nx (aL (gd_on rfl rfl rfl rfl (by first | rfl | assumption | (simp; done))) rfl rfl rfl rfl rfl rfl rfl rfl rfl rfl rfl rfl) rfl ?_)
    (refine nx (a_call (gd_on rfl rfl rfl rfl (by first | rfl | assumption | (simp; done))) rfl rfl rfl rfl rfl (G3)) rfl ?_)
    (refine ⟨_, _, _, aPf (gN rfl) rfl rfl rfl rfl rfl ?hb rfl, rfl, ?_⟩; case hb => (first | rfl | assumption | (simp; done)))
    refine ⟨by kernel_rfl, ?_⟩
    show AWp _ _ _ _ _ _ _
    refine aC rfl (fun hc => by cases hc) (fun _ => aK ?_)
    show AWp _ _ _ _ _ _ _
    refine aR ?_
    (refine nx (aM (gN rfl) rfl rfl rfl rfl rfl) rfl ?_)
    (refine nx (a_add (gN rfl) rfl rfl rfl rfl rfl rfl (by first | omega | (simp only [List.length_map, List.length_append, List.length_cons, List.length_nil] <;> omega) | (simp <;> omega))) rfl ?_)
    (refine nx (aA (gN rfl) rfl rfl rfl rfl rfl) rfl ?_)
    exact ⟨hil, wk_sub ⟨rfl, rfl, rfl, trivial⟩⟩
  have hil : i = C.length := by
    have : ¬ i < C.length := by simpa using hlt
    omega
  subst hil
  refine aE ?_
  show AWp _ _ _ _ _ _ _
  refine aS (aR ?_)
  (refine nx (aA (gN rfl) rfl rfl rfl rfl rfl) rfl ?_)
  show AWp _ _ _ _ _ _ _
  exact aT (And.intro (.inr rfl) rfl)
theorem shp_tms {n : Nat} {c : CV} (h : Shp Try.prog n 22 c) : ∃ l : List Tm, c = .lst (l.map Tm.cv) ∧ ∀ t ∈ l, t.rng := by
  cases n with
  | zero => exact h.elim
  | succ n =>
    rw [Shp, Try.underlying22] at h
    obtain ⟨l, rfl, hl⟩ := h
    obtain ⟨m, h1, h2⟩ := list_of Tm.cv (fun t => t.rng) (l := l) (fun x hx => by
      obtain ⟨t, rfl, ht⟩ := shp_tm n (hl x hx)
      exact ⟨t, (Tm.cv_eq t).symm, ht⟩)
    exact ⟨m, by rw [h1], h2⟩

end Go.Proofs.Ytglbohajmccehaa

