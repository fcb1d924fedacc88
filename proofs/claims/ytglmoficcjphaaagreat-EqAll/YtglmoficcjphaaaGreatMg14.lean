/-
  EqRef2 EqRef3 EqAlive EqLw
-/
import Derived.Test.YtglmoficcjphaaaGreatMg13
import Derived.Test.YtglmoficcjphaaaGreatMg12
namespace Go.Proofs.YtglmoficcjphaaaGreat
open Go.RowKit
set_option linter.unusedVariables false
set_option linter.unusedSimpArgs false
set_option maxRecDepth 100000
theorem resD_succ (c : List Lt) (k : Nat) : resD c (k + 1) = resD c k ++ (resDi c k).toList := by
  unfold resD
  rw [List.range_succ, List.filterMap_append]
  congr 1
theorem resD_len (c : List Lt) (k : Nat) : (resD c k).length ≤ k := by
  unfold resD
  exact Nat.le_trans (List.length_filterMap_le _ _) (by rw [List.length_range]; omega)
theorem ten_okF {c : List Lt} (h : ∀ l ∈ c, l.ten) : ∀ l ∈ c, l.fit := fun l hl => ⟨⟨(h l hl).1.1.1, (h l hl).1.1.2, by have := (h l hl).1.2; omega⟩, (h l hl).2.1.1, (h l hl).2.1.2, by have := (h l hl).2.2; omega⟩
theorem offD_in {c : List Lt} {k : Nat} (h : k < c.length) : offD c (k : Int) c.length = offL c k := by
  rw [offD_eq, if_pos (by omega), Int.toNat_natCast]
-- 
set_option maxHeartbeats 4000000 in
theorem rRes_abs (W : World) (c : List Lt) (hl : c.length ≤ 100) (hc : ∀ l ∈ c, l.ten) : AFun Tryz.prog W 13 [.lst (c.map Lt.cv)] (.val (.lst ((resD c c.length).map clC))) := by
  have hsz := Lt.size_all c
  refine afun_of (rs := [.lst ((resD c c.length).map clC)]) Tryz.func13 Tryz.ntmps13 rfl rfl rfl rfl ?_
  intro w U hW
  refine aS (aR ?_)
  (refine nx (aA (gN rfl) rfl rfl rfl rfl rfl) rfl ?_)
  show AWp _ _ _ _ _ _ _
  refine aS (aR ?_)
  (refine nx (aA (gN rfl) rfl rfl rfl rfl rfl) rfl ?_)
  show AWp _ _ _ _ _ _ _
  refine aS (aS (aR ?_))
  (refine nx (aA (gN rfl) rfl rfl rfl rfl rfl) rfl ?_)
  show AWp _ _ _ _ _ _ _
  let st : Nat → AS := fun k => [(0, .val (.lst (c.map Lt.cv))), (3, .own (.lst ((resD c k).map clC)) 200049), (200049, .tok 22 1), (4, .val (.i k))]
  refine aB (awp_count c.length st ((wk_nil 3 200049 22 1 rfl rfl rfl rfl rfl rfl rfl).trans (wk_sub ⟨rfl, rfl, rfl, rfl, trivial⟩)) ?_)
  intro k hk
  refine aS (aS (aR ?_))
  (refine nx (aM (gN rfl) rfl rfl rfl rfl rfl) rfl ?_)
  (refine nx (aM (gN rfl) rfl rfl rfl rfl rfl) rfl ?_)
  (refine nx (a_len (gN rfl) rfl rfl rfl rfl rfl rfl rfl) rfl ?_)
  (refine nx (a_lss (gN rfl) rfl rfl rfl rfl rfl rfl) rfl ?_)
  show AWp _ _ _ _ _ _ _
  refine aC rfl (fun hlt => ?_) (fun hlt => ?_)
  · have hkl : k < c.length := by simpa using hlt
    obtain ⟨x, hx⟩ : ∃ x, c[k]? = some x := ⟨c[k], List.getElem?_eq_getElem hkl⟩
    have hx' := Lt.map_at hx
    have hxt := hc x (List.mem_of_getElem? hx)
    have hS := resD_succ c k
    have hrc : resDi c k = if x.neg = true ∧ (mgT x.a x.b).2 = true ∧ (k : Int) ∈ lokL c then some ((offL c k).map (appL (dT x.a x.b))) else none := by unfold resDi; rw [hx]
    have hA := resD_len c k
    obtain ⟨A, hAe⟩ : ∃ A, A = resD c k := ⟨_, rfl⟩
    rw [← hAe] at hS hA
    have hAm : (A.map clC).length ≤ 100 := by rw [List.length_map]; omega
    have hszA := clC_size A
    have hno : resDi c k = none → ∀ s : AS, SubL s [(0, .val (.lst (c.map Lt.cv))), (3, .own (.lst (A.map clC)) 200049), (200049, .tok 22 1), (4, .val (.i ((k + 1 : Nat) : Int)))] → SubL s (st (k + 1)) := fun h s hs => by
      have e2 : resD c (k + 1) = A := by rw [hS, h]; simp
      show SubL s [(0, .val (.lst (c.map Lt.cv))), (3, .own (.lst ((resD c (k + 1)).map clC)) 200049), (200049, .tok 22 1), (4, .val (.i ((k + 1 : Nat) : Int)))]
      rw [e2]
      exact hs
    refine aK ?_
    show AWp _ _ _ _ _ _ _
    refine aS (aB (aS (aD (by kernel_rfl) (by kernel_rfl) ?_)))
    (refine nx (aM (gN rfl) rfl rfl rfl rfl rfl) rfl ?_)
    (refine nx (aM (gN rfl) rfl rfl rfl rfl rfl) rfl ?_)
    (refine nx (a_index (j := k) (gN rfl) rfl rfl rfl rfl rfl rfl rfl rfl rfl (hx') rfl (hsz)) rfl ?_)
    (refine nx (a_field_ad (gN rfl) rfl rfl rfl rfl rfl rfl rfl rfl rfl rfl rfl) rfl ?_)
    (refine nx (a_load_ad (gN rfl) rfl rfl rfl rfl rfl rfl rfl rfl rfl) rfl ?_)
    (refine nx (a_bslice (gN rfl) rfl rfl rfl rfl rfl rfl rfl rfl rfl rfl rfl rfl rfl) rfl ?_)
    (refine nx (aM (gN rfl) rfl rfl rfl rfl rfl) rfl ?_)
    (refine nx (aM (gN rfl) rfl rfl rfl rfl rfl) rfl ?_)
    (refine nx (a_index (j := k) (gN rfl) rfl rfl rfl rfl rfl rfl rfl rfl rfl (hx') rfl (hsz)) rfl ?_)
    (refine nx (a_field_ad (gN rfl) rfl rfl rfl rfl rfl rfl rfl rfl rfl rfl rfl) rfl ?_)
    (refine nx (a_load_ad (gN rfl) rfl rfl rfl rfl rfl rfl rfl rfl rfl) rfl ?_)
    (refine nx (a_bslice (gN rfl) rfl rfl rfl rfl rfl rfl rfl rfl rfl rfl rfl rfl rfl) rfl ?_)
    (refine nx (a_call (gN rfl) rfl rfl rfl rfl rfl ((doc_u hxt.1 hxt.2).1 w)) rfl ?_)
    (refine nx (aM (gN rfl) rfl rfl rfl rfl rfl) rfl ?_)
    (refine nx (aX (gN rfl) rfl rfl rfl rfl rfl rfl) rfl ?_)
    (refine nx (aX (gN rfl) rfl rfl rfl rfl rfl rfl) rfl ?_)
    (refine nx (aA (gN rfl) rfl rfl rfl rfl rfl) rfl ?_)
    (refine nx (aA (gN rfl) rfl rfl rfl rfl rfl) rfl ?_)
    refine ⟨by kernel_rfl, ?_⟩
    show AWp _ _ _ _ _ _ _
    obtain ⟨ok, hok⟩ : ∃ ok, ok = (mgT x.a x.b).2 := ⟨_, rfl⟩
    rw [← hok] at hrc
    refine AWp.wk (wk_sub (s' := [(0, .val (.lst (c.map Lt.cv))), (3, .own (.lst (A.map clC)) 200049), (200049, .tok 22 1), (4, .val (.i k)), (5, .val (.lst ((dT x.a x.b).map Bd.cv))), (6, .val (.b ok))]) ⟨rfl, by rw [hAe]; rfl, rfl, rfl, rfl, by rw [hok]; rfl, trivial⟩) ?_
    obtain ⟨dd, hdd⟩ : ∃ dd, dd = dT x.a x.b := ⟨_, rfl⟩
    have hdu := doc_u hxt.1 hxt.2
    unfold DocU at hdu
    obtain ⟨_, hd1, hd2, _⟩ := hdu
    rw [← hdd] at hd1 hd2 hrc ⊢
    cases hng : x.neg with
    | false =>
      rw [hng] at hrc
      have hxc : x.cw = .row [.b false, x.a.cw, x.b.cw] := by unfold Lt.cw; rw [hng]
      rw [hxc] at hx'
      refine aS (aR ?_)
      (refine nx (aM (gN rfl) rfl rfl rfl rfl rfl) rfl ?_)
      (refine nx (aM (gN rfl) rfl rfl rfl rfl rfl) rfl ?_)
      (refine nx (a_index (j := k) (gN rfl) rfl rfl rfl rfl rfl rfl rfl rfl rfl (hx') rfl (hsz)) rfl ?_)
      (refine nx (a_field_ad (gN rfl) rfl rfl rfl rfl rfl rfl rfl rfl rfl rfl rfl) rfl ?_)
      (refine nx (a_load_ad (gN rfl) rfl rfl rfl rfl rfl rfl rfl rfl rfl) rfl ?_)
      (refine nx (aM (gN rfl) rfl rfl rfl rfl rfl) rfl ?_)
      (refine ⟨_, _, _, a_off (go_off rfl rfl rfl rfl (by first | rfl | assumption | (simp; done) | (simp [*]; done))) rfl rfl rfl, rfl, ?_⟩)
      (refine ⟨_, _, _, aPf (gN rfl) rfl rfl rfl rfl rfl ?hb rfl, rfl, ?_⟩; case hb => (first | rfl | assumption | (simp; done)))
      (refine nx (aM (gN rfl) rfl rfl rfl rfl rfl) rfl ?_)
      (refine ⟨_, _, _, a_off (go_off rfl rfl rfl rfl (by first | rfl | assumption | (simp; done) | (simp [*]; done))) rfl rfl rfl, rfl, ?_⟩)
      (refine ⟨_, _, _, a_off (go_off rfl rfl rfl rfl (by first | rfl | assumption | (simp; done) | (simp [*]; done))) rfl rfl rfl, rfl, ?_⟩)
      (refine ⟨_, _, _, a_off (go_off rfl rfl rfl rfl (by first | rfl | assumption | (simp; done) | (simp [*]; done))) rfl rfl rfl, rfl, ?_⟩)
      (refine ⟨_, _, _, aPf (gN rfl) rfl rfl rfl rfl rfl ?hb rfl, rfl, ?_⟩; case hb => (first | rfl | assumption | (simp; done)))
      show AWp _ _ _ _ _ _ _
      refine aC rfl (fun h => by cases h) (fun _ => aK ?_)
      show AWp _ _ _ _ _ _ _
      refine aR ?_
      (refine nx (aM (gN rfl) rfl rfl rfl rfl rfl) rfl ?_)
      (refine nx (a_add (gN rfl) rfl rfl rfl rfl rfl rfl (by first | omega | (simp only [List.length_map, List.length_append, List.length_cons, List.length_nil] <;> omega) | (simp <;> omega))) rfl ?_)
      (refine nx (aA (gN rfl) rfl rfl rfl rfl rfl) rfl ?_)
      exact ⟨hkl, wk_sub (hno (by rw [hrc, if_neg (by rintro ⟨h, _⟩; cases h)]) _ ⟨rfl, rfl, rfl, rfl, trivial⟩)⟩
    | true =>
      rw [hng] at hrc
      have hxc : x.cw = .row [.b true, x.a.cw, x.b.cw] := by unfold Lt.cw; rw [hng]
      rw [hxc] at hx'
      cases ok with
      | false =>
        refine aS (aR ?_)
        (refine nx (aM (gN rfl) rfl rfl rfl rfl rfl) rfl ?_)
        (refine nx (aM (gN rfl) rfl rfl rfl rfl rfl) rfl ?_)
        (refine nx (a_index (j := k) (gN rfl) rfl rfl rfl rfl rfl rfl rfl rfl rfl (hx') rfl (hsz)) rfl ?_)
        (refine nx (a_field_ad (gN rfl) rfl rfl rfl rfl rfl rfl rfl rfl rfl rfl rfl) rfl ?_)
        (refine nx (a_load_ad (gN rfl) rfl rfl rfl rfl rfl rfl rfl rfl rfl) rfl ?_)
        (refine nx (aM (gN rfl) rfl rfl rfl rfl rfl) rfl ?_)
        (refine nx (aM (gd_on rfl rfl rfl rfl (by first | rfl | assumption | (simp; done))) rfl rfl rfl rfl rfl) rfl ?_)
        (refine ⟨_, _, _, aPt (gN rfl) rfl rfl rfl rfl rfl ?hb rfl, rfl, ?_⟩; case hb => (first | rfl | assumption | (simp; done)))
        (refine nx (aM (gN rfl) rfl rfl rfl rfl rfl) rfl ?_)
        (refine ⟨_, _, _, a_off (go_off rfl rfl rfl rfl (by first | rfl | assumption | (simp; done) | (simp [*]; done))) rfl rfl rfl, rfl, ?_⟩)
        (refine ⟨_, _, _, a_off (go_off rfl rfl rfl rfl (by first | rfl | assumption | (simp; done) | (simp [*]; done))) rfl rfl rfl, rfl, ?_⟩)
        (refine ⟨_, _, _, a_off (go_off rfl rfl rfl rfl (by first | rfl | assumption | (simp; done) | (simp [*]; done))) rfl rfl rfl, rfl, ?_⟩)
        (refine ⟨_, _, _, aPf (gN rfl) rfl rfl rfl rfl rfl ?hb rfl, rfl, ?_⟩; case hb => (first | rfl | assumption | (simp; done)))
        show AWp _ _ _ _ _ _ _
        refine aC rfl (fun h => by cases h) (fun _ => aK ?_)
        show AWp _ _ _ _ _ _ _
        refine aR ?_
        (refine nx (aM (gN rfl) rfl rfl rfl rfl rfl) rfl ?_)
        (refine nx (a_add (gN rfl) rfl rfl rfl rfl rfl rfl (by first | omega | (simp only [List.length_map, List.length_append, List.length_cons, List.length_nil] <;> omega) | (simp <;> omega))) rfl ?_)
        (refine nx (aA (gN rfl) rfl rfl rfl rfl rfl) rfl ?_)
        exact ⟨hkl, wk_sub (hno (by rw [hrc, if_neg (by rintro ⟨_, h, _⟩; cases h)]) _ ⟨rfl, rfl, rfl, rfl, trivial⟩)⟩
      | true =>
        have hlk := fun w => rLooked_abs w c (k : Int) hl (ten_okF hc)
        refine aS (aR ?_)
        (refine nx (aM (gN rfl) rfl rfl rfl rfl rfl) rfl ?_)
        (refine nx (aM (gN rfl) rfl rfl rfl rfl rfl) rfl ?_)
        (refine nx (a_index (j := k) (gN rfl) rfl rfl rfl rfl rfl rfl rfl rfl rfl (hx') rfl (hsz)) rfl ?_)
        (refine nx (a_field_ad (gN rfl) rfl rfl rfl rfl rfl rfl rfl rfl rfl rfl rfl) rfl ?_)
        (refine nx (a_load_ad (gN rfl) rfl rfl rfl rfl rfl rfl rfl rfl rfl) rfl ?_)
        (refine nx (aM (gN rfl) rfl rfl rfl rfl rfl) rfl ?_)
        (refine nx (aM (gd_on rfl rfl rfl rfl (by first | rfl | assumption | (simp; done))) rfl rfl rfl rfl rfl) rfl ?_)
        (refine ⟨_, _, _, aPt (gN rfl) rfl rfl rfl rfl rfl ?hb rfl, rfl, ?_⟩; case hb => (first | rfl | assumption | (simp; done)))
        (refine nx (aM (gN rfl) rfl rfl rfl rfl rfl) rfl ?_)
        (refine nx (aM (gd_on rfl rfl rfl rfl (by first | rfl | assumption | (simp; done))) rfl rfl rfl rfl rfl) rfl ?_)
        (refine nx (aM (gd_on rfl rfl rfl rfl (by first | rfl | assumption | (simp; done))) rfl rfl rfl rfl rfl) rfl ?_)
        (refine nx (a_call (gd_on rfl rfl rfl rfl (by first | rfl | assumption | (simp; done))) rfl rfl rfl rfl rfl (hlk w)) rfl ?_)
        (refine ⟨_, _, _, aPt (gN rfl) rfl rfl rfl rfl rfl ?hb rfl, rfl, ?_⟩; case hb => (first | rfl | assumption | (simp; done)))
        show AWp _ _ _ _ _ _ _
        refine aC rfl (fun hq => ?_) (fun hq => ?_)
        · have hq : (k : Int) ∈ lokL c := by have h : decide ((k : Int) ∈ lokL c) = true := hq; exact of_decide_eq_true h
          rw [if_pos ⟨rfl, rfl, hq⟩] at hrc
          have hwo := fun w => rWithout_abs w c (k : Int) (by omega)
          rw [offD_in hkl] at hwo
          have hol := offL_len hkl
          refine aR ?_
          (refine nx (aM (gN rfl) rfl rfl rfl rfl rfl) rfl ?_)
          (refine nx (aM (gN rfl) rfl rfl rfl rfl rfl) rfl ?_)
          (refine nx (aM (gN rfl) rfl rfl rfl rfl rfl) rfl ?_)
          (refine nx (aM (gN rfl) rfl rfl rfl rfl rfl) rfl ?_)
          (refine nx (a_call (gN rfl) rfl rfl rfl rfl rfl (hwo w)) rfl ?_)
          (refine nx (a_call (gN rfl) rfl rfl rfl rfl rfl (refAppC_abs w dd (offL c k) hd1 (by omega) (ten_fit fun l h => hc l (offL_mem h)))) rfl ?_)
          (refine nx (a_bslice (gN rfl) rfl rfl rfl rfl rfl rfl rfl rfl rfl rfl rfl rfl rfl) rfl ?_)
          (refine nx (a_app (gN rfl) rfl rfl rfl rfl rfl rfl rfl rfl rfl rfl rfl rfl rfl rfl rfl (by first | assumption | exact sZ rfl | exact Tm.size_all _ | exact Bd.size_all _ | exact ints_size _ | exact bys_size _ | exact Lt.size_all _) (by first | assumption | exact sZ rfl | exact Tm.size_all _ | exact Bd.size_all _ | exact ints_size _ | exact bys_size _ | exact Lt.size_all _) (by first | omega | (simp only [List.length_map, List.length_append, List.length_cons, List.length_nil] <;> omega) | (simp <;> omega))) rfl ?_)
          (refine nx (aA (gN rfl) rfl rfl rfl rfl rfl) rfl ?_)
          show AWp _ _ _ _ _ _ _
          refine aR ?_
          (refine nx (aM (gN rfl) rfl rfl rfl rfl rfl) rfl ?_)
          (refine nx (a_add (gN rfl) rfl rfl rfl rfl rfl rfl (by first | omega | (simp only [List.length_map, List.length_append, List.length_cons, List.length_nil] <;> omega) | (simp <;> omega))) rfl ?_)
          (refine nx (aA (gN rfl) rfl rfl rfl rfl rfl) rfl ?_)
          refine ⟨hkl, (wk_sub (s' := [(0, .val (.lst (c.map Lt.cv))), (3, .own (.lst ((resD c (k + 1)).map clC)) 300049), (300049, .tok 22 1), (4, .val (.i ((k + 1 : Nat) : Int)))]) ⟨rfl, ?_, rfl, rfl, trivial⟩).trans (wk_ren 300049 200049 rfl rfl rfl rfl)⟩
          show some (AV.own (.lst _) _) = some (AV.own (.lst _) _)
          rw [hS, hrc, List.map_append (f := clC)]
          rfl
        · have hq : ¬ (k : Int) ∈ lokL c := by have h : decide ((k : Int) ∈ lokL c) = false := hq; exact of_decide_eq_false h
          refine aK ?_
          show AWp _ _ _ _ _ _ _
          refine aR ?_
          (refine nx (aM (gN rfl) rfl rfl rfl rfl rfl) rfl ?_)
          (refine nx (a_add (gN rfl) rfl rfl rfl rfl rfl rfl (by first | omega | (simp only [List.length_map, List.length_append, List.length_cons, List.length_nil] <;> omega) | (simp <;> omega))) rfl ?_)
          (refine nx (aA (gN rfl) rfl rfl rfl rfl rfl) rfl ?_)
          exact ⟨hkl, wk_sub (hno (by rw [hrc, if_neg (fun h => hq h.2.2)]) _ ⟨rfl, rfl, rfl, rfl, trivial⟩)⟩
  · have hkl : k = c.length := by
      have : ¬ k < c.length := by simpa using hlt
      omega
    subst hkl
    refine aE ?_
    show AWp _ _ _ _ _ _ _
    refine aS (aR ?_)
    (refine nx (aM (gN rfl) rfl rfl rfl rfl rfl) rfl ?_)
    (refine nx (aA (gN rfl) rfl rfl rfl rfl rfl) rfl ?_)
    show AWp _ _ _ _ _ _ _
    exact aT (And.intro (.inr rfl) rfl)
theorem clC_at {A : List (List Lt)} {k : Nat} {x : List Lt} (h : A[k]? = some x) : (A.map clC)[k]? = some (.lst (x.map Lt.cv)) := by rw [List.getElem?_map, h]; rfl
-- 
theorem sameAll_abs (W : World) (A B : List (List Lt)) (hAl : A.length ≤ 100000) (hAc : ∀ c ∈ A, c.length ≤ 1000000 ∧ ∀ l ∈ c, l.a.ok ∧ l.b.ok) (hBc : ∀ c ∈ B, ∀ l ∈ c, l.a.ok ∧ l.b.ok) (h : stC A = stC B) : AFun Tryz.prog W 10 [.lst (A.map clC), .lst (B.map clC)] (.val (.b true)) := by
  have hlen : A.length = B.length := by
    have := congrArg List.length h
    unfold stC at this
    rw [List.length_map, List.length_map] at this
    exact this
  have hszA := clC_size A
  have hszB := clC_size B
  refine afun_of (rs := [.b true]) Tryz.func10 Tryz.ntmps10 rfl rfl rfl rfl ?_
  intro w U hW
  refine aS (aR ?_)
  (refine nx (aA (gN rfl) rfl rfl rfl rfl rfl) rfl ?_)
  show AWp _ _ _ _ _ _ _
  refine aS (aS (aR ?_))
  (refine nx (aM (gN rfl) rfl rfl rfl rfl rfl) rfl ?_)
  (refine nx (a_len (gN rfl) rfl rfl rfl rfl rfl rfl rfl) rfl ?_)
  (refine nx (aM (gN rfl) rfl rfl rfl rfl rfl) rfl ?_)
  (refine nx (a_len (gN rfl) rfl rfl rfl rfl rfl rfl rfl) rfl ?_)
  (refine nx (a_neq (gN rfl) rfl rfl rfl rfl rfl rfl) rfl ?_)
  show AWp _ _ _ _ _ _ _
  refine aC rfl (fun hc => ?_) (fun hc => aK ?_)
  · exfalso
    have hc : ¬ ((A.length : Int) = (B.length : Int)) := by simpa using hc
    omega
  show AWp _ _ _ _ _ _ _
  refine aS (aS (aR ?_))
  (refine nx (aA (gN rfl) rfl rfl rfl rfl rfl) rfl ?_)
  show AWp _ _ _ _ _ _ _
  refine aB (awp_count A.length (fun k => [(0, .val (.lst (A.map clC))), (1, .val (.lst (B.map clC))), (5, .val (.i k))]) (wk_sub ⟨rfl, rfl, rfl, trivial⟩) ?_)
  intro k hk
  refine aS (aS (aR ?_))
  (refine nx (aM (gN rfl) rfl rfl rfl rfl rfl) rfl ?_)
  (refine nx (aM (gN rfl) rfl rfl rfl rfl rfl) rfl ?_)
  (refine nx (a_len (gN rfl) rfl rfl rfl rfl rfl rfl rfl) rfl ?_)
  (refine nx (a_lss (gN rfl) rfl rfl rfl rfl rfl rfl) rfl ?_)
  show AWp _ _ _ _ _ _ _
  refine aC rfl (fun hlt => ?_) (fun hlt => ?_)
  · have hkl : k < A.length := by simpa using hlt
    obtain ⟨x, hx⟩ : ∃ x, A[k]? = some x := ⟨A[k], List.getElem?_eq_getElem hkl⟩
    obtain ⟨y, hy⟩ : ∃ y, B[k]? = some y := ⟨B[k]'(by omega), List.getElem?_eq_getElem (by omega)⟩
    have hx' := clC_at hx
    have hy' := clC_at hy
    have hxy : sameC x y = true := by
      rw [sameC_iff]
      have h1 : (stC A)[k]? = some (x.map Lt.strip) := by unfold stC; rw [List.getElem?_map, hx]; rfl
      have h2 : (stC B)[k]? = some (y.map Lt.strip) := by unfold stC; rw [List.getElem?_map, hy]; rfl
      rw [h, h2] at h1
      exact (Option.some.inj h1).symm
    obtain ⟨g1, g2⟩ := hAc x (List.mem_of_getElem? hx)
    have hs := fun w => same11_abs w x y g1 g2 (hBc y (List.mem_of_getElem? hy))
    rw [hxy] at hs
    refine aK ?_
    show AWp _ _ _ _ _ _ _
    refine aS (aB (aS (aD (by kernel_rfl) (by kernel_rfl) ?_)))
    (refine nx (aM (gN rfl) rfl rfl rfl rfl rfl) rfl ?_)
    (refine nx (aM (gN rfl) rfl rfl rfl rfl rfl) rfl ?_)
    (refine nx (a_index (j := k) (gN rfl) rfl rfl rfl rfl rfl rfl rfl rfl rfl (hx') rfl (hszA)) rfl ?_)
    (refine nx (a_load_ad (gN rfl) rfl rfl rfl rfl rfl rfl rfl rfl rfl) rfl ?_)
    (refine nx (aM (gN rfl) rfl rfl rfl rfl rfl) rfl ?_)
    (refine nx (aM (gN rfl) rfl rfl rfl rfl rfl) rfl ?_)
    (refine nx (a_index (j := k) (gN rfl) rfl rfl rfl rfl rfl rfl rfl rfl rfl (hy') rfl (hszB)) rfl ?_)
    (refine nx (a_load_ad (gN rfl) rfl rfl rfl rfl rfl rfl rfl rfl rfl) rfl ?_)
    (refine nx (a_call (gN rfl) rfl rfl rfl rfl rfl (hs w)) rfl ?_)
    (refine nx (a_not (gN rfl) rfl rfl rfl rfl rfl) rfl ?_)
    refine ⟨by kernel_rfl, ?_⟩
    show AWp _ _ _ _ _ _ _
    refine aC rfl (fun h => by cases h) (fun _ => aK ?_)
    show AWp _ _ _ _ _ _ _
    refine aR ?_
    (refine nx (aM (gN rfl) rfl rfl rfl rfl rfl) rfl ?_)
    (refine nx (a_add (gN rfl) rfl rfl rfl rfl rfl rfl (by first | omega | (simp only [List.length_map, List.length_append, List.length_cons, List.length_nil] <;> omega) | (simp <;> omega))) rfl ?_)
    (refine nx (aA (gN rfl) rfl rfl rfl rfl rfl) rfl ?_)
    exact ⟨hkl, wk_sub ⟨rfl, rfl, rfl, trivial⟩⟩
  · have hkl : k = A.length := by
      have : ¬ k < A.length := by simpa using hlt
      omega
    subst hkl
    refine aE ?_
    show AWp _ _ _ _ _ _ _
    refine aS (aR ?_)
    (refine nx (aA (gN rfl) rfl rfl rfl rfl rfl) rfl ?_)
    show AWp _ _ _ _ _ _ _
    exact aT (And.intro (.inr rfl) rfl)
-- 
theorem to15_abs (W : World) (A : List (List Lt)) (hAl : A.length ≤ 100000) (hAc : ∀ c ∈ A, c.length ≤ 1000000 ∧ ∀ l ∈ c, l.a.ok ∧ l.b.ok) : AFun Tryz.prog W 11 [.lst (A.map clC)] (.val (.lst ((stC A).map clC))) := by
  have hszA := clC_size A
  refine afun_of (rs := [.lst ((stC A).map clC)]) Tryz.func11 Tryz.ntmps11 rfl rfl rfl rfl ?_
  intro w U hW
  refine aS (aR ?_)
  (refine nx (aA (gN rfl) rfl rfl rfl rfl rfl) rfl ?_)
  show AWp _ _ _ _ _ _ _
  refine aS (aR ?_)
  (refine nx (aA (gN rfl) rfl rfl rfl rfl rfl) rfl ?_)
  show AWp _ _ _ _ _ _ _
  refine aS (aS (aR ?_))
  (refine nx (aA (gN rfl) rfl rfl rfl rfl rfl) rfl ?_)
  show AWp _ _ _ _ _ _ _
  refine aB (awp_count A.length (fun k => [(0, .val (.lst (A.map clC))), (3, .own (.lst ((stC (A.take k)).map clC)) 200018), (200018, .tok 22 1), (4, .val (.i k))]) ((wk_nil 3 200018 22 1 rfl rfl rfl rfl rfl rfl rfl).trans (wk_sub ⟨rfl, rfl, rfl, rfl, trivial⟩)) ?_)
  intro k hk
  refine aS (aS (aR ?_))
  (refine nx (aM (gN rfl) rfl rfl rfl rfl rfl) rfl ?_)
  (refine nx (aM (gN rfl) rfl rfl rfl rfl rfl) rfl ?_)
  (refine nx (a_len (gN rfl) rfl rfl rfl rfl rfl rfl rfl) rfl ?_)
  (refine nx (a_lss (gN rfl) rfl rfl rfl rfl rfl rfl) rfl ?_)
  show AWp _ _ _ _ _ _ _
  refine aC rfl (fun hlt => ?_) (fun hlt => ?_)
  · have hkl : k < A.length := by simpa using hlt
    obtain ⟨x, hx⟩ : ∃ x, A[k]? = some x := ⟨A[k], List.getElem?_eq_getElem hkl⟩
    have hx' := clC_at hx
    obtain ⟨g1, g2⟩ := hAc x (List.mem_of_getElem? hx)
    have hsk := clC_size (stC (A.take k))
    have hkn2 : (stC (A.take k)).length ≤ 100000 := by unfold stC; rw [List.length_map, List.length_take]; omega
    have hkn : ((stC (A.take k)).map clC).length ≤ 100000 := by rw [List.length_map]; exact hkn2
    have hS : stC (A.take (k + 1)) = stC (A.take k) ++ [x.map Lt.strip] := by
      unfold stC
      rw [List.take_add_one, hx, List.map_append]; rfl
    refine aK ?_
    show AWp _ _ _ _ _ _ _
    refine aS (aB (aR ?_))
    (refine nx (aM (gN rfl) rfl rfl rfl rfl rfl) rfl ?_)
    (refine nx (aM (gN rfl) rfl rfl rfl rfl rfl) rfl ?_)
    (refine nx (aM (gN rfl) rfl rfl rfl rfl rfl) rfl ?_)
    (refine nx (a_index (j := k) (gN rfl) rfl rfl rfl rfl rfl rfl rfl rfl rfl (hx') rfl (hszA)) rfl ?_)
    (refine nx (a_load_ad (gN rfl) rfl rfl rfl rfl rfl rfl rfl rfl rfl) rfl ?_)
    (refine nx (a_call (gN rfl) rfl rfl rfl rfl rfl (to11_abs w x g1 g2)) rfl ?_)
    (refine nx (a_bslice (gN rfl) rfl rfl rfl rfl rfl rfl rfl rfl rfl rfl rfl rfl rfl) rfl ?_)
    (refine nx (a_app (gN rfl) rfl rfl rfl rfl rfl rfl rfl rfl rfl rfl rfl rfl rfl rfl rfl (by first | assumption | exact sZ rfl | exact Tm.size_all _ | exact Bd.size_all _ | exact ints_size _ | exact bys_size _ | exact Lt.size_all _) (by first | assumption | exact sZ rfl | exact Tm.size_all _ | exact Bd.size_all _ | exact ints_size _ | exact bys_size _ | exact Lt.size_all _) (by first | omega | (simp only [List.length_map, List.length_append, List.length_cons, List.length_nil] <;> omega) | (simp <;> omega))) rfl ?_)
    (refine nx (aA (gN rfl) rfl rfl rfl rfl rfl) rfl ?_)
    show AWp _ _ _ _ _ _ _
    refine aR ?_
    (refine nx (aM (gN rfl) rfl rfl rfl rfl rfl) rfl ?_)
    (refine nx (a_add (gN rfl) rfl rfl rfl rfl rfl rfl (by first | omega | (simp only [List.length_map, List.length_append, List.length_cons, List.length_nil] <;> omega) | (simp <;> omega))) rfl ?_)
    (refine nx (aA (gN rfl) rfl rfl rfl rfl rfl) rfl ?_)
    refine ⟨hkl, (wk_sub (s' := [(0, .val (.lst (A.map clC))), (3, .own (.lst ((stC (A.take (k + 1))).map clC)) 300018), (300018, .tok 22 1), (4, .val (.i ((k + 1 : Nat) : Int)))]) ⟨rfl, ?_, rfl, rfl, trivial⟩).trans (wk_ren 300018 200018 rfl rfl rfl rfl)⟩
    show some (AV.own (.lst _) _) = some (AV.own (.lst _) _)
    rw [hS, List.map_append (f := clC)]
    rfl
  · have hkl : k = A.length := by
      have : ¬ k < A.length := by simpa using hlt
      omega
    subst hkl
    rw [List.take_length]
    refine aE ?_
    show AWp _ _ _ _ _ _ _
    refine aS (aR ?_)
    (refine nx (aM (gN rfl) rfl rfl rfl rfl rfl) rfl ?_)
    (refine nx (aA (gN rfl) rfl rfl rfl rfl rfl) rfl ?_)
    show AWp _ _ _ _ _ _ _
    exact aT (And.intro (.inr rfl) rfl)
theorem facD_succ (c : List Lt) (k : Nat) : facD c (k + 1) = facD c k ++ (facDn c k).toList := by
  unfold facD
  rw [List.range_succ, List.filterMap_append]
  congr 1
theorem facD_len (c : List Lt) (k : Nat) : (facD c k).length ≤ k := by
  unfold facD
  exact Nat.le_trans (List.length_filterMap_le _ _) (by rw [List.length_range]; omega)
theorem kb_lead (a b : Tm) : leadB a b = !(decide (kb a b = 0 ∨ kb a b = -1)) := by
  have h := kb_four a b
  unfold K4 at h
  unfold leadB
  rcases h with h | h | h | h <;> rw [h] <;> rfl
theorem rSideI_abs (W : World) (l : Lt) (z : Int) (n : Nat) (h : z = (n : Int)) : AFun Tryz.prog W 34 [l.cw, .i z] (.val (sdT l n).cw) := by
  subst h
  exact rSide_abs W l n
-- 
set_option maxHeartbeats 16000000 in
theorem rFactor_abs (W : World) (c : List Lt) (hl : c.length ≤ 100) (hc : ∀ l ∈ c, l.ten) : AFun Tryz.prog W 15 [.lst (c.map Lt.cv)] (.val (.lst ((facD c (4 * c.length * c.length)).map clC))) := by
  have hsz := Lt.size_all c
  have hclm : (c.map Lt.cv).length = c.length := List.length_map ..
  have hB1 : 4 * c.length * c.length ≤ 400 * 100 := Nat.mul_le_mul (by omega) (by omega)
  have hBi : ((4 * c.length * c.length : Nat) : Int) = 4 * (c.length : Int) * (c.length : Int) := by rw [Int.natCast_mul, Int.natCast_mul]; rfl
  have hB : 0 ≤ 4 * (c.length : Int) * (c.length : Int) ∧ 4 * (c.length : Int) * (c.length : Int) ≤ 40000 := by
    rw [← hBi]
    exact ⟨Int.natCast_nonneg _, Int.ofNat_le.2 hB1⟩
  refine afun_of (rs := [.lst ((facD c (4 * c.length * c.length)).map clC)]) Tryz.func15 Tryz.ntmps15 rfl rfl rfl rfl ?_
  intro w U hW
  refine aS (aR ?_)
  (refine nx (aA (gN rfl) rfl rfl rfl rfl rfl) rfl ?_)
  show AWp _ _ _ _ _ _ _
  refine aS (aR ?_)
  (refine nx (aA (gN rfl) rfl rfl rfl rfl rfl) rfl ?_)
  show AWp _ _ _ _ _ _ _
  refine aS (aS (aR ?_))
  (refine nx (aA (gN rfl) rfl rfl rfl rfl rfl) rfl ?_)
  show AWp _ _ _ _ _ _ _
  let st : Nat → AS := fun k => [(0, .val (.lst (c.map Lt.cv))), (3, .own (.lst ((facD c k).map clC)) 200130), (200130, .tok 22 1), (4, .val (.i k))]
  refine aB (awp_count (4 * c.length * c.length) st ((wk_nil 3 200130 22 1 rfl rfl rfl rfl rfl rfl rfl).trans (wk_sub ⟨rfl, rfl, rfl, rfl, trivial⟩)) ?_)
  intro k hk
  refine aS (aS (aR ?_))
  (refine nx (aM (gN rfl) rfl rfl rfl rfl rfl) rfl ?_)
  (refine nx (aM (gN rfl) rfl rfl rfl rfl rfl) rfl ?_)
  (refine nx (a_len (gN rfl) rfl rfl rfl rfl rfl rfl rfl) rfl ?_)
  (refine nx (a_mul (gN rfl) rfl rfl rfl rfl rfl rfl (by first | omega | (simp only [List.length_map, List.length_append, List.length_cons, List.length_nil] <;> omega) | (simp <;> omega))) rfl ?_)
  (refine nx (aM (gN rfl) rfl rfl rfl rfl rfl) rfl ?_)
  (refine nx (a_len (gN rfl) rfl rfl rfl rfl rfl rfl rfl) rfl ?_)
  (refine nx (a_mul (gN rfl) rfl rfl rfl rfl rfl rfl (by first | omega | (simp only [List.length_map, List.length_append, List.length_cons, List.length_nil] <;> omega) | (simp <;> omega))) rfl ?_)
  (refine nx (a_lss (gN rfl) rfl rfl rfl rfl rfl rfl) rfl ?_)
  show AWp _ _ _ _ _ _ _
  refine aC rfl (fun hlt => ?_) (fun hlt => ?_)
  · have hkl : k < 4 * c.length * c.length := by
      have h : (k : Int) < 4 * (c.length : Int) * (c.length : Int) := by simpa using hlt
      rw [← hBi] at h
      exact Int.ofNat_lt.1 h
    have hn0 : 0 < c.length := by
      rcases Nat.eq_zero_or_pos c.length with h | h
      · rw [h] at hkl; simp at hkl
      · exact h
    obtain ⟨i, hi⟩ : ∃ i, i = k / 4 / c.length := ⟨_, rfl⟩
    obtain ⟨j, hj⟩ : ∃ j, j = k / 4 % c.length := ⟨_, rfl⟩
    obtain ⟨p, hp⟩ : ∃ p, p = k / 2 % 2 := ⟨_, rfl⟩
    obtain ⟨q, hq⟩ : ∃ q, q = k % 2 := ⟨_, rfl⟩
    have hp2 : p < 2 := by omega
    have hq2 : q < 2 := by omega
    have hil : i < c.length := by
      rw [hi, Nat.div_lt_iff_lt_mul hn0]
      rw [Nat.mul_assoc] at hkl
      omega
    have hjl : j < c.length := by rw [hj]; exact Nat.mod_lt _ hn0
    have hln : ((c.map Lt.cv).length : Int) ≠ 0 := by rw [hclm]; omega
    have t1 : (k : Int).tdiv 4 = ((k / 4 : Nat) : Int) := (Int.ofNat_tdiv k 4).symm
    have t2 : ((k : Int).tdiv 4).tdiv ((c.map Lt.cv).length : Int) = (i : Int) := by rw [t1, hclm, hi]; exact (Int.ofNat_tdiv _ _).symm
    have t3 : ((k : Int).tdiv 4).tmod ((c.map Lt.cv).length : Int) = (j : Int) := by rw [t1, hclm, hj]; exact (Int.ofNat_tmod _ _).symm
    have t4 : (k : Int).tdiv 2 = ((k / 2 : Nat) : Int) := (Int.ofNat_tdiv k 2).symm
    have t5 : ((k : Int).tdiv 2).tmod 2 = (p : Int) := by rw [t4, hp]; exact (Int.ofNat_tmod (k / 2) 2).symm
    have t6 : (k : Int).tmod 2 = (q : Int) := by rw [hq]; exact (Int.ofNat_tmod k 2).symm
    have w1 : IntKind.i64.wrap ((k : Int).tdiv 4) = (k : Int).tdiv 4 := by rw [t1, IntKind.wrap_i64]; omega
    have w2 : IntKind.i64.wrap (((k : Int).tdiv 4).tdiv ((c.map Lt.cv).length : Int)) = ((k : Int).tdiv 4).tdiv ((c.map Lt.cv).length : Int) := by rw [t2, IntKind.wrap_i64]; omega
    have w3 : IntKind.i64.wrap ((k : Int).tdiv 2) = (k : Int).tdiv 2 := by rw [t4, IntKind.wrap_i64]; omega
    obtain ⟨x, hx⟩ : ∃ x, c[i]? = some x := ⟨c[i], List.getElem?_eq_getElem hil⟩
    obtain ⟨y, hy⟩ : ∃ y, c[j]? = some y := ⟨c[j], List.getElem?_eq_getElem hjl⟩
    have hx' := Lt.map_at hx
    have hy' := Lt.map_at hy
    have hxt := hc x (List.mem_of_getElem? hx)
    have hyt := hc y (List.mem_of_getElem? hy)
    have hS := facD_succ c k
    have hfn : facDn c k = facDi c i j p q := by unfold facDn; rw [← hi, ← hj, ← hp, ← hq]
    rw [hfn] at hS
    have hA := facD_len c k
    obtain ⟨A, hAe⟩ : ∃ A, A = facD c k := ⟨_, rfl⟩
    rw [← hAe] at hS hA
    have hAm : (A.map clC).length ≤ 40000 := by rw [List.length_map]; omega
    have hszA := clC_size A
    have hno : facDi c i j p q = none → ∀ s : AS, SubL s [(0, .val (.lst (c.map Lt.cv))), (3, .own (.lst (A.map clC)) 200130), (200130, .tok 22 1), (4, .val (.i ((k + 1 : Nat) : Int)))] → SubL s (st (k + 1)) := fun h s hs => by
      have e2 : facD c (k + 1) = A := by rw [hS, h]; simp
      show SubL s [(0, .val (.lst (c.map Lt.cv))), (3, .own (.lst ((facD c (k + 1)).map clC)) 200130), (200130, .tok 22 1), (4, .val (.i ((k + 1 : Nat) : Int)))]
      rw [e2]
      exact hs
    -- what the document tells of these
    have hdi : facDi c i j p q = if i = j ∨ x.neg = true ∨ y.neg = true ∨ (i : Int) ∉ lokL c then none
      else if (mgT (sdT x p) (sdT y q)).2 = true ∧ leadB (repT (mgS (sdT x p) (sdT y q)) (sdT x p)) (repT (mgS (sdT x p) (sdT y q)) (sdT x (1 - p))) = true then some ((offL c i ++ [(⟨true, sdT x (1 - p), sdT y (1 - q)⟩ : Lt)]).map (appL (dT (sdT x p) (sdT y q))))
      else none := by unfold facDi; rw [hx, hy]
    refine aK ?_
    show AWp _ _ _ _ _ _ _
    refine aS (aB (aS (aD (by kernel_rfl) (by kernel_rfl) ?_)))
    (refine nx (aM (gN rfl) rfl rfl rfl rfl rfl) rfl ?_)
    (refine nx (a_quo (gN rfl) rfl rfl rfl rfl rfl rfl (by first | decide | assumption) (by assumption)) rfl ?_)
    (refine nx (aM (gN rfl) rfl rfl rfl rfl rfl) rfl ?_)
    (refine nx (a_len (gN rfl) rfl rfl rfl rfl rfl rfl rfl) rfl ?_)
    (refine nx (a_quo (gN rfl) rfl rfl rfl rfl rfl rfl (by first | decide | assumption) (by assumption)) rfl ?_)
    (refine nx (aM (gN rfl) rfl rfl rfl rfl rfl) rfl ?_)
    (refine nx (a_quo (gN rfl) rfl rfl rfl rfl rfl rfl (by first | decide | assumption) (by assumption)) rfl ?_)
    (refine nx (aM (gN rfl) rfl rfl rfl rfl rfl) rfl ?_)
    (refine nx (a_len (gN rfl) rfl rfl rfl rfl rfl rfl rfl) rfl ?_)
    (refine nx (a_rem (gN rfl) rfl rfl rfl rfl rfl rfl (by first | decide | assumption)) rfl ?_)
    (refine nx (aA (gN rfl) rfl rfl rfl rfl rfl) rfl ?_)
    (refine nx (aA (gN rfl) rfl rfl rfl rfl rfl) rfl ?_)
    refine ⟨by kernel_rfl, ?_⟩
    show AWp _ _ _ _ _ _ _
    refine aS (aR ?_)
    (refine nx (aM (gN rfl) rfl rfl rfl rfl rfl) rfl ?_)
    (refine nx (a_quo (gN rfl) rfl rfl rfl rfl rfl rfl (by first | decide | assumption) (by assumption)) rfl ?_)
    (refine nx (a_rem (gN rfl) rfl rfl rfl rfl rfl rfl (by first | decide | assumption)) rfl ?_)
    (refine nx (aM (gN rfl) rfl rfl rfl rfl rfl) rfl ?_)
    (refine nx (a_rem (gN rfl) rfl rfl rfl rfl rfl rfl (by first | decide | assumption)) rfl ?_)
    (refine nx (aA (gN rfl) rfl rfl rfl rfl rfl) rfl ?_)
    (refine nx (aA (gN rfl) rfl rfl rfl rfl rfl) rfl ?_)
    show AWp _ _ _ _ _ _ _
    refine AWp.wk (wk_sub (s' := [(0, .val (.lst (c.map Lt.cv))), (3, .own (.lst (A.map clC)) 200130), (200130, .tok 22 1), (4, .val (.i k)), (5, .val (.i (i : Int))), (6, .val (.i (j : Int))), (7, .val (.i (p : Int))), (8, .val (.i (q : Int)))]) ⟨rfl, by rw [hAe]; rfl, rfl, rfl, by rw [← t2]; rfl, by rw [← t3]; rfl, by rw [← t5]; rfl, by rw [← t6]; rfl, trivial⟩) ?_
    refine aS (awp_mid [(0, .val (.lst (c.map Lt.cv))), (3, .own (.lst (A.map clC)) 200130), (200130, .tok 22 1), (4, .val (.i k)), (5, .val (.i (i : Int))), (6, .val (.i (j : Int))), (7, .val (.i (p : Int))), (8, .val (.i (q : Int))), (60, .val (.b (decide (i = j ∨ x.neg = true ∨ y.neg = true ∨ (i : Int) ∉ lokL c))))] ?_ ?_)
    · by_cases hij : i = j
      · have g : decide ((i : Int) = (j : Int)) = true := decide_eq_true (by omega)
        refine aR ?_
        (refine nx (aM (gN rfl) rfl rfl rfl rfl rfl) rfl ?_)
        (refine nx (aM (gN rfl) rfl rfl rfl rfl rfl) rfl ?_)
        (refine nx (a_eql (gN rfl) rfl rfl rfl rfl rfl rfl) rfl ?_)
        (refine nx (aM (gN rfl) rfl rfl rfl rfl rfl) rfl ?_)
        (refine ⟨_, _, _, a_off (go_off rfl rfl rfl rfl (by first | rfl | assumption | (simp; done) | (simp [*]; done))) rfl rfl rfl, rfl, ?_⟩)
        (refine ⟨_, _, _, a_off (go_off rfl rfl rfl rfl (by first | rfl | assumption | (simp; done) | (simp [*]; done))) rfl rfl rfl, rfl, ?_⟩)
        (refine ⟨_, _, _, a_off (go_off rfl rfl rfl rfl (by first | rfl | assumption | (simp; done) | (simp [*]; done))) rfl rfl rfl, rfl, ?_⟩)
        (refine ⟨_, _, _, a_off (go_off rfl rfl rfl rfl (by first | rfl | assumption | (simp; done) | (simp [*]; done))) rfl rfl rfl, rfl, ?_⟩)
        (refine ⟨_, _, _, a_off (go_off rfl rfl rfl rfl (by first | rfl | assumption | (simp; done) | (simp [*]; done))) rfl rfl rfl, rfl, ?_⟩)
        (refine ⟨_, _, _, aPt (gN rfl) rfl rfl rfl rfl rfl ?hb rfl, rfl, ?_⟩; case hb => (first | rfl | assumption | (simp; done)))
        (refine nx (aM (gN rfl) rfl rfl rfl rfl rfl) rfl ?_)
        (refine ⟨_, _, _, a_off (go_off rfl rfl rfl rfl (by first | rfl | assumption | (simp; done) | (simp [*]; done))) rfl rfl rfl, rfl, ?_⟩)
        (refine ⟨_, _, _, a_off (go_off rfl rfl rfl rfl (by first | rfl | assumption | (simp; done) | (simp [*]; done))) rfl rfl rfl, rfl, ?_⟩)
        (refine ⟨_, _, _, a_off (go_off rfl rfl rfl rfl (by first | rfl | assumption | (simp; done) | (simp [*]; done))) rfl rfl rfl, rfl, ?_⟩)
        (refine ⟨_, _, _, a_off (go_off rfl rfl rfl rfl (by first | rfl | assumption | (simp; done) | (simp [*]; done))) rfl rfl rfl, rfl, ?_⟩)
        (refine ⟨_, _, _, a_off (go_off rfl rfl rfl rfl (by first | rfl | assumption | (simp; done) | (simp [*]; done))) rfl rfl rfl, rfl, ?_⟩)
        (refine ⟨_, _, _, aPt (gN rfl) rfl rfl rfl rfl rfl ?hb rfl, rfl, ?_⟩; case hb => (first | rfl | assumption | (simp; done)))
        (refine nx (aM (gN rfl) rfl rfl rfl rfl rfl) rfl ?_)
        (refine ⟨_, _, _, a_off (go_off rfl rfl rfl rfl (by first | rfl | assumption | (simp; done) | (simp [*]; done))) rfl rfl rfl, rfl, ?_⟩)
        (refine ⟨_, _, _, a_off (go_off rfl rfl rfl rfl (by first | rfl | assumption | (simp; done) | (simp [*]; done))) rfl rfl rfl, rfl, ?_⟩)
        (refine ⟨_, _, _, a_off (go_off rfl rfl rfl rfl (by first | rfl | assumption | (simp; done) | (simp [*]; done))) rfl rfl rfl, rfl, ?_⟩)
        (refine ⟨_, _, _, a_off (go_off rfl rfl rfl rfl (by first | rfl | assumption | (simp; done) | (simp [*]; done))) rfl rfl rfl, rfl, ?_⟩)
        (refine ⟨_, _, _, aPt (gN rfl) rfl rfl rfl rfl rfl ?hb rfl, rfl, ?_⟩; case hb => (first | rfl | assumption | (simp; done)))
        exact wk_sub ⟨rfl, rfl, rfl, rfl, rfl, rfl, rfl, rfl, by rw [decide_eq_true (Or.inl hij)]; rfl, trivial⟩
      · have g : decide ((i : Int) = (j : Int)) = false := decide_eq_false (by omega)
        cases hxn : x.neg with
        | true =>
          have hxc : x.cw = .row [.b true, x.a.cw, x.b.cw] := by unfold Lt.cw; rw [hxn]
          rw [hxc] at hx'
          refine aR ?_
          (refine nx (aM (gN rfl) rfl rfl rfl rfl rfl) rfl ?_)
          (refine nx (aM (gN rfl) rfl rfl rfl rfl rfl) rfl ?_)
          (refine nx (a_eql (gN rfl) rfl rfl rfl rfl rfl rfl) rfl ?_)
          (refine nx (aM (gN rfl) rfl rfl rfl rfl rfl) rfl ?_)
          (refine nx (aM (gd_on rfl rfl rfl rfl (by first | rfl | assumption | (simp; done))) rfl rfl rfl rfl rfl) rfl ?_)
          (refine nx (aM (gd_on rfl rfl rfl rfl (by first | rfl | assumption | (simp; done))) rfl rfl rfl rfl rfl) rfl ?_)
          (refine nx (a_index (j := i) (gd_on rfl rfl rfl rfl (by first | rfl | assumption | (simp; done))) rfl rfl rfl rfl rfl rfl rfl rfl rfl (hx') rfl (hsz)) rfl ?_)
          (refine nx (a_field_ad (gd_on rfl rfl rfl rfl (by first | rfl | assumption | (simp; done))) rfl rfl rfl rfl rfl rfl rfl rfl rfl rfl rfl) rfl ?_)
          (refine nx (a_load_ad (gd_on rfl rfl rfl rfl (by first | rfl | assumption | (simp; done))) rfl rfl rfl rfl rfl rfl rfl rfl rfl) rfl ?_)
          (refine ⟨_, _, _, aPf (gN rfl) rfl rfl rfl rfl rfl ?hb rfl, rfl, ?_⟩; case hb => (first | rfl | assumption | (simp; done)))
          (refine nx (aM (gN rfl) rfl rfl rfl rfl rfl) rfl ?_)
          (refine ⟨_, _, _, a_off (go_off rfl rfl rfl rfl (by first | rfl | assumption | (simp; done) | (simp [*]; done))) rfl rfl rfl, rfl, ?_⟩)
          (refine ⟨_, _, _, a_off (go_off rfl rfl rfl rfl (by first | rfl | assumption | (simp; done) | (simp [*]; done))) rfl rfl rfl, rfl, ?_⟩)
          (refine ⟨_, _, _, a_off (go_off rfl rfl rfl rfl (by first | rfl | assumption | (simp; done) | (simp [*]; done))) rfl rfl rfl, rfl, ?_⟩)
          (refine ⟨_, _, _, a_off (go_off rfl rfl rfl rfl (by first | rfl | assumption | (simp; done) | (simp [*]; done))) rfl rfl rfl, rfl, ?_⟩)
          (refine ⟨_, _, _, a_off (go_off rfl rfl rfl rfl (by first | rfl | assumption | (simp; done) | (simp [*]; done))) rfl rfl rfl, rfl, ?_⟩)
          (refine ⟨_, _, _, aPt (gN rfl) rfl rfl rfl rfl rfl ?hb rfl, rfl, ?_⟩; case hb => (first | rfl | assumption | (simp; done)))
          (refine nx (aM (gN rfl) rfl rfl rfl rfl rfl) rfl ?_)
          (refine ⟨_, _, _, a_off (go_off rfl rfl rfl rfl (by first | rfl | assumption | (simp; done) | (simp [*]; done))) rfl rfl rfl, rfl, ?_⟩)
          (refine ⟨_, _, _, a_off (go_off rfl rfl rfl rfl (by first | rfl | assumption | (simp; done) | (simp [*]; done))) rfl rfl rfl, rfl, ?_⟩)
          (refine ⟨_, _, _, a_off (go_off rfl rfl rfl rfl (by first | rfl | assumption | (simp; done) | (simp [*]; done))) rfl rfl rfl, rfl, ?_⟩)
          (refine ⟨_, _, _, a_off (go_off rfl rfl rfl rfl (by first | rfl | assumption | (simp; done) | (simp [*]; done))) rfl rfl rfl, rfl, ?_⟩)
          (refine ⟨_, _, _, aPt (gN rfl) rfl rfl rfl rfl rfl ?hb rfl, rfl, ?_⟩; case hb => (first | rfl | assumption | (simp; done)))
          exact wk_sub ⟨rfl, rfl, rfl, rfl, rfl, rfl, rfl, rfl, by rw [decide_eq_true (Or.inr (Or.inl rfl))]; rfl, trivial⟩
        | false =>
          have hxc : x.cw = .row [.b false, x.a.cw, x.b.cw] := by unfold Lt.cw; rw [hxn]
          rw [hxc] at hx'
          cases hyn : y.neg with
          | true =>
            have hyc : y.cw = .row [.b true, y.a.cw, y.b.cw] := by unfold Lt.cw; rw [hyn]
            rw [hyc] at hy'
            refine aR ?_
            (refine nx (aM (gN rfl) rfl rfl rfl rfl rfl) rfl ?_)
            (refine nx (aM (gN rfl) rfl rfl rfl rfl rfl) rfl ?_)
            (refine nx (a_eql (gN rfl) rfl rfl rfl rfl rfl rfl) rfl ?_)
            (refine nx (aM (gN rfl) rfl rfl rfl rfl rfl) rfl ?_)
            (refine nx (aM (gd_on rfl rfl rfl rfl (by first | rfl | assumption | (simp; done))) rfl rfl rfl rfl rfl) rfl ?_)
            (refine nx (aM (gd_on rfl rfl rfl rfl (by first | rfl | assumption | (simp; done))) rfl rfl rfl rfl rfl) rfl ?_)
            (refine nx (a_index (j := i) (gd_on rfl rfl rfl rfl (by first | rfl | assumption | (simp; done))) rfl rfl rfl rfl rfl rfl rfl rfl rfl (hx') rfl (hsz)) rfl ?_)
            (refine nx (a_field_ad (gd_on rfl rfl rfl rfl (by first | rfl | assumption | (simp; done))) rfl rfl rfl rfl rfl rfl rfl rfl rfl rfl rfl) rfl ?_)
            (refine nx (a_load_ad (gd_on rfl rfl rfl rfl (by first | rfl | assumption | (simp; done))) rfl rfl rfl rfl rfl rfl rfl rfl rfl) rfl ?_)
            (refine ⟨_, _, _, aPf (gN rfl) rfl rfl rfl rfl rfl ?hb rfl, rfl, ?_⟩; case hb => (first | rfl | assumption | (simp; done)))
            (refine nx (aM (gN rfl) rfl rfl rfl rfl rfl) rfl ?_)
            (refine nx (aM (gd_on rfl rfl rfl rfl (by first | rfl | assumption | (simp; done))) rfl rfl rfl rfl rfl) rfl ?_)
            (refine nx (aM (gd_on rfl rfl rfl rfl (by first | rfl | assumption | (simp; done))) rfl rfl rfl rfl rfl) rfl ?_)
            (refine nx (a_index (j := j) (gd_on rfl rfl rfl rfl (by first | rfl | assumption | (simp; done))) rfl rfl rfl rfl rfl rfl rfl rfl rfl (hy') rfl (hsz)) rfl ?_)
            (refine nx (a_field_ad (gd_on rfl rfl rfl rfl (by first | rfl | assumption | (simp; done))) rfl rfl rfl rfl rfl rfl rfl rfl rfl rfl rfl) rfl ?_)
            (refine nx (a_load_ad (gd_on rfl rfl rfl rfl (by first | rfl | assumption | (simp; done))) rfl rfl rfl rfl rfl rfl rfl rfl rfl) rfl ?_)
            (refine ⟨_, _, _, aPf (gN rfl) rfl rfl rfl rfl rfl ?hb rfl, rfl, ?_⟩; case hb => (first | rfl | assumption | (simp; done)))
            (refine nx (aM (gN rfl) rfl rfl rfl rfl rfl) rfl ?_)
            (refine ⟨_, _, _, a_off (go_off rfl rfl rfl rfl (by first | rfl | assumption | (simp; done) | (simp [*]; done))) rfl rfl rfl, rfl, ?_⟩)
            (refine ⟨_, _, _, a_off (go_off rfl rfl rfl rfl (by first | rfl | assumption | (simp; done) | (simp [*]; done))) rfl rfl rfl, rfl, ?_⟩)
            (refine ⟨_, _, _, a_off (go_off rfl rfl rfl rfl (by first | rfl | assumption | (simp; done) | (simp [*]; done))) rfl rfl rfl, rfl, ?_⟩)
            (refine ⟨_, _, _, a_off (go_off rfl rfl rfl rfl (by first | rfl | assumption | (simp; done) | (simp [*]; done))) rfl rfl rfl, rfl, ?_⟩)
            (refine ⟨_, _, _, aPt (gN rfl) rfl rfl rfl rfl rfl ?hb rfl, rfl, ?_⟩; case hb => (first | rfl | assumption | (simp; done)))
            exact wk_sub ⟨rfl, rfl, rfl, rfl, rfl, rfl, rfl, rfl, by rw [decide_eq_true (Or.inr (Or.inr (Or.inl rfl)))]; rfl, trivial⟩
          | false =>
            have hyc : y.cw = .row [.b false, y.a.cw, y.b.cw] := by unfold Lt.cw; rw [hyn]
            rw [hyc] at hy'
            refine aR ?_
            (refine nx (aM (gN rfl) rfl rfl rfl rfl rfl) rfl ?_)
            (refine nx (aM (gN rfl) rfl rfl rfl rfl rfl) rfl ?_)
            (refine nx (a_eql (gN rfl) rfl rfl rfl rfl rfl rfl) rfl ?_)
            (refine nx (aM (gN rfl) rfl rfl rfl rfl rfl) rfl ?_)
            (refine nx (aM (gd_on rfl rfl rfl rfl (by first | rfl | assumption | (simp; done))) rfl rfl rfl rfl rfl) rfl ?_)
            (refine nx (aM (gd_on rfl rfl rfl rfl (by first | rfl | assumption | (simp; done))) rfl rfl rfl rfl rfl) rfl ?_)
            (refine nx (a_index (j := i) (gd_on rfl rfl rfl rfl (by first | rfl | assumption | (simp; done))) rfl rfl rfl rfl rfl rfl rfl rfl rfl (hx') rfl (hsz)) rfl ?_)
            (refine nx (a_field_ad (gd_on rfl rfl rfl rfl (by first | rfl | assumption | (simp; done))) rfl rfl rfl rfl rfl rfl rfl rfl rfl rfl rfl) rfl ?_)
            (refine nx (a_load_ad (gd_on rfl rfl rfl rfl (by first | rfl | assumption | (simp; done))) rfl rfl rfl rfl rfl rfl rfl rfl rfl) rfl ?_)
            (refine ⟨_, _, _, aPf (gN rfl) rfl rfl rfl rfl rfl ?hb rfl, rfl, ?_⟩; case hb => (first | rfl | assumption | (simp; done)))
            (refine nx (aM (gN rfl) rfl rfl rfl rfl rfl) rfl ?_)
            (refine nx (aM (gd_on rfl rfl rfl rfl (by first | rfl | assumption | (simp; done))) rfl rfl rfl rfl rfl) rfl ?_)
            (refine nx (aM (gd_on rfl rfl rfl rfl (by first | rfl | assumption | (simp; done))) rfl rfl rfl rfl rfl) rfl ?_)
            (refine nx (a_index (j := j) (gd_on rfl rfl rfl rfl (by first | rfl | assumption | (simp; done))) rfl rfl rfl rfl rfl rfl rfl rfl rfl (hy') rfl (hsz)) rfl ?_)
            (refine nx (a_field_ad (gd_on rfl rfl rfl rfl (by first | rfl | assumption | (simp; done))) rfl rfl rfl rfl rfl rfl rfl rfl rfl rfl rfl) rfl ?_)
            (refine nx (a_load_ad (gd_on rfl rfl rfl rfl (by first | rfl | assumption | (simp; done))) rfl rfl rfl rfl rfl rfl rfl rfl rfl) rfl ?_)
            (refine ⟨_, _, _, aPf (gN rfl) rfl rfl rfl rfl rfl ?hb rfl, rfl, ?_⟩; case hb => (first | rfl | assumption | (simp; done)))
            (refine nx (aM (gN rfl) rfl rfl rfl rfl rfl) rfl ?_)
            (refine nx (aM (gd_on rfl rfl rfl rfl (by first | rfl | assumption | (simp; done))) rfl rfl rfl rfl rfl) rfl ?_)
            (refine nx (aM (gd_on rfl rfl rfl rfl (by first | rfl | assumption | (simp; done))) rfl rfl rfl rfl rfl) rfl ?_)
            (refine nx (a_call (gd_on rfl rfl rfl rfl (by first | rfl | assumption | (simp; done))) rfl rfl rfl rfl rfl (rLooked_abs w c (i : Int) hl (ten_okF hc))) rfl ?_)
            (refine nx (a_not (gd_on rfl rfl rfl rfl (by first | rfl | assumption | (simp; done))) rfl rfl rfl rfl rfl) rfl ?_)
            (refine ⟨_, _, _, aPf (gN rfl) rfl rfl rfl rfl rfl ?hb rfl, rfl, ?_⟩; case hb => (first | rfl | assumption | (simp; done)))
            refine wk_sub ⟨rfl, rfl, rfl, rfl, rfl, rfl, rfl, rfl, ?_, trivial⟩
            have e : decide (i = j ∨ false = true ∨ false = true ∨ (i : Int) ∉ lokL c) = !(decide ((i : Int) ∈ lokL c)) := by
              by_cases h : (i : Int) ∈ lokL c <;> simp [hij, h]
            rw [e]; rfl
    refine aC rfl (fun hcd => ?_) (fun hcd => ?_)
    · have hcd := of_decide_eq_true (show decide (i = j ∨ x.neg = true ∨ y.neg = true ∨ (i : Int) ∉ lokL c) = true from hcd)
      rw [if_pos hcd] at hdi
      refine aE ?_
      show AWp _ _ _ _ _ _ _
      refine aR ?_
      (refine nx (aM (gN rfl) rfl rfl rfl rfl rfl) rfl ?_)
      (refine nx (a_add (gN rfl) rfl rfl rfl rfl rfl rfl (by first | omega | (simp only [List.length_map, List.length_append, List.length_cons, List.length_nil] <;> omega) | (simp <;> omega))) rfl ?_)
      (refine nx (aA (gN rfl) rfl rfl rfl rfl rfl) rfl ?_)
      exact ⟨hkl, wk_sub (hno hdi _ ⟨rfl, rfl, rfl, rfl, trivial⟩)⟩
    have hcd := of_decide_eq_false (show decide (i = j ∨ x.neg = true ∨ y.neg = true ∨ (i : Int) ∉ lokL c) = false from hcd)
    rw [if_neg hcd] at hdi
    refine aK ?_
    show AWp _ _ _ _ _ _ _
    have sp := sd_ten hxt p
    have sp1 := sd_ten hxt (1 - p)
    have sq := sd_ten hyt q
    have sq1 := sd_ten hyt (1 - q)
    have hdu := doc_u sp sq
    refine aS (aD (by kernel_rfl) (by kernel_rfl) ?_)
    (refine nx (aM (gN rfl) rfl rfl rfl rfl rfl) rfl ?_)
    (refine nx (aM (gN rfl) rfl rfl rfl rfl rfl) rfl ?_)
    (refine nx (a_index (j := i) (gN rfl) rfl rfl rfl rfl rfl rfl rfl rfl rfl (hx') rfl (hsz)) rfl ?_)
    (refine nx (a_load_ad (gN rfl) rfl rfl rfl rfl rfl rfl rfl rfl rfl) rfl ?_)
    (refine nx (aM (gN rfl) rfl rfl rfl rfl rfl) rfl ?_)
    (refine nx (a_call (gN rfl) rfl rfl rfl rfl rfl (rSide_abs w x p)) rfl ?_)
    (refine nx (a_bslice (gN rfl) rfl rfl rfl rfl rfl rfl rfl rfl rfl rfl rfl rfl rfl) rfl ?_)
    (refine nx (aM (gN rfl) rfl rfl rfl rfl rfl) rfl ?_)
    (refine nx (aM (gN rfl) rfl rfl rfl rfl rfl) rfl ?_)
    (refine nx (a_index (j := j) (gN rfl) rfl rfl rfl rfl rfl rfl rfl rfl rfl (hy') rfl (hsz)) rfl ?_)
    (refine nx (a_load_ad (gN rfl) rfl rfl rfl rfl rfl rfl rfl rfl rfl) rfl ?_)
    (refine nx (aM (gN rfl) rfl rfl rfl rfl rfl) rfl ?_)
    (refine nx (a_call (gN rfl) rfl rfl rfl rfl rfl (rSide_abs w y q)) rfl ?_)
    (refine nx (a_bslice (gN rfl) rfl rfl rfl rfl rfl rfl rfl rfl rfl rfl rfl rfl rfl) rfl ?_)
    (refine nx (a_call (gN rfl) rfl rfl rfl rfl rfl (hdu.1 w)) rfl ?_)
    (refine nx (aM (gN rfl) rfl rfl rfl rfl rfl) rfl ?_)
    (refine nx (aX (gN rfl) rfl rfl rfl rfl rfl rfl) rfl ?_)
    (refine nx (aX (gN rfl) rfl rfl rfl rfl rfl rfl) rfl ?_)
    (refine nx (aA (gN rfl) rfl rfl rfl rfl rfl) rfl ?_)
    (refine nx (aA (gN rfl) rfl rfl rfl rfl rfl) rfl ?_)
    refine ⟨by kernel_rfl, ?_⟩
    show AWp _ _ _ _ _ _ _
    unfold DocU at hdu
    obtain ⟨_, hd1, hd2, _⟩ := hdu
    have da := doc_app sp sq sp
    have da1 := doc_app sp sq sp1
    have hkb := doc_kb sp sq sp sp1
    obtain ⟨ok, hok⟩ : ∃ ok, ok = (mgT (sdT x p) (sdT y q)).2 := ⟨_, rfl⟩
    obtain ⟨ld, hld⟩ : ∃ ld, ld = leadB (repT (mgS (sdT x p) (sdT y q)) (sdT x p)) (repT (mgS (sdT x p) (sdT y q)) (sdT x (1 - p))) := ⟨_, rfl⟩
    obtain ⟨dd, hdd⟩ : ∃ dd, dd = dT (sdT x p) (sdT y q) := ⟨_, rfl⟩
    have hld2 := hld
    rw [kb_lead, ← hkb] at hld2
    rw [← hok, ← hld, ← hdd] at hdi
    rw [← hdd] at hd1 hd2 da da1 hld2
    refine AWp.wk (wk_sub (s' := [(0, .val (.lst (c.map Lt.cv))), (3, .own (.lst (A.map clC)) 200130), (200130, .tok 22 1), (4, .val (.i k)), (5, .val (.i (i : Int))), (6, .val (.i (j : Int))), (7, .val (.i (p : Int))), (8, .val (.i (q : Int))), (9, .val (.lst (dd.map Bd.cv))), (10, .val (.b ok))]) ⟨rfl, rfl, rfl, rfl, rfl, rfl, rfl, rfl, by rw [hdd]; rfl, by rw [hok]; rfl, trivial⟩) ?_
    refine aS (aS (aR ?_))
    (refine nx (aM (gN rfl) rfl rfl rfl rfl rfl) rfl ?_)
    (refine nx (a_not (gN rfl) rfl rfl rfl rfl rfl) rfl ?_)
    show AWp _ _ _ _ _ _ _
    cases ok with
    | false =>
      rw [if_neg (by rintro ⟨h, _⟩; cases h)] at hdi
      refine aC rfl (fun _ => ?_) (fun h => by cases h)
      refine aE ?_
      show AWp _ _ _ _ _ _ _
      refine aR ?_
      (refine nx (aM (gN rfl) rfl rfl rfl rfl rfl) rfl ?_)
      (refine nx (a_add (gN rfl) rfl rfl rfl rfl rfl rfl (by first | omega | (simp only [List.length_map, List.length_append, List.length_cons, List.length_nil] <;> omega) | (simp <;> omega))) rfl ?_)
      (refine nx (aA (gN rfl) rfl rfl rfl rfl rfl) rfl ?_)
      exact ⟨hkl, wk_sub (hno hdi _ ⟨rfl, rfl, rfl, rfl, trivial⟩)⟩
    | true =>
    refine aC rfl (fun h => by cases h) (fun _ => aK ?_)
    show AWp _ _ _ _ _ _ _
    have hcmp := fun w => rCompare_abs w (appR dd (sdT x p)) (appR dd (sdT x (1 - p))) da.1 da.2.1 (by have := da.2.2.1; omega) da1.1 da1.2.1 (by have := da1.2.2.1; omega)
    obtain ⟨kk, hkk⟩ : ∃ kk, kk = kb (appR dd (sdT x p)) (appR dd (sdT x (1 - p))) := ⟨_, rfl⟩
    rw [← hkk] at hcmp hld2
    refine aS (aD (by kernel_rfl) (by kernel_rfl) ?_)
    (refine nx (aM (gN rfl) rfl rfl rfl rfl rfl) rfl ?_)
    (refine nx (aM (gN rfl) rfl rfl rfl rfl rfl) rfl ?_)
    (refine nx (aM (gN rfl) rfl rfl rfl rfl rfl) rfl ?_)
    (refine nx (a_index (j := i) (gN rfl) rfl rfl rfl rfl rfl rfl rfl rfl rfl (hx') rfl (hsz)) rfl ?_)
    (refine nx (a_load_ad (gN rfl) rfl rfl rfl rfl rfl rfl rfl rfl rfl) rfl ?_)
    (refine nx (aM (gN rfl) rfl rfl rfl rfl rfl) rfl ?_)
    (refine nx (a_call (gN rfl) rfl rfl rfl rfl rfl (rSide_abs w x p)) rfl ?_)
    (refine nx (a_call (gN rfl) rfl rfl rfl rfl rfl (refApply_abs w dd hd1 _ sp.1.1 sp.1.2)) rfl ?_)
    (refine nx (aM (gN rfl) rfl rfl rfl rfl rfl) rfl ?_)
    (refine nx (aM (gN rfl) rfl rfl rfl rfl rfl) rfl ?_)
    (refine nx (aM (gN rfl) rfl rfl rfl rfl rfl) rfl ?_)
    (refine nx (a_index (j := i) (gN rfl) rfl rfl rfl rfl rfl rfl rfl rfl rfl (hx') rfl (hsz)) rfl ?_)
    (refine nx (a_load_ad (gN rfl) rfl rfl rfl rfl rfl rfl rfl rfl rfl) rfl ?_)
    (refine nx (aM (gN rfl) rfl rfl rfl rfl rfl) rfl ?_)
    (refine nx (a_sub (gN rfl) rfl rfl rfl rfl rfl rfl (by first | omega | (simp only [List.length_map, List.length_append, List.length_cons, List.length_nil] <;> omega) | (simp <;> omega))) rfl ?_)
    (refine nx (a_call (gN rfl) rfl rfl rfl rfl rfl (rSideI_abs w x _ (1 - p) (by omega))) rfl ?_)
    (refine nx (a_call (gN rfl) rfl rfl rfl rfl rfl (refApply_abs w dd hd1 _ sp1.1.1 sp1.1.2)) rfl ?_)
    (refine nx (a_call (gN rfl) rfl rfl rfl rfl rfl (hcmp w)) rfl ?_)
    (refine nx (aA (gN rfl) rfl rfl rfl rfl rfl) rfl ?_)
    refine ⟨by kernel_rfl, ?_⟩
    show AWp _ _ _ _ _ _ _
    refine AWp.wk (wk_sub (s' := [(0, .val (.lst (c.map Lt.cv))), (3, .own (.lst (A.map clC)) 200130), (200130, .tok 22 1), (4, .val (.i k)), (5, .val (.i (i : Int))), (6, .val (.i (j : Int))), (7, .val (.i (p : Int))), (8, .val (.i (q : Int))), (9, .val (.lst (dd.map Bd.cv))), (11, .val (.i kk))]) ⟨rfl, rfl, rfl, rfl, rfl, rfl, rfl, rfl, rfl, rfl, trivial⟩) ?_
    refine aS (awp_mid [(0, .val (.lst (c.map Lt.cv))), (3, .own (.lst (A.map clC)) 200130), (200130, .tok 22 1), (4, .val (.i k)), (5, .val (.i (i : Int))), (6, .val (.i (j : Int))), (7, .val (.i (p : Int))), (8, .val (.i (q : Int))), (9, .val (.lst (dd.map Bd.cv))), (104, .val (.b (decide (kk = 0 ∨ kk = -1))))] ?_ ?_)
    · by_cases h0 : kk = 0
      · have g : decide (kk = 0) = true := decide_eq_true h0
        refine aR ?_
        (refine nx (aM (gN rfl) rfl rfl rfl rfl rfl) rfl ?_)
        (refine nx (a_eql (gN rfl) rfl rfl rfl rfl rfl rfl) rfl ?_)
        (refine nx (aM (gN rfl) rfl rfl rfl rfl rfl) rfl ?_)
        (refine ⟨_, _, _, a_off (go_off rfl rfl rfl rfl (by first | rfl | assumption | (simp; done) | (simp [*]; done))) rfl rfl rfl, rfl, ?_⟩)
        (refine ⟨_, _, _, a_off (go_off rfl rfl rfl rfl (by first | rfl | assumption | (simp; done) | (simp [*]; done))) rfl rfl rfl, rfl, ?_⟩)
        (refine ⟨_, _, _, aPt (gN rfl) rfl rfl rfl rfl rfl ?hb rfl, rfl, ?_⟩; case hb => (first | rfl | assumption | (simp; done)))
        exact wk_sub ⟨rfl, rfl, rfl, rfl, rfl, rfl, rfl, rfl, rfl, by rw [decide_eq_true (Or.inl h0)]; rfl, trivial⟩
      · have g : decide (kk = 0) = false := decide_eq_false h0
        refine aR ?_
        (refine nx (aM (gN rfl) rfl rfl rfl rfl rfl) rfl ?_)
        (refine nx (a_eql (gN rfl) rfl rfl rfl rfl rfl rfl) rfl ?_)
        (refine nx (aM (gN rfl) rfl rfl rfl rfl rfl) rfl ?_)
        (refine nx (aM (gd_on rfl rfl rfl rfl (by first | rfl | assumption | (simp; done))) rfl rfl rfl rfl rfl) rfl ?_)
        (refine nx (a_eql (gd_on rfl rfl rfl rfl (by first | rfl | assumption | (simp; done))) rfl rfl rfl rfl rfl rfl) rfl ?_)
        (refine ⟨_, _, _, aPf (gN rfl) rfl rfl rfl rfl rfl ?hb rfl, rfl, ?_⟩; case hb => (first | rfl | assumption | (simp; done)))
        refine wk_sub ⟨rfl, rfl, rfl, rfl, rfl, rfl, rfl, rfl, rfl, ?_, trivial⟩
        have e : decide (kk = 0 ∨ kk = -1) = decide (kk = -1) := by simp [h0]
        rw [e]; rfl
    refine aC rfl (fun hg => ?_) (fun hg => ?_)
    · have hg : decide (kk = 0 ∨ kk = -1) = true := hg
      rw [hg] at hld2
      rw [if_neg (by rintro ⟨_, h⟩; rw [hld2] at h; cases h)] at hdi
      refine aE ?_
      show AWp _ _ _ _ _ _ _
      refine aR ?_
      (refine nx (aM (gN rfl) rfl rfl rfl rfl rfl) rfl ?_)
      (refine nx (a_add (gN rfl) rfl rfl rfl rfl rfl rfl (by first | omega | (simp only [List.length_map, List.length_append, List.length_cons, List.length_nil] <;> omega) | (simp <;> omega))) rfl ?_)
      (refine nx (aA (gN rfl) rfl rfl rfl rfl rfl) rfl ?_)
      exact ⟨hkl, wk_sub (hno hdi _ ⟨rfl, rfl, rfl, rfl, trivial⟩)⟩
    have hg : decide (kk = 0 ∨ kk = -1) = false := hg
    rw [hg] at hld2
    rw [if_pos ⟨rfl, hld2⟩] at hdi
    have hwo := rWithoutO_abs c (i : Int) (by omega)
    rw [offD_in hil] at hwo
    have hol := offL_len hil
    have hom : ((offL c i).map Lt.cv).length = (offL c i).length := List.length_map ..
    have hosz := Lt.size_all (offL c i)
    obtain ⟨lt, hlt2⟩ : ∃ lt : Lt, lt = ⟨true, sdT x (1 - p), sdT y (1 - q)⟩ := ⟨_, rfl⟩
    have hltc : lt.cw = .row [.b true, (sdT x (1 - p)).cw, (sdT y (1 - q)).cw] := by rw [hlt2]
    rw [← hlt2] at hdi
    refine aK ?_
    show AWp _ _ _ _ _ _ _
    refine aS (aD (by kernel_rfl) (by kernel_rfl) ?_)
    (refine nx (aM (gN rfl) rfl rfl rfl rfl rfl) rfl ?_)
    (refine nx (aM (gN rfl) rfl rfl rfl rfl rfl) rfl ?_)
    (refine nx (a_callO (gN rfl) rfl rfl rfl rfl rfl (hwo) (by repeat (first | exact trivial | refine ⟨rfl, ?_⟩)) (by first | rfl | kernel_rfl) (by first | rfl | kernel_rfl) (by first | rfl | kernel_rfl) (by first | rfl | kernel_rfl) (fun k v h => by first | (rw [hW.1] at h; cases h) | (have h2 := hU k v h; cases h2))) rfl ?_)
    (refine nx (aM (gN rfl) rfl rfl rfl rfl rfl) rfl ?_)
    (refine nx (aM (gN rfl) rfl rfl rfl rfl rfl) rfl ?_)
    (refine nx (a_index (j := i) (gN rfl) rfl rfl rfl rfl rfl rfl rfl rfl rfl (hx') rfl (hsz)) rfl ?_)
    (refine nx (a_load_ad (gN rfl) rfl rfl rfl rfl rfl rfl rfl rfl rfl) rfl ?_)
    (refine nx (aM (gN rfl) rfl rfl rfl rfl rfl) rfl ?_)
    (refine nx (a_sub (gN rfl) rfl rfl rfl rfl rfl rfl (by first | omega | (simp only [List.length_map, List.length_append, List.length_cons, List.length_nil] <;> omega) | (simp <;> omega))) rfl ?_)
    (refine nx (a_call (gN rfl) rfl rfl rfl rfl rfl (rSideI_abs w x _ (1 - p) (by omega))) rfl ?_)
    (refine nx (aM (gN rfl) rfl rfl rfl rfl rfl) rfl ?_)
    (refine nx (aM (gN rfl) rfl rfl rfl rfl rfl) rfl ?_)
    (refine nx (a_index (j := j) (gN rfl) rfl rfl rfl rfl rfl rfl rfl rfl rfl (hy') rfl (hsz)) rfl ?_)
    (refine nx (a_load_ad (gN rfl) rfl rfl rfl rfl rfl rfl rfl rfl rfl) rfl ?_)
    (refine nx (aM (gN rfl) rfl rfl rfl rfl rfl) rfl ?_)
    (refine nx (a_sub (gN rfl) rfl rfl rfl rfl rfl rfl (by first | omega | (simp only [List.length_map, List.length_append, List.length_cons, List.length_nil] <;> omega) | (simp <;> omega))) rfl ?_)
    (refine nx (a_call (gN rfl) rfl rfl rfl rfl rfl (rSideI_abs w y _ (1 - q) (by omega))) rfl ?_)
    (refine nx (a_buildT ltZ3 (gN rfl) rfl rfl rfl rfl rfl rfl rfl rfl rfl rfl rfl) rfl ?_)
    (refine nx (a_bslice (gN rfl) rfl rfl rfl rfl rfl rfl rfl rfl rfl rfl rfl rfl rfl) rfl ?_)
    (refine nx (a_appM 300124 (gN rfl) rfl rfl rfl rfl rfl rfl rfl rfl rfl rfl rfl rfl rfl (by first | rfl | omega | (simp only [List.length_set, List.length_map, List.length_append, List.length_cons, List.length_nil] <;> omega) | (simp <;> omega)) (by first | assumption | exact sZ rfl | exact Tm.size_all _ | exact Bd.size_all _ | exact ints_size _ | exact bys_size _ | exact Lt.size_all _) (by first | omega | (simp only [List.length_map, List.length_append, List.length_cons, List.length_nil] <;> omega) | (simp <;> omega))) rfl ?_)
    (refine nx (aA (gN rfl) rfl rfl rfl rfl rfl) rfl ?_)
    refine ⟨by kernel_rfl, ?_⟩
    show AWp _ _ _ _ _ _ _
    refine AWp.wk ((wk_sub (s' := [(0, .val (.lst (c.map Lt.cv))), (3, .own (.lst (A.map clC)) 200130), (200130, .tok 22 1), (4, .val (.i k)), (5, .val (.i (i : Int))), (6, .val (.i (j : Int))), (7, .val (.i (p : Int))), (8, .val (.i (q : Int))), (9, .val (.lst (dd.map Bd.cv))), (12, .sl 300124 0 (offL c i ++ [lt]).length 5), (300124, .mrow 53 5 ((offL c i ++ [lt]).map Lt.cv))]) ⟨rfl, rfl, rfl, rfl, rfl, rfl, rfl, rfl, rfl, ?_, ?_, trivial⟩).trans (wk_frz 12 300124 (e := 53) (z := 5) (lo := 0) (len := (offL c i ++ [lt]).length) (l := (offL c i ++ [lt]).map Lt.cv) rfl rfl rfl (.inl hW.2) (by simp) (s' := [(0, .val (.lst (c.map Lt.cv))), (3, .own (.lst (A.map clC)) 200130), (200130, .tok 22 1), (4, .val (.i k)), (5, .val (.i (i : Int))), (6, .val (.i (j : Int))), (7, .val (.i (p : Int))), (8, .val (.i (q : Int))), (9, .val (.lst (dd.map Bd.cv)))]) ⟨rfl, rfl, rfl, rfl, rfl, rfl, rfl, rfl, rfl, trivial⟩ rfl)) ?_
    · show some (AV.sl _ _ _ _) = some (AV.sl _ _ _ _)
      rw [List.length_append, ← hom]; rfl
    · show some (AV.mrow _ _ _) = some (AV.mrow _ _ _)
      rw [List.map_append, List.map_singleton]
      show _ = some (AV.mrow _ _ (_ ++ [lt.cw]))
      rw [hltc]; rfl
    have hdr : (((offL c i ++ [lt]).map Lt.cv).drop 0).take (offL c i ++ [lt]).length = (offL c i ++ [lt]).map Lt.cv := by rw [List.drop_zero, List.take_of_length_le (by simp)]
    rw [hdr]
    have hfin : ∀ l ∈ offL c i ++ [lt], (l.a.rng ∧ l.a.ok) ∧ l.b.rng ∧ l.b.ok := fun l hl => by
      rcases List.mem_append.1 hl with h | h
      · exact ten_fit hc l (offL_mem h)
      · rw [List.mem_singleton] at h; rw [h, hlt2]; exact ⟨sp1.1, sq1.1⟩
    refine aR ?_
    (refine nx (aM (gN rfl) rfl rfl rfl rfl rfl) rfl ?_)
    (refine nx (aM (gN rfl) rfl rfl rfl rfl rfl) rfl ?_)
    (refine nx (aM (gN rfl) rfl rfl rfl rfl rfl) rfl ?_)
    (refine nx (a_call (gN rfl) rfl rfl rfl rfl rfl (refAppC_abs w dd (offL c i ++ [lt]) hd1 (by simp; omega) hfin)) rfl ?_)
    (refine nx (a_bslice (gN rfl) rfl rfl rfl rfl rfl rfl rfl rfl rfl rfl rfl rfl rfl) rfl ?_)
    (refine nx (a_app (gN rfl) rfl rfl rfl rfl rfl rfl rfl rfl rfl rfl rfl rfl rfl rfl rfl (by first | assumption | exact sZ rfl | exact Tm.size_all _ | exact Bd.size_all _ | exact ints_size _ | exact bys_size _ | exact Lt.size_all _) (by first | assumption | exact sZ rfl | exact Tm.size_all _ | exact Bd.size_all _ | exact ints_size _ | exact bys_size _ | exact Lt.size_all _) (by first | omega | (simp only [List.length_map, List.length_append, List.length_cons, List.length_nil] <;> omega) | (simp <;> omega))) rfl ?_)
    (refine nx (aA (gN rfl) rfl rfl rfl rfl rfl) rfl ?_)
    show AWp _ _ _ _ _ _ _
    refine aR ?_
    (refine nx (aM (gN rfl) rfl rfl rfl rfl rfl) rfl ?_)
    (refine nx (a_add (gN rfl) rfl rfl rfl rfl rfl rfl (by first | omega | (simp only [List.length_map, List.length_append, List.length_cons, List.length_nil] <;> omega) | (simp <;> omega))) rfl ?_)
    (refine nx (aA (gN rfl) rfl rfl rfl rfl rfl) rfl ?_)
    refine ⟨hkl, (wk_sub (s' := [(0, .val (.lst (c.map Lt.cv))), (3, .own (.lst ((facD c (k + 1)).map clC)) 300130), (300130, .tok 22 1), (4, .val (.i ((k + 1 : Nat) : Int)))]) ⟨rfl, ?_, rfl, rfl, trivial⟩).trans (wk_ren 300130 200130 rfl rfl rfl rfl)⟩
    show some (AV.own (.lst _) _) = some (AV.own (.lst _) _)
    rw [hS, hdi, List.map_append (f := clC)]
    rfl
  · have hkl : k = 4 * c.length * c.length := by
      have h : ¬ (k : Int) < 4 * (c.length : Int) * (c.length : Int) := by simpa using hlt
      have : ¬ k < 4 * c.length * c.length := fun h2 => h (by rw [← hBi]; exact Int.ofNat_lt.2 h2)
      omega
    subst hkl
    refine aE ?_
    show AWp _ _ _ _ _ _ _
    refine aS (aR ?_)
    (refine nx (aM (gN rfl) rfl rfl rfl rfl rfl) rfl ?_)
    (refine nx (aA (gN rfl) rfl rfl rfl rfl rfl) rfl ?_)
    show AWp _ _ _ _ _ _ _
    exact aT (And.intro (.inr rfl) rfl)
def fa5 : Tm := ⟨2, [⟨1, []⟩]⟩
def vx5 : Tm := ⟨-1, []⟩
def px5 : Tm := ⟨3, [⟨-1, []⟩]⟩
def tt5 : Tm := ⟨0, []⟩
def cl5 : List Lt := [⟨true, vx5, fa5⟩, ⟨false, px5, tt5⟩]
theorem ten5 {t : Tm} (h1 : t.rng) (h2 : t.ok) (h3 : t.size ≤ 10) : t.ten := ⟨⟨h1, h2⟩, h3⟩
theorem fa5_ten : fa5.ten := ten5 (by simp [fa5, Tm.rng]) (by simp [fa5, Tm.ok]) (by simp [fa5, Tm.size, Tm.flat])
theorem vx5_ten : vx5.ten := ten5 (by simp [vx5, Tm.rng]) (by simp [vx5, Tm.ok]) (by simp [vx5, Tm.size, Tm.flat])
theorem px5_ten : px5.ten := ten5 (by simp [px5, Tm.rng]) (by simp [px5, Tm.ok]) (by simp [px5, Tm.size, Tm.flat])
theorem tt5_ten : tt5.ten := ten5 (by simp [tt5, Tm.rng]) (by simp [tt5, Tm.ok]) (by simp [tt5, Tm.size, Tm.flat])
theorem cl5_ten : ∀ l ∈ cl5, l.ten := fun l hl => by
  simp only [cl5, List.mem_cons, List.not_mem_nil, or_false] at hl
  rcases hl with rfl | rfl
  · exact ⟨vx5_ten, fa5_ten⟩
  · exact ⟨px5_ten, tt5_ten⟩
theorem mg5 : (mgT vx5 fa5).2 = true ∧ mgS vx5 fa5 0 = fa5 := by
  have hT := mg_told vx5_ten fa5_ten
  have hfr : ∀ σ : Int → Tm, repT σ fa5 = fa5 := fun σ => by simp [fa5, repT]
  have hvr : ∀ σ : Int → Tm, repT σ vx5 = (σ 0).strip := fun σ => by simp [vx5, repT]
  have hfs : fa5.strip = fa5 := by simp [fa5, Tm.strip]
  have h2 : (mgT vx5 fa5).2 = true := by
    cases h : (mgT vx5 fa5).2 with
    | true => rfl
    | false =>
      exfalso
      refine (hT.no h).2 (fun _ => fa5) ?_
      rw [uni_one, hfr, hvr, hfs]
  refine ⟨h2, ?_⟩
  have hm := hT.yes h2
  have hu := hm.uni
  rw [uni_one, hfr, hvr, hm.bare 0 (by omega)] at hu
  exact hu
theorem hv5 : lokL cl5 = [0] := by
  have h : hvK cl5 2 = (0, wtL ⟨true, vx5, fa5⟩) := by
    have h1 : hvK cl5 1 = (0, wtL ⟨true, vx5, fa5⟩) := by
      unfold hvK
      show (if (⟨true, vx5, fa5⟩ : Lt).neg = true ∧ (hvK cl5 0).2 < wtL ⟨true, vx5, fa5⟩ then _ else _) = _
      rw [if_pos ⟨rfl, wtL_pos _⟩]; rfl
    unfold hvK
    show (if (⟨false, px5, tt5⟩ : Lt).neg = true ∧ _ then _ else hvK cl5 1) = _
    rw [if_neg (by intro h; cases h.1), h1]
  unfold lokL
  show (if (hvK cl5 2).1 ≥ 0 then _ else _) = _
  rw [h, if_pos (by decide)]
  show [(hvK cl5 2).1] = [0]
  rw [h]
theorem res5 : resA1 cl5 = [[⟨false, ⟨3, [fa5]⟩, tt5⟩]] := by
  obtain ⟨h1, h2⟩ := mg5
  unfold resA1
  rw [hv5]
  have h3 : resC cl5 (0 : Int).toNat = some [⟨false, ⟨3, [fa5]⟩, tt5⟩] := by
    unfold resC
    show (if (⟨true, vx5, fa5⟩ : Lt).neg = true ∧ (mgT vx5 fa5).2 = true then some ((offL cl5 0).map (Lt.rep (mgS vx5 fa5))) else none) = _
    rw [if_pos ⟨rfl, h1⟩]
    have e : offL cl5 0 = [⟨false, px5, tt5⟩] := rfl
    rw [e]
    have e2 : repT (mgS vx5 fa5) px5 = ⟨3, [fa5]⟩ := by
      simp [px5, repT, h2]
      simp [fa5, Tm.strip]
    have e3 : repT (mgS vx5 fa5) tt5 = tt5 := by simp [tt5, repT]
    simp only [List.map_cons, List.map_nil, Lt.rep, e2, e3]
  rw [List.filterMap_cons]
  simp only [h3]
  rfl
-- 
set_option maxHeartbeats 2000000 in
theorem alive15_abs (W : World) : AFun Tryz.prog W 7 [] (.val (.b true)) := by
  have hR := fun w => eRes_abs w cl5 (by simp [cl5]) cl5_ten
  rw [res5] at hR
  have hc5 : cl5.map Lt.cv = [.row [.b true, .row [.i (-1), .lst []], .row [.i 2, .lst [.row [.i 1, .lst []]]]], .row [.b false, .row [.i 3, .lst [.row [.i (-1), .lst []]]], .row [.i 0, .lst []]]] := by simp [cl5, vx5, fa5, px5, tt5, Lt.cv, Tm.cv_eq]
  have hr5 : ([[⟨false, ⟨3, [fa5]⟩, tt5⟩]] : List (List Lt)).map clC = [.lst [.row [.b false, .row [.i 3, .lst [.row [.i 2, .lst [.row [.i 1, .lst []]]]]], .row [.i 0, .lst []]]]] := by simp [clC, fa5, tt5, Lt.cv, Tm.cv_eq]
  rw [hc5, hr5] at hR
  refine afun_of (rs := [.b true]) Tryz.func7 Tryz.ntmps7 rfl rfl rfl rfl ?_
  intro w U hW
  refine aS (aR ?_)
  (refine nx (aA (gN rfl) rfl rfl rfl rfl rfl) rfl ?_)
  show AWp _ _ _ _ _ _ _
  refine aS (aR ?_)
  (refine nx (a_buildP (gN rfl) rfl rfl rfl rfl rfl rfl rfl rfl rfl rfl rfl) rfl ?_)
  (refine nx (a_bslice (gN rfl) rfl rfl rfl rfl rfl rfl rfl rfl rfl rfl rfl rfl rfl) rfl ?_)
  (refine nx (a_build (gN rfl) rfl rfl rfl rfl rfl rfl rfl rfl rfl rfl rfl) rfl ?_)
  (refine nx (a_alloc (gN rfl) rfl rfl rfl rfl rfl rfl rfl rfl rfl rfl) rfl ?_)
  (refine nx (aSt (gN rfl) rfl rfl rfl rfl rfl rfl rfl rfl rfl rfl) rfl ?_)
  show AWp _ _ _ _ _ _ _
  refine aS (aR ?_)
  (refine nx (a_buildP (gN rfl) rfl rfl rfl rfl rfl rfl rfl rfl rfl rfl rfl) rfl ?_)
  (refine nx (aL (gN rfl) rfl rfl rfl rfl rfl rfl rfl rfl rfl rfl rfl rfl) rfl ?_)
  (refine nx (a_buildT ltZ3 (gN rfl) rfl rfl rfl rfl rfl rfl rfl rfl rfl rfl rfl) rfl ?_)
  (refine nx (a_buildP (gN rfl) rfl rfl rfl rfl rfl rfl rfl rfl rfl rfl rfl) rfl ?_)
  (refine nx (a_bslice (gN rfl) rfl rfl rfl rfl rfl rfl rfl rfl rfl rfl rfl rfl rfl) rfl ?_)
  (refine nx (a_buildT [.i 0, .lst []] (gN rfl) rfl rfl rfl rfl rfl rfl rfl rfl rfl rfl rfl) rfl ?_)
  (refine nx (a_buildT ltZ3 (gN rfl) rfl rfl rfl rfl rfl rfl rfl rfl rfl rfl rfl) rfl ?_)
  (refine nx (a_bslice (gN rfl) rfl rfl rfl rfl rfl rfl rfl rfl rfl rfl rfl rfl rfl) rfl ?_)
  (refine nx (a_call (gN rfl) rfl rfl rfl rfl rfl (hR w)) rfl ?_)
  (refine nx (aA (gN rfl) rfl rfl rfl rfl rfl) rfl ?_)
  show AWp _ _ _ _ _ _ _
  refine aS (aR ?_)
  (refine nx (aM (gN rfl) rfl rfl rfl rfl rfl) rfl ?_)
  (refine nx (a_len (gN rfl) rfl rfl rfl rfl rfl rfl rfl) rfl ?_)
  (refine nx (a_eql (gN rfl) rfl rfl rfl rfl rfl rfl) rfl ?_)
  (refine nx (aM (gN rfl) rfl rfl rfl rfl rfl) rfl ?_)
  (refine nx (aM (gd_on rfl rfl rfl rfl (by first | rfl | assumption | (simp; done))) rfl rfl rfl rfl rfl) rfl ?_)
  (refine nx (a_index (j := 0) (gd_on rfl rfl rfl rfl (by first | rfl | assumption | (simp; done))) rfl rfl rfl rfl rfl rfl rfl rfl rfl (rfl) rfl (sZ rfl)) rfl ?_)
  (refine nx (a_load_ad (gd_on rfl rfl rfl rfl (by first | rfl | assumption | (simp; done))) rfl rfl rfl rfl rfl rfl rfl rfl rfl) rfl ?_)
  (refine nx (a_len (gd_on rfl rfl rfl rfl (by first | rfl | assumption | (simp; done))) rfl rfl rfl rfl rfl rfl rfl) rfl ?_)
  (refine nx (a_eql (gd_on rfl rfl rfl rfl (by first | rfl | assumption | (simp; done))) rfl rfl rfl rfl rfl rfl) rfl ?_)
  (refine ⟨_, _, _, aPt (gN rfl) rfl rfl rfl rfl rfl ?hb rfl, rfl, ?_⟩; case hb => (first | rfl | assumption | (simp; done)))
  (refine nx (aM (gN rfl) rfl rfl rfl rfl rfl) rfl ?_)
  (refine nx (aM (gd_on rfl rfl rfl rfl (by first | rfl | assumption | (simp; done))) rfl rfl rfl rfl rfl) rfl ?_)
  (refine nx (a_index (j := 0) (gd_on rfl rfl rfl rfl (by first | rfl | assumption | (simp; done))) rfl rfl rfl rfl rfl rfl rfl rfl rfl (rfl) rfl (sZ rfl)) rfl ?_)
  (refine nx (a_load_ad (gd_on rfl rfl rfl rfl (by first | rfl | assumption | (simp; done))) rfl rfl rfl rfl rfl rfl rfl rfl rfl) rfl ?_)
  (refine nx (a_index (j := 0) (gd_on rfl rfl rfl rfl (by first | rfl | assumption | (simp; done))) rfl rfl rfl rfl rfl rfl rfl rfl rfl (rfl) rfl (sZ rfl)) rfl ?_)
  (refine nx (a_field_ad (gd_on rfl rfl rfl rfl (by first | rfl | assumption | (simp; done))) rfl rfl rfl rfl rfl rfl rfl rfl rfl rfl rfl) rfl ?_)
  (refine nx (a_field_ad (gd_on rfl rfl rfl rfl (by first | rfl | assumption | (simp; done))) rfl rfl rfl rfl rfl rfl rfl rfl rfl rfl rfl) rfl ?_)
  (refine nx (a_load_ad (gd_on rfl rfl rfl rfl (by first | rfl | assumption | (simp; done))) rfl rfl rfl rfl rfl rfl rfl rfl rfl) rfl ?_)
  (refine nx (a_index (j := 0) (gd_on rfl rfl rfl rfl (by first | rfl | assumption | (simp; done))) rfl rfl rfl rfl rfl rfl rfl rfl rfl (rfl) rfl (sZ rfl)) rfl ?_)
  (refine nx (a_field_ad (gd_on rfl rfl rfl rfl (by first | rfl | assumption | (simp; done))) rfl rfl rfl rfl rfl rfl rfl rfl rfl rfl rfl) rfl ?_)
  (refine nx (a_load_ad (gd_on rfl rfl rfl rfl (by first | rfl | assumption | (simp; done))) rfl rfl rfl rfl rfl rfl rfl rfl rfl) rfl ?_)
  (refine nx (a_eql (gd_on rfl rfl rfl rfl (by first | rfl | assumption | (simp; done))) rfl rfl rfl rfl rfl rfl) rfl ?_)
  (refine ⟨_, _, _, aPt (gN rfl) rfl rfl rfl rfl rfl ?hb rfl, rfl, ?_⟩; case hb => (first | rfl | assumption | (simp; done)))
  (refine nx (aA (gN rfl) rfl rfl rfl rfl rfl) rfl ?_)
  show AWp _ _ _ _ _ _ _
  exact aT (And.intro (.inr rfl) rfl)
theorem fine_ten {c : List Lt} {most : Nat} {size : Int} (h0 : 0 ≤ size) (h1 : size ≤ 10) (h : fineC c most size = true) : c.length ≤ most ∧ ∀ l ∈ c, l.ten := by
  obtain ⟨h2, h3⟩ := fineC_facts h0 (by omega) h
  refine ⟨h2, fun l hl => ?_⟩
  obtain ⟨⟨⟨_, a1, a2⟩, _, a3⟩, ⟨⟨_, b1, b2⟩, _, b3⟩⟩ := h3 l hl
  exact ⟨⟨⟨a1, a2⟩, by omega⟩, ⟨b1, b2⟩, by omega⟩
def Tm.big5 (t : Tm) : Prop := t.rng ∧ t.ok ∧ t.size ≤ 29550
def Lt.big5 (l : Lt) : Prop := l.a.big5 ∧ l.b.big5
theorem rep_big5 {a b : Tm} (ha : a.ten) (hb : b.ten) {c : List Lt} (hc : ∀ l ∈ c, l.ten) : ∀ l ∈ c.map (Lt.rep (mgS a b)), l.big5 := fun l hl => by
  obtain ⟨x, hx, rfl⟩ := List.mem_map.1 hl
  exact ⟨mg_rep ha hb (hc x hx).1, mg_rep ha hb (hc x hx).2⟩
theorem app_ok5 {a b : Tm} (ha : a.ten) (hb : b.ten) {c : List Lt} (hc : ∀ l ∈ c, l.ten) : ∀ l ∈ c.map (appL (dT a b)), l.a.ok ∧ l.b.ok := fun l hl => by
  obtain ⟨x, hx, rfl⟩ := List.mem_map.1 hl
  exact ⟨(doc_app ha hb (hc x hx).1).2.1, (doc_app ha hb (hc x hx).2).2.1⟩
theorem res_mem {c d : List Lt} (h : d ∈ resA1 c) : ∃ n x, n < c.length ∧ (n : Int) ∈ lokL c ∧ c[n]? = some x ∧ x.neg = true ∧ (mgT x.a x.b).2 = true ∧ d = (offL c n).map (Lt.rep (mgS x.a x.b)) := by
  obtain ⟨z, hz, he⟩ := List.mem_filterMap.1 h
  obtain ⟨h0, h1⟩ := lok_at hz
  unfold resC at he
  split at he
  · rename_i x hx
    split at he
    · rename_i hg
      exact ⟨z.toNat, x, by omega, by rw [Int.toNat_of_nonneg h0]; exact hz, hx, hg.1, hg.2, (Option.some.inj he).symm⟩
    · cases he
  · cases he
theorem res_fit {c d : List Lt} (hc : ∀ l ∈ c, l.ten) (h : d ∈ resA1 c) : d.length + 1 = c.length ∧ ∀ l ∈ d, l.big5 := by
  obtain ⟨n, x, hn, _, hx, _, _, rfl⟩ := res_mem h
  have hxt := hc x (List.mem_of_getElem? hx)
  exact ⟨by rw [List.length_map]; exact offL_len hn, rep_big5 hxt.1 hxt.2 (ten_off hc n)⟩
theorem fac_mem {c d : List Lt} (hc : ∀ l ∈ c, l.ten) (h : d ∈ facA c) : ∃ (n : Nat) (p q : Tm × Tm), n < c.length ∧ (p.1.ten ∧ p.2.ten) ∧ (q.1.ten ∧ q.2.ten) ∧ (mgT p.1 q.1).2 = true ∧ d = (offL c n ++ [(⟨true, p.2, q.2⟩ : Lt)]).map (Lt.rep (mgS p.1 q.1)) := by
  obtain ⟨z, hz, he⟩ := List.mem_flatMap.1 h
  obtain ⟨h0, h1⟩ := lok_at hz
  unfold facL at he
  split at he
  · rename_i x hx
    split at he
    · cases he
    · obtain ⟨m, hm, he⟩ := List.mem_flatMap.1 he
      unfold facN at he
      split at he
      · rename_i y hy
        split at he
        · obtain ⟨p, hp, he⟩ := List.mem_flatMap.1 he
          obtain ⟨q, hq, he⟩ := List.mem_filterMap.1 he
          unfold facC at he
          split at he
          · rename_i hg
            exact ⟨z.toNat, p, q, by omega, way_ten (hc x (List.mem_of_getElem? hx)) p hp, way_ten (hc y (List.mem_of_getElem? hy)) q hq, hg.1, (Option.some.inj he).symm⟩
          · cases he
        · cases he
      · cases he
  · cases he
theorem fac_fit {c d : List Lt} (hc : ∀ l ∈ c, l.ten) (h : d ∈ facA c) : d.length = c.length ∧ (∀ l ∈ d, l.big5) ∧ ∃ l, d[c.length - 1]? = some l ∧ l.neg = true := by
  obtain ⟨n, p, q, hn, hp, hq, _, rfl⟩ := fac_mem hc h
  have hol := offL_len hn
  refine ⟨by rw [List.length_map, List.length_append]; simp; omega, rep_big5 hp.1 hq.1 fun l hl => ?_, Lt.rep (mgS p.1 q.1) ⟨true, p.2, q.2⟩, ?_, rfl⟩
  · rcases List.mem_append.1 hl with h | h
    · exact ten_off hc n l h
    · rw [List.mem_singleton] at h; subst h; exact ⟨hp.2, hq.2⟩
  · rw [List.getElem?_map, List.getElem?_append_right (by omega), show c.length - 1 - (offL c n).length = 0 by omega]
    rfl
theorem resD_fit {c d : List Lt} (hc : ∀ l ∈ c, l.ten) {k : Nat} (h : d ∈ resD c k) : ∀ l ∈ d, l.a.ok ∧ l.b.ok := by
  obtain ⟨n, _, he⟩ := List.mem_filterMap.1 h
  unfold resDi at he
  split at he
  · rename_i x hx
    split at he
    · have hxt := hc x (List.mem_of_getElem? hx)
      rw [← Option.some.inj he]
      exact app_ok5 hxt.1 hxt.2 (ten_off hc n)
    · cases he
  · cases he
theorem facD_fit {c d : List Lt} (hc : ∀ l ∈ c, l.ten) {k : Nat} (h : d ∈ facD c k) : ∀ l ∈ d, l.a.ok ∧ l.b.ok := by
  obtain ⟨n, _, he⟩ := List.mem_filterMap.1 h
  unfold facDn facDi at he
  split at he
  · rename_i x y hx hy
    have hxt := hc x (List.mem_of_getElem? hx)
    have hyt := hc y (List.mem_of_getElem? hy)
    split at he
    · cases he
    · split at he
      · rw [← Option.some.inj he]
        refine app_ok5 (sd_ten hxt _) (sd_ten hyt _) fun l hl => ?_
        rcases List.mem_append.1 hl with h | h
        · exact ten_off hc _ l h
        · rw [List.mem_singleton] at h; subst h; exact ⟨sd_ten hxt _, sd_ten hyt _⟩
      · cases he
  · cases he
theorem res_len (c : List Lt) : (resA1 c).length ≤ c.length + 1 := Nat.le_trans (List.length_filterMap_le _ _) (lok_len c)
theorem fac_len (c : List Lt) : (facA c).length ≤ 4 * c.length * (c.length + 1) := by
  have h : facA c = facK c (lokL c) (lokL c).length := by unfold facA facK; rw [List.take_length]
  rw [h]
  exact Nat.le_trans (facK_len c _ _) (Nat.mul_le_mul_left _ (lok_len c))
theorem strip2 (l : Lt) : l.strip.strip = l.strip := by
  unfold Lt.strip
  simp only [Tm.strip_strip]
theorem strips2 (c : List Lt) : (c.map Lt.strip).map Lt.strip = c.map Lt.strip := by
  rw [List.map_map]
  exact List.map_congr_left fun l _ => strip2 l
theorem stC2 (L : List (List Lt)) : stC (stC L) = stC L := by
  unfold stC
  rw [List.map_map]
  exact List.map_congr_left fun c _ => strips2 c
theorem stC_fit {L : List (List Lt)} {N : Nat} (h : ∀ d ∈ L, d.length ≤ N ∧ ∀ l ∈ d, l.a.ok ∧ l.b.ok) : ∀ d ∈ stC L, d.length ≤ N ∧ ∀ l ∈ d, l.a.ok ∧ l.b.ok := fun d hd => by
  obtain ⟨e, he, rfl⟩ := List.mem_map.1 hd
  obtain ⟨h1, h2⟩ := h e he
  refine ⟨by rw [List.length_map]; exact h1, fun l hl => ?_⟩
  obtain ⟨x, hx, rfl⟩ := List.mem_map.1 hl
  exact ⟨Tm.strip_ok (h2 x hx).1, Tm.strip_ok (h2 x hx).2⟩
end Go.Proofs.YtglmoficcjphaaaGreat
