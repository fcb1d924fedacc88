/-
  EqRes EqDoc ClNmX ClTtM ClRefN EqRef AbStr PrQuo EqRef2 EqRef3 EqAlive EqLw MtMath MtMath2 EqVnt
-/
import Derived.Test.YtglmoficcjphaaaGreatMg11
import Derived.Test.YtglmoficcjphaaaGreatMg9
import Derived.Test.YtglmoficcjphaaaGreatMg4
import Derived.Laws.Strings
import Derived.Laws.Strings3
import Derived.Laws.Concat
import Derived.Lib.Strings
import Derived.Laws.BytesArg
import Derived.Test.YtglmoficcjphaaaGreatMg5
namespace Go.Proofs.YtglmoficcjphaaaGreat
open Go.RowKit
set_option linter.unusedVariables false
set_option linter.unusedSimpArgs false
set_option maxRecDepth 100000
theorem hvK_at (c : List Lt) : ∀ k : Nat, -1 ≤ (hvK c k).1 ∧ (hvK c k).1 < k
  | 0 => ⟨by show (-1 : Int) ≤ -1; omega, by show (-1 : Int) < _; omega⟩
  | k + 1 => by
    obtain ⟨h1, h2⟩ := hvK_at c k
    unfold hvK
    split
    · omega
    · split
      · simp only; omega
      · omega
theorem lok_at {c : List Lt} {z : Int} (h : z ∈ lokL c) : 0 ≤ z ∧ z < c.length := by
  unfold lokL at h
  split at h
  · rw [List.mem_singleton] at h
    have := hvK_at c c.length
    omega
  · unfold gsK at h
    obtain ⟨i, hi, rfl⟩ := List.mem_map.1 h
    have := List.mem_range.1 (List.mem_filter.1 hi).1
    omega
theorem ten_fits {c : List Lt} (h : ∀ l ∈ c, l.ten) : ∀ l ∈ c, l.fit := fun l hl => ⟨⟨(h l hl).1.1.1, (h l hl).1.1.2, by have := (h l hl).1.2; omega⟩, (h l hl).2.1.1, (h l hl).2.1.2, by have := (h l hl).2.2; omega⟩
noncomputable def resK (c : List Lt) (L : List Int) (k : Nat) : List (List Lt) := (L.take k).filterMap fun z => resC c z.toNat
theorem resK_len (c : List Lt) (L : List Int) (k : Nat) : (resK c L k).length ≤ L.length := by
  unfold resK
  exact Nat.le_trans (List.length_filterMap_le _ _) (by rw [List.length_take]; omega)
theorem resK_succ {c : List Lt} {L : List Int} {k : Nat} {n : Nat} (h : L[k]? = some (n : Int)) : resK c L (k + 1) = resK c L k ++ (resC c n).toList := by
  unfold resK
  rw [List.take_add_one, h, List.filterMap_append]
  congr 1
theorem ten_off {c : List Lt} (h : ∀ l ∈ c, l.ten) (n : Nat) : ∀ l ∈ offL c n, l.ten := fun l hl => h l (offL_mem hl)
-- 
set_option maxHeartbeats 4000000 in
theorem eRes_abs (W : World) (c : List Lt) (hl : c.length ≤ 100) (hc : ∀ l ∈ c, l.ten) : AFun Tryz.prog W 12 [.lst (c.map Lt.cv)] (.val (.lst ((resA1 c).map clC))) := by
  have hsz := Lt.size_all c
  have hLk := fun w => oLook_abs w c (by omega) (ten_fits hc)
  have hLat : ∀ z ∈ lokL c, 0 ≤ z ∧ z < c.length := fun z hz => lok_at hz
  have hLl : (lokL c).length ≤ 101 := by have := lok_len c; omega
  have hres : resA1 c = resK c (lokL c) (lokL c).length := by unfold resA1 resK; rw [List.take_length]
  rw [hres]
  obtain ⟨L, hL⟩ : ∃ L, L = lokL c := ⟨_, rfl⟩
  rw [← hL] at hLk hLat hLl ⊢
  have hszL := ints_size L
  refine afun_of (rs := [.lst ((resK c L L.length).map clC)]) Tryz.func12 Tryz.ntmps12 rfl rfl rfl rfl ?_
  intro w U hW
  refine aS (aR ?_)
  (refine nx (aA (gN rfl) rfl rfl rfl rfl rfl) rfl ?_)
  show AWp _ _ _ _ _ _ _
  refine aS (aR ?_)
  (refine nx (aA (gN rfl) rfl rfl rfl rfl rfl) rfl ?_)
  show AWp _ _ _ _ _ _ _
  refine aS (aS (aR ?_))
  (refine nx (aM (gN rfl) rfl rfl rfl rfl rfl) rfl ?_)
  (refine nx (a_call (gN rfl) rfl rfl rfl rfl rfl (hLk w)) rfl ?_)
  (refine nx (a_len (gN rfl) rfl rfl rfl rfl rfl rfl rfl) rfl ?_)
  (refine nx (aM (gN rfl) rfl rfl rfl rfl rfl) rfl ?_)
  show AWp _ _ _ _ _ _ _
  let st : Nat → AS := fun k => [(0, .val (.lst (c.map Lt.cv))), (3, .own (.lst ((resK c L k).map clC)) 200043), (200043, .tok 26 1), (9, .val (.lst (L.map CV.i))), (10, .val (.i (L.map CV.i).length)), (11, .val (.i k))]
  refine aB (awp_count L.length st ((wk_nil 3 200043 26 1 rfl rfl rfl rfl rfl rfl rfl).trans (wk_sub ⟨rfl, rfl, rfl, rfl, rfl, rfl, trivial⟩)) ?_)
  intro k hk
  refine aS (aR ?_)
  (refine nx (a_lss (gN rfl) rfl rfl rfl rfl rfl rfl) rfl ?_)
  show AWp _ _ _ _ _ _ _
  refine aS (aC rfl (fun hlt => ?_) (fun hlt => ?_))
  · have hkl : k < L.length := by simpa using hlt
    obtain ⟨z, hz⟩ : ∃ z, L[k]? = some z := ⟨L[k], List.getElem?_eq_getElem hkl⟩
    obtain ⟨hz0, hz1⟩ := hLat z (List.mem_of_getElem? hz)
    obtain ⟨n, rfl⟩ : ∃ n : Nat, z = (n : Int) := ⟨z.toNat, by omega⟩
    have hz' := int_at hz
    have hn : n < c.length := by omega
    obtain ⟨x, hx⟩ : ∃ x, c[n]? = some x := ⟨c[n], List.getElem?_eq_getElem hn⟩
    have hx' := Lt.map_at hx
    have hxt := hc x (List.mem_of_getElem? hx)
    have hS := resK_succ (c := c) hz
    have hrc : resC c n = if x.neg = true ∧ (mgT x.a x.b).2 = true then some ((offL c n).map (Lt.rep (mgS x.a x.b))) else none := by unfold resC; rw [hx]
    have hlen3 := resK_len c L k
    have hlen4 : ((resK c L k).map clC).length ≤ 101 := by rw [List.length_map]; omega
    have hsz3 := clC_size (resK c L k)
    refine aK ?_
    show AWp _ _ _ _ _ _ _
    refine aS (aB (aS (aR ?_)))
    (refine nx (a_index (j := k) (gN rfl) rfl rfl rfl rfl rfl rfl rfl rfl rfl (hz') rfl (hszL)) rfl ?_)
    (refine nx (a_load_ad (gN rfl) rfl rfl rfl rfl rfl rfl rfl rfl rfl) rfl ?_)
    (refine nx (aA (gN rfl) rfl rfl rfl rfl rfl) rfl ?_)
    show AWp _ _ _ _ _ _ _
    refine aS (aS (aR ?_))
    (refine nx (aM (gN rfl) rfl rfl rfl rfl rfl) rfl ?_)
    (refine nx (aM (gN rfl) rfl rfl rfl rfl rfl) rfl ?_)
    (refine nx (a_index (j := n) (gN rfl) rfl rfl rfl rfl rfl rfl rfl rfl rfl (hx') rfl (hsz)) rfl ?_)
    (refine nx (a_field_ad (gN rfl) rfl rfl rfl rfl rfl rfl rfl rfl rfl rfl rfl) rfl ?_)
    (refine nx (a_load_ad (gN rfl) rfl rfl rfl rfl rfl rfl rfl rfl rfl) rfl ?_)
    (refine nx (a_not (gN rfl) rfl rfl rfl rfl rfl) rfl ?_)
    show AWp _ _ _ _ _ _ _
    refine aC rfl (fun hb => ?_) (fun hb => ?_)
    · have hb : (!x.neg) = true := hb
      have hng : x.neg = false := by simpa using hb
      have e : resK c L (k + 1) = resK c L k := by rw [hS, hrc, if_neg (by rw [hng]; rintro ⟨h, _⟩; cases h)]; simp
      refine aE ?_
      show AWp _ _ _ _ _ _ _
      refine aR ?_
      (refine nx (a_add (gN rfl) rfl rfl rfl rfl rfl rfl (by first | omega | (simp only [List.length_map, List.length_append, List.length_cons, List.length_nil] <;> omega) | (simp <;> omega))) rfl ?_)
      (refine nx (aM (gN rfl) rfl rfl rfl rfl rfl) rfl ?_)
      refine ⟨hkl, wk_sub ⟨rfl, ?_, rfl, rfl, rfl, rfl, trivial⟩⟩
      rw [e]; rfl
    · have hb : (!x.neg) = false := hb
      have hng : x.neg = true := by simpa using hb
      refine aK ?_
      show AWp _ _ _ _ _ _ _
      refine aS (aD (by kernel_rfl) (by kernel_rfl) ?_)
      (refine nx (aM (gN rfl) rfl rfl rfl rfl rfl) rfl ?_)
      (refine nx (aM (gN rfl) rfl rfl rfl rfl rfl) rfl ?_)
      (refine nx (a_index (j := n) (gN rfl) rfl rfl rfl rfl rfl rfl rfl rfl rfl (hx') rfl (hsz)) rfl ?_)
      (refine nx (a_field_ad (gN rfl) rfl rfl rfl rfl rfl rfl rfl rfl rfl rfl rfl) rfl ?_)
      (refine nx (a_load_ad (gN rfl) rfl rfl rfl rfl rfl rfl rfl rfl rfl) rfl ?_)
      (refine nx (aM (gN rfl) rfl rfl rfl rfl rfl) rfl ?_)
      (refine nx (aM (gN rfl) rfl rfl rfl rfl rfl) rfl ?_)
      (refine nx (a_index (j := n) (gN rfl) rfl rfl rfl rfl rfl rfl rfl rfl rfl (hx') rfl (hsz)) rfl ?_)
      (refine nx (a_field_ad (gN rfl) rfl rfl rfl rfl rfl rfl rfl rfl rfl rfl rfl) rfl ?_)
      (refine nx (a_load_ad (gN rfl) rfl rfl rfl rfl rfl rfl rfl rfl rfl) rfl ?_)
      (refine nx (a_call (gN rfl) rfl rfl rfl rfl rfl (eUnify_abs w hxt.1 hxt.2)) rfl ?_)
      (refine nx (aM (gN rfl) rfl rfl rfl rfl rfl) rfl ?_)
      (refine nx (aX (gN rfl) rfl rfl rfl rfl rfl rfl) rfl ?_)
      (refine nx (aX (gN rfl) rfl rfl rfl rfl rfl rfl) rfl ?_)
      (refine nx (aA (gN rfl) rfl rfl rfl rfl rfl) rfl ?_)
      (refine nx (aA (gN rfl) rfl rfl rfl rfl rfl) rfl ?_)
      refine ⟨by kernel_rfl, ?_⟩
      show AWp _ _ _ _ _ _ _
      obtain ⟨ok, hok⟩ : ∃ ok, ok = (mgT x.a x.b).2 := ⟨_, rfl⟩
      rw [← hok] at hrc
      refine aS (aR ?_)
      (refine nx (aM (gN rfl) rfl rfl rfl rfl rfl) rfl ?_)
      show AWp _ _ _ _ _ _ _
      refine AWp.wk (wk_sub (s' := [(0, .val (.lst (c.map Lt.cv))), (3, .own (.lst ((resK c L k).map clC)) 200043), (200043, .tok 26 1), (9, .val (.lst (L.map CV.i))), (10, .val (.i (L.map CV.i).length)), (11, .val (.i k)), (5, .val (.i (n : Int))), (6, .val (.lst ((mgT x.a x.b).1.map Bd.cv))), (35, .val (.b ok))]) ⟨rfl, rfl, rfl, rfl, rfl, rfl, rfl, rfl, by rw [hok]; rfl, trivial⟩) ?_
      cases ok with
      | false =>
        have e : resK c L (k + 1) = resK c L k := by rw [hS, hrc, if_neg (by rintro ⟨_, h⟩; cases h)]; simp
        refine aC rfl (fun h => by cases h) (fun _ => aK ?_)
        show AWp _ _ _ _ _ _ _
        refine aR ?_
        (refine nx (a_add (gN rfl) rfl rfl rfl rfl rfl rfl (by first | omega | (simp only [List.length_map, List.length_append, List.length_cons, List.length_nil] <;> omega) | (simp <;> omega))) rfl ?_)
        (refine nx (aM (gN rfl) rfl rfl rfl rfl rfl) rfl ?_)
        refine ⟨hkl, wk_sub ⟨rfl, ?_, rfl, rfl, rfl, rfl, trivial⟩⟩
        rw [e]; rfl
      | true =>
        have e : resK c L (k + 1) = resK c L k ++ [(offL c n).map (Lt.rep (mgS x.a x.b))] := by rw [hS, hrc, if_pos ⟨hng, rfl⟩]; rfl
        have hol := offL_len hn
        refine aC rfl (fun _ => ?_) (fun h => by cases h)
        refine aR ?_
        (refine nx (aM (gN rfl) rfl rfl rfl rfl rfl) rfl ?_)
        (refine nx (aM (gN rfl) rfl rfl rfl rfl rfl) rfl ?_)
        (refine nx (aM (gN rfl) rfl rfl rfl rfl rfl) rfl ?_)
        (refine nx (aM (gN rfl) rfl rfl rfl rfl rfl) rfl ?_)
        (refine nx (a_call (gN rfl) rfl rfl rfl rfl rfl (eOthers_abs w c n hn (by omega))) rfl ?_)
        (refine nx (a_call (gN rfl) rfl rfl rfl rfl rfl (eApply_abs w hxt.1 hxt.2 (offL c n) (by omega) (ten_fit (ten_off hc n)))) rfl ?_)
        (refine nx (a_bslice (gN rfl) rfl rfl rfl rfl rfl rfl rfl rfl rfl rfl rfl rfl rfl) rfl ?_)
        (refine nx (a_app (gN rfl) rfl rfl rfl rfl rfl rfl rfl rfl rfl rfl rfl rfl rfl rfl rfl (by first | assumption | exact sZ rfl | exact Tm.size_all _ | exact Bd.size_all _ | exact ints_size _ | exact bys_size _ | exact Lt.size_all _) (by first | assumption | exact sZ rfl | exact Tm.size_all _ | exact Bd.size_all _ | exact ints_size _ | exact bys_size _ | exact Lt.size_all _) (by first | omega | (simp only [List.length_map, List.length_append, List.length_cons, List.length_nil] <;> omega) | (simp <;> omega))) rfl ?_)
        (refine nx (aA (gN rfl) rfl rfl rfl rfl rfl) rfl ?_)
        show AWp _ _ _ _ _ _ _
        refine aR ?_
        (refine nx (a_add (gN rfl) rfl rfl rfl rfl rfl rfl (by first | omega | (simp only [List.length_map, List.length_append, List.length_cons, List.length_nil] <;> omega) | (simp <;> omega))) rfl ?_)
        (refine nx (aM (gN rfl) rfl rfl rfl rfl rfl) rfl ?_)
        refine ⟨hkl, (wk_sub (s' := [(0, .val (.lst (c.map Lt.cv))), (3, .own (.lst ((resK c L (k + 1)).map clC)) 300043), (300043, .tok 26 1), (9, .val (.lst (L.map CV.i))), (10, .val (.i (L.map CV.i).length)), (11, .val (.i ((k + 1 : Nat) : Int)))]) ⟨rfl, ?_, rfl, rfl, rfl, rfl, trivial⟩).trans (wk_ren 300043 200043 rfl rfl rfl rfl)⟩
        show some (AV.own (.lst _) _) = some (AV.own (.lst _) _)
        rw [e, List.map_append (f := clC)]
        rfl
  · have hkl : k = L.length := by
      have : ¬ k < L.length := by simpa using hlt
      omega
    subst hkl
    refine aE ?_
    show AWp _ _ _ _ _ _ _
    refine aS (aR ?_)
    (refine nx (aM (gN rfl) rfl rfl rfl rfl rfl) rfl ?_)
    (refine nx (aA (gN rfl) rfl rfl rfl rfl rfl) rfl ?_)
    show AWp _ _ _ _ _ _ _
    exact aT (And.intro (.inr rfl) rfl)
noncomputable def facK (c : List Lt) (L : List Int) (k : Nat) : List (List Lt) := (L.take k).flatMap fun z => facL c z.toNat
theorem facK_succ {c : List Lt} {L : List Int} {k : Nat} {n : Nat} (h : L[k]? = some (n : Int)) : facK c L (k + 1) = facK c L k ++ facL c n := by
  unfold facK
  rw [List.take_add_one, h, List.flatMap_append]
  simp
noncomputable def facM (c : List Lt) (l : Lt) (n m : Nat) : List (List Lt) := (List.range m).flatMap fun j => facN c l n j
theorem facM_succ (c : List Lt) (l : Lt) (n m : Nat) : facM c l n (m + 1) = facM c l n m ++ facN c l n m := by
  unfold facM
  rw [List.range_succ, List.flatMap_append]
  simp
theorem facN_len (c : List Lt) (l : Lt) (n m : Nat) : (facN c l n m).length ≤ 4 := by
  unfold facN
  split
  · split
    · exact facO_len _ _ _
    · exact Nat.zero_le _
  · exact Nat.zero_le _
theorem facM_len (c : List Lt) (l : Lt) (n : Nat) : ∀ m, (facM c l n m).length ≤ 4 * m
  | 0 => Nat.le_refl _
  | m + 1 => by
    have h1 := facM_len c l n m
    have h2 := facN_len c l n m
    rw [facM_succ, List.length_append]
    omega
theorem facL_len (c : List Lt) (n : Nat) : (facL c n).length ≤ 4 * c.length := by
  unfold facL
  split
  · split
    · exact Nat.zero_le _
    · exact facM_len c _ n c.length
  · exact Nat.zero_le _
theorem facK_len (c : List Lt) : ∀ (L : List Int) (k : Nat), (facK c L k).length ≤ 4 * c.length * k
  | L, 0 => by simp [facK]
  | [], k + 1 => by simp [facK]
  | z :: L, k + 1 => by
    have h1 := facK_len c L k
    have h2 := facL_len c z.toNat
    have e : facK c (z :: L) (k + 1) = facL c z.toNat ++ facK c L k := by unfold facK; rw [List.take_succ_cons, List.flatMap_cons]
    rw [e, List.length_append, Nat.mul_add, Nat.mul_one]
    omega
-- 
set_option maxHeartbeats 8000000 in
theorem eFactor_abs (W : World) (c : List Lt) (hl : c.length ≤ 100) (hc : ∀ l ∈ c, l.ten) : AFun Tryz.prog W 14 [.lst (c.map Lt.cv)] (.val (.lst ((facA c).map clC))) := by
  have hsz := Lt.size_all c
  have hLk := fun w => oLook_abs w c (by omega) (ten_fits hc)
  have hLat : ∀ z ∈ lokL c, 0 ≤ z ∧ z < c.length := fun z hz => lok_at hz
  have hLl : (lokL c).length ≤ 101 := by have := lok_len c; omega
  have hres : facA c = facK c (lokL c) (lokL c).length := by unfold facA facK; rw [List.take_length]
  rw [hres]
  obtain ⟨L, hL⟩ : ∃ L, L = lokL c := ⟨_, rfl⟩
  rw [← hL] at hLk hLat hLl ⊢
  have hszL := ints_size L
  have hclm : (c.map Lt.cv).length = c.length := List.length_map ..
  refine afun_of (rs := [.lst ((facK c L L.length).map clC)]) Tryz.func14 Tryz.ntmps14 rfl rfl rfl rfl ?_
  intro w U hW
  refine aS (aR ?_)
  (refine nx (aA (gN rfl) rfl rfl rfl rfl rfl) rfl ?_)
  show AWp _ _ _ _ _ _ _
  refine aS (aR ?_)
  (refine nx (aA (gN rfl) rfl rfl rfl rfl rfl) rfl ?_)
  show AWp _ _ _ _ _ _ _
  refine aS (aS (aR ?_))
  (refine nx (aM (gN rfl) rfl rfl rfl rfl rfl) rfl ?_)
  (refine nx (a_call (gN rfl) rfl rfl rfl rfl rfl (hLk w)) rfl ?_)
  (refine nx (a_len (gN rfl) rfl rfl rfl rfl rfl rfl rfl) rfl ?_)
  (refine nx (aM (gN rfl) rfl rfl rfl rfl rfl) rfl ?_)
  show AWp _ _ _ _ _ _ _
  let st : Nat → AS := fun k => [(0, .val (.lst (c.map Lt.cv))), (3, .own (.lst ((facK c L k).map clC)) 200047), (200047, .tok 26 1), (10, .val (.lst (L.map CV.i))), (11, .val (.i (L.map CV.i).length)), (12, .val (.i k))]
  refine aB (awp_count L.length st ((wk_nil 3 200047 26 1 rfl rfl rfl rfl rfl rfl rfl).trans (wk_sub ⟨rfl, rfl, rfl, rfl, rfl, rfl, trivial⟩)) ?_)
  intro k hk
  refine aS (aR ?_)
  (refine nx (a_lss (gN rfl) rfl rfl rfl rfl rfl rfl) rfl ?_)
  show AWp _ _ _ _ _ _ _
  refine aS (aC rfl (fun hlt => ?_) (fun hlt => ?_))
  · have hkl : k < L.length := by simpa using hlt
    obtain ⟨z, hz⟩ : ∃ z, L[k]? = some z := ⟨L[k], List.getElem?_eq_getElem hkl⟩
    obtain ⟨hz0, hz1⟩ := hLat z (List.mem_of_getElem? hz)
    obtain ⟨n, rfl⟩ : ∃ n : Nat, z = (n : Int) := ⟨z.toNat, by omega⟩
    have hz' := int_at hz
    have hn : n < c.length := by omega
    obtain ⟨x, hx⟩ : ∃ x, c[n]? = some x := ⟨c[n], List.getElem?_eq_getElem hn⟩
    have hx' := Lt.map_at hx
    have hxt := hc x (List.mem_of_getElem? hx)
    have hS := facK_succ (c := c) hz
    have hfl : facL c n = if x.neg = true then [] else facM c x n c.length := by unfold facL facM; rw [hx]
    obtain ⟨A, hA⟩ : ∃ A, A = facK c L k := ⟨_, rfl⟩
    have hAl : A.length ≤ 40400 := by
      have h1 := facK_len c L k
      have h2 : 4 * c.length * k ≤ 400 * 101 := Nat.mul_le_mul (by omega) (by omega)
      rw [hA]; omega
    rw [← hA] at hS
    refine aK ?_
    show AWp _ _ _ _ _ _ _
    refine aS (aB (aS (aR ?_)))
    (refine nx (a_index (j := k) (gN rfl) rfl rfl rfl rfl rfl rfl rfl rfl rfl (hz') rfl (hszL)) rfl ?_)
    (refine nx (a_load_ad (gN rfl) rfl rfl rfl rfl rfl rfl rfl rfl rfl) rfl ?_)
    (refine nx (aA (gN rfl) rfl rfl rfl rfl rfl) rfl ?_)
    show AWp _ _ _ _ _ _ _
    refine aS (aS (aR ?_))
    (refine nx (aM (gN rfl) rfl rfl rfl rfl rfl) rfl ?_)
    (refine nx (aM (gN rfl) rfl rfl rfl rfl rfl) rfl ?_)
    (refine nx (a_index (j := n) (gN rfl) rfl rfl rfl rfl rfl rfl rfl rfl rfl (hx') rfl (hsz)) rfl ?_)
    (refine nx (a_field_ad (gN rfl) rfl rfl rfl rfl rfl rfl rfl rfl rfl rfl rfl) rfl ?_)
    (refine nx (a_load_ad (gN rfl) rfl rfl rfl rfl rfl rfl rfl rfl rfl) rfl ?_)
    show AWp _ _ _ _ _ _ _
    refine AWp.wk (wk_sub (s' := [(0, .val (.lst (c.map Lt.cv))), (3, .own (.lst (A.map clC)) 200047), (200047, .tok 26 1), (10, .val (.lst (L.map CV.i))), (11, .val (.i (L.map CV.i).length)), (12, .val (.i k)), (5, .val (.i (n : Int))), (20, .val (.b x.neg))]) ⟨rfl, by rw [hA]; rfl, rfl, rfl, rfl, rfl, rfl, rfl, trivial⟩) ?_
    refine aC rfl (fun hb => ?_) (fun hb => ?_)
    · have hb : x.neg = true := hb
      have e : facK c L (k + 1) = A := by rw [hS, hfl, if_pos hb, List.append_nil]
      refine aE ?_
      show AWp _ _ _ _ _ _ _
      refine aR ?_
      (refine nx (a_add (gN rfl) rfl rfl rfl rfl rfl rfl (by first | omega | (simp only [List.length_map, List.length_append, List.length_cons, List.length_nil] <;> omega) | (simp <;> omega))) rfl ?_)
      (refine nx (aM (gN rfl) rfl rfl rfl rfl rfl) rfl ?_)
      refine ⟨hkl, wk_sub ⟨rfl, ?_, rfl, rfl, rfl, rfl, trivial⟩⟩
      rw [e]; rfl
    · have hb : x.neg = false := hb
      have e : facK c L (k + 1) = A ++ facM c x n c.length := by rw [hS, hfl, if_neg (by rw [hb]; decide)]
      have hol := offL_len hn
      refine aK ?_
      show AWp _ _ _ _ _ _ _
      refine aS (aR ?_)
      (refine nx (aM (gN rfl) rfl rfl rfl rfl rfl) rfl ?_)
      (refine nx (aM (gN rfl) rfl rfl rfl rfl rfl) rfl ?_)
      (refine nx (a_call (gN rfl) rfl rfl rfl rfl rfl (eOthers_abs w c n hn (by omega))) rfl ?_)
      (refine nx (aA (gN rfl) rfl rfl rfl rfl rfl) rfl ?_)
      show AWp _ _ _ _ _ _ _
      refine aS (aR ?_)
      (refine nx (aM (gN rfl) rfl rfl rfl rfl rfl) rfl ?_)
      (refine nx (a_len (gN rfl) rfl rfl rfl rfl rfl rfl rfl) rfl ?_)
      (refine nx (aM (gN rfl) rfl rfl rfl rfl rfl) rfl ?_)
      show AWp _ _ _ _ _ _ _
      let st2 : Nat → AS := fun m => [(0, .val (.lst (c.map Lt.cv))), (3, .own (.lst ((A ++ facM c x n m).map clC)) 200047), (200047, .tok 26 1), (10, .val (.lst (L.map CV.i))), (11, .val (.i (L.map CV.i).length)), (12, .val (.i k)), (5, .val (.i (n : Int))), (6, .val (.lst ((offL c n).map Lt.cv))), (24, .val (.lst (c.map Lt.cv))), (25, .val (.i (c.map Lt.cv).length)), (26, .val (.i m))]
      refine aB (awp_count c.length st2 (wk_sub ⟨rfl, by show some (AV.own (.lst _) _) = some (AV.own (.lst _) _); rw [show facM c x n 0 = [] from rfl, List.append_nil], rfl, rfl, rfl, rfl, rfl, rfl, rfl, rfl, rfl, trivial⟩) ?_)
      intro m hm
      refine aS (aR ?_)
      (refine nx (a_lss (gN rfl) rfl rfl rfl rfl rfl rfl) rfl ?_)
      show AWp _ _ _ _ _ _ _
      refine aS (aC rfl (fun hlt2 => ?_) (fun hlt2 => ?_))
      · have hml : m < c.length := by simpa using hlt2
        obtain ⟨y, hy⟩ : ∃ y, c[m]? = some y := ⟨c[m], List.getElem?_eq_getElem hml⟩
        have hy' := Lt.map_at hy
        have hyt := hc y (List.mem_of_getElem? hy)
        have hMs := facM_succ c x n m
        have hfn : facN c x n m = if m ≠ n ∧ y.neg = false then facO (wayL x) y (offL c n) else [] := by unfold facN; rw [hy]
        obtain ⟨B, hB⟩ : ∃ B, B = A ++ facM c x n m := ⟨_, rfl⟩
        have hBl : B.length ≤ 50000 := by
          have := facM_len c x n m
          rw [hB, List.length_append]; omega
        have hMs' : A ++ facM c x n (m + 1) = B ++ facN c x n m := by rw [hMs, hB, List.append_assoc]
        have hBm : (B.map clC).length ≤ 50000 := by rw [List.length_map]; exact hBl
        have hszB := clC_size B
        have hszO := clC_size (facO (wayL x) y (offL c n))
        have hOl : ((facO (wayL x) y (offL c n)).map clC).length ≤ 4 := by rw [List.length_map]; exact facO_len _ _ _
        refine aK ?_
        show AWp _ _ _ _ _ _ _
        refine aS (aB (aS (aR ?_)))
        (refine nx (aM (gN rfl) rfl rfl rfl rfl rfl) rfl ?_)
        (refine nx (a_index (j := m) (gN rfl) rfl rfl rfl rfl rfl rfl rfl rfl rfl (hy') rfl (hsz)) rfl ?_)
        (refine nx (a_load_ad (gN rfl) rfl rfl rfl rfl rfl rfl rfl rfl rfl) rfl ?_)
        (refine nx (a_allocT ltZ3 (gN rfl) rfl rfl rfl rfl rfl rfl rfl) rfl ?_)
        (refine nx (aA (gN rfl) rfl rfl rfl rfl rfl) rfl ?_)
        (refine nx (aSt (gN rfl) rfl rfl rfl rfl rfl rfl rfl rfl rfl rfl) rfl ?_)
        show AWp _ _ _ _ _ _ _
        refine AWp.wk (wk_sub (s' := [(0, .val (.lst (c.map Lt.cv))), (3, .own (.lst (B.map clC)) 200047), (200047, .tok 26 1), (10, .val (.lst (L.map CV.i))), (11, .val (.i (L.map CV.i).length)), (12, .val (.i k)), (5, .val (.i (n : Int))), (6, .val (.lst ((offL c n).map Lt.cv))), (24, .val (.lst (c.map Lt.cv))), (25, .val (.i (c.map Lt.cv).length)), (26, .val (.i m)), (7, .val (.i m)), (8, .bp 8 0 []), (100008, .bx y.cw)]) ⟨rfl, by rw [hB]; rfl, rfl, rfl, rfl, rfl, rfl, rfl, rfl, rfl, rfl, rfl, rfl, rfl, trivial⟩) ?_
        -- what is left when nothing is told
        have hno : facN c x n m = [] → ∀ s : AS, SubL s [(0, .val (.lst (c.map Lt.cv))), (3, .own (.lst (B.map clC)) 200047), (200047, .tok 26 1), (10, .val (.lst (L.map CV.i))), (11, .val (.i (L.map CV.i).length)), (12, .val (.i k)), (5, .val (.i (n : Int))), (6, .val (.lst ((offL c n).map Lt.cv))), (24, .val (.lst (c.map Lt.cv))), (25, .val (.i (c.map Lt.cv).length)), (26, .val (.i ((m + 1 : Nat) : Int)))] → SubL s (st2 (m + 1)) := fun h s hs => by
          have e2 : A ++ facM c x n (m + 1) = B := by rw [hMs', h, List.append_nil]
          show SubL s [(0, .val (.lst (c.map Lt.cv))), (3, .own (.lst ((A ++ facM c x n (m + 1)).map clC)) 200047), (200047, .tok 26 1), (10, .val (.lst (L.map CV.i))), (11, .val (.i (L.map CV.i).length)), (12, .val (.i k)), (5, .val (.i (n : Int))), (6, .val (.lst ((offL c n).map Lt.cv))), (24, .val (.lst (c.map Lt.cv))), (25, .val (.i (c.map Lt.cv).length)), (26, .val (.i ((m + 1 : Nat) : Int)))]
          rw [e2]
          exact hs
        by_cases hmn : m = n
        · have g : decide ((m : Int) = (n : Int)) = true := decide_eq_true (by omega)
          have g2 : decide ((m : Int) ≠ (n : Int)) = false := decide_eq_false (by omega)
          refine aS (aR ?_)
          (refine nx (aM (gN rfl) rfl rfl rfl rfl rfl) rfl ?_)
          (refine nx (aM (gN rfl) rfl rfl rfl rfl rfl) rfl ?_)
          (refine nx (a_neq (gN rfl) rfl rfl rfl rfl rfl rfl) rfl ?_)
          (refine nx (aM (gN rfl) rfl rfl rfl rfl rfl) rfl ?_)
          (refine ⟨_, _, _, a_off (go_off rfl rfl rfl rfl (by first | rfl | assumption | (simp; done) | (simp [*]; done))) rfl rfl rfl, rfl, ?_⟩)
          (refine ⟨_, _, _, a_off (go_off rfl rfl rfl rfl (by first | rfl | assumption | (simp; done) | (simp [*]; done))) rfl rfl rfl, rfl, ?_⟩)
          (refine ⟨_, _, _, a_off (go_off rfl rfl rfl rfl (by first | rfl | assumption | (simp; done) | (simp [*]; done))) rfl rfl rfl, rfl, ?_⟩)
          (refine ⟨_, _, _, aPf (gN rfl) rfl rfl rfl rfl rfl ?hb rfl, rfl, ?_⟩; case hb => (first | rfl | assumption | (simp; done)))
          show AWp _ _ _ _ _ _ _
          refine aC rfl (fun h => by cases h) (fun _ => aK ?_)
          show AWp _ _ _ _ _ _ _
          refine aR ?_
          (refine nx (a_add (gN rfl) rfl rfl rfl rfl rfl rfl (by first | omega | (simp only [List.length_map, List.length_append, List.length_cons, List.length_nil] <;> omega) | (simp <;> omega))) rfl ?_)
          (refine nx (aM (gN rfl) rfl rfl rfl rfl rfl) rfl ?_)
          exact ⟨hml, wk_sub (hno (by rw [hfn, if_neg (fun h => h.1 hmn)]) _ ⟨rfl, rfl, rfl, rfl, rfl, rfl, rfl, rfl, rfl, rfl, rfl, trivial⟩)⟩
        · have g : decide ((m : Int) = (n : Int)) = false := decide_eq_false (by omega)
          have g2 : decide ((m : Int) ≠ (n : Int)) = true := decide_eq_true (by omega)
          refine aS (aR ?_)
          (refine nx (aM (gN rfl) rfl rfl rfl rfl rfl) rfl ?_)
          (refine nx (aM (gN rfl) rfl rfl rfl rfl rfl) rfl ?_)
          (refine nx (a_neq (gN rfl) rfl rfl rfl rfl rfl rfl) rfl ?_)
          (refine nx (aM (gN rfl) rfl rfl rfl rfl rfl) rfl ?_)
          (refine nx (aF (gd_on rfl rfl rfl rfl (by first | rfl | assumption | (simp; done))) rfl rfl rfl rfl rfl rfl rfl rfl rfl) rfl ?_)
          (refine nx (aLb (gd_on rfl rfl rfl rfl (by first | rfl | assumption | (simp; done))) rfl rfl rfl rfl rfl rfl rfl rfl rfl rfl rfl rfl) rfl ?_)
          (refine nx (a_not (gd_on rfl rfl rfl rfl (by first | rfl | assumption | (simp; done))) rfl rfl rfl rfl rfl) rfl ?_)
          (refine ⟨_, _, _, aPt (gN rfl) rfl rfl rfl rfl rfl ?hb rfl, rfl, ?_⟩; case hb => (first | rfl | assumption | (simp; done)))
          show AWp _ _ _ _ _ _ _
          refine aC rfl (fun hq => ?_) (fun hq => ?_)
          · have hq : (!y.neg) = true := hq
            have hyn : y.neg = false := by simpa using hq
            have e2 : A ++ facM c x n (m + 1) = B ++ facO (wayL x) y (offL c n) := by rw [hMs', hfn, if_pos ⟨hmn, hyn⟩]
            refine aD (by kernel_rfl) (by kernel_rfl) ?_
            (refine nx (aM (gN rfl) rfl rfl rfl rfl rfl) rfl ?_)
            (refine nx (aM (gN rfl) rfl rfl rfl rfl rfl) rfl ?_)
            (refine nx (aM (gN rfl) rfl rfl rfl rfl rfl) rfl ?_)
            (refine nx (a_index (j := n) (gN rfl) rfl rfl rfl rfl rfl rfl rfl rfl rfl (hx') rfl (hsz)) rfl ?_)
            (refine nx (a_load_ad (gN rfl) rfl rfl rfl rfl rfl rfl rfl rfl rfl) rfl ?_)
            (refine nx (aL (gN rfl) rfl rfl rfl rfl rfl rfl rfl rfl rfl rfl rfl rfl) rfl ?_)
            (refine nx (aM (gN rfl) rfl rfl rfl rfl rfl) rfl ?_)
            (refine nx (a_call (gN rfl) rfl rfl rfl rfl rfl (eFactors_abs w x y (offL c n) hxt hyt (ten_off hc n) (by omega))) rfl ?_)
            (refine nx (a_app (gN rfl) rfl rfl rfl rfl rfl rfl rfl rfl rfl rfl rfl rfl rfl rfl rfl (by first | assumption | exact sZ rfl | exact Tm.size_all _ | exact Bd.size_all _ | exact ints_size _ | exact bys_size _ | exact Lt.size_all _) (by first | assumption | exact sZ rfl | exact Tm.size_all _ | exact Bd.size_all _ | exact ints_size _ | exact bys_size _ | exact Lt.size_all _) (by first | omega | (simp only [List.length_map, List.length_append, List.length_cons, List.length_nil] <;> omega) | (simp <;> omega))) rfl ?_)
            (refine nx (aA (gN rfl) rfl rfl rfl rfl rfl) rfl ?_)
            refine ⟨by kernel_rfl, ?_⟩
            show AWp _ _ _ _ _ _ _
            refine aR ?_
            (refine nx (a_add (gN rfl) rfl rfl rfl rfl rfl rfl (by first | omega | (simp only [List.length_map, List.length_append, List.length_cons, List.length_nil] <;> omega) | (simp <;> omega))) rfl ?_)
            (refine nx (aM (gN rfl) rfl rfl rfl rfl rfl) rfl ?_)
            refine ⟨hml, (wk_sub (s' := [(0, .val (.lst (c.map Lt.cv))), (3, .own (.lst ((A ++ facM c x n (m + 1)).map clC)) 300047), (300047, .tok 26 1), (10, .val (.lst (L.map CV.i))), (11, .val (.i (L.map CV.i).length)), (12, .val (.i k)), (5, .val (.i (n : Int))), (6, .val (.lst ((offL c n).map Lt.cv))), (24, .val (.lst (c.map Lt.cv))), (25, .val (.i (c.map Lt.cv).length)), (26, .val (.i ((m + 1 : Nat) : Int)))]) ⟨rfl, ?_, rfl, rfl, rfl, rfl, rfl, rfl, rfl, rfl, rfl, trivial⟩).trans (wk_ren 300047 200047 rfl rfl rfl rfl)⟩
            show some (AV.own (.lst _) _) = some (AV.own (.lst _) _)
            rw [e2, List.map_append (f := clC)]
          · have hq : (!y.neg) = false := hq
            have hyn : y.neg = true := by simpa using hq
            refine aK ?_
            show AWp _ _ _ _ _ _ _
            refine aR ?_
            (refine nx (a_add (gN rfl) rfl rfl rfl rfl rfl rfl (by first | omega | (simp only [List.length_map, List.length_append, List.length_cons, List.length_nil] <;> omega) | (simp <;> omega))) rfl ?_)
            (refine nx (aM (gN rfl) rfl rfl rfl rfl rfl) rfl ?_)
            exact ⟨hml, wk_sub (hno (by rw [hfn, if_neg (fun h => by rw [hyn] at h; cases h.2)]) _ ⟨rfl, rfl, rfl, rfl, rfl, rfl, rfl, rfl, rfl, rfl, rfl, trivial⟩)⟩
      · have hml : m = c.length := by
          have : ¬ m < c.length := by simpa using hlt2
          omega
        subst hml
        refine aE ?_
        show AWp _ _ _ _ _ _ _
        refine aR ?_
        (refine nx (a_add (gN rfl) rfl rfl rfl rfl rfl rfl (by first | omega | (simp only [List.length_map, List.length_append, List.length_cons, List.length_nil] <;> omega) | (simp <;> omega))) rfl ?_)
        (refine nx (aM (gN rfl) rfl rfl rfl rfl rfl) rfl ?_)
        refine ⟨hkl, wk_sub ⟨rfl, ?_, rfl, rfl, rfl, rfl, trivial⟩⟩
        rw [e]; rfl
  · have hkl : k = L.length := by
      have : ¬ k < L.length := by simpa using hlt
      omega
    subst hkl
    refine aE ?_
    show AWp _ _ _ _ _ _ _
    refine aS (aR ?_)
    (refine nx (aM (gN rfl) rfl rfl rfl rfl rfl) rfl ?_)
    (refine nx (aA (gN rfl) rfl rfl rfl rfl rfl) rfl ?_)
    show AWp _ _ _ _ _ _ _
    exact aT (And.intro (.inr rfl) rfl)
def DocU (a b : Tm) (d : List Bd) : Prop := (∀ W, AFun Tryz.prog W 30 [.lst [a.cw], .lst [b.cw]] (.tup [.lst (d.map Bd.cv), .b (mgT a b).2])) ∧ d.length ≤ 1000000 ∧ (∀ x ∈ d, x.t.rng ∧ x.t.ok) ∧ d.map Bd.strip = (mgT a b).1.map Bd.strip
noncomputable def dT (a b : Tm) : List Bd := open Classical in if h : ∃ d, DocU a b d then Classical.choose h else []
def offD (c : List Lt) (i : Int) (k : Nat) : List Lt := (List.range k).filterMap fun j : Nat => if (j : Int) = i then none else c[j]?
noncomputable def resDi (c : List Lt) (i : Nat) : Option (List Lt) := match c[i]? with
  | some x => if x.neg = true ∧ (mgT x.a x.b).2 = true ∧ (i : Int) ∈ lokL c then some ((offL c i).map (appL (dT x.a x.b))) else none
  | none => none
noncomputable def resD (c : List Lt) (k : Nat) : List (List Lt) := (List.range k).filterMap (resDi c)
def sdT (l : Lt) (n : Nat) : Tm := if n = 0 then l.a else l.b
noncomputable def facDi (c : List Lt) (i j p q : Nat) : Option (List Lt) := match c[i]?, c[j]? with
  | some x, some y =>
    if i = j ∨ x.neg = true ∨ y.neg = true ∨ (i : Int) ∉ lokL c then none
    else if (mgT (sdT x p) (sdT y q)).2 = true ∧ leadB (repT (mgS (sdT x p) (sdT y q)) (sdT x p)) (repT (mgS (sdT x p) (sdT y q)) (sdT x (1 - p))) = true then some ((offL c i ++ [(⟨true, sdT x (1 - p), sdT y (1 - q)⟩ : Lt)]).map (appL (dT (sdT x p) (sdT y q))))
    else none
  | _, _ => none
noncomputable def facDn (c : List Lt) (N : Nat) : Option (List Lt) := facDi c (N / 4 / c.length) (N / 4 % c.length) (N / 2 % 2) (N % 2)
noncomputable def facD (c : List Lt) (k : Nat) : List (List Lt) := (List.range k).filterMap (facDn c)
def stC (L : List (List Lt)) : List (List Lt) := L.map (List.map Lt.strip)
theorem img_var {L : List Bd} (h : ∀ b ∈ L, ∃ u, b.t = varT u) (v : Int) : ∃ u, imgB L v = varT u := by
  unfold imgB
  cases hf : findB L v with
  | none => exact ⟨v, rfl⟩
  | some t =>
    have : ∃ b ∈ L, b.t = t := by
      clear h
      induction L with
      | nil => cases hf
      | cons b L ih =>
        unfold findB at hf
        split at hf
        · exact ⟨b, by simp, by injection hf⟩
        · obtain ⟨x, hx, e⟩ := ih hf
          exact ⟨x, List.mem_cons_of_mem _ hx, e⟩
    obtain ⟨b, hb, rfl⟩ := this
    obtain ⟨u, e⟩ := h b hb
    exact ⟨u, e⟩
theorem rep_size1 {img : Int → Tm} (h : ∀ v, ∃ u, img v = varT u) (t : Tm) : (repT img t).size = t.size := by
  have := repT_size img t
  have e : (t.vs.map fun v => (((img v).size : Nat) : Int) - 1).sum = 0 := by
    generalize t.vs = l
    induction l with
    | nil => rfl
    | cons v l ih =>
      obtain ⟨u, hu⟩ := h v
      rw [List.map_cons, List.sum_cons, ih, hu, varT_size]; rfl
  rw [e] at this
  omega
theorem okCl.rep {c : List Lt} (hn : okCl c) {L : List Bd} (hL : ∀ b ∈ L, ∃ u, b.t = varT u ∧ 0 ≤ u ∧ u ≤ 24001) : okCl (c.map (Lt.rep (imgB L))) := by
  refine ⟨by rw [List.length_map]; exact hn.1, fun l hl => ?_⟩
  obtain ⟨x, hx, rfl⟩ := List.mem_map.1 hl
  have hv : ∀ v, ∃ u, imgB L v = varT u := img_var fun b hb => by obtain ⟨u, e, _⟩ := hL b hb; exact ⟨u, e⟩
  have hb : bdsOk L := fun b hb => by
    obtain ⟨u, e, h1, h2⟩ := hL b hb
    rw [e]
    exact ⟨varT_rng h1 (by omega), by rw [varT_size]; omega⟩
  have key : ∀ t : Tm, (t.rng ∧ t.ok ∧ t.size ≤ 1000) → ((repT (imgB L) t).rng ∧ (repT (imgB L) t).ok ∧ (repT (imgB L) t).size ≤ 1000) := fun t ht => by
    refine ⟨repT_rng ht.1 fun v h1 h2 => (imgB_ok hb h1 h2).1, repT_ok ht.2.1 fun v => ?_, by rw [rep_size1 hv]; exact ht.2.2⟩
    obtain ⟨u, hu⟩ := hv v
    rw [hu]
    exact varT_ok u
  exact ⟨key _ (hn.2 x hx).1, key _ (hn.2 x hx).2⟩
def snL (c : List Lt) : List Sn := c.map fun l => trnS l (lkL l)
end Go.Proofs.YtglmoficcjphaaaGreat
namespace Go.Proofs.YtglmoficcjphaaaGreat
open Go.RowKit
set_option linter.unusedVariables false
set_option linter.unusedSimpArgs false
def alk (x y : Lt) : Prop := (x.a.strip = y.a.strip ∧ x.b.strip = y.b.strip) ∨ (x.a.strip = y.b.strip ∧ x.b.strip = y.a.strip)
def TautQ (c : List Lt) : Prop := (∃ l ∈ c, l.neg = false ∧ l.a.strip = l.b.strip) ∨ ∃ x ∈ c, ∃ y ∈ c, x.neg ≠ y.neg ∧ alk x y
def ttD1 (x y : Lt) : Bool := (x.neg && !y.neg) && (sameL x ⟨true, y.a, y.b⟩ || sameL x ⟨true, y.b, y.a⟩)
def ttD (c : List Lt) : Bool := c.any fun x => (!x.neg && sameT x.a x.b) || c.any (ttD1 x)
theorem TautQ.rep {c : List Lt} (h : TautQ c) (img : Int → Tm) : TautQ (c.map (Lt.rep img)) := by
  have key : ∀ s t : Tm, s.strip = t.strip → (repT img s).strip = (repT img t).strip := fun s t e => by
    rw [← rep_strip img s, ← rep_strip img t, e]
  rcases h with ⟨l, hl, hn, he⟩ | ⟨x, hx, y, hy, hn, he⟩
  · exact .inl ⟨_, List.mem_map_of_mem hl, hn, key _ _ he⟩
  · refine .inr ⟨_, List.mem_map_of_mem hx, _, List.mem_map_of_mem hy, hn, ?_⟩
    rcases he with ⟨p, q⟩ | ⟨p, q⟩
    · exact .inl ⟨key _ _ p, key _ _ q⟩
    · exact .inr ⟨key _ _ p, key _ _ q⟩
end Go.Proofs.YtglmoficcjphaaaGreat
namespace Go.Proofs.YtglmoficcjphaaaGreat
open Go.RowKit
set_option linter.unusedVariables false
set_option linter.unusedSimpArgs false
set_option maxRecDepth 100000
def blkT (t : Tm) : Tm := appR (zipB t.nv ((nums t.nv.length).map fun _ => 0)) t
def okL (l : Lt) : Prop := (l.a.rng ∧ l.a.ok ∧ l.a.size ≤ 1000) ∧ (l.b.rng ∧ l.b.ok ∧ l.b.size ≤ 1000)

end Go.Proofs.YtglmoficcjphaaaGreat
namespace Go.Proofs.YtglmoficcjphaaaGreat
open Go.RowKit
set_option linter.unusedVariables false
set_option linter.unusedSimpArgs false
abbrev sv (l : List UInt8) : CV := .sc (.string ⟨l.toArray⟩)
section
variable {P : Program} {w0 : World} {U0 : UX} {nt : Nat} {ops : Array Oper} {o : Oper} {S : Nat → Option AV} {gs : List Nat} {d : Nat}
end
section
variable {P : Program} {w0 : World} {U0 : UX} {nt : Nat} {ops : Array Oper} {o : Oper} {S : Nat → Option AV} {gs : List Nat} {d : Nat}
end
end Go.Proofs.YtglmoficcjphaaaGreat
namespace Go.Proofs.YtglmoficcjphaaaGreat
open Go.RowKit
set_option linter.unusedVariables false
set_option linter.unusedSimpArgs false
set_option maxRecDepth 100000
theorem clC_at {A : List (List Lt)} {k : Nat} {x : List Lt} (h : A[k]? = some x) : (A.map clC)[k]? = some (.lst (x.map Lt.cv)) := by rw [List.getElem?_map, h]; rfl

def fa5 : Tm := ⟨2, [⟨1, []⟩]⟩
def vx5 : Tm := ⟨-1, []⟩
def px5 : Tm := ⟨3, [⟨-1, []⟩]⟩
def tt5 : Tm := ⟨0, []⟩
def cl5 : List Lt := [⟨true, vx5, fa5⟩, ⟨false, px5, tt5⟩]
theorem ten5 {t : Tm} (h1 : t.rng) (h2 : t.ok) (h3 : t.size ≤ 10) : t.ten := ⟨⟨h1, h2⟩, h3⟩
theorem fa5_ten : fa5.ten := ten5 (by simp [fa5, Tm.rng]) (by simp [fa5, Tm.ok]) (by simp [fa5, Tm.size, Tm.flat])
theorem vx5_ten : vx5.ten := ten5 (by simp [vx5, Tm.rng]) (by simp [vx5, Tm.ok]) (by simp [vx5, Tm.size, Tm.flat])
theorem px5_ten : px5.ten := ten5 (by simp [px5, Tm.rng]) (by simp [px5, Tm.ok]) (by simp [px5, Tm.size, Tm.flat])
theorem tt5_ten : tt5.ten := ten5 (by simp [tt5, Tm.rng]) (by simp [tt5, Tm.ok]) (by simp [tt5, Tm.size, Tm.flat])
theorem cl5_ten : ∀ l ∈ cl5, l.ten := fun l hl => by
  simp only [cl5, List.mem_cons, List.not_mem_nil, or_false] at hl
  rcases hl with rfl | rfl
  · exact ⟨vx5_ten, fa5_ten⟩
  · exact ⟨px5_ten, tt5_ten⟩
theorem mg5 : (mgT vx5 fa5).2 = true ∧ mgS vx5 fa5 0 = fa5 := by
  have hT := mg_told vx5_ten fa5_ten
  have hfr : ∀ σ : Int → Tm, repT σ fa5 = fa5 := fun σ => by simp [fa5, repT]
  have hvr : ∀ σ : Int → Tm, repT σ vx5 = (σ 0).strip := fun σ => by simp [vx5, repT]
  have hfs : fa5.strip = fa5 := by simp [fa5, Tm.strip]
  have h2 : (mgT vx5 fa5).2 = true := by
    cases h : (mgT vx5 fa5).2 with
    | true => rfl
    | false =>
      exfalso
      refine (hT.no h).2 (fun _ => fa5) ?_
      rw [uni_one, hfr, hvr, hfs]
  refine ⟨h2, ?_⟩
  have hm := hT.yes h2
  have hu := hm.uni
  rw [uni_one, hfr, hvr, hm.bare 0 (by omega)] at hu
  exact hu
theorem hv5 : lokL cl5 = [0] := by
  have h : hvK cl5 2 = (0, wtL ⟨true, vx5, fa5⟩) := by
    have h1 : hvK cl5 1 = (0, wtL ⟨true, vx5, fa5⟩) := by
      unfold hvK
      show (if (⟨true, vx5, fa5⟩ : Lt).neg = true ∧ (hvK cl5 0).2 < wtL ⟨true, vx5, fa5⟩ then _ else _) = _
      rw [if_pos ⟨rfl, wtL_pos _⟩]; rfl
    unfold hvK
    show (if (⟨false, px5, tt5⟩ : Lt).neg = true ∧ _ then _ else hvK cl5 1) = _
    rw [if_neg (by intro h; cases h.1), h1]
  unfold lokL
  show (if (hvK cl5 2).1 ≥ 0 then _ else _) = _
  rw [h, if_pos (by decide)]
  show [(hvK cl5 2).1] = [0]
  rw [h]
theorem res5 : resA1 cl5 = [[⟨false, ⟨3, [fa5]⟩, tt5⟩]] := by
  obtain ⟨h1, h2⟩ := mg5
  unfold resA1
  rw [hv5]
  have h3 : resC cl5 (0 : Int).toNat = some [⟨false, ⟨3, [fa5]⟩, tt5⟩] := by
    unfold resC
    show (if (⟨true, vx5, fa5⟩ : Lt).neg = true ∧ (mgT vx5 fa5).2 = true then some ((offL cl5 0).map (Lt.rep (mgS vx5 fa5))) else none) = _
    rw [if_pos ⟨rfl, h1⟩]
    have e : offL cl5 0 = [⟨false, px5, tt5⟩] := rfl
    rw [e]
    have e2 : repT (mgS vx5 fa5) px5 = ⟨3, [fa5]⟩ := by
      simp [px5, repT, h2]
      simp [fa5, Tm.strip]
    have e3 : repT (mgS vx5 fa5) tt5 = tt5 := by simp [tt5, repT]
    simp only [List.map_cons, List.map_nil, Lt.rep, e2, e3]
  rw [List.filterMap_cons]
  simp only [h3]
  rfl
-- 
set_option maxHeartbeats 2000000 in
theorem alive15_abs (W : World) : AFun Tryz.prog W 7 [] (.val (.b true)) := by
  have hR := fun w => eRes_abs w cl5 (by simp [cl5]) cl5_ten
  rw [res5] at hR
  have hc5 : cl5.map Lt.cv = [.row [.b true, .row [.i (-1), .lst []], .row [.i 2, .lst [.row [.i 1, .lst []]]]], .row [.b false, .row [.i 3, .lst [.row [.i (-1), .lst []]]], .row [.i 0, .lst []]]] := by simp [cl5, vx5, fa5, px5, tt5, Lt.cv, Tm.cv_eq]
  have hr5 : ([[⟨false, ⟨3, [fa5]⟩, tt5⟩]] : List (List Lt)).map clC = [.lst [.row [.b false, .row [.i 3, .lst [.row [.i 2, .lst [.row [.i 1, .lst []]]]]], .row [.i 0, .lst []]]]] := by simp [clC, fa5, tt5, Lt.cv, Tm.cv_eq]
  rw [hc5, hr5] at hR
  refine afun_of (rs := [.b true]) Tryz.func7 Tryz.ntmps7 rfl rfl rfl rfl ?_
  intro w U hW
  refine aS (aR ?_)
  (refine nx (aA (gN rfl) rfl rfl rfl rfl rfl) rfl ?_)
  show AWp _ _ _ _ _ _ _
  refine aS (aR ?_)
  (refine nx (a_buildP (gN rfl) rfl rfl rfl rfl rfl rfl rfl rfl rfl rfl rfl) rfl ?_)
  (refine nx (a_bslice (gN rfl) rfl rfl rfl rfl rfl rfl rfl rfl rfl rfl rfl rfl rfl) rfl ?_)
  (refine nx (a_build (gN rfl) rfl rfl rfl rfl rfl rfl rfl rfl rfl rfl rfl) rfl ?_)
  (refine nx (a_alloc (gN rfl) rfl rfl rfl rfl rfl rfl rfl rfl rfl rfl) rfl ?_)
  (refine nx (aSt (gN rfl) rfl rfl rfl rfl rfl rfl rfl rfl rfl rfl) rfl ?_)
  show AWp _ _ _ _ _ _ _
  refine aS (aR ?_)
  (refine nx (a_buildP (gN rfl) rfl rfl rfl rfl rfl rfl rfl rfl rfl rfl rfl) rfl ?_)
  (refine nx (aL (gN rfl) rfl rfl rfl rfl rfl rfl rfl rfl rfl rfl rfl rfl) rfl ?_)
  (refine nx (a_buildT ltZ3 (gN rfl) rfl rfl rfl rfl rfl rfl rfl rfl rfl rfl rfl) rfl ?_)
  (refine nx (a_buildP (gN rfl) rfl rfl rfl rfl rfl rfl rfl rfl rfl rfl rfl) rfl ?_)
  (refine nx (a_bslice (gN rfl) rfl rfl rfl rfl rfl rfl rfl rfl rfl rfl rfl rfl rfl) rfl ?_)
  (refine nx (a_buildT [.i 0, .lst []] (gN rfl) rfl rfl rfl rfl rfl rfl rfl rfl rfl rfl rfl) rfl ?_)
  (refine nx (a_buildT ltZ3 (gN rfl) rfl rfl rfl rfl rfl rfl rfl rfl rfl rfl rfl) rfl ?_)
  (refine nx (a_bslice (gN rfl) rfl rfl rfl rfl rfl rfl rfl rfl rfl rfl rfl rfl rfl) rfl ?_)
  (refine nx (a_call (gN rfl) rfl rfl rfl rfl rfl (hR w)) rfl ?_)
  (refine nx (aA (gN rfl) rfl rfl rfl rfl rfl) rfl ?_)
  show AWp _ _ _ _ _ _ _
  refine aS (aR ?_)
  (refine nx (aM (gN rfl) rfl rfl rfl rfl rfl) rfl ?_)
  (refine nx (a_len (gN rfl) rfl rfl rfl rfl rfl rfl rfl) rfl ?_)
  (refine nx (a_eql (gN rfl) rfl rfl rfl rfl rfl rfl) rfl ?_)
  (refine nx (aM (gN rfl) rfl rfl rfl rfl rfl) rfl ?_)
  (refine nx (aM (gd_on rfl rfl rfl rfl (by first | rfl | assumption | (simp; done))) rfl rfl rfl rfl rfl) rfl ?_)
  (refine nx (a_index (j := 0) (gd_on rfl rfl rfl rfl (by first | rfl | assumption | (simp; done))) rfl rfl rfl rfl rfl rfl rfl rfl rfl (rfl) rfl (sZ rfl)) rfl ?_)
  (refine nx (a_load_ad (gd_on rfl rfl rfl rfl (by first | rfl | assumption | (simp; done))) rfl rfl rfl rfl rfl rfl rfl rfl rfl) rfl ?_)
  (refine nx (a_len (gd_on rfl rfl rfl rfl (by first | rfl | assumption | (simp; done))) rfl rfl rfl rfl rfl rfl rfl) rfl ?_)
  (refine nx (a_eql (gd_on rfl rfl rfl rfl (by first | rfl | assumption | (simp; done))) rfl rfl rfl rfl rfl rfl) rfl ?_)
  (refine ⟨_, _, _, aPt (gN rfl) rfl rfl rfl rfl rfl ?hb rfl, rfl, ?_⟩; case hb => (first | rfl | assumption | (simp; done)))
  (refine nx (aM (gN rfl) rfl rfl rfl rfl rfl) rfl ?_)
  (refine nx (aM (gd_on rfl rfl rfl rfl (by first | rfl | assumption | (simp; done))) rfl rfl rfl rfl rfl) rfl ?_)
  (refine nx (a_index (j := 0) (gd_on rfl rfl rfl rfl (by first | rfl | assumption | (simp; done))) rfl rfl rfl rfl rfl rfl rfl rfl rfl (rfl) rfl (sZ rfl)) rfl ?_)
  (refine nx (a_load_ad (gd_on rfl rfl rfl rfl (by first | rfl | assumption | (simp; done))) rfl rfl rfl rfl rfl rfl rfl rfl rfl) rfl ?_)
  (refine nx (a_index (j := 0) (gd_on rfl rfl rfl rfl (by first | rfl | assumption | (simp; done))) rfl rfl rfl rfl rfl rfl rfl rfl rfl (rfl) rfl (sZ rfl)) rfl ?_)
  (refine nx (a_field_ad (gd_on rfl rfl rfl rfl (by first | rfl | assumption | (simp; done))) rfl rfl rfl rfl rfl rfl rfl rfl rfl rfl rfl) rfl ?_)
  (refine nx (a_field_ad (gd_on rfl rfl rfl rfl (by first | rfl | assumption | (simp; done))) rfl rfl rfl rfl rfl rfl rfl rfl rfl rfl rfl) rfl ?_)
  (refine nx (a_load_ad (gd_on rfl rfl rfl rfl (by first | rfl | assumption | (simp; done))) rfl rfl rfl rfl rfl rfl rfl rfl rfl) rfl ?_)
  (refine nx (a_index (j := 0) (gd_on rfl rfl rfl rfl (by first | rfl | assumption | (simp; done))) rfl rfl rfl rfl rfl rfl rfl rfl rfl (rfl) rfl (sZ rfl)) rfl ?_)
  (refine nx (a_field_ad (gd_on rfl rfl rfl rfl (by first | rfl | assumption | (simp; done))) rfl rfl rfl rfl rfl rfl rfl rfl rfl rfl rfl) rfl ?_)
  (refine nx (a_load_ad (gd_on rfl rfl rfl rfl (by first | rfl | assumption | (simp; done))) rfl rfl rfl rfl rfl rfl rfl rfl rfl) rfl ?_)
  (refine nx (a_eql (gd_on rfl rfl rfl rfl (by first | rfl | assumption | (simp; done))) rfl rfl rfl rfl rfl rfl) rfl ?_)
  (refine ⟨_, _, _, aPt (gN rfl) rfl rfl rfl rfl rfl ?hb rfl, rfl, ?_⟩; case hb => (first | rfl | assumption | (simp; done)))
  (refine nx (aA (gN rfl) rfl rfl rfl rfl rfl) rfl ?_)
  show AWp _ _ _ _ _ _ _
  exact aT (And.intro (.inr rfl) rfl)
theorem fine_ten {c : List Lt} {most : Nat} {size : Int} (h0 : 0 ≤ size) (h1 : size ≤ 10) (h : fineC c most size = true) : c.length ≤ most ∧ ∀ l ∈ c, l.ten := by
  obtain ⟨h2, h3⟩ := fineC_facts h0 (by omega) h
  refine ⟨h2, fun l hl => ?_⟩
  obtain ⟨⟨⟨_, a1, a2⟩, _, a3⟩, ⟨⟨_, b1, b2⟩, _, b3⟩⟩ := h3 l hl
  exact ⟨⟨⟨a1, a2⟩, by omega⟩, ⟨b1, b2⟩, by omega⟩
def Tm.big5 (t : Tm) : Prop := t.rng ∧ t.ok ∧ t.size ≤ 29550
def Lt.big5 (l : Lt) : Prop := l.a.big5 ∧ l.b.big5
theorem rep_big5 {a b : Tm} (ha : a.ten) (hb : b.ten) {c : List Lt} (hc : ∀ l ∈ c, l.ten) : ∀ l ∈ c.map (Lt.rep (mgS a b)), l.big5 := fun l hl => by
  obtain ⟨x, hx, rfl⟩ := List.mem_map.1 hl
  exact ⟨mg_rep ha hb (hc x hx).1, mg_rep ha hb (hc x hx).2⟩
theorem res_mem {c d : List Lt} (h : d ∈ resA1 c) : ∃ n x, n < c.length ∧ (n : Int) ∈ lokL c ∧ c[n]? = some x ∧ x.neg = true ∧ (mgT x.a x.b).2 = true ∧ d = (offL c n).map (Lt.rep (mgS x.a x.b)) := by
  obtain ⟨z, hz, he⟩ := List.mem_filterMap.1 h
  obtain ⟨h0, h1⟩ := lok_at hz
  unfold resC at he
  split at he
  · rename_i x hx
    split at he
    · rename_i hg
      exact ⟨z.toNat, x, by omega, by rw [Int.toNat_of_nonneg h0]; exact hz, hx, hg.1, hg.2, (Option.some.inj he).symm⟩
    · cases he
  · cases he
theorem res_fit {c d : List Lt} (hc : ∀ l ∈ c, l.ten) (h : d ∈ resA1 c) : d.length + 1 = c.length ∧ ∀ l ∈ d, l.big5 := by
  obtain ⟨n, x, hn, _, hx, _, _, rfl⟩ := res_mem h
  have hxt := hc x (List.mem_of_getElem? hx)
  exact ⟨by rw [List.length_map]; exact offL_len hn, rep_big5 hxt.1 hxt.2 (ten_off hc n)⟩
theorem fac_mem {c d : List Lt} (hc : ∀ l ∈ c, l.ten) (h : d ∈ facA c) : ∃ (n : Nat) (p q : Tm × Tm), n < c.length ∧ (p.1.ten ∧ p.2.ten) ∧ (q.1.ten ∧ q.2.ten) ∧ (mgT p.1 q.1).2 = true ∧ d = (offL c n ++ [(⟨true, p.2, q.2⟩ : Lt)]).map (Lt.rep (mgS p.1 q.1)) := by
  obtain ⟨z, hz, he⟩ := List.mem_flatMap.1 h
  obtain ⟨h0, h1⟩ := lok_at hz
  unfold facL at he
  split at he
  · rename_i x hx
    split at he
    · cases he
    · obtain ⟨m, hm, he⟩ := List.mem_flatMap.1 he
      unfold facN at he
      split at he
      · rename_i y hy
        split at he
        · obtain ⟨p, hp, he⟩ := List.mem_flatMap.1 he
          obtain ⟨q, hq, he⟩ := List.mem_filterMap.1 he
          unfold facC at he
          split at he
          · rename_i hg
            exact ⟨z.toNat, p, q, by omega, way_ten (hc x (List.mem_of_getElem? hx)) p hp, way_ten (hc y (List.mem_of_getElem? hy)) q hq, hg.1, (Option.some.inj he).symm⟩
          · cases he
        · cases he
      · cases he
  · cases he
theorem fac_fit {c d : List Lt} (hc : ∀ l ∈ c, l.ten) (h : d ∈ facA c) : d.length = c.length ∧ (∀ l ∈ d, l.big5) ∧ ∃ l, d[c.length - 1]? = some l ∧ l.neg = true := by
  obtain ⟨n, p, q, hn, hp, hq, _, rfl⟩ := fac_mem hc h
  have hol := offL_len hn
  refine ⟨by rw [List.length_map, List.length_append]; simp; omega, rep_big5 hp.1 hq.1 fun l hl => ?_, Lt.rep (mgS p.1 q.1) ⟨true, p.2, q.2⟩, ?_, rfl⟩
  · rcases List.mem_append.1 hl with h | h
    · exact ten_off hc n l h
    · rw [List.mem_singleton] at h; subst h; exact ⟨hp.2, hq.2⟩
  · rw [List.getElem?_map, List.getElem?_append_right (by omega), show c.length - 1 - (offL c n).length = 0 by omega]
    rfl
theorem fac_len (c : List Lt) : (facA c).length ≤ 4 * c.length * (c.length + 1) := by
  have h : facA c = facK c (lokL c) (lokL c).length := by unfold facA facK; rw [List.take_length]
  rw [h]
  exact Nat.le_trans (facK_len c _ _) (Nat.mul_le_mul_left _ (lok_len c))
end Go.Proofs.YtglmoficcjphaaaGreat
namespace Go.Proofs.YtglmoficcjphaaaGreat
set_option linter.unusedVariables false
def bindM (L : List Bd) (v : Int) (t : Tm) : Bool × List Bd :=
  match findB L v with
  | some u => (sameT u t, L)
  | none => (true, L ++ [⟨v, t⟩])

def pairM (r : Bool × List Bd) (k : List Bd → Bool × List Bd) : Bool × List Bd := match r with
  | (true, L) => k L
  | (false, L) => (false, L)
noncomputable def mt (p : Tm) : Tm → List Bd → Bool × List Bd :=
  Tm.rec (motive_1 := fun _ => Tm → List Bd → Bool × List Bd) (motive_2 := fun _ => List Tm → List Bd → Bool × List Bd)
    (fun f l ih t L => if f < 0 then bindM L (-1 - f) t else if f ≠ t.f ∨ l.length ≠ t.l.length then (false, L) else ih t.l L)
    (fun _ L => (true, L))
    (fun _ _ ih1 ih2 ts L => match ts with | [] => (true, L) | t :: ts => pairM (ih1 t L) (ih2 ts)) p
noncomputable def mts (ps : List Tm) : List Tm → List Bd → Bool × List Bd :=
  Tm.rec_1 (motive_1 := fun _ => Tm → List Bd → Bool × List Bd) (motive_2 := fun _ => List Tm → List Bd → Bool × List Bd)
    (fun f l ih t L => if f < 0 then bindM L (-1 - f) t else if f ≠ t.f ∨ l.length ≠ t.l.length then (false, L) else ih t.l L)
    (fun _ L => (true, L))
    (fun _ _ ih1 ih2 ts L => match ts with | [] => (true, L) | t :: ts => pairM (ih1 t L) (ih2 ts)) ps
def Grw (L L' : List Bd) (n : Nat) : Prop := ∃ N, L' = L ++ N ∧ N.length ≤ n
theorem findB_app (L N : List Bd) (v : Int) : findB (L ++ N) v = (findB L v).or (findB N v) := by
  induction L with
  | nil => simp [findB]
  | cons b L ih =>
    rw [List.cons_append, findB, findB]
    split
    · rfl
    · exact ih
def Ext (L : List Bd) (M : Int → Tm) : Prop := ∀ v u, findB L v = some u → (M v).strip = u.strip
theorem tm_eq {f g : Int} {l m : List Tm} (h : (⟨f, l⟩ : Tm) = ⟨g, m⟩) : f = g ∧ l = m := by cases h; exact ⟨rfl, rfl⟩
theorem Grw.some {L L' : List Bd} {n : Nat} (h : Grw L L' n) {v : Int} (hv : (findB L v).isSome) : findB L' v = findB L v := by
  obtain ⟨N, e, _⟩ := h
  obtain ⟨u, hu⟩ := Option.isSome_iff_exists.1 hv
  rw [e, findB_app, hu]; rfl
theorem rep_inj {f g : Int → Tm} {t : Tm} (h : repT f t = repT g t) : ∀ v ∈ t.vs, (f v).strip = (g v).strip := by
  induction t using Tm.ind with
  | h k l ih =>
    intro v hv
    by_cases hk : k < 0
    · rw [repT_var hk, repT_var hk] at h
      rw [Tm.vs_var hk, List.mem_singleton] at hv
      rw [hv]; exact h
    · rw [repT_sym hk, repT_sym hk] at h
      obtain ⟨_, h2⟩ := tm_eq h
      rw [Tm.vs_sym hk, List.mem_flatMap] at hv
      obtain ⟨s, hs, hvs⟩ := hv
      exact ih s hs (List.map_inj_left.1 h2 s hs) v hvs
theorem vntB_strip (a b : Tm) : vntB a b.strip = vntB a b := by
  unfold vntB Tm.nv
  rw [Tm.strip_vs, Bool.eq_iff_iff, Bool.and_eq_true, Bool.and_eq_true, sameT_iff, sameT_iff, Tm.strip_strip]
theorem both_vnt {x y : Tm} {σ τ : Int → Tm} (h1 : repT σ x = y.strip) (h2 : repT τ y = x.strip) : vntB x y = true := by
  have h3 : repT (fun v => repT τ (σ v)) x = repT varT x := by rw [← rep_two, h1, rep_strip, h2, rep_id]
  have h4 := rep_inj h3
  have h5 : ∀ v ∈ x.vs, (σ v).f < 0 ∧ (τ (-1 - (σ v).f)).strip = varT v := fun v hv => by
    have h6 := h4 v hv
    rw [rep_bare, varT_strip] at h6
    have h0 := vs_nonneg x v hv
    by_cases hf : (σ v).f < 0
    · rw [repT_var hf] at h6
      exact ⟨hf, h6⟩
    · rw [repT_sym hf] at h6
      have := congrArg Tm.f h6
      have e : (σ v).f = -1 - v := this
      omega
  have h7 : y.strip = repT (fun v => varT (-1 - (σ v).f)) x := by
    rw [← h1]
    refine rep_congrS fun v hv => ?_
    rw [varT_strip, Tm.strip_eq, Tm.ps_of_var (h5 v hv).1]
    show (⟨(σ v).f, []⟩ : Tm) = ⟨-1 - (-1 - (σ v).f), []⟩
    rw [show -1 - (-1 - (σ v).f) = (σ v).f by omega]
  rw [← vntB_strip, h7]
  refine vnt_ren x _ (fun v hv => ?_) fun a ha b hb e => ?_
  · have := (h5 v hv).1; omega
  · have e1 := (h5 a ha).2
    have e2 := (h5 b hb).2
    rw [e, e2] at e1
    have := congrArg Tm.f e1
    have e3 : -1 - b = -1 - a := this
    omega
end Go.Proofs.YtglmoficcjphaaaGreat
namespace Go.Proofs.YtglmoficcjphaaaGreat
open Go.RowKit
set_option linter.unusedVariables false
set_option linter.unusedSimpArgs false
set_option maxRecDepth 100000
abbrev shV (n : Int) : Int → Tm := fun v => varT (v + n)
theorem sh_two (τ : Int → Tm) {n : Int} (hn : 0 ≤ n) (t : Tm) : repT τ (repT (shV n) t) = repT (fun v => τ (v + n)) t :=
  rep_comp τ (fun v => v + n) fun v hv => by have := vs_nonneg t v hv; omega
theorem sh_down (τ : Int → Tm) {n : Int} (hn : 0 ≤ n) (t : Tm) : repT (fun v => τ (v - n)) (repT (shV n) t) = repT τ t := by
  rw [sh_two _ hn]
  exact rep_congr fun v _ => by show τ (v + n - n) = τ v; rw [show v + n - n = v by omega]
theorem sh_back {n : Int} (hn : 0 ≤ n) (t : Tm) : repT (fun v => varT (v - n)) (repT (shV n) t) = t.strip := by
  rw [sh_down varT hn, rep_id]
theorem sh_size {n : Int} (hn : 0 ≤ n) (t : Tm) : (repT (shV n) t).size = t.size := size_ren (g := fun v => v + n) fun v hv => by have := vs_nonneg t v hv; omega
structure Twin (n : Int) (σ σ' : Int → Tm) : Prop where
  to : ∃ α, ∀ t : Tm, repT α (repT σ t) = repT σ' (repT (shV n) t)
  back : ∃ β, ∀ t : Tm, repT β (repT σ' (repT (shV n) t)) = repT σ t
theorem mg_twin {n : Int} (hn : 0 ≤ n) {a b : Tm} (ha : a.ten) (hb : b.ten) (ha' : (repT (shV n) a).ten) (hb' : (repT (shV n) b).ten) : (mgT (repT (shV n) a) (repT (shV n) b)).2 = (mgT a b).2 ∧ ((mgT a b).2 = true → Twin n (mgS a b) (mgS (repT (shV n) a) (repT (shV n) b))) := by
  have hT := mg_told ha hb
  have hT' := mg_told ha' hb'
  have up : ∀ τ, uni τ [(a, b)] → uni (fun v => τ (v - n)) [(repT (shV n) a, repT (shV n) b)] := fun τ h => by
    rw [uni_one] at h ⊢
    rw [sh_down τ hn, sh_down τ hn, h]
  have dn : ∀ τ, uni τ [(repT (shV n) a, repT (shV n) b)] → uni (fun v => τ (v + n)) [(a, b)] := fun τ h => by
    rw [uni_one] at h ⊢
    rw [← sh_two τ hn, ← sh_two τ hn, h]
  have e : (mgT (repT (shV n) a) (repT (shV n) b)).2 = (mgT a b).2 := by
    cases h : (mgT a b).2 with
    | true =>
      cases h' : (mgT (repT (shV n) a) (repT (shV n) b)).2 with
      | true => rfl
      | false => exact absurd (up _ (hT.yes h).uni) ((hT'.no h').2 _)
    | false =>
      cases h' : (mgT (repT (shV n) a) (repT (shV n) b)).2 with
      | false => rfl
      | true => exact absurd (dn _ (hT'.yes h').uni) ((hT.no h).2 _)
  refine ⟨e, fun h => ?_⟩
  have m := hT.yes h
  have m' := hT'.yes (e.trans h)
  exact ⟨⟨_, fun t => by unfold mgS; rw [m.rep (dn _ m'.uni) t, ← sh_two _ hn]⟩, ⟨_, fun t => by unfold mgS; rw [m'.rep (up _ m.uni) (repT (shV n) t), sh_down _ hn]⟩⟩
theorem Twin.vnt {n : Int} {σ σ' : Int → Tm} (h : Twin n σ σ') (L : List Lt) : vntC (L.map (Lt.rep σ)) ((L.map (Lt.rep (shV n))).map (Lt.rep σ')) = true := by
  unfold vntC
  rw [Bool.and_eq_true, decide_eq_true_eq, rep_neg, rep_neg, rep_neg]
  refine ⟨rfl, ?_⟩
  obtain ⟨α, ha⟩ := h.to
  obtain ⟨β, hb⟩ := h.back
  rw [← rep_sid, ← rep_sid, ← rep_sid]
  exact both_vnt (σ := α) (τ := β) (by rw [ha, rep_bare]) (by rw [hb, rep_bare])
theorem Twin.kb {n : Int} {σ σ' : Int → Tm} (h : Twin n σ σ') (x y : Tm) : kb (repT σ' (repT (shV n) x)) (repT σ' (repT (shV n) y)) = kb (repT σ x) (repT σ y) := by
  obtain ⟨α, ha⟩ := h.to
  obtain ⟨β, hb⟩ := h.back
  by_cases h1 : Go.Proofs.YtglmoficcjphaaaGreat.kb (repT σ x) (repT σ y) = 2
  · rw [h1]
    apply Classical.byContradiction
    intro h2
    have h3 := kb_rep β h2
    rw [hb, hb, h1] at h3
    exact h2 h3.symm
  · have h3 := kb_rep α h1
    rw [ha, ha] at h3
    exact h3
theorem cn_strips (s : Tm) (l : List Tm) : cn s (l.map Tm.strip) = cn s l := by
  unfold cn
  rw [List.countP_map]
  refine List.countP_congr fun z _ => ?_
  rw [Function.comp_apply, sameT_iff, sameT_iff, Tm.strip_strip]
theorem mul_sh {n : Int} (hn : 0 ≤ n) (A B : List Tm) : mulB (A.map (repT (shV n))) (B.map (repT (shV n))) = mulB A B := by
  rw [Bool.eq_iff_iff, mulB_iff, mulB_iff]
  refine ⟨fun h => ?_, mul_rep _⟩
  have h1 := mul_rep (fun v => varT (v - n)) h
  have e : ∀ L : List Tm, (L.map (repT (shV n))).map (repT fun v => varT (v - n)) = L.map Tm.strip := fun L => by
    rw [List.map_map]
    exact List.map_congr_left fun t _ => sh_back hn t
  rw [e, e] at h1
  exact (mul_congr (fun s => cn_strips s A) (fun s => cn_strips s B)).1 h1
theorem tms_sh (n : Int) (l : Lt) : tmsL (Lt.rep (shV n) l) = (tmsL l).map (repT (shV n)) := by
  unfold tmsL
  show (if l.neg = true then _ else _) = _
  cases l.neg <;> rfl
theorem hv_sh {n : Int} (hn : 0 ≤ n) (c : List Lt) : ∀ k, hvK (c.map (Lt.rep (shV n))) k = hvK c k
  | 0 => rfl
  | k + 1 => by
    have ih := hv_sh hn c k
    have hw : ∀ l : Lt, wtL (Lt.rep (shV n) l) = wtL l := fun l => by
      unfold wtL
      show (((repT (shV n) l.a).size : Nat) : Int) + (((repT (shV n) l.b).size : Nat) : Int) = _
      rw [sh_size hn, sh_size hn]
    unfold hvK
    rw [List.getElem?_map, ih]
    cases c[k]? with
    | none => rfl
    | some l =>
      show (if l.neg = true ∧ (hvK c k).2 < wtL (Lt.rep (shV n) l) then ((k : Int), wtL (Lt.rep (shV n) l)) else hvK c k) = _
      rw [hw]
theorem lok_sh {n : Int} (hn : 0 ≤ n) (c : List Lt) : lokL (c.map (Lt.rep (shV n))) = lokL c := by
  have hg : ∀ i, gstI (c.map (Lt.rep (shV n))) i = gstI c i := fun i => by
    unfold gstI gstL
    rw [List.getElem?_map]
    cases c[i.toNat]? with
    | none => rfl
    | some x =>
      simp only [Option.map_some, List.any_map]
      congr 3
      funext l
      show mulB (tmsL (Lt.rep (shV n) l)) (tmsL (Lt.rep (shV n) x)) = _
      rw [tms_sh, tms_sh, mul_sh hn]
  unfold lokL gsK
  rw [List.length_map, hv_sh hn]
  simp only [hg]
def VL (A B : List (List Lt)) : Prop := A.length = B.length ∧ ∀ (i : Nat) d e, A[i]? = some d → B[i]? = some e → vntC d e = true
theorem VL.nil : VL [] [] := ⟨rfl, fun i d e h => by cases h⟩
theorem VL.one {d e : List Lt} (h : vntC d e = true) : VL [d] [e] := ⟨rfl, fun i d' e' h1 h2 => by
  cases i with
  | zero =>
    simp only [List.getElem?_cons_zero, Option.some.injEq] at h1 h2
    rw [← h1, ← h2]; exact h
  | succ i => simp at h1⟩
theorem VL.app {A B C D : List (List Lt)} (h : VL A B) (g : VL C D) : VL (A ++ C) (B ++ D) := ⟨by rw [List.length_append, List.length_append, h.1, g.1], fun i d e h1 h2 => by
  have hl := h.1
  by_cases hi : i < A.length
  · rw [List.getElem?_append_left hi] at h1
    rw [List.getElem?_append_left (by omega)] at h2
    exact h.2 i d e h1 h2
  · rw [List.getElem?_append_right (by omega)] at h1
    rw [List.getElem?_append_right (by omega), ← hl] at h2
    exact g.2 _ d e h1 h2⟩
theorem VL.flat {α : Type} {f g : α → List (List Lt)} : ∀ L : List α, (∀ x ∈ L, VL (f x) (g x)) → VL (L.flatMap f) (L.flatMap g)
  | [], _ => VL.nil
  | x :: L, h => by
    rw [List.flatMap_cons, List.flatMap_cons]
    exact (h x (by simp)).app (VL.flat L fun y hy => h y (List.mem_cons_of_mem _ hy))
theorem VL.filt {α : Type} {f g : α → Option (List Lt)} (L : List α) (h : ∀ x ∈ L, VL (f x).toList (g x).toList) : VL (L.filterMap f) (L.filterMap g) := by
  have e : ∀ (f : α → Option (List Lt)) (L : List α), L.filterMap f = L.flatMap fun x => (f x).toList := fun f L => by
    induction L with
    | nil => rfl
    | cons x L ih =>
      rw [List.flatMap_cons, ← ih, List.filterMap_cons]
      cases f x <;> rfl
  rw [e, e]
  exact VL.flat L h
theorem off_sh (img : Int → Tm) (c : List Lt) (k : Nat) : offL (c.map (Lt.rep img)) k = (offL c k).map (Lt.rep img) := by
  unfold offL
  rw [List.map_append, List.map_take, List.map_drop]
theorem res_sh {n : Int} (hn : 0 ≤ n) {c : List Lt} (hc : ∀ l ∈ c, l.ten) (hc' : ∀ l ∈ c, (Lt.rep (shV n) l).ten) : VL (resA1 c) (resA1 (c.map (Lt.rep (shV n)))) := by
  unfold resA1
  rw [lok_sh hn]
  refine VL.filt _ fun z _ => ?_
  unfold resC
  rw [List.getElem?_map]
  cases hx : c[z.toNat]? with
  | none => exact VL.nil
  | some x =>
    have hm := List.mem_of_getElem? hx
    obtain ⟨e, ht⟩ := mg_twin hn (hc x hm).1 (hc x hm).2 (hc' x hm).1 (hc' x hm).2
    show VL (Option.toList (if x.neg = true ∧ (mgT x.a x.b).2 = true then some ((offL c z.toNat).map (Lt.rep (mgS x.a x.b))) else none)) (Option.toList (if x.neg = true ∧ (mgT (repT (shV n) x.a) (repT (shV n) x.b)).2 = true then some ((offL (c.map (Lt.rep (shV n))) z.toNat).map (Lt.rep (mgS (repT (shV n) x.a) (repT (shV n) x.b)))) else none))
    rw [e, off_sh]
    by_cases h : x.neg = true ∧ (mgT x.a x.b).2 = true
    · rw [if_pos h, if_pos h]
      exact VL.one ((ht h.2).vnt _)
    · rw [if_neg h, if_neg h]
      exact VL.nil
def prS (n : Int) (p : Tm × Tm) : Tm × Tm := (repT (shV n) p.1, repT (shV n) p.2)
theorem facC_sh {n : Int} (hn : 0 ≤ n) {p q : Tm × Tm} (rest : List Lt) (hp : p.1.ten) (hq : q.1.ten) (hp' : (prS n p).1.ten) (hq' : (prS n q).1.ten) : VL (facC p q rest).toList (facC (prS n p) (prS n q) (rest.map (Lt.rep (shV n)))).toList := by
  obtain ⟨e, ht⟩ := mg_twin hn hp hq hp' hq'
  unfold facC
  show VL _ (Option.toList (if (mgT (repT (shV n) p.1) (repT (shV n) q.1)).2 = true ∧ leadB (repT (mgS (repT (shV n) p.1) (repT (shV n) q.1)) (repT (shV n) p.1)) (repT (mgS (repT (shV n) p.1) (repT (shV n) q.1)) (repT (shV n) p.2)) = true then some ((rest.map (Lt.rep (shV n)) ++ [(⟨true, p.2, q.2⟩ : Lt)].map (Lt.rep (shV n))).map (Lt.rep (mgS (repT (shV n) p.1) (repT (shV n) q.1)))) else none))
  rw [e, ← List.map_append]
  by_cases h : (mgT p.1 q.1).2 = true
  · have hw := ht h
    have hl : leadB (repT (mgS (repT (shV n) p.1) (repT (shV n) q.1)) (repT (shV n) p.1)) (repT (mgS (repT (shV n) p.1) (repT (shV n) q.1)) (repT (shV n) p.2)) = leadB (repT (mgS p.1 q.1) p.1) (repT (mgS p.1 q.1) p.2) := by
      unfold leadB
      rw [hw.kb]
    rw [hl]
    by_cases h2 : (mgT p.1 q.1).2 = true ∧ leadB (repT (mgS p.1 q.1) p.1) (repT (mgS p.1 q.1) p.2) = true
    · rw [if_pos h2, if_pos h2]
      exact VL.one (hw.vnt _)
    · rw [if_neg h2, if_neg h2]
      exact VL.nil
  · rw [if_neg fun k => h k.1, if_neg fun k => h k.1]
    exact VL.nil
theorem way_sh (n : Int) (l : Lt) : wayL (Lt.rep (shV n) l) = (wayL l).map (prS n) := rfl
theorem way_sh_ten {n : Int} {l : Lt} (h : l.ten) (h' : (Lt.rep (shV n) l).ten) : ∀ p ∈ wayL l, p.1.ten ∧ (prS n p).1.ten := fun p hp => by
  simp only [wayL, List.mem_cons, List.not_mem_nil, or_false] at hp
  rcases hp with rfl | rfl
  · exact ⟨h.1, h'.1⟩
  · exact ⟨h.2, h'.2⟩
theorem fac_sh {n : Int} (hn : 0 ≤ n) {c : List Lt} (hc : ∀ l ∈ c, l.ten) (hc' : ∀ l ∈ c, (Lt.rep (shV n) l).ten) : VL (facA c) (facA (c.map (Lt.rep (shV n)))) := by
  unfold facA
  rw [lok_sh hn]
  refine VL.flat _ fun z _ => ?_
  unfold facL
  rw [List.getElem?_map, List.length_map]
  cases hx : c[z.toNat]? with
  | none => exact VL.nil
  | some x =>
    have hm := List.mem_of_getElem? hx
    show VL (if x.neg = true then [] else _) (if x.neg = true then [] else _)
    by_cases h : x.neg = true
    · rw [if_pos h, if_pos h]; exact VL.nil
    · rw [if_neg h, if_neg h]
      refine VL.flat _ fun m _ => ?_
      unfold facN
      rw [List.getElem?_map]
      cases hy : c[m]? with
      | none => exact VL.nil
      | some o =>
        have hmo := List.mem_of_getElem? hy
        show VL (if m ≠ z.toNat ∧ o.neg = false then _ else []) (if m ≠ z.toNat ∧ o.neg = false then _ else [])
        by_cases h2 : m ≠ z.toNat ∧ o.neg = false
        · rw [if_pos h2, if_pos h2, way_sh, off_sh]
          unfold facO
          rw [List.flatMap_map]
          refine VL.flat _ fun p hp => ?_
          unfold facI
          rw [way_sh, List.filterMap_map]
          refine VL.filt _ fun q hq => ?_
          have hp2 := way_sh_ten (hc x hm) (hc' x hm) p hp
          have hq2 := way_sh_ten (hc o hmo) (hc' o hmo) q hq
          exact facC_sh hn _ hp2.1 hq2.1 hp2.2 hq2.2
        · rw [if_neg h2, if_neg h2]; exact VL.nil
theorem hv_neg (c : List Lt) : ∀ k, k ≤ c.length → (0 ≤ (hvK c k).1 → ∃ x, c[(hvK c k).1.toNat]? = some x ∧ x.neg = true) ∧ ((hvK c k).1 < 0 → (hvK c k).2 = 0 ∧ ∀ j, j < k → ∀ x, c[j]? = some x → x.neg = false)
  | 0, _ => ⟨fun h => absurd h (by show ¬ (0 : Int) ≤ -1; decide), fun _ => ⟨rfl, fun j hj => absurd hj (by omega)⟩⟩
  | k + 1, hk => by
    obtain ⟨h1, h2⟩ := hv_neg c k (by omega)
    obtain ⟨x, hx⟩ : ∃ x, c[k]? = some x := ⟨c[k], List.getElem?_eq_getElem (by omega)⟩
    have e : hvK c (k + 1) = if x.neg = true ∧ (hvK c k).2 < wtL x then ((k : Int), wtL x) else hvK c k := by conv => lhs; unfold hvK; rw [hx]
    rw [e]
    by_cases h : x.neg = true ∧ (hvK c k).2 < wtL x
    · rw [if_pos h]
      exact ⟨fun _ => ⟨x, by rw [Int.toNat_natCast]; exact hx, h.1⟩, fun hl => by
        have : (k : Int) < 0 := hl
        omega⟩
    · rw [if_neg h]
      refine ⟨h1, fun hl => ⟨(h2 hl).1, fun j hj y hy => ?_⟩⟩
      obtain ⟨h3, h4⟩ := h2 hl
      by_cases hjk : j < k
      · exact h4 j hjk y hy
      · have : j = k := by omega
        subst this
        rw [hx] at hy
        cases hy
        cases hg : x.neg with
        | false => rfl
        | true =>
          exfalso
          apply h
          have := x.a.size_pos
          refine ⟨hg, ?_⟩
          rw [h3]
          unfold wtL
          omega
theorem res_fac (c : List Lt) : (resA1 c).length ≤ 1 ∧ (resA1 c = [] ∨ facA c = []) := by
  obtain ⟨h1, h2⟩ := hv_neg c c.length (Nat.le_refl _)
  by_cases h : (hvK c c.length).1 ≥ 0
  · obtain ⟨x, hx, hg⟩ := h1 h
    have e : lokL c = [(hvK c c.length).1] := by unfold lokL; rw [if_pos h]
    unfold resA1 facA
    rw [e]
    refine ⟨List.length_filterMap_le _ _, .inr ?_⟩
    rw [List.flatMap_cons, List.flatMap_nil, List.append_nil]
    unfold facL
    rw [hx]
    show (if x.neg = true then _ else _) = _
    rw [if_pos hg]
  · have hr : resA1 c = [] := by
      cases hr : resA1 c with
      | nil => rfl
      | cons d L =>
        obtain ⟨n, x, hn, _, hx, hg, _, _⟩ := res_mem (c := c) (d := d) (by rw [hr]; simp)
        rw [(h2 (by omega)).2 n hn x hx] at hg
        cases hg
    rw [hr]
    exact ⟨Nat.zero_le _, .inl rfl⟩
def okC5 (c : List Lt) : Prop := c.length ≤ 12 ∧ ∀ l ∈ c, l.big5
theorem okC5.sid {c : List Lt} (h : okC5 c) : (sidT c).rng ∧ (sidT c).ok ∧ (sidT c).size ≤ 709201 := by
  have hm : ∀ s ∈ sidL c, s.rng ∧ s.ok ∧ s.size ≤ 29550 := fun s hs => by
    obtain ⟨l, hl, e⟩ := sidL_mem.1 hs
    rcases e with rfl | rfl
    · exact (h.2 l hl).1
    · exact (h.2 l hl).2
  have hl := sidL_len c
  have h1 := h.1
  refine ⟨(Tm.rng_iff _).2 ⟨by show _ ≤ (0 : Int) ∧ (0 : Int) ≤ _; omega, fun s hs => (hm s hs).1⟩, (Tm.ok_iff _).2 ⟨by show (sidL c).length ≤ _; omega, fun s hs => (hm s hs).2.1⟩, ?_⟩
  rw [Tm.size_sym (show ¬ (sidT c).f < 0 by show ¬ (0 : Int) < 0; decide)]
  show 1 + ((sidL c).map Tm.size).sum ≤ _
  have : ∀ L : List Tm, (∀ s ∈ L, s.size ≤ 29550) → (L.map Tm.size).sum ≤ 29550 * L.length := fun L => by
    induction L with
    | nil => intro _; exact Nat.zero_le _
    | cons x L ih =>
      intro g
      rw [List.map_cons, List.sum_cons, List.length_cons]
      have a1 := g x (by simp)
      have a2 := ih fun s hs => g s (List.mem_cons_of_mem _ hs)
      omega
  have := this (sidL c) fun s hs => (hm s hs).2.2
  omega
-- 
theorem cVnt5_abs (W : World) (c d : List Lt) (hc : okC5 c) (hd : okC5 d) : AFun Tryz.prog W 21 [.lst (c.map Lt.cv), .lst (d.map Lt.cv)] (.val (.b (vntC c d))) := by
  have n1 := Nat.le_trans (nv_len (sidT c)) hc.sid.2.2
  have n2 := Nat.le_trans (nv_len (sidT d)) hd.sid.2.2
  have h := fun w => eqF_abs w (fun x y => x.neg == y.neg) (.sc (.func (.func 43) #[] #[])) c d (by have := hc.1; omega) (fun W x hx y hy => .inr ⟨_, rfl, cSign2_abs W x y⟩)
  rw [eqF_sign] at h
  have h2 := fun w => variantM_abs w (sidT c) (sidT d) hc.sid.1 hd.sid.1 hc.sid.2.1 (by have := hc.sid.2.2; omega) (by have := hd.sid.2.2; omega) (by omega) (by omega)
  have s1 := fun w => cSides_abs w c (by have := hc.1; omega)
  have s2 := fun w => cSides_abs w d (by have := hd.1; omega)
  unfold vntC
  refine afun_of (rs := [.b (decide (c.map Lt.neg = d.map Lt.neg) && vntB (sidT c) (sidT d))]) Tryz.func21 Tryz.ntmps21 rfl rfl rfl rfl ?_
  intro w U hW
  have h := h w
  refine aS (aR ?_)
  (refine nx (aA (gN rfl) rfl rfl rfl rfl rfl) rfl ?_)
  show AWp _ _ _ _ _ _ _
  cases hs : decide (c.map Lt.neg = d.map Lt.neg) with
  | true =>
    rw [hs] at h
    refine aS (aR ?_)
    (refine nx (aM (gN rfl) rfl rfl rfl rfl rfl) rfl ?_)
    (refine nx (aM (gN rfl) rfl rfl rfl rfl rfl) rfl ?_)
    (refine nx (a_call (gN rfl) rfl rfl rfl rfl rfl (h)) rfl ?_)
    (refine nx (aM (gN rfl) rfl rfl rfl rfl rfl) rfl ?_)
    (refine nx (aM (gd_on rfl rfl rfl rfl (by first | rfl | assumption | (simp; done))) rfl rfl rfl rfl rfl) rfl ?_)
    (refine nx (a_call (gd_on rfl rfl rfl rfl (by first | rfl | assumption | (simp; done))) rfl rfl rfl rfl rfl (s1 w)) rfl ?_)
    (refine nx (aM (gd_on rfl rfl rfl rfl (by first | rfl | assumption | (simp; done))) rfl rfl rfl rfl rfl) rfl ?_)
    (refine nx (a_call (gd_on rfl rfl rfl rfl (by first | rfl | assumption | (simp; done))) rfl rfl rfl rfl rfl (s2 w)) rfl ?_)
    (refine nx (a_call (gd_on rfl rfl rfl rfl (by first | rfl | assumption | (simp; done))) rfl rfl rfl rfl rfl (h2 w)) rfl ?_)
    (refine ⟨_, _, _, aPt (gN rfl) rfl rfl rfl rfl rfl ?hb rfl, rfl, ?_⟩; case hb => (first | rfl | assumption | (simp; done)))
    (refine nx (aA (gN rfl) rfl rfl rfl rfl rfl) rfl ?_)
    show AWp _ _ _ _ _ _ _
    exact aT (And.intro (.inr rfl) rfl)
  | false =>
    rw [hs] at h
    refine aS (aR ?_)
    (refine nx (aM (gN rfl) rfl rfl rfl rfl rfl) rfl ?_)
    (refine nx (aM (gN rfl) rfl rfl rfl rfl rfl) rfl ?_)
    (refine nx (a_call (gN rfl) rfl rfl rfl rfl rfl (h)) rfl ?_)
    (refine nx (aM (gN rfl) rfl rfl rfl rfl rfl) rfl ?_)
    (refine ⟨_, _, _, a_off (go_off rfl rfl rfl rfl (by first | rfl | assumption | (simp; done) | (simp [*]; done))) rfl rfl rfl, rfl, ?_⟩)
    (refine ⟨_, _, _, a_off (go_off rfl rfl rfl rfl (by first | rfl | assumption | (simp; done) | (simp [*]; done))) rfl rfl rfl, rfl, ?_⟩)
    (refine ⟨_, _, _, a_off (go_off rfl rfl rfl rfl (by first | rfl | assumption | (simp; done) | (simp [*]; done))) rfl rfl rfl, rfl, ?_⟩)
    (refine ⟨_, _, _, a_off (go_off rfl rfl rfl rfl (by first | rfl | assumption | (simp; done) | (simp [*]; done))) rfl rfl rfl, rfl, ?_⟩)
    (refine ⟨_, _, _, a_off (go_off rfl rfl rfl rfl (by first | rfl | assumption | (simp; done) | (simp [*]; done))) rfl rfl rfl, rfl, ?_⟩)
    (refine ⟨_, _, _, aPf (gN rfl) rfl rfl rfl rfl rfl ?hb rfl, rfl, ?_⟩; case hb => (first | rfl | assumption | (simp; done)))
    (refine nx (aA (gN rfl) rfl rfl rfl rfl rfl) rfl ?_)
    show AWp _ _ _ _ _ _ _
    exact aT (And.intro (.inr rfl) rfl)
end Go.Proofs.YtglmoficcjphaaaGreat
