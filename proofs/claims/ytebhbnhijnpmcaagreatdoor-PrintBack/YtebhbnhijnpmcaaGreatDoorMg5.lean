/-
  PsMean2 PsRight PrMath AbMapT AbQ AbTab AbWr AbWr2 PrBld PrStr PrFns PrFns2
-/
import Derived.Test.YtebhbnhijnpmcaaGreatDoorMg4
import Derived.Test.YtebhbnhijnpmcaaGreatDoorMg3
import Derived.Lib.ItoaNum
import Derived.Test.YtebhbnhijnpmcaaGreatDoorMg2
import Derived.Lib.AppendStr
import Derived.Lib.Builder
import Derived.Lib.UnsafeStr
import Derived.Shelf.Strings.Builder1
-- @STR@
namespace Go.Proofs.YtebhbnhijnpmcaaGreatDoor
open Go.RowKit
set_option linter.unusedVariables false
set_option linter.unusedSimpArgs false
set_option maxRecDepth 100000

noncomputable def sgv (s : Sg) : CV := .row [.lst (s.nm.map sv), .lst (s.ar.map iv), .lst (s.pr.map bv)]
noncomputable def lcv (c : List Lt) : CV := .lst (c.map Lt.cv)
def sgz : Sg := ⟨[], [], []⟩
noncomputable abbrev sgcZ : CV := .row [.lst [], .lst [], .lst []]
theorem lcv_size (cs : List (List Lt)) : ∀ c ∈ cs.map lcv, c.size = 1 := by
  intro c hc
  obtain ⟨t, _, rfl⟩ := List.mem_map.1 hc
  rfl
theorem nm0_ok : nm0.ok := ⟨rfl, rfl, by decide, (fun p hp => by cases hp), List.nodup_nil, ⟨by decide, (fun p hp => by cases hp)⟩, (fun p hp => by cases hp), List.nodup_nil, ⟨by decide, (fun p hp => by cases hp)⟩⟩
-- 
set_option maxHeartbeats 4000000 in
theorem mean_abs (W : World) (n : Nat) (cs : List (List Se)) (q : Nm × List (List Lt) × Bool) (hcs : ∀ c ∈ cs, (∀ s ∈ c, s.ok) ∧ c.length ≤ 1000000 ∧ (c.map Se.sz).sum ≤ 1000000) (hcl : cs.length ≤ 1000000) (hq : mnF n nm0 cs [] = some q) : AFun Tryz.prog W 15 [.lst (cs.map scv)] (.tup [sgv (bif q.2.2 then q.1.sg else sgz), .lst (q.2.1.map lcv), .b q.2.2]) := by
  have hcz := scv_size cs
  refine afun_of (rs := [sgv (bif q.2.2 then q.1.sg else sgz), .lst (q.2.1.map lcv), .b q.2.2]) Tryz.func15 Tryz.ntmps15 rfl rfl rfl rfl ?_
  intro w U hW
  refine aS (aR ?_)
  (refine nx (a_alloc (gN rfl) rfl rfl rfl rfl rfl rfl rfl rfl rfl rfl) rfl ?_)
  (refine nx (aA (gN rfl) rfl rfl rfl rfl rfl) rfl ?_)
  (refine nx (aA (gN rfl) rfl rfl rfl rfl rfl) rfl ?_)
  show AWp _ _ _ _ _ _ _
  refine AWp.wk (wk_sub (s' := [(0, .val (.lst (cs.map scv))), (2, .bp 2 0 []), (100002, ⟨5, sgcZ, 1, 0, [0]⟩)]) ⟨rfl, rfl, rfl, trivial⟩) ?_
  refine aS (awp_names rfl rfl rfl rfl rfl rfl rfl rfl rfl rfl rfl rfl rfl rfl rfl (by decide) (by kernel_rfl) (fun k v hk _ => by rw [hW.1 k] at hk; cases hk) ?_)
  show AWp _ _ _ _ _ _ _
  refine AWp.wk (wk_sub (s' := (0, .val (.lst (cs.map scv))) :: (2, .bp 2 0 []) :: (100002, ⟨5, sgcZ, 1, 0, [0]⟩) :: (5, .bp 350001 0 []) :: nmI nm0) ⟨rfl, rfl, rfl, rfl, rfl, rfl, rfl, rfl, rfl, rfl, rfl, rfl, rfl, rfl, trivial⟩) ?_
  refine aS (aR ?_)
  (refine nx (aA (gN rfl) rfl rfl rfl rfl rfl) rfl ?_)
  show AWp _ _ _ _ _ _ _
  refine aS (aS (aR ?_))
  (refine nx (aM (gN rfl) rfl rfl rfl rfl rfl) rfl ?_)
  (refine nx (a_len (gN rfl) rfl rfl rfl rfl rfl rfl rfl) rfl ?_)
  (refine nx (aM (gN rfl) rfl rfl rfl rfl rfl) rfl ?_)
  show AWp _ _ _ _ _ _ _
  let sS : Nat → List (List Lt) → AS → AS := fun k acc o => (2, .bp 2 0 []) :: (100002, ⟨5, sgcZ, 1, 0, [0]⟩) :: (5, .bp 350001 0 []) :: (6, .own (.lst (acc.map lcv)) 200038) :: (200038, .tok 45 1) :: (15, .val (.lst (cs.map scv))) :: (16, .val (.i (cs.map scv).length)) :: (17, .val (.i (k : Int))) :: o
  refine aB (awp_loop (fun m s => ∃ k acc st' o, m = cs.length - k ∧ k ≤ cs.length ∧ acc.length = k ∧ mnF n st' (cs.drop k) acc = some q ∧ st'.ok ∧ (o = nmI nm0 ∧ st' = nm0 ∨ o = nmS st') ∧ s = sS k acc o) (n := cs.length) (s' := sS 0 [] (nmI nm0)) ((wk_nil 6 200038 45 1 rfl rfl rfl rfl rfl (by kernel_rfl) (by kernel_rfl)).trans (wk_sub ⟨rfl, rfl, rfl, rfl, rfl, rfl, rfl, rfl, rfl, rfl, rfl, rfl, rfl, rfl, rfl, rfl, rfl, rfl, trivial⟩)) ⟨0, [], nm0, nmI nm0, rfl, Nat.zero_le _, rfl, hq, nm0_ok, .inl ⟨rfl, rfl⟩, rfl⟩ ?_)
  rintro m s ⟨k, acc, st', o, rfl, hk, hal, hf, hst, ho, rfl⟩
  rcases ho with ⟨rfl, rfl⟩ | rfl
  · refine aS (aR ?_)
    (refine nx (a_lss (gN rfl) rfl rfl rfl rfl rfl rfl) rfl ?_)
    show AWp _ _ _ _ _ _ _
    refine aS (aC rfl (fun hlt => aK ?_) (fun hlt => aE ?_))
    · have hkl : k < cs.length := by simpa using hlt
      obtain ⟨x, hx⟩ : ∃ x, cs[k]? = some x := ⟨cs[k], List.getElem?_eq_getElem hkl⟩
      have hx' : (cs.map scv)[k]? = some (scv x) := by rw [List.getElem?_map, hx]; rfl
      obtain ⟨hxo, hxl, hxs⟩ := hcs x (List.mem_of_getElem? hx)
      rw [drop_at hx, mnF] at hf
      cases hx2 : clsF n nm0 x with
      | none => rw [hx2] at hf; cases hf
      | some u =>
      rw [hx2] at hf
      simp only at hf
      have hlc := cls0_abs n nm0 x u hst hxo hxl hxs hx2
      obtain ⟨hso, huc, hul, huw, _⟩ := clsF_g hst hxo hxs hx2
      show AWp _ _ _ _ _ _ _
      refine aS (aB (aS (aR ?_)))
      (refine nx (a_index (j := k) (gN rfl) rfl rfl rfl rfl rfl rfl rfl rfl rfl (hx') rfl (hcz)) rfl ?_)
      (refine nx (a_load_ad (gN rfl) rfl rfl rfl rfl rfl rfl rfl rfl rfl) rfl ?_)
      (refine nx (aA (gN rfl) rfl rfl rfl rfl rfl) rfl ?_)
      show AWp _ _ _ _ _ _ _
      refine aS (aR ?_)
      (refine nx (aM (gN rfl) rfl rfl rfl rfl rfl) rfl ?_)
      (refine nx (aM (gN rfl) rfl rfl rfl rfl rfl) rfl ?_)
      (refine nx (a_callO (gN rfl) rfl rfl rfl rfl rfl (hlc) (by repeat (first | exact trivial | refine ⟨rfl, ?_⟩)) (by first | rfl | kernel_rfl) (by first | rfl | kernel_rfl) (by first | rfl | kernel_rfl) (by first | rfl | kernel_rfl) (hnb_of (by first | rfl | kernel_rfl))) rfl ?_)
      (refine nx (aM (gN rfl) rfl rfl rfl rfl rfl) rfl ?_)
      (refine nx (aX (gN rfl) rfl rfl rfl rfl rfl rfl) rfl ?_)
      (refine nx (aX (gN rfl) rfl rfl rfl rfl rfl rfl) rfl ?_)
      (refine nx (aA (gN rfl) rfl rfl rfl rfl rfl) rfl ?_)
      (refine nx (aA (gN rfl) rfl rfl rfl rfl rfl) rfl ?_)
      show AWp _ _ _ _ _ _ _
      refine AWp.wk (wk_sub (s' := (9, .val (.lst (u.1.map Lt.cv))) :: (10, .val (.b u.2.1)) :: sS k acc (nmS u.2.2)) ⟨rfl, rfl, rfl, rfl, rfl, rfl, rfl, rfl, rfl, rfl, rfl, rfl, rfl, rfl, rfl, rfl, rfl, rfl, rfl, rfl, rfl, trivial⟩) ?_
      cases hok : u.2.1 with
      | false =>
        rw [hok] at hf
        simp only [Bool.false_and, Bool.false_eq_true, if_false, Option.some.injEq] at hf
        subst hf
        refine aS (aS (aR ?_))
        (refine nx (aM (gN rfl) rfl rfl rfl rfl rfl) rfl ?_)
        (refine nx (a_not (gN rfl) rfl rfl rfl rfl rfl) rfl ?_)
        (refine nx (aM (gN rfl) rfl rfl rfl rfl rfl) rfl ?_)
        (refine ⟨_, _, _, a_off (go_off rfl rfl rfl rfl (by first | rfl | assumption | (simp; done) | (simp [*]; done))) rfl rfl rfl, rfl, ?_⟩)
        (refine ⟨_, _, _, a_off (go_off rfl rfl rfl rfl (by first | rfl | assumption | (simp; done) | (simp [*]; done))) rfl rfl rfl, rfl, ?_⟩)
        (refine ⟨_, _, _, a_off (go_off rfl rfl rfl rfl (by first | rfl | assumption | (simp; done) | (simp [*]; done))) rfl rfl rfl, rfl, ?_⟩)
        (refine ⟨_, _, _, aPt (gN rfl) rfl rfl rfl rfl rfl ?hb rfl, rfl, ?_⟩; case hb => (first | rfl | assumption | (simp; done)))
        show AWp _ _ _ _ _ _ _
        refine aC rfl (fun hc => ?_) (fun hc => by cases hc)
        refine aS (aR ?_)
        (refine nx (a_build (gN rfl) rfl rfl rfl rfl rfl rfl rfl rfl rfl rfl rfl) rfl ?_)
        (refine nx (aSt (gN rfl) rfl rfl rfl rfl rfl rfl rfl rfl rfl rfl) rfl ?_)
        (refine nx (aA (gN rfl) rfl rfl rfl rfl rfl) rfl ?_)
        (refine nx (aA (gN rfl) rfl rfl rfl rfl rfl) rfl ?_)
        show AWp _ _ _ _ _ _ _
        exact aT (And.intro (.inr rfl) rfl)
      | true =>
        rw [hok] at hf
        have hwt := cWeight_abs w u.1 (by omega) (by show wtL u.1 ≤ _; omega) huc
        rw [show wtC u.1 = wtL u.1 from rfl] at hwt
        refine aS (aS (aR ?_))
        (refine nx (aM (gN rfl) rfl rfl rfl rfl rfl) rfl ?_)
        (refine nx (a_not (gN rfl) rfl rfl rfl rfl rfl) rfl ?_)
        (refine nx (aM (gN rfl) rfl rfl rfl rfl rfl) rfl ?_)
        (refine nx (aM (gd_on rfl rfl rfl rfl (by first | rfl | assumption | (simp; done))) rfl rfl rfl rfl rfl) rfl ?_)
        (refine nx (a_call (gd_on rfl rfl rfl rfl (by first | rfl | assumption | (simp; done))) rfl rfl rfl rfl rfl (hwt)) rfl ?_)
        (refine nx (a_gtr (gd_on rfl rfl rfl rfl (by first | rfl | assumption | (simp; done))) rfl rfl rfl rfl rfl rfl) rfl ?_)
        (refine ⟨_, _, _, aPf (gN rfl) rfl rfl rfl rfl rfl ?hb rfl, rfl, ?_⟩; case hb => (first | rfl | assumption | (simp; done)))
        show AWp _ _ _ _ _ _ _
        refine aC rfl (fun hc => ?_) (fun hc => aK ?_)
        · have hgt : ¬ wtL u.1 ≤ 60 := by
            have : (60 : Int) < (wtL u.1 : Int) := by simpa using hc
            omega
          simp only [Bool.true_and, hgt, decide_false, Bool.false_eq_true, if_false, Option.some.injEq] at hf
          subst hf
          refine aS (aR ?_)
          (refine nx (a_build (gN rfl) rfl rfl rfl rfl rfl rfl rfl rfl rfl rfl rfl) rfl ?_)
          (refine nx (aSt (gN rfl) rfl rfl rfl rfl rfl rfl rfl rfl rfl rfl) rfl ?_)
          (refine nx (aA (gN rfl) rfl rfl rfl rfl rfl) rfl ?_)
          (refine nx (aA (gN rfl) rfl rfl rfl rfl rfl) rfl ?_)
          show AWp _ _ _ _ _ _ _
          exact aT (And.intro (.inr rfl) rfl)
        · have hle : wtL u.1 ≤ 60 := by
            have : ¬ (60 : Int) < (wtL u.1 : Int) := by simpa using hc
            omega
          simp only [Bool.true_and, hle, decide_true, if_true] at hf
          have hsz2 := lcv_size acc
          have hal2 : (acc.map lcv).length ≤ 1000000 := by rw [List.length_map]; omega
          have hap : (acc ++ [u.1]).map lcv = acc.map lcv ++ [.lst (u.1.map Lt.cv)] := by rw [List.map_append]; rfl
          show AWp _ _ _ _ _ _ _
          refine aR ?_
          (refine nx (aM (gN rfl) rfl rfl rfl rfl rfl) rfl ?_)
          (refine nx (aM (gN rfl) rfl rfl rfl rfl rfl) rfl ?_)
          (refine nx (a_bslice (gN rfl) rfl rfl rfl rfl rfl rfl rfl rfl rfl rfl rfl rfl rfl) rfl ?_)
          (refine nx (a_app (gN rfl) rfl rfl rfl rfl rfl rfl rfl rfl rfl rfl rfl rfl rfl rfl rfl (by first | assumption | exact sZ rfl | exact Tm.size_all _ | exact Bd.size_all _ | exact ints_size _ | exact bys_size _ | exact Lt.size_all _) (by first | assumption | exact sZ rfl | exact Tm.size_all _ | exact Bd.size_all _ | exact ints_size _ | exact bys_size _ | exact Lt.size_all _) (by first | omega | (simp only [List.length_map, List.length_append, List.length_cons, List.length_nil] <;> omega) | (simp <;> omega))) (by kernel_rfl) ?_)
          (refine nx (aA (gN rfl) rfl rfl rfl rfl rfl) rfl ?_)
          show AWp _ _ _ _ _ _ _
          refine aR ?_
          (refine nx (a_add (gN rfl) rfl rfl rfl rfl rfl rfl (by first | omega | (simp only [List.length_map, List.length_append, List.length_cons, List.length_nil] <;> omega) | (simp <;> omega))) rfl ?_)
          (refine nx (aM (gN rfl) rfl rfl rfl rfl rfl) rfl ?_)
          refine ⟨cs.length - (k + 1), sS (k + 1) (acc ++ [u.1]) (nmS u.2.2), by omega, ⟨k + 1, acc ++ [u.1], u.2.2, _, rfl, by omega, by rw [List.length_append, hal]; rfl, hf, hso, .inr rfl, rfl⟩, (wk_sub (s' := (2, .bp 2 0 []) :: (100002, ⟨5, sgcZ, 1, 0, [0]⟩) :: (5, .bp 350001 0 []) :: (6, .own (.lst ((acc ++ [u.1]).map lcv)) 300038) :: (300038, .tok 45 1) :: (15, .val (.lst (cs.map scv))) :: (16, .val (.i (cs.map scv).length)) :: (17, .val (.i ((k + 1 : Nat) : Int))) :: nmS u.2.2) ⟨rfl, rfl, rfl, by rw [hap]; rfl, rfl, rfl, rfl, rfl, rfl, rfl, rfl, rfl, rfl, rfl, rfl, rfl, rfl, rfl, rfl, trivial⟩).trans (wk_ren 300038 200038 rfl rfl (by kernel_rfl) (by kernel_rfl))⟩
    · have hkl : k = cs.length := by
        have : ¬ k < cs.length := by simpa using hlt
        omega
      rw [hkl, List.drop_length] at hf
      simp only [mnF, Option.some.injEq] at hf
      subst hf
      show AWp _ _ _ _ _ _ _
      refine AWp.wk (wk_three (n := 350001) (o1 := 0) (r1 := 300001) (r2 := 300002) (r3 := 300003) (l1 := nm0.sg.nm.map sv) (l2 := nm0.sg.ar.map iv) (l3 := nm0.sg.pr.map bv) (e1 := 9) (e2 := 3) (e3 := 4) (.inr ⟨by decide, by decide⟩) (by kernel_rfl) rfl (by rw [show (nm0.sg.nm.map sv).length = nm0.sg.nm.length from List.length_map _]; kernel_rfl) (by rw [show (nm0.sg.ar.map iv).length = nm0.sg.ar.length from List.length_map _]; kernel_rfl) (by rw [show (nm0.sg.pr.map bv).length = nm0.sg.pr.length from List.length_map _]; kernel_rfl) (by kernel_rfl) (by kernel_rfl) (by kernel_rfl) hW.2 (by decide) (by decide) (by decide) (s' := [(2, .bp 2 0 []), (100002, ⟨5, sgcZ, 1, 0, [0]⟩), (5, .bp 350001 0 []), (6, .own (.lst (acc.map lcv)) 200038), (200038, .tok 45 1), (450001, .obj)]) ⟨by kernel_rfl, by kernel_rfl, by kernel_rfl, by kernel_rfl, by kernel_rfl, by kernel_rfl, trivial⟩ (by kernel_rfl) rfl rfl rfl (fun o av h1 h2 => by
        rw [lN (by unfold fKey; omega), lN (by unfold fKey; omega), lN (by unfold fKey; omega), lN (by unfold fKey; omega), lN (by unfold fKey; omega), lN (by unfold fKey; omega)] at h1
        cases h1)) ?_
      refine AWp.wk (wk_sub (s' := [(2, .bp 2 0 []), (100002, ⟨5, sgcZ, 1, 0, [0]⟩), (5, .bp 350001 0 []), (6, .own (.lst (acc.map lcv)) 200038), (200038, .tok 45 1), (450001, .obj), (35500100, .val (sgv nm0.sg))]) ⟨by kernel_rfl, by kernel_rfl, by kernel_rfl, by kernel_rfl, by kernel_rfl, by kernel_rfl, by kernel_rfl, trivial⟩) ?_
      refine aS (aR ?_)
      (refine nx (aM (gN rfl) rfl rfl rfl rfl rfl) rfl ?_)
      (refine nx (aNc (gN rfl) rfl rfl rfl rfl rfl) rfl ?_)
      (refine nx (aF (gN rfl) rfl rfl rfl rfl rfl rfl rfl rfl rfl) rfl ?_)
      (refine nx (aLf (gN rfl) rfl rfl rfl rfl rfl rfl rfl rfl rfl rfl rfl rfl rfl) rfl ?_)
      (refine nx (aM (gN rfl) rfl rfl rfl rfl rfl) rfl ?_)
      (refine nx (aSt (gN rfl) rfl rfl rfl rfl rfl rfl rfl rfl rfl rfl) rfl ?_)
      (refine nx (aA (gN rfl) rfl rfl rfl rfl rfl) rfl ?_)
      (refine nx (aA (gN rfl) rfl rfl rfl rfl rfl) rfl ?_)
      show AWp _ _ _ _ _ _ _
      exact aT (And.intro (.inr rfl) rfl)
  · refine aS (aR ?_)
    (refine nx (a_lss (gN rfl) rfl rfl rfl rfl rfl rfl) rfl ?_)
    show AWp _ _ _ _ _ _ _
    refine aS (aC rfl (fun hlt => aK ?_) (fun hlt => aE ?_))
    · have hkl : k < cs.length := by simpa using hlt
      obtain ⟨x, hx⟩ : ∃ x, cs[k]? = some x := ⟨cs[k], List.getElem?_eq_getElem hkl⟩
      have hx' : (cs.map scv)[k]? = some (scv x) := by rw [List.getElem?_map, hx]; rfl
      obtain ⟨hxo, hxl, hxs⟩ := hcs x (List.mem_of_getElem? hx)
      rw [drop_at hx, mnF] at hf
      cases hx2 : clsF n st' x with
      | none => rw [hx2] at hf; cases hf
      | some u =>
      rw [hx2] at hf
      simp only at hf
      have hlc := cls_abs n st' x u hst hxo hxl hxs hx2
      obtain ⟨hso, huc, hul, huw, _⟩ := clsF_g hst hxo hxs hx2
      show AWp _ _ _ _ _ _ _
      refine aS (aB (aS (aR ?_)))
      (refine nx (a_index (j := k) (gN rfl) rfl rfl rfl rfl rfl rfl rfl rfl rfl (hx') rfl (hcz)) rfl ?_)
      (refine nx (a_load_ad (gN rfl) rfl rfl rfl rfl rfl rfl rfl rfl rfl) rfl ?_)
      (refine nx (aA (gN rfl) rfl rfl rfl rfl rfl) rfl ?_)
      show AWp _ _ _ _ _ _ _
      refine aS (aR ?_)
      (refine nx (aM (gN rfl) rfl rfl rfl rfl rfl) rfl ?_)
      (refine nx (aM (gN rfl) rfl rfl rfl rfl rfl) rfl ?_)
      (refine nx (a_callO (gN rfl) rfl rfl rfl rfl rfl (hlc) (by repeat (first | exact trivial | refine ⟨rfl, ?_⟩)) (by first | rfl | kernel_rfl) (by first | rfl | kernel_rfl) (by first | rfl | kernel_rfl) (by first | rfl | kernel_rfl) (hnb_of (by first | rfl | kernel_rfl))) rfl ?_)
      (refine nx (aM (gN rfl) rfl rfl rfl rfl rfl) rfl ?_)
      (refine nx (aX (gN rfl) rfl rfl rfl rfl rfl rfl) rfl ?_)
      (refine nx (aX (gN rfl) rfl rfl rfl rfl rfl rfl) rfl ?_)
      (refine nx (aA (gN rfl) rfl rfl rfl rfl rfl) rfl ?_)
      (refine nx (aA (gN rfl) rfl rfl rfl rfl rfl) rfl ?_)
      show AWp _ _ _ _ _ _ _
      refine AWp.wk (wk_sub (s' := (9, .val (.lst (u.1.map Lt.cv))) :: (10, .val (.b u.2.1)) :: sS k acc (nmS u.2.2)) ⟨rfl, rfl, rfl, rfl, rfl, rfl, rfl, rfl, rfl, rfl, rfl, rfl, rfl, rfl, rfl, rfl, rfl, rfl, rfl, rfl, rfl, trivial⟩) ?_
      cases hok : u.2.1 with
      | false =>
        rw [hok] at hf
        simp only [Bool.false_and, Bool.false_eq_true, if_false, Option.some.injEq] at hf
        subst hf
        refine aS (aS (aR ?_))
        (refine nx (aM (gN rfl) rfl rfl rfl rfl rfl) rfl ?_)
        (refine nx (a_not (gN rfl) rfl rfl rfl rfl rfl) rfl ?_)
        (refine nx (aM (gN rfl) rfl rfl rfl rfl rfl) rfl ?_)
        (refine ⟨_, _, _, a_off (go_off rfl rfl rfl rfl (by first | rfl | assumption | (simp; done) | (simp [*]; done))) rfl rfl rfl, rfl, ?_⟩)
        (refine ⟨_, _, _, a_off (go_off rfl rfl rfl rfl (by first | rfl | assumption | (simp; done) | (simp [*]; done))) rfl rfl rfl, rfl, ?_⟩)
        (refine ⟨_, _, _, a_off (go_off rfl rfl rfl rfl (by first | rfl | assumption | (simp; done) | (simp [*]; done))) rfl rfl rfl, rfl, ?_⟩)
        (refine ⟨_, _, _, aPt (gN rfl) rfl rfl rfl rfl rfl ?hb rfl, rfl, ?_⟩; case hb => (first | rfl | assumption | (simp; done)))
        show AWp _ _ _ _ _ _ _
        refine aC rfl (fun hc => ?_) (fun hc => by cases hc)
        refine aS (aR ?_)
        (refine nx (a_build (gN rfl) rfl rfl rfl rfl rfl rfl rfl rfl rfl rfl rfl) rfl ?_)
        (refine nx (aSt (gN rfl) rfl rfl rfl rfl rfl rfl rfl rfl rfl rfl) rfl ?_)
        (refine nx (aA (gN rfl) rfl rfl rfl rfl rfl) rfl ?_)
        (refine nx (aA (gN rfl) rfl rfl rfl rfl rfl) rfl ?_)
        show AWp _ _ _ _ _ _ _
        exact aT (And.intro (.inr rfl) rfl)
      | true =>
        rw [hok] at hf
        have hwt := cWeight_abs w u.1 (by omega) (by show wtL u.1 ≤ _; omega) huc
        rw [show wtC u.1 = wtL u.1 from rfl] at hwt
        refine aS (aS (aR ?_))
        (refine nx (aM (gN rfl) rfl rfl rfl rfl rfl) rfl ?_)
        (refine nx (a_not (gN rfl) rfl rfl rfl rfl rfl) rfl ?_)
        (refine nx (aM (gN rfl) rfl rfl rfl rfl rfl) rfl ?_)
        (refine nx (aM (gd_on rfl rfl rfl rfl (by first | rfl | assumption | (simp; done))) rfl rfl rfl rfl rfl) rfl ?_)
        (refine nx (a_call (gd_on rfl rfl rfl rfl (by first | rfl | assumption | (simp; done))) rfl rfl rfl rfl rfl (hwt)) rfl ?_)
        (refine nx (a_gtr (gd_on rfl rfl rfl rfl (by first | rfl | assumption | (simp; done))) rfl rfl rfl rfl rfl rfl) rfl ?_)
        (refine ⟨_, _, _, aPf (gN rfl) rfl rfl rfl rfl rfl ?hb rfl, rfl, ?_⟩; case hb => (first | rfl | assumption | (simp; done)))
        show AWp _ _ _ _ _ _ _
        refine aC rfl (fun hc => ?_) (fun hc => aK ?_)
        · have hgt : ¬ wtL u.1 ≤ 60 := by
            have : (60 : Int) < (wtL u.1 : Int) := by simpa using hc
            omega
          simp only [Bool.true_and, hgt, decide_false, Bool.false_eq_true, if_false, Option.some.injEq] at hf
          subst hf
          refine aS (aR ?_)
          (refine nx (a_build (gN rfl) rfl rfl rfl rfl rfl rfl rfl rfl rfl rfl rfl) rfl ?_)
          (refine nx (aSt (gN rfl) rfl rfl rfl rfl rfl rfl rfl rfl rfl rfl) rfl ?_)
          (refine nx (aA (gN rfl) rfl rfl rfl rfl rfl) rfl ?_)
          (refine nx (aA (gN rfl) rfl rfl rfl rfl rfl) rfl ?_)
          show AWp _ _ _ _ _ _ _
          exact aT (And.intro (.inr rfl) rfl)
        · have hle : wtL u.1 ≤ 60 := by
            have : ¬ (60 : Int) < (wtL u.1 : Int) := by simpa using hc
            omega
          simp only [Bool.true_and, hle, decide_true, if_true] at hf
          have hsz2 := lcv_size acc
          have hal2 : (acc.map lcv).length ≤ 1000000 := by rw [List.length_map]; omega
          have hap : (acc ++ [u.1]).map lcv = acc.map lcv ++ [.lst (u.1.map Lt.cv)] := by rw [List.map_append]; rfl
          show AWp _ _ _ _ _ _ _
          refine aR ?_
          (refine nx (aM (gN rfl) rfl rfl rfl rfl rfl) rfl ?_)
          (refine nx (aM (gN rfl) rfl rfl rfl rfl rfl) rfl ?_)
          (refine nx (a_bslice (gN rfl) rfl rfl rfl rfl rfl rfl rfl rfl rfl rfl rfl rfl rfl) rfl ?_)
          (refine nx (a_app (gN rfl) rfl rfl rfl rfl rfl rfl rfl rfl rfl rfl rfl rfl rfl rfl rfl (by first | assumption | exact sZ rfl | exact Tm.size_all _ | exact Bd.size_all _ | exact ints_size _ | exact bys_size _ | exact Lt.size_all _) (by first | assumption | exact sZ rfl | exact Tm.size_all _ | exact Bd.size_all _ | exact ints_size _ | exact bys_size _ | exact Lt.size_all _) (by first | omega | (simp only [List.length_map, List.length_append, List.length_cons, List.length_nil] <;> omega) | (simp <;> omega))) (by kernel_rfl) ?_)
          (refine nx (aA (gN rfl) rfl rfl rfl rfl rfl) rfl ?_)
          show AWp _ _ _ _ _ _ _
          refine aR ?_
          (refine nx (a_add (gN rfl) rfl rfl rfl rfl rfl rfl (by first | omega | (simp only [List.length_map, List.length_append, List.length_cons, List.length_nil] <;> omega) | (simp <;> omega))) rfl ?_)
          (refine nx (aM (gN rfl) rfl rfl rfl rfl rfl) rfl ?_)
          refine ⟨cs.length - (k + 1), sS (k + 1) (acc ++ [u.1]) (nmS u.2.2), by omega, ⟨k + 1, acc ++ [u.1], u.2.2, _, rfl, by omega, by rw [List.length_append, hal]; rfl, hf, hso, .inr rfl, rfl⟩, (wk_sub (s' := (2, .bp 2 0 []) :: (100002, ⟨5, sgcZ, 1, 0, [0]⟩) :: (5, .bp 350001 0 []) :: (6, .own (.lst ((acc ++ [u.1]).map lcv)) 300038) :: (300038, .tok 45 1) :: (15, .val (.lst (cs.map scv))) :: (16, .val (.i (cs.map scv).length)) :: (17, .val (.i ((k + 1 : Nat) : Int))) :: nmS u.2.2) ⟨rfl, rfl, rfl, by rw [hap]; rfl, rfl, rfl, rfl, rfl, rfl, rfl, rfl, rfl, rfl, rfl, rfl, rfl, rfl, rfl, rfl, trivial⟩).trans (wk_ren 300038 200038 rfl rfl (by kernel_rfl) (by kernel_rfl))⟩
    · have hkl : k = cs.length := by
        have : ¬ k < cs.length := by simpa using hlt
        omega
      rw [hkl, List.drop_length] at hf
      simp only [mnF, Option.some.injEq] at hf
      subst hf
      show AWp _ _ _ _ _ _ _
      refine AWp.wk (wk_three (n := 350001) (o1 := 0) (r1 := 300001) (r2 := 300002) (r3 := 300003) (l1 := st'.sg.nm.map sv) (l2 := st'.sg.ar.map iv) (l3 := st'.sg.pr.map bv) (e1 := 9) (e2 := 3) (e3 := 4) (.inr ⟨by decide, by decide⟩) (by kernel_rfl) rfl (by rw [show (st'.sg.nm.map sv).length = st'.sg.nm.length from List.length_map _]; kernel_rfl) (by rw [show (st'.sg.ar.map iv).length = st'.sg.ar.length from List.length_map _]; kernel_rfl) (by rw [show (st'.sg.pr.map bv).length = st'.sg.pr.length from List.length_map _]; kernel_rfl) (by kernel_rfl) (by kernel_rfl) (by kernel_rfl) hW.2 (by decide) (by decide) (by decide) (s' := [(2, .bp 2 0 []), (100002, ⟨5, sgcZ, 1, 0, [0]⟩), (5, .bp 350001 0 []), (6, .own (.lst (acc.map lcv)) 200038), (200038, .tok 45 1), (450001, .obj)]) ⟨by kernel_rfl, by kernel_rfl, by kernel_rfl, by kernel_rfl, by kernel_rfl, by kernel_rfl, trivial⟩ (by kernel_rfl) rfl rfl rfl (fun o av h1 h2 => by
        rw [lN (by unfold fKey; omega), lN (by unfold fKey; omega), lN (by unfold fKey; omega), lN (by unfold fKey; omega), lN (by unfold fKey; omega), lN (by unfold fKey; omega)] at h1
        cases h1)) ?_
      refine AWp.wk (wk_sub (s' := [(2, .bp 2 0 []), (100002, ⟨5, sgcZ, 1, 0, [0]⟩), (5, .bp 350001 0 []), (6, .own (.lst (acc.map lcv)) 200038), (200038, .tok 45 1), (450001, .obj), (35500100, .val (sgv st'.sg))]) ⟨by kernel_rfl, by kernel_rfl, by kernel_rfl, by kernel_rfl, by kernel_rfl, by kernel_rfl, by kernel_rfl, trivial⟩) ?_
      refine aS (aR ?_)
      (refine nx (aM (gN rfl) rfl rfl rfl rfl rfl) rfl ?_)
      (refine nx (aNc (gN rfl) rfl rfl rfl rfl rfl) rfl ?_)
      (refine nx (aF (gN rfl) rfl rfl rfl rfl rfl rfl rfl rfl rfl) rfl ?_)
      (refine nx (aLf (gN rfl) rfl rfl rfl rfl rfl rfl rfl rfl rfl rfl rfl rfl rfl) rfl ?_)
      (refine nx (aM (gN rfl) rfl rfl rfl rfl rfl) rfl ?_)
      (refine nx (aSt (gN rfl) rfl rfl rfl rfl rfl rfl rfl rfl rfl rfl) rfl ?_)
      (refine nx (aA (gN rfl) rfl rfl rfl rfl rfl) rfl ?_)
      (refine nx (aA (gN rfl) rfl rfl rfl rfl rfl) rfl ?_)
      show AWp _ _ _ _ _ _ _
      exact aT (And.intro (.inr rfl) rfl)
end Go.Proofs.YtebhbnhijnpmcaaGreatDoor

-- @STR@
namespace Go.Proofs.YtebhbnhijnpmcaaGreatDoor
open Go.RowKit
set_option linter.unusedVariables false
set_option linter.unusedSimpArgs false
set_option maxRecDepth 100000

section
variable {P : Program} {w0 : World} {U0 : UX} {nt : Nat} {ops : Array Oper} {o : Oper} {gs : List Nat} {S : Nat → Option AV} {d : Nat}
end
def sgc (s : Sg) : Nat := min (min s.nm.length s.ar.length) s.pr.length
def fitB (s : Sg) (t : Tm) : Bool := decide (0 ≤ t.f) && (decide (t.f < (sgc s : Int)) && decide (s.ar[t.f.toNat]? = some t.l.length))
noncomputable def rtB (s : Sg) (t : Tm) : Bool := Tm.rec (motive_1 := fun _ => Bool) (motive_2 := fun _ => Bool) (fun f l ih => decide (f < 0) || (decide (0 < f) && (fitB s ⟨f, l⟩ && (!(s.pr.getD f.toNat false) && ih)))) true (fun _ _ a b => a && b) t
theorem rtB_mk (s : Sg) (f : Int) (l : List Tm) : rtB s ⟨f, l⟩ = (decide (f < 0) || (decide (0 < f) && (fitB s ⟨f, l⟩ && (!(s.pr.getD f.toNat false) && l.all (rtB s))))) := by
  have hl : ∀ l : List Tm, Tm.rec_1 (motive_1 := fun _ => Bool) (motive_2 := fun _ => Bool) (fun f l ih => decide (f < 0) || (decide (0 < f) && (fitB s ⟨f, l⟩ && (!(s.pr.getD f.toNat false) && ih)))) true (fun _ _ a b => a && b) l = l.all (rtB s) := by
    intro l
    induction l with
    | nil => rfl
    | cons c cs ih => rw [List.all_cons, ← ih]; rfl
  rw [← hl]
  rfl
noncomputable def atB (s : Sg) (t : Tm) : Bool := decide (0 < t.f) && (fitB s t && (s.pr.getD t.f.toNat false && t.l.all (rtB s)))
def trB (t : Tm) : Bool := decide (t.f = 0) && decide (t.l.length = 0)
noncomputable def rlB (s : Sg) (l : Lt) : Bool := match trB l.b with
  | false => rtB s l.a && rtB s l.b
  | true => atB s l.a && fitB s l.b
noncomputable def rcB (s : Sg) (c : List Lt) : Bool := c.all (rlB s)
end Go.Proofs.YtebhbnhijnpmcaaGreatDoor

namespace Go.Proofs.YtebhbnhijnpmcaaGreatDoor
open Go.RowKit
set_option linter.unusedVariables false
set_option linter.unusedSimpArgs false
def joinW (sep : By) : List By → By
  | [] => []
  | x :: xs => x ++ xs.flatMap (sep ++ ·)
theorem joinW_snoc (sep : By) (xs : List By) (y : By) : joinW sep (xs ++ [y]) = joinW sep xs ++ ((if xs = [] then [] else sep) ++ y) := by
  cases xs with
  | nil => simp [joinW]
  | cons x xs => simp [joinW]
theorem joinW_take (sep : By) {l : List By} {k : Nat} {y : By} (h : l[k]? = some y) : joinW sep (l.take (k + 1)) = joinW sep (l.take k) ++ ((if k = 0 then [] else sep) ++ y) := by
  rw [List.take_add_one, h]
  show joinW sep (l.take k ++ [y]) = _
  rw [joinW_snoc]
  have hk : k < l.length := (List.getElem?_eq_some_iff.1 h).1
  congr 2
  by_cases h0 : k = 0
  · subst h0; simp
  · rw [if_neg h0, if_neg]
    intro e
    have h1 : (l.take k).length = 0 := by rw [e]; rfl
    rw [List.length_take] at h1
    omega
theorem joinW_take_le (sep : By) (l : List By) (k : Nat) : (joinW sep (l.take k)).length ≤ (joinW sep l).length := by
  cases l with
  | nil => simp
  | cons x xs =>
    cases k with
    | zero => simp [joinW]
    | succ k =>
      simp only [List.take_succ_cons, joinW, List.length_append]
      have h : xs.flatMap (sep ++ ·) = (xs.take k).flatMap (sep ++ ·) ++ (xs.drop k).flatMap (sep ++ ·) := by rw [← List.flatMap_append, List.take_append_drop]
      rw [h, List.length_append]
      omega
def symX (nm : List By) (f : Nat) : By := match nm[f]? with
  | some s => s
  | none => 115 :: Lib.decDigits f
def parX (l : List By) : By := match l with
  | [] => []
  | x :: xs => 40 :: (joinW [44] (x :: xs) ++ [41])
theorem parX_ne {l : List By} (h : l ≠ []) : parX l = 40 :: (joinW [44] l ++ [41]) := by
  cases l with
  | nil => exact absurd rfl h
  | cons x xs => rfl
def txT (nm : List By) : Tm → By
  | ⟨f, l⟩ => if f < 0 then 88 :: Lib.decDigits (-1 - f).toNat else symX nm f.toNat ++ parX (l.map (txT nm))
theorem txT_eq (nm : List By) (t : Tm) : txT nm t = if t.f < 0 then 88 :: Lib.decDigits (-1 - t.f).toNat else symX nm t.f.toNat ++ parX (t.l.map (txT nm)) := by cases t; rw [txT]
def txL (nm : List By) (l : Lt) : By := if trB l.b then (if l.neg then [126] else []) ++ txT nm l.a else txT nm l.a ++ ((if l.neg then [32, 33, 61, 32] else [32, 61, 32]) ++ txT nm l.b)
def txC (nm : List By) (c : List Lt) : By := if c = [] then neverB else joinW [32, 124, 32] (c.map (txL nm))
def txA (nm : List By) (l : List (List Lt)) : By := l.flatMap fun c => txC nm c ++ [46, 10]
def Tm.nk (N L : Nat) : Tm → Prop
  | ⟨f, l⟩ => (-9223372036854775808 ≤ f ∧ (f < 0 → -1 - f < N) ∧ ((L : Int) ≤ f → f < N) ∧ l.length ≤ 1000000) ∧ ∀ s ∈ l, s.nk N L
theorem Tm.nk_iff (N L : Nat) (t : Tm) : t.nk N L ↔ (-9223372036854775808 ≤ t.f ∧ (t.f < 0 → -1 - t.f < N) ∧ ((L : Int) ≤ t.f → t.f < N) ∧ t.l.length ≤ 1000000) ∧ ∀ s ∈ t.l, s.nk N L := by cases t; rw [Tm.nk]
def cstO (sep : By) (l : List By) (o : Option By) (k : Nat) : Option By := if k = 0 then o else some (o.getD [] ++ joinW sep (l.take k))
theorem cst_getD (sep : By) (l : List By) (o : Option By) (k : Nat) : (cstO sep l o k).getD [] = o.getD [] ++ joinW sep (l.take k) := by
  unfold cstO
  split
  · rename_i e; subst e; simp [joinW]
  · rfl
theorem cst_step {sep : By} {l : List By} {o : Option By} {k : Nat} {y : By} (h : l[k]? = some y) : cstO sep l o (k + 1) = some ((if k = 0 then cstO sep l o k else some ((cstO sep l o k).getD [] ++ sep)).getD [] ++ y) := by
  have e : cstO sep l o (k + 1) = some (o.getD [] ++ joinW sep (l.take (k + 1))) := by unfold cstO; rw [if_neg (by omega)]
  rw [e, joinW_take sep h]
  by_cases h0 : k = 0
  · subst h0
    simp [cstO, joinW]
  · rw [if_neg h0, if_neg h0, Option.getD_some, cst_getD]
    simp
end Go.Proofs.YtebhbnhijnpmcaaGreatDoor
namespace Go.Proofs.YtebhbnhijnpmcaaGreatDoor
open Go.RowKit Go.MapKept
set_option linter.unusedVariables false
set_option linter.unusedSimpArgs false
set_option maxRecDepth 100000
section
variable {P : Program} {w0 : World} {U0 : UX} {nt : Nat} {ops : Array Oper} {o : Oper} {S : Nat → Option AV} {gs : List Nat} {d : Nat} {s : AS} {a : Act} {w : World} {D : Nat → Nat → Prop} {hv : Nat → Value}
end
end Go.Proofs.YtebhbnhijnpmcaaGreatDoor
namespace Go.Proofs.YtebhbnhijnpmcaaGreatDoor
open Go.RowKit Go.MapKept
set_option linter.unusedVariables false
set_option linter.unusedSimpArgs false
def QUp (q : (Nat → Nat → Prop) → World → Prop) : Prop := ∀ (U V : Nat → Nat → Prop) (w w' : World), q U w → Below w.heap.size w w' → (∀ b o, b < w.heap.size → U b o → V b o) → q V w'
def AFunQ (P : Program) (q : (Nat → Nat → Prop) → World → Prop) (f : FuncId) (args : List CV) (r : AV) : Prop :=
  EntF P f ∧ (r.t = 0 ∨ r.t = 4) ∧ r.n = 0 ∧ ∀ (U : Nat → Nat → Prop) (w : World) (vs : List Value), q U w → VReps U w args vs →
    Calls P f vs.toArray w fun e w' => ∃ v, e = .returned v ∧ RR (fun b o => U b o ∨ w.heap.size ≤ b) w' r v ∧ Below w.heap.size w w'
def AFunVQ (P : Program) (q : (Nat → Nat → Prop) → World → Prop) (fc : CV) (args : List CV) (r : AV) : Prop := ∃ f n l, fc = .fn f n l ∧ AFunQ P q f (l.take n ++ (args ++ l.drop n)) r

section
variable {P : Program} {w0 : World} {U0 : UX} {nt : Nat} {ops : Array Oper} {o : Oper} {S : Nat → Option AV} {gs : List Nat} {d : Nat} {s : AS} {a : Act} {w : World} {D : Nat → Nat → Prop} {hv : Nat → Value} {q : (Nat → Nat → Prop) → World → Prop}
def MapQ (b g : Nat) (l : List CV) (U : Nat → Nat → Prop) (w : World) : Prop :=
  w.cell? ⟨b, 0, none⟩ = some (.map (some g)) ∧ ∃ es clock, w.heap[g]? = some (.map es clock) ∧ Ents U w l es.toList
theorem afunQ_of {f : FuncId} {fn : Func} {c : Code} {args rs : List CV} (hf : P.funcs[f]? = some fn) (hn : fn.ntmps = nt) (hname : (fn.name == "runtime.NumGoroutine") = false) (hb : fn.body = some c) (hl : Nat.ble args.length nt = true) (hnt : Nat.blt nt 100000 = true)
    (h : ∀ (w : World) (U : UX), Hw w w U → q U.m w → AWp P w U nt c (fun e s' => (e = .normal ∨ e = .ret) ∧ resO P s' fn.results.toList = some rs) (argS args 0)) : AFunQ P q f args (resAV rs) := by
  have hr2 : ((resAV rs).t = 0 ∨ (resAV rs).t = 4) ∧ (resAV rs).n = 0 := by
    unfold resAV
    split
    · exact ⟨.inl rfl, rfl⟩
    · exact ⟨.inr rfl, rfl⟩
  refine ⟨ent_of hf hname (by rw [hb]; rfl), hr2.1, hr2.2, fun U w vs hq hargs => ?_⟩
  have hlen := hargs.len
  refine calls_of_wp hf hb ?_
  have hle := Nat.le_of_ble_eq_true hl
  have hnt := bL hnt
  have hno : ∀ {k av}, 100000 ≤ k → look (argS args 0) k = some av → False := fun {k av} h1 h2 => by rw [argS_none (by omega)] at h2; cases h2
  obtain ⟨V, hV⟩ : ∃ V : UX, V = ⟨U, fun _ => False, fun _ => none, fun _ _ h => by cases h⟩ := ⟨_, rfl⟩
  have hs : Sim w V nt (argS args 0) { tmps := vs.toArray ++ Array.replicate (fn.ntmps - vs.toArray.size) undef, defers := [] } w := by
    refine ⟨fun _ _ => False, fun _ => .slice none 0 0, BelowX.refl _ _, rfl, by simp [hn]; omega, fun d av h1 h2 => ?_, fun n o av h1 => (hno (by unfold fKey; omega) h1).elim, fun n o o' av av' h1 => (hno (by unfold fKey; omega) h1).elim, fun k av h1 h2 => (hno h2.1 h1).elim, fun k av g h1 h2 => (hno h2.1 h1).elim, fun k k' av av' g h1 h2 h3 => (hno h3.1 h1).elim, fun n g h1 => (by rw [hV] at h1; cases h1), fun b o hd => hd.elim⟩
    obtain ⟨_, c', h3, rfl⟩ := look_argS h1
    rw [Nat.sub_zero] at h3
    obtain ⟨v, h4, h5⟩ := hargs.at h3
    have hdl : d < vs.length := by
      rcases Nat.lt_or_ge d vs.length with h | h
      · exact h
      · rw [List.getElem?_eq_none h] at h4; cases h4
    refine ⟨v, ?_, avrep_val (h5.keep fun b o v hu hc => ⟨.inl ⟨World.block_lt_of_cell? w _ hc, by rw [hV]; exact ⟨hu, fun h => h⟩⟩, hc⟩)⟩
    rw [Array.getElem?_append_left (by simpa using hdl)]
    simpa using h4
  refine wp_mono ((h w V (by rw [hV]; exact ⟨fun _ => rfl, fun _ h => h⟩) (by rw [hV]; exact hq) ⟨none, []⟩ _ w hs).wp rfl (fun e a w ⟨s, _, h⟩ => h.df)) ?_
  rintro e a' w' ⟨s', ⟨h1, h2⟩, D, hv, h3⟩
  obtain ⟨v, h4, h5⟩ := res_run h3 h2
  have hR : RR (fun b o => U b o ∨ w.heap.size ≤ b) w' (resAV rs) v := by
    have hk : ∀ b o u, Us w V D b o → w'.cell? ⟨b, o, none⟩ = some u → (U b o ∨ w.heap.size ≤ b) ∧ w'.cell? ⟨b, o, none⟩ = some u := fun b o u hu hc => ⟨hu.imp (fun h => by rw [hV] at h; exact h.2.1) fun h => h.1, hc⟩
    unfold RR at h5 ⊢
    split
    · rename_i ht
      rw [if_pos ht] at h5
      obtain ⟨vs, h6, h7⟩ := h5
      exact ⟨vs, h6, h7.keep hk⟩
    · rename_i ht
      rw [if_neg ht] at h5
      exact h5.keep hk
  have hbw : Below w.heap.size w w' := h3.below.below (by rw [hV]; exact fun _ h => h)
  rcases h1 with rfl | rfl
  · exact ⟨h3.dfr, v, h4, v, rfl, hR, hbw⟩
  · exact ⟨h3.dfr, v, h4, v, rfl, hR, hbw⟩
end
end Go.Proofs.YtebhbnhijnpmcaaGreatDoor
namespace Go.Proofs.YtebhbnhijnpmcaaGreatDoor
open Go.RowKit
set_option linter.unusedVariables false
set_option linter.unusedSimpArgs false
def Tb (tb : Option (Nat × Obj)) (X : Nat → Prop) (w : World) : Prop := ∀ g x, tb = some (g, x) → ¬ X g ∧ w.heap[g]? = some x
theorem Tb.none {X : Nat → Prop} {w : World} : Tb none X w := fun g x h => by cases h
theorem Tb.lt {tb : Option (Nat × Obj)} {X : Nat → Prop} {w : World} (h : Tb tb X w) {g : Nat} {x : Obj} (e : tb = some (g, x)) : g < w.heap.size := by
  have := (h g x e).2
  rcases Nat.lt_or_ge g w.heap.size with h1 | h1
  · exact h1
  · rw [Array.getElem?_eq_none h1] at this; cases this
abbrev AFunT (P : Program) (tb : Option (Nat × Obj)) (f : FuncId) (args : List CV) (r : AV) : Prop := AFunQ P (fun _ w => Tb tb (fun _ => False) w) f args r
theorem AFunT.plain {P : Program} {W : World} {f : FuncId} {args : List CV} {r : AV} (h : AFunT P none f args r) : AFun P W f args r := ⟨h.1, h.2.1, h.2.2.1, fun U w vs _ hv => h.2.2.2 U w vs Tb.none hv⟩
def AFunOT (P : Program) (tb : Option (Nat × Obj)) (f : FuncId) (pre : AS) (args : List AV) (r : AV) (post : AS) : Prop :=
  EntF P f ∧ ∀ (U : UX) (w : World) (hv : Nat → Value) (a0 : Act) (vs : List Value), Tb tb U.x w → (∀ k v, U.f k = some v → hasN (kO pre) k = true) → SimG w U 0 pre a0 w (fun _ _ => False) hv → AVReps (Us w U (fun _ _ => False)) w hv (LiveN pre) args vs →
    Calls P f vs.toArray w fun e w' => ∃ v D' hv' a', e = .returned v ∧ SimG w U 0 post a' w' D' hv' ∧ AVRep (Us w U D') w' hv' (LiveN post) r v

section
variable {P : Program} {tb : Option (Nat × Obj)} {w0 : World} {U0 : UX} {nt : Nat} {ops : Array Oper} {o : Oper} {S : Nat → Option AV} {gs : List Nat} {d : Nat} {s : AS} {a : Act} {w : World} {D : Nat → Nat → Prop} {hv : Nat → Value}
theorem Tb.on (hT : Tb tb U0.x w0) (h : SimG w0 U0 nt s a w D hv) : Tb tb (fun _ => False) w := fun g x e => by
  obtain ⟨h1, h2⟩ := hT g x e
  exact ⟨id, by rw [h.below.block g (hT.lt e) h1]; exact h2⟩
theorem Tb.lend (hT : Tb tb U0.x w0) (h : SimG w0 U0 nt s a w D hv) {pre : AS} (hp : Sub s pre) (hl : pre.all lendB = true) {V : UX} (hVx : ∀ b, V.x b ↔ ∃ k av, look pre k = some av ∧ oKey k ∧ hb (hv k) = some b) : Tb tb V.x w := fun g x e => by
  refine ⟨fun hx => ?_, (hT.on h g x e).2⟩
  obtain ⟨k, av, h1, h2, h3⟩ := (hVx g).1 hx
  have h4 := all_look hl h1
  have ht7 : av.t ≠ 7 := fun e7 => by
    unfold oKey at h2
    unfold lendB at h4
    have h5 : Nat.ble 500000 k = false := by
      cases e : Nat.ble 500000 k with
      | false => rfl
      | true => have := Nat.le_of_ble_eq_true e; omega
    simp only [h5, e7, Bool.and_eq_true, Bool.not_eq_true'] at h4
    exact absurd h4.1.2 (by decide)
  obtain ⟨f1, _⟩ := h.blk k av g (hp _ _ h1) h2 ht7 h3
  have hlt := hT.lt e
  rcases f1 with f1 | f1
  · omega
  · exact (hT g x e).1 f1.2
theorem Tb.of {W : World} (hW : Hw W w0 U0) (hq : Tb tb (fun _ => False) w0) : Tb tb U0.x w0 := fun g x e => ⟨hW.2 g, (hq g x e).2⟩
theorem a_callT (hT : Tb tb U0.x w0) {f : FuncId} {xs : Array Operand} {ts : Array TypeId} {cs : List CV} {r : AV} (hg : Gd w0 U0 nt ops o gs S) (hd : o.dst = some d) (hn : Nat.blt d nt = true) (h5 : Nat.blt d 100000 = true)
    (ho : o.op = .call { callee := .value (.func f), args := xs, argTypes := ts }) (hx : evsO S xs.toList = some cs) (hc : AFunT P tb f cs r) : AOp P w0 U0 nt ops o (gs ++ rdl xs.toList) [] S [(d, r)] := by
  intro s hs _ a w ⟨D, hv, h⟩ Q K hK
  rw [if_pos (hg s (fun k hk => hs k (List.mem_append_left _ hk)) a w D hv h)]
  have hargs := evsO_rep h (fun k hk => hs k (List.mem_append_right _ hk)) hx
  obtain ⟨h1, h2, h3, h4⟩ := hc
  have hcall := h4 _ w _ (hT.on h) hargs
  have he : (execOp a.eval o).run P w = .ok (.enter f (xs.toList.map a.eval).toArray) w := by
    have hf : a.eval (.func f) = .func (.func f) #[] #[] := rfl
    have hen := h1 (xs.map a.eval) w
    have harr : (xs.toList.map a.eval).toArray = xs.map a.eval := by apply Array.ext'; simp
    rw [harr]
    generalize a.eval = ρ at hf hen ⊢
    simp [execOp, ho, resolve, invoke, Deferred.ofValue, hf, hen]
  unfold Oper.wp
  rw [he, Oper.upon_enter]
  refine hcall.mono ?_
  rintro e w' ⟨v, rfl, h6, h7⟩
  rw [hd]
  refine hK _ _ ⟨Dn D w w', hv, (h.growN h7).put (bL hn) (bL h5) (avrep_rr h2 h3 (us_of_rr rfl h7.size h.below.size h6))⟩
theorem a_callOT (hT : Tb tb U0.x w0) {f : FuncId} {xs : Array Operand} {ts : Array TypeId} {avs : List AV} {r : AV} {pre post : AS} (hg : Gd w0 U0 nt ops o gs S) (hd : o.dst = some d) (hn : Nat.blt d nt = true) (h5 : Nat.blt d 100000 = true)
    (ho : o.op = .call { callee := .value (.func f), args := xs, argTypes := ts }) (hx : evsA S xs.toList = some avs) (hc : AFunOT P tb f pre avs r post) (hp : SubS S pre) (hl : pre.all lendB = true) (hq : post.all (leaveB (kO post)) = true) (hks : (kO pre).all (hasN (kO post)) = true) (hr : refB (kO post) r = true) (hnb : ∀ k v, U0.f k = some v → hasN (kO post) k = true → hasN (kO pre) k = true) :
    AOp P w0 U0 nt ops o (gs ++ (rdl xs.toList ++ kO pre)) (newN (kO pre) (kO post) (kO post)) S ((d, r) :: post) := by
  intro s hs hN a w ⟨D, hv, h⟩ Q K hK
  rw [if_pos (hg s (fun k hk => hs k (List.mem_append_left _ hk)) a w D hv h)]
  have hargs := evsA_rep h (fun k hk => hs k (List.mem_append_right _ (List.mem_append_left _ hk))) hx
  have hsub : Sub s pre := fun k av h1 => (hs k (List.mem_append_right _ (List.mem_append_right _ (mem_keys h1)))).trans (hp.look h1)
  obtain ⟨V, v1, v2, v3, v4, v5, v6⟩ := h.lend hsub hl
  obtain ⟨h1, h2⟩ := hc
  have hcall := h2 V w hv ⟨#[], []⟩ _ (hT.lend h hsub hl v3) v1 v2 (hargs.imp fun c _ v hcv => hcv.move v6 (fun _ h3 => h3.imp id fun ⟨e, he⟩ => ⟨e, hsub _ _ he.1, he.2⟩) fun _ => rfl)
  have he : (execOp a.eval o).run P w = .ok (.enter f (xs.toList.map a.eval).toArray) w := by
    have hf : a.eval (.func f) = .func (.func f) #[] #[] := rfl
    have hen := h1 (xs.map a.eval) w
    have harr : (xs.toList.map a.eval).toArray = xs.map a.eval := by apply Array.ext'; simp
    rw [harr]
    generalize a.eval = ρ at hf hen ⊢
    simp [execOp, ho, resolve, invoke, Deferred.ofValue, hf, hen]
  unfold Oper.wp
  rw [he, Oper.upon_enter]
  refine hcall.mono ?_
  rintro e w' ⟨v, D', hv', a', rfl, h6, h7⟩
  rw [hd]
  obtain ⟨D2, hv2, h8, h9⟩ := h.back hsub hl hq hks hN hnb v3 v4 v5 v2 h6
  exact hK _ _ ⟨D2, hv2, h8.put (bL hn) (bL h5) (h9.1 r v hr h7)⟩

theorem afunOT_of {f : FuncId} {fn : Func} {c : Code} {pre post : AS} {args : List AV} {r : AV} (hf : P.funcs[f]? = some fn) (hn : fn.ntmps = nt) (hname : (fn.name == "runtime.NumGoroutine") = false) (hb : fn.body = some c) (hl : Nat.ble args.length nt = true) (hnt : Nat.blt nt 100000 = true) (hpre : (kO pre).all (Nat.ble 100000) = true) (hpost : (kO post).all (Nat.ble 100000) = true)
    (h : ∀ (w : World) (U : UX), (∀ k v, U.f k = some v → hasN (kO pre) k = true) → Tb tb U.x w → AWp P w U nt c (fun e s' => (e = .normal ∨ e = .ret) ∧ EndO P w U nt fn s' r post) (argA args 0 ++ pre)) : AFunOT P tb f pre args r post := by
  refine ⟨ent_of hf hname (by rw [hb]; rfl), fun U w hv a0 vs hT hU hpS hargs => ?_⟩
  have hlen := hargs.len
  refine calls_of_wp hf hb ?_
  have hle := Nat.le_of_ble_eq_true hl
  have hnt := bL hnt
  have hlow : ∀ {k av}, look pre k = some av → 100000 ≤ k := fun {k av} h1 => by
    rw [List.all_eq_true] at hpre
    exact Nat.le_of_ble_eq_true (hpre k (mem_keys h1))
  have hlk : ∀ {k}, 100000 ≤ k → look (argA args 0 ++ pre) k = look pre k := fun {k} h1 => by
    rw [look_append]
    cases h2 : look (argA args 0) k with
    | none => rfl
    | some av =>
      obtain ⟨_, h3⟩ := look_argA h2
      rw [Nat.sub_zero, List.getElem?_eq_none (by omega)] at h3
      cases h3
  have hlive : LiveN (argA args 0 ++ pre) = LiveN pre := by
    funext n
    unfold LiveN Live
    apply propext
    constructor
    · rintro (h1 | ⟨e, h1, h2, h3⟩)
      · exact .inl h1
      · rw [hlk (by omega)] at h1; exact .inr ⟨e, h1, h2, h3⟩
    · rintro (h1 | ⟨e, h1, h2, h3⟩)
      · exact .inl h1
      · exact .inr ⟨e, by rw [hlk (by omega)]; exact h1, h2, h3⟩
  have hs : Sim w U nt (argA args 0 ++ pre) { tmps := vs.toArray ++ Array.replicate (fn.ntmps - vs.toArray.size) undef, defers := [] } w := by
    refine ⟨fun _ _ => False, hv, hpS.below, rfl, by simp [hn]; omega, fun d av h1 h2 => ?_, fun n o av h1 h2 h3 h4 => ?_, fun n o o' av av' h1 h2 => ?_, fun k av h1 h2 => ?_, fun k av g h1 h2 => ?_, fun k k' av av' g h1 h2 h3 h4 => ?_, hpS.fix, fun b o hd => hd.elim⟩
    · rw [look_append] at h1
      cases h3 : look (argA args 0) d with
      | none =>
        rw [h3] at h1
        have := hlow h1
        omega
      | some av' =>
        rw [h3] at h1
        cases h1
        obtain ⟨_, h4⟩ := look_argA h3
        rw [Nat.sub_zero] at h4
        obtain ⟨v, h6, h7⟩ := hargs.at h4
        have hdl : d < vs.length := by
          rcases Nat.lt_or_ge d vs.length with h | h
          · exact h
          · rw [List.getElem?_eq_none h] at h6; cases h6
        rw [hlive]
        refine ⟨v, ?_, h7⟩
        rw [Array.getElem?_append_left (by simpa using hdl)]
        simpa using h6
    · rw [hlk (by unfold fKey; omega)] at h1
      rw [hlk (by omega)] at h3
      rw [hlive]
      exact hpS.fld n o av h1 h2 h3 h4
    · rw [hlk (by unfold fKey; omega)] at h1 h2
      exact hpS.fdis n o o' av av' h1 h2
    · rw [hlk h2.1] at h1; rw [hlive]; exact hpS.obj k av h1 h2
    · rw [hlk h2.1] at h1; exact hpS.blk k av g h1 h2
    · rw [hlk h3.1] at h1; rw [hlk h4.1] at h2; exact hpS.disj k k' av av' g h1 h2 h3 h4
  refine wp_mono ((h w U hU hT ⟨none, []⟩ _ w hs).wp rfl (fun e a w ⟨s, _, h⟩ => h.df)) ?_
  rintro e a' w' ⟨s', ⟨h1, s2, g1, g2, g3⟩, h3⟩
  obtain ⟨D', hv', h4⟩ := g1 a' w' h3
  obtain ⟨v, h5, h6⟩ := resA_run h4 g2
  have hS := h4.sub g3.sub
  have hlow2 : ∀ {k av}, look post k = some av → 100000 ≤ k := fun {k av} h1 => by
    rw [List.all_eq_true] at hpost
    exact Nat.le_of_ble_eq_true (hpost k (mem_keys h1))
  have hS0 : SimG w U 0 post ⟨#[], []⟩ w' D' hv' := ⟨hS.below, rfl, rfl, fun d av h7 h8 => by have := hlow2 h7; omega, hS.fld, hS.fdis, hS.obj, hS.blk, hS.disj, hS.fix, hS.dlt⟩
  rcases h1 with rfl | rfl
  · exact ⟨h4.dfr, v, h5, v, D', hv', _, rfl, hS0, h6.move (fun _ _ _ h1 h2 => ⟨h1, h2⟩) (fun _ h7 => h7.imp id fun ⟨e, he⟩ => ⟨e, g3.sub _ _ he.1, he.2⟩) fun _ => rfl⟩
  · exact ⟨h4.dfr, v, h5, v, D', hv', _, rfl, hS0, h6.move (fun _ _ _ h1 h2 => ⟨h1, h2⟩) (fun _ h7 => h7.imp id fun ⟨e, he⟩ => ⟨e, g3.sub _ _ he.1, he.2⟩) fun _ => rfl⟩
end
section
variable {P : Program} {w0 : World} {U0 : UX} {nt : Nat} {ops : Array Oper} {o : Oper} {S : Nat → Option AV} {gs : List Nat} {d : Nat} {s : AS} {a : Act} {w : World} {D : Nat → Nat → Prop} {hv : Nat → Value}

theorem SimG.turn (h : SimG w0 U0 nt s a w D hv) {k0 : Nat} (h5 : oKey k0) {av0 av : AV} (h0 : look s k0 = some av0) (ht0 : av0.t ≠ 7) (hk3 : 300000 ≤ k0) (hne9 : av ≠ .obj) (ht6' : av0.t ≠ 6) (ht6 : av.t ≠ 6) {g : Nat} (hg : hb (hv k0) = some g) {w' : World} (hos : w'.os = w.os) (htp : w'.tape = w.tape) (hou : w'.output = w.output) (hsize : w'.heap.size = w.heap.size) (hoth : ∀ k, k ≠ g → w'.heap[k]? = w.heap[k]?) (hoc : (∀ b o v, Us w0 U0 D b o → w.cell? ⟨b, o, none⟩ = some v → Us w0 U0 D b o ∧ w'.cell? ⟨b, o, none⟩ = some v) → OC (Us w0 U0 D) w' hv (LiveN s) av (hv k0)) :
    SimG w0 U0 nt ((k0, av) :: s) a w' D hv := by
  obtain ⟨hbase, hlt0, hD⟩ := h.blk k0 av0 g h0 h5 ht0 hg
  have h5' := h5
  unfold oKey at h5'
  have hD' : ∀ o, ¬ D g o := fun o => hD o fun e => absurd e ht6'
  have hl : ∀ n e, Live ((k0, av) :: s) n e ↔ Live s n e := fun n e => by
    unfold Live
    by_cases e1 : k0 = n
    · subst e1
      rw [lS, h0]
      constructor
      · rintro ⟨h1, _⟩; cases h1; exact absurd rfl ht6
      · rintro ⟨h1, _⟩; cases h1; exact absurd rfl ht6'
    · rw [lN e1]
  have hl2 : LiveN ((k0, av) :: s) = LiveN s := by funext k; simp only [LiveN, hl]
  have hkeep : ∀ b o v, Us w0 U0 D b o → w.cell? ⟨b, o, none⟩ = some v → Us w0 U0 D b o ∧ w'.cell? ⟨b, o, none⟩ = some v := fun b o v hu hc => by
    refine ⟨hu, ?_⟩
    rw [World.cell?_of_block (w := w) (hoth b (us_ne hu hbase (hD' o)))]
    exact hc
  refine ⟨⟨hos.trans h.below.os, htp.trans h.below.tape, hou.trans h.below.output, by rw [hsize]; exact h.below.size, fun k hk hkx => ?_⟩, h.dfr, h.size, fun d av' h1 h2 => ?_, fun n o av' h1 h2 h3 h10 => ?_, fun n o o' av1 av2 h1 h2 => ?_, fun k av' h1 h2 => ?_, fun k av' g' h1 h2 h3 h4 => ?_, fun k k' av1 av2 g' h1 h2 h3 h4 h6 h7 hne => ?_, h.fix, fun b o hd => ?_⟩
  · rw [hoth k]
    · exact h.below.block k hk hkx
    · rintro rfl
      rcases hbase with h1 | h1
      · omega
      · exact hkx h1.2
  · rw [lN (by omega)] at h1
    rw [hl2]
    obtain ⟨v, h3, h4⟩ := h.slot d av' h1 h2
    exact ⟨v, h3, h4.keep hkeep⟩
  · rw [lN (by unfold fKey; omega)] at h1
    have hne : k0 ≠ 100000 + n := fun e => by subst e; rw [lS] at h3; cases h3; exact hne9 rfl
    rw [lN hne] at h3
    rw [hl2]
    obtain ⟨v, h4, h6, h7⟩ := h.fld n o av' h1 h2 h3 h10
    refine ⟨v, h4.keep hkeep, h6, fun i hi => ?_⟩
    have hng : blkOf (hv (100000 + n)) ≠ g := by
      rintro e
      obtain ⟨g2, ys, ty2, e1, e2, e3⟩ := h.obj9 h3 h10
      have : hb (hv (100000 + n)) = some g := by rw [e1]; rw [e2] at e; rw [← e]; rfl
      exact h.disj k0 (100000 + n) av0 _ g h0 h3 h5 (bn_okey h10) ht0 (by simp) hne hg this
    rw [World.cell?_of_block (w := w) (hoth _ hng)]
    exact h7 i hi
  · rw [lN (by unfold fKey; omega)] at h1 h2
    exact h.fdis n o o' av1 av2 h1 h2
  · rw [hl2]
    by_cases e : k0 = k
    · subst e
      rw [lS] at h1
      cases h1
      exact hoc hkeep
    · rw [lN e] at h1
      by_cases h7 : av'.t = 7
      · exact oc_no h7
      · exact (h.obj k av' h1 h2).move hkeep (fun _ hl => ⟨hl, rfl⟩) fun g' hg' => hoth g' fun e2 => h.disj k0 k av0 av' g h0 h1 h5 h2 ht0 h7 e hg (e2 ▸ hg')
  · rw [hsize]
    by_cases e : k0 = k
    · subst e
      rw [lS] at h1
      cases h1
      obtain ⟨g1, g2, g3⟩ := h.blk k0 av0 g' h0 h5 ht0 h4
      rw [lcl_row hk3] at g1 ⊢
      exact ⟨g1.imp id fun e => ⟨ht6, e.2⟩, g2, fun o _ => g3 o fun e => absurd e ht6'⟩
    · rw [lN e] at h1
      exact h.blk k av' g' h1 h2 h3 h4
  · have conv : ∀ q (aq : AV), look ((k0, av) :: s) q = some aq → aq.t ≠ 7 → ∃ aq', look s q = some aq' ∧ aq'.t ≠ 7 := fun q aq h8 h9 => by
      by_cases e : k0 = q
      · exact ⟨av0, by rw [← e]; exact h0, ht0⟩
      · rw [lN e] at h8; exact ⟨aq, h8, h9⟩
    obtain ⟨a1, b1, c1⟩ := conv k av1 h1 h6
    obtain ⟨a2, b2, c2⟩ := conv k' av2 h2 h7
    exact h.disj k k' a1 a2 g' b1 b2 h3 h4 c1 c2 hne
  · rw [hsize]; exact h.dlt b o hd
theorem SimG.addV (h : SimG w0 U0 nt s a w D hv) {n q : Nat} (hbn : BN n) (hob : look s (100000 + n) ≠ some .obj) (hq : q < 100) {av : AV} (ho : ∀ o av', look s (fKey n o) = some av' → o < 100 → (q < o → q + av.sz ≤ o) ∧ (o < q → o + av'.sz ≤ q)) : SimG w0 U0 nt ((fKey n q, av) :: s) a w D hv := by
  have hfk : ∀ {m o : Nat}, o < 100 → fKey m o = fKey n q → m = n ∧ o = q := fun {m o} ho e => by unfold fKey at e; omega
  have hlk : ∀ {k}, k ≠ fKey n q → look ((fKey n q, av) :: s) k = look s k := fun {k} hk => lN (Ne.symm hk)
  have hl : ∀ m e, Live ((fKey n q, av) :: s) m e ↔ Live s m e := fun m e => by
    unfold Live
    constructor
    · rintro ⟨g1, g2⟩; rw [hlk (by unfold fKey; omega)] at g1; exact ⟨g1, g2⟩
    · rintro ⟨g1, g2⟩; exact ⟨by rw [hlk (by unfold fKey; omega)]; exact g1, g2⟩
  have hl2 : LiveN ((fKey n q, av) :: s) = LiveN s := by funext k; simp only [LiveN, hl]
  refine ⟨h.below, h.dfr, h.size, fun d av' g1 g2 => ?_, fun m o av' g1 g2 g3 g4 => ?_, fun m o o' av1 av2 g1 g2 g3 g4 g5 => ?_, fun k av' g1 g2 => ?_, fun k av' g' g1 g2 g3 g4 => ?_, fun k k' av1 av2 g' g1 g2 g3 g4 => ?_, h.fix, h.dlt⟩
  · rw [hlk (by unfold fKey; omega)] at g1
    rw [hl2]
    exact h.slot d av' g1 g2
  · rw [hlk (by unfold fKey BN at *; omega)] at g3
    rw [hl2]
    by_cases e : fKey m o = fKey n q
    · obtain ⟨rfl, rfl⟩ := hfk g2 e
      rw [lS] at g1
      cases g1
      exact absurd g3 hob
    · rw [hlk e] at g1
      exact h.fld m o av' g1 g2 g3 g4
  · by_cases e1 : fKey m o = fKey n q
    · obtain ⟨rfl, rfl⟩ := hfk g3 e1
      rw [lS] at g1
      cases g1
      rw [hlk (by unfold fKey; omega)] at g2
      exact (ho o' av2 g2 g4).1 g5
    · rw [hlk e1] at g1
      by_cases e2 : fKey m o' = fKey n q
      · obtain ⟨rfl, rfl⟩ := hfk g4 e2
        exact (ho o av1 g1 g3).2 g5
      · rw [hlk e2] at g2
        exact h.fdis m o o' av1 av2 g1 g2 g3 g4 g5
  · have g2' := g2
    unfold oKey at g2'
    rw [hlk (by unfold fKey; omega)] at g1
    rw [hl2]
    exact h.obj k av' g1 g2
  · have g2' := g2
    unfold oKey at g2'
    rw [hlk (by unfold fKey; omega)] at g1
    exact h.blk k av' g' g1 g2 g3 g4
  · have g3' := g3
    have g4' := g4
    unfold oKey at g3' g4'
    rw [hlk (by unfold fKey; omega)] at g1 g2
    exact h.disj k k' av1 av2 g' g1 g2 g3 g4

abbrev u8v (b : UInt8) : CV := .sc (.int .u8 (b.toNat : Int))
theorem u8_rep {U : Nat → Nat → Prop} {w : World} : ∀ {l : List UInt8} {xs : List Value}, Sq ((l.map u8v).map fun c => Rep U w c) xs ↔ xs = Lib.byteCells l
  | [], xs => Iff.rfl
  | b :: l, xs => by
    constructor
    · rintro ⟨x, y, rfl, h1, h2⟩
      rw [u8_rep.1 h2]
      obtain ⟨rfl, _⟩ := rep_sc.1 h1
      rfl
    · rintro rfl
      exact ⟨[.int .u8 (b.toNat : Int)], Lib.byteCells l, rfl, rep_sc.2 ⟨rfl, rfl⟩, u8_rep.2 rfl⟩
theorem run_appS {t u ty e : TypeId} (ht : P.underlying t = some (.slice e)) (hu : P.underlying u = some .string) (hi : (P.info? e).map (fun i => (i.zero, i.size, i.bytes)) = some (some (.int .u8 0), 1, 1)) {v : Value} {n : Nat} {xs : List Value} (hown : w.ownsRow 0 e 1 v n xs) (sb : ByteArray) (hb : n + sb.size ≤ 140737488355328) :
    ∃ v' w', Sem.run P (Builtin.append_ #[t, u] ty #[v, .string sb]) w = .ok v' w' ∧ w'.ownsRow 0 e 1 v' (n + sb.size) (xs ++ Lib.strCells sb) ∧ w.grownBy w' v.ownBlock ∧ (v'.ownBlock = v.ownBlock ∨ (w.grownBy w' none ∧ ∀ g, v'.ownBlock = some g → w.heap.size ≤ g)) := by
  obtain ⟨i, i1, i2, i3, i4⟩ := info_parts hi
  have h63 : n + sb.size ≤ maxLen := by unfold maxLen; omega
  obtain ⟨v', w', r1, r2, r3, _⟩ := Lib.run_append_own_string (P := P) w 0 t u ty e i ht hu i1 i2 i3 i4 v n xs hown sb h63 hb (Nat.zero_le _)
  refine ⟨v', w', r1, r2, r3, ?_⟩
  rcases hown.2 with ⟨rfl, rfl⟩ | ⟨g, cap, cur, rfl, hbg, hg, hnc, hcm, hcs, htake⟩
  · have hx0 : xs = [] := List.eq_nil_of_length_eq_zero (by simpa using hown.1)
    subst hx0
    obtain ⟨v2, w2, q1, q2, q3, _⟩ := Lib.run_append_own_string (P := P) w w.heap.size t u ty e i ht hu i1 i2 i3 i4 (.slice none 0 0) 0 [] (World.ownsRow_nil w _ e 1) sb h63 hb (Nat.le_refl _)
    rw [r1] at q1
    injection q1 with q1 q1'
    subst q1
    subst q1'
    refine .inr ⟨r3, fun g hg => ?_⟩
    exact (q2.lt g hg).1
  · by_cases hroom : n + sb.size ≤ cap
    · have hcs' : cur.size = cap := by simpa using hcs
      have hr := Lib.run_append_room_string (P := P) w t u ty e i ht hu i1 i3 g n cap cur hg sb hroom (by omega)
      rw [r1] at hr
      injection hr with hr hr'
      subst hr
      exact .inl rfl
    · have hxl : xs.length = n := by simpa using hown.1
      have holds : ∀ j u, xs[j]? = some u → w.cell? ((⟨g, 0, none⟩ : Addr).add j) = some u := hown.cells (g := g) rfl
      have hr := Lib.run_append_grow_string (P := P) w t u ty e i (.int .u8 0) ht hu i1 i2 ⟨g, 0, none⟩ n cap xs (by rw [i3]; simpa using hxl) holds sb (by omega) (by omega) (by rw [i4]; exact growslice_fits (by omega) (by omega))
      rw [r1] at hr
      injection hr with hr hr'
      subst hr
      subst hr'
      exact .inr ⟨⟨rfl, rfl, rfl, by simp, fun k hk _ => heap_alloc_old w.drew _ hk⟩, fun g' hg' => by cases hg'; exact Nat.le_refl _⟩
theorem a_appS (nn : Nat) (hg : Gd w0 U0 nt ops o gs S) (hd : o.dst = some d) (hn : Nat.blt d nt = true) (h5 : Nat.blt d 100000 = true) {x y : Operand} {t u e : Nat} {l l2 : List UInt8} {n len n2 q2 p2} (ho : o.op = .call { callee := .builtin .append, args := #[x, y], argTypes := #[t, u] }) (ht : P.underlying t = some (.slice e)) (hu : P.underlying u = some .string) (hi : (P.info? e).map (fun i => (i.zero, i.size, i.bytes)) = some (some (.int .u8 0), 1, 1))
    (hx : ev S x = some (.sl n 0 len 1)) (hy : ev S y = some ⟨0, sv l2, n2, q2, p2⟩) (hn2 : (Nat.ble 200000 nn && Nat.blt nn 400000) = true) (hne : (!Nat.beq n nn && (Nat.blt n 300000 || Nat.ble 300000 nn)) = true) (hlv : S n = some (.mrow e 1 (l.map u8v))) (hlen : len = l.length) (hbd : l.length + l2.length ≤ 100000000000) :
    AOp P w0 U0 nt ops o (gs ++ (rd x ++ (rd y ++ [n]))) [(nn, [])] S [(d, .sl nn 0 (l ++ l2).length 1), (nn, .mrow e 1 ((l ++ l2).map u8v)), (n, .no)] := by
  intro s hs hN a w ⟨D, hv, h⟩ Q K hK
  rw [if_pos (hg s (fun k hk => hs k (List.mem_append_left _ hk)) a w D hv h)]
  obtain ⟨hrn, hsl⟩ : RN n ∧ SlV (hv n) 0 len 1 (a.eval x) := ev_rep h (fun k hk => hs k (List.mem_append_right _ (List.mem_append_left _ hk))) hx
  have hyv := ev_sc h (fun k hk => hs k (List.mem_append_right _ (List.mem_append_right _ (List.mem_append_left _ hk)))) hy
  have hrn2 := rnB hn2
  have hrn' := hrn
  unfold RN at hrn'
  have hok : oKey n := ⟨by omega, by omega⟩
  have hlk := (hs n (by simp)).trans hlv
  obtain ⟨xs, g1, g2, g3, g4⟩ := h.mrow hlk hrn
  have hxs : xs = Lib.byteCells l := u8_rep.1 g4
  subst hxs
  rw [List.length_map] at g1
  have hval : a.eval x = hv n := by
    obtain ⟨ao, m, cap, ao', e1, e2, e3, e4, _⟩ := hsl
    obtain ⟨ao2, cap2, f1, f2, f3⟩ := own_addr g1
    rw [f1] at e1 ⊢
    injection e1 with e5 e6 e7
    subst e5; subst e6; subst e7
    rw [e2, e4 rfl, hlen]; rfl
  have hvs : hb (hv n) = (hv n).ownBlock := by
    rcases g1.2 with ⟨e1, e2⟩ | ⟨g, cap, cur, e1, _⟩
    · rw [e1]; rfl
    · rw [e1]; rfl
  rw [Bool.and_eq_true, Bool.or_eq_true] at hne
  have hne' : n ≠ nn := fun e => by rw [e, Nat.beq_refl] at hne; exact absurd hne.1 (by decide)
  have hroom : ∀ g, (hv n).ownBlock = some g → Mn w0 U0 (lcl nn (.mrow e 1 ((l ++ l2).map u8v))) g ∧ (∀ o, ¬ D g o) ∧ ∀ q av, look ((n, AV.no) :: s) q = some av → oKey q → av.t ≠ 7 → q ≠ nn → hb (hv q) ≠ some g := fun g hg => by
    rw [← hvs] at hg
    obtain ⟨f1, f2, f3⟩ := h.blk n _ g hlk hok (by simp) hg
    refine ⟨?_, fun o => f3 o (fun e => by cases e), fun q av h6 h7 h8 h9 => ?_⟩
    · rcases f1 with f1 | f1
      · exact .inl f1
      · rcases hne.2 with h6 | h6
        · rw [lcl_own (bL h6)] at f1; exact absurd rfl f1.1
        · exact .inr ⟨by rw [lcl_row (Nat.le_of_ble_eq_true h6)]; simp, f1.2⟩
    · have hq : n ≠ q := fun e => by subst e; rw [lS] at h6; cases h6; exact h8 rfl
      rw [lN hq] at h6
      exact h.disj n q _ av g hlk h6 hok h7 (by simp) h8 hq hg
  have hK2 := h.kill hok
  have hr : NoRef ((n, AV.no) :: s) nn := fun k av hk => by
    by_cases e : n = k
    · subst e
      rw [lS] at hk
      cases hk
      refine ⟨by show 0 ≠ _; omega, ?_⟩
      have hfn : fnm n = 100000 := by
        unfold fnm
        have : Nat.ble 500000 n = false := by
          cases hb : Nat.ble 500000 n with
          | false => rfl
          | true => have := Nat.le_of_ble_eq_true hb; omega
        rw [this]
      rw [hfn]
      omega
    · rw [lN e] at hk; exact (hN (nn, []) (by simp)).nr k av hk
  obtain ⟨v', w', r1, r2, r3, r4⟩ := run_appS (P := P) (ty := o.type) ht hu hi g1 ⟨l2.toArray⟩ (by rw [ba_size]; omega)
  have hsc : Lib.byteCells l ++ Lib.strCells ⟨l2.toArray⟩ = Lib.byteCells (l ++ l2) := by simp [Lib.byteCells, Lib.strCells]
  rw [hsc, ba_size, ← List.length_append] at r2
  have hb2 : hb v' = v'.ownBlock := by
    rcases r2.2 with ⟨rfl, _⟩ | ⟨g, cap, cur, rfl, _⟩ <;> rfl
  have hkp : ∀ b o u, Us w0 U0 D b o → w.cell? ⟨b, o, none⟩ = some u → Us w0 U0 D b o ∧ w'.cell? ⟨b, o, none⟩ = some u := fun b o u hu hc => by
    refine ⟨hu, ?_⟩
    have hlt : b < w.heap.size := World.block_lt_of_cell? w _ hc
    have hnb : some b ≠ (hv n).ownBlock := fun e => by
      obtain ⟨f1, f2, _⟩ := hroom b e.symm
      exact us_ne hu f1 (f2 o) rfl
    rw [World.cell?_of_block (w := w) (r3.block b hlt hnb)]
    exact hc
  have hG := hK2.newrow (avn := .mrow e 1 ((l ++ l2).map u8v)) (v' := v') (D' := D) (X := fun b => (hv n).ownBlock = some b) hrn2 hr (by simp) ⟨r3.os, r3.tape, r3.output, r3.size, fun b hb hx => r3.block b hb fun e => hx e.symm⟩ (fun b hb => ⟨(hroom b hb).1, (hroom b hb).2.2⟩) (fun g hg => by
      rw [hb2] at hg
      refine ⟨?_, (r2.lt g hg).2, fun o _ hd => ?_⟩
      · rcases r4 with r4 | ⟨_, r4⟩
        · exact .inl (r4 ▸ hg)
        · exact .inr (r4 g hg)
      · rcases r4 with r4 | ⟨_, r4⟩
        · exact (hroom g (r4 ▸ hg)).2.1 o hd
        · have := r4 g hg
          have := h.dlt _ _ hd
          omega) (fun b o hd => .inl hd) (fun b o hd => Nat.lt_of_lt_of_le (h.dlt _ _ hd) r3.size) hkp (fun hv lv => by
      refine ⟨Lib.byteCells (l ++ l2), ?_, Nat.one_pos, fun c hc => ?_, u8_rep.2 rfl⟩
      · show w'.ownsRow 0 e 1 v' ((l ++ l2).map u8v).length _
        rw [List.length_map]
        exact r2
      · obtain ⟨b, _, rfl⟩ := List.mem_map.1 hc
        rfl)
  have he : (execOp a.eval o).run P w = .ok (.value v') w' := by
    rw [← hval] at r1
    generalize a.eval = ρ at r1 hyv ⊢
    simp [execOp, ho, resolve, invoke, builtin, hyv, r1, Result.andThen]
  unfold Oper.wp
  rw [he, Oper.upon_value, hd]
  refine hK _ _ ⟨_, _, hG.put (bL hn) (bL h5) ?_⟩
  refine ⟨RW.rn hrn2, ?_⟩
  obtain ⟨a1, c1, e1, e2, e3⟩ := own_addr r2
  have := slV_all (z := 1) e1 e2 e3
  show SlV ((fun x => if x = nn then v' else hv x) nn) 0 (l ++ l2).length 1 v'
  simp only [if_true]
  exact this
end
section
variable {P : Program} {w0 : World} {U0 : UX} {nt : Nat} {ops : Array Oper} {o : Oper} {S : Nat → Option AV} {gs : List Nat} {d : Nat} {s : AS} {a : Act} {w : World} {D : Nat → Nat → Prop} {hv : Nat → Value}

theorem a_buildW (hg : Gd w0 U0 nt ops o gs S) (hd : o.dst = some d) (hn : Nat.blt d nt = true) (h5 : Nat.blt d 100000 = true) {t : TypeId} {x : Operand} {fs : Array Field} {it : TypeInfo} {l : List CV} {n0 q0 : Nat} {p0 : List Nat} (ho : o.op = .build t #[(0, x)]) (hu : P.underlying t = some (.struct fs)) (hi : P.info? t = some it) (hz : it.zero = some (.agg #[.slice none 0 0, .pointer none, .slice none 0 0])) (hsz : szO P fs.toList 0 = some [1, 2]) (hx : ev S x = some ⟨0, .lst l, n0, q0, p0⟩) :
    AOp P w0 U0 nt ops o (gs ++ rd x) [] S [(d, ⟨0, .row [.lst l, .row [.sc (.pointer none), .lst []]], 1, 0, [1, 1]⟩)] :=
  aop_val hg hd hn h5 (fun k hk => List.mem_append_left _ hk) fun s hs a w D hv hm => by
    have h1 := ev_val hm (fun k hk => hs k (List.mem_append_right _ hk)) hx
    obtain ⟨ao, k, c, e1, e2, e3⟩ := vrep_lst.1 h1
    obtain ⟨pl, q1, q2⟩ := szO_spec hsz
    obtain ⟨segs, hsegs⟩ : ∃ segs : List (List Value), segs = [[.slice none 0 0], [.pointer none, .slice none 0 0]] := ⟨_, rfl⟩
    have hcells : (a.eval x).cells.toList = [a.eval x] := by rw [e1]; rfl
    have hfill := fill_segs (place := fun i => pl.toArray[i]?) [1, 2] (fun i z hz => by rw [List.getElem?_toArray, q2 i z hz, Nat.zero_add]) [(0, a.eval x)] segs #[.slice none 0 0, .pointer none, .slice none 0 0] (by rw [hsegs]; rfl) (by rw [hsegs]; rfl) (fun y hy => by
      rw [List.mem_singleton.1 hy]
      show ([1, 2] : List Nat)[0]? = some (a.eval x).cells.size
      rw [e1]; rfl)
    have hset : (setAll segs [(0, a.eval x)]).flatten = [a.eval x, .pointer none, .slice none 0 0] := by
      rw [hsegs]
      show ((setAll _ _).flatten) = _
      simp [setAll, hcells]
    rw [hset] at hfill
    refine ⟨.agg [a.eval x, .pointer none, .slice none 0 0].toArray, ?_, ?_⟩
    · have hb : P.built t [(0, a.eval x)] = some [a.eval x, .pointer none, .slice none 0 0].toArray := by
        unfold Program.built
        rw [hi, hu]
        simp only [hz, q1]
        exact hfill
      have := run_build w t _ _ hb
      generalize a.eval = ρ at this ⊢
      simp [execOp, ho, this]
    · refine ⟨vrep_row.2 ⟨_, rfl, [a.eval x], [.pointer none, .slice none 0 0], rfl, ?_, [.pointer none, .slice none 0 0], [], rfl, ?_, rfl⟩, fun _ => ⟨2, .lst [], rfl, rfl⟩⟩
      · exact rep_lst.2 ⟨ao, k, c, by rw [e1], e2, e3⟩
      · refine rep_row.2 ?_
        exact ⟨[.pointer none], [.slice none 0 0], rfl, rep_sc.2 ⟨rfl, rfl⟩, [.slice none 0 0], [], rfl, rep_nil _ _, rfl⟩
theorem fnm_low {k : Nat} (h : k < 500000) : fnm k = 100000 := by
  unfold fnm
  have : Nat.ble 500000 k = false := by
    cases hb : Nat.ble 500000 k with
    | false => rfl
    | true => have := Nat.le_of_ble_eq_true hb; omega
  rw [this]
theorem a_allocW (hg : Gd w0 U0 nt ops o gs S) (hd : o.dst = some d) (hn : Nat.blt d nt = true) (h5 : Nat.blt d 100000 = true) {ty : TypeId} {it : TypeInfo} (ho : o.op = .alloc ty) (hi : P.info? ty = some it) (hz : it.zero = some (.agg #[.slice none 0 0, .pointer none, .slice none 0 0])) (hnf : ∀ v, U0.f 450001 = some v → False) : AOp P w0 U0 nt ops o gs [(350001, []), (300001, [])] S [(35500100, .val (.lst [])), (35500101, .bp 350001 1 []), (35500102, .sl 300001 0 0 1), (300001, .nmap), (450001, .wrt (.lst []) ty), (d, .bp 350001 0 []), (450001, .obj)] := by
  intro s hs hN a w ⟨D, hv, h⟩ Q K hK
  rw [if_pos (hg s hs a w D hv h)]
  have hd5 := bL h5
  have hbn : BN 350001 := .inr ⟨by omega, by omega⟩
  have he : (execOp a.eval o).run P w = .ok (.value (.pointer (some ⟨w.heap.size, 0, none⟩))) (w.alloc (.cells #[.slice none 0 0, .pointer none, .slice none 0 0] ty)) := by
    simp [execOp, ho, Instr.alloc, zeroValue, typeInfo, hi, hz, run_newVar, Value.cells]
  unfold Oper.wp
  rw [he, Oper.upon_value, hd]
  have hr := (hN (350001, []) (by simp)).nr
  have hr2 := (hN (300001, []) (by simp)).nr
  have hG := h.newboxN (d := d) (av := .obj) hbn hnf hr (bL hn) hd5 (.inr rfl) (xs := [.slice none 0 0, .pointer none, .slice none 0 0]) ty (fun e => by cases e) (fun e => by cases e)
  obtain ⟨hv1, hhv1⟩ : ∃ hv1 : Nat → Value, hv1 = fun k => if k = 100000 + 350001 then .pointer (some ⟨w.heap.size, 0, none⟩) else hv k := ⟨_, rfl⟩
  rw [← hhv1] at hG
  have hv450 : hv1 450001 = .pointer (some ⟨w.heap.size, 0, none⟩) := by rw [hhv1]; rfl
  have hG2 := hG.turn (k0 := 450001) (av := .wrt (.lst []) ty) (av0 := .obj) ⟨by omega, by omega⟩ (by rw [lN (by omega)]; exact lS _ _ _) (by simp) (by omega) (fun e => by cases e) (by simp) (by simp) (g := w.heap.size) (by rw [hv450]; rfl) rfl rfl rfl rfl (fun _ _ => rfl) (fun _ => by
    rw [hv450]
    exact ⟨⟨(fun e => by cases e), fun _ => ⟨w.heap.size, .slice none 0 0, rfl, alloc_new _ _, vrep_lst.2 ⟨none, 0, 0, rfl, rfl, Nat.le_refl _, by decide, fun _ => ⟨rfl, rfl⟩, [], .inl rfl, rfl⟩⟩⟩, (fun e => by cases e), (fun e => by cases e), (fun e => by cases e)⟩)
  have hnr : NoRef ((450001, AV.wrt (.lst []) ty) :: (d, AV.bp 350001 0 []) :: (100000 + 350001, AV.obj) :: s) 300001 := fun k av hk => by
    rw [look_cons] at hk
    split at hk
    · rename_i e; cases hk; subst e; rw [fnm_low (by omega)]; exact ⟨by simp, by omega, by omega⟩
    · rw [look_cons] at hk
      split at hk
      · rename_i e; cases hk; subst e; rw [fnm_low (by omega)]; exact ⟨by simp, by omega, by omega⟩
      · rw [look_cons] at hk
        split at hk
        · rename_i e; cases hk; subst e; rw [fnm_low (by omega)]; exact ⟨by simp, by omega, by omega⟩
        · exact hr2 k av hk
  have hG3 := hG2.newrow (n := 300001) (avn := .nmap) (v' := .map none) (D' := D) (X := fun _ => False) ⟨by omega, by omega⟩ hnr (fun e => by cases e) (BelowX.refl _ _) (fun b hb => hb.elim) (fun g hg => by cases hg) (fun b o hd => .inl hd) hG2.dlt (fun _ _ _ h1 h2 => ⟨h1, h2⟩) (fun hv lv => ⟨⟨fun _ => rfl, (fun e => by cases e)⟩, (fun e => by cases e), (fun e => by cases e), (fun e => by cases e)⟩)
  have hno : ∀ q av, q < 100 → look ((300001, AV.nmap) :: (450001, AV.wrt (.lst []) ty) :: (d, AV.bp 350001 0 []) :: (100000 + 350001, AV.obj) :: s) (fKey 350001 q) = some av → False := fun q av hq hk => by
    rw [lN (by unfold fKey; omega), lN (by unfold fKey; omega), lN (by unfold fKey; omega), lN (by unfold fKey; omega)] at hk
    have := (hr _ _ hk).2.1
    rw [fnm_key hq] at this
    exact this rfl
  have hnob : ∀ {t : AS}, look ((300001, AV.nmap) :: (450001, AV.wrt (.lst []) ty) :: t) (100000 + 350001) ≠ some .obj := fun {t} e => by
    rw [lN (by omega), lS] at e
    cases e
  have hG4 := hG3.addV (n := 350001) (q := 2) (av := .sl 300001 0 0 1) hbn hnob (by omega) (fun o av' h1 h2 => (hno o av' h2 h1).elim)
  have hG5 := hG4.addV (n := 350001) (q := 1) (av := .bp 350001 1 []) hbn (by rw [lN (by unfold fKey; omega)]; exact hnob) (by omega) (fun o av' h1 h2 => by
    rw [look_cons] at h1
    split at h1
    · rename_i e
      cases h1
      have : o = 2 := by unfold fKey at e; omega
      subst this
      exact ⟨fun _ => by show 1 + 1 ≤ 2; omega, fun h => by omega⟩
    · exact (hno o av' h2 h1).elim)
  have hG6 := hG5.addV (n := 350001) (q := 0) (av := .val (.lst [])) hbn (by rw [lN (by unfold fKey; omega), lN (by unfold fKey; omega)]; exact hnob) (by omega) (fun o av' h1 h2 => by
    rw [look_cons] at h1
    split at h1
    · rename_i e
      cases h1
      have : o = 1 := by unfold fKey at e; omega
      subst this
      exact ⟨fun _ => by show 0 + 1 ≤ 1; omega, fun h => by omega⟩
    · rw [look_cons] at h1
      split at h1
      · rename_i e
        cases h1
        have : o = 2 := by unfold fKey at e; omega
        subst this
        exact ⟨fun _ => by show 0 + 1 ≤ 2; omega, fun h => by omega⟩
      · exact (hno o av' h2 h1).elim)
  exact hK _ _ ⟨D, _, hG6⟩
theorem a_storeW (hg : Gd w0 U0 nt ops o gs S) (hd : o.dst = none) {x y : Operand} {ty : TypeId} {k' v' l'} {c0 : CV} {p : List Nat} {ty2 : TypeId} {l : List CV} (ho : o.op = .store ty x y) (hi : (P.info? ty).map (·.size) = some 3) (hx : ev S x = some ⟨2, ⟨k', v', l'⟩, 350001, 0, p⟩) (hb : S 450001 = some (.wrt c0 ty2)) (hf : S 35500100 = some (.val c0)) (hc0 : c0.size = 1) (hy : ev S y = some ⟨0, .row [.lst l, .row [.sc (.pointer none), .lst []]], 1, 0, [1, 1]⟩) : AOp P w0 U0 nt ops o (gs ++ (rd x ++ (rd y ++ [450001, 35500100]))) [] S [(35500100, .val (.lst l)), (450001, .wrt (.lst l) ty2)] := by
  intro s hs hN a w ⟨D, hv, h⟩ Q K hK
  rw [if_pos (hg s (fun k hk => hs k (List.mem_append_left _ hk)) a w D hv h)]
  obtain ⟨hbn, h1⟩ : BN 350001 ∧ a.eval x = .pointer (some ⟨blkOf (hv (100000 + 350001)), 0, none⟩) := ev_rep h (fun k hk => hs k (List.mem_append_right _ (List.mem_append_left _ hk))) hx
  obtain ⟨h2, h3⟩ : VRep (Us w0 U0 D) w (.row [.lst l, .row [.sc (.pointer none), .lst []]]) (a.eval y) ∧ Tk hv (LiveN s) ⟨0, .row [.lst l, .row [.sc (.pointer none), .lst []]], 1, 0, [1, 1]⟩ (a.eval y).cells.toList := ev_rep h (fun k hk => hs k (List.mem_append_right _ (List.mem_append_right _ (List.mem_append_left _ hk)))) hy
  have hlk := (hs 450001 (by simp)).trans hb
  have hO : OX (Us w0 U0 D) w (.wrt c0 ty2) (hv 450001) := h.obj 450001 _ hlk ⟨by omega, by omega⟩
  obtain ⟨g, nv, e1, e2, e3⟩ := hO.1.2 rfl
  obtain ⟨xs, f1, f2⟩ := vrep_row.1 h2
  obtain ⟨x1, r1, rfl, g1, x2, r2, rfl, g2, g3⟩ := f2
  have g3 : r2 = [] := g3
  subst g3
  obtain ⟨ao, k, c, rfl, q2⟩ := rep_lst.1 g1
  obtain ⟨y1, y2, rfl, g4, y3, y4, rfl, g5, g6⟩ := rep_row.1 g2
  have g6 : y4 = [] := g6
  subst g6
  obtain ⟨rfl, _⟩ := rep_sc.1 g4
  obtain ⟨ao2, k2, c2, rfl, _⟩ := rep_lst.1 g5
  have hnil : Value.slice ao2 k2 c2 = .slice none 0 0 := by
    obtain ⟨m, cc, a1, a2⟩ := h3 (.inl rfl)
    have a1 : some (2, CV.lst []) = some (m, cc) := a1
    cases a1
    rw [f1] at a2
    have a2 : some (Value.slice ao2 k2 c2) = some (tokv hv 1) := a2
    injection a2
  rw [hnil] at f1
  have hrun := run_storeTree (P := P) (w := w) (g := g) (q := 0) (ys := []) (zs := [nv, .pointer none, .slice none 0 0]) (us := []) hi e2 rfl (v := a.eval y) (vs := [.slice ao k c, .pointer none, .slice none 0 0]) (by rw [f1]; rfl) rfl rfl (by intro u hu; simp at hu; rcases hu with rfl | rfl | rfl <;> rfl)
  have hbk : blkOf (hv (100000 + 350001)) = g := by rw [show (100000 + 350001 : Nat) = 450001 from rfl, e1]; rfl
  rw [hbk] at h1
  have he : (execOp a.eval o).run P w = .ok .skip (w.setRow g #[.slice ao k c, .pointer none, .slice none 0 0]) := by
    generalize a.eval = ρ at h1 hrun ⊢
    simp [execOp, ho, Instr.storeAt, Instr.sureAddr, h1, hrun]
  unfold Oper.wp
  rw [he, Oper.upon_skip, hd]
  have hG := h.turn (k0 := 450001) (av := .wrt (.lst l) ty2) (av0 := .wrt c0 ty2) (w' := w.setRow g #[.slice ao k c, .pointer none, .slice none 0 0]) ⟨by omega, by omega⟩ hlk (by simp) (by omega) (fun e => by cases e) (by simp) (by simp) (g := g) (by rw [e1]; rfl) rfl rfl rfl (by simp) (fun k hk => setRow_other w g k _ hk) (fun hkp => by
    rw [e1]
    refine ⟨⟨(fun e => by cases e), fun _ => ⟨g, .slice ao k c, rfl, setRow_heap w _ _ _ _ _ e2, ?_⟩⟩, (fun e => by cases e), (fun e => by cases e), (fun e => by cases e)⟩
    exact (vrep_lst.2 ⟨ao, k, c, rfl, q2⟩ : VRep (Us w0 U0 D) w (.lst l) (.slice ao k c)).keep hkp)
  have hf' := (hs 35500100 (by simp)).trans hf
  refine hK _ _ ⟨D, hv, hG.addV (n := 350001) (q := 0) (av := .val (.lst l)) hbn (by rw [lS]; exact fun e => by cases e) (by omega) (fun o av' g1 g2 => ?_)⟩
  rw [lN (by unfold fKey; omega)] at g1
  refine ⟨fun hlt => ?_, fun hlt => by omega⟩
  have := h.fdis 350001 0 o _ av' hf' g1 (by omega) g2 hlt
  have hz : (AV.val c0).sz = 1 := hc0
  rw [hz] at this
  exact this
theorem a_loadW (hg : Gd w0 U0 nt ops o gs S) (hd : o.dst = some d) (hn : Nat.blt d nt = true) (h5 : Nat.blt d 100000 = true) {x : Operand} {ty : TypeId} {ds : TypeDesc} {k' v' l'} {p : List Nat} {ty2 : TypeId} {l : List CV} (ho : o.op = .load ty x) (hu : P.underlying ty = some ds) (hi : (P.info? ty).map (·.size) = some 1) (hx : ev S x = some ⟨2, ⟨k', v', l'⟩, 350001, 0, p⟩) (hb : S 450001 = some (.wrt (.lst l) ty2)) (hk : aggB ds = false) : AOp P w0 U0 nt ops o (gs ++ (rd x ++ [450001])) [] S [(d, .val (.lst l))] :=
  aop_val hg hd hn h5 (fun k hk => List.mem_append_left _ hk) fun s hs a w D hv hm => by
    obtain ⟨hbn, h1⟩ : BN 350001 ∧ a.eval x = .pointer (some ⟨blkOf (hv (100000 + 350001)), 0, none⟩) := ev_rep hm (fun k hk => hs k (List.mem_append_right _ (List.mem_append_left _ hk))) hx
    have hO : OX (Us w0 U0 D) w (.wrt (.lst l) ty2) (hv 450001) := hm.obj 450001 _ ((hs 450001 (by simp)).trans hb) ⟨by omega, by omega⟩
    obtain ⟨g, nv, e1, e2, e3⟩ := hO.1.2 rfl
    have hbk : blkOf (hv (100000 + 350001)) = g := by rw [show (100000 + 350001 : Nat) = 450001 from rfl, e1]; rfl
    rw [hbk] at h1
    obtain ⟨ao, k, c, rfl, q2⟩ := vrep_lst.1 e3
    obtain ⟨v, h4, h6, _⟩ := run_loadTree (P := P) (c := .lst l) (U := Us w0 U0 D) (w := w) (b := g) (off := 0) (xs := [.slice ao k c]) hu hi hk rfl (rep_lst.2 ⟨ao, k, c, rfl, q2⟩) (fun i hi => by
      have : i = 0 := by simp at hi; omega
      subst this
      simp only [World.cell?, e2]
      rfl)
    refine ⟨v, ?_, avrep_val h6⟩
    generalize a.eval = ρ at h1 ⊢
    simp [execOp, ho, Instr.loadAt, Instr.sureAddr, h1, h4]
end
end Go.Proofs.YtebhbnhijnpmcaaGreatDoor
-- @STR@
namespace Go.Proofs.YtebhbnhijnpmcaaGreatDoor
open Go.RowKit
set_option linter.unusedVariables false
set_option linter.unusedSimpArgs false
set_option maxRecDepth 100000

def pk {α : Type} (o : Option By) (a b : α) : α := match o with | none => a | some _ => b
noncomputable def wK (nm : List By) (o : Option By) : AV := ⟨pk o 23 9, pk o (.lst (nm.map sv)) (.row []), 0, pk o 63 0, []⟩
noncomputable def rK (o : Option By) : AV := ⟨pk o 17 13, .lst ((o.getD []).map u8v), 0, pk o 0 5, pk o [] [1]⟩
noncomputable abbrev wst (nm : List By) (o : Option By) : AS := [(450001, wK nm o), (35500100, .val (.lst (nm.map sv))), (35500101, .bp 350001 1 []), (35500102, .sl 300001 0 (o.getD []).length 1), (300001, rK o)]
theorem wst_lend (nm : List By) (o : Option By) : (wst nm o).all lendB = true := by cases o <;> kernel_rfl
theorem wst_leave (nm : List By) (o : Option By) : (wst nm o).all (leaveB (kO (wst nm o))) = true := by cases o <;> kernel_rfl
theorem look_wst {nm : List By} {o : Option By} {k : Nat} {av : AV} (h : look (wst nm o) k = some av) : (k = 450001 ∧ av = wK nm o) ∨ (k = 35500100 ∧ av = .val (.lst (nm.map sv))) ∨ (k = 35500101 ∧ av = .bp 350001 1 []) ∨ (k = 35500102 ∧ av = .sl 300001 0 (o.getD []).length 1) ∨ (k = 300001 ∧ av = rK o) := by
  rw [look_cons] at h
  split at h
  · rename_i e; cases h; exact .inl ⟨e.symm, rfl⟩
  rw [look_cons] at h
  split at h
  · rename_i e; cases h; exact .inr (.inl ⟨e.symm, rfl⟩)
  rw [look_cons] at h
  split at h
  · rename_i e; cases h; exact .inr (.inr (.inl ⟨e.symm, rfl⟩))
  rw [look_cons] at h
  split at h
  · rename_i e; cases h; exact .inr (.inr (.inr (.inl ⟨e.symm, rfl⟩)))
  rw [look_cons] at h
  split at h
  · rename_i e; cases h; exact .inr (.inr (.inr (.inr ⟨e.symm, rfl⟩)))
  · cases h
structure WrA (U : UX) (w : World) (hv : Nat → Value) (nm : List By) (o : Option By) (g : Nat) (nv pv bv : Value) : Prop where
  box : hv 450001 = .pointer (some ⟨g, 0, none⟩)
  blk : w.heap[g]? = some (.cells #[nv, pv, bv] 63 (0, 0)) ∨ (∃ ty xs, w.heap[g]? = some (.cells xs ty (0, 0)) ∧ o ≠ none)
  c0 : o = none → w.heap[g]? = some (.cells #[nv, .pointer none, .slice none 0 0] 63 (0, 0)) ∧ VRep (Us w U (fun _ _ => False)) w (.lst (nm.map sv)) nv
  c1 : w.cell? ⟨g, 1, none⟩ = some pv
  c2 : w.cell? ⟨g, 2, none⟩ = some bv
  p1 : pv = match o with | none => .pointer none | some _ => .pointer (some ⟨g, 1, none⟩)
  row : w.ownsRow 0 5 1 bv (o.getD []).length (Lib.byteCells (o.getD []))
  lent : U.x g ∧ g < w.heap.size
  bl : ∀ b, bv.ownBlock = some b → (U.x b ∧ b < w.heap.size)
theorem wst_mem {U : UX} {w : World} {hv : Nat → Value} {a0 : Act} {nm : List By} {o : Option By} (h : SimG w U 0 (wst nm o) a0 w (fun _ _ => False) hv) : ∃ g nv pv bv, WrA U w hv nm o g nv pv bv := by
  have hmn : ∀ k av g, look (wst nm o) k = some av → oKey k → av.t ≠ 7 → hb (hv k) = some g → 300000 ≤ k → U.x g ∧ g < w.heap.size := fun k av g h1 h2 h3 h4 h5 => by
    obtain ⟨f1, f2, _⟩ := h.blk k av g h1 h2 h3 h4
    refine ⟨?_, f2⟩
    rcases f1 with f1 | f1
    · omega
    · exact f1.2
  cases o with
  | none =>
    have hO : OX (Us w U (fun _ _ => False)) w (.wrt (.lst (nm.map sv)) 63) (hv 450001) := h.obj 450001 _ rfl ⟨by omega, by omega⟩
    obtain ⟨g, nv, e1, e2, e3⟩ := hO.1.2 rfl
    have e2 : w.heap[g]? = some (.cells #[nv, .pointer none, .slice none 0 0] 63 (0, 0)) := e2
    refine ⟨g, nv, .pointer none, .slice none 0 0, e1, .inl e2, fun _ => ⟨e2, e3⟩, by simp only [World.cell?, e2]; rfl, by simp only [World.cell?, e2]; rfl, rfl, World.ownsRow_nil w 0 _ 1, hmn 450001 _ g rfl ⟨by omega, by omega⟩ (by show (23 : Nat) ≠ 7; omega) (by rw [e1]; rfl) (by omega), fun b hb => by cases hb⟩
  | some bs =>
    obtain ⟨g, xs, ty, e1, e2, e3⟩ := h.obj9 (n := 350001) rfl (.inr ⟨by omega, by omega⟩)
    have e1 : hv 450001 = .pointer (some ⟨g, 0, none⟩) := e1
    have hbk : blkOf (hv (100000 + 350001)) = g := e2
    obtain ⟨v1, f1, f2, f3⟩ := h.fld 350001 1 _ rfl (by omega) rfl (.inr ⟨by omega, by omega⟩)
    obtain ⟨v2, q1, q2, q3⟩ := h.fld 350001 2 _ rfl (by omega) rfl (.inr ⟨by omega, by omega⟩)
    obtain ⟨_, f1⟩ : BN 350001 ∧ v1 = .pointer (some ⟨blkOf (hv (100000 + 350001)), 1, none⟩) := f1
    obtain ⟨_, q1⟩ : RN 300001 ∧ SlV (hv 300001) 0 bs.length 1 v2 := q1
    rw [hbk] at f1 f3 q3
    subst f1
    obtain ⟨ys, r1, r2, r3, r4⟩ := h.mrow (n := 300001) (e := 5) (z := 1) (l := bs.map u8v) rfl ⟨by omega, by omega⟩
    have hys := u8_rep.1 r4
    subst hys
    rw [List.length_map] at r1
    have hv2 : v2 = hv 300001 := by
      obtain ⟨ao, m, cap, ao', a1, a2, a3, a4, _⟩ := q1
      obtain ⟨ao2, cap2, b1, b2, b3⟩ := own_addr r1
      rw [b1] at a1 ⊢
      injection a1 with a5 a6 a7
      subst a5; subst a6; subst a7
      rw [a2, a4 rfl]; rfl
    subst hv2
    have hsl : ∃ ao k c, hv 300001 = .slice ao k c := by
      obtain ⟨ao2, cap2, b1, _⟩ := own_addr r1
      exact ⟨ao2, _, cap2, b1⟩
    obtain ⟨ao, k, c, hsl⟩ := hsl
    refine ⟨g, .nilFunc, .pointer (some ⟨g, 1, none⟩), hv 300001, e1, .inr ⟨ty, xs, e3, by simp⟩, (fun e => by cases e), ?_, ?_, rfl, r1, hmn 450001 _ g rfl ⟨by omega, by omega⟩ (by show (9 : Nat) ≠ 7; omega) (by rw [e1]; rfl) (by omega), fun b hb => ?_⟩
    · have := f3 0 (by show 0 < 1; omega)
      simpa [Value.cells] using this
    · rw [hsl] at q3 ⊢
      have := q3 0 (by show 0 < 1; omega)
      simpa [Value.cells] using this
    · refine hmn 300001 _ b rfl ⟨by omega, by omega⟩ (by show (13 : Nat) ≠ 7; omega) ?_ (by omega)
      rw [hsl] at hb ⊢
      cases ao with
      | none => cases hb
      | some ad => 
        rw [← hsl] at hb
        rcases r1.2 with ⟨z1, z2⟩ | ⟨g2, cap2, cur2, z1, _⟩
        · rw [hsl] at z1; cases z1
        · rw [hsl] at z1
          injection z1 with z1 z2 z3
          rw [z1]
          rw [hsl, z1] at hb
          exact hb
theorem cc_used_any (g : Nat) (w : World) (h1 : w.cell? ⟨g, 1, none⟩ = some (.pointer (some ⟨g, 1, none⟩))) :
    Calls Tryz.prog 39 #[.pointer (some ⟨g, 1, none⟩)] w fun e w' => e = .returned (.tuple #[]) ∧ w' = w := by
  go_enter Tryz.func39, Tryz.ntmps39
  go_wp2
  rw [Lib.run_neq_ptr_same w _ (P := Tryz.prog) (te := 61) (by rfl) (by rfl)]
  go_wp2
  go_end0
  exact ⟨rfl, rfl⟩
theorem cc_fresh_any (g : Nat) (nv : Value) (w : World) (hg : w.heap[g]? = some (.cells #[nv, .pointer none, .slice none 0 0] 63 (0, 0))) :
    Calls Tryz.prog 39 #[.pointer (some ⟨g, 1, none⟩)] w fun e w' => e = .returned (.tuple #[]) ∧ w' = w.setCell ⟨g, 1, none⟩ (.pointer (some ⟨g, 1, none⟩)) := by
  have h1 : w.cell? ⟨g, 1, none⟩ = some (.pointer none) := by simp only [World.cell?, hg]; rfl
  have hsh : w.shape? g = some (63, 3) := by simp [World.shape?, hg]
  have hfz : w.frozen? ⟨g, 1, none⟩ = false := by simp [World.frozen?, hg]
  go_enter Tryz.func39, Tryz.ntmps39
  go_wp2
  rw [Lib.run_to_unsafe (P := Tryz.prog) w ⟨g, 1, none⟩ (src := 58) (dst := 123) (t := 61) (by rfl) (by rfl) (by rfl) (by decide) hsh (by show 1 < 3; decide)]
  simp only [Result.andThen]
  rw [Oper.upon_value]
  go_wp2
  rw [run_callFunc_extern Tryz.func49 (by kernel_rfl) (by kernel_rfl) (by kernel_rfl) (e := Extern.AbiNoEscape.same) (by kernel_rfl)]
  rw [Lib.run_noEscape]
  simp only [Result.andThen]
  rw [Oper.upon_value]
  go_wp2
  rw [Lib.run_from_unsafe (P := Tryz.prog) w ⟨g, 1, none⟩ (src := 123) (dst := 58) (u := 61) (by rfl) (by rfl) (by rfl) hsh (by kernel_rfl)]
  simp only [Result.andThen]
  rw [Oper.upon_value]
  go_wp2
  go_end0
  exact ⟨rfl, rfl⟩
theorem us_same {w w' : World} {U : UX} (hb : BelowX U.x w w') : ∀ b o v, Us w U (fun _ _ => False) b o → w.cell? ⟨b, o, none⟩ = some v → Us w U (fun _ _ => False) b o ∧ w'.cell? ⟨b, o, none⟩ = some v := fun b o v hu hc => by
  refine ⟨hu, ?_⟩
  rcases hu with ⟨h1, h2, h3⟩ | ⟨h1, h2⟩
  · rw [World.cell?_of_block (w := w) (hb.block b h1 h3)]; exact hc
  · exact h2.elim
theorem cc_abs (tb : Option (Nat × Obj)) (nm : List By) (o : Option By) : AFunOT Tryz.prog tb 39 (wst nm o) [.bp 350001 1 []] (.tup []) (wst nm (some (o.getD []))) := by
  refine ⟨ent_of Tryz.func39 rfl rfl, fun U w hv a0 vs hT hU hS hargs => ?_⟩
  obtain ⟨u, us, rfl, hu, hus⟩ := hargs
  have hus : us = [] := hus
  subst hus
  obtain ⟨_, hu⟩ : BN 350001 ∧ u = .pointer (some ⟨blkOf (hv (100000 + 350001)), 1, none⟩) := hu
  obtain ⟨g, nv, pv, bv, hA⟩ := wst_mem hS
  have hbk : blkOf (hv (100000 + 350001)) = g := by rw [show (100000 + 350001 : Nat) = 450001 from rfl, hA.box]; rfl
  rw [hbk] at hu
  subst hu
  cases o with
  | some bs =>
    have hc1 := hA.c1
    rw [hA.p1] at hc1
    refine (cc_used_any g w hc1).mono ?_
    rintro e w' ⟨rfl, rfl⟩
    exact ⟨_, _, hv, a0, rfl, hS, [], rfl, rfl⟩
  | none =>
    obtain ⟨hblk, hnv⟩ := hA.c0 rfl
    refine (cc_fresh_any g nv w hblk).mono ?_
    rintro e w' ⟨rfl, hw'⟩
    have hlt := hA.lent.2
    have hnew : w'.heap[g]? = some (.cells #[nv, .pointer (some ⟨g, 1, none⟩), .slice none 0 0] 63 (0, 0)) := by
      rw [hw', heap_setCell_same w g 1 _ _ _ hblk]
      rfl
    have hoth : ∀ k, k ≠ g → w'.heap[k]? = w.heap[k]? := fun k hk => by rw [hw']; exact heap_setCell_other w _ k _ hk
    have hsz : w'.heap.size = w.heap.size := by rw [hw']; simp
    have hb : BelowX U.x w w' := ⟨by rw [hw']; rfl, by rw [hw']; rfl, by rw [hw']; rfl, Nat.le_of_eq hsz.symm, fun k hk hx => hoth k fun e => hx (e ▸ hA.lent.1)⟩
    obtain ⟨hv', hhv⟩ : ∃ hv' : Nat → Value, hv' = fun k => if k = 300001 then .slice none 0 0 else hv k := ⟨_, rfl⟩
    have hv1 : hv' 450001 = .pointer (some ⟨g, 0, none⟩) := by rw [hhv]; exact hA.box
    have hv2 : hv' 300001 = .slice none 0 0 := by rw [hhv]; rfl
    have hcell : ∀ i, w'.cell? ⟨g, i, none⟩ = (#[nv, .pointer (some ⟨g, 1, none⟩), .slice none 0 0] : Array Value)[i]? := fun i => by
      simp only [World.cell?, hnew]
      simp
    have hnv2 := hnv.keep (us_same hb)
    have hnvc : nv.cells = #[nv] := by
      obtain ⟨ao, k, c, rfl, _⟩ := vrep_lst.1 hnv
      rfl
    refine ⟨_, fun _ _ => False, hv', ⟨#[], []⟩, rfl, ⟨hb, rfl, rfl, fun d av g1 g2 => ?_, fun m q av g1 g2 g3 g4 => ?_, fun m q q' av av' g1 g2 g3 g4 g5 => ?_, fun k av g1 g2 => ?_, fun k av b g1 g2 g3 g4 => ?_, fun k k' av av' b g1 g2 g3 g4 g5 g6 g7 g8 g9 => ?_, fun k v hk => ?_, fun b q hd => hd.elim⟩, [], rfl, rfl⟩
    · rcases look_wst g1 with ⟨e, _⟩ | ⟨e, _⟩ | ⟨e, _⟩ | ⟨e, _⟩ | ⟨e, _⟩ <;> omega
    · have hm : m = 350001 := by
        unfold BN at g4
        rcases look_wst g3 with ⟨e, _⟩ | ⟨e, _⟩ | ⟨e, _⟩ | ⟨e, _⟩ | ⟨e, _⟩ <;> omega
      subst hm
      have hbk2 : blkOf (hv' (100000 + 350001)) = g := by rw [show (100000 + 350001 : Nat) = 450001 from rfl, hv1]; rfl
      rw [hbk2]
      rcases look_wst g1 with ⟨e, _⟩ | ⟨e, rfl⟩ | ⟨e, rfl⟩ | ⟨e, rfl⟩ | ⟨e, _⟩
      · unfold fKey at e; omega
      · have ho : q = 0 := by unfold fKey at e; omega
        subst ho
        refine ⟨nv, avrep_val hnv2, by rw [hnvc]; rfl, fun i hi => ?_⟩
        rw [hnvc] at hi ⊢
        have : i = 0 := by simp at hi; omega
        subst this
        rw [hcell]
        rfl
      · have ho : q = 1 := by unfold fKey at e; omega
        subst ho
        refine ⟨.pointer (some ⟨g, 1, none⟩), ⟨.inr ⟨by show 350000 ≤ 350001; omega, by show 350001 < 400000; omega⟩, by show _ = Value.pointer (some ⟨blkOf (hv' (100000 + 350001)), 1, none⟩); rw [hbk2]⟩, rfl, fun i hi => ?_⟩
        have : i = 0 := by simp [Value.cells] at hi; omega
        subst this
        rw [hcell]
        rfl
      · have ho : q = 2 := by unfold fKey at e; omega
        subst ho
        refine ⟨.slice none 0 0, ⟨⟨by show 200000 ≤ 300001; omega, by show 300001 < 450000; omega⟩, by show SlV (hv' 300001) 0 0 1 _; rw [hv2]; exact slV_all rfl (Nat.le_refl _) (.inl rfl)⟩, rfl, fun i hi => ?_⟩
        have : i = 0 := by simp [Value.cells] at hi; omega
        subst this
        rw [hcell]
        rfl
      · unfold fKey at e; omega
    · have s1 : ∀ {av : AV} {q : Nat}, look (wst nm (some [])) (fKey m q) = some av → q < 100 → av.sz = 1 := fun {av q} h1 h2 => by
        rcases look_wst h1 with ⟨e, _⟩ | ⟨e, rfl⟩ | ⟨e, rfl⟩ | ⟨e, rfl⟩ | ⟨e, _⟩
        · unfold fKey at e; omega
        · rfl
        · rfl
        · rfl
        · unfold fKey at e; omega
      rw [s1 g1 g3]
      omega
    · rcases look_wst g1 with ⟨rfl, rfl⟩ | ⟨e, rfl⟩ | ⟨e, rfl⟩ | ⟨e, rfl⟩ | ⟨rfl, rfl⟩
      · rw [hv1]
        exact ⟨g, _, _, rfl, hnew⟩
      · unfold oKey at g2; omega
      · unfold oKey at g2; omega
      · unfold oKey at g2; omega
      · rw [hv2]
        exact ⟨[], World.ownsRow_nil w' 0 _ 1, Nat.one_pos, (fun c hc => by cases hc), rfl⟩
    · rcases look_wst g1 with ⟨rfl, rfl⟩ | ⟨e, rfl⟩ | ⟨e, rfl⟩ | ⟨e, rfl⟩ | ⟨rfl, rfl⟩
      · rw [hv1] at g4
        have g4 : some g = some b := g4
        cases g4
        exact ⟨.inr ⟨by rw [lcl_row (by omega)]; show (9 : Nat) ≠ 6; omega, hA.lent.1⟩, by rw [hsz]; exact hlt, fun _ _ h => h⟩
      · unfold oKey at g2; omega
      · unfold oKey at g2; omega
      · unfold oKey at g2; omega
      · rw [hv2] at g4; cases g4
    · rcases look_wst g1 with ⟨rfl, rfl⟩ | ⟨e, rfl⟩ | ⟨e, rfl⟩ | ⟨e, rfl⟩ | ⟨rfl, rfl⟩
      · rcases look_wst g2 with ⟨rfl, rfl⟩ | ⟨e, rfl⟩ | ⟨e, rfl⟩ | ⟨e, rfl⟩ | ⟨rfl, rfl⟩
        · exact absurd rfl g7
        · unfold oKey at g4; omega
        · unfold oKey at g4; omega
        · unfold oKey at g4; omega
        · rw [hv2] at g9; cases g9
      · unfold oKey at g3; omega
      · unfold oKey at g3; omega
      · unfold oKey at g3; omega
      · rw [hv2] at g8; cases g8
    · have h1 := U.hf k v hk
      rw [hhv]
      simp only [if_neg (show k ≠ 300001 by omega)]
      exact hS.fix k v hk
-- 
set_option maxHeartbeats 1000000 in
theorem ws_abs (tb : Option (Nat × Obj)) (nm : List By) (o : Option By) (l : By) (hl : (o.getD []).length + l.length ≤ 1000000000) : AFunOT Tryz.prog tb 30 (wst nm o) [.bp 350001 1 [], .val (sv l)] (.tup [.i (l.length : Int), .sc .nilIface]) (wst nm (some (o.getD [] ++ l))) := by
  have h := cc_abs tb nm o
  refine afunOT_of Tryz.func30 Tryz.ntmps30 rfl rfl rfl rfl rfl rfl ?_
  intro w U hU hT
  refine aS (aR ?_)
  (refine nx (aA (gN rfl) rfl rfl rfl rfl rfl) rfl ?_)
  (refine nx (aA (gN rfl) rfl rfl rfl rfl rfl) rfl ?_)
  show AWp _ _ _ _ _ _ _
  refine aS (aR ?_)
  (refine nx (aM (gN rfl) rfl rfl rfl rfl rfl) rfl ?_)
  (refine nx (a_callOT hT (gN rfl) rfl rfl rfl rfl rfl (h) (by repeat (first | exact trivial | refine ⟨rfl, ?_⟩)) (wst_lend _ _) (wst_leave _ _) (by first | rfl | kernel_rfl) (by first | rfl | kernel_rfl) (hnb_of (by first | rfl | kernel_rfl))) (by kernel_rfl) ?_)
  show AWp _ _ _ _ _ _ _
  refine AWp.wk (wk_sub (s' := [(0, .bp 350001 1 []), (1, .val (sv l)), (450001, .obj), (35500100, .val (.lst (nm.map sv))), (35500101, .bp 350001 1 []), (35500102, .sl 300001 0 (o.getD []).length 1), (300001, .mrow 5 1 ((o.getD []).map u8v))]) ⟨rfl, rfl, rfl, rfl, rfl, rfl, rfl, trivial⟩) ?_
  refine aS (aR ?_)
  (refine nx (aM (gN rfl) rfl rfl rfl rfl rfl) rfl ?_)
  (refine nx (aM (gN rfl) rfl rfl rfl rfl rfl) rfl ?_)
  (refine nx (aNc (gN rfl) rfl rfl rfl rfl rfl) rfl ?_)
  (refine nx (aF (gN rfl) rfl rfl rfl rfl rfl rfl rfl rfl rfl) rfl ?_)
  (refine nx (aLf (gN rfl) rfl rfl rfl rfl rfl rfl rfl rfl rfl rfl rfl rfl rfl) rfl ?_)
  (refine nx (aM (gN rfl) rfl rfl rfl rfl rfl) rfl ?_)
  (refine nx (a_appS 300014 (gN rfl) rfl rfl rfl rfl rfl rfl rfl rfl rfl rfl rfl rfl (by first | rfl | omega | (simp only [List.length_set, List.length_map, List.length_append, List.length_cons, List.length_nil] <;> omega) | (simp <;> omega)) (by first | omega | (simp only [List.length_map, List.length_append, List.length_cons, List.length_nil] <;> omega) | (simp <;> omega))) (by kernel_rfl) ?_)
  (refine nx (aNc (gN rfl) rfl rfl rfl rfl rfl) rfl ?_)
  (refine nx (aF (gN rfl) rfl rfl rfl rfl rfl rfl rfl rfl rfl) rfl ?_)
  (refine nx (a_store_fld (gN rfl) rfl rfl rfl rfl rfl rfl rfl rfl rfl rfl rfl rfl) rfl ?_)
  show AWp _ _ _ _ _ _ _
  refine AWp.wk ((wk_sub (s' := [(1, .val (sv l)), (450001, .obj), (35500100, .val (.lst (nm.map sv))), (35500101, .bp 350001 1 []), (35500102, .sl 300014 0 (o.getD [] ++ l).length 1), (300014, .mrow 5 1 ((o.getD [] ++ l).map u8v))]) ⟨rfl, rfl, rfl, rfl, rfl, rfl, trivial⟩).trans (wk_ren 300014 300001 rfl rfl (by kernel_rfl) (by kernel_rfl))) ?_
  refine aS (aR ?_)
  (refine nx (aM (gN rfl) rfl rfl rfl rfl rfl) rfl ?_)
  (refine nx (a_slen (gN rfl) rfl rfl rfl rfl rfl rfl rfl) rfl ?_)
  (refine nx (aA (gN rfl) rfl rfl rfl rfl rfl) rfl ?_)
  (refine nx (aA (gN rfl) rfl rfl rfl rfl rfl) rfl ?_)
  show AWp _ _ _ _ _ _ _
  exact aT ⟨.inr rfl, _, Wk.refl _, rfl, rfl, rfl, rfl, rfl, rfl, trivial⟩
end Go.Proofs.YtebhbnhijnpmcaaGreatDoor

namespace Go.Proofs.YtebhbnhijnpmcaaGreatDoor
open Go.RowKit
set_option linter.unusedVariables false
set_option linter.unusedSimpArgs false
set_option maxRecDepth 100000
def StrW (w w' : World) (bv : Value) : Prop := BelowX (fun b => bv.ownBlock = some b) w w'
theorem strW_drew (w : World) (bv : Value) : StrW w w.drew bv := ⟨rfl, rfl, rfl, Nat.le_refl _, fun _ _ _ => rfl⟩
set_option maxHeartbeats 2000000 in
theorem str_row_any (g g2 cap : Nat) (l : By) (cur : Array Value) (w : World) (h0 : l ≠ []) (c2 : w.cell? ⟨g, 2, none⟩ = some (.slice (some ⟨g2, 0, none⟩) l.length cap)) (hrow : w.ownsRow 0 5 1 (.slice (some ⟨g2, 0, none⟩) l.length cap) l.length (Lib.byteCells l)) :
    Calls Tryz.prog 18 #[.pointer (some ⟨g, 1, none⟩)] w fun e w' => e = .returned (.string ⟨l.toArray⟩) ∧ StrW w w' (.slice (some ⟨g2, 0, none⟩) l.length cap) := by
  have hl0 : l.length ≠ 0 := by simpa using h0
  obtain ⟨cu, hg, hnc, hcm, hcs⟩ : ∃ cu : Array Value, w.heap[g2]? = some (.cells cu 5 (0, 0)) ∧ l.length ≤ cap ∧ cap ≤ maxLen ∧ cu.size = cap := by
    rcases hrow.2 with ⟨e, _⟩ | ⟨g3, cap3, cur3, e, _, h3, h4, h5, h6, _⟩
    · cases e
    · injection e with e1 e2 e3
      injection e1 with e1
      injection e1 with e1
      subst e1; subst e3
      exact ⟨cur3, h3, h4, h5, by simpa using h6⟩
  have c1 : w.drew.cell? ⟨g, 2, none⟩ = some (.slice (some ⟨g2, 0, none⟩) l.length cap) := c2
  have hSD : (Builtin.unsafeSliceData_ #[59] 98 #[.slice (some ⟨g2, 0, none⟩) l.length cap]).run Tryz.prog w.drew = .ok (.pointer (some ⟨g2, 0, none⟩)) w.drew :=
    Lib.run_unsafeSliceData_row _ _ _ _ _ _ (by omega)
  have hUS : (Builtin.unsafeString_ #[98, 3] 9 #[.pointer (some ⟨g2, 0, none⟩), .int .i64 l.length]).run Tryz.prog w.drew = .ok (.string ⟨l.toArray⟩) (w.drew.freeze ⟨g2, 0, none⟩ l.length) := by
    refine Lib.run_unsafeString_row w.drew 98 3 9 5 (by rfl) (by kernel_rfl) g2 cap (by have hg' : w.drew.heap[g2]? = _ := hg; simp [World.shape?, hg', hcs]) l h0 (by omega) (by unfold maxLen at hcm; omega) ?_
    intro j x hx
    exact hrow.cells (g := g2) rfl j (.int .u8 x.toNat) (by simp [Lib.byteCells, hx])
  have hend : StrW w (w.drew.freeze ⟨g2, 0, none⟩ l.length) (.slice (some ⟨g2, 0, none⟩) l.length cap) := by
    unfold World.freeze
    rw [if_neg hl0]
    refine ⟨rfl, rfl, rfl, by simp, fun k hk hx => ?_⟩
    simp only [Array.getElem?_modify]
    rw [if_neg (fun e => hx (by rw [← e]; rfl))]
    rfl
  clear hrow c2
  have mixed : Tryz.prog.follows Departure.mixedOrders = true := by kernel_rfl
  go_enter Tryz.func18, Tryz.ntmps18
  go_wp2
  go_region_o
  all_goals (go_wp2; go_ret; exact ⟨rfl, hend⟩)
set_option maxHeartbeats 2000000 in
theorem str_nil_any (g : Nat) (w : World) (c2 : w.cell? ⟨g, 2, none⟩ = some (.slice none 0 0)) :
    Calls Tryz.prog 18 #[.pointer (some ⟨g, 1, none⟩)] w fun e w' => e = .returned (.string ⟨#[]⟩) ∧ StrW w w' (.slice none 0 0) := by
  have hUS : ∀ (W : World) (q : Option Addr), (Builtin.unsafeString_ #[98, 3] 9 #[.pointer q, .int .i64 0]).run Tryz.prog W = .ok (.string .empty) W := fun W q => Lib.run_unsafeString_none W _ _ _ q
  have c1 : w.drew.cell? ⟨g, 2, none⟩ = some (.slice none 0 0) := c2
  have hSD : (Builtin.unsafeSliceData_ #[59] 98 #[.slice none 0 0]).run Tryz.prog w.drew = .ok (.pointer none) w.drew := rfl
  have mixed : Tryz.prog.follows Departure.mixedOrders = true := by kernel_rfl
  go_enter Tryz.func18, Tryz.ntmps18
  go_wp2
  go_region_o
  all_goals (go_wp2; go_ret; exact ⟨rfl, strW_drew w _⟩)
set_option maxHeartbeats 2000000 in
theorem str_room_any (g g2 cap : Nat) (w : World) (hc : cap ≠ 0) (c2 : w.cell? ⟨g, 2, none⟩ = some (.slice (some ⟨g2, 0, none⟩) 0 cap)) :
    Calls Tryz.prog 18 #[.pointer (some ⟨g, 1, none⟩)] w fun e w' => e = .returned (.string ⟨#[]⟩) ∧ StrW w w' (.slice (some ⟨g2, 0, none⟩) 0 cap) := by
  have hUS : ∀ (W : World) (q : Option Addr), (Builtin.unsafeString_ #[98, 3] 9 #[.pointer q, .int .i64 0]).run Tryz.prog W = .ok (.string .empty) W := fun W q => Lib.run_unsafeString_none W _ _ _ q
  have c1 : w.drew.cell? ⟨g, 2, none⟩ = some (.slice (some ⟨g2, 0, none⟩) 0 cap) := c2
  have hSD : (Builtin.unsafeSliceData_ #[59] 98 #[.slice (some ⟨g2, 0, none⟩) 0 cap]).run Tryz.prog w.drew = .ok (.pointer (some ⟨g2, 0, none⟩)) w.drew := Lib.run_unsafeSliceData_row _ _ _ _ _ _ hc
  clear hc
  have mixed : Tryz.prog.follows Departure.mixedOrders = true := by kernel_rfl
  go_enter Tryz.func18, Tryz.ntmps18
  go_wp2
  go_region_o
  all_goals (go_wp2; go_ret; exact ⟨rfl, strW_drew w _⟩)
set_option maxHeartbeats 2000000 in
theorem str_none_any (g g2 : Nat) (w : World) (hglt : g < w.heap.size) (cur : Array Value) (hg2 : w.heap[g2]? = some (.cells cur 5 (0, 0))) (c2 : w.cell? ⟨g, 2, none⟩ = some (.slice (some ⟨g2, 0, none⟩) 0 0)) :
    Calls Tryz.prog 18 #[.pointer (some ⟨g, 1, none⟩)] w fun e w' => e = .returned (.string ⟨#[]⟩) ∧ StrW w w' (.slice (some ⟨g2, 0, none⟩) 0 0) := by
  have hUS : ∀ (W : World) (q : Option Addr), (Builtin.unsafeString_ #[98, 3] 9 #[.pointer q, .int .i64 0]).run Tryz.prog W = .ok (.string .empty) W := fun W q => Lib.run_unsafeString_none W _ _ _ q
  have c1 : w.drew.cell? ⟨g, 2, none⟩ = some (.slice (some ⟨g2, 0, none⟩) 0 0) := c2
  have hSD : (Builtin.unsafeSliceData_ #[59] 98 #[.slice (some ⟨g2, 0, none⟩) 0 0]).run Tryz.prog w.drew = .ok (.pointer (some ⟨w.drew.heap.size, 0, none⟩)) (w.drew.alloc (.view ⟨g2, 0, none⟩ 5)) :=
    Lib.run_unsafeSliceData_zero w.drew _ _ 5 (by rfl) ⟨g2, 0, none⟩ 0 (5, cur.size) (by have hg' : w.drew.heap[g2]? = _ := hg2; simp [World.shape?, hg'])
  have c4 : (w.drew.alloc (.view ⟨g2, 0, none⟩ 5)).cell? ⟨g, 2, none⟩ = some (.slice (some ⟨g2, 0, none⟩) 0 0) := by
    have hh : (w.drew.alloc (.view ⟨g2, 0, none⟩ 5)).heap[g]? = w.heap[g]? := Lib.alloc_old w.drew _ g hglt
    rw [World.cell?_of_block (w := w) hh]; exact c2
  have c3 : (w.alloc (.view ⟨g2, 0, none⟩ 5)).drew.cell? ⟨g, 2, none⟩ = some (.slice (some ⟨g2, 0, none⟩) 0 0) := c4
  have hend : StrW w (w.drew.alloc (.view ⟨g2, 0, none⟩ 5)) (.slice (some ⟨g2, 0, none⟩) 0 0) := ⟨rfl, rfl, rfl, by simp, fun k hk _ => Lib.alloc_old w.drew _ k hk⟩
  have mixed : Tryz.prog.follows Departure.mixedOrders = true := by kernel_rfl
  go_enter Tryz.func18, Tryz.ntmps18
  go_wp2
  go_region_o
  all_goals (go_wp2; go_ret; exact ⟨rfl, hend⟩)
theorem str_any {g : Nat} {bv : Value} {l : By} {w : World} (hglt : g < w.heap.size) (c2 : w.cell? ⟨g, 2, none⟩ = some bv) (hrow : w.ownsRow 0 5 1 bv l.length (Lib.byteCells l)) :
    Calls Tryz.prog 18 #[.pointer (some ⟨g, 1, none⟩)] w fun e w' => e = .returned (.string ⟨l.toArray⟩) ∧ StrW w w' bv := by
  rcases hrow.2 with ⟨rfl, e⟩ | ⟨g2, cap, cur, rfl, _, h3, h4, h5, h6, _⟩
  · have : l = [] := List.eq_nil_of_length_eq_zero e
    subst this
    exact str_nil_any g w c2
  · by_cases h0 : l = []
    · subst h0
      by_cases hc : cap = 0
      · subst hc
        exact str_none_any g g2 w hglt cur h3 c2
      · exact str_room_any g g2 cap w hc c2
    · exact str_row_any g g2 cap l cur w h0 c2 hrow
noncomputable abbrev wsE (nm : List By) (o : Option By) : AS := [(450001, .no), (35500100, .val (.lst (nm.map sv))), (35500101, .val (.i 0)), (35500102, .val (.i 0)), (300001, .no)]
theorem look_wsE {nm : List By} {o : Option By} {k : Nat} {av : AV} (h : look (wsE nm o) k = some av) : (k = 450001 ∧ av = .no) ∨ (k = 35500100 ∧ av = .val (.lst (nm.map sv))) ∨ (k = 35500101 ∧ av = .val (.i 0)) ∨ (k = 35500102 ∧ av = .val (.i 0)) ∨ (k = 300001 ∧ av = .no) := by
  rw [look_cons] at h
  split at h
  · rename_i e; cases h; exact .inl ⟨e.symm, rfl⟩
  rw [look_cons] at h
  split at h
  · rename_i e; cases h; exact .inr (.inl ⟨e.symm, rfl⟩)
  rw [look_cons] at h
  split at h
  · rename_i e; cases h; exact .inr (.inr (.inl ⟨e.symm, rfl⟩))
  rw [look_cons] at h
  split at h
  · rename_i e; cases h; exact .inr (.inr (.inr (.inl ⟨e.symm, rfl⟩)))
  rw [look_cons] at h
  split at h
  · rename_i e; cases h; exact .inr (.inr (.inr (.inr ⟨e.symm, rfl⟩)))
  · cases h
theorem str_abs (tb : Option (Nat × Obj)) (nm : List By) (o : Option By) : AFunOT Tryz.prog tb 18 (wst nm o) [.bp 350001 1 []] (.val (sv (o.getD []))) (wsE nm o) := by
  refine ⟨ent_of Tryz.func18 rfl rfl, fun U w hv a0 vs hT hU hS hargs => ?_⟩
  obtain ⟨u, us, rfl, hu, hus⟩ := hargs
  have hus : us = [] := hus
  subst hus
  obtain ⟨_, hu⟩ : BN 350001 ∧ u = .pointer (some ⟨blkOf (hv (100000 + 350001)), 1, none⟩) := hu
  obtain ⟨g, nv, pv, bv, hA⟩ := wst_mem hS
  have hbk : blkOf (hv (100000 + 350001)) = g := by rw [show (100000 + 350001 : Nat) = 450001 from rfl, hA.box]; rfl
  rw [hbk] at hu
  subst hu
  refine (str_any hA.lent.2 hA.c2 hA.row).mono ?_
  rintro e w' ⟨rfl, hw⟩
  have hb : BelowX U.x w w' := ⟨hw.os, hw.tape, hw.output, hw.size, fun k hk hx => hw.block k hk fun e => hx (hA.bl k e).1⟩
  refine ⟨_, fun _ _ => False, hv, ⟨#[], []⟩, rfl, ⟨hb, rfl, rfl, fun d av g1 g2 => ?_, fun m q av g1 g2 g3 g4 => ?_, fun m q q' av av' g1 g2 g3 g4 g5 => ?_, fun k av g1 g2 => ?_, fun k av b g1 g2 g3 g4 => ?_, fun k k' av av' b g1 g2 g3 g4 g5 g6 g7 g8 g9 => ?_, hS.fix, fun b q hd => hd.elim⟩, ?_⟩
  · rcases look_wsE g1 with ⟨e, _⟩ | ⟨e, _⟩ | ⟨e, _⟩ | ⟨e, _⟩ | ⟨e, _⟩ <;> omega
  · rcases look_wsE g3 with ⟨e, e2⟩ | ⟨e, e2⟩ | ⟨e, e2⟩ | ⟨e, e2⟩ | ⟨e, e2⟩ <;> cases e2
  · have s1 : ∀ {av : AV} {q : Nat}, look (wsE nm o) (fKey m q) = some av → q < 100 → av.sz = 1 := fun {av q} h1 h2 => by
      rcases look_wsE h1 with ⟨e, _⟩ | ⟨e, rfl⟩ | ⟨e, rfl⟩ | ⟨e, rfl⟩ | ⟨e, _⟩
      · unfold fKey at e; omega
      · rfl
      · rfl
      · rfl
      · unfold fKey at e; omega
    rw [s1 g1 g3]
    omega
  · have h7 : av.t = 7 := by
      unfold oKey at g2
      rcases look_wsE g1 with ⟨e, rfl⟩ | ⟨e, rfl⟩ | ⟨e, rfl⟩ | ⟨e, rfl⟩ | ⟨e, rfl⟩
      · rfl
      · omega
      · omega
      · omega
      · rfl
    exact oc_no h7
  · exfalso
    unfold oKey at g2
    rcases look_wsE g1 with ⟨e, rfl⟩ | ⟨e, rfl⟩ | ⟨e, rfl⟩ | ⟨e, rfl⟩ | ⟨e, rfl⟩
    · exact g3 rfl
    · omega
    · omega
    · omega
    · exact g3 rfl
  · exfalso
    unfold oKey at g3
    rcases look_wsE g1 with ⟨e, rfl⟩ | ⟨e, rfl⟩ | ⟨e, rfl⟩ | ⟨e, rfl⟩ | ⟨e, rfl⟩
    · exact g5 rfl
    · omega
    · omega
    · omega
    · exact g5 rfl
  · exact avrep_sc rfl
end Go.Proofs.YtebhbnhijnpmcaaGreatDoor
-- @STR@
namespace Go.Proofs.YtebhbnhijnpmcaaGreatDoor
open Go.RowKit
set_option linter.unusedVariables false
set_option linter.unusedSimpArgs false
set_option maxRecDepth 100000

-- 
theorem put_abs (tb : Option (Nat × Obj)) (nm : List By) (o : Option By) (l : By) (hl : (o.getD []).length + l.length ≤ 1000000000) : AFunOT Tryz.prog tb 17 (wst nm o) [.bp 350001 0 [], .val (sv l)] (.tup []) (wst nm (some (o.getD [] ++ l))) := by
  have h := ws_abs tb nm o l hl
  refine afunOT_of Tryz.func17 Tryz.ntmps17 rfl rfl rfl rfl rfl rfl ?_
  intro w U hU hT
  refine aR ?_
  (refine nx (aM (gN rfl) rfl rfl rfl rfl rfl) rfl ?_)
  (refine nx (aNc (gN rfl) rfl rfl rfl rfl rfl) rfl ?_)
  (refine nx (aF (gN rfl) rfl rfl rfl rfl rfl rfl rfl rfl rfl) rfl ?_)
  (refine nx (aM (gN rfl) rfl rfl rfl rfl rfl) rfl ?_)
  (refine nx (a_callOT hT (gN rfl) rfl rfl rfl rfl rfl (h) (by repeat (first | exact trivial | refine ⟨rfl, ?_⟩)) (wst_lend _ _) (wst_leave _ _) (by first | rfl | kernel_rfl) (by first | rfl | kernel_rfl) (hnb_of (by first | rfl | kernel_rfl))) (by kernel_rfl) ?_)
  exact ⟨.inl rfl, _, Wk.refl _, rfl, rfl, rfl, rfl, rfl, rfl, trivial⟩
-- 
theorem putB_abs (tb : Option (Nat × Obj)) (nm : List By) (o : Option By) (l : By) (k : Nat) (hl : k ≠ 0 → (o.getD []).length + l.length ≤ 1000000000) : AFunOT Tryz.prog tb 28 (wst nm o) [.bp 350001 0 [], .val (sv l), .val (.i (k : Int))] (.tup []) (wst nm (if k = 0 then o else some (o.getD [] ++ l))) := by
  refine afunOT_of Tryz.func28 Tryz.ntmps28 rfl rfl rfl rfl rfl rfl ?_
  intro w U hU hT
  refine aS (aR ?_)
  (refine nx (aM (gN rfl) rfl rfl rfl rfl rfl) rfl ?_)
  (refine nx (a_gtr (gN rfl) rfl rfl rfl rfl rfl rfl) rfl ?_)
  show AWp _ _ _ _ _ _ _
  refine aC rfl (fun hc => ?_) (fun hc => ?_)
  · have hc : decide ((k : Int) > 0) = true := hc
    have h0 : k ≠ 0 := fun e => by subst e; simp at hc
    rw [if_neg h0]
    have h := put_abs tb nm o l (hl h0)
    refine aR ?_
    (refine nx (aM (gN rfl) rfl rfl rfl rfl rfl) rfl ?_)
    (refine nx (aM (gN rfl) rfl rfl rfl rfl rfl) rfl ?_)
    (refine nx (a_callOT hT (gN rfl) rfl rfl rfl rfl rfl (h) (by repeat (first | exact trivial | refine ⟨rfl, ?_⟩)) (wst_lend _ _) (wst_leave _ _) (by first | rfl | kernel_rfl) (by first | rfl | kernel_rfl) (hnb_of (by first | rfl | kernel_rfl))) (by kernel_rfl) ?_)
    exact ⟨.inl rfl, _, Wk.refl _, rfl, rfl, rfl, rfl, rfl, rfl, trivial⟩
  · have hc : decide ((k : Int) > 0) = false := hc
    have h0 : k = 0 := by
      have := of_decide_eq_false hc
      omega
    rw [if_pos h0]
    refine aK ?_
    exact ⟨.inl rfl, _, Wk.refl _, rfl, rfl, rfl, rfl, rfl, rfl, trivial⟩
def ItoaN (tb : Option (Nat × Obj)) (N : Nat) : Prop := ∀ z : Nat, z < N → AFunT Tryz.prog tb 62 [.i (z : Int)] (.val (sv (Lib.decDigits z)))
-- 
theorem varW_abs (tb : Option (Nat × Obj)) (N : Nat) (hI : ItoaN tb N) (nm : List By) (o : Option By) (f : Int) (hf : f < 0) (h1 : -9223372036854775808 ≤ f) (h2 : -1 - f < N) (hl : (o.getD []).length + (88 :: Lib.decDigits (-1 - f).toNat).length ≤ 1000000000) : AFunOT Tryz.prog tb 47 (wst nm o) [.bp 350001 0 [], .val (.i f)] (.tup []) (wst nm (some (o.getD [] ++ 88 :: Lib.decDigits (-1 - f).toNat))) := by
  obtain ⟨z, hz⟩ : ∃ z : Nat, -1 - f = (z : Int) := ⟨(-1 - f).toNat, by omega⟩
  rw [hz, Int.toNat_natCast] at hl ⊢
  rw [List.length_cons] at hl
  have p1 := put_abs tb nm o [88] (by simp; omega)
  have p2 := put_abs tb nm (some (o.getD [] ++ [88])) (Lib.decDigits z) (by simp; omega)
  have hi := hI z (by omega)
  rw [← hz] at hi
  have e : o.getD [] ++ 88 :: Lib.decDigits z = (some (o.getD [] ++ [88])).getD [] ++ Lib.decDigits z := by simp
  rw [e]
  refine afunOT_of Tryz.func47 Tryz.ntmps47 rfl rfl rfl rfl rfl rfl ?_
  intro w U hU hT
  refine aS (aR ?_)
  (refine nx (aM (gN rfl) rfl rfl rfl rfl rfl) rfl ?_)
  (refine nx (a_callOT hT (gN rfl) rfl rfl rfl rfl rfl (p1) (by repeat (first | exact trivial | refine ⟨rfl, ?_⟩)) (wst_lend _ _) (wst_leave _ _) (by first | rfl | kernel_rfl) (by first | rfl | kernel_rfl) (hnb_of (by first | rfl | kernel_rfl))) (by kernel_rfl) ?_)
  show AWp _ _ _ _ _ _ _
  refine aR ?_
  (refine nx (aM (gN rfl) rfl rfl rfl rfl rfl) rfl ?_)
  (refine nx (aM (gN rfl) rfl rfl rfl rfl rfl) rfl ?_)
  (refine nx (a_sub (gN rfl) rfl rfl rfl rfl rfl rfl (by first | omega | (simp only [List.length_map, List.length_append, List.length_cons, List.length_nil] <;> omega) | (simp <;> omega))) rfl ?_)
  (refine nx (a_callT hT (gN rfl) rfl rfl rfl rfl rfl (hi)) rfl ?_)
  (refine nx (a_callOT hT (gN rfl) rfl rfl rfl rfl rfl (p2) (by repeat (first | exact trivial | refine ⟨rfl, ?_⟩)) (wst_lend _ _) (wst_leave _ _) (by first | rfl | kernel_rfl) (by first | rfl | kernel_rfl) (hnb_of (by first | rfl | kernel_rfl))) (by kernel_rfl) ?_)
  exact ⟨.inl rfl, _, Wk.refl _, rfl, rfl, rfl, rfl, rfl, rfl, trivial⟩
-- 
theorem symW_abs (tb : Option (Nat × Obj)) (N : Nat) (hI : ItoaN tb N) (nm : List By) (o : Option By) (f : Nat) (hN : nm.length ≤ f → f < N) (hnm : nm.length ≤ 1000000) (hl : (o.getD []).length + (symX nm f).length ≤ 1000000000) : AFunOT Tryz.prog tb 48 (wst nm o) [.bp 350001 0 [], .val (.i (f : Int))] (.tup []) (wst nm (some (o.getD [] ++ symX nm f))) := by
  have hz := svs_size nm
  have hln : (nm.map sv).length = nm.length := List.length_map ..
  have p0 := put_abs tb nm o (symX nm f) hl
  refine afunOT_of Tryz.func48 Tryz.ntmps48 rfl rfl rfl rfl rfl rfl ?_
  intro w U hU hT
  cases o with
  | none =>
    refine aS (aS (aR ?_))
    (refine nx (aM (gN rfl) rfl rfl rfl rfl rfl) rfl ?_)
    (refine nx (aM (gN rfl) rfl rfl rfl rfl rfl) rfl ?_)
    (refine nx (aNc (gN rfl) rfl rfl rfl rfl rfl) rfl ?_)
    (refine nx (aF (gN rfl) rfl rfl rfl rfl rfl rfl rfl rfl rfl) rfl ?_)
    (refine nx (a_loadW (gN rfl) rfl rfl rfl rfl rfl rfl rfl rfl rfl) rfl ?_)
    (refine nx (a_len (gN rfl) rfl rfl rfl rfl rfl rfl rfl) rfl ?_)
    (refine nx (a_lss (gN rfl) rfl rfl rfl rfl rfl rfl) rfl ?_)
    show AWp _ _ _ _ _ _ _
    refine aC rfl (fun hc => ?_) (fun hc => ?_)
    · have hc : decide ((f : Int) < ((nm.map sv).length : Int)) = true := hc
      have hf : f < nm.length := by rw [hln] at hc; simpa using hc
      obtain ⟨x, hx⟩ : ∃ x, nm[f]? = some x := ⟨nm[f], List.getElem?_eq_getElem hf⟩
      have hx' := sv_at hx
      have hs : symX nm f = x := by unfold symX; rw [hx]
      rw [hs] at p0 ⊢
      refine aS (aR ?_)
      (refine nx (aM (gN rfl) rfl rfl rfl rfl rfl) rfl ?_)
      (refine nx (aM (gN rfl) rfl rfl rfl rfl rfl) rfl ?_)
      (refine nx (aNc (gN rfl) rfl rfl rfl rfl rfl) rfl ?_)
      (refine nx (aF (gN rfl) rfl rfl rfl rfl rfl rfl rfl rfl rfl) rfl ?_)
      (refine nx (a_loadW (gN rfl) rfl rfl rfl rfl rfl rfl rfl rfl rfl) rfl ?_)
      (refine nx (aM (gN rfl) rfl rfl rfl rfl rfl) rfl ?_)
      (refine nx (a_index (j := f) (gN rfl) rfl rfl rfl rfl rfl rfl rfl rfl rfl (hx') rfl (hz)) rfl ?_)
      (refine nx (a_load_ad (gN rfl) rfl rfl rfl rfl rfl rfl rfl rfl rfl) rfl ?_)
      (refine nx (a_callOT hT (gN rfl) rfl rfl rfl rfl rfl (p0) (by repeat (first | exact trivial | refine ⟨rfl, ?_⟩)) (wst_lend _ _) (wst_leave _ _) (by first | rfl | kernel_rfl) (by first | rfl | kernel_rfl) (hnb_of (by first | rfl | kernel_rfl))) (by kernel_rfl) ?_)
      show AWp _ _ _ _ _ _ _
      exact aT ⟨.inr rfl, _, Wk.refl _, rfl, rfl, rfl, rfl, rfl, rfl, trivial⟩
    · have hc : decide ((f : Int) < ((nm.map sv).length : Int)) = false := hc
      have hf : nm.length ≤ f := by rw [hln] at hc; have := of_decide_eq_false hc; omega
      have hs : symX nm f = 115 :: Lib.decDigits f := by unfold symX; rw [List.getElem?_eq_none hf]
      rw [hs] at hl ⊢
      rw [List.length_cons] at hl
      have p1 := put_abs tb nm none [115] (by simp)
      have p2 := put_abs tb nm (some ((none : Option By).getD [] ++ [115])) (Lib.decDigits f) (by simp at hl ⊢; omega)
      have hi := hI f (hN hf)
      refine aK ?_
      show AWp _ _ _ _ _ _ _
      refine aS (aR ?_)
      (refine nx (aM (gN rfl) rfl rfl rfl rfl rfl) rfl ?_)
      (refine nx (a_callOT hT (gN rfl) rfl rfl rfl rfl rfl (p1) (by repeat (first | exact trivial | refine ⟨rfl, ?_⟩)) (wst_lend _ _) (wst_leave _ _) (by first | rfl | kernel_rfl) (by first | rfl | kernel_rfl) (hnb_of (by first | rfl | kernel_rfl))) (by kernel_rfl) ?_)
      show AWp _ _ _ _ _ _ _
      refine aR ?_
      (refine nx (aM (gN rfl) rfl rfl rfl rfl rfl) rfl ?_)
      (refine nx (aM (gN rfl) rfl rfl rfl rfl rfl) rfl ?_)
      (refine nx (a_callT hT (gN rfl) rfl rfl rfl rfl rfl (hi)) rfl ?_)
      (refine nx (a_callOT hT (gN rfl) rfl rfl rfl rfl rfl (p2) (by repeat (first | exact trivial | refine ⟨rfl, ?_⟩)) (wst_lend _ _) (wst_leave _ _) (by first | rfl | kernel_rfl) (by first | rfl | kernel_rfl) (hnb_of (by first | rfl | kernel_rfl))) (by kernel_rfl) ?_)
      exact ⟨.inl rfl, _, Wk.refl _, rfl, rfl, rfl, rfl, rfl, rfl, trivial⟩
  | some bs =>
    refine aS (aS (aR ?_))
    (refine nx (aM (gN rfl) rfl rfl rfl rfl rfl) rfl ?_)
    (refine nx (aM (gN rfl) rfl rfl rfl rfl rfl) rfl ?_)
    (refine nx (aNc (gN rfl) rfl rfl rfl rfl rfl) rfl ?_)
    (refine nx (aF (gN rfl) rfl rfl rfl rfl rfl rfl rfl rfl rfl) rfl ?_)
    (refine nx (aLf (gN rfl) rfl rfl rfl rfl rfl rfl rfl rfl rfl rfl rfl rfl rfl) rfl ?_)
    (refine nx (a_len (gN rfl) rfl rfl rfl rfl rfl rfl rfl) rfl ?_)
    (refine nx (a_lss (gN rfl) rfl rfl rfl rfl rfl rfl) rfl ?_)
    show AWp _ _ _ _ _ _ _
    refine aC rfl (fun hc => ?_) (fun hc => ?_)
    · have hc : decide ((f : Int) < ((nm.map sv).length : Int)) = true := hc
      have hf : f < nm.length := by rw [hln] at hc; simpa using hc
      obtain ⟨x, hx⟩ : ∃ x, nm[f]? = some x := ⟨nm[f], List.getElem?_eq_getElem hf⟩
      have hx' := sv_at hx
      have hs : symX nm f = x := by unfold symX; rw [hx]
      rw [hs] at p0 ⊢
      refine aS (aR ?_)
      (refine nx (aM (gN rfl) rfl rfl rfl rfl rfl) rfl ?_)
      (refine nx (aM (gN rfl) rfl rfl rfl rfl rfl) rfl ?_)
      (refine nx (aNc (gN rfl) rfl rfl rfl rfl rfl) rfl ?_)
      (refine nx (aF (gN rfl) rfl rfl rfl rfl rfl rfl rfl rfl rfl) rfl ?_)
      (refine nx (aLf (gN rfl) rfl rfl rfl rfl rfl rfl rfl rfl rfl rfl rfl rfl rfl) rfl ?_)
      (refine nx (aM (gN rfl) rfl rfl rfl rfl rfl) rfl ?_)
      (refine nx (a_index (j := f) (gN rfl) rfl rfl rfl rfl rfl rfl rfl rfl rfl (hx') rfl (hz)) rfl ?_)
      (refine nx (a_load_ad (gN rfl) rfl rfl rfl rfl rfl rfl rfl rfl rfl) rfl ?_)
      (refine nx (a_callOT hT (gN rfl) rfl rfl rfl rfl rfl (p0) (by repeat (first | exact trivial | refine ⟨rfl, ?_⟩)) (wst_lend _ _) (wst_leave _ _) (by first | rfl | kernel_rfl) (by first | rfl | kernel_rfl) (hnb_of (by first | rfl | kernel_rfl))) (by kernel_rfl) ?_)
      show AWp _ _ _ _ _ _ _
      exact aT ⟨.inr rfl, _, Wk.refl _, rfl, rfl, rfl, rfl, rfl, rfl, trivial⟩
    · have hc : decide ((f : Int) < ((nm.map sv).length : Int)) = false := hc
      have hf : nm.length ≤ f := by rw [hln] at hc; have := of_decide_eq_false hc; omega
      have hs : symX nm f = 115 :: Lib.decDigits f := by unfold symX; rw [List.getElem?_eq_none hf]
      rw [hs] at hl ⊢
      rw [List.length_cons] at hl
      have hl : bs.length + ((Lib.decDigits f).length + 1) ≤ 1000000000 := hl
      have p1 := put_abs tb nm (some bs) [115] (by simp; omega)
      have p2 := put_abs tb nm (some ((some bs).getD [] ++ [115])) (Lib.decDigits f) (by simp; omega)
      have hi := hI f (hN hf)
      have e : (some bs).getD [] ++ 115 :: Lib.decDigits f = (some ((some bs).getD [] ++ [115])).getD [] ++ Lib.decDigits f := by simp
      rw [e]
      refine aK ?_
      show AWp _ _ _ _ _ _ _
      refine aS (aR ?_)
      (refine nx (aM (gN rfl) rfl rfl rfl rfl rfl) rfl ?_)
      (refine nx (a_callOT hT (gN rfl) rfl rfl rfl rfl rfl (p1) (by repeat (first | exact trivial | refine ⟨rfl, ?_⟩)) (wst_lend _ _) (wst_leave _ _) (by first | rfl | kernel_rfl) (by first | rfl | kernel_rfl) (hnb_of (by first | rfl | kernel_rfl))) (by kernel_rfl) ?_)
      show AWp _ _ _ _ _ _ _
      refine aR ?_
      (refine nx (aM (gN rfl) rfl rfl rfl rfl rfl) rfl ?_)
      (refine nx (aM (gN rfl) rfl rfl rfl rfl rfl) rfl ?_)
      (refine nx (a_callT hT (gN rfl) rfl rfl rfl rfl rfl (hi)) rfl ?_)
      (refine nx (a_callOT hT (gN rfl) rfl rfl rfl rfl rfl (p2) (by repeat (first | exact trivial | refine ⟨rfl, ?_⟩)) (wst_lend _ _) (wst_leave _ _) (by first | rfl | kernel_rfl) (by first | rfl | kernel_rfl) (hnb_of (by first | rfl | kernel_rfl))) (by kernel_rfl) ?_)
      exact ⟨.inl rfl, _, Wk.refl _, rfl, rfl, rfl, rfl, rfl, rfl, trivial⟩
end Go.Proofs.YtebhbnhijnpmcaaGreatDoor

-- @STR@
namespace Go.Proofs.YtebhbnhijnpmcaaGreatDoor
open Go.RowKit
set_option linter.unusedVariables false
set_option linter.unusedSimpArgs false
set_option maxRecDepth 100000

-- 
set_option maxHeartbeats 2000000 in
theorem termW_abs (tb : Option (Nat × Obj)) (N : Nat) (hI : ItoaN tb N) (nm : List By) (hnm : nm.length ≤ 1000000) : ∀ (t : Tm) (o : Option By), t.nk N nm.length → (o.getD []).length + (txT nm t).length ≤ 1000000000 → AFunOT Tryz.prog tb 38 (wst nm o) [.bp 350001 0 [], .val t.cw] (.tup []) (wst nm (some (o.getD [] ++ txT nm t))) := by
  refine Tm.ind ?_
  intro f l ih o hk hl
  obtain ⟨⟨k1, k2, k3, k4⟩, k5⟩ := (Tm.nk_iff N nm.length ⟨f, l⟩).1 hk
  simp only at k1 k2 k3 k4 k5
  rw [txT_eq] at hl ⊢
  simp only at hl ⊢
  by_cases hf : f < 0
  · rw [if_pos hf] at hl ⊢
    have hv := varW_abs tb N hI nm o f hf k1 (k2 hf) hl
    refine afunOT_of Tryz.func38 Tryz.ntmps38 rfl rfl rfl rfl rfl rfl ?_
    intro w U hU hT
    refine aS (aR ?_)
    (refine nx (a_box (gN rfl) rfl rfl rfl rfl rfl) (by kernel_rfl) ?_)
    show AWp _ _ _ _ _ _ _
    refine aS (aS (aR ?_))
    (refine nx (aF (gN rfl) rfl rfl rfl rfl rfl rfl rfl rfl rfl) rfl ?_)
    (refine nx (aLb (gN rfl) rfl rfl rfl rfl rfl rfl rfl rfl rfl rfl rfl rfl) rfl ?_)
    (refine nx (a_lss (gN rfl) rfl rfl rfl rfl rfl rfl) rfl ?_)
    show AWp _ _ _ _ _ _ _
    have g : decide (f < 0) = true := decide_eq_true hf
    refine aC rfl (fun hc => ?_) (fun hc => by rw [g] at hc; cases hc)
    refine aS (aR ?_)
    (refine nx (aM (gN rfl) rfl rfl rfl rfl rfl) rfl ?_)
    (refine nx (aF (gN rfl) rfl rfl rfl rfl rfl rfl rfl rfl rfl) rfl ?_)
    (refine nx (aLb (gN rfl) rfl rfl rfl rfl rfl rfl rfl rfl rfl rfl rfl rfl) rfl ?_)
    (refine nx (a_callOT hT (gN rfl) rfl rfl rfl rfl rfl (hv) (by repeat (first | exact trivial | refine ⟨rfl, ?_⟩)) (wst_lend _ _) (wst_leave _ _) (by first | rfl | kernel_rfl) (by first | rfl | kernel_rfl) (hnb_of (by first | rfl | kernel_rfl))) (by kernel_rfl) ?_)
    show AWp _ _ _ _ _ _ _
    exact aT ⟨.inr rfl, _, Wk.refl _, rfl, rfl, rfl, rfl, rfl, rfl, trivial⟩
  rw [if_neg hf] at hl ⊢
  obtain ⟨n, rfl⟩ : ∃ n : Nat, f = (n : Int) := ⟨f.toNat, by omega⟩
  rw [Int.toNat_natCast, List.length_append] at hl
  rw [Int.toNat_natCast]
  have hs := symW_abs tb N hI nm o n (fun h => by have := k3 (by omega); omega) hnm (by omega)
  have g : decide ((n : Int) < 0) = false := decide_eq_false hf
  have hsz := Tm.size_all l
  have hln : (l.map Tm.cv).length = l.length := List.length_map ..
  refine afunOT_of Tryz.func38 Tryz.ntmps38 rfl rfl rfl rfl rfl rfl ?_
  intro w U hU hT
  refine aS (aR ?_)
  (refine nx (a_box (gN rfl) rfl rfl rfl rfl rfl) (by kernel_rfl) ?_)
  show AWp _ _ _ _ _ _ _
  refine aS (aS (aR ?_))
  (refine nx (aF (gN rfl) rfl rfl rfl rfl rfl rfl rfl rfl rfl) rfl ?_)
  (refine nx (aLb (gN rfl) rfl rfl rfl rfl rfl rfl rfl rfl rfl rfl rfl rfl) rfl ?_)
  (refine nx (a_lss (gN rfl) rfl rfl rfl rfl rfl rfl) rfl ?_)
  show AWp _ _ _ _ _ _ _
  refine aC rfl (fun hc => by rw [g] at hc; cases hc) (fun hc => aK ?_)
  show AWp _ _ _ _ _ _ _
  refine aS (aR ?_)
  (refine nx (aM (gN rfl) rfl rfl rfl rfl rfl) rfl ?_)
  (refine nx (aF (gN rfl) rfl rfl rfl rfl rfl rfl rfl rfl rfl) rfl ?_)
  (refine nx (aLb (gN rfl) rfl rfl rfl rfl rfl rfl rfl rfl rfl rfl rfl rfl) rfl ?_)
  (refine nx (a_callOT hT (gN rfl) rfl rfl rfl rfl rfl (hs) (by repeat (first | exact trivial | refine ⟨rfl, ?_⟩)) (wst_lend _ _) (wst_leave _ _) (by first | rfl | kernel_rfl) (by first | rfl | kernel_rfl) (hnb_of (by first | rfl | kernel_rfl))) (by kernel_rfl) ?_)
  show AWp _ _ _ _ _ _ _
  refine AWp.wk (wk_sub (s' := (0, .bp 350001 0 []) :: (3, .bp 3 0 []) :: (100003, .bx (.row [.i (n : Int), .lst (l.map Tm.cv)])) :: wst nm (some (o.getD [] ++ symX nm n))) ⟨rfl, rfl, rfl, rfl, rfl, rfl, rfl, rfl, trivial⟩) ?_
  refine aS (aS (aR ?_))
  (refine nx (aF (gN rfl) rfl rfl rfl rfl rfl rfl rfl rfl rfl) rfl ?_)
  (refine nx (aLb (gN rfl) rfl rfl rfl rfl rfl rfl rfl rfl rfl rfl rfl rfl) rfl ?_)
  (refine nx (a_len (gN rfl) rfl rfl rfl rfl rfl rfl rfl) rfl ?_)
  (refine nx (a_eql (gN rfl) rfl rfl rfl rfl rfl rfl) rfl ?_)
  show AWp _ _ _ _ _ _ _
  by_cases hle : l = []
  · subst hle
    refine aC rfl (fun hc => ?_) (fun hc => by cases hc)
    have e : o.getD [] ++ (symX nm n ++ parX (([] : List Tm).map (txT nm))) = o.getD [] ++ symX nm n := by simp [parX]
    rw [e]
    exact aT ⟨.inr rfl, _, Wk.refl _, rfl, rfl, rfl, rfl, rfl, rfl, trivial⟩
  have hlpos : 0 < l.length := List.length_pos_iff.2 hle
  have hpar : parX (l.map (txT nm)) = 40 :: (joinW [44] (l.map (txT nm)) ++ [41]) := parX_ne fun e => hle (List.map_eq_nil_iff.1 e)
  have g0 : decide (((l.map Tm.cv).length : Int) = 0) = false := by rw [decide_eq_false_iff_not, hln]; omega
  rw [hpar, List.length_cons, List.length_append] at hl
  obtain ⟨b0, hb0⟩ : ∃ b0, b0 = o.getD [] ++ symX nm n := ⟨_, rfl⟩
  have hb0l : b0.length = (o.getD []).length + (symX nm n).length := by rw [hb0, List.length_append]
  obtain ⟨T, hTt⟩ : ∃ T, T = l.map (txT nm) := ⟨_, rfl⟩
  rw [← hTt] at hl
  have hl : (o.getD []).length + ((symX nm n).length + ((joinW [44] T).length + 1 + 1)) ≤ 1000000000 := hl
  have hfin : o.getD [] ++ (symX nm n ++ parX (l.map (txT nm))) = (some (b0 ++ [40] ++ joinW [44] T)).getD [] ++ [41] := by
    rw [hpar, hb0, hTt]; simp
  rw [hfin, ← hb0]
  have p1 := put_abs tb nm (some b0) [40] (by show b0.length + 1 ≤ _; omega)
  have p3 := put_abs tb nm (some (b0 ++ [40] ++ joinW [44] T)) [41] (by show (b0 ++ [40] ++ joinW [44] T).length + 1 ≤ _; simp; omega)
  refine aC rfl (fun hc => by rw [g0] at hc; cases hc) (fun hc => aK ?_)
  show AWp _ _ _ _ _ _ _
  refine aS (aR ?_)
  (refine nx (aM (gN rfl) rfl rfl rfl rfl rfl) rfl ?_)
  (refine nx (a_callOT hT (gN rfl) rfl rfl rfl rfl rfl (p1) (by repeat (first | exact trivial | refine ⟨rfl, ?_⟩)) (wst_lend _ _) (wst_leave _ _) (by first | rfl | kernel_rfl) (by first | rfl | kernel_rfl) (hnb_of (by first | rfl | kernel_rfl))) (by kernel_rfl) ?_)
  show AWp _ _ _ _ _ _ _
  refine aS (aS (aR ?_))
  (refine nx (aF (gN rfl) rfl rfl rfl rfl rfl rfl rfl rfl rfl) rfl ?_)
  (refine nx (aLb (gN rfl) rfl rfl rfl rfl rfl rfl rfl rfl rfl rfl rfl rfl) rfl ?_)
  (refine nx (a_len (gN rfl) rfl rfl rfl rfl rfl rfl rfl) rfl ?_)
  (refine nx (aM (gN rfl) rfl rfl rfl rfl rfl) rfl ?_)
  show AWp _ _ _ _ _ _ _
  refine aB (awp_count l.length (fun k => (0, .bp 350001 0 []) :: (24, .val (.lst (l.map Tm.cv))) :: (25, .val (.i ((l.map Tm.cv).length : Int))) :: (26, .val (.i (k : Int))) :: wst nm (cstO [44] T (some (b0 ++ [40])) k)) (wk_sub ⟨rfl, rfl, rfl, rfl, rfl, rfl, rfl, rfl, rfl, trivial⟩) ?_)
  intro k hk
  refine aS (aR ?_)
  (refine nx (a_lss (gN rfl) rfl rfl rfl rfl rfl rfl) rfl ?_)
  show AWp _ _ _ _ _ _ _
  refine aS (aC rfl (fun hlt => ?_) (fun hlt => ?_))
  · have hkl : k < l.length := by
      have hlt : decide ((k : Int) < ((l.map Tm.cv).length : Int)) = true := hlt
      rw [hln] at hlt
      simpa using hlt
    obtain ⟨x, hx⟩ : ∃ x, l[k]? = some x := ⟨l[k], List.getElem?_eq_getElem hkl⟩
    have hx' := Tm.map_at hx
    have hxm := List.mem_of_getElem? hx
    have hTx : T[k]? = some (txT nm x) := by rw [hTt, List.getElem?_map, hx]; rfl
    have hstep := cst_step (sep := [44]) (o := some (b0 ++ [40])) hTx
    have hlen := joinW_take_le [44] T (k + 1)
    rw [joinW_take [44] hTx, List.length_append, List.length_append] at hlen
    obtain ⟨c0, hc0⟩ : ∃ c0, c0 = cstO [44] T (some (b0 ++ [40])) k := ⟨_, rfl⟩
    have hc0l : (c0.getD []).length = b0.length + 1 + (joinW [44] (T.take k)).length := by
      rw [hc0, cst_getD, List.length_append]
      show (b0 ++ [40]).length + _ = _
      rw [List.length_append]
      rfl
    rw [← hc0] at hstep ⊢
    have q1 := putB_abs tb nm c0 [44] k (fun _ => by
      show (c0.getD []).length + 1 ≤ _
      have := joinW_take_le [44] T k
      omega)
    obtain ⟨c1, hc1⟩ : ∃ c1, c1 = if k = 0 then c0 else some (c0.getD [] ++ [44]) := ⟨_, rfl⟩
    rw [← hc1] at hstep q1
    have hc1l : (c1.getD []).length + (txT nm x).length ≤ 1000000000 := by
      rw [hc1]
      by_cases h0 : k = 0
      · have h9 : ∀ sep : By, (joinW sep (T.take k)).length = 0 := fun sep => by rw [h0]; rfl
        have h8 := h9 [44]
        have h7 := h9 [32, 124, 32]
        rw [if_pos h0] at hlen ⊢
        have h3 : ([] : By).length = 0 := rfl
        omega
      · rw [if_neg h0] at hlen ⊢
        simp at hlen ⊢
        omega
    have q2 := ih x hxm c1 (k5 x hxm) hc1l
    refine aK ?_
    show AWp _ _ _ _ _ _ _
    refine aS (aB (aS (aR ?_)))
    (refine nx (aM (gN rfl) rfl rfl rfl rfl rfl) rfl ?_)
    (refine nx (a_index (j := k) (gN rfl) rfl rfl rfl rfl rfl rfl rfl rfl rfl (hx') rfl (hsz)) rfl ?_)
    (refine nx (a_load_ad (gN rfl) rfl rfl rfl rfl rfl rfl rfl rfl rfl) rfl ?_)
    (refine nx (a_alloc (gN rfl) rfl rfl rfl rfl rfl rfl rfl rfl rfl rfl) (by kernel_rfl) ?_)
    (refine nx (aA (gN rfl) rfl rfl rfl rfl rfl) rfl ?_)
    (refine nx (aSt (gN rfl) rfl rfl rfl rfl rfl rfl rfl rfl rfl rfl) rfl ?_)
    show AWp _ _ _ _ _ _ _
    refine aS (aR ?_)
    (refine nx (aM (gN rfl) rfl rfl rfl rfl rfl) rfl ?_)
    (refine nx (aM (gN rfl) rfl rfl rfl rfl rfl) rfl ?_)
    (refine nx (a_callOT hT (gN rfl) rfl rfl rfl rfl rfl (q1) (by repeat (first | exact trivial | refine ⟨rfl, ?_⟩)) (wst_lend _ _) (wst_leave _ _) (by first | rfl | kernel_rfl) (by first | rfl | kernel_rfl) (hnb_of (by first | rfl | kernel_rfl))) (by kernel_rfl) ?_)
    show AWp _ _ _ _ _ _ _
    refine aR ?_
    (refine nx (aM (gN rfl) rfl rfl rfl rfl rfl) rfl ?_)
    (refine nx (aL (gN rfl) rfl rfl rfl rfl rfl rfl rfl rfl rfl rfl rfl rfl) rfl ?_)
    (refine nx (a_callOT hT (gN rfl) rfl rfl rfl rfl rfl (q2) (by repeat (first | exact trivial | refine ⟨rfl, ?_⟩)) (wst_lend _ _) (wst_leave _ _) (by first | rfl | kernel_rfl) (by first | rfl | kernel_rfl) (hnb_of (by first | rfl | kernel_rfl))) (by kernel_rfl) ?_)
    show AWp _ _ _ _ _ _ _
    refine aR ?_
    (refine nx (a_add (gN rfl) rfl rfl rfl rfl rfl rfl (by first | omega | (simp only [List.length_map, List.length_append, List.length_cons, List.length_nil] <;> omega) | (simp <;> omega))) rfl ?_)
    (refine nx (aM (gN rfl) rfl rfl rfl rfl rfl) rfl ?_)
    refine ⟨hkl, wk_sub ⟨rfl, rfl, rfl, rfl, ?_, rfl, rfl, ?_, ?_, trivial⟩⟩
    all_goals (rw [hstep]; rfl)
  · have hkl : k = l.length := by
      have hlt : decide ((k : Int) < ((l.map Tm.cv).length : Int)) = false := hlt
      rw [hln] at hlt
      have := of_decide_eq_false hlt
      omega
    have hend : cstO [44] T (some (b0 ++ [40])) k = some (b0 ++ [40] ++ joinW [44] T) := by
      unfold cstO
      rw [if_neg (by omega), hkl, show l.length = T.length by rw [hTt, List.length_map], List.take_length]
      rfl
    rw [hend]
    refine aE ?_
    show AWp _ _ _ _ _ _ _
    refine aR ?_
    (refine nx (aM (gN rfl) rfl rfl rfl rfl rfl) rfl ?_)
    (refine nx (a_callOT hT (gN rfl) rfl rfl rfl rfl rfl (p3) (by repeat (first | exact trivial | refine ⟨rfl, ?_⟩)) (wst_lend _ _) (wst_leave _ _) (by first | rfl | kernel_rfl) (by first | rfl | kernel_rfl) (hnb_of (by first | rfl | kernel_rfl))) (by kernel_rfl) ?_)
    exact ⟨.inl rfl, _, Wk.refl _, rfl, rfl, rfl, rfl, rfl, rfl, trivial⟩
-- 
theorem isTr_abs (W : World) (t : Tm) : AFun Tryz.prog W 36 [t.cw] (.val (.b (trB t))) := by
  have hln : (t.l.map Tm.cv).length = t.l.length := List.length_map ..
  have e : trB t = (decide (t.f = 0) && decide (((t.l.map Tm.cv).length : Int) = 0)) := by
    unfold trB
    congr 1
    rw [decide_eq_decide, hln]
    omega
  rw [e]
  refine afun_of (rs := [.b (decide (t.f = 0) && decide (((t.l.map Tm.cv).length : Int) = 0))]) Tryz.func36 Tryz.ntmps36 rfl rfl rfl rfl ?_
  intro w U hW
  refine aS (aR ?_)
  (refine nx (a_box (gN rfl) rfl rfl rfl rfl rfl) rfl ?_)
  (refine nx (aA (gN rfl) rfl rfl rfl rfl rfl) rfl ?_)
  show AWp _ _ _ _ _ _ _
  cases h : decide (t.f = 0) with
  | true =>
    refine aS (aR ?_)
    (refine nx (aF (gN rfl) rfl rfl rfl rfl rfl rfl rfl rfl rfl) rfl ?_)
    (refine nx (aLb (gN rfl) rfl rfl rfl rfl rfl rfl rfl rfl rfl rfl rfl rfl) rfl ?_)
    (refine nx (a_eql (gN rfl) rfl rfl rfl rfl rfl rfl) rfl ?_)
    (refine nx (aM (gN rfl) rfl rfl rfl rfl rfl) rfl ?_)
    (refine nx (aF (gd_on rfl rfl rfl rfl (by first | rfl | assumption | (simp; done))) rfl rfl rfl rfl rfl rfl rfl rfl rfl) rfl ?_)
    (refine nx (aLb (gd_on rfl rfl rfl rfl (by first | rfl | assumption | (simp; done))) rfl rfl rfl rfl rfl rfl rfl rfl rfl rfl rfl rfl) rfl ?_)
    (refine nx (a_len (gd_on rfl rfl rfl rfl (by first | rfl | assumption | (simp; done))) rfl rfl rfl rfl rfl rfl rfl) rfl ?_)
    (refine nx (a_eql (gd_on rfl rfl rfl rfl (by first | rfl | assumption | (simp; done))) rfl rfl rfl rfl rfl rfl) rfl ?_)
    (refine ⟨_, _, _, aPt (gN rfl) rfl rfl rfl rfl rfl ?hb rfl, rfl, ?_⟩; case hb => (first | rfl | assumption | (simp; done)))
    (refine nx (aA (gN rfl) rfl rfl rfl rfl rfl) rfl ?_)
    show AWp _ _ _ _ _ _ _
    exact aT (And.intro (.inr rfl) rfl)
  | false =>
    refine aS (aR ?_)
    (refine nx (aF (gN rfl) rfl rfl rfl rfl rfl rfl rfl rfl rfl) rfl ?_)
    (refine nx (aLb (gN rfl) rfl rfl rfl rfl rfl rfl rfl rfl rfl rfl rfl rfl) rfl ?_)
    (refine nx (a_eql (gN rfl) rfl rfl rfl rfl rfl rfl) rfl ?_)
    (refine nx (aM (gN rfl) rfl rfl rfl rfl rfl) rfl ?_)
    (refine ⟨_, _, _, a_off (go_off rfl rfl rfl rfl (by first | rfl | assumption | (simp; done) | (simp [*]; done))) rfl rfl rfl, rfl, ?_⟩)
    (refine ⟨_, _, _, a_off (go_off rfl rfl rfl rfl (by first | rfl | assumption | (simp; done) | (simp [*]; done))) rfl rfl rfl, rfl, ?_⟩)
    (refine ⟨_, _, _, a_off (go_off rfl rfl rfl rfl (by first | rfl | assumption | (simp; done) | (simp [*]; done))) rfl rfl rfl, rfl, ?_⟩)
    (refine ⟨_, _, _, a_off (go_off rfl rfl rfl rfl (by first | rfl | assumption | (simp; done) | (simp [*]; done))) rfl rfl rfl, rfl, ?_⟩)
    (refine ⟨_, _, _, aPf (gN rfl) rfl rfl rfl rfl rfl ?hb rfl, rfl, ?_⟩; case hb => (first | rfl | assumption | (simp; done)))
    (refine nx (aA (gN rfl) rfl rfl rfl rfl rfl) rfl ?_)
    show AWp _ _ _ _ _ _ _
    exact aT (And.intro (.inr rfl) rfl)
structure Lt.nk (N L : Nat) (l : Lt) : Prop where
  a : l.a.nk N L
  b : l.b.nk N L
-- 
theorem atomW_abs (tb : Option (Nat × Obj)) (N : Nat) (hI : ItoaN tb N) (nm : List By) (hnm : nm.length ≤ 1000000) (l : Lt) (o : Option By) (hk : l.nk N nm.length) (hl : (o.getD []).length + ((if l.neg then ([126] : By) else []) ++ txT nm l.a).length ≤ 1000000000) : AFunOT Tryz.prog tb 37 (wst nm o) [.bp 350001 0 [], .val l.cw] (.tup []) (wst nm (some (o.getD [] ++ ((if l.neg then ([126] : By) else []) ++ txT nm l.a)))) := by
  obtain ⟨ng, la, lb⟩ := l
  simp only at hl ⊢
  refine afunOT_of Tryz.func37 Tryz.ntmps37 rfl rfl rfl rfl rfl rfl ?_
  intro w U hU hT
  refine aS (aR ?_)
  (refine nx (a_box (gN rfl) rfl rfl rfl rfl rfl) (by kernel_rfl) ?_)
  show AWp _ _ _ _ _ _ _
  refine aS (aS (aR ?_))
  (refine nx (aF (gN rfl) rfl rfl rfl rfl rfl rfl rfl rfl rfl) rfl ?_)
  (refine nx (aLb (gN rfl) rfl rfl rfl rfl rfl rfl rfl rfl rfl rfl rfl rfl) rfl ?_)
  show AWp _ _ _ _ _ _ _
  cases ng with
  | true =>
    have hl : (o.getD []).length + ((txT nm la).length + 1) ≤ 1000000000 := hl
    have p1 := put_abs tb nm o [126] (by show _ + 1 ≤ _; omega)
    have p2 := termW_abs tb N hI nm hnm la (some (o.getD [] ++ [126])) hk.a (by simp; omega)
    have e : o.getD [] ++ ((if true = true then ([126] : By) else []) ++ txT nm la) = (some (o.getD [] ++ [126])).getD [] ++ txT nm la := by simp
    rw [e]
    refine aC rfl (fun hc => ?_) (fun hc => by cases hc)
    refine aR ?_
    (refine nx (aM (gN rfl) rfl rfl rfl rfl rfl) rfl ?_)
    (refine nx (a_callOT hT (gN rfl) rfl rfl rfl rfl rfl (p1) (by repeat (first | exact trivial | refine ⟨rfl, ?_⟩)) (wst_lend _ _) (wst_leave _ _) (by first | rfl | kernel_rfl) (by first | rfl | kernel_rfl) (hnb_of (by first | rfl | kernel_rfl))) (by kernel_rfl) ?_)
    show AWp _ _ _ _ _ _ _
    refine aR ?_
    (refine nx (aM (gN rfl) rfl rfl rfl rfl rfl) rfl ?_)
    (refine nx (aF (gN rfl) rfl rfl rfl rfl rfl rfl rfl rfl rfl) rfl ?_)
    (refine nx (aLb (gN rfl) rfl rfl rfl rfl rfl rfl rfl rfl rfl rfl rfl rfl) rfl ?_)
    (refine nx (a_callOT hT (gN rfl) rfl rfl rfl rfl rfl (p2) (by repeat (first | exact trivial | refine ⟨rfl, ?_⟩)) (wst_lend _ _) (wst_leave _ _) (by first | rfl | kernel_rfl) (by first | rfl | kernel_rfl) (hnb_of (by first | rfl | kernel_rfl))) (by kernel_rfl) ?_)
    exact ⟨.inl rfl, _, Wk.refl _, rfl, rfl, rfl, rfl, rfl, rfl, trivial⟩
  | false =>
    have hl : (o.getD []).length + (txT nm la).length ≤ 1000000000 := hl
    have p2 := termW_abs tb N hI nm hnm la o hk.a hl
    have e : o.getD [] ++ ((if false = true then ([126] : By) else []) ++ txT nm la) = o.getD [] ++ txT nm la := by simp
    rw [e]
    refine aC rfl (fun hc => by cases hc) (fun hc => aK ?_)
    show AWp _ _ _ _ _ _ _
    refine aR ?_
    (refine nx (aM (gN rfl) rfl rfl rfl rfl rfl) rfl ?_)
    (refine nx (aF (gN rfl) rfl rfl rfl rfl rfl rfl rfl rfl rfl) rfl ?_)
    (refine nx (aLb (gN rfl) rfl rfl rfl rfl rfl rfl rfl rfl rfl rfl rfl rfl) rfl ?_)
    (refine nx (a_callOT hT (gN rfl) rfl rfl rfl rfl rfl (p2) (by repeat (first | exact trivial | refine ⟨rfl, ?_⟩)) (wst_lend _ _) (wst_leave _ _) (by first | rfl | kernel_rfl) (by first | rfl | kernel_rfl) (hnb_of (by first | rfl | kernel_rfl))) (by kernel_rfl) ?_)
    exact ⟨.inl rfl, _, Wk.refl _, rfl, rfl, rfl, rfl, rfl, rfl, trivial⟩
-- 
set_option maxHeartbeats 1000000 in
theorem litW_abs (tb : Option (Nat × Obj)) (N : Nat) (hI : ItoaN tb N) (nm : List By) (hnm : nm.length ≤ 1000000) (l : Lt) (o : Option By) (hk : l.nk N nm.length) (hl : (o.getD []).length + (txL nm l).length ≤ 1000000000) : AFunOT Tryz.prog tb 29 (wst nm o) [.bp 350001 0 [], .val l.cw] (.tup []) (wst nm (some (o.getD [] ++ txL nm l))) := by
  unfold txL at hl ⊢
  have ht := fun W => isTr_abs W l.b
  cases htr : trB l.b with
  | true =>
    rw [htr] at ht
    rw [htr, if_pos rfl] at hl
    rw [if_pos rfl]
    have p1 := atomW_abs tb N hI nm hnm l o hk hl
    refine afunOT_of Tryz.func29 Tryz.ntmps29 rfl rfl rfl rfl rfl rfl ?_
    intro w U hU hT
    refine aS (aR ?_)
    (refine nx (a_box (gN rfl) rfl rfl rfl rfl rfl) (by kernel_rfl) ?_)
    show AWp _ _ _ _ _ _ _
    refine aS (aS (aR ?_))
    (refine nx (aF (gN rfl) rfl rfl rfl rfl rfl rfl rfl rfl rfl) rfl ?_)
    (refine nx (aLb (gN rfl) rfl rfl rfl rfl rfl rfl rfl rfl rfl rfl rfl rfl) rfl ?_)
    (refine nx (a_call (gN rfl) rfl rfl rfl rfl rfl (ht w)) rfl ?_)
    show AWp _ _ _ _ _ _ _
    refine aC rfl (fun hc => ?_) (fun hc => by cases hc)
    refine aS (aR ?_)
    (refine nx (aM (gN rfl) rfl rfl rfl rfl rfl) rfl ?_)
    (refine nx (aL (gN rfl) rfl rfl rfl rfl rfl rfl rfl rfl rfl rfl rfl rfl) rfl ?_)
    (refine nx (a_callOT hT (gN rfl) rfl rfl rfl rfl rfl (p1) (by repeat (first | exact trivial | refine ⟨rfl, ?_⟩)) (wst_lend _ _) (wst_leave _ _) (by first | rfl | kernel_rfl) (by first | rfl | kernel_rfl) (hnb_of (by first | rfl | kernel_rfl))) (by kernel_rfl) ?_)
    show AWp _ _ _ _ _ _ _
    exact aT ⟨.inr rfl, _, Wk.refl _, rfl, rfl, rfl, rfl, rfl, rfl, trivial⟩
  | false =>
    rw [htr] at ht
    rw [htr, if_neg (by simp)] at hl
    rw [if_neg (by simp)]
    obtain ⟨ng, la, lb⟩ := l
    simp only at hl ht ⊢
    rw [List.length_append, List.length_append] at hl
    have p1 := termW_abs tb N hI nm hnm la o hk.a (by omega)
    obtain ⟨sg, hsg⟩ : ∃ sg : By, sg = if ng then [32, 33, 61, 32] else [32, 61, 32] := ⟨_, rfl⟩
    rw [← hsg] at hl ⊢
    have p2 := put_abs tb nm (some (o.getD [] ++ txT nm la)) sg (by simp; omega)
    have p3 := termW_abs tb N hI nm hnm lb (some ((some (o.getD [] ++ txT nm la)).getD [] ++ sg)) hk.b (by simp; omega)
    have e : o.getD [] ++ (txT nm la ++ (sg ++ txT nm lb)) = (some ((some (o.getD [] ++ txT nm la)).getD [] ++ sg)).getD [] ++ txT nm lb := by simp
    rw [e]
    refine afunOT_of Tryz.func29 Tryz.ntmps29 rfl rfl rfl rfl rfl rfl ?_
    intro w U hU hT
    refine aS (aR ?_)
    (refine nx (a_box (gN rfl) rfl rfl rfl rfl rfl) (by kernel_rfl) ?_)
    show AWp _ _ _ _ _ _ _
    refine aS (aS (aR ?_))
    (refine nx (aF (gN rfl) rfl rfl rfl rfl rfl rfl rfl rfl rfl) rfl ?_)
    (refine nx (aLb (gN rfl) rfl rfl rfl rfl rfl rfl rfl rfl rfl rfl rfl rfl) rfl ?_)
    (refine nx (a_call (gN rfl) rfl rfl rfl rfl rfl (ht w)) rfl ?_)
    show AWp _ _ _ _ _ _ _
    refine aC rfl (fun hc => by cases hc) (fun hc => aK ?_)
    show AWp _ _ _ _ _ _ _
    refine aS (aR ?_)
    (refine nx (aM (gN rfl) rfl rfl rfl rfl rfl) rfl ?_)
    (refine nx (aF (gN rfl) rfl rfl rfl rfl rfl rfl rfl rfl rfl) rfl ?_)
    (refine nx (aLb (gN rfl) rfl rfl rfl rfl rfl rfl rfl rfl rfl rfl rfl rfl) rfl ?_)
    (refine nx (a_callOT hT (gN rfl) rfl rfl rfl rfl rfl (p1) (by repeat (first | exact trivial | refine ⟨rfl, ?_⟩)) (wst_lend _ _) (wst_leave _ _) (by first | rfl | kernel_rfl) (by first | rfl | kernel_rfl) (hnb_of (by first | rfl | kernel_rfl))) (by kernel_rfl) ?_)
    show AWp _ _ _ _ _ _ _
    refine aS (aS (aR ?_))
    (refine nx (aF (gN rfl) rfl rfl rfl rfl rfl rfl rfl rfl rfl) rfl ?_)
    (refine nx (aLb (gN rfl) rfl rfl rfl rfl rfl rfl rfl rfl rfl rfl rfl rfl) rfl ?_)
    show AWp _ _ _ _ _ _ _
    cases ng with
    | true =>
      subst hsg
      refine aC rfl (fun hc => ?_) (fun hc => by cases hc)
      refine aR ?_
      (refine nx (aM (gN rfl) rfl rfl rfl rfl rfl) rfl ?_)
      (refine nx (a_callOT hT (gN rfl) rfl rfl rfl rfl rfl (p2) (by repeat (first | exact trivial | refine ⟨rfl, ?_⟩)) (wst_lend _ _) (wst_leave _ _) (by first | rfl | kernel_rfl) (by first | rfl | kernel_rfl) (hnb_of (by first | rfl | kernel_rfl))) (by kernel_rfl) ?_)
      show AWp _ _ _ _ _ _ _
      refine aR ?_
      (refine nx (aM (gN rfl) rfl rfl rfl rfl rfl) rfl ?_)
      (refine nx (aF (gN rfl) rfl rfl rfl rfl rfl rfl rfl rfl rfl) rfl ?_)
      (refine nx (aLb (gN rfl) rfl rfl rfl rfl rfl rfl rfl rfl rfl rfl rfl rfl) rfl ?_)
      (refine nx (a_callOT hT (gN rfl) rfl rfl rfl rfl rfl (p3) (by repeat (first | exact trivial | refine ⟨rfl, ?_⟩)) (wst_lend _ _) (wst_leave _ _) (by first | rfl | kernel_rfl) (by first | rfl | kernel_rfl) (hnb_of (by first | rfl | kernel_rfl))) (by kernel_rfl) ?_)
      exact ⟨.inl rfl, _, Wk.refl _, rfl, rfl, rfl, rfl, rfl, rfl, trivial⟩
    | false =>
      subst hsg
      refine aC rfl (fun hc => by cases hc) (fun hc => ?_)
      refine aR ?_
      (refine nx (aM (gN rfl) rfl rfl rfl rfl rfl) rfl ?_)
      (refine nx (a_callOT hT (gN rfl) rfl rfl rfl rfl rfl (p2) (by repeat (first | exact trivial | refine ⟨rfl, ?_⟩)) (wst_lend _ _) (wst_leave _ _) (by first | rfl | kernel_rfl) (by first | rfl | kernel_rfl) (hnb_of (by first | rfl | kernel_rfl))) (by kernel_rfl) ?_)
      show AWp _ _ _ _ _ _ _
      refine aR ?_
      (refine nx (aM (gN rfl) rfl rfl rfl rfl rfl) rfl ?_)
      (refine nx (aF (gN rfl) rfl rfl rfl rfl rfl rfl rfl rfl rfl) rfl ?_)
      (refine nx (aLb (gN rfl) rfl rfl rfl rfl rfl rfl rfl rfl rfl rfl rfl rfl) rfl ?_)
      (refine nx (a_callOT hT (gN rfl) rfl rfl rfl rfl rfl (p3) (by repeat (first | exact trivial | refine ⟨rfl, ?_⟩)) (wst_lend _ _) (wst_leave _ _) (by first | rfl | kernel_rfl) (by first | rfl | kernel_rfl) (hnb_of (by first | rfl | kernel_rfl))) (by kernel_rfl) ?_)
      exact ⟨.inl rfl, _, Wk.refl _, rfl, rfl, rfl, rfl, rfl, rfl, trivial⟩
-- 
set_option maxHeartbeats 1000000 in
theorem clsW_abs (tb : Option (Nat × Obj)) (N : Nat) (hI : ItoaN tb N) (nm : List By) (hnm : nm.length ≤ 1000000) (c : List Lt) (o : Option By) (hcl : c.length ≤ 1000000) (hk : ∀ l ∈ c, l.nk N nm.length) (hl : (o.getD []).length + (txC nm c).length ≤ 1000000000) : AFunOT Tryz.prog tb 16 (wst nm o) [.bp 350001 0 [], .val (lcv c)] (.tup []) (wst nm (some (o.getD [] ++ txC nm c))) := by
  have hsz := Lt.size_all c
  have hln : (c.map Lt.cv).length = c.length := List.length_map ..
  obtain ⟨T, hTt⟩ : ∃ T, T = c.map (txL nm) := ⟨_, rfl⟩
  have hTl : T.length = c.length := by rw [hTt, List.length_map]
  refine afunOT_of Tryz.func16 Tryz.ntmps16 rfl rfl rfl rfl rfl rfl ?_
  intro w U hU hT
  refine aS (aS (aR ?_))
  (refine nx (aM (gN rfl) rfl rfl rfl rfl rfl) rfl ?_)
  (refine nx (a_len (gN rfl) rfl rfl rfl rfl rfl rfl rfl) rfl ?_)
  (refine nx (a_eql (gN rfl) rfl rfl rfl rfl rfl rfl) rfl ?_)
  show AWp _ _ _ _ _ _ _
  by_cases hc0 : c = []
  · subst hc0
    have e : txC nm [] = neverB := rfl
    rw [e] at hl ⊢
    have p1 := put_abs tb nm o neverB hl
    refine aC rfl (fun hc => ?_) (fun hc => by cases hc)
    refine aR ?_
    (refine nx (aM (gN rfl) rfl rfl rfl rfl rfl) rfl ?_)
    (refine nx (a_callOT hT (gN rfl) rfl rfl rfl rfl rfl (p1) (by repeat (first | exact trivial | refine ⟨rfl, ?_⟩)) (wst_lend _ _) (wst_leave _ _) (by first | rfl | kernel_rfl) (by first | rfl | kernel_rfl) (hnb_of (by first | rfl | kernel_rfl))) (by kernel_rfl) ?_)
    show AWp _ _ _ _ _ _ _
    refine aS (aR ?_)
    (refine nx (aM (gN rfl) rfl rfl rfl rfl rfl) rfl ?_)
    (refine nx (a_len (gN rfl) rfl rfl rfl rfl rfl rfl rfl) rfl ?_)
    (refine nx (aM (gN rfl) rfl rfl rfl rfl rfl) rfl ?_)
    show AWp _ _ _ _ _ _ _
    refine aB (awp_count 0 (fun k => (0, .bp 350001 0 []) :: (12, .val (.i 0)) :: (13, .val (.i (k : Int))) :: wst nm (some (o.getD [] ++ neverB))) (wk_sub ⟨rfl, rfl, rfl, rfl, rfl, rfl, rfl, rfl, trivial⟩) ?_)
    intro k hk
    have hk0 : k = 0 := by omega
    subst hk0
    refine aS (aR ?_)
    (refine nx (a_lss (gN rfl) rfl rfl rfl rfl rfl rfl) rfl ?_)
    show AWp _ _ _ _ _ _ _
    refine aS (aC rfl (fun hlt => by cases hlt) (fun hlt => ?_))
    refine aE ?_
    exact ⟨.inl rfl, _, Wk.refl _, rfl, rfl, rfl, rfl, rfl, rfl, trivial⟩
  have hlpos : 0 < c.length := List.length_pos_iff.2 hc0
  have g0 : decide (((c.map Lt.cv).length : Int) = 0) = false := by rw [decide_eq_false_iff_not, hln]; omega
  have e : txC nm c = joinW [32, 124, 32] T := by unfold txC; rw [if_neg hc0, hTt]
  rw [e] at hl ⊢
  refine aC rfl (fun hc => by rw [g0] at hc; cases hc) (fun hc => aK ?_)
  show AWp _ _ _ _ _ _ _
  refine aS (aR ?_)
  (refine nx (aM (gN rfl) rfl rfl rfl rfl rfl) rfl ?_)
  (refine nx (a_len (gN rfl) rfl rfl rfl rfl rfl rfl rfl) rfl ?_)
  (refine nx (aM (gN rfl) rfl rfl rfl rfl rfl) rfl ?_)
  show AWp _ _ _ _ _ _ _
  refine aB (awp_count c.length (fun k => (0, .bp 350001 0 []) :: (11, .val (.lst (c.map Lt.cv))) :: (12, .val (.i ((c.map Lt.cv).length : Int))) :: (13, .val (.i (k : Int))) :: wst nm (cstO [32, 124, 32] T o k)) (wk_sub ⟨rfl, rfl, rfl, rfl, rfl, rfl, rfl, rfl, rfl, trivial⟩) ?_)
  intro k hk1
  refine aS (aR ?_)
  (refine nx (a_lss (gN rfl) rfl rfl rfl rfl rfl rfl) rfl ?_)
  show AWp _ _ _ _ _ _ _
  refine aS (aC rfl (fun hlt => ?_) (fun hlt => ?_))
  · have hkl : k < c.length := by
      have hlt : decide ((k : Int) < ((c.map Lt.cv).length : Int)) = true := hlt
      rw [hln] at hlt
      simpa using hlt
    obtain ⟨x, hx⟩ : ∃ x, c[k]? = some x := ⟨c[k], List.getElem?_eq_getElem hkl⟩
    have hx' := Lt.map_at hx
    have hxm := List.mem_of_getElem? hx
    have hTx : T[k]? = some (txL nm x) := by rw [hTt, List.getElem?_map, hx]; rfl
    have hstep := cst_step (sep := [32, 124, 32]) (o := o) hTx
    have hlen := joinW_take_le [32, 124, 32] T (k + 1)
    rw [joinW_take [32, 124, 32] hTx, List.length_append, List.length_append] at hlen
    obtain ⟨c0, hc0'⟩ : ∃ c0, c0 = cstO [32, 124, 32] T o k := ⟨_, rfl⟩
    have hc0l : (c0.getD []).length = (o.getD []).length + (joinW [32, 124, 32] (T.take k)).length := by rw [hc0', cst_getD, List.length_append]
    rw [← hc0'] at hstep ⊢
    have q1 := putB_abs tb nm c0 [32, 124, 32] k (fun h0 => by
      show (c0.getD []).length + 3 ≤ _
      rw [if_neg h0] at hlen
      have h3 : ([32, 124, 32] : By).length = 3 := rfl
      omega)
    obtain ⟨c1, hc1⟩ : ∃ c1, c1 = if k = 0 then c0 else some (c0.getD [] ++ [32, 124, 32]) := ⟨_, rfl⟩
    rw [← hc1] at hstep q1
    have hc1l : (c1.getD []).length + (txL nm x).length ≤ 1000000000 := by
      rw [hc1]
      by_cases h0 : k = 0
      · have h9 : ∀ sep : By, (joinW sep (T.take k)).length = 0 := fun sep => by rw [h0]; rfl
        have h8 := h9 [44]
        have h7 := h9 [32, 124, 32]
        rw [if_pos h0] at hlen ⊢
        have h3 : ([] : By).length = 0 := rfl
        omega
      · rw [if_neg h0] at hlen ⊢
        simp at hlen ⊢
        omega
    have q2 := litW_abs tb N hI nm hnm x c1 (hk x hxm) hc1l
    refine aK ?_
    show AWp _ _ _ _ _ _ _
    refine aS (aB (aS (aR ?_)))
    (refine nx (aM (gN rfl) rfl rfl rfl rfl rfl) rfl ?_)
    (refine nx (a_index (j := k) (gN rfl) rfl rfl rfl rfl rfl rfl rfl rfl rfl (hx') rfl (hsz)) rfl ?_)
    (refine nx (a_load_ad (gN rfl) rfl rfl rfl rfl rfl rfl rfl rfl rfl) rfl ?_)
    (refine nx (a_allocT [.b false, .row [.i 0, .lst []], .row [.i 0, .lst []]] (gN rfl) rfl rfl rfl rfl rfl rfl rfl) (by kernel_rfl) ?_)
    (refine nx (aA (gN rfl) rfl rfl rfl rfl rfl) rfl ?_)
    (refine nx (aSt (gN rfl) rfl rfl rfl rfl rfl rfl rfl rfl rfl rfl) rfl ?_)
    show AWp _ _ _ _ _ _ _
    refine aS (aR ?_)
    (refine nx (aM (gN rfl) rfl rfl rfl rfl rfl) rfl ?_)
    (refine nx (aM (gN rfl) rfl rfl rfl rfl rfl) rfl ?_)
    (refine nx (a_callOT hT (gN rfl) rfl rfl rfl rfl rfl (q1) (by repeat (first | exact trivial | refine ⟨rfl, ?_⟩)) (wst_lend _ _) (wst_leave _ _) (by first | rfl | kernel_rfl) (by first | rfl | kernel_rfl) (hnb_of (by first | rfl | kernel_rfl))) (by kernel_rfl) ?_)
    show AWp _ _ _ _ _ _ _
    refine aR ?_
    (refine nx (aM (gN rfl) rfl rfl rfl rfl rfl) rfl ?_)
    (refine nx (aL (gN rfl) rfl rfl rfl rfl rfl rfl rfl rfl rfl rfl rfl rfl) rfl ?_)
    (refine nx (a_callOT hT (gN rfl) rfl rfl rfl rfl rfl (q2) (by repeat (first | exact trivial | refine ⟨rfl, ?_⟩)) (wst_lend _ _) (wst_leave _ _) (by first | rfl | kernel_rfl) (by first | rfl | kernel_rfl) (hnb_of (by first | rfl | kernel_rfl))) (by kernel_rfl) ?_)
    show AWp _ _ _ _ _ _ _
    refine aR ?_
    (refine nx (a_add (gN rfl) rfl rfl rfl rfl rfl rfl (by first | omega | (simp only [List.length_map, List.length_append, List.length_cons, List.length_nil] <;> omega) | (simp <;> omega))) rfl ?_)
    (refine nx (aM (gN rfl) rfl rfl rfl rfl rfl) rfl ?_)
    refine ⟨hkl, wk_sub ⟨rfl, rfl, rfl, rfl, ?_, rfl, rfl, ?_, ?_, trivial⟩⟩
    all_goals (rw [hstep]; rfl)
  · have hkl : k = c.length := by
      have hlt : decide ((k : Int) < ((c.map Lt.cv).length : Int)) = false := hlt
      rw [hln] at hlt
      have := of_decide_eq_false hlt
      omega
    have hend : cstO [32, 124, 32] T o k = some (o.getD [] ++ joinW [32, 124, 32] T) := by
      unfold cstO
      rw [if_neg (by omega), hkl, ← hTl, List.take_length]
    rw [hend]
    refine aE ?_
    exact ⟨.inl rfl, _, Wk.refl _, rfl, rfl, rfl, rfl, rfl, rfl, trivial⟩
end Go.Proofs.YtebhbnhijnpmcaaGreatDoor

