/-
  ClNmX ClTtM ClRefN ClRefO ClRefP ClTop ClBare
-/
import Derived.Test.YtmeegdomncadpaaGreatMg6
import Derived.Test.YtmeegdomncadpaaGreatMg3
import Derived.Test.YtmeegdomncadpaaGreatMg5
namespace Go.Proofs.YtmeegdomncadpaaGreat
open Go.RowKit
set_option linter.unusedVariables false
set_option linter.unusedSimpArgs false
set_option maxRecDepth 100000
theorem bndV_img {c : List Lt} {g : Int → Int} {v : Int} (hv : v ∈ (sidT c).nv) : imgB (bndV c g) v = varT (g (ixOf (sidT c).nv v : Nat)) := by
  unfold bndV
  rw [img_zip (by rw [List.length_map, nums_len]) hv]
  have hlt := ixOf_lt hv
  rw [getD_of (v := g (ixOf (sidT c).nv v : Nat)) (by rw [List.getElem?_map, nums_at hlt]; rfl)]
theorem bndV_var (c : List Lt) (g : Int → Int) (hg : ∀ n, 0 ≤ n → n ≤ 24001 → 0 ≤ g n ∧ g n ≤ 24001) (hn : okCl c) : ∀ b ∈ bndV c g, ∃ u, b.t = varT u ∧ 0 ≤ u ∧ u ≤ 24001 := fun b hb => by
  unfold bndV at hb
  obtain ⟨u, hu, e⟩ := zip_mem hb
  obtain ⟨n, hn2, rfl⟩ := List.mem_map.1 hu
  have := nums_mem.1 hn2
  have hl := hn.nv
  exact ⟨_, e, hg n (by omega) (by omega)⟩
theorem bndV_ok (c : List Lt) (g : Int → Int) (hg : ∀ n, 0 ≤ n → n ≤ 24001 → 0 ≤ g n ∧ g n ≤ 24001) (hn : okCl c) : bdsOk (bndV c g) := fun b hb => by
  obtain ⟨u, e, h1, h2⟩ := bndV_var c g hg hn b hb
  rw [e]
  exact ⟨varT_rng h1 (by omega), by rw [varT_size]; omega⟩
theorem img_var {L : List Bd} (h : ∀ b ∈ L, ∃ u, b.t = varT u) (v : Int) : ∃ u, imgB L v = varT u := by
  unfold imgB
  cases hf : findB L v with
  | none => exact ⟨v, rfl⟩
  | some t =>
    have : ∃ b ∈ L, b.t = t := by
      clear h
      induction L with
      | nil => cases hf
      | cons b L ih =>
        unfold findB at hf
        split at hf
        · exact ⟨b, by simp, by injection hf⟩
        · obtain ⟨x, hx, e⟩ := ih hf
          exact ⟨x, List.mem_cons_of_mem _ hx, e⟩
    obtain ⟨b, hb, rfl⟩ := this
    obtain ⟨u, e⟩ := h b hb
    exact ⟨u, e⟩
theorem rep_size1 {img : Int → Tm} (h : ∀ v, ∃ u, img v = varT u) (t : Tm) : (repT img t).size = t.size := by
  have := repT_size img t
  have e : (t.vs.map fun v => (((img v).size : Nat) : Int) - 1).sum = 0 := by
    generalize t.vs = l
    induction l with
    | nil => rfl
    | cons v l ih =>
      obtain ⟨u, hu⟩ := h v
      rw [List.map_cons, List.sum_cons, ih, hu, varT_size]; rfl
  rw [e] at this
  omega
theorem okCl.rep {c : List Lt} (hn : okCl c) {L : List Bd} (hL : ∀ b ∈ L, ∃ u, b.t = varT u ∧ 0 ≤ u ∧ u ≤ 24001) : okCl (c.map (Lt.rep (imgB L))) := by
  refine ⟨by rw [List.length_map]; exact hn.1, fun l hl => ?_⟩
  obtain ⟨x, hx, rfl⟩ := List.mem_map.1 hl
  have hv : ∀ v, ∃ u, imgB L v = varT u := img_var fun b hb => by obtain ⟨u, e, _⟩ := hL b hb; exact ⟨u, e⟩
  have hb : bdsOk L := fun b hb => by
    obtain ⟨u, e, h1, h2⟩ := hL b hb
    rw [e]
    exact ⟨varT_rng h1 (by omega), by rw [varT_size]; omega⟩
  have key : ∀ t : Tm, (t.rng ∧ t.ok ∧ t.size ≤ 1000) → ((repT (imgB L) t).rng ∧ (repT (imgB L) t).ok ∧ (repT (imgB L) t).size ≤ 1000) := fun t ht => by
    refine ⟨repT_rng ht.1 fun v h1 h2 => (imgB_ok hb h1 h2).1, repT_ok ht.2.1 fun v => ?_, by rw [rep_size1 hv]; exact ht.2.2⟩
    obtain ⟨u, hu⟩ := hv v
    rw [hu]
    exact varT_ok u
  exact ⟨key _ (hn.2 x hx).1, key _ (hn.2 x hx).2⟩
theorem okCl.inD {c : List Lt} (hn : okCl c) : okCl (inD c) := by
  refine ⟨by rw [inD_len]; exact hn.1, fun l hl => ?_⟩
  obtain ⟨x, hx, rfl⟩ := inD_mem.1 hl
  rcases rtL_or x with e | e <;> rw [e]
  · exact hn.2 x hx
  · exact ⟨(hn.2 x hx).2, (hn.2 x hx).1⟩
theorem okCl.ded {c : List Lt} (hn : okCl c) {q : Lt → Lt → Bool} : okCl (dedD q c) := ⟨Nat.le_trans (dedD_len c) hn.1, fun l hl => hn.2 l (dedD_mem hl)⟩
theorem looks_eq (c : List Lt) : c.map (Lt.rep (imgB (bndV c (fun _ => 0)))) = c.map lkL := by
  refine List.map_congr_left fun l hl => ?_
  unfold lkL Lt.rep
  rw [rep_congr (g := fun _ => varT 0) fun v hv => bndV_img (mem_sid_vs hl (.inl hv)), rep_congr (g := fun _ => varT 0) fun v hv => bndV_img (mem_sid_vs hl (.inr hv))]
theorem lk_rng {c : List Lt} (hn : okCl c) : ∀ l ∈ c, (lkL l).rng := fun l hl => by
  have h := (hn.rep (L := bndV c (fun _ => 0)) (bndV_var c _ (fun _ _ _ => by omega) hn)).rng
  rw [looks_eq] at h
  exact h _ (List.mem_map_of_mem hl)
theorem trn_rng {l k : Lt} (h : k.rng) : (trnS l k).look.rng := by
  unfold trnS
  split
  · exact h
  · exact ⟨h.2, h.1⟩
theorem numB_eq (c : List Lt) : bndV c id = numB c := by
  unfold bndV numB
  rw [List.map_id]
def snL (c : List Lt) : List Sn := c.map fun l => trnS l (lkL l)
-- 
set_option maxHeartbeats 4000000 in
theorem cIn_abs (W : World) (c : List Lt) (hn : okCl c) : AFun Tryz.prog W 38 [.lst (c.map Lt.cv)] (.val (.lst ((inL c).map Lt.cv))) := by
  obtain ⟨hr, hok, hsi⟩ := hn.sid
  have hlen := hn.1
  have hap := fun w => cApply_abs w (bndV c (fun _ => 0)) c (by omega) (by rw [bndV_len]; have := hn.nv; omega) (bndV_ok c _ (fun _ _ _ => by omega) hn) hr hok
  rw [looks_eq] at hap
  have hsz := Lt.size_all c
  have hszk := Lt.size_all (c.map lkL)
  obtain ⟨S, hS⟩ : ∃ S, S = snL c := ⟨_, rfl⟩
  have hSl : S.length = c.length := by rw [hS]; unfold snL; rw [List.length_map]
  have hSr : ∀ x ∈ S, x.look.rng := fun x hx => by
    rw [hS] at hx
    obtain ⟨l, hl, rfl⟩ := List.mem_map.1 hx
    exact trn_rng (lk_rng hn l hl)
  have hso := sortStableSn_abs cmpSn (.sc (.func (.func 69) #[] #[])) S (by omega) (fun W x y hx hy => .inr ⟨_, rfl, cCmpK_abs W x y (hSr x hx) (hSr y hy)⟩)
  rw [isort_srt0] at hso
  obtain ⟨T, hT⟩ : ∃ T, T = srtD (ltG cmpSn) S := ⟨_, rfl⟩
  have hTl : T.length = c.length := by rw [hT, (srtD_perm _ _).length_eq, hSl]
  have hin : inL c = T.map Sn.lit := by rw [hT, hS]; rfl
  rw [← hT] at hso
  rw [hin]
  have hszT := Sn.size_all T
  refine afun_of (rs := [.lst ((T.map Sn.lit).map Lt.cv)]) Tryz.func38 Tryz.ntmps38 rfl rfl rfl rfl ?_
  intro w U hW
  have hUf : U.f 400000 = none := hW.1 400000
  refine aS (aR ?_)
  (refine nx (aA (gN rfl) rfl rfl rfl rfl rfl) rfl ?_)
  show AWp _ _ _ _ _ _ _
  refine aS (aR ?_)
  (refine nx (aM (gN rfl) rfl rfl rfl rfl rfl) rfl ?_)
  (refine nx (a_call (gN rfl) rfl rfl rfl rfl rfl (cAll_abs w c hn)) rfl ?_)
  (refine nx (aM (gN rfl) rfl rfl rfl rfl rfl) rfl ?_)
  (refine nx (a_call (gN rfl) rfl rfl rfl rfl rfl (hap w)) rfl ?_)
  (refine nx (aA (gN rfl) rfl rfl rfl rfl rfl) rfl ?_)
  show AWp _ _ _ _ _ _ _
  refine aS (aR ?_)
  (refine nx (aA (gN rfl) rfl rfl rfl rfl rfl) rfl ?_)
  show AWp _ _ _ _ _ _ _
  refine aS (aS (aR ?_))
  (refine nx (aM (gN rfl) rfl rfl rfl rfl rfl) rfl ?_)
  (refine nx (a_len (gN rfl) rfl rfl rfl rfl rfl rfl rfl) rfl ?_)
  (refine nx (aM (gN rfl) rfl rfl rfl rfl rfl) rfl ?_)
  show AWp _ _ _ _ _ _ _
  refine aB (awp_count c.length (fun k => [(3, .val (.lst ((c.map lkL).map Lt.cv))), (4, .sl 250007 0 (S.take k).length 10), (14, .val (.lst (c.map Lt.cv))), (15, .val (.i (c.map Lt.cv).length)), (16, .val (.i k)), (250007, .mrow 103 10 ((S.take k).map Sn.cv))])
    ((wk_nilM 4 250007 103 10 rfl rfl rfl rfl rfl).trans (wk_sub ⟨rfl, rfl, rfl, rfl, rfl, rfl, trivial⟩)) ?_)
  intro k hk
  refine aS (aR ?_)
  (refine nx (a_lss (gN rfl) rfl rfl rfl rfl rfl rfl) rfl ?_)
  show AWp _ _ _ _ _ _ _
  refine aS (aC rfl (fun hlt => ?_) (fun hlt => ?_))
  · have hkl : k < c.length := by simpa using hlt
    obtain ⟨x, hx⟩ : ∃ x, c[k]? = some x := ⟨c[k], List.getElem?_eq_getElem hkl⟩
    have hx' := Lt.map_at hx
    have hxm := List.mem_of_getElem? hx
    have hk' : ((c.map lkL).map Lt.cv)[k]? = some (lkL x).cw := Lt.map_at (by rw [List.getElem?_map, hx]; rfl)
    have hSk : S[k]? = some (trnS x (lkL x)) := by rw [hS]; unfold snL; rw [List.getElem?_map, hx]; rfl
    have hsz2 : ∀ z ∈ (S.take k).map Sn.cv, z.size = 10 := Sn.size_all _
    have hl3 : ((S.take k).map Sn.cv).length = (S.take k).length := List.length_map ..
    have hl4 : (S.take k).length ≤ 12 := by rw [List.length_take]; omega
    refine aK ?_
    show AWp _ _ _ _ _ _ _
    refine aS (aB (aS (aR ?_)))
    (refine nx (aM (gN rfl) rfl rfl rfl rfl rfl) rfl ?_)
    (refine nx (a_index (j := k) (gN rfl) rfl rfl rfl rfl rfl rfl rfl rfl rfl (hx') rfl (hsz)) rfl ?_)
    (refine nx (a_load_ad (gN rfl) rfl rfl rfl rfl rfl rfl rfl rfl rfl) rfl ?_)
    (refine nx (a_alloc (gN rfl) rfl rfl rfl rfl rfl rfl rfl rfl rfl rfl) rfl ?_)
    (refine nx (aA (gN rfl) rfl rfl rfl rfl rfl) rfl ?_)
    (refine nx (aSt (gN rfl) rfl rfl rfl rfl rfl rfl rfl rfl rfl rfl) rfl ?_)
    show AWp _ _ _ _ _ _ _
    refine aD (by kernel_rfl) (by kernel_rfl) ?_
    (refine nx (aM (gN rfl) rfl rfl rfl rfl rfl) rfl ?_)
    (refine nx (aL (gN rfl) rfl rfl rfl rfl rfl rfl rfl rfl rfl rfl rfl rfl) rfl ?_)
    (refine nx (aM (gN rfl) rfl rfl rfl rfl rfl) rfl ?_)
    (refine nx (aM (gN rfl) rfl rfl rfl rfl rfl) rfl ?_)
    (refine nx (a_index (j := k) (gN rfl) rfl rfl rfl rfl rfl rfl rfl rfl rfl (hk') rfl (hszk)) rfl ?_)
    (refine nx (a_load_ad (gN rfl) rfl rfl rfl rfl rfl rfl rfl rfl rfl) rfl ?_)
    (refine nx (a_call (gN rfl) rfl rfl rfl rfl rfl (cTbl_abs w x (lkL x) (lk_rng hn x hxm))) rfl ?_)
    (refine nx (a_bslice (gN rfl) rfl rfl rfl rfl rfl rfl rfl rfl rfl rfl rfl rfl rfl) rfl ?_)
    (refine nx (a_appM 250029 (gN rfl) rfl rfl rfl rfl rfl rfl rfl rfl rfl rfl rfl rfl rfl (by first | rfl | omega | (simp only [List.length_set, List.length_map, List.length_append, List.length_cons, List.length_nil] <;> omega) | (simp <;> omega)) (by first | assumption | exact sZ rfl | exact Tm.size_all _ | exact Bd.size_all _ | exact ints_size _ | exact bys_size _ | exact Lt.size_all _) (by first | omega | (simp only [List.length_map, List.length_append, List.length_cons, List.length_nil] <;> omega) | (simp <;> omega))) rfl ?_)
    (refine nx (aA (gN rfl) rfl rfl rfl rfl rfl) rfl ?_)
    refine ⟨by kernel_rfl, ?_⟩
    show AWp _ _ _ _ _ _ _
    refine aR ?_
    (refine nx (a_add (gN rfl) rfl rfl rfl rfl rfl rfl (by first | omega | (simp only [List.length_map, List.length_append, List.length_cons, List.length_nil] <;> omega) | (simp <;> omega))) rfl ?_)
    (refine nx (aM (gN rfl) rfl rfl rfl rfl rfl) rfl ?_)
    refine ⟨hkl, (wk_sub (s' := [(3, .val (.lst ((c.map lkL).map Lt.cv))), (4, .sl 250029 0 (S.take (k + 1)).length 10), (14, .val (.lst (c.map Lt.cv))), (15, .val (.i (c.map Lt.cv).length)), (16, .val (.i ((k + 1 : Nat) : Int))), (250029, .mrow 103 10 ((S.take (k + 1)).map Sn.cv))]) ⟨rfl, ?_, rfl, rfl, rfl, ?_, trivial⟩).trans (wk_ren 250029 250007 rfl rfl (by kernel_rfl) (by kernel_rfl))⟩
    · rw [List.take_add_one, hSk, Option.toList_some, List.length_append, ← hl3]; rfl
    · rw [List.take_add_one, hSk, Option.toList_some, List.map_append]; rfl
  · have hkl : k = S.length := by
      have : ¬ k < c.length := by simpa using hlt
      omega
    subst hkl
    rw [List.take_length]
    refine aE ?_
    show AWp _ _ _ _ _ _ _
    refine AWp.wk ((wk_sub (s' := [(4, .sl 250007 0 S.length 10), (250007, .mrow 103 10 (S.map Sn.cv))]) ⟨rfl, rfl, trivial⟩).trans (wk_renF 250007 400000 rfl rfl hUf rfl rfl rfl)) ?_
    refine aS (aR ?_)
    (refine nx (aM (gN rfl) rfl rfl rfl rfl rfl) rfl ?_)
    (refine nx (a_callO (gN rfl) rfl rfl rfl rfl rfl (hso) (by repeat (first | exact trivial | refine ⟨rfl, ?_⟩)) (by first | rfl | kernel_rfl) (by first | rfl | kernel_rfl) (by first | rfl | kernel_rfl) (by first | rfl | kernel_rfl) (hnb_of (by first | rfl | kernel_rfl))) rfl ?_)
    show AWp _ _ _ _ _ _ _
    refine AWp.wk (wk_sub (s' := [(4, .sl 400000 0 T.length 10), (400000, .mrow 103 10 (T.map Sn.cv))]) ⟨by rw [hTl, ← hSl]; rfl, rfl, trivial⟩) ?_
    refine aS (aR ?_)
    (refine nx (aA (gN rfl) rfl rfl rfl rfl rfl) rfl ?_)
    show AWp _ _ _ _ _ _ _
    refine aS (aS (aR ?_))
    (refine nx (aM (gN rfl) rfl rfl rfl rfl rfl) rfl ?_)
    (refine nx (a_lenM (gN rfl) rfl rfl rfl rfl rfl rfl rfl) rfl ?_)
    (refine nx (aM (gN rfl) rfl rfl rfl rfl rfl) rfl ?_)
    show AWp _ _ _ _ _ _ _
    refine aB (awp_count T.length (fun k => [(7, .own (.lst (((T.take k).map Sn.lit).map Lt.cv)) 200043), (200043, .tok 63 5), (33, .sl 400000 0 T.length 10), (34, .val (.i T.length)), (35, .val (.i k)), (400000, .mrow 103 10 (T.map Sn.cv))])
      ((wk_nil 7 200043 63 5 rfl rfl rfl rfl rfl rfl rfl).trans (wk_sub ⟨rfl, rfl, rfl, rfl, rfl, rfl, trivial⟩)) ?_)
    intro k hk
    refine aS (aR ?_)
    (refine nx (a_lss (gN rfl) rfl rfl rfl rfl rfl rfl) rfl ?_)
    show AWp _ _ _ _ _ _ _
    refine aS (aC rfl (fun hlt => ?_) (fun hlt => ?_))
    · have hkl : k < T.length := by simpa using hlt
      obtain ⟨x, hx⟩ : ∃ x, T[k]? = some x := ⟨T[k], List.getElem?_eq_getElem hkl⟩
      have hx' := Sn.map_at hx
      have hsz2 : ∀ z ∈ ((T.take k).map Sn.lit).map Lt.cv, z.size = 5 := Lt.size_all _
      have hl3 : (((T.take k).map Sn.lit).map Lt.cv).length ≤ 12 := by rw [List.length_map, List.length_map, List.length_take]; omega
      refine aK ?_
      show AWp _ _ _ _ _ _ _
      refine aS (aB (aS (aR ?_)))
      (refine nx (aIm (k := k) (gN rfl) rfl rfl rfl rfl rfl rfl rfl rfl rfl (by first | rfl | omega | (simp only [List.length_set, List.length_map, List.length_append, List.length_cons, List.length_nil] <;> omega) | (simp <;> omega))) rfl ?_)
      (refine nx (a_loadM (gN rfl) rfl rfl rfl rfl rfl rfl rfl rfl (hx') rfl (by first | rfl | omega | (simp only [List.length_set, List.length_map, List.length_append, List.length_cons, List.length_nil] <;> omega) | (simp <;> omega)) rfl rfl) rfl ?_)
      (refine nx (a_allocT [ltZ, ltZ] (gN rfl) rfl rfl rfl rfl rfl rfl rfl) rfl ?_)
      (refine nx (aSt (gN rfl) rfl rfl rfl rfl rfl rfl rfl rfl rfl rfl) rfl ?_)
      show AWp _ _ _ _ _ _ _
      refine aR ?_
      (refine nx (aM (gN rfl) rfl rfl rfl rfl rfl) rfl ?_)
      (refine nx (aF (gN rfl) rfl rfl rfl rfl rfl rfl rfl rfl rfl) rfl ?_)
      (refine nx (aLb (gN rfl) rfl rfl rfl rfl rfl rfl rfl rfl rfl rfl rfl rfl) rfl ?_)
      (refine nx (a_bslice (gN rfl) rfl rfl rfl rfl rfl rfl rfl rfl rfl rfl rfl rfl rfl) rfl ?_)
      (refine nx (a_app (gN rfl) rfl rfl rfl rfl rfl rfl rfl rfl rfl rfl rfl rfl rfl rfl rfl (by first | assumption | exact sZ rfl | exact Tm.size_all _ | exact Bd.size_all _ | exact ints_size _ | exact bys_size _ | exact Lt.size_all _) (by first | assumption | exact sZ rfl | exact Tm.size_all _ | exact Bd.size_all _ | exact ints_size _ | exact bys_size _ | exact Lt.size_all _) (by first | omega | (simp only [List.length_map, List.length_append, List.length_cons, List.length_nil] <;> omega) | (simp <;> omega))) rfl ?_)
      (refine nx (aA (gN rfl) rfl rfl rfl rfl rfl) rfl ?_)
      show AWp _ _ _ _ _ _ _
      refine aR ?_
      (refine nx (a_add (gN rfl) rfl rfl rfl rfl rfl rfl (by first | omega | (simp only [List.length_map, List.length_append, List.length_cons, List.length_nil] <;> omega) | (simp <;> omega))) rfl ?_)
      (refine nx (aM (gN rfl) rfl rfl rfl rfl rfl) rfl ?_)
      refine ⟨hkl, Wk.trans (wk_sub (s' := [(7, .own (.lst (((T.take (k + 1)).map Sn.lit).map Lt.cv)) 300043), (300043, .tok 63 5), (33, .sl 400000 0 T.length 10), (34, .val (.i T.length)), (35, .val (.i ((k + 1 : Nat) : Int))), (400000, .mrow 103 10 (T.map Sn.cv))]) ⟨?_, rfl, rfl, rfl, rfl, rfl, trivial⟩) (wk_ren 300043 200043 rfl rfl rfl rfl)⟩
      rw [List.take_add_one, hx, Option.toList_some, List.map_append, List.map_append]; rfl
    · have hkl : k = T.length := by
        have : ¬ k < T.length := by simpa using hlt
        omega
      subst hkl
      rw [List.take_length]
      refine aE ?_
      show AWp _ _ _ _ _ _ _
      refine aS (aR ?_)
      (refine nx (aM (gN rfl) rfl rfl rfl rfl rfl) rfl ?_)
      (refine nx (aA (gN rfl) rfl rfl rfl rfl rfl) rfl ?_)
      show AWp _ _ _ _ _ _ _
      exact aT (And.intro (.inr rfl) rfl)
-- 
theorem cWd1_abs (W : World) (c : List Lt) (hn : okCl c) (m n : Nat) (hm : m < c.length) (hk : n < c.length) : AFun Tryz.prog W 71 [.i m, .i n, .ptr (.lst (c.map Lt.cv))] (.val (.i (cmpLt (litAt c m) (litAt c n)))) := by
  obtain ⟨x, hx⟩ : ∃ x, c[m]? = some x := ⟨c[m], List.getElem?_eq_getElem hm⟩
  obtain ⟨y, hy⟩ : ∃ x, c[n]? = some x := ⟨c[n], List.getElem?_eq_getElem hk⟩
  have hx' := Lt.map_at hx
  have hy' := Lt.map_at hy
  have hsz := Lt.size_all c
  rw [litAt_at hx, litAt_at hy]
  refine afun_of (rs := [.i (cmpLt x y)]) Tryz.func71 Tryz.ntmps71 rfl rfl rfl rfl ?_
  intro w U hW
  refine aS (aR ?_)
  (refine nx (aA (gN rfl) rfl rfl rfl rfl rfl) rfl ?_)
  show AWp _ _ _ _ _ _ _
  refine aS (aD (by kernel_rfl) (by kernel_rfl) ?_)
  (refine nx (a_load_ptr (gN rfl) rfl rfl rfl rfl rfl rfl rfl rfl rfl) rfl ?_)
  (refine nx (aM (gN rfl) rfl rfl rfl rfl rfl) rfl ?_)
  (refine nx (a_index (j := m) (gN rfl) rfl rfl rfl rfl rfl rfl rfl rfl rfl (hx') rfl (hsz)) rfl ?_)
  (refine nx (a_load_ad (gN rfl) rfl rfl rfl rfl rfl rfl rfl rfl rfl) rfl ?_)
  (refine nx (a_load_ptr (gN rfl) rfl rfl rfl rfl rfl rfl rfl rfl rfl) rfl ?_)
  (refine nx (aM (gN rfl) rfl rfl rfl rfl rfl) rfl ?_)
  (refine nx (a_index (j := n) (gN rfl) rfl rfl rfl rfl rfl rfl rfl rfl rfl (hy') rfl (hsz)) rfl ?_)
  (refine nx (a_load_ad (gN rfl) rfl rfl rfl rfl rfl rfl rfl rfl rfl) rfl ?_)
  (refine nx (a_call (gN rfl) rfl rfl rfl rfl rfl (cCmpL_abs w x y (hn.rng x (List.mem_of_getElem? hx)) (hn.rng y (List.mem_of_getElem? hy)))) rfl ?_)
  (refine nx (aA (gN rfl) rfl rfl rfl rfl rfl) rfl ?_)
  refine ⟨by kernel_rfl, ?_⟩
  show AWp _ _ _ _ _ _ _
  exact aT (And.intro (.inr rfl) rfl)
-- 
theorem cWd2_abs (W : World) (c : List Lt) (hn : okCl c) (m n : Nat) (hm : m < c.length) (hk : n < c.length) : AFun Tryz.prog W 74 [.i m, .i n, .ptr (.lst (c.map Lt.cv))] (.val (.b (sameI c m n))) := by
  obtain ⟨x, hx⟩ : ∃ x, c[m]? = some x := ⟨c[m], List.getElem?_eq_getElem hm⟩
  obtain ⟨y, hy⟩ : ∃ x, c[n]? = some x := ⟨c[n], List.getElem?_eq_getElem hk⟩
  have hx' := Lt.map_at hx
  have hy' := Lt.map_at hy
  have hsz := Lt.size_all c
  have e : sameI c m n = smL x y := by unfold sameI smL; rw [litAt_at hx, litAt_at hy]
  rw [e]
  refine afun_of (rs := [.b (smL x y)]) Tryz.func74 Tryz.ntmps74 rfl rfl rfl rfl ?_
  intro w U hW
  refine aS (aR ?_)
  (refine nx (aA (gN rfl) rfl rfl rfl rfl rfl) rfl ?_)
  show AWp _ _ _ _ _ _ _
  refine aS (aD (by kernel_rfl) (by kernel_rfl) ?_)
  (refine nx (a_load_ptr (gN rfl) rfl rfl rfl rfl rfl rfl rfl rfl rfl) rfl ?_)
  (refine nx (aM (gN rfl) rfl rfl rfl rfl rfl) rfl ?_)
  (refine nx (a_index (j := m) (gN rfl) rfl rfl rfl rfl rfl rfl rfl rfl rfl (hx') rfl (hsz)) rfl ?_)
  (refine nx (a_load_ad (gN rfl) rfl rfl rfl rfl rfl rfl rfl rfl rfl) rfl ?_)
  (refine nx (a_load_ptr (gN rfl) rfl rfl rfl rfl rfl rfl rfl rfl rfl) rfl ?_)
  (refine nx (aM (gN rfl) rfl rfl rfl rfl rfl) rfl ?_)
  (refine nx (a_index (j := n) (gN rfl) rfl rfl rfl rfl rfl rfl rfl rfl rfl (hy') rfl (hsz)) rfl ?_)
  (refine nx (a_load_ad (gN rfl) rfl rfl rfl rfl rfl rfl rfl rfl rfl) rfl ?_)
  (refine nx (a_call (gN rfl) rfl rfl rfl rfl rfl (cSameL_abs w x y (hn.rng x (List.mem_of_getElem? hx)) (hn.rng y (List.mem_of_getElem? hy)))) rfl ?_)
  (refine nx (aA (gN rfl) rfl rfl rfl rfl rfl) rfl ?_)
  refine ⟨by kernel_rfl, ?_⟩
  show AWp _ _ _ _ _ _ _
  exact aT (And.intro (.inr rfl) rfl)
theorem plc2_len (c : List Lt) : (plc2 c).length ≤ c.length := by
  unfold plc2
  have := (cptG_sub (q := sameI c) (L := plc1 c) (plc1 c).length).length_le
  rw [List.take_length] at this
  refine Nat.le_trans this ?_
  unfold plc1
  rw [(srtD_perm _ _).length_eq, nums_len]
  exact Nat.le_refl _
-- 
set_option maxHeartbeats 4000000 in
theorem cWd_abs (W : World) (c : List Lt) (hn : okCl c) : AFun Tryz.prog W 39 [.lst (c.map Lt.cv)] (.val (.lst ((wdL c).map Lt.cv))) := by
  have hlen := hn.1
  have hsz := Lt.size_all c
  obtain ⟨N, hN⟩ : ∃ N, N = nums c.length := ⟨_, rfl⟩
  have hNl : N.length = c.length := by rw [hN, nums_len]
  have hNm : ∀ m ∈ N, ∃ j : Nat, m = j ∧ j < c.length := fun m hm => by
    rw [hN] at hm
    have := nums_mem.1 hm
    exact ⟨m.toNat, by omega, by omega⟩
  have hso := sortStableI_abs (fun m n => cmpLt (litAt c m) (litAt c n)) (.fn 71 0 [.ptr (.lst (c.map Lt.cv))]) N (by omega) (fun W x y hx hy => by
    obtain ⟨i, rfl, hi⟩ := hNm x hx
    obtain ⟨j, rfl, hj⟩ := hNm y hy
    exact .inl ⟨_, _, _, rfl, cWd1_abs W c hn i j hi hj⟩)
  rw [isort_srt0, show srtD (ltG fun m n => cmpLt (litAt c m) (litAt c n)) N = plc1 c by rw [hN]; rfl] at hso
  have h1m : ∀ m ∈ plc1 c, ∃ j : Nat, m = j ∧ j < c.length := fun m hm => by
    have := (plc1_mem c m).1 hm
    exact ⟨m.toNat, by omega, by omega⟩
  have h1l : (plc1 c).length = c.length := by unfold plc1; rw [(srtD_perm _ _).length_eq, nums_len]
  have hco := compactI_abs (sameI c) (.fn 74 0 [.ptr (.lst (c.map Lt.cv))]) (plc1 c) (by omega) (fun W x y hx hy => by
    obtain ⟨i, rfl, hi⟩ := h1m x hx
    obtain ⟨j, rfl, hj⟩ := h1m y hy
    exact .inl ⟨_, _, _, rfl, cWd2_abs W c hn i j hi hj⟩)
  rw [show cptG (sameI c) (plc1 c) (plc1 c).length = plc2 c from rfl] at hco
  have h2l := plc2_len c
  obtain ⟨Z, hZ⟩ : ∃ Z, Z = List.replicate ((plc1 c).length - (plc2 c).length) (0 : Int) := ⟨_, rfl⟩
  rw [← hZ] at hco
  have hor := sortO_abs (plc2 c) Z (by omega) (by rw [hZ, List.length_replicate]; omega)
  rw [show srtD ltO (plc2 c) = plc3 c from rfl] at hor
  have h3l : (plc3 c).length = (plc2 c).length := by unfold plc3; rw [(srtD_perm _ _).length_eq]
  obtain ⟨P1, hP1⟩ : ∃ P, P = plc1 c := ⟨_, rfl⟩
  obtain ⟨P2, hP2⟩ : ∃ P, P = plc2 c := ⟨_, rfl⟩
  obtain ⟨P3, hP3⟩ : ∃ P, P = plc3 c := ⟨_, rfl⟩
  have hwd : wdL c = P3.map (litAt c) := by rw [hP3]; rfl
  have h3m : ∀ m ∈ P3, ∃ j : Nat, m = j ∧ j < c.length := fun m hm => by
    rw [hP3] at hm
    have := ((plc3_mem c m).1 hm).1
    exact ⟨m.toNat, by omega, by omega⟩
  rw [← hP1] at hso hco h1l
  rw [← hP2] at hco hor h2l h3l
  rw [← hP3] at hor h3l
  rw [hwd]
  refine afun_of (rs := [.lst ((P3.map (litAt c)).map Lt.cv)]) Tryz.func39 Tryz.ntmps39 rfl rfl rfl rfl ?_
  intro w U hW
  have hUf : U.f 400000 = none := hW.1 400000
  refine aS (aR ?_)
  (refine nx (a_box (gN rfl) rfl rfl rfl rfl rfl) rfl ?_)
  (refine nx (aA (gN rfl) rfl rfl rfl rfl rfl) rfl ?_)
  show AWp _ _ _ _ _ _ _
  refine AWp.wk (wk_freeze 1 rfl rfl rfl (s' := []) trivial rfl rfl rfl) ?_
  refine aS (aR ?_)
  (refine nx (aA (gN rfl) rfl rfl rfl rfl rfl) rfl ?_)
  show AWp _ _ _ _ _ _ _
  refine aS (aS (aR ?_))
  (refine nx (a_load_ptr (gN rfl) rfl rfl rfl rfl rfl rfl rfl rfl rfl) rfl ?_)
  (refine nx (a_len (gN rfl) rfl rfl rfl rfl rfl rfl rfl) rfl ?_)
  (refine nx (aM (gN rfl) rfl rfl rfl rfl rfl) rfl ?_)
  show AWp _ _ _ _ _ _ _
  refine aB (awp_count c.length (fun k => [(1, .val (.ptr (.lst (c.map Lt.cv)))), (3, .sl 250007 0 (N.take k).length 1), (9, .val (.i (c.map Lt.cv).length)), (10, .val (.i k)), (250007, .mrow 3 1 ((N.take k).map CV.i))])
    ((wk_nilM 3 250007 3 1 rfl rfl rfl rfl rfl).trans (wk_sub ⟨rfl, rfl, rfl, rfl, rfl, trivial⟩)) ?_)
  intro k hk
  refine aS (aR ?_)
  (refine nx (a_lss (gN rfl) rfl rfl rfl rfl rfl rfl) rfl ?_)
  show AWp _ _ _ _ _ _ _
  refine aS (aC rfl (fun hlt => ?_) (fun hlt => ?_))
  · have hkl : k < c.length := by simpa using hlt
    have hNk : N[k]? = some (k : Int) := by rw [hN]; exact nums_at hkl
    have hsz2 : ∀ z ∈ (N.take k).map CV.i, z.size = 1 := ints_size _
    have hl3 : ((N.take k).map CV.i).length = (N.take k).length := List.length_map ..
    have hl4 : (N.take k).length ≤ 12 := by rw [List.length_take]; omega
    refine aK ?_
    show AWp _ _ _ _ _ _ _
    refine aS (aB (aS (aR ?_)))
    (refine nx (aM (gN rfl) rfl rfl rfl rfl rfl) rfl ?_)
    (refine nx (aA (gN rfl) rfl rfl rfl rfl rfl) rfl ?_)
    show AWp _ _ _ _ _ _ _
    refine aR ?_
    (refine nx (aM (gN rfl) rfl rfl rfl rfl rfl) rfl ?_)
    (refine nx (aM (gN rfl) rfl rfl rfl rfl rfl) rfl ?_)
    (refine nx (a_bslice (gN rfl) rfl rfl rfl rfl rfl rfl rfl rfl rfl rfl rfl rfl rfl) rfl ?_)
    (refine nx (a_appM 250016 (gN rfl) rfl rfl rfl rfl rfl rfl rfl rfl rfl rfl rfl rfl rfl (by first | rfl | omega | (simp only [List.length_set, List.length_map, List.length_append, List.length_cons, List.length_nil] <;> omega) | (simp <;> omega)) (by first | assumption | exact sZ rfl | exact Tm.size_all _ | exact Bd.size_all _ | exact ints_size _ | exact bys_size _ | exact Lt.size_all _) (by first | omega | (simp only [List.length_map, List.length_append, List.length_cons, List.length_nil] <;> omega) | (simp <;> omega))) rfl ?_)
    (refine nx (aA (gN rfl) rfl rfl rfl rfl rfl) rfl ?_)
    show AWp _ _ _ _ _ _ _
    refine aR ?_
    (refine nx (a_add (gN rfl) rfl rfl rfl rfl rfl rfl (by first | omega | (simp only [List.length_map, List.length_append, List.length_cons, List.length_nil] <;> omega) | (simp <;> omega))) rfl ?_)
    (refine nx (aM (gN rfl) rfl rfl rfl rfl rfl) rfl ?_)
    refine ⟨hkl, (wk_sub (s' := [(1, .val (.ptr (.lst (c.map Lt.cv)))), (3, .sl 250016 0 (N.take (k + 1)).length 1), (9, .val (.i (c.map Lt.cv).length)), (10, .val (.i ((k + 1 : Nat) : Int))), (250016, .mrow 3 1 ((N.take (k + 1)).map CV.i))]) ⟨rfl, ?_, rfl, rfl, ?_, trivial⟩).trans (wk_ren 250016 250007 rfl rfl (by kernel_rfl) (by kernel_rfl))⟩
    · rw [List.take_add_one, hNk, Option.toList_some, List.length_append, ← hl3]; rfl
    · rw [List.take_add_one, hNk, Option.toList_some, List.map_append]; rfl
  · have hkl : k = N.length := by
      have : ¬ k < c.length := by simpa using hlt
      omega
    subst hkl
    rw [List.take_length]
    refine aE ?_
    show AWp _ _ _ _ _ _ _
    refine AWp.wk ((wk_sub (s' := [(1, .val (.ptr (.lst (c.map Lt.cv)))), (3, .sl 250007 0 N.length 1), (250007, .mrow 3 1 (N.map CV.i))]) ⟨rfl, rfl, rfl, trivial⟩).trans (wk_renF 250007 400000 rfl rfl hUf rfl rfl rfl)) ?_
    refine aS (aR ?_)
    (refine nx (aM (gN rfl) rfl rfl rfl rfl rfl) rfl ?_)
    (refine nx (a_mkfunc (gN rfl) rfl rfl rfl rfl rfl rfl) rfl ?_)
    (refine nx (a_callO (gN rfl) rfl rfl rfl rfl rfl (hso) (by repeat (first | exact trivial | refine ⟨rfl, ?_⟩)) (by first | rfl | kernel_rfl) (by first | rfl | kernel_rfl) (by first | rfl | kernel_rfl) (by first | rfl | kernel_rfl) (hnb_of (by first | rfl | kernel_rfl))) rfl ?_)
    show AWp _ _ _ _ _ _ _
    refine AWp.wk (wk_sub (s' := [(1, .val (.ptr (.lst (c.map Lt.cv)))), (3, .sl 400000 0 P1.length 1), (400000, .mrow 3 1 (P1.map CV.i))]) ⟨rfl, by rw [h1l, ← hNl]; rfl, rfl, trivial⟩) ?_
    refine aS (aR ?_)
    (refine nx (aM (gN rfl) rfl rfl rfl rfl rfl) rfl ?_)
    (refine nx (a_mkfunc (gN rfl) rfl rfl rfl rfl rfl rfl) rfl ?_)
    (refine nx (a_callO (gN rfl) rfl rfl rfl rfl rfl (hco) (by repeat (first | exact trivial | refine ⟨rfl, ?_⟩)) (by first | rfl | kernel_rfl) (by first | rfl | kernel_rfl) (by first | rfl | kernel_rfl) (by first | rfl | kernel_rfl) (hnb_of (by first | rfl | kernel_rfl))) rfl ?_)
    (refine nx (aA (gN rfl) rfl rfl rfl rfl rfl) rfl ?_)
    show AWp _ _ _ _ _ _ _
    refine AWp.wk (wk_sub (s' := [(1, .val (.ptr (.lst (c.map Lt.cv)))), (3, .sl 400000 0 P2.length 1), (400000, .mrow 3 1 ((P2 ++ Z).map CV.i))]) ⟨rfl, rfl, rfl, trivial⟩) ?_
    refine aS (aR ?_)
    (refine nx (aM (gN rfl) rfl rfl rfl rfl rfl) rfl ?_)
    (refine nx (a_callO (gN rfl) rfl rfl rfl rfl rfl (hor) (by repeat (first | exact trivial | refine ⟨rfl, ?_⟩)) (by first | rfl | kernel_rfl) (by first | rfl | kernel_rfl) (by first | rfl | kernel_rfl) (by first | rfl | kernel_rfl) (hnb_of (by first | rfl | kernel_rfl))) rfl ?_)
    show AWp _ _ _ _ _ _ _
    refine AWp.wk (wk_sub (s' := [(1, .val (.ptr (.lst (c.map Lt.cv)))), (3, .sl 400000 0 P3.length 1), (400000, .mrow 3 1 ((P3 ++ Z).map CV.i))]) ⟨rfl, by rw [h3l]; rfl, rfl, trivial⟩) ?_
    refine aS (aR ?_)
    (refine nx (aA (gN rfl) rfl rfl rfl rfl rfl) rfl ?_)
    show AWp _ _ _ _ _ _ _
    refine aS (aS (aR ?_))
    (refine nx (aM (gN rfl) rfl rfl rfl rfl rfl) rfl ?_)
    (refine nx (a_lenM (gN rfl) rfl rfl rfl rfl rfl rfl rfl) rfl ?_)
    (refine nx (aM (gN rfl) rfl rfl rfl rfl rfl) rfl ?_)
    show AWp _ _ _ _ _ _ _
    refine aB (awp_count P3.length (fun k => [(1, .val (.ptr (.lst (c.map Lt.cv)))), (5, .own (.lst (((P3.take k).map (litAt c)).map Lt.cv)) 200038), (200038, .tok 63 5), (26, .sl 400000 0 P3.length 1), (27, .val (.i P3.length)), (28, .val (.i k)), (400000, .mrow 3 1 ((P3 ++ Z).map CV.i))])
      ((wk_nil 5 200038 63 5 rfl rfl rfl rfl rfl rfl rfl).trans (wk_sub ⟨rfl, rfl, rfl, rfl, rfl, rfl, rfl, trivial⟩)) ?_)
    intro k hk
    refine aS (aR ?_)
    (refine nx (a_lss (gN rfl) rfl rfl rfl rfl rfl rfl) rfl ?_)
    show AWp _ _ _ _ _ _ _
    refine aS (aC rfl (fun hlt => ?_) (fun hlt => ?_))
    · have hkl : k < P3.length := by simpa using hlt
      obtain ⟨m, hm⟩ : ∃ x, P3[k]? = some x := ⟨P3[k], List.getElem?_eq_getElem hkl⟩
      obtain ⟨j, rfl, hj⟩ := h3m m (List.mem_of_getElem? hm)
      have hm' : ((P3 ++ Z).map CV.i)[k]? = some (.i j) := ints_at (by rw [List.getElem?_append_left hkl]; exact hm)
      have hkz : k < (P3 ++ Z).length := by rw [List.length_append]; omega
      obtain ⟨x, hx⟩ : ∃ x, c[j]? = some x := ⟨c[j], List.getElem?_eq_getElem hj⟩
      have hx' := Lt.map_at hx
      have hli := litAt_at hx
      have hst3 : (P3.take (k + 1)).map (litAt c) = (P3.take k).map (litAt c) ++ [x] := by rw [List.take_add_one, hm, Option.toList_some, List.map_append, List.map_singleton, hli]
      have hst4 : ((P3.take (k + 1)).map (litAt c)).map Lt.cv = ((P3.take k).map (litAt c)).map Lt.cv ++ [x.cw] := by rw [hst3, List.map_append]; rfl
      have hsz2 : ∀ z ∈ ((P3.take k).map (litAt c)).map Lt.cv, z.size = 5 := Lt.size_all _
      have hl3 : (((P3.take k).map (litAt c)).map Lt.cv).length ≤ 12 := by rw [List.length_map, List.length_map, List.length_take]; omega
      refine aK ?_
      show AWp _ _ _ _ _ _ _
      refine aS (aB (aS (aR ?_)))
      (refine nx (aIm (k := k) (gN rfl) rfl rfl rfl rfl rfl rfl rfl rfl rfl (by first | rfl | omega | (simp only [List.length_set, List.length_map, List.length_append, List.length_cons, List.length_nil] <;> omega) | (simp <;> omega))) rfl ?_)
      (refine nx (a_loadM (gN rfl) rfl rfl rfl rfl rfl rfl rfl rfl (hm') rfl (by first | rfl | omega | (simp only [List.length_set, List.length_map, List.length_append, List.length_cons, List.length_nil] <;> omega) | (simp <;> omega)) rfl rfl) rfl ?_)
      (refine nx (aA (gN rfl) rfl rfl rfl rfl rfl) rfl ?_)
      show AWp _ _ _ _ _ _ _
      refine aR ?_
      (refine nx (aM (gN rfl) rfl rfl rfl rfl rfl) rfl ?_)
      (refine nx (a_load_ptr (gN rfl) rfl rfl rfl rfl rfl rfl rfl rfl rfl) rfl ?_)
      (refine nx (aM (gN rfl) rfl rfl rfl rfl rfl) rfl ?_)
      (refine nx (a_index (j := j) (gN rfl) rfl rfl rfl rfl rfl rfl rfl rfl rfl (hx') rfl (hsz)) rfl ?_)
      (refine nx (a_load_ad (gN rfl) rfl rfl rfl rfl rfl rfl rfl rfl rfl) rfl ?_)
      (refine nx (a_bslice (gN rfl) rfl rfl rfl rfl rfl rfl rfl rfl rfl rfl rfl rfl rfl) rfl ?_)
      (refine nx (a_app (gN rfl) rfl rfl rfl rfl rfl rfl rfl rfl rfl rfl rfl rfl rfl rfl rfl (by first | assumption | exact sZ rfl | exact Tm.size_all _ | exact Bd.size_all _ | exact ints_size _ | exact bys_size _ | exact Lt.size_all _) (by first | assumption | exact sZ rfl | exact Tm.size_all _ | exact Bd.size_all _ | exact ints_size _ | exact bys_size _ | exact Lt.size_all _) (by first | omega | (simp only [List.length_map, List.length_append, List.length_cons, List.length_nil] <;> omega) | (simp <;> omega))) rfl ?_)
      (refine nx (aA (gN rfl) rfl rfl rfl rfl rfl) rfl ?_)
      show AWp _ _ _ _ _ _ _
      refine aR ?_
      (refine nx (a_add (gN rfl) rfl rfl rfl rfl rfl rfl (by first | omega | (simp only [List.length_map, List.length_append, List.length_cons, List.length_nil] <;> omega) | (simp <;> omega))) rfl ?_)
      (refine nx (aM (gN rfl) rfl rfl rfl rfl rfl) rfl ?_)
      refine ⟨hkl, Wk.trans (wk_sub (s' := [(1, .val (.ptr (.lst (c.map Lt.cv)))), (5, .own (.lst (((P3.take (k + 1)).map (litAt c)).map Lt.cv)) 300038), (300038, .tok 63 5), (26, .sl 400000 0 P3.length 1), (27, .val (.i P3.length)), (28, .val (.i ((k + 1 : Nat) : Int))), (400000, .mrow 3 1 ((P3 ++ Z).map CV.i))]) ⟨rfl, ?_, rfl, rfl, rfl, rfl, rfl, trivial⟩) (wk_ren 300038 200038 rfl rfl rfl rfl)⟩
      rw [hst4]; rfl
    · have hkl : k = P3.length := by
        have : ¬ k < P3.length := by simpa using hlt
        omega
      subst hkl
      rw [List.take_length]
      refine aE ?_
      show AWp _ _ _ _ _ _ _
      refine aS (aR ?_)
      (refine nx (aM (gN rfl) rfl rfl rfl rfl rfl) rfl ?_)
      (refine nx (aA (gN rfl) rfl rfl rfl rfl rfl) rfl ?_)
      show AWp _ _ _ _ _ _ _
      exact aT (And.intro (.inr rfl) rfl)
-- 
theorem cNorm_abs (W : World) (c : List Lt) (hn : okCl c) : AFun Tryz.prog W 15 [.lst (c.map Lt.cv)] (.val (.lst ((nmP c).map Lt.cv))) := by
  have hi : okCl (inL c) := by rw [inL_eq]; exact hn.inD
  obtain ⟨hr, hok, hsi⟩ := hi.sid
  have hap := fun w => cApply_abs w (bndV (inL c) id) (inL c) (by have := hi.1; omega) (by rw [bndV_len]; have := hi.nv; omega) (bndV_ok _ _ (fun n h1 h2 => ⟨h1, h2⟩) hi) hr hok
  have hwd := fun w => cWd_abs w _ (hi.rep (bndV_var (inL c) id (fun n h1 h2 => ⟨h1, h2⟩) hi))
  unfold nmP
  rw [← numB_eq]
  refine afun_of (rs := [.lst ((wdL ((inL c).map (Lt.rep (imgB (bndV (inL c) id))))).map Lt.cv)]) Tryz.func15 Tryz.ntmps15 rfl rfl rfl rfl ?_
  intro w U hW
  refine aS (aR ?_)
  (refine nx (aA (gN rfl) rfl rfl rfl rfl rfl) rfl ?_)
  show AWp _ _ _ _ _ _ _
  refine aS (aR ?_)
  (refine nx (aM (gN rfl) rfl rfl rfl rfl rfl) rfl ?_)
  (refine nx (a_call (gN rfl) rfl rfl rfl rfl rfl (cIn_abs w c hn)) rfl ?_)
  (refine nx (aA (gN rfl) rfl rfl rfl rfl rfl) rfl ?_)
  show AWp _ _ _ _ _ _ _
  refine aS (aR ?_)
  (refine nx (aM (gN rfl) rfl rfl rfl rfl rfl) rfl ?_)
  (refine nx (a_call (gN rfl) rfl rfl rfl rfl rfl (cNew_abs w (inL c) hi)) rfl ?_)
  (refine nx (aM (gN rfl) rfl rfl rfl rfl rfl) rfl ?_)
  (refine nx (a_call (gN rfl) rfl rfl rfl rfl rfl (hap w)) rfl ?_)
  (refine nx (a_call (gN rfl) rfl rfl rfl rfl rfl (hwd w)) rfl ?_)
  (refine nx (aA (gN rfl) rfl rfl rfl rfl rfl) rfl ?_)
  show AWp _ _ _ _ _ _ _
  exact aT (And.intro (.inr rfl) rfl)
theorem okCl.norm {c : List Lt} (hn : okCl c) : okCl (nmP c) := by
  unfold nmP
  rw [wd_ded, inL_eq, ← numB_eq]
  exact (hn.inD.rep (bndV_var _ id (fun n h1 h2 => ⟨h1, h2⟩) hn.inD)).ded
end Go.Proofs.YtmeegdomncadpaaGreat
namespace Go.Proofs.YtmeegdomncadpaaGreat
open Go.RowKit
set_option linter.unusedVariables false
set_option linter.unusedSimpArgs false
def alk (x y : Lt) : Prop := (x.a.strip = y.a.strip ∧ x.b.strip = y.b.strip) ∨ (x.a.strip = y.b.strip ∧ x.b.strip = y.a.strip)
def TautQ (c : List Lt) : Prop := (∃ l ∈ c, l.neg = false ∧ l.a.strip = l.b.strip) ∨ ∃ x ∈ c, ∃ y ∈ c, x.neg ≠ y.neg ∧ alk x y
theorem cmpT_congr2 {a a' b b' : Tm} (h : a.strip = a'.strip) (h2 : b.strip = b'.strip) : cmpT a b = cmpT a' b' := by
  rw [cmpT_congr h, cmpT_turn b a', cmpT_congr h2, ← cmpT_turn]
theorem trn_alk (x y : Lt) : cmpS (trnL x) (trnL y) = 0 ↔ alk x y := by
  rw [cmpS_zero]
  obtain ⟨n, a, b⟩ := x
  obtain ⟨m, e, f⟩ := y
  unfold trnL alk othL
  simp only
  constructor
  · intro h
    split at h <;> split at h <;> simp only at h
    · exact .inl h
    · exact .inr h
    · exact .inr ⟨h.2, h.1⟩
    · exact .inl ⟨h.2, h.1⟩
  · rintro (⟨h1, h2⟩ | ⟨h1, h2⟩)
    · have := cmpT_congr2 h1 h2
      rw [this]
      split
      · exact ⟨h1, h2⟩
      · exact ⟨h2, h1⟩
    · have h3 := cmpT_congr2 h1 h2
      have h4 := cmpT_turn e f
      by_cases g : 0 ≤ cmpT a b
      · by_cases g2 : 0 ≤ cmpT e f
        · rw [if_pos g, if_pos g2]
          have z := (cmpT_zero a b).1 (by omega)
          have z2 := (cmpT_zero e f).1 (by omega)
          exact ⟨by rw [z, h2], by rw [← z, h1]⟩
        · rw [if_pos g, if_neg g2]
          exact ⟨h1, h2⟩
      · rw [if_neg g, if_pos (by omega)]
        exact ⟨h2, h1⟩
theorem srtL_pw (M : List Lt) : (srtL M).Pairwise fun x y => cmpS x y ≤ 0 := by
  unfold srtL
  rw [isort_srt0]
  refine srtD_pairwise _ (fun x y h => ?_) (fun x y z h1 h2 => (cmpS_trans x y z h1 h2).1) (List.pairwise_of_forall fun x y h => ?_)
  · have : cmpS x y < 0 := by simpa [ltL] using h
    omega
  · have : ¬ cmpS y x < 0 := by simpa [ltL] using h
    have e := cmpS_turn x y
    omega
theorem srtL_mem {M : List Lt} {x : Lt} : x ∈ srtL M ↔ x ∈ M := by
  unfold srtL
  rw [isort_srt0, (srtD_perm _ _).mem_iff]
theorem adj_of {S : List Lt} (hS : S.Pairwise fun x y => cmpS x y ≤ 0) : ∀ (d i : Nat) (x y : Lt), S[i]? = some x → S[i + d + 1]? = some y → x.neg ≠ y.neg → cmpS x y = 0 → ∃ k, k < S.length ∧ chkL S k = true
  | d, i, x, y, hx, hy, hn, he => by
    have hlt : i + d + 1 < S.length := (List.getElem?_eq_some_iff.1 hy).1
    obtain ⟨z, hz⟩ : ∃ z, S[i + 1]? = some z := ⟨_, List.getElem?_eq_getElem (by omega)⟩
    have hxz := pw_at hS hx hz (by omega)
    have hz0 : cmpS x z = 0 ∧ cmpS z y = 0 := by
      cases d with
      | zero =>
        rw [show i + 0 + 1 = i + 1 by omega, hz] at hy
        injection hy with hy
        subst hy
        exact ⟨he, (cmpS_zero _ _).2 ⟨rfl, rfl⟩⟩
      | succ d => exact (cmpS_trans x z y hxz (pw_at hS hz hy (by omega))).2 he
    by_cases hs : z.neg = x.neg
    · cases d with
      | zero =>
        rw [show i + 0 + 1 = i + 1 by omega, hz] at hy
        injection hy with hy
        subst hy
        exact absurd hs.symm hn
      | succ d =>
        exact adj_of hS d (i + 1) z y hz (by rw [show i + 1 + d + 1 = i + (d + 1) + 1 by omega]; exact hy) (by rw [hs]; exact hn) hz0.2
    · refine ⟨i + 1, by omega, ?_⟩
      unfold chkL
      rw [hz, show i + 1 - 1 = i by omega, hx]
      have := cmpS_turn x z
      simp only [Bool.and_eq_true, decide_eq_true_iff, Bool.not_eq_true', beq_eq_false_iff_ne]
      exact ⟨by omega, hs, by omega⟩
theorem adj_iff {S : List Lt} (hS : S.Pairwise fun x y => cmpS x y ≤ 0) : adjB S = true ↔ ∃ x ∈ S, ∃ y ∈ S, x.neg ≠ y.neg ∧ cmpS x y = 0 := by
  unfold adjB
  rw [List.any_eq_true]
  constructor
  · rintro ⟨i, hi, h⟩
    unfold chkL at h
    split at h
    · rename_i x y hx hy
      simp only [Bool.and_eq_true, decide_eq_true_iff, Bool.not_eq_true', beq_eq_false_iff_ne] at h
      exact ⟨x, List.mem_of_getElem? hx, y, List.mem_of_getElem? hy, h.2.1, h.2.2⟩
    · cases h
  · rintro ⟨x, hx, y, hy, hn, he⟩
    obtain ⟨i, hi, ei⟩ := List.mem_iff_getElem.1 hx
    obtain ⟨j, hj, ej⟩ := List.mem_iff_getElem.1 hy
    have hx' : S[i]? = some x := by rw [List.getElem?_eq_getElem hi, ei]
    have hy' : S[j]? = some y := by rw [List.getElem?_eq_getElem hj, ej]
    rcases Nat.lt_trichotomy i j with h | h | h
    · obtain ⟨k, hk, e⟩ := adj_of hS (j - i - 1) i x y hx' (by rw [show i + (j - i - 1) + 1 = j by omega]; exact hy') hn he
      exact ⟨k, List.mem_range.2 hk, e⟩
    · subst h
      rw [hx'] at hy'
      injection hy' with hy'
      exact absurd (by rw [hy']) hn
    · obtain ⟨k, hk, e⟩ := adj_of hS (i - j - 1) j y x hy' (by rw [show j + (i - j - 1) + 1 = i by omega]; exact hx') (fun e => hn e.symm) (by have := cmpS_turn x y; omega)
      exact ⟨k, List.mem_range.2 hk, e⟩
theorem taut_iff (c : List Lt) : tautP c = true ↔ TautQ c := by
  unfold tautP TautQ
  rw [Bool.or_eq_true, List.any_eq_true, adj_iff (srtL_pw _)]
  refine or_congr ?_ ?_
  · refine exists_congr fun l => and_congr Iff.rfl ?_
    unfold holdB
    rw [Bool.and_eq_true, sameT_iff]
    simp
  · have tn : ∀ l, (trnL l).neg = l.neg := fun l => by
      unfold trnL
      split <;> rfl
    constructor
    · rintro ⟨x, hx, y, hy, hn, he⟩
      obtain ⟨u, hu, rfl⟩ := List.mem_map.1 (srtL_mem.1 hx)
      obtain ⟨v, hv, rfl⟩ := List.mem_map.1 (srtL_mem.1 hy)
      rw [tn, tn] at hn
      exact ⟨u, hu, v, hv, hn, (trn_alk _ _).1 he⟩
    · rintro ⟨x, hx, y, hy, hn, he⟩
      exact ⟨trnL x, srtL_mem.2 (List.mem_map_of_mem hx), trnL y, srtL_mem.2 (List.mem_map_of_mem hy), by rw [tn, tn]; exact hn, (trn_alk _ _).2 he⟩
def ttD1 (x y : Lt) : Bool := (x.neg && !y.neg) && (sameL x ⟨true, y.a, y.b⟩ || sameL x ⟨true, y.b, y.a⟩)
def ttD (c : List Lt) : Bool := c.any fun x => (!x.neg && sameT x.a x.b) || c.any (ttD1 x)
theorem tt_doc (c : List Lt) : tautP c = ttD c := by
  rw [Bool.eq_iff_iff, taut_iff]
  unfold TautQ ttD
  rw [List.any_eq_true]
  have h1 : ∀ x y : Lt, ttD1 x y = true ↔ x.neg = true ∧ y.neg = false ∧ alk x y := fun x y => by
    obtain ⟨n, a, b⟩ := x
    obtain ⟨m, e, f⟩ := y
    unfold ttD1 alk
    rw [Bool.and_eq_true, Bool.or_eq_true, sameL_iff, sameL_iff]
    cases n <;> cases m <;> simp [Lt.strip]
  constructor
  · rintro (⟨l, hl, hn, he⟩ | ⟨x, hx, y, hy, hn, he⟩)
    · exact ⟨l, hl, by rw [Bool.or_eq_true]; exact .inl (by rw [hn, (sameT_iff _ _).2 he]; rfl)⟩
    · cases hxn : x.neg with
      | true =>
        refine ⟨x, hx, ?_⟩
        rw [Bool.or_eq_true, List.any_eq_true]
        exact .inr ⟨y, hy, (h1 x y).2 ⟨hxn, by rw [hxn] at hn; simpa using hn.symm, he⟩⟩
      | false =>
        refine ⟨y, hy, ?_⟩
        rw [Bool.or_eq_true, List.any_eq_true]
        refine .inr ⟨x, hx, (h1 y x).2 ⟨by rw [hxn] at hn; simpa using hn.symm, hxn, ?_⟩⟩
        rcases he with ⟨e1, e2⟩ | ⟨e1, e2⟩
        · exact .inl ⟨e1.symm, e2.symm⟩
        · exact .inr ⟨e2.symm, e1.symm⟩
  · rintro ⟨x, hx, h⟩
    rw [Bool.or_eq_true, List.any_eq_true] at h
    rcases h with h | ⟨y, hy, h⟩
    · rw [Bool.and_eq_true, sameT_iff] at h
      exact .inl ⟨x, hx, by simpa using h.1, h.2⟩
    · obtain ⟨e1, e2, e3⟩ := (h1 x y).1 h
      exact .inr ⟨x, hx, y, hy, by rw [e1, e2]; simp, e3⟩
end Go.Proofs.YtmeegdomncadpaaGreat
namespace Go.Proofs.YtmeegdomncadpaaGreat
open Go.RowKit
set_option linter.unusedVariables false
set_option linter.unusedSimpArgs false
set_option maxRecDepth 100000
def blkT (t : Tm) : Tm := appR (zipB t.nv ((nums t.nv.length).map fun _ => 0)) t
theorem blk_strip (t : Tm) : (blkT t).strip = (lkT t).strip := by
  unfold blkT lkT
  rw [appR_strip]
  congr 1
  refine rep_congr fun v hv => ?_
  have hv : v ∈ t.nv := by unfold Tm.nv; rw [mem_nub]; exact hv
  rw [img_zip (by rw [List.length_map, nums_len]) hv, getD_of (v := 0) (by rw [List.getElem?_map, nums_at (ixOf_lt hv)]; rfl)]
theorem zip_ok {a b : List Int} : ∀ x ∈ zipB a b, x.t.ok := fun x hx => by
  obtain ⟨u, _, e⟩ := zip_mem hx
  rw [e]
  exact varT_ok u
theorem blk_ok {t : Tm} (h : t.ok) : (blkT t).ok := appR_ok h zip_ok
-- 
set_option maxHeartbeats 1000000 in
theorem blank_abs (W : World) (t : Tm) (hr : t.rng) (hok : t.ok) (hts : t.size ≤ 1000) : AFun Tryz.prog W 79 [t.cw] (.val (blkT t).cw) := by
  unfold blkT
  refine afun_of (rs := [(appR (zipB t.nv ((nums t.nv.length).map fun _ => 0)) t).cw]) Tryz.func79 Tryz.ntmps79 rfl rfl rfl rfl ?_
  intro w U hW
  have hV := refVars_abs w t hr hok (by omega)
  rw [nv_vars] at hV
  have hnl := nv_len t
  refine aS (aR ?_)
  (refine nx (a_box (gN rfl) rfl rfl rfl rfl rfl) rfl ?_)
  (refine nx (a_alloc (gN rfl) rfl rfl rfl rfl rfl rfl rfl rfl rfl rfl) rfl ?_)
  show AWp _ _ _ _ _ _ _
  refine aS (aR ?_)
  (refine nx (aL (gN rfl) rfl rfl rfl rfl rfl rfl rfl rfl rfl rfl rfl rfl) rfl ?_)
  (refine nx (a_call (gN rfl) rfl rfl rfl rfl rfl (hV)) rfl ?_)
  (refine nx (aA (gN rfl) rfl rfl rfl rfl rfl) rfl ?_)
  show AWp _ _ _ _ _ _ _
  obtain ⟨l, hl⟩ : ∃ l, l = t.nv := ⟨_, rfl⟩
  rw [← hl] at hnl ⊢
  have hsz := ints_size l
  obtain ⟨z, hz⟩ : ∃ z, z = zipB l ((nums l.length).map fun _ => 0) := ⟨_, rfl⟩
  have hzl : z.length = l.length := by rw [hz]; exact zip_len (by rw [List.length_map, nums_len])
  have hzz := fun k => Bd.size_all (z.take k)
  rw [← hz]
  refine aS (aR ?_)
  (refine nx (aA (gN rfl) rfl rfl rfl rfl rfl) rfl ?_)
  show AWp _ _ _ _ _ _ _
  refine aS (aS (aR ?_))
  (refine nx (aA (gN rfl) rfl rfl rfl rfl rfl) rfl ?_)
  show AWp _ _ _ _ _ _ _
  refine aB (awp_count l.length (fun k => [(1, .bp 1 0 []), (100001, .bx t.cw), (2, .bp 2 0 []), (100002, ⟨5, .row [.i 0, .lst []], 1, 0, [1]⟩), (3, .val (.lst (l.map CV.i))), (4, .own (.lst ((z.take k).map Bd.cv)) 200022), (200022, .tok 70 3), (5, .val (.i k))])
    ((wk_nil 4 200022 70 3 rfl rfl rfl rfl rfl rfl rfl).trans (wk_sub ⟨rfl, rfl, rfl, rfl, rfl, rfl, rfl, rfl, trivial⟩)) ?_)
  intro k hk
  refine aS (aS (aR ?_))
  (refine nx (aM (gN rfl) rfl rfl rfl rfl rfl) rfl ?_)
  (refine nx (aM (gN rfl) rfl rfl rfl rfl rfl) rfl ?_)
  (refine nx (a_len (gN rfl) rfl rfl rfl rfl rfl rfl rfl) rfl ?_)
  (refine nx (a_lss (gN rfl) rfl rfl rfl rfl rfl rfl) rfl ?_)
  show AWp _ _ _ _ _ _ _
  refine aC rfl (fun hc => aK ?_) (fun hc => aE ?_)
  · have hkl : k < l.length := by
      simp only [List.length_map, decide_eq_true_eq] at hc
      omega
    clear hc
    obtain ⟨v, hv⟩ : ∃ v, l[k]? = some v := ⟨l[k], List.getElem?_eq_getElem hkl⟩
    have hv' := ints_at hv
    have hzk : z[k]? = some ⟨v, varT 0⟩ := by rw [hz]; exact zip_at hv (by rw [List.getElem?_map, nums_at hkl]; rfl)
    show AWp _ _ _ _ _ _ _
    refine aS (aB (aR ?_))
    (refine nx (aM (gN rfl) rfl rfl rfl rfl rfl) rfl ?_)
    (refine nx (aM (gN rfl) rfl rfl rfl rfl rfl) rfl ?_)
    (refine nx (aM (gN rfl) rfl rfl rfl rfl rfl) rfl ?_)
    (refine nx (a_index (gN rfl) rfl rfl rfl rfl rfl rfl rfl rfl rfl (by assumption) rfl (by first | assumption | exact sZ rfl | exact Tm.size_all _ | exact Bd.size_all _ | exact ints_size _ | exact bys_size _ | exact Lt.size_all _)) rfl ?_)
    (refine nx (a_load_ad (gN rfl) rfl rfl rfl rfl rfl rfl rfl rfl rfl) rfl ?_)
    (refine nx (a_build (gN rfl) rfl rfl rfl rfl rfl rfl rfl rfl rfl rfl rfl) rfl ?_)
    (refine nx (a_build (gN rfl) rfl rfl rfl rfl rfl rfl rfl rfl rfl rfl rfl) rfl ?_)
    (refine nx (a_bslice (gN rfl) rfl rfl rfl rfl rfl rfl rfl rfl rfl rfl rfl rfl rfl) rfl ?_)
    (refine nx (a_app (gN rfl) rfl rfl rfl rfl rfl rfl rfl rfl rfl rfl rfl rfl rfl rfl rfl (by first | assumption | exact sZ rfl | exact Tm.size_all _ | exact Bd.size_all _ | exact ints_size _ | exact bys_size _ | exact Lt.size_all _) (by first | assumption | exact sZ rfl | exact Tm.size_all _ | exact Bd.size_all _ | exact ints_size _ | exact bys_size _ | exact Lt.size_all _) (by first | omega | (simp only [List.length_map, List.length_append, List.length_cons, List.length_nil] <;> omega) | (simp <;> omega))) rfl ?_)
    (refine nx (aA (gN rfl) rfl rfl rfl rfl rfl) rfl ?_)
    show AWp _ _ _ _ _ _ _
    refine aR ?_
    (refine nx (aM (gN rfl) rfl rfl rfl rfl rfl) rfl ?_)
    (refine nx (a_add (gN rfl) rfl rfl rfl rfl rfl rfl (by first | omega | (simp only [List.length_map, List.length_append, List.length_cons, List.length_nil] <;> omega) | (simp <;> omega))) rfl ?_)
    (refine nx (aA (gN rfl) rfl rfl rfl rfl rfl) rfl ?_)
    refine ⟨hkl, Wk.trans (wk_sub (s' := [(1, .bp 1 0 []), (100001, .bx t.cw), (2, .bp 2 0 []), (100002, ⟨5, .row [.i 0, .lst []], 1, 0, [1]⟩), (3, .val (.lst (l.map CV.i))), (4, .own (.lst ((z.take (k + 1)).map Bd.cv)) 300022), (300022, .tok 70 3), (5, .val (.i ((k + 1 : Nat) : Int)))]) ⟨rfl, rfl, rfl, rfl, rfl, ?_, rfl, rfl, trivial⟩) (wk_ren 300022 200022 rfl rfl rfl rfl)⟩
    rw [List.take_add_one, hzk, List.map_append]
    rfl
  · have hkl : k = z.length := by
      simp only [List.length_map, decide_eq_false_iff_not] at hc
      omega
    subst hkl
    rw [List.take_length]
    show AWp _ _ _ _ _ _ _
    refine aS (aR ?_)
    (refine nx (aM (gN rfl) rfl rfl rfl rfl rfl) rfl ?_)
    (refine nx (aL (gN rfl) rfl rfl rfl rfl rfl rfl rfl rfl rfl rfl rfl rfl) rfl ?_)
    (refine nx (a_call (gN rfl) rfl rfl rfl rfl rfl (refApply_abs w z (by omega) t hr hok)) rfl ?_)
    (refine nx (aSt (gN rfl) rfl rfl rfl rfl rfl rfl rfl rfl rfl rfl) rfl ?_)
    show AWp _ _ _ _ _ _ _
    exact aT (And.intro (.inr rfl) rfl)
def okL (l : Lt) : Prop := (l.a.rng ∧ l.a.ok ∧ l.a.size ≤ 1000) ∧ (l.b.rng ∧ l.b.ok ∧ l.b.size ≤ 1000)
-- 
theorem right_abs (W : World) (l : Lt) (h : okL l) : AFun Tryz.prog W 41 [l.cw] (.val (rtL l).cw) := by
  obtain ⟨⟨r1, o1, s1⟩, r2, o2, s2⟩ := h
  have hb1 := fun w => blank_abs w l.a r1 o1 s1
  have hb2 := fun w => blank_abs w l.b r2 o2 s2
  have hle := fun w => refLess_abs w (blkT l.a) (blkT l.b) (blk_ok o1) (blk_ok o2)
  rw [cmpT_congr2 (blk_strip l.a) (blk_strip l.b)] at hle
  refine afun_of (rs := [(rtL l).cw]) Tryz.func41 Tryz.ntmps41 rfl rfl rfl rfl ?_
  intro w U hW
  refine aS (aR ?_)
  (refine nx (a_box (gN rfl) rfl rfl rfl rfl rfl) rfl ?_)
  (refine nx (a_alloc (gN rfl) rfl rfl rfl rfl rfl rfl rfl rfl rfl rfl) rfl ?_)
  show AWp _ _ _ _ _ _ _
  refine aS (aS (aD (by kernel_rfl) (by kernel_rfl) ?_))
  (refine nx (aF (gN rfl) rfl rfl rfl rfl rfl rfl rfl rfl rfl) rfl ?_)
  (refine nx (aLb (gN rfl) rfl rfl rfl rfl rfl rfl rfl rfl rfl rfl rfl rfl) rfl ?_)
  (refine nx (a_call (gN rfl) rfl rfl rfl rfl rfl (hb1 w)) rfl ?_)
  (refine nx (aF (gN rfl) rfl rfl rfl rfl rfl rfl rfl rfl rfl) rfl ?_)
  (refine nx (aLb (gN rfl) rfl rfl rfl rfl rfl rfl rfl rfl rfl rfl rfl rfl) rfl ?_)
  (refine nx (a_call (gN rfl) rfl rfl rfl rfl rfl (hb2 w)) rfl ?_)
  (refine nx (a_call (gN rfl) rfl rfl rfl rfl rfl (hle w)) rfl ?_)
  refine ⟨by kernel_rfl, ?_⟩
  show AWp _ _ _ _ _ _ _
  refine aC rfl (fun hc => ?_) (fun hc => ?_)
  · have e : rtL l = othL l := by unfold rtL; rw [if_pos (of_decide_eq_true hc)]
    rw [e]
    refine aS (aR ?_)
    (refine nx (aF (gN rfl) rfl rfl rfl rfl rfl rfl rfl rfl rfl) rfl ?_)
    (refine nx (aLb (gN rfl) rfl rfl rfl rfl rfl rfl rfl rfl rfl rfl rfl rfl) rfl ?_)
    (refine nx (aF (gN rfl) rfl rfl rfl rfl rfl rfl rfl rfl rfl) rfl ?_)
    (refine nx (aLb (gN rfl) rfl rfl rfl rfl rfl rfl rfl rfl rfl rfl rfl rfl) rfl ?_)
    (refine nx (aF (gN rfl) rfl rfl rfl rfl rfl rfl rfl rfl rfl) rfl ?_)
    (refine nx (aLb (gN rfl) rfl rfl rfl rfl rfl rfl rfl rfl rfl rfl rfl rfl) rfl ?_)
    (refine nx (a_build (gN rfl) rfl rfl rfl rfl rfl rfl rfl rfl rfl rfl rfl) rfl ?_)
    (refine nx (aSt (gN rfl) rfl rfl rfl rfl rfl rfl rfl rfl rfl rfl) rfl ?_)
    show AWp _ _ _ _ _ _ _
    exact aT (And.intro (.inr rfl) rfl)
  · have e : rtL l = l := by unfold rtL; rw [if_neg (of_decide_eq_false hc)]
    rw [e]
    refine aK ?_
    show AWp _ _ _ _ _ _ _
    refine aS (aR ?_)
    (refine nx (aL (gN rfl) rfl rfl rfl rfl rfl rfl rfl rfl rfl rfl rfl rfl) rfl ?_)
    (refine nx (aSt (gN rfl) rfl rfl rfl rfl rfl rfl rfl rfl rfl rfl) rfl ?_)
    show AWp _ _ _ _ _ _ _
    exact aT (And.intro (.inr rfl) rfl)
-- 
theorem before_abs (W : World) (x y : Lt) (hx : okL x) (hy : okL y) : AFun Tryz.prog W 42 [x.cw, y.cw] (.val (.b (befL x y))) := by
  obtain ⟨⟨r1, o1, s1⟩, r2, o2, s2⟩ := hx
  obtain ⟨⟨r3, o3, s3⟩, r4, o4, s4⟩ := hy
  have b1 := fun w => blank_abs w x.a r1 o1 s1
  have b2 := fun w => blank_abs w x.b r2 o2 s2
  have b3 := fun w => blank_abs w y.a r3 o3 s3
  have b4 := fun w => blank_abs w y.b r4 o4 s4
  have hl1 := fun w => refLess_abs w (blkT x.a) (blkT y.a) (blk_ok o1) (blk_ok o3)
  have hl2 := fun w => refLess_abs w (blkT x.b) (blkT y.b) (blk_ok o2) (blk_ok o4)
  have hs := fun w => refSame_abs w (blkT x.a) (blkT y.a) (blk_ok o1) (blk_ok o3)
  rw [cmpT_congr2 (blk_strip x.a) (blk_strip y.a)] at hl1
  rw [cmpT_congr2 (blk_strip x.b) (blk_strip y.b)] at hl2
  have hse : sameT (blkT x.a) (blkT y.a) = decide (cmpT (lkT x.a) (lkT y.a) = 0) := by
    rw [Bool.eq_iff_iff, sameT_iff, decide_eq_true_iff, cmpT_zero, blk_strip, blk_strip]
  rw [hse] at hs
  have hcl : cmpLt (lkL x) (lkL y) = if cmpZ (sgZ x.neg) (sgZ y.neg) ≠ 0 then cmpZ (sgZ x.neg) (sgZ y.neg) else if cmpT (lkT x.a) (lkT y.a) ≠ 0 then cmpT (lkT x.a) (lkT y.a) else cmpT (lkT x.b) (lkT y.b) := rfl
  refine afun_of (rs := [.b (befL x y)]) Tryz.func42 Tryz.ntmps42 rfl rfl rfl rfl ?_
  intro w U hW
  refine aS (aR ?_)
  (refine nx (a_box (gN rfl) rfl rfl rfl rfl rfl) rfl ?_)
  (refine nx (a_box (gN rfl) rfl rfl rfl rfl rfl) rfl ?_)
  (refine nx (aA (gN rfl) rfl rfl rfl rfl rfl) rfl ?_)
  show AWp _ _ _ _ _ _ _
  refine aS (aS (aR ?_))
  (refine nx (aF (gN rfl) rfl rfl rfl rfl rfl rfl rfl rfl rfl) rfl ?_)
  (refine nx (aLb (gN rfl) rfl rfl rfl rfl rfl rfl rfl rfl rfl rfl rfl rfl) rfl ?_)
  (refine nx (aF (gN rfl) rfl rfl rfl rfl rfl rfl rfl rfl rfl) rfl ?_)
  (refine nx (aLb (gN rfl) rfl rfl rfl rfl rfl rfl rfl rfl rfl rfl rfl rfl) rfl ?_)
  (refine nx (a_bne (gN rfl) rfl rfl rfl rfl rfl rfl rfl) rfl ?_)
  show AWp _ _ _ _ _ _ _
  refine aC rfl (fun hc => ?_) (fun hc => ?_)
  · have hc : x.neg ≠ y.neg := by simpa using hc
    have e : befL x y = y.neg := by
      unfold befL
      rw [hcl, if_pos (by rw [ne_eq, sg_zero]; exact hc)]
      cases hxn : x.neg <;> cases hyn : y.neg <;> first | (rw [hxn, hyn] at hc; exact absurd rfl hc) | decide
    rw [e]
    refine aS (aR ?_)
    (refine nx (aF (gN rfl) rfl rfl rfl rfl rfl rfl rfl rfl rfl) rfl ?_)
    (refine nx (aLb (gN rfl) rfl rfl rfl rfl rfl rfl rfl rfl rfl rfl rfl rfl) rfl ?_)
    (refine nx (aA (gN rfl) rfl rfl rfl rfl rfl) rfl ?_)
    show AWp _ _ _ _ _ _ _
    exact aT (And.intro (.inr rfl) rfl)
  have hne : x.neg = y.neg := by simpa using hc
  rw [if_neg (by rw [ne_eq, sg_zero]; exact fun g => g hne)] at hcl
  refine aK ?_
  show AWp _ _ _ _ _ _ _
  refine aS (aS (aD (by kernel_rfl) (by kernel_rfl) ?_))
  (refine nx (aF (gN rfl) rfl rfl rfl rfl rfl rfl rfl rfl rfl) rfl ?_)
  (refine nx (aLb (gN rfl) rfl rfl rfl rfl rfl rfl rfl rfl rfl rfl rfl rfl) rfl ?_)
  (refine nx (a_call (gN rfl) rfl rfl rfl rfl rfl (b1 w)) rfl ?_)
  (refine nx (aF (gN rfl) rfl rfl rfl rfl rfl rfl rfl rfl rfl) rfl ?_)
  (refine nx (aLb (gN rfl) rfl rfl rfl rfl rfl rfl rfl rfl rfl rfl rfl rfl) rfl ?_)
  (refine nx (a_call (gN rfl) rfl rfl rfl rfl rfl (b3 w)) rfl ?_)
  (refine nx (a_call (gN rfl) rfl rfl rfl rfl rfl (hs w)) rfl ?_)
  (refine nx (a_not (gN rfl) rfl rfl rfl rfl rfl) rfl ?_)
  refine ⟨by kernel_rfl, ?_⟩
  show AWp _ _ _ _ _ _ _
  refine aC rfl (fun hc => ?_) (fun hc => ?_)
  · have h0 : ¬ cmpT (lkT x.a) (lkT y.a) = 0 := by simpa using hc
    rw [if_pos h0] at hcl
    have e : befL x y = decide (cmpT (lkT x.a) (lkT y.a) < 0) := by unfold befL; rw [hcl]
    rw [e]
    refine aS (aD (by kernel_rfl) (by kernel_rfl) ?_)
    (refine nx (aF (gN rfl) rfl rfl rfl rfl rfl rfl rfl rfl rfl) rfl ?_)
    (refine nx (aLb (gN rfl) rfl rfl rfl rfl rfl rfl rfl rfl rfl rfl rfl rfl) rfl ?_)
    (refine nx (a_call (gN rfl) rfl rfl rfl rfl rfl (b1 w)) rfl ?_)
    (refine nx (aF (gN rfl) rfl rfl rfl rfl rfl rfl rfl rfl rfl) rfl ?_)
    (refine nx (aLb (gN rfl) rfl rfl rfl rfl rfl rfl rfl rfl rfl rfl rfl rfl) rfl ?_)
    (refine nx (a_call (gN rfl) rfl rfl rfl rfl rfl (b3 w)) rfl ?_)
    (refine nx (a_call (gN rfl) rfl rfl rfl rfl rfl (hl1 w)) rfl ?_)
    (refine nx (aA (gN rfl) rfl rfl rfl rfl rfl) rfl ?_)
    refine ⟨by kernel_rfl, ?_⟩
    show AWp _ _ _ _ _ _ _
    exact aT (And.intro (.inr rfl) rfl)
  · have h0 : cmpT (lkT x.a) (lkT y.a) = 0 := by simpa using hc
    rw [if_neg (fun g => g h0)] at hcl
    have e : befL x y = decide (cmpT (lkT x.b) (lkT y.b) < 0) := by unfold befL; rw [hcl]
    rw [e]
    refine aK ?_
    show AWp _ _ _ _ _ _ _
    refine aS (aD (by kernel_rfl) (by kernel_rfl) ?_)
    (refine nx (aF (gN rfl) rfl rfl rfl rfl rfl rfl rfl rfl rfl) rfl ?_)
    (refine nx (aLb (gN rfl) rfl rfl rfl rfl rfl rfl rfl rfl rfl rfl rfl rfl) rfl ?_)
    (refine nx (a_call (gN rfl) rfl rfl rfl rfl rfl (b2 w)) rfl ?_)
    (refine nx (aF (gN rfl) rfl rfl rfl rfl rfl rfl rfl rfl rfl) rfl ?_)
    (refine nx (aLb (gN rfl) rfl rfl rfl rfl rfl rfl rfl rfl rfl rfl rfl rfl) rfl ?_)
    (refine nx (a_call (gN rfl) rfl rfl rfl rfl rfl (b4 w)) rfl ?_)
    (refine nx (a_call (gN rfl) rfl rfl rfl rfl rfl (hl2 w)) rfl ?_)
    (refine nx (aA (gN rfl) rfl rfl rfl rfl rfl) rfl ?_)
    refine ⟨by kernel_rfl, ?_⟩
    show AWp _ _ _ _ _ _ _
    exact aT (And.intro (.inr rfl) rfl)
theorem whl_cv (l : Lt) : (whlL l).cv = .row [.i (sgZ l.neg), .lst [l.a.cw, l.b.cw]] := by
  rw [Tm.cv_eq]
  show CV.row [.i (sgZ l.neg), .lst ([l.a, l.b].map Tm.cv)] = _
  simp only [List.map_cons, List.map_nil, Tm.cv_eq]
-- 
set_option maxHeartbeats 1000000 in
theorem whole_abs (W : World) (c : List Lt) (hl : c.length ≤ 1000000) : AFun Tryz.prog W 28 [.lst (c.map Lt.cv)] (.val (whlT c).cw) := by
  have hsz := Lt.size_all c
  refine afun_of (rs := [(whlT c).cw]) Tryz.func28 Tryz.ntmps28 rfl rfl rfl rfl ?_
  intro w U hW
  refine aS (aR ?_)
  (refine nx (a_alloc (gN rfl) rfl rfl rfl rfl rfl rfl rfl rfl rfl rfl) rfl ?_)
  show AWp _ _ _ _ _ _ _
  refine aS (aR ?_)
  (refine nx (a_build (gN rfl) rfl rfl rfl rfl rfl rfl rfl rfl rfl rfl rfl) rfl ?_)
  (refine nx (a_alloc (gN rfl) rfl rfl rfl rfl rfl rfl rfl rfl rfl rfl) rfl ?_)
  (refine nx (aSt (gN rfl) rfl rfl rfl rfl rfl rfl rfl rfl rfl rfl) rfl ?_)
  show AWp _ _ _ _ _ _ _
  refine aS (aS (aR ?_))
  (refine nx (aA (gN rfl) rfl rfl rfl rfl rfl) rfl ?_)
  show AWp _ _ _ _ _ _ _
  refine aB (awp_count c.length (fun k => [(0, .val (.lst (c.map Lt.cv))), (2, .bp 2 0 []), (100002, ⟨5, .row [.i 0, .lst []], 1, 0, [1]⟩), (3, .bp 3 0 []), (100003, ⟨5, .row [.i 0, .lst (((c.take k).map whlL).map Tm.cv)], 200034, 0, [1]⟩), (200034, .tok 33 2), (4, .val (.i k))])
    ((wk_nil 100003 200034 33 2 rfl rfl rfl rfl rfl rfl rfl).trans (wk_sub ⟨rfl, rfl, rfl, rfl, rfl, rfl, rfl, trivial⟩)) ?_)
  intro k hk
  refine aS (aS (aR ?_))
  (refine nx (aM (gN rfl) rfl rfl rfl rfl rfl) rfl ?_)
  (refine nx (aM (gN rfl) rfl rfl rfl rfl rfl) rfl ?_)
  (refine nx (a_len (gN rfl) rfl rfl rfl rfl rfl rfl rfl) rfl ?_)
  (refine nx (a_lss (gN rfl) rfl rfl rfl rfl rfl rfl) rfl ?_)
  show AWp _ _ _ _ _ _ _
  refine aC rfl (fun hc => aK ?_) (fun hc => aE ?_)
  · have hkl : k < c.length := by
      simp only [List.length_map, decide_eq_true_eq] at hc
      omega
    clear hc
    obtain ⟨x, hx⟩ : ∃ x, c[k]? = some x := ⟨c[k], List.getElem?_eq_getElem hkl⟩
    have hx' := Lt.map_at hx
    have hsz2 : ∀ y ∈ ((c.take k).map whlL).map Tm.cv, y.size = 2 := Tm.size_all _
    have hl3 : (((c.take k).map whlL).map Tm.cv).length ≤ 1000000 := by rw [List.length_map, List.length_map, List.length_take]; omega
    have hst : ((c.take (k + 1)).map whlL).map Tm.cv = ((c.take k).map whlL).map Tm.cv ++ [.row [.i (sgZ x.neg), .lst [x.a.cw, x.b.cw]]] := by
      rw [List.take_add_one, hx, Option.toList_some, List.map_append, List.map_append, List.map_singleton, List.map_singleton, whl_cv]
    show AWp _ _ _ _ _ _ _
    refine aS (aB (aS (aR ?_)))
    (refine nx (aA (gN rfl) rfl rfl rfl rfl rfl) rfl ?_)
    show AWp _ _ _ _ _ _ _
    refine awp_mid [(0, .val (.lst (c.map Lt.cv))), (2, .bp 2 0 []), (100002, ⟨5, .row [.i 0, .lst []], 1, 0, [1]⟩), (3, .bp 3 0 []), (100003, ⟨5, .row [.i 0, .lst (((c.take k).map whlL).map Tm.cv)], 200034, 0, [1]⟩), (200034, .tok 33 2), (4, .val (.i k)), (5, .val (.i (sgZ x.neg)))] ?_ ?_
    · refine aS (aR ?_)
      (refine nx (aM (gN rfl) rfl rfl rfl rfl rfl) rfl ?_)
      (refine nx (aM (gN rfl) rfl rfl rfl rfl rfl) rfl ?_)
      (refine nx (a_index (j := k) (gN rfl) rfl rfl rfl rfl rfl rfl rfl rfl rfl (hx') rfl (hsz)) rfl ?_)
      (refine nx (a_field_ad (gN rfl) rfl rfl rfl rfl rfl rfl rfl rfl rfl rfl rfl) rfl ?_)
      (refine nx (a_load_ad (gN rfl) rfl rfl rfl rfl rfl rfl rfl rfl rfl) rfl ?_)
      show AWp _ _ _ _ _ _ _
      refine aC rfl (fun hc2 => ?_) (fun hc2 => ?_)
      · have hc2 : x.neg = true := hc2
        refine aR ?_
        (refine nx (aA (gN rfl) rfl rfl rfl rfl rfl) rfl ?_)
        rw [hc2]
        exact wk_sub ⟨rfl, rfl, rfl, rfl, rfl, rfl, rfl, rfl, trivial⟩
      · have hc2 : x.neg = false := hc2
        refine aK ?_
        rw [hc2]
        exact wk_sub ⟨rfl, rfl, rfl, rfl, rfl, rfl, rfl, rfl, trivial⟩
    refine aD (by kernel_rfl) (by kernel_rfl) ?_
    (refine nx (aF (gN rfl) rfl rfl rfl rfl rfl rfl rfl rfl rfl) rfl ?_)
    (refine nx (a_load_tok (gN rfl) rfl rfl rfl rfl rfl rfl rfl rfl rfl rfl rfl rfl rfl) rfl ?_)
    (refine nx (aM (gN rfl) rfl rfl rfl rfl rfl) rfl ?_)
    (refine nx (aM (gN rfl) rfl rfl rfl rfl rfl) rfl ?_)
    (refine nx (aM (gN rfl) rfl rfl rfl rfl rfl) rfl ?_)
    (refine nx (a_index (j := k) (gN rfl) rfl rfl rfl rfl rfl rfl rfl rfl rfl (hx') rfl (hsz)) rfl ?_)
    (refine nx (a_field_ad (gN rfl) rfl rfl rfl rfl rfl rfl rfl rfl rfl rfl rfl) rfl ?_)
    (refine nx (a_load_ad (gN rfl) rfl rfl rfl rfl rfl rfl rfl rfl rfl) rfl ?_)
    (refine nx (aM (gN rfl) rfl rfl rfl rfl rfl) rfl ?_)
    (refine nx (aM (gN rfl) rfl rfl rfl rfl rfl) rfl ?_)
    (refine nx (a_index (j := k) (gN rfl) rfl rfl rfl rfl rfl rfl rfl rfl rfl (hx') rfl (hsz)) rfl ?_)
    (refine nx (a_field_ad (gN rfl) rfl rfl rfl rfl rfl rfl rfl rfl rfl rfl rfl) rfl ?_)
    (refine nx (a_load_ad (gN rfl) rfl rfl rfl rfl rfl rfl rfl rfl rfl) rfl ?_)
    (refine nx (a_bslice (gN rfl) rfl rfl rfl rfl rfl rfl rfl rfl rfl rfl rfl rfl rfl) rfl ?_)
    (refine nx (a_build (gN rfl) rfl rfl rfl rfl rfl rfl rfl rfl rfl rfl rfl) rfl ?_)
    (refine nx (a_bslice (gN rfl) rfl rfl rfl rfl rfl rfl rfl rfl rfl rfl rfl rfl rfl) rfl ?_)
    (refine nx (a_app (gN rfl) rfl rfl rfl rfl rfl rfl rfl rfl rfl rfl rfl rfl rfl rfl rfl (by first | assumption | exact sZ rfl | exact Tm.size_all _ | exact Bd.size_all _ | exact ints_size _ | exact bys_size _ | exact Lt.size_all _) (by first | assumption | exact sZ rfl | exact Tm.size_all _ | exact Bd.size_all _ | exact ints_size _ | exact bys_size _ | exact Lt.size_all _) (by first | omega | (simp only [List.length_map, List.length_append, List.length_cons, List.length_nil] <;> omega) | (simp <;> omega))) rfl ?_)
    (refine nx (aF (gN rfl) rfl rfl rfl rfl rfl rfl rfl rfl rfl) rfl ?_)
    (refine nx (a_store (gN rfl) rfl rfl rfl rfl rfl rfl rfl rfl rfl rfl) rfl ?_)
    refine ⟨by kernel_rfl, ?_⟩
    show AWp _ _ _ _ _ _ _
    refine aR ?_
    (refine nx (aM (gN rfl) rfl rfl rfl rfl rfl) rfl ?_)
    (refine nx (a_add (gN rfl) rfl rfl rfl rfl rfl rfl (by first | omega | (simp only [List.length_map, List.length_append, List.length_cons, List.length_nil] <;> omega) | (simp <;> omega))) rfl ?_)
    (refine nx (aA (gN rfl) rfl rfl rfl rfl rfl) rfl ?_)
    refine ⟨hkl, Wk.trans (wk_sub (s' := [(0, .val (.lst (c.map Lt.cv))), (2, .bp 2 0 []), (100002, ⟨5, .row [.i 0, .lst []], 1, 0, [1]⟩), (3, .bp 3 0 []), (100003, ⟨5, .row [.i 0, .lst (((c.take (k + 1)).map whlL).map Tm.cv)], 300034, 0, [1]⟩), (300034, .tok 33 2), (4, .val (.i ((k + 1 : Nat) : Int)))]) ⟨rfl, rfl, rfl, rfl, ?_, rfl, rfl, trivial⟩) (wk_ren 300034 200034 rfl rfl rfl rfl)⟩
    rw [hst]
    rfl
  · have hkl : k = c.length := by
      simp only [List.length_map, decide_eq_false_iff_not] at hc
      omega
    subst hkl
    rw [List.take_length]
    show AWp _ _ _ _ _ _ _
    refine aS (aR ?_)
    (refine nx (aL (gN rfl) rfl rfl rfl rfl rfl rfl rfl rfl rfl rfl rfl rfl) rfl ?_)
    (refine nx (aSt (gN rfl) rfl rfl rfl rfl rfl rfl rfl rfl rfl rfl) rfl ?_)
    show AWp _ _ _ _ _ _ _
    exact aT (And.intro (.inr rfl) rfl)
-- 
set_option maxHeartbeats 1000000 in
theorem refAppC_abs (W : World) (s : List Bd) (c : List Lt) (hs : s.length ≤ 1000000) (hl : c.length ≤ 1000000) (hc : ∀ l ∈ c, (l.a.rng ∧ l.a.ok) ∧ l.b.rng ∧ l.b.ok) : AFun Tryz.prog W 24 [.lst (s.map Bd.cv), .lst (c.map Lt.cv)] (.val (.lst ((c.map (appL s)).map Lt.cv))) := by
  have hsz := Lt.size_all c
  refine afun_of (rs := [.lst ((c.map (appL s)).map Lt.cv)]) Tryz.func24 Tryz.ntmps24 rfl rfl rfl rfl ?_
  intro w U hW
  refine aS (aR ?_)
  (refine nx (aA (gN rfl) rfl rfl rfl rfl rfl) rfl ?_)
  show AWp _ _ _ _ _ _ _
  refine aS (aR ?_)
  (refine nx (aA (gN rfl) rfl rfl rfl rfl rfl) rfl ?_)
  show AWp _ _ _ _ _ _ _
  refine aS (aS (aR ?_))
  (refine nx (aA (gN rfl) rfl rfl rfl rfl rfl) rfl ?_)
  show AWp _ _ _ _ _ _ _
  refine aB (awp_count c.length (fun k => [(0, .val (.lst (s.map Bd.cv))), (1, .val (.lst (c.map Lt.cv))), (5, .own (.lst (((c.take k).map (appL s)).map Lt.cv)) 200035), (200035, .tok 35 5), (6, .val (.i k))]) ((wk_nil 5 200035 35 5 rfl rfl rfl rfl rfl rfl rfl).trans (wk_sub ⟨rfl, rfl, rfl, rfl, rfl, trivial⟩)) ?_)
  intro k hk
  have hks := Lt.size_all ((c.take k).map (appL s))
  refine aS (aS (aR ?_))
  (refine nx (aM (gN rfl) rfl rfl rfl rfl rfl) rfl ?_)
  (refine nx (aM (gN rfl) rfl rfl rfl rfl rfl) rfl ?_)
  (refine nx (a_len (gN rfl) rfl rfl rfl rfl rfl rfl rfl) rfl ?_)
  (refine nx (a_lss (gN rfl) rfl rfl rfl rfl rfl rfl) rfl ?_)
  show AWp _ _ _ _ _ _ _
  refine aC rfl (fun hlt => ?_) (fun hlt => ?_)
  · have hkl : k < c.length := by simpa using hlt
    obtain ⟨x, hx⟩ : ∃ x, c[k]? = some x := ⟨c[k], List.getElem?_eq_getElem hkl⟩
    have hx' := Lt.map_at hx
    have hxm := List.mem_of_getElem? hx
    obtain ⟨⟨r1, o1⟩, r2, o2⟩ := hc x hxm
    have hkn : (((c.take k).map (appL s)).map Lt.cv).length ≤ 1000000 := by rw [List.length_map, List.length_map, List.length_take]; omega
    have hst : ((c.take (k + 1)).map (appL s)).map Lt.cv = ((c.take k).map (appL s)).map Lt.cv ++ [(appL s x).cw] := by
      rw [List.take_add_one, hx, Option.toList_some, List.map_append, List.map_append]; rfl
    refine aK ?_
    show AWp _ _ _ _ _ _ _
    refine aS (aB (aD (by kernel_rfl) (by kernel_rfl) ?_))
    (refine nx (aM (gN rfl) rfl rfl rfl rfl rfl) rfl ?_)
    (refine nx (aM (gN rfl) rfl rfl rfl rfl rfl) rfl ?_)
    (refine nx (aM (gN rfl) rfl rfl rfl rfl rfl) rfl ?_)
    (refine nx (a_index (j := k) (gN rfl) rfl rfl rfl rfl rfl rfl rfl rfl rfl (hx') rfl (hsz)) rfl ?_)
    (refine nx (a_field_ad (gN rfl) rfl rfl rfl rfl rfl rfl rfl rfl rfl rfl rfl) rfl ?_)
    (refine nx (a_load_ad (gN rfl) rfl rfl rfl rfl rfl rfl rfl rfl rfl) rfl ?_)
    (refine nx (aM (gN rfl) rfl rfl rfl rfl rfl) rfl ?_)
    (refine nx (aM (gN rfl) rfl rfl rfl rfl rfl) rfl ?_)
    (refine nx (aM (gN rfl) rfl rfl rfl rfl rfl) rfl ?_)
    (refine nx (a_index (j := k) (gN rfl) rfl rfl rfl rfl rfl rfl rfl rfl rfl (hx') rfl (hsz)) rfl ?_)
    (refine nx (a_field_ad (gN rfl) rfl rfl rfl rfl rfl rfl rfl rfl rfl rfl rfl) rfl ?_)
    (refine nx (a_load_ad (gN rfl) rfl rfl rfl rfl rfl rfl rfl rfl rfl) rfl ?_)
    (refine nx (a_call (gN rfl) rfl rfl rfl rfl rfl (refApply_abs w s (by omega) x.a r1 o1)) rfl ?_)
    (refine nx (aM (gN rfl) rfl rfl rfl rfl rfl) rfl ?_)
    (refine nx (aM (gN rfl) rfl rfl rfl rfl rfl) rfl ?_)
    (refine nx (aM (gN rfl) rfl rfl rfl rfl rfl) rfl ?_)
    (refine nx (a_index (j := k) (gN rfl) rfl rfl rfl rfl rfl rfl rfl rfl rfl (hx') rfl (hsz)) rfl ?_)
    (refine nx (a_field_ad (gN rfl) rfl rfl rfl rfl rfl rfl rfl rfl rfl rfl rfl) rfl ?_)
    (refine nx (a_load_ad (gN rfl) rfl rfl rfl rfl rfl rfl rfl rfl rfl) rfl ?_)
    (refine nx (a_call (gN rfl) rfl rfl rfl rfl rfl (refApply_abs w s (by omega) x.b r2 o2)) rfl ?_)
    (refine nx (a_build (gN rfl) rfl rfl rfl rfl rfl rfl rfl rfl rfl rfl rfl) rfl ?_)
    (refine nx (a_bslice (gN rfl) rfl rfl rfl rfl rfl rfl rfl rfl rfl rfl rfl rfl rfl) rfl ?_)
    (refine nx (a_app (gN rfl) rfl rfl rfl rfl rfl rfl rfl rfl rfl rfl rfl rfl rfl rfl rfl (by first | assumption | exact sZ rfl | exact Tm.size_all _ | exact Bd.size_all _ | exact ints_size _ | exact bys_size _ | exact Lt.size_all _) (by first | assumption | exact sZ rfl | exact Tm.size_all _ | exact Bd.size_all _ | exact ints_size _ | exact bys_size _ | exact Lt.size_all _) (by first | omega | (simp only [List.length_map, List.length_append, List.length_cons, List.length_nil] <;> omega) | (simp <;> omega))) rfl ?_)
    (refine nx (aA (gN rfl) rfl rfl rfl rfl rfl) rfl ?_)
    refine ⟨by kernel_rfl, ?_⟩
    show AWp _ _ _ _ _ _ _
    refine aR ?_
    (refine nx (aM (gN rfl) rfl rfl rfl rfl rfl) rfl ?_)
    (refine nx (a_add (gN rfl) rfl rfl rfl rfl rfl rfl (by first | omega | (simp only [List.length_map, List.length_append, List.length_cons, List.length_nil] <;> omega) | (simp <;> omega))) rfl ?_)
    (refine nx (aA (gN rfl) rfl rfl rfl rfl rfl) rfl ?_)
    refine ⟨hkl, Wk.trans (wk_sub (s' := [(0, .val (.lst (s.map Bd.cv))), (1, .val (.lst (c.map Lt.cv))), (5, .own (.lst (((c.take (k + 1)).map (appL s)).map Lt.cv)) 300035), (300035, .tok 35 5), (6, .val (.i ((k + 1 : Nat) : Int)))]) ⟨rfl, rfl, ?_, rfl, rfl, trivial⟩) (wk_ren 300035 200035 rfl rfl rfl rfl)⟩
    rw [hst]
    rfl
  · have hkl : k = c.length := by
      have : ¬ k < c.length := by simpa using hlt
      omega
    subst hkl
    rw [List.take_length]
    refine aE ?_
    show AWp _ _ _ _ _ _ _
    refine aS (aR ?_)
    (refine nx (aM (gN rfl) rfl rfl rfl rfl rfl) rfl ?_)
    (refine nx (aA (gN rfl) rfl rfl rfl rfl rfl) rfl ?_)
    show AWp _ _ _ _ _ _ _
    exact aT (And.intro (.inr rfl) rfl)
theorem whl_rng {c : List Lt} (h : okCl c) : (whlT c).rng ∧ (whlT c).ok ∧ (whlT c).size ≤ 24013 := by
  have hl := h.1
  refine ⟨(Tm.rng_iff _).2 ⟨by show _ ≤ (0 : Int) ∧ (0 : Int) ≤ _; omega, fun s hs => ?_⟩, (Tm.ok_iff _).2 ⟨by show (c.map whlL).length ≤ _; rw [List.length_map]; omega, fun s hs => ?_⟩, ?_⟩
  · obtain ⟨l, hl, rfl⟩ := List.mem_map.1 hs
    refine (Tm.rng_iff _).2 ⟨by show _ ≤ sgZ l.neg ∧ sgZ l.neg ≤ _; unfold sgZ; split <;> omega, fun t ht => ?_⟩
    have ht : t = l.a ∨ t = l.b := by simpa [whlL] using ht
    rcases ht with rfl | rfl
    · exact (h.2 l hl).1.1
    · exact (h.2 l hl).2.1
  · obtain ⟨l, hl, rfl⟩ := List.mem_map.1 hs
    refine (Tm.ok_iff _).2 ⟨by show 2 ≤ _; omega, fun t ht => ?_⟩
    have ht : t = l.a ∨ t = l.b := by simpa [whlL] using ht
    rcases ht with rfl | rfl
    · exact (h.2 l hl).1.2.1
    · exact (h.2 l hl).2.2.1
  · rw [Tm.size_sym (show ¬ (whlT c).f < 0 by show ¬ (0 : Int) < 0; decide)]
    show 1 + ((c.map whlL).map Tm.size).sum ≤ _
    have : ∀ c : List Lt, (∀ l ∈ c, (l.a.rng ∧ l.a.ok ∧ l.a.size ≤ 1000) ∧ (l.b.rng ∧ l.b.ok ∧ l.b.size ≤ 1000)) → ((c.map whlL).map Tm.size).sum ≤ 2001 * c.length := fun c => by
      induction c with
      | nil => intro _; exact Nat.zero_le _
      | cons x c ih =>
        intro g
        rw [List.map_cons, List.map_cons, List.sum_cons, List.length_cons]
        have a1 := g x (by simp)
        have a2 := ih fun s hs => g s (List.mem_cons_of_mem _ hs)
        have a3 : (whlL x).size = 1 + (x.a.size + x.b.size) := by
          rw [Tm.size_sym (t := whlL x) (sgZ_nn _)]
          show 1 + ([x.a, x.b].map Tm.size).sum = _
          simp
        omega
    have := this c h.2
    omega
def renB (c : List Lt) (k : Int) : List Bd := zipB (sidT c).nv ((sidT c).nv.map fun v => v + k)
-- 
set_option maxHeartbeats 1000000 in
theorem refRen_abs (W : World) (c : List Lt) (k : Int) (h : okCl c) (hv : ∀ v ∈ (sidT c).nv, 0 ≤ v ∧ v ≤ 1000000) (hk : 0 ≤ k ∧ k ≤ 1000000) : AFun Tryz.prog W 21 [.lst (c.map Lt.cv), .i k] (.val (.lst ((c.map (appL (renB c k))).map Lt.cv))) := by
  obtain ⟨hr, hok, hsi⟩ := whl_rng h
  have hV := fun w => refVars_abs w (whlT c) hr hok (by omega)
  rw [nv_vars, whl_nv] at hV
  have hnl := h.nv
  have hlen := h.1
  obtain ⟨z, hz⟩ : ∃ z, z = renB c k := ⟨_, rfl⟩
  unfold renB at hz
  obtain ⟨l, hl⟩ : ∃ l, l = (sidT c).nv := ⟨_, rfl⟩
  rw [← hl] at hV hv hnl hz
  have hzl : z.length = l.length := by rw [hz]; exact zip_len (by rw [List.length_map])
  have hsz := ints_size l
  have hzz := fun k => Bd.size_all (z.take k)
  have hap := fun w => refAppC_abs w z c (by omega) (by omega) (fun l hl => ⟨⟨(h.2 l hl).1.1, (h.2 l hl).1.2.1⟩, (h.2 l hl).2.1, (h.2 l hl).2.2.1⟩)
  rw [show renB c k = z by rw [hz, hl]; rfl]
  refine afun_of (rs := [.lst ((c.map (appL z)).map Lt.cv)]) Tryz.func21 Tryz.ntmps21 rfl rfl rfl rfl ?_
  intro w U hW
  refine aS (aR ?_)
  (refine nx (aA (gN rfl) rfl rfl rfl rfl rfl) rfl ?_)
  show AWp _ _ _ _ _ _ _
  refine aS (aR ?_)
  (refine nx (aM (gN rfl) rfl rfl rfl rfl rfl) rfl ?_)
  (refine nx (a_call (gN rfl) rfl rfl rfl rfl rfl (whole_abs w c (by omega))) rfl ?_)
  (refine nx (a_call (gN rfl) rfl rfl rfl rfl rfl (hV w)) rfl ?_)
  (refine nx (aA (gN rfl) rfl rfl rfl rfl rfl) rfl ?_)
  show AWp _ _ _ _ _ _ _
  refine aS (aR ?_)
  (refine nx (aA (gN rfl) rfl rfl rfl rfl rfl) rfl ?_)
  show AWp _ _ _ _ _ _ _
  refine aS (aS (aR ?_))
  (refine nx (aA (gN rfl) rfl rfl rfl rfl rfl) rfl ?_)
  show AWp _ _ _ _ _ _ _
  refine aB (awp_count l.length (fun n => [(0, .val (.lst (c.map Lt.cv))), (1, .val (.i k)), (5, .val (.lst (l.map CV.i))), (6, .own (.lst ((z.take n).map Bd.cv)) 200032), (200032, .tok 70 3), (7, .val (.i n))])
    ((wk_nil 6 200032 70 3 rfl rfl rfl rfl rfl rfl rfl).trans (wk_sub ⟨rfl, rfl, rfl, rfl, rfl, rfl, trivial⟩)) ?_)
  intro n hn
  refine aS (aS (aR ?_))
  (refine nx (aM (gN rfl) rfl rfl rfl rfl rfl) rfl ?_)
  (refine nx (aM (gN rfl) rfl rfl rfl rfl rfl) rfl ?_)
  (refine nx (a_len (gN rfl) rfl rfl rfl rfl rfl rfl rfl) rfl ?_)
  (refine nx (a_lss (gN rfl) rfl rfl rfl rfl rfl rfl) rfl ?_)
  show AWp _ _ _ _ _ _ _
  refine aC rfl (fun hc => aK ?_) (fun hc => aE ?_)
  · have hkl : n < l.length := by
      simp only [List.length_map, decide_eq_true_eq] at hc
      omega
    clear hc
    obtain ⟨v, hv'⟩ : ∃ v, l[n]? = some v := ⟨l[n], List.getElem?_eq_getElem hkl⟩
    have hvi := ints_at hv'
    have hvb := hv v (List.mem_of_getElem? hv')
    have hzk : z[n]? = some ⟨v, varT (v + k)⟩ := by rw [hz]; exact zip_at hv' (by rw [List.getElem?_map, hv']; rfl)
    have hln : ((z.take n).map Bd.cv).length ≤ 1000000 := by rw [List.length_map, List.length_take]; omega
    show AWp _ _ _ _ _ _ _
    refine aS (aB (aD (by kernel_rfl) (by kernel_rfl) ?_))
    (refine nx (aM (gN rfl) rfl rfl rfl rfl rfl) rfl ?_)
    (refine nx (aM (gN rfl) rfl rfl rfl rfl rfl) rfl ?_)
    (refine nx (aM (gN rfl) rfl rfl rfl rfl rfl) rfl ?_)
    (refine nx (a_index (j := n) (gN rfl) rfl rfl rfl rfl rfl rfl rfl rfl rfl (hvi) rfl (hsz)) rfl ?_)
    (refine nx (a_load_ad (gN rfl) rfl rfl rfl rfl rfl rfl rfl rfl rfl) rfl ?_)
    (refine nx (aM (gN rfl) rfl rfl rfl rfl rfl) rfl ?_)
    (refine nx (aM (gN rfl) rfl rfl rfl rfl rfl) rfl ?_)
    (refine nx (a_index (j := n) (gN rfl) rfl rfl rfl rfl rfl rfl rfl rfl rfl (hvi) rfl (hsz)) rfl ?_)
    (refine nx (a_load_ad (gN rfl) rfl rfl rfl rfl rfl rfl rfl rfl rfl) rfl ?_)
    (refine nx (a_sub (gN rfl) rfl rfl rfl rfl rfl rfl (by first | omega | (simp only [List.length_map, List.length_append, List.length_cons, List.length_nil] <;> omega) | (simp <;> omega))) rfl ?_)
    (refine nx (aM (gN rfl) rfl rfl rfl rfl rfl) rfl ?_)
    (refine nx (a_sub (gN rfl) rfl rfl rfl rfl rfl rfl (by first | omega | (simp only [List.length_map, List.length_append, List.length_cons, List.length_nil] <;> omega) | (simp <;> omega))) rfl ?_)
    (refine nx (a_build (gN rfl) rfl rfl rfl rfl rfl rfl rfl rfl rfl rfl rfl) rfl ?_)
    (refine nx (a_build (gN rfl) rfl rfl rfl rfl rfl rfl rfl rfl rfl rfl rfl) rfl ?_)
    (refine nx (a_bslice (gN rfl) rfl rfl rfl rfl rfl rfl rfl rfl rfl rfl rfl rfl rfl) rfl ?_)
    (refine nx (a_app (gN rfl) rfl rfl rfl rfl rfl rfl rfl rfl rfl rfl rfl rfl rfl rfl rfl (by first | assumption | exact sZ rfl | exact Tm.size_all _ | exact Bd.size_all _ | exact ints_size _ | exact bys_size _ | exact Lt.size_all _) (by first | assumption | exact sZ rfl | exact Tm.size_all _ | exact Bd.size_all _ | exact ints_size _ | exact bys_size _ | exact Lt.size_all _) (by first | omega | (simp only [List.length_map, List.length_append, List.length_cons, List.length_nil] <;> omega) | (simp <;> omega))) rfl ?_)
    (refine nx (aA (gN rfl) rfl rfl rfl rfl rfl) rfl ?_)
    refine ⟨by kernel_rfl, ?_⟩
    show AWp _ _ _ _ _ _ _
    refine aR ?_
    (refine nx (aM (gN rfl) rfl rfl rfl rfl rfl) rfl ?_)
    (refine nx (a_add (gN rfl) rfl rfl rfl rfl rfl rfl (by first | omega | (simp only [List.length_map, List.length_append, List.length_cons, List.length_nil] <;> omega) | (simp <;> omega))) rfl ?_)
    (refine nx (aA (gN rfl) rfl rfl rfl rfl rfl) rfl ?_)
    refine ⟨hkl, Wk.trans (wk_sub (s' := [(0, .val (.lst (c.map Lt.cv))), (1, .val (.i k)), (5, .val (.lst (l.map CV.i))), (6, .own (.lst ((z.take (n + 1)).map Bd.cv)) 300032), (300032, .tok 70 3), (7, .val (.i ((n + 1 : Nat) : Int)))]) ⟨rfl, rfl, rfl, ?_, rfl, rfl, trivial⟩) (wk_ren 300032 200032 rfl rfl rfl rfl)⟩
    rw [List.take_add_one, hzk, List.map_append]
    show some (AV.own (.lst (_ ++ [CV.row [.i v, .row [.i (-1 - v - k), .lst []]]])) _) = some (AV.own (.lst (_ ++ [CV.row [.i v, .row [.i (-1 - (v + k)), .lst []]]])) _)
    rw [show -1 - v - k = -1 - (v + k) by omega]
  · have hkl : n = z.length := by
      simp only [List.length_map, decide_eq_false_iff_not] at hc
      omega
    subst hkl
    rw [List.take_length]
    show AWp _ _ _ _ _ _ _
    refine aS (aR ?_)
    (refine nx (aM (gN rfl) rfl rfl rfl rfl rfl) rfl ?_)
    (refine nx (aM (gN rfl) rfl rfl rfl rfl rfl) rfl ?_)
    (refine nx (a_call (gN rfl) rfl rfl rfl rfl rfl (hap w)) rfl ?_)
    (refine nx (aA (gN rfl) rfl rfl rfl rfl rfl) rfl ?_)
    show AWp _ _ _ _ _ _ _
    exact aT (And.intro (.inr rfl) rfl)
def topD (l : List Int) : Int := l.foldl max (-1)
-- 
set_option maxHeartbeats 1000000 in
theorem refTop_abs (W : World) (c : List Lt) (h : okCl c) : AFun Tryz.prog W 19 [.lst (c.map Lt.cv)] (.val (.i (topD (sidT c).nv))) := by
  obtain ⟨hr, hok, hsi⟩ := whl_rng h
  have hV := fun w => refVars_abs w (whlT c) hr hok (by omega)
  rw [nv_vars, whl_nv] at hV
  have hnl := h.nv
  have hlen := h.1
  obtain ⟨l, hl⟩ : ∃ l, l = (sidT c).nv := ⟨_, rfl⟩
  rw [← hl] at hV hnl ⊢
  have hsz := ints_size l
  refine afun_of (rs := [.i (topD l)]) Tryz.func19 Tryz.ntmps19 rfl rfl rfl rfl ?_
  intro w U hW
  refine aS (aR ?_)
  (refine nx (aA (gN rfl) rfl rfl rfl rfl rfl) rfl ?_)
  show AWp _ _ _ _ _ _ _
  refine aS (aR ?_)
  (refine nx (aM (gN rfl) rfl rfl rfl rfl rfl) rfl ?_)
  (refine nx (a_call (gN rfl) rfl rfl rfl rfl rfl (whole_abs w c (by omega))) rfl ?_)
  (refine nx (a_call (gN rfl) rfl rfl rfl rfl rfl (hV w)) rfl ?_)
  (refine nx (aA (gN rfl) rfl rfl rfl rfl rfl) rfl ?_)
  show AWp _ _ _ _ _ _ _
  refine aS (aR ?_)
  (refine nx (aA (gN rfl) rfl rfl rfl rfl rfl) rfl ?_)
  show AWp _ _ _ _ _ _ _
  refine aS (aS (aR ?_))
  (refine nx (aA (gN rfl) rfl rfl rfl rfl rfl) rfl ?_)
  show AWp _ _ _ _ _ _ _
  refine aB (awp_count l.length (fun n => [(3, .val (.lst (l.map CV.i))), (4, .val (.i (topD (l.take n)))), (5, .val (.i n))]) (wk_sub ⟨rfl, rfl, rfl, trivial⟩) ?_)
  intro n hn
  refine aS (aS (aR ?_))
  (refine nx (aM (gN rfl) rfl rfl rfl rfl rfl) rfl ?_)
  (refine nx (aM (gN rfl) rfl rfl rfl rfl rfl) rfl ?_)
  (refine nx (a_len (gN rfl) rfl rfl rfl rfl rfl rfl rfl) rfl ?_)
  (refine nx (a_lss (gN rfl) rfl rfl rfl rfl rfl rfl) rfl ?_)
  show AWp _ _ _ _ _ _ _
  refine aC rfl (fun hc => aK ?_) (fun hc => aE ?_)
  · have hkl : n < l.length := by
      simp only [List.length_map, decide_eq_true_eq] at hc
      omega
    clear hc
    obtain ⟨v, hv'⟩ : ∃ v, l[n]? = some v := ⟨l[n], List.getElem?_eq_getElem hkl⟩
    have hvi := ints_at hv'
    have hst : topD (l.take (n + 1)) = max (topD (l.take n)) v := by
      unfold topD
      rw [List.take_add_one, hv', List.foldl_append]
      rfl
    show AWp _ _ _ _ _ _ _
    refine aS (aB (aS (aR ?_)))
    (refine nx (aM (gN rfl) rfl rfl rfl rfl rfl) rfl ?_)
    (refine nx (aM (gN rfl) rfl rfl rfl rfl rfl) rfl ?_)
    (refine nx (a_index (j := n) (gN rfl) rfl rfl rfl rfl rfl rfl rfl rfl rfl (hvi) rfl (hsz)) rfl ?_)
    (refine nx (a_load_ad (gN rfl) rfl rfl rfl rfl rfl rfl rfl rfl rfl) rfl ?_)
    (refine nx (aM (gN rfl) rfl rfl rfl rfl rfl) rfl ?_)
    (refine nx (a_gtr (gN rfl) rfl rfl rfl rfl rfl rfl) rfl ?_)
    show AWp _ _ _ _ _ _ _
    refine aC rfl (fun hc => ?_) (fun hc => aK ?_)
    · have hc := of_decide_eq_true hc
      refine aR ?_
      (refine nx (aM (gN rfl) rfl rfl rfl rfl rfl) rfl ?_)
      (refine nx (aM (gN rfl) rfl rfl rfl rfl rfl) rfl ?_)
      (refine nx (a_index (j := n) (gN rfl) rfl rfl rfl rfl rfl rfl rfl rfl rfl (hvi) rfl (hsz)) rfl ?_)
      (refine nx (a_load_ad (gN rfl) rfl rfl rfl rfl rfl rfl rfl rfl rfl) rfl ?_)
      (refine nx (aA (gN rfl) rfl rfl rfl rfl rfl) rfl ?_)
      show AWp _ _ _ _ _ _ _
      refine aR ?_
      (refine nx (aM (gN rfl) rfl rfl rfl rfl rfl) rfl ?_)
      (refine nx (a_add (gN rfl) rfl rfl rfl rfl rfl rfl (by first | omega | (simp only [List.length_map, List.length_append, List.length_cons, List.length_nil] <;> omega) | (simp <;> omega))) rfl ?_)
      (refine nx (aA (gN rfl) rfl rfl rfl rfl rfl) rfl ?_)
      exact ⟨hkl, wk_sub ⟨rfl, by rw [hst, show max (topD (l.take n)) v = v by omega]; rfl, rfl, trivial⟩⟩
    · have hc := of_decide_eq_false hc
      show AWp _ _ _ _ _ _ _
      refine aR ?_
      (refine nx (aM (gN rfl) rfl rfl rfl rfl rfl) rfl ?_)
      (refine nx (a_add (gN rfl) rfl rfl rfl rfl rfl rfl (by first | omega | (simp only [List.length_map, List.length_append, List.length_cons, List.length_nil] <;> omega) | (simp <;> omega))) rfl ?_)
      (refine nx (aA (gN rfl) rfl rfl rfl rfl rfl) rfl ?_)
      exact ⟨hkl, wk_sub ⟨rfl, by rw [hst, show max (topD (l.take n)) v = topD (l.take n) by omega]; rfl, rfl, trivial⟩⟩
  · have hkl : n = l.length := by
      simp only [List.length_map, decide_eq_false_iff_not] at hc
      omega
    subst hkl
    rw [List.take_length]
    show AWp _ _ _ _ _ _ _
    refine aS (aR ?_)
    (refine nx (aM (gN rfl) rfl rfl rfl rfl rfl) rfl ?_)
    (refine nx (aA (gN rfl) rfl rfl rfl rfl rfl) rfl ?_)
    show AWp _ _ _ _ _ _ _
    exact aT (And.intro (.inr rfl) rfl)
theorem rtL_ok {l : Lt} (h : okL l) : okL (rtL l) := by
  rcases rtL_or l with e | e <;> rw [e]
  · exact h
  · exact ⟨h.2, h.1⟩
-- 
set_option maxHeartbeats 8000000 in
theorem refNorm_abs (W : World) (c : List Lt) (h : okCl c) : AFun Tryz.prog W 16 [.lst (c.map Lt.cv)] (.val (.lst ((nmD c).map Lt.cv))) := by
  have hlen := h.1
  have hsz := Lt.size_all c
  obtain ⟨I, hI⟩ : ∃ I, I = inD c := ⟨_, rfl⟩
  have hIo : okCl I := by rw [hI]; exact h.inD
  have hIl := hIo.1
  obtain ⟨hr, hok, hsi⟩ := whl_rng hIo
  have hV := fun w => refVars_abs w (whlT I) hr hok (by omega)
  rw [nv_vars, whl_nv] at hV
  have hnl := hIo.nv
  obtain ⟨l, hl⟩ : ∃ l, l = (sidT I).nv := ⟨_, rfl⟩
  obtain ⟨z, hz⟩ : ∃ z, z = numB I := ⟨_, rfl⟩
  unfold numB at hz
  rw [← hl] at hV hnl hz
  have hzl : z.length = l.length := by rw [hz]; exact zip_len (nums_len _).symm
  have hszl := ints_size l
  have hzz := fun k => Bd.size_all (z.take k)
  have hap := fun w => refAppC_abs w z I (by omega) (by omega) (fun l hl => ⟨⟨(hIo.2 l hl).1.1, (hIo.2 l hl).1.2.1⟩, (hIo.2 l hl).2.1, (hIo.2 l hl).2.2.1⟩)
  obtain ⟨M, hM⟩ : ∃ M, M = I.map (appL z) := ⟨_, rfl⟩
  rw [← hM] at hap
  have hMl : M.length = I.length := by rw [hM, List.length_map]
  have hszM := Lt.size_all M
  have hMo : ∀ l ∈ M, l.a.ok ∧ l.b.ok := fun l hl => by
    rw [hM] at hl
    obtain ⟨x, hx, rfl⟩ := List.mem_map.1 hl
    have hzo : ∀ b ∈ z, b.t.ok := by rw [hz]; exact zip_ok
    exact ⟨appR_ok (hIo.2 x hx).1.2.1 hzo, appR_ok (hIo.2 x hx).2.2.1 hzo⟩
  have hnm : nmD c = dedD sameL M := by
    unfold nmD
    rw [← hI, hM, hz, hl]
    rfl
  rw [hnm]
  refine afun_of (rs := [.lst ((dedD sameL M).map Lt.cv)]) Tryz.func16 Tryz.ntmps16 rfl rfl rfl rfl ?_
  intro w U hW
  refine aS (aR ?_)
  (refine nx (aA (gN rfl) rfl rfl rfl rfl rfl) rfl ?_)
  show AWp _ _ _ _ _ _ _
  refine aS (aR ?_)
  (refine nx (aA (gN rfl) rfl rfl rfl rfl rfl) rfl ?_)
  show AWp _ _ _ _ _ _ _
  refine aS (aS (aR ?_))
  (refine nx (aA (gN rfl) rfl rfl rfl rfl rfl) rfl ?_)
  show AWp _ _ _ _ _ _ _
  refine aB (awp_count c.length (fun k => [(0, .val (.lst (c.map Lt.cv))), (3, .val (.lst ((srtD befL ((c.take k).map rtL)).map Lt.cv))), (4, .val (.i k))]) ((wk_plain 3 rfl).trans (wk_sub ⟨rfl, rfl, rfl, trivial⟩)) ?_)
  intro k hk
  refine aS (aS (aR ?_))
  (refine nx (aM (gN rfl) rfl rfl rfl rfl rfl) rfl ?_)
  (refine nx (aM (gN rfl) rfl rfl rfl rfl rfl) rfl ?_)
  (refine nx (a_len (gN rfl) rfl rfl rfl rfl rfl rfl rfl) rfl ?_)
  (refine nx (a_lss (gN rfl) rfl rfl rfl rfl rfl rfl) rfl ?_)
  show AWp _ _ _ _ _ _ _
  refine aC rfl (fun hlt => ?_) (fun hlt => ?_)
  · have hkl : k < c.length := by simpa using hlt
    obtain ⟨x0, hx0⟩ : ∃ x, c[k]? = some x := ⟨c[k], List.getElem?_eq_getElem hkl⟩
    have hx' := Lt.map_at hx0
    have hxo : okL x0 := h.2 x0 (List.mem_of_getElem? hx0)
    obtain ⟨x, hx⟩ : ∃ x, x = rtL x0 := ⟨_, rfl⟩
    have hri := right_abs w x0 hxo
    rw [← hx] at hri
    have hxo2 : okL x := by rw [hx]; exact rtL_ok hxo
    obtain ⟨L, hL⟩ : ∃ L, L = srtD befL ((c.take k).map rtL) := ⟨_, rfl⟩
    have hLl : L.length ≤ 12 := by rw [hL, (srtD_perm _ _).length_eq, List.length_map, List.length_take]; omega
    have hLm : (L.map Lt.cv).length = L.length := List.length_map ..
    have hszL := Lt.size_all L
    have hLo : ∀ y ∈ L, okL y := fun y hy => by
      rw [hL] at hy
      obtain ⟨u, hu, rfl⟩ := List.mem_map.1 ((srtD_perm _ _).mem_iff.1 hy)
      exact rtL_ok (h.2 u (List.mem_of_mem_take hu))
    have hnx : srtD befL ((c.take (k + 1)).map rtL) = insD befL L x := by
      rw [List.take_add_one, hx0, Option.toList_some, List.map_append, List.map_singleton, srtD_snoc, ← hL, ← hx]
    rw [← hL]
    refine aK ?_
    show AWp _ _ _ _ _ _ _
    refine aS (aB (aS (aR ?_)))
    (refine nx (aM (gN rfl) rfl rfl rfl rfl rfl) rfl ?_)
    (refine nx (aM (gN rfl) rfl rfl rfl rfl rfl) rfl ?_)
    (refine nx (a_index (j := k) (gN rfl) rfl rfl rfl rfl rfl rfl rfl rfl rfl (hx') rfl (hsz)) rfl ?_)
    (refine nx (a_load_ad (gN rfl) rfl rfl rfl rfl rfl rfl rfl rfl rfl) rfl ?_)
    (refine nx (a_call (gN rfl) rfl rfl rfl rfl rfl (hri)) rfl ?_)
    (refine nx (a_alloc (gN rfl) rfl rfl rfl rfl rfl rfl rfl rfl rfl rfl) rfl ?_)
    (refine nx (aSt (gN rfl) rfl rfl rfl rfl rfl rfl rfl rfl rfl rfl) rfl ?_)
    show AWp _ _ _ _ _ _ _
    refine aS (aR ?_)
    (refine nx (aM (gN rfl) rfl rfl rfl rfl rfl) rfl ?_)
    (refine nx (a_len (gN rfl) rfl rfl rfl rfl rfl rfl rfl) rfl ?_)
    (refine nx (aA (gN rfl) rfl rfl rfl rfl rfl) rfl ?_)
    show AWp _ _ _ _ _ _ _
    obtain ⟨K, hK⟩ : ∃ K, K = kDn (befL x) L L.length := ⟨_, rfl⟩
    have hKl : K ≤ L.length := by rw [hK]; exact kDn_le _ _ _
    let st : Nat → AS := fun j => [(0, .val (.lst (c.map Lt.cv))), (3, .val (.lst (L.map Lt.cv))), (4, .val (.i k)), (5, .bp 5 0 []), (100005, .bx x.cw), (6, .val (.i j))]
    refine awp_mid (st K) (aB (awp_loop (fun m s => ∃ j, m = j ∧ j ≤ L.length ∧ kDn (befL x) L j = K ∧ s = st j) (n := L.length) (s' := st L.length) (wk_sub ⟨rfl, rfl, rfl, rfl, rfl, by rw [← hLm]; rfl, trivial⟩) ⟨L.length, rfl, Nat.le_refl _, hK.symm, rfl⟩ ?_)) ?_
    · rintro m s ⟨j, rfl, hj, hJ, rfl⟩
      cases m with
      | zero =>
        have hK0 : K = 0 := by rw [← hJ]; rfl
        refine aS (aS (aD (by kernel_rfl) (by kernel_rfl) ?_))
        (refine nx (aM (gN rfl) rfl rfl rfl rfl rfl) rfl ?_)
        (refine nx (a_gtr (gN rfl) rfl rfl rfl rfl rfl rfl) rfl ?_)
        (refine nx (aM (gN rfl) rfl rfl rfl rfl rfl) rfl ?_)
        (refine ⟨_, _, _, a_off (go_off rfl rfl rfl rfl (by first | rfl | assumption | (simp; done) | (simp [*]; done))) rfl rfl rfl, rfl, ?_⟩)
        (refine ⟨_, _, _, a_off (go_off rfl rfl rfl rfl (by first | rfl | assumption | (simp; done) | (simp [*]; done))) rfl rfl rfl, rfl, ?_⟩)
        (refine ⟨_, _, _, a_off (go_off rfl rfl rfl rfl (by first | rfl | assumption | (simp; done) | (simp [*]; done))) rfl rfl rfl, rfl, ?_⟩)
        (refine ⟨_, _, _, a_off (go_off rfl rfl rfl rfl (by first | rfl | assumption | (simp; done) | (simp [*]; done))) rfl rfl rfl, rfl, ?_⟩)
        (refine ⟨_, _, _, a_off (go_off rfl rfl rfl rfl (by first | rfl | assumption | (simp; done) | (simp [*]; done))) rfl rfl rfl, rfl, ?_⟩)
        (refine ⟨_, _, _, a_off (go_off rfl rfl rfl rfl (by first | rfl | assumption | (simp; done) | (simp [*]; done))) rfl rfl rfl, rfl, ?_⟩)
        (refine ⟨_, _, _, a_off (go_off rfl rfl rfl rfl (by first | rfl | assumption | (simp; done) | (simp [*]; done))) rfl rfl rfl, rfl, ?_⟩)
        (refine ⟨_, _, _, aPf (gN rfl) rfl rfl rfl rfl rfl ?hb rfl, rfl, ?_⟩; case hb => (first | rfl | assumption | (simp; done)))
        refine ⟨by kernel_rfl, ?_⟩
        show AWp _ _ _ _ _ _ _
        refine aC rfl (fun hc => by cases hc) (fun hc => aE ?_)
        exact wk_sub ⟨rfl, rfl, rfl, rfl, rfl, by rw [hK0]; rfl, trivial⟩
      | succ j =>
        obtain ⟨y, hy⟩ : ∃ y, L[j]? = some y := ⟨L[j], List.getElem?_eq_getElem (by omega)⟩
        have hy' := Lt.map_at hy
        have g0 : decide (((j + 1 : Nat) : Int) > 0) = true := by rw [decide_eq_true_eq]; omega
        refine aS (aS (aD (by kernel_rfl) (by kernel_rfl) ?_))
        (refine nx (aM (gN rfl) rfl rfl rfl rfl rfl) rfl ?_)
        (refine nx (a_gtr (gN rfl) rfl rfl rfl rfl rfl rfl) rfl ?_)
        (refine nx (aM (gN rfl) rfl rfl rfl rfl rfl) rfl ?_)
        (refine nx (aL (gd_on rfl rfl rfl rfl (by first | rfl | assumption | (simp; done))) rfl rfl rfl rfl rfl rfl rfl rfl rfl rfl rfl rfl) rfl ?_)
        (refine nx (aM (gd_on rfl rfl rfl rfl (by first | rfl | assumption | (simp; done))) rfl rfl rfl rfl rfl) rfl ?_)
        (refine nx (aM (gd_on rfl rfl rfl rfl (by first | rfl | assumption | (simp; done))) rfl rfl rfl rfl rfl) rfl ?_)
        (refine nx (a_sub (gd_on rfl rfl rfl rfl (by first | rfl | assumption | (simp; done))) rfl rfl rfl rfl rfl rfl (by first | omega | (simp only [List.length_map, List.length_append, List.length_cons, List.length_nil] <;> omega) | (simp <;> omega))) rfl ?_)
        (refine nx (a_index (j := j) (gd_on rfl rfl rfl rfl (by first | rfl | assumption | (simp; done))) rfl rfl rfl rfl rfl rfl rfl rfl (by first | assumption | exact (by first | rfl | omega | (simp only [List.length_set, List.length_map, List.length_append, List.length_cons, List.length_nil] <;> omega) | (simp <;> omega))) (hy') rfl (hszL)) rfl ?_)
        (refine nx (a_load_ad (gd_on rfl rfl rfl rfl (by first | rfl | assumption | (simp; done))) rfl rfl rfl rfl rfl rfl rfl rfl rfl) rfl ?_)
        (refine nx (a_call (gd_on rfl rfl rfl rfl (by first | rfl | assumption | (simp; done))) rfl rfl rfl rfl rfl (before_abs w x y hxo2 (hLo y (List.mem_of_getElem? hy)))) rfl ?_)
        (refine ⟨_, _, _, aPt (gN rfl) rfl rfl rfl rfl rfl ?hb rfl, rfl, ?_⟩; case hb => (first | rfl | assumption | (simp; done)))
        refine ⟨by kernel_rfl, ?_⟩
        show AWp _ _ _ _ _ _ _
        refine aC rfl (fun hc => ?_) (fun hc => aE ?_)
        · have hc : befL x y = true := hc
          refine aK ?_
          show AWp _ _ _ _ _ _ _
          refine aB (aR ?_)
          (refine nx (aM (gN rfl) rfl rfl rfl rfl rfl) rfl ?_)
          (refine nx (a_sub (gN rfl) rfl rfl rfl rfl rfl rfl (by first | omega | (simp only [List.length_map, List.length_append, List.length_cons, List.length_nil] <;> omega) | (simp <;> omega))) rfl ?_)
          (refine nx (aA (gN rfl) rfl rfl rfl rfl rfl) rfl ?_)
          refine ⟨j, st j, by omega, ⟨j, rfl, by omega, ?_, rfl⟩, wk_sub ⟨rfl, rfl, rfl, rfl, rfl, ?_, trivial⟩⟩
          · rw [← hJ]
            conv => rhs; unfold kDn
            rw [hy]
            simp only [hc, if_true]
          · show some (AV.val (.i _)) = some (AV.val (.i _))
            congr 3; omega
        · have hc : befL x y = false := hc
          have hKj : K = j + 1 := by
            rw [← hJ]
            unfold kDn
            rw [hy]
            simp [hc]
          exact wk_sub ⟨rfl, rfl, rfl, rfl, rfl, by rw [hKj]; rfl, trivial⟩
    have hins : (insD befL L x).map Lt.cv = (L.map Lt.cv).take K ++ [x.cw] ++ (L.map Lt.cv).drop K := by
      unfold insD
      rw [← hK, List.map_append, List.map_cons, List.map_take, List.map_drop]
      simp
      rfl
    have hKm : K ≤ (L.map Lt.cv).length := by omega
    have hs1 : ∀ y ∈ (L.map Lt.cv).take K, y.size = 5 := fun y hy => hszL y (List.mem_of_mem_take hy)
    have hs2 : ∀ y ∈ (L.map Lt.cv).drop K, y.size = 5 := fun y hy => hszL y (List.mem_of_mem_drop hy)
    have hs3 : ∀ y ∈ (L.map Lt.cv).take K ++ [x.cw], y.size = 5 := fun y hy => by
      rcases List.mem_append.1 hy with hy | hy
      · exact hs1 y hy
      · rw [List.mem_singleton.1 hy]; rfl
    have hb1 : ((L.map Lt.cv).take K).length ≤ 12 := by rw [List.length_take]; omega
    have hb2 : ((L.map Lt.cv).drop K).length ≤ 12 := by rw [List.length_drop]; omega
    show AWp _ _ _ _ _ _ _
    refine aS (aR ?_)
    (refine nx (a_bslice0 (gN rfl) rfl rfl rfl rfl rfl rfl rfl rfl) rfl ?_)
    (refine nx (aM (gN rfl) rfl rfl rfl rfl rfl) rfl ?_)
    (refine nx (aM (gN rfl) rfl rfl rfl rfl rfl) rfl ?_)
    (refine nx (a_upto (gN rfl) rfl rfl rfl rfl rfl rfl rfl rfl rfl (by omega) (by first | assumption | exact sZ rfl | exact Tm.size_all _ | exact Bd.size_all _ | exact ints_size _ | exact bys_size _ | exact Lt.size_all _)) rfl ?_)
    (refine nx (a_app (gN rfl) rfl rfl rfl rfl rfl rfl rfl rfl rfl rfl rfl rfl rfl rfl rfl (by first | assumption | exact sZ rfl | exact Tm.size_all _ | exact Bd.size_all _ | exact ints_size _ | exact bys_size _ | exact Lt.size_all _) (by first | assumption | exact sZ rfl | exact Tm.size_all _ | exact Bd.size_all _ | exact ints_size _ | exact bys_size _ | exact Lt.size_all _) (by first | omega | (simp only [List.length_map, List.length_append, List.length_cons, List.length_nil] <;> omega) | (simp <;> omega))) rfl ?_)
    (refine nx (aA (gN rfl) rfl rfl rfl rfl rfl) rfl ?_)
    show AWp _ _ _ _ _ _ _
    refine aS (aR ?_)
    (refine nx (aM (gN rfl) rfl rfl rfl rfl rfl) rfl ?_)
    (refine nx (aL (gN rfl) rfl rfl rfl rfl rfl rfl rfl rfl rfl rfl rfl rfl) rfl ?_)
    (refine nx (a_bslice (gN rfl) rfl rfl rfl rfl rfl rfl rfl rfl rfl rfl rfl rfl rfl) rfl ?_)
    (refine nx (a_app (gN rfl) rfl rfl rfl rfl rfl rfl rfl rfl rfl rfl rfl rfl rfl rfl rfl (by first | assumption | exact sZ rfl | exact Tm.size_all _ | exact Bd.size_all _ | exact ints_size _ | exact bys_size _ | exact Lt.size_all _) (by first | assumption | exact sZ rfl | exact Tm.size_all _ | exact Bd.size_all _ | exact ints_size _ | exact bys_size _ | exact Lt.size_all _) (by first | omega | (simp only [List.length_map, List.length_append, List.length_cons, List.length_nil] <;> omega) | (simp <;> omega))) rfl ?_)
    (refine nx (aA (gN rfl) rfl rfl rfl rfl rfl) rfl ?_)
    show AWp _ _ _ _ _ _ _
    refine aR ?_
    (refine nx (aM (gN rfl) rfl rfl rfl rfl rfl) rfl ?_)
    (refine nx (aM (gN rfl) rfl rfl rfl rfl rfl) rfl ?_)
    (refine nx (aM (gN rfl) rfl rfl rfl rfl rfl) rfl ?_)
    (refine nx (a_from (gN rfl) rfl rfl rfl rfl rfl rfl rfl rfl rfl (by omega) (by first | assumption | exact sZ rfl | exact Tm.size_all _ | exact Bd.size_all _ | exact ints_size _ | exact bys_size _ | exact Lt.size_all _)) rfl ?_)
    (refine nx (a_app (gN rfl) rfl rfl rfl rfl rfl rfl rfl rfl rfl rfl rfl rfl rfl rfl rfl (by first | assumption | exact sZ rfl | exact Tm.size_all _ | exact Bd.size_all _ | exact ints_size _ | exact bys_size _ | exact Lt.size_all _) (by first | assumption | exact sZ rfl | exact Tm.size_all _ | exact Bd.size_all _ | exact ints_size _ | exact bys_size _ | exact Lt.size_all _) (by first | omega | (simp only [List.length_map, List.length_append, List.length_cons, List.length_nil] <;> omega) | (simp <;> omega))) rfl ?_)
    (refine nx (aA (gN rfl) rfl rfl rfl rfl rfl) rfl ?_)
    show AWp _ _ _ _ _ _ _
    refine aR ?_
    (refine nx (aM (gN rfl) rfl rfl rfl rfl rfl) rfl ?_)
    (refine nx (a_add (gN rfl) rfl rfl rfl rfl rfl rfl (by first | omega | (simp only [List.length_map, List.length_append, List.length_cons, List.length_nil] <;> omega) | (simp <;> omega))) rfl ?_)
    (refine nx (aA (gN rfl) rfl rfl rfl rfl rfl) rfl ?_)
    refine ⟨hkl, (wk_plain 3 rfl).trans (wk_sub ⟨rfl, ?_, rfl, trivial⟩)⟩
    rw [hnx, hins]
    rfl
  · have hkl : k = c.length := by
      have : ¬ k < c.length := by simpa using hlt
      omega
    subst hkl
    rw [List.take_length, show srtD befL (c.map rtL) = I from hI.symm]
    refine aE ?_
    show AWp _ _ _ _ _ _ _
    refine aS (aR ?_)
    (refine nx (aM (gN rfl) rfl rfl rfl rfl rfl) rfl ?_)
    (refine nx (a_call (gN rfl) rfl rfl rfl rfl rfl (whole_abs w I (by omega))) rfl ?_)
    (refine nx (a_call (gN rfl) rfl rfl rfl rfl rfl (hV w)) rfl ?_)
    (refine nx (aA (gN rfl) rfl rfl rfl rfl rfl) rfl ?_)
    show AWp _ _ _ _ _ _ _
    refine aS (aR ?_)
    (refine nx (aA (gN rfl) rfl rfl rfl rfl rfl) rfl ?_)
    show AWp _ _ _ _ _ _ _
    refine aS (aS (aR ?_))
    (refine nx (aA (gN rfl) rfl rfl rfl rfl rfl) rfl ?_)
    show AWp _ _ _ _ _ _ _
    refine aB (awp_count l.length (fun n => [(3, .val (.lst (I.map Lt.cv))), (8, .val (.lst (l.map CV.i))), (9, .own (.lst ((z.take n).map Bd.cv)) 200074), (200074, .tok 70 3), (10, .val (.i n))])
      ((wk_nil 9 200074 70 3 rfl rfl rfl rfl rfl rfl rfl).trans (wk_sub ⟨rfl, rfl, rfl, rfl, rfl, trivial⟩)) ?_)
    intro n hn
    refine aS (aS (aR ?_))
    (refine nx (aM (gN rfl) rfl rfl rfl rfl rfl) rfl ?_)
    (refine nx (aM (gN rfl) rfl rfl rfl rfl rfl) rfl ?_)
    (refine nx (a_len (gN rfl) rfl rfl rfl rfl rfl rfl rfl) rfl ?_)
    (refine nx (a_lss (gN rfl) rfl rfl rfl rfl rfl rfl) rfl ?_)
    show AWp _ _ _ _ _ _ _
    refine aC rfl (fun hc => aK ?_) (fun hc => aE ?_)
    · have hkl : n < l.length := by
        simp only [List.length_map, decide_eq_true_eq] at hc
        omega
      clear hc
      obtain ⟨v, hv'⟩ : ∃ v, l[n]? = some v := ⟨l[n], List.getElem?_eq_getElem hkl⟩
      have hvi := ints_at hv'
      have hzk : z[n]? = some ⟨v, varT (n : Int)⟩ := by rw [hz]; exact zip_at hv' (nums_at hkl)
      have hln : ((z.take n).map Bd.cv).length ≤ 1000000 := by rw [List.length_map, List.length_take]; omega
      show AWp _ _ _ _ _ _ _
      refine aS (aB (aR ?_))
      (refine nx (aM (gN rfl) rfl rfl rfl rfl rfl) rfl ?_)
      (refine nx (aM (gN rfl) rfl rfl rfl rfl rfl) rfl ?_)
      (refine nx (aM (gN rfl) rfl rfl rfl rfl rfl) rfl ?_)
      (refine nx (a_index (j := n) (gN rfl) rfl rfl rfl rfl rfl rfl rfl rfl rfl (hvi) rfl (hszl)) rfl ?_)
      (refine nx (a_load_ad (gN rfl) rfl rfl rfl rfl rfl rfl rfl rfl rfl) rfl ?_)
      (refine nx (aM (gN rfl) rfl rfl rfl rfl rfl) rfl ?_)
      (refine nx (a_sub (gN rfl) rfl rfl rfl rfl rfl rfl (by first | omega | (simp only [List.length_map, List.length_append, List.length_cons, List.length_nil] <;> omega) | (simp <;> omega))) rfl ?_)
      (refine nx (a_build (gN rfl) rfl rfl rfl rfl rfl rfl rfl rfl rfl rfl rfl) rfl ?_)
      (refine nx (a_build (gN rfl) rfl rfl rfl rfl rfl rfl rfl rfl rfl rfl rfl) rfl ?_)
      (refine nx (a_bslice (gN rfl) rfl rfl rfl rfl rfl rfl rfl rfl rfl rfl rfl rfl rfl) rfl ?_)
      (refine nx (a_app (gN rfl) rfl rfl rfl rfl rfl rfl rfl rfl rfl rfl rfl rfl rfl rfl rfl (by first | assumption | exact sZ rfl | exact Tm.size_all _ | exact Bd.size_all _ | exact ints_size _ | exact bys_size _ | exact Lt.size_all _) (by first | assumption | exact sZ rfl | exact Tm.size_all _ | exact Bd.size_all _ | exact ints_size _ | exact bys_size _ | exact Lt.size_all _) (by first | omega | (simp only [List.length_map, List.length_append, List.length_cons, List.length_nil] <;> omega) | (simp <;> omega))) rfl ?_)
      (refine nx (aA (gN rfl) rfl rfl rfl rfl rfl) rfl ?_)
      show AWp _ _ _ _ _ _ _
      refine aR ?_
      (refine nx (aM (gN rfl) rfl rfl rfl rfl rfl) rfl ?_)
      (refine nx (a_add (gN rfl) rfl rfl rfl rfl rfl rfl (by first | omega | (simp only [List.length_map, List.length_append, List.length_cons, List.length_nil] <;> omega) | (simp <;> omega))) rfl ?_)
      (refine nx (aA (gN rfl) rfl rfl rfl rfl rfl) rfl ?_)
      refine ⟨hkl, Wk.trans (wk_sub (s' := [(3, .val (.lst (I.map Lt.cv))), (8, .val (.lst (l.map CV.i))), (9, .own (.lst ((z.take (n + 1)).map Bd.cv)) 300074), (300074, .tok 70 3), (10, .val (.i ((n + 1 : Nat) : Int)))]) ⟨rfl, rfl, ?_, rfl, rfl, trivial⟩) (wk_ren 300074 200074 rfl rfl rfl rfl)⟩
      rw [List.take_add_one, hzk, List.map_append]
      rfl
    · have hkl : n = z.length := by
        simp only [List.length_map, decide_eq_false_iff_not] at hc
        omega
      subst hkl
      rw [List.take_length]
      show AWp _ _ _ _ _ _ _
      refine aS (aR ?_)
      (refine nx (aM (gN rfl) rfl rfl rfl rfl rfl) rfl ?_)
      (refine nx (aM (gN rfl) rfl rfl rfl rfl rfl) rfl ?_)
      (refine nx (a_call (gN rfl) rfl rfl rfl rfl rfl (hap w)) rfl ?_)
      (refine nx (aA (gN rfl) rfl rfl rfl rfl rfl) rfl ?_)
      show AWp _ _ _ _ _ _ _
      refine aS (aR ?_)
      (refine nx (aA (gN rfl) rfl rfl rfl rfl rfl) rfl ?_)
      show AWp _ _ _ _ _ _ _
      refine aS (aS (aR ?_))
      (refine nx (aA (gN rfl) rfl rfl rfl rfl rfl) rfl ?_)
      show AWp _ _ _ _ _ _ _
      refine aB (awp_count M.length (fun n => [(3, .val (.lst (M.map Lt.cv))), (11, .own (.lst ((dedD sameL (M.take n)).map Lt.cv)) 200110), (200110, .tok 35 5), (12, .val (.i n))])
        ((wk_nil 11 200110 35 5 rfl rfl rfl rfl rfl rfl rfl).trans (wk_sub ⟨rfl, rfl, rfl, rfl, trivial⟩)) ?_)
      intro n hn
      refine aS (aS (aR ?_))
      (refine nx (aM (gN rfl) rfl rfl rfl rfl rfl) rfl ?_)
      (refine nx (aM (gN rfl) rfl rfl rfl rfl rfl) rfl ?_)
      (refine nx (a_len (gN rfl) rfl rfl rfl rfl rfl rfl rfl) rfl ?_)
      (refine nx (a_lss (gN rfl) rfl rfl rfl rfl rfl rfl) rfl ?_)
      show AWp _ _ _ _ _ _ _
      refine aC rfl (fun hc => aK ?_) (fun hc => aE ?_)
      · have hkl : n < M.length := by
          simp only [List.length_map, decide_eq_true_eq] at hc
          omega
        clear hc
        obtain ⟨x, hx⟩ : ∃ x, M[n]? = some x := ⟨M[n], List.getElem?_eq_getElem hkl⟩
        have hx' := Lt.map_at hx
        have hxo := hMo x (List.mem_of_getElem? hx)
        obtain ⟨D, hD⟩ : ∃ D, D = dedD sameL (M.take n) := ⟨_, rfl⟩
        have hDl : D.length ≤ 12 := by
          rw [hD]
          have := dedD_len (q := sameL) (M.take n)
          rw [List.length_take] at this
          omega
        have hDm : (D.map Lt.cv).length = D.length := List.length_map ..
        have hDo : ∀ y ∈ D, y.a.ok ∧ y.b.ok := fun y hy => by
          rw [hD] at hy
          exact hMo y (List.mem_of_mem_take (dedD_mem hy))
        have hszD := Lt.size_all D
        have hnx : dedD sameL (M.take (n + 1)) = if D.any (fun y => sameL y x) then D else D ++ [x] := by
          rw [List.take_add_one, hx, Option.toList_some, dedD_snoc, ← hD]
        rw [← hD]
        show AWp _ _ _ _ _ _ _
        refine aS (aB (aS (aR ?_)))
        (refine nx (aA (gN rfl) rfl rfl rfl rfl rfl) rfl ?_)
        show AWp _ _ _ _ _ _ _
        refine aS (aS (aR ?_))
        (refine nx (aA (gN rfl) rfl rfl rfl rfl rfl) rfl ?_)
        show AWp _ _ _ _ _ _ _
        refine aB (awp_count D.length (fun j => [(3, .val (.lst (M.map Lt.cv))), (11, .own (.lst (D.map Lt.cv)) 200110), (200110, .tok 35 5), (12, .val (.i n)), (13, .val (.b ((D.take j).any fun y => sameL y x))), (14, .val (.i j))]) (wk_sub ⟨rfl, rfl, rfl, rfl, rfl, rfl, trivial⟩) ?_)
        intro j hj
        refine aS (aS (aR ?_))
        (refine nx (aM (gN rfl) rfl rfl rfl rfl rfl) rfl ?_)
        (refine nx (aM (gN rfl) rfl rfl rfl rfl rfl) rfl ?_)
        (refine nx (a_len (gN rfl) rfl rfl rfl rfl rfl rfl rfl) rfl ?_)
        (refine nx (a_lss (gN rfl) rfl rfl rfl rfl rfl rfl) rfl ?_)
        show AWp _ _ _ _ _ _ _
        refine aC rfl (fun hc => aK ?_) (fun hc => aE ?_)
        · have hjl : j < D.length := by
            simp only [List.length_map, decide_eq_true_eq] at hc
            omega
          clear hc
          obtain ⟨y, hy⟩ : ∃ y, D[j]? = some y := ⟨D[j], List.getElem?_eq_getElem hjl⟩
          have hy' := Lt.map_at hy
          have hst : (D.take (j + 1)).any (fun y => sameL y x) = ((D.take j).any (fun y => sameL y x) || sameL y x) := by
            rw [List.take_add_one, hy, Option.toList_some, List.any_append]
            simp
          cases hkn : (D.take j).any (fun y => sameL y x) with
          | true =>
            show AWp _ _ _ _ _ _ _
            refine aS (aB (aD (by kernel_rfl) (by kernel_rfl) ?_))
            (refine nx (aM (gN rfl) rfl rfl rfl rfl rfl) rfl ?_)
            (refine nx (aM (gN rfl) rfl rfl rfl rfl rfl) rfl ?_)
            (refine ⟨_, _, _, a_off (go_off rfl rfl rfl rfl (by first | rfl | assumption | (simp; done) | (simp [*]; done))) rfl rfl rfl, rfl, ?_⟩)
            (refine ⟨_, _, _, a_off (go_off rfl rfl rfl rfl (by first | rfl | assumption | (simp; done) | (simp [*]; done))) rfl rfl rfl, rfl, ?_⟩)
            (refine ⟨_, _, _, a_off (go_off rfl rfl rfl rfl (by first | rfl | assumption | (simp; done) | (simp [*]; done))) rfl rfl rfl, rfl, ?_⟩)
            (refine ⟨_, _, _, a_off (go_off rfl rfl rfl rfl (by first | rfl | assumption | (simp; done) | (simp [*]; done))) rfl rfl rfl, rfl, ?_⟩)
            (refine ⟨_, _, _, a_off (go_off rfl rfl rfl rfl (by first | rfl | assumption | (simp; done) | (simp [*]; done))) rfl rfl rfl, rfl, ?_⟩)
            (refine ⟨_, _, _, a_off (go_off rfl rfl rfl rfl (by first | rfl | assumption | (simp; done) | (simp [*]; done))) rfl rfl rfl, rfl, ?_⟩)
            (refine ⟨_, _, _, a_off (go_off rfl rfl rfl rfl (by first | rfl | assumption | (simp; done) | (simp [*]; done))) rfl rfl rfl, rfl, ?_⟩)
            (refine ⟨_, _, _, a_off (go_off rfl rfl rfl rfl (by first | rfl | assumption | (simp; done) | (simp [*]; done))) rfl rfl rfl, rfl, ?_⟩)
            (refine ⟨_, _, _, a_off (go_off rfl rfl rfl rfl (by first | rfl | assumption | (simp; done) | (simp [*]; done))) rfl rfl rfl, rfl, ?_⟩)
            (refine ⟨_, _, _, aPt (gN rfl) rfl rfl rfl rfl rfl ?hb rfl, rfl, ?_⟩; case hb => (first | rfl | assumption | (simp; done)))
            (refine nx (aA (gN rfl) rfl rfl rfl rfl rfl) rfl ?_)
            refine ⟨by kernel_rfl, ?_⟩
            show AWp _ _ _ _ _ _ _
            refine aR ?_
            (refine nx (aM (gN rfl) rfl rfl rfl rfl rfl) rfl ?_)
            (refine nx (a_add (gN rfl) rfl rfl rfl rfl rfl rfl (by first | omega | (simp only [List.length_map, List.length_append, List.length_cons, List.length_nil] <;> omega) | (simp <;> omega))) rfl ?_)
            (refine nx (aA (gN rfl) rfl rfl rfl rfl rfl) rfl ?_)
            exact ⟨hjl, wk_sub ⟨rfl, rfl, rfl, rfl, by rw [hst, hkn]; rfl, rfl, trivial⟩⟩
          | false =>
            show AWp _ _ _ _ _ _ _
            refine aS (aB (aD (by kernel_rfl) (by kernel_rfl) ?_))
            (refine nx (aM (gN rfl) rfl rfl rfl rfl rfl) rfl ?_)
            (refine nx (aM (gN rfl) rfl rfl rfl rfl rfl) rfl ?_)
            (refine nx (aM (gd_on rfl rfl rfl rfl (by first | rfl | assumption | (simp; done))) rfl rfl rfl rfl rfl) rfl ?_)
            (refine nx (aM (gd_on rfl rfl rfl rfl (by first | rfl | assumption | (simp; done))) rfl rfl rfl rfl rfl) rfl ?_)
            (refine nx (a_index (j := j) (gd_on rfl rfl rfl rfl (by first | rfl | assumption | (simp; done))) rfl rfl rfl rfl rfl rfl rfl rfl rfl (hy') rfl (hszD)) rfl ?_)
            (refine nx (a_load_ad (gd_on rfl rfl rfl rfl (by first | rfl | assumption | (simp; done))) rfl rfl rfl rfl rfl rfl rfl rfl rfl) rfl ?_)
            (refine nx (aM (gd_on rfl rfl rfl rfl (by first | rfl | assumption | (simp; done))) rfl rfl rfl rfl rfl) rfl ?_)
            (refine nx (aM (gd_on rfl rfl rfl rfl (by first | rfl | assumption | (simp; done))) rfl rfl rfl rfl rfl) rfl ?_)
            (refine nx (a_index (j := n) (gd_on rfl rfl rfl rfl (by first | rfl | assumption | (simp; done))) rfl rfl rfl rfl rfl rfl rfl rfl rfl (hx') rfl (hszM)) rfl ?_)
            (refine nx (a_load_ad (gd_on rfl rfl rfl rfl (by first | rfl | assumption | (simp; done))) rfl rfl rfl rfl rfl rfl rfl rfl rfl) rfl ?_)
            (refine nx (a_call (gd_on rfl rfl rfl rfl (by first | rfl | assumption | (simp; done))) rfl rfl rfl rfl rfl (sameLit_abs w y x (hDo y (List.mem_of_getElem? hy)) hxo)) rfl ?_)
            (refine ⟨_, _, _, aPf (gN rfl) rfl rfl rfl rfl rfl ?hb rfl, rfl, ?_⟩; case hb => (first | rfl | assumption | (simp; done)))
            (refine nx (aA (gN rfl) rfl rfl rfl rfl rfl) rfl ?_)
            refine ⟨by kernel_rfl, ?_⟩
            show AWp _ _ _ _ _ _ _
            refine aR ?_
            (refine nx (aM (gN rfl) rfl rfl rfl rfl rfl) rfl ?_)
            (refine nx (a_add (gN rfl) rfl rfl rfl rfl rfl rfl (by first | omega | (simp only [List.length_map, List.length_append, List.length_cons, List.length_nil] <;> omega) | (simp <;> omega))) rfl ?_)
            (refine nx (aA (gN rfl) rfl rfl rfl rfl rfl) rfl ?_)
            exact ⟨hjl, wk_sub ⟨rfl, rfl, rfl, rfl, by rw [hst, hkn]; rfl, rfl, trivial⟩⟩
        · have hjl : j = D.length := by
            simp only [List.length_map, decide_eq_false_iff_not] at hc
            omega
          subst hjl
          rw [List.take_length]
          show AWp _ _ _ _ _ _ _
          refine aS (aR ?_)
          (refine nx (aM (gN rfl) rfl rfl rfl rfl rfl) rfl ?_)
          (refine nx (a_not (gN rfl) rfl rfl rfl rfl rfl) rfl ?_)
          show AWp _ _ _ _ _ _ _
          refine aC rfl (fun hc => ?_) (fun hc => aK ?_)
          · have hc : D.any (fun y => sameL y x) = false := by simpa using hc
            rw [hc] at hnx
            have hst4 : (dedD sameL (M.take (n + 1))).map Lt.cv = D.map Lt.cv ++ [x.cw] := by
              rw [hnx]
              simp only [Bool.false_eq_true, if_false, List.map_append]
              rfl
            refine aR ?_
            (refine nx (aM (gN rfl) rfl rfl rfl rfl rfl) rfl ?_)
            (refine nx (aM (gN rfl) rfl rfl rfl rfl rfl) rfl ?_)
            (refine nx (aM (gN rfl) rfl rfl rfl rfl rfl) rfl ?_)
            (refine nx (a_index (j := n) (gN rfl) rfl rfl rfl rfl rfl rfl rfl rfl rfl (hx') rfl (hszM)) rfl ?_)
            (refine nx (a_load_ad (gN rfl) rfl rfl rfl rfl rfl rfl rfl rfl rfl) rfl ?_)
            (refine nx (a_bslice (gN rfl) rfl rfl rfl rfl rfl rfl rfl rfl rfl rfl rfl rfl rfl) rfl ?_)
            (refine nx (a_app (gN rfl) rfl rfl rfl rfl rfl rfl rfl rfl rfl rfl rfl rfl rfl rfl rfl (by first | assumption | exact sZ rfl | exact Tm.size_all _ | exact Bd.size_all _ | exact ints_size _ | exact bys_size _ | exact Lt.size_all _) (by first | assumption | exact sZ rfl | exact Tm.size_all _ | exact Bd.size_all _ | exact ints_size _ | exact bys_size _ | exact Lt.size_all _) (by first | omega | (simp only [List.length_map, List.length_append, List.length_cons, List.length_nil] <;> omega) | (simp <;> omega))) rfl ?_)
            (refine nx (aA (gN rfl) rfl rfl rfl rfl rfl) rfl ?_)
            show AWp _ _ _ _ _ _ _
            refine aR ?_
            (refine nx (aM (gN rfl) rfl rfl rfl rfl rfl) rfl ?_)
            (refine nx (a_add (gN rfl) rfl rfl rfl rfl rfl rfl (by first | omega | (simp only [List.length_map, List.length_append, List.length_cons, List.length_nil] <;> omega) | (simp <;> omega))) rfl ?_)
            (refine nx (aA (gN rfl) rfl rfl rfl rfl rfl) rfl ?_)
            refine ⟨hkl, Wk.trans (wk_sub (s' := [(3, .val (.lst (M.map Lt.cv))), (11, .own (.lst ((dedD sameL (M.take (n + 1))).map Lt.cv)) 300110), (300110, .tok 35 5), (12, .val (.i ((n + 1 : Nat) : Int)))]) ⟨rfl, ?_, rfl, rfl, trivial⟩) (wk_ren 300110 200110 rfl rfl rfl rfl)⟩
            rw [hst4]
            rfl
          · have hc : D.any (fun y => sameL y x) = true := by simpa using hc
            rw [hc] at hnx
            show AWp _ _ _ _ _ _ _
            refine aR ?_
            (refine nx (aM (gN rfl) rfl rfl rfl rfl rfl) rfl ?_)
            (refine nx (a_add (gN rfl) rfl rfl rfl rfl rfl rfl (by first | omega | (simp only [List.length_map, List.length_append, List.length_cons, List.length_nil] <;> omega) | (simp <;> omega))) rfl ?_)
            (refine nx (aA (gN rfl) rfl rfl rfl rfl rfl) rfl ?_)
            exact ⟨hkl, wk_sub ⟨rfl, by rw [hnx]; rfl, rfl, rfl, trivial⟩⟩
      · have hkl : n = M.length := by
          simp only [List.length_map, decide_eq_false_iff_not] at hc
          omega
        subst hkl
        rw [List.take_length]
        show AWp _ _ _ _ _ _ _
        refine aS (aR ?_)
        (refine nx (aM (gN rfl) rfl rfl rfl rfl rfl) rfl ?_)
        (refine nx (aA (gN rfl) rfl rfl rfl rfl rfl) rfl ?_)
        show AWp _ _ _ _ _ _ _
        exact aT (And.intro (.inr rfl) rfl)
-- 
set_option maxHeartbeats 4000000 in
theorem refTaut_abs (W : World) (c : List Lt) (hl : c.length ≤ 1000000) (hc : ∀ l ∈ c, l.a.ok ∧ l.b.ok) : AFun Tryz.prog W 26 [.lst (c.map Lt.cv)] (.val (.b (ttD c))) := by
  have hsz := Lt.size_all c
  obtain ⟨p, hp⟩ : ∃ p : Lt → Bool, p = fun x => (!x.neg && sameT x.a x.b) || c.any (ttD1 x) := ⟨_, rfl⟩
  have ht : ttD c = c.any p := by rw [hp]; rfl
  have hyes : ∀ x ∈ c, p x = true → ttD c = true := fun x hx e => by rw [ht]; exact List.any_eq_true.2 ⟨x, hx, e⟩
  refine afun_of (rs := [.b (ttD c)]) Tryz.func26 Tryz.ntmps26 rfl rfl rfl rfl ?_
  intro w U hW
  refine aS (aR ?_)
  (refine nx (aA (gN rfl) rfl rfl rfl rfl rfl) rfl ?_)
  show AWp _ _ _ _ _ _ _
  refine aS (aS (aR ?_))
  (refine nx (aA (gN rfl) rfl rfl rfl rfl rfl) rfl ?_)
  show AWp _ _ _ _ _ _ _
  refine aB (awp_countI c.length (fun k => ∀ l ∈ c.take k, p l = false) (fun k => [(0, .val (.lst (c.map Lt.cv))), (3, .val (.i k))]) (wk_sub ⟨rfl, rfl, trivial⟩) (by simp) ?_)
  intro k hk hI
  refine aS (aS (aR ?_))
  (refine nx (aM (gN rfl) rfl rfl rfl rfl rfl) rfl ?_)
  (refine nx (aM (gN rfl) rfl rfl rfl rfl rfl) rfl ?_)
  (refine nx (a_len (gN rfl) rfl rfl rfl rfl rfl rfl rfl) rfl ?_)
  (refine nx (a_lss (gN rfl) rfl rfl rfl rfl rfl rfl) rfl ?_)
  show AWp _ _ _ _ _ _ _
  refine aC rfl (fun hlt => ?_) (fun hlt => ?_)
  · have hkl : k < c.length := by simpa using hlt
    obtain ⟨x, hx⟩ : ∃ x, c[k]? = some x := ⟨c[k], List.getElem?_eq_getElem hkl⟩
    have hx' := Lt.map_at hx
    have hxm := List.mem_of_getElem? hx
    have hxo := hc x hxm
    have hsa := refSame_abs w x.a x.b hxo.1 hxo.2
    by_cases hq : (!x.neg && sameT x.a x.b) = true
    · have hpx : p x = true := by rw [hp]; simp only [hq, Bool.true_or]
      rw [hyes x hxm hpx]
      rw [Bool.and_eq_true] at hq
      have g1 : (!x.neg) = true := hq.1
      rw [hq.2] at hsa
      refine aK ?_
      show AWp _ _ _ _ _ _ _
      refine aS (aB (aS (aS (aD (by kernel_rfl) (by kernel_rfl) ?_))))
      (refine nx (aM (gN rfl) rfl rfl rfl rfl rfl) rfl ?_)
      (refine nx (aM (gN rfl) rfl rfl rfl rfl rfl) rfl ?_)
      (refine nx (a_index (j := k) (gN rfl) rfl rfl rfl rfl rfl rfl rfl rfl rfl (hx') rfl (hsz)) rfl ?_)
      (refine nx (a_field_ad (gN rfl) rfl rfl rfl rfl rfl rfl rfl rfl rfl rfl rfl) rfl ?_)
      (refine nx (a_load_ad (gN rfl) rfl rfl rfl rfl rfl rfl rfl rfl rfl) rfl ?_)
      (refine nx (a_not (gN rfl) rfl rfl rfl rfl rfl) rfl ?_)
      (refine nx (aM (gN rfl) rfl rfl rfl rfl rfl) rfl ?_)
      (refine nx (aM (gd_on rfl rfl rfl rfl (by first | rfl | assumption | (simp; done))) rfl rfl rfl rfl rfl) rfl ?_)
      (refine nx (aM (gd_on rfl rfl rfl rfl (by first | rfl | assumption | (simp; done))) rfl rfl rfl rfl rfl) rfl ?_)
      (refine nx (a_index (j := k) (gd_on rfl rfl rfl rfl (by first | rfl | assumption | (simp; done))) rfl rfl rfl rfl rfl rfl rfl rfl rfl (hx') rfl (hsz)) rfl ?_)
      (refine nx (a_field_ad (gd_on rfl rfl rfl rfl (by first | rfl | assumption | (simp; done))) rfl rfl rfl rfl rfl rfl rfl rfl rfl rfl rfl) rfl ?_)
      (refine nx (a_load_ad (gd_on rfl rfl rfl rfl (by first | rfl | assumption | (simp; done))) rfl rfl rfl rfl rfl rfl rfl rfl rfl) rfl ?_)
      (refine nx (aM (gd_on rfl rfl rfl rfl (by first | rfl | assumption | (simp; done))) rfl rfl rfl rfl rfl) rfl ?_)
      (refine nx (aM (gd_on rfl rfl rfl rfl (by first | rfl | assumption | (simp; done))) rfl rfl rfl rfl rfl) rfl ?_)
      (refine nx (a_index (j := k) (gd_on rfl rfl rfl rfl (by first | rfl | assumption | (simp; done))) rfl rfl rfl rfl rfl rfl rfl rfl rfl (hx') rfl (hsz)) rfl ?_)
      (refine nx (a_field_ad (gd_on rfl rfl rfl rfl (by first | rfl | assumption | (simp; done))) rfl rfl rfl rfl rfl rfl rfl rfl rfl rfl rfl) rfl ?_)
      (refine nx (a_load_ad (gd_on rfl rfl rfl rfl (by first | rfl | assumption | (simp; done))) rfl rfl rfl rfl rfl rfl rfl rfl rfl) rfl ?_)
      (refine nx (a_call (gd_on rfl rfl rfl rfl (by first | rfl | assumption | (simp; done))) rfl rfl rfl rfl rfl (hsa)) rfl ?_)
      (refine ⟨_, _, _, aPt (gN rfl) rfl rfl rfl rfl rfl ?hb rfl, rfl, ?_⟩; case hb => (first | rfl | assumption | (simp; done)))
      refine ⟨by kernel_rfl, ?_⟩
      show AWp _ _ _ _ _ _ _
      refine aC rfl (fun h => ?_) (fun h => by cases h)
      refine aS (aR ?_)
      (refine nx (aA (gN rfl) rfl rfl rfl rfl rfl) rfl ?_)
      show AWp _ _ _ _ _ _ _
      exact aT (And.intro (.inr rfl) rfl)
    have hq : (!x.neg && sameT x.a x.b) = false := by simpa using hq
    have hpx : p x = c.any (ttD1 x) := by rw [hp]; simp only [hq, Bool.false_or]
    refine aK ?_
    show AWp _ _ _ _ _ _ _
    refine aS (aB (awp_mid [(0, .val (.lst (c.map Lt.cv))), (3, .val (.i k))] ?_ ?_))
    · cases hn : x.neg with
      | true =>
        have g1 : (!x.neg) = false := by rw [hn]; rfl
        refine aS (aD (by kernel_rfl) (by kernel_rfl) ?_)
        (refine nx (aM (gN rfl) rfl rfl rfl rfl rfl) rfl ?_)
        (refine nx (aM (gN rfl) rfl rfl rfl rfl rfl) rfl ?_)
        (refine nx (a_index (j := k) (gN rfl) rfl rfl rfl rfl rfl rfl rfl rfl rfl (hx') rfl (hsz)) rfl ?_)
        (refine nx (a_field_ad (gN rfl) rfl rfl rfl rfl rfl rfl rfl rfl rfl rfl rfl) rfl ?_)
        (refine nx (a_load_ad (gN rfl) rfl rfl rfl rfl rfl rfl rfl rfl rfl) rfl ?_)
        (refine nx (a_not (gN rfl) rfl rfl rfl rfl rfl) rfl ?_)
        (refine nx (aM (gN rfl) rfl rfl rfl rfl rfl) rfl ?_)
        (refine ⟨_, _, _, a_off (go_off rfl rfl rfl rfl (by first | rfl | assumption | (simp; done) | (simp [*]; done))) rfl rfl rfl, rfl, ?_⟩)
        (refine ⟨_, _, _, a_off (go_off rfl rfl rfl rfl (by first | rfl | assumption | (simp; done) | (simp [*]; done))) rfl rfl rfl, rfl, ?_⟩)
        (refine ⟨_, _, _, a_off (go_off rfl rfl rfl rfl (by first | rfl | assumption | (simp; done) | (simp [*]; done))) rfl rfl rfl, rfl, ?_⟩)
        (refine ⟨_, _, _, a_off (go_off rfl rfl rfl rfl (by first | rfl | assumption | (simp; done) | (simp [*]; done))) rfl rfl rfl, rfl, ?_⟩)
        (refine ⟨_, _, _, a_off (go_off rfl rfl rfl rfl (by first | rfl | assumption | (simp; done) | (simp [*]; done))) rfl rfl rfl, rfl, ?_⟩)
        (refine ⟨_, _, _, a_off (go_off rfl rfl rfl rfl (by first | rfl | assumption | (simp; done) | (simp [*]; done))) rfl rfl rfl, rfl, ?_⟩)
        (refine ⟨_, _, _, a_off (go_off rfl rfl rfl rfl (by first | rfl | assumption | (simp; done) | (simp [*]; done))) rfl rfl rfl, rfl, ?_⟩)
        (refine ⟨_, _, _, a_off (go_off rfl rfl rfl rfl (by first | rfl | assumption | (simp; done) | (simp [*]; done))) rfl rfl rfl, rfl, ?_⟩)
        (refine ⟨_, _, _, a_off (go_off rfl rfl rfl rfl (by first | rfl | assumption | (simp; done) | (simp [*]; done))) rfl rfl rfl, rfl, ?_⟩)
        (refine ⟨_, _, _, a_off (go_off rfl rfl rfl rfl (by first | rfl | assumption | (simp; done) | (simp [*]; done))) rfl rfl rfl, rfl, ?_⟩)
        (refine ⟨_, _, _, a_off (go_off rfl rfl rfl rfl (by first | rfl | assumption | (simp; done) | (simp [*]; done))) rfl rfl rfl, rfl, ?_⟩)
        (refine ⟨_, _, _, aPf (gN rfl) rfl rfl rfl rfl rfl ?hb rfl, rfl, ?_⟩; case hb => (first | rfl | assumption | (simp; done)))
        refine ⟨by kernel_rfl, ?_⟩
        show AWp _ _ _ _ _ _ _
        refine aC rfl (fun h => by cases h) (fun h => aK ?_)
        exact wk_sub ⟨rfl, rfl, trivial⟩
      | false =>
        have g1 : (!x.neg) = true := by rw [hn]; rfl
        have hsf : sameT x.a x.b = false := by rw [hn] at hq; simpa using hq
        rw [hsf] at hsa
        refine aS (aD (by kernel_rfl) (by kernel_rfl) ?_)
        (refine nx (aM (gN rfl) rfl rfl rfl rfl rfl) rfl ?_)
        (refine nx (aM (gN rfl) rfl rfl rfl rfl rfl) rfl ?_)
        (refine nx (a_index (j := k) (gN rfl) rfl rfl rfl rfl rfl rfl rfl rfl rfl (hx') rfl (hsz)) rfl ?_)
        (refine nx (a_field_ad (gN rfl) rfl rfl rfl rfl rfl rfl rfl rfl rfl rfl rfl) rfl ?_)
        (refine nx (a_load_ad (gN rfl) rfl rfl rfl rfl rfl rfl rfl rfl rfl) rfl ?_)
        (refine nx (a_not (gN rfl) rfl rfl rfl rfl rfl) rfl ?_)
        (refine nx (aM (gN rfl) rfl rfl rfl rfl rfl) rfl ?_)
        (refine nx (aM (gd_on rfl rfl rfl rfl (by first | rfl | assumption | (simp; done))) rfl rfl rfl rfl rfl) rfl ?_)
        (refine nx (aM (gd_on rfl rfl rfl rfl (by first | rfl | assumption | (simp; done))) rfl rfl rfl rfl rfl) rfl ?_)
        (refine nx (a_index (j := k) (gd_on rfl rfl rfl rfl (by first | rfl | assumption | (simp; done))) rfl rfl rfl rfl rfl rfl rfl rfl rfl (hx') rfl (hsz)) rfl ?_)
        (refine nx (a_field_ad (gd_on rfl rfl rfl rfl (by first | rfl | assumption | (simp; done))) rfl rfl rfl rfl rfl rfl rfl rfl rfl rfl rfl) rfl ?_)
        (refine nx (a_load_ad (gd_on rfl rfl rfl rfl (by first | rfl | assumption | (simp; done))) rfl rfl rfl rfl rfl rfl rfl rfl rfl) rfl ?_)
        (refine nx (aM (gd_on rfl rfl rfl rfl (by first | rfl | assumption | (simp; done))) rfl rfl rfl rfl rfl) rfl ?_)
        (refine nx (aM (gd_on rfl rfl rfl rfl (by first | rfl | assumption | (simp; done))) rfl rfl rfl rfl rfl) rfl ?_)
        (refine nx (a_index (j := k) (gd_on rfl rfl rfl rfl (by first | rfl | assumption | (simp; done))) rfl rfl rfl rfl rfl rfl rfl rfl rfl (hx') rfl (hsz)) rfl ?_)
        (refine nx (a_field_ad (gd_on rfl rfl rfl rfl (by first | rfl | assumption | (simp; done))) rfl rfl rfl rfl rfl rfl rfl rfl rfl rfl rfl) rfl ?_)
        (refine nx (a_load_ad (gd_on rfl rfl rfl rfl (by first | rfl | assumption | (simp; done))) rfl rfl rfl rfl rfl rfl rfl rfl rfl) rfl ?_)
        (refine nx (a_call (gd_on rfl rfl rfl rfl (by first | rfl | assumption | (simp; done))) rfl rfl rfl rfl rfl (hsa)) rfl ?_)
        (refine ⟨_, _, _, aPt (gN rfl) rfl rfl rfl rfl rfl ?hb rfl, rfl, ?_⟩; case hb => (first | rfl | assumption | (simp; done)))
        refine ⟨by kernel_rfl, ?_⟩
        show AWp _ _ _ _ _ _ _
        refine aC rfl (fun h => by cases h) (fun h => aK ?_)
        exact wk_sub ⟨rfl, rfl, trivial⟩
    show AWp _ _ _ _ _ _ _
    refine aS (aR ?_)
    (refine nx (aA (gN rfl) rfl rfl rfl rfl rfl) rfl ?_)
    show AWp _ _ _ _ _ _ _
    refine aB (awp_countI c.length (fun j => ∀ l ∈ c.take j, ttD1 x l = false) (fun j => [(0, .val (.lst (c.map Lt.cv))), (3, .val (.i k)), (4, .val (.i j))]) (wk_sub ⟨rfl, rfl, rfl, trivial⟩) (by simp) ?_)
    intro j hj hJ
    refine aS (aS (aR ?_))
    (refine nx (aM (gN rfl) rfl rfl rfl rfl rfl) rfl ?_)
    (refine nx (aM (gN rfl) rfl rfl rfl rfl rfl) rfl ?_)
    (refine nx (a_len (gN rfl) rfl rfl rfl rfl rfl rfl rfl) rfl ?_)
    (refine nx (a_lss (gN rfl) rfl rfl rfl rfl rfl rfl) rfl ?_)
    show AWp _ _ _ _ _ _ _
    refine aC rfl (fun hlt => ?_) (fun hlt => ?_)
    · have hjl : j < c.length := by simpa using hlt
      obtain ⟨y, hy⟩ : ∃ y, c[j]? = some y := ⟨c[j], List.getElem?_eq_getElem hjl⟩
      have hy' := Lt.map_at hy
      have hym := List.mem_of_getElem? hy
      have hyo := hc y hym
      have next : ttD1 x y = false → ∀ l ∈ c.take (j + 1), ttD1 x l = false := fun e l hm => by
        rw [List.take_add_one, hy, Option.toList_some, List.mem_append] at hm
        rcases hm with hm | hm
        · exact hJ l hm
        · rw [List.mem_singleton.1 hm]; exact e
      refine aK ?_
      show AWp _ _ _ _ _ _ _
      refine aS (aB (aS (aR ?_)))
      (refine nx (aM (gN rfl) rfl rfl rfl rfl rfl) rfl ?_)
      (refine nx (aM (gN rfl) rfl rfl rfl rfl rfl) rfl ?_)
      (refine nx (a_index (j := j) (gN rfl) rfl rfl rfl rfl rfl rfl rfl rfl rfl (hy') rfl (hsz)) rfl ?_)
      (refine nx (a_load_ad (gN rfl) rfl rfl rfl rfl rfl rfl rfl rfl rfl) rfl ?_)
      (refine nx (a_alloc (gN rfl) rfl rfl rfl rfl rfl rfl rfl rfl rfl rfl) rfl ?_)
      (refine nx (aSt (gN rfl) rfl rfl rfl rfl rfl rfl rfl rfl rfl rfl) rfl ?_)
      show AWp _ _ _ _ _ _ _
      refine aS (aR ?_)
      (refine nx (aF (gN rfl) rfl rfl rfl rfl rfl rfl rfl rfl rfl) rfl ?_)
      (refine nx (aLb (gN rfl) rfl rfl rfl rfl rfl rfl rfl rfl rfl rfl rfl rfl) rfl ?_)
      (refine nx (aF (gN rfl) rfl rfl rfl rfl rfl rfl rfl rfl rfl) rfl ?_)
      (refine nx (aLb (gN rfl) rfl rfl rfl rfl rfl rfl rfl rfl rfl rfl rfl rfl) rfl ?_)
      (refine nx (aF (gN rfl) rfl rfl rfl rfl rfl rfl rfl rfl rfl) rfl ?_)
      (refine nx (aLb (gN rfl) rfl rfl rfl rfl rfl rfl rfl rfl rfl rfl rfl rfl) rfl ?_)
      (refine nx (a_build (gN rfl) rfl rfl rfl rfl rfl rfl rfl rfl rfl rfl rfl) rfl ?_)
      (refine nx (a_alloc (gN rfl) rfl rfl rfl rfl rfl rfl rfl rfl rfl rfl) rfl ?_)
      (refine nx (aSt (gN rfl) rfl rfl rfl rfl rfl rfl rfl rfl rfl rfl) rfl ?_)
      show AWp _ _ _ _ _ _ _
      cases hxn : x.neg with
      | false =>
        refine aS (aR ?_)
        (refine nx (aM (gN rfl) rfl rfl rfl rfl rfl) rfl ?_)
        (refine nx (aM (gN rfl) rfl rfl rfl rfl rfl) rfl ?_)
        (refine nx (a_index (j := k) (gN rfl) rfl rfl rfl rfl rfl rfl rfl rfl rfl (hx') rfl (hsz)) rfl ?_)
        (refine nx (a_field_ad (gN rfl) rfl rfl rfl rfl rfl rfl rfl rfl rfl rfl rfl) rfl ?_)
        (refine nx (a_load_ad (gN rfl) rfl rfl rfl rfl rfl rfl rfl rfl rfl) rfl ?_)
        (refine nx (aM (gN rfl) rfl rfl rfl rfl rfl) rfl ?_)
        (refine ⟨_, _, _, a_off (go_off rfl rfl rfl rfl (by first | rfl | assumption | (simp; done) | (simp [*]; done))) rfl rfl rfl, rfl, ?_⟩)
        (refine ⟨_, _, _, a_off (go_off rfl rfl rfl rfl (by first | rfl | assumption | (simp; done) | (simp [*]; done))) rfl rfl rfl, rfl, ?_⟩)
        (refine ⟨_, _, _, a_off (go_off rfl rfl rfl rfl (by first | rfl | assumption | (simp; done) | (simp [*]; done))) rfl rfl rfl, rfl, ?_⟩)
        (refine ⟨_, _, _, aPf (gN rfl) rfl rfl rfl rfl rfl ?hb rfl, rfl, ?_⟩; case hb => (first | rfl | assumption | (simp; done)))
        show AWp _ _ _ _ _ _ _
        refine aC rfl (fun h => by cases h) (fun h => aK ?_)
        show AWp _ _ _ _ _ _ _
        refine aR ?_
        (refine nx (aM (gN rfl) rfl rfl rfl rfl rfl) rfl ?_)
        (refine nx (a_add (gN rfl) rfl rfl rfl rfl rfl rfl (by first | omega | (simp only [List.length_map, List.length_append, List.length_cons, List.length_nil] <;> omega) | (simp <;> omega))) rfl ?_)
        (refine nx (aA (gN rfl) rfl rfl rfl rfl rfl) rfl ?_)
        exact ⟨hjl, next (by unfold ttD1; rw [hxn]; rfl), wk_sub ⟨rfl, rfl, rfl, trivial⟩⟩
      | true =>
        refine aS (aR ?_)
        (refine nx (aM (gN rfl) rfl rfl rfl rfl rfl) rfl ?_)
        (refine nx (aM (gN rfl) rfl rfl rfl rfl rfl) rfl ?_)
        (refine nx (a_index (j := k) (gN rfl) rfl rfl rfl rfl rfl rfl rfl rfl rfl (hx') rfl (hsz)) rfl ?_)
        (refine nx (a_field_ad (gN rfl) rfl rfl rfl rfl rfl rfl rfl rfl rfl rfl rfl) rfl ?_)
        (refine nx (a_load_ad (gN rfl) rfl rfl rfl rfl rfl rfl rfl rfl rfl) rfl ?_)
        (refine nx (aM (gN rfl) rfl rfl rfl rfl rfl) rfl ?_)
        (refine nx (aF (gd_on rfl rfl rfl rfl (by first | rfl | assumption | (simp; done))) rfl rfl rfl rfl rfl rfl rfl rfl rfl) rfl ?_)
        (refine nx (aLb (gd_on rfl rfl rfl rfl (by first | rfl | assumption | (simp; done))) rfl rfl rfl rfl rfl rfl rfl rfl rfl rfl rfl rfl) rfl ?_)
        (refine nx (a_not (gd_on rfl rfl rfl rfl (by first | rfl | assumption | (simp; done))) rfl rfl rfl rfl rfl) rfl ?_)
        (refine ⟨_, _, _, aPt (gN rfl) rfl rfl rfl rfl rfl ?hb rfl, rfl, ?_⟩; case hb => (first | rfl | assumption | (simp; done)))
        show AWp _ _ _ _ _ _ _
        refine aC rfl (fun h => ?_) (fun h => aK ?_)
        · have hyn : y.neg = false := by simpa using h
          have htt : ttD1 x y = (sameL x ⟨true, y.a, y.b⟩ || sameL x ⟨true, y.b, y.a⟩) := by unfold ttD1; rw [hxn, hyn]; rfl
          have s1 := sameLit_abs w x ⟨true, y.a, y.b⟩ hxo hyo
          have s2 := sameLit_abs w x ⟨true, y.b, y.a⟩ hxo ⟨hyo.2, hyo.1⟩
          refine aS (aR ?_)
          (refine nx (aF (gN rfl) rfl rfl rfl rfl rfl rfl rfl rfl rfl) rfl ?_)
          (refine nx (a_store (gN rfl) rfl rfl rfl rfl rfl rfl rfl rfl rfl rfl) rfl ?_)
          show AWp _ _ _ _ _ _ _
          refine aS (aR ?_)
          (refine nx (aF (gN rfl) rfl rfl rfl rfl rfl rfl rfl rfl rfl) rfl ?_)
          (refine nx (a_store (gN rfl) rfl rfl rfl rfl rfl rfl rfl rfl rfl rfl) rfl ?_)
          show AWp _ _ _ _ _ _ _
          cases hs1 : sameL x ⟨true, y.a, y.b⟩ with
          | true =>
            rw [hs1] at s1
            rw [hyes x hxm (by rw [hpx]; exact List.any_eq_true.2 ⟨y, hym, by rw [htt, hs1]; rfl⟩)]
            refine aS (aD (by kernel_rfl) (by kernel_rfl) ?_)
            (refine nx (aM (gN rfl) rfl rfl rfl rfl rfl) rfl ?_)
            (refine nx (aM (gN rfl) rfl rfl rfl rfl rfl) rfl ?_)
            (refine nx (a_index (j := k) (gN rfl) rfl rfl rfl rfl rfl rfl rfl rfl rfl (hx') rfl (hsz)) rfl ?_)
            (refine nx (a_load_ad (gN rfl) rfl rfl rfl rfl rfl rfl rfl rfl rfl) rfl ?_)
            (refine nx (aL (gN rfl) rfl rfl rfl rfl rfl rfl rfl rfl rfl rfl rfl rfl) rfl ?_)
            (refine nx (a_call (gN rfl) rfl rfl rfl rfl rfl (s1)) rfl ?_)
            (refine nx (aM (gN rfl) rfl rfl rfl rfl rfl) rfl ?_)
            (refine ⟨_, _, _, a_off (go_off rfl rfl rfl rfl (by first | rfl | assumption | (simp; done) | (simp [*]; done))) rfl rfl rfl, rfl, ?_⟩)
            (refine ⟨_, _, _, a_off (go_off rfl rfl rfl rfl (by first | rfl | assumption | (simp; done) | (simp [*]; done))) rfl rfl rfl, rfl, ?_⟩)
            (refine ⟨_, _, _, a_off (go_off rfl rfl rfl rfl (by first | rfl | assumption | (simp; done) | (simp [*]; done))) rfl rfl rfl, rfl, ?_⟩)
            (refine ⟨_, _, _, a_off (go_off rfl rfl rfl rfl (by first | rfl | assumption | (simp; done) | (simp [*]; done))) rfl rfl rfl, rfl, ?_⟩)
            (refine ⟨_, _, _, a_off (go_off rfl rfl rfl rfl (by first | rfl | assumption | (simp; done) | (simp [*]; done))) rfl rfl rfl, rfl, ?_⟩)
            (refine ⟨_, _, _, a_off (go_off rfl rfl rfl rfl (by first | rfl | assumption | (simp; done) | (simp [*]; done))) rfl rfl rfl, rfl, ?_⟩)
            (refine ⟨_, _, _, aPt (gN rfl) rfl rfl rfl rfl rfl ?hb rfl, rfl, ?_⟩; case hb => (first | rfl | assumption | (simp; done)))
            refine ⟨by kernel_rfl, ?_⟩
            show AWp _ _ _ _ _ _ _
            refine aC rfl (fun h => ?_) (fun h => by cases h)
            refine aS (aR ?_)
            (refine nx (aA (gN rfl) rfl rfl rfl rfl rfl) rfl ?_)
            show AWp _ _ _ _ _ _ _
            exact aT (And.intro (.inr rfl) rfl)
          | false =>
            rw [hs1] at s1
            rw [hs1, Bool.false_or] at htt
            refine aS (aD (by kernel_rfl) (by kernel_rfl) ?_)
            (refine nx (aM (gN rfl) rfl rfl rfl rfl rfl) rfl ?_)
            (refine nx (aM (gN rfl) rfl rfl rfl rfl rfl) rfl ?_)
            (refine nx (a_index (j := k) (gN rfl) rfl rfl rfl rfl rfl rfl rfl rfl rfl (hx') rfl (hsz)) rfl ?_)
            (refine nx (a_load_ad (gN rfl) rfl rfl rfl rfl rfl rfl rfl rfl rfl) rfl ?_)
            (refine nx (aL (gN rfl) rfl rfl rfl rfl rfl rfl rfl rfl rfl rfl rfl rfl) rfl ?_)
            (refine nx (a_call (gN rfl) rfl rfl rfl rfl rfl (s1)) rfl ?_)
            (refine nx (aM (gN rfl) rfl rfl rfl rfl rfl) rfl ?_)
            (refine nx (aM (gd_on rfl rfl rfl rfl (by first | rfl | assumption | (simp; done))) rfl rfl rfl rfl rfl) rfl ?_)
            (refine nx (aM (gd_on rfl rfl rfl rfl (by first | rfl | assumption | (simp; done))) rfl rfl rfl rfl rfl) rfl ?_)
            (refine nx (a_index (j := k) (gd_on rfl rfl rfl rfl (by first | rfl | assumption | (simp; done))) rfl rfl rfl rfl rfl rfl rfl rfl rfl (hx') rfl (hsz)) rfl ?_)
            (refine nx (a_load_ad (gd_on rfl rfl rfl rfl (by first | rfl | assumption | (simp; done))) rfl rfl rfl rfl rfl rfl rfl rfl rfl) rfl ?_)
            (refine nx (aL (gd_on rfl rfl rfl rfl (by first | rfl | assumption | (simp; done))) rfl rfl rfl rfl rfl rfl rfl rfl rfl rfl rfl rfl) rfl ?_)
            (refine nx (a_call (gd_on rfl rfl rfl rfl (by first | rfl | assumption | (simp; done))) rfl rfl rfl rfl rfl (s2)) rfl ?_)
            (refine ⟨_, _, _, aPf (gN rfl) rfl rfl rfl rfl rfl ?hb rfl, rfl, ?_⟩; case hb => (first | rfl | assumption | (simp; done)))
            refine ⟨by kernel_rfl, ?_⟩
            show AWp _ _ _ _ _ _ _
            refine aC rfl (fun h => ?_) (fun h => aK ?_)
            · have h : sameL x ⟨true, y.b, y.a⟩ = true := h
              rw [hyes x hxm (by rw [hpx]; exact List.any_eq_true.2 ⟨y, hym, by rw [htt, h]⟩)]
              refine aS (aR ?_)
              (refine nx (aA (gN rfl) rfl rfl rfl rfl rfl) rfl ?_)
              show AWp _ _ _ _ _ _ _
              exact aT (And.intro (.inr rfl) rfl)
            · have h : sameL x ⟨true, y.b, y.a⟩ = false := h
              show AWp _ _ _ _ _ _ _
              refine aR ?_
              (refine nx (aM (gN rfl) rfl rfl rfl rfl rfl) rfl ?_)
              (refine nx (a_add (gN rfl) rfl rfl rfl rfl rfl rfl (by first | omega | (simp only [List.length_map, List.length_append, List.length_cons, List.length_nil] <;> omega) | (simp <;> omega))) rfl ?_)
              (refine nx (aA (gN rfl) rfl rfl rfl rfl rfl) rfl ?_)
              exact ⟨hjl, next (by rw [htt, h]), wk_sub ⟨rfl, rfl, rfl, trivial⟩⟩
        · have hyn : y.neg = true := by simpa using h
          show AWp _ _ _ _ _ _ _
          refine aR ?_
          (refine nx (aM (gN rfl) rfl rfl rfl rfl rfl) rfl ?_)
          (refine nx (a_add (gN rfl) rfl rfl rfl rfl rfl rfl (by first | omega | (simp only [List.length_map, List.length_append, List.length_cons, List.length_nil] <;> omega) | (simp <;> omega))) rfl ?_)
          (refine nx (aA (gN rfl) rfl rfl rfl rfl rfl) rfl ?_)
          exact ⟨hjl, next (by unfold ttD1; rw [hxn, hyn]; rfl), wk_sub ⟨rfl, rfl, rfl, trivial⟩⟩
    · have hjl : j = c.length := by
        have : ¬ j < c.length := by simpa using hlt
        omega
      subst hjl
      rw [List.take_length] at hJ
      refine aE ?_
      show AWp _ _ _ _ _ _ _
      refine aR ?_
      (refine nx (aM (gN rfl) rfl rfl rfl rfl rfl) rfl ?_)
      (refine nx (a_add (gN rfl) rfl rfl rfl rfl rfl rfl (by first | omega | (simp only [List.length_map, List.length_append, List.length_cons, List.length_nil] <;> omega) | (simp <;> omega))) rfl ?_)
      (refine nx (aA (gN rfl) rfl rfl rfl rfl rfl) rfl ?_)
      refine ⟨hkl, fun l hm => ?_, wk_sub ⟨rfl, rfl, trivial⟩⟩
      rw [List.take_add_one, hx, Option.toList_some, List.mem_append] at hm
      rcases hm with hm | hm
      · exact hI l hm
      · rw [List.mem_singleton.1 hm, hpx, List.any_eq_false]
        intro y hy
        rw [hJ y hy]; simp
  · have hkl : k = c.length := by
      have : ¬ k < c.length := by simpa using hlt
      omega
    subst hkl
    rw [List.take_length] at hI
    have hno : ttD c = false := by
      rw [ht, List.any_eq_false]
      intro y hy
      rw [hI y hy]; simp
    rw [hno]
    refine aE ?_
    show AWp _ _ _ _ _ _ _
    refine aS (aR ?_)
    (refine nx (aA (gN rfl) rfl rfl rfl rfl rfl) rfl ?_)
    show AWp _ _ _ _ _ _ _
    exact aT (And.intro (.inr rfl) rfl)
section
variable {P : Program} {w0 : World} {U0 : UX} {nt : Nat} {ops : Array Oper} {o : Oper} {S : Nat → Option AV} {gs : List Nat} {d : Nat}
theorem a_max3 (hg : Gd w0 U0 nt ops o gs S) (hd : o.dst = some d) (hn : Nat.blt d nt = true) (h5 : Nat.blt d 100000 = true) {x y z : Operand} {ts : Array TypeId} {k : IntKind} {i j l : Int} {n q p n' q' p' n2 q2 p2} (ho : o.op = .call { callee := .builtin .max, args := #[x, y, z], argTypes := ts }) (hx : ev S x = some ⟨0, .sc (.int k i), n, q, p⟩) (hy : ev S y = some ⟨0, .sc (.int k j), n', q', p'⟩) (hz : ev S z = some ⟨0, .sc (.int k l), n2, q2, p2⟩) : AOp P w0 U0 nt ops o (gs ++ (rd x ++ (rd y ++ rd z))) [] S [(d, .val (.sc (.int k (max (max i j) l))))] :=
  aop_val hg hd hn h5 (fun k hk => List.mem_append_left _ hk) fun s hs a w D hv hm => by
    have e1 := ev_sc hm (fun k hk => hs k (List.mem_append_right _ (List.mem_append_left _ hk))) hx
    have e2 := ev_sc hm (fun k hk => hs k (List.mem_append_right _ (List.mem_append_right _ (List.mem_append_left _ hk)))) hy
    have e3 := ev_sc hm (fun k hk => hs k (List.mem_append_right _ (List.mem_append_right _ (List.mem_append_right _ hk)))) hz
    refine ⟨.int k (max (max i j) l), ?_, avrep_sc rfl⟩
    generalize a.eval = ρ at e1 e2 e3 ⊢
    simp [execOp, ho, resolve, invoke, builtin, Builtin.max_, Builtin.max2, e1, e2, e3]
    split <;> split <;> omega
end

def topC (c : List Lt) : Int := c.foldl (fun m l => max (max m (topF l.a.flat)) (topF l.b.flat)) (-1)

-- 
theorem cTop_abs (W : World) (c : List Lt) (hn : c.length ≤ 1000000) (hc : ∀ l ∈ c, l.rng) : AFun Tryz.prog W 18 [.lst (c.map Lt.cv)] (.val (.i (topC c))) := by
  have hsz := Lt.size_all c
  refine afun_of (rs := [.i (topC c)]) Tryz.func18 Tryz.ntmps18 rfl rfl rfl rfl ?_
  intro w U hW
  refine aS (aR ?_)
  (refine nx (aA (gN rfl) rfl rfl rfl rfl rfl) rfl ?_)
  show AWp _ _ _ _ _ _ _
  refine aS (aR ?_)
  (refine nx (aA (gN rfl) rfl rfl rfl rfl rfl) rfl ?_)
  show AWp _ _ _ _ _ _ _
  refine aS (aS (aR ?_))
  (refine nx (aM (gN rfl) rfl rfl rfl rfl rfl) rfl ?_)
  (refine nx (a_len (gN rfl) rfl rfl rfl rfl rfl rfl rfl) rfl ?_)
  (refine nx (aM (gN rfl) rfl rfl rfl rfl rfl) rfl ?_)
  show AWp _ _ _ _ _ _ _
  refine aB (awp_count c.length (fun k => [(3, .val (.i (topC (c.take k)))), (6, .val (.lst (c.map Lt.cv))), (7, .val (.i (c.map Lt.cv).length)), (8, .val (.i k))]) (wk_sub ⟨rfl, rfl, rfl, rfl, trivial⟩) ?_)
  intro k hk
  refine aS (aR ?_)
  (refine nx (a_lss (gN rfl) rfl rfl rfl rfl rfl rfl) rfl ?_)
  show AWp _ _ _ _ _ _ _
  refine aS (aC rfl (fun hlt => ?_) (fun hlt => ?_))
  · have hkl : k < c.length := by simpa using hlt
    obtain ⟨x, hx⟩ : ∃ x, c[k]? = some x := ⟨c[k], List.getElem?_eq_getElem hkl⟩
    have hx' := Lt.map_at hx
    have hxm := List.mem_of_getElem? hx
    have s1 := top_abs w (hc x hxm).1
    have s2 := top_abs w (hc x hxm).2
    have hst : topC (c.take (k + 1)) = max (max (topC (c.take k)) (topF x.a.flat)) (topF x.b.flat) := by
      unfold topC
      rw [List.take_add_one, hx, List.foldl_append]
      rfl
    refine aK ?_
    show AWp _ _ _ _ _ _ _
    refine aS (aB (aS (aR ?_)))
    (refine nx (a_index (j := k) (gN rfl) rfl rfl rfl rfl rfl rfl rfl rfl rfl (hx') rfl (hsz)) rfl ?_)
    (refine nx (a_load_ad (gN rfl) rfl rfl rfl rfl rfl rfl rfl rfl rfl) rfl ?_)
    (refine nx (a_alloc (gN rfl) rfl rfl rfl rfl rfl rfl rfl rfl rfl rfl) rfl ?_)
    (refine nx (aSt (gN rfl) rfl rfl rfl rfl rfl rfl rfl rfl rfl rfl) rfl ?_)
    show AWp _ _ _ _ _ _ _
    refine aD (by kernel_rfl) (by kernel_rfl) ?_
    (refine nx (aM (gN rfl) rfl rfl rfl rfl rfl) rfl ?_)
    (refine nx (aF (gN rfl) rfl rfl rfl rfl rfl rfl rfl rfl rfl) rfl ?_)
    (refine nx (aLb (gN rfl) rfl rfl rfl rfl rfl rfl rfl rfl rfl rfl rfl rfl) rfl ?_)
    (refine nx (a_call (gN rfl) rfl rfl rfl rfl rfl (s1)) rfl ?_)
    (refine nx (aF (gN rfl) rfl rfl rfl rfl rfl rfl rfl rfl rfl) rfl ?_)
    (refine nx (aLb (gN rfl) rfl rfl rfl rfl rfl rfl rfl rfl rfl rfl rfl rfl) rfl ?_)
    (refine nx (a_call (gN rfl) rfl rfl rfl rfl rfl (s2)) rfl ?_)
    (refine nx (a_max3 (gN rfl) rfl rfl rfl rfl rfl rfl rfl) rfl ?_)
    (refine nx (aA (gN rfl) rfl rfl rfl rfl rfl) rfl ?_)
    refine ⟨by kernel_rfl, ?_⟩
    show AWp _ _ _ _ _ _ _
    refine aR ?_
    (refine nx (a_add (gN rfl) rfl rfl rfl rfl rfl rfl (by first | omega | (simp only [List.length_map, List.length_append, List.length_cons, List.length_nil] <;> omega) | (simp <;> omega))) rfl ?_)
    (refine nx (aM (gN rfl) rfl rfl rfl rfl rfl) rfl ?_)
    exact ⟨hkl, wk_sub ⟨by rw [hst]; rfl, rfl, rfl, rfl, trivial⟩⟩
  · have hkl : k = c.length := by
      have : ¬ k < c.length := by simpa using hlt
      omega
    subst hkl
    rw [List.take_length]
    refine aE ?_
    show AWp _ _ _ _ _ _ _
    refine aS (aR ?_)
    (refine nx (aM (gN rfl) rfl rfl rfl rfl rfl) rfl ?_)
    (refine nx (aA (gN rfl) rfl rfl rfl rfl rfl) rfl ?_)
    show AWp _ _ _ _ _ _ _
    exact aT (And.intro (.inr rfl) rfl)
def nothL (l : Lt) : Bool := l.neg && sameT l.a l.b
-- 
theorem cNoth_abs (W : World) (l : Lt) (hl : l.rng) : AFun Tryz.prog W 34 [l.cw] (.val (.b (nothL l))) := by
  obtain ⟨ng, a, b⟩ := l
  refine afun_of (rs := [.b (nothL ⟨ng, a, b⟩)]) Tryz.func34 Tryz.ntmps34 rfl rfl rfl rfl ?_
  intro w U hW
  refine aS (aR ?_)
  (refine nx (a_box (gN rfl) rfl rfl rfl rfl rfl) rfl ?_)
  (refine nx (aA (gN rfl) rfl rfl rfl rfl rfl) rfl ?_)
  show AWp _ _ _ _ _ _ _
  cases ng with
  | true =>
    refine aS (aR ?_)
    (refine nx (aF (gN rfl) rfl rfl rfl rfl rfl rfl rfl rfl rfl) rfl ?_)
    (refine nx (aLb (gN rfl) rfl rfl rfl rfl rfl rfl rfl rfl rfl rfl rfl rfl) rfl ?_)
    (refine nx (aM (gN rfl) rfl rfl rfl rfl rfl) rfl ?_)
    (refine nx (aF (gd_on rfl rfl rfl rfl (by first | rfl | assumption | (simp; done))) rfl rfl rfl rfl rfl rfl rfl rfl rfl) rfl ?_)
    (refine nx (aLb (gd_on rfl rfl rfl rfl (by first | rfl | assumption | (simp; done))) rfl rfl rfl rfl rfl rfl rfl rfl rfl rfl rfl rfl) rfl ?_)
    (refine nx (aF (gd_on rfl rfl rfl rfl (by first | rfl | assumption | (simp; done))) rfl rfl rfl rfl rfl rfl rfl rfl rfl) rfl ?_)
    (refine nx (aLb (gd_on rfl rfl rfl rfl (by first | rfl | assumption | (simp; done))) rfl rfl rfl rfl rfl rfl rfl rfl rfl rfl rfl rfl) rfl ?_)
    (refine nx (a_call (gd_on rfl rfl rfl rfl (by first | rfl | assumption | (simp; done))) rfl rfl rfl rfl rfl (same_abs w hl.1 hl.2)) rfl ?_)
    (refine ⟨_, _, _, aPt (gN rfl) rfl rfl rfl rfl rfl ?hb rfl, rfl, ?_⟩; case hb => (first | rfl | assumption | (simp; done)))
    (refine nx (aA (gN rfl) rfl rfl rfl rfl rfl) rfl ?_)
    show AWp _ _ _ _ _ _ _
    exact aT (And.intro (.inr rfl) rfl)
  | false =>
    refine aS (aR ?_)
    (refine nx (aF (gN rfl) rfl rfl rfl rfl rfl rfl rfl rfl rfl) rfl ?_)
    (refine nx (aLb (gN rfl) rfl rfl rfl rfl rfl rfl rfl rfl rfl rfl rfl rfl) rfl ?_)
    (refine nx (aM (gN rfl) rfl rfl rfl rfl rfl) rfl ?_)
    (refine ⟨_, _, _, a_off (go_off rfl rfl rfl rfl (by first | rfl | assumption | (simp; done) | (simp [*]; done))) rfl rfl rfl, rfl, ?_⟩)
    (refine ⟨_, _, _, a_off (go_off rfl rfl rfl rfl (by first | rfl | assumption | (simp; done) | (simp [*]; done))) rfl rfl rfl, rfl, ?_⟩)
    (refine ⟨_, _, _, a_off (go_off rfl rfl rfl rfl (by first | rfl | assumption | (simp; done) | (simp [*]; done))) rfl rfl rfl, rfl, ?_⟩)
    (refine ⟨_, _, _, a_off (go_off rfl rfl rfl rfl (by first | rfl | assumption | (simp; done) | (simp [*]; done))) rfl rfl rfl, rfl, ?_⟩)
    (refine ⟨_, _, _, a_off (go_off rfl rfl rfl rfl (by first | rfl | assumption | (simp; done) | (simp [*]; done))) rfl rfl rfl, rfl, ?_⟩)
    (refine ⟨_, _, _, aPf (gN rfl) rfl rfl rfl rfl rfl ?hb rfl, rfl, ?_⟩; case hb => (first | rfl | assumption | (simp; done)))
    (refine nx (aA (gN rfl) rfl rfl rfl rfl rfl) rfl ?_)
    show AWp _ _ _ _ _ _ _
    exact aT (And.intro (.inr rfl) rfl)

def bareL (c : List Lt) : List Lt := (c.filter fun l => !nothL l).map Lt.strip
theorem bareL_snoc (c : List Lt) (l : Lt) : bareL (c ++ [l]) = if nothL l then bareL c else bareL c ++ [l.strip] := by
  unfold bareL
  rw [List.filter_append, List.map_append]
  cases h : nothL l <;> simp [h]
theorem bareL_len (c : List Lt) : (bareL c).length ≤ c.length := by
  unfold bareL
  rw [List.length_map]
  exact List.length_filter_le _ _

-- 
theorem cBare_abs (W : World) (c : List Lt) (hn : c.length ≤ 1000000) (hc : ∀ l ∈ c, l.rng ∧ l.a.size ≤ 90000000000 ∧ l.b.size ≤ 90000000000) : AFun Tryz.prog W 12 [.lst (c.map Lt.cv)] (.tup [.lst ((bareL c).map Lt.cv), .i ((c.length : Int) - ((bareL c).length : Int))]) := by
  have hsz := Lt.size_all c
  have hbl := bareL_len c
  refine afun_of (rs := [.lst ((bareL c).map Lt.cv), .i ((c.length : Int) - ((bareL c).length : Int))]) Tryz.func12 Tryz.ntmps12 rfl rfl rfl rfl ?_
  intro w U hW
  refine aS (aR ?_)
  (refine nx (aA (gN rfl) rfl rfl rfl rfl rfl) rfl ?_)
  (refine nx (aA (gN rfl) rfl rfl rfl rfl rfl) rfl ?_)
  show AWp _ _ _ _ _ _ _
  refine aS (aR ?_)
  (refine nx (aA (gN rfl) rfl rfl rfl rfl rfl) rfl ?_)
  show AWp _ _ _ _ _ _ _
  refine aS (aS (aR ?_))
  (refine nx (aM (gN rfl) rfl rfl rfl rfl rfl) rfl ?_)
  (refine nx (a_len (gN rfl) rfl rfl rfl rfl rfl rfl rfl) rfl ?_)
  (refine nx (aM (gN rfl) rfl rfl rfl rfl rfl) rfl ?_)
  show AWp _ _ _ _ _ _ _
  refine AWp.wk (wk_sub (s' := [(0, .val (.lst (c.map Lt.cv))), (4, .own (.lst []) 1), (7, .val (.lst (c.map Lt.cv))), (8, .val (.i (c.map Lt.cv).length)), (9, .val (.i 0))]) ⟨rfl, rfl, rfl, rfl, rfl, trivial⟩) ?_
  refine aB (awp_count c.length (fun k => (0, .val (.lst (c.map Lt.cv))) :: [(4, .own (.lst ((bareL (c.take k)).map Lt.cv)) 200027), (200027, .tok 63 5), (7, .val (.lst (c.map Lt.cv))), (8, .val (.i (c.map Lt.cv).length)), (9, .val (.i k))])
    ((wk_nil 4 200027 63 5 rfl rfl rfl rfl rfl rfl rfl).trans (wk_sub ⟨rfl, rfl, rfl, rfl, rfl, rfl, trivial⟩)) ?_)
  intro k hk
  refine aS (aR ?_)
  (refine nx (a_lss (gN rfl) rfl rfl rfl rfl rfl rfl) rfl ?_)
  show AWp _ _ _ _ _ _ _
  refine aS (aC rfl (fun hlt => ?_) (fun hlt => ?_))
  · have hkl : k < c.length := by simpa using hlt
    obtain ⟨x, hx⟩ : ∃ x, c[k]? = some x := ⟨c[k], List.getElem?_eq_getElem hkl⟩
    have hx' := Lt.map_at hx
    have hxm := List.mem_of_getElem? hx
    obtain ⟨r1, r2, r3⟩ := hc x hxm
    have hnx : bareL (c.take (k + 1)) = if nothL x then bareL (c.take k) else bareL (c.take k) ++ [x.strip] := by
      rw [List.take_add_one, hx, Option.toList_some, bareL_snoc]
    have hsz2 : ∀ z ∈ (bareL (c.take k)).map Lt.cv, z.size = 5 := Lt.size_all _
    have hl3 : ((bareL (c.take k)).map Lt.cv).length ≤ 1000000 := by
      rw [List.length_map]
      have := bareL_len (c.take k)
      rw [List.length_take] at this
      omega
    have hl6 := hl3
    rw [List.length_map] at hl6
    refine aK ?_
    show AWp _ _ _ _ _ _ _
    refine aS (aB (aS (aR ?_)))
    (refine nx (a_index (j := k) (gN rfl) rfl rfl rfl rfl rfl rfl rfl rfl rfl (hx') rfl (hsz)) rfl ?_)
    (refine nx (a_load_ad (gN rfl) rfl rfl rfl rfl rfl rfl rfl rfl rfl) rfl ?_)
    (refine nx (a_alloc (gN rfl) rfl rfl rfl rfl rfl rfl rfl rfl rfl rfl) rfl ?_)
    (refine nx (aSt (gN rfl) rfl rfl rfl rfl rfl rfl rfl rfl rfl rfl) rfl ?_)
    show AWp _ _ _ _ _ _ _
    refine aS (aR ?_)
    (refine nx (aL (gN rfl) rfl rfl rfl rfl rfl rfl rfl rfl rfl rfl rfl rfl) rfl ?_)
    (refine nx (a_call (gN rfl) rfl rfl rfl rfl rfl (cNoth_abs w x r1)) rfl ?_)
    (refine nx (a_not (gN rfl) rfl rfl rfl rfl rfl) rfl ?_)
    show AWp _ _ _ _ _ _ _
    refine aC rfl (fun hq => ?_) (fun hq => ?_)
    · have hq2 : nothL x = false := by simpa using hq
      rw [hq2] at hnx
      refine aD (by kernel_rfl) (by kernel_rfl) ?_
      (refine nx (aM (gN rfl) rfl rfl rfl rfl rfl) rfl ?_)
      (refine nx (aF (gN rfl) rfl rfl rfl rfl rfl rfl rfl rfl rfl) rfl ?_)
      (refine nx (aLb (gN rfl) rfl rfl rfl rfl rfl rfl rfl rfl rfl rfl rfl rfl) rfl ?_)
      (refine nx (aF (gN rfl) rfl rfl rfl rfl rfl rfl rfl rfl rfl) rfl ?_)
      (refine nx (aLb (gN rfl) rfl rfl rfl rfl rfl rfl rfl rfl rfl rfl rfl rfl) rfl ?_)
      (refine nx (a_call (gN rfl) rfl rfl rfl rfl rfl (clone_abs w r1.1 r2)) rfl ?_)
      (refine nx (aF (gN rfl) rfl rfl rfl rfl rfl rfl rfl rfl rfl) rfl ?_)
      (refine nx (aLb (gN rfl) rfl rfl rfl rfl rfl rfl rfl rfl rfl rfl rfl rfl) rfl ?_)
      (refine nx (a_call (gN rfl) rfl rfl rfl rfl rfl (clone_abs w r1.2 r3)) rfl ?_)
      (refine nx (a_build (gN rfl) rfl rfl rfl rfl rfl rfl rfl rfl rfl rfl rfl) rfl ?_)
      (refine nx (a_bslice (gN rfl) rfl rfl rfl rfl rfl rfl rfl rfl rfl rfl rfl rfl rfl) rfl ?_)
      (refine nx (a_app (gN rfl) rfl rfl rfl rfl rfl rfl rfl rfl rfl rfl rfl rfl rfl rfl rfl (by first | assumption | exact sZ rfl | exact Tm.size_all _ | exact Bd.size_all _ | exact ints_size _ | exact bys_size _ | exact Lt.size_all _) (by first | assumption | exact sZ rfl | exact Tm.size_all _ | exact Bd.size_all _ | exact ints_size _ | exact bys_size _ | exact Lt.size_all _) (by first | omega | (simp only [List.length_map, List.length_append, List.length_cons, List.length_nil] <;> omega) | (simp <;> omega))) rfl ?_)
      (refine nx (aA (gN rfl) rfl rfl rfl rfl rfl) rfl ?_)
      refine ⟨by kernel_rfl, ?_⟩
      show AWp _ _ _ _ _ _ _
      refine aR ?_
      (refine nx (a_add (gN rfl) rfl rfl rfl rfl rfl rfl (by first | omega | (simp only [List.length_map, List.length_append, List.length_cons, List.length_nil] <;> omega) | (simp <;> omega))) rfl ?_)
      (refine nx (aM (gN rfl) rfl rfl rfl rfl rfl) rfl ?_)
      refine ⟨hkl, Wk.trans (wk_sub (s' := (0, .val (.lst (c.map Lt.cv))) :: [(4, .own (.lst ((bareL (c.take (k + 1))).map Lt.cv)) 300027), (300027, .tok 63 5), (7, .val (.lst (c.map Lt.cv))), (8, .val (.i (c.map Lt.cv).length)), (9, .val (.i ((k + 1 : Nat) : Int)))]) ⟨rfl, ?_, rfl, rfl, rfl, rfl, trivial⟩) (wk_ren 300027 200027 rfl rfl rfl rfl)⟩
      rw [hnx]
      simp only [Bool.false_eq_true, if_false, List.map_append, List.map_cons, List.map_nil]
      rfl
    · have hq2 : nothL x = true := by simpa using hq
      rw [hq2] at hnx
      refine aK ?_
      show AWp _ _ _ _ _ _ _
      refine aR ?_
      (refine nx (a_add (gN rfl) rfl rfl rfl rfl rfl rfl (by first | omega | (simp only [List.length_map, List.length_append, List.length_cons, List.length_nil] <;> omega) | (simp <;> omega))) rfl ?_)
      (refine nx (aM (gN rfl) rfl rfl rfl rfl rfl) rfl ?_)
      exact ⟨hkl, wk_sub ⟨rfl, by rw [hnx]; rfl, rfl, rfl, rfl, rfl, trivial⟩⟩
  · have hkl : k = c.length := by
      have : ¬ k < c.length := by simpa using hlt
      omega
    subst hkl
    rw [List.take_length]
    have hl4 : ((bareL c).map Lt.cv).length ≤ 1000000 := by rw [List.length_map]; omega
    have hl5 : (c.map Lt.cv).length ≤ 1000000 := by rw [List.length_map]; omega
    refine aE ?_
    show AWp _ _ _ _ _ _ _
    refine aS (aR ?_)
    (refine nx (aM (gN rfl) rfl rfl rfl rfl rfl) rfl ?_)
    (refine nx (aM (gN rfl) rfl rfl rfl rfl rfl) rfl ?_)
    (refine nx (a_len (gN rfl) rfl rfl rfl rfl rfl rfl rfl) rfl ?_)
    (refine nx (aM (gN rfl) rfl rfl rfl rfl rfl) rfl ?_)
    (refine nx (a_len (gN rfl) rfl rfl rfl rfl rfl rfl rfl) rfl ?_)
    (refine nx (a_sub (gN rfl) rfl rfl rfl rfl rfl rfl (by first | omega | (simp only [List.length_map, List.length_append, List.length_cons, List.length_nil] <;> omega) | (simp <;> omega))) rfl ?_)
    (refine nx (aA (gN rfl) rfl rfl rfl rfl rfl) rfl ?_)
    (refine nx (aA (gN rfl) rfl rfl rfl rfl rfl) rfl ?_)
    show AWp _ _ _ _ _ _ _
    refine aT (And.intro (.inr rfl) ?_)
    simp only [List.length_map]
    rfl
end Go.Proofs.YtmeegdomncadpaaGreat
