/-
  UnFns10 SmFns SmMath SmSym SmSym2 SmSym3 SmStab SmNorm UnPairs UnBig UnLaws UnMid SbRef7 SbRef7N UnRefW UnMidW SbVnt2 Un8A AbRowO Un8B SbNormEq AbDel
-/
import Derived.Test.YteegmcfobgpemaaGreatMg7
import Derived.Test.YteegmcfobgpemaaGreatMg5
import Derived.Test.YteegmcfobgpemaaGreatMg4
import Derived.Test.YteegmcfobgpemaaGreatMg3
import Derived.Test.YteegmcfobgpemaaGreatMg2
namespace Go.Proofs.YteegmcfobgpemaaGreat
open Go.RowKit
set_option linter.unusedVariables false
set_option linter.unusedSimpArgs false
set_option maxRecDepth 100000
noncomputable abbrev cstS (b ck : Nat) (bs : List Nat) (c : Cl) : AS := [(450001, .obj), (35500100, .sl 400001 0 c.ns.length 5), (35500101, .mref 300003), (35500102, .sl 300002 0 c.ps.length 2), (400001, .mrow 194 5 (c.ns.map Nd.cv)), (300003, .stm (c.vr.map vrv) b ck bs), (300002, .mrow 207 2 (c.ps.map psv))]
-- 
set_option maxHeartbeats 2000000 in
theorem uHeadS_abs (b ck : Nat) (bs : List Nat) (vr : List (Int × Nat)) (ps : List (Nat × Nat)) (k : Nat) (ns : List Nd) (n : Nat) (r : List Nd × Nat) (hc : headC k ns n = some r) (hup : upOk ns) (hn : n < ns.length) (hl : ns.length ≤ 1000000) : AFunO Tryz.prog 156 (cstS b ck bs ⟨ns, vr, ps⟩) [.bp 350001 0 [], .val (.i (n : Int))] (.val (.i (r.2 : Int))) (cstS b ck bs ⟨r.1, vr, ps⟩) := by
  refine afunO_of Tryz.func156 Tryz.ntmps156 rfl rfl rfl rfl rfl rfl ?_
  intro w U hU
  refine aS (aR ?_)
  (refine nx (aA (gN rfl) rfl rfl rfl rfl rfl) rfl ?_)
  show AWp _ _ _ _ _ _ _
  refine aS (aB (awp_loop (fun j s => ∃ ns n, headC j ns n = some r ∧ upOk ns ∧ n < ns.length ∧ ns.length ≤ 1000000 ∧ s = (0, AV.bp 350001 0 []) :: (1, .val (.i (n : Int))) :: cstS b ck bs ⟨ns, vr, ps⟩) (n := k) (s' := (0, AV.bp 350001 0 []) :: (1, .val (.i (n : Int))) :: cstS b ck bs ⟨ns, vr, ps⟩) (wk_sub ⟨rfl, rfl, rfl, rfl, rfl, rfl, rfl, rfl, rfl, trivial⟩) ⟨ns, n, hc, hup, hn, hl, rfl⟩ ?_))
  rintro j s ⟨ns, n, hc, hup, hn, hl, rfl⟩
  cases j with
  | zero => cases hc
  | succ j =>
  rw [headC] at hc
  obtain ⟨x, hx⟩ := nd_at hn
  have hx' := Nd.map_at hx
  have hxu : nU ns n = x.up := by unfold nU; rw [getD_at hx]
  have hlm : (ns.map Nd.cv).length = ns.length := List.length_map ..
  refine aS (aS (aR ?_))
  (refine nx (aM (gN rfl) rfl rfl rfl rfl rfl) rfl ?_)
  (refine nx (aNc (gN rfl) rfl rfl rfl rfl rfl) rfl ?_)
  (refine nx (aF (gN rfl) rfl rfl rfl rfl rfl rfl rfl rfl rfl) rfl ?_)
  (refine nx (aLf (gN rfl) rfl rfl rfl rfl rfl rfl rfl rfl rfl rfl rfl rfl rfl) rfl ?_)
  (refine nx (aM (gN rfl) rfl rfl rfl rfl rfl) rfl ?_)
  (refine nx (aIm (k := n) (gN rfl) rfl rfl rfl rfl rfl rfl rfl rfl rfl (by first | rfl | omega | (simp only [List.length_set, List.length_map, List.length_append, List.length_cons, List.length_nil] <;> omega) | (simp <;> omega))) rfl ?_)
  (refine nx (a_fieldM (gN rfl) rfl rfl rfl rfl rfl rfl rfl rfl rfl) rfl ?_)
  (refine nx (a_loadM (gN rfl) rfl rfl rfl rfl rfl rfl rfl rfl (hx') rfl (by first | rfl | omega | (simp only [List.length_set, List.length_map, List.length_append, List.length_cons, List.length_nil] <;> omega) | (simp <;> omega)) rfl rfl) rfl ?_)
  (refine nx (aM (gN rfl) rfl rfl rfl rfl rfl) rfl ?_)
  (refine nx (a_neq (gN rfl) rfl rfl rfl rfl rfl rfl) rfl ?_)
  show AWp _ _ _ _ _ _ _
  refine aC rfl (fun hne => ?_) (fun hne => ?_)
  · have hne : x.up ≠ n := by
      intro e
      rw [e] at hne
      simp at hne
    rw [if_neg (by rw [hxu]; exact hne)] at hc
    have hy0 : x.up < ns.length := by rw [← hxu]; exact hup n hn
    obtain ⟨y, hy⟩ := nd_at hy0
    have hy' := Nd.map_at hy
    have hyu : nU ns (nU ns n) = y.up := by rw [hxu]; unfold nU; rw [getD_at hy]
    rw [hyu] at hc
    have hyl : y.up < ns.length := by rw [← hyu]; exact hup _ (by rw [hxu]; exact hy0)
    refine aK ?_
    show AWp _ _ _ _ _ _ _
    refine aB (aS (aD (by kernel_rfl) (by kernel_rfl) ?_))
    (refine nx (aM (gN rfl) rfl rfl rfl rfl rfl) rfl ?_)
    (refine nx (aNc (gN rfl) rfl rfl rfl rfl rfl) rfl ?_)
    (refine nx (aF (gN rfl) rfl rfl rfl rfl rfl rfl rfl rfl rfl) rfl ?_)
    (refine nx (aLf (gN rfl) rfl rfl rfl rfl rfl rfl rfl rfl rfl rfl rfl rfl rfl) rfl ?_)
    (refine nx (aM (gN rfl) rfl rfl rfl rfl rfl) rfl ?_)
    (refine nx (aM (gN rfl) rfl rfl rfl rfl rfl) rfl ?_)
    (refine nx (aNc (gN rfl) rfl rfl rfl rfl rfl) rfl ?_)
    (refine nx (aF (gN rfl) rfl rfl rfl rfl rfl rfl rfl rfl rfl) rfl ?_)
    (refine nx (aLf (gN rfl) rfl rfl rfl rfl rfl rfl rfl rfl rfl rfl rfl rfl rfl) rfl ?_)
    (refine nx (aM (gN rfl) rfl rfl rfl rfl rfl) rfl ?_)
    (refine nx (aNc (gN rfl) rfl rfl rfl rfl rfl) rfl ?_)
    (refine nx (aF (gN rfl) rfl rfl rfl rfl rfl rfl rfl rfl rfl) rfl ?_)
    (refine nx (aLf (gN rfl) rfl rfl rfl rfl rfl rfl rfl rfl rfl rfl rfl rfl rfl) rfl ?_)
    (refine nx (aM (gN rfl) rfl rfl rfl rfl rfl) rfl ?_)
    (refine nx (aIm (k := n) (gN rfl) rfl rfl rfl rfl rfl rfl rfl rfl rfl (by first | rfl | omega | (simp only [List.length_set, List.length_map, List.length_append, List.length_cons, List.length_nil] <;> omega) | (simp <;> omega))) rfl ?_)
    (refine nx (a_fieldM (gN rfl) rfl rfl rfl rfl rfl rfl rfl rfl rfl) rfl ?_)
    (refine nx (a_loadM (gN rfl) rfl rfl rfl rfl rfl rfl rfl rfl (hx') rfl (by first | rfl | omega | (simp only [List.length_set, List.length_map, List.length_append, List.length_cons, List.length_nil] <;> omega) | (simp <;> omega)) rfl rfl) rfl ?_)
    (refine nx (aIm (k := x.up) (gN rfl) rfl rfl rfl rfl rfl rfl rfl rfl rfl (by first | rfl | omega | (simp only [List.length_set, List.length_map, List.length_append, List.length_cons, List.length_nil] <;> omega) | (simp <;> omega))) rfl ?_)
    (refine nx (a_fieldM (gN rfl) rfl rfl rfl rfl rfl rfl rfl rfl rfl) rfl ?_)
    (refine nx (a_loadM (gN rfl) rfl rfl rfl rfl rfl rfl rfl rfl (hy') rfl (by first | rfl | omega | (simp only [List.length_set, List.length_map, List.length_append, List.length_cons, List.length_nil] <;> omega) | (simp <;> omega)) rfl rfl) rfl ?_)
    (refine nx (aIm (k := n) (gN rfl) rfl rfl rfl rfl rfl rfl rfl rfl rfl (by first | rfl | omega | (simp only [List.length_set, List.length_map, List.length_append, List.length_cons, List.length_nil] <;> omega) | (simp <;> omega))) rfl ?_)
    (refine nx (a_fieldM (gN rfl) rfl rfl rfl rfl rfl rfl rfl rfl rfl) rfl ?_)
    (refine nx (a_storeM (gN rfl) rfl rfl rfl rfl rfl rfl (hx') rfl rfl (by first | rfl | omega | (simp only [List.length_set, List.length_map, List.length_append, List.length_cons, List.length_nil] <;> omega) | (simp <;> omega)) rfl) rfl ?_)
    refine ⟨by kernel_rfl, ?_⟩
    show AWp _ _ _ _ _ _ _
    obtain ⟨ns1, h1⟩ : ∃ ns1, ns1 = setUp ns n y.up := ⟨_, rfl⟩
    have hm1 : ns1.map Nd.cv = (ns.map Nd.cv).set n (Nd.cw { x with up := y.up }) := by rw [h1]; exact map_setUp hx
    have hl1 : ns1.length = ns.length := by rw [h1, setUpLen]
    have hx1 : ns1[n]? = some { x with up := y.up } := by rw [h1]; exact setUp_at hx
    have hx1' := Nd.map_at hx1
    have hxu1 : nU ns1 n = y.up := by unfold nU; rw [getD_at hx1]
    rw [← h1, hxu1] at hc
    have hlm1 : (ns1.map Nd.cv).length = ns1.length := List.length_map ..
    refine AWp.wk (wk_sub (s' := (0, AV.bp 350001 0 []) :: (1, .val (.i (n : Int))) :: cstS b ck bs ⟨ns1, vr, ps⟩) ⟨rfl, rfl, rfl, ?_, rfl, rfl, ?_, rfl, rfl, trivial⟩) ?_
    · show _ = some (AV.sl 400001 0 ns1.length 5); rw [hl1]; rfl
    · show _ = some (AV.mrow 194 5 (ns1.map Nd.cv)); rw [hm1]; rfl
    refine aR ?_
    (refine nx (aM (gN rfl) rfl rfl rfl rfl rfl) rfl ?_)
    (refine nx (aNc (gN rfl) rfl rfl rfl rfl rfl) rfl ?_)
    (refine nx (aF (gN rfl) rfl rfl rfl rfl rfl rfl rfl rfl rfl) rfl ?_)
    (refine nx (aLf (gN rfl) rfl rfl rfl rfl rfl rfl rfl rfl rfl rfl rfl rfl rfl) rfl ?_)
    (refine nx (aM (gN rfl) rfl rfl rfl rfl rfl) rfl ?_)
    (refine nx (aIm (k := n) (gN rfl) rfl rfl rfl rfl rfl rfl rfl rfl rfl (by first | rfl | omega | (simp only [List.length_set, List.length_map, List.length_append, List.length_cons, List.length_nil] <;> omega) | (simp <;> omega))) rfl ?_)
    (refine nx (a_fieldM (gN rfl) rfl rfl rfl rfl rfl rfl rfl rfl rfl) rfl ?_)
    (refine nx (a_loadM (gN rfl) rfl rfl rfl rfl rfl rfl rfl rfl (hx1') rfl (by first | rfl | omega | (simp only [List.length_set, List.length_map, List.length_append, List.length_cons, List.length_nil] <;> omega) | (simp <;> omega)) rfl rfl) rfl ?_)
    (refine nx (aA (gN rfl) rfl rfl rfl rfl rfl) rfl ?_)
    exact ⟨j, (0, AV.bp 350001 0 []) :: (1, .val (.i (y.up : Int))) :: cstS b ck bs ⟨ns1, vr, ps⟩, by omega, ⟨ns1, y.up, hc, by rw [h1]; exact hup.set hyl, by rw [hl1]; exact hyl, by rw [hl1]; exact hl, rfl⟩, wk_sub ⟨rfl, rfl, rfl, rfl, rfl, rfl, rfl, rfl, rfl, trivial⟩⟩
  · have hne : x.up = n := by
      have := of_decide_eq_false hne
      simp only [ne_eq, Decidable.not_not] at this
      omega
    rw [if_pos (by rw [hxu]; exact hne)] at hc
    cases hc
    refine aE ?_
    show AWp _ _ _ _ _ _ _
    refine aS (aR ?_)
    (refine nx (aM (gN rfl) rfl rfl rfl rfl rfl) rfl ?_)
    (refine nx (aA (gN rfl) rfl rfl rfl rfl rfl) rfl ?_)
    show AWp _ _ _ _ _ _ _
    exact aT ⟨.inr rfl, _, Wk.refl _, rfl, rfl, rfl, rfl, rfl, rfl, rfl, rfl, trivial⟩

def bindL (vr : List (Int × Nat)) (g : Nat → Tm) (js : List Nat) : List Bd := js.map fun j => ⟨(vr.getD j (0, 0)).1, g (vr.getD j (0, 0)).2⟩
theorem nodup_at {l : List Nat} (h : l.Nodup) : ∀ {i j x : Nat}, l[i]? = some x → l[j]? = some x → i = j := by
  induction l with
  | nil => intro i j x h1; simp at h1
  | cons y l ih =>
    intro i j x h1 h2
    rw [List.nodup_cons] at h
    cases i with
    | zero =>
      cases j with
      | zero => rfl
      | succ j =>
        simp at h1 h2
        subst h1
        exact absurd (List.mem_of_getElem? h2) h.1
    | succ i =>
      cases j with
      | zero =>
        simp at h1 h2
        subst h2
        exact absurd (List.mem_of_getElem? h1) h.1
      | succ j =>
        simp at h1 h2
        rw [ih h.2 h1 h2]
theorem perm_range {n : Nat} {js : List Nat} (hn : js.Nodup) (hl : ∀ j ∈ js, j < n) (ha : ∀ j, j < n → j ∈ js) : js.Perm (List.range n) :=
  (List.perm_ext_iff_of_nodup hn List.nodup_range).2 fun j => by
    rw [List.mem_range]
    exact ⟨hl j, ha j⟩
theorem nodup_leB {n : Nat} {l : List Nat} (hn : l.Nodup) (hl : ∀ j ∈ l, j < n) : l.length ≤ n := by
  have h : l.Perm ((List.range n).filter fun x => decide (x ∈ l)) := (List.perm_ext_iff_of_nodup hn (List.nodup_range.filter _)).2 fun x => by
    rw [List.mem_filter, List.mem_range, decide_eq_true_eq]
    exact ⟨fun h => ⟨hl x h, h⟩, fun h => h.2⟩
  have h2 := List.length_filter_le (fun x => decide (x ∈ l)) (List.range n)
  rw [h.length_eq]
  rw [List.length_range] at h2
  exact h2
theorem bindL_perm {vr : List (Int × Nat)} {g : Nat → Tm} {js : List Nat} (h : js.Perm (List.range vr.length)) : ∃ vr' : List (Int × Nat), vr'.Perm vr ∧ bindL vr g js = vr'.map fun p => (⟨p.1, g p.2⟩ : Bd) := by
  refine ⟨js.map fun j => vr.getD j (0, 0), ?_, by unfold bindL; rw [List.map_map]; rfl⟩
  refine (h.map _).trans ?_
  have : (List.range vr.length).map (fun j => vr.getD j (0, 0)) = vr := by
    apply List.ext_getElem?
    intro i
    rw [List.getElem?_map]
    rcases Nat.lt_or_ge i vr.length with hi | hi
    · rw [List.getElem?_range hi, Option.map_some, List.getD_eq_getElem?_getD, List.getElem?_eq_getElem hi]; rfl
    · rw [List.getElem?_eq_none (by simpa using hi), List.getElem?_eq_none hi]; rfl
  rw [this]
-- 
set_option maxHeartbeats 8000000 in
theorem uBind_abs (fu : Nat) (c0 : Cl) (od : List Nat) (q : Cl × List Tm) (hq : termsC fu od.reverse c0 (List.replicate c0.ns.length tm0) = some q) (hF : FitU c0) (hlq : q.1.ns.length = c0.ns.length) (hod : ∀ n ∈ od, n < c0.ns.length) (hol : od.length ≤ 1000) {H r : Nat → Nat} {E} (hC : ClsC q.1 H r E) (hFq : FitU q.1) (hvr : vrOk q.1.vr) (hvl : q.1.vr.length ≤ 100000) :
    AFunE (Sg := List Bd × Cl) Tryz.prog 124 (cstM c0) [.bp 350001 0 [], .val (intsV od)] (fun σ => ∃ vr' : List (Int × Nat), vr'.Perm q.1.vr ∧ σ.1 = vr'.map fun p => (⟨p.1, q.2.getD (H p.2) tm0⟩ : Bd)) (fun σ => .val (.lst (σ.1.map Bd.cv))) (fun σ => cstM σ.2) := by
  have hterms := uTerms_abs fu c0 od q hq hF hlq hod hol
  have hout : q.2.length = c0.ns.length := (TI.all (t := (c0, List.replicate c0.ns.length tm0)) (N := c0.ns.length) ⟨hF, by simp, Nat.le_refl _⟩ (fun n hn => hod n (List.mem_reverse.1 hn)) hq).1.out
  obtain ⟨N, hN⟩ : ∃ N, N = c0.ns.length := ⟨_, rfl⟩
  have hNl : N ≤ 1000 := by rw [hN]; exact Nat.le_trans (len_pw _) hF.big
  rw [← hN] at hterms hlq hout
  obtain ⟨c, out⟩ := q
  simp only at hC hFq hvr hvl hlq hout hterms ⊢
  obtain ⟨ns0, vr, ps⟩ := c
  simp only at hC hFq hvr hvl hlq hout hterms ⊢
  have hvm : ∀ (j : Nat) (p : Int × Nat), vr[j]? = some p → p.2 < N := fun j p hp => by
    have := (lookV_iff hvr.1 (v := p.1) (m := p.2)).2 (List.mem_of_getElem? hp)
    have := (hC.vrt p.1 p.2 this).1
    simp only at this
    omega
  have hlv : (vr.map vrv).length = vr.length := List.length_map ..
  refine afunE_of Tryz.func124 Tryz.ntmps124 rfl rfl rfl rfl rfl (fun σ => rfl) ?_
  intro w U hU
  refine aS (aR ?_)
  (refine nx (aA (gN rfl) rfl rfl rfl rfl rfl) rfl ?_)
  show AWp _ _ _ _ _ _ _
  refine aS (aR ?_)
  (refine nx (aM (gN rfl) rfl rfl rfl rfl rfl) rfl ?_)
  (refine nx (aM (gN rfl) rfl rfl rfl rfl rfl) rfl ?_)
  (refine nx (a_callO (gN rfl) rfl rfl rfl rfl rfl (hterms) (by repeat (first | exact trivial | refine ⟨rfl, ?_⟩)) (by first | rfl | kernel_rfl) (by first | rfl | kernel_rfl) (by first | rfl | kernel_rfl) (by first | rfl | kernel_rfl) (hnb_of (by first | rfl | kernel_rfl))) rfl ?_)
  (refine nx (aA (gN rfl) rfl rfl rfl rfl rfl) rfl ?_)
  show AWp _ _ _ _ _ _ _
  refine aS (aR ?_)
  (refine nx (aM (gN rfl) rfl rfl rfl rfl rfl) rfl ?_)
  (refine nx (aNc (gN rfl) rfl rfl rfl rfl rfl) rfl ?_)
  (refine nx (aF (gN rfl) rfl rfl rfl rfl rfl rfl rfl rfl rfl) rfl ?_)
  (refine nx (aLf (gN rfl) rfl rfl rfl rfl rfl rfl rfl rfl rfl rfl rfl rfl rfl) rfl ?_)
  (refine nx (a_lenMp (gN rfl) rfl rfl rfl rfl rfl rfl rfl rfl) rfl ?_)
  (refine nx (a_mk0 200017 (k := (vr.map vrv).length) (gN rfl) rfl rfl rfl rfl rfl rfl rfl rfl rfl rfl rfl rfl (by first | rfl | omega | (simp only [List.length_set, List.length_map, List.length_append, List.length_cons, List.length_nil] <;> omega) | (simp <;> omega)) (by first | rfl | omega | (simp only [List.length_set, List.length_map, List.length_append, List.length_cons, List.length_nil] <;> omega) | (simp <;> omega))) (by kernel_rfl) ?_)
  (refine nx (aA (gN rfl) rfl rfl rfl rfl rfl) rfl ?_)
  show AWp _ _ _ _ _ _ _
  refine AWp.wk ((wk_sub (s' := (0, AV.bp 350001 0 []) :: (5, .sl 300005 0 N 2) :: (6, .sl 200017 0 0 3) :: (200017, .mrow 112 3 []) :: (300005, .mrow 41 2 (out.map Tm.cv)) :: cstM ⟨ns0, vr, ps⟩) ⟨rfl, rfl, rfl, rfl, rfl, rfl, rfl, rfl, rfl, rfl, rfl, rfl, trivial⟩).trans (wk_renF 300001 400001 rfl rfl (hUno hU (by kernel_rfl)) (by kernel_rfl) (by kernel_rfl) (by kernel_rfl))) ?_
  refine AWp.stamps 300003 (l := vr.map vrv) rfl rfl fun b ck bs hbl hbn hbc => ?_
  rw [hlv] at hbl
  refine aS (aS (aR ?_))
  (refine nx (aM (gN rfl) rfl rfl rfl rfl rfl) rfl ?_)
  (refine nx (aNc (gN rfl) rfl rfl rfl rfl rfl) rfl ?_)
  (refine nx (aF (gN rfl) rfl rfl rfl rfl rfl rfl rfl rfl rfl) rfl ?_)
  (refine nx (aLf (gN rfl) rfl rfl rfl rfl rfl rfl rfl rfl rfl rfl rfl rfl rfl) rfl ?_)
  (refine nx (a_rangeM 300022 (gN rfl) rfl rfl rfl rfl rfl rfl rfl rfl) (by kernel_rfl) ?_)
  show AWp _ _ _ _ _ _ _
  obtain ⟨g, hg⟩ : ∃ g : Nat → Tm, g = fun m => out.getD (H m) tm0 := ⟨_, rfl⟩
  obtain ⟨st, hst⟩ : ∃ st : List Nat → List Nd → AS, st = fun js ns1 => (0, AV.bp 350001 0 []) :: (5, .sl 300005 0 N 2) :: (6, .sl 200017 0 js.length 3) :: (22, .mref 300022) :: (300022, .itr b ck ck (js.map fun j => bs.getD j 0)) :: (200017, .mrow 112 3 ((bindL vr g js).map Bd.cv)) :: (300005, .mrow 41 2 (out.map Tm.cv)) :: cstS b ck bs ⟨ns1, vr, ps⟩ := ⟨_, rfl⟩
  refine aB (awp_loop (fun m s => ∃ js ns1, m + js.length = vr.length ∧ js.Nodup ∧ (∀ j ∈ js, j < vr.length) ∧ ClsC ⟨ns1, vr, ps⟩ H r E ∧ FitU ⟨ns1, vr, ps⟩ ∧ ns1.length = N ∧ s = st js ns1) (n := vr.length) (s' := st [] ns0) (by rw [hst]; exact wk_sub ⟨rfl, rfl, rfl, rfl, rfl, rfl, rfl, rfl, rfl, rfl, rfl, rfl, rfl, rfl, trivial⟩) ⟨[], ns0, rfl, List.nodup_nil, (fun j hj => by cases hj), hC, hFq, hlq, rfl⟩ ?_)
  rintro m s ⟨js, ns1, hm, hjn, hjl, hC1, hF1, hl1, rfl⟩
  rw [hst]
  refine aS (awp_nextM (n := 300003) (k := .i64) rfl rfl rfl rfl rfl rfl rfl rfl rfl (vr_keys vr) hbc (Nat.le_refl _) (fun hall => ?_) (fun j x i vc hj hl hx => ?_))
  · refine ⟨_, _, _, aX (gN rfl) rfl rfl rfl rfl rfl rfl, (by first | rfl | kernel_rfl), ?_⟩
    show AWp _ _ _ _ _ _ _
    refine aS (aC rfl (fun hc => by cases hc) (fun _ => aE ?_))
    show AWp _ _ _ _ _ _ _
    have hcov : ∀ j, j < vr.length → j ∈ js := fun j hj => by
      have hjb : j < bs.length := by omega
      have h1 := hall (bs[j]) (List.getElem_mem hjb)
      obtain ⟨j', h2, h3⟩ := List.mem_map.1 h1
      have hj' := hjl j' h2
      have hjb' : j' < bs.length := by omega
      rw [List.getD_eq_getElem?_getD, List.getElem?_eq_getElem hjb'] at h3
      have h3 : bs[j'] = bs[j] := h3
      have := nodup_at hbn (List.getElem?_eq_getElem hjb') (by rw [h3]; exact List.getElem?_eq_getElem hjb)
      rw [← this]; exact h2
    obtain ⟨vr', hp, hb⟩ := bindL_perm (g := g) (perm_range hjn hjl hcov)
    have hbl2 : ((bindL vr g js).map Bd.cv).length = js.length := by rw [List.length_map]; unfold bindL; rw [List.length_map]
    refine AWp.wk (wk_frz 6 200017 rfl rfl rfl (.inr (by decide)) (by rw [hbl2]; omega) (s' := cstS b ck bs ⟨ns1, vr, ps⟩) ⟨rfl, rfl, rfl, rfl, rfl, rfl, rfl, trivial⟩ (by kernel_rfl)) ?_
    rw [List.drop_zero, List.take_of_length_le (by rw [hbl2]; omega)]
    refine aS (aR ?_)
    (refine nx (aM (gN rfl) rfl rfl rfl rfl rfl) rfl ?_)
    (refine nx (aA (gN rfl) rfl rfl rfl rfl rfl) rfl ?_)
    show AWp _ _ _ _ _ _ _
    refine aT ⟨.inr rfl, (bindL vr g js, ⟨ns1, vr, ps⟩), ⟨vr', hp, by rw [hb, hg]⟩, _, ((wk_sub (s' := (4, AV.val (.lst ((bindL vr g js).map Bd.cv))) :: cstS b ck bs ⟨ns1, vr, ps⟩) ⟨rfl, rfl, rfl, rfl, rfl, rfl, rfl, rfl, trivial⟩).trans (wk_unstm 300003 rfl rfl)).trans ((wk_sub (s' := (4, AV.val (.lst ((bindL vr g js).map Bd.cv))) :: cstF ⟨ns1, vr, ps⟩) ⟨rfl, rfl, rfl, rfl, rfl, rfl, rfl, rfl, trivial⟩).trans (wk_renF 400001 300001 rfl rfl (hUlow U (by decide)) (by kernel_rfl) (by kernel_rfl) (by kernel_rfl))), rfl, rfl, rfl, rfl, rfl, rfl, rfl, rfl, trivial⟩
  · refine ⟨_, _, _, aX (gN rfl) rfl rfl rfl rfl rfl rfl, (by first | rfl | kernel_rfl), ?_⟩
    show AWp _ _ _ _ _ _ _
    refine aS (aC rfl (fun _ => aK ?_) (fun hc => by cases hc))
    show AWp _ _ _ _ _ _ _
    have hjl2 : j < vr.length := by
      rcases Nat.lt_or_ge j bs.length with h | h
      · omega
      · rw [List.getElem?_eq_none h] at hj; cases hj
    obtain ⟨p, hp⟩ : ∃ p, vr[j]? = some p := ⟨vr[j], List.getElem?_eq_getElem hjl2⟩
    have hpi : i = p.1 ∧ vc = .i (p.2 : Int) := by
      rw [List.getElem?_map, hp] at hl
      have hl : some (CV.row [.i p.1, .i (p.2 : Int)]) = some (.row [.sc (.int .i64 i), vc]) := hl
      injection hl with hl
      injection hl with _ _ hl
      injection hl with hl hl'
      injection hl' with hl'
      injection hl with _ hl
      injection hl with _ hl
      exact ⟨hl.symm, hl'.symm⟩
    obtain ⟨rfl, rfl⟩ := hpi
    have hpN := hvm j p hp
    obtain ⟨ns2, hd, hC2, hl2, _⟩ := ClsC.head (r p.2 + 1) hC1 (n := p.2) (by omega) (by omega)
    obtain ⟨hF2, _, hr2⟩ := FitU.head hF1 (by omega) hd
    have hHN : H p.2 < N := by have : H p.2 < ns1.length := hr2; omega
    have hdc := uHeadS_abs b ck bs vr ps (r p.2 + 1) ns1 p.2 (ns2, H p.2) hd hF1.up (by omega) (by omega)
    obtain ⟨z, hz⟩ : ∃ z, out[H p.2]? = some z := ⟨out[H p.2]'(by omega), List.getElem?_eq_getElem (by omega)⟩
    have hz' := Tm.map_at hz
    have hlo : (out.map Tm.cv).length = out.length := List.length_map ..
    have hgz : g p.2 = z := by rw [hg]; show out.getD (H p.2) tm0 = z; rw [List.getD_eq_getElem?_getD, hz]; rfl
    have hbl2 : ((bindL vr g js).map Bd.cv).length = js.length := by rw [List.length_map]; unfold bindL; rw [List.length_map]
    have hbl3 : (bindL vr g js).length = js.length := by unfold bindL; rw [List.length_map]
    have hbz := Bd.size_all (bindL vr g js)
    have hjs : js.length ≤ 100000 := by omega
    have hnotin : j ∉ js := fun hmem => hx (List.mem_map.2 ⟨j, hmem, by rw [List.getD_eq_getElem?_getD, hj]; rfl⟩)
    have hsnoc : bindL vr g (js ++ [j]) = bindL vr g js ++ [⟨p.1, z⟩] := by
      unfold bindL
      rw [List.map_append, List.map_singleton, List.getD_eq_getElem?_getD, hp]
      show _ ++ [(⟨p.1, g p.2⟩ : Bd)] = _
      rw [hgz]
    have hnd : (js ++ [j]).Nodup := by
      rw [List.nodup_append]
      exact ⟨hjn, by simp, fun a ha b hb => by rw [List.mem_singleton] at hb; subst hb; exact fun e => hnotin (e ▸ ha)⟩
    have hlt : ∀ x ∈ js ++ [j], x < vr.length := fun x hx => by
      rcases List.mem_append.1 hx with h | h
      · exact hjl x h
      · rw [List.mem_singleton] at h; omega
    refine aB (aS (aR ?_))
    (refine nx (a_entryM (n := 300003) (gN rfl) rfl rfl rfl rfl rfl rfl rfl rfl (hj) (hl)) rfl ?_)
    (refine nx (aX (gN rfl) rfl rfl rfl rfl rfl rfl) rfl ?_)
    (refine nx (aX (gN rfl) rfl rfl rfl rfl rfl rfl) rfl ?_)
    (refine nx (aA (gN rfl) rfl rfl rfl rfl rfl) rfl ?_)
    (refine nx (aA (gN rfl) rfl rfl rfl rfl rfl) rfl ?_)
    show AWp _ _ _ _ _ _ _
    refine aR ?_
    (refine nx (aM (gN rfl) rfl rfl rfl rfl rfl) rfl ?_)
    (refine nx (aM (gN rfl) rfl rfl rfl rfl rfl) rfl ?_)
    (refine nx (aM (gN rfl) rfl rfl rfl rfl rfl) rfl ?_)
    (refine nx (aM (gN rfl) rfl rfl rfl rfl rfl) rfl ?_)
    (refine nx (aM (gN rfl) rfl rfl rfl rfl rfl) rfl ?_)
    (refine nx (a_callO (gN rfl) rfl rfl rfl rfl rfl (hdc) (by repeat (first | exact trivial | refine ⟨rfl, ?_⟩)) (by first | rfl | kernel_rfl) (by first | rfl | kernel_rfl) (by first | rfl | kernel_rfl) (by first | rfl | kernel_rfl) (hnb_of (by first | rfl | kernel_rfl))) rfl ?_)
    (refine nx (aIm (k := H p.2) (gN rfl) rfl rfl rfl rfl rfl rfl rfl rfl rfl (by first | rfl | omega | (simp only [List.length_set, List.length_map, List.length_append, List.length_cons, List.length_nil] <;> omega) | (simp <;> omega))) rfl ?_)
    (refine nx (a_loadM (gN rfl) rfl rfl rfl rfl rfl rfl rfl rfl (hz') rfl (by first | rfl | omega | (simp only [List.length_set, List.length_map, List.length_append, List.length_cons, List.length_nil] <;> omega) | (simp <;> omega)) rfl rfl) rfl ?_)
    (refine nx (a_build (gN rfl) rfl rfl rfl rfl rfl rfl rfl rfl rfl rfl rfl) rfl ?_)
    (refine nx (a_bslice (gN rfl) rfl rfl rfl rfl rfl rfl rfl rfl rfl rfl rfl rfl rfl) rfl ?_)
    (refine nx (a_appM 200038 (gN rfl) rfl rfl rfl rfl rfl rfl rfl rfl rfl rfl rfl rfl rfl (by first | rfl | omega | (simp only [List.length_set, List.length_map, List.length_append, List.length_cons, List.length_nil] <;> omega) | (simp <;> omega)) (by first | assumption | exact sZ rfl | exact Tm.size_all _ | exact Bd.size_all _ | exact ints_size _ | exact bys_size _ | exact Lt.size_all _) (by first | omega | (simp only [List.length_map, List.length_append, List.length_cons, List.length_nil] <;> omega) | (simp <;> omega))) (by kernel_rfl) ?_)
    (refine nx (aA (gN rfl) rfl rfl rfl rfl rfl) rfl ?_)
    refine ⟨m - 1, st (js ++ [j]) ns2, ?_, ⟨js ++ [j], ns2, ?_, ?_, ?_, hC2, hF2, by omega, by rw [hst]⟩, ?_⟩
    · have h2 := nodup_leB hnd hlt
      rw [List.length_append] at h2
      simp at h2
      omega
    · have h2 := nodup_leB hnd hlt
      rw [List.length_append] at h2 ⊢
      simp at h2 ⊢
      omega
    · exact hnd
    · exact hlt
    · rw [hst]
      refine (wk_sub (s' := (0, AV.bp 350001 0 []) :: (5, .sl 300005 0 N 2) :: (6, .sl 200038 0 (js ++ [j]).length 3) :: (22, .mref 300022) :: (300022, .itr b ck ck ((js ++ [j]).map fun j => bs.getD j 0)) :: (200038, .mrow 112 3 ((bindL vr g (js ++ [j])).map Bd.cv)) :: (300005, .mrow 41 2 (out.map Tm.cv)) :: cstS b ck bs ⟨ns2, vr, ps⟩) ⟨rfl, rfl, ?_, rfl, ?_, ?_, rfl, rfl, rfl, rfl, rfl, rfl, rfl, rfl, trivial⟩).trans (wk_ren 200038 200017 rfl rfl (by kernel_rfl) (by kernel_rfl))
      · rw [List.length_append, ← hbl2]; rfl
      · rw [List.map_append, List.map_singleton, List.getD_eq_getElem?_getD, hj]; rfl
      · rw [hsnoc, List.map_append, List.map_singleton]; rfl

end Go.Proofs.YteegmcfobgpemaaGreat
namespace Go.Proofs.YteegmcfobgpemaaGreat
open Go.RowKit
set_option linter.unusedVariables false
set_option linter.unusedSimpArgs false

end Go.Proofs.YteegmcfobgpemaaGreat
namespace Go.Proofs.YteegmcfobgpemaaGreat
open Go.RowKit
set_option linter.unusedVariables false
set_option linter.unusedSimpArgs false
set_option maxRecDepth 100000
section
variable {P : Program} {w0 : World} {U0 : UX} {nt : Nat} {Q : Exit → AS → Prop} {s : AS}
variable {ops : Array Oper} {o : Oper} {gs : List Nat} {S : Nat → Option AV} {d : Nat}
end




theorem vr_len {c : Cl} {H r : Nat → Nat} {E} (h : ClsC c H r E) (hv : vrOk c.vr) : c.vr.length ≤ c.ns.length := by
  have hn : (c.vr.map Prod.snd).Nodup := by
    have h1 : c.vr.Pairwise (fun a b => a.1 ≠ b.1) := List.pairwise_map.1 hv.1
    refine List.pairwise_map.2 (List.Pairwise.imp_of_mem (fun {a b} ha hb hab e => hab ?_) h1)
    have e1 := (h.vrt a.1 a.2 (lookV_mem hv.1 ha)).2
    have e2 := (h.vrt b.1 b.2 (lookV_mem hv.1 hb)).2
    rw [e] at e1
    omega
  have := nodup_le c.ns.length hn (fun x hx => by
    obtain ⟨p, hp, rfl⟩ := List.mem_map.1 hx
    exact (h.vrt p.1 p.2 (lookV_mem hv.1 hp)).1)
  simpa using this
def ToldU (l : List (Tm × Tm)) (r : List Bd × Bool) : Prop := (r.2 = false ∧ r.1 = [] ∧ ∀ τ, ¬ uni τ l) ∨ (r.2 = true ∧ ∃ s : List Bd, Mgu (imgB s) l ∧ (∀ b ∈ s, 0 ≤ b.v) ∧ (∀ v, 0 ≤ v → imgB s v = varT v ∨ ((imgB s v).rng ∧ (imgB s v).size ≤ 90000000000)) ∧ r.1 = normF s)
theorem ToldU.no {l : List (Tm × Tm)} {r : List Bd × Bool} (h : ToldU l r) (hn : ∀ τ, ¬ uni τ l) : r = ([], false) := by
  rcases h with ⟨h1, h2, _⟩ | ⟨_, s, hs, _⟩
  · cases r; simp_all
  · exact absurd hs.uni (hn _)
theorem ToldU.yes {l : List (Tm × Tm)} {r : List Bd × Bool} (h : ToldU l r) {u : List Bd} (hu : Mgu (imgB u) l) (hu0 : ∀ b ∈ u, 0 ≤ b.v) : r = (normF u, true) ∧ ∀ v, 0 ≤ v → imgB u v = varT v ∨ ((imgB u v).rng ∧ (imgB u v).size ≤ 90000000000) := by
  rcases h with ⟨_, _, h3⟩ | ⟨h1, s, hs, h0, hb, h2⟩
  · exact absurd hu.uni (h3 _)
  · refine ⟨?_, fun v hv => by rw [hs.one hu hv]; exact hb v hv⟩
    rw [← mgu_norm h0 hu0 hs hu, ← h2, ← h1]
theorem told_bind {l : List (Tm × Tm)} {r : List Bd × Bool} (h : ToldU l r) {vr vr' : List (Int × Nat)} (hv : vrOk vr) (hvb : ∀ p ∈ vr, p.1 ≤ 9223372036854775807) (hp : vr'.Perm vr) {g : Nat → Tm} {u : List Bd} (hu : u = vr'.map fun p => (⟨p.1, g p.2⟩ : Bd)) (hm : ∀ s : List Bd, (∀ v, findB s v = (lookV vr v).map g) → Mgu (imgB s) l) : r = (normF u, true) ∧ (u.map Bd.v).Nodup ∧ bdsOk u := by
  have hf : ∀ v, findB u v = (lookV vr v).map g := fun v => by rw [hu]; exact findB_bind hv.1 hp g v
  have hu0 : ∀ b ∈ u, 0 ≤ b.v := fun b hb => by
    rw [hu] at hb
    obtain ⟨p, hp2, rfl⟩ := List.mem_map.1 hb
    exact hv.2 p (hp.mem_iff.1 hp2)
  obtain ⟨h1, h2⟩ := h.yes (hm u hf) hu0
  refine ⟨h1, ?_, fun b hb => ?_⟩
  · rw [hu, List.map_map]
    exact (hp.map Prod.fst).nodup_iff.2 hv.1
  · have h3 := h2 b.v (hu0 b hb)
    have e : imgB u b.v = b.t := by
      unfold imgB
      rw [hf]
      rw [hu] at hb
      obtain ⟨p, hp2, rfl⟩ := List.mem_map.1 hb
      show ((lookV vr p.1).map g).getD _ = _
      rw [lookV_mem hv.1 (hp.mem_iff.1 hp2)]
      rfl
    rw [e] at h3
    rcases h3 with h3 | h3
    · rw [h3]
      have hb1 : b.v ≤ 9223372036854775807 := by
        rw [hu] at hb
        obtain ⟨p, hp2, rfl⟩ := List.mem_map.1 hb
        exact hvb p (hp.mem_iff.1 hp2)
      have hb0 := hu0 b hb
      exact ⟨leaf_rng (by omega) (by omega), by rw [Tm.size_var (by rw [varT_f]; omega)]; decide⟩
    · exact h3
end Go.Proofs.YteegmcfobgpemaaGreat
namespace Go.Proofs.YteegmcfobgpemaaGreat
set_option linter.unusedVariables false
set_option linter.unusedSimpArgs false
theorem two_three : ∀ E : Nat, 2 ^ E ≤ 3 ^ E
  | 0 => Nat.le_refl _
  | E + 1 => by
    have := two_three E
    rw [Nat.pow_succ, Nat.pow_succ]; omega
theorem k_two_three : ∀ k : Nat, k * 2 ^ k ≤ 3 ^ k
  | 0 => by decide
  | 1 => by decide
  | 2 => by decide
  | k + 3 => by
    have h := k_two_three (k + 2)
    have e1 : (k + 3) * 2 ^ (k + 3) = (2 * (k + 3)) * 2 ^ (k + 2) := by
      rw [Nat.pow_succ 2 (k + 2), Nat.mul_comm (2 ^ (k + 2)) 2, ← Nat.mul_assoc, Nat.mul_comm (k + 3) 2]
    have e2 : 3 ^ (k + 3) = 3 * 3 ^ (k + 2) := by rw [Nat.pow_succ 3 (k + 2), Nat.mul_comm]
    rw [e1, e2]
    have h2 : (2 * (k + 3)) * 2 ^ (k + 2) ≤ (3 * (k + 2)) * 2 ^ (k + 2) := Nat.mul_le_mul_right _ (by omega)
    rw [Nat.mul_assoc 3] at h2
    omega
def Big (E s : Nat) : Prop := 2 ^ E * (s + 1) ≤ 2 * 3 ^ E
theorem Big.succ {E s : Nat} (h : Big E s) : Big (E + 1) s := by
  unfold Big at *
  rw [Nat.pow_succ, Nat.pow_succ, Nat.mul_assoc, Nat.mul_left_comm]
  omega
theorem Big.up {E F s : Nat} (h : Big E s) (hf : E ≤ F) : Big F s := by
  induction hf with
  | refl => exact h
  | step _ ih => exact ih.succ
theorem Big.sum {E : Nat} : ∀ (l : List Nat), (∀ s ∈ l, Big E s) → 2 ^ E * (l.sum + l.length) ≤ 2 * l.length * 3 ^ E
  | [], _ => by simp
  | s :: l, h => by
    have h1 : 2 ^ E * (s + 1) ≤ 2 * 3 ^ E := h s (by simp)
    have h2 := Big.sum l fun x hx => h x (List.mem_cons_of_mem _ hx)
    rw [List.sum_cons, List.length_cons, show s + l.sum + (l.length + 1) = (s + 1) + (l.sum + l.length) by omega, Nat.mul_add, show 2 * (l.length + 1) * 3 ^ E = 2 * 3 ^ E + 2 * l.length * 3 ^ E by rw [Nat.mul_add, Nat.add_mul, Nat.add_comm]]
    omega
theorem Big.node {E : Nat} (l : List Nat) (h : ∀ s ∈ l, Big E s) : Big (E + l.length) (1 + l.sum) := by
  have h1 := Big.sum l h
  have h23 := two_three E
  have hk := k_two_three l.length
  unfold Big
  rw [Nat.pow_add, Nat.pow_add]
  obtain ⟨A, hA⟩ : ∃ A, A = 2 ^ E := ⟨_, rfl⟩
  obtain ⟨B, hB⟩ : ∃ B, B = 3 ^ E := ⟨_, rfl⟩
  rw [← hA, ← hB] at h1 h23 ⊢
  match l, h1, hk with
  | [], h1, hk => simp; omega
  | [s], h1, hk =>
    simp only [List.sum_cons, List.sum_nil, List.length_cons, List.length_nil, Nat.add_zero, Nat.zero_add, Nat.pow_one, Nat.mul_one] at h1 ⊢
    rw [Nat.mul_comm A 2, Nat.mul_assoc, show A * (1 + s + 1) = A * (s + 1) + A by rw [show 1 + s + 1 = (s + 1) + 1 by omega, Nat.mul_add, Nat.mul_one]]
    omega
  | s :: t :: l, h1, hk =>
    obtain ⟨m, hm⟩ : ∃ m, m = s :: t :: l := ⟨_, rfl⟩
    have hlen : 2 ≤ m.length := by rw [hm]; simp
    rw [← hm] at h1 hk ⊢
    obtain ⟨P, hP⟩ : ∃ P, P = 2 ^ m.length := ⟨_, rfl⟩
    obtain ⟨Q, hQ⟩ : ∃ Q, Q = 3 ^ m.length := ⟨_, rfl⟩
    rw [← hP, ← hQ] at hk
    rw [← hP, ← hQ]
    have h2 : A * (1 + m.sum + 1) ≤ A * (m.sum + m.length) := Nat.mul_le_mul_left _ (by omega)
    have h3 : A * (1 + m.sum + 1) ≤ 2 * m.length * B := Nat.le_trans h2 h1
    have h4 : P * (A * (1 + m.sum + 1)) ≤ P * (2 * m.length * B) := Nat.mul_le_mul_left _ h3
    have h5 : P * (2 * m.length * B) = 2 * (m.length * P * B) := by
      rw [Nat.mul_assoc 2, Nat.mul_left_comm P 2, ← Nat.mul_assoc P, Nat.mul_comm P m.length]
    have h6 : m.length * P * B ≤ Q * B := Nat.mul_le_mul_right _ hk
    rw [show A * P * (1 + m.sum + 1) = P * (A * (1 + m.sum + 1)) by rw [Nat.mul_comm A P, Nat.mul_assoc], Nat.mul_comm B Q]
    omega
theorem size_ren {g : Int → Int} {t : Tm} (hg : ∀ v ∈ t.vs, 0 ≤ g v) : (repT (fun v => varT (g v)) t).size = t.size := by
  induction t using Tm.ind with
  | h f l ih =>
    by_cases hf : f < 0
    · have h1 := hg (-1 - f) (by rw [Tm.vs_var (t := ⟨f, l⟩) hf]; simp)
      rw [repT_var (t := ⟨f, l⟩) hf, varT_strip, Tm.size_var (t := ⟨f, l⟩) hf]
      exact Tm.size_var (by rw [varT_f]; show -1 - g (-1 - f) < 0; omega)
    · rw [Tm.vs_sym (t := ⟨f, l⟩) hf] at hg
      rw [repT_sym (t := ⟨f, l⟩) hf, Tm.size_sym (t := ⟨f, l⟩) hf, Tm.size_sym (t := ⟨f, _⟩) hf, List.map_map]
      congr 2
      exact List.map_congr_left fun t ht => ih t ht fun v hv => hg v (List.mem_flatMap.2 ⟨t, ht, hv⟩)
theorem left_free {s : List Bd} {E : List (Tm × Tm)} (h : Mgu (imgB s) E) {t : Tm} {u : Int} (hu : u ∈ (repT (imgB s) t).vs) : findB (normF s) u = none := by
  have hu0 := vs_nonneg _ u hu
  rw [findN s hu0, h.rep_vs hu, if_pos]
  show (decide ((varT u).f < 0) && decide (-1 - (varT u).f = u)) = true
  rw [varT_f, decide_eq_true (by omega), decide_eq_true (by omega)]; rfl
def Shut (S : List Tm) : Prop := ∀ s ∈ S, ∀ p ∈ s.ps, p ∈ S
def Hits (S : List Tm) (σ : Int → Tm) (t : Tm) : Prop := ∃ s ∈ S, repT σ t = repT σ s
def Orig (S : List Tm) (σ : Int → Tm) : Prop := ∀ v, 0 ≤ v → ¬ (σ v).f < 0 → ∃ s ∈ S, ¬ s.f < 0 ∧ repT σ s = σ v
theorem Hits.sym {S : List Tm} {σ : Int → Tm} {t : Tm} (h : Hits S σ t) (ho : Orig S σ) (hb : ∀ v, 0 ≤ v → (σ v).strip = σ v) (hf : ¬ (repT σ t).f < 0) : ∃ s ∈ S, ¬ s.f < 0 ∧ repT σ t = repT σ s := by
  obtain ⟨s, hs, e⟩ := h
  by_cases hs0 : s.f < 0
  · have h0 : 0 ≤ -1 - s.f := by omega
    have e2 : repT σ s = σ (-1 - s.f) := by rw [repT_var hs0, hb _ h0]
    rw [e, e2] at hf
    obtain ⟨q, hq, hq0, e3⟩ := ho _ h0 hf
    exact ⟨q, hq, hq0, by rw [e, e2, e3]⟩
  · exact ⟨s, hs, hs0, e⟩
theorem sum_map_le {S : List Tm} {f g : Tm → Nat} (h : ∀ x ∈ S, f x ≤ g x) : (S.map f).sum ≤ (S.map g).sum := by
  induction S with
  | nil => exact Nat.le_refl _
  | cons a S ih =>
    rw [List.map_cons, List.map_cons, List.sum_cons, List.sum_cons]
    have h1 := h a (by simp)
    have h2 := ih fun x hx => h x (List.mem_cons_of_mem _ hx)
    omega
theorem sum_map_add {S : List Tm} {f g : Tm → Nat} {c : Nat} {s : Tm} (hs : s ∈ S) (hc : f s + c ≤ g s) (h : ∀ x ∈ S, f x ≤ g x) : (S.map f).sum + c ≤ (S.map g).sum := by
  induction S with
  | nil => cases hs
  | cons a S ih =>
    rw [List.map_cons, List.map_cons, List.sum_cons, List.sum_cons]
    have h1 := h a (by simp)
    rcases List.mem_cons.1 hs with rfl | hs
    · have := sum_map_le (S := S) fun x hx => h x (List.mem_cons_of_mem _ hx)
      omega
    · have := ih hs fun x hx => h x (List.mem_cons_of_mem _ hx)
      omega
def arN (S : List Tm) (σ : Int → Tm) (n : Nat) : Nat := (S.map fun s => if (repT σ s).size ≤ n then s.ps.length else 0).sum
theorem arN_mono {S : List Tm} {σ : Int → Tm} {n m : Nat} (h : n ≤ m) : arN S σ n ≤ arN S σ m := sum_map_le fun x _ => by
  split
  · rw [if_pos (by omega)]; exact Nat.le_refl _
  · exact Nat.zero_le _
theorem Big.one (E : Nat) : Big E 1 := by
  unfold Big
  have := two_three E
  omega
theorem img_big {S : List Tm} {σ : Int → Tm} (hc : Shut S) (ho : Orig S σ) (hb : ∀ v, 0 ≤ v → (σ v).strip = σ v) : ∀ (n : Nat), ∀ s ∈ S, ¬ s.f < 0 → (repT σ s).size ≤ n → Big (arN S σ n) (repT σ s).size := by
  intro n
  induction n with
  | zero => intro s _ _ h; have := Tm.size_pos (repT σ s); omega
  | succ n ih =>
    intro s hs hf hn
    by_cases hle : (repT σ s).size ≤ n
    · exact (ih s hs hf hle).up (arN_mono (by omega))
    have hsz : (repT σ s).size = n + 1 := by omega
    have hps : s.ps = s.l := Tm.ps_of_sym (by omega)
    have he : repT σ s = ⟨s.f, s.l.map (repT σ)⟩ := repT_sym hf
    have h1 : (repT σ s).size = 1 + ((s.l.map (repT σ)).map Tm.size).sum := by rw [he]; exact Tm.size_sym (t := ⟨s.f, s.l.map (repT σ)⟩) hf
    have hparts : ∀ x ∈ (s.l.map (repT σ)).map Tm.size, Big (arN S σ n) x := by
      intro x hx
      rw [List.map_map] at hx
      obtain ⟨p, hp, rfl⟩ := List.mem_map.1 hx
      show Big _ (repT σ p).size
      have hpS : p ∈ S := hc s hs p (by rw [hps]; exact hp)
      have hlt : (repT σ p).size < (repT σ s).size := Tm.size_part (by rw [he, Tm.ps_of_sym (by show 0 ≤ s.f; omega)]; exact List.mem_map.2 ⟨p, hp, rfl⟩)
      by_cases hv : (repT σ p).f < 0
      · rw [Tm.size_var hv]; exact Big.one _
      · obtain ⟨q, hq, hq0, e⟩ := Hits.sym ⟨p, hpS, rfl⟩ ho hb hv
        rw [e] at hlt ⊢
        exact ih q hq hq0 (by omega)
    have h2 := Big.node _ hparts
    rw [← h1] at h2
    refine h2.up ?_
    rw [List.length_map, List.length_map]
    refine sum_map_add hs ?_ fun x _ => ?_
    · rw [if_neg (by omega), if_pos (by omega), hps]; omega
    · split
      · rw [if_pos (by omega)]; exact Nat.le_refl _
      · exact Nat.zero_le _
def arA (S : List Tm) : Nat := (S.map fun s => s.ps.length).sum
theorem hits_big {S : List Tm} {σ : Int → Tm} (hc : Shut S) (ho : Orig S σ) (hb : ∀ v, 0 ≤ v → (σ v).strip = σ v) {t : Tm} (h : Hits S σ t) : Big (arA S) (repT σ t).size := by
  by_cases hv : (repT σ t).f < 0
  · rw [Tm.size_var hv]; exact Big.one _
  · obtain ⟨q, hq, hq0, e⟩ := h.sym ho hb hv
    rw [e]
    refine (img_big hc ho hb _ q hq hq0 (Nat.le_refl _)).up (sum_map_le fun x _ => ?_)
    split
    · exact Nat.le_refl _
    · exact Nat.zero_le _
theorem arA_app (S T : List Tm) : arA (S ++ T) = arA S + arA T := by unfold arA; rw [List.map_append, List.sum_append]
theorem arA_flat (t : Tm) : arA t.flat + 1 = t.size := by
  induction t using Tm.indp with
  | h t ih =>
    have : ∀ l : List Tm, (∀ s ∈ l, arA s.flat + 1 = s.size) → arA (l.flatMap Tm.flat) + l.length = (l.flatMap Tm.flat).length := by
      intro l
      induction l with
      | nil => intro _; rfl
      | cons a l ih2 =>
        intro h
        have h1 := h a (by simp)
        have h2 := ih2 fun s hs => h s (List.mem_cons_of_mem _ hs)
        unfold Tm.size at h1
        rw [List.flatMap_cons, arA_app, List.length_append, List.length_cons]
        omega
    have h3 := this t.ps ih
    rw [Tm.size_eq, Tm.flat_eq]
    show ((t :: t.ps.flatMap Tm.flat).map fun s : Tm => s.ps.length).sum + 1 = _
    rw [List.map_cons, List.sum_cons]
    have h4 : arA (t.ps.flatMap Tm.flat) = ((t.ps.flatMap Tm.flat).map fun s : Tm => s.ps.length).sum := rfl
    omega
theorem flat_shut (t : Tm) : Shut t.flat := by
  induction t using Tm.indp with
  | h t ih =>
    intro s hs p hp
    rw [Tm.flat_eq] at hs ⊢
    rcases List.mem_cons.1 hs with rfl | hs
    · refine List.mem_cons_of_mem _ (List.mem_flatMap.2 ⟨p, hp, ?_⟩)
      rw [Tm.flat_eq]; simp
    · obtain ⟨q, hq, hs⟩ := List.mem_flatMap.1 hs
      exact List.mem_cons_of_mem _ (List.mem_flatMap.2 ⟨q, hq, ih q hq s hs p hp⟩)
def subsP (l : List (Tm × Tm)) : List Tm := l.flatMap fun p => p.1.flat ++ p.2.flat
theorem subs_shut (l : List (Tm × Tm)) : Shut (subsP l) := by
  intro s hs p hp
  obtain ⟨q, hq, hs⟩ := List.mem_flatMap.1 hs
  refine List.mem_flatMap.2 ⟨q, hq, ?_⟩
  rcases List.mem_append.1 hs with hs | hs
  · exact List.mem_append_left _ (flat_shut _ s hs p hp)
  · exact List.mem_append_right _ (flat_shut _ s hs p hp)
theorem subs_has {l : List (Tm × Tm)} {p : Tm × Tm} (h : p ∈ l) : p.1 ∈ subsP l ∧ p.2 ∈ subsP l := by
  refine ⟨List.mem_flatMap.2 ⟨p, h, List.mem_append_left _ ?_⟩, List.mem_flatMap.2 ⟨p, h, List.mem_append_right _ ?_⟩⟩ <;> (rw [Tm.flat_eq]; simp)
theorem subs_ar : ∀ l : List (Tm × Tm), (∀ p ∈ l, p.1.size ≤ 16 ∧ p.2.size ≤ 16) → arA (subsP l) ≤ 30 * l.length
  | [], _ => Nat.le_refl _
  | p :: l, h => by
    have h1 := h p (by simp)
    have h2 := subs_ar l fun q hq => h q (List.mem_cons_of_mem _ hq)
    have e : subsP (p :: l) = (p.1.flat ++ p.2.flat) ++ subsP l := List.flatMap_cons
    have h3 := arA_flat p.1
    have h4 := arA_flat p.2
    rw [e, arA_app, arA_app, List.length_cons]
    omega
theorem big_60 {s E : Nat} (hE : E ≤ 60) (h : Big E s) : s ≤ 90000000000 := by
  have h := h.up hE
  unfold Big at h
  have e1 : (2 : Nat) ^ 60 = 1152921504606846976 := by decide
  have e2 : (3 : Nat) ^ 60 = 42391158275216203514294433201 := by decide
  rw [e1, e2] at h
  omega

structure MidU (V : List Int) (S : List Tm) (K : Nat) (s : List Bd) (E : List (Tm × Tm)) : Prop where
  mgu : Mgu (imgB s) E
  bare : bareB s
  inV : inV V s
  orig : Orig S (imgB s)
  len : s.length + frN V s ≤ K
  num : ∀ b ∈ s, b.v ∈ V
theorem rU_spec {V : List Int} (hV : ∀ v ∈ V, 0 ≤ v) {n : Nat} {s : List Bd} {a b : Tm} {E : List (Tm × Tm)} {r} (e : rU n s a b = some r) (hm : Mgu (imgB s) E) (hb : bareB s) (hi : inV V s) (ha : ∀ u ∈ a.vs, u ∈ V) (hbv : ∀ u ∈ b.vs, u ∈ V) : RSpec V E [(a, b)] s r := by
  obtain ⟨m, r', e', h⟩ := rU_ends hV _ _ s a b E rfl rfl hm hb hi ha hbv
  have h1 := rU_le (Nat.le_max_left n m) _ _ _ _ e
  have h2 := rU_le (Nat.le_max_right n m) _ _ _ _ e'
  rw [h1] at h2
  cases h2
  exact h
theorem bnd_len (s : List Bd) (x : Int) (t : Tm) : (bndS s x t).length = s.length + 1 := by unfold bndS; simp
theorem Orig.bnd {S : List Tm} {s : List Bd} (ho : Orig S (imgB s)) (hb : bareB s) {x : Int} {b : Tm} (hin : x ∉ (repT (imgB s) b).vs) (hh : Hits S (imgB s) b) : Orig S (imgB (bndS s x (repT (imgB s) b))) := by
  have hB : (repT (imgB s) b).strip = repT (imgB s) b := rep_bare _ _
  have hr : ∀ t, repT (imgB (bndS s x (repT (imgB s) b))) t = repT (oneS x (repT (imgB s) b)) (repT (imgB s) t) := fun t => by
    rw [rep_two]
    exact rep_congr fun v hv => img_bnd hB (vs_nonneg _ v hv)
  intro v hv hf
  rw [img_bnd hB hv] at hf ⊢
  by_cases h1 : (imgB s v).f < 0
  · obtain ⟨w, hw⟩ : ∃ w, w = -1 - (imgB s v).f := ⟨_, rfl⟩
    have e1 : repT (oneS x (repT (imgB s) b)) (imgB s v) = (oneS x (repT (imgB s) b) w).strip := by rw [repT_var h1, hw]
    rw [e1] at hf ⊢
    unfold oneS at hf ⊢
    by_cases hx : w = x
    · rw [if_pos hx, hB] at hf ⊢
      obtain ⟨q, hq, hq0, e⟩ := hh.sym ho (fun v hv => bare_img hb v) hf
      refine ⟨q, hq, hq0, ?_⟩
      rw [hr, ← e, one_off hin, hB]
    · rw [if_neg hx, varT_strip, varT_f] at hf
      omega
  · obtain ⟨q, hq, hq0, e⟩ := ho v hv h1
    exact ⟨q, hq, hq0, by rw [hr, e]⟩
structure Way (V : List Int) (S : List Tm) (s : List Bd) (a : Tm) : Prop where
  vs : ∀ u ∈ a.vs, u ∈ V
  hits : Hits S (imgB s) a
theorem bnd_num {V : List Int} {s : List Bd} {x : Int} {t : Tm} (h : ∀ b ∈ s, b.v ∈ V) (hx : x ∈ V) : ∀ b ∈ bndS s x t, b.v ∈ V := fun b hb => by
  rcases List.mem_append.1 hb with hb | hb
  · obtain ⟨c, hc, rfl⟩ := List.mem_map.1 hb; exact h c hc
  · rw [List.mem_singleton] at hb; rw [hb]; exact hx
theorem rUgo_var {V : List Int} (hV : ∀ v ∈ V, 0 ≤ v) {S : List Tm} {K n : Nat} {s : List Bd} {E : List (Tm × Tm)} (h : MidU V S K s E) {a b a1 b1 : Tm} (ha1 : a1 = repT (imgB s) a) (hb1 : b1 = repT (imgB s) b) (ha : Way V S s a) (hb : Way V S s b) (hf : a1.f < 0) {s' : List Bd} (hr : rUgo (rU n) s a1 b1 = some (some s')) : Orig S (imgB s') ∧ s'.length = s.length + 1 ∧ ∀ b ∈ s', b.v ∈ V := by
  unfold rUgo at hr
  rw [if_pos hf] at hr
  split at hr
  · cases hr
  · rename_i hin
    cases hr
    have hx : -1 - a1.f ∈ V := rep_inV h.inV ha.vs _ (by rw [← ha1, Tm.vs_var hf]; simp)
    rw [hb1] at hin ⊢
    exact ⟨h.orig.bnd h.bare hin hb.hits, bnd_len _ _ _, bnd_num h.num hx⟩
end Go.Proofs.YteegmcfobgpemaaGreat
namespace Go.Proofs.YteegmcfobgpemaaGreat
open Go.RowKit
set_option linter.unusedVariables false
set_option linter.unusedSimpArgs false
set_option maxRecDepth 100000

def lessN (v : Int) : List Bd → Nat
  | [] => 0
  | b :: l => if b.v < v then lessN v l + 1 else 0
def insV (b : Bd) (l : List Bd) : List Bd := l.take (lessN b.v l) ++ [b] ++ l.drop (lessN b.v l)
def knownB (L : List Bd) (i : Nat) (v : Int) : Bool := (L.take i).any fun c => decide (c.v = v)
def rnmF (L : List Bd) : Nat → List Bd
  | 0 => []
  | i + 1 => match L[i]? with
    | none => rnmF L i
    | some b => if knownB L i b.v || idleB b then rnmF L i else insV b (rnmF L i)
theorem lessN_le (v : Int) : ∀ l : List Bd, lessN v l ≤ l.length
  | [] => Nat.le_refl _
  | b :: l => by rw [lessN]; split <;> simp; exact lessN_le v l
theorem lessN_at {v : Int} : ∀ {l : List Bd} {k : Nat}, (∀ i c, i < k → l[i]? = some c → c.v < v) → (∀ c, l[k]? = some c → ¬ c.v < v) → k ≤ l.length → lessN v l = k
  | [], k, _, _, h => by simp at h; subst h; rfl
  | b :: l, 0, _, h, _ => by rw [lessN, if_neg (h b rfl)]
  | b :: l, k + 1, h1, h2, h3 => by
    rw [lessN, if_pos (h1 0 b (by omega) rfl), lessN_at (k := k) (fun i c hi hc => h1 (i + 1) c (by omega) (by simpa using hc)) (fun c hc => h2 c (by simpa using hc)) (by simpa using h3)]
theorem rnmF_len (L : List Bd) : ∀ i, (rnmF L i).length ≤ i
  | 0 => Nat.le_refl _
  | i + 1 => by
    have ih := rnmF_len L i
    rw [rnmF]
    split
    · omega
    · split
      · omega
      · rename_i b _ _
        have := lessN_le b.v (rnmF L i)
        unfold insV
        simp
        omega

-- 
set_option maxHeartbeats 4000000 in
theorem ref7Norm_abs (W : World) (L : List Bd) (hl : L.length ≤ 1000) (hr : ∀ b ∈ L, b.t.rng) : AFun Tryz.prog W 57 [.lst (L.map Bd.cv)] (.val (.lst ((rnmF L L.length).map Bd.cv))) := by
  have hsz := Bd.size_all L
  refine afun_of (rs := [.lst ((rnmF L L.length).map Bd.cv)]) Tryz.func57 Tryz.ntmps57 rfl rfl rfl rfl ?_
  intro w U hW
  refine aS (aR ?_)
  (refine nx (aA (gN rfl) rfl rfl rfl rfl rfl) rfl ?_)
  show AWp _ _ _ _ _ _ _
  refine aS (aR ?_)
  (refine nx (aA (gN rfl) rfl rfl rfl rfl rfl) rfl ?_)
  show AWp _ _ _ _ _ _ _
  refine aS (aS (aR ?_))
  (refine nx (aA (gN rfl) rfl rfl rfl rfl rfl) rfl ?_)
  show AWp _ _ _ _ _ _ _
  let st : Nat → AS := fun i => [(0, .val (.lst (L.map Bd.cv))), (3, .val (.lst ((rnmF L i).map Bd.cv))), (4, .val (.i i))]
  refine aB (awp_count L.length st ((wk_sub (s' := [(0, .val (.lst (L.map Bd.cv))), (3, ⟨0, .lst [], 1, 0, []⟩), (4, .val (.i (0 : Nat)))]) ⟨rfl, rfl, rfl, trivial⟩).trans (wk_plain 3 rfl)) ?_)
  intro i hi
  obtain ⟨O, hO⟩ : ∃ O, O = rnmF L i := ⟨_, rfl⟩
  have hOl : O.length ≤ i := by rw [hO]; exact rnmF_len L i
  have hOs := Bd.size_all O
  refine AWp.wk (wk_sub (s' := [(0, .val (.lst (L.map Bd.cv))), (3, .val (.lst (O.map Bd.cv))), (4, .val (.i i))]) ⟨rfl, by rw [hO]; rfl, rfl, trivial⟩) ?_
  refine aS (aS (aR ?_))
  (refine nx (aM (gN rfl) rfl rfl rfl rfl rfl) rfl ?_)
  (refine nx (aM (gN rfl) rfl rfl rfl rfl rfl) rfl ?_)
  (refine nx (a_len (gN rfl) rfl rfl rfl rfl rfl rfl rfl) rfl ?_)
  (refine nx (a_lss (gN rfl) rfl rfl rfl rfl rfl rfl) rfl ?_)
  show AWp _ _ _ _ _ _ _
  refine aC rfl (fun hlt => ?_) (fun hlt => ?_)
  · have hil : i < L.length := by have h : decide ((i : Int) < ((L.map Bd.cv).length : Int)) = true := hlt; simp at h; omega
    obtain ⟨x, hx⟩ : ∃ x, L[i]? = some x := ⟨L[i], List.getElem?_eq_getElem hil⟩
    have hx' := Bd.map_at hx
    have hxf : -9223372036854775808 ≤ x.t.f := ((Tm.rng_iff _).1 (hr x (List.mem_of_getElem? hx))).1.1
    refine aK ?_
    show AWp _ _ _ _ _ _ _
    refine aS (aB (aS (aR ?_)))
    (refine nx (aA (gN rfl) rfl rfl rfl rfl rfl) rfl ?_)
    show AWp _ _ _ _ _ _ _
    refine aS (aS (aR ?_))
    (refine nx (aA (gN rfl) rfl rfl rfl rfl rfl) rfl ?_)
    show AWp _ _ _ _ _ _ _
    let st2 : Nat → AS := fun k => [(0, .val (.lst (L.map Bd.cv))), (3, .val (.lst (O.map Bd.cv))), (4, .val (.i i)), (5, .val (.b (knownB L k x.v))), (6, .val (.i k))]
    refine aB (awp_count i st2 (wk_sub ⟨rfl, rfl, rfl, rfl, rfl, trivial⟩) ?_)
    intro k hk
    refine aS (aS (aR ?_))
    (refine nx (aM (gN rfl) rfl rfl rfl rfl rfl) rfl ?_)
    (refine nx (aM (gN rfl) rfl rfl rfl rfl rfl) rfl ?_)
    (refine nx (a_lss (gN rfl) rfl rfl rfl rfl rfl rfl) rfl ?_)
    show AWp _ _ _ _ _ _ _
    refine aC rfl (fun hlt2 => ?_) (fun hlt2 => ?_)
    · have hki : k < i := by simpa using hlt2
      obtain ⟨y, hy⟩ : ∃ y, L[k]? = some y := ⟨L[k]'(by omega), List.getElem?_eq_getElem (by omega)⟩
      have hy' := Bd.map_at hy
      have hkn : knownB L (k + 1) x.v = (knownB L k x.v || decide (y.v = x.v)) := by
        unfold knownB
        rw [take_snoc hy, List.any_append]
        simp
      refine aK ?_
      show AWp _ _ _ _ _ _ _
      cases hkk : knownB L k x.v with
      | true =>
        refine AWp.wk (wk_sub (s' := [(0, .val (.lst (L.map Bd.cv))), (3, .val (.lst (O.map Bd.cv))), (4, .val (.i i)), (5, .val (.b true)), (6, .val (.i k))]) ⟨rfl, rfl, rfl, by rw [← hkk]; rfl, rfl, trivial⟩) ?_
        refine aS (aB (aD (by kernel_rfl) (by kernel_rfl) ?_))
        (refine nx (aM (gN rfl) rfl rfl rfl rfl rfl) rfl ?_)
        (refine nx (aM (gN rfl) rfl rfl rfl rfl rfl) rfl ?_)
        (refine ⟨_, _, _, a_off (go_off rfl rfl rfl rfl (by first | rfl | assumption | (simp; done) | (simp [*]; done))) rfl rfl rfl, rfl, ?_⟩)
        (refine ⟨_, _, _, a_off (go_off rfl rfl rfl rfl (by first | rfl | assumption | (simp; done) | (simp [*]; done))) rfl rfl rfl, rfl, ?_⟩)
        (refine ⟨_, _, _, a_off (go_off rfl rfl rfl rfl (by first | rfl | assumption | (simp; done) | (simp [*]; done))) rfl rfl rfl, rfl, ?_⟩)
        (refine ⟨_, _, _, a_off (go_off rfl rfl rfl rfl (by first | rfl | assumption | (simp; done) | (simp [*]; done))) rfl rfl rfl, rfl, ?_⟩)
        (refine ⟨_, _, _, a_off (go_off rfl rfl rfl rfl (by first | rfl | assumption | (simp; done) | (simp [*]; done))) rfl rfl rfl, rfl, ?_⟩)
        (refine ⟨_, _, _, a_off (go_off rfl rfl rfl rfl (by first | rfl | assumption | (simp; done) | (simp [*]; done))) rfl rfl rfl, rfl, ?_⟩)
        (refine ⟨_, _, _, a_off (go_off rfl rfl rfl rfl (by first | rfl | assumption | (simp; done) | (simp [*]; done))) rfl rfl rfl, rfl, ?_⟩)
        (refine ⟨_, _, _, a_off (go_off rfl rfl rfl rfl (by first | rfl | assumption | (simp; done) | (simp [*]; done))) rfl rfl rfl, rfl, ?_⟩)
        (refine ⟨_, _, _, a_off (go_off rfl rfl rfl rfl (by first | rfl | assumption | (simp; done) | (simp [*]; done))) rfl rfl rfl, rfl, ?_⟩)
        (refine ⟨_, _, _, a_off (go_off rfl rfl rfl rfl (by first | rfl | assumption | (simp; done) | (simp [*]; done))) rfl rfl rfl, rfl, ?_⟩)
        (refine ⟨_, _, _, a_off (go_off rfl rfl rfl rfl (by first | rfl | assumption | (simp; done) | (simp [*]; done))) rfl rfl rfl, rfl, ?_⟩)
        (refine ⟨_, _, _, aPt (gN rfl) rfl rfl rfl rfl rfl ?hb rfl, rfl, ?_⟩; case hb => (first | rfl | assumption | (simp; done)))
        (refine nx (aA (gN rfl) rfl rfl rfl rfl rfl) rfl ?_)
        refine ⟨by kernel_rfl, ?_⟩
        show AWp _ _ _ _ _ _ _
        refine aR ?_
        (refine nx (aM (gN rfl) rfl rfl rfl rfl rfl) rfl ?_)
        (refine nx (a_add (gN rfl) rfl rfl rfl rfl rfl rfl (by first | omega | (simp only [List.length_map, List.length_append, List.length_cons, List.length_nil] <;> omega) | (simp <;> omega))) rfl ?_)
        (refine nx (aA (gN rfl) rfl rfl rfl rfl rfl) rfl ?_)
        exact ⟨hki, wk_sub ⟨rfl, rfl, rfl, by rw [hkn, hkk]; rfl, rfl, trivial⟩⟩
      | false =>
        refine AWp.wk (wk_sub (s' := [(0, .val (.lst (L.map Bd.cv))), (3, .val (.lst (O.map Bd.cv))), (4, .val (.i i)), (5, .val (.b false)), (6, .val (.i k))]) ⟨rfl, rfl, rfl, by rw [← hkk]; rfl, rfl, trivial⟩) ?_
        refine aS (aB (aD (by kernel_rfl) (by kernel_rfl) ?_))
        (refine nx (aM (gN rfl) rfl rfl rfl rfl rfl) rfl ?_)
        (refine nx (aM (gN rfl) rfl rfl rfl rfl rfl) rfl ?_)
        (refine nx (aM (gd_on rfl rfl rfl rfl (by first | rfl | assumption | (simp; done))) rfl rfl rfl rfl rfl) rfl ?_)
        (refine nx (aM (gd_on rfl rfl rfl rfl (by first | rfl | assumption | (simp; done))) rfl rfl rfl rfl rfl) rfl ?_)
        (refine nx (a_index (gd_on rfl rfl rfl rfl (by first | rfl | assumption | (simp; done))) rfl rfl rfl rfl rfl rfl rfl rfl rfl (by assumption) rfl (by first | assumption | exact sZ rfl | exact Tm.size_all _ | exact Bd.size_all _ | exact ints_size _ | exact bys_size _ | exact Lt.size_all _)) rfl ?_)
        (refine nx (a_field_ad (gd_on rfl rfl rfl rfl (by first | rfl | assumption | (simp; done))) rfl rfl rfl rfl rfl rfl rfl rfl rfl rfl rfl) rfl ?_)
        (refine nx (a_load_ad (gd_on rfl rfl rfl rfl (by first | rfl | assumption | (simp; done))) rfl rfl rfl rfl rfl rfl rfl rfl rfl) rfl ?_)
        (refine nx (aM (gd_on rfl rfl rfl rfl (by first | rfl | assumption | (simp; done))) rfl rfl rfl rfl rfl) rfl ?_)
        (refine nx (aM (gd_on rfl rfl rfl rfl (by first | rfl | assumption | (simp; done))) rfl rfl rfl rfl rfl) rfl ?_)
        (refine nx (a_index (gd_on rfl rfl rfl rfl (by first | rfl | assumption | (simp; done))) rfl rfl rfl rfl rfl rfl rfl rfl rfl (by assumption) rfl (by first | assumption | exact sZ rfl | exact Tm.size_all _ | exact Bd.size_all _ | exact ints_size _ | exact bys_size _ | exact Lt.size_all _)) rfl ?_)
        (refine nx (a_field_ad (gd_on rfl rfl rfl rfl (by first | rfl | assumption | (simp; done))) rfl rfl rfl rfl rfl rfl rfl rfl rfl rfl rfl) rfl ?_)
        (refine nx (a_load_ad (gd_on rfl rfl rfl rfl (by first | rfl | assumption | (simp; done))) rfl rfl rfl rfl rfl rfl rfl rfl rfl) rfl ?_)
        (refine nx (a_eql (gd_on rfl rfl rfl rfl (by first | rfl | assumption | (simp; done))) rfl rfl rfl rfl rfl rfl) rfl ?_)
        (refine ⟨_, _, _, aPf (gN rfl) rfl rfl rfl rfl rfl ?hb rfl, rfl, ?_⟩; case hb => (first | rfl | assumption | (simp; done)))
        (refine nx (aA (gN rfl) rfl rfl rfl rfl rfl) rfl ?_)
        refine ⟨by kernel_rfl, ?_⟩
        show AWp _ _ _ _ _ _ _
        refine aR ?_
        (refine nx (aM (gN rfl) rfl rfl rfl rfl rfl) rfl ?_)
        (refine nx (a_add (gN rfl) rfl rfl rfl rfl rfl rfl (by first | omega | (simp only [List.length_map, List.length_append, List.length_cons, List.length_nil] <;> omega) | (simp <;> omega))) rfl ?_)
        (refine nx (aA (gN rfl) rfl rfl rfl rfl rfl) rfl ?_)
        exact ⟨hki, wk_sub ⟨rfl, rfl, rfl, by rw [hkn, hkk]; rfl, rfl, trivial⟩⟩
    have hki : k = i := by
      have : ¬ k < i := by simpa using hlt2
      omega
    subst hki
    refine aE ?_
    show AWp _ _ _ _ _ _ _
    have hrn : rnmF L (k + 1) = if knownB L k x.v || idleB x then O else insV x O := by rw [rnmF, hx, hO]
    have hstay : (knownB L k x.v || idleB x) = true → rnmF L (k + 1) = O := fun h => by rw [hrn, if_pos h]
    let sb : Bool → AS := fun q => [(0, .val (.lst (L.map Bd.cv))), (3, .val (.lst (O.map Bd.cv))), (4, .val (.i k)), (5, .val (.b q))]
    let sc : AS := [(0, .val (.lst (L.map Bd.cv))), (3, .val (.lst (O.map Bd.cv))), (4, .val (.i k))]
    cases hkk : knownB L k x.v with
    | true =>
      refine AWp.wk (wk_sub (s' := sb true) ⟨rfl, rfl, rfl, by rw [← hkk]; rfl, trivial⟩) ?_
      refine aS (aS (aD (by kernel_rfl) (by kernel_rfl) ?_))
      (refine nx (aM (gN rfl) rfl rfl rfl rfl rfl) rfl ?_)
      (refine nx (aM (gN rfl) rfl rfl rfl rfl rfl) rfl ?_)
      (refine ⟨_, _, _, a_offt (go_off rfl rfl rfl rfl (by first | rfl | assumption | (simp; done) | (simp [*]; done))) rfl rfl rfl, rfl, ?_⟩)
      (refine ⟨_, _, _, a_offt (go_off rfl rfl rfl rfl (by first | rfl | assumption | (simp; done) | (simp [*]; done))) rfl rfl rfl, rfl, ?_⟩)
      (refine ⟨_, _, _, a_offt (go_off rfl rfl rfl rfl (by first | rfl | assumption | (simp; done) | (simp [*]; done))) rfl rfl rfl, rfl, ?_⟩)
      (refine ⟨_, _, _, a_offt (go_off rfl rfl rfl rfl (by first | rfl | assumption | (simp; done) | (simp [*]; done))) rfl rfl rfl, rfl, ?_⟩)
      (refine ⟨_, _, _, a_offt (go_off rfl rfl rfl rfl (by first | rfl | assumption | (simp; done) | (simp [*]; done))) rfl rfl rfl, rfl, ?_⟩)
      (refine ⟨_, _, _, a_offt (go_off rfl rfl rfl rfl (by first | rfl | assumption | (simp; done) | (simp [*]; done))) rfl rfl rfl, rfl, ?_⟩)
      (refine ⟨_, _, _, a_offt (go_off rfl rfl rfl rfl (by first | rfl | assumption | (simp; done) | (simp [*]; done))) rfl rfl rfl, rfl, ?_⟩)
      (refine ⟨_, _, _, a_offt (go_off rfl rfl rfl rfl (by first | rfl | assumption | (simp; done) | (simp [*]; done))) rfl rfl rfl, rfl, ?_⟩)
      (refine ⟨_, _, _, a_offt (go_off_t rfl rfl rfl rfl) rfl rfl rfl, rfl, ?_⟩)
      (refine ⟨_, _, _, a_offt (go_off_t rfl rfl rfl rfl) rfl rfl rfl, rfl, ?_⟩)
      (refine ⟨_, _, _, a_offt (go_off_t rfl rfl rfl rfl) rfl rfl rfl, rfl, ?_⟩)
      (refine ⟨_, _, _, a_offt (go_off_t rfl rfl rfl rfl) rfl rfl rfl, rfl, ?_⟩)
      (refine ⟨_, _, _, a_offt (go_off_t rfl rfl rfl rfl) rfl rfl rfl, rfl, ?_⟩)
      (refine ⟨_, _, _, a_offt (go_off_t rfl rfl rfl rfl) rfl rfl rfl, rfl, ?_⟩)
      (refine ⟨_, _, _, a_offt (go_off_t rfl rfl rfl rfl) rfl rfl rfl, rfl, ?_⟩)
      (refine ⟨_, _, _, a_offt (go_off_t rfl rfl rfl rfl) rfl rfl rfl, rfl, ?_⟩)
      (refine ⟨_, _, _, a_offt (go_off_t rfl rfl rfl rfl) rfl rfl rfl, rfl, ?_⟩)
      (refine ⟨_, _, _, a_offt (go_off_t rfl rfl rfl rfl) rfl rfl rfl, rfl, ?_⟩)
      (refine ⟨_, _, _, a_offt (go_off_t rfl rfl rfl rfl) rfl rfl rfl, rfl, ?_⟩)
      (refine ⟨_, _, _, a_offt (go_off_t rfl rfl rfl rfl) rfl rfl rfl, rfl, ?_⟩)
      (refine ⟨_, _, _, a_offt (go_off_t rfl rfl rfl rfl) rfl rfl rfl, rfl, ?_⟩)
      (refine ⟨_, _, _, a_offt (go_off rfl rfl rfl rfl (by first | rfl | assumption | (simp; done) | (simp [*]; done))) rfl rfl rfl, rfl, ?_⟩)
      (refine ⟨_, _, _, aPt (gN rfl) rfl rfl rfl rfl rfl ?hb rfl, rfl, ?_⟩; case hb => (first | rfl | assumption | (simp; done)))
      refine ⟨by kernel_rfl, ?_⟩
      show AWp _ _ _ _ _ _ _
      refine aC rfl (fun _ => ?_) (fun h => by cases h)
      refine aE ?_
      show AWp _ _ _ _ _ _ _
      refine aR ?_
      (refine nx (aM (gN rfl) rfl rfl rfl rfl rfl) rfl ?_)
      (refine nx (a_add (gN rfl) rfl rfl rfl rfl rfl rfl (by first | omega | (simp only [List.length_map, List.length_append, List.length_cons, List.length_nil] <;> omega) | (simp <;> omega))) rfl ?_)
      (refine nx (aA (gN rfl) rfl rfl rfl rfl rfl) rfl ?_)
      exact ⟨hil, wk_sub ⟨rfl, by rw [hstay (by rw [hkk]; rfl)]; rfl, rfl, trivial⟩⟩
    | false =>
    refine AWp.wk (wk_sub (s' := sb false) ⟨rfl, rfl, rfl, by rw [← hkk]; rfl, trivial⟩) ?_
    cases hid : idleB x with
    | true =>
      have hid2 := hid
      unfold idleB at hid2
      rw [Bool.and_eq_true] at hid2
      obtain ⟨g, g2⟩ := hid2
      refine aS (aS (aD (by kernel_rfl) (by kernel_rfl) ?_))
      have hf : x.t.f < 0 := by simpa using g
      (refine nx (aM (gN rfl) rfl rfl rfl rfl rfl) rfl ?_)
      (refine nx (aM (gN rfl) rfl rfl rfl rfl rfl) rfl ?_)
      (refine nx (aM (gd_on rfl rfl rfl rfl (by first | rfl | assumption | (simp; done))) rfl rfl rfl rfl rfl) rfl ?_)
      (refine nx (aM (gd_on rfl rfl rfl rfl (by first | rfl | assumption | (simp; done))) rfl rfl rfl rfl rfl) rfl ?_)
      (refine nx (a_index (gd_on rfl rfl rfl rfl (by first | rfl | assumption | (simp; done))) rfl rfl rfl rfl rfl rfl rfl rfl rfl (by assumption) rfl (by first | assumption | exact sZ rfl | exact Tm.size_all _ | exact Bd.size_all _ | exact ints_size _ | exact bys_size _ | exact Lt.size_all _)) rfl ?_)
      (refine nx (a_field_ad (gd_on rfl rfl rfl rfl (by first | rfl | assumption | (simp; done))) rfl rfl rfl rfl rfl rfl rfl rfl rfl rfl rfl) rfl ?_)
      (refine nx (a_field_ad (gd_on rfl rfl rfl rfl (by first | rfl | assumption | (simp; done))) rfl rfl rfl rfl rfl rfl rfl rfl rfl rfl rfl) rfl ?_)
      (refine nx (a_load_ad (gd_on rfl rfl rfl rfl (by first | rfl | assumption | (simp; done))) rfl rfl rfl rfl rfl rfl rfl rfl rfl) rfl ?_)
      (refine nx (a_lss (gd_on rfl rfl rfl rfl (by first | rfl | assumption | (simp; done))) rfl rfl rfl rfl rfl rfl) rfl ?_)
      (refine nx (aM (gd_on rfl rfl rfl rfl (by first | rfl | assumption | (simp; done))) rfl rfl rfl rfl rfl) rfl ?_)
      (refine nx (aM (gd_on rfl rfl rfl rfl (by first | rfl | assumption | (simp; done))) rfl rfl rfl rfl rfl) rfl ?_)
      (refine nx (aM (gd_on rfl rfl rfl rfl (by first | rfl | assumption | (simp; done))) rfl rfl rfl rfl rfl) rfl ?_)
      (refine nx (a_index (gd_on rfl rfl rfl rfl (by first | rfl | assumption | (simp; done))) rfl rfl rfl rfl rfl rfl rfl rfl rfl (by assumption) rfl (by first | assumption | exact sZ rfl | exact Tm.size_all _ | exact Bd.size_all _ | exact ints_size _ | exact bys_size _ | exact Lt.size_all _)) rfl ?_)
      (refine nx (a_field_ad (gd_on rfl rfl rfl rfl (by first | rfl | assumption | (simp; done))) rfl rfl rfl rfl rfl rfl rfl rfl rfl rfl rfl) rfl ?_)
      (refine nx (a_field_ad (gd_on rfl rfl rfl rfl (by first | rfl | assumption | (simp; done))) rfl rfl rfl rfl rfl rfl rfl rfl rfl rfl rfl) rfl ?_)
      (refine nx (a_load_ad (gd_on rfl rfl rfl rfl (by first | rfl | assumption | (simp; done))) rfl rfl rfl rfl rfl rfl rfl rfl rfl) rfl ?_)
      (refine nx (a_sub (gd_on rfl rfl rfl rfl (by first | rfl | assumption | (simp; done))) rfl rfl rfl rfl rfl rfl (by first | omega | (simp only [List.length_map, List.length_append, List.length_cons, List.length_nil] <;> omega) | (simp <;> omega))) rfl ?_)
      (refine nx (aM (gd_on rfl rfl rfl rfl (by first | rfl | assumption | (simp; done))) rfl rfl rfl rfl rfl) rfl ?_)
      (refine nx (aM (gd_on rfl rfl rfl rfl (by first | rfl | assumption | (simp; done))) rfl rfl rfl rfl rfl) rfl ?_)
      (refine nx (a_index (gd_on rfl rfl rfl rfl (by first | rfl | assumption | (simp; done))) rfl rfl rfl rfl rfl rfl rfl rfl rfl (by assumption) rfl (by first | assumption | exact sZ rfl | exact Tm.size_all _ | exact Bd.size_all _ | exact ints_size _ | exact bys_size _ | exact Lt.size_all _)) rfl ?_)
      (refine nx (a_field_ad (gd_on rfl rfl rfl rfl (by first | rfl | assumption | (simp; done))) rfl rfl rfl rfl rfl rfl rfl rfl rfl rfl rfl) rfl ?_)
      (refine nx (a_load_ad (gd_on rfl rfl rfl rfl (by first | rfl | assumption | (simp; done))) rfl rfl rfl rfl rfl rfl rfl rfl rfl) rfl ?_)
      (refine nx (a_eql (gd_on rfl rfl rfl rfl (by first | rfl | assumption | (simp; done))) rfl rfl rfl rfl rfl rfl) rfl ?_)
      (refine ⟨_, _, _, aPt (gd_on rfl rfl rfl rfl (by first | rfl | assumption | (simp; done))) rfl rfl rfl rfl rfl ?hb rfl, rfl, ?_⟩; case hb => (first | rfl | assumption | (simp; done)))
      (refine ⟨_, _, _, aPf (gN rfl) rfl rfl rfl rfl rfl ?hb rfl, rfl, ?_⟩; case hb => (first | rfl | assumption | (simp; done)))
      refine ⟨by kernel_rfl, ?_⟩
      show AWp _ _ _ _ _ _ _
      refine aC rfl (fun hc => ?_) (fun hc => ?_)
      · refine aE ?_
        show AWp _ _ _ _ _ _ _
        refine aR ?_
        (refine nx (aM (gN rfl) rfl rfl rfl rfl rfl) rfl ?_)
        (refine nx (a_add (gN rfl) rfl rfl rfl rfl rfl rfl (by first | omega | (simp only [List.length_map, List.length_append, List.length_cons, List.length_nil] <;> omega) | (simp <;> omega))) rfl ?_)
        (refine nx (aA (gN rfl) rfl rfl rfl rfl rfl) rfl ?_)
        exact ⟨hil, wk_sub ⟨rfl, by rw [hstay (by rw [hid]; simp)]; rfl, rfl, trivial⟩⟩
      · exact absurd (g2.symm.trans hc) (by decide)
    | false =>
    have hins : rnmF L (k + 1) = insV x O := by rw [hrn, hkk, hid]; rfl
    refine awp_mid sc ?_ ?_
    · by_cases hf : x.t.f < 0
      · have g : decide (x.t.f < 0) = true := by simpa using hf
        refine aS (aD (by kernel_rfl) (by kernel_rfl) ?_)
        (refine nx (aM (gN rfl) rfl rfl rfl rfl rfl) rfl ?_)
        (refine nx (aM (gN rfl) rfl rfl rfl rfl rfl) rfl ?_)
        (refine nx (aM (gd_on rfl rfl rfl rfl (by first | rfl | assumption | (simp; done))) rfl rfl rfl rfl rfl) rfl ?_)
        (refine nx (aM (gd_on rfl rfl rfl rfl (by first | rfl | assumption | (simp; done))) rfl rfl rfl rfl rfl) rfl ?_)
        (refine nx (a_index (gd_on rfl rfl rfl rfl (by first | rfl | assumption | (simp; done))) rfl rfl rfl rfl rfl rfl rfl rfl rfl (by assumption) rfl (by first | assumption | exact sZ rfl | exact Tm.size_all _ | exact Bd.size_all _ | exact ints_size _ | exact bys_size _ | exact Lt.size_all _)) rfl ?_)
        (refine nx (a_field_ad (gd_on rfl rfl rfl rfl (by first | rfl | assumption | (simp; done))) rfl rfl rfl rfl rfl rfl rfl rfl rfl rfl rfl) rfl ?_)
        (refine nx (a_field_ad (gd_on rfl rfl rfl rfl (by first | rfl | assumption | (simp; done))) rfl rfl rfl rfl rfl rfl rfl rfl rfl rfl rfl) rfl ?_)
        (refine nx (a_load_ad (gd_on rfl rfl rfl rfl (by first | rfl | assumption | (simp; done))) rfl rfl rfl rfl rfl rfl rfl rfl rfl) rfl ?_)
        (refine nx (a_lss (gd_on rfl rfl rfl rfl (by first | rfl | assumption | (simp; done))) rfl rfl rfl rfl rfl rfl) rfl ?_)
        (refine nx (aM (gd_on rfl rfl rfl rfl (by first | rfl | assumption | (simp; done))) rfl rfl rfl rfl rfl) rfl ?_)
        (refine nx (aM (gd_on rfl rfl rfl rfl (by first | rfl | assumption | (simp; done))) rfl rfl rfl rfl rfl) rfl ?_)
        (refine nx (aM (gd_on rfl rfl rfl rfl (by first | rfl | assumption | (simp; done))) rfl rfl rfl rfl rfl) rfl ?_)
        (refine nx (a_index (gd_on rfl rfl rfl rfl (by first | rfl | assumption | (simp; done))) rfl rfl rfl rfl rfl rfl rfl rfl rfl (by assumption) rfl (by first | assumption | exact sZ rfl | exact Tm.size_all _ | exact Bd.size_all _ | exact ints_size _ | exact bys_size _ | exact Lt.size_all _)) rfl ?_)
        (refine nx (a_field_ad (gd_on rfl rfl rfl rfl (by first | rfl | assumption | (simp; done))) rfl rfl rfl rfl rfl rfl rfl rfl rfl rfl rfl) rfl ?_)
        (refine nx (a_field_ad (gd_on rfl rfl rfl rfl (by first | rfl | assumption | (simp; done))) rfl rfl rfl rfl rfl rfl rfl rfl rfl rfl rfl) rfl ?_)
        (refine nx (a_load_ad (gd_on rfl rfl rfl rfl (by first | rfl | assumption | (simp; done))) rfl rfl rfl rfl rfl rfl rfl rfl rfl) rfl ?_)
        (refine nx (a_sub (gd_on rfl rfl rfl rfl (by first | rfl | assumption | (simp; done))) rfl rfl rfl rfl rfl rfl (by first | omega | (simp only [List.length_map, List.length_append, List.length_cons, List.length_nil] <;> omega) | (simp <;> omega))) rfl ?_)
        (refine nx (aM (gd_on rfl rfl rfl rfl (by first | rfl | assumption | (simp; done))) rfl rfl rfl rfl rfl) rfl ?_)
        (refine nx (aM (gd_on rfl rfl rfl rfl (by first | rfl | assumption | (simp; done))) rfl rfl rfl rfl rfl) rfl ?_)
        (refine nx (a_index (gd_on rfl rfl rfl rfl (by first | rfl | assumption | (simp; done))) rfl rfl rfl rfl rfl rfl rfl rfl rfl (by assumption) rfl (by first | assumption | exact sZ rfl | exact Tm.size_all _ | exact Bd.size_all _ | exact ints_size _ | exact bys_size _ | exact Lt.size_all _)) rfl ?_)
        (refine nx (a_field_ad (gd_on rfl rfl rfl rfl (by first | rfl | assumption | (simp; done))) rfl rfl rfl rfl rfl rfl rfl rfl rfl rfl rfl) rfl ?_)
        (refine nx (a_load_ad (gd_on rfl rfl rfl rfl (by first | rfl | assumption | (simp; done))) rfl rfl rfl rfl rfl rfl rfl rfl rfl) rfl ?_)
        (refine nx (a_eql (gd_on rfl rfl rfl rfl (by first | rfl | assumption | (simp; done))) rfl rfl rfl rfl rfl rfl) rfl ?_)
        (refine ⟨_, _, _, aPt (gd_on rfl rfl rfl rfl (by first | rfl | assumption | (simp; done))) rfl rfl rfl rfl rfl ?hb rfl, rfl, ?_⟩; case hb => (first | rfl | assumption | (simp; done)))
        (refine ⟨_, _, _, aPf (gN rfl) rfl rfl rfl rfl rfl ?hb rfl, rfl, ?_⟩; case hb => (first | rfl | assumption | (simp; done)))
        refine ⟨by kernel_rfl, ?_⟩
        show AWp _ _ _ _ _ _ _
        refine aC rfl (fun hc => ?_) (fun hc => aK ?_)
        · exfalso
          unfold idleB at hid
          rw [g] at hid
          exact absurd (hid.symm.trans hc) (by decide)
        · exact wk_sub ⟨rfl, rfl, rfl, trivial⟩
      · have g : decide (x.t.f < 0) = false := by simpa using hf
        refine aS (aD (by kernel_rfl) (by kernel_rfl) ?_)
        (refine nx (aM (gN rfl) rfl rfl rfl rfl rfl) rfl ?_)
        (refine nx (aM (gN rfl) rfl rfl rfl rfl rfl) rfl ?_)
        (refine nx (aM (gd_on rfl rfl rfl rfl (by first | rfl | assumption | (simp; done))) rfl rfl rfl rfl rfl) rfl ?_)
        (refine nx (aM (gd_on rfl rfl rfl rfl (by first | rfl | assumption | (simp; done))) rfl rfl rfl rfl rfl) rfl ?_)
        (refine nx (a_index (gd_on rfl rfl rfl rfl (by first | rfl | assumption | (simp; done))) rfl rfl rfl rfl rfl rfl rfl rfl rfl (by assumption) rfl (by first | assumption | exact sZ rfl | exact Tm.size_all _ | exact Bd.size_all _ | exact ints_size _ | exact bys_size _ | exact Lt.size_all _)) rfl ?_)
        (refine nx (a_field_ad (gd_on rfl rfl rfl rfl (by first | rfl | assumption | (simp; done))) rfl rfl rfl rfl rfl rfl rfl rfl rfl rfl rfl) rfl ?_)
        (refine nx (a_field_ad (gd_on rfl rfl rfl rfl (by first | rfl | assumption | (simp; done))) rfl rfl rfl rfl rfl rfl rfl rfl rfl rfl rfl) rfl ?_)
        (refine nx (a_load_ad (gd_on rfl rfl rfl rfl (by first | rfl | assumption | (simp; done))) rfl rfl rfl rfl rfl rfl rfl rfl rfl) rfl ?_)
        (refine nx (a_lss (gd_on rfl rfl rfl rfl (by first | rfl | assumption | (simp; done))) rfl rfl rfl rfl rfl rfl) rfl ?_)
        (refine nx (aM (gd_on rfl rfl rfl rfl (by first | rfl | assumption | (simp; done))) rfl rfl rfl rfl rfl) rfl ?_)
        (refine ⟨_, _, _, a_off (go_off rfl rfl rfl rfl (by first | rfl | assumption | (simp; done) | (simp [*]; done))) rfl rfl rfl, rfl, ?_⟩)
        (refine ⟨_, _, _, a_off (go_off rfl rfl rfl rfl (by first | rfl | assumption | (simp; done) | (simp [*]; done))) rfl rfl rfl, rfl, ?_⟩)
        (refine ⟨_, _, _, a_off (go_off rfl rfl rfl rfl (by first | rfl | assumption | (simp; done) | (simp [*]; done))) rfl rfl rfl, rfl, ?_⟩)
        (refine ⟨_, _, _, a_off (go_off rfl rfl rfl rfl (by first | rfl | assumption | (simp; done) | (simp [*]; done))) rfl rfl rfl, rfl, ?_⟩)
        (refine ⟨_, _, _, a_off (go_off rfl rfl rfl rfl (by first | rfl | assumption | (simp; done) | (simp [*]; done))) rfl rfl rfl, rfl, ?_⟩)
        (refine ⟨_, _, _, a_off (go_off rfl rfl rfl rfl (by first | rfl | assumption | (simp; done) | (simp [*]; done))) rfl rfl rfl, rfl, ?_⟩)
        (refine ⟨_, _, _, a_off (go_off rfl rfl rfl rfl (by first | rfl | assumption | (simp; done) | (simp [*]; done))) rfl rfl rfl, rfl, ?_⟩)
        (refine ⟨_, _, _, a_off (go_off rfl rfl rfl rfl (by first | rfl | assumption | (simp; done) | (simp [*]; done))) rfl rfl rfl, rfl, ?_⟩)
        (refine ⟨_, _, _, a_off (go_off rfl rfl rfl rfl (by first | rfl | assumption | (simp; done) | (simp [*]; done))) rfl rfl rfl, rfl, ?_⟩)
        (refine ⟨_, _, _, a_off (go_off rfl rfl rfl rfl (by first | rfl | assumption | (simp; done) | (simp [*]; done))) rfl rfl rfl, rfl, ?_⟩)
        (refine ⟨_, _, _, a_off (go_off rfl rfl rfl rfl (by first | rfl | assumption | (simp; done) | (simp [*]; done))) rfl rfl rfl, rfl, ?_⟩)
        (refine ⟨_, _, _, a_off (go_off rfl rfl rfl rfl (by first | rfl | assumption | (simp; done) | (simp [*]; done))) rfl rfl rfl, rfl, ?_⟩)
        (refine ⟨_, _, _, a_off (go_off rfl rfl rfl rfl (by first | rfl | assumption | (simp; done) | (simp [*]; done))) rfl rfl rfl, rfl, ?_⟩)
        (refine ⟨_, _, _, aPf (gd_on rfl rfl rfl rfl (by first | rfl | assumption | (simp; done))) rfl rfl rfl rfl rfl ?hb rfl, rfl, ?_⟩; case hb => (first | rfl | assumption | (simp; done)))
        (refine ⟨_, _, _, aPf (gN rfl) rfl rfl rfl rfl rfl ?hb rfl, rfl, ?_⟩; case hb => (first | rfl | assumption | (simp; done)))
        refine ⟨by kernel_rfl, ?_⟩
        show AWp _ _ _ _ _ _ _
        refine aC rfl (fun hc => by cases hc) (fun hc => aK ?_)
        exact wk_sub ⟨rfl, rfl, rfl, trivial⟩
    · refine aS (aR ?_)
      (refine nx (aA (gN rfl) rfl rfl rfl rfl rfl) rfl ?_)
      show AWp _ _ _ _ _ _ _
      refine awp_mid [(0, .val (.lst (L.map Bd.cv))), (3, .val (.lst (O.map Bd.cv))), (4, .val (.i k)), (7, .val (.i (lessN x.v O)))] (aB (awp_countI O.length (fun j => ∀ i c, i < j → O[i]? = some c → c.v < x.v) (fun j => [(0, .val (.lst (L.map Bd.cv))), (3, .val (.lst (O.map Bd.cv))), (4, .val (.i k)), (7, .val (.i j))]) (wk_sub ⟨rfl, rfl, rfl, rfl, trivial⟩) (fun i c hi => by omega) ?_)) ?_
      · intro j hj hI
        by_cases hjl : j < O.length
        · obtain ⟨z, hz⟩ : ∃ z, O[j]? = some z := ⟨O[j], List.getElem?_eq_getElem hjl⟩
          have hz' := Bd.map_at hz
          have g : decide ((j : Int) < ((O.map Bd.cv).length : Int)) = true := by simp; omega
          refine aS (aS (aD (by kernel_rfl) (by kernel_rfl) ?_))
          (refine nx (aM (gN rfl) rfl rfl rfl rfl rfl) rfl ?_)
          (refine nx (aM (gN rfl) rfl rfl rfl rfl rfl) rfl ?_)
          (refine nx (a_len (gN rfl) rfl rfl rfl rfl rfl rfl rfl) rfl ?_)
          (refine nx (a_lss (gN rfl) rfl rfl rfl rfl rfl rfl) rfl ?_)
          (refine nx (aM (gN rfl) rfl rfl rfl rfl rfl) rfl ?_)
          (refine nx (aM (gd_on rfl rfl rfl rfl (by first | rfl | assumption | (simp; done))) rfl rfl rfl rfl rfl) rfl ?_)
          (refine nx (aM (gd_on rfl rfl rfl rfl (by first | rfl | assumption | (simp; done))) rfl rfl rfl rfl rfl) rfl ?_)
          (refine nx (a_index (gd_on rfl rfl rfl rfl (by first | rfl | assumption | (simp; done))) rfl rfl rfl rfl rfl rfl rfl rfl rfl (by assumption) rfl (by first | assumption | exact sZ rfl | exact Tm.size_all _ | exact Bd.size_all _ | exact ints_size _ | exact bys_size _ | exact Lt.size_all _)) rfl ?_)
          (refine nx (a_field_ad (gd_on rfl rfl rfl rfl (by first | rfl | assumption | (simp; done))) rfl rfl rfl rfl rfl rfl rfl rfl rfl rfl rfl) rfl ?_)
          (refine nx (a_load_ad (gd_on rfl rfl rfl rfl (by first | rfl | assumption | (simp; done))) rfl rfl rfl rfl rfl rfl rfl rfl rfl) rfl ?_)
          (refine nx (aM (gd_on rfl rfl rfl rfl (by first | rfl | assumption | (simp; done))) rfl rfl rfl rfl rfl) rfl ?_)
          (refine nx (aM (gd_on rfl rfl rfl rfl (by first | rfl | assumption | (simp; done))) rfl rfl rfl rfl rfl) rfl ?_)
          (refine nx (a_index (gd_on rfl rfl rfl rfl (by first | rfl | assumption | (simp; done))) rfl rfl rfl rfl rfl rfl rfl rfl rfl (by assumption) rfl (by first | assumption | exact sZ rfl | exact Tm.size_all _ | exact Bd.size_all _ | exact ints_size _ | exact bys_size _ | exact Lt.size_all _)) rfl ?_)
          (refine nx (a_field_ad (gd_on rfl rfl rfl rfl (by first | rfl | assumption | (simp; done))) rfl rfl rfl rfl rfl rfl rfl rfl rfl rfl rfl) rfl ?_)
          (refine nx (a_load_ad (gd_on rfl rfl rfl rfl (by first | rfl | assumption | (simp; done))) rfl rfl rfl rfl rfl rfl rfl rfl rfl) rfl ?_)
          (refine nx (a_lss (gd_on rfl rfl rfl rfl (by first | rfl | assumption | (simp; done))) rfl rfl rfl rfl rfl rfl) rfl ?_)
          (refine ⟨_, _, _, aPt (gN rfl) rfl rfl rfl rfl rfl ?hb rfl, rfl, ?_⟩; case hb => (first | rfl | assumption | (simp; done)))
          refine ⟨by kernel_rfl, ?_⟩
          show AWp _ _ _ _ _ _ _
          refine aC rfl (fun hc => ?_) (fun hc => ?_)
          · have hc : z.v < x.v := by simpa using hc
            refine aK ?_
            show AWp _ _ _ _ _ _ _
            refine aB (aR ?_)
            (refine nx (aM (gN rfl) rfl rfl rfl rfl rfl) rfl ?_)
            (refine nx (a_add (gN rfl) rfl rfl rfl rfl rfl rfl (by first | omega | (simp only [List.length_map, List.length_append, List.length_cons, List.length_nil] <;> omega) | (simp <;> omega))) rfl ?_)
            (refine nx (aA (gN rfl) rfl rfl rfl rfl rfl) rfl ?_)
            refine ⟨hjl, fun i c hi hc2 => ?_, wk_sub ⟨rfl, rfl, rfl, rfl, trivial⟩⟩
            rcases Nat.lt_or_ge i j with h | h
            · exact hI i c h hc2
            · have : i = j := by omega
              subst this
              rw [hz] at hc2
              cases hc2
              exact hc
          · have hc : ¬ z.v < x.v := by simpa using hc
            have hle : lessN x.v O = j := lessN_at hI (fun c hc2 => by rw [hz] at hc2; cases hc2; exact hc) hj
            refine aE ?_
            exact wk_sub ⟨rfl, rfl, rfl, by rw [hle]; rfl, trivial⟩
        · have hjl : j = O.length := by omega
          have g : decide ((j : Int) < ((O.map Bd.cv).length : Int)) = false := by simp; omega
          refine aS (aS (aD (by kernel_rfl) (by kernel_rfl) ?_))
          (refine nx (aM (gN rfl) rfl rfl rfl rfl rfl) rfl ?_)
          (refine nx (aM (gN rfl) rfl rfl rfl rfl rfl) rfl ?_)
          (refine nx (a_len (gN rfl) rfl rfl rfl rfl rfl rfl rfl) rfl ?_)
          (refine nx (a_lss (gN rfl) rfl rfl rfl rfl rfl rfl) rfl ?_)
          (refine nx (aM (gN rfl) rfl rfl rfl rfl rfl) rfl ?_)
          (refine ⟨_, _, _, a_off (go_off rfl rfl rfl rfl (by first | rfl | assumption | (simp; done) | (simp [*]; done))) rfl rfl rfl, rfl, ?_⟩)
          (refine ⟨_, _, _, a_off (go_off rfl rfl rfl rfl (by first | rfl | assumption | (simp; done) | (simp [*]; done))) rfl rfl rfl, rfl, ?_⟩)
          (refine ⟨_, _, _, a_off (go_off rfl rfl rfl rfl (by first | rfl | assumption | (simp; done) | (simp [*]; done))) rfl rfl rfl, rfl, ?_⟩)
          (refine ⟨_, _, _, a_off (go_off rfl rfl rfl rfl (by first | rfl | assumption | (simp; done) | (simp [*]; done))) rfl rfl rfl, rfl, ?_⟩)
          (refine ⟨_, _, _, a_off (go_off rfl rfl rfl rfl (by first | rfl | assumption | (simp; done) | (simp [*]; done))) rfl rfl rfl, rfl, ?_⟩)
          (refine ⟨_, _, _, a_off (go_off rfl rfl rfl rfl (by first | rfl | assumption | (simp; done) | (simp [*]; done))) rfl rfl rfl, rfl, ?_⟩)
          (refine ⟨_, _, _, a_off (go_off rfl rfl rfl rfl (by first | rfl | assumption | (simp; done) | (simp [*]; done))) rfl rfl rfl, rfl, ?_⟩)
          (refine ⟨_, _, _, a_off (go_off rfl rfl rfl rfl (by first | rfl | assumption | (simp; done) | (simp [*]; done))) rfl rfl rfl, rfl, ?_⟩)
          (refine ⟨_, _, _, a_off (go_off rfl rfl rfl rfl (by first | rfl | assumption | (simp; done) | (simp [*]; done))) rfl rfl rfl, rfl, ?_⟩)
          (refine ⟨_, _, _, a_off (go_off rfl rfl rfl rfl (by first | rfl | assumption | (simp; done) | (simp [*]; done))) rfl rfl rfl, rfl, ?_⟩)
          (refine ⟨_, _, _, a_off (go_off rfl rfl rfl rfl (by first | rfl | assumption | (simp; done) | (simp [*]; done))) rfl rfl rfl, rfl, ?_⟩)
          (refine ⟨_, _, _, aPf (gN rfl) rfl rfl rfl rfl rfl ?hb rfl, rfl, ?_⟩; case hb => (first | rfl | assumption | (simp; done)))
          refine ⟨by kernel_rfl, ?_⟩
          show AWp _ _ _ _ _ _ _
          refine aC rfl (fun hc => by cases hc) (fun _ => ?_)
          have hle : lessN x.v O = j := lessN_at hI (fun c hc2 => by rw [List.getElem?_eq_none (by omega)] at hc2; cases hc2) hj
          refine aE ?_
          exact wk_sub ⟨rfl, rfl, rfl, by rw [hle]; rfl, trivial⟩
      · obtain ⟨m, hm⟩ : ∃ m, m = lessN x.v O := ⟨_, rfl⟩
        have hml : m ≤ O.length := by rw [hm]; exact lessN_le _ _
        have hml2 : m ≤ (O.map Bd.cv).length := by rw [List.length_map]; exact hml
        have z1 : ∀ c ∈ (O.map Bd.cv).take m, c.size = 3 := fun c hc => hOs c (List.mem_of_mem_take hc)
        have z2 : ∀ c ∈ (O.map Bd.cv).drop m, c.size = 3 := fun c hc => hOs c (List.mem_of_mem_drop hc)
        have z3 : ∀ c ∈ [] ++ (O.map Bd.cv).take m, c.size = 3 := fun c hc => z1 c (by simpa using hc)
        have z4 : ∀ c ∈ ([] ++ (O.map Bd.cv).take m) ++ [x.cw], c.size = 3 := fun c hc => by
          rcases List.mem_append.1 hc with hc | hc
          · exact z3 c hc
          · rw [List.mem_singleton.1 hc]; rfl
        have l1 : ((O.map Bd.cv).take m).length ≤ 1000 := by simp; omega
        have l2 : ((O.map Bd.cv).drop m).length ≤ 1000 := by simp; omega
        refine AWp.wk (wk_sub (s' := [(0, .val (.lst (L.map Bd.cv))), (3, .val (.lst (O.map Bd.cv))), (4, .val (.i k)), (7, .val (.i m))]) ⟨rfl, rfl, rfl, by rw [hm]; rfl, trivial⟩) ?_
        refine aS (aR ?_)
        (refine nx (a_bslice0 (gN rfl) rfl rfl rfl rfl rfl rfl rfl rfl) rfl ?_)
        (refine nx (aM (gN rfl) rfl rfl rfl rfl rfl) rfl ?_)
        (refine nx (aM (gN rfl) rfl rfl rfl rfl rfl) rfl ?_)
        (refine nx (a_upto (gN rfl) rfl rfl rfl rfl rfl rfl rfl rfl rfl (by omega) (by first | assumption | exact sZ rfl | exact Tm.size_all _ | exact Bd.size_all _ | exact ints_size _ | exact bys_size _ | exact Lt.size_all _)) rfl ?_)
        (refine nx (a_app (gN rfl) rfl rfl rfl rfl rfl rfl rfl rfl rfl rfl rfl rfl rfl rfl rfl (by first | assumption | exact sZ rfl | exact Tm.size_all _ | exact Bd.size_all _ | exact ints_size _ | exact bys_size _ | exact Lt.size_all _) (by first | assumption | exact sZ rfl | exact Tm.size_all _ | exact Bd.size_all _ | exact ints_size _ | exact bys_size _ | exact Lt.size_all _) (by first | omega | (simp only [List.length_map, List.length_append, List.length_cons, List.length_nil] <;> omega) | (simp <;> omega))) rfl ?_)
        (refine nx (aA (gN rfl) rfl rfl rfl rfl rfl) rfl ?_)
        show AWp _ _ _ _ _ _ _
        refine aS (aR ?_)
        (refine nx (aM (gN rfl) rfl rfl rfl rfl rfl) rfl ?_)
        (refine nx (aM (gN rfl) rfl rfl rfl rfl rfl) rfl ?_)
        (refine nx (aM (gN rfl) rfl rfl rfl rfl rfl) rfl ?_)
        (refine nx (a_index (gN rfl) rfl rfl rfl rfl rfl rfl rfl rfl rfl (by assumption) rfl (by first | assumption | exact sZ rfl | exact Tm.size_all _ | exact Bd.size_all _ | exact ints_size _ | exact bys_size _ | exact Lt.size_all _)) rfl ?_)
        (refine nx (a_load_ad (gN rfl) rfl rfl rfl rfl rfl rfl rfl rfl rfl) rfl ?_)
        (refine nx (a_bslice (gN rfl) rfl rfl rfl rfl rfl rfl rfl rfl rfl rfl rfl rfl rfl) rfl ?_)
        (refine nx (a_app (gN rfl) rfl rfl rfl rfl rfl rfl rfl rfl rfl rfl rfl rfl rfl rfl rfl (by first | assumption | exact sZ rfl | exact Tm.size_all _ | exact Bd.size_all _ | exact ints_size _ | exact bys_size _ | exact Lt.size_all _) (by first | assumption | exact sZ rfl | exact Tm.size_all _ | exact Bd.size_all _ | exact ints_size _ | exact bys_size _ | exact Lt.size_all _) (by first | omega | (simp only [List.length_map, List.length_append, List.length_cons, List.length_nil] <;> omega) | (simp <;> omega))) rfl ?_)
        (refine nx (aA (gN rfl) rfl rfl rfl rfl rfl) rfl ?_)
        show AWp _ _ _ _ _ _ _
        refine aR ?_
        (refine nx (aM (gN rfl) rfl rfl rfl rfl rfl) rfl ?_)
        (refine nx (aM (gN rfl) rfl rfl rfl rfl rfl) rfl ?_)
        (refine nx (aM (gN rfl) rfl rfl rfl rfl rfl) rfl ?_)
        (refine nx (a_from (gN rfl) rfl rfl rfl rfl rfl rfl rfl rfl rfl (by omega) (by first | assumption | exact sZ rfl | exact Tm.size_all _ | exact Bd.size_all _ | exact ints_size _ | exact bys_size _ | exact Lt.size_all _)) rfl ?_)
        (refine nx (a_app (gN rfl) rfl rfl rfl rfl rfl rfl rfl rfl rfl rfl rfl rfl rfl rfl rfl (by first | assumption | exact sZ rfl | exact Tm.size_all _ | exact Bd.size_all _ | exact ints_size _ | exact bys_size _ | exact Lt.size_all _) (by first | assumption | exact sZ rfl | exact Tm.size_all _ | exact Bd.size_all _ | exact ints_size _ | exact bys_size _ | exact Lt.size_all _) (by first | omega | (simp only [List.length_map, List.length_append, List.length_cons, List.length_nil] <;> omega) | (simp <;> omega))) rfl ?_)
        (refine nx (aA (gN rfl) rfl rfl rfl rfl rfl) rfl ?_)
        show AWp _ _ _ _ _ _ _
        refine aR ?_
        (refine nx (aM (gN rfl) rfl rfl rfl rfl rfl) rfl ?_)
        (refine nx (a_add (gN rfl) rfl rfl rfl rfl rfl rfl (by first | omega | (simp only [List.length_map, List.length_append, List.length_cons, List.length_nil] <;> omega) | (simp <;> omega))) rfl ?_)
        (refine nx (aA (gN rfl) rfl rfl rfl rfl rfl) rfl ?_)
        refine ⟨hil, (wk_sub (s' := [(0, .val (.lst (L.map Bd.cv))), (3, .own (.lst ((rnmF L (k + 1)).map Bd.cv)) 300094), (4, .val (.i ((k + 1 : Nat) : Int)))]) ⟨rfl, ?_, rfl, trivial⟩).trans (wk_plain 3 rfl)⟩
        show some (AV.own (.lst _) _) = some (AV.own (.lst _) _)
        rw [hins]
        unfold insV
        rw [← hm, List.map_append, List.map_append, List.map_take, List.map_drop]
        rfl
  · have hil : i = L.length := by have h : decide ((i : Int) < ((L.map Bd.cv).length : Int)) = false := hlt; simp at h; omega
    subst hil
    refine aE ?_
    show AWp _ _ _ _ _ _ _
    refine aS (aR ?_)
    (refine nx (aM (gN rfl) rfl rfl rfl rfl rfl) rfl ?_)
    (refine nx (aA (gN rfl) rfl rfl rfl rfl rfl) rfl ?_)
    show AWp _ _ _ _ _ _ _
    refine aT ⟨.inr rfl, ?_⟩
    rw [← hO]
    rfl
theorem nubL8 : ∀ l : List Int, (nub l).length ≤ l.length := by
  refine snoc_ind (by simp [nub]) fun l x ih => ?_
  rw [nub_snoc, List.length_append]
  split
  · simp only [List.length_cons, List.length_nil]; omega
  · rw [List.length_append]; simp only [List.length_cons, List.length_nil]; omega
theorem vsL8 (t : Tm) : t.vs.length ≤ t.size := by
  unfold Tm.vs Tm.size vsL
  rw [List.length_map]
  exact List.length_filter_le _ _
-- 
theorem refIn_abs (W : World) (v : Int) (t : Tm) (hr : t.rng) (hok : t.ok) (hs : t.size ≤ 90000000000) : AFun Tryz.prog W 80 [.i v, t.cw] (.val (.b (decide (v ∈ t.vs)))) := by
  obtain ⟨V, hV⟩ : ∃ V, V = t.nv := ⟨_, rfl⟩
  have hvv := refVars_abs W t hr hok hs
  rw [nv_vars, ← hV] at hvv
  have hVl : V.length ≤ 90000000000 := by
    rw [hV]
    have h1 : (nub t.vs).length ≤ t.vs.length := nubL8 t.vs
    have h2 := vsL8 t
    show (nub t.vs).length ≤ _
    omega
  have hVs := ints_size V
  have hmem : v ∈ t.vs ↔ v ∈ V := by rw [hV]; exact (mem_nub _ _).symm
  refine afun_of (rs := [.b (decide (v ∈ t.vs))]) Tryz.func80 Tryz.ntmps80 rfl rfl rfl rfl ?_
  intro w U hW
  refine aS (aR ?_)
  (refine nx (a_box (gN rfl) rfl rfl rfl rfl rfl) rfl ?_)
  (refine nx (aA (gN rfl) rfl rfl rfl rfl rfl) rfl ?_)
  show AWp _ _ _ _ _ _ _
  refine aS (aR ?_)
  (refine nx (aL (gN rfl) rfl rfl rfl rfl rfl rfl rfl rfl rfl rfl rfl rfl) rfl ?_)
  (refine nx (a_call (gN rfl) rfl rfl rfl rfl rfl (hvv.up hW)) rfl ?_)
  (refine nx (aA (gN rfl) rfl rfl rfl rfl rfl) rfl ?_)
  show AWp _ _ _ _ _ _ _
  refine aS (aS (aR ?_))
  (refine nx (aA (gN rfl) rfl rfl rfl rfl rfl) rfl ?_)
  show AWp _ _ _ _ _ _ _
  refine aB (awp_countI V.length (fun k => v ∉ V.take k) (fun k => [(0, .val (.i v)), (5, .val (.lst (V.map CV.i))), (6, .val (.i k))]) (wk_sub ⟨rfl, rfl, rfl, trivial⟩) (by simp) ?_)
  intro k hk hI
  refine aS (aS (aR ?_))
  (refine nx (aM (gN rfl) rfl rfl rfl rfl rfl) rfl ?_)
  (refine nx (aM (gN rfl) rfl rfl rfl rfl rfl) rfl ?_)
  (refine nx (a_len (gN rfl) rfl rfl rfl rfl rfl rfl rfl) rfl ?_)
  (refine nx (a_lss (gN rfl) rfl rfl rfl rfl rfl rfl) rfl ?_)
  show AWp _ _ _ _ _ _ _
  refine aC rfl (fun hlt => ?_) (fun hlt => ?_)
  · have hkl : k < V.length := by simpa using hlt
    obtain ⟨u, hu⟩ : ∃ u, V[k]? = some u := ⟨V[k], List.getElem?_eq_getElem hkl⟩
    have hu' := ints_at hu
    refine aK ?_
    show AWp _ _ _ _ _ _ _
    refine aS (aB (aS (aR ?_)))
    (refine nx (aM (gN rfl) rfl rfl rfl rfl rfl) rfl ?_)
    (refine nx (aM (gN rfl) rfl rfl rfl rfl rfl) rfl ?_)
    (refine nx (a_index (j := k) (gN rfl) rfl rfl rfl rfl rfl rfl rfl rfl rfl (hu') rfl (hVs)) rfl ?_)
    (refine nx (a_load_ad (gN rfl) rfl rfl rfl rfl rfl rfl rfl rfl rfl) rfl ?_)
    (refine nx (aM (gN rfl) rfl rfl rfl rfl rfl) rfl ?_)
    (refine nx (a_eql (gN rfl) rfl rfl rfl rfl rfl rfl) rfl ?_)
    show AWp _ _ _ _ _ _ _
    refine aC rfl (fun hc => ?_) (fun hc => ?_)
    · have hc : u = v := by simpa using hc
      have hyes : decide (v ∈ t.vs) = true := by rw [decide_eq_true_eq, hmem, ← hc]; exact List.mem_of_getElem? hu
      rw [hyes]
      refine aS (aR ?_)
      (refine nx (aA (gN rfl) rfl rfl rfl rfl rfl) rfl ?_)
      show AWp _ _ _ _ _ _ _
      exact aT (And.intro (.inr rfl) rfl)
    · have hc : ¬ u = v := by simpa using hc
      refine aK ?_
      show AWp _ _ _ _ _ _ _
      refine aR ?_
      (refine nx (aM (gN rfl) rfl rfl rfl rfl rfl) rfl ?_)
      (refine nx (a_add (gN rfl) rfl rfl rfl rfl rfl rfl (by first | omega | (simp only [List.length_map, List.length_append, List.length_cons, List.length_nil] <;> omega) | (simp <;> omega))) rfl ?_)
      (refine nx (aA (gN rfl) rfl rfl rfl rfl rfl) rfl ?_)
      refine ⟨hkl, ?_, wk_sub ⟨rfl, rfl, rfl, trivial⟩⟩
      show v ∉ V.take (k + 1)
      rw [List.take_add_one, hu, List.mem_append]
      rintro (h | h)
      · exact hI h
      · simp at h; exact hc h.symm
  · have hkl : k = V.length := by
      have : ¬ k < V.length := by simpa using hlt
      omega
    subst hkl
    rw [List.take_length] at hI
    have hno : decide (v ∈ t.vs) = false := by rw [decide_eq_false_iff_not, hmem]; exact hI
    rw [hno]
    refine aE ?_
    show AWp _ _ _ _ _ _ _
    refine aS (aR ?_)
    (refine nx (aA (gN rfl) rfl rfl rfl rfl rfl) rfl ?_)
    show AWp _ _ _ _ _ _ _
    exact aT (And.intro (.inr rfl) rfl)
-- 
set_option maxHeartbeats 1000000 in
theorem refBound_abs (W : World) (s : List Bd) (v : Int) (t : Tm) (hl : s.length ≤ 1000000) (hs : ∀ b ∈ s, b.t.rng ∧ b.t.ok) : AFun Tryz.prog W 81 [.lst (s.map Bd.cv), .i v, t.cw] (.val (.lst ((bndS s v t).map Bd.cv))) := by
  have hsz := Bd.size_all s
  obtain ⟨g, hg⟩ : ∃ g : Bd → Bd, g = fun b => ⟨b.v, appR [⟨v, t⟩] b.t⟩ := ⟨_, rfl⟩
  have hB : bndS s v t = s.map g ++ [⟨v, t⟩] := by unfold bndS; rw [hg]
  rw [hB]
  refine afun_of (rs := [.lst ((s.map g ++ [(⟨v, t⟩ : Bd)]).map Bd.cv)]) Tryz.func81 Tryz.ntmps81 rfl rfl rfl rfl ?_
  intro w U hW
  refine aS (aR ?_)
  (refine nx (a_box (gN rfl) rfl rfl rfl rfl rfl) rfl ?_)
  (refine nx (aA (gN rfl) rfl rfl rfl rfl rfl) rfl ?_)
  show AWp _ _ _ _ _ _ _
  refine aS (aR ?_)
  (refine nx (aM (gN rfl) rfl rfl rfl rfl rfl) rfl ?_)
  (refine nx (aL (gN rfl) rfl rfl rfl rfl rfl rfl rfl rfl rfl rfl rfl rfl) rfl ?_)
  (refine nx (a_build (gN rfl) rfl rfl rfl rfl rfl rfl rfl rfl rfl rfl rfl) rfl ?_)
  (refine nx (a_bslice (gN rfl) rfl rfl rfl rfl rfl rfl rfl rfl rfl rfl rfl rfl rfl) rfl ?_)
  (refine nx (aA (gN rfl) rfl rfl rfl rfl rfl) rfl ?_)
  show AWp _ _ _ _ _ _ _
  refine aS (aR ?_)
  (refine nx (aA (gN rfl) rfl rfl rfl rfl rfl) rfl ?_)
  show AWp _ _ _ _ _ _ _
  refine aS (aS (aR ?_))
  (refine nx (aA (gN rfl) rfl rfl rfl rfl rfl) rfl ?_)
  show AWp _ _ _ _ _ _ _
  refine aB (awp_count s.length (fun k => [(0, .val (.lst (s.map Bd.cv))), (7, .val (.lst [Bd.cw ⟨v, t⟩])), (8, .own (.lst (((s.take k).map g).map Bd.cv)) 200035), (200035, .tok 83 3), (9, .val (.i k))]) ((wk_nil 8 200035 83 3 rfl rfl rfl rfl rfl rfl rfl).trans (wk_sub ⟨rfl, rfl, rfl, rfl, rfl, trivial⟩)) ?_)
  intro k hk
  have hks := Bd.size_all ((s.take k).map g)
  refine aS (aS (aR ?_))
  (refine nx (aM (gN rfl) rfl rfl rfl rfl rfl) rfl ?_)
  (refine nx (aM (gN rfl) rfl rfl rfl rfl rfl) rfl ?_)
  (refine nx (a_len (gN rfl) rfl rfl rfl rfl rfl rfl rfl) rfl ?_)
  (refine nx (a_lss (gN rfl) rfl rfl rfl rfl rfl rfl) rfl ?_)
  show AWp _ _ _ _ _ _ _
  refine aC rfl (fun hlt => ?_) (fun hlt => ?_)
  · have hkl : k < s.length := by simpa using hlt
    obtain ⟨b, hb⟩ : ∃ b, s[k]? = some b := ⟨s[k], List.getElem?_eq_getElem hkl⟩
    have hb' := Bd.map_at hb
    obtain ⟨b1, b2⟩ := hs b (List.mem_of_getElem? hb)
    have hap := refApply_abs w [⟨v, t⟩] (by simp) b.t b1 b2
    have hkn : ((s.take k).map g).length ≤ 1000000 := by rw [List.length_map, List.length_take]; omega
    refine aK ?_
    show AWp _ _ _ _ _ _ _
    refine aS (aB (aD (by kernel_rfl) (by kernel_rfl) ?_))
    (refine nx (aM (gN rfl) rfl rfl rfl rfl rfl) rfl ?_)
    (refine nx (aM (gN rfl) rfl rfl rfl rfl rfl) rfl ?_)
    (refine nx (aM (gN rfl) rfl rfl rfl rfl rfl) rfl ?_)
    (refine nx (a_index (j := k) (gN rfl) rfl rfl rfl rfl rfl rfl rfl rfl rfl (hb') rfl (hsz)) rfl ?_)
    (refine nx (a_field_ad (gN rfl) rfl rfl rfl rfl rfl rfl rfl rfl rfl rfl rfl) rfl ?_)
    (refine nx (a_load_ad (gN rfl) rfl rfl rfl rfl rfl rfl rfl rfl rfl) rfl ?_)
    (refine nx (aM (gN rfl) rfl rfl rfl rfl rfl) rfl ?_)
    (refine nx (aM (gN rfl) rfl rfl rfl rfl rfl) rfl ?_)
    (refine nx (aM (gN rfl) rfl rfl rfl rfl rfl) rfl ?_)
    (refine nx (a_index (j := k) (gN rfl) rfl rfl rfl rfl rfl rfl rfl rfl rfl (hb') rfl (hsz)) rfl ?_)
    (refine nx (a_field_ad (gN rfl) rfl rfl rfl rfl rfl rfl rfl rfl rfl rfl rfl) rfl ?_)
    (refine nx (a_load_ad (gN rfl) rfl rfl rfl rfl rfl rfl rfl rfl rfl) rfl ?_)
    (refine nx (a_call (gN rfl) rfl rfl rfl rfl rfl (hap)) rfl ?_)
    (refine nx (a_build (gN rfl) rfl rfl rfl rfl rfl rfl rfl rfl rfl rfl rfl) rfl ?_)
    (refine nx (a_bslice (gN rfl) rfl rfl rfl rfl rfl rfl rfl rfl rfl rfl rfl rfl rfl) rfl ?_)
    (refine nx (a_app (gN rfl) rfl rfl rfl rfl rfl rfl rfl rfl rfl rfl rfl rfl rfl rfl rfl (by first | assumption | exact sZ rfl | exact Tm.size_all _ | exact Bd.size_all _ | exact ints_size _ | exact bys_size _ | exact Lt.size_all _) (by first | assumption | exact sZ rfl | exact Tm.size_all _ | exact Bd.size_all _ | exact ints_size _ | exact bys_size _ | exact Lt.size_all _) (by first | omega | (simp only [List.length_map, List.length_append, List.length_cons, List.length_nil] <;> omega) | (simp <;> omega))) rfl ?_)
    (refine nx (aA (gN rfl) rfl rfl rfl rfl rfl) rfl ?_)
    refine ⟨by kernel_rfl, ?_⟩
    show AWp _ _ _ _ _ _ _
    refine aR ?_
    (refine nx (aM (gN rfl) rfl rfl rfl rfl rfl) rfl ?_)
    (refine nx (a_add (gN rfl) rfl rfl rfl rfl rfl rfl (by first | omega | (simp only [List.length_map, List.length_append, List.length_cons, List.length_nil] <;> omega) | (simp <;> omega))) rfl ?_)
    (refine nx (aA (gN rfl) rfl rfl rfl rfl rfl) rfl ?_)
    refine ⟨hkl, Wk.trans (wk_sub (s' := [(0, .val (.lst (s.map Bd.cv))), (7, .val (.lst [Bd.cw ⟨v, t⟩])), (8, .own (.lst (((s.take (k + 1)).map g).map Bd.cv)) 300035), (300035, .tok 83 3), (9, .val (.i ((k + 1 : Nat) : Int)))]) ⟨rfl, rfl, ?_, rfl, rfl, trivial⟩) (wk_ren 300035 200035 rfl rfl rfl rfl)⟩
    rw [List.take_add_one, hb, List.map_append, List.map_append, hg]
    rfl
  · have hkl : k = s.length := by
      have : ¬ k < s.length := by simpa using hlt
      omega
    subst hkl
    rw [List.take_length] at hks ⊢
    have hkn : (s.map g).length ≤ 1000000 := by rw [List.length_map]; omega
    refine aE ?_
    show AWp _ _ _ _ _ _ _
    refine aS (aR ?_)
    (refine nx (aM (gN rfl) rfl rfl rfl rfl rfl) rfl ?_)
    (refine nx (aM (gN rfl) rfl rfl rfl rfl rfl) rfl ?_)
    (refine nx (a_app (gN rfl) rfl rfl rfl rfl rfl rfl rfl rfl rfl rfl rfl rfl rfl rfl rfl (by first | assumption | exact sZ rfl | exact Tm.size_all _ | exact Bd.size_all _ | exact ints_size _ | exact bys_size _ | exact Lt.size_all _) (by first | assumption | exact sZ rfl | exact Tm.size_all _ | exact Bd.size_all _ | exact ints_size _ | exact bys_size _ | exact Lt.size_all _) (by first | omega | (simp only [List.length_map, List.length_append, List.length_cons, List.length_nil] <;> omega) | (simp <;> omega))) rfl ?_)
    (refine nx (aA (gN rfl) rfl rfl rfl rfl rfl) rfl ?_)
    show AWp _ _ _ _ _ _ _
    refine aT (And.intro (.inr rfl) ?_)
    rw [List.map_append]
    rfl
theorem appR_rng {l : List Bd} {t : Tm} (h : t.rng) (hi : ∀ b ∈ l, b.t.rng) : (appR l t).rng := by
  induction t using Tm.ind with
  | h f k ih =>
    obtain ⟨h1, h2⟩ := (Tm.rng_iff _).1 h
    simp only at h1 h2
    by_cases hf : f < 0
    · rw [appR_var hf]
      unfold imgB
      cases hb : findB l (-1 - (Tm.mk f k).f) with
      | none =>
        show (varT (-1 - f)).rng
        exact leaf_rng (by omega) (by omega)
      | some t =>
        obtain ⟨b, hbm, e, _⟩ := findB_mem hb
        show t.rng
        rw [← e]; exact hi b hbm
    · rw [appR_sym hf]
      refine (Tm.rng_iff _).2 ⟨h1, fun s hs => ?_⟩
      obtain ⟨u, hu, rfl⟩ := List.mem_map.1 hs
      exact ih u hu (h2 u hu)
def CndL (g : List Bd → Tm → Tm → Option (Option (List Bd))) (C : List Bd → Tm → Tm → Prop) : List (Tm × Tm) → List Bd → Prop
  | [], _ => True
  | p :: ps, s => C s p.1 p.2 ∧ ∀ s', g s p.1 p.2 = some (some s') → CndL g C ps s'
def Cnd : Nat → List Bd → Tm → Tm → Prop
  | 0, _, _, _ => True
  | n + 1, s, a, b => (s.length ≤ 100000 ∧ ∀ x ∈ s, x.t.rng ∧ x.t.ok) ∧ (a.rng ∧ a.ok ∧ b.rng ∧ b.ok) ∧ ((appR s a).size ≤ 90000000000 ∧ (appR s b).size ≤ 90000000000) ∧ ∀ a2 b2 : Tm, a2 = (if swC (appR s a) (appR s b) then appR s b else appR s a) → b2 = (if swC (appR s a) (appR s b) then appR s a else appR s b) → ¬ a2.f < 0 → a2.f = b2.f → a2.l.length = b2.l.length → CndL (rU n) (Cnd n) (a2.l.zip b2.l) s
-- 
set_option maxHeartbeats 8000000 in
theorem refUnify_abs : ∀ (n : Nat) (W : World) (s : List Bd) (a b : Tm) (r : Option (List Bd)), rU n s a b = some r → Cnd n s a b → AFun Tryz.prog W 56 [.lst (s.map Bd.cv), a.cw, b.cw] (.tup [.lst ((r.getD []).map Bd.cv), .b r.isSome]) := by
  intro n
  induction n with
  | zero => intro W s a b r e; cases e
  | succ n ih =>
  intro W s a b r hr hC
  obtain ⟨⟨hsl, hso⟩, ⟨ha, hao, hb, hbo⟩, ⟨hza, hzb⟩, hCL⟩ := hC
  refine afun_of (rs := [.lst ((r.getD []).map Bd.cv), .b r.isSome]) Tryz.func56 Tryz.ntmps56 rfl rfl rfl rfl ?_
  intro w U hW
  have p1 := refApply_abs w s (by omega) a ha hao
  have p2 := refApply_abs w s (by omega) b hb hbo
  have hra := appR_rng ha fun x hx => (hso x hx).1
  have hrb := appR_rng hb fun x hx => (hso x hx).1
  have hoa := appR_ok hao fun x hx => (hso x hx).2
  have hob := appR_ok hbo fun x hx => (hso x hx).2
  have p3 := refSame_abs w _ _ hoa hob
  rw [rU] at hr
  obtain ⟨a1, e1⟩ : ∃ a1, a1 = appR s a := ⟨_, rfl⟩
  obtain ⟨b1, e2⟩ : ∃ b1, b1 = appR s b := ⟨_, rfl⟩
  rw [← e1, ← e2] at hr hCL p3
  rw [← e1] at p1 hra hoa hza
  rw [← e2] at p2 hrb hob hzb
  refine aS (aR ?_)
  (refine nx (a_box (gN rfl) rfl rfl rfl rfl rfl) rfl ?_)
  (refine nx (a_box (gN rfl) rfl rfl rfl rfl rfl) rfl ?_)
  (refine nx (aA (gN rfl) rfl rfl rfl rfl rfl) rfl ?_)
  (refine nx (aA (gN rfl) rfl rfl rfl rfl rfl) rfl ?_)
  show AWp _ _ _ _ _ _ _
  refine aS (aR ?_)
  (refine nx (aM (gN rfl) rfl rfl rfl rfl rfl) rfl ?_)
  (refine nx (aL (gN rfl) rfl rfl rfl rfl rfl rfl rfl rfl rfl rfl rfl rfl) rfl ?_)
  (refine nx (a_call (gN rfl) rfl rfl rfl rfl rfl (p1)) rfl ?_)
  (refine nx (aSt (gN rfl) rfl rfl rfl rfl rfl rfl rfl rfl rfl rfl) rfl ?_)
  show AWp _ _ _ _ _ _ _
  refine aS (aR ?_)
  (refine nx (aM (gN rfl) rfl rfl rfl rfl rfl) rfl ?_)
  (refine nx (aL (gN rfl) rfl rfl rfl rfl rfl rfl rfl rfl rfl rfl rfl rfl) rfl ?_)
  (refine nx (a_call (gN rfl) rfl rfl rfl rfl rfl (p2)) rfl ?_)
  (refine nx (aSt (gN rfl) rfl rfl rfl rfl rfl rfl rfl rfl rfl rfl) rfl ?_)
  show AWp _ _ _ _ _ _ _
  refine aS (aS (aR ?_))
  (refine nx (aL (gN rfl) rfl rfl rfl rfl rfl rfl rfl rfl rfl rfl rfl rfl) rfl ?_)
  (refine nx (aL (gN rfl) rfl rfl rfl rfl rfl rfl rfl rfl rfl rfl rfl rfl) rfl ?_)
  (refine nx (a_call (gN rfl) rfl rfl rfl rfl rfl (p3)) rfl ?_)
  show AWp _ _ _ _ _ _ _
  cases hsm : sameT a1 b1 with
  | true =>
    rw [hsm, if_pos rfl] at hr
    cases hr
    refine aC rfl (fun hc => ?_) (fun hc => by cases hc)
    refine aS (aR ?_)
    (refine nx (aM (gN rfl) rfl rfl rfl rfl rfl) rfl ?_)
    (refine nx (aA (gN rfl) rfl rfl rfl rfl rfl) rfl ?_)
    (refine nx (aA (gN rfl) rfl rfl rfl rfl rfl) rfl ?_)
    show AWp _ _ _ _ _ _ _
    exact aT (And.intro (.inr rfl) rfl)
  | false =>
  rw [hsm, if_neg (by simp)] at hr
  refine aC rfl (fun hc => by cases hc) (fun hc => aK ?_)
  show AWp _ _ _ _ _ _ _
  refine AWp.wk (wk_sub (s' := [(0, .val (.lst (s.map Bd.cv))), (4, .bp 4 0 []), (100004, .bx a1.cw), (5, .bp 5 0 []), (100005, .bx b1.cw)]) ⟨rfl, rfl, rfl, rfl, rfl, trivial⟩) ?_
  obtain ⟨a2, ha2⟩ : ∃ a2, a2 = (if swC a1 b1 then b1 else a1) := ⟨_, rfl⟩
  obtain ⟨b2, hb2⟩ : ∃ b2, b2 = (if swC a1 b1 then a1 else b1) := ⟨_, rfl⟩
  have hCL := hCL a2 b2 ha2 hb2
  have hr : rUgo (rU n) s a2 b2 = some r := by
    rw [ha2, hb2]
    split at hr
    · rename_i h; rw [if_pos h, if_pos h]; exact hr
    · rename_i h; rw [if_neg h, if_neg h]; exact hr
  have hra2 : a2.rng ∧ a2.ok ∧ a2.size ≤ 90000000000 := by rw [ha2]; split <;> exact ⟨by assumption, by assumption, by assumption⟩
  have hrb2 : b2.rng ∧ b2.ok ∧ b2.size ≤ 90000000000 := by rw [hb2]; split <;> exact ⟨by assumption, by assumption, by assumption⟩
  refine awp_mid [(0, .val (.lst (s.map Bd.cv))), (4, .bp 4 0 []), (100004, .bx a2.cw), (5, .bp 5 0 []), (100005, .bx b2.cw)] ?_ ?_
  · by_cases fa : a1.f ≥ 0
    · have g1 : decide (a1.f ≥ 0) = true := by simpa using fa
      have g3 : decide (a1.f < 0) = false := by simpa using fa
      by_cases fb : b1.f < 0
      · have g2 : decide (b1.f < 0) = true := by simpa using fb
        have hsw : swC a1 b1 = true := by unfold swC; simp [fa, fb]
        rw [hsw, if_pos rfl] at ha2 hb2
        refine aS (aR ?_)
        (refine nx (aF (gN rfl) rfl rfl rfl rfl rfl rfl rfl rfl rfl) rfl ?_)
        (refine nx (aLb (gN rfl) rfl rfl rfl rfl rfl rfl rfl rfl rfl rfl rfl rfl) rfl ?_)
        (refine nx (a_geq (gN rfl) rfl rfl rfl rfl rfl rfl) rfl ?_)
        (refine nx (aM (gN rfl) rfl rfl rfl rfl rfl) rfl ?_)
        (refine nx (aF (gd_on rfl rfl rfl rfl (by first | rfl | assumption | (simp; done))) rfl rfl rfl rfl rfl rfl rfl rfl rfl) rfl ?_)
        (refine nx (aLb (gd_on rfl rfl rfl rfl (by first | rfl | assumption | (simp; done))) rfl rfl rfl rfl rfl rfl rfl rfl rfl rfl rfl rfl) rfl ?_)
        (refine nx (a_lss (gd_on rfl rfl rfl rfl (by first | rfl | assumption | (simp; done))) rfl rfl rfl rfl rfl rfl) rfl ?_)
        (refine ⟨_, _, _, aPt (gN rfl) rfl rfl rfl rfl rfl ?hb rfl, rfl, ?_⟩; case hb => (first | rfl | assumption | (simp; done)))
        (refine nx (aM (gN rfl) rfl rfl rfl rfl rfl) rfl ?_)
        (refine ⟨_, _, _, a_offt (go_off rfl rfl rfl rfl (by first | rfl | assumption | (simp; done) | (simp [*]; done))) rfl rfl rfl, rfl, ?_⟩)
        (refine ⟨_, _, _, a_offt (go_off rfl rfl rfl rfl (by first | rfl | assumption | (simp; done) | (simp [*]; done))) rfl rfl rfl, rfl, ?_⟩)
        (refine ⟨_, _, _, a_offt (go_off rfl rfl rfl rfl (by first | rfl | assumption | (simp; done) | (simp [*]; done))) rfl rfl rfl, rfl, ?_⟩)
        (refine ⟨_, _, _, a_offt (go_off rfl rfl rfl rfl (by first | rfl | assumption | (simp; done) | (simp [*]; done))) rfl rfl rfl, rfl, ?_⟩)
        (refine ⟨_, _, _, a_offt (go_off_t rfl rfl rfl rfl) rfl rfl rfl, rfl, ?_⟩)
        (refine ⟨_, _, _, a_offt (go_off_t rfl rfl rfl rfl) rfl rfl rfl, rfl, ?_⟩)
        (refine ⟨_, _, _, a_offt (go_off_t rfl rfl rfl rfl) rfl rfl rfl, rfl, ?_⟩)
        (refine ⟨_, _, _, a_offt (go_off rfl rfl rfl rfl (by first | rfl | assumption | (simp; done) | (simp [*]; done))) rfl rfl rfl, rfl, ?_⟩)
        (refine ⟨_, _, _, a_offt (go_off rfl rfl rfl rfl (by first | rfl | assumption | (simp; done) | (simp [*]; done))) rfl rfl rfl, rfl, ?_⟩)
        (refine ⟨_, _, _, a_offt (go_off_t rfl rfl rfl rfl) rfl rfl rfl, rfl, ?_⟩)
        (refine ⟨_, _, _, a_offt (go_off_t rfl rfl rfl rfl) rfl rfl rfl, rfl, ?_⟩)
        (refine ⟨_, _, _, a_offt (go_off_t rfl rfl rfl rfl) rfl rfl rfl, rfl, ?_⟩)
        (refine ⟨_, _, _, a_offt (go_off_t rfl rfl rfl rfl) rfl rfl rfl, rfl, ?_⟩)
        (refine ⟨_, _, _, a_offt (go_off_t rfl rfl rfl rfl) rfl rfl rfl, rfl, ?_⟩)
        (refine ⟨_, _, _, a_offt (go_off rfl rfl rfl rfl (by first | rfl | assumption | (simp; done) | (simp [*]; done))) rfl rfl rfl, rfl, ?_⟩)
        (refine ⟨_, _, _, aPt (gN rfl) rfl rfl rfl rfl rfl ?hb rfl, rfl, ?_⟩; case hb => (first | rfl | assumption | (simp; done)))
        show AWp _ _ _ _ _ _ _
        refine aC rfl (fun hc => ?_) (fun hc => by cases hc)
        refine aS (aR ?_)
        (refine nx (aL (gN rfl) rfl rfl rfl rfl rfl rfl rfl rfl rfl rfl rfl rfl) rfl ?_)
        (refine nx (a_alloc (gN rfl) rfl rfl rfl rfl rfl rfl rfl rfl rfl rfl) rfl ?_)
        (refine nx (aSt (gN rfl) rfl rfl rfl rfl rfl rfl rfl rfl rfl rfl) rfl ?_)
        show AWp _ _ _ _ _ _ _
        refine aS (aR ?_)
        (refine nx (aL (gN rfl) rfl rfl rfl rfl rfl rfl rfl rfl rfl rfl rfl rfl) rfl ?_)
        (refine nx (aSt (gN rfl) rfl rfl rfl rfl rfl rfl rfl rfl rfl rfl) rfl ?_)
        show AWp _ _ _ _ _ _ _
        refine aR ?_
        (refine nx (aL (gN rfl) rfl rfl rfl rfl rfl rfl rfl rfl rfl rfl rfl rfl) rfl ?_)
        (refine nx (aSt (gN rfl) rfl rfl rfl rfl rfl rfl rfl rfl rfl rfl) rfl ?_)
        rw [ha2, hb2]
        exact wk_sub ⟨rfl, rfl, rfl, rfl, rfl, trivial⟩
      · have g2 : decide (b1.f < 0) = false := by simpa using fb
        have hsw : swC a1 b1 = false := by unfold swC; simp [fb]
        rw [hsw, if_neg (by simp)] at ha2 hb2
        refine aS (aR ?_)
        (refine nx (aF (gN rfl) rfl rfl rfl rfl rfl rfl rfl rfl rfl) rfl ?_)
        (refine nx (aLb (gN rfl) rfl rfl rfl rfl rfl rfl rfl rfl rfl rfl rfl rfl) rfl ?_)
        (refine nx (a_geq (gN rfl) rfl rfl rfl rfl rfl rfl) rfl ?_)
        (refine nx (aM (gN rfl) rfl rfl rfl rfl rfl) rfl ?_)
        (refine nx (aF (gd_on rfl rfl rfl rfl (by first | rfl | assumption | (simp; done))) rfl rfl rfl rfl rfl rfl rfl rfl rfl) rfl ?_)
        (refine nx (aLb (gd_on rfl rfl rfl rfl (by first | rfl | assumption | (simp; done))) rfl rfl rfl rfl rfl rfl rfl rfl rfl rfl rfl rfl) rfl ?_)
        (refine nx (a_lss (gd_on rfl rfl rfl rfl (by first | rfl | assumption | (simp; done))) rfl rfl rfl rfl rfl rfl) rfl ?_)
        (refine ⟨_, _, _, aPt (gN rfl) rfl rfl rfl rfl rfl ?hb rfl, rfl, ?_⟩; case hb => (first | rfl | assumption | (simp; done)))
        (refine nx (aM (gN rfl) rfl rfl rfl rfl rfl) rfl ?_)
        (refine nx (aF (gd_on rfl rfl rfl rfl (by first | rfl | assumption | (simp; done))) rfl rfl rfl rfl rfl rfl rfl rfl rfl) rfl ?_)
        (refine nx (aLb (gd_on rfl rfl rfl rfl (by first | rfl | assumption | (simp; done))) rfl rfl rfl rfl rfl rfl rfl rfl rfl rfl rfl rfl) rfl ?_)
        (refine nx (a_lss (gd_on rfl rfl rfl rfl (by first | rfl | assumption | (simp; done))) rfl rfl rfl rfl rfl rfl) rfl ?_)
        (refine nx (aM (gd_on rfl rfl rfl rfl (by first | rfl | assumption | (simp; done))) rfl rfl rfl rfl rfl) rfl ?_)
        (refine ⟨_, _, _, a_off (go_off rfl rfl rfl rfl (by first | rfl | assumption | (simp; done) | (simp [*]; done))) rfl rfl rfl, rfl, ?_⟩)
        (refine ⟨_, _, _, a_off (go_off rfl rfl rfl rfl (by first | rfl | assumption | (simp; done) | (simp [*]; done))) rfl rfl rfl, rfl, ?_⟩)
        (refine ⟨_, _, _, a_off (go_off rfl rfl rfl rfl (by first | rfl | assumption | (simp; done) | (simp [*]; done))) rfl rfl rfl, rfl, ?_⟩)
        (refine ⟨_, _, _, aPf (gd_on rfl rfl rfl rfl (by first | rfl | assumption | (simp; done))) rfl rfl rfl rfl rfl ?hb rfl, rfl, ?_⟩; case hb => (first | rfl | assumption | (simp; done)))
        (refine nx (aM (gd_on rfl rfl rfl rfl (by first | rfl | assumption | (simp; done))) rfl rfl rfl rfl rfl) rfl ?_)
        (refine ⟨_, _, _, a_off (go_off rfl rfl rfl rfl (by first | rfl | assumption | (simp; done) | (simp [*]; done))) rfl rfl rfl, rfl, ?_⟩)
        (refine ⟨_, _, _, a_off (go_off rfl rfl rfl rfl (by first | rfl | assumption | (simp; done) | (simp [*]; done))) rfl rfl rfl, rfl, ?_⟩)
        (refine ⟨_, _, _, a_off (go_off rfl rfl rfl rfl (by first | rfl | assumption | (simp; done) | (simp [*]; done))) rfl rfl rfl, rfl, ?_⟩)
        (refine ⟨_, _, _, a_off (go_off rfl rfl rfl rfl (by first | rfl | assumption | (simp; done) | (simp [*]; done))) rfl rfl rfl, rfl, ?_⟩)
        (refine ⟨_, _, _, a_off (go_off rfl rfl rfl rfl (by first | rfl | assumption | (simp; done) | (simp [*]; done))) rfl rfl rfl, rfl, ?_⟩)
        (refine ⟨_, _, _, aPf (gd_on rfl rfl rfl rfl (by first | rfl | assumption | (simp; done))) rfl rfl rfl rfl rfl ?hb rfl, rfl, ?_⟩; case hb => (first | rfl | assumption | (simp; done)))
        (refine ⟨_, _, _, aPf (gN rfl) rfl rfl rfl rfl rfl ?hb rfl, rfl, ?_⟩; case hb => (first | rfl | assumption | (simp; done)))
        show AWp _ _ _ _ _ _ _
        refine aC rfl (fun hc => by cases hc) (fun hc => aK ?_)
        rw [ha2, hb2]
        exact wk_sub ⟨rfl, rfl, rfl, rfl, rfl, trivial⟩
    · have g1 : decide (a1.f ≥ 0) = false := by simpa using fa
      have fa2 : a1.f < 0 := by omega
      have g3 : decide (a1.f < 0) = true := by simpa using fa2
      by_cases fb : b1.f < 0
      · have g2 : decide (b1.f < 0) = true := by simpa using fb
        have hsw : swC a1 b1 = decide (b1.f < a1.f) := by
          unfold swC
          have : decide (0 ≤ a1.f) = false := by simpa using fa
          rw [this, g2, g3]
          simp
        rw [hsw] at ha2 hb2
        refine aS (aR ?_)
        (refine nx (aF (gN rfl) rfl rfl rfl rfl rfl rfl rfl rfl rfl) rfl ?_)
        (refine nx (aLb (gN rfl) rfl rfl rfl rfl rfl rfl rfl rfl rfl rfl rfl rfl) rfl ?_)
        (refine nx (a_geq (gN rfl) rfl rfl rfl rfl rfl rfl) rfl ?_)
        (refine nx (aM (gN rfl) rfl rfl rfl rfl rfl) rfl ?_)
        (refine ⟨_, _, _, a_off (go_off rfl rfl rfl rfl (by first | rfl | assumption | (simp; done) | (simp [*]; done))) rfl rfl rfl, rfl, ?_⟩)
        (refine ⟨_, _, _, a_off (go_off rfl rfl rfl rfl (by first | rfl | assumption | (simp; done) | (simp [*]; done))) rfl rfl rfl, rfl, ?_⟩)
        (refine ⟨_, _, _, a_off (go_off rfl rfl rfl rfl (by first | rfl | assumption | (simp; done) | (simp [*]; done))) rfl rfl rfl, rfl, ?_⟩)
        (refine ⟨_, _, _, aPf (gN rfl) rfl rfl rfl rfl rfl ?hb rfl, rfl, ?_⟩; case hb => (first | rfl | assumption | (simp; done)))
        (refine nx (aM (gN rfl) rfl rfl rfl rfl rfl) rfl ?_)
        (refine nx (aF (gd_on rfl rfl rfl rfl (by first | rfl | assumption | (simp; done))) rfl rfl rfl rfl rfl rfl rfl rfl rfl) rfl ?_)
        (refine nx (aLb (gd_on rfl rfl rfl rfl (by first | rfl | assumption | (simp; done))) rfl rfl rfl rfl rfl rfl rfl rfl rfl rfl rfl rfl) rfl ?_)
        (refine nx (a_lss (gd_on rfl rfl rfl rfl (by first | rfl | assumption | (simp; done))) rfl rfl rfl rfl rfl rfl) rfl ?_)
        (refine nx (aM (gd_on rfl rfl rfl rfl (by first | rfl | assumption | (simp; done))) rfl rfl rfl rfl rfl) rfl ?_)
        (refine nx (aF (gd_on rfl rfl rfl rfl (by first | rfl | assumption | (simp; done))) rfl rfl rfl rfl rfl rfl rfl rfl rfl) rfl ?_)
        (refine nx (aLb (gd_on rfl rfl rfl rfl (by first | rfl | assumption | (simp; done))) rfl rfl rfl rfl rfl rfl rfl rfl rfl rfl rfl rfl) rfl ?_)
        (refine nx (a_lss (gd_on rfl rfl rfl rfl (by first | rfl | assumption | (simp; done))) rfl rfl rfl rfl rfl rfl) rfl ?_)
        (refine ⟨_, _, _, aPt (gd_on rfl rfl rfl rfl (by first | rfl | assumption | (simp; done))) rfl rfl rfl rfl rfl ?hb rfl, rfl, ?_⟩; case hb => (first | rfl | assumption | (simp; done)))
        (refine nx (aM (gd_on rfl rfl rfl rfl (by first | rfl | assumption | (simp; done))) rfl rfl rfl rfl rfl) rfl ?_)
        (refine nx (aF (gd_on rfl rfl rfl rfl (by first | rfl | assumption | (simp; done))) rfl rfl rfl rfl rfl rfl rfl rfl rfl) rfl ?_)
        (refine nx (aLb (gd_on rfl rfl rfl rfl (by first | rfl | assumption | (simp; done))) rfl rfl rfl rfl rfl rfl rfl rfl rfl rfl rfl rfl) rfl ?_)
        (refine nx (aF (gd_on rfl rfl rfl rfl (by first | rfl | assumption | (simp; done))) rfl rfl rfl rfl rfl rfl rfl rfl rfl) rfl ?_)
        (refine nx (aLb (gd_on rfl rfl rfl rfl (by first | rfl | assumption | (simp; done))) rfl rfl rfl rfl rfl rfl rfl rfl rfl rfl rfl rfl) rfl ?_)
        (refine nx (a_lss (gd_on rfl rfl rfl rfl (by first | rfl | assumption | (simp; done))) rfl rfl rfl rfl rfl rfl) rfl ?_)
        (refine ⟨_, _, _, aPt (gd_on rfl rfl rfl rfl (by first | rfl | assumption | (simp; done))) rfl rfl rfl rfl rfl ?hb rfl, rfl, ?_⟩; case hb => (first | rfl | assumption | (simp; done)))
        (refine ⟨_, _, _, aPf (gN rfl) rfl rfl rfl rfl rfl ?hb rfl, rfl, ?_⟩; case hb => (first | rfl | assumption | (simp; done)))
        show AWp _ _ _ _ _ _ _
        refine aC rfl (fun hc => ?_) (fun hc => ?_)
        · have hc : b1.f < a1.f := by simpa using hc
          rw [if_pos (by simpa using hc)] at ha2 hb2
          refine aS (aR ?_)
          (refine nx (aL (gN rfl) rfl rfl rfl rfl rfl rfl rfl rfl rfl rfl rfl rfl) rfl ?_)
          (refine nx (a_alloc (gN rfl) rfl rfl rfl rfl rfl rfl rfl rfl rfl rfl) rfl ?_)
          (refine nx (aSt (gN rfl) rfl rfl rfl rfl rfl rfl rfl rfl rfl rfl) rfl ?_)
          show AWp _ _ _ _ _ _ _
          refine aS (aR ?_)
          (refine nx (aL (gN rfl) rfl rfl rfl rfl rfl rfl rfl rfl rfl rfl rfl rfl) rfl ?_)
          (refine nx (aSt (gN rfl) rfl rfl rfl rfl rfl rfl rfl rfl rfl rfl) rfl ?_)
          show AWp _ _ _ _ _ _ _
          refine aR ?_
          (refine nx (aL (gN rfl) rfl rfl rfl rfl rfl rfl rfl rfl rfl rfl rfl rfl) rfl ?_)
          (refine nx (aSt (gN rfl) rfl rfl rfl rfl rfl rfl rfl rfl rfl rfl) rfl ?_)
          rw [ha2, hb2]
          exact wk_sub ⟨rfl, rfl, rfl, rfl, rfl, trivial⟩
        · have hc : ¬ b1.f < a1.f := by simpa using hc
          rw [if_neg (by simpa using hc)] at ha2 hb2
          refine aK ?_
          rw [ha2, hb2]
          exact wk_sub ⟨rfl, rfl, rfl, rfl, rfl, trivial⟩
      · have g2 : decide (b1.f < 0) = false := by simpa using fb
        have hsw : swC a1 b1 = false := by
          unfold swC
          have : decide (0 ≤ a1.f) = false := by simpa using fa
          rw [this, g2]
          simp
        rw [hsw, if_neg (by simp)] at ha2 hb2
        refine aS (aR ?_)
        (refine nx (aF (gN rfl) rfl rfl rfl rfl rfl rfl rfl rfl rfl) rfl ?_)
        (refine nx (aLb (gN rfl) rfl rfl rfl rfl rfl rfl rfl rfl rfl rfl rfl rfl) rfl ?_)
        (refine nx (a_geq (gN rfl) rfl rfl rfl rfl rfl rfl) rfl ?_)
        (refine nx (aM (gN rfl) rfl rfl rfl rfl rfl) rfl ?_)
        (refine ⟨_, _, _, a_off (go_off rfl rfl rfl rfl (by first | rfl | assumption | (simp; done) | (simp [*]; done))) rfl rfl rfl, rfl, ?_⟩)
        (refine ⟨_, _, _, a_off (go_off rfl rfl rfl rfl (by first | rfl | assumption | (simp; done) | (simp [*]; done))) rfl rfl rfl, rfl, ?_⟩)
        (refine ⟨_, _, _, a_off (go_off rfl rfl rfl rfl (by first | rfl | assumption | (simp; done) | (simp [*]; done))) rfl rfl rfl, rfl, ?_⟩)
        (refine ⟨_, _, _, aPf (gN rfl) rfl rfl rfl rfl rfl ?hb rfl, rfl, ?_⟩; case hb => (first | rfl | assumption | (simp; done)))
        (refine nx (aM (gN rfl) rfl rfl rfl rfl rfl) rfl ?_)
        (refine nx (aF (gd_on rfl rfl rfl rfl (by first | rfl | assumption | (simp; done))) rfl rfl rfl rfl rfl rfl rfl rfl rfl) rfl ?_)
        (refine nx (aLb (gd_on rfl rfl rfl rfl (by first | rfl | assumption | (simp; done))) rfl rfl rfl rfl rfl rfl rfl rfl rfl rfl rfl rfl) rfl ?_)
        (refine nx (a_lss (gd_on rfl rfl rfl rfl (by first | rfl | assumption | (simp; done))) rfl rfl rfl rfl rfl rfl) rfl ?_)
        (refine nx (aM (gd_on rfl rfl rfl rfl (by first | rfl | assumption | (simp; done))) rfl rfl rfl rfl rfl) rfl ?_)
        (refine nx (aF (gd_on rfl rfl rfl rfl (by first | rfl | assumption | (simp; done))) rfl rfl rfl rfl rfl rfl rfl rfl rfl) rfl ?_)
        (refine nx (aLb (gd_on rfl rfl rfl rfl (by first | rfl | assumption | (simp; done))) rfl rfl rfl rfl rfl rfl rfl rfl rfl rfl rfl rfl) rfl ?_)
        (refine nx (a_lss (gd_on rfl rfl rfl rfl (by first | rfl | assumption | (simp; done))) rfl rfl rfl rfl rfl rfl) rfl ?_)
        (refine ⟨_, _, _, aPt (gd_on rfl rfl rfl rfl (by first | rfl | assumption | (simp; done))) rfl rfl rfl rfl rfl ?hb rfl, rfl, ?_⟩; case hb => (first | rfl | assumption | (simp; done)))
        (refine nx (aM (gd_on rfl rfl rfl rfl (by first | rfl | assumption | (simp; done))) rfl rfl rfl rfl rfl) rfl ?_)
        (refine ⟨_, _, _, a_off (go_off rfl rfl rfl rfl (by first | rfl | assumption | (simp; done) | (simp [*]; done))) rfl rfl rfl, rfl, ?_⟩)
        (refine ⟨_, _, _, a_off (go_off rfl rfl rfl rfl (by first | rfl | assumption | (simp; done) | (simp [*]; done))) rfl rfl rfl, rfl, ?_⟩)
        (refine ⟨_, _, _, a_off (go_off rfl rfl rfl rfl (by first | rfl | assumption | (simp; done) | (simp [*]; done))) rfl rfl rfl, rfl, ?_⟩)
        (refine ⟨_, _, _, a_off (go_off rfl rfl rfl rfl (by first | rfl | assumption | (simp; done) | (simp [*]; done))) rfl rfl rfl, rfl, ?_⟩)
        (refine ⟨_, _, _, a_off (go_off rfl rfl rfl rfl (by first | rfl | assumption | (simp; done) | (simp [*]; done))) rfl rfl rfl, rfl, ?_⟩)
        (refine ⟨_, _, _, aPf (gd_on rfl rfl rfl rfl (by first | rfl | assumption | (simp; done))) rfl rfl rfl rfl rfl ?hb rfl, rfl, ?_⟩; case hb => (first | rfl | assumption | (simp; done)))
        (refine ⟨_, _, _, aPf (gN rfl) rfl rfl rfl rfl rfl ?hb rfl, rfl, ?_⟩; case hb => (first | rfl | assumption | (simp; done)))
        show AWp _ _ _ _ _ _ _
        refine aC rfl (fun hc => by cases hc) (fun hc => aK ?_)
        rw [ha2, hb2]
        exact wk_sub ⟨rfl, rfl, rfl, rfl, rfl, trivial⟩
  clear ha2 hb2 p1 p2 p3 hsm
  unfold rUgo at hr
  have hra3 := (Tm.rng_iff _).1 hra2.1
  refine aS (aS (aR ?_))
  (refine nx (aF (gN rfl) rfl rfl rfl rfl rfl rfl rfl rfl rfl) rfl ?_)
  (refine nx (aLb (gN rfl) rfl rfl rfl rfl rfl rfl rfl rfl rfl rfl rfl rfl) rfl ?_)
  (refine nx (a_lss (gN rfl) rfl rfl rfl rfl rfl rfl) rfl ?_)
  show AWp _ _ _ _ _ _ _
  by_cases fa : a2.f < 0
  case pos =>
    rw [if_pos fa] at hr
    have hin := refIn_abs w (-1 - a2.f) b2 hrb2.1 hrb2.2.1 hrb2.2.2
    refine aC rfl (fun hc => ?_) (fun hc => ?_)
    case refine_2 =>
      have : ¬ a2.f < 0 := by simpa using hc
      omega
    refine aS (aS (aR ?_))
    (refine nx (aF (gN rfl) rfl rfl rfl rfl rfl rfl rfl rfl rfl) rfl ?_)
    (refine nx (aLb (gN rfl) rfl rfl rfl rfl rfl rfl rfl rfl rfl rfl rfl rfl) rfl ?_)
    (refine nx (a_sub (gN rfl) rfl rfl rfl rfl rfl rfl (by first | omega | (simp only [List.length_map, List.length_append, List.length_cons, List.length_nil] <;> omega) | (simp <;> omega))) rfl ?_)
    (refine nx (aL (gN rfl) rfl rfl rfl rfl rfl rfl rfl rfl rfl rfl rfl rfl) rfl ?_)
    (refine nx (a_call (gN rfl) rfl rfl rfl rfl rfl (hin)) rfl ?_)
    show AWp _ _ _ _ _ _ _
    by_cases hm : -1 - a2.f ∈ b2.vs
    · rw [if_pos hm] at hr
      cases hr
      refine aC rfl (fun hc => ?_) (fun hc => ?_)
      case refine_2 =>
        have : -1 - a2.f ∉ b2.vs := by simpa using hc
        exact absurd hm this
      refine aS (aR ?_)
      (refine nx (aA (gN rfl) rfl rfl rfl rfl rfl) rfl ?_)
      (refine nx (aA (gN rfl) rfl rfl rfl rfl rfl) rfl ?_)
      show AWp _ _ _ _ _ _ _
      exact aT (And.intro (.inr rfl) rfl)
    · rw [if_neg hm] at hr
      cases hr
      refine aC rfl (fun hc => ?_) (fun hc => aK ?_)
      · have : -1 - a2.f ∈ b2.vs := by simpa using hc
        exact absurd this hm
      show AWp _ _ _ _ _ _ _
      refine aS (aR ?_)
      (refine nx (aM (gN rfl) rfl rfl rfl rfl rfl) rfl ?_)
      (refine nx (aF (gN rfl) rfl rfl rfl rfl rfl rfl rfl rfl rfl) rfl ?_)
      (refine nx (aLb (gN rfl) rfl rfl rfl rfl rfl rfl rfl rfl rfl rfl rfl rfl) rfl ?_)
      (refine nx (a_sub (gN rfl) rfl rfl rfl rfl rfl rfl (by first | omega | (simp only [List.length_map, List.length_append, List.length_cons, List.length_nil] <;> omega) | (simp <;> omega))) rfl ?_)
      (refine nx (aL (gN rfl) rfl rfl rfl rfl rfl rfl rfl rfl rfl rfl rfl rfl) rfl ?_)
      (refine nx (a_call (gN rfl) rfl rfl rfl rfl rfl (refBound_abs w s (-1 - a2.f) b2 (by omega) hso)) rfl ?_)
      (refine nx (aA (gN rfl) rfl rfl rfl rfl rfl) rfl ?_)
      (refine nx (aA (gN rfl) rfl rfl rfl rfl rfl) rfl ?_)
      show AWp _ _ _ _ _ _ _
      exact aT (And.intro (.inr rfl) rfl)
  rw [if_neg fa] at hr
  refine aC rfl (fun hc => ?_) (fun hc => aK ?_)
  · have : a2.f < 0 := by simpa using hc
    exact absurd this fa
  show AWp _ _ _ _ _ _ _
  by_cases hft : a2.f = b2.f
  case neg =>
    have g : decide (a2.f ≠ b2.f) = true := by simpa using hft
    rw [if_pos (.inl hft)] at hr
    cases hr
    refine aS (aS (aR ?_))
    (refine nx (aF (gN rfl) rfl rfl rfl rfl rfl rfl rfl rfl rfl) rfl ?_)
    (refine nx (aLb (gN rfl) rfl rfl rfl rfl rfl rfl rfl rfl rfl rfl rfl rfl) rfl ?_)
    (refine nx (aF (gN rfl) rfl rfl rfl rfl rfl rfl rfl rfl rfl) rfl ?_)
    (refine nx (aLb (gN rfl) rfl rfl rfl rfl rfl rfl rfl rfl rfl rfl rfl rfl) rfl ?_)
    (refine nx (a_neq (gN rfl) rfl rfl rfl rfl rfl rfl) rfl ?_)
    (refine nx (aM (gN rfl) rfl rfl rfl rfl rfl) rfl ?_)
    (refine ⟨_, _, _, a_off (go_off rfl rfl rfl rfl (by first | rfl | assumption | (simp; done) | (simp [*]; done))) rfl rfl rfl, rfl, ?_⟩)
    (refine ⟨_, _, _, a_off (go_off rfl rfl rfl rfl (by first | rfl | assumption | (simp; done) | (simp [*]; done))) rfl rfl rfl, rfl, ?_⟩)
    (refine ⟨_, _, _, a_off (go_off rfl rfl rfl rfl (by first | rfl | assumption | (simp; done) | (simp [*]; done))) rfl rfl rfl, rfl, ?_⟩)
    (refine ⟨_, _, _, a_off (go_off rfl rfl rfl rfl (by first | rfl | assumption | (simp; done) | (simp [*]; done))) rfl rfl rfl, rfl, ?_⟩)
    (refine ⟨_, _, _, a_off (go_off rfl rfl rfl rfl (by first | rfl | assumption | (simp; done) | (simp [*]; done))) rfl rfl rfl, rfl, ?_⟩)
    (refine ⟨_, _, _, a_off (go_off rfl rfl rfl rfl (by first | rfl | assumption | (simp; done) | (simp [*]; done))) rfl rfl rfl, rfl, ?_⟩)
    (refine ⟨_, _, _, a_off (go_off rfl rfl rfl rfl (by first | rfl | assumption | (simp; done) | (simp [*]; done))) rfl rfl rfl, rfl, ?_⟩)
    (refine ⟨_, _, _, aPt (gN rfl) rfl rfl rfl rfl rfl ?hb rfl, rfl, ?_⟩; case hb => (first | rfl | assumption | (simp; done)))
    show AWp _ _ _ _ _ _ _
    refine aC rfl (fun hc => ?_) (fun hc => by cases hc)
    refine aS (aR ?_)
    (refine nx (aA (gN rfl) rfl rfl rfl rfl rfl) rfl ?_)
    (refine nx (aA (gN rfl) rfl rfl rfl rfl rfl) rfl ?_)
    show AWp _ _ _ _ _ _ _
    exact aT (And.intro (.inr rfl) rfl)
  have g : decide (a2.f ≠ b2.f) = false := by simpa using hft
  refine aS (aS (aR ?_))
  (refine nx (aF (gN rfl) rfl rfl rfl rfl rfl rfl rfl rfl rfl) rfl ?_)
  (refine nx (aLb (gN rfl) rfl rfl rfl rfl rfl rfl rfl rfl rfl rfl rfl rfl) rfl ?_)
  (refine nx (aF (gN rfl) rfl rfl rfl rfl rfl rfl rfl rfl rfl) rfl ?_)
  (refine nx (aLb (gN rfl) rfl rfl rfl rfl rfl rfl rfl rfl rfl rfl rfl rfl) rfl ?_)
  (refine nx (a_neq (gN rfl) rfl rfl rfl rfl rfl rfl) rfl ?_)
  (refine nx (aM (gN rfl) rfl rfl rfl rfl rfl) rfl ?_)
  (refine nx (aF (gd_on rfl rfl rfl rfl (by first | rfl | assumption | (simp; done))) rfl rfl rfl rfl rfl rfl rfl rfl rfl) rfl ?_)
  (refine nx (aLb (gd_on rfl rfl rfl rfl (by first | rfl | assumption | (simp; done))) rfl rfl rfl rfl rfl rfl rfl rfl rfl rfl rfl rfl) rfl ?_)
  (refine nx (a_len (gd_on rfl rfl rfl rfl (by first | rfl | assumption | (simp; done))) rfl rfl rfl rfl rfl rfl rfl) rfl ?_)
  (refine nx (aF (gd_on rfl rfl rfl rfl (by first | rfl | assumption | (simp; done))) rfl rfl rfl rfl rfl rfl rfl rfl rfl) rfl ?_)
  (refine nx (aLb (gd_on rfl rfl rfl rfl (by first | rfl | assumption | (simp; done))) rfl rfl rfl rfl rfl rfl rfl rfl rfl rfl rfl rfl) rfl ?_)
  (refine nx (a_len (gd_on rfl rfl rfl rfl (by first | rfl | assumption | (simp; done))) rfl rfl rfl rfl rfl rfl rfl) rfl ?_)
  (refine nx (a_neq (gd_on rfl rfl rfl rfl (by first | rfl | assumption | (simp; done))) rfl rfl rfl rfl rfl rfl) rfl ?_)
  (refine ⟨_, _, _, aPf (gN rfl) rfl rfl rfl rfl rfl ?hb rfl, rfl, ?_⟩; case hb => (first | rfl | assumption | (simp; done)))
  show AWp _ _ _ _ _ _ _
  by_cases hll : a2.l.length = b2.l.length
  case neg =>
    rw [if_pos (.inr hll)] at hr
    cases hr
    refine aC rfl (fun hc => ?_) (fun hc => ?_)
    case refine_2 =>
      have hc := of_decide_eq_false hc
      simp only [List.length_map, ne_eq, Decidable.not_not] at hc
      omega
    refine aS (aR ?_)
    (refine nx (aA (gN rfl) rfl rfl rfl rfl rfl) rfl ?_)
    (refine nx (aA (gN rfl) rfl rfl rfl rfl rfl) rfl ?_)
    show AWp _ _ _ _ _ _ _
    exact aT (And.intro (.inr rfl) rfl)
  rw [if_neg (by omega)] at hr
  refine aC rfl (fun hc => ?_) (fun hc => aK ?_)
  · exfalso
    rw [List.length_map, List.length_map, hll] at hc
    simp at hc
  show AWp _ _ _ _ _ _ _
  have hCL := hCL fa hft hll
  have hoka := (Tm.ok_iff _).1 hra2.2.1
  have hsz1 := Tm.size_all a2.l
  have hsz2 := Tm.size_all b2.l
  refine aS (aS (aR ?_))
  (refine nx (aA (gN rfl) rfl rfl rfl rfl rfl) rfl ?_)
  show AWp _ _ _ _ _ _ _
  refine aB (awp_loop (fun m st => ∃ i s, i + m = a2.l.length ∧ rUs (rU n) ((a2.l.drop i).zip (b2.l.drop i)) s = some r ∧ CndL (rU n) (Cnd n) ((a2.l.drop i).zip (b2.l.drop i)) s ∧ st = [(0, AV.val (.lst (s.map Bd.cv))), (4, .bp 4 0 []), (100004, .bx a2.cw), (5, .bp 5 0 []), (100005, .bx b2.cw), (9, .val (.i ((i : Nat) : Int)))]) (n := a2.l.length) (s' := [(0, AV.val (.lst (s.map Bd.cv))), (4, .bp 4 0 []), (100004, .bx a2.cw), (5, .bp 5 0 []), (100005, .bx b2.cw), (9, .val (.i ((0 : Nat) : Int)))]) (wk_sub ⟨rfl, rfl, rfl, rfl, rfl, rfl, trivial⟩) ⟨0, s, by omega, hr, hCL, rfl⟩ ?_)
  clear hCL hr hso hsl
  rintro m st ⟨i, s, him, hr, hCL, rfl⟩
  refine aS (aS (aR ?_))
  (refine nx (aM (gN rfl) rfl rfl rfl rfl rfl) rfl ?_)
  (refine nx (aF (gN rfl) rfl rfl rfl rfl rfl rfl rfl rfl rfl) rfl ?_)
  (refine nx (aLb (gN rfl) rfl rfl rfl rfl rfl rfl rfl rfl rfl rfl rfl rfl) rfl ?_)
  (refine nx (a_len (gN rfl) rfl rfl rfl rfl rfl rfl rfl) rfl ?_)
  (refine nx (a_lss (gN rfl) rfl rfl rfl rfl rfl rfl) rfl ?_)
  show AWp _ _ _ _ _ _ _
  cases m with
  | zero =>
    have hd : a2.l.drop i = [] := List.drop_eq_nil_of_le (by omega)
    rw [hd, List.zip_nil_left, rUs] at hr
    cases hr
    refine aC rfl (fun hc => ?_) (fun hc => ?_)
    · exfalso
      have : i < a2.l.length := by simpa using hc
      omega
    refine aE ?_
    show AWp _ _ _ _ _ _ _
    refine aS (aR ?_)
    (refine nx (aM (gN rfl) rfl rfl rfl rfl rfl) rfl ?_)
    (refine nx (aA (gN rfl) rfl rfl rfl rfl rfl) rfl ?_)
    (refine nx (aA (gN rfl) rfl rfl rfl rfl rfl) rfl ?_)
    show AWp _ _ _ _ _ _ _
    exact aT (And.intro (.inr rfl) rfl)
  | succ m =>
    have hil : i < a2.l.length := by omega
    obtain ⟨x, hx⟩ : ∃ x, a2.l[i]? = some x := ⟨a2.l[i], List.getElem?_eq_getElem hil⟩
    obtain ⟨y, hy⟩ : ∃ y, b2.l[i]? = some y := ⟨b2.l[i]'(by omega), List.getElem?_eq_getElem (by omega)⟩
    have hx' := Tm.map_at hx
    have hy' := Tm.map_at hy
    have hdx : a2.l.drop i = x :: a2.l.drop (i + 1) := by
      obtain ⟨hk, e⟩ := List.getElem?_eq_some_iff.1 hx
      rw [List.drop_eq_getElem_cons hk, e]
    have hdy : b2.l.drop i = y :: b2.l.drop (i + 1) := by
      obtain ⟨hk, e⟩ := List.getElem?_eq_some_iff.1 hy
      rw [List.drop_eq_getElem_cons hk, e]
    rw [hdx, hdy, List.zip_cons_cons] at hr hCL
    rw [rUs] at hr
    obtain ⟨hC1, hC2⟩ := hCL
    refine aC rfl (fun hc => ?_) (fun hc => ?_)
    case refine_2 =>
      have : ¬ i < a2.l.length := by simpa using hc
      omega
    refine aK ?_
    show AWp _ _ _ _ _ _ _
    cases hg : rU n s x y with
    | none => rw [hg] at hr; cases hr
    | some r1 =>
    rw [hg] at hr
    have hcall := ih w s x y r1 hg hC1
    refine aS (aB (aS (aD (by kernel_rfl) (by kernel_rfl) ?_)))
    (refine nx (aM (gN rfl) rfl rfl rfl rfl rfl) rfl ?_)
    (refine nx (aF (gN rfl) rfl rfl rfl rfl rfl rfl rfl rfl rfl) rfl ?_)
    (refine nx (aLb (gN rfl) rfl rfl rfl rfl rfl rfl rfl rfl rfl rfl rfl rfl) rfl ?_)
    (refine nx (aM (gN rfl) rfl rfl rfl rfl rfl) rfl ?_)
    (refine nx (a_index (j := i) (gN rfl) rfl rfl rfl rfl rfl rfl rfl rfl rfl (hx') rfl (hsz1)) rfl ?_)
    (refine nx (a_load_ad (gN rfl) rfl rfl rfl rfl rfl rfl rfl rfl rfl) rfl ?_)
    (refine nx (aF (gN rfl) rfl rfl rfl rfl rfl rfl rfl rfl rfl) rfl ?_)
    (refine nx (aLb (gN rfl) rfl rfl rfl rfl rfl rfl rfl rfl rfl rfl rfl rfl) rfl ?_)
    (refine nx (aM (gN rfl) rfl rfl rfl rfl rfl) rfl ?_)
    (refine nx (a_index (j := i) (gN rfl) rfl rfl rfl rfl rfl rfl rfl rfl rfl (hy') rfl (hsz2)) rfl ?_)
    (refine nx (a_load_ad (gN rfl) rfl rfl rfl rfl rfl rfl rfl rfl rfl) rfl ?_)
    (refine nx (a_call (gN rfl) rfl rfl rfl rfl rfl (hcall)) rfl ?_)
    (refine nx (aM (gN rfl) rfl rfl rfl rfl rfl) rfl ?_)
    (refine nx (aX (gN rfl) rfl rfl rfl rfl rfl rfl) rfl ?_)
    (refine nx (aX (gN rfl) rfl rfl rfl rfl rfl rfl) rfl ?_)
    (refine nx (aA (gN rfl) rfl rfl rfl rfl rfl) rfl ?_)
    (refine nx (aA (gN rfl) rfl rfl rfl rfl rfl) rfl ?_)
    refine ⟨by kernel_rfl, ?_⟩
    show AWp _ _ _ _ _ _ _
    refine aS (aS (aR ?_))
    (refine nx (aM (gN rfl) rfl rfl rfl rfl rfl) rfl ?_)
    (refine nx (a_not (gN rfl) rfl rfl rfl rfl rfl) rfl ?_)
    show AWp _ _ _ _ _ _ _
    cases r1 with
    | none =>
      simp only at hr
      cases hr
      refine aC rfl (fun hc => ?_) (fun hc => by cases hc)
      refine aS (aR ?_)
      (refine nx (aA (gN rfl) rfl rfl rfl rfl rfl) rfl ?_)
      (refine nx (aA (gN rfl) rfl rfl rfl rfl rfl) rfl ?_)
      show AWp _ _ _ _ _ _ _
      exact aT (And.intro (.inr rfl) rfl)
    | some s1 =>
      simp only at hr
      refine aC rfl (fun hc => by cases hc) (fun hc => aK ?_)
      show AWp _ _ _ _ _ _ _
      refine aR ?_
      (refine nx (aM (gN rfl) rfl rfl rfl rfl rfl) rfl ?_)
      (refine nx (aA (gN rfl) rfl rfl rfl rfl rfl) rfl ?_)
      show AWp _ _ _ _ _ _ _
      refine aR ?_
      (refine nx (aM (gN rfl) rfl rfl rfl rfl rfl) rfl ?_)
      (refine nx (a_add (gN rfl) rfl rfl rfl rfl rfl rfl (by first | omega | (simp only [List.length_map, List.length_append, List.length_cons, List.length_nil] <;> omega) | (simp <;> omega))) rfl ?_)
      (refine nx (aA (gN rfl) rfl rfl rfl rfl rfl) rfl ?_)
      exact ⟨m, [(0, AV.val (.lst (s1.map Bd.cv))), (4, .bp 4 0 []), (100004, .bx a2.cw), (5, .bp 5 0 []), (100005, .bx b2.cw), (9, .val (.i ((i + 1 : Nat) : Int)))], by omega, ⟨i + 1, s1, by omega, hr, hC2 s1 hg, rfl⟩, wk_sub ⟨rfl, rfl, rfl, rfl, rfl, rfl, trivial⟩⟩
-- 
set_option maxHeartbeats 2000000 in
theorem refAll_abs (W : World) (n : Nat) (la lb : List Tm) (r : Option (List Bd)) (hab : la.length = lb.length) (hll : la.length ≤ 1000) (hr : rUs (rU n) (la.zip lb) [] = some r) (hC : CndL (rU n) (Cnd n) (la.zip lb) []) (hl : ∀ s, r = some s → s.length ≤ 1000 ∧ ∀ b ∈ s, b.t.rng) : AFun Tryz.prog W 32 [.lst (la.map Tm.cv), .lst (lb.map Tm.cv)] (.tup [.lst (((r.map fun s => rnmF s s.length).getD []).map Bd.cv), .b r.isSome]) := by
  have hsz1 := Tm.size_all la
  have hsz2 := Tm.size_all lb
  refine afun_of (rs := [.lst (((r.map fun s => rnmF s s.length).getD []).map Bd.cv), .b r.isSome]) Tryz.func32 Tryz.ntmps32 rfl rfl rfl rfl ?_
  intro w U hW
  refine aS (aR ?_)
  (refine nx (aA (gN rfl) rfl rfl rfl rfl rfl) rfl ?_)
  (refine nx (aA (gN rfl) rfl rfl rfl rfl rfl) rfl ?_)
  show AWp _ _ _ _ _ _ _
  refine aS (aR ?_)
  (refine nx (aA (gN rfl) rfl rfl rfl rfl rfl) rfl ?_)
  show AWp _ _ _ _ _ _ _
  refine aS (aS (aR ?_))
  (refine nx (aA (gN rfl) rfl rfl rfl rfl rfl) rfl ?_)
  show AWp _ _ _ _ _ _ _
  refine aB (awp_loop (fun m st => ∃ i s, i + m = la.length ∧ rUs (rU n) ((la.drop i).zip (lb.drop i)) s = some r ∧ CndL (rU n) (Cnd n) ((la.drop i).zip (lb.drop i)) s ∧ st = [(0, AV.val (.lst (la.map Tm.cv))), (1, .val (.lst (lb.map Tm.cv))), (6, .val (.lst (s.map Bd.cv))), (7, .val (.i ((i : Nat) : Int)))]) (n := la.length) (s' := [(0, AV.val (.lst (la.map Tm.cv))), (1, .val (.lst (lb.map Tm.cv))), (6, .val (.lst (([] : List Bd).map Bd.cv))), (7, .val (.i ((0 : Nat) : Int)))]) ((wk_plain 6 rfl).trans (wk_sub ⟨rfl, rfl, rfl, rfl, trivial⟩)) ⟨0, [], by omega, hr, hC, rfl⟩ ?_)
  clear hC hr
  rintro m st ⟨i, s, him, hr, hCL, rfl⟩
  refine aS (aS (aR ?_))
  (refine nx (aM (gN rfl) rfl rfl rfl rfl rfl) rfl ?_)
  (refine nx (aM (gN rfl) rfl rfl rfl rfl rfl) rfl ?_)
  (refine nx (a_len (gN rfl) rfl rfl rfl rfl rfl rfl rfl) rfl ?_)
  (refine nx (a_lss (gN rfl) rfl rfl rfl rfl rfl rfl) rfl ?_)
  show AWp _ _ _ _ _ _ _
  cases m with
  | zero =>
    have hd : la.drop i = [] := List.drop_eq_nil_of_le (by omega)
    rw [hd, List.zip_nil_left, rUs] at hr
    cases hr
    obtain ⟨hl1, hl2⟩ := hl s rfl
    refine aC rfl (fun hc => ?_) (fun hc => ?_)
    · exfalso
      have : i < la.length := by simpa using hc
      omega
    refine aE ?_
    show AWp _ _ _ _ _ _ _
    refine aS (aR ?_)
    (refine nx (aM (gN rfl) rfl rfl rfl rfl rfl) rfl ?_)
    (refine nx (a_call (gN rfl) rfl rfl rfl rfl rfl (ref7Norm_abs w s hl1 hl2)) rfl ?_)
    (refine nx (aA (gN rfl) rfl rfl rfl rfl rfl) rfl ?_)
    (refine nx (aA (gN rfl) rfl rfl rfl rfl rfl) rfl ?_)
    show AWp _ _ _ _ _ _ _
    exact aT (And.intro (.inr rfl) rfl)
  | succ m =>
    have hil : i < la.length := by omega
    obtain ⟨x, hx⟩ : ∃ x, la[i]? = some x := ⟨la[i], List.getElem?_eq_getElem hil⟩
    obtain ⟨y, hy⟩ : ∃ y, lb[i]? = some y := ⟨lb[i]'(by omega), List.getElem?_eq_getElem (by omega)⟩
    have hx' := Tm.map_at hx
    have hy' := Tm.map_at hy
    have hdx : la.drop i = x :: la.drop (i + 1) := by
      obtain ⟨hk, e⟩ := List.getElem?_eq_some_iff.1 hx
      rw [List.drop_eq_getElem_cons hk, e]
    have hdy : lb.drop i = y :: lb.drop (i + 1) := by
      obtain ⟨hk, e⟩ := List.getElem?_eq_some_iff.1 hy
      rw [List.drop_eq_getElem_cons hk, e]
    rw [hdx, hdy, List.zip_cons_cons] at hr hCL
    rw [rUs] at hr
    obtain ⟨hC1, hC2⟩ := hCL
    refine aC rfl (fun hc => ?_) (fun hc => ?_)
    case refine_2 =>
      have : ¬ i < la.length := by simpa using hc
      omega
    refine aK ?_
    show AWp _ _ _ _ _ _ _
    cases hg : rU n s x y with
    | none => rw [hg] at hr; cases hr
    | some r1 =>
    rw [hg] at hr
    have hcall := refUnify_abs n w s x y r1 hg hC1
    refine aS (aB (aS (aD (by kernel_rfl) (by kernel_rfl) ?_)))
    (refine nx (aM (gN rfl) rfl rfl rfl rfl rfl) rfl ?_)
    (refine nx (aM (gN rfl) rfl rfl rfl rfl rfl) rfl ?_)
    (refine nx (aM (gN rfl) rfl rfl rfl rfl rfl) rfl ?_)
    (refine nx (a_index (j := i) (gN rfl) rfl rfl rfl rfl rfl rfl rfl rfl rfl (hx') rfl (hsz1)) rfl ?_)
    (refine nx (a_load_ad (gN rfl) rfl rfl rfl rfl rfl rfl rfl rfl rfl) rfl ?_)
    (refine nx (aM (gN rfl) rfl rfl rfl rfl rfl) rfl ?_)
    (refine nx (aM (gN rfl) rfl rfl rfl rfl rfl) rfl ?_)
    (refine nx (a_index (j := i) (gN rfl) rfl rfl rfl rfl rfl rfl rfl rfl rfl (hy') rfl (hsz2)) rfl ?_)
    (refine nx (a_load_ad (gN rfl) rfl rfl rfl rfl rfl rfl rfl rfl rfl) rfl ?_)
    (refine nx (a_call (gN rfl) rfl rfl rfl rfl rfl (hcall)) rfl ?_)
    (refine nx (aM (gN rfl) rfl rfl rfl rfl rfl) rfl ?_)
    (refine nx (aX (gN rfl) rfl rfl rfl rfl rfl rfl) rfl ?_)
    (refine nx (aX (gN rfl) rfl rfl rfl rfl rfl rfl) rfl ?_)
    (refine nx (aA (gN rfl) rfl rfl rfl rfl rfl) rfl ?_)
    (refine nx (aA (gN rfl) rfl rfl rfl rfl rfl) rfl ?_)
    refine ⟨by kernel_rfl, ?_⟩
    show AWp _ _ _ _ _ _ _
    refine aS (aS (aR ?_))
    (refine nx (aM (gN rfl) rfl rfl rfl rfl rfl) rfl ?_)
    (refine nx (a_not (gN rfl) rfl rfl rfl rfl rfl) rfl ?_)
    show AWp _ _ _ _ _ _ _
    cases r1 with
    | none =>
      simp only at hr
      cases hr
      refine aC rfl (fun hc => ?_) (fun hc => by cases hc)
      refine aS (aR ?_)
      (refine nx (aA (gN rfl) rfl rfl rfl rfl rfl) rfl ?_)
      (refine nx (aA (gN rfl) rfl rfl rfl rfl rfl) rfl ?_)
      show AWp _ _ _ _ _ _ _
      exact aT (And.intro (.inr rfl) rfl)
    | some s1 =>
      simp only at hr
      refine aC rfl (fun hc => by cases hc) (fun hc => aK ?_)
      show AWp _ _ _ _ _ _ _
      refine aR ?_
      (refine nx (aM (gN rfl) rfl rfl rfl rfl rfl) rfl ?_)
      (refine nx (aA (gN rfl) rfl rfl rfl rfl rfl) rfl ?_)
      show AWp _ _ _ _ _ _ _
      refine aR ?_
      (refine nx (aM (gN rfl) rfl rfl rfl rfl rfl) rfl ?_)
      (refine nx (a_add (gN rfl) rfl rfl rfl rfl rfl rfl (by first | omega | (simp only [List.length_map, List.length_append, List.length_cons, List.length_nil] <;> omega) | (simp <;> omega))) rfl ?_)
      (refine nx (aA (gN rfl) rfl rfl rfl rfl rfl) rfl ?_)
      exact ⟨m, [(0, AV.val (.lst (la.map Tm.cv))), (1, .val (.lst (lb.map Tm.cv))), (6, .val (.lst (s1.map Bd.cv))), (7, .val (.i ((i + 1 : Nat) : Int)))], by omega, ⟨i + 1, s1, by omega, hr, hC2 s1 hg, rfl⟩, wk_sub ⟨rfl, rfl, rfl, rfl, trivial⟩⟩
end Go.Proofs.YteegmcfobgpemaaGreat
namespace Go.Proofs.YteegmcfobgpemaaGreat
open Go.RowKit
set_option linter.unusedVariables false
set_option linter.unusedSimpArgs false
def bdsRo (s : List Bd) : Prop := ∀ x ∈ s, x.t.rng ∧ x.t.ok
theorem bnd_ro {s : List Bd} {x : Int} {t : Tm} (h : bdsRo s) (ht : t.rng ∧ t.ok) : bdsRo (bndS s x t) := fun y hy => by
  have h1 : bdsRo [⟨x, t⟩] := fun b hb => by rw [List.mem_singleton] at hb; rw [hb]; exact ht
  rcases List.mem_append.1 hy with hy | hy
  · obtain ⟨c, hc, rfl⟩ := List.mem_map.1 hy
    exact ⟨appR_rng (h c hc).1 fun b hb => (h1 b hb).1, appR_ok (h c hc).2 fun b hb => (h1 b hb).2⟩
  · exact h1 y hy
theorem frn_le {V : List Int} {K : Nat} {s s' : List Bd} (h : s.length + frN V s ≤ K) (hl : s'.length = s.length + 1) (hd : s' = s ∨ frN V s' < frN V s) : s'.length + frN V s' ≤ K := by
  rcases hd with rfl | hd
  · omega
  · omega
section
variable {V : List Int} {S : List Tm} {K : Nat}

theorem rUs_mid (hV : ∀ v ∈ V, 0 ≤ v) {n : Nat} {E : List (Tm × Tm)} (ih : ∀ (s : List Bd) (a b : Tm) (E : List (Tm × Tm)), MidU V S K s E → bdsRo s → Way V S s a → Way V S s b → (a.rng ∧ a.ok) → (b.rng ∧ b.ok) → Cnd n s a b ∧ ∀ s', rU n s a b = some (some s') → MidU V S K s' (E ++ [(a, b)]) ∧ bdsRo s') : ∀ (ps : List (Tm × Tm)) (s : List Bd) (F : List (Tm × Tm)), MidU V S K s (E ++ F) → bdsRo s → (∀ p ∈ ps, (∀ (s1 : List Bd) F1, Mgu (imgB s1) (E ++ F1) → Way V S s1 p.1 ∧ Way V S s1 p.2) ∧ (p.1.rng ∧ p.1.ok) ∧ (p.2.rng ∧ p.2.ok)) → CndL (rU n) (Cnd n) ps s ∧ ∀ s', rUs (rU n) ps s = some (some s') → MidU V S K s' (E ++ F ++ ps) ∧ bdsRo s'
  | [], s, F, hm, hr, _ => ⟨trivial, fun s' e => by cases e; rw [List.append_nil]; exact ⟨hm, hr⟩⟩
  | p :: ps, s, F, hm, hr, hp => by
    obtain ⟨h1, h2, h3⟩ := hp p (by simp)
    obtain ⟨w1, w2⟩ := h1 s F hm.mgu
    obtain ⟨c1, c2⟩ := ih s p.1 p.2 (E ++ F) hm hr w1 w2 h2 h3
    have next : ∀ s1, rU n s p.1 p.2 = some (some s1) → CndL (rU n) (Cnd n) ps s1 ∧ ∀ s', rUs (rU n) ps s1 = some (some s') → MidU V S K s' (E ++ F ++ p :: ps) ∧ bdsRo s' := fun s1 e => by
      obtain ⟨m1, m2⟩ := c2 s1 e
      have e3 : E ++ F ++ [(p.1, p.2)] = E ++ (F ++ [p]) := by rw [List.append_assoc]
      rw [e3] at m1
      have := rUs_mid hV ih ps s1 (F ++ [p]) m1 m2 fun q hq => hp q (List.mem_cons_of_mem _ hq)
      rw [show E ++ (F ++ [p]) ++ ps = E ++ F ++ p :: ps by simp] at this
      exact this
    refine ⟨⟨c1, fun s1 e => (next s1 e).1⟩, fun s' e => ?_⟩
    rw [rUs] at e
    cases hg : rU n s p.1 p.2 with
    | none => rw [hg] at e; cases e
    | some q =>
      rw [hg] at e
      cases q with
      | none => cases e
      | some s1 => exact (next s1 hg).2 s' e
theorem rU_mid (hV : ∀ v ∈ V, 0 ≤ v) (hc : Shut S) (hK : K ≤ 100000) (hE : arA S ≤ 60) : ∀ (n : Nat) (s : List Bd) (a b : Tm) (E : List (Tm × Tm)), MidU V S K s E → bdsRo s → Way V S s a → Way V S s b → (a.rng ∧ a.ok) → (b.rng ∧ b.ok) → Cnd n s a b ∧ ∀ s', rU n s a b = some (some s') → MidU V S K s' (E ++ [(a, b)]) ∧ bdsRo s' := by
  intro n
  induction n with
  | zero => intro s a b E _ _ _ _ _ _; exact ⟨trivial, fun s' e => by cases e⟩
  | succ n ih =>
    intro s a b E hm hr wa wb ha hb
    have ea : appR s a = repT (imgB s) a := appR_bare hm.bare a
    have eb : appR s b = repT (imgB s) b := appR_bare hm.bare b
    have hbare : ∀ v, 0 ≤ v → (imgB s v).strip = imgB s v := fun v _ => bare_img hm.bare v
    have za : (appR s a).size ≤ 90000000000 := by rw [ea]; exact big_60 hE (hits_big hc hm.orig hbare wa.hits)
    have zb : (appR s b).size ≤ 90000000000 := by rw [eb]; exact big_60 hE (hits_big hc hm.orig hbare wb.hits)
    have ra : (appR s a).rng ∧ (appR s a).ok := ⟨appR_rng ha.1 fun x hx => (hr x hx).1, appR_ok ha.2 fun x hx => (hr x hx).2⟩
    have rb : (appR s b).rng ∧ (appR s b).ok := ⟨appR_rng hb.1 fun x hx => (hr x hx).1, appR_ok hb.2 fun x hx => (hr x hx).2⟩
    -- the parts of what a term became
    have part : ∀ c : Tm, Way V S s c → (appR s c).rng ∧ (appR s c).ok → ¬ (appR s c).f < 0 → ∀ p ∈ (appR s c).l, (∀ (s1 : List Bd) F1, Mgu (imgB s1) (E ++ F1) → Way V S s1 p) ∧ p.rng ∧ p.ok := by
      intro c wc hcr hcf p hp
      have ec : appR s c = repT (imgB s) c := appR_bare hm.bare c
      refine ⟨fun s1 F1 h1 => ?_, ((Tm.rng_iff _).1 hcr.1).2 p hp, ((Tm.ok_iff _).1 hcr.2).2 p hp⟩
      have hu : uni (imgB s1) E := (uni_app.1 h1.uni).1
      refine ⟨fun u hu => rep_inV hm.inV wc.vs u ?_, ?_⟩
      · rw [← ec, Tm.vs_sym hcf]; exact List.mem_flatMap.2 ⟨p, hp, hu⟩
      · rw [ec] at hcf hp
        obtain ⟨q, hq, hq0, e⟩ := wc.hits.sym hm.orig hbare hcf
        rw [e, repT_sym hq0] at hp
        obtain ⟨q2, hq2, rfl⟩ := List.mem_map.1 hp
        exact ⟨q2, hc q hq q2 (by rw [Tm.ps_of_sym (by omega)]; exact hq2), hm.mgu.rep hu q2⟩
    have list : ∀ c d : Tm, Way V S s c → Way V S s d → (appR s c).rng ∧ (appR s c).ok → (appR s d).rng ∧ (appR s d).ok → ¬ (appR s c).f < 0 → (appR s c).f = (appR s d).f → CndL (rU n) (Cnd n) ((appR s c).l.zip (appR s d).l) s ∧ ∀ s', rUs (rU n) ((appR s c).l.zip (appR s d).l) s = some (some s') → MidU V S K s' (E ++ [] ++ (appR s c).l.zip (appR s d).l) ∧ bdsRo s' := by
      intro c d wc wd hcr hdr hcf hfe
      refine rUs_mid hV ih _ s [] (by rw [List.append_nil]; exact hm) hr fun p hp => ?_
      obtain ⟨p1, p2⟩ := List.of_mem_zip (a := p.1) (b := p.2) hp
      obtain ⟨a1, a2⟩ := part c wc hcr hcf _ p1
      obtain ⟨b1, b2⟩ := part d wd hdr (by rw [← hfe]; exact hcf) _ p2
      exact ⟨fun s1 F1 h1 => ⟨a1 s1 F1 h1, b1 s1 F1 h1⟩, a2, b2⟩
    refine ⟨⟨⟨by have := hm.len; omega, hr⟩, ⟨ha.1, ha.2, hb.1, hb.2⟩, ⟨za, zb⟩, ?_⟩, fun s' e => ?_⟩
    · intro a2 b2 e1 e2 hf hff hll
      split at e1
      · rename_i hs
        rw [if_pos hs] at e2
        subst e1 e2
        exact (list b a wb wa rb ra hf hff).1
      · rename_i hs
        rw [if_neg hs] at e2
        subst e1 e2
        exact (list a b wa wb ra rb hf hff).1
    · have hsp := rU_spec hV e hm.mgu hm.bare hm.inV wa.vs wb.vs
      obtain ⟨q1, q2, q3, q4⟩ := hsp
      have go : ∀ c d : Tm, Way V S s c → Way V S s d → (appR s c).rng ∧ (appR s c).ok → (appR s d).rng ∧ (appR s d).ok → rUgo (rU n) s (appR s c) (appR s d) = some (some s') → (Orig S (imgB s') ∧ s'.length + frN V s' ≤ K ∧ ∀ b ∈ s', b.v ∈ V) ∧ bdsRo s' := by
        intro c d wc wd hcr hdr e
        by_cases hf : (appR s c).f < 0
        · obtain ⟨o1, o2, o3⟩ := rUgo_var hV hm (appR_bare hm.bare c) (appR_bare hm.bare d) wc wd hf e
          refine ⟨⟨o1, frn_le hm.len o2 q4, o3⟩, ?_⟩
          unfold rUgo at e
          rw [if_pos hf] at e
          split at e
          · cases e
          · cases e; exact bnd_ro hr hdr
        · unfold rUgo at e
          rw [if_neg hf] at e
          split at e
          · cases e
          · rename_i hne
            obtain ⟨m1, m2⟩ := (list c d wc wd hcr hdr hf (Decidable.byContradiction fun h => hne (.inl h))).2 s' e
            exact ⟨⟨m1.orig, m1.len, m1.num⟩, m2⟩
      rw [rU] at e
      split at e
      · cases e; exact ⟨⟨q1, q2, q3, hm.orig, hm.len, hm.num⟩, hr⟩
      · split at e
        · obtain ⟨⟨o1, o2, o4⟩, o3⟩ := go b a wb wa rb ra e
          exact ⟨⟨q1, q2, q3, o1, o2, o4⟩, o3⟩
        · obtain ⟨⟨o1, o2, o4⟩, o3⟩ := go a b wa wb ra rb e
          exact ⟨⟨q1, q2, q3, o1, o2, o4⟩, o3⟩
end
def Tiny2 (l : List (Tm × Tm)) : Prop := ∀ p ∈ l, ((p.1.rng ∧ p.1.ok) ∧ p.1.size ≤ 16) ∧ ((p.2.rng ∧ p.2.ok) ∧ p.2.size ≤ 16)
def varsP (l : List (Tm × Tm)) : List Int := l.flatMap fun p => p.1.vs ++ p.2.vs
theorem filt_len {V : List Int} (p : Int → Bool) : (V.filter p).length ≤ V.length := List.length_filter_le _ _
theorem vs_lenU (t : Tm) : t.vs.length ≤ t.size := by
  unfold Tm.vs Tm.size vsL
  rw [List.length_map]
  exact List.length_filter_le _ _
theorem varsP_len : ∀ l : List (Tm × Tm), Tiny2 l → (varsP l).length ≤ 32 * l.length
  | [], _ => Nat.le_refl _
  | p :: l, h => by
    have h1 := h p (by simp)
    have h2 := varsP_len l fun q hq => h q (List.mem_cons_of_mem _ hq)
    have e : varsP (p :: l) = (p.1.vs ++ p.2.vs) ++ varsP l := List.flatMap_cons
    have h3 := vs_lenU p.1
    have h4 := vs_lenU p.2
    rw [e, List.length_append, List.length_append, List.length_cons]
    omega
theorem all_mid (l : List (Tm × Tm)) (hl : l.length ≤ 2) (ht : Tiny2 l) : ∃ n r, rUs (rU n) l [] = some r ∧ CndL (rU n) (Cnd n) l [] ∧ (r = none → ∀ τ, ¬ uni τ l) ∧ ∀ s, r = some s → Mgu (imgB s) l ∧ bareB s ∧ inV (varsP l) s ∧ bdsRo s ∧ (∀ b ∈ s, 0 ≤ b.v) ∧ s.length ≤ 64 ∧ (∀ b ∈ s, b.v ∈ varsP l) ∧ (∀ t, (∃ q ∈ subsP l, t = q) → (repT (imgB s) t).size ≤ 90000000000) ∧ ∀ v, 0 ≤ v → imgB s v = varT v ∨ ((imgB s v).rng ∧ (imgB s v).size ≤ 90000000000) := by
  have hV : ∀ v ∈ varsP l, 0 ≤ v := fun v hv => by
    obtain ⟨p, _, hv⟩ := List.mem_flatMap.1 hv
    rcases List.mem_append.1 hv with hv | hv <;> exact vs_nonneg _ v hv
  have hsub : ∀ p ∈ l, (∀ u ∈ p.1.vs, u ∈ varsP l) ∧ ∀ u ∈ p.2.vs, u ∈ varsP l := fun p hp => ⟨fun u hu => List.mem_flatMap.2 ⟨p, hp, List.mem_append_left _ hu⟩, fun u hu => List.mem_flatMap.2 ⟨p, hp, List.mem_append_right _ hu⟩⟩
  have h0 : Mgu (imgB []) [] := Mgu.nil
  obtain ⟨n, r, e, g1, g2⟩ := allR_spec hV l [] [] h0 (fun b hb => by cases hb) (fun b hb => by cases hb) hsub
  rw [List.nil_append] at g1 g2
  have hE : arA (subsP l) ≤ 60 := by
    have := subs_ar l fun p hp => ⟨(ht p hp).1.2, (ht p hp).2.2⟩
    omega
  have hvl := varsP_len l ht
  have hmid0 : MidU (varsP l) (subsP l) 64 [] ([] ++ []) := ⟨h0, (fun b hb => by cases hb), (fun b hb => by cases hb), (fun v hv hf => by exfalso; apply hf; show (varT v).f < 0; rw [varT_f]; omega), by
    have : frN (varsP l) [] ≤ (varsP l).length := filt_len _
    show 0 + _ ≤ 64
    omega, fun b hb => by cases hb⟩
  obtain ⟨c1, c2⟩ := rUs_mid (V := varsP l) (S := subsP l) (K := 64) (E := []) hV (rU_mid hV (subs_shut l) (by decide) hE n) l [] [] hmid0 (fun b hb => by cases hb) fun p hp => by
    obtain ⟨s1, s2⟩ := subs_has hp
    exact ⟨fun s1' F1 h1 => ⟨⟨(hsub p hp).1, p.1, s1, rfl⟩, ⟨(hsub p hp).2, p.2, s2, rfl⟩⟩, (ht p hp).1.1, (ht p hp).2.1⟩
  refine ⟨n, r, e, c1, g1, fun s hs => ?_⟩
  obtain ⟨k1, k2, k3⟩ := g2 s hs
  rw [hs] at e
  obtain ⟨m1, m2⟩ := c2 s e
  have hbare : ∀ v, 0 ≤ v → (imgB s v).strip = imgB s v := fun v _ => bare_img k2 v
  have hbig : ∀ q ∈ subsP l, (repT (imgB s) q).size ≤ 90000000000 := fun q hq => big_60 hE (hits_big (subs_shut l) m1.orig hbare ⟨q, hq, rfl⟩)
  refine ⟨k1, k2, k3, m2, rUs_pos (rU_pos n) l [] s e (fun b hb => by cases hb), by have := m1.len; omega, m1.num, fun t ⟨q, hq, e⟩ => by rw [e]; exact hbig q hq, fun v hv => ?_⟩
  by_cases hf : (imgB s v).f < 0
  · unfold imgB at hf ⊢
    cases hfd : findB s v with
    | none => exact .inl rfl
    | some t =>
      right
      rw [hfd] at hf
      obtain ⟨b, hbm, e1, _⟩ := findB_mem hfd
      refine ⟨by show t.rng; rw [← e1]; exact (m2 b hbm).1, ?_⟩
      show t.size ≤ _
      rw [Tm.size_var (show t.f < 0 from hf)]
      decide
  · right
    obtain ⟨q, hq, hq0, e1⟩ := m1.orig v hv hf
    refine ⟨?_, by rw [← e1]; exact hbig q hq⟩
    unfold imgB at hf ⊢
    cases hfd : findB s v with
    | none => rw [hfd] at hf; exact absurd (show (varT v).f < 0 by rw [varT_f]; omega) hf
    | some t =>
      obtain ⟨b, hbm, e2, _⟩ := findB_mem hfd
      show t.rng
      rw [← e2]; exact (m2 b hbm).1
end Go.Proofs.YteegmcfobgpemaaGreat
namespace Go.Proofs.YteegmcfobgpemaaGreat
open Go.RowKit
set_option linter.unusedVariables false
set_option linter.unusedSimpArgs false
set_option maxRecDepth 100000
theorem nv_len (t : Tm) : t.nv.length ≤ t.size := by
  have h : ∀ l : List Int, (nub l).length ≤ l.length := by
    intro l
    induction l using snoc_ind with
    | h0 => exact Nat.le_refl _
    | h1 l x ih => rw [nub_snoc]; split <;> simp <;> omega
  refine Nat.le_trans (h t.vs) ?_
  unfold Tm.vs vsL Tm.size
  rw [List.length_map]
  exact List.length_filter_le _ _
theorem zip_at {a b : List Int} {k : Nat} {v u : Int} (h1 : a[k]? = some v) (h2 : b[k]? = some u) : (zipB a b)[k]? = some ⟨v, varT u⟩ := by
  unfold zipB
  rw [List.getElem?_zipWith, h1, h2]
theorem zip_len {a b : List Int} (h : a.length = b.length) : (zipB a b).length = a.length := by
  unfold zipB
  rw [List.length_zipWith]; omega
theorem rep_cong0 {σ σ' : Int → Tm} (h : ∀ v, 0 ≤ v → σ' v = σ v) (t : Tm) : repT σ' t = repT σ t := rep_congr fun v hv => h v (vs_nonneg _ v hv)
theorem Mgu.congr {σ σ' : Int → Tm} {E : List (Tm × Tm)} (hm : Mgu σ E) (h : ∀ v, 0 ≤ v → σ' v = σ v) : Mgu σ' E :=
  ⟨fun p hp => by rw [rep_cong0 h, rep_cong0 h]; exact hm.uni p hp, fun v hv => by rw [h v hv]; exact hm.bare v hv, fun v hv u hu => by
    rw [h v hv] at hu
    rw [h u (vs_nonneg _ u hu)]; exact hm.idem v hv u hu, fun τ ht v hv => by rw [h v hv]; exact hm.most τ ht v hv, fun v hv hf => by
    rw [h v hv] at hf ⊢; exact hm.low v hv hf⟩
theorem img_normB {s : List Bd} (hb : bareB s) {v : Int} (hv : 0 ≤ v) : imgB (normF s) v = imgB s v := by
  have h1 := findN s hv
  have h2 : imgB (normF s) v = (findB (normF s) v).getD (varT v) := rfl
  rw [h2, h1]
  split
  · rename_i hi
    have hi : (decide ((imgB s v).f < 0) && decide (-1 - (imgB s v).f = v)) = true := hi
    rw [Bool.and_eq_true, decide_eq_true_eq, decide_eq_true_eq] at hi
    show varT v = _
    rw [bare_var (bare_img hb v) hi.1, hi.2]
  · exact bare_img hb v
structure Tells8 (l : List (Tm × Tm)) (r : List Bd × Bool) : Prop where
  told : ToldU l r
  yes : r.2 = true → Mgu (imgB r.1) l
  no : r.2 = false → r.1 = [] ∧ ∀ τ, ¬ uni τ l
  len : r.1.length ≤ 64
  ok : ∀ b ∈ r.1, (b.t.rng ∧ b.t.size ≤ 90000000000) ∧ b.t.ok
  bare : bareB r.1
  inV : ∀ b ∈ r.1, b.v ∈ varsP l ∧ ∀ u ∈ b.t.vs, u ∈ varsP l
  srt : r.1.Pairwise (fun x y => x.v < y.v)
  free : ∀ t u, u ∈ (repT (imgB r.1) t).vs → findB r.1 u = none
  big : ∀ q ∈ subsP l, (repT (imgB r.1) q).size ≤ 90000000000
theorem size_subs {l : List (Tm × Tm)} (ht : Tiny2 l) : ∀ q ∈ subsP l, q.size ≤ 16 := fun q hq => by
  have key : ∀ t : Tm, ∀ q ∈ t.flat, q.size ≤ t.size := by
    intro t
    induction t using Tm.indp with
    | h t ih =>
      intro q hq
      rw [Tm.flat_eq] at hq
      rcases List.mem_cons.1 hq with rfl | hq
      · exact Nat.le_refl _
      · obtain ⟨p, hp, hq⟩ := List.mem_flatMap.1 hq
        have := ih p hp q hq
        have := Tm.size_part hp
        omega
  obtain ⟨p, hp, hq⟩ := List.mem_flatMap.1 hq
  rcases List.mem_append.1 hq with hq | hq
  · exact Nat.le_trans (key _ q hq) (ht p hp).1.2
  · exact Nat.le_trans (key _ q hq) (ht p hp).2.2
theorem told_of {l : List (Tm × Tm)} (hl : l.length ≤ 2) (ht : Tiny2 l) : ∃ n r, rUs (rU n) l [] = some r ∧ CndL (rU n) (Cnd n) l [] ∧ (∀ s, r = some s → s.length ≤ 1000 ∧ ∀ b ∈ s, b.t.rng ∧ b.t.ok) ∧ Tells8 l ((r.map normF).getD [], r.isSome) := by
  obtain ⟨n, r, e, hC, h1, h2⟩ := all_mid l hl ht
  refine ⟨n, r, e, hC, fun s hs => ?_, ?_⟩
  · obtain ⟨_, _, _, m4, _, m6, _⟩ := h2 s hs
    exact ⟨by omega, m4⟩
  cases r with
  | none =>
    have hn := h1 rfl
    have hid : ∀ t : Tm, repT (imgB []) t = t.strip := fun t => rep_id t
    exact ⟨.inl ⟨rfl, rfl, hn⟩, (fun h => by cases h), fun _ => ⟨rfl, hn⟩, Nat.zero_le _, (fun b hb => by cases hb), (fun b hb => by cases hb), (fun b hb => by cases hb), List.Pairwise.nil, fun t u hu => rfl, fun q hq => by
      show (repT (imgB []) q).size ≤ _
      rw [hid, Tm.strip_size]
      have := size_subs ht q hq
      omega⟩
  | some s =>
    obtain ⟨m1, m2, m3, m4, m5, m6, m7, m8, m9⟩ := h2 s rfl
    have hi : ∀ v, 0 ≤ v → imgB (normF s) v = imgB s v := fun v hv => img_normB m2 hv
    have hbs : ∀ b ∈ normF s, ∃ c ∈ s, b.v = c.v ∧ b.t = c.t := fun b hb => by
      unfold normF at hb
      obtain ⟨c, hc, rfl⟩ := List.mem_map.1 hb
      have hcs := firstsF_mem (List.mem_filter.1 hc).1
      exact ⟨c, hcs, rfl, m2 c hcs⟩
    have hin : ∀ b ∈ normF s, findB (normF s) b.v = some b.t := fun b hb => by
      have key : ∀ L : List Bd, L.Pairwise (fun x y => x.v < y.v) → ∀ b ∈ L, findB L b.v = some b.t := fun L => by
        induction L with
        | nil => intro _ b hb; cases hb
        | cons a L ih =>
          intro hp b hb
          obtain ⟨p1, p2⟩ := List.pairwise_cons.1 hp
          rw [findB]
          rcases List.mem_cons.1 hb with rfl | hb
          · rw [if_pos rfl]
          · rw [if_neg (by have := p1 b hb; omega)]
            exact ih p2 b hb
      exact key _ (normF_srt s) b hb
    refine ⟨.inr ⟨rfl, s, m1, m5, m9, rfl⟩, fun _ => m1.congr hi, (fun h => by cases h), Nat.le_trans (normF_len s) m6, fun b hb => ?_, fun b hb => ?_, fun b hb => ?_, normF_srt s, fun t u hu => ?_, fun q hq => ?_⟩
    · obtain ⟨c, hc, e1, e2⟩ := hbs b hb
      have h0 : 0 ≤ b.v := by rw [e1]; exact m5 c hc
      have hf := hin b hb
      have him : imgB s b.v = b.t := by rw [← hi _ h0]; unfold imgB; rw [hf]; rfl
      refine ⟨⟨by rw [e2]; exact (m4 c hc).1, ?_⟩, by rw [e2]; exact (m4 c hc).2⟩
      rcases m9 b.v h0 with h | h
      · rw [← him, h, Tm.size_var (by rw [varT_f]; omega)]; decide
      · rw [← him]; exact h.2
    · obtain ⟨c, hc, _, e2⟩ := hbs b hb
      show b.t.strip = b.t
      rw [e2]; exact m2 c hc
    · obtain ⟨c, hc, e1, e2⟩ := hbs b hb
      rw [e1, e2]
      exact ⟨m7 c hc, m3 c hc⟩
    · have hu : u ∈ (repT (imgB (normF s)) t).vs := hu
      rw [rep_cong0 hi] at hu
      exact left_free m1 hu
    · show (repT (imgB (normF s)) q).size ≤ _
      rw [rep_cong0 hi]
      exact m8 q ⟨q, hq, rfl⟩
theorem Tells8.bdsOk {l : List (Tm × Tm)} {r : List Bd × Bool} (h : Tells8 l r) : bdsOk r.1 := fun b hb => (h.ok b hb).1

theorem rep_rng {s : List Bd} (hs : bdsOk s) {t : Tm} (h : t.rng) : (repT (imgB s) t).rng := repT_rng h fun v h1 h2 => (imgB_ok hs h1 h2).1
end Go.Proofs.YteegmcfobgpemaaGreat
namespace Go.Proofs.YteegmcfobgpemaaGreat
open Go.RowKit
set_option linter.unusedVariables false
set_option linter.unusedSimpArgs false
abbrev SrtS (l : List Bd) : Prop := l.Pairwise fun x y => x.v < y.v
def fnI (o : Option Tm) (v : Int) : Option Tm := match o with | some t => if idleB ⟨v, t⟩ then none else some t | none => none

theorem findB_lt {l : List Bd} {v : Int} (h : ∀ c ∈ l, v < c.v) : findB l v = none := findB_none fun b hb => by have := h b hb; omega
theorem srt_eq : ∀ {A B : List Bd}, SrtS A → SrtS B → (∀ v, (findB A v).map Tm.strip = (findB B v).map Tm.strip) → A.map Bd.strip = B.map Bd.strip
  | [], [], _, _, _ => rfl
  | [], b :: B, _, _, h => by have := h b.v; rw [findB, findB, if_pos rfl] at this; cases this
  | a :: A, [], _, _, h => by have := h a.v; rw [findB, findB, if_pos rfl] at this; cases this
  | a :: A, b :: B, hA, hB, h => by
    have hA := List.pairwise_cons.1 hA
    have hB := List.pairwise_cons.1 hB
    have hv : a.v = b.v := by
      rcases Int.lt_trichotomy a.v b.v with h1 | h1 | h1
      · have h2 := h a.v
        rw [findB, if_pos rfl, findB_lt (l := b :: B) (fun c hc => by
          rcases List.mem_cons.1 hc with rfl | hc
          · exact h1
          · have := hB.1 c hc; omega)] at h2
        cases h2
      · exact h1
      · have h2 := h b.v
        rw [findB_lt (l := a :: A) (fun c hc => by
          rcases List.mem_cons.1 hc with rfl | hc
          · exact h1
          · have := hA.1 c hc; omega), findB, if_pos rfl] at h2
        cases h2
    have ht : a.t.strip = b.t.strip := by
      have h2 := h a.v
      rw [findB, if_pos rfl, findB, if_pos hv.symm] at h2
      exact Option.some.inj h2
    rw [List.map_cons, List.map_cons, srt_eq hA.2 hB.2 fun v => ?_]
    · congr 1
      unfold Bd.strip
      rw [hv, ht]
    · by_cases e : v = a.v
      · subst e
        rw [findB_lt hA.1, findB_lt (l := B) (fun c hc => by have := hB.1 c hc; omega)]
      · have h2 := h v
        rw [findB, if_neg (fun h => e h.symm), findB, if_neg (fun h => e (by omega))] at h2
        exact h2

theorem lessN_take (v : Int) : ∀ (l : List Bd), ∀ c ∈ l.take (lessN v l), c.v < v
  | [], c, h => by simp at h
  | b :: l, c, h => by
    rw [lessN] at h
    split at h
    · rename_i hb
      rw [List.take_succ_cons] at h
      rcases List.mem_cons.1 h with rfl | h
      · exact hb
      · exact lessN_take v l c h
    · simp at h
theorem lessN_drop {v : Int} : ∀ {l : List Bd}, SrtS l → (∀ c ∈ l, c.v ≠ v) → ∀ c ∈ l.drop (lessN v l), v < c.v
  | [], _, _, c, h => by simp at h
  | b :: l, hs, hn, c, h => by
    have hs := List.pairwise_cons.1 hs
    rw [lessN] at h
    split at h
    · rw [List.drop_succ_cons] at h
      exact lessN_drop hs.2 (fun x hx => hn x (List.mem_cons_of_mem _ hx)) c h
    · rename_i hb
      have := hn b (by simp)
      rw [List.drop_zero] at h
      rcases List.mem_cons.1 h with rfl | h
      · omega
      · have := hs.1 c h; omega
theorem insV_srt {b : Bd} {l : List Bd} (hs : SrtS l) (hn : ∀ c ∈ l, c.v ≠ b.v) : SrtS (insV b l) := by
  have h1 := lessN_take b.v l
  have h2 := lessN_drop hs hn
  have hs2 : SrtS (l.take (lessN b.v l) ++ l.drop (lessN b.v l)) := by rw [List.take_append_drop]; exact hs
  unfold insV
  rw [List.append_assoc]
  unfold SrtS at hs2 ⊢
  rw [List.pairwise_append] at hs2 ⊢
  refine ⟨hs2.1, ?_, fun x hx y hy => ?_⟩
  · rw [List.singleton_append, List.pairwise_cons]
    exact ⟨h2, hs2.2.1⟩
  · rw [List.singleton_append] at hy
    rcases List.mem_cons.1 hy with rfl | hy
    · exact h1 x hx
    · exact hs2.2.2 x hx y hy
theorem findB_is_none {l : List Bd} {v : Int} (h : findB l v = none) : ∀ c ∈ l, c.v ≠ v := fun c hc e => by
  obtain ⟨t, ht⟩ := findB_some_of_mem hc
  rw [e, h] at ht
  cases ht
theorem findB_ins {b : Bd} {l : List Bd} (hn : findB l b.v = none) (v : Int) : findB (insV b l) v = if b.v = v then some b.t else findB l v := by
  unfold insV
  rw [findB_appd, findB_appd]
  have hl : findB l v = (findB (l.take (lessN b.v l)) v).or (findB (l.drop (lessN b.v l)) v) := by rw [← findB_appd, List.take_append_drop]
  have h1 : findB [b] v = if b.v = v then some b.t else none := by simp only [findB]
  rw [h1]
  by_cases e : b.v = v
  · subst e
    rw [if_pos rfl, if_pos rfl]
    have : findB (l.take (lessN b.v l)) b.v = none := findB_none fun c hc => findB_is_none hn c (List.mem_of_mem_take hc)
    rw [this]; rfl
  · rw [if_neg e, if_neg e, hl]
    simp
theorem known_iff (L : List Bd) (i : Nat) (v : Int) : knownB L i v = (findB (L.take i) v).isSome := by
  unfold knownB
  generalize L.take i = l
  induction l with
  | nil => rfl
  | cons b l ih =>
    rw [List.any_cons, findB, ih]
    by_cases h : b.v = v
    · simp [h]
    · simp [h]
theorem rnm_spec (L : List Bd) : ∀ i, SrtS (rnmF L i) ∧ ∀ v, findB (rnmF L i) v = fnI (findB (L.take i) v) v
  | 0 => ⟨List.Pairwise.nil, fun v => rfl⟩
  | i + 1 => by
    obtain ⟨ih1, ih2⟩ := rnm_spec L i
    cases hx : L[i]? with
    | none =>
      have : L.take (i + 1) = L.take i := by rw [List.take_add_one, hx]; simp
      rw [rnmF, hx, this]
      exact ⟨ih1, ih2⟩
    | some b =>
      have htk := take_snoc hx
      have hstep : ∀ v, findB (L.take (i + 1)) v = (findB (L.take i) v).or (if b.v = v then some b.t else none) := fun v => by rw [htk, findB_snoc]
      rw [rnmF, hx]
      simp only
      cases hk : knownB L i b.v with
      | true =>
        rw [known_iff] at hk
        simp only [Bool.true_or, if_true]
        refine ⟨ih1, fun v => ?_⟩
        rw [ih2 v, hstep v]
        by_cases e : b.v = v
        · subst e
          cases h : findB (L.take i) b.v with
          | none => rw [h] at hk; cases hk
          | some t => rfl
        · rw [if_neg e]; simp
      | false =>
        rw [known_iff] at hk
        have hnone : findB (L.take i) b.v = none := by
          cases h : findB (L.take i) b.v with
          | none => rfl
          | some t => rw [h] at hk; cases hk
        have hOn : findB (rnmF L i) b.v = none := by rw [ih2, hnone]; rfl
        cases hid : idleB b with
        | true =>
          simp only [Bool.or_true, if_true]
          refine ⟨ih1, fun v => ?_⟩
          rw [ih2 v, hstep v]
          by_cases e : b.v = v
          · subst e
            rw [hnone, if_pos rfl]
            show none = fnI (some b.t) b.v
            have h3 : idleB ⟨b.v, b.t⟩ = true := hid
            simp only [fnI, h3, if_true]
          · rw [if_neg e]; simp
        | false =>
          simp only [Bool.or_false, Bool.false_eq_true, if_false]
          refine ⟨insV_srt ih1 (findB_is_none hOn), fun v => ?_⟩
          rw [findB_ins hOn v, hstep v]
          by_cases e : b.v = v
          · subst e
            rw [hnone, if_pos rfl, if_pos rfl]
            show some b.t = fnI (some b.t) b.v
            have h3 : idleB ⟨b.v, b.t⟩ = false := hid
            simp only [fnI, h3, Bool.false_eq_true, if_false]
          · rw [if_neg e, if_neg e, ih2 v]; simp
theorem norm_doc (L : List Bd) : (normF L).map Bd.strip = (rnmF L L.length).map Bd.strip := by
  obtain ⟨h1, h2⟩ := rnm_spec L L.length
  refine srt_eq (normF_srt L) h1 fun v => ?_
  rw [findB_norm, h2, List.take_length]
  unfold fnI
  cases findB L v with
  | none => rfl
  | some t =>
    simp only
    split
    · rfl
    · show some t.strip.strip = some t.strip
      rw [Tm.strip_strip]
theorem rnmF_mem (L : List Bd) : ∀ (i : Nat) (b : Bd), b ∈ rnmF L i → b ∈ L
  | 0, b, h => by cases h
  | i + 1, b, h => by
    rw [rnmF] at h
    split at h
    · exact rnmF_mem L i b h
    · rename_i c hc
      split at h
      · exact rnmF_mem L i b h
      · unfold insV at h
        rcases List.mem_append.1 h with h | h
        · rcases List.mem_append.1 h with h | h
          · exact rnmF_mem L i b (List.mem_of_mem_take h)
          · rw [List.mem_singleton.1 h]; exact List.mem_of_getElem? hc
        · exact rnmF_mem L i b (List.mem_of_mem_drop h)
section
variable {P : Program} {w0 : World} {U0 : UX} {nt : Nat} {ops : Array Oper} {o : Oper} {S : Nat → Option AV} {gs : List Nat} {d : Nat} {s : AS} {a : Act} {w : World} {D : Nat → Nat → Prop} {hv : Nat → Value}

theorem a_cut3 (i1 i2 i3 : Nat) (hg : Gd w0 U0 nt ops o gs S) (hd : o.dst = some d) (hn : Nat.blt d nt = true) (h5 : Nat.blt d 100000 = true) {x y y2 y3 : Operand} {t e : TypeId} {z : Nat} {k k2 k3 : IntKind} {j1 j2 j3 : Int} {n lo len n1 q1 p1 n2 q2 p2 n3 q3 p3} (ho : o.op = .slice t x (some y) (some y2) (some y3)) (hu : P.underlying t = some (.slice e)) (hi : (P.info? e).map (·.size) = some z) (hx : ev S x = some (.sl n lo len z)) (hy : ev S y = some ⟨0, .sc (.int k j1), n1, q1, p1⟩) (hy2 : ev S y2 = some ⟨0, .sc (.int k2 j2), n2, q2, p2⟩) (hy3 : ev S y3 = some ⟨0, .sc (.int k3 j3), n3, q3, p3⟩) (e1 : j1 = (i1 : Int)) (e2 : j2 = (i2 : Int)) (e3 : j3 = (i3 : Int)) (h12 : i1 ≤ i2) (h23 : i2 ≤ i3) (h3 : i3 ≤ len) :
    AOp P w0 U0 nt ops o (gs ++ (rd x ++ (rd y ++ (rd y2 ++ rd y3)))) [] S [(d, .no)] :=
  aop_val hg hd hn h5 (fun k hk => List.mem_append_left _ hk) fun s hs a w D hv hm => by
    obtain ⟨hrn, ao, m, cap, ao', h1, h2, h3', h4, h6, h7⟩ : RN n ∧ SlV (hv n) lo len z (a.eval x) := ev_rep hm (fun k hk => hs k (List.mem_append_right _ (List.mem_append_left _ hk))) hx
    have f1 := ev_sc hm (fun k hk => hs k (List.mem_append_right _ (List.mem_append_right _ (List.mem_append_left _ hk)))) hy
    have f2 := ev_sc hm (fun k hk => hs k (List.mem_append_right _ (List.mem_append_right _ (List.mem_append_right _ (List.mem_append_left _ hk))))) hy2
    have f3 := ev_sc hm (fun k hk => hs k (List.mem_append_right _ (List.mem_append_right _ (List.mem_append_right _ (List.mem_append_right _ hk))))) hy3
    have hsz := run_sizeOf (P := P) (w := w) hi
    have b3 := run_bound (P := P) (w := w) (k := k3) (j := i3) (y := cap - lo) (code := .slice3Acap) (by omega)
    have b2 := run_bound (P := P) (w := w) (k := k2) (j := i2) (y := i3) (code := .slice3B) h23
    have b1 := run_bound (P := P) (w := w) (k := k) (j := i1) (y := i2) (code := .slice3C) h12
    subst e1 e2 e3
    refine ⟨.slice (if i3 = i1 then ao' else ao'.map (·.add (i1 * z))) (i2 - i1) (i3 - i1), ?_, trivial⟩
    generalize a.eval = ρ at h2 f1 f2 f3 ⊢
    simp [execOp, ho, Instr.sliceAt, Instr.slice, run_underlying hu, h2, f1, f2, f3, Instr.sliceBounds, b1, b2, b3, hsz]

theorem a_cutM (i1 i2 : Nat) (hg : Gd w0 U0 nt ops o gs S) (hd : o.dst = some d) (hn : Nat.blt d nt = true) (h5 : Nat.blt d 100000 = true) {x y y2 : Operand} {t e e' : TypeId} {z : Nat} {l : List CV} {k k2 : IntKind} {j1 j2 : Int} {n len n1 q1 p1 n2 q2 p2} (ho : o.op = .slice t x (some y) (some y2) none) (hu : P.underlying t = some (.slice e)) (hi : (P.info? e).map (·.size) = some z) (hx : ev S x = some (.sl n 0 len z)) (hy : ev S y = some ⟨0, .sc (.int k j1), n1, q1, p1⟩) (hy2 : ev S y2 = some ⟨0, .sc (.int k2 j2), n2, q2, p2⟩) (hm' : S n = some (.mrow e' z l)) (e1 : j1 = (i1 : Int)) (e2 : j2 = (i2 : Int)) (h12 : i1 ≤ i2) (h3 : i2 ≤ l.length) :
    AOp P w0 U0 nt ops o (gs ++ (rd x ++ (rd y ++ (rd y2 ++ [n])))) [] S [(d, .sl n i1 (i2 - i1) z)] :=
  aop_val hg hd hn h5 (fun k hk => List.mem_append_left _ hk) fun s hs a w D hv hm => by
    obtain ⟨hrn, ao, m, cap, ao', h1, h2, h3', h4, h6, h7⟩ : RN n ∧ SlV (hv n) 0 len z (a.eval x) := ev_rep hm (fun k hk => hs k (List.mem_append_right _ (List.mem_append_left _ hk))) hx
    have f1 := ev_sc hm (fun k hk => hs k (List.mem_append_right _ (List.mem_append_right _ (List.mem_append_left _ hk)))) hy
    have f2 := ev_sc hm (fun k hk => hs k (List.mem_append_right _ (List.mem_append_right _ (List.mem_append_right _ (List.mem_append_left _ hk))))) hy2
    obtain ⟨xs, g1, g2, g3, g4⟩ := hm.mrow ((hs n (by simp)).trans hm') hrn
    obtain ⟨ao2, cap2, c1, c2, _⟩ := own_slice g1
    have hcap : l.length ≤ cap := by rw [h1] at c1; injection c1 with _ _ c3; omega
    have hsz := run_sizeOf (P := P) (w := w) hi
    have b2 := run_bound (P := P) (w := w) (k := k2) (j := i2) (y := cap) (code := .sliceAcap) (by omega)
    have b1 := run_bound (P := P) (w := w) (k := k) (j := i1) (y := i2) (code := .sliceB) h12
    subst e1 e2
    have h2 : a.eval x = .slice ao len cap := by rw [h2, h4 rfl]; rfl
    refine ⟨.slice (if cap = i1 then ao else ao.map (·.add (i1 * z))) (i2 - i1) (cap - i1), ?_, hrn, ao, m, cap, _, h1, rfl, by show i1 + (i2 - i1) ≤ cap; omega, fun h8 => ?_, fun h8 => ?_, ?_⟩
    · generalize a.eval = ρ at h2 f1 f2 ⊢
      simp [execOp, ho, Instr.sliceAt, Instr.slice, run_underlying hu, h2, f1, f2, Instr.sliceBounds, b1, b2, hsz]
    · have h8 : i1 = 0 := h8
      subst h8
      split
      · rfl
      · cases ao with
        | none => rfl
        | some ad => simp [Addr.add]
    · have h8 : i1 < cap := h8
      intro g hg'
      rw [if_neg (by omega), hg']
      show some ((⟨g, 0, none⟩ : Addr).add (i1 * z)) = some ⟨g, i1 * z, none⟩
      rw [add_at, Nat.zero_add]
    · split
      · exact Iff.rfl
      · rw [Option.map_eq_none_iff]

theorem a_appI (hg : Gd w0 U0 nt ops o gs S) (hd : o.dst = some d) (hn : Nat.blt d nt = true) (h5 : Nat.blt d 100000 = true) {x y : Operand} {t e size bytes : Nat} {zv : Value} {l : List CV} {n len lo2 len2} (ho : o.op = .call { callee := .builtin .append, args := #[x, y], argTypes := #[t, t] }) (ht : P.underlying t = some (.slice e)) (hi : (P.info? e).map (fun i => (i.zero, i.size, i.bytes)) = some (some zv, size, bytes))
    (hx : ev S x = some (.sl n 0 len size)) (hy : ev S y = some (.sl n lo2 len2 size)) (hm' : S n = some (.mrow e size l)) (hl : len + len2 ≤ l.length) (hl2 : lo2 + len2 ≤ l.length) :
    AOp P w0 U0 nt ops o (gs ++ (rd x ++ (rd y ++ [n]))) [] S [(d, .sl n 0 (len + len2) size), (n, .mrow e size (l.take len ++ ((l.drop lo2).take len2 ++ l.drop (len + len2))))] := by
  intro s hs hN a w ⟨D, hv, h⟩ Q K hK
  rw [if_pos (hg s (fun k hk => hs k (List.mem_append_left _ hk)) a w D hv h)]
  obtain ⟨hrn, ao, m, cap, ao', h1, h2, h3, h4, h6, h7⟩ : RN n ∧ SlV (hv n) 0 len size (a.eval x) := ev_rep h (fun k hk => hs k (List.mem_append_right _ (List.mem_append_left _ hk))) hx
  obtain ⟨_, ao2, m2, cap2, ao2', j1, j2, j3, j4, j6, j7⟩ : RN n ∧ SlV (hv n) lo2 len2 size (a.eval y) := ev_rep h (fun k hk => hs k (List.mem_append_right _ (List.mem_append_right _ (List.mem_append_left _ hk)))) hy
  have h2 : a.eval x = .slice ao len cap := by rw [h2, h4 rfl]; rfl
  obtain ⟨i, hi1, hi2, hi3, hi4⟩ := info_parts hi
  have hok : oKey n := by unfold RN at hrn; unfold oKey; omega
  have hm := (hs n (by simp)).trans hm'
  obtain ⟨xs, g1, g2, g3, g4⟩ := h.mrow hm hrn
  obtain ⟨ao3, cap3, c1, c2, _⟩ := own_slice g1
  have hcl : l.length ≤ cap := by rw [h1] at c1; injection c1 with _ _ c3; omega
  have hv2 : SlV (hv n) 0 (len + len2) size (.slice ao (len + len2) cap) := ⟨ao, m, cap, ao, h1, rfl, by omega, fun _ => rfl, fun _ g hg' => by rw [hg', Nat.zero_mul], Iff.rfl⟩
  by_cases hz : len2 = 0
  · subst hz
    have he : (execOp a.eval o).run P w = .ok (.value (.slice ao len cap)) w := by
      have hle : len ≤ cap := by omega
      generalize a.eval = ρ at h2 j2 ⊢
      cases ao <;> cases ao2' <;> simp [execOp, ho, resolve, invoke, builtin, h2, j2, Builtin.append_, run_underlying ht, sizeOf, typeInfo, hi1, Builtin.lenOf, Builtin.firstCells, loadCells, loadCellsFrom, storeCells, hle, Result.andThen]
    unfold Oper.wp
    rw [he, Oper.upon_value, hd]
    have hl' : l.take len ++ ((l.drop lo2).take 0 ++ l.drop (len + 0)) = l := by simp
    refine hK _ _ ⟨D, hv, ?_⟩
    rw [hl']
    have hP := h.put (d := d) (av := .sl n 0 (len + 0) size) (v := .slice ao len cap) (bL hn) (bL h5) ⟨hrn, by rw [Nat.add_zero] at hv2 ⊢; exact hv2⟩
    refine hP.congr fun k => ?_
    show look ((d, _) :: (n, AV.mrow e size l) :: s) k = look ((d, _) :: s) k
    rw [look_cons, look_cons, look_cons]
    split
    · rfl
    · split
      · rename_i e; rw [← e]; exact hm.symm
      · rfl
  obtain ⟨g, cap', cur, f1, f2, f3, f4, f6, f7, f8, f9⟩ := own_some g1 (by omega)
  obtain rfl : cap = cap' := by rw [f1] at h1; injection h1 with k1 k2 k3; exact k3.symm
  obtain rfl : ao = some ⟨g, 0, none⟩ := by rw [f1] at h1; injection h1 with k1 k2 k3; exact k1.symm
  obtain rfl : cap = cap2 := by rw [f1] at j1; injection j1 with k1 k2 k3
  obtain rfl : ao2 = some ⟨g, 0, none⟩ := by rw [f1] at j1; injection j1 with k1 k2 k3; exact k1.symm
  have ha : ao2' = some ⟨g, lo2 * size, none⟩ := j6 (by omega) g rfl
  subst ha
  -- the cells that are appended
  have hsplit2 : l = l.take lo2 ++ ((l.drop lo2).take len2 ++ (l.drop lo2).drop len2) := by rw [List.take_append_drop, List.take_append_drop]
  have q4 := g4
  rw [hsplit2, List.map_append, List.map_append] at q4
  obtain ⟨x1, x4, ex1, t1, t2⟩ := sq_split q4
  obtain ⟨zs, x3, ex2, t3, t4⟩ := sq_split t2
  have hx1 : x1.length = lo2 * size := by rw [sq_len (n := CV.size) (fun c _ xs h => h.len) t1, sum_const (fun c hc => g3 c (List.mem_of_mem_take hc)), List.length_take, Nat.min_eq_left (by omega)]
  have hzsl : zs.length = len2 * size := by rw [sq_len (n := CV.size) (fun c _ xs h => h.len) t3, sum_const (fun c hc => g3 c (List.mem_of_mem_drop (List.mem_of_mem_take hc))), List.length_take, List.length_drop, Nat.min_eq_left (by omega)]
  have hone : ∀ v ∈ zs, v.oneCell' = true := rep_one_of t3
  have hxl : xs.length = l.length * size := g1.1
  have hcl2 : len * size + len2 * size ≤ l.length * size := by rw [← Nat.add_mul]; exact Nat.mul_le_mul_right _ hl
  have hcl3 : lo2 * size + len2 * size ≤ l.length * size := by rw [← Nat.add_mul]; exact Nat.mul_le_mul_right _ hl2
  have hcap : l.length * size ≤ cap * size := Nat.mul_le_mul_right _ f3
  have f7 : cur.toList.take (l.length * size) = xs := f7
  have f6 : cur.size = cap * size := f6
  have hnews : ∀ j u, zs[j]? = some u → w.cell? ((⟨g, lo2 * size, none⟩ : Addr).add j) = some u := fun j u hj => by
    have hjl : j < zs.length := by
      rcases Nat.lt_or_ge j zs.length with h | h
      · exact h
      · rw [List.getElem?_eq_none h] at hj; cases hj
    rw [add_at]
    have hc : xs[lo2 * size + j]? = some u := by rw [ex1, ex2, ← hx1, List.getElem?_append_right (by omega), Nat.add_sub_cancel_left, List.getElem?_append_left hjl]; exact hj
    have hown : w.ownsRow 0 e size (.slice (some ⟨g, 0, none⟩) l.length cap) l.length xs := by rw [← f1]; exact g1
    rw [hown.cellAt _ (by omega)]
    exact hc
  have hr := run_append_room (P := P) w t o.type e i ht hi1 g len cap cur f2 ⟨g, lo2 * size, none⟩ len2 (cap - lo2) zs (by rw [hi3]; exact hzsl) hnews hone (by omega) (by rw [hi3, hzsl, f6]; omega)
  rw [hi3] at hr
  have he : (execOp a.eval o).run P w = .ok (.value (.slice (some ⟨g, 0, none⟩) (len + len2) cap)) (w.setRow g (cur.toList.take (len * size) ++ zs ++ cur.toList.drop (len * size + zs.length)).toArray) := by
    generalize a.eval = ρ at h2 j2 ⊢
    simp [execOp, ho, resolve, invoke, builtin, h2, j2, hr, Result.andThen]
  unfold Oper.wp
  rw [he, Oper.upon_value, hd]
  obtain ⟨l', hl'⟩ : ∃ l', l' = l.take len ++ ((l.drop lo2).take len2 ++ l.drop (len + len2)) := ⟨_, rfl⟩
  have hll : l'.length = l.length := by rw [hl']; simp; omega
  refine hK _ _ ?_
  rw [← hl']
  suffices hG : SimG w0 U0 nt ((n, .mrow e size l') :: s) a (w.setRow g (cur.toList.take (len * size) ++ zs ++ cur.toList.drop (len * size + zs.length)).toArray) D hv from ⟨_, _, hG.put (bL hn) (bL h5) ⟨hrn, hv2⟩⟩
  refine h.store (av := .mrow e size l') hok hm (by simp) (by simp) rfl (fun g' hn o _ => hn o (by simp)) (by simp) f9 f2 fun w' hw hkp => ?_
  have hsplit : l = l.take len ++ ((l.drop len).take len2 ++ (l.drop len).drop len2) := by rw [List.take_append_drop, List.take_append_drop]
  have g4' := g4
  rw [hsplit, List.map_append, List.map_append] at g4'
  obtain ⟨y1, r1, e1, s1, s2⟩ := sq_split g4'
  obtain ⟨y2, y3, e2, s3, s4⟩ := sq_split s2
  have hy1 : y1.length = len * size := by rw [sq_len (n := CV.size) (fun c _ xs h => h.len) s1, sum_const (fun c hc => g3 c (List.mem_of_mem_take hc)), List.length_take, Nat.min_eq_left (by omega)]
  have hy2 : y2.length = len2 * size := by rw [sq_len (n := CV.size) (fun c _ xs h => h.len) s3, sum_const (fun c hc => g3 c (List.mem_of_mem_drop (List.mem_of_mem_take hc))), List.length_take, List.length_drop, Nat.min_eq_left (by omega)]
  have hy3 : y1.length + (y2.length + y3.length) = l.length * size := by have := hxl; rw [e1, e2] at this; simpa using this
  have hcur : cur.toList = y1 ++ (y2 ++ (y3 ++ cur.toList.drop (l.length * size))) := by
    conv => lhs; rw [← List.take_append_drop (l.length * size) cur.toList, f7, e1, e2]
    simp
  have hnew : cur.toList.take (len * size) ++ zs ++ cur.toList.drop (len * size + zs.length) = (y1 ++ (zs ++ y3)) ++ cur.toList.drop (l.length * size) := by
    have t1 : cur.toList.take (len * size) = y1 := by rw [hcur, ← hy1]; simp
    have t2 : cur.toList.drop (len * size + zs.length) = y3 ++ cur.toList.drop (l.length * size) := by
      rw [hzsl, ← hy1, ← hy2]
      conv => lhs; rw [hcur]
      rw [← List.append_assoc, List.drop_append_of_le_length (by simp)]
      simp
    rw [t1, t2]
    simp
  rw [hnew] at hw
  refine ⟨y1 ++ (zs ++ y3), ⟨?_, .inr ⟨g, cap, _, ?_, Nat.zero_le _, hw, ?_, f4, ?_, ?_⟩⟩, g2, fun x hx => ?_, ?_⟩
  · show _ = l'.length * size
    rw [hll]
    simp only [List.length_append, hzsl]
    omega
  · show hv n = .slice _ l'.length cap
    rw [hll]; exact f1
  · show l'.length ≤ cap
    rw [hll]; exact f3
  · have := congrArg List.length hcur
    rw [Array.length_toList, f6] at this
    simp only [List.size_toArray, List.length_append, hzsl] at this ⊢
    show _ = cap * size
    omega
  · show List.take (l'.length * size) _ = _
    rw [hll, List.take_append_of_le_length (by simp only [List.length_append, hzsl]; omega), List.take_of_length_le (by simp only [List.length_append, hzsl]; omega)]
  · have hx : x ∈ l' := hx
    rw [hl', List.mem_append, List.mem_append] at hx
    rcases hx with hx | hx | hx
    · exact g3 x (List.mem_of_mem_take hx)
    · exact g3 x (List.mem_of_mem_drop (List.mem_of_mem_take hx))
    · exact g3 x (List.mem_of_mem_drop hx)
  · show Sq (l'.map fun c => Rep (Us w0 U0 D) w' c) _
    rw [hl', List.map_append, List.map_append]
    refine sq_append (Sq.keep hkp s1) (sq_append (Sq.keep hkp t3) ?_)
    rw [← List.drop_drop]
    exact Sq.keep hkp s4
end
end Go.Proofs.YteegmcfobgpemaaGreat
