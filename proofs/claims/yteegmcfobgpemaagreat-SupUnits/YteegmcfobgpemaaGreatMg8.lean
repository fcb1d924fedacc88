/-
  UnFns10 SmFns SmMath SmSym SmSym2 SmSym3 SmStab SmNorm UnPairs UnBig UnLaws UnMid SbRef7 SbRef7N UnRefW UnMidW SbVnt2 Un8A Un8B SbNormEq TmPlD KbMath KbMath2 KbMath3 OrMath KbSc KbFns KbFns2 KbFns3
-/
import Derived.Test.YteegmcfobgpemaaGreatMg7
import Derived.Test.YteegmcfobgpemaaGreatMg6
import Derived.Test.YteegmcfobgpemaaGreatMg4
import Derived.Test.YteegmcfobgpemaaGreatMg5
import Derived.Test.YteegmcfobgpemaaGreatMg2
import Derived.Test.YteegmcfobgpemaaGreatMg3
namespace Go.Proofs.YteegmcfobgpemaaGreat
open Go.RowKit
set_option linter.unusedVariables false
set_option linter.unusedSimpArgs false
set_option maxRecDepth 100000
noncomputable abbrev cstS (b ck : Nat) (bs : List Nat) (c : Cl) : AS := [(450001, .obj), (35500100, .sl 400001 0 c.ns.length 5), (35500101, .mref 300003), (35500102, .sl 300002 0 c.ps.length 2), (400001, .mrow 194 5 (c.ns.map Nd.cv)), (300003, .stm (c.vr.map vrv) b ck bs), (300002, .mrow 207 2 (c.ps.map psv))]
-- 
set_option maxHeartbeats 2000000 in
theorem uHeadS_abs (b ck : Nat) (bs : List Nat) (vr : List (Int × Nat)) (ps : List (Nat × Nat)) (k : Nat) (ns : List Nd) (n : Nat) (r : List Nd × Nat) (hc : headC k ns n = some r) (hup : upOk ns) (hn : n < ns.length) (hl : ns.length ≤ 1000000) : AFunO Tryz.prog 156 (cstS b ck bs ⟨ns, vr, ps⟩) [.bp 350001 0 [], .val (.i (n : Int))] (.val (.i (r.2 : Int))) (cstS b ck bs ⟨r.1, vr, ps⟩) := by
  refine afunO_of Tryz.func156 Tryz.ntmps156 rfl rfl rfl rfl rfl rfl ?_
  intro w U hU
  refine aS (aR ?_)
  (refine nx (aA (gN rfl) rfl rfl rfl rfl rfl) rfl ?_)
  show AWp _ _ _ _ _ _ _
  refine aS (aB (awp_loop (fun j s => ∃ ns n, headC j ns n = some r ∧ upOk ns ∧ n < ns.length ∧ ns.length ≤ 1000000 ∧ s = (0, AV.bp 350001 0 []) :: (1, .val (.i (n : Int))) :: cstS b ck bs ⟨ns, vr, ps⟩) (n := k) (s' := (0, AV.bp 350001 0 []) :: (1, .val (.i (n : Int))) :: cstS b ck bs ⟨ns, vr, ps⟩) (wk_sub ⟨rfl, rfl, rfl, rfl, rfl, rfl, rfl, rfl, rfl, trivial⟩) ⟨ns, n, hc, hup, hn, hl, rfl⟩ ?_))
  rintro j s ⟨ns, n, hc, hup, hn, hl, rfl⟩
  cases j with
  | zero => cases hc
  | succ j =>
  rw [headC] at hc
  obtain ⟨x, hx⟩ := nd_at hn
  have hx' := Nd.map_at hx
  have hxu : nU ns n = x.up := by unfold nU; rw [getD_at hx]
  have hlm : (ns.map Nd.cv).length = ns.length := List.length_map ..
  refine aS (aS (aR ?_))
  (refine nx (aM (gN rfl) rfl rfl rfl rfl rfl) rfl ?_)
  (refine nx (aNc (gN rfl) rfl rfl rfl rfl rfl) rfl ?_)
  (refine nx (aF (gN rfl) rfl rfl rfl rfl rfl rfl rfl rfl rfl) rfl ?_)
  (refine nx (aLf (gN rfl) rfl rfl rfl rfl rfl rfl rfl rfl rfl rfl rfl rfl rfl) rfl ?_)
  (refine nx (aM (gN rfl) rfl rfl rfl rfl rfl) rfl ?_)
  (refine nx (aIm (k := n) (gN rfl) rfl rfl rfl rfl rfl rfl rfl rfl rfl (by first | rfl | omega | (simp only [List.length_set, List.length_map, List.length_append, List.length_cons, List.length_nil] <;> omega) | (simp <;> omega))) rfl ?_)
  (refine nx (a_fieldM (gN rfl) rfl rfl rfl rfl rfl rfl rfl rfl rfl) rfl ?_)
  (refine nx (a_loadM (gN rfl) rfl rfl rfl rfl rfl rfl rfl rfl (hx') rfl (by first | rfl | omega | (simp only [List.length_set, List.length_map, List.length_append, List.length_cons, List.length_nil] <;> omega) | (simp <;> omega)) rfl rfl) rfl ?_)
  (refine nx (aM (gN rfl) rfl rfl rfl rfl rfl) rfl ?_)
  (refine nx (a_neq (gN rfl) rfl rfl rfl rfl rfl rfl) rfl ?_)
  show AWp _ _ _ _ _ _ _
  refine aC rfl (fun hne => ?_) (fun hne => ?_)
  · have hne : x.up ≠ n := by
      intro e
      rw [e] at hne
      simp at hne
    rw [if_neg (by rw [hxu]; exact hne)] at hc
    have hy0 : x.up < ns.length := by rw [← hxu]; exact hup n hn
    obtain ⟨y, hy⟩ := nd_at hy0
    have hy' := Nd.map_at hy
    have hyu : nU ns (nU ns n) = y.up := by rw [hxu]; unfold nU; rw [getD_at hy]
    rw [hyu] at hc
    have hyl : y.up < ns.length := by rw [← hyu]; exact hup _ (by rw [hxu]; exact hy0)
    refine aK ?_
    show AWp _ _ _ _ _ _ _
    refine aB (aS (aD (by kernel_rfl) (by kernel_rfl) ?_))
    (refine nx (aM (gN rfl) rfl rfl rfl rfl rfl) rfl ?_)
    (refine nx (aNc (gN rfl) rfl rfl rfl rfl rfl) rfl ?_)
    (refine nx (aF (gN rfl) rfl rfl rfl rfl rfl rfl rfl rfl rfl) rfl ?_)
    (refine nx (aLf (gN rfl) rfl rfl rfl rfl rfl rfl rfl rfl rfl rfl rfl rfl rfl) rfl ?_)
    (refine nx (aM (gN rfl) rfl rfl rfl rfl rfl) rfl ?_)
    (refine nx (aM (gN rfl) rfl rfl rfl rfl rfl) rfl ?_)
    (refine nx (aNc (gN rfl) rfl rfl rfl rfl rfl) rfl ?_)
    (refine nx (aF (gN rfl) rfl rfl rfl rfl rfl rfl rfl rfl rfl) rfl ?_)
    (refine nx (aLf (gN rfl) rfl rfl rfl rfl rfl rfl rfl rfl rfl rfl rfl rfl rfl) rfl ?_)
    (refine nx (aM (gN rfl) rfl rfl rfl rfl rfl) rfl ?_)
    (refine nx (aNc (gN rfl) rfl rfl rfl rfl rfl) rfl ?_)
    (refine nx (aF (gN rfl) rfl rfl rfl rfl rfl rfl rfl rfl rfl) rfl ?_)
    (refine nx (aLf (gN rfl) rfl rfl rfl rfl rfl rfl rfl rfl rfl rfl rfl rfl rfl) rfl ?_)
    (refine nx (aM (gN rfl) rfl rfl rfl rfl rfl) rfl ?_)
    (refine nx (aIm (k := n) (gN rfl) rfl rfl rfl rfl rfl rfl rfl rfl rfl (by first | rfl | omega | (simp only [List.length_set, List.length_map, List.length_append, List.length_cons, List.length_nil] <;> omega) | (simp <;> omega))) rfl ?_)
    (refine nx (a_fieldM (gN rfl) rfl rfl rfl rfl rfl rfl rfl rfl rfl) rfl ?_)
    (refine nx (a_loadM (gN rfl) rfl rfl rfl rfl rfl rfl rfl rfl (hx') rfl (by first | rfl | omega | (simp only [List.length_set, List.length_map, List.length_append, List.length_cons, List.length_nil] <;> omega) | (simp <;> omega)) rfl rfl) rfl ?_)
    (refine nx (aIm (k := x.up) (gN rfl) rfl rfl rfl rfl rfl rfl rfl rfl rfl (by first | rfl | omega | (simp only [List.length_set, List.length_map, List.length_append, List.length_cons, List.length_nil] <;> omega) | (simp <;> omega))) rfl ?_)
    (refine nx (a_fieldM (gN rfl) rfl rfl rfl rfl rfl rfl rfl rfl rfl) rfl ?_)
    (refine nx (a_loadM (gN rfl) rfl rfl rfl rfl rfl rfl rfl rfl (hy') rfl (by first | rfl | omega | (simp only [List.length_set, List.length_map, List.length_append, List.length_cons, List.length_nil] <;> omega) | (simp <;> omega)) rfl rfl) rfl ?_)
    (refine nx (aIm (k := n) (gN rfl) rfl rfl rfl rfl rfl rfl rfl rfl rfl (by first | rfl | omega | (simp only [List.length_set, List.length_map, List.length_append, List.length_cons, List.length_nil] <;> omega) | (simp <;> omega))) rfl ?_)
    (refine nx (a_fieldM (gN rfl) rfl rfl rfl rfl rfl rfl rfl rfl rfl) rfl ?_)
    (refine nx (a_storeM (gN rfl) rfl rfl rfl rfl rfl rfl (hx') rfl rfl (by first | rfl | omega | (simp only [List.length_set, List.length_map, List.length_append, List.length_cons, List.length_nil] <;> omega) | (simp <;> omega)) rfl) rfl ?_)
    refine ⟨by kernel_rfl, ?_⟩
    show AWp _ _ _ _ _ _ _
    obtain ⟨ns1, h1⟩ : ∃ ns1, ns1 = setUp ns n y.up := ⟨_, rfl⟩
    have hm1 : ns1.map Nd.cv = (ns.map Nd.cv).set n (Nd.cw { x with up := y.up }) := by rw [h1]; exact map_setUp hx
    have hl1 : ns1.length = ns.length := by rw [h1, setUpLen]
    have hx1 : ns1[n]? = some { x with up := y.up } := by rw [h1]; exact setUp_at hx
    have hx1' := Nd.map_at hx1
    have hxu1 : nU ns1 n = y.up := by unfold nU; rw [getD_at hx1]
    rw [← h1, hxu1] at hc
    have hlm1 : (ns1.map Nd.cv).length = ns1.length := List.length_map ..
    refine AWp.wk (wk_sub (s' := (0, AV.bp 350001 0 []) :: (1, .val (.i (n : Int))) :: cstS b ck bs ⟨ns1, vr, ps⟩) ⟨rfl, rfl, rfl, ?_, rfl, rfl, ?_, rfl, rfl, trivial⟩) ?_
    · show _ = some (AV.sl 400001 0 ns1.length 5); rw [hl1]; rfl
    · show _ = some (AV.mrow 194 5 (ns1.map Nd.cv)); rw [hm1]; rfl
    refine aR ?_
    (refine nx (aM (gN rfl) rfl rfl rfl rfl rfl) rfl ?_)
    (refine nx (aNc (gN rfl) rfl rfl rfl rfl rfl) rfl ?_)
    (refine nx (aF (gN rfl) rfl rfl rfl rfl rfl rfl rfl rfl rfl) rfl ?_)
    (refine nx (aLf (gN rfl) rfl rfl rfl rfl rfl rfl rfl rfl rfl rfl rfl rfl rfl) rfl ?_)
    (refine nx (aM (gN rfl) rfl rfl rfl rfl rfl) rfl ?_)
    (refine nx (aIm (k := n) (gN rfl) rfl rfl rfl rfl rfl rfl rfl rfl rfl (by first | rfl | omega | (simp only [List.length_set, List.length_map, List.length_append, List.length_cons, List.length_nil] <;> omega) | (simp <;> omega))) rfl ?_)
    (refine nx (a_fieldM (gN rfl) rfl rfl rfl rfl rfl rfl rfl rfl rfl) rfl ?_)
    (refine nx (a_loadM (gN rfl) rfl rfl rfl rfl rfl rfl rfl rfl (hx1') rfl (by first | rfl | omega | (simp only [List.length_set, List.length_map, List.length_append, List.length_cons, List.length_nil] <;> omega) | (simp <;> omega)) rfl rfl) rfl ?_)
    (refine nx (aA (gN rfl) rfl rfl rfl rfl rfl) rfl ?_)
    exact ⟨j, (0, AV.bp 350001 0 []) :: (1, .val (.i (y.up : Int))) :: cstS b ck bs ⟨ns1, vr, ps⟩, by omega, ⟨ns1, y.up, hc, by rw [h1]; exact hup.set hyl, by rw [hl1]; exact hyl, by rw [hl1]; exact hl, rfl⟩, wk_sub ⟨rfl, rfl, rfl, rfl, rfl, rfl, rfl, rfl, rfl, trivial⟩⟩
  · have hne : x.up = n := by
      have := of_decide_eq_false hne
      simp only [ne_eq, Decidable.not_not] at this
      omega
    rw [if_pos (by rw [hxu]; exact hne)] at hc
    cases hc
    refine aE ?_
    show AWp _ _ _ _ _ _ _
    refine aS (aR ?_)
    (refine nx (aM (gN rfl) rfl rfl rfl rfl rfl) rfl ?_)
    (refine nx (aA (gN rfl) rfl rfl rfl rfl rfl) rfl ?_)
    show AWp _ _ _ _ _ _ _
    exact aT ⟨.inr rfl, _, Wk.refl _, rfl, rfl, rfl, rfl, rfl, rfl, rfl, rfl, trivial⟩

def bindL (vr : List (Int × Nat)) (g : Nat → Tm) (js : List Nat) : List Bd := js.map fun j => ⟨(vr.getD j (0, 0)).1, g (vr.getD j (0, 0)).2⟩
theorem nodup_at {l : List Nat} (h : l.Nodup) : ∀ {i j x : Nat}, l[i]? = some x → l[j]? = some x → i = j := by
  induction l with
  | nil => intro i j x h1; simp at h1
  | cons y l ih =>
    intro i j x h1 h2
    rw [List.nodup_cons] at h
    cases i with
    | zero =>
      cases j with
      | zero => rfl
      | succ j =>
        simp at h1 h2
        subst h1
        exact absurd (List.mem_of_getElem? h2) h.1
    | succ i =>
      cases j with
      | zero =>
        simp at h1 h2
        subst h2
        exact absurd (List.mem_of_getElem? h1) h.1
      | succ j =>
        simp at h1 h2
        rw [ih h.2 h1 h2]
theorem perm_range {n : Nat} {js : List Nat} (hn : js.Nodup) (hl : ∀ j ∈ js, j < n) (ha : ∀ j, j < n → j ∈ js) : js.Perm (List.range n) :=
  (List.perm_ext_iff_of_nodup hn List.nodup_range).2 fun j => by
    rw [List.mem_range]
    exact ⟨hl j, ha j⟩
theorem nodup_leB {n : Nat} {l : List Nat} (hn : l.Nodup) (hl : ∀ j ∈ l, j < n) : l.length ≤ n := by
  have h : l.Perm ((List.range n).filter fun x => decide (x ∈ l)) := (List.perm_ext_iff_of_nodup hn (List.nodup_range.filter _)).2 fun x => by
    rw [List.mem_filter, List.mem_range, decide_eq_true_eq]
    exact ⟨fun h => ⟨hl x h, h⟩, fun h => h.2⟩
  have h2 := List.length_filter_le (fun x => decide (x ∈ l)) (List.range n)
  rw [h.length_eq]
  rw [List.length_range] at h2
  exact h2
theorem bindL_perm {vr : List (Int × Nat)} {g : Nat → Tm} {js : List Nat} (h : js.Perm (List.range vr.length)) : ∃ vr' : List (Int × Nat), vr'.Perm vr ∧ bindL vr g js = vr'.map fun p => (⟨p.1, g p.2⟩ : Bd) := by
  refine ⟨js.map fun j => vr.getD j (0, 0), ?_, by unfold bindL; rw [List.map_map]; rfl⟩
  refine (h.map _).trans ?_
  have : (List.range vr.length).map (fun j => vr.getD j (0, 0)) = vr := by
    apply List.ext_getElem?
    intro i
    rw [List.getElem?_map]
    rcases Nat.lt_or_ge i vr.length with hi | hi
    · rw [List.getElem?_range hi, Option.map_some, List.getD_eq_getElem?_getD, List.getElem?_eq_getElem hi]; rfl
    · rw [List.getElem?_eq_none (by simpa using hi), List.getElem?_eq_none hi]; rfl
  rw [this]
-- 
set_option maxHeartbeats 8000000 in
theorem uBind_abs (fu : Nat) (c0 : Cl) (od : List Nat) (q : Cl × List Tm) (hq : termsC fu od.reverse c0 (List.replicate c0.ns.length tm0) = some q) (hF : FitU c0) (hlq : q.1.ns.length = c0.ns.length) (hod : ∀ n ∈ od, n < c0.ns.length) (hol : od.length ≤ 1000) {H r : Nat → Nat} {E} (hC : ClsC q.1 H r E) (hFq : FitU q.1) (hvr : vrOk q.1.vr) (hvl : q.1.vr.length ≤ 100000) :
    AFunE (Sg := List Bd × Cl) Tryz.prog 124 (cstM c0) [.bp 350001 0 [], .val (intsV od)] (fun σ => ∃ vr' : List (Int × Nat), vr'.Perm q.1.vr ∧ σ.1 = vr'.map fun p => (⟨p.1, q.2.getD (H p.2) tm0⟩ : Bd)) (fun σ => .val (.lst (σ.1.map Bd.cv))) (fun σ => cstM σ.2) := by
  have hterms := uTerms_abs fu c0 od q hq hF hlq hod hol
  have hout : q.2.length = c0.ns.length := (TI.all (t := (c0, List.replicate c0.ns.length tm0)) (N := c0.ns.length) ⟨hF, by simp, Nat.le_refl _⟩ (fun n hn => hod n (List.mem_reverse.1 hn)) hq).1.out
  obtain ⟨N, hN⟩ : ∃ N, N = c0.ns.length := ⟨_, rfl⟩
  have hNl : N ≤ 1000 := by rw [hN]; exact Nat.le_trans (len_pw _) hF.big
  rw [← hN] at hterms hlq hout
  obtain ⟨c, out⟩ := q
  simp only at hC hFq hvr hvl hlq hout hterms ⊢
  obtain ⟨ns0, vr, ps⟩ := c
  simp only at hC hFq hvr hvl hlq hout hterms ⊢
  have hvm : ∀ (j : Nat) (p : Int × Nat), vr[j]? = some p → p.2 < N := fun j p hp => by
    have := (lookV_iff hvr.1 (v := p.1) (m := p.2)).2 (List.mem_of_getElem? hp)
    have := (hC.vrt p.1 p.2 this).1
    simp only at this
    omega
  have hlv : (vr.map vrv).length = vr.length := List.length_map ..
  refine afunE_of Tryz.func124 Tryz.ntmps124 rfl rfl rfl rfl rfl (fun σ => rfl) ?_
  intro w U hU
  refine aS (aR ?_)
  (refine nx (aA (gN rfl) rfl rfl rfl rfl rfl) rfl ?_)
  show AWp _ _ _ _ _ _ _
  refine aS (aR ?_)
  (refine nx (aM (gN rfl) rfl rfl rfl rfl rfl) rfl ?_)
  (refine nx (aM (gN rfl) rfl rfl rfl rfl rfl) rfl ?_)
  (refine nx (a_callO (gN rfl) rfl rfl rfl rfl rfl (hterms) (by repeat (first | exact trivial | refine ⟨rfl, ?_⟩)) (by first | rfl | kernel_rfl) (by first | rfl | kernel_rfl) (by first | rfl | kernel_rfl) (by first | rfl | kernel_rfl) (hnb_of (by first | rfl | kernel_rfl))) rfl ?_)
  (refine nx (aA (gN rfl) rfl rfl rfl rfl rfl) rfl ?_)
  show AWp _ _ _ _ _ _ _
  refine aS (aR ?_)
  (refine nx (aM (gN rfl) rfl rfl rfl rfl rfl) rfl ?_)
  (refine nx (aNc (gN rfl) rfl rfl rfl rfl rfl) rfl ?_)
  (refine nx (aF (gN rfl) rfl rfl rfl rfl rfl rfl rfl rfl rfl) rfl ?_)
  (refine nx (aLf (gN rfl) rfl rfl rfl rfl rfl rfl rfl rfl rfl rfl rfl rfl rfl) rfl ?_)
  (refine nx (a_lenMp (gN rfl) rfl rfl rfl rfl rfl rfl rfl rfl) rfl ?_)
  (refine nx (a_mk0 200017 (k := (vr.map vrv).length) (gN rfl) rfl rfl rfl rfl rfl rfl rfl rfl rfl rfl rfl rfl (by first | rfl | omega | (simp only [List.length_set, List.length_map, List.length_append, List.length_cons, List.length_nil] <;> omega) | (simp <;> omega)) (by first | rfl | omega | (simp only [List.length_set, List.length_map, List.length_append, List.length_cons, List.length_nil] <;> omega) | (simp <;> omega))) (by kernel_rfl) ?_)
  (refine nx (aA (gN rfl) rfl rfl rfl rfl rfl) rfl ?_)
  show AWp _ _ _ _ _ _ _
  refine AWp.wk ((wk_sub (s' := (0, AV.bp 350001 0 []) :: (5, .sl 300005 0 N 2) :: (6, .sl 200017 0 0 3) :: (200017, .mrow 112 3 []) :: (300005, .mrow 41 2 (out.map Tm.cv)) :: cstM ⟨ns0, vr, ps⟩) ⟨rfl, rfl, rfl, rfl, rfl, rfl, rfl, rfl, rfl, rfl, rfl, rfl, trivial⟩).trans (wk_renF 300001 400001 rfl rfl (hUno hU (by kernel_rfl)) (by kernel_rfl) (by kernel_rfl) (by kernel_rfl))) ?_
  refine AWp.stamps 300003 (l := vr.map vrv) rfl rfl fun b ck bs hbl hbn hbc => ?_
  rw [hlv] at hbl
  refine aS (aS (aR ?_))
  (refine nx (aM (gN rfl) rfl rfl rfl rfl rfl) rfl ?_)
  (refine nx (aNc (gN rfl) rfl rfl rfl rfl rfl) rfl ?_)
  (refine nx (aF (gN rfl) rfl rfl rfl rfl rfl rfl rfl rfl rfl) rfl ?_)
  (refine nx (aLf (gN rfl) rfl rfl rfl rfl rfl rfl rfl rfl rfl rfl rfl rfl rfl) rfl ?_)
  (refine nx (a_rangeM 300022 (gN rfl) rfl rfl rfl rfl rfl rfl rfl rfl) (by kernel_rfl) ?_)
  show AWp _ _ _ _ _ _ _
  obtain ⟨g, hg⟩ : ∃ g : Nat → Tm, g = fun m => out.getD (H m) tm0 := ⟨_, rfl⟩
  obtain ⟨st, hst⟩ : ∃ st : List Nat → List Nd → AS, st = fun js ns1 => (0, AV.bp 350001 0 []) :: (5, .sl 300005 0 N 2) :: (6, .sl 200017 0 js.length 3) :: (22, .mref 300022) :: (300022, .itr b ck ck (js.map fun j => bs.getD j 0)) :: (200017, .mrow 112 3 ((bindL vr g js).map Bd.cv)) :: (300005, .mrow 41 2 (out.map Tm.cv)) :: cstS b ck bs ⟨ns1, vr, ps⟩ := ⟨_, rfl⟩
  refine aB (awp_loop (fun m s => ∃ js ns1, m + js.length = vr.length ∧ js.Nodup ∧ (∀ j ∈ js, j < vr.length) ∧ ClsC ⟨ns1, vr, ps⟩ H r E ∧ FitU ⟨ns1, vr, ps⟩ ∧ ns1.length = N ∧ s = st js ns1) (n := vr.length) (s' := st [] ns0) (by rw [hst]; exact wk_sub ⟨rfl, rfl, rfl, rfl, rfl, rfl, rfl, rfl, rfl, rfl, rfl, rfl, rfl, rfl, trivial⟩) ⟨[], ns0, rfl, List.nodup_nil, (fun j hj => by cases hj), hC, hFq, hlq, rfl⟩ ?_)
  rintro m s ⟨js, ns1, hm, hjn, hjl, hC1, hF1, hl1, rfl⟩
  rw [hst]
  refine aS (awp_nextM (n := 300003) (k := .i64) rfl rfl rfl rfl rfl rfl rfl rfl rfl (vr_keys vr) hbc (Nat.le_refl _) (fun hall => ?_) (fun j x i vc hj hl hx => ?_))
  · refine ⟨_, _, _, aX (gN rfl) rfl rfl rfl rfl rfl rfl, (by first | rfl | kernel_rfl), ?_⟩
    show AWp _ _ _ _ _ _ _
    refine aS (aC rfl (fun hc => by cases hc) (fun _ => aE ?_))
    show AWp _ _ _ _ _ _ _
    have hcov : ∀ j, j < vr.length → j ∈ js := fun j hj => by
      have hjb : j < bs.length := by omega
      have h1 := hall (bs[j]) (List.getElem_mem hjb)
      obtain ⟨j', h2, h3⟩ := List.mem_map.1 h1
      have hj' := hjl j' h2
      have hjb' : j' < bs.length := by omega
      rw [List.getD_eq_getElem?_getD, List.getElem?_eq_getElem hjb'] at h3
      have h3 : bs[j'] = bs[j] := h3
      have := nodup_at hbn (List.getElem?_eq_getElem hjb') (by rw [h3]; exact List.getElem?_eq_getElem hjb)
      rw [← this]; exact h2
    obtain ⟨vr', hp, hb⟩ := bindL_perm (g := g) (perm_range hjn hjl hcov)
    have hbl2 : ((bindL vr g js).map Bd.cv).length = js.length := by rw [List.length_map]; unfold bindL; rw [List.length_map]
    refine AWp.wk (wk_frz 6 200017 rfl rfl rfl (.inr (by decide)) (by rw [hbl2]; omega) (s' := cstS b ck bs ⟨ns1, vr, ps⟩) ⟨rfl, rfl, rfl, rfl, rfl, rfl, rfl, trivial⟩ (by kernel_rfl)) ?_
    rw [List.drop_zero, List.take_of_length_le (by rw [hbl2]; omega)]
    refine aS (aR ?_)
    (refine nx (aM (gN rfl) rfl rfl rfl rfl rfl) rfl ?_)
    (refine nx (aA (gN rfl) rfl rfl rfl rfl rfl) rfl ?_)
    show AWp _ _ _ _ _ _ _
    refine aT ⟨.inr rfl, (bindL vr g js, ⟨ns1, vr, ps⟩), ⟨vr', hp, by rw [hb, hg]⟩, _, ((wk_sub (s' := (4, AV.val (.lst ((bindL vr g js).map Bd.cv))) :: cstS b ck bs ⟨ns1, vr, ps⟩) ⟨rfl, rfl, rfl, rfl, rfl, rfl, rfl, rfl, trivial⟩).trans (wk_unstm 300003 rfl rfl)).trans ((wk_sub (s' := (4, AV.val (.lst ((bindL vr g js).map Bd.cv))) :: cstF ⟨ns1, vr, ps⟩) ⟨rfl, rfl, rfl, rfl, rfl, rfl, rfl, rfl, trivial⟩).trans (wk_renF 400001 300001 rfl rfl (hUlow U (by decide)) (by kernel_rfl) (by kernel_rfl) (by kernel_rfl))), rfl, rfl, rfl, rfl, rfl, rfl, rfl, rfl, trivial⟩
  · refine ⟨_, _, _, aX (gN rfl) rfl rfl rfl rfl rfl rfl, (by first | rfl | kernel_rfl), ?_⟩
    show AWp _ _ _ _ _ _ _
    refine aS (aC rfl (fun _ => aK ?_) (fun hc => by cases hc))
    show AWp _ _ _ _ _ _ _
    have hjl2 : j < vr.length := by
      rcases Nat.lt_or_ge j bs.length with h | h
      · omega
      · rw [List.getElem?_eq_none h] at hj; cases hj
    obtain ⟨p, hp⟩ : ∃ p, vr[j]? = some p := ⟨vr[j], List.getElem?_eq_getElem hjl2⟩
    have hpi : i = p.1 ∧ vc = .i (p.2 : Int) := by
      rw [List.getElem?_map, hp] at hl
      have hl : some (CV.row [.i p.1, .i (p.2 : Int)]) = some (.row [.sc (.int .i64 i), vc]) := hl
      injection hl with hl
      injection hl with _ _ hl
      injection hl with hl hl'
      injection hl' with hl'
      injection hl with _ hl
      injection hl with _ hl
      exact ⟨hl.symm, hl'.symm⟩
    obtain ⟨rfl, rfl⟩ := hpi
    have hpN := hvm j p hp
    obtain ⟨ns2, hd, hC2, hl2, _⟩ := ClsC.head (r p.2 + 1) hC1 (n := p.2) (by omega) (by omega)
    obtain ⟨hF2, _, hr2⟩ := FitU.head hF1 (by omega) hd
    have hHN : H p.2 < N := by have : H p.2 < ns1.length := hr2; omega
    have hdc := uHeadS_abs b ck bs vr ps (r p.2 + 1) ns1 p.2 (ns2, H p.2) hd hF1.up (by omega) (by omega)
    obtain ⟨z, hz⟩ : ∃ z, out[H p.2]? = some z := ⟨out[H p.2]'(by omega), List.getElem?_eq_getElem (by omega)⟩
    have hz' := Tm.map_at hz
    have hlo : (out.map Tm.cv).length = out.length := List.length_map ..
    have hgz : g p.2 = z := by rw [hg]; show out.getD (H p.2) tm0 = z; rw [List.getD_eq_getElem?_getD, hz]; rfl
    have hbl2 : ((bindL vr g js).map Bd.cv).length = js.length := by rw [List.length_map]; unfold bindL; rw [List.length_map]
    have hbl3 : (bindL vr g js).length = js.length := by unfold bindL; rw [List.length_map]
    have hbz := Bd.size_all (bindL vr g js)
    have hjs : js.length ≤ 100000 := by omega
    have hnotin : j ∉ js := fun hmem => hx (List.mem_map.2 ⟨j, hmem, by rw [List.getD_eq_getElem?_getD, hj]; rfl⟩)
    have hsnoc : bindL vr g (js ++ [j]) = bindL vr g js ++ [⟨p.1, z⟩] := by
      unfold bindL
      rw [List.map_append, List.map_singleton, List.getD_eq_getElem?_getD, hp]
      show _ ++ [(⟨p.1, g p.2⟩ : Bd)] = _
      rw [hgz]
    have hnd : (js ++ [j]).Nodup := by
      rw [List.nodup_append]
      exact ⟨hjn, by simp, fun a ha b hb => by rw [List.mem_singleton] at hb; subst hb; exact fun e => hnotin (e ▸ ha)⟩
    have hlt : ∀ x ∈ js ++ [j], x < vr.length := fun x hx => by
      rcases List.mem_append.1 hx with h | h
      · exact hjl x h
      · rw [List.mem_singleton] at h; omega
    refine aB (aS (aR ?_))
    (refine nx (a_entryM (n := 300003) (gN rfl) rfl rfl rfl rfl rfl rfl rfl rfl (hj) (hl)) rfl ?_)
    (refine nx (aX (gN rfl) rfl rfl rfl rfl rfl rfl) rfl ?_)
    (refine nx (aX (gN rfl) rfl rfl rfl rfl rfl rfl) rfl ?_)
    (refine nx (aA (gN rfl) rfl rfl rfl rfl rfl) rfl ?_)
    (refine nx (aA (gN rfl) rfl rfl rfl rfl rfl) rfl ?_)
    show AWp _ _ _ _ _ _ _
    refine aR ?_
    (refine nx (aM (gN rfl) rfl rfl rfl rfl rfl) rfl ?_)
    (refine nx (aM (gN rfl) rfl rfl rfl rfl rfl) rfl ?_)
    (refine nx (aM (gN rfl) rfl rfl rfl rfl rfl) rfl ?_)
    (refine nx (aM (gN rfl) rfl rfl rfl rfl rfl) rfl ?_)
    (refine nx (aM (gN rfl) rfl rfl rfl rfl rfl) rfl ?_)
    (refine nx (a_callO (gN rfl) rfl rfl rfl rfl rfl (hdc) (by repeat (first | exact trivial | refine ⟨rfl, ?_⟩)) (by first | rfl | kernel_rfl) (by first | rfl | kernel_rfl) (by first | rfl | kernel_rfl) (by first | rfl | kernel_rfl) (hnb_of (by first | rfl | kernel_rfl))) rfl ?_)
    (refine nx (aIm (k := H p.2) (gN rfl) rfl rfl rfl rfl rfl rfl rfl rfl rfl (by first | rfl | omega | (simp only [List.length_set, List.length_map, List.length_append, List.length_cons, List.length_nil] <;> omega) | (simp <;> omega))) rfl ?_)
    (refine nx (a_loadM (gN rfl) rfl rfl rfl rfl rfl rfl rfl rfl (hz') rfl (by first | rfl | omega | (simp only [List.length_set, List.length_map, List.length_append, List.length_cons, List.length_nil] <;> omega) | (simp <;> omega)) rfl rfl) rfl ?_)
    (refine nx (a_build (gN rfl) rfl rfl rfl rfl rfl rfl rfl rfl rfl rfl rfl) rfl ?_)
    (refine nx (a_bslice (gN rfl) rfl rfl rfl rfl rfl rfl rfl rfl rfl rfl rfl rfl rfl) rfl ?_)
    (refine nx (a_appM 200038 (gN rfl) rfl rfl rfl rfl rfl rfl rfl rfl rfl rfl rfl rfl rfl (by first | rfl | omega | (simp only [List.length_set, List.length_map, List.length_append, List.length_cons, List.length_nil] <;> omega) | (simp <;> omega)) (by first | assumption | exact sZ rfl | exact Tm.size_all _ | exact Bd.size_all _ | exact ints_size _ | exact bys_size _ | exact Lt.size_all _) (by first | omega | (simp only [List.length_map, List.length_append, List.length_cons, List.length_nil] <;> omega) | (simp <;> omega))) (by kernel_rfl) ?_)
    (refine nx (aA (gN rfl) rfl rfl rfl rfl rfl) rfl ?_)
    refine ⟨m - 1, st (js ++ [j]) ns2, ?_, ⟨js ++ [j], ns2, ?_, ?_, ?_, hC2, hF2, by omega, by rw [hst]⟩, ?_⟩
    · have h2 := nodup_leB hnd hlt
      rw [List.length_append] at h2
      simp at h2
      omega
    · have h2 := nodup_leB hnd hlt
      rw [List.length_append] at h2 ⊢
      simp at h2 ⊢
      omega
    · exact hnd
    · exact hlt
    · rw [hst]
      refine (wk_sub (s' := (0, AV.bp 350001 0 []) :: (5, .sl 300005 0 N 2) :: (6, .sl 200038 0 (js ++ [j]).length 3) :: (22, .mref 300022) :: (300022, .itr b ck ck ((js ++ [j]).map fun j => bs.getD j 0)) :: (200038, .mrow 112 3 ((bindL vr g (js ++ [j])).map Bd.cv)) :: (300005, .mrow 41 2 (out.map Tm.cv)) :: cstS b ck bs ⟨ns2, vr, ps⟩) ⟨rfl, rfl, ?_, rfl, ?_, ?_, rfl, rfl, rfl, rfl, rfl, rfl, rfl, rfl, trivial⟩).trans (wk_ren 200038 200017 rfl rfl (by kernel_rfl) (by kernel_rfl))
      · rw [List.length_append, ← hbl2]; rfl
      · rw [List.map_append, List.map_singleton, List.getD_eq_getElem?_getD, hj]; rfl
      · rw [hsnoc, List.map_append, List.map_singleton]; rfl

end Go.Proofs.YteegmcfobgpemaaGreat
namespace Go.Proofs.YteegmcfobgpemaaGreat
open Go.RowKit
set_option linter.unusedVariables false
set_option linter.unusedSimpArgs false

end Go.Proofs.YteegmcfobgpemaaGreat
namespace Go.Proofs.YteegmcfobgpemaaGreat
open Go.RowKit
set_option linter.unusedVariables false
set_option linter.unusedSimpArgs false
set_option maxRecDepth 100000
section
variable {P : Program} {w0 : World} {U0 : UX} {nt : Nat} {Q : Exit → AS → Prop} {s : AS}
variable {ops : Array Oper} {o : Oper} {gs : List Nat} {S : Nat → Option AV} {d : Nat}
end




theorem vr_len {c : Cl} {H r : Nat → Nat} {E} (h : ClsC c H r E) (hv : vrOk c.vr) : c.vr.length ≤ c.ns.length := by
  have hn : (c.vr.map Prod.snd).Nodup := by
    have h1 : c.vr.Pairwise (fun a b => a.1 ≠ b.1) := List.pairwise_map.1 hv.1
    refine List.pairwise_map.2 (List.Pairwise.imp_of_mem (fun {a b} ha hb hab e => hab ?_) h1)
    have e1 := (h.vrt a.1 a.2 (lookV_mem hv.1 ha)).2
    have e2 := (h.vrt b.1 b.2 (lookV_mem hv.1 hb)).2
    rw [e] at e1
    omega
  have := nodup_le c.ns.length hn (fun x hx => by
    obtain ⟨p, hp, rfl⟩ := List.mem_map.1 hx
    exact (h.vrt p.1 p.2 (lookV_mem hv.1 hp)).1)
  simpa using this
def ToldU (l : List (Tm × Tm)) (r : List Bd × Bool) : Prop := (r.2 = false ∧ r.1 = [] ∧ ∀ τ, ¬ uni τ l) ∨ (r.2 = true ∧ ∃ s : List Bd, Mgu (imgB s) l ∧ (∀ b ∈ s, 0 ≤ b.v) ∧ (∀ v, 0 ≤ v → imgB s v = varT v ∨ ((imgB s v).rng ∧ (imgB s v).size ≤ 90000000000)) ∧ r.1 = normF s)
theorem ToldU.no {l : List (Tm × Tm)} {r : List Bd × Bool} (h : ToldU l r) (hn : ∀ τ, ¬ uni τ l) : r = ([], false) := by
  rcases h with ⟨h1, h2, _⟩ | ⟨_, s, hs, _⟩
  · cases r; simp_all
  · exact absurd hs.uni (hn _)
theorem ToldU.yes {l : List (Tm × Tm)} {r : List Bd × Bool} (h : ToldU l r) {u : List Bd} (hu : Mgu (imgB u) l) (hu0 : ∀ b ∈ u, 0 ≤ b.v) : r = (normF u, true) ∧ ∀ v, 0 ≤ v → imgB u v = varT v ∨ ((imgB u v).rng ∧ (imgB u v).size ≤ 90000000000) := by
  rcases h with ⟨_, _, h3⟩ | ⟨h1, s, hs, h0, hb, h2⟩
  · exact absurd hu.uni (h3 _)
  · refine ⟨?_, fun v hv => by rw [hs.one hu hv]; exact hb v hv⟩
    rw [← mgu_norm h0 hu0 hs hu, ← h2, ← h1]
theorem told_bind {l : List (Tm × Tm)} {r : List Bd × Bool} (h : ToldU l r) {vr vr' : List (Int × Nat)} (hv : vrOk vr) (hvb : ∀ p ∈ vr, p.1 ≤ 9223372036854775807) (hp : vr'.Perm vr) {g : Nat → Tm} {u : List Bd} (hu : u = vr'.map fun p => (⟨p.1, g p.2⟩ : Bd)) (hm : ∀ s : List Bd, (∀ v, findB s v = (lookV vr v).map g) → Mgu (imgB s) l) : r = (normF u, true) ∧ (u.map Bd.v).Nodup ∧ bdsOk u := by
  have hf : ∀ v, findB u v = (lookV vr v).map g := fun v => by rw [hu]; exact findB_bind hv.1 hp g v
  have hu0 : ∀ b ∈ u, 0 ≤ b.v := fun b hb => by
    rw [hu] at hb
    obtain ⟨p, hp2, rfl⟩ := List.mem_map.1 hb
    exact hv.2 p (hp.mem_iff.1 hp2)
  obtain ⟨h1, h2⟩ := h.yes (hm u hf) hu0
  refine ⟨h1, ?_, fun b hb => ?_⟩
  · rw [hu, List.map_map]
    exact (hp.map Prod.fst).nodup_iff.2 hv.1
  · have h3 := h2 b.v (hu0 b hb)
    have e : imgB u b.v = b.t := by
      unfold imgB
      rw [hf]
      rw [hu] at hb
      obtain ⟨p, hp2, rfl⟩ := List.mem_map.1 hb
      show ((lookV vr p.1).map g).getD _ = _
      rw [lookV_mem hv.1 (hp.mem_iff.1 hp2)]
      rfl
    rw [e] at h3
    rcases h3 with h3 | h3
    · rw [h3]
      have hb1 : b.v ≤ 9223372036854775807 := by
        rw [hu] at hb
        obtain ⟨p, hp2, rfl⟩ := List.mem_map.1 hb
        exact hvb p (hp.mem_iff.1 hp2)
      have hb0 := hu0 b hb
      exact ⟨leaf_rng (by omega) (by omega), by rw [Tm.size_var (by rw [varT_f]; omega)]; decide⟩
    · exact h3
end Go.Proofs.YteegmcfobgpemaaGreat
namespace Go.Proofs.YteegmcfobgpemaaGreat
set_option linter.unusedVariables false
set_option linter.unusedSimpArgs false
theorem two_three : ∀ E : Nat, 2 ^ E ≤ 3 ^ E
  | 0 => Nat.le_refl _
  | E + 1 => by
    have := two_three E
    rw [Nat.pow_succ, Nat.pow_succ]; omega
theorem k_two_three : ∀ k : Nat, k * 2 ^ k ≤ 3 ^ k
  | 0 => by decide
  | 1 => by decide
  | 2 => by decide
  | k + 3 => by
    have h := k_two_three (k + 2)
    have e1 : (k + 3) * 2 ^ (k + 3) = (2 * (k + 3)) * 2 ^ (k + 2) := by
      rw [Nat.pow_succ 2 (k + 2), Nat.mul_comm (2 ^ (k + 2)) 2, ← Nat.mul_assoc, Nat.mul_comm (k + 3) 2]
    have e2 : 3 ^ (k + 3) = 3 * 3 ^ (k + 2) := by rw [Nat.pow_succ 3 (k + 2), Nat.mul_comm]
    rw [e1, e2]
    have h2 : (2 * (k + 3)) * 2 ^ (k + 2) ≤ (3 * (k + 2)) * 2 ^ (k + 2) := Nat.mul_le_mul_right _ (by omega)
    rw [Nat.mul_assoc 3] at h2
    omega
def Big (E s : Nat) : Prop := 2 ^ E * (s + 1) ≤ 2 * 3 ^ E
theorem Big.succ {E s : Nat} (h : Big E s) : Big (E + 1) s := by
  unfold Big at *
  rw [Nat.pow_succ, Nat.pow_succ, Nat.mul_assoc, Nat.mul_left_comm]
  omega
theorem Big.up {E F s : Nat} (h : Big E s) (hf : E ≤ F) : Big F s := by
  induction hf with
  | refl => exact h
  | step _ ih => exact ih.succ
theorem Big.sum {E : Nat} : ∀ (l : List Nat), (∀ s ∈ l, Big E s) → 2 ^ E * (l.sum + l.length) ≤ 2 * l.length * 3 ^ E
  | [], _ => by simp
  | s :: l, h => by
    have h1 : 2 ^ E * (s + 1) ≤ 2 * 3 ^ E := h s (by simp)
    have h2 := Big.sum l fun x hx => h x (List.mem_cons_of_mem _ hx)
    rw [List.sum_cons, List.length_cons, show s + l.sum + (l.length + 1) = (s + 1) + (l.sum + l.length) by omega, Nat.mul_add, show 2 * (l.length + 1) * 3 ^ E = 2 * 3 ^ E + 2 * l.length * 3 ^ E by rw [Nat.mul_add, Nat.add_mul, Nat.add_comm]]
    omega
theorem Big.node {E : Nat} (l : List Nat) (h : ∀ s ∈ l, Big E s) : Big (E + l.length) (1 + l.sum) := by
  have h1 := Big.sum l h
  have h23 := two_three E
  have hk := k_two_three l.length
  unfold Big
  rw [Nat.pow_add, Nat.pow_add]
  obtain ⟨A, hA⟩ : ∃ A, A = 2 ^ E := ⟨_, rfl⟩
  obtain ⟨B, hB⟩ : ∃ B, B = 3 ^ E := ⟨_, rfl⟩
  rw [← hA, ← hB] at h1 h23 ⊢
  match l, h1, hk with
  | [], h1, hk => simp; omega
  | [s], h1, hk =>
    simp only [List.sum_cons, List.sum_nil, List.length_cons, List.length_nil, Nat.add_zero, Nat.zero_add, Nat.pow_one, Nat.mul_one] at h1 ⊢
    rw [Nat.mul_comm A 2, Nat.mul_assoc, show A * (1 + s + 1) = A * (s + 1) + A by rw [show 1 + s + 1 = (s + 1) + 1 by omega, Nat.mul_add, Nat.mul_one]]
    omega
  | s :: t :: l, h1, hk =>
    obtain ⟨m, hm⟩ : ∃ m, m = s :: t :: l := ⟨_, rfl⟩
    have hlen : 2 ≤ m.length := by rw [hm]; simp
    rw [← hm] at h1 hk ⊢
    obtain ⟨P, hP⟩ : ∃ P, P = 2 ^ m.length := ⟨_, rfl⟩
    obtain ⟨Q, hQ⟩ : ∃ Q, Q = 3 ^ m.length := ⟨_, rfl⟩
    rw [← hP, ← hQ] at hk
    rw [← hP, ← hQ]
    have h2 : A * (1 + m.sum + 1) ≤ A * (m.sum + m.length) := Nat.mul_le_mul_left _ (by omega)
    have h3 : A * (1 + m.sum + 1) ≤ 2 * m.length * B := Nat.le_trans h2 h1
    have h4 : P * (A * (1 + m.sum + 1)) ≤ P * (2 * m.length * B) := Nat.mul_le_mul_left _ h3
    have h5 : P * (2 * m.length * B) = 2 * (m.length * P * B) := by
      rw [Nat.mul_assoc 2, Nat.mul_left_comm P 2, ← Nat.mul_assoc P, Nat.mul_comm P m.length]
    have h6 : m.length * P * B ≤ Q * B := Nat.mul_le_mul_right _ hk
    rw [show A * P * (1 + m.sum + 1) = P * (A * (1 + m.sum + 1)) by rw [Nat.mul_comm A P, Nat.mul_assoc], Nat.mul_comm B Q]
    omega
theorem size_ren {g : Int → Int} {t : Tm} (hg : ∀ v ∈ t.vs, 0 ≤ g v) : (repT (fun v => varT (g v)) t).size = t.size := by
  induction t using Tm.ind with
  | h f l ih =>
    by_cases hf : f < 0
    · have h1 := hg (-1 - f) (by rw [Tm.vs_var (t := ⟨f, l⟩) hf]; simp)
      rw [repT_var (t := ⟨f, l⟩) hf, varT_strip, Tm.size_var (t := ⟨f, l⟩) hf]
      exact Tm.size_var (by rw [varT_f]; show -1 - g (-1 - f) < 0; omega)
    · rw [Tm.vs_sym (t := ⟨f, l⟩) hf] at hg
      rw [repT_sym (t := ⟨f, l⟩) hf, Tm.size_sym (t := ⟨f, l⟩) hf, Tm.size_sym (t := ⟨f, _⟩) hf, List.map_map]
      congr 2
      exact List.map_congr_left fun t ht => ih t ht fun v hv => hg v (List.mem_flatMap.2 ⟨t, ht, hv⟩)
theorem left_free {s : List Bd} {E : List (Tm × Tm)} (h : Mgu (imgB s) E) {t : Tm} {u : Int} (hu : u ∈ (repT (imgB s) t).vs) : findB (normF s) u = none := by
  have hu0 := vs_nonneg _ u hu
  rw [findN s hu0, h.rep_vs hu, if_pos]
  show (decide ((varT u).f < 0) && decide (-1 - (varT u).f = u)) = true
  rw [varT_f, decide_eq_true (by omega), decide_eq_true (by omega)]; rfl
def Shut (S : List Tm) : Prop := ∀ s ∈ S, ∀ p ∈ s.ps, p ∈ S
def Hits (S : List Tm) (σ : Int → Tm) (t : Tm) : Prop := ∃ s ∈ S, repT σ t = repT σ s
def Orig (S : List Tm) (σ : Int → Tm) : Prop := ∀ v, 0 ≤ v → ¬ (σ v).f < 0 → ∃ s ∈ S, ¬ s.f < 0 ∧ repT σ s = σ v
theorem Hits.sym {S : List Tm} {σ : Int → Tm} {t : Tm} (h : Hits S σ t) (ho : Orig S σ) (hb : ∀ v, 0 ≤ v → (σ v).strip = σ v) (hf : ¬ (repT σ t).f < 0) : ∃ s ∈ S, ¬ s.f < 0 ∧ repT σ t = repT σ s := by
  obtain ⟨s, hs, e⟩ := h
  by_cases hs0 : s.f < 0
  · have h0 : 0 ≤ -1 - s.f := by omega
    have e2 : repT σ s = σ (-1 - s.f) := by rw [repT_var hs0, hb _ h0]
    rw [e, e2] at hf
    obtain ⟨q, hq, hq0, e3⟩ := ho _ h0 hf
    exact ⟨q, hq, hq0, by rw [e, e2, e3]⟩
  · exact ⟨s, hs, hs0, e⟩
theorem sum_map_le {S : List Tm} {f g : Tm → Nat} (h : ∀ x ∈ S, f x ≤ g x) : (S.map f).sum ≤ (S.map g).sum := by
  induction S with
  | nil => exact Nat.le_refl _
  | cons a S ih =>
    rw [List.map_cons, List.map_cons, List.sum_cons, List.sum_cons]
    have h1 := h a (by simp)
    have h2 := ih fun x hx => h x (List.mem_cons_of_mem _ hx)
    omega
theorem sum_map_add {S : List Tm} {f g : Tm → Nat} {c : Nat} {s : Tm} (hs : s ∈ S) (hc : f s + c ≤ g s) (h : ∀ x ∈ S, f x ≤ g x) : (S.map f).sum + c ≤ (S.map g).sum := by
  induction S with
  | nil => cases hs
  | cons a S ih =>
    rw [List.map_cons, List.map_cons, List.sum_cons, List.sum_cons]
    have h1 := h a (by simp)
    rcases List.mem_cons.1 hs with rfl | hs
    · have := sum_map_le (S := S) fun x hx => h x (List.mem_cons_of_mem _ hx)
      omega
    · have := ih hs fun x hx => h x (List.mem_cons_of_mem _ hx)
      omega
def arN (S : List Tm) (σ : Int → Tm) (n : Nat) : Nat := (S.map fun s => if (repT σ s).size ≤ n then s.ps.length else 0).sum
theorem arN_mono {S : List Tm} {σ : Int → Tm} {n m : Nat} (h : n ≤ m) : arN S σ n ≤ arN S σ m := sum_map_le fun x _ => by
  split
  · rw [if_pos (by omega)]; exact Nat.le_refl _
  · exact Nat.zero_le _
theorem Big.one (E : Nat) : Big E 1 := by
  unfold Big
  have := two_three E
  omega
theorem img_big {S : List Tm} {σ : Int → Tm} (hc : Shut S) (ho : Orig S σ) (hb : ∀ v, 0 ≤ v → (σ v).strip = σ v) : ∀ (n : Nat), ∀ s ∈ S, ¬ s.f < 0 → (repT σ s).size ≤ n → Big (arN S σ n) (repT σ s).size := by
  intro n
  induction n with
  | zero => intro s _ _ h; have := Tm.size_pos (repT σ s); omega
  | succ n ih =>
    intro s hs hf hn
    by_cases hle : (repT σ s).size ≤ n
    · exact (ih s hs hf hle).up (arN_mono (by omega))
    have hsz : (repT σ s).size = n + 1 := by omega
    have hps : s.ps = s.l := Tm.ps_of_sym (by omega)
    have he : repT σ s = ⟨s.f, s.l.map (repT σ)⟩ := repT_sym hf
    have h1 : (repT σ s).size = 1 + ((s.l.map (repT σ)).map Tm.size).sum := by rw [he]; exact Tm.size_sym (t := ⟨s.f, s.l.map (repT σ)⟩) hf
    have hparts : ∀ x ∈ (s.l.map (repT σ)).map Tm.size, Big (arN S σ n) x := by
      intro x hx
      rw [List.map_map] at hx
      obtain ⟨p, hp, rfl⟩ := List.mem_map.1 hx
      show Big _ (repT σ p).size
      have hpS : p ∈ S := hc s hs p (by rw [hps]; exact hp)
      have hlt : (repT σ p).size < (repT σ s).size := Tm.size_part (by rw [he, Tm.ps_of_sym (by show 0 ≤ s.f; omega)]; exact List.mem_map.2 ⟨p, hp, rfl⟩)
      by_cases hv : (repT σ p).f < 0
      · rw [Tm.size_var hv]; exact Big.one _
      · obtain ⟨q, hq, hq0, e⟩ := Hits.sym ⟨p, hpS, rfl⟩ ho hb hv
        rw [e] at hlt ⊢
        exact ih q hq hq0 (by omega)
    have h2 := Big.node _ hparts
    rw [← h1] at h2
    refine h2.up ?_
    rw [List.length_map, List.length_map]
    refine sum_map_add hs ?_ fun x _ => ?_
    · rw [if_neg (by omega), if_pos (by omega), hps]; omega
    · split
      · rw [if_pos (by omega)]; exact Nat.le_refl _
      · exact Nat.zero_le _
def arA (S : List Tm) : Nat := (S.map fun s => s.ps.length).sum
theorem hits_big {S : List Tm} {σ : Int → Tm} (hc : Shut S) (ho : Orig S σ) (hb : ∀ v, 0 ≤ v → (σ v).strip = σ v) {t : Tm} (h : Hits S σ t) : Big (arA S) (repT σ t).size := by
  by_cases hv : (repT σ t).f < 0
  · rw [Tm.size_var hv]; exact Big.one _
  · obtain ⟨q, hq, hq0, e⟩ := h.sym ho hb hv
    rw [e]
    refine (img_big hc ho hb _ q hq hq0 (Nat.le_refl _)).up (sum_map_le fun x _ => ?_)
    split
    · exact Nat.le_refl _
    · exact Nat.zero_le _
theorem arA_app (S T : List Tm) : arA (S ++ T) = arA S + arA T := by unfold arA; rw [List.map_append, List.sum_append]
theorem arA_flat (t : Tm) : arA t.flat + 1 = t.size := by
  induction t using Tm.indp with
  | h t ih =>
    have : ∀ l : List Tm, (∀ s ∈ l, arA s.flat + 1 = s.size) → arA (l.flatMap Tm.flat) + l.length = (l.flatMap Tm.flat).length := by
      intro l
      induction l with
      | nil => intro _; rfl
      | cons a l ih2 =>
        intro h
        have h1 := h a (by simp)
        have h2 := ih2 fun s hs => h s (List.mem_cons_of_mem _ hs)
        unfold Tm.size at h1
        rw [List.flatMap_cons, arA_app, List.length_append, List.length_cons]
        omega
    have h3 := this t.ps ih
    rw [Tm.size_eq, Tm.flat_eq]
    show ((t :: t.ps.flatMap Tm.flat).map fun s : Tm => s.ps.length).sum + 1 = _
    rw [List.map_cons, List.sum_cons]
    have h4 : arA (t.ps.flatMap Tm.flat) = ((t.ps.flatMap Tm.flat).map fun s : Tm => s.ps.length).sum := rfl
    omega
theorem flat_shut (t : Tm) : Shut t.flat := by
  induction t using Tm.indp with
  | h t ih =>
    intro s hs p hp
    rw [Tm.flat_eq] at hs ⊢
    rcases List.mem_cons.1 hs with rfl | hs
    · refine List.mem_cons_of_mem _ (List.mem_flatMap.2 ⟨p, hp, ?_⟩)
      rw [Tm.flat_eq]; simp
    · obtain ⟨q, hq, hs⟩ := List.mem_flatMap.1 hs
      exact List.mem_cons_of_mem _ (List.mem_flatMap.2 ⟨q, hq, ih q hq s hs p hp⟩)
def subsP (l : List (Tm × Tm)) : List Tm := l.flatMap fun p => p.1.flat ++ p.2.flat
theorem subs_shut (l : List (Tm × Tm)) : Shut (subsP l) := by
  intro s hs p hp
  obtain ⟨q, hq, hs⟩ := List.mem_flatMap.1 hs
  refine List.mem_flatMap.2 ⟨q, hq, ?_⟩
  rcases List.mem_append.1 hs with hs | hs
  · exact List.mem_append_left _ (flat_shut _ s hs p hp)
  · exact List.mem_append_right _ (flat_shut _ s hs p hp)
theorem subs_has {l : List (Tm × Tm)} {p : Tm × Tm} (h : p ∈ l) : p.1 ∈ subsP l ∧ p.2 ∈ subsP l := by
  refine ⟨List.mem_flatMap.2 ⟨p, h, List.mem_append_left _ ?_⟩, List.mem_flatMap.2 ⟨p, h, List.mem_append_right _ ?_⟩⟩ <;> (rw [Tm.flat_eq]; simp)
theorem subs_ar : ∀ l : List (Tm × Tm), (∀ p ∈ l, p.1.size ≤ 16 ∧ p.2.size ≤ 16) → arA (subsP l) ≤ 30 * l.length
  | [], _ => Nat.le_refl _
  | p :: l, h => by
    have h1 := h p (by simp)
    have h2 := subs_ar l fun q hq => h q (List.mem_cons_of_mem _ hq)
    have e : subsP (p :: l) = (p.1.flat ++ p.2.flat) ++ subsP l := List.flatMap_cons
    have h3 := arA_flat p.1
    have h4 := arA_flat p.2
    rw [e, arA_app, arA_app, List.length_cons]
    omega
theorem big_60 {s E : Nat} (hE : E ≤ 60) (h : Big E s) : s ≤ 90000000000 := by
  have h := h.up hE
  unfold Big at h
  have e1 : (2 : Nat) ^ 60 = 1152921504606846976 := by decide
  have e2 : (3 : Nat) ^ 60 = 42391158275216203514294433201 := by decide
  rw [e1, e2] at h
  omega

structure MidU (V : List Int) (S : List Tm) (K : Nat) (s : List Bd) (E : List (Tm × Tm)) : Prop where
  mgu : Mgu (imgB s) E
  bare : bareB s
  inV : inV V s
  orig : Orig S (imgB s)
  len : s.length + frN V s ≤ K
  num : ∀ b ∈ s, b.v ∈ V
theorem rU_spec {V : List Int} (hV : ∀ v ∈ V, 0 ≤ v) {n : Nat} {s : List Bd} {a b : Tm} {E : List (Tm × Tm)} {r} (e : rU n s a b = some r) (hm : Mgu (imgB s) E) (hb : bareB s) (hi : inV V s) (ha : ∀ u ∈ a.vs, u ∈ V) (hbv : ∀ u ∈ b.vs, u ∈ V) : RSpec V E [(a, b)] s r := by
  obtain ⟨m, r', e', h⟩ := rU_ends hV _ _ s a b E rfl rfl hm hb hi ha hbv
  have h1 := rU_le (Nat.le_max_left n m) _ _ _ _ e
  have h2 := rU_le (Nat.le_max_right n m) _ _ _ _ e'
  rw [h1] at h2
  cases h2
  exact h
theorem bnd_len (s : List Bd) (x : Int) (t : Tm) : (bndS s x t).length = s.length + 1 := by unfold bndS; simp
theorem Orig.bnd {S : List Tm} {s : List Bd} (ho : Orig S (imgB s)) (hb : bareB s) {x : Int} {b : Tm} (hin : x ∉ (repT (imgB s) b).vs) (hh : Hits S (imgB s) b) : Orig S (imgB (bndS s x (repT (imgB s) b))) := by
  have hB : (repT (imgB s) b).strip = repT (imgB s) b := rep_bare _ _
  have hr : ∀ t, repT (imgB (bndS s x (repT (imgB s) b))) t = repT (oneS x (repT (imgB s) b)) (repT (imgB s) t) := fun t => by
    rw [rep_two]
    exact rep_congr fun v hv => img_bnd hB (vs_nonneg _ v hv)
  intro v hv hf
  rw [img_bnd hB hv] at hf ⊢
  by_cases h1 : (imgB s v).f < 0
  · obtain ⟨w, hw⟩ : ∃ w, w = -1 - (imgB s v).f := ⟨_, rfl⟩
    have e1 : repT (oneS x (repT (imgB s) b)) (imgB s v) = (oneS x (repT (imgB s) b) w).strip := by rw [repT_var h1, hw]
    rw [e1] at hf ⊢
    unfold oneS at hf ⊢
    by_cases hx : w = x
    · rw [if_pos hx, hB] at hf ⊢
      obtain ⟨q, hq, hq0, e⟩ := hh.sym ho (fun v hv => bare_img hb v) hf
      refine ⟨q, hq, hq0, ?_⟩
      rw [hr, ← e, one_off hin, hB]
    · rw [if_neg hx, varT_strip, varT_f] at hf
      omega
  · obtain ⟨q, hq, hq0, e⟩ := ho v hv h1
    exact ⟨q, hq, hq0, by rw [hr, e]⟩
structure Way (V : List Int) (S : List Tm) (s : List Bd) (a : Tm) : Prop where
  vs : ∀ u ∈ a.vs, u ∈ V
  hits : Hits S (imgB s) a
theorem bnd_num {V : List Int} {s : List Bd} {x : Int} {t : Tm} (h : ∀ b ∈ s, b.v ∈ V) (hx : x ∈ V) : ∀ b ∈ bndS s x t, b.v ∈ V := fun b hb => by
  rcases List.mem_append.1 hb with hb | hb
  · obtain ⟨c, hc, rfl⟩ := List.mem_map.1 hb; exact h c hc
  · rw [List.mem_singleton] at hb; rw [hb]; exact hx
theorem rUgo_var {V : List Int} (hV : ∀ v ∈ V, 0 ≤ v) {S : List Tm} {K n : Nat} {s : List Bd} {E : List (Tm × Tm)} (h : MidU V S K s E) {a b a1 b1 : Tm} (ha1 : a1 = repT (imgB s) a) (hb1 : b1 = repT (imgB s) b) (ha : Way V S s a) (hb : Way V S s b) (hf : a1.f < 0) {s' : List Bd} (hr : rUgo (rU n) s a1 b1 = some (some s')) : Orig S (imgB s') ∧ s'.length = s.length + 1 ∧ ∀ b ∈ s', b.v ∈ V := by
  unfold rUgo at hr
  rw [if_pos hf] at hr
  split at hr
  · cases hr
  · rename_i hin
    cases hr
    have hx : -1 - a1.f ∈ V := rep_inV h.inV ha.vs _ (by rw [← ha1, Tm.vs_var hf]; simp)
    rw [hb1] at hin ⊢
    exact ⟨h.orig.bnd h.bare hin hb.hits, bnd_len _ _ _, bnd_num h.num hx⟩
end Go.Proofs.YteegmcfobgpemaaGreat
namespace Go.Proofs.YteegmcfobgpemaaGreat
open Go.RowKit
set_option linter.unusedVariables false
set_option linter.unusedSimpArgs false
set_option maxRecDepth 100000


theorem appR_rng {l : List Bd} {t : Tm} (h : t.rng) (hi : ∀ b ∈ l, b.t.rng) : (appR l t).rng := by
  induction t using Tm.ind with
  | h f k ih =>
    obtain ⟨h1, h2⟩ := (Tm.rng_iff _).1 h
    simp only at h1 h2
    by_cases hf : f < 0
    · rw [appR_var hf]
      unfold imgB
      cases hb : findB l (-1 - (Tm.mk f k).f) with
      | none =>
        show (varT (-1 - f)).rng
        exact leaf_rng (by omega) (by omega)
      | some t =>
        obtain ⟨b, hbm, e, _⟩ := findB_mem hb
        show t.rng
        rw [← e]; exact hi b hbm
    · rw [appR_sym hf]
      refine (Tm.rng_iff _).2 ⟨h1, fun s hs => ?_⟩
      obtain ⟨u, hu, rfl⟩ := List.mem_map.1 hs
      exact ih u hu (h2 u hu)
def CndL (g : List Bd → Tm → Tm → Option (Option (List Bd))) (C : List Bd → Tm → Tm → Prop) : List (Tm × Tm) → List Bd → Prop
  | [], _ => True
  | p :: ps, s => C s p.1 p.2 ∧ ∀ s', g s p.1 p.2 = some (some s') → CndL g C ps s'
def Cnd : Nat → List Bd → Tm → Tm → Prop
  | 0, _, _, _ => True
  | n + 1, s, a, b => (s.length ≤ 100000 ∧ ∀ x ∈ s, x.t.rng ∧ x.t.ok) ∧ (a.rng ∧ a.ok ∧ b.rng ∧ b.ok) ∧ ((appR s a).size ≤ 90000000000 ∧ (appR s b).size ≤ 90000000000) ∧ ∀ a2 b2 : Tm, a2 = (if swC (appR s a) (appR s b) then appR s b else appR s a) → b2 = (if swC (appR s a) (appR s b) then appR s a else appR s b) → ¬ a2.f < 0 → a2.f = b2.f → a2.l.length = b2.l.length → CndL (rU n) (Cnd n) (a2.l.zip b2.l) s
end Go.Proofs.YteegmcfobgpemaaGreat
namespace Go.Proofs.YteegmcfobgpemaaGreat
open Go.RowKit
set_option linter.unusedVariables false
set_option linter.unusedSimpArgs false
def bdsRo (s : List Bd) : Prop := ∀ x ∈ s, x.t.rng ∧ x.t.ok
theorem bnd_ro {s : List Bd} {x : Int} {t : Tm} (h : bdsRo s) (ht : t.rng ∧ t.ok) : bdsRo (bndS s x t) := fun y hy => by
  have h1 : bdsRo [⟨x, t⟩] := fun b hb => by rw [List.mem_singleton] at hb; rw [hb]; exact ht
  rcases List.mem_append.1 hy with hy | hy
  · obtain ⟨c, hc, rfl⟩ := List.mem_map.1 hy
    exact ⟨appR_rng (h c hc).1 fun b hb => (h1 b hb).1, appR_ok (h c hc).2 fun b hb => (h1 b hb).2⟩
  · exact h1 y hy
theorem frn_le {V : List Int} {K : Nat} {s s' : List Bd} (h : s.length + frN V s ≤ K) (hl : s'.length = s.length + 1) (hd : s' = s ∨ frN V s' < frN V s) : s'.length + frN V s' ≤ K := by
  rcases hd with rfl | hd
  · omega
  · omega
section
variable {V : List Int} {S : List Tm} {K : Nat}

theorem rUs_mid (hV : ∀ v ∈ V, 0 ≤ v) {n : Nat} {E : List (Tm × Tm)} (ih : ∀ (s : List Bd) (a b : Tm) (E : List (Tm × Tm)), MidU V S K s E → bdsRo s → Way V S s a → Way V S s b → (a.rng ∧ a.ok) → (b.rng ∧ b.ok) → Cnd n s a b ∧ ∀ s', rU n s a b = some (some s') → MidU V S K s' (E ++ [(a, b)]) ∧ bdsRo s') : ∀ (ps : List (Tm × Tm)) (s : List Bd) (F : List (Tm × Tm)), MidU V S K s (E ++ F) → bdsRo s → (∀ p ∈ ps, (∀ (s1 : List Bd) F1, Mgu (imgB s1) (E ++ F1) → Way V S s1 p.1 ∧ Way V S s1 p.2) ∧ (p.1.rng ∧ p.1.ok) ∧ (p.2.rng ∧ p.2.ok)) → CndL (rU n) (Cnd n) ps s ∧ ∀ s', rUs (rU n) ps s = some (some s') → MidU V S K s' (E ++ F ++ ps) ∧ bdsRo s'
  | [], s, F, hm, hr, _ => ⟨trivial, fun s' e => by cases e; rw [List.append_nil]; exact ⟨hm, hr⟩⟩
  | p :: ps, s, F, hm, hr, hp => by
    obtain ⟨h1, h2, h3⟩ := hp p (by simp)
    obtain ⟨w1, w2⟩ := h1 s F hm.mgu
    obtain ⟨c1, c2⟩ := ih s p.1 p.2 (E ++ F) hm hr w1 w2 h2 h3
    have next : ∀ s1, rU n s p.1 p.2 = some (some s1) → CndL (rU n) (Cnd n) ps s1 ∧ ∀ s', rUs (rU n) ps s1 = some (some s') → MidU V S K s' (E ++ F ++ p :: ps) ∧ bdsRo s' := fun s1 e => by
      obtain ⟨m1, m2⟩ := c2 s1 e
      have e3 : E ++ F ++ [(p.1, p.2)] = E ++ (F ++ [p]) := by rw [List.append_assoc]
      rw [e3] at m1
      have := rUs_mid hV ih ps s1 (F ++ [p]) m1 m2 fun q hq => hp q (List.mem_cons_of_mem _ hq)
      rw [show E ++ (F ++ [p]) ++ ps = E ++ F ++ p :: ps by simp] at this
      exact this
    refine ⟨⟨c1, fun s1 e => (next s1 e).1⟩, fun s' e => ?_⟩
    rw [rUs] at e
    cases hg : rU n s p.1 p.2 with
    | none => rw [hg] at e; cases e
    | some q =>
      rw [hg] at e
      cases q with
      | none => cases e
      | some s1 => exact (next s1 hg).2 s' e
theorem rU_mid (hV : ∀ v ∈ V, 0 ≤ v) (hc : Shut S) (hK : K ≤ 100000) (hE : arA S ≤ 60) : ∀ (n : Nat) (s : List Bd) (a b : Tm) (E : List (Tm × Tm)), MidU V S K s E → bdsRo s → Way V S s a → Way V S s b → (a.rng ∧ a.ok) → (b.rng ∧ b.ok) → Cnd n s a b ∧ ∀ s', rU n s a b = some (some s') → MidU V S K s' (E ++ [(a, b)]) ∧ bdsRo s' := by
  intro n
  induction n with
  | zero => intro s a b E _ _ _ _ _ _; exact ⟨trivial, fun s' e => by cases e⟩
  | succ n ih =>
    intro s a b E hm hr wa wb ha hb
    have ea : appR s a = repT (imgB s) a := appR_bare hm.bare a
    have eb : appR s b = repT (imgB s) b := appR_bare hm.bare b
    have hbare : ∀ v, 0 ≤ v → (imgB s v).strip = imgB s v := fun v _ => bare_img hm.bare v
    have za : (appR s a).size ≤ 90000000000 := by rw [ea]; exact big_60 hE (hits_big hc hm.orig hbare wa.hits)
    have zb : (appR s b).size ≤ 90000000000 := by rw [eb]; exact big_60 hE (hits_big hc hm.orig hbare wb.hits)
    have ra : (appR s a).rng ∧ (appR s a).ok := ⟨appR_rng ha.1 fun x hx => (hr x hx).1, appR_ok ha.2 fun x hx => (hr x hx).2⟩
    have rb : (appR s b).rng ∧ (appR s b).ok := ⟨appR_rng hb.1 fun x hx => (hr x hx).1, appR_ok hb.2 fun x hx => (hr x hx).2⟩
    -- the parts of what a term became
    have part : ∀ c : Tm, Way V S s c → (appR s c).rng ∧ (appR s c).ok → ¬ (appR s c).f < 0 → ∀ p ∈ (appR s c).l, (∀ (s1 : List Bd) F1, Mgu (imgB s1) (E ++ F1) → Way V S s1 p) ∧ p.rng ∧ p.ok := by
      intro c wc hcr hcf p hp
      have ec : appR s c = repT (imgB s) c := appR_bare hm.bare c
      refine ⟨fun s1 F1 h1 => ?_, ((Tm.rng_iff _).1 hcr.1).2 p hp, ((Tm.ok_iff _).1 hcr.2).2 p hp⟩
      have hu : uni (imgB s1) E := (uni_app.1 h1.uni).1
      refine ⟨fun u hu => rep_inV hm.inV wc.vs u ?_, ?_⟩
      · rw [← ec, Tm.vs_sym hcf]; exact List.mem_flatMap.2 ⟨p, hp, hu⟩
      · rw [ec] at hcf hp
        obtain ⟨q, hq, hq0, e⟩ := wc.hits.sym hm.orig hbare hcf
        rw [e, repT_sym hq0] at hp
        obtain ⟨q2, hq2, rfl⟩ := List.mem_map.1 hp
        exact ⟨q2, hc q hq q2 (by rw [Tm.ps_of_sym (by omega)]; exact hq2), hm.mgu.rep hu q2⟩
    have list : ∀ c d : Tm, Way V S s c → Way V S s d → (appR s c).rng ∧ (appR s c).ok → (appR s d).rng ∧ (appR s d).ok → ¬ (appR s c).f < 0 → (appR s c).f = (appR s d).f → CndL (rU n) (Cnd n) ((appR s c).l.zip (appR s d).l) s ∧ ∀ s', rUs (rU n) ((appR s c).l.zip (appR s d).l) s = some (some s') → MidU V S K s' (E ++ [] ++ (appR s c).l.zip (appR s d).l) ∧ bdsRo s' := by
      intro c d wc wd hcr hdr hcf hfe
      refine rUs_mid hV ih _ s [] (by rw [List.append_nil]; exact hm) hr fun p hp => ?_
      obtain ⟨p1, p2⟩ := List.of_mem_zip (a := p.1) (b := p.2) hp
      obtain ⟨a1, a2⟩ := part c wc hcr hcf _ p1
      obtain ⟨b1, b2⟩ := part d wd hdr (by rw [← hfe]; exact hcf) _ p2
      exact ⟨fun s1 F1 h1 => ⟨a1 s1 F1 h1, b1 s1 F1 h1⟩, a2, b2⟩
    refine ⟨⟨⟨by have := hm.len; omega, hr⟩, ⟨ha.1, ha.2, hb.1, hb.2⟩, ⟨za, zb⟩, ?_⟩, fun s' e => ?_⟩
    · intro a2 b2 e1 e2 hf hff hll
      split at e1
      · rename_i hs
        rw [if_pos hs] at e2
        subst e1 e2
        exact (list b a wb wa rb ra hf hff).1
      · rename_i hs
        rw [if_neg hs] at e2
        subst e1 e2
        exact (list a b wa wb ra rb hf hff).1
    · have hsp := rU_spec hV e hm.mgu hm.bare hm.inV wa.vs wb.vs
      obtain ⟨q1, q2, q3, q4⟩ := hsp
      have go : ∀ c d : Tm, Way V S s c → Way V S s d → (appR s c).rng ∧ (appR s c).ok → (appR s d).rng ∧ (appR s d).ok → rUgo (rU n) s (appR s c) (appR s d) = some (some s') → (Orig S (imgB s') ∧ s'.length + frN V s' ≤ K ∧ ∀ b ∈ s', b.v ∈ V) ∧ bdsRo s' := by
        intro c d wc wd hcr hdr e
        by_cases hf : (appR s c).f < 0
        · obtain ⟨o1, o2, o3⟩ := rUgo_var hV hm (appR_bare hm.bare c) (appR_bare hm.bare d) wc wd hf e
          refine ⟨⟨o1, frn_le hm.len o2 q4, o3⟩, ?_⟩
          unfold rUgo at e
          rw [if_pos hf] at e
          split at e
          · cases e
          · cases e; exact bnd_ro hr hdr
        · unfold rUgo at e
          rw [if_neg hf] at e
          split at e
          · cases e
          · rename_i hne
            obtain ⟨m1, m2⟩ := (list c d wc wd hcr hdr hf (Decidable.byContradiction fun h => hne (.inl h))).2 s' e
            exact ⟨⟨m1.orig, m1.len, m1.num⟩, m2⟩
      rw [rU] at e
      split at e
      · cases e; exact ⟨⟨q1, q2, q3, hm.orig, hm.len, hm.num⟩, hr⟩
      · split at e
        · obtain ⟨⟨o1, o2, o4⟩, o3⟩ := go b a wb wa rb ra e
          exact ⟨⟨q1, q2, q3, o1, o2, o4⟩, o3⟩
        · obtain ⟨⟨o1, o2, o4⟩, o3⟩ := go a b wa wb ra rb e
          exact ⟨⟨q1, q2, q3, o1, o2, o4⟩, o3⟩
end
def Tiny2 (l : List (Tm × Tm)) : Prop := ∀ p ∈ l, ((p.1.rng ∧ p.1.ok) ∧ p.1.size ≤ 16) ∧ ((p.2.rng ∧ p.2.ok) ∧ p.2.size ≤ 16)
def varsP (l : List (Tm × Tm)) : List Int := l.flatMap fun p => p.1.vs ++ p.2.vs
theorem filt_len {V : List Int} (p : Int → Bool) : (V.filter p).length ≤ V.length := List.length_filter_le _ _
theorem vs_lenU (t : Tm) : t.vs.length ≤ t.size := by
  unfold Tm.vs Tm.size vsL
  rw [List.length_map]
  exact List.length_filter_le _ _
theorem varsP_len : ∀ l : List (Tm × Tm), Tiny2 l → (varsP l).length ≤ 32 * l.length
  | [], _ => Nat.le_refl _
  | p :: l, h => by
    have h1 := h p (by simp)
    have h2 := varsP_len l fun q hq => h q (List.mem_cons_of_mem _ hq)
    have e : varsP (p :: l) = (p.1.vs ++ p.2.vs) ++ varsP l := List.flatMap_cons
    have h3 := vs_lenU p.1
    have h4 := vs_lenU p.2
    rw [e, List.length_append, List.length_append, List.length_cons]
    omega
theorem all_mid (l : List (Tm × Tm)) (hl : l.length ≤ 2) (ht : Tiny2 l) : ∃ n r, rUs (rU n) l [] = some r ∧ CndL (rU n) (Cnd n) l [] ∧ (r = none → ∀ τ, ¬ uni τ l) ∧ ∀ s, r = some s → Mgu (imgB s) l ∧ bareB s ∧ inV (varsP l) s ∧ bdsRo s ∧ (∀ b ∈ s, 0 ≤ b.v) ∧ s.length ≤ 64 ∧ (∀ b ∈ s, b.v ∈ varsP l) ∧ (∀ t, (∃ q ∈ subsP l, t = q) → (repT (imgB s) t).size ≤ 90000000000) ∧ ∀ v, 0 ≤ v → imgB s v = varT v ∨ ((imgB s v).rng ∧ (imgB s v).size ≤ 90000000000) := by
  have hV : ∀ v ∈ varsP l, 0 ≤ v := fun v hv => by
    obtain ⟨p, _, hv⟩ := List.mem_flatMap.1 hv
    rcases List.mem_append.1 hv with hv | hv <;> exact vs_nonneg _ v hv
  have hsub : ∀ p ∈ l, (∀ u ∈ p.1.vs, u ∈ varsP l) ∧ ∀ u ∈ p.2.vs, u ∈ varsP l := fun p hp => ⟨fun u hu => List.mem_flatMap.2 ⟨p, hp, List.mem_append_left _ hu⟩, fun u hu => List.mem_flatMap.2 ⟨p, hp, List.mem_append_right _ hu⟩⟩
  have h0 : Mgu (imgB []) [] := Mgu.nil
  obtain ⟨n, r, e, g1, g2⟩ := allR_spec hV l [] [] h0 (fun b hb => by cases hb) (fun b hb => by cases hb) hsub
  rw [List.nil_append] at g1 g2
  have hE : arA (subsP l) ≤ 60 := by
    have := subs_ar l fun p hp => ⟨(ht p hp).1.2, (ht p hp).2.2⟩
    omega
  have hvl := varsP_len l ht
  have hmid0 : MidU (varsP l) (subsP l) 64 [] ([] ++ []) := ⟨h0, (fun b hb => by cases hb), (fun b hb => by cases hb), (fun v hv hf => by exfalso; apply hf; show (varT v).f < 0; rw [varT_f]; omega), by
    have : frN (varsP l) [] ≤ (varsP l).length := filt_len _
    show 0 + _ ≤ 64
    omega, fun b hb => by cases hb⟩
  obtain ⟨c1, c2⟩ := rUs_mid (V := varsP l) (S := subsP l) (K := 64) (E := []) hV (rU_mid hV (subs_shut l) (by decide) hE n) l [] [] hmid0 (fun b hb => by cases hb) fun p hp => by
    obtain ⟨s1, s2⟩ := subs_has hp
    exact ⟨fun s1' F1 h1 => ⟨⟨(hsub p hp).1, p.1, s1, rfl⟩, ⟨(hsub p hp).2, p.2, s2, rfl⟩⟩, (ht p hp).1.1, (ht p hp).2.1⟩
  refine ⟨n, r, e, c1, g1, fun s hs => ?_⟩
  obtain ⟨k1, k2, k3⟩ := g2 s hs
  rw [hs] at e
  obtain ⟨m1, m2⟩ := c2 s e
  have hbare : ∀ v, 0 ≤ v → (imgB s v).strip = imgB s v := fun v _ => bare_img k2 v
  have hbig : ∀ q ∈ subsP l, (repT (imgB s) q).size ≤ 90000000000 := fun q hq => big_60 hE (hits_big (subs_shut l) m1.orig hbare ⟨q, hq, rfl⟩)
  refine ⟨k1, k2, k3, m2, rUs_pos (rU_pos n) l [] s e (fun b hb => by cases hb), by have := m1.len; omega, m1.num, fun t ⟨q, hq, e⟩ => by rw [e]; exact hbig q hq, fun v hv => ?_⟩
  by_cases hf : (imgB s v).f < 0
  · unfold imgB at hf ⊢
    cases hfd : findB s v with
    | none => exact .inl rfl
    | some t =>
      right
      rw [hfd] at hf
      obtain ⟨b, hbm, e1, _⟩ := findB_mem hfd
      refine ⟨by show t.rng; rw [← e1]; exact (m2 b hbm).1, ?_⟩
      show t.size ≤ _
      rw [Tm.size_var (show t.f < 0 from hf)]
      decide
  · right
    obtain ⟨q, hq, hq0, e1⟩ := m1.orig v hv hf
    refine ⟨?_, by rw [← e1]; exact hbig q hq⟩
    unfold imgB at hf ⊢
    cases hfd : findB s v with
    | none => rw [hfd] at hf; exact absurd (show (varT v).f < 0 by rw [varT_f]; omega) hf
    | some t =>
      obtain ⟨b, hbm, e2, _⟩ := findB_mem hfd
      show t.rng
      rw [← e2]; exact (m2 b hbm).1
end Go.Proofs.YteegmcfobgpemaaGreat
namespace Go.Proofs.YteegmcfobgpemaaGreat
open Go.RowKit
set_option linter.unusedVariables false
set_option linter.unusedSimpArgs false
set_option maxRecDepth 100000

theorem rep_cong0 {σ σ' : Int → Tm} (h : ∀ v, 0 ≤ v → σ' v = σ v) (t : Tm) : repT σ' t = repT σ t := rep_congr fun v hv => h v (vs_nonneg _ v hv)
theorem Mgu.congr {σ σ' : Int → Tm} {E : List (Tm × Tm)} (hm : Mgu σ E) (h : ∀ v, 0 ≤ v → σ' v = σ v) : Mgu σ' E :=
  ⟨fun p hp => by rw [rep_cong0 h, rep_cong0 h]; exact hm.uni p hp, fun v hv => by rw [h v hv]; exact hm.bare v hv, fun v hv u hu => by
    rw [h v hv] at hu
    rw [h u (vs_nonneg _ u hu)]; exact hm.idem v hv u hu, fun τ ht v hv => by rw [h v hv]; exact hm.most τ ht v hv, fun v hv hf => by
    rw [h v hv] at hf ⊢; exact hm.low v hv hf⟩
theorem img_normB {s : List Bd} (hb : bareB s) {v : Int} (hv : 0 ≤ v) : imgB (normF s) v = imgB s v := by
  have h1 := findN s hv
  have h2 : imgB (normF s) v = (findB (normF s) v).getD (varT v) := rfl
  rw [h2, h1]
  split
  · rename_i hi
    have hi : (decide ((imgB s v).f < 0) && decide (-1 - (imgB s v).f = v)) = true := hi
    rw [Bool.and_eq_true, decide_eq_true_eq, decide_eq_true_eq] at hi
    show varT v = _
    rw [bare_var (bare_img hb v) hi.1, hi.2]
  · exact bare_img hb v
structure Tells8 (l : List (Tm × Tm)) (r : List Bd × Bool) : Prop where
  told : ToldU l r
  yes : r.2 = true → Mgu (imgB r.1) l
  no : r.2 = false → r.1 = [] ∧ ∀ τ, ¬ uni τ l
  len : r.1.length ≤ 64
  ok : ∀ b ∈ r.1, (b.t.rng ∧ b.t.size ≤ 90000000000) ∧ b.t.ok
  bare : bareB r.1
  inV : ∀ b ∈ r.1, b.v ∈ varsP l ∧ ∀ u ∈ b.t.vs, u ∈ varsP l
  srt : r.1.Pairwise (fun x y => x.v < y.v)
  free : ∀ t u, u ∈ (repT (imgB r.1) t).vs → findB r.1 u = none
  big : ∀ q ∈ subsP l, (repT (imgB r.1) q).size ≤ 90000000000
theorem size_subs {l : List (Tm × Tm)} (ht : Tiny2 l) : ∀ q ∈ subsP l, q.size ≤ 16 := fun q hq => by
  have key : ∀ t : Tm, ∀ q ∈ t.flat, q.size ≤ t.size := by
    intro t
    induction t using Tm.indp with
    | h t ih =>
      intro q hq
      rw [Tm.flat_eq] at hq
      rcases List.mem_cons.1 hq with rfl | hq
      · exact Nat.le_refl _
      · obtain ⟨p, hp, hq⟩ := List.mem_flatMap.1 hq
        have := ih p hp q hq
        have := Tm.size_part hp
        omega
  obtain ⟨p, hp, hq⟩ := List.mem_flatMap.1 hq
  rcases List.mem_append.1 hq with hq | hq
  · exact Nat.le_trans (key _ q hq) (ht p hp).1.2
  · exact Nat.le_trans (key _ q hq) (ht p hp).2.2
theorem told_of {l : List (Tm × Tm)} (hl : l.length ≤ 2) (ht : Tiny2 l) : ∃ n r, rUs (rU n) l [] = some r ∧ CndL (rU n) (Cnd n) l [] ∧ (∀ s, r = some s → s.length ≤ 1000 ∧ ∀ b ∈ s, b.t.rng ∧ b.t.ok) ∧ Tells8 l ((r.map normF).getD [], r.isSome) := by
  obtain ⟨n, r, e, hC, h1, h2⟩ := all_mid l hl ht
  refine ⟨n, r, e, hC, fun s hs => ?_, ?_⟩
  · obtain ⟨_, _, _, m4, _, m6, _⟩ := h2 s hs
    exact ⟨by omega, m4⟩
  cases r with
  | none =>
    have hn := h1 rfl
    have hid : ∀ t : Tm, repT (imgB []) t = t.strip := fun t => rep_id t
    exact ⟨.inl ⟨rfl, rfl, hn⟩, (fun h => by cases h), fun _ => ⟨rfl, hn⟩, Nat.zero_le _, (fun b hb => by cases hb), (fun b hb => by cases hb), (fun b hb => by cases hb), List.Pairwise.nil, fun t u hu => rfl, fun q hq => by
      show (repT (imgB []) q).size ≤ _
      rw [hid, Tm.strip_size]
      have := size_subs ht q hq
      omega⟩
  | some s =>
    obtain ⟨m1, m2, m3, m4, m5, m6, m7, m8, m9⟩ := h2 s rfl
    have hi : ∀ v, 0 ≤ v → imgB (normF s) v = imgB s v := fun v hv => img_normB m2 hv
    have hbs : ∀ b ∈ normF s, ∃ c ∈ s, b.v = c.v ∧ b.t = c.t := fun b hb => by
      unfold normF at hb
      obtain ⟨c, hc, rfl⟩ := List.mem_map.1 hb
      have hcs := firstsF_mem (List.mem_filter.1 hc).1
      exact ⟨c, hcs, rfl, m2 c hcs⟩
    have hin : ∀ b ∈ normF s, findB (normF s) b.v = some b.t := fun b hb => by
      have key : ∀ L : List Bd, L.Pairwise (fun x y => x.v < y.v) → ∀ b ∈ L, findB L b.v = some b.t := fun L => by
        induction L with
        | nil => intro _ b hb; cases hb
        | cons a L ih =>
          intro hp b hb
          obtain ⟨p1, p2⟩ := List.pairwise_cons.1 hp
          rw [findB]
          rcases List.mem_cons.1 hb with rfl | hb
          · rw [if_pos rfl]
          · rw [if_neg (by have := p1 b hb; omega)]
            exact ih p2 b hb
      exact key _ (normF_srt s) b hb
    refine ⟨.inr ⟨rfl, s, m1, m5, m9, rfl⟩, fun _ => m1.congr hi, (fun h => by cases h), Nat.le_trans (normF_len s) m6, fun b hb => ?_, fun b hb => ?_, fun b hb => ?_, normF_srt s, fun t u hu => ?_, fun q hq => ?_⟩
    · obtain ⟨c, hc, e1, e2⟩ := hbs b hb
      have h0 : 0 ≤ b.v := by rw [e1]; exact m5 c hc
      have hf := hin b hb
      have him : imgB s b.v = b.t := by rw [← hi _ h0]; unfold imgB; rw [hf]; rfl
      refine ⟨⟨by rw [e2]; exact (m4 c hc).1, ?_⟩, by rw [e2]; exact (m4 c hc).2⟩
      rcases m9 b.v h0 with h | h
      · rw [← him, h, Tm.size_var (by rw [varT_f]; omega)]; decide
      · rw [← him]; exact h.2
    · obtain ⟨c, hc, _, e2⟩ := hbs b hb
      show b.t.strip = b.t
      rw [e2]; exact m2 c hc
    · obtain ⟨c, hc, e1, e2⟩ := hbs b hb
      rw [e1, e2]
      exact ⟨m7 c hc, m3 c hc⟩
    · have hu : u ∈ (repT (imgB (normF s)) t).vs := hu
      rw [rep_cong0 hi] at hu
      exact left_free m1 hu
    · show (repT (imgB (normF s)) q).size ≤ _
      rw [rep_cong0 hi]
      exact m8 q ⟨q, hq, rfl⟩
theorem Tells8.bdsOk {l : List (Tm × Tm)} {r : List Bd × Bool} (h : Tells8 l r) : bdsOk r.1 := fun b hb => (h.ok b hb).1
theorem rep_rng {s : List Bd} (hs : bdsOk s) {t : Tm} (h : t.rng) : (repT (imgB s) t).rng := repT_rng h fun v h1 h2 => (imgB_ok hs h1 h2).1
end Go.Proofs.YteegmcfobgpemaaGreat
namespace Go.Proofs.YteegmcfobgpemaaGreat
open Go.RowKit
set_option linter.unusedVariables false
set_option linter.unusedSimpArgs false

end Go.Proofs.YteegmcfobgpemaaGreat
namespace Go.Proofs.YteegmcfobgpemaaGreat
set_option linter.unusedVariables false
set_option linter.unusedSimpArgs false
theorem size_parts {t : Tm} (h : ¬ t.f < 0) : t.size = 1 + (t.l.map Tm.size).sum := by
  rw [Tm.size_eq, Tm.ps_of_sym (by omega), List.length_flatMap]
  rfl
theorem pa_nat {t s : Tm} {n : Int} (h : t.pa n = some s) : ∃ m : Nat, n = m ∧ t.l[m]? = some s ∧ ¬ t.f < 0 := by
  have hf := pa_sym h
  unfold Tm.pa at h
  split at h
  · rename_i h0
    rw [Tm.ps_of_sym (by omega)] at h
    exact ⟨n.toNat, by omega, h, hf⟩
  · cases h
theorem split_at {l : List Tm} {m : Nat} {s : Tm} (h : l[m]? = some s) : l = l.take m ++ s :: l.drop (m + 1) ∧ m < l.length := by
  have hm : m < l.length := by
    rcases Nat.lt_or_ge m l.length with h1 | h1
    · exact h1
    · rw [List.getElem?_eq_none h1] at h; cases h
  refine ⟨?_, hm⟩
  have e : l[m] = s := by rw [List.getElem?_eq_getElem hm] at h; exact Option.some.inj h
  rw [← e, ← List.drop_eq_getElem_cons hm, List.take_append_drop]
theorem map_strip2 (l : List Tm) : (l.map Tm.strip).map Tm.strip = l.map Tm.strip := by
  rw [List.map_map]
  exact List.map_congr_left fun s _ => Tm.strip_strip s
theorem putP_facts (u : Tm) (hu : u.rng) : ∀ (p : List Int) (t s : Tm), t.rng → atP p t = some s → ∃ z, putP u p t = some z ∧ z.rng ∧ atP p z = some u.strip ∧ putP s.strip p z = some t.strip ∧ z.size + s.size = t.size + u.size
  | [], t, s, hr, h => by
    cases h
    exact ⟨u.strip, rfl, Tm.strip_rng hu, rfl, by rw [putP, Tm.strip_strip], by rw [Tm.strip_size]; omega⟩
  | k :: ks, t, s, hr, h => by
    rw [atP] at h
    cases hp : t.pa k with
    | none => rw [hp] at h; cases h
    | some x =>
      rw [hp, Option.bind_some] at h
      obtain ⟨m, rfl, hx, hf⟩ := pa_nat hp
      obtain ⟨hsp, hm⟩ := split_at hx
      have hrl := (Tm.rng_iff _).1 hr
      obtain ⟨v, h1, h2, h3, h4, h5⟩ := putP_facts u hu ks x s (hrl.2 x (List.mem_of_getElem? hx)) h
      obtain ⟨A, hA⟩ : ∃ A, A = (t.l.take m).map Tm.strip := ⟨_, rfl⟩
      obtain ⟨B, hB⟩ : ∃ B, B = (t.l.drop (m + 1)).map Tm.strip := ⟨_, rfl⟩
      have hAl : A.length = m := by rw [hA, List.length_map, List.length_take]; omega
      have hpz : (Tm.mk t.f (A ++ v :: B)).pa (m : Int) = some v := by
        unfold Tm.pa
        rw [if_pos (by omega), Int.toNat_natCast, Tm.ps_of_sym (t := ⟨t.f, _⟩) (by show 0 ≤ t.f; omega)]
        show (A ++ v :: B)[m]? = some v
        rw [List.getElem?_append_right (by omega), hAl, Nat.sub_self]; rfl
      refine ⟨⟨t.f, A ++ v :: B⟩, ?_, ?_, ?_, ?_, ?_⟩
      · rw [putP, hp, Option.bind_some, h1, Int.toNat_natCast, ← hA, ← hB]; rfl
      · refine (Tm.rng_iff _).2 ⟨hrl.1, fun y hy => ?_⟩
        rcases List.mem_append.1 hy with hy | hy
        · rw [hA] at hy
          obtain ⟨z, hz, rfl⟩ := List.mem_map.1 hy
          exact Tm.strip_rng (hrl.2 z (List.mem_of_mem_take hz))
        · rcases List.mem_cons.1 hy with rfl | hy
          · exact h2
          · rw [hB] at hy
            obtain ⟨z, hz, rfl⟩ := List.mem_map.1 hy
            exact Tm.strip_rng (hrl.2 z (List.mem_of_mem_drop hz))
      · rw [atP, hpz, Option.bind_some, h3]
      · rw [putP, hpz, Option.bind_some, h4, Int.toNat_natCast, Option.map_some]
        show some (Tm.mk t.f (((A ++ v :: B).take m).map Tm.strip ++ x.strip :: ((A ++ v :: B).drop (m + 1)).map Tm.strip)) = _
        have e1 : (A ++ v :: B).take m = A := by rw [← hAl, List.take_left]
        have e2 : (A ++ v :: B).drop (m + 1) = B := by
          rw [← hAl, show A ++ v :: B = (A ++ [v]) ++ B by simp, show A.length + 1 = (A ++ [v]).length by simp, List.drop_left]
        rw [e1, e2, Tm.strip_eq t, Tm.ps_of_sym (by omega)]
        congr 2
        conv => rhs; rw [hsp]
        rw [List.map_append, List.map_cons, hA, hB, map_strip2, map_strip2]
      · have s1 := size_parts (t := ⟨t.f, A ++ v :: B⟩) hf
        have s2 := size_parts (t := t) hf
        simp only at s1
        have s3 : (t.l.map Tm.size).sum = ((t.l.take m).map Tm.size).sum + (x.size + ((t.l.drop (m + 1)).map Tm.size).sum) := by
          conv => lhs; rw [hsp]
          rw [List.map_append, List.map_cons, List.sum_append_nat, List.sum_cons]
        rw [List.map_append, List.map_cons, List.sum_append_nat, List.sum_cons] at s1
        have s4 : ∀ l : List Tm, (l.map Tm.strip).map Tm.size = l.map Tm.size := fun l => by
          rw [List.map_map]
          exact List.map_congr_left fun s _ => Tm.strip_size s
        have sA : (A.map Tm.size).sum = ((t.l.take m).map Tm.size).sum := by rw [hA, s4]
        have sB : (B.map Tm.size).sum = ((t.l.drop (m + 1)).map Tm.size).sum := by rw [hB, s4]
        omega
def cov (a b : Tm) : Prop := ∀ v, b.vs.count v ≤ a.vs.count v
def ordV (z w : Int) : Int := if 0 < z then 1 else if z < 0 then -1 else w
noncomputable def pickV (o : Int) (c d : Prop) : Int :=
  haveI := Classical.propDecidable
  if (o = 1 ∧ ¬ c) ∨ (o = -1 ∧ ¬ d) then 2 else o
noncomputable def verd (z : Int) (c d : Prop) (w : Int) : Int := if w = 0 then 0 else pickV (ordV z w) c d
def hdK (a b : Tm) : Int := if a.f < 0 ∨ b.f < 0 then 2 else if a.f ≠ b.f then cmpZ a.f b.f else cmpZ a.l.length b.l.length
noncomputable def firstK (k : Int) (r : Int) : Int := if k ≠ 0 then k else r
noncomputable def szD (a b : Tm) : Int := (a.size : Int) - b.size
noncomputable def kb (p : Tm) : Tm → Int :=
  Tm.rec (motive_1 := fun _ => Tm → Int) (motive_2 := fun _ => List Tm → Int)
    (fun f l ih t => verd (szD ⟨f, l⟩ t) (cov ⟨f, l⟩ t) (cov t ⟨f, l⟩) (if f ≠ t.f ∨ (Tm.mk f l).ps.length ≠ t.ps.length then hdK ⟨f, l⟩ t else if f < 0 then 0 else ih t.l))
    (fun _ => 0)
    (fun _ _ ih1 ih2 ts => match ts with | [] => 0 | t :: ts => firstK (ih1 t) (ih2 ts)) p
noncomputable def kbs (ps : List Tm) : List Tm → Int :=
  Tm.rec_1 (motive_1 := fun _ => Tm → Int) (motive_2 := fun _ => List Tm → Int)
    (fun f l ih t => verd (szD ⟨f, l⟩ t) (cov ⟨f, l⟩ t) (cov t ⟨f, l⟩) (if f ≠ t.f ∨ (Tm.mk f l).ps.length ≠ t.ps.length then hdK ⟨f, l⟩ t else if f < 0 then 0 else ih t.l))
    (fun _ => 0)
    (fun _ _ ih1 ih2 ts => match ts with | [] => 0 | t :: ts => firstK (ih1 t) (ih2 ts)) ps
noncomputable def wi (a b : Tm) : Int := if a.f ≠ b.f ∨ a.ps.length ≠ b.ps.length then hdK a b else kbs a.ps b.ps
theorem kbs_nil (ts : List Tm) : kbs [] ts = 0 := rfl
theorem kbs_cons (p : Tm) (ps : List Tm) (t : Tm) (ts : List Tm) : kbs (p :: ps) (t :: ts) = firstK (kb p t) (kbs ps ts) := rfl
theorem kb_eq (a b : Tm) : kb a b = verd (szD a b) (cov a b) (cov b a) (wi a b) := by
  cases a with
  | mk f l =>
    show verd _ _ _ _ = _
    congr 1
    unfold wi
    simp only
    split
    · rfl
    · rename_i h
      by_cases hf : f < 0
      · rw [if_pos hf, Tm.ps_of_var (t := ⟨f, l⟩) hf, kbs_nil]
      · rw [if_neg hf, Tm.ps_of_sym (t := ⟨f, l⟩) (by show 0 ≤ f; omega), Tm.ps_of_sym (t := b) (by have := Classical.not_not.1 (fun e => h (.inl e)); omega)]
        rfl

theorem verd_cases (z : Int) (c d : Prop) (w : Int) : (w = 0 ∧ verd z c d w = 0) ∨ (w ≠ 0 ∧ ∃ o, ((0 < z ∧ o = 1) ∨ (z < 0 ∧ o = -1) ∨ (z = 0 ∧ o = w)) ∧ ((verd z c d w = 2 ∧ ((o = 1 ∧ ¬ c) ∨ (o = -1 ∧ ¬ d))) ∨ (verd z c d w = o ∧ ¬ ((o = 1 ∧ ¬ c) ∨ (o = -1 ∧ ¬ d))))) := by
  unfold verd
  by_cases h0 : w = 0
  · left; exact ⟨h0, if_pos h0⟩
  · right
    refine ⟨h0, ordV z w, ?_, ?_⟩
    · unfold ordV
      by_cases h1 : 0 < z
      · rw [if_pos h1]; exact .inl ⟨h1, rfl⟩
      · rw [if_neg h1]
        by_cases h2 : z < 0
        · rw [if_pos h2]; exact .inr (.inl ⟨h2, rfl⟩)
        · rw [if_neg h2]; exact .inr (.inr ⟨by omega, rfl⟩)
    · rw [if_neg h0]
      generalize ordV z w = o
      unfold pickV
      by_cases h3 : (o = 1 ∧ ¬ c) ∨ (o = -1 ∧ ¬ d)
      · left; exact ⟨if_pos h3, h3⟩
      · right; exact ⟨if_neg h3, h3⟩
theorem verd_zero {z : Int} {c d : Prop} {w : Int} : verd z c d w = 0 ↔ w = 0 := by
  rcases verd_cases z c d w with ⟨h1, h2⟩ | ⟨h1, o, h2, ⟨h3, h4⟩ | ⟨h3, h4⟩⟩
  · exact ⟨fun _ => h1, fun _ => h2⟩
  · omega
  · omega
theorem verd_one {z : Int} {c d : Prop} {w : Int} : verd z c d w = 1 ↔ w ≠ 0 ∧ c ∧ (0 < z ∨ (z = 0 ∧ w = 1)) := by
  rcases verd_cases z c d w with ⟨h1, h2⟩ | ⟨h1, o, h2, ⟨h3, h4⟩ | ⟨h3, h4⟩⟩
  · constructor
    · intro h; omega
    · rintro ⟨h, _⟩; exact absurd h1 h
  · constructor
    · intro h; omega
    · rintro ⟨_, hc, h⟩
      have : o = 1 := by omega
      rcases h4 with h4 | h4
      · exact absurd hc h4.2
      · omega
  · constructor
    · intro h
      have ho : o = 1 := by omega
      exact ⟨h1, Classical.not_not.1 fun hc => h4 (.inl ⟨ho, hc⟩), by omega⟩
    · rintro ⟨_, hc, h⟩; omega
theorem verd_less {z : Int} {c d : Prop} {w : Int} : verd z c d w = -1 ↔ w ≠ 0 ∧ d ∧ (z < 0 ∨ (z = 0 ∧ w = -1)) := by
  rcases verd_cases z c d w with ⟨h1, h2⟩ | ⟨h1, o, h2, ⟨h3, h4⟩ | ⟨h3, h4⟩⟩
  · constructor
    · intro h; omega
    · rintro ⟨h, _⟩; exact absurd h1 h
  · constructor
    · intro h; omega
    · rintro ⟨_, hc, h⟩
      have : o = -1 := by omega
      rcases h4 with h4 | h4
      · omega
      · exact absurd hc h4.2
  · constructor
    · intro h
      have ho : o = -1 := by omega
      exact ⟨h1, Classical.not_not.1 fun hc => h4 (.inr ⟨ho, hc⟩), by omega⟩
    · rintro ⟨_, hc, h⟩; omega
def K4 (k : Int) : Prop := k = 0 ∨ k = 1 ∨ k = -1 ∨ k = 2
theorem verd_four {z : Int} {c d : Prop} {w : Int} (h : K4 w) : K4 (verd z c d w) := by
  unfold K4 at *
  rcases verd_cases z c d w with ⟨h1, h2⟩ | ⟨h1, o, h2, ⟨h3, h4⟩ | ⟨h3, h4⟩⟩ <;> omega
theorem hd_four (a b : Tm) : K4 (hdK a b) := by
  unfold hdK K4
  split
  · omega
  · split
    · rcases cmpZ_cases a.f b.f with h | h | h <;> omega
    · rcases cmpZ_cases a.l.length b.l.length with h | h | h <;> omega
theorem hd_ne {a b : Tm} (h : a.f ≠ b.f ∨ a.ps.length ≠ b.ps.length) : hdK a b ≠ 0 := by
  unfold hdK
  split
  · omega
  · rename_i h1
    rw [Tm.ps_of_sym (t := a) (by omega), Tm.ps_of_sym (t := b) (by omega)] at h
    split
    · rcases cmpZ_cases a.f b.f with h2 | h2 | h2 <;> omega
    · rcases cmpZ_cases a.l.length b.l.length with h2 | h2 | h2 <;> omega
theorem kbs_four : ∀ {l m : List Tm}, (∀ s ∈ l, ∀ t, K4 (kb s t)) → K4 (kbs l m)
  | [], m, _ => .inl rfl
  | _ :: _, [], _ => .inl rfl
  | x :: l, y :: m, h => by
    rw [kbs_cons]
    unfold firstK
    split
    · exact h x (by simp) y
    · exact kbs_four fun s hs => h s (List.mem_cons_of_mem _ hs)
theorem kb_four (a : Tm) : ∀ b, K4 (kb a b) := by
  induction a using Tm.indp with
  | h a ih =>
    intro b
    rw [kb_eq]
    refine verd_four ?_
    unfold wi
    split
    · exact hd_four a b
    · exact kbs_four ih
theorem kbs_zero : ∀ {l m : List Tm}, l.length = m.length → (∀ s ∈ l, ∀ t, kb s t = 0 ↔ s.strip = t.strip) → (kbs l m = 0 ↔ l.map Tm.strip = m.map Tm.strip)
  | [], [], _, _ => by simp [kbs_nil]
  | [], _ :: _, h, _ => by simp at h
  | _ :: _, [], h, _ => by simp at h
  | x :: l, y :: m, h, ih => by
    rw [kbs_cons, List.map_cons, List.map_cons, List.cons.injEq, ← ih x (by simp) y, ← kbs_zero (by simpa using h) fun s hs => ih s (List.mem_cons_of_mem _ hs)]
    unfold firstK
    split
    · rename_i h1
      constructor
      · intro h2; exact absurd h2 h1
      · rintro ⟨h2, _⟩; exact h2
    · rename_i h1
      exact ⟨fun h2 => ⟨Classical.not_not.1 h1, h2⟩, fun h2 => h2.2⟩
theorem strip_eq_iff (a b : Tm) : a.strip = b.strip ↔ a.f = b.f ∧ a.ps.map Tm.strip = b.ps.map Tm.strip := by
  rw [Tm.strip_eq, Tm.strip_eq b, Tm.mk.injEq]
theorem kb_zero (a : Tm) : ∀ b, kb a b = 0 ↔ a.strip = b.strip := by
  induction a using Tm.indp with
  | h a ih =>
    intro b
    rw [kb_eq, verd_zero, strip_eq_iff]
    unfold wi
    split
    · rename_i h
      constructor
      · intro h1; exact absurd h1 (hd_ne h)
      · rintro ⟨h1, h2⟩
        have := congrArg List.length h2
        rw [List.length_map, List.length_map] at this
        omega
    · rename_i h
      have hf : a.f = b.f := by omega
      rw [kbs_zero (by omega) ih]
      exact ⟨fun h1 => ⟨hf, h1⟩, fun h1 => h1.2⟩
theorem cov_strip {a b : Tm} : cov a.strip b ↔ cov a b := by unfold cov; rw [Tm.strip_vs]
theorem cov_strip2 {a b : Tm} : cov a b.strip ↔ cov a b := by unfold cov; rw [Tm.strip_vs]
theorem cov_refl (a : Tm) : cov a a := fun _ => Nat.le_refl _
theorem cov_trans {a b c : Tm} (h : cov a b) (h2 : cov b c) : cov a c := fun v => Nat.le_trans (h2 v) (h v)
theorem hd_strip (a b : Tm) : hdK a.strip b.strip = hdK a b := by
  unfold hdK
  rw [Tm.strip_f, Tm.strip_f]
  split
  · rfl
  · rename_i h
    split
    · rfl
    · rw [Tm.strip_l, Tm.strip_l, List.length_map, List.length_map, Tm.ps_of_sym (t := a) (by omega), Tm.ps_of_sym (t := b) (by omega)]
theorem kbs_strip : ∀ {l m : List Tm}, (∀ s ∈ l, ∀ t, kb s.strip t.strip = kb s t) → kbs (l.map Tm.strip) (m.map Tm.strip) = kbs l m
  | [], m, _ => rfl
  | _ :: _, [], _ => rfl
  | x :: l, y :: m, h => by
    rw [List.map_cons, List.map_cons, kbs_cons, kbs_cons, h x (by simp) y, kbs_strip fun s hs => h s (List.mem_cons_of_mem _ hs)]
theorem kb_strip (a : Tm) : ∀ b, kb a.strip b.strip = kb a b := by
  induction a using Tm.indp with
  | h a ih =>
    intro b
    rw [kb_eq, kb_eq a]
    have h1 : wi a.strip b.strip = wi a b := by
      unfold wi
      rw [Tm.strip_f, Tm.strip_f, Tm.strip_ps, Tm.strip_ps, List.length_map, List.length_map, hd_strip, kbs_strip ih]
    have h2 : szD a.strip b.strip = szD a b := by unfold szD; rw [Tm.strip_size, Tm.strip_size]
    have h3 : cov a.strip b.strip = cov a b := propext (cov_strip.trans cov_strip2)
    have h4 : cov b.strip a.strip = cov b a := propext (cov_strip.trans cov_strip2)
    rw [h1, h2, h3, h4]
theorem kb_congr {a a' b b' : Tm} (h : a.strip = a'.strip) (h2 : b.strip = b'.strip) : kb a b = kb a' b' := by rw [← kb_strip a, h, h2, kb_strip]
theorem kb_one (a b : Tm) : kb a b = 1 ↔ cov a b ∧ (b.size < a.size ∨ (a.size = b.size ∧ wi a b = 1)) := by
  rw [kb_eq, verd_one]
  unfold szD
  constructor
  · rintro ⟨h1, h2, h3⟩; exact ⟨h2, by omega⟩
  · rintro ⟨h1, h2⟩
    refine ⟨fun e => ?_, h1, by omega⟩
    have h3 : kb a b = 0 := by rw [kb_eq, verd_zero]; exact e
    have h4 := (kb_zero a b).1 h3
    have h5 : a.size = b.size := by rw [← Tm.strip_size, h4, Tm.strip_size]
    omega
theorem hd_turn (a b : Tm) (h : hdK a b ≠ 2) : hdK b a = - hdK a b := by
  unfold hdK at *
  by_cases h1 : a.f < 0 ∨ b.f < 0
  · rw [if_pos h1] at h; exact absurd rfl h
  · rw [if_neg h1, if_neg (by omega)]
    by_cases h2 : a.f = b.f
    · rw [if_neg (by omega), if_neg (by omega)]
      rcases cmpZ_cases a.l.length b.l.length with h3 | h3 | h3 <;> rcases cmpZ_cases b.l.length a.l.length with h4 | h4 | h4 <;> omega
    · rw [if_pos (by omega), if_pos h2]
      rcases cmpZ_cases a.f b.f with h3 | h3 | h3 <;> rcases cmpZ_cases b.f a.f with h4 | h4 | h4 <;> omega
theorem hd_turn2 (a b : Tm) (h : hdK a b = 2) : hdK b a = 2 := by
  unfold hdK at *
  by_cases h1 : a.f < 0 ∨ b.f < 0
  · rw [if_pos (by omega)]
  · rw [if_neg h1] at h
    exfalso
    split at h
    · rcases cmpZ_cases a.f b.f with h3 | h3 | h3 <;> omega
    · rcases cmpZ_cases a.l.length b.l.length with h3 | h3 | h3 <;> omega
def trn (k : Int) : Int := if k = 2 then 2 else - k
theorem trn_four {k : Int} (h : K4 k) : (trn k = 0 ↔ k = 0) ∧ (trn k = 1 ↔ k = -1) ∧ (trn k = -1 ↔ k = 1) ∧ K4 (trn k) := by
  unfold trn K4 at *
  split <;> omega
theorem verd_turn {z : Int} {c d : Prop} {w : Int} (h : K4 w) : verd (-z) d c (trn w) = trn (verd z c d w) := by
  have h1 := verd_four (z := z) (c := c) (d := d) h
  have t0 := trn_four h
  have h2 := verd_four (z := -z) (c := d) (d := c) t0.2.2.2
  have t1 := trn_four h1
  have a0 := @verd_zero z c d w
  have a1 := @verd_one z c d w
  have a2 := @verd_less z c d w
  have b0 := @verd_zero (-z) d c (trn w)
  have b1 := @verd_one (-z) d c (trn w)
  have b2 := @verd_less (-z) d c (trn w)
  generalize verd (-z) d c (trn w) = y at *
  generalize verd z c d w = x at *
  have e0 : y = 0 ↔ x = 0 := by rw [b0, a0]; exact t0.1
  have e1 : y = 1 ↔ x = -1 := by
    rw [b1, a2]
    constructor
    · rintro ⟨g1, g2, g3⟩; exact ⟨fun e => g1 (t0.1.2 e), g2, by rcases g3 with g3 | ⟨g3, g4⟩; omega; exact .inr ⟨by omega, t0.2.1.1 g4⟩⟩
    · rintro ⟨g1, g2, g3⟩; exact ⟨fun e => g1 (t0.1.1 e), g2, by rcases g3 with g3 | ⟨g3, g4⟩; omega; exact .inr ⟨by omega, t0.2.1.2 g4⟩⟩
  have e2 : y = -1 ↔ x = 1 := by
    rw [b2, a1]
    constructor
    · rintro ⟨g1, g2, g3⟩; exact ⟨fun e => g1 (t0.1.2 e), g2, by rcases g3 with g3 | ⟨g3, g4⟩; omega; exact .inr ⟨by omega, t0.2.2.1.1 g4⟩⟩
    · rintro ⟨g1, g2, g3⟩; exact ⟨fun e => g1 (t0.1.1 e), g2, by rcases g3 with g3 | ⟨g3, g4⟩; omega; exact .inr ⟨by omega, t0.2.2.1.2 g4⟩⟩
  unfold trn
  unfold K4 at h1 h2
  split <;> omega
theorem kbs_turn : ∀ {l m : List Tm}, l.length = m.length → (∀ s ∈ l, ∀ t, kb t s = trn (kb s t)) → kbs m l = trn (kbs l m)
  | [], [], _, _ => by rw [kbs_nil]; rfl
  | [], _ :: _, h, _ => by simp at h
  | _ :: _, [], h, _ => by simp at h
  | x :: l, y :: m, h, ih => by
    rw [kbs_cons, kbs_cons, ih x (by simp) y, kbs_turn (by simpa using h) fun s hs => ih s (List.mem_cons_of_mem _ hs)]
    have := (trn_four (kb_four x y)).1
    unfold firstK
    by_cases h1 : kb x y = 0
    · rw [if_neg (fun e => e (this.2 h1)), if_neg (by omega)]
    · rw [if_pos (fun e => h1 (this.1 e)), if_pos h1]
theorem kb_turn (a : Tm) : ∀ b, kb b a = trn (kb a b) := by
  induction a using Tm.indp with
  | h a ih =>
    intro b
    rw [kb_eq, kb_eq a]
    have h1 : szD b a = - szD a b := by unfold szD; omega
    have h4 : K4 (wi a b) := by
      unfold wi
      split
      · exact hd_four a b
      · exact kbs_four fun s _ t => kb_four s t
    rw [h1, ← verd_turn h4]
    congr 1
    unfold wi
    by_cases h : a.f ≠ b.f ∨ a.ps.length ≠ b.ps.length
    · rw [if_pos h, if_pos (by omega)]
      unfold trn
      split
      · rename_i h2; exact hd_turn2 a b h2
      · rename_i h2; exact hd_turn a b h2
    · rw [if_neg h, if_neg (by omega)]
      exact kbs_turn (by omega) ih
theorem kb_self (a : Tm) : kb a a = 0 := (kb_zero a a).2 rfl
theorem hd_one {a b : Tm} : hdK a b = 1 ↔ ¬ a.f < 0 ∧ ¬ b.f < 0 ∧ (b.f < a.f ∨ (a.f = b.f ∧ b.l.length < a.l.length)) := by
  unfold hdK
  split
  · constructor
    · intro h; omega
    · rintro ⟨h1, h2, _⟩; omega
  · rename_i h
    split
    · rename_i h2
      rcases cmpZ_cases a.f b.f with h3 | h3 | h3
      · constructor
        · intro h4; omega
        · rintro ⟨_, _, h4⟩; omega
      · constructor
        · intro h4; omega
        · rintro ⟨_, _, h4⟩; omega
      · exact ⟨fun _ => ⟨by omega, by omega, by omega⟩, fun _ => h3.1⟩
    · rename_i h2
      rcases cmpZ_cases a.l.length b.l.length with h3 | h3 | h3
      · constructor
        · intro h4; omega
        · rintro ⟨_, _, h4⟩; omega
      · constructor
        · intro h4; omega
        · rintro ⟨_, _, h4⟩; omega
      · exact ⟨fun _ => ⟨by omega, by omega, by omega⟩, fun _ => h3.1⟩
theorem wi_one {a b : Tm} : wi a b = 1 ↔ ¬ a.f < 0 ∧ ¬ b.f < 0 ∧ (b.f < a.f ∨ (a.f = b.f ∧ (b.l.length < a.l.length ∨ (a.l.length = b.l.length ∧ kbs a.l b.l = 1)))) := by
  unfold wi
  split
  · rename_i h
    rw [hd_one]
    constructor
    · rintro ⟨h1, h2, h3⟩; exact ⟨h1, h2, by omega⟩
    · rintro ⟨h1, h2, h3⟩
      rw [Tm.ps_of_sym (t := a) (by omega), Tm.ps_of_sym (t := b) (by omega)] at h
      exact ⟨h1, h2, by omega⟩
  · rename_i h
    by_cases hf : a.f < 0
    · rw [Tm.ps_of_var hf, kbs_nil]
      constructor
      · intro h; omega
      · rintro ⟨h1, _⟩; omega
    · rw [Tm.ps_of_sym (t := a) (by omega), Tm.ps_of_sym (t := b) (by omega)] at h ⊢
      constructor
      · intro h1; exact ⟨hf, by omega, .inr ⟨by omega, .inr ⟨by omega, h1⟩⟩⟩
      · rintro ⟨h1, h2, h3 | ⟨h3, h4 | ⟨h4, h5⟩⟩⟩
        · omega
        · omega
        · exact h5
theorem firstK_one {k r : Int} : firstK k r = 1 ↔ k = 1 ∨ (k = 0 ∧ r = 1) := by
  unfold firstK
  split <;> omega
theorem kb_anti {a b : Tm} (h : kb a b = 1) : kb b a = -1 := by rw [kb_turn, h]; rfl

theorem count_flatMap_le {l : List Tm} {s : Tm} (h : s ∈ l) (v : Int) : s.vs.count v ≤ (l.flatMap Tm.vs).count v := by
  induction l with
  | nil => cases h
  | cons x l ih =>
    rw [List.flatMap_cons, List.count_append]
    rcases List.mem_cons.1 h with rfl | h
    · omega
    · have := ih h; omega
theorem cov_part {t s : Tm} (h : s ∈ t.ps) : cov t s := by
  obtain ⟨h1, h2⟩ := Tm.ps_mem h
  intro v
  rw [Tm.vs_sym (t := t) (by omega)]
  exact count_flatMap_le h1 v
theorem kb_big {a b : Tm} (h : cov a b) (h2 : b.size < a.size) : kb a b = 1 := (kb_one a b).2 ⟨h, .inl h2⟩
theorem cov_at : ∀ {p : List Int} {t s : Tm}, atP p t = some s → cov t s ∧ (p ≠ [] → s.size < t.size) ∧ s.size ≤ t.size
  | [], t, s, h => by
    have h : some t = some s := h
    cases h
    exact ⟨cov_refl _, fun h => absurd rfl h, Nat.le_refl _⟩
  | n :: p, t, s, h => by
    rw [show n :: p = [n] ++ p from rfl, atP_append] at h
    cases h1 : atP [n] t with
    | none => rw [h1] at h; cases h
    | some u =>
      rw [h1] at h
      have h1 : (t.pa n).bind (atP []) = some u := h1
      cases h2 : t.pa n with
      | none => rw [h2] at h1; cases h1
      | some u' =>
        rw [h2] at h1
        have h1 : some u' = some u := h1
        cases h1
        have hm := pa_mem h2
        have hs := Tm.size_part hm
        obtain ⟨g1, g2, g3⟩ := cov_at (p := p) (t := u) (s := s) h
        exact ⟨cov_trans (cov_part hm) g1, fun _ => by omega, by omega⟩
theorem kb_at {p : List Int} {t s : Tm} (h : atP p t = some s) (hp : p ≠ []) : kb t s = 1 := kb_big (cov_at h).1 ((cov_at h).2.1 hp)
theorem perm_of_count : ∀ {b a : List Int}, (∀ v, b.count v ≤ a.count v) → ∃ r, a.Perm (b ++ r)
  | [], a, _ => ⟨a, by simp⟩
  | x :: b, a, h => by
    have hx : x ∈ a := by
      have := h x
      rw [List.count_cons_self] at this
      exact List.count_pos_iff.1 (by omega)
    have hp := List.perm_cons_erase hx
    obtain ⟨r, hr⟩ := perm_of_count (b := b) (a := a.erase x) (fun v => by
      have h1 := h v
      have h2 := hp.count_eq v
      rw [List.count_cons] at h1 h2
      omega)
    exact ⟨r, hp.trans (by rw [List.cons_append]; exact hr.cons x)⟩
theorem flatMap_count (l : List Int) (g : Int → List Int) (v : Int) : (l.flatMap g).count v = (l.map fun x => (g x).count v).sum := by
  induction l with
  | nil => rfl
  | cons x l ih => rw [List.flatMap_cons, List.count_append, ih, List.map_cons, List.sum_cons]
theorem sum_perm_nat {l m : List Nat} (h : l.Perm m) : l.sum = m.sum := by
  induction h with
  | nil => rfl
  | cons x _ ih => rw [List.sum_cons, List.sum_cons, ih]
  | swap x y l => simp only [List.sum_cons]; omega
  | trans _ _ ih1 ih2 => exact ih1.trans ih2
theorem sum_perm_int {l m : List Int} (h : l.Perm m) : l.sum = m.sum := by
  induction h with
  | nil => rfl
  | cons x _ ih => rw [List.sum_cons, List.sum_cons, ih]
  | swap x y l => simp only [List.sum_cons]; omega
  | trans _ _ ih1 ih2 => exact ih1.trans ih2
theorem sum_nonneg {l : List Int} (h : ∀ x ∈ l, 0 ≤ x) : 0 ≤ l.sum := by
  induction l with
  | nil => simp
  | cons x l ih =>
    rw [List.sum_cons]
    have := h x (by simp)
    have := ih fun y hy => h y (List.mem_cons_of_mem _ hy)
    omega
theorem cov_rep (img : Int → Tm) {a b : Tm} (h : cov a b) : cov (repT img a) (repT img b) ∧ szD a b ≤ szD (repT img a) (repT img b) := by
  obtain ⟨r, hr⟩ := perm_of_count h
  constructor
  · intro v
    rw [repT_vs, repT_vs, flatMap_count, flatMap_count, sum_perm_nat (hr.map _), List.map_append, List.sum_append_nat]
    omega
  · unfold szD
    rw [repT_size, repT_size, sum_perm_int (hr.map _), List.map_append, List.sum_append_int]
    have : 0 ≤ (r.map fun v => ((img v).size : Int) - 1).sum := by
      refine sum_nonneg fun x hx => ?_
      obtain ⟨v, _, rfl⟩ := List.mem_map.1 hx
      have := (img v).size_pos
      omega
    omega
theorem kbs_rep (img : Int → Tm) : ∀ {l m : List Tm}, (∀ s ∈ l, ∀ t, kb s t = 1 → kb (repT img s) (repT img t) = 1) → kbs l m = 1 → kbs (l.map (repT img)) (m.map (repT img)) = 1
  | [], _, _, h => by rw [kbs_nil] at h; omega
  | _ :: _, [], _, h => by cases h
  | x :: l, y :: m, ih, h => by
    rw [kbs_cons, firstK_one] at h
    rw [List.map_cons, List.map_cons, kbs_cons, firstK_one]
    rcases h with h | ⟨h, h'⟩
    · exact .inl (ih x (by simp) y h)
    · right
      refine ⟨?_, kbs_rep img (fun s hs => ih s (List.mem_cons_of_mem _ hs)) h'⟩
      rw [← rep_strip img x, (kb_zero x y).1 h, rep_strip]
      exact kb_self _
theorem kb_rep1 (img : Int → Tm) (a : Tm) : ∀ b, kb a b = 1 → kb (repT img a) (repT img b) = 1 := by
  induction a using Tm.ind with
  | h f l ih =>
    intro b h
    rw [kb_one] at h
    obtain ⟨h1, h2⟩ := h
    obtain ⟨c1, c2⟩ := cov_rep img h1
    unfold szD at c2
    rw [kb_one]
    refine ⟨c1, ?_⟩
    rcases h2 with h2 | ⟨h2, h3⟩
    · left; omega
    · rcases Nat.lt_or_ge (repT img b).size (repT img ⟨f, l⟩).size with h4 | h4
      · exact .inl h4
      · right
        refine ⟨by omega, ?_⟩
        rw [wi_one] at h3 ⊢
        obtain ⟨h5, h6, h7⟩ := h3
        rw [repT_sym h5, repT_sym h6]
        refine ⟨h5, h6, ?_⟩
        simp only [List.length_map]
        rcases h7 with h7 | ⟨h7, h8 | ⟨h8, h9⟩⟩
        · exact .inl h7
        · exact .inr ⟨h7, .inl h8⟩
        · exact .inr ⟨h7, .inr ⟨h8, kbs_rep img ih h9⟩⟩
theorem kb_rep (img : Int → Tm) {a b : Tm} (h : kb a b ≠ 2) : kb (repT img a) (repT img b) = kb a b := by
  rcases kb_four a b with h1 | h1 | h1 | h1
  · rw [h1, kb_zero, ← rep_strip img a, (kb_zero a b).1 h1, rep_strip]
  · rw [h1]; exact kb_rep1 img a b h1
  · have h2 : kb b a = 1 := by rw [kb_turn a b, h1]; rfl
    rw [h1]; exact kb_anti (kb_rep1 img b a h2)
  · exact absurd h1 h
def cn (s : Tm) (l : List Tm) : Nat := l.countP (fun t => sameT s t)
theorem cn_nil (s : Tm) : cn s [] = 0 := rfl
theorem cn_cons (s t : Tm) (l : List Tm) : cn s (t :: l) = cn s l + (if sameT s t = true then 1 else 0) := by unfold cn; exact List.countP_cons
theorem sameT_refl (s : Tm) : sameT s s = true := (sameT_iff _ _).2 rfl
theorem cn_congr {s t : Tm} (h : sameT s t = true) (l : List Tm) : cn s l = cn t l := by
  unfold cn
  refine List.countP_congr fun x _ => ?_
  rw [sameT_iff, sameT_iff, (sameT_iff _ _).1 h]
theorem cn_pos {s : Tm} {l : List Tm} : 0 < cn s l ↔ ∃ t ∈ l, sameT s t = true := by unfold cn; exact List.countP_pos_iff
theorem cn_mem {t : Tm} {l : List Tm} (h : t ∈ l) : 0 < cn t l := cn_pos.2 ⟨t, h, sameT_refl t⟩
theorem kb_same {a a' b b' : Tm} (h : sameT a a' = true) (h2 : sameT b b' = true) : kb a b = kb a' b' := kb_congr ((sameT_iff _ _).1 h) ((sameT_iff _ _).1 h2)

def mulP (A B : List Tm) : Prop := (∃ s, cn s B < cn s A) ∧ ∀ s, cn s A < cn s B → ∃ t, cn t B < cn t A ∧ kb t s = 1

theorem mul_irr (A : List Tm) : ¬ mulP A A := fun h => by obtain ⟨s, h⟩ := h.1; omega
def cutN : Nat → List Tm → List Tm → List Tm × List Tm
  | 0, a, b => (a, b)
  | n + 1, a, b => match a[n]? with
    | none => cutN n a b
    | some t => match b.findIdx? (sameT t) with
      | none => cutN n a b
      | some k => cutN n (a.eraseIdx n) (b.eraseIdx k)
theorem cn_erase (s : Tm) : ∀ {l : List Tm} {k : Nat} {t : Tm}, l[k]? = some t → cn s (l.eraseIdx k) + (if sameT s t = true then 1 else 0) = cn s l
  | [], k, t, h => by simp at h
  | x :: l, 0, t, h => by
    have e : x = t := by simpa using h
    subst e
    rw [List.eraseIdx_cons_zero, cn_cons]
  | x :: l, k + 1, t, h => by
    have e := cn_erase s (l := l) (k := k) (t := t) (by simpa using h)
    rw [List.eraseIdx_cons_succ, cn_cons, cn_cons, ← e]; omega
theorem cut_cn : ∀ (n : Nat) (a b : List Tm) (s : Tm), cn s (cutN n a b).1 + cn s b = cn s (cutN n a b).2 + cn s a
  | 0, a, b, s => by unfold cutN; exact Nat.add_comm _ _
  | n + 1, a, b, s => by
    unfold cutN
    split
    · exact cut_cn n a b s
    · rename_i t ht
      split
      · exact cut_cn n a b s
      · rename_i k hk
        obtain ⟨hkl, hp, _⟩ := List.findIdx?_eq_some_iff_getElem.1 hk
        have h1 := cut_cn n (a.eraseIdx n) (b.eraseIdx k) s
        have h2 := cn_erase s ht
        have h3 := cn_erase s (List.getElem?_eq_getElem hkl)
        have h4 : sameT s t = sameT s b[k] := by rw [Bool.eq_iff_iff, sameT_iff, sameT_iff, (sameT_iff _ _).1 hp]
        rw [h4] at h2
        omega
theorem drop_atT {a : List Tm} {n : Nat} {t : Tm} (h : a[n]? = some t) : a.drop n = t :: a.drop (n + 1) := by
  obtain ⟨hl, he⟩ := List.getElem?_eq_some_iff.1 h
  rw [List.drop_eq_getElem_cons hl, he]
theorem erase_drop {a : List Tm} {n : Nat} (h : n < a.length) : (a.eraseIdx n).drop n = a.drop (n + 1) := by
  rw [List.eraseIdx_eq_take_drop_succ, List.drop_append]
  rw [List.length_take, Nat.min_eq_left (by omega)]
  simp
theorem cut_apart : ∀ (n : Nat) (a b : List Tm), n ≤ a.length → (∀ t ∈ a.drop n, cn t b = 0) → ∀ t ∈ (cutN n a b).1, cn t (cutN n a b).2 = 0
  | 0, a, b, _, h => by unfold cutN; simpa using h
  | n + 1, a, b, hn, h => by
    unfold cutN
    split
    · rename_i ht; rw [List.getElem?_eq_none_iff] at ht; omega
    · rename_i t ht
      split
      · rename_i hk
        refine cut_apart n a b (by omega) fun u hu => ?_
        rw [drop_atT ht] at hu
        rcases List.mem_cons.1 hu with rfl | hu
        · rw [List.findIdx?_eq_none_iff] at hk
          refine Nat.eq_zero_of_not_pos fun hc => ?_
          obtain ⟨v, hv, he⟩ := cn_pos.1 hc
          have := hk v hv
          rw [he] at this; cases this
        · exact h u hu
      · rename_i k hk
        obtain ⟨hkl, hp, _⟩ := List.findIdx?_eq_some_iff_getElem.1 hk
        refine cut_apart n _ _ (by rw [List.length_eraseIdx_of_lt (by omega)]; omega) fun u hu => ?_
        rw [erase_drop (by omega)] at hu
        have h1 := h u hu
        have h2 := cn_erase u (List.getElem?_eq_getElem hkl)
        omega
noncomputable def outB (X Y : List Tm) : Bool := decide (0 < X.length) && !(Y.any fun y => !(X.any fun x => decide (kb x y = 1)))
theorem outB_iff (X Y : List Tm) : outB X Y = true ↔ X ≠ [] ∧ ∀ y ∈ Y, ∃ x ∈ X, kb x y = 1 := by
  unfold outB
  rw [Bool.and_eq_true, decide_eq_true_iff, Bool.not_eq_true', ← Bool.not_eq_true, List.any_eq_true, List.length_pos_iff]
  refine and_congr_right fun _ => ⟨fun h y hy => ?_, fun h hc => ?_⟩
  · by_cases hx : (X.any fun x => decide (kb x y = 1)) = true
    · obtain ⟨x, hx, he⟩ := List.any_eq_true.1 hx
      exact ⟨x, hx, of_decide_eq_true he⟩
    · exact absurd ⟨y, hy, by simpa using hx⟩ h
  · obtain ⟨y, hy, he⟩ := hc
    obtain ⟨x, hx, hk⟩ := h y hy
    have : (X.any fun x => decide (kb x y = 1)) = true := List.any_eq_true.2 ⟨x, hx, decide_eq_true hk⟩
    rw [this] at he; cases he
theorem out_mul {X Y A B : List Tm} (h1 : ∀ s, cn s X = cn s A - cn s B) (h2 : ∀ s, cn s Y = cn s B - cn s A) : outB X Y = true ↔ mulP A B := by
  rw [outB_iff]
  unfold mulP
  constructor
  · rintro ⟨h3, h4⟩
    refine ⟨?_, fun s hs => ?_⟩
    · cases X with
      | nil => exact absurd rfl h3
      | cons x X =>
        have h5 := cn_mem (l := x :: X) List.mem_cons_self
        have h6 := h1 x
        exact ⟨x, by omega⟩
    · have h5 := h2 s
      obtain ⟨y, hy, he⟩ := cn_pos.1 (show 0 < cn s Y by omega)
      obtain ⟨x, hx, hk⟩ := h4 y hy
      have h6 := cn_mem hx
      have h7 := h1 x
      exact ⟨x, by omega, by rw [kb_same (sameT_refl x) he]; exact hk⟩
  · rintro ⟨⟨s, hs⟩, h4⟩
    refine ⟨?_, fun y hy => ?_⟩
    · rintro rfl
      have h5 := h1 s
      rw [cn_nil] at h5; omega
    · have h5 := cn_mem hy
      have h6 := h2 y
      obtain ⟨t, ht, hk⟩ := h4 y (by omega)
      have h7 := h1 t
      obtain ⟨x, hx, he⟩ := cn_pos.1 (show 0 < cn t X by omega)
      exact ⟨x, hx, by rw [← kb_same he (sameT_refl y)]; exact hk⟩
noncomputable def mulB (a b : List Tm) : Bool := outB (cutN a.length a b).1 (cutN a.length a b).2
theorem mulB_iff (a b : List Tm) : mulB a b = true ↔ mulP a b := by
  have h1 := cut_cn a.length a b
  have h2 := cut_apart a.length a b (Nat.le_refl _) (by simp)
  have h3 : ∀ s, cn s (cutN a.length a b).1 = 0 ∨ cn s (cutN a.length a b).2 = 0 := by
    intro s
    by_cases hc : 0 < cn s (cutN a.length a b).1
    · obtain ⟨t, ht, he⟩ := cn_pos.1 hc
      right; rw [cn_congr he]; exact h2 t ht
    · left; omega
  refine out_mul (fun s => ?_) (fun s => ?_)
  · have := h1 s; have := h3 s; omega
  · have := h1 s; have := h3 s; omega
structure Sc where
  sz : Int
  mp : List (Int × Int)
  sp : Int
  lk : Int
def mfind : List (Int × Int) → Int → Option Int
  | [], _ => none
  | (k, x) :: l, v => if k = v then some x else mfind l v
def mget (l : List (Int × Int)) (v : Int) : Int := (mfind l v).getD 0
def mput : List (Int × Int) → Int → Int → List (Int × Int)
  | [], v, y => [(v, y)]
  | (k, x) :: l, v, y => if k = v then (v, y) :: l else (k, x) :: mput l v y
theorem mput_ne (l : List (Int × Int)) (v y : Int) : mput l v y ≠ [] := by
  cases l with
  | nil => simp [mput]
  | cons p l =>
    obtain ⟨k, x⟩ := p
    rw [mput]
    split <;> simp
theorem mfind_put (l : List (Int × Int)) (v y u : Int) : mfind (mput l v y) u = if v = u then some y else mfind l u := by
  induction l with
  | nil => rfl
  | cons p l ih =>
    obtain ⟨k, x⟩ := p
    rw [mput]
    by_cases h : k = v
    · rw [if_pos h, mfind, mfind]
      by_cases h2 : v = u
      · rw [if_pos h2, if_pos h2]
      · rw [if_neg h2, if_neg h2, if_neg (by omega)]
    · rw [if_neg h, mfind, mfind]
      by_cases h2 : k = u
      · rw [if_pos h2, if_pos h2, if_neg (by omega)]
      · rw [if_neg h2, if_neg h2, ih]
theorem mget_put (l : List (Int × Int)) (v y u : Int) : mget (mput l v y) u = if v = u then y else mget l u := by
  unfold mget
  rw [mfind_put]
  split <;> rfl
def addVk (s : Sc) (v σ : Int) : Sc := ⟨s.sz, mput s.mp v (mget s.mp v + σ), s.sp + (max (mget s.mp v + σ) 0 - max (mget s.mp v) 0), s.lk + (max (-(mget s.mp v + σ)) 0 - max (-(mget s.mp v)) 0)⟩
def addN (σ : Int) (s : Sc) (t : Tm) : Sc := if t.f < 0 then addVk ⟨s.sz + σ, s.mp, s.sp, s.lk⟩ (-1 - t.f) σ else ⟨s.sz + σ, s.mp, s.sp, s.lk⟩
def addT (σ : Int) (s : Sc) (t : Tm) : Sc := t.flat.foldl (addN σ) s
def addL (σ : Int) (s : Sc) (l : List Tm) : Sc := (l.flatMap Tm.flat).foldl (addN σ) s
theorem addT_var {σ : Int} {s : Sc} {t : Tm} (h : t.f < 0) : addT σ s t = addVk ⟨s.sz + σ, s.mp, s.sp, s.lk⟩ (-1 - t.f) σ := by
  unfold addT
  rw [Tm.flat_eq, Tm.ps_of_var h]
  show addN σ s t = _
  unfold addN
  rw [if_pos h]
theorem addT_sym {σ : Int} {s : Sc} {t : Tm} (h : ¬ t.f < 0) : addT σ s t = addL σ ⟨s.sz + σ, s.mp, s.sp, s.lk⟩ t.l := by
  unfold addT addL
  rw [Tm.flat_eq, Tm.ps_of_sym (by omega), List.foldl_cons]
  congr 1
  unfold addN
  rw [if_neg h]
theorem addL_take {σ : Int} {s : Sc} {l : List Tm} {k : Nat} {t : Tm} (h : l[k]? = some t) : addL σ s (l.take (k + 1)) = addT σ (addL σ s (l.take k)) t := by
  unfold addL addT
  rw [List.take_add_one, h, List.flatMap_append, List.foldl_append]
  simp
def upS (l : List (Int × Int)) : Int := (l.map fun p => max p.2 0).sum
def dnS (l : List (Int × Int)) : Int := (l.map fun p => max (-p.2) 0).sum
def ndk (l : List (Int × Int)) : Prop := (l.map (·.1)).Nodup
theorem mfind_none {l : List (Int × Int)} {v : Int} (h : v ∉ l.map (·.1)) : mfind l v = none := by
  induction l with
  | nil => rfl
  | cons p l ih =>
    obtain ⟨k, x⟩ := p
    rw [List.map_cons, List.mem_cons, not_or] at h
    rw [mfind, if_neg (fun e => h.1 e.symm), ih h.2]
theorem keys_put {l : List (Int × Int)} {v y u : Int} (h : u ∈ (mput l v y).map (·.1)) : u = v ∨ u ∈ l.map (·.1) := by
  induction l with
  | nil => simp [mput] at h; exact .inl h
  | cons p l ih =>
    obtain ⟨k, x⟩ := p
    rw [mput] at h
    split at h
    · rename_i e
      rw [List.map_cons, List.mem_cons] at h ⊢
      rcases h with h | h
      · exact .inl h
      · exact .inr (.inr h)
    · rw [List.map_cons, List.mem_cons] at h ⊢
      rcases h with h | h
      · exact .inr (.inl h)
      · rcases ih h with h | h
        · exact .inl h
        · exact .inr (.inr h)
theorem ndk_put {l : List (Int × Int)} (h : ndk l) (v y : Int) : ndk (mput l v y) ∧ upS (mput l v y) = upS l + (max y 0 - max (mget l v) 0) ∧ dnS (mput l v y) = dnS l + (max (-y) 0 - max (-(mget l v)) 0) := by
  induction l with
  | nil => exact ⟨by simp [mput, ndk], by simp [mput, upS, mget, mfind], by simp [mput, dnS, mget, mfind]⟩
  | cons p l ih =>
    obtain ⟨k, x⟩ := p
    unfold ndk at h
    rw [List.map_cons, List.nodup_cons] at h
    rw [mput]
    by_cases e : k = v
    · rw [if_pos e]
      have hg : mget ((k, x) :: l) v = x := by unfold mget mfind; rw [if_pos e]; rfl
      rw [hg]
      refine ⟨by unfold ndk; rw [List.map_cons, List.nodup_cons]; exact e ▸ h, ?_, ?_⟩
      · simp only [upS, List.map_cons, List.sum_cons]; omega
      · simp only [dnS, List.map_cons, List.sum_cons]; omega
    · rw [if_neg e]
      have hg : mget ((k, x) :: l) v = mget l v := by unfold mget; rw [mfind, if_neg e]
      obtain ⟨h1, h2, h3⟩ := ih h.2
      rw [hg]
      refine ⟨?_, ?_, ?_⟩
      · unfold ndk
        rw [List.map_cons, List.nodup_cons]
        refine ⟨fun hm => ?_, h1⟩
        rcases keys_put hm with hm | hm
        · exact e hm
        · exact h.1 hm
      · unfold upS at h2 ⊢; rw [List.map_cons, List.sum_cons, h2, List.map_cons, List.sum_cons]; omega
      · unfold dnS at h3 ⊢; rw [List.map_cons, List.sum_cons, h3, List.map_cons, List.sum_cons]; omega
theorem ups_zero {l : List (Int × Int)} (h : ndk l) : 0 ≤ upS l ∧ (upS l = 0 ↔ ∀ v, mget l v ≤ 0) := by
  induction l with
  | nil => exact ⟨by simp [upS], by simp [upS, mget, mfind]⟩
  | cons p l ih =>
    obtain ⟨k, x⟩ := p
    unfold ndk at h
    rw [List.map_cons, List.nodup_cons] at h
    obtain ⟨h1, h2⟩ := ih h.2
    have e : upS ((k, x) :: l) = max x 0 + upS l := by simp [upS]
    rw [e]
    refine ⟨by omega, ?_⟩
    constructor
    · intro h3 v
      have h4 := h2.1 (by omega) v
      unfold mget at h4 ⊢
      rw [mfind]
      split
      · show x ≤ 0; omega
      · exact h4
    · intro h3
      have hx := h3 k
      unfold mget at hx
      rw [mfind, if_pos rfl] at hx
      have hx : x ≤ 0 := hx
      have := h2.2 fun v => by
        by_cases hv : k = v
        · subst hv
          unfold mget
          rw [mfind_none h.1]
          exact Int.le_refl 0
        · have := h3 v
          unfold mget at this ⊢
          rw [mfind, if_neg hv] at this
          exact this
      omega
theorem dns_zero {l : List (Int × Int)} (h : ndk l) : 0 ≤ dnS l ∧ (dnS l = 0 ↔ ∀ v, 0 ≤ mget l v) := by
  induction l with
  | nil => exact ⟨by simp [dnS], by simp [dnS, mget, mfind]⟩
  | cons p l ih =>
    obtain ⟨k, x⟩ := p
    unfold ndk at h
    rw [List.map_cons, List.nodup_cons] at h
    obtain ⟨h1, h2⟩ := ih h.2
    have e : dnS ((k, x) :: l) = max (-x) 0 + dnS l := by simp [dnS]
    rw [e]
    refine ⟨by omega, ?_⟩
    constructor
    · intro h3 v
      have h4 := h2.1 (by omega) v
      unfold mget at h4 ⊢
      rw [mfind]
      split
      · show 0 ≤ x; omega
      · exact h4
    · intro h3
      have hx := h3 k
      unfold mget at hx
      rw [mfind, if_pos rfl] at hx
      have hx : 0 ≤ x := hx
      have := h2.2 fun v => by
        by_cases hv : k = v
        · subst hv
          unfold mget
          rw [mfind_none h.1]
          exact Int.le_refl 0
        · have := h3 v
          unfold mget at this ⊢
          rw [mfind, if_neg hv] at this
          exact this
      omega
structure Ss (s : Sc) (z : Int) (D : Int → Int) : Prop where
  sz : s.sz = z
  nd : ndk s.mp
  sp : s.sp = upS s.mp
  lk : s.lk = dnS s.mp
  at_ : ∀ v, mget s.mp v = D v
theorem Ss.addV {s : Sc} {z : Int} {D : Int → Int} (h : Ss s z D) (v σ : Int) : Ss (addVk s v σ) z (fun u => D u + if v = u then σ else 0) := by
  obtain ⟨h1, h2, h3⟩ := ndk_put h.nd v (mget s.mp v + σ)
  refine ⟨h.sz, h1, ?_, ?_, fun u => ?_⟩
  · show s.sp + _ = upS (mput _ _ _); rw [h2, h.sp]
  · show s.lk + _ = dnS (mput _ _ _); rw [h3, h.lk]
  · show mget (mput _ _ _) u = _
    rw [mget_put]
    split
    · rename_i e; subst e; rw [h.at_]
    · rw [h.at_]; omega
theorem addN_var {σ : Int} {s : Sc} {t : Tm} (h : t.f < 0) : addN σ s t = addVk ⟨s.sz + σ, s.mp, s.sp, s.lk⟩ (-1 - t.f) σ := if_pos h
theorem addN_sym {σ : Int} {s : Sc} {t : Tm} (h : ¬ t.f < 0) : addN σ s t = ⟨s.sz + σ, s.mp, s.sp, s.lk⟩ := if_neg h
theorem Ss.fold {σ : Int} : ∀ {l : List Tm} {s : Sc} {z : Int} {D : Int → Int}, Ss s z D → Ss (l.foldl (addN σ) s) (z + σ * l.length) (fun v => D v + σ * ((vsL l).count v : Int))
  | [], s, z, D, h => by
    refine ⟨by show s.sz = _; rw [h.sz]; simp, h.nd, h.sp, h.lk, fun v => ?_⟩
    show mget s.mp v = _
    rw [h.at_]; simp [vsL]
  | t :: l, s, z, D, h => by
    rw [List.foldl_cons]
    have h0 : Ss ⟨s.sz + σ, s.mp, s.sp, s.lk⟩ (z + σ) D := ⟨by show s.sz + σ = _; rw [h.sz], h.nd, h.sp, h.lk, h.at_⟩
    have e1 : σ * ((t :: l).length : Int) = σ + σ * (l.length : Int) := by
      rw [List.length_cons]; push_cast; rw [Int.mul_add]; omega
    by_cases hf : t.f < 0
    · have h1 := (h0.addV (-1 - t.f) σ).fold (σ := σ) (l := l)
      rw [addN_var hf]
      refine ⟨?_, h1.nd, h1.sp, h1.lk, fun v => ?_⟩
      · rw [h1.sz, e1]; omega
      · rw [h1.at_]
        have e2 : (vsL (t :: l)).count v = (if -1 - t.f = v then 1 else 0) + (vsL l).count v := by
          unfold vsL
          rw [List.filter_cons, if_pos (by simpa using hf), List.map_cons, List.count_cons]
          simp only [beq_iff_eq]
          omega
        rw [e2]
        split
        · push_cast; rw [Int.mul_add]; omega
        · push_cast; rw [Int.mul_add]; omega
    · have h1 := h0.fold (σ := σ) (l := l)
      rw [addN_sym hf]
      refine ⟨?_, h1.nd, h1.sp, h1.lk, fun v => ?_⟩
      · rw [h1.sz, e1]; omega
      · rw [h1.at_]
        have e2 : vsL (t :: l) = vsL l := by
          unfold vsL
          rw [List.filter_cons, if_neg (by simpa using hf)]
        rw [e2]
end Go.Proofs.YteegmcfobgpemaaGreat
namespace Go.Proofs.YteegmcfobgpemaaGreat
open Go.RowKit
set_option linter.unusedVariables false
set_option linter.unusedSimpArgs false
set_option maxRecDepth 100000
noncomputable def mrv (p : Int × Int) : CV := .row [.i p.1, .i p.2]
theorem mr_keysK (l : List (Int × Int)) : IntKeys .i64 (l.map mrv) := fun r hr => by
  obtain ⟨p, _, rfl⟩ := List.mem_map.1 hr
  exact ⟨p.1, .i p.2, rfl⟩
theorem mr_look (l : List (Int × Int)) (v : Int) : lookR .i64 v (l.map mrv) = (mfind l v).map CV.i := by
  induction l with
  | nil => rfl
  | cons p l ih =>
    obtain ⟨k, x⟩ := p
    rw [List.map_cons, mrv, lookR_row, mfind]
    split
    · rfl
    · exact ih
theorem mr_get (l : List (Int × Int)) (v : Int) : (lookR .i64 v (l.map mrv)).getD (.sc (.int .i64 0)) = .i (mget l v) := by
  rw [mr_look]
  unfold mget
  cases mfind l v <;> rfl
theorem mr_put (l : List (Int × Int)) (v y : Int) : putR .i64 v (.i y) (l.map mrv) = (mput l v y).map mrv := by
  induction l with
  | nil => rfl
  | cons p l ih =>
    obtain ⟨k, x⟩ := p
    rw [List.map_cons, mrv, putR_row, mput]
    split
    · rfl
    · rw [List.map_cons, ih]; rfl
noncomputable def mB (l : List (Int × Int)) : AV := ⟨if l = [] then 17 else 14, .lst (l.map mrv), 0, 0, []⟩
noncomputable abbrev sst (s : Sc) : AS := [(450001, .obj), (35500100, .val (.i s.sz)), (35500101, .mref 300001), (35500102, .val (.i s.sp)), (35500103, .val (.i s.lk)), (300001, mB s.mp)]
noncomputable abbrev sstN (z p k : Int) : AS := [(450001, .obj), (35500100, .val (.i z)), (35500101, .mref 300001), (35500102, .val (.i p)), (35500103, .val (.i k)), (300001, .nmap)]
noncomputable abbrev sstM (z : Int) (l : List (Int × Int)) (p k : Int) : AS := [(450001, .obj), (35500100, .val (.i z)), (35500101, .mref 300001), (35500102, .val (.i p)), (35500103, .val (.i k)), (300001, .mp (l.map mrv))]
theorem sst_N {s : Sc} (h : s.mp = []) : sst s = sstN s.sz s.sp s.lk := by simp only [sst, mB, h, if_true]; rfl
theorem sst_M {s : Sc} (h : s.mp ≠ []) : sst s = sstM s.sz s.mp s.sp s.lk := by simp only [sst, mB, if_neg h]
theorem sst_lend (s : Sc) : (sst s).all lendB = true := by
  by_cases h : s.mp = []
  · rw [sst_N h]; kernel_rfl
  · rw [sst_M h]; kernel_rfl
theorem sst_leave (s : Sc) : (sst s).all (leaveB (kO (sst s))) = true := by
  by_cases h : s.mp = []
  · rw [sst_N h]; kernel_rfl
  · rw [sst_M h]; kernel_rfl
structure Bds (s : Sc) (n : Nat) : Prop where
  sz : -(n : Int) ≤ s.sz ∧ s.sz ≤ n
  sp : -(n : Int) ≤ s.sp ∧ s.sp ≤ n
  lk : -(n : Int) ≤ s.lk ∧ s.lk ≤ n
  at_ : ∀ v, -(n : Int) ≤ mget s.mp v ∧ mget s.mp v ≤ n
theorem Bds.node {s : Sc} {n : Nat} {σ : Int} (h : Bds s n) (hσ : σ = 1 ∨ σ = -1) (t : Tm) : Bds (addN σ s t) (n + 1) := by
  obtain ⟨h1, h2, h3, h4⟩ := h
  unfold addN
  split
  · unfold addVk
    have := h4 (-1 - t.f)
    refine ⟨by show _ ≤ s.sz + σ ∧ s.sz + σ ≤ _; omega, by simp only; omega, by simp only; omega, fun v => ?_⟩
    simp only
    rw [mget_put]
    have := h4 v
    split <;> omega
  · exact ⟨by show _ ≤ s.sz + σ ∧ s.sz + σ ≤ _; omega, by simp only; omega, by simp only; omega, fun v => by have := h4 v; simp only; omega⟩
theorem Bds.fold {σ : Int} (hσ : σ = 1 ∨ σ = -1) : ∀ {l : List Tm} {s : Sc} {n : Nat}, Bds s n → Bds (l.foldl (addN σ) s) (n + l.length)
  | [], s, n, h => h
  | t :: l, s, n, h => by
    rw [List.foldl_cons, List.length_cons, show n + (l.length + 1) = n + 1 + l.length by omega]
    exact (h.node hσ t).fold hσ
theorem Bds.addL {σ : Int} (hσ : σ = 1 ∨ σ = -1) {l : List Tm} {s : Sc} {n : Nat} (h : Bds s n) : Bds (addL σ s l) (n + (l.flatMap Tm.flat).length) := h.fold hσ
theorem Bds.addT {σ : Int} (hσ : σ = 1 ∨ σ = -1) {t : Tm} {s : Sc} {n : Nat} (h : Bds s n) : Bds (addT σ s t) (n + t.size) := h.fold hσ

-- 
theorem kIsVar_abs (W : World) (t : Tm) : AFun Tryz.prog W 146 [t.cw] (.val (.b (decide (t.f < 0)))) := by
  refine afun_of (rs := [.b (decide (t.f < 0))]) Tryz.func146 Tryz.ntmps146 rfl rfl rfl rfl ?_
  intro w U hW
  refine aS (aR ?_)
  (refine nx (a_box (gN rfl) rfl rfl rfl rfl rfl) rfl ?_)
  (refine nx (aA (gN rfl) rfl rfl rfl rfl rfl) rfl ?_)
  show AWp _ _ _ _ _ _ _
  refine aS (aR ?_)
  (refine nx (aF (gN rfl) rfl rfl rfl rfl rfl rfl rfl rfl rfl) rfl ?_)
  (refine nx (aLb (gN rfl) rfl rfl rfl rfl rfl rfl rfl rfl rfl rfl rfl rfl) rfl ?_)
  (refine nx (a_lss (gN rfl) rfl rfl rfl rfl rfl rfl) rfl ?_)
  (refine nx (aA (gN rfl) rfl rfl rfl rfl rfl) rfl ?_)
  show AWp _ _ _ _ _ _ _
  exact aT ⟨.inr rfl, rfl⟩
-- 
theorem kNumber_abs (W : World) (t : Tm) (h1 : -9223372036854775808 ≤ t.f) (h2 : t.f < 0) : AFun Tryz.prog W 148 [t.cw] (.val (.i (-1 - t.f))) := by
  refine afun_of (rs := [.i (-1 - t.f)]) Tryz.func148 Tryz.ntmps148 rfl rfl rfl rfl ?_
  intro w U hW
  refine aS (aR ?_)
  (refine nx (a_box (gN rfl) rfl rfl rfl rfl rfl) rfl ?_)
  (refine nx (aA (gN rfl) rfl rfl rfl rfl rfl) rfl ?_)
  show AWp _ _ _ _ _ _ _
  refine aS (aR ?_)
  (refine nx (aF (gN rfl) rfl rfl rfl rfl rfl rfl rfl rfl rfl) rfl ?_)
  (refine nx (aLb (gN rfl) rfl rfl rfl rfl rfl rfl rfl rfl rfl rfl rfl rfl) rfl ?_)
  (refine nx (a_sub (gN rfl) rfl rfl rfl rfl rfl rfl (by first | omega | (simp only [List.length_map, List.length_append, List.length_cons, List.length_nil] <;> omega) | (simp <;> omega))) rfl ?_)
  (refine nx (aA (gN rfl) rfl rfl rfl rfl rfl) rfl ?_)
  show AWp _ _ _ _ _ _ _
  exact aT ⟨.inr rfl, rfl⟩
-- 
theorem kParts_abs (W : World) (t : Tm) : AFun Tryz.prog W 113 [t.cw] (.val (.lst (t.ps.map Tm.cv))) := by
  refine afun_of (rs := [.lst (t.ps.map Tm.cv)]) Tryz.func113 Tryz.ntmps113 rfl rfl rfl rfl ?_
  intro w U hW
  refine aS (aR ?_)
  (refine nx (a_box (gN rfl) rfl rfl rfl rfl rfl) rfl ?_)
  (refine nx (aA (gN rfl) rfl rfl rfl rfl rfl) rfl ?_)
  show AWp _ _ _ _ _ _ _
  refine aS (aS (aR ?_))
  (refine nx (aL (gN rfl) rfl rfl rfl rfl rfl rfl rfl rfl rfl rfl rfl rfl) rfl ?_)
  (refine nx (a_call (gN rfl) rfl rfl rfl rfl rfl (kIsVar_abs w t)) rfl ?_)
  show AWp _ _ _ _ _ _ _
  refine aC rfl (fun hc => ?_) (fun hc => ?_)
  · have hf : t.f < 0 := by simpa using hc
    rw [Tm.ps_of_var hf]
    refine aS (aR ?_)
    (refine nx (aA (gN rfl) rfl rfl rfl rfl rfl) rfl ?_)
    show AWp _ _ _ _ _ _ _
    exact aT ⟨.inr rfl, rfl⟩
  · have hf : ¬ t.f < 0 := by simpa using hc
    rw [Tm.ps_of_sym (by omega)]
    refine aK ?_
    show AWp _ _ _ _ _ _ _
    refine aS (aR ?_)
    (refine nx (aF (gN rfl) rfl rfl rfl rfl rfl rfl rfl rfl rfl) rfl ?_)
    (refine nx (aLb (gN rfl) rfl rfl rfl rfl rfl rfl rfl rfl rfl rfl rfl rfl) rfl ?_)
    (refine nx (aA (gN rfl) rfl rfl rfl rfl rfl) rfl ?_)
    show AWp _ _ _ _ _ _ _
    exact aT ⟨.inr rfl, rfl⟩
-- 
theorem kAddVarN_abs (s : Sc) (n : Nat) (hb : Bds s n) (hn : n ≤ 1000000000000) (v σ : Int) (hσ : σ = 1 ∨ σ = -1) (hm : s.mp = []) : AFunO Tryz.prog 147 (sstN s.sz s.sp s.lk) [.bp 350001 0 [], .val (.i v), .val (.i σ)] (.tup []) (sstM s.sz (addVk s v σ).mp (addVk s v σ).sp (addVk s v σ).lk) := by
  have hb2 := hb.sp
  have hb3 := hb.lk
  have hb4 := hb.at_ v
  have hg : mget [] v = mget s.mp v := by rw [hm]
  obtain ⟨was, hwas⟩ : ∃ was, was = mget s.mp v := ⟨_, rfl⟩
  rw [← hwas] at hb4
  refine afunO_of Tryz.func147 Tryz.ntmps147 rfl rfl rfl rfl rfl rfl ?_
  intro w U hU
  refine aS (aS (aR ?_))
  (refine nx (aM (gN rfl) rfl rfl rfl rfl rfl) rfl ?_)
  (refine nx (aNc (gN rfl) rfl rfl rfl rfl rfl) rfl ?_)
  (refine nx (aF (gN rfl) rfl rfl rfl rfl rfl rfl rfl rfl rfl) rfl ?_)
  (refine nx (aLf (gN rfl) rfl rfl rfl rfl rfl rfl rfl rfl rfl rfl rfl rfl rfl) rfl ?_)
  (refine nx (a_mref_isnil (gN rfl) rfl rfl rfl rfl rfl rfl rfl) rfl ?_)
  show AWp _ _ _ _ _ _ _
  refine aC rfl (fun hc => ?_) (fun hc => by cases hc)
  refine aR ?_
  (refine nx (aM (gN rfl) rfl rfl rfl rfl rfl) rfl ?_)
  (refine nx (a_mkmap 300002 (gN rfl) rfl rfl rfl rfl rfl) (by kernel_rfl) ?_)
  (refine nx (aNc (gN rfl) rfl rfl rfl rfl rfl) rfl ?_)
  (refine nx (aF (gN rfl) rfl rfl rfl rfl rfl rfl rfl rfl rfl) rfl ?_)
  (refine nx (a_store_fld (gN rfl) rfl rfl rfl rfl rfl rfl rfl rfl rfl rfl rfl rfl) rfl ?_)
  show AWp _ _ _ _ _ _ _
  refine aS (aR ?_)
  (refine nx (aM (gN rfl) rfl rfl rfl rfl rfl) rfl ?_)
  (refine nx (aNc (gN rfl) rfl rfl rfl rfl rfl) rfl ?_)
  (refine nx (aF (gN rfl) rfl rfl rfl rfl rfl rfl rfl rfl rfl) rfl ?_)
  (refine nx (aLf (gN rfl) rfl rfl rfl rfl rfl rfl rfl rfl rfl rfl rfl rfl rfl) rfl ?_)
  (refine nx (aM (gN rfl) rfl rfl rfl rfl rfl) rfl ?_)
  (refine nx (a_lookup1 (gN rfl) rfl rfl rfl rfl rfl rfl rfl rfl rfl rfl rfl ( mr_keysK [])) rfl ?_)
  (refine nx (aA (gN rfl) rfl rfl rfl rfl rfl) rfl ?_)
  show AWp _ _ _ _ _ _ _
  refine AWp.wk (wk_sub (s' := [(0, AV.bp 350001 0 []), (1, .val (.i v)), (2, .val (.i σ)), (6, .val (.i was)), (450001, .obj), (35500100, .val (.i s.sz)), (35500101, .mref 300002), (35500102, .val (.i s.sp)), (35500103, .val (.i s.lk)), (300002, .mp (([] : List (Int × Int)).map mrv))]) ⟨rfl, rfl, rfl, ?_, rfl, rfl, rfl, rfl, rfl, rfl, trivial⟩) ?_
  · rw [hwas, ← hg]; rfl
  refine aS (aR ?_)
  (refine nx (aM (gN rfl) rfl rfl rfl rfl rfl) rfl ?_)
  (refine nx (aM (gN rfl) rfl rfl rfl rfl rfl) rfl ?_)
  (refine nx (a_add (gN rfl) rfl rfl rfl rfl rfl rfl (by first | omega | (simp only [List.length_map, List.length_append, List.length_cons, List.length_nil] <;> omega) | (simp <;> omega))) rfl ?_)
  (refine nx (aA (gN rfl) rfl rfl rfl rfl rfl) rfl ?_)
  show AWp _ _ _ _ _ _ _
  refine aS (aR ?_)
  (refine nx (aM (gN rfl) rfl rfl rfl rfl rfl) rfl ?_)
  (refine nx (aNc (gN rfl) rfl rfl rfl rfl rfl) rfl ?_)
  (refine nx (aF (gN rfl) rfl rfl rfl rfl rfl rfl rfl rfl rfl) rfl ?_)
  (refine nx (aLf (gN rfl) rfl rfl rfl rfl rfl rfl rfl rfl rfl rfl rfl rfl rfl) rfl ?_)
  (refine nx (aM (gN rfl) rfl rfl rfl rfl rfl) rfl ?_)
  (refine nx (aM (gN rfl) rfl rfl rfl rfl rfl) rfl ?_)
  (refine nx (a_mapup (gN rfl) rfl rfl rfl rfl rfl rfl rfl rfl (mr_keysK [])) rfl ?_)
  show AWp _ _ _ _ _ _ _
  refine aS (aR ?_)
  (refine nx (aM (gN rfl) rfl rfl rfl rfl rfl) rfl ?_)
  (refine nx (aNc (gN rfl) rfl rfl rfl rfl rfl) rfl ?_)
  (refine nx (aF (gN rfl) rfl rfl rfl rfl rfl rfl rfl rfl rfl) rfl ?_)
  (refine nx (aLf (gN rfl) rfl rfl rfl rfl rfl rfl rfl rfl rfl rfl rfl rfl rfl) rfl ?_)
  (refine nx (aM (gN rfl) rfl rfl rfl rfl rfl) rfl ?_)
  (refine nx (a_max (gN rfl) rfl rfl rfl rfl rfl rfl) rfl ?_)
  (refine nx (aM (gN rfl) rfl rfl rfl rfl rfl) rfl ?_)
  (refine nx (a_max (gN rfl) rfl rfl rfl rfl rfl rfl) rfl ?_)
  (refine nx (a_sub (gN rfl) rfl rfl rfl rfl rfl rfl (by first | omega | (simp only [List.length_map, List.length_append, List.length_cons, List.length_nil] <;> omega) | (simp <;> omega))) rfl ?_)
  (refine nx (a_add (gN rfl) rfl rfl rfl rfl rfl rfl (by first | omega | (simp only [List.length_map, List.length_append, List.length_cons, List.length_nil] <;> omega) | (simp <;> omega))) rfl ?_)
  (refine nx (aNc (gN rfl) rfl rfl rfl rfl rfl) rfl ?_)
  (refine nx (aF (gN rfl) rfl rfl rfl rfl rfl rfl rfl rfl rfl) rfl ?_)
  (refine nx (a_store_fld (gN rfl) rfl rfl rfl rfl rfl rfl rfl rfl rfl rfl rfl rfl) rfl ?_)
  show AWp _ _ _ _ _ _ _
  refine aR ?_
  (refine nx (aM (gN rfl) rfl rfl rfl rfl rfl) rfl ?_)
  (refine nx (aNc (gN rfl) rfl rfl rfl rfl rfl) rfl ?_)
  (refine nx (aF (gN rfl) rfl rfl rfl rfl rfl rfl rfl rfl rfl) rfl ?_)
  (refine nx (aLf (gN rfl) rfl rfl rfl rfl rfl rfl rfl rfl rfl rfl rfl rfl rfl) rfl ?_)
  (refine nx (aM (gN rfl) rfl rfl rfl rfl rfl) rfl ?_)
  (refine nx (a_neg (gN rfl) rfl rfl rfl rfl rfl (by first | omega | (constructor <;> omega))) rfl ?_)
  (refine nx (a_max (gN rfl) rfl rfl rfl rfl rfl rfl) rfl ?_)
  (refine nx (aM (gN rfl) rfl rfl rfl rfl rfl) rfl ?_)
  (refine nx (a_neg (gN rfl) rfl rfl rfl rfl rfl (by first | omega | (constructor <;> omega))) rfl ?_)
  (refine nx (a_max (gN rfl) rfl rfl rfl rfl rfl rfl) rfl ?_)
  (refine nx (a_sub (gN rfl) rfl rfl rfl rfl rfl rfl (by first | omega | (simp only [List.length_map, List.length_append, List.length_cons, List.length_nil] <;> omega) | (simp <;> omega))) rfl ?_)
  (refine nx (a_add (gN rfl) rfl rfl rfl rfl rfl rfl (by first | omega | (simp only [List.length_map, List.length_append, List.length_cons, List.length_nil] <;> omega) | (simp <;> omega))) rfl ?_)
  (refine nx (aNc (gN rfl) rfl rfl rfl rfl rfl) rfl ?_)
  (refine nx (aF (gN rfl) rfl rfl rfl rfl rfl rfl rfl rfl rfl) rfl ?_)
  (refine nx (a_store_fld (gN rfl) rfl rfl rfl rfl rfl rfl rfl rfl rfl rfl rfl rfl) rfl ?_)
  refine ⟨.inl rfl, _, (wk_sub (s' := [(450001, .obj), (35500100, .val (.i s.sz)), (35500101, .mref 300002), (35500102, .val (.i (addVk s v σ).sp)), (35500103, .val (.i (addVk s v σ).lk)), (300002, .mp ((addVk s v σ).mp.map mrv))]) ⟨rfl, rfl, rfl, ?_, ?_, ?_, trivial⟩).trans (wk_ren 300002 300001 rfl rfl (by kernel_rfl) (by kernel_rfl)), rfl, rfl, rfl, rfl, rfl, rfl, rfl, trivial⟩
  · unfold addVk; rw [← hwas]; rfl
  · unfold addVk; rw [← hwas]; rfl
  · unfold addVk
    simp only
    rw [← hwas, hm, ← mr_put]
    rfl
-- 
theorem kAddVarM_abs (s : Sc) (n : Nat) (hb : Bds s n) (hn : n ≤ 1000000000000) (v σ : Int) (hσ : σ = 1 ∨ σ = -1) : AFunO Tryz.prog 147 (sstM s.sz s.mp s.sp s.lk) [.bp 350001 0 [], .val (.i v), .val (.i σ)] (.tup []) (sstM s.sz (addVk s v σ).mp (addVk s v σ).sp (addVk s v σ).lk) := by
  have hb2 := hb.sp
  have hb3 := hb.lk
  have hb4 := hb.at_ v
  obtain ⟨was, hwas⟩ : ∃ was, was = mget s.mp v := ⟨_, rfl⟩
  rw [← hwas] at hb4
  refine afunO_of Tryz.func147 Tryz.ntmps147 rfl rfl rfl rfl rfl rfl ?_
  intro w U hU
  refine aS (aS (aR ?_))
  (refine nx (aM (gN rfl) rfl rfl rfl rfl rfl) rfl ?_)
  (refine nx (aNc (gN rfl) rfl rfl rfl rfl rfl) rfl ?_)
  (refine nx (aF (gN rfl) rfl rfl rfl rfl rfl rfl rfl rfl rfl) rfl ?_)
  (refine nx (aLf (gN rfl) rfl rfl rfl rfl rfl rfl rfl rfl rfl rfl rfl rfl rfl) rfl ?_)
  (refine nx (a_mref_nil (gN rfl) rfl rfl rfl rfl rfl rfl rfl) rfl ?_)
  show AWp _ _ _ _ _ _ _
  refine aC rfl (fun hc => by cases hc) (fun hc => ?_)
  refine aK ?_
  show AWp _ _ _ _ _ _ _
  refine aS (aR ?_)
  (refine nx (aM (gN rfl) rfl rfl rfl rfl rfl) rfl ?_)
  (refine nx (aNc (gN rfl) rfl rfl rfl rfl rfl) rfl ?_)
  (refine nx (aF (gN rfl) rfl rfl rfl rfl rfl rfl rfl rfl rfl) rfl ?_)
  (refine nx (aLf (gN rfl) rfl rfl rfl rfl rfl rfl rfl rfl rfl rfl rfl rfl rfl) rfl ?_)
  (refine nx (aM (gN rfl) rfl rfl rfl rfl rfl) rfl ?_)
  (refine nx (a_lookup1 (gN rfl) rfl rfl rfl rfl rfl rfl rfl rfl rfl rfl rfl ( mr_keysK _)) rfl ?_)
  (refine nx (aA (gN rfl) rfl rfl rfl rfl rfl) rfl ?_)
  show AWp _ _ _ _ _ _ _
  refine AWp.wk (wk_sub (s' := [(0, AV.bp 350001 0 []), (1, .val (.i v)), (2, .val (.i σ)), (6, .val (.i was)), (450001, .obj), (35500100, .val (.i s.sz)), (35500101, .mref 300001), (35500102, .val (.i s.sp)), (35500103, .val (.i s.lk)), (300001, .mp (s.mp.map mrv))]) ⟨rfl, rfl, rfl, ?_, rfl, rfl, rfl, rfl, rfl, rfl, trivial⟩) ?_
  · rw [hwas, ← mr_get]; rfl
  refine aS (aR ?_)
  (refine nx (aM (gN rfl) rfl rfl rfl rfl rfl) rfl ?_)
  (refine nx (aM (gN rfl) rfl rfl rfl rfl rfl) rfl ?_)
  (refine nx (a_add (gN rfl) rfl rfl rfl rfl rfl rfl (by first | omega | (simp only [List.length_map, List.length_append, List.length_cons, List.length_nil] <;> omega) | (simp <;> omega))) rfl ?_)
  (refine nx (aA (gN rfl) rfl rfl rfl rfl rfl) rfl ?_)
  show AWp _ _ _ _ _ _ _
  refine aS (aR ?_)
  (refine nx (aM (gN rfl) rfl rfl rfl rfl rfl) rfl ?_)
  (refine nx (aNc (gN rfl) rfl rfl rfl rfl rfl) rfl ?_)
  (refine nx (aF (gN rfl) rfl rfl rfl rfl rfl rfl rfl rfl rfl) rfl ?_)
  (refine nx (aLf (gN rfl) rfl rfl rfl rfl rfl rfl rfl rfl rfl rfl rfl rfl rfl) rfl ?_)
  (refine nx (aM (gN rfl) rfl rfl rfl rfl rfl) rfl ?_)
  (refine nx (aM (gN rfl) rfl rfl rfl rfl rfl) rfl ?_)
  (refine nx (a_mapup (gN rfl) rfl rfl rfl rfl rfl rfl rfl rfl (mr_keysK _)) rfl ?_)
  show AWp _ _ _ _ _ _ _
  refine aS (aR ?_)
  (refine nx (aM (gN rfl) rfl rfl rfl rfl rfl) rfl ?_)
  (refine nx (aNc (gN rfl) rfl rfl rfl rfl rfl) rfl ?_)
  (refine nx (aF (gN rfl) rfl rfl rfl rfl rfl rfl rfl rfl rfl) rfl ?_)
  (refine nx (aLf (gN rfl) rfl rfl rfl rfl rfl rfl rfl rfl rfl rfl rfl rfl rfl) rfl ?_)
  (refine nx (aM (gN rfl) rfl rfl rfl rfl rfl) rfl ?_)
  (refine nx (a_max (gN rfl) rfl rfl rfl rfl rfl rfl) rfl ?_)
  (refine nx (aM (gN rfl) rfl rfl rfl rfl rfl) rfl ?_)
  (refine nx (a_max (gN rfl) rfl rfl rfl rfl rfl rfl) rfl ?_)
  (refine nx (a_sub (gN rfl) rfl rfl rfl rfl rfl rfl (by first | omega | (simp only [List.length_map, List.length_append, List.length_cons, List.length_nil] <;> omega) | (simp <;> omega))) rfl ?_)
  (refine nx (a_add (gN rfl) rfl rfl rfl rfl rfl rfl (by first | omega | (simp only [List.length_map, List.length_append, List.length_cons, List.length_nil] <;> omega) | (simp <;> omega))) rfl ?_)
  (refine nx (aNc (gN rfl) rfl rfl rfl rfl rfl) rfl ?_)
  (refine nx (aF (gN rfl) rfl rfl rfl rfl rfl rfl rfl rfl rfl) rfl ?_)
  (refine nx (a_store_fld (gN rfl) rfl rfl rfl rfl rfl rfl rfl rfl rfl rfl rfl rfl) rfl ?_)
  show AWp _ _ _ _ _ _ _
  refine aR ?_
  (refine nx (aM (gN rfl) rfl rfl rfl rfl rfl) rfl ?_)
  (refine nx (aNc (gN rfl) rfl rfl rfl rfl rfl) rfl ?_)
  (refine nx (aF (gN rfl) rfl rfl rfl rfl rfl rfl rfl rfl rfl) rfl ?_)
  (refine nx (aLf (gN rfl) rfl rfl rfl rfl rfl rfl rfl rfl rfl rfl rfl rfl rfl) rfl ?_)
  (refine nx (aM (gN rfl) rfl rfl rfl rfl rfl) rfl ?_)
  (refine nx (a_neg (gN rfl) rfl rfl rfl rfl rfl (by first | omega | (constructor <;> omega))) rfl ?_)
  (refine nx (a_max (gN rfl) rfl rfl rfl rfl rfl rfl) rfl ?_)
  (refine nx (aM (gN rfl) rfl rfl rfl rfl rfl) rfl ?_)
  (refine nx (a_neg (gN rfl) rfl rfl rfl rfl rfl (by first | omega | (constructor <;> omega))) rfl ?_)
  (refine nx (a_max (gN rfl) rfl rfl rfl rfl rfl rfl) rfl ?_)
  (refine nx (a_sub (gN rfl) rfl rfl rfl rfl rfl rfl (by first | omega | (simp only [List.length_map, List.length_append, List.length_cons, List.length_nil] <;> omega) | (simp <;> omega))) rfl ?_)
  (refine nx (a_add (gN rfl) rfl rfl rfl rfl rfl rfl (by first | omega | (simp only [List.length_map, List.length_append, List.length_cons, List.length_nil] <;> omega) | (simp <;> omega))) rfl ?_)
  (refine nx (aNc (gN rfl) rfl rfl rfl rfl rfl) rfl ?_)
  (refine nx (aF (gN rfl) rfl rfl rfl rfl rfl rfl rfl rfl rfl) rfl ?_)
  (refine nx (a_store_fld (gN rfl) rfl rfl rfl rfl rfl rfl rfl rfl rfl rfl rfl rfl) rfl ?_)
  refine ⟨.inl rfl, _, (wk_sub (s' := sstM s.sz (addVk s v σ).mp (addVk s v σ).sp (addVk s v σ).lk) ⟨rfl, rfl, rfl, ?_, ?_, ?_, trivial⟩), rfl, rfl, rfl, rfl, rfl, rfl, rfl, trivial⟩
  · unfold addVk; rw [← hwas]; rfl
  · unfold addVk; rw [← hwas]; rfl
  · unfold addVk
    simp only
    rw [← hwas, ← mr_put]
    rfl
theorem kAddVar_abs (s : Sc) (n : Nat) (hb : Bds s n) (hn : n ≤ 1000000000000) (v σ : Int) (hσ : σ = 1 ∨ σ = -1) : AFunO Tryz.prog 147 (sst s) [.bp 350001 0 [], .val (.i v), .val (.i σ)] (.tup []) (sst (addVk s v σ)) := by
  rw [sst_M (s := addVk s v σ) (mput_ne _ _ _)]
  by_cases h : s.mp = []
  · rw [sst_N h]; exact kAddVarN_abs s n hb hn v σ hσ h
  · rw [sst_M h]; exact kAddVarM_abs s n hb hn v σ hσ
def KAdd (σ : Int) (t : Tm) : Prop := ∀ (s : Sc) (n : Nat), Bds s n → n + t.size ≤ 1000000000000 → AFunO Tryz.prog 114 (sst s) [.bp 350001 0 [], .val t.cw, .val (.i σ)] (.tup []) (sst (addT σ s t))
-- 
theorem kAddAll_of (σ : Int) (hσ : σ = 1 ∨ σ = -1) (l : List Tm) (hl : l.length ≤ 1000000000000) (ih : ∀ t ∈ l, KAdd σ t) (s : Sc) (n : Nat) (hb : Bds s n) (hn : n + (l.flatMap Tm.flat).length ≤ 1000000000000) : AFunO Tryz.prog 117 (sst s) [.bp 350001 0 [], .val (.lst (l.map Tm.cv)), .val (.i σ)] (.tup []) (sst (addL σ s l)) := by
  have hsz := Tm.size_all l
  refine afunO_of Tryz.func117 Tryz.ntmps117 rfl rfl rfl rfl rfl rfl ?_
  intro w U hU
  refine aS (aR ?_)
  (refine nx (aM (gN rfl) rfl rfl rfl rfl rfl) rfl ?_)
  (refine nx (a_len (gN rfl) rfl rfl rfl rfl rfl rfl rfl) rfl ?_)
  (refine nx (aM (gN rfl) rfl rfl rfl rfl rfl) rfl ?_)
  show AWp _ _ _ _ _ _ _
  refine aB (awp_count l.length (fun k => (0, .bp 350001 0 []) :: (2, .val (.i σ)) :: (8, .val (.lst (l.map Tm.cv))) :: (9, .val (.i (l.map Tm.cv).length)) :: (10, .val (.i k)) :: sst (addL σ s (l.take k))) (wk_sub ⟨rfl, rfl, rfl, rfl, rfl, rfl, rfl, rfl, rfl, rfl, rfl, trivial⟩) ?_)
  intro k hk
  refine aS (aR ?_)
  (refine nx (a_lss (gN rfl) rfl rfl rfl rfl rfl rfl) rfl ?_)
  show AWp _ _ _ _ _ _ _
  refine aS (aC rfl (fun hlt => ?_) (fun hlt => ?_))
  · have hkl : k < l.length := by simpa using hlt
    obtain ⟨x, hx⟩ : ∃ x, l[k]? = some x := ⟨l[k], List.getElem?_eq_getElem hkl⟩
    have hx' := Tm.map_at hx
    have hxm := List.mem_of_getElem? hx
    obtain ⟨sk, hsk⟩ : ∃ sk, sk = addL σ s (l.take k) := ⟨_, rfl⟩
    have hbk : Bds sk (n + ((l.take k).flatMap Tm.flat).length) := by rw [hsk]; exact hb.addL hσ
    have hnk : n + ((l.take k).flatMap Tm.flat).length + x.size ≤ 1000000000000 := by
      have h2 : (l.flatMap Tm.flat).length = ((l.take k).flatMap Tm.flat).length + ((l.drop k).flatMap Tm.flat).length := by
        conv => lhs; rw [← List.take_append_drop k l]
        rw [List.flatMap_append, List.length_append]
      have h3 : x.flat.length ≤ ((l.drop k).flatMap Tm.flat).length := flatMap_len_mem Tm.flat (List.mem_of_getElem? (i := 0) (by rw [List.getElem?_drop]; simpa using hx))
      unfold Tm.size
      omega
    have hstep := addL_take (σ := σ) (s := s) hx
    rw [← hsk] at hstep
    rw [← hsk]
    refine aK ?_
    show AWp _ _ _ _ _ _ _
    refine aS (aB (aS (aR ?_)))
    (refine nx (a_index (j := k) (gN rfl) rfl rfl rfl rfl rfl rfl rfl rfl rfl (hx') rfl (hsz)) rfl ?_)
    (refine nx (a_load_ad (gN rfl) rfl rfl rfl rfl rfl rfl rfl rfl rfl) rfl ?_)
    (refine nx (a_alloc (gN rfl) rfl rfl rfl rfl rfl rfl rfl rfl rfl rfl) (by kernel_rfl) ?_)
    (refine nx (aSt (gN rfl) rfl rfl rfl rfl rfl rfl rfl rfl rfl rfl) rfl ?_)
    show AWp _ _ _ _ _ _ _
    refine aR ?_
    (refine nx (aM (gN rfl) rfl rfl rfl rfl rfl) rfl ?_)
    (refine nx (aL (gN rfl) rfl rfl rfl rfl rfl rfl rfl rfl rfl rfl rfl rfl) rfl ?_)
    (refine nx (aM (gN rfl) rfl rfl rfl rfl rfl) rfl ?_)
    (refine nx (a_callO (gN rfl) rfl rfl rfl rfl rfl (ih x hxm sk _ hbk hnk) (by repeat (first | exact trivial | refine ⟨rfl, ?_⟩)) (sst_lend _) (sst_leave _) (by first | rfl | kernel_rfl) (by first | rfl | kernel_rfl) (hnb_of (by first | rfl | kernel_rfl))) rfl ?_)
    show AWp _ _ _ _ _ _ _
    refine aR ?_
    (refine nx (a_add (gN rfl) rfl rfl rfl rfl rfl rfl (by first | omega | (simp only [List.length_map, List.length_append, List.length_cons, List.length_nil] <;> omega) | (simp <;> omega))) rfl ?_)
    (refine nx (aM (gN rfl) rfl rfl rfl rfl rfl) rfl ?_)
    refine ⟨hkl, wk_sub ⟨rfl, rfl, rfl, rfl, rfl, rfl, ?_, rfl, ?_, ?_, ?_, trivial⟩⟩
    all_goals (rw [hstep]; rfl)
  · have hkl : k = l.length := by
      have : ¬ k < l.length := by simpa using hlt
      omega
    subst hkl
    rw [List.take_length]
    refine aE ?_
    exact ⟨.inl rfl, _, Wk.refl _, rfl, rfl, rfl, rfl, rfl, rfl, rfl, trivial⟩
-- 
theorem kAdd_abs (σ : Int) (hσ : σ = 1 ∨ σ = -1) : ∀ t : Tm, t.rng → t.ok → KAdd σ t := by
  intro t
  induction t using Tm.ind with
  | h f l ih =>
  intro hr hok s n hb hn
  have hok := (Tm.ok_iff _).1 hok
  have hr := (Tm.rng_iff _).1 hr
  simp only at hok hr
  have hb1 := hb.sz
  have hsp := Tm.size_pos ⟨f, l⟩
  refine afunO_of Tryz.func114 Tryz.ntmps114 rfl rfl rfl rfl rfl rfl ?_
  intro w U hU
  refine aS (aR ?_)
  (refine nx (a_box (gN rfl) rfl rfl rfl rfl rfl) (by kernel_rfl) ?_)
  show AWp _ _ _ _ _ _ _
  refine aS (aR ?_)
  (refine nx (aM (gN rfl) rfl rfl rfl rfl rfl) rfl ?_)
  (refine nx (aNc (gN rfl) rfl rfl rfl rfl rfl) rfl ?_)
  (refine nx (aF (gN rfl) rfl rfl rfl rfl rfl rfl rfl rfl rfl) rfl ?_)
  (refine nx (aLf (gN rfl) rfl rfl rfl rfl rfl rfl rfl rfl rfl rfl rfl rfl rfl) rfl ?_)
  (refine nx (aM (gN rfl) rfl rfl rfl rfl rfl) rfl ?_)
  (refine nx (a_add (gN rfl) rfl rfl rfl rfl rfl rfl (by first | omega | (simp only [List.length_map, List.length_append, List.length_cons, List.length_nil] <;> omega) | (simp <;> omega))) rfl ?_)
  (refine nx (aNc (gN rfl) rfl rfl rfl rfl rfl) rfl ?_)
  (refine nx (aF (gN rfl) rfl rfl rfl rfl rfl rfl rfl rfl rfl) rfl ?_)
  (refine nx (a_store_fld (gN rfl) rfl rfl rfl rfl rfl rfl rfl rfl rfl rfl rfl rfl) rfl ?_)
  show AWp _ _ _ _ _ _ _
  obtain ⟨s1, hs1⟩ : ∃ s1 : Sc, s1 = ⟨s.sz + σ, s.mp, s.sp, s.lk⟩ := ⟨_, rfl⟩
  have hb' : Bds s1 (n + 1) := by
    obtain ⟨b1, b2, b3, b4⟩ := hb
    rw [hs1]
    exact ⟨by show _ ≤ s.sz + σ ∧ s.sz + σ ≤ _; omega, by simp only; omega, by simp only; omega, fun v => by have := b4 v; simp only; omega⟩
  refine AWp.wk (wk_sub (s' := (0, AV.bp 350001 0 []) :: (2, .val (.i σ)) :: (4, .bp 4 0 []) :: (100004, .bx (Tm.cw ⟨f, l⟩)) :: sst s1) ⟨rfl, rfl, rfl, rfl, rfl, ?_, rfl, ?_, ?_, ?_, trivial⟩) ?_
  · rw [hs1]; rfl
  · rw [hs1]; rfl
  · rw [hs1]; rfl
  · rw [hs1]; rfl
  refine aS (aS (aR ?_))
  (refine nx (aL (gN rfl) rfl rfl rfl rfl rfl rfl rfl rfl rfl rfl rfl rfl) rfl ?_)
  (refine nx (a_call (gN rfl) rfl rfl rfl rfl rfl (kIsVar_abs w ⟨f, l⟩)) rfl ?_)
  show AWp _ _ _ _ _ _ _
  refine aC rfl (fun hc => ?_) (fun hc => ?_)
  · have hf : f < 0 := by simpa using hc
    rw [addT_var (t := ⟨f, l⟩) hf, ← hs1]
    refine aS (aR ?_)
    (refine nx (aM (gN rfl) rfl rfl rfl rfl rfl) rfl ?_)
    (refine nx (aL (gN rfl) rfl rfl rfl rfl rfl rfl rfl rfl rfl rfl rfl rfl) rfl ?_)
    (refine nx (a_call (gN rfl) rfl rfl rfl rfl rfl (kNumber_abs w ⟨f, l⟩ hr.1.1 hf)) rfl ?_)
    (refine nx (aM (gN rfl) rfl rfl rfl rfl rfl) rfl ?_)
    (refine nx (a_callO (gN rfl) rfl rfl rfl rfl rfl (kAddVar_abs s1 (n + 1) hb' (by omega) (-1 - f) σ hσ) (by repeat (first | exact trivial | refine ⟨rfl, ?_⟩)) (sst_lend _) (sst_leave _) (by first | rfl | kernel_rfl) (by first | rfl | kernel_rfl) (hnb_of (by first | rfl | kernel_rfl))) rfl ?_)
    show AWp _ _ _ _ _ _ _
    exact aT ⟨.inr rfl, _, Wk.refl _, rfl, rfl, rfl, rfl, rfl, rfl, rfl, trivial⟩
  · have hf : ¬ f < 0 := by simpa using hc
    rw [addT_sym (t := ⟨f, l⟩) hf, ← hs1]
    have hse := Tm.size_eq ⟨f, l⟩
    rw [Tm.ps_of_sym (t := ⟨f, l⟩) (by show 0 ≤ f; omega)] at hse
    simp only at hse
    have hlen := Tm.len_ps ⟨f, l⟩
    rw [Tm.ps_of_sym (t := ⟨f, l⟩) (by show 0 ≤ f; omega)] at hlen
    simp only at hlen
    refine aK ?_
    show AWp _ _ _ _ _ _ _
    refine aR ?_
    (refine nx (aM (gN rfl) rfl rfl rfl rfl rfl) rfl ?_)
    (refine nx (aF (gN rfl) rfl rfl rfl rfl rfl rfl rfl rfl rfl) rfl ?_)
    (refine nx (aLb (gN rfl) rfl rfl rfl rfl rfl rfl rfl rfl rfl rfl rfl rfl) rfl ?_)
    (refine nx (aM (gN rfl) rfl rfl rfl rfl rfl) rfl ?_)
    (refine nx (a_callO (gN rfl) rfl rfl rfl rfl rfl (kAddAll_of σ hσ l (by omega) (fun t ht => ih t ht (hr.2 t ht) (hok.2 t ht)) s1 (n + 1) hb' (by omega)) (by repeat (first | exact trivial | refine ⟨rfl, ?_⟩)) (sst_lend _) (sst_leave _) (by first | rfl | kernel_rfl) (by first | rfl | kernel_rfl) (hnb_of (by first | rfl | kernel_rfl))) rfl ?_)
    exact ⟨.inl rfl, _, Wk.refl _, rfl, rfl, rfl, rfl, rfl, rfl, rfl, trivial⟩
theorem kAddAll_abs (σ : Int) (hσ : σ = 1 ∨ σ = -1) (l : List Tm) (hl : l.length ≤ 1000000000000) (hr : ∀ t ∈ l, t.rng ∧ t.ok) (s : Sc) (n : Nat) (hb : Bds s n) (hn : n + (l.flatMap Tm.flat).length ≤ 1000000000000) : AFunO Tryz.prog 117 (sst s) [.bp 350001 0 [], .val (.lst (l.map Tm.cv)), .val (.i σ)] (.tup []) (sst (addL σ s l)) :=
  kAddAll_of σ hσ l hl (fun t ht => kAdd_abs σ hσ t (hr t ht).1 (hr t ht).2) s n hb hn

def ordS (s : Sc) (w : Int) : Int := if s.sz ≠ 0 then cmpZ s.sz 0 else w
def vdS (s : Sc) (w : Int) : Int := if (ordS s w = 1 ∧ 0 < s.lk) ∨ (ordS s w = -1 ∧ 0 < s.sp) then 2 else ordS s w
-- 
theorem kVerdict_abs (s : Sc) (x : Int) : AFunO Tryz.prog 115 (sst s) [.bp 350001 0 [], .val (.i x)] (.val (.i (vdS s x))) (sst s) := by
  refine afunO_of Tryz.func115 Tryz.ntmps115 rfl rfl rfl rfl rfl rfl ?_
  intro w U hU
  refine aS (aR ?_)
  (refine nx (aA (gN rfl) rfl rfl rfl rfl rfl) rfl ?_)
  show AWp _ _ _ _ _ _ _
  refine aS (aR ?_)
  (refine nx (aM (gN rfl) rfl rfl rfl rfl rfl) rfl ?_)
  (refine nx (aA (gN rfl) rfl rfl rfl rfl rfl) rfl ?_)
  show AWp _ _ _ _ _ _ _
  refine awp_mid ((0, AV.bp 350001 0 []) :: (5, .val (.i (ordS s x))) :: sst s) ?_ ?_
  · unfold ordS
    refine aS (aR ?_)
    (refine nx (aM (gN rfl) rfl rfl rfl rfl rfl) rfl ?_)
    (refine nx (aNc (gN rfl) rfl rfl rfl rfl rfl) rfl ?_)
    (refine nx (aF (gN rfl) rfl rfl rfl rfl rfl rfl rfl rfl rfl) rfl ?_)
    (refine nx (aLf (gN rfl) rfl rfl rfl rfl rfl rfl rfl rfl rfl rfl rfl rfl rfl) rfl ?_)
    (refine nx (a_neq (gN rfl) rfl rfl rfl rfl rfl rfl) rfl ?_)
    show AWp _ _ _ _ _ _ _
    refine aC rfl (fun hc => ?_) (fun hc => ?_)
    · have h : s.sz ≠ 0 := by simpa using hc
      rw [if_pos h]
      refine aR ?_
      (refine nx (aM (gN rfl) rfl rfl rfl rfl rfl) rfl ?_)
      (refine nx (aNc (gN rfl) rfl rfl rfl rfl rfl) rfl ?_)
      (refine nx (aF (gN rfl) rfl rfl rfl rfl rfl rfl rfl rfl rfl) rfl ?_)
      (refine nx (aLf (gN rfl) rfl rfl rfl rfl rfl rfl rfl rfl rfl rfl rfl rfl rfl) rfl ?_)
      (refine nx (a_call (gN rfl) rfl rfl rfl rfl rfl (cmp_abs w s.sz 0)) rfl ?_)
      (refine nx (aA (gN rfl) rfl rfl rfl rfl rfl) rfl ?_)
      exact wk_sub ⟨rfl, rfl, rfl, rfl, rfl, rfl, rfl, rfl, trivial⟩
    · have h : ¬ s.sz ≠ 0 := by simpa using hc
      rw [if_neg h]
      refine aK ?_
      exact wk_sub ⟨rfl, rfl, rfl, rfl, rfl, rfl, rfl, rfl, trivial⟩
  unfold vdS
  generalize ordS s x = o
  by_cases h1 : o = 1
  · subst h1
    by_cases h2 : 0 < s.lk
    · have g : decide (s.lk > 0) = true := by simpa using h2
      rw [if_pos (.inl ⟨rfl, h2⟩)]
      refine aS (aS (aR ?_))
      (refine nx (aM (gN rfl) rfl rfl rfl rfl rfl) rfl ?_)
      (refine nx (a_eql (gN rfl) rfl rfl rfl rfl rfl rfl) rfl ?_)
      (refine nx (aM (gN rfl) rfl rfl rfl rfl rfl) rfl ?_)
      (refine nx (aM (gd_on rfl rfl rfl rfl (by first | rfl | assumption | (simp; done))) rfl rfl rfl rfl rfl) rfl ?_)
      (refine nx (aNc (gd_on rfl rfl rfl rfl (by first | rfl | assumption | (simp; done))) rfl rfl rfl rfl rfl) rfl ?_)
      (refine nx (aF (gd_on rfl rfl rfl rfl (by first | rfl | assumption | (simp; done))) rfl rfl rfl rfl rfl rfl rfl rfl rfl) rfl ?_)
      (refine nx (aLf (gd_on rfl rfl rfl rfl (by first | rfl | assumption | (simp; done))) rfl rfl rfl rfl rfl rfl rfl rfl rfl rfl rfl rfl rfl) rfl ?_)
      (refine nx (a_gtr (gd_on rfl rfl rfl rfl (by first | rfl | assumption | (simp; done))) rfl rfl rfl rfl rfl rfl) rfl ?_)
      (refine ⟨_, _, _, aPt (gN rfl) rfl rfl rfl rfl rfl ?hb rfl, rfl, ?_⟩; case hb => (first | rfl | assumption | (simp; done)))
      (refine nx (aM (gN rfl) rfl rfl rfl rfl rfl) rfl ?_)
      (refine ⟨_, _, _, a_offt (go_off rfl rfl rfl rfl (by first | rfl | assumption | (simp; done) | (simp [*]; done))) rfl rfl rfl, rfl, ?_⟩)
      (refine ⟨_, _, _, a_offt (go_off rfl rfl rfl rfl (by first | rfl | assumption | (simp; done) | (simp [*]; done))) rfl rfl rfl, rfl, ?_⟩)
      (refine ⟨_, _, _, a_offt (go_off rfl rfl rfl rfl (by first | rfl | assumption | (simp; done) | (simp [*]; done))) rfl rfl rfl, rfl, ?_⟩)
      (refine ⟨_, _, _, a_offt (go_off_t rfl rfl rfl rfl) rfl rfl rfl, rfl, ?_⟩)
      (refine ⟨_, _, _, a_offt (go_off_t rfl rfl rfl rfl) rfl rfl rfl, rfl, ?_⟩)
      (refine ⟨_, _, _, a_offt (go_off_t rfl rfl rfl rfl) rfl rfl rfl, rfl, ?_⟩)
      (refine ⟨_, _, _, a_offt (go_off_t rfl rfl rfl rfl) rfl rfl rfl, rfl, ?_⟩)
      (refine ⟨_, _, _, a_offt (go_off_t rfl rfl rfl rfl) rfl rfl rfl, rfl, ?_⟩)
      (refine ⟨_, _, _, a_offt (go_off rfl rfl rfl rfl (by first | rfl | assumption | (simp; done) | (simp [*]; done))) rfl rfl rfl, rfl, ?_⟩)
      (refine ⟨_, _, _, aPt (gN rfl) rfl rfl rfl rfl rfl ?hb rfl, rfl, ?_⟩; case hb => (first | rfl | assumption | (simp; done)))
      show AWp _ _ _ _ _ _ _
      refine aC rfl (fun hc => ?_) (fun hc => by cases hc)
      refine aS (aR ?_)
      (refine nx (aA (gN rfl) rfl rfl rfl rfl rfl) rfl ?_)
      show AWp _ _ _ _ _ _ _
      exact aT ⟨.inr rfl, _, Wk.refl _, rfl, rfl, rfl, rfl, rfl, rfl, rfl, trivial⟩
    · have g : decide (s.lk > 0) = false := by simpa using h2
      rw [if_neg (by omega)]
      refine aS (aS (aR ?_))
      (refine nx (aM (gN rfl) rfl rfl rfl rfl rfl) rfl ?_)
      (refine nx (a_eql (gN rfl) rfl rfl rfl rfl rfl rfl) rfl ?_)
      (refine nx (aM (gN rfl) rfl rfl rfl rfl rfl) rfl ?_)
      (refine nx (aM (gd_on rfl rfl rfl rfl (by first | rfl | assumption | (simp; done))) rfl rfl rfl rfl rfl) rfl ?_)
      (refine nx (aNc (gd_on rfl rfl rfl rfl (by first | rfl | assumption | (simp; done))) rfl rfl rfl rfl rfl) rfl ?_)
      (refine nx (aF (gd_on rfl rfl rfl rfl (by first | rfl | assumption | (simp; done))) rfl rfl rfl rfl rfl rfl rfl rfl rfl) rfl ?_)
      (refine nx (aLf (gd_on rfl rfl rfl rfl (by first | rfl | assumption | (simp; done))) rfl rfl rfl rfl rfl rfl rfl rfl rfl rfl rfl rfl rfl) rfl ?_)
      (refine nx (a_gtr (gd_on rfl rfl rfl rfl (by first | rfl | assumption | (simp; done))) rfl rfl rfl rfl rfl rfl) rfl ?_)
      (refine ⟨_, _, _, aPt (gN rfl) rfl rfl rfl rfl rfl ?hb rfl, rfl, ?_⟩; case hb => (first | rfl | assumption | (simp; done)))
      (refine nx (aM (gN rfl) rfl rfl rfl rfl rfl) rfl ?_)
      (refine nx (aM (gd_on rfl rfl rfl rfl (by first | rfl | assumption | (simp; done))) rfl rfl rfl rfl rfl) rfl ?_)
      (refine nx (a_eql (gd_on rfl rfl rfl rfl (by first | rfl | assumption | (simp; done))) rfl rfl rfl rfl rfl rfl) rfl ?_)
      (refine nx (aM (gd_on rfl rfl rfl rfl (by first | rfl | assumption | (simp; done))) rfl rfl rfl rfl rfl) rfl ?_)
      (refine ⟨_, _, _, a_offt (go_off rfl rfl rfl rfl (by first | rfl | assumption | (simp; done) | (simp [*]; done))) rfl rfl rfl, rfl, ?_⟩)
      (refine ⟨_, _, _, a_offt (go_off rfl rfl rfl rfl (by first | rfl | assumption | (simp; done) | (simp [*]; done))) rfl rfl rfl, rfl, ?_⟩)
      (refine ⟨_, _, _, a_offt (go_off rfl rfl rfl rfl (by first | rfl | assumption | (simp; done) | (simp [*]; done))) rfl rfl rfl, rfl, ?_⟩)
      (refine ⟨_, _, _, a_offt (go_off rfl rfl rfl rfl (by first | rfl | assumption | (simp; done) | (simp [*]; done))) rfl rfl rfl, rfl, ?_⟩)
      (refine ⟨_, _, _, a_offt (go_off rfl rfl rfl rfl (by first | rfl | assumption | (simp; done) | (simp [*]; done))) rfl rfl rfl, rfl, ?_⟩)
      (refine ⟨_, _, _, aPf (gd_on rfl rfl rfl rfl (by first | rfl | assumption | (simp; done))) rfl rfl rfl rfl rfl ?hb rfl, rfl, ?_⟩; case hb => (first | rfl | assumption | (simp; done)))
      (refine ⟨_, _, _, aPf (gN rfl) rfl rfl rfl rfl rfl ?hb rfl, rfl, ?_⟩; case hb => (first | rfl | assumption | (simp; done)))
      show AWp _ _ _ _ _ _ _
      refine aC rfl (fun hc => by cases hc) (fun hc => aK ?_)
      show AWp _ _ _ _ _ _ _
      refine aS (aR ?_)
      (refine nx (aM (gN rfl) rfl rfl rfl rfl rfl) rfl ?_)
      (refine nx (aA (gN rfl) rfl rfl rfl rfl rfl) rfl ?_)
      show AWp _ _ _ _ _ _ _
      exact aT ⟨.inr rfl, _, Wk.refl _, rfl, rfl, rfl, rfl, rfl, rfl, rfl, trivial⟩
  · have g1 : decide (o = 1) = false := by simpa using h1
    by_cases h2 : o = -1
    · subst h2
      by_cases h3 : 0 < s.sp
      · have g : decide (s.sp > 0) = true := by simpa using h3
        rw [if_pos (.inr ⟨rfl, h3⟩)]
        refine aS (aS (aR ?_))
        (refine nx (aM (gN rfl) rfl rfl rfl rfl rfl) rfl ?_)
        (refine nx (a_eql (gN rfl) rfl rfl rfl rfl rfl rfl) rfl ?_)
        (refine nx (aM (gN rfl) rfl rfl rfl rfl rfl) rfl ?_)
        (refine ⟨_, _, _, a_offt (go_off rfl rfl rfl rfl (by first | rfl | assumption | (simp; done) | (simp [*]; done))) rfl rfl rfl, rfl, ?_⟩)
        (refine ⟨_, _, _, a_offt (go_off rfl rfl rfl rfl (by first | rfl | assumption | (simp; done) | (simp [*]; done))) rfl rfl rfl, rfl, ?_⟩)
        (refine ⟨_, _, _, a_offt (go_off rfl rfl rfl rfl (by first | rfl | assumption | (simp; done) | (simp [*]; done))) rfl rfl rfl, rfl, ?_⟩)
        (refine ⟨_, _, _, a_offt (go_off rfl rfl rfl rfl (by first | rfl | assumption | (simp; done) | (simp [*]; done))) rfl rfl rfl, rfl, ?_⟩)
        (refine ⟨_, _, _, a_offt (go_off rfl rfl rfl rfl (by first | rfl | assumption | (simp; done) | (simp [*]; done))) rfl rfl rfl, rfl, ?_⟩)
        (refine ⟨_, _, _, aPf (gN rfl) rfl rfl rfl rfl rfl ?hb rfl, rfl, ?_⟩; case hb => (first | rfl | assumption | (simp; done)))
        (refine nx (aM (gN rfl) rfl rfl rfl rfl rfl) rfl ?_)
        (refine nx (aM (gd_on rfl rfl rfl rfl (by first | rfl | assumption | (simp; done))) rfl rfl rfl rfl rfl) rfl ?_)
        (refine nx (a_eql (gd_on rfl rfl rfl rfl (by first | rfl | assumption | (simp; done))) rfl rfl rfl rfl rfl rfl) rfl ?_)
        (refine nx (aM (gd_on rfl rfl rfl rfl (by first | rfl | assumption | (simp; done))) rfl rfl rfl rfl rfl) rfl ?_)
        (refine nx (aM (gd_on rfl rfl rfl rfl (by first | rfl | assumption | (simp; done))) rfl rfl rfl rfl rfl) rfl ?_)
        (refine nx (aNc (gd_on rfl rfl rfl rfl (by first | rfl | assumption | (simp; done))) rfl rfl rfl rfl rfl) rfl ?_)
        (refine nx (aF (gd_on rfl rfl rfl rfl (by first | rfl | assumption | (simp; done))) rfl rfl rfl rfl rfl rfl rfl rfl rfl) rfl ?_)
        (refine nx (aLf (gd_on rfl rfl rfl rfl (by first | rfl | assumption | (simp; done))) rfl rfl rfl rfl rfl rfl rfl rfl rfl rfl rfl rfl rfl) rfl ?_)
        (refine nx (a_gtr (gd_on rfl rfl rfl rfl (by first | rfl | assumption | (simp; done))) rfl rfl rfl rfl rfl rfl) rfl ?_)
        (refine ⟨_, _, _, aPt (gd_on rfl rfl rfl rfl (by first | rfl | assumption | (simp; done))) rfl rfl rfl rfl rfl ?hb rfl, rfl, ?_⟩; case hb => (first | rfl | assumption | (simp; done)))
        (refine ⟨_, _, _, aPf (gN rfl) rfl rfl rfl rfl rfl ?hb rfl, rfl, ?_⟩; case hb => (first | rfl | assumption | (simp; done)))
        show AWp _ _ _ _ _ _ _
        refine aC rfl (fun hc => ?_) (fun hc => by rw [g] at hc; cases hc)
        refine aS (aR ?_)
        (refine nx (aA (gN rfl) rfl rfl rfl rfl rfl) rfl ?_)
        show AWp _ _ _ _ _ _ _
        exact aT ⟨.inr rfl, _, Wk.refl _, rfl, rfl, rfl, rfl, rfl, rfl, rfl, trivial⟩
      · have g : decide (s.sp > 0) = false := by simpa using h3
        rw [if_neg (by omega)]
        refine aS (aS (aR ?_))
        (refine nx (aM (gN rfl) rfl rfl rfl rfl rfl) rfl ?_)
        (refine nx (a_eql (gN rfl) rfl rfl rfl rfl rfl rfl) rfl ?_)
        (refine nx (aM (gN rfl) rfl rfl rfl rfl rfl) rfl ?_)
        (refine ⟨_, _, _, a_offt (go_off rfl rfl rfl rfl (by first | rfl | assumption | (simp; done) | (simp [*]; done))) rfl rfl rfl, rfl, ?_⟩)
        (refine ⟨_, _, _, a_offt (go_off rfl rfl rfl rfl (by first | rfl | assumption | (simp; done) | (simp [*]; done))) rfl rfl rfl, rfl, ?_⟩)
        (refine ⟨_, _, _, a_offt (go_off rfl rfl rfl rfl (by first | rfl | assumption | (simp; done) | (simp [*]; done))) rfl rfl rfl, rfl, ?_⟩)
        (refine ⟨_, _, _, a_offt (go_off rfl rfl rfl rfl (by first | rfl | assumption | (simp; done) | (simp [*]; done))) rfl rfl rfl, rfl, ?_⟩)
        (refine ⟨_, _, _, a_offt (go_off rfl rfl rfl rfl (by first | rfl | assumption | (simp; done) | (simp [*]; done))) rfl rfl rfl, rfl, ?_⟩)
        (refine ⟨_, _, _, aPf (gN rfl) rfl rfl rfl rfl rfl ?hb rfl, rfl, ?_⟩; case hb => (first | rfl | assumption | (simp; done)))
        (refine nx (aM (gN rfl) rfl rfl rfl rfl rfl) rfl ?_)
        (refine nx (aM (gd_on rfl rfl rfl rfl (by first | rfl | assumption | (simp; done))) rfl rfl rfl rfl rfl) rfl ?_)
        (refine nx (a_eql (gd_on rfl rfl rfl rfl (by first | rfl | assumption | (simp; done))) rfl rfl rfl rfl rfl rfl) rfl ?_)
        (refine nx (aM (gd_on rfl rfl rfl rfl (by first | rfl | assumption | (simp; done))) rfl rfl rfl rfl rfl) rfl ?_)
        (refine nx (aM (gd_on rfl rfl rfl rfl (by first | rfl | assumption | (simp; done))) rfl rfl rfl rfl rfl) rfl ?_)
        (refine nx (aNc (gd_on rfl rfl rfl rfl (by first | rfl | assumption | (simp; done))) rfl rfl rfl rfl rfl) rfl ?_)
        (refine nx (aF (gd_on rfl rfl rfl rfl (by first | rfl | assumption | (simp; done))) rfl rfl rfl rfl rfl rfl rfl rfl rfl) rfl ?_)
        (refine nx (aLf (gd_on rfl rfl rfl rfl (by first | rfl | assumption | (simp; done))) rfl rfl rfl rfl rfl rfl rfl rfl rfl rfl rfl rfl rfl) rfl ?_)
        (refine nx (a_gtr (gd_on rfl rfl rfl rfl (by first | rfl | assumption | (simp; done))) rfl rfl rfl rfl rfl rfl) rfl ?_)
        (refine ⟨_, _, _, aPt (gd_on rfl rfl rfl rfl (by first | rfl | assumption | (simp; done))) rfl rfl rfl rfl rfl ?hb rfl, rfl, ?_⟩; case hb => (first | rfl | assumption | (simp; done)))
        (refine ⟨_, _, _, aPf (gN rfl) rfl rfl rfl rfl rfl ?hb rfl, rfl, ?_⟩; case hb => (first | rfl | assumption | (simp; done)))
        show AWp _ _ _ _ _ _ _
        refine aC rfl (fun hc => by rw [g] at hc; cases hc) (fun hc => aK ?_)
        show AWp _ _ _ _ _ _ _
        refine aS (aR ?_)
        (refine nx (aM (gN rfl) rfl rfl rfl rfl rfl) rfl ?_)
        (refine nx (aA (gN rfl) rfl rfl rfl rfl rfl) rfl ?_)
        show AWp _ _ _ _ _ _ _
        exact aT ⟨.inr rfl, _, Wk.refl _, rfl, rfl, rfl, rfl, rfl, rfl, rfl, trivial⟩
    · have g2 : decide (o = -1) = false := by simpa using h2
      rw [if_neg (by omega)]
      refine aS (aS (aR ?_))
      (refine nx (aM (gN rfl) rfl rfl rfl rfl rfl) rfl ?_)
      (refine nx (a_eql (gN rfl) rfl rfl rfl rfl rfl rfl) rfl ?_)
      (refine nx (aM (gN rfl) rfl rfl rfl rfl rfl) rfl ?_)
      (refine ⟨_, _, _, a_offt (go_off rfl rfl rfl rfl (by first | rfl | assumption | (simp; done) | (simp [*]; done))) rfl rfl rfl, rfl, ?_⟩)
      (refine ⟨_, _, _, a_offt (go_off rfl rfl rfl rfl (by first | rfl | assumption | (simp; done) | (simp [*]; done))) rfl rfl rfl, rfl, ?_⟩)
      (refine ⟨_, _, _, a_offt (go_off rfl rfl rfl rfl (by first | rfl | assumption | (simp; done) | (simp [*]; done))) rfl rfl rfl, rfl, ?_⟩)
      (refine ⟨_, _, _, a_offt (go_off rfl rfl rfl rfl (by first | rfl | assumption | (simp; done) | (simp [*]; done))) rfl rfl rfl, rfl, ?_⟩)
      (refine ⟨_, _, _, a_offt (go_off rfl rfl rfl rfl (by first | rfl | assumption | (simp; done) | (simp [*]; done))) rfl rfl rfl, rfl, ?_⟩)
      (refine ⟨_, _, _, aPf (gN rfl) rfl rfl rfl rfl rfl ?hb rfl, rfl, ?_⟩; case hb => (first | rfl | assumption | (simp; done)))
      (refine nx (aM (gN rfl) rfl rfl rfl rfl rfl) rfl ?_)
      (refine nx (aM (gd_on rfl rfl rfl rfl (by first | rfl | assumption | (simp; done))) rfl rfl rfl rfl rfl) rfl ?_)
      (refine nx (a_eql (gd_on rfl rfl rfl rfl (by first | rfl | assumption | (simp; done))) rfl rfl rfl rfl rfl rfl) rfl ?_)
      (refine nx (aM (gd_on rfl rfl rfl rfl (by first | rfl | assumption | (simp; done))) rfl rfl rfl rfl rfl) rfl ?_)
      (refine ⟨_, _, _, a_offt (go_off rfl rfl rfl rfl (by first | rfl | assumption | (simp; done) | (simp [*]; done))) rfl rfl rfl, rfl, ?_⟩)
      (refine ⟨_, _, _, a_offt (go_off rfl rfl rfl rfl (by first | rfl | assumption | (simp; done) | (simp [*]; done))) rfl rfl rfl, rfl, ?_⟩)
      (refine ⟨_, _, _, a_offt (go_off rfl rfl rfl rfl (by first | rfl | assumption | (simp; done) | (simp [*]; done))) rfl rfl rfl, rfl, ?_⟩)
      (refine ⟨_, _, _, a_offt (go_off rfl rfl rfl rfl (by first | rfl | assumption | (simp; done) | (simp [*]; done))) rfl rfl rfl, rfl, ?_⟩)
      (refine ⟨_, _, _, a_offt (go_off rfl rfl rfl rfl (by first | rfl | assumption | (simp; done) | (simp [*]; done))) rfl rfl rfl, rfl, ?_⟩)
      (refine ⟨_, _, _, aPf (gd_on rfl rfl rfl rfl (by first | rfl | assumption | (simp; done))) rfl rfl rfl rfl rfl ?hb rfl, rfl, ?_⟩; case hb => (first | rfl | assumption | (simp; done)))
      (refine ⟨_, _, _, aPf (gN rfl) rfl rfl rfl rfl rfl ?hb rfl, rfl, ?_⟩; case hb => (first | rfl | assumption | (simp; done)))
      show AWp _ _ _ _ _ _ _
      refine aC rfl (fun hc => by cases hc) (fun hc => aK ?_)
      show AWp _ _ _ _ _ _ _
      refine aS (aR ?_)
      (refine nx (aM (gN rfl) rfl rfl rfl rfl rfl) rfl ?_)
      (refine nx (aA (gN rfl) rfl rfl rfl rfl rfl) rfl ?_)
      show AWp _ _ _ _ _ _ _
      exact aT ⟨.inr rfl, _, Wk.refl _, rfl, rfl, rfl, rfl, rfl, rfl, rfl, trivial⟩
def orL : List Int → Int
  | [] => 0
  | x :: l => if x ≠ 0 then x else orL l
theorem orL_at : ∀ {l : List Int} {k : Nat} {x : Int}, l[k]? = some x → x ≠ 0 → (∀ j y, j < k → l[j]? = some y → y = 0) → orL l = x
  | [], k, x, h, _, _ => by simp at h
  | y :: l, 0, x, h, hx, _ => by
    simp at h
    subst h
    rw [orL, if_pos hx]
  | y :: l, k + 1, x, h, hx, hi => by
    rw [orL, if_neg (by have := hi 0 y (by omega) rfl; omega)]
    exact orL_at (by simpa using h) hx fun j z hj hz => hi (j + 1) z (by omega) (by simpa using hz)
theorem orL_none : ∀ {l : List Int}, (∀ x ∈ l, x = 0) → orL l = 0
  | [], _ => rfl
  | x :: l, h => by
    rw [orL, if_neg (by have := h x (by simp); omega)]
    exact orL_none fun y hy => h y (List.mem_cons_of_mem _ hy)
-- 
theorem cOr_abs (W : World) (l : List Int) (hl : l.length ≤ 1000000000) : AFun Tryz.prog W 149 [.lst (l.map CV.i)] (.val (.i (orL l))) := by
  have hsz := ints_size l
  refine afun_of (rs := [.i (orL l)]) Tryz.func149 Tryz.ntmps149 rfl rfl rfl rfl ?_
  intro w U hW
  refine aS (aR ?_)
  (refine nx (aA (gN rfl) rfl rfl rfl rfl rfl) rfl ?_)
  show AWp _ _ _ _ _ _ _
  refine aS (aR ?_)
  (refine nx (aA (gN rfl) rfl rfl rfl rfl rfl) rfl ?_)
  show AWp _ _ _ _ _ _ _
  refine aS (aS (aR ?_))
  (refine nx (aM (gN rfl) rfl rfl rfl rfl rfl) rfl ?_)
  (refine nx (a_len (gN rfl) rfl rfl rfl rfl rfl rfl rfl) rfl ?_)
  (refine nx (aM (gN rfl) rfl rfl rfl rfl rfl) rfl ?_)
  show AWp _ _ _ _ _ _ _
  refine aB (awp_countI l.length (fun k => ∀ j y, j < k → l[j]? = some y → y = 0) (fun k => [(3, .val (.i 0)), (6, .val (.lst (l.map CV.i))), (7, .val (.i (l.map CV.i).length)), (8, .val (.i k))]) (wk_sub ⟨rfl, rfl, rfl, rfl, trivial⟩) (fun j c hj => by omega) ?_)
  intro k hk hI
  refine aS (aR ?_)
  (refine nx (a_lss (gN rfl) rfl rfl rfl rfl rfl rfl) rfl ?_)
  show AWp _ _ _ _ _ _ _
  refine aS (aC rfl (fun hlt => ?_) (fun hlt => ?_))
  · have hkl : k < l.length := by simpa using hlt
    obtain ⟨x, hx⟩ : ∃ x, l[k]? = some x := ⟨l[k], List.getElem?_eq_getElem hkl⟩
    have hx' : (l.map CV.i)[k]? = some (CV.i x) := by rw [List.getElem?_map, hx]; rfl
    refine aK ?_
    show AWp _ _ _ _ _ _ _
    refine aS (aB (aS (aR ?_)))
    (refine nx (a_index (j := k) (gN rfl) rfl rfl rfl rfl rfl rfl rfl rfl rfl (hx') rfl (hsz)) rfl ?_)
    (refine nx (a_load_ad (gN rfl) rfl rfl rfl rfl rfl rfl rfl rfl rfl) rfl ?_)
    (refine nx (aA (gN rfl) rfl rfl rfl rfl rfl) rfl ?_)
    show AWp _ _ _ _ _ _ _
    refine aS (aR ?_)
    (refine nx (aM (gN rfl) rfl rfl rfl rfl rfl) rfl ?_)
    (refine nx (aM (gN rfl) rfl rfl rfl rfl rfl) rfl ?_)
    (refine nx (a_neq (gN rfl) rfl rfl rfl rfl rfl rfl) rfl ?_)
    show AWp _ _ _ _ _ _ _
    refine aC rfl (fun hq => ?_) (fun hq => ?_)
    · have hq : x ≠ 0 := by simpa using hq
      refine aS (aR ?_)
      (refine nx (aM (gN rfl) rfl rfl rfl rfl rfl) rfl ?_)
      (refine nx (aA (gN rfl) rfl rfl rfl rfl rfl) rfl ?_)
      show AWp _ _ _ _ _ _ _
      rw [orL_at hx hq hI]
      exact aT ⟨.inr rfl, rfl⟩
    · have hq : x = 0 := by simpa using hq
      refine aK ?_
      show AWp _ _ _ _ _ _ _
      refine aR ?_
      (refine nx (a_add (gN rfl) rfl rfl rfl rfl rfl rfl (by first | omega | (simp only [List.length_map, List.length_append, List.length_cons, List.length_nil] <;> omega) | (simp <;> omega))) rfl ?_)
      (refine nx (aM (gN rfl) rfl rfl rfl rfl rfl) rfl ?_)
      refine ⟨hkl, fun j c hj hc => ?_, wk_sub ⟨rfl, rfl, rfl, rfl, trivial⟩⟩
      rcases Nat.lt_or_ge j k with h | h
      · exact hI j c h hc
      · have : j = k := by omega
        subst this
        rw [hx] at hc
        cases hc
        exact hq
  · have hkl : ¬ k < l.length := by simpa using hlt
    rw [orL_none (l := l) fun x hx => ?_]
    · refine aE ?_
      show AWp _ _ _ _ _ _ _
      refine aS (aR ?_)
      (refine nx (aM (gN rfl) rfl rfl rfl rfl rfl) rfl ?_)
      (refine nx (aA (gN rfl) rfl rfl rfl rfl rfl) rfl ?_)
      show AWp _ _ _ _ _ _ _
      exact aT ⟨.inr rfl, rfl⟩
    · obtain ⟨j, hj⟩ := List.getElem?_of_mem hx
      have hjl : j < l.length := by
        rcases Nat.lt_or_ge j l.length with h | h
        · exact h
        · rw [List.getElem?_eq_none h] at hj; cases hj
      exact hI j x (by omega) hj
theorem hd_or {a b : Tm} (h : ¬ (a.f < 0 ∨ b.f < 0)) : hdK a b = orL [cmpZ a.f b.f, cmpZ a.l.length b.l.length] := by
  unfold hdK
  rw [if_neg h]
  simp only [orL]
  rcases cmpZ_cases a.f b.f with h1 | h1 | h1
  · rw [if_pos (by omega), if_pos (by omega)]
  · rw [if_neg (by omega), if_neg (by omega)]
    split
    · rfl
    · omega
  · rw [if_pos (by omega), if_pos (by omega)]
-- 
theorem kHeads_abs (W : World) (a b : Tm) : AFun Tryz.prog W 116 [a.cw, b.cw] (.val (.i (hdK a b))) := by
  refine afun_of (rs := [.i (hdK a b)]) Tryz.func116 Tryz.ntmps116 rfl rfl rfl rfl ?_
  intro w U hW
  refine aS (aR ?_)
  (refine nx (a_box (gN rfl) rfl rfl rfl rfl rfl) rfl ?_)
  (refine nx (a_box (gN rfl) rfl rfl rfl rfl rfl) rfl ?_)
  (refine nx (aA (gN rfl) rfl rfl rfl rfl rfl) rfl ?_)
  show AWp _ _ _ _ _ _ _
  by_cases ha : a.f < 0
  · have g : decide (a.f < 0) = true := by simpa using ha
    refine aS (aS (aR ?_))
    (refine nx (aL (gN rfl) rfl rfl rfl rfl rfl rfl rfl rfl rfl rfl rfl rfl) rfl ?_)
    (refine nx (a_call (gN rfl) rfl rfl rfl rfl rfl (kIsVar_abs w a)) rfl ?_)
    (refine nx (aM (gN rfl) rfl rfl rfl rfl rfl) rfl ?_)
    (refine ⟨_, _, _, a_off (go_off rfl rfl rfl rfl (by first | rfl | assumption | (simp; done) | (simp [*]; done))) rfl rfl rfl, rfl, ?_⟩)
    (refine ⟨_, _, _, a_off (go_off rfl rfl rfl rfl (by first | rfl | assumption | (simp; done) | (simp [*]; done))) rfl rfl rfl, rfl, ?_⟩)
    (refine ⟨_, _, _, aPt (gN rfl) rfl rfl rfl rfl rfl ?hb rfl, rfl, ?_⟩; case hb => (first | rfl | assumption | (simp; done)))
    show AWp _ _ _ _ _ _ _
    refine aC rfl (fun hc => ?_) (fun hc => by cases hc)
    unfold hdK
    rw [if_pos (.inl ha)]
    refine aS (aR ?_)
    (refine nx (aA (gN rfl) rfl rfl rfl rfl rfl) rfl ?_)
    show AWp _ _ _ _ _ _ _
    exact aT ⟨.inr rfl, rfl⟩
  have g : decide (a.f < 0) = false := by simpa using ha
  refine aS (aS (aR ?_))
  (refine nx (aL (gN rfl) rfl rfl rfl rfl rfl rfl rfl rfl rfl rfl rfl rfl) rfl ?_)
  (refine nx (a_call (gN rfl) rfl rfl rfl rfl rfl (kIsVar_abs w a)) rfl ?_)
  (refine nx (aM (gN rfl) rfl rfl rfl rfl rfl) rfl ?_)
  (refine nx (aL (gd_on rfl rfl rfl rfl (by first | rfl | assumption | (simp; done))) rfl rfl rfl rfl rfl rfl rfl rfl rfl rfl rfl rfl) rfl ?_)
  (refine nx (a_call (gd_on rfl rfl rfl rfl (by first | rfl | assumption | (simp; done))) rfl rfl rfl rfl rfl (kIsVar_abs w b)) rfl ?_)
  (refine ⟨_, _, _, aPf (gN rfl) rfl rfl rfl rfl rfl ?hb rfl, rfl, ?_⟩; case hb => (first | rfl | assumption | (simp; done)))
  show AWp _ _ _ _ _ _ _
  refine aC rfl (fun hc => ?_) (fun hc => ?_)
  · have hb : b.f < 0 := by simpa using hc
    unfold hdK
    rw [if_pos (.inr hb)]
    refine aS (aR ?_)
    (refine nx (aA (gN rfl) rfl rfl rfl rfl rfl) rfl ?_)
    show AWp _ _ _ _ _ _ _
    exact aT ⟨.inr rfl, rfl⟩
  · have hb : ¬ b.f < 0 := by simpa using hc
    rw [hd_or (by omega)]
    have e1 : (a.l.map Tm.cv).length = a.l.length := List.length_map ..
    have e2 : (b.l.map Tm.cv).length = b.l.length := List.length_map ..
    refine aK ?_
    show AWp _ _ _ _ _ _ _
    refine aS (aD (by kernel_rfl) (by kernel_rfl) ?_)
    (refine nx (aF (gN rfl) rfl rfl rfl rfl rfl rfl rfl rfl rfl) rfl ?_)
    (refine nx (aLb (gN rfl) rfl rfl rfl rfl rfl rfl rfl rfl rfl rfl rfl rfl) rfl ?_)
    (refine nx (aF (gN rfl) rfl rfl rfl rfl rfl rfl rfl rfl rfl) rfl ?_)
    (refine nx (aLb (gN rfl) rfl rfl rfl rfl rfl rfl rfl rfl rfl rfl rfl rfl) rfl ?_)
    (refine nx (a_call (gN rfl) rfl rfl rfl rfl rfl (cmp_abs w a.f b.f)) rfl ?_)
    (refine nx (aF (gN rfl) rfl rfl rfl rfl rfl rfl rfl rfl rfl) rfl ?_)
    (refine nx (aLb (gN rfl) rfl rfl rfl rfl rfl rfl rfl rfl rfl rfl rfl rfl) rfl ?_)
    (refine nx (a_len (gN rfl) rfl rfl rfl rfl rfl rfl rfl) rfl ?_)
    (refine nx (aF (gN rfl) rfl rfl rfl rfl rfl rfl rfl rfl rfl) rfl ?_)
    (refine nx (aLb (gN rfl) rfl rfl rfl rfl rfl rfl rfl rfl rfl rfl rfl rfl) rfl ?_)
    (refine nx (a_len (gN rfl) rfl rfl rfl rfl rfl rfl rfl) rfl ?_)
    (refine nx (a_call (gN rfl) rfl rfl rfl rfl rfl (cmp_abs w _ _)) rfl ?_)
    (refine nx (a_bslice (gN rfl) rfl rfl rfl rfl rfl rfl rfl rfl rfl rfl rfl rfl rfl) rfl ?_)
    (refine nx (a_call (gN rfl) rfl rfl rfl rfl rfl (cOr_abs w [_, _] (by simp))) rfl ?_)
    (refine nx (aA (gN rfl) rfl rfl rfl rfl rfl) rfl ?_)
    refine ⟨by kernel_rfl, ?_⟩
    show AWp _ _ _ _ _ _ _
    rw [e1, e2]
    exact aT ⟨.inr rfl, rfl⟩
def emp : Sc := ⟨0, [], 0, 0⟩
noncomputable def restS (c : Int) (s : Sc) (l m : List Tm) (r : Sc) : Sc := if c ≠ 0 then addL (-1) (addL 1 s l) m else r
noncomputable def scS (p : Tm) : Tm → Sc :=
  Tm.rec (motive_1 := fun _ => Tm → Sc) (motive_2 := fun _ => List Tm → Sc)
    (fun f l ih t => if f ≠ t.f ∨ (Tm.mk f l).ps.length ≠ t.ps.length then addT (-1) (addT 1 emp ⟨f, l⟩) t else if f < 0 then emp else ih t.l)
    (fun _ => emp)
    (fun x l ih1 ih2 ts => match ts with | [] => emp | t :: ts => restS (kb x t) (ih1 t) l ts (ih2 ts)) p
noncomputable def scs (ps : List Tm) : List Tm → Sc :=
  Tm.rec_1 (motive_1 := fun _ => Tm → Sc) (motive_2 := fun _ => List Tm → Sc)
    (fun f l ih t => if f ≠ t.f ∨ (Tm.mk f l).ps.length ≠ t.ps.length then addT (-1) (addT 1 emp ⟨f, l⟩) t else if f < 0 then emp else ih t.l)
    (fun _ => emp)
    (fun x l ih1 ih2 ts => match ts with | [] => emp | t :: ts => restS (kb x t) (ih1 t) l ts (ih2 ts)) ps
theorem scs_nil (m : List Tm) : scs [] m = emp := rfl
theorem scs_cons (x : Tm) (l : List Tm) (y : Tm) (m : List Tm) : scs (x :: l) (y :: m) = restS (kb x y) (scS x y) l m (scs l m) := rfl
theorem scS_ne {a b : Tm} (h : a.f ≠ b.f ∨ a.ps.length ≠ b.ps.length) : scS a b = addT (-1) (addT 1 emp a) b := by
  cases a
  show (if _ then _ else _) = _
  rw [if_pos h]
theorem scS_eq {a b : Tm} (h : ¬ (a.f ≠ b.f ∨ a.ps.length ≠ b.ps.length)) : scS a b = scs a.ps b.ps := by
  cases a with
  | mk f l =>
    show (if _ then _ else _) = _
    rw [if_neg h]
    by_cases hf : f < 0
    · rw [if_pos hf, Tm.ps_of_var (t := ⟨f, l⟩) hf, scs_nil]
    · rw [if_neg hf, Tm.ps_of_sym (t := ⟨f, l⟩) (by show 0 ≤ f; omega), Tm.ps_of_sym (t := b) (by have := Classical.not_not.1 (fun e => h (.inl e)); simp only at this; omega)]
      rfl
theorem scs_at : ∀ {l m : List Tm} {k : Nat} {x y : Tm}, l[k]? = some x → m[k]? = some y → kb x y ≠ 0 → (∀ j u v, j < k → l[j]? = some u → m[j]? = some v → kb u v = 0) → scs l m = addL (-1) (addL 1 (scS x y) (l.drop (k + 1))) (m.drop (k + 1)) ∧ kbs l m = kb x y
  | [], _, k, x, y, h, _, _, _ => by simp at h
  | _ :: _, [], k, x, y, _, h, _, _ => by simp at h
  | u :: l, v :: m, 0, x, y, h1, h2, hne, _ => by
    simp at h1 h2
    subst h1; subst h2
    rw [scs_cons, kbs_cons]
    unfold restS firstK
    rw [if_pos hne, if_pos hne]
    exact ⟨rfl, rfl⟩
  | u :: l, v :: m, k + 1, x, y, h1, h2, hne, hi => by
    have h0 := hi 0 u v (by omega) rfl rfl
    rw [scs_cons, kbs_cons]
    unfold restS firstK
    rw [if_neg (by omega), if_neg (by omega)]
    exact scs_at (by simpa using h1) (by simpa using h2) hne fun j u v hj hu hv => hi (j + 1) u v (by omega) (by simpa using hu) (by simpa using hv)
theorem scs_none : ∀ {l m : List Tm}, (∀ (j : Nat) u v, l[j]? = some u → m[j]? = some v → kb u v = 0) → scs l m = emp ∧ kbs l m = 0
  | [], _, _ => ⟨rfl, rfl⟩
  | _ :: _, [], _ => ⟨rfl, rfl⟩
  | u :: l, v :: m, hi => by
    have h0 := hi 0 u v rfl rfl
    rw [scs_cons, kbs_cons]
    unfold restS firstK
    rw [if_neg (by omega), if_neg (by omega)]
    exact scs_none fun j u v hu hv => hi (j + 1) u v (by simpa using hu) (by simpa using hv)
theorem emp_ss : Ss emp 0 fun _ => 0 := ⟨rfl, by simp [ndk, emp], rfl, rfl, fun _ => rfl⟩
theorem emp_bds : Bds emp 0 := ⟨by simp [emp], by simp [emp], by simp [emp], fun _ => by simp [emp, mget, mfind]⟩
def vD (a b : Tm) (v : Int) : Int := (a.vs.count v : Int) - b.vs.count v
theorem first_ne : ∀ (l m : List Tm), l.length = m.length → (∃ (k : Nat) (x y : Tm), l[k]? = some x ∧ m[k]? = some y ∧ kb x y ≠ 0 ∧ ∀ (j : Nat) u v, j < k → l[j]? = some u → m[j]? = some v → kb u v = 0) ∨ ∀ (j : Nat) u v, l[j]? = some u → m[j]? = some v → kb u v = 0
  | [], _, _ => .inr fun j u v h => by simp at h
  | _ :: _, [], h => by simp at h
  | u :: l, v :: m, h => by
    by_cases h0 : kb u v = 0
    · rcases first_ne l m (by simpa using h) with ⟨k, x, y, h1, h2, h3, h4⟩ | h1
      · left
        refine ⟨k + 1, x, y, by simpa using h1, by simpa using h2, h3, fun j u' v' hj hu hv => ?_⟩
        cases j with
        | zero => simp at hu hv; subst hu; subst hv; exact h0
        | succ j => exact h4 j u' v' (by omega) (by simpa using hu) (by simpa using hv)
      · right
        intro j u' v' hu hv
        cases j with
        | zero => simp at hu hv; subst hu; subst hv; exact h0
        | succ j => exact h1 j u' v' (by simpa using hu) (by simpa using hv)
    · left; exact ⟨0, u, v, rfl, rfl, h0, fun j u v hj => by omega⟩
theorem vs_take_same : ∀ {l m : List Tm} {k : Nat}, k ≤ l.length → l.length = m.length → (∀ j u v, j < k → l[j]? = some u → m[j]? = some v → kb u v = 0) → ((l.take k).flatMap Tm.flat).length = ((m.take k).flatMap Tm.flat).length ∧ (l.take k).flatMap Tm.vs = (m.take k).flatMap Tm.vs
  | _, _, 0, _, _, _ => by simp
  | [], _, k + 1, h, _, _ => by simp at h
  | _ :: _, [], k + 1, _, h, _ => by simp at h
  | u :: l, v :: m, k + 1, h, hl, hi => by
    have h0 := (kb_zero u v).1 (hi 0 u v (by omega) rfl rfl)
    obtain ⟨h1, h2⟩ := vs_take_same (l := l) (m := m) (k := k) (by simpa using h) (by simpa using hl) fun j u v hj hu hv => hi (j + 1) u v (by omega) (by simpa using hu) (by simpa using hv)
    have h3 : u.flat.length = v.flat.length := by have := congrArg Tm.size h0; rw [Tm.strip_size, Tm.strip_size] at this; exact this
    have h4 : u.vs = v.vs := by have := congrArg Tm.vs h0; rw [Tm.strip_vs, Tm.strip_vs] at this; exact this
    rw [List.take_succ_cons, List.take_succ_cons, List.flatMap_cons, List.flatMap_cons, List.flatMap_cons, List.flatMap_cons, List.length_append, List.length_append, h1, h2, h3, h4]
    exact ⟨rfl, rfl⟩
theorem split_len {l : List Tm} {k : Nat} {x : Tm} (h : l[k]? = some x) : (l.flatMap Tm.flat).length = ((l.take k).flatMap Tm.flat).length + (x.size + ((l.drop (k + 1)).flatMap Tm.flat).length) ∧ ∀ v, (l.flatMap Tm.vs).count v = ((l.take k).flatMap Tm.vs).count v + (x.vs.count v + ((l.drop (k + 1)).flatMap Tm.vs).count v) := by
  obtain ⟨h1, _⟩ := split_at h
  constructor
  · conv => lhs; rw [h1]
    rw [List.flatMap_append, List.flatMap_cons, List.length_append, List.length_append]
    rfl
  · intro v
    conv => lhs; rw [h1]
    rw [List.flatMap_append, List.flatMap_cons, List.count_append, List.count_append]
theorem scS_spec (a : Tm) : ∀ b, Bds (scS a b) (a.size + b.size) ∧ (kb a b = 0 → scS a b = emp) ∧ (kb a b ≠ 0 → Ss (scS a b) (szD a b) (vD a b)) := by
  induction a using Tm.indp with
  | h a ih =>
    intro b
    by_cases h : a.f ≠ b.f ∨ a.ps.length ≠ b.ps.length
    · rw [scS_ne h]
      have h1 : Bds (addT (-1) (addT 1 emp a) b) (0 + a.size + b.size) := (emp_bds.addT (.inl rfl)).addT (.inr rfl)
      refine ⟨by rw [Nat.zero_add] at h1; exact h1, fun h2 => ?_, fun _ => ?_⟩
      · rw [kb_eq, verd_zero] at h2
        unfold wi at h2
        rw [if_pos h] at h2
        exact absurd h2 (hd_ne h)
      · have h2 := (emp_ss.fold (σ := 1) (l := a.flat)).fold (σ := -1) (l := b.flat)
        refine ⟨?_, h2.nd, h2.sp, h2.lk, fun v => ?_⟩
        · refine h2.sz.trans ?_
          unfold szD Tm.size; omega
        · refine (h2.at_ v).trans ?_
          unfold vD Tm.vs; omega
    · rw [scS_eq h]
      have hw : wi a b = kbs a.ps b.ps := by unfold wi; rw [if_neg h]
      have hll : a.ps.length = b.ps.length := by omega
      rcases first_ne a.ps b.ps hll with ⟨k, x, y, h1, h2, h3, h4⟩ | h1
      · obtain ⟨e1, e2⟩ := scs_at h1 h2 h3 h4
        obtain ⟨b1, b2, b3⟩ := ih x (List.mem_of_getElem? h1) y
        have hk : k < a.ps.length := by
          rcases Nat.lt_or_ge k a.ps.length with h | h
          · exact h
          · rw [List.getElem?_eq_none h] at h1; cases h1
        obtain ⟨v1, v2⟩ := vs_take_same (Nat.le_of_lt hk) hll h4
        obtain ⟨l1, l2⟩ := split_len h1
        obtain ⟨m1, m2⟩ := split_len h2
        have sa := a.size_eq
        have sb := b.size_eq
        rw [e1]
        refine ⟨?_, fun h5 => ?_, fun h5 => ?_⟩
        · have hB := ((b1.addL (.inl rfl) (l := a.ps.drop (k + 1))).addL (.inr rfl) (l := b.ps.drop (k + 1)))
          obtain ⟨q1, q2, q3, q4⟩ := hB
          exact ⟨by omega, by omega, by omega, fun v => by have := q4 v; omega⟩
        · rw [kb_eq, verd_zero, hw, e2] at h5
          exact absurd h5 h3
        · have h6 := ((b3 h3).fold (σ := 1) (l := (a.ps.drop (k + 1)).flatMap Tm.flat)).fold (σ := -1) (l := (b.ps.drop (k + 1)).flatMap Tm.flat)
          refine ⟨?_, h6.nd, h6.sp, h6.lk, fun v => ?_⟩
          · refine h6.sz.trans ?_
            unfold szD; omega
          · refine (h6.at_ v).trans ?_
            rw [vsL_flatMap, vsL_flatMap]
            have p1 := l2 v
            have p2 := m2 v
            rw [← v2] at p2
            have hf : a.f = b.f := by omega
            have ha : a.vs = a.ps.flatMap Tm.vs := by
              by_cases hv : a.f < 0
              · rw [Tm.ps_of_var hv] at hk; simp at hk
              · rw [Tm.vs_sym hv, Tm.ps_of_sym (by omega)]
            have hb : b.vs = b.ps.flatMap Tm.vs := by
              by_cases hv : b.f < 0
              · rw [Tm.ps_of_var (t := a) (by omega)] at hk; simp at hk
              · rw [Tm.vs_sym hv, Tm.ps_of_sym (by omega)]
            unfold vD
            rw [ha, hb]
            omega
      · obtain ⟨e1, e2⟩ := scs_none h1
        rw [e1]
        refine ⟨?_, fun _ => rfl, fun h5 => ?_⟩
        · obtain ⟨q1, q2, q3, q4⟩ := emp_bds
          exact ⟨by omega, by omega, by omega, fun v => by have := q4 v; omega⟩
        · exfalso
          apply h5
          rw [kb_eq, verd_zero, hw, e2]
theorem ord_same (z w : Int) : (if z ≠ 0 then cmpZ z 0 else w) = ordV z w := by
  unfold ordV
  rcases cmpZ_cases z 0 with h | h | h
  · rw [if_pos (by omega), if_neg (by omega), if_pos (by omega), h.1]
  · rw [if_neg (by omega), if_neg (by omega), if_neg (by omega)]
  · rw [if_pos (by omega), if_pos (by omega), h.1]
theorem vd_spec {s : Sc} {a b : Tm} (h : Ss s (szD a b) (vD a b)) {w : Int} (hw : w ≠ 0) : vdS s w = verd (szD a b) (cov a b) (cov b a) w := by
  have h1 : 0 < s.lk ↔ ¬ cov a b := by
    obtain ⟨d1, d2⟩ := dns_zero h.nd
    rw [h.lk]
    have : dnS s.mp = 0 ↔ cov a b := by
      rw [d2]
      unfold cov
      constructor
      · intro h2 v; have := h2 v; rw [h.at_] at this; unfold vD at this; omega
      · intro h2 v; have := h2 v; rw [h.at_]; unfold vD; omega
    rw [← this]; omega
  have h2 : 0 < s.sp ↔ ¬ cov b a := by
    obtain ⟨d1, d2⟩ := ups_zero h.nd
    rw [h.sp]
    have : upS s.mp = 0 ↔ cov b a := by
      rw [d2]
      unfold cov
      constructor
      · intro h2 v; have := h2 v; rw [h.at_] at this; unfold vD at this; omega
      · intro h2 v; have := h2 v; rw [h.at_]; unfold vD; omega
    rw [← this]; omega
  unfold vdS verd pickV ordS
  rw [if_neg hw, h.sz, ord_same]
  by_cases h3 : (ordV (szD a b) w = 1 ∧ ¬ cov a b) ∨ (ordV (szD a b) w = -1 ∧ ¬ cov b a)
  · rw [if_pos h3, if_pos (by rw [h1, h2]; exact h3)]
  · rw [if_neg h3, if_neg (by rw [h1, h2]; exact h3)]
end Go.Proofs.YteegmcfobgpemaaGreat
