/-
  UnFns10 SmFns SmMath SmSym SmSym2 SmSym3
-/
import Derived.Test.YtglmoficcjphaaaGreatMg7
import Derived.Test.YtglmoficcjphaaaGreatMg6
import Derived.Test.YtglmoficcjphaaaGreatMg4
namespace Go.Proofs.YtglmoficcjphaaaGreat
open Go.RowKit
set_option linter.unusedVariables false
set_option linter.unusedSimpArgs false
set_option maxRecDepth 100000
noncomputable abbrev cstS (b ck : Nat) (bs : List Nat) (c : Cl) : AS := [(450001, .obj), (35500100, .sl 400001 0 c.ns.length 5), (35500101, .mref 300003), (35500102, .sl 300002 0 c.ps.length 2), (400001, .mrow 140 5 (c.ns.map Nd.cv)), (300003, .stm (c.vr.map vrv) b ck bs), (300002, .mrow 164 2 (c.ps.map psv))]
-- 
set_option maxHeartbeats 2000000 in
theorem uHeadS_abs (b ck : Nat) (bs : List Nat) (vr : List (Int × Nat)) (ps : List (Nat × Nat)) (k : Nat) (ns : List Nd) (n : Nat) (r : List Nd × Nat) (hc : headC k ns n = some r) (hup : upOk ns) (hn : n < ns.length) (hl : ns.length ≤ 1000000) : AFunO Tryz.prog 105 (cstS b ck bs ⟨ns, vr, ps⟩) [.bp 350001 0 [], .val (.i (n : Int))] (.val (.i (r.2 : Int))) (cstS b ck bs ⟨r.1, vr, ps⟩) := by
  refine afunO_of Tryz.func105 Tryz.ntmps105 rfl rfl rfl rfl rfl rfl ?_
  intro w U hU
  refine aS (aR ?_)
  (refine nx (aA (gN rfl) rfl rfl rfl rfl rfl) rfl ?_)
  show AWp _ _ _ _ _ _ _
  refine aS (aB (awp_loop (fun j s => ∃ ns n, headC j ns n = some r ∧ upOk ns ∧ n < ns.length ∧ ns.length ≤ 1000000 ∧ s = (0, AV.bp 350001 0 []) :: (1, .val (.i (n : Int))) :: cstS b ck bs ⟨ns, vr, ps⟩) (n := k) (s' := (0, AV.bp 350001 0 []) :: (1, .val (.i (n : Int))) :: cstS b ck bs ⟨ns, vr, ps⟩) (wk_sub ⟨rfl, rfl, rfl, rfl, rfl, rfl, rfl, rfl, rfl, trivial⟩) ⟨ns, n, hc, hup, hn, hl, rfl⟩ ?_))
  rintro j s ⟨ns, n, hc, hup, hn, hl, rfl⟩
  cases j with
  | zero => cases hc
  | succ j =>
  rw [headC] at hc
  obtain ⟨x, hx⟩ := nd_at hn
  have hx' := Nd.map_at hx
  have hxu : nU ns n = x.up := by unfold nU; rw [getD_at hx]
  have hlm : (ns.map Nd.cv).length = ns.length := List.length_map ..
  refine aS (aS (aR ?_))
  (refine nx (aM (gN rfl) rfl rfl rfl rfl rfl) rfl ?_)
  (refine nx (aNc (gN rfl) rfl rfl rfl rfl rfl) rfl ?_)
  (refine nx (aF (gN rfl) rfl rfl rfl rfl rfl rfl rfl rfl rfl) rfl ?_)
  (refine nx (aLf (gN rfl) rfl rfl rfl rfl rfl rfl rfl rfl rfl rfl rfl rfl rfl) rfl ?_)
  (refine nx (aM (gN rfl) rfl rfl rfl rfl rfl) rfl ?_)
  (refine nx (aIm (k := n) (gN rfl) rfl rfl rfl rfl rfl rfl rfl rfl rfl (by first | rfl | omega | (simp only [List.length_set, List.length_map, List.length_append, List.length_cons, List.length_nil] <;> omega) | (simp <;> omega))) rfl ?_)
  (refine nx (a_fieldM (gN rfl) rfl rfl rfl rfl rfl rfl rfl rfl rfl) rfl ?_)
  (refine nx (a_loadM (gN rfl) rfl rfl rfl rfl rfl rfl rfl rfl (hx') rfl (by first | rfl | omega | (simp only [List.length_set, List.length_map, List.length_append, List.length_cons, List.length_nil] <;> omega) | (simp <;> omega)) rfl rfl) rfl ?_)
  (refine nx (aM (gN rfl) rfl rfl rfl rfl rfl) rfl ?_)
  (refine nx (a_neq (gN rfl) rfl rfl rfl rfl rfl rfl) rfl ?_)
  show AWp _ _ _ _ _ _ _
  refine aC rfl (fun hne => ?_) (fun hne => ?_)
  · have hne : x.up ≠ n := by
      intro e
      rw [e] at hne
      simp at hne
    rw [if_neg (by rw [hxu]; exact hne)] at hc
    have hy0 : x.up < ns.length := by rw [← hxu]; exact hup n hn
    obtain ⟨y, hy⟩ := nd_at hy0
    have hy' := Nd.map_at hy
    have hyu : nU ns (nU ns n) = y.up := by rw [hxu]; unfold nU; rw [getD_at hy]
    rw [hyu] at hc
    have hyl : y.up < ns.length := by rw [← hyu]; exact hup _ (by rw [hxu]; exact hy0)
    refine aK ?_
    show AWp _ _ _ _ _ _ _
    refine aB (aS (aD (by kernel_rfl) (by kernel_rfl) ?_))
    (refine nx (aM (gN rfl) rfl rfl rfl rfl rfl) rfl ?_)
    (refine nx (aNc (gN rfl) rfl rfl rfl rfl rfl) rfl ?_)
    (refine nx (aF (gN rfl) rfl rfl rfl rfl rfl rfl rfl rfl rfl) rfl ?_)
    (refine nx (aLf (gN rfl) rfl rfl rfl rfl rfl rfl rfl rfl rfl rfl rfl rfl rfl) rfl ?_)
    (refine nx (aM (gN rfl) rfl rfl rfl rfl rfl) rfl ?_)
    (refine nx (aM (gN rfl) rfl rfl rfl rfl rfl) rfl ?_)
    (refine nx (aNc (gN rfl) rfl rfl rfl rfl rfl) rfl ?_)
    (refine nx (aF (gN rfl) rfl rfl rfl rfl rfl rfl rfl rfl rfl) rfl ?_)
    (refine nx (aLf (gN rfl) rfl rfl rfl rfl rfl rfl rfl rfl rfl rfl rfl rfl rfl) rfl ?_)
    (refine nx (aM (gN rfl) rfl rfl rfl rfl rfl) rfl ?_)
    (refine nx (aNc (gN rfl) rfl rfl rfl rfl rfl) rfl ?_)
    (refine nx (aF (gN rfl) rfl rfl rfl rfl rfl rfl rfl rfl rfl) rfl ?_)
    (refine nx (aLf (gN rfl) rfl rfl rfl rfl rfl rfl rfl rfl rfl rfl rfl rfl rfl) rfl ?_)
    (refine nx (aM (gN rfl) rfl rfl rfl rfl rfl) rfl ?_)
    (refine nx (aIm (k := n) (gN rfl) rfl rfl rfl rfl rfl rfl rfl rfl rfl (by first | rfl | omega | (simp only [List.length_set, List.length_map, List.length_append, List.length_cons, List.length_nil] <;> omega) | (simp <;> omega))) rfl ?_)
    (refine nx (a_fieldM (gN rfl) rfl rfl rfl rfl rfl rfl rfl rfl rfl) rfl ?_)
    (refine nx (a_loadM (gN rfl) rfl rfl rfl rfl rfl rfl rfl rfl (hx') rfl (by first | rfl | omega | (simp only [List.length_set, List.length_map, List.length_append, List.length_cons, List.length_nil] <;> omega) | (simp <;> omega)) rfl rfl) rfl ?_)
    (refine nx (aIm (k := x.up) (gN rfl) rfl rfl rfl rfl rfl rfl rfl rfl rfl (by first | rfl | omega | (simp only [List.length_set, List.length_map, List.length_append, List.length_cons, List.length_nil] <;> omega) | (simp <;> omega))) rfl ?_)
    (refine nx (a_fieldM (gN rfl) rfl rfl rfl rfl rfl rfl rfl rfl rfl) rfl ?_)
    (refine nx (a_loadM (gN rfl) rfl rfl rfl rfl rfl rfl rfl rfl (hy') rfl (by first | rfl | omega | (simp only [List.length_set, List.length_map, List.length_append, List.length_cons, List.length_nil] <;> omega) | (simp <;> omega)) rfl rfl) rfl ?_)
    (refine nx (aIm (k := n) (gN rfl) rfl rfl rfl rfl rfl rfl rfl rfl rfl (by first | rfl | omega | (simp only [List.length_set, List.length_map, List.length_append, List.length_cons, List.length_nil] <;> omega) | (simp <;> omega))) rfl ?_)
    (refine nx (a_fieldM (gN rfl) rfl rfl rfl rfl rfl rfl rfl rfl rfl) rfl ?_)
    (refine nx (a_storeM (gN rfl) rfl rfl rfl rfl rfl rfl (hx') rfl rfl (by first | rfl | omega | (simp only [List.length_set, List.length_map, List.length_append, List.length_cons, List.length_nil] <;> omega) | (simp <;> omega)) rfl) rfl ?_)
    refine ⟨by kernel_rfl, ?_⟩
    show AWp _ _ _ _ _ _ _
    obtain ⟨ns1, h1⟩ : ∃ ns1, ns1 = setUp ns n y.up := ⟨_, rfl⟩
    have hm1 : ns1.map Nd.cv = (ns.map Nd.cv).set n (Nd.cw { x with up := y.up }) := by rw [h1]; exact map_setUp hx
    have hl1 : ns1.length = ns.length := by rw [h1, setUpLen]
    have hx1 : ns1[n]? = some { x with up := y.up } := by rw [h1]; exact setUp_at hx
    have hx1' := Nd.map_at hx1
    have hxu1 : nU ns1 n = y.up := by unfold nU; rw [getD_at hx1]
    rw [← h1, hxu1] at hc
    have hlm1 : (ns1.map Nd.cv).length = ns1.length := List.length_map ..
    refine AWp.wk (wk_sub (s' := (0, AV.bp 350001 0 []) :: (1, .val (.i (n : Int))) :: cstS b ck bs ⟨ns1, vr, ps⟩) ⟨rfl, rfl, rfl, ?_, rfl, rfl, ?_, rfl, rfl, trivial⟩) ?_
    · show _ = some (AV.sl 400001 0 ns1.length 5); rw [hl1]; rfl
    · show _ = some (AV.mrow 140 5 (ns1.map Nd.cv)); rw [hm1]; rfl
    refine aR ?_
    (refine nx (aM (gN rfl) rfl rfl rfl rfl rfl) rfl ?_)
    (refine nx (aNc (gN rfl) rfl rfl rfl rfl rfl) rfl ?_)
    (refine nx (aF (gN rfl) rfl rfl rfl rfl rfl rfl rfl rfl rfl) rfl ?_)
    (refine nx (aLf (gN rfl) rfl rfl rfl rfl rfl rfl rfl rfl rfl rfl rfl rfl rfl) rfl ?_)
    (refine nx (aM (gN rfl) rfl rfl rfl rfl rfl) rfl ?_)
    (refine nx (aIm (k := n) (gN rfl) rfl rfl rfl rfl rfl rfl rfl rfl rfl (by first | rfl | omega | (simp only [List.length_set, List.length_map, List.length_append, List.length_cons, List.length_nil] <;> omega) | (simp <;> omega))) rfl ?_)
    (refine nx (a_fieldM (gN rfl) rfl rfl rfl rfl rfl rfl rfl rfl rfl) rfl ?_)
    (refine nx (a_loadM (gN rfl) rfl rfl rfl rfl rfl rfl rfl rfl (hx1') rfl (by first | rfl | omega | (simp only [List.length_set, List.length_map, List.length_append, List.length_cons, List.length_nil] <;> omega) | (simp <;> omega)) rfl rfl) rfl ?_)
    (refine nx (aA (gN rfl) rfl rfl rfl rfl rfl) rfl ?_)
    exact ⟨j, (0, AV.bp 350001 0 []) :: (1, .val (.i (y.up : Int))) :: cstS b ck bs ⟨ns1, vr, ps⟩, by omega, ⟨ns1, y.up, hc, by rw [h1]; exact hup.set hyl, by rw [hl1]; exact hyl, by rw [hl1]; exact hl, rfl⟩, wk_sub ⟨rfl, rfl, rfl, rfl, rfl, rfl, rfl, rfl, rfl, trivial⟩⟩
  · have hne : x.up = n := by
      have := of_decide_eq_false hne
      simp only [ne_eq, Decidable.not_not] at this
      omega
    rw [if_pos (by rw [hxu]; exact hne)] at hc
    cases hc
    refine aE ?_
    show AWp _ _ _ _ _ _ _
    refine aS (aR ?_)
    (refine nx (aM (gN rfl) rfl rfl rfl rfl rfl) rfl ?_)
    (refine nx (aA (gN rfl) rfl rfl rfl rfl rfl) rfl ?_)
    show AWp _ _ _ _ _ _ _
    exact aT ⟨.inr rfl, _, Wk.refl _, rfl, rfl, rfl, rfl, rfl, rfl, rfl, rfl, trivial⟩

def bindL (vr : List (Int × Nat)) (g : Nat → Tm) (js : List Nat) : List Bd := js.map fun j => ⟨(vr.getD j (0, 0)).1, g (vr.getD j (0, 0)).2⟩
theorem nodup_at {l : List Nat} (h : l.Nodup) : ∀ {i j x : Nat}, l[i]? = some x → l[j]? = some x → i = j := by
  induction l with
  | nil => intro i j x h1; simp at h1
  | cons y l ih =>
    intro i j x h1 h2
    rw [List.nodup_cons] at h
    cases i with
    | zero =>
      cases j with
      | zero => rfl
      | succ j =>
        simp at h1 h2
        subst h1
        exact absurd (List.mem_of_getElem? h2) h.1
    | succ i =>
      cases j with
      | zero =>
        simp at h1 h2
        subst h2
        exact absurd (List.mem_of_getElem? h1) h.1
      | succ j =>
        simp at h1 h2
        rw [ih h.2 h1 h2]
theorem perm_range {n : Nat} {js : List Nat} (hn : js.Nodup) (hl : ∀ j ∈ js, j < n) (ha : ∀ j, j < n → j ∈ js) : js.Perm (List.range n) :=
  (List.perm_ext_iff_of_nodup hn List.nodup_range).2 fun j => by
    rw [List.mem_range]
    exact ⟨hl j, ha j⟩
theorem nodup_leB {n : Nat} {l : List Nat} (hn : l.Nodup) (hl : ∀ j ∈ l, j < n) : l.length ≤ n := by
  have h : l.Perm ((List.range n).filter fun x => decide (x ∈ l)) := (List.perm_ext_iff_of_nodup hn (List.nodup_range.filter _)).2 fun x => by
    rw [List.mem_filter, List.mem_range, decide_eq_true_eq]
    exact ⟨fun h => ⟨hl x h, h⟩, fun h => h.2⟩
  have h2 := List.length_filter_le (fun x => decide (x ∈ l)) (List.range n)
  rw [h.length_eq]
  rw [List.length_range] at h2
  exact h2
theorem bindL_perm {vr : List (Int × Nat)} {g : Nat → Tm} {js : List Nat} (h : js.Perm (List.range vr.length)) : ∃ vr' : List (Int × Nat), vr'.Perm vr ∧ bindL vr g js = vr'.map fun p => (⟨p.1, g p.2⟩ : Bd) := by
  refine ⟨js.map fun j => vr.getD j (0, 0), ?_, by unfold bindL; rw [List.map_map]; rfl⟩
  refine (h.map _).trans ?_
  have : (List.range vr.length).map (fun j => vr.getD j (0, 0)) = vr := by
    apply List.ext_getElem?
    intro i
    rw [List.getElem?_map]
    rcases Nat.lt_or_ge i vr.length with hi | hi
    · rw [List.getElem?_range hi, Option.map_some, List.getD_eq_getElem?_getD, List.getElem?_eq_getElem hi]; rfl
    · rw [List.getElem?_eq_none (by simpa using hi), List.getElem?_eq_none hi]; rfl
  rw [this]
-- 
set_option maxHeartbeats 8000000 in
theorem uBind_abs (fu : Nat) (c0 : Cl) (od : List Nat) (q : Cl × List Tm) (hq : termsC fu od.reverse c0 (List.replicate c0.ns.length tm0) = some q) (hF : FitU c0) (hlq : q.1.ns.length = c0.ns.length) (hod : ∀ n ∈ od, n < c0.ns.length) (hol : od.length ≤ 1000) {H r : Nat → Nat} {E} (hC : ClsC q.1 H r E) (hFq : FitU q.1) (hvr : vrOk q.1.vr) (hvl : q.1.vr.length ≤ 100000) :
    AFunE (Sg := List Bd × Cl) Tryz.prog 73 (cstM c0) [.bp 350001 0 [], .val (intsV od)] (fun σ => ∃ vr' : List (Int × Nat), vr'.Perm q.1.vr ∧ σ.1 = vr'.map fun p => (⟨p.1, q.2.getD (H p.2) tm0⟩ : Bd)) (fun σ => .val (.lst (σ.1.map Bd.cv))) (fun σ => cstM σ.2) := by
  have hterms := uTerms_abs fu c0 od q hq hF hlq hod hol
  have hout : q.2.length = c0.ns.length := (TI.all (t := (c0, List.replicate c0.ns.length tm0)) (N := c0.ns.length) ⟨hF, by simp, Nat.le_refl _⟩ (fun n hn => hod n (List.mem_reverse.1 hn)) hq).1.out
  obtain ⟨N, hN⟩ : ∃ N, N = c0.ns.length := ⟨_, rfl⟩
  have hNl : N ≤ 1000 := by rw [hN]; exact Nat.le_trans (len_pw _) hF.big
  rw [← hN] at hterms hlq hout
  obtain ⟨c, out⟩ := q
  simp only at hC hFq hvr hvl hlq hout hterms ⊢
  obtain ⟨ns0, vr, ps⟩ := c
  simp only at hC hFq hvr hvl hlq hout hterms ⊢
  have hvm : ∀ (j : Nat) (p : Int × Nat), vr[j]? = some p → p.2 < N := fun j p hp => by
    have := (lookV_iff hvr.1 (v := p.1) (m := p.2)).2 (List.mem_of_getElem? hp)
    have := (hC.vrt p.1 p.2 this).1
    simp only at this
    omega
  have hlv : (vr.map vrv).length = vr.length := List.length_map ..
  refine afunE_of Tryz.func73 Tryz.ntmps73 rfl rfl rfl rfl rfl (fun σ => rfl) ?_
  intro w U hU
  refine aS (aR ?_)
  (refine nx (aA (gN rfl) rfl rfl rfl rfl rfl) rfl ?_)
  show AWp _ _ _ _ _ _ _
  refine aS (aR ?_)
  (refine nx (aM (gN rfl) rfl rfl rfl rfl rfl) rfl ?_)
  (refine nx (aM (gN rfl) rfl rfl rfl rfl rfl) rfl ?_)
  (refine nx (a_callO (gN rfl) rfl rfl rfl rfl rfl (hterms) (by repeat (first | exact trivial | refine ⟨rfl, ?_⟩)) (by first | rfl | kernel_rfl) (by first | rfl | kernel_rfl) (by first | rfl | kernel_rfl) (by first | rfl | kernel_rfl) (hnb_of (by first | rfl | kernel_rfl))) rfl ?_)
  (refine nx (aA (gN rfl) rfl rfl rfl rfl rfl) rfl ?_)
  show AWp _ _ _ _ _ _ _
  refine aS (aR ?_)
  (refine nx (aM (gN rfl) rfl rfl rfl rfl rfl) rfl ?_)
  (refine nx (aNc (gN rfl) rfl rfl rfl rfl rfl) rfl ?_)
  (refine nx (aF (gN rfl) rfl rfl rfl rfl rfl rfl rfl rfl rfl) rfl ?_)
  (refine nx (aLf (gN rfl) rfl rfl rfl rfl rfl rfl rfl rfl rfl rfl rfl rfl rfl) rfl ?_)
  (refine nx (a_lenMp (gN rfl) rfl rfl rfl rfl rfl rfl rfl rfl) rfl ?_)
  (refine nx (a_mk0 200017 (k := (vr.map vrv).length) (gN rfl) rfl rfl rfl rfl rfl rfl rfl rfl rfl rfl rfl rfl (by first | rfl | omega | (simp only [List.length_set, List.length_map, List.length_append, List.length_cons, List.length_nil] <;> omega) | (simp <;> omega)) (by first | rfl | omega | (simp only [List.length_set, List.length_map, List.length_append, List.length_cons, List.length_nil] <;> omega) | (simp <;> omega))) (by kernel_rfl) ?_)
  (refine nx (aA (gN rfl) rfl rfl rfl rfl rfl) rfl ?_)
  show AWp _ _ _ _ _ _ _
  refine AWp.wk ((wk_sub (s' := (0, AV.bp 350001 0 []) :: (5, .sl 300005 0 N 2) :: (6, .sl 200017 0 0 3) :: (200017, .mrow 99 3 []) :: (300005, .mrow 42 2 (out.map Tm.cv)) :: cstM ⟨ns0, vr, ps⟩) ⟨rfl, rfl, rfl, rfl, rfl, rfl, rfl, rfl, rfl, rfl, rfl, rfl, trivial⟩).trans (wk_renF 300001 400001 rfl rfl (hUno hU (by kernel_rfl)) (by kernel_rfl) (by kernel_rfl) (by kernel_rfl))) ?_
  refine AWp.stamps 300003 (l := vr.map vrv) rfl rfl fun b ck bs hbl hbn hbc => ?_
  rw [hlv] at hbl
  refine aS (aS (aR ?_))
  (refine nx (aM (gN rfl) rfl rfl rfl rfl rfl) rfl ?_)
  (refine nx (aNc (gN rfl) rfl rfl rfl rfl rfl) rfl ?_)
  (refine nx (aF (gN rfl) rfl rfl rfl rfl rfl rfl rfl rfl rfl) rfl ?_)
  (refine nx (aLf (gN rfl) rfl rfl rfl rfl rfl rfl rfl rfl rfl rfl rfl rfl rfl) rfl ?_)
  (refine nx (a_rangeM 300022 (gN rfl) rfl rfl rfl rfl rfl rfl rfl rfl) (by kernel_rfl) ?_)
  show AWp _ _ _ _ _ _ _
  obtain ⟨g, hg⟩ : ∃ g : Nat → Tm, g = fun m => out.getD (H m) tm0 := ⟨_, rfl⟩
  obtain ⟨st, hst⟩ : ∃ st : List Nat → List Nd → AS, st = fun js ns1 => (0, AV.bp 350001 0 []) :: (5, .sl 300005 0 N 2) :: (6, .sl 200017 0 js.length 3) :: (22, .mref 300022) :: (300022, .itr b ck ck (js.map fun j => bs.getD j 0)) :: (200017, .mrow 99 3 ((bindL vr g js).map Bd.cv)) :: (300005, .mrow 42 2 (out.map Tm.cv)) :: cstS b ck bs ⟨ns1, vr, ps⟩ := ⟨_, rfl⟩
  refine aB (awp_loop (fun m s => ∃ js ns1, m + js.length = vr.length ∧ js.Nodup ∧ (∀ j ∈ js, j < vr.length) ∧ ClsC ⟨ns1, vr, ps⟩ H r E ∧ FitU ⟨ns1, vr, ps⟩ ∧ ns1.length = N ∧ s = st js ns1) (n := vr.length) (s' := st [] ns0) (by rw [hst]; exact wk_sub ⟨rfl, rfl, rfl, rfl, rfl, rfl, rfl, rfl, rfl, rfl, rfl, rfl, rfl, rfl, trivial⟩) ⟨[], ns0, rfl, List.nodup_nil, (fun j hj => by cases hj), hC, hFq, hlq, rfl⟩ ?_)
  rintro m s ⟨js, ns1, hm, hjn, hjl, hC1, hF1, hl1, rfl⟩
  rw [hst]
  refine aS (awp_nextM (n := 300003) (k := .i64) rfl rfl rfl rfl rfl rfl rfl rfl rfl (vr_keys vr) hbc (Nat.le_refl _) (fun hall => ?_) (fun j x i vc hj hl hx => ?_))
  · refine ⟨_, _, _, aX (gN rfl) rfl rfl rfl rfl rfl rfl, (by first | rfl | kernel_rfl), ?_⟩
    show AWp _ _ _ _ _ _ _
    refine aS (aC rfl (fun hc => by cases hc) (fun _ => aE ?_))
    show AWp _ _ _ _ _ _ _
    have hcov : ∀ j, j < vr.length → j ∈ js := fun j hj => by
      have hjb : j < bs.length := by omega
      have h1 := hall (bs[j]) (List.getElem_mem hjb)
      obtain ⟨j', h2, h3⟩ := List.mem_map.1 h1
      have hj' := hjl j' h2
      have hjb' : j' < bs.length := by omega
      rw [List.getD_eq_getElem?_getD, List.getElem?_eq_getElem hjb'] at h3
      have h3 : bs[j'] = bs[j] := h3
      have := nodup_at hbn (List.getElem?_eq_getElem hjb') (by rw [h3]; exact List.getElem?_eq_getElem hjb)
      rw [← this]; exact h2
    obtain ⟨vr', hp, hb⟩ := bindL_perm (g := g) (perm_range hjn hjl hcov)
    have hbl2 : ((bindL vr g js).map Bd.cv).length = js.length := by rw [List.length_map]; unfold bindL; rw [List.length_map]
    refine AWp.wk (wk_frz 6 200017 rfl rfl rfl (.inr (by decide)) (by rw [hbl2]; omega) (s' := cstS b ck bs ⟨ns1, vr, ps⟩) ⟨rfl, rfl, rfl, rfl, rfl, rfl, rfl, trivial⟩ (by kernel_rfl)) ?_
    rw [List.drop_zero, List.take_of_length_le (by rw [hbl2]; omega)]
    refine aS (aR ?_)
    (refine nx (aM (gN rfl) rfl rfl rfl rfl rfl) rfl ?_)
    (refine nx (aA (gN rfl) rfl rfl rfl rfl rfl) rfl ?_)
    show AWp _ _ _ _ _ _ _
    refine aT ⟨.inr rfl, (bindL vr g js, ⟨ns1, vr, ps⟩), ⟨vr', hp, by rw [hb, hg]⟩, _, ((wk_sub (s' := (4, AV.val (.lst ((bindL vr g js).map Bd.cv))) :: cstS b ck bs ⟨ns1, vr, ps⟩) ⟨rfl, rfl, rfl, rfl, rfl, rfl, rfl, rfl, trivial⟩).trans (wk_unstm 300003 rfl rfl)).trans ((wk_sub (s' := (4, AV.val (.lst ((bindL vr g js).map Bd.cv))) :: cstF ⟨ns1, vr, ps⟩) ⟨rfl, rfl, rfl, rfl, rfl, rfl, rfl, rfl, trivial⟩).trans (wk_renF 400001 300001 rfl rfl (hUlow U (by decide)) (by kernel_rfl) (by kernel_rfl) (by kernel_rfl))), rfl, rfl, rfl, rfl, rfl, rfl, rfl, rfl, trivial⟩
  · refine ⟨_, _, _, aX (gN rfl) rfl rfl rfl rfl rfl rfl, (by first | rfl | kernel_rfl), ?_⟩
    show AWp _ _ _ _ _ _ _
    refine aS (aC rfl (fun _ => aK ?_) (fun hc => by cases hc))
    show AWp _ _ _ _ _ _ _
    have hjl2 : j < vr.length := by
      rcases Nat.lt_or_ge j bs.length with h | h
      · omega
      · rw [List.getElem?_eq_none h] at hj; cases hj
    obtain ⟨p, hp⟩ : ∃ p, vr[j]? = some p := ⟨vr[j], List.getElem?_eq_getElem hjl2⟩
    have hpi : i = p.1 ∧ vc = .i (p.2 : Int) := by
      rw [List.getElem?_map, hp] at hl
      have hl : some (CV.row [.i p.1, .i (p.2 : Int)]) = some (.row [.sc (.int .i64 i), vc]) := hl
      injection hl with hl
      injection hl with _ _ hl
      injection hl with hl hl'
      injection hl' with hl'
      injection hl with _ hl
      injection hl with _ hl
      exact ⟨hl.symm, hl'.symm⟩
    obtain ⟨rfl, rfl⟩ := hpi
    have hpN := hvm j p hp
    obtain ⟨ns2, hd, hC2, hl2, _⟩ := ClsC.head (r p.2 + 1) hC1 (n := p.2) (by omega) (by omega)
    obtain ⟨hF2, _, hr2⟩ := FitU.head hF1 (by omega) hd
    have hHN : H p.2 < N := by have : H p.2 < ns1.length := hr2; omega
    have hdc := uHeadS_abs b ck bs vr ps (r p.2 + 1) ns1 p.2 (ns2, H p.2) hd hF1.up (by omega) (by omega)
    obtain ⟨z, hz⟩ : ∃ z, out[H p.2]? = some z := ⟨out[H p.2]'(by omega), List.getElem?_eq_getElem (by omega)⟩
    have hz' := Tm.map_at hz
    have hlo : (out.map Tm.cv).length = out.length := List.length_map ..
    have hgz : g p.2 = z := by rw [hg]; show out.getD (H p.2) tm0 = z; rw [List.getD_eq_getElem?_getD, hz]; rfl
    have hbl2 : ((bindL vr g js).map Bd.cv).length = js.length := by rw [List.length_map]; unfold bindL; rw [List.length_map]
    have hbl3 : (bindL vr g js).length = js.length := by unfold bindL; rw [List.length_map]
    have hbz := Bd.size_all (bindL vr g js)
    have hjs : js.length ≤ 100000 := by omega
    have hnotin : j ∉ js := fun hmem => hx (List.mem_map.2 ⟨j, hmem, by rw [List.getD_eq_getElem?_getD, hj]; rfl⟩)
    have hsnoc : bindL vr g (js ++ [j]) = bindL vr g js ++ [⟨p.1, z⟩] := by
      unfold bindL
      rw [List.map_append, List.map_singleton, List.getD_eq_getElem?_getD, hp]
      show _ ++ [(⟨p.1, g p.2⟩ : Bd)] = _
      rw [hgz]
    have hnd : (js ++ [j]).Nodup := by
      rw [List.nodup_append]
      exact ⟨hjn, by simp, fun a ha b hb => by rw [List.mem_singleton] at hb; subst hb; exact fun e => hnotin (e ▸ ha)⟩
    have hlt : ∀ x ∈ js ++ [j], x < vr.length := fun x hx => by
      rcases List.mem_append.1 hx with h | h
      · exact hjl x h
      · rw [List.mem_singleton] at h; omega
    refine aB (aS (aR ?_))
    (refine nx (a_entryM (n := 300003) (gN rfl) rfl rfl rfl rfl rfl rfl rfl rfl (hj) (hl)) rfl ?_)
    (refine nx (aX (gN rfl) rfl rfl rfl rfl rfl rfl) rfl ?_)
    (refine nx (aX (gN rfl) rfl rfl rfl rfl rfl rfl) rfl ?_)
    (refine nx (aA (gN rfl) rfl rfl rfl rfl rfl) rfl ?_)
    (refine nx (aA (gN rfl) rfl rfl rfl rfl rfl) rfl ?_)
    show AWp _ _ _ _ _ _ _
    refine aR ?_
    (refine nx (aM (gN rfl) rfl rfl rfl rfl rfl) rfl ?_)
    (refine nx (aM (gN rfl) rfl rfl rfl rfl rfl) rfl ?_)
    (refine nx (aM (gN rfl) rfl rfl rfl rfl rfl) rfl ?_)
    (refine nx (aM (gN rfl) rfl rfl rfl rfl rfl) rfl ?_)
    (refine nx (aM (gN rfl) rfl rfl rfl rfl rfl) rfl ?_)
    (refine nx (a_callO (gN rfl) rfl rfl rfl rfl rfl (hdc) (by repeat (first | exact trivial | refine ⟨rfl, ?_⟩)) (by first | rfl | kernel_rfl) (by first | rfl | kernel_rfl) (by first | rfl | kernel_rfl) (by first | rfl | kernel_rfl) (hnb_of (by first | rfl | kernel_rfl))) rfl ?_)
    (refine nx (aIm (k := H p.2) (gN rfl) rfl rfl rfl rfl rfl rfl rfl rfl rfl (by first | rfl | omega | (simp only [List.length_set, List.length_map, List.length_append, List.length_cons, List.length_nil] <;> omega) | (simp <;> omega))) rfl ?_)
    (refine nx (a_loadM (gN rfl) rfl rfl rfl rfl rfl rfl rfl rfl (hz') rfl (by first | rfl | omega | (simp only [List.length_set, List.length_map, List.length_append, List.length_cons, List.length_nil] <;> omega) | (simp <;> omega)) rfl rfl) rfl ?_)
    (refine nx (a_build (gN rfl) rfl rfl rfl rfl rfl rfl rfl rfl rfl rfl rfl) rfl ?_)
    (refine nx (a_bslice (gN rfl) rfl rfl rfl rfl rfl rfl rfl rfl rfl rfl rfl rfl rfl) rfl ?_)
    (refine nx (a_appM 200038 (gN rfl) rfl rfl rfl rfl rfl rfl rfl rfl rfl rfl rfl rfl rfl (by first | rfl | omega | (simp only [List.length_set, List.length_map, List.length_append, List.length_cons, List.length_nil] <;> omega) | (simp <;> omega)) (by first | assumption | exact sZ rfl | exact Tm.size_all _ | exact Bd.size_all _ | exact ints_size _ | exact bys_size _ | exact Lt.size_all _) (by first | omega | (simp only [List.length_map, List.length_append, List.length_cons, List.length_nil] <;> omega) | (simp <;> omega))) (by kernel_rfl) ?_)
    (refine nx (aA (gN rfl) rfl rfl rfl rfl rfl) rfl ?_)
    refine ⟨m - 1, st (js ++ [j]) ns2, ?_, ⟨js ++ [j], ns2, ?_, ?_, ?_, hC2, hF2, by omega, by rw [hst]⟩, ?_⟩
    · have h2 := nodup_leB hnd hlt
      rw [List.length_append] at h2
      simp at h2
      omega
    · have h2 := nodup_leB hnd hlt
      rw [List.length_append] at h2 ⊢
      simp at h2 ⊢
      omega
    · exact hnd
    · exact hlt
    · rw [hst]
      refine (wk_sub (s' := (0, AV.bp 350001 0 []) :: (5, .sl 300005 0 N 2) :: (6, .sl 200038 0 (js ++ [j]).length 3) :: (22, .mref 300022) :: (300022, .itr b ck ck ((js ++ [j]).map fun j => bs.getD j 0)) :: (200038, .mrow 99 3 ((bindL vr g (js ++ [j])).map Bd.cv)) :: (300005, .mrow 42 2 (out.map Tm.cv)) :: cstS b ck bs ⟨ns2, vr, ps⟩) ⟨rfl, rfl, ?_, rfl, ?_, ?_, rfl, rfl, rfl, rfl, rfl, rfl, rfl, rfl, trivial⟩).trans (wk_ren 200038 200017 rfl rfl (by kernel_rfl) (by kernel_rfl))
      · rw [List.length_append, ← hbl2]; rfl
      · rw [List.map_append, List.map_singleton, List.getD_eq_getElem?_getD, hj]; rfl
      · rw [hsnoc, List.map_append, List.map_singleton]; rfl
def swG (n a b : Nat) (G : Nat → Option Bd) (t : Nat) : Option Bd := if a ≤ t ∧ t < a + n then G (t - a + b) else if b ≤ t ∧ t < b + n then G (t - b + a) else G t
def rtG (a m b : Nat) (G : Nat → Option Bd) (t : Nat) : Option Bd := if a ≤ t ∧ t < a + (b - m) then G (t - a + m) else if a + (b - m) ≤ t ∧ t < b then G (t - (b - m)) else G t
theorem swG_succ {n a b : Nat} (h : a + n < b) (G : Nat → Option Bd) (t : Nat) : swG (n + 1) a b G t = if t = a + n then G (b + n) else if t = b + n then G (a + n) else swG n a b G t := by
  unfold swG
  by_cases h1 : t = a + n
  · subst h1
    rw [if_pos (by omega), if_pos rfl, show a + n - a + b = b + n by omega]
  · rw [if_neg h1]
    by_cases h2 : t = b + n
    · subst h2
      rw [if_neg (by omega), if_pos (by omega), if_pos rfl, show b + n - b + a = a + n by omega]
    · rw [if_neg h2]
      by_cases h3 : a ≤ t ∧ t < a + n
      · rw [if_pos (by omega), if_pos h3]
      · rw [if_neg (by omega), if_neg h3]
        by_cases h4 : b ≤ t ∧ t < b + n
        · rw [if_pos (by omega), if_pos h4]
        · rw [if_neg (by omega), if_neg h4]
theorem rt_left {i j m : Nat} (hi : i ≤ m) (hj : j < i) (G : Nat → Option Bd) (t : Nat) : rtG (m - i + j) m (m + j) (swG j (m - i) m G) t = rtG (m - i) m (m + j) G t := by
  unfold rtG swG
  have e1 : m + j - m = j := by omega
  rw [e1]
  by_cases c1 : m - i ≤ t ∧ t < m - i + j
  · rw [if_neg (by omega), if_neg (by omega), if_pos c1, if_pos c1]
  · by_cases c2 : m - i + j ≤ t ∧ t < m - i + j + j
    · rw [if_pos c2, if_neg (by omega), if_pos (by omega), if_neg c1]
      by_cases c3 : m - i + j ≤ t ∧ t < m + j
      · rw [if_pos c3]; congr 1; omega
      · omega
    · rw [if_neg c2, if_neg c1]
      by_cases c3 : m - i + j ≤ t ∧ t < m + j
      · rw [if_pos c3, if_pos (by omega), if_neg (by omega), if_neg (by omega), if_neg c1]
      · rw [if_neg c3, if_neg (by omega), if_neg c1, if_neg (by omega)]
theorem rt_right {i j m : Nat} (hi : i ≤ m) (hj : i < j) (G : Nat → Option Bd) (t : Nat) : rtG (m - i) m (m + (j - i)) (swG i (m - i) (m + j - i) G) t = rtG (m - i) m (m + j) G t := by
  unfold rtG swG
  have e1 : m + j - m = j := by omega
  have e2 : m + (j - i) - m = j - i := by omega
  rw [e1, e2]
  by_cases c1 : m - i ≤ t ∧ t < m - i + (j - i)
  · rw [if_pos c1, if_pos (show m - i ≤ t ∧ t < m - i + j by omega), if_neg (by omega), if_neg (by omega)]
  · rw [if_neg c1]
    by_cases c2 : m - i + (j - i) ≤ t ∧ t < m + (j - i)
    · rw [if_pos c2, if_pos (show m - i ≤ t ∧ t < m - i + j by omega), if_pos (by omega)]
      congr 1; omega
    · rw [if_neg c2]
      by_cases c3 : m - i ≤ t ∧ t < m - i + j
      · omega
      · rw [if_neg c3]
        by_cases c4 : m - i + j ≤ t ∧ t < m + j
        · rw [if_pos c4, if_neg (by omega), if_pos (by omega)]
          congr 1; omega
        · rw [if_neg c4, if_neg (by omega), if_neg (by omega)]
theorem rt_same {i m : Nat} (hi : i ≤ m) (G : Nat → Option Bd) (t : Nat) : swG i (m - i) m G t = rtG (m - i) m (m + i) G t := by
  unfold rtG swG
  rw [show m + i - m = i by omega]
  by_cases c1 : m - i ≤ t ∧ t < m - i + i
  · rw [if_pos c1, if_pos c1]
  · rw [if_neg c1, if_neg c1]
    by_cases c2 : m ≤ t ∧ t < m + i
    · rw [if_pos c2, if_pos (by omega)]; congr 1; omega
    · rw [if_neg c2, if_neg (by omega)]
def IsG (L : List Bd) (n : Nat) (G : Nat → Option Bd) : Prop := L.length = n ∧ ∀ t, L[t]? = G t
theorem bd_at {L : List Bd} {t : Nat} (h : t < L.length) : ∃ x, L[t]? = some x := ⟨L[t], List.getElem?_eq_getElem h⟩
noncomputable abbrev rwB (L : List Bd) : AS := [(400000, .mrow 99 3 (L.map Bd.cv))]
-- 
set_option maxHeartbeats 2000000 in
theorem swapR_abs (fc : CV) (L : List Bd) (a b n : Nat) (hab : a + n ≤ b) (hb : b + n ≤ L.length) (hl : L.length ≤ 1000000) : AFunE (Sg := List Bd) Tryz.prog 162 (rwB L) [.sl 400000 0 L.length 3, .val (.i a), .val (.i b), .val (.i n), .val fc] (fun σ => IsG σ L.length (swG n a b fun t => L[t]?)) (fun _ => .tup []) (fun σ => rwB σ) := by
  refine afunE_of Tryz.func162 Tryz.ntmps162 rfl rfl rfl rfl rfl (fun σ => rfl) ?_
  intro w U hU
  refine aS (aR ?_)
  (refine nx (aA (gN rfl) rfl rfl rfl rfl rfl) rfl ?_)
  show AWp _ _ _ _ _ _ _
  obtain ⟨st, hst⟩ : ∃ st : Nat → List Bd → AS, st = fun i M => (0, AV.sl 400000 0 L.length 3) :: (1, .val (.i a)) :: (2, .val (.i b)) :: (3, .val (.i n)) :: (10, .val (.i (i : Nat))) :: rwB M := ⟨_, rfl⟩
  refine aB (awp_loop (fun k s => ∃ i M, i + k = n ∧ IsG M L.length (swG i a b fun t => L[t]?) ∧ s = st i M) (n := n) (s' := st 0 L) (by rw [hst]; exact wk_sub ⟨rfl, rfl, rfl, rfl, rfl, rfl, trivial⟩) ⟨0, L, by omega, ⟨rfl, fun t => by unfold swG; rw [if_neg (by omega), if_neg (by omega)]⟩, rfl⟩ ?_)
  rintro k s ⟨i, M, hik, hM, rfl⟩
  rw [hst]
  refine aS (aS (aR ?_))
  (refine nx (aM (gN rfl) rfl rfl rfl rfl rfl) rfl ?_)
  (refine nx (aM (gN rfl) rfl rfl rfl rfl rfl) rfl ?_)
  (refine nx (a_lss (gN rfl) rfl rfl rfl rfl rfl rfl) rfl ?_)
  show AWp _ _ _ _ _ _ _
  refine aC rfl (fun hc => aK ?_) (fun hc => aE ?_)
  · have hin : i < n := by
      have : (i : Int) < n := by simpa using hc
      omega
    have hMl := hM.1
    obtain ⟨x, hx⟩ := bd_at (L := M) (t := a + i) (by omega)
    obtain ⟨y, hy⟩ := bd_at (L := M) (t := b + i) (by omega)
    have hx' := Bd.map_at hx
    have hy' := Bd.map_at hy
    have hlm : (M.map Bd.cv).length = M.length := List.length_map ..
    have hy2 : ((M.map Bd.cv).set (a + i) y.cw)[b + i]? = some y.cw := by rw [List.getElem?_set_ne (by omega)]; exact hy'
    show AWp _ _ _ _ _ _ _
    refine aS (aB (aD (by kernel_rfl) (by kernel_rfl) ?_))
    (refine nx (aM (gN rfl) rfl rfl rfl rfl rfl) rfl ?_)
    (refine nx (aM (gN rfl) rfl rfl rfl rfl rfl) rfl ?_)
    (refine nx (aM (gN rfl) rfl rfl rfl rfl rfl) rfl ?_)
    (refine nx (a_add (gN rfl) rfl rfl rfl rfl rfl rfl (by first | omega | (simp only [List.length_map, List.length_append, List.length_cons, List.length_nil] <;> omega) | (simp <;> omega))) rfl ?_)
    (refine nx (aM (gN rfl) rfl rfl rfl rfl rfl) rfl ?_)
    (refine nx (aM (gN rfl) rfl rfl rfl rfl rfl) rfl ?_)
    (refine nx (aM (gN rfl) rfl rfl rfl rfl rfl) rfl ?_)
    (refine nx (a_add (gN rfl) rfl rfl rfl rfl rfl rfl (by first | omega | (simp only [List.length_map, List.length_append, List.length_cons, List.length_nil] <;> omega) | (simp <;> omega))) rfl ?_)
    (refine nx (aM (gN rfl) rfl rfl rfl rfl rfl) rfl ?_)
    (refine nx (aM (gN rfl) rfl rfl rfl rfl rfl) rfl ?_)
    (refine nx (aM (gN rfl) rfl rfl rfl rfl rfl) rfl ?_)
    (refine nx (a_add (gN rfl) rfl rfl rfl rfl rfl rfl (by first | omega | (simp only [List.length_map, List.length_append, List.length_cons, List.length_nil] <;> omega) | (simp <;> omega))) rfl ?_)
    (refine nx (aIm (k := b + i) (gN rfl) rfl rfl rfl rfl rfl rfl rfl rfl rfl (by first | rfl | omega | (simp only [List.length_set, List.length_map, List.length_append, List.length_cons, List.length_nil] <;> omega) | (simp <;> omega))) rfl ?_)
    (refine nx (a_loadM (gN rfl) rfl rfl rfl rfl rfl rfl rfl rfl (hy') rfl (by first | rfl | omega | (simp only [List.length_set, List.length_map, List.length_append, List.length_cons, List.length_nil] <;> omega) | (simp <;> omega)) rfl rfl) rfl ?_)
    (refine nx (aM (gN rfl) rfl rfl rfl rfl rfl) rfl ?_)
    (refine nx (aM (gN rfl) rfl rfl rfl rfl rfl) rfl ?_)
    (refine nx (aM (gN rfl) rfl rfl rfl rfl rfl) rfl ?_)
    (refine nx (a_add (gN rfl) rfl rfl rfl rfl rfl rfl (by first | omega | (simp only [List.length_map, List.length_append, List.length_cons, List.length_nil] <;> omega) | (simp <;> omega))) rfl ?_)
    (refine nx (aIm (k := a + i) (gN rfl) rfl rfl rfl rfl rfl rfl rfl rfl rfl (by first | rfl | omega | (simp only [List.length_set, List.length_map, List.length_append, List.length_cons, List.length_nil] <;> omega) | (simp <;> omega))) rfl ?_)
    (refine nx (a_loadM (gN rfl) rfl rfl rfl rfl rfl rfl rfl rfl (hx') rfl (by first | rfl | omega | (simp only [List.length_set, List.length_map, List.length_append, List.length_cons, List.length_nil] <;> omega) | (simp <;> omega)) rfl rfl) rfl ?_)
    (refine nx (aIm (k := a + i) (gN rfl) rfl rfl rfl rfl rfl rfl rfl rfl rfl (by first | rfl | omega | (simp only [List.length_set, List.length_map, List.length_append, List.length_cons, List.length_nil] <;> omega) | (simp <;> omega))) rfl ?_)
    (refine nx (a_storeM (gN rfl) rfl rfl rfl rfl rfl rfl (hx') rfl rfl (by first | rfl | omega | (simp only [List.length_set, List.length_map, List.length_append, List.length_cons, List.length_nil] <;> omega) | (simp <;> omega)) rfl) rfl ?_)
    (refine nx (aIm (k := b + i) (gN rfl) rfl rfl rfl rfl rfl rfl rfl rfl rfl (by first | rfl | omega | (simp only [List.length_set, List.length_map, List.length_append, List.length_cons, List.length_nil] <;> omega) | (simp <;> omega))) rfl ?_)
    (refine nx (a_storeM (gN rfl) rfl rfl rfl rfl rfl rfl (hy2) rfl rfl (by first | rfl | omega | (simp only [List.length_set, List.length_map, List.length_append, List.length_cons, List.length_nil] <;> omega) | (simp <;> omega)) rfl) rfl ?_)
    refine ⟨by kernel_rfl, ?_⟩
    show AWp _ _ _ _ _ _ _
    refine aR ?_
    (refine nx (aM (gN rfl) rfl rfl rfl rfl rfl) rfl ?_)
    (refine nx (a_add (gN rfl) rfl rfl rfl rfl rfl rfl (by first | omega | (simp only [List.length_map, List.length_append, List.length_cons, List.length_nil] <;> omega) | (simp <;> omega))) rfl ?_)
    (refine nx (aA (gN rfl) rfl rfl rfl rfl rfl) rfl ?_)
    refine ⟨k - 1, st (i + 1) ((M.set (a + i) y).set (b + i) x), by omega, ⟨i + 1, (M.set (a + i) y).set (b + i) x, by omega, ⟨by rw [List.length_set, List.length_set]; exact hMl, fun t => ?_⟩, by rw [hst]⟩, ?_⟩
    · have gx := hM.2 (a + i)
      have gy := hM.2 (b + i)
      rw [hx] at gx
      rw [hy] at gy
      rw [swG_succ (by omega)]
      have hLa : swG i a b (fun t => L[t]?) (a + i) = L[a + i]? := by unfold swG; rw [if_neg (by omega), if_neg (by omega)]
      have hLb : swG i a b (fun t => L[t]?) (b + i) = L[b + i]? := by unfold swG; rw [if_neg (by omega), if_neg (by omega)]
      rw [hLa] at gx
      rw [hLb] at gy
      rw [List.getElem?_set, List.getElem?_set]
      by_cases c1 : t = a + i
      · rw [if_pos c1, if_neg (by omega), if_pos c1.symm, if_pos (by omega), gy]
      · rw [if_neg c1]
        by_cases c2 : t = b + i
        · rw [if_pos c2, if_pos c2.symm, if_pos (show b + i < (M.set (a + i) y).length by rw [List.length_set]; omega), gx]
        · rw [if_neg c2, if_neg (by omega), if_neg (by omega)]
          exact hM.2 t
    · rw [hst]
      refine wk_sub ⟨rfl, rfl, rfl, rfl, rfl, ?_, trivial⟩
      rw [← set_map_cv, ← set_map_cv]; rfl
  · have hin : i = n := by
      have : ¬ (i : Int) < n := by simpa using hc
      omega
    subst hin
    exact ⟨.inl rfl, M, hM, _, Wk.refl _, rfl, rfl, trivial⟩
-- 
set_option maxHeartbeats 2000000 in
theorem rotate_abs (fc : CV) (L : List Bd) (a m b : Nat) (ham : a < m) (hmb : m < b) (hb : b ≤ L.length) (hl : L.length ≤ 1000000) : AFunE (Sg := List Bd) Tryz.prog 161 (rwB L) [.sl 400000 0 L.length 3, .val (.i a), .val (.i m), .val (.i b), .val fc] (fun σ => IsG σ L.length (rtG a m b fun t => L[t]?)) (fun _ => .tup []) (fun σ => rwB σ) := by
  refine afunE_of Tryz.func161 Tryz.ntmps161 rfl rfl rfl rfl rfl (fun σ => rfl) ?_
  intro w U hU
  refine aS (aR ?_)
  (refine nx (aM (gN rfl) rfl rfl rfl rfl rfl) rfl ?_)
  (refine nx (aM (gN rfl) rfl rfl rfl rfl rfl) rfl ?_)
  (refine nx (a_sub (gN rfl) rfl rfl rfl rfl rfl rfl (by first | omega | (simp only [List.length_map, List.length_append, List.length_cons, List.length_nil] <;> omega) | (simp <;> omega))) rfl ?_)
  (refine nx (aA (gN rfl) rfl rfl rfl rfl rfl) rfl ?_)
  show AWp _ _ _ _ _ _ _
  refine aS (aR ?_)
  (refine nx (aM (gN rfl) rfl rfl rfl rfl rfl) rfl ?_)
  (refine nx (aM (gN rfl) rfl rfl rfl rfl rfl) rfl ?_)
  (refine nx (a_sub (gN rfl) rfl rfl rfl rfl rfl rfl (by first | omega | (simp only [List.length_map, List.length_append, List.length_cons, List.length_nil] <;> omega) | (simp <;> omega))) rfl ?_)
  (refine nx (aA (gN rfl) rfl rfl rfl rfl rfl) rfl ?_)
  show AWp _ _ _ _ _ _ _
  obtain ⟨N, hN⟩ : ∃ N, N = L.length := ⟨_, rfl⟩
  rw [← hN] at hb hl ⊢
  obtain ⟨st, hst⟩ : ∃ st : Nat → Nat → List Bd → AS, st = fun i j M => (0, AV.sl 400000 0 N 3) :: (2, .val (.i m)) :: (4, .val fc) :: (10, .val (.i (i : Nat))) :: (11, .val (.i (j : Nat))) :: rwB M := ⟨_, rfl⟩
  refine aS (aB (awp_loop (fun k s => ∃ i j M, k = i + j ∧ 0 < i ∧ 0 < j ∧ i ≤ m ∧ m + j ≤ N ∧ M.length = N ∧ (∀ t, rtG (m - i) m (m + j) (fun t => M[t]?) t = rtG a m b (fun t => L[t]?) t) ∧ s = st i j M) (n := (m - a) + (b - m)) (s' := st (m - a) (b - m) L) (by
    rw [hst]
    refine wk_sub ⟨?_, rfl, rfl, ?_, ?_, rfl, trivial⟩
    · rw [hN]; rfl
    · show _ = some (AV.val (.i (((m - a : Nat) : Nat) : Int)))
      rw [show ((m - a : Nat) : Int) = (m : Int) - a by omega]; rfl
    · show _ = some (AV.val (.i (((b - m : Nat) : Nat) : Int)))
      rw [show ((b - m : Nat) : Int) = (b : Int) - m by omega]; rfl) ⟨m - a, b - m, L, rfl, by omega, by omega, by omega, by omega, hN.symm, fun t => by rw [show m - (m - a) = a by omega, show m + (b - m) = b by omega], rfl⟩ ?_))
  rintro k s ⟨i, j, M, rfl, hi, hj, him, hjN, hMl, hrt, rfl⟩
  rw [hst]
  refine aS (aS (aR ?_))
  (refine nx (aM (gN rfl) rfl rfl rfl rfl rfl) rfl ?_)
  (refine nx (aM (gN rfl) rfl rfl rfl rfl rfl) rfl ?_)
  (refine nx (a_neq (gN rfl) rfl rfl rfl rfl rfl rfl) rfl ?_)
  show AWp _ _ _ _ _ _ _
  by_cases hij : i = j
  · subst hij
    refine aC rfl (fun hc => by simp at hc) (fun _ => aE ?_)
    show AWp _ _ _ _ _ _ _
    have hsw := swapR_abs fc M (m - i) m i (by omega) (by omega) (by omega)
    rw [hMl] at hsw
    refine awp_regionE 7 rfl rfl rfl rfl rfl rfl hsw (by kernel_rfl) (fun σ => by kernel_rfl) (fun σ => by kernel_rfl) (fun σ => rfl) (fun σ => hnb_of (by kernel_rfl)) ?_
    (refine nx (aM (gN rfl) rfl rfl rfl rfl rfl) rfl ?_)
    (refine nx (aM (gN rfl) rfl rfl rfl rfl rfl) rfl ?_)
    (refine nx (aM (gN rfl) rfl rfl rfl rfl rfl) rfl ?_)
    (refine nx (a_sub (gN rfl) rfl rfl rfl rfl rfl rfl (by first | omega | (simp only [List.length_map, List.length_append, List.length_cons, List.length_nil] <;> omega) | (simp <;> omega))) rfl ?_)
    (refine nx (aM (gN rfl) rfl rfl rfl rfl rfl) rfl ?_)
    (refine nx (aM (gN rfl) rfl rfl rfl rfl rfl) rfl ?_)
    (refine nx (aM (gN rfl) rfl rfl rfl rfl rfl) rfl ?_)
    refine ⟨?_, ⟨rfl, trivial⟩, fun σ hσ => ⟨by kernel_rfl, ?_⟩⟩
    · show some [AV.sl 400000 0 N 3, .val (.i ((m : Int) - (i : Nat))), .val (.i m), .val (.i (i : Nat)), .val fc] = _
      rw [show ((m : Int) - (i : Nat)) = ((m - i : Nat) : Int) by omega]
    · refine ⟨.inl rfl, σ, ⟨hσ.1, fun t => ?_⟩, _, Wk.refl _, rfl, rfl, trivial⟩
      rw [hσ.2, rt_same him]
      exact hrt t
  · refine aC rfl (fun _ => aK ?_) (fun hc => ?_)
    case refine_2 =>
      have hc := of_decide_eq_false hc
      simp only [ne_eq, Decidable.not_not] at hc
      omega
    show AWp _ _ _ _ _ _ _
    refine aB (aS (aR ?_))
    (refine nx (aM (gN rfl) rfl rfl rfl rfl rfl) rfl ?_)
    (refine nx (aM (gN rfl) rfl rfl rfl rfl rfl) rfl ?_)
    (refine nx (a_gtr (gN rfl) rfl rfl rfl rfl rfl rfl) rfl ?_)
    show AWp _ _ _ _ _ _ _
    rcases Nat.lt_or_ge j i with hji | hji
    · refine aC rfl (fun _ => ?_) (fun hc => ?_)
      case refine_2 =>
        have : ¬ ((i : Nat) : Int) > (j : Nat) := by simpa using hc
        omega
      have hsw := swapR_abs fc M (m - i) m j (by omega) (by omega) (by omega)
      rw [hMl] at hsw
      refine aS (awp_regionE 7 rfl rfl rfl rfl rfl rfl hsw (by kernel_rfl) (fun σ => by kernel_rfl) (fun σ => by kernel_rfl) (fun σ => rfl) (fun σ => hnb_of (by kernel_rfl)) ?_)
      (refine nx (aM (gN rfl) rfl rfl rfl rfl rfl) rfl ?_)
      (refine nx (aM (gN rfl) rfl rfl rfl rfl rfl) rfl ?_)
      (refine nx (aM (gN rfl) rfl rfl rfl rfl rfl) rfl ?_)
      (refine nx (a_sub (gN rfl) rfl rfl rfl rfl rfl rfl (by first | omega | (simp only [List.length_map, List.length_append, List.length_cons, List.length_nil] <;> omega) | (simp <;> omega))) rfl ?_)
      (refine nx (aM (gN rfl) rfl rfl rfl rfl rfl) rfl ?_)
      (refine nx (aM (gN rfl) rfl rfl rfl rfl rfl) rfl ?_)
      (refine nx (aM (gN rfl) rfl rfl rfl rfl rfl) rfl ?_)
      refine ⟨?_, ⟨rfl, trivial⟩, fun σ hσ => ⟨by kernel_rfl, ?_⟩⟩
      · show some [AV.sl 400000 0 N 3, .val (.i ((m : Int) - (i : Nat))), .val (.i m), .val (.i (j : Nat)), .val fc] = _
        rw [show ((m : Int) - (i : Nat)) = ((m - i : Nat) : Int) by omega]
      show AWp _ _ _ _ _ _ _
      refine aR ?_
      (refine nx (aM (gN rfl) rfl rfl rfl rfl rfl) rfl ?_)
      (refine nx (aM (gN rfl) rfl rfl rfl rfl rfl) rfl ?_)
      (refine nx (a_sub (gN rfl) rfl rfl rfl rfl rfl rfl (by first | omega | (simp only [List.length_map, List.length_append, List.length_cons, List.length_nil] <;> omega) | (simp <;> omega))) rfl ?_)
      (refine nx (aA (gN rfl) rfl rfl rfl rfl rfl) rfl ?_)
      refine ⟨(i - j) + j, st (i - j) j σ, by omega, ⟨i - j, j, σ, rfl, by omega, hj, by omega, hjN, hσ.1, fun t => ?_, by rw [hst]⟩, ?_⟩
      · rw [← hrt t, ← rt_left him hji, show m - i + j = m - (i - j) by omega]
        congr 1
        funext t
        exact hσ.2 t
      · rw [hst]
        refine wk_sub ⟨rfl, rfl, rfl, ?_, rfl, rfl, trivial⟩
        rw [show ((i - j : Nat) : Int) = (i : Int) - j by omega]; rfl
    · refine aC rfl (fun hc => ?_) (fun _ => ?_)
      · exfalso
        have : ((i : Nat) : Int) > (j : Nat) := by simpa using hc
        omega
      have hsw := swapR_abs fc M (m - i) (m + j - i) i (by omega) (by omega) (by omega)
      rw [hMl] at hsw
      refine aS (awp_regionE 11 rfl rfl rfl rfl rfl rfl hsw (by kernel_rfl) (fun σ => by kernel_rfl) (fun σ => by kernel_rfl) (fun σ => rfl) (fun σ => hnb_of (by kernel_rfl)) ?_)
      (refine nx (aM (gN rfl) rfl rfl rfl rfl rfl) rfl ?_)
      (refine nx (aM (gN rfl) rfl rfl rfl rfl rfl) rfl ?_)
      (refine nx (aM (gN rfl) rfl rfl rfl rfl rfl) rfl ?_)
      (refine nx (a_sub (gN rfl) rfl rfl rfl rfl rfl rfl (by first | omega | (simp only [List.length_map, List.length_append, List.length_cons, List.length_nil] <;> omega) | (simp <;> omega))) rfl ?_)
      (refine nx (aM (gN rfl) rfl rfl rfl rfl rfl) rfl ?_)
      (refine nx (aM (gN rfl) rfl rfl rfl rfl rfl) rfl ?_)
      (refine nx (a_add (gN rfl) rfl rfl rfl rfl rfl rfl (by first | omega | (simp only [List.length_map, List.length_append, List.length_cons, List.length_nil] <;> omega) | (simp <;> omega))) rfl ?_)
      (refine nx (aM (gN rfl) rfl rfl rfl rfl rfl) rfl ?_)
      (refine nx (a_sub (gN rfl) rfl rfl rfl rfl rfl rfl (by first | omega | (simp only [List.length_map, List.length_append, List.length_cons, List.length_nil] <;> omega) | (simp <;> omega))) rfl ?_)
      (refine nx (aM (gN rfl) rfl rfl rfl rfl rfl) rfl ?_)
      (refine nx (aM (gN rfl) rfl rfl rfl rfl rfl) rfl ?_)
      refine ⟨?_, ⟨rfl, trivial⟩, fun σ hσ => ⟨by kernel_rfl, ?_⟩⟩
      · show some [AV.sl 400000 0 N 3, .val (.i ((m : Int) - (i : Nat))), .val (.i ((m : Int) + (j : Nat) - (i : Nat))), .val (.i (i : Nat)), .val fc] = _
        rw [show ((m : Int) - (i : Nat)) = ((m - i : Nat) : Int) by omega, show ((m : Int) + (j : Nat) - (i : Nat)) = ((m + j - i : Nat) : Int) by omega]
      show AWp _ _ _ _ _ _ _
      refine aR ?_
      (refine nx (aM (gN rfl) rfl rfl rfl rfl rfl) rfl ?_)
      (refine nx (aM (gN rfl) rfl rfl rfl rfl rfl) rfl ?_)
      (refine nx (a_sub (gN rfl) rfl rfl rfl rfl rfl rfl (by first | omega | (simp only [List.length_map, List.length_append, List.length_cons, List.length_nil] <;> omega) | (simp <;> omega))) rfl ?_)
      (refine nx (aA (gN rfl) rfl rfl rfl rfl rfl) rfl ?_)
      refine ⟨i + (j - i), st i (j - i) σ, by omega, ⟨i, j - i, σ, rfl, hi, by omega, him, by omega, hσ.1, fun t => ?_, by rw [hst]⟩, ?_⟩
      · have h := rt_right (i := i) (j := j) him (by omega) (fun t => M[t]?) t
        rw [← hrt t, ← h]
        congr 1
        funext t
        exact hσ.2 t
      · rw [hst]
        refine wk_sub ⟨rfl, rfl, rfl, rfl, ?_, rfl, trivial⟩
        rw [show ((j - i : Nat) : Int) = (j : Int) - i by omega]; rfl
end Go.Proofs.YtglmoficcjphaaaGreat
namespace Go.Proofs.YtglmoficcjphaaaGreat
open Go.RowKit
set_option linter.unusedVariables false
set_option linter.unusedSimpArgs false
def pc (L : List Bd) (a m : Nat) : List Bd := (L.drop a).take (m - a)
theorem pc_len {L : List Bd} {a m : Nat} (hm : m ≤ L.length) : (pc L a m).length = m - a := by unfold pc; rw [List.length_take, List.length_drop]; omega
theorem pc_at {L : List Bd} {a m t : Nat} (h : t < m - a) : (pc L a m)[t]? = L[a + t]? := by unfold pc; rw [List.getElem?_take, if_pos h, List.getElem?_drop]
theorem four_at {L : List Bd} (X Y Z W : List Bd) (t : Nat) : (X ++ (Y ++ (Z ++ W)))[t]? = if t < X.length then X[t]? else if t < X.length + Y.length then Y[t - X.length]? else if t < X.length + Y.length + Z.length then Z[t - X.length - Y.length]? else W[t - X.length - Y.length - Z.length]? := by
  rw [List.getElem?_append]
  by_cases h1 : t < X.length
  · rw [if_pos h1, if_pos h1]
  · rw [if_neg h1, if_neg h1, List.getElem?_append]
    by_cases h2 : t - X.length < Y.length
    · rw [if_pos h2, if_pos (by omega)]
    · rw [if_neg h2, if_neg (by omega), List.getElem?_append]
      by_cases h3 : t - X.length - Y.length < Z.length
      · rw [if_pos h3, if_pos (by omega)]
      · rw [if_neg h3, if_neg (by omega)]
theorem pc_four {L : List Bd} {a m b : Nat} (ham : a ≤ m) (hmb : m ≤ b) (hb : b ≤ L.length) : pc L 0 a ++ (pc L a m ++ (pc L m b ++ pc L b L.length)) = L := by
  apply List.ext_getElem?
  intro t
  rw [four_at (L := L), pc_len (by omega), pc_len (by omega), pc_len (by omega)]
  by_cases h1 : t < a - 0
  · rw [if_pos h1, pc_at (by omega)]; congr 1; omega
  · rw [if_neg h1]
    by_cases h2 : t < a - 0 + (m - a)
    · rw [if_pos h2, pc_at (by omega)]; congr 1; omega
    · rw [if_neg h2]
      by_cases h3 : t < a - 0 + (m - a) + (b - m)
      · rw [if_pos h3, pc_at (by omega)]; congr 1; omega
      · rw [if_neg h3]
        by_cases h4 : t < L.length
        · rw [pc_at (by omega)]; congr 1; omega
        · rw [List.getElem?_eq_none (by rw [pc_len (Nat.le_refl _)]; omega), List.getElem?_eq_none (by omega)]
theorem rt_four {L σ : List Bd} {a m b : Nat} (ham : a ≤ m) (hmb : m ≤ b) (hb : b ≤ L.length) (h : IsG σ L.length (rtG a m b fun t => L[t]?)) : σ = pc L 0 a ++ (pc L m b ++ (pc L a m ++ pc L b L.length)) := by
  apply List.ext_getElem?
  intro t
  rw [h.2, four_at (L := L), pc_len (by omega), pc_len (by omega), pc_len (by omega)]
  unfold rtG
  by_cases h1 : t < a - 0
  · rw [if_pos h1, pc_at (by omega), if_neg (by omega), if_neg (by omega)]; congr 1; omega
  · rw [if_neg h1]
    by_cases h2 : t < a - 0 + (b - m)
    · rw [if_pos h2, pc_at (by omega), if_pos (by omega)]; congr 1; omega
    · rw [if_neg h2]
      by_cases h3 : t < a - 0 + (b - m) + (m - a)
      · rw [if_pos h3, pc_at (by omega), if_neg (by omega), if_pos (by omega)]; congr 1; omega
      · rw [if_neg h3, if_neg (by omega), if_neg (by omega)]
        by_cases h4 : t < L.length
        · rw [pc_at (by omega)]; congr 1; omega
        · rw [List.getElem?_eq_none (l := pc L b L.length) (by rw [pc_len (Nat.le_refl _)]; omega)]; exact List.getElem?_eq_none (by omega)
theorem rt_perm {L σ : List Bd} {a m b : Nat} (ham : a ≤ m) (hmb : m ≤ b) (hb : b ≤ L.length) (h : IsG σ L.length (rtG a m b fun t => L[t]?)) : σ.Perm L := by
  rw [rt_four ham hmb hb h]
  conv => rhs; rw [← pc_four ham hmb hb]
  apply List.Perm.append_left
  rw [← List.append_assoc, ← List.append_assoc]
  exact List.Perm.append_right _ List.perm_append_comm
def srtB (L : List Bd) (a b : Nat) : Prop := ∀ i j x y, a ≤ i → i < j → j < b → L[i]? = some x → L[j]? = some y → x.v ≤ y.v
structure Mg (a b : Nat) (L σ : List Bd) : Prop where
  len : σ.length = L.length
  out : ∀ t, t < a ∨ b ≤ t → σ[t]? = L[t]?
  ins : ∀ t, a ≤ t → t < b → ∃ t', a ≤ t' ∧ t' < b ∧ σ[t]? = L[t']?
  perm : σ.Perm L
theorem Mg.refl (a b : Nat) (L : List Bd) : Mg a b L L := ⟨rfl, fun _ _ => rfl, fun t h h' => ⟨t, h, h', rfl⟩, List.Perm.refl _⟩
theorem Mg.trans {a b : Nat} {L M N : List Bd} (h : Mg a b L M) (h' : Mg a b M N) : Mg a b L N := by
  refine ⟨h'.len.trans h.len, fun t ht => (h'.out t ht).trans (h.out t ht), fun t h1 h2 => ?_, h'.perm.trans h.perm⟩
  obtain ⟨u, u1, u2, u3⟩ := h'.ins t h1 h2
  obtain ⟨v, v1, v2, v3⟩ := h.ins u u1 u2
  exact ⟨v, v1, v2, u3.trans v3⟩
theorem Mg.mono {a b c d : Nat} {L σ : List Bd} (h : Mg a b L σ) (hc : c ≤ a) (hd : b ≤ d) : Mg c d L σ := by
  refine ⟨h.len, fun t ht => h.out t (by omega), fun t h1 h2 => ?_, h.perm⟩
  by_cases ht : a ≤ t ∧ t < b
  · obtain ⟨u, u1, u2, u3⟩ := h.ins t ht.1 ht.2
    exact ⟨u, by omega, by omega, u3⟩
  · exact ⟨t, h1, h2, h.out t (by omega)⟩
theorem Mg.rt {L σ : List Bd} {a m b : Nat} (ham : a ≤ m) (hmb : m ≤ b) (hb : b ≤ L.length) (h : IsG σ L.length (rtG a m b fun t => L[t]?)) : Mg a b L σ := by
  refine ⟨h.1, fun t ht => ?_, fun t h1 h2 => ?_, rt_perm ham hmb hb h⟩
  · rw [h.2]; unfold rtG; rw [if_neg (by omega), if_neg (by omega)]
  · by_cases c : t < a + (b - m)
    · exact ⟨t - a + m, by omega, by omega, by rw [h.2]; unfold rtG; rw [if_pos (by omega)]⟩
    · exact ⟨t - (b - m), by omega, by omega, by rw [h.2]; unfold rtG; rw [if_neg (by omega), if_pos (by omega)]⟩
theorem rt_id {L : List Bd} {a m b : Nat} (ham : a ≤ m) (hmb : m ≤ b) (h : a = m ∨ m = b) : IsG L L.length (rtG a m b fun t => L[t]?) := by
  refine ⟨rfl, fun t => ?_⟩
  unfold rtG
  by_cases c1 : a ≤ t ∧ t < a + (b - m)
  · rw [if_pos c1]; congr 1; omega
  · rw [if_neg c1]
    by_cases c2 : a + (b - m) ≤ t ∧ t < b
    · rw [if_pos c2]; congr 1; omega
    · rw [if_neg c2]
theorem srtB.sub {L : List Bd} {a b c d : Nat} (h : srtB L a b) (hc : a ≤ c) (hd : d ≤ b) : srtB L c d := fun i j x y h1 h2 h3 h4 h5 => h i j x y (by omega) h2 (by omega) h4 h5
theorem srtB.same {L M : List Bd} {a b : Nat} (h : srtB L a b) (e : ∀ t, a ≤ t → t < b → M[t]? = L[t]?) : srtB M a b := fun i j x y h1 h2 h3 h4 h5 => h i j x y h1 h2 h3 (by rw [← e i (by omega) (by omega)]; exact h4) (by rw [← e j (by omega) (by omega)]; exact h5)
theorem srtB.shift {L M : List Bd} {a b c d : Nat} (h : srtB L a b) (e : ∀ t, c ≤ t → t < d → a ≤ t + a - c ∧ t + a - c < b ∧ M[t]? = L[t + a - c]?) : srtB M c d := fun i j x y h1 h2 h3 h4 h5 => by
  obtain ⟨i1, i2, i3⟩ := e i (by omega) (by omega)
  obtain ⟨j1, j2, j3⟩ := e j (by omega) (by omega)
  exact h (i + a - c) (j + a - c) x y i1 (by omega) j2 (by rw [← i3]; exact h4) (by rw [← j3]; exact h5)
def leB (L : List Bd) (a b c d : Nat) : Prop := ∀ i j x y, a ≤ i → i < b → c ≤ j → j < d → L[i]? = some x → L[j]? = some y → x.v ≤ y.v
theorem srtB.glue {L : List Bd} {a m b : Nat} (h1 : srtB L a m) (h2 : srtB L m b) (h3 : leB L a m m b) : srtB L a b := fun i j x y k1 k2 k3 k4 k5 => by
  by_cases c : j < m
  · exact h1 i j x y k1 k2 c k4 k5
  · by_cases d : m ≤ i
    · exact h2 i j x y d k2 k3 k4 k5
    · exact h3 i j x y k1 (by omega) (by omega) k3 k4 k5
theorem leB.mg {L σ : List Bd} {a m b : Nat} (h : leB L a m m b) (ham : a ≤ m) (hmb : m ≤ b) (hm : Mg a m L σ ∨ Mg m b L σ) : leB σ a m m b := fun i j x y k1 k2 k3 k4 k5 k6 => by
  rcases hm with hm | hm
  · obtain ⟨u, u1, u2, u3⟩ := hm.ins i k1 k2
    exact h u j x y u1 u2 k3 k4 (by rw [← u3]; exact k5) (by rw [← hm.out j (by omega)]; exact k6)
  · obtain ⟨u, u1, u2, u3⟩ := hm.ins j k3 k4
    exact h i u x y k1 k2 u1 u2 (by rw [← hm.out i (by omega)]; exact k5) (by rw [← u3]; exact k6)
theorem turn_facts {L σ : List Bd} {a m b s e mid : Nat} (has : a ≤ s) (hsm : s ≤ m) (hme : m ≤ e) (heb : e ≤ b) (hb : b ≤ L.length) (hse : s + (e - m) = mid) (h1 : srtB L a m) (h2 : srtB L m b) (hlo : leB L a s e b) (hhi : leB L m e s m) (h : IsG σ L.length (rtG s m e fun t => L[t]?)) :
    srtB σ a s ∧ srtB σ s mid ∧ srtB σ mid e ∧ srtB σ e b ∧ leB σ a mid mid b := by
  have ha : ∀ t, t < s → σ[t]? = L[t]? := fun t ht => by rw [h.2]; unfold rtG; rw [if_neg (by omega), if_neg (by omega)]
  have hs : ∀ t, s ≤ t → t < mid → σ[t]? = L[t + m - s]? := fun t ht ht' => by rw [h.2]; unfold rtG; rw [if_pos (by omega)]; congr 1; omega
  have hm : ∀ t, mid ≤ t → t < e → σ[t]? = L[t + s - mid]? := fun t ht ht' => by rw [h.2]; unfold rtG; rw [if_neg (by omega), if_pos (by omega)]; congr 1; omega
  have he : ∀ t, e ≤ t → σ[t]? = L[t]? := fun t ht => by rw [h.2]; unfold rtG; rw [if_neg (by omega), if_neg (by omega)]
  refine ⟨(h1.sub (Nat.le_refl _) hsm).same fun t _ ht => ha t ht, (h2.sub (Nat.le_refl m) heb).shift fun t k1 k2 => ⟨by omega, by omega, hs t k1 k2⟩, (h1.sub has (Nat.le_refl m)).shift fun t k1 k2 => ⟨by omega, by omega, hm t k1 k2⟩, (h2.sub hme (Nat.le_refl b)).same fun t ht _ => he t ht, ?_⟩
  intro i j x y k1 k2 k3 k4 k5 k6
  by_cases ci : i < s
  · rw [ha i ci] at k5
    by_cases cj : j < e
    · rw [hm j k3 cj] at k6
      exact h1 i (j + s - mid) x y k1 (by omega) (by omega) k5 k6
    · rw [he j (by omega)] at k6
      exact hlo i j x y k1 ci (by omega) k4 k5 k6
  · rw [hs i (by omega) k2] at k5
    by_cases cj : j < e
    · rw [hm j k3 cj] at k6
      exact hhi (i + m - s) (j + s - mid) x y (by omega) (by omega) (by omega) (by omega) k5 k6
    · rw [he j (by omega)] at k6
      exact h2 (i + m - s) j x y (by omega) (by omega) k4 k5 k6
structure Cut (L : List Bd) (n s0 s r0 : Nat) : Prop where
  lo : ∀ c x y, s0 ≤ c → c < s → L[c]? = some x → L[n - 1 - c]? = some y → x.v ≤ y.v
  hi : ∀ c x y, s ≤ c → c < r0 → L[c]? = some x → L[n - 1 - c]? = some y → y.v < x.v
theorem Cut.sides {L : List Bd} {a m b s n s0 r0 : Nat} (hb : b ≤ L.length) (ham : a < m) (hmb : m < b) (hn : n = (a + b) / 2 + m) (h0 : (m > (a + b) / 2 ∧ s0 = n - b ∧ r0 = (a + b) / 2) ∨ (m ≤ (a + b) / 2 ∧ s0 = a ∧ r0 = m)) (h1 : srtB L a m) (h2 : srtB L m b) (hs0 : s0 ≤ s) (hs : s ≤ r0) (hc : Cut L n s0 s r0) :
    a ≤ s ∧ s ≤ m ∧ m ≤ n - s ∧ n - s ≤ b ∧ s + (n - s - m) = (a + b) / 2 ∧ leB L a s (n - s) b ∧ leB L m (n - s) s m := by
  have hmid : a ≤ (a + b) / 2 ∧ (a + b) / 2 < b ∧ (a + b) / 2 + (a + b) / 2 ≤ a + b ∧ a + b ≤ (a + b) / 2 + (a + b) / 2 + 1 := by omega
  obtain ⟨mid, hM⟩ : ∃ mid, mid = (a + b) / 2 := ⟨_, rfl⟩
  rw [← hM] at hmid hn h0 ⊢
  obtain ⟨q1, q2, q3, q4⟩ := hmid
  clear hM
  refine ⟨by omega, by omega, by omega, by omega, by omega, ?_, ?_⟩
  · intro i j x y k1 k2 k3 k4 k5 k6
    have hss : s0 < s := by omega
    obtain ⟨x', hx'⟩ := bd_at (L := L) (t := s - 1) (by omega)
    obtain ⟨y', hy'⟩ := bd_at (L := L) (t := n - s) (by omega)
    have e1 := hc.lo (s - 1) x' y' (by omega) (by omega) hx' (by rw [show n - 1 - (s - 1) = n - s by omega]; exact hy')
    have e2 : x.v ≤ x'.v := by
      by_cases c : i = s - 1
      · rw [c, hx'] at k5; cases k5; exact Int.le_refl _
      · exact h1 i (s - 1) x x' k1 (by omega) (by omega) k5 hx'
    have e3 : y'.v ≤ y.v := by
      by_cases c : j = n - s
      · rw [c, hy'] at k6; cases k6; exact Int.le_refl _
      · exact h2 (n - s) j y' y (by omega) (by omega) k4 hy' k6
    omega
  · intro i j x y k1 k2 k3 k4 k5 k6
    have hss : s < r0 := by omega
    obtain ⟨x', hx'⟩ := bd_at (L := L) (t := s) (by omega)
    obtain ⟨y', hy'⟩ := bd_at (L := L) (t := n - 1 - s) (by omega)
    have e1 := hc.hi s x' y' (by omega) (by omega) hx' hy'
    have e2 : x'.v ≤ y.v := by
      by_cases c : j = s
      · rw [c, hx'] at k6; cases k6; exact Int.le_refl _
      · exact h1 s j x' y (by omega) (by omega) k4 hx' k6
    have e3 : x.v ≤ y'.v := by
      by_cases c : i = n - 1 - s
      · rw [c, hy'] at k5; cases k5; exact Int.le_refl _
      · exact h2 i (n - 1 - s) x y' k1 (by omega) (by omega) k5 hy'
    omega
end Go.Proofs.YtglmoficcjphaaaGreat
namespace Go.Proofs.YtglmoficcjphaaaGreat
open Go.RowKit
set_option linter.unusedVariables false
set_option linter.unusedSimpArgs false
set_option maxRecDepth 100000
section
variable {P : Program} {w0 : World} {U0 : UX} {nt : Nat} {Q : Exit → AS → Prop} {s : AS}
def midQE (w0 : World) (U0 : UX) (nt : Nat) {Sg : Type} (R : Sg → Prop) (st : Sg → AS) (Q : Exit → AS → Prop) : Exit → AS → Prop
  | .normal, s => ∃ σ, R σ ∧ Wk w0 U0 nt s (st σ)
  | e, s => Q e s
theorem awp_midE {Sg : Type} {x y : Code} (R : Sg → Prop) (st : Sg → AS) (hx : AWp P w0 U0 nt x (midQE w0 U0 nt R st Q) s) (hy : ∀ σ, R σ → AWp P w0 U0 nt y Q (st σ)) : AWp P w0 U0 nt (.seq x y) Q s :=
  aS fun M a w hs => WP_mono (hx M a w hs) fun e a' w' ⟨s', h1, h2⟩ => by
    cases e with
    | normal => obtain ⟨σ, k1, k2⟩ := h1; exact ⟨st σ, hy σ k1, k2 a' w' h2⟩
    | _ => exact ⟨s', h1, h2⟩
variable {ops : Array Oper} {o : Oper} {gs : List Nat} {S : Nat → Option AV} {d : Nat}
theorem a_shr (hg : Gd w0 U0 nt ops o gs S) (hd : o.dst = some d) (hn : Nat.blt d nt = true) (h5 : Nat.blt d 100000 = true) {x y : Operand} {t1 t2 : TypeId} {k : IntKind} {i : Int} {n q p n' q' p'} (ho : o.op = .binOp .shr t1 x y t2) (hx : ev S x = some ⟨0, .sc (.int k i), n, q, p⟩) (hy : ev S y = some ⟨0, .sc (.int k 1), n', q', p'⟩) : AOp P w0 U0 nt ops o (gs ++ (rd x ++ rd y)) [] S [(d, .val (.sc (.int k (i / 2))))] :=
  aop_int2 hg hd hn h5 ho hx hy (fun w => by
    have hm : min (1 : Int).toNat k.bits = 1 := by cases k <;> rfl
    rw [binOp_shr, shift_shr_any k k i 1 (by decide), hm]
    simp [go_sem]) rfl
end

theorem rt_up {L M : List Bd} {a k : Nat} {y z : Bd} (hak : a ≤ k) (hk : k + 1 < L.length) (h : IsG M L.length (rtG a (a + 1) (k + 1) fun t => L[t]?)) (hz : M[k]? = some z) (hy : M[k + 1]? = some y) : IsG ((M.set k y).set (k + 1) z) L.length (rtG a (a + 1) (k + 2) fun t => L[t]?) := by
  have hl := h.1
  have ez := h.2 k
  have ey := h.2 (k + 1)
  rw [hz] at ez
  rw [hy] at ey
  refine ⟨by rw [List.length_set, List.length_set]; exact hl, fun t => ?_⟩
  have et := h.2 t
  unfold rtG at ez ey et ⊢
  rw [List.getElem?_set, List.getElem?_set]
  by_cases c1 : t = k + 1
  · subst c1
    rw [if_pos rfl, if_pos (by rw [List.length_set]; omega), if_neg (by omega), if_pos (by omega), ez]
    by_cases c : a ≤ k ∧ k < a + (k + 1 - (a + 1))
    · omega
    · rw [if_neg c, if_pos (by omega)]; congr 1; omega
  · rw [if_neg (by omega)]
    by_cases c2 : t = k
    · subst c2
      rw [if_pos rfl, if_pos (by omega), if_pos (by omega), ey, if_neg (by omega), if_neg (by omega)]; congr 1; omega
    · rw [if_neg (by omega), et]
      by_cases c3 : a ≤ t ∧ t < a + (k + 1 - (a + 1))
      · rw [if_pos c3, if_pos (by omega)]
      · rw [if_neg c3, if_neg (by omega), if_neg (by omega), if_neg (by omega)]
theorem rt_dn {L M : List Bd} {k m : Nat} {y z : Bd} (hkm : k + 1 ≤ m) (hm : m < L.length) (h : IsG M L.length (rtG (k + 1) m (m + 1) fun t => L[t]?)) (hz : M[k + 1]? = some z) (hy : M[k]? = some y) : IsG ((M.set (k + 1) y).set k z) L.length (rtG k m (m + 1) fun t => L[t]?) := by
  have hl := h.1
  have ez := h.2 (k + 1)
  have ey := h.2 k
  rw [hz] at ez
  rw [hy] at ey
  refine ⟨by rw [List.length_set, List.length_set]; exact hl, fun t => ?_⟩
  have et := h.2 t
  unfold rtG at ez ey et ⊢
  rw [List.getElem?_set, List.getElem?_set]
  by_cases c1 : t = k
  · subst c1
    rw [if_pos rfl, if_pos (by rw [List.length_set]; omega), if_pos (by omega), ez, if_pos (by omega)]; congr 1; omega
  · rw [if_neg (by omega)]
    by_cases c2 : t = k + 1
    · subst c2
      rw [if_pos rfl, if_pos (by omega), if_neg (by omega), if_pos (by omega), ey, if_neg (by omega), if_neg (by omega)]; congr 1; omega
    · rw [if_neg (by omega), et]
      by_cases c3 : k + 1 + (m + 1 - m) ≤ t ∧ t < m + 1
      · rw [if_neg (by omega), if_pos c3, if_neg (by omega), if_pos (by omega)]
      · rw [if_neg (by omega), if_neg c3, if_neg (by omega), if_neg (by omega)]
theorem mid_cast (i j : Nat) : ((i : Int) + j) / 2 = (((i + j) / 2 : Nat) : Int) := by omega
theorem mid_wrap {i j : Nat} (hi : i ≤ 1000000) (hj : j ≤ 1000000) : IntKind.u64.wrap ((i : Int) + j) = (i : Int) + j := by rw [IntKind.wrap_u64]; omega
noncomputable abbrev symR (a b : Nat) (L σ : List Bd) : Prop := Mg a b L σ ∧ srtB σ a b
-- 
set_option maxHeartbeats 4000000 in
theorem symM_one (cmp : Bd → Bd → Int) (fc : CV) (hcm : ∀ W x y, AFunW Tryz.prog W fc [x.cw, y.cw] (.val (.i (cmp x y)))) (hv : ∀ x y, cmp x y < 0 ↔ x.v < y.v) (L : List Bd) (a m b : Nat) (ham : m = a + 1) (hmb : m < b) (hb : b ≤ L.length) (hl : L.length ≤ 1000000) (h2 : srtB L m b) : AFunE (Sg := List Bd) Tryz.prog 160 (rwB L) [.sl 400000 0 L.length 3, .val (.i a), .val (.i m), .val (.i b), .val fc] (symR a b L) (fun _ => .tup []) (fun σ => rwB σ) := by
  refine afunE_of Tryz.func160 Tryz.ntmps160 rfl rfl rfl rfl rfl (fun σ => rfl) ?_
  intro w U hU
  refine aS (aS (aR ?_))
  (refine nx (aM (gN rfl) rfl rfl rfl rfl rfl) rfl ?_)
  (refine nx (aM (gN rfl) rfl rfl rfl rfl rfl) rfl ?_)
  (refine nx (a_sub (gN rfl) rfl rfl rfl rfl rfl rfl (by first | omega | (simp only [List.length_map, List.length_append, List.length_cons, List.length_nil] <;> omega) | (simp <;> omega))) rfl ?_)
  (refine nx (a_eql (gN rfl) rfl rfl rfl rfl rfl rfl) rfl ?_)
  show AWp _ _ _ _ _ _ _
  refine aC rfl (fun _ => ?_) (fun hc => ?_)
  case refine_2 =>
    have hc := of_decide_eq_false hc
    omega
  refine aS (aR ?_)
  (refine nx (aM (gN rfl) rfl rfl rfl rfl rfl) rfl ?_)
  (refine nx (aA (gN rfl) rfl rfl rfl rfl rfl) rfl ?_)
  show AWp _ _ _ _ _ _ _
  refine aS (aR ?_)
  (refine nx (aM (gN rfl) rfl rfl rfl rfl rfl) rfl ?_)
  (refine nx (aA (gN rfl) rfl rfl rfl rfl rfl) rfl ?_)
  show AWp _ _ _ _ _ _ _
  obtain ⟨z, hz⟩ := bd_at (L := L) (t := a) (by omega)
  have hz' := Bd.map_at hz
  have hlm : (L.map Bd.cv).length = L.length := List.length_map ..
  obtain ⟨N, hN⟩ : ∃ N, N = L.length := ⟨_, rfl⟩
  rw [← hN] at hb hl ⊢
  obtain ⟨st, hst⟩ : ∃ st : Nat → Nat → AS, st = fun i j => (0, AV.sl 400000 0 N 3) :: (1, .val (.i a)) :: (4, .val fc) :: (10, .val (.i (i : Nat))) :: (11, .val (.i (j : Nat))) :: rwB L := ⟨_, rfl⟩
  refine aS (aB (awp_loop (fun k s => ∃ i j, k = j - i ∧ m ≤ i ∧ i ≤ j ∧ j ≤ b ∧ (∀ t x, m ≤ t → t < i → L[t]? = some x → x.v < z.v) ∧ (∀ t x, j ≤ t → t < b → L[t]? = some x → z.v ≤ x.v) ∧ s = st i j) (n := b - m) (s' := st m b) (by rw [hst, hN]; exact wk_sub ⟨rfl, rfl, rfl, rfl, rfl, rfl, trivial⟩) ⟨m, b, rfl, Nat.le_refl _, by omega, Nat.le_refl _, fun t x _ _ _ => by omega, fun t x _ _ _ => by omega, rfl⟩ ?_))
  rintro k s ⟨i, j, rfl, hmi, hij, hjb, hlo, hhi, rfl⟩
  rw [hst]
  refine aS (aS (aR ?_))
  (refine nx (aM (gN rfl) rfl rfl rfl rfl rfl) rfl ?_)
  (refine nx (aM (gN rfl) rfl rfl rfl rfl rfl) rfl ?_)
  (refine nx (a_lss (gN rfl) rfl rfl rfl rfl rfl rfl) rfl ?_)
  show AWp _ _ _ _ _ _ _
  refine aC rfl (fun hc => aK ?_) (fun hc => aE ?_)
  · have hlt : i < j := by have := of_decide_eq_true hc; omega
    show AWp _ _ _ _ _ _ _
    have hw := mid_wrap (i := i) (j := j) (by omega) (by omega)
    refine aB (aS (aR ?_))
    (refine nx (aM (gN rfl) rfl rfl rfl rfl rfl) rfl ?_)
    (refine nx (aM (gN rfl) rfl rfl rfl rfl rfl) rfl ?_)
    (refine nx (a_add (gN rfl) rfl rfl rfl rfl rfl rfl (by first | omega | (simp only [List.length_map, List.length_append, List.length_cons, List.length_nil] <;> omega) | (simp <;> omega))) rfl ?_)
    (refine nx (a_conv (gN rfl) rfl rfl rfl rfl rfl rfl rfl (by first | rfl | (rw [IntKind.wrap_i64]; omega) | assumption)) rfl ?_)
    (refine nx (a_shr (gN rfl) rfl rfl rfl rfl rfl rfl) rfl ?_)
    (refine nx (a_conv (gN rfl) rfl rfl rfl rfl rfl rfl rfl (by first | rfl | (rw [IntKind.wrap_i64]; omega) | assumption)) rfl ?_)
    (refine nx (aA (gN rfl) rfl rfl rfl rfl rfl) rfl ?_)
    show AWp _ _ _ _ _ _ _
    have hh : i ≤ (i + j) / 2 ∧ (i + j) / 2 < j := by omega
    have hcast := mid_cast i j
    obtain ⟨h, hhd⟩ : ∃ h, h = (i + j) / 2 := ⟨_, rfl⟩
    rw [← hhd] at hh hcast
    refine AWp.wk (wk_sub (s' := (0, AV.sl 400000 0 N 3) :: (1, .val (.i a)) :: (4, .val fc) :: (10, .val (.i (i : Nat))) :: (11, .val (.i (j : Nat))) :: (12, .val (.i (h : Nat))) :: rwB L) ⟨rfl, rfl, rfl, rfl, rfl, by rw [← hcast]; rfl, rfl, trivial⟩) ?_
    obtain ⟨x, hx⟩ := bd_at (L := L) (t := h) (by omega)
    have hx' := Bd.map_at hx
    refine aS (aD (by kernel_rfl) (by kernel_rfl) ?_)
    (refine nx (aM (gN rfl) rfl rfl rfl rfl rfl) rfl ?_)
    (refine nx (aM (gN rfl) rfl rfl rfl rfl rfl) rfl ?_)
    (refine nx (aM (gN rfl) rfl rfl rfl rfl rfl) rfl ?_)
    (refine nx (aIm (k := h) (gN rfl) rfl rfl rfl rfl rfl rfl rfl rfl rfl (by first | rfl | omega | (simp only [List.length_set, List.length_map, List.length_append, List.length_cons, List.length_nil] <;> omega) | (simp <;> omega))) rfl ?_)
    (refine nx (a_loadM (gN rfl) rfl rfl rfl rfl rfl rfl rfl rfl (hx') rfl (by first | rfl | omega | (simp only [List.length_set, List.length_map, List.length_append, List.length_cons, List.length_nil] <;> omega) | (simp <;> omega)) rfl rfl) rfl ?_)
    (refine nx (aM (gN rfl) rfl rfl rfl rfl rfl) rfl ?_)
    (refine nx (aM (gN rfl) rfl rfl rfl rfl rfl) rfl ?_)
    (refine nx (aIm (k := a) (gN rfl) rfl rfl rfl rfl rfl rfl rfl rfl rfl (by first | rfl | omega | (simp only [List.length_set, List.length_map, List.length_append, List.length_cons, List.length_nil] <;> omega) | (simp <;> omega))) rfl ?_)
    (refine nx (a_loadM (gN rfl) rfl rfl rfl rfl rfl rfl rfl rfl (hz') rfl (by first | rfl | omega | (simp only [List.length_set, List.length_map, List.length_append, List.length_cons, List.length_nil] <;> omega) | (simp <;> omega)) rfl rfl) rfl ?_)
    (refine nx (a_callw (gN rfl) rfl rfl rfl rfl rfl rfl (hcm _ x z)) rfl ?_)
    (refine nx (a_lss (gN rfl) rfl rfl rfl rfl rfl rfl) rfl ?_)
    refine ⟨by kernel_rfl, ?_⟩
    show AWp _ _ _ _ _ _ _
    refine aC rfl (fun c1 => ?_) (fun c1 => ?_)
    · have c2 := (hv x z).1 (of_decide_eq_true c1)
      refine aR ?_
      (refine nx (aM (gN rfl) rfl rfl rfl rfl rfl) rfl ?_)
      (refine nx (a_add (gN rfl) rfl rfl rfl rfl rfl rfl (by first | omega | (simp only [List.length_map, List.length_append, List.length_cons, List.length_nil] <;> omega) | (simp <;> omega))) rfl ?_)
      (refine nx (aA (gN rfl) rfl rfl rfl rfl rfl) rfl ?_)
      refine ⟨j - (h + 1), st (h + 1) j, by omega, ⟨h + 1, j, rfl, by omega, by omega, hjb, fun t y k1 k2 k3 => ?_, hhi, by rw [hst]⟩, by rw [hst]; exact wk_sub ⟨rfl, rfl, rfl, rfl, rfl, rfl, trivial⟩⟩
      by_cases ct : t = h
      · rw [ct, hx] at k3; cases k3; exact c2
      · exact Int.lt_of_le_of_lt (h2 t h y x k1 (by omega) (by omega) k3 hx) c2
    · have c2 : ¬ x.v < z.v := fun c => of_decide_eq_false c1 ((hv x z).2 c)
      refine aR ?_
      (refine nx (aM (gN rfl) rfl rfl rfl rfl rfl) rfl ?_)
      (refine nx (aA (gN rfl) rfl rfl rfl rfl rfl) rfl ?_)
      refine ⟨h - i, st i h, by omega, ⟨i, h, rfl, hmi, by omega, by omega, hlo, fun t y k1 k2 k3 => ?_, by rw [hst]⟩, by rw [hst]; exact wk_sub ⟨rfl, rfl, rfl, rfl, rfl, rfl, trivial⟩⟩
      by_cases ct : t = h
      · rw [ct, hx] at k3; cases k3; omega
      · have := h2 h t x y (by omega) (by omega) (by omega) hx k3
        omega
  · have hij' : i = j := by have := of_decide_eq_false hc; omega
    subst hij'
    show AWp _ _ _ _ _ _ _
    refine aS (aS (aR ?_))
    (refine nx (aM (gN rfl) rfl rfl rfl rfl rfl) rfl ?_)
    (refine nx (aA (gN rfl) rfl rfl rfl rfl rfl) rfl ?_)
    show AWp _ _ _ _ _ _ _
    obtain ⟨st2, hst2⟩ : ∃ st : Nat → List Bd → AS, st = fun k M => (0, AV.sl 400000 0 N 3) :: (10, .val (.i (i : Nat))) :: (13, .val (.i (k : Nat))) :: rwB M := ⟨_, rfl⟩
    refine aB (awp_loop (fun q s => ∃ k M, q = i - k ∧ a ≤ k ∧ k < i ∧ IsG M N (rtG a (a + 1) (k + 1) fun t => L[t]?) ∧ s = st2 k M) (n := i - a) (s' := st2 a L) (by rw [hst2]; exact wk_sub ⟨rfl, rfl, rfl, rfl, trivial⟩) ⟨a, L, rfl, Nat.le_refl _, by omega, by rw [hN]; exact rt_id (by omega) (by omega) (.inr rfl), rfl⟩ ?_)
    rintro q s ⟨k, M, rfl, hak, hki, hM, rfl⟩
    rw [hst2]
    refine aS (aS (aR ?_))
    (refine nx (aM (gN rfl) rfl rfl rfl rfl rfl) rfl ?_)
    (refine nx (aM (gN rfl) rfl rfl rfl rfl rfl) rfl ?_)
    (refine nx (a_sub (gN rfl) rfl rfl rfl rfl rfl rfl (by first | omega | (simp only [List.length_map, List.length_append, List.length_cons, List.length_nil] <;> omega) | (simp <;> omega))) rfl ?_)
    (refine nx (a_lss (gN rfl) rfl rfl rfl rfl rfl rfl) rfl ?_)
    show AWp _ _ _ _ _ _ _
    refine aC rfl (fun hc => aK ?_) (fun hc => aE ?_)
    · have hlt : k + 1 < i := by have := of_decide_eq_true hc; omega
      have hMl := hM.1
      obtain ⟨x, hx⟩ := bd_at (L := M) (t := k) (by omega)
      obtain ⟨y, hy⟩ := bd_at (L := M) (t := k + 1) (by omega)
      have hx' := Bd.map_at hx
      have hy' := Bd.map_at hy
      have hlm : (M.map Bd.cv).length = M.length := List.length_map ..
      have hy2 : ((M.map Bd.cv).set k y.cw)[k + 1]? = some y.cw := by rw [List.getElem?_set_ne (by omega)]; exact hy'
      show AWp _ _ _ _ _ _ _
      refine aS (aB (aD (by kernel_rfl) (by kernel_rfl) ?_))
      (refine nx (aM (gN rfl) rfl rfl rfl rfl rfl) rfl ?_)
      (refine nx (aM (gN rfl) rfl rfl rfl rfl rfl) rfl ?_)
      (refine nx (aM (gN rfl) rfl rfl rfl rfl rfl) rfl ?_)
      (refine nx (aM (gN rfl) rfl rfl rfl rfl rfl) rfl ?_)
      (refine nx (a_add (gN rfl) rfl rfl rfl rfl rfl rfl (by first | omega | (simp only [List.length_map, List.length_append, List.length_cons, List.length_nil] <;> omega) | (simp <;> omega))) rfl ?_)
      (refine nx (aM (gN rfl) rfl rfl rfl rfl rfl) rfl ?_)
      (refine nx (aM (gN rfl) rfl rfl rfl rfl rfl) rfl ?_)
      (refine nx (a_add (gN rfl) rfl rfl rfl rfl rfl rfl (by first | omega | (simp only [List.length_map, List.length_append, List.length_cons, List.length_nil] <;> omega) | (simp <;> omega))) rfl ?_)
      (refine nx (aIm (k := k + 1) (gN rfl) rfl rfl rfl rfl rfl rfl rfl rfl rfl (by first | rfl | omega | (simp only [List.length_set, List.length_map, List.length_append, List.length_cons, List.length_nil] <;> omega) | (simp <;> omega))) rfl ?_)
      (refine nx (a_loadM (gN rfl) rfl rfl rfl rfl rfl rfl rfl rfl (hy') rfl (by first | rfl | omega | (simp only [List.length_set, List.length_map, List.length_append, List.length_cons, List.length_nil] <;> omega) | (simp <;> omega)) rfl rfl) rfl ?_)
      (refine nx (aM (gN rfl) rfl rfl rfl rfl rfl) rfl ?_)
      (refine nx (aM (gN rfl) rfl rfl rfl rfl rfl) rfl ?_)
      (refine nx (aIm (k := k) (gN rfl) rfl rfl rfl rfl rfl rfl rfl rfl rfl (by first | rfl | omega | (simp only [List.length_set, List.length_map, List.length_append, List.length_cons, List.length_nil] <;> omega) | (simp <;> omega))) rfl ?_)
      (refine nx (a_loadM (gN rfl) rfl rfl rfl rfl rfl rfl rfl rfl (hx') rfl (by first | rfl | omega | (simp only [List.length_set, List.length_map, List.length_append, List.length_cons, List.length_nil] <;> omega) | (simp <;> omega)) rfl rfl) rfl ?_)
      (refine nx (aIm (k := k) (gN rfl) rfl rfl rfl rfl rfl rfl rfl rfl rfl (by first | rfl | omega | (simp only [List.length_set, List.length_map, List.length_append, List.length_cons, List.length_nil] <;> omega) | (simp <;> omega))) rfl ?_)
      (refine nx (a_storeM (gN rfl) rfl rfl rfl rfl rfl rfl (hx') rfl rfl (by first | rfl | omega | (simp only [List.length_set, List.length_map, List.length_append, List.length_cons, List.length_nil] <;> omega) | (simp <;> omega)) rfl) rfl ?_)
      (refine nx (aIm (k := k + 1) (gN rfl) rfl rfl rfl rfl rfl rfl rfl rfl rfl (by first | rfl | omega | (simp only [List.length_set, List.length_map, List.length_append, List.length_cons, List.length_nil] <;> omega) | (simp <;> omega))) rfl ?_)
      (refine nx (a_storeM (gN rfl) rfl rfl rfl rfl rfl rfl (hy2) rfl rfl (by first | rfl | omega | (simp only [List.length_set, List.length_map, List.length_append, List.length_cons, List.length_nil] <;> omega) | (simp <;> omega)) rfl) rfl ?_)
      refine ⟨by kernel_rfl, ?_⟩
      show AWp _ _ _ _ _ _ _
      refine aR ?_
      (refine nx (aM (gN rfl) rfl rfl rfl rfl rfl) rfl ?_)
      (refine nx (a_add (gN rfl) rfl rfl rfl rfl rfl rfl (by first | omega | (simp only [List.length_map, List.length_append, List.length_cons, List.length_nil] <;> omega) | (simp <;> omega))) rfl ?_)
      (refine nx (aA (gN rfl) rfl rfl rfl rfl rfl) rfl ?_)
      refine ⟨i - (k + 1), st2 (k + 1) ((M.set k y).set (k + 1) x), by omega, ⟨k + 1, (M.set k y).set (k + 1) x, rfl, by omega, hlt, ?_, by rw [hst2]⟩, ?_⟩
      · rw [hN] at hM ⊢
        exact rt_up hak (by omega) hM hx hy
      · rw [hst2]
        refine wk_sub ⟨rfl, rfl, rfl, ?_, trivial⟩
        rw [← set_map_cv, ← set_map_cv]; rfl
    · have hge : k + 1 = i := by have := of_decide_eq_false hc; omega
      show AWp _ _ _ _ _ _ _
      rw [hge, hN] at hM
      refine aT ⟨.inr rfl, M, ⟨(Mg.rt (by omega) (by omega) (by omega) hM).mono (Nat.le_refl _) hjb, ?_⟩, _, Wk.refl _, rfl, rfl, trivial⟩
      have hf := turn_facts (a := a) (b := b) (mid := i - 1) (Nat.le_refl a) (by omega) (by omega) hjb (by omega) (by omega) (fun i j x y k1 k2 k3 _ _ => by omega) (by rw [← ham]; exact h2) (fun i j x y k1 k2 _ _ _ _ => by omega) (fun t u x y k1 k2 k3 k4 k5 k6 => by
        rw [show u = a by omega, hz] at k6; cases k6
        have := hlo t x (by omega) (by omega) k5
        omega) hM
      refine hf.2.1.glue ((hf.2.2.1).glue hf.2.2.2.1 fun t u x y k1 k2 k3 k4 k5 k6 => ?_) hf.2.2.2.2
      have e1 : M[t]? = some z := by
        rw [hM.2, ← hz]; unfold rtG; rw [if_neg (by omega), if_pos (by omega)]; congr 1; omega
      rw [e1] at k5; cases k5
      have e2 : M[u]? = L[u]? := by rw [hM.2]; unfold rtG; rw [if_neg (by omega), if_neg (by omega)]
      rw [e2] at k6
      exact hhi u y k3 k4 k6
-- 
set_option maxHeartbeats 4000000 in
theorem symM_last (cmp : Bd → Bd → Int) (fc : CV) (hcm : ∀ W x y, AFunW Tryz.prog W fc [x.cw, y.cw] (.val (.i (cmp x y)))) (hv : ∀ x y, cmp x y < 0 ↔ x.v < y.v) (L : List Bd) (a m b : Nat) (ham : a + 1 < m) (hmb : b = m + 1) (hb : b ≤ L.length) (hl : L.length ≤ 1000000) (h1 : srtB L a m) : AFunE (Sg := List Bd) Tryz.prog 160 (rwB L) [.sl 400000 0 L.length 3, .val (.i a), .val (.i m), .val (.i b), .val fc] (symR a b L) (fun _ => .tup []) (fun σ => rwB σ) := by
  refine afunE_of Tryz.func160 Tryz.ntmps160 rfl rfl rfl rfl rfl (fun σ => rfl) ?_
  intro w U hU
  refine aS (aS (aR ?_))
  (refine nx (aM (gN rfl) rfl rfl rfl rfl rfl) rfl ?_)
  (refine nx (aM (gN rfl) rfl rfl rfl rfl rfl) rfl ?_)
  (refine nx (a_sub (gN rfl) rfl rfl rfl rfl rfl rfl (by first | omega | (simp only [List.length_map, List.length_append, List.length_cons, List.length_nil] <;> omega) | (simp <;> omega))) rfl ?_)
  (refine nx (a_eql (gN rfl) rfl rfl rfl rfl rfl rfl) rfl ?_)
  show AWp _ _ _ _ _ _ _
  refine aC rfl (fun hc => ?_) (fun _ => aK ?_)
  case refine_1 =>
    have hc := of_decide_eq_true hc
    omega
  show AWp _ _ _ _ _ _ _
  refine aS (aS (aR ?_))
  (refine nx (aM (gN rfl) rfl rfl rfl rfl rfl) rfl ?_)
  (refine nx (aM (gN rfl) rfl rfl rfl rfl rfl) rfl ?_)
  (refine nx (a_sub (gN rfl) rfl rfl rfl rfl rfl rfl (by first | omega | (simp only [List.length_map, List.length_append, List.length_cons, List.length_nil] <;> omega) | (simp <;> omega))) rfl ?_)
  (refine nx (a_eql (gN rfl) rfl rfl rfl rfl rfl rfl) rfl ?_)
  show AWp _ _ _ _ _ _ _
  refine aC rfl (fun _ => ?_) (fun hc => ?_)
  case refine_2 =>
    have hc := of_decide_eq_false hc
    omega
  refine aS (aR ?_)
  (refine nx (aM (gN rfl) rfl rfl rfl rfl rfl) rfl ?_)
  (refine nx (aA (gN rfl) rfl rfl rfl rfl rfl) rfl ?_)
  show AWp _ _ _ _ _ _ _
  refine aS (aR ?_)
  (refine nx (aM (gN rfl) rfl rfl rfl rfl rfl) rfl ?_)
  (refine nx (aA (gN rfl) rfl rfl rfl rfl rfl) rfl ?_)
  show AWp _ _ _ _ _ _ _
  obtain ⟨z, hz⟩ := bd_at (L := L) (t := m) (by omega)
  have hz' := Bd.map_at hz
  have hlm : (L.map Bd.cv).length = L.length := List.length_map ..
  obtain ⟨N, hN⟩ : ∃ N, N = L.length := ⟨_, rfl⟩
  rw [← hN] at hb hl ⊢
  obtain ⟨st, hst⟩ : ∃ st : Nat → Nat → AS, st = fun i j => (0, AV.sl 400000 0 N 3) :: (2, .val (.i m)) :: (4, .val fc) :: (14, .val (.i (i : Nat))) :: (15, .val (.i (j : Nat))) :: rwB L := ⟨_, rfl⟩
  refine aS (aB (awp_loop (fun k s => ∃ i j, k = j - i ∧ a ≤ i ∧ i ≤ j ∧ j ≤ m ∧ (∀ t x, a ≤ t → t < i → L[t]? = some x → x.v ≤ z.v) ∧ (∀ t x, j ≤ t → t < m → L[t]? = some x → z.v < x.v) ∧ s = st i j) (n := m - a) (s' := st a m) (by rw [hst, hN]; exact wk_sub ⟨rfl, rfl, rfl, rfl, rfl, rfl, trivial⟩) ⟨a, m, rfl, Nat.le_refl _, by omega, Nat.le_refl _, fun t x _ _ _ => by omega, fun t x _ _ _ => by omega, rfl⟩ ?_))
  rintro k s ⟨i, j, rfl, hmi, hij, hjb, hlo, hhi, rfl⟩
  rw [hst]
  refine aS (aS (aR ?_))
  (refine nx (aM (gN rfl) rfl rfl rfl rfl rfl) rfl ?_)
  (refine nx (aM (gN rfl) rfl rfl rfl rfl rfl) rfl ?_)
  (refine nx (a_lss (gN rfl) rfl rfl rfl rfl rfl rfl) rfl ?_)
  show AWp _ _ _ _ _ _ _
  refine aC rfl (fun hc => aK ?_) (fun hc => aE ?_)
  · have hlt : i < j := by have := of_decide_eq_true hc; omega
    show AWp _ _ _ _ _ _ _
    have hw := mid_wrap (i := i) (j := j) (by omega) (by omega)
    refine aB (aS (aR ?_))
    (refine nx (aM (gN rfl) rfl rfl rfl rfl rfl) rfl ?_)
    (refine nx (aM (gN rfl) rfl rfl rfl rfl rfl) rfl ?_)
    (refine nx (a_add (gN rfl) rfl rfl rfl rfl rfl rfl (by first | omega | (simp only [List.length_map, List.length_append, List.length_cons, List.length_nil] <;> omega) | (simp <;> omega))) rfl ?_)
    (refine nx (a_conv (gN rfl) rfl rfl rfl rfl rfl rfl rfl (by first | rfl | (rw [IntKind.wrap_i64]; omega) | assumption)) rfl ?_)
    (refine nx (a_shr (gN rfl) rfl rfl rfl rfl rfl rfl) rfl ?_)
    (refine nx (a_conv (gN rfl) rfl rfl rfl rfl rfl rfl rfl (by first | rfl | (rw [IntKind.wrap_i64]; omega) | assumption)) rfl ?_)
    (refine nx (aA (gN rfl) rfl rfl rfl rfl rfl) rfl ?_)
    show AWp _ _ _ _ _ _ _
    have hh : i ≤ (i + j) / 2 ∧ (i + j) / 2 < j := by omega
    have hcast := mid_cast i j
    obtain ⟨h, hhd⟩ : ∃ h, h = (i + j) / 2 := ⟨_, rfl⟩
    rw [← hhd] at hh hcast
    refine AWp.wk (wk_sub (s' := (0, AV.sl 400000 0 N 3) :: (2, .val (.i m)) :: (4, .val fc) :: (14, .val (.i (i : Nat))) :: (15, .val (.i (j : Nat))) :: (16, .val (.i (h : Nat))) :: rwB L) ⟨rfl, rfl, rfl, rfl, rfl, by rw [← hcast]; rfl, rfl, trivial⟩) ?_
    obtain ⟨x, hx⟩ := bd_at (L := L) (t := h) (by omega)
    have hx' := Bd.map_at hx
    refine aS (aD (by kernel_rfl) (by kernel_rfl) ?_)
    (refine nx (aM (gN rfl) rfl rfl rfl rfl rfl) rfl ?_)
    (refine nx (aM (gN rfl) rfl rfl rfl rfl rfl) rfl ?_)
    (refine nx (aM (gN rfl) rfl rfl rfl rfl rfl) rfl ?_)
    (refine nx (aIm (k := m) (gN rfl) rfl rfl rfl rfl rfl rfl rfl rfl rfl (by first | rfl | omega | (simp only [List.length_set, List.length_map, List.length_append, List.length_cons, List.length_nil] <;> omega) | (simp <;> omega))) rfl ?_)
    (refine nx (a_loadM (gN rfl) rfl rfl rfl rfl rfl rfl rfl rfl (hz') rfl (by first | rfl | omega | (simp only [List.length_set, List.length_map, List.length_append, List.length_cons, List.length_nil] <;> omega) | (simp <;> omega)) rfl rfl) rfl ?_)
    (refine nx (aM (gN rfl) rfl rfl rfl rfl rfl) rfl ?_)
    (refine nx (aM (gN rfl) rfl rfl rfl rfl rfl) rfl ?_)
    (refine nx (aIm (k := h) (gN rfl) rfl rfl rfl rfl rfl rfl rfl rfl rfl (by first | rfl | omega | (simp only [List.length_set, List.length_map, List.length_append, List.length_cons, List.length_nil] <;> omega) | (simp <;> omega))) rfl ?_)
    (refine nx (a_loadM (gN rfl) rfl rfl rfl rfl rfl rfl rfl rfl (hx') rfl (by first | rfl | omega | (simp only [List.length_set, List.length_map, List.length_append, List.length_cons, List.length_nil] <;> omega) | (simp <;> omega)) rfl rfl) rfl ?_)
    (refine nx (a_callw (gN rfl) rfl rfl rfl rfl rfl rfl (hcm _ z x)) rfl ?_)
    (refine nx (a_lss (gN rfl) rfl rfl rfl rfl rfl rfl) rfl ?_)
    (refine nx (a_not (gN rfl) rfl rfl rfl rfl rfl) rfl ?_)
    refine ⟨by kernel_rfl, ?_⟩
    show AWp _ _ _ _ _ _ _
    refine aC rfl (fun c1 => ?_) (fun c1 => ?_)
    · have c2 : ¬ z.v < x.v := fun c => by
        have := (hv z x).2 c
        simp [this] at c1
      refine aR ?_
      (refine nx (aM (gN rfl) rfl rfl rfl rfl rfl) rfl ?_)
      (refine nx (a_add (gN rfl) rfl rfl rfl rfl rfl rfl (by first | omega | (simp only [List.length_map, List.length_append, List.length_cons, List.length_nil] <;> omega) | (simp <;> omega))) rfl ?_)
      (refine nx (aA (gN rfl) rfl rfl rfl rfl rfl) rfl ?_)
      refine ⟨j - (h + 1), st (h + 1) j, by omega, ⟨h + 1, j, rfl, by omega, by omega, hjb, fun t y k1 k2 k3 => ?_, hhi, by rw [hst]⟩, by rw [hst]; exact wk_sub ⟨rfl, rfl, rfl, rfl, rfl, rfl, trivial⟩⟩
      by_cases ct : t = h
      · rw [ct, hx] at k3; cases k3; omega
      · have := h1 t h y x k1 (by omega) (by omega) k3 hx
        omega
    · have c2 : z.v < x.v := (hv z x).1 (by simpa using c1)
      refine aR ?_
      (refine nx (aM (gN rfl) rfl rfl rfl rfl rfl) rfl ?_)
      (refine nx (aA (gN rfl) rfl rfl rfl rfl rfl) rfl ?_)
      refine ⟨h - i, st i h, by omega, ⟨i, h, rfl, hmi, by omega, by omega, hlo, fun t y k1 k2 k3 => ?_, by rw [hst]⟩, by rw [hst]; exact wk_sub ⟨rfl, rfl, rfl, rfl, rfl, rfl, trivial⟩⟩
      by_cases ct : t = h
      · rw [ct, hx] at k3; cases k3; omega
      · have := h1 h t x y (by omega) (by omega) (by omega) hx k3
        omega
  · have hij' : i = j := by have := of_decide_eq_false hc; omega
    subst hij'
    show AWp _ _ _ _ _ _ _
    refine aS (aS (aR ?_))
    (refine nx (aM (gN rfl) rfl rfl rfl rfl rfl) rfl ?_)
    (refine nx (aA (gN rfl) rfl rfl rfl rfl rfl) rfl ?_)
    show AWp _ _ _ _ _ _ _
    obtain ⟨st2, hst2⟩ : ∃ st : Nat → List Bd → AS, st = fun k M => (0, AV.sl 400000 0 N 3) :: (14, .val (.i (i : Nat))) :: (17, .val (.i (k : Nat))) :: rwB M := ⟨_, rfl⟩
    refine aB (awp_loop (fun q s => ∃ k M, q = k ∧ i ≤ k ∧ k ≤ m ∧ IsG M N (rtG k m (m + 1) fun t => L[t]?) ∧ s = st2 k M) (n := m) (s' := st2 m L) (by rw [hst2]; exact wk_sub ⟨rfl, rfl, rfl, rfl, trivial⟩) ⟨m, L, rfl, by omega, Nat.le_refl _, by rw [hN]; exact rt_id (by omega) (by omega) (.inl rfl), rfl⟩ ?_)
    rintro q s ⟨k, M, hqk, hik, hkm, hM, rfl⟩
    rw [hst2]
    refine aS (aS (aR ?_))
    (refine nx (aM (gN rfl) rfl rfl rfl rfl rfl) rfl ?_)
    (refine nx (aM (gN rfl) rfl rfl rfl rfl rfl) rfl ?_)
    (refine nx (a_gtr (gN rfl) rfl rfl rfl rfl rfl rfl) rfl ?_)
    show AWp _ _ _ _ _ _ _
    refine aC rfl (fun hc => aK ?_) (fun hc => aE ?_)
    · have hlt : i < k := by have := of_decide_eq_true hc; omega
      obtain ⟨k, rfl⟩ : ∃ k', k = k' + 1 := ⟨k - 1, by omega⟩
      have hMl := hM.1
      obtain ⟨x, hx⟩ := bd_at (L := M) (t := k + 1) (by omega)
      obtain ⟨y, hy⟩ := bd_at (L := M) (t := k) (by omega)
      have hx' := Bd.map_at hx
      have hy' := Bd.map_at hy
      have hlm : (M.map Bd.cv).length = M.length := List.length_map ..
      have hy2 : ((M.map Bd.cv).set (k + 1) y.cw)[k]? = some y.cw := by rw [List.getElem?_set_ne (by omega)]; exact hy'
      show AWp _ _ _ _ _ _ _
      refine aS (aB (aD (by kernel_rfl) (by kernel_rfl) ?_))
      (refine nx (aM (gN rfl) rfl rfl rfl rfl rfl) rfl ?_)
      (refine nx (aM (gN rfl) rfl rfl rfl rfl rfl) rfl ?_)
      (refine nx (aM (gN rfl) rfl rfl rfl rfl rfl) rfl ?_)
      (refine nx (aM (gN rfl) rfl rfl rfl rfl rfl) rfl ?_)
      (refine nx (a_sub (gN rfl) rfl rfl rfl rfl rfl rfl (by first | omega | (simp only [List.length_map, List.length_append, List.length_cons, List.length_nil] <;> omega) | (simp <;> omega))) rfl ?_)
      (refine nx (aM (gN rfl) rfl rfl rfl rfl rfl) rfl ?_)
      (refine nx (aM (gN rfl) rfl rfl rfl rfl rfl) rfl ?_)
      (refine nx (a_sub (gN rfl) rfl rfl rfl rfl rfl rfl (by first | omega | (simp only [List.length_map, List.length_append, List.length_cons, List.length_nil] <;> omega) | (simp <;> omega))) rfl ?_)
      (refine nx (aIm (k := k) (gN rfl) rfl rfl rfl rfl rfl rfl rfl rfl rfl (by first | rfl | omega | (simp only [List.length_set, List.length_map, List.length_append, List.length_cons, List.length_nil] <;> omega) | (simp <;> omega))) rfl ?_)
      (refine nx (a_loadM (gN rfl) rfl rfl rfl rfl rfl rfl rfl rfl (hy') rfl (by first | rfl | omega | (simp only [List.length_set, List.length_map, List.length_append, List.length_cons, List.length_nil] <;> omega) | (simp <;> omega)) rfl rfl) rfl ?_)
      (refine nx (aM (gN rfl) rfl rfl rfl rfl rfl) rfl ?_)
      (refine nx (aM (gN rfl) rfl rfl rfl rfl rfl) rfl ?_)
      (refine nx (aIm (k := k + 1) (gN rfl) rfl rfl rfl rfl rfl rfl rfl rfl rfl (by first | rfl | omega | (simp only [List.length_set, List.length_map, List.length_append, List.length_cons, List.length_nil] <;> omega) | (simp <;> omega))) rfl ?_)
      (refine nx (a_loadM (gN rfl) rfl rfl rfl rfl rfl rfl rfl rfl (hx') rfl (by first | rfl | omega | (simp only [List.length_set, List.length_map, List.length_append, List.length_cons, List.length_nil] <;> omega) | (simp <;> omega)) rfl rfl) rfl ?_)
      (refine nx (aIm (k := k + 1) (gN rfl) rfl rfl rfl rfl rfl rfl rfl rfl rfl (by first | rfl | omega | (simp only [List.length_set, List.length_map, List.length_append, List.length_cons, List.length_nil] <;> omega) | (simp <;> omega))) rfl ?_)
      (refine nx (a_storeM (gN rfl) rfl rfl rfl rfl rfl rfl (hx') rfl rfl (by first | rfl | omega | (simp only [List.length_set, List.length_map, List.length_append, List.length_cons, List.length_nil] <;> omega) | (simp <;> omega)) rfl) rfl ?_)
      (refine nx (aIm (k := k) (gN rfl) rfl rfl rfl rfl rfl rfl rfl rfl rfl (by first | rfl | omega | (simp only [List.length_set, List.length_map, List.length_append, List.length_cons, List.length_nil] <;> omega) | (simp <;> omega))) rfl ?_)
      (refine nx (a_storeM (gN rfl) rfl rfl rfl rfl rfl rfl (hy2) rfl rfl (by first | rfl | omega | (simp only [List.length_set, List.length_map, List.length_append, List.length_cons, List.length_nil] <;> omega) | (simp <;> omega)) rfl) rfl ?_)
      refine ⟨by kernel_rfl, ?_⟩
      show AWp _ _ _ _ _ _ _
      refine aR ?_
      (refine nx (aM (gN rfl) rfl rfl rfl rfl rfl) rfl ?_)
      (refine nx (a_sub (gN rfl) rfl rfl rfl rfl rfl rfl (by first | omega | (simp only [List.length_map, List.length_append, List.length_cons, List.length_nil] <;> omega) | (simp <;> omega))) rfl ?_)
      (refine nx (aA (gN rfl) rfl rfl rfl rfl rfl) rfl ?_)
      refine ⟨k, st2 k ((M.set (k + 1) y).set k x), by omega, ⟨k, (M.set (k + 1) y).set k x, rfl, by omega, by omega, ?_, by rw [hst2]⟩, ?_⟩
      · rw [hN] at hM ⊢
        exact rt_dn hkm (by omega) hM hx hy
      · rw [hst2]
        refine wk_sub ⟨rfl, rfl, ?_, ?_, trivial⟩
        · show some (AV.val (.i _)) = some (AV.val (.i _))
          congr 3; omega
        · rw [← set_map_cv, ← set_map_cv]; rfl
    · have hge : k = i := by have := of_decide_eq_false hc; omega
      show AWp _ _ _ _ _ _ _
      rw [hge, hN] at hM
      refine aT ⟨.inr rfl, M, ⟨(Mg.rt (by omega) (by omega) (by omega) hM).mono hmi (by omega), ?_⟩, _, Wk.refl _, rfl, rfl, trivial⟩
      have hf := turn_facts (a := a) (b := b) (mid := i + 1) hmi (by omega) (by omega) (by omega) (by omega) (by omega) h1 (fun i j x y k1 k2 k3 _ _ => by omega) (fun i j x y k1 k2 _ _ _ _ => by omega) (fun t u x y k1 k2 k3 k4 k5 k6 => by
        rw [show t = m by omega, hz] at k5; cases k5
        have := hhi u y (by omega) (by omega) k6
        omega) hM
      refine srtB.glue (m := i + 1) ((hf.1).glue hf.2.1 fun t u x y k1 k2 k3 k4 k5 k6 => ?_) (by rw [hmb]; exact hf.2.2.1) hf.2.2.2.2
      have e1 : M[u]? = some z := by
        rw [hM.2, ← hz]; unfold rtG; rw [if_pos (by omega)]; congr 1; omega
      rw [e1] at k6; cases k6
      have e2 : M[t]? = L[t]? := by rw [hM.2]; unfold rtG; rw [if_neg (by omega), if_neg (by omega)]
      rw [e2] at k5
      exact hlo t x k1 k2 k5
-- 
set_option maxHeartbeats 4000000 in
theorem symM_abs (cmp : Bd → Bd → Int) (fc : CV) (hcm : ∀ W x y, AFunW Tryz.prog W fc [x.cw, y.cw] (.val (.i (cmp x y)))) (hv : ∀ x y, cmp x y < 0 ↔ x.v < y.v) : ∀ (d : Nat) (L : List Bd) (a m b : Nat), b - a ≤ d → a < m → m < b → b ≤ L.length → L.length ≤ 1000000 → srtB L a m → srtB L m b → AFunE (Sg := List Bd) Tryz.prog 160 (rwB L) [.sl 400000 0 L.length 3, .val (.i a), .val (.i m), .val (.i b), .val fc] (symR a b L) (fun _ => .tup []) (fun σ => rwB σ) := by
  intro d
  induction d with
  | zero => intro L a m b hd ham hmb; omega
  | succ d ih =>
  intro L a m b hd ham hmb hb hl h1 h2
  by_cases q1 : m = a + 1
  · exact symM_one cmp fc hcm hv L a m b q1 hmb hb hl h2
  by_cases q2 : b = m + 1
  · exact symM_last cmp fc hcm hv L a m b (by omega) q2 hb hl h1
  refine afunE_of Tryz.func160 Tryz.ntmps160 rfl rfl rfl rfl rfl (fun σ => rfl) ?_
  intro w U hU
  refine aS (aS (aR ?_))
  (refine nx (aM (gN rfl) rfl rfl rfl rfl rfl) rfl ?_)
  (refine nx (aM (gN rfl) rfl rfl rfl rfl rfl) rfl ?_)
  (refine nx (a_sub (gN rfl) rfl rfl rfl rfl rfl rfl (by first | omega | (simp only [List.length_map, List.length_append, List.length_cons, List.length_nil] <;> omega) | (simp <;> omega))) rfl ?_)
  (refine nx (a_eql (gN rfl) rfl rfl rfl rfl rfl rfl) rfl ?_)
  show AWp _ _ _ _ _ _ _
  refine aC rfl (fun hc => ?_) (fun _ => aK ?_)
  case refine_1 =>
    have hc := of_decide_eq_true hc
    omega
  show AWp _ _ _ _ _ _ _
  refine aS (aS (aR ?_))
  (refine nx (aM (gN rfl) rfl rfl rfl rfl rfl) rfl ?_)
  (refine nx (aM (gN rfl) rfl rfl rfl rfl rfl) rfl ?_)
  (refine nx (a_sub (gN rfl) rfl rfl rfl rfl rfl rfl (by first | omega | (simp only [List.length_map, List.length_append, List.length_cons, List.length_nil] <;> omega) | (simp <;> omega))) rfl ?_)
  (refine nx (a_eql (gN rfl) rfl rfl rfl rfl rfl rfl) rfl ?_)
  show AWp _ _ _ _ _ _ _
  refine aC rfl (fun hc => ?_) (fun _ => aK ?_)
  case refine_1 =>
    have hc := of_decide_eq_true hc
    omega
  show AWp _ _ _ _ _ _ _
  have hw := mid_wrap (i := a) (j := b) (by omega) (by omega)
  refine aS (aR ?_)
  (refine nx (aM (gN rfl) rfl rfl rfl rfl rfl) rfl ?_)
  (refine nx (aM (gN rfl) rfl rfl rfl rfl rfl) rfl ?_)
  (refine nx (a_add (gN rfl) rfl rfl rfl rfl rfl rfl (by first | omega | (simp only [List.length_map, List.length_append, List.length_cons, List.length_nil] <;> omega) | (simp <;> omega))) rfl ?_)
  (refine nx (a_conv (gN rfl) rfl rfl rfl rfl rfl rfl rfl (by first | rfl | (rw [IntKind.wrap_i64]; omega) | assumption)) rfl ?_)
  (refine nx (a_shr (gN rfl) rfl rfl rfl rfl rfl rfl) rfl ?_)
  (refine nx (a_conv (gN rfl) rfl rfl rfl rfl rfl rfl rfl (by first | rfl | (rw [IntKind.wrap_i64]; omega) | assumption)) rfl ?_)
  (refine nx (aA (gN rfl) rfl rfl rfl rfl rfl) rfl ?_)
  show AWp _ _ _ _ _ _ _
  have hcast := mid_cast a b
  obtain ⟨mid, hmid⟩ : ∃ mid, mid = (a + b) / 2 := ⟨_, rfl⟩
  have hm2 : mid + mid ≤ a + b ∧ a + b ≤ mid + mid + 1 := by omega
  rw [← hmid] at hcast
  obtain ⟨N, hN⟩ : ∃ N, N = L.length := ⟨_, rfl⟩
  rw [← hN] at hb hl ⊢
  refine AWp.wk (wk_sub (s' := (0, AV.sl 400000 0 N 3) :: (1, .val (.i a)) :: (2, .val (.i m)) :: (3, .val (.i b)) :: (4, .val fc) :: (18, .val (.i (mid : Nat))) :: rwB L) ⟨by rw [hN]; rfl, rfl, rfl, rfl, rfl, by rw [← hcast]; rfl, rfl, trivial⟩) ?_
  refine aS (aR ?_)
  (refine nx (aM (gN rfl) rfl rfl rfl rfl rfl) rfl ?_)
  (refine nx (aM (gN rfl) rfl rfl rfl rfl rfl) rfl ?_)
  (refine nx (a_add (gN rfl) rfl rfl rfl rfl rfl rfl (by first | omega | (simp only [List.length_map, List.length_append, List.length_cons, List.length_nil] <;> omega) | (simp <;> omega))) rfl ?_)
  (refine nx (aA (gN rfl) rfl rfl rfl rfl rfl) rfl ?_)
  show AWp _ _ _ _ _ _ _
  refine aS (aR ?_)
  (refine nx (aA (gN rfl) rfl rfl rfl rfl rfl) rfl ?_)
  (refine nx (aA (gN rfl) rfl rfl rfl rfl rfl) rfl ?_)
  show AWp _ _ _ _ _ _ _
  obtain ⟨n, hn⟩ : ∃ n, n = mid + m := ⟨_, rfl⟩
  obtain ⟨s0, r0, h0⟩ : ∃ s0 r0, (m > mid ∧ s0 = n - b ∧ r0 = mid) ∨ (m ≤ mid ∧ s0 = a ∧ r0 = m) := by
    rcases Nat.lt_or_ge mid m with c | c
    · exact ⟨_, _, .inl ⟨c, rfl, rfl⟩⟩
    · exact ⟨_, _, .inr ⟨c, rfl, rfl⟩⟩
  refine awp_mid ((0, AV.sl 400000 0 N 3) :: (1, .val (.i a)) :: (2, .val (.i m)) :: (3, .val (.i b)) :: (4, .val fc) :: (18, .val (.i (mid : Nat))) :: (19, .val (.i (n : Nat))) :: (20, .val (.i (s0 : Nat))) :: (21, .val (.i (r0 : Nat))) :: rwB L) ?_ ?_
  · refine aS (aR ?_)
    (refine nx (aM (gN rfl) rfl rfl rfl rfl rfl) rfl ?_)
    (refine nx (aM (gN rfl) rfl rfl rfl rfl rfl) rfl ?_)
    (refine nx (a_gtr (gN rfl) rfl rfl rfl rfl rfl rfl) rfl ?_)
    show AWp _ _ _ _ _ _ _
    rcases h0 with ⟨c, e1, e2⟩ | ⟨c, e1, e2⟩
    · refine aC rfl (fun _ => ?_) (fun hc => ?_)
      case refine_2 =>
        have hc := of_decide_eq_false hc
        omega
      refine aS (aR ?_)
      (refine nx (aM (gN rfl) rfl rfl rfl rfl rfl) rfl ?_)
      (refine nx (aM (gN rfl) rfl rfl rfl rfl rfl) rfl ?_)
      (refine nx (a_sub (gN rfl) rfl rfl rfl rfl rfl rfl (by first | omega | (simp only [List.length_map, List.length_append, List.length_cons, List.length_nil] <;> omega) | (simp <;> omega))) rfl ?_)
      (refine nx (aA (gN rfl) rfl rfl rfl rfl rfl) rfl ?_)
      show AWp _ _ _ _ _ _ _
      refine aR ?_
      (refine nx (aM (gN rfl) rfl rfl rfl rfl rfl) rfl ?_)
      (refine nx (aA (gN rfl) rfl rfl rfl rfl rfl) rfl ?_)
      refine wk_sub ⟨rfl, rfl, rfl, rfl, rfl, rfl, ?_, ?_, ?_, rfl, trivial⟩
      · rw [show ((n : Nat) : Int) = (mid : Int) + m by omega]; rfl
      · rw [show ((s0 : Nat) : Int) = (mid : Int) + m - b by omega]; rfl
      · rw [e2]; rfl
    · refine aC rfl (fun hc => ?_) (fun _ => ?_)
      case refine_1 =>
        have hc := of_decide_eq_true hc
        omega
      refine aS (aR ?_)
      (refine nx (aM (gN rfl) rfl rfl rfl rfl rfl) rfl ?_)
      (refine nx (aA (gN rfl) rfl rfl rfl rfl rfl) rfl ?_)
      show AWp _ _ _ _ _ _ _
      refine aR ?_
      (refine nx (aM (gN rfl) rfl rfl rfl rfl rfl) rfl ?_)
      (refine nx (aA (gN rfl) rfl rfl rfl rfl rfl) rfl ?_)
      refine wk_sub ⟨rfl, rfl, rfl, rfl, rfl, rfl, ?_, ?_, ?_, rfl, trivial⟩
      · rw [show ((n : Nat) : Int) = (mid : Int) + m by omega]; rfl
      · rw [e1]; rfl
      · rw [e2]; rfl
  refine aS (aR ?_)
  (refine nx (aM (gN rfl) rfl rfl rfl rfl rfl) rfl ?_)
  (refine nx (a_sub (gN rfl) rfl rfl rfl rfl rfl rfl (by first | omega | (simp only [List.length_map, List.length_append, List.length_cons, List.length_nil] <;> omega) | (simp <;> omega))) rfl ?_)
  (refine nx (aA (gN rfl) rfl rfl rfl rfl rfl) rfl ?_)
  show AWp _ _ _ _ _ _ _
  have hidx : ∀ c, s0 ≤ c → c < r0 → a ≤ c ∧ c < m ∧ m ≤ n - 1 - c ∧ n - 1 - c < b ∧ c ≤ n - 1 := fun c k1 k2 => by omega
  have hsr : s0 ≤ r0 ∧ r0 ≤ m := by omega
  have hlm : (L.map Bd.cv).length = L.length := List.length_map ..
  obtain ⟨st, hst⟩ : ∃ st : Nat → Nat → AS, st = fun i j => (0, AV.sl 400000 0 N 3) :: (1, .val (.i a)) :: (2, .val (.i m)) :: (3, .val (.i b)) :: (4, .val fc) :: (18, .val (.i (mid : Nat))) :: (19, .val (.i (n : Nat))) :: (20, .val (.i (i : Nat))) :: (21, .val (.i (j : Nat))) :: (22, .val (.i ((n - 1 : Nat) : Int))) :: rwB L := ⟨_, rfl⟩
  refine aS (aB (awp_loop (fun k s => ∃ i j, k = j - i ∧ s0 ≤ i ∧ i ≤ j ∧ j ≤ r0 ∧ (∀ c x y, s0 ≤ c → c < i → L[c]? = some x → L[n - 1 - c]? = some y → x.v ≤ y.v) ∧ (∀ c x y, j ≤ c → c < r0 → L[c]? = some x → L[n - 1 - c]? = some y → y.v < x.v) ∧ s = st i j) (n := r0 - s0) (s' := st s0 r0) (by
    rw [hst]
    refine wk_sub ⟨rfl, rfl, rfl, rfl, rfl, rfl, rfl, rfl, rfl, ?_, rfl, trivial⟩
    rw [show ((n - 1 : Nat) : Int) = (n : Int) - 1 by omega]; rfl) ⟨s0, r0, rfl, Nat.le_refl _, hsr.1, Nat.le_refl _, fun c x y _ _ _ => by omega, fun c x y _ _ _ => by omega, rfl⟩ ?_))
  rintro k s ⟨i, j, rfl, hmi, hij, hjb, hlo, hhi, rfl⟩
  rw [hst]
  refine aS (aS (aR ?_))
  (refine nx (aM (gN rfl) rfl rfl rfl rfl rfl) rfl ?_)
  (refine nx (aM (gN rfl) rfl rfl rfl rfl rfl) rfl ?_)
  (refine nx (a_lss (gN rfl) rfl rfl rfl rfl rfl rfl) rfl ?_)
  show AWp _ _ _ _ _ _ _
  refine aC rfl (fun hc => aK ?_) (fun hc => aE ?_)
  · have hlt : i < j := by have := of_decide_eq_true hc; omega
    show AWp _ _ _ _ _ _ _
    have hw := mid_wrap (i := i) (j := j) (by omega) (by omega)
    refine aB (aS (aR ?_))
    (refine nx (aM (gN rfl) rfl rfl rfl rfl rfl) rfl ?_)
    (refine nx (aM (gN rfl) rfl rfl rfl rfl rfl) rfl ?_)
    (refine nx (a_add (gN rfl) rfl rfl rfl rfl rfl rfl (by first | omega | (simp only [List.length_map, List.length_append, List.length_cons, List.length_nil] <;> omega) | (simp <;> omega))) rfl ?_)
    (refine nx (a_conv (gN rfl) rfl rfl rfl rfl rfl rfl rfl (by first | rfl | (rw [IntKind.wrap_i64]; omega) | assumption)) rfl ?_)
    (refine nx (a_shr (gN rfl) rfl rfl rfl rfl rfl rfl) rfl ?_)
    (refine nx (a_conv (gN rfl) rfl rfl rfl rfl rfl rfl rfl (by first | rfl | (rw [IntKind.wrap_i64]; omega) | assumption)) rfl ?_)
    (refine nx (aA (gN rfl) rfl rfl rfl rfl rfl) rfl ?_)
    show AWp _ _ _ _ _ _ _
    have hh : i ≤ (i + j) / 2 ∧ (i + j) / 2 < j := by omega
    have hcast := mid_cast i j
    obtain ⟨h, hhd⟩ : ∃ h, h = (i + j) / 2 := ⟨_, rfl⟩
    rw [← hhd] at hh hcast
    obtain ⟨k1, k2, k3, k4, k5⟩ := hidx h (by omega) (by omega)
    refine AWp.wk (wk_sub (s' := (23, .val (.i (h : Nat))) :: (0, AV.sl 400000 0 N 3) :: (1, .val (.i a)) :: (2, .val (.i m)) :: (3, .val (.i b)) :: (4, .val fc) :: (18, .val (.i (mid : Nat))) :: (19, .val (.i (n : Nat))) :: (20, .val (.i (i : Nat))) :: (21, .val (.i (j : Nat))) :: (22, .val (.i ((n - 1 : Nat) : Int))) :: rwB L) ⟨by rw [← hcast]; rfl, rfl, rfl, rfl, rfl, rfl, rfl, rfl, rfl, rfl, rfl, rfl, trivial⟩) ?_
    obtain ⟨x, hx⟩ := bd_at (L := L) (t := n - 1 - h) (by omega)
    obtain ⟨y, hy⟩ := bd_at (L := L) (t := h) (by omega)
    have hx' := Bd.map_at hx
    have hy' := Bd.map_at hy
    refine aS (aD (by kernel_rfl) (by kernel_rfl) ?_)
    (refine nx (aM (gN rfl) rfl rfl rfl rfl rfl) rfl ?_)
    (refine nx (aM (gN rfl) rfl rfl rfl rfl rfl) rfl ?_)
    (refine nx (aM (gN rfl) rfl rfl rfl rfl rfl) rfl ?_)
    (refine nx (aM (gN rfl) rfl rfl rfl rfl rfl) rfl ?_)
    (refine nx (a_sub (gN rfl) rfl rfl rfl rfl rfl rfl (by first | omega | (simp only [List.length_map, List.length_append, List.length_cons, List.length_nil] <;> omega) | (simp <;> omega))) rfl ?_)
    (refine nx (aIm (k := n - 1 - h) (gN rfl) rfl rfl rfl rfl rfl rfl rfl rfl rfl (by first | rfl | omega | (simp only [List.length_set, List.length_map, List.length_append, List.length_cons, List.length_nil] <;> omega) | (simp <;> omega))) rfl ?_)
    (refine nx (a_loadM (gN rfl) rfl rfl rfl rfl rfl rfl rfl rfl (hx') rfl (by first | rfl | omega | (simp only [List.length_set, List.length_map, List.length_append, List.length_cons, List.length_nil] <;> omega) | (simp <;> omega)) rfl rfl) rfl ?_)
    (refine nx (aM (gN rfl) rfl rfl rfl rfl rfl) rfl ?_)
    (refine nx (aM (gN rfl) rfl rfl rfl rfl rfl) rfl ?_)
    (refine nx (aIm (k := h) (gN rfl) rfl rfl rfl rfl rfl rfl rfl rfl rfl (by first | rfl | omega | (simp only [List.length_set, List.length_map, List.length_append, List.length_cons, List.length_nil] <;> omega) | (simp <;> omega))) rfl ?_)
    (refine nx (a_loadM (gN rfl) rfl rfl rfl rfl rfl rfl rfl rfl (hy') rfl (by first | rfl | omega | (simp only [List.length_set, List.length_map, List.length_append, List.length_cons, List.length_nil] <;> omega) | (simp <;> omega)) rfl rfl) rfl ?_)
    (refine nx (a_callw (gN rfl) rfl rfl rfl rfl rfl rfl (hcm _ x y)) rfl ?_)
    (refine nx (a_lss (gN rfl) rfl rfl rfl rfl rfl rfl) rfl ?_)
    (refine nx (a_not (gN rfl) rfl rfl rfl rfl rfl) rfl ?_)
    refine ⟨by kernel_rfl, ?_⟩
    show AWp _ _ _ _ _ _ _
    refine aC rfl (fun c1 => ?_) (fun c1 => ?_)
    · have c2 : ¬ x.v < y.v := fun c => by
        have := (hv x y).2 c
        simp [this] at c1
      refine aR ?_
      (refine nx (aM (gN rfl) rfl rfl rfl rfl rfl) rfl ?_)
      (refine nx (a_add (gN rfl) rfl rfl rfl rfl rfl rfl (by first | omega | (simp only [List.length_map, List.length_append, List.length_cons, List.length_nil] <;> omega) | (simp <;> omega))) rfl ?_)
      (refine nx (aA (gN rfl) rfl rfl rfl rfl rfl) rfl ?_)
      refine ⟨j - (h + 1), st (h + 1) j, by omega, ⟨h + 1, j, rfl, by omega, by omega, hjb, fun c x' y' g1 g2 g3 g4 => ?_, hhi, by rw [hst]⟩, by rw [hst]; exact wk_sub ⟨rfl, rfl, rfl, rfl, rfl, rfl, rfl, rfl, rfl, rfl, rfl, trivial⟩⟩
      by_cases ct : c = h
      · rw [ct] at g3 g4
        rw [hy] at g3; rw [hx] at g4; cases g3; cases g4; omega
      · obtain ⟨l1, l2, l3, l4, l5⟩ := hidx c g1 (by omega)
        have e1 := h1 c h x' y (by omega) (by omega) (by omega) g3 hy
        have e2 := h2 (n - 1 - h) (n - 1 - c) x y' (by omega) (by omega) (by omega) hx g4
        omega
    · have c2 : x.v < y.v := (hv x y).1 (by simpa using c1)
      refine aR ?_
      (refine nx (aM (gN rfl) rfl rfl rfl rfl rfl) rfl ?_)
      (refine nx (aA (gN rfl) rfl rfl rfl rfl rfl) rfl ?_)
      refine ⟨h - i, st i h, by omega, ⟨i, h, rfl, hmi, by omega, by omega, hlo, fun c x' y' g1 g2 g3 g4 => ?_, by rw [hst]⟩, by rw [hst]; exact wk_sub ⟨rfl, rfl, rfl, rfl, rfl, rfl, rfl, rfl, rfl, rfl, rfl, trivial⟩⟩
      by_cases ct : c = h
      · rw [ct] at g3 g4
        rw [hy] at g3; rw [hx] at g4; cases g3; cases g4; omega
      · obtain ⟨l1, l2, l3, l4, l5⟩ := hidx c (by omega) g2
        have e1 := h1 h c y x' (by omega) (by omega) (by omega) hy g3
        have e2 := h2 (n - 1 - c) (n - 1 - h) y' x (by omega) (by omega) (by omega) g4 hx
        omega
  have hij' : i = j := by have := of_decide_eq_false hc; omega
  subst hij'
  have hcut : Cut L n s0 i r0 := ⟨hlo, hhi⟩
  obtain ⟨f1, f2, f3, f4, f5, f6, f7⟩ := hcut.sides (hN ▸ hb) ham hmb (by rw [hn, hmid]) (by rw [← hmid]; exact h0) h1 h2 hmi hjb
  rw [← hmid] at f5
  show AWp _ _ _ _ _ _ _
  refine aS (aR ?_)
  (refine nx (aM (gN rfl) rfl rfl rfl rfl rfl) rfl ?_)
  (refine nx (aM (gN rfl) rfl rfl rfl rfl rfl) rfl ?_)
  (refine nx (a_sub (gN rfl) rfl rfl rfl rfl rfl rfl (by first | omega | (simp only [List.length_map, List.length_append, List.length_cons, List.length_nil] <;> omega) | (simp <;> omega))) rfl ?_)
  (refine nx (aA (gN rfl) rfl rfl rfl rfl rfl) rfl ?_)
  show AWp _ _ _ _ _ _ _
  have hecast : ((n : Nat) : Int) - (i : Nat) = ((n - i : Nat) : Int) := by omega
  obtain ⟨e, he⟩ : ∃ e, e = n - i := ⟨_, rfl⟩
  rw [← he] at f3 f4 f5 f6 f7 hecast
  obtain ⟨st3, hst3⟩ : ∃ st : List Bd → AS, st = fun M => (0, AV.sl 400000 0 N 3) :: (1, .val (.i a)) :: (2, .val (.i m)) :: (3, .val (.i b)) :: (4, .val fc) :: (18, .val (.i (mid : Nat))) :: (20, .val (.i (i : Nat))) :: (24, .val (.i (e : Nat))) :: rwB M := ⟨_, rfl⟩
  refine AWp.wk (s' := st3 L) (by rw [hst3]; exact wk_sub ⟨rfl, rfl, rfl, rfl, rfl, rfl, rfl, by rw [← hecast]; rfl, rfl, trivial⟩) ?_
  refine awp_midE (fun M => IsG M N (rtG i m e fun t => L[t]?)) st3 ?_ ?_
  · rw [hst3]
    refine aS (aR ?_)
    rcases Nat.lt_or_ge i m with c | c
    · have g : decide (((i : Nat) : Int) < (m : Nat)) = true := decide_eq_true (by omega)
      (refine nx (aM (gN rfl) rfl rfl rfl rfl rfl) rfl ?_)
      (refine nx (aM (gN rfl) rfl rfl rfl rfl rfl) rfl ?_)
      (refine nx (a_lss (gN rfl) rfl rfl rfl rfl rfl rfl) rfl ?_)
      (refine nx (aM (gN rfl) rfl rfl rfl rfl rfl) rfl ?_)
      (refine nx (aM (gd_on rfl rfl rfl rfl (by first | rfl | assumption | (simp; done))) rfl rfl rfl rfl rfl) rfl ?_)
      (refine nx (aM (gd_on rfl rfl rfl rfl (by first | rfl | assumption | (simp; done))) rfl rfl rfl rfl rfl) rfl ?_)
      (refine nx (a_lss (gd_on rfl rfl rfl rfl (by first | rfl | assumption | (simp; done))) rfl rfl rfl rfl rfl rfl) rfl ?_)
      (refine ⟨_, _, _, aPt (gN rfl) rfl rfl rfl rfl rfl ?hb rfl, rfl, ?_⟩; case hb => (first | rfl | assumption | (simp; done)))
      show AWp _ _ _ _ _ _ _
      refine aC rfl (fun hc => ?_) (fun hc => aK ?_)
      · have hc := of_decide_eq_true hc
        have hr := rotate_abs fc L i m e c (by omega) (by omega) (by omega)
        rw [← hN] at hr
        refine awp_regionE 5 rfl rfl rfl rfl rfl rfl hr (by kernel_rfl) (fun σ => by kernel_rfl) (fun σ => by kernel_rfl) (fun σ => rfl) (fun σ => hnb_of (by kernel_rfl)) ?_
        (refine nx (aM (gN rfl) rfl rfl rfl rfl rfl) rfl ?_)
        (refine nx (aM (gN rfl) rfl rfl rfl rfl rfl) rfl ?_)
        (refine nx (aM (gN rfl) rfl rfl rfl rfl rfl) rfl ?_)
        (refine nx (aM (gN rfl) rfl rfl rfl rfl rfl) rfl ?_)
        (refine nx (aM (gN rfl) rfl rfl rfl rfl rfl) rfl ?_)
        refine ⟨rfl, ⟨rfl, trivial⟩, fun σ hσ => ⟨by kernel_rfl, ?_⟩⟩
        exact ⟨σ, hσ, wk_sub ⟨rfl, rfl, rfl, rfl, rfl, rfl, rfl, rfl, rfl, trivial⟩⟩
      · have hc := of_decide_eq_false hc
        exact ⟨L, by rw [hN]; exact rt_id f2 f3 (.inr (by omega)), wk_sub ⟨rfl, rfl, rfl, rfl, rfl, rfl, rfl, rfl, rfl, trivial⟩⟩
    · have g : decide (((i : Nat) : Int) < (m : Nat)) = false := decide_eq_false (by omega)
      (refine nx (aM (gN rfl) rfl rfl rfl rfl rfl) rfl ?_)
      (refine nx (aM (gN rfl) rfl rfl rfl rfl rfl) rfl ?_)
      (refine nx (a_lss (gN rfl) rfl rfl rfl rfl rfl rfl) rfl ?_)
      (refine nx (aM (gN rfl) rfl rfl rfl rfl rfl) rfl ?_)
      (refine ⟨_, _, _, a_off (go_off rfl rfl rfl rfl (by first | rfl | assumption | (simp; done) | (simp [*]; done))) rfl rfl rfl, rfl, ?_⟩)
      (refine ⟨_, _, _, a_off (go_off rfl rfl rfl rfl (by first | rfl | assumption | (simp; done) | (simp [*]; done))) rfl rfl rfl, rfl, ?_⟩)
      (refine ⟨_, _, _, a_off (go_off rfl rfl rfl rfl (by first | rfl | assumption | (simp; done) | (simp [*]; done))) rfl rfl rfl, rfl, ?_⟩)
      (refine ⟨_, _, _, aPf (gN rfl) rfl rfl rfl rfl rfl ?hb rfl, rfl, ?_⟩; case hb => (first | rfl | assumption | (simp; done)))
      show AWp _ _ _ _ _ _ _
      refine aC rfl (fun hc => ?_) (fun hc => aK ?_)
      · cases hc
      · exact ⟨L, by rw [hN]; exact rt_id f2 f3 (.inl (by omega)), wk_sub ⟨rfl, rfl, rfl, rfl, rfl, rfl, rfl, rfl, rfl, trivial⟩⟩
  intro M hM
  have hMl := hM.1
  have hM' := hM
  rw [hN] at hM'
  obtain ⟨t1, t2, t3, t4, t5⟩ := turn_facts f1 f2 f3 f4 (hN ▸ hb) f5 h1 h2 f6 f7 hM'
  have hg1 : Mg a b L M := (Mg.rt f2 f3 (by omega) hM').mono f1 f4
  refine awp_midE (fun M2 => Mg a mid M M2 ∧ srtB M2 a mid) st3 ?_ ?_
  · rw [hst3]
    refine aS (aR ?_)
    rcases Nat.lt_or_ge a i with c | c
    · have g : decide (((a : Nat) : Int) < (i : Nat)) = true := decide_eq_true (by omega)
      (refine nx (aM (gN rfl) rfl rfl rfl rfl rfl) rfl ?_)
      (refine nx (aM (gN rfl) rfl rfl rfl rfl rfl) rfl ?_)
      (refine nx (a_lss (gN rfl) rfl rfl rfl rfl rfl rfl) rfl ?_)
      (refine nx (aM (gN rfl) rfl rfl rfl rfl rfl) rfl ?_)
      (refine nx (aM (gd_on rfl rfl rfl rfl (by first | rfl | assumption | (simp; done))) rfl rfl rfl rfl rfl) rfl ?_)
      (refine nx (aM (gd_on rfl rfl rfl rfl (by first | rfl | assumption | (simp; done))) rfl rfl rfl rfl rfl) rfl ?_)
      (refine nx (a_lss (gd_on rfl rfl rfl rfl (by first | rfl | assumption | (simp; done))) rfl rfl rfl rfl rfl rfl) rfl ?_)
      (refine ⟨_, _, _, aPt (gN rfl) rfl rfl rfl rfl rfl ?hb rfl, rfl, ?_⟩; case hb => (first | rfl | assumption | (simp; done)))
      show AWp _ _ _ _ _ _ _
      refine aC rfl (fun hc => ?_) (fun hc => aK ?_)
      · have hc := of_decide_eq_true hc
        have hr := ih M a i mid (by omega) c (by omega) (by omega) (by omega) t1 t2
        rw [hMl] at hr
        refine awp_regionE 5 rfl rfl rfl rfl rfl rfl hr (by kernel_rfl) (fun σ => by kernel_rfl) (fun σ => by kernel_rfl) (fun σ => rfl) (fun σ => hnb_of (by kernel_rfl)) ?_
        (refine nx (aM (gN rfl) rfl rfl rfl rfl rfl) rfl ?_)
        (refine nx (aM (gN rfl) rfl rfl rfl rfl rfl) rfl ?_)
        (refine nx (aM (gN rfl) rfl rfl rfl rfl rfl) rfl ?_)
        (refine nx (aM (gN rfl) rfl rfl rfl rfl rfl) rfl ?_)
        (refine nx (aM (gN rfl) rfl rfl rfl rfl rfl) rfl ?_)
        refine ⟨rfl, ⟨rfl, trivial⟩, fun σ hσ => ⟨by kernel_rfl, ?_⟩⟩
        exact ⟨σ, hσ, wk_sub ⟨rfl, rfl, rfl, rfl, rfl, rfl, rfl, rfl, rfl, trivial⟩⟩
      · have hc := of_decide_eq_false hc
        exact ⟨M, ⟨Mg.refl _ _ _, by rw [show mid = i by omega]; exact t1⟩, wk_sub ⟨rfl, rfl, rfl, rfl, rfl, rfl, rfl, rfl, rfl, trivial⟩⟩
    · have g : decide (((a : Nat) : Int) < (i : Nat)) = false := decide_eq_false (by omega)
      (refine nx (aM (gN rfl) rfl rfl rfl rfl rfl) rfl ?_)
      (refine nx (aM (gN rfl) rfl rfl rfl rfl rfl) rfl ?_)
      (refine nx (a_lss (gN rfl) rfl rfl rfl rfl rfl rfl) rfl ?_)
      (refine nx (aM (gN rfl) rfl rfl rfl rfl rfl) rfl ?_)
      (refine ⟨_, _, _, a_off (go_off rfl rfl rfl rfl (by first | rfl | assumption | (simp; done) | (simp [*]; done))) rfl rfl rfl, rfl, ?_⟩)
      (refine ⟨_, _, _, a_off (go_off rfl rfl rfl rfl (by first | rfl | assumption | (simp; done) | (simp [*]; done))) rfl rfl rfl, rfl, ?_⟩)
      (refine ⟨_, _, _, a_off (go_off rfl rfl rfl rfl (by first | rfl | assumption | (simp; done) | (simp [*]; done))) rfl rfl rfl, rfl, ?_⟩)
      (refine ⟨_, _, _, aPf (gN rfl) rfl rfl rfl rfl rfl ?hb rfl, rfl, ?_⟩; case hb => (first | rfl | assumption | (simp; done)))
      show AWp _ _ _ _ _ _ _
      refine aC rfl (fun hc => ?_) (fun hc => aK ?_)
      · cases hc
      · exact ⟨M, ⟨Mg.refl _ _ _, by rw [show a = i by omega]; exact t2⟩, wk_sub ⟨rfl, rfl, rfl, rfl, rfl, rfl, rfl, rfl, rfl, trivial⟩⟩
  intro M2 hM2
  obtain ⟨hg2, u1⟩ := hM2
  have hMl2 : M2.length = N := hg2.len.trans hMl
  have u2 : srtB M2 mid e := t3.same fun t k1 k2 => hg2.out t (by omega)
  have u3 : srtB M2 e b := t4.same fun t k1 k2 => hg2.out t (by omega)
  have u4 : leB M2 a mid mid b := t5.mg (by omega) (by omega) (.inl hg2)
  have fin : ∀ σ, Mg mid b M2 σ → srtB σ mid b → symR a b L σ := fun σ g1 g2 =>
    ⟨(hg1.trans (hg2.mono (Nat.le_refl _) (by omega))).trans (g1.mono (by omega) (Nat.le_refl _)), (u1.same fun t k1 k2 => g1.out t (by omega)).glue g2 (u4.mg (by omega) (by omega) (.inr g1))⟩
  rw [hst3]
  refine aS (aR ?_)
  rcases Nat.lt_or_ge mid e with c | c
  · have g : decide (((mid : Nat) : Int) < (e : Nat)) = true := decide_eq_true (by omega)
    (refine nx (aM (gN rfl) rfl rfl rfl rfl rfl) rfl ?_)
    (refine nx (aM (gN rfl) rfl rfl rfl rfl rfl) rfl ?_)
    (refine nx (a_lss (gN rfl) rfl rfl rfl rfl rfl rfl) rfl ?_)
    (refine nx (aM (gN rfl) rfl rfl rfl rfl rfl) rfl ?_)
    (refine nx (aM (gd_on rfl rfl rfl rfl (by first | rfl | assumption | (simp; done))) rfl rfl rfl rfl rfl) rfl ?_)
    (refine nx (aM (gd_on rfl rfl rfl rfl (by first | rfl | assumption | (simp; done))) rfl rfl rfl rfl rfl) rfl ?_)
    (refine nx (a_lss (gd_on rfl rfl rfl rfl (by first | rfl | assumption | (simp; done))) rfl rfl rfl rfl rfl rfl) rfl ?_)
    (refine ⟨_, _, _, aPt (gN rfl) rfl rfl rfl rfl rfl ?hb rfl, rfl, ?_⟩; case hb => (first | rfl | assumption | (simp; done)))
    show AWp _ _ _ _ _ _ _
    refine aC rfl (fun hc => ?_) (fun hc => aK ?_)
    · have hc := of_decide_eq_true hc
      have hr := ih M2 mid e b (by omega) c (by omega) (by omega) (by omega) u2 u3
      rw [hMl2] at hr
      refine awp_regionE 5 rfl rfl rfl rfl rfl rfl hr (by kernel_rfl) (fun σ => by kernel_rfl) (fun σ => by kernel_rfl) (fun σ => rfl) (fun σ => hnb_of (by kernel_rfl)) ?_
      (refine nx (aM (gN rfl) rfl rfl rfl rfl rfl) rfl ?_)
      (refine nx (aM (gN rfl) rfl rfl rfl rfl rfl) rfl ?_)
      (refine nx (aM (gN rfl) rfl rfl rfl rfl rfl) rfl ?_)
      (refine nx (aM (gN rfl) rfl rfl rfl rfl rfl) rfl ?_)
      (refine nx (aM (gN rfl) rfl rfl rfl rfl rfl) rfl ?_)
      refine ⟨rfl, ⟨rfl, trivial⟩, fun σ hσ => ⟨by kernel_rfl, ?_⟩⟩
      exact ⟨.inl rfl, σ, fin σ hσ.1 hσ.2, _, Wk.refl _, rfl, rfl, trivial⟩
    · have hc := of_decide_eq_false hc
      exact ⟨.inl rfl, M2, fin M2 (Mg.refl _ _ _) (by rw [show b = e by omega]; exact u2), _, Wk.refl _, rfl, rfl, trivial⟩
  · have g : decide (((mid : Nat) : Int) < (e : Nat)) = false := decide_eq_false (by omega)
    (refine nx (aM (gN rfl) rfl rfl rfl rfl rfl) rfl ?_)
    (refine nx (aM (gN rfl) rfl rfl rfl rfl rfl) rfl ?_)
    (refine nx (a_lss (gN rfl) rfl rfl rfl rfl rfl rfl) rfl ?_)
    (refine nx (aM (gN rfl) rfl rfl rfl rfl rfl) rfl ?_)
    (refine ⟨_, _, _, a_off (go_off rfl rfl rfl rfl (by first | rfl | assumption | (simp; done) | (simp [*]; done))) rfl rfl rfl, rfl, ?_⟩)
    (refine ⟨_, _, _, a_off (go_off rfl rfl rfl rfl (by first | rfl | assumption | (simp; done) | (simp [*]; done))) rfl rfl rfl, rfl, ?_⟩)
    (refine ⟨_, _, _, a_off (go_off rfl rfl rfl rfl (by first | rfl | assumption | (simp; done) | (simp [*]; done))) rfl rfl rfl, rfl, ?_⟩)
    (refine ⟨_, _, _, aPf (gN rfl) rfl rfl rfl rfl rfl ?hb rfl, rfl, ?_⟩; case hb => (first | rfl | assumption | (simp; done)))
    show AWp _ _ _ _ _ _ _
    refine aC rfl (fun hc => ?_) (fun hc => aK ?_)
    · cases hc
    · exact ⟨.inl rfl, M2, fin M2 (Mg.refl _ _ _) (by rw [show mid = e by omega]; exact u3), _, Wk.refl _, rfl, rfl, trivial⟩
end Go.Proofs.YtglmoficcjphaaaGreat
