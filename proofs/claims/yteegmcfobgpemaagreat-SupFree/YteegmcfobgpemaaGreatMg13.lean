/-
  SuVnt SuSub
-/
import Derived.Test.YteegmcfobgpemaaGreatMg12
namespace Go.Proofs.YteegmcfobgpemaaGreat
open Go.RowKit
set_option linter.unusedVariables false
set_option linter.unusedSimpArgs false
set_option maxRecDepth 100000
structure ReN (ρ ρ' : Int → Int) : Prop where
  up : ∀ v, 0 ≤ v → 0 ≤ ρ v
  back : ∀ v, 0 ≤ v → ρ' (ρ v) = v
abbrev vrR (ρ : Int → Int) : Int → Tm := fun v => varT (ρ v)
section
variable {ρ ρ' : Int → Int}
theorem ReN.two (h : ReN ρ ρ') (τ : Int → Tm) (t : Tm) : repT τ (repT (vrR ρ) t) = repT (fun v => τ (ρ v)) t :=
  rep_comp τ ρ fun v hv => h.up v (vs_nonneg t v hv)
theorem ReN.down (h : ReN ρ ρ') (τ : Int → Tm) (t : Tm) : repT (fun v => τ (ρ' v)) (repT (vrR ρ) t) = repT τ t := by
  rw [h.two]
  exact rep_congr fun v hv => by show τ (ρ' (ρ v)) = τ v; rw [h.back v (vs_nonneg t v hv)]
theorem ReN.home (h : ReN ρ ρ') (t : Tm) : repT (fun v => varT (ρ' v)) (repT (vrR ρ) t) = t.strip := by rw [h.down varT, rep_id]
theorem ReN.size (h : ReN ρ ρ') (t : Tm) : (repT (vrR ρ) t).size = t.size := size_ren (g := ρ) fun v hv => h.up v (vs_nonneg t v hv)
theorem ReN.kb (h : ReN ρ ρ') (x y : Tm) : kb (repT (vrR ρ) x) (repT (vrR ρ) y) = kb x y := by
  by_cases h1 : Go.Proofs.YteegmcfobgpemaaGreat.kb x y = 2
  · rw [h1]
    apply Classical.byContradiction
    intro h2
    have h3 := kb_rep (fun v => varT (ρ' v)) h2
    rw [h.home, h.home, kb_strip, h1] at h3
    exact h2 h3.symm
  · exact kb_rep _ h1
structure TwR (ρ : Int → Int) (σ σ' : Int → Tm) : Prop where
  to : ∃ α, ∀ t : Tm, repT α (repT σ t) = repT σ' (repT (vrR ρ) t)
  back : ∃ β, ∀ t : Tm, repT β (repT σ' (repT (vrR ρ) t)) = repT σ t
theorem mgr_twin (hr : ReN ρ ρ') {a b : Tm} (ha : a.ten) (hb : b.ten) (ha' : (repT (vrR ρ) a).ten) (hb' : (repT (vrR ρ) b).ten) : (mgT (repT (vrR ρ) a) (repT (vrR ρ) b)).2 = (mgT a b).2 ∧ ((mgT a b).2 = true → TwR ρ (mgS a b) (mgS (repT (vrR ρ) a) (repT (vrR ρ) b))) := by
  have hT := mg_told ha hb
  have hT' := mg_told ha' hb'
  have up : ∀ τ, uni τ [(a, b)] → uni (fun v => τ (ρ' v)) [(repT (vrR ρ) a, repT (vrR ρ) b)] := fun τ h => by
    rw [uni_one] at h ⊢
    rw [hr.down τ, hr.down τ, h]
  have dn : ∀ τ, uni τ [(repT (vrR ρ) a, repT (vrR ρ) b)] → uni (fun v => τ (ρ v)) [(a, b)] := fun τ h => by
    rw [uni_one] at h ⊢
    rw [← hr.two τ, ← hr.two τ, h]
  have e : (mgT (repT (vrR ρ) a) (repT (vrR ρ) b)).2 = (mgT a b).2 := by
    cases h : (mgT a b).2 with
    | true =>
      cases h' : (mgT (repT (vrR ρ) a) (repT (vrR ρ) b)).2 with
      | true => rfl
      | false => exact absurd (up _ (hT.yes h).uni) ((hT'.no h').2 _)
    | false =>
      cases h' : (mgT (repT (vrR ρ) a) (repT (vrR ρ) b)).2 with
      | false => rfl
      | true => exact absurd (dn _ (hT'.yes h').uni) ((hT.no h).2 _)
  refine ⟨e, fun h => ?_⟩
  have m := hT.yes h
  have m' := hT'.yes (e.trans h)
  exact ⟨⟨_, fun t => by unfold mgS; rw [m.rep (dn _ m'.uni) t, ← hr.two]⟩, ⟨_, fun t => by unfold mgS; rw [m'.rep (up _ m.uni) (repT (vrR ρ) t), hr.down]⟩⟩
theorem TwR.vnt {σ σ' : Int → Tm} (h : TwR ρ σ σ') (L : List Lt) : vntC (L.map (Lt.rep σ)) ((L.map (Lt.rep (vrR ρ))).map (Lt.rep σ')) = true := by
  unfold vntC
  rw [Bool.and_eq_true, decide_eq_true_eq, rep_neg, rep_neg, rep_neg]
  refine ⟨rfl, ?_⟩
  obtain ⟨α, ha⟩ := h.to
  obtain ⟨β, hb⟩ := h.back
  rw [← rep_sid, ← rep_sid, ← rep_sid]
  exact both_vnt (σ := α) (τ := β) (by rw [ha, rep_bare]) (by rw [hb, rep_bare])
theorem TwR.kb {σ σ' : Int → Tm} (h : TwR ρ σ σ') (x y : Tm) : kb (repT σ' (repT (vrR ρ) x)) (repT σ' (repT (vrR ρ) y)) = kb (repT σ x) (repT σ y) := by
  obtain ⟨α, ha⟩ := h.to
  obtain ⟨β, hb⟩ := h.back
  by_cases h1 : Go.Proofs.YteegmcfobgpemaaGreat.kb (repT σ x) (repT σ y) = 2
  · rw [h1]
    apply Classical.byContradiction
    intro h2
    have h3 := kb_rep β h2
    rw [hb, hb, h1] at h3
    exact h2 h3.symm
  · have h3 := kb_rep α h1
    rw [ha, ha] at h3
    exact h3
theorem mul_rn (hr : ReN ρ ρ') (A B : List Tm) : mulB (A.map (repT (vrR ρ))) (B.map (repT (vrR ρ))) = mulB A B := by
  rw [Bool.eq_iff_iff, mulB_iff, mulB_iff]
  refine ⟨fun h => ?_, mul_rep _⟩
  have h1 := mul_rep (fun v => varT (ρ' v)) h
  have e : ∀ L : List Tm, (L.map (repT (vrR ρ))).map (repT fun v => varT (ρ' v)) = L.map Tm.strip := fun L => by
    rw [List.map_map]
    exact List.map_congr_left fun t _ => hr.home t
  rw [e, e] at h1
  exact (mul_congr (fun s => cn_strips s A) (fun s => cn_strips s B)).1 h1
theorem tms_rn (l : Lt) : tmsL (Lt.rep (vrR ρ) l) = (tmsL l).map (repT (vrR ρ)) := by
  unfold tmsL
  show (if l.neg = true then _ else _) = _
  cases l.neg <;> rfl
theorem hv_rn (hr : ReN ρ ρ') (c : List Lt) : ∀ k, hvK (c.map (Lt.rep (vrR ρ))) k = hvK c k
  | 0 => rfl
  | k + 1 => by
    have ih := hv_rn hr c k
    have hw : ∀ l : Lt, wtL (Lt.rep (vrR ρ) l) = wtL l := fun l => by
      unfold wtL
      show (((repT (vrR ρ) l.a).size : Nat) : Int) + (((repT (vrR ρ) l.b).size : Nat) : Int) = _
      rw [hr.size, hr.size]
    unfold hvK
    rw [List.getElem?_map, ih]
    cases c[k]? with
    | none => rfl
    | some l =>
      show (if l.neg = true ∧ (hvK c k).2 < wtL (Lt.rep (vrR ρ) l) then ((k : Int), wtL (Lt.rep (vrR ρ) l)) else hvK c k) = _
      rw [hw]
theorem lok_rn (hr : ReN ρ ρ') (c : List Lt) : lokL (c.map (Lt.rep (vrR ρ))) = lokL c := by
  have hg : ∀ i, gstI (c.map (Lt.rep (vrR ρ))) i = gstI c i := fun i => by
    unfold gstI gstL
    rw [List.getElem?_map]
    cases c[i.toNat]? with
    | none => rfl
    | some x =>
      simp only [Option.map_some, List.any_map]
      congr 3
      funext l
      show mulB (tmsL (Lt.rep (vrR ρ) l)) (tmsL (Lt.rep (vrR ρ) x)) = _
      rw [tms_rn, tms_rn, mul_rn hr]
  unfold lokL gsK
  rw [List.length_map, hv_rn hr]
  simp only [hg]
theorem lead_rn (hr : ReN ρ ρ') (a b : Tm) : leadB (repT (vrR ρ) a) (repT (vrR ρ) b) = leadB a b := by unfold leadB; rw [hr.kb]
noncomputable def wyR (ρ : Int → Int) (w : Wy) : Wy := ⟨w.n, repT (vrR ρ) w.a, repT (vrR ρ) w.b⟩
noncomputable def mtR (ρ : Int → Int) (m : Mt) : Mt := ⟨wyR ρ m.fr, wyR ρ m.ti, m.pl, repT (vrR ρ) m.pt⟩
theorem wys_rn (hr : ReN ρ ρ') (c : List Lt) (L : List Int) : wysL leadB (c.map (Lt.rep (vrR ρ))) L = (wysL leadB c L).map (wyR ρ) := by
  unfold wysL
  rw [List.map_flatMap]
  refine flat_congr fun n _ => ?_
  unfold wysN
  rw [List.getElem?_map]
  cases c[n.toNat]? with
  | none => rfl
  | some l =>
    show ([⟨n, repT (vrR ρ) l.a, repT (vrR ρ) l.b⟩, ⟨n, repT (vrR ρ) l.b, repT (vrR ρ) l.a⟩] : List Wy).filter (fun w => leadB w.a w.b) = _
    rw [show ([⟨n, repT (vrR ρ) l.a, repT (vrR ρ) l.b⟩, ⟨n, repT (vrR ρ) l.b, repT (vrR ρ) l.a⟩] : List Wy) = (wy2 n l).map (wyR ρ) from rfl, List.filter_map]
    congr 2
    funext w
    exact lead_rn hr w.a w.b
theorem syL_rn {l : List Tm} (hr : ReN ρ ρ') (h : ∀ t ∈ l, ∀ pl, sy (repT (vrR ρ) t) pl = (sy t pl).map fun q => (q.1, repT (vrR ρ) q.2)) : ∀ (i : Nat) (pl : List Int), syL (l.map (repT (vrR ρ))) i pl = (syL l i pl).map fun q => (q.1, repT (vrR ρ) q.2) := by
  induction l with
  | nil => intro i pl; rfl
  | cons t l ih =>
    intro i pl
    rw [List.map_cons, syL_cons, syL_cons, List.map_append, h t (by simp), ih fun s hs => h s (List.mem_cons_of_mem _ hs)]
theorem sy_rn (hr : ReN ρ ρ') (t : Tm) : ∀ pl, sy (repT (vrR ρ) t) pl = (sy t pl).map fun q => (q.1, repT (vrR ρ) q.2) := by
  induction t using Tm.ind with
  | h f l ih =>
    intro pl
    by_cases hf : f < 0
    · rw [sy_eq (⟨f, l⟩ : Tm), if_pos hf]
      have e : (repT (vrR ρ) (⟨f, l⟩ : Tm)).f < 0 := by
        rw [repT_var (show (⟨f, l⟩ : Tm).f < 0 from hf), Tm.strip_f, varT_f]
        have := hr.up (-1 - f) (by omega)
        show -1 - ρ (-1 - f) < 0
        omega
      rw [sy_eq, if_pos e]; rfl
    · have e : repT (vrR ρ) (⟨f, l⟩ : Tm) = ⟨f, l.map (repT (vrR ρ))⟩ := repT_sym hf
      rw [sy_eq (⟨f, l⟩ : Tm), if_neg hf, List.map_cons, e, sy_eq, if_neg hf]
      show _ :: syL (l.map (repT (vrR ρ))) 0 pl = _ :: _
      rw [syL_rn hr ih]
theorem neg_rn (c : List Lt) (n : Int) : negAt (c.map (Lt.rep (vrR ρ))) n = negAt c n := by
  unfold negAt
  rw [List.getElem?_map]
  cases c[n.toNat]? <;> rfl
theorem mts_rn (hr : ReN ρ ρ') (c : List Lt) (S T : List Wy) : mtsL (negAt (c.map (Lt.rep (vrR ρ)))) (S.map (wyR ρ)) (T.map (wyR ρ)) = (mtsL (negAt c) S T).map (mtR ρ) := by
  unfold mtsL
  rw [List.flatMap_map, List.map_flatMap]
  refine flat_congr fun f _ => ?_
  unfold mtN
  rw [show (wyR ρ f).n = f.n from rfl, neg_rn]
  split
  · rfl
  · unfold mtF
    rw [List.flatMap_map, List.map_flatMap]
    refine flat_congr fun i _ => ?_
    unfold mtI
    rw [show (wyR ρ i).a = repT (vrR ρ) i.a from rfl, sy_rn hr, List.map_map, List.map_map]
    rfl
theorem mtM_rn (hr : ReN ρ ρ') (c D : List Lt) : mtM false (c.map (Lt.rep (vrR ρ))) (D.map (Lt.rep (vrR ρ))) = (mtM false c D).map (mtR ρ) := by
  show mtsL _ (wysL leadB _ (lokL _)) (wysL leadB _ (lokL _)) = _
  rw [lok_rn hr, lok_rn hr, wys_rn hr, wys_rn hr, mts_rn hr]
  rfl
theorem pa_rn {t s : Tm} {n : Int} (h : t.pa n = some s) : (repT (vrR ρ) t).pa n = some (repT (vrR ρ) s) := by
  obtain ⟨m, rfl, h1, h2⟩ := pa_nat h
  rw [repT_sym h2]
  unfold Tm.pa
  rw [if_pos (by omega), Int.toNat_natCast, Tm.ps_of_sym (t := ⟨t.f, _⟩) (by show 0 ≤ t.f; omega), List.getElem?_map, h1]
  rfl
theorem put_rn (hr : ReN ρ ρ') (u : Tm) : ∀ (p : List Int) (t z : Tm), putP u p t = some z → putP (repT (vrR ρ) u) p (repT (vrR ρ) t) = some (repT (vrR ρ) z)
  | [], t, z, h => by
    have h : some u.strip = some z := h
    cases h
    show some (repT (vrR ρ) u).strip = _
    rw [rep_bare, rep_strip]
  | k :: p, t, z, h => by
    rw [putP] at h ⊢
    cases hp : t.pa k with
    | none => rw [hp] at h; cases h
    | some x =>
      rw [hp, Option.bind_some] at h
      cases hv : putP u p x with
      | none => rw [hv] at h; cases h
      | some v =>
        rw [hv, Option.map_some] at h
        have h := Option.some.inj h
        subst h
        have hf := pa_sym hp
        rw [pa_rn hp, Option.bind_some, put_rn hr u p x v hv, Option.map_some, repT_sym hf, repT_sym (t := ⟨t.f, _⟩) hf]
        have e : ∀ L : List Tm, (L.map (repT (vrR ρ))).map Tm.strip = (L.map Tm.strip).map (repT (vrR ρ)) := fun L => by
          rw [List.map_map, List.map_map]
          refine List.map_congr_left fun s _ => ?_
          show (repT (vrR ρ) s).strip = repT (vrR ρ) s.strip
          rw [rep_bare, rep_strip]
        have e1 : ∀ j, ((t.l.map (repT (vrR ρ))).take j).map Tm.strip = ((t.l.take j).map Tm.strip).map (repT (vrR ρ)) := fun j => by rw [← List.map_take]; exact e _
        have e2 : ∀ j, ((t.l.map (repT (vrR ρ))).drop j).map Tm.strip = ((t.l.drop j).map Tm.strip).map (repT (vrR ρ)) := fun j => by rw [← List.map_drop]; exact e _
        show some (Tm.mk t.f (((t.l.map (repT (vrR ρ))).take k.toNat).map Tm.strip ++ repT (vrR ρ) v :: ((t.l.map (repT (vrR ρ))).drop (k.toNat + 1)).map Tm.strip)) = some ⟨t.f, ((t.l.take k.toNat).map Tm.strip ++ v :: (t.l.drop (k.toNat + 1)).map Tm.strip).map (repT (vrR ρ))⟩
        rw [e1, e2, List.map_append, List.map_cons]
theorem lt_rn (hr : ReN ρ ρ') (l : Lt) : (Lt.rep (vrR ρ) l).strip = Lt.rep (vrR ρ) l.strip := by
  unfold Lt.rep Lt.strip
  simp only [rep_bare, rep_strip]
theorem join_rn (hr : ReN ρ ρ') {c D : List Lt} {m : Mt} {z : Tm} (hz : putP m.fr.b m.pl m.ti.a = some z) : joinM (mtR ρ m) (c.map (Lt.rep (vrR ρ))) (D.map (Lt.rep (vrR ρ))) = (joinM m c D).map (Lt.rep (vrR ρ)) := by
  unfold joinM
  have e : ∀ L : List Lt, (L.map (Lt.rep (vrR ρ))).map Lt.strip = (L.map Lt.strip).map (Lt.rep (vrR ρ)) := fun L => by
    rw [List.map_map, List.map_map]
    exact List.map_congr_left fun l _ => lt_rn hr l
  show (offL (c.map _) m.fr.n.toNat).map Lt.strip ++ ((offL (D.map _) m.ti.n.toNat).map Lt.strip ++ [⟨negAt (D.map _) m.ti.n, (putP (repT (vrR ρ) m.fr.b) m.pl (repT (vrR ρ) m.ti.a)).getD ⟨0, []⟩, repT (vrR ρ) m.ti.b⟩]) = _
  rw [off_sh, off_sh, e, e, neg_rn, put_rn hr _ _ _ _ hz, hz, List.map_append, List.map_append]
  rfl
theorem fol_rn (hr : ReN ρ ρ') {c D : List Lt} (hc : ∀ l ∈ c, l.ten) (hD : ∀ l ∈ D, l.ten) (hc' : ∀ l ∈ c, (Lt.rep (vrR ρ) l).ten) (hD' : ∀ l ∈ D, (Lt.rep (vrR ρ) l).ten) : VL (folL leadB c D (mtM false c D)) (folL leadB (c.map (Lt.rep (vrR ρ))) (D.map (Lt.rep (vrR ρ))) (mtM false (c.map (Lt.rep (vrR ρ))) (D.map (Lt.rep (vrR ρ))))) := by
  rw [mtM_rn hr]
  unfold folL
  rw [List.filterMap_map]
  refine VL.filt _ fun m hm => ?_
  have hk := mt_at hm
  have s16c : ∀ l ∈ c, l.s16 := fun l hl => ⟨ten_s16 (hc l hl).1, ten_s16 (hc l hl).2⟩
  have s16d : ∀ l ∈ D, l.s16 := fun l hl => ⟨ten_s16 (hD l hl).1, ten_s16 (hD l hl).2⟩
  obtain ⟨z, hz, _⟩ := hk.put s16c s16d
  have hft := hk.ft hc
  have htt := hk.tt hD
  have hpt := at_ten hk.at_ htt.1
  have t1 : (repT (vrR ρ) m.fr.a).ten := by
    obtain ⟨l, h1, h2, _⟩ := hk.fr
    have := hc' l (List.mem_of_getElem? h1)
    rcases h2 with ⟨e1, _⟩ | ⟨e1, _⟩
    · rw [e1]; exact this.1
    · rw [e1]; exact this.2
  have t2 : (repT (vrR ρ) m.pt).ten := by
    have hat : atP m.pl (repT (vrR ρ) m.ti.a) = some (repT (vrR ρ) m.pt) := by
      have : ∀ (p : List Int) (t s : Tm), atP p t = some s → atP p (repT (vrR ρ) t) = some (repT (vrR ρ) s) := fun p => by
        induction p with
        | nil => intro t s h; have h : some t = some s := h; cases h; rfl
        | cons k p ih =>
          intro t s h
          rw [atP] at h ⊢
          cases hp : t.pa k with
          | none => rw [hp] at h; cases h
          | some x =>
            rw [hp] at h
            rw [pa_rn hp]
            exact ih x s h
      exact this _ _ _ hk.at_
    refine at_ten hat ?_
    obtain ⟨l, h1, h2⟩ := hk.ti
    have := hD' l (List.mem_of_getElem? h1)
    rcases h2 with ⟨e1, _⟩ | ⟨e1, _⟩
    · rw [e1]; exact this.1
    · rw [e1]; exact this.2
  obtain ⟨e, ht⟩ := mgr_twin hr hft.1 hpt t1 t2
  show VL (folC leadB c D m).toList (folC leadB (c.map _) (D.map _) (mtR ρ m)).toList
  unfold folC
  show VL _ (Option.toList (if (mgT (repT (vrR ρ) m.fr.a) (repT (vrR ρ) m.pt)).2 = true ∧ leadB (repT (mgS (repT (vrR ρ) m.fr.a) (repT (vrR ρ) m.pt)) (repT (vrR ρ) m.fr.a)) (repT (mgS (repT (vrR ρ) m.fr.a) (repT (vrR ρ) m.pt)) (repT (vrR ρ) m.fr.b)) = true ∧ leadB (repT (mgS (repT (vrR ρ) m.fr.a) (repT (vrR ρ) m.pt)) (repT (vrR ρ) m.ti.a)) (repT (mgS (repT (vrR ρ) m.fr.a) (repT (vrR ρ) m.pt)) (repT (vrR ρ) m.ti.b)) = true then some ((joinM (mtR ρ m) (c.map (Lt.rep (vrR ρ))) (D.map (Lt.rep (vrR ρ)))).map (Lt.rep (mgS (repT (vrR ρ) m.fr.a) (repT (vrR ρ) m.pt)))) else none))
  rw [e, join_rn hr hz]
  by_cases h : (mgT m.fr.a m.pt).2 = true
  · have hw := ht h
    have hl : ∀ x y, leadB (repT (mgS (repT (vrR ρ) m.fr.a) (repT (vrR ρ) m.pt)) (repT (vrR ρ) x)) (repT (mgS (repT (vrR ρ) m.fr.a) (repT (vrR ρ) m.pt)) (repT (vrR ρ) y)) = leadB (repT (mgS m.fr.a m.pt) x) (repT (mgS m.fr.a m.pt) y) := fun x y => by
      unfold leadB
      rw [hw.kb]
    rw [hl, hl]
    by_cases h2 : (mgT m.fr.a m.pt).2 = true ∧ leadB (repT (mgS m.fr.a m.pt) m.fr.a) (repT (mgS m.fr.a m.pt) m.fr.b) = true ∧ leadB (repT (mgS m.fr.a m.pt) m.ti.a) (repT (mgS m.fr.a m.pt) m.ti.b) = true
    · rw [if_pos h2, if_pos h2]
      exact VL.one (hw.vnt _)
    · rw [if_neg h2, if_neg h2]
      exact VL.nil
  · rw [if_neg fun k => h k.1, if_neg fun k => h k.1]
    exact VL.nil
end
theorem sub_flat {α β : Type} {f g : α → List β} : ∀ {A B : List α}, A.Sublist B → (∀ x ∈ A, (f x).Sublist (g x)) → (A.flatMap f).Sublist (B.flatMap g)
  | _, _, .slnil, _ => List.Sublist.slnil
  | _, _, .cons b h, hx => by
    rw [List.flatMap_cons]
    exact (sub_flat h hx).trans (List.sublist_append_right _ _)
  | _, _, .cons_cons a h, hx => by
    rw [List.flatMap_cons, List.flatMap_cons]
    exact (hx a (by simp)).append (sub_flat h fun x hm => hx x (List.mem_cons_of_mem _ hm))
theorem lok_sub (c : List Lt) : (lokL c).Sublist (upL c.length) := by
  unfold lokL
  split
  · rename_i h
    refine List.singleton_sublist.2 (List.mem_map.2 ⟨(hvK c c.length).1.toNat, List.mem_range.2 ?_, by omega⟩)
    have := (hvK_lt c c.length).2
    omega
  · unfold gsK upL
    exact (List.filter_sublist ..).map _
theorem wys_sub (c : List Lt) : (wysL (ldM false) c (lkM false c)).Sublist (wysL (ldM true) c (lkM true c)) := by
  refine sub_flat (lok_sub c) fun n _ => ?_
  unfold wysN
  split
  · rename_i l _
    have e : (wy2 n l).filter (fun w => ldM true w.a w.b) = wy2 n l := List.filter_eq_self.2 fun _ _ => rfl
    rw [e]
    exact List.filter_sublist ..
  · exact List.Sublist.slnil
theorem sup_sub (c d : List Lt) : (supM false c d).Sublist (supM true c d) := by
  have hm : (mtM false c (rnC c d)).Sublist (mtM true c (rnC c d)) := by
    refine sub_flat (wys_sub c) fun f _ => ?_
    unfold mtN
    split
    · exact List.Sublist.slnil
    · exact sub_flat (wys_sub _) fun i _ => List.Sublist.refl _
  unfold supM folL
  rw [filt_flat, filt_flat]
  refine sub_flat hm fun m _ => ?_
  unfold folC
  split
  · rename_i h
    rw [if_pos ⟨h.1, rfl, rfl⟩]
    exact List.Sublist.refl _
  · exact List.nil_sublist _
def fI (P : List Lt → Bool) : List (List Lt) → Nat
  | [] => 0
  | y :: Q => if P y = true then 0 else fI P Q + 1
theorem fI_at (P : List Lt → Bool) : ∀ Q : List (List Lt), (∀ j, j < fI P Q → ∃ y, Q[j]? = some y ∧ P y = false) ∧ (fI P Q < Q.length → ∃ y, Q[fI P Q]? = some y ∧ P y = true)
  | [] => ⟨fun j h => absurd h (by show ¬ j < 0; omega), fun h => absurd h (by show ¬ (0 : Nat) < 0; omega)⟩
  | y :: Q => by
    obtain ⟨h1, h2⟩ := fI_at P Q
    by_cases h : P y = true
    · have e : fI P (y :: Q) = 0 := by unfold fI; rw [if_pos h]
      rw [e]
      exact ⟨fun j hj => absurd hj (by omega), fun _ => ⟨y, rfl, h⟩⟩
    · have e : fI P (y :: Q) = fI P Q + 1 := by
        show (if P y = true then 0 else fI P Q + 1) = _
        rw [if_neg h]
      rw [e]
      refine ⟨fun j hj => ?_, fun hj => ?_⟩
      · cases j with
        | zero => exact ⟨y, rfl, by simpa using h⟩
        | succ j =>
          obtain ⟨z, g1, g2⟩ := h1 j (by omega)
          exact ⟨z, by simpa using g1, g2⟩
      · rw [List.length_cons] at hj
        obtain ⟨z, g1, g2⟩ := h2 (by omega)
        exact ⟨z, by simpa using g1, g2⟩
theorem sub_find {P : List Lt → Bool} {z : List Lt} (hz : P z = true) {R : List (List Lt)} : ∀ {Q : List (List Lt)}, (z :: R).Sublist Q → fI P Q < Q.length ∧ R.Sublist (Q.drop (fI P Q + 1))
  | [], h => by cases h
  | y :: Q, h => by
    by_cases hy : P y = true
    · have e : fI P (y :: Q) = 0 := by unfold fI; rw [if_pos hy]
      rw [e]
      refine ⟨by simp, ?_⟩
      show R.Sublist Q
      cases h with
      | cons _ h => exact (List.sublist_cons_self _ _).trans h
      | cons_cons _ h => exact h
    · have e : fI P (y :: Q) = fI P Q + 1 := by
        show (if P y = true then 0 else fI P Q + 1) = _
        rw [if_neg hy]
      rw [e]
      cases h with
      | cons _ h =>
        obtain ⟨h1, h2⟩ := sub_find hz h
        exact ⟨by rw [List.length_cons]; omega, h2⟩
      | cons_cons _ h => exact absurd hz hy
def gK (p q : List (List Lt)) : Nat → Nat
  | 0 => 0
  | i + 1 => match p[i]? with
    | some z => gK p q i + fI (fun y => sameC z y) (q.drop (gK p q i)) + 1
    | none => gK p q i
theorem gK_inv {p q : List (List Lt)} (h : p.Sublist q) : ∀ i, i ≤ p.length → (p.drop i).Sublist (q.drop (gK p q i)) ∧ gK p q i ≤ q.length
  | 0, _ => ⟨h, Nat.zero_le _⟩
  | i + 1, hi => by
    obtain ⟨h1, h2⟩ := gK_inv h i (by omega)
    obtain ⟨z, hz⟩ : ∃ z, p[i]? = some z := ⟨p[i], List.getElem?_eq_getElem (by omega)⟩
    have e : gK p q (i + 1) = gK p q i + fI (fun y => sameC z y) (q.drop (gK p q i)) + 1 := by
      show (match p[i]? with | some z => _ | none => _) = _
      rw [hz]
    rw [drop_at hz] at h1
    obtain ⟨g1, g2⟩ := sub_find (P := fun y => sameC z y) (sameC_iff.2 rfl) h1
    rw [e]
    rw [List.length_drop] at g1
    rw [List.drop_drop] at g2
    exact ⟨by rw [Nat.add_assoc]; exact g2, by omega⟩
theorem gK_at {p q : List (List Lt)} (h : p.Sublist q) {i : Nat} {z : List Lt} (hz : p[i]? = some z) : ∃ f, gK p q (i + 1) = gK p q i + f + 1 ∧ gK p q i + f < q.length ∧ (∀ j, j < f → ∃ y, q[gK p q i + j]? = some y ∧ sameC z y = false) ∧ ∃ y, q[gK p q i + f]? = some y ∧ sameC z y = true := by
  have hi : i < p.length := by
    rcases Nat.lt_or_ge i p.length with h | h
    · exact h
    · rw [List.getElem?_eq_none h] at hz; cases hz
  obtain ⟨h1, h2⟩ := gK_inv h i (by omega)
  rw [drop_at hz] at h1
  obtain ⟨g1, g2⟩ := sub_find (P := fun y => sameC z y) (sameC_iff.2 rfl) h1
  obtain ⟨a1, a2⟩ := fI_at (fun y => sameC z y) (q.drop (gK p q i))
  refine ⟨fI (fun y => sameC z y) (q.drop (gK p q i)), ?_, ?_, fun j hj => ?_, ?_⟩
  · show (match p[i]? with | some z => _ | none => _) = _
    rw [hz]
  · rw [List.length_drop] at g1; omega
  · obtain ⟨y, b1, b2⟩ := a1 j hj
    rw [List.getElem?_drop] at b1
    exact ⟨y, b1, b2⟩
  · obtain ⟨y, b1, b2⟩ := a2 g1
    rw [List.getElem?_drop] at b1
    exact ⟨y, b1, b2⟩

def Tm.e8 (t : Tm) : Prop := t.ten ∧ t.size ≤ 8
theorem big_14 {s E : Nat} (hE : E ≤ 14) (h : Big E s) : s ≤ 583 := by
  have h := h.up hE
  unfold Big at h
  have e1 : (2 : Nat) ^ 14 = 16384 := by decide
  have e2 : (3 : Nat) ^ 14 = 4782969 := by decide
  rw [e1, e2] at h
  omega
theorem mg_img8 {a b : Tm} (ha : a.e8) (hb : b.e8) {v : Int} (hv : 0 ≤ v) : (imgB (mgT a b).1 v).size ≤ 583 := by
  have hT := mg_told ha.1 hb.1
  have hvar : ∀ u : Tm, u.f < 0 → u.size ≤ 583 := fun u hu => by rw [Tm.size_var hu]; omega
  cases h2 : (mgT a b).2 with
  | false =>
    rw [(hT.no h2).1]
    exact hvar _ (by show (varT v).f < 0; rw [varT_f]; omega)
  | true =>
    have hm := hT.yes h2
    obtain ⟨r, g1, g2⟩ := all_orig [(a, b)] (by simp) (ten_tiny ha.1 hb.1)
    cases r with
    | none => exact absurd hm.uni (g1 rfl _)
    | some s =>
      obtain ⟨k1, k2, k3⟩ := g2 s rfl
      rw [k1.one hm hv]
      by_cases hf : (imgB s v).f < 0
      · exact hvar _ hf
      · obtain ⟨q, hq, _, e⟩ := k3 v hv hf
        rw [← e]
        refine big_14 ?_ (hits_big (subs_shut _) k3 (fun v _ => bare_img k2 v) ⟨q, hq, rfl⟩)
        have e1 : subsP [(a, b)] = (a.flat ++ b.flat) ++ [] := rfl
        have e2 := arA_flat a
        have e3 := arA_flat b
        have e4 := ha.2
        have e5 := hb.2
        rw [e1, List.append_nil, arA_app]
        omega
theorem rn_e8 {c d : List Lt} (hd : ∀ l ∈ d, l.a.e8 ∧ l.b.e8) (h : ∀ l ∈ rnC c d, l.ten) : ∀ l ∈ rnC c d, l.a.e8 ∧ l.b.e8 := fun l hl => by
  have hs := h l hl
  obtain ⟨x, hx, rfl⟩ := List.mem_map.1 hl
  have g1 := top_lo c
  exact ⟨⟨hs.1, by show (repT _ x.a).size ≤ 8; rw [sh_size (by omega)]; exact (hd x hx).1.2⟩, hs.2, by show (repT _ x.b).size ≤ 8; rw [sh_size (by omega)]; exact (hd x hx).2.2⟩
theorem sup_ok5 {free : Bool} {c d : List Lt} (hp : Pr2 free c d) (hl : c.length + d.length ≤ 13) (hc : ∀ l ∈ c, l.a.e8 ∧ l.b.e8) (hd : ∀ l ∈ rnC c d, l.a.e8 ∧ l.b.e8) {z : List Lt} (h : z ∈ supM free c d) : okC5 z := by
  obtain ⟨hz1, hz2⟩ := sup_fit hp h
  obtain ⟨m, hm, _, rfl⟩ := sup_mem h
  have hk := mt_at hm
  have hf : m.fr.a.e8 ∧ m.fr.b.e8 := by
    obtain ⟨l, h1, h2, _⟩ := hk.fr
    have := hc l (List.mem_of_getElem? h1)
    rcases h2 with ⟨e1, e2⟩ | ⟨e1, e2⟩
    · rw [e1, e2]; exact this
    · rw [e1, e2]; exact ⟨this.2, this.1⟩
  have ht : m.ti.a.e8 ∧ m.ti.b.e8 := by
    obtain ⟨l, h1, h2⟩ := hk.ti
    have := hd l (List.mem_of_getElem? h1)
    rcases h2 with ⟨e1, e2⟩ | ⟨e1, e2⟩
    · rw [e1, e2]; exact this
    · rw [e1, e2]; exact ⟨this.2, this.1⟩
  have hpt : m.pt.e8 := ⟨at_ten hk.at_ ht.1.1, Nat.le_trans (atP_ok hk.at_ ht.1.1.1.1).2 ht.1.2⟩
  have hs : ∀ l ∈ joinM m c (rnC c d), l.a.size ≤ 16 ∧ l.b.size ≤ 16 := fun l hl => by
    unfold joinM at hl
    have st : ∀ x : Lt, x.a.e8 ∧ x.b.e8 → x.strip.a.size ≤ 16 ∧ x.strip.b.size ≤ 16 := fun x hx => by
      refine ⟨?_, ?_⟩
      · show x.a.strip.size ≤ 16; rw [Tm.strip_size]; have := hx.1.2; omega
      · show x.b.strip.size ≤ 16; rw [Tm.strip_size]; have := hx.2.2; omega
    rcases List.mem_append.1 hl with hl | hl
    · obtain ⟨x, hx, rfl⟩ := List.mem_map.1 hl
      exact st x (hc x (offL_mem hx))
    · rcases List.mem_append.1 hl with hl | hl
      · obtain ⟨x, hx, rfl⟩ := List.mem_map.1 hl
        exact st x (hd x (offL_mem hx))
      · rw [List.mem_singleton] at hl
        subst hl
        obtain ⟨z, g1, g2, g3⟩ := hk.put hp.cs hp.rn
        rw [g1]
        have := ht.1.2
        have := ht.2.2
        have := hf.2.2
        exact ⟨by show z.size ≤ 16; omega, by show m.ti.b.size ≤ 16; omega⟩
  refine ⟨by omega, fun l hl => ?_⟩
  obtain ⟨r, _, _⟩ := hz2 l hl
  obtain ⟨x, hx, rfl⟩ := List.mem_map.1 hl
  have hbig : ∀ t : Tm, t.size ≤ 16 → (repT (mgS m.fr.a m.pt) t).size ≤ 29550 := fun t ht => by
    have h1 := rep_big (M := 583) (by omega) (fun v hv => mg_img8 hf.1 hpt hv) t
    have h2 := Nat.mul_le_mul_left 583 ht
    have h3 : (repT (mgS m.fr.a m.pt) t).size ≤ 583 * t.size := h1
    omega
  exact ⟨⟨r.1.1, r.1.2, hbig _ (hs x hx).1⟩, r.2.1, r.2.2, hbig _ (hs x hx).2⟩
theorem sup_rn {c d : List Lt} {b : Int} (hb : 0 ≤ b ∧ b ≤ 255) (hc : ∀ l ∈ c, l.ten) (hd : ∀ l ∈ d, l.ten) (hcv : ∀ v ∈ cvs c, v < 1000) (hdv : ∀ v ∈ cvs d, v < 1000) : VL (supM false c d) (supM false (c.map (Lt.rep (shV b))) (d.map (Lt.rep (shV b)))) ∧ (∀ l ∈ c.map (Lt.rep (shV b)), l.ten) ∧ (∀ l ∈ d.map (Lt.rep (shV b)), l.ten) ∧ (∀ v ∈ cvs (c.map (Lt.rep (shV b))), v < 1255) ∧ ∀ v ∈ cvs (d.map (Lt.rep (shV b))), v < 1255 := by
  have vsh : ∀ (k : Int), 0 ≤ k → ∀ t : Tm, (repT (shV k) t).vs = t.vs.map fun v => v + k := fun k hk t => ren_vs' (fun v => v + k) t fun v hv => by have := vs_nonneg t v hv; omega
  have csh : ∀ (k : Int), 0 ≤ k → ∀ e : List Lt, cvs (e.map (Lt.rep (shV k))) = (cvs e).map fun v => v + k := fun k hk e => by
    unfold cvs
    rw [List.flatMap_map, List.map_flatMap]
    refine flat_congr fun l _ => ?_
    show (repT (shV k) l.a).vs ++ (repT (shV k) l.b).vs = _
    rw [vsh k hk, vsh k hk, List.map_append]
  have lt5 : ∀ e : List Lt, (∀ v ∈ cvs e, v < 1000) → ∀ v ∈ cvs (e.map (Lt.rep (shV b))), v < 1255 := fun e he v hv => by
    rw [csh b hb.1] at hv
    obtain ⟨u, hu, rfl⟩ := List.mem_map.1 hv
    have := he u hu
    omega
  have tsh : ∀ (k : Int), 0 ≤ k ∧ k ≤ 10000 → ∀ e : List Lt, (∀ l ∈ e, l.ten) → (∀ v ∈ cvs e, v < 100000) → ∀ l ∈ e.map (Lt.rep (shV k)), l.ten := fun k hk e he hv l hl => by
    obtain ⟨x, hx, rfl⟩ := List.mem_map.1 hl
    have s1 := sh_s16 (ten_s16 (he x hx).1) (b := k) (N := 100000) hk.1 (by omega) fun v h => hv v (cvs_a hx v h)
    have s2 := sh_s16 (ten_s16 (he x hx).2) (b := k) (N := 100000) hk.1 (by omega) fun v h => hv v (cvs_b hx v h)
    exact ⟨⟨s1.1, by show (repT _ x.a).size ≤ 10; rw [sh_size hk.1]; exact (he x hx).1.2⟩, s2.1, by show (repT _ x.b).size ≤ 10; rw [sh_size hk.1]; exact (he x hx).2.2⟩
  have T0 := top_lo c
  have T1 := top_lt (N := 1000) (by omega) hcv
  obtain ⟨c', hc'⟩ : ∃ c', c' = c.map (Lt.rep (shV b)) := ⟨_, rfl⟩
  obtain ⟨d', hd'⟩ : ∃ d', d' = d.map (Lt.rep (shV b)) := ⟨_, rfl⟩
  have hcv' := lt5 c hcv
  have hdv' := lt5 d hdv
  have hct' := tsh b ⟨hb.1, by omega⟩ c hc fun v hv => by have := hcv v hv; omega
  have hdt' := tsh b ⟨hb.1, by omega⟩ d hd fun v hv => by have := hdv v hv; omega
  rw [← hc'] at hcv' hct' ⊢
  rw [← hd'] at hdv' hdt' ⊢
  refine ⟨?_, hct', hdt', hcv', hdv'⟩
  have U0 := top_lo c'
  have U1 := top_lt (N := 1255) (by omega) hcv'
  have hge : topC c ≤ topC c' := by
    apply Classical.byContradiction
    intro hlt
    have h1 : topC c < topC c := top_lt (N := topC c) (by omega) fun v hv => by
      have h2 : v + b ∈ cvs c' := by rw [hc', csh b hb.1]; exact List.mem_map.2 ⟨v, hv, rfl⟩
      have := top_ge2 h2
      omega
    omega
  obtain ⟨T, hT⟩ : ∃ T, T = topC c := ⟨_, rfl⟩
  obtain ⟨U, hU⟩ : ∃ U, U = topC c' := ⟨_, rfl⟩
  rw [← hT] at T0 T1 hge
  rw [← hU] at U0 U1 hge
  obtain ⟨ρ, hρ⟩ : ∃ ρ : Int → Int, ρ = fun v => if v ≤ T then v + b else v + (b + (U - T)) := ⟨_, rfl⟩
  have hr : ReN ρ (fun u => if u ≤ T + b then u - b else u - (b + (U - T))) := by
    refine ⟨fun v hv => ?_, fun v hv => ?_⟩
    · rw [hρ]; simp only; split <;> omega
    · rw [hρ]; simp only; split <;> split <;> omega
  have ec : c' = c.map (Lt.rep (vrR ρ)) := by
    rw [hc']
    refine List.map_congr_left fun l hl => ?_
    have e : ∀ t : Tm, (∀ v ∈ t.vs, v ∈ cvs c) → repT (shV b) t = repT (vrR ρ) t := fun t ht => rep_congr fun v hv => by
      have := top_ge2 (ht v hv)
      show varT _ = varT _
      rw [hρ]; simp only; rw [if_pos (by omega)]
    unfold Lt.rep
    rw [e _ (cvs_a hl), e _ (cvs_b hl)]
  have ed : rnC c' d' = (rnC c d).map (Lt.rep (vrR ρ)) := by
    unfold rnC
    rw [hd', List.map_map, List.map_map, ← hT, ← hU]
    refine List.map_congr_left fun l hl => ?_
    have e : ∀ t : Tm, repT (shV (U + 1)) (repT (shV b) t) = repT (vrR ρ) (repT (shV (T + 1)) t) := fun t => by
      rw [sh_two _ hb.1, sh_two _ (by omega)]
      refine rep_congr fun v hv => ?_
      have := vs_nonneg t v hv
      show varT _ = varT _
      rw [hρ]; simp only; rw [if_neg (by omega)]
      congr 1; omega
    show Lt.rep _ (Lt.rep _ l) = Lt.rep _ (Lt.rep _ l)
    unfold Lt.rep
    simp only [e]
  have hD : ∀ l ∈ rnC c d, l.ten := by
    unfold rnC
    rw [← hT]
    exact tsh (T + 1) ⟨by omega, by omega⟩ d hd fun v hv => by have := hdv v hv; omega
  have hD' : ∀ l ∈ rnC c' d', l.ten := by
    unfold rnC
    rw [← hU]
    exact tsh (U + 1) ⟨by omega, by omega⟩ d' hdt' fun v hv => by have := hdv' v hv; omega
  have := fol_rn hr hc hD (fun l hl => hct' _ (by rw [ec]; exact List.mem_map.2 ⟨l, hl, rfl⟩)) (fun l hl => hD' _ (by rw [ed]; exact List.mem_map.2 ⟨l, hl, rfl⟩))
  rw [← ec, ← ed] at this
  exact this
end Go.Proofs.YteegmcfobgpemaaGreat
