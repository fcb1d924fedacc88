/-
  SupInto: the document's and the program's.
-/
import Derived.Test.YteegmcfobgpemaaGreatMg15
import Derived.Test.YteegmcfobgpemaaGreatMg14
import Derived.Test.YteegmcfobgpemaaGreatAbShp
namespace Go.Proofs.YteegmcfobgpemaaGreat
open Go.RowKit
set_option linter.unusedVariables false
set_option linter.unusedSimpArgs false
set_option maxRecDepth 100000

theorem fold_same {l m : List Int} (h : ∀ v, v ∈ l ↔ v ∈ m) : l.foldl max (-1) = m.foldl max (-1) := by
  obtain ⟨a1, a2, a3⟩ := fold_max l (-1)
  obtain ⟨b1, b2, b3⟩ := fold_max m (-1)
  have h1 := a3 (m.foldl max (-1) + 1) (by omega) fun v hv => by have := b2 v ((h v).1 hv); omega
  have h2 := b3 (l.foldl max (-1) + 1) (by omega) fun v hv => by have := a2 v ((h v).2 hv); omega
  omega
theorem top_doc6 (c : List Lt) : topD (sidT c).nv = topC c := by
  rw [top_cvs]
  refine fold_same fun v => ?_
  have h := sid_vs c
  unfold cvs
  rw [← h]
  exact mem_nub _ v
theorem zip_bare : ∀ a b : List Int, bareB (zipB a b)
  | [], _ => fun x hx => by cases hx
  | _ :: _, [] => fun x hx => by cases hx
  | x :: a, y :: b => fun z hz => by
    rcases List.mem_cons.1 hz with rfl | hz
    · exact varT_strip y
    · exact zip_bare a b z hz
theorem rn_doc (c : List Lt) (k : Int) : c.map (appL (renB c k)) = c.map (Lt.rep (shV k)) := by
  refine List.map_congr_left fun l hl => ?_
  have key : ∀ t : Tm, (∀ v ∈ t.vs, v ∈ (sidT c).nv) → appR (renB c k) t = repT (shV k) t := fun t ht => by
    unfold renB
    rw [appR_bare (zip_bare _ _)]
    refine rep_congr fun v hv => ?_
    have hv := ht v hv
    rw [img_zip (by rw [List.length_map]) hv, getD_of (v := v + k) (by rw [List.getElem?_map, ixOf_at hv]; rfl)]
  unfold appL Lt.rep
  rw [key l.a fun v hv => mem_sid_vs hl (.inl hv), key l.b fun v hv => mem_sid_vs hl (.inr hv)]
theorem ten_okCl {c : List Lt} (hl : c.length ≤ 12) (h : ∀ l ∈ c, l.ten) : okCl c := ⟨hl, fun l hm => ⟨⟨(h l hm).1.1.1, (h l hm).1.1.2, by have := (h l hm).1.2; omega⟩, (h l hm).2.1.1, (h l hm).2.1.2, by have := (h l hm).2.2; omega⟩⟩
theorem sd_ok {t : Lt} (h : t.ten) (n : Nat) : (sdT t n).ok := (sd_ten h n).1.2
theorem sdN_fit {free : Bool} {c d : List Lt} (hc : ∀ l ∈ c, l.ten) (hd : ∀ l ∈ d, l.ten) {N : Nat} {z : List Lt} (h : z ∈ sdN free c d N) : ∀ l ∈ z, l.a.ok ∧ l.b.ok := by
  obtain ⟨n, _, h⟩ := List.mem_flatMap.1 h
  unfold sdn at h
  split at h
  · rename_i x hx
    split at h
    · obtain ⟨m, _, h⟩ := List.mem_flatMap.1 h
      unfold sdm at h
      split at h
      · rename_i y hy
        split at h
        · obtain ⟨k, _, he⟩ := List.mem_filterMap.1 h
          unfold sdk at he
          rw [hx, hy] at he
          simp only at he
          have hxt := hc x (List.mem_of_getElem? hx)
          have hyt := hd y (List.mem_of_getElem? hy)
          split at he
          · rename_i e hee
            split at he
            · have het := flat_ten (sd_ten hyt _) (List.mem_of_getElem? hee)
              obtain ⟨_, _, g3, _⟩ := doc_u (sd_ten hxt (n % 2)) het
              have he := Option.some.inj he
              subst he
              intro l hl
              obtain ⟨w, hw, rfl⟩ := List.mem_map.1 hl
              have hwo : w.a.ok ∧ w.b.ok := by
                rcases List.mem_append.1 hw with h | h
                · rcases List.mem_append.1 h with h | h
                  · exact ⟨(hc w (offL_mem h)).1.1.2, (hc w (offL_mem h)).2.1.2⟩
                  · exact ⟨(hd w (offL_mem h)).1.1.2, (hd w (offL_mem h)).2.1.2⟩
                · rw [List.mem_singleton] at h
                  rw [h]
                  exact ⟨rput_ok _ (sd_ok hxt _) 60 _ _ (sd_ok hyt _), sd_ok hyt _⟩
              exact ⟨appR_ok hwo.1 fun b hb => (g3 b hb).2, appR_ok hwo.2 fun b hb => (g3 b hb).2⟩
            · cases he
          · cases he
        · cases h
      · cases h
    · cases h
  · cases h
theorem sup_oks {free : Bool} {c d : List Lt} (hp : Pr2 free c d) : ∀ z ∈ supM free c d, z.length ≤ 1000000 ∧ ∀ l ∈ z, l.a.ok ∧ l.b.ok := fun z hz => by
  obtain ⟨h1, h2⟩ := sup_fit hp hz
  have := hp.cl
  have := hp.dl
  exact ⟨by omega, fun l hl => ⟨(h2 l hl).1.1.2, (h2 l hl).1.2.2⟩⟩
theorem rIntoA {c d : List Lt} (free : Bool) (hp : Pr2 free c d) (hcl : c.length ≤ 3) (hdl : d.length ≤ 3) (hc : ∀ l ∈ c, l.ten) (hd : ∀ l ∈ d, l.ten) (hcv : ∀ v ∈ cvs c, v < 1000) (hdv : ∀ v ∈ cvs d, v < 1000) (W : World) : AFun Tryz.prog W 10 [.lst (c.map Lt.cv), .lst (d.map Lt.cv), .b free] (.val (.lst ((sdN free c (rnC c d) (2 * c.length)).map clC))) := by
  have h1 := top_lo c
  have h2 := top_lt (N := 1000) (by omega) hcv
  have hT := fun w => refTop_abs w c (ten_okCl (by omega) hc)
  rw [top_doc6] at hT
  have hR := fun w => refRen_abs w d (topC c + 1) (ten_okCl (by omega) hd) (fun v hv => by
    have hv := (mem_nub _ v).1 hv
    have h3 := sid_vs d
    have h4 : v ∈ cvs d := by
      show v ∈ d.flatMap fun l => l.a.vs ++ l.b.vs
      rw [← h3]; exact hv
    exact ⟨vs_nonneg _ v hv, by have := hdv v h4; omega⟩) ⟨by omega, by omega⟩
  rw [rn_doc] at hR
  exact rInto_abs W c d (rnC c d) free (topC c) ⟨by omega, by omega⟩ (by omega) (by rw [rn_len]; omega) hc (rn_ten hd hp.rn) hT hR
-- 
theorem suBoth_abs (W : World) (c d : List Lt) (h1 : Pr2 false c d) (h2 : Pr2 false d c) : AFun Tryz.prog W 14 [.lst (c.map Lt.cv), .lst (d.map Lt.cv)] (.val (.lst ((supM false c d ++ supM false d c).map clC))) := by
  have l1 := supM_len (free := false) h1.cl h1.dl h1.rn
  have l2 := supM_len (free := false) h2.cl h2.dl h2.rn
  have hi := fun w => suInto_abs w c d h1
  have hj := fun w => suInto_abs w d c h2
  obtain ⟨A, hA⟩ : ∃ A, A = supM false c d := ⟨_, rfl⟩
  obtain ⟨B, hB⟩ : ∃ B, B = supM false d c := ⟨_, rfl⟩
  rw [← hA] at hi l1 ⊢
  rw [← hB] at hj l2 ⊢
  have hk := fun w => concatC_abs w [A, B] (by simp) (by simp; omega)
  rw [show [A, B].flatten = A ++ B by simp] at hk
  have hk : ∀ w, AFun Tryz.prog w 40 [.lst [.lst (A.map clC), .lst (B.map clC)]] (.val (.lst ((A ++ B).map clC))) := hk
  refine afun_of (rs := [.lst ((A ++ B).map clC)]) Tryz.func14 Tryz.ntmps14 rfl rfl rfl rfl ?_
  intro w U hW
  refine aS (aR ?_)
  (refine nx (aA (gN rfl) rfl rfl rfl rfl rfl) rfl ?_)
  show AWp _ _ _ _ _ _ _
  refine aS (aR ?_)
  (refine nx (aM (gN rfl) rfl rfl rfl rfl rfl) rfl ?_)
  (refine nx (aM (gN rfl) rfl rfl rfl rfl rfl) rfl ?_)
  (refine nx (a_call (gN rfl) rfl rfl rfl rfl rfl (hi w)) rfl ?_)
  (refine nx (aM (gN rfl) rfl rfl rfl rfl rfl) rfl ?_)
  (refine nx (aM (gN rfl) rfl rfl rfl rfl rfl) rfl ?_)
  (refine nx (a_call (gN rfl) rfl rfl rfl rfl rfl (hj w)) rfl ?_)
  (refine nx (a_bslice (gN rfl) rfl rfl rfl rfl rfl rfl rfl rfl rfl rfl rfl rfl rfl) rfl ?_)
  (refine nx (a_call (gN rfl) rfl rfl rfl rfl rfl (hk w)) rfl ?_)
  (refine nx (aA (gN rfl) rfl rfl rfl rfl rfl) rfl ?_)
  show AWp _ _ _ _ _ _ _
  exact aT (And.intro (.inr rfl) rfl)
-- 
set_option maxHeartbeats 16000000 in
theorem supInto_abs (W : World) (c d : List Lt) (hrc : okC c) (hrd : okC d) : AFun Tryz.prog W 3 [.lst (c.map Lt.cv), .lst (d.map Lt.cv)] (.val (.b true)) := by
  refine afun_of (rs := [.b true]) Tryz.func3 Tryz.ntmps3 rfl rfl rfl rfl ?_
  intro w U hW
  refine aS (aR ?_)
  (refine nx (aA (gN rfl) rfl rfl rfl rfl rfl) rfl ?_)
  show AWp _ _ _ _ _ _ _
  refine aS (aS (aR ?_))
  (refine nx (a_call (gN rfl) rfl rfl rfl rfl rfl (alive16_abs w)) rfl ?_)
  (refine nx (a_not (gN rfl) rfl rfl rfl rfl rfl) rfl ?_)
  show AWp _ _ _ _ _ _ _
  refine aC rfl (fun hc => by cases hc) (fun _ => aK ?_)
  show AWp _ _ _ _ _ _ _
  have hfc := fine11_abs w c 3 8 (by decide) (by decide) (by decide) hrc
  have hfd := fine11_abs w d 3 8 (by decide) (by decide) (by decide) hrd
  cases hF : fineC c 3 8 with
  | false =>
    rw [hF] at hfc
    refine aS (aS (aR ?_))
    (refine nx (aM (gN rfl) rfl rfl rfl rfl rfl) rfl ?_)
    (refine nx (a_call (gN rfl) rfl rfl rfl rfl rfl (hfc)) rfl ?_)
    (refine nx (a_not (gN rfl) rfl rfl rfl rfl rfl) rfl ?_)
    (refine nx (aM (gN rfl) rfl rfl rfl rfl rfl) rfl ?_)
    (refine ⟨_, _, _, a_off (go_off rfl rfl rfl rfl (by first | rfl | assumption | (simp; done) | (simp [*]; done))) rfl rfl rfl, rfl, ?_⟩)
    (refine ⟨_, _, _, a_off (go_off rfl rfl rfl rfl (by first | rfl | assumption | (simp; done) | (simp [*]; done))) rfl rfl rfl, rfl, ?_⟩)
    (refine ⟨_, _, _, a_off (go_off rfl rfl rfl rfl (by first | rfl | assumption | (simp; done) | (simp [*]; done))) rfl rfl rfl, rfl, ?_⟩)
    (refine ⟨_, _, _, aPt (gN rfl) rfl rfl rfl rfl rfl ?hb rfl, rfl, ?_⟩; case hb => (first | rfl | assumption | (simp; done)))
    show AWp _ _ _ _ _ _ _
    refine aC rfl (fun hc => ?_) (fun hc => by cases hc)
    refine aS (aR ?_)
    (refine nx (aA (gN rfl) rfl rfl rfl rfl rfl) rfl ?_)
    show AWp _ _ _ _ _ _ _
    exact aT (And.intro (.inr rfl) rfl)
  | true =>
  cases hG : fineC d 3 8 with
  | false =>
    rw [hF] at hfc
    rw [hG] at hfd
    refine aS (aS (aR ?_))
    (refine nx (aM (gN rfl) rfl rfl rfl rfl rfl) rfl ?_)
    (refine nx (a_call (gN rfl) rfl rfl rfl rfl rfl (hfc)) rfl ?_)
    (refine nx (a_not (gN rfl) rfl rfl rfl rfl rfl) rfl ?_)
    (refine nx (aM (gN rfl) rfl rfl rfl rfl rfl) rfl ?_)
    (refine nx (aM (gd_on rfl rfl rfl rfl (by first | rfl | assumption | (simp; done))) rfl rfl rfl rfl rfl) rfl ?_)
    (refine nx (a_call (gd_on rfl rfl rfl rfl (by first | rfl | assumption | (simp; done))) rfl rfl rfl rfl rfl (hfd)) rfl ?_)
    (refine nx (a_not (gd_on rfl rfl rfl rfl (by first | rfl | assumption | (simp; done))) rfl rfl rfl rfl rfl) rfl ?_)
    (refine ⟨_, _, _, aPf (gN rfl) rfl rfl rfl rfl rfl ?hb rfl, rfl, ?_⟩; case hb => (first | rfl | assumption | (simp; done)))
    show AWp _ _ _ _ _ _ _
    refine aC rfl (fun hc => ?_) (fun hc => by cases hc)
    refine aS (aR ?_)
    (refine nx (aA (gN rfl) rfl rfl rfl rfl rfl) rfl ?_)
    show AWp _ _ _ _ _ _ _
    exact aT (And.intro (.inr rfl) rfl)
  | true =>
  rw [hF] at hfc
  rw [hG] at hfd
  obtain ⟨hcl, hct⟩ := fine_ten (by decide) (by decide) hF
  obtain ⟨hdl, hdt⟩ := fine_ten (by decide) (by decide) hG
  have hcs : ∀ l ∈ c, l.a.sm ∧ l.b.sm := fun l hl => by
    obtain ⟨_, h3⟩ := fineC_facts (by decide) (by decide) hF
    exact ⟨(h3 l hl).1.1.1, (h3 l hl).2.1.1⟩
  have hds : ∀ l ∈ d, l.a.sm ∧ l.b.sm := fun l hl => by
    obtain ⟨_, h3⟩ := fineC_facts (by decide) (by decide) hG
    exact ⟨(h3 l hl).1.1.1, (h3 l hl).2.1.1⟩
  have hcv := sm_cvs hcs
  have hdv := sm_cvs hds
  have hokc : ∀ l ∈ c, l.a.ok ∧ l.b.ok := fun l hl => ⟨(hct l hl).1.1.2, (hct l hl).2.1.2⟩
  have hokd : ∀ l ∈ d, l.a.ok ∧ l.b.ok := fun l hl => ⟨(hdt l hl).1.1.2, (hdt l hl).2.1.2⟩
  have hp : ∀ free, Pr2 free c d := fun free => pr_of free (N := 1000) (by omega) hcv hdv (by omega) (by omega) hct hdt
  have hq : Pr2 false d c := pr_of false (N := 1000) (by omega) hdv hcv (by omega) (by omega) hdt hct
  refine aS (aS (aR ?_))
  (refine nx (aM (gN rfl) rfl rfl rfl rfl rfl) rfl ?_)
  (refine nx (a_call (gN rfl) rfl rfl rfl rfl rfl (hfc)) rfl ?_)
  (refine nx (a_not (gN rfl) rfl rfl rfl rfl rfl) rfl ?_)
  (refine nx (aM (gN rfl) rfl rfl rfl rfl rfl) rfl ?_)
  (refine nx (aM (gd_on rfl rfl rfl rfl (by first | rfl | assumption | (simp; done))) rfl rfl rfl rfl rfl) rfl ?_)
  (refine nx (a_call (gd_on rfl rfl rfl rfl (by first | rfl | assumption | (simp; done))) rfl rfl rfl rfl rfl (hfd)) rfl ?_)
  (refine nx (a_not (gd_on rfl rfl rfl rfl (by first | rfl | assumption | (simp; done))) rfl rfl rfl rfl rfl) rfl ?_)
  (refine ⟨_, _, _, aPf (gN rfl) rfl rfl rfl rfl rfl ?hb rfl, rfl, ?_⟩; case hb => (first | rfl | assumption | (simp; done)))
  show AWp _ _ _ _ _ _ _
  refine aC rfl (fun hc => by cases hc) (fun _ => aK ?_)
  show AWp _ _ _ _ _ _ _
  refine aS (aR ?_)
  (refine nx (aM (gN rfl) rfl rfl rfl rfl rfl) rfl ?_)
  (refine nx (a_call (gN rfl) rfl rfl rfl rfl rfl (of11_abs w c (by omega) hokc)) rfl ?_)
  (refine nx (aM (gN rfl) rfl rfl rfl rfl rfl) rfl ?_)
  (refine nx (a_call (gN rfl) rfl rfl rfl rfl rfl (of11_abs w d (by omega) hokd)) rfl ?_)
  (refine nx (aA (gN rfl) rfl rfl rfl rfl rfl) rfl ?_)
  (refine nx (aA (gN rfl) rfl rfl rfl rfl rfl) rfl ?_)
  show AWp _ _ _ _ _ _ _
  have r1 := rIntoA false (hp false) hcl hdl hct hdt hcv hdv w
  have r2 := rIntoA false hq hdl hcl hdt hct hdv hcv w
  have r3 := rIntoA true (hp true) hcl hdl hct hdt hcv hdv w
  have hDt := rn_ten (c := c) hdt (hp false).rn
  have hCt := rn_ten (c := d) hct hq.rn
  have l1 := supM_len (free := false) (hp false).cl (hp false).dl (hp false).rn
  have l2 := supM_len (free := false) hq.cl hq.dl hq.rn
  have l3 := supM_len (free := true) (hp true).cl (hp true).dl (hp true).rn
  have s1 := sup_doc (free := false) hct hDt
  have s2 := sup_doc (free := false) hdt hCt
  have s3 := sup_doc (free := true) hct hDt
  have o1 := sup_oks (hp false)
  have o2 := sup_oks hq
  have o3 := sup_oks (hp true)
  have n1 : ∀ z ∈ sdN false c (rnC c d) (2 * c.length), ∀ l ∈ z, l.a.ok ∧ l.b.ok := fun z hz => sdN_fit hct hDt hz
  have n2 : ∀ z ∈ sdN false d (rnC d c) (2 * d.length), ∀ l ∈ z, l.a.ok ∧ l.b.ok := fun z hz => sdN_fit hdt hCt hz
  have n3 : ∀ z ∈ sdN true c (rnC c d) (2 * c.length), ∀ l ∈ z, l.a.ok ∧ l.b.ok := fun z hz => sdN_fit hct hDt hz
  have m1 := sdN_len (free := false) (c := c) (d := rnC c d) (by rw [rn_len]; omega) hDt (2 * c.length)
  have m2 := sdN_len (free := false) (c := d) (d := rnC d c) (by rw [rn_len]; omega) hCt (2 * d.length)
  have i1 := suInto_abs w c d (hp false)
  have i2 := suBoth_abs w c d (hp false) hq
  have i3 := suFree_abs w c d (hp true)
  obtain ⟨A1, hA1⟩ : ∃ A, A = supM false c d := ⟨_, rfl⟩
  obtain ⟨A2, hA2⟩ : ∃ A, A = supM false d c := ⟨_, rfl⟩
  obtain ⟨A3, hA3⟩ : ∃ A, A = supM true c d := ⟨_, rfl⟩
  obtain ⟨B1, hB1⟩ : ∃ B, B = sdN false c (rnC c d) (2 * c.length) := ⟨_, rfl⟩
  obtain ⟨B2, hB2⟩ : ∃ B, B = sdN false d (rnC d c) (2 * d.length) := ⟨_, rfl⟩
  obtain ⟨B3, hB3⟩ : ∃ B, B = sdN true c (rnC c d) (2 * c.length) := ⟨_, rfl⟩
  rw [← hA1] at l1 s1 o1 i1 i2
  rw [← hA2] at l2 s2 o2 i2
  rw [← hA3] at l3 s3 o3 i3
  rw [← hB1] at r1 s1 n1 m1
  rw [← hB2] at r2 s2 n2 m2
  rw [← hB3] at r3 s3 n3
  have o12 : ∀ z ∈ A1 ++ A2, z.length ≤ 1000000 ∧ ∀ l ∈ z, l.a.ok ∧ l.b.ok := fun z hz => by
    rcases List.mem_append.1 hz with h | h
    · exact o1 z h
    · exact o2 z h
  have hl12 : (A1 ++ A2).length ≤ 100000 := by rw [List.length_append]; omega
  have t1 := to15_abs w A1 (by omega) o1
  have t2 := to15_abs w (A1 ++ A2) hl12 o12
  have t3 := to15_abs w A3 (by omega) o3
  have e1 := sameAll_abs w (stC A1) B1 (by unfold stC; rw [List.length_map]; omega) (stC_fit o1) n1 (by rw [stC2]; exact s1)
  have e2 := sameAll_abs w (stC (A1 ++ A2)) (B1 ++ B2) (by unfold stC; rw [List.length_map]; exact hl12) (stC_fit o12) (fun z hz => by
    rcases List.mem_append.1 hz with h | h
    · exact n1 z h
    · exact n2 z h) (by rw [stC2, stC_app, stC_app, s1, s2])
  rw [List.map_append (f := clC) (l₁ := B1)] at e2
  have e3 := sameAll_abs w (stC A3) B3 (by unfold stC; rw [List.length_map]; omega) (stC_fit o3) n3 (by rw [stC2]; exact s3)
  have g1 := to11_abs w c (by omega) hokc
  have g2 := same11_abs w (c.map Lt.strip) c (by rw [List.length_map]; omega) (fun l hl => by
    obtain ⟨x, hx, rfl⟩ := List.mem_map.1 hl
    exact ⟨Tm.strip_ok (hokc x hx).1, Tm.strip_ok (hokc x hx).2⟩) hokc
  rw [sameC_iff.2 (strips2 c)] at g2
  have hz1 := clC_size B1
  have hz2 := clC_size B2
  have hy1 : (B1.map clC).length ≤ 1200 := by rw [List.length_map]; omega
  have hy2 : (B2.map clC).length ≤ 1200 := by rw [List.length_map]; omega
  refine aS (aR ?_)
  (refine nx (aM (gN rfl) rfl rfl rfl rfl rfl) rfl ?_)
  (refine nx (aM (gN rfl) rfl rfl rfl rfl rfl) rfl ?_)
  (refine nx (a_call (gN rfl) rfl rfl rfl rfl rfl (r1)) rfl ?_)
  (refine nx (aM (gN rfl) rfl rfl rfl rfl rfl) rfl ?_)
  (refine nx (aM (gN rfl) rfl rfl rfl rfl rfl) rfl ?_)
  (refine nx (a_call (gN rfl) rfl rfl rfl rfl rfl (r2)) rfl ?_)
  (refine nx (aA (gN rfl) rfl rfl rfl rfl rfl) rfl ?_)
  (refine nx (aA (gN rfl) rfl rfl rfl rfl rfl) rfl ?_)
  show AWp _ _ _ _ _ _ _
  refine aS (aR ?_)
  (refine nx (aM (gN rfl) rfl rfl rfl rfl rfl) rfl ?_)
  (refine nx (aM (gN rfl) rfl rfl rfl rfl rfl) rfl ?_)
  (refine nx (a_call (gN rfl) rfl rfl rfl rfl rfl (i1)) rfl ?_)
  (refine nx (a_call (gN rfl) rfl rfl rfl rfl rfl (t1)) rfl ?_)
  (refine nx (aM (gN rfl) rfl rfl rfl rfl rfl) rfl ?_)
  (refine nx (a_call (gN rfl) rfl rfl rfl rfl rfl (e1)) rfl ?_)
  (refine nx (aM (gN rfl) rfl rfl rfl rfl rfl) rfl ?_)
  (refine nx (aM (gd_on rfl rfl rfl rfl (by first | rfl | assumption | (simp; done))) rfl rfl rfl rfl rfl) rfl ?_)
  (refine nx (aM (gd_on rfl rfl rfl rfl (by first | rfl | assumption | (simp; done))) rfl rfl rfl rfl rfl) rfl ?_)
  (refine nx (a_call (gd_on rfl rfl rfl rfl (by first | rfl | assumption | (simp; done))) rfl rfl rfl rfl rfl (i2)) rfl ?_)
  (refine nx (a_call (gd_on rfl rfl rfl rfl (by first | rfl | assumption | (simp; done))) rfl rfl rfl rfl rfl (t2)) rfl ?_)
  (refine nx (a_bslice0 (gd_on rfl rfl rfl rfl (by first | rfl | assumption | (simp; done))) rfl rfl rfl rfl rfl rfl rfl rfl) rfl ?_)
  (refine nx (aM (gd_on rfl rfl rfl rfl (by first | rfl | assumption | (simp; done))) rfl rfl rfl rfl rfl) rfl ?_)
  (refine nx (a_app (gd_on rfl rfl rfl rfl (by first | rfl | assumption | (simp; done))) rfl rfl rfl rfl rfl rfl rfl rfl rfl rfl rfl rfl rfl rfl rfl (by first | assumption | exact sZ rfl | exact Tm.size_all _ | exact Bd.size_all _ | exact ints_size _ | exact bys_size _ | exact Lt.size_all _) (by first | assumption | exact sZ rfl | exact Tm.size_all _ | exact Bd.size_all _ | exact ints_size _ | exact bys_size _ | exact Lt.size_all _) (by first | omega | (simp only [List.length_map, List.length_append, List.length_cons, List.length_nil] <;> omega) | (simp <;> omega))) rfl ?_)
  (refine nx (aM (gd_on rfl rfl rfl rfl (by first | rfl | assumption | (simp; done))) rfl rfl rfl rfl rfl) rfl ?_)
  (refine nx (a_app (gd_on rfl rfl rfl rfl (by first | rfl | assumption | (simp; done))) rfl rfl rfl rfl rfl rfl rfl rfl rfl rfl rfl rfl rfl rfl rfl (by first | assumption | exact sZ rfl | exact Tm.size_all _ | exact Bd.size_all _ | exact ints_size _ | exact bys_size _ | exact Lt.size_all _) (by first | assumption | exact sZ rfl | exact Tm.size_all _ | exact Bd.size_all _ | exact ints_size _ | exact bys_size _ | exact Lt.size_all _) (by first | omega | (simp only [List.length_map, List.length_append, List.length_cons, List.length_nil] <;> omega) | (simp <;> omega))) rfl ?_)
  (refine nx (a_call (gd_on rfl rfl rfl rfl (by first | rfl | assumption | (simp; done))) rfl rfl rfl rfl rfl (e2)) rfl ?_)
  (refine ⟨_, _, _, aPt (gN rfl) rfl rfl rfl rfl rfl ?hb rfl, rfl, ?_⟩; case hb => (first | rfl | assumption | (simp; done)))
  (refine nx (aM (gN rfl) rfl rfl rfl rfl rfl) rfl ?_)
  (refine nx (aM (gd_on rfl rfl rfl rfl (by first | rfl | assumption | (simp; done))) rfl rfl rfl rfl rfl) rfl ?_)
  (refine nx (aM (gd_on rfl rfl rfl rfl (by first | rfl | assumption | (simp; done))) rfl rfl rfl rfl rfl) rfl ?_)
  (refine nx (a_call (gd_on rfl rfl rfl rfl (by first | rfl | assumption | (simp; done))) rfl rfl rfl rfl rfl (i3)) rfl ?_)
  (refine nx (a_call (gd_on rfl rfl rfl rfl (by first | rfl | assumption | (simp; done))) rfl rfl rfl rfl rfl (t3)) rfl ?_)
  (refine nx (aM (gd_on rfl rfl rfl rfl (by first | rfl | assumption | (simp; done))) rfl rfl rfl rfl rfl) rfl ?_)
  (refine nx (aM (gd_on rfl rfl rfl rfl (by first | rfl | assumption | (simp; done))) rfl rfl rfl rfl rfl) rfl ?_)
  (refine nx (a_call (gd_on rfl rfl rfl rfl (by first | rfl | assumption | (simp; done))) rfl rfl rfl rfl rfl (r3)) rfl ?_)
  (refine nx (a_call (gd_on rfl rfl rfl rfl (by first | rfl | assumption | (simp; done))) rfl rfl rfl rfl rfl (e3)) rfl ?_)
  (refine ⟨_, _, _, aPt (gN rfl) rfl rfl rfl rfl rfl ?hb rfl, rfl, ?_⟩; case hb => (first | rfl | assumption | (simp; done)))
  (refine nx (aM (gN rfl) rfl rfl rfl rfl rfl) rfl ?_)
  (refine nx (aM (gd_on rfl rfl rfl rfl (by first | rfl | assumption | (simp; done))) rfl rfl rfl rfl rfl) rfl ?_)
  (refine nx (a_call (gd_on rfl rfl rfl rfl (by first | rfl | assumption | (simp; done))) rfl rfl rfl rfl rfl (g1)) rfl ?_)
  (refine nx (aM (gd_on rfl rfl rfl rfl (by first | rfl | assumption | (simp; done))) rfl rfl rfl rfl rfl) rfl ?_)
  (refine nx (a_call (gd_on rfl rfl rfl rfl (by first | rfl | assumption | (simp; done))) rfl rfl rfl rfl rfl (g2)) rfl ?_)
  (refine ⟨_, _, _, aPt (gN rfl) rfl rfl rfl rfl rfl ?hb rfl, rfl, ?_⟩; case hb => (first | rfl | assumption | (simp; done)))
  (refine nx (aA (gN rfl) rfl rfl rfl rfl rfl) rfl ?_)
  show AWp _ _ _ _ _ _ _
  exact aT (And.intro (.inr rfl) rfl)
theorem shp_bool {n : Nat} {c : CV} (h : Shp Tryz.prog n 4 c) : ∃ b, c = .b b := by
  cases n with
  | zero => exact h.elim
  | succ n =>
    rw [Shp, Tryz.underlying4] at h
    exact h
theorem shp_lits {n : Nat} {c : CV} (h : Shp Tryz.prog n 22 c) : ∃ l : List Lt, c = .lst (l.map Lt.cv) ∧ okC l := by
  cases n with
  | zero => exact h.elim
  | succ n =>
    rw [Shp, Tryz.underlying22] at h
    obtain ⟨l, rfl, hl⟩ := h
    obtain ⟨m, h1, h2⟩ := list_of Lt.cv (fun l => l.a.rng ∧ l.b.rng) (l := l) (fun x hx => by
      have hx := hl x hx
      cases n with
      | zero => exact hx.elim
      | succ n =>
        have hx : Shp Tryz.prog (n + 1) 52 x := hx
        rw [Shp, Tryz.underlying52] at hx
        obtain ⟨l, rfl, hl, hf⟩ := hx
        match l, hl with
        | [x, y, z], _ =>
          obtain ⟨b, rfl⟩ := shp_bool (hf 0 _ x rfl rfl)
          obtain ⟨t, rfl, ht⟩ := shp_tm n (hf 1 _ y rfl rfl)
          obtain ⟨u, rfl, hu⟩ := shp_tm n (hf 2 _ z rfl rfl)
          exact ⟨⟨b, t, u⟩, rfl, ht, hu⟩)
    exact ⟨m, by rw [h1], h2⟩
end Go.Proofs.YteegmcfobgpemaaGreat

