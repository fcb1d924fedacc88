/-
  UnFns6 UnFns7 UnFns8 AbBack UnFns9 AbMapR AbEnds
-/
import Derived.Test.YteegmcfobgpemaaGreatMg6
import Derived.Test.YteegmcfobgpemaaGreatMg3
import Derived.Test.YteegmcfobgpemaaGreatMg2
import Derived.Maps.RangeRun
namespace Go.Proofs.YteegmcfobgpemaaGreat
open Go.RowKit
set_option linter.unusedVariables false
set_option linter.unusedSimpArgs false
set_option maxRecDepth 100000
structure FitU (c : Cl) : Prop where
  up : upOk c.ns
  kid : kidOk c.ns
  trm : trmOk c.ns
  big : pw c.ns ≤ 1000
  vrb : ∀ v m, lookV c.vr v = some m → m < c.ns.length
theorem Inv.fitU {c : Cl} {E} {M : Nat} (h : Inv c E M) : FitU c := by
  have hf := h.fit
  obtain ⟨H, r, h1, _⟩ := h.cls
  exact ⟨hf.up, hf.kid, hf.trm, h.big, fun v m hm => (h1.vrt v m hm).1⟩
def upB (c : Cl) : Prop := upOk c.ns ∧ ∀ v m, lookV c.vr v = some m → m < c.ns.length
theorem upB.add {c : Cl} (h : upB c) (t : Tm) : upB (addC c t) := by
  have hl : (addC c t).ns.length = c.ns.length + 1 := addC_len c t
  have hu : addU c t ≤ c.ns.length := by
    unfold addU
    split
    · cases e : lookV c.vr (-1 - t.f) with
      | none => exact Nat.le_refl _
      | some m => exact Nat.le_of_lt (h.2 _ m e)
    · exact Nat.le_refl _
  refine ⟨fun m hm => ?_, fun v m hm => ?_⟩
  · rw [hl] at hm ⊢
    unfold nU addC
    rcases Nat.lt_or_ge m c.ns.length with h1 | h1
    · simp only
      rw [List.getD_eq_getElem?_getD, List.getElem?_append_left h1, ← List.getD_eq_getElem?_getD]
      have := h.1 m h1
      unfold nU at this
      omega
    · have : m = c.ns.length := by omega
      subst this
      simp only
      rw [getD_end]
      show addU c t < _
      omega
  · rw [hl]
    have hm : lookV (addV c t) v = some m := hm
    unfold addV at hm
    split at hm
    · split at hm
      · have := h.2 v m hm; omega
      · rw [lookV_snoc] at hm
        cases e : lookV c.vr v with
        | some m' => rw [e] at hm; cases hm; have := h.2 v _ e; omega
        | none =>
          rw [e, Option.none_or] at hm
          split at hm
          · cases hm; omega
          · cases hm
    · have := h.2 v m hm; omega
theorem upB.all (l : List Tm) : ∀ {c : Cl}, upB c → upB (addAll c l) := by
  induction l with
  | nil => exact fun h => h
  | cons t l ih => exact fun h => ih (h.add t)
theorem upB.parts {c : Cl} (h : upB c) (n : Nat) : upB (pC c n).1 := by
  unfold pC
  split
  · exact h
  · split
    · refine upB.all _ ⟨fun m hm => ?_, fun v m hm => ?_⟩
      · have hl : (c.setFi n c.ns.length).ns.length = c.ns.length := by unfold Cl.setFi setFi; simp
        rw [hl] at hm ⊢
        have hU : nU (c.setFi n c.ns.length).ns m = nU c.ns m := by
          unfold Cl.setFi setFi nU
          simp only
          rw [List.getD_eq_getElem?_getD, List.getElem?_set]
          split
          · rename_i e
            subst e
            split
            · rfl
            · rename_i h9; exact absurd hm h9
          · rw [← List.getD_eq_getElem?_getD]
        rw [hU]; exact h.1 m hm
      · have := h.2 v m hm
        show m < (setFi c.ns n c.ns.length).length
        unfold setFi
        rw [List.length_set]; exact this
    · exact h
theorem FitU.parts {c : Cl} (h : FitU c) {n : Nat} (hn : n < c.ns.length) : FitU (pC c n).1 := by
  obtain ⟨h1, h2⟩ := upB.parts ⟨h.up, h.vrb⟩ n
  exact ⟨h1, h.kid.parts hn, h.trm.parts hn, by rw [pw_parts]; exact h.big, h2⟩
theorem kidOk.same {ns ns' : List Nd} (h : kidOk ns) (hl : ns'.length = ns.length) (ht : ∀ m, nT ns' m = nT ns m) (hk : ∀ m, nK ns' m = nK ns m) : kidOk ns' := fun n hn hkn i hi => by
  rw [hl] at hn ⊢
  rw [hk] at hkn ⊢
  rw [ht] at hi
  exact h n hn hkn i hi
theorem FitU.head {k : Nat} {ns : List Nd} {vr ps} {n : Nat} {r} (h : FitU ⟨ns, vr, ps⟩) (hn : n < ns.length) (hd : headC k ns n = some r) : FitU ⟨r.1, vr, ps⟩ ∧ r.1.length = ns.length ∧ r.2 < ns.length := by
  obtain ⟨a1, a2, a3, a4, a5⟩ := headC_keep k hd h.up hn
  exact ⟨⟨a1, h.kid.same a2 a4 a5, h.trm.same a2 a4, by show pw r.1 ≤ 1000; rw [pw_same a2 a4 a5]; exact h.big, fun v m hm => by show m < r.1.length; rw [a2]; exact h.vrb v m hm⟩, a2, a3⟩
theorem nU_us {ns : List Nd} {n : Nat} {x : Int} (m : Nat) : nU (setUs ns n x) m = nU ns m := by
  unfold nU setUs
  rw [List.getD_eq_getElem?_getD, List.getElem?_set]
  split
  · rename_i e
    subst e
    split
    · rfl
    · rename_i h9
      rw [List.getD_eq_getElem?_getD, List.getElem?_eq_none (by omega)]
  · rw [← List.getD_eq_getElem?_getD]
theorem setUsLen (ns : List Nd) (n : Nat) (x : Int) : (setUs ns n x).length = ns.length := by unfold setUs; simp
theorem FitU.us {ns : List Nd} {vr ps} (h : FitU ⟨ns, vr, ps⟩) (n : Nat) (x : Int) : FitU ⟨setUs ns n x, vr, ps⟩ := by
  have hl := setUsLen ns n x
  exact ⟨fun m hm => by show nU (setUs ns n x) m < (setUs ns n x).length; rw [nU_us, hl]; exact h.up m (by have : m < (setUs ns n x).length := hm; rw [hl] at this; exact this), h.kid.same hl tk_us.1 tk_us.2, h.trm.same hl tk_us.1, by show pw (setUs ns n x) ≤ 1000; rw [pw_us]; exact h.big, fun v m hm => by show m < (setUs ns n x).length; rw [hl]; exact h.vrb v m hm⟩
def usB (ns : List Nd) (B : Int) : Prop := ∀ m, -B ≤ nS ns m ∧ nS ns m ≤ B
theorem nS_up9 {ns : List Nd} {n k : Nat} (m : Nat) : nS (setUp ns n k) m = nS ns m := by
  unfold nS setUp
  rw [List.getD_eq_getElem?_getD, List.getElem?_set]
  split
  · rename_i e
    subst e
    split
    · rfl
    · rename_i h9
      rw [List.getD_eq_getElem?_getD, List.getElem?_eq_none (by omega)]
  · rw [← List.getD_eq_getElem?_getD]
theorem headC_us : ∀ (k : Nat) {ns : List Nd} {n : Nat} {r}, headC k ns n = some r → ∀ m, nS r.1 m = nS ns m
  | 0, _, _, _, e => by cases e
  | k + 1, ns, n, r, e => fun m => by
    rw [headC] at e
    split at e
    · cases e; rfl
    · rw [headC_us k e m, nS_up9]
theorem usB.head {k : Nat} {ns : List Nd} {n : Nat} {r} {B : Int} (h : usB ns B) (hd : headC k ns n = some r) : usB r.1 B := fun m => by rw [headC_us k hd]; exact h m
theorem usB.set {ns : List Nd} {B : Int} (h : usB ns B) {n : Nat} {x : Int} (hx : -(B + 1) ≤ x ∧ x ≤ B + 1) : usB (setUs ns n x) (B + 1) := fun m => by
  have h1 := h m
  unfold nS setUs at *
  rw [List.getD_eq_getElem?_getD, List.getElem?_set]
  split
  · split
    · exact hx
    · show _ ≤ (0 : Int) ∧ (0 : Int) ≤ _; omega
  · rw [← List.getD_eq_getElem?_getD]; omega
theorem usB.mono {ns : List Nd} {B B' : Int} (h : usB ns B) (hb : B ≤ B') : usB ns B' := fun m => by have := h m; omega
theorem nS_addC {c : Cl} {t : Tm} {B : Int} (h : usB c.ns B) (hB : 0 ≤ B) : usB (addC c t).ns B := fun m => by
  unfold nS addC
  simp only
  rw [List.getD_eq_getElem?_getD]
  rcases Nat.lt_trichotomy m c.ns.length with h1 | h1 | h1
  · rw [List.getElem?_append_left h1, ← List.getD_eq_getElem?_getD]; exact h m
  · subst h1; rw [List.getElem?_append_right (Nat.le_refl _), Nat.sub_self]; show _ ≤ (0 : Int) ∧ (0 : Int) ≤ _; omega
  · rw [List.getElem?_eq_none (by simp; omega)]; show _ ≤ (0 : Int) ∧ (0 : Int) ≤ _; omega
theorem usB.parts {c : Cl} {B : Int} (h : usB c.ns B) (hB : 0 ≤ B) (n : Nat) : usB (pC c n).1.ns B := by
  have hall : ∀ (l : List Tm) (c : Cl), usB c.ns B → usB (addAll c l).ns B := by
    intro l
    induction l with
    | nil => exact fun c h => h
    | cons t l ih => exact fun c h => ih _ (nS_addC h hB)
  unfold pC
  split
  · exact h
  · split
    · refine hall _ _ fun m => ?_
      have : nS (c.setFi n c.ns.length).ns m = nS c.ns m := by
        unfold Cl.setFi setFi nS
        simp only
        rw [List.getD_eq_getElem?_getD, List.getElem?_set]
        split
        · rename_i e
          subst e
          split
          · rfl
          · rename_i h9
            rw [List.getD_eq_getElem?_getD, List.getElem?_eq_none (by omega)]
        · rw [← List.getD_eq_getElem?_getD]
      rw [this]; exact h m
    · exact h
theorem setUs_at {ns : List Nd} {n : Nat} {k : Int} {x : Nd} (h : ns[n]? = some x) : (setUs ns n k)[n]? = some { x with us := k } := by
  unfold setUs
  have hl : n < ns.length := (List.getElem?_eq_some_iff.1 h).1
  rw [List.getElem?_set_self hl, getD_at h]
noncomputable abbrev intsV (l : List Nat) : CV := .lst (l.map fun n : Nat => CV.i (n : Int))
theorem nats_size (l : List Nat) : ∀ c ∈ l.map (fun n : Nat => CV.i (n : Int)), c.size = 1 := fun c hc => by
  obtain ⟨n, _, rfl⟩ := List.mem_map.1 hc
  rfl
-- 
set_option maxHeartbeats 8000000 in
theorem uCount_abs (k j0 : Nat) (c0 : Cl) (q : Cl × List Nat) (hq : countC k j0 0 c0 [] = some q) (hF0 : FitU c0) (hu0 : usB c0.ns 0) : AFunO Tryz.prog 154 (cstM c0) [.bp 350001 0 []] (.val (intsV q.2)) (cstM q.1) := by
  refine afunO_of Tryz.func154 Tryz.ntmps154 rfl rfl rfl rfl rfl rfl ?_
  intro w U hU
  refine aS (aR ?_)
  (refine nx (aA (gN rfl) rfl rfl rfl rfl rfl) rfl ?_)
  show AWp _ _ _ _ _ _ _
  refine aS (aR ?_)
  (refine nx (aA (gN rfl) rfl rfl rfl rfl rfl) rfl ?_)
  show AWp _ _ _ _ _ _ _
  refine aS (aS (aR ?_))
  (refine nx (aA (gN rfl) rfl rfl rfl rfl rfl) rfl ?_)
  show AWp _ _ _ _ _ _ _
  refine aB (awp_loop (fun j s => ∃ n c hs, countC k j n c hs = some q ∧ FitU c ∧ usB c.ns ((n : Int) * 1000) ∧ n ≤ 1000 ∧ hs.length ≤ n ∧ s = (0, AV.bp 350001 0 []) :: (3, .own (intsV hs) 200025) :: (200025, .tok 3 1) :: (4, .val (.i (n : Int))) :: cstM c) (n := j0) (s' := (0, AV.bp 350001 0 []) :: (3, .own (intsV []) 200025) :: (200025, .tok 3 1) :: (4, .val (.i ((0 : Nat) : Int))) :: cstM c0) ((wk_nil 3 200025 3 1 rfl rfl rfl rfl rfl rfl (by kernel_rfl)).trans (wk_sub ⟨rfl, rfl, rfl, rfl, rfl, rfl, rfl, rfl, rfl, rfl, rfl, trivial⟩)) ⟨0, c0, [], hq, hF0, by simpa using hu0, by omega, Nat.le_refl _, rfl⟩ ?_)
  rintro j s ⟨n, c, hs, hq, hF, hu, hn, hsl, rfl⟩
  cases j with
  | zero => cases hq
  | succ j =>
  rw [countC] at hq
  have hl : c.ns.length ≤ 1000 := Nat.le_trans (len_pw _) hF.big
  refine aS (aS (aR ?_))
  (refine nx (aM (gN rfl) rfl rfl rfl rfl rfl) rfl ?_)
  (refine nx (aM (gN rfl) rfl rfl rfl rfl rfl) rfl ?_)
  (refine nx (aNc (gN rfl) rfl rfl rfl rfl rfl) rfl ?_)
  (refine nx (aF (gN rfl) rfl rfl rfl rfl rfl rfl rfl rfl rfl) rfl ?_)
  (refine nx (aLf (gN rfl) rfl rfl rfl rfl rfl rfl rfl rfl rfl rfl rfl rfl rfl) rfl ?_)
  (refine nx (a_lenM (gN rfl) rfl rfl rfl rfl rfl rfl rfl) rfl ?_)
  (refine nx (a_lss (gN rfl) rfl rfl rfl rfl rfl rfl) rfl ?_)
  show AWp _ _ _ _ _ _ _
  by_cases hlt : n < c.ns.length
  case neg =>
    rw [if_neg hlt] at hq
    have hq := Option.some.inj hq
    subst hq
    refine aC rfl (fun hc => ?_) (fun hc => ?_)
    · exfalso
      have : (n : Int) < c.ns.length := by simpa using hc
      omega
    refine aE ?_
    show AWp _ _ _ _ _ _ _
    refine aS (aR ?_)
    (refine nx (aM (gN rfl) rfl rfl rfl rfl rfl) rfl ?_)
    (refine nx (aA (gN rfl) rfl rfl rfl rfl rfl) rfl ?_)
    show AWp _ _ _ _ _ _ _
    exact aT ⟨.inr rfl, _, Wk.refl _, rfl, rfl, rfl, rfl, rfl, rfl, rfl, rfl, trivial⟩
  rw [if_pos hlt] at hq
  refine aC rfl (fun hc => ?_) (fun hc => ?_)
  case refine_2 =>
    have : ¬ (n : Int) < c.ns.length := by simpa using hc
    omega
  refine aK ?_
  show AWp _ _ _ _ _ _ _
  cases hd : headC k c.ns n with
  | none => rw [hd] at hq; cases hq
  | some r =>
  rw [hd] at hq
  simp only at hq
  have hdc := uHead_abs c.vr c.ps k c.ns n r hd hF.up hlt (by omega)
  obtain ⟨hF1, hl1, hr1⟩ := FitU.head (vr := c.vr) (ps := c.ps) hF hlt hd
  have hu1 := hu.head hd
  refine AWp.wk ((wk_sub (s' := (0, AV.bp 350001 0 []) :: (3, .own (intsV hs) 200025) :: (200025, .tok 3 1) :: (4, .val (.i (n : Int))) :: cstM c) ⟨rfl, rfl, rfl, rfl, rfl, rfl, rfl, rfl, rfl, rfl, rfl, trivial⟩).trans (wk_renF 300001 400001 rfl rfl (hUno hU (by kernel_rfl)) (by kernel_rfl) (by kernel_rfl) (by kernel_rfl))) ?_
  refine aS (aB (aS (aS (aR ?_))))
  (refine nx (aM (gN rfl) rfl rfl rfl rfl rfl) rfl ?_)
  (refine nx (aM (gN rfl) rfl rfl rfl rfl rfl) rfl ?_)
  (refine nx (a_callO (gN rfl) rfl rfl rfl rfl rfl (hdc) (by repeat (first | exact trivial | refine ⟨rfl, ?_⟩)) (by first | rfl | kernel_rfl) (by first | rfl | kernel_rfl) (by first | rfl | kernel_rfl) (by first | rfl | kernel_rfl) (hnb_of (by first | rfl | kernel_rfl))) rfl ?_)
  (refine nx (aM (gN rfl) rfl rfl rfl rfl rfl) rfl ?_)
  (refine nx (a_neq (gN rfl) rfl rfl rfl rfl rfl rfl) rfl ?_)
  show AWp _ _ _ _ _ _ _
  obtain ⟨c1, hc1⟩ : ∃ c1 : Cl, c1 = ⟨r.1, c.vr, c.ps⟩ := ⟨_, rfl⟩
  rw [← hc1] at hq hF1 ⊢
  have hl1' : c1.ns.length = c.ns.length := by rw [hc1]; exact hl1
  have hu1 : usB c1.ns ((n : Int) * 1000) := by rw [hc1]; exact hu1
  by_cases he : r.2 = n
  case neg =>
    rw [if_pos he] at hq
    refine aC rfl (fun hc => ?_) (fun hc => ?_)
    case refine_2 =>
      have hc := of_decide_eq_false hc
      simp only [ne_eq, Decidable.not_not] at hc
      omega
    refine aE ?_
    show AWp _ _ _ _ _ _ _
    refine aR ?_
    (refine nx (aM (gN rfl) rfl rfl rfl rfl rfl) rfl ?_)
    (refine nx (a_add (gN rfl) rfl rfl rfl rfl rfl rfl (by first | omega | (simp only [List.length_map, List.length_append, List.length_cons, List.length_nil] <;> omega) | (simp <;> omega))) rfl ?_)
    (refine nx (aA (gN rfl) rfl rfl rfl rfl rfl) rfl ?_)
    refine ⟨j, (0, AV.bp 350001 0 []) :: (3, .own (intsV hs) 200025) :: (200025, .tok 3 1) :: (4, .val (.i ((n + 1 : Nat) : Int))) :: cstM c1, by omega, ⟨n + 1, c1, hs, hq, hF1, hu1.mono (by omega), by omega, by omega, rfl⟩, (wk_sub (s' := (0, AV.bp 350001 0 []) :: (3, .own (intsV hs) 200025) :: (200025, .tok 3 1) :: (4, .val (.i ((n + 1 : Nat) : Int))) :: cstF c1) ⟨rfl, rfl, rfl, rfl, rfl, rfl, rfl, rfl, rfl, rfl, rfl, trivial⟩).trans (wk_renF 400001 300001 rfl rfl (hUlow U (by decide)) (by kernel_rfl) (by kernel_rfl) (by kernel_rfl))⟩
  rw [if_neg (by simpa using he)] at hq
  refine aC rfl (fun hc => ?_) (fun hc => aK ?_)
  · exfalso
    rw [he] at hc
    simp at hc
  show AWp _ _ _ _ _ _ _
  have hn1 : n < c1.ns.length := by omega
  have hFp := hF1.parts hn1
  have hup := hu1.parts (by omega) n
  have hlp : (pC c1 n).1.ns.length ≤ 1000 := Nat.le_trans (len_pw _) hFp.big
  have hpc := uParts_abs c1 n hn1 hF1.trm (by omega) (hF1.kid.fi hn1 (by omega))
  obtain ⟨c2, hc2⟩ : ∃ c2, c2 = (pC c1 n).1 := ⟨_, rfl⟩
  obtain ⟨fr, hfr⟩ : ∃ x, x = (pC c1 n).2.1 := ⟨_, rfl⟩
  obtain ⟨to, hto⟩ : ∃ x, x = (pC c1 n).2.2 := ⟨_, rfl⟩
  have hft : fr ≤ to := by rw [hfr, hto]; exact parts_pos.1
  have htl : to ≤ c2.ns.length := by rw [hto, hc2]; exact snd_le hF1.kid hn1
  rw [← hc2] at hq hFp hup hlp hpc
  rw [← hfr, ← hto] at hq hpc
  refine AWp.wk ((wk_sub (s' := (0, AV.bp 350001 0 []) :: (3, .own (intsV hs) 200025) :: (200025, .tok 3 1) :: (4, .val (.i (n : Int))) :: cstF c1) ⟨rfl, rfl, rfl, rfl, rfl, rfl, rfl, rfl, rfl, rfl, rfl, trivial⟩).trans (wk_renF 400001 300001 rfl rfl (hUlow U (by decide)) (by kernel_rfl) (by kernel_rfl) (by kernel_rfl))) ?_
  have hss := nats_size hs
  refine aS (aR ?_)
  (refine nx (aM (gN rfl) rfl rfl rfl rfl rfl) rfl ?_)
  (refine nx (aM (gN rfl) rfl rfl rfl rfl rfl) rfl ?_)
  (refine nx (a_bslice (gN rfl) rfl rfl rfl rfl rfl rfl rfl rfl rfl rfl rfl rfl rfl) rfl ?_)
  (refine nx (a_app (gN rfl) rfl rfl rfl rfl rfl rfl rfl rfl rfl rfl rfl rfl rfl rfl rfl (by first | assumption | exact sZ rfl | exact Tm.size_all _ | exact Bd.size_all _ | exact ints_size _ | exact bys_size _ | exact Lt.size_all _) (by first | assumption | exact sZ rfl | exact Tm.size_all _ | exact Bd.size_all _ | exact ints_size _ | exact bys_size _ | exact Lt.size_all _) (by first | omega | (simp only [List.length_map, List.length_append, List.length_cons, List.length_nil] <;> omega) | (simp <;> omega))) (by kernel_rfl) ?_)
  (refine nx (aA (gN rfl) rfl rfl rfl rfl rfl) rfl ?_)
  show AWp _ _ _ _ _ _ _
  refine AWp.wk ((wk_sub (s' := (0, AV.bp 350001 0 []) :: (3, .own (intsV (hs ++ [n])) 300025) :: (300025, .tok 3 1) :: (4, .val (.i (n : Int))) :: cstM c1) ⟨rfl, ?_, rfl, rfl, rfl, rfl, rfl, rfl, rfl, rfl, rfl, trivial⟩).trans (wk_ren 300025 200025 rfl rfl (by kernel_rfl) (by kernel_rfl))) ?_
  · show _ = some (AV.own (.lst ((hs ++ [n]).map fun n : Nat => CV.i (n : Int))) 300025)
    rw [List.map_append]; rfl
  refine aS (aR ?_)
  (refine nx (aM (gN rfl) rfl rfl rfl rfl rfl) rfl ?_)
  (refine nx (aM (gN rfl) rfl rfl rfl rfl rfl) rfl ?_)
  (refine nx (a_callO (gN rfl) rfl rfl rfl rfl rfl (hpc) (by repeat (first | exact trivial | refine ⟨rfl, ?_⟩)) (by first | rfl | kernel_rfl) (by first | rfl | kernel_rfl) (by first | rfl | kernel_rfl) (by first | rfl | kernel_rfl) (hnb_of (by first | rfl | kernel_rfl))) rfl ?_)
  (refine nx (aM (gN rfl) rfl rfl rfl rfl rfl) rfl ?_)
  (refine nx (aX (gN rfl) rfl rfl rfl rfl rfl rfl) rfl ?_)
  (refine nx (aX (gN rfl) rfl rfl rfl rfl rfl rfl) rfl ?_)
  (refine nx (aA (gN rfl) rfl rfl rfl rfl rfl) rfl ?_)
  (refine nx (aA (gN rfl) rfl rfl rfl rfl rfl) rfl ?_)
  show AWp _ _ _ _ _ _ _
  refine aS (aR ?_)
  (refine nx (aM (gN rfl) rfl rfl rfl rfl rfl) rfl ?_)
  (refine nx (aA (gN rfl) rfl rfl rfl rfl rfl) rfl ?_)
  show AWp _ _ _ _ _ _ _
  cases hus : useC k (List.range' fr (to - fr)) c2.ns with
  | none => rw [hus] at hq; cases hq
  | some ns =>
  rw [hus] at hq
  simp only at hq
  refine aB (awp_loop (fun m s => ∃ i ns1, i + m = to - fr ∧ useC k (List.range' (fr + i) m) ns1 = some ns ∧ FitU ⟨ns1, c2.vr, c2.ps⟩ ∧ ns1.length = c2.ns.length ∧ usB ns1 ((n : Int) * 1000 + i) ∧ s = (0, AV.bp 350001 0 []) :: (3, .own (intsV (hs ++ [n])) 200025) :: (200025, .tok 3 1) :: (4, .val (.i (n : Int))) :: (6, .val (.i (to : Int))) :: (7, .val (.i ((fr + i : Nat) : Int))) :: cstF ⟨ns1, c2.vr, c2.ps⟩) (n := to - fr) (s' := (0, AV.bp 350001 0 []) :: (3, .own (intsV (hs ++ [n])) 200025) :: (200025, .tok 3 1) :: (4, .val (.i (n : Int))) :: (6, .val (.i (to : Int))) :: (7, .val (.i ((fr + 0 : Nat) : Int))) :: cstF ⟨c2.ns, c2.vr, c2.ps⟩) ((wk_sub (s' := (0, AV.bp 350001 0 []) :: (3, .own (intsV (hs ++ [n])) 200025) :: (200025, .tok 3 1) :: (4, .val (.i (n : Int))) :: (6, .val (.i (to : Int))) :: (7, .val (.i ((fr + 0 : Nat) : Int))) :: cstM c2) ⟨rfl, rfl, rfl, rfl, rfl, rfl, rfl, rfl, rfl, rfl, rfl, rfl, rfl, trivial⟩).trans (wk_renF 300001 400001 rfl rfl (hUno hU (by kernel_rfl)) (by kernel_rfl) (by kernel_rfl) (by kernel_rfl))) ⟨0, c2.ns, by omega, hus, hFp, rfl, hup.mono (by omega), rfl⟩ ?_)
  rintro m s ⟨i, ns1, him, hu1, hF3, hl3, hb3, rfl⟩
  refine aS (aS (aR ?_))
  (refine nx (aM (gN rfl) rfl rfl rfl rfl rfl) rfl ?_)
  (refine nx (aM (gN rfl) rfl rfl rfl rfl rfl) rfl ?_)
  (refine nx (a_lss (gN rfl) rfl rfl rfl rfl rfl rfl) rfl ?_)
  show AWp _ _ _ _ _ _ _
  cases m with
  | zero =>
    have hus1 : some ns1 = some ns := hu1
    have hus1 := Option.some.inj hus1
    subst hus1
    refine aC rfl (fun hc => ?_) (fun hc => ?_)
    · exfalso
      have : ((fr + i : Nat) : Int) < to := by simpa using hc
      omega
    refine aE ?_
    show AWp _ _ _ _ _ _ _
    refine aR ?_
    (refine nx (aM (gN rfl) rfl rfl rfl rfl rfl) rfl ?_)
    (refine nx (a_add (gN rfl) rfl rfl rfl rfl rfl rfl (by first | omega | (simp only [List.length_map, List.length_append, List.length_cons, List.length_nil] <;> omega) | (simp <;> omega))) rfl ?_)
    (refine nx (aA (gN rfl) rfl rfl rfl rfl rfl) rfl ?_)
    refine ⟨j, (0, AV.bp 350001 0 []) :: (3, .own (intsV (hs ++ [n])) 200025) :: (200025, .tok 3 1) :: (4, .val (.i ((n + 1 : Nat) : Int))) :: cstM ⟨ns1, c2.vr, c2.ps⟩, by omega, ⟨n + 1, ⟨ns1, c2.vr, c2.ps⟩, hs ++ [n], hq, hF3, hb3.mono (by omega), by omega, by rw [List.length_append]; simp only [List.length_cons, List.length_nil]; omega, rfl⟩, (wk_sub (s' := (0, AV.bp 350001 0 []) :: (3, .own (intsV (hs ++ [n])) 200025) :: (200025, .tok 3 1) :: (4, .val (.i ((n + 1 : Nat) : Int))) :: cstF ⟨ns1, c2.vr, c2.ps⟩) ⟨rfl, rfl, rfl, rfl, rfl, rfl, rfl, rfl, rfl, rfl, rfl, trivial⟩).trans (wk_renF 400001 300001 rfl rfl (hUlow U (by decide)) (by kernel_rfl) (by kernel_rfl) (by kernel_rfl))⟩
  | succ m =>
    have hp1 : fr + i < ns1.length := by omega
    rw [List.range'_succ, useC] at hu1
    cases hd2 : headC k ns1 (fr + i) with
    | none => rw [hd2] at hu1; cases hu1
    | some r2 =>
    rw [hd2] at hu1
    simp only at hu1
    obtain ⟨hF4, hl4, hr4⟩ := FitU.head hF3 hp1 hd2
    have hb4 := hb3.head hd2
    have hdc2 := uHead_abs c2.vr c2.ps k ns1 (fr + i) r2 hd2 hF3.up hp1 (by omega)
    have hcst : cstF ⟨r2.1, c2.vr, c2.ps⟩ = [(450001, .obj), (35500100, .sl 400001 0 ns1.length 5), (35500101, .mref 300003), (35500102, .sl 300002 0 c2.ps.length 2), (400001, .mrow 194 5 (r2.1.map Nd.cv)), (300003, .mp (c2.vr.map vrv)), (300002, .mrow 207 2 (c2.ps.map psv))] := by simp only [cstF, hl4]
    rw [hcst] at hdc2
    obtain ⟨y, hy⟩ := nd_at (ns := r2.1) (n := r2.2) (by omega)
    have hy' := Nd.map_at hy
    have hlm : (r2.1.map Nd.cv).length = r2.1.length := List.length_map ..
    have hys : nS r2.1 r2.2 = y.us := by unfold nS; rw [getD_at hy]
    have hyb := hb4 r2.2
    rw [hys] at hyb hu1
    refine aC rfl (fun hc => ?_) (fun hc => ?_)
    case refine_2 =>
      have : ¬ ((fr + i : Nat) : Int) < to := by simpa using hc
      omega
    refine aK ?_
    show AWp _ _ _ _ _ _ _
    refine aS (aB (aD (by kernel_rfl) (by kernel_rfl) ?_))
    (refine nx (aM (gN rfl) rfl rfl rfl rfl rfl) rfl ?_)
    (refine nx (aNc (gN rfl) rfl rfl rfl rfl rfl) rfl ?_)
    (refine nx (aF (gN rfl) rfl rfl rfl rfl rfl rfl rfl rfl rfl) rfl ?_)
    (refine nx (aLf (gN rfl) rfl rfl rfl rfl rfl rfl rfl rfl rfl rfl rfl rfl rfl) rfl ?_)
    (refine nx (aM (gN rfl) rfl rfl rfl rfl rfl) rfl ?_)
    (refine nx (aM (gN rfl) rfl rfl rfl rfl rfl) rfl ?_)
    (refine nx (a_callOU ([(400001, .mrow 194 5 (r2.1.map Nd.cv))]) (gN rfl) rfl rfl rfl rfl rfl (hdc2) (by repeat (first | exact trivial | refine ⟨rfl, ?_⟩)) (by first | rfl | kernel_rfl) (by first | rfl | kernel_rfl) (by first | rfl | kernel_rfl) (by first | rfl | kernel_rfl) (hnb_of (by first | rfl | kernel_rfl)) (by repeat (first | exact trivial | refine ⟨rfl, ?_⟩)) (by repeat (first | exact trivial | refine ⟨.inl rfl, ?_⟩ | refine ⟨.inr rfl, ?_⟩)) (by first | rfl | kernel_rfl) (by first | rfl | kernel_rfl)) rfl ?_)
    (refine nx (aIm (k := r2.2) (gN rfl) rfl rfl rfl rfl rfl rfl rfl rfl rfl (by first | rfl | omega | (simp only [List.length_set, List.length_map, List.length_append, List.length_cons, List.length_nil] <;> omega) | (simp <;> omega))) rfl ?_)
    (refine nx (a_fieldM (gN rfl) rfl rfl rfl rfl rfl rfl rfl rfl rfl) rfl ?_)
    (refine nx (a_loadM (gN rfl) rfl rfl rfl rfl rfl rfl rfl rfl (hy') rfl (by first | rfl | omega | (simp only [List.length_set, List.length_map, List.length_append, List.length_cons, List.length_nil] <;> omega) | (simp <;> omega)) rfl rfl) rfl ?_)
    (refine nx (a_add (gN rfl) rfl rfl rfl rfl rfl rfl (by first | omega | (simp only [List.length_map, List.length_append, List.length_cons, List.length_nil] <;> omega) | (simp <;> omega))) rfl ?_)
    (refine nx (aIm (k := r2.2) (gN rfl) rfl rfl rfl rfl rfl rfl rfl rfl rfl (by first | rfl | omega | (simp only [List.length_set, List.length_map, List.length_append, List.length_cons, List.length_nil] <;> omega) | (simp <;> omega))) rfl ?_)
    (refine nx (a_fieldM (gN rfl) rfl rfl rfl rfl rfl rfl rfl rfl rfl) rfl ?_)
    (refine nx (a_storeM (gN rfl) rfl rfl rfl rfl rfl rfl (hy') rfl rfl (by first | rfl | omega | (simp only [List.length_set, List.length_map, List.length_append, List.length_cons, List.length_nil] <;> omega) | (simp <;> omega)) rfl) rfl ?_)
    refine ⟨by kernel_rfl, ?_⟩
    show AWp _ _ _ _ _ _ _
    refine aR ?_
    (refine nx (aM (gN rfl) rfl rfl rfl rfl rfl) rfl ?_)
    (refine nx (a_add (gN rfl) rfl rfl rfl rfl rfl rfl (by first | omega | (simp only [List.length_map, List.length_append, List.length_cons, List.length_nil] <;> omega) | (simp <;> omega))) rfl ?_)
    (refine nx (aA (gN rfl) rfl rfl rfl rfl rfl) rfl ?_)
    refine ⟨m, (0, AV.bp 350001 0 []) :: (3, .own (intsV (hs ++ [n])) 200025) :: (200025, .tok 3 1) :: (4, .val (.i (n : Int))) :: (6, .val (.i (to : Int))) :: (7, .val (.i ((fr + (i + 1) : Nat) : Int))) :: cstF ⟨setUs r2.1 r2.2 (y.us + 1), c2.vr, c2.ps⟩, by omega, ⟨i + 1, setUs r2.1 r2.2 (y.us + 1), by omega, by rw [← Nat.add_assoc]; exact hu1, hF4.us _ _, by rw [setUsLen]; omega, (hb4.set (by omega)).mono (by omega), rfl⟩, wk_sub ⟨rfl, rfl, rfl, rfl, rfl, rfl, rfl, ?_, rfl, rfl, ?_, rfl, rfl, trivial⟩⟩
    · show _ = some (AV.sl 400001 0 (setUs r2.1 r2.2 (y.us + 1)).length 5); rw [setUsLen, hl4]; rfl
    · show _ = some (AV.mrow 194 5 ((setUs r2.1 r2.2 (y.us + 1)).map Nd.cv)); rw [map_setUs hy]; rfl
theorem useC_keep {k : Nat} {vr ps} : ∀ (l : List Nat) {ns ns' : List Nd} {B : Int}, useC k l ns = some ns' → FitU ⟨ns, vr, ps⟩ → (∀ p ∈ l, p < ns.length) → usB ns B → FitU ⟨ns', vr, ps⟩ ∧ ns'.length = ns.length ∧ usB ns' (B + l.length)
  | [], ns, ns', B, e, h, _, hb => by cases e; exact ⟨h, rfl, hb.mono (by simp)⟩
  | p :: l, ns, ns', B, e, h, hl, hb => by
    rw [useC] at e
    cases hd : headC k ns p with
    | none => rw [hd] at e; cases e
    | some r =>
      rw [hd] at e
      simp only at e
      obtain ⟨h1, h2, h3⟩ := h.head (hl p (by simp)) hd
      have hb1 := hb.head hd
      have hb2 := hb1 r.2
      obtain ⟨g1, g2, g3⟩ := useC_keep l e (h1.us _ _) (fun q hq => by rw [setUsLen, h2]; exact hl q (List.mem_cons_of_mem _ hq)) (hb1.set (by omega))
      exact ⟨g1, by rw [g2, setUsLen, h2], g3.mono (by simp only [List.length_cons]; omega)⟩
theorem countC_keep {k : Nat} : ∀ (j n : Nat) {c : Cl} {hs : List Nat} {q}, countC k j n c hs = some q → FitU c → usB c.ns ((n : Int) * 1000) → n ≤ 1000 → (∀ h ∈ hs, h < c.ns.length) → hs.length ≤ n → FitU q.1 ∧ usB q.1.ns 1000000 ∧ (∀ h ∈ q.2, h < q.1.ns.length) ∧ q.2.length ≤ 1000
  | 0, _, _, _, _, e, _, _, _, _, _ => by cases e
  | j + 1, n, c, hs, q, e, hF, hu, hn, hh, hl => by
    have hl0 : c.ns.length ≤ 1000 := Nat.le_trans (len_pw _) hF.big
    rw [countC] at e
    split at e
    · rename_i hlt
      cases hd : headC k c.ns n with
      | none => rw [hd] at e; cases e
      | some r =>
        rw [hd] at e
        simp only at e
        obtain ⟨h1, h2, h3⟩ := FitU.head (vr := c.vr) (ps := c.ps) hF hlt hd
        have hu1 := hu.head hd
        split at e
        · exact countC_keep j (n + 1) e h1 (hu1.mono (by omega)) (by omega) (fun h hm => by show h < r.1.length; rw [h2]; exact hh h hm) (by omega)
        · have hn1 : n < r.1.length := by omega
          obtain ⟨c1, hc1⟩ : ∃ c1 : Cl, c1 = ⟨r.1, c.vr, c.ps⟩ := ⟨_, rfl⟩
          rw [← hc1] at e h1
          have hn1 : n < c1.ns.length := by rw [hc1]; exact hn1
          have hp := h1.parts hn1
          have hu2 : usB c1.ns ((n : Int) * 1000) := by rw [hc1]; exact hu1
          have hup := hu2.parts (by omega) n
          have hlp : (pC c1 n).1.ns.length ≤ 1000 := Nat.le_trans (len_pw _) hp.big
          have hsn := snd_le h1.kid hn1
          cases hus : useC k (List.range' (pC c1 n).2.1 ((pC c1 n).2.2 - (pC c1 n).2.1)) (pC c1 n).1.ns with
          | none => rw [hus] at e; cases e
          | some ns =>
            rw [hus] at e
            simp only at e
            obtain ⟨g1, g2, g3⟩ := useC_keep (vr := (pC c1 n).1.vr) (ps := (pC c1 n).1.ps) _ hus hp (fun p hp2 => by rw [List.mem_range'_1] at hp2; omega) hup
            rw [List.length_range'] at g3
            have hge : c1.ns.length ≤ (pC c1 n).1.ns.length := parts_len
            refine countC_keep j (n + 1) e g1 (g3.mono (by omega)) (by omega) (fun h hm => ?_) (by rw [List.length_append]; simp only [List.length_cons, List.length_nil]; omega)
            show h < ns.length
            rw [g2]
            have : c1.ns.length = c.ns.length := by rw [hc1]; exact h2
            rcases List.mem_append.1 hm with hm | hm
            · have := hh h hm; omega
            · rw [List.mem_singleton] at hm; omega
    · cases e
      exact ⟨hF, hu.mono (by omega), hh, by show hs.length ≤ 1000; omega⟩
theorem downC_keep {k : Nat} {vr ps} : ∀ (l : List Nat) {ns : List Nd} {o : List Nat} {q} {B : Int}, downC k l ns o = some q → FitU ⟨ns, vr, ps⟩ → (∀ p ∈ l, p < ns.length) → usB ns B → (∀ h ∈ o, h < ns.length) → FitU ⟨q.1, vr, ps⟩ ∧ q.1.length = ns.length ∧ usB q.1 (B + l.length) ∧ o.length ≤ q.2.length ∧ ∀ h ∈ q.2, h < ns.length
  | [], ns, o, q, B, e, h, _, hb, ho => by cases e; exact ⟨h, rfl, hb.mono (by simp), Nat.le_refl _, ho⟩
  | p :: l, ns, o, q, B, e, h, hl, hb, ho => by
    rw [downC] at e
    cases hd : headC k ns p with
    | none => rw [hd] at e; cases e
    | some r =>
      rw [hd] at e
      simp only at e
      obtain ⟨h1, h2, h3⟩ := h.head (hl p (by simp)) hd
      have hb1 := hb.head hd
      have hb2 := hb1 r.2
      obtain ⟨g1, g2, g3, g4, g5⟩ := downC_keep l e (h1.us _ _) (fun q hq => by rw [setUsLen, h2]; exact hl q (List.mem_cons_of_mem _ hq)) (hb1.set (by omega)) (fun x hx => by
        rw [setUsLen, h2]
        split at hx
        · rcases List.mem_append.1 hx with hx | hx
          · exact ho x hx
          · rw [List.mem_singleton] at hx; omega
        · exact ho x hx)
      refine ⟨g1, by rw [g2, setUsLen, h2], g3.mono (by simp only [List.length_cons]; omega), ?_, fun x hx => by have := g5 x hx; rw [setUsLen, h2] at this; exact this⟩
      split at g4
      · rw [List.length_append] at g4; omega
      · exact g4
theorem ordC_grow {k : Nat} : ∀ (j i : Nat) {c : Cl} {o : List Nat} {q}, ordC k j i c o = some q → FitU c → (∀ h ∈ o, h < c.ns.length) → ∀ {B : Int}, 0 ≤ B → usB c.ns B → o.length ≤ q.2.length
  | 0, _, _, _, _, e, _, _, _, _, _ => by cases e
  | j + 1, i, c, o, q, e, hF, ho, B, hB, hu => by
    rw [ordC] at e
    cases hi : o[i]? with
    | none => rw [hi] at e; cases e; exact Nat.le_refl _
    | some g =>
      rw [hi] at e
      simp only at e
      have hg := ho g (List.mem_of_getElem? hi)
      have hp := hF.parts hg
      have hsn := snd_le hF.kid hg
      cases hd : downC k (List.range' (pC c g).2.1 ((pC c g).2.2 - (pC c g).2.1)) (pC c g).1.ns o with
      | none => rw [hd] at e; cases e
      | some qd =>
        rw [hd] at e
        simp only at e
        have hge : c.ns.length ≤ (pC c g).1.ns.length := parts_len
        obtain ⟨g1, g2, g3, g4, g5⟩ := downC_keep (vr := (pC c g).1.vr) (ps := (pC c g).1.ps) _ hd hp (fun p hp2 => by rw [List.mem_range'_1] at hp2; omega) (hu.parts hB g) (fun x hx => by have := ho x hx; omega)
        have := ordC_grow j (i + 1) e g1 (fun x hx => by show x < qd.1.length; rw [g2]; exact g5 x hx) (by omega) g3
        omega
theorem nats_at {l : List Nat} {i n : Nat} (h : l[i]? = some n) : (l.map fun n : Nat => CV.i (n : Int))[i]? = some (.i (n : Int)) := by rw [List.getElem?_map, h]; rfl
abbrev us0 (ns : List Nd) (n : Nat) : Bool := decide (nS ns n = 0)
-- 
set_option maxHeartbeats 16000000 in
theorem uOrd_abs (k : Nat) (c0 : Cl) (cn od : Cl × List Nat) (hq : countC k k 0 c0 [] = some cn) (ho : ordC k k 0 cn.1 (cn.2.filter fun n => decide (nS cn.1.ns n = 0)) = some od) (hF0 : FitU c0) (hu0 : usB c0.ns 0) (hol : od.2.length ≤ 1000) : AFunO Tryz.prog 123 (cstM c0) [.bp 350001 0 []] (.tup [intsV od.2, .b (decide ((od.2.length : Int) = cn.2.length))]) (cstM od.1) := by
  obtain ⟨hF1, hu1, hh1, hhl⟩ := countC_keep k 0 hq hF0 (by simpa using hu0) (by omega) (fun h hm => by cases hm) (Nat.le_refl _)
  have hcnt := uCount_abs k k c0 cn hq hF0 hu0
  obtain ⟨c, hc⟩ : ∃ c, c = cn.1 := ⟨_, rfl⟩
  obtain ⟨hs, hhs⟩ : ∃ hs, hs = cn.2 := ⟨_, rfl⟩
  rw [← hc] at ho hF1 hu1 hh1 hcnt
  rw [← hhs] at ho hh1 hhl hcnt ⊢
  have hl : c.ns.length ≤ 1000 := Nat.le_trans (len_pw _) hF1.big
  have hlm : (c.ns.map Nd.cv).length = c.ns.length := List.length_map ..
  have hss := nats_size hs
  refine afunO_of Tryz.func123 Tryz.ntmps123 rfl rfl rfl rfl rfl rfl ?_
  intro w U hU
  refine aS (aR ?_)
  (refine nx (aA (gN rfl) rfl rfl rfl rfl rfl) rfl ?_)
  (refine nx (aA (gN rfl) rfl rfl rfl rfl rfl) rfl ?_)
  show AWp _ _ _ _ _ _ _
  refine aS (aR ?_)
  (refine nx (aM (gN rfl) rfl rfl rfl rfl rfl) rfl ?_)
  (refine nx (a_callO (gN rfl) rfl rfl rfl rfl rfl (hcnt) (by repeat (first | exact trivial | refine ⟨rfl, ?_⟩)) (by first | rfl | kernel_rfl) (by first | rfl | kernel_rfl) (by first | rfl | kernel_rfl) (by first | rfl | kernel_rfl) (hnb_of (by first | rfl | kernel_rfl))) rfl ?_)
  (refine nx (aA (gN rfl) rfl rfl rfl rfl rfl) rfl ?_)
  show AWp _ _ _ _ _ _ _
  refine aS (aR ?_)
  (refine nx (aA (gN rfl) rfl rfl rfl rfl rfl) rfl ?_)
  show AWp _ _ _ _ _ _ _
  refine aS (aS (aR ?_))
  (refine nx (aM (gN rfl) rfl rfl rfl rfl rfl) rfl ?_)
  (refine nx (a_len (gN rfl) rfl rfl rfl rfl rfl rfl rfl) rfl ?_)
  (refine nx (aM (gN rfl) rfl rfl rfl rfl rfl) rfl ?_)
  show AWp _ _ _ _ _ _ _
  refine aB (awp_count hs.length (fun i => (0, AV.bp 350001 0 []) :: (4, .val (intsV hs)) :: (5, .own (intsV ((hs.take i).filter (us0 c.ns))) 200033) :: (200033, .tok 3 1) :: (15, .val (intsV hs)) :: (16, .val (.i (hs.map fun n : Nat => CV.i (n : Int)).length)) :: (17, .val (.i i)) :: cstM c) ((wk_nil 5 200033 3 1 rfl rfl rfl rfl rfl rfl (by kernel_rfl)).trans (wk_sub ⟨rfl, rfl, rfl, rfl, rfl, rfl, rfl, rfl, rfl, rfl, rfl, rfl, rfl, rfl, trivial⟩)) ?_)
  intro i hi
  refine aS (aR ?_)
  (refine nx (a_lss (gN rfl) rfl rfl rfl rfl rfl rfl) rfl ?_)
  show AWp _ _ _ _ _ _ _
  refine aS (aC rfl (fun hlt => ?_) (fun hlt => ?_))
  · have hil : i < hs.length := by simpa using hlt
    obtain ⟨n, hn⟩ : ∃ n, hs[i]? = some n := ⟨hs[i], List.getElem?_eq_getElem hil⟩
    have hn' := nats_at hn
    have hnl := hh1 n (List.mem_of_getElem? hn)
    obtain ⟨x, hx⟩ := nd_at hnl
    have hx' := Nd.map_at hx
    have hxs : nS c.ns n = x.us := by unfold nS; rw [getD_at hx]
    have htk : (hs.take (i + 1)).filter (us0 c.ns) = (hs.take i).filter (us0 c.ns) ++ (if nS c.ns n = 0 then [n] else []) := by
      rw [List.take_add_one, hn, List.filter_append]
      congr 1
      show List.filter (us0 c.ns) [n] = _
      unfold us0
      by_cases h0 : nS c.ns n = 0
      · simp [h0]
      · simp [h0]
    have hfs := nats_size ((hs.take i).filter (us0 c.ns))
    have hfl : ((hs.take i).filter (us0 c.ns)).length ≤ 1000 := Nat.le_trans (List.length_filter_le _ _) (by rw [List.length_take]; omega)
    refine aK ?_
    show AWp _ _ _ _ _ _ _
    refine aS (aB (aS (aR ?_)))
    (refine nx (a_index (j := i) (gN rfl) rfl rfl rfl rfl rfl rfl rfl rfl rfl (hn') rfl (hss)) rfl ?_)
    (refine nx (a_load_ad (gN rfl) rfl rfl rfl rfl rfl rfl rfl rfl rfl) rfl ?_)
    (refine nx (aA (gN rfl) rfl rfl rfl rfl rfl) rfl ?_)
    show AWp _ _ _ _ _ _ _
    refine aS (aR ?_)
    (refine nx (aM (gN rfl) rfl rfl rfl rfl rfl) rfl ?_)
    (refine nx (aNc (gN rfl) rfl rfl rfl rfl rfl) rfl ?_)
    (refine nx (aF (gN rfl) rfl rfl rfl rfl rfl rfl rfl rfl rfl) rfl ?_)
    (refine nx (aLf (gN rfl) rfl rfl rfl rfl rfl rfl rfl rfl rfl rfl rfl rfl rfl) rfl ?_)
    (refine nx (aM (gN rfl) rfl rfl rfl rfl rfl) rfl ?_)
    (refine nx (aIm (k := n) (gN rfl) rfl rfl rfl rfl rfl rfl rfl rfl rfl (by first | rfl | omega | (simp only [List.length_set, List.length_map, List.length_append, List.length_cons, List.length_nil] <;> omega) | (simp <;> omega))) rfl ?_)
    (refine nx (a_fieldM (gN rfl) rfl rfl rfl rfl rfl rfl rfl rfl rfl) rfl ?_)
    (refine nx (a_loadM (gN rfl) rfl rfl rfl rfl rfl rfl rfl rfl (hx') rfl (by first | rfl | omega | (simp only [List.length_set, List.length_map, List.length_append, List.length_cons, List.length_nil] <;> omega) | (simp <;> omega)) rfl rfl) rfl ?_)
    (refine nx (a_eql (gN rfl) rfl rfl rfl rfl rfl rfl) rfl ?_)
    show AWp _ _ _ _ _ _ _
    refine AWp.wk (wk_sub (s' := (0, AV.bp 350001 0 []) :: (4, .val (intsV hs)) :: (5, .own (intsV ((hs.take i).filter (us0 c.ns))) 200033) :: (200033, .tok 3 1) :: (7, .val (.i (n : Int))) :: (29, .val (.b (decide (x.us = 0)))) :: (15, .val (intsV hs)) :: (16, .val (.i (hs.map fun n : Nat => CV.i (n : Int)).length)) :: (17, .val (.i i)) :: cstM c) ⟨rfl, rfl, rfl, rfl, rfl, rfl, rfl, rfl, rfl, rfl, rfl, rfl, rfl, rfl, rfl, rfl, trivial⟩) ?_
    refine aC rfl (fun h0 => ?_) (fun h0 => ?_)
    · have h0 : x.us = 0 := by simpa using h0
      rw [hxs, if_pos h0] at htk
      refine aR ?_
      (refine nx (aM (gN rfl) rfl rfl rfl rfl rfl) rfl ?_)
      (refine nx (aM (gN rfl) rfl rfl rfl rfl rfl) rfl ?_)
      (refine nx (a_bslice (gN rfl) rfl rfl rfl rfl rfl rfl rfl rfl rfl rfl rfl rfl rfl) rfl ?_)
      (refine nx (a_app (gN rfl) rfl rfl rfl rfl rfl rfl rfl rfl rfl rfl rfl rfl rfl rfl rfl (by first | assumption | exact sZ rfl | exact Tm.size_all _ | exact Bd.size_all _ | exact ints_size _ | exact bys_size _ | exact Lt.size_all _) (by first | assumption | exact sZ rfl | exact Tm.size_all _ | exact Bd.size_all _ | exact ints_size _ | exact bys_size _ | exact Lt.size_all _) (by first | omega | (simp only [List.length_map, List.length_append, List.length_cons, List.length_nil] <;> omega) | (simp <;> omega))) (by kernel_rfl) ?_)
      (refine nx (aA (gN rfl) rfl rfl rfl rfl rfl) rfl ?_)
      show AWp _ _ _ _ _ _ _
      refine aR ?_
      (refine nx (a_add (gN rfl) rfl rfl rfl rfl rfl rfl (by first | omega | (simp only [List.length_map, List.length_append, List.length_cons, List.length_nil] <;> omega) | (simp <;> omega))) rfl ?_)
      (refine nx (aM (gN rfl) rfl rfl rfl rfl rfl) rfl ?_)
      refine ⟨hil, Wk.trans (wk_sub (s' := (0, AV.bp 350001 0 []) :: (4, .val (intsV hs)) :: (5, .own (intsV ((hs.take (i + 1)).filter (us0 c.ns))) 300033) :: (300033, .tok 3 1) :: (15, .val (intsV hs)) :: (16, .val (.i (hs.map fun n : Nat => CV.i (n : Int)).length)) :: (17, .val (.i ((i + 1 : Nat) : Int))) :: cstM c) ⟨rfl, rfl, ?_, rfl, rfl, rfl, rfl, rfl, rfl, rfl, rfl, rfl, rfl, rfl, trivial⟩) (wk_ren 300033 200033 rfl rfl (by kernel_rfl) (by kernel_rfl))⟩
      rw [htk]
      show _ = some (AV.own (.lst (((hs.take i).filter (us0 c.ns) ++ [n]).map fun n : Nat => CV.i (n : Int))) 300033)
      rw [List.map_append]; rfl
    · have h0 : ¬ x.us = 0 := by simpa using h0
      rw [hxs, if_neg h0, List.append_nil] at htk
      refine aK ?_
      show AWp _ _ _ _ _ _ _
      refine aR ?_
      (refine nx (a_add (gN rfl) rfl rfl rfl rfl rfl rfl (by first | omega | (simp only [List.length_map, List.length_append, List.length_cons, List.length_nil] <;> omega) | (simp <;> omega))) rfl ?_)
      (refine nx (aM (gN rfl) rfl rfl rfl rfl rfl) rfl ?_)
      refine ⟨hil, ?_⟩
      show Wk _ _ _ _ (_ :: _ :: (5, .own (intsV ((hs.take (i + 1)).filter (us0 c.ns))) 200033) :: _ :: _ :: _ :: _ :: cstM c)
      rw [htk]
      exact wk_sub ⟨rfl, rfl, rfl, rfl, rfl, rfl, rfl, rfl, rfl, rfl, rfl, rfl, rfl, rfl, trivial⟩
  have hil : i = hs.length := by
    have : ¬ i < hs.length := by simpa using hlt
    omega
  subst hil
  rw [List.take_length]
  refine aE ?_
  show AWp _ _ _ _ _ _ _
  refine aS (aS (aR ?_))
  (refine nx (aA (gN rfl) rfl rfl rfl rfl rfl) rfl ?_)
  show AWp _ _ _ _ _ _ _
  have ho2 : ∀ h ∈ hs.filter (us0 c.ns), h < c.ns.length := fun h hm => hh1 h (List.mem_filter.1 hm).1
  refine aB (awp_loop (fun j s => ∃ i c o, ordC k j i c o = some od ∧ FitU c ∧ usB c.ns (1000000 + (i : Int) * 1000) ∧ (∀ h ∈ o, h < c.ns.length) ∧ i ≤ o.length ∧ s = (0, AV.bp 350001 0 []) :: (4, .val (intsV hs)) :: (5, .own (intsV o) 200082) :: (200082, .tok 3 1) :: (8, .val (.i (i : Int))) :: cstM c) (n := k) (s' := (0, AV.bp 350001 0 []) :: (4, .val (intsV hs)) :: (5, .own (intsV (hs.filter (us0 c.ns))) 200082) :: (200082, .tok 3 1) :: (8, .val (.i ((0 : Nat) : Int))) :: cstM c) ((wk_sub (s' := (0, AV.bp 350001 0 []) :: (4, .val (intsV hs)) :: (5, .own (intsV (hs.filter (us0 c.ns))) 200033) :: (200033, .tok 3 1) :: (8, .val (.i ((0 : Nat) : Int))) :: cstM c) ⟨rfl, rfl, rfl, rfl, rfl, rfl, rfl, rfl, rfl, rfl, rfl, rfl, trivial⟩).trans (wk_ren 200033 200082 rfl rfl (by kernel_rfl) (by kernel_rfl))) ⟨0, c, hs.filter (us0 c.ns), ho, hF1, hu1.mono (by omega), ho2, Nat.zero_le _, rfl⟩ ?_)
  clear ho ho2 hlm hl hcnt hF1 hu1 hh1
  rintro j s ⟨i, c, o, ho, hF, hu, hh, hio, rfl⟩
  have hl : c.ns.length ≤ 1000 := Nat.le_trans (len_pw _) hF.big
  have hol1 : o.length ≤ od.2.length := ordC_grow j i ho hF hh (by omega) hu
  have hos := nats_size o
  cases j with
  | zero => cases ho
  | succ j =>
  rw [ordC] at ho
  refine aS (aS (aR ?_))
  (refine nx (aM (gN rfl) rfl rfl rfl rfl rfl) rfl ?_)
  (refine nx (aM (gN rfl) rfl rfl rfl rfl rfl) rfl ?_)
  (refine nx (a_len (gN rfl) rfl rfl rfl rfl rfl rfl rfl) rfl ?_)
  (refine nx (a_lss (gN rfl) rfl rfl rfl rfl rfl rfl) rfl ?_)
  show AWp _ _ _ _ _ _ _
  cases hoi : o[i]? with
  | none =>
    rw [hoi] at ho
    simp only at ho
    have ho := Option.some.inj ho
    subst ho
    have hil : o.length ≤ i := List.getElem?_eq_none_iff.1 hoi
    refine aC rfl (fun hc => ?_) (fun hc => ?_)
    · exfalso
      have : i < o.length := by simpa using hc
      omega
    refine aE ?_
    show AWp _ _ _ _ _ _ _
    refine aS (aR ?_)
    (refine nx (aM (gN rfl) rfl rfl rfl rfl rfl) rfl ?_)
    (refine nx (aM (gN rfl) rfl rfl rfl rfl rfl) rfl ?_)
    (refine nx (a_len (gN rfl) rfl rfl rfl rfl rfl rfl rfl) rfl ?_)
    (refine nx (aM (gN rfl) rfl rfl rfl rfl rfl) rfl ?_)
    (refine nx (a_len (gN rfl) rfl rfl rfl rfl rfl rfl rfl) rfl ?_)
    (refine nx (a_eql (gN rfl) rfl rfl rfl rfl rfl rfl) rfl ?_)
    (refine nx (aA (gN rfl) rfl rfl rfl rfl rfl) rfl ?_)
    (refine nx (aA (gN rfl) rfl rfl rfl rfl rfl) rfl ?_)
    show AWp _ _ _ _ _ _ _
    refine aT ⟨.inr rfl, _, Wk.refl _, ?_, rfl, rfl, rfl, rfl, rfl, rfl, rfl, trivial⟩
    show some (AV.tup [intsV o, .b (decide (((o.map fun n : Nat => CV.i (n : Int)).length : Int) = ((hs.map fun n : Nat => CV.i (n : Int)).length : Nat)))]) = _
    rw [List.length_map, List.length_map]
  | some g =>
  rw [hoi] at ho
  simp only at ho
  have hoi' := nats_at hoi
  have hil : i < o.length := (List.getElem?_eq_some_iff.1 hoi).1
  have hgl := hh g (List.mem_of_getElem? hoi)
  refine aC rfl (fun hc => ?_) (fun hc => ?_)
  case refine_2 =>
    have : ¬ i < o.length := by simpa using hc
    omega
  refine aK ?_
  show AWp _ _ _ _ _ _ _
  have hFp := hF.parts hgl
  have hup := hu.parts (by omega) g
  have hlp : (pC c g).1.ns.length ≤ 1000 := Nat.le_trans (len_pw _) hFp.big
  have hpc := uParts_abs c g hgl hF.trm (by omega) (hF.kid.fi hgl (by omega))
  obtain ⟨c2, hc2⟩ : ∃ c2, c2 = (pC c g).1 := ⟨_, rfl⟩
  obtain ⟨fr, hfr⟩ : ∃ x, x = (pC c g).2.1 := ⟨_, rfl⟩
  obtain ⟨to, hto⟩ : ∃ x, x = (pC c g).2.2 := ⟨_, rfl⟩
  have hft : fr ≤ to := by rw [hfr, hto]; exact parts_pos.1
  have htl : to ≤ c2.ns.length := by rw [hto, hc2]; exact snd_le hF.kid hgl
  have hge : c.ns.length ≤ c2.ns.length := by rw [hc2]; exact parts_len
  rw [← hc2] at ho hFp hup hlp hpc
  rw [← hfr, ← hto] at ho hpc
  refine aS (aB (aS (aR ?_)))
  (refine nx (aM (gN rfl) rfl rfl rfl rfl rfl) rfl ?_)
  (refine nx (aM (gN rfl) rfl rfl rfl rfl rfl) rfl ?_)
  (refine nx (aM (gN rfl) rfl rfl rfl rfl rfl) rfl ?_)
  (refine nx (a_index (j := i) (gN rfl) rfl rfl rfl rfl rfl rfl rfl rfl rfl (hoi') rfl (hos)) rfl ?_)
  (refine nx (a_load_ad (gN rfl) rfl rfl rfl rfl rfl rfl rfl rfl rfl) rfl ?_)
  (refine nx (a_callO (gN rfl) rfl rfl rfl rfl rfl (hpc) (by repeat (first | exact trivial | refine ⟨rfl, ?_⟩)) (by first | rfl | kernel_rfl) (by first | rfl | kernel_rfl) (by first | rfl | kernel_rfl) (by first | rfl | kernel_rfl) (hnb_of (by first | rfl | kernel_rfl))) rfl ?_)
  (refine nx (aM (gN rfl) rfl rfl rfl rfl rfl) rfl ?_)
  (refine nx (aX (gN rfl) rfl rfl rfl rfl rfl rfl) rfl ?_)
  (refine nx (aX (gN rfl) rfl rfl rfl rfl rfl rfl) rfl ?_)
  (refine nx (aA (gN rfl) rfl rfl rfl rfl rfl) rfl ?_)
  (refine nx (aA (gN rfl) rfl rfl rfl rfl rfl) rfl ?_)
  show AWp _ _ _ _ _ _ _
  refine aS (aR ?_)
  (refine nx (aM (gN rfl) rfl rfl rfl rfl rfl) rfl ?_)
  (refine nx (aA (gN rfl) rfl rfl rfl rfl rfl) rfl ?_)
  show AWp _ _ _ _ _ _ _
  cases hdn : downC k (List.range' fr (to - fr)) c2.ns o with
  | none => rw [hdn] at ho; cases ho
  | some qd =>
  rw [hdn] at ho
  simp only at ho
  have hqd : qd.2.length ≤ od.2.length := by
    obtain ⟨g1, g2, g3, g4, g5⟩ := downC_keep (vr := c2.vr) (ps := c2.ps) _ hdn hFp (fun p hp2 => by rw [List.mem_range'_1] at hp2; omega) hup (fun x hx => by have := hh x hx; omega)
    exact ordC_grow j (i + 1) ho g1 (fun x hx => by show x < qd.1.length; rw [g2]; exact g5 x hx) (by omega) g3
  refine aB (awp_loop (fun m s => ∃ e ns1 o1, e + m = to - fr ∧ downC k (List.range' (fr + e) m) ns1 o1 = some qd ∧ FitU ⟨ns1, c2.vr, c2.ps⟩ ∧ ns1.length = c2.ns.length ∧ usB ns1 (1000000 + (i : Int) * 1000 + e) ∧ (∀ h ∈ o1, h < c2.ns.length) ∧ i + 1 ≤ o1.length ∧ s = (0, AV.bp 350001 0 []) :: (4, .val (intsV hs)) :: (5, .own (intsV o1) 200082) :: (200082, .tok 3 1) :: (8, .val (.i (i : Int))) :: (10, .val (.i (to : Int))) :: (11, .val (.i ((fr + e : Nat) : Int))) :: cstF ⟨ns1, c2.vr, c2.ps⟩) (n := to - fr) (s' := (0, AV.bp 350001 0 []) :: (4, .val (intsV hs)) :: (5, .own (intsV o) 200082) :: (200082, .tok 3 1) :: (8, .val (.i (i : Int))) :: (10, .val (.i (to : Int))) :: (11, .val (.i ((fr + 0 : Nat) : Int))) :: cstF ⟨c2.ns, c2.vr, c2.ps⟩) ((wk_sub (s' := (0, AV.bp 350001 0 []) :: (4, .val (intsV hs)) :: (5, .own (intsV o) 200082) :: (200082, .tok 3 1) :: (8, .val (.i (i : Int))) :: (10, .val (.i (to : Int))) :: (11, .val (.i ((fr + 0 : Nat) : Int))) :: cstM c2) ⟨rfl, rfl, rfl, rfl, rfl, rfl, rfl, rfl, rfl, rfl, rfl, rfl, rfl, rfl, trivial⟩).trans (wk_renF 300001 400001 rfl rfl (hUno hU (by kernel_rfl)) (by kernel_rfl) (by kernel_rfl) (by kernel_rfl))) ⟨0, c2.ns, o, by omega, hdn, hFp, rfl, hup.mono (by omega), fun h hm => by have := hh h hm; omega, by omega, rfl⟩ ?_)
  rintro m s ⟨e, ns1, o1, hem, hd1, hF3, hl3, hb3, ho3, hi3, rfl⟩
  have ho1l : o1.length ≤ qd.2.length := (downC_keep _ hd1 hF3 (fun p hp2 => by rw [List.mem_range'_1] at hp2; omega) hb3 (fun x hx => by rw [hl3]; exact ho3 x hx)).2.2.2.1
  have ho1s := nats_size o1
  refine aS (aS (aR ?_))
  (refine nx (aM (gN rfl) rfl rfl rfl rfl rfl) rfl ?_)
  (refine nx (aM (gN rfl) rfl rfl rfl rfl rfl) rfl ?_)
  (refine nx (a_lss (gN rfl) rfl rfl rfl rfl rfl rfl) rfl ?_)
  show AWp _ _ _ _ _ _ _
  cases m with
  | zero =>
    have hd2 : some (ns1, o1) = some qd := hd1
    have hd2 := Option.some.inj hd2
    subst hd2
    refine aC rfl (fun hc => ?_) (fun hc => ?_)
    · exfalso
      have : ((fr + e : Nat) : Int) < to := by simpa using hc
      omega
    refine aE ?_
    show AWp _ _ _ _ _ _ _
    refine aR ?_
    (refine nx (aM (gN rfl) rfl rfl rfl rfl rfl) rfl ?_)
    (refine nx (a_add (gN rfl) rfl rfl rfl rfl rfl rfl (by first | omega | (simp only [List.length_map, List.length_append, List.length_cons, List.length_nil] <;> omega) | (simp <;> omega))) rfl ?_)
    (refine nx (aA (gN rfl) rfl rfl rfl rfl rfl) rfl ?_)
    refine ⟨j, (0, AV.bp 350001 0 []) :: (4, .val (intsV hs)) :: (5, .own (intsV o1) 200082) :: (200082, .tok 3 1) :: (8, .val (.i ((i + 1 : Nat) : Int))) :: cstM ⟨ns1, c2.vr, c2.ps⟩, by omega, ⟨i + 1, ⟨ns1, c2.vr, c2.ps⟩, o1, ho, hF3, hb3.mono (by omega), fun h hm => by show h < ns1.length; rw [hl3]; exact ho3 h hm, hi3, rfl⟩, (wk_sub (s' := (0, AV.bp 350001 0 []) :: (4, .val (intsV hs)) :: (5, .own (intsV o1) 200082) :: (200082, .tok 3 1) :: (8, .val (.i ((i + 1 : Nat) : Int))) :: cstF ⟨ns1, c2.vr, c2.ps⟩) ⟨rfl, rfl, rfl, rfl, rfl, rfl, rfl, rfl, rfl, rfl, rfl, rfl, trivial⟩).trans (wk_renF 400001 300001 rfl rfl (hUlow U (by decide)) (by kernel_rfl) (by kernel_rfl) (by kernel_rfl))⟩
  | succ m =>
    have hp1 : fr + e < ns1.length := by omega
    rw [List.range'_succ, downC] at hd1
    cases hd2 : headC k ns1 (fr + e) with
    | none => rw [hd2] at hd1; cases hd1
    | some r2 =>
    rw [hd2] at hd1
    simp only at hd1
    obtain ⟨hF4, hl4, hr4⟩ := FitU.head hF3 hp1 hd2
    have hb4 := hb3.head hd2
    have hdc2 := uHead_abs c2.vr c2.ps k ns1 (fr + e) r2 hd2 hF3.up hp1 (by omega)
    obtain ⟨y, hy⟩ := nd_at (ns := r2.1) (n := r2.2) (by omega)
    have hy' := Nd.map_at hy
    have hlm : (r2.1.map Nd.cv).length = r2.1.length := List.length_map ..
    have hys : nS r2.1 r2.2 = y.us := by unfold nS; rw [getD_at hy]
    have hyb := hb4 r2.2
    rw [hys] at hyb hd1
    refine aC rfl (fun hc => ?_) (fun hc => ?_)
    case refine_2 =>
      have : ¬ ((fr + e : Nat) : Int) < to := by simpa using hc
      omega
    refine aK ?_
    show AWp _ _ _ _ _ _ _
    refine aS (aB (aS (aR ?_)))
    (refine nx (aM (gN rfl) rfl rfl rfl rfl rfl) rfl ?_)
    (refine nx (aM (gN rfl) rfl rfl rfl rfl rfl) rfl ?_)
    (refine nx (a_callO (gN rfl) rfl rfl rfl rfl rfl (hdc2) (by repeat (first | exact trivial | refine ⟨rfl, ?_⟩)) (by first | rfl | kernel_rfl) (by first | rfl | kernel_rfl) (by first | rfl | kernel_rfl) (by first | rfl | kernel_rfl) (hnb_of (by first | rfl | kernel_rfl))) rfl ?_)
    (refine nx (aA (gN rfl) rfl rfl rfl rfl rfl) rfl ?_)
    show AWp _ _ _ _ _ _ _
    refine aS (aR ?_)
    (refine nx (aM (gN rfl) rfl rfl rfl rfl rfl) rfl ?_)
    (refine nx (aNc (gN rfl) rfl rfl rfl rfl rfl) rfl ?_)
    (refine nx (aF (gN rfl) rfl rfl rfl rfl rfl rfl rfl rfl rfl) rfl ?_)
    (refine nx (aLf (gN rfl) rfl rfl rfl rfl rfl rfl rfl rfl rfl rfl rfl rfl rfl) rfl ?_)
    (refine nx (aM (gN rfl) rfl rfl rfl rfl rfl) rfl ?_)
    (refine nx (aIm (k := r2.2) (gN rfl) rfl rfl rfl rfl rfl rfl rfl rfl rfl (by first | rfl | omega | (simp only [List.length_set, List.length_map, List.length_append, List.length_cons, List.length_nil] <;> omega) | (simp <;> omega))) rfl ?_)
    (refine nx (a_fieldM (gN rfl) rfl rfl rfl rfl rfl rfl rfl rfl rfl) rfl ?_)
    (refine nx (a_loadM (gN rfl) rfl rfl rfl rfl rfl rfl rfl rfl (hy') rfl (by first | rfl | omega | (simp only [List.length_set, List.length_map, List.length_append, List.length_cons, List.length_nil] <;> omega) | (simp <;> omega)) rfl rfl) rfl ?_)
    (refine nx (a_sub (gN rfl) rfl rfl rfl rfl rfl rfl (by first | omega | (simp only [List.length_map, List.length_append, List.length_cons, List.length_nil] <;> omega) | (simp <;> omega))) rfl ?_)
    (refine nx (aIm (k := r2.2) (gN rfl) rfl rfl rfl rfl rfl rfl rfl rfl rfl (by first | rfl | omega | (simp only [List.length_set, List.length_map, List.length_append, List.length_cons, List.length_nil] <;> omega) | (simp <;> omega))) rfl ?_)
    (refine nx (a_fieldM (gN rfl) rfl rfl rfl rfl rfl rfl rfl rfl rfl) rfl ?_)
    (refine nx (a_storeM (gN rfl) rfl rfl rfl rfl rfl rfl (hy') rfl rfl (by first | rfl | omega | (simp only [List.length_set, List.length_map, List.length_append, List.length_cons, List.length_nil] <;> omega) | (simp <;> omega)) rfl) rfl ?_)
    show AWp _ _ _ _ _ _ _
    obtain ⟨ns2, hn2⟩ : ∃ ns2, ns2 = setUs r2.1 r2.2 (y.us - 1) := ⟨_, rfl⟩
    have hm2 : ns2.map Nd.cv = (r2.1.map Nd.cv).set r2.2 (Nd.cw { y with us := y.us - 1 }) := by rw [hn2]; exact map_setUs hy
    have hl2 : ns2.length = r2.1.length := by rw [hn2, setUsLen]
    have hy2 : ns2[r2.2]? = some { y with us := y.us - 1 } := by rw [hn2]; exact setUs_at hy
    have hy2' := Nd.map_at hy2
    have hlm2 : (ns2.map Nd.cv).length = ns2.length := List.length_map ..
    have hF5 : FitU ⟨ns2, c2.vr, c2.ps⟩ := by rw [hn2]; exact hF4.us _ _
    have hb5 : usB ns2 (1000000 + (i : Int) * 1000 + e + 1) := by rw [hn2]; exact hb4.set (by omega)
    rw [← hn2] at hd1
    refine AWp.wk (wk_sub (s' := (0, AV.bp 350001 0 []) :: (4, .val (intsV hs)) :: (5, .own (intsV o1) 200082) :: (200082, .tok 3 1) :: (8, .val (.i (i : Int))) :: (10, .val (.i (to : Int))) :: (11, .val (.i ((fr + e : Nat) : Int))) :: (12, .val (.i (r2.2 : Int))) :: cstF ⟨ns2, c2.vr, c2.ps⟩) ⟨rfl, rfl, rfl, rfl, rfl, rfl, rfl, rfl, rfl, ?_, rfl, rfl, ?_, rfl, rfl, trivial⟩) ?_
    · show _ = some (AV.sl 400001 0 ns2.length 5); rw [hl2]; rfl
    · show _ = some (AV.mrow 194 5 (ns2.map Nd.cv)); rw [hm2]; rfl
    refine aS (aR ?_)
    (refine nx (aM (gN rfl) rfl rfl rfl rfl rfl) rfl ?_)
    (refine nx (aNc (gN rfl) rfl rfl rfl rfl rfl) rfl ?_)
    (refine nx (aF (gN rfl) rfl rfl rfl rfl rfl rfl rfl rfl rfl) rfl ?_)
    (refine nx (aLf (gN rfl) rfl rfl rfl rfl rfl rfl rfl rfl rfl rfl rfl rfl rfl) rfl ?_)
    (refine nx (aM (gN rfl) rfl rfl rfl rfl rfl) rfl ?_)
    (refine nx (aIm (k := r2.2) (gN rfl) rfl rfl rfl rfl rfl rfl rfl rfl rfl (by first | rfl | omega | (simp only [List.length_set, List.length_map, List.length_append, List.length_cons, List.length_nil] <;> omega) | (simp <;> omega))) rfl ?_)
    (refine nx (a_fieldM (gN rfl) rfl rfl rfl rfl rfl rfl rfl rfl rfl) rfl ?_)
    (refine nx (a_loadM (gN rfl) rfl rfl rfl rfl rfl rfl rfl rfl (hy2') rfl (by first | rfl | omega | (simp only [List.length_set, List.length_map, List.length_append, List.length_cons, List.length_nil] <;> omega) | (simp <;> omega)) rfl rfl) rfl ?_)
    (refine nx (a_eql (gN rfl) rfl rfl rfl rfl rfl rfl) rfl ?_)
    show AWp _ _ _ _ _ _ _
    refine AWp.wk (wk_sub (s' := (0, AV.bp 350001 0 []) :: (4, .val (intsV hs)) :: (5, .own (intsV o1) 200082) :: (200082, .tok 3 1) :: (8, .val (.i (i : Int))) :: (10, .val (.i (to : Int))) :: (11, .val (.i ((fr + e : Nat) : Int))) :: (12, .val (.i (r2.2 : Int))) :: (78, .val (.b (decide (y.us - 1 = 0)))) :: cstF ⟨ns2, c2.vr, c2.ps⟩) ⟨rfl, rfl, rfl, rfl, rfl, rfl, rfl, rfl, rfl, rfl, rfl, rfl, rfl, rfl, rfl, rfl, trivial⟩) ?_
    refine aC rfl (fun h0 => ?_) (fun h0 => ?_)
    · have h0 : y.us - 1 = 0 := by simpa using h0
      rw [if_pos h0] at hd1
      refine aR ?_
      (refine nx (aM (gN rfl) rfl rfl rfl rfl rfl) rfl ?_)
      (refine nx (aM (gN rfl) rfl rfl rfl rfl rfl) rfl ?_)
      (refine nx (a_bslice (gN rfl) rfl rfl rfl rfl rfl rfl rfl rfl rfl rfl rfl rfl rfl) rfl ?_)
      (refine nx (a_app (gN rfl) rfl rfl rfl rfl rfl rfl rfl rfl rfl rfl rfl rfl rfl rfl rfl (by first | assumption | exact sZ rfl | exact Tm.size_all _ | exact Bd.size_all _ | exact ints_size _ | exact bys_size _ | exact Lt.size_all _) (by first | assumption | exact sZ rfl | exact Tm.size_all _ | exact Bd.size_all _ | exact ints_size _ | exact bys_size _ | exact Lt.size_all _) (by first | omega | (simp only [List.length_map, List.length_append, List.length_cons, List.length_nil] <;> omega) | (simp <;> omega))) (by kernel_rfl) ?_)
      (refine nx (aA (gN rfl) rfl rfl rfl rfl rfl) rfl ?_)
      show AWp _ _ _ _ _ _ _
      refine aR ?_
      (refine nx (aM (gN rfl) rfl rfl rfl rfl rfl) rfl ?_)
      (refine nx (a_add (gN rfl) rfl rfl rfl rfl rfl rfl (by first | omega | (simp only [List.length_map, List.length_append, List.length_cons, List.length_nil] <;> omega) | (simp <;> omega))) rfl ?_)
      (refine nx (aA (gN rfl) rfl rfl rfl rfl rfl) rfl ?_)
      refine ⟨m, (0, AV.bp 350001 0 []) :: (4, .val (intsV hs)) :: (5, .own (intsV (o1 ++ [r2.2])) 200082) :: (200082, .tok 3 1) :: (8, .val (.i (i : Int))) :: (10, .val (.i (to : Int))) :: (11, .val (.i ((fr + (e + 1) : Nat) : Int))) :: cstF ⟨ns2, c2.vr, c2.ps⟩, by omega, ⟨e + 1, ns2, o1 ++ [r2.2], by omega, by rw [← Nat.add_assoc]; exact hd1, hF5, by omega, hb5.mono (by omega), fun h hm => by
        rcases List.mem_append.1 hm with hm | hm
        · exact ho3 h hm
        · rw [List.mem_singleton] at hm; omega, by rw [List.length_append]; omega, rfl⟩, (wk_sub (s' := (0, AV.bp 350001 0 []) :: (4, .val (intsV hs)) :: (5, .own (intsV (o1 ++ [r2.2])) 300082) :: (300082, .tok 3 1) :: (8, .val (.i (i : Int))) :: (10, .val (.i (to : Int))) :: (11, .val (.i ((fr + (e + 1) : Nat) : Int))) :: cstF ⟨ns2, c2.vr, c2.ps⟩) ⟨rfl, rfl, ?_, rfl, rfl, rfl, rfl, rfl, rfl, rfl, rfl, rfl, rfl, rfl, trivial⟩).trans (wk_ren 300082 200082 rfl rfl (by kernel_rfl) (by kernel_rfl))⟩
      show _ = some (AV.own (.lst ((o1 ++ [r2.2]).map fun n : Nat => CV.i (n : Int))) 300082)
      rw [List.map_append]; rfl
    · have h0 : ¬ y.us - 1 = 0 := by simpa using h0
      rw [if_neg h0] at hd1
      refine aK ?_
      show AWp _ _ _ _ _ _ _
      refine aR ?_
      (refine nx (aM (gN rfl) rfl rfl rfl rfl rfl) rfl ?_)
      (refine nx (a_add (gN rfl) rfl rfl rfl rfl rfl rfl (by first | omega | (simp only [List.length_map, List.length_append, List.length_cons, List.length_nil] <;> omega) | (simp <;> omega))) rfl ?_)
      (refine nx (aA (gN rfl) rfl rfl rfl rfl rfl) rfl ?_)
      exact ⟨m, (0, AV.bp 350001 0 []) :: (4, .val (intsV hs)) :: (5, .own (intsV o1) 200082) :: (200082, .tok 3 1) :: (8, .val (.i (i : Int))) :: (10, .val (.i (to : Int))) :: (11, .val (.i ((fr + (e + 1) : Nat) : Int))) :: cstF ⟨ns2, c2.vr, c2.ps⟩, by omega, ⟨e + 1, ns2, o1, by omega, by rw [← Nat.add_assoc]; exact hd1, hF5, by omega, hb5.mono (by omega), ho3, hi3, rfl⟩, wk_sub ⟨rfl, rfl, rfl, rfl, rfl, rfl, rfl, rfl, rfl, rfl, rfl, rfl, rfl, rfl, trivial⟩⟩
theorem nodup_le : ∀ (N : Nat) {l : List Nat}, l.Nodup → (∀ x ∈ l, x < N) → l.length ≤ N
  | 0, l, _, h => by
    cases l with
    | nil => simp
    | cons a l => exact absurd (h a (by simp)) (by omega)
  | N + 1, l, hn, h => by
    have h1 : (l.filter fun x => decide (x ≠ N)).length ≤ N := nodup_le N (List.Pairwise.filter _ hn) fun x hx => by
      obtain ⟨h2, h3⟩ := List.mem_filter.1 hx
      have := h x h2
      have : x ≠ N := by simpa using h3
      omega
    have h2 : l.length ≤ (l.filter fun x => decide (x ≠ N)).length + 1 := by
      clear h h1
      induction l with
      | nil => simp
      | cons a l ih =>
        rw [List.nodup_cons] at hn
        by_cases e : a = N
        · subst e
          rw [List.filter_cons, if_neg (by simp), List.length_cons]
          have : l.filter (fun x => decide (x ≠ a)) = l := List.filter_eq_self.2 fun x hx => by
            simp only [ne_eq, decide_eq_true_eq]
            exact fun e => hn.1 (e ▸ hx)
          rw [this]
          omega
        · rw [List.filter_cons, if_pos (by simpa using e), List.length_cons, List.length_cons]
          have := ih hn.2
          omega
    omega
theorem runC_inv : ∀ (k : Nat) {c : Cl} {q} {E} {M : Nat}, runC k c = some q → Inv c E M → q.2 = true → Inv q.1 E M ∧ q.1.ps = []
  | 0, _, _, _, _, e, _, _ => by cases e
  | k + 1, c, q, E, M, e, h, hq => by
    rw [runC] at e
    cases hg : c.ps.getLast? with
    | none => rw [hg] at e; cases e; exact ⟨h, List.getLast?_eq_none_iff.1 hg⟩
    | some p =>
      rw [hg] at e
      simp only at e
      cases hj : joinC k ⟨c.ns, c.vr, c.ps.dropLast⟩ p.1 p.2 with
      | none => rw [hj] at e; cases e
      | some qq =>
        rw [hj] at e
        simp only at e
        split at e
        · rename_i h2; exact runC_inv k e ((h.join hg hj).2 h2) hq
        · rename_i h2; cases e; exact absurd hq h2
theorem joinAllC_inv {k : Nat} : ∀ (l : List (Tm × Tm)) {c : Cl} {q} {E}, joinAllC k l c = some q → Inv c E 2000001 → c.ps = [] → (∀ p ∈ l, (p.1.rng ∧ p.1.ok) ∧ (p.2.rng ∧ p.2.ok)) → pw c.ns + plcS l ≤ 1000 → q.2 = true → ∃ E', Inv q.1 E' 2000001
  | [], c, q, E, e, h, _, _, _, _ => by cases e; exact ⟨E, h⟩
  | p :: l, c, q, E, e, h, hps, hl, hb, hq => by
    have hb : pw c.ns + (p.1.size + p.2.size + plcS l) ≤ 1000 := hb
    rw [joinAllC] at e
    cases hr : runC k (openC c p) with
    | none => rw [hr] at e; cases e
    | some qr =>
      rw [hr] at e
      simp only at e
      obtain ⟨h1, h2⟩ := hl p (by simp)
      have hI := h.opn hps h1 h2 (by omega)
      split at e
      · rename_i h3
        obtain ⟨g1, g2⟩ := runC_inv k hr hI h3
        have hp := pw_run k hr
        rw [pw_open] at hp
        exact joinAllC_inv l e g1 g2 (fun x hx => hl x (List.mem_cons_of_mem _ hx)) (by omega) hq
      · rename_i h3; cases e; exact absurd hq h3
theorem ordC_fit {k : Nat} : ∀ (j i : Nat) {c : Cl} {o : List Nat} {q}, ordC k j i c o = some q → FitU c → (∀ h ∈ o, h < c.ns.length) → ∀ {B : Int}, 0 ≤ B → usB c.ns B → FitU q.1
  | 0, _, _, _, _, e, _, _, _, _, _ => by cases e
  | j + 1, i, c, o, q, e, hF, ho, B, hB, hu => by
    rw [ordC] at e
    cases hi : o[i]? with
    | none => rw [hi] at e; cases e; exact hF
    | some g =>
      rw [hi] at e
      simp only at e
      have hg := ho g (List.mem_of_getElem? hi)
      have hp := hF.parts hg
      have hsn := snd_le hF.kid hg
      cases hd : downC k (List.range' (pC c g).2.1 ((pC c g).2.2 - (pC c g).2.1)) (pC c g).1.ns o with
      | none => rw [hd] at e; cases e
      | some qd =>
        rw [hd] at e
        simp only at e
        have hge : c.ns.length ≤ (pC c g).1.ns.length := parts_len
        obtain ⟨g1, g2, g3, g4, g5⟩ := downC_keep (vr := (pC c g).1.vr) (ps := (pC c g).1.ps) _ hd hp (fun p hp2 => by rw [List.mem_range'_1] at hp2; omega) (hu.parts hB g) (fun x hx => by have := ho x hx; omega)
        exact ordC_fit j (i + 1) e g1 (fun x hx => by show x < qd.1.length; rw [g2]; exact g5 x hx) (by omega) g3
end Go.Proofs.YteegmcfobgpemaaGreat
namespace Go.Proofs.YteegmcfobgpemaaGreat
open Go.RowKit Go.MapKept Go.Shelf
set_option linter.unusedVariables false
set_option linter.unusedSimpArgs false
attribute [local go_sem] Oper.semAt_some

def encB (x : Nat × Int) : List CV := [.i (x.1 : Int), .i x.2]
def backL (L : List Int) : List (Nat × Int) := (List.range L.length).reverse.map fun i => (i, L.getD i 0)
theorem backL_len (L : List Int) : (backL L).length = L.length := by simp [backL]
theorem backL_at {L : List Int} {k : Nat} (h : k < L.length) : (backL L)[k]? = some (L.length - 1 - k, L.getD (L.length - 1 - k) 0) := by
  unfold backL
  rw [List.getElem?_map, List.getElem?_reverse (by simpa using h)]
  simp only [List.length_range]
  rw [List.getElem?_range (by omega)]
  rfl
set_option maxRecDepth 100000 in
set_option maxHeartbeats 2000000 in
theorem back_in (l Bb ob : Nat) (L : List Int) (R : Nat → Nat → Prop) (w : World) (ao : Option Addr) (cap : Nat) (hbox : w.cell? ⟨Bb, ob, none⟩ = some (.slice ao L.length cap)) (hRb : R Bb ob) (hat : At R w ao (L.map (Value.int .i64))) (hl : L.length ≤ 1000000000)
    (J : List (Nat × Int) → World → Prop) (hJ : ∀ pre A B, J pre A → Below A.heap.size A B → J pre B)
    (hY : ∀ pre (x : Nat × Int) V, J pre V → (backL L)[pre.length]? = some x → YieldAt Fence.wide 1 Tryz.prog l #[.int .i64 (x.1 : Int), .int .i64 x.2] V fun e V' => e = .returned (.bool true) ∧ J (pre ++ [x]) V' ∧ KpX w.heap.size (fun b => ¬ ∃ o, R b o) V V')
    (W : World) (hW : Below w.heap.size w W) (h0 : J [] W) :
    CallsIn Fence.wide 2 Tryz.prog 181 #[.func (.yield l) #[] #[], .pointer (some ⟨Bb, ob, none⟩)] W fun e W' => (∃ v, e = .returned v) ∧ ∃ ys, ys = backL L ∧ J ys W' := by
  have hcs : ∀ {V : World}, KpX w.heap.size (fun b => ¬ ∃ o, R b o) w V → V.cell? ⟨Bb, ob, none⟩ = some (.slice ao L.length cap) ∧ ∀ i, i < L.length → ∃ b off, ao = some ⟨b, off, none⟩ ∧ V.cell? ⟨b, off + i, none⟩ = some (.int .i64 (L.getD i 0)) := fun {V} hV => by
    have hkeep : ∀ b o u, R b o → w.cell? ⟨b, o, none⟩ = some u → V.cell? ⟨b, o, none⟩ = some u := fun b o u hr hc => by
      have hb : b < w.heap.size := World.block_lt_of_cell? w _ hc
      rw [World.cell?_of_block (w := w) (hV b hb (fun hn => hn ⟨o, hr⟩))]
      exact hc
    refine ⟨hkeep _ _ _ hRb hbox, fun i hi => ?_⟩
    rcases hat with h1 | ⟨b, off, h1, h2⟩
    · have := congrArg List.length h1
      rw [List.length_map] at this
      simp at this
      subst this
      simp at hi
    · obtain ⟨h3, h4⟩ := h2 i (by simpa using hi)
      refine ⟨b, off, h1, hkeep _ _ _ h3 ?_⟩
      rw [h4, List.getElem?_map, List.getElem?_eq_getElem hi, List.getD_eq_getElem?_getD, List.getElem?_eq_getElem hi]
      rfl
  have hW0 : KpX w.heap.size (fun b => ¬ ∃ o, R b o) w W := fun b hb _ => hW.block b hb
  obtain ⟨n, hn⟩ : ∃ n, n = L.length := ⟨_, rfl⟩
  have HN : Hid (n = L.length) := hn
  have HC : Hid (∀ {V : World}, KpX w.heap.size (fun b => ¬ ∃ o, R b o) w V → V.cell? ⟨Bb, ob, none⟩ = some (.slice ao n cap) ∧ ∀ i, i < n → ∃ b off, ao = some ⟨b, off, none⟩ ∧ V.cell? ⟨b, off + i, none⟩ = some (.int .i64 (L.getD i 0))) := by
    rw [hn]; exact fun {V} h => hcs h
  have hl' : n ≤ 1000000000 := by omega
  clear hcs hbox hat hn hl hRb
  obtain ⟨hb0, _⟩ := HC.out hW0
  refine callsIn_of_wp Tryz.func181 rfl trivial ?_ rfl
  simp only [Tryz.ntmps181, List.size_toArray, List.length_cons, List.length_nil, Nat.reduceAdd, Nat.reduceSub, Array.replicate_succ, Array.replicate_zero, List.push_toArray, List.append_toArray, List.nil_append, List.cons_append]
  gi_wp2
  gi_loopw [3] (fun iv wr => ∃ (z : Int) (k : Nat), iv = .int .i64 z ∧ z = (n : Int) - 1 - k ∧ k ≤ n ∧ J ((backL L).take k) wr ∧ KpX w.heap.size (fun b => ¬ ∃ o, R b o) w wr) (fun iv wr => (intOf iv + 1).toNat)
  case atStart => exact ⟨_, 0, rfl, by omega, by omega, by simpa using h0, hW0⟩
  case round =>
    obtain ⟨z, k, rfl, hz, hk, hJr, hKr⟩ := hrel
    clear hb0 h0 hW0
    obtain ⟨hb1, hc1⟩ := HC.out hKr
    by_cases hkn : k = n
    · have hz1 : z = -1 := by omega
      subst hz1
      gi_wp2
      go_end0
      refine ⟨⟨_, rfl⟩, _, rfl, ?_⟩
      rw [hkn, HN.out, ← backL_len, List.take_length] at hJr
      exact hJr
    · obtain ⟨j, hj⟩ : ∃ j : Nat, j = n - 1 - k := ⟨_, rfl⟩
      have hzj : z = (j : Int) := by omega
      have hjn : j < n := by omega
      subst hzj
      obtain ⟨b, off, rfl, hc2⟩ := hc1 j hjn
      have hx : (backL L)[((backL L).take k).length]? = some (j, L.getD j 0) := by
        have hkl : k < L.length := by have := HN.out; omega
        rw [List.length_take, backL_len, Nat.min_eq_left (by omega), backL_at hkl, ← HN.out, ← hj]
      obtain ⟨fn, tmps, assign, body, hy, hR⟩ := hY _ _ _ hJr hx
      have HX : Hid (((backL L).take k) ++ [(j, L.getD j 0)] = (backL L).take (k + 1)) := by
        have hkl : k < L.length := by have := HN.out; omega
        show _ = _
        rw [List.take_add_one, backL_at hkl, ← HN.out, ← hj]
        rfl
      obtain ⟨v, hv⟩ : ∃ v, v = L.getD j 0 := ⟨_, rfl⟩
      rw [← hv] at hc2 hR
      have HX2 := HX.out
      rw [← hv] at HX2
      have HX3 : Hid (((backL L).take k) ++ [(j, v)] = (backL L).take (k + 1)) := HX2
      clear HX HX2 hx hc1
      have hy : Sem.run Tryz.prog (Instr.yield l #[.int .i64 (j : Int), .int .i64 v]) wr = .ok (.round l fn tmps assign body) wr := by rw [hv]; exact hy
      clear hv
      have HJ : Hid (j = n - 1 - k ∧ k < n) := ⟨hj, by omega⟩
      clear hj hz hkn hk
      gi_wp2
      refine hR.mono ?_
      rintro e V3 ⟨rfl, hJ3, hk3⟩
      gi_wp2
      go_roundw
      case rel => exact ⟨_, k + 1, rfl, by have := HJ.out; omega, by have := HJ.out; omega, by have := hJ3; rw [HX3.out] at this; exact this, fun b' hb' hx' => (hk3 b' hb' hx').trans (hKr b' hb' hx')⟩
      case measure => simp [intOf]
theorem back_hands (L : List Int) (hl : L.length ≤ 1000000000) : Hands Tryz.prog 181 [.ptr (.lst (L.map CV.i))] encB (backL L) := by
  rintro w lb R ⟨u, us, rfl, h1, h2⟩
  have h2 : us = [] := h2
  subst h2
  obtain ⟨b, off, xs, rfl, h3, h4⟩ := vrep_ptr.1 h1
  obtain ⟨v, g1, g2⟩ := vrep_of_rep h3
  obtain ⟨ao, n, cap, rfl, e1, e2, e3, e4, ys, e5, e6⟩ := vrep_lst.1 g1
  rw [List.length_map] at e1
  subst e1
  have hxs : xs = [.slice ao L.length cap] := by rw [← g2]; rfl
  subst hxs
  obtain ⟨h5, h6⟩ := h4 0 (by simp)
  have hys : ys = L.map (Value.int .i64) := by
    have : ∀ (l : List Int) (zs : List Value), Sq ((l.map CV.i).map fun c => Rep R w c) zs → zs = l.map (Value.int .i64) := by
      intro l
      induction l with
      | nil => intro zs h; exact h
      | cons x l ih =>
        intro zs h
        obtain ⟨us, bs, rfl, k1, k2⟩ := h
        rw [List.map_cons, ih bs k2]
        have k3 : us = [.int .i64 x] := by
          obtain ⟨v, j1, j2⟩ := vrep_of_rep k1
          obtain ⟨j3, _⟩ := vrep_sc.1 j1
          subst j3
          rw [← j2]; rfl
        rw [k3]; rfl
    exact this L ys e6
  subst hys
  intro l J W hW hJ hY h0
  exact back_in l b off L R w ao cap (by simpa using h6) (by simpa using h5) e5 hl J hJ hY W hW h0
-- 
theorem back_abs (W : World) (L : List Int) : AFun Tryz.prog W 174 [.lst (L.map CV.i)] (.val (.fn 181 0 [.ptr (.lst (L.map CV.i))])) := by
  refine afun_of (rs := [.fn 181 0 [.ptr (.lst (L.map CV.i))]]) Tryz.func174 Tryz.ntmps174 rfl rfl rfl rfl ?_
  intro w U hW
  refine aS (aR ?_)
  (refine nx (a_box (gN rfl) rfl rfl rfl rfl rfl) rfl ?_)
  (refine nx (aA (gN rfl) rfl rfl rfl rfl rfl) rfl ?_)
  show AWp _ _ _ _ _ _ _
  refine AWp.wk (wk_freeze 1 rfl rfl rfl (s' := []) trivial rfl rfl rfl) ?_
  refine aS (aR ?_)
  (refine nx (a_mkfunc (gN rfl) rfl rfl rfl rfl rfl rfl) rfl ?_)
  (refine nx (aA (gN rfl) rfl rfl rfl rfl rfl) rfl ?_)
  show AWp _ _ _ _ _ _ _
  exact aT ⟨.inr rfl, rfl⟩
end Go.Proofs.YteegmcfobgpemaaGreat
namespace Go.Proofs.YteegmcfobgpemaaGreat
open Go.RowKit
set_option linter.unusedVariables false
set_option linter.unusedSimpArgs false
set_option maxRecDepth 100000
def stepT (k : Nat) (t : Cl × List Tm) (n : Nat) : Option (Cl × List Tm) := match listC k t.2 (List.range' (pC t.1 n).2.1 ((pC t.1 n).2.2 - (pC t.1 n).2.1)) (pC t.1 n).1.ns [] with
  | none => none
  | some q => some (⟨q.1, (pC t.1 n).1.vr, (pC t.1 n).1.ps⟩, t.2.set n ⟨(nT q.1 n).f, q.2⟩)
theorem termsC_cons (k n : Nat) (o : List Nat) (c : Cl) (out : List Tm) : termsC k (n :: o) c out = (stepT k (c, out) n).bind fun t => termsC k o t.1 t.2 := by
  rw [termsC, stepT]
  simp only
  cases listC k out (List.range' (pC c n).2.1 ((pC c n).2.2 - (pC c n).2.1)) (pC c n).1.ns [] <;> rfl
theorem termsC_snoc (k : Nat) : ∀ (o : List Nat) (n : Nat) (c : Cl) (out : List Tm), termsC k (o ++ [n]) c out = (termsC k o c out).bind fun t => stepT k t n
  | [], n, c, out => by
    rw [List.nil_append, termsC_cons]
    show _ = stepT k (c, out) n
    cases stepT k (c, out) n <;> rfl
  | m :: o, n, c, out => by
    rw [List.cons_append, termsC_cons, termsC_cons]
    cases stepT k (c, out) m with
    | none => rfl
    | some t => exact termsC_snoc k o n t.1 t.2
theorem termsC_take {k : Nat} : ∀ {o : List Nat} {c : Cl} {out : List Tm} {q}, termsC k o c out = some q → ∀ j, ∃ t, termsC k (o.take j) c out = some t
  | [], c, out, q, h, j => ⟨(c, out), by rw [List.take_nil]; rfl⟩
  | n :: o, c, out, q, h, 0 => ⟨(c, out), rfl⟩
  | n :: o, c, out, q, h, j + 1 => by
    rw [termsC_cons] at h
    rw [List.take_succ_cons, termsC_cons]
    cases e : stepT k (c, out) n with
    | none => rw [e] at h; cases h
    | some t => rw [e] at h; exact termsC_take (o := o) h j
structure TI (N : Nat) (t : Cl × List Tm) : Prop where
  fit : FitU t.1
  out : t.2.length = N
  len : N ≤ t.1.ns.length
theorem listC_keep {k : Nat} {vr ps} {out : List Tm} : ∀ (l : List Nat) {ns : List Nd} {ts : List Tm} {q}, listC k out l ns ts = some q → FitU ⟨ns, vr, ps⟩ → (∀ p ∈ l, p < ns.length) → FitU ⟨q.1, vr, ps⟩ ∧ q.1.length = ns.length ∧ q.2.length = ts.length + l.length
  | [], ns, ts, q, h, hF, _ => by
    have h : some (ns, ts) = some q := h
    cases h
    exact ⟨hF, rfl, rfl⟩
  | p :: l, ns, ts, q, h, hF, hl => by
    rw [listC] at h
    cases hd : headC k ns p with
    | none => rw [hd] at h; cases h
    | some r =>
      rw [hd] at h
      obtain ⟨h1, h2, h3⟩ := FitU.head hF (hl p (by simp)) hd
      obtain ⟨g1, g2, g3⟩ := listC_keep l h h1 fun p' hp' => by rw [h2]; exact hl p' (List.mem_cons_of_mem _ hp')
      exact ⟨g1, by rw [g2, h2], by rw [g3]; simp; omega⟩
theorem TI.step {k N : Nat} {t t' : Cl × List Tm} {n : Nat} (h : TI N t) (hn : n < t.1.ns.length) (hs : stepT k t n = some t') : TI N t' ∧ t.1.ns.length ≤ t'.1.ns.length := by
  unfold stepT at hs
  have hFp := h.fit.parts hn
  have htl : (pC t.1 n).2.2 ≤ (pC t.1 n).1.ns.length := snd_le h.fit.kid hn
  have hfr : (pC t.1 n).2.1 ≤ (pC t.1 n).2.2 := parts_pos.1
  have hgrow : t.1.ns.length ≤ (pC t.1 n).1.ns.length := parts_len
  split at hs
  · cases hs
  · rename_i q hq
    cases hs
    obtain ⟨g1, g2, g3⟩ := listC_keep (vr := (pC t.1 n).1.vr) (ps := (pC t.1 n).1.ps) _ hq hFp fun p hp => by
      rw [List.mem_range'] at hp
      obtain ⟨i, hi, rfl⟩ := hp
      omega
    refine ⟨⟨g1, by simp only [List.length_set]; exact h.out, ?_⟩, ?_⟩
    · show N ≤ q.1.length; rw [g2]; exact Nat.le_trans h.len hgrow
    · show _ ≤ q.1.length; rw [g2]; exact hgrow
theorem TI.all {k N : Nat} : ∀ {o : List Nat} {t q : Cl × List Tm}, TI N t → (∀ n ∈ o, n < N) → termsC k o t.1 t.2 = some q → TI N q ∧ t.1.ns.length ≤ q.1.ns.length
  | [], t, q, h, _, hq => by
    have hq : some (t.1, t.2) = some q := hq
    cases hq
    exact ⟨h, Nat.le_refl _⟩
  | n :: o, t, q, h, ho, hq => by
    rw [termsC_cons] at hq
    cases e : stepT k (t.1, t.2) n with
    | none => rw [e] at hq; cases hq
    | some t' =>
      rw [e] at hq
      obtain ⟨h1, h2⟩ := h.step (t' := t') (n := n) (Nat.lt_of_lt_of_le (ho n (by simp)) h.len) e
      obtain ⟨h3, h4⟩ := TI.all h1 (fun m hm => ho m (List.mem_cons_of_mem _ hm)) hq
      exact ⟨h3, Nat.le_trans h2 h4⟩
noncomputable abbrev obT (N : Nat) (t : Cl × List Tm) : AS := (450002, AV.obj) :: (35500200, .bp 350001 0 []) :: (450003, .obj) :: (35500300, .sl 300005 0 N 2) :: (300005, .mrow 41 2 (t.2.map Tm.cv)) :: cstM t.1
theorem map_setT {out : List Tm} {n : Nat} {x : Tm} : (out.set n x).map Tm.cv = (out.map Tm.cv).set n x.cw := by rw [List.map_set, Tm.cv_eq]
noncomputable abbrev obF (N : Nat) (c : Cl) (out : List Tm) : AS := (450002, AV.obj) :: (35500200, .bp 350001 0 []) :: (450003, .obj) :: (35500300, .sl 300005 0 N 2) :: (300005, .mrow 41 2 (out.map Tm.cv)) :: cstF c
-- 
set_option maxHeartbeats 8000000 in
theorem uTerms_abs (fu : Nat) (c0 : Cl) (od : List Nat) (q : Cl × List Tm) (hq : termsC fu od.reverse c0 (List.replicate c0.ns.length tm0) = some q) (hF : FitU c0) (hlq : q.1.ns.length = c0.ns.length) (hod : ∀ n ∈ od, n < c0.ns.length) (hol : od.length ≤ 1000) : AFunO Tryz.prog 157 (cstM c0) [.bp 350001 0 [], .val (intsV od)] (.sl 300005 0 c0.ns.length 2) ((300005, .mrow 41 2 (q.2.map Tm.cv)) :: cstM q.1) := by
  obtain ⟨N, hN⟩ : ∃ N, N = c0.ns.length := ⟨_, rfl⟩
  have hl : N ≤ 1000 := by rw [hN]; exact Nat.le_trans (len_pw _) hF.big
  obtain ⟨out0, hout⟩ : ∃ out0, out0 = List.replicate N tm0 := ⟨_, rfl⟩
  obtain ⟨tk, htk⟩ : ∃ tk : Nat → Cl × List Tm, ∀ k, termsC fu (od.reverse.take k) c0 out0 = some (tk k) := by
    rw [← hN, ← hout] at hq
    exact ⟨fun k => Classical.choose (termsC_take hq k), fun k => Classical.choose_spec (termsC_take hq k)⟩
  rw [← hN] at hq hlq hod ⊢
  rw [← hout] at hq
  have hI0 : TI N (c0, out0) := ⟨hF, by rw [hout, List.length_replicate], by show N ≤ c0.ns.length; omega⟩
  have hIk : ∀ k, TI N (tk k) ∧ (tk k).1.ns.length = N := fun k => by
    have ho : ∀ n ∈ od.reverse.take k, n < N := fun n hn => hod n (List.mem_reverse.1 (List.mem_of_mem_take hn))
    obtain ⟨h1, h2⟩ := TI.all (t := (c0, out0)) hI0 ho (htk k)
    refine ⟨h1, ?_⟩
    have hrest : ∃ q', termsC fu (od.reverse.drop k) (tk k).1 (tk k).2 = some q' ∧ q' = q := by
      have happ : ∀ (a b : List Nat) (c : Cl) (o : List Tm), termsC fu (a ++ b) c o = (termsC fu a c o).bind fun t => termsC fu b t.1 t.2 := by
        intro a
        induction a with
        | nil => intro b c o; rfl
        | cons x a ih =>
          intro b c o
          rw [List.cons_append, termsC_cons, termsC_cons]
          cases stepT fu (c, o) x with
          | none => rfl
          | some t => exact ih b t.1 t.2
      have := happ (od.reverse.take k) (od.reverse.drop k) c0 out0
      rw [List.take_append_drop, hq, htk k] at this
      exact ⟨q, this.symm, rfl⟩
    obtain ⟨q', h3, rfl⟩ := hrest
    obtain ⟨_, h4⟩ := TI.all h1 (fun n hn => hod n (List.mem_reverse.1 (List.mem_of_mem_drop hn))) h3
    have := h1.len
    omega
  have hend : tk od.length = q := by
    have := htk od.length
    rw [List.take_of_length_le (by simp), hq] at this
    injection this with this
    exact this.symm
  have hstart : tk 0 = (c0, out0) := by
    have := htk 0
    have h2 : some (c0, out0) = some (tk 0) := this
    injection h2 with h2
    exact h2.symm
  have hints : (intsV od) = .lst ((od.map fun n : Nat => (n : Int)).map CV.i) := by unfold intsV; rw [List.map_map]; rfl
  have hxlen : (backL (od.map fun n : Nat => (n : Int))).length = od.length := by rw [backL_len, List.length_map]
  have hbk : ∀ W, AFun Tryz.prog W 174 [intsV od] (.val (.fn 181 0 [.ptr (.lst ((od.map fun n : Nat => (n : Int)).map CV.i))])) := fun W => by rw [hints]; exact back_abs W _
  refine afunOM_of Tryz.func157 Tryz.ntmps157 rfl rfl rfl rfl rfl rfl ?_
  intro w U hU
  refine awpM_pre (aR ?_)
  (refine nx (a_boxN 350002 (gN rfl) rfl rfl rfl rfl rfl rfl rfl rfl rfl (fun v h => by first | (rw [hW.1] at h; cases h) | (have h2 := hU _ v h; cases h2))) (by kernel_rfl) ?_)
  (refine nx (aA (gN rfl) rfl rfl rfl rfl rfl) rfl ?_)
  refine ⟨rfl, ?_⟩
  refine awpM_pre (aR ?_)
  (refine nx (aLf (gN rfl) rfl rfl rfl rfl rfl rfl rfl rfl rfl rfl rfl rfl rfl) rfl ?_)
  (refine nx (aNc (gN rfl) rfl rfl rfl rfl rfl) rfl ?_)
  (refine nx (aF (gN rfl) rfl rfl rfl rfl rfl rfl rfl rfl rfl) rfl ?_)
  (refine nx (aLf (gN rfl) rfl rfl rfl rfl rfl rfl rfl rfl rfl rfl rfl rfl rfl) rfl ?_)
  (refine nx (a_lenM (gN rfl) rfl rfl rfl rfl rfl rfl rfl) rfl ?_)
  (refine nx (a_mkM 300005 (k := N) (gN rfl) rfl rfl rfl rfl rfl rfl rfl rfl rfl rfl rfl rfl rfl rfl (by first | rfl | omega | (simp only [List.length_set, List.length_map, List.length_append, List.length_cons, List.length_nil] <;> omega) | (simp <;> omega)) (by first | rfl | omega | (simp only [List.length_set, List.length_map, List.length_append, List.length_cons, List.length_nil] <;> omega) | (simp <;> omega)) rfl (by first | rfl | omega | (simp only [List.length_set, List.length_map, List.length_append, List.length_cons, List.length_nil] <;> omega) | (simp <;> omega))) (by kernel_rfl) ?_)
  (refine nx (a_alloc1N 350003 (gN rfl) rfl rfl rfl rfl rfl (by first | exact .inl ⟨rfl, rfl⟩ | exact .inr ⟨rfl, rfl⟩) rfl rfl rfl (fun v h => by first | (rw [hW.1] at h; cases h) | (have h2 := hU _ v h; cases h2))) (by kernel_rfl) ?_)
  (refine nx (a_store_fld (gN rfl) rfl rfl rfl rfl rfl rfl rfl rfl rfl rfl rfl rfl) rfl ?_)
  refine ⟨rfl, ?_⟩
  refine awpM_post (awpM_pre (aR ?_))
  (refine nx (aM (gN rfl) rfl rfl rfl rfl rfl) rfl ?_)
  (refine nx (a_call (gN rfl) rfl rfl rfl rfl rfl (hbk w)) rfl ?_)
  refine ⟨rfl, ?_⟩
  refine awpM_block ?_
  refine awpM_wk (wk_sub (s' := (2, AV.bp 350002 0 []) :: (5, .bp 350003 0 []) :: (19, .val (.fn 181 0 [.ptr (.lst ((od.map fun n : Nat => (n : Int)).map CV.i))])) :: obT N (tk 0)) ⟨rfl, rfl, rfl, by kernel_rfl, by kernel_rfl, by kernel_rfl, by kernel_rfl, ?_, rfl, ?_, rfl, ?_, ?_, ?_, ?_, trivial⟩) ?_
  · rw [hstart, hout, List.map_replicate]; rfl
  · rw [hstart]; rfl
  · rw [hstart]; rfl
  · rw [hstart]; rfl
  · rw [hstart]; rfl
  · rw [hstart]; rfl
  refine awpM_mono (awpM_range (α := Nat × Int) (encC := encB) (xs := backL (od.map fun n : Nat => (n : Int))) (al := [(7, 21)]) (fun k => obT N (tk k)) [(2, AV.bp 350002 0 []), (5, .bp 350003 0 [])] rfl (ent_of Tryz.func181 rfl rfl) (back_hands _ (by rw [List.length_map]; omega)) rfl rfl rfl (fun x _ c hc => ?_) (fun x => rfl) ⟨rfl, rfl, trivial⟩ rfl ⟨rfl, rfl, rfl, rfl, rfl, rfl, rfl, rfl, rfl, rfl, rfl, rfl, trivial⟩ (fun k => by kernel_rfl) (fun k => by kernel_rfl) (fun k => rfl) rfl (by kernel_rfl) (by kernel_rfl) ?_) ?_
  · rcases List.mem_cons.1 hc with rfl | hc
    · exact ⟨_, rfl, rfl⟩
    · rw [List.mem_singleton] at hc; subst hc; exact ⟨_, rfl, rfl⟩
  · intro k x hx w U hU
    have hkl : k < od.length := by
      rcases Nat.lt_or_ge k od.length with h | h
      · exact h
      · rw [List.getElem?_eq_none (by omega)] at hx; cases hx
    obtain ⟨n, hn⟩ : ∃ n, od.reverse[k]? = some n := ⟨od.reverse[k]'(by simpa using hkl), List.getElem?_eq_getElem (by simpa using hkl)⟩
    have hnN : n < N := hod n (List.mem_reverse.1 (List.mem_of_getElem? hn))
    obtain ⟨i, hxe⟩ : ∃ i : Nat, x = (i, (n : Int)) := by
      rw [backL_at (by rw [List.length_map]; exact hkl)] at hx
      injection hx with hx
      refine ⟨(od.map fun n : Nat => (n : Int)).length - 1 - k, ?_⟩
      rw [← hx]
      congr 1
      rw [List.length_map, List.getD_eq_getElem?_getD, List.getElem?_map]
      rw [List.getElem?_reverse hkl] at hn
      rw [hn]; rfl
    rw [hxe]
    clear hx hxe
    obtain ⟨hI, hIl⟩ := hIk k
    have hstep : stepT fu (tk k) n = some (tk (k + 1)) := by
      have := htk (k + 1)
      rw [List.take_add_one, hn] at this
      have := (termsC_snoc fu (od.reverse.take k) n c0 out0).symm.trans this
      rw [htk k] at this
      exact this
    obtain ⟨hI1, hIl1⟩ := hIk (k + 1)
    obtain ⟨t, ht⟩ : ∃ t, t = tk k := ⟨_, rfl⟩
    obtain ⟨t', ht'⟩ : ∃ t', t' = tk (k + 1) := ⟨_, rfl⟩
    rw [← ht] at hI hIl hstep hU ⊢
    rw [← ht'] at hstep hI1 hIl1 ⊢
    clear ht ht'
    obtain ⟨c, out⟩ := t
    have hFc : FitU c := hI.fit
    have hol' : out.length = N := hI.out
    have hcl : c.ns.length = N := hIl
    have hnc : n < c.ns.length := by omega
    have hFp := hFc.parts hnc
    have hlp : (pC c n).1.ns.length ≤ 1000 := Nat.le_trans (len_pw _) hFp.big
    have hpc := uParts_abs c n hnc hFc.trm (by omega) (hFc.kid.fi hnc (by omega))
    have hft : (pC c n).2.1 ≤ (pC c n).2.2 := parts_pos.1
    have htl : (pC c n).2.2 ≤ (pC c n).1.ns.length := snd_le hFc.kid hnc
    have hgr : c.ns.length ≤ (pC c n).1.ns.length := parts_len
    unfold stepT at hstep
    simp only at hstep
    obtain ⟨c2, hc2⟩ : ∃ c2, c2 = (pC c n).1 := ⟨_, rfl⟩
    obtain ⟨fr, hfr⟩ : ∃ x, x = (pC c n).2.1 := ⟨_, rfl⟩
    obtain ⟨to, hto⟩ : ∃ x, x = (pC c n).2.2 := ⟨_, rfl⟩
    rw [← hc2] at hFp hlp hpc htl hgr hstep
    rw [← hfr, ← hto] at hpc hft hstep
    rw [← hto] at htl
    clear hfr hto hc2
    cases hlq : listC fu out (List.range' fr (to - fr)) c2.ns [] with
    | none => rw [hlq] at hstep; cases hstep
    | some lq =>
    rw [hlq] at hstep
    simp only at hstep
    have hstep := Option.some.inj hstep
    subst hstep
    have hc2N : c2.ns.length = N := by
      have h1 : lq.1.length = N := hIl1
      obtain ⟨_, h2, _⟩ := listC_keep (vr := c2.vr) (ps := c2.ps) _ hlq hFp fun p hp => by
        rw [List.mem_range'] at hp
        obtain ⟨i, hi, rfl⟩ := hp
        omega
      omega
    refine AWp.wk (wk_sub (s' := (7, AV.val (.i (n : Int))) :: (2, .bp 350002 0 []) :: (5, .bp 350003 0 []) :: obT N (c, out)) ⟨rfl, rfl, rfl, rfl, rfl, rfl, rfl, rfl, rfl, rfl, rfl, rfl, rfl, rfl, rfl, trivial⟩) ?_
    refine aB (aS (aR ?_))
    (refine nx (aLf (gN rfl) rfl rfl rfl rfl rfl rfl rfl rfl rfl rfl rfl rfl rfl) rfl ?_)
    (refine nx (aM (gN rfl) rfl rfl rfl rfl rfl) rfl ?_)
    (refine nx (a_callO (gN rfl) rfl rfl rfl rfl rfl (hpc) (by repeat (first | exact trivial | refine ⟨rfl, ?_⟩)) (by first | rfl | kernel_rfl) (by first | rfl | kernel_rfl) (by first | rfl | kernel_rfl) (by first | rfl | kernel_rfl) (hnb_of (by first | rfl | kernel_rfl))) (by kernel_rfl) ?_)
    (refine nx (aM (gN rfl) rfl rfl rfl rfl rfl) rfl ?_)
    (refine nx (aX (gN rfl) rfl rfl rfl rfl rfl rfl) rfl ?_)
    (refine nx (aX (gN rfl) rfl rfl rfl rfl rfl rfl) rfl ?_)
    (refine nx (aA (gN rfl) rfl rfl rfl rfl rfl) rfl ?_)
    (refine nx (aA (gN rfl) rfl rfl rfl rfl rfl) rfl ?_)
    show AWp _ _ _ _ _ _ _
    refine aS (aR ?_)
    (refine nx (aM (gN rfl) rfl rfl rfl rfl rfl) rfl ?_)
    (refine nx (aM (gN rfl) rfl rfl rfl rfl rfl) rfl ?_)
    (refine nx (a_sub (gN rfl) rfl rfl rfl rfl rfl rfl (by first | omega | (simp only [List.length_map, List.length_append, List.length_cons, List.length_nil] <;> omega) | (simp <;> omega))) rfl ?_)
    (refine nx (a_mk0 200031 (k := (to - fr)) (gN rfl) rfl rfl rfl rfl rfl rfl rfl rfl rfl rfl rfl rfl (by first | rfl | omega | (simp only [List.length_set, List.length_map, List.length_append, List.length_cons, List.length_nil] <;> omega) | (simp <;> omega)) (by first | rfl | omega | (simp only [List.length_set, List.length_map, List.length_append, List.length_cons, List.length_nil] <;> omega) | (simp <;> omega))) (by kernel_rfl) ?_)
    (refine nx (aA (gN rfl) rfl rfl rfl rfl rfl) rfl ?_)
    show AWp _ _ _ _ _ _ _
    refine aS (aS (aR ?_))
    (refine nx (aM (gN rfl) rfl rfl rfl rfl rfl) rfl ?_)
    (refine nx (aA (gN rfl) rfl rfl rfl rfl rfl) rfl ?_)
    show AWp _ _ _ _ _ _ _
    refine AWp.wk ((wk_sub (s' := (7, AV.val (.i (n : Int))) :: (2, .bp 350002 0 []) :: (5, .bp 350003 0 []) :: (9, .val (.i (to : Int))) :: (10, .sl 200031 0 0 2) :: (11, .val (.i (fr : Int))) :: (200031, .mrow 41 2 []) :: obT N (c2, out)) ⟨rfl, rfl, rfl, rfl, rfl, rfl, rfl, rfl, rfl, rfl, rfl, rfl, rfl, rfl, rfl, rfl, rfl, rfl, rfl, trivial⟩).trans (wk_renF 300001 400001 rfl rfl (hUno hU (by kernel_rfl)) (by kernel_rfl) (by kernel_rfl) (by kernel_rfl))) ?_
    obtain ⟨st, hst⟩ : ∃ st : Nat → List Nd → List Tm → AS, st = fun i ns1 ts => (7, AV.val (.i (n : Int))) :: (2, .bp 350002 0 []) :: (5, .bp 350003 0 []) :: (9, .val (.i (to : Int))) :: (10, .sl 200031 0 ts.length 2) :: (11, .val (.i ((fr + i : Nat) : Int))) :: (200031, .mrow 41 2 (ts.map Tm.cv)) :: obF N ⟨ns1, c2.vr, c2.ps⟩ out := ⟨_, rfl⟩
    refine aB (awp_loop (fun m s => ∃ i ns1 ts, i + m = to - fr ∧ listC fu out (List.range' (fr + i) m) ns1 ts = some lq ∧ FitU ⟨ns1, c2.vr, c2.ps⟩ ∧ ns1.length = N ∧ ts.length = i ∧ s = st i ns1 ts) (n := to - fr) (s' := st 0 c2.ns []) (by rw [hst]; exact wk_sub ⟨rfl, rfl, rfl, rfl, rfl, rfl, rfl, rfl, rfl, rfl, rfl, rfl, rfl, rfl, rfl, rfl, rfl, rfl, rfl, trivial⟩) ⟨0, c2.ns, [], by omega, hlq, hFp, hc2N, rfl, rfl⟩ ?_)
    rintro m s ⟨i2, ns1, ts, him, hlc, hF3, hl3, hts, rfl⟩
    rw [hst]
    refine aS (aS (aR ?_))
    (refine nx (aM (gN rfl) rfl rfl rfl rfl rfl) rfl ?_)
    (refine nx (aM (gN rfl) rfl rfl rfl rfl rfl) rfl ?_)
    (refine nx (a_lss (gN rfl) rfl rfl rfl rfl rfl rfl) rfl ?_)
    show AWp _ _ _ _ _ _ _
    cases m with
    | zero =>
      have hlc : some (ns1, ts) = some lq := hlc
      have hlc := Option.some.inj hlc
      subst hlc
      refine aC rfl (fun hc => ?_) (fun hc => ?_)
      · exfalso
        have : ((fr + i2 : Nat) : Int) < to := by simpa using hc
        omega
      refine aE ?_
      show AWp _ _ _ _ _ _ _
      obtain ⟨y, hy⟩ := nd_at (ns := ns1) (n := n) (by omega)
      have hy' := Nd.map_at hy
      have hlm : (ns1.map Nd.cv).length = ns1.length := List.length_map ..
      have hlo : (out.map Tm.cv).length = out.length := List.length_map ..
      obtain ⟨z, hz⟩ : ∃ z, out[n]? = some z := ⟨out[n]'(by omega), List.getElem?_eq_getElem (by omega)⟩
      have hz' := Tm.map_at hz
      have hyf : (nT ns1 n).f = y.t.f := by unfold nT; rw [getD_at hy]
      have htl' : (ts.map Tm.cv).length = ts.length := List.length_map ..
      refine AWp.wk (wk_frz 10 200031 rfl rfl rfl (.inr (by decide)) (by rw [htl']; omega) (s' := (7, AV.val (.i (n : Int))) :: (2, .bp 350002 0 []) :: (5, .bp 350003 0 []) :: obF N ⟨ns1, c2.vr, c2.ps⟩ out) ⟨rfl, rfl, rfl, rfl, rfl, rfl, rfl, rfl, rfl, rfl, rfl, rfl, rfl, rfl, rfl, trivial⟩ (by kernel_rfl)) ?_
      rw [List.drop_zero, List.take_of_length_le (by rw [htl']; omega)]
      refine aD (by kernel_rfl) (by kernel_rfl) ?_
      (refine nx (aLf (gN rfl) rfl rfl rfl rfl rfl rfl rfl rfl rfl rfl rfl rfl rfl) rfl ?_)
      (refine nx (aM (gN rfl) rfl rfl rfl rfl rfl) rfl ?_)
      (refine nx (aLf (gN rfl) rfl rfl rfl rfl rfl rfl rfl rfl rfl rfl rfl rfl rfl) rfl ?_)
      (refine nx (aNc (gN rfl) rfl rfl rfl rfl rfl) rfl ?_)
      (refine nx (aF (gN rfl) rfl rfl rfl rfl rfl rfl rfl rfl rfl) rfl ?_)
      (refine nx (aLf (gN rfl) rfl rfl rfl rfl rfl rfl rfl rfl rfl rfl rfl rfl rfl) rfl ?_)
      (refine nx (aM (gN rfl) rfl rfl rfl rfl rfl) rfl ?_)
      (refine nx (aIm (k := n) (gN rfl) rfl rfl rfl rfl rfl rfl rfl rfl rfl (by first | rfl | omega | (simp only [List.length_set, List.length_map, List.length_append, List.length_cons, List.length_nil] <;> omega) | (simp <;> omega))) rfl ?_)
      (refine nx (a_fieldM (gN rfl) rfl rfl rfl rfl rfl rfl rfl rfl rfl) rfl ?_)
      (refine nx (a_fieldM (gN rfl) rfl rfl rfl rfl rfl rfl rfl rfl rfl) rfl ?_)
      (refine nx (a_loadM (gN rfl) rfl rfl rfl rfl rfl rfl rfl rfl (hy') rfl (by first | rfl | omega | (simp only [List.length_set, List.length_map, List.length_append, List.length_cons, List.length_nil] <;> omega) | (simp <;> omega)) rfl rfl) rfl ?_)
      (refine nx (aM (gN rfl) rfl rfl rfl rfl rfl) rfl ?_)
      (refine nx (a_build (gN rfl) rfl rfl rfl rfl rfl rfl rfl rfl rfl rfl rfl) rfl ?_)
      (refine nx (aIm (k := n) (gN rfl) rfl rfl rfl rfl rfl rfl rfl rfl rfl (by first | rfl | omega | (simp only [List.length_set, List.length_map, List.length_append, List.length_cons, List.length_nil] <;> omega) | (simp <;> omega))) rfl ?_)
      (refine nx (a_storeM (gN rfl) rfl rfl rfl rfl rfl rfl (hz') rfl rfl (by first | rfl | omega | (simp only [List.length_set, List.length_map, List.length_append, List.length_cons, List.length_nil] <;> omega) | (simp <;> omega)) rfl) rfl ?_)
      refine ⟨by kernel_rfl, rfl, ?_⟩
      refine (wk_sub (s' := obF N ⟨ns1, c2.vr, c2.ps⟩ (out.set n ⟨(nT ns1 n).f, ts⟩)) ⟨rfl, rfl, rfl, rfl, ?_, rfl, rfl, rfl, rfl, rfl, rfl, rfl, trivial⟩).trans (wk_renF 400001 300001 rfl rfl (hUlow U (by decide)) (by kernel_rfl) (by kernel_rfl) (by kernel_rfl))
      rw [map_setT, hyf]; rfl
    | succ m =>
      have hp1 : fr + i2 < ns1.length := by omega
      rw [List.range'_succ, listC] at hlc
      cases hd2 : headC fu ns1 (fr + i2) with
      | none => rw [hd2] at hlc; cases hlc
      | some r2 =>
      rw [hd2] at hlc
      simp only at hlc
      obtain ⟨hF4, hl4, hr4⟩ := FitU.head hF3 hp1 hd2
      have hdc2 := uHead_abs c2.vr c2.ps fu ns1 (fr + i2) r2 hd2 hF3.up hp1 (by omega)
      have hcst : cstF ⟨r2.1, c2.vr, c2.ps⟩ = [(450001, .obj), (35500100, .sl 400001 0 ns1.length 5), (35500101, .mref 300003), (35500102, .sl 300002 0 c2.ps.length 2), (400001, .mrow 194 5 (r2.1.map Nd.cv)), (300003, .mp (c2.vr.map vrv)), (300002, .mrow 207 2 (c2.ps.map psv))] := by simp only [cstF, hl4]
      rw [hcst] at hdc2
      obtain ⟨z, hz⟩ : ∃ z, out[r2.2]? = some z := ⟨out[r2.2]'(by omega), List.getElem?_eq_getElem (by omega)⟩
      have hz' := Tm.map_at hz
      have hlo : (out.map Tm.cv).length = out.length := List.length_map ..
      have htl' : (ts.map Tm.cv).length = ts.length := List.length_map ..
      have htz := Tm.size_all ts
      have hgd : out.getD r2.2 tm0 = z := by rw [List.getD_eq_getElem?_getD, hz]; rfl
      rw [hgd] at hlc
      refine aC rfl (fun hc => ?_) (fun hc => ?_)
      case refine_2 =>
        have : ¬ ((fr + i2 : Nat) : Int) < to := by simpa using hc
        omega
      refine aK ?_
      show AWp _ _ _ _ _ _ _
      refine aS (aB (aD (by kernel_rfl) (by kernel_rfl) ?_))
      (refine nx (aM (gN rfl) rfl rfl rfl rfl rfl) rfl ?_)
      (refine nx (aLf (gN rfl) rfl rfl rfl rfl rfl rfl rfl rfl rfl rfl rfl rfl rfl) rfl ?_)
      (refine nx (aLf (gN rfl) rfl rfl rfl rfl rfl rfl rfl rfl rfl rfl rfl rfl rfl) rfl ?_)
      (refine nx (aM (gN rfl) rfl rfl rfl rfl rfl) rfl ?_)
      (refine nx (a_callOU ([(400001, .mrow 194 5 (r2.1.map Nd.cv))]) (gN rfl) rfl rfl rfl rfl rfl (hdc2) (by repeat (first | exact trivial | refine ⟨rfl, ?_⟩)) (by first | rfl | kernel_rfl) (by first | rfl | kernel_rfl) (by first | rfl | kernel_rfl) (by first | rfl | kernel_rfl) (hnb_of (by first | rfl | kernel_rfl)) (by repeat (first | exact trivial | refine ⟨rfl, ?_⟩)) (by repeat (first | exact trivial | refine ⟨.inl rfl, ?_⟩ | refine ⟨.inr rfl, ?_⟩)) (by first | rfl | kernel_rfl) (by first | rfl | kernel_rfl)) (by kernel_rfl) ?_)
      (refine nx (aIm (k := r2.2) (gN rfl) rfl rfl rfl rfl rfl rfl rfl rfl rfl (by first | rfl | omega | (simp only [List.length_set, List.length_map, List.length_append, List.length_cons, List.length_nil] <;> omega) | (simp <;> omega))) rfl ?_)
      (refine nx (a_loadM (gN rfl) rfl rfl rfl rfl rfl rfl rfl rfl (hz') rfl (by first | rfl | omega | (simp only [List.length_set, List.length_map, List.length_append, List.length_cons, List.length_nil] <;> omega) | (simp <;> omega)) rfl rfl) rfl ?_)
      (refine nx (a_bslice (gN rfl) rfl rfl rfl rfl rfl rfl rfl rfl rfl rfl rfl rfl rfl) rfl ?_)
      (refine nx (a_appM 200046 (gN rfl) rfl rfl rfl rfl rfl rfl rfl rfl rfl rfl rfl rfl rfl (by first | rfl | omega | (simp only [List.length_set, List.length_map, List.length_append, List.length_cons, List.length_nil] <;> omega) | (simp <;> omega)) (by first | assumption | exact sZ rfl | exact Tm.size_all _ | exact Bd.size_all _ | exact ints_size _ | exact bys_size _ | exact Lt.size_all _) (by first | omega | (simp only [List.length_map, List.length_append, List.length_cons, List.length_nil] <;> omega) | (simp <;> omega))) (by kernel_rfl) ?_)
      (refine nx (aA (gN rfl) rfl rfl rfl rfl rfl) rfl ?_)
      refine ⟨by kernel_rfl, ?_⟩
      show AWp _ _ _ _ _ _ _
      refine aR ?_
      (refine nx (aM (gN rfl) rfl rfl rfl rfl rfl) rfl ?_)
      (refine nx (a_add (gN rfl) rfl rfl rfl rfl rfl rfl (by first | omega | (simp only [List.length_map, List.length_append, List.length_cons, List.length_nil] <;> omega) | (simp <;> omega))) rfl ?_)
      (refine nx (aA (gN rfl) rfl rfl rfl rfl rfl) rfl ?_)
      refine ⟨m, st (i2 + 1) r2.1 (ts ++ [z]), by omega, ⟨i2 + 1, r2.1, ts ++ [z], by omega, by rw [show fr + (i2 + 1) = fr + i2 + 1 by omega]; exact hlc, hF4, by omega, by rw [List.length_append]; simp; omega, by rw [hst]⟩, ?_⟩
      rw [hst]
      refine (wk_sub (s' := (7, AV.val (.i (n : Int))) :: (2, .bp 350002 0 []) :: (5, .bp 350003 0 []) :: (9, .val (.i (to : Int))) :: (10, .sl 200046 0 (ts ++ [z]).length 2) :: (11, .val (.i ((fr + (i2 + 1) : Nat) : Int))) :: (200046, .mrow 41 2 ((ts ++ [z]).map Tm.cv)) :: obF N ⟨r2.1, c2.vr, c2.ps⟩ out) ⟨rfl, rfl, rfl, rfl, ?_, rfl, ?_, rfl, rfl, rfl, rfl, rfl, rfl, ?_, rfl, rfl, rfl, rfl, rfl, trivial⟩).trans (wk_ren 200046 200031 rfl rfl (by kernel_rfl) (by kernel_rfl))
      · rw [List.length_append, ← htl']; rfl
      · rw [List.map_append, List.map_singleton, Tm.cv_eq]; rfl
      · show _ = some (AV.sl 400001 0 r2.1.length 5); rw [hl4]; rfl
  · rintro e s' g ⟨rfl, rfl⟩
    rw [hxlen, hend]
    refine ⟨rfl, rfl, ?_⟩
    refine aS (aR ?_)
    (refine nx (aLf (gN rfl) rfl rfl rfl rfl rfl rfl rfl rfl rfl rfl rfl rfl rfl) rfl ?_)
    (refine nx (aA (gN rfl) rfl rfl rfl rfl rfl) rfl ?_)
    show AWp _ _ _ _ _ _ _
    refine aT ⟨⟨.inr rfl, [(4, AV.sl 300005 0 N 2), (300005, .mrow 41 2 (q.2.map Tm.cv))] ++ cstM q.1, ?_, rfl, ⟨rfl, rfl, rfl, rfl, rfl, rfl, rfl, rfl, trivial⟩, rfl⟩, rfl⟩
    exact wk_sub ⟨rfl, rfl, rfl, rfl, rfl, rfl, rfl, rfl, rfl, rfl, trivial⟩
end Go.Proofs.YteegmcfobgpemaaGreat
namespace Go.Proofs.YteegmcfobgpemaaGreat
open Go.RowKit Go.MapKept
open Go.ChangeMaps (setBlock)
set_option linter.unusedVariables false
set_option linter.unusedSimpArgs false
section
variable {P : Program} {w0 : World} {U0 : UX} {nt : Nat} {ops : Array Oper} {o : Oper} {S : Nat → Option AV} {gs : List Nat} {d : Nat} {s : AS} {a : Act} {w : World} {D : Nat → Nat → Prop} {hv : Nat → Value}

abbrev AV.stm (l : List CV) (b clock : Nat) (bs : List Nat) : AV := ⟨22, .lst l, 0, 0, b :: clock :: bs⟩
abbrev AV.itr (b since c0 : Nat) (seen : List Nat) : AV := ⟨21, .row [], 0, 0, b :: since :: c0 :: seen⟩

theorem SimG.retag (h : SimG w0 U0 nt s a w D hv) {n : Nat} (hok : oKey n) {av0 av : AV} (hs : look s n = some av0) (h6 : av0.t ≠ 6) (h7 : av0.t ≠ 7) (h9 : av0.t ≠ 9) (g6 : av.t ≠ 6) (g7 : av.t ≠ 7) (g9 : av.t ≠ 9) (hoc : OC (Us w0 U0 D) w hv (LiveN s) av (hv n)) : SimG w0 U0 nt ((n, av) :: s) a w D hv := by
  have hok' := hok
  unfold oKey at hok'
  have hlk : ∀ {k}, k ≠ n → look ((n, av) :: s) k = look s k := fun {k} hk => lN (Ne.symm hk)
  have hl : ∀ m e, Live ((n, av) :: s) m e ↔ Live s m e := fun m e => by
    unfold Live
    by_cases e1 : m = n
    · subst e1
      rw [lS, hs]
      constructor
      · rintro ⟨h1, _⟩; injection h1 with h1; rw [h1] at g6; exact absurd rfl g6
      · rintro ⟨h1, _⟩; injection h1 with h1; rw [h1] at h6; exact absurd rfl h6
    · rw [hlk e1]
  have hl2 : LiveN ((n, av) :: s) = LiveN s := by funext k; simp only [LiveN, hl]
  refine ⟨h.below, h.dfr, h.size, fun d' av' h1 h2 => ?_, fun m o' av' h1 h2 h3 h4 => ?_, fun m o1 o2 av1 av2 h1 h2 => ?_, fun k av' h1 h2 => ?_, fun k av' g h1 h2 h3 h4 => ?_, fun k k' av1 av2 g h1 h2 h3 h4 h5 h8 h10 => ?_, h.fix, h.dlt⟩
  · rw [hlk (by omega)] at h1; rw [hl2]; exact h.slot d' av' h1 h2
  · rw [hlk (by unfold fKey; omega)] at h1
    have hne : 100000 + m ≠ n := fun e => by rw [e, lS] at h3; injection h3 with h3; rw [h3] at g9; exact absurd rfl g9
    rw [hlk hne] at h3
    rw [hl2]
    exact h.fld m o' av' h1 h2 h3 h4
  · rw [hlk (by unfold fKey; omega)] at h1 h2
    exact h.fdis m o1 o2 av1 av2 h1 h2
  · rw [hl2]
    by_cases e1 : k = n
    · subst e1; rw [lS] at h1; cases h1; exact hoc
    · rw [hlk e1] at h1; exact h.obj k av' h1 h2
  · by_cases e1 : k = n
    · subst e1
      rw [lS] at h1; cases h1
      obtain ⟨f1, f2, f3⟩ := h.blk k av0 g hs h2 h7 h4
      refine ⟨?_, f2, fun o ho hd => f3 o (fun e => absurd e h6) hd⟩
      unfold Mn lcl at f1 ⊢
      rcases f1 with f1 | ⟨f1, f1'⟩
      · exact .inl f1
      · refine .inr ⟨?_, f1'⟩
        cases e2 : Nat.blt k 300000 with
        | true => rw [e2] at f1; exact absurd rfl f1
        | false => exact g6
    · rw [hlk e1] at h1; exact h.blk k av' g h1 h2 h3 h4
  · have conv : ∀ q (aq : AV), look ((n, av) :: s) q = some aq → aq.t ≠ 7 → ∃ aq', look s q = some aq' ∧ aq'.t ≠ 7 := fun q aq f1 f2 => by
      by_cases e1 : q = n
      · subst e1; exact ⟨av0, hs, h7⟩
      · rw [hlk e1] at f1; exact ⟨aq, f1, f2⟩
    obtain ⟨a1, b1, c1⟩ := conv k av1 h1 h5
    obtain ⟨a2, b2, c2⟩ := conv k' av2 h2 h8
    exact h.disj k k' a1 a2 g b1 b2 h3 h4 c1 c2 h10
theorem AWp.stamps {c : Code} {Q : Exit → AS → Prop} (n : Nat) {l : List CV} (hn : (Nat.ble 200000 n && Nat.blt n 450000) = true) (hm : look s n = some (.mp l)) (h : ∀ b clock bs, bs.length = l.length → bs.Nodup → (∀ x ∈ bs, x < clock) → AWp P w0 U0 nt c Q ((n, .stm l b clock bs) :: s)) : AWp P w0 U0 nt c Q s := by
  intro M a w ⟨D, hv, hS⟩
  have hrn := rnF hn
  have hok : oKey n := by unfold RN at hrn; unfold oKey; omega
  obtain ⟨g, es, clock, g1, g2, g3, g4, g5⟩ : ∃ g es clock, hv n = .map (some g) ∧ w.heap[g]? = some (.map es clock) ∧ Ents (Us w0 U0 D) w l es.toList ∧ (∀ e ∈ es, e.born < clock) ∧ (es.toList.map (fun e : MapEntry => e.born)).Nodup := hS.obj n _ hm hok
  refine h g clock (es.toList.map (fun e : MapEntry => e.born)) (by rw [List.length_map, ents_len g3]) g5 (fun x hx => ?_) M a w ⟨D, hv, hS.retag hok hm (fun e => by cases e) (fun e => by cases e) (fun e => by cases e) (fun e => by cases e) (fun e => by cases e) (fun e => by cases e) ?_⟩
  · obtain ⟨e, he, rfl⟩ := List.mem_map.1 hx
    exact g4 e (by simpa using he)
  · exact ⟨⟨(fun e => by cases e), (fun e => by cases e)⟩, (fun e => by cases e), (fun e => by cases e), fun _ => ⟨g, clock, es, g1, rfl, g2, g3, g4, g5⟩⟩
theorem wk_unstm (n : Nat) {l : List CV} {b clock : Nat} {bs : List Nat} (hn : (Nat.ble 200000 n && Nat.blt n 450000) = true) (hm : look s n = some (.stm l b clock bs)) : Wk w0 U0 nt s ((n, .mp l) :: s) := by
  rintro a w ⟨D, hv, hS⟩
  have hrn := rnF hn
  have hok : oKey n := by unfold RN at hrn; unfold oKey; omega
  obtain ⟨g, ck, es, g1, g2, g3, g4, g5, g6⟩ := (show OX _ _ _ _ from hS.obj n _ hm hok).2.2.2 rfl
  exact ⟨D, hv, hS.retag hok hm (fun e => by cases e) (fun e => by cases e) (fun e => by cases e) (fun e => by cases e) (fun e => by cases e) (fun e => by cases e) ⟨g, es, ck, g1, g3, g4, g5, g6⟩⟩

theorem a_rangeM (nn : Nat) (hg : Gd w0 U0 nt ops o gs S) (hd : o.dst = some d) (hn : Nat.blt d nt = true) (h5 : Nat.blt d 100000 = true) {x : Operand} {t kt et : TypeId} {n b clock : Nat} {l : List CV} {bs : List Nat} (ho : o.op = .range t x) (hu : P.underlying t = some (.map kt et)) (hx : ev S x = some (.mref n)) (hm' : S n = some (.stm l b clock bs)) (hn2 : (Nat.ble 200000 nn && Nat.blt nn 400000) = true) : AOp P w0 U0 nt ops o (gs ++ (rd x ++ [n])) [(nn, [])] S [(d, .mref nn), (nn, .itr b clock clock [])] := by
  intro s hs hN a w ⟨D, hv, h⟩ Q K hK
  rw [if_pos (hg s (fun k hk => hs k (List.mem_append_left _ hk)) a w D hv h)]
  have hrn := rnB hn2
  obtain ⟨hrm, h1, _⟩ : RN n ∧ a.eval x = hv n ∧ (a.eval x).oneCell' = true := ev_rep h (fun k hk => hs k (List.mem_append_right _ (List.mem_append_left _ hk))) hx
  have hok : oKey n := by unfold RN at hrm; unfold oKey; omega
  obtain ⟨g, ck, es, g1, g2, g3, g4, g5, g6⟩ := (show OX _ _ _ _ from h.obj n _ ((hs n (by simp)).trans hm') hok).2.2.2 rfl
  have hbb : b = g ∧ clock = ck := by
    have g2 : b :: clock :: bs = g :: ck :: es.toList.map (·.born) := g2
    injection g2 with g2 g2'
    injection g2' with g2'
    exact ⟨g2, g2'⟩
  obtain ⟨rfl, rfl⟩ := hbb
  rw [g1] at h1
  have he : (execOp a.eval o).run P w = .ok (.value (.pointer (some ⟨w.heap.size, 0, none⟩))) (w.alloc (.mapIter (some b) clock #[] clock)) := by
    have hge := Go.MapKept.run_getObj_map (P := P) g3
    generalize a.eval = ρ at h1 ⊢
    simp [execOp, ho, Instr.range, run_underlying hu, h1, hge, run_newObj_alloc]
  unfold Oper.wp
  rw [he, Oper.upon_value, hd]
  have hb' : Below w.heap.size w (w.alloc (.mapIter (some b) clock #[] clock)) := (Below.refl _ _).alloc (Nat.le_refl _) _
  have hG := h.newrow (X := fun _ => False) (avn := .itr b clock clock []) (v' := .pointer (some ⟨w.heap.size, 0, none⟩)) (D' := D) hrn (hN (nn, []) (by simp)).nr (fun e => by cases e) ((BelowX.refl _ w).step hb') (fun b hb => hb.elim) (fun g hg => by
      have hg : some w.heap.size = some g := hg
      cases hg
      refine ⟨.inr (Nat.le_refl _), by simp, fun o _ hd => ?_⟩
      have := h.dlt _ _ hd
      omega) (fun b o hd => .inl hd) (fun b o hd => Nat.lt_of_lt_of_le (h.dlt _ _ hd) hb'.size) (us_keep h.dlt hb' fun _ _ h => h) (fun hv lv => ⟨⟨(fun e => by cases e), (fun e => by cases e)⟩, (fun e => by cases e), fun _ => ⟨w.heap.size, b, clock, clock, [], rfl, rfl, alloc_new _ _⟩, (fun e => by cases e)⟩)
  refine hK _ _ ⟨_, _, hG.put (bL hn) (bL h5) ⟨RW.rn hrn, ?_, rfl⟩⟩
  simp
theorem a_entryM (hg : Gd w0 U0 nt ops o gs S) (hd : o.dst = some d) (hn : Nat.blt d nt = true) (h5 : Nat.blt d 100000 = true) {x : Operand} {n nn b since clock j z : Nat} {k : IntKind} {i : Int} {vc : CV} {l : List CV} {bs seen : List Nat} (ho : o.op = .entry x) (hx : ev S x = some (.mref nn)) (hI : S nn = some (.itr b since clock (seen ++ [z]))) (hm' : S n = some (.stm l b clock bs)) (hrn : (Nat.ble 200000 n && Nat.blt n 450000) = true) (hz : bs[j]? = some z) (hl : l[j]? = some (.row [.sc (.int k i), vc])) : AOp P w0 U0 nt ops o (gs ++ (rd x ++ [nn, n])) [] S [(d, .tup [.sc (.int k i), vc])] :=
  aop_val hg hd hn h5 (fun k hk => List.mem_append_left _ hk) fun s hs a w D hv hm => by
    obtain ⟨hrm, h1, _⟩ : RN nn ∧ a.eval x = hv nn ∧ (a.eval x).oneCell' = true := ev_rep hm (fun k hk => hs k (List.mem_append_right _ (List.mem_append_left _ hk))) hx
    have hok : oKey nn := by unfold RN at hrm; unfold oKey; omega
    have hrn := rnF hrn
    have hok2 : oKey n := by unfold RN at hrn; unfold oKey; omega
    obtain ⟨r, b1, s1, c1, seen1, f1, f2, f3⟩ := (show OX _ _ _ _ from hm.obj nn _ ((hs nn (by simp)).trans hI) hok).2.2.1 rfl
    obtain ⟨g, ck, es, g1, g2, g3, g4, g5, g6⟩ := (show OX _ _ _ _ from hm.obj n _ ((hs n (by simp)).trans hm') hok2).2.2.2 rfl
    have f2 : b :: since :: clock :: (seen ++ [z]) = b1 :: s1 :: c1 :: seen1 := f2
    injection f2 with f2 f2'
    injection f2' with f2' f2''
    injection f2'' with f2'' f2'''
    subst f2; subst f2'; subst f2''; subst f2'''
    have g2 : b :: clock :: bs = g :: ck :: es.toList.map (·.born) := g2
    injection g2 with g2 g2'
    injection g2' with g2' g2''
    subst g2; subst g2'; subst g2''
    obtain ⟨e, e1, e2⟩ := ents_at g4 hl
    have hez : e.born = z := by rw [List.getElem?_map, e1] at hz; injection hz
    have hr : w.heap[r]? = some (.mapIter (some b) since (seen.toArray.push e.born) clock) := by rw [f3, hez]; simp
    have hrun := run_entry_at (P := P) w r b since seen.toArray es clock e hr g3 (List.mem_of_getElem? e1) g6
    rw [f1] at h1
    obtain ⟨kc, vc', j1, j2, j3, j4⟩ := e2
    injection j1 with _ _ j1
    injection j1 with j1 j1'
    injection j1' with j1'
    subst j1; subst j1'
    refine ⟨.tuple #[e.key, e.val], ?_, [e.key, e.val], rfl, e.key, [e.val], rfl, ?_, e.val, [], rfl, j4, rfl⟩
    · generalize a.eval = ρ at h1 ⊢
      simp [execOp, ho, h1, hrun]
    · rw [j3]; exact vrep_sc.2 ⟨rfl, rfl⟩
theorem awp_nextM {id d1 : Nat} {o1 : Oper} {l2 : List Oper} {Q : Exit → AS → Prop} {it : Operand} {n nn b since c0 clock : Nat} {l : List CV} {bs seen : List Nat} {k : IntKind} (hd1 : o1.dst = some d1) (ho1 : o1.op = .next it false) (hg1 : o1.guard = none) (hn1 : Nat.blt d1 nt = true) (h51 : Nat.blt d1 100000 = true) (hit : ev (look s) it = some (.mref nn)) (hI : look s nn = some (.itr b since c0 seen)) (hM : look s n = some (.stm l b clock bs)) (hrn : (Nat.ble 200000 n && Nat.blt n 450000) = true) (hik : IntKeys k l) (hsince : ∀ x ∈ bs, x < since) (hsc : since ≤ c0)
    (hend : (∀ x ∈ bs, x ∈ seen) → Run P w0 U0 nt (o1 :: l2).toArray l2 ((d1, .tup [.b false]) :: s) [] fun s' _ => Q .normal s')
    (hgo : ∀ (j x : Nat) (i : Int) (vc : CV), bs[j]? = some x → l[j]? = some (.row [.sc (.int k i), vc]) → x ∉ seen → Run P w0 U0 nt (o1 :: l2).toArray l2 ((d1, .tup [.b true, .sc (.int k i), vc]) :: (nn, .itr b since clock (seen ++ [x])) :: s) [] fun s' _ => Q .normal s') :
    AWp P w0 U0 nt (.region id (o1 :: l2).toArray false) Q s := by
  intro M a w ⟨D, hv, h⟩
  refine wpIn_region_lit ?_
  have hrn := rnF hrn
  have hok2 : oKey n := by unfold RN at hrn; unfold oKey; omega
  obtain ⟨hrm, h1, _⟩ : RN nn ∧ a.eval it = hv nn ∧ (a.eval it).oneCell' = true := ev_rep h (fun k _ => rfl) hit
  have hok : oKey nn := by unfold RN at hrm; unfold oKey; omega
  obtain ⟨r, b1, s1, c1, seen1, f1, f2, f3⟩ := (show OX _ _ _ _ from h.obj nn _ hI hok).2.2.1 rfl
  obtain ⟨g, ck, es, g1, g2, g3, g4, g5, g6⟩ := (show OX _ _ _ _ from h.obj n _ hM hok2).2.2.2 rfl
  have f2 : b :: since :: c0 :: seen = b1 :: s1 :: c1 :: seen1 := f2
  injection f2 with f2 f2'
  injection f2' with f2' f2''
  injection f2'' with f2'' f2'''
  subst f2; subst f2'; subst f2''; subst f2'''
  have g2 : b :: clock :: bs = g :: ck :: es.toList.map (·.born) := g2
  injection g2 with g2 g2'
  injection g2' with g2' g2''
  subst g2; subst g2'; subst g2''
  rw [f1] at h1
  unfold wpListIn
  rw [if_pos (by simp [Region.wanted, hg1])]
  refine ⟨fun _ _ => trivial, ?_⟩
  rw [wd_eval, Oper.semAt_eq _ _ _ (fun c hc => by rw [ho1] at hc; cases hc)]
  have hold : ∀ x ∈ es.toList, x.born < since := fun x hx => hsince _ (List.mem_map.2 ⟨x, hx, rfl⟩)
  rcases run_next_at (P := P) w o1.type r b since c0 seen.toArray es clock f3 g3 hold hsc with ⟨e0, e1⟩ | ⟨e, he, w1, hw1, e1⟩
  · have hrun : (execOp a.eval o1).run P w = .ok (.value (.tuple #[.bool false])) w := by
      generalize a.eval = ρ at h1 ⊢
      simp [execOp, ho1, h1, e1]
    rw [hrun]
    show wpListIn _ _ _ _ _ _ _ _
    rw [hd1, ← wd_put]
    refine run_list (hend fun x hx => ?_) (fun s' t' a w h1 h2 => ⟨a, rfl, s', h1, h2⟩) _ _ ⟨D, hv, h.put (bL hn1) (bL h51) ⟨[.bool false], rfl, .bool false, [], rfl, vrep_sc.2 ⟨rfl, rfl⟩, rfl⟩⟩
    obtain ⟨e, he, rfl⟩ := List.mem_map.1 hx
    apply Classical.byContradiction
    intro hns
    have hmem : e ∈ leftOf es seen.toArray := by
      unfold leftOf
      simp
      exact ⟨by simpa using he, hns⟩
    have := Array.size_pos_of_mem hmem
    omega
  · have hrun : (execOp a.eval o1).run P w = .ok (.value (.tuple #[.bool true, e.key, e.val])) (setBlock w1 r (.mapIter (some b) since (seen.toArray.push e.born) clock)) := by
      generalize a.eval = ρ at h1 ⊢
      simp [execOp, ho1, h1, e1]
    rw [hrun]
    show wpListIn _ _ _ _ _ _ _ _
    rw [hd1, ← wd_put]
    have he2 : e ∈ es.toList ∧ e.born ∉ seen := by
      unfold leftOf at he
      simp at he
      exact ⟨by simpa using he.1, he.2⟩
    obtain ⟨j, hj⟩ := List.getElem?_of_mem he2.1
    have hlj : ∃ c, l[j]? = some c ∧ Ent (Us w0 U0 D) w c e := by
      have hlen := ents_len g4
      have hjl : j < l.length := by
        rcases Nat.lt_or_ge j es.toList.length with h | h
        · rw [← hlen]; exact h
        · rw [List.getElem?_eq_none h] at hj; cases hj
      obtain ⟨e', k1, k2⟩ := ents_at g4 (List.getElem?_eq_getElem hjl)
      rw [hj] at k1
      cases k1
      exact ⟨_, List.getElem?_eq_getElem hjl, k2⟩
    obtain ⟨c, hc, hce⟩ := hlj
    obtain ⟨i, vc, rfl⟩ := hik c (List.mem_of_getElem? hc)
    obtain ⟨kc, vc', j1, j2, j3, j4⟩ := hce
    injection j1 with _ _ j1
    injection j1 with j1 j1'
    injection j1' with j1'
    subst j1; subst j1'
    have h2 : SimG w0 U0 nt s a w1 D hv := by
      rcases hw1 with rfl | rfl
      · exact h
      · exact h.grow' (Below.drew (Below.refl _ _))
    have hheap : w1.heap = w.heap := by rcases hw1 with rfl | rfl <;> rfl
    have hrlt : r < w1.heap.size := by rw [hheap]; exact (Array.getElem?_eq_some_iff.1 f3).1
    have h3 := h2.upd (av := .itr b since clock (seen ++ [e.born])) (w' := setBlock w1 r (.mapIter (some b) since (seen.toArray.push e.born) clock)) hok hI (fun e => by cases e) (fun e => by cases e) rfl (fun g hh o ho => hh o fun e => by cases e) (fun e => by cases e) (g := r) (by rw [f1]; rfl) rfl rfl rfl (by simp [setBlock]) (fun q hq => by simp [setBlock, Array.getElem?_setIfInBounds_ne (Ne.symm hq)]) fun hkp => ⟨⟨(fun e => by cases e), (fun e => by cases e)⟩, (fun e => by cases e), fun _ => ⟨r, b, since, clock, seen ++ [e.born], f1, rfl, by simp [setBlock, hrlt]⟩, (fun e => by cases e)⟩
    have hval : VRep (Us w0 U0 D) (setBlock w1 r (.mapIter (some b) since (seen.toArray.push e.born) clock)) vc e.val := by
      refine j4.keep fun b' o' u hu hcell => ⟨hu, ?_⟩
      have hne : b' ≠ r := fun e => by
        subst e
        simp [World.cell?, f3] at hcell
      rw [World.cell?_of_block (w := w) (w' := setBlock w1 r _) (by simp [setBlock, Array.getElem?_setIfInBounds_ne (Ne.symm hne), hheap])]
      exact hcell
    refine run_list (hgo j e.born i vc (by rw [List.getElem?_map, hj]; rfl) hc he2.2) (fun s' t' a w h1 h2 => ⟨a, rfl, s', h1, h2⟩) _ _ ⟨D, hv, h3.put (bL hn1) (bL h51) ⟨[.bool true, e.key, e.val], rfl, .bool true, _, rfl, vrep_sc.2 ⟨rfl, rfl⟩, e.key, _, rfl, ?_, e.val, [], rfl, hval, rfl⟩⟩
    rw [j3]; exact vrep_sc.2 ⟨rfl, rfl⟩
end
end Go.Proofs.YteegmcfobgpemaaGreat
namespace Go.Proofs.YteegmcfobgpemaaGreat
open Go.RowKit Go.MapKept
set_option linter.unusedVariables false
set_option linter.unusedSimpArgs false
def AFunE {Sg : Type} (P : Program) (f : FuncId) (pre : AS) (args : List AV) (R : Sg → Prop) (r : Sg → AV) (post : Sg → AS) : Prop :=
  EntF P f ∧ ∀ (U : UX) (w : World) (hv : Nat → Value) (a0 : Act) (vs : List Value), (∀ k v, U.f k = some v → hasN (kO pre) k = true) → SimG w U 0 pre a0 w (fun _ _ => False) hv → AVReps (Us w U (fun _ _ => False)) w hv (LiveN pre) args vs →
    Calls P f vs.toArray w fun e w' => ∃ σ, R σ ∧ ∃ v D' hv' a', e = .returned v ∧ SimG w U 0 (post σ) a' w' D' hv' ∧ AVRep (Us w U D') w' hv' (LiveN (post σ)) (r σ) v
section
variable {P : Program} {w0 : World} {U0 : UX} {nt : Nat} {ops : Array Oper} {o : Oper} {S : Nat → Option AV} {gs : List Nat} {d : Nat} {s : AS} {a : Act} {w : World} {D : Nat → Nat → Prop} {hv : Nat → Value}

theorem afunE_of {Sg : Type} {R : Sg → Prop} {r : Sg → AV} {post : Sg → AS} {f : FuncId} {fn : Func} {c : Code} {pre : AS} {args : List AV} (hf : P.funcs[f]? = some fn) (hn : fn.ntmps = nt) (hname : (fn.name == "runtime.NumGoroutine") = false) (hb : fn.body = some c) (hl : Nat.ble args.length nt = true) (hnt : Nat.blt nt 100000 = true) (hpre : (kO pre).all (Nat.ble 100000) = true) (hpost : ∀ σ, (kO (post σ)).all (Nat.ble 100000) = true)
    (h : ∀ (w : World) (U : UX), (∀ k v, U.f k = some v → hasN (kO pre) k = true) → AWp P w U nt c (fun e s' => (e = .normal ∨ e = .ret) ∧ ∃ σ, R σ ∧ EndO P w U nt fn s' (r σ) (post σ)) (argA args 0 ++ pre)) : AFunE P f pre args R r post := by
  refine ⟨ent_of hf hname (by rw [hb]; rfl), fun U w hv a0 vs hU hpS hargs => ?_⟩
  have hlen := hargs.len
  refine calls_of_wp hf hb ?_
  have hle := Nat.le_of_ble_eq_true hl
  have hnt := bL hnt
  have hlow : ∀ {k av}, look pre k = some av → 100000 ≤ k := fun {k av} h1 => by
    rw [List.all_eq_true] at hpre
    exact Nat.le_of_ble_eq_true (hpre k (mem_keys h1))
  have hlk : ∀ {k}, 100000 ≤ k → look (argA args 0 ++ pre) k = look pre k := fun {k} h1 => by
    rw [look_append]
    cases h2 : look (argA args 0) k with
    | none => rfl
    | some av =>
      obtain ⟨_, h3⟩ := look_argA h2
      rw [Nat.sub_zero, List.getElem?_eq_none (by omega)] at h3
      cases h3
  have hlive : LiveN (argA args 0 ++ pre) = LiveN pre := by
    funext n
    unfold LiveN Live
    apply propext
    constructor
    · rintro (h1 | ⟨e, h1, h2, h3⟩)
      · exact .inl h1
      · rw [hlk (by omega)] at h1; exact .inr ⟨e, h1, h2, h3⟩
    · rintro (h1 | ⟨e, h1, h2, h3⟩)
      · exact .inl h1
      · exact .inr ⟨e, by rw [hlk (by omega)]; exact h1, h2, h3⟩
  have hs : Sim w U nt (argA args 0 ++ pre) { tmps := vs.toArray ++ Array.replicate (fn.ntmps - vs.toArray.size) undef, defers := [] } w := by
    refine ⟨fun _ _ => False, hv, hpS.below, rfl, by simp [hn]; omega, fun d av h1 h2 => ?_, fun n o av h1 h2 h3 h4 => ?_, fun n o o' av av' h1 h2 => ?_, fun k av h1 h2 => ?_, fun k av g h1 h2 => ?_, fun k k' av av' g h1 h2 h3 h4 => ?_, hpS.fix, fun b o hd => hd.elim⟩
    · rw [look_append] at h1
      cases h3 : look (argA args 0) d with
      | none =>
        rw [h3] at h1
        have := hlow h1
        omega
      | some av' =>
        rw [h3] at h1
        cases h1
        obtain ⟨_, h4⟩ := look_argA h3
        rw [Nat.sub_zero] at h4
        obtain ⟨v, h6, h7⟩ := hargs.at h4
        have hdl : d < vs.length := by
          rcases Nat.lt_or_ge d vs.length with h | h
          · exact h
          · rw [List.getElem?_eq_none h] at h6; cases h6
        rw [hlive]
        refine ⟨v, ?_, h7⟩
        rw [Array.getElem?_append_left (by simpa using hdl)]
        simpa using h6
    · rw [hlk (by unfold fKey; omega)] at h1
      rw [hlk (by omega)] at h3
      rw [hlive]
      exact hpS.fld n o av h1 h2 h3 h4
    · rw [hlk (by unfold fKey; omega)] at h1 h2
      exact hpS.fdis n o o' av av' h1 h2
    · rw [hlk h2.1] at h1; rw [hlive]; exact hpS.obj k av h1 h2
    · rw [hlk h2.1] at h1; exact hpS.blk k av g h1 h2
    · rw [hlk h3.1] at h1; rw [hlk h4.1] at h2; exact hpS.disj k k' av av' g h1 h2 h3 h4
  refine wp_mono ((h w U hU ⟨none, []⟩ _ w hs).wp rfl (fun e a w ⟨s, _, h⟩ => h.df)) ?_
  rintro e a' w' ⟨s', ⟨h1, σ, hσ, s2, g1, g2, g3⟩, h3⟩
  obtain ⟨D', hv', h4⟩ := g1 a' w' h3
  obtain ⟨v, h5, h6⟩ := resA_run h4 g2
  have hS := h4.sub g3.sub
  have hpost := hpost σ
  have hlow2 : ∀ {k av}, look (post σ) k = some av → 100000 ≤ k := fun {k av} h1 => by
    rw [List.all_eq_true] at hpost
    exact Nat.le_of_ble_eq_true (hpost k (mem_keys h1))
  have hS0 : SimG w U 0 (post σ) ⟨#[], []⟩ w' D' hv' := ⟨hS.below, rfl, rfl, fun d av h7 h8 => by have := hlow2 h7; omega, hS.fld, hS.fdis, hS.obj, hS.blk, hS.disj, hS.fix, hS.dlt⟩
  rcases h1 with rfl | rfl
  · exact ⟨h4.dfr, v, h5, σ, hσ, v, D', hv', _, rfl, hS0, h6.move (fun _ _ _ h1 h2 => ⟨h1, h2⟩) (fun _ h7 => h7.imp id fun ⟨e, he⟩ => ⟨e, g3.sub _ _ he.1, he.2⟩) fun _ => rfl⟩
  · exact ⟨h4.dfr, v, h5, σ, hσ, v, D', hv', _, rfl, hS0, h6.move (fun _ _ _ h1 h2 => ⟨h1, h2⟩) (fun _ h7 => h7.imp id fun ⟨e, he⟩ => ⟨e, g3.sub _ _ he.1, he.2⟩) fun _ => rfl⟩
theorem a_lenMp (hg : Gd w0 U0 nt ops o gs S) (hd : o.dst = some d) (hn : Nat.blt d nt = true) (h5 : Nat.blt d 100000 = true) {x : Operand} {ts : Array TypeId} {t kt et : TypeId} {n : Nat} {l : List CV} (ho : o.op = .call { callee := .builtin .len, args := #[x], argTypes := ts }) (ht : ts[0]? = some t) (hu : P.underlying t = some (.map kt et)) (hx : ev S x = some (.mref n)) (hm' : S n = some (.mp l)) : AOp P w0 U0 nt ops o (gs ++ (rd x ++ [n])) [] S [(d, .val (.i l.length))] :=
  aop_val hg hd hn h5 (fun k hk => List.mem_append_left _ hk) fun s hs a w D hv hm => by
    obtain ⟨hrn, h1, _⟩ : RN n ∧ a.eval x = hv n ∧ (a.eval x).oneCell' = true := ev_rep hm (fun k hk => hs k (List.mem_append_right _ (List.mem_append_left _ hk))) hx
    have hok : oKey n := by unfold RN at hrn; unfold oKey; omega
    obtain ⟨g, es, clock, g1, g2, g3, g4, g5⟩ : ∃ g es clock, hv n = .map (some g) ∧ w.heap[g]? = some (.map es clock) ∧ Ents (Us w0 U0 D) w l es.toList ∧ (∀ e ∈ es, e.born < clock) ∧ (es.toList.map (fun e : MapEntry => e.born)).Nodup := hm.obj n _ ((hs n (by simp)).trans hm') hok
    rw [g1] at h1
    have hge := Go.MapKept.run_getObj_map (P := P) g2
    have hlen : es.size = l.length := by have := ents_len g3; simpa using this
    refine ⟨.int .i64 (l.length : Int), ?_, avrep_sc rfl⟩
    generalize a.eval = ρ at h1 ⊢
    simp [execOp, ho, resolve, invoke, builtin, Builtin.len_, ht, h1, hge, hlen, goInt, run_underlying hu, go_sem]
theorem run_appE {M : Md} {ops : Array Oper} {Q : Exit → Act → World → Prop} {l2 : List Oper} : ∀ {l : List Oper} {s : AS} {acc : List (List Nat × List (Nat × List Nat) × AS)} {K : AS → List (List Nat × List (Nat × List Nat) × AS) → Prop}, Run P w0 U0 nt ops l s acc K → (∀ s' t' a w, K s' t' → Sim w0 U0 nt s' a w → wpListIn (wideR M.r) 1 P ops Q l2 (wdA a M.ds) w) → ∀ a w, Sim w0 U0 nt s a w → wpListIn (wideR M.r) 1 P ops Q (l ++ l2) (wdA a M.ds) w
  | [], s, acc, K, h, hK, a, w, hs => hK s acc a w h hs
  | o :: os, s, acc, K, ⟨R, N, e, h1, h2, h3⟩, hK, a, w, hs => by
    rw [List.cons_append]
    unfold wpListIn
    exact stp_in (h1 s (fun _ _ => rfl) (noRefB_spec h2)) hs (fun a' w' hs' => run_appE h3 hK a' w' hs')
theorem awp_regionE {Sg : Type} {R : Sg → Prop} {r : Sg → AV} {post : Sg → AS} {id : Nat} {l : List Oper} {Q : Exit → AS → Prop} (j : Nat) {f : FuncId} {xs : Array Operand} {ts : Array TypeId} {pre : AS} {args : List AV} {dd : Nat} {oo : Oper} (hj : l[j]? = some oo) (hgo : oo.guard = none) (hdo : oo.dst = some dd) (hnd : Nat.blt dd nt = true) (h5d : Nat.blt dd 100000 = true)
    (hoo : oo.op = .call { callee := .value (.func f), args := xs, argTypes := ts }) (hc : AFunE P f pre args R r post) (hl : pre.all lendB = true) (hq : ∀ σ, (post σ).all (leaveB (kO (post σ))) = true) (hks : ∀ σ, (kO pre).all (hasN (kO (post σ))) = true) (hr : ∀ σ, refB (kO (post σ)) (r σ) = true) (hnb : ∀ σ k v, U0.f k = some v → hasN (kO (post σ)) k = true → hasN (kO pre) k = true)
    (h : Run P w0 U0 nt l.toArray (l.take j) s [] fun s1 _ => evsA (look s1) xs.toList = some args ∧ SubL s1 pre ∧ ∀ σ, R σ → noRefB s1 (newN (kO pre) (kO (post σ)) (kO (post σ))) = true ∧ Run P w0 U0 nt l.toArray (l.drop (j + 1)) ((dd, r σ) :: (post σ ++ s1)) [] fun s' _ => Q .normal s') : AWp P w0 U0 nt (.region id l.toArray false) Q s := by
  intro M a w hs
  refine wpIn_region_lit ?_
  have hsplit : l = l.take j ++ oo :: l.drop (j + 1) := by
    have hjl : j < l.length := by
      rcases Nat.lt_or_ge j l.length with h | h
      · exact h
      · rw [List.getElem?_eq_none h] at hj; cases hj
    conv => lhs; rw [← List.take_append_drop j l]
    congr 1
    rw [List.drop_eq_getElem_cons hjl]
    rw [List.getElem?_eq_getElem hjl] at hj
    injection hj with hj
    rw [hj]
  have key : wpListIn (wideR M.r) 1 P l.toArray (postW M fun e a' w' => ∃ s', Q e s' ∧ Sim w0 U0 nt s' a' w') (l.take j ++ oo :: l.drop (j + 1)) (wdA a M.ds) w := by
    refine run_appE h ?_ a w hs
    rintro s1 _ a w ⟨hx, hp, hrest⟩ ⟨D, hv, h⟩
    have hargs := evsA_rep h (fun k _ => rfl) hx
    have hsub : Sub s1 pre := hp.sub
    obtain ⟨V, v1, v2, v3, v4, v5, v6⟩ := h.lend hsub hl
    obtain ⟨h1, h2⟩ := hc
    have hcall := h2 V w hv ⟨#[], []⟩ _ v1 v2 (hargs.imp fun c _ v hcv => hcv.move v6 (fun _ h3 => h3.imp (fun h => h) fun ⟨e, he⟩ => ⟨e, hsub _ _ he.1, he.2⟩) fun _ => rfl)
    have he : (execOp a.eval oo).run P w = .ok (.enter f (xs.toList.map a.eval).toArray) w := by
      have hf : a.eval (.func f) = .func (.func f) #[] #[] := rfl
      have hen := h1 (xs.map a.eval) w
      have harr : (xs.toList.map a.eval).toArray = xs.map a.eval := by apply Array.ext'; simp
      rw [harr]
      generalize a.eval = ρ at hf hen ⊢
      simp [execOp, hoo, resolve, invoke, Deferred.ofValue, hf, hen]
    unfold wpListIn
    rw [if_pos (by simp [Region.wanted, hgo])]
    refine ⟨fun _ _ => trivial, ?_⟩
    rw [wd_eval, Oper.semAt_eq _ _ _ (fun c hc => by rw [hoo] at hc; cases hc), he]
    refine ⟨(fun hh => by cases hh), callsIn_R (hcall.mono ?_)⟩
    rintro e w' ⟨σ, hσ, v, D', hv', a', rfl, h6, h7⟩
    obtain ⟨hnr, hrun⟩ := hrest σ hσ
    show wpListIn _ _ _ _ _ _ _ _
    rw [hdo, ← wd_put]
    obtain ⟨D2, hv2, h8, h9, _⟩ := h.back hsub hl (hq σ) (hks σ) (noRefB_spec hnr) (hnb σ) v3 v4 v5 v2 h6
    exact run_list hrun (fun s' t' a w h1 h2 => ⟨a, rfl, s', h1, h2⟩) _ _ ⟨D2, hv2, h8.put (bL hnd) (bL h5d) (h9 (r σ) v (hr σ) h7)⟩
  rw [← hsplit] at key
  exact key
end
end Go.Proofs.YteegmcfobgpemaaGreat
