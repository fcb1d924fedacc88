/-
  SupFree: all that Into tells Free tells, in that order; how long it is; renaming plays no part.
-/
import Derived.Test.YteegmcfobgpemaaGreatMg13
import Derived.Test.YteegmcfobgpemaaGreatAbShp
namespace Go.Proofs.YteegmcfobgpemaaGreat
open Go.RowKit
set_option linter.unusedVariables false
set_option linter.unusedSimpArgs false
set_option maxRecDepth 100000

theorem cShift_abs (W : World) {d : List Lt} {k : Int} (hk : 0 ≤ k ∧ k ≤ 1000000) (hdl : d.length ≤ 1000) (hd : ∀ l ∈ d, l.s16) (hv : ∀ v ∈ cvs d, v < 1000000) : AFun Tryz.prog W 18 [.lst (d.map Lt.cv), .i k] (.val (.lst ((d.map (Lt.rep (shV k))).map Lt.cv))) := by
  obtain ⟨h1, h2⟩ := sid_fit (by omega) (s16_fit hd)
  have h := cRename_abs W d k (by omega) h1 h2
  have e : d.map (Lt.rep fun v => varT (upV (max k 0) v)) = d.map (Lt.rep (shV k)) := List.map_congr_left fun l hl => by
    have e : ∀ t : Tm, (∀ v ∈ t.vs, v ∈ cvs d) → repT (fun v => varT (upV (max k 0) v)) t = repT (shV k) t := fun t ht => rep_congr fun v hv2 => by
      have h3 := hv v (ht v hv2)
      have h4 := vs_nonneg t v hv2
      show varT _ = varT _
      congr 1
      unfold upV
      omega
    unfold Lt.rep
    rw [e _ (cvs_a hl), e _ (cvs_b hl)]
  rw [e] at h
  exact h
theorem sup_nil1 (free : Bool) (d : List Lt) : supM free [] d = [] := by
  cases e : supM free [] d with
  | nil => rfl
  | cons z L =>
    exfalso
    obtain ⟨m, hm, _, _⟩ := sup_mem (free := free) (c := []) (d := d) (z := z) (by rw [e]; simp)
    have := (mt_at hm).i
    simp at this
    omega
theorem sup_nil2 (free : Bool) (c : List Lt) : supM free c [] = [] := by
  cases e : supM free c [] with
  | nil => rfl
  | cons z L =>
    exfalso
    obtain ⟨m, hm, _, _⟩ := sup_mem (free := free) (c := c) (d := []) (z := z) (by rw [e]; simp)
    have h := (mt_at hm).j
    rw [rn_len] at h
    simp at h
    omega
-- 
set_option maxHeartbeats 16000000 in
theorem supFree_abs (W : World) (c d : List Lt) (b : Int) (hrc : okC c) (hrd : okC d) (hb : 0 ≤ b ∧ b ≤ 255) : AFun Tryz.prog W 4 [.lst (c.map Lt.cv), .lst (d.map Lt.cv), .sc (.int .u8 b)] (.val (.b true)) := by
  refine afun_of (rs := [.b true]) Tryz.func4 Tryz.ntmps4 rfl rfl rfl rfl ?_
  intro w U hW
  refine aS (aR ?_)
  (refine nx (aA (gN rfl) rfl rfl rfl rfl rfl) rfl ?_)
  show AWp _ _ _ _ _ _ _
  refine aS (aS (aR ?_))
  (refine nx (a_call (gN rfl) rfl rfl rfl rfl rfl (alive16_abs w)) rfl ?_)
  (refine nx (a_not (gN rfl) rfl rfl rfl rfl rfl) rfl ?_)
  show AWp _ _ _ _ _ _ _
  refine aC rfl (fun hc => by cases hc) (fun _ => aK ?_)
  show AWp _ _ _ _ _ _ _
  have hfc := fine11_abs w c 3 8 (by decide) (by decide) (by decide) hrc
  have hfd := fine11_abs w d 3 8 (by decide) (by decide) (by decide) hrd
  cases hF : fineC c 3 8 with
  | false =>
    rw [hF] at hfc
    refine aS (aS (aR ?_))
    (refine nx (aM (gN rfl) rfl rfl rfl rfl rfl) rfl ?_)
    (refine nx (a_call (gN rfl) rfl rfl rfl rfl rfl (hfc)) rfl ?_)
    (refine nx (a_not (gN rfl) rfl rfl rfl rfl rfl) rfl ?_)
    (refine nx (aM (gN rfl) rfl rfl rfl rfl rfl) rfl ?_)
    (refine ⟨_, _, _, a_off (go_off rfl rfl rfl rfl (by first | rfl | assumption | (simp; done) | (simp [*]; done))) rfl rfl rfl, rfl, ?_⟩)
    (refine ⟨_, _, _, a_off (go_off rfl rfl rfl rfl (by first | rfl | assumption | (simp; done) | (simp [*]; done))) rfl rfl rfl, rfl, ?_⟩)
    (refine ⟨_, _, _, a_off (go_off rfl rfl rfl rfl (by first | rfl | assumption | (simp; done) | (simp [*]; done))) rfl rfl rfl, rfl, ?_⟩)
    (refine ⟨_, _, _, aPt (gN rfl) rfl rfl rfl rfl rfl ?hb rfl, rfl, ?_⟩; case hb => (first | rfl | assumption | (simp; done)))
    show AWp _ _ _ _ _ _ _
    refine aC rfl (fun hc => ?_) (fun hc => by cases hc)
    refine aS (aR ?_)
    (refine nx (aA (gN rfl) rfl rfl rfl rfl rfl) rfl ?_)
    show AWp _ _ _ _ _ _ _
    exact aT (And.intro (.inr rfl) rfl)
  | true =>
  cases hG : fineC d 3 8 with
  | false =>
    rw [hF] at hfc
    rw [hG] at hfd
    refine aS (aS (aR ?_))
    (refine nx (aM (gN rfl) rfl rfl rfl rfl rfl) rfl ?_)
    (refine nx (a_call (gN rfl) rfl rfl rfl rfl rfl (hfc)) rfl ?_)
    (refine nx (a_not (gN rfl) rfl rfl rfl rfl rfl) rfl ?_)
    (refine nx (aM (gN rfl) rfl rfl rfl rfl rfl) rfl ?_)
    (refine nx (aM (gd_on rfl rfl rfl rfl (by first | rfl | assumption | (simp; done))) rfl rfl rfl rfl rfl) rfl ?_)
    (refine nx (a_call (gd_on rfl rfl rfl rfl (by first | rfl | assumption | (simp; done))) rfl rfl rfl rfl rfl (hfd)) rfl ?_)
    (refine nx (a_not (gd_on rfl rfl rfl rfl (by first | rfl | assumption | (simp; done))) rfl rfl rfl rfl rfl) rfl ?_)
    (refine ⟨_, _, _, aPf (gN rfl) rfl rfl rfl rfl rfl ?hb rfl, rfl, ?_⟩; case hb => (first | rfl | assumption | (simp; done)))
    show AWp _ _ _ _ _ _ _
    refine aC rfl (fun hc => ?_) (fun hc => by cases hc)
    refine aS (aR ?_)
    (refine nx (aA (gN rfl) rfl rfl rfl rfl rfl) rfl ?_)
    show AWp _ _ _ _ _ _ _
    exact aT (And.intro (.inr rfl) rfl)
  | true =>
  rw [hF] at hfc
  rw [hG] at hfd
  obtain ⟨hcl, hct⟩ := fine_ten (by decide) (by decide) hF
  obtain ⟨hdl, hdt⟩ := fine_ten (by decide) (by decide) hG
  have hcs : ∀ l ∈ c, l.a.sm ∧ l.b.sm := fun l hl => by
    obtain ⟨_, h3⟩ := fineC_facts (by decide) (by decide) hF
    exact ⟨(h3 l hl).1.1.1, (h3 l hl).2.1.1⟩
  have hds : ∀ l ∈ d, l.a.sm ∧ l.b.sm := fun l hl => by
    obtain ⟨_, h3⟩ := fineC_facts (by decide) (by decide) hG
    exact ⟨(h3 l hl).1.1.1, (h3 l hl).2.1.1⟩
  have hokc : ∀ l ∈ c, l.a.ok ∧ l.b.ok := fun l hl => ⟨(hct l hl).1.1.2, (hct l hl).2.1.2⟩
  have hokd : ∀ l ∈ d, l.a.ok ∧ l.b.ok := fun l hl => ⟨(hdt l hl).1.1.2, (hdt l hl).2.1.2⟩
  have hc8 : ∀ l ∈ c, l.a.e8 ∧ l.b.e8 := fun l hl => by
    obtain ⟨_, h3⟩ := fineC_facts (by decide) (by decide) hF
    obtain ⟨⟨_, _, a3⟩, _, _, b3⟩ := h3 l hl
    exact ⟨⟨(hct l hl).1, by omega⟩, (hct l hl).2, by omega⟩
  have hd8 : ∀ l ∈ d, l.a.e8 ∧ l.b.e8 := fun l hl => by
    obtain ⟨_, h3⟩ := fineC_facts (by decide) (by decide) hG
    obtain ⟨⟨_, _, a3⟩, _, _, b3⟩ := h3 l hl
    exact ⟨⟨(hdt l hl).1, by omega⟩, (hdt l hl).2, by omega⟩
  have hp : ∀ free, Pr2 free c d := fun free => pr_of free (N := 1000) (by omega) (sm_cvs hcs) (sm_cvs hds) (by omega) (by omega) hct hdt
  refine aS (aS (aR ?_))
  (refine nx (aM (gN rfl) rfl rfl rfl rfl rfl) rfl ?_)
  (refine nx (a_call (gN rfl) rfl rfl rfl rfl rfl (hfc)) rfl ?_)
  (refine nx (a_not (gN rfl) rfl rfl rfl rfl rfl) rfl ?_)
  (refine nx (aM (gN rfl) rfl rfl rfl rfl rfl) rfl ?_)
  (refine nx (aM (gd_on rfl rfl rfl rfl (by first | rfl | assumption | (simp; done))) rfl rfl rfl rfl rfl) rfl ?_)
  (refine nx (a_call (gd_on rfl rfl rfl rfl (by first | rfl | assumption | (simp; done))) rfl rfl rfl rfl rfl (hfd)) rfl ?_)
  (refine nx (a_not (gd_on rfl rfl rfl rfl (by first | rfl | assumption | (simp; done))) rfl rfl rfl rfl rfl) rfl ?_)
  (refine ⟨_, _, _, aPf (gN rfl) rfl rfl rfl rfl rfl ?hb rfl, rfl, ?_⟩; case hb => (first | rfl | assumption | (simp; done)))
  show AWp _ _ _ _ _ _ _
  refine aC rfl (fun hc => by cases hc) (fun _ => aK ?_)
  show AWp _ _ _ _ _ _ _
  have hcv := sm_cvs hcs
  have hdv := sm_cvs hds
  obtain ⟨hVL, hct', hdt', hcv', hdv'⟩ := sup_rn hb hct hdt hcv hdv
  have hre1 := cShift_abs w (d := c) (k := b) (by omega) (by omega) (fun l hl => ⟨ten_s16 (hct l hl).1, ten_s16 (hct l hl).2⟩) (fun v hv => by have := hcv v hv; omega)
  have hre2 := cShift_abs w (d := d) (k := b) (by omega) (by omega) (fun l hl => ⟨ten_s16 (hdt l hl).1, ten_s16 (hdt l hl).2⟩) (fun v hv => by have := hdv v hv; omega)
  have e8' : ∀ e : List Lt, (∀ l ∈ e, l.a.e8 ∧ l.b.e8) → (∀ l ∈ e.map (Lt.rep (shV b)), l.ten) → ∀ l ∈ e.map (Lt.rep (shV b)), l.a.e8 ∧ l.b.e8 := fun e he ht l hl => by
    have h1 := ht l hl
    obtain ⟨x, hx, rfl⟩ := List.mem_map.1 hl
    exact ⟨⟨h1.1, by show (repT _ x.a).size ≤ 8; rw [sh_size hb.1]; exact (he x hx).1.2⟩, h1.2, by show (repT _ x.b).size ≤ 8; rw [sh_size hb.1]; exact (he x hx).2.2⟩
  have hc8' := e8' c hc8 hct'
  have hd8' := e8' d hd8 hdt'
  have hcl' : (c.map (Lt.rep (shV b))).length = c.length := List.length_map ..
  have hdl' : (d.map (Lt.rep (shV b))).length = d.length := List.length_map ..
  obtain ⟨c', hc'⟩ : ∃ c', c' = c.map (Lt.rep (shV b)) := ⟨_, rfl⟩
  obtain ⟨d', hd'⟩ : ∃ d', d' = d.map (Lt.rep (shV b)) := ⟨_, rfl⟩
  rw [← hc'] at hVL hct' hcv' hre1 hc8' hcl'
  rw [← hd'] at hVL hdt' hdv' hre2 hd8' hdl'
  have hp' : Pr2 false c' d' := pr_of false (N := 1255) (by omega) hcv' hdv' (by omega) (by omega) hct' hdt'
  have hi1 := suInto_abs w c d (hp false)
  have hi2 := suFree_abs w c d (hp true)
  have hi3 := suInto_abs w c' d' hp'
  have hn1 := suInto_abs w [] d (pr_of false (N := 1000) (by omega) (fun v hv => by cases hv) hdv (by simp) (by omega) (fun l hl => by cases hl) hdt)
  have hn2 := suInto_abs w c [] (pr_of false (N := 1000) (by omega) hcv (fun v hv => by cases hv) (by omega) (by simp) hct (fun l hl => by cases hl))
  rw [sup_nil1] at hn1
  rw [sup_nil2] at hn2
  have hsb := sup_sub c d
  have hfp := fun z (hz : z ∈ supM false c d) => sup_fit (hp false) hz
  have hfq := fun z (hz : z ∈ supM true c d) => sup_fit (hp true) hz
  have hDe := rn_e8 hd8 (rn_ten (c := c) hdt (hp false).rn)
  have hDe' := rn_e8 hd8' (rn_ten (c := c') hdt' hp'.rn)
  have hop := fun z (hz : z ∈ supM false c d) => sup_ok5 (hp false) (by omega) hc8 hDe hz
  have hor := fun z (hz : z ∈ supM false c' d') => sup_ok5 hp' (by omega) hc8' hDe' hz
  have hLp := supM_len (free := false) (c := c) (d := d) (by omega) (by omega) (hp false).rn
  have hLq := supM_len (free := true) (c := c) (d := d) (by omega) (by omega) (hp true).rn
  obtain ⟨p, hpp⟩ : ∃ p, p = supM false c d := ⟨_, rfl⟩
  obtain ⟨q, hqq⟩ : ∃ q, q = supM true c d := ⟨_, rfl⟩
  obtain ⟨r, hrr⟩ : ∃ r, r = supM false c' d' := ⟨_, rfl⟩
  rw [← hpp] at hVL hi1 hsb hfp hop hLp
  rw [← hqq] at hi2 hsb hfq hLq
  rw [← hrr] at hVL hi3 hor
  have hps := clC_size p
  have hqs := clC_size q
  have hrs := clC_size r
  have hpm : (p.map clC).length = p.length := List.length_map ..
  have hqm : (q.map clC).length = q.length := List.length_map ..
  have hrm : (r.map clC).length = r.length := List.length_map ..
  have hcm : (c.map Lt.cv).length = c.length := List.length_map ..
  have hdm : (d.map Lt.cv).length = d.length := List.length_map ..
  have hpr := hVL.1
  refine aS (aR ?_)
  (refine nx (aM (gN rfl) rfl rfl rfl rfl rfl) rfl ?_)
  (refine nx (a_call (gN rfl) rfl rfl rfl rfl rfl (of11_abs w c (by omega) hokc)) rfl ?_)
  (refine nx (aM (gN rfl) rfl rfl rfl rfl rfl) rfl ?_)
  (refine nx (a_call (gN rfl) rfl rfl rfl rfl rfl (of11_abs w d (by omega) hokd)) rfl ?_)
  (refine nx (aA (gN rfl) rfl rfl rfl rfl rfl) rfl ?_)
  (refine nx (aA (gN rfl) rfl rfl rfl rfl rfl) rfl ?_)
  show AWp _ _ _ _ _ _ _
  refine aS (aR ?_)
  (refine nx (aM (gN rfl) rfl rfl rfl rfl rfl) rfl ?_)
  (refine nx (aM (gN rfl) rfl rfl rfl rfl rfl) rfl ?_)
  (refine nx (a_call (gN rfl) rfl rfl rfl rfl rfl (hi1)) rfl ?_)
  (refine nx (aM (gN rfl) rfl rfl rfl rfl rfl) rfl ?_)
  (refine nx (aM (gN rfl) rfl rfl rfl rfl rfl) rfl ?_)
  (refine nx (a_call (gN rfl) rfl rfl rfl rfl rfl (hi2)) rfl ?_)
  (refine nx (aA (gN rfl) rfl rfl rfl rfl rfl) rfl ?_)
  (refine nx (aA (gN rfl) rfl rfl rfl rfl rfl) rfl ?_)
  show AWp _ _ _ _ _ _ _
  refine aS (aR ?_)
  (refine nx (aM (gN rfl) rfl rfl rfl rfl rfl) rfl ?_)
  (refine nx (aM (gN rfl) rfl rfl rfl rfl rfl) rfl ?_)
  (refine nx (a_conv (gN rfl) rfl rfl rfl rfl rfl rfl rfl (by first | rfl | (rw [IntKind.wrap_i64]; omega) | assumption)) rfl ?_)
  (refine nx (a_call (gN rfl) rfl rfl rfl rfl rfl (hre1)) rfl ?_)
  (refine nx (aM (gN rfl) rfl rfl rfl rfl rfl) rfl ?_)
  (refine nx (aM (gN rfl) rfl rfl rfl rfl rfl) rfl ?_)
  (refine nx (a_conv (gN rfl) rfl rfl rfl rfl rfl rfl rfl (by first | rfl | (rw [IntKind.wrap_i64]; omega) | assumption)) rfl ?_)
  (refine nx (a_call (gN rfl) rfl rfl rfl rfl rfl (hre2)) rfl ?_)
  (refine nx (a_call (gN rfl) rfl rfl rfl rfl rfl (hi3)) rfl ?_)
  (refine nx (aA (gN rfl) rfl rfl rfl rfl rfl) rfl ?_)
  show AWp _ _ _ _ _ _ _
  have g8 : decide ((((p.map clC).length : Nat) : Int) ≠ (((r.map clC).length : Nat) : Int)) = false := decide_eq_false (by omega)
  refine aS (aS (aR ?_))
  (refine nx (aM (gN rfl) rfl rfl rfl rfl rfl) rfl ?_)
  (refine nx (a_len (gN rfl) rfl rfl rfl rfl rfl rfl rfl) rfl ?_)
  (refine nx (aM (gN rfl) rfl rfl rfl rfl rfl) rfl ?_)
  (refine nx (a_len (gN rfl) rfl rfl rfl rfl rfl rfl rfl) rfl ?_)
  (refine nx (a_neq (gN rfl) rfl rfl rfl rfl rfl rfl) rfl ?_)
  show AWp _ _ _ _ _ _ _
  refine aC rfl (fun hc => by rw [g8] at hc; cases hc) (fun _ => aK ?_)
  show AWp _ _ _ _ _ _ _
  refine aS (aR ?_)
  (refine nx (aA (gN rfl) rfl rfl rfl rfl rfl) rfl ?_)
  show AWp _ _ _ _ _ _ _
  refine aS (aS (aR ?_))
  (refine nx (aA (gN rfl) rfl rfl rfl rfl rfl) rfl ?_)
  show AWp _ _ _ _ _ _ _
  refine aB (awp_count p.length (fun i => [(7, AV.val (.lst (c.map Lt.cv))), (8, .val (.lst (d.map Lt.cv))), (9, .val (.lst (p.map clC))), (10, .val (.lst (q.map clC))), (11, .val (.lst (r.map clC))), (12, .val (.i (gK p q i : Nat))), (13, .val (.i (i : Int)))]) (wk_sub ⟨rfl, rfl, rfl, rfl, rfl, rfl, rfl, trivial⟩) ?_)
  intro i hi
  refine aS (aS (aR ?_))
  (refine nx (aM (gN rfl) rfl rfl rfl rfl rfl) rfl ?_)
  (refine nx (aM (gN rfl) rfl rfl rfl rfl rfl) rfl ?_)
  (refine nx (a_len (gN rfl) rfl rfl rfl rfl rfl rfl rfl) rfl ?_)
  (refine nx (a_lss (gN rfl) rfl rfl rfl rfl rfl rfl) rfl ?_)
  show AWp _ _ _ _ _ _ _
  refine aC rfl (fun hlt => aK ?_) (fun hlt => aE ?_)
  · have hil : i < p.length := by have := of_decide_eq_true hlt; omega
    obtain ⟨z, hz⟩ : ∃ z, p[i]? = some z := ⟨p[i], List.getElem?_eq_getElem hil⟩
    obtain ⟨y, hy⟩ : ∃ y, r[i]? = some y := ⟨r[i]'(by omega), List.getElem?_eq_getElem _⟩
    have hz' : (p.map clC)[i]? = some (.lst (z.map Lt.cv)) := by rw [List.getElem?_map, hz]; rfl
    have hy' : (r.map clC)[i]? = some (.lst (y.map Lt.cv)) := by rw [List.getElem?_map, hy]; rfl
    have hzm := List.mem_of_getElem? hz
    have hym := List.mem_of_getElem? hy
    obtain ⟨hzl, hzf⟩ := hfp z hzm
    obtain ⟨f, f1, f2, f3, f4⟩ := gK_at hsb hz
    have hvn := cVnt5_abs w z y (hop z hzm) (hor y hym)
    rw [hVL.2 i z y hz hy] at hvn
    have hzml : (z.map Lt.cv).length = z.length := List.length_map ..
    have hsame : ∀ x, x ∈ q → AFun Tryz.prog w 19 [.lst (z.map Lt.cv), .lst (x.map Lt.cv)] (.val (.b (sameC z x))) := fun x hx => cSame_abs w z x (by omega) (fun l hl => ⟨(hzf l hl).1.1.1, (hzf l hl).1.2.1⟩) (fun l hl => ⟨((hfq x hx).2 l hl).1.1.1, ((hfq x hx).2 l hl).1.2.1⟩)
    obtain ⟨G, hG⟩ : ∃ G, G = gK p q i := ⟨_, rfl⟩
    rw [← hG] at f1 f2 f3 f4 ⊢
    show AWp _ _ _ _ _ _ _
    refine aS (aB (aS ?_))
    refine aB (awp_count f (fun j => [(7, AV.val (.lst (c.map Lt.cv))), (8, .val (.lst (d.map Lt.cv))), (9, .val (.lst (p.map clC))), (10, .val (.lst (q.map clC))), (11, .val (.lst (r.map clC))), (12, .val (.i ((G + j : Nat) : Int))), (13, .val (.i (i : Int)))]) (wk_sub ⟨rfl, rfl, rfl, rfl, rfl, rfl, rfl, trivial⟩) ?_)
    intro j hj
    have g1 : decide ((((G + j : Nat) : Nat) : Int) < (((q.map clC).length : Nat) : Int)) = true := decide_eq_true (by omega)
    rcases Nat.lt_or_ge j f with hjf | hjf
    · obtain ⟨x, x1, x2⟩ := f3 j hjf
      have hx' : (q.map clC)[G + j]? = some (.lst (x.map Lt.cv)) := by rw [List.getElem?_map, x1]; rfl
      have hsm := hsame x (List.mem_of_getElem? x1)
      rw [x2] at hsm
      refine aS (aS (aD (by kernel_rfl) (by kernel_rfl) ?_))
      (refine nx (aM (gN rfl) rfl rfl rfl rfl rfl) rfl ?_)
      (refine nx (aM (gN rfl) rfl rfl rfl rfl rfl) rfl ?_)
      (refine nx (a_len (gN rfl) rfl rfl rfl rfl rfl rfl rfl) rfl ?_)
      (refine nx (a_lss (gN rfl) rfl rfl rfl rfl rfl rfl) rfl ?_)
      (refine nx (aM (gN rfl) rfl rfl rfl rfl rfl) rfl ?_)
      (refine nx (aM (gd_on rfl rfl rfl rfl (by first | rfl | assumption | (simp; done))) rfl rfl rfl rfl rfl) rfl ?_)
      (refine nx (aM (gd_on rfl rfl rfl rfl (by first | rfl | assumption | (simp; done))) rfl rfl rfl rfl rfl) rfl ?_)
      (refine nx (a_index (j := i) (gd_on rfl rfl rfl rfl (by first | rfl | assumption | (simp; done))) rfl rfl rfl rfl rfl rfl rfl rfl rfl (hz') rfl (hps)) rfl ?_)
      (refine nx (a_load_ad (gd_on rfl rfl rfl rfl (by first | rfl | assumption | (simp; done))) rfl rfl rfl rfl rfl rfl rfl rfl rfl) rfl ?_)
      (refine nx (aM (gd_on rfl rfl rfl rfl (by first | rfl | assumption | (simp; done))) rfl rfl rfl rfl rfl) rfl ?_)
      (refine nx (aM (gd_on rfl rfl rfl rfl (by first | rfl | assumption | (simp; done))) rfl rfl rfl rfl rfl) rfl ?_)
      (refine nx (a_index (j := G + j) (gd_on rfl rfl rfl rfl (by first | rfl | assumption | (simp; done))) rfl rfl rfl rfl rfl rfl rfl rfl rfl (hx') rfl (hqs)) rfl ?_)
      (refine nx (a_load_ad (gd_on rfl rfl rfl rfl (by first | rfl | assumption | (simp; done))) rfl rfl rfl rfl rfl rfl rfl rfl rfl) rfl ?_)
      (refine nx (a_call (gd_on rfl rfl rfl rfl (by first | rfl | assumption | (simp; done))) rfl rfl rfl rfl rfl (hsm)) rfl ?_)
      (refine nx (a_not (gd_on rfl rfl rfl rfl (by first | rfl | assumption | (simp; done))) rfl rfl rfl rfl rfl) rfl ?_)
      (refine ⟨_, _, _, aPt (gN rfl) rfl rfl rfl rfl rfl ?hb rfl, rfl, ?_⟩; case hb => (first | rfl | assumption | (simp; done)))
      refine ⟨by kernel_rfl, ?_⟩
      show AWp _ _ _ _ _ _ _
      refine aC rfl (fun _ => aK ?_) (fun hc => by cases hc)
      show AWp _ _ _ _ _ _ _
      refine aB (aR ?_)
      (refine nx (aM (gN rfl) rfl rfl rfl rfl rfl) rfl ?_)
      (refine nx (a_add (gN rfl) rfl rfl rfl rfl rfl rfl (by first | omega | (simp only [List.length_map, List.length_append, List.length_cons, List.length_nil] <;> omega) | (simp <;> omega))) rfl ?_)
      (refine nx (aA (gN rfl) rfl rfl rfl rfl rfl) rfl ?_)
      exact ⟨hjf, wk_sub ⟨rfl, rfl, rfl, rfl, rfl, rfl, rfl, trivial⟩⟩
    · have hjf : j = f := by omega
      subst hjf
      obtain ⟨x, x1, x2⟩ := f4
      have hx' : (q.map clC)[G + j]? = some (.lst (x.map Lt.cv)) := by rw [List.getElem?_map, x1]; rfl
      have hsm := hsame x (List.mem_of_getElem? x1)
      rw [x2] at hsm
      refine aS (aS (aD (by kernel_rfl) (by kernel_rfl) ?_))
      (refine nx (aM (gN rfl) rfl rfl rfl rfl rfl) rfl ?_)
      (refine nx (aM (gN rfl) rfl rfl rfl rfl rfl) rfl ?_)
      (refine nx (a_len (gN rfl) rfl rfl rfl rfl rfl rfl rfl) rfl ?_)
      (refine nx (a_lss (gN rfl) rfl rfl rfl rfl rfl rfl) rfl ?_)
      (refine nx (aM (gN rfl) rfl rfl rfl rfl rfl) rfl ?_)
      (refine nx (aM (gd_on rfl rfl rfl rfl (by first | rfl | assumption | (simp; done))) rfl rfl rfl rfl rfl) rfl ?_)
      (refine nx (aM (gd_on rfl rfl rfl rfl (by first | rfl | assumption | (simp; done))) rfl rfl rfl rfl rfl) rfl ?_)
      (refine nx (a_index (j := i) (gd_on rfl rfl rfl rfl (by first | rfl | assumption | (simp; done))) rfl rfl rfl rfl rfl rfl rfl rfl rfl (hz') rfl (hps)) rfl ?_)
      (refine nx (a_load_ad (gd_on rfl rfl rfl rfl (by first | rfl | assumption | (simp; done))) rfl rfl rfl rfl rfl rfl rfl rfl rfl) rfl ?_)
      (refine nx (aM (gd_on rfl rfl rfl rfl (by first | rfl | assumption | (simp; done))) rfl rfl rfl rfl rfl) rfl ?_)
      (refine nx (aM (gd_on rfl rfl rfl rfl (by first | rfl | assumption | (simp; done))) rfl rfl rfl rfl rfl) rfl ?_)
      (refine nx (a_index (j := G + j) (gd_on rfl rfl rfl rfl (by first | rfl | assumption | (simp; done))) rfl rfl rfl rfl rfl rfl rfl rfl rfl (hx') rfl (hqs)) rfl ?_)
      (refine nx (a_load_ad (gd_on rfl rfl rfl rfl (by first | rfl | assumption | (simp; done))) rfl rfl rfl rfl rfl rfl rfl rfl rfl) rfl ?_)
      (refine nx (a_call (gd_on rfl rfl rfl rfl (by first | rfl | assumption | (simp; done))) rfl rfl rfl rfl rfl (hsm)) rfl ?_)
      (refine nx (a_not (gd_on rfl rfl rfl rfl (by first | rfl | assumption | (simp; done))) rfl rfl rfl rfl rfl) rfl ?_)
      (refine ⟨_, _, _, aPt (gN rfl) rfl rfl rfl rfl rfl ?hb rfl, rfl, ?_⟩; case hb => (first | rfl | assumption | (simp; done)))
      refine ⟨by kernel_rfl, ?_⟩
      show AWp _ _ _ _ _ _ _
      refine aC rfl (fun hc => by cases hc) (fun _ => aE ?_)
      show AWp _ _ _ _ _ _ _
      have g2 : decide ((((G + j : Nat) : Nat) : Int) = (((q.map clC).length : Nat) : Int)) = false := decide_eq_false (by omega)
      have g3 : decide ((((z.map Lt.cv).length : Nat) : Int) ≠ (((c.map Lt.cv).length : Nat) : Int) + (((d.map Lt.cv).length : Nat) : Int) - 1) = false := decide_eq_false (by omega)
      refine aS (aS (aD (by kernel_rfl) (by kernel_rfl) ?_))
      (refine nx (aM (gN rfl) rfl rfl rfl rfl rfl) rfl ?_)
      (refine nx (aM (gN rfl) rfl rfl rfl rfl rfl) rfl ?_)
      (refine nx (a_len (gN rfl) rfl rfl rfl rfl rfl rfl rfl) rfl ?_)
      (refine nx (a_eql (gN rfl) rfl rfl rfl rfl rfl rfl) rfl ?_)
      (refine nx (aM (gN rfl) rfl rfl rfl rfl rfl) rfl ?_)
      (refine nx (aM (gd_on rfl rfl rfl rfl (by first | rfl | assumption | (simp; done))) rfl rfl rfl rfl rfl) rfl ?_)
      (refine nx (aM (gd_on rfl rfl rfl rfl (by first | rfl | assumption | (simp; done))) rfl rfl rfl rfl rfl) rfl ?_)
      (refine nx (a_index (j := i) (gd_on rfl rfl rfl rfl (by first | rfl | assumption | (simp; done))) rfl rfl rfl rfl rfl rfl rfl rfl rfl (hz') rfl (hps)) rfl ?_)
      (refine nx (a_load_ad (gd_on rfl rfl rfl rfl (by first | rfl | assumption | (simp; done))) rfl rfl rfl rfl rfl rfl rfl rfl rfl) rfl ?_)
      (refine nx (a_len (gd_on rfl rfl rfl rfl (by first | rfl | assumption | (simp; done))) rfl rfl rfl rfl rfl rfl rfl) rfl ?_)
      (refine nx (aM (gd_on rfl rfl rfl rfl (by first | rfl | assumption | (simp; done))) rfl rfl rfl rfl rfl) rfl ?_)
      (refine nx (a_len (gd_on rfl rfl rfl rfl (by first | rfl | assumption | (simp; done))) rfl rfl rfl rfl rfl rfl rfl) rfl ?_)
      (refine nx (aM (gd_on rfl rfl rfl rfl (by first | rfl | assumption | (simp; done))) rfl rfl rfl rfl rfl) rfl ?_)
      (refine nx (a_len (gd_on rfl rfl rfl rfl (by first | rfl | assumption | (simp; done))) rfl rfl rfl rfl rfl rfl rfl) rfl ?_)
      (refine nx (a_add (gd_on rfl rfl rfl rfl (by first | rfl | assumption | (simp; done))) rfl rfl rfl rfl rfl rfl (by first | omega | (simp only [List.length_map, List.length_append, List.length_cons, List.length_nil] <;> omega) | (simp <;> omega))) rfl ?_)
      (refine nx (a_sub (gd_on rfl rfl rfl rfl (by first | rfl | assumption | (simp; done))) rfl rfl rfl rfl rfl rfl (by first | omega | (simp only [List.length_map, List.length_append, List.length_cons, List.length_nil] <;> omega) | (simp <;> omega))) rfl ?_)
      (refine nx (a_neq (gd_on rfl rfl rfl rfl (by first | rfl | assumption | (simp; done))) rfl rfl rfl rfl rfl rfl) rfl ?_)
      (refine ⟨_, _, _, aPf (gN rfl) rfl rfl rfl rfl rfl ?hb rfl, rfl, ?_⟩; case hb => (first | rfl | assumption | (simp; done)))
      (refine nx (aM (gN rfl) rfl rfl rfl rfl rfl) rfl ?_)
      (refine nx (aM (gd_on rfl rfl rfl rfl (by first | rfl | assumption | (simp; done))) rfl rfl rfl rfl rfl) rfl ?_)
      (refine nx (aM (gd_on rfl rfl rfl rfl (by first | rfl | assumption | (simp; done))) rfl rfl rfl rfl rfl) rfl ?_)
      (refine nx (a_index (j := i) (gd_on rfl rfl rfl rfl (by first | rfl | assumption | (simp; done))) rfl rfl rfl rfl rfl rfl rfl rfl rfl (hz') rfl (hps)) rfl ?_)
      (refine nx (a_load_ad (gd_on rfl rfl rfl rfl (by first | rfl | assumption | (simp; done))) rfl rfl rfl rfl rfl rfl rfl rfl rfl) rfl ?_)
      (refine nx (aM (gd_on rfl rfl rfl rfl (by first | rfl | assumption | (simp; done))) rfl rfl rfl rfl rfl) rfl ?_)
      (refine nx (aM (gd_on rfl rfl rfl rfl (by first | rfl | assumption | (simp; done))) rfl rfl rfl rfl rfl) rfl ?_)
      (refine nx (a_index (j := i) (gd_on rfl rfl rfl rfl (by first | rfl | assumption | (simp; done))) rfl rfl rfl rfl rfl rfl rfl rfl rfl (hy') rfl (hrs)) rfl ?_)
      (refine nx (a_load_ad (gd_on rfl rfl rfl rfl (by first | rfl | assumption | (simp; done))) rfl rfl rfl rfl rfl rfl rfl rfl rfl) rfl ?_)
      (refine nx (a_call (gd_on rfl rfl rfl rfl (by first | rfl | assumption | (simp; done))) rfl rfl rfl rfl rfl (hvn)) rfl ?_)
      (refine nx (a_not (gd_on rfl rfl rfl rfl (by first | rfl | assumption | (simp; done))) rfl rfl rfl rfl rfl) rfl ?_)
      (refine ⟨_, _, _, aPf (gN rfl) rfl rfl rfl rfl rfl ?hb rfl, rfl, ?_⟩; case hb => (first | rfl | assumption | (simp; done)))
      refine ⟨by kernel_rfl, ?_⟩
      show AWp _ _ _ _ _ _ _
      refine aC rfl (fun hc => by cases hc) (fun _ => aK ?_)
      show AWp _ _ _ _ _ _ _
      refine aR ?_
      (refine nx (aM (gN rfl) rfl rfl rfl rfl rfl) rfl ?_)
      (refine nx (a_add (gN rfl) rfl rfl rfl rfl rfl rfl (by first | omega | (simp only [List.length_map, List.length_append, List.length_cons, List.length_nil] <;> omega) | (simp <;> omega))) rfl ?_)
      (refine nx (aA (gN rfl) rfl rfl rfl rfl rfl) rfl ?_)
      show AWp _ _ _ _ _ _ _
      refine aR ?_
      (refine nx (aM (gN rfl) rfl rfl rfl rfl rfl) rfl ?_)
      (refine nx (a_add (gN rfl) rfl rfl rfl rfl rfl rfl (by first | omega | (simp only [List.length_map, List.length_append, List.length_cons, List.length_nil] <;> omega) | (simp <;> omega))) rfl ?_)
      (refine nx (aA (gN rfl) rfl rfl rfl rfl rfl) rfl ?_)
      refine ⟨hil, ?_⟩
      show Wk _ _ _ _ [(7, AV.val (.lst (c.map Lt.cv))), (8, .val (.lst (d.map Lt.cv))), (9, .val (.lst (p.map clC))), (10, .val (.lst (q.map clC))), (11, .val (.lst (r.map clC))), (12, .val (.i (gK p q (i + 1) : Nat))), (13, .val (.i ((i + 1 : Nat) : Int)))]
      rw [f1]
      exact wk_sub ⟨rfl, rfl, rfl, rfl, rfl, rfl, rfl, trivial⟩
  · show AWp _ _ _ _ _ _ _
    refine aS (aR ?_)
    (refine nx (aM (gN rfl) rfl rfl rfl rfl rfl) rfl ?_)
    (refine nx (a_call (gN rfl) rfl rfl rfl rfl rfl (hn1)) rfl ?_)
    (refine nx (a_len (gN rfl) rfl rfl rfl rfl rfl rfl rfl) rfl ?_)
    (refine nx (aM (gN rfl) rfl rfl rfl rfl rfl) rfl ?_)
    (refine nx (a_call (gN rfl) rfl rfl rfl rfl rfl (hn2)) rfl ?_)
    (refine nx (a_len (gN rfl) rfl rfl rfl rfl rfl rfl rfl) rfl ?_)
    (refine nx (a_add (gN rfl) rfl rfl rfl rfl rfl rfl (by first | omega | (simp only [List.length_map, List.length_append, List.length_cons, List.length_nil] <;> omega) | (simp <;> omega))) rfl ?_)
    (refine nx (a_eql (gN rfl) rfl rfl rfl rfl rfl rfl) rfl ?_)
    (refine nx (aA (gN rfl) rfl rfl rfl rfl rfl) rfl ?_)
    show AWp _ _ _ _ _ _ _
    exact aT (And.intro (.inr rfl) rfl)
theorem shp_bool {n : Nat} {c : CV} (h : Shp Tryz.prog n 4 c) : ∃ b, c = .b b := by
  cases n with
  | zero => exact h.elim
  | succ n =>
    rw [Shp, Tryz.underlying4] at h
    exact h
theorem shp_lits {n : Nat} {c : CV} (h : Shp Tryz.prog n 22 c) : ∃ l : List Lt, c = .lst (l.map Lt.cv) ∧ okC l := by
  cases n with
  | zero => exact h.elim
  | succ n =>
    rw [Shp, Tryz.underlying22] at h
    obtain ⟨l, rfl, hl⟩ := h
    obtain ⟨m, h1, h2⟩ := list_of Lt.cv (fun l => l.a.rng ∧ l.b.rng) (l := l) (fun x hx => by
      have hx := hl x hx
      cases n with
      | zero => exact hx.elim
      | succ n =>
        have hx : Shp Tryz.prog (n + 1) 52 x := hx
        rw [Shp, Tryz.underlying52] at hx
        obtain ⟨l, rfl, hl, hf⟩ := hx
        match l, hl with
        | [x, y, z], _ =>
          obtain ⟨b, rfl⟩ := shp_bool (hf 0 _ x rfl rfl)
          obtain ⟨t, rfl, ht⟩ := shp_tm n (hf 1 _ y rfl rfl)
          obtain ⟨u, rfl, hu⟩ := shp_tm n (hf 2 _ z rfl rfl)
          exact ⟨⟨b, t, u⟩, rfl, ht, hu⟩)
    exact ⟨m, by rw [h1], h2⟩
end Go.Proofs.YteegmcfobgpemaaGreat

