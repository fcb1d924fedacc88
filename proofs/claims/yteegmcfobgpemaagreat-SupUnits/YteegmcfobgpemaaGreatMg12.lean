/-
  SuTop SuPr
-/
import Derived.Test.YteegmcfobgpemaaGreatMg11
namespace Go.Proofs.YteegmcfobgpemaaGreat
open Go.RowKit
set_option linter.unusedVariables false
set_option linter.unusedSimpArgs false
set_option maxRecDepth 100000
theorem fold_max : ∀ (l : List Int) (m : Int), m ≤ l.foldl max m ∧ (∀ v ∈ l, v ≤ l.foldl max m) ∧ ∀ N, m < N → (∀ v ∈ l, v < N) → l.foldl max m < N
  | [], m => ⟨Int.le_refl _, (fun v h => by cases h), fun N h _ => h⟩
  | x :: l, m => by
    obtain ⟨h1, h2, h3⟩ := fold_max l (max m x)
    refine ⟨?_, fun v hv => ?_, fun N hm hl => h3 N ?_ fun v hv => hl v (List.mem_cons_of_mem _ hv)⟩
    · show m ≤ l.foldl max (max m x); omega
    · show v ≤ l.foldl max (max m x)
      rcases List.mem_cons.1 hv with rfl | hv
      · omega
      · exact h2 v hv
    · have := hl x (by simp); omega
def cvs (c : List Lt) : List Int := c.flatMap fun l => l.a.vs ++ l.b.vs
theorem cvs_a {c : List Lt} {l : Lt} (h : l ∈ c) : ∀ v ∈ l.a.vs, v ∈ cvs c := fun v hv => List.mem_flatMap.2 ⟨l, h, List.mem_append_left _ hv⟩
theorem cvs_b {c : List Lt} {l : Lt} (h : l ∈ c) : ∀ v ∈ l.b.vs, v ∈ cvs c := fun v hv => List.mem_flatMap.2 ⟨l, h, List.mem_append_right _ hv⟩
theorem top_cvs (c : List Lt) : topC c = (cvs c).foldl max (-1) := by
  have hm : ∀ (l : List Int) (m : Int), -1 ≤ m → l.foldl max m = max m (l.foldl max (-1)) := fun l => by
    induction l with
    | nil => intro m h; show m = max m (-1); omega
    | cons x l ih =>
      intro m h
      show l.foldl max (max m x) = max m (l.foldl max (max (-1) x))
      rw [ih _ (by omega), ih (max (-1) x) (by omega)]; omega
  have key : ∀ (c : List Lt) (m : Int), -1 ≤ m → c.foldl (fun m l => max (max m (topF l.a.flat)) (topF l.b.flat)) m = (cvs c).foldl max m := fun c => by
    induction c with
    | nil => intro m _; rfl
    | cons l c ih =>
      intro m h
      have e1 : topF l.a.flat = l.a.vs.foldl max (-1) := topF_vs _
      have e2 : topF l.b.flat = l.b.vs.foldl max (-1) := topF_vs _
      show c.foldl _ (max (max m (topF l.a.flat)) (topF l.b.flat)) = ((l.a.vs ++ l.b.vs) ++ cvs c).foldl max m
      have g1 := (fold_max l.a.vs (-1)).1
      rw [ih _ (by rw [e1]; omega), List.foldl_append, List.foldl_append, hm l.a.vs m h, hm l.b.vs _ (by omega), e1, e2]
  exact key c (-1) (Int.le_refl _)
theorem top_lo (c : List Lt) : -1 ≤ topC c := by rw [top_cvs]; exact (fold_max _ _).1
theorem top_ge2 {c : List Lt} {v : Int} (h : v ∈ cvs c) : v ≤ topC c := by rw [top_cvs]; exact (fold_max _ _).2.1 v h
theorem top_lt {c : List Lt} {N : Int} (hN : 0 ≤ N) (h : ∀ v ∈ cvs c, v < N) : topC c < N := by rw [top_cvs]; exact (fold_max _ _).2.2 N (by omega) h
noncomputable def rnC (c d : List Lt) : List Lt := d.map (Lt.rep (shV (topC c + 1)))
theorem rn_len (c d : List Lt) : (rnC c d).length = d.length := List.length_map ..
theorem sh_s16 {t : Tm} (h : t.s16) {b N : Int} (hb : 0 ≤ b) (hbN : b + N ≤ 1000000000000) (hN : ∀ v ∈ t.vs, v < N) : (repT (shV b) t).s16 := by
  have e : repT (shV b) t = repT (fun v => varT (upV (max b 0) v)) t := rep_congr fun v hv => by
    have h1 := hN v hv
    have h2 := vs_nonneg t v hv
    show varT _ = varT _
    congr 1
    unfold upV
    omega
  refine ⟨⟨?_, ?_⟩, by rw [sh_size hb]; exact h.2⟩
  · by_cases hv0 : t.vs = []
    · have e2 : repT (shV b) t = repT varT t := rep_congr fun v hv => by rw [hv0] at hv; cases hv
      rw [e2, rep_id]; exact Tm.strip_rng h.1.1
    · obtain ⟨v0, hv⟩ := List.exists_mem_of_ne_nil _ hv0
      have h1 := hN v0 hv
      have h2 := vs_nonneg t v0 hv
      rw [e]
      exact repT_rng h.1.1 fun v h1 h2 => varT_rng (upV_ok h1 h2 (by omega)).1 (upV_ok h1 h2 (by omega)).2
  · exact repT_ok h.1.2 fun v => varT_ok _
theorem rn_s16 {c d : List Lt} {N : Int} (hN : 0 ≤ N ∧ N ≤ 1000000) (hc : ∀ v ∈ cvs c, v < N) (hd : ∀ l ∈ d, l.s16) (hv : ∀ v ∈ cvs d, v < N) : ∀ l ∈ rnC c d, l.s16 := fun l hl => by
  obtain ⟨x, hx, rfl⟩ := List.mem_map.1 hl
  have h1 := top_lo c
  have h2 := top_lt hN.1 hc
  exact ⟨sh_s16 (hd x hx).1 (N := N) (by omega) (by omega) fun v h => hv v (cvs_a hx v h), sh_s16 (hd x hx).2 (N := N) (by omega) (by omega) fun v h => hv v (cvs_b hx v h)⟩
theorem s16_fit {c : List Lt} (h : ∀ l ∈ c, l.s16) : ∀ l ∈ c, l.rok := fun l hl => (h l hl).rok
theorem cRen_abs (W : World) {c d : List Lt} {N : Int} (hN : 0 ≤ N ∧ N ≤ 1000000) (hdl : d.length ≤ 1000) (hc : ∀ v ∈ cvs c, v < N) (hd : ∀ l ∈ d, l.s16) (hv : ∀ v ∈ cvs d, v < N) : AFun Tryz.prog W 18 [.lst (d.map Lt.cv), .i (topC c + 1)] (.val (.lst ((rnC c d).map Lt.cv))) := by
  obtain ⟨h1, h2⟩ := sid_fit (by omega) (s16_fit hd)
  have h := cRename_abs W d (topC c + 1) (by omega) h1 h2
  have g1 := top_lo c
  have g2 := top_lt hN.1 hc
  have e : d.map (Lt.rep fun v => varT (upV (max (topC c + 1) 0) v)) = rnC c d := List.map_congr_left fun l hl => by
    have e : ∀ t : Tm, (∀ v ∈ t.vs, v ∈ cvs d) → repT (fun v => varT (upV (max (topC c + 1) 0) v)) t = repT (shV (topC c + 1)) t := fun t ht => rep_congr fun v hv2 => by
      have h3 := hv v (ht v hv2)
      have h4 := vs_nonneg t v hv2
      show varT _ = varT _
      congr 1
      unfold upV
      omega
    unfold Lt.rep
    rw [e _ (cvs_a hl), e _ (cvs_b hl)]
  rw [e] at h
  exact h
noncomputable def lkM (free : Bool) (c : List Lt) : List Int := if free = true then upL c.length else lokL c
noncomputable def ldM (free : Bool) : Tm → Tm → Bool := if free = true then fun _ _ => true else leadB
noncomputable def mtM (free : Bool) (c d : List Lt) : List Mt := mtsL (negAt c) (wysL (ldM free) c (lkM free c)) (wysL (ldM free) d (lkM free d))
noncomputable def supM (free : Bool) (c d : List Lt) : List (List Lt) := folL (ldM free) c (rnC c d) (mtM free c (rnC c d))
theorem up_mem {n : Nat} {z : Int} (h : z ∈ upL n) : 0 ≤ z ∧ z < n := by
  obtain ⟨k, hk, rfl⟩ := List.mem_map.1 h
  have := List.mem_range.1 hk
  omega
theorem lk_at (free : Bool) (c : List Lt) : ∀ n ∈ lkM free c, 0 ≤ n ∧ n < c.length := fun n hn => by
  unfold lkM at hn
  split at hn
  · exact up_mem hn
  · exact lok_at hn
theorem lk_len (free : Bool) (c : List Lt) : (lkM free c).length ≤ c.length + 1 := by
  unfold lkM
  split
  · rw [upL_len]; omega
  · exact lok_len c
theorem mt_at {free : Bool} {c d : List Lt} {m : Mt} (h : m ∈ mtM free c d) : MtOk c d m := mts_ok (lk_at free c) (lk_at free d) h
structure Pr2 (free : Bool) (c d : List Lt) : Prop where
  N : ∃ N : Int, (0 ≤ N ∧ N ≤ 1000000) ∧ (∀ v ∈ cvs c, v < N) ∧ ∀ v ∈ cvs d, v < N
  cl : c.length ≤ 10
  dl : d.length ≤ 10
  cs : ∀ l ∈ c, l.s16
  ds : ∀ l ∈ d, l.s16
  pr : ∀ m ∈ mtM free c (rnC c d), PrOk m.fr.a m.pt
theorem Pr2.rn {free : Bool} {c d : List Lt} (h : Pr2 free c d) : ∀ l ∈ rnC c d, l.s16 := by
  obtain ⟨N, h1, h2, h3⟩ := h.N
  exact rn_s16 h1 h2 h.ds h3
theorem wys_s16 {ld : Tm → Tm → Bool} {c : List Lt} {L : List Int} (hc : ∀ l ∈ c, l.s16) {w : Wy} (h : w ∈ wysL ld c L) : w.a.s16 ∧ w.b.s16 := by
  obtain ⟨_, l, h1, h2, _⟩ := wys_mem h
  have := hc l (List.mem_of_getElem? h1)
  rcases h2 with ⟨e1, e2⟩ | ⟨e1, e2⟩
  · rw [e1, e2]; exact this
  · rw [e1, e2]; exact ⟨this.2, this.1⟩
theorem mtM_len {free : Bool} {c d : List Lt} (hc : c.length ≤ 10) (hd : d.length ≤ 10) (hs : ∀ l ∈ d, l.s16) : (mtM free c d).length ≤ 22 * (22 * 16) := by
  have h1 := wys_len (ldM free) c (lkM free c)
  have h2 := wys_len (ldM free) d (lkM free d)
  have h3 := lk_len free c
  have h4 := lk_len free d
  refine Nat.le_trans (mts_len _ _ _ 16 fun w hw => (wys_s16 hs hw).1.2) (Nat.mul_le_mul (by omega) (Nat.mul_le_mul (by omega) (Nat.le_refl _)))
theorem supM_len {free : Bool} {c d : List Lt} (hc : c.length ≤ 10) (hd : d.length ≤ 10) (hs : ∀ l ∈ rnC c d, l.s16) : (supM free c d).length ≤ 7744 :=
  Nat.le_trans (List.length_filterMap_le _ _) (mtM_len hc (by rw [rn_len]; exact hd) hs)
theorem suFol_abs (free : Bool) (fl fd : Nat) (W : World) (c d : List Lt) (h : Pr2 free c d) (hfl : ∀ w (x : List Lt), x.length ≤ 1000 → (∀ l ∈ x, l.s16) → AFun Tryz.prog w fl [.lst (x.map Lt.cv)] (.val (.lst ((lkM free x).map CV.i)))) (hfd : ∀ w (a b : Tm), a.rng ∧ a.ok ∧ a.size ≤ 1000000 → b.rng ∧ b.ok ∧ b.size ≤ 1000000 → AFun Tryz.prog w fd [a.cw, b.cw] (.val (.b (ldM free a b)))) : AFun Tryz.prog W 39 [ruC fl fd, .lst (c.map Lt.cv), .lst (d.map Lt.cv)] (.val (.lst ((supM free c d).map clC))) := by
  obtain ⟨N, n1, n2, n3⟩ := h.N
  have hr := h.rn
  have hdl := h.dl
  have hcl := h.cl
  have hrl := rn_len c d
  have g1 := top_lo c
  have g2 := top_lt n1.1 n2
  have l1 := lk_len free c
  have l2 := lk_len free (rnC c d)
  have hb : ∀ t : Tm, t.s16 → t.rng ∧ t.ok ∧ t.size ≤ 1000000 := fun t ht => ⟨ht.1.1, ht.1.2, by have := ht.2; omega⟩
  have hml := mtM_len (free := free) hcl (by rw [hrl]; exact hdl) hr
  exact suFollows_abs W fl fd (ldM free) c d (rnC c d) (lkM free c) (lkM free (rnC c d)) (topC c) (by omega) (by omega) (by omega) (s16_fit h.cs) (s16_fit hr) (fun w => cTop_abs w c (by omega) fun l hl => ⟨(h.cs l hl).1.1.1, (h.cs l hl).2.1.1⟩) (fun w => cRen_abs w n1 (by omega) n2 h.ds n3) (fun w => hfl w c (by omega) h.cs) (fun w => hfl w _ (by omega) hr) (lk_at free c) (lk_at free _) (by omega) (by omega)
    (fun w l hl => by
      have hs : l.s16 := by
        rcases hl with hl | hl
        · exact h.cs l hl
        · exact hr l hl
      exact ⟨hfd w _ _ (hb _ hs.1) (hb _ hs.2), hfd w _ _ (hb _ hs.2) (hb _ hs.1)⟩) (fun w hw => by have := (wys_s16 hr hw).1.2; omega) (fun w hw => lk_at free c _ (wys_mem hw).1) (by unfold mtM at hml; omega)
    (fun m hm => folOk_mk hfd (by omega) (by omega) h.cs hr (mt_at hm) (h.pr m hm))
theorem afun_ru {P : Program} {W : World} {f fl fd : Nat} {a b : CV} {r : AV} (h : AFun P W f [ruC fl fd, a, b] r) : AFun P W f [.row [.sc (.func (.func fl) #[] #[]), .sc (.func (.func fd) #[] #[])], a, b] r := by
  refine ⟨h.1, h.2.1, h.2.2.1, fun U w vs hW hv => h.2.2.2 U w vs hW ?_⟩
  obtain ⟨u, us, rfl, h1, h2⟩ := hv
  refine ⟨u, us, rfl, ?_, h2⟩
  have key : ∀ (f : Nat) (xs : List Value), Rep U w (.sc (.func (.func f) #[] #[])) xs → Rep U w (.fn f 0 []) xs := fun f xs hx => by
    obtain ⟨rfl, _⟩ := rep_sc.1 hx
    exact rep_fn.2 ⟨[], [], rfl, rfl, rfl, fun c hc => by cases hc⟩
  obtain ⟨xs, e, y1, z1, e1, s1, y2, z2, e2, s2, s3⟩ := vrep_row.1 h1
  exact vrep_row.2 ⟨xs, e, y1, z1, e1, key _ _ s1, y2, z2, e2, key _ _ s2, s3⟩
-- 
theorem suInto_abs (W : World) (c d : List Lt) (h : Pr2 false c d) : AFun Tryz.prog W 13 [.lst (c.map Lt.cv), .lst (d.map Lt.cv)] (.val (.lst ((supM false c d).map clC))) := by
  have hf := fun w => suFol_abs false 37 38 w c d h (fun w x hx hs => by
    have := oLook_abs w x (by omega) fun l hl => ?_
    · exact this
    · exact ⟨⟨(hs l hl).1.1.1, (hs l hl).1.1.2, by have := (hs l hl).1.2; omega⟩, (hs l hl).2.1.1, (hs l hl).2.1.2, by have := (hs l hl).2.2; omega⟩) (fun w a b ha hb => suLeads_abs w a b ha hb)
  refine afun_of (rs := [.lst ((supM false c d).map clC)]) Tryz.func13 Tryz.ntmps13 rfl rfl rfl rfl ?_
  intro w U hW
  refine aS (aR ?_)
  (refine nx (aA (gN rfl) rfl rfl rfl rfl rfl) rfl ?_)
  show AWp _ _ _ _ _ _ _
  refine aS (aR ?_)
  (refine nx (a_buildT [.sc .nilFunc, .sc .nilFunc] (gN rfl) rfl rfl rfl rfl rfl rfl rfl rfl rfl rfl rfl) rfl ?_)
  (refine nx (aM (gN rfl) rfl rfl rfl rfl rfl) rfl ?_)
  (refine nx (aM (gN rfl) rfl rfl rfl rfl rfl) rfl ?_)
  (refine nx (a_call (gN rfl) rfl rfl rfl rfl rfl (afun_ru (hf w))) rfl ?_)
  (refine nx (aA (gN rfl) rfl rfl rfl rfl rfl) rfl ?_)
  show AWp _ _ _ _ _ _ _
  exact aT (And.intro (.inr rfl) rfl)
theorem sup_mem {free : Bool} {c d : List Lt} {z : List Lt} (h : z ∈ supM free c d) : ∃ m, m ∈ mtM free c (rnC c d) ∧ (mgT m.fr.a m.pt).2 = true ∧ z = (joinM m c (rnC c d)).map (Lt.rep (mgS m.fr.a m.pt)) := by
  obtain ⟨m, hm, he⟩ := List.mem_filterMap.1 h
  unfold folC at he
  split at he
  · rename_i hg
    exact ⟨m, hm, hg.1, (Option.some.inj he).symm⟩
  · cases he
theorem sup_fit {free : Bool} {c d : List Lt} (hp : Pr2 free c d) {z : List Lt} (h : z ∈ supM free c d) : z.length + 1 = c.length + d.length ∧ ∀ l ∈ z, l.rok ∧ l.a.size ≤ 100000 ∧ l.b.size ≤ 100000 := by
  obtain ⟨m, hm, _, rfl⟩ := sup_mem h
  have hk := mt_at hm
  have hpr := hp.pr m hm
  refine ⟨by rw [List.length_map, ← rn_len c d]; exact join_len hk, fun l hl => ?_⟩
  obtain ⟨x, hx, rfl⟩ := List.mem_map.1 hl
  obtain ⟨h1, h2, h3⟩ := hk.lits hp.cs hp.rn x hx
  obtain ⟨a1, a2, a3⟩ := hpr.rep h1.1
  obtain ⟨b1, b2, b3⟩ := hpr.rep h1.2
  have m1 := Nat.mul_le_mul_left 2955 h2
  have m2 := Nat.mul_le_mul_left 2955 h3
  exact ⟨⟨⟨a1, a2⟩, b1, b2⟩, by show (repT _ x.a).size ≤ _; omega, by show (repT _ x.b).size ≤ _; omega⟩
theorem atP_ok6 : ∀ {p : List Int} {t s : Tm}, atP p t = some s → t.ok → s.ok
  | [], t, s, h, hr => by cases h; exact hr
  | k :: ks, t, s, h, hr => by
    rw [atP] at h
    cases hp : t.pa k with
    | none => rw [hp] at h; cases h
    | some u =>
      rw [hp] at h
      exact atP_ok6 (p := ks) h (((Tm.ok_iff _).1 hr).2 u (Tm.ps_mem (pa_mem hp)).1)
theorem ten_s16 {t : Tm} (h : t.ten) : t.s16 := ⟨h.1, Nat.le_trans h.2 (by omega)⟩
theorem at_ten {p : List Int} {t s : Tm} (h : atP p t = some s) (ht : t.ten) : s.ten := ⟨⟨(atP_ok h ht.1.1).1, atP_ok6 h ht.1.2⟩, Nat.le_trans (atP_ok h ht.1.1).2 ht.2⟩
theorem rn_ten {c d : List Lt} (hd : ∀ l ∈ d, l.ten) (h : ∀ l ∈ rnC c d, l.s16) : ∀ l ∈ rnC c d, l.ten := fun l hl => by
  have hs := h l hl
  obtain ⟨x, hx, rfl⟩ := List.mem_map.1 hl
  have g1 := top_lo c
  exact ⟨⟨hs.1.1, by show (repT _ x.a).size ≤ 10; rw [sh_size (by omega)]; exact (hd x hx).1.2⟩, hs.2.1, by show (repT _ x.b).size ≤ 10; rw [sh_size (by omega)]; exact (hd x hx).2.2⟩
theorem MtOk.ft {c d : List Lt} {m : Mt} (h : MtOk c d m) (hc : ∀ l ∈ c, l.ten) : m.fr.a.ten ∧ m.fr.b.ten := by
  obtain ⟨l, h1, h2, _⟩ := h.fr
  have := hc l (List.mem_of_getElem? h1)
  rcases h2 with ⟨e1, e2⟩ | ⟨e1, e2⟩
  · rw [e1, e2]; exact this
  · rw [e1, e2]; exact ⟨this.2, this.1⟩
theorem MtOk.tt {c d : List Lt} {m : Mt} (h : MtOk c d m) (hd : ∀ l ∈ d, l.ten) : m.ti.a.ten ∧ m.ti.b.ten := by
  obtain ⟨l, h1, h2⟩ := h.ti
  have := hd l (List.mem_of_getElem? h1)
  rcases h2 with ⟨e1, e2⟩ | ⟨e1, e2⟩
  · rw [e1, e2]; exact this
  · rw [e1, e2]; exact ⟨this.2, this.1⟩
theorem pr_of {c d : List Lt} (free : Bool) {N : Int} (hN : 0 ≤ N ∧ N ≤ 1000000) (hv : ∀ v ∈ cvs c, v < N) (hw : ∀ v ∈ cvs d, v < N) (hcl : c.length ≤ 10) (hdl : d.length ≤ 10) (hc : ∀ l ∈ c, l.ten) (hd : ∀ l ∈ d, l.ten) : Pr2 free c d := by
  have cs : ∀ l ∈ c, l.s16 := fun l hl => ⟨ten_s16 (hc l hl).1, ten_s16 (hc l hl).2⟩
  have ds : ∀ l ∈ d, l.s16 := fun l hl => ⟨ten_s16 (hd l hl).1, ten_s16 (hd l hl).2⟩
  have hr := rn_ten hd (rn_s16 hN hv ds hw)
  refine ⟨⟨N, hN, hv, hw⟩, hcl, hdl, cs, ds, fun m hm => ?_⟩
  have hk := mt_at hm
  exact ten_pr (hk.ft hc).1 (at_ten hk.at_ (hk.tt hr).1)
theorem lok_pos (l : Lt) (h : l.neg = false) : lokL [l] = [0] := by
  have h1 : hvK [l] 1 = (-1, 0) := by
    unfold hvK
    show (if l.neg = true ∧ _ then _ else hvK [l] 0) = _
    rw [if_neg (by rw [h]; rintro ⟨h, _⟩; cases h)]
    rfl
  have hg : gstL [l] l = true := by
    unfold gstL
    rw [List.any_eq_false.2 fun x hx => by
      have : x = l := by simpa using hx
      rw [this, mulB_not.2 (mul_irr _)]; decide]
    rfl
  unfold lokL
  show (if (hvK [l] 1).1 ≥ 0 then _ else gsK [l] 1) = _
  rw [h1, if_neg (by decide)]
  have g0 : gstI [l] 0 = true := hg
  unfold gsK
  have e : List.range 1 = [0] := rfl
  rw [e, List.filter_cons_of_pos (by exact g0)]
  rfl
theorem head_no6 {a b : Tm} (h : PrOk a b) (h1 : ¬ a.f < 0) (h2 : ¬ b.f < 0) (h3 : a.f ≠ b.f) : (mgT a b).2 = false := by
  cases e : (mgT a b).2 with
  | false => rfl
  | true =>
    exfalso
    have hu := (h.tell.yes e).uni
    rw [uni_one, repT_sym h1, repT_sym h2] at hu
    injection hu with e1 _
    exact h3 e1
theorem lead_yes {a b : Tm} (h : kb a b = 1) : leadB a b = true ∧ leadB b a = false := by
  refine ⟨decide_eq_true (.inl h), decide_eq_false ?_⟩
  rw [kb_turn a b, h]
  decide
def x6 : Tm := ⟨-1, []⟩
def o6 : Tm := ⟨1, []⟩
def fx6 : Tm := ⟨3, [x6]⟩
def fo6 : Tm := ⟨3, [o6]⟩
def pf6 : Tm := ⟨4, [fo6]⟩
def po6 : Tm := ⟨4, [o6]⟩
def t6 : Tm := ⟨0, []⟩
def c6 : List Lt := [⟨false, fx6, x6⟩]
def d6 : List Lt := [⟨false, pf6, t6⟩]
theorem x6_ten : x6.ten := ⟨⟨by simp [x6, Tm.rng], by simp [x6, Tm.ok]⟩, by simp [x6, Tm.size, Tm.flat]⟩
theorem o6_ten : o6.ten := ⟨⟨by simp [o6, Tm.rng], by simp [o6, Tm.ok]⟩, by simp [o6, Tm.size, Tm.flat]⟩
theorem fx6_ten : fx6.ten := ⟨⟨by simp [fx6, x6, Tm.rng], by simp [fx6, x6, Tm.ok]⟩, by simp [fx6, x6, Tm.size, Tm.flat]⟩
theorem fo6_ten : fo6.ten := ⟨⟨by simp [fo6, o6, Tm.rng], by simp [fo6, o6, Tm.ok]⟩, by simp [fo6, o6, Tm.size, Tm.flat]⟩
theorem pf6_ten : pf6.ten := ⟨⟨by simp [pf6, fo6, o6, Tm.rng], by simp [pf6, fo6, o6, Tm.ok]⟩, by simp [pf6, fo6, o6, Tm.size, Tm.flat]⟩
theorem t6_ten : t6.ten := ⟨⟨by simp [t6, Tm.rng], by simp [t6, Tm.ok]⟩, by simp [t6, Tm.size, Tm.flat]⟩
theorem c6_ten : ∀ l ∈ c6, l.ten := fun l hl => by
  simp only [c6, List.mem_cons, List.not_mem_nil, or_false] at hl
  subst hl; exact ⟨fx6_ten, x6_ten⟩
theorem d6_ten : ∀ l ∈ d6, l.ten := fun l hl => by
  simp only [d6, List.mem_cons, List.not_mem_nil, or_false] at hl
  subst hl; exact ⟨pf6_ten, t6_ten⟩
theorem rep_fo6 (σ : Int → Tm) : repT σ fo6 = fo6 := by simp [fo6, o6, repT]
theorem rep_pf6 (σ : Int → Tm) : repT σ pf6 = pf6 := by simp [pf6, fo6, o6, repT]
theorem rep_t6 (σ : Int → Tm) : repT σ t6 = t6 := by simp [t6, repT]
theorem rep_x6 (σ : Int → Tm) : repT σ x6 = (σ 0).strip := by simp [x6, repT]
theorem rep_fx6 (σ : Int → Tm) : repT σ fx6 = ⟨3, [(σ 0).strip]⟩ := by simp [fx6, x6, repT]
theorem pr6 : Pr2 false c6 d6 := by
  have e1 : cvs c6 = [0, 0] := by simp [cvs, c6, fx6, x6, Tm.vs, vsL, Tm.flat]
  have e2 : cvs d6 = [] := by simp [cvs, d6, pf6, fo6, o6, t6, Tm.vs, vsL, Tm.flat]
  exact pr_of false (N := 1) (by omega) (fun v hv => by rw [e1] at hv; simp at hv; omega) (fun v hv => by rw [e2] at hv; cases hv) (by simp [c6]) (by simp [d6]) c6_ten d6_ten
theorem mg6 : (mgT fx6 fo6).2 = true ∧ (mgS fx6 fo6 0).strip = o6 := by
  have hT := mg_told fx6_ten fo6_ten
  have h2 : (mgT fx6 fo6).2 = true := by
    cases h : (mgT fx6 fo6).2 with
    | true => rfl
    | false =>
      exfalso
      refine (hT.no h).2 (fun _ => o6) ?_
      rw [uni_one, rep_fx6, rep_fo6]
      simp [fo6, o6, Tm.strip]
  refine ⟨h2, ?_⟩
  have hu := (hT.yes h2).uni
  rw [uni_one, rep_fx6, rep_fo6] at hu
  have hu : (⟨3, [(mgS fx6 fo6 0).strip]⟩ : Tm) = ⟨3, [o6]⟩ := hu
  injection hu with _ h3
  injection h3
theorem kfx6 : kb fx6 x6 = 1 := kb_at (p := [0]) rfl (by simp)
theorem kfo6 : kb fo6 o6 = 1 := kb_at (p := [0]) rfl (by simp)
theorem kpf6 : kb pf6 t6 = 1 := by
  rw [kb_one]
  refine ⟨?_, .inl ?_⟩
  · intro v
    have : t6.vs = [] := by simp [t6, Tm.vs, vsL, Tm.flat]
    rw [this]; simp
  · simp [pf6, fo6, o6, t6, Tm.size, Tm.flat]
theorem sup6 : supM false c6 d6 = [[⟨false, po6, t6⟩]] := by
  have er : rnC c6 d6 = d6 := by unfold rnC d6; simp only [List.map_cons, List.map_nil, Lt.rep, rep_pf6, rep_t6]
  have w1 : wysL leadB c6 (lokL c6) = [⟨0, fx6, x6⟩] := by
    rw [show lokL c6 = [0] from lok_pos _ rfl]
    show wysN leadB c6 0 ++ [] = _
    rw [List.append_nil]
    show ([⟨0, fx6, x6⟩, ⟨0, x6, fx6⟩] : List Wy).filter (fun w => leadB w.a w.b) = _
    simp [List.filter_cons, (lead_yes kfx6).1, (lead_yes kfx6).2]
  have w2 : wysL leadB d6 (lokL d6) = [⟨0, pf6, t6⟩] := by
    rw [show lokL d6 = [0] from lok_pos _ rfl]
    show wysN leadB d6 0 ++ [] = _
    rw [List.append_nil]
    show ([⟨0, pf6, t6⟩, ⟨0, t6, pf6⟩] : List Wy).filter (fun w => leadB w.a w.b) = _
    simp [List.filter_cons, (lead_yes kpf6).1, (lead_yes kpf6).2]
  have e0 : sy pf6 [] = [([], pf6), ([0], fo6), ([0, 0], o6)] := by
    rw [sy_eq, if_neg (by show ¬ (4 : Int) < 0; decide), show pf6.l = [fo6] from rfl, syL_cons, syL_nil, List.append_nil, sy_eq, if_neg (by show ¬ (3 : Int) < 0; decide), show fo6.l = [o6] from rfl, syL_cons, syL_nil, List.append_nil, sy_eq, if_neg (by show ¬ (1 : Int) < 0; decide), show o6.l = [] from rfl, syL_nil]
    rfl
  have em : mtM false c6 d6 = [⟨⟨0, fx6, x6⟩, ⟨0, pf6, t6⟩, [], pf6⟩, ⟨⟨0, fx6, x6⟩, ⟨0, pf6, t6⟩, [0], fo6⟩, ⟨⟨0, fx6, x6⟩, ⟨0, pf6, t6⟩, [0, 0], o6⟩] := by
    unfold mtM
    show mtsL (negAt c6) (wysL leadB c6 (lokL c6)) (wysL leadB d6 (lokL d6)) = _
    rw [w1, w2]
    show mtN (negAt c6) _ _ ++ [] = _
    rw [List.append_nil]
    unfold mtN
    rw [if_neg (by show ¬ negAt c6 0 = true; decide)]
    show mtI _ _ ++ [] = _
    rw [List.append_nil]
    unfold mtI
    simp only [e0]
    rfl
  obtain ⟨g1, g2⟩ := mg6
  unfold supM
  rw [er, em]
  have f1 : folC (ldM false) c6 d6 ⟨⟨0, fx6, x6⟩, ⟨0, pf6, t6⟩, [], pf6⟩ = none := by
    unfold folC
    rw [if_neg]
    rintro ⟨h, _⟩
    have := head_no6 (ten_pr fx6_ten pf6_ten) (by show ¬ (3 : Int) < 0; decide) (by show ¬ (4 : Int) < 0; decide) (by show (3 : Int) ≠ 4; decide)
    rw [this] at h; cases h
  have f3 : folC (ldM false) c6 d6 ⟨⟨0, fx6, x6⟩, ⟨0, pf6, t6⟩, [0, 0], o6⟩ = none := by
    unfold folC
    rw [if_neg]
    rintro ⟨h, _⟩
    have := head_no6 (ten_pr fx6_ten o6_ten) (by show ¬ (3 : Int) < 0; decide) (by show ¬ (1 : Int) < 0; decide) (by show (3 : Int) ≠ 1; decide)
    rw [this] at h; cases h
  have f2 : folC (ldM false) c6 d6 ⟨⟨0, fx6, x6⟩, ⟨0, pf6, t6⟩, [0], fo6⟩ = some [⟨false, po6, t6⟩] := by
    unfold folC
    simp only [rep_fx6, rep_x6, rep_pf6, rep_t6, g2]
    rw [if_pos ⟨g1, (lead_yes kfo6).1, (lead_yes kpf6).1⟩]
    have ej : joinM ⟨⟨0, fx6, x6⟩, ⟨0, pf6, t6⟩, [0], fo6⟩ c6 d6 = [⟨false, ⟨4, [x6]⟩, t6⟩] := by
      unfold joinM
      have e1 : (putP x6 [0] pf6).getD ⟨0, []⟩ = ⟨4, [x6]⟩ := by
        simp [putP, pf6, Tm.pa, Tm.ps, x6, Tm.strip]
      rw [e1]
      rfl
    rw [ej]
    have e2 : repT (mgS fx6 fo6) ⟨4, [x6]⟩ = po6 := by
      have : repT (mgS fx6 fo6) ⟨4, [x6]⟩ = ⟨4, [repT (mgS fx6 fo6) x6]⟩ := by rw [repT_sym (by show ¬ (4 : Int) < 0; decide)]; rfl
      rw [this, rep_x6, g2]; rfl
    simp only [List.map_cons, List.map_nil, Lt.rep, e2, rep_t6]
  unfold folL
  rw [List.filterMap_cons, f1, List.filterMap_cons, f2, List.filterMap_cons, f3]
  rfl
-- 
theorem al1_16 (W : World) (t : CV) (f : Int) (l : List CV) (ht : t = .row [.i f, .lst l]) : AFun Tryz.prog W 23 [t] (.val (.row [.i 3, .lst [t]])) := by
  subst ht
  refine afun_of (rs := [.row [.i 3, .lst [.row [.i f, .lst l]]]]) Tryz.func23 Tryz.ntmps23 rfl rfl rfl rfl ?_
  intro w U hW
  refine aS (aR ?_)
  (refine nx (a_box (gN rfl) rfl rfl rfl rfl rfl) rfl ?_)
  (refine nx (a_alloc (gN rfl) rfl rfl rfl rfl rfl rfl rfl rfl rfl rfl) rfl ?_)
  show AWp _ _ _ _ _ _ _
  refine aS (aR ?_)
  (refine nx (aL (gN rfl) rfl rfl rfl rfl rfl rfl rfl rfl rfl rfl rfl rfl) rfl ?_)
  (refine nx (a_bslice (gN rfl) rfl rfl rfl rfl rfl rfl rfl rfl rfl rfl rfl rfl rfl) rfl ?_)
  (refine nx (a_build (gN rfl) rfl rfl rfl rfl rfl rfl rfl rfl rfl rfl rfl) rfl ?_)
  (refine nx (aSt (gN rfl) rfl rfl rfl rfl rfl rfl rfl rfl rfl rfl) rfl ?_)
  show AWp _ _ _ _ _ _ _
  exact aT (And.intro (.inr rfl) rfl)
-- 
theorem al2_16 (W : World) (t : CV) (f : Int) (l : List CV) (ht : t = .row [.i f, .lst l]) : AFun Tryz.prog W 24 [t] (.val (.row [.i 4, .lst [t]])) := by
  subst ht
  refine afun_of (rs := [.row [.i 4, .lst [.row [.i f, .lst l]]]]) Tryz.func24 Tryz.ntmps24 rfl rfl rfl rfl ?_
  intro w U hW
  refine aS (aR ?_)
  (refine nx (a_box (gN rfl) rfl rfl rfl rfl rfl) rfl ?_)
  (refine nx (a_alloc (gN rfl) rfl rfl rfl rfl rfl rfl rfl rfl rfl rfl) rfl ?_)
  show AWp _ _ _ _ _ _ _
  refine aS (aR ?_)
  (refine nx (aL (gN rfl) rfl rfl rfl rfl rfl rfl rfl rfl rfl rfl rfl rfl) rfl ?_)
  (refine nx (a_bslice (gN rfl) rfl rfl rfl rfl rfl rfl rfl rfl rfl rfl rfl rfl rfl) rfl ?_)
  (refine nx (a_build (gN rfl) rfl rfl rfl rfl rfl rfl rfl rfl rfl rfl rfl) rfl ?_)
  (refine nx (aSt (gN rfl) rfl rfl rfl rfl rfl rfl rfl rfl rfl rfl) rfl ?_)
  show AWp _ _ _ _ _ _ _
  exact aT (And.intro (.inr rfl) rfl)
-- 
set_option maxHeartbeats 4000000 in
theorem alive16_abs (W : World) : AFun Tryz.prog W 7 [] (.val (.b true)) := by
  have hR := fun w => suInto_abs w c6 d6 pr6
  rw [sup6] at hR
  have hc : c6.map Lt.cv = [.row [.b false, .row [.i 3, .lst [.row [.i (-1), .lst []]]], .row [.i (-1), .lst []]]] := by simp [c6, fx6, x6, Lt.cv, Tm.cv_eq]
  have hd : d6.map Lt.cv = [.row [.b false, .row [.i 4, .lst [.row [.i 3, .lst [.row [.i 1, .lst []]]]]], .row [.i 0, .lst []]]] := by simp [d6, pf6, fo6, o6, t6, Lt.cv, Tm.cv_eq]
  have hr : ([[⟨false, po6, t6⟩]] : List (List Lt)).map clC = [.lst [.row [.b false, .row [.i 4, .lst [.row [.i 1, .lst []]]], .row [.i 0, .lst []]]]] := by simp [clC, po6, o6, t6, Lt.cv, Tm.cv_eq]
  rw [hc, hd, hr] at hR
  have a1 := fun w t f l ht => al1_16 w t f l ht
  have k1 : ∀ w, AFunW Tryz.prog w (.sc (.func (.func 23) #[] #[])) [.row [.i (-1), .lst []]] (.val (.row [.i 3, .lst [.row [.i (-1), .lst []]]])) := fun w => .inr ⟨_, rfl, al1_16 w _ _ _ rfl⟩
  have k2 : ∀ w, AFunW Tryz.prog w (.sc (.func (.func 23) #[] #[])) [.row [.i 1, .lst []]] (.val (.row [.i 3, .lst [.row [.i 1, .lst []]]])) := fun w => .inr ⟨_, rfl, al1_16 w _ _ _ rfl⟩
  have k3 : ∀ w, AFunW Tryz.prog w (.sc (.func (.func 24) #[] #[])) [.row [.i 3, .lst [.row [.i 1, .lst []]]]] (.val (.row [.i 4, .lst [.row [.i 3, .lst [.row [.i 1, .lst []]]]]])) := fun w => .inr ⟨_, rfl, al2_16 w _ _ _ rfl⟩
  refine afun_of (rs := [.b true]) Tryz.func7 Tryz.ntmps7 rfl rfl rfl rfl ?_
  intro w U hW
  refine aS (aR ?_)
  (refine nx (aA (gN rfl) rfl rfl rfl rfl rfl) rfl ?_)
  show AWp _ _ _ _ _ _ _
  refine aS (aR ?_)
  (refine nx (a_buildT [.i 0, .lst []] (gN rfl) rfl rfl rfl rfl rfl rfl rfl rfl rfl rfl rfl) rfl ?_)
  (refine nx (a_alloc (gN rfl) rfl rfl rfl rfl rfl rfl rfl rfl rfl rfl) rfl ?_)
  (refine nx (aSt (gN rfl) rfl rfl rfl rfl rfl rfl rfl rfl rfl rfl) rfl ?_)
  show AWp _ _ _ _ _ _ _
  refine aS (aR ?_)
  (refine nx (aA (gN rfl) rfl rfl rfl rfl rfl) rfl ?_)
  show AWp _ _ _ _ _ _ _
  refine aS (aR ?_)
  (refine nx (aA (gN rfl) rfl rfl rfl rfl rfl) rfl ?_)
  show AWp _ _ _ _ _ _ _
  refine aS (aD (by kernel_rfl) (by kernel_rfl) ?_)
  (refine nx (aM (gN rfl) rfl rfl rfl rfl rfl) rfl ?_)
  (refine nx (aL (gN rfl) rfl rfl rfl rfl rfl rfl rfl rfl rfl rfl rfl rfl) rfl ?_)
  (refine nx (a_callw (gN rfl) rfl rfl rfl rfl rfl rfl (k1 w)) rfl ?_)
  (refine nx (aL (gN rfl) rfl rfl rfl rfl rfl rfl rfl rfl rfl rfl rfl rfl) rfl ?_)
  (refine nx (a_buildT ltZ3 (gN rfl) rfl rfl rfl rfl rfl rfl rfl rfl rfl rfl rfl) rfl ?_)
  (refine nx (a_bslice (gN rfl) rfl rfl rfl rfl rfl rfl rfl rfl rfl rfl rfl rfl rfl) rfl ?_)
  (refine nx (aM (gN rfl) rfl rfl rfl rfl rfl) rfl ?_)
  (refine nx (aM (gN rfl) rfl rfl rfl rfl rfl) rfl ?_)
  (refine nx (a_buildT [.i 0, .lst []] (gN rfl) rfl rfl rfl rfl rfl rfl rfl rfl rfl rfl rfl) rfl ?_)
  (refine nx (a_callw (gN rfl) rfl rfl rfl rfl rfl rfl (k2 w)) rfl ?_)
  (refine nx (a_callw (gN rfl) rfl rfl rfl rfl rfl rfl (k3 w)) rfl ?_)
  (refine nx (a_buildT ltZ3 (gN rfl) rfl rfl rfl rfl rfl rfl rfl rfl rfl rfl rfl) rfl ?_)
  (refine nx (a_bslice (gN rfl) rfl rfl rfl rfl rfl rfl rfl rfl rfl rfl rfl rfl rfl) rfl ?_)
  (refine nx (a_call (gN rfl) rfl rfl rfl rfl rfl (hR w)) rfl ?_)
  (refine nx (aA (gN rfl) rfl rfl rfl rfl rfl) rfl ?_)
  refine ⟨by kernel_rfl, ?_⟩
  show AWp _ _ _ _ _ _ _
  refine aS (aR ?_)
  (refine nx (aM (gN rfl) rfl rfl rfl rfl rfl) rfl ?_)
  (refine nx (a_len (gN rfl) rfl rfl rfl rfl rfl rfl rfl) rfl ?_)
  (refine nx (a_eql (gN rfl) rfl rfl rfl rfl rfl rfl) rfl ?_)
  (refine nx (aM (gN rfl) rfl rfl rfl rfl rfl) rfl ?_)
  (refine nx (aM (gd_on rfl rfl rfl rfl (by first | rfl | assumption | (simp; done))) rfl rfl rfl rfl rfl) rfl ?_)
  (refine nx (a_index (j := 0) (gd_on rfl rfl rfl rfl (by first | rfl | assumption | (simp; done))) rfl rfl rfl rfl rfl rfl rfl rfl rfl (rfl) rfl (sZ rfl)) rfl ?_)
  (refine nx (a_load_ad (gd_on rfl rfl rfl rfl (by first | rfl | assumption | (simp; done))) rfl rfl rfl rfl rfl rfl rfl rfl rfl) rfl ?_)
  (refine nx (a_len (gd_on rfl rfl rfl rfl (by first | rfl | assumption | (simp; done))) rfl rfl rfl rfl rfl rfl rfl) rfl ?_)
  (refine nx (a_eql (gd_on rfl rfl rfl rfl (by first | rfl | assumption | (simp; done))) rfl rfl rfl rfl rfl rfl) rfl ?_)
  (refine ⟨_, _, _, aPt (gN rfl) rfl rfl rfl rfl rfl ?hb rfl, rfl, ?_⟩; case hb => (first | rfl | assumption | (simp; done)))
  (refine nx (aM (gN rfl) rfl rfl rfl rfl rfl) rfl ?_)
  (refine nx (aM (gd_on rfl rfl rfl rfl (by first | rfl | assumption | (simp; done))) rfl rfl rfl rfl rfl) rfl ?_)
  (refine nx (a_index (j := 0) (gd_on rfl rfl rfl rfl (by first | rfl | assumption | (simp; done))) rfl rfl rfl rfl rfl rfl rfl rfl rfl (rfl) rfl (sZ rfl)) rfl ?_)
  (refine nx (a_load_ad (gd_on rfl rfl rfl rfl (by first | rfl | assumption | (simp; done))) rfl rfl rfl rfl rfl rfl rfl rfl rfl) rfl ?_)
  (refine nx (a_index (j := 0) (gd_on rfl rfl rfl rfl (by first | rfl | assumption | (simp; done))) rfl rfl rfl rfl rfl rfl rfl rfl rfl (rfl) rfl (sZ rfl)) rfl ?_)
  (refine nx (a_field_ad (gd_on rfl rfl rfl rfl (by first | rfl | assumption | (simp; done))) rfl rfl rfl rfl rfl rfl rfl rfl rfl rfl rfl) rfl ?_)
  (refine nx (a_field_ad (gd_on rfl rfl rfl rfl (by first | rfl | assumption | (simp; done))) rfl rfl rfl rfl rfl rfl rfl rfl rfl rfl rfl) rfl ?_)
  (refine nx (a_load_ad (gd_on rfl rfl rfl rfl (by first | rfl | assumption | (simp; done))) rfl rfl rfl rfl rfl rfl rfl rfl rfl) rfl ?_)
  (refine nx (a_index (j := 0) (gd_on rfl rfl rfl rfl (by first | rfl | assumption | (simp; done))) rfl rfl rfl rfl rfl rfl rfl rfl rfl (rfl) rfl (sZ rfl)) rfl ?_)
  (refine nx (a_field_ad (gd_on rfl rfl rfl rfl (by first | rfl | assumption | (simp; done))) rfl rfl rfl rfl rfl rfl rfl rfl rfl rfl rfl) rfl ?_)
  (refine nx (a_load_ad (gd_on rfl rfl rfl rfl (by first | rfl | assumption | (simp; done))) rfl rfl rfl rfl rfl rfl rfl rfl rfl) rfl ?_)
  (refine nx (a_eql (gd_on rfl rfl rfl rfl (by first | rfl | assumption | (simp; done))) rfl rfl rfl rfl rfl rfl) rfl ?_)
  (refine ⟨_, _, _, aPt (gN rfl) rfl rfl rfl rfl rfl ?hb rfl, rfl, ?_⟩; case hb => (first | rfl | assumption | (simp; done)))
  (refine nx (aA (gN rfl) rfl rfl rfl rfl rfl) rfl ?_)
  show AWp _ _ _ _ _ _ _
  exact aT (And.intro (.inr rfl) rfl)
end Go.Proofs.YteegmcfobgpemaaGreat
