/-
  SupUnits: a unit of a greater side and a lesser one rewrites an atom that has it inside.
-/
import Derived.Test.YteegmcfobgpemaaGreatMg12
import Derived.Test.YteegmcfobgpemaaGreatMg9
import Derived.Test.YteegmcfobgpemaaGreatAbShp
namespace Go.Proofs.YteegmcfobgpemaaGreat
open Go.RowKit
set_option linter.unusedVariables false
set_option linter.unusedSimpArgs false
set_option maxRecDepth 100000

def cntN (c : List Lt) : Nat := (c.filter Lt.neg).length
theorem cntN_app (a b : List Lt) : cntN (a ++ b) = cntN a + cntN b := by unfold cntN; rw [List.filter_append, List.length_append]
theorem cntN_map (g : Lt → Lt) (hg : ∀ l, (g l).neg = l.neg) (c : List Lt) : cntN (c.map g) = cntN c := by
  unfold cntN
  rw [List.filter_map, List.length_map]
  congr 2
  funext l
  exact hg l
theorem cntN_rep (σ : Int → Tm) (c : List Lt) : cntN (c.map (Lt.rep σ)) = cntN c := cntN_map (Lt.rep σ) (fun _ => rfl) c
theorem cntN_strip (c : List Lt) : cntN (c.map Lt.strip) = cntN c := cntN_map Lt.strip (fun _ => rfl) c
theorem cntN_le (c : List Lt) : cntN c ≤ c.length := List.length_filter_le _ _
theorem cntN_off {c : List Lt} {n : Nat} {l : Lt} (h : c[n]? = some l) : cntN (offL c n) + (if l.neg = true then 1 else 0) = cntN c := by
  have e : c = c.take n ++ l :: c.drop (n + 1) := by
    conv => lhs; rw [← List.take_append_drop n c, drop_at h]
  conv => rhs; rw [e]
  unfold offL
  rw [cntN_app, cntN_app]
  unfold cntN
  rw [List.filter_cons]
  cases l.neg <;> simp <;> omega
theorem rn_at {c d : List Lt} {n : Nat} : (rnC c d)[n]? = (d[n]?).map (Lt.rep (shV (topC c + 1))) := by unfold rnC; rw [List.getElem?_map]
theorem sup_cnt {free : Bool} {c d z : List Lt} (h : z ∈ supM free c d) : cntN z = cntN c + cntN d := by
  obtain ⟨m, hm, _, rfl⟩ := sup_mem h
  have hk := mt_at hm
  rw [cntN_rep]
  unfold joinM
  rw [cntN_app, cntN_app, cntN_strip, cntN_strip]
  obtain ⟨l, h1, _, h3⟩ := hk.fr
  obtain ⟨k, k1, _⟩ := hk.ti
  have a1 := cntN_off h1
  rw [h3, if_neg (by simp)] at a1
  have a2 := cntN_off k1
  have a3 : cntN (rnC c d) = cntN d := cntN_rep _ d
  have a4 : negAt (rnC c d) m.ti.n = k.neg := by unfold negAt; rw [k1]
  rw [a4]
  have a5 : cntN [(⟨k.neg, (putP m.fr.b m.pl m.ti.a).getD ⟨0, []⟩, m.ti.b⟩ : Lt)] = if k.neg = true then 1 else 0 := by
    unfold cntN
    rw [List.filter_cons]
    cases k.neg <;> rfl
  rw [a5]
  omega

theorem lok_neg (l : Lt) (h : l.neg = true) : lokL [l] = [0] := by
  have h1 : hvK [l] 1 = (0, wtL l) := by
    unfold hvK
    show (if l.neg = true ∧ (hvK [l] 0).2 < wtL l then _ else _) = _
    rw [if_pos ⟨h, wtL_pos l⟩]; rfl
  unfold lokL
  show (if (hvK [l] 1).1 ≥ 0 then _ else _) = _
  rw [h1, if_pos (show (0 : Int) ≥ 0 by decide)]
  show [(hvK [l] 1).1] = [0]
  rw [h1]
def twU (b : Tm) : Nat → Tm
  | 0 => b
  | k + 1 => ⟨7, [twU b k]⟩
def u9 (t : Tm) : Tm := ⟨9, [t]⟩
def u6 (t : Tm) : Tm := ⟨6, [t]⟩
theorem one_rng {f : Int} {t : Tm} (hf : 0 ≤ f ∧ f ≤ 100) (h : t.rng ∧ t.ok) : (⟨f, [t]⟩ : Tm).rng ∧ (⟨f, [t]⟩ : Tm).ok := by
  refine ⟨(Tm.rng_iff _).2 ⟨⟨?_, ?_⟩, fun s hs => ?_⟩, (Tm.ok_iff _).2 ⟨by simp, fun s hs => ?_⟩⟩
  · show _ ≤ f; omega
  · show f ≤ _; omega
  · rw [show (⟨f, [t]⟩ : Tm).l = [t] from rfl, List.mem_singleton] at hs; rw [hs]; exact h.1
  · rw [show (⟨f, [t]⟩ : Tm).l = [t] from rfl, List.mem_singleton] at hs; rw [hs]; exact h.2
theorem one_size {f : Int} {t : Tm} (hf : 0 ≤ f) : (⟨f, [t]⟩ : Tm).size = 1 + t.size := by
  rw [Tm.size_sym (show ¬ (⟨f, [t]⟩ : Tm).f < 0 by show ¬ f < 0; omega)]
  simp
theorem one_rep {f : Int} {t : Tm} (hf : 0 ≤ f) (σ : Int → Tm) : repT σ ⟨f, [t]⟩ = ⟨f, [repT σ t]⟩ := by
  rw [repT_sym (show ¬ (⟨f, [t]⟩ : Tm).f < 0 by show ¬ f < 0; omega)]; rfl
theorem one_pa {f : Int} {t : Tm} (hf : 0 ≤ f) : (⟨f, [t]⟩ : Tm).pa 0 = some t := by
  unfold Tm.pa
  rw [if_pos (by omega), Tm.ps_of_sym (by show 0 ≤ f; exact hf)]
  rfl
theorem one_pa2 {f : Int} {t s : Tm} {n : Int} (h : (⟨f, [t]⟩ : Tm).pa n = some s) : s = t := by
  obtain ⟨m, rfl, h1, h2⟩ := pa_nat h
  cases m with
  | zero => cases h1; rfl
  | succ m => simp at h1
theorem tw_rng {b : Tm} (h : b.rng ∧ b.ok) : ∀ k, (twU b k).rng ∧ (twU b k).ok
  | 0 => h
  | k + 1 => one_rng (by omega) (tw_rng h k)
theorem tw_size (b : Tm) : ∀ k, (twU b k).size = k + b.size
  | 0 => by rw [Nat.zero_add]; rfl
  | k + 1 => by
    show (⟨7, [twU b k]⟩ : Tm).size = _
    rw [one_size (by decide), tw_size b k]; omega
theorem tw_rep (σ : Int → Tm) (b : Tm) : ∀ k, repT σ (twU b k) = twU (repT σ b) k
  | 0 => rfl
  | k + 1 => by
    show repT σ ⟨7, [twU b k]⟩ = ⟨7, [twU (repT σ b) k]⟩
    rw [one_rep (by decide), tw_rep σ b k]
theorem tw_part {b : Tm} (hb : b.rng) : ∀ (k : Nat) (p : List Int) (s : Tm), atP p (twU b k) = some s → s.f = 7 ∨ s.size ≤ b.size
  | 0, p, s, h => .inr (atP_ok h hb).2
  | k + 1, [], s, h => by
    have h : some (⟨7, [twU b k]⟩ : Tm) = some s := h
    cases h
    exact .inl rfl
  | k + 1, n :: p, s, h => by
    have h : (Tm.pa (⟨7, [twU b k]⟩ : Tm) n).bind (atP p) = some s := h
    cases hp : Tm.pa (⟨7, [twU b k]⟩ : Tm) n with
    | none => rw [hp] at h; cases h
    | some x =>
      rw [hp, Option.bind_some] at h
      rw [one_pa2 hp] at h
      exact tw_part hb k p s h
theorem u9_part {b : Tm} (hb : b.rng) {k : Nat} {p : List Int} {s : Tm} (h : atP p (u9 (twU b k)) = some s) : s.f = 9 ∨ s.f = 7 ∨ s.size ≤ b.size := by
  cases p with
  | nil =>
    have h : some (u9 (twU b k)) = some s := h
    cases h
    exact .inl rfl
  | cons n p =>
    have h : (Tm.pa (⟨9, [twU b k]⟩ : Tm) n).bind (atP p) = some s := h
    cases hp : Tm.pa (⟨9, [twU b k]⟩ : Tm) n with
    | none => rw [hp] at h; cases h
    | some x =>
      rw [hp, Option.bind_some] at h
      rw [one_pa2 hp] at h
      exact .inr (tw_part hb k p s h)
def zsP : Nat → List Int
  | 0 => []
  | k + 1 => 0 :: zsP k
theorem tw_sy {b : Tm} (hb : ¬ b.f < 0) : ∀ (k : Nat) (pl : List Int), (pl ++ zsP k, b) ∈ sy (twU b k) pl
  | 0, pl => by
    rw [show twU b 0 = b from rfl, sy_eq, if_neg hb, show zsP 0 = [] from rfl, List.append_nil]
    exact List.mem_cons_self
  | k + 1, pl => by
    show (pl ++ 0 :: zsP k, b) ∈ sy ⟨7, [twU b k]⟩ pl
    rw [sy_eq, if_neg (by show ¬ (7 : Int) < 0; decide), show (⟨7, [twU b k]⟩ : Tm).l = [twU b k] from rfl, syL_cons, syL_nil, List.append_nil]
    refine List.mem_cons_of_mem _ ?_
    have := tw_sy hb k (pl ++ [((0 : Nat) : Int)])
    rw [List.append_assoc] at this
    exact this
theorem u9_sy {b : Tm} (hb : ¬ b.f < 0) (k : Nat) : (0 :: zsP k, b) ∈ sy (u9 (twU b k)) [] := by
  show _ ∈ sy ⟨9, [twU b k]⟩ []
  rw [sy_eq, if_neg (by show ¬ (9 : Int) < 0; decide), show (⟨9, [twU b k]⟩ : Tm).l = [twU b k] from rfl, syL_cons, syL_nil, List.append_nil]
  exact List.mem_cons_of_mem _ (tw_sy hb k [((0 : Nat) : Int)])
theorem rep_ge (σ : Int → Tm) (t : Tm) : t.size ≤ (repT σ t).size := by
  induction t using Tm.ind with
  | h f l ih =>
    by_cases hf : f < 0
    · rw [Tm.size_var (show (⟨f, l⟩ : Tm).f < 0 from hf)]; exact Tm.size_pos _
    · have e : repT σ (⟨f, l⟩ : Tm) = ⟨f, l.map (repT σ)⟩ := repT_sym hf
      rw [e, Tm.size_sym (show ¬ (⟨f, l⟩ : Tm).f < 0 from hf), Tm.size_sym (show ¬ (⟨f, l.map (repT σ)⟩ : Tm).f < 0 from hf)]
      have : ∀ L : List Tm, (∀ t ∈ L, t.size ≤ (repT σ t).size) → (L.map Tm.size).sum ≤ ((L.map (repT σ)).map Tm.size).sum := fun L => by
        induction L with
        | nil => intro _; exact Nat.le_refl _
        | cons x L ih =>
          intro h
          rw [List.map_cons, List.map_cons, List.map_cons, List.sum_cons, List.sum_cons]
          have a1 := h x (by simp)
          have a2 := ih fun t ht => h t (List.mem_cons_of_mem _ ht)
          omega
      have := this l ih
      show 1 + (l.map Tm.size).sum ≤ 1 + ((l.map (repT σ)).map Tm.size).sum
      omega
def cU (a : Tm) : List Lt := [⟨false, u6 a, a⟩]
def dU (a : Tm) (k : Nat) : List Lt := [⟨true, u9 (twU (u6 a) k), t6⟩]
theorem vs_one {f : Int} (hf : 0 ≤ f) (t : Tm) : (⟨f, [t]⟩ : Tm).vs = t.vs := by
  unfold Tm.vs vsL
  rw [Tm.flat_eq, Tm.ps_of_sym (t := ⟨f, [t]⟩) (by show 0 ≤ f; exact hf)]
  rw [List.filter_cons, if_neg (by show ¬ decide (f < 0) = true; rw [decide_eq_true_eq]; omega)]
  simp
theorem vs_tw (b : Tm) : ∀ k, (twU b k).vs = b.vs
  | 0 => rfl
  | k + 1 => by
    show (⟨7, [twU b k]⟩ : Tm).vs = _
    rw [vs_one (by decide), vs_tw b k]
theorem cvs_cU (a : Tm) : ∀ v ∈ cvs (cU a), v ∈ a.vs := fun v hv => by
  simp only [cvs, cU, List.flatMap_cons, List.flatMap_nil, List.append_nil] at hv
  rcases List.mem_append.1 hv with h | h
  · rw [show (u6 a).vs = a.vs from vs_one (by decide) a] at h; exact h
  · exact h
theorem cvs_dU (a : Tm) (k : Nat) : ∀ v ∈ cvs (dU a k), v ∈ a.vs := fun v hv => by
  simp only [cvs, dU, List.flatMap_cons, List.flatMap_nil, List.append_nil] at hv
  rcases List.mem_append.1 hv with h | h
  · rw [show (u9 (twU (u6 a) k)).vs = (twU (u6 a) k).vs from vs_one (by decide) _, vs_tw, show (u6 a).vs = a.vs from vs_one (by decide) a] at h; exact h
  · have : t6.vs = [] := by simp [t6, Tm.vs, vsL, Tm.flat]
    rw [this] at h; cases h
theorem kU (a : Tm) : kb (u6 a) a = 1 := kb_at (p := [0]) (by show (Tm.pa (⟨6, [a]⟩ : Tm) 0).bind (atP []) = _; rw [one_pa (by decide)]; rfl) (by simp)
theorem k9 (t : Tm) : kb (u9 t) t6 = 1 := by
  rw [kb_one]
  refine ⟨?_, .inl ?_⟩
  · intro v
    have : t6.vs = [] := by simp [t6, Tm.vs, vsL, Tm.flat]
    rw [this]; simp
  · have h1 : (u9 t).size = 1 + t.size := one_size (by decide)
    have h2 := t.size_pos
    have h3 : t6.size = 1 := by simp [t6, Tm.size, Tm.flat]
    omega
theorem rnU (a : Tm) (k : Nat) : rnC (cU a) (dU a k) = [⟨true, u9 (twU (u6 (repT (shV (topC (cU a) + 1)) a)) k), t6⟩] := by
  unfold rnC dU
  simp only [List.map_cons, List.map_nil, Lt.rep]
  have e1 : ∀ σ : Int → Tm, repT σ (u9 (twU (u6 a) k)) = u9 (twU (u6 (repT σ a)) k) := fun σ => by
    show repT σ ⟨9, [twU (u6 a) k]⟩ = ⟨9, [_]⟩
    rw [one_rep (by decide), tw_rep]
    congr 3
    exact one_rep (by decide) σ
  rw [e1, rep_t6]
theorem wcU (a : Tm) : wysL leadB (cU a) (lokL (cU a)) = [⟨0, u6 a, a⟩] := by
  rw [show lokL (cU a) = [0] from lok_pos _ rfl]
  show wysN leadB (cU a) 0 ++ [] = _
  rw [List.append_nil]
  show ([⟨0, u6 a, a⟩, ⟨0, a, u6 a⟩] : List Wy).filter (fun w => leadB w.a w.b) = _
  simp [List.filter_cons, (lead_yes (kU a)).1, (lead_yes (kU a)).2]
theorem wdU (t : Tm) : wysL leadB [⟨true, u9 t, t6⟩] (lokL [⟨true, u9 t, t6⟩]) = [⟨0, u9 t, t6⟩] := by
  rw [lok_neg _ rfl]
  show wysN leadB [⟨true, u9 t, t6⟩] 0 ++ [] = _
  rw [List.append_nil]
  show ([⟨0, u9 t, t6⟩, ⟨0, t6, u9 t⟩] : List Wy).filter (fun w => leadB w.a w.b) = _
  simp [List.filter_cons, (lead_yes (k9 t)).1, (lead_yes (k9 t)).2]
theorem prU {a : Tm} {k : Nat} (hk : k ≤ 3) (ha : a.ten) (h8 : a.size ≤ 8) (hv : ∀ v ∈ a.vs, v < 1000) : Pr2 false (cU a) (dU a k) := by
  have h6 : (u6 a).ten := ⟨one_rng (by omega) ha.1, by have : (u6 a).size = 1 + a.size := one_size (by decide); omega⟩
  have h9 : (u9 (twU (u6 a) k)).s16 := ⟨one_rng (by omega) (tw_rng h6.1 k), by
    have e1 : (u9 (twU (u6 a) k)).size = 1 + (twU (u6 a) k).size := one_size (by decide)
    have e2 := tw_size (u6 a) k
    have e3 : (u6 a).size = 1 + a.size := one_size (by decide)
    omega⟩
  have cs : ∀ l ∈ cU a, l.s16 := fun l hl => by
    rw [show cU a = [⟨false, u6 a, a⟩] from rfl, List.mem_singleton] at hl
    subst hl; exact ⟨ten_s16 h6, ten_s16 ha⟩
  have ds : ∀ l ∈ dU a k, l.s16 := fun l hl => by
    rw [show dU a k = [⟨true, u9 (twU (u6 a) k), t6⟩] from rfl, List.mem_singleton] at hl
    subst hl; exact ⟨h9, ten_s16 t6_ten⟩
  have hcv : ∀ v ∈ cvs (cU a), v < 1000 := fun v h => hv v (cvs_cU a v h)
  have hdv : ∀ v ∈ cvs (dU a k), v < 1000 := fun v h => hv v (cvs_dU a k v h)
  have hr := rn_s16 (N := 1000) (by omega) hcv ds hdv
  refine ⟨⟨1000, by omega, hcv, hdv⟩, by simp [cU], by simp [dU], cs, ds, fun m hm => ?_⟩
  have hk2 := mt_at hm
  have hm : m ∈ mtsL (negAt (cU a)) (wysL leadB (cU a) (lokL (cU a))) (wysL leadB (rnC (cU a) (dU a k)) (lokL (rnC (cU a) (dU a k)))) := hm
  obtain ⟨m1, _, m3, _⟩ := mts_mem hm
  rw [wcU, List.mem_singleton] at m1
  rw [rnU, wdU, List.mem_singleton] at m3
  obtain ⟨a', ha'⟩ : ∃ a', a' = repT (shV (topC (cU a) + 1)) a := ⟨_, rfl⟩
  rw [← ha'] at m3
  have hts := (hk2.ts hr).1
  have hat := hk2.at_
  rw [m3] at hat hts
  have hat : atP m.pl (u9 (twU (u6 a') k)) = some m.pt := hat
  have hts : (u9 (twU (u6 a') k)).s16 := hts
  have hpt : m.pt.s16 := ⟨⟨(atP_ok hat hts.1.1).1, atP_ok6 hat hts.1.2⟩, Nat.le_trans (atP_ok hat hts.1.1).2 hts.2⟩
  have ha8 : (u6 a').size ≤ 9 := by
    have e3 : (u6 a').size = 1 + a'.size := one_size (by decide)
    have := top_lo (cU a)
    have e4 : a'.size = a.size := by rw [ha', sh_size (by omega)]
    omega
  have h6r : (u6 a').rng := by
    have h1 := ((Tm.rng_iff _).1 hts.1.1).2 (twU (u6 a') k) (by show _ ∈ [_]; simp)
    have key : ∀ j, (twU (u6 a') j).rng → (u6 a').rng := fun j => by
      induction j with
      | zero => exact id
      | succ j ih => intro h; exact ih (((Tm.rng_iff _).1 h).2 (twU (u6 a') j) (by show _ ∈ [_]; simp))
    exact key k h1
  rw [m1]
  show PrOk (u6 a) m.pt
  refine ⟨ten_s16 h6, hpt, fun τ hu => ⟨h6, ?_⟩⟩
  have hno : ∀ f : Int, 0 ≤ f → f ≠ 6 → m.pt.f = f → False := fun f hf0 hf hpf => by
    rw [uni_one, repT_sym (show ¬ (u6 a).f < 0 by show ¬ (6 : Int) < 0; decide), repT_sym (show ¬ m.pt.f < 0 by omega)] at hu
    injection hu with e1 _
    exact hf (by rw [← hpf, ← e1]; rfl)
  rcases u9_part h6r hat with h | h | h
  · exact (hno 9 (by decide) (by decide) h).elim
  · exact (hno 7 (by decide) (by decide) h).elim
  · exact ⟨hpt.1, by omega⟩
theorem supU {a : Tm} {k : Nat} (hk : k ≤ 3) (ha : a.ten) (h8 : a.size ≤ 8) (hv : ∀ v ∈ a.vs, v < 1000) : ∃ z ∈ supM false (cU a) (dU a k), wtC z + 1 = wtC [(⟨false, u9 (twU (u6 a) k), t6⟩ : Lt)] := by
  have hp := prU hk ha h8 hv
  obtain ⟨T, hT⟩ : ∃ T, T = topC (cU a) := ⟨_, rfl⟩
  have hT0 := top_lo (cU a)
  rw [← hT] at hT0
  obtain ⟨a', ha'⟩ : ∃ a', a' = repT (shV (T + 1)) a := ⟨_, rfl⟩
  obtain ⟨m, hm0⟩ : ∃ m : Mt, m = ⟨⟨0, u6 a, a⟩, ⟨0, u9 (twU (u6 a') k), t6⟩, 0 :: zsP k, u6 a'⟩ := ⟨_, rfl⟩
  have hm : m ∈ mtM false (cU a) (rnC (cU a) (dU a k)) := by
    show m ∈ mtsL (negAt (cU a)) (wysL leadB (cU a) (lokL (cU a))) (wysL leadB (rnC (cU a) (dU a k)) (lokL (rnC (cU a) (dU a k))))
    rw [wcU, rnU, wdU, ← hT, ← ha']
    refine List.mem_flatMap.2 ⟨⟨0, u6 a, a⟩, by simp, ?_⟩
    unfold mtN
    rw [if_neg (by show ¬ negAt (cU a) 0 = true; simp [negAt, cU])]
    refine List.mem_flatMap.2 ⟨⟨0, u9 (twU (u6 a') k), t6⟩, by simp, List.mem_map.2 ⟨(0 :: zsP k, u6 a'), u9_sy (by show ¬ (6 : Int) < 0; decide) k, hm0.symm⟩⟩
  have hpr := hp.pr m hm
  have hk2 := mt_at hm
  -- the two are variants
  obtain ⟨τ, hτ⟩ : ∃ τ : Int → Tm, τ = fun v => if v ≤ T then varT v else varT (v - (T + 1)) := ⟨_, rfl⟩
  have hva : ∀ v ∈ a.vs, v ≤ T := fun v h => by rw [hT]; exact top_ge2 (cvs_b (c := cU a) (l := ⟨false, u6 a, a⟩) (by simp [cU]) v h)
  have t1 : repT τ a = a.strip := by
    rw [← rep_id a]
    exact rep_congr fun v h => by rw [hτ]; simp only; rw [if_pos (hva v h)]
  have t2 : repT τ a' = a.strip := by
    rw [ha', sh_two τ (by omega), ← rep_id a]
    exact rep_congr fun v h => by
      have := vs_nonneg a v h
      rw [hτ]; simp only; rw [if_neg (by omega)]
      congr 1; omega
  have hu : uni τ [(u6 a, u6 a')] := by
    rw [uni_one]
    show repT τ ⟨6, [a]⟩ = repT τ ⟨6, [a']⟩
    rw [one_rep (by decide), one_rep (by decide), t1, t2]
  have hpr : PrOk (u6 a) (u6 a') := by rw [hm0] at hpr; exact hpr
  have h2 : (mgT (u6 a) (u6 a')).2 = true := by
    cases e : (mgT (u6 a) (u6 a')).2 with
    | true => rfl
    | false => exact absurd hu ((hpr.tell.no e).2 τ)
  have hmg := hpr.tell.yes h2
  have hsz : (repT (mgS (u6 a) (u6 a')) a).size = a.size := by
    have g1 := rep_ge (mgS (u6 a) (u6 a')) a
    have g2 := rep_ge τ (repT (mgS (u6 a) (u6 a')) a)
    have g3 : repT τ (repT (mgS (u6 a) (u6 a')) a) = repT τ a := hmg.rep hu a
    rw [g3, t1, Tm.strip_size] at g2
    omega
  have hl1 : leadB (repT (mgS (u6 a) (u6 a')) (u6 a)) (repT (mgS (u6 a) (u6 a')) a) = true := by
    refine (lead_yes ?_).1
    rw [kb_rep _ (by rw [kU]; decide), kU]
  have hl2 : leadB (repT (mgS (u6 a) (u6 a')) (u9 (twU (u6 a') k))) (repT (mgS (u6 a) (u6 a')) t6) = true := by
    refine (lead_yes ?_).1
    rw [kb_rep _ (by rw [k9]; decide), k9]
  obtain ⟨z, z1, z2, z3⟩ := hk2.put hp.cs hp.rn
  have hz : (joinM m (cU a) (rnC (cU a) (dU a k))).map (Lt.rep (mgS m.fr.a m.pt)) ∈ supM false (cU a) (dU a k) := by
    refine List.mem_filterMap.2 ⟨m, hm, ?_⟩
    unfold folC
    rw [if_pos]
    rw [hm0]
    exact ⟨h2, hl1, hl2⟩
  refine ⟨_, hz, ?_⟩
  have ej : joinM m (cU a) (rnC (cU a) (dU a k)) = [⟨true, z, t6⟩] := by
    unfold joinM
    rw [z1]
    rw [hm0, rnU]
    rfl
  rw [ej]
  have hzs : z = u9 (twU a.strip k) := by
    rw [hm0] at z1
    have z1 : putP a (0 :: zsP k) (u9 (twU (u6 a') k)) = some z := z1
    have key : ∀ j, putP a (zsP j) (twU (u6 a') j) = some (twU a.strip j) := fun j => by
      induction j with
      | zero => rfl
      | succ j ih =>
        show (Tm.pa (⟨7, [twU (u6 a') j]⟩ : Tm) 0).bind (fun s => (putP a (zsP j) s).map fun v => (⟨7, _⟩ : Tm)) = _
        rw [one_pa (by decide), Option.bind_some, ih]
        rfl
    have : putP a (0 :: zsP k) (u9 (twU (u6 a') k)) = some (u9 (twU a.strip k)) := by
      show (Tm.pa (⟨9, [twU (u6 a') k]⟩ : Tm) 0).bind (fun s => (putP a (zsP k) s).map fun v => (⟨9, _⟩ : Tm)) = _
      rw [one_pa (by decide), Option.bind_some, key]
      rfl
    rw [this] at z1
    exact (Option.some.inj z1).symm
  have hfr : m.fr.a = u6 a ∧ m.pt = u6 a' := by rw [hm0]; exact ⟨rfl, rfl⟩
  rw [hfr.1, hfr.2, hzs]
  have e1 : (repT (mgS (u6 a) (u6 a')) (u9 (twU a.strip k))).size = 1 + (k + a.size) := by
    show (repT (mgS (u6 a) (u6 a')) ⟨9, [twU a.strip k]⟩).size = _
    rw [one_rep (by decide), one_size (by decide), tw_rep, tw_size, rep_strip, hsz]
  have e2 : (u9 (twU (u6 a) k)).size = 1 + (k + (1 + a.size)) := by
    show (⟨9, [twU (u6 a) k]⟩ : Tm).size = _
    rw [one_size (by decide), tw_size]
    congr 2
    exact one_size (by decide)
  unfold wtC
  simp only [List.map_cons, List.map_nil, List.sum_cons, List.sum_nil, Lt.rep]
  rw [e1, e2, rep_t6]
  omega
theorem u_cw (f : Int) (t : Tm) : (⟨f, [t]⟩ : Tm).cw = .row [.i f, .lst [t.cw]] := by
  show CV.row [.i f, .lst [Tm.cv t]] = _
  rw [Tm.cv_eq]
def hitB (L : List (List Lt)) (n : Int) (k : Nat) : Bool := (L.take k).any fun z => decide ((wtC z : Int) = n)
theorem hit_succ {L : List (List Lt)} {n : Int} {k : Nat} {z : List Lt} (h : L[k]? = some z) : hitB L n (k + 1) = (hitB L n k || decide ((wtC z : Int) = n)) := by
  unfold hitB
  rw [List.take_add_one, h, List.any_append]
  simp
-- 
set_option maxHeartbeats 16000000 in
theorem supUnits_abs (W : World) (c : List Lt) (b : Int) (hrc : okC c) (hb : 0 ≤ b ∧ b ≤ 255) : AFun Tryz.prog W 5 [.lst (c.map Lt.cv), .sc (.int .u8 b)] (.val (.b true)) := by
  refine afun_of (rs := [.b true]) Tryz.func5 Tryz.ntmps5 rfl rfl rfl rfl ?_
  intro w U hW
  refine aS (aR ?_)
  (refine nx (aA (gN rfl) rfl rfl rfl rfl rfl) rfl ?_)
  show AWp _ _ _ _ _ _ _
  refine aS (aS (aR ?_))
  (refine nx (a_call (gN rfl) rfl rfl rfl rfl rfl (alive16_abs w)) rfl ?_)
  (refine nx (a_not (gN rfl) rfl rfl rfl rfl rfl) rfl ?_)
  show AWp _ _ _ _ _ _ _
  refine aC rfl (fun hc => by cases hc) (fun _ => aK ?_)
  show AWp _ _ _ _ _ _ _
  have hfc := fine11_abs w c 1 8 (by decide) (by decide) (by decide) hrc
  cases hF : fineC c 1 8 with
  | false =>
    rw [hF] at hfc
    refine aS (aS (aR ?_))
    (refine nx (aM (gN rfl) rfl rfl rfl rfl rfl) rfl ?_)
    (refine nx (a_call (gN rfl) rfl rfl rfl rfl rfl (hfc)) rfl ?_)
    (refine nx (a_not (gN rfl) rfl rfl rfl rfl rfl) rfl ?_)
    (refine nx (aM (gN rfl) rfl rfl rfl rfl rfl) rfl ?_)
    (refine ⟨_, _, _, a_off (go_off rfl rfl rfl rfl (by first | rfl | assumption | (simp; done) | (simp [*]; done))) rfl rfl rfl, rfl, ?_⟩)
    (refine ⟨_, _, _, a_off (go_off rfl rfl rfl rfl (by first | rfl | assumption | (simp; done) | (simp [*]; done))) rfl rfl rfl, rfl, ?_⟩)
    (refine ⟨_, _, _, a_off (go_off rfl rfl rfl rfl (by first | rfl | assumption | (simp; done) | (simp [*]; done))) rfl rfl rfl, rfl, ?_⟩)
    (refine ⟨_, _, _, aPt (gN rfl) rfl rfl rfl rfl rfl ?hb rfl, rfl, ?_⟩; case hb => (first | rfl | assumption | (simp; done)))
    show AWp _ _ _ _ _ _ _
    refine aC rfl (fun hc => ?_) (fun hc => by cases hc)
    refine aS (aR ?_)
    (refine nx (aA (gN rfl) rfl rfl rfl rfl rfl) rfl ?_)
    show AWp _ _ _ _ _ _ _
    exact aT (And.intro (.inr rfl) rfl)
  | true =>
  rw [hF] at hfc
  obtain ⟨hcl, hct⟩ := fine_ten (by decide) (by decide) hF
  have hokc : ∀ l ∈ c, l.a.ok ∧ l.b.ok := fun l hl => ⟨(hct l hl).1.1.2, (hct l hl).2.1.2⟩
  have hcm : (c.map Lt.cv).length = c.length := List.length_map ..
  by_cases h0 : c.length = 0
  · have g0 : decide ((((c.map Lt.cv).length : Nat) : Int) = 0) = true := decide_eq_true (by omega)
    refine aS (aS (aR ?_))
    (refine nx (aM (gN rfl) rfl rfl rfl rfl rfl) rfl ?_)
    (refine nx (a_call (gN rfl) rfl rfl rfl rfl rfl (hfc)) rfl ?_)
    (refine nx (a_not (gN rfl) rfl rfl rfl rfl rfl) rfl ?_)
    (refine nx (aM (gN rfl) rfl rfl rfl rfl rfl) rfl ?_)
    (refine nx (aM (gd_on rfl rfl rfl rfl (by first | rfl | assumption | (simp; done))) rfl rfl rfl rfl rfl) rfl ?_)
    (refine nx (a_len (gd_on rfl rfl rfl rfl (by first | rfl | assumption | (simp; done))) rfl rfl rfl rfl rfl rfl rfl) rfl ?_)
    (refine nx (a_eql (gd_on rfl rfl rfl rfl (by first | rfl | assumption | (simp; done))) rfl rfl rfl rfl rfl rfl) rfl ?_)
    (refine ⟨_, _, _, aPf (gN rfl) rfl rfl rfl rfl rfl ?hb rfl, rfl, ?_⟩; case hb => (first | rfl | assumption | (simp; done)))
    show AWp _ _ _ _ _ _ _
    refine aC rfl (fun hc => ?_) (fun hc => by rw [g0] at hc; cases hc)
    refine aS (aR ?_)
    (refine nx (aA (gN rfl) rfl rfl rfl rfl rfl) rfl ?_)
    show AWp _ _ _ _ _ _ _
    exact aT (And.intro (.inr rfl) rfl)
  have g0 : decide ((((c.map Lt.cv).length : Nat) : Int) = 0) = false := decide_eq_false (by omega)
  refine aS (aS (aR ?_))
  (refine nx (aM (gN rfl) rfl rfl rfl rfl rfl) rfl ?_)
  (refine nx (a_call (gN rfl) rfl rfl rfl rfl rfl (hfc)) rfl ?_)
  (refine nx (a_not (gN rfl) rfl rfl rfl rfl rfl) rfl ?_)
  (refine nx (aM (gN rfl) rfl rfl rfl rfl rfl) rfl ?_)
  (refine nx (aM (gd_on rfl rfl rfl rfl (by first | rfl | assumption | (simp; done))) rfl rfl rfl rfl rfl) rfl ?_)
  (refine nx (a_len (gd_on rfl rfl rfl rfl (by first | rfl | assumption | (simp; done))) rfl rfl rfl rfl rfl rfl rfl) rfl ?_)
  (refine nx (a_eql (gd_on rfl rfl rfl rfl (by first | rfl | assumption | (simp; done))) rfl rfl rfl rfl rfl rfl) rfl ?_)
  (refine ⟨_, _, _, aPf (gN rfl) rfl rfl rfl rfl rfl ?hb rfl, rfl, ?_⟩; case hb => (first | rfl | assumption | (simp; done)))
  show AWp _ _ _ _ _ _ _
  refine aC rfl (fun hc => by rw [g0] at hc; cases hc) (fun _ => aK ?_)
  show AWp _ _ _ _ _ _ _
  obtain ⟨x, hx⟩ : ∃ x, c[0]? = some x := ⟨c[0]'(by omega), List.getElem?_eq_getElem _⟩
  have hx' := Lt.map_at hx
  have hxm := List.mem_of_getElem? hx
  have hsc := Lt.size_all c
  obtain ⟨_, h3⟩ := fineC_facts (by decide) (by decide) hF
  have hx3 := h3 x hxm
  have hxt := (hct x hxm).1
  obtain ⟨xn, a, xb⟩ := x
  obtain ⟨⟨hsm, _, a3⟩, _⟩ := hx3
  have h8 : a.size ≤ 8 := by have a3 : ((a.size : Nat) : Int) ≤ 8 := a3; omega
  have hav : ∀ v ∈ a.vs, v < 1000 := vs_le (fun s hs => (Tm.sm_flat hsm.1 s hs).1)
  have hat : a.ten := hxt
  obtain ⟨N, hN⟩ : ∃ N : Nat, b.tmod 4 = (N : Int) := ⟨(b.tmod 4).toNat, by have := Int.tmod_nonneg 4 hb.1; omega⟩
  have hN3 : N ≤ 3 := by have := Int.tmod_lt_of_pos b (show (0 : Int) < 4 by decide); omega
  have hU := supU hN3 hat h8 hav
  have hp := prU hN3 hat h8 hav
  have hi := fun w => suInto_abs w (cU a) (dU a N) hp
  have hfit := fun z (hz : z ∈ supM false (cU a) (dU a N)) => sup_fit hp hz
  have hcnt := fun z (hz : z ∈ supM false (cU a) (dU a N)) => sup_cnt hz
  have hLl := supM_len (free := false) (c := cU a) (d := dU a N) (by simp [cU]) (by simp [dU]) hp.rn
  obtain ⟨L, hL⟩ : ∃ L, L = supM false (cU a) (dU a N) := ⟨_, rfl⟩
  rw [← hL] at hU hi hfit hcnt hLl
  obtain ⟨A, hA⟩ : ∃ A, A = a.cw := ⟨_, rfl⟩
  obtain ⟨T, hT⟩ : ∃ T : Nat → CV, T = fun k => (twU (u6 a) k).cw := ⟨_, rfl⟩
  have hT0 : T 0 = .row [.i 6, .lst [A]] := by rw [hT, hA]; exact u_cw 6 a
  have hTs : ∀ k, T (k + 1) = .row [.i 7, .lst [T k]] := fun k => by rw [hT]; exact u_cw 7 _
  have hTf : ∀ k, ∃ f l, T k = .row [.i f, .lst l] := fun k => by rw [hT]; exact ⟨_, _, rfl⟩
  have eC : (cU a).map Lt.cv = [.row [.b false, .row [.i 6, .lst [A]], A]] := by
    rw [hA]
    show [CV.row [.b false, (u6 a).cw, a.cw]] = _
    rw [show (u6 a).cw = _ from u_cw 6 a]
  have eD : (dU a N).map Lt.cv = [.row [.b true, .row [.i 9, .lst [T N]], .row [.i 0, .lst []]]] := by
    rw [hT]
    show [CV.row [.b true, (u9 (twU (u6 a) N)).cw, t6.cw]] = _
    rw [show (u9 (twU (u6 a) N)).cw = _ from u_cw 9 _]; rfl
  have eW : [(⟨false, u9 (twU (u6 a) N), t6⟩ : Lt)].map Lt.cv = [.row [.b false, .row [.i 9, .lst [T N]], .row [.i 0, .lst []]]] := by
    rw [hT]
    show [CV.row [.b false, (u9 (twU (u6 a) N)).cw, t6.cw]] = _
    rw [show (u9 (twU (u6 a) N)).cw = _ from u_cw 9 _]; rfl
  rw [eC, eD] at hi
  have hw9 := fun w => cWeight_abs w [(⟨false, u9 (twU (u6 a) N), t6⟩ : Lt)] (by simp) (by
    have := (hp.ds ⟨true, u9 (twU (u6 a) N), t6⟩ (by simp [dU])).1.2
    have h1 : t6.size = 1 := by simp [t6, Tm.size, Tm.flat]
    unfold wtC
    simp only [List.map_cons, List.map_nil, List.sum_cons, List.sum_nil]
    have : (u9 (twU (u6 a) N)).size ≤ 16 := this
    omega) (fun l hl => by
    rw [List.mem_singleton] at hl
    subst hl
    have := hp.ds ⟨true, u9 (twU (u6 a) N), t6⟩ (by simp [dU])
    exact ⟨this.1.1.1, this.2.1.1⟩)
  rw [eW] at hw9
  obtain ⟨Wt, hWt⟩ : ∃ Wt : Nat, Wt = wtC [(⟨false, u9 (twU (u6 a) N), t6⟩ : Lt)] := ⟨_, rfl⟩
  rw [← hWt] at hU hw9
  have hWs : Wt ≤ 100 := by
    have := (hp.ds ⟨true, u9 (twU (u6 a) N), t6⟩ (by simp [dU])).1.2
    have h1 : t6.size = 1 := by simp [t6, Tm.size, Tm.flat]
    rw [hWt]
    unfold wtC
    simp only [List.map_cons, List.map_nil, List.sum_cons, List.sum_nil]
    have : (u9 (twU (u6 a) N)).size ≤ 16 := this
    omega
  have hx2 : (c.map Lt.cv)[0]? = some (.row [.b xn, A, .row [.i xb.f, .lst (xb.l.map Tm.cv)]]) := by rw [hx', hA]
  obtain ⟨af, al, hAf⟩ : ∃ f l, A = .row [.i f, .lst l] := by rw [hA]; exact ⟨_, _, rfl⟩
  clear hA
  refine aS (aR ?_)
  (refine nx (aM (gN rfl) rfl rfl rfl rfl rfl) rfl ?_)
  (refine nx (a_call (gN rfl) rfl rfl rfl rfl rfl (of11_abs w c (by omega) hokc)) rfl ?_)
  (refine nx (aA (gN rfl) rfl rfl rfl rfl rfl) rfl ?_)
  show AWp _ _ _ _ _ _ _
  subst hAf
  refine aS (aR ?_)
  (refine nx (aM (gN rfl) rfl rfl rfl rfl rfl) rfl ?_)
  (refine nx (a_index (j := 0) (gN rfl) rfl rfl rfl rfl rfl rfl rfl rfl rfl (hx2) rfl (hsc)) rfl ?_)
  (refine nx (a_field_ad (gN rfl) rfl rfl rfl rfl rfl rfl rfl rfl rfl rfl rfl) rfl ?_)
  (refine nx (a_load_ad (gN rfl) rfl rfl rfl rfl rfl rfl rfl rfl rfl) rfl ?_)
  (refine nx (a_bslice (gN rfl) rfl rfl rfl rfl rfl rfl rfl rfl rfl rfl rfl rfl rfl) rfl ?_)
  (refine nx (a_build (gN rfl) rfl rfl rfl rfl rfl rfl rfl rfl rfl rfl rfl) rfl ?_)
  (refine nx (a_alloc (gN rfl) rfl rfl rfl rfl rfl rfl rfl rfl rfl rfl) rfl ?_)
  (refine nx (aSt (gN rfl) rfl rfl rfl rfl rfl rfl rfl rfl rfl rfl) rfl ?_)
  show AWp _ _ _ _ _ _ _
  refine aS (aD (by kernel_rfl) (by kernel_rfl) ?_)
  (refine nx (aL (gN rfl) rfl rfl rfl rfl rfl rfl rfl rfl rfl rfl rfl rfl) rfl ?_)
  (refine nx (aM (gN rfl) rfl rfl rfl rfl rfl) rfl ?_)
  (refine nx (a_index (j := 0) (gN rfl) rfl rfl rfl rfl rfl rfl rfl rfl rfl (hx2) rfl (hsc)) rfl ?_)
  (refine nx (a_field_ad (gN rfl) rfl rfl rfl rfl rfl rfl rfl rfl rfl rfl rfl) rfl ?_)
  (refine nx (a_load_ad (gN rfl) rfl rfl rfl rfl rfl rfl rfl rfl rfl) rfl ?_)
  (refine nx (a_buildT ltZ3 (gN rfl) rfl rfl rfl rfl rfl rfl rfl rfl rfl rfl rfl) rfl ?_)
  (refine nx (a_bslice (gN rfl) rfl rfl rfl rfl rfl rfl rfl rfl rfl rfl rfl rfl rfl) rfl ?_)
  (refine nx (aA (gN rfl) rfl rfl rfl rfl rfl) rfl ?_)
  refine ⟨by kernel_rfl, ?_⟩
  show AWp _ _ _ _ _ _ _
  refine aS (aR ?_)
  (refine nx (aL (gN rfl) rfl rfl rfl rfl rfl rfl rfl rfl rfl rfl rfl rfl) rfl ?_)
  (refine nx (a_alloc (gN rfl) rfl rfl rfl rfl rfl rfl rfl rfl rfl rfl) rfl ?_)
  (refine nx (aSt (gN rfl) rfl rfl rfl rfl rfl rfl rfl rfl rfl rfl) rfl ?_)
  show AWp _ _ _ _ _ _ _
  refine aS (aS (aR ?_))
  (refine nx (aA (gN rfl) rfl rfl rfl rfl rfl) rfl ?_)
  show AWp _ _ _ _ _ _ _
  refine aB (awp_count N (fun k => [(1, AV.val (.sc (.int .u8 b))), (7, .val (.lst [.row [.b false, .row [.i 6, .lst [.row [.i af, .lst al]]], .row [.i af, .lst al]]])), (8, .bp 8 0 []), (100008, .bx (T k)), (9, .val (.i (k : Int)))]) (wk_sub ⟨rfl, rfl, rfl, by rw [hT0]; rfl, rfl, trivial⟩) ?_)
  intro k hk
  refine aS (aS (aR ?_))
  (refine nx (aM (gN rfl) rfl rfl rfl rfl rfl) rfl ?_)
  (refine nx (aM (gN rfl) rfl rfl rfl rfl rfl) rfl ?_)
  (refine nx (a_conv (gN rfl) rfl rfl rfl rfl rfl rfl rfl (by first | rfl | (rw [IntKind.wrap_i64]; omega) | assumption)) rfl ?_)
  (refine nx (a_rem (gN rfl) rfl rfl rfl rfl rfl rfl (by first | decide | assumption)) rfl ?_)
  (refine nx (a_lss (gN rfl) rfl rfl rfl rfl rfl rfl) rfl ?_)
  show AWp _ _ _ _ _ _ _
  refine aC rfl (fun hlt => aK ?_) (fun hlt => aE ?_)
  · have hlt := of_decide_eq_true hlt
    have hkN : k < N := by
      have : ((k : Nat) : Int) < b.tmod 4 := hlt
      omega
    obtain ⟨tf, tl, hTk⟩ := hTf k
    have hTs := hTs k
    rw [hTk] at hTs ⊢
    show AWp _ _ _ _ _ _ _
    refine aS (aB (aR ?_))
    (refine nx (aL (gN rfl) rfl rfl rfl rfl rfl rfl rfl rfl rfl rfl rfl rfl) rfl ?_)
    (refine nx (a_bslice (gN rfl) rfl rfl rfl rfl rfl rfl rfl rfl rfl rfl rfl rfl rfl) rfl ?_)
    (refine nx (a_build (gN rfl) rfl rfl rfl rfl rfl rfl rfl rfl rfl rfl rfl) rfl ?_)
    (refine nx (aSt (gN rfl) rfl rfl rfl rfl rfl rfl rfl rfl rfl rfl) rfl ?_)
    show AWp _ _ _ _ _ _ _
    refine aR ?_
    (refine nx (aM (gN rfl) rfl rfl rfl rfl rfl) rfl ?_)
    (refine nx (a_add (gN rfl) rfl rfl rfl rfl rfl rfl (by first | omega | (simp only [List.length_map, List.length_append, List.length_cons, List.length_nil] <;> omega) | (simp <;> omega))) rfl ?_)
    (refine nx (aA (gN rfl) rfl rfl rfl rfl rfl) rfl ?_)
    refine ⟨hkN, ?_⟩
    show Wk _ _ _ _ [(1, AV.val (.sc (.int .u8 b))), (7, .val (.lst [.row [.b false, .row [.i 6, .lst [.row [.i af, .lst al]]], .row [.i af, .lst al]]])), (8, .bp 8 0 []), (100008, .bx (T (k + 1))), (9, .val (.i ((k + 1 : Nat) : Int)))]
    rw [hTs]
    exact wk_sub ⟨rfl, rfl, rfl, rfl, rfl, trivial⟩
  · have hlt := of_decide_eq_false hlt
    have hkN : k = N := by
      have : ¬ ((k : Nat) : Int) < b.tmod 4 := hlt
      omega
    subst hkN
    obtain ⟨tf, tl, hTk⟩ := hTf k
    rw [hTk] at hi hw9 ⊢
    show AWp _ _ _ _ _ _ _
    refine aS (aR ?_)
    (refine nx (aM (gN rfl) rfl rfl rfl rfl rfl) rfl ?_)
    (refine nx (aL (gN rfl) rfl rfl rfl rfl rfl rfl rfl rfl rfl rfl rfl rfl) rfl ?_)
    (refine nx (a_bslice (gN rfl) rfl rfl rfl rfl rfl rfl rfl rfl rfl rfl rfl rfl rfl) rfl ?_)
    (refine nx (a_buildT [.i 0, .lst []] (gN rfl) rfl rfl rfl rfl rfl rfl rfl rfl rfl rfl rfl) rfl ?_)
    (refine nx (a_buildT ltZ3 (gN rfl) rfl rfl rfl rfl rfl rfl rfl rfl rfl rfl rfl) rfl ?_)
    (refine nx (a_bslice (gN rfl) rfl rfl rfl rfl rfl rfl rfl rfl rfl rfl rfl rfl rfl) rfl ?_)
    (refine nx (a_call (gN rfl) rfl rfl rfl rfl rfl (hi w)) rfl ?_)
    (refine nx (aA (gN rfl) rfl rfl rfl rfl rfl) rfl ?_)
    show AWp _ _ _ _ _ _ _
    refine aS (aR ?_)
    (refine nx (aA (gN rfl) rfl rfl rfl rfl rfl) rfl ?_)
    show AWp _ _ _ _ _ _ _
    have hLs := clC_size L
    have hLm : (L.map clC).length = L.length := List.length_map ..
    have hfinal : hitB L ((Wt : Int) - 1) L.length = true := by
      obtain ⟨z, hz, hzw⟩ := hU
      unfold hitB
      rw [List.take_length, List.any_eq_true]
      exact ⟨z, hz, decide_eq_true (by omega)⟩
    refine aS (aS (aR ?_))
    (refine nx (aA (gN rfl) rfl rfl rfl rfl rfl) rfl ?_)
    show AWp _ _ _ _ _ _ _
    refine aB (awp_count L.length (fun i => [(8, AV.bp 8 0 []), (100008, .bx (.row [.i tf, .lst tl])), (10, .val (.lst (L.map clC))), (11, .val (.b (hitB L ((Wt : Int) - 1) i))), (12, .val (.i (i : Int)))]) (wk_sub ⟨rfl, rfl, rfl, rfl, rfl, trivial⟩) ?_)
    intro i hi3
    refine aS (aS (aR ?_))
    (refine nx (aM (gN rfl) rfl rfl rfl rfl rfl) rfl ?_)
    (refine nx (aM (gN rfl) rfl rfl rfl rfl rfl) rfl ?_)
    (refine nx (a_len (gN rfl) rfl rfl rfl rfl rfl rfl rfl) rfl ?_)
    (refine nx (a_lss (gN rfl) rfl rfl rfl rfl rfl rfl) rfl ?_)
    show AWp _ _ _ _ _ _ _
    refine aC rfl (fun hlt => aK ?_) (fun hlt => aE ?_)
    · have hil : i < L.length := by have := of_decide_eq_true hlt; omega
      obtain ⟨z, hz⟩ : ∃ z, L[i]? = some z := ⟨L[i], List.getElem?_eq_getElem hil⟩
      have hz' : (L.map clC)[i]? = some (.lst (z.map Lt.cv)) := by rw [List.getElem?_map, hz]; rfl
      have hzm := List.mem_of_getElem? hz
      obtain ⟨hzl, hzf⟩ := hfit z hzm
      have hzc := hcnt z hzm
      have hzl1 : z.length = 1 := by simp [cU, dU] at hzl; omega
      have hsucc := hit_succ (n := (Wt : Int) - 1) hz
      have hzw : wtC z ≤ 1000000 := by
        match z, hzl1, hzf with
        | [y], _, hzf =>
          have := hzf y (by simp)
          unfold wtC
          simp only [List.map_cons, List.map_nil, List.sum_cons, List.sum_nil]
          omega
      have hwz := cWeight_abs w z (by omega) (by omega) (fun l hl => ⟨(hzf l hl).1.1.1, (hzf l hl).1.2.1⟩)
      obtain ⟨y, rfl⟩ : ∃ y, z = [y] := by
        match z, hzl1 with
        | [y], _ => exact ⟨y, rfl⟩
      have hyn : y.neg = true := by
        have e1 : cntN (cU a) = 0 := rfl
        have e2 : cntN (dU a k) = 1 := rfl
        rw [e1, e2] at hzc
        cases e : y.neg with
        | true => rfl
        | false => unfold cntN at hzc; rw [List.filter_cons, e] at hzc; simp at hzc
      have hy' : ([y].map Lt.cv)[0]? = some (.row [.b true, y.a.cw, y.b.cw]) := by
        show some (Lt.cv y) = _
        rw [← hyn]; rfl
      have hys := Lt.size_all [y]
      show AWp _ _ _ _ _ _ _
      refine aS (aB (aS (aS (aR ?_))))
      (refine nx (aM (gN rfl) rfl rfl rfl rfl rfl) rfl ?_)
      (refine nx (aM (gN rfl) rfl rfl rfl rfl rfl) rfl ?_)
      (refine nx (a_index (j := i) (gN rfl) rfl rfl rfl rfl rfl rfl rfl rfl rfl (hz') rfl (hLs)) rfl ?_)
      (refine nx (a_load_ad (gN rfl) rfl rfl rfl rfl rfl rfl rfl rfl rfl) rfl ?_)
      (refine nx (a_len (gN rfl) rfl rfl rfl rfl rfl rfl rfl) rfl ?_)
      (refine nx (a_neq (gN rfl) rfl rfl rfl rfl rfl rfl) rfl ?_)
      (refine nx (aM (gN rfl) rfl rfl rfl rfl rfl) rfl ?_)
      (refine nx (aM (gd_on rfl rfl rfl rfl (by first | rfl | assumption | (simp; done))) rfl rfl rfl rfl rfl) rfl ?_)
      (refine nx (aM (gd_on rfl rfl rfl rfl (by first | rfl | assumption | (simp; done))) rfl rfl rfl rfl rfl) rfl ?_)
      (refine nx (a_index (j := i) (gd_on rfl rfl rfl rfl (by first | rfl | assumption | (simp; done))) rfl rfl rfl rfl rfl rfl rfl rfl rfl (hz') rfl (hLs)) rfl ?_)
      (refine nx (a_load_ad (gd_on rfl rfl rfl rfl (by first | rfl | assumption | (simp; done))) rfl rfl rfl rfl rfl rfl rfl rfl rfl) rfl ?_)
      (refine nx (a_index (j := 0) (gd_on rfl rfl rfl rfl (by first | rfl | assumption | (simp; done))) rfl rfl rfl rfl rfl rfl rfl rfl rfl (hy') rfl (hys)) rfl ?_)
      (refine nx (a_field_ad (gd_on rfl rfl rfl rfl (by first | rfl | assumption | (simp; done))) rfl rfl rfl rfl rfl rfl rfl rfl rfl rfl rfl) rfl ?_)
      (refine nx (a_load_ad (gd_on rfl rfl rfl rfl (by first | rfl | assumption | (simp; done))) rfl rfl rfl rfl rfl rfl rfl rfl rfl) rfl ?_)
      (refine nx (a_not (gd_on rfl rfl rfl rfl (by first | rfl | assumption | (simp; done))) rfl rfl rfl rfl rfl) rfl ?_)
      (refine ⟨_, _, _, aPf (gN rfl) rfl rfl rfl rfl rfl ?hb rfl, rfl, ?_⟩; case hb => (first | rfl | assumption | (simp; done)))
      show AWp _ _ _ _ _ _ _
      refine aC rfl (fun hc => by cases hc) (fun _ => aK ?_)
      show AWp _ _ _ _ _ _ _
      obtain ⟨h, hh⟩ : ∃ h, h = hitB L ((Wt : Int) - 1) i := ⟨_, rfl⟩
      rw [← hh] at hsucc ⊢
      cases h with
      | true =>
        refine aD (by kernel_rfl) (by kernel_rfl) ?_
        (refine nx (aM (gN rfl) rfl rfl rfl rfl rfl) rfl ?_)
        (refine nx (aM (gN rfl) rfl rfl rfl rfl rfl) rfl ?_)
        (refine ⟨_, _, _, a_off (go_off rfl rfl rfl rfl (by first | rfl | assumption | (simp; done) | (simp [*]; done))) rfl rfl rfl, rfl, ?_⟩)
        (refine ⟨_, _, _, a_off (go_off rfl rfl rfl rfl (by first | rfl | assumption | (simp; done) | (simp [*]; done))) rfl rfl rfl, rfl, ?_⟩)
        (refine ⟨_, _, _, a_off (go_off rfl rfl rfl rfl (by first | rfl | assumption | (simp; done) | (simp [*]; done))) rfl rfl rfl, rfl, ?_⟩)
        (refine ⟨_, _, _, a_off (go_off rfl rfl rfl rfl (by first | rfl | assumption | (simp; done) | (simp [*]; done))) rfl rfl rfl, rfl, ?_⟩)
        (refine ⟨_, _, _, a_off (go_off rfl rfl rfl rfl (by first | rfl | assumption | (simp; done) | (simp [*]; done))) rfl rfl rfl, rfl, ?_⟩)
        (refine ⟨_, _, _, a_off (go_off rfl rfl rfl rfl (by first | rfl | assumption | (simp; done) | (simp [*]; done))) rfl rfl rfl, rfl, ?_⟩)
        (refine ⟨_, _, _, a_off (go_off rfl rfl rfl rfl (by first | rfl | assumption | (simp; done) | (simp [*]; done))) rfl rfl rfl, rfl, ?_⟩)
        (refine ⟨_, _, _, a_off (go_off rfl rfl rfl rfl (by first | rfl | assumption | (simp; done) | (simp [*]; done))) rfl rfl rfl, rfl, ?_⟩)
        (refine ⟨_, _, _, a_off (go_off rfl rfl rfl rfl (by first | rfl | assumption | (simp; done) | (simp [*]; done))) rfl rfl rfl, rfl, ?_⟩)
        (refine ⟨_, _, _, a_off (go_off rfl rfl rfl rfl (by first | rfl | assumption | (simp; done) | (simp [*]; done))) rfl rfl rfl, rfl, ?_⟩)
        (refine ⟨_, _, _, a_off (go_off rfl rfl rfl rfl (by first | rfl | assumption | (simp; done) | (simp [*]; done))) rfl rfl rfl, rfl, ?_⟩)
        (refine ⟨_, _, _, a_off (go_off rfl rfl rfl rfl (by first | rfl | assumption | (simp; done) | (simp [*]; done))) rfl rfl rfl, rfl, ?_⟩)
        (refine ⟨_, _, _, a_off (go_off rfl rfl rfl rfl (by first | rfl | assumption | (simp; done) | (simp [*]; done))) rfl rfl rfl, rfl, ?_⟩)
        (refine ⟨_, _, _, aPt (gN rfl) rfl rfl rfl rfl rfl ?hb rfl, rfl, ?_⟩; case hb => (first | rfl | assumption | (simp; done)))
        (refine nx (aA (gN rfl) rfl rfl rfl rfl rfl) rfl ?_)
        refine ⟨by kernel_rfl, ?_⟩
        show AWp _ _ _ _ _ _ _
        refine aR ?_
        (refine nx (aM (gN rfl) rfl rfl rfl rfl rfl) rfl ?_)
        (refine nx (a_add (gN rfl) rfl rfl rfl rfl rfl rfl (by first | omega | (simp only [List.length_map, List.length_append, List.length_cons, List.length_nil] <;> omega) | (simp <;> omega))) rfl ?_)
        (refine nx (aA (gN rfl) rfl rfl rfl rfl rfl) rfl ?_)
        refine ⟨hil, ?_⟩
        show Wk _ _ _ _ [(8, AV.bp 8 0 []), (100008, .bx (.row [.i tf, .lst tl])), (10, .val (.lst (L.map clC))), (11, .val (.b (hitB L ((Wt : Int) - 1) (i + 1)))), (12, .val (.i ((i + 1 : Nat) : Int)))]
        rw [hsucc]
        exact wk_sub ⟨rfl, rfl, rfl, rfl, rfl, trivial⟩
      | false =>
        refine aD (by kernel_rfl) (by kernel_rfl) ?_
        (refine nx (aM (gN rfl) rfl rfl rfl rfl rfl) rfl ?_)
        (refine nx (aM (gN rfl) rfl rfl rfl rfl rfl) rfl ?_)
        (refine nx (aM (gd_on rfl rfl rfl rfl (by first | rfl | assumption | (simp; done))) rfl rfl rfl rfl rfl) rfl ?_)
        (refine nx (aM (gd_on rfl rfl rfl rfl (by first | rfl | assumption | (simp; done))) rfl rfl rfl rfl rfl) rfl ?_)
        (refine nx (a_index (j := i) (gd_on rfl rfl rfl rfl (by first | rfl | assumption | (simp; done))) rfl rfl rfl rfl rfl rfl rfl rfl rfl (hz') rfl (hLs)) rfl ?_)
        (refine nx (a_load_ad (gd_on rfl rfl rfl rfl (by first | rfl | assumption | (simp; done))) rfl rfl rfl rfl rfl rfl rfl rfl rfl) rfl ?_)
        (refine nx (a_call (gd_on rfl rfl rfl rfl (by first | rfl | assumption | (simp; done))) rfl rfl rfl rfl rfl (hwz)) rfl ?_)
        (refine nx (aL (gd_on rfl rfl rfl rfl (by first | rfl | assumption | (simp; done))) rfl rfl rfl rfl rfl rfl rfl rfl rfl rfl rfl rfl) rfl ?_)
        (refine nx (a_bslice (gd_on rfl rfl rfl rfl (by first | rfl | assumption | (simp; done))) rfl rfl rfl rfl rfl rfl rfl rfl rfl rfl rfl rfl rfl) rfl ?_)
        (refine nx (a_buildT [.i 0, .lst []] (gd_on rfl rfl rfl rfl (by first | rfl | assumption | (simp; done))) rfl rfl rfl rfl rfl rfl rfl rfl rfl rfl rfl) rfl ?_)
        (refine nx (a_buildT ltZ3 (gd_on rfl rfl rfl rfl (by first | rfl | assumption | (simp; done))) rfl rfl rfl rfl rfl rfl rfl rfl rfl rfl rfl) rfl ?_)
        (refine nx (a_bslice (gd_on rfl rfl rfl rfl (by first | rfl | assumption | (simp; done))) rfl rfl rfl rfl rfl rfl rfl rfl rfl rfl rfl rfl rfl) rfl ?_)
        (refine nx (a_call (gd_on rfl rfl rfl rfl (by first | rfl | assumption | (simp; done))) rfl rfl rfl rfl rfl (hw9 w)) rfl ?_)
        (refine nx (a_sub (gd_on rfl rfl rfl rfl (by first | rfl | assumption | (simp; done))) rfl rfl rfl rfl rfl rfl (by first | omega | (simp only [List.length_map, List.length_append, List.length_cons, List.length_nil] <;> omega) | (simp <;> omega))) rfl ?_)
        (refine nx (a_eql (gd_on rfl rfl rfl rfl (by first | rfl | assumption | (simp; done))) rfl rfl rfl rfl rfl rfl) rfl ?_)
        (refine ⟨_, _, _, aPf (gN rfl) rfl rfl rfl rfl rfl ?hb rfl, rfl, ?_⟩; case hb => (first | rfl | assumption | (simp; done)))
        (refine nx (aA (gN rfl) rfl rfl rfl rfl rfl) rfl ?_)
        refine ⟨by kernel_rfl, ?_⟩
        show AWp _ _ _ _ _ _ _
        refine aR ?_
        (refine nx (aM (gN rfl) rfl rfl rfl rfl rfl) rfl ?_)
        (refine nx (a_add (gN rfl) rfl rfl rfl rfl rfl rfl (by first | omega | (simp only [List.length_map, List.length_append, List.length_cons, List.length_nil] <;> omega) | (simp <;> omega))) rfl ?_)
        (refine nx (aA (gN rfl) rfl rfl rfl rfl rfl) rfl ?_)
        refine ⟨hil, ?_⟩
        show Wk _ _ _ _ [(8, AV.bp 8 0 []), (100008, .bx (.row [.i tf, .lst tl])), (10, .val (.lst (L.map clC))), (11, .val (.b (hitB L ((Wt : Int) - 1) (i + 1)))), (12, .val (.i ((i + 1 : Nat) : Int)))]
        rw [hsucc, Bool.false_or]
        exact wk_sub ⟨rfl, rfl, rfl, rfl, rfl, trivial⟩
    · have hil : i = L.length := by
        have := of_decide_eq_false hlt
        omega
      subst hil
      rw [hfinal]
      show AWp _ _ _ _ _ _ _
      refine aS (aR ?_)
      (refine nx (aM (gN rfl) rfl rfl rfl rfl rfl) rfl ?_)
      (refine nx (aA (gN rfl) rfl rfl rfl rfl rfl) rfl ?_)
      show AWp _ _ _ _ _ _ _
      exact aT (And.intro (.inr rfl) rfl)
theorem shp_bool {n : Nat} {c : CV} (h : Shp Tryz.prog n 4 c) : ∃ b, c = .b b := by
  cases n with
  | zero => exact h.elim
  | succ n =>
    rw [Shp, Tryz.underlying4] at h
    exact h
theorem shp_lits {n : Nat} {c : CV} (h : Shp Tryz.prog n 22 c) : ∃ l : List Lt, c = .lst (l.map Lt.cv) ∧ okC l := by
  cases n with
  | zero => exact h.elim
  | succ n =>
    rw [Shp, Tryz.underlying22] at h
    obtain ⟨l, rfl, hl⟩ := h
    obtain ⟨m, h1, h2⟩ := list_of Lt.cv (fun l => l.a.rng ∧ l.b.rng) (l := l) (fun x hx => by
      have hx := hl x hx
      cases n with
      | zero => exact hx.elim
      | succ n =>
        have hx : Shp Tryz.prog (n + 1) 52 x := hx
        rw [Shp, Tryz.underlying52] at hx
        obtain ⟨l, rfl, hl, hf⟩ := hx
        match l, hl with
        | [x, y, z], _ =>
          obtain ⟨b, rfl⟩ := shp_bool (hf 0 _ x rfl rfl)
          obtain ⟨t, rfl, ht⟩ := shp_tm n (hf 1 _ y rfl rfl)
          obtain ⟨u, rfl, hu⟩ := shp_tm n (hf 2 _ z rfl rfl)
          exact ⟨⟨b, t, u⟩, rfl, ht, hu⟩)
    exact ⟨m, by rw [h1], h2⟩
end Go.Proofs.YteegmcfobgpemaaGreat

