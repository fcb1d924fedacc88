/-
  SuRef SuPr ClRefO SuDoc SuConcat
-/
import Derived.Test.YteegmcfobgpemaaGreatMg14
import Derived.Test.YteegmcfobgpemaaGreatMg12
import Derived.Test.YteegmcfobgpemaaGreatMg2
import Derived.Test.YteegmcfobgpemaaGreatMg9
import Derived.Test.YteegmcfobgpemaaGreatMg11
namespace Go.Proofs.YteegmcfobgpemaaGreat
open Go.RowKit
set_option linter.unusedVariables false
set_option linter.unusedSimpArgs false
set_option maxRecDepth 100000
noncomputable def sdk (free : Bool) (c d : List Lt) (i p j q k : Nat) : Option (List Lt) := match c[i]?, d[j]? with
  | some x, some y => match (sdT y q).flat[k]? with
    | some e => if (mgT (sdT x p) e).2 = true ∧ ¬ e.f < 0 ∧ (free = true ∨ (leadB (repT (mgS (sdT x p) e) (sdT x p)) (repT (mgS (sdT x p) e) (sdT x (1 - p))) = true ∧ leadB (repT (mgS (sdT x p) e) (sdT y q)) (repT (mgS (sdT x p) e) (sdT y (1 - q))) = true)) then some ((offL c i ++ offL d j ++ [(⟨y.neg, (rput (sdT x (1 - p)) 60 (sdT y q) (k : Int)).1, sdT y (1 - q)⟩ : Lt)]).map (appL (dT (sdT x p) e))) else none
    | none => none
  | _, _ => none
noncomputable def sdK (free : Bool) (c d : List Lt) (i p j q K : Nat) : List (List Lt) := (List.range K).filterMap (sdk free c d i p j q)
noncomputable def sdm (free : Bool) (c d : List Lt) (i p m : Nat) : List (List Lt) := match d[m / 2]? with
  | some y => if (decide (((m / 2 : Nat) : Int) ∈ lokL d) || free) = true then sdK free c d i p (m / 2) (m % 2) (sdT y (m % 2)).size else []
  | none => []
noncomputable def sdM (free : Bool) (c d : List Lt) (i p M : Nat) : List (List Lt) := (List.range M).flatMap (sdm free c d i p)
noncomputable def sdn (free : Bool) (c d : List Lt) (n : Nat) : List (List Lt) := match c[n / 2]? with
  | some x => if x.neg = false ∧ (decide (((n / 2 : Nat) : Int) ∈ lokL c) || free) = true then sdM free c d (n / 2) (n % 2) (2 * d.length) else []
  | none => []
noncomputable def sdN (free : Bool) (c d : List Lt) (N : Nat) : List (List Lt) := (List.range N).flatMap (sdn free c d)
theorem sdK_succ (free : Bool) (c d : List Lt) (i p j q K : Nat) : sdK free c d i p j q (K + 1) = sdK free c d i p j q K ++ (sdk free c d i p j q K).toList := by
  unfold sdK
  rw [List.range_succ, List.filterMap_append]
  congr 1
theorem sdM_succ (free : Bool) (c d : List Lt) (i p M : Nat) : sdM free c d i p (M + 1) = sdM free c d i p M ++ sdm free c d i p M := by
  unfold sdM
  rw [List.range_succ, List.flatMap_append]
  simp
theorem sdN_succ (free : Bool) (c d : List Lt) (N : Nat) : sdN free c d (N + 1) = sdN free c d N ++ sdn free c d N := by
  unfold sdN
  rw [List.range_succ, List.flatMap_append]
  simp
theorem sdK_len (free : Bool) (c d : List Lt) (i p j q K : Nat) : (sdK free c d i p j q K).length ≤ K := by
  unfold sdK
  exact Nat.le_trans (List.length_filterMap_le _ _) (by rw [List.length_range]; omega)
theorem flat_le {α : Type} {f : Nat → List α} {B : Nat} (h : ∀ n, (f n).length ≤ B) : ∀ N, ((List.range N).flatMap f).length ≤ N * B
  | 0 => by simp
  | N + 1 => by
    have := flat_le h N
    rw [List.range_succ, List.flatMap_append, List.length_append, Nat.add_mul, Nat.one_mul]
    have := h N
    simp only [List.flatMap_cons, List.flatMap_nil, List.append_nil]
    omega
theorem sdm_len {free : Bool} {c d : List Lt} (hd : ∀ l ∈ d, l.ten) (i p m : Nat) : (sdm free c d i p m).length ≤ 10 := by
  unfold sdm
  split
  · rename_i y hy
    split
    · have := sdK_len free c d i p (m / 2) (m % 2) (sdT y (m % 2)).size
      have := (sd_ten (hd y (List.mem_of_getElem? hy)) (m % 2)).2
      omega
    · exact Nat.zero_le _
  · exact Nat.zero_le _
theorem sdn_len {free : Bool} {c d : List Lt} (hdl : d.length ≤ 10) (hd : ∀ l ∈ d, l.ten) (n : Nat) : (sdn free c d n).length ≤ 200 := by
  unfold sdn
  split
  · split
    · refine Nat.le_trans (flat_le (sdm_len hd _ _) _) ?_
      omega
    · exact Nat.zero_le _
  · exact Nat.zero_le _
theorem sdN_len {free : Bool} {c d : List Lt} (hdl : d.length ≤ 10) (hd : ∀ l ∈ d, l.ten) (N : Nat) : (sdN free c d N).length ≤ N * 200 := flat_le (sdn_len hdl hd) N

-- 
theorem rLook16_abs (W : World) (c : List Lt) (i : Int) (free : Bool) (hl : c.length ≤ 100) (hc : ∀ l ∈ c, l.fit) : AFun Tryz.prog W 29 [.lst (c.map Lt.cv), .i i, .b free] (.val (.b (decide (i ∈ lokL c) || free))) := by
  have hLk := fun w => rLook14_abs w c (by omega) hc
  have hLl : (lokL c).length ≤ 101 := by
    unfold lokL
    split
    · simp
    · have := gsK_len c c.length; omega
  obtain ⟨L, hL⟩ : ∃ L, L = lokL c := ⟨_, rfl⟩
  rw [← hL] at hLk hLl ⊢
  have hszL := ints_size L
  refine afun_of (rs := [.b (decide (i ∈ L) || free)]) Tryz.func29 Tryz.ntmps29 rfl rfl rfl rfl ?_
  intro w U hW
  refine aS (aR ?_)
  (refine nx (aA (gN rfl) rfl rfl rfl rfl rfl) rfl ?_)
  show AWp _ _ _ _ _ _ _
  refine aS (aR ?_)
  (refine nx (aM (gN rfl) rfl rfl rfl rfl rfl) rfl ?_)
  (refine nx (a_call (gN rfl) rfl rfl rfl rfl rfl (hLk w)) rfl ?_)
  (refine nx (aA (gN rfl) rfl rfl rfl rfl rfl) rfl ?_)
  show AWp _ _ _ _ _ _ _
  refine aS (aS (aR ?_))
  (refine nx (aA (gN rfl) rfl rfl rfl rfl rfl) rfl ?_)
  show AWp _ _ _ _ _ _ _
  refine aB (awp_countI L.length (fun k => i ∉ L.take k) (fun k => [(1, .val (.i i)), (2, .val (.b free)), (7, .val (.lst (L.map CV.i))), (8, .val (.i k))]) (wk_sub ⟨rfl, rfl, rfl, rfl, trivial⟩) (by simp) ?_)
  intro k hk hI
  refine aS (aS (aR ?_))
  (refine nx (aM (gN rfl) rfl rfl rfl rfl rfl) rfl ?_)
  (refine nx (aM (gN rfl) rfl rfl rfl rfl rfl) rfl ?_)
  (refine nx (a_len (gN rfl) rfl rfl rfl rfl rfl rfl rfl) rfl ?_)
  (refine nx (a_lss (gN rfl) rfl rfl rfl rfl rfl rfl) rfl ?_)
  show AWp _ _ _ _ _ _ _
  refine aC rfl (fun hlt => ?_) (fun hlt => ?_)
  · have hkl : k < L.length := by simpa using hlt
    obtain ⟨u, hu⟩ : ∃ u, L[k]? = some u := ⟨L[k], List.getElem?_eq_getElem hkl⟩
    have hu' := int_at hu
    refine aK ?_
    show AWp _ _ _ _ _ _ _
    refine aS (aB (aS (aR ?_)))
    (refine nx (aM (gN rfl) rfl rfl rfl rfl rfl) rfl ?_)
    (refine nx (aM (gN rfl) rfl rfl rfl rfl rfl) rfl ?_)
    (refine nx (a_index (j := k) (gN rfl) rfl rfl rfl rfl rfl rfl rfl rfl rfl (hu') rfl (hszL)) rfl ?_)
    (refine nx (a_load_ad (gN rfl) rfl rfl rfl rfl rfl rfl rfl rfl rfl) rfl ?_)
    (refine nx (aM (gN rfl) rfl rfl rfl rfl rfl) rfl ?_)
    (refine nx (a_eql (gN rfl) rfl rfl rfl rfl rfl rfl) rfl ?_)
    show AWp _ _ _ _ _ _ _
    refine aC rfl (fun hq => ?_) (fun hq => ?_)
    · have hq : u = i := by simpa using hq
      rw [decide_eq_true (by rw [← hq]; exact List.mem_of_getElem? hu), Bool.true_or]
      refine aS (aR ?_)
      (refine nx (aA (gN rfl) rfl rfl rfl rfl rfl) rfl ?_)
      show AWp _ _ _ _ _ _ _
      exact aT (And.intro (.inr rfl) rfl)
    · have hq : ¬ u = i := by simpa using hq
      refine aK ?_
      show AWp _ _ _ _ _ _ _
      refine aR ?_
      (refine nx (aM (gN rfl) rfl rfl rfl rfl rfl) rfl ?_)
      (refine nx (a_add (gN rfl) rfl rfl rfl rfl rfl rfl (by first | omega | (simp only [List.length_map, List.length_append, List.length_cons, List.length_nil] <;> omega) | (simp <;> omega))) rfl ?_)
      (refine nx (aA (gN rfl) rfl rfl rfl rfl rfl) rfl ?_)
      refine ⟨hkl, ?_, wk_sub ⟨rfl, rfl, rfl, rfl, trivial⟩⟩
      show i ∉ L.take (k + 1)
      rw [List.take_add_one, hu, List.mem_append]
      rintro (h | h)
      · exact hI h
      · simp at h; exact hq h.symm
  · have hkl : k = L.length := by
      have : ¬ k < L.length := by simpa using hlt
      omega
    subst hkl
    rw [List.take_length] at hI
    rw [decide_eq_false hI, Bool.false_or]
    refine aE ?_
    show AWp _ _ _ _ _ _ _
    refine aS (aR ?_)
    (refine nx (aM (gN rfl) rfl rfl rfl rfl rfl) rfl ?_)
    (refine nx (aA (gN rfl) rfl rfl rfl rfl rfl) rfl ?_)
    show AWp _ _ _ _ _ _ _
    exact aT (And.intro (.inr rfl) rfl)
-- 
theorem rFalls_abs (W : World) (s : List Bd) (a b : Tm) (hs : s.length ≤ 1000000) (ha : a.rng ∧ a.ok) (hb : b.rng ∧ b.ok) (ha2 : (appR s a).rng ∧ (appR s a).ok ∧ (appR s a).size ≤ 90000000000) (hb2 : (appR s b).rng ∧ (appR s b).ok ∧ (appR s b).size ≤ 90000000000) : AFun Tryz.prog W 33 [.lst (s.map Bd.cv), a.cw, b.cw] (.val (.b (decide (kb (appR s a) (appR s b) = 0 ∨ kb (appR s a) (appR s b) = -1)))) := by
  have hcmp := fun w => rCompare_abs w (appR s a) (appR s b) ha2.1 ha2.2.1 ha2.2.2 hb2.1 hb2.2.1 hb2.2.2
  obtain ⟨kk, hkk⟩ : ∃ kk, kk = kb (appR s a) (appR s b) := ⟨_, rfl⟩
  rw [← hkk] at hcmp ⊢
  refine afun_of (rs := [.b (decide (kk = 0 ∨ kk = -1))]) Tryz.func33 Tryz.ntmps33 rfl rfl rfl rfl ?_
  intro w U hW
  refine aS (aR ?_)
  (refine nx (a_box (gN rfl) rfl rfl rfl rfl rfl) rfl ?_)
  (refine nx (a_box (gN rfl) rfl rfl rfl rfl rfl) rfl ?_)
  (refine nx (aA (gN rfl) rfl rfl rfl rfl rfl) rfl ?_)
  show AWp _ _ _ _ _ _ _
  refine aS (aD (by kernel_rfl) (by kernel_rfl) ?_)
  (refine nx (aM (gN rfl) rfl rfl rfl rfl rfl) rfl ?_)
  (refine nx (aL (gN rfl) rfl rfl rfl rfl rfl rfl rfl rfl rfl rfl rfl rfl) rfl ?_)
  (refine nx (a_call (gN rfl) rfl rfl rfl rfl rfl (refApply_abs w s hs _ ha.1 ha.2)) rfl ?_)
  (refine nx (aM (gN rfl) rfl rfl rfl rfl rfl) rfl ?_)
  (refine nx (aL (gN rfl) rfl rfl rfl rfl rfl rfl rfl rfl rfl rfl rfl rfl) rfl ?_)
  (refine nx (a_call (gN rfl) rfl rfl rfl rfl rfl (refApply_abs w s hs _ hb.1 hb.2)) rfl ?_)
  (refine nx (a_call (gN rfl) rfl rfl rfl rfl rfl (hcmp w)) rfl ?_)
  (refine nx (aA (gN rfl) rfl rfl rfl rfl rfl) rfl ?_)
  refine ⟨by kernel_rfl, ?_⟩
  show AWp _ _ _ _ _ _ _
  by_cases h0 : kk = 0
  · have g : decide (kk = 0) = true := decide_eq_true h0
    rw [decide_eq_true (Or.inl h0)]
    refine aS (aR ?_)
    (refine nx (aM (gN rfl) rfl rfl rfl rfl rfl) rfl ?_)
    (refine nx (a_eql (gN rfl) rfl rfl rfl rfl rfl rfl) rfl ?_)
    (refine nx (aM (gN rfl) rfl rfl rfl rfl rfl) rfl ?_)
    (refine ⟨_, _, _, a_offt (go_off rfl rfl rfl rfl (by first | rfl | assumption | (simp; done) | (simp [*]; done))) rfl rfl rfl, rfl, ?_⟩)
    (refine ⟨_, _, _, a_offt (go_off rfl rfl rfl rfl (by first | rfl | assumption | (simp; done) | (simp [*]; done))) rfl rfl rfl, rfl, ?_⟩)
    (refine ⟨_, _, _, aPt (gN rfl) rfl rfl rfl rfl rfl ?hb rfl, rfl, ?_⟩; case hb => (first | rfl | assumption | (simp; done)))
    (refine nx (aA (gN rfl) rfl rfl rfl rfl rfl) rfl ?_)
    show AWp _ _ _ _ _ _ _
    exact aT (And.intro (.inr rfl) rfl)
  · have g : decide (kk = 0) = false := decide_eq_false h0
    have e : decide (kk = 0 ∨ kk = -1) = decide (kk = -1) := by simp [h0]
    rw [e]
    refine aS (aR ?_)
    (refine nx (aM (gN rfl) rfl rfl rfl rfl rfl) rfl ?_)
    (refine nx (a_eql (gN rfl) rfl rfl rfl rfl rfl rfl) rfl ?_)
    (refine nx (aM (gN rfl) rfl rfl rfl rfl rfl) rfl ?_)
    (refine nx (aM (gd_on rfl rfl rfl rfl (by first | rfl | assumption | (simp; done))) rfl rfl rfl rfl rfl) rfl ?_)
    (refine nx (a_eql (gd_on rfl rfl rfl rfl (by first | rfl | assumption | (simp; done))) rfl rfl rfl rfl rfl rfl) rfl ?_)
    (refine ⟨_, _, _, aPf (gN rfl) rfl rfl rfl rfl rfl ?hb rfl, rfl, ?_⟩; case hb => (first | rfl | assumption | (simp; done)))
    (refine nx (aA (gN rfl) rfl rfl rfl rfl rfl) rfl ?_)
    show AWp _ _ _ _ _ _ _
    exact aT (And.intro (.inr rfl) rfl)
theorem rput_rng (u : Tm) (hu : u.rng) : ∀ (d : Nat) (t : Tm) (n : Int), t.rng → (rput u d t n).1.rng
  | 0, t, n, h => h
  | d + 1, t, n, h => by
    by_cases h0 : n = 0
    · rw [rput, if_pos h0]; exact hu
    obtain ⟨h1, h2⟩ := (Tm.rng_iff _).1 h
    by_cases hf : t.f < 0
    · rw [rput_var h0 hf]; exact leaf_rng (by omega) (by omega)
    rw [rput_sym h0 hf]
    refine (Tm.rng_iff _).2 ⟨h1, ?_⟩
    have : ∀ (l : List Tm) (acc : List Tm × Int), (∀ x ∈ l, x.rng) → (∀ x ∈ acc.1, x.rng) → ∀ x ∈ (l.foldl (rstep u d) acc).1, x.rng := by
      intro l
      induction l with
      | nil => intro acc _ h; exact h
      | cons x l ih =>
        intro acc hl ha
        rw [List.foldl_cons]
        refine ih _ (fun y hy => hl y (List.mem_cons_of_mem _ hy)) ?_
        unfold rstep
        split
        · intro y hy
          rcases List.mem_append.1 hy with hy | hy
          · exact ha y hy
          · rw [List.mem_singleton.1 hy]; exact rput_rng u hu d x acc.2 (hl x (by simp))
        · intro y hy
          rcases List.mem_append.1 hy with hy | hy
          · exact ha y hy
          · rw [List.mem_singleton.1 hy]; exact hl x (by simp)
    exact this t.l ([], n - 1) h2 (fun x hx => by cases hx)
theorem flat_ten {t s : Tm} (h : t.ten) (hs : s ∈ t.flat) : s.ten := by
  have key : ∀ t : Tm, (t.rng ∧ t.ok) → ∀ s ∈ t.flat, (s.rng ∧ s.ok) ∧ s.size ≤ t.size := fun t => by
    induction t using Tm.indp with
    | h t ih =>
      intro h s hs
      rw [Tm.flat_eq] at hs
      rcases List.mem_cons.1 hs with rfl | hs
      · exact ⟨h, Nat.le_refl _⟩
      · obtain ⟨p, hp, hs⟩ := List.mem_flatMap.1 hs
        have hpl : p ∈ t.l := by
          rcases Decidable.em (t.f < 0) with hf | hf
          · rw [Tm.ps_of_var hf] at hp; cases hp
          · rw [Tm.ps_of_sym (by omega)] at hp; exact hp
        have h1 := ih p hp ⟨((Tm.rng_iff _).1 h.1).2 p hpl, ((Tm.ok_iff _).1 h.2).2 p hpl⟩ s hs
        have := Tm.size_part hp
        exact ⟨h1.1, by omega⟩
  obtain ⟨h1, h2⟩ := key t h.1 s hs
  exact ⟨h1, Nat.le_trans h2 h.2⟩
noncomputable abbrev dA (c d : List Lt) (free : Bool) (O : List (List Lt)) (n : Nat) : AS := [(0, .val (.lst (c.map Lt.cv))), (1, .val (.lst (d.map Lt.cv))), (2, .val (.b free)), (7, .own (.lst (O.map clC)) 200170), (200170, .tok 22 1), (8, .val (.i (n : Int)))]
noncomputable abbrev dB (c d : List Lt) (free : Bool) (O : List (List Lt)) (n i p : Nat) (S T : Tm) (m : Nat) : AS := [(0, .val (.lst (c.map Lt.cv))), (1, .val (.lst (d.map Lt.cv))), (2, .val (.b free)), (7, .own (.lst (O.map clC)) 200170), (200170, .tok 22 1), (8, .val (.i (n : Int))), (9, .val (.i (i : Int))), (10, .val (.i (p : Int))), (11, .bp 11 0 []), (100011, .bx S.cw), (12, .bp 12 0 []), (100012, .bx T.cw), (13, .val (.i (m : Int)))]
noncomputable abbrev dC (c d : List Lt) (free : Bool) (O : List (List Lt)) (n i p : Nat) (S T : Tm) (m j q : Nat) (u v : Tm) (k : Nat) : AS := [(0, .val (.lst (c.map Lt.cv))), (1, .val (.lst (d.map Lt.cv))), (2, .val (.b free)), (7, .own (.lst (O.map clC)) 200170), (200170, .tok 22 1), (8, .val (.i (n : Int))), (9, .val (.i (i : Int))), (10, .val (.i (p : Int))), (11, .bp 11 0 []), (100011, .bx S.cw), (12, .bp 12 0 []), (100012, .bx T.cw), (13, .val (.i (m : Int))), (14, .val (.i (j : Int))), (15, .val (.i (q : Int))), (16, .bp 16 0 []), (100016, .bx u.cw), (17, .bp 17 0 []), (100017, .bx v.cw), (18, .val (.lst (u.flat.map Tm.cv))), (19, .val (.i (k : Int)))]
-- 
set_option maxHeartbeats 32000000 in
theorem rInto_abs (W : World) (c d0 d : List Lt) (free : Bool) (T0 : Int) (hT : -1 ≤ T0 ∧ T0 ≤ 1000000) (hcl : c.length ≤ 10) (hdl : d.length ≤ 10) (hc : ∀ l ∈ c, l.ten) (hd : ∀ l ∈ d, l.ten) (hTop : ∀ w, AFun Tryz.prog w 28 [.lst (c.map Lt.cv)] (.val (.i T0))) (hRen : ∀ w, AFun Tryz.prog w 27 [.lst (d0.map Lt.cv), .i (T0 + 1)] (.val (.lst (d.map Lt.cv)))) : AFun Tryz.prog W 10 [.lst (c.map Lt.cv), .lst (d0.map Lt.cv), .b free] (.val (.lst ((sdN free c d (2 * c.length)).map clC))) := by
  have hsz := Lt.size_all c
  have hsd := Lt.size_all d
  have hclm : (c.map Lt.cv).length = c.length := List.length_map ..
  have hdlm : (d.map Lt.cv).length = d.length := List.length_map ..
  refine afun_of (rs := [.lst ((sdN free c d (2 * c.length)).map clC)]) Tryz.func10 Tryz.ntmps10 rfl rfl rfl rfl ?_
  intro w U hW
  refine aS (aR ?_)
  (refine nx (aA (gN rfl) rfl rfl rfl rfl rfl) rfl ?_)
  show AWp _ _ _ _ _ _ _
  refine aS (aR ?_)
  (refine nx (aM (gN rfl) rfl rfl rfl rfl rfl) rfl ?_)
  (refine nx (aM (gN rfl) rfl rfl rfl rfl rfl) rfl ?_)
  (refine nx (a_call (gN rfl) rfl rfl rfl rfl rfl (hTop w)) rfl ?_)
  (refine nx (a_add (gN rfl) rfl rfl rfl rfl rfl rfl (by first | omega | (simp only [List.length_map, List.length_append, List.length_cons, List.length_nil] <;> omega) | (simp <;> omega))) rfl ?_)
  (refine nx (a_call (gN rfl) rfl rfl rfl rfl rfl (hRen w)) rfl ?_)
  (refine nx (aA (gN rfl) rfl rfl rfl rfl rfl) rfl ?_)
  show AWp _ _ _ _ _ _ _
  refine aS (aR ?_)
  (refine nx (aA (gN rfl) rfl rfl rfl rfl rfl) rfl ?_)
  show AWp _ _ _ _ _ _ _
  refine aS (aS (aR ?_))
  (refine nx (aA (gN rfl) rfl rfl rfl rfl rfl) rfl ?_)
  show AWp _ _ _ _ _ _ _
  refine aB (awp_count (2 * c.length) (fun n => dA c d free (sdN free c d n) n) ((wk_nil 7 200170 22 1 rfl rfl rfl rfl rfl rfl rfl).trans (wk_sub ⟨rfl, rfl, rfl, rfl, rfl, rfl, trivial⟩)) ?_)
  intro n hn
  refine aS (aS (aR ?_))
  (refine nx (aM (gN rfl) rfl rfl rfl rfl rfl) rfl ?_)
  (refine nx (aM (gN rfl) rfl rfl rfl rfl rfl) rfl ?_)
  (refine nx (a_len (gN rfl) rfl rfl rfl rfl rfl rfl rfl) rfl ?_)
  (refine nx (a_mul (gN rfl) rfl rfl rfl rfl rfl rfl (by first | omega | (simp only [List.length_map, List.length_append, List.length_cons, List.length_nil] <;> omega) | (simp <;> omega))) rfl ?_)
  (refine nx (a_lss (gN rfl) rfl rfl rfl rfl rfl rfl) rfl ?_)
  show AWp _ _ _ _ _ _ _
  refine aC rfl (fun hlt => aK ?_) (fun hlt => aE ?_)
  · have hnl : n < 2 * c.length := by
      have h : (n : Int) < 2 * (c.length : Int) := by simpa using hlt
      omega
    obtain ⟨i, hi⟩ : ∃ i, i = n / 2 := ⟨_, rfl⟩
    obtain ⟨p, hp⟩ : ∃ p, p = n % 2 := ⟨_, rfl⟩
    have hp2 : p < 2 := by omega
    have hil : i < c.length := by omega
    have t1 : (n : Int).tdiv 2 = (i : Int) := by rw [hi]; exact (Int.ofNat_tdiv n 2).symm
    have t2 : (n : Int).tmod 2 = (p : Int) := by rw [hp]; exact (Int.ofNat_tmod n 2).symm
    have w1 : IntKind.i64.wrap ((n : Int).tdiv 2) = (n : Int).tdiv 2 := by rw [t1, IntKind.wrap_i64]; omega
    obtain ⟨x, hx⟩ : ∃ x, c[i]? = some x := ⟨c[i], List.getElem?_eq_getElem hil⟩
    have hx' := Lt.map_at hx
    have hxt := hc x (List.mem_of_getElem? hx)
    have hS := sdN_succ free c d n
    have hsn : sdn free c d n = if x.neg = false ∧ (decide ((i : Int) ∈ lokL c) || free) = true then sdM free c d i p (2 * d.length) else [] := by unfold sdn; rw [← hi, ← hp, hx]
    have hAl := sdN_len (free := free) (c := c) hdl hd n
    obtain ⟨A, hA⟩ : ∃ A, A = sdN free c d n := ⟨_, rfl⟩
    rw [← hA] at hS hAl
    have hno : sdn free c d n = [] → ∀ s : AS, SubL s (dA c d free A (n + 1)) → SubL s (dA c d free (sdN free c d (n + 1)) (n + 1)) := fun h s hs => by
      rw [hS, h, List.append_nil]
      exact hs
    show AWp _ _ _ _ _ _ _
    refine aS (aB (aS (aR ?_)))
    (refine nx (aM (gN rfl) rfl rfl rfl rfl rfl) rfl ?_)
    (refine nx (a_quo (gN rfl) rfl rfl rfl rfl rfl rfl (by first | decide | assumption) (by assumption)) rfl ?_)
    (refine nx (aM (gN rfl) rfl rfl rfl rfl rfl) rfl ?_)
    (refine nx (a_rem (gN rfl) rfl rfl rfl rfl rfl rfl (by first | decide | assumption)) rfl ?_)
    (refine nx (aA (gN rfl) rfl rfl rfl rfl rfl) rfl ?_)
    (refine nx (aA (gN rfl) rfl rfl rfl rfl rfl) rfl ?_)
    show AWp _ _ _ _ _ _ _
    refine AWp.wk (wk_sub (s' := (9, AV.val (.i (i : Int))) :: (10, .val (.i (p : Int))) :: dA c d free A n) ⟨by rw [← t1]; rfl, by rw [← t2]; rfl, rfl, rfl, rfl, by rw [hA]; rfl, rfl, rfl, trivial⟩) ?_
    have hlk := rLook16_abs w c (i : Int) free (by omega) (ten_okF hc)
    obtain ⟨lk, hlke⟩ : ∃ lk, lk = (decide ((i : Int) ∈ lokL c) || free) := ⟨_, rfl⟩
    rw [← hlke] at hlk hsn
    cases hxn : x.neg with
    | true =>
      have hxc : x.cw = .row [.b true, x.a.cw, x.b.cw] := by unfold Lt.cw; rw [hxn]
      rw [hxc] at hx'
      rw [hxn, if_neg (by rintro ⟨h, _⟩; cases h)] at hsn
      refine aS (aS (aR ?_))
      (refine nx (aM (gN rfl) rfl rfl rfl rfl rfl) rfl ?_)
      (refine nx (aM (gN rfl) rfl rfl rfl rfl rfl) rfl ?_)
      (refine nx (a_index (j := i) (gN rfl) rfl rfl rfl rfl rfl rfl rfl rfl rfl (hx') rfl (hsz)) rfl ?_)
      (refine nx (a_field_ad (gN rfl) rfl rfl rfl rfl rfl rfl rfl rfl rfl rfl rfl) rfl ?_)
      (refine nx (a_load_ad (gN rfl) rfl rfl rfl rfl rfl rfl rfl rfl rfl) rfl ?_)
      (refine nx (aM (gN rfl) rfl rfl rfl rfl rfl) rfl ?_)
      (refine ⟨_, _, _, a_offt (go_off rfl rfl rfl rfl (by first | rfl | assumption | (simp; done) | (simp [*]; done))) rfl rfl rfl, rfl, ?_⟩)
      (refine ⟨_, _, _, a_offt (go_off rfl rfl rfl rfl (by first | rfl | assumption | (simp; done) | (simp [*]; done))) rfl rfl rfl, rfl, ?_⟩)
      (refine ⟨_, _, _, a_offt (go_off rfl rfl rfl rfl (by first | rfl | assumption | (simp; done) | (simp [*]; done))) rfl rfl rfl, rfl, ?_⟩)
      (refine ⟨_, _, _, a_offt (go_off rfl rfl rfl rfl (by first | rfl | assumption | (simp; done) | (simp [*]; done))) rfl rfl rfl, rfl, ?_⟩)
      (refine ⟨_, _, _, a_offt (go_off rfl rfl rfl rfl (by first | rfl | assumption | (simp; done) | (simp [*]; done))) rfl rfl rfl, rfl, ?_⟩)
      (refine ⟨_, _, _, aPt (gN rfl) rfl rfl rfl rfl rfl ?hb rfl, rfl, ?_⟩; case hb => (first | rfl | assumption | (simp; done)))
      show AWp _ _ _ _ _ _ _
      refine aC rfl (fun _ => aE ?_) (fun h => by cases h)
      show AWp _ _ _ _ _ _ _
      refine aR ?_
      (refine nx (aM (gN rfl) rfl rfl rfl rfl rfl) rfl ?_)
      (refine nx (a_add (gN rfl) rfl rfl rfl rfl rfl rfl (by first | omega | (simp only [List.length_map, List.length_append, List.length_cons, List.length_nil] <;> omega) | (simp <;> omega))) rfl ?_)
      (refine nx (aA (gN rfl) rfl rfl rfl rfl rfl) rfl ?_)
      exact ⟨hnl, wk_sub (hno hsn _ ⟨rfl, rfl, rfl, rfl, rfl, rfl, trivial⟩)⟩
    | false =>
    have hxc : x.cw = .row [.b false, x.a.cw, x.b.cw] := by unfold Lt.cw; rw [hxn]
    rw [hxc] at hx'
    rw [hxn] at hsn
    cases hlkv : lk with
    | false =>
      rw [hlkv] at hlk
      rw [hlkv, if_neg (by rintro ⟨_, h⟩; cases h)] at hsn
      refine aS (aS (aR ?_))
      (refine nx (aM (gN rfl) rfl rfl rfl rfl rfl) rfl ?_)
      (refine nx (aM (gN rfl) rfl rfl rfl rfl rfl) rfl ?_)
      (refine nx (a_index (j := i) (gN rfl) rfl rfl rfl rfl rfl rfl rfl rfl rfl (hx') rfl (hsz)) rfl ?_)
      (refine nx (a_field_ad (gN rfl) rfl rfl rfl rfl rfl rfl rfl rfl rfl rfl rfl) rfl ?_)
      (refine nx (a_load_ad (gN rfl) rfl rfl rfl rfl rfl rfl rfl rfl rfl) rfl ?_)
      (refine nx (aM (gN rfl) rfl rfl rfl rfl rfl) rfl ?_)
      (refine nx (aM (gd_on rfl rfl rfl rfl (by first | rfl | assumption | (simp; done))) rfl rfl rfl rfl rfl) rfl ?_)
      (refine nx (aM (gd_on rfl rfl rfl rfl (by first | rfl | assumption | (simp; done))) rfl rfl rfl rfl rfl) rfl ?_)
      (refine nx (aM (gd_on rfl rfl rfl rfl (by first | rfl | assumption | (simp; done))) rfl rfl rfl rfl rfl) rfl ?_)
      (refine nx (a_call (gd_on rfl rfl rfl rfl (by first | rfl | assumption | (simp; done))) rfl rfl rfl rfl rfl (hlk)) rfl ?_)
      (refine nx (a_not (gd_on rfl rfl rfl rfl (by first | rfl | assumption | (simp; done))) rfl rfl rfl rfl rfl) rfl ?_)
      (refine ⟨_, _, _, aPf (gN rfl) rfl rfl rfl rfl rfl ?hb rfl, rfl, ?_⟩; case hb => (first | rfl | assumption | (simp; done)))
      show AWp _ _ _ _ _ _ _
      refine aC rfl (fun _ => aE ?_) (fun h => by cases h)
      show AWp _ _ _ _ _ _ _
      refine aR ?_
      (refine nx (aM (gN rfl) rfl rfl rfl rfl rfl) rfl ?_)
      (refine nx (a_add (gN rfl) rfl rfl rfl rfl rfl rfl (by first | omega | (simp only [List.length_map, List.length_append, List.length_cons, List.length_nil] <;> omega) | (simp <;> omega))) rfl ?_)
      (refine nx (aA (gN rfl) rfl rfl rfl rfl rfl) rfl ?_)
      exact ⟨hnl, wk_sub (hno hsn _ ⟨rfl, rfl, rfl, rfl, rfl, rfl, trivial⟩)⟩
    | true =>
    rw [hlkv] at hlk
    rw [hlkv, if_pos ⟨rfl, rfl⟩] at hsn
    refine aS (aS (aR ?_))
    (refine nx (aM (gN rfl) rfl rfl rfl rfl rfl) rfl ?_)
    (refine nx (aM (gN rfl) rfl rfl rfl rfl rfl) rfl ?_)
    (refine nx (a_index (j := i) (gN rfl) rfl rfl rfl rfl rfl rfl rfl rfl rfl (hx') rfl (hsz)) rfl ?_)
    (refine nx (a_field_ad (gN rfl) rfl rfl rfl rfl rfl rfl rfl rfl rfl rfl rfl) rfl ?_)
    (refine nx (a_load_ad (gN rfl) rfl rfl rfl rfl rfl rfl rfl rfl rfl) rfl ?_)
    (refine nx (aM (gN rfl) rfl rfl rfl rfl rfl) rfl ?_)
    (refine nx (aM (gd_on rfl rfl rfl rfl (by first | rfl | assumption | (simp; done))) rfl rfl rfl rfl rfl) rfl ?_)
    (refine nx (aM (gd_on rfl rfl rfl rfl (by first | rfl | assumption | (simp; done))) rfl rfl rfl rfl rfl) rfl ?_)
    (refine nx (aM (gd_on rfl rfl rfl rfl (by first | rfl | assumption | (simp; done))) rfl rfl rfl rfl rfl) rfl ?_)
    (refine nx (a_call (gd_on rfl rfl rfl rfl (by first | rfl | assumption | (simp; done))) rfl rfl rfl rfl rfl (hlk)) rfl ?_)
    (refine nx (a_not (gd_on rfl rfl rfl rfl (by first | rfl | assumption | (simp; done))) rfl rfl rfl rfl rfl) rfl ?_)
    (refine ⟨_, _, _, aPf (gN rfl) rfl rfl rfl rfl rfl ?hb rfl, rfl, ?_⟩; case hb => (first | rfl | assumption | (simp; done)))
    show AWp _ _ _ _ _ _ _
    refine aC rfl (fun h => by cases h) (fun _ => aK ?_)
    show AWp _ _ _ _ _ _ _
    rw [← hxc] at hx'
    have sp := sd_ten hxt p
    have sp1 := sd_ten hxt (1 - p)
    refine aS (aD (by kernel_rfl) (by kernel_rfl) ?_)
    (refine nx (aM (gN rfl) rfl rfl rfl rfl rfl) rfl ?_)
    (refine nx (aM (gN rfl) rfl rfl rfl rfl rfl) rfl ?_)
    (refine nx (a_index (j := i) (gN rfl) rfl rfl rfl rfl rfl rfl rfl rfl rfl (hx') rfl (hsz)) rfl ?_)
    (refine nx (a_load_ad (gN rfl) rfl rfl rfl rfl rfl rfl rfl rfl rfl) rfl ?_)
    (refine nx (aM (gN rfl) rfl rfl rfl rfl rfl) rfl ?_)
    (refine nx (a_call (gN rfl) rfl rfl rfl rfl rfl (rSide_abs w x p)) rfl ?_)
    (refine nx (aM (gN rfl) rfl rfl rfl rfl rfl) rfl ?_)
    (refine nx (aM (gN rfl) rfl rfl rfl rfl rfl) rfl ?_)
    (refine nx (a_index (j := i) (gN rfl) rfl rfl rfl rfl rfl rfl rfl rfl rfl (hx') rfl (hsz)) rfl ?_)
    (refine nx (a_load_ad (gN rfl) rfl rfl rfl rfl rfl rfl rfl rfl rfl) rfl ?_)
    (refine nx (aM (gN rfl) rfl rfl rfl rfl rfl) rfl ?_)
    (refine nx (a_sub (gN rfl) rfl rfl rfl rfl rfl rfl (by first | omega | (simp only [List.length_map, List.length_append, List.length_cons, List.length_nil] <;> omega) | (simp <;> omega))) rfl ?_)
    (refine nx (a_call (gN rfl) rfl rfl rfl rfl rfl (rSideI_abs w x _ (1 - p) (by omega))) rfl ?_)
    (refine nx (a_alloc (gN rfl) rfl rfl rfl rfl rfl rfl rfl rfl rfl rfl) rfl ?_)
    (refine nx (a_alloc (gN rfl) rfl rfl rfl rfl rfl rfl rfl rfl rfl rfl) rfl ?_)
    (refine nx (aSt (gN rfl) rfl rfl rfl rfl rfl rfl rfl rfl rfl rfl) rfl ?_)
    (refine nx (aSt (gN rfl) rfl rfl rfl rfl rfl rfl rfl rfl rfl rfl) rfl ?_)
    refine ⟨by kernel_rfl, ?_⟩
    show AWp _ _ _ _ _ _ _
    obtain ⟨S, hSe⟩ : ∃ S, S = sdT x p := ⟨_, rfl⟩
    obtain ⟨T, hTe⟩ : ∃ T, T = sdT x (1 - p) := ⟨_, rfl⟩
    rw [← hSe] at sp
    rw [← hTe] at sp1
    refine AWp.wk (wk_sub (s' := (9, AV.val (.i (i : Int))) :: (10, .val (.i (p : Int))) :: (11, .bp 11 0 []) :: (100011, .bx S.cw) :: (12, .bp 12 0 []) :: (100012, .bx T.cw) :: dA c d free A n) ⟨rfl, rfl, rfl, by rw [hSe]; rfl, rfl, by rw [hTe]; rfl, rfl, rfl, rfl, rfl, rfl, rfl, trivial⟩) ?_
    refine aS (aR ?_)
    (refine nx (aA (gN rfl) rfl rfl rfl rfl rfl) rfl ?_)
    show AWp _ _ _ _ _ _ _
    refine aB (awp_count (2 * d.length) (fun m => dB c d free (A ++ sdM free c d i p m) n i p S T m) (wk_sub ⟨rfl, rfl, rfl, by rw [show sdM free c d i p 0 = [] from rfl, List.append_nil]; rfl, rfl, rfl, rfl, rfl, rfl, rfl, rfl, rfl, rfl, trivial⟩) ?_)
    intro m hm
    refine aS (aS (aR ?_))
    (refine nx (aM (gN rfl) rfl rfl rfl rfl rfl) rfl ?_)
    (refine nx (aM (gN rfl) rfl rfl rfl rfl rfl) rfl ?_)
    (refine nx (a_len (gN rfl) rfl rfl rfl rfl rfl rfl rfl) rfl ?_)
    (refine nx (a_mul (gN rfl) rfl rfl rfl rfl rfl rfl (by first | omega | (simp only [List.length_map, List.length_append, List.length_cons, List.length_nil] <;> omega) | (simp <;> omega))) rfl ?_)
    (refine nx (a_lss (gN rfl) rfl rfl rfl rfl rfl rfl) rfl ?_)
    show AWp _ _ _ _ _ _ _
    refine aC rfl (fun hlt => aK ?_) (fun hlt => aE ?_)
    · have hml : m < 2 * d.length := by
        have h : (m : Int) < 2 * (d.length : Int) := by simpa using hlt
        omega
      obtain ⟨j, hj⟩ : ∃ j, j = m / 2 := ⟨_, rfl⟩
      obtain ⟨q, hq⟩ : ∃ q, q = m % 2 := ⟨_, rfl⟩
      have hq2 : q < 2 := by omega
      have hjl : j < d.length := by omega
      have t3 : (m : Int).tdiv 2 = (j : Int) := by rw [hj]; exact (Int.ofNat_tdiv m 2).symm
      have t4 : (m : Int).tmod 2 = (q : Int) := by rw [hq]; exact (Int.ofNat_tmod m 2).symm
      have w2 : IntKind.i64.wrap ((m : Int).tdiv 2) = (m : Int).tdiv 2 := by rw [t3, IntKind.wrap_i64]; omega
      obtain ⟨y, hy⟩ : ∃ y, d[j]? = some y := ⟨d[j], List.getElem?_eq_getElem hjl⟩
      have hy' := Lt.map_at hy
      have hyt := hd y (List.mem_of_getElem? hy)
      have hM := sdM_succ free c d i p m
      have hsm : sdm free c d i p m = if (decide ((j : Int) ∈ lokL d) || free) = true then sdK free c d i p j q (sdT y q).size else [] := by unfold sdm; rw [← hj, ← hq, hy]
      have hBl : (sdM free c d i p m).length ≤ 200 := by
        have := flat_le (sdm_len (free := free) (c := c) hd i p) m
        have e : (sdM free c d i p m).length ≤ m * 10 := this
        omega
      obtain ⟨B, hB⟩ : ∃ B, B = A ++ sdM free c d i p m := ⟨_, rfl⟩
      have hBl2 : B.length ≤ 5000 := by rw [hB, List.length_append]; omega
      have hM2 : A ++ sdM free c d i p (m + 1) = B ++ sdm free c d i p m := by rw [hM, hB, List.append_assoc]
      have hno2 : sdm free c d i p m = [] → ∀ s : AS, SubL s (dB c d free B n i p S T (m + 1)) → SubL s (dB c d free (A ++ sdM free c d i p (m + 1)) n i p S T (m + 1)) := fun h s hs => by
        rw [hM2, h, List.append_nil]
        exact hs
      show AWp _ _ _ _ _ _ _
      refine aS (aB (aS (aR ?_)))
      (refine nx (aM (gN rfl) rfl rfl rfl rfl rfl) rfl ?_)
      (refine nx (a_quo (gN rfl) rfl rfl rfl rfl rfl rfl (by first | decide | assumption) (by assumption)) rfl ?_)
      (refine nx (aM (gN rfl) rfl rfl rfl rfl rfl) rfl ?_)
      (refine nx (a_rem (gN rfl) rfl rfl rfl rfl rfl rfl (by first | decide | assumption)) rfl ?_)
      (refine nx (aA (gN rfl) rfl rfl rfl rfl rfl) rfl ?_)
      (refine nx (aA (gN rfl) rfl rfl rfl rfl rfl) rfl ?_)
      show AWp _ _ _ _ _ _ _
      refine AWp.wk (wk_sub (s' := (14, AV.val (.i (j : Int))) :: (15, .val (.i (q : Int))) :: dB c d free B n i p S T m) ⟨by rw [← t3]; rfl, by rw [← t4]; rfl, rfl, rfl, rfl, by rw [hB]; rfl, rfl, rfl, rfl, rfl, rfl, rfl, rfl, rfl, rfl, trivial⟩) ?_
      have hlk2 := rLook16_abs w d (j : Int) free (by omega) (ten_okF hd)
      obtain ⟨lk2, hlke2⟩ : ∃ lk2, lk2 = (decide ((j : Int) ∈ lokL d) || free) := ⟨_, rfl⟩
      rw [← hlke2] at hlk2 hsm
      cases hlkv2 : lk2 with
      | false =>
        rw [hlkv2] at hlk2
        rw [hlkv2, if_neg (by simp)] at hsm
        refine aS (aS (aR ?_))
        (refine nx (aM (gN rfl) rfl rfl rfl rfl rfl) rfl ?_)
        (refine nx (aM (gN rfl) rfl rfl rfl rfl rfl) rfl ?_)
        (refine nx (aM (gN rfl) rfl rfl rfl rfl rfl) rfl ?_)
        (refine nx (a_call (gN rfl) rfl rfl rfl rfl rfl (hlk2)) rfl ?_)
        (refine nx (a_not (gN rfl) rfl rfl rfl rfl rfl) rfl ?_)
        show AWp _ _ _ _ _ _ _
        refine aC rfl (fun _ => aE ?_) (fun h => by cases h)
        show AWp _ _ _ _ _ _ _
        refine aR ?_
        (refine nx (aM (gN rfl) rfl rfl rfl rfl rfl) rfl ?_)
        (refine nx (a_add (gN rfl) rfl rfl rfl rfl rfl rfl (by first | omega | (simp only [List.length_map, List.length_append, List.length_cons, List.length_nil] <;> omega) | (simp <;> omega))) rfl ?_)
        (refine nx (aA (gN rfl) rfl rfl rfl rfl rfl) rfl ?_)
        exact ⟨hml, wk_sub (hno2 hsm _ ⟨rfl, rfl, rfl, rfl, rfl, rfl, rfl, rfl, rfl, rfl, rfl, rfl, rfl, trivial⟩)⟩
      | true =>
      rw [hlkv2] at hlk2
      rw [hlkv2, if_pos rfl] at hsm
      refine aS (aS (aR ?_))
      (refine nx (aM (gN rfl) rfl rfl rfl rfl rfl) rfl ?_)
      (refine nx (aM (gN rfl) rfl rfl rfl rfl rfl) rfl ?_)
      (refine nx (aM (gN rfl) rfl rfl rfl rfl rfl) rfl ?_)
      (refine nx (a_call (gN rfl) rfl rfl rfl rfl rfl (hlk2)) rfl ?_)
      (refine nx (a_not (gN rfl) rfl rfl rfl rfl rfl) rfl ?_)
      show AWp _ _ _ _ _ _ _
      refine aC rfl (fun h => by cases h) (fun _ => aK ?_)
      show AWp _ _ _ _ _ _ _
      have sq := sd_ten hyt q
      have sq1 := sd_ten hyt (1 - q)
      refine aS (aD (by kernel_rfl) (by kernel_rfl) ?_)
      (refine nx (aM (gN rfl) rfl rfl rfl rfl rfl) rfl ?_)
      (refine nx (aM (gN rfl) rfl rfl rfl rfl rfl) rfl ?_)
      (refine nx (a_index (j := j) (gN rfl) rfl rfl rfl rfl rfl rfl rfl rfl rfl (hy') rfl (hsd)) rfl ?_)
      (refine nx (a_load_ad (gN rfl) rfl rfl rfl rfl rfl rfl rfl rfl rfl) rfl ?_)
      (refine nx (aM (gN rfl) rfl rfl rfl rfl rfl) rfl ?_)
      (refine nx (a_call (gN rfl) rfl rfl rfl rfl rfl (rSide_abs w y q)) rfl ?_)
      (refine nx (aM (gN rfl) rfl rfl rfl rfl rfl) rfl ?_)
      (refine nx (aM (gN rfl) rfl rfl rfl rfl rfl) rfl ?_)
      (refine nx (a_index (j := j) (gN rfl) rfl rfl rfl rfl rfl rfl rfl rfl rfl (hy') rfl (hsd)) rfl ?_)
      (refine nx (a_load_ad (gN rfl) rfl rfl rfl rfl rfl rfl rfl rfl rfl) rfl ?_)
      (refine nx (aM (gN rfl) rfl rfl rfl rfl rfl) rfl ?_)
      (refine nx (a_sub (gN rfl) rfl rfl rfl rfl rfl rfl (by first | omega | (simp only [List.length_map, List.length_append, List.length_cons, List.length_nil] <;> omega) | (simp <;> omega))) rfl ?_)
      (refine nx (a_call (gN rfl) rfl rfl rfl rfl rfl (rSideI_abs w y _ (1 - q) (by omega))) rfl ?_)
      (refine nx (a_alloc (gN rfl) rfl rfl rfl rfl rfl rfl rfl rfl rfl rfl) rfl ?_)
      (refine nx (a_alloc (gN rfl) rfl rfl rfl rfl rfl rfl rfl rfl rfl rfl) rfl ?_)
      (refine nx (aSt (gN rfl) rfl rfl rfl rfl rfl rfl rfl rfl rfl rfl) rfl ?_)
      (refine nx (aSt (gN rfl) rfl rfl rfl rfl rfl rfl rfl rfl rfl rfl) rfl ?_)
      refine ⟨by kernel_rfl, ?_⟩
      show AWp _ _ _ _ _ _ _
      obtain ⟨u, hu⟩ : ∃ u, u = sdT y q := ⟨_, rfl⟩
      obtain ⟨v, hv⟩ : ∃ v, v = sdT y (1 - q) := ⟨_, rfl⟩
      rw [← hu] at sq hsm
      rw [← hv] at sq1
      refine AWp.wk (wk_sub (s' := (14, AV.val (.i (j : Int))) :: (15, .val (.i (q : Int))) :: (16, .bp 16 0 []) :: (100016, .bx u.cw) :: (17, .bp 17 0 []) :: (100017, .bx v.cw) :: dB c d free B n i p S T m) ⟨rfl, rfl, rfl, by rw [hu]; rfl, rfl, by rw [hv]; rfl, rfl, rfl, rfl, rfl, rfl, rfl, rfl, rfl, rfl, rfl, rfl, rfl, rfl, trivial⟩) ?_
      refine aS (aR ?_)
      (refine nx (aL (gN rfl) rfl rfl rfl rfl rfl rfl rfl rfl rfl rfl rfl rfl) rfl ?_)
      (refine nx (a_call (gN rfl) rfl rfl rfl rfl rfl (refFlat_abs w u sq.1.2 (by have := sq.2; omega))) rfl ?_)
      (refine nx (aA (gN rfl) rfl rfl rfl rfl rfl) rfl ?_)
      show AWp _ _ _ _ _ _ _
      refine aS (aR ?_)
      (refine nx (aA (gN rfl) rfl rfl rfl rfl rfl) rfl ?_)
      show AWp _ _ _ _ _ _ _
      have hfl : u.flat.length ≤ 10 := sq.2
      have hflm : (u.flat.map Tm.cv).length = u.flat.length := List.length_map ..
      have hfz := Tm.size_all u.flat
      refine aB (awp_count u.flat.length (fun k => dC c d free (B ++ sdK free c d i p j q k) n i p S T m j q u v k) (wk_sub ⟨rfl, rfl, rfl, by rw [show sdK free c d i p j q 0 = [] from rfl, List.append_nil]; rfl, rfl, rfl, rfl, rfl, rfl, rfl, rfl, rfl, rfl, rfl, rfl, rfl, rfl, rfl, rfl, rfl, rfl, trivial⟩) ?_)
      intro k hk
      refine aS (aS (aR ?_))
      (refine nx (aM (gN rfl) rfl rfl rfl rfl rfl) rfl ?_)
      (refine nx (aM (gN rfl) rfl rfl rfl rfl rfl) rfl ?_)
      (refine nx (a_len (gN rfl) rfl rfl rfl rfl rfl rfl rfl) rfl ?_)
      (refine nx (a_lss (gN rfl) rfl rfl rfl rfl rfl rfl) rfl ?_)
      show AWp _ _ _ _ _ _ _
      refine aC rfl (fun hlt => aK ?_) (fun hlt => aE ?_)
      · have hkl : k < u.flat.length := by simpa using hlt
        obtain ⟨e, he⟩ : ∃ e, u.flat[k]? = some e := ⟨u.flat[k], List.getElem?_eq_getElem hkl⟩
        have he' := Tm.map_at he
        have het := flat_ten sq (List.mem_of_getElem? he)
        have hK := sdK_succ free c d i p j q k
        have hKl := sdK_len free c d i p j q k
        obtain ⟨C, hC⟩ : ∃ C, C = B ++ sdK free c d i p j q k := ⟨_, rfl⟩
        have hCl : C.length ≤ 6000 := by rw [hC, List.length_append]; omega
        have hCm : (C.map clC).length ≤ 6000 := by rw [List.length_map]; exact hCl
        have hszC := clC_size C
        have hK2 : B ++ sdK free c d i p j q (k + 1) = C ++ (sdk free c d i p j q k).toList := by rw [hK, hC, List.append_assoc]
        have hno3 : sdk free c d i p j q k = none → ∀ s : AS, SubL s (dC c d free C n i p S T m j q u v (k + 1)) → SubL s (dC c d free (B ++ sdK free c d i p j q (k + 1)) n i p S T m j q u v (k + 1)) := fun h s hs => by
          rw [hK2, h]
          show SubL s (dC c d free (C ++ []) n i p S T m j q u v (k + 1))
          rw [List.append_nil]
          exact hs
        have hdk : sdk free c d i p j q k = if (mgT S e).2 = true ∧ ¬ e.f < 0 ∧ (free = true ∨ (leadB (repT (mgS S e) S) (repT (mgS S e) T) = true ∧ leadB (repT (mgS S e) u) (repT (mgS S e) v) = true)) then some ((offL c i ++ offL d j ++ [(⟨y.neg, (rput T 60 u (k : Int)).1, v⟩ : Lt)]).map (appL (dT S e))) else none := by
          unfold sdk
          rw [hx, hy]
          simp only
          rw [← hu, he, ← hv, ← hSe, ← hTe]
        have hdu := doc_u sp het
        show AWp _ _ _ _ _ _ _
        refine aS (aB (aS (aD (by kernel_rfl) (by kernel_rfl) ?_)))
        (refine nx (aL (gN rfl) rfl rfl rfl rfl rfl rfl rfl rfl rfl rfl rfl rfl) rfl ?_)
        (refine nx (a_bslice (gN rfl) rfl rfl rfl rfl rfl rfl rfl rfl rfl rfl rfl rfl rfl) rfl ?_)
        (refine nx (aM (gN rfl) rfl rfl rfl rfl rfl) rfl ?_)
        (refine nx (aM (gN rfl) rfl rfl rfl rfl rfl) rfl ?_)
        (refine nx (a_index (j := k) (gN rfl) rfl rfl rfl rfl rfl rfl rfl rfl rfl (he') rfl (hfz)) rfl ?_)
        (refine nx (a_load_ad (gN rfl) rfl rfl rfl rfl rfl rfl rfl rfl rfl) rfl ?_)
        (refine nx (a_bslice (gN rfl) rfl rfl rfl rfl rfl rfl rfl rfl rfl rfl rfl rfl rfl) rfl ?_)
        (refine nx (a_call (gN rfl) rfl rfl rfl rfl rfl (hdu.1 w)) rfl ?_)
        (refine nx (aM (gN rfl) rfl rfl rfl rfl rfl) rfl ?_)
        (refine nx (aX (gN rfl) rfl rfl rfl rfl rfl rfl) rfl ?_)
        (refine nx (aX (gN rfl) rfl rfl rfl rfl rfl rfl) rfl ?_)
        (refine nx (aA (gN rfl) rfl rfl rfl rfl rfl) rfl ?_)
        (refine nx (aA (gN rfl) rfl rfl rfl rfl rfl) rfl ?_)
        refine ⟨by kernel_rfl, ?_⟩
        show AWp _ _ _ _ _ _ _
        unfold DocU at hdu
        obtain ⟨_, hd1, hd2, _⟩ := hdu
        have aS := doc_app sp het sp
        have aT := doc_app sp het sp1
        have au := doc_app sp het sq
        have av := doc_app sp het sq1
        have k1 := doc_kb sp het sp sp1
        have k2 := doc_kb sp het sq sq1
        have f1 := fun w => rFalls_abs w (dT S e) S T hd1 sp.1 sp1.1 ⟨aS.1, aS.2.1, by have := aS.2.2.1; omega⟩ ⟨aT.1, aT.2.1, by have := aT.2.2.1; omega⟩
        have f2 := fun w => rFalls_abs w (dT S e) u v hd1 sq.1 sq1.1 ⟨au.1, au.2.1, by have := au.2.2.1; omega⟩ ⟨av.1, av.2.1, by have := av.2.2.1; omega⟩
        have l1 := kb_lead (repT (mgS S e) S) (repT (mgS S e) T)
        have l2 := kb_lead (repT (mgS S e) u) (repT (mgS S e) v)
        rw [← k1] at l1
        rw [← k2] at l2
        obtain ⟨b1, hb1⟩ : ∃ b, b = decide (kb (appR (dT S e) S) (appR (dT S e) T) = 0 ∨ kb (appR (dT S e) S) (appR (dT S e) T) = -1) := ⟨_, rfl⟩
        obtain ⟨b2, hb2⟩ : ∃ b, b = decide (kb (appR (dT S e) u) (appR (dT S e) v) = 0 ∨ kb (appR (dT S e) u) (appR (dT S e) v) = -1) := ⟨_, rfl⟩
        rw [← hb1] at l1 f1
        rw [← hb2] at l2 f2
        rw [l1, l2] at hdk
        obtain ⟨ok, hok⟩ : ∃ ok, ok = (mgT S e).2 := ⟨_, rfl⟩
        obtain ⟨dd, hdd⟩ : ∃ dd, dd = dT S e := ⟨_, rfl⟩
        rw [← hok, ← hdd] at hdk
        rw [← hdd] at hd1 hd2 f1 f2
        refine AWp.wk (wk_sub (s' := (20, AV.val (.lst (dd.map Bd.cv))) :: (21, .val (.b ok)) :: dC c d free C n i p S T m j q u v k) ⟨by rw [hdd]; rfl, by rw [hok]; rfl, rfl, rfl, rfl, by rw [hC]; rfl, rfl, rfl, rfl, rfl, rfl, rfl, rfl, rfl, rfl, rfl, rfl, rfl, rfl, rfl, rfl, rfl, rfl, trivial⟩) ?_
        obtain ⟨bad, hbad⟩ : ∃ bad, bad = !(ok && !(decide (e.f < 0)) && (free || (!b1 && !b2))) := ⟨_, rfl⟩
        have hdk2 : sdk free c d i p j q k = if bad = false then some ((offL c i ++ offL d j ++ [(⟨y.neg, (rput T 60 u (k : Int)).1, v⟩ : Lt)]).map (appL dd)) else none := by
          rw [hdk, hbad]
          have : (ok = true ∧ ¬ e.f < 0 ∧ (free = true ∨ (!b1) = true ∧ (!b2) = true)) ↔ (!(ok && !(decide (e.f < 0)) && (free || (!b1 && !b2)))) = false := by
            simp [and_assoc]
            intro _ _
            rcases Bool.eq_false_or_eq_true free with h | h <;> simp [h]
          by_cases h : (ok = true ∧ ¬ e.f < 0 ∧ (free = true ∨ (!b1) = true ∧ (!b2) = true))
          · rw [if_pos h, if_pos (this.1 h)]
          · rw [if_neg h, if_neg fun h2 => h (this.2 h2)]
        refine aS (awp_mid ((20, AV.val (.lst (dd.map Bd.cv))) :: (139, .val (.b bad)) :: dC c d free C n i p S T m j q u v k) ?_ ?_)
        · cases ok with
          | false =>
            have eb : bad = true := by rw [hbad]; rfl
            subst eb
            refine aR ?_
            (refine nx (aM (gN rfl) rfl rfl rfl rfl rfl) rfl ?_)
            (refine nx (a_not (gN rfl) rfl rfl rfl rfl rfl) rfl ?_)
            (refine nx (aM (gN rfl) rfl rfl rfl rfl rfl) rfl ?_)
            (refine ⟨_, _, _, a_offt (go_off rfl rfl rfl rfl (by first | rfl | assumption | (simp; done) | (simp [*]; done))) rfl rfl rfl, rfl, ?_⟩)
            (refine ⟨_, _, _, a_offt (go_off rfl rfl rfl rfl (by first | rfl | assumption | (simp; done) | (simp [*]; done))) rfl rfl rfl, rfl, ?_⟩)
            (refine ⟨_, _, _, a_offt (go_off rfl rfl rfl rfl (by first | rfl | assumption | (simp; done) | (simp [*]; done))) rfl rfl rfl, rfl, ?_⟩)
            (refine ⟨_, _, _, a_offt (go_off rfl rfl rfl rfl (by first | rfl | assumption | (simp; done) | (simp [*]; done))) rfl rfl rfl, rfl, ?_⟩)
            (refine ⟨_, _, _, a_offt (go_off rfl rfl rfl rfl (by first | rfl | assumption | (simp; done) | (simp [*]; done))) rfl rfl rfl, rfl, ?_⟩)
            (refine ⟨_, _, _, a_offt (go_off rfl rfl rfl rfl (by first | rfl | assumption | (simp; done) | (simp [*]; done))) rfl rfl rfl, rfl, ?_⟩)
            (refine ⟨_, _, _, aPt (gN rfl) rfl rfl rfl rfl rfl ?hb rfl, rfl, ?_⟩; case hb => (first | rfl | assumption | (simp; done)))
            (refine nx (aM (gN rfl) rfl rfl rfl rfl rfl) rfl ?_)
            (refine ⟨_, _, _, a_offt (go_off rfl rfl rfl rfl (by first | rfl | assumption | (simp; done) | (simp [*]; done))) rfl rfl rfl, rfl, ?_⟩)
            (refine ⟨_, _, _, a_offt (go_off rfl rfl rfl rfl (by first | rfl | assumption | (simp; done) | (simp [*]; done))) rfl rfl rfl, rfl, ?_⟩)
            (refine ⟨_, _, _, a_offt (go_off rfl rfl rfl rfl (by first | rfl | assumption | (simp; done) | (simp [*]; done))) rfl rfl rfl, rfl, ?_⟩)
            (refine ⟨_, _, _, a_offt (go_off_t rfl rfl rfl rfl) rfl rfl rfl, rfl, ?_⟩)
            (refine ⟨_, _, _, a_offt (go_off_t rfl rfl rfl rfl) rfl rfl rfl, rfl, ?_⟩)
            (refine ⟨_, _, _, a_offt (go_off_t rfl rfl rfl rfl) rfl rfl rfl, rfl, ?_⟩)
            (refine ⟨_, _, _, a_offt (go_off_t rfl rfl rfl rfl) rfl rfl rfl, rfl, ?_⟩)
            (refine ⟨_, _, _, a_offt (go_off_t rfl rfl rfl rfl) rfl rfl rfl, rfl, ?_⟩)
            (refine ⟨_, _, _, a_offt (go_off_t rfl rfl rfl rfl) rfl rfl rfl, rfl, ?_⟩)
            (refine ⟨_, _, _, a_offt (go_off_t rfl rfl rfl rfl) rfl rfl rfl, rfl, ?_⟩)
            (refine ⟨_, _, _, a_offt (go_off_t rfl rfl rfl rfl) rfl rfl rfl, rfl, ?_⟩)
            (refine ⟨_, _, _, a_offt (go_off_t rfl rfl rfl rfl) rfl rfl rfl, rfl, ?_⟩)
            (refine ⟨_, _, _, a_offt (go_off_t rfl rfl rfl rfl) rfl rfl rfl, rfl, ?_⟩)
            (refine ⟨_, _, _, a_offt (go_off rfl rfl rfl rfl (by first | rfl | assumption | (simp; done) | (simp [*]; done))) rfl rfl rfl, rfl, ?_⟩)
            (refine ⟨_, _, _, aPt (gN rfl) rfl rfl rfl rfl rfl ?hb rfl, rfl, ?_⟩; case hb => (first | rfl | assumption | (simp; done)))
            exact wk_sub ⟨rfl, rfl, rfl, rfl, rfl, rfl, rfl, rfl, rfl, rfl, rfl, rfl, rfl, rfl, rfl, rfl, rfl, rfl, rfl, rfl, rfl, rfl, rfl, trivial⟩
          | true =>
            by_cases hef : e.f < 0
            · have g : decide (e.f < 0) = true := decide_eq_true hef
              have eb : bad = true := by rw [hbad, g]; rfl
              subst eb
              refine aR ?_
              (refine nx (aM (gN rfl) rfl rfl rfl rfl rfl) rfl ?_)
              (refine nx (a_not (gN rfl) rfl rfl rfl rfl rfl) rfl ?_)
              (refine nx (aM (gN rfl) rfl rfl rfl rfl rfl) rfl ?_)
              (refine nx (aM (gd_on rfl rfl rfl rfl (by first | rfl | assumption | (simp; done))) rfl rfl rfl rfl rfl) rfl ?_)
              (refine nx (aM (gd_on rfl rfl rfl rfl (by first | rfl | assumption | (simp; done))) rfl rfl rfl rfl rfl) rfl ?_)
              (refine nx (a_index (j := k) (gd_on rfl rfl rfl rfl (by first | rfl | assumption | (simp; done))) rfl rfl rfl rfl rfl rfl rfl rfl rfl (he') rfl (hfz)) rfl ?_)
              (refine nx (a_field_ad (gd_on rfl rfl rfl rfl (by first | rfl | assumption | (simp; done))) rfl rfl rfl rfl rfl rfl rfl rfl rfl rfl rfl) rfl ?_)
              (refine nx (a_load_ad (gd_on rfl rfl rfl rfl (by first | rfl | assumption | (simp; done))) rfl rfl rfl rfl rfl rfl rfl rfl rfl) rfl ?_)
              (refine nx (a_lss (gd_on rfl rfl rfl rfl (by first | rfl | assumption | (simp; done))) rfl rfl rfl rfl rfl rfl) rfl ?_)
              (refine ⟨_, _, _, aPf (gN rfl) rfl rfl rfl rfl rfl ?hb rfl, rfl, ?_⟩; case hb => (first | rfl | assumption | (simp; done)))
              (refine nx (aM (gN rfl) rfl rfl rfl rfl rfl) rfl ?_)
              (refine ⟨_, _, _, a_offt (go_off rfl rfl rfl rfl (by first | rfl | assumption | (simp; done) | (simp [*]; done))) rfl rfl rfl, rfl, ?_⟩)
              (refine ⟨_, _, _, a_offt (go_off rfl rfl rfl rfl (by first | rfl | assumption | (simp; done) | (simp [*]; done))) rfl rfl rfl, rfl, ?_⟩)
              (refine ⟨_, _, _, a_offt (go_off rfl rfl rfl rfl (by first | rfl | assumption | (simp; done) | (simp [*]; done))) rfl rfl rfl, rfl, ?_⟩)
              (refine ⟨_, _, _, a_offt (go_off_t rfl rfl rfl rfl) rfl rfl rfl, rfl, ?_⟩)
              (refine ⟨_, _, _, a_offt (go_off_t rfl rfl rfl rfl) rfl rfl rfl, rfl, ?_⟩)
              (refine ⟨_, _, _, a_offt (go_off_t rfl rfl rfl rfl) rfl rfl rfl, rfl, ?_⟩)
              (refine ⟨_, _, _, a_offt (go_off_t rfl rfl rfl rfl) rfl rfl rfl, rfl, ?_⟩)
              (refine ⟨_, _, _, a_offt (go_off_t rfl rfl rfl rfl) rfl rfl rfl, rfl, ?_⟩)
              (refine ⟨_, _, _, a_offt (go_off_t rfl rfl rfl rfl) rfl rfl rfl, rfl, ?_⟩)
              (refine ⟨_, _, _, a_offt (go_off_t rfl rfl rfl rfl) rfl rfl rfl, rfl, ?_⟩)
              (refine ⟨_, _, _, a_offt (go_off_t rfl rfl rfl rfl) rfl rfl rfl, rfl, ?_⟩)
              (refine ⟨_, _, _, a_offt (go_off_t rfl rfl rfl rfl) rfl rfl rfl, rfl, ?_⟩)
              (refine ⟨_, _, _, a_offt (go_off_t rfl rfl rfl rfl) rfl rfl rfl, rfl, ?_⟩)
              (refine ⟨_, _, _, a_offt (go_off rfl rfl rfl rfl (by first | rfl | assumption | (simp; done) | (simp [*]; done))) rfl rfl rfl, rfl, ?_⟩)
              (refine ⟨_, _, _, aPt (gN rfl) rfl rfl rfl rfl rfl ?hb rfl, rfl, ?_⟩; case hb => (first | rfl | assumption | (simp; done)))
              exact wk_sub ⟨rfl, rfl, rfl, rfl, rfl, rfl, rfl, rfl, rfl, rfl, rfl, rfl, rfl, rfl, rfl, rfl, rfl, rfl, rfl, rfl, rfl, rfl, rfl, trivial⟩
            · have g : decide (e.f < 0) = false := decide_eq_false hef
              cases free with
              | true =>
                have eb : bad = false := by rw [hbad, g]; rfl
                subst eb
                refine aR ?_
                (refine nx (aM (gN rfl) rfl rfl rfl rfl rfl) rfl ?_)
                (refine nx (a_not (gN rfl) rfl rfl rfl rfl rfl) rfl ?_)
                (refine nx (aM (gN rfl) rfl rfl rfl rfl rfl) rfl ?_)
                (refine nx (aM (gd_on rfl rfl rfl rfl (by first | rfl | assumption | (simp; done))) rfl rfl rfl rfl rfl) rfl ?_)
                (refine nx (aM (gd_on rfl rfl rfl rfl (by first | rfl | assumption | (simp; done))) rfl rfl rfl rfl rfl) rfl ?_)
                (refine nx (a_index (j := k) (gd_on rfl rfl rfl rfl (by first | rfl | assumption | (simp; done))) rfl rfl rfl rfl rfl rfl rfl rfl rfl (he') rfl (hfz)) rfl ?_)
                (refine nx (a_field_ad (gd_on rfl rfl rfl rfl (by first | rfl | assumption | (simp; done))) rfl rfl rfl rfl rfl rfl rfl rfl rfl rfl rfl) rfl ?_)
                (refine nx (a_load_ad (gd_on rfl rfl rfl rfl (by first | rfl | assumption | (simp; done))) rfl rfl rfl rfl rfl rfl rfl rfl rfl) rfl ?_)
                (refine nx (a_lss (gd_on rfl rfl rfl rfl (by first | rfl | assumption | (simp; done))) rfl rfl rfl rfl rfl rfl) rfl ?_)
                (refine ⟨_, _, _, aPf (gN rfl) rfl rfl rfl rfl rfl ?hb rfl, rfl, ?_⟩; case hb => (first | rfl | assumption | (simp; done)))
                (refine nx (aM (gN rfl) rfl rfl rfl rfl rfl) rfl ?_)
                (refine nx (aM (gd_on rfl rfl rfl rfl (by first | rfl | assumption | (simp; done))) rfl rfl rfl rfl rfl) rfl ?_)
                (refine nx (a_not (gd_on rfl rfl rfl rfl (by first | rfl | assumption | (simp; done))) rfl rfl rfl rfl rfl) rfl ?_)
                (refine nx (aM (gd_on rfl rfl rfl rfl (by first | rfl | assumption | (simp; done))) rfl rfl rfl rfl rfl) rfl ?_)
                (refine ⟨_, _, _, a_offt (go_off rfl rfl rfl rfl (by first | rfl | assumption | (simp; done) | (simp [*]; done))) rfl rfl rfl, rfl, ?_⟩)
                (refine ⟨_, _, _, a_offt (go_off rfl rfl rfl rfl (by first | rfl | assumption | (simp; done) | (simp [*]; done))) rfl rfl rfl, rfl, ?_⟩)
                (refine ⟨_, _, _, a_offt (go_off rfl rfl rfl rfl (by first | rfl | assumption | (simp; done) | (simp [*]; done))) rfl rfl rfl, rfl, ?_⟩)
                (refine ⟨_, _, _, a_offt (go_off rfl rfl rfl rfl (by first | rfl | assumption | (simp; done) | (simp [*]; done))) rfl rfl rfl, rfl, ?_⟩)
                (refine ⟨_, _, _, a_offt (go_off rfl rfl rfl rfl (by first | rfl | assumption | (simp; done) | (simp [*]; done))) rfl rfl rfl, rfl, ?_⟩)
                (refine ⟨_, _, _, a_offt (go_off_t rfl rfl rfl rfl) rfl rfl rfl, rfl, ?_⟩)
                (refine ⟨_, _, _, a_offt (go_off_t rfl rfl rfl rfl) rfl rfl rfl, rfl, ?_⟩)
                (refine ⟨_, _, _, a_offt (go_off_t rfl rfl rfl rfl) rfl rfl rfl, rfl, ?_⟩)
                (refine ⟨_, _, _, a_offt (go_off_t rfl rfl rfl rfl) rfl rfl rfl, rfl, ?_⟩)
                (refine ⟨_, _, _, a_offt (go_off rfl rfl rfl rfl (by first | rfl | assumption | (simp; done) | (simp [*]; done))) rfl rfl rfl, rfl, ?_⟩)
                (refine ⟨_, _, _, aPf (gd_on rfl rfl rfl rfl (by first | rfl | assumption | (simp; done))) rfl rfl rfl rfl rfl ?hb rfl, rfl, ?_⟩; case hb => (first | rfl | assumption | (simp; done)))
                (refine ⟨_, _, _, aPf (gN rfl) rfl rfl rfl rfl rfl ?hb rfl, rfl, ?_⟩; case hb => (first | rfl | assumption | (simp; done)))
                exact wk_sub ⟨rfl, rfl, rfl, rfl, rfl, rfl, rfl, rfl, rfl, rfl, rfl, rfl, rfl, rfl, rfl, rfl, rfl, rfl, rfl, rfl, rfl, rfl, rfl, trivial⟩
              | false =>
                cases b1 with
                | true =>
                  have eb : bad = true := by rw [hbad, g]; rfl
                  subst eb
                  refine aR ?_
                  (refine nx (aM (gN rfl) rfl rfl rfl rfl rfl) rfl ?_)
                  (refine nx (a_not (gN rfl) rfl rfl rfl rfl rfl) rfl ?_)
                  (refine nx (aM (gN rfl) rfl rfl rfl rfl rfl) rfl ?_)
                  (refine nx (aM (gd_on rfl rfl rfl rfl (by first | rfl | assumption | (simp; done))) rfl rfl rfl rfl rfl) rfl ?_)
                  (refine nx (aM (gd_on rfl rfl rfl rfl (by first | rfl | assumption | (simp; done))) rfl rfl rfl rfl rfl) rfl ?_)
                  (refine nx (a_index (j := k) (gd_on rfl rfl rfl rfl (by first | rfl | assumption | (simp; done))) rfl rfl rfl rfl rfl rfl rfl rfl rfl (he') rfl (hfz)) rfl ?_)
                  (refine nx (a_field_ad (gd_on rfl rfl rfl rfl (by first | rfl | assumption | (simp; done))) rfl rfl rfl rfl rfl rfl rfl rfl rfl rfl rfl) rfl ?_)
                  (refine nx (a_load_ad (gd_on rfl rfl rfl rfl (by first | rfl | assumption | (simp; done))) rfl rfl rfl rfl rfl rfl rfl rfl rfl) rfl ?_)
                  (refine nx (a_lss (gd_on rfl rfl rfl rfl (by first | rfl | assumption | (simp; done))) rfl rfl rfl rfl rfl rfl) rfl ?_)
                  (refine ⟨_, _, _, aPf (gN rfl) rfl rfl rfl rfl rfl ?hb rfl, rfl, ?_⟩; case hb => (first | rfl | assumption | (simp; done)))
                  (refine nx (aM (gN rfl) rfl rfl rfl rfl rfl) rfl ?_)
                  (refine nx (aM (gd_on rfl rfl rfl rfl (by first | rfl | assumption | (simp; done))) rfl rfl rfl rfl rfl) rfl ?_)
                  (refine nx (a_not (gd_on rfl rfl rfl rfl (by first | rfl | assumption | (simp; done))) rfl rfl rfl rfl rfl) rfl ?_)
                  (refine nx (aM (gd_on rfl rfl rfl rfl (by first | rfl | assumption | (simp; done))) rfl rfl rfl rfl rfl) rfl ?_)
                  (refine nx (aM (gd_on rfl rfl rfl rfl (by first | rfl | assumption | (simp; done))) rfl rfl rfl rfl rfl) rfl ?_)
                  (refine nx (aL (gd_on rfl rfl rfl rfl (by first | rfl | assumption | (simp; done))) rfl rfl rfl rfl rfl rfl rfl rfl rfl rfl rfl rfl) rfl ?_)
                  (refine nx (aL (gd_on rfl rfl rfl rfl (by first | rfl | assumption | (simp; done))) rfl rfl rfl rfl rfl rfl rfl rfl rfl rfl rfl rfl) rfl ?_)
                  (refine nx (a_call (gd_on rfl rfl rfl rfl (by first | rfl | assumption | (simp; done))) rfl rfl rfl rfl rfl (f1 w)) rfl ?_)
                  (refine nx (aM (gd_on rfl rfl rfl rfl (by first | rfl | assumption | (simp; done))) rfl rfl rfl rfl rfl) rfl ?_)
                  (refine ⟨_, _, _, a_offt (go_off rfl rfl rfl rfl (by first | rfl | assumption | (simp; done) | (simp [*]; done))) rfl rfl rfl, rfl, ?_⟩)
                  (refine ⟨_, _, _, a_offt (go_off rfl rfl rfl rfl (by first | rfl | assumption | (simp; done) | (simp [*]; done))) rfl rfl rfl, rfl, ?_⟩)
                  (refine ⟨_, _, _, a_offt (go_off rfl rfl rfl rfl (by first | rfl | assumption | (simp; done) | (simp [*]; done))) rfl rfl rfl, rfl, ?_⟩)
                  (refine ⟨_, _, _, a_offt (go_off rfl rfl rfl rfl (by first | rfl | assumption | (simp; done) | (simp [*]; done))) rfl rfl rfl, rfl, ?_⟩)
                  (refine ⟨_, _, _, aPt (gd_on rfl rfl rfl rfl (by first | rfl | assumption | (simp; done))) rfl rfl rfl rfl rfl ?hb rfl, rfl, ?_⟩; case hb => (first | rfl | assumption | (simp; done)))
                  (refine ⟨_, _, _, aPt (gd_on rfl rfl rfl rfl (by first | rfl | assumption | (simp; done))) rfl rfl rfl rfl rfl ?hb rfl, rfl, ?_⟩; case hb => (first | rfl | assumption | (simp; done)))
                  (refine ⟨_, _, _, aPf (gN rfl) rfl rfl rfl rfl rfl ?hb rfl, rfl, ?_⟩; case hb => (first | rfl | assumption | (simp; done)))
                  exact wk_sub ⟨rfl, rfl, rfl, rfl, rfl, rfl, rfl, rfl, rfl, rfl, rfl, rfl, rfl, rfl, rfl, rfl, rfl, rfl, rfl, rfl, rfl, rfl, rfl, trivial⟩
                | false =>
                  have eb : bad = b2 := by rw [hbad, g]; cases b2 <;> rfl
                  subst eb
                  refine aR ?_
                  (refine nx (aM (gN rfl) rfl rfl rfl rfl rfl) rfl ?_)
                  (refine nx (a_not (gN rfl) rfl rfl rfl rfl rfl) rfl ?_)
                  (refine nx (aM (gN rfl) rfl rfl rfl rfl rfl) rfl ?_)
                  (refine nx (aM (gd_on rfl rfl rfl rfl (by first | rfl | assumption | (simp; done))) rfl rfl rfl rfl rfl) rfl ?_)
                  (refine nx (aM (gd_on rfl rfl rfl rfl (by first | rfl | assumption | (simp; done))) rfl rfl rfl rfl rfl) rfl ?_)
                  (refine nx (a_index (j := k) (gd_on rfl rfl rfl rfl (by first | rfl | assumption | (simp; done))) rfl rfl rfl rfl rfl rfl rfl rfl rfl (he') rfl (hfz)) rfl ?_)
                  (refine nx (a_field_ad (gd_on rfl rfl rfl rfl (by first | rfl | assumption | (simp; done))) rfl rfl rfl rfl rfl rfl rfl rfl rfl rfl rfl) rfl ?_)
                  (refine nx (a_load_ad (gd_on rfl rfl rfl rfl (by first | rfl | assumption | (simp; done))) rfl rfl rfl rfl rfl rfl rfl rfl rfl) rfl ?_)
                  (refine nx (a_lss (gd_on rfl rfl rfl rfl (by first | rfl | assumption | (simp; done))) rfl rfl rfl rfl rfl rfl) rfl ?_)
                  (refine ⟨_, _, _, aPf (gN rfl) rfl rfl rfl rfl rfl ?hb rfl, rfl, ?_⟩; case hb => (first | rfl | assumption | (simp; done)))
                  (refine nx (aM (gN rfl) rfl rfl rfl rfl rfl) rfl ?_)
                  (refine nx (aM (gd_on rfl rfl rfl rfl (by first | rfl | assumption | (simp; done))) rfl rfl rfl rfl rfl) rfl ?_)
                  (refine nx (a_not (gd_on rfl rfl rfl rfl (by first | rfl | assumption | (simp; done))) rfl rfl rfl rfl rfl) rfl ?_)
                  (refine nx (aM (gd_on rfl rfl rfl rfl (by first | rfl | assumption | (simp; done))) rfl rfl rfl rfl rfl) rfl ?_)
                  (refine nx (aM (gd_on rfl rfl rfl rfl (by first | rfl | assumption | (simp; done))) rfl rfl rfl rfl rfl) rfl ?_)
                  (refine nx (aL (gd_on rfl rfl rfl rfl (by first | rfl | assumption | (simp; done))) rfl rfl rfl rfl rfl rfl rfl rfl rfl rfl rfl rfl) rfl ?_)
                  (refine nx (aL (gd_on rfl rfl rfl rfl (by first | rfl | assumption | (simp; done))) rfl rfl rfl rfl rfl rfl rfl rfl rfl rfl rfl rfl) rfl ?_)
                  (refine nx (a_call (gd_on rfl rfl rfl rfl (by first | rfl | assumption | (simp; done))) rfl rfl rfl rfl rfl (f1 w)) rfl ?_)
                  (refine nx (aM (gd_on rfl rfl rfl rfl (by first | rfl | assumption | (simp; done))) rfl rfl rfl rfl rfl) rfl ?_)
                  (refine nx (aM (gd_on rfl rfl rfl rfl (by first | rfl | assumption | (simp; done))) rfl rfl rfl rfl rfl) rfl ?_)
                  (refine nx (aL (gd_on rfl rfl rfl rfl (by first | rfl | assumption | (simp; done))) rfl rfl rfl rfl rfl rfl rfl rfl rfl rfl rfl rfl) rfl ?_)
                  (refine nx (aL (gd_on rfl rfl rfl rfl (by first | rfl | assumption | (simp; done))) rfl rfl rfl rfl rfl rfl rfl rfl rfl rfl rfl rfl) rfl ?_)
                  (refine nx (a_call (gd_on rfl rfl rfl rfl (by first | rfl | assumption | (simp; done))) rfl rfl rfl rfl rfl (f2 w)) rfl ?_)
                  (refine ⟨_, _, _, aPf (gd_on rfl rfl rfl rfl (by first | rfl | assumption | (simp; done))) rfl rfl rfl rfl rfl ?hb rfl, rfl, ?_⟩; case hb => (first | rfl | assumption | (simp; done)))
                  (refine ⟨_, _, _, aPt (gd_on rfl rfl rfl rfl (by first | rfl | assumption | (simp; done))) rfl rfl rfl rfl rfl ?hb rfl, rfl, ?_⟩; case hb => (first | rfl | assumption | (simp; done)))
                  (refine ⟨_, _, _, aPf (gN rfl) rfl rfl rfl rfl rfl ?hb rfl, rfl, ?_⟩; case hb => (first | rfl | assumption | (simp; done)))
                  exact wk_sub ⟨rfl, rfl, rfl, rfl, rfl, rfl, rfl, rfl, rfl, rfl, rfl, rfl, rfl, rfl, rfl, rfl, rfl, rfl, rfl, rfl, rfl, rfl, rfl, trivial⟩
        show AWp _ _ _ _ _ _ _
        cases bad with
        | true =>
          rw [if_neg (by simp)] at hdk2
          refine aC rfl (fun _ => aE ?_) (fun h => by cases h)
          show AWp _ _ _ _ _ _ _
          refine aR ?_
          (refine nx (aM (gN rfl) rfl rfl rfl rfl rfl) rfl ?_)
          (refine nx (a_add (gN rfl) rfl rfl rfl rfl rfl rfl (by first | omega | (simp only [List.length_map, List.length_append, List.length_cons, List.length_nil] <;> omega) | (simp <;> omega))) rfl ?_)
          (refine nx (aA (gN rfl) rfl rfl rfl rfl rfl) rfl ?_)
          exact ⟨hkl, wk_sub (hno3 hdk2 _ ⟨rfl, rfl, rfl, rfl, rfl, rfl, rfl, rfl, rfl, rfl, rfl, rfl, rfl, rfl, rfl, rfl, rfl, rfl, rfl, rfl, rfl, trivial⟩)⟩
        | false =>
        rw [if_pos rfl] at hdk2
        refine aC rfl (fun h => by cases h) (fun _ => aK ?_)
        show AWp _ _ _ _ _ _ _
        have hput := fun w => refPut_abs w T 60 u (k : Int) (by have := sq.2; omega) sq.1.2 (by omega) (by omega)
        have hpo := rput_ok T sp1.1.2 60 u (k : Int) sq.1.2
        have hpr := rput_rng T sp1.1.1 60 u (k : Int) sq.1.1
        obtain ⟨P, hP⟩ : ∃ P, P = (rput T 60 u (k : Int)).1 := ⟨_, rfl⟩
        obtain ⟨P2, hP2⟩ : ∃ P, P = (rput T 60 u (k : Int)).2 := ⟨_, rfl⟩
        rw [← hP, ← hP2] at hput
        rw [← hP] at hdk2 hpo hpr
        refine aS (aR ?_)
        (refine nx (aL (gN rfl) rfl rfl rfl rfl rfl rfl rfl rfl rfl rfl rfl rfl) rfl ?_)
        (refine nx (aM (gN rfl) rfl rfl rfl rfl rfl) rfl ?_)
        (refine nx (aL (gN rfl) rfl rfl rfl rfl rfl rfl rfl rfl rfl rfl rfl rfl) rfl ?_)
        (refine nx (a_call (gN rfl) rfl rfl rfl rfl rfl (hput w)) rfl ?_)
        (refine nx (aM (gN rfl) rfl rfl rfl rfl rfl) rfl ?_)
        (refine nx (aX (gN rfl) rfl rfl rfl rfl rfl rfl) rfl ?_)
        (refine nx (aX (gN rfl) rfl rfl rfl rfl rfl rfl) rfl ?_)
        (refine nx (a_alloc (gN rfl) rfl rfl rfl rfl rfl rfl rfl rfl rfl rfl) rfl ?_)
        (refine nx (aSt (gN rfl) rfl rfl rfl rfl rfl rfl rfl rfl rfl rfl) rfl ?_)
        (refine nx (aA (gN rfl) rfl rfl rfl rfl rfl) rfl ?_)
        show AWp _ _ _ _ _ _ _
        have hwo := rWithoutO_abs c (i : Int) (by omega)
        rw [offD_in hil] at hwo
        have hwd := fun w => rWithout_abs w d (j : Int) (by omega)
        rw [offD_in hjl] at hwd
        have hol := offL_len hil
        have hod := offL_len hjl
        have hom : ((offL c i).map Lt.cv).length = (offL c i).length := List.length_map ..
        have hodm : ((offL d j).map Lt.cv).length = (offL d j).length := List.length_map ..
        have hosz := Lt.size_all (offL c i)
        have hodz := Lt.size_all (offL d j)
        refine aS (aR ?_)
        (refine nx (aM (gN rfl) rfl rfl rfl rfl rfl) rfl ?_)
        (refine nx (aM (gN rfl) rfl rfl rfl rfl rfl) rfl ?_)
        (refine nx (a_callO (gN rfl) rfl rfl rfl rfl rfl (hwo) (by repeat (first | exact trivial | refine ⟨rfl, ?_⟩)) (by first | rfl | kernel_rfl) (by first | rfl | kernel_rfl) (by first | rfl | kernel_rfl) (by first | rfl | kernel_rfl) (fun k v h => by first | (rw [hW.1] at h; cases h) | (have h2 := hU k v h; cases h2))) rfl ?_)
        (refine nx (aM (gN rfl) rfl rfl rfl rfl rfl) rfl ?_)
        (refine nx (aM (gN rfl) rfl rfl rfl rfl rfl) rfl ?_)
        (refine nx (a_call (gN rfl) rfl rfl rfl rfl rfl (hwd w)) rfl ?_)
        (refine nx (a_appM 300153 (gN rfl) rfl rfl rfl rfl rfl rfl rfl rfl rfl rfl rfl rfl rfl (by first | rfl | omega | (simp only [List.length_set, List.length_map, List.length_append, List.length_cons, List.length_nil] <;> omega) | (simp <;> omega)) (by first | assumption | exact sZ rfl | exact Tm.size_all _ | exact Bd.size_all _ | exact ints_size _ | exact bys_size _ | exact Lt.size_all _) (by first | omega | (simp only [List.length_map, List.length_append, List.length_cons, List.length_nil] <;> omega) | (simp <;> omega))) rfl ?_)
        (refine nx (aA (gN rfl) rfl rfl rfl rfl rfl) rfl ?_)
        show AWp _ _ _ _ _ _ _
        obtain ⟨lt, hlt2⟩ : ∃ lt : Lt, lt = ⟨y.neg, P, v⟩ := ⟨_, rfl⟩
        have hltc : lt.cw = .row [.b y.neg, P.cw, v.cw] := by rw [hlt2]
        rw [← hlt2] at hdk2
        have hyc : (d.map Lt.cv)[j]? = some (.row [.b y.neg, y.a.cw, y.b.cw]) := hy'
        refine aS (aD (by kernel_rfl) (by kernel_rfl) ?_)
        (refine nx (aM (gN rfl) rfl rfl rfl rfl rfl) rfl ?_)
        (refine nx (aM (gN rfl) rfl rfl rfl rfl rfl) rfl ?_)
        (refine nx (aM (gN rfl) rfl rfl rfl rfl rfl) rfl ?_)
        (refine nx (a_index (j := j) (gN rfl) rfl rfl rfl rfl rfl rfl rfl rfl rfl (hyc) rfl (hsd)) rfl ?_)
        (refine nx (a_field_ad (gN rfl) rfl rfl rfl rfl rfl rfl rfl rfl rfl rfl rfl) rfl ?_)
        (refine nx (a_load_ad (gN rfl) rfl rfl rfl rfl rfl rfl rfl rfl rfl) rfl ?_)
        (refine nx (aL (gN rfl) rfl rfl rfl rfl rfl rfl rfl rfl rfl rfl rfl rfl) rfl ?_)
        (refine nx (aL (gN rfl) rfl rfl rfl rfl rfl rfl rfl rfl rfl rfl rfl rfl) rfl ?_)
        (refine nx (a_buildT ltZ3 (gN rfl) rfl rfl rfl rfl rfl rfl rfl rfl rfl rfl rfl) rfl ?_)
        (refine nx (a_bslice (gN rfl) rfl rfl rfl rfl rfl rfl rfl rfl rfl rfl rfl rfl rfl) rfl ?_)
        (refine nx (a_appM 300164 (gN rfl) rfl rfl rfl rfl rfl rfl rfl rfl rfl rfl rfl rfl rfl (by first | rfl | omega | (simp only [List.length_set, List.length_map, List.length_append, List.length_cons, List.length_nil] <;> omega) | (simp <;> omega)) (by first | assumption | exact sZ rfl | exact Tm.size_all _ | exact Bd.size_all _ | exact ints_size _ | exact bys_size _ | exact Lt.size_all _) (by first | omega | (simp only [List.length_map, List.length_append, List.length_cons, List.length_nil] <;> omega) | (simp <;> omega))) rfl ?_)
        (refine nx (aA (gN rfl) rfl rfl rfl rfl rfl) rfl ?_)
        refine ⟨by kernel_rfl, ?_⟩
        show AWp _ _ _ _ _ _ _
        obtain ⟨Z, hZ⟩ : ∃ Z, Z = offL c i ++ offL d j ++ [lt] := ⟨_, rfl⟩
        have hZc : Z.map Lt.cv = (offL c i).map Lt.cv ++ (offL d j).map Lt.cv ++ [.row [.b y.neg, P.cw, v.cw]] := by
          rw [hZ, List.map_append, List.map_append, List.map_singleton]
          show _ ++ [lt.cw] = _
          rw [hltc]
        have hZl : Z.length = (offL c i).length + (offL d j).length + 1 := by rw [hZ, List.length_append, List.length_append]; rfl
        have hZm : (Z.map Lt.cv).length = Z.length := List.length_map ..
        rw [← hZ] at hdk2
        refine AWp.wk ((wk_sub (s' := (20, AV.val (.lst (dd.map Bd.cv))) :: (24, .sl 300164 0 Z.length 5) :: (300164, .mrow 52 5 (Z.map Lt.cv)) :: dC c d free C n i p S T m j q u v k) ⟨rfl, ?_, ?_, rfl, rfl, rfl, rfl, rfl, rfl, rfl, rfl, rfl, rfl, rfl, rfl, rfl, rfl, rfl, rfl, rfl, rfl, rfl, rfl, rfl, trivial⟩).trans (wk_frz 24 300164 (e := 52) (z := 5) (lo := 0) (len := Z.length) (l := Z.map Lt.cv) rfl rfl rfl (.inl hW.2) (by simp) (s' := (20, AV.val (.lst (dd.map Bd.cv))) :: dC c d free C n i p S T m j q u v k) ⟨rfl, rfl, rfl, rfl, rfl, rfl, rfl, rfl, rfl, rfl, rfl, rfl, rfl, rfl, rfl, rfl, rfl, rfl, rfl, rfl, rfl, rfl, trivial⟩ rfl)) ?_
        · show some (AV.sl _ _ _ _) = some (AV.sl _ _ _ _)
          rw [show Z.length = ((offL c i).map Lt.cv ++ (offL d j).map Lt.cv).length + 1 by rw [List.length_append, hom, hodm]; exact hZl, List.length_append]
          rfl
        · show some (AV.mrow _ _ _) = some (AV.mrow _ _ _)
          rw [hZc]
          rfl
        have hdr : ((Z.map Lt.cv).drop 0).take Z.length = Z.map Lt.cv := by rw [List.drop_zero, List.take_of_length_le (by simp)]
        rw [hdr]
        have hfin : ∀ l ∈ Z, (l.a.rng ∧ l.a.ok) ∧ l.b.rng ∧ l.b.ok := fun l hl => by
          rw [hZ] at hl
          rcases List.mem_append.1 hl with h | h
          · rcases List.mem_append.1 h with h | h
            · exact ten_fit hc l (offL_mem h)
            · exact ten_fit hd l (offL_mem h)
          · rw [List.mem_singleton] at h; rw [h, hlt2]; exact ⟨⟨hpr, hpo⟩, sq1.1⟩
        refine aR ?_
        (refine nx (aM (gN rfl) rfl rfl rfl rfl rfl) rfl ?_)
        (refine nx (aM (gN rfl) rfl rfl rfl rfl rfl) rfl ?_)
        (refine nx (aM (gN rfl) rfl rfl rfl rfl rfl) rfl ?_)
        (refine nx (a_call (gN rfl) rfl rfl rfl rfl rfl (refAppC_abs w dd Z hd1 (by omega) hfin)) rfl ?_)
        (refine nx (a_bslice (gN rfl) rfl rfl rfl rfl rfl rfl rfl rfl rfl rfl rfl rfl rfl) rfl ?_)
        (refine nx (a_app (gN rfl) rfl rfl rfl rfl rfl rfl rfl rfl rfl rfl rfl rfl rfl rfl rfl (by first | assumption | exact sZ rfl | exact Tm.size_all _ | exact Bd.size_all _ | exact ints_size _ | exact bys_size _ | exact Lt.size_all _) (by first | assumption | exact sZ rfl | exact Tm.size_all _ | exact Bd.size_all _ | exact ints_size _ | exact bys_size _ | exact Lt.size_all _) (by first | omega | (simp only [List.length_map, List.length_append, List.length_cons, List.length_nil] <;> omega) | (simp <;> omega))) rfl ?_)
        (refine nx (aA (gN rfl) rfl rfl rfl rfl rfl) rfl ?_)
        show AWp _ _ _ _ _ _ _
        refine aR ?_
        (refine nx (aM (gN rfl) rfl rfl rfl rfl rfl) rfl ?_)
        (refine nx (a_add (gN rfl) rfl rfl rfl rfl rfl rfl (by first | omega | (simp only [List.length_map, List.length_append, List.length_cons, List.length_nil] <;> omega) | (simp <;> omega))) rfl ?_)
        (refine nx (aA (gN rfl) rfl rfl rfl rfl rfl) rfl ?_)
        refine ⟨hkl, (wk_sub (s' := [(0, .val (.lst (c.map Lt.cv))), (1, .val (.lst (d.map Lt.cv))), (2, .val (.b free)), (7, .own (.lst ((B ++ sdK free c d i p j q (k + 1)).map clC)) 300170), (300170, .tok 22 1), (8, .val (.i (n : Int))), (9, .val (.i (i : Int))), (10, .val (.i (p : Int))), (11, .bp 11 0 []), (100011, .bx S.cw), (12, .bp 12 0 []), (100012, .bx T.cw), (13, .val (.i (m : Int))), (14, .val (.i (j : Int))), (15, .val (.i (q : Int))), (16, .bp 16 0 []), (100016, .bx u.cw), (17, .bp 17 0 []), (100017, .bx v.cw), (18, .val (.lst (u.flat.map Tm.cv))), (19, .val (.i ((k + 1 : Nat) : Int)))]) ⟨rfl, rfl, rfl, ?_, rfl, rfl, rfl, rfl, rfl, rfl, rfl, rfl, rfl, rfl, rfl, rfl, rfl, rfl, rfl, rfl, rfl, trivial⟩).trans (wk_ren 300170 200170 rfl rfl rfl rfl)⟩
        show some (AV.own (.lst _) _) = some (AV.own (.lst _) _)
        rw [hK2, hdk2, List.map_append (f := clC)]
        rfl
      · have hkl : k = u.flat.length := by
          have : ¬ k < u.flat.length := by simpa using hlt
          omega
        subst hkl
        show AWp _ _ _ _ _ _ _
        refine aR ?_
        (refine nx (aM (gN rfl) rfl rfl rfl rfl rfl) rfl ?_)
        (refine nx (a_add (gN rfl) rfl rfl rfl rfl rfl rfl (by first | omega | (simp only [List.length_map, List.length_append, List.length_cons, List.length_nil] <;> omega) | (simp <;> omega))) rfl ?_)
        (refine nx (aA (gN rfl) rfl rfl rfl rfl rfl) rfl ?_)
        refine ⟨hml, wk_sub (s' := dB c d free (A ++ sdM free c d i p (m + 1)) n i p S T (m + 1)) ?_⟩
        rw [hM2, hsm]
        exact ⟨rfl, rfl, rfl, rfl, rfl, rfl, rfl, rfl, rfl, rfl, rfl, rfl, rfl, trivial⟩
    · have hml : m = 2 * d.length := by
        have h : ¬ (m : Int) < 2 * (d.length : Int) := by simpa using hlt
        omega
      subst hml
      show AWp _ _ _ _ _ _ _
      refine aR ?_
      (refine nx (aM (gN rfl) rfl rfl rfl rfl rfl) rfl ?_)
      (refine nx (a_add (gN rfl) rfl rfl rfl rfl rfl rfl (by first | omega | (simp only [List.length_map, List.length_append, List.length_cons, List.length_nil] <;> omega) | (simp <;> omega))) rfl ?_)
      (refine nx (aA (gN rfl) rfl rfl rfl rfl rfl) rfl ?_)
      refine ⟨hnl, wk_sub (s' := dA c d free (sdN free c d (n + 1)) (n + 1)) ?_⟩
      rw [hS, hsn]
      exact ⟨rfl, rfl, rfl, rfl, rfl, rfl, trivial⟩
  · have hnl : n = 2 * c.length := by
      have h : ¬ (n : Int) < 2 * (c.length : Int) := by simpa using hlt
      omega
    subst hnl
    show AWp _ _ _ _ _ _ _
    refine aS (aR ?_)
    (refine nx (aM (gN rfl) rfl rfl rfl rfl rfl) rfl ?_)
    (refine nx (aA (gN rfl) rfl rfl rfl rfl rfl) rfl ?_)
    show AWp _ _ _ _ _ _ _
    exact aT (And.intro (.inr rfl) rfl)
theorem atP_ok6 : ∀ {p : List Int} {t s : Tm}, atP p t = some s → t.ok → s.ok
  | [], t, s, h, hr => by cases h; exact hr
  | k :: ks, t, s, h, hr => by
    rw [atP] at h
    cases hp : t.pa k with
    | none => rw [hp] at h; cases h
    | some u =>
      rw [hp] at h
      exact atP_ok6 (p := ks) h (((Tm.ok_iff _).1 hr).2 u (Tm.ps_mem (pa_mem hp)).1)
theorem ten_s16 {t : Tm} (h : t.ten) : t.s16 := ⟨h.1, Nat.le_trans h.2 (by omega)⟩
theorem at_ten {p : List Int} {t s : Tm} (h : atP p t = some s) (ht : t.ten) : s.ten := ⟨⟨(atP_ok h ht.1.1).1, atP_ok6 h ht.1.2⟩, Nat.le_trans (atP_ok h ht.1.1).2 ht.2⟩
theorem rn_ten {c d : List Lt} (hd : ∀ l ∈ d, l.ten) (h : ∀ l ∈ rnC c d, l.s16) : ∀ l ∈ rnC c d, l.ten := fun l hl => by
  have hs := h l hl
  obtain ⟨x, hx, rfl⟩ := List.mem_map.1 hl
  have g1 := top_lo c
  exact ⟨⟨hs.1.1, by show (repT _ x.a).size ≤ 10; rw [sh_size (by omega)]; exact (hd x hx).1.2⟩, hs.2.1, by show (repT _ x.b).size ≤ 10; rw [sh_size (by omega)]; exact (hd x hx).2.2⟩
theorem MtOk.ft {c d : List Lt} {m : Mt} (h : MtOk c d m) (hc : ∀ l ∈ c, l.ten) : m.fr.a.ten ∧ m.fr.b.ten := by
  obtain ⟨l, h1, h2, _⟩ := h.fr
  have := hc l (List.mem_of_getElem? h1)
  rcases h2 with ⟨e1, e2⟩ | ⟨e1, e2⟩
  · rw [e1, e2]; exact this
  · rw [e1, e2]; exact ⟨this.2, this.1⟩
theorem MtOk.tt {c d : List Lt} {m : Mt} (h : MtOk c d m) (hd : ∀ l ∈ d, l.ten) : m.ti.a.ten ∧ m.ti.b.ten := by
  obtain ⟨l, h1, h2⟩ := h.ti
  have := hd l (List.mem_of_getElem? h1)
  rcases h2 with ⟨e1, e2⟩ | ⟨e1, e2⟩
  · rw [e1, e2]; exact this
  · rw [e1, e2]; exact ⟨this.2, this.1⟩
theorem pr_of {c d : List Lt} (free : Bool) {N : Int} (hN : 0 ≤ N ∧ N ≤ 1000000) (hv : ∀ v ∈ cvs c, v < N) (hw : ∀ v ∈ cvs d, v < N) (hcl : c.length ≤ 10) (hdl : d.length ≤ 10) (hc : ∀ l ∈ c, l.ten) (hd : ∀ l ∈ d, l.ten) : Pr2 free c d := by
  have cs : ∀ l ∈ c, l.s16 := fun l hl => ⟨ten_s16 (hc l hl).1, ten_s16 (hc l hl).2⟩
  have ds : ∀ l ∈ d, l.s16 := fun l hl => ⟨ten_s16 (hd l hl).1, ten_s16 (hd l hl).2⟩
  have hr := rn_ten hd (rn_s16 hN hv ds hw)
  refine ⟨⟨N, hN, hv, hw⟩, hcl, hdl, cs, ds, fun m hm => ?_⟩
  have hk := mt_at hm
  exact ten_pr (hk.ft hc).1 (at_ten hk.at_ (hk.tt hr).1)
theorem sm_cvs {c : List Lt} (h : ∀ l ∈ c, l.a.sm ∧ l.b.sm) : ∀ v ∈ cvs c, v < 1000 := fun v hv => by
  obtain ⟨l, hl, hv⟩ := List.mem_flatMap.1 hv
  have key : ∀ t : Tm, t.sm → ∀ v ∈ t.vs, v < 1000 := fun t h => vs_le (fun s hs => (Tm.sm_flat h s hs).1)
  rcases List.mem_append.1 hv with hv | hv
  · exact key _ (h l hl).1 v hv
  · exact key _ (h l hl).2 v hv

theorem lok_pos (l : Lt) (h : l.neg = false) : lokL [l] = [0] := by
  have h1 : hvK [l] 1 = (-1, 0) := by
    unfold hvK
    show (if l.neg = true ∧ _ then _ else hvK [l] 0) = _
    rw [if_neg (by rw [h]; rintro ⟨h, _⟩; cases h)]
    rfl
  have hg : gstL [l] l = true := by
    unfold gstL
    rw [List.any_eq_false.2 fun x hx => by
      have : x = l := by simpa using hx
      rw [this, mulB_not.2 (mul_irr _)]; decide]
    rfl
  unfold lokL
  show (if (hvK [l] 1).1 ≥ 0 then _ else gsK [l] 1) = _
  rw [h1, if_neg (by decide)]
  have g0 : gstI [l] 0 = true := hg
  unfold gsK
  have e : List.range 1 = [0] := rfl
  rw [e, List.filter_cons_of_pos (by exact g0)]
  rfl
theorem head_no6 {a b : Tm} (h : PrOk a b) (h1 : ¬ a.f < 0) (h2 : ¬ b.f < 0) (h3 : a.f ≠ b.f) : (mgT a b).2 = false := by
  cases e : (mgT a b).2 with
  | false => rfl
  | true =>
    exfalso
    have hu := (h.tell.yes e).uni
    rw [uni_one, repT_sym h1, repT_sym h2] at hu
    injection hu with e1 _
    exact h3 e1
theorem lead_yes {a b : Tm} (h : kb a b = 1) : leadB a b = true ∧ leadB b a = false := by
  refine ⟨decide_eq_true (.inl h), decide_eq_false ?_⟩
  rw [kb_turn a b, h]
  decide
def x6 : Tm := ⟨-1, []⟩
def o6 : Tm := ⟨1, []⟩
def fx6 : Tm := ⟨3, [x6]⟩
def fo6 : Tm := ⟨3, [o6]⟩
def pf6 : Tm := ⟨4, [fo6]⟩
def po6 : Tm := ⟨4, [o6]⟩
def t6 : Tm := ⟨0, []⟩
def c6 : List Lt := [⟨false, fx6, x6⟩]
def d6 : List Lt := [⟨false, pf6, t6⟩]
theorem x6_ten : x6.ten := ⟨⟨by simp [x6, Tm.rng], by simp [x6, Tm.ok]⟩, by simp [x6, Tm.size, Tm.flat]⟩
theorem o6_ten : o6.ten := ⟨⟨by simp [o6, Tm.rng], by simp [o6, Tm.ok]⟩, by simp [o6, Tm.size, Tm.flat]⟩
theorem fx6_ten : fx6.ten := ⟨⟨by simp [fx6, x6, Tm.rng], by simp [fx6, x6, Tm.ok]⟩, by simp [fx6, x6, Tm.size, Tm.flat]⟩
theorem fo6_ten : fo6.ten := ⟨⟨by simp [fo6, o6, Tm.rng], by simp [fo6, o6, Tm.ok]⟩, by simp [fo6, o6, Tm.size, Tm.flat]⟩
theorem pf6_ten : pf6.ten := ⟨⟨by simp [pf6, fo6, o6, Tm.rng], by simp [pf6, fo6, o6, Tm.ok]⟩, by simp [pf6, fo6, o6, Tm.size, Tm.flat]⟩
theorem t6_ten : t6.ten := ⟨⟨by simp [t6, Tm.rng], by simp [t6, Tm.ok]⟩, by simp [t6, Tm.size, Tm.flat]⟩
theorem c6_ten : ∀ l ∈ c6, l.ten := fun l hl => by
  simp only [c6, List.mem_cons, List.not_mem_nil, or_false] at hl
  subst hl; exact ⟨fx6_ten, x6_ten⟩
theorem d6_ten : ∀ l ∈ d6, l.ten := fun l hl => by
  simp only [d6, List.mem_cons, List.not_mem_nil, or_false] at hl
  subst hl; exact ⟨pf6_ten, t6_ten⟩
theorem rep_fo6 (σ : Int → Tm) : repT σ fo6 = fo6 := by simp [fo6, o6, repT]
theorem rep_pf6 (σ : Int → Tm) : repT σ pf6 = pf6 := by simp [pf6, fo6, o6, repT]
theorem rep_t6 (σ : Int → Tm) : repT σ t6 = t6 := by simp [t6, repT]
theorem rep_x6 (σ : Int → Tm) : repT σ x6 = (σ 0).strip := by simp [x6, repT]
theorem rep_fx6 (σ : Int → Tm) : repT σ fx6 = ⟨3, [(σ 0).strip]⟩ := by simp [fx6, x6, repT]
theorem pr6 : Pr2 false c6 d6 := by
  have e1 : cvs c6 = [0, 0] := by simp [cvs, c6, fx6, x6, Tm.vs, vsL, Tm.flat]
  have e2 : cvs d6 = [] := by simp [cvs, d6, pf6, fo6, o6, t6, Tm.vs, vsL, Tm.flat]
  exact pr_of false (N := 1) (by omega) (fun v hv => by rw [e1] at hv; simp at hv; omega) (fun v hv => by rw [e2] at hv; cases hv) (by simp [c6]) (by simp [d6]) c6_ten d6_ten
theorem mg6 : (mgT fx6 fo6).2 = true ∧ (mgS fx6 fo6 0).strip = o6 := by
  have hT := mg_told fx6_ten fo6_ten
  have h2 : (mgT fx6 fo6).2 = true := by
    cases h : (mgT fx6 fo6).2 with
    | true => rfl
    | false =>
      exfalso
      refine (hT.no h).2 (fun _ => o6) ?_
      rw [uni_one, rep_fx6, rep_fo6]
      simp [fo6, o6, Tm.strip]
  refine ⟨h2, ?_⟩
  have hu := (hT.yes h2).uni
  rw [uni_one, rep_fx6, rep_fo6] at hu
  have hu : (⟨3, [(mgS fx6 fo6 0).strip]⟩ : Tm) = ⟨3, [o6]⟩ := hu
  injection hu with _ h3
  injection h3
theorem kfx6 : kb fx6 x6 = 1 := kb_at (p := [0]) rfl (by simp)
theorem kfo6 : kb fo6 o6 = 1 := kb_at (p := [0]) rfl (by simp)
theorem kpf6 : kb pf6 t6 = 1 := by
  rw [kb_one]
  refine ⟨?_, .inl ?_⟩
  · intro v
    have : t6.vs = [] := by simp [t6, Tm.vs, vsL, Tm.flat]
    rw [this]; simp
  · simp [pf6, fo6, o6, t6, Tm.size, Tm.flat]
theorem sup6 : supM false c6 d6 = [[⟨false, po6, t6⟩]] := by
  have er : rnC c6 d6 = d6 := by unfold rnC d6; simp only [List.map_cons, List.map_nil, Lt.rep, rep_pf6, rep_t6]
  have w1 : wysL leadB c6 (lokL c6) = [⟨0, fx6, x6⟩] := by
    rw [show lokL c6 = [0] from lok_pos _ rfl]
    show wysN leadB c6 0 ++ [] = _
    rw [List.append_nil]
    show ([⟨0, fx6, x6⟩, ⟨0, x6, fx6⟩] : List Wy).filter (fun w => leadB w.a w.b) = _
    simp [List.filter_cons, (lead_yes kfx6).1, (lead_yes kfx6).2]
  have w2 : wysL leadB d6 (lokL d6) = [⟨0, pf6, t6⟩] := by
    rw [show lokL d6 = [0] from lok_pos _ rfl]
    show wysN leadB d6 0 ++ [] = _
    rw [List.append_nil]
    show ([⟨0, pf6, t6⟩, ⟨0, t6, pf6⟩] : List Wy).filter (fun w => leadB w.a w.b) = _
    simp [List.filter_cons, (lead_yes kpf6).1, (lead_yes kpf6).2]
  have e0 : sy pf6 [] = [([], pf6), ([0], fo6), ([0, 0], o6)] := by
    rw [sy_eq, if_neg (by show ¬ (4 : Int) < 0; decide), show pf6.l = [fo6] from rfl, syL_cons, syL_nil, List.append_nil, sy_eq, if_neg (by show ¬ (3 : Int) < 0; decide), show fo6.l = [o6] from rfl, syL_cons, syL_nil, List.append_nil, sy_eq, if_neg (by show ¬ (1 : Int) < 0; decide), show o6.l = [] from rfl, syL_nil]
    rfl
  have em : mtM false c6 d6 = [⟨⟨0, fx6, x6⟩, ⟨0, pf6, t6⟩, [], pf6⟩, ⟨⟨0, fx6, x6⟩, ⟨0, pf6, t6⟩, [0], fo6⟩, ⟨⟨0, fx6, x6⟩, ⟨0, pf6, t6⟩, [0, 0], o6⟩] := by
    unfold mtM
    show mtsL (negAt c6) (wysL leadB c6 (lokL c6)) (wysL leadB d6 (lokL d6)) = _
    rw [w1, w2]
    show mtN (negAt c6) _ _ ++ [] = _
    rw [List.append_nil]
    unfold mtN
    rw [if_neg (by show ¬ negAt c6 0 = true; decide)]
    show mtI _ _ ++ [] = _
    rw [List.append_nil]
    unfold mtI
    simp only [e0]
    rfl
  obtain ⟨g1, g2⟩ := mg6
  unfold supM
  rw [er, em]
  have f1 : folC (ldM false) c6 d6 ⟨⟨0, fx6, x6⟩, ⟨0, pf6, t6⟩, [], pf6⟩ = none := by
    unfold folC
    rw [if_neg]
    rintro ⟨h, _⟩
    have := head_no6 (ten_pr fx6_ten pf6_ten) (by show ¬ (3 : Int) < 0; decide) (by show ¬ (4 : Int) < 0; decide) (by show (3 : Int) ≠ 4; decide)
    rw [this] at h; cases h
  have f3 : folC (ldM false) c6 d6 ⟨⟨0, fx6, x6⟩, ⟨0, pf6, t6⟩, [0, 0], o6⟩ = none := by
    unfold folC
    rw [if_neg]
    rintro ⟨h, _⟩
    have := head_no6 (ten_pr fx6_ten o6_ten) (by show ¬ (3 : Int) < 0; decide) (by show ¬ (1 : Int) < 0; decide) (by show (3 : Int) ≠ 1; decide)
    rw [this] at h; cases h
  have f2 : folC (ldM false) c6 d6 ⟨⟨0, fx6, x6⟩, ⟨0, pf6, t6⟩, [0], fo6⟩ = some [⟨false, po6, t6⟩] := by
    unfold folC
    simp only [rep_fx6, rep_x6, rep_pf6, rep_t6, g2]
    rw [if_pos ⟨g1, (lead_yes kfo6).1, (lead_yes kpf6).1⟩]
    have ej : joinM ⟨⟨0, fx6, x6⟩, ⟨0, pf6, t6⟩, [0], fo6⟩ c6 d6 = [⟨false, ⟨4, [x6]⟩, t6⟩] := by
      unfold joinM
      have e1 : (putP x6 [0] pf6).getD ⟨0, []⟩ = ⟨4, [x6]⟩ := by
        simp [putP, pf6, Tm.pa, Tm.ps, x6, Tm.strip]
      rw [e1]
      rfl
    rw [ej]
    have e2 : repT (mgS fx6 fo6) ⟨4, [x6]⟩ = po6 := by
      have : repT (mgS fx6 fo6) ⟨4, [x6]⟩ = ⟨4, [repT (mgS fx6 fo6) x6]⟩ := by rw [repT_sym (by show ¬ (4 : Int) < 0; decide)]; rfl
      rw [this, rep_x6, g2]; rfl
    simp only [List.map_cons, List.map_nil, Lt.rep, e2, rep_t6]
  unfold folL
  rw [List.filterMap_cons, f1, List.filterMap_cons, f2, List.filterMap_cons, f3]
  rfl
-- 
theorem al1_16 (W : World) (t : CV) (f : Int) (l : List CV) (ht : t = .row [.i f, .lst l]) : AFun Tryz.prog W 23 [t] (.val (.row [.i 3, .lst [t]])) := by
  subst ht
  refine afun_of (rs := [.row [.i 3, .lst [.row [.i f, .lst l]]]]) Tryz.func23 Tryz.ntmps23 rfl rfl rfl rfl ?_
  intro w U hW
  refine aS (aR ?_)
  (refine nx (a_box (gN rfl) rfl rfl rfl rfl rfl) rfl ?_)
  (refine nx (a_alloc (gN rfl) rfl rfl rfl rfl rfl rfl rfl rfl rfl rfl) rfl ?_)
  show AWp _ _ _ _ _ _ _
  refine aS (aR ?_)
  (refine nx (aL (gN rfl) rfl rfl rfl rfl rfl rfl rfl rfl rfl rfl rfl rfl) rfl ?_)
  (refine nx (a_bslice (gN rfl) rfl rfl rfl rfl rfl rfl rfl rfl rfl rfl rfl rfl rfl) rfl ?_)
  (refine nx (a_build (gN rfl) rfl rfl rfl rfl rfl rfl rfl rfl rfl rfl rfl) rfl ?_)
  (refine nx (aSt (gN rfl) rfl rfl rfl rfl rfl rfl rfl rfl rfl rfl) rfl ?_)
  show AWp _ _ _ _ _ _ _
  exact aT (And.intro (.inr rfl) rfl)
-- 
theorem al2_16 (W : World) (t : CV) (f : Int) (l : List CV) (ht : t = .row [.i f, .lst l]) : AFun Tryz.prog W 24 [t] (.val (.row [.i 4, .lst [t]])) := by
  subst ht
  refine afun_of (rs := [.row [.i 4, .lst [.row [.i f, .lst l]]]]) Tryz.func24 Tryz.ntmps24 rfl rfl rfl rfl ?_
  intro w U hW
  refine aS (aR ?_)
  (refine nx (a_box (gN rfl) rfl rfl rfl rfl rfl) rfl ?_)
  (refine nx (a_alloc (gN rfl) rfl rfl rfl rfl rfl rfl rfl rfl rfl rfl) rfl ?_)
  show AWp _ _ _ _ _ _ _
  refine aS (aR ?_)
  (refine nx (aL (gN rfl) rfl rfl rfl rfl rfl rfl rfl rfl rfl rfl rfl rfl) rfl ?_)
  (refine nx (a_bslice (gN rfl) rfl rfl rfl rfl rfl rfl rfl rfl rfl rfl rfl rfl rfl) rfl ?_)
  (refine nx (a_build (gN rfl) rfl rfl rfl rfl rfl rfl rfl rfl rfl rfl rfl) rfl ?_)
  (refine nx (aSt (gN rfl) rfl rfl rfl rfl rfl rfl rfl rfl rfl rfl) rfl ?_)
  show AWp _ _ _ _ _ _ _
  exact aT (And.intro (.inr rfl) rfl)
-- 
set_option maxHeartbeats 4000000 in
theorem alive16_abs (W : World) : AFun Tryz.prog W 7 [] (.val (.b true)) := by
  have hR := fun w => suInto_abs w c6 d6 pr6
  rw [sup6] at hR
  have hc : c6.map Lt.cv = [.row [.b false, .row [.i 3, .lst [.row [.i (-1), .lst []]]], .row [.i (-1), .lst []]]] := by simp [c6, fx6, x6, Lt.cv, Tm.cv_eq]
  have hd : d6.map Lt.cv = [.row [.b false, .row [.i 4, .lst [.row [.i 3, .lst [.row [.i 1, .lst []]]]]], .row [.i 0, .lst []]]] := by simp [d6, pf6, fo6, o6, t6, Lt.cv, Tm.cv_eq]
  have hr : ([[⟨false, po6, t6⟩]] : List (List Lt)).map clC = [.lst [.row [.b false, .row [.i 4, .lst [.row [.i 1, .lst []]]], .row [.i 0, .lst []]]]] := by simp [clC, po6, o6, t6, Lt.cv, Tm.cv_eq]
  rw [hc, hd, hr] at hR
  have a1 := fun w t f l ht => al1_16 w t f l ht
  have k1 : ∀ w, AFunW Tryz.prog w (.sc (.func (.func 23) #[] #[])) [.row [.i (-1), .lst []]] (.val (.row [.i 3, .lst [.row [.i (-1), .lst []]]])) := fun w => .inr ⟨_, rfl, al1_16 w _ _ _ rfl⟩
  have k2 : ∀ w, AFunW Tryz.prog w (.sc (.func (.func 23) #[] #[])) [.row [.i 1, .lst []]] (.val (.row [.i 3, .lst [.row [.i 1, .lst []]]])) := fun w => .inr ⟨_, rfl, al1_16 w _ _ _ rfl⟩
  have k3 : ∀ w, AFunW Tryz.prog w (.sc (.func (.func 24) #[] #[])) [.row [.i 3, .lst [.row [.i 1, .lst []]]]] (.val (.row [.i 4, .lst [.row [.i 3, .lst [.row [.i 1, .lst []]]]]])) := fun w => .inr ⟨_, rfl, al2_16 w _ _ _ rfl⟩
  refine afun_of (rs := [.b true]) Tryz.func7 Tryz.ntmps7 rfl rfl rfl rfl ?_
  intro w U hW
  refine aS (aR ?_)
  (refine nx (aA (gN rfl) rfl rfl rfl rfl rfl) rfl ?_)
  show AWp _ _ _ _ _ _ _
  refine aS (aR ?_)
  (refine nx (a_buildT [.i 0, .lst []] (gN rfl) rfl rfl rfl rfl rfl rfl rfl rfl rfl rfl rfl) rfl ?_)
  (refine nx (a_alloc (gN rfl) rfl rfl rfl rfl rfl rfl rfl rfl rfl rfl) rfl ?_)
  (refine nx (aSt (gN rfl) rfl rfl rfl rfl rfl rfl rfl rfl rfl rfl) rfl ?_)
  show AWp _ _ _ _ _ _ _
  refine aS (aR ?_)
  (refine nx (aA (gN rfl) rfl rfl rfl rfl rfl) rfl ?_)
  show AWp _ _ _ _ _ _ _
  refine aS (aR ?_)
  (refine nx (aA (gN rfl) rfl rfl rfl rfl rfl) rfl ?_)
  show AWp _ _ _ _ _ _ _
  refine aS (aD (by kernel_rfl) (by kernel_rfl) ?_)
  (refine nx (aM (gN rfl) rfl rfl rfl rfl rfl) rfl ?_)
  (refine nx (aL (gN rfl) rfl rfl rfl rfl rfl rfl rfl rfl rfl rfl rfl rfl) rfl ?_)
  (refine nx (a_callw (gN rfl) rfl rfl rfl rfl rfl rfl (k1 w)) rfl ?_)
  (refine nx (aL (gN rfl) rfl rfl rfl rfl rfl rfl rfl rfl rfl rfl rfl rfl) rfl ?_)
  (refine nx (a_buildT ltZ3 (gN rfl) rfl rfl rfl rfl rfl rfl rfl rfl rfl rfl rfl) rfl ?_)
  (refine nx (a_bslice (gN rfl) rfl rfl rfl rfl rfl rfl rfl rfl rfl rfl rfl rfl rfl) rfl ?_)
  (refine nx (aM (gN rfl) rfl rfl rfl rfl rfl) rfl ?_)
  (refine nx (aM (gN rfl) rfl rfl rfl rfl rfl) rfl ?_)
  (refine nx (a_buildT [.i 0, .lst []] (gN rfl) rfl rfl rfl rfl rfl rfl rfl rfl rfl rfl rfl) rfl ?_)
  (refine nx (a_callw (gN rfl) rfl rfl rfl rfl rfl rfl (k2 w)) rfl ?_)
  (refine nx (a_callw (gN rfl) rfl rfl rfl rfl rfl rfl (k3 w)) rfl ?_)
  (refine nx (a_buildT ltZ3 (gN rfl) rfl rfl rfl rfl rfl rfl rfl rfl rfl rfl rfl) rfl ?_)
  (refine nx (a_bslice (gN rfl) rfl rfl rfl rfl rfl rfl rfl rfl rfl rfl rfl rfl rfl) rfl ?_)
  (refine nx (a_call (gN rfl) rfl rfl rfl rfl rfl (hR w)) rfl ?_)
  (refine nx (aA (gN rfl) rfl rfl rfl rfl rfl) rfl ?_)
  refine ⟨by kernel_rfl, ?_⟩
  show AWp _ _ _ _ _ _ _
  refine aS (aR ?_)
  (refine nx (aM (gN rfl) rfl rfl rfl rfl rfl) rfl ?_)
  (refine nx (a_len (gN rfl) rfl rfl rfl rfl rfl rfl rfl) rfl ?_)
  (refine nx (a_eql (gN rfl) rfl rfl rfl rfl rfl rfl) rfl ?_)
  (refine nx (aM (gN rfl) rfl rfl rfl rfl rfl) rfl ?_)
  (refine nx (aM (gd_on rfl rfl rfl rfl (by first | rfl | assumption | (simp; done))) rfl rfl rfl rfl rfl) rfl ?_)
  (refine nx (a_index (j := 0) (gd_on rfl rfl rfl rfl (by first | rfl | assumption | (simp; done))) rfl rfl rfl rfl rfl rfl rfl rfl rfl (rfl) rfl (sZ rfl)) rfl ?_)
  (refine nx (a_load_ad (gd_on rfl rfl rfl rfl (by first | rfl | assumption | (simp; done))) rfl rfl rfl rfl rfl rfl rfl rfl rfl) rfl ?_)
  (refine nx (a_len (gd_on rfl rfl rfl rfl (by first | rfl | assumption | (simp; done))) rfl rfl rfl rfl rfl rfl rfl) rfl ?_)
  (refine nx (a_eql (gd_on rfl rfl rfl rfl (by first | rfl | assumption | (simp; done))) rfl rfl rfl rfl rfl rfl) rfl ?_)
  (refine ⟨_, _, _, aPt (gN rfl) rfl rfl rfl rfl rfl ?hb rfl, rfl, ?_⟩; case hb => (first | rfl | assumption | (simp; done)))
  (refine nx (aM (gN rfl) rfl rfl rfl rfl rfl) rfl ?_)
  (refine nx (aM (gd_on rfl rfl rfl rfl (by first | rfl | assumption | (simp; done))) rfl rfl rfl rfl rfl) rfl ?_)
  (refine nx (a_index (j := 0) (gd_on rfl rfl rfl rfl (by first | rfl | assumption | (simp; done))) rfl rfl rfl rfl rfl rfl rfl rfl rfl (rfl) rfl (sZ rfl)) rfl ?_)
  (refine nx (a_load_ad (gd_on rfl rfl rfl rfl (by first | rfl | assumption | (simp; done))) rfl rfl rfl rfl rfl rfl rfl rfl rfl) rfl ?_)
  (refine nx (a_index (j := 0) (gd_on rfl rfl rfl rfl (by first | rfl | assumption | (simp; done))) rfl rfl rfl rfl rfl rfl rfl rfl rfl (rfl) rfl (sZ rfl)) rfl ?_)
  (refine nx (a_field_ad (gd_on rfl rfl rfl rfl (by first | rfl | assumption | (simp; done))) rfl rfl rfl rfl rfl rfl rfl rfl rfl rfl rfl) rfl ?_)
  (refine nx (a_field_ad (gd_on rfl rfl rfl rfl (by first | rfl | assumption | (simp; done))) rfl rfl rfl rfl rfl rfl rfl rfl rfl rfl rfl) rfl ?_)
  (refine nx (a_load_ad (gd_on rfl rfl rfl rfl (by first | rfl | assumption | (simp; done))) rfl rfl rfl rfl rfl rfl rfl rfl rfl) rfl ?_)
  (refine nx (a_index (j := 0) (gd_on rfl rfl rfl rfl (by first | rfl | assumption | (simp; done))) rfl rfl rfl rfl rfl rfl rfl rfl rfl (rfl) rfl (sZ rfl)) rfl ?_)
  (refine nx (a_field_ad (gd_on rfl rfl rfl rfl (by first | rfl | assumption | (simp; done))) rfl rfl rfl rfl rfl rfl rfl rfl rfl rfl rfl) rfl ?_)
  (refine nx (a_load_ad (gd_on rfl rfl rfl rfl (by first | rfl | assumption | (simp; done))) rfl rfl rfl rfl rfl rfl rfl rfl rfl) rfl ?_)
  (refine nx (a_eql (gd_on rfl rfl rfl rfl (by first | rfl | assumption | (simp; done))) rfl rfl rfl rfl rfl rfl) rfl ?_)
  (refine ⟨_, _, _, aPt (gN rfl) rfl rfl rfl rfl rfl ?hb rfl, rfl, ?_⟩; case hb => (first | rfl | assumption | (simp; done)))
  (refine nx (aA (gN rfl) rfl rfl rfl rfl rfl) rfl ?_)
  show AWp _ _ _ _ _ _ _
  exact aT (And.intro (.inr rfl) rfl)
theorem whl_rng {c : List Lt} (h : okCl c) : (whlT c).rng ∧ (whlT c).ok ∧ (whlT c).size ≤ 24013 := by
  have hl := h.1
  refine ⟨(Tm.rng_iff _).2 ⟨by show _ ≤ (0 : Int) ∧ (0 : Int) ≤ _; omega, fun s hs => ?_⟩, (Tm.ok_iff _).2 ⟨by show (c.map whlL).length ≤ _; rw [List.length_map]; omega, fun s hs => ?_⟩, ?_⟩
  · obtain ⟨l, hl, rfl⟩ := List.mem_map.1 hs
    refine (Tm.rng_iff _).2 ⟨by show _ ≤ sgZ l.neg ∧ sgZ l.neg ≤ _; unfold sgZ; split <;> omega, fun t ht => ?_⟩
    have ht : t = l.a ∨ t = l.b := by simpa [whlL] using ht
    rcases ht with rfl | rfl
    · exact (h.2 l hl).1.1
    · exact (h.2 l hl).2.1
  · obtain ⟨l, hl, rfl⟩ := List.mem_map.1 hs
    refine (Tm.ok_iff _).2 ⟨by show 2 ≤ _; omega, fun t ht => ?_⟩
    have ht : t = l.a ∨ t = l.b := by simpa [whlL] using ht
    rcases ht with rfl | rfl
    · exact (h.2 l hl).1.2.1
    · exact (h.2 l hl).2.2.1
  · rw [Tm.size_sym (show ¬ (whlT c).f < 0 by show ¬ (0 : Int) < 0; decide)]
    show 1 + ((c.map whlL).map Tm.size).sum ≤ _
    have : ∀ c : List Lt, (∀ l ∈ c, (l.a.rng ∧ l.a.ok ∧ l.a.size ≤ 1000) ∧ (l.b.rng ∧ l.b.ok ∧ l.b.size ≤ 1000)) → ((c.map whlL).map Tm.size).sum ≤ 2001 * c.length := fun c => by
      induction c with
      | nil => intro _; exact Nat.zero_le _
      | cons x c ih =>
        intro g
        rw [List.map_cons, List.map_cons, List.sum_cons, List.length_cons]
        have a1 := g x (by simp)
        have a2 := ih fun s hs => g s (List.mem_cons_of_mem _ hs)
        have a3 : (whlL x).size = 1 + (x.a.size + x.b.size) := by
          rw [Tm.size_sym (t := whlL x) (sgZ_nn _)]
          show 1 + ([x.a, x.b].map Tm.size).sum = _
          simp
        omega
    have := this c h.2
    omega
def renB (c : List Lt) (k : Int) : List Bd := zipB (sidT c).nv ((sidT c).nv.map fun v => v + k)
-- 
set_option maxHeartbeats 1000000 in
theorem refRen_abs (W : World) (c : List Lt) (k : Int) (h : okCl c) (hv : ∀ v ∈ (sidT c).nv, 0 ≤ v ∧ v ≤ 1000000) (hk : 0 ≤ k ∧ k ≤ 1000000) : AFun Tryz.prog W 27 [.lst (c.map Lt.cv), .i k] (.val (.lst ((c.map (appL (renB c k))).map Lt.cv))) := by
  obtain ⟨hr, hok, hsi⟩ := whl_rng h
  have hV := fun w => refVars_abs w (whlT c) hr hok (by omega)
  rw [nv_vars, whl_nv] at hV
  have hnl := h.nv
  have hlen := h.1
  obtain ⟨z, hz⟩ : ∃ z, z = renB c k := ⟨_, rfl⟩
  unfold renB at hz
  obtain ⟨l, hl⟩ : ∃ l, l = (sidT c).nv := ⟨_, rfl⟩
  rw [← hl] at hV hv hnl hz
  have hzl : z.length = l.length := by rw [hz]; exact zip_len (by rw [List.length_map])
  have hsz := ints_size l
  have hzz := fun k => Bd.size_all (z.take k)
  have hap := fun w => refAppC_abs w z c (by omega) (by omega) (fun l hl => ⟨⟨(h.2 l hl).1.1, (h.2 l hl).1.2.1⟩, (h.2 l hl).2.1, (h.2 l hl).2.2.1⟩)
  rw [show renB c k = z by rw [hz, hl]; rfl]
  refine afun_of (rs := [.lst ((c.map (appL z)).map Lt.cv)]) Tryz.func27 Tryz.ntmps27 rfl rfl rfl rfl ?_
  intro w U hW
  refine aS (aR ?_)
  (refine nx (aA (gN rfl) rfl rfl rfl rfl rfl) rfl ?_)
  show AWp _ _ _ _ _ _ _
  refine aS (aR ?_)
  (refine nx (aM (gN rfl) rfl rfl rfl rfl rfl) rfl ?_)
  (refine nx (a_call (gN rfl) rfl rfl rfl rfl rfl (whole_abs w c (by omega))) rfl ?_)
  (refine nx (a_call (gN rfl) rfl rfl rfl rfl rfl (hV w)) rfl ?_)
  (refine nx (aA (gN rfl) rfl rfl rfl rfl rfl) rfl ?_)
  show AWp _ _ _ _ _ _ _
  refine aS (aR ?_)
  (refine nx (aA (gN rfl) rfl rfl rfl rfl rfl) rfl ?_)
  show AWp _ _ _ _ _ _ _
  refine aS (aS (aR ?_))
  (refine nx (aA (gN rfl) rfl rfl rfl rfl rfl) rfl ?_)
  show AWp _ _ _ _ _ _ _
  refine aB (awp_count l.length (fun n => [(0, .val (.lst (c.map Lt.cv))), (1, .val (.i k)), (5, .val (.lst (l.map CV.i))), (6, .own (.lst ((z.take n).map Bd.cv)) 200032), (200032, .tok 83 3), (7, .val (.i n))])
    ((wk_nil 6 200032 83 3 rfl rfl rfl rfl rfl rfl rfl).trans (wk_sub ⟨rfl, rfl, rfl, rfl, rfl, rfl, trivial⟩)) ?_)
  intro n hn
  refine aS (aS (aR ?_))
  (refine nx (aM (gN rfl) rfl rfl rfl rfl rfl) rfl ?_)
  (refine nx (aM (gN rfl) rfl rfl rfl rfl rfl) rfl ?_)
  (refine nx (a_len (gN rfl) rfl rfl rfl rfl rfl rfl rfl) rfl ?_)
  (refine nx (a_lss (gN rfl) rfl rfl rfl rfl rfl rfl) rfl ?_)
  show AWp _ _ _ _ _ _ _
  refine aC rfl (fun hc => aK ?_) (fun hc => aE ?_)
  · have hkl : n < l.length := by
      simp only [List.length_map, decide_eq_true_eq] at hc
      omega
    clear hc
    obtain ⟨v, hv'⟩ : ∃ v, l[n]? = some v := ⟨l[n], List.getElem?_eq_getElem hkl⟩
    have hvi := ints_at hv'
    have hvb := hv v (List.mem_of_getElem? hv')
    have hzk : z[n]? = some ⟨v, varT (v + k)⟩ := by rw [hz]; exact zip_at hv' (by rw [List.getElem?_map, hv']; rfl)
    have hln : ((z.take n).map Bd.cv).length ≤ 1000000 := by rw [List.length_map, List.length_take]; omega
    show AWp _ _ _ _ _ _ _
    refine aS (aB (aD (by kernel_rfl) (by kernel_rfl) ?_))
    (refine nx (aM (gN rfl) rfl rfl rfl rfl rfl) rfl ?_)
    (refine nx (aM (gN rfl) rfl rfl rfl rfl rfl) rfl ?_)
    (refine nx (aM (gN rfl) rfl rfl rfl rfl rfl) rfl ?_)
    (refine nx (a_index (j := n) (gN rfl) rfl rfl rfl rfl rfl rfl rfl rfl rfl (hvi) rfl (hsz)) rfl ?_)
    (refine nx (a_load_ad (gN rfl) rfl rfl rfl rfl rfl rfl rfl rfl rfl) rfl ?_)
    (refine nx (aM (gN rfl) rfl rfl rfl rfl rfl) rfl ?_)
    (refine nx (aM (gN rfl) rfl rfl rfl rfl rfl) rfl ?_)
    (refine nx (a_index (j := n) (gN rfl) rfl rfl rfl rfl rfl rfl rfl rfl rfl (hvi) rfl (hsz)) rfl ?_)
    (refine nx (a_load_ad (gN rfl) rfl rfl rfl rfl rfl rfl rfl rfl rfl) rfl ?_)
    (refine nx (a_sub (gN rfl) rfl rfl rfl rfl rfl rfl (by first | omega | (simp only [List.length_map, List.length_append, List.length_cons, List.length_nil] <;> omega) | (simp <;> omega))) rfl ?_)
    (refine nx (aM (gN rfl) rfl rfl rfl rfl rfl) rfl ?_)
    (refine nx (a_sub (gN rfl) rfl rfl rfl rfl rfl rfl (by first | omega | (simp only [List.length_map, List.length_append, List.length_cons, List.length_nil] <;> omega) | (simp <;> omega))) rfl ?_)
    (refine nx (a_build (gN rfl) rfl rfl rfl rfl rfl rfl rfl rfl rfl rfl rfl) rfl ?_)
    (refine nx (a_build (gN rfl) rfl rfl rfl rfl rfl rfl rfl rfl rfl rfl rfl) rfl ?_)
    (refine nx (a_bslice (gN rfl) rfl rfl rfl rfl rfl rfl rfl rfl rfl rfl rfl rfl rfl) rfl ?_)
    (refine nx (a_app (gN rfl) rfl rfl rfl rfl rfl rfl rfl rfl rfl rfl rfl rfl rfl rfl rfl (by first | assumption | exact sZ rfl | exact Tm.size_all _ | exact Bd.size_all _ | exact ints_size _ | exact bys_size _ | exact Lt.size_all _) (by first | assumption | exact sZ rfl | exact Tm.size_all _ | exact Bd.size_all _ | exact ints_size _ | exact bys_size _ | exact Lt.size_all _) (by first | omega | (simp only [List.length_map, List.length_append, List.length_cons, List.length_nil] <;> omega) | (simp <;> omega))) rfl ?_)
    (refine nx (aA (gN rfl) rfl rfl rfl rfl rfl) rfl ?_)
    refine ⟨by kernel_rfl, ?_⟩
    show AWp _ _ _ _ _ _ _
    refine aR ?_
    (refine nx (aM (gN rfl) rfl rfl rfl rfl rfl) rfl ?_)
    (refine nx (a_add (gN rfl) rfl rfl rfl rfl rfl rfl (by first | omega | (simp only [List.length_map, List.length_append, List.length_cons, List.length_nil] <;> omega) | (simp <;> omega))) rfl ?_)
    (refine nx (aA (gN rfl) rfl rfl rfl rfl rfl) rfl ?_)
    refine ⟨hkl, Wk.trans (wk_sub (s' := [(0, .val (.lst (c.map Lt.cv))), (1, .val (.i k)), (5, .val (.lst (l.map CV.i))), (6, .own (.lst ((z.take (n + 1)).map Bd.cv)) 300032), (300032, .tok 83 3), (7, .val (.i ((n + 1 : Nat) : Int)))]) ⟨rfl, rfl, rfl, ?_, rfl, rfl, trivial⟩) (wk_ren 300032 200032 rfl rfl rfl rfl)⟩
    rw [List.take_add_one, hzk, List.map_append]
    show some (AV.own (.lst (_ ++ [CV.row [.i v, .row [.i (-1 - v - k), .lst []]]])) _) = some (AV.own (.lst (_ ++ [CV.row [.i v, .row [.i (-1 - (v + k)), .lst []]]])) _)
    rw [show -1 - v - k = -1 - (v + k) by omega]
  · have hkl : n = z.length := by
      simp only [List.length_map, decide_eq_false_iff_not] at hc
      omega
    subst hkl
    rw [List.take_length]
    show AWp _ _ _ _ _ _ _
    refine aS (aR ?_)
    (refine nx (aM (gN rfl) rfl rfl rfl rfl rfl) rfl ?_)
    (refine nx (aM (gN rfl) rfl rfl rfl rfl rfl) rfl ?_)
    (refine nx (a_call (gN rfl) rfl rfl rfl rfl rfl (hap w)) rfl ?_)
    (refine nx (aA (gN rfl) rfl rfl rfl rfl rfl) rfl ?_)
    show AWp _ _ _ _ _ _ _
    exact aT (And.intro (.inr rfl) rfl)
def topD (l : List Int) : Int := l.foldl max (-1)
-- 
set_option maxHeartbeats 1000000 in
theorem refTop_abs (W : World) (c : List Lt) (h : okCl c) : AFun Tryz.prog W 28 [.lst (c.map Lt.cv)] (.val (.i (topD (sidT c).nv))) := by
  obtain ⟨hr, hok, hsi⟩ := whl_rng h
  have hV := fun w => refVars_abs w (whlT c) hr hok (by omega)
  rw [nv_vars, whl_nv] at hV
  have hnl := h.nv
  have hlen := h.1
  obtain ⟨l, hl⟩ : ∃ l, l = (sidT c).nv := ⟨_, rfl⟩
  rw [← hl] at hV hnl ⊢
  have hsz := ints_size l
  refine afun_of (rs := [.i (topD l)]) Tryz.func28 Tryz.ntmps28 rfl rfl rfl rfl ?_
  intro w U hW
  refine aS (aR ?_)
  (refine nx (aA (gN rfl) rfl rfl rfl rfl rfl) rfl ?_)
  show AWp _ _ _ _ _ _ _
  refine aS (aR ?_)
  (refine nx (aM (gN rfl) rfl rfl rfl rfl rfl) rfl ?_)
  (refine nx (a_call (gN rfl) rfl rfl rfl rfl rfl (whole_abs w c (by omega))) rfl ?_)
  (refine nx (a_call (gN rfl) rfl rfl rfl rfl rfl (hV w)) rfl ?_)
  (refine nx (aA (gN rfl) rfl rfl rfl rfl rfl) rfl ?_)
  show AWp _ _ _ _ _ _ _
  refine aS (aR ?_)
  (refine nx (aA (gN rfl) rfl rfl rfl rfl rfl) rfl ?_)
  show AWp _ _ _ _ _ _ _
  refine aS (aS (aR ?_))
  (refine nx (aA (gN rfl) rfl rfl rfl rfl rfl) rfl ?_)
  show AWp _ _ _ _ _ _ _
  refine aB (awp_count l.length (fun n => [(3, .val (.lst (l.map CV.i))), (4, .val (.i (topD (l.take n)))), (5, .val (.i n))]) (wk_sub ⟨rfl, rfl, rfl, trivial⟩) ?_)
  intro n hn
  refine aS (aS (aR ?_))
  (refine nx (aM (gN rfl) rfl rfl rfl rfl rfl) rfl ?_)
  (refine nx (aM (gN rfl) rfl rfl rfl rfl rfl) rfl ?_)
  (refine nx (a_len (gN rfl) rfl rfl rfl rfl rfl rfl rfl) rfl ?_)
  (refine nx (a_lss (gN rfl) rfl rfl rfl rfl rfl rfl) rfl ?_)
  show AWp _ _ _ _ _ _ _
  refine aC rfl (fun hc => aK ?_) (fun hc => aE ?_)
  · have hkl : n < l.length := by
      simp only [List.length_map, decide_eq_true_eq] at hc
      omega
    clear hc
    obtain ⟨v, hv'⟩ : ∃ v, l[n]? = some v := ⟨l[n], List.getElem?_eq_getElem hkl⟩
    have hvi := ints_at hv'
    have hst : topD (l.take (n + 1)) = max (topD (l.take n)) v := by
      unfold topD
      rw [List.take_add_one, hv', List.foldl_append]
      rfl
    show AWp _ _ _ _ _ _ _
    refine aS (aB (aS (aR ?_)))
    (refine nx (aM (gN rfl) rfl rfl rfl rfl rfl) rfl ?_)
    (refine nx (aM (gN rfl) rfl rfl rfl rfl rfl) rfl ?_)
    (refine nx (a_index (j := n) (gN rfl) rfl rfl rfl rfl rfl rfl rfl rfl rfl (hvi) rfl (hsz)) rfl ?_)
    (refine nx (a_load_ad (gN rfl) rfl rfl rfl rfl rfl rfl rfl rfl rfl) rfl ?_)
    (refine nx (aM (gN rfl) rfl rfl rfl rfl rfl) rfl ?_)
    (refine nx (a_gtr (gN rfl) rfl rfl rfl rfl rfl rfl) rfl ?_)
    show AWp _ _ _ _ _ _ _
    refine aC rfl (fun hc => ?_) (fun hc => aK ?_)
    · have hc := of_decide_eq_true hc
      refine aR ?_
      (refine nx (aM (gN rfl) rfl rfl rfl rfl rfl) rfl ?_)
      (refine nx (aM (gN rfl) rfl rfl rfl rfl rfl) rfl ?_)
      (refine nx (a_index (j := n) (gN rfl) rfl rfl rfl rfl rfl rfl rfl rfl rfl (hvi) rfl (hsz)) rfl ?_)
      (refine nx (a_load_ad (gN rfl) rfl rfl rfl rfl rfl rfl rfl rfl rfl) rfl ?_)
      (refine nx (aA (gN rfl) rfl rfl rfl rfl rfl) rfl ?_)
      show AWp _ _ _ _ _ _ _
      refine aR ?_
      (refine nx (aM (gN rfl) rfl rfl rfl rfl rfl) rfl ?_)
      (refine nx (a_add (gN rfl) rfl rfl rfl rfl rfl rfl (by first | omega | (simp only [List.length_map, List.length_append, List.length_cons, List.length_nil] <;> omega) | (simp <;> omega))) rfl ?_)
      (refine nx (aA (gN rfl) rfl rfl rfl rfl rfl) rfl ?_)
      exact ⟨hkl, wk_sub ⟨rfl, by rw [hst, show max (topD (l.take n)) v = v by omega]; rfl, rfl, trivial⟩⟩
    · have hc := of_decide_eq_false hc
      show AWp _ _ _ _ _ _ _
      refine aR ?_
      (refine nx (aM (gN rfl) rfl rfl rfl rfl rfl) rfl ?_)
      (refine nx (a_add (gN rfl) rfl rfl rfl rfl rfl rfl (by first | omega | (simp only [List.length_map, List.length_append, List.length_cons, List.length_nil] <;> omega) | (simp <;> omega))) rfl ?_)
      (refine nx (aA (gN rfl) rfl rfl rfl rfl rfl) rfl ?_)
      exact ⟨hkl, wk_sub ⟨rfl, by rw [hst, show max (topD (l.take n)) v = topD (l.take n) by omega]; rfl, rfl, trivial⟩⟩
  · have hkl : n = l.length := by
      simp only [List.length_map, decide_eq_false_iff_not] at hc
      omega
    subst hkl
    rw [List.take_length]
    show AWp _ _ _ _ _ _ _
    refine aS (aR ?_)
    (refine nx (aM (gN rfl) rfl rfl rfl rfl rfl) rfl ?_)
    (refine nx (aA (gN rfl) rfl rfl rfl rfl rfl) rfl ?_)
    show AWp _ _ _ _ _ _ _
    exact aT (And.intro (.inr rfl) rfl)
theorem fm_flat {α β γ : Type} (f : β → Option γ) (g : α → List β) : ∀ L : List α, (L.flatMap g).filterMap f = L.flatMap fun x => (g x).filterMap f
  | [] => rfl
  | x :: L => by rw [List.flatMap_cons, List.filterMap_append, fm_flat f g L, List.flatMap_cons]
theorem fm_range {α β : Type} (F : α → Option β) (L : List α) : L.filterMap F = (List.range L.length).filterMap fun k => (L[k]?).bind F := by
  have : ∀ n, n ≤ L.length → (L.take n).filterMap F = (List.range n).filterMap fun k => (L[k]?).bind F := fun n => by
    induction n with
    | zero => intro _; rfl
    | succ n ih =>
      intro hn
      obtain ⟨x, hx⟩ : ∃ x, L[n]? = some x := ⟨L[n], List.getElem?_eq_getElem (by omega)⟩
      rw [List.take_add_one, hx, List.filterMap_append, ih (by omega), List.range_succ, List.filterMap_append]
      congr 1
      simp only [Option.toList_some, List.filterMap_cons, List.filterMap_nil, hx, Option.bind_some]
  have h := this L.length (Nat.le_refl _)
  rwa [List.take_length] at h
theorem range_two {β : Type} (f : Nat → List β) : ∀ n, (List.range (2 * n)).flatMap f = (List.range n).flatMap fun i => f (2 * i) ++ f (2 * i + 1)
  | 0 => rfl
  | n + 1 => by
    rw [show 2 * (n + 1) = 2 * n + 1 + 1 by omega, List.range_succ, List.range_succ, List.range_succ, List.flatMap_append, List.flatMap_append, range_two f n, List.flatMap_append]
    simp
theorem stC_app (A B : List (List Lt)) : stC (A ++ B) = stC A ++ stC B := List.map_append ..
theorem stC_flm {α : Type} {f g : α → List (List Lt)} : ∀ {L : List α}, (∀ x ∈ L, stC (f x) = stC (g x)) → stC (L.flatMap f) = stC (L.flatMap g)
  | [], _ => rfl
  | x :: L, h => by rw [List.flatMap_cons, List.flatMap_cons, stC_app, stC_app, h x (by simp), stC_flm fun y hy => h y (List.mem_cons_of_mem _ hy)]
theorem stC_fm {α : Type} {f g : α → Option (List Lt)} : ∀ {L : List α}, (∀ x ∈ L, (f x).map (List.map Lt.strip) = (g x).map (List.map Lt.strip)) → stC (L.filterMap f) = stC (L.filterMap g)
  | [], _ => rfl
  | x :: L, h => by
    have ih := stC_fm (L := L) fun y hy => h y (List.mem_cons_of_mem _ hy)
    have hx := h x (by simp)
    rw [List.filterMap_cons, List.filterMap_cons]
    cases hf : f x with
    | none =>
      rw [hf] at hx
      cases hg : g x with
      | none => exact ih
      | some z => rw [hg] at hx; cases hx
    | some y =>
      rw [hf] at hx
      cases hg : g x with
      | none => rw [hg] at hx; cases hx
      | some z =>
        rw [hg] at hx
        have hx := Option.some.inj hx
        show y.map Lt.strip :: stC _ = z.map Lt.strip :: stC _
        rw [hx, ih]
theorem lk_flat {β : Type} (free : Bool) (c : List Lt) (g : Nat → List β) : ((lkM free c).flatMap fun z => g z.toNat) = (List.range c.length).flatMap fun i : Nat => if (decide ((i : Int) ∈ lokL c) || free) = true then g i else [] := by
  unfold lkM
  cases free with
  | true =>
    rw [if_pos rfl]
    unfold upL
    rw [List.flatMap_map]
    refine flat_congr fun i _ => ?_
    rw [Bool.or_true, if_pos rfl, Int.toNat_natCast]
  | false =>
    rw [if_neg (by simp), lok_flat]
    refine flat_congr fun i _ => ?_
    rw [Bool.or_false]
    by_cases h : (i : Int) ∈ lokL c
    · rw [if_pos h, if_pos (decide_eq_true h)]
    · rw [if_neg h, if_neg (by rw [decide_eq_false h]; simp)]
theorem sy_zip (t : Tm) : ∀ pl : List Int, sy t pl = ((t.places.zip t.flat).filter fun q => !decide (q.2.f < 0)).map fun q => (pl ++ q.1, q.2) := by
  induction t using Tm.indp with
  | h t ih =>
    intro pl
    rw [sy_eq, Tm.places_eq, Tm.flat_eq, List.zip_cons_cons, List.filter_cons]
    by_cases hf : t.f < 0
    · rw [if_pos hf]
      simp only [decide_eq_true hf, Bool.not_true]
      rw [if_neg (by simp), Tm.ps_of_var hf]
      rfl
    · rw [if_neg hf]
      simp only [decide_eq_false hf, Bool.not_false]
      rw [if_pos trivial, List.map_cons, List.append_nil, Tm.ps_of_sym (by omega)]
      congr 1
      rw [Tm.ps_of_sym (t := t) (by omega)] at ih
      have key : ∀ (l : List Tm) (b : Nat), (∀ s ∈ l, ∀ pl, sy s pl = ((s.places.zip s.flat).filter fun q => !decide (q.2.f < 0)).map fun q => (pl ++ q.1, q.2)) → syL l b pl = (((Tm.placesL l b).zip (l.flatMap Tm.flat)).filter fun q => !decide (q.2.f < 0)).map fun q => (pl ++ q.1, q.2) := fun l => by
        induction l with
        | nil => intro b _; rfl
        | cons s l ihl =>
          intro b hs
          rw [syL_cons, placesL_cons, List.flatMap_cons, List.zip_append (by rw [List.length_map, Tm.places_len]; rfl), List.filter_append, List.map_append, ihl (b + 1) fun s hs' => hs s (List.mem_cons_of_mem _ hs'), hs s (by simp)]
          congr 1
          rw [List.zip_map_left, List.filter_map, List.map_map]
          refine List.map_congr_left fun q hq => ?_
          show _ = (pl ++ ((b : Int) :: q.1), q.2)
          rw [List.append_assoc]; rfl
      exact key t.l 0 ih
theorem ld_stay {σ : Int → Tm} {a b : Tm} (h : leadB a b = false) : leadB (repT σ a) (repT σ b) = false := by
  unfold leadB at h ⊢
  have h := of_decide_eq_false h
  rw [kb_rep σ fun e => h (.inr e)]
  exact decide_eq_false h
theorem rep_same {σ : Int → Tm} {a b : Tm} (h : a.strip = b.strip) : repT σ a = repT σ b := by rw [← rep_strip, h, rep_strip]
theorem rep_ls16 (σ : Int → Tm) (l : Lt) : Lt.rep σ l.strip = Lt.rep σ l := by
  unfold Lt.rep
  show (⟨l.neg, repT σ l.a.strip, repT σ l.b.strip⟩ : Lt) = _
  rw [rep_strip, rep_strip]
theorem rep_lsts (σ : Int → Tm) (c : List Lt) : (c.map Lt.strip).map (Lt.rep σ) = c.map (Lt.rep σ) := by
  rw [List.map_map]
  exact List.map_congr_left fun l _ => rep_ls16 σ l
theorem doc_one {free : Bool} {c d : List Lt} {i p j q k : Nat} {x y : Lt} (hx : c[i]? = some x) (hy : d[j]? = some y) (hs : (sdT x p).ten) (hu : (sdT y q).ten) : (((sdT y q).places.zip (sdT y q).flat)[k]?.bind fun z => if z.2.f < 0 then none else folC (ldM free) c d ⟨⟨(i : Int), sdT x p, sdT x (1 - p)⟩, ⟨(j : Int), sdT y q, sdT y (1 - q)⟩, z.1, z.2⟩).map (List.map Lt.strip) = (sdk free c d i p j q k).map (List.map Lt.strip) := by
  unfold sdk
  rw [hx, hy]
  simp only
  cases he : (sdT y q).flat[k]? with
  | none =>
    have : ((sdT y q).places.zip (sdT y q).flat)[k]? = none := by
      rw [List.getElem?_eq_none_iff] at he ⊢
      rw [List.length_zip]; omega
    rw [this]; rfl
  | some e =>
    have hkl : k < (sdT y q).flat.length := by
      rcases Nat.lt_or_ge k (sdT y q).flat.length with h | h
      · exact h
      · rw [List.getElem?_eq_none h] at he; cases he
    have hkp : k < (sdT y q).size := hkl
    obtain ⟨pl, hpl⟩ : ∃ pl, (sdT y q).places[k]? = some pl := ⟨(sdT y q).places[k]'(by rw [Tm.places_len]; exact hkp), List.getElem?_eq_getElem _⟩
    have hz : ((sdT y q).places.zip (sdT y q).flat)[k]? = some (pl, e) := by rw [List.getElem?_zip_eq_some]; exact ⟨hpl, he⟩
    have het := flat_ten hu (List.mem_of_getElem? he)
    rw [hz, Option.bind_some]
    simp only
    by_cases hf : e.f < 0
    · rw [if_pos hf, if_neg fun h => h.2.1 hf]
    rw [if_neg hf]
    unfold folC
    simp only
    have hcond : ((mgT (sdT x p) e).2 = true ∧ ldM free (repT (mgS (sdT x p) e) (sdT x p)) (repT (mgS (sdT x p) e) (sdT x (1 - p))) = true ∧ ldM free (repT (mgS (sdT x p) e) (sdT y q)) (repT (mgS (sdT x p) e) (sdT y (1 - q))) = true) ↔ ((mgT (sdT x p) e).2 = true ∧ ¬ e.f < 0 ∧ (free = true ∨ (leadB (repT (mgS (sdT x p) e) (sdT x p)) (repT (mgS (sdT x p) e) (sdT x (1 - p))) = true ∧ leadB (repT (mgS (sdT x p) e) (sdT y q)) (repT (mgS (sdT x p) e) (sdT y (1 - q))) = true))) := by
      unfold ldM
      cases free with
      | true => simp [hf]
      | false => simp [hf]
    by_cases hc : (mgT (sdT x p) e).2 = true ∧ ¬ e.f < 0 ∧ (free = true ∨ (leadB (repT (mgS (sdT x p) e) (sdT x p)) (repT (mgS (sdT x p) e) (sdT x (1 - p))) = true ∧ leadB (repT (mgS (sdT x p) e) (sdT y q)) (repT (mgS (sdT x p) e) (sdT y (1 - q))) = true))
    · rw [if_pos hc, if_pos (hcond.2 hc), Option.map_some, Option.map_some, doc_cl hs het]
      congr 2
      unfold joinM
      simp only
      have hneg : negAt d (j : Int) = y.neg := by unfold negAt; rw [Int.toNat_natCast, hy]
      rw [Int.toNat_natCast, Int.toNat_natCast, hneg, List.map_append, List.map_append, List.map_append, List.map_append, rep_lsts, rep_lsts, List.append_assoc]
      congr 2
      obtain ⟨_, h2⟩ := rput_says (sdT x (1 - p)) 60 (sdT y q) (k : Int) (by have := hu.2; omega) (by omega)
      obtain ⟨_, p', z, h3, h4, h5⟩ := h2 (by omega)
      rw [Int.toNat_natCast, hpl] at h3
      have h3 := Option.some.inj h3
      subst h3
      rw [h4, Option.getD_some]
      show [(⟨y.neg, repT _ z, _⟩ : Lt)] = [(⟨y.neg, repT _ _, _⟩ : Lt)]
      rw [rep_same h5]
    · rw [if_neg hc, if_neg fun h => hc (hcond.1 h)]
theorem doc_side {free : Bool} {c d : List Lt} {i p j q : Nat} {x y : Lt} (hx : c[i]? = some x) (hy : d[j]? = some y) (hs : (sdT x p).ten) (hu : (sdT y q).ten) : stC (((sy (sdT y q) []).map fun z => (⟨⟨(i : Int), sdT x p, sdT x (1 - p)⟩, ⟨(j : Int), sdT y q, sdT y (1 - q)⟩, z.1, z.2⟩ : Mt)).filterMap (folC (ldM free) c d)) = stC (sdK free c d i p j q (sdT y q).size) := by
  have e : ((sy (sdT y q) []).map fun z => (⟨⟨(i : Int), sdT x p, sdT x (1 - p)⟩, ⟨(j : Int), sdT y q, sdT y (1 - q)⟩, z.1, z.2⟩ : Mt)).filterMap (folC (ldM free) c d) = ((sdT y q).places.zip (sdT y q).flat).filterMap fun z => if z.2.f < 0 then none else folC (ldM free) c d ⟨⟨(i : Int), sdT x p, sdT x (1 - p)⟩, ⟨(j : Int), sdT y q, sdT y (1 - q)⟩, z.1, z.2⟩ := by
    rw [sy_zip, List.map_map, List.filterMap_map]
    generalize (sdT y q).places.zip (sdT y q).flat = L
    induction L with
    | nil => rfl
    | cons z L ih =>
      rw [List.filter_cons]
      by_cases h : z.2.f < 0
      · rw [if_neg (by simp [h]), ih, List.filterMap_cons, if_pos h]
      · rw [if_pos (by simp [h]), List.filterMap_cons, ih, List.filterMap_cons, if_neg h]
        rfl
  rw [e, fm_range]
  have hl : ((sdT y q).places.zip (sdT y q).flat).length = (sdT y q).size := by
    rw [List.length_zip, Tm.places_len]
    have : (sdT y q).flat.length = (sdT y q).size := rfl
    omega
  rw [hl]
  exact stC_fm fun k _ => doc_one hx hy hs hu
theorem sdk_none {c d : List Lt} {i p j q : Nat} {x y : Lt} (hx : c[i]? = some x) (hy : d[j]? = some y) (h : leadB (sdT x p) (sdT x (1 - p)) = false ∨ leadB (sdT y q) (sdT y (1 - q)) = false) (k : Nat) : sdk false c d i p j q k = none := by
  unfold sdk
  rw [hx, hy]
  simp only
  split
  · rw [if_neg]
    rintro ⟨_, _, h1 | ⟨h1, h2⟩⟩
    · cases h1
    · rcases h with h | h
      · rw [ld_stay h] at h1; cases h1
      · rw [ld_stay h] at h2; cases h2
  · rfl
theorem sdK_nil {c d : List Lt} {i p j q : Nat} {x y : Lt} (hx : c[i]? = some x) (hy : d[j]? = some y) (h : leadB (sdT x p) (sdT x (1 - p)) = false ∨ leadB (sdT y q) (sdT y (1 - q)) = false) (K : Nat) : sdK false c d i p j q K = [] := by
  unfold sdK
  rw [List.filterMap_eq_nil_iff]
  exact fun k _ => sdk_none hx hy h k
theorem ld_free {free : Bool} {a b : Tm} (h : ldM free a b = false) : free = false ∧ leadB a b = false := by
  unfold ldM at h
  cases free with
  | true => cases h
  | false => exact ⟨rfl, h⟩
theorem wys_two {β : Type} (ld : Tm → Tm → Bool) {c : List Lt} {i : Nat} {x : Lt} (hx : c[i]? = some x) (h : Wy → List β) : (wysN ld c (i : Int)).flatMap h = (if ld (sdT x 0) (sdT x (1 - 0)) = true then h ⟨(i : Int), sdT x 0, sdT x (1 - 0)⟩ else []) ++ (if ld (sdT x 1) (sdT x (1 - 1)) = true then h ⟨(i : Int), sdT x 1, sdT x (1 - 1)⟩ else []) := by
  unfold wysN
  rw [Int.toNat_natCast, hx]
  show (([⟨(i : Int), x.a, x.b⟩, ⟨(i : Int), x.b, x.a⟩] : List Wy).filter fun w => ld w.a w.b).flatMap h = (if ld x.a x.b = true then h ⟨(i : Int), x.a, x.b⟩ else []) ++ (if ld x.b x.a = true then h ⟨(i : Int), x.b, x.a⟩ else [])
  rw [List.filter_cons, List.filter_cons, List.filter_nil]
  cases h1 : ld x.a x.b <;> cases h2 : ld x.b x.a <;> simp
theorem wys_flat {β : Type} (free : Bool) (c : List Lt) (h : Wy → List β) : (wysL (ldM free) c (lkM free c)).flatMap h = (List.range c.length).flatMap fun i : Nat => if (decide ((i : Int) ∈ lokL c) || free) = true then (wysN (ldM free) c (i : Int)).flatMap h else [] := by
  unfold wysL
  rw [List.flatMap_assoc, ← lk_flat free c fun i => (wysN (ldM free) c (i : Int)).flatMap h]
  refine flat_congr fun z hz => ?_
  rw [Int.toNat_of_nonneg (lk_at free c z hz).1]
theorem doc_tgt {free : Bool} {c d : List Lt} {i p : Nat} {x : Lt} (hx : c[i]? = some x) (hs : (sdT x p).ten) (hd : ∀ l ∈ d, l.ten) : stC ((wysL (ldM free) d (lkM free d)).flatMap fun w => (mtI ⟨(i : Int), sdT x p, sdT x (1 - p)⟩ w).filterMap (folC (ldM free) c d)) = stC (sdM free c d i p (2 * d.length)) := by
  rw [wys_flat]
  unfold sdM
  rw [range_two]
  refine stC_flm fun j hj => ?_
  have hjl : j < d.length := List.mem_range.1 hj
  obtain ⟨y, hy⟩ : ∃ y, d[j]? = some y := ⟨d[j], List.getElem?_eq_getElem hjl⟩
  have hyt := hd y (List.mem_of_getElem? hy)
  have e0 : sdm free c d i p (2 * j) = if (decide ((j : Int) ∈ lokL d) || free) = true then sdK free c d i p j 0 (sdT y 0).size else [] := by
    unfold sdm
    rw [show 2 * j / 2 = j by omega, show 2 * j % 2 = 0 by omega, hy]
  have e1 : sdm free c d i p (2 * j + 1) = if (decide ((j : Int) ∈ lokL d) || free) = true then sdK free c d i p j 1 (sdT y 1).size else [] := by
    unfold sdm
    rw [show (2 * j + 1) / 2 = j by omega, show (2 * j + 1) % 2 = 1 by omega, hy]
  rw [e0, e1]
  by_cases hl : (decide ((j : Int) ∈ lokL d) || free) = true
  · rw [if_pos hl, if_pos hl, if_pos hl, wys_two _ hy, stC_app, stC_app]
    have side : ∀ q, stC (if ldM free (sdT y q) (sdT y (1 - q)) = true then (mtI ⟨(i : Int), sdT x p, sdT x (1 - p)⟩ ⟨(j : Int), sdT y q, sdT y (1 - q)⟩).filterMap (folC (ldM free) c d) else []) = stC (sdK free c d i p j q (sdT y q).size) := fun q => by
      cases h : ldM free (sdT y q) (sdT y (1 - q)) with
      | true => rw [if_pos rfl]; exact doc_side hx hy hs (sd_ten hyt q)
      | false =>
        obtain ⟨h1, h2⟩ := ld_free h
        subst h1
        rw [if_neg (by simp), sdK_nil hx hy (.inr h2)]
    rw [side 0, side 1]
  · rw [if_neg hl, if_neg hl, if_neg hl]
    rfl
theorem sup_doc {free : Bool} {c d : List Lt} (hc : ∀ l ∈ c, l.ten) (hd : ∀ l ∈ rnC c d, l.ten) : stC (supM free c d) = stC (sdN free c (rnC c d) (2 * c.length)) := by
  generalize hD : rnC c d = D at hd
  unfold supM folL mtM mtsL
  rw [hD, fm_flat, wys_flat]
  unfold sdN
  rw [range_two]
  refine stC_flm fun i hi => ?_
  have hil : i < c.length := List.mem_range.1 hi
  obtain ⟨x, hx⟩ : ∃ x, c[i]? = some x := ⟨c[i], List.getElem?_eq_getElem hil⟩
  have hxt := hc x (List.mem_of_getElem? hx)
  have e0 : sdn free c D (2 * i) = if x.neg = false ∧ (decide ((i : Int) ∈ lokL c) || free) = true then sdM free c D i 0 (2 * D.length) else [] := by
    unfold sdn
    rw [show 2 * i / 2 = i by omega, show 2 * i % 2 = 0 by omega, hx]
  have e1 : sdn free c D (2 * i + 1) = if x.neg = false ∧ (decide ((i : Int) ∈ lokL c) || free) = true then sdM free c D i 1 (2 * D.length) else [] := by
    unfold sdn
    rw [show (2 * i + 1) / 2 = i by omega, show (2 * i + 1) % 2 = 1 by omega, hx]
  rw [e0, e1]
  by_cases hl : (decide ((i : Int) ∈ lokL c) || free) = true
  · rw [if_pos hl, wys_two _ hx, stC_app, stC_app]
    have hneg : negAt c (i : Int) = x.neg := by unfold negAt; rw [Int.toNat_natCast, hx]
    have side : ∀ p, stC (if ldM free (sdT x p) (sdT x (1 - p)) = true then (mtN (negAt c) (wysL (ldM free) D (lkM free D)) ⟨(i : Int), sdT x p, sdT x (1 - p)⟩).filterMap (folC (ldM free) c D) else []) = stC (if x.neg = false ∧ (decide ((i : Int) ∈ lokL c) || free) = true then sdM free c D i p (2 * D.length) else []) := fun p => by
      have hmt : mtN (negAt c) (wysL (ldM free) D (lkM free D)) ⟨(i : Int), sdT x p, sdT x (1 - p)⟩ = if x.neg = true then [] else mtF (wysL (ldM free) D (lkM free D)) ⟨(i : Int), sdT x p, sdT x (1 - p)⟩ := by rw [← hneg]; rfl
      rw [hmt]
      cases hn : x.neg with
      | true =>
        rw [if_pos (show true = true from rfl), if_neg (show ¬ (true = false ∧ _) by rintro ⟨h, _⟩; cases h)]
        split <;> rfl
      | false =>
        rw [if_neg (show ¬ (false = true) by simp), if_pos (show false = false ∧ _ from ⟨rfl, hl⟩)]
        cases h : ldM free (sdT x p) (sdT x (1 - p)) with
        | true =>
          rw [if_pos rfl]
          unfold mtF
          rw [fm_flat]
          exact doc_tgt hx (sd_ten hxt p) hd
        | false =>
          obtain ⟨h1, h2⟩ := ld_free h
          subst h1
          rw [if_neg (by simp)]
          have : sdM false c D i p (2 * D.length) = [] := by
            unfold sdM
            rw [List.flatMap_eq_nil_iff]
            intro m hm
            unfold sdm
            split
            · rename_i y hy
              rw [sdK_nil hx hy (.inl h2)]
              split <;> rfl
            · rfl
          rw [this]
    rw [side 0, side 1]
  · rw [if_neg hl, if_neg (fun h => hl h.2), if_neg (fun h => hl h.2)]
    rfl
end Go.Proofs.YteegmcfobgpemaaGreat
namespace Go.Proofs.YteegmcfobgpemaaGreat
open Go.RowKit
set_option linter.unusedVariables false
set_option linter.unusedSimpArgs false
theorem info_cls : (Tryz.prog.info? 26).map (fun i => (i.zero, i.size, i.bytes)) = some (some (.slice none 0 0), 1, 24) := by kernel_rfl

set_option maxRecDepth 100000 in
set_option maxHeartbeats 400000 in
theorem growC_any (n : Nat) (hn : n ≤ 2199023255552) (w : World) :
    Calls Tryz.prog 69 #[.slice none 0 0, .int .i64 (n : Int)] w fun e w' => ∃ v, e = .returned v ∧ w'.ownsRow w.heap.size 26 1 v 0 [] ∧ Below w.heap.size w w' := by
  obtain ⟨i, hi1, hi2, hi3, hi4⟩ := info_parts info_cls
  rcases Nat.eq_zero_or_pos n with rfl | h0
  · go_enter Tryz.func69, Tryz.ntmps69
    go_wp2
    go_ret
    exact ⟨_, rfl, World.ownsRow_nil _ _ _ _, bW _⟩
  · have hr := Lib.run_append_nil_zeros (P := Tryz.prog) w 32 3 32 26 i (.slice none 0 0) .i64 .i64 Tryz.underlying32 Tryz.underlying3 hi1 hi2 n h0 (by rw [hi3]; omega) (by omega) (by rw [hi4]; omega)
    go_enter Tryz.func69, Tryz.ntmps69
    go_wp2_with (at_builtin; refine Lib.wpList_append_run _ rfl _ _ _ _ rfl _ _ rfl rfl _ _ hr ?_)
    go_wp2
    go_ret
    refine ⟨_, rfl, World.ownsRow_made w.drew _ _ (Nat.le_refl _) (grownCap_le_maxLen _ _ _ _ (by unfold maxLen; omega)) ?_, (Below.refl _ _).drew.alloc (Nat.le_refl _) _⟩
    have := grownCap_ge w n 0 26
    simp [size_zeroCells]
    try omega

set_option maxRecDepth 100000 in
set_option maxHeartbeats 800000 in
theorem concatC_any (a : Option Addr) (m c : Nat) (A : Nat → Option Addr) (L C : Nat → Nat) (R : Nat → List Value) (w : World) (hr : Rw 1 w a m A L C R) (hm : m ≤ 1000) (hs : lenJ L m ≤ 1099511627776) :
    Calls Tryz.prog 40 #[.slice a m c] w fun e w' => ∃ v, e = .returned v ∧ w'.ownsRow w.heap.size 26 1 v (lenJ L m) (joinV R m) ∧ Below w.heap.size w w' := by
  obtain ⟨J, hJ⟩ : ∃ J : Nat → List Value, J = joinV R := ⟨_, rfl⟩
  obtain ⟨N, hN⟩ : ∃ N : Nat → Nat, N = lenJ L := ⟨_, rfl⟩
  have HS : Hid (∀ k, J (k + 1) = J k ++ R k) := fun k => by rw [hJ]; rfl
  have HSN : Hid (∀ k, N (k + 1) = N k + L k) := fun k => by rw [hN]; rfl
  have HJ0 : Hid (J 0 = [] ∧ N 0 = 0) := by rw [hJ, hN]; exact ⟨rfl, rfl⟩
  have HL : Hid (∀ k, k ≤ m → N k ≤ 1099511627776) := fun k hk => by rw [hN]; exact Nat.le_trans (lenJ_le L hk) hs
  have HR : Hid (∀ B w', Below B w w' → w.heap.size ≤ B → Rw 1 w' a m A L C R) := fun B w' hb hB => hr.below hb hB
  have HR0 : Hid (Rw 1 w a m A L C R) := hr
  rw [← hJ, ← hN]
  clear hJ hs hr hN
  go_enter Tryz.func40, Tryz.ntmps40
  go_wp2
  go_loop [3, 11] (fun s i => ∃ k x : Nat, i = .int .i64 (k : Int) ∧ k ≤ m ∧ s = .int .i64 (x : Int) ∧ x = N k) (fun s i => m - (intOf i).toNat)
  case atStart => exact ⟨0, 0, rfl, by omega, rfl, by rw [HJ0.out.2]⟩
  case round =>
    obtain ⟨k, x, rfl, hk, rfl, hx⟩ := hrel
    have HX : Hid (x = N k) := hx
    have hx1 : x ≤ 1099511627776 := by rw [hx]; exact HL.out k hk
    clear hx
    by_cases hlt : k < m
    · rcases HR0.out.2 with h0 | ⟨b, off, rfl, hb, hc⟩
      · omega
      have hck := hc k hlt
      have HXX : Hid (x + L k = N (k + 1)) := by show x + L k = _; rw [HSN.out k, ← HX.out]
      have hx2 : x + L k ≤ 1099511627776 := by rw [HXX.out]; exact HL.out (k + 1) hlt
      obtain ⟨Lk, hLk⟩ : ∃ y, L k = y := ⟨_, rfl⟩
      obtain ⟨Ak, hAk⟩ : ∃ y, A k = y := ⟨_, rfl⟩
      obtain ⟨Ck, hCk⟩ : ∃ y, C k = y := ⟨_, rfl⟩
      rw [hLk] at HXX hx2
      rw [hLk, hAk, hCk] at hck
      clear hLk hAk hCk hc
      go_wp2
      refine ⟨⟨k + 1, x + Lk, by go_num, by omega, by go_num, HXX.out⟩, ?_⟩
      simp [intOf]; omega
    · obtain rfl : k = m := by omega
      go_wp2_with fail
      refine (growC_any x (by omega) w).mono ?_
      rintro e w1 ⟨v1, rfl, ho1, hb1⟩
      go_wp2
      go_loopw [6, 27] (fun u i wr => ∃ j : Nat, i = .int .i64 (j : Int) ∧ j ≤ k ∧ wr.ownsRow w.heap.size 26 1 u (N j) (J j) ∧ Below w.heap.size w wr) (fun _ i _ => k - (intOf i).toNat)
      case atStart => exact ⟨0, rfl, by omega, by rw [HJ0.out.1, HJ0.out.2]; exact ho1, hb1⟩
      case round =>
        obtain ⟨j, rfl, hj, hoj, hbj⟩ := hrel
        by_cases hlt : j < k
        · obtain ⟨hn1, hbs, hRl, hone⟩ := (HR.out _ _ hbj (Nat.le_refl _)).1 j hlt
          rcases (HR.out _ _ hbj (Nat.le_refl _)).2 with h0 | ⟨b, off, rfl, hb, hc⟩
          · omega
          have hck := hc j hlt
          have hJl : N j + L j ≤ 1099511627776 := by
            have := HL.out (j + 1) hlt
            rw [HSN.out j] at this
            exact this
          have HSj' : Hid (J (j + 1) = J j ++ R j ∧ N (j + 1) = N j + L j) := ⟨HS.out j, HSN.out j⟩
          obtain ⟨Lk, hLk⟩ : ∃ y, L j = y := ⟨_, rfl⟩
          obtain ⟨Ak, hAk⟩ : ∃ y, A j = y := ⟨_, rfl⟩
          obtain ⟨Ck, hCk⟩ : ∃ y, C j = y := ⟨_, rfl⟩
          obtain ⟨Rk, hRk⟩ : ∃ y, R j = y := ⟨_, rfl⟩
          obtain ⟨Jk, hJk⟩ : ∃ y, J j = y := ⟨_, rfl⟩
          obtain ⟨Nk, hNk⟩ : ∃ y, N j = y := ⟨_, rfl⟩
          rw [hAk, hRk] at hbs
          rw [hRk] at hone
          rw [hLk, hRk] at hRl
          rw [hLk, hAk, hCk] at hck
          rw [hLk, hAk, hCk] at hn1
          rw [hJk, hRk, hNk, hLk] at HSj'
          rw [hJk, hNk] at hoj
          rw [hNk, hLk] at hJl
          have hsz := hbj.size
          have HRl := hid hRl
          clear hLk hAk hCk hRk hJk hNk hc hRl
          go_wp2_with (at_builtin; refine wpList_append_cells _ rfl _ _ 32 rfl w.heap.size 26 (.slice none 0 0) 1 24 Tryz.underlying32 info_cls rfl (by decide) _ Nk Jk rfl hoj Ak Lk Ck Rk rfl hn1 hbs HRl.out hone ?d1 ?d2 hsz ?_)
          case d1 => unfold maxLen; omega
          case d2 => omega
          intro v2 w2 ho2 hg2
          have hb2 := hbj.trans (below_grown hoj hg2 hsz)
          clear hg2
          go_wp2
          go_roundw
          case rel => exact ⟨j + 1, by go_num, hlt, by rw [HSj'.out.1, HSj'.out.2]; exact ho2, hb2⟩
          case measure => simp [intOf]; omega
        · obtain rfl : j = k := by omega
          go_wp2
          go_ret
          exact ⟨_, rfl, hoj, hbj⟩

set_option maxRecDepth 100000
theorem sq_rowsC {U : Nat → Nat → Prop} {w : World} : ∀ {l : List (List (List Lt))} {ys : List Value}, Sq ((l.map fun x => CV.lst (x.map clC)).map fun c => Rep U w c) ys →
    ∃ (A : Nat → Option Addr) (L C : Nat → Nat) (R : Nat → List Value), ∀ r x, l[r]? = some x → ys[r]? = some (.slice (A r) (L r) (C r)) ∧ L r = x.length ∧ (A r = none → L r = 0 ∧ C r = 0) ∧ At U w (A r) (R r) ∧ Sq ((x.map clC).map fun c => Rep U w c) (R r)
  | [], ys, h => ⟨fun _ => none, fun _ => 0, fun _ => 0, fun _ => [], fun r x hx => by simp at hx⟩
  | x :: l, ys, h => by
    obtain ⟨y1, y2, rfl, h1, h2⟩ := h
    obtain ⟨a, n, c, rfl, g1, g2, g3, g4, zs, g5, g6⟩ := rep_lst.1 h1
    obtain ⟨A, L, C, R, hR⟩ := sq_rowsC (l := l) h2
    refine ⟨fun r => match r with | 0 => a | r + 1 => A r, fun r => match r with | 0 => n | r + 1 => L r, fun r => match r with | 0 => c | r + 1 => C r, fun r => match r with | 0 => zs | r + 1 => R r, fun r y hy => ?_⟩
    cases r with
    | zero =>
      simp at hy
      subst hy
      exact ⟨rfl, by rw [g1, List.length_map], g4, g5, g6⟩
    | succ r =>
      simp at hy
      exact hR r y hy
theorem sq_joinedC {U : Nat → Nat → Prop} {w : World} {l : List (List (List Lt))} {L : Nat → Nat} {R : Nat → List Value} (h : ∀ r x, l[r]? = some x → L r = x.length ∧ Sq ((x.map clC).map fun c => Rep U w c) (R r)) :
    ∀ k, k ≤ l.length → Sq (((l.take k).flatten.map clC).map fun c => Rep U w c) (joinV R k) ∧ lenJ L k = (l.take k).flatten.length := by
  intro k
  induction k with
  | zero => intro _; exact ⟨rfl, rfl⟩
  | succ k ih =>
    intro hk
    obtain ⟨h1, h2⟩ := ih (by omega)
    obtain ⟨x, hx⟩ : ∃ x, l[k]? = some x := ⟨l[k], List.getElem?_eq_getElem (by omega)⟩
    obtain ⟨h3, h4⟩ := h k x hx
    rw [List.take_add_one, hx, List.flatten_append, joinV, lenJ, List.map_append, List.map_append, List.length_append, h2, h3]
    simp only [Option.toList_some, List.flatten_cons, List.flatten_nil, List.append_nil]
    exact ⟨sq_append h1 h4, trivial⟩
theorem concatC_abs (W : World) (l : List (List (List Lt))) (hl : l.length ≤ 1000) (hs : l.flatten.length ≤ 1099511627776) : AFun Tryz.prog W 40 [.lst (l.map fun x => CV.lst (x.map clC))] (.val (.lst (l.flatten.map clC))) := by
  refine ⟨ent_of Tryz.func40 rfl rfl, .inl rfl, rfl, ?_⟩
  rintro U w vs hW ⟨u1, us1, rfl, h1, h3⟩
  have h3 : us1 = [] := h3
  subst h3
  obtain ⟨a, n, c, rfl, g1, g2, g3, g4, ys, g5, g6⟩ := vrep_lst.1 h1
  rw [List.length_map] at g1
  subst g1
  obtain ⟨A, L, C, R, hR⟩ := sq_rowsC g6
  obtain ⟨hj, hn⟩ := sq_joinedC (fun r x hx => ⟨(hR r x hx).2.1, (hR r x hx).2.2.2.2⟩) l.length (Nat.le_refl _)
  rw [List.take_length] at hj hn
  have hrw : Rw 1 w a l.length A L C R := by
    refine ⟨fun r hr => ?_, ?_⟩
    · obtain ⟨k1, k2, k3, k4, k5⟩ := hR r _ (List.getElem?_eq_getElem hr)
      refine ⟨k3, cs_of_at k4, ?_, rep_one_of k5⟩
      rw [sq_len (n := fun _ => 1) (fun c hc xs hx => by
        obtain ⟨t, ht, rfl⟩ := List.mem_map.1 hc
        rw [hx.len]
        exact clC_size [t] _ (by simp)) k5, k2]
      rw [List.map_const', List.sum_replicate_nat]
      simp
    · by_cases hz : l.length = 0
      · exact .inl hz
      · refine .inr ?_
        have hc := cs_of_at g5
        have hy0 := (hR 0 _ (List.getElem?_eq_getElem (by omega : 0 < l.length))).1
        rcases hc with hc | ⟨b, off, ha, hb, hc⟩
        · rw [hc] at hy0; simp at hy0
        · refine ⟨b, off, ha, hb, fun r hr => ?_⟩
          have hy := (hR r _ (List.getElem?_eq_getElem hr)).1
          have hlt : r < ys.length := by
            rcases Nat.lt_or_ge r ys.length with h | h
            · exact h
            · rw [List.getElem?_eq_none h] at hy; cases hy
          rw [hc r hlt, hy]
  refine (concatC_any a l.length c A L C R w hrw hl (by rw [hn]; exact hs)).mono ?_
  rintro e w' ⟨v, rfl, ho, hb⟩
  obtain ⟨a', c', rfl, k1, k2, k3, k4⟩ := ownsRow_at ho
  refine ⟨_, rfl, vrep_lst.2 ⟨a', _, c', rfl, by rw [hn, List.length_map], k1, k2, k3, _, k4.keep fun b o v h1 h2 => ⟨.inr h1, h2⟩, hj.keep fun b o v h1 h2 => ⟨.inl h1, ?_⟩⟩, hb⟩
  rw [hb.cell (World.block_lt_of_cell? w _ h2)]
  exact h2
end Go.Proofs.YteegmcfobgpemaaGreat
