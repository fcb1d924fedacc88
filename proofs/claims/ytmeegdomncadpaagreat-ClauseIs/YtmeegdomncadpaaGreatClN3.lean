/-
  The law ClauseIs.
-/
import Derived.Test.YtmeegdomncadpaaGreatMg8
import Derived.Test.YtmeegdomncadpaaGreatAbShp
namespace Go.Proofs.YtmeegdomncadpaaGreat
open Go.RowKit
set_option linter.unusedVariables false
set_option linter.unusedSimpArgs false
set_option maxRecDepth 100000

theorem foldl_max_top (l : List Int) : ∀ m : Int, l.foldl max m = max m (l.foldl max (-1)) ∨ l.foldl max m = max m (l.foldl max m) := fun m => .inr (by have := foldl_max_ge l m; omega)
theorem foldl_max_mem {l : List Int} {v m : Int} (h : v ∈ l) : v ≤ l.foldl max m := by
  induction l generalizing m with
  | nil => cases h
  | cons x l ih =>
    rw [List.foldl_cons]
    rcases List.mem_cons.1 h with rfl | h
    · have := foldl_max_ge l (max m v); omega
    · exact ih h
theorem foldl_max_or (l : List Int) : ∀ m : Int, l.foldl max m = m ∨ l.foldl max m ∈ l := by
  induction l with
  | nil => intro m; exact .inl rfl
  | cons x l ih =>
    intro m
    rw [List.foldl_cons]
    rcases ih (max m x) with e | e
    · rcases Int.le_total x m with h | h
      · left; rw [e]; omega
      · right; rw [e, show max m x = x by omega]; simp
    · exact .inr (List.mem_cons_of_mem _ e)
theorem foldl_max_set {l m : List Int} (hl : ∀ v ∈ l, 0 ≤ v) (h : ∀ v, v ∈ l ↔ v ∈ m) : l.foldl max (-1) = m.foldl max (-1) := by
  have key : ∀ {l m : List Int}, (∀ v ∈ l, 0 ≤ v) → (∀ v, v ∈ l → v ∈ m) → l.foldl max (-1) ≤ m.foldl max (-1) := fun {l m} hl h => by
    rcases foldl_max_or l (-1) with e | e
    · rw [e]; exact foldl_max_ge m (-1)
    · exact foldl_max_mem (h _ e)
  have h1 := key hl fun v hv => (h v).1 hv
  have h2 := key (l := m) (m := l) (fun v hv => hl v ((h v).2 hv)) fun v hv => (h v).2 hv
  omega
theorem top_doc (c : List Lt) : topC c = topD (sidT c).nv := by
  have e : topC c = (sidT c).vs.foldl max (-1) := by
    rw [sid_vs]
    unfold topC
    have : ∀ (c : List Lt) (m : Int), -1 ≤ m → c.foldl (fun m l => max (max m (topF l.a.flat)) (topF l.b.flat)) m = (c.flatMap fun l => l.a.vs ++ l.b.vs).foldl max m := fun c => by
      induction c with
      | nil => intro m _; rfl
      | cons x c ih =>
        intro m hm
        have hv : ∀ (t : Tm) (m : Int), -1 ≤ m → max m (topF t.flat) = t.vs.foldl max m := fun t m hm => by
          rw [topF_vs]
          show max m (t.vs.foldl max (-1)) = _
          generalize t.vs = l
          induction l generalizing m with
          | nil => simp only [List.foldl_nil]; omega
          | cons v l ih2 =>
            rw [List.foldl_cons, List.foldl_cons]
            have i1 := ih2 (max m v) (by omega)
            have i2 := ih2 (max (-1) v) (by omega)
            rw [← i1, ← i2]
            omega
        rw [List.foldl_cons, List.flatMap_cons, List.foldl_append, List.foldl_append, hv x.a m hm]
        have hm2 : -1 ≤ x.a.vs.foldl max m := by have := foldl_max_ge x.a.vs m; omega
        rw [hv x.b _ hm2]
        exact ih _ (by have := foldl_max_ge x.b.vs (x.a.vs.foldl max m); omega)
    exact this c (-1) (by omega)
  rw [e]
  unfold topD
  exact foldl_max_set (vs_nonneg _) fun v => (mem_nub _ v).symm
theorem ren_doc {c : List Lt} (h : ∀ l ∈ c, l.a.sm ∧ l.b.sm) {k : Int} (hk : 0 ≤ k ∧ k ≤ 255) : (c.map (Lt.rep fun v => varT (upV k v))).map Lt.strip = (c.map (appL (renB c k))).map Lt.strip := by
  rw [List.map_map, List.map_map]
  refine List.map_congr_left fun l hl => ?_
  show (Lt.rep _ l).strip = (appL _ l).strip
  rw [appL_strip]
  have key : ∀ t : Tm, (∀ v ∈ t.vs, v ∈ (sidT c).nv) → repT (fun v => varT (upV k v)) t = repT (imgB (renB c k)) t := fun t ht => by
    refine rep_congr fun v hv => ?_
    have hv := ht v hv
    unfold renB
    rw [img_zip (by rw [List.length_map]) hv, getD_of (v := v + k) (by rw [List.getElem?_map, ixOf_at hv]; rfl)]
    have := sm_nv h v hv
    unfold upV
    congr 1
    omega
  unfold Lt.rep
  rw [key l.a fun v hv => mem_sid_vs hl (.inl hv), key l.b fun v hv => mem_sid_vs hl (.inr hv)]
theorem strip2 (c : List Lt) : (c.map Lt.strip).map Lt.strip = c.map Lt.strip := by
  rw [List.map_map]
  exact List.map_congr_left fun l _ => lt_strip2 l
theorem noth_len (c : List Lt) : (c.length : Int) - ((bareL c).length : Int) = ((c.filter nothL).length : Int) := by
  unfold bareL
  rw [List.length_map]
  have : (c.filter nothL).length + (c.filter fun l => !nothL l).length = c.length := by
    induction c with
    | nil => rfl
    | cons x c ih =>
      cases h : nothL x <;> simp [List.filter, h] <;> omega
  omega
theorem wtC_le {c : List Lt} {B : Nat} (h : ∀ l ∈ c, l.a.size ≤ B ∧ l.b.size ≤ B) : wtC c ≤ 2 * B * c.length := by
  unfold wtC
  induction c with
  | nil => exact Nat.le_refl _
  | cons x c ih =>
    rw [List.map_cons, List.sum_cons, List.length_cons, Nat.mul_add, Nat.mul_one]
    have a1 := h x (by simp)
    have a2 := ih fun s hs => h s (List.mem_cons_of_mem _ hs)
    omega
-- 
set_option maxHeartbeats 16000000 in
theorem clauseIs_abs (W : World) (c : List Lt) (s : List Bd) (y : Int) (hc : okC c) (hs : ∀ b ∈ s, b.t.rng) (hsl : s.length ≤ 9223372036854775807) (hy : 0 ≤ y ∧ y ≤ 255) : AFun Tryz.prog W 3 [.lst (c.map Lt.cv), .lst (s.map Bd.cv), .sc (.int .u8 y)] (.val (.b true)) := by
  refine afun_of (rs := [.b true]) Tryz.func3 Tryz.ntmps3 rfl rfl rfl rfl ?_
  intro w U hW
  refine aS (aR ?_)
  (refine nx (aA (gN rfl) rfl rfl rfl rfl rfl) rfl ?_)
  show AWp _ _ _ _ _ _ _
  refine aS (aS (aR ?_))
  (refine nx (a_call (gN rfl) rfl rfl rfl rfl rfl (alive11_abs w)) rfl ?_)
  (refine nx (a_not (gN rfl) rfl rfl rfl rfl rfl) rfl ?_)
  show AWp _ _ _ _ _ _ _
  refine aC rfl (fun hc => by cases hc) (fun _ => aK ?_)
  show AWp _ _ _ _ _ _ _
  have f1 := fine11_abs w c 6 12 (by decide) (by decide) (by decide) hc
  have f3 := fine7_abs w s hsl hs
  cases hF : fineC c 6 12 with
  | false =>
    rw [hF] at f1
    refine aS (aS (aR ?_))
    (refine nx (aM (gN rfl) rfl rfl rfl rfl rfl) rfl ?_)
    (refine nx (a_call (gN rfl) rfl rfl rfl rfl rfl (f1)) rfl ?_)
    (refine nx (a_not (gN rfl) rfl rfl rfl rfl rfl) rfl ?_)
    (refine nx (aM (gN rfl) rfl rfl rfl rfl rfl) rfl ?_)
    (refine ⟨_, _, _, a_off (go_off rfl rfl rfl rfl (by first | rfl | assumption | (simp; done) | (simp [*]; done))) rfl rfl rfl, rfl, ?_⟩)
    (refine ⟨_, _, _, a_off (go_off rfl rfl rfl rfl (by first | rfl | assumption | (simp; done) | (simp [*]; done))) rfl rfl rfl, rfl, ?_⟩)
    (refine ⟨_, _, _, a_off (go_off rfl rfl rfl rfl (by first | rfl | assumption | (simp; done) | (simp [*]; done))) rfl rfl rfl, rfl, ?_⟩)
    (refine ⟨_, _, _, aPt (gN rfl) rfl rfl rfl rfl rfl ?hb rfl, rfl, ?_⟩; case hb => (first | rfl | assumption | (simp; done)))
    show AWp _ _ _ _ _ _ _
    refine aC rfl (fun hc => ?_) (fun hc => by cases hc)
    refine aS (aR ?_)
    (refine nx (aA (gN rfl) rfl rfl rfl rfl rfl) rfl ?_)
    show AWp _ _ _ _ _ _ _
    exact aT (And.intro (.inr rfl) rfl)
  | true =>
  rw [hF] at f1
  cases hH : fine7B s with
  | false =>
    rw [hH] at f3
    refine aS (aS (aR ?_))
    (refine nx (aM (gN rfl) rfl rfl rfl rfl rfl) rfl ?_)
    (refine nx (a_call (gN rfl) rfl rfl rfl rfl rfl (f1)) rfl ?_)
    (refine nx (a_not (gN rfl) rfl rfl rfl rfl rfl) rfl ?_)
    (refine nx (aM (gN rfl) rfl rfl rfl rfl rfl) rfl ?_)
    (refine nx (aM (gd_on rfl rfl rfl rfl (by first | rfl | assumption | (simp; done))) rfl rfl rfl rfl rfl) rfl ?_)
    (refine nx (a_call (gd_on rfl rfl rfl rfl (by first | rfl | assumption | (simp; done))) rfl rfl rfl rfl rfl (f3)) rfl ?_)
    (refine nx (a_not (gd_on rfl rfl rfl rfl (by first | rfl | assumption | (simp; done))) rfl rfl rfl rfl rfl) rfl ?_)
    (refine ⟨_, _, _, aPf (gN rfl) rfl rfl rfl rfl rfl ?hb rfl, rfl, ?_⟩; case hb => (first | rfl | assumption | (simp; done)))
    show AWp _ _ _ _ _ _ _
    refine aC rfl (fun hc => ?_) (fun hc => by cases hc)
    refine aS (aR ?_)
    (refine nx (aA (gN rfl) rfl rfl rfl rfl rfl) rfl ?_)
    show AWp _ _ _ _ _ _ _
    exact aT (And.intro (.inr rfl) rfl)
  | true =>
  rw [hH] at f3
  refine aS (aS (aR ?_))
  (refine nx (aM (gN rfl) rfl rfl rfl rfl rfl) rfl ?_)
  (refine nx (a_call (gN rfl) rfl rfl rfl rfl rfl (f1)) rfl ?_)
  (refine nx (a_not (gN rfl) rfl rfl rfl rfl rfl) rfl ?_)
  (refine nx (aM (gN rfl) rfl rfl rfl rfl rfl) rfl ?_)
  (refine nx (aM (gd_on rfl rfl rfl rfl (by first | rfl | assumption | (simp; done))) rfl rfl rfl rfl rfl) rfl ?_)
  (refine nx (a_call (gd_on rfl rfl rfl rfl (by first | rfl | assumption | (simp; done))) rfl rfl rfl rfl rfl (f3)) rfl ?_)
  (refine nx (a_not (gd_on rfl rfl rfl rfl (by first | rfl | assumption | (simp; done))) rfl rfl rfl rfl rfl) rfl ?_)
  (refine ⟨_, _, _, aPf (gN rfl) rfl rfl rfl rfl rfl ?hb rfl, rfl, ?_⟩; case hb => (first | rfl | assumption | (simp; done)))
  show AWp _ _ _ _ _ _ _
  refine aC rfl (fun h0 => by cases h0) (fun h0 => aK ?_)
  show AWp _ _ _ _ _ _ _
  clear f1 f3 h0
  obtain ⟨kc, sc, zc⟩ := fine_okCl (by decide) (by decide) (by decide) hF
  obtain ⟨hs8, hso, hsk⟩ := fine7_f hH
  have la := (fineC_facts (by decide) (by decide) hF).1
  have hsz := Lt.size_all c
  have hzn : ∀ l ∈ c, l.a.size ≤ 12 ∧ l.b.size ≤ 12 := fun l hl => by have := zc l hl; omega
  have hwt : wtC c ≤ 144 := by have := wtC_le hzn; omega
  refine aS (aR ?_)
  (refine nx (aM (gN rfl) rfl rfl rfl rfl rfl) rfl ?_)
  (refine nx (a_call (gN rfl) rfl rfl rfl rfl rfl (of11_abs w c (by omega) kc.ok)) rfl ?_)
  (refine nx (aA (gN rfl) rfl rfl rfl rfl rfl) rfl ?_)
  show AWp _ _ _ _ _ _ _
  refine aS (aR ?_)
  (refine nx (aA (gN rfl) rfl rfl rfl rfl rfl) rfl ?_)
  (refine nx (aA (gN rfl) rfl rfl rfl rfl rfl) rfl ?_)
  show AWp _ _ _ _ _ _ _
  refine aS (aR ?_)
  (refine nx (aA (gN rfl) rfl rfl rfl rfl rfl) rfl ?_)
  show AWp _ _ _ _ _ _ _
  refine aS (aS (aR ?_))
  (refine nx (aA (gN rfl) rfl rfl rfl rfl rfl) rfl ?_)
  show AWp _ _ _ _ _ _ _
  refine aB (awp_count c.length (fun k => [(0, .val (.lst (c.map Lt.cv))), (1, .val (.lst (s.map Bd.cv))), (2, .val (.sc (.int .u8 y))), (7, .val (.lst (c.map Lt.cv))), (8, .val (.i (wtC (c.take k) : Int))), (9, .val (.i (((c.take k).filter nothL).length : Int))), (10, .own (.lst (((c.take k).filter fun l => !nothL l).map Lt.cv)) 200075), (200075, .tok 35 5), (11, .val (.i k))])
    ((wk_nil 10 200075 35 5 rfl rfl rfl rfl rfl rfl rfl).trans (wk_sub ⟨rfl, rfl, rfl, rfl, rfl, rfl, rfl, rfl, rfl, trivial⟩)) ?_)
  intro k hk
  refine aS (aS (aR ?_))
  (refine nx (aM (gN rfl) rfl rfl rfl rfl rfl) rfl ?_)
  (refine nx (aM (gN rfl) rfl rfl rfl rfl rfl) rfl ?_)
  (refine nx (a_len (gN rfl) rfl rfl rfl rfl rfl rfl rfl) rfl ?_)
  (refine nx (a_lss (gN rfl) rfl rfl rfl rfl rfl rfl) rfl ?_)
  show AWp _ _ _ _ _ _ _
  refine aC rfl (fun hlt => ?_) (fun hlt => ?_)
  · have hkl : k < c.length := by simpa using hlt
    obtain ⟨x, hx⟩ : ∃ x, c[k]? = some x := ⟨c[k], List.getElem?_eq_getElem hkl⟩
    have hx' := Lt.map_at hx
    have hxm := List.mem_of_getElem? hx
    have hxo := kc.ok x hxm
    have hxz := hzn x hxm
    have hla : (x.a.flat.map Tm.cv).length = x.a.size := List.length_map ..
    have hlb : (x.b.flat.map Tm.cv).length = x.b.size := List.length_map ..
    have hwk : wtC (c.take (k + 1)) = wtC (c.take k) + (x.a.size + x.b.size) := by
      unfold wtC
      rw [List.take_add_one, hx, List.map_append, List.sum_append]
      simp
    have hwk0 : wtC (c.take k) ≤ 144 := by
      have h1 := wtC_le (c := c.take k) (B := 12) fun l hl => hzn l (List.mem_of_mem_take hl)
      rw [List.length_take] at h1
      omega
    have hfl : ((c.take k).filter nothL).length ≤ 6 := by
      have := List.length_filter_le nothL (c.take k)
      rw [List.length_take] at this
      omega
    have hfl2 : (((c.take k).filter fun l => !nothL l).map Lt.cv).length ≤ 6 := by
      have := List.length_filter_le (fun l => !nothL l) (c.take k)
      rw [List.length_take] at this
      rw [List.length_map]
      omega
    have hfl3 : ((c.take k).filter fun l => !nothL l).length ≤ 6 := by rw [List.length_map] at hfl2; exact hfl2
    have hszf : ∀ z ∈ ((c.take k).filter fun l => !nothL l).map Lt.cv, z.size = 5 := Lt.size_all _
    have hn1 : (c.take (k + 1)).filter nothL = if nothL x then (c.take k).filter nothL ++ [x] else (c.take k).filter nothL := by
      rw [List.take_add_one, hx, Option.toList_some, List.filter_append]
      cases h : nothL x <;> simp [List.filter, h]
    have hn2 : (c.take (k + 1)).filter (fun l => !nothL l) = if nothL x then (c.take k).filter (fun l => !nothL l) else (c.take k).filter (fun l => !nothL l) ++ [x] := by
      rw [List.take_add_one, hx, Option.toList_some, List.filter_append]
      cases h : nothL x <;> simp [List.filter, h]
    refine aK ?_
    show AWp _ _ _ _ _ _ _
    refine aS (aB (aS (aD (by kernel_rfl) (by kernel_rfl) ?_)))
    (refine nx (aM (gN rfl) rfl rfl rfl rfl rfl) rfl ?_)
    (refine nx (aM (gN rfl) rfl rfl rfl rfl rfl) rfl ?_)
    (refine nx (aM (gN rfl) rfl rfl rfl rfl rfl) rfl ?_)
    (refine nx (a_index (j := k) (gN rfl) rfl rfl rfl rfl rfl rfl rfl rfl rfl (hx') rfl (hsz)) rfl ?_)
    (refine nx (a_field_ad (gN rfl) rfl rfl rfl rfl rfl rfl rfl rfl rfl rfl rfl) rfl ?_)
    (refine nx (a_load_ad (gN rfl) rfl rfl rfl rfl rfl rfl rfl rfl rfl) rfl ?_)
    (refine nx (a_call (gN rfl) rfl rfl rfl rfl rfl (refFlat_abs w x.a hxo.1 (by omega))) rfl ?_)
    (refine nx (a_len (gN rfl) rfl rfl rfl rfl rfl rfl rfl) rfl ?_)
    (refine nx (a_add (gN rfl) rfl rfl rfl rfl rfl rfl (by first | omega | (simp only [List.length_map, List.length_append, List.length_cons, List.length_nil] <;> omega) | (simp <;> omega))) rfl ?_)
    (refine nx (aM (gN rfl) rfl rfl rfl rfl rfl) rfl ?_)
    (refine nx (aM (gN rfl) rfl rfl rfl rfl rfl) rfl ?_)
    (refine nx (a_index (j := k) (gN rfl) rfl rfl rfl rfl rfl rfl rfl rfl rfl (hx') rfl (hsz)) rfl ?_)
    (refine nx (a_field_ad (gN rfl) rfl rfl rfl rfl rfl rfl rfl rfl rfl rfl rfl) rfl ?_)
    (refine nx (a_load_ad (gN rfl) rfl rfl rfl rfl rfl rfl rfl rfl rfl) rfl ?_)
    (refine nx (a_call (gN rfl) rfl rfl rfl rfl rfl (refFlat_abs w x.b hxo.2 (by omega))) rfl ?_)
    (refine nx (a_len (gN rfl) rfl rfl rfl rfl rfl rfl rfl) rfl ?_)
    (refine nx (a_add (gN rfl) rfl rfl rfl rfl rfl rfl (by first | omega | (simp only [List.length_map, List.length_append, List.length_cons, List.length_nil] <;> omega) | (simp <;> omega))) rfl ?_)
    (refine nx (aA (gN rfl) rfl rfl rfl rfl rfl) rfl ?_)
    refine ⟨by kernel_rfl, ?_⟩
    show AWp _ _ _ _ _ _ _
    have hw8 : ((wtC (c.take k) : Int) + ((x.a.flat.map Tm.cv).length : Int)) + ((x.b.flat.map Tm.cv).length : Int) = (wtC (c.take (k + 1)) : Int) := by omega
    refine AWp.wk (wk_sub (s' := [(0, .val (.lst (c.map Lt.cv))), (1, .val (.lst (s.map Bd.cv))), (2, .val (.sc (.int .u8 y))), (7, .val (.lst (c.map Lt.cv))), (8, .val (.i (wtC (c.take (k + 1)) : Int))), (9, .val (.i (((c.take k).filter nothL).length : Int))), (10, .own (.lst (((c.take k).filter fun l => !nothL l).map Lt.cv)) 200075), (200075, .tok 35 5), (11, .val (.i k))]) ⟨rfl, rfl, rfl, rfl, by rw [← hw8]; rfl, rfl, rfl, rfl, rfl, trivial⟩) ?_
    have hsa := refSame_abs w x.a x.b hxo.1 hxo.2
    cases hN : nothL x with
    | true =>
      rw [hN, if_pos rfl] at hn1 hn2
      have hxn : x.neg = true := by unfold nothL at hN; rw [Bool.and_eq_true] at hN; exact hN.1
      have hxs : sameT x.a x.b = true := by unfold nothL at hN; rw [Bool.and_eq_true] at hN; exact hN.2
      rw [hxs] at hsa
      refine aS (aD (by kernel_rfl) (by kernel_rfl) ?_)
      (refine nx (aM (gN rfl) rfl rfl rfl rfl rfl) rfl ?_)
      (refine nx (aM (gN rfl) rfl rfl rfl rfl rfl) rfl ?_)
      (refine nx (a_index (j := k) (gN rfl) rfl rfl rfl rfl rfl rfl rfl rfl rfl (hx') rfl (hsz)) rfl ?_)
      (refine nx (a_field_ad (gN rfl) rfl rfl rfl rfl rfl rfl rfl rfl rfl rfl rfl) rfl ?_)
      (refine nx (a_load_ad (gN rfl) rfl rfl rfl rfl rfl rfl rfl rfl rfl) rfl ?_)
      (refine nx (aM (gN rfl) rfl rfl rfl rfl rfl) rfl ?_)
      (refine nx (aM (gd_on rfl rfl rfl rfl (by first | rfl | assumption | (simp; done))) rfl rfl rfl rfl rfl) rfl ?_)
      (refine nx (aM (gd_on rfl rfl rfl rfl (by first | rfl | assumption | (simp; done))) rfl rfl rfl rfl rfl) rfl ?_)
      (refine nx (a_index (j := k) (gd_on rfl rfl rfl rfl (by first | rfl | assumption | (simp; done))) rfl rfl rfl rfl rfl rfl rfl rfl rfl (hx') rfl (hsz)) rfl ?_)
      (refine nx (a_field_ad (gd_on rfl rfl rfl rfl (by first | rfl | assumption | (simp; done))) rfl rfl rfl rfl rfl rfl rfl rfl rfl rfl rfl) rfl ?_)
      (refine nx (a_load_ad (gd_on rfl rfl rfl rfl (by first | rfl | assumption | (simp; done))) rfl rfl rfl rfl rfl rfl rfl rfl rfl) rfl ?_)
      (refine nx (aM (gd_on rfl rfl rfl rfl (by first | rfl | assumption | (simp; done))) rfl rfl rfl rfl rfl) rfl ?_)
      (refine nx (aM (gd_on rfl rfl rfl rfl (by first | rfl | assumption | (simp; done))) rfl rfl rfl rfl rfl) rfl ?_)
      (refine nx (a_index (j := k) (gd_on rfl rfl rfl rfl (by first | rfl | assumption | (simp; done))) rfl rfl rfl rfl rfl rfl rfl rfl rfl (hx') rfl (hsz)) rfl ?_)
      (refine nx (a_field_ad (gd_on rfl rfl rfl rfl (by first | rfl | assumption | (simp; done))) rfl rfl rfl rfl rfl rfl rfl rfl rfl rfl rfl) rfl ?_)
      (refine nx (a_load_ad (gd_on rfl rfl rfl rfl (by first | rfl | assumption | (simp; done))) rfl rfl rfl rfl rfl rfl rfl rfl rfl) rfl ?_)
      (refine nx (a_call (gd_on rfl rfl rfl rfl (by first | rfl | assumption | (simp; done))) rfl rfl rfl rfl rfl (hsa)) rfl ?_)
      (refine ⟨_, _, _, aPt (gN rfl) rfl rfl rfl rfl rfl ?hb rfl, rfl, ?_⟩; case hb => (first | rfl | assumption | (simp; done)))
      refine ⟨by kernel_rfl, ?_⟩
      show AWp _ _ _ _ _ _ _
      refine aC rfl (fun h => ?_) (fun h => by cases h)
      refine aR ?_
      (refine nx (aM (gN rfl) rfl rfl rfl rfl rfl) rfl ?_)
      (refine nx (a_add (gN rfl) rfl rfl rfl rfl rfl rfl (by first | omega | (simp only [List.length_map, List.length_append, List.length_cons, List.length_nil] <;> omega) | (simp <;> omega))) rfl ?_)
      (refine nx (aA (gN rfl) rfl rfl rfl rfl rfl) rfl ?_)
      show AWp _ _ _ _ _ _ _
      refine aR ?_
      (refine nx (aM (gN rfl) rfl rfl rfl rfl rfl) rfl ?_)
      (refine nx (a_add (gN rfl) rfl rfl rfl rfl rfl rfl (by first | omega | (simp only [List.length_map, List.length_append, List.length_cons, List.length_nil] <;> omega) | (simp <;> omega))) rfl ?_)
      (refine nx (aA (gN rfl) rfl rfl rfl rfl rfl) rfl ?_)
      refine ⟨hkl, wk_sub ⟨rfl, rfl, rfl, rfl, rfl, ?_, by rw [hn2]; rfl, rfl, rfl, trivial⟩⟩
      show some (AV.val (.i (((((c.take k).filter nothL).length : Nat) : Int) + 1))) = some (AV.val (.i _))
      rw [hn1, List.length_append]
      rfl
    | false =>
      rw [hN] at hn1 hn2
      simp only [Bool.false_eq_true, if_false] at hn1 hn2
      have hst4 : ((c.take (k + 1)).filter fun l => !nothL l).map Lt.cv = ((c.take k).filter fun l => !nothL l).map Lt.cv ++ [x.cw] := by
        rw [hn2, List.map_append]; rfl
      refine awp_mid [(0, .val (.lst (c.map Lt.cv))), (1, .val (.lst (s.map Bd.cv))), (2, .val (.sc (.int .u8 y))), (7, .val (.lst (c.map Lt.cv))), (8, .val (.i (wtC (c.take (k + 1)) : Int))), (9, .val (.i (((c.take k).filter nothL).length : Int))), (10, .own (.lst (((c.take k).filter fun l => !nothL l).map Lt.cv)) 200075), (200075, .tok 35 5), (11, .val (.i k)), (66, .val (.b false))] ?_ ?_
      · cases hxn : x.neg with
        | true =>
          have hxs : sameT x.a x.b = false := by unfold nothL at hN; rw [hxn] at hN; simpa using hN
          rw [hxs] at hsa
          refine aD (by kernel_rfl) (by kernel_rfl) ?_
          (refine nx (aM (gN rfl) rfl rfl rfl rfl rfl) rfl ?_)
          (refine nx (aM (gN rfl) rfl rfl rfl rfl rfl) rfl ?_)
          (refine nx (a_index (j := k) (gN rfl) rfl rfl rfl rfl rfl rfl rfl rfl rfl (hx') rfl (hsz)) rfl ?_)
          (refine nx (a_field_ad (gN rfl) rfl rfl rfl rfl rfl rfl rfl rfl rfl rfl rfl) rfl ?_)
          (refine nx (a_load_ad (gN rfl) rfl rfl rfl rfl rfl rfl rfl rfl rfl) rfl ?_)
          (refine nx (aM (gN rfl) rfl rfl rfl rfl rfl) rfl ?_)
          (refine nx (aM (gd_on rfl rfl rfl rfl (by first | rfl | assumption | (simp; done))) rfl rfl rfl rfl rfl) rfl ?_)
          (refine nx (aM (gd_on rfl rfl rfl rfl (by first | rfl | assumption | (simp; done))) rfl rfl rfl rfl rfl) rfl ?_)
          (refine nx (a_index (j := k) (gd_on rfl rfl rfl rfl (by first | rfl | assumption | (simp; done))) rfl rfl rfl rfl rfl rfl rfl rfl rfl (hx') rfl (hsz)) rfl ?_)
          (refine nx (a_field_ad (gd_on rfl rfl rfl rfl (by first | rfl | assumption | (simp; done))) rfl rfl rfl rfl rfl rfl rfl rfl rfl rfl rfl) rfl ?_)
          (refine nx (a_load_ad (gd_on rfl rfl rfl rfl (by first | rfl | assumption | (simp; done))) rfl rfl rfl rfl rfl rfl rfl rfl rfl) rfl ?_)
          (refine nx (aM (gd_on rfl rfl rfl rfl (by first | rfl | assumption | (simp; done))) rfl rfl rfl rfl rfl) rfl ?_)
          (refine nx (aM (gd_on rfl rfl rfl rfl (by first | rfl | assumption | (simp; done))) rfl rfl rfl rfl rfl) rfl ?_)
          (refine nx (a_index (j := k) (gd_on rfl rfl rfl rfl (by first | rfl | assumption | (simp; done))) rfl rfl rfl rfl rfl rfl rfl rfl rfl (hx') rfl (hsz)) rfl ?_)
          (refine nx (a_field_ad (gd_on rfl rfl rfl rfl (by first | rfl | assumption | (simp; done))) rfl rfl rfl rfl rfl rfl rfl rfl rfl rfl rfl) rfl ?_)
          (refine nx (a_load_ad (gd_on rfl rfl rfl rfl (by first | rfl | assumption | (simp; done))) rfl rfl rfl rfl rfl rfl rfl rfl rfl) rfl ?_)
          (refine nx (a_call (gd_on rfl rfl rfl rfl (by first | rfl | assumption | (simp; done))) rfl rfl rfl rfl rfl (hsa)) rfl ?_)
          (refine ⟨_, _, _, aPt (gN rfl) rfl rfl rfl rfl rfl ?hb rfl, rfl, ?_⟩; case hb => (first | rfl | assumption | (simp; done)))
          refine ⟨by kernel_rfl, ?_⟩
          exact wk_sub ⟨rfl, rfl, rfl, rfl, rfl, rfl, rfl, rfl, rfl, rfl, trivial⟩
        | false =>
          refine aD (by kernel_rfl) (by kernel_rfl) ?_
          (refine nx (aM (gN rfl) rfl rfl rfl rfl rfl) rfl ?_)
          (refine nx (aM (gN rfl) rfl rfl rfl rfl rfl) rfl ?_)
          (refine nx (a_index (j := k) (gN rfl) rfl rfl rfl rfl rfl rfl rfl rfl rfl (hx') rfl (hsz)) rfl ?_)
          (refine nx (a_field_ad (gN rfl) rfl rfl rfl rfl rfl rfl rfl rfl rfl rfl rfl) rfl ?_)
          (refine nx (a_load_ad (gN rfl) rfl rfl rfl rfl rfl rfl rfl rfl rfl) rfl ?_)
          (refine nx (aM (gN rfl) rfl rfl rfl rfl rfl) rfl ?_)
          (refine ⟨_, _, _, a_off (go_off rfl rfl rfl rfl (by first | rfl | assumption | (simp; done) | (simp [*]; done))) rfl rfl rfl, rfl, ?_⟩)
          (refine ⟨_, _, _, a_off (go_off rfl rfl rfl rfl (by first | rfl | assumption | (simp; done) | (simp [*]; done))) rfl rfl rfl, rfl, ?_⟩)
          (refine ⟨_, _, _, a_off (go_off rfl rfl rfl rfl (by first | rfl | assumption | (simp; done) | (simp [*]; done))) rfl rfl rfl, rfl, ?_⟩)
          (refine ⟨_, _, _, a_off (go_off rfl rfl rfl rfl (by first | rfl | assumption | (simp; done) | (simp [*]; done))) rfl rfl rfl, rfl, ?_⟩)
          (refine ⟨_, _, _, a_off (go_off rfl rfl rfl rfl (by first | rfl | assumption | (simp; done) | (simp [*]; done))) rfl rfl rfl, rfl, ?_⟩)
          (refine ⟨_, _, _, a_off (go_off rfl rfl rfl rfl (by first | rfl | assumption | (simp; done) | (simp [*]; done))) rfl rfl rfl, rfl, ?_⟩)
          (refine ⟨_, _, _, a_off (go_off rfl rfl rfl rfl (by first | rfl | assumption | (simp; done) | (simp [*]; done))) rfl rfl rfl, rfl, ?_⟩)
          (refine ⟨_, _, _, a_off (go_off rfl rfl rfl rfl (by first | rfl | assumption | (simp; done) | (simp [*]; done))) rfl rfl rfl, rfl, ?_⟩)
          (refine ⟨_, _, _, a_off (go_off rfl rfl rfl rfl (by first | rfl | assumption | (simp; done) | (simp [*]; done))) rfl rfl rfl, rfl, ?_⟩)
          (refine ⟨_, _, _, a_off (go_off rfl rfl rfl rfl (by first | rfl | assumption | (simp; done) | (simp [*]; done))) rfl rfl rfl, rfl, ?_⟩)
          (refine ⟨_, _, _, a_off (go_off rfl rfl rfl rfl (by first | rfl | assumption | (simp; done) | (simp [*]; done))) rfl rfl rfl, rfl, ?_⟩)
          (refine ⟨_, _, _, aPf (gN rfl) rfl rfl rfl rfl rfl ?hb rfl, rfl, ?_⟩; case hb => (first | rfl | assumption | (simp; done)))
          refine ⟨by kernel_rfl, ?_⟩
          exact wk_sub ⟨rfl, rfl, rfl, rfl, rfl, rfl, rfl, rfl, rfl, rfl, trivial⟩
      refine aC rfl (fun h => by cases h) (fun h => ?_)
      refine aR ?_
      (refine nx (aM (gN rfl) rfl rfl rfl rfl rfl) rfl ?_)
      (refine nx (aM (gN rfl) rfl rfl rfl rfl rfl) rfl ?_)
      (refine nx (aM (gN rfl) rfl rfl rfl rfl rfl) rfl ?_)
      (refine nx (a_index (j := k) (gN rfl) rfl rfl rfl rfl rfl rfl rfl rfl rfl (hx') rfl (hsz)) rfl ?_)
      (refine nx (a_load_ad (gN rfl) rfl rfl rfl rfl rfl rfl rfl rfl rfl) rfl ?_)
      (refine nx (a_bslice (gN rfl) rfl rfl rfl rfl rfl rfl rfl rfl rfl rfl rfl rfl rfl) rfl ?_)
      (refine nx (a_app (gN rfl) rfl rfl rfl rfl rfl rfl rfl rfl rfl rfl rfl rfl rfl rfl rfl (by first | assumption | exact sZ rfl | exact Tm.size_all _ | exact Bd.size_all _ | exact ints_size _ | exact bys_size _ | exact Lt.size_all _) (by first | assumption | exact sZ rfl | exact Tm.size_all _ | exact Bd.size_all _ | exact ints_size _ | exact bys_size _ | exact Lt.size_all _) (by first | omega | (simp only [List.length_map, List.length_append, List.length_cons, List.length_nil] <;> omega) | (simp <;> omega))) rfl ?_)
      (refine nx (aA (gN rfl) rfl rfl rfl rfl rfl) rfl ?_)
      show AWp _ _ _ _ _ _ _
      refine aR ?_
      (refine nx (aM (gN rfl) rfl rfl rfl rfl rfl) rfl ?_)
      (refine nx (a_add (gN rfl) rfl rfl rfl rfl rfl rfl (by first | omega | (simp only [List.length_map, List.length_append, List.length_cons, List.length_nil] <;> omega) | (simp <;> omega))) rfl ?_)
      (refine nx (aA (gN rfl) rfl rfl rfl rfl rfl) rfl ?_)
      refine ⟨hkl, Wk.trans (wk_sub (s' := [(0, .val (.lst (c.map Lt.cv))), (1, .val (.lst (s.map Bd.cv))), (2, .val (.sc (.int .u8 y))), (7, .val (.lst (c.map Lt.cv))), (8, .val (.i (wtC (c.take (k + 1)) : Int))), (9, .val (.i (((c.take (k + 1)).filter nothL).length : Int))), (10, .own (.lst (((c.take (k + 1)).filter fun l => !nothL l).map Lt.cv)) 300075), (300075, .tok 35 5), (11, .val (.i ((k + 1 : Nat) : Int)))]) ⟨rfl, rfl, rfl, rfl, rfl, by rw [hn1]; rfl, by rw [hst4]; rfl, rfl, rfl, trivial⟩) (wk_ren 300075 200075 rfl rfl rfl rfl)⟩
  · have hkl : k = c.length := by
      have : ¬ k < c.length := by simpa using hlt
      omega
    subst hkl
    rw [List.take_length]
    refine aE ?_
    show AWp _ _ _ _ _ _ _
    have hba := cBare_abs w c (by omega) (fun l hl => ⟨kc.rng l hl, by have := hzn l hl; omega, by have := hzn l hl; omega⟩)
    rw [noth_len] at hba
    refine aS (aR ?_)
    (refine nx (aM (gN rfl) rfl rfl rfl rfl rfl) rfl ?_)
    (refine nx (a_call (gN rfl) rfl rfl rfl rfl rfl (hba)) rfl ?_)
    (refine nx (aM (gN rfl) rfl rfl rfl rfl rfl) rfl ?_)
    (refine nx (aX (gN rfl) rfl rfl rfl rfl rfl rfl) rfl ?_)
    (refine nx (aX (gN rfl) rfl rfl rfl rfl rfl rfl) rfl ?_)
    (refine nx (aA (gN rfl) rfl rfl rfl rfl rfl) rfl ?_)
    (refine nx (aA (gN rfl) rfl rfl rfl rfl rfl) rfl ?_)
    show AWp _ _ _ _ _ _ _
    -- made normal
    have kn := kc.norm
    have hno := cNorm_abs w c kc
    have ht1 := to11_abs w (nmP c) (by have := kn.1; omega) kn.ok
    have hrn := refNorm_abs w c kc
    have hnd : ∀ l ∈ nmD c, l.a.ok ∧ l.b.ok := fun l hl => by
      have hl := dedD_mem hl
      obtain ⟨x, hx, rfl⟩ := List.mem_map.1 hl
      have ho := kc.inD.ok x hx
      exact ⟨appR_ok ho.1 zip_ok, appR_ok ho.2 zip_ok⟩
    have sok : ∀ {c : List Lt}, (∀ l ∈ c, l.a.ok ∧ l.b.ok) → ∀ l ∈ c.map Lt.strip, l.a.ok ∧ l.b.ok := fun {c} h l hl => by
      obtain ⟨x, hx, rfl⟩ := List.mem_map.1 hl
      exact ⟨Tm.strip_ok (h x hx).1, Tm.strip_ok (h x hx).2⟩
    have hm1 := same11_abs w ((nmP c).map Lt.strip) (nmD c) (by rw [List.length_map]; have := kn.1; omega) (sok kn.ok) hnd
    rw [sameC_iff.2 ((strip2 _).trans (nm_doc c))] at hm1
    -- renamed
    have hmx : max y 0 = y := by omega
    have hre := cRename_abs w c y (by omega) kc.sid.1 kc.sid.2.1
    rw [hmx] at hre
    have kr : okCl (c.map (Lt.rep fun v => varT (upV y v))) := kc.repG (up_img hy.1).1 (up_img hy.1).2
    have ht2 := to11_abs w _ (by have := kr.1; omega) kr.ok
    have hrr := refRen_abs w c y kc (fun v hv => by have := sm_nv sc v hv; omega) (by omega)
    have hm2 := same11_abs w ((c.map (Lt.rep fun v => varT (upV y v))).map Lt.strip) (c.map (appL (renB c y))) (by rw [List.length_map]; have := kr.1; omega) (sok kr.ok) (fun l hl => by
      obtain ⟨x, hx, rfl⟩ := List.mem_map.1 hl
      have ho := kc.ok x hx
      exact ⟨appR_ok ho.1 zip_ok, appR_ok ho.2 zip_ok⟩)
    rw [sameC_iff.2 ((strip2 _).trans (ren_doc sc hy))] at hm2
    -- put in
    have hap := cApply_abs w s c (by omega) (by omega) hso kc.sid.1 kc.sid.2.1
    have hapo : ∀ l ∈ c.map (Lt.rep (imgB s)), l.a.ok ∧ l.b.ok := fun l hl => by
      obtain ⟨x, hx, rfl⟩ := List.mem_map.1 hl
      have ho := kc.ok x hx
      exact ⟨repT_ok ho.1 fun v => imgB_ok2 hsk v, repT_ok ho.2 fun v => imgB_ok2 hsk v⟩
    have ht3 := to11_abs w (c.map (Lt.rep (imgB s))) (by rw [List.length_map]; omega) hapo
    have hra := refAppC_abs w s c (by omega) (by omega) (fun l hl => ⟨⟨(kc.2 l hl).1.1, (kc.2 l hl).1.2.1⟩, (kc.2 l hl).2.1, (kc.2 l hl).2.2.1⟩)
    have hm3 := same11_abs w ((c.map (Lt.rep (imgB s))).map Lt.strip) (c.map (appL s)) (by rw [List.length_map, List.length_map]; omega) (sok hapo) (fun l hl => by
      obtain ⟨x, hx, rfl⟩ := List.mem_map.1 hl
      have ho := kc.ok x hx
      exact ⟨appR_ok ho.1 hsk, appR_ok ho.2 hsk⟩)
    rw [sameC_iff.2 ((strip2 _).trans (by
      rw [List.map_map, List.map_map]
      exact List.map_congr_left fun l _ => (appL_strip s l).symm))] at hm3
    -- the rest
    have hwg := cWeight_abs w c (by omega) (by omega) kc.okC
    have htp := cTop_abs w c (by omega) kc.rng
    rw [top_doc] at htp
    have hrt := refTop_abs w c kc
    have hta := cTaut_abs w c (by omega) kc.okC
    rw [tt_doc] at hta
    have hrt2 := refTaut_abs w c (by omega) kc.ok
    have hbo : ∀ l ∈ bareL c, l.a.ok ∧ l.b.ok := fun l hl => by
      unfold bareL at hl
      obtain ⟨x, hx, rfl⟩ := List.mem_map.1 hl
      have ho := kc.ok x ((List.mem_filter.1 hx).1)
      exact ⟨Tm.strip_ok ho.1, Tm.strip_ok ho.2⟩
    have hbl := bareL_len c
    have ht4 := to11_abs w (bareL c) (by omega) hbo
    have hm4 := same11_abs w ((bareL c).map Lt.strip) (c.filter fun l => !nothL l) (by rw [List.length_map]; omega) (sok hbo) (fun l hl => kc.ok l ((List.mem_filter.1 hl).1))
    rw [sameC_iff.2 ((strip2 _).trans (by unfold bareL; exact strip2 _))] at hm4
    have g2 : (ttD c == ttD c) = true := by simp
    refine aS (aR ?_)
    (refine nx (aM (gN rfl) rfl rfl rfl rfl rfl) rfl ?_)
    (refine nx (a_call (gN rfl) rfl rfl rfl rfl rfl (hno)) rfl ?_)
    (refine nx (a_call (gN rfl) rfl rfl rfl rfl rfl (ht1)) rfl ?_)
    (refine nx (aM (gN rfl) rfl rfl rfl rfl rfl) rfl ?_)
    (refine nx (a_call (gN rfl) rfl rfl rfl rfl rfl (hrn)) rfl ?_)
    (refine nx (a_call (gN rfl) rfl rfl rfl rfl rfl (hm1)) rfl ?_)
    (refine nx (aM (gN rfl) rfl rfl rfl rfl rfl) rfl ?_)
    (refine nx (aM (gd_on rfl rfl rfl rfl (by first | rfl | assumption | (simp; done))) rfl rfl rfl rfl rfl) rfl ?_)
    (refine nx (a_call (gd_on rfl rfl rfl rfl (by first | rfl | assumption | (simp; done))) rfl rfl rfl rfl rfl (hwg)) rfl ?_)
    (refine nx (aM (gd_on rfl rfl rfl rfl (by first | rfl | assumption | (simp; done))) rfl rfl rfl rfl rfl) rfl ?_)
    (refine nx (a_eql (gd_on rfl rfl rfl rfl (by first | rfl | assumption | (simp; done))) rfl rfl rfl rfl rfl rfl) rfl ?_)
    (refine ⟨_, _, _, aPt (gN rfl) rfl rfl rfl rfl rfl ?hb rfl, rfl, ?_⟩; case hb => (first | rfl | assumption | (simp; done)))
    (refine nx (aM (gN rfl) rfl rfl rfl rfl rfl) rfl ?_)
    (refine nx (aM (gd_on rfl rfl rfl rfl (by first | rfl | assumption | (simp; done))) rfl rfl rfl rfl rfl) rfl ?_)
    (refine nx (a_call (gd_on rfl rfl rfl rfl (by first | rfl | assumption | (simp; done))) rfl rfl rfl rfl rfl (htp)) rfl ?_)
    (refine nx (aM (gd_on rfl rfl rfl rfl (by first | rfl | assumption | (simp; done))) rfl rfl rfl rfl rfl) rfl ?_)
    (refine nx (a_call (gd_on rfl rfl rfl rfl (by first | rfl | assumption | (simp; done))) rfl rfl rfl rfl rfl (hrt)) rfl ?_)
    (refine nx (a_eql (gd_on rfl rfl rfl rfl (by first | rfl | assumption | (simp; done))) rfl rfl rfl rfl rfl rfl) rfl ?_)
    (refine ⟨_, _, _, aPt (gN rfl) rfl rfl rfl rfl rfl ?hb rfl, rfl, ?_⟩; case hb => (first | rfl | assumption | (simp; done)))
    (refine nx (aM (gN rfl) rfl rfl rfl rfl rfl) rfl ?_)
    (refine nx (aM (gd_on rfl rfl rfl rfl (by first | rfl | assumption | (simp; done))) rfl rfl rfl rfl rfl) rfl ?_)
    (refine nx (aM (gd_on rfl rfl rfl rfl (by first | rfl | assumption | (simp; done))) rfl rfl rfl rfl rfl) rfl ?_)
    (refine nx (a_conv (gd_on rfl rfl rfl rfl (by first | rfl | assumption | (simp; done))) rfl rfl rfl rfl rfl rfl rfl (by first | rfl | (rw [IntKind.wrap_i64]; omega) | assumption)) rfl ?_)
    (refine nx (a_call (gd_on rfl rfl rfl rfl (by first | rfl | assumption | (simp; done))) rfl rfl rfl rfl rfl (hre)) rfl ?_)
    (refine nx (a_call (gd_on rfl rfl rfl rfl (by first | rfl | assumption | (simp; done))) rfl rfl rfl rfl rfl (ht2)) rfl ?_)
    (refine nx (aM (gd_on rfl rfl rfl rfl (by first | rfl | assumption | (simp; done))) rfl rfl rfl rfl rfl) rfl ?_)
    (refine nx (aM (gd_on rfl rfl rfl rfl (by first | rfl | assumption | (simp; done))) rfl rfl rfl rfl rfl) rfl ?_)
    (refine nx (a_conv (gd_on rfl rfl rfl rfl (by first | rfl | assumption | (simp; done))) rfl rfl rfl rfl rfl rfl rfl (by first | rfl | (rw [IntKind.wrap_i64]; omega) | assumption)) rfl ?_)
    (refine nx (a_call (gd_on rfl rfl rfl rfl (by first | rfl | assumption | (simp; done))) rfl rfl rfl rfl rfl (hrr)) rfl ?_)
    (refine nx (a_call (gd_on rfl rfl rfl rfl (by first | rfl | assumption | (simp; done))) rfl rfl rfl rfl rfl (hm2)) rfl ?_)
    (refine ⟨_, _, _, aPt (gN rfl) rfl rfl rfl rfl rfl ?hb rfl, rfl, ?_⟩; case hb => (first | rfl | assumption | (simp; done)))
    (refine nx (aM (gN rfl) rfl rfl rfl rfl rfl) rfl ?_)
    (refine nx (aM (gd_on rfl rfl rfl rfl (by first | rfl | assumption | (simp; done))) rfl rfl rfl rfl rfl) rfl ?_)
    (refine nx (a_call (gd_on rfl rfl rfl rfl (by first | rfl | assumption | (simp; done))) rfl rfl rfl rfl rfl (of7_abs w s (by omega) hsk)) rfl ?_)
    (refine nx (aM (gd_on rfl rfl rfl rfl (by first | rfl | assumption | (simp; done))) rfl rfl rfl rfl rfl) rfl ?_)
    (refine nx (a_call (gd_on rfl rfl rfl rfl (by first | rfl | assumption | (simp; done))) rfl rfl rfl rfl rfl (hap)) rfl ?_)
    (refine nx (a_call (gd_on rfl rfl rfl rfl (by first | rfl | assumption | (simp; done))) rfl rfl rfl rfl rfl (ht3)) rfl ?_)
    (refine nx (aM (gd_on rfl rfl rfl rfl (by first | rfl | assumption | (simp; done))) rfl rfl rfl rfl rfl) rfl ?_)
    (refine nx (aM (gd_on rfl rfl rfl rfl (by first | rfl | assumption | (simp; done))) rfl rfl rfl rfl rfl) rfl ?_)
    (refine nx (a_call (gd_on rfl rfl rfl rfl (by first | rfl | assumption | (simp; done))) rfl rfl rfl rfl rfl (hra)) rfl ?_)
    (refine nx (a_call (gd_on rfl rfl rfl rfl (by first | rfl | assumption | (simp; done))) rfl rfl rfl rfl rfl (hm3)) rfl ?_)
    (refine ⟨_, _, _, aPt (gN rfl) rfl rfl rfl rfl rfl ?hb rfl, rfl, ?_⟩; case hb => (first | rfl | assumption | (simp; done)))
    (refine nx (aM (gN rfl) rfl rfl rfl rfl rfl) rfl ?_)
    (refine nx (aM (gd_on rfl rfl rfl rfl (by first | rfl | assumption | (simp; done))) rfl rfl rfl rfl rfl) rfl ?_)
    (refine nx (a_call (gd_on rfl rfl rfl rfl (by first | rfl | assumption | (simp; done))) rfl rfl rfl rfl rfl (hta)) rfl ?_)
    (refine nx (aM (gd_on rfl rfl rfl rfl (by first | rfl | assumption | (simp; done))) rfl rfl rfl rfl rfl) rfl ?_)
    (refine nx (a_call (gd_on rfl rfl rfl rfl (by first | rfl | assumption | (simp; done))) rfl rfl rfl rfl rfl (hrt2)) rfl ?_)
    (refine nx (a_beq (gd_on rfl rfl rfl rfl (by first | rfl | assumption | (simp; done))) rfl rfl rfl rfl rfl rfl rfl) rfl ?_)
    (refine ⟨_, _, _, aPt (gN rfl) rfl rfl rfl rfl rfl ?hb rfl, rfl, ?_⟩; case hb => (first | rfl | assumption | (simp; done)))
    (refine nx (aM (gN rfl) rfl rfl rfl rfl rfl) rfl ?_)
    (refine nx (aM (gd_on rfl rfl rfl rfl (by first | rfl | assumption | (simp; done))) rfl rfl rfl rfl rfl) rfl ?_)
    (refine nx (aM (gd_on rfl rfl rfl rfl (by first | rfl | assumption | (simp; done))) rfl rfl rfl rfl rfl) rfl ?_)
    (refine nx (a_eql (gd_on rfl rfl rfl rfl (by first | rfl | assumption | (simp; done))) rfl rfl rfl rfl rfl rfl) rfl ?_)
    (refine ⟨_, _, _, aPt (gN rfl) rfl rfl rfl rfl rfl ?hb rfl, rfl, ?_⟩; case hb => (first | rfl | assumption | (simp; done)))
    (refine nx (aM (gN rfl) rfl rfl rfl rfl rfl) rfl ?_)
    (refine nx (aM (gd_on rfl rfl rfl rfl (by first | rfl | assumption | (simp; done))) rfl rfl rfl rfl rfl) rfl ?_)
    (refine nx (a_call (gd_on rfl rfl rfl rfl (by first | rfl | assumption | (simp; done))) rfl rfl rfl rfl rfl (ht4)) rfl ?_)
    (refine nx (aM (gd_on rfl rfl rfl rfl (by first | rfl | assumption | (simp; done))) rfl rfl rfl rfl rfl) rfl ?_)
    (refine nx (a_call (gd_on rfl rfl rfl rfl (by first | rfl | assumption | (simp; done))) rfl rfl rfl rfl rfl (hm4)) rfl ?_)
    (refine ⟨_, _, _, aPt (gN rfl) rfl rfl rfl rfl rfl ?hb rfl, rfl, ?_⟩; case hb => (first | rfl | assumption | (simp; done)))
    (refine nx (aA (gN rfl) rfl rfl rfl rfl rfl) rfl ?_)
    show AWp _ _ _ _ _ _ _
    exact aT (And.intro (.inr rfl) rfl)
theorem shp_bool {n : Nat} {c : CV} (h : Shp Tryz.prog n 4 c) : ∃ b, c = .b b := by
  cases n with
  | zero => exact h.elim
  | succ n =>
    rw [Shp, Tryz.underlying4] at h
    exact h
theorem shp_lits {n : Nat} {c : CV} (h : Shp Tryz.prog n 22 c) : ∃ l : List Lt, c = .lst (l.map Lt.cv) ∧ okC l := by
  cases n with
  | zero => exact h.elim
  | succ n =>
    rw [Shp, Tryz.underlying22] at h
    obtain ⟨l, rfl, hl⟩ := h
    obtain ⟨m, h1, h2⟩ := list_of Lt.cv (fun l => l.a.rng ∧ l.b.rng) (l := l) (fun x hx => by
      have hx := hl x hx
      cases n with
      | zero => exact hx.elim
      | succ n =>
        have hx : Shp Tryz.prog (n + 1) 35 x := hx
        rw [Shp, Tryz.underlying35] at hx
        obtain ⟨l, rfl, hl, hf⟩ := hx
        match l, hl with
        | [x, y, z], _ =>
          obtain ⟨b, rfl⟩ := shp_bool (hf 0 _ x rfl rfl)
          obtain ⟨t, rfl, ht⟩ := shp_tm n (hf 1 _ y rfl rfl)
          obtain ⟨u, rfl, hu⟩ := shp_tm n (hf 2 _ z rfl rfl)
          exact ⟨⟨b, t, u⟩, rfl, ht, hu⟩)
    exact ⟨m, by rw [h1], h2⟩
end Go.Proofs.YtmeegdomncadpaaGreat

