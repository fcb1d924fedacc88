/-
  RwAllN
-/
import Derived.Test.YtekboofbedakcaaMg7
import Derived.Test.YtekboofbedakcaaMg6
namespace Go.Proofs.Ytekboofbedakcaa
open Go.RowKit
set_option linter.unusedVariables false
set_option linter.unusedSimpArgs false
set_option maxRecDepth 100000
theorem lits_at {U : Nat → Nat → Prop} {A : World} {D : List Lt} {v : Value} (h : VRep U A (.lst (D.map Lt.cv)) v) : ∃ ao cap, v = .slice ao D.length cap ∧ ∃ g off, (0 < D.length → ao = some ⟨g, off, none⟩) ∧ ∀ i l, D[i]? = some l → ∃ xa xb : XT, xa.tm = l.a ∧ xb.tm = l.b ∧ XAt U A g (off + i * 5 + 1) xa ∧ XAt U A g (off + i * 5 + 3) xb := by
  obtain ⟨ao, n, cap, rfl, h1, h2, h3, h4, ys, h5, h6⟩ := vrep_lst.1 h
  rw [List.length_map] at h1
  subst h1
  have hkey : ∀ (g off : Nat), (∀ i, i < ys.length → U g (off + i) ∧ A.cell? ⟨g, off + i, none⟩ = ys[i]?) → ∀ i l, D[i]? = some l → ∃ xa xb : XT, xa.tm = l.a ∧ xb.tm = l.b ∧ XAt U A g (off + i * 5 + 1) xa ∧ XAt U A g (off + i * 5 + 3) xb := by
    intro g off hc i l hl
    obtain ⟨y1, z1, u1, e1, e2, e3⟩ := sq_at (Lt.size_all D) h6 (Lt.map_at hl)
    obtain ⟨p1, q1, f1, f2, p2, q2, f3, f4, p3, q3, f5, f6, f7⟩ := rep_row.1 e3
    have f7 : q3 = [] := f7
    subst f7
    obtain ⟨rfl, _⟩ := rep_sc.1 f2
    obtain ⟨xa, k1, k2, k3⟩ := xr_of_rep l.a p2 (by rw [Tm.cv_eq]; exact f4)
    obtain ⟨xb, k4, k5, k6⟩ := xr_of_rep l.b p3 (by rw [Tm.cv_eq]; exact f6)
    have hys : ys = y1 ++ [.bool l.neg, .int .i64 xa.f, xa.h, .int .i64 xb.f, xb.h] ++ u1 := by
      rw [e1, f1, f3, f5, k2, k5]
      simp
    have hat : ∀ k v, [Value.bool l.neg, .int .i64 xa.f, xa.h, .int .i64 xb.f, xb.h][k]? = some v → U g (off + (i * 5 + k)) ∧ A.cell? ⟨g, off + (i * 5 + k), none⟩ = some v := fun k v hk => by
      have hk5 : k < 5 := by
        rcases Nat.lt_or_ge k 5 with h | h
        · exact h
        · rw [List.getElem?_eq_none (by simpa using h)] at hk; cases hk
      have hlt : i * 5 + k < ys.length := by
        rw [hys]
        simp only [List.length_append, List.length_cons, List.length_nil, e2]
        omega
      obtain ⟨q1, q2⟩ := hc _ hlt
      refine ⟨q1, ?_⟩
      rw [q2, hys, List.append_assoc, List.getElem?_append_right (by omega), e2, Nat.add_sub_cancel_left, List.getElem?_append_left (by simpa using hk5)]
      exact hk
    refine ⟨xa, xb, k1, k4, ⟨k3, ?_, ?_⟩, k6, ?_, ?_⟩
    · have := hat 1 _ rfl; rw [Nat.add_assoc]; exact this
    · have := hat 2 _ rfl; rw [Nat.add_assoc, Nat.add_assoc]; exact this
    · have := hat 3 _ rfl; rw [Nat.add_assoc]; exact this
    · have := hat 4 _ rfl; rw [Nat.add_assoc, Nat.add_assoc]; exact this
  rcases h5 with h5 | ⟨g, off, ha, hc⟩
  · have hD : D = [] := by
      cases D with
      | nil => rfl
      | cons l D =>
        obtain ⟨y1, z1, u1, e1, e2, e3⟩ := sq_at (Lt.size_all (l :: D)) h6 (Lt.map_at (i := 0) rfl)
        have := e3.len
        rw [h5] at e1
        have h9 : z1 = [] := by
          have := congrArg List.length e1
          simp only [List.length_append, List.length_nil] at this
          exact List.eq_nil_of_length_eq_zero (by omega)
        rw [h9] at this
        cases this
    subst hD
    exact ⟨ao, cap, rfl, 0, 0, fun h => by simp at h, fun i l h => by simp at h⟩
  · exact ⟨ao, cap, rfl, g, off, fun _ => ha, hkey g off hc⟩

-- 
set_option maxHeartbeats 4000000 in
theorem wAllNo_abs (W : World) (R : List RuT) (hR : ∀ r ∈ R, RuOk r) (hRl : R.length ≤ 1000000) (c : List Lt) (hl : c.length ≤ 1000000) (hc : ∀ l ∈ c, l.a.rng ∧ l.a.size ≤ 90000000000 ∧ l.b.rng ∧ l.b.size ≤ 90000000000) (hno : ∀ l ∈ c, fst1 (hitR R) l.a.strip = none ∧ fst1 (hitR R) l.b.strip = none) :
    AFun Try.prog W 21 [.lst (R.map RuT.cv), .lst (c.map Lt.cv)] (.tup [.lst ((c.map Lt.strip).map Lt.cv), .lst []]) := by
  refine ⟨ent_of Try.func21 rfl rfl, .inr rfl, rfl, ?_⟩
  intro U w vs _ hargs
  refine callsR_of Try.func21 rfl ?_
  have hs := sim_args (nt := 36) (fn := Try.f21) rfl hargs rfl rfl rfl
  suffices h : AWpR Try.prog w ⟨U, fun _ => False, fun _ => none, fun _ _ h => by cases h⟩ 36 _ _ (argS [.lst (R.map RuT.cv), .lst (c.map Lt.cv)] 0) from h _ _ hs
  clear hs
  refine awpR_pre (aR ?_)
  (refine nx (a_box (gN rfl) rfl rfl rfl rfl rfl) rfl ?_)
  (refine nx (aA (gN rfl) rfl rfl rfl rfl rfl) rfl ?_)
  (refine nx (aA (gN rfl) rfl rfl rfl rfl rfl) rfl ?_)
  refine ⟨rfl, ?_⟩
  refine AWpR.wk (wk_freeze 2 rfl rfl rfl (s' := [(1, AV.val (.lst (c.map Lt.cv)))]) ⟨rfl, trivial⟩ rfl rfl rfl) ?_
  refine awpR_pre (aR ?_)
  (refine nx (aM (gN rfl) rfl rfl rfl rfl rfl) rfl ?_)
  (refine nx (a_call (gN rfl) rfl rfl rfl rfl rfl (wClone_abs w c hl hc)) rfl ?_)
  (refine nx (aA (gN rfl) rfl rfl rfl rfl rfl) rfl ?_)
  refine ⟨rfl, ?_⟩
  refine awpR_pre (aR ?_)
  (refine nx (a_alloc1V (gN rfl) rfl rfl rfl rfl rfl (by first | exact .inl ⟨rfl, rfl⟩ | exact .inr ⟨rfl, rfl⟩)) rfl ?_)
  refine ⟨rfl, ?_⟩
  refine AWpR.wk (wk_freeze 6 rfl rfl rfl (s' := [(1, AV.val (.lst ((c.map Lt.strip).map Lt.cv))), (2, .val (.ptr (.lst (R.map RuT.cv))))]) ⟨rfl, rfl, trivial⟩ rfl rfl rfl) ?_
  obtain ⟨D9, hD9⟩ : ∃ D9, D9 = c.map Lt.strip := ⟨_, rfl⟩
  have hDl : D9.length = c.length := by rw [hD9, List.length_map]
  have hDn : ∀ l ∈ D9, (fst1 (hitR R) l.a = none ∧ l.a.rng ∧ l.a.strip = l.a ∧ l.a.size ≤ 90000000000) ∧ fst1 (hitR R) l.b = none ∧ l.b.rng ∧ l.b.strip = l.b ∧ l.b.size ≤ 90000000000 := fun l hl2 => by
    rw [hD9] at hl2
    obtain ⟨x, hx, rfl⟩ := List.mem_map.1 hl2
    obtain ⟨k1, k2, k3, k4⟩ := hc x hx
    obtain ⟨k5, k6⟩ := hno x hx
    exact ⟨⟨k5, rng_strip17 _ k1, Tm.strip_strip _, by show x.a.strip.size ≤ _; rw [Tm.strip_size]; exact k2⟩, k6, rng_strip17 _ k3, Tm.strip_strip _, by show x.b.strip.size ≤ _; rw [Tm.strip_size]; exact k4⟩
  rw [← hD9]
  rintro a w1 ⟨D, hv, h⟩
  have hw1 : Below w.heap.size w w1 := h.below.below fun k hk => hk
  obtain ⟨v1, t1, r1⟩ := h.slot 1 (.val (.lst (D9.map Lt.cv))) rfl (by omega)
  obtain ⟨v2, t2, r2⟩ := h.slot 2 (.val (.ptr (.lst (R.map RuT.cv)))) rfl (by omega)
  obtain ⟨v6, t6, r6⟩ := h.slot 6 (.val (.ptr (.lst []))) rfl (by omega)
  have r1 := r1.1.mono (V := fun _ _ => True) fun _ _ _ => trivial
  have r2 := r2.1.mono (V := fun _ _ => True) fun _ _ _ => trivial
  have r6 := r6.1.mono (V := fun _ _ => True) fun _ _ _ => trivial
  have hob : (fun b o => Us w ⟨U, fun _ => False, fun _ => none, fun _ _ h => by cases h⟩ D b o) = (fun b o => Us w ⟨U, fun _ => False, fun _ => none, fun _ _ h => by cases h⟩ D b o) := rfl
  have hret : VRep (fun b o => U b o ∨ w.heap.size ≤ b) w1 (.lst (D9.map Lt.cv)) v1 := by
    obtain ⟨v1', t1', r1'⟩ := h.slot 1 (.val (.lst (D9.map Lt.cv))) rfl (by omega)
    rw [t1] at t1'
    cases t1'
    exact r1'.1.mono fun b o hu => hu.imp (fun h => h.2.1) fun h => h.1
  have hdf := h.dfr
  have hsz := h.size
  have hv1o : v1.oneCell' = true := by obtain ⟨_, _, _, rfl, _⟩ := vrep_lst.1 r1; rfl
  have hs2 : Sim w1 topX 36 ([(1, CV.sc v1), (2, .ptr (.lst (R.map RuT.cv))), (6, .ptr (.lst []))].map fun q => (q.1, AV.val q.2)) ⟨a.tmps, []⟩ w1 := sim_vals _ hsz (fun q hq => by
    simp only [List.mem_cons, List.not_mem_nil, or_false] at hq
    rcases hq with rfl | rfl | rfl
    · exact ⟨v1, t1, vrep_sc.2 ⟨rfl, hv1o⟩⟩
    · exact ⟨v2, t2, r2⟩
    · exact ⟨v6, t6, r6⟩) rfl
  have ha : a = ⟨a.tmps, []⟩ := by cases a; simp at hdf; rw [hdf]
  rw [ha]
  clear h ha hob
  refine wpIn_seq ?_
  refine (awpR_pre (aR ?_) : AWpR _ w1 topX 36 _ _ [(1, .val (.sc v1)), (2, .val (.ptr (.lst (R.map RuT.cv)))), (6, .val (.ptr (.lst [])))]) _ _ hs2
  (refine nx (aM (gN rfl) rfl rfl rfl rfl rfl) rfl ?_)
  (refine nx (a_call (gN rfl) rfl rfl rfl rfl rfl (wSides_abs w1 v1 hv1o)) rfl ?_)
  refine ⟨rfl, ?_⟩
  rintro a2 w2 ⟨D2, hv2, h⟩
  have hw2 : Below w1.heap.size w1 w2 := h.below.below fun k hk => hk
  obtain ⟨ys, lb, e1, e2, e3, e4⟩ := vrep_fn.1 (ev_val h (x := .tmp 14) (fun k _ => rfl) rfl)
  have hys : ys = [] := List.eq_nil_of_length_eq_zero e2
  subst hys
  have hcaps := (sq_vreps e4 (by simpa using e3)).keep (V := fun _ _ => True) (w' := w2) fun _ _ _ _ hc => ⟨trivial, hc⟩
  obtain ⟨u1, s1, q1⟩ := h.slot 1 (.val (.sc v1)) rfl (by omega)
  obtain ⟨rfl, _⟩ := vrep_sc.1 q1.1
  obtain ⟨u2, s2, q2⟩ := h.slot 2 (.val (.ptr (.lst (R.map RuT.cv)))) rfl (by omega)
  obtain ⟨u6, s6, q6⟩ := h.slot 6 (.val (.ptr (.lst []))) rfl (by omega)
  have p2' : VRep (fun _ _ => True) w2 (.ptr (.lst (R.map RuT.cv))) u2 := q2.1.mono (V := fun _ _ => True) fun _ _ _ => trivial
  have p6' : VRep (fun _ _ => True) w2 (.ptr (.lst [])) u6 := q6.1.mono (V := fun _ _ => True) fun _ _ _ => trivial
  have hup : ∀ {A : World} {cv : CV} {v : Value}, Below w2.heap.size w2 A → ∀ (l : Nat) (o' : Obj), w2.heap.size ≤ l → VRep (fun _ _ => True) w2 cv v → VRep (fun _ _ => True) (A.putObj l o') cv v := fun hA l o' hl hr => hr.keep fun bb o v _ hc => by
    have hlt : bb < w2.heap.size := World.block_lt_of_cell? w2 _ hc
    exact ⟨trivial, by rw [cellH ((World.putObj_heap_other (by omega)).trans (hA.block bb hlt))]; exact hc⟩
  have r1' : VRep (fun _ _ => True) w2 (.lst (D9.map Lt.cv)) u1 := r1.keep fun bb o v _ hc => ⟨trivial, by rw [cellH (hw2.block bb (World.block_lt_of_cell? w1 _ hc))]; exact hc⟩
  obtain ⟨ao, cap, rfl, g, off, hao, _⟩ := lits_at r1'
  have hsz2 := h.size
  have hdf2 := h.dfr
  refine wpIn_block (wpIn_n (wp_rangeZ (gf := 54) (lb := lb.toArray) e1 (ent_of Try.func54 rfl rfl) true (N := 0) (X := fun _ => False) (G := fun _ => True) ⟨fun _ _ _ _ => trivial, fun _ _ _ _ _ _ _ _ _ => trivial⟩ (Nat.zero_le _) (fun k hk => hk.elim)
    (fun vs _ => ∃ i l, D9[i]? = some l ∧ (vs = [.pointer (some ⟨g, off + i * 5 + 1, none⟩)] ∨ vs = [.pointer (some ⟨g, off + i * 5 + 3, none⟩)])) (fun _ _ => False)
    ?ps ?it ?rt ?rf ?done ?stop))
  case ps =>
    rintro vs A (⟨_, _, _, rfl | rfl⟩ | h)
    · rfl
    · rfl
    · exact h.elim
  case it =>
    intro l W N2 X2 G2 hG2 hN2 hX2 hW hT hF
    have hq : SQ Try.prog l g off D9.length (fun _ _ => True) W := fun i hi => by
      obtain ⟨x, hx⟩ : ∃ x, D9[i]? = some x := ⟨D9[i], List.getElem?_eq_getElem hi⟩
      refine ⟨fun Rr A vs k4 k5 => ?_, fun Rr A vs k4 k5 => ?_⟩
      · obtain ⟨u, us, rfl, k6, k7⟩ := k5
        have k7 : us = [] := k7
        subst k7
        obtain ⟨rfl, _⟩ := vrep_sc.1 k6
        exact hT _ A ⟨i, x, hx, .inl rfl⟩ k4
      · obtain ⟨u, us, rfl, k6, k7⟩ := k5
        have k7 : us = [] := k7
        subst k7
        obtain ⟨rfl, _⟩ := vrep_sc.1 k6
        exact hT _ A ⟨i, x, hx, .inr rfl⟩ k4
    have hva : VReps (fun _ _ => True) W [yldV l, .ptr (.sc (.slice ao D9.length cap))] (.func (.yield l) #[] #[] :: lb) := by
      refine ⟨_, _, rfl, vrep_sc.2 ⟨rfl, rfl⟩, ?_⟩
      exact (hcaps.keep (V := fun _ _ => True) (w' := W) fun bb o v _ hc => ⟨trivial, by rw [cellH (hW.block bb (World.block_lt_of_cell? w2 _ hc))]; exact hc⟩)
    have harr : (#[Value.func (.yield l) #[] #[]] ++ lb.toArray) = (Value.func (.yield l) #[] #[] :: lb).toArray := by simp
    rw [harr]
    refine ((sidesT_q l g off D9.length cap ao hao (by omega)).2.2.2 _ W _ hq hva).mono ?_
    rintro e V ⟨v, rfl, _, hb⟩
    exact ⟨⟨v, rfl⟩, fun _ => hb, fun h => by cases h⟩
  case rt =>
    rintro vs A rec ⟨i, l, hil, hvs⟩ hA hL hA2
    obtain ⟨A', hA'⟩ : ∃ A', A' = A.putObj (w2.heap.size + 1) (.loop { rec with state := .busy }) := ⟨_, rfl⟩
    have hlits := hup hA (w2.heap.size + 1) (.loop { rec with state := .busy }) (by omega) r1'
    have hq2 := hup hA (w2.heap.size + 1) (.loop { rec with state := .busy }) (by omega) p2'
    rw [← hA'] at hlits hq2
    obtain ⟨ao', cap', e9, g', off', hao', hat⟩ := lits_at hlits
    injection e9 with e9 _ e10
    subst e9
    have hDpos : 0 < D9.length := by
      rcases Nat.lt_or_ge i D9.length with h | h
      · omega
      · rw [List.getElem?_eq_none h] at hil; cases hil
    have hg' := hao' hDpos
    rw [hao hDpos] at hg'
    cases hg'
    obtain ⟨xa, xb, ka, kb', hxa, hxb⟩ := hat i l hil
    obtain ⟨⟨n1, n2, n3, n4⟩, n5, n6, n7, n8⟩ := hDn l (List.mem_of_getElem? hil)
    obtain ⟨o9, x9, hv9, hx9, hno9, hrg9, hst9, hsz9⟩ : ∃ (o9 : Nat) (x9 : XT), vs = [.pointer (some ⟨g, o9, none⟩)] ∧ XAt (fun _ _ => True) A' g o9 x9 ∧ fst1 (hitR R) x9.tm = none ∧ x9.tm.rng ∧ x9.tm.strip = x9.tm ∧ x9.tm.size ≤ 90000000000 := by
      rcases hvs with rfl | rfl
      · exact ⟨_, xa, rfl, hxa, by rw [ka]; exact n1, by rw [ka]; exact n2, by rw [ka]; exact n3, by rw [ka]; exact n4⟩
      · exact ⟨_, xb, rfl, hxb, by rw [kb']; exact n5, by rw [kb']; exact n6, by rw [kb']; exact n7, by rw [kb']; exact n8⟩
    subst hv9
    have hfirst := firstT_q R hR hRl x9 g o9 (fun p b' o' y hadr _ => by
      obtain ⟨_, m2, m3⟩ := atN_facts hst9 hrg9 (adr_tm hadr)
      exact ⟨m2, by omega⟩) hno9
    rw [zip_par [15]]
    refine wpIn_region_lit (asg_run (ro := some (w2.heap.size + 1)) (al := [(7, 15)]) rfl ?_)
    refine ⟨Below.refl _ _, ?_⟩
    rw [← hA']
    have hf : ∀ q ∈ [(2, CV.ptr (.lst (R.map RuT.cv))), (7, ptrV g o9)], ∃ v, (asgT [(7, 15)] (parT [15] [.pointer (some ⟨g, o9, none⟩)] a2.tmps))[q.1]? = some v ∧ VRep (fun _ _ => True) A' q.2 v := by
      intro q hq
      simp only [List.mem_cons, List.not_mem_nil, or_false] at hq
      rcases hq with rfl | rfl
      · exact ⟨u2, by simpa [asgT, parT, Array.getElem?_setIfInBounds] using s2, hq2⟩
      · exact ⟨.pointer (some ⟨g, o9, none⟩), by simp [asgT, parT, Array.getElem?_setIfInBounds, hsz2], vrep_sc.2 ⟨rfl, rfl⟩⟩
    refine wpIn_mono ((?_ : AWp Try.prog A' topX 36 _ (fun e _ => e = .normal) [(2, .val (.ptr (.lst (R.map RuT.cv)))), (7, .val (ptrV g o9))]) ⟨some (w2.heap.size + 1), []⟩ _ _ (sim_vals _ (by simp [asgT, parT, hsz2]) hf rfl)) ?_
    · have hW := hw_top A'
      have hQ : QUp (fun (U : Nat → Nat → Prop) w => XAt U w g o9 x9) := fun U V w w' h hb hU => h.keep fun b o v hu hc => by
        have hlt : b < w.heap.size := World.block_lt_of_cell? w _ hc
        exact ⟨hU b o hlt hu, by rw [cellH (hb.block b hlt)]; exact hc⟩
      have hq : (fun (U : Nat → Nat → Prop) w => XAt U w g o9 x9) topX.m A' := hx9
      refine aB (aS (aR ?_))
      (refine nx (a_load_ptr (gN rfl) rfl rfl rfl rfl rfl rfl rfl rfl rfl) rfl ?_)
      (refine nx (aM (gN rfl) rfl rfl rfl rfl rfl) rfl ?_)
      (refine nx (a_call (gN rfl) rfl rfl rfl rfl rfl (wUses_abs A' g o9 R)) rfl ?_)
      (refine nx (aA (gN rfl) rfl rfl rfl rfl rfl) rfl ?_)
      show AWp _ _ _ _ _ _ _
      refine aS (aR ?_)
      (refine nx (aM (gN rfl) rfl rfl rfl rfl rfl) rfl ?_)
      (refine nx (a_callQ hQ hW hq (gN rfl) rfl rfl rfl rfl rfl (hfirst)) rfl ?_)
      (refine nx (aM (gN rfl) rfl rfl rfl rfl rfl) rfl ?_)
      (refine nx (aX (gN rfl) rfl rfl rfl rfl rfl rfl) rfl ?_)
      (refine nx (aX (gN rfl) rfl rfl rfl rfl rfl rfl) rfl ?_)
      (refine nx (aA (gN rfl) rfl rfl rfl rfl rfl) rfl ?_)
      (refine nx (aA (gN rfl) rfl rfl rfl rfl rfl) rfl ?_)
      show AWp _ _ _ _ _ _ _
      refine aB (awp_count 0 (fun _ => [(10, .val (.b false))]) (wk_sub ⟨rfl, trivial⟩) ?_)
      intro k hk
      refine aS (aS (aR ?_))
      (refine nx (aM (gN rfl) rfl rfl rfl rfl rfl) rfl ?_)
      show AWp _ _ _ _ _ _ _
      refine aC rfl (fun hc => by cases hc) (fun _ => aE rfl)
    · rintro e a3 B ⟨a4, rfl, s', rfl, D', hv', h3⟩
      have h4 := h3.below.below fun k h => h
      rw [show A'.heap.size = A.heap.size by rw [hA', World.putObj_size]] at h4
      exact ⟨rfl, h4⟩
  case rf =>
    rintro vs A r h
    exact h.elim
  case stop =>
    intro hb
    cases hb
  case done =>
    intro _ V hV hD
    show Code.wpIn _ _ _ _ _ _ _
    have hVD : Below w2.heap.size w2 V := hV
    have hsV : Sim V topX 36 ([(1, CV.sc (.slice ao D9.length cap)), (6, .ptr (.lst []))].map fun q => (q.1, AV.val q.2)) ⟨a2.tmps, []⟩ V := sim_vals _ hsz2 (fun q hq => by
      simp only [List.mem_cons, List.not_mem_nil, or_false] at hq
      rcases hq with rfl | rfl
      · exact ⟨_, s1, vrep_sc.2 ⟨rfl, rfl⟩⟩
      · exact ⟨u6, s6, p6'.keep fun bb o v _ hc => ⟨trivial, by rw [cellH (hVD.block bb (World.block_lt_of_cell? w2 _ hc))]; exact hc⟩⟩) rfl
    have hdd : ({ a2 with defers := { target := .collected w2.heap.size, args := #[] } :: a2.defers } : Act) = wdA ⟨a2.tmps, []⟩ [⟨.collected w2.heap.size, #[]⟩] := by rw [hdf2]; rfl
    rw [hdd]
    refine wpIn_mono ((?_ : AWp Try.prog V topX 36 _ (fun e s' => e = .ret ∧ look s' 4 = some (.val (.sc (.slice ao D9.length cap))) ∧ look s' 5 = some (.val (.lst []))) [(1, .val (.sc (.slice ao D9.length cap))), (6, .val (.ptr (.lst [])))]) ⟨none, [⟨.collected w2.heap.size, #[]⟩]⟩ _ _ hsV) ?_
    · refine aS (aD (by kernel_rfl) (by kernel_rfl) ?_)
      (refine nx (aM (gN rfl) rfl rfl rfl rfl rfl) rfl ?_)
      (refine nx (a_load_ptr (gN rfl) rfl rfl rfl rfl rfl rfl rfl rfl rfl) rfl ?_)
      (refine nx (aA (gN rfl) rfl rfl rfl rfl rfl) rfl ?_)
      (refine nx (aA (gN rfl) rfl rfl rfl rfl rfl) rfl ?_)
      refine ⟨by kernel_rfl, ?_⟩
      show AWp _ _ _ _ _ _ _
      exact aT ⟨rfl, rfl, rfl⟩
    · rintro e a3 V2 ⟨a4, rfl, s', ⟨rfl, l4, l5⟩, D', hv', h3⟩
      have hV2 : Below V.heap.size V V2 := h3.below.below fun k h => h
      have hDlt := (Array.getElem?_eq_some_iff.1 hD).1
      have hD2 : V2.heap[w2.heap.size]? = some (.deferred (some [])) := (hV2.block _ hDlt).trans hD
      obtain ⟨x4, m4, p4⟩ := h3.slot 4 _ l4 (by omega)
      obtain ⟨x5, m5, p5⟩ := h3.slot 5 _ l5 (by omega)
      obtain ⟨rfl, _⟩ := vrep_sc.1 p4.1
      have hw12 : Below w.heap.size w w2 := hw1.trans (hw2.mono hw1.size)
      have hall : Below w2.heap.size w2 V2 := hVD.trans (hV2.mono hVD.size)
      have hw2s := hw12.size
      have hlst : VRep (fun b o => U b o ∨ w.heap.size ≤ b) (V2.putObj w2.heap.size (.deferred none)) (.lst []) x5 := by
        obtain ⟨a9, n9, c9, rfl, g1, g2, g3, g4, _⟩ := vrep_lst.1 p5.1
        exact vrep_lst.2 ⟨a9, n9, c9, rfl, g1, g2, g3, g4, [], .inl rfl, rfl⟩
      refine ⟨.inr rfl, w2.heap.size, rfl, hD2, .tuple #[.slice ao D9.length cap, x5], ?_, _, rfl, ⟨[_, _], rfl, _, _, rfl, ?_, _, _, rfl, hlst, rfl⟩, ?_⟩
      · have m4' : a4.tmps[4]?.getD undef = .slice ao D9.length cap := by rw [m4]; rfl
        have m5' : a4.tmps[5]?.getD undef = x5 := by rw [m5]; rfl
        simp [results, wdA, m4', m5']
      · exact hret.keep fun bb o v hu hc => by
          have hlt : bb < w1.heap.size := World.block_lt_of_cell? w1 _ hc
          have hs1 := hw2.size
          exact ⟨hu, by rw [cellH ((World.putObj_heap_other (by omega)).trans ((hall.block bb (by omega)).trans (hw2.block bb hlt)))]; exact hc⟩
      · have h9 : Below w.heap.size w V2 := hw12.trans (hall.mono hw2s)
        exact ⟨h9.os, h9.tape, h9.output, by rw [World.putObj_size]; exact h9.size, fun k hk => (World.putObj_heap_other (by omega)).trans (h9.block k hk)⟩
end Go.Proofs.Ytekboofbedakcaa
