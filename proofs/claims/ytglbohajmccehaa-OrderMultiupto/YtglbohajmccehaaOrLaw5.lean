/-
  OrderMulti: what two lists share plays no part, nor does order within a list; one term more makes a list greater.
-/
import Derived.Test.YtglbohajmccehaaMg4
import Derived.Test.YtglbohajmccehaaAbShp
import Derived.Test.YtglbohajmccehaaRows
import Derived.OpenShut
import Derived.ChangeArms
namespace Go.Proofs.Ytglbohajmccehaa
open Go.RowKit Go.ChangeShapes
set_option linter.unusedVariables false
set_option linter.unusedSimpArgs false
set_option maxRecDepth 100000

theorem rot_at (a : List Tm) (n k : Nat) (hk : k < a.length) : (a.drop (n % a.length) ++ a.take (n % a.length))[k]? = a[(k + n) % a.length]? := by
  have hl : 0 < a.length := by omega
  have hr : n % a.length < a.length := Nat.mod_lt _ hl
  obtain ⟨r, hrr⟩ : ∃ r, r = n % a.length := ⟨_, rfl⟩
  have e : (k + n) % a.length = (k + r) % a.length := by rw [hrr, Nat.add_mod_mod]
  rw [← hrr, e]
  rw [← hrr] at hr
  by_cases h : k < a.length - r
  · rw [List.getElem?_append_left (by rw [List.length_drop]; exact h), List.getElem?_drop, Nat.mod_eq_of_lt (by omega), Nat.add_comm]
  · rw [List.getElem?_append_right (by rw [List.length_drop]; omega), List.length_drop, List.getElem?_take, if_pos (by omega), Nat.mod_eq_sub_mod (by omega), Nat.mod_eq_of_lt (by omega)]
    congr 1
    omega
theorem rot_cn (a : List Tm) (r : Nat) (s : Tm) : cn s (a.drop r ++ a.take r) = cn s a := by
  rw [cn_app, Nat.add_comm, ← cn_app, List.take_append_drop]
def ShpB (P : Program) : Nat → TypeId → CV → Prop
  | 0, _, _ => False
  | n + 1, ty, c => match P.underlying ty with
    | some (.int k) => ∃ z, c = .sc (.int k z) ∧ (Lit.int k z).wf = true
    | some .bool => ∃ b, c = .b b
    | some .string => ∃ s : ByteArray, c = .sc (.string s) ∧ s.size ≤ maxLen
    | some (.slice e) => ∃ l, c = .lst l ∧ l.length ≤ 1048576 ∧ ∀ x ∈ l, ShpB P n e x
    | some (.struct fs) => ∃ l, c = .row l ∧ l.length = fs.size ∧ ∀ (i : Nat) (f : Field) (x : CV), fs[i]? = some f → l[i]? = some x → ShpB P n f.type x
    | _ => False
theorem bk_one {H : Type} (d : DataW H) : 1 ≤ Rows.uptoBulk d := by
  cases d with
  | lit l => cases l <;> simp [Rows.uptoBulk]
  | nil => simp [Rows.uptoBulk]
  | ptr d => simp [Rows.uptoBulk]
  | slice elems spare => simp [Rows.uptoBulk]
  | agg parts => simp [Rows.uptoBulk]
  | iface t d => simp [Rows.uptoBulk]
  | map entries => simp [Rows.uptoBulk]
  | held h => simp [Rows.uptoBulk]
theorem bk_part {H : Type} {d : DataW H} {l : List (DataW H)} (h : d ∈ l) : Rows.uptoBulk d ≤ Rows.uptoBulkAll l := by
  induction l with
  | nil => cases h
  | cons x r ih =>
    simp only [Rows.uptoBulkAll]
    rcases List.mem_cons.1 h with rfl | h
    · omega
    · have := ih h; omega
theorem bk_len {H : Type} (l : List (DataW H)) : l.length ≤ Rows.uptoBulkAll l := by
  induction l with
  | nil => simp [Rows.uptoBulkAll]
  | cons x r ih => have := bk_one x; simp only [Rows.uptoBulkAll, List.length_cons]; omega
theorem bk_slice {H : Type} (elems spare : List (DataW H)) : Rows.uptoBulkAll elems + 1 ≤ Rows.uptoBulk (.slice elems spare) := by
  simp only [Rows.uptoBulk]
  omega
section
variable {H : Type} {enc : TypeId × Value → H} {w : World} {held : Bool} {P : Program}
theorem open_fieldsB {n : Nat} {cs : List Value} : ∀ {fs : List Field} {o : Nat} {sz : List Nat}, szO P fs o = some sz → (∀ f ∈ fs, ∃ c, Rep (fun _ _ => True) w c ((cs.drop f.offset).take (P.cellsOf f.type)) ∧ ShpB P n f.type c) → cs.length = o + sz.sum →
    ∃ l : List CV, l.length = fs.length ∧ Sq (l.map fun c => Rep (fun _ _ => True) w c) (cs.drop o) ∧ ∀ (i : Nat) (f : Field) (x : CV), fs[i]? = some f → l[i]? = some x → ShpB P n f.type x
  | [], o, sz, h, _, hl => by
    simp [szO] at h
    subst h
    exact ⟨[], rfl, by show cs.drop o = []; rw [List.drop_eq_nil_of_le (by simp at hl; omega)], fun i f x hi => by simp at hi⟩
  | f :: fs, o, sz, h, hf, hl => by
    unfold szO at h
    split at h
    · rename_i it h1 h2
      split at h
      · rename_i r hr
        cases h
        have ho : f.offset = o := Nat.eq_of_beq_eq_true h1
        have hc : P.cellsOf f.type = it.size := by simp [Program.cellsOf, h2]
        obtain ⟨c, hrep, hshp⟩ := hf f (by simp)
        rw [ho, hc] at hrep
        rw [List.sum_cons] at hl
        obtain ⟨l, g1, g2, g3⟩ := open_fieldsB (n := n) hr (fun g hg => hf g (List.mem_cons_of_mem _ hg)) (by omega)
        refine ⟨c :: l, by simp [g1], ⟨(cs.drop o).take it.size, cs.drop (o + it.size), ?_, hrep, g2⟩, fun i g x hi hx => ?_⟩
        · rw [← List.drop_drop, List.take_append_drop]
        · cases i with
          | zero => simp at hi hx; subst hi; subst hx; exact hshp
          | succ i => exact g3 i g x (by simpa using hi) (by simpa using hx)
      · cases h
    · cases h

theorem open_cvB {ts : List TypeId} (hts : okTys P ts = true) : ∀ (fuel : Nat) {ty : TypeId} {cs : List Value} {x : DataW H × List MemPlace}, ty ∈ ts → DataW.trod enc P w 0 (fun _ => true) held fuel ty cs = some x → Rows.uptoBulk x.1 ≤ 1048576 → ∃ c, Rep (fun _ _ => True) w c cs ∧ ShpB P fuel ty c := by
  intro fuel
  induction fuel with
  | zero => intro ty cs x _ h; simp [DataW.trod] at h
  | succ n ih =>
    intro ty cs x hty h hbk
    have hok := (List.all_eq_true.1 hts) ty hty
    cases hu : P.underlying ty with
    | none => rw [hu] at hok; cases hok
    | some d =>
      rw [hu] at hok
      cases d with
      | int k =>
        obtain ⟨z, rfl, _, hw⟩ := DataW.trod_int hu h
        exact ⟨_, rep_int k z, by rw [ShpB, hu]; exact ⟨z, rfl, hw⟩⟩
      | bool =>
        obtain ⟨b, rfl, _⟩ := DataW.trod_bool hu h
        exact ⟨_, rep_bool b, by rw [ShpB, hu]; exact ⟨b, rfl⟩⟩
      | string =>
        obtain ⟨s, rfl, _, hs⟩ := DataW.trod_string hu h
        exact ⟨.sc (.string s), rep_sc.2 ⟨rfl, rfl⟩, by rw [ShpB, hu]; exact ⟨s, rfl, hs⟩⟩
      | slice e =>
        simp only [Bool.and_eq_true] at hok
        have he : e ∈ ts := by simpa using hok.1
        have hz := bL hok.2
        rcases DataW.trod_slice hu h with ⟨rfl, _⟩ | ⟨ad, len, cap, elems, rest, m, hm, rfl, hxe, _, hle, hcm, hel, hr, _⟩
        · exact ⟨_, rep_nil _ _, by rw [ShpB, hu]; exact ⟨[], rfl, by simp, fun x hx => by cases hx⟩⟩
        · obtain rfl : n = m := by omega
          rw [hxe] at hbk
          have hbs := bk_slice (elems.map (·.1)) (rest.map (·.1))
          have hbl : len ≤ 1048576 := by have := bk_len (elems.map (·.1)); rw [List.length_map] at this; have hbk : Rows.uptoBulk (.slice (elems.map (·.1)) (rest.map (·.1))) ≤ 1048576 := hbk; omega
          obtain ⟨z, hzd⟩ : ∃ z, z = P.cellsOf e := ⟨_, rfl⟩
          rw [← hzd] at hz hr
          have each : ∀ i, i < len → ∃ (c : CV) (ys : List Value), Rep (fun _ _ => True) w c ys ∧ ShpB P n e c ∧ ys.length = z ∧ ∀ j, j < z → w.cell? (ad.add (i * z + j)) = ys[j]? := by
            intro i hi
            have h1 := hr i hi
            rw [List.getElem?_eq_getElem (by omega), Option.bind_eq_some_iff] at h1
            obtain ⟨ys, h2, h3⟩ := h1
            obtain ⟨_, h4, h5⟩ := World.cells?_some h2
            obtain ⟨c, h6, h7⟩ := ih he h3 (by
              have h8 := bk_part (l := elems.map (·.1)) (d := (elems[i]'(by omega)).1) (List.mem_map.2 ⟨_, List.getElem_mem _, rfl⟩)
              have hbk : Rows.uptoBulk (.slice (elems.map (·.1)) (rest.map (·.1))) ≤ 1048576 := hbk
              omega)
            exact ⟨c, ys, h6, h7, h4, fun j hj => by rw [← Addr.add_add]; exact h5 j hj⟩
          have build : ∀ k, k ≤ len → ∃ (l : List CV) (ys : List Value), l.length = k ∧ ys.length = k * z ∧ Sq (l.map fun c => Rep (fun _ _ => True) w c) ys ∧ (∀ x ∈ l, ShpB P n e x) ∧ ∀ i, i < k * z → w.cell? (ad.add i) = ys[i]? := by
            intro k
            induction k with
            | zero => intro _; exact ⟨[], [], rfl, by simp, rfl, (fun x hx => by cases hx), (fun i hi => by rw [Nat.zero_mul] at hi; omega)⟩
            | succ k ih2 =>
              intro hk
              obtain ⟨l, ys, h1, h0, h2, h3, h4⟩ := ih2 (by omega)
              obtain ⟨c, zs, g1, g2, g3, g4⟩ := each k (by omega)
              refine ⟨l ++ [c], ys ++ zs, by simp [h1], by rw [List.length_append, h0, g3, Nat.add_mul, Nat.one_mul], ?_, fun x hx => ?_, fun i hi => ?_⟩
              · rw [List.map_append]; exact sq_append h2 (sq_single g1)
              · rcases List.mem_append.1 hx with hx | hx
                · exact h3 x hx
                · rw [List.mem_singleton.1 hx]; exact g2
              · rcases Nat.lt_or_ge i (k * z) with h | h
                · rw [h4 i h, List.getElem?_append_left (by omega)]
                · rw [List.getElem?_append_right (by omega), h0]
                  have := g4 (i - k * z) (by rw [Nat.add_mul, Nat.one_mul] at hi; omega)
                  rw [show k * z + (i - k * z) = i by omega] at this
                  exact this
          obtain ⟨l, ys, h1, h0, h2, h3, h4⟩ := build len (Nat.le_refl _)
          refine ⟨.lst l, rep_lst.2 ⟨some ad, len, cap, rfl, h1.symm, hle, hcm, (fun h => by cases h), ys, ?_, h2⟩, by rw [ShpB, hu]; exact ⟨l, rfl, by omega, h3⟩⟩
          rcases Nat.eq_zero_or_pos len with hz0 | hz0
          · exact .inl (List.eq_nil_of_length_eq_zero (by rw [h0, hz0]; simp))
          · obtain ⟨b, off, spot⟩ := ad
            have hpos : 0 < len * z := Nat.mul_pos hz0 hz
            have hc0 := h4 0 hpos
            rw [List.getElem?_eq_getElem (by omega)] at hc0
            have hspot : spot = none := by simpa [Addr.add] using World.cell?_spot hc0
            subst hspot
            refine .inr ⟨b, off, rfl, fun i hi => ⟨trivial, ?_⟩⟩
            have := h4 i (by omega)
            rw [show (⟨b, off, none⟩ : Addr).add i = ⟨b, off + i, none⟩ by unfold Addr.add; split <;> simp_all] at this
            exact this
      | struct fs =>
        simp only [Bool.and_eq_true] at hok
        obtain ⟨xs, m, hm, hxe, hl, hx, hf⟩ := DataW.trod_struct hu h
        rw [hxe] at hbk
        obtain rfl : n = m := by omega
        have hsz : ∃ sz, szO P fs.toList 0 = some sz ∧ sz.sum = P.cellsOf ty := by
          have h2 := hok.2
          split at h2
          · rename_i sz hs; exact ⟨sz, hs, Nat.eq_of_beq_eq_true h2⟩
          · cases h2
        obtain ⟨sz, hs1, hs2⟩ := hsz
        have hfs : ∀ f ∈ fs.toList, ∃ c, Rep (fun _ _ => True) w c ((cs.drop f.offset).take (P.cellsOf f.type)) ∧ ShpB P n f.type c := fun f hfm => by
          obtain ⟨i, hi, he⟩ := List.mem_iff_getElem.1 hfm
          have hi' : fs[i]? = some f := by rw [← Array.getElem?_toList, List.getElem?_eq_getElem hi, he]
          have h3 := hf i f hi'
          have hil : i < xs.length := by rw [hx]; simpa using hi
          rw [List.getElem?_eq_getElem hil] at h3
          refine ih ?_ h3 (by
            have h8 := bk_part (l := xs.map (·.1)) (d := (xs[i]'hil).1) (List.mem_map.2 ⟨_, List.getElem_mem _, rfl⟩)
            have h9 : Rows.uptoBulk (.agg (xs.map (·.1))) = Rows.uptoBulkAll (xs.map (·.1)) + 1 := by simp only [Rows.uptoBulk]
            have hbk : Rows.uptoBulk (.agg (xs.map (·.1))) ≤ 1048576 := hbk
            omega)
          have := (List.all_eq_true.1 hok.1) f hfm
          simpa using this
        obtain ⟨l, g1, g2, g3⟩ := open_fieldsB (P := P) (w := w) (n := n) (cs := cs) hs1 hfs (by rw [hl, hs2]; omega)
        refine ⟨.row l, rep_row.2 (by simpa using g2), ?_⟩
        rw [ShpB, hu]
        exact ⟨l, rfl, by simpa using g1, fun i f x hi hx => g3 i f x (by rw [← Array.getElem?_toList] at hi; exact hi) hx⟩
      | _ => cases hok
theorem vrepB_agg {ty : TypeId} {fs : Array Field} (hu : P.underlying ty = some (.struct fs)) {n : Nat} {c : CV} {cs : Array Value} (h1 : Rep (fun _ _ => True) w c cs.toList) (h2 : ShpB P n ty c) : VRep (fun _ _ => True) w c (.agg cs) := by
  cases n with
  | zero => exact h2.elim
  | succ n =>
    rw [ShpB, hu] at h2
    obtain ⟨l, rfl, _⟩ := h2
    exact ⟨cs.toList, by simp, h1⟩
theorem vrepB_sl {ty e : TypeId} (hu : P.underlying ty = some (.slice e)) {n : Nat} {c : CV} {v : Value} (h1 : Rep (fun _ _ => True) w c [v]) (h2 : ShpB P n ty c) : VRep (fun _ _ => True) w c v := by
  cases n with
  | zero => exact h2.elim
  | succ n =>
    rw [ShpB, hu] at h2
    obtain ⟨l, rfl, _⟩ := h2
    exact h1
end
theorem shp_intB {n : Nat} {c : CV} (h : ShpB Try.prog n 3 c) : ∃ z, c = .i z ∧ -9223372036854775808 ≤ z ∧ z ≤ 9223372036854775807 := by
  cases n with
  | zero => exact h.elim
  | succ n =>
    rw [ShpB, Try.underlying3] at h
    obtain ⟨z, h1, h2⟩ := h
    exact ⟨z, h1, wfI64 h2⟩
theorem shp_tmB : ∀ (n : Nat) {c : CV}, ShpB Try.prog n 29 c → ∃ t : Tm, c = t.cw ∧ t.rng ∧ t.ok := by
  intro n
  induction n using Nat.strongRecOn with
  | ind n ih =>
    intro c h
    cases n with
    | zero => exact h.elim
    | succ n =>
      rw [ShpB, Try.underlying29] at h
      obtain ⟨l, rfl, hl, hf⟩ := h
      match l, hl with
      | [x, y], _ =>
        obtain ⟨z, rfl, hz⟩ := shp_intB (hf 0 _ x rfl rfl)
        have hy := hf 1 _ y rfl rfl
        cases n with
        | zero => exact hy.elim
        | succ n =>
          have hy : ShpB Try.prog (n + 1) 22 y := hy
          rw [ShpB, Try.underlying22] at hy
          obtain ⟨m, rfl, hml, hm⟩ := hy
          obtain ⟨ts, h1, h2⟩ := list_of Tm.cv (fun t => t.rng ∧ t.ok) (l := m) (fun x hx => by
            obtain ⟨t, h1, h2⟩ := ih n (by omega) (hm x hx)
            exact ⟨t, by rw [h1, Tm.cv_eq], h2⟩)
          exact ⟨⟨z, ts⟩, by rw [h1], (Tm.rng_iff _).2 ⟨hz, fun t ht => (h2 t ht).1⟩, (Tm.ok_iff _).2 ⟨by show ts.length ≤ _; rw [h1, List.length_map] at hml; omega, fun t ht => (h2 t ht).2⟩⟩
theorem shp_tmsB {n : Nat} {c : CV} (h : ShpB Try.prog n 22 c) : ∃ l : List Tm, c = .lst (l.map Tm.cv) ∧ ∀ t ∈ l, t.rng ∧ t.ok := by
  cases n with
  | zero => exact h.elim
  | succ n =>
    rw [ShpB, Try.underlying22] at h
    obtain ⟨l, rfl, _, hl⟩ := h
    obtain ⟨m, h1, h2⟩ := list_of Tm.cv (fun t => t.rng ∧ t.ok) (l := l) (fun x hx => by
      obtain ⟨t, rfl, ht⟩ := shp_tmB n (hl x hx)
      exact ⟨t, (Tm.cv_eq t).symm, ht⟩)
    exact ⟨m, by rw [h1], h2⟩

-- 
set_option maxHeartbeats 8000000 in
theorem orderMulti_abs (W : World) (a b : List Tm) (c : Tm) (n : Nat) (har : ∀ t ∈ a, t.rng) (hbr : ∀ t ∈ b, t.rng) (hcr : c.rng) (hn : n ≤ 255) (hao : ∀ t ∈ a, t.ok) : AFun Try.prog W 7 [.lst (a.map Tm.cv), .lst (b.map Tm.cv), c.cw, .sc (.int .u8 (n : Int))] (.val (.b true)) := by
  have hsa := Tm.size_all a
  have hsb := Tm.size_all b
  refine afun_of (rs := [.b true]) Try.func7 Try.ntmps7 rfl rfl rfl rfl ?_
  intro w U hW
  refine aS (aR ?_)
  (refine nx (a_box (gN rfl) rfl rfl rfl rfl rfl) rfl ?_)
  (refine nx (aA (gN rfl) rfl rfl rfl rfl rfl) rfl ?_)
  show AWp _ _ _ _ _ _ _
  refine aS (aS (aR ?_))
  (refine nx (a_call (gN rfl) rfl rfl rfl rfl rfl (alive14_abs w)) rfl ?_)
  (refine nx (a_not (gN rfl) rfl rfl rfl rfl rfl) rfl ?_)
  show AWp _ _ _ _ _ _ _
  refine aC rfl (fun hc => by cases hc) (fun _ => aK ?_)
  show AWp _ _ _ _ _ _ _
  have hsmc := small_abs w c 10 8 hcr (by decide) (by decide) (by decide) (by decide)
  obtain ⟨bad, hbad⟩ : ∃ bad : Bool, bad = (decide (((a.map Tm.cv).length : Int) > 5) || (decide (((b.map Tm.cv).length : Int) > 5) || decide (smallT c 10 8 < 0))) := ⟨_, rfl⟩
  refine aS ?_
  refine awp_mid [(0, .val (.lst (a.map Tm.cv))), (1, .val (.lst (b.map Tm.cv))), (3, .val (.sc (.int .u8 (n : Int)))), (6, .bp 6 0 []), (100006, .bx c.cw), (33, .val (.b bad))] ?_ ?_
  · cases g1 : decide (((a.map Tm.cv).length : Int) > 5) with
    | true =>
      rw [g1, Bool.true_or] at hbad
      rw [hbad]
      refine aR ?_
      (refine nx (aM (gN rfl) rfl rfl rfl rfl rfl) rfl ?_)
      (refine nx (a_len (gN rfl) rfl rfl rfl rfl rfl rfl rfl) rfl ?_)
      (refine nx (a_gtr (gN rfl) rfl rfl rfl rfl rfl rfl) rfl ?_)
      (refine nx (aM (gN rfl) rfl rfl rfl rfl rfl) rfl ?_)
      (refine ⟨_, _, _, a_off (go_off rfl rfl rfl rfl (by first | rfl | assumption | (simp; done) | (simp [*]; done))) rfl rfl rfl, rfl, ?_⟩)
      (refine ⟨_, _, _, a_off (go_off rfl rfl rfl rfl (by first | rfl | assumption | (simp; done) | (simp [*]; done))) rfl rfl rfl, rfl, ?_⟩)
      (refine ⟨_, _, _, a_off (go_off rfl rfl rfl rfl (by first | rfl | assumption | (simp; done) | (simp [*]; done))) rfl rfl rfl, rfl, ?_⟩)
      (refine ⟨_, _, _, aPt (gN rfl) rfl rfl rfl rfl rfl ?hb rfl, rfl, ?_⟩; case hb => (first | rfl | assumption | (simp; done)))
      (refine nx (aM (gN rfl) rfl rfl rfl rfl rfl) rfl ?_)
      (refine ⟨_, _, _, a_off (go_off rfl rfl rfl rfl (by first | rfl | assumption | (simp; done) | (simp [*]; done))) rfl rfl rfl, rfl, ?_⟩)
      (refine ⟨_, _, _, a_off (go_off rfl rfl rfl rfl (by first | rfl | assumption | (simp; done) | (simp [*]; done))) rfl rfl rfl, rfl, ?_⟩)
      (refine ⟨_, _, _, a_off (go_off rfl rfl rfl rfl (by first | rfl | assumption | (simp; done) | (simp [*]; done))) rfl rfl rfl, rfl, ?_⟩)
      (refine ⟨_, _, _, aPt (gN rfl) rfl rfl rfl rfl rfl ?hb rfl, rfl, ?_⟩; case hb => (first | rfl | assumption | (simp; done)))
      exact wk_sub ⟨rfl, rfl, rfl, rfl, rfl, rfl, trivial⟩
    | false =>
      rw [g1, Bool.false_or] at hbad
      cases g2 : decide (((b.map Tm.cv).length : Int) > 5) with
      | true =>
        rw [g2, Bool.true_or] at hbad
        rw [hbad]
        refine aR ?_
        (refine nx (aM (gN rfl) rfl rfl rfl rfl rfl) rfl ?_)
        (refine nx (a_len (gN rfl) rfl rfl rfl rfl rfl rfl rfl) rfl ?_)
        (refine nx (a_gtr (gN rfl) rfl rfl rfl rfl rfl rfl) rfl ?_)
        (refine nx (aM (gN rfl) rfl rfl rfl rfl rfl) rfl ?_)
        (refine nx (aM (gd_on rfl rfl rfl rfl (by first | rfl | assumption | (simp; done))) rfl rfl rfl rfl rfl) rfl ?_)
        (refine nx (a_len (gd_on rfl rfl rfl rfl (by first | rfl | assumption | (simp; done))) rfl rfl rfl rfl rfl rfl rfl) rfl ?_)
        (refine nx (a_gtr (gd_on rfl rfl rfl rfl (by first | rfl | assumption | (simp; done))) rfl rfl rfl rfl rfl rfl) rfl ?_)
        (refine ⟨_, _, _, aPf (gN rfl) rfl rfl rfl rfl rfl ?hb rfl, rfl, ?_⟩; case hb => (first | rfl | assumption | (simp; done)))
        (refine nx (aM (gN rfl) rfl rfl rfl rfl rfl) rfl ?_)
        (refine ⟨_, _, _, a_off (go_off rfl rfl rfl rfl (by first | rfl | assumption | (simp; done) | (simp [*]; done))) rfl rfl rfl, rfl, ?_⟩)
        (refine ⟨_, _, _, a_off (go_off rfl rfl rfl rfl (by first | rfl | assumption | (simp; done) | (simp [*]; done))) rfl rfl rfl, rfl, ?_⟩)
        (refine ⟨_, _, _, a_off (go_off rfl rfl rfl rfl (by first | rfl | assumption | (simp; done) | (simp [*]; done))) rfl rfl rfl, rfl, ?_⟩)
        (refine ⟨_, _, _, aPt (gN rfl) rfl rfl rfl rfl rfl ?hb rfl, rfl, ?_⟩; case hb => (first | rfl | assumption | (simp; done)))
        refine wk_sub ⟨rfl, rfl, rfl, rfl, rfl, ?_, trivial⟩
        rfl
      | false =>
        rw [g2, Bool.false_or] at hbad
        rw [hbad]
        refine aR ?_
        (refine nx (aM (gN rfl) rfl rfl rfl rfl rfl) rfl ?_)
        (refine nx (a_len (gN rfl) rfl rfl rfl rfl rfl rfl rfl) rfl ?_)
        (refine nx (a_gtr (gN rfl) rfl rfl rfl rfl rfl rfl) rfl ?_)
        (refine nx (aM (gN rfl) rfl rfl rfl rfl rfl) rfl ?_)
        (refine nx (aM (gd_on rfl rfl rfl rfl (by first | rfl | assumption | (simp; done))) rfl rfl rfl rfl rfl) rfl ?_)
        (refine nx (a_len (gd_on rfl rfl rfl rfl (by first | rfl | assumption | (simp; done))) rfl rfl rfl rfl rfl rfl rfl) rfl ?_)
        (refine nx (a_gtr (gd_on rfl rfl rfl rfl (by first | rfl | assumption | (simp; done))) rfl rfl rfl rfl rfl rfl) rfl ?_)
        (refine ⟨_, _, _, aPf (gN rfl) rfl rfl rfl rfl rfl ?hb rfl, rfl, ?_⟩; case hb => (first | rfl | assumption | (simp; done)))
        (refine nx (aM (gN rfl) rfl rfl rfl rfl rfl) rfl ?_)
        (refine nx (aL (gd_on rfl rfl rfl rfl (by first | rfl | assumption | (simp; done))) rfl rfl rfl rfl rfl rfl rfl rfl rfl rfl rfl rfl) rfl ?_)
        (refine nx (a_call (gd_on rfl rfl rfl rfl (by first | rfl | assumption | (simp; done))) rfl rfl rfl rfl rfl (hsmc)) rfl ?_)
        (refine nx (a_lss (gd_on rfl rfl rfl rfl (by first | rfl | assumption | (simp; done))) rfl rfl rfl rfl rfl rfl) rfl ?_)
        (refine ⟨_, _, _, aPf (gN rfl) rfl rfl rfl rfl rfl ?hb rfl, rfl, ?_⟩; case hb => (first | rfl | assumption | (simp; done)))
        exact wk_sub ⟨rfl, rfl, rfl, rfl, rfl, rfl, trivial⟩
  refine aC rfl (fun hc => ?_) (fun hc => ?_)
  · refine aS (aR ?_)
    (refine nx (aA (gN rfl) rfl rfl rfl rfl rfl) rfl ?_)
    show AWp _ _ _ _ _ _ _
    exact aT (And.intro (.inr rfl) rfl)
  have hc : bad = false := hc
  rw [hc] at hbad
  have hbad := hbad.symm
  simp only [Bool.or_eq_false_iff, decide_eq_false_iff_not, List.length_map] at hbad
  obtain ⟨hal, hbl, hcs⟩ := hbad
  obtain ⟨hcf, _⟩ := small_fit (size := 10) (by decide) (by decide) (show 0 ≤ smallT c 10 8 by omega)
  refine aK ?_
  show AWp _ _ _ _ _ _ _
  refine aS (aR ?_)
  (refine nx (aA (gN rfl) rfl rfl rfl rfl rfl) rfl ?_)
  (refine nx (aA (gN rfl) rfl rfl rfl rfl rfl) rfl ?_)
  show AWp _ _ _ _ _ _ _
  refine aS (aS (aR ?_))
  (refine nx (aA (gN rfl) rfl rfl rfl rfl rfl) rfl ?_)
  show AWp _ _ _ _ _ _ _
  obtain ⟨R, hR⟩ : ∃ R, R = a.drop (n % a.length) ++ a.take (n % a.length) := ⟨_, rfl⟩
  have hRl : R.length ≤ 5 := by rw [hR, List.length_append, List.length_drop, List.length_take]; omega
  have hRle : R.length = a.length := by
    rw [hR, List.length_append, List.length_drop, List.length_take]
    omega
  let st : Nat → AS := fun k => [(0, .val (.lst (a.map Tm.cv))), (1, .val (.lst (b.map Tm.cv))), (3, .val (.sc (.int .u8 (n : Int)))), (6, .bp 6 0 []), (100006, .bx c.cw), (9, .own (.lst ((R.take k).map Tm.cv)) 200059), (200059, .tok 31 2), (10, .own (.lst []) 1), (11, .val (.i k))]
  refine aB (awp_countI a.length (fun k => ∀ t ∈ a.take k, t.fit) st ((wk_nil 9 200059 31 2 rfl rfl rfl rfl rfl rfl rfl).trans (wk_sub ⟨rfl, rfl, rfl, rfl, rfl, rfl, rfl, rfl, rfl, trivial⟩)) (by simp) ?_)
  intro k hk hI
  refine aS (aS (aR ?_))
  (refine nx (aM (gN rfl) rfl rfl rfl rfl rfl) rfl ?_)
  (refine nx (aM (gN rfl) rfl rfl rfl rfl rfl) rfl ?_)
  (refine nx (a_len (gN rfl) rfl rfl rfl rfl rfl rfl rfl) rfl ?_)
  (refine nx (a_lss (gN rfl) rfl rfl rfl rfl rfl rfl) rfl ?_)
  show AWp _ _ _ _ _ _ _
  refine aC rfl (fun hlt => ?_) (fun hlt => ?_)
  · have hkl : k < a.length := by simpa using hlt
    obtain ⟨x, hx⟩ : ∃ x, a[k]? = some x := ⟨a[k], List.getElem?_eq_getElem hkl⟩
    have hx' := Tm.map_at hx
    have hxr := har x (List.mem_of_getElem? hx)
    refine aK ?_
    show AWp _ _ _ _ _ _ _
    refine aS (aB (aS (aS (aR ?_))))
    (refine nx (aM (gN rfl) rfl rfl rfl rfl rfl) rfl ?_)
    (refine nx (aM (gN rfl) rfl rfl rfl rfl rfl) rfl ?_)
    (refine nx (a_index (j := k) (gN rfl) rfl rfl rfl rfl rfl rfl rfl rfl rfl (hx') rfl (hsa)) rfl ?_)
    (refine nx (a_load_ad (gN rfl) rfl rfl rfl rfl rfl rfl rfl rfl rfl) rfl ?_)
    (refine nx (a_call (gN rfl) rfl rfl rfl rfl rfl (small_abs w x 10 8 hxr (by decide) (by decide) (by decide) (by decide))) rfl ?_)
    (refine nx (a_lss (gN rfl) rfl rfl rfl rfl rfl rfl) rfl ?_)
    show AWp _ _ _ _ _ _ _
    refine aC rfl (fun hs => ?_) (fun hs => ?_)
    · refine aS (aR ?_)
      (refine nx (aA (gN rfl) rfl rfl rfl rfl rfl) rfl ?_)
      show AWp _ _ _ _ _ _ _
      exact aT (And.intro (.inr rfl) rfl)
    · have hs : decide (smallT x 10 8 < 0) = false := hs
      obtain ⟨hxf, _⟩ := small_fit (size := 10) (by decide) (by decide) (show 0 ≤ smallT x 10 8 by have := of_decide_eq_false hs; omega)
      have hml : (k + n) % a.length < a.length := Nat.mod_lt _ (by omega)
      obtain ⟨y, hy⟩ : ∃ y, a[(k + n) % a.length]? = some y := ⟨a[(k + n) % a.length], List.getElem?_eq_getElem hml⟩
      have hy' := Tm.map_at hy
      have hyR : R[k]? = some y := by rw [hR, rot_at a n k hkl]; exact hy
      have hmod : Int.tmod ((k : Int) + (n : Int)) ((a.map Tm.cv).length : Int) = (((k + n) % a.length : Nat) : Int) := by
        rw [List.length_map, Int.tmod_eq_emod_of_nonneg (by omega), Int.natCast_emod, Int.natCast_add]
      have hne : ((a.map Tm.cv).length : Int) ≠ 0 := by rw [List.length_map]; omega
      have hsR := Tm.size_all (R.take k)
      have hlR : ((R.take k).map Tm.cv).length ≤ 5 := by rw [List.length_map, List.length_take]; omega
      have hlR2 : (R.take k).length ≤ 5 := by rw [List.length_take]; omega
      have hyo : y.ok := hao y (List.mem_of_getElem? hy)
      refine aK ?_
      show AWp _ _ _ _ _ _ _
      refine aR ?_
      (refine nx (aM (gN rfl) rfl rfl rfl rfl rfl) rfl ?_)
      (refine nx (aM (gN rfl) rfl rfl rfl rfl rfl) rfl ?_)
      (refine nx (aM (gN rfl) rfl rfl rfl rfl rfl) rfl ?_)
      (refine nx (aM (gN rfl) rfl rfl rfl rfl rfl) rfl ?_)
      (refine nx (a_conv (gN rfl) rfl rfl rfl rfl rfl rfl rfl (by first | rfl | (rw [IntKind.wrap_i64]; omega) | assumption)) rfl ?_)
      (refine nx (a_add (gN rfl) rfl rfl rfl rfl rfl rfl (by first | omega | (simp only [List.length_map, List.length_append, List.length_cons, List.length_nil] <;> omega) | (simp <;> omega))) rfl ?_)
      (refine nx (aM (gN rfl) rfl rfl rfl rfl rfl) rfl ?_)
      (refine nx (a_len (gN rfl) rfl rfl rfl rfl rfl rfl rfl) rfl ?_)
      (refine nx (a_rem (gN rfl) rfl rfl rfl rfl rfl rfl (by first | decide | assumption)) rfl ?_)
      (refine nx (a_index (j := ((k + n) % a.length)) (gN rfl) rfl rfl rfl rfl rfl rfl rfl rfl (by first | assumption | exact (by first | rfl | omega | (simp only [List.length_set, List.length_map, List.length_append, List.length_cons, List.length_nil] <;> omega) | (simp <;> omega))) (hy') rfl (hsa)) rfl ?_)
      (refine nx (a_load_ad (gN rfl) rfl rfl rfl rfl rfl rfl rfl rfl rfl) rfl ?_)
      (refine nx (a_call (gN rfl) rfl rfl rfl rfl rfl (of_abs w y hyo)) rfl ?_)
      (refine nx (a_bslice (gN rfl) rfl rfl rfl rfl rfl rfl rfl rfl rfl rfl rfl rfl rfl) rfl ?_)
      (refine nx (a_app (gN rfl) rfl rfl rfl rfl rfl rfl rfl rfl rfl rfl rfl rfl rfl rfl rfl (by first | assumption | exact sZ rfl | exact Tm.size_all _ | exact Bd.size_all _ | exact ints_size _ | exact bys_size _ | exact Lt.size_all _) (by first | assumption | exact sZ rfl | exact Tm.size_all _ | exact Bd.size_all _ | exact ints_size _ | exact bys_size _ | exact Lt.size_all _) (by first | omega | (simp only [List.length_map, List.length_append, List.length_cons, List.length_nil] <;> omega) | (simp <;> omega))) rfl ?_)
      (refine nx (aA (gN rfl) rfl rfl rfl rfl rfl) rfl ?_)
      show AWp _ _ _ _ _ _ _
      refine AWp.wk ((wk_sub (s' := [(0, .val (.lst (a.map Tm.cv))), (1, .val (.lst (b.map Tm.cv))), (3, .val (.sc (.int .u8 (n : Int)))), (6, .bp 6 0 []), (100006, .bx c.cw), (9, .own (.lst ((R.take (k + 1)).map Tm.cv)) 300059), (300059, .tok 31 2), (10, .own (.lst []) 1), (11, .val (.i k))]) ⟨rfl, rfl, rfl, rfl, rfl, ?_, rfl, rfl, rfl, trivial⟩).trans (wk_ren 300059 200059 rfl rfl rfl rfl)) ?_
      · show some (AV.own (.lst _) _) = some (AV.own (.lst _) _)
        rw [List.take_add_one, hyR, Option.toList_some, List.map_append, List.map_cons, List.map_nil, Tm.cv_eq y]
      refine aR ?_
      (refine nx (aM (gN rfl) rfl rfl rfl rfl rfl) rfl ?_)
      (refine nx (a_add (gN rfl) rfl rfl rfl rfl rfl rfl (by first | omega | (simp only [List.length_map, List.length_append, List.length_cons, List.length_nil] <;> omega) | (simp <;> omega))) rfl ?_)
      (refine nx (aA (gN rfl) rfl rfl rfl rfl rfl) rfl ?_)
      refine ⟨hkl, ?_, wk_sub ⟨rfl, rfl, rfl, rfl, rfl, rfl, rfl, rfl, rfl, trivial⟩⟩
      intro z hz
      rw [List.take_add_one, hx, List.mem_append] at hz
      rcases hz with hz | hz
      · exact hI z hz
      · simp at hz; rw [hz]; exact hxf
  have hkl : k = a.length := by
    have : ¬ k < a.length := by simpa using hlt
    omega
  subst hkl
  rw [List.take_length] at hI
  have haf := hI
  clear hI hk hlt
  refine aE ?_
  show AWp _ _ _ _ _ _ _
  have hRt : R.take a.length = R := List.take_of_length_le (by omega)
  refine AWp.wk (wk_sub (s' := [(0, .val (.lst (a.map Tm.cv))), (1, .val (.lst (b.map Tm.cv))), (6, .bp 6 0 []), (100006, .bx c.cw), (9, .own (.lst (R.map Tm.cv)) 200059), (200059, .tok 31 2), (10, .own (.lst []) 1)]) ⟨rfl, rfl, rfl, rfl, ?_, rfl, rfl, trivial⟩) ?_
  · show some (AV.own (.lst _) _) = some (AV.own (.lst _) _)
    rw [hRt]
  refine aS (aS (aR ?_))
  (refine nx (aA (gN rfl) rfl rfl rfl rfl rfl) rfl ?_)
  show AWp _ _ _ _ _ _ _
  let st3 : Nat → AS := fun k => [(0, .val (.lst (a.map Tm.cv))), (1, .val (.lst (b.map Tm.cv))), (6, .bp 6 0 []), (100006, .bx c.cw), (9, .own (.lst (R.map Tm.cv)) 200059), (200059, .tok 31 2), (10, .own (.lst ((b.take k).map Tm.cv)) 200079), (200079, .tok 31 2), (12, .val (.i k))]
  refine aB (awp_countI b.length (fun k => ∀ t ∈ b.take k, t.fit) st3 ((wk_nil 10 200079 31 2 rfl rfl rfl rfl rfl rfl rfl).trans (wk_sub ⟨rfl, rfl, rfl, rfl, rfl, rfl, rfl, rfl, rfl, trivial⟩)) (by simp) ?_)
  intro k hk hI
  refine aS (aS (aR ?_))
  (refine nx (aM (gN rfl) rfl rfl rfl rfl rfl) rfl ?_)
  (refine nx (aM (gN rfl) rfl rfl rfl rfl rfl) rfl ?_)
  (refine nx (a_len (gN rfl) rfl rfl rfl rfl rfl rfl rfl) rfl ?_)
  (refine nx (a_lss (gN rfl) rfl rfl rfl rfl rfl rfl) rfl ?_)
  show AWp _ _ _ _ _ _ _
  refine aC rfl (fun hlt => ?_) (fun hlt => ?_)
  · have hkl : k < b.length := by simpa using hlt
    obtain ⟨x, hx⟩ : ∃ x, b[k]? = some x := ⟨b[k], List.getElem?_eq_getElem hkl⟩
    have hx' := Tm.map_at hx
    have hxr := hbr x (List.mem_of_getElem? hx)
    refine aK ?_
    show AWp _ _ _ _ _ _ _
    refine aS (aB (aS (aS (aR ?_))))
    (refine nx (aM (gN rfl) rfl rfl rfl rfl rfl) rfl ?_)
    (refine nx (aM (gN rfl) rfl rfl rfl rfl rfl) rfl ?_)
    (refine nx (a_index (j := k) (gN rfl) rfl rfl rfl rfl rfl rfl rfl rfl rfl (hx') rfl (hsb)) rfl ?_)
    (refine nx (a_load_ad (gN rfl) rfl rfl rfl rfl rfl rfl rfl rfl rfl) rfl ?_)
    (refine nx (a_call (gN rfl) rfl rfl rfl rfl rfl (small_abs w x 10 8 hxr (by decide) (by decide) (by decide) (by decide))) rfl ?_)
    (refine nx (a_lss (gN rfl) rfl rfl rfl rfl rfl rfl) rfl ?_)
    show AWp _ _ _ _ _ _ _
    refine aC rfl (fun hs => ?_) (fun hs => ?_)
    · refine aS (aR ?_)
      (refine nx (aA (gN rfl) rfl rfl rfl rfl rfl) rfl ?_)
      show AWp _ _ _ _ _ _ _
      exact aT (And.intro (.inr rfl) rfl)
    · have hs : decide (smallT x 10 8 < 0) = false := hs
      obtain ⟨hxf, _⟩ := small_fit (size := 10) (by decide) (by decide) (show 0 ≤ smallT x 10 8 by have := of_decide_eq_false hs; omega)
      have hsR := Tm.size_all (b.take k)
      have hlR : ((b.take k).map Tm.cv).length ≤ 5 := by rw [List.length_map, List.length_take]; omega
      have hlR2 : (b.take k).length ≤ 5 := by rw [List.length_take]; omega
      refine aK ?_
      show AWp _ _ _ _ _ _ _
      refine aR ?_
      (refine nx (aM (gN rfl) rfl rfl rfl rfl rfl) rfl ?_)
      (refine nx (aM (gN rfl) rfl rfl rfl rfl rfl) rfl ?_)
      (refine nx (aM (gN rfl) rfl rfl rfl rfl rfl) rfl ?_)
      (refine nx (a_index (j := k) (gN rfl) rfl rfl rfl rfl rfl rfl rfl rfl rfl (hx') rfl (hsb)) rfl ?_)
      (refine nx (a_load_ad (gN rfl) rfl rfl rfl rfl rfl rfl rfl rfl rfl) rfl ?_)
      (refine nx (a_call (gN rfl) rfl rfl rfl rfl rfl (of_abs w x hxf.2.1)) rfl ?_)
      (refine nx (a_bslice (gN rfl) rfl rfl rfl rfl rfl rfl rfl rfl rfl rfl rfl rfl rfl) rfl ?_)
      (refine nx (a_app (gN rfl) rfl rfl rfl rfl rfl rfl rfl rfl rfl rfl rfl rfl rfl rfl rfl (by first | assumption | exact sZ rfl | exact Tm.size_all _ | exact Bd.size_all _ | exact ints_size _ | exact bys_size _ | exact Lt.size_all _) (by first | assumption | exact sZ rfl | exact Tm.size_all _ | exact Bd.size_all _ | exact ints_size _ | exact bys_size _ | exact Lt.size_all _) (by first | omega | (simp only [List.length_map, List.length_append, List.length_cons, List.length_nil] <;> omega) | (simp <;> omega))) rfl ?_)
      (refine nx (aA (gN rfl) rfl rfl rfl rfl rfl) rfl ?_)
      show AWp _ _ _ _ _ _ _
      refine AWp.wk ((wk_sub (s' := [(0, .val (.lst (a.map Tm.cv))), (1, .val (.lst (b.map Tm.cv))), (6, .bp 6 0 []), (100006, .bx c.cw), (9, .own (.lst (R.map Tm.cv)) 200059), (200059, .tok 31 2), (10, .own (.lst ((b.take (k + 1)).map Tm.cv)) 300079), (300079, .tok 31 2), (12, .val (.i k))]) ⟨rfl, rfl, rfl, rfl, rfl, rfl, ?_, rfl, rfl, trivial⟩).trans (wk_ren 300079 200079 rfl rfl rfl rfl)) ?_
      · show some (AV.own (.lst _) _) = some (AV.own (.lst _) _)
        rw [List.take_add_one, hx, Option.toList_some, List.map_append, List.map_cons, List.map_nil, Tm.cv_eq x]
      refine aR ?_
      (refine nx (aM (gN rfl) rfl rfl rfl rfl rfl) rfl ?_)
      (refine nx (a_add (gN rfl) rfl rfl rfl rfl rfl rfl (by first | omega | (simp only [List.length_map, List.length_append, List.length_cons, List.length_nil] <;> omega) | (simp <;> omega))) rfl ?_)
      (refine nx (aA (gN rfl) rfl rfl rfl rfl rfl) rfl ?_)
      refine ⟨hkl, ?_, wk_sub ⟨rfl, rfl, rfl, rfl, rfl, rfl, rfl, rfl, rfl, trivial⟩⟩
      intro z hz
      rw [List.take_add_one, hx, List.mem_append] at hz
      rcases hz with hz | hz
      · exact hI z hz
      · simp at hz; rw [hz]; exact hxf
  have hkl : k = b.length := by
    have : ¬ k < b.length := by simpa using hlt
    omega
  subst hkl
  rw [List.take_length] at hI
  have hbf := hI
  clear hI hk hlt
  refine aE ?_
  show AWp _ _ _ _ _ _ _
  refine AWp.wk (wk_sub (s' := [(0, .val (.lst (a.map Tm.cv))), (6, .bp 6 0 []), (100006, .bx c.cw), (9, .own (.lst (R.map Tm.cv)) 200059), (200059, .tok 31 2), (10, .own (.lst (b.map Tm.cv)) 200079), (200079, .tok 31 2)]) ⟨rfl, rfl, rfl, rfl, rfl, ?_, rfl, trivial⟩) ?_
  · show some (AV.own (.lst _) _) = some (AV.own (.lst _) _)
    rw [List.take_length]
  refine aS (aR ?_)
  (refine nx (aA (gN rfl) rfl rfl rfl rfl rfl) rfl ?_)
  show AWp _ _ _ _ _ _ _
  refine aS (aS (aR ?_))
  (refine nx (aA (gN rfl) rfl rfl rfl rfl rfl) rfl ?_)
  show AWp _ _ _ _ _ _ _
  let st4 : Nat → AS := fun k => [(0, .val (.lst (a.map Tm.cv))), (6, .bp 6 0 []), (100006, .bx c.cw), (9, .own (.lst (R.map Tm.cv)) 200059), (200059, .tok 31 2), (10, .own (.lst (b.map Tm.cv)) 200079), (200079, .tok 31 2), (13, .own (.lst ((a.take k).map Tm.cv)) 200093), (200093, .tok 31 2), (14, .val (.i k))]
  refine aB (awp_count a.length st4 ((wk_nil 13 200093 31 2 rfl rfl rfl rfl rfl rfl rfl).trans (wk_sub ⟨rfl, rfl, rfl, rfl, rfl, rfl, rfl, rfl, rfl, rfl, trivial⟩)) ?_)
  intro k hk
  refine aS (aS (aR ?_))
  (refine nx (aM (gN rfl) rfl rfl rfl rfl rfl) rfl ?_)
  (refine nx (aM (gN rfl) rfl rfl rfl rfl rfl) rfl ?_)
  (refine nx (a_len (gN rfl) rfl rfl rfl rfl rfl rfl rfl) rfl ?_)
  (refine nx (a_lss (gN rfl) rfl rfl rfl rfl rfl rfl) rfl ?_)
  show AWp _ _ _ _ _ _ _
  refine aC rfl (fun hlt => ?_) (fun hlt => ?_)
  · have hkl : k < a.length := by simpa using hlt
    obtain ⟨x, hx⟩ : ∃ x, a[k]? = some x := ⟨a[k], List.getElem?_eq_getElem hkl⟩
    have hx' := Tm.map_at hx
    have hxf := haf x (List.mem_of_getElem? hx)
    have hsR := Tm.size_all (a.take k)
    have hlR : ((a.take k).map Tm.cv).length ≤ 5 := by rw [List.length_map, List.length_take]; omega
    have hlR2 : (a.take k).length ≤ 5 := by rw [List.length_take]; omega
    refine aK ?_
    show AWp _ _ _ _ _ _ _
    refine aS (aB (aR ?_))
    (refine nx (aM (gN rfl) rfl rfl rfl rfl rfl) rfl ?_)
    (refine nx (aM (gN rfl) rfl rfl rfl rfl rfl) rfl ?_)
    (refine nx (aM (gN rfl) rfl rfl rfl rfl rfl) rfl ?_)
    (refine nx (a_index (j := k) (gN rfl) rfl rfl rfl rfl rfl rfl rfl rfl rfl (hx') rfl (hsa)) rfl ?_)
    (refine nx (a_load_ad (gN rfl) rfl rfl rfl rfl rfl rfl rfl rfl rfl) rfl ?_)
    (refine nx (a_call (gN rfl) rfl rfl rfl rfl rfl (of_abs w x hxf.2.1)) rfl ?_)
    (refine nx (a_bslice (gN rfl) rfl rfl rfl rfl rfl rfl rfl rfl rfl rfl rfl rfl rfl) rfl ?_)
    (refine nx (a_app (gN rfl) rfl rfl rfl rfl rfl rfl rfl rfl rfl rfl rfl rfl rfl rfl rfl (by first | assumption | exact sZ rfl | exact Tm.size_all _ | exact Bd.size_all _ | exact ints_size _ | exact bys_size _ | exact Lt.size_all _) (by first | assumption | exact sZ rfl | exact Tm.size_all _ | exact Bd.size_all _ | exact ints_size _ | exact bys_size _ | exact Lt.size_all _) (by first | omega | (simp only [List.length_map, List.length_append, List.length_cons, List.length_nil] <;> omega) | (simp <;> omega))) rfl ?_)
    (refine nx (aA (gN rfl) rfl rfl rfl rfl rfl) rfl ?_)
    show AWp _ _ _ _ _ _ _
    refine AWp.wk ((wk_sub (s' := [(0, .val (.lst (a.map Tm.cv))), (6, .bp 6 0 []), (100006, .bx c.cw), (9, .own (.lst (R.map Tm.cv)) 200059), (200059, .tok 31 2), (10, .own (.lst (b.map Tm.cv)) 200079), (200079, .tok 31 2), (13, .own (.lst ((a.take (k + 1)).map Tm.cv)) 300093), (300093, .tok 31 2), (14, .val (.i k))]) ⟨rfl, rfl, rfl, rfl, rfl, rfl, rfl, ?_, rfl, rfl, trivial⟩).trans (wk_ren 300093 200093 rfl rfl rfl rfl)) ?_
    · show some (AV.own (.lst _) _) = some (AV.own (.lst _) _)
      rw [List.take_add_one, hx, Option.toList_some, List.map_append, List.map_cons, List.map_nil, Tm.cv_eq x]
    refine aR ?_
    (refine nx (aM (gN rfl) rfl rfl rfl rfl rfl) rfl ?_)
    (refine nx (a_add (gN rfl) rfl rfl rfl rfl rfl rfl (by first | omega | (simp only [List.length_map, List.length_append, List.length_cons, List.length_nil] <;> omega) | (simp <;> omega))) rfl ?_)
    (refine nx (aA (gN rfl) rfl rfl rfl rfl rfl) rfl ?_)
    exact ⟨hkl, wk_sub ⟨rfl, rfl, rfl, rfl, rfl, rfl, rfl, rfl, rfl, rfl, trivial⟩⟩
  have hkl : k = a.length := by
    have : ¬ k < a.length := by simpa using hlt
    omega
  subst hkl
  refine aE ?_
  show AWp _ _ _ _ _ _ _
  -- the lists
  have hRf : ∀ t ∈ R, t.fit := fun t ht => haf t (by
    rw [hR] at ht
    rcases List.mem_append.1 ht with h | h
    · exact List.mem_of_mem_drop h
    · exact List.mem_of_mem_take h)
  have hRcf : ∀ t ∈ R ++ [c], t.fit := fun t ht => by
    rcases List.mem_append.1 ht with h | h
    · exact hRf t h
    · rw [List.mem_singleton] at h; rw [h]; exact hcf
  have hbcf : ∀ t ∈ b ++ [c], t.fit := fun t ht => by
    rcases List.mem_append.1 ht with h | h
    · exact hbf t h
    · rw [List.mem_singleton] at h; rw [h]; exact hcf
  have hRcl : (R ++ [c]).length ≤ 6 := by rw [List.length_append]; simp; omega
  have hbcl : (b ++ [c]).length ≤ 6 := by rw [List.length_append]; simp; omega
  have M1 := oMulti_abs w R b hRf hbf (by omega) (by omega)
  have M2 := oMulti_abs w a b haf hbf (by omega) (by omega)
  have M3 := oMulti_abs w (R ++ [c]) (b ++ [c]) hRcf hbcf (by omega) (by omega)
  have M4 := oMulti_abs w (R ++ [c]) R hRcf hRf (by omega) (by omega)
  have M5 := oMulti_abs w R (R ++ [c]) hRf hRcf (by omega) (by omega)
  have M6 := oMulti_abs w R R hRf hRf (by omega) (by omega)
  have e2 : mulB a b = mulB R b := by
    rw [Bool.eq_iff_iff, mulB_iff, mulB_iff]
    exact mul_congr (fun s => by rw [hR, rot_cn]) (fun _ => rfl)
  have e3 : mulB (R ++ [c]) (b ++ [c]) = mulB R b := by rw [Bool.eq_iff_iff, mulB_iff, mulB_iff]; exact mul_more R b [c]
  rw [e2] at M2
  rw [e3] at M3
  rw [(mulB_iff _ _).2 (mul_one R c)] at M4
  rw [mulB_not.2 (fun h => mul_asym h (mul_one R c))] at M5
  rw [mulB_not.2 (mul_irr R)] at M6
  obtain ⟨G, hG⟩ : ∃ G, G = mulB R b := ⟨_, rfl⟩
  rw [← hG] at M1 M2 M3
  have g3 : (G == G) = true := by simp
  have hsR := Tm.size_all R
  have hsb2 := Tm.size_all b
  have hRm : (R.map Tm.cv).length ≤ 5 := by rw [List.length_map]; exact hRl
  have hbm : (b.map Tm.cv).length ≤ 5 := by rw [List.length_map]; omega
  refine AWp.wk (wk_sub (s' := [(6, .bp 6 0 []), (100006, .bx c.cw), (9, .own (.lst (R.map Tm.cv)) 200059), (200059, .tok 31 2), (10, .own (.lst (b.map Tm.cv)) 200079), (200079, .tok 31 2), (13, .own (.lst (a.map Tm.cv)) 200093), (200093, .tok 31 2)]) ⟨rfl, rfl, rfl, rfl, rfl, rfl, ?_, rfl, trivial⟩) ?_
  · show some (AV.own (.lst _) _) = some (AV.own (.lst _) _)
    rw [List.take_length]
  refine aS (aR ?_)
  (refine nx (aL (gN rfl) rfl rfl rfl rfl rfl rfl rfl rfl rfl rfl rfl rfl) rfl ?_)
  (refine nx (a_call (gN rfl) rfl rfl rfl rfl rfl (of_abs w c hcf.2.1)) rfl ?_)
  (refine nx (a_alloc (gN rfl) rfl rfl rfl rfl rfl rfl rfl rfl rfl rfl) rfl ?_)
  (refine nx (aSt (gN rfl) rfl rfl rfl rfl rfl rfl rfl rfl rfl rfl) rfl ?_)
  show AWp _ _ _ _ _ _ _
  refine aS (aR ?_)
  (refine nx (aM (gN rfl) rfl rfl rfl rfl rfl) rfl ?_)
  (refine nx (aM (gN rfl) rfl rfl rfl rfl rfl) rfl ?_)
  (refine nx (a_call (gN rfl) rfl rfl rfl rfl rfl (M1)) rfl ?_)
  (refine nx (aA (gN rfl) rfl rfl rfl rfl rfl) rfl ?_)
  show AWp _ _ _ _ _ _ _
  refine aS (aD (by kernel_rfl) (by kernel_rfl) ?_)
  (refine nx (a_bslice0 (gN rfl) rfl rfl rfl rfl rfl rfl rfl rfl) rfl ?_)
  (refine nx (aM (gN rfl) rfl rfl rfl rfl rfl) rfl ?_)
  (refine nx (a_app (gN rfl) rfl rfl rfl rfl rfl rfl rfl rfl rfl rfl rfl rfl rfl rfl rfl (by first | assumption | exact sZ rfl | exact Tm.size_all _ | exact Bd.size_all _ | exact ints_size _ | exact bys_size _ | exact Lt.size_all _) (by first | assumption | exact sZ rfl | exact Tm.size_all _ | exact Bd.size_all _ | exact ints_size _ | exact bys_size _ | exact Lt.size_all _) (by first | omega | (simp only [List.length_map, List.length_append, List.length_cons, List.length_nil] <;> omega) | (simp <;> omega))) rfl ?_)
  (refine nx (aL (gN rfl) rfl rfl rfl rfl rfl rfl rfl rfl rfl rfl rfl rfl) rfl ?_)
  (refine nx (a_bslice (gN rfl) rfl rfl rfl rfl rfl rfl rfl rfl rfl rfl rfl rfl rfl) rfl ?_)
  (refine nx (a_app (gN rfl) rfl rfl rfl rfl rfl rfl rfl rfl rfl rfl rfl rfl rfl rfl rfl (by first | assumption | exact sZ rfl | exact Tm.size_all _ | exact Bd.size_all _ | exact ints_size _ | exact bys_size _ | exact Lt.size_all _) (by first | assumption | exact sZ rfl | exact Tm.size_all _ | exact Bd.size_all _ | exact ints_size _ | exact bys_size _ | exact Lt.size_all _) (by first | omega | (simp only [List.length_map, List.length_append, List.length_cons, List.length_nil] <;> omega) | (simp <;> omega))) rfl ?_)
  (refine nx (aA (gN rfl) rfl rfl rfl rfl rfl) rfl ?_)
  refine ⟨by kernel_rfl, ?_⟩
  show AWp _ _ _ _ _ _ _
  refine aS (aD (by kernel_rfl) (by kernel_rfl) ?_)
  (refine nx (a_bslice0 (gN rfl) rfl rfl rfl rfl rfl rfl rfl rfl) rfl ?_)
  (refine nx (aM (gN rfl) rfl rfl rfl rfl rfl) rfl ?_)
  (refine nx (a_app (gN rfl) rfl rfl rfl rfl rfl rfl rfl rfl rfl rfl rfl rfl rfl rfl rfl (by first | assumption | exact sZ rfl | exact Tm.size_all _ | exact Bd.size_all _ | exact ints_size _ | exact bys_size _ | exact Lt.size_all _) (by first | assumption | exact sZ rfl | exact Tm.size_all _ | exact Bd.size_all _ | exact ints_size _ | exact bys_size _ | exact Lt.size_all _) (by first | omega | (simp only [List.length_map, List.length_append, List.length_cons, List.length_nil] <;> omega) | (simp <;> omega))) rfl ?_)
  (refine nx (aL (gN rfl) rfl rfl rfl rfl rfl rfl rfl rfl rfl rfl rfl rfl) rfl ?_)
  (refine nx (a_bslice (gN rfl) rfl rfl rfl rfl rfl rfl rfl rfl rfl rfl rfl rfl rfl) rfl ?_)
  (refine nx (a_app (gN rfl) rfl rfl rfl rfl rfl rfl rfl rfl rfl rfl rfl rfl rfl rfl rfl (by first | assumption | exact sZ rfl | exact Tm.size_all _ | exact Bd.size_all _ | exact ints_size _ | exact bys_size _ | exact Lt.size_all _) (by first | assumption | exact sZ rfl | exact Tm.size_all _ | exact Bd.size_all _ | exact ints_size _ | exact bys_size _ | exact Lt.size_all _) (by first | omega | (simp only [List.length_map, List.length_append, List.length_cons, List.length_nil] <;> omega) | (simp <;> omega))) rfl ?_)
  (refine nx (aA (gN rfl) rfl rfl rfl rfl rfl) rfl ?_)
  refine ⟨by kernel_rfl, ?_⟩
  show AWp _ _ _ _ _ _ _
  refine AWp.wk (wk_sub (s' := [(9, .own (.lst (R.map Tm.cv)) 200059), (200059, .tok 31 2), (10, .own (.lst (b.map Tm.cv)) 200079), (200079, .tok 31 2), (13, .own (.lst (a.map Tm.cv)) 200093), (200093, .tok 31 2), (16, .val (.b G)), (17, .own (.lst ((R ++ [c]).map Tm.cv)) 300104), (300104, .tok 31 2), (18, .own (.lst ((b ++ [c]).map Tm.cv)) 300110), (300110, .tok 31 2)]) ⟨rfl, rfl, rfl, rfl, rfl, rfl, rfl, ?_, rfl, ?_, rfl, trivial⟩) ?_
  · show some (AV.own (.lst ([] ++ R.map Tm.cv ++ [c.cw])) _) = some (AV.own (.lst _) _)
    rw [List.map_append, List.map_cons, List.map_nil, Tm.cv_eq c, List.nil_append]
  · show some (AV.own (.lst ([] ++ b.map Tm.cv ++ [c.cw])) _) = some (AV.own (.lst _) _)
    rw [List.map_append, List.map_cons, List.map_nil, Tm.cv_eq c, List.nil_append]
  refine aS (aR ?_)
  (refine nx (aM (gN rfl) rfl rfl rfl rfl rfl) rfl ?_)
  (refine nx (aM (gN rfl) rfl rfl rfl rfl rfl) rfl ?_)
  (refine nx (a_call (gN rfl) rfl rfl rfl rfl rfl (M2)) rfl ?_)
  (refine nx (aM (gN rfl) rfl rfl rfl rfl rfl) rfl ?_)
  (refine nx (a_beq (gN rfl) rfl rfl rfl rfl rfl rfl rfl) rfl ?_)
  (refine nx (aM (gN rfl) rfl rfl rfl rfl rfl) rfl ?_)
  (refine nx (aM (gd_on rfl rfl rfl rfl (by first | rfl | assumption | (simp; done))) rfl rfl rfl rfl rfl) rfl ?_)
  (refine nx (aM (gd_on rfl rfl rfl rfl (by first | rfl | assumption | (simp; done))) rfl rfl rfl rfl rfl) rfl ?_)
  (refine nx (a_call (gd_on rfl rfl rfl rfl (by first | rfl | assumption | (simp; done))) rfl rfl rfl rfl rfl (M3)) rfl ?_)
  (refine nx (aM (gd_on rfl rfl rfl rfl (by first | rfl | assumption | (simp; done))) rfl rfl rfl rfl rfl) rfl ?_)
  (refine nx (a_beq (gd_on rfl rfl rfl rfl (by first | rfl | assumption | (simp; done))) rfl rfl rfl rfl rfl rfl rfl) rfl ?_)
  (refine ⟨_, _, _, aPt (gN rfl) rfl rfl rfl rfl rfl ?hb rfl, rfl, ?_⟩; case hb => (first | rfl | assumption | (simp; done)))
  (refine nx (aM (gN rfl) rfl rfl rfl rfl rfl) rfl ?_)
  (refine nx (aM (gd_on rfl rfl rfl rfl (by first | rfl | assumption | (simp; done))) rfl rfl rfl rfl rfl) rfl ?_)
  (refine nx (aM (gd_on rfl rfl rfl rfl (by first | rfl | assumption | (simp; done))) rfl rfl rfl rfl rfl) rfl ?_)
  (refine nx (a_call (gd_on rfl rfl rfl rfl (by first | rfl | assumption | (simp; done))) rfl rfl rfl rfl rfl (M4)) rfl ?_)
  (refine ⟨_, _, _, aPt (gN rfl) rfl rfl rfl rfl rfl ?hb rfl, rfl, ?_⟩; case hb => (first | rfl | assumption | (simp; done)))
  (refine nx (aM (gN rfl) rfl rfl rfl rfl rfl) rfl ?_)
  (refine nx (aM (gd_on rfl rfl rfl rfl (by first | rfl | assumption | (simp; done))) rfl rfl rfl rfl rfl) rfl ?_)
  (refine nx (aM (gd_on rfl rfl rfl rfl (by first | rfl | assumption | (simp; done))) rfl rfl rfl rfl rfl) rfl ?_)
  (refine nx (a_call (gd_on rfl rfl rfl rfl (by first | rfl | assumption | (simp; done))) rfl rfl rfl rfl rfl (M5)) rfl ?_)
  (refine nx (a_not (gd_on rfl rfl rfl rfl (by first | rfl | assumption | (simp; done))) rfl rfl rfl rfl rfl) rfl ?_)
  (refine ⟨_, _, _, aPt (gN rfl) rfl rfl rfl rfl rfl ?hb rfl, rfl, ?_⟩; case hb => (first | rfl | assumption | (simp; done)))
  (refine nx (aM (gN rfl) rfl rfl rfl rfl rfl) rfl ?_)
  (refine nx (aM (gd_on rfl rfl rfl rfl (by first | rfl | assumption | (simp; done))) rfl rfl rfl rfl rfl) rfl ?_)
  (refine nx (aM (gd_on rfl rfl rfl rfl (by first | rfl | assumption | (simp; done))) rfl rfl rfl rfl rfl) rfl ?_)
  (refine nx (a_call (gd_on rfl rfl rfl rfl (by first | rfl | assumption | (simp; done))) rfl rfl rfl rfl rfl (M6)) rfl ?_)
  (refine nx (a_not (gd_on rfl rfl rfl rfl (by first | rfl | assumption | (simp; done))) rfl rfl rfl rfl rfl) rfl ?_)
  (refine ⟨_, _, _, aPt (gN rfl) rfl rfl rfl rfl rfl ?hb rfl, rfl, ?_⟩; case hb => (first | rfl | assumption | (simp; done)))
  (refine nx (aA (gN rfl) rfl rfl rfl rfl rfl) rfl ?_)
  show AWp _ _ _ _ _ _ _
  exact aT (And.intro (.inr rfl) rfl)
end Go.Proofs.Ytglbohajmccehaa

