/-
  Slices that are built; append to a row that may grow.
-/
import Derived.Test.YtffecopfikbbbaaAbStep3
namespace Go.Proofs.Ytffecopfikbbbaa
open Go.RowKit
set_option linter.unusedVariables false
set_option linter.unusedSimpArgs false

theorem flat_const {s : Nat} (hs : 0 < s) : ∀ (vs : List (List Value)), (∀ v ∈ vs, v.length = s) → ∀ k, vs.flatten[k]? = (vs[k / s]?).bind (fun v => v[k % s]?)
  | [], _, k => by simp
  | v :: vs, h, k => by
    have hv := h v (by simp)
    rw [List.flatten_cons]
    by_cases hk : k < s
    · rw [List.getElem?_append_left (by omega), Nat.div_eq_of_lt hk, Nat.mod_eq_of_lt hk]
      simp
    · rw [List.getElem?_append_right (by omega), flat_const hs vs (fun u hu => h u (List.mem_cons_of_mem _ hu)), hv]
      have e1 : k / s = (k - s) / s + 1 := by
        rw [← Nat.add_div_right _ hs]; congr 1; omega
      have e2 : k % s = (k - s) % s := by
        conv => lhs; rw [show k = (k - s) + s by omega, Nat.add_mod_right]
      rw [e1, e2]
      simp

def dense : List (Nat × Operand) → Nat → Bool
  | [], _ => true
  | x :: ps, i => match Nat.beq x.1 i with | true => dense ps (i + 1) | false => false
theorem dense_spec : ∀ {ps : List (Nat × Operand)} {i : Nat}, dense ps i = true → ∀ (ρ : Operand → Value), (ps.map fun x => (x.1, ρ x.2)) = ((ps.map fun x => ρ x.2).zipIdx i).map fun x => (x.2, x.1)
  | [], _, _, _ => rfl
  | x :: ps, i, h, ρ => by
    unfold dense at h
    split at h
    · rename_i hb
      have := Nat.eq_of_beq_eq_true hb
      rw [List.map_cons, dense_spec h ρ, List.map_cons, List.zipIdx_cons, List.map_cons, this]
    · cases h
noncomputable def szAll : List CV → Nat → Bool
  | [], _ => true
  | c :: cs, z => match Nat.beq c.size z with | true => szAll cs z | false => false
theorem szAll_spec : ∀ {l : List CV} {z : Nat}, szAll l z = true → ∀ c ∈ l, c.size = z
  | [], _, _, c, hc => by simp at hc
  | x :: l, z, h, c, hc => by
    unfold szAll at h
    split at h
    · rename_i hb
      rcases List.mem_cons.1 hc with rfl | hc
      · exact Nat.eq_of_beq_eq_true hb
      · exact szAll_spec h c hc
    · cases h

/-- A row's tree out of its elements. -/
theorem sq_of_vreps {U : Nat → Nat → Prop} {w : World} : ∀ {cs : List CV} {vs : List Value}, VReps U w cs vs → Sq (cs.map fun c => Rep U w c) (vs.map fun v => v.cells.toList).flatten
  | [], vs, h => by have h : vs = [] := h; rw [h]; rfl
  | c :: cs, vs, ⟨u, us, e, h1, h2⟩ => by
    rw [e]
    exact ⟨u.cells.toList, (us.map fun v => v.cells.toList).flatten, rfl, h1.cells, sq_of_vreps h2⟩
theorem vreps_size {U : Nat → Nat → Prop} {w : World} {z : Nat} : ∀ {cs : List CV} {vs : List Value}, VReps U w cs vs → (∀ c ∈ cs, c.size = z) → ∀ v ∈ vs, v.cells.size = z
  | [], vs, h, _ => by have h : vs = [] := h; rw [h]; simp
  | c :: cs, vs, ⟨u, us, e, h1, h2⟩, hz => by
    intro v hv
    rw [e] at hv
    rcases List.mem_cons.1 hv with rfl | hv
    · rw [← Array.length_toList, h1.cells.len, hz c (by simp)]
    · exact vreps_size h2 (fun x hx => hz x (List.mem_cons_of_mem _ hx)) v hv

section
variable {P : Program} {w0 : World} {U0 : Nat → Nat → Prop} {nt : Nat} {ops : Array Oper} {o : Oper} {S : Nat → Option AV} {gs : List Nat} {d : Nat} {s : AS} {a : Act} {w : World} {D : Nat → Nat → Prop} {bx : Nat → Nat} {tv : Nat → Value}

theorem us_new {o : Obj} (hbase : w0.heap.size ≤ w.heap.size) (i : Nat) : Us w0 U0 (Dn D w (w.alloc o)) w.heap.size i := .inr ⟨hbase, .inr ⟨Nat.le_refl _, by simp⟩⟩

/-- A slice is built of its elements. -/
theorem a_bslice (hg : Gd w0 U0 nt ops o gs S) (hd : o.dst = some d) (hn : Nat.blt d nt = true) (h5 : Nat.blt d 100000 = true) {t e : TypeId} {len : Nat} {parts : Array (Nat × Operand)} {ie : TypeInfo} {z : Value} {cs : List CV} (ho : o.op = .buildSlice t len parts) (hu : P.underlying t = some (.slice e)) (hi : P.info? e = some ie) (hz : ie.zero = some z) (hdn : dense parts.toList 0 = true) (hx : evsO S (parts.toList.map (·.2)) = some cs) (hl : Nat.beq cs.length len = true) (hsz : szAll cs ie.size = true) (hp : Nat.blt 0 (len * ie.size) = true) (h24 : Nat.ble (len * ie.size) 16777216 = true) :
    AOp P w0 U0 nt ops o (gs ++ rdl (parts.toList.map (·.2))) [] S [(d, .val (.lst cs))] := by
  intro s hs hN a w ⟨D, bx, tv, h⟩ Q K hK
  rw [if_pos (hg s (fun k hk => hs k (List.mem_append_left _ hk)) a w D bx tv h)]
  have hv := evsO_rep h (fun k hk => hs k (List.mem_append_right _ hk)) hx
  rw [List.map_map] at hv
  have hlen : cs.length = len := Nat.eq_of_beq_eq_true hl
  have hvl := hv.len
  have hpos := blt_lt hp
  have hs0 : 0 < ie.size := Nat.pos_of_ne_zero fun e => by rw [e] at hpos; simp at hpos
  have hsizes := vreps_size hv (szAll_spec hsz)
  obtain ⟨vs, hvs⟩ : ∃ vs, vs = parts.toList.map (a.eval ∘ (·.2)) := ⟨_, rfl⟩
  rw [← hvs] at hv hvl hsizes
  obtain ⟨r, hf, hrs, hrk⟩ := Great.fill_dense hs0 vs 0 ((Array.range (len * ie.size)).map (z.cells[· % z.cells.size]!)) hsizes (by simp; rw [hvl, hlen]; exact Nat.le_refl _)
  have hr : r.toList = (vs.map fun v => v.cells.toList).flatten := by
    apply List.ext_getElem?
    intro k
    rw [flat_const hs0 _ (by intro v hv'; rw [List.mem_map] at hv'; obtain ⟨u, hu, rfl⟩ := hv'; simpa using hsizes u hu)]
    have := hrk k
    rw [← Array.getElem?_toList] at this
    simp only [Nat.zero_mul, Nat.zero_le, true_and, Nat.zero_add] at this
    rw [this]
    by_cases hk : k < vs.length * ie.size
    · rw [if_pos hk]
      simp only [Nat.sub_zero, List.getElem?_map]
      cases vs[k / ie.size]? <;> simp
    · rw [if_neg hk, Array.getElem?_eq_none (by simp; rw [← hlen, ← hvl]; omega)]
      rw [List.getElem?_map, List.getElem?_eq_none (by rw [Nat.le_div_iff_mul_le hs0]; omega)]
      rfl
  have he : (execOp a.eval o).run P w = .ok (.value (.slice (some ⟨w.heap.size, 0, none⟩) len len)) (w.alloc (.cells r e)) := by
    have h24' := Nat.le_of_ble_eq_true h24
    have hparts : (parts.map fun x => (x.1, a.eval x.2)).toList = (vs.zipIdx 0).map fun x => (x.2, x.1) := by
      rw [Array.toList_map, dense_spec hdn a.eval, hvs]
      rfl
    have := run_buildSlice (P := P) w t e len (parts.map fun x => (x.1, a.eval x.2)) r ie z hu hi hz (by omega) (by omega) (by rw [hparts]; exact hf)
    generalize a.eval = ρ at this ⊢
    simp [execOp, ho, this]
  unfold Oper.wp
  rw [he, Oper.upon_value, hd]
  have hb : Below w.heap.size w (w.alloc (.cells r e)) := (Below.refl _ _).alloc (Nat.le_refl _) _
  refine hK _ _ ⟨_, bx, tv, (h.growN hb).put (blt_lt hn) (blt_lt h5) (avrep_val (vrep_lst.2 ⟨_, len, len, rfl, hlen.symm, Nat.le_refl _, ?_, (fun h => by cases h), r.toList, ?_, ?_⟩))⟩
  · have := Nat.le_of_ble_eq_true h24
    have : len ≤ len * ie.size := Nat.le_mul_of_pos_right _ hs0
    unfold maxLen; omega
  · have := At.new (U := Us w0 U0 (Dn D w (w.alloc (.cells r e)))) w r.toList e (fun i _ => us_new h.below.size i)
    rw [Array.toArray_toList] at this
    exact this
  · rw [hr]
    exact (sq_of_vreps hv).keep (us_keep h.dlt hb fun _ _ h => .inl h)

/-- A row that is no more grown. -/
theorem SimG.kill (h : SimG w0 U0 nt s a w D bx tv) {n : Nat} (hn : 200000 ≤ n) : SimG w0 U0 nt ((n, .no) :: s) a w D bx tv := by
  have hl : ∀ m e, Live ((n, AV.no) :: s) m e → Live s m e ∧ m ≠ n := fun m e ⟨h1, h2⟩ => by
    by_cases e : n = m
    · subst e; rw [look_same] at h1; cases h1
    · rw [look_ne e] at h1; exact ⟨⟨h1, h2⟩, Ne.symm e⟩
  have hln : ∀ m, LiveN ((n, AV.no) :: s) m → LiveN s m := fun m h1 => h1.imp id fun ⟨e, he⟩ => ⟨e, (hl _ _ he).1⟩
  refine ⟨h.below, h.dfr, h.size, fun d av h1 h2 => ?_, fun m av h1 h2 => ?_, fun m k av aw h1 h2 h3 h4 => ?_, fun m e h1 => ?_, fun m k e f h1 h2 => h.tinj m k e f (hl _ _ h1).1 (hl _ _ h2).1, h.dlt⟩
  · rw [look_ne (by omega)] at h1
    obtain ⟨v, h3, h4⟩ := h.slot d av h1 h2
    refine ⟨v, h3, ?_⟩
    unfold AVRep at h4 ⊢
    by_cases h0 : av.t = 0
    · rw [if_pos h0] at h4 ⊢
      exact ⟨h4.1, fun he => h4.2 (hln _ he)⟩
    · rw [if_neg h0] at h4 ⊢
      exact h4
  · rw [look_ne (by omega)] at h1
    obtain ⟨xs, ty, h3, h4, h5, h6, h7⟩ := h.boxes m av h1 h2
    exact ⟨xs, ty, h3, h4, h5, h6, fun he => h7 (hln _ he)⟩
  · rw [look_ne (by omega)] at h1 h2
    exact h.inj m k av aw h1 h2 h3 h4
  · obtain ⟨z, k, xs, h3, hz, h4⟩ := h.toks m e (hl m e h1).1
    exact ⟨z, k, xs, h3, hz, fun g hg => ⟨(h4 g hg).1, fun q av h5 h6 => (h4 g hg).2 q av (by rw [look_ne (by omega)] at h5; exact h5) h6⟩⟩

def Da (D : Nat → Nat → Prop) (v : Value) (n : Nat) (b o : Nat) : Prop := D b o ∨ (v.ownBlock = some b ∧ o < n)

theorem own_cell {base : Nat} {e : TypeId} {z : Nat} {v : Value} {k : Nat} {xs : List Value} (h : w.ownsRow base e z v k xs) {g o : Nat} (hg : v.ownBlock = some g) (ho : o < k * z) : w.cell? ⟨g, o, none⟩ = xs[o]? := by
  obtain ⟨h1, h2⟩ := h
  rcases h2 with ⟨rfl, _⟩ | ⟨g', cap, cur, rfl, hb, hh, hn, hm, hs, ht⟩
  · cases hg
  · cases hg
    simp only [World.cell?, hh]
    rw [← ht, List.getElem?_take, if_pos ho]
    simp

/-- What append does to what is known: the new row's name is n. -/
theorem SimG.app (h : SimG w0 U0 nt s a w D bx tv) {n e z k m : Nat} (hn : 200000 ≤ n) (hr : NoRef s n) {v v' : Value} {xs ys : List Value} {w' : World} (hown : w.ownsRow w0.heap.size e z v k xs) (hz : 0 < z)
    (hroom : ∀ g, v.ownBlock = some g → (∀ o, k * z ≤ o → ¬ D g o) ∧ (∀ q av, look s (100000 + q) = some av → q < 100000 → bx q ≠ g) ∧ ∀ q f, Live s q f → q ≠ n → (tv q).ownBlock ≠ some g)
    (ho' : w'.ownsRow w0.heap.size e z v' (k + m) (xs ++ ys)) (hgr : w.grownBy w' v.ownBlock) (hv' : v'.ownBlock = v.ownBlock ∨ (w.grownBy w' none ∧ ∀ g, v'.ownBlock = some g → w.heap.size ≤ g)) :
    SimG w0 U0 nt ((n, .tok e z) :: s) a w' (Da D v' ((k + m) * z)) bx (fun x => if x = n then v' else tv x) ∧ ∀ b o u, Us w0 U0 D b o → w.cell? ⟨b, o, none⟩ = some u → Us w0 U0 (Da D v' ((k + m) * z)) b o ∧ w'.cell? ⟨b, o, none⟩ = some u := by
  have hbase : w0.heap.size ≤ w.heap.size := h.below.size
  have hvlt : ∀ g, v.ownBlock = some g → w0.heap.size ≤ g ∧ g < w.heap.size := fun g hg => hown.lt g hg
  have hv'lt : ∀ g, v'.ownBlock = some g → w0.heap.size ≤ g ∧ g < w'.heap.size := fun g hg => ho'.lt g hg
  have hblk : ∀ b, b < w.heap.size → v.ownBlock ≠ some b → w'.heap[b]? = w.heap[b]? := fun b hb hne => hgr.block b hb (fun e => hne e.symm)
  -- a block of something else is not the new row's
  have hoth : ∀ b, b < w.heap.size → v.ownBlock ≠ some b → v'.ownBlock ≠ some b := fun b hb hne e => by
    rcases hv' with h1 | ⟨_, h1⟩
    · rw [h1] at e; exact hne e
    · have := h1 b e; omega
  have hk : ∀ b o u, Us w0 U0 D b o → w.cell? ⟨b, o, none⟩ = some u → Us w0 U0 (Da D v' ((k + m) * z)) b o ∧ w'.cell? ⟨b, o, none⟩ = some u := fun b o u hu hc => by
    have hlt : b < w.heap.size := World.block_lt_of_cell? w _ hc
    refine ⟨hu.imp id fun h1 => ⟨h1.1, .inl h1.2⟩, ?_⟩
    by_cases hb : v.ownBlock = some b
    · have hg0 := hvlt b hb
      have hDo : D b o := by
        rcases hu with h1 | h1
        · omega
        · exact h1.2
      have hoz : o < k * z := by
        rcases Nat.lt_or_ge o (k * z) with h1 | h1
        · exact h1
        · exact absurd hDo ((hroom b hb).1 o h1)
      have hxl : xs.length = k * z := hown.1
      rcases hv' with h1 | ⟨h1, _⟩
      · have e1 := own_cell hown hb hoz
        have e2 := own_cell ho' (h1.trans hb) (Nat.lt_of_lt_of_le hoz (Nat.mul_le_mul_right _ (Nat.le_add_right _ _)))
        rw [e2, List.getElem?_append_left (by omega), ← e1, hc]
      · rw [World.cell?_of_block (w := w) (h1.block b hlt (by simp))]; exact hc
    · rw [World.cell?_of_block (w := w) (hblk b hlt hb)]; exact hc
  have hl : ∀ q f, Live ((n, AV.tok e z) :: s) q f → q ≠ n → Live s q f := fun q f ⟨h1, h2⟩ hne => by
    rw [look_ne (Ne.symm hne)] at h1; exact ⟨h1, h2⟩
  have hbx : ∀ q av, q < 100000 → look ((n, AV.tok e z) :: s) (100000 + q) = some av → look s (100000 + q) = some av := fun q av h1 h2 => by
    rw [look_ne (by omega)] at h2; exact h2
  have htk : ∀ av k, look s k = some av → ∀ us, Tk tv (LiveN s) av us → Tk (fun x => if x = n then v' else tv x) (LiveN ((n, AV.tok e z) :: s)) av us := fun av k hk us ht hlv => by
    have hne := hr k av hk
    have : LiveN s av.n := hlv.imp id fun ⟨f, hf⟩ => ⟨f, hl _ _ hf hne⟩
    obtain ⟨i, c, g1, g2⟩ := ht this
    refine ⟨i, c, g1, ?_⟩
    rw [g2]
    unfold tokv
    simp only [hne, if_false]
  refine ⟨⟨⟨hgr.os.trans h.below.os, hgr.tape.trans h.below.tape, hgr.output.trans h.below.output, Nat.le_trans hbase hgr.size, fun b hb => ?_⟩, h.dfr, h.size, fun d av h1 h2 => ?_, fun q av h1 h2 => ?_, fun q r av aw h1 h2 h3 h4 => h.inj q r av aw (hbx q av h3 h1) (hbx r aw h4 h2) h3 h4, fun q f h1 => ?_, fun q r f f' h1 h2 hne g hg => ?_, fun b o hd => ?_⟩, hk⟩
  · rw [hblk b (by omega) (fun e => by have := hvlt b e; omega)]; exact h.below.block b hb
  · rw [look_ne (by omega)] at h1
    obtain ⟨u, h3, h4⟩ := h.slot d av h1 h2
    have h4 := h4.keep hk
    refine ⟨u, h3, ?_⟩
    unfold AVRep at h4 ⊢
    by_cases h0 : av.t = 0
    · rw [if_pos h0] at h4 ⊢
      exact ⟨h4.1, htk av d h1 _ h4.2⟩
    · rw [if_neg h0] at h4 ⊢
      exact h4
  · have h1 := hbx q av h2 h1
    obtain ⟨us, ty, g1, g2, g3, g4, g5⟩ := h.boxes q av h1 h2
    have hlt := h.lt_box h1 h2
    have hne : v.ownBlock ≠ some (bx q) := fun e => (hroom _ e).2.1 q av h1 h2 rfl
    refine ⟨us, ty, by rw [hblk _ hlt hne]; exact g1, g2.keep hk, g3, fun o ho => ?_, htk av _ h1 us g5⟩
    rcases ho with ho | ho
    · exact g4 o ho
    · exact hoth _ hlt hne ho.1
  · by_cases e1 : q = n
    · subst e1
      obtain ⟨f1, f2⟩ : f.1 = e ∧ f.2 = z := by have := h1.1; rw [look_same] at this; injection this with this; injection this with _ _ _ e1 e2; injection e2 with e2 _; exact ⟨e1.symm, e2.symm⟩
      simp only [if_true]
      refine ⟨z, k + m, xs ++ ys, by rw [f1]; exact ho', ⟨hz, f2.symm⟩, fun g hg => ⟨fun o ho hd => ?_, fun q av h2 h3 => ?_⟩⟩
      · rcases hd with hd | hd
        · have hlt := h.dlt _ _ hd
          by_cases hb : v.ownBlock = some g
          · exact (hroom g hb).1 o (Nat.le_trans (Nat.mul_le_mul_right _ (Nat.le_add_right _ _)) ho) hd
          · exact hoth g hlt hb hg
        · omega
      · have h2 := hbx q av h3 h2
        have hlt := h.lt_box h2 h3
        intro e
        subst e
        exact hoth _ hlt (fun e => (hroom _ e).2.1 q av h2 h3 rfl) hg
    · have h1' := hl q f h1 e1
      obtain ⟨z', k', us, g1, g2, g3⟩ := h.toks q f h1'
      simp only [e1, if_false]
      have hne : ∀ g, (tv q).ownBlock = some g → v.ownBlock ≠ some g := fun g hg e => (hroom g e).2.2 q f h1' e1 hg
      refine ⟨z', k', us, ?_, g2, fun g hg => ⟨fun o ho hd => ?_, fun r av h2 h3 => (g3 g hg).2 r av (hbx r av h3 h2) h3⟩⟩
      · refine ⟨g1.1, ?_⟩
        rcases g1.2 with g4 | ⟨g, cap, cur, g4, g5, g6, g7⟩
        · exact .inl g4
        · refine .inr ⟨g, cap, cur, g4, g5, ?_, g7⟩
          have hg : (tv q).ownBlock = some g := by rw [g4]; rfl
          rw [hblk g (h.lt_tok h1' hg).2 (hne g hg)]
          exact g6
      · rcases hd with hd | hd
        · exact (g3 g hg).1 o ho hd
        · exact hoth g (h.lt_tok h1' hg).2 (hne g hg) hd.1
  · by_cases e1 : q = n
    · have e2 : r ≠ n := fun e => hne (e1.trans e.symm)
      simp only [e1, if_true] at hg
      simp only [e2, if_false]
      have h2' := hl r f' h2 e2
      intro hg2
      have hlt := (h.lt_tok h2' hg2).2
      exact hoth g hlt (fun e => (hroom g e).2.2 r f' h2' e2 hg2) hg
    · simp only [e1, if_false] at hg
      have h1' := hl q f h1 e1
      have hlt := (h.lt_tok h1' hg).2
      by_cases e2 : r = n
      · simp only [e2, if_true]
        exact hoth g hlt (fun e => (hroom g e).2.2 q f h1' e1 hg)
      · simp only [e2, if_false]
        exact h.tinj q r f f' h1' (hl r f' h2 e2) hne g hg
  · rcases hd with hd | hd
    · exact Nat.lt_of_lt_of_le (h.dlt b o hd) hgr.size
    · exact (hv'lt b hd.1).2

/-- 'append(v, x...)', v a row of the call's own: where what comes of it lies. -/
theorem run_app {P : Program} {t ty e : TypeId} {z : Value} {size bytes : Nat} (ht : P.underlying t = some (.slice e)) (hi : (P.info? e).map (fun i => (i.zero, i.size, i.bytes)) = some (some z, size, bytes)) (hzs : z.cells.size = size) (hsz : 0 < size)
    {v : Value} {n : Nat} {xs : List Value} {base : Nat} (hbase : base ≤ w.heap.size) (hown : w.ownsRow base e size v n xs) {ao : Option Addr} {m c : Nat} {ys : List Value} {U : Nat → Nat → Prop} (hnil : ao = none → m = 0 ∧ c = 0) (hb : At U w ao ys) (hl : ys.length = m * size) (h1 : ∀ u ∈ ys, u.oneCell' = true) (h63 : n + m ≤ maxLen) (hbytes : (n + m) * bytes ≤ 140737488355328) :
    ∃ v' w', Sem.run P (Builtin.append_ #[t, t] ty #[v, .slice ao m c]) w = .ok v' w' ∧ w'.ownsRow base e size v' (n + m) (xs ++ ys) ∧ w.grownBy w' v.ownBlock ∧ (v'.ownBlock = v.ownBlock ∨ (w.grownBy w' none ∧ ∀ g, v'.ownBlock = some g → w.heap.size ≤ g)) := by
  obtain ⟨i, hi1, hi2, hi3, hi4⟩ := info_parts hi
  cases ao with
  | none =>
    obtain ⟨rfl, rfl⟩ := hnil rfl
    have : ys = [] := List.eq_nil_of_length_eq_zero (by omega)
    subst this
    exact ⟨v, w, run_append_owned_none (P := P) (w := w) base t ty e i size ht hi1 v _ _ hown, by simpa using hown, World.grownBy.refl _ _, .inl rfl⟩
  | some ad =>
    have hnews : ∀ j u, ys[j]? = some u → w.cell? (ad.add j) = some u := by
      intro j u hj
      have hjl : j < ys.length := by
        rcases Nat.lt_or_ge j ys.length with h | h
        · exact h
        · rw [List.getElem?_eq_none h] at hj; cases hj
      rcases hb with rfl | ⟨b, off, ha, hc⟩
      · simp at hjl
      · cases ha
        rw [show (⟨b, off, none⟩ : Addr).add j = ⟨b, off + j, none⟩ by unfold Addr.add; split <;> simp_all, (hc j hjl).2, hj]
    rcases hown.2 with ⟨rfl, rfl⟩ | ⟨g, cap, cur, rfl, hbg, hg, hnc, hcm, hcs, htake⟩
    · have hx : xs = [] := List.eq_nil_of_length_eq_zero (by simpa using hown.1)
      subst hx
      obtain ⟨v', w', hr, ho, hg, _⟩ := run_append_own (P := P) w w.heap.size t ty e i z size bytes ht hi1 hi2 hi3 hi4 hzs hsz (.slice none 0 0) 0 [] (World.ownsRow_nil _ _ _ _) ad m c ys hl hnews h1 h63 hbytes (Nat.le_refl _)
      exact ⟨v', w', hr, ownsRow_mono ho hbase, hg, .inr ⟨hg, fun g hg => (ho.lt g hg).1⟩⟩
    · by_cases hroom : n + m ≤ cap
      · obtain ⟨w', hr, ho, hgr⟩ := run_append_fits (P := P) w base t ty e i size ht hi1 hi3 g n cap xs hown ad m c ys hl hnews h1 hroom
        exact ⟨_, w', hr, ho, hgr, .inl rfl⟩
      · obtain ⟨v', w', hr, ho, hgr⟩ := run_append_arg_grows (P := P) w t ty e i z size bytes ht hi1 hi2 hi3 hi4 hzs hsz ⟨g, 0, none⟩ n cap xs hown.1 (hown.cells (g := g) rfl) ad m c ys hl hnews (by omega) h63 hbytes
        exact ⟨v', w', hr, ownsRow_mono ho hbase, hgr.but _, .inr ⟨hgr, fun g hg => (ho.lt g hg).1⟩⟩

/-- Cells of a row of the call's own, read twice. -/
theorem own_same {base : Nat} {e : TypeId} {z : Nat} {v : Value} {k : Nat} {xs ys : List Value} {U : Nat → Nat → Prop} {ao : Option Addr} {n c : Nat} (h : w.ownsRow base e z v k xs) (hv : v = .slice ao n c) (ha : At U w ao ys) (hl : ys.length = k * z) : xs = ys ∧ k = n := by
  have hk : k = n := by
    rcases h.2 with ⟨h1, h2⟩ | ⟨g, cap, cur, h1, _⟩
    · rw [hv] at h1; cases h1; exact h2
    · rw [hv] at h1; cases h1; rfl
  refine ⟨?_, hk⟩
  rcases ha with rfl | ⟨b, off, rfl, hc⟩
  · exact List.eq_nil_of_length_eq_zero (by rw [h.1]; simpa using hl.symm)
  · apply List.ext_getElem?
    intro j
    by_cases hj : j < k * z
    · have hoff : off = 0 := by
        rcases h.2 with ⟨h1, h2⟩ | ⟨g, cap, cur, h1, _⟩
        · rw [hv] at h1; cases h1
        · rw [hv] at h1; cases h1; rfl
      have e1 := own_cell h (g := b) (by rw [hv]; rfl) hj
      have e2 := (hc j (by omega)).2
      rw [hoff, Nat.zero_add] at e2
      rw [← e1, ← e2]
    · rw [List.getElem?_eq_none (by rw [h.1]; omega), List.getElem?_eq_none (by omega)]

theorem rep_one_of {U : Nat → Nat → Prop} {l : List CV} {xs : List Value} (h : Sq (l.map fun c => Rep U w c) xs) : ∀ u ∈ xs, u.oneCell' = true := sq_one (fun c _ xs h => h.one) h

/-- The law of append, behind the choice of the row. -/
theorem appLaw {Q : Exit → Act → World → Prop} {K : Act → World → Prop} (h : SimG w0 U0 nt s a w D bx tv) {n e size bytes : Nat} {z : Value} {t : TypeId} (hd : o.dst = some d) (hdn : d < nt) (h5 : d < 100000) (hn : 200000 ≤ n) (hr : NoRef s n) {x y : Operand} (ho : o.op = .call { callee := .builtin .append, args := #[x, y], argTypes := #[t, t] })
    (ht : P.underlying t = some (.slice e)) (hi : (P.info? e).map (fun i => (i.zero, i.size, i.bytes)) = some (some z, size, bytes)) (hzs : z.cells.size = size) (hsz : 0 < size) (hbt : bytes ≤ 1000)
    {l l2 : List CV} (hl : ∀ c ∈ l, c.size = size) (hl2 : ∀ c ∈ l2, c.size = size) (hbd : l.length + l2.length ≤ 100000000000)
    {v : Value} (hx : a.eval x = v) (hvr : VRep (Us w0 U0 D) w (.lst l) v) (hy : VRep (Us w0 U0 D) w (.lst l2) (a.eval y)) {k : Nat} {xs : List Value} (hown : w.ownsRow w0.heap.size e size v k xs)
    (hroom : ∀ g, v.ownBlock = some g → (∀ o, k * size ≤ o → ¬ D g o) ∧ (∀ q av, look s (100000 + q) = some av → q < 100000 → bx q ≠ g) ∧ ∀ q f, Live s q f → q ≠ n → (tv q).ownBlock ≠ some g)
    (hK : ∀ a' w', Sim w0 U0 nt ((d, .own (.lst (l ++ l2)) n) :: (n, .tok e size) :: s) a' w' → K a' w') : o.wp P a w K Q := by
  obtain ⟨ao, k2, c, h1, h2, h3, h4, h6, ys, h7, h8⟩ := vrep_lst.1 hvr
  obtain ⟨ao2, m, c2, g1, g2, g3, g4, g6, ys2, g7, g8⟩ := vrep_lst.1 hy
  have hyl : ys.length = k2 * size := by rw [sq_len (n := CV.size) (fun c _ xs h => h.len) h8, sum_const hl, h2]
  have hyl2 : ys2.length = m * size := by rw [sq_len (n := CV.size) (fun c _ xs h => h.len) g8, sum_const hl2, g2]
  have hk : k = k2 := by
    rcases hown.2 with ⟨e1, e2⟩ | ⟨g, cap, cur, e1, _⟩
    · rw [h1] at e1; cases e1; exact e2
    · rw [h1] at e1; cases e1; rfl
  subst hk
  obtain ⟨exy, _⟩ := own_same hown h1 h7 hyl
  subst exy
  have hmul : (k + m) * bytes ≤ 100000000000 * 1000 := Nat.mul_le_mul (by omega) hbt
  obtain ⟨v', w', r1, r2, r3, r4⟩ := run_app (P := P) (ty := o.type) ht hi hzs hsz h.below.size hown g6 g7 hyl2 (rep_one_of g8) (by unfold maxLen; omega) (by omega)
  obtain ⟨s1, s2⟩ := h.app hn hr hown hsz hroom r2 r3 r4
  have he : (execOp a.eval o).run P w = .ok (.value v') w' := by
    generalize a.eval = ρ at hx g1 ⊢
    simp [execOp, ho, resolve, invoke, builtin, hx, g1, r1, Result.andThen]
  unfold Oper.wp
  rw [he, Oper.upon_value, hd]
  refine hK _ _ ⟨_, _, _, s1.put hdn h5 ⟨?_, fun _ => ?_⟩⟩
  · obtain ⟨a1, c1, e1, e2, e3, e4, e5⟩ := ownsRow_cs r2
    refine vrep_lst.2 ⟨a1, k + m, c1, e1, by rw [List.length_append, ← h2, ← g2], e2, e3, e4, xs ++ ys2, ?_, ?_⟩
    · rcases e5 with e5 | ⟨b, off, ha, hlt, hc⟩
      · exact .inl e5
      · refine .inr ⟨b, off, ha, fun i hi => ⟨.inr ⟨?_, .inr ⟨?_, ?_⟩⟩, hc i hi⟩⟩
        · exact (r2.lt b (by rw [e1, ha]; rfl)).1
        · rw [e1, ha]; rfl
        · rcases r2.2 with ⟨e6, _⟩ | ⟨g, cap, cur, e6, _⟩
          · rw [e1, ha] at e6; cases e6
          · rw [e1, ha] at e6; cases e6
            have := r2.1
            omega
    · rw [List.map_append]
      exact sq_append (h8.keep s2) (g8.keep s2)
  · refine ⟨0, .lst (l ++ l2), rfl, ?_⟩
    have : v'.cells.toList = [v'] := by
      obtain ⟨a1, c1, e1, _⟩ := ownsRow_cs r2
      rw [e1]; rfl
    rw [this]
    unfold tokv
    rw [if_neg (by show n ≠ 1; omega)]
    simp

/-- Append to nil. -/
theorem a_app_nil (hg : Gd w0 U0 nt ops o gs S) (hd : o.dst = some d) (hn : Nat.blt d nt = true) (h5 : Nat.blt d 100000 = true) {x y : Operand} {t e size bytes : Nat} {z : Value} {l l2 : List CV} {q n2 q2 p2} (ho : o.op = .call { callee := .builtin .append, args := #[x, y], argTypes := #[t, t] }) (ht : P.underlying t = some (.slice e)) (hi : (P.info? e).map (fun i => (i.zero, i.size, i.bytes)) = some (some z, size, bytes)) (hzs : Nat.beq z.cells.size size = true) (hsz : Nat.blt 0 size = true) (hbt : Nat.ble bytes 1000 = true)
    (hx : ev S x = some ⟨0, .lst l, 1, q, []⟩) (hy : ev S y = some ⟨0, .lst l2, n2, q2, p2⟩) (hl : ∀ c ∈ l, c.size = size) (hl2 : ∀ c ∈ l2, c.size = size) (hbd : l.length + l2.length ≤ 100000000000) :
    AOp P w0 U0 nt ops o (gs ++ (rd x ++ rd y)) [300000 + d] S [(d, .own (.lst (l ++ l2)) (300000 + d)), (300000 + d, .tok e size)] := by
  intro s hs hN a w ⟨D, bx, tv, h⟩ Q K hK
  rw [if_pos (hg s (fun k hk => hs k (List.mem_append_left _ hk)) a w D bx tv h)]
  obtain ⟨h1, h2⟩ : VRep (Us w0 U0 D) w (.lst l) (a.eval x) ∧ Tk tv (LiveN s) ⟨0, .lst l, 1, q, []⟩ (a.eval x).cells.toList := ev_rep h (fun k hk => hs k (List.mem_append_right _ (List.mem_append_left _ hk))) hx
  have h3 := ev_val h (fun k hk => hs k (List.mem_append_right _ (List.mem_append_right _ hk))) hy
  have hnil : a.eval x = .slice none 0 0 := by
    obtain ⟨m, c, g1, g2⟩ := h2 (.inl rfl)
    simp only at g1
    rw [at_nil] at g1
    cases g1
    obtain ⟨ao, k, c, e1, _⟩ := vrep_lst.1 h1
    rw [e1] at g2 ⊢
    simpa [Value.cells, tokv] using g2
  refine appLaw (n := 300000 + d) h hd (blt_lt hn) (blt_lt h5) (by omega) (hN _ (by simp)) ho ht hi (Nat.eq_of_beq_eq_true hzs) (blt_lt hsz) (Nat.le_of_ble_eq_true hbt) hl hl2 hbd hnil (hnil ▸ h1) h3 (World.ownsRow_nil _ _ _ _) (fun g hg => by cases hg) hK
/-- Append to a row that may grow. -/
theorem a_app (hg : Gd w0 U0 nt ops o gs S) (hd : o.dst = some d) (hn : Nat.blt d nt = true) (h5 : Nat.blt d 100000 = true) {x y : Operand} {t e size bytes : Nat} {z : Value} {l l2 : List CV} {n q n2 q2 p2} (ho : o.op = .call { callee := .builtin .append, args := #[x, y], argTypes := #[t, t] }) (ht : P.underlying t = some (.slice e)) (hi : (P.info? e).map (fun i => (i.zero, i.size, i.bytes)) = some (some z, size, bytes)) (hzs : Nat.beq z.cells.size size = true) (hsz : Nat.blt 0 size = true) (hbt : Nat.ble bytes 1000 = true)
    (hx : ev S x = some ⟨0, .lst l, n, q, []⟩) (hy : ev S y = some ⟨0, .lst l2, n2, q2, p2⟩) (hnn : Nat.ble 200000 n = true) (hne : Nat.beq n (300000 + d) = false) (hlv : S n = some (.tok e size)) (hl : ∀ c ∈ l, c.size = size) (hl2 : ∀ c ∈ l2, c.size = size) (hbd : l.length + l2.length ≤ 100000000000) :
    AOp P w0 U0 nt ops o (gs ++ (rd x ++ (rd y ++ [n]))) [300000 + d] S [(d, .own (.lst (l ++ l2)) (300000 + d)), (300000 + d, .tok e size), (n, .no)] := by
  intro s hs hN a w ⟨D, bx, tv, h⟩ Q K hK
  rw [if_pos (hg s (fun k hk => hs k (List.mem_append_left _ hk)) a w D bx tv h)]
  obtain ⟨h1, h2⟩ : VRep (Us w0 U0 D) w (.lst l) (a.eval x) ∧ Tk tv (LiveN s) ⟨0, .lst l, n, q, []⟩ (a.eval x).cells.toList := ev_rep h (fun k hk => hs k (List.mem_append_right _ (List.mem_append_left _ hk))) hx
  have h3 := ev_val h (fun k hk => hs k (List.mem_append_right _ (List.mem_append_right _ (List.mem_append_left _ hk)))) hy
  have hn2 : 200000 ≤ n := Nat.le_of_ble_eq_true hnn
  have hlive : Live s n (e, size) := ⟨(hs n (by simp)).trans hlv, hn2⟩
  have hval : a.eval x = tv n := by
    obtain ⟨m, c, g1, g2⟩ := h2 (.inr ⟨_, hlive⟩)
    simp only at g1
    rw [at_nil] at g1
    cases g1
    obtain ⟨ao, k, c, e1, _⟩ := vrep_lst.1 h1
    unfold tokv at g2
    rw [if_neg (by show n ≠ 1; omega)] at g2
    rw [e1] at g2 ⊢
    simpa [Value.cells] using g2
  obtain ⟨z', k, xs, g1, ⟨g2, rfl⟩, g3⟩ := h.toks n _ hlive
  have hne' : n ≠ 300000 + d := fun e => by rw [e, Nat.beq_refl] at hne; cases hne
  have hkill := h.kill hn2
  refine appLaw (n := 300000 + d) hkill hd (blt_lt hn) (blt_lt h5) (by omega) (fun k av hk => ?_) ho ht hi (Nat.eq_of_beq_eq_true hzs) (blt_lt hsz) (Nat.le_of_ble_eq_true hbt) hl hl2 hbd hval (hval ▸ h1) h3 g1 (fun g hg => ⟨(g3 g hg).1, fun q av h6 h7 => (g3 g hg).2 q av (by rw [look_ne (by omega)] at h6; exact h6) h7, fun q f h6 h7 => ?_⟩) (fun a' w' hs' => hK a' w' ?_)
  · by_cases e : n = k
    · subst e; rw [look_same] at hk; cases hk; show 0 ≠ _; omega
    · rw [look_ne e] at hk; exact hN (300000 + d) (by simp) k av hk
  · have hq : q ≠ n := fun e => by subst e; have := h6.1; rw [look_same] at this; cases this
    have h8 : Live s q f := ⟨by have := h6.1; rw [look_ne (Ne.symm hq)] at this; exact this, h6.2⟩
    exact fun e => h.tinj n q _ f hlive h8 (Ne.symm hq) g hg e
  · exact hs'
end
end Go.Proofs.Ytffecopfikbbbaa
