/-
  Slices that are built; append to a row that may grow.
-/
import Derived.Test.YtmdhefepaolhcaaAbStep3
namespace Go.Proofs.Ytmdhefepaolhcaa
open Go.RowKit
set_option linter.unusedVariables false
set_option linter.unusedSimpArgs false

theorem flat_const {s : Nat} (hs : 0 < s) : ∀ (vs : List (List Value)), (∀ v ∈ vs, v.length = s) → ∀ k, vs.flatten[k]? = (vs[k / s]?).bind (fun v => v[k % s]?)
  | [], _, k => by simp
  | v :: vs, h, k => by
    have hv := h v (by simp)
    rw [List.flatten_cons]
    by_cases hk : k < s
    · rw [List.getElem?_append_left (by omega), Nat.div_eq_of_lt hk, Nat.mod_eq_of_lt hk]
      simp
    · rw [List.getElem?_append_right (by omega), flat_const hs vs (fun u hu => h u (List.mem_cons_of_mem _ hu)), hv]
      have e1 : k / s = (k - s) / s + 1 := by
        rw [← Nat.add_div_right _ hs]; congr 1; omega
      have e2 : k % s = (k - s) % s := by
        conv => lhs; rw [show k = (k - s) + s by omega, Nat.add_mod_right]
      rw [e1, e2]
      simp

def dense : List (Nat × Operand) → Nat → Bool
  | [], _ => true
  | x :: ps, i => match Nat.beq x.1 i with | true => dense ps (i + 1) | false => false
theorem dense_spec : ∀ {ps : List (Nat × Operand)} {i : Nat}, dense ps i = true → ∀ (ρ : Operand → Value), (ps.map fun x => (x.1, ρ x.2)) = ((ps.map fun x => ρ x.2).zipIdx i).map fun x => (x.2, x.1)
  | [], _, _, _ => rfl
  | x :: ps, i, h, ρ => by
    unfold dense at h
    split at h
    · rename_i hb
      have := Nat.eq_of_beq_eq_true hb
      rw [List.map_cons, dense_spec h ρ, List.map_cons, List.zipIdx_cons, List.map_cons, this]
    · cases h
noncomputable def szAll : List CV → Nat → Bool
  | [], _ => true
  | c :: cs, z => match Nat.beq c.size z with | true => szAll cs z | false => false
theorem szAll_spec : ∀ {l : List CV} {z : Nat}, szAll l z = true → ∀ c ∈ l, c.size = z
  | [], _, _, c, hc => by simp at hc
  | x :: l, z, h, c, hc => by
    unfold szAll at h
    split at h
    · rename_i hb
      rcases List.mem_cons.1 hc with rfl | hc
      · exact Nat.eq_of_beq_eq_true hb
      · exact szAll_spec h c hc
    · cases h

/-- A row's tree out of its elements. -/
theorem sq_of_vreps {U : Nat → Nat → Prop} {w : World} : ∀ {cs : List CV} {vs : List Value}, VReps U w cs vs → Sq (cs.map fun c => Rep U w c) (vs.map fun v => v.cells.toList).flatten
  | [], vs, h => by have h : vs = [] := h; rw [h]; rfl
  | c :: cs, vs, ⟨u, us, e, h1, h2⟩ => by
    rw [e]
    exact ⟨u.cells.toList, (us.map fun v => v.cells.toList).flatten, rfl, h1.cells, sq_of_vreps h2⟩
theorem vreps_size {U : Nat → Nat → Prop} {w : World} {z : Nat} : ∀ {cs : List CV} {vs : List Value}, VReps U w cs vs → (∀ c ∈ cs, c.size = z) → ∀ v ∈ vs, v.cells.size = z
  | [], vs, h, _ => by have h : vs = [] := h; rw [h]; simp
  | c :: cs, vs, ⟨u, us, e, h1, h2⟩, hz => by
    intro v hv
    rw [e] at hv
    rcases List.mem_cons.1 hv with rfl | hv
    · rw [← Array.length_toList, h1.cells.len, hz c (by simp)]
    · exact vreps_size h2 (fun x hx => hz x (List.mem_cons_of_mem _ hx)) v hv

section
variable {P : Program} {w0 : World} {U0 : UX} {nt : Nat} {ops : Array Oper} {o : Oper} {S : Nat → Option AV} {gs : List Nat} {d : Nat} {s : AS} {a : Act} {w : World} {D : Nat → Nat → Prop} {hv : Nat → Value}

theorem us_new {o : Obj} (hbase : w0.heap.size ≤ w.heap.size) (i : Nat) : Us w0 U0 (Dn D w (w.alloc o)) w.heap.size i := .inr ⟨hbase, .inr ⟨Nat.le_refl _, by simp⟩⟩

/-- A slice is built of its elements. -/
theorem a_bslice (hg : Gd w0 U0 nt ops o gs S) (hd : o.dst = some d) (hn : Nat.blt d nt = true) (h5 : Nat.blt d 100000 = true) {t e : TypeId} {len : Nat} {parts : Array (Nat × Operand)} {ie : TypeInfo} {z : Value} {cs : List CV} (ho : o.op = .buildSlice t len parts) (hu : P.underlying t = some (.slice e)) (hi : P.info? e = some ie) (hz : ie.zero = some z) (hdn : dense parts.toList 0 = true) (hx : evsO S (parts.toList.map (·.2)) = some cs) (hl : Nat.beq cs.length len = true) (hsz : szAll cs ie.size = true) (hp : Nat.blt 0 (len * ie.size) = true) (h24 : Nat.ble (len * ie.size) 16777216 = true) :
    AOp P w0 U0 nt ops o (gs ++ rdl (parts.toList.map (·.2))) [] S [(d, .val (.lst cs))] := by
  intro s hs hN a w ⟨D, hv, h⟩ Q K hK
  rw [if_pos (hg s (fun k hk => hs k (List.mem_append_left _ hk)) a w D hv h)]
  have hvr := evsO_rep h (fun k hk => hs k (List.mem_append_right _ hk)) hx
  rw [List.map_map] at hvr
  have hlen : cs.length = len := Nat.eq_of_beq_eq_true hl
  have hvl := hvr.len
  have hpos := blt_lt hp
  have hs0 : 0 < ie.size := Nat.pos_of_ne_zero fun e => by rw [e] at hpos; simp at hpos
  have hsizes := vreps_size hvr (szAll_spec hsz)
  obtain ⟨vs, hvs⟩ : ∃ vs, vs = parts.toList.map (a.eval ∘ (·.2)) := ⟨_, rfl⟩
  rw [← hvs] at hvr hvl hsizes
  obtain ⟨r, hf, hrs, hrk⟩ := Great.fill_dense hs0 vs 0 ((Array.range (len * ie.size)).map (z.cells[· % z.cells.size]!)) hsizes (by simp; rw [hvl, hlen]; exact Nat.le_refl _)
  have hr : r.toList = (vs.map fun v => v.cells.toList).flatten := by
    apply List.ext_getElem?
    intro k
    rw [flat_const hs0 _ (by intro v hvr'; rw [List.mem_map] at hvr'; obtain ⟨u, hu, rfl⟩ := hvr'; simpa using hsizes u hu)]
    have := hrk k
    rw [← Array.getElem?_toList] at this
    simp only [Nat.zero_mul, Nat.zero_le, true_and, Nat.zero_add] at this
    rw [this]
    by_cases hk : k < vs.length * ie.size
    · rw [if_pos hk]
      simp only [Nat.sub_zero, List.getElem?_map]
      cases vs[k / ie.size]? <;> simp
    · rw [if_neg hk, Array.getElem?_eq_none (by simp; rw [← hlen, ← hvl]; omega)]
      rw [List.getElem?_map, List.getElem?_eq_none (by rw [Nat.le_div_iff_mul_le hs0]; omega)]
      rfl
  have he : (execOp a.eval o).run P w = .ok (.value (.slice (some ⟨w.heap.size, 0, none⟩) len len)) (w.alloc (.cells r e)) := by
    have h24' := Nat.le_of_ble_eq_true h24
    have hparts : (parts.map fun x => (x.1, a.eval x.2)).toList = (vs.zipIdx 0).map fun x => (x.2, x.1) := by
      rw [Array.toList_map, dense_spec hdn a.eval, hvs]
      rfl
    have := run_buildSlice (P := P) w t e len (parts.map fun x => (x.1, a.eval x.2)) r ie z hu hi hz (by omega) (by omega) (by rw [hparts]; exact hf)
    generalize a.eval = ρ at this ⊢
    simp [execOp, ho, this]
  unfold Oper.wp
  rw [he, Oper.upon_value, hd]
  have hb : Below w.heap.size w (w.alloc (.cells r e)) := (Below.refl _ _).alloc (Nat.le_refl _) _
  refine hK _ _ ⟨_, hv, (h.growN hb).put (blt_lt hn) (blt_lt h5) (avrep_val (vrep_lst.2 ⟨_, len, len, rfl, hlen.symm, Nat.le_refl _, ?_, (fun h => by cases h), r.toList, ?_, ?_⟩))⟩
  · have := Nat.le_of_ble_eq_true h24
    have : len ≤ len * ie.size := Nat.le_mul_of_pos_right _ hs0
    unfold maxLen; omega
  · have := At.new (U := Us w0 U0 (Dn D w (w.alloc (.cells r e)))) w r.toList e (fun i _ => us_new h.below.size i)
    rw [Array.toArray_toList] at this
    exact this
  · rw [hr]
    exact (sq_of_vreps hvr).keep (us_keep h.dlt hb fun _ _ h => .inl h)

/-- An object that is no more known. -/
theorem SimG.kill (h : SimG w0 U0 nt s a w D hv) {n : Nat} (hn : oKey n) : SimG w0 U0 nt ((n, .no) :: s) a w D hv := by
  unfold oKey at hn
  have hlk : ∀ {k av}, look ((n, AV.no) :: s) k = some av → av.t ≠ 7 → look s k = some av := fun {k av} h1 h2 => by
    by_cases e : n = k
    · subst e; rw [look_same] at h1; cases h1; exact absurd rfl h2
    · rw [look_ne e] at h1; exact h1
  have hl : ∀ m e, Live ((n, AV.no) :: s) m e → Live s m e := fun m e ⟨h1, h2⟩ => ⟨hlk h1 (by simp), h2⟩
  have hln : ∀ m, LiveN ((n, AV.no) :: s) m → LiveN s m := fun m h1 => h1.imp id fun ⟨e, he⟩ => ⟨e, hl _ _ he⟩
  have hid : ∀ b o v, Us w0 U0 D b o → w.cell? ⟨b, o, none⟩ = some v → Us w0 U0 D b o ∧ w.cell? ⟨b, o, none⟩ = some v := fun _ _ _ h1 h2 => ⟨h1, h2⟩
  refine ⟨h.below, h.dfr, h.size, fun d av h1 h2 => ?_, fun k o av h1 h2 h3 h4 => ?_, fun k o o' av av' h1 h2 => ?_, fun k av h1 h2 => ?_, fun k av g h1 h2 h3 => h.blk k av g (hlk h1 h3) h2 h3, fun k k' av av' g h1 h2 h3 h4 h5 h6 => h.disj k k' av av' g (hlk h1 h5) (hlk h2 h6) h3 h4 h5 h6, h.fix, h.dlt⟩
  · rw [look_ne (by omega)] at h1
    obtain ⟨v, h3, h4⟩ := h.slot d av h1 h2
    exact ⟨v, h3, h4.move hid (fun _ => hln _) fun _ => rfl⟩
  · rw [look_ne (by unfold fKey; omega)] at h1
    obtain ⟨v, h5, h6⟩ := h.fld k o av h1 h2 (hlk h3 (by simp)) h4
    exact ⟨v, h5.move hid (fun _ => hln _) fun _ => rfl, h6⟩
  · rw [look_ne (by unfold fKey; omega)] at h1 h2
    exact h.fdis k o o' av av' h1 h2
  · by_cases h7 : av.t = 7
    · exact oc_no h7
    · exact (h.obj k av (hlk h1 h7) h2).move hid (fun _ h3 => ⟨hln _ h3, rfl⟩) fun _ _ => rfl

/-- A new row, or one that has grown: its name is n. -/
theorem SimG.newrow (h : SimG w0 U0 nt s a w D hv) {n : Nat} (hnw : RW n) (hr : NoRef s n) {avn : AV} (hno : avn ≠ .obj) {w' : World} {v' : Value} {D' : Nat → Nat → Prop} {X : Nat → Prop} (hgr : BelowX X w w')
    (hX : ∀ b, X b → Mn w0 U0 (lcl n avn) b ∧ ∀ q av, look s q = some av → oKey q → av.t ≠ 7 → q ≠ n → hb (hv q) ≠ some b)
    (hv' : ∀ g, hb v' = some g → (X g ∨ w.heap.size ≤ g) ∧ g < w'.heap.size ∧ NoD D' avn v' g)
    (hD : ∀ b o, D' b o → D b o ∨ hb v' = some b) (hDlt : ∀ b o, D' b o → b < w'.heap.size)
    (hk : ∀ b o u, Us w0 U0 D b o → w.cell? ⟨b, o, none⟩ = some u → Us w0 U0 D' b o ∧ w'.cell? ⟨b, o, none⟩ = some u)
    (hoc : ∀ hv lv, OC (Us w0 U0 D') w' hv lv avn v') :
    SimG w0 U0 nt ((n, avn) :: s) a w' D' (fun x => if x = n then v' else hv x) := by
  obtain ⟨hv2, hhv⟩ : ∃ hv2 : Nat → Value, hv2 = fun x => if x = n then v' else hv x := ⟨_, rfl⟩
  rw [← hhv]
  have hvn : ∀ k, k ≠ n → hv2 k = hv k := fun k hk => by rw [hhv]; simp only [if_neg hk]
  have hvd : hv2 n = v' := by rw [hhv]; simp
  have hn := hnw.rn
  have hn' := hnw
  unfold RW at hn'
  have hlk : ∀ {k}, k ≠ n → look ((n, avn) :: s) k = look s k := fun {k} hk => look_ne (Ne.symm hk)
  have hl : ∀ q f, Live ((n, avn) :: s) q f → q ≠ n → Live s q f := fun q f ⟨h1, h2⟩ hne => by rw [hlk hne] at h1; exact ⟨h1, h2⟩
  have hln : ∀ {k av}, look s k = some av → LiveN ((n, avn) :: s) av.n → LiveN s av.n := fun {k av} h1 h2 => h2.imp id fun ⟨f, hf⟩ => ⟨f, hl _ _ hf (hr k av h1).1⟩
  have hmv : ∀ {k av v}, look s k = some av → AVRep (Us w0 U0 D) w hv (LiveN s) av v → AVRep (Us w0 U0 D') w' hv2 (LiveN ((n, avn) :: s)) av v := fun {k av v} h1 h2 =>
    h2.move hk (fun _ => hln h1) fun h3 => hvn _ (hk_ne_row hn (hr k av h1).1 h3)
  have hblk : ∀ k av g, look s k = some av → oKey k → av.t ≠ 7 → k ≠ n → hb (hv k) = some g → w'.heap[g]? = w.heap[g]? := fun k av g h1 h2 h3 h4 h5 =>
    hgr.block g (h.blk k av g h1 h2 h3 h5).2.1 fun hx => (hX g hx).2 k av h1 h2 h3 h4 h5
  have hmn : ∀ g, hb v' = some g → Mn w0 U0 (lcl n avn) g := fun g hg => by
    rcases (hv' g hg).1 with h1 | h1
    · exact (hX g h1).1
    · exact .inl (Nat.le_trans h.below.size h1)
  have hsep : ∀ k av g, look s k = some av → oKey k → av.t ≠ 7 → k ≠ n → hb (hv k) = some g → hb v' ≠ some g := fun k av g h1 h2 h3 h4 h5 h6 => by
    rcases (hv' g h6).1 with h7 | h7
    · exact (hX g h7).2 k av h1 h2 h3 h4 h5
    · have := (h.blk k av g h1 h2 h3 h5).2.1
      omega
  refine ⟨⟨hgr.os.trans h.below.os, hgr.tape.trans h.below.tape, hgr.output.trans h.below.output, Nat.le_trans h.below.size hgr.size, fun b hb hx => ?_⟩, h.dfr, h.size, fun d av h1 h2 => ?_, fun m o av h1 h2 h3 h4 => ?_, fun m o o' av av' h1 h2 => ?_, fun k av h1 h2 => ?_, fun k av g h1 h2 h3 h4 => ?_, fun k k' av av' g h1 h2 h3 h4 h5 h6 hne => ?_, fun m g h1 => ?_, hDlt⟩
  · have hlt := Nat.lt_of_lt_of_le hb h.below.size
    rw [hgr.block b hlt fun e => ?_]
    · exact h.below.block b hb hx
    · rcases (hX b e).1 with h1 | h1
      · omega
      · exact hx h1.2
  · rw [hlk (by omega)] at h1
    obtain ⟨u, h3, h4⟩ := h.slot d av h1 h2
    exact ⟨u, h3, hmv h1 h4⟩
  · rw [hlk (by unfold fKey; omega)] at h1
    have hne : 100000 + m ≠ n := fun e => by rw [e, look_same] at h3; cases h3; exact hno rfl
    rw [hlk hne] at h3
    obtain ⟨u, h5, h6, h7⟩ := h.fld m o av h1 h2 h3 h4
    refine ⟨u, hmv h1 h5, h6, fun i hi => ?_⟩
    rw [hvn _ hne]
    have h8 := h7 i hi
    obtain ⟨g2, ys, ty2, e1, e2, e3⟩ := h.obj9 h3 h4
    have := hblk (100000 + m) _ g2 h3 (bn_okey h4) (by simp) hne (by rw [e1]; rfl)
    rw [e2] at h8 ⊢
    rw [World.cell?_of_block (w := w) this]; exact h8
  · rw [hlk (by unfold fKey; omega)] at h1 h2
    exact h.fdis m o o' av av' h1 h2
  · by_cases e : k = n
    · subst e
      rw [look_same] at h1
      cases h1
      rw [hvd]
      exact hoc _ _
    · rw [hlk e] at h1
      rw [hvn k e]
      by_cases h7 : av.t = 7
      · exact oc_no h7
      · refine (h.obj k av h1 h2).move hk (fun _ h3 => ⟨hln h1 h3, ?_⟩) fun g hg => hblk k av g h1 h2 h7 e hg
        unfold tokv
        by_cases h8 : av.n = 1
        · rw [if_pos h8, if_pos h8]
        · rw [hvn _ (hr k av h1).1]
  · by_cases e : k = n
    · subst e
      rw [look_same] at h1
      cases h1
      rw [hvd] at h4 ⊢
      exact ⟨hmn g h4, (hv' g h4).2⟩
    · rw [hlk e] at h1
      rw [hvn k e] at h4 ⊢
      obtain ⟨g1, g2, g3⟩ := h.blk k av g h1 h2 h3 h4
      refine ⟨g1, Nat.lt_of_lt_of_le g2 hgr.size, fun o ho hd => ?_⟩
      rcases hD g o hd with h5 | h5
      · exact g3 o ho h5
      · exact hsep k av g h1 h2 h3 e h4 h5
  · by_cases e1 : k = n
    · have e2 : k' ≠ n := fun e => hne (e1.trans e.symm)
      rw [hlk e2] at h2
      rw [e1, hvd, hvn k' e2]
      exact fun h7 h8 => hsep k' av' g h2 h4 h6 e2 h8 h7
    · rw [hlk e1] at h1
      by_cases e2 : k' = n
      · rw [e2, hvd, hvn k e1]
        exact fun h7 h8 => hsep k av g h1 h3 h5 e1 h7 h8
      · rw [hlk e2] at h2
        rw [hvn k e1, hvn k' e2]
        exact h.disj k k' av av' g h1 h2 h3 h4 h5 h6 hne
  · have := U0.hf m g h1
    rw [hvn _ (by omega)]
    exact h.fix m g h1

def Da (D : Nat → Nat → Prop) (v : Value) (n : Nat) (b o : Nat) : Prop := D b o ∨ (v.ownBlock = some b ∧ o < n)

theorem own_cell {base : Nat} {e : TypeId} {z : Nat} {v : Value} {k : Nat} {xs : List Value} (h : w.ownsRow base e z v k xs) {g o : Nat} (hg : v.ownBlock = some g) (ho : o < k * z) : w.cell? ⟨g, o, none⟩ = xs[o]? := by
  obtain ⟨h1, h2⟩ := h
  rcases h2 with ⟨rfl, _⟩ | ⟨g', cap, cur, rfl, hb, hh, hn, hm, hs, ht⟩
  · cases hg
  · cases hg
    simp only [World.cell?, hh]
    rw [← ht, List.getElem?_take, if_pos ho]
    simp

/-- What append does to what is known: the new row's name is n. -/
theorem SimG.app (h : SimG w0 U0 nt s a w D hv) {n e z k m : Nat} (hn : RW n) (hr : NoRef s n) {v v' : Value} {xs ys : List Value} {w' : World} (hown : w.ownsRow 0 e z v k xs) (hz : 0 < z)
    (hroom : ∀ g, v.ownBlock = some g → Mn w0 U0 6 g ∧ (∀ o, k * z ≤ o → ¬ D g o) ∧ ∀ q av, look s q = some av → oKey q → av.t ≠ 7 → q ≠ n → hb (hv q) ≠ some g)
    (ho' : w'.ownsRow 0 e z v' (k + m) (xs ++ ys)) (hgr : w.grownBy w' v.ownBlock) (hv' : v'.ownBlock = v.ownBlock ∨ (w.grownBy w' none ∧ ∀ g, v'.ownBlock = some g → w.heap.size ≤ g)) :
    SimG w0 U0 nt ((n, .tok e z) :: s) a w' (Da D v' ((k + m) * z)) (fun x => if x = n then v' else hv x) ∧ ∀ b o u, Us w0 U0 D b o → w.cell? ⟨b, o, none⟩ = some u → Us w0 U0 (Da D v' ((k + m) * z)) b o ∧ w'.cell? ⟨b, o, none⟩ = some u := by
  have hvs : ∀ {u : Value} {k xs} {w : World}, w.ownsRow 0 e z u k xs → (hb u = u.ownBlock ∧ lenOf u = k) := fun {u k xs w} h1 => by
    rcases h1.2 with ⟨rfl, rfl⟩ | ⟨g, cap, cur, rfl, _⟩
    · exact ⟨rfl, rfl⟩
    · exact ⟨rfl, rfl⟩
  obtain ⟨hb1, _⟩ := hvs hown
  obtain ⟨hb2, hl2⟩ := hvs ho'
  have hv'lt : ∀ g, v'.ownBlock = some g → g < w'.heap.size := fun g hg => (ho'.lt g hg).2
  have hk : ∀ b o u, Us w0 U0 D b o → w.cell? ⟨b, o, none⟩ = some u → Us w0 U0 (Da D v' ((k + m) * z)) b o ∧ w'.cell? ⟨b, o, none⟩ = some u := fun b o u hu hc => by
    have hlt : b < w.heap.size := World.block_lt_of_cell? w _ hc
    refine ⟨hu.imp id fun h1 => ⟨h1.1, .inl h1.2⟩, ?_⟩
    by_cases hb : v.ownBlock = some b
    · obtain ⟨hm, hf, _⟩ := hroom b hb
      have hoz : o < k * z := by
        rcases Nat.lt_or_ge o (k * z) with h1 | h1
        · exact h1
        · exact absurd rfl (us_ne hu hm (hf o h1))
      have hxl : xs.length = k * z := hown.1
      rcases hv' with h1 | ⟨h1, _⟩
      · have e1 := own_cell hown hb hoz
        have e2 := own_cell ho' (h1.trans hb) (Nat.lt_of_lt_of_le hoz (Nat.mul_le_mul_right _ (Nat.le_add_right _ _)))
        rw [e2, List.getElem?_append_left (by omega), ← e1, hc]
      · rw [World.cell?_of_block (w := w) (h1.block b hlt (by simp))]; exact hc
    · rw [World.cell?_of_block (w := w) (hgr.block b hlt fun e => hb e.symm)]; exact hc
  refine ⟨h.newrow (X := fun b => v.ownBlock = some b) hn hr (by simp) ⟨hgr.os, hgr.tape, hgr.output, hgr.size, fun b hb hx => hgr.block b hb fun e => hx e.symm⟩ (fun b hb => ⟨by rw [lcl_tok rfl]; exact (hroom b hb).1, (hroom b hb).2.2⟩) (fun g hg => ?_) (fun b o hd => hd.imp id fun h1 => by rw [hb2]; exact h1.1) (fun b o hd => ?_) hk (fun hv lv => ?_), hk⟩
  · rw [hb2] at hg
    have h1 : v.ownBlock = some g ∨ w.heap.size ≤ g := by
      rcases hv' with h1 | ⟨_, h1⟩
      · exact .inl (h1 ▸ hg)
      · exact .inr (h1 g hg)
    refine ⟨h1, hv'lt g hg, fun o ho hd => ?_⟩
    have ho := ho rfl
    rw [hl2] at ho
    rcases hd with hd | hd
    · rcases h1 with h1 | h1
      · exact (hroom g h1).2.1 o (Nat.le_trans (Nat.mul_le_mul_right _ (Nat.le_add_right _ _)) ho) hd
      · have := h.dlt _ _ hd
        omega
    · have ho : (k + m) * z ≤ o := ho
      omega
  · rcases hd with hd | hd
    · exact Nat.lt_of_lt_of_le (h.dlt _ _ hd) hgr.size
    · exact hv'lt b hd.1
  · unfold OC
    exact ⟨k + m, xs ++ ys, ho', hz⟩

/-- 'append(v, x...)', v a row of the call's own: where what comes of it lies. -/
theorem run_app {P : Program} {t ty e : TypeId} {z : Value} {size bytes : Nat} (ht : P.underlying t = some (.slice e)) (hi : (P.info? e).map (fun i => (i.zero, i.size, i.bytes)) = some (some z, size, bytes)) (hzs : z.cells.size = size) (hsz : 0 < size)
    {v : Value} {n : Nat} {xs : List Value} {base : Nat} (hbase : base ≤ w.heap.size) (hown : w.ownsRow base e size v n xs) {ao : Option Addr} {m c : Nat} {ys : List Value} {U : Nat → Nat → Prop} (hnil : ao = none → m = 0 ∧ c = 0) (hb : At U w ao ys) (hl : ys.length = m * size) (h1 : ∀ u ∈ ys, u.oneCell' = true) (h63 : n + m ≤ maxLen) (hbytes : (n + m) * bytes ≤ 140737488355328) :
    ∃ v' w', Sem.run P (Builtin.append_ #[t, t] ty #[v, .slice ao m c]) w = .ok v' w' ∧ w'.ownsRow base e size v' (n + m) (xs ++ ys) ∧ w.grownBy w' v.ownBlock ∧ (v'.ownBlock = v.ownBlock ∨ (w.grownBy w' none ∧ ∀ g, v'.ownBlock = some g → w.heap.size ≤ g)) := by
  obtain ⟨i, hi1, hi2, hi3, hi4⟩ := info_parts hi
  cases ao with
  | none =>
    obtain ⟨rfl, rfl⟩ := hnil rfl
    have : ys = [] := List.eq_nil_of_length_eq_zero (by omega)
    subst this
    exact ⟨v, w, run_append_owned_none (P := P) (w := w) base t ty e i size ht hi1 v _ _ hown, by simpa using hown, World.grownBy.refl _ _, .inl rfl⟩
  | some ad =>
    have hnews : ∀ j u, ys[j]? = some u → w.cell? (ad.add j) = some u := by
      intro j u hj
      have hjl : j < ys.length := by
        rcases Nat.lt_or_ge j ys.length with h | h
        · exact h
        · rw [List.getElem?_eq_none h] at hj; cases hj
      rcases hb with rfl | ⟨b, off, ha, hc⟩
      · simp at hjl
      · cases ha
        rw [show (⟨b, off, none⟩ : Addr).add j = ⟨b, off + j, none⟩ by unfold Addr.add; split <;> simp_all, (hc j hjl).2, hj]
    rcases hown.2 with ⟨rfl, rfl⟩ | ⟨g, cap, cur, rfl, hbg, hg, hnc, hcm, hcs, htake⟩
    · have hx : xs = [] := List.eq_nil_of_length_eq_zero (by simpa using hown.1)
      subst hx
      obtain ⟨v', w', hr, ho, hg, _⟩ := run_append_own (P := P) w w.heap.size t ty e i z size bytes ht hi1 hi2 hi3 hi4 hzs hsz (.slice none 0 0) 0 [] (World.ownsRow_nil _ _ _ _) ad m c ys hl hnews h1 h63 hbytes (Nat.le_refl _)
      exact ⟨v', w', hr, ownsRow_mono ho hbase, hg, .inr ⟨hg, fun g hg => (ho.lt g hg).1⟩⟩
    · by_cases hroom : n + m ≤ cap
      · obtain ⟨w', hr, ho, hgr⟩ := run_append_fits (P := P) w base t ty e i size ht hi1 hi3 g n cap xs hown ad m c ys hl hnews h1 hroom
        exact ⟨_, w', hr, ho, hgr, .inl rfl⟩
      · obtain ⟨v', w', hr, ho, hgr⟩ := run_append_arg_grows (P := P) w t ty e i z size bytes ht hi1 hi2 hi3 hi4 hzs hsz ⟨g, 0, none⟩ n cap xs hown.1 (hown.cells (g := g) rfl) ad m c ys hl hnews (by omega) h63 hbytes
        exact ⟨v', w', hr, ownsRow_mono ho hbase, hgr.but _, .inr ⟨hgr, fun g hg => (ho.lt g hg).1⟩⟩

/-- Cells of a row of the call's own, read twice. -/
theorem own_same {base : Nat} {e : TypeId} {z : Nat} {v : Value} {k : Nat} {xs ys : List Value} {U : Nat → Nat → Prop} {ao : Option Addr} {n c : Nat} (h : w.ownsRow base e z v k xs) (hv : v = .slice ao n c) (ha : At U w ao ys) (hl : ys.length = k * z) : xs = ys ∧ k = n := by
  have hk : k = n := by
    rcases h.2 with ⟨h1, h2⟩ | ⟨g, cap, cur, h1, _⟩
    · rw [hv] at h1; cases h1; exact h2
    · rw [hv] at h1; cases h1; rfl
  refine ⟨?_, hk⟩
  rcases ha with rfl | ⟨b, off, rfl, hc⟩
  · exact List.eq_nil_of_length_eq_zero (by rw [h.1]; simpa using hl.symm)
  · apply List.ext_getElem?
    intro j
    by_cases hj : j < k * z
    · have hoff : off = 0 := by
        rcases h.2 with ⟨h1, h2⟩ | ⟨g, cap, cur, h1, _⟩
        · rw [hv] at h1; cases h1
        · rw [hv] at h1; cases h1; rfl
      have e1 := own_cell h (g := b) (by rw [hv]; rfl) hj
      have e2 := (hc j (by omega)).2
      rw [hoff, Nat.zero_add] at e2
      rw [← e1, ← e2]
    · rw [List.getElem?_eq_none (by rw [h.1]; omega), List.getElem?_eq_none (by omega)]

theorem rep_one_of {U : Nat → Nat → Prop} {l : List CV} {xs : List Value} (h : Sq (l.map fun c => Rep U w c) xs) : ∀ u ∈ xs, u.oneCell' = true := sq_one (fun c _ xs h => h.one) h

/-- The law of append, behind the choice of the row. -/
theorem appLaw {Q : Exit → Act → World → Prop} {K : Act → World → Prop} (h : SimG w0 U0 nt s a w D hv) {n e size bytes : Nat} {z : Value} {t : TypeId} (hd : o.dst = some d) (hdn : d < nt) (h5 : d < 100000) (hn : RW n) (hr : NoRef s n) {x y : Operand} (ho : o.op = .call { callee := .builtin .append, args := #[x, y], argTypes := #[t, t] })
    (ht : P.underlying t = some (.slice e)) (hi : (P.info? e).map (fun i => (i.zero, i.size, i.bytes)) = some (some z, size, bytes)) (hzs : z.cells.size = size) (hsz : 0 < size) (hbt : bytes ≤ 1000)
    {l l2 : List CV} (hl : ∀ c ∈ l, c.size = size) (hl2 : ∀ c ∈ l2, c.size = size) (hbd : l.length + l2.length ≤ 100000000000)
    {v : Value} (hx : a.eval x = v) (hvr : VRep (Us w0 U0 D) w (.lst l) v) (hy : VRep (Us w0 U0 D) w (.lst l2) (a.eval y)) {k : Nat} {xs : List Value} (hown : w.ownsRow 0 e size v k xs)
    (hroom : ∀ g, v.ownBlock = some g → Mn w0 U0 6 g ∧ (∀ o, k * size ≤ o → ¬ D g o) ∧ ∀ q av, look s q = some av → oKey q → av.t ≠ 7 → q ≠ n → hb (hv q) ≠ some g)
    (hK : ∀ a' w', Sim w0 U0 nt ((d, .own (.lst (l ++ l2)) n) :: (n, .tok e size) :: s) a' w' → K a' w') : o.wp P a w K Q := by
  obtain ⟨ao, k2, c, h1, h2, h3, h4, h6, ys, h7, h8⟩ := vrep_lst.1 hvr
  obtain ⟨ao2, m, c2, g1, g2, g3, g4, g6, ys2, g7, g8⟩ := vrep_lst.1 hy
  have hyl : ys.length = k2 * size := by rw [sq_len (n := CV.size) (fun c _ xs h => h.len) h8, sum_const hl, h2]
  have hyl2 : ys2.length = m * size := by rw [sq_len (n := CV.size) (fun c _ xs h => h.len) g8, sum_const hl2, g2]
  have hk : k = k2 := by
    rcases hown.2 with ⟨e1, e2⟩ | ⟨g, cap, cur, e1, _⟩
    · rw [h1] at e1; cases e1; exact e2
    · rw [h1] at e1; cases e1; rfl
  subst hk
  obtain ⟨exy, _⟩ := own_same hown h1 h7 hyl
  subst exy
  have hmul : (k + m) * bytes ≤ 100000000000 * 1000 := Nat.mul_le_mul (by omega) hbt
  obtain ⟨v', w', r1, r2, r3, r4⟩ := run_app (P := P) (ty := o.type) ht hi hzs hsz (Nat.zero_le _) hown g6 g7 hyl2 (rep_one_of g8) (by unfold maxLen; omega) (by omega)
  obtain ⟨s1, s2⟩ := h.app hn hr hown hsz hroom r2 r3 r4
  have he : (execOp a.eval o).run P w = .ok (.value v') w' := by
    generalize a.eval = ρ at hx g1 ⊢
    simp [execOp, ho, resolve, invoke, builtin, hx, g1, r1, Result.andThen]
  unfold Oper.wp
  rw [he, Oper.upon_value, hd]
  refine hK _ _ ⟨_, _, s1.put hdn h5 ⟨?_, fun _ => ?_⟩⟩
  · obtain ⟨a1, c1, e1, e2, e3, e4, e5⟩ := ownsRow_cs r2
    refine vrep_lst.2 ⟨a1, k + m, c1, e1, by rw [List.length_append, ← h2, ← g2], e2, e3, e4, xs ++ ys2, ?_, ?_⟩
    · rcases e5 with e5 | ⟨b, off, ha, hlt, hc⟩
      · exact .inl e5
      · refine .inr ⟨b, off, ha, fun i hi => ⟨.inr ⟨?_, .inr ⟨?_, ?_⟩⟩, hc i hi⟩⟩
        · have hbo : v'.ownBlock = some b := by rw [e1, ha]; rfl
          rcases r4 with r4 | ⟨_, r4⟩
          · rcases (hroom b (r4 ▸ hbo)).1 with h1 | h1
            · exact h1
            · exact absurd rfl h1.1
          · exact Nat.le_trans h.below.size (r4 b hbo)
        · rw [e1, ha]; rfl
        · rcases r2.2 with ⟨e6, _⟩ | ⟨g, cap, cur, e6, _⟩
          · rw [e1, ha] at e6; cases e6
          · rw [e1, ha] at e6; cases e6
            have := r2.1
            omega
    · rw [List.map_append]
      exact sq_append (h8.keep s2) (g8.keep s2)
  · refine ⟨0, .lst (l ++ l2), rfl, ?_⟩
    have : v'.cells.toList = [v'] := by
      obtain ⟨a1, c1, e1, _⟩ := ownsRow_cs r2
      rw [e1]; rfl
    rw [this]
    unfold tokv
    rw [if_neg (by show n ≠ 1; unfold RW at hn; omega)]
    simp

/-- Append to nil. -/
theorem a_app_nil (hg : Gd w0 U0 nt ops o gs S) (hd : o.dst = some d) (hn : Nat.blt d nt = true) (h5 : Nat.blt d 100000 = true) {x y : Operand} {t e size bytes : Nat} {z : Value} {l l2 : List CV} {q n2 q2 p2} (ho : o.op = .call { callee := .builtin .append, args := #[x, y], argTypes := #[t, t] }) (ht : P.underlying t = some (.slice e)) (hi : (P.info? e).map (fun i => (i.zero, i.size, i.bytes)) = some (some z, size, bytes)) (hzs : Nat.beq z.cells.size size = true) (hsz : Nat.blt 0 size = true) (hbt : Nat.ble bytes 1000 = true)
    (hx : ev S x = some ⟨0, .lst l, 1, q, []⟩) (hy : ev S y = some ⟨0, .lst l2, n2, q2, p2⟩) (hl : ∀ c ∈ l, c.size = size) (hl2 : ∀ c ∈ l2, c.size = size) (hbd : l.length + l2.length ≤ 100000000000) :
    AOp P w0 U0 nt ops o (gs ++ (rd x ++ rd y)) [(300000 + d, [])] S [(d, .own (.lst (l ++ l2)) (300000 + d)), (300000 + d, .tok e size)] := by
  intro s hs hN a w ⟨D, hv, h⟩ Q K hK
  rw [if_pos (hg s (fun k hk => hs k (List.mem_append_left _ hk)) a w D hv h)]
  obtain ⟨h1, h2⟩ : VRep (Us w0 U0 D) w (.lst l) (a.eval x) ∧ Tk hv (LiveN s) ⟨0, .lst l, 1, q, []⟩ (a.eval x).cells.toList := ev_rep h (fun k hk => hs k (List.mem_append_right _ (List.mem_append_left _ hk))) hx
  have h3 := ev_val h (fun k hk => hs k (List.mem_append_right _ (List.mem_append_right _ hk))) hy
  have hnil : a.eval x = .slice none 0 0 := by
    obtain ⟨m, c, g1, g2⟩ := h2 (.inl rfl)
    simp only at g1
    rw [at_nil] at g1
    cases g1
    obtain ⟨ao, k, c, e1, _⟩ := vrep_lst.1 h1
    rw [e1] at g2 ⊢
    simpa [Value.cells, tokv] using g2
  refine appLaw (n := 300000 + d) h hd (blt_lt hn) (blt_lt h5) ⟨by omega, by have := blt_lt h5; omega⟩ (hN (300000 + d, []) (by simp)).nr ho ht hi (Nat.eq_of_beq_eq_true hzs) (blt_lt hsz) (Nat.le_of_ble_eq_true hbt) hl hl2 hbd hnil (hnil ▸ h1) h3 (World.ownsRow_nil _ _ _ _) (fun g hg => by cases hg) hK
/-- Append to a row that may grow. -/
theorem a_app (hg : Gd w0 U0 nt ops o gs S) (hd : o.dst = some d) (hn : Nat.blt d nt = true) (h5 : Nat.blt d 100000 = true) {x y : Operand} {t e size bytes : Nat} {z : Value} {l l2 : List CV} {n q n2 q2 p2} (ho : o.op = .call { callee := .builtin .append, args := #[x, y], argTypes := #[t, t] }) (ht : P.underlying t = some (.slice e)) (hi : (P.info? e).map (fun i => (i.zero, i.size, i.bytes)) = some (some z, size, bytes)) (hzs : Nat.beq z.cells.size size = true) (hsz : Nat.blt 0 size = true) (hbt : Nat.ble bytes 1000 = true)
    (hx : ev S x = some ⟨0, .lst l, n, q, []⟩) (hy : ev S y = some ⟨0, .lst l2, n2, q2, p2⟩) (hnn : Nat.ble 200000 n = true) (hnx' : Nat.blt n 400000 = true) (hne : Nat.beq n (300000 + d) = false) (hlv : S n = some (.tok e size)) (hl : ∀ c ∈ l, c.size = size) (hl2 : ∀ c ∈ l2, c.size = size) (hbd : l.length + l2.length ≤ 100000000000) :
    AOp P w0 U0 nt ops o (gs ++ (rd x ++ (rd y ++ [n]))) [(300000 + d, [])] S [(d, .own (.lst (l ++ l2)) (300000 + d)), (300000 + d, .tok e size), (n, .no)] := by
  intro s hs hN a w ⟨D, hv, h⟩ Q K hK
  rw [if_pos (hg s (fun k hk => hs k (List.mem_append_left _ hk)) a w D hv h)]
  obtain ⟨h1, h2⟩ : VRep (Us w0 U0 D) w (.lst l) (a.eval x) ∧ Tk hv (LiveN s) ⟨0, .lst l, n, q, []⟩ (a.eval x).cells.toList := ev_rep h (fun k hk => hs k (List.mem_append_right _ (List.mem_append_left _ hk))) hx
  have h3 := ev_val h (fun k hk => hs k (List.mem_append_right _ (List.mem_append_right _ (List.mem_append_left _ hk)))) hy
  have hn2 : 200000 ≤ n := Nat.le_of_ble_eq_true hnn
  have hnx := blt_lt hnx'
  have hok : oKey n := ⟨by omega, by omega⟩
  have hlk := (hs n (by simp)).trans hlv
  have hlive : Live s n (e, size) := ⟨hlk, hn2, hnx⟩
  have hval : a.eval x = hv n := by
    obtain ⟨m, c, g1, g2⟩ := h2 (.inr ⟨_, hlive⟩)
    simp only at g1
    rw [at_nil] at g1
    cases g1
    obtain ⟨ao, k, c, e1, _⟩ := vrep_lst.1 h1
    unfold tokv at g2
    rw [if_neg (by show n ≠ 1; omega)] at g2
    rw [e1] at g2 ⊢
    simpa [Value.cells] using g2
  obtain ⟨k, xs, g1, g2⟩ : ∃ k xs, w.ownsRow 0 e size (hv n) k xs ∧ 0 < size := h.obj n _ hlk hok
  have hvs : hb (hv n) = (hv n).ownBlock ∧ lenOf (hv n) = k := by
    rcases g1.2 with ⟨e1, e2⟩ | ⟨g, cap, cur, e1, _⟩
    · rw [e1, e2]; exact ⟨rfl, rfl⟩
    · rw [e1]; exact ⟨rfl, rfl⟩
  have hne' : n ≠ 300000 + d := fun e => by rw [e, Nat.beq_refl] at hne; cases hne
  have hkill := h.kill hok
  have h5' := blt_lt h5
  refine appLaw (n := 300000 + d) hkill hd (blt_lt hn) (blt_lt h5) ⟨by omega, by omega⟩ (fun k av hk => ?_) ho ht hi (Nat.eq_of_beq_eq_true hzs) (blt_lt hsz) (Nat.le_of_ble_eq_true hbt) hl hl2 hbd hval (hval ▸ h1) h3 g1 (fun g hg => ?_) (fun a' w' hs' => hK a' w' ?_)
  · by_cases e : n = k
    · subst e
      rw [look_same] at hk
      cases hk
      refine ⟨by show 0 ≠ _; omega, ?_⟩
      have : Nat.ble 500000 n = false := by
        cases hb : Nat.ble 500000 n with
        | false => rfl
        | true => have := Nat.le_of_ble_eq_true hb; omega
      have hfn : fnm n = 100000 := by unfold fnm; rw [this]
      rw [hfn]
      omega
    · rw [look_ne e] at hk; exact (hN (300000 + d, []) (by simp)).nr k av hk
  · rw [← hvs.1] at hg
    obtain ⟨f1, f2, f3⟩ := h.blk n _ g hlk hok (by simp) hg
    refine ⟨by rw [lcl_tok rfl] at f1; exact f1, fun o ho => f3 o fun _ => ?_, fun q av h6 h7 h8 h9 => ?_⟩
    · rw [hvs.2]; exact ho
    · have hq : n ≠ q := fun e => by subst e; rw [look_same] at h6; cases h6; exact h8 rfl
      rw [look_ne hq] at h6
      exact h.disj n q _ av g hlk h6 hok h7 (by simp) h8 hq hg
  · exact hs'
end
end Go.Proofs.Ytmdhefepaolhcaa
