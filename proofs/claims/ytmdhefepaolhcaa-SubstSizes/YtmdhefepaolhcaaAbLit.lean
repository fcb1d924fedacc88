/-
  A slice that is built may grow.
-/
import Derived.Test.YtmdhefepaolhcaaAbFn
namespace Go.Proofs.Ytmdhefepaolhcaa
open Go.RowKit
set_option linter.unusedVariables false
set_option linter.unusedSimpArgs false

section
variable {P : Program} {w0 : World} {U0 : UX} {nt : Nat} {ops : Array Oper} {o : Oper} {S : Nat → Option AV} {gs : List Nat} {d : Nat} {s : AS} {a : Act} {w : World} {D : Nat → Nat → Prop} {hv : Nat → Value}

theorem grown_alloc (w : World) (o : Obj) : w.grownBy (w.alloc o) none := ⟨rfl, rfl, rfl, by simp, fun k hk _ => Below.heap_alloc _ _ _ hk⟩

/-- What a new row does to what is known. -/
theorem SimG.lit (h : SimG w0 U0 nt s a w D hv) (hd : d < nt) (h5 : d < 100000) {n e z len : Nat} (hn : RW n) (hr : NoRef s n) (hz : 0 < z) (hlen : len ≤ maxLen) {r : Array Value} (hrs : r.size = len * z) {cs : List CV} (hcl : cs.length = len) (hsq : Sq (cs.map fun c => Rep (Us w0 U0 D) w c) r.toList) :
    Sim w0 U0 nt ((d, .own (.lst cs) n) :: (n, .tok e z) :: s) (a.put (some d) (.slice (some ⟨w.heap.size, 0, none⟩) len len)) (w.alloc (.cells r e)) := by
  have hb : Below w.heap.size w (w.alloc (.cells r e)) := (Below.refl _ _).alloc (Nat.le_refl _) _
  have ho : (w.alloc (.cells r e)).ownsRow 0 e z (.slice (some ⟨w.heap.size, 0, none⟩) len len) (0 + len) ([] ++ r.toList) := by
    refine ⟨by simp [hrs], .inr ⟨w.heap.size, len, r, by simp, Nat.zero_le _, alloc_new _ _, by simp, hlen, hrs, ?_⟩⟩
    rw [Nat.zero_add, List.nil_append, List.take_of_length_le (by simp [hrs])]
  obtain ⟨s1, s2⟩ := h.app (v := .slice none 0 0) hn hr (World.ownsRow_nil _ _ e z) hz (fun g hg => by cases hg) ho (grown_alloc w _) (.inr ⟨grown_alloc w _, fun g hg => by cases hg; exact Nat.le_refl _⟩)
  refine ⟨_, _, s1.put hd h5 ⟨?_, fun _ => ?_⟩⟩
  · refine vrep_lst.2 ⟨_, len, len, rfl, hcl.symm, Nat.le_refl _, hlen, (fun h => by cases h), r.toList, ?_, hsq.keep s2⟩
    have := At.new (U := Us w0 U0 (Da D (.slice (some ⟨w.heap.size, 0, none⟩) len len) ((0 + len) * z))) w r.toList e (fun i hi => .inr ⟨h.below.size, .inr ⟨rfl, by rw [Nat.zero_add, ← hrs]; simpa using hi⟩⟩)
    rw [Array.toArray_toList] at this
    exact this
  · refine ⟨0, .lst cs, rfl, ?_⟩
    unfold tokv
    rw [if_neg (by show n ≠ 1; unfold RW at hn; omega)]
    simp [Value.cells]

/-- A slice is built of its elements; it may grow. -/
theorem a_bsliceT (hg : Gd w0 U0 nt ops o gs S) (hd : o.dst = some d) (hn : Nat.blt d nt = true) (h5 : Nat.blt d 100000 = true) {t e : TypeId} {len : Nat} {parts : Array (Nat × Operand)} {ie : TypeInfo} {z : Value} {cs : List CV} {sz : Nat} (ho : o.op = .buildSlice t len parts) (hu : P.underlying t = some (.slice e)) (hi : P.info? e = some ie) (hsz0 : ie.size = sz) (hz : ie.zero = some z) (hdn : dense parts.toList 0 = true) (hx : evsO S (parts.toList.map (·.2)) = some cs) (hl : Nat.beq cs.length len = true) (hsz : szAll cs sz = true) (hp : Nat.blt 0 (len * sz) = true) (h24 : Nat.ble (len * sz) 16777216 = true) :
    AOp P w0 U0 nt ops o (gs ++ rdl (parts.toList.map (·.2))) [(300000 + d, [])] S [(d, .own (.lst cs) (300000 + d)), (300000 + d, .tok e sz)] := by
  subst hsz0
  intro s hs hN a w ⟨D, hv, h⟩ Q K hK
  rw [if_pos (hg s (fun k hk => hs k (List.mem_append_left _ hk)) a w D hv h)]
  have hv := evsO_rep h (fun k hk => hs k (List.mem_append_right _ hk)) hx
  rw [List.map_map] at hv
  have hlen : cs.length = len := Nat.eq_of_beq_eq_true hl
  have hvl := hv.len
  have hpos := blt_lt hp
  have hs0 : 0 < ie.size := Nat.pos_of_ne_zero fun e => by rw [e] at hpos; simp at hpos
  have hsizes := vreps_size hv (szAll_spec hsz)
  obtain ⟨vs, hvs⟩ : ∃ vs, vs = parts.toList.map (a.eval ∘ (·.2)) := ⟨_, rfl⟩
  rw [← hvs] at hv hvl hsizes
  obtain ⟨r, hf, hrs, hrk⟩ := Great.fill_dense hs0 vs 0 ((Array.range (len * ie.size)).map (z.cells[· % z.cells.size]!)) hsizes (by simp; rw [hvl, hlen]; exact Nat.le_refl _)
  have hr : r.toList = (vs.map fun v => v.cells.toList).flatten := by
    apply List.ext_getElem?
    intro k
    rw [flat_const hs0 _ (by intro v hv'; rw [List.mem_map] at hv'; obtain ⟨u, hu, rfl⟩ := hv'; simpa using hsizes u hu)]
    have := hrk k
    rw [← Array.getElem?_toList] at this
    simp only [Nat.zero_mul, Nat.zero_le, true_and, Nat.zero_add] at this
    rw [this]
    by_cases hk : k < vs.length * ie.size
    · rw [if_pos hk]
      simp only [Nat.sub_zero, List.getElem?_map]
      cases vs[k / ie.size]? <;> simp
    · rw [if_neg hk, Array.getElem?_eq_none (by simp; rw [← hlen, ← hvl]; omega)]
      rw [List.getElem?_map, List.getElem?_eq_none (by rw [Nat.le_div_iff_mul_le hs0]; omega)]
      rfl
  have he : (execOp a.eval o).run P w = .ok (.value (.slice (some ⟨w.heap.size, 0, none⟩) len len)) (w.alloc (.cells r e)) := by
    have h24' := Nat.le_of_ble_eq_true h24
    have hparts : (parts.map fun x => (x.1, a.eval x.2)).toList = (vs.zipIdx 0).map fun x => (x.2, x.1) := by
      rw [Array.toList_map, dense_spec hdn a.eval, hvs]
      rfl
    have := run_buildSlice (P := P) w t e len (parts.map fun x => (x.1, a.eval x.2)) r ie z hu hi hz (by omega) (by omega) (by rw [hparts]; exact hf)
    generalize a.eval = ρ at this ⊢
    simp [execOp, ho, this]
  unfold Oper.wp
  rw [he, Oper.upon_value, hd]
  have hrs' : r.size = len * ie.size := by rw [hrs]; simp
  refine hK _ _ (h.lit (blt_lt hn) (blt_lt h5) ⟨by omega, by have := blt_lt h5; omega⟩ (hN (300000 + d, []) (by simp)).nr hs0 ?_ hrs' hlen ?_)
  · have := Nat.le_of_ble_eq_true h24
    have : len ≤ len * ie.size := Nat.le_mul_of_pos_right _ hs0
    unfold maxLen; omega
  · rw [hr]; exact sq_of_vreps hv
/-- An empty one. -/
theorem a_bslice0 (hg : Gd w0 U0 nt ops o gs S) (hd : o.dst = some d) (hn : Nat.blt d nt = true) (h5 : Nat.blt d 100000 = true) {t e : TypeId} {ie : TypeInfo} {sz : Nat} (ho : o.op = .buildSlice t 0 #[]) (hu : P.underlying t = some (.slice e)) (hi : P.info? e = some ie) (hsz0 : ie.size = sz) (hp : Nat.blt 0 sz = true) :
    AOp P w0 U0 nt ops o gs [(300000 + d, [])] S [(d, .own (.lst []) (300000 + d)), (300000 + d, .tok e sz)] := by
  subst hsz0
  intro s hs hN a w ⟨D, hv, h⟩ Q K hK
  rw [if_pos (hg s hs a w D hv h)]
  have he : (execOp a.eval o).run P w = .ok (.value (.slice (some ⟨w.heap.size, 0, none⟩) 0 0)) (w.alloc (.cells #[] e)) := by
    simp [execOp, ho, Instr.buildSlice, run_underlying hu, sizeOf, typeInfo, hi, Instr.fill, newRow]
    congr 2
    apply Array.ext'
    simp
  unfold Oper.wp
  rw [he, Oper.upon_value, hd]
  exact hK _ _ (h.lit (blt_lt hn) (blt_lt h5) ⟨by omega, by have := blt_lt h5; omega⟩ (hN (300000 + d, []) (by simp)).nr (blt_lt hp) (by unfold maxLen; omega) (by simp) rfl rfl)
end
end Go.Proofs.Ytmdhefepaolhcaa
