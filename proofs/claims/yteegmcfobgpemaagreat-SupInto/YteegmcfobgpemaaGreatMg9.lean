/-
  AbHdl TmPlA TmPlB TmPlC TmPlD KbMath KbMath2 KbMath3 OrMath KbSc KbFns KbFns2 KbFns3 KbFns4
-/
import Derived.Test.YteegmcfobgpemaaGreatMg8
import Derived.Test.YteegmcfobgpemaaGreatMg2
import Derived.Test.YteegmcfobgpemaaGreatMg3
import Derived.Test.YteegmcfobgpemaaGreatMg4
import Derived.Test.YteegmcfobgpemaaGreatMg7
namespace Go.Proofs.YteegmcfobgpemaaGreat
open Go.RowKit
set_option linter.unusedVariables false
set_option linter.unusedSimpArgs false
def cutV : Value → Nat → Value
  | .slice ao _ cap, len => .slice ao len cap
  | v, _ => v
def AFunH (P : Program) (f : FuncId) (pre : AS) (n1 n2 : Nat) (args : Value → Value → List AV) (r : Value → Value → AV) (post : AS) : Prop :=
  EntF P f ∧ ∀ (U : UX) (w : World) (hv : Nat → Value) (a0 : Act) (vs : List Value), (∀ k v, U.f k = some v → hasN (kO pre) k = true) → SimG w U 0 pre a0 w (fun _ _ => False) hv → AVReps (Us w U (fun _ _ => False)) w hv (LiveN pre) (args (hv n1) (hv n2)) vs →
    Calls P f vs.toArray w fun e w' => ∃ v D' hv' a', e = .returned v ∧ SimG w U 0 post a' w' D' hv' ∧ AVRep (Us w U D') w' hv' (LiveN post) (r (hv n1) (hv n2)) v

section
variable {P : Program} {w0 : World} {U0 : UX} {nt : Nat} {ops : Array Oper} {o : Oper} {S : Nat → Option AV} {gs : List Nat} {d : Nat} {s : AS} {a : Act} {w : World} {D : Nat → Nat → Prop} {hv : Nat → Value}

theorem afunH_of (d1 n1 d2 n2 : Nat) {f : FuncId} {fn : Func} {c : Code} {pre post : AS} {args : Value → Value → List AV} {r : Value → Value → AV} (hf : P.funcs[f]? = some fn) (hn : fn.ntmps = nt) (hname : (fn.name == "runtime.NumGoroutine") = false) (hb : fn.body = some c) (hl : ∀ v1 v2, Nat.ble (args v1 v2).length nt = true) (hdd : (Nat.blt d1 nt && Nat.blt d2 nt) = true) (hnn : (Nat.ble 200000 n1 && Nat.blt n1 450000 && (Nat.ble 200000 n2 && Nat.blt n2 450000)) = true) (hnt : Nat.blt nt 100000 = true) (hpre : (kO pre).all (Nat.ble 100000) = true) (hpost : (kO post).all (Nat.ble 100000) = true)
    (h : ∀ (v1 v2 : Value) (w : World) (U : UX), (∀ k v, U.f k = some v → hasN (kO pre) k = true) → AWp P w U nt c (fun e s' => (e = .normal ∨ e = .ret) ∧ EndO P w U nt fn s' (r v1 v2) post) ((d1, .hdl v1 n1) :: (d2, .hdl v2 n2) :: (argA (args v1 v2) 0 ++ pre))) : AFunH P f pre n1 n2 args r post := by
  refine ⟨ent_of hf hname (by rw [hb]; rfl), fun U w hv a0 vs hU hpS hargs => ?_⟩
  have hlen := hargs.len
  refine calls_of_wp hf hb ?_
  have hle := Nat.le_of_ble_eq_true (hl (hv n1) (hv n2))
  have hnt := bL hnt
  have hlow : ∀ {k av}, look pre k = some av → 100000 ≤ k := fun {k av} h1 => by
    rw [List.all_eq_true] at hpre
    exact Nat.le_of_ble_eq_true (hpre k (mem_keys h1))
  have hlk : ∀ {k}, 100000 ≤ k → look (argA (args (hv n1) (hv n2)) 0 ++ pre) k = look pre k := fun {k} h1 => by
    rw [look_append]
    cases h2 : look (argA (args (hv n1) (hv n2)) 0) k with
    | none => rfl
    | some av =>
      obtain ⟨_, h3⟩ := look_argA h2
      rw [Nat.sub_zero, List.getElem?_eq_none (by omega)] at h3
      cases h3
  have hlive : LiveN (argA (args (hv n1) (hv n2)) 0 ++ pre) = LiveN pre := by
    funext n
    unfold LiveN Live
    apply propext
    constructor
    · rintro (h1 | ⟨e, h1, h2, h3⟩)
      · exact .inl h1
      · rw [hlk (by omega)] at h1; exact .inr ⟨e, h1, h2, h3⟩
    · rintro (h1 | ⟨e, h1, h2, h3⟩)
      · exact .inl h1
      · exact .inr ⟨e, by rw [hlk (by omega)]; exact h1, h2, h3⟩
  have hs0 : SimG w U nt (argA (args (hv n1) (hv n2)) 0 ++ pre) { tmps := vs.toArray ++ Array.replicate (fn.ntmps - vs.toArray.size) undef, defers := [] } w (fun _ _ => False) hv := by
    refine ⟨hpS.below, rfl, by simp [hn]; omega, fun d av h1 h2 => ?_, fun n o av h1 h2 h3 h4 => ?_, fun n o o' av av' h1 h2 => ?_, fun k av h1 h2 => ?_, fun k av g h1 h2 => ?_, fun k k' av av' g h1 h2 h3 h4 => ?_, hpS.fix, fun b o hd => hd.elim⟩
    · rw [look_append] at h1
      cases h3 : look (argA (args (hv n1) (hv n2)) 0) d with
      | none =>
        rw [h3] at h1
        have := hlow h1
        omega
      | some av' =>
        rw [h3] at h1
        cases h1
        obtain ⟨_, h4⟩ := look_argA h3
        rw [Nat.sub_zero] at h4
        obtain ⟨v, h6, h7⟩ := hargs.at h4
        have hdl : d < vs.length := by
          rcases Nat.lt_or_ge d vs.length with h | h
          · exact h
          · rw [List.getElem?_eq_none h] at h6; cases h6
        rw [hlive]
        refine ⟨v, ?_, h7⟩
        rw [Array.getElem?_append_left (by simpa using hdl)]
        simpa using h6
    · rw [hlk (by unfold fKey; omega)] at h1
      rw [hlk (by omega)] at h3
      rw [hlive]
      exact hpS.fld n o av h1 h2 h3 h4
    · rw [hlk (by unfold fKey; omega)] at h1 h2
      exact hpS.fdis n o o' av av' h1 h2
    · rw [hlk h2.1] at h1; rw [hlive]; exact hpS.obj k av h1 h2
    · rw [hlk h2.1] at h1; exact hpS.blk k av g h1 h2
    · rw [hlk h3.1] at h1; rw [hlk h4.1] at h2; exact hpS.disj k k' av av' g h1 h2 h3 h4
  simp only [Bool.and_eq_true] at hdd hnn
  have hk1 : d1 < nt := bL hdd.1
  have hk2 : d2 < nt := bL hdd.2
  have hr1 : RN n1 := ⟨Nat.le_of_ble_eq_true hnn.1.1, bL hnn.1.2⟩
  have hr2 : RN n2 := ⟨Nat.le_of_ble_eq_true hnn.2.1, bL hnn.2.2⟩
  have hs1 := hs0.know (d := d2) (av := .hdl (hv n2) n2) (by omega) (Array.getElem?_eq_getElem (by rw [hs0.size]; exact hk2)) ⟨hr2, rfl⟩
  have hs2 := hs1.know (d := d1) (av := .hdl (hv n1) n1) (by omega) (Array.getElem?_eq_getElem (by rw [hs0.size]; exact hk1)) ⟨hr1, rfl⟩
  have hs : Sim w U nt ((d1, .hdl (hv n1) n1) :: (d2, .hdl (hv n2) n2) :: (argA (args (hv n1) (hv n2)) 0 ++ pre)) { tmps := vs.toArray ++ Array.replicate (fn.ntmps - vs.toArray.size) undef, defers := [] } w := ⟨_, _, hs2⟩
  refine wp_mono ((h (hv n1) (hv n2) w U hU ⟨none, []⟩ _ w hs).wp rfl (fun e a w ⟨s, _, h⟩ => h.df)) ?_
  rintro e a' w' ⟨s', ⟨h1, s2, g1, g2, g3⟩, h3⟩
  obtain ⟨D', hv', h4⟩ := g1 a' w' h3
  obtain ⟨v, h5, h6⟩ := resA_run h4 g2
  have hS := h4.sub g3.sub
  have hlow2 : ∀ {k av}, look post k = some av → 100000 ≤ k := fun {k av} h1 => by
    rw [List.all_eq_true] at hpost
    exact Nat.le_of_ble_eq_true (hpost k (mem_keys h1))
  have hS0 : SimG w U 0 post ⟨#[], []⟩ w' D' hv' := ⟨hS.below, rfl, rfl, fun d av h7 h8 => by have := hlow2 h7; omega, hS.fld, hS.fdis, hS.obj, hS.blk, hS.disj, hS.fix, hS.dlt⟩
  rcases h1 with rfl | rfl
  · exact ⟨h4.dfr, v, h5, v, D', hv', _, rfl, hS0, h6.move (fun _ _ _ h1 h2 => ⟨h1, h2⟩) (fun _ h7 => h7.imp id fun ⟨e, he⟩ => ⟨e, g3.sub _ _ he.1, he.2⟩) fun _ => rfl⟩
  · exact ⟨h4.dfr, v, h5, v, D', hv', _, rfl, hS0, h6.move (fun _ _ _ h1 h2 => ⟨h1, h2⟩) (fun _ h7 => h7.imp id fun ⟨e, he⟩ => ⟨e, g3.sub _ _ he.1, he.2⟩) fun _ => rfl⟩

theorem a_callH (dh1 dh2 : Nat) {f : FuncId} {xs : Array Operand} {ts : Array TypeId} {ar : Value → Value → List AV} {rr : Value → Value → AV} {pre post : AS} {n1 n2 : Nat} {u1 u2 : Value} (hg : Gd w0 U0 nt ops o gs S) (hd : o.dst = some d) (hn : Nat.blt d nt = true) (h5 : Nat.blt d 100000 = true)
    (ho : o.op = .call { callee := .value (.func f), args := xs, argTypes := ts }) (hc : AFunH P f pre n1 n2 ar rr post) (hh1 : S dh1 = some (.hdl u1 n1)) (hh2 : S dh2 = some (.hdl u2 n2)) (hdh : (Nat.blt dh1 100000 && Nat.blt dh2 100000) = true) (hx : evsA S xs.toList = some (ar u1 u2)) (hp : SubS S pre) (hl : pre.all lendB = true) (hq : post.all (leaveB (kO post)) = true) (hks : (kO pre).all (hasN (kO post)) = true) (hr : refB (kO post) (rr u1 u2) = true) (hnb : ∀ k v, U0.f k = some v → hasN (kO post) k = true → hasN (kO pre) k = true) :
    AOp P w0 U0 nt ops o (gs ++ (rdl xs.toList ++ (kO pre ++ [dh1, dh2]))) (newN (kO pre) (kO post) (kO post)) S ((d, rr u1 u2) :: post) := by
  intro s hs hN a w ⟨D, hv, h⟩ Q K hK
  rw [if_pos (hg s (fun k hk => hs k (List.mem_append_left _ hk)) a w D hv h)]
  have hargs := evsA_rep h (fun k hk => hs k (List.mem_append_right _ (List.mem_append_left _ hk))) hx
  have hsub : Sub s pre := fun k av h1 => (hs k (List.mem_append_right _ (List.mem_append_right _ (List.mem_append_left _ (mem_keys h1))))).trans (hp.look h1)
  obtain ⟨V, v1, v2, v3, v4, v5, v6⟩ := h.lend hsub hl
  obtain ⟨h1, h2⟩ := hc
  rw [Bool.and_eq_true] at hdh
  obtain ⟨_, _, hx1⟩ : ∃ v, a.tmps[dh1]? = some v ∧ RN n1 ∧ hv n1 = u1 := h.slot dh1 _ ((hs dh1 (by simp)).trans hh1) (bL hdh.1)
  obtain ⟨_, _, hx2⟩ : ∃ v, a.tmps[dh2]? = some v ∧ RN n2 ∧ hv n2 = u2 := h.slot dh2 _ ((hs dh2 (by simp)).trans hh2) (bL hdh.2)
  have h2 := fun V a0 vs q1 q2 q3 => h2 V w hv a0 vs q1 q2 q3
  rw [hx1.2, hx2.2] at h2
  have hcall := h2 V ⟨#[], []⟩ _ v1 v2 (hargs.imp fun c _ v hcv => hcv.move v6 (fun _ h3 => h3.imp id fun ⟨e, he⟩ => ⟨e, hsub _ _ he.1, he.2⟩) fun _ => rfl)
  have he : (execOp a.eval o).run P w = .ok (.enter f (xs.toList.map a.eval).toArray) w := by
    have hf : a.eval (.func f) = .func (.func f) #[] #[] := rfl
    have hen := h1 (xs.map a.eval) w
    have harr : (xs.toList.map a.eval).toArray = xs.map a.eval := by apply Array.ext'; simp
    rw [harr]
    generalize a.eval = ρ at hf hen ⊢
    simp [execOp, ho, resolve, invoke, Deferred.ofValue, hf, hen]
  unfold Oper.wp
  rw [he, Oper.upon_enter]
  refine hcall.mono ?_
  rintro e w' ⟨v, D', hv', a', rfl, h6, h7⟩
  rw [hd]
  obtain ⟨D2, hv2, h8, h9⟩ := h.back hsub hl hq hks hN hnb v3 v4 v5 v2 h6
  exact hK _ _ ⟨D2, hv2, h8.put (bL hn) (bL h5) (h9.1 (rr u1 u2) v hr h7)⟩

theorem a_bsliceM (nn : Nat) (hg : Gd w0 U0 nt ops o gs S) (hd : o.dst = some d) (hn : Nat.blt d nt = true) (h5 : Nat.blt d 100000 = true) {t e : TypeId} {len : Nat} {parts : Array (Nat × Operand)} {ie : TypeInfo} {z : Value} {cs : List CV} {sz : Nat} (ho : o.op = .buildSlice t len parts) (hu : P.underlying t = some (.slice e)) (hi : P.info? e = some ie) (hsz0 : ie.size = sz) (hz : ie.zero = some z) (hdn : dense parts.toList 0 = true) (hx : evsO S (parts.toList.map (·.2)) = some cs) (hl : Nat.beq cs.length len = true) (hsz : szAll cs sz = true) (hp : Nat.blt 0 (len * sz) = true) (h24 : Nat.ble (len * sz) 16777216 = true) (hn2 : (Nat.ble 200000 nn && Nat.blt nn 400000) = true) :
    AOp P w0 U0 nt ops o (gs ++ rdl (parts.toList.map (·.2))) [(nn, [])] S [(d, .sl nn 0 len sz), (nn, .mrow e sz cs)] := by
  subst hsz0
  intro s hs hN a w ⟨D, hv, h⟩ Q K hK
  rw [if_pos (hg s (fun k hk => hs k (List.mem_append_left _ hk)) a w D hv h)]
  have hvv := evsO_rep h (fun k hk => hs k (List.mem_append_right _ hk)) hx
  rw [List.map_map] at hvv
  have hlen : cs.length = len := Nat.eq_of_beq_eq_true hl
  have hvl := hvv.len
  have hpos := bL hp
  have hs0 : 0 < ie.size := Nat.pos_of_ne_zero fun e => by rw [e] at hpos; simp at hpos
  have hsizes := vreps_size hvv (sZ hsz)
  obtain ⟨vs, hvs⟩ : ∃ vs, vs = parts.toList.map (a.eval ∘ (·.2)) := ⟨_, rfl⟩
  rw [← hvs] at hvv hvl hsizes
  obtain ⟨r, hf, hrs, hrk⟩ := Great.fill_dense hs0 vs 0 ((Array.range (len * ie.size)).map (z.cells[· % z.cells.size]!)) hsizes (by simp; rw [hvl, hlen]; exact Nat.le_refl _)
  have hr : r.toList = (vs.map fun v => v.cells.toList).flatten := by
    apply List.ext_getElem?
    intro k
    rw [flat_const hs0 _ (by intro v hv'; rw [List.mem_map] at hv'; obtain ⟨u, hu, rfl⟩ := hv'; simpa using hsizes u hu)]
    have := hrk k
    rw [← Array.getElem?_toList] at this
    simp only [Nat.zero_mul, Nat.zero_le, true_and, Nat.zero_add] at this
    rw [this]
    by_cases hk : k < vs.length * ie.size
    · rw [if_pos hk]
      simp only [Nat.sub_zero, List.getElem?_map]
      cases vs[k / ie.size]? <;> simp
    · rw [if_neg hk, Array.getElem?_eq_none (by simp; rw [← hlen, ← hvl]; omega)]
      rw [List.getElem?_map, List.getElem?_eq_none (by rw [Nat.le_div_iff_mul_le hs0]; omega)]
      rfl
  have he : (execOp a.eval o).run P w = .ok (.value (.slice (some ⟨w.heap.size, 0, none⟩) len len)) (w.alloc (.cells r e)) := by
    have h24' := Nat.le_of_ble_eq_true h24
    have hparts : (parts.map fun x => (x.1, a.eval x.2)).toList = (vs.zipIdx 0).map fun x => (x.2, x.1) := by
      rw [Array.toList_map, dense_spec hdn a.eval, hvs]
      rfl
    have := run_buildSlice (P := P) w t e len (parts.map fun x => (x.1, a.eval x.2)) r ie z hu hi hz (by omega) (by omega) (by rw [hparts]; exact hf)
    generalize a.eval = ρ at this ⊢
    simp [execOp, ho, this]
  unfold Oper.wp
  rw [he, Oper.upon_value, hd]
  have hrs' : r.size = len * ie.size := by rw [hrs]; simp
  have hlm : len ≤ maxLen := by
    have := Nat.le_of_ble_eq_true h24
    have : len ≤ len * ie.size := Nat.le_mul_of_pos_right _ hs0
    unfold maxLen; omega
  have hrn2 := rnB hn2
  have hown := World.ownsRow_lit (e := e) (size := ie.size) (base := w.heap.size) w r len (Nat.le_refl _) hlm hrs'
  have hkp : ∀ b o u, Us w0 U0 D b o → w.cell? ⟨b, o, none⟩ = some u → Us w0 U0 D b o ∧ (w.alloc (.cells r e)).cell? ⟨b, o, none⟩ = some u := fun b o u hu hc => by
    refine ⟨hu, ?_⟩
    have hlt : b < w.heap.size := World.block_lt_of_cell? w _ hc
    rw [World.cell?_of_block (w := w) ((bA (Below.refl w.heap.size w) (.cells r e)).block b hlt)]
    exact hc
  have hG := h.newrow (avn := .mrow e ie.size cs) (v' := .slice (some ⟨w.heap.size, 0, none⟩) len len) (D' := D) (X := fun _ => False) (n := nn) hrn2 (hN (nn, []) (by simp)).nr (by simp) ⟨(bA (Below.refl w.heap.size w) (.cells r e)).os, (bA (Below.refl w.heap.size w) (.cells r e)).tape, (bA (Below.refl w.heap.size w) (.cells r e)).output, (bA (Below.refl w.heap.size w) (.cells r e)).size, fun b hb hx => (bA (Below.refl w.heap.size w) (.cells r e)).block b hb⟩ (fun b hb => hb.elim) (fun g hg => by
      have hg : (Value.slice (some ⟨w.heap.size, 0, none⟩) len len).ownBlock = some g := hg
      refine ⟨.inr (hown.lt g hg).1, (hown.lt g hg).2, fun o _ hd => ?_⟩
      have := (hown.lt g hg).1
      have := h.dlt _ _ hd
      omega) (fun b o hd => .inl hd) (fun b o hd => Nat.lt_of_lt_of_le (h.dlt _ _ hd) (bA (Below.refl w.heap.size w) (.cells r e)).size) hkp (fun hv lv => by
      refine ⟨r.toList, ?_, hs0, sZ hsz, ?_⟩
      · show (w.alloc (.cells r e)).ownsRow 0 e ie.size _ cs.length _
        rw [hlen]
        exact ownsRow_mono hown (Nat.zero_le _)
      · rw [hr]; exact Sq.keep hkp (sq_of_vreps hvv))
  refine hK _ _ ⟨_, _, hG.put (bL hn) (bL h5) ⟨RW.rn hrn2, ?_⟩⟩
  show SlV ((fun x => if x = nn then Value.slice (some ⟨w.heap.size, 0, none⟩) len len else hv x) nn) 0 len ie.size _
  simp only [if_true]
  exact slV_all rfl (Nat.le_refl _) (.inr ⟨_, rfl⟩)

theorem AWp.hdl {c : Code} {Q : Exit → AS → Prop} (d n : Nat) (hd : Nat.blt d nt = true) (h5 : Nat.blt d 100000 = true) (hn : (Nat.ble 200000 n && Nat.blt n 450000) = true) (h : ∀ v, AWp P w0 U0 nt c Q ((d, .hdl v n) :: s)) : AWp P w0 U0 nt c Q s := by
  intro M a w ⟨D, hv, hs⟩
  have hdn : d < a.tmps.size := by rw [hs.size]; exact bL hd
  exact h (hv n) M a w ⟨D, hv, hs.know (bL h5) (Array.getElem?_eq_getElem hdn) ⟨rnF hn, rfl⟩⟩
theorem wk_slsc (d n dh : Nat) {len z : Nat} {v : Value} (h1 : look s d = some (.sl n 0 len z)) (h2 : look s dh = some (.hdl v n)) (hd : (Nat.blt d 100000 && Nat.blt dh 100000) = true) : Wk w0 U0 nt s ((d, .val (.sc (cutV v len))) :: s) := by
  rintro a w ⟨D, hv, h⟩
  rw [Bool.and_eq_true] at hd
  obtain ⟨u, g1, hrn, ao, m, cap, ao', e1, e2, e3, e4, e5, e6⟩ : ∃ u, a.tmps[d]? = some u ∧ RN n ∧ SlV (hv n) 0 len z u := h.slot d _ h1 (bL hd.1)
  obtain ⟨_, _, _, hx⟩ : ∃ u, a.tmps[dh]? = some u ∧ RN n ∧ hv n = v := h.slot dh _ h2 (bL hd.2)
  have e2 : u = .slice ao len cap := by rw [e2, e4 rfl]; rfl
  refine ⟨D, hv, h.know (bL hd.1) g1 ?_⟩
  rw [← hx, e1]
  show AVRep _ _ _ _ (.val (.sc (.slice ao len cap))) u
  rw [e2]
  exact avrep_sc rfl
theorem wk_scsl (d n dh len : Nat) {e z : Nat} {l : List CV} {v : Value} (h1 : look s d = some (.val (.sc (cutV v len)))) (h2 : look s dh = some (.hdl v n)) (hm : look s n = some (.mrow e z l)) (hd : (Nat.blt d 100000 && Nat.blt dh 100000) = true) (hl : len ≤ l.length) : Wk w0 U0 nt s ((d, .sl n 0 len z) :: s) := by
  rintro a w ⟨D, hv, h⟩
  rw [Bool.and_eq_true] at hd
  obtain ⟨u, g1, g2⟩ := h.slot d _ h1 (bL hd.1)
  obtain ⟨_, _, hrn, hx⟩ : ∃ u, a.tmps[dh]? = some u ∧ RN n ∧ hv n = v := h.slot dh _ h2 (bL hd.2)
  obtain ⟨xs, f1, _⟩ := h.mrow hm hrn
  obtain ⟨ao, cap, e1, e2, _⟩ := own_slice f1
  have hu : u = cutV v len := (vrep_sc.1 g2.1).1
  refine ⟨D, hv, h.know (bL hd.1) g1 ⟨hrn, ?_⟩⟩
  show SlV (hv n) 0 len z u
  rw [hu, ← hx, e1]
  exact ⟨ao, l.length, cap, ao, rfl, rfl, by omega, fun _ => rfl, fun _ g hg' => by rw [hg', Nat.zero_mul], Iff.rfl⟩

def topX : UX := ⟨fun _ _ => True, fun _ => False, fun _ => none, fun _ _ h => by cases h⟩
theorem SimG.view (h : SimG w0 U0 nt s a w D hv) {n e z len : Nat} {l : List CV} (hm : look s n = some (.mrow e z l)) (hrn : RN n) (hl : len ≤ l.length) : VRep (fun _ _ => True) w (.lst (l.take len)) (cutV (hv n) len) := by
  obtain ⟨xs, ho, hz, hsz, hsq⟩ := h.mrow hm hrn
  obtain ⟨va, vc, ev, e2, e3, e4, e5⟩ := ownsRow_cs ho
  rw [ev]
  have hsplit : l = l.take len ++ l.drop len := (List.take_append_drop _ _).symm
  have q := hsq
  rw [hsplit, List.map_append] at q
  obtain ⟨y1, y2, ey, s1, s2⟩ := sq_split q
  refine vrep_lst.2 ⟨va, len, vc, rfl, by rw [List.length_take, Nat.min_eq_left hl], by omega, e3, (fun h => ⟨by have := (e4 h).1; omega, (e4 h).2⟩), y1, ?_, s1.keep fun b o v _ hc => ⟨trivial, hc⟩⟩
  rcases e5 with h0 | ⟨b, off, ha, hlt, hc⟩
  · left
    have := congrArg List.length ey
    rw [h0, List.length_append] at this
    exact List.eq_nil_of_length_eq_zero (by simp at this; omega)
  · refine .inr ⟨b, off, ha, fun i hi => ⟨trivial, ?_⟩⟩
    rw [hc i (by rw [ey, List.length_append]; omega), ey, List.getElem?_append_left hi]
theorem SimG.viewBox (h : SimG w0 U0 nt s a w D hv) (n : Nat) {v : Value} {k q p k1 k2 k3} {c : CV} (hb : look s (100000 + n) = some ⟨5, .sc v, k, q, p⟩) (hs : look s n = some ⟨2, ⟨k1, k2, k3⟩, n, 0, []⟩) (hn : n < 100000) (hc : c.k ≠ 2) (hv2 : VRep (fun _ _ => True) w c v) : ∃ u, a.tmps[n]? = some u ∧ VRep (fun _ _ => True) w (.ptr c) u := by
  obtain ⟨g, xs, ty, g0, g1, g2, g5⟩ := h.box hb (by omega)
  obtain ⟨v', g6, g7⟩ := h.slot n _ hs hn
  have g7 : v' = .pointer (some ⟨blkOf (hv (100000 + n)), 0, none⟩) := g7.2
  have hgb2 : blkOf (hv (100000 + n)) = g := by rw [g0]; rfl
  rw [hgb2] at g7
  obtain rfl : xs = [v] := (rep_sc.1 g2).1
  refine ⟨v', g6, ?_⟩
  rw [g7]
  refine vrep_ptr.2 ⟨g, 0, [v], rfl, ?_, fun i hi => ⟨trivial, ?_⟩⟩
  · unfold VRep at hv2; rw [if_neg hc] at hv2; exact hv2
  have := box_cells_at (ys := []) (us := []) g1 (by simp) i hi
  simpa using this
theorem awp_peek {c : Code} {Q : Exit → AS → Prop} {R : Exit → Prop} (vs : List (Nat × CV)) (dr : Nat) (x : Value) (objs : AS)
    (hview : ∀ a w D hv, SimG w0 U0 nt s a w D hv → ∀ q ∈ vs, ∃ v, a.tmps[q.1]? = some v ∧ VRep (fun _ _ => True) w q.2 v)
    (h : ∀ w, AWp P w topX nt c (fun e s' => R e ∧ look s' dr = some (.val (.sc x))) (vs.map fun q => (q.1, .val q.2)))
    (hsub : SubL s objs) (hk : (kO objs).all (Nat.ble 100000) = true) (hvk : (vs.all fun q => Nat.blt q.1 100000) = true) (hdr : Nat.blt dr 100000 = true) (hQ : ∀ e, R e → Q e ((dr, .val (.sc x)) :: objs)) : AWp P w0 U0 nt c Q s := by
  intro M a w ⟨D, hv, hs⟩
  have hlow : ∀ {k av}, look (vs.map fun q => (q.1, AV.val q.2)) k = some av → ∃ q ∈ vs, k = q.1 ∧ av = .val q.2 := fun {k av} h1 => by
    obtain ⟨q, hq, he⟩ := List.mem_map.1 (look_mem h1)
    injection he with e1 e2
    exact ⟨q, hq, e1.symm, e2.symm⟩
  rw [List.all_eq_true] at hvk hk
  have hlt : ∀ {k av}, look (vs.map fun q => (q.1, AV.val q.2)) k = some av → k < 100000 := fun {k av} h1 => by
    obtain ⟨q, hq, rfl, _⟩ := hlow h1
    exact bL (hvk q hq)
  have hS : Sim w topX nt (vs.map fun q => (q.1, AV.val q.2)) a w := by
    refine ⟨fun _ _ => False, hv, BelowX.refl _ _, hs.dfr, hs.size, fun d av h1 h2 => ?_, fun n o av h1 h2 h3 h4 => ?_, fun n o o' av av' h1 h2 => ?_, fun k av h1 h2 => ?_, fun k av g h1 h2 => ?_, fun k k' av av' g h1 h2 h3 h4 => ?_, fun k v h1 => (by cases h1), fun b o hd => hd.elim⟩
    · obtain ⟨q, hq, rfl, rfl⟩ := hlow h1
      obtain ⟨v, g1, g2⟩ := hview a w D hv hs q hq
      exact ⟨v, g1, avrep_val (g2.keep fun b o v _ hc => ⟨.inl ⟨World.block_lt_of_cell? w _ hc, trivial, fun h => h⟩, hc⟩)⟩
    · have := hlt h1; unfold fKey at this; omega
    · have := hlt h1; unfold fKey at this; omega
    · have := hlt h1; have := h2.1; omega
    · have := hlt h1; have := h2.1; omega
    · have := hlt h1; have := h3.1; omega
  refine WP_mono (h w M a w hS) ?_
  rintro e a' w' ⟨s', ⟨hR, hx⟩, D', hv', g⟩
  refine ⟨_, hQ e hR, D, hv, ?_⟩
  have hB : Below w.heap.size w w' := g.below.below fun k hk => hk
  have h1 := (hs.sub hsub.sub).grow' hB
  have hlow2 : ∀ {k av}, look objs k = some av → 100000 ≤ k := fun {k av} h1 => Nat.le_of_ble_eq_true (hk k (mem_keys h1))
  have h2 : SimG w0 U0 nt objs a' w' D hv := ⟨h1.below, g.dfr, g.size, fun d av h7 h8 => by have := hlow2 h7; omega, h1.fld, h1.fdis, h1.obj, h1.blk, h1.disj, h1.fix, h1.dlt⟩
  obtain ⟨v, k1, k2⟩ := g.slot dr _ hx (bL hdr)
  obtain ⟨rfl, k3⟩ := vrep_sc.1 k2.1
  exact h2.know (bL hdr) k1 (avrep_sc k3)
theorem afun_lend1 {W : World} {f : FuncId} {x : Value} {c2 : CV} {e z nm N : Nat} {l : List CV} (h1 : 300000 ≤ nm) (h2 : nm < 450000) (hN : N ≤ l.length) (h : AFun P W f [.lst (l.take N), c2] (.val (.sc x))) : AFunO P f [(nm, .mrow e z l)] [.sl nm 0 N z, .val c2] (.val (.sc x)) [(nm, .mrow e z l)] := by
  refine ⟨h.1, fun U w hv a0 vs hU hp ha => ?_⟩
  obtain ⟨u1, us1, rfl, a1, u2, us2, rfl, a2, a4⟩ := ha
  have a4 : us2 = [] := a4
  subst a4
  have hrn : RN nm := ⟨by omega, by omega⟩
  have hlk : look [(nm, AV.mrow e z l)] nm = some (.mrow e z l) := by rw [look_cons]; simp
  have hvw := hp.view hlk hrn hN
  have a1 : RN nm ∧ SlV (hv nm) 0 N z u1 := a1
  obtain ⟨_, ao, m, cap, ao', s1, s2, s3, s4, _⟩ := a1
  have e9 : u1 = cutV (hv nm) N := by rw [s1, s2, s4 rfl]; rfl
  refine (h.2.2.2 (fun _ _ => True) w _ trivial ⟨_, _, rfl, by rw [e9]; exact hvw, _, _, rfl, a2.1.mono fun b o _ => trivial, rfl⟩).mono ?_
  rintro e' w' ⟨v, rfl, hr, hB⟩
  obtain ⟨rfl, h9⟩ := vrep_sc.1 hr
  exact ⟨_, _, hv, a0, rfl, hp.grow' hB, avrep_sc h9⟩
end
end Go.Proofs.YteegmcfobgpemaaGreat
namespace Go.Proofs.YteegmcfobgpemaaGreat
open Go.RowKit
set_option linter.unusedVariables false
set_option linter.unusedSimpArgs false
set_option maxRecDepth 100000
-- 
theorem tIsVar_abs (W : World) (t : Tm) : AFun Tryz.prog W 103 [t.cw] (.val (.b (decide (t.f < 0)))) := by
  refine afun_of (rs := [.b (decide (t.f < 0))]) Tryz.func103 Tryz.ntmps103 rfl rfl rfl rfl ?_
  intro w U hW
  refine aS (aR ?_)
  (refine nx (a_box (gN rfl) rfl rfl rfl rfl rfl) rfl ?_)
  (refine nx (aA (gN rfl) rfl rfl rfl rfl rfl) rfl ?_)
  show AWp _ _ _ _ _ _ _
  refine aS (aR ?_)
  (refine nx (aF (gN rfl) rfl rfl rfl rfl rfl rfl rfl rfl rfl) rfl ?_)
  (refine nx (aLb (gN rfl) rfl rfl rfl rfl rfl rfl rfl rfl rfl rfl rfl rfl) rfl ?_)
  (refine nx (a_lss (gN rfl) rfl rfl rfl rfl rfl rfl) rfl ?_)
  (refine nx (aA (gN rfl) rfl rfl rfl rfl rfl) rfl ?_)
  show AWp _ _ _ _ _ _ _
  exact aT ⟨.inr rfl, rfl⟩
-- 
theorem parts_abs (W : World) (t : Tm) : AFun Tryz.prog W 134 [t.cw] (.val (.lst (t.ps.map Tm.cv))) := by
  refine afun_of (rs := [.lst (t.ps.map Tm.cv)]) Tryz.func134 Tryz.ntmps134 rfl rfl rfl rfl ?_
  intro w U hW
  refine aS (aR ?_)
  (refine nx (a_box (gN rfl) rfl rfl rfl rfl rfl) rfl ?_)
  (refine nx (aA (gN rfl) rfl rfl rfl rfl rfl) rfl ?_)
  show AWp _ _ _ _ _ _ _
  refine aS (aS (aR ?_))
  (refine nx (aL (gN rfl) rfl rfl rfl rfl rfl rfl rfl rfl rfl rfl rfl rfl) rfl ?_)
  (refine nx (a_call (gN rfl) rfl rfl rfl rfl rfl (tIsVar_abs w t)) rfl ?_)
  show AWp _ _ _ _ _ _ _
  refine aC rfl (fun hc => ?_) (fun hc => aK ?_)
  · have hf : t.f < 0 := by simpa using hc
    rw [Tm.ps_of_var hf]
    refine aS (aR ?_)
    (refine nx (aA (gN rfl) rfl rfl rfl rfl rfl) rfl ?_)
    show AWp _ _ _ _ _ _ _
    exact aT (And.intro (.inr rfl) rfl)
  · have hf : ¬ t.f < 0 := by simpa using hc
    rw [Tm.ps_of_sym (by omega)]
    show AWp _ _ _ _ _ _ _
    refine aS (aR ?_)
    (refine nx (aF (gN rfl) rfl rfl rfl rfl rfl rfl rfl rfl rfl) rfl ?_)
    (refine nx (aLb (gN rfl) rfl rfl rfl rfl rfl rfl rfl rfl rfl rfl rfl rfl) rfl ?_)
    (refine nx (aA (gN rfl) rfl rfl rfl rfl rfl) rfl ?_)
    show AWp _ _ _ _ _ _ _
    exact aT (And.intro (.inr rfl) rfl)
def Tm.pa (t : Tm) (n : Int) : Option Tm := if 0 ≤ n then t.ps[n.toNat]? else none
theorem Tm.pa_some (t : Tm) (n : Int) : (t.pa n).isSome = (decide (n ≥ 0) && decide (n < (t.ps.map Tm.cv).length)) := by
  unfold Tm.pa
  rw [List.length_map]
  by_cases h : 0 ≤ n
  · rw [if_pos h, show decide (n ≥ 0) = true by simpa using h, Bool.true_and]
    by_cases h2 : n < t.ps.length
    · rw [List.getElem?_eq_getElem (by omega)]; simp [h2]
    · rw [List.getElem?_eq_none (by omega)]; simp [h2]
  · rw [if_neg h, show decide (n ≥ 0) = false by simpa using h]; rfl
-- 
theorem hasPart_abs (W : World) (t : Tm) (n : Int) : AFun Tryz.prog W 129 [t.cw, .i n] (.val (.b (t.pa n).isSome)) := by
  rw [Tm.pa_some]
  refine afun_of (rs := [.b (decide (n ≥ 0) && decide (n < (t.ps.map Tm.cv).length))]) Tryz.func129 Tryz.ntmps129 rfl rfl rfl rfl ?_
  intro w U hW
  refine aS (aR ?_)
  (refine nx (a_box (gN rfl) rfl rfl rfl rfl rfl) rfl ?_)
  (refine nx (aA (gN rfl) rfl rfl rfl rfl rfl) rfl ?_)
  show AWp _ _ _ _ _ _ _
  by_cases h : n ≥ 0
  · have hg : decide (n ≥ 0) = true := by simpa using h
    refine aS (aR ?_)
    (refine nx (aM (gN rfl) rfl rfl rfl rfl rfl) rfl ?_)
    (refine nx (a_geq (gN rfl) rfl rfl rfl rfl rfl rfl) rfl ?_)
    (refine nx (aM (gN rfl) rfl rfl rfl rfl rfl) rfl ?_)
    (refine nx (aM (gd_on rfl rfl rfl rfl (by first | rfl | assumption | (simp; done))) rfl rfl rfl rfl rfl) rfl ?_)
    (refine nx (aL (gd_on rfl rfl rfl rfl (by first | rfl | assumption | (simp; done))) rfl rfl rfl rfl rfl rfl rfl rfl rfl rfl rfl rfl) rfl ?_)
    (refine nx (a_call (gd_on rfl rfl rfl rfl (by first | rfl | assumption | (simp; done))) rfl rfl rfl rfl rfl (parts_abs w t)) rfl ?_)
    (refine nx (a_len (gd_on rfl rfl rfl rfl (by first | rfl | assumption | (simp; done))) rfl rfl rfl rfl rfl rfl rfl) rfl ?_)
    (refine nx (a_lss (gd_on rfl rfl rfl rfl (by first | rfl | assumption | (simp; done))) rfl rfl rfl rfl rfl rfl) rfl ?_)
    (refine ⟨_, _, _, aPt (gN rfl) rfl rfl rfl rfl rfl ?hb rfl, rfl, ?_⟩; case hb => (first | rfl | assumption | (simp; done)))
    (refine nx (aA (gN rfl) rfl rfl rfl rfl rfl) rfl ?_)
    show AWp _ _ _ _ _ _ _
    refine aT (And.intro (.inr rfl) ?_)
    rw [hg, Bool.true_and]
    rfl
  · have hg : decide (n ≥ 0) = false := by simpa using h
    refine aS (aR ?_)
    (refine nx (aM (gN rfl) rfl rfl rfl rfl rfl) rfl ?_)
    (refine nx (a_geq (gN rfl) rfl rfl rfl rfl rfl rfl) rfl ?_)
    (refine nx (aM (gN rfl) rfl rfl rfl rfl rfl) rfl ?_)
    (refine ⟨_, _, _, a_off (go_off rfl rfl rfl rfl (by first | rfl | assumption | (simp; done) | (simp [*]; done))) rfl rfl rfl, rfl, ?_⟩)
    (refine ⟨_, _, _, a_off (go_off rfl rfl rfl rfl (by first | rfl | assumption | (simp; done) | (simp [*]; done))) rfl rfl rfl, rfl, ?_⟩)
    (refine ⟨_, _, _, a_off (go_off rfl rfl rfl rfl (by first | rfl | assumption | (simp; done) | (simp [*]; done))) rfl rfl rfl, rfl, ?_⟩)
    (refine ⟨_, _, _, a_off (go_off rfl rfl rfl rfl (by first | rfl | assumption | (simp; done) | (simp [*]; done))) rfl rfl rfl, rfl, ?_⟩)
    (refine ⟨_, _, _, a_off (go_off rfl rfl rfl rfl (by first | rfl | assumption | (simp; done) | (simp [*]; done))) rfl rfl rfl, rfl, ?_⟩)
    (refine ⟨_, _, _, aPf (gN rfl) rfl rfl rfl rfl rfl ?hb rfl, rfl, ?_⟩; case hb => (first | rfl | assumption | (simp; done)))
    (refine nx (aA (gN rfl) rfl rfl rfl rfl rfl) rfl ?_)
    show AWp _ _ _ _ _ _ _
    refine aT (And.intro (.inr rfl) ?_)
    rw [hg, Bool.false_and]
    rfl
-- 
set_option maxHeartbeats 1000000 in
theorem cloneAll_abs (W : World) (l : List Tm) (hl : l.length ≤ 1000000) (hr : ∀ t ∈ l, t.rng ∧ t.size ≤ 90000000000) : AFun Tryz.prog W 131 [.lst (l.map Tm.cv)] (.val (.lst ((l.map Tm.strip).map Tm.cv))) := by
  have hsz := Tm.size_all l
  refine afun_of (rs := [.lst ((l.map Tm.strip).map Tm.cv)]) Tryz.func131 Tryz.ntmps131 rfl rfl rfl rfl ?_
  intro w U hW
  refine aS (aR ?_)
  (refine nx (aA (gN rfl) rfl rfl rfl rfl rfl) rfl ?_)
  show AWp _ _ _ _ _ _ _
  refine aS (aR ?_)
  (refine nx (aA (gN rfl) rfl rfl rfl rfl rfl) rfl ?_)
  show AWp _ _ _ _ _ _ _
  refine aS (aS (aR ?_))
  (refine nx (aM (gN rfl) rfl rfl rfl rfl rfl) rfl ?_)
  (refine nx (a_len (gN rfl) rfl rfl rfl rfl rfl rfl rfl) rfl ?_)
  (refine nx (aM (gN rfl) rfl rfl rfl rfl rfl) rfl ?_)
  show AWp _ _ _ _ _ _ _
  refine aB (awp_count l.length (fun k => [(3, .own (.lst (((l.take k).map Tm.strip).map Tm.cv)) 200016), (200016, .tok 41 2), (6, .val (.lst (l.map Tm.cv))), (7, .val (.i (l.map Tm.cv).length)), (8, .val (.i k))])
    ((wk_nil 3 200016 41 2 rfl rfl rfl rfl rfl rfl rfl).trans (wk_sub ⟨rfl, rfl, rfl, rfl, rfl, trivial⟩)) ?_)
  intro k hk
  have hsk := Tm.size_all ((l.take k).map Tm.strip)
  refine aS (aR ?_)
  (refine nx (a_lss (gN rfl) rfl rfl rfl rfl rfl rfl) rfl ?_)
  show AWp _ _ _ _ _ _ _
  refine aS (aC rfl (fun hc => aK ?_) (fun hc => aE ?_))
  · have hkl : k < l.length := by
      simp only [List.length_map, decide_eq_true_eq] at hc
      omega
    clear hc
    obtain ⟨t, ht⟩ : ∃ t, l[k]? = some t := ⟨l[k], List.getElem?_eq_getElem hkl⟩
    have ht' := Tm.map_at ht
    have htm := hr t (List.mem_of_getElem? ht)
    show AWp _ _ _ _ _ _ _
    refine aS (aB (aS (aR ?_)))
    (refine nx (a_index (gN rfl) rfl rfl rfl rfl rfl rfl rfl rfl rfl (by assumption) rfl (by first | assumption | exact sZ rfl | exact Tm.size_all _ | exact Bd.size_all _ | exact ints_size _ | exact bys_size _ | exact Lt.size_all _)) rfl ?_)
    (refine nx (a_load_ad (gN rfl) rfl rfl rfl rfl rfl rfl rfl rfl rfl) rfl ?_)
    (refine nx (a_alloc (gN rfl) rfl rfl rfl rfl rfl rfl rfl rfl rfl rfl) rfl ?_)
    (refine nx (aSt (gN rfl) rfl rfl rfl rfl rfl rfl rfl rfl rfl rfl) rfl ?_)
    show AWp _ _ _ _ _ _ _
    refine aR ?_
    (refine nx (aM (gN rfl) rfl rfl rfl rfl rfl) rfl ?_)
    (refine nx (aL (gN rfl) rfl rfl rfl rfl rfl rfl rfl rfl rfl rfl rfl rfl) rfl ?_)
    (refine nx (a_call (gN rfl) rfl rfl rfl rfl rfl (clone_abs w htm.1 htm.2)) rfl ?_)
    (refine nx (a_bslice (gN rfl) rfl rfl rfl rfl rfl rfl rfl rfl rfl rfl rfl rfl rfl) rfl ?_)
    (refine nx (a_app (gN rfl) rfl rfl rfl rfl rfl rfl rfl rfl rfl rfl rfl rfl rfl rfl rfl (by first | assumption | exact sZ rfl | exact Tm.size_all _ | exact Bd.size_all _ | exact ints_size _ | exact bys_size _ | exact Lt.size_all _) (by first | assumption | exact sZ rfl | exact Tm.size_all _ | exact Bd.size_all _ | exact ints_size _ | exact bys_size _ | exact Lt.size_all _) (by first | omega | (simp only [List.length_map, List.length_append, List.length_cons, List.length_nil] <;> omega) | (simp <;> omega))) rfl ?_)
    (refine nx (aA (gN rfl) rfl rfl rfl rfl rfl) rfl ?_)
    show AWp _ _ _ _ _ _ _
    refine aR ?_
    (refine nx (a_add (gN rfl) rfl rfl rfl rfl rfl rfl (by first | omega | (simp only [List.length_map, List.length_append, List.length_cons, List.length_nil] <;> omega) | (simp <;> omega))) rfl ?_)
    (refine nx (aM (gN rfl) rfl rfl rfl rfl rfl) rfl ?_)
    refine ⟨hkl, Wk.trans (wk_sub (s' := [(3, .own (.lst (((l.take (k + 1)).map Tm.strip).map Tm.cv)) 300016), (300016, .tok 41 2), (6, .val (.lst (l.map Tm.cv))), (7, .val (.i (l.map Tm.cv).length)), (8, .val (.i ((k + 1 : Nat) : Int)))]) ⟨?_, rfl, rfl, rfl, rfl, trivial⟩) (wk_ren 300016 200016 rfl rfl rfl rfl)⟩
    rw [List.take_add_one, ht, List.map_append, List.map_append]
    simp only [Option.toList_some, List.map_cons, List.map_nil, Tm.cv_eq]
    rfl
  · have hkl : k = l.length := by
      simp only [List.length_map, decide_eq_false_iff_not] at hc
      omega
    subst hkl
    rw [List.take_length]
    show AWp _ _ _ _ _ _ _
    refine aS (aR ?_)
    (refine nx (aM (gN rfl) rfl rfl rfl rfl rfl) rfl ?_)
    (refine nx (aA (gN rfl) rfl rfl rfl rfl rfl) rfl ?_)
    show AWp _ _ _ _ _ _ _
    exact aT (And.intro (.inr rfl) rfl)

def atP : List Int → Tm → Option Tm
  | [], t => some t
  | k :: ks, t => (t.pa k).bind (atP ks)
theorem atP_append (p q : List Int) (t : Tm) : atP (p ++ q) t = (atP p t).bind (atP q) := by
  induction p generalizing t with
  | nil => rfl
  | cons k ks ih =>
    rw [List.cons_append, atP, atP]
    cases t.pa k with
    | none => rfl
    | some s => exact ih s
theorem pa_mem {t s : Tm} {n : Int} (h : t.pa n = some s) : s ∈ t.ps := by
  unfold Tm.pa at h
  split at h
  · exact List.mem_of_getElem? h
  · cases h
theorem pa_sym {t s : Tm} {n : Int} (h : t.pa n = some s) : ¬ t.f < 0 := by
  intro hf
  have := pa_mem h
  rw [Tm.ps_of_var hf] at this
  cases this
theorem pa_size {t s : Tm} {n : Int} (h : t.pa n = some s) : s.size ≤ t.size := by
  have hm := pa_mem h
  have h1 := Tm.size_eq t
  have := flatMap_len_mem Tm.flat hm
  have h2 : s.size = s.flat.length := rfl
  omega
theorem atP_ok : ∀ {p : List Int} {t s : Tm}, atP p t = some s → t.rng → s.rng ∧ s.size ≤ t.size
  | [], t, s, h, hr => by cases h; exact ⟨hr, Nat.le_refl _⟩
  | k :: ks, t, s, h, hr => by
    rw [atP] at h
    cases hp : t.pa k with
    | none => rw [hp] at h; cases h
    | some u =>
      rw [hp] at h
      have hu := ((Tm.rng_iff _).1 hr).2 u (Tm.ps_mem (pa_mem hp)).1
      have h2 := atP_ok (p := ks) h hu
      exact ⟨h2.1, Nat.le_trans h2.2 (pa_size hp)⟩
theorem cs_of_at {U : Nat → Nat → Prop} {w : World} {a : Option Addr} {xs : List Value} (h : At U w a xs) : Cs w a xs := by
  rcases h with h | ⟨b, off, ha, hc⟩
  · exact .inl h
  · by_cases hz : xs = []
    · exact .inl hz
    · refine .inr ⟨b, off, ha, ?_, fun i hi => (hc i hi).2⟩
      have hpos : 0 < xs.length := List.length_pos_iff.2 hz
      have := (hc 0 hpos).2
      rw [List.getElem?_eq_getElem hpos] at this
      exact World.block_lt_of_cell? w _ this
theorem ownsRow_at {w : World} {base : Nat} {e : TypeId} {size : Nat} {v : Value} {n : Nat} {xs : List Value} (h : w.ownsRow base e size v n xs) :
    ∃ a c, v = .slice a n c ∧ n ≤ c ∧ c ≤ maxLen ∧ (a = none → n = 0 ∧ c = 0) ∧ At (fun b _ => base ≤ b) w a xs := by
  have ho := h
  obtain ⟨h1, h2⟩ := h
  rcases h2 with ⟨rfl, rfl⟩ | ⟨g, cap, cur, rfl, hb, hh, hn, hm, hs, ht⟩
  · exact ⟨none, 0, rfl, by omega, by simp, fun _ => ⟨rfl, rfl⟩, .inl (List.eq_nil_of_length_eq_zero (by omega))⟩
  · refine ⟨_, cap, rfl, hn, hm, (fun h => by cases h), .inr ⟨g, 0, rfl, fun i hi => ⟨hb, ?_⟩⟩⟩
    rw [show 0 + i = i by omega]
    exact ho.cellAt i (by omega)
theorem sq_rows {U : Nat → Nat → Prop} {w : World} : ∀ {l : List (List Tm)} {ys : List Value}, Sq ((l.map fun x => CV.lst (x.map Tm.cv)).map fun c => Rep U w c) ys →
    ∃ (A : Nat → Option Addr) (L C : Nat → Nat) (R : Nat → List Value), ∀ r x, l[r]? = some x → ys[r]? = some (.slice (A r) (L r) (C r)) ∧ L r = x.length ∧ (A r = none → L r = 0 ∧ C r = 0) ∧ At U w (A r) (R r) ∧ Sq ((x.map Tm.cv).map fun c => Rep U w c) (R r)
  | [], ys, h => ⟨fun _ => none, fun _ => 0, fun _ => 0, fun _ => [], fun r x hx => by simp at hx⟩
  | x :: l, ys, h => by
    obtain ⟨y1, y2, rfl, h1, h2⟩ := h
    obtain ⟨a, n, c, rfl, g1, g2, g3, g4, zs, g5, g6⟩ := rep_lst.1 h1
    obtain ⟨A, L, C, R, hR⟩ := sq_rows (l := l) h2
    refine ⟨fun r => match r with | 0 => a | r + 1 => A r, fun r => match r with | 0 => n | r + 1 => L r, fun r => match r with | 0 => c | r + 1 => C r, fun r => match r with | 0 => zs | r + 1 => R r, fun r y hy => ?_⟩
    cases r with
    | zero =>
      simp at hy
      subst hy
      exact ⟨rfl, by rw [g1, List.length_map], g4, g5, g6⟩
    | succ r =>
      simp at hy
      exact hR r y hy
theorem sq_joined {U : Nat → Nat → Prop} {w : World} {l : List (List Tm)} {L : Nat → Nat} {R : Nat → List Value} (h : ∀ r x, l[r]? = some x → L r = x.length ∧ Sq ((x.map Tm.cv).map fun c => Rep U w c) (R r)) :
    ∀ k, k ≤ l.length → Sq (((l.take k).flatten.map Tm.cv).map fun c => Rep U w c) (joinV R k) ∧ lenJ L k = (l.take k).flatten.length := by
  intro k
  induction k with
  | zero => intro _; exact ⟨rfl, rfl⟩
  | succ k ih =>
    intro hk
    obtain ⟨h1, h2⟩ := ih (by omega)
    obtain ⟨x, hx⟩ : ∃ x, l[k]? = some x := ⟨l[k], List.getElem?_eq_getElem (by omega)⟩
    obtain ⟨h3, h4⟩ := h k x hx
    rw [List.take_add_one, hx, List.flatten_append, joinV, lenJ, List.map_append, List.map_append, List.length_append, h2, h3]
    simp only [Option.toList_some, List.flatten_cons, List.flatten_nil, List.append_nil]
    exact ⟨sq_append h1 h4, trivial⟩
theorem concat_abs (W : World) (l : List (List Tm)) (hl : l.length ≤ 1000) (hs : l.flatten.length ≤ 1099511627776) : AFun Tryz.prog W 130 [.lst (l.map fun x => CV.lst (x.map Tm.cv))] (.val (.lst (l.flatten.map Tm.cv))) := by
  refine ⟨ent_of Tryz.func130 rfl rfl, .inl rfl, rfl, ?_⟩
  rintro U w vs hW ⟨u1, us1, rfl, h1, h3⟩
  have h3 : us1 = [] := h3
  subst h3
  obtain ⟨a, n, c, rfl, g1, g2, g3, g4, ys, g5, g6⟩ := vrep_lst.1 h1
  rw [List.length_map] at g1
  subst g1
  obtain ⟨A, L, C, R, hR⟩ := sq_rows g6
  obtain ⟨hj, hn⟩ := sq_joined (fun r x hx => ⟨(hR r x hx).2.1, (hR r x hx).2.2.2.2⟩) l.length (Nat.le_refl _)
  rw [List.take_length] at hj hn
  have hrw : Rw 2 w a l.length A L C R := by
    refine ⟨fun r hr => ?_, ?_⟩
    · obtain ⟨k1, k2, k3, k4, k5⟩ := hR r _ (List.getElem?_eq_getElem hr)
      refine ⟨k3, cs_of_at k4, ?_, rep_one_of k5⟩
      rw [sq_len (n := fun _ => 2) (fun c hc xs hx => by
        obtain ⟨t, _, rfl⟩ := List.mem_map.1 hc
        rw [hx.len]
        exact Tm.size_cv t) k5, k2]
      rw [List.map_const', List.sum_replicate_nat]
      simp
    · by_cases hz : l.length = 0
      · exact .inl hz
      · refine .inr ?_
        have hc := cs_of_at g5
        have hy0 := (hR 0 _ (List.getElem?_eq_getElem (by omega : 0 < l.length))).1
        rcases hc with hc | ⟨b, off, ha, hb, hc⟩
        · rw [hc] at hy0; simp at hy0
        · refine ⟨b, off, ha, hb, fun r hr => ?_⟩
          have hy := (hR r _ (List.getElem?_eq_getElem hr)).1
          have hlt : r < ys.length := by
            rcases Nat.lt_or_ge r ys.length with h | h
            · exact h
            · rw [List.getElem?_eq_none h] at hy; cases hy
          rw [hc r hlt, hy]
  refine (concatT_any a l.length c A L C R w hrw hl (by rw [hn]; exact hs)).mono ?_
  rintro e w' ⟨v, rfl, ho, hb⟩
  obtain ⟨a', c', rfl, k1, k2, k3, k4⟩ := ownsRow_at ho
  refine ⟨_, rfl, vrep_lst.2 ⟨a', _, c', rfl, by rw [hn, List.length_map], k1, k2, k3, _, k4.keep fun b o v h1 h2 => ⟨.inr h1, h2⟩, hj.keep fun b o v h1 h2 => ⟨.inl h1, ?_⟩⟩, hb⟩
  rw [hb.cell (World.block_lt_of_cell? w _ h2)]
  exact h2
def putP (u : Tm) : List Int → Tm → Option Tm
  | [], t => some u.strip
  | k :: ks, t => (t.pa k).bind fun s => (putP u ks s).map fun v => ⟨t.f, (t.l.take k.toNat).map Tm.strip ++ v :: (t.l.drop (k.toNat + 1)).map Tm.strip⟩
end Go.Proofs.YteegmcfobgpemaaGreat
namespace Go.Proofs.YteegmcfobgpemaaGreat
set_option linter.unusedVariables false
set_option linter.unusedSimpArgs false
theorem size_parts {t : Tm} (h : ¬ t.f < 0) : t.size = 1 + (t.l.map Tm.size).sum := by
  rw [Tm.size_eq, Tm.ps_of_sym (by omega), List.length_flatMap]
  rfl
theorem pa_nat {t s : Tm} {n : Int} (h : t.pa n = some s) : ∃ m : Nat, n = m ∧ t.l[m]? = some s ∧ ¬ t.f < 0 := by
  have hf := pa_sym h
  unfold Tm.pa at h
  split at h
  · rename_i h0
    rw [Tm.ps_of_sym (by omega)] at h
    exact ⟨n.toNat, by omega, h, hf⟩
  · cases h
theorem split_at {l : List Tm} {m : Nat} {s : Tm} (h : l[m]? = some s) : l = l.take m ++ s :: l.drop (m + 1) ∧ m < l.length := by
  have hm : m < l.length := by
    rcases Nat.lt_or_ge m l.length with h1 | h1
    · exact h1
    · rw [List.getElem?_eq_none h1] at h; cases h
  refine ⟨?_, hm⟩
  have e : l[m] = s := by rw [List.getElem?_eq_getElem hm] at h; exact Option.some.inj h
  rw [← e, ← List.drop_eq_getElem_cons hm, List.take_append_drop]
theorem map_strip2 (l : List Tm) : (l.map Tm.strip).map Tm.strip = l.map Tm.strip := by
  rw [List.map_map]
  exact List.map_congr_left fun s _ => Tm.strip_strip s
theorem putP_facts (u : Tm) (hu : u.rng) : ∀ (p : List Int) (t s : Tm), t.rng → atP p t = some s → ∃ z, putP u p t = some z ∧ z.rng ∧ atP p z = some u.strip ∧ putP s.strip p z = some t.strip ∧ z.size + s.size = t.size + u.size
  | [], t, s, hr, h => by
    cases h
    exact ⟨u.strip, rfl, Tm.strip_rng hu, rfl, by rw [putP, Tm.strip_strip], by rw [Tm.strip_size]; omega⟩
  | k :: ks, t, s, hr, h => by
    rw [atP] at h
    cases hp : t.pa k with
    | none => rw [hp] at h; cases h
    | some x =>
      rw [hp, Option.bind_some] at h
      obtain ⟨m, rfl, hx, hf⟩ := pa_nat hp
      obtain ⟨hsp, hm⟩ := split_at hx
      have hrl := (Tm.rng_iff _).1 hr
      obtain ⟨v, h1, h2, h3, h4, h5⟩ := putP_facts u hu ks x s (hrl.2 x (List.mem_of_getElem? hx)) h
      obtain ⟨A, hA⟩ : ∃ A, A = (t.l.take m).map Tm.strip := ⟨_, rfl⟩
      obtain ⟨B, hB⟩ : ∃ B, B = (t.l.drop (m + 1)).map Tm.strip := ⟨_, rfl⟩
      have hAl : A.length = m := by rw [hA, List.length_map, List.length_take]; omega
      have hpz : (Tm.mk t.f (A ++ v :: B)).pa (m : Int) = some v := by
        unfold Tm.pa
        rw [if_pos (by omega), Int.toNat_natCast, Tm.ps_of_sym (t := ⟨t.f, _⟩) (by show 0 ≤ t.f; omega)]
        show (A ++ v :: B)[m]? = some v
        rw [List.getElem?_append_right (by omega), hAl, Nat.sub_self]; rfl
      refine ⟨⟨t.f, A ++ v :: B⟩, ?_, ?_, ?_, ?_, ?_⟩
      · rw [putP, hp, Option.bind_some, h1, Int.toNat_natCast, ← hA, ← hB]; rfl
      · refine (Tm.rng_iff _).2 ⟨hrl.1, fun y hy => ?_⟩
        rcases List.mem_append.1 hy with hy | hy
        · rw [hA] at hy
          obtain ⟨z, hz, rfl⟩ := List.mem_map.1 hy
          exact Tm.strip_rng (hrl.2 z (List.mem_of_mem_take hz))
        · rcases List.mem_cons.1 hy with rfl | hy
          · exact h2
          · rw [hB] at hy
            obtain ⟨z, hz, rfl⟩ := List.mem_map.1 hy
            exact Tm.strip_rng (hrl.2 z (List.mem_of_mem_drop hz))
      · rw [atP, hpz, Option.bind_some, h3]
      · rw [putP, hpz, Option.bind_some, h4, Int.toNat_natCast, Option.map_some]
        show some (Tm.mk t.f (((A ++ v :: B).take m).map Tm.strip ++ x.strip :: ((A ++ v :: B).drop (m + 1)).map Tm.strip)) = _
        have e1 : (A ++ v :: B).take m = A := by rw [← hAl, List.take_left]
        have e2 : (A ++ v :: B).drop (m + 1) = B := by
          rw [← hAl, show A ++ v :: B = (A ++ [v]) ++ B by simp, show A.length + 1 = (A ++ [v]).length by simp, List.drop_left]
        rw [e1, e2, Tm.strip_eq t, Tm.ps_of_sym (by omega)]
        congr 2
        conv => rhs; rw [hsp]
        rw [List.map_append, List.map_cons, hA, hB, map_strip2, map_strip2]
      · have s1 := size_parts (t := ⟨t.f, A ++ v :: B⟩) hf
        have s2 := size_parts (t := t) hf
        simp only at s1
        have s3 : (t.l.map Tm.size).sum = ((t.l.take m).map Tm.size).sum + (x.size + ((t.l.drop (m + 1)).map Tm.size).sum) := by
          conv => lhs; rw [hsp]
          rw [List.map_append, List.map_cons, List.sum_append_nat, List.sum_cons]
        rw [List.map_append, List.map_cons, List.sum_append_nat, List.sum_cons] at s1
        have s4 : ∀ l : List Tm, (l.map Tm.strip).map Tm.size = l.map Tm.size := fun l => by
          rw [List.map_map]
          exact List.map_congr_left fun s _ => Tm.strip_size s
        have sA : (A.map Tm.size).sum = ((t.l.take m).map Tm.size).sum := by rw [hA, s4]
        have sB : (B.map Tm.size).sum = ((t.l.drop (m + 1)).map Tm.size).sum := by rw [hB, s4]
        omega
def cov (a b : Tm) : Prop := ∀ v, b.vs.count v ≤ a.vs.count v
def ordV (z w : Int) : Int := if 0 < z then 1 else if z < 0 then -1 else w
noncomputable def pickV (o : Int) (c d : Prop) : Int :=
  haveI := Classical.propDecidable
  if (o = 1 ∧ ¬ c) ∨ (o = -1 ∧ ¬ d) then 2 else o
noncomputable def verd (z : Int) (c d : Prop) (w : Int) : Int := if w = 0 then 0 else pickV (ordV z w) c d
def hdK (a b : Tm) : Int := if a.f < 0 ∨ b.f < 0 then 2 else if a.f ≠ b.f then cmpZ a.f b.f else cmpZ a.l.length b.l.length
noncomputable def firstK (k : Int) (r : Int) : Int := if k ≠ 0 then k else r
noncomputable def szD (a b : Tm) : Int := (a.size : Int) - b.size
noncomputable def kb (p : Tm) : Tm → Int :=
  Tm.rec (motive_1 := fun _ => Tm → Int) (motive_2 := fun _ => List Tm → Int)
    (fun f l ih t => verd (szD ⟨f, l⟩ t) (cov ⟨f, l⟩ t) (cov t ⟨f, l⟩) (if f ≠ t.f ∨ (Tm.mk f l).ps.length ≠ t.ps.length then hdK ⟨f, l⟩ t else if f < 0 then 0 else ih t.l))
    (fun _ => 0)
    (fun _ _ ih1 ih2 ts => match ts with | [] => 0 | t :: ts => firstK (ih1 t) (ih2 ts)) p
noncomputable def kbs (ps : List Tm) : List Tm → Int :=
  Tm.rec_1 (motive_1 := fun _ => Tm → Int) (motive_2 := fun _ => List Tm → Int)
    (fun f l ih t => verd (szD ⟨f, l⟩ t) (cov ⟨f, l⟩ t) (cov t ⟨f, l⟩) (if f ≠ t.f ∨ (Tm.mk f l).ps.length ≠ t.ps.length then hdK ⟨f, l⟩ t else if f < 0 then 0 else ih t.l))
    (fun _ => 0)
    (fun _ _ ih1 ih2 ts => match ts with | [] => 0 | t :: ts => firstK (ih1 t) (ih2 ts)) ps
noncomputable def wi (a b : Tm) : Int := if a.f ≠ b.f ∨ a.ps.length ≠ b.ps.length then hdK a b else kbs a.ps b.ps
theorem kbs_nil (ts : List Tm) : kbs [] ts = 0 := rfl
theorem kbs_cons (p : Tm) (ps : List Tm) (t : Tm) (ts : List Tm) : kbs (p :: ps) (t :: ts) = firstK (kb p t) (kbs ps ts) := rfl
theorem kb_eq (a b : Tm) : kb a b = verd (szD a b) (cov a b) (cov b a) (wi a b) := by
  cases a with
  | mk f l =>
    show verd _ _ _ _ = _
    congr 1
    unfold wi
    simp only
    split
    · rfl
    · rename_i h
      by_cases hf : f < 0
      · rw [if_pos hf, Tm.ps_of_var (t := ⟨f, l⟩) hf, kbs_nil]
      · rw [if_neg hf, Tm.ps_of_sym (t := ⟨f, l⟩) (by show 0 ≤ f; omega), Tm.ps_of_sym (t := b) (by have := Classical.not_not.1 (fun e => h (.inl e)); omega)]
        rfl

theorem verd_cases (z : Int) (c d : Prop) (w : Int) : (w = 0 ∧ verd z c d w = 0) ∨ (w ≠ 0 ∧ ∃ o, ((0 < z ∧ o = 1) ∨ (z < 0 ∧ o = -1) ∨ (z = 0 ∧ o = w)) ∧ ((verd z c d w = 2 ∧ ((o = 1 ∧ ¬ c) ∨ (o = -1 ∧ ¬ d))) ∨ (verd z c d w = o ∧ ¬ ((o = 1 ∧ ¬ c) ∨ (o = -1 ∧ ¬ d))))) := by
  unfold verd
  by_cases h0 : w = 0
  · left; exact ⟨h0, if_pos h0⟩
  · right
    refine ⟨h0, ordV z w, ?_, ?_⟩
    · unfold ordV
      by_cases h1 : 0 < z
      · rw [if_pos h1]; exact .inl ⟨h1, rfl⟩
      · rw [if_neg h1]
        by_cases h2 : z < 0
        · rw [if_pos h2]; exact .inr (.inl ⟨h2, rfl⟩)
        · rw [if_neg h2]; exact .inr (.inr ⟨by omega, rfl⟩)
    · rw [if_neg h0]
      generalize ordV z w = o
      unfold pickV
      by_cases h3 : (o = 1 ∧ ¬ c) ∨ (o = -1 ∧ ¬ d)
      · left; exact ⟨if_pos h3, h3⟩
      · right; exact ⟨if_neg h3, h3⟩
theorem verd_zero {z : Int} {c d : Prop} {w : Int} : verd z c d w = 0 ↔ w = 0 := by
  rcases verd_cases z c d w with ⟨h1, h2⟩ | ⟨h1, o, h2, ⟨h3, h4⟩ | ⟨h3, h4⟩⟩
  · exact ⟨fun _ => h1, fun _ => h2⟩
  · omega
  · omega
theorem verd_one {z : Int} {c d : Prop} {w : Int} : verd z c d w = 1 ↔ w ≠ 0 ∧ c ∧ (0 < z ∨ (z = 0 ∧ w = 1)) := by
  rcases verd_cases z c d w with ⟨h1, h2⟩ | ⟨h1, o, h2, ⟨h3, h4⟩ | ⟨h3, h4⟩⟩
  · constructor
    · intro h; omega
    · rintro ⟨h, _⟩; exact absurd h1 h
  · constructor
    · intro h; omega
    · rintro ⟨_, hc, h⟩
      have : o = 1 := by omega
      rcases h4 with h4 | h4
      · exact absurd hc h4.2
      · omega
  · constructor
    · intro h
      have ho : o = 1 := by omega
      exact ⟨h1, Classical.not_not.1 fun hc => h4 (.inl ⟨ho, hc⟩), by omega⟩
    · rintro ⟨_, hc, h⟩; omega
theorem verd_less {z : Int} {c d : Prop} {w : Int} : verd z c d w = -1 ↔ w ≠ 0 ∧ d ∧ (z < 0 ∨ (z = 0 ∧ w = -1)) := by
  rcases verd_cases z c d w with ⟨h1, h2⟩ | ⟨h1, o, h2, ⟨h3, h4⟩ | ⟨h3, h4⟩⟩
  · constructor
    · intro h; omega
    · rintro ⟨h, _⟩; exact absurd h1 h
  · constructor
    · intro h; omega
    · rintro ⟨_, hc, h⟩
      have : o = -1 := by omega
      rcases h4 with h4 | h4
      · omega
      · exact absurd hc h4.2
  · constructor
    · intro h
      have ho : o = -1 := by omega
      exact ⟨h1, Classical.not_not.1 fun hc => h4 (.inr ⟨ho, hc⟩), by omega⟩
    · rintro ⟨_, hc, h⟩; omega
def K4 (k : Int) : Prop := k = 0 ∨ k = 1 ∨ k = -1 ∨ k = 2
theorem verd_four {z : Int} {c d : Prop} {w : Int} (h : K4 w) : K4 (verd z c d w) := by
  unfold K4 at *
  rcases verd_cases z c d w with ⟨h1, h2⟩ | ⟨h1, o, h2, ⟨h3, h4⟩ | ⟨h3, h4⟩⟩ <;> omega
theorem hd_four (a b : Tm) : K4 (hdK a b) := by
  unfold hdK K4
  split
  · omega
  · split
    · rcases cmpZ_cases a.f b.f with h | h | h <;> omega
    · rcases cmpZ_cases a.l.length b.l.length with h | h | h <;> omega
theorem hd_ne {a b : Tm} (h : a.f ≠ b.f ∨ a.ps.length ≠ b.ps.length) : hdK a b ≠ 0 := by
  unfold hdK
  split
  · omega
  · rename_i h1
    rw [Tm.ps_of_sym (t := a) (by omega), Tm.ps_of_sym (t := b) (by omega)] at h
    split
    · rcases cmpZ_cases a.f b.f with h2 | h2 | h2 <;> omega
    · rcases cmpZ_cases a.l.length b.l.length with h2 | h2 | h2 <;> omega
theorem kbs_four : ∀ {l m : List Tm}, (∀ s ∈ l, ∀ t, K4 (kb s t)) → K4 (kbs l m)
  | [], m, _ => .inl rfl
  | _ :: _, [], _ => .inl rfl
  | x :: l, y :: m, h => by
    rw [kbs_cons]
    unfold firstK
    split
    · exact h x (by simp) y
    · exact kbs_four fun s hs => h s (List.mem_cons_of_mem _ hs)
theorem kb_four (a : Tm) : ∀ b, K4 (kb a b) := by
  induction a using Tm.indp with
  | h a ih =>
    intro b
    rw [kb_eq]
    refine verd_four ?_
    unfold wi
    split
    · exact hd_four a b
    · exact kbs_four ih
theorem kbs_zero : ∀ {l m : List Tm}, l.length = m.length → (∀ s ∈ l, ∀ t, kb s t = 0 ↔ s.strip = t.strip) → (kbs l m = 0 ↔ l.map Tm.strip = m.map Tm.strip)
  | [], [], _, _ => by simp [kbs_nil]
  | [], _ :: _, h, _ => by simp at h
  | _ :: _, [], h, _ => by simp at h
  | x :: l, y :: m, h, ih => by
    rw [kbs_cons, List.map_cons, List.map_cons, List.cons.injEq, ← ih x (by simp) y, ← kbs_zero (by simpa using h) fun s hs => ih s (List.mem_cons_of_mem _ hs)]
    unfold firstK
    split
    · rename_i h1
      constructor
      · intro h2; exact absurd h2 h1
      · rintro ⟨h2, _⟩; exact h2
    · rename_i h1
      exact ⟨fun h2 => ⟨Classical.not_not.1 h1, h2⟩, fun h2 => h2.2⟩
theorem strip_eq_iff (a b : Tm) : a.strip = b.strip ↔ a.f = b.f ∧ a.ps.map Tm.strip = b.ps.map Tm.strip := by
  rw [Tm.strip_eq, Tm.strip_eq b, Tm.mk.injEq]
theorem kb_zero (a : Tm) : ∀ b, kb a b = 0 ↔ a.strip = b.strip := by
  induction a using Tm.indp with
  | h a ih =>
    intro b
    rw [kb_eq, verd_zero, strip_eq_iff]
    unfold wi
    split
    · rename_i h
      constructor
      · intro h1; exact absurd h1 (hd_ne h)
      · rintro ⟨h1, h2⟩
        have := congrArg List.length h2
        rw [List.length_map, List.length_map] at this
        omega
    · rename_i h
      have hf : a.f = b.f := by omega
      rw [kbs_zero (by omega) ih]
      exact ⟨fun h1 => ⟨hf, h1⟩, fun h1 => h1.2⟩
theorem cov_strip {a b : Tm} : cov a.strip b ↔ cov a b := by unfold cov; rw [Tm.strip_vs]
theorem cov_strip2 {a b : Tm} : cov a b.strip ↔ cov a b := by unfold cov; rw [Tm.strip_vs]
theorem cov_refl (a : Tm) : cov a a := fun _ => Nat.le_refl _
theorem cov_trans {a b c : Tm} (h : cov a b) (h2 : cov b c) : cov a c := fun v => Nat.le_trans (h2 v) (h v)
theorem hd_strip (a b : Tm) : hdK a.strip b.strip = hdK a b := by
  unfold hdK
  rw [Tm.strip_f, Tm.strip_f]
  split
  · rfl
  · rename_i h
    split
    · rfl
    · rw [Tm.strip_l, Tm.strip_l, List.length_map, List.length_map, Tm.ps_of_sym (t := a) (by omega), Tm.ps_of_sym (t := b) (by omega)]
theorem kbs_strip : ∀ {l m : List Tm}, (∀ s ∈ l, ∀ t, kb s.strip t.strip = kb s t) → kbs (l.map Tm.strip) (m.map Tm.strip) = kbs l m
  | [], m, _ => rfl
  | _ :: _, [], _ => rfl
  | x :: l, y :: m, h => by
    rw [List.map_cons, List.map_cons, kbs_cons, kbs_cons, h x (by simp) y, kbs_strip fun s hs => h s (List.mem_cons_of_mem _ hs)]
theorem kb_strip (a : Tm) : ∀ b, kb a.strip b.strip = kb a b := by
  induction a using Tm.indp with
  | h a ih =>
    intro b
    rw [kb_eq, kb_eq a]
    have h1 : wi a.strip b.strip = wi a b := by
      unfold wi
      rw [Tm.strip_f, Tm.strip_f, Tm.strip_ps, Tm.strip_ps, List.length_map, List.length_map, hd_strip, kbs_strip ih]
    have h2 : szD a.strip b.strip = szD a b := by unfold szD; rw [Tm.strip_size, Tm.strip_size]
    have h3 : cov a.strip b.strip = cov a b := propext (cov_strip.trans cov_strip2)
    have h4 : cov b.strip a.strip = cov b a := propext (cov_strip.trans cov_strip2)
    rw [h1, h2, h3, h4]
theorem kb_congr {a a' b b' : Tm} (h : a.strip = a'.strip) (h2 : b.strip = b'.strip) : kb a b = kb a' b' := by rw [← kb_strip a, h, h2, kb_strip]
theorem kb_one (a b : Tm) : kb a b = 1 ↔ cov a b ∧ (b.size < a.size ∨ (a.size = b.size ∧ wi a b = 1)) := by
  rw [kb_eq, verd_one]
  unfold szD
  constructor
  · rintro ⟨h1, h2, h3⟩; exact ⟨h2, by omega⟩
  · rintro ⟨h1, h2⟩
    refine ⟨fun e => ?_, h1, by omega⟩
    have h3 : kb a b = 0 := by rw [kb_eq, verd_zero]; exact e
    have h4 := (kb_zero a b).1 h3
    have h5 : a.size = b.size := by rw [← Tm.strip_size, h4, Tm.strip_size]
    omega
theorem hd_turn (a b : Tm) (h : hdK a b ≠ 2) : hdK b a = - hdK a b := by
  unfold hdK at *
  by_cases h1 : a.f < 0 ∨ b.f < 0
  · rw [if_pos h1] at h; exact absurd rfl h
  · rw [if_neg h1, if_neg (by omega)]
    by_cases h2 : a.f = b.f
    · rw [if_neg (by omega), if_neg (by omega)]
      rcases cmpZ_cases a.l.length b.l.length with h3 | h3 | h3 <;> rcases cmpZ_cases b.l.length a.l.length with h4 | h4 | h4 <;> omega
    · rw [if_pos (by omega), if_pos h2]
      rcases cmpZ_cases a.f b.f with h3 | h3 | h3 <;> rcases cmpZ_cases b.f a.f with h4 | h4 | h4 <;> omega
theorem hd_turn2 (a b : Tm) (h : hdK a b = 2) : hdK b a = 2 := by
  unfold hdK at *
  by_cases h1 : a.f < 0 ∨ b.f < 0
  · rw [if_pos (by omega)]
  · rw [if_neg h1] at h
    exfalso
    split at h
    · rcases cmpZ_cases a.f b.f with h3 | h3 | h3 <;> omega
    · rcases cmpZ_cases a.l.length b.l.length with h3 | h3 | h3 <;> omega
def trn (k : Int) : Int := if k = 2 then 2 else - k
theorem trn_four {k : Int} (h : K4 k) : (trn k = 0 ↔ k = 0) ∧ (trn k = 1 ↔ k = -1) ∧ (trn k = -1 ↔ k = 1) ∧ K4 (trn k) := by
  unfold trn K4 at *
  split <;> omega
theorem verd_turn {z : Int} {c d : Prop} {w : Int} (h : K4 w) : verd (-z) d c (trn w) = trn (verd z c d w) := by
  have h1 := verd_four (z := z) (c := c) (d := d) h
  have t0 := trn_four h
  have h2 := verd_four (z := -z) (c := d) (d := c) t0.2.2.2
  have t1 := trn_four h1
  have a0 := @verd_zero z c d w
  have a1 := @verd_one z c d w
  have a2 := @verd_less z c d w
  have b0 := @verd_zero (-z) d c (trn w)
  have b1 := @verd_one (-z) d c (trn w)
  have b2 := @verd_less (-z) d c (trn w)
  generalize verd (-z) d c (trn w) = y at *
  generalize verd z c d w = x at *
  have e0 : y = 0 ↔ x = 0 := by rw [b0, a0]; exact t0.1
  have e1 : y = 1 ↔ x = -1 := by
    rw [b1, a2]
    constructor
    · rintro ⟨g1, g2, g3⟩; exact ⟨fun e => g1 (t0.1.2 e), g2, by rcases g3 with g3 | ⟨g3, g4⟩; omega; exact .inr ⟨by omega, t0.2.1.1 g4⟩⟩
    · rintro ⟨g1, g2, g3⟩; exact ⟨fun e => g1 (t0.1.1 e), g2, by rcases g3 with g3 | ⟨g3, g4⟩; omega; exact .inr ⟨by omega, t0.2.1.2 g4⟩⟩
  have e2 : y = -1 ↔ x = 1 := by
    rw [b2, a1]
    constructor
    · rintro ⟨g1, g2, g3⟩; exact ⟨fun e => g1 (t0.1.2 e), g2, by rcases g3 with g3 | ⟨g3, g4⟩; omega; exact .inr ⟨by omega, t0.2.2.1.1 g4⟩⟩
    · rintro ⟨g1, g2, g3⟩; exact ⟨fun e => g1 (t0.1.1 e), g2, by rcases g3 with g3 | ⟨g3, g4⟩; omega; exact .inr ⟨by omega, t0.2.2.1.2 g4⟩⟩
  unfold trn
  unfold K4 at h1 h2
  split <;> omega
theorem kbs_turn : ∀ {l m : List Tm}, l.length = m.length → (∀ s ∈ l, ∀ t, kb t s = trn (kb s t)) → kbs m l = trn (kbs l m)
  | [], [], _, _ => by rw [kbs_nil]; rfl
  | [], _ :: _, h, _ => by simp at h
  | _ :: _, [], h, _ => by simp at h
  | x :: l, y :: m, h, ih => by
    rw [kbs_cons, kbs_cons, ih x (by simp) y, kbs_turn (by simpa using h) fun s hs => ih s (List.mem_cons_of_mem _ hs)]
    have := (trn_four (kb_four x y)).1
    unfold firstK
    by_cases h1 : kb x y = 0
    · rw [if_neg (fun e => e (this.2 h1)), if_neg (by omega)]
    · rw [if_pos (fun e => h1 (this.1 e)), if_pos h1]
theorem kb_turn (a : Tm) : ∀ b, kb b a = trn (kb a b) := by
  induction a using Tm.indp with
  | h a ih =>
    intro b
    rw [kb_eq, kb_eq a]
    have h1 : szD b a = - szD a b := by unfold szD; omega
    have h4 : K4 (wi a b) := by
      unfold wi
      split
      · exact hd_four a b
      · exact kbs_four fun s _ t => kb_four s t
    rw [h1, ← verd_turn h4]
    congr 1
    unfold wi
    by_cases h : a.f ≠ b.f ∨ a.ps.length ≠ b.ps.length
    · rw [if_pos h, if_pos (by omega)]
      unfold trn
      split
      · rename_i h2; exact hd_turn2 a b h2
      · rename_i h2; exact hd_turn a b h2
    · rw [if_neg h, if_neg (by omega)]
      exact kbs_turn (by omega) ih
theorem kb_self (a : Tm) : kb a a = 0 := (kb_zero a a).2 rfl
theorem hd_one {a b : Tm} : hdK a b = 1 ↔ ¬ a.f < 0 ∧ ¬ b.f < 0 ∧ (b.f < a.f ∨ (a.f = b.f ∧ b.l.length < a.l.length)) := by
  unfold hdK
  split
  · constructor
    · intro h; omega
    · rintro ⟨h1, h2, _⟩; omega
  · rename_i h
    split
    · rename_i h2
      rcases cmpZ_cases a.f b.f with h3 | h3 | h3
      · constructor
        · intro h4; omega
        · rintro ⟨_, _, h4⟩; omega
      · constructor
        · intro h4; omega
        · rintro ⟨_, _, h4⟩; omega
      · exact ⟨fun _ => ⟨by omega, by omega, by omega⟩, fun _ => h3.1⟩
    · rename_i h2
      rcases cmpZ_cases a.l.length b.l.length with h3 | h3 | h3
      · constructor
        · intro h4; omega
        · rintro ⟨_, _, h4⟩; omega
      · constructor
        · intro h4; omega
        · rintro ⟨_, _, h4⟩; omega
      · exact ⟨fun _ => ⟨by omega, by omega, by omega⟩, fun _ => h3.1⟩
theorem wi_one {a b : Tm} : wi a b = 1 ↔ ¬ a.f < 0 ∧ ¬ b.f < 0 ∧ (b.f < a.f ∨ (a.f = b.f ∧ (b.l.length < a.l.length ∨ (a.l.length = b.l.length ∧ kbs a.l b.l = 1)))) := by
  unfold wi
  split
  · rename_i h
    rw [hd_one]
    constructor
    · rintro ⟨h1, h2, h3⟩; exact ⟨h1, h2, by omega⟩
    · rintro ⟨h1, h2, h3⟩
      rw [Tm.ps_of_sym (t := a) (by omega), Tm.ps_of_sym (t := b) (by omega)] at h
      exact ⟨h1, h2, by omega⟩
  · rename_i h
    by_cases hf : a.f < 0
    · rw [Tm.ps_of_var hf, kbs_nil]
      constructor
      · intro h; omega
      · rintro ⟨h1, _⟩; omega
    · rw [Tm.ps_of_sym (t := a) (by omega), Tm.ps_of_sym (t := b) (by omega)] at h ⊢
      constructor
      · intro h1; exact ⟨hf, by omega, .inr ⟨by omega, .inr ⟨by omega, h1⟩⟩⟩
      · rintro ⟨h1, h2, h3 | ⟨h3, h4 | ⟨h4, h5⟩⟩⟩
        · omega
        · omega
        · exact h5
theorem firstK_one {k r : Int} : firstK k r = 1 ↔ k = 1 ∨ (k = 0 ∧ r = 1) := by
  unfold firstK
  split <;> omega
theorem kb_anti {a b : Tm} (h : kb a b = 1) : kb b a = -1 := by rw [kb_turn, h]; rfl

theorem count_flatMap_le {l : List Tm} {s : Tm} (h : s ∈ l) (v : Int) : s.vs.count v ≤ (l.flatMap Tm.vs).count v := by
  induction l with
  | nil => cases h
  | cons x l ih =>
    rw [List.flatMap_cons, List.count_append]
    rcases List.mem_cons.1 h with rfl | h
    · omega
    · have := ih h; omega
theorem cov_part {t s : Tm} (h : s ∈ t.ps) : cov t s := by
  obtain ⟨h1, h2⟩ := Tm.ps_mem h
  intro v
  rw [Tm.vs_sym (t := t) (by omega)]
  exact count_flatMap_le h1 v
theorem kb_big {a b : Tm} (h : cov a b) (h2 : b.size < a.size) : kb a b = 1 := (kb_one a b).2 ⟨h, .inl h2⟩
theorem cov_at : ∀ {p : List Int} {t s : Tm}, atP p t = some s → cov t s ∧ (p ≠ [] → s.size < t.size) ∧ s.size ≤ t.size
  | [], t, s, h => by
    have h : some t = some s := h
    cases h
    exact ⟨cov_refl _, fun h => absurd rfl h, Nat.le_refl _⟩
  | n :: p, t, s, h => by
    rw [show n :: p = [n] ++ p from rfl, atP_append] at h
    cases h1 : atP [n] t with
    | none => rw [h1] at h; cases h
    | some u =>
      rw [h1] at h
      have h1 : (t.pa n).bind (atP []) = some u := h1
      cases h2 : t.pa n with
      | none => rw [h2] at h1; cases h1
      | some u' =>
        rw [h2] at h1
        have h1 : some u' = some u := h1
        cases h1
        have hm := pa_mem h2
        have hs := Tm.size_part hm
        obtain ⟨g1, g2, g3⟩ := cov_at (p := p) (t := u) (s := s) h
        exact ⟨cov_trans (cov_part hm) g1, fun _ => by omega, by omega⟩
theorem kb_at {p : List Int} {t s : Tm} (h : atP p t = some s) (hp : p ≠ []) : kb t s = 1 := kb_big (cov_at h).1 ((cov_at h).2.1 hp)
theorem perm_of_count : ∀ {b a : List Int}, (∀ v, b.count v ≤ a.count v) → ∃ r, a.Perm (b ++ r)
  | [], a, _ => ⟨a, by simp⟩
  | x :: b, a, h => by
    have hx : x ∈ a := by
      have := h x
      rw [List.count_cons_self] at this
      exact List.count_pos_iff.1 (by omega)
    have hp := List.perm_cons_erase hx
    obtain ⟨r, hr⟩ := perm_of_count (b := b) (a := a.erase x) (fun v => by
      have h1 := h v
      have h2 := hp.count_eq v
      rw [List.count_cons] at h1 h2
      omega)
    exact ⟨r, hp.trans (by rw [List.cons_append]; exact hr.cons x)⟩
theorem flatMap_count (l : List Int) (g : Int → List Int) (v : Int) : (l.flatMap g).count v = (l.map fun x => (g x).count v).sum := by
  induction l with
  | nil => rfl
  | cons x l ih => rw [List.flatMap_cons, List.count_append, ih, List.map_cons, List.sum_cons]
theorem sum_perm_nat {l m : List Nat} (h : l.Perm m) : l.sum = m.sum := by
  induction h with
  | nil => rfl
  | cons x _ ih => rw [List.sum_cons, List.sum_cons, ih]
  | swap x y l => simp only [List.sum_cons]; omega
  | trans _ _ ih1 ih2 => exact ih1.trans ih2
theorem sum_perm_int {l m : List Int} (h : l.Perm m) : l.sum = m.sum := by
  induction h with
  | nil => rfl
  | cons x _ ih => rw [List.sum_cons, List.sum_cons, ih]
  | swap x y l => simp only [List.sum_cons]; omega
  | trans _ _ ih1 ih2 => exact ih1.trans ih2
theorem sum_nonneg {l : List Int} (h : ∀ x ∈ l, 0 ≤ x) : 0 ≤ l.sum := by
  induction l with
  | nil => simp
  | cons x l ih =>
    rw [List.sum_cons]
    have := h x (by simp)
    have := ih fun y hy => h y (List.mem_cons_of_mem _ hy)
    omega
theorem cov_rep (img : Int → Tm) {a b : Tm} (h : cov a b) : cov (repT img a) (repT img b) ∧ szD a b ≤ szD (repT img a) (repT img b) := by
  obtain ⟨r, hr⟩ := perm_of_count h
  constructor
  · intro v
    rw [repT_vs, repT_vs, flatMap_count, flatMap_count, sum_perm_nat (hr.map _), List.map_append, List.sum_append_nat]
    omega
  · unfold szD
    rw [repT_size, repT_size, sum_perm_int (hr.map _), List.map_append, List.sum_append_int]
    have : 0 ≤ (r.map fun v => ((img v).size : Int) - 1).sum := by
      refine sum_nonneg fun x hx => ?_
      obtain ⟨v, _, rfl⟩ := List.mem_map.1 hx
      have := (img v).size_pos
      omega
    omega
theorem kbs_rep (img : Int → Tm) : ∀ {l m : List Tm}, (∀ s ∈ l, ∀ t, kb s t = 1 → kb (repT img s) (repT img t) = 1) → kbs l m = 1 → kbs (l.map (repT img)) (m.map (repT img)) = 1
  | [], _, _, h => by rw [kbs_nil] at h; omega
  | _ :: _, [], _, h => by cases h
  | x :: l, y :: m, ih, h => by
    rw [kbs_cons, firstK_one] at h
    rw [List.map_cons, List.map_cons, kbs_cons, firstK_one]
    rcases h with h | ⟨h, h'⟩
    · exact .inl (ih x (by simp) y h)
    · right
      refine ⟨?_, kbs_rep img (fun s hs => ih s (List.mem_cons_of_mem _ hs)) h'⟩
      rw [← rep_strip img x, (kb_zero x y).1 h, rep_strip]
      exact kb_self _
theorem kb_rep1 (img : Int → Tm) (a : Tm) : ∀ b, kb a b = 1 → kb (repT img a) (repT img b) = 1 := by
  induction a using Tm.ind with
  | h f l ih =>
    intro b h
    rw [kb_one] at h
    obtain ⟨h1, h2⟩ := h
    obtain ⟨c1, c2⟩ := cov_rep img h1
    unfold szD at c2
    rw [kb_one]
    refine ⟨c1, ?_⟩
    rcases h2 with h2 | ⟨h2, h3⟩
    · left; omega
    · rcases Nat.lt_or_ge (repT img b).size (repT img ⟨f, l⟩).size with h4 | h4
      · exact .inl h4
      · right
        refine ⟨by omega, ?_⟩
        rw [wi_one] at h3 ⊢
        obtain ⟨h5, h6, h7⟩ := h3
        rw [repT_sym h5, repT_sym h6]
        refine ⟨h5, h6, ?_⟩
        simp only [List.length_map]
        rcases h7 with h7 | ⟨h7, h8 | ⟨h8, h9⟩⟩
        · exact .inl h7
        · exact .inr ⟨h7, .inl h8⟩
        · exact .inr ⟨h7, .inr ⟨h8, kbs_rep img ih h9⟩⟩
theorem kb_rep (img : Int → Tm) {a b : Tm} (h : kb a b ≠ 2) : kb (repT img a) (repT img b) = kb a b := by
  rcases kb_four a b with h1 | h1 | h1 | h1
  · rw [h1, kb_zero, ← rep_strip img a, (kb_zero a b).1 h1, rep_strip]
  · rw [h1]; exact kb_rep1 img a b h1
  · have h2 : kb b a = 1 := by rw [kb_turn a b, h1]; rfl
    rw [h1]; exact kb_anti (kb_rep1 img b a h2)
  · exact absurd h1 h
def cn (s : Tm) (l : List Tm) : Nat := l.countP (fun t => sameT s t)
theorem cn_nil (s : Tm) : cn s [] = 0 := rfl
theorem cn_cons (s t : Tm) (l : List Tm) : cn s (t :: l) = cn s l + (if sameT s t = true then 1 else 0) := by unfold cn; exact List.countP_cons
theorem sameT_refl (s : Tm) : sameT s s = true := (sameT_iff _ _).2 rfl
theorem cn_congr {s t : Tm} (h : sameT s t = true) (l : List Tm) : cn s l = cn t l := by
  unfold cn
  refine List.countP_congr fun x _ => ?_
  rw [sameT_iff, sameT_iff, (sameT_iff _ _).1 h]
theorem cn_pos {s : Tm} {l : List Tm} : 0 < cn s l ↔ ∃ t ∈ l, sameT s t = true := by unfold cn; exact List.countP_pos_iff
theorem cn_mem {t : Tm} {l : List Tm} (h : t ∈ l) : 0 < cn t l := cn_pos.2 ⟨t, h, sameT_refl t⟩
theorem kb_same {a a' b b' : Tm} (h : sameT a a' = true) (h2 : sameT b b' = true) : kb a b = kb a' b' := kb_congr ((sameT_iff _ _).1 h) ((sameT_iff _ _).1 h2)

def mulP (A B : List Tm) : Prop := (∃ s, cn s B < cn s A) ∧ ∀ s, cn s A < cn s B → ∃ t, cn t B < cn t A ∧ kb t s = 1

theorem mul_irr (A : List Tm) : ¬ mulP A A := fun h => by obtain ⟨s, h⟩ := h.1; omega
def cutN : Nat → List Tm → List Tm → List Tm × List Tm
  | 0, a, b => (a, b)
  | n + 1, a, b => match a[n]? with
    | none => cutN n a b
    | some t => match b.findIdx? (sameT t) with
      | none => cutN n a b
      | some k => cutN n (a.eraseIdx n) (b.eraseIdx k)
theorem cn_erase (s : Tm) : ∀ {l : List Tm} {k : Nat} {t : Tm}, l[k]? = some t → cn s (l.eraseIdx k) + (if sameT s t = true then 1 else 0) = cn s l
  | [], k, t, h => by simp at h
  | x :: l, 0, t, h => by
    have e : x = t := by simpa using h
    subst e
    rw [List.eraseIdx_cons_zero, cn_cons]
  | x :: l, k + 1, t, h => by
    have e := cn_erase s (l := l) (k := k) (t := t) (by simpa using h)
    rw [List.eraseIdx_cons_succ, cn_cons, cn_cons, ← e]; omega
theorem cut_cn : ∀ (n : Nat) (a b : List Tm) (s : Tm), cn s (cutN n a b).1 + cn s b = cn s (cutN n a b).2 + cn s a
  | 0, a, b, s => by unfold cutN; exact Nat.add_comm _ _
  | n + 1, a, b, s => by
    unfold cutN
    split
    · exact cut_cn n a b s
    · rename_i t ht
      split
      · exact cut_cn n a b s
      · rename_i k hk
        obtain ⟨hkl, hp, _⟩ := List.findIdx?_eq_some_iff_getElem.1 hk
        have h1 := cut_cn n (a.eraseIdx n) (b.eraseIdx k) s
        have h2 := cn_erase s ht
        have h3 := cn_erase s (List.getElem?_eq_getElem hkl)
        have h4 : sameT s t = sameT s b[k] := by rw [Bool.eq_iff_iff, sameT_iff, sameT_iff, (sameT_iff _ _).1 hp]
        rw [h4] at h2
        omega
theorem drop_atT {a : List Tm} {n : Nat} {t : Tm} (h : a[n]? = some t) : a.drop n = t :: a.drop (n + 1) := by
  obtain ⟨hl, he⟩ := List.getElem?_eq_some_iff.1 h
  rw [List.drop_eq_getElem_cons hl, he]
theorem erase_drop {a : List Tm} {n : Nat} (h : n < a.length) : (a.eraseIdx n).drop n = a.drop (n + 1) := by
  rw [List.eraseIdx_eq_take_drop_succ, List.drop_append]
  rw [List.length_take, Nat.min_eq_left (by omega)]
  simp
theorem cut_apart : ∀ (n : Nat) (a b : List Tm), n ≤ a.length → (∀ t ∈ a.drop n, cn t b = 0) → ∀ t ∈ (cutN n a b).1, cn t (cutN n a b).2 = 0
  | 0, a, b, _, h => by unfold cutN; simpa using h
  | n + 1, a, b, hn, h => by
    unfold cutN
    split
    · rename_i ht; rw [List.getElem?_eq_none_iff] at ht; omega
    · rename_i t ht
      split
      · rename_i hk
        refine cut_apart n a b (by omega) fun u hu => ?_
        rw [drop_atT ht] at hu
        rcases List.mem_cons.1 hu with rfl | hu
        · rw [List.findIdx?_eq_none_iff] at hk
          refine Nat.eq_zero_of_not_pos fun hc => ?_
          obtain ⟨v, hv, he⟩ := cn_pos.1 hc
          have := hk v hv
          rw [he] at this; cases this
        · exact h u hu
      · rename_i k hk
        obtain ⟨hkl, hp, _⟩ := List.findIdx?_eq_some_iff_getElem.1 hk
        refine cut_apart n _ _ (by rw [List.length_eraseIdx_of_lt (by omega)]; omega) fun u hu => ?_
        rw [erase_drop (by omega)] at hu
        have h1 := h u hu
        have h2 := cn_erase u (List.getElem?_eq_getElem hkl)
        omega
noncomputable def outB (X Y : List Tm) : Bool := decide (0 < X.length) && !(Y.any fun y => !(X.any fun x => decide (kb x y = 1)))
theorem outB_iff (X Y : List Tm) : outB X Y = true ↔ X ≠ [] ∧ ∀ y ∈ Y, ∃ x ∈ X, kb x y = 1 := by
  unfold outB
  rw [Bool.and_eq_true, decide_eq_true_iff, Bool.not_eq_true', ← Bool.not_eq_true, List.any_eq_true, List.length_pos_iff]
  refine and_congr_right fun _ => ⟨fun h y hy => ?_, fun h hc => ?_⟩
  · by_cases hx : (X.any fun x => decide (kb x y = 1)) = true
    · obtain ⟨x, hx, he⟩ := List.any_eq_true.1 hx
      exact ⟨x, hx, of_decide_eq_true he⟩
    · exact absurd ⟨y, hy, by simpa using hx⟩ h
  · obtain ⟨y, hy, he⟩ := hc
    obtain ⟨x, hx, hk⟩ := h y hy
    have : (X.any fun x => decide (kb x y = 1)) = true := List.any_eq_true.2 ⟨x, hx, decide_eq_true hk⟩
    rw [this] at he; cases he
theorem out_mul {X Y A B : List Tm} (h1 : ∀ s, cn s X = cn s A - cn s B) (h2 : ∀ s, cn s Y = cn s B - cn s A) : outB X Y = true ↔ mulP A B := by
  rw [outB_iff]
  unfold mulP
  constructor
  · rintro ⟨h3, h4⟩
    refine ⟨?_, fun s hs => ?_⟩
    · cases X with
      | nil => exact absurd rfl h3
      | cons x X =>
        have h5 := cn_mem (l := x :: X) List.mem_cons_self
        have h6 := h1 x
        exact ⟨x, by omega⟩
    · have h5 := h2 s
      obtain ⟨y, hy, he⟩ := cn_pos.1 (show 0 < cn s Y by omega)
      obtain ⟨x, hx, hk⟩ := h4 y hy
      have h6 := cn_mem hx
      have h7 := h1 x
      exact ⟨x, by omega, by rw [kb_same (sameT_refl x) he]; exact hk⟩
  · rintro ⟨⟨s, hs⟩, h4⟩
    refine ⟨?_, fun y hy => ?_⟩
    · rintro rfl
      have h5 := h1 s
      rw [cn_nil] at h5; omega
    · have h5 := cn_mem hy
      have h6 := h2 y
      obtain ⟨t, ht, hk⟩ := h4 y (by omega)
      have h7 := h1 t
      obtain ⟨x, hx, he⟩ := cn_pos.1 (show 0 < cn t X by omega)
      exact ⟨x, hx, by rw [← kb_same he (sameT_refl y)]; exact hk⟩
noncomputable def mulB (a b : List Tm) : Bool := outB (cutN a.length a b).1 (cutN a.length a b).2
theorem mulB_iff (a b : List Tm) : mulB a b = true ↔ mulP a b := by
  have h1 := cut_cn a.length a b
  have h2 := cut_apart a.length a b (Nat.le_refl _) (by simp)
  have h3 : ∀ s, cn s (cutN a.length a b).1 = 0 ∨ cn s (cutN a.length a b).2 = 0 := by
    intro s
    by_cases hc : 0 < cn s (cutN a.length a b).1
    · obtain ⟨t, ht, he⟩ := cn_pos.1 hc
      right; rw [cn_congr he]; exact h2 t ht
    · left; omega
  refine out_mul (fun s => ?_) (fun s => ?_)
  · have := h1 s; have := h3 s; omega
  · have := h1 s; have := h3 s; omega

def hitI (b : List Tm) (u : List Bool) (t : Tm) : Option Nat := (b.zip u).findIdx? (fun p => !p.2 && sameT t p.1)
def lsD : List Tm → List Tm → List Bool → List Tm
  | [], b, u => []
  | t :: a, b, u => match hitI b u t with
    | none => t :: lsD a b u
    | some k => lsD a b (u.set k true)
def rm (s : Tm) (b : List Tm) (u : List Bool) : Nat := (b.zip u).countP (fun p => !p.2 && sameT s p.1)
theorem rm_set (s : Tm) : ∀ {b : List Tm} {u : List Bool} {k : Nat} {t : Tm}, (b.zip u)[k]? = some (t, false) → rm s b (u.set k true) + (if sameT s t = true then 1 else 0) = rm s b u
  | [], u, k, t, h => by simp at h
  | x :: b, [], k, t, h => by simp at h
  | x :: b, y :: u, 0, t, h => by
    have e : x = t ∧ y = false := by simpa using h
    obtain ⟨rfl, rfl⟩ := e
    unfold rm
    rw [List.set_cons_zero, List.zip_cons_cons, List.zip_cons_cons, List.countP_cons, List.countP_cons]
    simp
  | x :: b, y :: u, k + 1, t, h => by
    have e := rm_set s (b := b) (u := u) (k := k) (t := t) (by simpa using h)
    unfold rm at e ⊢
    rw [List.set_cons_succ, List.zip_cons_cons, List.zip_cons_cons, List.countP_cons, List.countP_cons, ← e]; omega
theorem ls_cn (s : Tm) : ∀ (a b : List Tm) (u : List Bool), cn s (lsD a b u) = cn s a - rm s b u
  | [], b, u => by unfold lsD; rw [cn_nil]; omega
  | t :: a, b, u => by
    unfold lsD
    split
    · rename_i hh
      rw [cn_cons, cn_cons, ls_cn s a b u]
      unfold hitI at hh
      rw [List.findIdx?_eq_none_iff] at hh
      by_cases hs : sameT s t = true
      · have h0 : rm s b u = 0 := by
          unfold rm
          rw [List.countP_eq_zero]
          intro p hp hc
          have := hh p hp
          rw [Bool.and_eq_true, sameT_iff, (sameT_iff _ _).1 hs, ← sameT_iff, ← Bool.and_eq_true] at hc
          rw [hc] at this; cases this
        rw [h0, if_pos hs]; omega
      · rw [if_neg hs]; omega
    · rename_i k hk
      unfold hitI at hk
      obtain ⟨hl, hp, _⟩ := List.findIdx?_eq_some_iff_getElem.1 hk
      rw [Bool.and_eq_true, Bool.not_eq_true'] at hp
      have he : (b.zip u)[k]? = some ((b.zip u)[k].1, false) := by rw [List.getElem?_eq_getElem hl, ← hp.1]
      have h1 := rm_set s he
      have h4 : sameT s t = sameT s (b.zip u)[k].1 := by rw [Bool.eq_iff_iff, sameT_iff, sameT_iff, (sameT_iff _ _).1 hp.2]
      rw [← h4] at h1
      rw [ls_cn s a b _, cn_cons]
      by_cases hs : sameT s t = true
      · rw [if_pos hs] at h1 ⊢; omega
      · rw [if_neg hs] at h1 ⊢; omega
theorem rm_new (s : Tm) : ∀ (b : List Tm), rm s b (List.replicate b.length false) = cn s b
  | [] => rfl
  | x :: b => by
    have e := rm_new s b
    unfold rm at e ⊢
    rw [List.length_cons, List.replicate_succ, List.zip_cons_cons, List.countP_cons, e, cn_cons]
    simp
def lessD (a b : List Tm) : List Tm := lsD a b (List.replicate b.length false)
theorem less_cn (s : Tm) (a b : List Tm) : cn s (lessD a b) = cn s a - cn s b := by unfold lessD; rw [ls_cn, rm_new]
theorem mul_doc (a b : List Tm) : outB (lessD a b) (lessD b a) = mulB a b := by
  rw [Bool.eq_iff_iff, mulB_iff]
  exact out_mul (fun s => less_cn s a b) (fun s => less_cn s b a)
structure Sc where
  sz : Int
  mp : List (Int × Int)
  sp : Int
  lk : Int
def mfind : List (Int × Int) → Int → Option Int
  | [], _ => none
  | (k, x) :: l, v => if k = v then some x else mfind l v
def mget (l : List (Int × Int)) (v : Int) : Int := (mfind l v).getD 0
def mput : List (Int × Int) → Int → Int → List (Int × Int)
  | [], v, y => [(v, y)]
  | (k, x) :: l, v, y => if k = v then (v, y) :: l else (k, x) :: mput l v y
theorem mput_ne (l : List (Int × Int)) (v y : Int) : mput l v y ≠ [] := by
  cases l with
  | nil => simp [mput]
  | cons p l =>
    obtain ⟨k, x⟩ := p
    rw [mput]
    split <;> simp
theorem mfind_put (l : List (Int × Int)) (v y u : Int) : mfind (mput l v y) u = if v = u then some y else mfind l u := by
  induction l with
  | nil => rfl
  | cons p l ih =>
    obtain ⟨k, x⟩ := p
    rw [mput]
    by_cases h : k = v
    · rw [if_pos h, mfind, mfind]
      by_cases h2 : v = u
      · rw [if_pos h2, if_pos h2]
      · rw [if_neg h2, if_neg h2, if_neg (by omega)]
    · rw [if_neg h, mfind, mfind]
      by_cases h2 : k = u
      · rw [if_pos h2, if_pos h2, if_neg (by omega)]
      · rw [if_neg h2, if_neg h2, ih]
theorem mget_put (l : List (Int × Int)) (v y u : Int) : mget (mput l v y) u = if v = u then y else mget l u := by
  unfold mget
  rw [mfind_put]
  split <;> rfl
def addVk (s : Sc) (v σ : Int) : Sc := ⟨s.sz, mput s.mp v (mget s.mp v + σ), s.sp + (max (mget s.mp v + σ) 0 - max (mget s.mp v) 0), s.lk + (max (-(mget s.mp v + σ)) 0 - max (-(mget s.mp v)) 0)⟩
def addN (σ : Int) (s : Sc) (t : Tm) : Sc := if t.f < 0 then addVk ⟨s.sz + σ, s.mp, s.sp, s.lk⟩ (-1 - t.f) σ else ⟨s.sz + σ, s.mp, s.sp, s.lk⟩
def addT (σ : Int) (s : Sc) (t : Tm) : Sc := t.flat.foldl (addN σ) s
def addL (σ : Int) (s : Sc) (l : List Tm) : Sc := (l.flatMap Tm.flat).foldl (addN σ) s
theorem addT_var {σ : Int} {s : Sc} {t : Tm} (h : t.f < 0) : addT σ s t = addVk ⟨s.sz + σ, s.mp, s.sp, s.lk⟩ (-1 - t.f) σ := by
  unfold addT
  rw [Tm.flat_eq, Tm.ps_of_var h]
  show addN σ s t = _
  unfold addN
  rw [if_pos h]
theorem addT_sym {σ : Int} {s : Sc} {t : Tm} (h : ¬ t.f < 0) : addT σ s t = addL σ ⟨s.sz + σ, s.mp, s.sp, s.lk⟩ t.l := by
  unfold addT addL
  rw [Tm.flat_eq, Tm.ps_of_sym (by omega), List.foldl_cons]
  congr 1
  unfold addN
  rw [if_neg h]
theorem addL_take {σ : Int} {s : Sc} {l : List Tm} {k : Nat} {t : Tm} (h : l[k]? = some t) : addL σ s (l.take (k + 1)) = addT σ (addL σ s (l.take k)) t := by
  unfold addL addT
  rw [List.take_add_one, h, List.flatMap_append, List.foldl_append]
  simp
def upS (l : List (Int × Int)) : Int := (l.map fun p => max p.2 0).sum
def dnS (l : List (Int × Int)) : Int := (l.map fun p => max (-p.2) 0).sum
def ndk (l : List (Int × Int)) : Prop := (l.map (·.1)).Nodup
theorem mfind_none {l : List (Int × Int)} {v : Int} (h : v ∉ l.map (·.1)) : mfind l v = none := by
  induction l with
  | nil => rfl
  | cons p l ih =>
    obtain ⟨k, x⟩ := p
    rw [List.map_cons, List.mem_cons, not_or] at h
    rw [mfind, if_neg (fun e => h.1 e.symm), ih h.2]
theorem keys_put {l : List (Int × Int)} {v y u : Int} (h : u ∈ (mput l v y).map (·.1)) : u = v ∨ u ∈ l.map (·.1) := by
  induction l with
  | nil => simp [mput] at h; exact .inl h
  | cons p l ih =>
    obtain ⟨k, x⟩ := p
    rw [mput] at h
    split at h
    · rename_i e
      rw [List.map_cons, List.mem_cons] at h ⊢
      rcases h with h | h
      · exact .inl h
      · exact .inr (.inr h)
    · rw [List.map_cons, List.mem_cons] at h ⊢
      rcases h with h | h
      · exact .inr (.inl h)
      · rcases ih h with h | h
        · exact .inl h
        · exact .inr (.inr h)
theorem ndk_put {l : List (Int × Int)} (h : ndk l) (v y : Int) : ndk (mput l v y) ∧ upS (mput l v y) = upS l + (max y 0 - max (mget l v) 0) ∧ dnS (mput l v y) = dnS l + (max (-y) 0 - max (-(mget l v)) 0) := by
  induction l with
  | nil => exact ⟨by simp [mput, ndk], by simp [mput, upS, mget, mfind], by simp [mput, dnS, mget, mfind]⟩
  | cons p l ih =>
    obtain ⟨k, x⟩ := p
    unfold ndk at h
    rw [List.map_cons, List.nodup_cons] at h
    rw [mput]
    by_cases e : k = v
    · rw [if_pos e]
      have hg : mget ((k, x) :: l) v = x := by unfold mget mfind; rw [if_pos e]; rfl
      rw [hg]
      refine ⟨by unfold ndk; rw [List.map_cons, List.nodup_cons]; exact e ▸ h, ?_, ?_⟩
      · simp only [upS, List.map_cons, List.sum_cons]; omega
      · simp only [dnS, List.map_cons, List.sum_cons]; omega
    · rw [if_neg e]
      have hg : mget ((k, x) :: l) v = mget l v := by unfold mget; rw [mfind, if_neg e]
      obtain ⟨h1, h2, h3⟩ := ih h.2
      rw [hg]
      refine ⟨?_, ?_, ?_⟩
      · unfold ndk
        rw [List.map_cons, List.nodup_cons]
        refine ⟨fun hm => ?_, h1⟩
        rcases keys_put hm with hm | hm
        · exact e hm
        · exact h.1 hm
      · unfold upS at h2 ⊢; rw [List.map_cons, List.sum_cons, h2, List.map_cons, List.sum_cons]; omega
      · unfold dnS at h3 ⊢; rw [List.map_cons, List.sum_cons, h3, List.map_cons, List.sum_cons]; omega
theorem ups_zero {l : List (Int × Int)} (h : ndk l) : 0 ≤ upS l ∧ (upS l = 0 ↔ ∀ v, mget l v ≤ 0) := by
  induction l with
  | nil => exact ⟨by simp [upS], by simp [upS, mget, mfind]⟩
  | cons p l ih =>
    obtain ⟨k, x⟩ := p
    unfold ndk at h
    rw [List.map_cons, List.nodup_cons] at h
    obtain ⟨h1, h2⟩ := ih h.2
    have e : upS ((k, x) :: l) = max x 0 + upS l := by simp [upS]
    rw [e]
    refine ⟨by omega, ?_⟩
    constructor
    · intro h3 v
      have h4 := h2.1 (by omega) v
      unfold mget at h4 ⊢
      rw [mfind]
      split
      · show x ≤ 0; omega
      · exact h4
    · intro h3
      have hx := h3 k
      unfold mget at hx
      rw [mfind, if_pos rfl] at hx
      have hx : x ≤ 0 := hx
      have := h2.2 fun v => by
        by_cases hv : k = v
        · subst hv
          unfold mget
          rw [mfind_none h.1]
          exact Int.le_refl 0
        · have := h3 v
          unfold mget at this ⊢
          rw [mfind, if_neg hv] at this
          exact this
      omega
theorem dns_zero {l : List (Int × Int)} (h : ndk l) : 0 ≤ dnS l ∧ (dnS l = 0 ↔ ∀ v, 0 ≤ mget l v) := by
  induction l with
  | nil => exact ⟨by simp [dnS], by simp [dnS, mget, mfind]⟩
  | cons p l ih =>
    obtain ⟨k, x⟩ := p
    unfold ndk at h
    rw [List.map_cons, List.nodup_cons] at h
    obtain ⟨h1, h2⟩ := ih h.2
    have e : dnS ((k, x) :: l) = max (-x) 0 + dnS l := by simp [dnS]
    rw [e]
    refine ⟨by omega, ?_⟩
    constructor
    · intro h3 v
      have h4 := h2.1 (by omega) v
      unfold mget at h4 ⊢
      rw [mfind]
      split
      · show 0 ≤ x; omega
      · exact h4
    · intro h3
      have hx := h3 k
      unfold mget at hx
      rw [mfind, if_pos rfl] at hx
      have hx : 0 ≤ x := hx
      have := h2.2 fun v => by
        by_cases hv : k = v
        · subst hv
          unfold mget
          rw [mfind_none h.1]
          exact Int.le_refl 0
        · have := h3 v
          unfold mget at this ⊢
          rw [mfind, if_neg hv] at this
          exact this
      omega
structure Ss (s : Sc) (z : Int) (D : Int → Int) : Prop where
  sz : s.sz = z
  nd : ndk s.mp
  sp : s.sp = upS s.mp
  lk : s.lk = dnS s.mp
  at_ : ∀ v, mget s.mp v = D v
theorem Ss.addV {s : Sc} {z : Int} {D : Int → Int} (h : Ss s z D) (v σ : Int) : Ss (addVk s v σ) z (fun u => D u + if v = u then σ else 0) := by
  obtain ⟨h1, h2, h3⟩ := ndk_put h.nd v (mget s.mp v + σ)
  refine ⟨h.sz, h1, ?_, ?_, fun u => ?_⟩
  · show s.sp + _ = upS (mput _ _ _); rw [h2, h.sp]
  · show s.lk + _ = dnS (mput _ _ _); rw [h3, h.lk]
  · show mget (mput _ _ _) u = _
    rw [mget_put]
    split
    · rename_i e; subst e; rw [h.at_]
    · rw [h.at_]; omega
theorem addN_var {σ : Int} {s : Sc} {t : Tm} (h : t.f < 0) : addN σ s t = addVk ⟨s.sz + σ, s.mp, s.sp, s.lk⟩ (-1 - t.f) σ := if_pos h
theorem addN_sym {σ : Int} {s : Sc} {t : Tm} (h : ¬ t.f < 0) : addN σ s t = ⟨s.sz + σ, s.mp, s.sp, s.lk⟩ := if_neg h
theorem Ss.fold {σ : Int} : ∀ {l : List Tm} {s : Sc} {z : Int} {D : Int → Int}, Ss s z D → Ss (l.foldl (addN σ) s) (z + σ * l.length) (fun v => D v + σ * ((vsL l).count v : Int))
  | [], s, z, D, h => by
    refine ⟨by show s.sz = _; rw [h.sz]; simp, h.nd, h.sp, h.lk, fun v => ?_⟩
    show mget s.mp v = _
    rw [h.at_]; simp [vsL]
  | t :: l, s, z, D, h => by
    rw [List.foldl_cons]
    have h0 : Ss ⟨s.sz + σ, s.mp, s.sp, s.lk⟩ (z + σ) D := ⟨by show s.sz + σ = _; rw [h.sz], h.nd, h.sp, h.lk, h.at_⟩
    have e1 : σ * ((t :: l).length : Int) = σ + σ * (l.length : Int) := by
      rw [List.length_cons]; push_cast; rw [Int.mul_add]; omega
    by_cases hf : t.f < 0
    · have h1 := (h0.addV (-1 - t.f) σ).fold (σ := σ) (l := l)
      rw [addN_var hf]
      refine ⟨?_, h1.nd, h1.sp, h1.lk, fun v => ?_⟩
      · rw [h1.sz, e1]; omega
      · rw [h1.at_]
        have e2 : (vsL (t :: l)).count v = (if -1 - t.f = v then 1 else 0) + (vsL l).count v := by
          unfold vsL
          rw [List.filter_cons, if_pos (by simpa using hf), List.map_cons, List.count_cons]
          simp only [beq_iff_eq]
          omega
        rw [e2]
        split
        · push_cast; rw [Int.mul_add]; omega
        · push_cast; rw [Int.mul_add]; omega
    · have h1 := h0.fold (σ := σ) (l := l)
      rw [addN_sym hf]
      refine ⟨?_, h1.nd, h1.sp, h1.lk, fun v => ?_⟩
      · rw [h1.sz, e1]; omega
      · rw [h1.at_]
        have e2 : vsL (t :: l) = vsL l := by
          unfold vsL
          rw [List.filter_cons, if_neg (by simpa using hf)]
        rw [e2]
end Go.Proofs.YteegmcfobgpemaaGreat
namespace Go.Proofs.YteegmcfobgpemaaGreat
open Go.RowKit
set_option linter.unusedVariables false
set_option linter.unusedSimpArgs false
set_option maxRecDepth 100000
noncomputable def mrv (p : Int × Int) : CV := .row [.i p.1, .i p.2]
theorem mr_keysK (l : List (Int × Int)) : IntKeys .i64 (l.map mrv) := fun r hr => by
  obtain ⟨p, _, rfl⟩ := List.mem_map.1 hr
  exact ⟨p.1, .i p.2, rfl⟩
theorem mr_look (l : List (Int × Int)) (v : Int) : lookR .i64 v (l.map mrv) = (mfind l v).map CV.i := by
  induction l with
  | nil => rfl
  | cons p l ih =>
    obtain ⟨k, x⟩ := p
    rw [List.map_cons, mrv, lookR_row, mfind]
    split
    · rfl
    · exact ih
theorem mr_get (l : List (Int × Int)) (v : Int) : (lookR .i64 v (l.map mrv)).getD (.sc (.int .i64 0)) = .i (mget l v) := by
  rw [mr_look]
  unfold mget
  cases mfind l v <;> rfl
theorem mr_put (l : List (Int × Int)) (v y : Int) : putR .i64 v (.i y) (l.map mrv) = (mput l v y).map mrv := by
  induction l with
  | nil => rfl
  | cons p l ih =>
    obtain ⟨k, x⟩ := p
    rw [List.map_cons, mrv, putR_row, mput]
    split
    · rfl
    · rw [List.map_cons, ih]; rfl
noncomputable def mB (l : List (Int × Int)) : AV := ⟨if l = [] then 17 else 14, .lst (l.map mrv), 0, 0, []⟩
noncomputable abbrev sst (s : Sc) : AS := [(450001, .obj), (35500100, .val (.i s.sz)), (35500101, .mref 300001), (35500102, .val (.i s.sp)), (35500103, .val (.i s.lk)), (300001, mB s.mp)]
noncomputable abbrev sstN (z p k : Int) : AS := [(450001, .obj), (35500100, .val (.i z)), (35500101, .mref 300001), (35500102, .val (.i p)), (35500103, .val (.i k)), (300001, .nmap)]
noncomputable abbrev sstM (z : Int) (l : List (Int × Int)) (p k : Int) : AS := [(450001, .obj), (35500100, .val (.i z)), (35500101, .mref 300001), (35500102, .val (.i p)), (35500103, .val (.i k)), (300001, .mp (l.map mrv))]
theorem sst_N {s : Sc} (h : s.mp = []) : sst s = sstN s.sz s.sp s.lk := by simp only [sst, mB, h, if_true]; rfl
theorem sst_M {s : Sc} (h : s.mp ≠ []) : sst s = sstM s.sz s.mp s.sp s.lk := by simp only [sst, mB, if_neg h]
theorem sst_lend (s : Sc) : (sst s).all lendB = true := by
  by_cases h : s.mp = []
  · rw [sst_N h]; kernel_rfl
  · rw [sst_M h]; kernel_rfl
theorem sst_leave (s : Sc) : (sst s).all (leaveB (kO (sst s))) = true := by
  by_cases h : s.mp = []
  · rw [sst_N h]; kernel_rfl
  · rw [sst_M h]; kernel_rfl
structure Bds (s : Sc) (n : Nat) : Prop where
  sz : -(n : Int) ≤ s.sz ∧ s.sz ≤ n
  sp : -(n : Int) ≤ s.sp ∧ s.sp ≤ n
  lk : -(n : Int) ≤ s.lk ∧ s.lk ≤ n
  at_ : ∀ v, -(n : Int) ≤ mget s.mp v ∧ mget s.mp v ≤ n
theorem Bds.node {s : Sc} {n : Nat} {σ : Int} (h : Bds s n) (hσ : σ = 1 ∨ σ = -1) (t : Tm) : Bds (addN σ s t) (n + 1) := by
  obtain ⟨h1, h2, h3, h4⟩ := h
  unfold addN
  split
  · unfold addVk
    have := h4 (-1 - t.f)
    refine ⟨by show _ ≤ s.sz + σ ∧ s.sz + σ ≤ _; omega, by simp only; omega, by simp only; omega, fun v => ?_⟩
    simp only
    rw [mget_put]
    have := h4 v
    split <;> omega
  · exact ⟨by show _ ≤ s.sz + σ ∧ s.sz + σ ≤ _; omega, by simp only; omega, by simp only; omega, fun v => by have := h4 v; simp only; omega⟩
theorem Bds.fold {σ : Int} (hσ : σ = 1 ∨ σ = -1) : ∀ {l : List Tm} {s : Sc} {n : Nat}, Bds s n → Bds (l.foldl (addN σ) s) (n + l.length)
  | [], s, n, h => h
  | t :: l, s, n, h => by
    rw [List.foldl_cons, List.length_cons, show n + (l.length + 1) = n + 1 + l.length by omega]
    exact (h.node hσ t).fold hσ
theorem Bds.addL {σ : Int} (hσ : σ = 1 ∨ σ = -1) {l : List Tm} {s : Sc} {n : Nat} (h : Bds s n) : Bds (addL σ s l) (n + (l.flatMap Tm.flat).length) := h.fold hσ
theorem Bds.addT {σ : Int} (hσ : σ = 1 ∨ σ = -1) {t : Tm} {s : Sc} {n : Nat} (h : Bds s n) : Bds (addT σ s t) (n + t.size) := h.fold hσ

-- 
theorem kIsVar_abs (W : World) (t : Tm) : AFun Tryz.prog W 146 [t.cw] (.val (.b (decide (t.f < 0)))) := by
  refine afun_of (rs := [.b (decide (t.f < 0))]) Tryz.func146 Tryz.ntmps146 rfl rfl rfl rfl ?_
  intro w U hW
  refine aS (aR ?_)
  (refine nx (a_box (gN rfl) rfl rfl rfl rfl rfl) rfl ?_)
  (refine nx (aA (gN rfl) rfl rfl rfl rfl rfl) rfl ?_)
  show AWp _ _ _ _ _ _ _
  refine aS (aR ?_)
  (refine nx (aF (gN rfl) rfl rfl rfl rfl rfl rfl rfl rfl rfl) rfl ?_)
  (refine nx (aLb (gN rfl) rfl rfl rfl rfl rfl rfl rfl rfl rfl rfl rfl rfl) rfl ?_)
  (refine nx (a_lss (gN rfl) rfl rfl rfl rfl rfl rfl) rfl ?_)
  (refine nx (aA (gN rfl) rfl rfl rfl rfl rfl) rfl ?_)
  show AWp _ _ _ _ _ _ _
  exact aT ⟨.inr rfl, rfl⟩
-- 
theorem kNumber_abs (W : World) (t : Tm) (h1 : -9223372036854775808 ≤ t.f) (h2 : t.f < 0) : AFun Tryz.prog W 148 [t.cw] (.val (.i (-1 - t.f))) := by
  refine afun_of (rs := [.i (-1 - t.f)]) Tryz.func148 Tryz.ntmps148 rfl rfl rfl rfl ?_
  intro w U hW
  refine aS (aR ?_)
  (refine nx (a_box (gN rfl) rfl rfl rfl rfl rfl) rfl ?_)
  (refine nx (aA (gN rfl) rfl rfl rfl rfl rfl) rfl ?_)
  show AWp _ _ _ _ _ _ _
  refine aS (aR ?_)
  (refine nx (aF (gN rfl) rfl rfl rfl rfl rfl rfl rfl rfl rfl) rfl ?_)
  (refine nx (aLb (gN rfl) rfl rfl rfl rfl rfl rfl rfl rfl rfl rfl rfl rfl) rfl ?_)
  (refine nx (a_sub (gN rfl) rfl rfl rfl rfl rfl rfl (by first | omega | (simp only [List.length_map, List.length_append, List.length_cons, List.length_nil] <;> omega) | (simp <;> omega))) rfl ?_)
  (refine nx (aA (gN rfl) rfl rfl rfl rfl rfl) rfl ?_)
  show AWp _ _ _ _ _ _ _
  exact aT ⟨.inr rfl, rfl⟩
-- 
theorem kParts_abs (W : World) (t : Tm) : AFun Tryz.prog W 113 [t.cw] (.val (.lst (t.ps.map Tm.cv))) := by
  refine afun_of (rs := [.lst (t.ps.map Tm.cv)]) Tryz.func113 Tryz.ntmps113 rfl rfl rfl rfl ?_
  intro w U hW
  refine aS (aR ?_)
  (refine nx (a_box (gN rfl) rfl rfl rfl rfl rfl) rfl ?_)
  (refine nx (aA (gN rfl) rfl rfl rfl rfl rfl) rfl ?_)
  show AWp _ _ _ _ _ _ _
  refine aS (aS (aR ?_))
  (refine nx (aL (gN rfl) rfl rfl rfl rfl rfl rfl rfl rfl rfl rfl rfl rfl) rfl ?_)
  (refine nx (a_call (gN rfl) rfl rfl rfl rfl rfl (kIsVar_abs w t)) rfl ?_)
  show AWp _ _ _ _ _ _ _
  refine aC rfl (fun hc => ?_) (fun hc => ?_)
  · have hf : t.f < 0 := by simpa using hc
    rw [Tm.ps_of_var hf]
    refine aS (aR ?_)
    (refine nx (aA (gN rfl) rfl rfl rfl rfl rfl) rfl ?_)
    show AWp _ _ _ _ _ _ _
    exact aT ⟨.inr rfl, rfl⟩
  · have hf : ¬ t.f < 0 := by simpa using hc
    rw [Tm.ps_of_sym (by omega)]
    refine aK ?_
    show AWp _ _ _ _ _ _ _
    refine aS (aR ?_)
    (refine nx (aF (gN rfl) rfl rfl rfl rfl rfl rfl rfl rfl rfl) rfl ?_)
    (refine nx (aLb (gN rfl) rfl rfl rfl rfl rfl rfl rfl rfl rfl rfl rfl rfl) rfl ?_)
    (refine nx (aA (gN rfl) rfl rfl rfl rfl rfl) rfl ?_)
    show AWp _ _ _ _ _ _ _
    exact aT ⟨.inr rfl, rfl⟩
-- 
theorem kAddVarN_abs (s : Sc) (n : Nat) (hb : Bds s n) (hn : n ≤ 1000000000000) (v σ : Int) (hσ : σ = 1 ∨ σ = -1) (hm : s.mp = []) : AFunO Tryz.prog 147 (sstN s.sz s.sp s.lk) [.bp 350001 0 [], .val (.i v), .val (.i σ)] (.tup []) (sstM s.sz (addVk s v σ).mp (addVk s v σ).sp (addVk s v σ).lk) := by
  have hb2 := hb.sp
  have hb3 := hb.lk
  have hb4 := hb.at_ v
  have hg : mget [] v = mget s.mp v := by rw [hm]
  obtain ⟨was, hwas⟩ : ∃ was, was = mget s.mp v := ⟨_, rfl⟩
  rw [← hwas] at hb4
  refine afunO_of Tryz.func147 Tryz.ntmps147 rfl rfl rfl rfl rfl rfl ?_
  intro w U hU
  refine aS (aS (aR ?_))
  (refine nx (aM (gN rfl) rfl rfl rfl rfl rfl) rfl ?_)
  (refine nx (aNc (gN rfl) rfl rfl rfl rfl rfl) rfl ?_)
  (refine nx (aF (gN rfl) rfl rfl rfl rfl rfl rfl rfl rfl rfl) rfl ?_)
  (refine nx (aLf (gN rfl) rfl rfl rfl rfl rfl rfl rfl rfl rfl rfl rfl rfl rfl) rfl ?_)
  (refine nx (a_mref_isnil (gN rfl) rfl rfl rfl rfl rfl rfl rfl) rfl ?_)
  show AWp _ _ _ _ _ _ _
  refine aC rfl (fun hc => ?_) (fun hc => by cases hc)
  refine aR ?_
  (refine nx (aM (gN rfl) rfl rfl rfl rfl rfl) rfl ?_)
  (refine nx (a_mkmap 300002 (gN rfl) rfl rfl rfl rfl rfl) (by kernel_rfl) ?_)
  (refine nx (aNc (gN rfl) rfl rfl rfl rfl rfl) rfl ?_)
  (refine nx (aF (gN rfl) rfl rfl rfl rfl rfl rfl rfl rfl rfl) rfl ?_)
  (refine nx (a_store_fld (gN rfl) rfl rfl rfl rfl rfl rfl rfl rfl rfl rfl rfl rfl) rfl ?_)
  show AWp _ _ _ _ _ _ _
  refine aS (aR ?_)
  (refine nx (aM (gN rfl) rfl rfl rfl rfl rfl) rfl ?_)
  (refine nx (aNc (gN rfl) rfl rfl rfl rfl rfl) rfl ?_)
  (refine nx (aF (gN rfl) rfl rfl rfl rfl rfl rfl rfl rfl rfl) rfl ?_)
  (refine nx (aLf (gN rfl) rfl rfl rfl rfl rfl rfl rfl rfl rfl rfl rfl rfl rfl) rfl ?_)
  (refine nx (aM (gN rfl) rfl rfl rfl rfl rfl) rfl ?_)
  (refine nx (a_lookup1 (gN rfl) rfl rfl rfl rfl rfl rfl rfl rfl rfl rfl rfl ( mr_keysK [])) rfl ?_)
  (refine nx (aA (gN rfl) rfl rfl rfl rfl rfl) rfl ?_)
  show AWp _ _ _ _ _ _ _
  refine AWp.wk (wk_sub (s' := [(0, AV.bp 350001 0 []), (1, .val (.i v)), (2, .val (.i σ)), (6, .val (.i was)), (450001, .obj), (35500100, .val (.i s.sz)), (35500101, .mref 300002), (35500102, .val (.i s.sp)), (35500103, .val (.i s.lk)), (300002, .mp (([] : List (Int × Int)).map mrv))]) ⟨rfl, rfl, rfl, ?_, rfl, rfl, rfl, rfl, rfl, rfl, trivial⟩) ?_
  · rw [hwas, ← hg]; rfl
  refine aS (aR ?_)
  (refine nx (aM (gN rfl) rfl rfl rfl rfl rfl) rfl ?_)
  (refine nx (aM (gN rfl) rfl rfl rfl rfl rfl) rfl ?_)
  (refine nx (a_add (gN rfl) rfl rfl rfl rfl rfl rfl (by first | omega | (simp only [List.length_map, List.length_append, List.length_cons, List.length_nil] <;> omega) | (simp <;> omega))) rfl ?_)
  (refine nx (aA (gN rfl) rfl rfl rfl rfl rfl) rfl ?_)
  show AWp _ _ _ _ _ _ _
  refine aS (aR ?_)
  (refine nx (aM (gN rfl) rfl rfl rfl rfl rfl) rfl ?_)
  (refine nx (aNc (gN rfl) rfl rfl rfl rfl rfl) rfl ?_)
  (refine nx (aF (gN rfl) rfl rfl rfl rfl rfl rfl rfl rfl rfl) rfl ?_)
  (refine nx (aLf (gN rfl) rfl rfl rfl rfl rfl rfl rfl rfl rfl rfl rfl rfl rfl) rfl ?_)
  (refine nx (aM (gN rfl) rfl rfl rfl rfl rfl) rfl ?_)
  (refine nx (aM (gN rfl) rfl rfl rfl rfl rfl) rfl ?_)
  (refine nx (a_mapup (gN rfl) rfl rfl rfl rfl rfl rfl rfl rfl (mr_keysK [])) rfl ?_)
  show AWp _ _ _ _ _ _ _
  refine aS (aR ?_)
  (refine nx (aM (gN rfl) rfl rfl rfl rfl rfl) rfl ?_)
  (refine nx (aNc (gN rfl) rfl rfl rfl rfl rfl) rfl ?_)
  (refine nx (aF (gN rfl) rfl rfl rfl rfl rfl rfl rfl rfl rfl) rfl ?_)
  (refine nx (aLf (gN rfl) rfl rfl rfl rfl rfl rfl rfl rfl rfl rfl rfl rfl rfl) rfl ?_)
  (refine nx (aM (gN rfl) rfl rfl rfl rfl rfl) rfl ?_)
  (refine nx (a_max (gN rfl) rfl rfl rfl rfl rfl rfl) rfl ?_)
  (refine nx (aM (gN rfl) rfl rfl rfl rfl rfl) rfl ?_)
  (refine nx (a_max (gN rfl) rfl rfl rfl rfl rfl rfl) rfl ?_)
  (refine nx (a_sub (gN rfl) rfl rfl rfl rfl rfl rfl (by first | omega | (simp only [List.length_map, List.length_append, List.length_cons, List.length_nil] <;> omega) | (simp <;> omega))) rfl ?_)
  (refine nx (a_add (gN rfl) rfl rfl rfl rfl rfl rfl (by first | omega | (simp only [List.length_map, List.length_append, List.length_cons, List.length_nil] <;> omega) | (simp <;> omega))) rfl ?_)
  (refine nx (aNc (gN rfl) rfl rfl rfl rfl rfl) rfl ?_)
  (refine nx (aF (gN rfl) rfl rfl rfl rfl rfl rfl rfl rfl rfl) rfl ?_)
  (refine nx (a_store_fld (gN rfl) rfl rfl rfl rfl rfl rfl rfl rfl rfl rfl rfl rfl) rfl ?_)
  show AWp _ _ _ _ _ _ _
  refine aR ?_
  (refine nx (aM (gN rfl) rfl rfl rfl rfl rfl) rfl ?_)
  (refine nx (aNc (gN rfl) rfl rfl rfl rfl rfl) rfl ?_)
  (refine nx (aF (gN rfl) rfl rfl rfl rfl rfl rfl rfl rfl rfl) rfl ?_)
  (refine nx (aLf (gN rfl) rfl rfl rfl rfl rfl rfl rfl rfl rfl rfl rfl rfl rfl) rfl ?_)
  (refine nx (aM (gN rfl) rfl rfl rfl rfl rfl) rfl ?_)
  (refine nx (a_neg (gN rfl) rfl rfl rfl rfl rfl (by first | omega | (constructor <;> omega))) rfl ?_)
  (refine nx (a_max (gN rfl) rfl rfl rfl rfl rfl rfl) rfl ?_)
  (refine nx (aM (gN rfl) rfl rfl rfl rfl rfl) rfl ?_)
  (refine nx (a_neg (gN rfl) rfl rfl rfl rfl rfl (by first | omega | (constructor <;> omega))) rfl ?_)
  (refine nx (a_max (gN rfl) rfl rfl rfl rfl rfl rfl) rfl ?_)
  (refine nx (a_sub (gN rfl) rfl rfl rfl rfl rfl rfl (by first | omega | (simp only [List.length_map, List.length_append, List.length_cons, List.length_nil] <;> omega) | (simp <;> omega))) rfl ?_)
  (refine nx (a_add (gN rfl) rfl rfl rfl rfl rfl rfl (by first | omega | (simp only [List.length_map, List.length_append, List.length_cons, List.length_nil] <;> omega) | (simp <;> omega))) rfl ?_)
  (refine nx (aNc (gN rfl) rfl rfl rfl rfl rfl) rfl ?_)
  (refine nx (aF (gN rfl) rfl rfl rfl rfl rfl rfl rfl rfl rfl) rfl ?_)
  (refine nx (a_store_fld (gN rfl) rfl rfl rfl rfl rfl rfl rfl rfl rfl rfl rfl rfl) rfl ?_)
  refine ⟨.inl rfl, _, (wk_sub (s' := [(450001, .obj), (35500100, .val (.i s.sz)), (35500101, .mref 300002), (35500102, .val (.i (addVk s v σ).sp)), (35500103, .val (.i (addVk s v σ).lk)), (300002, .mp ((addVk s v σ).mp.map mrv))]) ⟨rfl, rfl, rfl, ?_, ?_, ?_, trivial⟩).trans (wk_ren 300002 300001 rfl rfl (by kernel_rfl) (by kernel_rfl)), rfl, rfl, rfl, rfl, rfl, rfl, rfl, trivial⟩
  · unfold addVk; rw [← hwas]; rfl
  · unfold addVk; rw [← hwas]; rfl
  · unfold addVk
    simp only
    rw [← hwas, hm, ← mr_put]
    rfl
-- 
theorem kAddVarM_abs (s : Sc) (n : Nat) (hb : Bds s n) (hn : n ≤ 1000000000000) (v σ : Int) (hσ : σ = 1 ∨ σ = -1) : AFunO Tryz.prog 147 (sstM s.sz s.mp s.sp s.lk) [.bp 350001 0 [], .val (.i v), .val (.i σ)] (.tup []) (sstM s.sz (addVk s v σ).mp (addVk s v σ).sp (addVk s v σ).lk) := by
  have hb2 := hb.sp
  have hb3 := hb.lk
  have hb4 := hb.at_ v
  obtain ⟨was, hwas⟩ : ∃ was, was = mget s.mp v := ⟨_, rfl⟩
  rw [← hwas] at hb4
  refine afunO_of Tryz.func147 Tryz.ntmps147 rfl rfl rfl rfl rfl rfl ?_
  intro w U hU
  refine aS (aS (aR ?_))
  (refine nx (aM (gN rfl) rfl rfl rfl rfl rfl) rfl ?_)
  (refine nx (aNc (gN rfl) rfl rfl rfl rfl rfl) rfl ?_)
  (refine nx (aF (gN rfl) rfl rfl rfl rfl rfl rfl rfl rfl rfl) rfl ?_)
  (refine nx (aLf (gN rfl) rfl rfl rfl rfl rfl rfl rfl rfl rfl rfl rfl rfl rfl) rfl ?_)
  (refine nx (a_mref_nil (gN rfl) rfl rfl rfl rfl rfl rfl rfl) rfl ?_)
  show AWp _ _ _ _ _ _ _
  refine aC rfl (fun hc => by cases hc) (fun hc => ?_)
  refine aK ?_
  show AWp _ _ _ _ _ _ _
  refine aS (aR ?_)
  (refine nx (aM (gN rfl) rfl rfl rfl rfl rfl) rfl ?_)
  (refine nx (aNc (gN rfl) rfl rfl rfl rfl rfl) rfl ?_)
  (refine nx (aF (gN rfl) rfl rfl rfl rfl rfl rfl rfl rfl rfl) rfl ?_)
  (refine nx (aLf (gN rfl) rfl rfl rfl rfl rfl rfl rfl rfl rfl rfl rfl rfl rfl) rfl ?_)
  (refine nx (aM (gN rfl) rfl rfl rfl rfl rfl) rfl ?_)
  (refine nx (a_lookup1 (gN rfl) rfl rfl rfl rfl rfl rfl rfl rfl rfl rfl rfl ( mr_keysK _)) rfl ?_)
  (refine nx (aA (gN rfl) rfl rfl rfl rfl rfl) rfl ?_)
  show AWp _ _ _ _ _ _ _
  refine AWp.wk (wk_sub (s' := [(0, AV.bp 350001 0 []), (1, .val (.i v)), (2, .val (.i σ)), (6, .val (.i was)), (450001, .obj), (35500100, .val (.i s.sz)), (35500101, .mref 300001), (35500102, .val (.i s.sp)), (35500103, .val (.i s.lk)), (300001, .mp (s.mp.map mrv))]) ⟨rfl, rfl, rfl, ?_, rfl, rfl, rfl, rfl, rfl, rfl, trivial⟩) ?_
  · rw [hwas, ← mr_get]; rfl
  refine aS (aR ?_)
  (refine nx (aM (gN rfl) rfl rfl rfl rfl rfl) rfl ?_)
  (refine nx (aM (gN rfl) rfl rfl rfl rfl rfl) rfl ?_)
  (refine nx (a_add (gN rfl) rfl rfl rfl rfl rfl rfl (by first | omega | (simp only [List.length_map, List.length_append, List.length_cons, List.length_nil] <;> omega) | (simp <;> omega))) rfl ?_)
  (refine nx (aA (gN rfl) rfl rfl rfl rfl rfl) rfl ?_)
  show AWp _ _ _ _ _ _ _
  refine aS (aR ?_)
  (refine nx (aM (gN rfl) rfl rfl rfl rfl rfl) rfl ?_)
  (refine nx (aNc (gN rfl) rfl rfl rfl rfl rfl) rfl ?_)
  (refine nx (aF (gN rfl) rfl rfl rfl rfl rfl rfl rfl rfl rfl) rfl ?_)
  (refine nx (aLf (gN rfl) rfl rfl rfl rfl rfl rfl rfl rfl rfl rfl rfl rfl rfl) rfl ?_)
  (refine nx (aM (gN rfl) rfl rfl rfl rfl rfl) rfl ?_)
  (refine nx (aM (gN rfl) rfl rfl rfl rfl rfl) rfl ?_)
  (refine nx (a_mapup (gN rfl) rfl rfl rfl rfl rfl rfl rfl rfl (mr_keysK _)) rfl ?_)
  show AWp _ _ _ _ _ _ _
  refine aS (aR ?_)
  (refine nx (aM (gN rfl) rfl rfl rfl rfl rfl) rfl ?_)
  (refine nx (aNc (gN rfl) rfl rfl rfl rfl rfl) rfl ?_)
  (refine nx (aF (gN rfl) rfl rfl rfl rfl rfl rfl rfl rfl rfl) rfl ?_)
  (refine nx (aLf (gN rfl) rfl rfl rfl rfl rfl rfl rfl rfl rfl rfl rfl rfl rfl) rfl ?_)
  (refine nx (aM (gN rfl) rfl rfl rfl rfl rfl) rfl ?_)
  (refine nx (a_max (gN rfl) rfl rfl rfl rfl rfl rfl) rfl ?_)
  (refine nx (aM (gN rfl) rfl rfl rfl rfl rfl) rfl ?_)
  (refine nx (a_max (gN rfl) rfl rfl rfl rfl rfl rfl) rfl ?_)
  (refine nx (a_sub (gN rfl) rfl rfl rfl rfl rfl rfl (by first | omega | (simp only [List.length_map, List.length_append, List.length_cons, List.length_nil] <;> omega) | (simp <;> omega))) rfl ?_)
  (refine nx (a_add (gN rfl) rfl rfl rfl rfl rfl rfl (by first | omega | (simp only [List.length_map, List.length_append, List.length_cons, List.length_nil] <;> omega) | (simp <;> omega))) rfl ?_)
  (refine nx (aNc (gN rfl) rfl rfl rfl rfl rfl) rfl ?_)
  (refine nx (aF (gN rfl) rfl rfl rfl rfl rfl rfl rfl rfl rfl) rfl ?_)
  (refine nx (a_store_fld (gN rfl) rfl rfl rfl rfl rfl rfl rfl rfl rfl rfl rfl rfl) rfl ?_)
  show AWp _ _ _ _ _ _ _
  refine aR ?_
  (refine nx (aM (gN rfl) rfl rfl rfl rfl rfl) rfl ?_)
  (refine nx (aNc (gN rfl) rfl rfl rfl rfl rfl) rfl ?_)
  (refine nx (aF (gN rfl) rfl rfl rfl rfl rfl rfl rfl rfl rfl) rfl ?_)
  (refine nx (aLf (gN rfl) rfl rfl rfl rfl rfl rfl rfl rfl rfl rfl rfl rfl rfl) rfl ?_)
  (refine nx (aM (gN rfl) rfl rfl rfl rfl rfl) rfl ?_)
  (refine nx (a_neg (gN rfl) rfl rfl rfl rfl rfl (by first | omega | (constructor <;> omega))) rfl ?_)
  (refine nx (a_max (gN rfl) rfl rfl rfl rfl rfl rfl) rfl ?_)
  (refine nx (aM (gN rfl) rfl rfl rfl rfl rfl) rfl ?_)
  (refine nx (a_neg (gN rfl) rfl rfl rfl rfl rfl (by first | omega | (constructor <;> omega))) rfl ?_)
  (refine nx (a_max (gN rfl) rfl rfl rfl rfl rfl rfl) rfl ?_)
  (refine nx (a_sub (gN rfl) rfl rfl rfl rfl rfl rfl (by first | omega | (simp only [List.length_map, List.length_append, List.length_cons, List.length_nil] <;> omega) | (simp <;> omega))) rfl ?_)
  (refine nx (a_add (gN rfl) rfl rfl rfl rfl rfl rfl (by first | omega | (simp only [List.length_map, List.length_append, List.length_cons, List.length_nil] <;> omega) | (simp <;> omega))) rfl ?_)
  (refine nx (aNc (gN rfl) rfl rfl rfl rfl rfl) rfl ?_)
  (refine nx (aF (gN rfl) rfl rfl rfl rfl rfl rfl rfl rfl rfl) rfl ?_)
  (refine nx (a_store_fld (gN rfl) rfl rfl rfl rfl rfl rfl rfl rfl rfl rfl rfl rfl) rfl ?_)
  refine ⟨.inl rfl, _, (wk_sub (s' := sstM s.sz (addVk s v σ).mp (addVk s v σ).sp (addVk s v σ).lk) ⟨rfl, rfl, rfl, ?_, ?_, ?_, trivial⟩), rfl, rfl, rfl, rfl, rfl, rfl, rfl, trivial⟩
  · unfold addVk; rw [← hwas]; rfl
  · unfold addVk; rw [← hwas]; rfl
  · unfold addVk
    simp only
    rw [← hwas, ← mr_put]
    rfl
theorem kAddVar_abs (s : Sc) (n : Nat) (hb : Bds s n) (hn : n ≤ 1000000000000) (v σ : Int) (hσ : σ = 1 ∨ σ = -1) : AFunO Tryz.prog 147 (sst s) [.bp 350001 0 [], .val (.i v), .val (.i σ)] (.tup []) (sst (addVk s v σ)) := by
  rw [sst_M (s := addVk s v σ) (mput_ne _ _ _)]
  by_cases h : s.mp = []
  · rw [sst_N h]; exact kAddVarN_abs s n hb hn v σ hσ h
  · rw [sst_M h]; exact kAddVarM_abs s n hb hn v σ hσ
def KAdd (σ : Int) (t : Tm) : Prop := ∀ (s : Sc) (n : Nat), Bds s n → n + t.size ≤ 1000000000000 → AFunO Tryz.prog 114 (sst s) [.bp 350001 0 [], .val t.cw, .val (.i σ)] (.tup []) (sst (addT σ s t))
-- 
theorem kAddAll_of (σ : Int) (hσ : σ = 1 ∨ σ = -1) (l : List Tm) (hl : l.length ≤ 1000000000000) (ih : ∀ t ∈ l, KAdd σ t) (s : Sc) (n : Nat) (hb : Bds s n) (hn : n + (l.flatMap Tm.flat).length ≤ 1000000000000) : AFunO Tryz.prog 117 (sst s) [.bp 350001 0 [], .val (.lst (l.map Tm.cv)), .val (.i σ)] (.tup []) (sst (addL σ s l)) := by
  have hsz := Tm.size_all l
  refine afunO_of Tryz.func117 Tryz.ntmps117 rfl rfl rfl rfl rfl rfl ?_
  intro w U hU
  refine aS (aR ?_)
  (refine nx (aM (gN rfl) rfl rfl rfl rfl rfl) rfl ?_)
  (refine nx (a_len (gN rfl) rfl rfl rfl rfl rfl rfl rfl) rfl ?_)
  (refine nx (aM (gN rfl) rfl rfl rfl rfl rfl) rfl ?_)
  show AWp _ _ _ _ _ _ _
  refine aB (awp_count l.length (fun k => (0, .bp 350001 0 []) :: (2, .val (.i σ)) :: (8, .val (.lst (l.map Tm.cv))) :: (9, .val (.i (l.map Tm.cv).length)) :: (10, .val (.i k)) :: sst (addL σ s (l.take k))) (wk_sub ⟨rfl, rfl, rfl, rfl, rfl, rfl, rfl, rfl, rfl, rfl, rfl, trivial⟩) ?_)
  intro k hk
  refine aS (aR ?_)
  (refine nx (a_lss (gN rfl) rfl rfl rfl rfl rfl rfl) rfl ?_)
  show AWp _ _ _ _ _ _ _
  refine aS (aC rfl (fun hlt => ?_) (fun hlt => ?_))
  · have hkl : k < l.length := by simpa using hlt
    obtain ⟨x, hx⟩ : ∃ x, l[k]? = some x := ⟨l[k], List.getElem?_eq_getElem hkl⟩
    have hx' := Tm.map_at hx
    have hxm := List.mem_of_getElem? hx
    obtain ⟨sk, hsk⟩ : ∃ sk, sk = addL σ s (l.take k) := ⟨_, rfl⟩
    have hbk : Bds sk (n + ((l.take k).flatMap Tm.flat).length) := by rw [hsk]; exact hb.addL hσ
    have hnk : n + ((l.take k).flatMap Tm.flat).length + x.size ≤ 1000000000000 := by
      have h2 : (l.flatMap Tm.flat).length = ((l.take k).flatMap Tm.flat).length + ((l.drop k).flatMap Tm.flat).length := by
        conv => lhs; rw [← List.take_append_drop k l]
        rw [List.flatMap_append, List.length_append]
      have h3 : x.flat.length ≤ ((l.drop k).flatMap Tm.flat).length := flatMap_len_mem Tm.flat (List.mem_of_getElem? (i := 0) (by rw [List.getElem?_drop]; simpa using hx))
      unfold Tm.size
      omega
    have hstep := addL_take (σ := σ) (s := s) hx
    rw [← hsk] at hstep
    rw [← hsk]
    refine aK ?_
    show AWp _ _ _ _ _ _ _
    refine aS (aB (aS (aR ?_)))
    (refine nx (a_index (j := k) (gN rfl) rfl rfl rfl rfl rfl rfl rfl rfl rfl (hx') rfl (hsz)) rfl ?_)
    (refine nx (a_load_ad (gN rfl) rfl rfl rfl rfl rfl rfl rfl rfl rfl) rfl ?_)
    (refine nx (a_alloc (gN rfl) rfl rfl rfl rfl rfl rfl rfl rfl rfl rfl) (by kernel_rfl) ?_)
    (refine nx (aSt (gN rfl) rfl rfl rfl rfl rfl rfl rfl rfl rfl rfl) rfl ?_)
    show AWp _ _ _ _ _ _ _
    refine aR ?_
    (refine nx (aM (gN rfl) rfl rfl rfl rfl rfl) rfl ?_)
    (refine nx (aL (gN rfl) rfl rfl rfl rfl rfl rfl rfl rfl rfl rfl rfl rfl) rfl ?_)
    (refine nx (aM (gN rfl) rfl rfl rfl rfl rfl) rfl ?_)
    (refine nx (a_callO (gN rfl) rfl rfl rfl rfl rfl (ih x hxm sk _ hbk hnk) (by repeat (first | exact trivial | refine ⟨rfl, ?_⟩)) (sst_lend _) (sst_leave _) (by first | rfl | kernel_rfl) (by first | rfl | kernel_rfl) (hnb_of (by first | rfl | kernel_rfl))) rfl ?_)
    show AWp _ _ _ _ _ _ _
    refine aR ?_
    (refine nx (a_add (gN rfl) rfl rfl rfl rfl rfl rfl (by first | omega | (simp only [List.length_map, List.length_append, List.length_cons, List.length_nil] <;> omega) | (simp <;> omega))) rfl ?_)
    (refine nx (aM (gN rfl) rfl rfl rfl rfl rfl) rfl ?_)
    refine ⟨hkl, wk_sub ⟨rfl, rfl, rfl, rfl, rfl, rfl, ?_, rfl, ?_, ?_, ?_, trivial⟩⟩
    all_goals (rw [hstep]; rfl)
  · have hkl : k = l.length := by
      have : ¬ k < l.length := by simpa using hlt
      omega
    subst hkl
    rw [List.take_length]
    refine aE ?_
    exact ⟨.inl rfl, _, Wk.refl _, rfl, rfl, rfl, rfl, rfl, rfl, rfl, trivial⟩
-- 
theorem kAdd_abs (σ : Int) (hσ : σ = 1 ∨ σ = -1) : ∀ t : Tm, t.rng → t.ok → KAdd σ t := by
  intro t
  induction t using Tm.ind with
  | h f l ih =>
  intro hr hok s n hb hn
  have hok := (Tm.ok_iff _).1 hok
  have hr := (Tm.rng_iff _).1 hr
  simp only at hok hr
  have hb1 := hb.sz
  have hsp := Tm.size_pos ⟨f, l⟩
  refine afunO_of Tryz.func114 Tryz.ntmps114 rfl rfl rfl rfl rfl rfl ?_
  intro w U hU
  refine aS (aR ?_)
  (refine nx (a_box (gN rfl) rfl rfl rfl rfl rfl) (by kernel_rfl) ?_)
  show AWp _ _ _ _ _ _ _
  refine aS (aR ?_)
  (refine nx (aM (gN rfl) rfl rfl rfl rfl rfl) rfl ?_)
  (refine nx (aNc (gN rfl) rfl rfl rfl rfl rfl) rfl ?_)
  (refine nx (aF (gN rfl) rfl rfl rfl rfl rfl rfl rfl rfl rfl) rfl ?_)
  (refine nx (aLf (gN rfl) rfl rfl rfl rfl rfl rfl rfl rfl rfl rfl rfl rfl rfl) rfl ?_)
  (refine nx (aM (gN rfl) rfl rfl rfl rfl rfl) rfl ?_)
  (refine nx (a_add (gN rfl) rfl rfl rfl rfl rfl rfl (by first | omega | (simp only [List.length_map, List.length_append, List.length_cons, List.length_nil] <;> omega) | (simp <;> omega))) rfl ?_)
  (refine nx (aNc (gN rfl) rfl rfl rfl rfl rfl) rfl ?_)
  (refine nx (aF (gN rfl) rfl rfl rfl rfl rfl rfl rfl rfl rfl) rfl ?_)
  (refine nx (a_store_fld (gN rfl) rfl rfl rfl rfl rfl rfl rfl rfl rfl rfl rfl rfl) rfl ?_)
  show AWp _ _ _ _ _ _ _
  obtain ⟨s1, hs1⟩ : ∃ s1 : Sc, s1 = ⟨s.sz + σ, s.mp, s.sp, s.lk⟩ := ⟨_, rfl⟩
  have hb' : Bds s1 (n + 1) := by
    obtain ⟨b1, b2, b3, b4⟩ := hb
    rw [hs1]
    exact ⟨by show _ ≤ s.sz + σ ∧ s.sz + σ ≤ _; omega, by simp only; omega, by simp only; omega, fun v => by have := b4 v; simp only; omega⟩
  refine AWp.wk (wk_sub (s' := (0, AV.bp 350001 0 []) :: (2, .val (.i σ)) :: (4, .bp 4 0 []) :: (100004, .bx (Tm.cw ⟨f, l⟩)) :: sst s1) ⟨rfl, rfl, rfl, rfl, rfl, ?_, rfl, ?_, ?_, ?_, trivial⟩) ?_
  · rw [hs1]; rfl
  · rw [hs1]; rfl
  · rw [hs1]; rfl
  · rw [hs1]; rfl
  refine aS (aS (aR ?_))
  (refine nx (aL (gN rfl) rfl rfl rfl rfl rfl rfl rfl rfl rfl rfl rfl rfl) rfl ?_)
  (refine nx (a_call (gN rfl) rfl rfl rfl rfl rfl (kIsVar_abs w ⟨f, l⟩)) rfl ?_)
  show AWp _ _ _ _ _ _ _
  refine aC rfl (fun hc => ?_) (fun hc => ?_)
  · have hf : f < 0 := by simpa using hc
    rw [addT_var (t := ⟨f, l⟩) hf, ← hs1]
    refine aS (aR ?_)
    (refine nx (aM (gN rfl) rfl rfl rfl rfl rfl) rfl ?_)
    (refine nx (aL (gN rfl) rfl rfl rfl rfl rfl rfl rfl rfl rfl rfl rfl rfl) rfl ?_)
    (refine nx (a_call (gN rfl) rfl rfl rfl rfl rfl (kNumber_abs w ⟨f, l⟩ hr.1.1 hf)) rfl ?_)
    (refine nx (aM (gN rfl) rfl rfl rfl rfl rfl) rfl ?_)
    (refine nx (a_callO (gN rfl) rfl rfl rfl rfl rfl (kAddVar_abs s1 (n + 1) hb' (by omega) (-1 - f) σ hσ) (by repeat (first | exact trivial | refine ⟨rfl, ?_⟩)) (sst_lend _) (sst_leave _) (by first | rfl | kernel_rfl) (by first | rfl | kernel_rfl) (hnb_of (by first | rfl | kernel_rfl))) rfl ?_)
    show AWp _ _ _ _ _ _ _
    exact aT ⟨.inr rfl, _, Wk.refl _, rfl, rfl, rfl, rfl, rfl, rfl, rfl, trivial⟩
  · have hf : ¬ f < 0 := by simpa using hc
    rw [addT_sym (t := ⟨f, l⟩) hf, ← hs1]
    have hse := Tm.size_eq ⟨f, l⟩
    rw [Tm.ps_of_sym (t := ⟨f, l⟩) (by show 0 ≤ f; omega)] at hse
    simp only at hse
    have hlen := Tm.len_ps ⟨f, l⟩
    rw [Tm.ps_of_sym (t := ⟨f, l⟩) (by show 0 ≤ f; omega)] at hlen
    simp only at hlen
    refine aK ?_
    show AWp _ _ _ _ _ _ _
    refine aR ?_
    (refine nx (aM (gN rfl) rfl rfl rfl rfl rfl) rfl ?_)
    (refine nx (aF (gN rfl) rfl rfl rfl rfl rfl rfl rfl rfl rfl) rfl ?_)
    (refine nx (aLb (gN rfl) rfl rfl rfl rfl rfl rfl rfl rfl rfl rfl rfl rfl) rfl ?_)
    (refine nx (aM (gN rfl) rfl rfl rfl rfl rfl) rfl ?_)
    (refine nx (a_callO (gN rfl) rfl rfl rfl rfl rfl (kAddAll_of σ hσ l (by omega) (fun t ht => ih t ht (hr.2 t ht) (hok.2 t ht)) s1 (n + 1) hb' (by omega)) (by repeat (first | exact trivial | refine ⟨rfl, ?_⟩)) (sst_lend _) (sst_leave _) (by first | rfl | kernel_rfl) (by first | rfl | kernel_rfl) (hnb_of (by first | rfl | kernel_rfl))) rfl ?_)
    exact ⟨.inl rfl, _, Wk.refl _, rfl, rfl, rfl, rfl, rfl, rfl, rfl, trivial⟩
theorem kAddAll_abs (σ : Int) (hσ : σ = 1 ∨ σ = -1) (l : List Tm) (hl : l.length ≤ 1000000000000) (hr : ∀ t ∈ l, t.rng ∧ t.ok) (s : Sc) (n : Nat) (hb : Bds s n) (hn : n + (l.flatMap Tm.flat).length ≤ 1000000000000) : AFunO Tryz.prog 117 (sst s) [.bp 350001 0 [], .val (.lst (l.map Tm.cv)), .val (.i σ)] (.tup []) (sst (addL σ s l)) :=
  kAddAll_of σ hσ l hl (fun t ht => kAdd_abs σ hσ t (hr t ht).1 (hr t ht).2) s n hb hn

def ordS (s : Sc) (w : Int) : Int := if s.sz ≠ 0 then cmpZ s.sz 0 else w
def vdS (s : Sc) (w : Int) : Int := if (ordS s w = 1 ∧ 0 < s.lk) ∨ (ordS s w = -1 ∧ 0 < s.sp) then 2 else ordS s w
-- 
theorem kVerdict_abs (s : Sc) (x : Int) : AFunO Tryz.prog 115 (sst s) [.bp 350001 0 [], .val (.i x)] (.val (.i (vdS s x))) (sst s) := by
  refine afunO_of Tryz.func115 Tryz.ntmps115 rfl rfl rfl rfl rfl rfl ?_
  intro w U hU
  refine aS (aR ?_)
  (refine nx (aA (gN rfl) rfl rfl rfl rfl rfl) rfl ?_)
  show AWp _ _ _ _ _ _ _
  refine aS (aR ?_)
  (refine nx (aM (gN rfl) rfl rfl rfl rfl rfl) rfl ?_)
  (refine nx (aA (gN rfl) rfl rfl rfl rfl rfl) rfl ?_)
  show AWp _ _ _ _ _ _ _
  refine awp_mid ((0, AV.bp 350001 0 []) :: (5, .val (.i (ordS s x))) :: sst s) ?_ ?_
  · unfold ordS
    refine aS (aR ?_)
    (refine nx (aM (gN rfl) rfl rfl rfl rfl rfl) rfl ?_)
    (refine nx (aNc (gN rfl) rfl rfl rfl rfl rfl) rfl ?_)
    (refine nx (aF (gN rfl) rfl rfl rfl rfl rfl rfl rfl rfl rfl) rfl ?_)
    (refine nx (aLf (gN rfl) rfl rfl rfl rfl rfl rfl rfl rfl rfl rfl rfl rfl rfl) rfl ?_)
    (refine nx (a_neq (gN rfl) rfl rfl rfl rfl rfl rfl) rfl ?_)
    show AWp _ _ _ _ _ _ _
    refine aC rfl (fun hc => ?_) (fun hc => ?_)
    · have h : s.sz ≠ 0 := by simpa using hc
      rw [if_pos h]
      refine aR ?_
      (refine nx (aM (gN rfl) rfl rfl rfl rfl rfl) rfl ?_)
      (refine nx (aNc (gN rfl) rfl rfl rfl rfl rfl) rfl ?_)
      (refine nx (aF (gN rfl) rfl rfl rfl rfl rfl rfl rfl rfl rfl) rfl ?_)
      (refine nx (aLf (gN rfl) rfl rfl rfl rfl rfl rfl rfl rfl rfl rfl rfl rfl rfl) rfl ?_)
      (refine nx (a_call (gN rfl) rfl rfl rfl rfl rfl (cmp_abs w s.sz 0)) rfl ?_)
      (refine nx (aA (gN rfl) rfl rfl rfl rfl rfl) rfl ?_)
      exact wk_sub ⟨rfl, rfl, rfl, rfl, rfl, rfl, rfl, rfl, trivial⟩
    · have h : ¬ s.sz ≠ 0 := by simpa using hc
      rw [if_neg h]
      refine aK ?_
      exact wk_sub ⟨rfl, rfl, rfl, rfl, rfl, rfl, rfl, rfl, trivial⟩
  unfold vdS
  generalize ordS s x = o
  by_cases h1 : o = 1
  · subst h1
    by_cases h2 : 0 < s.lk
    · have g : decide (s.lk > 0) = true := by simpa using h2
      rw [if_pos (.inl ⟨rfl, h2⟩)]
      refine aS (aS (aR ?_))
      (refine nx (aM (gN rfl) rfl rfl rfl rfl rfl) rfl ?_)
      (refine nx (a_eql (gN rfl) rfl rfl rfl rfl rfl rfl) rfl ?_)
      (refine nx (aM (gN rfl) rfl rfl rfl rfl rfl) rfl ?_)
      (refine nx (aM (gd_on rfl rfl rfl rfl (by first | rfl | assumption | (simp; done))) rfl rfl rfl rfl rfl) rfl ?_)
      (refine nx (aNc (gd_on rfl rfl rfl rfl (by first | rfl | assumption | (simp; done))) rfl rfl rfl rfl rfl) rfl ?_)
      (refine nx (aF (gd_on rfl rfl rfl rfl (by first | rfl | assumption | (simp; done))) rfl rfl rfl rfl rfl rfl rfl rfl rfl) rfl ?_)
      (refine nx (aLf (gd_on rfl rfl rfl rfl (by first | rfl | assumption | (simp; done))) rfl rfl rfl rfl rfl rfl rfl rfl rfl rfl rfl rfl rfl) rfl ?_)
      (refine nx (a_gtr (gd_on rfl rfl rfl rfl (by first | rfl | assumption | (simp; done))) rfl rfl rfl rfl rfl rfl) rfl ?_)
      (refine ⟨_, _, _, aPt (gN rfl) rfl rfl rfl rfl rfl ?hb rfl, rfl, ?_⟩; case hb => (first | rfl | assumption | (simp; done)))
      (refine nx (aM (gN rfl) rfl rfl rfl rfl rfl) rfl ?_)
      (refine ⟨_, _, _, a_offt (go_off rfl rfl rfl rfl (by first | rfl | assumption | (simp; done) | (simp [*]; done))) rfl rfl rfl, rfl, ?_⟩)
      (refine ⟨_, _, _, a_offt (go_off rfl rfl rfl rfl (by first | rfl | assumption | (simp; done) | (simp [*]; done))) rfl rfl rfl, rfl, ?_⟩)
      (refine ⟨_, _, _, a_offt (go_off rfl rfl rfl rfl (by first | rfl | assumption | (simp; done) | (simp [*]; done))) rfl rfl rfl, rfl, ?_⟩)
      (refine ⟨_, _, _, a_offt (go_off_t rfl rfl rfl rfl) rfl rfl rfl, rfl, ?_⟩)
      (refine ⟨_, _, _, a_offt (go_off_t rfl rfl rfl rfl) rfl rfl rfl, rfl, ?_⟩)
      (refine ⟨_, _, _, a_offt (go_off_t rfl rfl rfl rfl) rfl rfl rfl, rfl, ?_⟩)
      (refine ⟨_, _, _, a_offt (go_off_t rfl rfl rfl rfl) rfl rfl rfl, rfl, ?_⟩)
      (refine ⟨_, _, _, a_offt (go_off_t rfl rfl rfl rfl) rfl rfl rfl, rfl, ?_⟩)
      (refine ⟨_, _, _, a_offt (go_off rfl rfl rfl rfl (by first | rfl | assumption | (simp; done) | (simp [*]; done))) rfl rfl rfl, rfl, ?_⟩)
      (refine ⟨_, _, _, aPt (gN rfl) rfl rfl rfl rfl rfl ?hb rfl, rfl, ?_⟩; case hb => (first | rfl | assumption | (simp; done)))
      show AWp _ _ _ _ _ _ _
      refine aC rfl (fun hc => ?_) (fun hc => by cases hc)
      refine aS (aR ?_)
      (refine nx (aA (gN rfl) rfl rfl rfl rfl rfl) rfl ?_)
      show AWp _ _ _ _ _ _ _
      exact aT ⟨.inr rfl, _, Wk.refl _, rfl, rfl, rfl, rfl, rfl, rfl, rfl, trivial⟩
    · have g : decide (s.lk > 0) = false := by simpa using h2
      rw [if_neg (by omega)]
      refine aS (aS (aR ?_))
      (refine nx (aM (gN rfl) rfl rfl rfl rfl rfl) rfl ?_)
      (refine nx (a_eql (gN rfl) rfl rfl rfl rfl rfl rfl) rfl ?_)
      (refine nx (aM (gN rfl) rfl rfl rfl rfl rfl) rfl ?_)
      (refine nx (aM (gd_on rfl rfl rfl rfl (by first | rfl | assumption | (simp; done))) rfl rfl rfl rfl rfl) rfl ?_)
      (refine nx (aNc (gd_on rfl rfl rfl rfl (by first | rfl | assumption | (simp; done))) rfl rfl rfl rfl rfl) rfl ?_)
      (refine nx (aF (gd_on rfl rfl rfl rfl (by first | rfl | assumption | (simp; done))) rfl rfl rfl rfl rfl rfl rfl rfl rfl) rfl ?_)
      (refine nx (aLf (gd_on rfl rfl rfl rfl (by first | rfl | assumption | (simp; done))) rfl rfl rfl rfl rfl rfl rfl rfl rfl rfl rfl rfl rfl) rfl ?_)
      (refine nx (a_gtr (gd_on rfl rfl rfl rfl (by first | rfl | assumption | (simp; done))) rfl rfl rfl rfl rfl rfl) rfl ?_)
      (refine ⟨_, _, _, aPt (gN rfl) rfl rfl rfl rfl rfl ?hb rfl, rfl, ?_⟩; case hb => (first | rfl | assumption | (simp; done)))
      (refine nx (aM (gN rfl) rfl rfl rfl rfl rfl) rfl ?_)
      (refine nx (aM (gd_on rfl rfl rfl rfl (by first | rfl | assumption | (simp; done))) rfl rfl rfl rfl rfl) rfl ?_)
      (refine nx (a_eql (gd_on rfl rfl rfl rfl (by first | rfl | assumption | (simp; done))) rfl rfl rfl rfl rfl rfl) rfl ?_)
      (refine nx (aM (gd_on rfl rfl rfl rfl (by first | rfl | assumption | (simp; done))) rfl rfl rfl rfl rfl) rfl ?_)
      (refine ⟨_, _, _, a_offt (go_off rfl rfl rfl rfl (by first | rfl | assumption | (simp; done) | (simp [*]; done))) rfl rfl rfl, rfl, ?_⟩)
      (refine ⟨_, _, _, a_offt (go_off rfl rfl rfl rfl (by first | rfl | assumption | (simp; done) | (simp [*]; done))) rfl rfl rfl, rfl, ?_⟩)
      (refine ⟨_, _, _, a_offt (go_off rfl rfl rfl rfl (by first | rfl | assumption | (simp; done) | (simp [*]; done))) rfl rfl rfl, rfl, ?_⟩)
      (refine ⟨_, _, _, a_offt (go_off rfl rfl rfl rfl (by first | rfl | assumption | (simp; done) | (simp [*]; done))) rfl rfl rfl, rfl, ?_⟩)
      (refine ⟨_, _, _, a_offt (go_off rfl rfl rfl rfl (by first | rfl | assumption | (simp; done) | (simp [*]; done))) rfl rfl rfl, rfl, ?_⟩)
      (refine ⟨_, _, _, aPf (gd_on rfl rfl rfl rfl (by first | rfl | assumption | (simp; done))) rfl rfl rfl rfl rfl ?hb rfl, rfl, ?_⟩; case hb => (first | rfl | assumption | (simp; done)))
      (refine ⟨_, _, _, aPf (gN rfl) rfl rfl rfl rfl rfl ?hb rfl, rfl, ?_⟩; case hb => (first | rfl | assumption | (simp; done)))
      show AWp _ _ _ _ _ _ _
      refine aC rfl (fun hc => by cases hc) (fun hc => aK ?_)
      show AWp _ _ _ _ _ _ _
      refine aS (aR ?_)
      (refine nx (aM (gN rfl) rfl rfl rfl rfl rfl) rfl ?_)
      (refine nx (aA (gN rfl) rfl rfl rfl rfl rfl) rfl ?_)
      show AWp _ _ _ _ _ _ _
      exact aT ⟨.inr rfl, _, Wk.refl _, rfl, rfl, rfl, rfl, rfl, rfl, rfl, trivial⟩
  · have g1 : decide (o = 1) = false := by simpa using h1
    by_cases h2 : o = -1
    · subst h2
      by_cases h3 : 0 < s.sp
      · have g : decide (s.sp > 0) = true := by simpa using h3
        rw [if_pos (.inr ⟨rfl, h3⟩)]
        refine aS (aS (aR ?_))
        (refine nx (aM (gN rfl) rfl rfl rfl rfl rfl) rfl ?_)
        (refine nx (a_eql (gN rfl) rfl rfl rfl rfl rfl rfl) rfl ?_)
        (refine nx (aM (gN rfl) rfl rfl rfl rfl rfl) rfl ?_)
        (refine ⟨_, _, _, a_offt (go_off rfl rfl rfl rfl (by first | rfl | assumption | (simp; done) | (simp [*]; done))) rfl rfl rfl, rfl, ?_⟩)
        (refine ⟨_, _, _, a_offt (go_off rfl rfl rfl rfl (by first | rfl | assumption | (simp; done) | (simp [*]; done))) rfl rfl rfl, rfl, ?_⟩)
        (refine ⟨_, _, _, a_offt (go_off rfl rfl rfl rfl (by first | rfl | assumption | (simp; done) | (simp [*]; done))) rfl rfl rfl, rfl, ?_⟩)
        (refine ⟨_, _, _, a_offt (go_off rfl rfl rfl rfl (by first | rfl | assumption | (simp; done) | (simp [*]; done))) rfl rfl rfl, rfl, ?_⟩)
        (refine ⟨_, _, _, a_offt (go_off rfl rfl rfl rfl (by first | rfl | assumption | (simp; done) | (simp [*]; done))) rfl rfl rfl, rfl, ?_⟩)
        (refine ⟨_, _, _, aPf (gN rfl) rfl rfl rfl rfl rfl ?hb rfl, rfl, ?_⟩; case hb => (first | rfl | assumption | (simp; done)))
        (refine nx (aM (gN rfl) rfl rfl rfl rfl rfl) rfl ?_)
        (refine nx (aM (gd_on rfl rfl rfl rfl (by first | rfl | assumption | (simp; done))) rfl rfl rfl rfl rfl) rfl ?_)
        (refine nx (a_eql (gd_on rfl rfl rfl rfl (by first | rfl | assumption | (simp; done))) rfl rfl rfl rfl rfl rfl) rfl ?_)
        (refine nx (aM (gd_on rfl rfl rfl rfl (by first | rfl | assumption | (simp; done))) rfl rfl rfl rfl rfl) rfl ?_)
        (refine nx (aM (gd_on rfl rfl rfl rfl (by first | rfl | assumption | (simp; done))) rfl rfl rfl rfl rfl) rfl ?_)
        (refine nx (aNc (gd_on rfl rfl rfl rfl (by first | rfl | assumption | (simp; done))) rfl rfl rfl rfl rfl) rfl ?_)
        (refine nx (aF (gd_on rfl rfl rfl rfl (by first | rfl | assumption | (simp; done))) rfl rfl rfl rfl rfl rfl rfl rfl rfl) rfl ?_)
        (refine nx (aLf (gd_on rfl rfl rfl rfl (by first | rfl | assumption | (simp; done))) rfl rfl rfl rfl rfl rfl rfl rfl rfl rfl rfl rfl rfl) rfl ?_)
        (refine nx (a_gtr (gd_on rfl rfl rfl rfl (by first | rfl | assumption | (simp; done))) rfl rfl rfl rfl rfl rfl) rfl ?_)
        (refine ⟨_, _, _, aPt (gd_on rfl rfl rfl rfl (by first | rfl | assumption | (simp; done))) rfl rfl rfl rfl rfl ?hb rfl, rfl, ?_⟩; case hb => (first | rfl | assumption | (simp; done)))
        (refine ⟨_, _, _, aPf (gN rfl) rfl rfl rfl rfl rfl ?hb rfl, rfl, ?_⟩; case hb => (first | rfl | assumption | (simp; done)))
        show AWp _ _ _ _ _ _ _
        refine aC rfl (fun hc => ?_) (fun hc => by rw [g] at hc; cases hc)
        refine aS (aR ?_)
        (refine nx (aA (gN rfl) rfl rfl rfl rfl rfl) rfl ?_)
        show AWp _ _ _ _ _ _ _
        exact aT ⟨.inr rfl, _, Wk.refl _, rfl, rfl, rfl, rfl, rfl, rfl, rfl, trivial⟩
      · have g : decide (s.sp > 0) = false := by simpa using h3
        rw [if_neg (by omega)]
        refine aS (aS (aR ?_))
        (refine nx (aM (gN rfl) rfl rfl rfl rfl rfl) rfl ?_)
        (refine nx (a_eql (gN rfl) rfl rfl rfl rfl rfl rfl) rfl ?_)
        (refine nx (aM (gN rfl) rfl rfl rfl rfl rfl) rfl ?_)
        (refine ⟨_, _, _, a_offt (go_off rfl rfl rfl rfl (by first | rfl | assumption | (simp; done) | (simp [*]; done))) rfl rfl rfl, rfl, ?_⟩)
        (refine ⟨_, _, _, a_offt (go_off rfl rfl rfl rfl (by first | rfl | assumption | (simp; done) | (simp [*]; done))) rfl rfl rfl, rfl, ?_⟩)
        (refine ⟨_, _, _, a_offt (go_off rfl rfl rfl rfl (by first | rfl | assumption | (simp; done) | (simp [*]; done))) rfl rfl rfl, rfl, ?_⟩)
        (refine ⟨_, _, _, a_offt (go_off rfl rfl rfl rfl (by first | rfl | assumption | (simp; done) | (simp [*]; done))) rfl rfl rfl, rfl, ?_⟩)
        (refine ⟨_, _, _, a_offt (go_off rfl rfl rfl rfl (by first | rfl | assumption | (simp; done) | (simp [*]; done))) rfl rfl rfl, rfl, ?_⟩)
        (refine ⟨_, _, _, aPf (gN rfl) rfl rfl rfl rfl rfl ?hb rfl, rfl, ?_⟩; case hb => (first | rfl | assumption | (simp; done)))
        (refine nx (aM (gN rfl) rfl rfl rfl rfl rfl) rfl ?_)
        (refine nx (aM (gd_on rfl rfl rfl rfl (by first | rfl | assumption | (simp; done))) rfl rfl rfl rfl rfl) rfl ?_)
        (refine nx (a_eql (gd_on rfl rfl rfl rfl (by first | rfl | assumption | (simp; done))) rfl rfl rfl rfl rfl rfl) rfl ?_)
        (refine nx (aM (gd_on rfl rfl rfl rfl (by first | rfl | assumption | (simp; done))) rfl rfl rfl rfl rfl) rfl ?_)
        (refine nx (aM (gd_on rfl rfl rfl rfl (by first | rfl | assumption | (simp; done))) rfl rfl rfl rfl rfl) rfl ?_)
        (refine nx (aNc (gd_on rfl rfl rfl rfl (by first | rfl | assumption | (simp; done))) rfl rfl rfl rfl rfl) rfl ?_)
        (refine nx (aF (gd_on rfl rfl rfl rfl (by first | rfl | assumption | (simp; done))) rfl rfl rfl rfl rfl rfl rfl rfl rfl) rfl ?_)
        (refine nx (aLf (gd_on rfl rfl rfl rfl (by first | rfl | assumption | (simp; done))) rfl rfl rfl rfl rfl rfl rfl rfl rfl rfl rfl rfl rfl) rfl ?_)
        (refine nx (a_gtr (gd_on rfl rfl rfl rfl (by first | rfl | assumption | (simp; done))) rfl rfl rfl rfl rfl rfl) rfl ?_)
        (refine ⟨_, _, _, aPt (gd_on rfl rfl rfl rfl (by first | rfl | assumption | (simp; done))) rfl rfl rfl rfl rfl ?hb rfl, rfl, ?_⟩; case hb => (first | rfl | assumption | (simp; done)))
        (refine ⟨_, _, _, aPf (gN rfl) rfl rfl rfl rfl rfl ?hb rfl, rfl, ?_⟩; case hb => (first | rfl | assumption | (simp; done)))
        show AWp _ _ _ _ _ _ _
        refine aC rfl (fun hc => by rw [g] at hc; cases hc) (fun hc => aK ?_)
        show AWp _ _ _ _ _ _ _
        refine aS (aR ?_)
        (refine nx (aM (gN rfl) rfl rfl rfl rfl rfl) rfl ?_)
        (refine nx (aA (gN rfl) rfl rfl rfl rfl rfl) rfl ?_)
        show AWp _ _ _ _ _ _ _
        exact aT ⟨.inr rfl, _, Wk.refl _, rfl, rfl, rfl, rfl, rfl, rfl, rfl, trivial⟩
    · have g2 : decide (o = -1) = false := by simpa using h2
      rw [if_neg (by omega)]
      refine aS (aS (aR ?_))
      (refine nx (aM (gN rfl) rfl rfl rfl rfl rfl) rfl ?_)
      (refine nx (a_eql (gN rfl) rfl rfl rfl rfl rfl rfl) rfl ?_)
      (refine nx (aM (gN rfl) rfl rfl rfl rfl rfl) rfl ?_)
      (refine ⟨_, _, _, a_offt (go_off rfl rfl rfl rfl (by first | rfl | assumption | (simp; done) | (simp [*]; done))) rfl rfl rfl, rfl, ?_⟩)
      (refine ⟨_, _, _, a_offt (go_off rfl rfl rfl rfl (by first | rfl | assumption | (simp; done) | (simp [*]; done))) rfl rfl rfl, rfl, ?_⟩)
      (refine ⟨_, _, _, a_offt (go_off rfl rfl rfl rfl (by first | rfl | assumption | (simp; done) | (simp [*]; done))) rfl rfl rfl, rfl, ?_⟩)
      (refine ⟨_, _, _, a_offt (go_off rfl rfl rfl rfl (by first | rfl | assumption | (simp; done) | (simp [*]; done))) rfl rfl rfl, rfl, ?_⟩)
      (refine ⟨_, _, _, a_offt (go_off rfl rfl rfl rfl (by first | rfl | assumption | (simp; done) | (simp [*]; done))) rfl rfl rfl, rfl, ?_⟩)
      (refine ⟨_, _, _, aPf (gN rfl) rfl rfl rfl rfl rfl ?hb rfl, rfl, ?_⟩; case hb => (first | rfl | assumption | (simp; done)))
      (refine nx (aM (gN rfl) rfl rfl rfl rfl rfl) rfl ?_)
      (refine nx (aM (gd_on rfl rfl rfl rfl (by first | rfl | assumption | (simp; done))) rfl rfl rfl rfl rfl) rfl ?_)
      (refine nx (a_eql (gd_on rfl rfl rfl rfl (by first | rfl | assumption | (simp; done))) rfl rfl rfl rfl rfl rfl) rfl ?_)
      (refine nx (aM (gd_on rfl rfl rfl rfl (by first | rfl | assumption | (simp; done))) rfl rfl rfl rfl rfl) rfl ?_)
      (refine ⟨_, _, _, a_offt (go_off rfl rfl rfl rfl (by first | rfl | assumption | (simp; done) | (simp [*]; done))) rfl rfl rfl, rfl, ?_⟩)
      (refine ⟨_, _, _, a_offt (go_off rfl rfl rfl rfl (by first | rfl | assumption | (simp; done) | (simp [*]; done))) rfl rfl rfl, rfl, ?_⟩)
      (refine ⟨_, _, _, a_offt (go_off rfl rfl rfl rfl (by first | rfl | assumption | (simp; done) | (simp [*]; done))) rfl rfl rfl, rfl, ?_⟩)
      (refine ⟨_, _, _, a_offt (go_off rfl rfl rfl rfl (by first | rfl | assumption | (simp; done) | (simp [*]; done))) rfl rfl rfl, rfl, ?_⟩)
      (refine ⟨_, _, _, a_offt (go_off rfl rfl rfl rfl (by first | rfl | assumption | (simp; done) | (simp [*]; done))) rfl rfl rfl, rfl, ?_⟩)
      (refine ⟨_, _, _, aPf (gd_on rfl rfl rfl rfl (by first | rfl | assumption | (simp; done))) rfl rfl rfl rfl rfl ?hb rfl, rfl, ?_⟩; case hb => (first | rfl | assumption | (simp; done)))
      (refine ⟨_, _, _, aPf (gN rfl) rfl rfl rfl rfl rfl ?hb rfl, rfl, ?_⟩; case hb => (first | rfl | assumption | (simp; done)))
      show AWp _ _ _ _ _ _ _
      refine aC rfl (fun hc => by cases hc) (fun hc => aK ?_)
      show AWp _ _ _ _ _ _ _
      refine aS (aR ?_)
      (refine nx (aM (gN rfl) rfl rfl rfl rfl rfl) rfl ?_)
      (refine nx (aA (gN rfl) rfl rfl rfl rfl rfl) rfl ?_)
      show AWp _ _ _ _ _ _ _
      exact aT ⟨.inr rfl, _, Wk.refl _, rfl, rfl, rfl, rfl, rfl, rfl, rfl, trivial⟩
def orL : List Int → Int
  | [] => 0
  | x :: l => if x ≠ 0 then x else orL l
theorem orL_at : ∀ {l : List Int} {k : Nat} {x : Int}, l[k]? = some x → x ≠ 0 → (∀ j y, j < k → l[j]? = some y → y = 0) → orL l = x
  | [], k, x, h, _, _ => by simp at h
  | y :: l, 0, x, h, hx, _ => by
    simp at h
    subst h
    rw [orL, if_pos hx]
  | y :: l, k + 1, x, h, hx, hi => by
    rw [orL, if_neg (by have := hi 0 y (by omega) rfl; omega)]
    exact orL_at (by simpa using h) hx fun j z hj hz => hi (j + 1) z (by omega) (by simpa using hz)
theorem orL_none : ∀ {l : List Int}, (∀ x ∈ l, x = 0) → orL l = 0
  | [], _ => rfl
  | x :: l, h => by
    rw [orL, if_neg (by have := h x (by simp); omega)]
    exact orL_none fun y hy => h y (List.mem_cons_of_mem _ hy)
-- 
theorem cOr_abs (W : World) (l : List Int) (hl : l.length ≤ 1000000000) : AFun Tryz.prog W 149 [.lst (l.map CV.i)] (.val (.i (orL l))) := by
  have hsz := ints_size l
  refine afun_of (rs := [.i (orL l)]) Tryz.func149 Tryz.ntmps149 rfl rfl rfl rfl ?_
  intro w U hW
  refine aS (aR ?_)
  (refine nx (aA (gN rfl) rfl rfl rfl rfl rfl) rfl ?_)
  show AWp _ _ _ _ _ _ _
  refine aS (aR ?_)
  (refine nx (aA (gN rfl) rfl rfl rfl rfl rfl) rfl ?_)
  show AWp _ _ _ _ _ _ _
  refine aS (aS (aR ?_))
  (refine nx (aM (gN rfl) rfl rfl rfl rfl rfl) rfl ?_)
  (refine nx (a_len (gN rfl) rfl rfl rfl rfl rfl rfl rfl) rfl ?_)
  (refine nx (aM (gN rfl) rfl rfl rfl rfl rfl) rfl ?_)
  show AWp _ _ _ _ _ _ _
  refine aB (awp_countI l.length (fun k => ∀ j y, j < k → l[j]? = some y → y = 0) (fun k => [(3, .val (.i 0)), (6, .val (.lst (l.map CV.i))), (7, .val (.i (l.map CV.i).length)), (8, .val (.i k))]) (wk_sub ⟨rfl, rfl, rfl, rfl, trivial⟩) (fun j c hj => by omega) ?_)
  intro k hk hI
  refine aS (aR ?_)
  (refine nx (a_lss (gN rfl) rfl rfl rfl rfl rfl rfl) rfl ?_)
  show AWp _ _ _ _ _ _ _
  refine aS (aC rfl (fun hlt => ?_) (fun hlt => ?_))
  · have hkl : k < l.length := by simpa using hlt
    obtain ⟨x, hx⟩ : ∃ x, l[k]? = some x := ⟨l[k], List.getElem?_eq_getElem hkl⟩
    have hx' : (l.map CV.i)[k]? = some (CV.i x) := by rw [List.getElem?_map, hx]; rfl
    refine aK ?_
    show AWp _ _ _ _ _ _ _
    refine aS (aB (aS (aR ?_)))
    (refine nx (a_index (j := k) (gN rfl) rfl rfl rfl rfl rfl rfl rfl rfl rfl (hx') rfl (hsz)) rfl ?_)
    (refine nx (a_load_ad (gN rfl) rfl rfl rfl rfl rfl rfl rfl rfl rfl) rfl ?_)
    (refine nx (aA (gN rfl) rfl rfl rfl rfl rfl) rfl ?_)
    show AWp _ _ _ _ _ _ _
    refine aS (aR ?_)
    (refine nx (aM (gN rfl) rfl rfl rfl rfl rfl) rfl ?_)
    (refine nx (aM (gN rfl) rfl rfl rfl rfl rfl) rfl ?_)
    (refine nx (a_neq (gN rfl) rfl rfl rfl rfl rfl rfl) rfl ?_)
    show AWp _ _ _ _ _ _ _
    refine aC rfl (fun hq => ?_) (fun hq => ?_)
    · have hq : x ≠ 0 := by simpa using hq
      refine aS (aR ?_)
      (refine nx (aM (gN rfl) rfl rfl rfl rfl rfl) rfl ?_)
      (refine nx (aA (gN rfl) rfl rfl rfl rfl rfl) rfl ?_)
      show AWp _ _ _ _ _ _ _
      rw [orL_at hx hq hI]
      exact aT ⟨.inr rfl, rfl⟩
    · have hq : x = 0 := by simpa using hq
      refine aK ?_
      show AWp _ _ _ _ _ _ _
      refine aR ?_
      (refine nx (a_add (gN rfl) rfl rfl rfl rfl rfl rfl (by first | omega | (simp only [List.length_map, List.length_append, List.length_cons, List.length_nil] <;> omega) | (simp <;> omega))) rfl ?_)
      (refine nx (aM (gN rfl) rfl rfl rfl rfl rfl) rfl ?_)
      refine ⟨hkl, fun j c hj hc => ?_, wk_sub ⟨rfl, rfl, rfl, rfl, trivial⟩⟩
      rcases Nat.lt_or_ge j k with h | h
      · exact hI j c h hc
      · have : j = k := by omega
        subst this
        rw [hx] at hc
        cases hc
        exact hq
  · have hkl : ¬ k < l.length := by simpa using hlt
    rw [orL_none (l := l) fun x hx => ?_]
    · refine aE ?_
      show AWp _ _ _ _ _ _ _
      refine aS (aR ?_)
      (refine nx (aM (gN rfl) rfl rfl rfl rfl rfl) rfl ?_)
      (refine nx (aA (gN rfl) rfl rfl rfl rfl rfl) rfl ?_)
      show AWp _ _ _ _ _ _ _
      exact aT ⟨.inr rfl, rfl⟩
    · obtain ⟨j, hj⟩ := List.getElem?_of_mem hx
      have hjl : j < l.length := by
        rcases Nat.lt_or_ge j l.length with h | h
        · exact h
        · rw [List.getElem?_eq_none h] at hj; cases hj
      exact hI j x (by omega) hj
theorem hd_or {a b : Tm} (h : ¬ (a.f < 0 ∨ b.f < 0)) : hdK a b = orL [cmpZ a.f b.f, cmpZ a.l.length b.l.length] := by
  unfold hdK
  rw [if_neg h]
  simp only [orL]
  rcases cmpZ_cases a.f b.f with h1 | h1 | h1
  · rw [if_pos (by omega), if_pos (by omega)]
  · rw [if_neg (by omega), if_neg (by omega)]
    split
    · rfl
    · omega
  · rw [if_pos (by omega), if_pos (by omega)]
-- 
theorem kHeads_abs (W : World) (a b : Tm) : AFun Tryz.prog W 116 [a.cw, b.cw] (.val (.i (hdK a b))) := by
  refine afun_of (rs := [.i (hdK a b)]) Tryz.func116 Tryz.ntmps116 rfl rfl rfl rfl ?_
  intro w U hW
  refine aS (aR ?_)
  (refine nx (a_box (gN rfl) rfl rfl rfl rfl rfl) rfl ?_)
  (refine nx (a_box (gN rfl) rfl rfl rfl rfl rfl) rfl ?_)
  (refine nx (aA (gN rfl) rfl rfl rfl rfl rfl) rfl ?_)
  show AWp _ _ _ _ _ _ _
  by_cases ha : a.f < 0
  · have g : decide (a.f < 0) = true := by simpa using ha
    refine aS (aS (aR ?_))
    (refine nx (aL (gN rfl) rfl rfl rfl rfl rfl rfl rfl rfl rfl rfl rfl rfl) rfl ?_)
    (refine nx (a_call (gN rfl) rfl rfl rfl rfl rfl (kIsVar_abs w a)) rfl ?_)
    (refine nx (aM (gN rfl) rfl rfl rfl rfl rfl) rfl ?_)
    (refine ⟨_, _, _, a_off (go_off rfl rfl rfl rfl (by first | rfl | assumption | (simp; done) | (simp [*]; done))) rfl rfl rfl, rfl, ?_⟩)
    (refine ⟨_, _, _, a_off (go_off rfl rfl rfl rfl (by first | rfl | assumption | (simp; done) | (simp [*]; done))) rfl rfl rfl, rfl, ?_⟩)
    (refine ⟨_, _, _, aPt (gN rfl) rfl rfl rfl rfl rfl ?hb rfl, rfl, ?_⟩; case hb => (first | rfl | assumption | (simp; done)))
    show AWp _ _ _ _ _ _ _
    refine aC rfl (fun hc => ?_) (fun hc => by cases hc)
    unfold hdK
    rw [if_pos (.inl ha)]
    refine aS (aR ?_)
    (refine nx (aA (gN rfl) rfl rfl rfl rfl rfl) rfl ?_)
    show AWp _ _ _ _ _ _ _
    exact aT ⟨.inr rfl, rfl⟩
  have g : decide (a.f < 0) = false := by simpa using ha
  refine aS (aS (aR ?_))
  (refine nx (aL (gN rfl) rfl rfl rfl rfl rfl rfl rfl rfl rfl rfl rfl rfl) rfl ?_)
  (refine nx (a_call (gN rfl) rfl rfl rfl rfl rfl (kIsVar_abs w a)) rfl ?_)
  (refine nx (aM (gN rfl) rfl rfl rfl rfl rfl) rfl ?_)
  (refine nx (aL (gd_on rfl rfl rfl rfl (by first | rfl | assumption | (simp; done))) rfl rfl rfl rfl rfl rfl rfl rfl rfl rfl rfl rfl) rfl ?_)
  (refine nx (a_call (gd_on rfl rfl rfl rfl (by first | rfl | assumption | (simp; done))) rfl rfl rfl rfl rfl (kIsVar_abs w b)) rfl ?_)
  (refine ⟨_, _, _, aPf (gN rfl) rfl rfl rfl rfl rfl ?hb rfl, rfl, ?_⟩; case hb => (first | rfl | assumption | (simp; done)))
  show AWp _ _ _ _ _ _ _
  refine aC rfl (fun hc => ?_) (fun hc => ?_)
  · have hb : b.f < 0 := by simpa using hc
    unfold hdK
    rw [if_pos (.inr hb)]
    refine aS (aR ?_)
    (refine nx (aA (gN rfl) rfl rfl rfl rfl rfl) rfl ?_)
    show AWp _ _ _ _ _ _ _
    exact aT ⟨.inr rfl, rfl⟩
  · have hb : ¬ b.f < 0 := by simpa using hc
    rw [hd_or (by omega)]
    have e1 : (a.l.map Tm.cv).length = a.l.length := List.length_map ..
    have e2 : (b.l.map Tm.cv).length = b.l.length := List.length_map ..
    refine aK ?_
    show AWp _ _ _ _ _ _ _
    refine aS (aD (by kernel_rfl) (by kernel_rfl) ?_)
    (refine nx (aF (gN rfl) rfl rfl rfl rfl rfl rfl rfl rfl rfl) rfl ?_)
    (refine nx (aLb (gN rfl) rfl rfl rfl rfl rfl rfl rfl rfl rfl rfl rfl rfl) rfl ?_)
    (refine nx (aF (gN rfl) rfl rfl rfl rfl rfl rfl rfl rfl rfl) rfl ?_)
    (refine nx (aLb (gN rfl) rfl rfl rfl rfl rfl rfl rfl rfl rfl rfl rfl rfl) rfl ?_)
    (refine nx (a_call (gN rfl) rfl rfl rfl rfl rfl (cmp_abs w a.f b.f)) rfl ?_)
    (refine nx (aF (gN rfl) rfl rfl rfl rfl rfl rfl rfl rfl rfl) rfl ?_)
    (refine nx (aLb (gN rfl) rfl rfl rfl rfl rfl rfl rfl rfl rfl rfl rfl rfl) rfl ?_)
    (refine nx (a_len (gN rfl) rfl rfl rfl rfl rfl rfl rfl) rfl ?_)
    (refine nx (aF (gN rfl) rfl rfl rfl rfl rfl rfl rfl rfl rfl) rfl ?_)
    (refine nx (aLb (gN rfl) rfl rfl rfl rfl rfl rfl rfl rfl rfl rfl rfl rfl) rfl ?_)
    (refine nx (a_len (gN rfl) rfl rfl rfl rfl rfl rfl rfl) rfl ?_)
    (refine nx (a_call (gN rfl) rfl rfl rfl rfl rfl (cmp_abs w _ _)) rfl ?_)
    (refine nx (a_bslice (gN rfl) rfl rfl rfl rfl rfl rfl rfl rfl rfl rfl rfl rfl rfl) rfl ?_)
    (refine nx (a_call (gN rfl) rfl rfl rfl rfl rfl (cOr_abs w [_, _] (by simp))) rfl ?_)
    (refine nx (aA (gN rfl) rfl rfl rfl rfl rfl) rfl ?_)
    refine ⟨by kernel_rfl, ?_⟩
    show AWp _ _ _ _ _ _ _
    rw [e1, e2]
    exact aT ⟨.inr rfl, rfl⟩
def emp : Sc := ⟨0, [], 0, 0⟩
noncomputable def restS (c : Int) (s : Sc) (l m : List Tm) (r : Sc) : Sc := if c ≠ 0 then addL (-1) (addL 1 s l) m else r
noncomputable def scS (p : Tm) : Tm → Sc :=
  Tm.rec (motive_1 := fun _ => Tm → Sc) (motive_2 := fun _ => List Tm → Sc)
    (fun f l ih t => if f ≠ t.f ∨ (Tm.mk f l).ps.length ≠ t.ps.length then addT (-1) (addT 1 emp ⟨f, l⟩) t else if f < 0 then emp else ih t.l)
    (fun _ => emp)
    (fun x l ih1 ih2 ts => match ts with | [] => emp | t :: ts => restS (kb x t) (ih1 t) l ts (ih2 ts)) p
noncomputable def scs (ps : List Tm) : List Tm → Sc :=
  Tm.rec_1 (motive_1 := fun _ => Tm → Sc) (motive_2 := fun _ => List Tm → Sc)
    (fun f l ih t => if f ≠ t.f ∨ (Tm.mk f l).ps.length ≠ t.ps.length then addT (-1) (addT 1 emp ⟨f, l⟩) t else if f < 0 then emp else ih t.l)
    (fun _ => emp)
    (fun x l ih1 ih2 ts => match ts with | [] => emp | t :: ts => restS (kb x t) (ih1 t) l ts (ih2 ts)) ps
theorem scs_nil (m : List Tm) : scs [] m = emp := rfl
theorem scs_cons (x : Tm) (l : List Tm) (y : Tm) (m : List Tm) : scs (x :: l) (y :: m) = restS (kb x y) (scS x y) l m (scs l m) := rfl
theorem scS_ne {a b : Tm} (h : a.f ≠ b.f ∨ a.ps.length ≠ b.ps.length) : scS a b = addT (-1) (addT 1 emp a) b := by
  cases a
  show (if _ then _ else _) = _
  rw [if_pos h]
theorem scS_eq {a b : Tm} (h : ¬ (a.f ≠ b.f ∨ a.ps.length ≠ b.ps.length)) : scS a b = scs a.ps b.ps := by
  cases a with
  | mk f l =>
    show (if _ then _ else _) = _
    rw [if_neg h]
    by_cases hf : f < 0
    · rw [if_pos hf, Tm.ps_of_var (t := ⟨f, l⟩) hf, scs_nil]
    · rw [if_neg hf, Tm.ps_of_sym (t := ⟨f, l⟩) (by show 0 ≤ f; omega), Tm.ps_of_sym (t := b) (by have := Classical.not_not.1 (fun e => h (.inl e)); simp only at this; omega)]
      rfl
theorem scs_at : ∀ {l m : List Tm} {k : Nat} {x y : Tm}, l[k]? = some x → m[k]? = some y → kb x y ≠ 0 → (∀ j u v, j < k → l[j]? = some u → m[j]? = some v → kb u v = 0) → scs l m = addL (-1) (addL 1 (scS x y) (l.drop (k + 1))) (m.drop (k + 1)) ∧ kbs l m = kb x y
  | [], _, k, x, y, h, _, _, _ => by simp at h
  | _ :: _, [], k, x, y, _, h, _, _ => by simp at h
  | u :: l, v :: m, 0, x, y, h1, h2, hne, _ => by
    simp at h1 h2
    subst h1; subst h2
    rw [scs_cons, kbs_cons]
    unfold restS firstK
    rw [if_pos hne, if_pos hne]
    exact ⟨rfl, rfl⟩
  | u :: l, v :: m, k + 1, x, y, h1, h2, hne, hi => by
    have h0 := hi 0 u v (by omega) rfl rfl
    rw [scs_cons, kbs_cons]
    unfold restS firstK
    rw [if_neg (by omega), if_neg (by omega)]
    exact scs_at (by simpa using h1) (by simpa using h2) hne fun j u v hj hu hv => hi (j + 1) u v (by omega) (by simpa using hu) (by simpa using hv)
theorem scs_none : ∀ {l m : List Tm}, (∀ (j : Nat) u v, l[j]? = some u → m[j]? = some v → kb u v = 0) → scs l m = emp ∧ kbs l m = 0
  | [], _, _ => ⟨rfl, rfl⟩
  | _ :: _, [], _ => ⟨rfl, rfl⟩
  | u :: l, v :: m, hi => by
    have h0 := hi 0 u v rfl rfl
    rw [scs_cons, kbs_cons]
    unfold restS firstK
    rw [if_neg (by omega), if_neg (by omega)]
    exact scs_none fun j u v hu hv => hi (j + 1) u v (by simpa using hu) (by simpa using hv)
theorem emp_ss : Ss emp 0 fun _ => 0 := ⟨rfl, by simp [ndk, emp], rfl, rfl, fun _ => rfl⟩
theorem emp_bds : Bds emp 0 := ⟨by simp [emp], by simp [emp], by simp [emp], fun _ => by simp [emp, mget, mfind]⟩
def vD (a b : Tm) (v : Int) : Int := (a.vs.count v : Int) - b.vs.count v
theorem first_ne : ∀ (l m : List Tm), l.length = m.length → (∃ (k : Nat) (x y : Tm), l[k]? = some x ∧ m[k]? = some y ∧ kb x y ≠ 0 ∧ ∀ (j : Nat) u v, j < k → l[j]? = some u → m[j]? = some v → kb u v = 0) ∨ ∀ (j : Nat) u v, l[j]? = some u → m[j]? = some v → kb u v = 0
  | [], _, _ => .inr fun j u v h => by simp at h
  | _ :: _, [], h => by simp at h
  | u :: l, v :: m, h => by
    by_cases h0 : kb u v = 0
    · rcases first_ne l m (by simpa using h) with ⟨k, x, y, h1, h2, h3, h4⟩ | h1
      · left
        refine ⟨k + 1, x, y, by simpa using h1, by simpa using h2, h3, fun j u' v' hj hu hv => ?_⟩
        cases j with
        | zero => simp at hu hv; subst hu; subst hv; exact h0
        | succ j => exact h4 j u' v' (by omega) (by simpa using hu) (by simpa using hv)
      · right
        intro j u' v' hu hv
        cases j with
        | zero => simp at hu hv; subst hu; subst hv; exact h0
        | succ j => exact h1 j u' v' (by simpa using hu) (by simpa using hv)
    · left; exact ⟨0, u, v, rfl, rfl, h0, fun j u v hj => by omega⟩
theorem vs_take_same : ∀ {l m : List Tm} {k : Nat}, k ≤ l.length → l.length = m.length → (∀ j u v, j < k → l[j]? = some u → m[j]? = some v → kb u v = 0) → ((l.take k).flatMap Tm.flat).length = ((m.take k).flatMap Tm.flat).length ∧ (l.take k).flatMap Tm.vs = (m.take k).flatMap Tm.vs
  | _, _, 0, _, _, _ => by simp
  | [], _, k + 1, h, _, _ => by simp at h
  | _ :: _, [], k + 1, _, h, _ => by simp at h
  | u :: l, v :: m, k + 1, h, hl, hi => by
    have h0 := (kb_zero u v).1 (hi 0 u v (by omega) rfl rfl)
    obtain ⟨h1, h2⟩ := vs_take_same (l := l) (m := m) (k := k) (by simpa using h) (by simpa using hl) fun j u v hj hu hv => hi (j + 1) u v (by omega) (by simpa using hu) (by simpa using hv)
    have h3 : u.flat.length = v.flat.length := by have := congrArg Tm.size h0; rw [Tm.strip_size, Tm.strip_size] at this; exact this
    have h4 : u.vs = v.vs := by have := congrArg Tm.vs h0; rw [Tm.strip_vs, Tm.strip_vs] at this; exact this
    rw [List.take_succ_cons, List.take_succ_cons, List.flatMap_cons, List.flatMap_cons, List.flatMap_cons, List.flatMap_cons, List.length_append, List.length_append, h1, h2, h3, h4]
    exact ⟨rfl, rfl⟩
theorem split_len {l : List Tm} {k : Nat} {x : Tm} (h : l[k]? = some x) : (l.flatMap Tm.flat).length = ((l.take k).flatMap Tm.flat).length + (x.size + ((l.drop (k + 1)).flatMap Tm.flat).length) ∧ ∀ v, (l.flatMap Tm.vs).count v = ((l.take k).flatMap Tm.vs).count v + (x.vs.count v + ((l.drop (k + 1)).flatMap Tm.vs).count v) := by
  obtain ⟨h1, _⟩ := split_at h
  constructor
  · conv => lhs; rw [h1]
    rw [List.flatMap_append, List.flatMap_cons, List.length_append, List.length_append]
    rfl
  · intro v
    conv => lhs; rw [h1]
    rw [List.flatMap_append, List.flatMap_cons, List.count_append, List.count_append]
theorem scS_spec (a : Tm) : ∀ b, Bds (scS a b) (a.size + b.size) ∧ (kb a b = 0 → scS a b = emp) ∧ (kb a b ≠ 0 → Ss (scS a b) (szD a b) (vD a b)) := by
  induction a using Tm.indp with
  | h a ih =>
    intro b
    by_cases h : a.f ≠ b.f ∨ a.ps.length ≠ b.ps.length
    · rw [scS_ne h]
      have h1 : Bds (addT (-1) (addT 1 emp a) b) (0 + a.size + b.size) := (emp_bds.addT (.inl rfl)).addT (.inr rfl)
      refine ⟨by rw [Nat.zero_add] at h1; exact h1, fun h2 => ?_, fun _ => ?_⟩
      · rw [kb_eq, verd_zero] at h2
        unfold wi at h2
        rw [if_pos h] at h2
        exact absurd h2 (hd_ne h)
      · have h2 := (emp_ss.fold (σ := 1) (l := a.flat)).fold (σ := -1) (l := b.flat)
        refine ⟨?_, h2.nd, h2.sp, h2.lk, fun v => ?_⟩
        · refine h2.sz.trans ?_
          unfold szD Tm.size; omega
        · refine (h2.at_ v).trans ?_
          unfold vD Tm.vs; omega
    · rw [scS_eq h]
      have hw : wi a b = kbs a.ps b.ps := by unfold wi; rw [if_neg h]
      have hll : a.ps.length = b.ps.length := by omega
      rcases first_ne a.ps b.ps hll with ⟨k, x, y, h1, h2, h3, h4⟩ | h1
      · obtain ⟨e1, e2⟩ := scs_at h1 h2 h3 h4
        obtain ⟨b1, b2, b3⟩ := ih x (List.mem_of_getElem? h1) y
        have hk : k < a.ps.length := by
          rcases Nat.lt_or_ge k a.ps.length with h | h
          · exact h
          · rw [List.getElem?_eq_none h] at h1; cases h1
        obtain ⟨v1, v2⟩ := vs_take_same (Nat.le_of_lt hk) hll h4
        obtain ⟨l1, l2⟩ := split_len h1
        obtain ⟨m1, m2⟩ := split_len h2
        have sa := a.size_eq
        have sb := b.size_eq
        rw [e1]
        refine ⟨?_, fun h5 => ?_, fun h5 => ?_⟩
        · have hB := ((b1.addL (.inl rfl) (l := a.ps.drop (k + 1))).addL (.inr rfl) (l := b.ps.drop (k + 1)))
          obtain ⟨q1, q2, q3, q4⟩ := hB
          exact ⟨by omega, by omega, by omega, fun v => by have := q4 v; omega⟩
        · rw [kb_eq, verd_zero, hw, e2] at h5
          exact absurd h5 h3
        · have h6 := ((b3 h3).fold (σ := 1) (l := (a.ps.drop (k + 1)).flatMap Tm.flat)).fold (σ := -1) (l := (b.ps.drop (k + 1)).flatMap Tm.flat)
          refine ⟨?_, h6.nd, h6.sp, h6.lk, fun v => ?_⟩
          · refine h6.sz.trans ?_
            unfold szD; omega
          · refine (h6.at_ v).trans ?_
            rw [vsL_flatMap, vsL_flatMap]
            have p1 := l2 v
            have p2 := m2 v
            rw [← v2] at p2
            have hf : a.f = b.f := by omega
            have ha : a.vs = a.ps.flatMap Tm.vs := by
              by_cases hv : a.f < 0
              · rw [Tm.ps_of_var hv] at hk; simp at hk
              · rw [Tm.vs_sym hv, Tm.ps_of_sym (by omega)]
            have hb : b.vs = b.ps.flatMap Tm.vs := by
              by_cases hv : b.f < 0
              · rw [Tm.ps_of_var (t := a) (by omega)] at hk; simp at hk
              · rw [Tm.vs_sym hv, Tm.ps_of_sym (by omega)]
            unfold vD
            rw [ha, hb]
            omega
      · obtain ⟨e1, e2⟩ := scs_none h1
        rw [e1]
        refine ⟨?_, fun _ => rfl, fun h5 => ?_⟩
        · obtain ⟨q1, q2, q3, q4⟩ := emp_bds
          exact ⟨by omega, by omega, by omega, fun v => by have := q4 v; omega⟩
        · exfalso
          apply h5
          rw [kb_eq, verd_zero, hw, e2]
theorem ord_same (z w : Int) : (if z ≠ 0 then cmpZ z 0 else w) = ordV z w := by
  unfold ordV
  rcases cmpZ_cases z 0 with h | h | h
  · rw [if_pos (by omega), if_neg (by omega), if_pos (by omega), h.1]
  · rw [if_neg (by omega), if_neg (by omega), if_neg (by omega)]
  · rw [if_pos (by omega), if_pos (by omega), h.1]
theorem vd_spec {s : Sc} {a b : Tm} (h : Ss s (szD a b) (vD a b)) {w : Int} (hw : w ≠ 0) : vdS s w = verd (szD a b) (cov a b) (cov b a) w := by
  have h1 : 0 < s.lk ↔ ¬ cov a b := by
    obtain ⟨d1, d2⟩ := dns_zero h.nd
    rw [h.lk]
    have : dnS s.mp = 0 ↔ cov a b := by
      rw [d2]
      unfold cov
      constructor
      · intro h2 v; have := h2 v; rw [h.at_] at this; unfold vD at this; omega
      · intro h2 v; have := h2 v; rw [h.at_]; unfold vD; omega
    rw [← this]; omega
  have h2 : 0 < s.sp ↔ ¬ cov b a := by
    obtain ⟨d1, d2⟩ := ups_zero h.nd
    rw [h.sp]
    have : upS s.mp = 0 ↔ cov b a := by
      rw [d2]
      unfold cov
      constructor
      · intro h2 v; have := h2 v; rw [h.at_] at this; unfold vD at this; omega
      · intro h2 v; have := h2 v; rw [h.at_]; unfold vD; omega
    rw [← this]; omega
  unfold vdS verd pickV ordS
  rw [if_neg hw, h.sz, ord_same]
  by_cases h3 : (ordV (szD a b) w = 1 ∧ ¬ cov a b) ∨ (ordV (szD a b) w = -1 ∧ ¬ cov b a)
  · rw [if_pos h3, if_pos (by rw [h1, h2]; exact h3)]
  · rw [if_neg h3, if_neg (by rw [h1, h2]; exact h3)]
-- 
set_option maxHeartbeats 1000000 in
theorem kCompare_abs : ∀ a : Tm, a.rng → a.ok → a.size ≤ 100000000000 → ∀ b : Tm, b.rng → b.ok → b.size ≤ 100000000000 → AFunO Tryz.prog 87 (sst emp) [.bp 350001 0 [], .val a.cw, .val b.cw] (.val (.i (kb a b))) (sst (scS a b)) := by
  intro a
  induction a using Tm.indp with
  | h a ih =>
  intro hr hok has b hbr hbok hbs
  have hok' := (Tm.ok_iff _).1 hok
  have hr' := (Tm.rng_iff _).1 hr
  have hbok' := (Tm.ok_iff _).1 hbok
  have hbr' := (Tm.rng_iff _).1 hbr
  have hsz := Tm.size_all a.ps
  have hsz2 := Tm.size_all b.ps
  have el : (a.ps.map Tm.cv).length = a.ps.length := List.length_map ..
  have el2 : (b.ps.map Tm.cv).length = b.ps.length := List.length_map ..
  have hla := a.len_ps
  have hlb := b.len_ps
  obtain ⟨S, hS⟩ : ∃ S, S = scS a b := ⟨_, rfl⟩
  obtain ⟨sp1, sp2, sp3⟩ := scS_spec a b
  refine afunO_of Tryz.func87 Tryz.ntmps87 rfl rfl rfl rfl rfl rfl ?_
  intro w U hU
  refine aS (aR ?_)
  (refine nx (a_box (gN rfl) rfl rfl rfl rfl rfl) rfl ?_)
  (refine nx (a_box (gN rfl) rfl rfl rfl rfl rfl) rfl ?_)
  (refine nx (aA (gN rfl) rfl rfl rfl rfl rfl) rfl ?_)
  show AWp _ _ _ _ _ _ _
  refine aS (aD (by kernel_rfl) (by kernel_rfl) ?_)
  (refine nx (aL (gN rfl) rfl rfl rfl rfl rfl rfl rfl rfl rfl rfl rfl rfl) rfl ?_)
  (refine nx (a_call (gN rfl) rfl rfl rfl rfl rfl (kParts_abs w a)) rfl ?_)
  (refine nx (aL (gN rfl) rfl rfl rfl rfl rfl rfl rfl rfl rfl rfl rfl rfl) rfl ?_)
  (refine nx (a_call (gN rfl) rfl rfl rfl rfl rfl (kParts_abs w b)) rfl ?_)
  (refine nx (aA (gN rfl) rfl rfl rfl rfl rfl) rfl ?_)
  (refine nx (aA (gN rfl) rfl rfl rfl rfl rfl) rfl ?_)
  refine ⟨by kernel_rfl, ?_⟩
  show AWp _ _ _ _ _ _ _
  refine AWp.wk (wk_sub (s' := (0, AV.bp 350001 0 []) :: (4, .bp 4 0 []) :: (100004, .bx a.cw) :: (5, .bp 5 0 []) :: (100005, .bx b.cw) :: (7, .val (.lst (a.ps.map Tm.cv))) :: (8, .val (.lst (b.ps.map Tm.cv))) :: sst emp) ⟨rfl, rfl, rfl, rfl, rfl, rfl, rfl, rfl, rfl, rfl, rfl, rfl, rfl, trivial⟩) ?_
  by_cases h : a.f ≠ b.f ∨ a.ps.length ≠ b.ps.length
  case pos =>
    have hw : wi a b = hdK a b := by unfold wi; rw [if_pos h]
    have hk0 : kb a b ≠ 0 := by rw [kb_eq, ne_eq, verd_zero, hw]; exact hd_ne h
    have hres : vdS (addT (-1) (addT 1 emp a) b) (hdK a b) = kb a b := by
      have := vd_spec (w := hdK a b) (by have := sp3 hk0; rw [scS_ne h] at this; exact this) (hd_ne h)
      rw [this, kb_eq, hw]
    rw [scS_ne h]
    by_cases hf : a.f ≠ b.f
    · have g : decide (a.f ≠ b.f) = true := by simpa using hf
      refine aS (aS (aR ?_))
      (refine nx (aF (gN rfl) rfl rfl rfl rfl rfl rfl rfl rfl rfl) rfl ?_)
      (refine nx (aLb (gN rfl) rfl rfl rfl rfl rfl rfl rfl rfl rfl rfl rfl rfl) rfl ?_)
      (refine nx (aF (gN rfl) rfl rfl rfl rfl rfl rfl rfl rfl rfl) rfl ?_)
      (refine nx (aLb (gN rfl) rfl rfl rfl rfl rfl rfl rfl rfl rfl rfl rfl rfl) rfl ?_)
      (refine nx (a_neq (gN rfl) rfl rfl rfl rfl rfl rfl) rfl ?_)
      (refine nx (aM (gN rfl) rfl rfl rfl rfl rfl) rfl ?_)
      (refine ⟨_, _, _, a_off (go_off rfl rfl rfl rfl (by first | rfl | assumption | (simp; done) | (simp [*]; done))) rfl rfl rfl, rfl, ?_⟩)
      (refine ⟨_, _, _, a_off (go_off rfl rfl rfl rfl (by first | rfl | assumption | (simp; done) | (simp [*]; done))) rfl rfl rfl, rfl, ?_⟩)
      (refine ⟨_, _, _, a_off (go_off rfl rfl rfl rfl (by first | rfl | assumption | (simp; done) | (simp [*]; done))) rfl rfl rfl, rfl, ?_⟩)
      (refine ⟨_, _, _, a_off (go_off rfl rfl rfl rfl (by first | rfl | assumption | (simp; done) | (simp [*]; done))) rfl rfl rfl, rfl, ?_⟩)
      (refine ⟨_, _, _, a_off (go_off rfl rfl rfl rfl (by first | rfl | assumption | (simp; done) | (simp [*]; done))) rfl rfl rfl, rfl, ?_⟩)
      (refine ⟨_, _, _, aPt (gN rfl) rfl rfl rfl rfl rfl ?hb rfl, rfl, ?_⟩; case hb => (first | rfl | assumption | (simp; done)))
      show AWp _ _ _ _ _ _ _
      refine aC rfl (fun hc => ?_) (fun hc => by cases hc)
      refine aS (aR ?_)
      (refine nx (aM (gN rfl) rfl rfl rfl rfl rfl) rfl ?_)
      (refine nx (aL (gN rfl) rfl rfl rfl rfl rfl rfl rfl rfl rfl rfl rfl rfl) rfl ?_)
      (refine nx (a_callO (gN rfl) rfl rfl rfl rfl rfl (kAdd_abs 1 (.inl rfl) a hr hok emp 0 emp_bds (by omega)) (by repeat (first | exact trivial | refine ⟨rfl, ?_⟩)) (sst_lend _) (sst_leave _) (by first | rfl | kernel_rfl) (by first | rfl | kernel_rfl) (hnb_of (by first | rfl | kernel_rfl))) rfl ?_)
      show AWp _ _ _ _ _ _ _
      refine aS (aR ?_)
      (refine nx (aM (gN rfl) rfl rfl rfl rfl rfl) rfl ?_)
      (refine nx (aL (gN rfl) rfl rfl rfl rfl rfl rfl rfl rfl rfl rfl rfl rfl) rfl ?_)
      (refine nx (a_callO (gN rfl) rfl rfl rfl rfl rfl (kAdd_abs (-1) (.inr rfl) b hbr hbok (addT 1 emp a) (0 + a.size) (emp_bds.addT (.inl rfl)) (by omega)) (by repeat (first | exact trivial | refine ⟨rfl, ?_⟩)) (sst_lend _) (sst_leave _) (by first | rfl | kernel_rfl) (by first | rfl | kernel_rfl) (hnb_of (by first | rfl | kernel_rfl))) rfl ?_)
      show AWp _ _ _ _ _ _ _
      refine aS (aR ?_)
      (refine nx (aM (gN rfl) rfl rfl rfl rfl rfl) rfl ?_)
      (refine nx (aL (gN rfl) rfl rfl rfl rfl rfl rfl rfl rfl rfl rfl rfl rfl) rfl ?_)
      (refine nx (aL (gN rfl) rfl rfl rfl rfl rfl rfl rfl rfl rfl rfl rfl rfl) rfl ?_)
      (refine nx (a_call (gN rfl) rfl rfl rfl rfl rfl (kHeads_abs w a b)) rfl ?_)
      (refine nx (a_callO (gN rfl) rfl rfl rfl rfl rfl (kVerdict_abs (addT (-1) (addT 1 emp a) b) (hdK a b)) (by repeat (first | exact trivial | refine ⟨rfl, ?_⟩)) (sst_lend _) (sst_leave _) (by first | rfl | kernel_rfl) (by first | rfl | kernel_rfl) (hnb_of (by first | rfl | kernel_rfl))) rfl ?_)
      (refine nx (aA (gN rfl) rfl rfl rfl rfl rfl) rfl ?_)
      show AWp _ _ _ _ _ _ _
      rw [hres]
      exact aT ⟨.inr rfl, _, Wk.refl _, rfl, rfl, rfl, rfl, rfl, rfl, rfl, trivial⟩
    · have g : decide (a.f ≠ b.f) = false := by simpa using hf
      refine aS (aS (aR ?_))
      (refine nx (aF (gN rfl) rfl rfl rfl rfl rfl rfl rfl rfl rfl) rfl ?_)
      (refine nx (aLb (gN rfl) rfl rfl rfl rfl rfl rfl rfl rfl rfl rfl rfl rfl) rfl ?_)
      (refine nx (aF (gN rfl) rfl rfl rfl rfl rfl rfl rfl rfl rfl) rfl ?_)
      (refine nx (aLb (gN rfl) rfl rfl rfl rfl rfl rfl rfl rfl rfl rfl rfl rfl) rfl ?_)
      (refine nx (a_neq (gN rfl) rfl rfl rfl rfl rfl rfl) rfl ?_)
      (refine nx (aM (gN rfl) rfl rfl rfl rfl rfl) rfl ?_)
      (refine nx (aM (gd_on rfl rfl rfl rfl (by first | rfl | assumption | (simp; done))) rfl rfl rfl rfl rfl) rfl ?_)
      (refine nx (a_len (gd_on rfl rfl rfl rfl (by first | rfl | assumption | (simp; done))) rfl rfl rfl rfl rfl rfl rfl) rfl ?_)
      (refine nx (aM (gd_on rfl rfl rfl rfl (by first | rfl | assumption | (simp; done))) rfl rfl rfl rfl rfl) rfl ?_)
      (refine nx (a_len (gd_on rfl rfl rfl rfl (by first | rfl | assumption | (simp; done))) rfl rfl rfl rfl rfl rfl rfl) rfl ?_)
      (refine nx (a_neq (gd_on rfl rfl rfl rfl (by first | rfl | assumption | (simp; done))) rfl rfl rfl rfl rfl rfl) rfl ?_)
      (refine ⟨_, _, _, aPf (gN rfl) rfl rfl rfl rfl rfl ?hb rfl, rfl, ?_⟩; case hb => (first | rfl | assumption | (simp; done)))
      show AWp _ _ _ _ _ _ _
      refine aC rfl (fun hc => ?_) (fun hc => ?_)
      case refine_2 =>
        exfalso
        have hc := of_decide_eq_false hc
        simp only [List.length_map, ne_eq, Decidable.not_not] at hc
        omega
      refine aS (aR ?_)
      (refine nx (aM (gN rfl) rfl rfl rfl rfl rfl) rfl ?_)
      (refine nx (aL (gN rfl) rfl rfl rfl rfl rfl rfl rfl rfl rfl rfl rfl rfl) rfl ?_)
      (refine nx (a_callO (gN rfl) rfl rfl rfl rfl rfl (kAdd_abs 1 (.inl rfl) a hr hok emp 0 emp_bds (by omega)) (by repeat (first | exact trivial | refine ⟨rfl, ?_⟩)) (sst_lend _) (sst_leave _) (by first | rfl | kernel_rfl) (by first | rfl | kernel_rfl) (hnb_of (by first | rfl | kernel_rfl))) rfl ?_)
      show AWp _ _ _ _ _ _ _
      refine aS (aR ?_)
      (refine nx (aM (gN rfl) rfl rfl rfl rfl rfl) rfl ?_)
      (refine nx (aL (gN rfl) rfl rfl rfl rfl rfl rfl rfl rfl rfl rfl rfl rfl) rfl ?_)
      (refine nx (a_callO (gN rfl) rfl rfl rfl rfl rfl (kAdd_abs (-1) (.inr rfl) b hbr hbok (addT 1 emp a) (0 + a.size) (emp_bds.addT (.inl rfl)) (by omega)) (by repeat (first | exact trivial | refine ⟨rfl, ?_⟩)) (sst_lend _) (sst_leave _) (by first | rfl | kernel_rfl) (by first | rfl | kernel_rfl) (hnb_of (by first | rfl | kernel_rfl))) rfl ?_)
      show AWp _ _ _ _ _ _ _
      refine aS (aR ?_)
      (refine nx (aM (gN rfl) rfl rfl rfl rfl rfl) rfl ?_)
      (refine nx (aL (gN rfl) rfl rfl rfl rfl rfl rfl rfl rfl rfl rfl rfl rfl) rfl ?_)
      (refine nx (aL (gN rfl) rfl rfl rfl rfl rfl rfl rfl rfl rfl rfl rfl rfl) rfl ?_)
      (refine nx (a_call (gN rfl) rfl rfl rfl rfl rfl (kHeads_abs w a b)) rfl ?_)
      (refine nx (a_callO (gN rfl) rfl rfl rfl rfl rfl (kVerdict_abs (addT (-1) (addT 1 emp a) b) (hdK a b)) (by repeat (first | exact trivial | refine ⟨rfl, ?_⟩)) (sst_lend _) (sst_leave _) (by first | rfl | kernel_rfl) (by first | rfl | kernel_rfl) (hnb_of (by first | rfl | kernel_rfl))) rfl ?_)
      (refine nx (aA (gN rfl) rfl rfl rfl rfl rfl) rfl ?_)
      show AWp _ _ _ _ _ _ _
      rw [hres]
      exact aT ⟨.inr rfl, _, Wk.refl _, rfl, rfl, rfl, rfl, rfl, rfl, rfl, trivial⟩
  case neg =>
    have hf : a.f = b.f := by omega
    have hll : a.ps.length = b.ps.length := by omega
    have hw : wi a b = kbs a.ps b.ps := by unfold wi; rw [if_neg h]
    have g : decide (a.f ≠ b.f) = false := by simpa using hf
    refine aS (aS (aR ?_))
    (refine nx (aF (gN rfl) rfl rfl rfl rfl rfl rfl rfl rfl rfl) rfl ?_)
    (refine nx (aLb (gN rfl) rfl rfl rfl rfl rfl rfl rfl rfl rfl rfl rfl rfl) rfl ?_)
    (refine nx (aF (gN rfl) rfl rfl rfl rfl rfl rfl rfl rfl rfl) rfl ?_)
    (refine nx (aLb (gN rfl) rfl rfl rfl rfl rfl rfl rfl rfl rfl rfl rfl rfl) rfl ?_)
    (refine nx (a_neq (gN rfl) rfl rfl rfl rfl rfl rfl) rfl ?_)
    (refine nx (aM (gN rfl) rfl rfl rfl rfl rfl) rfl ?_)
    (refine nx (aM (gd_on rfl rfl rfl rfl (by first | rfl | assumption | (simp; done))) rfl rfl rfl rfl rfl) rfl ?_)
    (refine nx (a_len (gd_on rfl rfl rfl rfl (by first | rfl | assumption | (simp; done))) rfl rfl rfl rfl rfl rfl rfl) rfl ?_)
    (refine nx (aM (gd_on rfl rfl rfl rfl (by first | rfl | assumption | (simp; done))) rfl rfl rfl rfl rfl) rfl ?_)
    (refine nx (a_len (gd_on rfl rfl rfl rfl (by first | rfl | assumption | (simp; done))) rfl rfl rfl rfl rfl rfl rfl) rfl ?_)
    (refine nx (a_neq (gd_on rfl rfl rfl rfl (by first | rfl | assumption | (simp; done))) rfl rfl rfl rfl rfl rfl) rfl ?_)
    (refine ⟨_, _, _, aPf (gN rfl) rfl rfl rfl rfl rfl ?hb rfl, rfl, ?_⟩; case hb => (first | rfl | assumption | (simp; done)))
    show AWp _ _ _ _ _ _ _
    refine aC rfl (fun hc => ?_) (fun hc => ?_)
    · exfalso
      have hc := of_decide_eq_true hc
      simp only [List.length_map, ne_eq] at hc
      omega
    refine aK ?_
    show AWp _ _ _ _ _ _ _
    refine aS (aS (aR ?_))
    (refine nx (aM (gN rfl) rfl rfl rfl rfl rfl) rfl ?_)
    (refine nx (a_len (gN rfl) rfl rfl rfl rfl rfl rfl rfl) rfl ?_)
    (refine nx (aM (gN rfl) rfl rfl rfl rfl rfl) rfl ?_)
    show AWp _ _ _ _ _ _ _
    refine aB (awp_countI a.ps.length (fun k => ∀ (j : Nat) u v, j < k → a.ps[j]? = some u → b.ps[j]? = some v → kb u v = 0) (fun k => (0, .bp 350001 0 []) :: (7, .val (.lst (a.ps.map Tm.cv))) :: (8, .val (.lst (b.ps.map Tm.cv))) :: (39, .val (.i (a.ps.map Tm.cv).length)) :: (40, .val (.i k)) :: sst emp) (wk_sub ⟨rfl, rfl, rfl, rfl, rfl, rfl, rfl, rfl, rfl, rfl, rfl, trivial⟩) (fun j u v hj => by omega) ?_)
    intro k hk hI
    refine aS (aR ?_)
    (refine nx (a_lss (gN rfl) rfl rfl rfl rfl rfl rfl) rfl ?_)
    show AWp _ _ _ _ _ _ _
    refine aS (aC rfl (fun hlt => ?_) (fun hlt => ?_))
    · have hkl : k < a.ps.length := by simpa using hlt
      obtain ⟨x, hx⟩ : ∃ x, a.ps[k]? = some x := ⟨a.ps[k], List.getElem?_eq_getElem hkl⟩
      obtain ⟨y, hy⟩ : ∃ y, b.ps[k]? = some y := ⟨b.ps[k]'(by omega), List.getElem?_eq_getElem (by omega)⟩
      have hx' := Tm.map_at hx
      have hy' := Tm.map_at hy
      have hxm := List.mem_of_getElem? hx
      have hym := List.mem_of_getElem? hy
      have hxs := Tm.size_part hxm
      have hys := Tm.size_part hym
      have hrec := ih x hxm (hr'.2 x (Tm.ps_mem hxm).1) (hok'.2 x (Tm.ps_mem hxm).1) (by omega) y (hbr'.2 y (Tm.ps_mem hym).1) (hbok'.2 y (Tm.ps_mem hym).1) (by omega)
      obtain ⟨q1, q2, q3⟩ := scS_spec x y
      refine aK ?_
      show AWp _ _ _ _ _ _ _
      refine aS (aB (aS (aR ?_)))
      (refine nx (aM (gN rfl) rfl rfl rfl rfl rfl) rfl ?_)
      (refine nx (aA (gN rfl) rfl rfl rfl rfl rfl) rfl ?_)
      show AWp _ _ _ _ _ _ _
      refine aS (aD (by kernel_rfl) (by kernel_rfl) ?_)
      (refine nx (aM (gN rfl) rfl rfl rfl rfl rfl) rfl ?_)
      (refine nx (aM (gN rfl) rfl rfl rfl rfl rfl) rfl ?_)
      (refine nx (aM (gN rfl) rfl rfl rfl rfl rfl) rfl ?_)
      (refine nx (a_index (j := k) (gN rfl) rfl rfl rfl rfl rfl rfl rfl rfl rfl (hx') rfl (hsz)) rfl ?_)
      (refine nx (a_load_ad (gN rfl) rfl rfl rfl rfl rfl rfl rfl rfl rfl) rfl ?_)
      (refine nx (aM (gN rfl) rfl rfl rfl rfl rfl) rfl ?_)
      (refine nx (aM (gN rfl) rfl rfl rfl rfl rfl) rfl ?_)
      (refine nx (a_index (j := k) (gN rfl) rfl rfl rfl rfl rfl rfl rfl rfl rfl (hy') rfl (hsz2)) rfl ?_)
      (refine nx (a_load_ad (gN rfl) rfl rfl rfl rfl rfl rfl rfl rfl rfl) rfl ?_)
      (refine nx (a_callO (gN rfl) rfl rfl rfl rfl rfl (hrec) (by repeat (first | exact trivial | refine ⟨rfl, ?_⟩)) (sst_lend _) (sst_leave _) (by first | rfl | kernel_rfl) (by first | rfl | kernel_rfl) (hnb_of (by first | rfl | kernel_rfl))) rfl ?_)
      (refine nx (aA (gN rfl) rfl rfl rfl rfl rfl) rfl ?_)
      refine ⟨by kernel_rfl, ?_⟩
      show AWp _ _ _ _ _ _ _
      refine aS (aR ?_)
      (refine nx (aM (gN rfl) rfl rfl rfl rfl rfl) rfl ?_)
      (refine nx (a_neq (gN rfl) rfl rfl rfl rfl rfl rfl) rfl ?_)
      show AWp _ _ _ _ _ _ _
      refine aC rfl (fun hc => ?_) (fun hc => ?_)
      · have hne : kb x y ≠ 0 := by simpa using hc
        obtain ⟨e1, e2⟩ := scs_at hx hy hne hI
        have hk0 : kb a b ≠ 0 := by rw [kb_eq, ne_eq, verd_zero, hw, e2]; exact hne
        obtain ⟨l1, l2⟩ := split_len hx
        obtain ⟨m1, m2⟩ := split_len hy
        have sa := a.size_eq
        have sb := b.size_eq
        have hA : ∀ t ∈ a.ps.drop (k + 1), t.rng ∧ t.ok := fun t ht => ⟨hr'.2 t (Tm.ps_mem (List.mem_of_mem_drop ht)).1, hok'.2 t (Tm.ps_mem (List.mem_of_mem_drop ht)).1⟩
        have hB : ∀ t ∈ b.ps.drop (k + 1), t.rng ∧ t.ok := fun t ht => ⟨hbr'.2 t (Tm.ps_mem (List.mem_of_mem_drop ht)).1, hbok'.2 t (Tm.ps_mem (List.mem_of_mem_drop ht)).1⟩
        have c1 := kAddAll_abs 1 (.inl rfl) (a.ps.drop (k + 1)) (by rw [List.length_drop]; omega) hA (scS x y) (x.size + y.size) q1 (by omega)
        have b1 := q1.addL (σ := 1) (.inl rfl) (l := a.ps.drop (k + 1))
        have c2 := kAddAll_abs (-1) (.inr rfl) (b.ps.drop (k + 1)) (by rw [List.length_drop]; omega) hB _ _ b1 (by omega)
        rw [List.map_drop] at c1 c2
        have hres : vdS (addL (-1) (addL 1 (scS x y) (a.ps.drop (k + 1))) (b.ps.drop (k + 1))) (kb x y) = kb a b := by
          have := vd_spec (w := kb x y) (by have := sp3 hk0; rw [scS_eq h, e1] at this; exact this) hne
          rw [this, kb_eq a b, hw, e2]
        refine aS (aR ?_)
        (refine nx (aM (gN rfl) rfl rfl rfl rfl rfl) rfl ?_)
        (refine nx (aM (gN rfl) rfl rfl rfl rfl rfl) rfl ?_)
        (refine nx (aM (gN rfl) rfl rfl rfl rfl rfl) rfl ?_)
        (refine nx (a_add (gN rfl) rfl rfl rfl rfl rfl rfl (by first | omega | (simp only [List.length_map, List.length_append, List.length_cons, List.length_nil] <;> omega) | (simp <;> omega))) rfl ?_)
        (refine nx (a_from (lo := k + 1) (gN rfl) rfl rfl rfl rfl rfl rfl rfl rfl rfl (by omega) (by first | assumption | exact sZ rfl | exact Tm.size_all _ | exact Bd.size_all _ | exact ints_size _ | exact bys_size _ | exact Lt.size_all _)) rfl ?_)
        (refine nx (a_callO (gN rfl) rfl rfl rfl rfl rfl (c1) (by repeat (first | exact trivial | refine ⟨rfl, ?_⟩)) (sst_lend _) (sst_leave _) (by first | rfl | kernel_rfl) (by first | rfl | kernel_rfl) (hnb_of (by first | rfl | kernel_rfl))) rfl ?_)
        show AWp _ _ _ _ _ _ _
        refine aS (aR ?_)
        (refine nx (aM (gN rfl) rfl rfl rfl rfl rfl) rfl ?_)
        (refine nx (aM (gN rfl) rfl rfl rfl rfl rfl) rfl ?_)
        (refine nx (aM (gN rfl) rfl rfl rfl rfl rfl) rfl ?_)
        (refine nx (a_add (gN rfl) rfl rfl rfl rfl rfl rfl (by first | omega | (simp only [List.length_map, List.length_append, List.length_cons, List.length_nil] <;> omega) | (simp <;> omega))) rfl ?_)
        (refine nx (a_from (lo := k + 1) (gN rfl) rfl rfl rfl rfl rfl rfl rfl rfl rfl (by omega) (by first | assumption | exact sZ rfl | exact Tm.size_all _ | exact Bd.size_all _ | exact ints_size _ | exact bys_size _ | exact Lt.size_all _)) rfl ?_)
        (refine nx (a_callO (gN rfl) rfl rfl rfl rfl rfl (c2) (by repeat (first | exact trivial | refine ⟨rfl, ?_⟩)) (sst_lend _) (sst_leave _) (by first | rfl | kernel_rfl) (by first | rfl | kernel_rfl) (hnb_of (by first | rfl | kernel_rfl))) rfl ?_)
        show AWp _ _ _ _ _ _ _
        refine aS (aR ?_)
        (refine nx (aM (gN rfl) rfl rfl rfl rfl rfl) rfl ?_)
        (refine nx (aM (gN rfl) rfl rfl rfl rfl rfl) rfl ?_)
        (refine nx (a_callO (gN rfl) rfl rfl rfl rfl rfl (kVerdict_abs _ (kb x y)) (by repeat (first | exact trivial | refine ⟨rfl, ?_⟩)) (sst_lend _) (sst_leave _) (by first | rfl | kernel_rfl) (by first | rfl | kernel_rfl) (hnb_of (by first | rfl | kernel_rfl))) rfl ?_)
        (refine nx (aA (gN rfl) rfl rfl rfl rfl rfl) rfl ?_)
        show AWp _ _ _ _ _ _ _
        rw [hres, scS_eq h, e1]
        exact aT ⟨.inr rfl, _, Wk.refl _, rfl, rfl, rfl, rfl, rfl, rfl, rfl, trivial⟩
      · have h0 : kb x y = 0 := by simpa using hc
        rw [q2 h0]
        refine aK ?_
        show AWp _ _ _ _ _ _ _
        refine aR ?_
        (refine nx (a_add (gN rfl) rfl rfl rfl rfl rfl rfl (by first | omega | (simp only [List.length_map, List.length_append, List.length_cons, List.length_nil] <;> omega) | (simp <;> omega))) rfl ?_)
        (refine nx (aM (gN rfl) rfl rfl rfl rfl rfl) rfl ?_)
        refine ⟨hkl, fun j u v hj hu hv => ?_, wk_sub ⟨rfl, rfl, rfl, rfl, rfl, rfl, rfl, rfl, rfl, rfl, rfl, trivial⟩⟩
        rcases Nat.lt_or_ge j k with h | h
        · exact hI j u v h hu hv
        · have : j = k := by omega
          subst this
          rw [hx] at hu
          rw [hy] at hv
          cases hu; cases hv
          exact h0
    · have hkl : k = a.ps.length := by
        have : ¬ k < a.ps.length := by simpa using hlt
        omega
      subst hkl
      obtain ⟨e1, e2⟩ := scs_none (l := a.ps) (m := b.ps) fun j u v hu hv => hI j u v (by
        rcases Nat.lt_or_ge j a.ps.length with h | h
        · exact h
        · rw [List.getElem?_eq_none h] at hu; cases hu) hu hv
      have h0 : kb a b = 0 := by rw [kb_eq, verd_zero, hw, e2]
      rw [h0, sp2 h0]
      refine aE ?_
      show AWp _ _ _ _ _ _ _
      refine aS (aR ?_)
      (refine nx (aA (gN rfl) rfl rfl rfl rfl rfl) rfl ?_)
      show AWp _ _ _ _ _ _ _
      exact aT ⟨.inr rfl, _, Wk.refl _, rfl, rfl, rfl, rfl, rfl, rfl, rfl, trivial⟩
theorem emp_st : sst emp = sstN 0 0 0 := sst_N rfl
-- 
theorem kCmp_abs (W : World) (a b : Tm) (hr : a.rng) (hok : a.ok) (hs : a.size ≤ 100000000000) (hbr : b.rng) (hbok : b.ok) (hbs : b.size ≤ 100000000000) : AFun Tryz.prog W 62 [a.cw, b.cw] (.val (.i (kb a b))) := by
  have hc := kCompare_abs a hr hok hs b hbr hbok hbs
  rw [emp_st] at hc
  refine afun_of (rs := [.i (kb a b)]) Tryz.func62 Tryz.ntmps62 rfl rfl rfl rfl ?_
  intro w U hW
  refine aS (aR ?_)
  (refine nx (a_box (gN rfl) rfl rfl rfl rfl rfl) rfl ?_)
  (refine nx (a_box (gN rfl) rfl rfl rfl rfl rfl) rfl ?_)
  (refine nx (aA (gN rfl) rfl rfl rfl rfl rfl) rfl ?_)
  show AWp _ _ _ _ _ _ _
  refine aS (aR ?_)
  (refine nx (a_alloc9N 350001 (gN rfl) rfl rfl rfl rfl rfl rfl rfl rfl rfl rfl rfl rfl (fun v h => by first | (rw [hW.1] at h; cases h) | (have h2 := hU _ v h; cases h2))) rfl ?_)
  show AWp _ _ _ _ _ _ _
  refine AWp.wk ((wk_sub (s' := [(2, AV.bp 2 0 []), (100002, .bx a.cw), (3, .bp 3 0 []), (100003, .bx b.cw), (5, .bp 350001 0 []), (450001, .obj), (35500100, .val (.i 0)), (35500101, .val (.sc (.map none))), (35500102, .val (.i 0)), (35500103, .val (.i 0))]) ⟨rfl, rfl, rfl, rfl, rfl, by kernel_rfl, by kernel_rfl, by kernel_rfl, by kernel_rfl, by kernel_rfl, trivial⟩).trans (wk_nmap 35500101 300001 rfl rfl rfl (by kernel_rfl) (by kernel_rfl))) ?_
  refine aS (aR ?_)
  (refine nx (aL (gN rfl) rfl rfl rfl rfl rfl rfl rfl rfl rfl rfl rfl rfl) rfl ?_)
  (refine nx (aL (gN rfl) rfl rfl rfl rfl rfl rfl rfl rfl rfl rfl rfl rfl) rfl ?_)
  (refine nx (a_callO (gN rfl) rfl rfl rfl rfl rfl (hc) (by repeat (first | exact trivial | refine ⟨rfl, ?_⟩)) (by kernel_rfl) (sst_leave _) (by first | rfl | kernel_rfl) (by first | rfl | kernel_rfl) (hnb_of (by first | rfl | kernel_rfl))) rfl ?_)
  (refine nx (aA (gN rfl) rfl rfl rfl rfl rfl) rfl ?_)
  show AWp _ _ _ _ _ _ _
  exact aT ⟨.inr rfl, rfl⟩
-- 
theorem kGreater_abs (W : World) (a b : Tm) (hr : a.rng) (hok : a.ok) (hs : a.size ≤ 100000000000) (hbr : b.rng) (hbok : b.ok) (hbs : b.size ≤ 100000000000) : AFun Tryz.prog W 170 [a.cw, b.cw] (.val (.b (decide (kb a b = 1)))) := by
  refine afun_of (rs := [.b (decide (kb a b = 1))]) Tryz.func170 Tryz.ntmps170 rfl rfl rfl rfl ?_
  intro w U hW
  refine aS (aR ?_)
  (refine nx (a_box (gN rfl) rfl rfl rfl rfl rfl) rfl ?_)
  (refine nx (a_box (gN rfl) rfl rfl rfl rfl rfl) rfl ?_)
  (refine nx (aA (gN rfl) rfl rfl rfl rfl rfl) rfl ?_)
  show AWp _ _ _ _ _ _ _
  refine aS (aR ?_)
  (refine nx (aL (gN rfl) rfl rfl rfl rfl rfl rfl rfl rfl rfl rfl rfl rfl) rfl ?_)
  (refine nx (aL (gN rfl) rfl rfl rfl rfl rfl rfl rfl rfl rfl rfl rfl rfl) rfl ?_)
  (refine nx (a_call (gN rfl) rfl rfl rfl rfl rfl (kCmp_abs w a b hr hok hs hbr hbok hbs)) rfl ?_)
  (refine nx (a_eql (gN rfl) rfl rfl rfl rfl rfl rfl) rfl ?_)
  (refine nx (aA (gN rfl) rfl rfl rfl rfl rfl) rfl ?_)
  show AWp _ _ _ _ _ _ _
  exact aT ⟨.inr rfl, rfl⟩
noncomputable def covB (a b : Tm) : Bool := haveI := Classical.propDecidable; decide (cov a b)
theorem covB_iff (a b : Tm) : covB a b = true ↔ cov a b := by unfold covB; simp
end Go.Proofs.YteegmcfobgpemaaGreat
