/-
  AbNest4 AbDel AbRowO AbHdl AbYield AbYield2 AbYield3 SbFns SbApply SbVars SbSmall TmOrd RfSame RfLess RfFlat RfVars AbOf SbVnt SbRen SbSort SbClone
-/
import Derived.Test.YteegmcfobgpemaaGreatMg3
import Derived.Test.YteegmcfobgpemaaGreatMg2
namespace Go.Proofs.YteegmcfobgpemaaGreat
open Go.RowKit Go.MapKept
set_option linter.unusedVariables false
set_option linter.unusedSimpArgs false
section
variable {P : Program} {nt : Nat}

theorem callsM_of {f : FuncId} {fn : Func} {c : Code} {pre post : AS} {args : List AV} {r : AV} (hf : P.funcs[f]? = some fn) (hn : fn.ntmps = nt) (hb : fn.body = some c) (hl : Nat.ble args.length nt = true) (hnt : Nat.blt nt 100000 = true) (hpre : (kO pre).all (Nat.ble 100000) = true) (hpost : (kO post).all (Nat.ble 100000) = true) {w : World} {U : UX}
    (h : AWpM P w U nt c (fun e s' g => (e = .normal ∨ e = .ret) ∧ ∃ s2, Wk w U nt s' ((299999, .ob g 0) :: s2) ∧ resA P s2 fn.results.toList = some r ∧ SubL s2 post ∧ look s2 299999 = none) (argA args 0 ++ pre)) {hv : Nat → Value} {a0 : Act} {vs : List Value} (hpS : SimG w U 0 pre a0 w (fun _ _ => False) hv) (hargs : AVReps (Us w U (fun _ _ => False)) w hv (LiveN pre) args vs) :
    Calls P f vs.toArray w fun e w' => ∃ v D' hv' a', e = .returned v ∧ SimG w U 0 post a' w' D' hv' ∧ AVRep (Us w U D') w' hv' (LiveN post) r v := by
  have hlen := hargs.len
  refine callsIn_wide.1 (callsIn_of_wp_marks (F := Fence.wide) (n := 1) hf hb trivial ?_ rfl)
  have hle := Nat.le_of_ble_eq_true hl
  have hnt := bL hnt
  have hlow : ∀ {k av}, look pre k = some av → 100000 ≤ k := fun {k av} h1 => by
    rw [List.all_eq_true] at hpre
    exact Nat.le_of_ble_eq_true (hpre k (mem_keys h1))
  have hlk : ∀ {k}, 100000 ≤ k → look (argA args 0 ++ pre) k = look pre k := fun {k} h1 => by
    rw [look_append]
    cases h2 : look (argA args 0) k with
    | none => rfl
    | some av =>
      obtain ⟨_, h3⟩ := look_argA h2
      rw [Nat.sub_zero, List.getElem?_eq_none (by omega)] at h3
      cases h3
  have hlive : LiveN (argA args 0 ++ pre) = LiveN pre := by
    funext n
    unfold LiveN Live
    apply propext
    constructor
    · rintro (h1 | ⟨e, h1, h2, h3⟩)
      · exact .inl h1
      · rw [hlk (by omega)] at h1; exact .inr ⟨e, h1, h2, h3⟩
    · rintro (h1 | ⟨e, h1, h2, h3⟩)
      · exact .inl h1
      · exact .inr ⟨e, by rw [hlk (by omega)]; exact h1, h2, h3⟩
  have hs : Sim w U nt (argA args 0 ++ pre) { tmps := vs.toArray ++ Array.replicate (fn.ntmps - vs.toArray.size) undef, defers := [] } w := by
    refine ⟨fun _ _ => False, hv, hpS.below, rfl, by simp [hn]; omega, fun d av h1 h2 => ?_, fun n o av h1 h2 h3 h4 => ?_, fun n o o' av av' h1 h2 => ?_, fun k av h1 h2 => ?_, fun k av g h1 h2 => ?_, fun k k' av av' g h1 h2 h3 h4 => ?_, hpS.fix, fun b o hd => hd.elim⟩
    · rw [look_append] at h1
      cases h3 : look (argA args 0) d with
      | none =>
        rw [h3] at h1
        have := hlow h1
        omega
      | some av' =>
        rw [h3] at h1
        cases h1
        obtain ⟨_, h4⟩ := look_argA h3
        rw [Nat.sub_zero] at h4
        obtain ⟨v, h6, h7⟩ := hargs.at h4
        have hdl : d < vs.length := by
          rcases Nat.lt_or_ge d vs.length with h | h
          · exact h
          · rw [List.getElem?_eq_none h] at h6; cases h6
        rw [hlive]
        refine ⟨v, ?_, h7⟩
        rw [Array.getElem?_append_left (by simpa using hdl)]
        simpa using h6
    · rw [hlk (by unfold fKey; omega)] at h1
      rw [hlk (by omega)] at h3
      rw [hlive]
      exact hpS.fld n o av h1 h2 h3 h4
    · rw [hlk (by unfold fKey; omega)] at h1 h2
      exact hpS.fdis n o o' av av' h1 h2
    · rw [hlk h2.1] at h1; rw [hlive]; exact hpS.obj k av h1 h2
    · rw [hlk h2.1] at h1; exact hpS.blk k av g h1 h2
    · rw [hlk h3.1] at h1; rw [hlk h4.1] at h2; exact hpS.disj k k' av av' g h1 h2 h3 h4
  refine wpIn_mono (h _ w hs) ?_
  rintro e a' w' ⟨s', a'', g, ⟨h1, s2, g1, g2, g3, g4⟩, h3, rfl, g5⟩
  obtain ⟨D', hv', h4⟩ := g1 a'' w' h3
  obtain ⟨h5, h6, h7, y, h8, h9⟩ := h4.putob (n := 299999) (o := 0) (o' := 1) (by unfold RW; omega) (lS _ _ _) (x := .deferred none) (fun _ _ _ e => by cases e) (fun e => by cases e)
  have h9 := h9 rfl
  subst h9
  have hS := h5.sub (s' := s2) fun k av hk => by
    have hne : (299999 : Nat) ≠ k := fun e => by rw [← e, g4] at hk; cases hk
    rw [lN hne, lN hne]; exact hk
  obtain ⟨v, i1, i2⟩ := resA_run hS g2
  have hlow2 : ∀ {k av}, look post k = some av → 100000 ≤ k := fun {k av} h1 => by
    rw [List.all_eq_true] at hpost
    exact Nat.le_of_ble_eq_true (hpost k (mem_keys h1))
  have hSp := hS.sub g3.sub
  have hS0 : SimG w U 0 post ⟨#[], []⟩ (w'.putObj g (.deferred none)) D' hv' := ⟨hSp.below, rfl, rfl, fun d av h7 h8 => by have := hlow2 h7; omega, hSp.fld, hSp.fdis, hSp.obj, hSp.blk, hSp.disj, hSp.fix, hSp.dlt⟩
  have hleave : LeavesInM Fence.wide 1 P fn a''.tmps (fun e w' => ∃ v D' hv' a', e = .returned v ∧ SimG w U 0 post a' w' D' hv' ∧ AVRep (Us w U D') w' hv' (LiveN post) r v) [⟨.collected g, #[]⟩] .returning w' :=
    ⟨(fun e => by cases e), .inl ⟨g, _, rfl, run_takeDeferred h8, v, i1, v, D', hv', _, rfl, hS0, i2.move (fun _ _ _ h1 h2 => ⟨h1, h2⟩) (fun _ h7 => h7.imp id fun ⟨e, he⟩ => ⟨e, g3.sub _ _ he.1, he.2⟩) fun _ => rfl⟩⟩
  rcases h1 with rfl | rfl
  · exact hleave
  · exact hleave
theorem afunM_of {W : World} {f : FuncId} {fn : Func} {c : Code} {args : List CV} {r : CV} (hf : P.funcs[f]? = some fn) (hn : fn.ntmps = nt) (hname : (fn.name == "runtime.NumGoroutine") = false) (hb : fn.body = some c) (hl : Nat.ble (args.map AV.val).length nt = true) (hnt : Nat.blt nt 100000 = true)
    (h : ∀ (w : World) (U : UX), Hw w w U → AWpM P w U nt c (fun e s' g => (e = .normal ∨ e = .ret) ∧ ∃ s2, Wk w U nt s' ((299999, .ob g 0) :: s2) ∧ resA P s2 fn.results.toList = some (.val r) ∧ SubL s2 [] ∧ look s2 299999 = none) (argA (args.map AV.val) 0 ++ [])) : AFun P W f args (.val r) := by
  refine ⟨ent_of hf hname (by rw [hb]; rfl), .inl rfl, rfl, fun U w vs _ hv => ?_⟩
  obtain ⟨V, hV⟩ : ∃ V : UX, V = ⟨U, fun _ => False, fun _ => none, fun k v e => by cases e⟩ := ⟨_, rfl⟩
  have hus : ∀ b o v, U b o → w.cell? ⟨b, o, none⟩ = some v → Us w V (fun _ _ => False) b o ∧ w.cell? ⟨b, o, none⟩ = some v := fun b o v h1 h2 => ⟨.inl ⟨World.block_lt_of_cell? w _ h2, by rw [hV]; exact h1, by rw [hV]; exact fun h => h⟩, h2⟩
  have hS : SimG w V 0 [] ⟨#[], []⟩ w (fun _ _ => False) (fun _ => .slice none 0 0) := ⟨BelowX.refl _ _, rfl, rfl, (fun d av h => by cases h), (fun n o av h => by cases h), (fun n o o' av av' h => by cases h), (fun k av h => by cases h), (fun k av g h => by cases h), (fun k k' av av' g h => by cases h), (fun k v h => by rw [hV] at h; cases h), fun b o h => h.elim⟩
  have hargs : ∀ (cs : List CV) (vs : List Value), VReps U w cs vs → AVReps (Us w V (fun _ _ => False)) w (fun _ => .slice none 0 0) (LiveN []) (cs.map AV.val) vs := by
    intro cs
    induction cs with
    | nil => intro vs h; exact h
    | cons a cs ih =>
      rintro vs ⟨u, us, rfl, h1, h2⟩
      exact ⟨u, us, rfl, avrep_val (h1.keep hus), ih us h2⟩
  refine (callsM_of (post := []) hf hn hb hl hnt rfl rfl (h w V ⟨fun _ => by rw [hV], fun b hb => by rw [hV] at hb; exact hb⟩) hS (hargs args vs hv)).mono ?_
  rintro e w' ⟨v, D', hv', a', rfl, h1, h2⟩
  refine ⟨v, rfl, ?_, h1.below.below fun k hk => by rw [hV] at hk; exact hk⟩
  have h3 : VRep (Us w V D') w' r v := by
    have : VRep (Us w V D') w' r v ∧ Tk hv' (LiveN []) (.val r) v.cells.toList := h2
    exact this.1
  show VRep _ w' r v
  refine h3.keep fun b o u hu hc => ⟨?_, hc⟩
  rcases hu with hu | hu
  · left; have := hu.2.1; rw [hV] at this; exact this
  · exact .inr hu.1
end
end Go.Proofs.YteegmcfobgpemaaGreat
namespace Go.Proofs.YteegmcfobgpemaaGreat
open Go.RowKit
set_option linter.unusedVariables false
set_option linter.unusedSimpArgs false
section
variable {P : Program} {w0 : World} {U0 : UX} {nt : Nat} {ops : Array Oper} {o : Oper} {S : Nat → Option AV} {gs : List Nat} {d : Nat} {s : AS} {a : Act} {w : World} {D : Nat → Nat → Prop} {hv : Nat → Value}

theorem a_cut3 (i1 i2 i3 : Nat) (hg : Gd w0 U0 nt ops o gs S) (hd : o.dst = some d) (hn : Nat.blt d nt = true) (h5 : Nat.blt d 100000 = true) {x y y2 y3 : Operand} {t e : TypeId} {z : Nat} {k k2 k3 : IntKind} {j1 j2 j3 : Int} {n lo len n1 q1 p1 n2 q2 p2 n3 q3 p3} (ho : o.op = .slice t x (some y) (some y2) (some y3)) (hu : P.underlying t = some (.slice e)) (hi : (P.info? e).map (·.size) = some z) (hx : ev S x = some (.sl n lo len z)) (hy : ev S y = some ⟨0, .sc (.int k j1), n1, q1, p1⟩) (hy2 : ev S y2 = some ⟨0, .sc (.int k2 j2), n2, q2, p2⟩) (hy3 : ev S y3 = some ⟨0, .sc (.int k3 j3), n3, q3, p3⟩) (e1 : j1 = (i1 : Int)) (e2 : j2 = (i2 : Int)) (e3 : j3 = (i3 : Int)) (h12 : i1 ≤ i2) (h23 : i2 ≤ i3) (h3 : i3 ≤ len) :
    AOp P w0 U0 nt ops o (gs ++ (rd x ++ (rd y ++ (rd y2 ++ rd y3)))) [] S [(d, .no)] :=
  aop_val hg hd hn h5 (fun k hk => List.mem_append_left _ hk) fun s hs a w D hv hm => by
    obtain ⟨hrn, ao, m, cap, ao', h1, h2, h3', h4, h6, h7⟩ : RN n ∧ SlV (hv n) lo len z (a.eval x) := ev_rep hm (fun k hk => hs k (List.mem_append_right _ (List.mem_append_left _ hk))) hx
    have f1 := ev_sc hm (fun k hk => hs k (List.mem_append_right _ (List.mem_append_right _ (List.mem_append_left _ hk)))) hy
    have f2 := ev_sc hm (fun k hk => hs k (List.mem_append_right _ (List.mem_append_right _ (List.mem_append_right _ (List.mem_append_left _ hk))))) hy2
    have f3 := ev_sc hm (fun k hk => hs k (List.mem_append_right _ (List.mem_append_right _ (List.mem_append_right _ (List.mem_append_right _ hk))))) hy3
    have hsz := run_sizeOf (P := P) (w := w) hi
    have b3 := run_bound (P := P) (w := w) (k := k3) (j := i3) (y := cap - lo) (code := .slice3Acap) (by omega)
    have b2 := run_bound (P := P) (w := w) (k := k2) (j := i2) (y := i3) (code := .slice3B) h23
    have b1 := run_bound (P := P) (w := w) (k := k) (j := i1) (y := i2) (code := .slice3C) h12
    subst e1 e2 e3
    refine ⟨.slice (if i3 = i1 then ao' else ao'.map (·.add (i1 * z))) (i2 - i1) (i3 - i1), ?_, trivial⟩
    generalize a.eval = ρ at h2 f1 f2 f3 ⊢
    simp [execOp, ho, Instr.sliceAt, Instr.slice, run_underlying hu, h2, f1, f2, f3, Instr.sliceBounds, b1, b2, b3, hsz]

theorem a_cutM (i1 i2 : Nat) (hg : Gd w0 U0 nt ops o gs S) (hd : o.dst = some d) (hn : Nat.blt d nt = true) (h5 : Nat.blt d 100000 = true) {x y y2 : Operand} {t e e' : TypeId} {z : Nat} {l : List CV} {k k2 : IntKind} {j1 j2 : Int} {n len n1 q1 p1 n2 q2 p2} (ho : o.op = .slice t x (some y) (some y2) none) (hu : P.underlying t = some (.slice e)) (hi : (P.info? e).map (·.size) = some z) (hx : ev S x = some (.sl n 0 len z)) (hy : ev S y = some ⟨0, .sc (.int k j1), n1, q1, p1⟩) (hy2 : ev S y2 = some ⟨0, .sc (.int k2 j2), n2, q2, p2⟩) (hm' : S n = some (.mrow e' z l)) (e1 : j1 = (i1 : Int)) (e2 : j2 = (i2 : Int)) (h12 : i1 ≤ i2) (h3 : i2 ≤ l.length) :
    AOp P w0 U0 nt ops o (gs ++ (rd x ++ (rd y ++ (rd y2 ++ [n])))) [] S [(d, .sl n i1 (i2 - i1) z)] :=
  aop_val hg hd hn h5 (fun k hk => List.mem_append_left _ hk) fun s hs a w D hv hm => by
    obtain ⟨hrn, ao, m, cap, ao', h1, h2, h3', h4, h6, h7⟩ : RN n ∧ SlV (hv n) 0 len z (a.eval x) := ev_rep hm (fun k hk => hs k (List.mem_append_right _ (List.mem_append_left _ hk))) hx
    have f1 := ev_sc hm (fun k hk => hs k (List.mem_append_right _ (List.mem_append_right _ (List.mem_append_left _ hk)))) hy
    have f2 := ev_sc hm (fun k hk => hs k (List.mem_append_right _ (List.mem_append_right _ (List.mem_append_right _ (List.mem_append_left _ hk))))) hy2
    obtain ⟨xs, g1, g2, g3, g4⟩ := hm.mrow ((hs n (by simp)).trans hm') hrn
    obtain ⟨ao2, cap2, c1, c2, _⟩ := own_slice g1
    have hcap : l.length ≤ cap := by rw [h1] at c1; injection c1 with _ _ c3; omega
    have hsz := run_sizeOf (P := P) (w := w) hi
    have b2 := run_bound (P := P) (w := w) (k := k2) (j := i2) (y := cap) (code := .sliceAcap) (by omega)
    have b1 := run_bound (P := P) (w := w) (k := k) (j := i1) (y := i2) (code := .sliceB) h12
    subst e1 e2
    have h2 : a.eval x = .slice ao len cap := by rw [h2, h4 rfl]; rfl
    refine ⟨.slice (if cap = i1 then ao else ao.map (·.add (i1 * z))) (i2 - i1) (cap - i1), ?_, hrn, ao, m, cap, _, h1, rfl, by show i1 + (i2 - i1) ≤ cap; omega, fun h8 => ?_, fun h8 => ?_, ?_⟩
    · generalize a.eval = ρ at h2 f1 f2 ⊢
      simp [execOp, ho, Instr.sliceAt, Instr.slice, run_underlying hu, h2, f1, f2, Instr.sliceBounds, b1, b2, hsz]
    · have h8 : i1 = 0 := h8
      subst h8
      split
      · rfl
      · cases ao with
        | none => rfl
        | some ad => simp [Addr.add]
    · have h8 : i1 < cap := h8
      intro g hg'
      rw [if_neg (by omega), hg']
      show some ((⟨g, 0, none⟩ : Addr).add (i1 * z)) = some ⟨g, i1 * z, none⟩
      rw [add_at, Nat.zero_add]
    · split
      · exact Iff.rfl
      · rw [Option.map_eq_none_iff]

theorem a_appI (hg : Gd w0 U0 nt ops o gs S) (hd : o.dst = some d) (hn : Nat.blt d nt = true) (h5 : Nat.blt d 100000 = true) {x y : Operand} {t e size bytes : Nat} {zv : Value} {l : List CV} {n len lo2 len2} (ho : o.op = .call { callee := .builtin .append, args := #[x, y], argTypes := #[t, t] }) (ht : P.underlying t = some (.slice e)) (hi : (P.info? e).map (fun i => (i.zero, i.size, i.bytes)) = some (some zv, size, bytes))
    (hx : ev S x = some (.sl n 0 len size)) (hy : ev S y = some (.sl n lo2 len2 size)) (hm' : S n = some (.mrow e size l)) (hl : len + len2 ≤ l.length) (hl2 : lo2 + len2 ≤ l.length) :
    AOp P w0 U0 nt ops o (gs ++ (rd x ++ (rd y ++ [n]))) [] S [(d, .sl n 0 (len + len2) size), (n, .mrow e size (l.take len ++ ((l.drop lo2).take len2 ++ l.drop (len + len2))))] := by
  intro s hs hN a w ⟨D, hv, h⟩ Q K hK
  rw [if_pos (hg s (fun k hk => hs k (List.mem_append_left _ hk)) a w D hv h)]
  obtain ⟨hrn, ao, m, cap, ao', h1, h2, h3, h4, h6, h7⟩ : RN n ∧ SlV (hv n) 0 len size (a.eval x) := ev_rep h (fun k hk => hs k (List.mem_append_right _ (List.mem_append_left _ hk))) hx
  obtain ⟨_, ao2, m2, cap2, ao2', j1, j2, j3, j4, j6, j7⟩ : RN n ∧ SlV (hv n) lo2 len2 size (a.eval y) := ev_rep h (fun k hk => hs k (List.mem_append_right _ (List.mem_append_right _ (List.mem_append_left _ hk)))) hy
  have h2 : a.eval x = .slice ao len cap := by rw [h2, h4 rfl]; rfl
  obtain ⟨i, hi1, hi2, hi3, hi4⟩ := info_parts hi
  have hok : oKey n := by unfold RN at hrn; unfold oKey; omega
  have hm := (hs n (by simp)).trans hm'
  obtain ⟨xs, g1, g2, g3, g4⟩ := h.mrow hm hrn
  obtain ⟨ao3, cap3, c1, c2, _⟩ := own_slice g1
  have hcl : l.length ≤ cap := by rw [h1] at c1; injection c1 with _ _ c3; omega
  have hv2 : SlV (hv n) 0 (len + len2) size (.slice ao (len + len2) cap) := ⟨ao, m, cap, ao, h1, rfl, by omega, fun _ => rfl, fun _ g hg' => by rw [hg', Nat.zero_mul], Iff.rfl⟩
  by_cases hz : len2 = 0
  · subst hz
    have he : (execOp a.eval o).run P w = .ok (.value (.slice ao len cap)) w := by
      have hle : len ≤ cap := by omega
      generalize a.eval = ρ at h2 j2 ⊢
      cases ao <;> cases ao2' <;> simp [execOp, ho, resolve, invoke, builtin, h2, j2, Builtin.append_, run_underlying ht, sizeOf, typeInfo, hi1, Builtin.lenOf, Builtin.firstCells, loadCells, loadCellsFrom, storeCells, hle, Result.andThen]
    unfold Oper.wp
    rw [he, Oper.upon_value, hd]
    have hl' : l.take len ++ ((l.drop lo2).take 0 ++ l.drop (len + 0)) = l := by simp
    refine hK _ _ ⟨D, hv, ?_⟩
    rw [hl']
    have hP := h.put (d := d) (av := .sl n 0 (len + 0) size) (v := .slice ao len cap) (bL hn) (bL h5) ⟨hrn, by rw [Nat.add_zero] at hv2 ⊢; exact hv2⟩
    refine hP.congr fun k => ?_
    show look ((d, _) :: (n, AV.mrow e size l) :: s) k = look ((d, _) :: s) k
    rw [look_cons, look_cons, look_cons]
    split
    · rfl
    · split
      · rename_i e; rw [← e]; exact hm.symm
      · rfl
  obtain ⟨g, cap', cur, f1, f2, f3, f4, f6, f7, f8, f9⟩ := own_some g1 (by omega)
  obtain rfl : cap = cap' := by rw [f1] at h1; injection h1 with k1 k2 k3; exact k3.symm
  obtain rfl : ao = some ⟨g, 0, none⟩ := by rw [f1] at h1; injection h1 with k1 k2 k3; exact k1.symm
  obtain rfl : cap = cap2 := by rw [f1] at j1; injection j1 with k1 k2 k3
  obtain rfl : ao2 = some ⟨g, 0, none⟩ := by rw [f1] at j1; injection j1 with k1 k2 k3; exact k1.symm
  have ha : ao2' = some ⟨g, lo2 * size, none⟩ := j6 (by omega) g rfl
  subst ha
  -- the cells that are appended
  have hsplit2 : l = l.take lo2 ++ ((l.drop lo2).take len2 ++ (l.drop lo2).drop len2) := by rw [List.take_append_drop, List.take_append_drop]
  have q4 := g4
  rw [hsplit2, List.map_append, List.map_append] at q4
  obtain ⟨x1, x4, ex1, t1, t2⟩ := sq_split q4
  obtain ⟨zs, x3, ex2, t3, t4⟩ := sq_split t2
  have hx1 : x1.length = lo2 * size := by rw [sq_len (n := CV.size) (fun c _ xs h => h.len) t1, sum_const (fun c hc => g3 c (List.mem_of_mem_take hc)), List.length_take, Nat.min_eq_left (by omega)]
  have hzsl : zs.length = len2 * size := by rw [sq_len (n := CV.size) (fun c _ xs h => h.len) t3, sum_const (fun c hc => g3 c (List.mem_of_mem_drop (List.mem_of_mem_take hc))), List.length_take, List.length_drop, Nat.min_eq_left (by omega)]
  have hone : ∀ v ∈ zs, v.oneCell' = true := rep_one_of t3
  have hxl : xs.length = l.length * size := g1.1
  have hcl2 : len * size + len2 * size ≤ l.length * size := by rw [← Nat.add_mul]; exact Nat.mul_le_mul_right _ hl
  have hcl3 : lo2 * size + len2 * size ≤ l.length * size := by rw [← Nat.add_mul]; exact Nat.mul_le_mul_right _ hl2
  have hcap : l.length * size ≤ cap * size := Nat.mul_le_mul_right _ f3
  have f7 : cur.toList.take (l.length * size) = xs := f7
  have f6 : cur.size = cap * size := f6
  have hnews : ∀ j u, zs[j]? = some u → w.cell? ((⟨g, lo2 * size, none⟩ : Addr).add j) = some u := fun j u hj => by
    have hjl : j < zs.length := by
      rcases Nat.lt_or_ge j zs.length with h | h
      · exact h
      · rw [List.getElem?_eq_none h] at hj; cases hj
    rw [add_at]
    have hc : xs[lo2 * size + j]? = some u := by rw [ex1, ex2, ← hx1, List.getElem?_append_right (by omega), Nat.add_sub_cancel_left, List.getElem?_append_left hjl]; exact hj
    have hown : w.ownsRow 0 e size (.slice (some ⟨g, 0, none⟩) l.length cap) l.length xs := by rw [← f1]; exact g1
    rw [hown.cellAt _ (by omega)]
    exact hc
  have hr := run_append_room (P := P) w t o.type e i ht hi1 g len cap cur f2 ⟨g, lo2 * size, none⟩ len2 (cap - lo2) zs (by rw [hi3]; exact hzsl) hnews hone (by omega) (by rw [hi3, hzsl, f6]; omega)
  rw [hi3] at hr
  have he : (execOp a.eval o).run P w = .ok (.value (.slice (some ⟨g, 0, none⟩) (len + len2) cap)) (w.setRow g (cur.toList.take (len * size) ++ zs ++ cur.toList.drop (len * size + zs.length)).toArray) := by
    generalize a.eval = ρ at h2 j2 ⊢
    simp [execOp, ho, resolve, invoke, builtin, h2, j2, hr, Result.andThen]
  unfold Oper.wp
  rw [he, Oper.upon_value, hd]
  obtain ⟨l', hl'⟩ : ∃ l', l' = l.take len ++ ((l.drop lo2).take len2 ++ l.drop (len + len2)) := ⟨_, rfl⟩
  have hll : l'.length = l.length := by rw [hl']; simp; omega
  refine hK _ _ ?_
  rw [← hl']
  suffices hG : SimG w0 U0 nt ((n, .mrow e size l') :: s) a (w.setRow g (cur.toList.take (len * size) ++ zs ++ cur.toList.drop (len * size + zs.length)).toArray) D hv from ⟨_, _, hG.put (bL hn) (bL h5) ⟨hrn, hv2⟩⟩
  refine h.store (av := .mrow e size l') hok hm (by simp) (by simp) rfl (fun g' hn o _ => hn o (by simp)) (by simp) f9 f2 fun w' hw hkp => ?_
  have hsplit : l = l.take len ++ ((l.drop len).take len2 ++ (l.drop len).drop len2) := by rw [List.take_append_drop, List.take_append_drop]
  have g4' := g4
  rw [hsplit, List.map_append, List.map_append] at g4'
  obtain ⟨y1, r1, e1, s1, s2⟩ := sq_split g4'
  obtain ⟨y2, y3, e2, s3, s4⟩ := sq_split s2
  have hy1 : y1.length = len * size := by rw [sq_len (n := CV.size) (fun c _ xs h => h.len) s1, sum_const (fun c hc => g3 c (List.mem_of_mem_take hc)), List.length_take, Nat.min_eq_left (by omega)]
  have hy2 : y2.length = len2 * size := by rw [sq_len (n := CV.size) (fun c _ xs h => h.len) s3, sum_const (fun c hc => g3 c (List.mem_of_mem_drop (List.mem_of_mem_take hc))), List.length_take, List.length_drop, Nat.min_eq_left (by omega)]
  have hy3 : y1.length + (y2.length + y3.length) = l.length * size := by have := hxl; rw [e1, e2] at this; simpa using this
  have hcur : cur.toList = y1 ++ (y2 ++ (y3 ++ cur.toList.drop (l.length * size))) := by
    conv => lhs; rw [← List.take_append_drop (l.length * size) cur.toList, f7, e1, e2]
    simp
  have hnew : cur.toList.take (len * size) ++ zs ++ cur.toList.drop (len * size + zs.length) = (y1 ++ (zs ++ y3)) ++ cur.toList.drop (l.length * size) := by
    have t1 : cur.toList.take (len * size) = y1 := by rw [hcur, ← hy1]; simp
    have t2 : cur.toList.drop (len * size + zs.length) = y3 ++ cur.toList.drop (l.length * size) := by
      rw [hzsl, ← hy1, ← hy2]
      conv => lhs; rw [hcur]
      rw [← List.append_assoc, List.drop_append_of_le_length (by simp)]
      simp
    rw [t1, t2]
    simp
  rw [hnew] at hw
  refine ⟨y1 ++ (zs ++ y3), ⟨?_, .inr ⟨g, cap, _, ?_, Nat.zero_le _, hw, ?_, f4, ?_, ?_⟩⟩, g2, fun x hx => ?_, ?_⟩
  · show _ = l'.length * size
    rw [hll]
    simp only [List.length_append, hzsl]
    omega
  · show hv n = .slice _ l'.length cap
    rw [hll]; exact f1
  · show l'.length ≤ cap
    rw [hll]; exact f3
  · have := congrArg List.length hcur
    rw [Array.length_toList, f6] at this
    simp only [List.size_toArray, List.length_append, hzsl] at this ⊢
    show _ = cap * size
    omega
  · show List.take (l'.length * size) _ = _
    rw [hll, List.take_append_of_le_length (by simp only [List.length_append, hzsl]; omega), List.take_of_length_le (by simp only [List.length_append, hzsl]; omega)]
  · have hx : x ∈ l' := hx
    rw [hl', List.mem_append, List.mem_append] at hx
    rcases hx with hx | hx | hx
    · exact g3 x (List.mem_of_mem_take hx)
    · exact g3 x (List.mem_of_mem_drop (List.mem_of_mem_take hx))
    · exact g3 x (List.mem_of_mem_drop hx)
  · show Sq (l'.map fun c => Rep (Us w0 U0 D) w' c) _
    rw [hl', List.map_append, List.map_append]
    refine sq_append (Sq.keep hkp s1) (sq_append (Sq.keep hkp t3) ?_)
    rw [← List.drop_drop]
    exact Sq.keep hkp s4
end
end Go.Proofs.YteegmcfobgpemaaGreat
namespace Go.Proofs.YteegmcfobgpemaaGreat
open Go.RowKit
set_option linter.unusedVariables false
set_option linter.unusedSimpArgs false
set_option maxRecDepth 100000

end Go.Proofs.YteegmcfobgpemaaGreat
namespace Go.Proofs.YteegmcfobgpemaaGreat
open Go.RowKit
set_option linter.unusedVariables false
set_option linter.unusedSimpArgs false
def cutV : Value → Nat → Value
  | .slice ao _ cap, len => .slice ao len cap
  | v, _ => v
def AFunH (P : Program) (f : FuncId) (pre : AS) (n1 n2 : Nat) (args : Value → Value → List AV) (r : Value → Value → AV) (post : AS) : Prop :=
  EntF P f ∧ ∀ (U : UX) (w : World) (hv : Nat → Value) (a0 : Act) (vs : List Value), (∀ k v, U.f k = some v → hasN (kO pre) k = true) → SimG w U 0 pre a0 w (fun _ _ => False) hv → AVReps (Us w U (fun _ _ => False)) w hv (LiveN pre) (args (hv n1) (hv n2)) vs →
    Calls P f vs.toArray w fun e w' => ∃ v D' hv' a', e = .returned v ∧ SimG w U 0 post a' w' D' hv' ∧ AVRep (Us w U D') w' hv' (LiveN post) (r (hv n1) (hv n2)) v

section
variable {P : Program} {w0 : World} {U0 : UX} {nt : Nat} {ops : Array Oper} {o : Oper} {S : Nat → Option AV} {gs : List Nat} {d : Nat} {s : AS} {a : Act} {w : World} {D : Nat → Nat → Prop} {hv : Nat → Value}

theorem afunH_of (d1 n1 d2 n2 : Nat) {f : FuncId} {fn : Func} {c : Code} {pre post : AS} {args : Value → Value → List AV} {r : Value → Value → AV} (hf : P.funcs[f]? = some fn) (hn : fn.ntmps = nt) (hname : (fn.name == "runtime.NumGoroutine") = false) (hb : fn.body = some c) (hl : ∀ v1 v2, Nat.ble (args v1 v2).length nt = true) (hdd : (Nat.blt d1 nt && Nat.blt d2 nt) = true) (hnn : (Nat.ble 200000 n1 && Nat.blt n1 450000 && (Nat.ble 200000 n2 && Nat.blt n2 450000)) = true) (hnt : Nat.blt nt 100000 = true) (hpre : (kO pre).all (Nat.ble 100000) = true) (hpost : (kO post).all (Nat.ble 100000) = true)
    (h : ∀ (v1 v2 : Value) (w : World) (U : UX), (∀ k v, U.f k = some v → hasN (kO pre) k = true) → AWp P w U nt c (fun e s' => (e = .normal ∨ e = .ret) ∧ EndO P w U nt fn s' (r v1 v2) post) ((d1, .hdl v1 n1) :: (d2, .hdl v2 n2) :: (argA (args v1 v2) 0 ++ pre))) : AFunH P f pre n1 n2 args r post := by
  refine ⟨ent_of hf hname (by rw [hb]; rfl), fun U w hv a0 vs hU hpS hargs => ?_⟩
  have hlen := hargs.len
  refine calls_of_wp hf hb ?_
  have hle := Nat.le_of_ble_eq_true (hl (hv n1) (hv n2))
  have hnt := bL hnt
  have hlow : ∀ {k av}, look pre k = some av → 100000 ≤ k := fun {k av} h1 => by
    rw [List.all_eq_true] at hpre
    exact Nat.le_of_ble_eq_true (hpre k (mem_keys h1))
  have hlk : ∀ {k}, 100000 ≤ k → look (argA (args (hv n1) (hv n2)) 0 ++ pre) k = look pre k := fun {k} h1 => by
    rw [look_append]
    cases h2 : look (argA (args (hv n1) (hv n2)) 0) k with
    | none => rfl
    | some av =>
      obtain ⟨_, h3⟩ := look_argA h2
      rw [Nat.sub_zero, List.getElem?_eq_none (by omega)] at h3
      cases h3
  have hlive : LiveN (argA (args (hv n1) (hv n2)) 0 ++ pre) = LiveN pre := by
    funext n
    unfold LiveN Live
    apply propext
    constructor
    · rintro (h1 | ⟨e, h1, h2, h3⟩)
      · exact .inl h1
      · rw [hlk (by omega)] at h1; exact .inr ⟨e, h1, h2, h3⟩
    · rintro (h1 | ⟨e, h1, h2, h3⟩)
      · exact .inl h1
      · exact .inr ⟨e, by rw [hlk (by omega)]; exact h1, h2, h3⟩
  have hs0 : SimG w U nt (argA (args (hv n1) (hv n2)) 0 ++ pre) { tmps := vs.toArray ++ Array.replicate (fn.ntmps - vs.toArray.size) undef, defers := [] } w (fun _ _ => False) hv := by
    refine ⟨hpS.below, rfl, by simp [hn]; omega, fun d av h1 h2 => ?_, fun n o av h1 h2 h3 h4 => ?_, fun n o o' av av' h1 h2 => ?_, fun k av h1 h2 => ?_, fun k av g h1 h2 => ?_, fun k k' av av' g h1 h2 h3 h4 => ?_, hpS.fix, fun b o hd => hd.elim⟩
    · rw [look_append] at h1
      cases h3 : look (argA (args (hv n1) (hv n2)) 0) d with
      | none =>
        rw [h3] at h1
        have := hlow h1
        omega
      | some av' =>
        rw [h3] at h1
        cases h1
        obtain ⟨_, h4⟩ := look_argA h3
        rw [Nat.sub_zero] at h4
        obtain ⟨v, h6, h7⟩ := hargs.at h4
        have hdl : d < vs.length := by
          rcases Nat.lt_or_ge d vs.length with h | h
          · exact h
          · rw [List.getElem?_eq_none h] at h6; cases h6
        rw [hlive]
        refine ⟨v, ?_, h7⟩
        rw [Array.getElem?_append_left (by simpa using hdl)]
        simpa using h6
    · rw [hlk (by unfold fKey; omega)] at h1
      rw [hlk (by omega)] at h3
      rw [hlive]
      exact hpS.fld n o av h1 h2 h3 h4
    · rw [hlk (by unfold fKey; omega)] at h1 h2
      exact hpS.fdis n o o' av av' h1 h2
    · rw [hlk h2.1] at h1; rw [hlive]; exact hpS.obj k av h1 h2
    · rw [hlk h2.1] at h1; exact hpS.blk k av g h1 h2
    · rw [hlk h3.1] at h1; rw [hlk h4.1] at h2; exact hpS.disj k k' av av' g h1 h2 h3 h4
  simp only [Bool.and_eq_true] at hdd hnn
  have hk1 : d1 < nt := bL hdd.1
  have hk2 : d2 < nt := bL hdd.2
  have hr1 : RN n1 := ⟨Nat.le_of_ble_eq_true hnn.1.1, bL hnn.1.2⟩
  have hr2 : RN n2 := ⟨Nat.le_of_ble_eq_true hnn.2.1, bL hnn.2.2⟩
  have hs1 := hs0.know (d := d2) (av := .hdl (hv n2) n2) (by omega) (Array.getElem?_eq_getElem (by rw [hs0.size]; exact hk2)) ⟨hr2, rfl⟩
  have hs2 := hs1.know (d := d1) (av := .hdl (hv n1) n1) (by omega) (Array.getElem?_eq_getElem (by rw [hs0.size]; exact hk1)) ⟨hr1, rfl⟩
  have hs : Sim w U nt ((d1, .hdl (hv n1) n1) :: (d2, .hdl (hv n2) n2) :: (argA (args (hv n1) (hv n2)) 0 ++ pre)) { tmps := vs.toArray ++ Array.replicate (fn.ntmps - vs.toArray.size) undef, defers := [] } w := ⟨_, _, hs2⟩
  refine wp_mono ((h (hv n1) (hv n2) w U hU ⟨none, []⟩ _ w hs).wp rfl (fun e a w ⟨s, _, h⟩ => h.df)) ?_
  rintro e a' w' ⟨s', ⟨h1, s2, g1, g2, g3⟩, h3⟩
  obtain ⟨D', hv', h4⟩ := g1 a' w' h3
  obtain ⟨v, h5, h6⟩ := resA_run h4 g2
  have hS := h4.sub g3.sub
  have hlow2 : ∀ {k av}, look post k = some av → 100000 ≤ k := fun {k av} h1 => by
    rw [List.all_eq_true] at hpost
    exact Nat.le_of_ble_eq_true (hpost k (mem_keys h1))
  have hS0 : SimG w U 0 post ⟨#[], []⟩ w' D' hv' := ⟨hS.below, rfl, rfl, fun d av h7 h8 => by have := hlow2 h7; omega, hS.fld, hS.fdis, hS.obj, hS.blk, hS.disj, hS.fix, hS.dlt⟩
  rcases h1 with rfl | rfl
  · exact ⟨h4.dfr, v, h5, v, D', hv', _, rfl, hS0, h6.move (fun _ _ _ h1 h2 => ⟨h1, h2⟩) (fun _ h7 => h7.imp id fun ⟨e, he⟩ => ⟨e, g3.sub _ _ he.1, he.2⟩) fun _ => rfl⟩
  · exact ⟨h4.dfr, v, h5, v, D', hv', _, rfl, hS0, h6.move (fun _ _ _ h1 h2 => ⟨h1, h2⟩) (fun _ h7 => h7.imp id fun ⟨e, he⟩ => ⟨e, g3.sub _ _ he.1, he.2⟩) fun _ => rfl⟩

theorem a_callH (dh1 dh2 : Nat) {f : FuncId} {xs : Array Operand} {ts : Array TypeId} {ar : Value → Value → List AV} {rr : Value → Value → AV} {pre post : AS} {n1 n2 : Nat} {u1 u2 : Value} (hg : Gd w0 U0 nt ops o gs S) (hd : o.dst = some d) (hn : Nat.blt d nt = true) (h5 : Nat.blt d 100000 = true)
    (ho : o.op = .call { callee := .value (.func f), args := xs, argTypes := ts }) (hc : AFunH P f pre n1 n2 ar rr post) (hh1 : S dh1 = some (.hdl u1 n1)) (hh2 : S dh2 = some (.hdl u2 n2)) (hdh : (Nat.blt dh1 100000 && Nat.blt dh2 100000) = true) (hx : evsA S xs.toList = some (ar u1 u2)) (hp : SubS S pre) (hl : pre.all lendB = true) (hq : post.all (leaveB (kO post)) = true) (hks : (kO pre).all (hasN (kO post)) = true) (hr : refB (kO post) (rr u1 u2) = true) (hnb : ∀ k v, U0.f k = some v → hasN (kO post) k = true → hasN (kO pre) k = true) :
    AOp P w0 U0 nt ops o (gs ++ (rdl xs.toList ++ (kO pre ++ [dh1, dh2]))) (newN (kO pre) (kO post) (kO post)) S ((d, rr u1 u2) :: post) := by
  intro s hs hN a w ⟨D, hv, h⟩ Q K hK
  rw [if_pos (hg s (fun k hk => hs k (List.mem_append_left _ hk)) a w D hv h)]
  have hargs := evsA_rep h (fun k hk => hs k (List.mem_append_right _ (List.mem_append_left _ hk))) hx
  have hsub : Sub s pre := fun k av h1 => (hs k (List.mem_append_right _ (List.mem_append_right _ (List.mem_append_left _ (mem_keys h1))))).trans (hp.look h1)
  obtain ⟨V, v1, v2, v3, v4, v5, v6⟩ := h.lend hsub hl
  obtain ⟨h1, h2⟩ := hc
  rw [Bool.and_eq_true] at hdh
  obtain ⟨_, _, hx1⟩ : ∃ v, a.tmps[dh1]? = some v ∧ RN n1 ∧ hv n1 = u1 := h.slot dh1 _ ((hs dh1 (by simp)).trans hh1) (bL hdh.1)
  obtain ⟨_, _, hx2⟩ : ∃ v, a.tmps[dh2]? = some v ∧ RN n2 ∧ hv n2 = u2 := h.slot dh2 _ ((hs dh2 (by simp)).trans hh2) (bL hdh.2)
  have h2 := fun V a0 vs q1 q2 q3 => h2 V w hv a0 vs q1 q2 q3
  rw [hx1.2, hx2.2] at h2
  have hcall := h2 V ⟨#[], []⟩ _ v1 v2 (hargs.imp fun c _ v hcv => hcv.move v6 (fun _ h3 => h3.imp id fun ⟨e, he⟩ => ⟨e, hsub _ _ he.1, he.2⟩) fun _ => rfl)
  have he : (execOp a.eval o).run P w = .ok (.enter f (xs.toList.map a.eval).toArray) w := by
    have hf : a.eval (.func f) = .func (.func f) #[] #[] := rfl
    have hen := h1 (xs.map a.eval) w
    have harr : (xs.toList.map a.eval).toArray = xs.map a.eval := by apply Array.ext'; simp
    rw [harr]
    generalize a.eval = ρ at hf hen ⊢
    simp [execOp, ho, resolve, invoke, Deferred.ofValue, hf, hen]
  unfold Oper.wp
  rw [he, Oper.upon_enter]
  refine hcall.mono ?_
  rintro e w' ⟨v, D', hv', a', rfl, h6, h7⟩
  rw [hd]
  obtain ⟨D2, hv2, h8, h9⟩ := h.back hsub hl hq hks hN hnb v3 v4 v5 v2 h6
  exact hK _ _ ⟨D2, hv2, h8.put (bL hn) (bL h5) (h9.1 (rr u1 u2) v hr h7)⟩

theorem a_bsliceM (nn : Nat) (hg : Gd w0 U0 nt ops o gs S) (hd : o.dst = some d) (hn : Nat.blt d nt = true) (h5 : Nat.blt d 100000 = true) {t e : TypeId} {len : Nat} {parts : Array (Nat × Operand)} {ie : TypeInfo} {z : Value} {cs : List CV} {sz : Nat} (ho : o.op = .buildSlice t len parts) (hu : P.underlying t = some (.slice e)) (hi : P.info? e = some ie) (hsz0 : ie.size = sz) (hz : ie.zero = some z) (hdn : dense parts.toList 0 = true) (hx : evsO S (parts.toList.map (·.2)) = some cs) (hl : Nat.beq cs.length len = true) (hsz : szAll cs sz = true) (hp : Nat.blt 0 (len * sz) = true) (h24 : Nat.ble (len * sz) 16777216 = true) (hn2 : (Nat.ble 200000 nn && Nat.blt nn 400000) = true) :
    AOp P w0 U0 nt ops o (gs ++ rdl (parts.toList.map (·.2))) [(nn, [])] S [(d, .sl nn 0 len sz), (nn, .mrow e sz cs)] := by
  subst hsz0
  intro s hs hN a w ⟨D, hv, h⟩ Q K hK
  rw [if_pos (hg s (fun k hk => hs k (List.mem_append_left _ hk)) a w D hv h)]
  have hvv := evsO_rep h (fun k hk => hs k (List.mem_append_right _ hk)) hx
  rw [List.map_map] at hvv
  have hlen : cs.length = len := Nat.eq_of_beq_eq_true hl
  have hvl := hvv.len
  have hpos := bL hp
  have hs0 : 0 < ie.size := Nat.pos_of_ne_zero fun e => by rw [e] at hpos; simp at hpos
  have hsizes := vreps_size hvv (sZ hsz)
  obtain ⟨vs, hvs⟩ : ∃ vs, vs = parts.toList.map (a.eval ∘ (·.2)) := ⟨_, rfl⟩
  rw [← hvs] at hvv hvl hsizes
  obtain ⟨r, hf, hrs, hrk⟩ := Great.fill_dense hs0 vs 0 ((Array.range (len * ie.size)).map (z.cells[· % z.cells.size]!)) hsizes (by simp; rw [hvl, hlen]; exact Nat.le_refl _)
  have hr : r.toList = (vs.map fun v => v.cells.toList).flatten := by
    apply List.ext_getElem?
    intro k
    rw [flat_const hs0 _ (by intro v hv'; rw [List.mem_map] at hv'; obtain ⟨u, hu, rfl⟩ := hv'; simpa using hsizes u hu)]
    have := hrk k
    rw [← Array.getElem?_toList] at this
    simp only [Nat.zero_mul, Nat.zero_le, true_and, Nat.zero_add] at this
    rw [this]
    by_cases hk : k < vs.length * ie.size
    · rw [if_pos hk]
      simp only [Nat.sub_zero, List.getElem?_map]
      cases vs[k / ie.size]? <;> simp
    · rw [if_neg hk, Array.getElem?_eq_none (by simp; rw [← hlen, ← hvl]; omega)]
      rw [List.getElem?_map, List.getElem?_eq_none (by rw [Nat.le_div_iff_mul_le hs0]; omega)]
      rfl
  have he : (execOp a.eval o).run P w = .ok (.value (.slice (some ⟨w.heap.size, 0, none⟩) len len)) (w.alloc (.cells r e)) := by
    have h24' := Nat.le_of_ble_eq_true h24
    have hparts : (parts.map fun x => (x.1, a.eval x.2)).toList = (vs.zipIdx 0).map fun x => (x.2, x.1) := by
      rw [Array.toList_map, dense_spec hdn a.eval, hvs]
      rfl
    have := run_buildSlice (P := P) w t e len (parts.map fun x => (x.1, a.eval x.2)) r ie z hu hi hz (by omega) (by omega) (by rw [hparts]; exact hf)
    generalize a.eval = ρ at this ⊢
    simp [execOp, ho, this]
  unfold Oper.wp
  rw [he, Oper.upon_value, hd]
  have hrs' : r.size = len * ie.size := by rw [hrs]; simp
  have hlm : len ≤ maxLen := by
    have := Nat.le_of_ble_eq_true h24
    have : len ≤ len * ie.size := Nat.le_mul_of_pos_right _ hs0
    unfold maxLen; omega
  have hrn2 := rnB hn2
  have hown := World.ownsRow_lit (e := e) (size := ie.size) (base := w.heap.size) w r len (Nat.le_refl _) hlm hrs'
  have hkp : ∀ b o u, Us w0 U0 D b o → w.cell? ⟨b, o, none⟩ = some u → Us w0 U0 D b o ∧ (w.alloc (.cells r e)).cell? ⟨b, o, none⟩ = some u := fun b o u hu hc => by
    refine ⟨hu, ?_⟩
    have hlt : b < w.heap.size := World.block_lt_of_cell? w _ hc
    rw [World.cell?_of_block (w := w) ((bA (Below.refl w.heap.size w) (.cells r e)).block b hlt)]
    exact hc
  have hG := h.newrow (avn := .mrow e ie.size cs) (v' := .slice (some ⟨w.heap.size, 0, none⟩) len len) (D' := D) (X := fun _ => False) (n := nn) hrn2 (hN (nn, []) (by simp)).nr (by simp) ⟨(bA (Below.refl w.heap.size w) (.cells r e)).os, (bA (Below.refl w.heap.size w) (.cells r e)).tape, (bA (Below.refl w.heap.size w) (.cells r e)).output, (bA (Below.refl w.heap.size w) (.cells r e)).size, fun b hb hx => (bA (Below.refl w.heap.size w) (.cells r e)).block b hb⟩ (fun b hb => hb.elim) (fun g hg => by
      have hg : (Value.slice (some ⟨w.heap.size, 0, none⟩) len len).ownBlock = some g := hg
      refine ⟨.inr (hown.lt g hg).1, (hown.lt g hg).2, fun o _ hd => ?_⟩
      have := (hown.lt g hg).1
      have := h.dlt _ _ hd
      omega) (fun b o hd => .inl hd) (fun b o hd => Nat.lt_of_lt_of_le (h.dlt _ _ hd) (bA (Below.refl w.heap.size w) (.cells r e)).size) hkp (fun hv lv => by
      refine ⟨r.toList, ?_, hs0, sZ hsz, ?_⟩
      · show (w.alloc (.cells r e)).ownsRow 0 e ie.size _ cs.length _
        rw [hlen]
        exact ownsRow_mono hown (Nat.zero_le _)
      · rw [hr]; exact Sq.keep hkp (sq_of_vreps hvv))
  refine hK _ _ ⟨_, _, hG.put (bL hn) (bL h5) ⟨RW.rn hrn2, ?_⟩⟩
  show SlV ((fun x => if x = nn then Value.slice (some ⟨w.heap.size, 0, none⟩) len len else hv x) nn) 0 len ie.size _
  simp only [if_true]
  exact slV_all rfl (Nat.le_refl _) (.inr ⟨_, rfl⟩)

theorem AWp.hdl {c : Code} {Q : Exit → AS → Prop} (d n : Nat) (hd : Nat.blt d nt = true) (h5 : Nat.blt d 100000 = true) (hn : (Nat.ble 200000 n && Nat.blt n 450000) = true) (h : ∀ v, AWp P w0 U0 nt c Q ((d, .hdl v n) :: s)) : AWp P w0 U0 nt c Q s := by
  intro M a w ⟨D, hv, hs⟩
  have hdn : d < a.tmps.size := by rw [hs.size]; exact bL hd
  exact h (hv n) M a w ⟨D, hv, hs.know (bL h5) (Array.getElem?_eq_getElem hdn) ⟨rnF hn, rfl⟩⟩
theorem wk_slsc (d n dh : Nat) {len z : Nat} {v : Value} (h1 : look s d = some (.sl n 0 len z)) (h2 : look s dh = some (.hdl v n)) (hd : (Nat.blt d 100000 && Nat.blt dh 100000) = true) : Wk w0 U0 nt s ((d, .val (.sc (cutV v len))) :: s) := by
  rintro a w ⟨D, hv, h⟩
  rw [Bool.and_eq_true] at hd
  obtain ⟨u, g1, hrn, ao, m, cap, ao', e1, e2, e3, e4, e5, e6⟩ : ∃ u, a.tmps[d]? = some u ∧ RN n ∧ SlV (hv n) 0 len z u := h.slot d _ h1 (bL hd.1)
  obtain ⟨_, _, _, hx⟩ : ∃ u, a.tmps[dh]? = some u ∧ RN n ∧ hv n = v := h.slot dh _ h2 (bL hd.2)
  have e2 : u = .slice ao len cap := by rw [e2, e4 rfl]; rfl
  refine ⟨D, hv, h.know (bL hd.1) g1 ?_⟩
  rw [← hx, e1]
  show AVRep _ _ _ _ (.val (.sc (.slice ao len cap))) u
  rw [e2]
  exact avrep_sc rfl
theorem wk_scsl (d n dh len : Nat) {e z : Nat} {l : List CV} {v : Value} (h1 : look s d = some (.val (.sc (cutV v len)))) (h2 : look s dh = some (.hdl v n)) (hm : look s n = some (.mrow e z l)) (hd : (Nat.blt d 100000 && Nat.blt dh 100000) = true) (hl : len ≤ l.length) : Wk w0 U0 nt s ((d, .sl n 0 len z) :: s) := by
  rintro a w ⟨D, hv, h⟩
  rw [Bool.and_eq_true] at hd
  obtain ⟨u, g1, g2⟩ := h.slot d _ h1 (bL hd.1)
  obtain ⟨_, _, hrn, hx⟩ : ∃ u, a.tmps[dh]? = some u ∧ RN n ∧ hv n = v := h.slot dh _ h2 (bL hd.2)
  obtain ⟨xs, f1, _⟩ := h.mrow hm hrn
  obtain ⟨ao, cap, e1, e2, _⟩ := own_slice f1
  have hu : u = cutV v len := (vrep_sc.1 g2.1).1
  refine ⟨D, hv, h.know (bL hd.1) g1 ⟨hrn, ?_⟩⟩
  show SlV (hv n) 0 len z u
  rw [hu, ← hx, e1]
  exact ⟨ao, l.length, cap, ao, rfl, rfl, by omega, fun _ => rfl, fun _ g hg' => by rw [hg', Nat.zero_mul], Iff.rfl⟩

def topX : UX := ⟨fun _ _ => True, fun _ => False, fun _ => none, fun _ _ h => by cases h⟩
theorem SimG.view (h : SimG w0 U0 nt s a w D hv) {n e z len : Nat} {l : List CV} (hm : look s n = some (.mrow e z l)) (hrn : RN n) (hl : len ≤ l.length) : VRep (fun _ _ => True) w (.lst (l.take len)) (cutV (hv n) len) := by
  obtain ⟨xs, ho, hz, hsz, hsq⟩ := h.mrow hm hrn
  obtain ⟨va, vc, ev, e2, e3, e4, e5⟩ := ownsRow_cs ho
  rw [ev]
  have hsplit : l = l.take len ++ l.drop len := (List.take_append_drop _ _).symm
  have q := hsq
  rw [hsplit, List.map_append] at q
  obtain ⟨y1, y2, ey, s1, s2⟩ := sq_split q
  refine vrep_lst.2 ⟨va, len, vc, rfl, by rw [List.length_take, Nat.min_eq_left hl], by omega, e3, (fun h => ⟨by have := (e4 h).1; omega, (e4 h).2⟩), y1, ?_, s1.keep fun b o v _ hc => ⟨trivial, hc⟩⟩
  rcases e5 with h0 | ⟨b, off, ha, hlt, hc⟩
  · left
    have := congrArg List.length ey
    rw [h0, List.length_append] at this
    exact List.eq_nil_of_length_eq_zero (by simp at this; omega)
  · refine .inr ⟨b, off, ha, fun i hi => ⟨trivial, ?_⟩⟩
    rw [hc i (by rw [ey, List.length_append]; omega), ey, List.getElem?_append_left hi]
theorem SimG.viewBox (h : SimG w0 U0 nt s a w D hv) (n : Nat) {v : Value} {k q p k1 k2 k3} {c : CV} (hb : look s (100000 + n) = some ⟨5, .sc v, k, q, p⟩) (hs : look s n = some ⟨2, ⟨k1, k2, k3⟩, n, 0, []⟩) (hn : n < 100000) (hc : c.k ≠ 2) (hv2 : VRep (fun _ _ => True) w c v) : ∃ u, a.tmps[n]? = some u ∧ VRep (fun _ _ => True) w (.ptr c) u := by
  obtain ⟨g, xs, ty, g0, g1, g2, g5⟩ := h.box hb (by omega)
  obtain ⟨v', g6, g7⟩ := h.slot n _ hs hn
  have g7 : v' = .pointer (some ⟨blkOf (hv (100000 + n)), 0, none⟩) := g7.2
  have hgb2 : blkOf (hv (100000 + n)) = g := by rw [g0]; rfl
  rw [hgb2] at g7
  obtain rfl : xs = [v] := (rep_sc.1 g2).1
  refine ⟨v', g6, ?_⟩
  rw [g7]
  refine vrep_ptr.2 ⟨g, 0, [v], rfl, ?_, fun i hi => ⟨trivial, ?_⟩⟩
  · unfold VRep at hv2; rw [if_neg hc] at hv2; exact hv2
  have := box_cells_at (ys := []) (us := []) g1 (by simp) i hi
  simpa using this
theorem awp_peek {c : Code} {Q : Exit → AS → Prop} {R : Exit → Prop} (vs : List (Nat × CV)) (dr : Nat) (x : Value) (objs : AS)
    (hview : ∀ a w D hv, SimG w0 U0 nt s a w D hv → ∀ q ∈ vs, ∃ v, a.tmps[q.1]? = some v ∧ VRep (fun _ _ => True) w q.2 v)
    (h : ∀ w, AWp P w topX nt c (fun e s' => R e ∧ look s' dr = some (.val (.sc x))) (vs.map fun q => (q.1, .val q.2)))
    (hsub : SubL s objs) (hk : (kO objs).all (Nat.ble 100000) = true) (hvk : (vs.all fun q => Nat.blt q.1 100000) = true) (hdr : Nat.blt dr 100000 = true) (hQ : ∀ e, R e → Q e ((dr, .val (.sc x)) :: objs)) : AWp P w0 U0 nt c Q s := by
  intro M a w ⟨D, hv, hs⟩
  have hlow : ∀ {k av}, look (vs.map fun q => (q.1, AV.val q.2)) k = some av → ∃ q ∈ vs, k = q.1 ∧ av = .val q.2 := fun {k av} h1 => by
    obtain ⟨q, hq, he⟩ := List.mem_map.1 (look_mem h1)
    injection he with e1 e2
    exact ⟨q, hq, e1.symm, e2.symm⟩
  rw [List.all_eq_true] at hvk hk
  have hlt : ∀ {k av}, look (vs.map fun q => (q.1, AV.val q.2)) k = some av → k < 100000 := fun {k av} h1 => by
    obtain ⟨q, hq, rfl, _⟩ := hlow h1
    exact bL (hvk q hq)
  have hS : Sim w topX nt (vs.map fun q => (q.1, AV.val q.2)) a w := by
    refine ⟨fun _ _ => False, hv, BelowX.refl _ _, hs.dfr, hs.size, fun d av h1 h2 => ?_, fun n o av h1 h2 h3 h4 => ?_, fun n o o' av av' h1 h2 => ?_, fun k av h1 h2 => ?_, fun k av g h1 h2 => ?_, fun k k' av av' g h1 h2 h3 h4 => ?_, fun k v h1 => (by cases h1), fun b o hd => hd.elim⟩
    · obtain ⟨q, hq, rfl, rfl⟩ := hlow h1
      obtain ⟨v, g1, g2⟩ := hview a w D hv hs q hq
      exact ⟨v, g1, avrep_val (g2.keep fun b o v _ hc => ⟨.inl ⟨World.block_lt_of_cell? w _ hc, trivial, fun h => h⟩, hc⟩)⟩
    · have := hlt h1; unfold fKey at this; omega
    · have := hlt h1; unfold fKey at this; omega
    · have := hlt h1; have := h2.1; omega
    · have := hlt h1; have := h2.1; omega
    · have := hlt h1; have := h3.1; omega
  refine WP_mono (h w M a w hS) ?_
  rintro e a' w' ⟨s', ⟨hR, hx⟩, D', hv', g⟩
  refine ⟨_, hQ e hR, D, hv, ?_⟩
  have hB : Below w.heap.size w w' := g.below.below fun k hk => hk
  have h1 := (hs.sub hsub.sub).grow' hB
  have hlow2 : ∀ {k av}, look objs k = some av → 100000 ≤ k := fun {k av} h1 => Nat.le_of_ble_eq_true (hk k (mem_keys h1))
  have h2 : SimG w0 U0 nt objs a' w' D hv := ⟨h1.below, g.dfr, g.size, fun d av h7 h8 => by have := hlow2 h7; omega, h1.fld, h1.fdis, h1.obj, h1.blk, h1.disj, h1.fix, h1.dlt⟩
  obtain ⟨v, k1, k2⟩ := g.slot dr _ hx (bL hdr)
  obtain ⟨rfl, k3⟩ := vrep_sc.1 k2.1
  exact h2.know (bL hdr) k1 (avrep_sc k3)
theorem afun_lend1 {W : World} {f : FuncId} {x : Value} {c2 : CV} {e z nm N : Nat} {l : List CV} (h1 : 300000 ≤ nm) (h2 : nm < 450000) (hN : N ≤ l.length) (h : AFun P W f [.lst (l.take N), c2] (.val (.sc x))) : AFunO P f [(nm, .mrow e z l)] [.sl nm 0 N z, .val c2] (.val (.sc x)) [(nm, .mrow e z l)] := by
  refine ⟨h.1, fun U w hv a0 vs hU hp ha => ?_⟩
  obtain ⟨u1, us1, rfl, a1, u2, us2, rfl, a2, a4⟩ := ha
  have a4 : us2 = [] := a4
  subst a4
  have hrn : RN nm := ⟨by omega, by omega⟩
  have hlk : look [(nm, AV.mrow e z l)] nm = some (.mrow e z l) := by rw [look_cons]; simp
  have hvw := hp.view hlk hrn hN
  have a1 : RN nm ∧ SlV (hv nm) 0 N z u1 := a1
  obtain ⟨_, ao, m, cap, ao', s1, s2, s3, s4, _⟩ := a1
  have e9 : u1 = cutV (hv nm) N := by rw [s1, s2, s4 rfl]; rfl
  refine (h.2.2.2 (fun _ _ => True) w _ trivial ⟨_, _, rfl, by rw [e9]; exact hvw, _, _, rfl, a2.1.mono fun b o _ => trivial, rfl⟩).mono ?_
  rintro e' w' ⟨v, rfl, hr, hB⟩
  obtain ⟨rfl, h9⟩ := vrep_sc.1 hr
  exact ⟨_, _, hv, a0, rfl, hp.grow' hB, avrep_sc h9⟩
end
end Go.Proofs.YteegmcfobgpemaaGreat
namespace Go.Proofs.YteegmcfobgpemaaGreat
open Go.RowKit Go.MapKept
set_option linter.unusedVariables false
set_option linter.unusedSimpArgs false
structure On (w0 : World) (U0 : UX) (w : World) (U : UX) : Prop where
  below : BelowX U0.x w0 w
  x : ∀ b, U.x b → U0.x b ∨ w0.heap.size ≤ b
  m : ∀ b o, b < w0.heap.size → U0.m b o → ¬ U0.x b → U.m b o
  f : ∀ v, U0.f 450001 = some v → U.f 450001 = some v
theorem On.refl (w : World) (U : UX) : On w U w U := ⟨BelowX.refl _ _, fun b h => .inl h, fun b o _ h _ => h, fun v h => h⟩
theorem On.trans {w0 w1 w2 : World} {U0 U1 U2 : UX} (h : On w0 U0 w1 U1) (k : On w1 U1 w2 U2) : On w0 U0 w2 U2 := by
  have hs := h.below.size
  have hno : ∀ b, b < w0.heap.size → ¬ U0.x b → ¬ U1.x b := fun b hb hx h1 => by
    rcases h.x b h1 with h2 | h2
    · exact hx h2
    · omega
  refine ⟨⟨k.below.os.trans h.below.os, k.below.tape.trans h.below.tape, k.below.output.trans h.below.output, Nat.le_trans hs k.below.size, fun b hb hx => (k.below.block b (by omega) (hno b hb hx)).trans (h.below.block b hb hx)⟩, fun b hb => ?_, fun b o hb hm hx => k.m b o (by omega) (h.m b o hb hm hx) (hno b hb hx), fun v hv => k.f v (h.f v hv)⟩
  rcases k.x b hb with h2 | h2
  · exact h.x b h2
  · exact .inr (by omega)

section
variable {P : Program} {w0 : World} {U0 : UX} {nt : Nat} {s : AS} {a : Act} {w : World} {D : Nat → Nat → Prop} {hv : Nat → Value}

theorem SimG.on (h : SimG w0 U0 nt s a w D hv) {pre : AS} (hp : Sub s pre) (hl : pre.all lendB = true) {V : UX} (v3 : ∀ b, V.x b ↔ ∃ k av, look pre k = some av ∧ oKey k ∧ hb (hv k) = some b) (v4 : ∀ k, hasN (kO pre) k = true → 400000 ≤ k → k < 500000 → V.f k = some (hv k)) (v5 : ∀ b o, V.m b o ↔ Us w0 U0 D b o) (hk : hasN (kO pre) 450001 = true) : On w0 U0 w V := by
  refine ⟨h.below, fun b hb => ?_, fun b o hb hm hx => (v5 b o).2 (.inl ⟨hb, hm, hx⟩), fun v hf => ?_⟩
  · obtain ⟨k, av, h1, h2, h3⟩ := (v3 b).1 hb
    have h4 := all_look hl h1
    unfold oKey at h2
    unfold lendB at h4
    have h5 : Nat.ble 500000 k = false := by
      cases e : Nat.ble 500000 k with
      | false => rfl
      | true => have := Nat.le_of_ble_eq_true e; omega
    simp only [h5, Bool.and_eq_true, Bool.or_eq_true, Bool.not_eq_true'] at h4
    obtain ⟨⟨⟨g1, g2⟩, g3⟩, g4⟩ := h4
    obtain ⟨f1, _, _⟩ := h.blk k av b (hp _ _ h1) h2 (fun e => by rw [e] at g3; cases g3) h3
    rcases f1 with f1 | f1
    · exact .inr f1
    · exact .inl f1.2
  · rw [v4 450001 hk (by omega) (by omega), h.fix 450001 v hf]

def AFunY (P : Program) (Wb : World) (Ub : UX) (f : FuncId) (pre : AS) (args : List AV) (r : AV) (post : AS) : Prop :=
  EntF P f ∧ ∀ (U : UX) (w : World) (hv : Nat → Value) (a0 : Act) (vs : List Value), On Wb Ub w U → (∀ k v, U.f k = some v → hasN (kO pre) k = true) → SimG w U 0 pre a0 w (fun _ _ => False) hv → AVReps (Us w U (fun _ _ => False)) w hv (LiveN pre) args vs →
    Calls P f vs.toArray w fun e w' => ∃ v D' hv' a', e = .returned v ∧ SimG w U 0 post a' w' D' hv' ∧ AVRep (Us w U D') w' hv' (LiveN post) r v
def YldC (P : Program) (Wb : World) (Ub : UX) (l nm : Nat) (pre : AS) (args : Value → List AV) (post : AS) : Prop :=
  ∀ (U : UX) (w : World) (hv : Nat → Value) (a0 : Act) (vs : List Value), On Wb Ub w U → (∀ k v, U.f k = some v → hasN (kO pre) k = true) → SimG w U 0 pre a0 w (fun _ _ => False) hv → AVReps (Us w U (fun _ _ => False)) w hv (LiveN pre) (args (hv nm)) vs →
    YieldAt Fence.wide 1 P l vs.toArray w fun e w' => e = .returned (.bool true) ∧ ∃ D' hv' a', SimG w U 0 post a' w' D' hv'
abbrev yldV (l : Nat) : CV := .sc (.func (.yield l) #[] #[])

def StpY (P : Program) (w0 : World) (U0 : UX) (nt : Nat) (ops : Array Oper) (o : Oper) (s e : AS) : Prop :=
  ∀ (M : Md) a w, Sim w0 U0 nt s a w → ∀ (Q : Exit → Act → World → Prop) (K : Act → World → Prop), (∀ a' w', Sim w0 U0 nt (e ++ s) a' w' → K (wdA a' M.ds) w') →
    if Region.wanted o (yielded ops (wdA a M.ds).tmps) = true then o.wpIn (wideR M.r) 1 P (wdA a M.ds) w K Q else (∀ f, o.about P w (wdA a M.ds).eval = some f → (wideR M.r).fn f) ∧ K ((wdA a M.ds).put o.dst undef) w
def AOpY (P : Program) (w0 : World) (U0 : UX) (nt : Nat) (ops : Array Oper) (o : Oper) (R : List Nat) (N : List (Nat × List Nat)) (S : Nat → Option AV) (e : AS) : Prop :=
  ∀ s, (∀ k ∈ R, look s k = S k) → (∀ q ∈ N, NoRefE s q) → StpY P w0 U0 nt ops o s e
def RunY (P : Program) (w0 : World) (U0 : UX) (nt : Nat) (ops : Array Oper) : List Oper → AS → (AS → Prop) → Prop
  | [], s, K => K s
  | o :: os, s, K => ∃ (R : List Nat) (N : List (Nat × List Nat)) (e : AS), AOpY P w0 U0 nt ops o R N (look s) e ∧ noRefB s N = true ∧ RunY P w0 U0 nt ops os (e ++ s) K
theorem AOp.y {ops : Array Oper} {o : Oper} {R : List Nat} {N : List (Nat × List Nat)} {S : Nat → Option AV} {e : AS} (h : AOp P w0 U0 nt ops o R N S e) : AOpY P w0 U0 nt ops o R N S e := fun s h1 h2 M a w hs Q K hK => stp_in (h s h1 h2) hs hK
theorem nxY {ops : Array Oper} {o : Oper} {os : List Oper} {s e : AS} {K : AS → Prop} {R : List Nat} {N : List (Nat × List Nat)} (h1 : AOpY P w0 U0 nt ops o R N (look s) e) (h2 : noRefB s N = true) (h3 : RunY P w0 U0 nt ops os (e ++ s) K) : RunY P w0 U0 nt ops (o :: os) s K := ⟨R, N, e, h1, h2, h3⟩
theorem runY_list {ops : Array Oper} {M : Md} {Q : Exit → Act → World → Prop} : ∀ {l : List Oper} {s : AS} {K : AS → Prop}, RunY P w0 U0 nt ops l s K → (∀ s' a w, K s' → Sim w0 U0 nt s' a w → Q .normal (wdA a M.ds) w) → ∀ a w, Sim w0 U0 nt s a w → wpListIn (wideR M.r) 1 P ops Q l (wdA a M.ds) w
  | [], s, K, h, hK, a, w, hs => hK s a w h hs
  | o :: os, s, K, ⟨R, N, e, h1, h2, h3⟩, hK, a, w, hs => by
    unfold wpListIn
    exact h1 s (fun _ _ => rfl) (noRefB_spec h2) M a w hs _ _ (fun a' w' hs' => runY_list h3 hK a' w' hs')
theorem awp_regionY {id : Nat} {l : List Oper} {Q : Exit → AS → Prop} {s : AS} (h : RunY P w0 U0 nt l.toArray l s fun s' => Q .normal s') : AWp P w0 U0 nt (.region id l.toArray false) Q s :=
  fun M a w hs => wpIn_region_lit (runY_list (M := M) h (fun s' a w h1 h2 => ⟨a, rfl, s', h1, h2⟩) a w hs)

theorem roundIn_any {m m' : Nat} {ro : Option Nat} {l : Nat} {f : FuncId} {tmps : Array Value} {assign body : Code} {R : Ending → World → Prop} (h : RoundIn Fence.wide m P l f tmps assign body w R) : RoundIn (wideR ro) m' P l f tmps assign body w R :=
  ⟨trivial, fun c cs _ => by
    obtain ⟨e, w', h1, h2⟩ := h.2 c cs (room_wide _)
    refine ⟨e, w', h1, ?_⟩
    cases e <;> exact h2⟩
variable {ops : Array Oper} {o : Oper} {S : Nat → Option AV} {gs : List Nat} {d : Nat}
theorem a_yield (dh : Nat) {Wb : World} {Ub : UX} {l nm : Nat} {x : Operand} {xs : Array Operand} {ts : Array TypeId} {ar : Value → List AV} {pre post : AS} {u : Value} {n q p} (hY : YldC P Wb Ub l nm pre ar post) (hon : On Wb Ub w0 U0) (hg : Gd w0 U0 nt ops o gs S) (hd : o.dst = some d) (hn : Nat.blt d nt = true) (h5 : Nat.blt d 100000 = true)
    (ho : o.op = .call { callee := .value x, args := xs, argTypes := ts }) (hf : ev S x = some ⟨0, yldV l, n, q, p⟩) (hx : evsA S xs.toList = some (ar u)) (hh : (S dh = some (.hdl u nm) ∧ Nat.blt dh 100000 = true) ∨ ∀ v v', ar v = ar v') (hp : SubS S pre) (hl : pre.all lendB = true) (hq : post.all (leaveB (kO post)) = true) (hks : (kO pre).all (hasN (kO post)) = true) (hnb : ∀ k v, U0.f k = some v → hasN (kO post) k = true → hasN (kO pre) k = true) (hbk : hasN (kO pre) 450001 = true) :
    AOpY P w0 U0 nt ops o (gs ++ (rd x ++ (rdl xs.toList ++ (kO pre ++ [dh])))) (newN (kO pre) (kO post) (kO post)) S ((d, .val (.b true)) :: post) := by
  intro s hs hN M a w ⟨D, hv, h⟩ Q K hK
  show if Region.wanted o (yielded ops a.tmps) = true then _ else _
  rw [if_pos (hg s (fun k hk => hs k (List.mem_append_left _ hk)) a w D hv h)]
  have hfv := ev_sc h (fun k hk => hs k (List.mem_append_right _ (List.mem_append_left _ hk))) hf
  have hargs := evsA_rep h (fun k hk => hs k (List.mem_append_right _ (List.mem_append_right _ (List.mem_append_left _ hk)))) hx
  have hsub : Sub s pre := fun k av h1 => (hs k (List.mem_append_right _ (List.mem_append_right _ (List.mem_append_right _ (List.mem_append_left _ (mem_keys h1)))))).trans (hp.look h1)
  have hu : ar (hv nm) = ar u := by
    rcases hh with ⟨h1, h2⟩ | h1
    · obtain ⟨_, _, _, h3⟩ : ∃ v, a.tmps[dh]? = some v ∧ RN nm ∧ hv nm = u := h.slot dh _ ((hs dh (by simp)).trans h1) (bL h2)
      rw [h3]
    · exact h1 _ _
  obtain ⟨V, v1, v2, v3, v4, v5, v6⟩ := h.lend hsub hl
  obtain ⟨fn, tm, assign, body, hy, hR⟩ := hY V w hv ⟨#[], []⟩ _ (hon.trans (h.on hsub hl v3 v4 v5 hbk)) v1 v2 (by rw [hu]; exact hargs.imp fun c _ v hcv => hcv.move v6 (fun _ h3 => h3.imp id fun ⟨e, he⟩ => ⟨e, hsub _ _ he.1, he.2⟩) fun _ => rfl)
  have he : (o.semAt (wideR M.r).round (wdA a M.ds).eval).run P w = .ok (.round l fn tm assign body) w := by
    rw [Oper.semAt_eq _ _ _ (fun c hc => by rw [ho] at hc; cases hc), wd_eval]
    have harr : (xs.toList.map a.eval).toArray = xs.map a.eval := by apply Array.ext'; simp
    rw [harr] at hy
    generalize a.eval = ρ at hfv hy ⊢
    have hfv : ρ x = .func (.yield l) #[] #[] := hfv
    simp [execOp, ho, resolve, invoke, Deferred.ofValue, hfv, hy]
  refine ⟨fun _ _ => trivial, ?_⟩
  rw [he, Oper.uponIn_round]
  refine ⟨(fun hh => by cases hh), (roundIn_any (ro := M.r) hR).mono ?_⟩
  rintro e w' ⟨rfl, D', hv', a', h6⟩
  obtain ⟨D2, hv2, h8, h9⟩ := h.back hsub hl hq hks hN hnb v3 v4 v5 v2 h6
  have h10 := hK _ _ ⟨D2, hv2, h8.put (bL hn) (bL h5) (av := .val (.b true)) (v := .bool true) (avrep_sc rfl)⟩
  rw [hd]
  exact h10
theorem a_callY {f : FuncId} {xs : Array Operand} {ts : Array TypeId} {avs : List AV} {r : AV} {pre post : AS} {Wb : World} {Ub : UX} (hon : On Wb Ub w0 U0) (hg : Gd w0 U0 nt ops o gs S) (hd : o.dst = some d) (hn : Nat.blt d nt = true) (h5 : Nat.blt d 100000 = true)
    (ho : o.op = .call { callee := .value (.func f), args := xs, argTypes := ts }) (hx : evsA S xs.toList = some avs) (hc : AFunY P Wb Ub f pre avs r post) (hp : SubS S pre) (hl : pre.all lendB = true) (hq : post.all (leaveB (kO post)) = true) (hks : (kO pre).all (hasN (kO post)) = true) (hr : refB (kO post) r = true) (hnb : ∀ k v, U0.f k = some v → hasN (kO post) k = true → hasN (kO pre) k = true) (hbk : hasN (kO pre) 450001 = true) :
    AOp P w0 U0 nt ops o (gs ++ (rdl xs.toList ++ kO pre)) (newN (kO pre) (kO post) (kO post)) S ((d, r) :: post) := by
  intro s hs hN a w ⟨D, hv, h⟩ Q K hK
  rw [if_pos (hg s (fun k hk => hs k (List.mem_append_left _ hk)) a w D hv h)]
  have hargs := evsA_rep h (fun k hk => hs k (List.mem_append_right _ (List.mem_append_left _ hk))) hx
  have hsub : Sub s pre := fun k av h1 => (hs k (List.mem_append_right _ (List.mem_append_right _ (mem_keys h1)))).trans (hp.look h1)
  obtain ⟨V, v1, v2, v3, v4, v5, v6⟩ := h.lend hsub hl
  obtain ⟨h1, h2⟩ := hc
  have hcall := h2 V w hv ⟨#[], []⟩ _ (hon.trans (h.on hsub hl v3 v4 v5 hbk)) v1 v2 (hargs.imp fun c _ v hcv => hcv.move v6 (fun _ h3 => h3.imp id fun ⟨e, he⟩ => ⟨e, hsub _ _ he.1, he.2⟩) fun _ => rfl)
  have he : (execOp a.eval o).run P w = .ok (.enter f (xs.toList.map a.eval).toArray) w := by
    have hf : a.eval (.func f) = .func (.func f) #[] #[] := rfl
    have hen := h1 (xs.map a.eval) w
    have harr : (xs.toList.map a.eval).toArray = xs.map a.eval := by apply Array.ext'; simp
    rw [harr]
    generalize a.eval = ρ at hf hen ⊢
    simp [execOp, ho, resolve, invoke, Deferred.ofValue, hf, hen]
  unfold Oper.wp
  rw [he, Oper.upon_enter]
  refine hcall.mono ?_
  rintro e w' ⟨v, D', hv', a', rfl, h6, h7⟩
  rw [hd]
  obtain ⟨D2, hv2, h8, h9⟩ := h.back hsub hl hq hks hN hnb v3 v4 v5 v2 h6
  exact hK _ _ ⟨D2, hv2, h8.put (bL hn) (bL h5) (h9.1 r v hr h7)⟩
end
section
variable {P : Program} {w0 : World} {U0 : UX} {nt : Nat} {s : AS}

theorem callsO_of {f : FuncId} {fn : Func} {c : Code} {pre post : AS} {args : List AV} {r : AV} (hf : P.funcs[f]? = some fn) (hn : fn.ntmps = nt) (hb : fn.body = some c) (hl : Nat.ble args.length nt = true) (hnt : Nat.blt nt 100000 = true) (hpre : (kO pre).all (Nat.ble 100000) = true) (hpost : (kO post).all (Nat.ble 100000) = true) {w : World} {U : UX} (hU : ∀ k v, U.f k = some v → hasN (kO pre) k = true)
    (h : AWp P w U nt c (fun e s' => (e = .normal ∨ e = .ret) ∧ EndO P w U nt fn s' r post) (argA args 0 ++ pre)) {hv : Nat → Value} {a0 : Act} {vs : List Value} (hpS : SimG w U 0 pre a0 w (fun _ _ => False) hv) (hargs : AVReps (Us w U (fun _ _ => False)) w hv (LiveN pre) args vs) :
    Calls P f vs.toArray w fun e w' => ∃ v D' hv' a', e = .returned v ∧ SimG w U 0 post a' w' D' hv' ∧ AVRep (Us w U D') w' hv' (LiveN post) r v := by
  have hlen := hargs.len
  refine calls_of_wp hf hb ?_
  have hle := Nat.le_of_ble_eq_true hl
  have hnt := bL hnt
  have hlow : ∀ {k av}, look pre k = some av → 100000 ≤ k := fun {k av} h1 => by
    rw [List.all_eq_true] at hpre
    exact Nat.le_of_ble_eq_true (hpre k (mem_keys h1))
  have hlk : ∀ {k}, 100000 ≤ k → look (argA args 0 ++ pre) k = look pre k := fun {k} h1 => by
    rw [look_append]
    cases h2 : look (argA args 0) k with
    | none => rfl
    | some av =>
      obtain ⟨_, h3⟩ := look_argA h2
      rw [Nat.sub_zero, List.getElem?_eq_none (by omega)] at h3
      cases h3
  have hlive : LiveN (argA args 0 ++ pre) = LiveN pre := by
    funext n
    unfold LiveN Live
    apply propext
    constructor
    · rintro (h1 | ⟨e, h1, h2, h3⟩)
      · exact .inl h1
      · rw [hlk (by omega)] at h1; exact .inr ⟨e, h1, h2, h3⟩
    · rintro (h1 | ⟨e, h1, h2, h3⟩)
      · exact .inl h1
      · exact .inr ⟨e, by rw [hlk (by omega)]; exact h1, h2, h3⟩
  have hs : Sim w U nt (argA args 0 ++ pre) { tmps := vs.toArray ++ Array.replicate (fn.ntmps - vs.toArray.size) undef, defers := [] } w := by
    refine ⟨fun _ _ => False, hv, hpS.below, rfl, by simp [hn]; omega, fun d av h1 h2 => ?_, fun n o av h1 h2 h3 h4 => ?_, fun n o o' av av' h1 h2 => ?_, fun k av h1 h2 => ?_, fun k av g h1 h2 => ?_, fun k k' av av' g h1 h2 h3 h4 => ?_, hpS.fix, fun b o hd => hd.elim⟩
    · rw [look_append] at h1
      cases h3 : look (argA args 0) d with
      | none =>
        rw [h3] at h1
        have := hlow h1
        omega
      | some av' =>
        rw [h3] at h1
        cases h1
        obtain ⟨_, h4⟩ := look_argA h3
        rw [Nat.sub_zero] at h4
        obtain ⟨v, h6, h7⟩ := hargs.at h4
        have hdl : d < vs.length := by
          rcases Nat.lt_or_ge d vs.length with h | h
          · exact h
          · rw [List.getElem?_eq_none h] at h6; cases h6
        rw [hlive]
        refine ⟨v, ?_, h7⟩
        rw [Array.getElem?_append_left (by simpa using hdl)]
        simpa using h6
    · rw [hlk (by unfold fKey; omega)] at h1
      rw [hlk (by omega)] at h3
      rw [hlive]
      exact hpS.fld n o av h1 h2 h3 h4
    · rw [hlk (by unfold fKey; omega)] at h1 h2
      exact hpS.fdis n o o' av av' h1 h2
    · rw [hlk h2.1] at h1; rw [hlive]; exact hpS.obj k av h1 h2
    · rw [hlk h2.1] at h1; exact hpS.blk k av g h1 h2
    · rw [hlk h3.1] at h1; rw [hlk h4.1] at h2; exact hpS.disj k k' av av' g h1 h2 h3 h4
  refine wp_mono ((h ⟨none, []⟩ _ w hs).wp rfl (fun e a w ⟨s, _, h⟩ => h.df)) ?_
  rintro e a' w' ⟨s', ⟨h1, s2, g1, g2, g3⟩, h3⟩
  obtain ⟨D', hv', h4⟩ := g1 a' w' h3
  obtain ⟨v, h5, h6⟩ := resA_run h4 g2
  have hS := h4.sub g3.sub
  have hlow2 : ∀ {k av}, look post k = some av → 100000 ≤ k := fun {k av} h1 => by
    rw [List.all_eq_true] at hpost
    exact Nat.le_of_ble_eq_true (hpost k (mem_keys h1))
  have hS0 : SimG w U 0 post ⟨#[], []⟩ w' D' hv' := ⟨hS.below, rfl, rfl, fun d av h7 h8 => by have := hlow2 h7; omega, hS.fld, hS.fdis, hS.obj, hS.blk, hS.disj, hS.fix, hS.dlt⟩
  rcases h1 with rfl | rfl
  · exact ⟨h4.dfr, v, h5, v, D', hv', _, rfl, hS0, h6.move (fun _ _ _ h1 h2 => ⟨h1, h2⟩) (fun _ h7 => h7.imp id fun ⟨e, he⟩ => ⟨e, g3.sub _ _ he.1, he.2⟩) fun _ => rfl⟩
  · exact ⟨h4.dfr, v, h5, v, D', hv', _, rfl, hS0, h6.move (fun _ _ _ h1 h2 => ⟨h1, h2⟩) (fun _ h7 => h7.imp id fun ⟨e, he⟩ => ⟨e, g3.sub _ _ he.1, he.2⟩) fun _ => rfl⟩
theorem afunY_of {f : FuncId} {fn : Func} {c : Code} {pre post : AS} {args : List AV} {r : AV} {Wb : World} {Ub : UX} (hf : P.funcs[f]? = some fn) (hn : fn.ntmps = nt) (hname : (fn.name == "runtime.NumGoroutine") = false) (hb : fn.body = some c) (hl : Nat.ble args.length nt = true) (hnt : Nat.blt nt 100000 = true) (hpre : (kO pre).all (Nat.ble 100000) = true) (hpost : (kO post).all (Nat.ble 100000) = true)
    (h : ∀ (w : World) (U : UX), On Wb Ub w U → (∀ k v, U.f k = some v → hasN (kO pre) k = true) → AWp P w U nt c (fun e s' => (e = .normal ∨ e = .ret) ∧ EndO P w U nt fn s' r post) (argA args 0 ++ pre)) : AFunY P Wb Ub f pre args r post :=
  ⟨ent_of hf hname (by rw [hb]; rfl), fun U w hv a0 vs hon hU hpS hargs => callsO_of hf hn hb hl hnt hpre hpost hU (h w U hon hU) hpS hargs⟩
theorem afunYM_of {f : FuncId} {fn : Func} {c : Code} {pre post : AS} {args : List AV} {r : AV} {Wb : World} {Ub : UX} (hf : P.funcs[f]? = some fn) (hn : fn.ntmps = nt) (hname : (fn.name == "runtime.NumGoroutine") = false) (hb : fn.body = some c) (hl : Nat.ble args.length nt = true) (hnt : Nat.blt nt 100000 = true) (hpre : (kO pre).all (Nat.ble 100000) = true) (hpost : (kO post).all (Nat.ble 100000) = true)
    (h : ∀ (w : World) (U : UX), On Wb Ub w U → (∀ k v, U.f k = some v → hasN (kO pre) k = true) → AWpM P w U nt c (fun e s' g => (e = .normal ∨ e = .ret) ∧ ∃ s2, Wk w U nt s' ((299999, .ob g 0) :: s2) ∧ resA P s2 fn.results.toList = some r ∧ SubL s2 post ∧ look s2 299999 = none) (argA args 0 ++ pre)) : AFunY P Wb Ub f pre args r post :=
  ⟨ent_of hf hname (by rw [hb]; rfl), fun U w hv a0 vs hon hU hpS hargs => callsM_of hf hn hb hl hnt hpre hpost (h w U hon hU) hpS hargs⟩

def parA : List Tmp → List AV → AS → AS
  | p :: ps, c :: cs, s => parA ps cs ((p, c) :: s)
  | _, _, s => s
theorem SlOk.parA {R : AV → Value → Prop} : ∀ {ps : List Tmp} {cs : List AV} {vs : List Value} {s : AS} {tm : Array Value}, SlOk R s tm → (ps.all fun p => Nat.blt p tm.size) = true → (∀ (i : Nat) (c : AV), cs[i]? = some c → ∃ v, vs[i]? = some v ∧ R c v) → vs.length = cs.length → SlOk R (parA ps cs s) (parT ps vs tm) ∧ (parT ps vs tm).size = tm.size
  | [], cs, vs, s, tm, h, _, _, _ => ⟨by cases cs <;> exact h, rfl⟩
  | p :: ps, [], vs, s, tm, h, _, hv, hl => by
    have : vs = [] := List.eq_nil_of_length_eq_zero hl
    subst this
    exact ⟨h, rfl⟩
  | p :: ps, c :: cs, [], s, tm, h, _, _, hl => by cases hl
  | p :: ps, c :: cs, u :: us, s, tm, h, hl, hv, hvl => by
    rw [List.all_cons, Bool.and_eq_true] at hl
    obtain ⟨v, h1, h2⟩ := hv 0 c rfl
    cases h1
    have := SlOk.parA (ps := ps) (cs := cs) (vs := us) (s := (p, c) :: s) (tm := tm.setIfInBounds p u) (h.set (bL hl.1) h2) (by rw [Array.size_setIfInBounds]; exact hl.2) (fun i c hc => hv (i + 1) c hc) (by simpa using hvl)
    exact ⟨this.1, by show (parT ps us (tm.setIfInBounds p u)).size = _; rw [this.2, Array.size_setIfInBounds]⟩
theorem parA_keys : ∀ (nt : Nat) (ps : List Tmp) (cs : List AV) (sl : AS), (ps.all fun p => Nat.blt p nt && Nat.blt p 100000) = true → (kO sl).all (fun k => Nat.blt k 100000) = true → (kO (parA ps cs sl)).all (fun k => Nat.blt k 100000) = true
  | nt, [], cs, sl, _, h => by cases cs <;> exact h
  | nt, p :: ps, [], sl, h1, h2 => h2
  | nt, p :: ps, c :: cs, sl, h1, h2 => by
    rw [List.all_cons, Bool.and_eq_true] at h1
    have h3 := h1.1
    rw [Bool.and_eq_true] at h3
    refine parA_keys nt ps cs ((p, c) :: sl) h1.2 ?_
    show ((p :: kO sl).all _) = true
    rw [List.all_cons, Bool.and_eq_true]
    exact ⟨h3.2, h2⟩
def SlP : AS → Prop
  | [] => True
  | (_, av) :: s => ((∃ c, av = .val c) ∨ av = .bp 350001 0 []) ∧ SlP s
theorem SlP.at : ∀ {s : AS} {d : Nat} {av : AV}, SlP s → look s d = some av → (∃ c, av = .val c) ∨ av = .bp 350001 0 []
  | [], _, _, _, h => by simp [look] at h
  | (k, x) :: s, d, av, ⟨h1, h2⟩, h => by
    rw [look_cons] at h
    split at h
    · cases h; exact h1
    · exact h2.at h
def HdOk (nt X : Nat) (f : Value → AS) : Prop := (∀ v, f v = []) ∨ ∃ d, (∀ v, f v = [(d, .hdl v X)]) ∧ d < nt ∧ d < 100000 ∧ RN X

theorem yld_round {ps : List Tmp} {assign body : Code} {sl pre post : AS} {L X : Nat} {args : Value → List AV} {hdl : Value → AS} {fn : FuncId} {df : Nat} {tm : Array Value} {W1 : World} {V : UX} {hv0 : Nat → Value}
    (hfn2 : (Fence.wide).fn fn) (h01 : On w0 U0 W1 V) (hL0 : w0.heap.size ≤ L)
    (hW1 : W1.heap[L]? = some (.loop (recOf fn tm ps.toArray assign body df .ready))) (hnL : ¬ V.x L)
    (htm : tm.size = nt) (hps : (ps.all fun p => Nat.blt p nt && Nat.blt p 100000) = true) (hal : ∀ v, (args v).length = ps.length) (hslk : (kO sl).all (fun k => Nat.blt k 100000) = true)
    (hsl : ∀ d av, look sl d = some av → ∃ v, tm[d]? = some v ∧ ((∃ c, av = .val c ∧ VRep (Us W1 V (fun _ _ => False)) W1 c v) ∨ (av = .bp 350001 0 [] ∧ v = .pointer (some ⟨blkOf (hv0 450001), 0, none⟩)))) (hvf : V.f 450001 = some (hv0 450001))
    (hpre : (kO pre).all (Nat.ble 100000) = true) (hpost : (kO post).all (Nat.ble 100000) = true) (hhd : HdOk nt X hdl)
    (hround : ∀ (v : Value) (w : World) (U : UX), (∀ k v, U.f k = some v → hasN (kO pre) k = true) → On w0 U0 w U → AWp P w U nt assign (fun e s1 => e = .normal ∧ ∀ w', On w0 U0 w' U → AWpN P w' U nt body (fun e s' => e = .normal ∧ Wk w' U nt s' post) s1) (parA ps (args v) (hdl v ++ sl) ++ pre)) :
    YldC P W1 V L X pre args post := by
  intro U w hv a0 vs hon hU hS hargs
  have hlt : L < W1.heap.size := (Array.getElem?_eq_some_iff.1 hW1).1
  have hLw : w.heap[L]? = some (.loop (recOf fn tm ps.toArray assign body df .ready)) := (hon.below.block L hlt hnL).trans hW1
  have hltw : L < w.heap.size := (Array.getElem?_eq_some_iff.1 hLw).1
  have hnU : ¬ U.x L := fun h => by
    rcases hon.x L h with h | h
    · exact hnL h
    · omega
  have hloop : ∀ (r : Loop) xs ty fl, Obj.loop r ≠ .cells xs ty fl := fun r xs ty fl e => by cases e
  have hlen : vs.length = ps.length := hargs.len.trans (hal _)
  have hy := run_yield (P := P) (args := vs.toArray) hLw (by show vs.toArray.size = ps.toArray.size; simp [hlen])
  have hk : ∀ b o u, Us W1 V (fun _ _ => False) b o → W1.cell? ⟨b, o, none⟩ = some u → Us w U (fun _ _ => False) b o ∧ w.cell? ⟨b, o, none⟩ = some u := fun b o u hu hc => by
    rcases hu with ⟨g1, g2, g3⟩ | ⟨_, g⟩
    · refine ⟨.inl ⟨Nat.lt_of_lt_of_le g1 hon.below.size, hon.m b o g1 g2 g3, fun h => ?_⟩, ?_⟩
      · rcases hon.x b h with h | h
        · exact g3 h
        · omega
      · rw [World.cell?_of_block (w := W1) (hon.below.block b g1 g3)]; exact hc
    · exact g.elim
  have hslv : SlOk (fun av v => AVRep (Us w U (fun _ _ => False)) w hv (LiveN pre) av v) (hdl (hv X) ++ sl) tm := fun d av h1 => by
    have hsl2 : ∀ d av, look sl d = some av → ∃ v, tm[d]? = some v ∧ AVRep (Us w U (fun _ _ => False)) w hv (LiveN pre) av v := fun d av h1 => by
      obtain ⟨v, h3, h4⟩ := hsl d av h1
      refine ⟨v, h3, ?_⟩
      rcases h4 with ⟨c, rfl, h4⟩ | ⟨rfl, rfl⟩
      · exact avrep_val (h4.keep hk)
      · have e := hS.fix 450001 _ (hon.f _ hvf)
        show BN 350001 ∧ _ = Value.pointer (some ⟨blkOf (hv 450001), 0, none⟩)
        rw [e]
        exact ⟨.inr ⟨by omega, by omega⟩, rfl⟩
    rcases hhd with h2 | ⟨dd, h2, h3, h4, h5⟩
    · rw [h2] at h1; exact hsl2 d av h1
    · rw [h2] at h1
      have h1 : look ((dd, AV.hdl (hv X) X) :: sl) d = some av := h1
      by_cases e : dd = d
      · subst e
        rw [lS] at h1
        injection h1 with h1
        subst h1
        exact ⟨_, Array.getElem?_eq_getElem (by omega), h5, rfl⟩
      · rw [lN e] at h1
        exact hsl2 d av h1
  have hkeys : (kO (hdl (hv X) ++ sl)).all (fun k => Nat.blt k 100000) = true := by
    rcases hhd with h2 | ⟨dd, h2, h3, h4, h5⟩
    · rw [h2]; exact hslk
    · rw [h2]
      show ((dd :: kO sl).all _) = true
      rw [List.all_cons, hslk, Bool.and_true]
      exact Nat.ble_eq_true_of_le (by omega)
  have hpar := hslv.parA (ps := ps) (cs := args (hv X)) (vs := vs) (by
    rw [List.all_eq_true] at hps ⊢
    intro p hp
    have := hps p hp
    rw [Bool.and_eq_true] at this
    rw [htm]; exact this.1) (fun i c hc => hargs.at hc) hargs.len
  have hF := (hS.bare (post := pre) (fun _ _ h => h) hpre).frame (nt := nt) hpre (parA_keys nt ps _ _ hps hkeys) (tmps := parT ps vs tm) (by rw [hpar.2]; exact htm) hpar.1
  have hon1 := h01.trans hon
  refine ⟨fn, _, assign, body, hy, roundIn_of_wpIn hfn2 ?_⟩
  have hzp : (ps.toArray.zip vs.toArray).foldl (fun t (p, v) => t.setIfInBounds p v) tm = parT ps vs tm := zip_par ps vs tm
  show assign.wpIn _ _ _ _ ⟨(ps.toArray.zip vs.toArray).foldl (fun t (p, v) => t.setIfInBounds p v) tm, []⟩ w
  rw [hzp]
  refine wpIn_mono (hround (hv X) w U hU hon1 ⟨some L, []⟩ _ w ⟨_, hv, hF⟩) ?_
  rintro e a' W' ⟨a'', rfl, s1, ⟨rfl, hbd⟩, D1, hv1, h1⟩
  have hr1 : W'.heap[L]? = some (.loop (recOf fn tm ps.toArray assign body df .ready)) := (h1.below.block L hltw hnU).trans hLw
  refine ⟨_, run_beginRound hr1 rfl, ?_⟩
  have h2 := h1.rebase hLw hnU (hloop _) (.loop (recOf fn tm ps.toArray assign body df .busy))
  have hon2 : On w0 U0 (w.putObj L (.loop (recOf fn tm ps.toArray assign body df .busy))) U := ⟨⟨hon1.below.os, hon1.below.tape, hon1.below.output, by rw [World.putObj_size]; exact hon1.below.size, fun k hk hx => (World.putObj_heap_other (by omega)).trans (hon1.below.block k hk hx)⟩, hon1.x, hon1.m, hon1.f⟩
  refine wpIn_mono (hbd _ hon2 ⟨some L, []⟩ a'' _ L _ rfl (World.putObj_heap_same hltw) hnU ⟨_, _, h2⟩) ?_
  rintro e a3 W3 ⟨a4, rfl, s2, ⟨rfl, hw⟩, hs2⟩
  obtain ⟨D3, hv3, h3⟩ := hw a4 W3 hs2
  have h4 := h3.bare (post := post) (fun _ _ h => h) hpost
  have e3 : W3.heap[L]? = some (.loop (recOf fn tm ps.toArray assign body df .busy)) := (h4.below.block L (by rw [World.putObj_size]; exact hltw) hnU).trans (World.putObj_heap_same hltw)
  have hr := run_endRound (P := P) none e3
  have h5 := h4.rebase (l := L) (y := .loop (recOf fn tm ps.toArray assign body df .busy)) (World.putObj_heap_same hltw) hnU (hloop _) (.loop (recOf fn tm ps.toArray assign body df .ready))
  rw [putObj_back hLw] at h5
  exact ⟨_, _, hr, rfl, D3, hv3, _, h5⟩

theorem wp_rangeC {g : Operand} {ps : Array Tmp} {assign body : Code} {Q : Exit → Act → World → Prop} {a : Act} {w : World} {gf : Nat} {lb : Array Value}
    (hg : a.eval g = .func (.func gf) #[] lb) (eg : ∀ args w, (callFunc gf args).run P w = .ok (.enter gf args) w)
    (hcall : ∀ fn, Fence.wide.fn fn → ∀ W1, W1 = (w.alloc (.deferred (some []))).alloc (.loop (recOf fn a.tmps ps assign body w.heap.size .ready)) → CallsIn Fence.wide 2 P gf (#[.func (.yield (w.heap.size + 1)) #[] #[]] ++ lb) W1 (fun e V => (∃ v, e = .returned v) ∧ V.heap[w.heap.size + 1]? = some (.loop (recOf fn a.tmps ps assign body w.heap.size .ready)) ∧ ∀ r : Loop, Q .normal { a with defers := { target := .collected w.heap.size, args := #[] } :: a.defers } (V.putObj (w.heap.size + 1) (.loop r)))) :
    (Code.rangeFunc g ps assign body).wpIn Fence.wide 3 P Q a w := by
  refine wpIn_rangeFunc fun fn hfn => ?_
  obtain ⟨W1, hW1⟩ : ∃ W1, W1 = (w.alloc (.deferred (some []))).alloc (.loop (recOf fn a.tmps ps assign body w.heap.size .ready)) := ⟨_, rfl⟩
  refine ⟨w.heap.size + 1, [{ target := .collected w.heap.size, args := #[] }], W1, { target := .fn (.func gf) lb, args := #[.func (.yield (w.heap.size + 1)) #[] #[]] }, W1, gf, #[.func (.yield (w.heap.size + 1)) #[] #[]] ++ lb, W1, ?_, ?_, fun _ _ => trivial, ?_, (fun _ => by omega), ?_⟩
  · rw [hW1]; exact run_enterLoop_outer _ _ _ _ _
  · simp only [resolve, hg]
    simp [go_sem]
  · simp [invoke, go_sem, eg]
  refine (hcall fn hfn _ hW1).mono ?_
  rintro e V ⟨⟨v, rfl⟩, h2, h3⟩
  exact ⟨none, _, run_endLoop (P := P) h2 (by simp [recOf]), h3 _⟩
theorem wp_rangeCN {g : Operand} {ps : Array Tmp} {assign body : Code} {Q : Exit → Act → World → Prop} {a : Act} {w : World} {gf : Nat} {lb : Array Value} {l₀ : Nat} {r₀ : Loop} (hl₀ : w.heap[l₀]? = some (.loop r₀))
    (hg : a.eval g = .func (.func gf) #[] lb) (eg : ∀ args w, (callFunc gf args).run P w = .ok (.enter gf args) w)
    (hcall : ∀ fn, Fence.wide.fn fn → ∀ W1, W1 = w.alloc (.loop (recOf fn a.tmps ps assign body r₀.defers .ready)) → CallsIn Fence.wide 2 P gf (#[.func (.yield w.heap.size) #[] #[]] ++ lb) W1 (fun e V => (∃ v, e = .returned v) ∧ V.heap[w.heap.size]? = some (.loop (recOf fn a.tmps ps assign body r₀.defers .ready)) ∧ ∀ r : Loop, Q .normal a (V.putObj w.heap.size (.loop r)))) :
    (Code.rangeFunc g ps assign body).wpIn (wideR (some l₀)) 3 P Q a w := by
  refine wpIn_rangeFunc fun fn hfn => ?_
  obtain ⟨W1, hW1⟩ : ∃ W1, W1 = w.alloc (.loop (recOf fn a.tmps ps assign body r₀.defers .ready)) := ⟨_, rfl⟩
  refine ⟨w.heap.size, [], W1, { target := .fn (.func gf) lb, args := #[.func (.yield w.heap.size) #[] #[]] }, W1, gf, #[.func (.yield w.heap.size) #[] #[]] ++ lb, W1, ?_, ?_, fun _ _ => trivial, ?_, (fun _ => by omega), ?_⟩
  · rw [hW1]; exact run_enterLoop_inner hl₀ _ _ _ _ _
  · simp only [resolve, hg]
    simp [go_sem]
  · simp [invoke, go_sem, eg]
  show CallsIn Fence.wide 2 P gf _ _ _
  refine (hcall fn hfn _ hW1).mono ?_
  rintro e V ⟨⟨v, rfl⟩, h2, h3⟩
  exact ⟨none, _, run_endLoop (P := P) h2 (by simp [recOf]), h3 _⟩

theorem vreps_val {U : Nat → Nat → Prop} {w : World} {hv : Nat → Value} {s : AS} : ∀ (cs : List CV) (vs : List Value), VReps U w cs vs → AVReps U w hv (LiveN s) (cs.map AV.val) vs
  | [], vs, h => h
  | a :: cs, vs, ⟨u, us, e, h1, h2⟩ => ⟨u, us, e, avrep_val h1, vreps_val cs us h2⟩
structure LendOk {α : Type} (xs : List α) (ob : Nat → AS) : Prop where
  lend : (ob 0).all lendB = true
  leave : (ob xs.length).all (leaveB (kO (ob xs.length))) = true
  keys : ∀ k, kO (ob k) = kO (ob 0)
  big : ((kO (ob 0)).all fun k => Nat.ble 300000 k) = true
  box : hasN (kO (ob 0)) 450001 = true
  nm : ((newN (kO (ob 0)) (kO (ob 0)) (kO (ob 0))).all fun q => !Nat.beq q.1 0 && (!Nat.beq q.1 100000 && !Nat.beq q.1 1100000)) = true
def HandsY {α : Type} (P : Program) (gf : Nat) (caps : List CV) (Xs : List Nat) (ld : Nat → α → AS) (args : Nat → α → Value → List AV) (xs : List α) (ob : Nat → AS) : Prop :=
  ∀ (Wb : World) (Ub : UX) (l : Nat), (∀ k x, xs[k]? = some x → ∀ X ∈ Xs, YldC P Wb Ub l X (ob k ++ ld X x) (args X x) (ob (k + 1) ++ ld X x)) → AFunY P Wb Ub gf (ob 0) (.val (yldV l) :: caps.map AV.val) (.tup []) (ob xs.length)

theorem awpM_rangeY {α : Type} {g : Operand} {ps : List Tmp} {assign body : Code} {gf : Nat} {caps : List CV} {Xs : List Nat} {ld : Nat → α → AS} {args : Nat → α → Value → List AV} {xs : List α} {n1 q1 p1} (ob : Nat → AS) (sl : AS) (hdl : Nat → Value → AS)
    (hgv : ev (look s) g = some ⟨0, .fn gf 0 caps, n1, q1, p1⟩) (hent : EntF P gf) (hG : HandsY P gf caps Xs ld args xs ob)
    (hps : (ps.all fun p => Nat.blt p nt && Nat.blt p 100000) = true) (hal : ∀ X x v, (args X x v).length = ps.length)
    (hsl : SubL s sl) (hslk : (kO sl).all (fun k => Nat.blt k 100000) = true) (hslP : SlP sl) (hob0 : SubL s (ob 0)) (hob : LendOk xs ob)
    (hpk : ∀ k, ∀ X ∈ Xs, ∀ x, ((kO (ob k ++ ld X x)).all (Nat.ble 100000)) = true) (hhd : ∀ X ∈ Xs, HdOk nt X (hdl X))
    (hnr : noRefB s ((299999, []) :: (299998, []) :: newN (kO (ob 0)) (kO (ob 0)) (kO (ob 0))) = true)
    (hround : ∀ k x, xs[k]? = some x → ∀ X ∈ Xs, ∀ (v : Value) (w : World) (U : UX), (∀ k' v, U.f k' = some v → hasN (kO (ob k ++ ld X x)) k' = true) → On w0 U0 w U → AWp P w U nt assign (fun e s1 => e = .normal ∧ ∀ w', On w0 U0 w' U → AWpN P w' U nt body (fun e s' => e = .normal ∧ Wk w' U nt s' (ob (k + 1) ++ ld X x)) s1) (parA ps (args X x v) (hdl X v ++ sl) ++ (ob k ++ ld X x))) :
    AWpM P w0 U0 nt (.rangeFunc g ps.toArray assign body) (fun e s' m => e = .normal ∧ s' = ob xs.length ++ ((299998, .ob (m + 1) 1) :: (299999, .ob m 0) :: s)) s := by
  rintro a w ⟨D0, hv0, h⟩
  obtain ⟨ys, lb, e1, e2, e3, e4⟩ := vrep_fn.1 (ev_val h (fun k _ => rfl) hgv)
  have hys : ys = [] := List.eq_nil_of_length_eq_zero e2
  subst hys
  have hcaps : VReps (Us w0 U0 D0) w caps lb := sq_vreps e4 (by simpa using e3)
  have hnE := noRefB_spec hnr
  have hlk3 : ∀ {k av k'}, look (ob k) k' = some av → 300000 ≤ k' := fun {k av k'} h1 => by
    have := mem_keys h1
    rw [hob.keys k] at this
    exact Nat.le_of_ble_eq_true (List.all_eq_true.1 hob.big k' this)
  refine wpIn_n (wp_rangeC (gf := gf) (lb := lb.toArray) (by rw [e1]) hent fun fn hfn W1 hW1 => ?_)
  obtain ⟨L, hL⟩ : ∃ L, L = w.heap.size + 1 := ⟨_, rfl⟩
  rw [← hL]
  have below1 : Below w.heap.size w W1 := by rw [hW1]; exact ((Below.refl _ w).alloc (Nat.le_refl _) _).alloc (by simp) _
  have atL : W1.heap[L]? = some (.loop (recOf fn a.tmps ps.toArray assign body w.heap.size .ready)) := by
    have := World.alloc_heap_new (w.alloc (.deferred (some []))) (.loop (recOf fn a.tmps ps.toArray assign body w.heap.size .ready))
    rw [World.size_alloc, ← hL, ← hW1] at this
    exact this
  have hlt1 : L < W1.heap.size := (Array.getElem?_eq_some_iff.1 atL).1
  obtain ⟨lp, hlp⟩ : ∃ lp : AS, lp = (299998, AV.ob L 1) :: (299999, AV.ob w.heap.size 0) :: s := ⟨_, rfl⟩
  obtain ⟨hvL, hS⟩ : ∃ hvL, SimG w0 U0 nt lp a W1 D0 hvL := by
    have h1 := h.newob (n := 299999) (o := 0) (by unfold RW; omega) (hnE (299999, []) (by simp)).nr (x := .deferred (some [])) (fun _ _ _ e => by cases e) (fun _ => rfl)
    have hnr2 : NoRef ((299999, AV.ob w.heap.size 0) :: s) 299998 := fun k av hk => by
      rw [look_cons] at hk
      split at hk
      · rename_i e; subst e; cases hk; exact ⟨by show (0 : Nat) ≠ 299998; decide, by decide, by decide⟩
      · exact (hnE (299998, []) (by simp)).nr k av hk
    have h2 := h1.newob (n := 299998) (o := 1) (by unfold RW; omega) hnr2 (x := .loop (recOf fn a.tmps ps.toArray assign body w.heap.size .ready)) (fun _ _ _ e => by cases e) (fun e => by cases e)
    rw [show (w.alloc (.deferred (some []))).heap.size = L by rw [hL]; simp, ← hlp, ← hW1] at h2
    exact ⟨_, h2⟩
  have hap : ∀ {k k' : Nat}, k' < 300000 → look (ob k ++ lp) k' = look lp k' := fun {k k'} h1 => by
    rw [look_append]
    cases e : look (ob k) k' with
    | none => rfl
    | some av => have := hlk3 e; omega
  have hLl : look lp 299998 = some (.ob L 1) := by rw [hlp, lS]
  have hDl : look lp 299999 = some (.ob w.heap.size 0) := by rw [hlp, lN (by omega), lS]
  have hsub : Sub lp (ob 0) := fun k av h1 => by
    have h3 := hlk3 h1
    rw [hlp, lN (by omega), lN (by omega)]
    exact hob0.sub k av h1
  have hS' : SimG w0 U0 nt (ob 0 ++ lp) a W1 D0 hvL := hS.congr fun k => by
    rw [look_append]
    cases e : look (ob 0) k with
    | none => rfl
    | some av => exact (hsub k av e).symm
  obtain ⟨V, v1, v2, v3, v4, v5, v6⟩ := hS.lend hsub hob.lend
  have h01 := hS.on hsub hob.lend v3 v4 v5 hob.box
  have hnL : ¬ V.x L := ob_off hS' hob.lend hob.big v3 (.inl rfl) (by rw [hap (by omega)]; exact hLl)
  have hcall := hG W1 V L (fun k x hx X hX => yld_round (hv0 := hvL) hfn h01 (by rw [hL]; have := h.below.size; omega) atL hnL hS.size hps (hal X x) hslk (fun d av h1 => by
      have hd5 : d < 100000 := by
        rw [List.all_eq_true] at hslk
        exact bL (hslk d (mem_keys h1))
      obtain ⟨v, g1, g2⟩ := hS.slot d av (by rw [hlp, lN (by omega), lN (by omega)]; exact hsl.sub d av h1) hd5
      refine ⟨v, g1, ?_⟩
      rcases hslP.at h1 with ⟨c, rfl⟩ | rfl
      · exact .inl ⟨c, rfl, g2.1.keep v6⟩
      · exact .inr ⟨rfl, g2.2⟩) (v4 450001 hob.box (by omega) (by omega)) (hpk k X hX x) (hpk (k + 1) X hX x) (hhd X hX) (hround k x hx X hX))
  have hargs : AVReps (Us W1 V (fun _ _ => False)) W1 hvL (LiveN (ob 0)) (.val (yldV L) :: caps.map AV.val) (.func (.yield L) #[] #[] :: lb) :=
    ⟨_, _, rfl, avrep_sc rfl, vreps_val _ _ (hcaps.keep fun b o u hu hc => by
      have hb : b < w.heap.size := World.block_lt_of_cell? w _ hc
      refine v6 b o u hu ?_
      rw [World.cell?_of_block (w := w) (below1.block b hb)]; exact hc)⟩
  have harr : #[Value.func (.yield L) #[] #[]] ++ lb.toArray = (Value.func (.yield L) #[] #[] :: lb).toArray := by simp
  rw [harr]
  refine (callsIn_wide.2 (hcall.2 V W1 hvL ⟨#[], []⟩ _ (On.refl _ _) v1 v2 hargs)).mono ?_
  rintro e V2 ⟨v, D', hv', a', rfl, g1, g2⟩
  have hLV : V2.heap[L]? = some (.loop (recOf fn a.tmps ps.toArray assign body w.heap.size .ready)) := (g1.below.block L hlt1 hnL).trans atL
  refine ⟨⟨v, rfl⟩, hLV, fun r => ?_⟩
  obtain ⟨D2, hv2, b1, _, _⟩ := hS.back hsub hob.lend hob.leave (by rw [hob.keys xs.length, List.all_eq_true]; intro q hq; exact hasN_of hq) (fun q hq => by
    rw [hob.keys xs.length] at hq
    have hq2 := hnE q (by simp only [List.mem_cons]; exact .inr (.inr hq))
    have hn3 := List.all_eq_true.1 hob.nm q hq
    simp only [Bool.and_eq_true, Bool.not_eq_true'] at hn3
    obtain ⟨g1, g2, g3⟩ := hn3
    have n1 : q.1 ≠ 0 := fun e => by rw [e] at g1; cases g1
    have n2 : 100000 ≠ q.1 := fun e => by rw [← e] at g2; cases g2
    have n3 : 100000 + 1000000 ≠ q.1 := fun e => by rw [← e] at g3; cases g3
    intro kk av hkk hex
    rw [hlp, look_cons] at hkk
    split at hkk
    · rename_i e2
      injection hkk with hkk
      rw [← e2, ← hkk]
      exact ⟨fun e => n1 e.symm, n2, n3⟩
    · rw [look_cons] at hkk
      split at hkk
      · rename_i e2
        injection hkk with hkk
        rw [← e2, ← hkk]
        exact ⟨fun e => n1 e.symm, n2, n3⟩
      · exact hq2 kk av hkk hex) (fun k v h1 h2 => by rw [hob.keys xs.length] at h2; exact h2) v3 v4 v5 v2 g1
  obtain ⟨h9, _⟩ := b1.putob (n := 299998) (o := 1) (o' := 1) (by unfold RW; omega) (by rw [hap (by omega)]; exact hLl) (x := .loop r) (fun _ _ _ e => by cases e) (fun e => by cases e)
  have h10 : SimG w0 U0 nt (ob xs.length ++ lp) a (V2.putObj L (.loop r)) D2 hv2 := h9.congr fun k => by
    rw [look_cons]
    split
    · rename_i e; subst e; rw [hap (by omega)]; exact hLl
    · rfl
  refine ⟨_, a, w.heap.size, ⟨rfl, rfl⟩, ⟨D2, hv2, by rw [hlp, hL] at h10; rw [hL]; exact h10⟩, by show _ = wdA a _; unfold wdA; rw [h.dfr], ?_⟩
  have := hap (k := xs.length) (k' := 299999) (by omega)
  rw [hDl, hlp, hL] at this
  exact this

theorem awpN_rangeY {α : Type} {g : Operand} {ps : List Tmp} {assign body : Code} {gf : Nat} {caps : List CV} {Xs : List Nat} {ld : Nat → α → AS} {args : Nat → α → Value → List AV} {xs : List α} {n1 q1 p1} (ob : Nat → AS) (sl : AS) (hdl : Nat → Value → AS)
    (hgv : ev (look s) g = some ⟨0, .fn gf 0 caps, n1, q1, p1⟩) (hent : EntF P gf) (hG : HandsY P gf caps Xs ld args xs ob)
    (hps : (ps.all fun p => Nat.blt p nt && Nat.blt p 100000) = true) (hal : ∀ X x v, (args X x v).length = ps.length)
    (hsl : SubL s sl) (hslk : (kO sl).all (fun k => Nat.blt k 100000) = true) (hslP : SlP sl) (hob0 : SubL s (ob 0)) (hob : LendOk xs ob)
    (hpk : ∀ k, ∀ X ∈ Xs, ∀ x, ((kO (ob k ++ ld X x)).all (Nat.ble 100000)) = true) (hhd : ∀ X ∈ Xs, HdOk nt X (hdl X))
    (hnr : noRefB s ((299998, []) :: newN (kO (ob 0)) (kO (ob 0)) (kO (ob 0))) = true)
    (hround : ∀ k x, xs[k]? = some x → ∀ X ∈ Xs, ∀ (v : Value) (w : World) (U : UX), (∀ k' v, U.f k' = some v → hasN (kO (ob k ++ ld X x)) k' = true) → On w0 U0 w U → AWp P w U nt assign (fun e s1 => e = .normal ∧ ∀ w', On w0 U0 w' U → AWpN P w' U nt body (fun e s' => e = .normal ∧ Wk w' U nt s' (ob (k + 1) ++ ld X x)) s1) (parA ps (args X x v) (hdl X v ++ sl) ++ (ob k ++ ld X x))) :
    AWpN P w0 U0 nt (.rangeFunc g ps.toArray assign body) (fun e s' => e = .normal ∧ ∃ m, s' = ob xs.length ++ ((299998, .ob m 1) :: s)) s := by
  rintro M a w l₀ r₀ hMr hl₀ hnx ⟨D0, hv0, h⟩
  have hw0 : w.heap[l₀]? = some (.loop r₀) := (h.below.block l₀ (Array.getElem?_eq_some_iff.1 hl₀).1 hnx).trans hl₀
  obtain ⟨ys, lb, e1, e2, e3, e4⟩ := vrep_fn.1 (ev_val h (fun k _ => rfl) hgv)
  have hys : ys = [] := List.eq_nil_of_length_eq_zero e2
  subst hys
  have hcaps : VReps (Us w0 U0 D0) w caps lb := sq_vreps e4 (by simpa using e3)
  have hnE := noRefB_spec hnr
  have hlk3 : ∀ {k av k'}, look (ob k) k' = some av → 300000 ≤ k' := fun {k av k'} h1 => by
    have := mem_keys h1
    rw [hob.keys k] at this
    exact Nat.le_of_ble_eq_true (List.all_eq_true.1 hob.big k' this)
  obtain ⟨L, hL⟩ : ∃ L, L = w.heap.size := ⟨_, rfl⟩
  have hgo : (Code.rangeFunc g ps.toArray assign body).wpIn (wideR (some l₀)) 3 P (postW M fun e a' w' => ∃ s', (e = .normal ∧ ∃ m, s' = ob xs.length ++ ((299998, .ob m 1) :: s)) ∧ Sim w0 U0 nt s' a' w') (wdA a M.ds) w := by
    refine wp_rangeCN (gf := gf) (lb := lb.toArray) hw0 (by rw [wd_eval, e1]) hent fun fn hfn W1 hW1 => ?_
    rw [← hL]
    have below1 : Below w.heap.size w W1 := by rw [hW1]; exact (Below.refl _ w).alloc (Nat.le_refl _) _
    have atL : W1.heap[L]? = some (.loop (recOf fn a.tmps ps.toArray assign body r₀.defers .ready)) := by
      have := World.alloc_heap_new w (.loop (recOf fn a.tmps ps.toArray assign body r₀.defers .ready))
      rw [← hL] at this
      rw [hW1]
      exact this
    have hlt1 : L < W1.heap.size := (Array.getElem?_eq_some_iff.1 atL).1
    obtain ⟨lp, hlp⟩ : ∃ lp : AS, lp = (299998, AV.ob L 1) :: s := ⟨_, rfl⟩
    obtain ⟨hvL, hS⟩ : ∃ hvL, SimG w0 U0 nt lp a W1 D0 hvL := by
      have h2 := h.newob (n := 299998) (o := 1) (by unfold RW; omega) (hnE (299998, []) (by simp)).nr (x := .loop (recOf fn a.tmps ps.toArray assign body r₀.defers .ready)) (fun _ _ _ e => by cases e) (fun e => by cases e)
      rw [← hL, ← hlp] at h2
      rw [hW1]
      exact ⟨_, h2⟩
    have hap : ∀ {k k' : Nat}, k' < 300000 → look (ob k ++ lp) k' = look lp k' := fun {k k'} h1 => by
      rw [look_append]
      cases e : look (ob k) k' with
      | none => rfl
      | some av => have := hlk3 e; omega
    have hLl : look lp 299998 = some (.ob L 1) := by rw [hlp, lS]
    have hsub : Sub lp (ob 0) := fun k av h1 => by
      have h3 := hlk3 h1
      rw [hlp, lN (by omega)]
      exact hob0.sub k av h1
    have hS' : SimG w0 U0 nt (ob 0 ++ lp) a W1 D0 hvL := hS.congr fun k => by
      rw [look_append]
      cases e : look (ob 0) k with
      | none => rfl
      | some av => exact (hsub k av e).symm
    obtain ⟨V, v1, v2, v3, v4, v5, v6⟩ := hS.lend hsub hob.lend
    have h01 := hS.on hsub hob.lend v3 v4 v5 hob.box
    have hnL : ¬ V.x L := ob_off hS' hob.lend hob.big v3 (.inl rfl) (by rw [hap (by omega)]; exact hLl)
    have hcall := hG W1 V L (fun k x hx X hX => yld_round (hv0 := hvL) hfn h01 (by rw [hL]; have := h.below.size; omega) atL hnL hS.size hps (hal X x) hslk (fun d av h1 => by
        have hd5 : d < 100000 := by
          rw [List.all_eq_true] at hslk
          exact bL (hslk d (mem_keys h1))
        obtain ⟨v, g1, g2⟩ := hS.slot d av (by rw [hlp, lN (by omega)]; exact hsl.sub d av h1) hd5
        refine ⟨v, g1, ?_⟩
        rcases hslP.at h1 with ⟨c, rfl⟩ | rfl
        · exact .inl ⟨c, rfl, g2.1.keep v6⟩
        · exact .inr ⟨rfl, g2.2⟩) (v4 450001 hob.box (by omega) (by omega)) (hpk k X hX x) (hpk (k + 1) X hX x) (hhd X hX) (hround k x hx X hX))
    have hargs : AVReps (Us W1 V (fun _ _ => False)) W1 hvL (LiveN (ob 0)) (.val (yldV L) :: caps.map AV.val) (.func (.yield L) #[] #[] :: lb) :=
      ⟨_, _, rfl, avrep_sc rfl, vreps_val _ _ (hcaps.keep fun b o u hu hc => by
        have hb : b < w.heap.size := World.block_lt_of_cell? w _ hc
        refine v6 b o u hu ?_
        rw [World.cell?_of_block (w := w) (below1.block b hb)]; exact hc)⟩
    have harr : #[Value.func (.yield L) #[] #[]] ++ lb.toArray = (Value.func (.yield L) #[] #[] :: lb).toArray := by simp
    rw [harr]
    refine (callsIn_wide.2 (hcall.2 V W1 hvL ⟨#[], []⟩ _ (On.refl _ _) v1 v2 hargs)).mono ?_
    rintro e V2 ⟨v, D', hv', a', rfl, g1, g2⟩
    have hLV : V2.heap[L]? = some (.loop (recOf fn a.tmps ps.toArray assign body r₀.defers .ready)) := (g1.below.block L hlt1 hnL).trans atL
    refine ⟨⟨v, rfl⟩, hLV, fun r => ?_⟩
    obtain ⟨D2, hv2, b1, _, _⟩ := hS.back hsub hob.lend hob.leave (by rw [hob.keys xs.length, List.all_eq_true]; intro q hq; exact hasN_of hq) (fun q hq => by
      rw [hob.keys xs.length] at hq
      have hq2 := hnE q (by simp only [List.mem_cons]; exact .inr hq)
      have hn3 := List.all_eq_true.1 hob.nm q hq
      simp only [Bool.and_eq_true, Bool.not_eq_true'] at hn3
      obtain ⟨g1, g2, g3⟩ := hn3
      have n1 : q.1 ≠ 0 := fun e => by rw [e] at g1; cases g1
      have n2 : 100000 ≠ q.1 := fun e => by rw [← e] at g2; cases g2
      have n3 : 100000 + 1000000 ≠ q.1 := fun e => by rw [← e] at g3; cases g3
      intro kk av hkk hex
      rw [hlp, look_cons] at hkk
      split at hkk
      · rename_i e2
        injection hkk with hkk
        rw [← e2, ← hkk]
        exact ⟨fun e => n1 e.symm, n2, n3⟩
      · exact hq2 kk av hkk hex) (fun k v h1 h2 => by rw [hob.keys xs.length] at h2; exact h2) v3 v4 v5 v2 g1
    obtain ⟨h9, _⟩ := b1.putob (n := 299998) (o := 1) (o' := 1) (by unfold RW; omega) (by rw [hap (by omega)]; exact hLl) (x := .loop r) (fun _ _ _ e => by cases e) (fun e => by cases e)
    have h10 : SimG w0 U0 nt (ob xs.length ++ lp) a (V2.putObj L (.loop r)) D2 hv2 := h9.congr fun k => by
      rw [look_cons]
      split
      · rename_i e; subst e; rw [hap (by omega)]; exact hLl
      · rfl
    exact ⟨a, rfl, _, ⟨rfl, L, rfl⟩, ⟨D2, hv2, by rw [hlp] at h10; exact h10⟩⟩
  unfold WP
  rw [hMr]
  exact fun b k cs h1 h2 _ => hgo b k cs h1 h2 (room_wide _)
end
section
variable {P : Program}
theorem afunY_nil (X e z : Nat) {Wb : World} {Ub : UX} {f : FuncId} {pre post : AS} {cs : List CV} {r : AV} (hX : (Nat.ble 400000 X && Nat.blt X 450000) = true) (hXn : hasN (kO pre) X = false) (hr : noRefB pre [(X, [])] = true) (hz : Nat.blt 0 z = true)
    (h : AFunY P Wb Ub f (pre ++ [(X, .mrow e z [])]) (.sl X 0 0 z :: cs.map AV.val) r (post ++ [(X, .mrow e z [])])) : AFunY P Wb Ub f pre (.own (.lst []) 1 :: cs.map AV.val) r post := by
  refine ⟨h.1, fun U w hv a0 vs hon hU hS ha => ?_⟩
  simp only [Bool.and_eq_true] at hX
  have x1 := Nat.le_of_ble_eq_true hX.1
  have x2 := bL hX.2
  have hrn : RN X := ⟨by omega, x2⟩
  obtain ⟨u, us, rfl, h1, h2⟩ := ha
  have hu : u = .slice none 0 0 := by
    obtain ⟨m, c, g1, g2⟩ := h1.2 (.inl rfl)
    obtain ⟨ao, n, cap, e1, _⟩ := vrep_lst.1 h1.1
    rw [e1] at g2 ⊢
    have g3 : m = 0 := by
      rcases m with _ | m
      · rfl
      · simp [Value.cells] at g2
    subst g3
    have g2 : some (Value.slice ao n cap) = some (tokv hv 1) := g2
    injection g2
  subst hu
  have hno : look pre X = none := by
    cases e : look pre X with
    | none => rfl
    | some av => rw [hasN_of (mem_keys e)] at hXn; cases hXn
  have hf : U.f X = none := by
    cases e : U.f X with
    | none => rfl
    | some v => rw [hU X v e] at hXn; cases hXn
  have hS1 := hS.newrowF (avn := .mrow e z []) (X := fun _ => False) (v' := .slice none 0 0) hrn hf (noRefB_spec hr (X, []) (by simp)).nr (fun e => by cases e) (BelowX.refl _ _) (fun b hb => hb.elim) (fun g hg => by cases hg) (fun b o hd => .inl hd) (fun b o hd => hd.elim) (fun b o u h1 h2 => ⟨h1, h2⟩) (fun hv lv => ⟨[], World.ownsRow_nil _ _ _ _, bL hz, (fun c hc => by cases hc), rfl⟩)
  have hS2 := hS1.congr (s' := pre ++ [(X, .mrow e z [])]) fun k => by
    by_cases ek : X = k
    · subst ek; rw [look_append, hno, lS, lS]; rfl
    · rw [lN ek, look_append]
      cases e9 : look pre k with
      | some av => rfl
      | none => show look [(X, AV.mrow e z [])] k = none; rw [lN ek]; rfl
  have hcs : VReps (Us w U (fun _ _ => False)) w cs us := by
    have : ∀ (cs : List CV) (us : List Value), AVReps (Us w U (fun _ _ => False)) w hv (LiveN pre) (cs.map AV.val) us → VReps (Us w U (fun _ _ => False)) w cs us := by
      intro cs
      induction cs with
      | nil => intro us h; exact h
      | cons c cs ih => rintro us ⟨u, us, e, g1, g2⟩; exact ⟨u, us, e, g1.1, ih _ g2⟩
    exact this cs us h2
  refine (h.2 U w _ a0 _ hon (fun k v hk => ?_) hS2 ⟨_, _, rfl, ⟨hrn, ?_⟩, vreps_val _ _ hcs⟩).mono ?_
  · have := hU k v hk
    have hm : k ∈ kO pre := by
      cases e9 : look pre k with
      | some av => exact mem_keys e9
      | none =>
        exfalso
        have := hasN_mem this
        obtain ⟨av, h3⟩ := keys_look this
        rw [e9] at h3; cases h3
    refine hasN_of ?_
    unfold kO at hm ⊢
    rw [List.map_append]
    exact List.mem_append_left _ hm
  · show SlV (if X = X then _ else _) 0 0 z _
    rw [if_pos rfl]
    exact slV_all rfl (Nat.le_refl _) (.inl rfl)
  · rintro e' w' ⟨v, D', hv', a', rfl, g1, g2⟩
    have hs : Sub (post ++ [(X, .mrow e z [])]) post := fun k av hk => by rw [look_append, hk]; rfl
    exact ⟨v, D', hv', a', rfl, g1.sub hs, g2.move (fun _ _ _ h1 h2 => ⟨h1, h2⟩) (fun _ h7 => h7.imp id fun ⟨e, he⟩ => ⟨e, hs _ _ he.1, he.2⟩) fun _ => rfl⟩
end
end Go.Proofs.YteegmcfobgpemaaGreat
namespace Go.Proofs.YteegmcfobgpemaaGreat
open Go.RowKit
set_option linter.unusedVariables false
set_option linter.unusedSimpArgs false
set_option maxRecDepth 100000
-- 
theorem sIsVar_abs (W : World) (t : Tm) : AFun Tryz.prog W 97 [t.cw] (.val (.b (decide (t.f < 0)))) := by
  refine afun_of (rs := [.b (decide (t.f < 0))]) Tryz.func97 Tryz.ntmps97 rfl rfl rfl rfl ?_
  intro w U hW
  refine aS (aR ?_)
  (refine nx (a_box (gN rfl) rfl rfl rfl rfl rfl) rfl ?_)
  (refine nx (aA (gN rfl) rfl rfl rfl rfl rfl) rfl ?_)
  show AWp _ _ _ _ _ _ _
  refine aS (aR ?_)
  (refine nx (aF (gN rfl) rfl rfl rfl rfl rfl rfl rfl rfl rfl) rfl ?_)
  (refine nx (aLb (gN rfl) rfl rfl rfl rfl rfl rfl rfl rfl rfl rfl rfl rfl) rfl ?_)
  (refine nx (a_lss (gN rfl) rfl rfl rfl rfl rfl rfl) rfl ?_)
  (refine nx (aA (gN rfl) rfl rfl rfl rfl rfl) rfl ?_)
  show AWp _ _ _ _ _ _ _
  exact aT ⟨.inr rfl, rfl⟩
-- 
theorem sNumber_abs (W : World) (t : Tm) (h1 : -9223372036854775808 ≤ t.f) (h2 : t.f < 0) : AFun Tryz.prog W 99 [t.cw] (.val (.i (-1 - t.f))) := by
  refine afun_of (rs := [.i (-1 - t.f)]) Tryz.func99 Tryz.ntmps99 rfl rfl rfl rfl ?_
  intro w U hW
  refine aS (aR ?_)
  (refine nx (a_box (gN rfl) rfl rfl rfl rfl rfl) rfl ?_)
  (refine nx (aA (gN rfl) rfl rfl rfl rfl rfl) rfl ?_)
  show AWp _ _ _ _ _ _ _
  refine aS (aR ?_)
  (refine nx (aF (gN rfl) rfl rfl rfl rfl rfl rfl rfl rfl rfl) rfl ?_)
  (refine nx (aLb (gN rfl) rfl rfl rfl rfl rfl rfl rfl rfl rfl rfl rfl rfl) rfl ?_)
  (refine nx (a_sub (gN rfl) rfl rfl rfl rfl rfl rfl (by first | omega | (simp only [List.length_map, List.length_append, List.length_cons, List.length_nil] <;> omega) | (simp <;> omega))) rfl ?_)
  (refine nx (aA (gN rfl) rfl rfl rfl rfl rfl) rfl ?_)
  show AWp _ _ _ _ _ _ _
  exact aT ⟨.inr rfl, rfl⟩
-- 
theorem sVariable_abs (W : World) (v : Int) (h1 : 0 ≤ v) (h2 : v ≤ 9223372036854775807) : AFun Tryz.prog W 73 [.i v] (.val (varT v).cw) := by
  refine afun_of (rs := [(varT v).cw]) Tryz.func73 Tryz.ntmps73 rfl rfl rfl rfl ?_
  intro w U hW
  refine aS (aR ?_)
  (refine nx (a_alloc (gN rfl) rfl rfl rfl rfl rfl rfl rfl rfl rfl rfl) rfl ?_)
  show AWp _ _ _ _ _ _ _
  refine aS (aR ?_)
  (refine nx (aM (gN rfl) rfl rfl rfl rfl rfl) rfl ?_)
  (refine nx (a_sub (gN rfl) rfl rfl rfl rfl rfl rfl (by first | omega | (simp only [List.length_map, List.length_append, List.length_cons, List.length_nil] <;> omega) | (simp <;> omega))) rfl ?_)
  (refine nx (a_build (gN rfl) rfl rfl rfl rfl rfl rfl rfl rfl rfl rfl rfl) rfl ?_)
  (refine nx (aSt (gN rfl) rfl rfl rfl rfl rfl rfl rfl rfl rfl rfl) rfl ?_)
  show AWp _ _ _ _ _ _ _
  exact aT ⟨.inr rfl, rfl⟩
-- 
theorem find_abs (W : World) (l : List Bd) (v : Int) (hl : l.length ≤ 90000000000) : AFun Tryz.prog W 161 [.lst (l.map Bd.cv), .i v] (.tup [((findB l v).getD ⟨0, []⟩).cw, .b (findB l v).isSome]) := by
  have hsz := Bd.size_all l
  refine afun_of (rs := [((findB l v).getD ⟨0, []⟩).cw, .b (findB l v).isSome]) Tryz.func161 Tryz.ntmps161 rfl rfl rfl rfl ?_
  intro w U hW
  refine aS (aR ?_)
  (refine nx (a_alloc (gN rfl) rfl rfl rfl rfl rfl rfl rfl rfl rfl rfl) rfl ?_)
  (refine nx (aA (gN rfl) rfl rfl rfl rfl rfl) rfl ?_)
  show AWp _ _ _ _ _ _ _
  refine aS (aS (aR ?_))
  (refine nx (aM (gN rfl) rfl rfl rfl rfl rfl) rfl ?_)
  (refine nx (a_len (gN rfl) rfl rfl rfl rfl rfl rfl rfl) rfl ?_)
  (refine nx (aM (gN rfl) rfl rfl rfl rfl rfl) rfl ?_)
  show AWp _ _ _ _ _ _ _
  refine aB (awp_countI l.length (fun k => ∀ i c, i < k → l[i]? = some c → c.v ≠ v) (fun k => [(1, .val (.i v)), (4, .bp 4 0 []), (100004, ⟨5, .row [.i 0, .lst []], 1, 0, [1]⟩), (8, .val (.lst (l.map Bd.cv))), (9, .val (.i (l.map Bd.cv).length)), (10, .val (.i k))]) (wk_sub ⟨rfl, rfl, rfl, rfl, rfl, rfl, trivial⟩) (by omega) ?_)
  intro k hk hI
  refine aS (aR ?_)
  (refine nx (a_lss (gN rfl) rfl rfl rfl rfl rfl rfl) rfl ?_)
  show AWp _ _ _ _ _ _ _
  refine aS (aC rfl (fun hc => ?_) (fun hc => ?_))
  · simp only [List.length_map, decide_eq_true_eq] at hc
    have hkl : k < l.length := by omega
    obtain ⟨b, hb⟩ : ∃ t, l[k]? = some t := ⟨l[k], List.getElem?_eq_getElem hkl⟩
    have hb' := Bd.map_at hb
    refine aK ?_
    show AWp _ _ _ _ _ _ _
    refine aS (aB (aS (aR ?_)))
    (refine nx (a_index (gN rfl) rfl rfl rfl rfl rfl rfl rfl rfl rfl (by assumption) rfl (by first | assumption | exact sZ rfl | exact Tm.size_all _ | exact Bd.size_all _ | exact ints_size _ | exact bys_size _ | exact Lt.size_all _)) rfl ?_)
    (refine nx (a_load_ad (gN rfl) rfl rfl rfl rfl rfl rfl rfl rfl rfl) rfl ?_)
    (refine nx (a_alloc (gN rfl) rfl rfl rfl rfl rfl rfl rfl rfl rfl rfl) rfl ?_)
    (refine nx (aSt (gN rfl) rfl rfl rfl rfl rfl rfl rfl rfl rfl rfl) rfl ?_)
    show AWp _ _ _ _ _ _ _
    refine aS (aR ?_)
    (refine nx (aF (gN rfl) rfl rfl rfl rfl rfl rfl rfl rfl rfl) rfl ?_)
    (refine nx (aLb (gN rfl) rfl rfl rfl rfl rfl rfl rfl rfl rfl rfl rfl rfl) rfl ?_)
    (refine nx (aM (gN rfl) rfl rfl rfl rfl rfl) rfl ?_)
    (refine nx (a_eql (gN rfl) rfl rfl rfl rfl rfl rfl) rfl ?_)
    show AWp _ _ _ _ _ _ _
    refine aC rfl (fun hc2 => ?_) (fun hc2 => ?_)
    · simp only [decide_eq_true_eq] at hc2
      have hf := findB_at hb hc2 hI
      rw [hf]
      refine aS (aR ?_)
      (refine nx (aF (gN rfl) rfl rfl rfl rfl rfl rfl rfl rfl rfl) rfl ?_)
      (refine nx (aLb (gN rfl) rfl rfl rfl rfl rfl rfl rfl rfl rfl rfl rfl rfl) rfl ?_)
      (refine nx (aSt (gN rfl) rfl rfl rfl rfl rfl rfl rfl rfl rfl rfl) rfl ?_)
      (refine nx (aA (gN rfl) rfl rfl rfl rfl rfl) rfl ?_)
      show AWp _ _ _ _ _ _ _
      exact aT (And.intro (.inr rfl) rfl)
    · simp only [decide_eq_false_iff_not] at hc2
      refine aK ?_
      show AWp _ _ _ _ _ _ _
      refine aR ?_
      (refine nx (a_add (gN rfl) rfl rfl rfl rfl rfl rfl (by first | omega | (simp only [List.length_map, List.length_append, List.length_cons, List.length_nil] <;> omega) | (simp <;> omega))) rfl ?_)
      (refine nx (aM (gN rfl) rfl rfl rfl rfl rfl) rfl ?_)
      refine ⟨hkl, fun i c hi hcc => ?_, wk_sub ⟨rfl, rfl, rfl, rfl, rfl, rfl, trivial⟩⟩
      rcases Nat.lt_or_ge i k with h | h
      · exact hI i c h hcc
      · obtain rfl : i = k := by omega
        rw [hb] at hcc
        cases hcc
        exact hc2
  · simp only [List.length_map, decide_eq_false_iff_not] at hc
    have hkl : k = l.length := by omega
    have hf : findB l v = none := findB_none fun b hb => by
      obtain ⟨i, hi, he⟩ := List.mem_iff_getElem.1 hb
      exact hI i b (by omega) (by rw [List.getElem?_eq_getElem hi, he])
    rw [hf]
    refine aE ?_
    show AWp _ _ _ _ _ _ _
    refine aS (aR ?_)
    (refine nx (a_build (gN rfl) rfl rfl rfl rfl rfl rfl rfl rfl rfl rfl rfl) rfl ?_)
    (refine nx (aSt (gN rfl) rfl rfl rfl rfl rfl rfl rfl rfl rfl rfl) rfl ?_)
    (refine nx (aA (gN rfl) rfl rfl rfl rfl rfl) rfl ?_)
    show AWp _ _ _ _ _ _ _
    exact aT (And.intro (.inr rfl) rfl)

-- 
theorem image_abs (W : World) (l : List Bd) (v : Int) (hl : l.length ≤ 90000000000) (h1 : 0 ≤ v) (h2 : v ≤ 9223372036854775807) : AFun Tryz.prog W 126 [.lst (l.map Bd.cv), .i v] (.val (imgB l v).cw) := by
  refine afun_of (rs := [(imgB l v).cw]) Tryz.func126 Tryz.ntmps126 rfl rfl rfl rfl ?_
  intro w U hW
  refine aS (aR ?_)
  (refine nx (a_alloc (gN rfl) rfl rfl rfl rfl rfl rfl rfl rfl rfl rfl) rfl ?_)
  show AWp _ _ _ _ _ _ _
  refine aS (aS (aR ?_))
  (refine nx (aM (gN rfl) rfl rfl rfl rfl rfl) rfl ?_)
  (refine nx (aM (gN rfl) rfl rfl rfl rfl rfl) rfl ?_)
  (refine nx (a_call (gN rfl) rfl rfl rfl rfl rfl (find_abs w l v hl)) rfl ?_)
  (refine nx (aM (gN rfl) rfl rfl rfl rfl rfl) rfl ?_)
  (refine nx (aX (gN rfl) rfl rfl rfl rfl rfl rfl) rfl ?_)
  (refine nx (aX (gN rfl) rfl rfl rfl rfl rfl rfl) rfl ?_)
  (refine nx (a_alloc (gN rfl) rfl rfl rfl rfl rfl rfl rfl rfl rfl rfl) rfl ?_)
  (refine nx (aSt (gN rfl) rfl rfl rfl rfl rfl rfl rfl rfl rfl rfl) rfl ?_)
  (refine nx (aA (gN rfl) rfl rfl rfl rfl rfl) rfl ?_)
  show AWp _ _ _ _ _ _ _
  refine aS (aR ?_)
  (refine nx (aM (gN rfl) rfl rfl rfl rfl rfl) rfl ?_)
  show AWp _ _ _ _ _ _ _
  unfold imgB
  refine aC rfl (fun hc => ?_) (fun hc => ?_)
  · obtain ⟨t, ht⟩ := Option.isSome_iff_exists.1 hc
    rw [ht]
    refine aS (aR ?_)
    (refine nx (aL (gN rfl) rfl rfl rfl rfl rfl rfl rfl rfl rfl rfl rfl rfl) rfl ?_)
    (refine nx (aSt (gN rfl) rfl rfl rfl rfl rfl rfl rfl rfl rfl rfl) rfl ?_)
    show AWp _ _ _ _ _ _ _
    exact aT (And.intro (.inr rfl) rfl)
  · have ht : findB l v = none := by simpa using hc
    rw [ht]
    refine aK ?_
    show AWp _ _ _ _ _ _ _
    refine aS (aR ?_)
    (refine nx (aM (gN rfl) rfl rfl rfl rfl rfl) rfl ?_)
    (refine nx (a_call (gN rfl) rfl rfl rfl rfl rfl (sVariable_abs w v h1 h2)) rfl ?_)
    (refine nx (aSt (gN rfl) rfl rfl rfl rfl rfl rfl rfl rfl rfl rfl) rfl ?_)
    show AWp _ _ _ _ _ _ _
    exact aT (And.intro (.inr rfl) rfl)

-- 
theorem images_abs (W : World) (l : List Bd) (hl : l.length ≤ 64) : AFun Tryz.prog W 93 [.lst (l.map Bd.cv)] (.val (.fn 126 1 [.lst (l.map Bd.cv)])) := by
  refine afun_of (rs := [.fn 126 1 [.lst (l.map Bd.cv)]]) Tryz.func93 Tryz.ntmps93 rfl rfl rfl rfl ?_
  intro w U hW
  refine aS (aR ?_)
  (refine nx (aA (gN rfl) rfl rfl rfl rfl rfl) rfl ?_)
  show AWp _ _ _ _ _ _ _
  refine aS (aS (aR ?_))
  (refine nx (aM (gN rfl) rfl rfl rfl rfl rfl) rfl ?_)
  (refine nx (a_len (gN rfl) rfl rfl rfl rfl rfl rfl rfl) rfl ?_)
  (refine nx (a_leq (gN rfl) rfl rfl rfl rfl rfl rfl) rfl ?_)
  show AWp _ _ _ _ _ _ _
  refine aC rfl (fun hc => ?_) (fun hc => ?_)
  · refine aS (aR ?_)
    (refine nx (aM (gN rfl) rfl rfl rfl rfl rfl) rfl ?_)
    (refine nx (a_mkfunc (gN rfl) rfl rfl rfl rfl rfl rfl) rfl ?_)
    (refine nx (aA (gN rfl) rfl rfl rfl rfl rfl) rfl ?_)
    show AWp _ _ _ _ _ _ _
    exact aT (And.intro (.inr rfl) rfl)
  · simp only [List.length_map, decide_eq_false_iff_not] at hc
    omega

-- 
theorem replace_abs (W : World) (fc : CV) (img : Int → Tm) (hI : ∀ v, 0 ≤ v → v ≤ 9223372036854775807 → AFunV Tryz.prog W fc [.i v] (.val (img v).cw) ∧ (img v).rng ∧ (img v).size ≤ 90000000000) : ∀ t : Tm, t.rng → t.ok → AFun Tryz.prog W 71 [t.cw, fc] (.val (repT img t).cw) := by
  intro t
  induction t using Tm.ind with
  | h f l ih =>
  intro hr hok
  have hok := (Tm.ok_iff _).1 hok
  have hr := (Tm.rng_iff _).1 hr
  simp only at hok hr
  have hsz := Tm.size_all l
  refine afun_of (rs := [(repT img ⟨f, l⟩).cw]) Tryz.func71 Tryz.ntmps71 rfl rfl rfl rfl ?_
  intro w U hW
  refine aS (aR ?_)
  (refine nx (a_box (gN rfl) rfl rfl rfl rfl rfl) rfl ?_)
  (refine nx (a_alloc (gN rfl) rfl rfl rfl rfl rfl rfl rfl rfl rfl rfl) rfl ?_)
  show AWp _ _ _ _ _ _ _
  refine aS (aS (aR ?_))
  (refine nx (aL (gN rfl) rfl rfl rfl rfl rfl rfl rfl rfl rfl rfl rfl rfl) rfl ?_)
  (refine nx (a_call (gN rfl) rfl rfl rfl rfl rfl (sIsVar_abs w ⟨f, l⟩)) rfl ?_)
  show AWp _ _ _ _ _ _ _
  refine aC rfl (fun hc => ?_) (fun hc => ?_)
  · have hf : f < 0 := by simpa using hc
    rw [repT_var hf]
    obtain ⟨i1, i2, i3⟩ := hI (-1 - f) (by omega) (by omega)
    refine aS (aR ?_)
    (refine nx (aM (gN rfl) rfl rfl rfl rfl rfl) rfl ?_)
    (refine nx (aL (gN rfl) rfl rfl rfl rfl rfl rfl rfl rfl rfl rfl rfl rfl) rfl ?_)
    (refine nx (a_call (gN rfl) rfl rfl rfl rfl rfl (sNumber_abs w ⟨f, l⟩ hr.1.1 hf)) rfl ?_)
    (refine nx (a_callv (gN rfl) rfl rfl rfl rfl rfl rfl (i1.up hW)) rfl ?_)
    (refine nx (a_call (gN rfl) rfl rfl rfl rfl rfl (clone_abs w i2 i3)) rfl ?_)
    (refine nx (aSt (gN rfl) rfl rfl rfl rfl rfl rfl rfl rfl rfl rfl) rfl ?_)
    show AWp _ _ _ _ _ _ _
    exact aT (And.intro (.inr rfl) rfl)
  · have hf : ¬ f < 0 := by simpa using hc
    rw [repT_sym hf]
    refine aK ?_
    show AWp _ _ _ _ _ _ _
    refine aS (aR ?_)
    (refine nx (aA (gN rfl) rfl rfl rfl rfl rfl) rfl ?_)
    show AWp _ _ _ _ _ _ _
    refine aS (aS (aR ?_))
    (refine nx (aF (gN rfl) rfl rfl rfl rfl rfl rfl rfl rfl rfl) rfl ?_)
    (refine nx (aLb (gN rfl) rfl rfl rfl rfl rfl rfl rfl rfl rfl rfl rfl rfl) rfl ?_)
    (refine nx (a_len (gN rfl) rfl rfl rfl rfl rfl rfl rfl) rfl ?_)
    (refine nx (aM (gN rfl) rfl rfl rfl rfl rfl) rfl ?_)
    show AWp _ _ _ _ _ _ _
    refine aB (awp_count l.length (fun k => [(1, .val fc), (2, .bp 2 0 []), (100002, .bx (Tm.cw ⟨f, l⟩)), (4, .bp 4 0 []), (100004, ⟨5, .row [.i 0, .lst []], 1, 0, [1]⟩), (5, .own (.lst ((l.take k).map fun t => (repT img t).cv)) 200027), (200027, .tok 41 2), (16, .val (.lst (l.map Tm.cv))), (17, .val (.i (l.map Tm.cv).length)), (18, .val (.i k))])
      ((wk_nil 5 200027 41 2 rfl rfl rfl rfl rfl rfl rfl).trans (wk_sub ⟨rfl, rfl, rfl, rfl, rfl, rfl, rfl, rfl, rfl, rfl, trivial⟩)) ?_)
    intro k hk
    refine aS (aR ?_)
    (refine nx (a_lss (gN rfl) rfl rfl rfl rfl rfl rfl) rfl ?_)
    show AWp _ _ _ _ _ _ _
    refine aS (aC rfl (fun hc => ?_) (fun hc => ?_))
    · have hkl : k < l.length := by
        simp only [List.length_map, decide_eq_true_eq] at hc
        omega
      obtain ⟨t, ht⟩ : ∃ t, l[k]? = some t := ⟨l[k], List.getElem?_eq_getElem hkl⟩
      have ht' := Tm.map_at ht
      have htm := List.mem_of_getElem? ht
      have hsz2 : ∀ c ∈ (l.take k).map fun t => (repT img t).cv, c.size = 2 := by
        intro c hc
        obtain ⟨t, _, rfl⟩ := List.mem_map.1 hc
        exact Tm.size_cv _
      refine aK ?_
      show AWp _ _ _ _ _ _ _
      refine aS (aB (aS (aR ?_)))
      (refine nx (a_index (gN rfl) rfl rfl rfl rfl rfl rfl rfl rfl rfl (by assumption) rfl (by first | assumption | exact sZ rfl | exact Tm.size_all _ | exact Bd.size_all _ | exact ints_size _ | exact bys_size _ | exact Lt.size_all _)) rfl ?_)
      (refine nx (a_load_ad (gN rfl) rfl rfl rfl rfl rfl rfl rfl rfl rfl) rfl ?_)
      (refine nx (a_alloc (gN rfl) rfl rfl rfl rfl rfl rfl rfl rfl rfl rfl) rfl ?_)
      (refine nx (aSt (gN rfl) rfl rfl rfl rfl rfl rfl rfl rfl rfl rfl) rfl ?_)
      show AWp _ _ _ _ _ _ _
      refine aR ?_
      (refine nx (aM (gN rfl) rfl rfl rfl rfl rfl) rfl ?_)
      (refine nx (aL (gN rfl) rfl rfl rfl rfl rfl rfl rfl rfl rfl rfl rfl rfl) rfl ?_)
      (refine nx (aM (gN rfl) rfl rfl rfl rfl rfl) rfl ?_)
      (refine nx (a_call (gN rfl) rfl rfl rfl rfl rfl ((ih t htm (hr.2 t htm) (hok.2 t htm)).up hW)) rfl ?_)
      (refine nx (a_bslice (gN rfl) rfl rfl rfl rfl rfl rfl rfl rfl rfl rfl rfl rfl rfl) rfl ?_)
      (refine nx (a_app (gN rfl) rfl rfl rfl rfl rfl rfl rfl rfl rfl rfl rfl rfl rfl rfl rfl (by first | assumption | exact sZ rfl | exact Tm.size_all _ | exact Bd.size_all _ | exact ints_size _ | exact bys_size _ | exact Lt.size_all _) (by first | assumption | exact sZ rfl | exact Tm.size_all _ | exact Bd.size_all _ | exact ints_size _ | exact bys_size _ | exact Lt.size_all _) (by first | omega | (simp only [List.length_map, List.length_append, List.length_cons, List.length_nil] <;> omega) | (simp <;> omega))) rfl ?_)
      (refine nx (aA (gN rfl) rfl rfl rfl rfl rfl) rfl ?_)
      show AWp _ _ _ _ _ _ _
      refine aR ?_
      (refine nx (a_add (gN rfl) rfl rfl rfl rfl rfl rfl (by first | omega | (simp only [List.length_map, List.length_append, List.length_cons, List.length_nil] <;> omega) | (simp <;> omega))) rfl ?_)
      (refine nx (aM (gN rfl) rfl rfl rfl rfl rfl) rfl ?_)
      refine ⟨hkl, Wk.trans (wk_sub (s' := [(1, .val fc), (2, .bp 2 0 []), (100002, .bx (Tm.cw ⟨f, l⟩)), (4, .bp 4 0 []), (100004, ⟨5, .row [.i 0, .lst []], 1, 0, [1]⟩), (5, .own (.lst ((l.take (k + 1)).map fun t => (repT img t).cv)) 300027), (300027, .tok 41 2), (16, .val (.lst (l.map Tm.cv))), (17, .val (.i (l.map Tm.cv).length)), (18, .val (.i ((k + 1 : Nat) : Int)))]) ⟨rfl, rfl, rfl, rfl, rfl, ?_, rfl, rfl, rfl, rfl, trivial⟩) (wk_ren 300027 200027 rfl rfl rfl rfl)⟩
      rw [List.take_add_one, ht, List.map_append]
      simp only [Option.toList_some, List.map_cons, List.map_nil, Tm.cv_eq]
      rfl
    · have hkl : k = l.length := by
        simp only [List.length_map, decide_eq_false_iff_not] at hc
        omega
      subst hkl
      rw [List.take_length]
      refine aE ?_
      show AWp _ _ _ _ _ _ _
      refine aS (aR ?_)
      (refine nx (aF (gN rfl) rfl rfl rfl rfl rfl rfl rfl rfl rfl) rfl ?_)
      (refine nx (aLb (gN rfl) rfl rfl rfl rfl rfl rfl rfl rfl rfl rfl rfl rfl) rfl ?_)
      (refine nx (aM (gN rfl) rfl rfl rfl rfl rfl) rfl ?_)
      (refine nx (a_build (gN rfl) rfl rfl rfl rfl rfl rfl rfl rfl rfl rfl rfl) rfl ?_)
      (refine nx (aSt (gN rfl) rfl rfl rfl rfl rfl rfl rfl rfl rfl rfl) rfl ?_)
      show AWp _ _ _ _ _ _ _
      refine aT (And.intro (.inr rfl) ?_)
      unfold Tm.cw
      rw [List.map_map]
      rfl
theorem varT_rng {v : Int} (h1 : 0 ≤ v) (h2 : v ≤ 9223372036854775807) : (varT v).rng := (Tm.rng_iff _).2 ⟨by show _ ≤ -1 - v ∧ -1 - v ≤ _; omega, fun s hs => by cases hs⟩
theorem varT_size (v : Int) : (varT v).size = 1 := by
  rw [Tm.size_eq]
  have : (varT v).ps = [] := by unfold Tm.ps varT; simp
  rw [this]; rfl
theorem findB_mem : ∀ {l : List Bd} {v : Int} {t : Tm}, findB l v = some t → ∃ b ∈ l, b.t = t ∧ b.v = v
  | [], v, t, h => by cases h
  | b :: l, v, t, h => by
    rw [findB] at h
    split at h
    · rename_i e; cases h; exact ⟨b, by simp, rfl, e⟩
    · obtain ⟨c, h1, h2⟩ := findB_mem h
      exact ⟨c, List.mem_cons_of_mem _ h1, h2⟩
def bdsOk (l : List Bd) : Prop := ∀ b ∈ l, b.t.rng ∧ b.t.size ≤ 90000000000
theorem imgB_ok {l : List Bd} (h : bdsOk l) {v : Int} (h1 : 0 ≤ v) (h2 : v ≤ 9223372036854775807) : (imgB l v).rng ∧ (imgB l v).size ≤ 90000000000 := by
  unfold imgB
  cases hf : findB l v with
  | none => exact ⟨varT_rng h1 h2, by show (varT v).size ≤ _; rw [varT_size]; omega⟩
  | some t =>
    obtain ⟨b, hb, e, _⟩ := findB_mem hf
    show t.rng ∧ t.size ≤ _
    rw [← e]
    exact h b hb
-- 
theorem apply_abs (W : World) (l : List Bd) (t : Tm) (hl : l.length ≤ 64) (hb : bdsOk l) (hr : t.rng) (hok : t.ok) : AFun Tryz.prog W 66 [.lst (l.map Bd.cv), t.cw] (.val (repT (imgB l) t).cw) := by
  refine afun_of (rs := [(repT (imgB l) t).cw]) Tryz.func66 Tryz.ntmps66 rfl rfl rfl rfl ?_
  intro w U hW
  refine aS (aR ?_)
  (refine nx (a_box (gN rfl) rfl rfl rfl rfl rfl) rfl ?_)
  (refine nx (a_alloc (gN rfl) rfl rfl rfl rfl rfl rfl rfl rfl rfl rfl) rfl ?_)
  show AWp _ _ _ _ _ _ _
  refine aS (aD (by kernel_rfl) (by kernel_rfl) ?_)
  (refine nx (aL (gN rfl) rfl rfl rfl rfl rfl rfl rfl rfl rfl rfl rfl rfl) rfl ?_)
  (refine nx (aM (gN rfl) rfl rfl rfl rfl rfl) rfl ?_)
  (refine nx (a_call (gN rfl) rfl rfl rfl rfl rfl (images_abs w l hl)) rfl ?_)
  (refine nx (a_call (gN rfl) rfl rfl rfl rfl rfl (replace_abs w _ (imgB l) (fun v h1 h2 => ⟨⟨_, _, _, rfl, image_abs w l v (by omega) h1 h2⟩, imgB_ok hb h1 h2⟩) t hr hok)) rfl ?_)
  (refine nx (aSt (gN rfl) rfl rfl rfl rfl rfl rfl rfl rfl rfl rfl) rfl ?_)
  refine ⟨by kernel_rfl, ?_⟩
  show AWp _ _ _ _ _ _ _
  exact aT (And.intro (.inr rfl) rfl)

def upV (by_ v : Int) : Int := v + min by_ (9223372036854775807 - v)
-- 
theorem renf_abs (W : World) (v by_ : Int) (h1 : 0 ≤ v) (h2 : v ≤ 9223372036854775807) (h3 : 0 ≤ by_) : AFun Tryz.prog W 72 [.i v, .ptr (.i by_)] (.val (varT (upV by_ v)).cw) := by
  refine afun_of (rs := [(varT (upV by_ v)).cw]) Tryz.func72 Tryz.ntmps72 rfl rfl rfl rfl ?_
  intro w U hW
  refine aS (aR ?_)
  (refine nx (a_alloc (gN rfl) rfl rfl rfl rfl rfl rfl rfl rfl rfl rfl) rfl ?_)
  show AWp _ _ _ _ _ _ _
  refine aS (aR ?_)
  (refine nx (aM (gN rfl) rfl rfl rfl rfl rfl) rfl ?_)
  (refine nx (a_load_ptr (gN rfl) rfl rfl rfl rfl rfl rfl rfl rfl rfl) rfl ?_)
  (refine nx (aM (gN rfl) rfl rfl rfl rfl rfl) rfl ?_)
  (refine nx (a_sub (gN rfl) rfl rfl rfl rfl rfl rfl (by first | omega | (simp only [List.length_map, List.length_append, List.length_cons, List.length_nil] <;> omega) | (simp <;> omega))) rfl ?_)
  (refine nx (a_min (gN rfl) rfl rfl rfl rfl rfl rfl) rfl ?_)
  (refine nx (a_add (gN rfl) rfl rfl rfl rfl rfl rfl (by first | omega | (simp only [List.length_map, List.length_append, List.length_cons, List.length_nil] <;> omega) | (simp <;> omega))) rfl ?_)
  (refine nx (a_call (gN rfl) rfl rfl rfl rfl rfl (sVariable_abs w (v + min by_ (9223372036854775807 - v)) (by omega) (by omega))) rfl ?_)
  (refine nx (aSt (gN rfl) rfl rfl rfl rfl rfl rfl rfl rfl rfl rfl) rfl ?_)
  show AWp _ _ _ _ _ _ _
  exact aT (And.intro (.inr rfl) rfl)
theorem upV_ok {by_ v : Int} (h1 : 0 ≤ v) (h2 : v ≤ 9223372036854775807) (h3 : 0 ≤ by_) : 0 ≤ upV by_ v ∧ upV by_ v ≤ 9223372036854775807 := by unfold upV; omega
-- 
theorem rename_abs (W : World) (t : Tm) (by_ : Int) (hr : t.rng) (hok : t.ok) : AFun Tryz.prog W 46 [t.cw, .i by_] (.val (repT (fun v => varT (upV (max by_ 0) v)) t).cw) := by
  refine afun_of (rs := [(repT (fun v => varT (upV (max by_ 0) v)) t).cw]) Tryz.func46 Tryz.ntmps46 rfl rfl rfl rfl ?_
  intro w U hW
  refine aS (aR ?_)
  (refine nx (a_box (gN rfl) rfl rfl rfl rfl rfl) rfl ?_)
  (refine nx (a_box (gN rfl) rfl rfl rfl rfl rfl) rfl ?_)
  (refine nx (a_alloc (gN rfl) rfl rfl rfl rfl rfl rfl rfl rfl rfl rfl) rfl ?_)
  show AWp _ _ _ _ _ _ _
  refine aS (aR ?_)
  (refine nx (aL (gN rfl) rfl rfl rfl rfl rfl rfl rfl rfl rfl rfl rfl rfl) rfl ?_)
  (refine nx (a_max (gN rfl) rfl rfl rfl rfl rfl rfl) rfl ?_)
  (refine nx (aSt (gN rfl) rfl rfl rfl rfl rfl rfl rfl rfl rfl rfl) rfl ?_)
  show AWp _ _ _ _ _ _ _
  refine AWp.wk (wk_freeze 3 rfl rfl rfl (s' := [(2, .bp 2 0 []), (100002, .bx t.cw), (4, .bp 4 0 []), (100004, ⟨5, .row [.i 0, .lst []], 1, 0, [1]⟩)]) ⟨rfl, rfl, rfl, rfl, trivial⟩ rfl rfl rfl) ?_
  refine aS (aR ?_)
  (refine nx (aL (gN rfl) rfl rfl rfl rfl rfl rfl rfl rfl rfl rfl rfl rfl) rfl ?_)
  (refine nx (a_mkfunc (gN rfl) rfl rfl rfl rfl rfl rfl) rfl ?_)
  (refine nx (a_call (gN rfl) rfl rfl rfl rfl rfl (replace_abs w _ (fun v => varT (upV (max by_ 0) v)) (fun v h1 h2 => ⟨⟨_, _, _, rfl, renf_abs w v (max by_ 0) h1 h2 (by omega)⟩, varT_rng (upV_ok h1 h2 (by omega)).1 (upV_ok h1 h2 (by omega)).2, by rw [varT_size]; omega⟩) t hr hok)) rfl ?_)
  (refine nx (aSt (gN rfl) rfl rfl rfl rfl rfl rfl rfl rfl rfl rfl) rfl ?_)
  show AWp _ _ _ _ _ _ _
  exact aT (And.intro (.inr rfl) rfl)
end Go.Proofs.YteegmcfobgpemaaGreat
namespace Go.Proofs.YteegmcfobgpemaaGreat
set_option linter.unusedVariables false
set_option linter.unusedSimpArgs false
def vsL (l : List Tm) : List Int := (l.filter fun s => decide (s.f < 0)).map fun s => -1 - s.f
def Tm.vs (t : Tm) : List Int := vsL t.flat
theorem vsL_append (l m : List Tm) : vsL (l ++ m) = vsL l ++ vsL m := by simp [vsL]
theorem vsL_flatMap (l : List Tm) : vsL (l.flatMap Tm.flat) = l.flatMap Tm.vs := by
  induction l with
  | nil => rfl
  | cons t l ih => rw [List.flatMap_cons, vsL_append, ih, List.flatMap_cons]; rfl
theorem Tm.vs_var {t : Tm} (h : t.f < 0) : t.vs = [-1 - t.f] := by
  unfold Tm.vs
  rw [Tm.flat_eq, Tm.ps_of_var h]
  simp [vsL, h]
theorem Tm.vs_sym {t : Tm} (h : ¬ t.f < 0) : t.vs = t.l.flatMap Tm.vs := by
  unfold Tm.vs
  rw [Tm.flat_eq, Tm.ps_of_sym (by omega), show t :: t.l.flatMap Tm.flat = [t] ++ t.l.flatMap Tm.flat from rfl, vsL_append, vsL_flatMap]
  simp [vsL, h]
  rfl
theorem Tm.strip_vs (t : Tm) : t.strip.vs = t.vs := by
  induction t using Tm.indp with
  | h t ih =>
    by_cases h : t.f < 0
    · rw [Tm.vs_var h, Tm.vs_var (by rw [Tm.strip_f]; exact h), Tm.strip_f]
    · rw [Tm.vs_sym h, Tm.vs_sym (by rw [Tm.strip_f]; exact h), Tm.strip_l]
      rw [Tm.ps_of_sym (by omega)] at ih ⊢
      rw [List.flatMap_def, List.flatMap_def, List.map_map]
      congr 1
      exact List.map_congr_left fun s hs => ih s hs
theorem repT_vs (img : Int → Tm) (t : Tm) : (repT img t).vs = t.vs.flatMap fun v => (img v).vs := by
  induction t using Tm.indp with
  | h t ih =>
    by_cases h : t.f < 0
    · rw [repT_var h, Tm.vs_var h, Tm.strip_vs]; simp
    · rw [repT_sym h, Tm.vs_sym h, Tm.vs_sym (t := ⟨t.f, _⟩) h]
      rw [Tm.ps_of_sym (by omega)] at ih
      simp only
      rw [List.flatMap_assoc, List.flatMap_def, List.map_map, List.flatMap_def]
      congr 1
      exact List.map_congr_left fun s hs => ih s hs
theorem Tm.size_sym {t : Tm} (h : ¬ t.f < 0) : t.size = 1 + (t.l.map Tm.size).sum := by
  rw [Tm.size_eq, Tm.ps_of_sym (by omega), List.length_flatMap]
  rfl
theorem Tm.size_var {t : Tm} (h : t.f < 0) : t.size = 1 := by
  rw [Tm.size_eq, Tm.ps_of_var h]; rfl
theorem sum_congr_int {l : List Tm} {f g : Tm → Int} (h : ∀ s ∈ l, f s = g s) : (l.map f).sum = (l.map g).sum := by
  rw [List.map_congr_left h]
theorem sum_flatMap_int (l : List Tm) (g : Int → Int) : ((l.flatMap Tm.vs).map g).sum = (l.map fun s => (s.vs.map g).sum).sum := by
  induction l with
  | nil => rfl
  | cons t l ih => rw [List.flatMap_cons, List.map_append, List.sum_append_int, ih, List.map_cons, List.sum_cons]
theorem sum_cast (l : List Nat) : ((l.sum : Nat) : Int) = (l.map fun n : Nat => (n : Int)).sum := by
  induction l with
  | nil => rfl
  | cons n l ih => rw [List.sum_cons, List.map_cons, List.sum_cons, ← ih]; omega
theorem sum_add (l : List Tm) (f g : Tm → Int) : (l.map fun s => f s + g s).sum = (l.map f).sum + (l.map g).sum := by
  induction l with
  | nil => rfl
  | cons t l ih => simp only [List.map_cons, List.sum_cons, ih]; omega
theorem repT_size (img : Int → Tm) (t : Tm) : ((repT img t).size : Int) = t.size + (t.vs.map fun v => ((img v).size : Int) - 1).sum := by
  induction t using Tm.indp with
  | h t ih =>
    by_cases h : t.f < 0
    · rw [repT_var h, Tm.vs_var h, Tm.strip_size, Tm.size_var h]; simp; omega
    · rw [repT_sym h, Tm.vs_sym h, Tm.size_sym h, Tm.size_sym (t := ⟨t.f, _⟩) h, sum_flatMap_int]
      rw [Tm.ps_of_sym (by omega)] at ih
      simp only
      rw [Int.natCast_add, Int.natCast_add, sum_cast, sum_cast, List.map_map, List.map_map, List.map_map, Int.add_assoc, ← sum_add]
      congr 1
      exact sum_congr_int fun s hs => ih s hs

theorem topF_vs (l : List Tm) : topF l = (vsL l).foldl max (-1) := by
  have : ∀ (l : List Tm) (m : Int), l.foldl (fun m s => if s.f < 0 then max m (-1 - s.f) else m) m = (vsL l).foldl max m := by
    intro l
    induction l with
    | nil => intro acc; rfl
    | cons t l ih =>
      intro m
      rw [List.foldl_cons, ih]
      by_cases h : t.f < 0
      · have : vsL (t :: l) = (-1 - t.f) :: vsL l := by simp [vsL, h]
        rw [this, List.foldl_cons, if_pos h]
      · have : vsL (t :: l) = vsL l := by simp [vsL, h]
        rw [this, if_neg h]
  exact this l (-1)
theorem vs_nonneg (t : Tm) : ∀ v ∈ t.vs, 0 ≤ v := by
  intro v hv
  obtain ⟨s, hs, rfl⟩ := List.mem_map.1 hv
  have := (List.mem_filter.1 hs).2
  simp at this
  omega
theorem vs_le {t : Tm} {B : Int} (h : ∀ s ∈ t.flat, -B ≤ s.f) : ∀ v ∈ t.vs, v < B := by
  intro v hv
  obtain ⟨s, hs, rfl⟩ := List.mem_map.1 hv
  have := h s (List.mem_filter.1 hs).1
  omega
end Go.Proofs.YteegmcfobgpemaaGreat
namespace Go.Proofs.YteegmcfobgpemaaGreat
open Go.RowKit
set_option linter.unusedVariables false
set_option linter.unusedSimpArgs false
set_option maxRecDepth 100000
theorem repT_rng {img : Int → Tm} {t : Tm} (h : t.rng) (hi : ∀ v, 0 ≤ v → v ≤ 9223372036854775807 → (img v).rng) : (repT img t).rng := by
  induction t using Tm.ind with
  | h f l ih =>
    obtain ⟨h1, h2⟩ := (Tm.rng_iff _).1 h
    simp only at h1 h2
    by_cases hf : f < 0
    · rw [repT_var hf]; exact Tm.strip_rng (hi _ (by simp only; omega) (by simp only; omega))
    · rw [repT_sym hf]
      refine (Tm.rng_iff _).2 ⟨h1, fun s hs => ?_⟩
      obtain ⟨u, hu, rfl⟩ := List.mem_map.1 hs
      exact ih u hu (h2 u hu)
theorem repT_ok {img : Int → Tm} {t : Tm} (h : t.ok) (hi : ∀ v, (img v).ok) : (repT img t).ok := by
  induction t using Tm.ind with
  | h f l ih =>
    obtain ⟨h1, h2⟩ := (Tm.ok_iff _).1 h
    simp only at h1 h2
    by_cases hf : f < 0
    · rw [repT_var hf]; exact Tm.strip_ok (hi _)
    · rw [repT_sym hf]
      refine (Tm.ok_iff _).2 ⟨by simpa using h1, fun s hs => ?_⟩
      obtain ⟨u, hu, rfl⟩ := List.mem_map.1 hs
      exact ih u hu (h2 u hu)
theorem varT_ok (v : Int) : (varT v).ok := (Tm.ok_iff _).2 ⟨by show 0 ≤ _; omega, fun s hs => by cases hs⟩
theorem imgB_ok2 {l : List Bd} (h : ∀ b ∈ l, b.t.ok) (v : Int) : (imgB l v).ok := by
  unfold imgB
  cases hf : findB l v with
  | none => exact varT_ok v
  | some t =>
    obtain ⟨b, hb, e, _⟩ := findB_mem hf
    show t.ok
    rw [← e]
    exact h b hb
end Go.Proofs.YteegmcfobgpemaaGreat
namespace Go.Proofs.YteegmcfobgpemaaGreat
set_option linter.unusedVariables false
set_option linter.unusedSimpArgs false
theorem cmpZ_cases (x y : Int) : (cmpZ x y = -1 ∧ x < y) ∨ (cmpZ x y = 0 ∧ x = y) ∨ (cmpZ x y = 1 ∧ y < x) := by
  unfold cmpZ
  split
  · exact .inl ⟨rfl, by assumption⟩
  · split
    · exact .inr (.inr ⟨rfl, by assumption⟩)
    · exact .inr (.inl ⟨rfl, by omega⟩)

theorem cmpH_cases (x y : Int) : (cmpH x y = -1 ∧ ((x < 0 ∧ y < 0 ∧ y < x) ∨ (¬ (x < 0 ∧ y < 0) ∧ x < y))) ∨ (cmpH x y = 0 ∧ x = y) ∨ (cmpH x y = 1 ∧ ((x < 0 ∧ y < 0 ∧ x < y) ∨ (¬ (x < 0 ∧ y < 0) ∧ y < x))) := by
  unfold cmpH
  split
  · have := cmpZ_cases (-1 - x) (-1 - y)
    omega
  · have := cmpZ_cases x y
    omega


theorem cmpT_zero (a : Tm) : ∀ b, cmpT a b = 0 ↔ a.strip = b.strip := by
  induction a using Tm.indp with
  | h a ih =>
    intro b
    rw [cmpT_eq, Tm.strip_eq a, Tm.strip_eq b]
    have hL : ∀ (l m : List Tm), (∀ s ∈ l, ∀ b, cmpT s b = 0 ↔ s.strip = b.strip) → (cmpL l m = 0 ↔ l.map Tm.strip = m.map Tm.strip) := by
      intro l
      induction l with
      | nil => intro m _; cases m <;> simp [cmpL_nil, cmpL_lt, cmpL_gt]
      | cons y ys ih2 =>
        intro m hl
        cases m with
        | nil => simp [cmpL_nil, cmpL_lt, cmpL_gt]
        | cons z zs =>
          rw [cmpL_cons, List.map_cons, List.map_cons, List.cons.injEq, ← hl y (by simp) z, ← ih2 zs (fun s hs => hl s (List.mem_cons_of_mem _ hs))]
          by_cases h : cmpT y z = 0 <;> simp [h]
    rw [Tm.mk.injEq]
    by_cases h1 : a.f = b.f
    · rw [if_neg (by simp [h1])]
      by_cases h2 : a.ps.length = b.ps.length
      · rw [if_neg (by simp [h2]), hL _ _ ih]
        simp [h1]
      · rw [if_pos h2]
        constructor
        · intro h3
          have := cmpZ_cases a.ps.length b.ps.length
          omega
        · rintro ⟨_, h3⟩
          exact absurd (by simpa using congrArg List.length h3) h2
    · rw [if_pos h1]
      constructor
      · intro h3
        have := cmpH_cases a.f b.f
        omega
      · rintro ⟨h3, _⟩
        exact absurd h3 h1


theorem sameT_iff (a b : Tm) : sameT a b = true ↔ a.strip = b.strip := by
  unfold sameT
  rw [beq_iff_eq]
  exact cmpT_zero a b
end Go.Proofs.YteegmcfobgpemaaGreat
namespace Go.Proofs.YteegmcfobgpemaaGreat
open Go.RowKit
set_option linter.unusedVariables false
set_option linter.unusedSimpArgs false
set_option maxRecDepth 100000




set_option maxHeartbeats 1000000 in
-- 
theorem of_abs (W : World) : ∀ (t : Tm), t.ok → AFun Tryz.prog W 26 [t.cw] (.val t.cw) := by
  intro t
  induction t using Tm.ind with
  | h f l ih =>
  intro hok
  obtain ⟨hl, hok⟩ := (Tm.ok_iff _).1 hok
  simp only at hl hok
  refine afun_of (rs := [Tm.cw ⟨f, l⟩]) Tryz.func26 Tryz.ntmps26 rfl rfl rfl rfl ?_
  intro w U hW
  refine aS (aR ?_)
  (refine nx (a_box (gN rfl) rfl rfl rfl rfl rfl) rfl ?_)
  (refine nx (a_alloc (gN rfl) rfl rfl rfl rfl rfl rfl rfl rfl rfl rfl) rfl ?_)
  show AWp _ _ _ _ _ _ _
  refine aS (aR ?_)
  (refine nx (aF (gN rfl) rfl rfl rfl rfl rfl rfl rfl rfl rfl) rfl ?_)
  (refine nx (aLb (gN rfl) rfl rfl rfl rfl rfl rfl rfl rfl rfl rfl rfl rfl) rfl ?_)
  (refine nx (a_build (gN rfl) rfl rfl rfl rfl rfl rfl rfl rfl rfl rfl rfl) rfl ?_)
  (refine nx (a_alloc (gN rfl) rfl rfl rfl rfl rfl rfl rfl rfl rfl rfl) rfl ?_)
  (refine nx (aSt (gN rfl) rfl rfl rfl rfl rfl rfl rfl rfl rfl rfl) rfl ?_)
  show AWp _ _ _ _ _ _ _
  refine aS (aS (aR ?_))
  (refine nx (aA (gN rfl) rfl rfl rfl rfl rfl) rfl ?_)
  show AWp _ _ _ _ _ _ _
  refine aB (awp_count l.length (fun k => [(1, .bp 1 0 []), (100001, .bx (Tm.cw ⟨f, l⟩)), (2, .bp 2 0 []), (100002, ⟨5, .row [.i 0, .lst []], 1, 0, [1]⟩), (3, .bp 3 0 []), (100003, ⟨5, .row [.i f, .lst ((l.take k).map Tm.cv)], 200024, 0, [1]⟩), (200024, .tok 41 2), (4, .val (.i k))])
    ((wk_nil 100003 200024 41 2 rfl rfl rfl rfl rfl rfl rfl).trans (wk_sub ⟨rfl, rfl, rfl, rfl, rfl, rfl, rfl, rfl, trivial⟩)) ?_)
  intro k hk
  refine aS (aS (aR ?_))
  (refine nx (aM (gN rfl) rfl rfl rfl rfl rfl) rfl ?_)
  (refine nx (aF (gN rfl) rfl rfl rfl rfl rfl rfl rfl rfl rfl) rfl ?_)
  (refine nx (aLb (gN rfl) rfl rfl rfl rfl rfl rfl rfl rfl rfl rfl rfl rfl) rfl ?_)
  (refine nx (a_len (gN rfl) rfl rfl rfl rfl rfl rfl rfl) rfl ?_)
  (refine nx (a_lss (gN rfl) rfl rfl rfl rfl rfl rfl) rfl ?_)
  show AWp _ _ _ _ _ _ _
  refine aC rfl (fun hc => ?_) (fun hc => ?_)
  · simp only [List.length_map, decide_eq_true_eq] at hc
    have hkl : k < l.length := by omega
    obtain ⟨t, ht⟩ : ∃ t, l[k]? = some t := ⟨l[k], List.getElem?_eq_getElem hkl⟩
    refine aK ?_
    show AWp _ _ _ _ _ _ _
    refine aS (aB (aD (by kernel_rfl) (by kernel_rfl) ?_))
    (refine nx (aF (gN rfl) rfl rfl rfl rfl rfl rfl rfl rfl rfl) rfl ?_)
    (refine nx (a_load_tok (gN rfl) rfl rfl rfl rfl rfl rfl rfl rfl rfl rfl rfl rfl rfl) rfl ?_)
    (refine nx (aF (gN rfl) rfl rfl rfl rfl rfl rfl rfl rfl rfl) rfl ?_)
    (refine nx (aLb (gN rfl) rfl rfl rfl rfl rfl rfl rfl rfl rfl rfl rfl rfl) rfl ?_)
    (refine nx (aM (gN rfl) rfl rfl rfl rfl rfl) rfl ?_)
    (refine nx (a_index (j := _) (gN rfl) rfl rfl rfl rfl rfl rfl rfl rfl rfl (Tm.map_at ht) rfl (Tm.size_all l)) rfl ?_)
    (refine nx (a_load_ad (gN rfl) rfl rfl rfl rfl rfl rfl rfl rfl rfl) rfl ?_)
    (refine nx (a_call (gN rfl) rfl rfl rfl rfl rfl ((ih t (List.mem_of_getElem? ht) (hok t (List.mem_of_getElem? ht))).up hW)) rfl ?_)
    (refine nx (a_bslice (gN rfl) rfl rfl rfl rfl rfl rfl rfl rfl rfl rfl rfl rfl rfl) rfl ?_)
    (refine nx (a_app (gN rfl) rfl rfl rfl rfl rfl rfl rfl rfl rfl rfl rfl rfl rfl rfl rfl (by first | assumption | exact sZ rfl | exact Tm.size_all _ | exact Bd.size_all _ | exact ints_size _ | exact bys_size _ | exact Lt.size_all _) (by first | assumption | exact sZ rfl | exact Tm.size_all _ | exact Bd.size_all _ | exact ints_size _ | exact bys_size _ | exact Lt.size_all _) (by first | omega | (simp only [List.length_map, List.length_append, List.length_cons, List.length_nil] <;> omega) | (simp <;> omega))) rfl ?_)
    (refine nx (aF (gN rfl) rfl rfl rfl rfl rfl rfl rfl rfl rfl) rfl ?_)
    (refine nx (a_store (gN rfl) rfl rfl rfl rfl rfl rfl rfl rfl rfl rfl) rfl ?_)
    refine ⟨by kernel_rfl, ?_⟩
    show AWp _ _ _ _ _ _ _
    refine aR ?_
    (refine nx (aM (gN rfl) rfl rfl rfl rfl rfl) rfl ?_)
    (refine nx (a_add (gN rfl) rfl rfl rfl rfl rfl rfl (by first | omega | (simp only [List.length_map, List.length_append, List.length_cons, List.length_nil] <;> omega) | (simp <;> omega))) rfl ?_)
    (refine nx (aA (gN rfl) rfl rfl rfl rfl rfl) rfl ?_)
    refine ⟨hkl, Wk.trans (wk_sub (s' := [(1, .bp 1 0 []), (100001, .bx (Tm.cw ⟨f, l⟩)), (2, .bp 2 0 []), (100002, ⟨5, .row [.i 0, .lst []], 1, 0, [1]⟩), (3, .bp 3 0 []), (100003, ⟨5, .row [.i f, .lst ((l.take (k + 1)).map Tm.cv)], 300024, 0, [1]⟩), (300024, .tok 41 2), (4, .val (.i ((k + 1 : Nat) : Int)))]) ⟨rfl, rfl, rfl, rfl, rfl, ?_, rfl, rfl, trivial⟩) (wk_ren 300024 200024 rfl rfl rfl rfl)⟩
    rw [List.take_add_one, ht, List.map_append]
    simp only [Option.toList_some, List.map_cons, List.map_nil, Tm.cv_eq]
    rfl
  · refine aE ?_
    show AWp _ _ _ _ _ _ _
    have hkl : k = l.length := by
      simp only [List.length_map, decide_eq_false_iff_not] at hc
      omega
    subst hkl
    rw [List.take_length]
    refine aS (aR ?_)
    (refine nx (aL (gN rfl) rfl rfl rfl rfl rfl rfl rfl rfl rfl rfl rfl rfl) rfl ?_)
    (refine nx (aSt (gN rfl) rfl rfl rfl rfl rfl rfl rfl rfl rfl rfl) rfl ?_)
    show AWp _ _ _ _ _ _ _
    exact aT ⟨.inr rfl, rfl⟩
def appR (l : List Bd) : Tm → Tm
  | ⟨f, ts⟩ => if f < 0 then imgB l (-1 - f) else ⟨f, ts.map (appR l)⟩
theorem appR_var {l : List Bd} {t : Tm} (h : t.f < 0) : appR l t = imgB l (-1 - t.f) := by cases t; rw [appR, if_pos h]
theorem appR_sym {l : List Bd} {t : Tm} (h : ¬ t.f < 0) : appR l t = ⟨t.f, t.l.map (appR l)⟩ := by cases t; rw [appR, if_neg h]
theorem appR_ok {l : List Bd} {t : Tm} (h : t.ok) (hi : ∀ b ∈ l, b.t.ok) : (appR l t).ok := by
  induction t using Tm.ind with
  | h f ts ih =>
    obtain ⟨h1, h2⟩ := (Tm.ok_iff _).1 h
    simp only at h1 h2
    by_cases hf : f < 0
    · rw [appR_var hf]; exact imgB_ok2 hi _
    · rw [appR_sym hf]
      refine (Tm.ok_iff _).2 ⟨by simpa using h1, fun s hs => ?_⟩
      obtain ⟨u, hu, rfl⟩ := List.mem_map.1 hs
      exact ih u hu (h2 u hu)
end Go.Proofs.YteegmcfobgpemaaGreat
namespace Go.Proofs.YteegmcfobgpemaaGreat
set_option linter.unusedVariables false
set_option linter.unusedSimpArgs false
theorem rep_congr {f g : Int → Tm} {t : Tm} (h : ∀ v ∈ t.vs, f v = g v) : repT f t = repT g t := by
  induction t using Tm.indp with
  | h t ih =>
    by_cases hf : t.f < 0
    · rw [Tm.vs_var hf] at h
      rw [repT_var hf, repT_var hf, h _ (by simp)]
    · rw [Tm.vs_sym hf] at h
      rw [Tm.ps_of_sym (by omega)] at ih
      rw [repT_sym hf, repT_sym hf]
      congr 1
      exact List.map_congr_left fun s hs => ih s hs fun v hv => h v (List.mem_flatMap.2 ⟨s, hs, hv⟩)
theorem varT_strip (v : Int) : (varT v).strip = varT v := by
  rw [Tm.strip_eq]
  have : (varT v).ps = [] := by unfold Tm.ps varT; simp
  rw [this]; rfl
theorem rep_comp (img : Int → Tm) (g : Int → Int) {t : Tm} (h : ∀ v ∈ t.vs, 0 ≤ g v) : repT img (repT (fun v => varT (g v)) t) = repT (fun v => img (g v)) t := by
  induction t using Tm.indp with
  | h t ih =>
    by_cases hf : t.f < 0
    · rw [Tm.vs_var hf] at h
      have h := h _ (List.mem_singleton.2 rfl)
      rw [repT_var hf, repT_var hf, varT_strip, repT_var (by show -1 - g (-1 - t.f) < 0; omega)]
      show (img (-1 - (-1 - g (-1 - t.f)))).strip = _
      rw [show -1 - (-1 - g (-1 - t.f)) = g (-1 - t.f) by omega]
    · rw [Tm.vs_sym hf] at h
      rw [Tm.ps_of_sym (by omega)] at ih
      rw [repT_sym hf, repT_sym (t := ⟨t.f, _⟩) hf, repT_sym hf]
      simp only [List.map_map]
      congr 1
      exact List.map_congr_left fun s hs => ih s hs fun v hv => h v (List.mem_flatMap.2 ⟨s, hs, hv⟩)
theorem rep_id (t : Tm) : repT varT t = t.strip := by
  induction t using Tm.indp with
  | h t ih =>
    by_cases hf : t.f < 0
    · rw [repT_var hf, varT_strip, Tm.strip_eq, Tm.ps_of_var hf]
      unfold varT
      rw [show -1 - (-1 - t.f) = t.f by omega]; rfl
    · rw [Tm.ps_of_sym (by omega)] at ih
      rw [repT_sym hf, Tm.strip_eq, Tm.ps_of_sym (by omega)]
      congr 1
      exact List.map_congr_left fun s hs => ih s hs
theorem rep_strip (img : Int → Tm) (t : Tm) : repT img t.strip = repT img t := by
  induction t using Tm.indp with
  | h t ih =>
    by_cases hf : t.f < 0
    · rw [repT_var hf, repT_var (by rw [Tm.strip_f]; exact hf), Tm.strip_f]
    · rw [Tm.ps_of_sym (by omega)] at ih
      rw [repT_sym hf, repT_sym (by rw [Tm.strip_f]; exact hf), Tm.strip_f, Tm.strip_l, Tm.ps_of_sym (by omega), List.map_map]
      congr 1
      exact List.map_congr_left fun s hs => ih s hs
theorem rep_bare (img : Int → Tm) (t : Tm) : (repT img t).strip = repT img t := by
  induction t using Tm.indp with
  | h t ih =>
    by_cases hf : t.f < 0
    · rw [repT_var hf, Tm.strip_strip]
    · rw [Tm.ps_of_sym (by omega)] at ih
      rw [repT_sym hf, Tm.strip_eq, Tm.ps_of_sym (t := ⟨t.f, _⟩) (by show 0 ≤ t.f; omega)]
      simp only [List.map_map]
      congr 1
      exact List.map_congr_left fun s hs => ih s hs
end Go.Proofs.YteegmcfobgpemaaGreat
namespace Go.Proofs.YteegmcfobgpemaaGreat
open Go.RowKit
set_option linter.unusedVariables false
set_option linter.unusedSimpArgs false
set_option maxRecDepth 100000
section
variable {α : Type} (lt : α → α → Bool) (a : Nat)
def sink : Nat → List α → List α
  | 0, L => L
  | j + 1, L => match L[j + 1]?, L[j]? with
    | some x, some y => if a < j + 1 ∧ lt x y = true then sink j ((L.set (j + 1) y).set j x) else L
    | _, _ => L
def isortN : Nat → Nat → List α → List α
  | 0, _, L => L
  | n + 1, i, L => isortN n (i + 1) (sink lt a i L)
theorem sink_len : ∀ (j : Nat) (L : List α), (sink lt a j L).length = L.length
  | 0, L => rfl
  | j + 1, L => by
    unfold sink
    split
    · split
      · rw [sink_len j]; simp
      · rfl
    · rfl
theorem sink_stop {j : Nat} {L : List α} (h : ¬ a < j) : sink lt a j L = L := by
  cases j with
  | zero => rfl
  | succ j => unfold sink; split <;> simp [h]
theorem sink_no {j : Nat} {L : List α} {x y : α} (hx : L[j + 1]? = some x) (hy : L[j]? = some y) (h : lt x y = false) : sink lt a (j + 1) L = L := by
  unfold sink; rw [hx, hy]; simp [h]
theorem sink_yes {j : Nat} {L : List α} {x y : α} (hx : L[j + 1]? = some x) (hy : L[j]? = some y) (ha : a < j + 1) (h : lt x y = true) : sink lt a (j + 1) L = sink lt a j ((L.set (j + 1) y).set j x) := by
  conv => lhs; unfold sink
  rw [hx, hy]; simp [h, ha]
theorem isortN_len : ∀ (n i : Nat) (L : List α), (isortN lt a n i L).length = L.length
  | 0, _, L => rfl
  | n + 1, i, L => by rw [isortN, isortN_len n, sink_len]
end

def ltC (cmp : Bd → Bd → Int) (x y : Bd) : Bool := decide (cmp x y < 0)
theorem set_map_cv (l : List Bd) (j : Nat) (b : Bd) : (l.map Bd.cv).set j b.cw = (l.set j b).map Bd.cv := by rw [List.map_set]; rfl

-- 
theorem insSort_abs (cmp : Bd → Bd → Int) (fc : CV) (L0 : List Bd) (a b : Nat) (ha : a ≤ L0.length) (hb : b ≤ L0.length) (hn : L0.length ≤ 1000000000) (hc : ∀ W x y, AFunW Tryz.prog W fc [x.cw, y.cw] (.val (.i (cmp x y)))) :
    AFunO Tryz.prog 183 [(400000, .mrow 112 3 (L0.map Bd.cv))] [.sl 400000 0 L0.length 3, .val (.i a), .val (.i b), .val fc] (.tup []) [(400000, .mrow 112 3 ((isortN (ltC cmp) a (b - (a + 1)) (a + 1) L0).map Bd.cv))] := by
  refine afunO_of Tryz.func183 Tryz.ntmps183 rfl rfl rfl rfl rfl rfl ?_
  intro w U hU
  obtain ⟨T, hT⟩ : ∃ T, T = isortN (ltC cmp) a (b - (a + 1)) (a + 1) L0 := ⟨_, rfl⟩
  rw [← hT]
  refine aS (aR ?_)
  (refine nx (aM (gN rfl) rfl rfl rfl rfl rfl) rfl ?_)
  (refine nx (a_add (gN rfl) rfl rfl rfl rfl rfl rfl (by first | omega | (simp only [List.length_map, List.length_append, List.length_cons, List.length_nil] <;> omega) | (simp <;> omega))) rfl ?_)
  (refine nx (aA (gN rfl) rfl rfl rfl rfl rfl) rfl ?_)
  show AWp _ _ _ _ _ _ _
  let st : Nat → List Bd → AS := fun i L => [(0, .sl 400000 0 L0.length 3), (1, .val (.i a)), (2, .val (.i b)), (3, .val fc), (8, .val (.i i)), (400000, .mrow 112 3 (L.map Bd.cv))]
  refine aB (awp_loop (fun m s => ∃ i L, m = (b + 1) - i ∧ L.length = L0.length ∧ a + 1 ≤ i ∧ isortN (ltC cmp) a (b - i) i L = T ∧ s = st i L) (s' := st (a + 1) L0) (wk_sub ⟨rfl, rfl, rfl, rfl, rfl, rfl, trivial⟩) ⟨a + 1, L0, rfl, rfl, Nat.le_refl _, hT.symm, rfl⟩ ?_)
  rintro m s ⟨i, L, rfl, hL, hi, hI, rfl⟩
  refine aS (aS (aR ?_))
  (refine nx (aM (gN rfl) rfl rfl rfl rfl rfl) rfl ?_)
  (refine nx (aM (gN rfl) rfl rfl rfl rfl rfl) rfl ?_)
  (refine nx (a_lss (gN rfl) rfl rfl rfl rfl rfl rfl) rfl ?_)
  show AWp _ _ _ _ _ _ _
  refine aC rfl (fun hlt => ?_) (fun hlt => ?_)
  · have hib : i < b := by simpa using hlt
    refine aK ?_
    show AWp _ _ _ _ _ _ _
    refine aS (aB (aS (aR ?_)))
    (refine nx (aM (gN rfl) rfl rfl rfl rfl rfl) rfl ?_)
    (refine nx (aA (gN rfl) rfl rfl rfl rfl rfl) rfl ?_)
    show AWp _ _ _ _ _ _ _
    let st2 : Nat → List Bd → AS := fun j L => [(0, .sl 400000 0 L0.length 3), (1, .val (.i a)), (2, .val (.i b)), (3, .val fc), (8, .val (.i i)), (9, .val (.i j)), (400000, .mrow 112 3 (L.map Bd.cv))]
    refine aB (awp_loop (fun m s => ∃ j L', m = j ∧ L'.length = L0.length ∧ j ≤ i ∧ sink (ltC cmp) a j L' = sink (ltC cmp) a i L ∧ s = st2 j L') (s' := st2 i L) (wk_sub ⟨rfl, rfl, rfl, rfl, rfl, rfl, rfl, trivial⟩) ⟨i, L, rfl, hL, Nat.le_refl _, rfl, rfl⟩ ?_)
    rintro m s ⟨j, L', hmj, hL', hji, hJ, rfl⟩
    by_cases hja : a < j
    · obtain ⟨j, rfl⟩ : ∃ k, j = k + 1 := ⟨j - 1, by omega⟩
      obtain ⟨x, hx⟩ : ∃ x, L'[j + 1]? = some x := ⟨L'[j + 1]'(by omega), List.getElem?_eq_getElem (by omega)⟩
      obtain ⟨y, hy⟩ : ∃ y, L'[j]? = some y := ⟨L'[j]'(by omega), List.getElem?_eq_getElem (by omega)⟩
      have hx' := Bd.map_at hx
      have hy' := Bd.map_at hy
      have g : decide (((j + 1 : Nat) : Int) > (a : Int)) = true := by simp; omega
      refine aS (aS (aD (by kernel_rfl) (by kernel_rfl) ?_))
      (refine nx (aM (gN rfl) rfl rfl rfl rfl rfl) rfl ?_)
      (refine nx (aM (gN rfl) rfl rfl rfl rfl rfl) rfl ?_)
      (refine nx (a_gtr (gN rfl) rfl rfl rfl rfl rfl rfl) rfl ?_)
      (refine nx (aM (gN rfl) rfl rfl rfl rfl rfl) rfl ?_)
      (refine nx (aM (gd_on rfl rfl rfl rfl (by first | rfl | assumption | (simp; done))) rfl rfl rfl rfl rfl) rfl ?_)
      (refine nx (aM (gd_on rfl rfl rfl rfl (by first | rfl | assumption | (simp; done))) rfl rfl rfl rfl rfl) rfl ?_)
      (refine nx (aM (gd_on rfl rfl rfl rfl (by first | rfl | assumption | (simp; done))) rfl rfl rfl rfl rfl) rfl ?_)
      (refine nx (aIm (k := j + 1) (gd_on rfl rfl rfl rfl (by first | rfl | assumption | (simp; done))) rfl rfl rfl rfl rfl rfl rfl rfl rfl (by first | rfl | omega | (simp only [List.length_set, List.length_map, List.length_append, List.length_cons, List.length_nil] <;> omega) | (simp <;> omega))) rfl ?_)
      (refine nx (a_loadM (gd_on rfl rfl rfl rfl (by first | rfl | assumption | (simp; done))) rfl rfl rfl rfl rfl rfl rfl rfl (hx') rfl (by first | rfl | omega | (simp only [List.length_set, List.length_map, List.length_append, List.length_cons, List.length_nil] <;> omega) | (simp <;> omega)) rfl rfl) rfl ?_)
      (refine nx (aM (gd_on rfl rfl rfl rfl (by first | rfl | assumption | (simp; done))) rfl rfl rfl rfl rfl) rfl ?_)
      (refine nx (aM (gd_on rfl rfl rfl rfl (by first | rfl | assumption | (simp; done))) rfl rfl rfl rfl rfl) rfl ?_)
      (refine nx (a_sub (gd_on rfl rfl rfl rfl (by first | rfl | assumption | (simp; done))) rfl rfl rfl rfl rfl rfl (by first | omega | (simp only [List.length_map, List.length_append, List.length_cons, List.length_nil] <;> omega) | (simp <;> omega))) rfl ?_)
      (refine nx (aIm (k := j) (gd_on rfl rfl rfl rfl (by first | rfl | assumption | (simp; done))) rfl rfl rfl rfl rfl rfl rfl rfl rfl (by first | rfl | omega | (simp only [List.length_set, List.length_map, List.length_append, List.length_cons, List.length_nil] <;> omega) | (simp <;> omega))) rfl ?_)
      (refine nx (a_loadM (gd_on rfl rfl rfl rfl (by first | rfl | assumption | (simp; done))) rfl rfl rfl rfl rfl rfl rfl rfl (hy') rfl (by first | rfl | omega | (simp only [List.length_set, List.length_map, List.length_append, List.length_cons, List.length_nil] <;> omega) | (simp <;> omega)) rfl rfl) rfl ?_)
      (refine nx (a_callw (gd_on rfl rfl rfl rfl (by first | rfl | assumption | (simp; done))) rfl rfl rfl rfl rfl rfl (hc _ x y)) rfl ?_)
      (refine nx (a_lss (gd_on rfl rfl rfl rfl (by first | rfl | assumption | (simp; done))) rfl rfl rfl rfl rfl rfl) rfl ?_)
      (refine ⟨_, _, _, aPt (gN rfl) rfl rfl rfl rfl rfl ?hb rfl, rfl, ?_⟩; case hb => (first | rfl | assumption | (simp; done)))
      refine ⟨by kernel_rfl, ?_⟩
      show AWp _ _ _ _ _ _ _
      refine aC rfl (fun hc1 => ?_) (fun hc1 => ?_)
      · have hlt2 : ltC cmp x y = true := hc1
        refine aK ?_
        show AWp _ _ _ _ _ _ _
        refine AWp.wk (wk_sub (s' := st2 (j + 1) L') ⟨rfl, rfl, rfl, rfl, rfl, rfl, rfl, trivial⟩) ?_
        refine aS (aB (aD (by kernel_rfl) (by kernel_rfl) ?_))
        (refine nx (aM (gN rfl) rfl rfl rfl rfl rfl) rfl ?_)
        (refine nx (aM (gN rfl) rfl rfl rfl rfl rfl) rfl ?_)
        (refine nx (aM (gN rfl) rfl rfl rfl rfl rfl) rfl ?_)
        (refine nx (aM (gN rfl) rfl rfl rfl rfl rfl) rfl ?_)
        (refine nx (a_sub (gN rfl) rfl rfl rfl rfl rfl rfl (by first | omega | (simp only [List.length_map, List.length_append, List.length_cons, List.length_nil] <;> omega) | (simp <;> omega))) rfl ?_)
        (refine nx (aM (gN rfl) rfl rfl rfl rfl rfl) rfl ?_)
        (refine nx (aM (gN rfl) rfl rfl rfl rfl rfl) rfl ?_)
        (refine nx (a_sub (gN rfl) rfl rfl rfl rfl rfl rfl (by first | omega | (simp only [List.length_map, List.length_append, List.length_cons, List.length_nil] <;> omega) | (simp <;> omega))) rfl ?_)
        (refine nx (aIm (k := j) (gN rfl) rfl rfl rfl rfl rfl rfl rfl rfl rfl (by first | rfl | omega | (simp only [List.length_set, List.length_map, List.length_append, List.length_cons, List.length_nil] <;> omega) | (simp <;> omega))) rfl ?_)
        (refine nx (a_loadM (gN rfl) rfl rfl rfl rfl rfl rfl rfl rfl (hy') rfl (by first | rfl | omega | (simp only [List.length_set, List.length_map, List.length_append, List.length_cons, List.length_nil] <;> omega) | (simp <;> omega)) rfl rfl) rfl ?_)
        (refine nx (aM (gN rfl) rfl rfl rfl rfl rfl) rfl ?_)
        (refine nx (aM (gN rfl) rfl rfl rfl rfl rfl) rfl ?_)
        (refine nx (aIm (k := j + 1) (gN rfl) rfl rfl rfl rfl rfl rfl rfl rfl rfl (by first | rfl | omega | (simp only [List.length_set, List.length_map, List.length_append, List.length_cons, List.length_nil] <;> omega) | (simp <;> omega))) rfl ?_)
        (refine nx (a_loadM (gN rfl) rfl rfl rfl rfl rfl rfl rfl rfl (hx') rfl (by first | rfl | omega | (simp only [List.length_set, List.length_map, List.length_append, List.length_cons, List.length_nil] <;> omega) | (simp <;> omega)) rfl rfl) rfl ?_)
        (refine nx (aIm (k := j + 1) (gN rfl) rfl rfl rfl rfl rfl rfl rfl rfl rfl (by first | rfl | omega | (simp only [List.length_set, List.length_map, List.length_append, List.length_cons, List.length_nil] <;> omega) | (simp <;> omega))) rfl ?_)
        (refine nx (a_storeM (gN rfl) rfl rfl rfl rfl rfl rfl (hx') rfl rfl (by first | rfl | omega | (simp only [List.length_set, List.length_map, List.length_append, List.length_cons, List.length_nil] <;> omega) | (simp <;> omega)) rfl) rfl ?_)
        (refine nx (aIm (k := j) (gN rfl) rfl rfl rfl rfl rfl rfl rfl rfl rfl (by first | rfl | omega | (simp only [List.length_set, List.length_map, List.length_append, List.length_cons, List.length_nil] <;> omega) | (simp <;> omega))) rfl ?_)
        (refine nx (a_storeM (gN rfl) rfl rfl rfl rfl rfl rfl ((by rw [List.getElem?_set_ne (by omega)]; exact hy')) rfl rfl (by first | rfl | omega | (simp only [List.length_set, List.length_map, List.length_append, List.length_cons, List.length_nil] <;> omega) | (simp <;> omega)) rfl) rfl ?_)
        refine ⟨by kernel_rfl, ?_⟩
        show AWp _ _ _ _ _ _ _
        refine aR ?_
        (refine nx (aM (gN rfl) rfl rfl rfl rfl rfl) rfl ?_)
        (refine nx (a_sub (gN rfl) rfl rfl rfl rfl rfl rfl (by first | omega | (simp only [List.length_map, List.length_append, List.length_cons, List.length_nil] <;> omega) | (simp <;> omega))) rfl ?_)
        (refine nx (aA (gN rfl) rfl rfl rfl rfl rfl) rfl ?_)
        refine ⟨j, st2 j ((L'.set (j + 1) y).set j x), by omega, ⟨j, _, rfl, by simp [hL'], by omega, ?_, rfl⟩, wk_sub ⟨rfl, rfl, rfl, rfl, rfl, ?_, ?_, trivial⟩⟩
        · rw [← hJ, sink_yes _ _ hx hy hja hlt2]
        · show some (AV.val (.i _)) = some (AV.val (.i _))
          congr 3; omega
        · show some (AV.mrow _ _ _) = some (AV.mrow _ _ _)
          rw [set_map_cv, set_map_cv]
      · have hlt2 : ltC cmp x y = false := hc1
        refine aE ?_
        show AWp _ _ _ _ _ _ _
        refine AWp.wk (wk_sub (s' := st2 (j + 1) L') ⟨rfl, rfl, rfl, rfl, rfl, rfl, rfl, trivial⟩) ?_
        refine aR ?_
        (refine nx (aM (gN rfl) rfl rfl rfl rfl rfl) rfl ?_)
        (refine nx (a_add (gN rfl) rfl rfl rfl rfl rfl rfl (by first | omega | (simp only [List.length_map, List.length_append, List.length_cons, List.length_nil] <;> omega) | (simp <;> omega))) rfl ?_)
        (refine nx (aA (gN rfl) rfl rfl rfl rfl rfl) rfl ?_)
        refine ⟨(b + 1) - (i + 1), st (i + 1) L', by omega, ⟨i + 1, L', rfl, hL', by omega, ?_, rfl⟩, wk_sub ⟨rfl, rfl, rfl, rfl, rfl, rfl, trivial⟩⟩
        have hs : L' = sink (ltC cmp) a i L := by rw [← hJ, sink_no _ _ hx hy hlt2]
        rw [← hI, show b - i = (b - (i + 1)) + 1 by omega, isortN, hs]
    · have g : decide ((j : Int) > (a : Int)) = false := by simp; omega
      refine aS (aS (aD (by kernel_rfl) (by kernel_rfl) ?_))
      (refine nx (aM (gN rfl) rfl rfl rfl rfl rfl) rfl ?_)
      (refine nx (aM (gN rfl) rfl rfl rfl rfl rfl) rfl ?_)
      (refine nx (a_gtr (gN rfl) rfl rfl rfl rfl rfl rfl) rfl ?_)
      (refine nx (aM (gN rfl) rfl rfl rfl rfl rfl) rfl ?_)
      (refine ⟨_, _, _, a_off (go_off rfl rfl rfl rfl (by first | rfl | assumption | (simp; done) | (simp [*]; done))) rfl rfl rfl, rfl, ?_⟩)
      (refine ⟨_, _, _, a_off (go_off rfl rfl rfl rfl (by first | rfl | assumption | (simp; done) | (simp [*]; done))) rfl rfl rfl, rfl, ?_⟩)
      (refine ⟨_, _, _, a_off (go_off rfl rfl rfl rfl (by first | rfl | assumption | (simp; done) | (simp [*]; done))) rfl rfl rfl, rfl, ?_⟩)
      (refine ⟨_, _, _, a_off (go_off rfl rfl rfl rfl (by first | rfl | assumption | (simp; done) | (simp [*]; done))) rfl rfl rfl, rfl, ?_⟩)
      (refine ⟨_, _, _, a_off (go_off rfl rfl rfl rfl (by first | rfl | assumption | (simp; done) | (simp [*]; done))) rfl rfl rfl, rfl, ?_⟩)
      (refine ⟨_, _, _, a_off (go_off rfl rfl rfl rfl (by first | rfl | assumption | (simp; done) | (simp [*]; done))) rfl rfl rfl, rfl, ?_⟩)
      (refine ⟨_, _, _, a_off (go_off rfl rfl rfl rfl (by first | rfl | assumption | (simp; done) | (simp [*]; done))) rfl rfl rfl, rfl, ?_⟩)
      (refine ⟨_, _, _, a_off (go_off rfl rfl rfl rfl (by first | rfl | assumption | (simp; done) | (simp [*]; done))) rfl rfl rfl, rfl, ?_⟩)
      (refine ⟨_, _, _, a_off (go_off rfl rfl rfl rfl (by first | rfl | assumption | (simp; done) | (simp [*]; done))) rfl rfl rfl, rfl, ?_⟩)
      (refine ⟨_, _, _, a_off (go_off rfl rfl rfl rfl (by first | rfl | assumption | (simp; done) | (simp [*]; done))) rfl rfl rfl, rfl, ?_⟩)
      (refine ⟨_, _, _, a_off (go_off rfl rfl rfl rfl (by first | rfl | assumption | (simp; done) | (simp [*]; done))) rfl rfl rfl, rfl, ?_⟩)
      (refine ⟨_, _, _, a_off (go_off rfl rfl rfl rfl (by first | rfl | assumption | (simp; done) | (simp [*]; done))) rfl rfl rfl, rfl, ?_⟩)
      (refine ⟨_, _, _, aPf (gN rfl) rfl rfl rfl rfl rfl ?hb rfl, rfl, ?_⟩; case hb => (first | rfl | assumption | (simp; done)))
      refine ⟨by kernel_rfl, ?_⟩
      show AWp _ _ _ _ _ _ _
      refine aC rfl (fun hc1 => ?_) (fun hc1 => ?_)
      · cases hc1
      · refine aE ?_
        show AWp _ _ _ _ _ _ _
        refine AWp.wk (wk_sub (s' := st2 (j) L') ⟨rfl, rfl, rfl, rfl, rfl, rfl, rfl, trivial⟩) ?_
        refine aR ?_
        (refine nx (aM (gN rfl) rfl rfl rfl rfl rfl) rfl ?_)
        (refine nx (a_add (gN rfl) rfl rfl rfl rfl rfl rfl (by first | omega | (simp only [List.length_map, List.length_append, List.length_cons, List.length_nil] <;> omega) | (simp <;> omega))) rfl ?_)
        (refine nx (aA (gN rfl) rfl rfl rfl rfl rfl) rfl ?_)
        refine ⟨(b + 1) - (i + 1), st (i + 1) L', by omega, ⟨i + 1, L', rfl, hL', by omega, ?_, rfl⟩, wk_sub ⟨rfl, rfl, rfl, rfl, rfl, rfl, trivial⟩⟩
        have hs : L' = sink (ltC cmp) a i L := by rw [← hJ, sink_stop _ _ hja]
        rw [← hI, show b - i = (b - (i + 1)) + 1 by omega, isortN, hs]
  · have hib : ¬ i < b := by simpa using hlt
    refine aE ?_
    refine ⟨.inl rfl, _, Wk.refl _, rfl, ?_, trivial⟩
    show some (AV.mrow _ _ _) = some (AV.mrow _ _ _)
    rw [show b - i = 0 by omega] at hI
    rw [← hI]
    rfl
theorem cmp_abs (W : World) (x y : Int) : AFun Tryz.prog W 137 [.i x, .i y] (.val (.i (cmpZ x y))) := by
  refine ⟨ent_of Tryz.func137 rfl rfl, .inl rfl, rfl, ?_⟩
  rintro U w vs hW ⟨u1, us1, rfl, h1, u2, us2, rfl, h2, h3⟩
  have h3 : us2 = [] := h3
  subst h3
  obtain ⟨rfl, _⟩ := vrep_sc.1 h1
  obtain ⟨rfl, _⟩ := vrep_sc.1 h2
  refine (cmpInt_any x y w).mono ?_
  rintro e w' ⟨rfl, hb⟩
  exact ⟨_, rfl, vrep_sc.2 ⟨rfl, rfl⟩, hb⟩

def cmpB (x y : Bd) : Int := cmpZ x.v y.v
-- 
theorem cmpB_abs (W : World) (x y : Bd) : AFun Tryz.prog W 178 [x.cw, y.cw] (.val (.i (cmpB x y))) := by
  refine afun_of (rs := [.i (cmpB x y)]) Tryz.func178 Tryz.ntmps178 rfl rfl rfl rfl ?_
  intro w U hW
  refine aS (aR ?_)
  (refine nx (a_box (gN rfl) rfl rfl rfl rfl rfl) rfl ?_)
  (refine nx (a_box (gN rfl) rfl rfl rfl rfl rfl) rfl ?_)
  (refine nx (aA (gN rfl) rfl rfl rfl rfl rfl) rfl ?_)
  show AWp _ _ _ _ _ _ _
  refine aS (aR ?_)
  (refine nx (aF (gN rfl) rfl rfl rfl rfl rfl rfl rfl rfl rfl) rfl ?_)
  (refine nx (aLb (gN rfl) rfl rfl rfl rfl rfl rfl rfl rfl rfl rfl rfl rfl) rfl ?_)
  (refine nx (aF (gN rfl) rfl rfl rfl rfl rfl rfl rfl rfl rfl) rfl ?_)
  (refine nx (aLb (gN rfl) rfl rfl rfl rfl rfl rfl rfl rfl rfl rfl rfl rfl) rfl ?_)
  (refine nx (a_call (gN rfl) rfl rfl rfl rfl rfl (cmp_abs _ x.v y.v)) rfl ?_)
  (refine nx (aA (gN rfl) rfl rfl rfl rfl rfl) rfl ?_)
  show AWp _ _ _ _ _ _ _
  exact aT ⟨.inr rfl, rfl⟩
-- 
theorem sameB_abs (W : World) (x y : Bd) : AFun Tryz.prog W 180 [x.cw, y.cw] (.val (.b (decide (x.v = y.v)))) := by
  refine afun_of (rs := [.b (decide (x.v = y.v))]) Tryz.func180 Tryz.ntmps180 rfl rfl rfl rfl ?_
  intro w U hW
  refine aS (aR ?_)
  (refine nx (a_box (gN rfl) rfl rfl rfl rfl rfl) rfl ?_)
  (refine nx (a_box (gN rfl) rfl rfl rfl rfl rfl) rfl ?_)
  (refine nx (aA (gN rfl) rfl rfl rfl rfl rfl) rfl ?_)
  show AWp _ _ _ _ _ _ _
  refine aS (aR ?_)
  (refine nx (aF (gN rfl) rfl rfl rfl rfl rfl rfl rfl rfl rfl) rfl ?_)
  (refine nx (aLb (gN rfl) rfl rfl rfl rfl rfl rfl rfl rfl rfl rfl rfl rfl) rfl ?_)
  (refine nx (aF (gN rfl) rfl rfl rfl rfl rfl rfl rfl rfl rfl) rfl ?_)
  (refine nx (aLb (gN rfl) rfl rfl rfl rfl rfl rfl rfl rfl rfl rfl rfl rfl) rfl ?_)
  (refine nx (a_eql (gN rfl) rfl rfl rfl rfl rfl rfl) rfl ?_)
  (refine nx (aA (gN rfl) rfl rfl rfl rfl rfl) rfl ?_)
  show AWp _ _ _ _ _ _ _
  exact aT ⟨.inr rfl, rfl⟩
def idleB (b : Bd) : Bool := decide (b.t.f < 0) && decide (-1 - b.t.f = b.v)
-- 
theorem idle_abs (W : World) (b : Bd) (h1 : -9223372036854775808 ≤ b.t.f) : AFun Tryz.prog W 160 [b.cw] (.val (.b (idleB b))) := by
  refine afun_of (rs := [.b (idleB b)]) Tryz.func160 Tryz.ntmps160 rfl rfl rfl rfl ?_
  intro w U hW
  refine aS (aR ?_)
  (refine nx (a_box (gN rfl) rfl rfl rfl rfl rfl) rfl ?_)
  (refine nx (aA (gN rfl) rfl rfl rfl rfl rfl) rfl ?_)
  show AWp _ _ _ _ _ _ _
  unfold idleB
  by_cases hf : b.t.f < 0
  · have g : decide (b.t.f < 0) = true := by simpa using hf
    refine aS (aD (by kernel_rfl) (by kernel_rfl) ?_)
    (refine nx (aF (gN rfl) rfl rfl rfl rfl rfl rfl rfl rfl rfl) rfl ?_)
    (refine nx (aLb (gN rfl) rfl rfl rfl rfl rfl rfl rfl rfl rfl rfl rfl rfl) rfl ?_)
    (refine nx (a_call (gN rfl) rfl rfl rfl rfl rfl (sIsVar_abs _ b.t)) rfl ?_)
    (refine nx (aM (gN rfl) rfl rfl rfl rfl rfl) rfl ?_)
    (refine nx (aF (gd_on rfl rfl rfl rfl (by first | rfl | assumption | (simp; done))) rfl rfl rfl rfl rfl rfl rfl rfl rfl) rfl ?_)
    (refine nx (aLb (gd_on rfl rfl rfl rfl (by first | rfl | assumption | (simp; done))) rfl rfl rfl rfl rfl rfl rfl rfl rfl rfl rfl rfl) rfl ?_)
    (refine nx (a_call (gd_on rfl rfl rfl rfl (by first | rfl | assumption | (simp; done))) rfl rfl rfl rfl rfl (sNumber_abs _ b.t h1 hf)) rfl ?_)
    (refine nx (aF (gd_on rfl rfl rfl rfl (by first | rfl | assumption | (simp; done))) rfl rfl rfl rfl rfl rfl rfl rfl rfl) rfl ?_)
    (refine nx (aLb (gd_on rfl rfl rfl rfl (by first | rfl | assumption | (simp; done))) rfl rfl rfl rfl rfl rfl rfl rfl rfl rfl rfl rfl) rfl ?_)
    (refine nx (a_eql (gd_on rfl rfl rfl rfl (by first | rfl | assumption | (simp; done))) rfl rfl rfl rfl rfl rfl) rfl ?_)
    (refine ⟨_, _, _, aPt (gN rfl) rfl rfl rfl rfl rfl ?hb rfl, rfl, ?_⟩; case hb => (first | rfl | assumption | (simp; done)))
    (refine nx (aA (gN rfl) rfl rfl rfl rfl rfl) rfl ?_)
    refine ⟨by kernel_rfl, ?_⟩
    show AWp _ _ _ _ _ _ _
    refine aT ⟨.inr rfl, ?_⟩
    rw [g]; rfl
  · have g : decide (b.t.f < 0) = false := by simpa using hf
    refine aS (aD (by kernel_rfl) (by kernel_rfl) ?_)
    (refine nx (aF (gN rfl) rfl rfl rfl rfl rfl rfl rfl rfl rfl) rfl ?_)
    (refine nx (aLb (gN rfl) rfl rfl rfl rfl rfl rfl rfl rfl rfl rfl rfl rfl) rfl ?_)
    (refine nx (a_call (gN rfl) rfl rfl rfl rfl rfl (sIsVar_abs _ b.t)) rfl ?_)
    (refine nx (aM (gN rfl) rfl rfl rfl rfl rfl) rfl ?_)
    (refine ⟨_, _, _, a_off (go_off rfl rfl rfl rfl (by first | rfl | assumption | (simp; done) | (simp [*]; done))) rfl rfl rfl, rfl, ?_⟩)
    (refine ⟨_, _, _, a_off (go_off rfl rfl rfl rfl (by first | rfl | assumption | (simp; done) | (simp [*]; done))) rfl rfl rfl, rfl, ?_⟩)
    (refine ⟨_, _, _, a_off (go_off rfl rfl rfl rfl (by first | rfl | assumption | (simp; done) | (simp [*]; done))) rfl rfl rfl, rfl, ?_⟩)
    (refine ⟨_, _, _, a_off (go_off rfl rfl rfl rfl (by first | rfl | assumption | (simp; done) | (simp [*]; done))) rfl rfl rfl, rfl, ?_⟩)
    (refine ⟨_, _, _, a_off (go_off rfl rfl rfl rfl (by first | rfl | assumption | (simp; done) | (simp [*]; done))) rfl rfl rfl, rfl, ?_⟩)
    (refine ⟨_, _, _, a_off (go_off rfl rfl rfl rfl (by first | rfl | assumption | (simp; done) | (simp [*]; done))) rfl rfl rfl, rfl, ?_⟩)
    (refine ⟨_, _, _, aPf (gN rfl) rfl rfl rfl rfl rfl ?hb rfl, rfl, ?_⟩; case hb => (first | rfl | assumption | (simp; done)))
    (refine nx (aA (gN rfl) rfl rfl rfl rfl rfl) rfl ?_)
    refine ⟨by kernel_rfl, ?_⟩
    show AWp _ _ _ _ _ _ _
    refine aT ⟨.inr rfl, ?_⟩
    rw [g]; rfl

-- 
theorem cloneB_abs (L : List Bd) (hn : L.length ≤ 1000000000) :
    AFunO Tryz.prog 176 [] [.val (.lst (L.map Bd.cv))] (.sl 250007 0 L.length 3) [(250007, .mrow 112 3 (L.map Bd.cv))] := by
  have hsz := Bd.size_all L
  refine afunO_of Tryz.func176 Tryz.ntmps176 rfl rfl rfl rfl rfl rfl ?_
  intro w U hU
  refine AWp.nil 0 rfl rfl (fun hl => ?_) ?_
  · have hL : L = [] := by simpa using hl
    subst hL
    refine aS (aR ?_)
    (refine nx (aA (gN rfl) rfl rfl rfl rfl rfl) rfl ?_)
    show AWp _ _ _ _ _ _ _
    refine aS (aS (aR ?_))
    (refine nx (aM (gN rfl) rfl rfl rfl rfl rfl) rfl ?_)
    (refine nx (a_isnil (gN rfl) rfl rfl rfl rfl rfl rfl) rfl ?_)
    show AWp _ _ _ _ _ _ _
    refine aC rfl (fun _ => ?_) (fun h => by cases h)
    refine aS (aR ?_)
    (refine nx (aA (gN rfl) rfl rfl rfl rfl rfl) rfl ?_)
    show AWp _ _ _ _ _ _ _
    exact aT ⟨.inr rfl, _, wk_nilM 2 250007 112 3 rfl rfl rfl rfl rfl, rfl, rfl, trivial⟩
  · refine aS (aR ?_)
    (refine nx (aA (gN rfl) rfl rfl rfl rfl rfl) rfl ?_)
    show AWp _ _ _ _ _ _ _
    refine aS (aS (aR ?_))
    (refine nx (aM (gN rfl) rfl rfl rfl rfl rfl) rfl ?_)
    (refine nx (a_notnil (gN rfl) rfl rfl rfl rfl rfl rfl) rfl ?_)
    show AWp _ _ _ _ _ _ _
    refine aC rfl (fun h => by cases h) (fun _ => ?_)
    refine aK ?_
    show AWp _ _ _ _ _ _ _
    refine AWp.wk ((wk_not 0 rfl rfl).trans (wk_sub (s' := [(0, .val (.lst (L.map Bd.cv)))]) ⟨rfl, trivial⟩)) ?_
    refine aS (aR ?_)
    (refine nx (a_bslice0 (gN rfl) rfl rfl rfl rfl rfl rfl rfl rfl) rfl ?_)
    (refine nx (aM (gN rfl) rfl rfl rfl rfl rfl) rfl ?_)
    (refine nx (a_app0M 250007 (gN rfl) rfl rfl rfl rfl rfl rfl rfl rfl rfl rfl rfl rfl rfl rfl rfl (by first | assumption | exact sZ rfl | exact Tm.size_all _ | exact Bd.size_all _ | exact ints_size _ | exact bys_size _ | exact Lt.size_all _) (by first | omega | (simp only [List.length_map, List.length_append, List.length_cons, List.length_nil] <;> omega) | (simp <;> omega))) rfl ?_)
    (refine nx (aA (gN rfl) rfl rfl rfl rfl rfl) rfl ?_)
    show AWp _ _ _ _ _ _ _
    refine aT ⟨.inr rfl, _, Wk.refl _, ?_, rfl, trivial⟩
    show some (AV.sl _ _ _ _) = some (AV.sl _ _ _ _)
    rw [List.length_map]
    rfl

-- 
theorem stable_abs (cmp : Bd → Bd → Int) (fc : CV) (L : List Bd) (hn : L.length < 20) (hc : ∀ W x y, AFunW Tryz.prog W fc [x.cw, y.cw] (.val (.i (cmp x y)))) :
    AFunO Tryz.prog 182 [(400000, .mrow 112 3 (L.map Bd.cv))] [.sl 400000 0 L.length 3, .val (.i L.length), .val fc] (.tup []) [(400000, .mrow 112 3 ((isortN (ltC cmp) 0 (L.length - 1) 1 L).map Bd.cv))] := by
  refine afunO_of Tryz.func182 Tryz.ntmps182 rfl rfl rfl rfl rfl rfl ?_
  intro w U hU
  refine aS (aR ?_)
  (refine nx (aA (gN rfl) rfl rfl rfl rfl rfl) rfl ?_)
  show AWp _ _ _ _ _ _ _
  refine aS (aR ?_)
  (refine nx (aM (gN rfl) rfl rfl rfl rfl rfl) rfl ?_)
  (refine nx (aA (gN rfl) rfl rfl rfl rfl rfl) rfl ?_)
  (refine nx (aA (gN rfl) rfl rfl rfl rfl rfl) rfl ?_)
  show AWp _ _ _ _ _ _ _
  let st : AS := [(0, .sl 400000 0 L.length 3), (1, .val (.i L.length)), (2, .val fc), (6, .val (.i 20)), (7, .val (.i 0)), (8, .val (.i 20)), (400000, .mrow 112 3 (L.map Bd.cv))]
  refine aS (aB (awp_count 0 (fun k => st) (wk_sub ⟨rfl, rfl, rfl, rfl, rfl, rfl, rfl, trivial⟩) ?_))
  intro k hk
  refine aS (aS (aR ?_))
  (refine nx (aM (gN rfl) rfl rfl rfl rfl rfl) rfl ?_)
  (refine nx (aM (gN rfl) rfl rfl rfl rfl rfl) rfl ?_)
  (refine nx (a_leq (gN rfl) rfl rfl rfl rfl rfl rfl) rfl ?_)
  show AWp _ _ _ _ _ _ _
  refine aC rfl (fun h => ?_) (fun _ => ?_)
  · exfalso
    have h : decide ((20 : Int) ≤ (L.length : Int)) = true := h
    simp at h
    omega
  refine aE ?_
  show AWp _ _ _ _ _ _ _
  refine AWp.wk (wk_sub (s' := st) ⟨rfl, rfl, rfl, rfl, rfl, rfl, rfl, trivial⟩) ?_
  have hins := insSort_abs cmp fc L 0 L.length (by omega) (Nat.le_refl _) (by omega) hc
  rw [Nat.zero_add] at hins
  refine aS (aR ?_)
  (refine nx (aM (gN rfl) rfl rfl rfl rfl rfl) rfl ?_)
  (refine nx (aM (gN rfl) rfl rfl rfl rfl rfl) rfl ?_)
  (refine nx (aM (gN rfl) rfl rfl rfl rfl rfl) rfl ?_)
  (refine nx (aM (gN rfl) rfl rfl rfl rfl rfl) rfl ?_)
  (refine nx (a_callO (gN rfl) rfl rfl rfl rfl rfl (hins) (by repeat (first | exact trivial | refine ⟨rfl, ?_⟩)) (by first | rfl | kernel_rfl) (by first | rfl | kernel_rfl) (by first | rfl | kernel_rfl) (by first | rfl | kernel_rfl) (hnb_of (by first | rfl | kernel_rfl))) rfl ?_)
  show AWp _ _ _ _ _ _ _
  refine aB (awp_count 0 (fun k => [(1, .val (.i L.length)), (6, .val (.i 20)), (400000, .mrow 112 3 ((isortN (ltC cmp) 0 (L.length - 1) 1 L).map Bd.cv))]) (wk_sub ⟨rfl, rfl, rfl, trivial⟩) ?_)
  intro k hk
  refine aS (aS (aR ?_))
  (refine nx (aM (gN rfl) rfl rfl rfl rfl rfl) rfl ?_)
  (refine nx (aM (gN rfl) rfl rfl rfl rfl rfl) rfl ?_)
  (refine nx (a_lss (gN rfl) rfl rfl rfl rfl rfl rfl) rfl ?_)
  show AWp _ _ _ _ _ _ _
  refine aC rfl (fun h => ?_) (fun _ => ?_)
  · exfalso
    have h : decide ((20 : Int) < (L.length : Int)) = true := h
    simp at h
    omega
  refine aE ?_
  exact ⟨.inl rfl, _, Wk.refl _, rfl, rfl, trivial⟩
-- 
theorem sortStable_abs (cmp : Bd → Bd → Int) (fc : CV) (L : List Bd) (hn : L.length < 20) (hc : ∀ W x y, AFunW Tryz.prog W fc [x.cw, y.cw] (.val (.i (cmp x y)))) :
    AFunO Tryz.prog 177 [(400000, .mrow 112 3 (L.map Bd.cv))] [.sl 400000 0 L.length 3, .val fc] (.tup []) [(400000, .mrow 112 3 ((isortN (ltC cmp) 0 (L.length - 1) 1 L).map Bd.cv))] := by
  refine afunO_of Tryz.func177 Tryz.ntmps177 rfl rfl rfl rfl rfl rfl ?_
  intro w U hU
  have hst := stable_abs cmp fc L hn hc
  refine aR ?_
  (refine nx (aM (gN rfl) rfl rfl rfl rfl rfl) rfl ?_)
  (refine nx (aM (gN rfl) rfl rfl rfl rfl rfl) rfl ?_)
  (refine nx (a_lenM (gN rfl) rfl rfl rfl rfl rfl rfl rfl) rfl ?_)
  (refine nx (aM (gN rfl) rfl rfl rfl rfl rfl) rfl ?_)
  (refine nx (a_callO (gN rfl) rfl rfl rfl rfl rfl (hst) (by repeat (first | exact trivial | refine ⟨rfl, ?_⟩)) (by first | rfl | kernel_rfl) (by first | rfl | kernel_rfl) (by first | rfl | kernel_rfl) (by first | rfl | kernel_rfl) (hnb_of (by first | rfl | kernel_rfl))) rfl ?_)
  exact ⟨.inl rfl, _, Wk.refl _, rfl, rfl, trivial⟩

def idxB (q : Bd → Bool) : List Bd → Nat → Int
  | [], _ => -1
  | b :: l, i => if q b then (i : Int) else idxB q l (i + 1)
theorem idxB_none {q : Bd → Bool} : ∀ {l : List Bd} {i : Nat}, (∀ b ∈ l, q b = false) → idxB q l i = -1
  | [], _, _ => rfl
  | b :: l, i, h => by rw [idxB, h b (by simp), if_neg (by simp)]; exact idxB_none fun c hc => h c (List.mem_cons_of_mem _ hc)
theorem idxB_at {q : Bd → Bool} : ∀ {l : List Bd} {i k : Nat} {b : Bd}, l[k]? = some b → q b = true → (∀ j c, j < k → l[j]? = some c → q c = false) → idxB q l i = ((i + k : Nat) : Int)
  | [], _, _, _, h, _, _ => by simp at h
  | x :: l, i, 0, b, h, hq, _ => by simp at h; subst h; rw [idxB, if_pos hq]; rfl
  | x :: l, i, k + 1, b, h, hq, hf => by
    rw [idxB, hf 0 x (by omega) rfl, if_neg (by simp), idxB_at (k := k) (by simpa using h) hq fun j c hj hc => hf (j + 1) c (by omega) (by simpa using hc)]
    congr 1; omega
-- 
theorem indexF_abs (q : Bd → Bool) (fc : CV) (L : List Bd) (n : Nat) (hnl : n ≤ L.length) (hn : L.length ≤ 1000000000) (hc : ∀ W x, x ∈ L.take n → AFunW Tryz.prog W fc [x.cw] (.val (.b (q x)))) :
    AFunO Tryz.prog 175 [(400000, .mrow 112 3 (L.map Bd.cv))] [.sl 400000 0 n 3, .val fc] (.val (.i (idxB q (L.take n) 0))) [(400000, .mrow 112 3 (L.map Bd.cv))] := by
  refine afunO_of Tryz.func175 Tryz.ntmps175 rfl rfl rfl rfl rfl rfl ?_
  intro w U hU
  refine aS (aR ?_)
  (refine nx (aA (gN rfl) rfl rfl rfl rfl rfl) rfl ?_)
  show AWp _ _ _ _ _ _ _
  refine aS (aS (aR ?_))
  (refine nx (aM (gN rfl) rfl rfl rfl rfl rfl) rfl ?_)
  (refine nx (a_lenM (gN rfl) rfl rfl rfl rfl rfl rfl rfl) rfl ?_)
  (refine nx (aM (gN rfl) rfl rfl rfl rfl rfl) rfl ?_)
  show AWp _ _ _ _ _ _ _
  refine aB (awp_countI n (fun k => ∀ j c, j < k → (L.take n)[j]? = some c → q c = false) (fun k => [(0, .sl 400000 0 n 3), (1, .val fc), (7, .val (.i n)), (8, .val (.i k)), (400000, .mrow 112 3 (L.map Bd.cv))]) (wk_sub ⟨rfl, rfl, rfl, rfl, rfl, trivial⟩) (fun j c hj => by omega) ?_)
  intro k hk hI
  refine aS (aR ?_)
  (refine nx (a_lss (gN rfl) rfl rfl rfl rfl rfl rfl) rfl ?_)
  show AWp _ _ _ _ _ _ _
  refine aS (aC rfl (fun hlt => ?_) (fun hlt => ?_))
  · have hkl : k < n := by simpa using hlt
    obtain ⟨x, hx0⟩ : ∃ x, L[k]? = some x := ⟨L[k]'(by omega), List.getElem?_eq_getElem (by omega)⟩
    have hx : (L.take n)[k]? = some x := by rw [List.getElem?_take, if_pos hkl]; exact hx0
    have hx' := Bd.map_at hx0
    refine aK ?_
    show AWp _ _ _ _ _ _ _
    refine aS (aB (aS (aR ?_)))
    (refine nx (aM (gN rfl) rfl rfl rfl rfl rfl) rfl ?_)
    (refine nx (aA (gN rfl) rfl rfl rfl rfl rfl) rfl ?_)
    show AWp _ _ _ _ _ _ _
    refine aS (aR ?_)
    (refine nx (aM (gN rfl) rfl rfl rfl rfl rfl) rfl ?_)
    (refine nx (aM (gN rfl) rfl rfl rfl rfl rfl) rfl ?_)
    (refine nx (aM (gN rfl) rfl rfl rfl rfl rfl) rfl ?_)
    (refine nx (aIm (k := k) (gN rfl) rfl rfl rfl rfl rfl rfl rfl rfl rfl (by first | rfl | omega | (simp only [List.length_set, List.length_map, List.length_append, List.length_cons, List.length_nil] <;> omega) | (simp <;> omega))) rfl ?_)
    (refine nx (a_loadM (gN rfl) rfl rfl rfl rfl rfl rfl rfl rfl (hx') rfl (by first | rfl | omega | (simp only [List.length_set, List.length_map, List.length_append, List.length_cons, List.length_nil] <;> omega) | (simp <;> omega)) rfl rfl) rfl ?_)
    (refine nx (a_callw (gN rfl) rfl rfl rfl rfl rfl rfl (hc _ x (List.mem_of_getElem? hx))) rfl ?_)
    show AWp _ _ _ _ _ _ _
    refine aC rfl (fun hq => ?_) (fun hq => ?_)
    · refine aS (aR ?_)
      (refine nx (aM (gN rfl) rfl rfl rfl rfl rfl) rfl ?_)
      (refine nx (aA (gN rfl) rfl rfl rfl rfl rfl) rfl ?_)
      show AWp _ _ _ _ _ _ _
      refine aT ⟨.inr rfl, _, Wk.refl _, ?_, rfl, trivial⟩
      rw [idxB_at hx hq hI, Nat.zero_add]
      rfl
    · refine aK ?_
      show AWp _ _ _ _ _ _ _
      refine aR ?_
      (refine nx (a_add (gN rfl) rfl rfl rfl rfl rfl rfl (by first | omega | (simp only [List.length_map, List.length_append, List.length_cons, List.length_nil] <;> omega) | (simp <;> omega))) rfl ?_)
      (refine nx (aM (gN rfl) rfl rfl rfl rfl rfl) rfl ?_)
      refine ⟨hkl, fun j c hj hc => ?_, wk_sub ⟨rfl, rfl, rfl, rfl, rfl, trivial⟩⟩
      rcases Nat.lt_or_ge j k with h | h
      · exact hI j c h hc
      · have : j = k := by omega
        subst this
        rw [hx] at hc
        cases hc
        exact hq
  · have hkl : ¬ k < n := by simpa using hlt
    refine aE ?_
    show AWp _ _ _ _ _ _ _
    refine aS (aR ?_)
    (refine nx (aA (gN rfl) rfl rfl rfl rfl rfl) rfl ?_)
    show AWp _ _ _ _ _ _ _
    refine aT ⟨.inr rfl, _, Wk.refl _, ?_, rfl, trivial⟩
    rw [idxB_none fun b hb => ?_]
    · rfl
    · obtain ⟨j, hj⟩ := List.getElem?_of_mem hb
      have hjl : j < n := by
        rw [List.getElem?_take] at hj
        split at hj
        · assumption
        · cases hj
      exact hI j b (by omega) hj
end Go.Proofs.YteegmcfobgpemaaGreat
