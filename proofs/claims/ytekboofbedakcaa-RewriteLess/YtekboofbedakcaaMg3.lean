/-
  AbMap AbFull AbArr AbRoom AbBox AbIter AbRange AbRangeV AbMark AbNest AbNest2 AbNest3 AbNest4 AbDel AbRowO AbHdl AbYield AbMapR AbMapT AbQ RwXt AbZ RwClone AbEnds RwFill
-/
import Derived.Test.YtekboofbedakcaaMg2
import Derived.MapKept
import Derived.Laws.NewFold
import Derived.RangeFuncNested
import Derived.Maps.RangeRun
import Derived.Maps.OwnRows
namespace Go.Proofs.Ytekboofbedakcaa
open Go.RowKit Go.MapKept
set_option linter.unusedVariables false
set_option linter.unusedSimpArgs false
section
variable {P : Program} {w0 : World} {U0 : UX} {nt : Nat} {ops : Array Oper} {o : Oper} {S : Nat → Option AV} {gs : List Nat} {d : Nat} {s : AS} {a : Act} {w : World} {D : Nat → Nat → Prop} {hv : Nat → Value}

theorem SimG.upd (h : SimG w0 U0 nt s a w D hv) {k0 : Nat} (h5 : oKey k0) {av0 av : AV} (h0 : look s k0 = some av0) (ht0 : av0.t ≠ 7) (hobj : av0.t ≠ 9) (ht : av.t = av0.t) (hnd : ∀ g, NoD D av0 (hv k0) g → NoD D av (hv k0) g) (ht6 : av.t ≠ 6) {g : Nat} (hg : hb (hv k0) = some g) {w' : World} (hos : w'.os = w.os) (htp : w'.tape = w.tape) (hou : w'.output = w.output) (hsize : w'.heap.size = w.heap.size) (hoth : ∀ k, k ≠ g → w'.heap[k]? = w.heap[k]?) (hoc : (∀ b o v, Us w0 U0 D b o → w.cell? ⟨b, o, none⟩ = some v → Us w0 U0 D b o ∧ w'.cell? ⟨b, o, none⟩ = some v) → OC (Us w0 U0 D) w' hv (LiveN s) av (hv k0)) :
    SimG w0 U0 nt ((k0, av) :: s) a w' D hv := by
  obtain ⟨hbase, hlt0, hD⟩ := h.blk k0 av0 g h0 h5 ht0 hg
  have h5' := h5
  unfold oKey at h5'
  have ht6' : av0.t ≠ 6 := by rw [← ht]; exact ht6
  have hD' : ∀ o, ¬ D g o := fun o => hD o fun e => absurd e ht6'
  have hne9 : av ≠ .obj := fun e => hobj (by rw [← ht, e])
  have hne90 : av0 ≠ .obj := fun e => hobj (by rw [e])
  have hl : ∀ n e, Live ((k0, av) :: s) n e ↔ Live s n e := fun n e => by
    unfold Live
    by_cases e1 : k0 = n
    · subst e1
      rw [lS, h0]
      constructor
      · rintro ⟨h1, _⟩; cases h1; exact absurd rfl ht6
      · rintro ⟨h1, _⟩; cases h1; exact absurd rfl ht6'
    · rw [lN e1]
  have hl2 : LiveN ((k0, av) :: s) = LiveN s := by funext k; simp only [LiveN, hl]
  have hkeep : ∀ b o v, Us w0 U0 D b o → w.cell? ⟨b, o, none⟩ = some v → Us w0 U0 D b o ∧ w'.cell? ⟨b, o, none⟩ = some v := fun b o v hu hc => by
    refine ⟨hu, ?_⟩
    rw [World.cell?_of_block (w := w) (hoth b (us_ne hu hbase (hD' o)))]
    exact hc
  refine ⟨⟨hos.trans h.below.os, htp.trans h.below.tape, hou.trans h.below.output, by rw [hsize]; exact h.below.size, fun k hk hkx => ?_⟩, h.dfr, h.size, fun d av' h1 h2 => ?_, fun n o av' h1 h2 h3 h10 => ?_, fun n o o' av1 av2 h1 h2 => ?_, fun k av' h1 h2 => ?_, fun k av' g' h1 h2 h3 h4 => ?_, fun k k' av1 av2 g' h1 h2 h3 h4 h6 h7 hne => ?_, h.fix, fun b o hd => ?_⟩
  · rw [hoth k]
    · exact h.below.block k hk hkx
    · rintro rfl
      rcases hbase with h1 | h1
      · omega
      · exact hkx h1.2
  · rw [lN (by omega)] at h1
    rw [hl2]
    obtain ⟨v, h3, h4⟩ := h.slot d av' h1 h2
    exact ⟨v, h3, h4.keep hkeep⟩
  · rw [lN (by unfold fKey; omega)] at h1
    have hne : k0 ≠ 100000 + n := fun e => by subst e; rw [lS] at h3; cases h3; exact hne9 rfl
    rw [lN hne] at h3
    rw [hl2]
    obtain ⟨v, h4, h6, h7⟩ := h.fld n o av' h1 h2 h3 h10
    refine ⟨v, h4.keep hkeep, h6, fun i hi => ?_⟩
    have hng : blkOf (hv (100000 + n)) ≠ g := by
      rintro e
      obtain ⟨g2, ys, ty2, e1, e2, e3⟩ := h.obj9 h3 h10
      have : hb (hv (100000 + n)) = some g := by rw [e1]; rw [e2] at e; rw [← e]; rfl
      exact h.disj k0 (100000 + n) av0 _ g h0 h3 h5 (bn_okey h10) ht0 (by simp) hne hg this
    rw [World.cell?_of_block (w := w) (hoth _ hng)]
    exact h7 i hi
  · rw [lN (by unfold fKey; omega)] at h1 h2
    exact h.fdis n o o' av1 av2 h1 h2
  · rw [hl2]
    by_cases e : k0 = k
    · subst e
      rw [lS] at h1
      cases h1
      exact hoc hkeep
    · rw [lN e] at h1
      by_cases h7 : av'.t = 7
      · exact oc_no h7
      · exact (h.obj k av' h1 h2).move hkeep (fun _ hl => ⟨hl, rfl⟩) fun g' hg' => hoth g' fun e2 => h.disj k0 k av0 av' g h0 h1 h5 h2 ht0 h7 e hg (e2 ▸ hg')
  · rw [hsize]
    by_cases e : k0 = k
    · subst e
      rw [lS] at h1
      cases h1
      obtain ⟨g1, g2, g3⟩ := h.blk k0 av0 g' h0 h5 ht0 h4
      exact ⟨by rw [lcl_eq ht]; exact g1, g2, hnd g' g3⟩
    · rw [lN e] at h1
      exact h.blk k av' g' h1 h2 h3 h4
  · have conv : ∀ q (aq : AV), look ((k0, av) :: s) q = some aq → aq.t ≠ 7 → ∃ aq', look s q = some aq' ∧ aq'.t ≠ 7 := fun q aq h8 h9 => by
      by_cases e : k0 = q
      · exact ⟨av0, by rw [← e]; exact h0, ht0⟩
      · rw [lN e] at h8; exact ⟨aq, h8, h9⟩
    obtain ⟨a1, b1, c1⟩ := conv k av1 h1 h6
    obtain ⟨a2, b2, c2⟩ := conv k' av2 h2 h7
    exact h.disj k k' a1 a2 g' b1 b2 h3 h4 c1 c2 hne
  · rw [hsize]; exact h.dlt b o hd


theorem a_mkmap (nn : Nat) (hg : Gd w0 U0 nt ops o gs S) (hd : o.dst = some d) (hn : Nat.blt d nt = true) (h5 : Nat.blt d 100000 = true) {t : TypeId} (ho : o.op = .makeMap t none) (hn2 : (Nat.ble 200000 nn && Nat.blt nn 400000) = true) : AOp P w0 U0 nt ops o gs [(nn, [])] S [(d, .mref nn), (nn, .mp [])] := by
  intro s hs hN a w ⟨D, hv, h⟩ Q K hK
  rw [if_pos (hg s hs a w D hv h)]
  have hrn := rnB hn2
  have he : (execOp a.eval o).run P w = .ok (.value (.map (some w.heap.size))) (w.alloc (.map #[] 0)) := by
    simp [execOp, ho, Instr.makeMap, run_newObj_alloc]
  unfold Oper.wp
  rw [he, Oper.upon_value, hd]
  have hb' : Below w.heap.size w (w.alloc (.map #[] 0)) := (Below.refl _ _).alloc (Nat.le_refl _) _
  have hG := h.newrow (X := fun _ => False) (avn := .mp []) (v' := .map (some w.heap.size)) (D' := D) hrn (hN (nn, []) (by simp)).nr (by simp) ((BelowX.refl _ w).step hb') (fun b hb => hb.elim) (fun g hg => by
      have hg : some w.heap.size = some g := hg
      cases hg
      refine ⟨.inr (Nat.le_refl _), by simp, fun o _ hd => ?_⟩
      have := h.dlt _ _ hd
      omega) (fun b o hd => .inl hd) (fun b o hd => Nat.lt_of_lt_of_le (h.dlt _ _ hd) hb'.size) (us_keep h.dlt hb' fun _ _ h => h) (fun hv lv => ⟨w.heap.size, #[], 0, rfl, alloc_new _ _, rfl, by simp, by simp⟩)
  refine hK _ _ ⟨_, _, hG.put (bL hn) (bL h5) ⟨RW.rn hrn, ?_, rfl⟩⟩
  simp

def IntKeys (k : IntKind) (l : List CV) : Prop := ∀ r ∈ l, ∃ i c, r = .row [.sc (.int k i), c]
def lookR (k : IntKind) (i : Int) : List CV → Option CV
  | [] => none
  | ⟨_, _, [⟨_, .int k' j, _⟩, c]⟩ :: l => if k' = k ∧ j = i then some c else lookR k i l
  | _ :: l => lookR k i l
theorem lookR_row {k : IntKind} {i j : Int} {c : CV} {l : List CV} : lookR k i (.row [.sc (.int k j), c] :: l) = if j = i then some c else lookR k i l := by
  rw [lookR]; simp
theorem find_spec {U : Nat → Nat → Prop} {k : IntKind} {i : Int} : ∀ {l : List CV} {es : List MapEntry} (n : Nat), Ents U w l es → IntKeys k l →
    (Instr.findNow (.int k) (.int k i) es n = some none ∧ lookR k i l = none) ∨ ∃ j e c, Instr.findNow (.int k) (.int k i) es n = some (some (n + j, e.val)) ∧ es[j]? = some e ∧ l[j]? = some (.row [.sc (.int k i), c]) ∧ VRep U w c e.val ∧ e.key = .int k i ∧ lookR k i l = some c
  | [], es, n, h, _ => by have h : es = [] := h; subst h; exact .inl ⟨rfl, rfl⟩
  | r :: l, es, n, ⟨e, es', h1, ⟨k1, c1, g2, g3, g4, g5⟩, h3⟩, hk => by
    obtain ⟨j0, c0, e1⟩ := hk r (by simp)
    rw [e1] at g2
    injection g2 with _ _ g6
    injection g6 with g6 g7
    injection g7 with g7 _
    subst g7
    have hkey : e.key = .int k j0 := by rw [g4, ← g6]
    subst h1
    rw [e1, lookR_row]
    by_cases hj : j0 = i
    · subst hj
      right
      refine ⟨0, e, c0, ?_, rfl, rfl, g5, hkey, by rw [if_pos rfl]⟩
      simp [Instr.findNow, Instr.sameNow, hkey]
    · rw [if_neg hj]
      have hs : Instr.sameNow (.int k) (.int k i) e.key = some false := by
        rw [hkey]
        simp [Instr.sameNow]
        exact fun h => hj h.symm
      rcases find_spec (n + 1) h3 (fun x hx => hk x (List.mem_cons_of_mem _ hx)) with ⟨f1, f2⟩ | ⟨j, e', c, f1, f2, f3, f4, f5, f6⟩
      · left; exact ⟨by simp [Instr.findNow, hs, f1], f2⟩
      · right
        refine ⟨j + 1, e', c, ?_, by simpa using f2, by simpa using f3, f4, f5, f6⟩
        simp [Instr.findNow, hs, f1]
        omega

theorem aNc (hg : Gd w0 U0 nt ops o gs S) (hd : o.dst = some d) (hn : Nat.blt d nt = true) (h5 : Nat.blt d 100000 = true) {x : Operand} {n q : Nat} {p : List Nat} {c : CV} (ho : o.op = .nilCheck x) (hx : ev S x = some ⟨2, c, n, q, p⟩) : AOp P w0 U0 nt ops o (gs ++ rd x) [] S [(d, ⟨2, c, n, q, p⟩)] :=
  aop_val hg hd hn h5 (fun k hk => List.mem_append_left _ hk) fun s hs a w D hv hm => by
    obtain ⟨hbn, h1⟩ : BN n ∧ a.eval x = .pointer (some ⟨blkOf (hv (100000 + n)), q, none⟩) := ev_rep hm (fun k hk => hs k (List.mem_append_right _ hk)) hx
    refine ⟨.pointer (some ⟨blkOf (hv (100000 + n)), q, none⟩), ?_, hbn, rfl⟩
    generalize a.eval = ρ at h1 ⊢
    simp [execOp, ho, h1]

def putR (k : IntKind) (i : Int) (c : CV) : List CV → List CV
  | [] => [.row [.sc (.int k i), c]]
  | r :: l => match r with
    | ⟨_, _, [⟨_, .int k' j, _⟩, _]⟩ => if k' = k ∧ j = i then .row [.sc (.int k i), c] :: l else r :: putR k i c l
    | _ => r :: putR k i c l
theorem putR_row {k : IntKind} {i j : Int} {c c' : CV} {l : List CV} : putR k i c (.row [.sc (.int k j), c'] :: l) = if j = i then .row [.sc (.int k i), c] :: l else .row [.sc (.int k j), c'] :: putR k i c l := by
  rw [putR]; simp
theorem putR_spec {k : IntKind} {i : Int} (c : CV) : ∀ {l : List CV}, IntKeys k l → (lookR k i l = none → putR k i c l = l ++ [.row [.sc (.int k i), c]]) ∧ ∀ j c', l[j]? = some (.row [.sc (.int k i), c']) → (∀ j' c'', j' < j → l[j']? ≠ some (.row [.sc (.int k i), c''])) → putR k i c l = l.set j (.row [.sc (.int k i), c])
  | [], _ => ⟨fun _ => rfl, fun j c' h => by simp at h⟩
  | r :: l, hk => by
    obtain ⟨j0, c0, rfl⟩ := hk r (by simp)
    obtain ⟨ih1, ih2⟩ := putR_spec c (l := l) (fun x hx => hk x (List.mem_cons_of_mem _ hx))
    rw [putR_row, lookR_row]
    by_cases hj : j0 = i
    · subst hj
      rw [if_pos rfl, if_pos rfl]
      refine ⟨(fun h => by cases h), fun j c' h hf => ?_⟩
      cases j with
      | zero => rfl
      | succ j => exact absurd rfl (hf 0 c0 (by omega))
    · rw [if_neg hj, if_neg hj]
      refine ⟨fun h => by rw [ih1 h]; rfl, fun j c' h hf => ?_⟩
      cases j with
      | zero =>
        simp at h
        exact absurd h.1 hj
      | succ j =>
        rw [ih2 j c' (by simpa using h) fun j' c'' hlt => by have := hf (j' + 1) c'' (by omega); simpa using this]
        rfl
theorem find_first {U : Nat → Nat → Prop} {k : IntKind} {i : Int} : ∀ {l : List CV} {es : List MapEntry} (n : Nat) {j : Nat} {v : Value}, Ents U w l es → IntKeys k l → Instr.findNow (.int k) (.int k i) es n = some (some (n + j, v)) → ∀ j' c'', j' < j → l[j']? ≠ some (.row [.sc (.int k i), c''])
  | [], es, n, j, v, h, _, hf => by have h : es = [] := h; subst h; cases hf
  | r :: l, es, n, j, v, ⟨e, es', h1, ⟨k1, c1, g2, g3, g4, g5⟩, h3⟩, hk, hf => by
    obtain ⟨j0, c0, e1⟩ := hk r (by simp)
    rw [e1] at g2
    injection g2 with _ _ g6
    injection g6 with g6 g7
    have hkey : e.key = .int k j0 := by rw [g4, ← g6]
    subst h1
    intro j' c'' hlt hr
    by_cases hj : j0 = i
    · subst hj
      simp [Instr.findNow, Instr.sameNow, hkey] at hf
      omega
    · have hs : Instr.sameNow (.int k) (.int k i) e.key = some false := by
        rw [hkey]
        simp [Instr.sameNow]
        exact fun h => hj h.symm
      simp [Instr.findNow, hs] at hf
      cases j' with
      | zero =>
        rw [e1] at hr
        simp at hr
        exact hj hr.1
      | succ j' =>
        obtain ⟨j2, rfl⟩ : ∃ j2, j = j2 + 1 := ⟨j - 1, by omega⟩
        exact find_first (n + 1) (j := j2) h3 (fun x hx => hk x (List.mem_cons_of_mem _ hx)) (by rw [hf]; congr 3; omega) j' c'' (by omega) (by simpa using hr)
theorem ents_set {U : Nat → Nat → Prop} {r : CV} {e' : MapEntry} : ∀ {l : List CV} {es : List MapEntry} {j : Nat}, Ents U w l es → Ent U w r e' → Ents U w (l.set j r) (es.set j e')
  | [], es, j, h, _ => by have h : es = [] := h; subst h; exact rfl
  | x :: l, es, 0, ⟨e, es', h1, h2, h3⟩, hr => by rw [h1]; exact ⟨e', es', rfl, hr, h3⟩
  | x :: l, es, j + 1, ⟨e, es', h1, h2, h3⟩, hr => by rw [h1]; exact ⟨e, es'.set j e', rfl, h2, ents_set h3 hr⟩
theorem ents_snoc {U : Nat → Nat → Prop} {r : CV} {e' : MapEntry} : ∀ {l : List CV} {es : List MapEntry}, Ents U w l es → Ent U w r e' → Ents U w (l ++ [r]) (es ++ [e'])
  | [], es, h, hr => by have h : es = [] := h; subst h; exact ⟨e', [], rfl, hr, rfl⟩
  | x :: l, es, ⟨e, es', h1, h2, h3⟩, hr => by rw [h1]; exact ⟨e, es' ++ [e'], rfl, h2, ents_snoc h3 hr⟩

theorem a_mapup (hg : Gd w0 U0 nt ops o gs S) (hd : o.dst = none) {x y z : Operand} {t kt et : TypeId} {k : IntKind} {i : Int} {n : Nat} {l : List CV} {c : CV} {n' q' p' n2 q2 p2} (ho : o.op = .mapUpdate t x y z) (hu : P.underlying t = some (.map kt et)) (huk : P.underlying kt = some (.int k)) (hx : ev S x = some (.mref n)) (hy : ev S y = some ⟨0, .sc (.int k i), n', q', p'⟩) (hz : ev S z = some ⟨0, c, n2, q2, p2⟩) (hm' : S n = some (.mp l)) (hik : IntKeys k l) : AOp P w0 U0 nt ops o (gs ++ (rd x ++ (rd y ++ (rd z ++ [n])))) [] S [(n, .mp (putR k i c l))] := by
  intro s hs hN a w ⟨D, hv, h⟩ Q K hK
  rw [if_pos (hg s (fun k hk => hs k (List.mem_append_left _ hk)) a w D hv h)]
  have hm := (hs n (by simp)).trans hm'
  obtain ⟨hrn, h1, _⟩ : RN n ∧ a.eval x = hv n ∧ (a.eval x).oneCell' = true := ev_rep h (fun k hk => hs k (List.mem_append_right _ (List.mem_append_left _ hk))) hx
  have e2 := ev_sc h (fun k hk => hs k (List.mem_append_right _ (List.mem_append_right _ (List.mem_append_left _ hk)))) hy
  have e3 := ev_val h (fun k hk => hs k (List.mem_append_right _ (List.mem_append_right _ (List.mem_append_right _ (List.mem_append_left _ hk))))) hz
  have hok : oKey n := by unfold RN at hrn; unfold oKey; omega
  obtain ⟨g, es, clock, g1, g2, g3, g4, g5⟩ : ∃ g es clock, hv n = .map (some g) ∧ w.heap[g]? = some (.map es clock) ∧ Ents (Us w0 U0 D) w l es.toList ∧ (∀ e ∈ es, e.born < clock) ∧ (es.toList.map (fun e : MapEntry => e.born)).Nodup := h.obj n _ hm hok
  have hck := run_checkKey (P := P) (w := w) huk (k := .int k i) rfl false 9999
  have hge := Go.MapKept.run_getObj_map (P := P) g2
  obtain ⟨p1, p2'⟩ := putR_spec (i := i) c hik
  have fin : ∀ (es' : Array MapEntry) (clock' : Nat), (execOp a.eval o).run P w = .ok .skip { w with heap := w.heap.setIfInBounds g (.map es' clock') } → Ents (Us w0 U0 D) w (putR k i c l) es'.toList → (∀ e ∈ es', e.born < clock') → (es'.toList.map (fun e : MapEntry => e.born)).Nodup → o.wp P a w K Q := fun es' clock' he k1 k2 k3 => by
    obtain ⟨q1, q2⟩ := heap_set (o' := Obj.map es' clock') g2
    unfold Oper.wp
    rw [he, Oper.upon_skip, hd]
    refine hK _ _ ⟨_, _, h.upd (av := .mp (putR k i c l)) (g := g) hok hm (by simp) (by simp) rfl (fun g' hn o _ => hn o (by simp)) (by simp) (by rw [g1]; rfl) rfl rfl rfl (by simp) q2 fun hkp => ?_⟩
    exact ⟨g, es', clock', g1, q1, k1.keep hkp, k2, k3⟩
  rcases find_spec 0 g3 hik (i := i) with ⟨f1, f2⟩ | ⟨j, e, c', f1, f2, f3, f4, f5, f6⟩
  · have hfk := run_findKey (P := P) (w := w) huk f1
    refine fin (es.push { key := .int k i, val := a.eval z, born := clock }) (clock + 1) ?_ ?_ ?_ ?_
    · rw [g1] at h1
      have hso := run_setObj_map (P := P) (Obj.map (es.push { key := .int k i, val := a.eval z, born := clock }) (clock + 1)) g2
      generalize a.eval = ρ at h1 e2 hso ⊢
      simp [execOp, ho, Instr.mapUpdate, run_underlying hu, h1, e2, hge, hck, hfk, hso]
    · rw [p1 f2, Array.toList_push]
      exact ents_snoc g3 ⟨.sc (.int k i), c, rfl, rfl, rfl, e3⟩
    · intro e he
      rcases Array.mem_push.1 he with he | rfl
      · have := g4 e he; omega
      · exact Nat.lt_succ_self _
    · rw [Array.toList_push, List.map_append, List.nodup_append]
      refine ⟨g5, by simp, fun a1 h1 b1 h2 => ?_⟩
      simp at h1 h2
      obtain ⟨e, he, rfl⟩ := h1
      have := g4 e he
      omega
  · have hfk := run_findKey (P := P) (w := w) huk f1
    rw [Nat.zero_add] at hfk
    have hjl : j < es.size := by
      have := (List.getElem?_eq_some_iff.1 f2).1
      simpa using this
    have hej : es[j]? = some e := by rw [← Array.getElem?_toList]; exact f2
    have hmod : (es.modify j fun e => { e with key := .int k i, val := a.eval z }).toList = es.toList.set j { e with key := .int k i, val := a.eval z } := by
      rw [Array.toList_modify]
      apply List.ext_getElem?
      intro q
      rw [List.getElem?_modify, List.getElem?_set]
      by_cases hq : j = q
      · subst hq
        have : es[j] = e := (Array.getElem?_eq_some_iff.1 hej).2
        simp [hjl, this]
      · simp [hq]
    have hbr : (es.modify j fun e => { e with key := .int k i, val := a.eval z }).toList.map (fun e : MapEntry => e.born) = es.toList.map (fun e : MapEntry => e.born) := by
      rw [hmod, List.map_set]
      apply List.ext_getElem?
      intro q
      rw [List.getElem?_set]
      by_cases hq : j = q
      · subst hq
        rw [if_pos rfl, if_pos (by simpa using hjl), List.getElem?_map, f2]
        rfl
      · rw [if_neg hq]
    refine fin (es.modify j fun e => { e with key := .int k i, val := a.eval z }) clock ?_ ?_ ?_ ?_
    · rw [g1] at h1
      have hso := run_setObj_map (P := P) (Obj.map (es.modify j fun e => { e with key := .int k i, val := a.eval z }) clock) g2
      have hst : (Instr.keyThatStays (.int k i) (.int k i)).run P w = .ok (.int k i) w := by simp [Instr.keyThatStays, Instr.sameBits]
      generalize a.eval = ρ at h1 e2 hso ⊢
      simp [execOp, ho, Instr.mapUpdate, run_underlying hu, h1, e2, hge, hck, hfk, hej, f5, hst, hso]
    · rw [hmod, p2' j c' f3 (find_first 0 (j := j) g3 hik f1)]
      exact ents_set g3 ⟨.sc (.int k i), c, rfl, rfl, rfl, e3⟩
    · intro e' he
      have h6 : e'.born ∈ (es.modify j fun e => { e with key := .int k i, val := a.eval z }).toList.map (fun e : MapEntry => e.born) := List.mem_map.2 ⟨e', Array.mem_toList_iff.2 he, rfl⟩
      rw [hbr] at h6
      obtain ⟨e4, h7, h8⟩ := List.mem_map.1 h6
      rw [← h8]
      exact g4 e4 (by simpa using h7)
    · rw [hbr]; exact g5
end
end Go.Proofs.Ytekboofbedakcaa
namespace Go.Proofs.Ytekboofbedakcaa
open Go.RowKit
set_option linter.unusedVariables false
set_option linter.unusedSimpArgs false
section
variable {P : Program} {w0 : World} {U0 : UX} {nt : Nat} {ops : Array Oper} {o : Oper} {S : Nat → Option AV} {gs : List Nat} {d : Nat} {s : AS} {a : Act} {w : World} {D : Nat → Nat → Prop} {hv : Nat → Value}
theorem load_full (hm : SimG w0 U0 nt s a w D hv) {x : Operand} {ty e : TypeId} {l : List CV} {n q : Nat} (ho : o.op = .load ty x) (hu : P.underlying ty = some (.slice e)) (hx : BN n ∧ a.eval x = .pointer (some ⟨blkOf (hv (100000 + n)), q, none⟩)) (hb : look s (100000 + n) = some .obj) {n3 q3 p3} (hf : look s (fKey n q) = some ⟨18, .lst l, n3, q3, p3⟩) (hq : q < 100) : ∃ v, (execOp a.eval o).run P w = .ok (.value v) w ∧ VRep (Us w0 U0 D) w (.lst l) v ∧ ∃ ao n, v = .slice ao n n := by
  obtain ⟨hbn, h1⟩ := hx
  obtain ⟨v, g1, g2, g3⟩ := hm.fld n q _ hf hq hb hbn
  have g1 : VRep (Us w0 U0 D) w (.lst l) v ∧ ∃ ao n, v = .slice ao n n := g1
  obtain ⟨g4, ao, k, rfl⟩ := g1
  refine ⟨_, ?_, g4, ao, k, rfl⟩
  have := g3 0 (by simp [Value.cells])
  simp only [Nat.add_zero, Value.cells] at this
  have hl : (loadVar ty ⟨blkOf (hv (100000 + n)), q, none⟩).run P w = .ok (.slice ao k k) w := by
    simp [loadVar, run_isAgg hu, aggB, run_load, this]
  generalize a.eval = ρ at h1 ⊢
  simp [execOp, ho, Instr.loadAt, Instr.sureAddr, h1, hl]
theorem a_load_full (hg : Gd w0 U0 nt ops o gs S) (hd : o.dst = some d) (hn : Nat.blt d nt = true) (h5 : Nat.blt d 100000 = true) {x : Operand} {ty e : TypeId} {n q : Nat} {p : List Nat} {k' v' l'} {l : List CV} (ho : o.op = .load ty x) (hu : P.underlying ty = some (.slice e)) (hx : ev S x = some ⟨2, ⟨k', v', l'⟩, n, q, p⟩) (hb : S (100000 + n) = some .obj) {n3 q3 p3} (hf : S (fKey n q) = some ⟨18, .lst l, n3, q3, p3⟩) (hq : Nat.blt q 100 = true) : AOp P w0 U0 nt ops o (gs ++ (rd x ++ [100000 + n, fKey n q])) [] S [(d, .full (.lst l))] :=
  aop_val hg hd hn h5 (fun k hk => List.mem_append_left _ hk) fun s hs a w D hv hm => by
    obtain ⟨v, h1, h2, h3⟩ := load_full (P := P) hm ho hu (ev_rep hm (fun k hk => hs k (List.mem_append_right _ (List.mem_append_left _ hk))) hx) ((hs (100000 + n) (by simp)).trans hb) ((hs (fKey n q) (by simp)).trans hf) (bL hq)
    exact ⟨v, h1, h2, h3⟩
theorem a_load_fullv (hg : Gd w0 U0 nt ops o gs S) (hd : o.dst = some d) (hn : Nat.blt d nt = true) (h5 : Nat.blt d 100000 = true) {x : Operand} {ty e : TypeId} {n q : Nat} {p : List Nat} {k' v' l'} {l : List CV} (ho : o.op = .load ty x) (hu : P.underlying ty = some (.slice e)) (hx : ev S x = some ⟨2, ⟨k', v', l'⟩, n, q, p⟩) (hb : S (100000 + n) = some .obj) {n3 q3 p3} (hf : S (fKey n q) = some ⟨18, .lst l, n3, q3, p3⟩) (hq : Nat.blt q 100 = true) : AOp P w0 U0 nt ops o (gs ++ (rd x ++ [100000 + n, fKey n q])) [] S [(d, .val (.lst l))] :=
  aop_val hg hd hn h5 (fun k hk => List.mem_append_left _ hk) fun s hs a w D hv hm => by
    obtain ⟨v, h1, h2, h3⟩ := load_full (P := P) hm ho hu (ev_rep hm (fun k hk => hs k (List.mem_append_right _ (List.mem_append_left _ hk))) hx) ((hs (100000 + n) (by simp)).trans hb) ((hs (fKey n q) (by simp)).trans hf) (bL hq)
    exact ⟨v, h1, avrep_val h2⟩

theorem run_eqmap {t k e : TypeId} (hu : P.underlying t = some (.map k e)) (w : World) : (Op.equal t (.map none) (.map none)).run P w = .ok true w := by
  unfold Op.equal
  rw [show Op.maxDepth = 9999 + 1 from rfl, Op.equalIn]
  simp [run_underlying hu]
theorem a_mnil (hg : Gd w0 U0 nt ops o gs S) (hd : o.dst = some d) (hn : Nat.blt d nt = true) (h5 : Nat.blt d 100000 = true) {x : Operand} {t1 t2 e k : TypeId} {n q p} (ho : o.op = .binOp .eql t1 x (.const (.map none)) t2) (hu : P.underlying t1 = some (.map k e)) (hx : ev S x = some ⟨0, .sc (.map none), n, q, p⟩) : AOp P w0 U0 nt ops o (gs ++ rd x) [] S [(d, .val (.b true))] :=
  aop_val hg hd hn h5 (fun k hk => List.mem_append_left _ hk) fun s hs a w D hv hm => by
    have h1 := ev_sc hm (fun k hk => hs k (List.mem_append_right _ hk)) hx
    have hb := run_eqmap (P := P) hu w
    have hc : a.eval (.const (.map none)) = .map none := rfl
    refine ⟨.bool true, ?_, avrep_sc rfl⟩
    generalize a.eval = ρ at h1 hc ⊢
    simp [execOp, ho, h1, hc, eqGuard, binOp, hb]
theorem a_mnot (hg : Gd w0 U0 nt ops o gs S) (hd : o.dst = some d) (hn : Nat.blt d nt = true) (h5 : Nat.blt d 100000 = true) {x : Operand} {t1 t2 e k : TypeId} {n q p} (ho : o.op = .binOp .neq t1 x (.const (.map none)) t2) (hu : P.underlying t1 = some (.map k e)) (hx : ev S x = some ⟨0, .sc (.map none), n, q, p⟩) : AOp P w0 U0 nt ops o (gs ++ rd x) [] S [(d, .val (.b false))] :=
  aop_val hg hd hn h5 (fun k hk => List.mem_append_left _ hk) fun s hs a w D hv hm => by
    have h1 := ev_sc hm (fun k hk => hs k (List.mem_append_right _ hk)) hx
    have hb := run_eqmap (P := P) hu w
    have hc : a.eval (.const (.map none)) = .map none := rfl
    refine ⟨.bool false, ?_, avrep_sc rfl⟩
    generalize a.eval = ρ at h1 hc ⊢
    simp [execOp, ho, h1, hc, eqGuard, binOp, hb]

theorem run_appF {t ty e : TypeId} {z : Value} {size bytes : Nat} (ht : P.underlying t = some (.slice e)) (hi : (P.info? e).map (fun i => (i.zero, i.size, i.bytes)) = some (some z, size, bytes)) (hzs : z.cells.size = size) (hsz : 0 < size)
    {ao1 : Option Addr} {n : Nat} {xs : List Value} {U : Nat → Nat → Prop} (hnil1 : ao1 = none → n = 0) (hb1 : At U w ao1 xs) (hl1 : xs.length = n * size) {ao : Option Addr} {m c : Nat} {ys : List Value} (hnil : ao = none → m = 0) (hb : At U w ao ys) (hl : ys.length = m * size) (h1 : ∀ u ∈ ys, u.oneCell' = true) (hm : 0 < m) (h63 : n + m ≤ maxLen) (hbytes : (n + m) * bytes ≤ 140737488355328) :
    ∃ v' w', Sem.run P (Builtin.append_ #[t, t] ty #[.slice ao1 n n, .slice ao m c]) w = .ok v' w' ∧ w'.ownsRow w.heap.size e size v' (n + m) (xs ++ ys) ∧ w.grownBy w' none := by
  obtain ⟨i, hi1, hi2, hi3, hi4⟩ := info_parts hi
  have hat : ∀ {ad : Addr} {zs : List Value}, At U w (some ad) zs → ∀ j u, zs[j]? = some u → w.cell? (ad.add j) = some u := fun {ad zs} hA j u hj => by
    have hjl : j < zs.length := by
      rcases Nat.lt_or_ge j zs.length with h | h
      · exact h
      · rw [List.getElem?_eq_none h] at hj; cases hj
    rcases hA with rfl | ⟨b, off, ha, hc⟩
    · simp at hjl
    · cases ha
      rw [add_at, (hc j hjl).2, hj]
  cases ao with
  | none => have := hnil rfl; omega
  | some ad =>
    cases ao1 with
    | none =>
      have hn := hnil1 rfl
      subst hn
      have : xs = [] := List.eq_nil_of_length_eq_zero (by simpa using hl1)
      subst this
      obtain ⟨v', w', hr, ho, hg, _⟩ := run_append_own (P := P) w w.heap.size t ty e i z size bytes ht hi1 hi2 hi3 hi4 hzs hsz (.slice none 0 0) 0 [] (World.ownsRow_nil _ _ _ _) ad m c ys hl (hat hb) h1 h63 hbytes (Nat.le_refl _)
      exact ⟨v', w', hr, ho, hg⟩
    | some ad1 => exact run_append_arg_grows (P := P) w t ty e i z size bytes ht hi1 hi2 hi3 hi4 hzs hsz ad1 n n xs hl1 (hat hb1) ad m c ys hl (hat hb) (by omega) h63 hbytes

theorem a_appF (nn : Nat) (hg : Gd w0 U0 nt ops o gs S) (hd : o.dst = some d) (hn : Nat.blt d nt = true) (h5 : Nat.blt d 100000 = true) {x y : Operand} {t e size bytes : Nat} {z : Value} {l l2 : List CV} {n2 q2 p2} (ho : o.op = .call { callee := .builtin .append, args := #[x, y], argTypes := #[t, t] }) (ht : P.underlying t = some (.slice e)) (hi : (P.info? e).map (fun i => (i.zero, i.size, i.bytes)) = some (some z, size, bytes)) (hzs : Nat.beq z.cells.size size = true) (hsz : Nat.blt 0 size = true) (hbt : Nat.ble bytes 1000 = true)
    (hx : ev S x = some (.full (.lst l))) (hy : ev S y = some ⟨0, .lst l2, n2, q2, p2⟩) (hn2 : (Nat.ble 200000 nn && Nat.blt nn 400000) = true) (hpos : Nat.blt 0 l2.length = true) (hl : ∀ c ∈ l, c.size = size) (hl2 : ∀ c ∈ l2, c.size = size) (hbd : l.length + l2.length ≤ 100000000000) :
    AOp P w0 U0 nt ops o (gs ++ (rd x ++ rd y)) [(nn, [])] S [(d, .sl nn 0 (l.length + l2.length) size), (nn, .mrow e size (l ++ l2))] := by
  intro s hs hN a w ⟨D, hv, h⟩ Q K hK
  rw [if_pos (hg s (fun k hk => hs k (List.mem_append_left _ hk)) a w D hv h)]
  obtain ⟨h1, ao, n, hvx⟩ : VRep (Us w0 U0 D) w (.lst l) (a.eval x) ∧ ∃ ao n, a.eval x = .slice ao n n := ev_rep h (fun k hk => hs k (List.mem_append_right _ (List.mem_append_left _ hk))) hx
  have h3 := ev_val h (fun k hk => hs k (List.mem_append_right _ (List.mem_append_right _ hk))) hy
  rw [hvx] at h1
  obtain ⟨ao', n', cap, e1, e2, e3, e4, e5, ys, e6, e7⟩ := vrep_lst.1 h1
  injection e1 with f1 f2 f3
  subst f1; subst f2; subst f3
  obtain ⟨ao2, m, c2, g1, g2, g3, g4, g6, ys2, g7, g8⟩ := vrep_lst.1 h3
  have hyl : ys.length = n * size := by rw [sq_len (n := CV.size) (fun c _ xs h => h.len) e7, sum_const hl, e2]
  have hyl2 : ys2.length = m * size := by rw [sq_len (n := CV.size) (fun c _ xs h => h.len) g8, sum_const hl2, g2]
  have hbt := Nat.le_of_ble_eq_true hbt
  have hsz := bL hsz
  have hpos := bL hpos
  have hmul : (n + m) * bytes ≤ 100000000000 * 1000 := Nat.mul_le_mul (by omega) hbt
  obtain ⟨v', w', r1, r2, r3⟩ := run_appF (P := P) (ty := o.type) ht hi (Nat.eq_of_beq_eq_true hzs) hsz (fun h => (e5 h).1) e6 hyl (fun h => (g6 h).1) g7 hyl2 (c := c2) (rep_one_of g8) (by omega) (by unfold maxLen; omega) (by omega)
  have hrn2 := rnB hn2
  have hb2 : hb v' = v'.ownBlock := by
    rcases r2.2 with ⟨rfl, _⟩ | ⟨g, cap, cur, rfl, _⟩ <;> rfl
  have hkp : ∀ b o u, Us w0 U0 D b o → w.cell? ⟨b, o, none⟩ = some u → Us w0 U0 D b o ∧ w'.cell? ⟨b, o, none⟩ = some u := fun b o u hu hc => by
    refine ⟨hu, ?_⟩
    have hlt : b < w.heap.size := World.block_lt_of_cell? w _ hc
    rw [World.cell?_of_block (w := w) (r3.block b hlt (by simp))]
    exact hc
  have hG := h.newrow (avn := .mrow e size (l ++ l2)) (v' := v') (D' := D) (X := fun _ => False) (n := nn) hrn2 (hN (nn, []) (by simp)).nr (by simp) ⟨r3.os, r3.tape, r3.output, r3.size, fun b hb hx => r3.block b hb (by simp)⟩ (fun b hb => hb.elim) (fun g hg => by
      rw [hb2] at hg
      refine ⟨.inr (r2.lt g hg).1, (r2.lt g hg).2, fun o _ hd => ?_⟩
      have := (r2.lt g hg).1
      have := h.dlt _ _ hd
      omega) (fun b o hd => .inl hd) (fun b o hd => Nat.lt_of_lt_of_le (h.dlt _ _ hd) r3.size) hkp (fun hv lv => by
      refine ⟨ys ++ ys2, ?_, hsz, fun c hc => ?_, ?_⟩
      · show w'.ownsRow 0 e size v' (l ++ l2).length (ys ++ ys2)
        rw [List.length_append, ← e2, ← g2]
        exact ownsRow_mono r2 (Nat.zero_le _)
      · rcases List.mem_append.1 hc with hc | hc
        · exact hl c hc
        · exact hl2 c hc
      · show Sq ((l ++ l2).map _) _
        rw [List.map_append]
        exact sq_append (Sq.keep hkp e7) (Sq.keep hkp g8))
  have he : (execOp a.eval o).run P w = .ok (.value v') w' := by
    generalize a.eval = ρ at hvx g1 ⊢
    simp [execOp, ho, resolve, invoke, builtin, hvx, g1, r1, Result.andThen]
  unfold Oper.wp
  rw [he, Oper.upon_value, hd]
  refine hK _ _ ⟨_, _, hG.put (bL hn) (bL h5) ?_⟩
  refine ⟨RW.rn hrn2, ?_⟩
  obtain ⟨a1, c1, k1, k2, k3⟩ := own_addr (ownsRow_mono r2 (Nat.zero_le _))
  have := slV_all (z := size) k1 k2 k3
  show SlV ((fun x => if x = nn then v' else hv x) nn) 0 (l.length + l2.length) size v'
  simp only [if_true]
  rw [← e2, ← g2]
  exact this

theorem made_flat (z : List Value) (hz : 0 < z.length) (n : Nat) : (madeCells z.toArray (n * z.length)).toList = (List.replicate n z).flatten := by
  apply List.ext_getElem?
  intro k
  rw [flat_const hz _ (fun v hv => by rw [List.eq_of_mem_replicate hv])]
  have hlen : (madeCells z.toArray (n * z.length)).toList.length = n * z.length := by simp [size_madeCells]
  rcases Nat.lt_or_ge k (n * z.length) with h | h
  · have hd : k / z.length < n := by rw [Nat.div_lt_iff_lt_mul hz]; exact h
    have hm : k % z.length < z.length := Nat.mod_lt _ hz
    rw [List.getElem?_replicate, if_pos hd]
    simp only [Option.bind_some]
    rw [List.getElem?_eq_getElem hm]
    simp [madeCells, h, hm]
  · rw [List.getElem?_eq_none (by omega), List.getElem?_replicate, if_neg]
    · rfl
    · rw [Nat.not_lt, Nat.le_div_iff_mul_le hz]; exact h

theorem a_mkM (nn : Nat) (hg : Gd w0 U0 nt ops o gs S) (hd : o.dst = some d) (hn : Nat.blt d nt = true) (h5 : Nat.blt d 100000 = true) {x y : Operand} {t e size bytes k : Nat} {z : Value} {zc : CV} {i1 i2 : Int} {k1 k2 : IntKind} {n1 q1 p1 n2 q2 p2} (ho : o.op = .makeSlice t x y) (ht : P.underlying t = some (.slice e)) (hi : (P.info? e).map (fun i => (i.zero, i.size, i.bytes)) = some (some z, size, bytes)) (hzc : zeroT P e = some zc) (hzs : Nat.beq z.cells.size size = true) (hzz : zc.size = size) (hsz : Nat.blt 0 size = true) (hbt : Nat.ble bytes 1000 = true)
    (hx : ev S x = some ⟨0, .sc (.int k1 i1), n1, q1, p1⟩) (hy : ev S y = some ⟨0, .sc (.int k2 i2), n2, q2, p2⟩) (hn2 : (Nat.ble 200000 nn && Nat.blt nn 400000) = true) (h1 : i1 = (k : Int)) (h2 : i2 = (k : Int)) (hs1 : Nat.ble size 160 = true) (hbd : k ≤ 100000) :
    AOp P w0 U0 nt ops o (gs ++ (rd x ++ rd y)) [(nn, [])] S [(d, .sl nn 0 k size), (nn, .mrow e size (List.replicate k zc))] := by
  intro s hs hN a w ⟨D, hv, h⟩ Q K hK
  rw [if_pos (hg s (fun k hk => hs k (List.mem_append_left _ hk)) a w D hv h)]
  have e1 := ev_sc h (fun k hk => hs k (List.mem_append_right _ (List.mem_append_left _ hk))) hx
  have e2 := ev_sc h (fun k hk => hs k (List.mem_append_right _ (List.mem_append_right _ hk))) hy
  subst h1
  subst h2
  obtain ⟨i, hi1, hi2, hi3, hi4⟩ := info_parts hi
  have hsz := bL hsz
  have hbt := Nat.le_of_ble_eq_true hbt
  have hzs := Nat.eq_of_beq_eq_true hzs
  have hmul : bytes * k ≤ 1000 * 100000 := Nat.mul_le_mul hbt hbd
  have hk : k * size ≤ 100000 * 160 := Nat.mul_le_mul hbd (Nat.le_of_ble_eq_true hs1)
  obtain ⟨w', r1, r2, r3⟩ := run_makeSlice_full (P := P) (w := w) w.heap.size t e i z size ht hi1 hi2 hi3 k1 k2 k (by omega) (by rw [hi4]; omega) (by unfold maxLen; omega) (Nat.le_refl _)
  have hrn2 := rnB hn2
  obtain ⟨it, z', f1, f2, f3⟩ := zeroT_spec hzc
  rw [hi1] at f1
  cases f1
  rw [hi2] at f2
  cases f2
  have hmf : (madeCells z.cells (k * size)).toList = (List.replicate k z.cells.toList).flatten := by
    have := made_flat z.cells.toList (by simpa [hzs] using hsz) k
    simpa [hzs] using this
  rw [hmf] at r2
  have hkp : ∀ b o u, Us w0 U0 D b o → w.cell? ⟨b, o, none⟩ = some u → Us w0 U0 D b o ∧ w'.cell? ⟨b, o, none⟩ = some u := fun b o u hu hc => by
    refine ⟨hu, ?_⟩
    have hlt : b < w.heap.size := World.block_lt_of_cell? w _ hc
    rw [World.cell?_of_block (w := w) (r3.block b hlt (by simp))]
    exact hc
  have hG := h.newrow (avn := .mrow e size (List.replicate k zc)) (v' := .slice (some ⟨w.heap.size, 0, none⟩) k k) (D' := D) (X := fun _ => False) (n := nn) hrn2 (hN (nn, []) (by simp)).nr (by simp) ⟨r3.os, r3.tape, r3.output, r3.size, fun b hb hx => r3.block b hb (by simp)⟩ (fun b hb => hb.elim) (fun g hg => by
      have hg : (Value.slice (some ⟨w.heap.size, 0, none⟩) k k).ownBlock = some g := hg
      refine ⟨.inr (r2.lt g hg).1, (r2.lt g hg).2, fun o _ hd => ?_⟩
      have := (r2.lt g hg).1
      have := h.dlt _ _ hd
      omega) (fun b o hd => .inl hd) (fun b o hd => Nat.lt_of_lt_of_le (h.dlt _ _ hd) r3.size) hkp (fun hv lv => by
      refine ⟨(List.replicate k z.cells.toList).flatten, ?_, hsz, fun c hc => ?_, sq_repl (f3 _ _) k⟩
      · show w'.ownsRow 0 e size _ (List.replicate k zc).length _
        rw [List.length_replicate]
        exact ownsRow_mono r2 (Nat.zero_le _)
      · rw [List.eq_of_mem_replicate hc]; exact hzz)
  have he : (execOp a.eval o).run P w = .ok (.value (.slice (some ⟨w.heap.size, 0, none⟩) k k)) w' := by
    generalize a.eval = ρ at e1 e2 ⊢
    simp [execOp, ho, e1, e2, r1]
  unfold Oper.wp
  rw [he, Oper.upon_value, hd]
  refine hK _ _ ⟨_, _, hG.put (bL hn) (bL h5) ⟨RW.rn hrn2, ?_⟩⟩
  show SlV ((fun x => if x = nn then Value.slice (some ⟨w.heap.size, 0, none⟩) k k else hv x) nn) 0 k size _
  simp only [if_true]
  exact slV_all rfl (Nat.le_refl _) (.inr ⟨_, rfl⟩)
end
section
variable {P : Program} {w0 : World} {U0 : UX} {nt : Nat} {ops : Array Oper} {o : Oper} {S : Nat → Option AV} {gs : List Nat} {d : Nat} {s : AS} {a : Act} {w : World} {D : Nat → Nat → Prop} {hv : Nat → Value}
end
section
variable {P : Program} {w0 : World} {U0 : UX} {nt : Nat} {ops : Array Oper} {o : Oper} {S : Nat → Option AV} {gs : List Nat} {d : Nat} {s : AS} {a : Act} {w : World} {D : Nat → Nat → Prop} {hv : Nat → Value}

theorem AWp.handle {c : Code} {Q : Exit → AS → Prop} (d n : Nat) {e z : Nat} {l : List CV} (hd : Nat.blt d nt = true) (h5 : Nat.blt d 100000 = true) (hm : look s n = some (.mrow e z l)) (hn : (Nat.ble 200000 n && Nat.blt n 450000) = true) (h : ∀ ao cap, l.length ≤ cap → (ao = none → l.length = 0 ∧ cap = 0) → AWp P w0 U0 nt c Q ((d, .hdl (.slice ao l.length cap) n) :: s)) : AWp P w0 U0 nt c Q s := by
  intro M a w ⟨D, hv, hs⟩
  have hrn : RN n := rnF hn
  obtain ⟨xs, f1, _⟩ := hs.mrow hm hrn
  obtain ⟨ao, cap, e1, e2, _⟩ := own_slice f1
  have hdn : d < a.tmps.size := by rw [hs.size]; exact bL hd
  have e3 : ao = none → l.length = 0 ∧ cap = 0 := fun e => by
    rcases f1.2 with ⟨b1, b2⟩ | ⟨g, cap', cur, b1, _⟩
    · rw [e1] at b1; injection b1 with _ _ i3; exact ⟨b2, i3⟩
    · rw [e1, e] at b1; cases b1
  exact h ao cap e2 e3 M a w ⟨D, hv, hs.know (bL h5) (Array.getElem?_eq_getElem hdn) ⟨hrn, e1⟩⟩

theorem SimG.forget (h : SimG w0 U0 nt s a w D hv) {d : Nat} (h5 : d < 100000) (hd : d < nt) : SimG w0 U0 nt ((d, .no) :: s) a w D hv := by
  have hdn : d < a.tmps.size := by rw [h.size]; exact hd
  exact h.know h5 (Array.getElem?_eq_getElem hdn) trivial
def noL (ds : List Nat) : AS := ds.map fun d => (d, AV.no)
theorem SimG.forgets : ∀ {ds : List Nat}, SimG w0 U0 nt s a w D hv → (∀ d ∈ ds, d < 100000 ∧ d < nt) → SimG w0 U0 nt (noL ds ++ s) a w D hv
  | [], h, _ => h
  | d :: ds, h, hd => (SimG.forgets h fun x hx => hd x (List.mem_cons_of_mem _ hx)).forget (hd d (by simp)).1 (hd d (by simp)).2
theorem look_noL : ∀ {ds : List Nat} {k : Nat} {av : AV}, look (noL ds ++ s) k = some av → (k ∈ ds ∧ av = .no) ∨ (hasN ds k = false ∧ look s k = some av)
  | [], k, av, h => .inr ⟨rfl, h⟩
  | d :: ds, k, av, h => by
    have h : look ((d, AV.no) :: (noL ds ++ s)) k = some av := h
    rw [look_cons] at h
    split at h
    · rename_i e; cases h; exact .inl ⟨by rw [e]; simp, rfl⟩
    · rename_i e
      rcases look_noL h with ⟨h1, h2⟩ | ⟨h1, h2⟩
      · exact .inl ⟨List.mem_cons_of_mem _ h1, h2⟩
      · refine .inr ⟨?_, h2⟩
        show (Nat.beq d k || hasN ds k) = false
        rw [h1, Bool.or_false]
        cases e2 : Nat.beq d k with
        | false => rfl
        | true => exact absurd (Nat.eq_of_beq_eq_true e2) e
theorem a_callOD (ds : List Nat) {f : FuncId} {xs : Array Operand} {ts : Array TypeId} {avs : List AV} {r : AV} {pre post : AS} (hg : Gd w0 U0 nt ops o gs S) (hd : o.dst = some d) (hn : Nat.blt d nt = true) (h5 : Nat.blt d 100000 = true)
    (ho : o.op = .call { callee := .value (.func f), args := xs, argTypes := ts }) (hx : evsA S xs.toList = some avs) (hc : AFunO P f pre avs r post) (hp : SubS S pre) (hl : pre.all lendB = true) (hq : post.all (leaveB (kO post)) = true) (hks : (kO pre).all (hasN (kO post)) = true) (hr : refB (kO post) r = true) (hnb : ∀ k v, U0.f k = some v → hasN (kO post) k = true → hasN (kO pre) k = true) (hds : (ds.all fun x => Nat.blt x nt && Nat.blt x 100000) = true) (hpk : (kO pre).all (Nat.ble 100000) = true) (hnm : ((newN (kO pre) (kO post) (kO post)).all fun q => !Nat.beq q.1 0 && (!Nat.beq q.1 100000 && !Nat.beq q.1 1100000)) = true) :
    AOp P w0 U0 nt ops o (gs ++ (rdl xs.toList ++ kO pre)) ((newN (kO pre) (kO post) (kO post)).map fun q => (q.1, ds ++ q.2)) S ((d, r) :: (post ++ noL ds)) := by
  intro s hs hN a w ⟨D, hv, h⟩ Q K hK
  rw [if_pos (hg s (fun k hk => hs k (List.mem_append_left _ hk)) a w D hv h)]
  have hargs := evsA_rep h (fun k hk => hs k (List.mem_append_right _ (List.mem_append_left _ hk))) hx
  have hsub : Sub s pre := fun k av h1 => (hs k (List.mem_append_right _ (List.mem_append_right _ (mem_keys h1)))).trans (hp.look h1)
  obtain ⟨V, v1, v2, v3, v4, v5, v6⟩ := h.lend hsub hl
  obtain ⟨h1, h2⟩ := hc
  have hcall := h2 V w hv ⟨#[], []⟩ _ v1 v2 (hargs.imp fun c _ v hcv => hcv.move v6 (fun _ h3 => h3.imp id fun ⟨e, he⟩ => ⟨e, hsub _ _ he.1, he.2⟩) fun _ => rfl)
  have he : (execOp a.eval o).run P w = .ok (.enter f (xs.toList.map a.eval).toArray) w := by
    have hf : a.eval (.func f) = .func (.func f) #[] #[] := rfl
    have hen := h1 (xs.map a.eval) w
    have harr : (xs.toList.map a.eval).toArray = xs.map a.eval := by apply Array.ext'; simp
    rw [harr]
    generalize a.eval = ρ at hf hen ⊢
    simp [execOp, ho, resolve, invoke, Deferred.ofValue, hf, hen]
  rw [List.all_eq_true] at hds hpk hnm
  have hdl : ∀ x ∈ ds, x < 100000 ∧ x < nt := fun x hx => by
    have := hds x hx
    rw [Bool.and_eq_true] at this
    exact ⟨bL this.2, bL this.1⟩
  have h' := h.forgets hdl
  have hsub' : Sub (noL ds ++ s) pre := fun k av h3 => by
    have hk := Nat.le_of_ble_eq_true (hpk k (mem_keys h3))
    have h4 := hsub k av h3
    rw [look_append]
    cases e : look (noL ds) k with
    | none => exact h4
    | some y =>
      have h9 : look (noL ds ++ []) k = some y := by rw [List.append_nil]; exact e
      rcases look_noL h9 with ⟨h6, _⟩ | ⟨_, h6⟩
      · have := (hdl k h6).1; omega
      · cases h6
  have hN' : ∀ q ∈ newN (kO pre) (kO post) (kO post), NoRefE (noL ds ++ s) q := fun q hq k av h3 h4 => by
    have h6 := hnm q hq
    simp only [Bool.and_eq_true, Bool.not_eq_true'] at h6
    have hne : ∀ {x : Nat}, Nat.beq q.1 x = false → x ≠ q.1 := fun {x} hx e => by rw [← e, Nat.beq_refl] at hx; cases hx
    rcases look_noL h3 with ⟨h7, rfl⟩ | ⟨h7, h8⟩
    · have hk := (hdl k h7).1
      have hfn : fnm k = 100000 := by unfold fnm; rw [ble_no (by omega : k < 500000)]
      rw [hfn]
      exact ⟨hne h6.1, hne h6.2.1, hne h6.2.2⟩
    · refine hN (q.1, ds ++ q.2) (List.mem_map.2 ⟨q, hq, rfl⟩) k av h8 ?_
      show hasN (ds ++ q.2) k = false
      unfold hasN at h7 h4 ⊢
      rw [List.any_append, h7, h4]
      rfl
  unfold Oper.wp
  rw [he, Oper.upon_enter]
  refine hcall.mono ?_
  rintro e w' ⟨v, D', hv', a', rfl, h6, h7⟩
  rw [hd]
  obtain ⟨D2, hv2, h8, h9⟩ := h'.back hsub' hl hq hks hN' hnb v3 v4 v5 v2 h6
  have hfin := h8.put (d := d) (bL hn) (bL h5) (h9.1 r v hr h7)
  refine hK _ _ ⟨D2, hv2, ?_⟩
  show SimG w0 U0 nt ((d, r) :: ((post ++ noL ds) ++ s)) _ _ _ _
  rw [List.append_assoc]
  exact hfin
theorem a_appR (yy dh dh2 : Nat) (hg : Gd w0 U0 nt ops o gs S) (hd : o.dst = some d) (hn : Nat.blt d nt = true) (h5 : Nat.blt d 100000 = true) {x y : Operand} {t e size bytes : Nat} {z : Value} {l l2 : List CV} {n len cap n2 q2 p2} {ao : Option Addr} (ho : o.op = .call { callee := .builtin .append, args := #[x, y], argTypes := #[t, t] }) (ht : P.underlying t = some (.slice e)) (hi : (P.info? e).map (fun i => (i.zero, i.size, i.bytes)) = some (some z, size, bytes))
    (hx : ev S x = some (.sl n 0 len size)) (hy : ev S y = some ⟨0, .lst l2, n2, q2, p2⟩) (hlv : S n = some (.mrow e size l)) (hdh : S dh = some (.hdl (.slice ao l.length cap) n)) (hyb : (Nat.ble 300000 yy && Nat.blt yy 450000) = true) (hdb : (Nat.blt dh 100000 && (Nat.blt dh2 100000 && (Nat.blt dh2 nt && !Nat.beq n yy))) = true) (hn3 : (Nat.ble 300000 n && Nat.blt n 450000) = true) (hf : U0.f yy = none) (hlen : len = l.length) (hl2 : ∀ c ∈ l2, c.size = size) (hpos : 0 < l2.length) (hroom : l.length + l2.length ≤ cap) :
    AOp P w0 U0 nt ops o (gs ++ (rd x ++ (rd y ++ [n, dh]))) [(yy, [])] S [(d, .sl yy 0 (l.length + l2.length) size), (dh2, .hdl (.slice ao (l.length + l2.length) cap) yy), (yy, .mrow e size (l ++ l2)), (n, .no)] := by
  intro s hs hN a w ⟨D, hv, h⟩ Q K hK
  rw [if_pos (hg s (fun k hk => hs k (List.mem_append_left _ hk)) a w D hv h)]
  simp only [Bool.and_eq_true] at hdb hyb hn3
  obtain ⟨hdh1, hdh2, hdh3, hny⟩ := hdb
  have hny : n ≠ yy := fun e => by rw [e, Nat.beq_refl] at hny; cases hny
  have hy1 := Nat.le_of_ble_eq_true hyb.1
  have hy2 := bL hyb.2
  have hn1 := Nat.le_of_ble_eq_true hn3.1
  have hn2' := bL hn3.2
  have hryy : RN yy := ⟨by omega, hy2⟩
  obtain ⟨hrn, hsl⟩ : RN n ∧ SlV (hv n) 0 len size (a.eval x) := ev_rep h (fun k hk => hs k (List.mem_append_right _ (List.mem_append_left _ hk))) hx
  have h3 := ev_val h (fun k hk => hs k (List.mem_append_right _ (List.mem_append_right _ (List.mem_append_left _ hk)))) hy
  have hok : oKey n := ⟨by omega, by omega⟩
  have hlk := (hs n (by simp)).trans hlv
  obtain ⟨xs, g1, g2, g3, g4⟩ := h.mrow hlk hrn
  obtain ⟨_, _, hhv⟩ : ∃ v, a.tmps[dh]? = some v ∧ RN n ∧ hv n = .slice ao l.length cap := h.slot dh _ ((hs dh (by simp)).trans hdh) (bL hdh1)
  have hhv := hhv.2
  have hval : a.eval x = .slice ao l.length cap := by
    obtain ⟨ao1, m1, cap1, ao', e1, e2, e3, e4, _⟩ := hsl
    rw [hhv] at e1
    injection e1 with i1 i2 i3
    subst i1; subst i2; subst i3
    rw [e2, e4 rfl, hlen]; rfl
  obtain ⟨ao2, m, c2, k1, k2, k3, k4, k6, ys2, k7, k8⟩ := vrep_lst.1 h3
  have hyl2 : ys2.length = m * size := by rw [sq_len (n := CV.size) (fun c _ xs h => h.len) k8, sum_const hl2, k2]
  obtain ⟨i, hi1, hi2, hi3, hi4⟩ := info_parts hi
  rcases g1.2 with ⟨b1, b2⟩ | ⟨g, cap', cur, b1, b2, b3, b4, b5, b6, b7⟩
  · exfalso
    rw [hhv] at b1
    injection b1 with _ _ i3
    omega
  rw [hhv] at b1
  injection b1 with i1 i2 i3
  subst i1; subst i3
  cases ao2 with
  | none => exfalso; have := (k6 rfl).1; omega
  | some ad =>
  have hnews : ∀ j u, ys2[j]? = some u → w.cell? (ad.add j) = some u := fun j u hj => by
    have hjl : j < ys2.length := by
      rcases Nat.lt_or_ge j ys2.length with h | h
      · exact h
      · rw [List.getElem?_eq_none h] at hj; cases hj
    rcases k7 with rfl | ⟨b, off, ha, hc⟩
    · simp at hjl
    · cases ha
      rw [add_at, (hc j hjl).2, hj]
  have hown : w.ownsRow 0 e size (.slice (some ⟨g, 0, none⟩) l.length cap) l.length xs := by rw [← hhv]; exact g1
  obtain ⟨w', r1, r2, r3⟩ := run_append_fits (P := P) w 0 t o.type e i size ht hi1 hi3 g l.length cap xs hown ad m c2 ys2 hyl2 hnews (rep_one_of k8) (by omega)
  have hvb : hb (hv n) = some g := by rw [hhv]; rfl
  obtain ⟨f1, f2, f3⟩ := h.blk n _ g hlk hok (by simp) hvb
  have hD' : ∀ o, ¬ D g o := fun o => f3 o fun e => by cases e
  have hkp : ∀ b o u, Us w0 U0 D b o → w.cell? ⟨b, o, none⟩ = some u → Us w0 U0 D b o ∧ w'.cell? ⟨b, o, none⟩ = some u := fun b o u hu hc => by
    refine ⟨hu, ?_⟩
    have hlt : b < w.heap.size := World.block_lt_of_cell? w _ hc
    have hnb : some b ≠ some g := fun e => us_ne hu f1 (hD' o) (by injection e)
    rw [World.cell?_of_block (w := w) (r3.block b hlt hnb)]
    exact hc
  have hmn : Mn w0 U0 (lcl yy (.mrow e size (l ++ l2))) g := by
    rw [lcl_row hn1] at f1
    rw [lcl_row hy1]
    exact f1
  have hG := (h.kill hok).newrowF (n := yy) (avn := .mrow e size (l ++ l2)) (v' := .slice (some ⟨g, 0, none⟩) (l.length + m) cap) (D' := D) (X := fun b => b = g) hryy hf (fun k av hk => by
      by_cases e : n = k
      · subst e
        rw [lS] at hk
        cases hk
        have hfn : fnm n = 100000 := by unfold fnm; rw [ble_no (by omega : n < 500000)]
        rw [hfn]
        exact ⟨by show 0 ≠ _; omega, by omega, by omega⟩
      · rw [lN e] at hk; exact (hN (yy, []) (by simp)).nr k av hk) (by simp) ⟨r3.os, r3.tape, r3.output, r3.size, fun b hb hx => r3.block b hb fun e => hx (by injection e)⟩ (fun b hb => by
      subst hb
      refine ⟨hmn, fun q av h6 h7 h8 h9 => ?_⟩
      have hq : n ≠ q := fun e => by subst e; rw [lS] at h6; cases h6; exact h8 rfl
      rw [lN hq] at h6
      exact h.disj n q _ av b hlk h6 hok h7 (by simp) h8 hq hvb) (fun g' hg' => by
      have hg' : some g = some g' := hg'
      cases hg'
      exact ⟨.inl rfl, Nat.lt_of_lt_of_le f2 r3.size, fun o _ => hD' o⟩) (fun b o hd => .inl hd) (fun b o hd => Nat.lt_of_lt_of_le (h.dlt _ _ hd) r3.size) hkp (fun hv lv => by
      refine ⟨xs ++ ys2, ?_, g2, fun c hc => ?_, ?_⟩
      · show w'.ownsRow 0 e size _ (l ++ l2).length (xs ++ ys2)
        rw [List.length_append, ← k2]
        exact r2
      · rcases List.mem_append.1 hc with hc | hc
        · exact g3 c hc
        · exact hl2 c hc
      · show Sq ((l ++ l2).map _) _
        rw [List.map_append]
        exact sq_append (Sq.keep hkp g4) (Sq.keep hkp k8))
  have he : (execOp a.eval o).run P w = .ok (.value (.slice (some ⟨g, 0, none⟩) (l.length + m) cap)) w' := by
    generalize a.eval = ρ at hval k1 ⊢
    simp [execOp, ho, resolve, invoke, builtin, hval, k1, r1, Result.andThen]
  unfold Oper.wp
  rw [he, Oper.upon_value, hd]
  have hnew : (fun x => if x = yy then Value.slice (some ⟨g, 0, none⟩) (l.length + m) cap else hv x) yy = .slice (some ⟨g, 0, none⟩) (l.length + m) cap := by simp
  have hdn : dh2 < a.tmps.size := by rw [h.size]; exact bL hdh3
  have hG2 := hG.know (d := dh2) (av := .hdl (.slice (some ⟨g, 0, none⟩) (l.length + l2.length) cap) yy) (bL hdh2) (Array.getElem?_eq_getElem hdn) ⟨hryy, by rw [← k2]; exact hnew⟩
  refine hK _ _ ⟨_, _, hG2.put (bL hn) (bL h5) ⟨hryy, ?_⟩⟩
  show SlV ((fun x => if x = yy then Value.slice (some ⟨g, 0, none⟩) (l.length + m) cap else hv x) yy) 0 (l.length + l2.length) size _
  rw [hnew, ← k2]
  exact slV_all rfl (by omega) (.inr ⟨_, rfl⟩)
theorem a_appX (yy dh : Nat) (hg : Gd w0 U0 nt ops o gs S) (hd : o.dst = some d) (hn : Nat.blt d nt = true) (h5 : Nat.blt d 100000 = true) {x y : Operand} {t e size bytes : Nat} {z : Value} {l l2 : List CV} {n len n2 q2 p2} {ao : Option Addr} (ho : o.op = .call { callee := .builtin .append, args := #[x, y], argTypes := #[t, t] }) (ht : P.underlying t = some (.slice e)) (hi : (P.info? e).map (fun i => (i.zero, i.size, i.bytes)) = some (some z, size, bytes)) (hzs : Nat.beq z.cells.size size = true) (hbt : Nat.ble bytes 1000 = true)
    (hx : ev S x = some (.sl n 0 len size)) (hy : ev S y = some ⟨0, .lst l2, n2, q2, p2⟩) (hlv : S n = some (.mrow e size l)) (hdh : S dh = some (.hdl (.slice ao l.length l.length) n)) (hyb : (Nat.ble 200000 yy && Nat.blt yy 450000) = true) (hdb : Nat.blt dh 100000 = true) (hf : U0.f yy = none) (hlen : len = l.length) (hl2 : ∀ c ∈ l2, c.size = size) (hpos : 0 < l2.length) (hbd : l.length + l2.length ≤ 100000000000) :
    AOp P w0 U0 nt ops o (gs ++ (rd x ++ (rd y ++ [n, dh]))) [(yy, [])] S [(d, .sl yy 0 (l.length + l2.length) size), (yy, .mrow e size (l ++ l2))] := by
  intro s hs hN a w ⟨D, hv, h⟩ Q K hK
  rw [if_pos (hg s (fun k hk => hs k (List.mem_append_left _ hk)) a w D hv h)]
  have hryy : RN yy := rnF hyb
  obtain ⟨hrn, hsl⟩ : RN n ∧ SlV (hv n) 0 len size (a.eval x) := ev_rep h (fun k hk => hs k (List.mem_append_right _ (List.mem_append_left _ hk))) hx
  have h3 := ev_val h (fun k hk => hs k (List.mem_append_right _ (List.mem_append_right _ (List.mem_append_left _ hk)))) hy
  have hlk := (hs n (by simp)).trans hlv
  obtain ⟨xs, g1, g2, g3, g4⟩ := h.mrow hlk hrn
  obtain ⟨_, _, hhv⟩ : ∃ v, a.tmps[dh]? = some v ∧ RN n ∧ hv n = .slice ao l.length l.length := h.slot dh _ ((hs dh (by simp)).trans hdh) (bL hdb)
  have hhv := hhv.2
  have hval : a.eval x = .slice ao l.length l.length := by
    obtain ⟨ao1, m1, cap1, ao', e1, e2, e3, e4, _⟩ := hsl
    rw [hhv] at e1
    injection e1 with i1 i2 i3
    subst i1; subst i2; subst i3
    rw [e2, e4 rfl, hlen]; rfl
  obtain ⟨ao2, m, c2, k1, k2, k3, k4, k6, ys2, k7, k8⟩ := vrep_lst.1 h3
  have hyl2 : ys2.length = m * size := by rw [sq_len (n := CV.size) (fun c _ xs h => h.len) k8, sum_const hl2, k2]
  have hAt : At (fun _ _ => True) w ao xs ∧ (ao = none → l.length = 0) := by
    rw [hhv] at g1
    rcases g1.2 with ⟨b1, b2⟩ | ⟨g, cap', cur, b1, b2, b3, b4, b5, b6, b7⟩
    · injection b1 with i1 i2 i3
      exact ⟨.inl (List.eq_nil_of_length_eq_zero (by rw [g1.1, i2]; simp)), fun _ => i2⟩
    · injection b1 with i1 i2 i3
      subst i1
      refine ⟨.inr ⟨g, 0, rfl, fun j hj => ⟨trivial, ?_⟩⟩, fun e => by cases e⟩
      rw [Nat.zero_add]
      exact own_cell g1 (g := g) rfl (by rw [← g1.1]; exact hj)
  have hAt2 : At (fun _ _ => True) w ao2 ys2 := by
    rcases k7 with k7 | ⟨b, off, ha, hc⟩
    · exact .inl k7
    · exact .inr ⟨b, off, ha, fun j hj => ⟨trivial, (hc j hj).2⟩⟩
  have hmul : (l.length + m) * bytes ≤ 100000000000 * 1000 := Nat.mul_le_mul (by omega) (Nat.le_of_ble_eq_true hbt)
  obtain ⟨v', w', r1, r2, r3⟩ := run_appF (P := P) (ty := o.type) ht hi (Nat.eq_of_beq_eq_true hzs) g2 hAt.2 hAt.1 g1.1 (fun h => (k6 h).1) hAt2 hyl2 (c := c2) (rep_one_of k8) (by omega) (by unfold maxLen; omega) (by omega)
  have hb2 : hb v' = v'.ownBlock := by
    rcases r2.2 with ⟨rfl, _⟩ | ⟨g, cap, cur, rfl, _⟩ <;> rfl
  have hkp : ∀ b o u, Us w0 U0 D b o → w.cell? ⟨b, o, none⟩ = some u → Us w0 U0 D b o ∧ w'.cell? ⟨b, o, none⟩ = some u := fun b o u hu hc => by
    refine ⟨hu, ?_⟩
    have hlt : b < w.heap.size := World.block_lt_of_cell? w _ hc
    rw [World.cell?_of_block (w := w) (r3.block b hlt (by simp))]
    exact hc
  have hG := h.newrowF (n := yy) (avn := .mrow e size (l ++ l2)) (v' := v') (D' := D) (X := fun _ => False) hryy hf (hN (yy, []) (by simp)).nr (by simp) ⟨r3.os, r3.tape, r3.output, r3.size, fun b hb hx => r3.block b hb (by simp)⟩ (fun b hb => hb.elim) (fun g hg => by
      rw [hb2] at hg
      refine ⟨.inr (r2.lt g hg).1, (r2.lt g hg).2, fun o _ hd => ?_⟩
      have := (r2.lt g hg).1
      have := h.dlt _ _ hd
      omega) (fun b o hd => .inl hd) (fun b o hd => Nat.lt_of_lt_of_le (h.dlt _ _ hd) r3.size) hkp (fun hv lv => by
      refine ⟨xs ++ ys2, ?_, g2, fun c hc => ?_, ?_⟩
      · show w'.ownsRow 0 e size v' (l ++ l2).length (xs ++ ys2)
        rw [List.length_append, ← k2]
        exact ownsRow_mono r2 (Nat.zero_le _)
      · rcases List.mem_append.1 hc with hc | hc
        · exact g3 c hc
        · exact hl2 c hc
      · show Sq ((l ++ l2).map _) _
        rw [List.map_append]
        exact sq_append (Sq.keep hkp g4) (Sq.keep hkp k8))
  have he : (execOp a.eval o).run P w = .ok (.value v') w' := by
    generalize a.eval = ρ at hval k1 ⊢
    simp [execOp, ho, resolve, invoke, builtin, hval, k1, r1, Result.andThen]
  unfold Oper.wp
  rw [he, Oper.upon_value, hd]
  refine hK _ _ ⟨_, _, hG.put (bL hn) (bL h5) ⟨hryy, ?_⟩⟩
  obtain ⟨a1, c1, q1, q2, q3⟩ := own_addr (ownsRow_mono r2 (Nat.zero_le _))
  have := slV_all (z := size) q1 q2 q3
  show SlV ((fun x => if x = yy then v' else hv x) yy) 0 (l.length + l2.length) size v'
  simp only [if_true]
  rw [← k2]
  exact this

theorem wk_again (X Y dh dh2 k : Nat) {e z m cap : Nat} {l : List CV} {ao : Option Addr} (hY : look s Y = some (.mrow e z l)) (hX : look s X = some .no) (h1 : look s dh = some (.hdl (.slice ao k cap) X)) (h2 : look s dh2 = some (.hdl (.slice ao m cap) Y)) (hdb : (Nat.blt dh 100000 && Nat.blt dh2 100000) = true) (hXb : (Nat.ble 300000 X && Nat.blt X 450000) = true) (hYb : (Nat.ble 300000 Y && Nat.blt Y 450000) = true) (hk : k ≤ l.length) : Wk w0 U0 nt s ((X, .mrow e z (l.take k)) :: (Y, .no) :: s) := by
  rintro a w ⟨D, hv, h⟩
  simp only [Bool.and_eq_true] at hdb hXb hYb
  have x1 := Nat.le_of_ble_eq_true hXb.1
  have x2 := bL hXb.2
  have y1 := Nat.le_of_ble_eq_true hYb.1
  have y2 := bL hYb.2
  have hXY : X ≠ Y := fun e => by rw [e, hY] at hX; cases hX
  obtain ⟨_, _, _, hvX⟩ : ∃ v, a.tmps[dh]? = some v ∧ RN X ∧ hv X = .slice ao k cap := h.slot dh _ h1 (bL hdb.1)
  obtain ⟨_, _, hrY, hvY⟩ : ∃ v, a.tmps[dh2]? = some v ∧ RN Y ∧ hv Y = .slice ao m cap := h.slot dh2 _ h2 (bL hdb.2)
  obtain ⟨xs, f1, f2, f3, f4⟩ := h.mrow hY hrY
  have hoX : oKey X := ⟨by omega, by omega⟩
  have hoY : oKey Y := ⟨by omega, by omega⟩
  have hbXY : hb (hv X) = hb (hv Y) := by rw [hvX, hvY]; cases ao <;> rfl
  obtain ⟨s', hs'⟩ : ∃ s', s' = (X, AV.mrow e z (l.take k)) :: (Y, AV.no) :: s := ⟨_, rfl⟩
  rw [← hs']
  have hlX : look s' X = some (.mrow e z (l.take k)) := by rw [hs', lS]
  have hlY : look s' Y = some .no := by rw [hs', lN hXY, lS]
  have hlo : ∀ {q}, q ≠ X → q ≠ Y → look s' q = look s q := fun {q} a1 a2 => by rw [hs', lN (Ne.symm a1), lN (Ne.symm a2)]
  have hl : ∀ q f, Live s' q f ↔ Live s q f := fun q f => by
    unfold Live
    by_cases e1 : q = X
    · subst e1; rw [hlX, hX]; constructor <;> (rintro ⟨a1, _⟩; cases a1)
    · by_cases e2 : q = Y
      · subst e2; rw [hlY, hY]; constructor <;> (rintro ⟨a1, _⟩; cases a1)
      · rw [hlo e1 e2]
  have hl2 : LiveN s' = LiveN s := by funext q; simp only [LiveN, hl]
  refine ⟨D, hv, h.below, h.dfr, h.size, fun d av g1 g2 => ?_, fun q o av g1 g2 g3 g4 => ?_, fun q o o' av av' g1 g2 => ?_, fun q av g1 g2 => ?_, fun q av g g1 g2 g3 g4 => ?_, fun q q' av av' g g1 g2 g3 g4 g5 g6 g7 g8 => ?_, h.fix, h.dlt⟩
  · rw [hlo (by omega) (by omega)] at g1
    rw [hl2]; exact h.slot d av g1 g2
  · rw [hlo (by unfold fKey; omega) (by unfold fKey; omega)] at g1
    rw [hlo (by unfold BN at g4; omega) (by unfold BN at g4; omega)] at g3
    rw [hl2]; exact h.fld q o av g1 g2 g3 g4
  · rw [hlo (by unfold fKey; omega) (by unfold fKey; omega)] at g1 g2
    exact h.fdis q o o' av av' g1 g2
  · rw [hl2]
    by_cases e1 : q = X
    · subst e1
      rw [hlX] at g1
      cases g1
      rw [hvX]
      obtain ⟨ys, zs, q1, q2⟩ : ∃ ys zs, xs = ys ++ zs ∧ Sq ((l.take k).map fun c => Rep (Us w0 U0 D) w c) ys := by
        have f4' := f4
        rw [← List.take_append_drop k l, List.map_append] at f4'
        obtain ⟨y1, r1, q1, q2, q3⟩ := sq_split f4'
        exact ⟨y1, r1, q1, q2⟩
      have hyl : ys.length = k * z := by rw [sq_len (n := CV.size) (fun c _ xs h => h.len) q2, sum_const (fun c hc => f3 c (List.mem_of_mem_take hc)), List.length_take, Nat.min_eq_left hk]
      refine ⟨ys, ⟨?_, ?_⟩, f2, fun c hc => f3 c (List.mem_of_mem_take hc), q2⟩
      · show ys.length = (l.take k).length * z
        rw [List.length_take, Nat.min_eq_left hk]; exact hyl
      · show (Value.slice ao k cap = _ ∧ (l.take k).length = 0) ∨ _
        rw [List.length_take, Nat.min_eq_left hk]
        rcases f1.2 with ⟨b1, b2⟩ | ⟨g, cap', cur, b1, b2, b3, b4, b6, b7, b8⟩
        · rw [hvY] at b1
          injection b1 with i1 i2 i3
          subst i1; subst i3
          have : k = 0 := by omega
          subst this
          exact .inl ⟨rfl, rfl⟩
        · rw [hvY] at b1
          injection b1 with i1 i2 i3
          subst i1; subst i3
          refine .inr ⟨g, cap, cur, rfl, b2, b3, by omega, b6, b7, ?_⟩
          have b8' : cur.toList.take (l.length * z) = xs := b8
          have : cur.toList.take (k * z) = xs.take (k * z) := by
            rw [← b8', List.take_take, Nat.min_eq_left (Nat.mul_le_mul_right z hk)]
          show List.take (k * z) cur.toList = ys
          rw [this, q1, ← hyl]
          exact List.take_left' rfl
    · by_cases e2 : q = Y
      · subst e2
        rw [hlY] at g1
        cases g1
        exact oc_no rfl
      · rw [hlo e1 e2] at g1
        exact h.obj q av g1 g2
  · by_cases e1 : q = X
    · subst e1
      rw [hlX] at g1
      cases g1
      rw [hbXY] at g4
      obtain ⟨a1, a2, a3⟩ := h.blk Y _ g hY hoY (by simp) g4
      rw [lcl_row y1] at a1
      rw [lcl_row x1]
      exact ⟨a1, a2, fun o _ => a3 o fun e => by cases e⟩
    · by_cases e2 : q = Y
      · subst e2; rw [hlY] at g1; cases g1; exact absurd rfl g3
      · rw [hlo e1 e2] at g1
        exact h.blk q av g g1 g2 g3 g4
  · have conv : ∀ {q av}, look s' q = some av → av.t ≠ 7 → (q = X ∧ hb (hv q) = hb (hv Y)) ∨ (q ≠ Y ∧ look s q = some av) := fun {q av} a1 a2 => by
      by_cases e1 : q = X
      · exact .inl ⟨e1, by rw [e1]; exact hbXY⟩
      · by_cases e2 : q = Y
        · subst e2; rw [hlY] at a1; cases a1; exact absurd rfl a2
        · rw [hlo e1 e2] at a1; exact .inr ⟨e2, a1⟩
    rcases conv g1 g5 with ⟨c1, c2⟩ | ⟨c1, c2⟩
    · rcases conv g2 g6 with ⟨c3, c4⟩ | ⟨c3, c4⟩
      · exact absurd (c1.trans c3.symm) g7
      · rw [c2] at g8
        exact h.disj Y q' _ av' g hY c4 hoY g4 (by simp) g6 (Ne.symm c3) g8
    · rcases conv g2 g6 with ⟨c3, c4⟩ | ⟨c3, c4⟩
      · rw [c4]
        exact h.disj q Y av _ g c2 hY g3 hoY g5 (by simp) c1 g8
      · exact h.disj q q' av av' g c2 c4 g3 g4 g5 g6 g7 g8
theorem a_nilS (dh : Nat) (hg : Gd w0 U0 nt ops o gs S) (hd : o.dst = some d) (hn : Nat.blt d nt = true) (h5 : Nat.blt d 100000 = true) {x : Operand} {t1 t2 e : TypeId} {n len z m cap : Nat} {ao : Option Addr} (ho : o.op = .binOp .eql t1 x (.const (.slice none 0 0)) t2) (hu : P.underlying t1 = some (.slice e)) (hx : ev S x = some (.sl n 0 len z)) (hdh : S dh = some (.hdl (.slice ao m cap) n)) (hdb : Nat.blt dh 100000 = true) (hao : ao = none → len = 0 ∧ cap = 0) : AOp P w0 U0 nt ops o (gs ++ (rd x ++ [dh])) [] S [(d, .val (.b ao.isNone))] :=
  aop_val hg hd hn h5 (fun k hk => List.mem_append_left _ hk) fun s hs a w D hv hm => by
    obtain ⟨_, ao1, m1, cap1, ao', e1, e2, e3, e4, _⟩ : RN n ∧ SlV (hv n) 0 len z (a.eval x) := ev_rep hm (fun k hk => hs k (List.mem_append_right _ (List.mem_append_left _ hk))) hx
    obtain ⟨_, _, _, hhv⟩ : ∃ v, a.tmps[dh]? = some v ∧ RN n ∧ hv n = .slice ao m cap := hm.slot dh _ ((hs dh (by simp)).trans hdh) (bL hdb)
    rw [hhv] at e1
    injection e1 with i1 i2 i3
    subst i1; subst i2; subst i3
    have hval : a.eval x = .slice ao len cap := by rw [e2, e4 rfl]; rfl
    have hb := run_eqnil (P := P) hu (.slice ao len cap) w ⟨ao, len, cap, rfl, hao⟩
    have hnil : isNil (.slice ao len cap) = ao.isNone := by
      cases ao with
      | none => obtain ⟨rfl, rfl⟩ := hao rfl; rfl
      | some x => rfl
    rw [hnil] at hb
    refine ⟨.bool ao.isNone, ?_, avrep_sc rfl⟩
    have hc : a.eval (.const (.slice none 0 0)) = .slice none 0 0 := rfl
    generalize a.eval = ρ at hval hc ⊢
    simp [execOp, ho, hval, hc, eqGuard, binOp, hb]

theorem appLawS {Q : Exit → Act → World → Prop} {K : Act → World → Prop} (h : SimG w0 U0 nt s a w D hv) {n e size bytes : Nat} {z : Value} {t : TypeId} (hd : o.dst = some d) (hdn : d < nt) (h5 : d < 100000) (hn : RW n) (hr : NoRef s n) {x y : Operand} (ho : o.op = .call { callee := .builtin .append, args := #[x, y], argTypes := #[t, t] })
    (ht : P.underlying t = some (.slice e)) (hi : (P.info? e).map (fun i => (i.zero, i.size, i.bytes)) = some (some z, size, bytes)) (hzs : z.cells.size = size) (hsz : 0 < size) (hbt : bytes ≤ 1000)
    {l l2 : List CV} (hl : ∀ c ∈ l, c.size = size) (hl2 : ∀ c ∈ l2, c.size = size) (hbd : l.length + l2.length ≤ 100000000000)
    {v : Value} (hx : a.eval x = v) (hvr : VRep (Us w0 U0 D) w (.lst l) v) {ao2 : Option Addr} {m c2 : Nat} {ys2 : List Value} {V2 : Nat → Nat → Prop} (g1 : a.eval y = .slice ao2 m c2) (g2 : m = l2.length) (g6 : ao2 = none → m = 0 ∧ c2 = 0) (g7 : At V2 w ao2 ys2) (g8 : Sq (l2.map fun c => Rep (Us w0 U0 D) w c) ys2) {k : Nat} {xs : List Value} (hown : w.ownsRow 0 e size v k xs)
    (hroom : ∀ g, v.ownBlock = some g → Mn w0 U0 6 g ∧ (∀ o, k * size ≤ o → ¬ D g o) ∧ ∀ q av, look s q = some av → oKey q → av.t ≠ 7 → q ≠ n → hb (hv q) ≠ some g)
    (hK : ∀ a' w', Sim w0 U0 nt ((d, .own (.lst (l ++ l2)) n) :: (n, .tok e size) :: s) a' w' → K a' w') : o.wp P a w K Q := by
  obtain ⟨ao, k2, c, h1, h2, h3, h4, h6, ys, h7, h8⟩ := vrep_lst.1 hvr
  have hyl : ys.length = k2 * size := by rw [sq_len (n := CV.size) (fun c _ xs h => h.len) h8, sum_const hl, h2]
  have hyl2 : ys2.length = m * size := by rw [sq_len (n := CV.size) (fun c _ xs h => h.len) g8, sum_const hl2, g2]
  have hk : k = k2 := by
    rcases hown.2 with ⟨e1, e2⟩ | ⟨g, cap, cur, e1, _⟩
    · rw [h1] at e1; cases e1; exact e2
    · rw [h1] at e1; cases e1; rfl
  subst hk
  obtain ⟨exy, _⟩ := own_same hown h1 h7 hyl
  subst exy
  have hmul : (k + m) * bytes ≤ 100000000000 * 1000 := Nat.mul_le_mul (by omega) hbt
  obtain ⟨v', w', r1, r2, r3, r4⟩ := run_app (P := P) (ty := o.type) ht hi hzs hsz (Nat.zero_le _) hown g6 g7 hyl2 (rep_one_of g8) (by unfold maxLen; omega) (by omega)
  obtain ⟨s1, s2⟩ := h.app hn hr hown hsz hroom r2 r3 r4
  have he : (execOp a.eval o).run P w = .ok (.value v') w' := by
    generalize a.eval = ρ at hx g1 ⊢
    simp [execOp, ho, resolve, invoke, builtin, hx, g1, r1, Result.andThen]
  unfold Oper.wp
  rw [he, Oper.upon_value, hd]
  refine hK _ _ ⟨_, _, s1.put hdn h5 ⟨?_, fun _ => ?_⟩⟩
  · obtain ⟨a1, c1, e1, e2, e3, e4, e5⟩ := ownsRow_cs r2
    refine vrep_lst.2 ⟨a1, k + m, c1, e1, by rw [List.length_append, ← h2, ← g2], e2, e3, e4, xs ++ ys2, ?_, ?_⟩
    · rcases e5 with e5 | ⟨b, off, ha, hlt, hc⟩
      · exact .inl e5
      · refine .inr ⟨b, off, ha, fun i hi => ⟨.inr ⟨?_, .inr ⟨?_, ?_⟩⟩, hc i hi⟩⟩
        · have hbo : v'.ownBlock = some b := by rw [e1, ha]; rfl
          rcases r4 with r4 | ⟨_, r4⟩
          · rcases (hroom b (r4 ▸ hbo)).1 with h1 | h1
            · exact h1
            · exact absurd rfl h1.1
          · exact Nat.le_trans h.below.size (r4 b hbo)
        · rw [e1, ha]; rfl
        · rcases r2.2 with ⟨e6, _⟩ | ⟨g, cap, cur, e6, _⟩
          · rw [e1, ha] at e6; cases e6
          · rw [e1, ha] at e6; cases e6
            have := r2.1
            omega
    · rw [List.map_append]
      exact sq_append (h8.keep s2) (g8.keep s2)
  · refine ⟨0, .lst (l ++ l2), rfl, ?_⟩
    have : v'.cells.toList = [v'] := by
      obtain ⟨a1, c1, e1, _⟩ := ownsRow_cs r2
      rw [e1]; rfl
    rw [this]
    unfold tokv
    rw [if_neg (by show n ≠ 1; unfold RW at hn; omega)]
    simp

theorem a_app0S (hg : Gd w0 U0 nt ops o gs S) (hd : o.dst = some d) (hn : Nat.blt d nt = true) (h5 : Nat.blt d 100000 = true) {x y : Operand} {t e size bytes : Nat} {z : Value} {l : List CV} {n q n2 len e2} (ho : o.op = .call { callee := .builtin .append, args := #[x, y], argTypes := #[t, t] }) (ht : P.underlying t = some (.slice e)) (hi : (P.info? e).map (fun i => (i.zero, i.size, i.bytes)) = some (some z, size, bytes)) (hzs : Nat.beq z.cells.size size = true) (hsz : Nat.blt 0 size = true) (hbt : Nat.ble bytes 1000 = true)
    (hx : ev S x = some ⟨0, .lst [], n, q, []⟩) (hy : ev S y = some (.sl n2 0 len size)) (hnn : (Nat.ble 200000 n && Nat.blt n 400000) = true) (hne : Nat.beq n (300000 + d) = false) (hlv : S n = some (.tok e size)) (hlm : S n2 = some (.mrow e2 size l)) (hlen : len = l.length) (hbd : l.length ≤ 100000000000) :
    AOp P w0 U0 nt ops o (gs ++ (rd x ++ (rd y ++ [n, n2]))) [(300000 + d, [])] S [(d, .own (.lst l) (300000 + d)), (300000 + d, .tok e size), (n, .no)] := by
  intro s hs hN a w ⟨D, hv, h⟩ Q K hK
  rw [if_pos (hg s (fun k hk => hs k (List.mem_append_left _ hk)) a w D hv h)]
  obtain ⟨h1, h2⟩ : VRep (Us w0 U0 D) w (.lst []) (a.eval x) ∧ Tk hv (LiveN s) ⟨0, .lst [], n, q, []⟩ (a.eval x).cells.toList := ev_rep h (fun k hk => hs k (List.mem_append_right _ (List.mem_append_left _ hk))) hx
  obtain ⟨hr2, hsl⟩ : RN n2 ∧ SlV (hv n2) 0 len size (a.eval y) := ev_rep h (fun k hk => hs k (List.mem_append_right _ (List.mem_append_right _ (List.mem_append_left _ hk)))) hy
  have hrn := rnB hnn
  have hn2 : 200000 ≤ n := hrn.1
  have hnx := hrn.2
  obtain ⟨ys, y1, y2, y3, y4⟩ := h.mrow ((hs n2 (by simp)).trans hlm) hr2
  obtain ⟨ao2, c2, y5, y6, y7⟩ := own_slice y1
  have hval2 : a.eval y = .slice ao2 l.length c2 := by
    obtain ⟨ao1, m1, cap1, ao', e1, e2, e3, e4, _⟩ := hsl
    rw [y5] at e1
    injection e1 with i1 i2 i3
    subst i1; subst i2; subst i3
    rw [e2, e4 rfl, hlen]; rfl
  have hAt : At (fun _ _ => True) w ao2 ys ∧ (ao2 = none → l.length = 0 ∧ c2 = 0) := by
    have y1' := y1
    rw [y5] at y1'
    rcases y1'.2 with ⟨b1, b2⟩ | ⟨g, cap', cur, b1, b2, b3, b4, b5, b6, b7⟩
    · injection b1 with i1 i2 i3
      exact ⟨.inl (List.eq_nil_of_length_eq_zero (by rw [y1'.1, i2]; simp)), fun _ => ⟨i2, i3⟩⟩
    · injection b1 with i1 i2 i3
      subst i1
      refine ⟨.inr ⟨g, 0, rfl, fun j hj => ⟨trivial, ?_⟩⟩, fun e => by cases e⟩
      rw [Nat.zero_add]
      exact own_cell y1' (g := g) rfl (by rw [← y1'.1]; exact hj)
  have hok : oKey n := ⟨by omega, by omega⟩
  have hlk := (hs n (by simp)).trans hlv
  have hlive : Live s n (e, size) := ⟨hlk, hn2, hnx⟩
  have hval : a.eval x = hv n := by
    obtain ⟨m, c, g1, g2⟩ := h2 (.inr ⟨_, hlive⟩)
    simp only at g1
    rw [at_nil] at g1
    cases g1
    obtain ⟨ao, k, c, e1, _⟩ := vrep_lst.1 h1
    unfold tokv at g2
    rw [if_neg (by show n ≠ 1; omega)] at g2
    rw [e1] at g2 ⊢
    simpa [Value.cells] using g2
  obtain ⟨k, xs, g1, g2⟩ : ∃ k xs, w.ownsRow 0 e size (hv n) k xs ∧ 0 < size := h.obj n _ hlk hok
  have hvs : hb (hv n) = (hv n).ownBlock ∧ lenOf (hv n) = k := by
    rcases g1.2 with ⟨e1, e2⟩ | ⟨g, cap, cur, e1, _⟩
    · rw [e1, e2]; exact ⟨rfl, rfl⟩
    · rw [e1]; exact ⟨rfl, rfl⟩
  have hne' : n ≠ 300000 + d := fun e => by rw [e, Nat.beq_refl] at hne; cases hne
  have hkill := h.kill hok
  have h5' := bL h5
  refine appLawS (l := []) (l2 := l) (n := 300000 + d) hkill hd (bL hn) (bL h5) ⟨by omega, by omega⟩ (fun k av hk => ?_) ho ht hi (Nat.eq_of_beq_eq_true hzs) (bL hsz) (Nat.le_of_ble_eq_true hbt) (fun c hc => by cases hc) y3 (by simpa using hbd) hval (hval ▸ h1) hval2 rfl hAt.2 hAt.1 y4 g1 (fun g hg => ?_) (fun a' w' hs' => hK a' w' ?_)
  · by_cases e : n = k
    · subst e
      rw [lS] at hk
      cases hk
      refine ⟨by show 0 ≠ _; omega, ?_⟩
      have : Nat.ble 500000 n = false := by
        cases hb : Nat.ble 500000 n with
        | false => rfl
        | true => have := Nat.le_of_ble_eq_true hb; omega
      have hfn : fnm n = 100000 := by unfold fnm; rw [this]
      rw [hfn]
      omega
    · rw [lN e] at hk; exact (hN (300000 + d, []) (by simp)).nr k av hk
  · rw [← hvs.1] at hg
    obtain ⟨f1, f2, f3⟩ := h.blk n _ g hlk hok (by simp) hg
    refine ⟨by rw [lcl_tok rfl] at f1; exact f1, fun o ho => f3 o fun _ => ?_, fun q av h6 h7 h8 h9 => ?_⟩
    · rw [hvs.2]; exact ho
    · have hq : n ≠ q := fun e => by subst e; rw [lS] at h6; cases h6; exact h8 rfl
      rw [lN hq] at h6
      exact h.disj n q _ av g hlk h6 hok h7 (by simp) h8 hq hg
  · simpa using hs'
end
end Go.Proofs.Ytekboofbedakcaa
namespace Go.Proofs.Ytekboofbedakcaa
open Go.RowKit Go.MapKept
set_option linter.unusedVariables false
set_option linter.unusedSimpArgs false
section
variable {P : Program} {w0 : World} {U0 : UX} {nt : Nat} {ops : Array Oper} {o : Oper} {S : Nat → Option AV} {gs : List Nat} {d : Nat} {s : AS} {a : Act} {w : World} {D : Nat → Nat → Prop} {hv : Nat → Value}

theorem live_two2 {x y : AV} {k m n : Nat} {e : Nat × Nat} (hk : k < 200000) (hm : m < 200000 ∨ 400000 ≤ m) : Live ((k, x) :: (m, y) :: s) n e ↔ Live s n e := by
  unfold Live
  constructor
  · rintro ⟨h1, h2⟩
    rw [lN (by omega), lN (by omega)] at h1
    exact ⟨h1, h2⟩
  · rintro ⟨h1, h2⟩
    exact ⟨by rw [lN (by omega), lN (by omega)]; exact h1, h2⟩
theorem hk_ne_boxN {lv : Nat → Prop} {a : AV} {d : Nat} (hd : BN d) (hlv : ∀ n, lv n → n = 1 ∨ RN n) (hr : a.n ≠ d) (h : Rn lv a) : hk a ≠ 100000 + d := by
  unfold BN at hd
  rcases h with ⟨h1, h2, h3⟩ | ⟨h1, h2⟩ | ⟨h1, h2⟩
  · rw [hk_eq.2 (by omega)]
    rcases hlv _ h2 with h4 | h4
    · exact absurd h4 h3
    · unfold RN at h4; omega
  · rw [hk_eq.1 h1]; omega
  · rw [hk_eq.2 (by omega)]; unfold RN at h2; omega
theorem SimG.newboxN (h : SimG w0 U0 nt s a w D hv) {nn : Nat} (hbn : BN nn) (hnf : ∀ v, U0.f (100000 + nn) = some v → False) (hr : NoRef s nn) (hd : d < nt) (h5 : d < 100000) {av : AV} (hav : av.t = 5 ∨ av = .obj) {xs : List Value} (ty : TypeId) (hrep : av.t = 5 → Rep (Us w0 U0 D) w av.c xs) (htk : av.t = 5 → Tk hv (LiveN s) av xs) :
    SimG w0 U0 nt ((d, .bp nn 0 []) :: (100000 + nn, av) :: s) (a.put (some d) (.pointer (some ⟨w.heap.size, 0, none⟩))) (w.alloc (.cells xs.toArray ty)) D (fun k => if k = 100000 + nn then .pointer (some ⟨w.heap.size, 0, none⟩) else hv k) := by
  have hbn1 := hbn
  unfold BN at hbn1
  have hb' : Below w.heap.size w (w.alloc (.cells xs.toArray ty)) := (Below.refl _ _).alloc (Nat.le_refl _) _
  have hG := h.grow' hb'
  obtain ⟨s', hs'⟩ : ∃ s', s' = (d, AV.bp nn 0 []) :: (100000 + nn, av) :: s := ⟨_, rfl⟩
  obtain ⟨hv', hhv⟩ : ∃ hv' : Nat → Value, hv' = fun k => if k = 100000 + nn then .pointer (some ⟨w.heap.size, 0, none⟩) else hv k := ⟨_, rfl⟩
  rw [← hs', ← hhv]
  have hl : ∀ n e, Live s' n e ↔ Live s n e := fun n e => by rw [hs']; exact live_two2 (by omega) (by unfold BN at hbn; omega)
  have hl2 : LiveN s' = LiveN s := by funext n; simp only [LiveN, hl]
  have hlk : ∀ k, k ≠ d → k ≠ 100000 + nn → look s' k = look s k := fun k h1 h2 => by rw [hs', lN (Ne.symm h1), lN (Ne.symm h2)]
  have hlb : look s' (100000 + nn) = some av := by rw [hs', lN (by omega), lS]
  have hvn : ∀ k, k ≠ 100000 + nn → hv' k = hv k := fun k hk => by rw [hhv]; simp only [if_neg hk]
  have hvd : hv' (100000 + nn) = .pointer (some ⟨w.heap.size, 0, none⟩) := by rw [hhv]; simp
  have hid : ∀ b o v, Us w0 U0 D b o → (w.alloc (.cells xs.toArray ty)).cell? ⟨b, o, none⟩ = some v → Us w0 U0 D b o ∧ (w.alloc (.cells xs.toArray ty)).cell? ⟨b, o, none⟩ = some v := fun _ _ _ h1 h2 => ⟨h1, h2⟩
  have hmv : ∀ {k av' v}, look s k = some av' → AVRep (Us w0 U0 D) (w.alloc (.cells xs.toArray ty)) hv (LiveN s) av' v → AVRep (Us w0 U0 D) (w.alloc (.cells xs.toArray ty)) hv' (LiveN s) av' v := fun {k av' v} h1 h2 =>
    h2.move hid (fun _ h => h) fun h3 => hvn _ (hk_ne_boxN hbn (fun n => liveN_rn) (hr k av' h1).1 h3)
  refine ⟨hG.below, h.dfr, by simp [Act.put, h.size], fun d' av' h1 h2 => ?_, fun n o av' h1 h2 h3 h10 => ?_, fun n o o' av1 av2 h1 h2 h3 h4 => ?_, fun k av' h1 h2 => ?_, fun k av' g h1 h2 h3 h4 => ?_, fun k k' av1 av2 g h1 h2 h3 h4 h6 h7 hne => ?_, fun n g h1 => ?_, hG.dlt⟩
  · rw [hl2]
    by_cases e : d = d'
    · subst e
      rw [hs', lS] at h1
      cases h1
      refine ⟨.pointer (some ⟨w.heap.size, 0, none⟩), by simp [Act.put, h.size, hd], ?_⟩
      unfold AVRep
      simp only [if_true]
      exact ⟨hbn, by rw [hvd]; rfl⟩
    · rw [hlk d' (Ne.symm e) (by omega)] at h1
      obtain ⟨v', h3, h4⟩ := hG.slot d' av' h1 h2
      exact ⟨v', by simp [Act.put, e, h3], hmv h1 h4⟩
  · rw [hlk _ (by unfold fKey; omega) (by unfold fKey; omega)] at h1
    have hn := (hr _ _ h1).2.1
    rw [fnm_key h2] at hn
    rw [hlk _ (by omega) (by omega)] at h3
    rw [hl2]
    obtain ⟨v, h4, h6, h7⟩ := hG.fld n o av' h1 h2 h3 h10
    refine ⟨v, hmv h1 h4, h6, ?_⟩
    rw [hvn _ (by omega)]
    exact h7
  · rw [hlk _ (by unfold fKey; omega) (by unfold fKey; omega)] at h1 h2
    exact h.fdis n o o' av1 av2 h1 h2 h3 h4
  · rw [hl2]
    by_cases e : k = 100000 + nn
    · subst e
      rw [hlb] at h1
      cases h1
      rw [hvd]
      unfold OC
      rcases hav with hav | rfl
      · rw [if_pos hav]
        refine ⟨w.heap.size, xs, ty, rfl, alloc_new _ _, (hrep hav).keep (us_keep h.dlt hb' fun _ _ h => h), fun hl => ?_⟩
        obtain ⟨m, c, g1, g2⟩ := htk hav hl
        refine ⟨m, c, g1, ?_⟩
        rw [g2]
        unfold tokv
        rcases liveN_rn hl with h6 | h6
        · rw [if_pos h6, if_pos h6]
        · unfold RN at h6
          rw [hvn _ (by omega)]
      · simp only [if_true]
        exact ⟨w.heap.size, xs.toArray, ty, rfl, alloc_new _ _⟩
    · have h2' := h2
      unfold oKey at h2'
      rw [hlk k (by omega) e] at h1
      rw [hvn k e]
      refine (hG.obj k av' h1 h2).move hid (fun _ hl => ⟨hl, ?_⟩) (fun _ _ => rfl)
      unfold tokv
      rcases liveN_rn hl with h6 | h6
      · rw [if_pos h6, if_pos h6]
      · unfold RN at h6
        rw [hvn _ (by omega)]
  · by_cases e : k = 100000 + nn
    · subst e
      rw [hvd] at h4
      have h4 : some w.heap.size = some g := h4
      cases h4
      refine ⟨.inl h.below.size, by simp, fun o _ hd => ?_⟩
      have := h.dlt _ _ hd
      omega
    · have h2' := h2
      unfold oKey at h2'
      rw [hlk k (by omega) e] at h1
      rw [hvn k e] at h4 ⊢
      exact hG.blk k av' g h1 h2 h3 h4
  · have h3' := h3
    have h4' := h4
    unfold oKey at h3' h4'
    by_cases e1 : k = 100000 + nn
    · have e2 : k' ≠ 100000 + nn := fun e => hne (e1.trans e.symm)
      rw [hlk k' (by omega) e2] at h2
      rw [e1, hvd, hvn k' e2]
      intro h8 h9
      have := (h.blk k' av2 g h2 h4 h7 h9).2.1
      have h8 : some w.heap.size = some g := h8
      cases h8
      omega
    · rw [hlk k (by omega) e1] at h1
      by_cases e2 : k' = 100000 + nn
      · rw [e2, hvd, hvn k e1]
        intro h8 h9
        have := (h.blk k av1 g h1 h3 h6 h8).2.1
        have h9 : some w.heap.size = some g := h9
        cases h9
        omega
      · rw [hlk k' (by omega) e2] at h2
        rw [hvn k e1, hvn k' e2]
        exact h.disj k k' av1 av2 g h1 h2 h3 h4 h6 h7 hne
  · have := U0.hf n g h1
    rw [hvn _ (fun e => hnf g (by rw [← e]; exact h1))]
    exact h.fix n g h1

theorem a_alloc9N (nn : Nat) (hg : Gd w0 U0 nt ops o gs S) (hd : o.dst = some d) (hn : Nat.blt d nt = true) (h5 : Nat.blt d 100000 = true) {ty : TypeId} {fs : Array Field} {it : TypeInfo} {cs : Array Value} {sz : List Nat} {zs : List CV} (ho : o.op = .alloc ty) (hu : P.underlying ty = some (.struct fs)) (hi : P.info? ty = some it) (hz : it.zero = some (.agg cs)) (hsz : szO P fs.toList 0 = some sz) (h0 : zsO sz cs.toList = some zs) (hp : (sz.all fun z => Nat.blt 0 z) = true) (h100 : Nat.ble cs.size 100 = true) (hbb : (Nat.blt nn 100000 || (Nat.ble 350000 nn && Nat.blt nn 400000)) = true) (hnf : ∀ v, U0.f (100000 + nn) = some v → False) : AOp P w0 U0 nt ops o gs [(nn, [])] S (fldsA nn zs 0 ++ [(d, .bp nn 0 []), (100000 + nn, .obj)]) := by
  intro s hs hN a w ⟨D, hv, h⟩ Q K hK
  rw [if_pos (hg s hs a w D hv h)]
  have hd5 := bL h5
  have hbn : BN nn := by
    rcases Bool.or_eq_true_iff.1 hbb with h1 | h1
    · exact .inl (bL h1)
    · rw [Bool.and_eq_true] at h1; exact .inr ⟨Nat.le_of_ble_eq_true h1.1, bL h1.2⟩
  have hbn1 := hbn
  unfold BN at hbn1
  have he : (execOp a.eval o).run P w = .ok (.value (.pointer (some ⟨w.heap.size, 0, none⟩))) (w.alloc (.cells cs ty)) := by
    simp [execOp, ho, Instr.alloc, zeroValue, typeInfo, hi, hz, run_newVar, Value.cells]
  unfold Oper.wp
  rw [he, Oper.upon_value, hd]
  have hr := (hN (nn, []) (by simp)).nr
  have hG := h.newboxN (d := d) (av := .obj) hbn hnf hr (bL hn) hd5 (.inr rfl) (xs := cs.toList) ty (fun e => by cases e) (fun e => by cases e)
  rw [Array.toArray_toList] at hG
  obtain ⟨segs, e1, e2, e3, e4, e5⟩ := zsO_spec (U := Us w0 U0 D) (w := w.alloc (.cells cs ty)) h0
  suffices hfin : SimG w0 U0 nt (fldsA nn zs 0 ++ ((d, AV.bp nn 0 []) :: (100000 + nn, AV.obj) :: s)) (a.put (some d) (.pointer (some ⟨w.heap.size, 0, none⟩))) (w.alloc (.cells cs ty)) D (fun k => if k = 100000 + nn then .pointer (some ⟨w.heap.size, 0, none⟩) else hv k) by
    exact hK _ _ ⟨D, _, by rw [List.append_assoc]; exact hfin⟩
  refine hG.addFs (n := nn) (g := w.heap.size) hbn (by rw [lN (by omega), lS]) (fun q av h1 h2 => ?_) (by simp only [if_true]; rfl) e4 e5 (fun i hi' => ?_) (fun c hc => ?_) (by rw [e1]; have := Nat.le_of_ble_eq_true h100; simpa using this)
  · rw [lN (by unfold fKey; omega), lN (by unfold fKey; omega)] at h1
    have := (hr _ _ h1).2.1
    rw [fnm_key h2] at this
    exact this rfl
  · rw [e1] at hi' ⊢
    rw [Nat.zero_add]
    have := alloc_new w (.cells cs ty)
    simp only [World.cell?, this]
    simp
  · rw [List.all_eq_true] at hp
    have : c.size ∈ sz := by rw [← e3]; exact List.mem_map.2 ⟨c, hc, rfl⟩
    exact bL (hp _ this)

theorem a_neg (hg : Gd w0 U0 nt ops o gs S) (hd : o.dst = some d) (hn : Nat.blt d nt = true) (h5 : Nat.blt d 100000 = true) {x : Operand} {i : Int} {ty : TypeId} {n q p} (ho : o.op = .unOp .neg ty x) (hx : ev S x = some ⟨0, .sc (.int .i64 i), n, q, p⟩) (hb : -9223372036854775808 < i ∧ i ≤ 9223372036854775808) : AOp P w0 U0 nt ops o (gs ++ rd x) [] S [(d, .val (.i (-i)))] :=
  aop_val hg hd hn h5 (fun k hk => List.mem_append_left _ hk) fun s hs a w D hv hm => by
    have h1 := ev_sc hm (fun k hk => hs k (List.mem_append_right _ hk)) hx
    have hw : IntKind.i64.wrap (-i) = -i := by rw [IntKind.wrap_i64]; omega
    generalize a.eval = ρ at h1 ⊢
    exact ⟨.int .i64 (-i), by simp [execOp, ho, h1, Op.unary, go_sem, hw], avrep_sc rfl⟩

theorem run_eqmap2 {t k e : TypeId} (hu : P.underlying t = some (.map k e)) (g : Nat) (w : World) : (Op.equal t (.map (some g)) (.map none)).run P w = .ok false w := by
  unfold Op.equal
  rw [show Op.maxDepth = 9999 + 1 from rfl, Op.equalIn]
  simp [run_underlying hu]
theorem a_mref_nil (hg : Gd w0 U0 nt ops o gs S) (hd : o.dst = some d) (hn : Nat.blt d nt = true) (h5 : Nat.blt d 100000 = true) {x : Operand} {t1 t2 e k : TypeId} {n : Nat} {l : List CV} (ho : o.op = .binOp .eql t1 x (.const (.map none)) t2) (hu : P.underlying t1 = some (.map k e)) (hx : ev S x = some (.mref n)) (hm' : S n = some (.mp l)) : AOp P w0 U0 nt ops o (gs ++ (rd x ++ [n])) [] S [(d, .val (.b false))] :=
  aop_val hg hd hn h5 (fun k hk => List.mem_append_left _ hk) fun s hs a w D hv hm => by
    obtain ⟨hrn, h1, _⟩ : RN n ∧ a.eval x = hv n ∧ (a.eval x).oneCell' = true := ev_rep hm (fun k hk => hs k (List.mem_append_right _ (List.mem_append_left _ hk))) hx
    have hok : oKey n := by unfold RN at hrn; unfold oKey; omega
    obtain ⟨g, es, clock, g1, g2, g3, g4, g5⟩ : ∃ g es clock, hv n = .map (some g) ∧ w.heap[g]? = some (.map es clock) ∧ Ents (Us w0 U0 D) w l es.toList ∧ (∀ e ∈ es, e.born < clock) ∧ (es.toList.map (fun e : MapEntry => e.born)).Nodup := hm.obj n _ ((hs n (by simp)).trans hm') hok
    rw [g1] at h1
    have hb := run_eqmap2 (P := P) hu g w
    have hc : a.eval (.const (.map none)) = .map none := rfl
    refine ⟨.bool false, ?_, avrep_sc rfl⟩
    generalize a.eval = ρ at h1 hc ⊢
    simp [execOp, ho, h1, hc, eqGuard, binOp, hb]

theorem a_lookup1 (hg : Gd w0 U0 nt ops o gs S) (hd : o.dst = some d) (hn : Nat.blt d nt = true) (h5 : Nat.blt d 100000 = true) {x y : Operand} {t kt et : TypeId} {k k2 : IntKind} {i z2 : Int} {n : Nat} {l : List CV} {n' q' p'} (ho : o.op = .lookup t x y false) (hu : P.underlying t = some (.map kt et)) (huk : P.underlying kt = some (.int k)) (hz2 : (P.info? et).map (·.zero) = some (some (.int k2 z2))) (hzc : zeroT P et = some (.sc (.int k2 z2))) (hx : ev S x = some (.mref n)) (hy : ev S y = some ⟨0, .sc (.int k i), n', q', p'⟩) (hm' : S n = some (.mp l)) (hik : IntKeys k l) : AOp P w0 U0 nt ops o (gs ++ (rd x ++ (rd y ++ [n]))) [] S [(d, .val ((lookR k i l).getD (.sc (.int k2 z2))))] :=
  aop_val hg hd hn h5 (fun k hk => List.mem_append_left _ hk) fun s hs a w D hv hm => by
    obtain ⟨hrn, h1, _⟩ : RN n ∧ a.eval x = hv n ∧ (a.eval x).oneCell' = true := ev_rep hm (fun k hk => hs k (List.mem_append_right _ (List.mem_append_left _ hk))) hx
    have e2 := ev_sc hm (fun k hk => hs k (List.mem_append_right _ (List.mem_append_right _ (List.mem_append_left _ hk)))) hy
    have hok : oKey n := by unfold RN at hrn; unfold oKey; omega
    obtain ⟨g, es, clock, g1, g2, g3, g4, g5⟩ : ∃ g es clock, hv n = .map (some g) ∧ w.heap[g]? = some (.map es clock) ∧ Ents (Us w0 U0 D) w l es.toList ∧ (∀ e ∈ es, e.born < clock) ∧ (es.toList.map (fun e : MapEntry => e.born)).Nodup := hm.obj n _ ((hs n (by simp)).trans hm') hok
    obtain ⟨it, zv, i1, i2, i3⟩ := zeroT_spec hzc
    have hck := run_checkKey (P := P) (w := w) huk (k := .int k i) rfl es.isEmpty 9999
    have hge := Go.MapKept.run_getObj_map (P := P) g2
    rcases find_spec 0 g3 hik (i := i) with ⟨f1, f2⟩ | ⟨j, e, c, f1, f2, f3, f4, f5, f6⟩
    · have hfk := run_findKey (P := P) (w := w) huk f1
      have hzv : (zeroValue et).run P w = .ok zv w := by simp [zeroValue, typeInfo, i1, i2]
      rw [i1, Option.map_some, i2] at hz2
      injection hz2 with hz2
      injection hz2 with hz2
      refine ⟨zv, ?_, ?_⟩
      · rw [g1] at h1
        generalize a.eval = ρ at h1 e2 ⊢
        simp [execOp, ho, Instr.lookup, run_underlying hu, h1, e2, hge, hck, hfk, hzv]
      · rw [f2, hz2]
        exact avrep_sc rfl
    · have hfk := run_findKey (P := P) (w := w) huk f1
      refine ⟨e.val, ?_, ?_⟩
      · rw [g1] at h1
        generalize a.eval = ρ at h1 e2 ⊢
        simp [execOp, ho, Instr.lookup, run_underlying hu, h1, e2, hge, hck, hfk]
      · rw [f6]
        exact avrep_val f4
theorem a_mref_isnil (hg : Gd w0 U0 nt ops o gs S) (hd : o.dst = some d) (hn : Nat.blt d nt = true) (h5 : Nat.blt d 100000 = true) {x : Operand} {t1 t2 e k : TypeId} {n : Nat} {c : CV} {m q p} (ho : o.op = .binOp .eql t1 x (.const (.map none)) t2) (hu : P.underlying t1 = some (.map k e)) (hx : ev S x = some (.mref n)) (hm' : S n = some ⟨17, c, m, q, p⟩) : AOp P w0 U0 nt ops o (gs ++ (rd x ++ [n])) [] S [(d, .val (.b true))] :=
  aop_val hg hd hn h5 (fun k hk => List.mem_append_left _ hk) fun s hs a w D hv hm => by
    obtain ⟨hrn, h1, _⟩ : RN n ∧ a.eval x = hv n ∧ (a.eval x).oneCell' = true := ev_rep hm (fun k hk => hs k (List.mem_append_right _ (List.mem_append_left _ hk))) hx
    have hok : oKey n := by unfold RN at hrn; unfold oKey; omega
    have g1 : hv n = .map none := (show OX _ _ _ _ from hm.obj n _ ((hs n (by simp)).trans hm') hok).1.1 rfl
    rw [g1] at h1
    have hb := run_eqmap (P := P) hu w
    have hc : a.eval (.const (.map none)) = .map none := rfl
    refine ⟨.bool true, ?_, avrep_sc rfl⟩
    generalize a.eval = ρ at h1 hc ⊢
    simp [execOp, ho, h1, hc, eqGuard, binOp, hb]
theorem wk_nmap (k n : Nat) (hk : Nat.ble 500000 k = true) (hn : (Nat.ble 200000 n && Nat.blt n 400000) = true) (hs : look s k = some (.val (.sc (.map none)))) (hr : noRefB s [(n, [])] = true) (hnk : noKey s n = true) : Wk w0 U0 nt s ((k, .mref n) :: (n, .nmap) :: s) := by
  rintro a w ⟨D, hv, h⟩
  have hk5 := Nat.le_of_ble_eq_true hk
  have hrn := rnB hn
  have hrn' : RN n := RW.rn hrn
  unfold RW at hrn
  have hnk' : look s n = none := by
    cases e : look s n with
    | none => rfl
    | some av =>
      unfold noKey at hnk
      rw [List.all_eq_true] at hnk
      have := hnk _ (look_mem e)
      simp [Nat.beq_refl] at this
  have hnr : NoRef s n := (noRefB_spec hr (n, []) (by simp)).nr
  obtain ⟨hv', hhv⟩ : ∃ hv' : Nat → Value, hv' = fun x => if x = n then .map none else hv x := ⟨_, rfl⟩
  have hvn : ∀ x, x ≠ n → hv' x = hv x := fun x hx => by rw [hhv]; simp only [if_neg hx]
  have hvd : hv' n = .map none := by rw [hhv]; simp
  obtain ⟨s', hs'⟩ : ∃ s', s' = (k, AV.mref n) :: (n, AV.nmap) :: s := ⟨_, rfl⟩
  rw [← hs']
  have hlk : ∀ x, x ≠ k → x ≠ n → look s' x = look s x := fun x h1 h2 => by rw [hs', lN (Ne.symm h1), lN (Ne.symm h2)]
  have hlkk : look s' k = some (.mref n) := by rw [hs', lS]
  have hlkn : look s' n = some .nmap := by rw [hs', lN (by omega), lS]
  have hl : ∀ q e, Live s' q e ↔ Live s q e := fun q e => by
    unfold Live
    by_cases e1 : q = k
    · omega
    · by_cases e2 : q = n
      · subst e2
        rw [hlkn, hnk']
        constructor <;> (rintro ⟨h1, _⟩; cases h1)
      · rw [hlk q e1 e2]
  have hl2 : LiveN s' = LiveN s := by funext q; simp only [LiveN, hl]
  have hmv : ∀ {k' av v}, look s k' = some av → AVRep (Us w0 U0 D) w hv (LiveN s) av v → AVRep (Us w0 U0 D) w hv' (LiveN s) av v := fun {k' av v} h1 h2 =>
    h2.move (fun _ _ _ h1 h2 => ⟨h1, h2⟩) (fun _ h => h) fun h3 => hvn _ (hk_ne_row hrn' (hnr k' av h1).1 h3)
  refine ⟨D, hv', h.below, h.dfr, h.size, fun d av g1 g2 => ?_, fun m o av g1 g2 g3 g4 => ?_, fun m o o' av av' g1 g2 g3 g4 g5 => ?_, fun k' av g1 g2 => ?_, fun k' av g g1 g2 g3 g4 => ?_, fun k' k2 av av' g g1 g2 g3 g4 g5 g6 g7 g8 => ?_, fun k' v g1 => ?_, h.dlt⟩
  · rw [hlk d (by omega) (by omega)] at g1
    rw [hl2]
    obtain ⟨v, h1, h2⟩ := h.slot d av g1 g2
    exact ⟨v, h1, hmv g1 h2⟩
  · have hbk := bn_okey g4
    unfold oKey at hbk
    unfold BN at g4
    rw [hlk (100000 + m) (by omega) (by omega)] at g3
    rw [hl2, hvn (100000 + m) (by omega)]
    by_cases e : fKey m o = k
    · rw [e, hlkk] at g1
      cases g1
      obtain ⟨v, h1, h2, h3⟩ := h.fld m o _ (by rw [e]; exact hs) g2 g3 g4
      obtain ⟨h4, _⟩ := vrep_sc.1 h1.1
      subst h4
      exact ⟨.map none, ⟨hrn', hvd.symm, rfl⟩, rfl, h3⟩
    · rw [hlk _ e (by unfold fKey; omega)] at g1
      obtain ⟨v, h1, h2, h3⟩ := h.fld m o av g1 g2 g3 g4
      exact ⟨v, hmv g1 h1, h2, h3⟩
  · have conv : ∀ o (av : AV), look s' (fKey m o) = some av → ∃ av', look s (fKey m o) = some av' ∧ av'.sz = av.sz := fun o av f1 => by
      by_cases e : fKey m o = k
      · rw [e, hlkk] at f1
        cases f1
        exact ⟨.val (.sc (.map none)), by rw [e]; exact hs, rfl⟩
      · rw [hlk _ e (by unfold fKey; omega)] at f1
        exact ⟨av, f1, rfl⟩
    obtain ⟨a1, b1, c1⟩ := conv o av g1
    obtain ⟨a2, b2, c2⟩ := conv o' av' g2
    rw [← c1]
    exact h.fdis m o o' a1 a2 b1 b2 g3 g4 g5
  · unfold oKey at g2
    rw [hl2]
    by_cases e : k' = n
    · subst e
      rw [hlkn] at g1
      cases g1
      rw [hvd]
      exact ⟨⟨fun _ => rfl, (fun e => by cases e)⟩, (fun e => by cases e), (fun e => by cases e), (fun e => by cases e)⟩
    · rw [hlk k' (by omega) e] at g1
      rw [hvn k' e]
      exact (h.obj k' av g1 g2).move (fun _ _ _ h1 h2 => ⟨h1, h2⟩) (fun ht hl => ⟨hl, by
        unfold tokv
        rw [hvn _ (hnr k' av g1).1]⟩) (fun _ _ => rfl)
  · unfold oKey at g2
    by_cases e : k' = n
    · subst e
      rw [hvd] at g4
      cases g4
    · rw [hlk k' (by omega) e] at g1
      rw [hvn k' e] at g4 ⊢
      exact h.blk k' av g g1 g2 g3 g4
  · unfold oKey at g3 g4
    by_cases e : k' = n
    · subst e
      rw [hvd] at g8
      cases g8
    · by_cases e2 : k2 = n
      · subst e2
        rw [hvd]
        intro h9; cases h9
      · rw [hlk k' (by omega) e] at g1
        rw [hlk k2 (by omega) e2] at g2
        rw [hvn k' e] at g8
        rw [hvn k2 e2]
        exact h.disj k' k2 av av' g g1 g2 g3 g4 g5 g6 g7 g8
  · have := U0.hf k' v g1
    rw [hvn k' (by omega)]
    exact h.fix k' v g1
end
section
variable {α : Type} {P : Program}
end

section
variable {P : Program} {w0 : World} {U0 : UX} {nt : Nat} {ops : Array Oper} {o : Oper} {S : Nat → Option AV} {gs : List Nat} {d : Nat} {s : AS} {a : Act} {w : World} {D : Nat → Nat → Prop} {hv : Nat → Value}

end
def asgL : List Oper → Option (List (Nat × Nat))
  | [] => some []
  | o :: os => match o.dst, o.op, o.guard, asgL os with
    | some d, .assign (.tmp t), none, some r => some ((d, t) :: r)
    | _, _, _, _ => none
def asgT : List (Nat × Nat) → Array Value → Array Value
  | [], tm => tm
  | (d, t) :: r, tm => asgT r (tm.setIfInBounds d (tm.getD t undef))
def parT : List Tmp → List Value → Array Value → Array Value
  | p :: ps, v :: vs, tm => parT ps vs (tm.setIfInBounds p v)
  | _, _, tm => tm
theorem zip_par : ∀ (ps : List Tmp) (vs : List Value) (tm : Array Value), (ps.toArray.zip vs.toArray).foldl (fun t (p, v) => t.setIfInBounds p v) tm = parT ps vs tm := by
  intro ps vs tm
  rw [List.zip_toArray, List.foldl_toArray]
  induction ps generalizing vs tm with
  | nil => cases vs <;> rfl
  | cons p ps ih =>
    cases vs with
    | nil => rfl
    | cons v vs => rw [List.zip_cons_cons, List.foldl_cons]; exact ih vs _
theorem asg_run {P : Program} {ro : Option Nat} {ops : Array Oper} {Q : Exit → Act → World → Prop} : ∀ {l : List Oper} {al : List (Nat × Nat)} {tm : Array Value} {ds : List Deferred} {w : World}, asgL l = some al → Q .normal ⟨asgT al tm, ds⟩ w → wpListIn (wideR ro) 1 P ops Q l ⟨tm, ds⟩ w
  | [], al, tm, ds, w, h, hq => by cases h; exact hq
  | o :: os, al, tm, ds, w, h, hq => by
    rw [asgL] at h
    split at h
    · rename_i d t r h1 h2 h3 h4
      cases h
      unfold wpListIn
      rw [if_pos (by simp [Region.wanted, h3])]
      refine ⟨fun _ _ => trivial, ?_⟩
      have hs : (o.semAt (wideR ro).round (Act.eval ⟨tm, ds⟩)) = pure (.value (tm.getD t undef)) := by
        rw [Oper.semAt_eq _ _ _ (fun c hc => by rw [h2] at hc; cases hc)]
        simp only [execOp, h2]
        rfl
      rw [hs]
      show wpListIn _ _ _ _ _ _ _ _
      rw [h1]
      exact asg_run h4 hq
    · cases h

section
variable {P : Program} {w0 : World} {U0 : UX} {nt : Nat} {s : AS}

theorem wpIn_n {n m : Nat} {c : Code} {Q : Exit → Act → World → Prop} {a : Act} {w : World} (h : c.wpIn Fence.wide n P Q a w) : c.wpIn Fence.wide m P Q a w :=
  fun b k cs h1 h2 _ => h b k cs h1 h2 (room_wide _)
end
section
variable {P : Program} {w0 : World} {U0 : UX} {nt : Nat} {s : AS}
end
section
variable {P : Program} {w0 : World} {U0 : UX} {nt : Nat} {ops : Array Oper} {o : Oper} {S : Nat → Option AV} {gs : List Nat} {d : Nat} {s : AS} {a : Act} {w : World} {D : Nat → Nat → Prop} {hv : Nat → Value}
end
section
variable {P : Program} {w0 : World} {U0 : UX} {nt : Nat} {s : AS} {a : Act} {w : World} {D : Nat → Nat → Prop} {hv : Nat → Value}
end

section
variable {α : Type} {P : Program}
end
section
variable {P : Program} {w0 : World} {U0 : UX} {nt : Nat} {s : AS} {a : Act} {W : World} {D : Nat → Nat → Prop} {hv : Nat → Value}
end
section
variable {P : Program} {w0 : World} {U0 : UX} {nt : Nat} {s : AS}
end
section
variable {P : Program} {nt : Nat}
end
end Go.Proofs.Ytekboofbedakcaa
namespace Go.Proofs.Ytekboofbedakcaa
open Go.RowKit
set_option linter.unusedVariables false
set_option linter.unusedSimpArgs false
section
variable {P : Program} {w0 : World} {U0 : UX} {nt : Nat} {ops : Array Oper} {o : Oper} {S : Nat → Option AV} {gs : List Nat} {d : Nat} {s : AS} {a : Act} {w : World} {D : Nat → Nat → Prop} {hv : Nat → Value}
end
end Go.Proofs.Ytekboofbedakcaa
namespace Go.Proofs.Ytekboofbedakcaa
open Go.RowKit
set_option linter.unusedVariables false
set_option linter.unusedSimpArgs false
set_option maxRecDepth 100000

end Go.Proofs.Ytekboofbedakcaa
namespace Go.Proofs.Ytekboofbedakcaa
open Go.RowKit
set_option linter.unusedVariables false
set_option linter.unusedSimpArgs false
section
variable {P : Program} {w0 : World} {U0 : UX} {nt : Nat} {ops : Array Oper} {o : Oper} {S : Nat → Option AV} {gs : List Nat} {d : Nat} {s : AS} {a : Act} {w : World} {D : Nat → Nat → Prop} {hv : Nat → Value}
def topX : UX := ⟨fun _ _ => True, fun _ => False, fun _ => none, fun _ _ h => by cases h⟩
end
end Go.Proofs.Ytekboofbedakcaa
namespace Go.Proofs.Ytekboofbedakcaa
open Go.RowKit Go.MapKept
set_option linter.unusedVariables false
set_option linter.unusedSimpArgs false
section
variable {P : Program} {w0 : World} {U0 : UX} {nt : Nat} {s : AS} {a : Act} {w : World} {D : Nat → Nat → Prop} {hv : Nat → Value}
abbrev yldV (l : Nat) : CV := .sc (.func (.yield l) #[] #[])

def StpY (P : Program) (w0 : World) (U0 : UX) (nt : Nat) (ops : Array Oper) (o : Oper) (s e : AS) : Prop :=
  ∀ (M : Md) a w, Sim w0 U0 nt s a w → ∀ (Q : Exit → Act → World → Prop) (K : Act → World → Prop), (∀ a' w', Sim w0 U0 nt (e ++ s) a' w' → K (wdA a' M.ds) w') →
    if Region.wanted o (yielded ops (wdA a M.ds).tmps) = true then o.wpIn (wideR M.r) 1 P (wdA a M.ds) w K Q else (∀ f, o.about P w (wdA a M.ds).eval = some f → (wideR M.r).fn f) ∧ K ((wdA a M.ds).put o.dst undef) w
def AOpY (P : Program) (w0 : World) (U0 : UX) (nt : Nat) (ops : Array Oper) (o : Oper) (R : List Nat) (N : List (Nat × List Nat)) (S : Nat → Option AV) (e : AS) : Prop :=
  ∀ s, (∀ k ∈ R, look s k = S k) → (∀ q ∈ N, NoRefE s q) → StpY P w0 U0 nt ops o s e
def RunY (P : Program) (w0 : World) (U0 : UX) (nt : Nat) (ops : Array Oper) : List Oper → AS → (AS → Prop) → Prop
  | [], s, K => K s
  | o :: os, s, K => ∃ (R : List Nat) (N : List (Nat × List Nat)) (e : AS), AOpY P w0 U0 nt ops o R N (look s) e ∧ noRefB s N = true ∧ RunY P w0 U0 nt ops os (e ++ s) K
theorem AOp.y {ops : Array Oper} {o : Oper} {R : List Nat} {N : List (Nat × List Nat)} {S : Nat → Option AV} {e : AS} (h : AOp P w0 U0 nt ops o R N S e) : AOpY P w0 U0 nt ops o R N S e := fun s h1 h2 M a w hs Q K hK => stp_in (h s h1 h2) hs hK
theorem nxY {ops : Array Oper} {o : Oper} {os : List Oper} {s e : AS} {K : AS → Prop} {R : List Nat} {N : List (Nat × List Nat)} (h1 : AOpY P w0 U0 nt ops o R N (look s) e) (h2 : noRefB s N = true) (h3 : RunY P w0 U0 nt ops os (e ++ s) K) : RunY P w0 U0 nt ops (o :: os) s K := ⟨R, N, e, h1, h2, h3⟩
theorem runY_list {ops : Array Oper} {M : Md} {Q : Exit → Act → World → Prop} : ∀ {l : List Oper} {s : AS} {K : AS → Prop}, RunY P w0 U0 nt ops l s K → (∀ s' a w, K s' → Sim w0 U0 nt s' a w → Q .normal (wdA a M.ds) w) → ∀ a w, Sim w0 U0 nt s a w → wpListIn (wideR M.r) 1 P ops Q l (wdA a M.ds) w
  | [], s, K, h, hK, a, w, hs => hK s a w h hs
  | o :: os, s, K, ⟨R, N, e, h1, h2, h3⟩, hK, a, w, hs => by
    unfold wpListIn
    exact h1 s (fun _ _ => rfl) (noRefB_spec h2) M a w hs _ _ (fun a' w' hs' => runY_list h3 hK a' w' hs')
theorem awp_regionY {id : Nat} {l : List Oper} {Q : Exit → AS → Prop} {s : AS} (h : RunY P w0 U0 nt l.toArray l s fun s' => Q .normal s') : AWp P w0 U0 nt (.region id l.toArray false) Q s :=
  fun M a w hs => wpIn_region_lit (runY_list (M := M) h (fun s' a w h1 h2 => ⟨a, rfl, s', h1, h2⟩) a w hs)

theorem roundIn_any {m m' : Nat} {ro : Option Nat} {l : Nat} {f : FuncId} {tmps : Array Value} {assign body : Code} {R : Ending → World → Prop} (h : RoundIn Fence.wide m P l f tmps assign body w R) : RoundIn (wideR ro) m' P l f tmps assign body w R :=
  ⟨trivial, fun c cs _ => by
    obtain ⟨e, w', h1, h2⟩ := h.2 c cs (room_wide _)
    refine ⟨e, w', h1, ?_⟩
    cases e <;> exact h2⟩
variable {ops : Array Oper} {o : Oper} {S : Nat → Option AV} {gs : List Nat} {d : Nat}
end
end Go.Proofs.Ytekboofbedakcaa
namespace Go.Proofs.Ytekboofbedakcaa
open Go.RowKit Go.MapKept
open Go.ChangeMaps (setBlock)
set_option linter.unusedVariables false
set_option linter.unusedSimpArgs false
section
variable {P : Program} {w0 : World} {U0 : UX} {nt : Nat} {ops : Array Oper} {o : Oper} {S : Nat → Option AV} {gs : List Nat} {d : Nat} {s : AS} {a : Act} {w : World} {D : Nat → Nat → Prop} {hv : Nat → Value}


end
end Go.Proofs.Ytekboofbedakcaa
namespace Go.Proofs.Ytekboofbedakcaa
open Go.RowKit Go.MapKept
set_option linter.unusedVariables false
set_option linter.unusedSimpArgs false
set_option maxRecDepth 100000
section
variable {P : Program} {w0 : World} {U0 : UX} {nt : Nat} {ops : Array Oper} {o : Oper} {S : Nat → Option AV} {gs : List Nat} {d : Nat} {s : AS} {a : Act} {w : World} {D : Nat → Nat → Prop} {hv : Nat → Value}
end
end Go.Proofs.Ytekboofbedakcaa
namespace Go.Proofs.Ytekboofbedakcaa
open Go.RowKit Go.MapKept
set_option linter.unusedVariables false
set_option linter.unusedSimpArgs false
def QUp (q : (Nat → Nat → Prop) → World → Prop) : Prop := ∀ (U V : Nat → Nat → Prop) (w w' : World), q U w → Below w.heap.size w w' → (∀ b o, b < w.heap.size → U b o → V b o) → q V w'
def AFunQ (P : Program) (q : (Nat → Nat → Prop) → World → Prop) (f : FuncId) (args : List CV) (r : AV) : Prop :=
  EntF P f ∧ (r.t = 0 ∨ r.t = 4) ∧ r.n = 0 ∧ ∀ (U : Nat → Nat → Prop) (w : World) (vs : List Value), q U w → VReps U w args vs →
    Calls P f vs.toArray w fun e w' => ∃ v, e = .returned v ∧ RR (fun b o => U b o ∨ w.heap.size ≤ b) w' r v ∧ Below w.heap.size w w'

section
variable {P : Program} {w0 : World} {U0 : UX} {nt : Nat} {ops : Array Oper} {o : Oper} {S : Nat → Option AV} {gs : List Nat} {d : Nat} {s : AS} {a : Act} {w : World} {D : Nat → Nat → Prop} {hv : Nat → Value} {q : (Nat → Nat → Prop) → World → Prop}

theorem SimG.atQ {W : World} (h : SimG w0 U0 nt s a w D hv) (hQ : QUp q) (hW : Hw W w0 U0) (hq : q U0.m w0) : q (Us w0 U0 D) w :=
  hQ _ _ _ _ hq (h.below.below hW.2) fun b o hb hu => .inl ⟨hb, hu, hW.2 b⟩

theorem a_callQ {W : World} (hQ : QUp q) (hW : Hw W w0 U0) (hq : q U0.m w0) {f : FuncId} {xs : Array Operand} {ts : Array TypeId} {cs : List CV} {r : AV} (hg : Gd w0 U0 nt ops o gs S) (hd : o.dst = some d) (hn : Nat.blt d nt = true) (h5 : Nat.blt d 100000 = true)
    (ho : o.op = .call { callee := .value (.func f), args := xs, argTypes := ts }) (hx : evsO S xs.toList = some cs) (hc : AFunQ P q f cs r) : AOp P w0 U0 nt ops o (gs ++ rdl xs.toList) [] S [(d, r)] := by
  intro s hs _ a w ⟨D, hv, h⟩ Q K hK
  rw [if_pos (hg s (fun k hk => hs k (List.mem_append_left _ hk)) a w D hv h)]
  have hargs := evsO_rep h (fun k hk => hs k (List.mem_append_right _ hk)) hx
  obtain ⟨h1, h2, h3, h4⟩ := hc
  have hcall := h4 _ w _ (h.atQ hQ hW hq) hargs
  have he : (execOp a.eval o).run P w = .ok (.enter f (xs.toList.map a.eval).toArray) w := by
    have hf : a.eval (.func f) = .func (.func f) #[] #[] := rfl
    have hen := h1 (xs.map a.eval) w
    have harr : (xs.toList.map a.eval).toArray = xs.map a.eval := by apply Array.ext'; simp
    rw [harr]
    generalize a.eval = ρ at hf hen ⊢
    simp [execOp, ho, resolve, invoke, Deferred.ofValue, hf, hen]
  unfold Oper.wp
  rw [he, Oper.upon_enter]
  refine hcall.mono ?_
  rintro e w' ⟨v, rfl, h6, h7⟩
  rw [hd]
  refine hK _ _ ⟨Dn D w w', hv, (h.growN h7).put (bL hn) (bL h5) (avrep_rr h2 h3 (us_of_rr rfl h7.size h.below.size h6))⟩

theorem afunQ_of {f : FuncId} {fn : Func} {c : Code} {args rs : List CV} (hf : P.funcs[f]? = some fn) (hn : fn.ntmps = nt) (hname : (fn.name == "runtime.NumGoroutine") = false) (hb : fn.body = some c) (hl : Nat.ble args.length nt = true) (hnt : Nat.blt nt 100000 = true)
    (h : ∀ (w : World) (U : UX), Hw w w U → q U.m w → AWp P w U nt c (fun e s' => (e = .normal ∨ e = .ret) ∧ resO P s' fn.results.toList = some rs) (argS args 0)) : AFunQ P q f args (resAV rs) := by
  have hr2 : ((resAV rs).t = 0 ∨ (resAV rs).t = 4) ∧ (resAV rs).n = 0 := by
    unfold resAV
    split
    · exact ⟨.inl rfl, rfl⟩
    · exact ⟨.inr rfl, rfl⟩
  refine ⟨ent_of hf hname (by rw [hb]; rfl), hr2.1, hr2.2, fun U w vs hq hargs => ?_⟩
  have hlen := hargs.len
  refine calls_of_wp hf hb ?_
  have hle := Nat.le_of_ble_eq_true hl
  have hnt := bL hnt
  have hno : ∀ {k av}, 100000 ≤ k → look (argS args 0) k = some av → False := fun {k av} h1 h2 => by rw [argS_none (by omega)] at h2; cases h2
  obtain ⟨V, hV⟩ : ∃ V : UX, V = ⟨U, fun _ => False, fun _ => none, fun _ _ h => by cases h⟩ := ⟨_, rfl⟩
  have hs : Sim w V nt (argS args 0) { tmps := vs.toArray ++ Array.replicate (fn.ntmps - vs.toArray.size) undef, defers := [] } w := by
    refine ⟨fun _ _ => False, fun _ => .slice none 0 0, BelowX.refl _ _, rfl, by simp [hn]; omega, fun d av h1 h2 => ?_, fun n o av h1 => (hno (by unfold fKey; omega) h1).elim, fun n o o' av av' h1 => (hno (by unfold fKey; omega) h1).elim, fun k av h1 h2 => (hno h2.1 h1).elim, fun k av g h1 h2 => (hno h2.1 h1).elim, fun k k' av av' g h1 h2 h3 => (hno h3.1 h1).elim, fun n g h1 => (by rw [hV] at h1; cases h1), fun b o hd => hd.elim⟩
    obtain ⟨_, c', h3, rfl⟩ := look_argS h1
    rw [Nat.sub_zero] at h3
    obtain ⟨v, h4, h5⟩ := hargs.at h3
    have hdl : d < vs.length := by
      rcases Nat.lt_or_ge d vs.length with h | h
      · exact h
      · rw [List.getElem?_eq_none h] at h4; cases h4
    refine ⟨v, ?_, avrep_val (h5.keep fun b o v hu hc => ⟨.inl ⟨World.block_lt_of_cell? w _ hc, by rw [hV]; exact ⟨hu, fun h => h⟩⟩, hc⟩)⟩
    rw [Array.getElem?_append_left (by simpa using hdl)]
    simpa using h4
  refine wp_mono ((h w V (by rw [hV]; exact ⟨fun _ => rfl, fun _ h => h⟩) (by rw [hV]; exact hq) ⟨none, []⟩ _ w hs).wp rfl (fun e a w ⟨s, _, h⟩ => h.df)) ?_
  rintro e a' w' ⟨s', ⟨h1, h2⟩, D, hv, h3⟩
  obtain ⟨v, h4, h5⟩ := res_run h3 h2
  have hR : RR (fun b o => U b o ∨ w.heap.size ≤ b) w' (resAV rs) v := by
    have hk : ∀ b o u, Us w V D b o → w'.cell? ⟨b, o, none⟩ = some u → (U b o ∨ w.heap.size ≤ b) ∧ w'.cell? ⟨b, o, none⟩ = some u := fun b o u hu hc => ⟨hu.imp (fun h => by rw [hV] at h; exact h.2.1) fun h => h.1, hc⟩
    unfold RR at h5 ⊢
    split
    · rename_i ht
      rw [if_pos ht] at h5
      obtain ⟨vs, h6, h7⟩ := h5
      exact ⟨vs, h6, h7.keep hk⟩
    · rename_i ht
      rw [if_neg ht] at h5
      exact h5.keep hk
  have hbw : Below w.heap.size w w' := h3.below.below (by rw [hV]; exact fun _ h => h)
  rcases h1 with rfl | rfl
  · exact ⟨h3.dfr, v, h4, v, rfl, hR, hbw⟩
  · exact ⟨h3.dfr, v, h4, v, rfl, hR, hbw⟩
end
end Go.Proofs.Ytekboofbedakcaa
namespace Go.Proofs.Ytekboofbedakcaa
open Go.RowKit
set_option linter.unusedVariables false
def XT.tm : XT → Tm
  | ⟨f, a, c, l⟩ => ⟨f, l.map XT.tm⟩
theorem XT.tm_eq (x : XT) : x.tm = ⟨x.f, x.l.map XT.tm⟩ := by
  cases x with
  | mk f a c l => rw [XT.tm]
theorem XT.tm_f (x : XT) : x.tm.f = x.f := by rw [XT.tm_eq]
theorem XT.tm_l (x : XT) : x.tm.l = x.l.map XT.tm := by rw [XT.tm_eq]
theorem XT.cv_eq (x : XT) : x.cv = .row [.i x.f, .lst (x.l.map XT.cv)] := by
  cases x with
  | mk f a c l =>
    have hl : ∀ l : List XT, XT.rec_1 (motive_1 := fun _ => CV) (motive_2 := fun _ => List CV) (fun f _ _ _ ih => .row [.i f, .lst ih]) [] (fun _ _ a b => a :: b) l = l.map XT.cv := by
      intro l
      induction l with
      | nil => rfl
      | cons c cs ih => rw [List.map_cons, ← ih]; rfl
    show CV.row [.i f, .lst _] = CV.row [.i f, .lst _]
    rw [← hl]
theorem XT.cv_tm : ∀ x : XT, x.cv = x.tm.cv := by
  intro x
  induction x using XT.ind with
  | h f a c l ih =>
    rw [XT.cv_eq, Tm.cv_eq, XT.tm_eq]
    show CV.row [.i f, .lst (l.map XT.cv)] = CV.row [.i f, .lst ((l.map XT.tm).map Tm.cv)]
    rw [List.map_map, List.map_congr_left (g := Tm.cv ∘ XT.tm) fun y hy => ih y hy]
theorem cvs_tm (l : List XT) : l.map XT.cv = (l.map XT.tm).map Tm.cv := by
  rw [List.map_map]
  exact List.map_congr_left fun y _ => y.cv_tm
theorem cs_len : ∀ l : List XT, (l.flatMap XT.cs).length = l.length * 2
  | [] => rfl
  | x :: l => by rw [List.flatMap_cons, List.length_append, cs_len l, List.length_cons]; show 2 + _ = _; omega
theorem cs_at : ∀ {l : List XT} {i : Nat} {y : XT}, l[i]? = some y → (l.flatMap XT.cs)[2 * i]? = some (.int .i64 y.f) ∧ (l.flatMap XT.cs)[2 * i + 1]? = some y.h
  | [], i, y, h => by simp at h
  | x :: l, 0, y, h => by
    simp only [List.getElem?_cons_zero, Option.some.injEq] at h
    subst h
    rw [List.flatMap_cons]
    exact ⟨rfl, rfl⟩
  | x :: l, i + 1, y, h => by
    obtain ⟨h1, h2⟩ := cs_at (l := l) (i := i) (y := y) (by simpa using h)
    rw [List.flatMap_cons]
    have e : ∀ k, (x.cs ++ l.flatMap XT.cs)[2 + k]? = (l.flatMap XT.cs)[k]? := fun k => by
      rw [List.getElem?_append_right (by show 2 ≤ 2 + k; omega)]
      congr 1
      show 2 + k - 2 = k
      omega
    rw [show 2 * (i + 1) = 2 + 2 * i by omega, e, show 2 + 2 * i + 1 = 2 + (2 * i + 1) by omega, e]
    exact ⟨h1, h2⟩
theorem cs_one (l : List XT) : ∀ u ∈ l.flatMap XT.cs, u.oneCell' = true := by
  intro u hu
  obtain ⟨x, _, hx⟩ := List.mem_flatMap.1 hu
  unfold XT.cs XT.h at hx
  simp only [List.mem_cons, List.not_mem_nil, or_false] at hx
  rcases hx with rfl | rfl <;> rfl

def Fz (w : World) (b : Nat) : Prop := ∃ cur ty, w.heap[b]? = some (.cells cur ty (0, 0))
theorem Fz.same {w w' : World} {b : Nat} (h : Fz w b) (he : w'.heap[b]? = w.heap[b]?) : Fz w' b := by
  obtain ⟨cur, ty, h⟩ := h
  exact ⟨cur, ty, he.trans h⟩
theorem Fz.bw {w w' : World} {b : Nat} (h : Fz w b) (hb : Below w.heap.size w w') : Fz w' b := by
  obtain ⟨cur, ty, h⟩ := h
  exact ⟨cur, ty, (hb.block b (Array.getElem?_eq_some_iff.1 h).1).trans h⟩
def OwnX (e : TypeId) (w : World) (base : Nat) (v : Value) (xs : List XT) : Prop := w.ownsRow base e 2 v xs.length (xs.flatMap XT.cs) ∧ (∀ x ∈ xs, XR (fun b _ => base ≤ b) w x) ∧ (xs.flatMap XT.bl).Nodup ∧ ∀ b ∈ xs.flatMap XT.bl, v.ownBlock ≠ some b ∧ Fz w b
theorem OwnX.nil (e : TypeId) (w : World) (base : Nat) : OwnX e w base (.slice none 0 0) [] := ⟨World.ownsRow_nil _ _ _ _, (fun x hx => by cases hx), List.nodup_nil, (fun b hb => by cases hb)⟩
theorem XR.bw {n : Nat} {w w' : World} {x : XT} (h : XR (fun b _ => n ≤ b) w x) (hb : Below w.heap.size w w') : XR (fun b _ => n ≤ b) w' x := h.keep fun b o v hu hc => ⟨hu, by rw [hb.cell (p := ⟨b, o, none⟩) (World.block_lt_of_cell? w _ hc)]; exact hc⟩
theorem OwnX.bw {e : TypeId} {w w' : World} {base : Nat} {v : Value} {xs : List XT} (h : OwnX e w base v xs) (hb : Below w.heap.size w w') : OwnX e w' base v xs :=
  ⟨ownsRow_below h.1 hb (Nat.le_refl _), fun x hx => (h.2.1 x hx).bw hb, h.2.2.1, fun b hb2 => ⟨(h.2.2.2 b hb2).1, (h.2.2.2 b hb2).2.bw hb⟩⟩
theorem OwnX.lt {e : TypeId} {w : World} {base : Nat} {v : Value} {xs : List XT} (h : OwnX e w base v xs) {g : Nat} (hg : v.ownBlock = some g) : base ≤ g ∧ g < w.heap.size := h.1.lt g hg
theorem xbl_lt {n : Nat} {w : World} {xs : List XT} (h : ∀ x ∈ xs, XR (fun b _ => n ≤ b) w x) : ∀ b ∈ xs.flatMap XT.bl, n ≤ b ∧ b < w.heap.size := by
  intro b hb
  obtain ⟨x, hx, hbx⟩ := List.mem_flatMap.1 hb
  obtain ⟨h1, o, h2⟩ := (h x hx).lt b hbx
  exact ⟨h2, h1⟩
theorem cellH {w w' : World} {b o : Nat} (h : w'.heap[b]? = w.heap[b]?) : w'.cell? ⟨b, o, none⟩ = w.cell? ⟨b, o, none⟩ := by
  simp only [World.cell?]; rw [h]

theorem app_x {P : Program} {w : World} {B : Nat} (hB : B ≤ w.heap.size) (t e : TypeId) (z : Value) (bytes : Nat) (ht : P.underlying t = some (.slice e)) (hi : (P.info? e).map (fun i => (i.zero, i.size, i.bytes)) = some (some z, 2, bytes)) (hzs : z.cells.size = 2) (hbt : bytes ≤ 1000)
    {v : Value} {xs : List XT} {x : XT} (h : OwnX e w B v xs) (hx : XR (fun b _ => B ≤ b) w x) (hnd : x.bl.Nodup) (hfz : ∀ b ∈ x.bl, Fz w b) (hdis : ∀ b ∈ x.bl, b ∉ xs.flatMap XT.bl) (hvx : ∀ b ∈ x.bl, v.ownBlock ≠ some b) (hn : xs.length ≤ 100000000000) :
    ∃ a' c' w', Sem.run P (Builtin.append_ #[t, t] t #[v, .slice (some ⟨w.heap.size, 0, none⟩) 1 1]) (w.alloc (.cells x.cs.toArray e)) = .ok (.slice a' (xs.length + 1) c') w' ∧ OwnX e w' B (.slice a' (xs.length + 1) c') (xs ++ [x]) ∧ Below B w w' := by
  obtain ⟨h1, h2, h3, h4⟩ := h
  obtain ⟨a', c', w', hr, ho, hb, hk, hv⟩ := app_one (P := P) hB t e z 2 bytes ht hi hzs (by decide) v xs.length (xs.flatMap XT.cs) x.cs h1 rfl (by simpa using cs_one [x]) hn hbt
  have hall := xbl_lt h2
  have hxl := fun b hb => hx.lt b hb
  have hown : ∀ b, b < w.heap.size → v.ownBlock ≠ some b → (Value.slice a' (xs.length + 1) c').ownBlock ≠ some b := fun b hb hne e => by
    rcases hv b e with e' | e'
    · exact hne e'
    · omega
  refine ⟨a', c', w', hr, ⟨?_, fun y hy => ?_, ?_, fun b hb => ?_⟩, hb⟩
  · rw [List.length_append, List.flatMap_append]
    simpa using ho
  · rw [List.mem_append, List.mem_singleton] at hy
    rcases hy with hy | rfl
    · exact (h2 y hy).keepB fun b o u hb hu hc => by
        have hm : b ∈ xs.flatMap XT.bl := List.mem_flatMap.2 ⟨y, hy, hb⟩
        exact ⟨hu, by rw [cellH (hk b (hall b hm).2 (h4 b hm).1)]; exact hc⟩
    · exact hx.keepB fun b o u hb hu hc => ⟨hu, by rw [cellH (hk b (hxl b hb).1 (hvx b hb))]; exact hc⟩
  · rw [List.flatMap_append, List.nodup_append]
    refine ⟨h3, by simpa using hnd, ?_⟩
    intro b hb b' hb' e
    subst e
    exact hdis b (by simpa using hb') hb
  · rw [List.flatMap_append, List.mem_append] at hb
    rcases hb with hb | hb
    · exact ⟨hown b (hall b hb).2 (h4 b hb).1, (h4 b hb).2.same (hk b (hall b hb).2 (h4 b hb).1)⟩
    · have hb : b ∈ x.bl := by simpa using hb
      exact ⟨hown b (hxl b hb).1 (hvx b hb), (hfz b hb).same (hk b (hxl b hb).1 (hvx b hb))⟩
theorem OwnX.xk {e : TypeId} {w : World} {base : Nat} {a : Option Addr} {n c : Nat} {xs : List XT} (h : OwnX e w base (.slice a n c) xs) (f : Int) : n = xs.length ∧ XR (fun b _ => base ≤ b) w ⟨f, a, c, xs⟩ ∧ (XT.mk f a c xs).bl.Nodup ∧ ∀ b ∈ (XT.mk f a c xs).bl, Fz w b := by
  obtain ⟨h1, h2, h3, h4⟩ := h
  obtain ⟨a', c', e1, e2, e3, e4, e5⟩ := ownsRow_cs h1
  cases e1
  have hbb : ∀ b ∈ (XT.mk f a c xs).bb, a.map (·.block) = some b := fun b hb => by
    unfold XT.bb at hb
    split at hb
    · rename_i ad y ys q1 q2
      have q1 : a = some ad := q1
      rw [List.mem_singleton] at hb
      rw [q1, hb]; rfl
    · cases hb
  refine ⟨rfl, ?_, ?_, ?_⟩
  · rw [xr_iff]
    refine ⟨⟨e2, e3, fun h => by have := e4 h; exact this, ?_⟩, h2⟩
    rcases e5 with h | ⟨b, off, ha, hlt, hc⟩
    · have hx : xs = [] := by
        have := cs_len xs
        rw [h] at this
        exact List.eq_nil_of_length_eq_zero (by simp at this; omega)
      subst hx
      exact ⟨0, 0, fun h => absurd rfl h, fun i y hy => by simp at hy⟩
    · subst ha
      have hbase : xs ≠ [] → base ≤ b := fun hne => by
        rcases h1.2 with ⟨q1, q2⟩ | ⟨g, cap, cur, q1, q2, _⟩
        · cases q1
        · cases q1; exact q2
      refine ⟨b, off, fun _ => rfl, fun i y hy => ?_⟩
      have hil : i < xs.length := by
        rcases Nat.lt_or_ge i xs.length with h | h
        · exact h
        · rw [List.getElem?_eq_none h] at hy; cases hy
      have hy2 : xs[i]? = some y := hy
      obtain ⟨k1, k2⟩ := cs_at hy2
      have hl := cs_len xs
      have hne : xs ≠ [] := fun e => by rw [e] at hil; simp at hil
      exact ⟨⟨hbase hne, by rw [hc (2 * i) (by omega), k1]⟩, hbase hne, by rw [hc (2 * i + 1) (by omega), k2]⟩
  · rw [XT.bl_eq, List.nodup_append]
    refine ⟨?_, h3, ?_⟩
    · unfold XT.bb; split <;> simp
    · rintro b hb b' hb' rfl
      have h5 := hbb b hb
      cases ha : a with
      | none => rw [ha] at h5; cases h5
      | some ad =>
        rw [ha] at h5
        have h5 : ad.block = b := by simpa using h5
        refine (h4 b hb').1 ?_
        rcases h1.2 with ⟨q1, q2⟩ | ⟨g, cap, cur, q1, q2, _⟩
        · rw [ha] at q1; cases q1
        · rw [ha] at q1
          injection q1 with q1 _ _
          injection q1 with q1
          subst q1
          rw [ha]
          show (Value.slice (some ⟨g, 0, none⟩) xs.length c).ownBlock = some b
          rw [← h5]
          rfl
  · intro b hb
    rw [XT.bl_eq, List.mem_append] at hb
    rcases hb with hb | hb
    · have h5 := hbb b hb
      rcases h1.2 with ⟨q1, q2⟩ | ⟨g, cap, cur, q1, q2, q3, _⟩
      · injection q1 with q1 _ _; rw [q1] at h5; cases h5
      · injection q1 with q1 _ _
        rw [q1] at h5
        have h5 : g = b := by simpa using h5
        subst h5
        exact ⟨_, _, q3⟩
    · exact (h4 b hb).2
end Go.Proofs.Ytekboofbedakcaa
namespace Go.Proofs.Ytekboofbedakcaa
open Go.RowKit Go.MapKept
set_option linter.unusedVariables false
set_option linter.unusedSimpArgs false
def LdOk (U : Nat → Nat → Prop) (w : World) (b off : Nat) (c : CV) : Prop := ∃ xs, Rep U w c xs ∧ ∀ i, i < xs.length → U b (off + i) ∧ w.cell? ⟨b, off + i, none⟩ = xs[i]?
abbrev ptrV (b off : Nat) : CV := .sc (.pointer (some ⟨b, off, none⟩))
def XAt (U : Nat → Nat → Prop) (w : World) (b off : Nat) (x : XT) : Prop := XR U w x ∧ (U b off ∧ w.cell? ⟨b, off, none⟩ = some (.int .i64 x.f)) ∧ (U b (off + 1) ∧ w.cell? ⟨b, off + 1, none⟩ = some x.h)
theorem XAt.keep {U V : Nat → Nat → Prop} {w w' : World} {b off : Nat} {x : XT} (hs : ∀ b o v, U b o → w.cell? ⟨b, o, none⟩ = some v → V b o ∧ w'.cell? ⟨b, o, none⟩ = some v) (h : XAt U w b off x) : XAt V w' b off x := ⟨h.1.keep hs, hs _ _ _ h.2.1.1 h.2.1.2, hs _ _ _ h.2.2.1 h.2.2.2⟩
theorem flat2_at {α β : Type} (p q : α → β) : ∀ (l : List α) (i : Nat), i < (l.flatMap fun y => [p y, q y]).length → ∃ y, l[i / 2]? = some y ∧ (l.flatMap fun y => [p y, q y])[i]? = some (if i % 2 = 0 then p y else q y)
  | [], i, h => by simp at h
  | x :: l, 0, h => ⟨x, rfl, rfl⟩
  | x :: l, 1, h => ⟨x, rfl, rfl⟩
  | x :: l, i + 2, h => by
    rw [List.flatMap_cons, List.length_append] at h
    obtain ⟨y, h1, h2⟩ := flat2_at p q l i (by simp at h ⊢; omega)
    refine ⟨y, by rw [show (i + 2) / 2 = i / 2 + 1 by omega]; exact h1, ?_⟩
    rw [List.flatMap_cons, show (i + 2) % 2 = i % 2 by omega, ← h2]
    rw [List.getElem?_append_right (by simp)]
    simp
theorem rep_of_xr {U : Nat → Nat → Prop} {w : World} : ∀ {x : XT}, XR U w x → Rep U w (.lst (x.l.map XT.cv)) [x.h] := by
  intro x
  induction x using XT.ind with
  | h f a c l ih =>
    intro h
    rw [xr_iff] at h
    obtain ⟨⟨h1, h2, h3, g, off, h4, h5⟩, h6⟩ := h
    have hsq : ∀ l' : List XT, (∀ y ∈ l', y ∈ l) → Sq ((l'.map XT.cv).map fun c => Rep U w c) (l'.flatMap fun y => [.int .i64 y.f, y.h]) := by
      intro l'
      induction l' with
      | nil => intro _; rfl
      | cons y l' ih2 =>
        intro hm
        refine ⟨[.int .i64 y.f, y.h], _, rfl, ?_, ih2 fun z hz => hm z (List.mem_cons_of_mem _ hz)⟩
        show Rep U w y.cv _
        rw [XT.cv_eq]
        exact rep_row.2 ⟨[.int .i64 y.f], [y.h], rfl, rep_int _ _, [y.h], [], rfl, ih y (hm y (by simp)) (h6 y (hm y (by simp))), rfl⟩
    refine rep_lst.2 ⟨a, l.length, c, rfl, by simp, h1, h2, h3, _, ?_, hsq l fun _ h => h⟩
    by_cases hl : l = []
    · exact .inl (by rw [hl]; rfl)
    · refine .inr ⟨g, off, h4 hl, fun i hi => ?_⟩
      obtain ⟨y, hy, hv⟩ := flat2_at (fun y : XT => Value.int .i64 y.f) XT.h l i hi
      obtain ⟨⟨a1, a2⟩, b1, b2⟩ := h5 (i / 2) y hy
      rw [hv]
      by_cases he : i % 2 = 0
      · rw [if_pos he]
        rw [show 2 * (i / 2) = i by omega] at a1 a2
        exact ⟨a1, a2⟩
      · rw [if_neg he]
        rw [show 2 * (i / 2) + 1 = i by omega] at b1 b2
        exact ⟨b1, b2⟩
theorem xr_of_rep {U : Nat → Nat → Prop} {w : World} : ∀ (t : Tm) (xs : List Value), Rep U w t.cv xs → ∃ x : XT, x.tm = t ∧ xs = [.int .i64 x.f, x.h] ∧ XR U w x := by
  intro t
  induction t using Tm.ind with
  | h f l ih =>
    intro xs h
    rw [Tm.cv_eq] at h
    obtain ⟨y1, y2, e1, h1, y3, y4, e2, h2, h3⟩ := rep_row.1 h
    obtain ⟨rfl, _⟩ := rep_sc.1 h1
    obtain ⟨a, n, c, rfl, g2, g3, g4, g5, zs, g6, g7⟩ := rep_lst.1 h2
    have h3 : y4 = [] := h3
    subst h3
    have key : ∀ (l' : List Tm) (zs : List Value), (∀ t ∈ l', t ∈ l) → Sq ((l'.map Tm.cv).map fun c => Rep U w c) zs → ∃ xs : List XT, xs.map XT.tm = l' ∧ zs = xs.flatMap XT.cs ∧ ∀ x ∈ xs, XR U w x := by
      intro l'
      induction l' with
      | nil => intro zs _ hz; have hz : zs = [] := hz; exact ⟨[], rfl, hz, fun x hx => by cases hx⟩
      | cons t l' ih2 =>
        rintro zs hm ⟨ys, us, rfl, k1, k2⟩
        obtain ⟨x, q1, q2, q3⟩ := ih t (hm t (by simp)) ys k1
        obtain ⟨xs, r1, r2, r3⟩ := ih2 us (fun s hs => hm s (List.mem_cons_of_mem _ hs)) k2
        refine ⟨x :: xs, by rw [List.map_cons, q1, r1], by rw [List.flatMap_cons, q2, r2]; rfl, fun y hy => ?_⟩
        rcases List.mem_cons.1 hy with rfl | hy
        · exact q3
        · exact r3 y hy
    obtain ⟨xs', r1, r2, r3⟩ := key l zs (fun _ h => h) g7
    have hlen : n = xs'.length := by rw [g2, List.length_map, ← r1, List.length_map]
    refine ⟨⟨f, a, c, xs'⟩, by rw [XT.tm_eq, r1], by rw [e1, e2, hlen]; rfl, ?_⟩
    rw [xr_iff]
    refine ⟨⟨by show xs'.length ≤ c; omega, g4, fun h => by have := g5 h; exact ⟨by show xs'.length = 0; omega, this.2⟩, ?_⟩, r3⟩
    rcases g6 with g6 | ⟨b, off, g6, g8⟩
    · have hx : xs' = [] := by
        have := cs_len xs'
        rw [← r2, g6] at this
        exact List.eq_nil_of_length_eq_zero (by simp at this; omega)
      subst hx
      exact ⟨0, 0, fun h => absurd rfl h, fun i y hy => by simp at hy⟩
    · refine ⟨b, off, fun _ => g6, fun i y hy => ?_⟩
      have hy2 : xs'[i]? = some y := hy
      have hil : i < xs'.length := by
        rcases Nat.lt_or_ge i xs'.length with h | h
        · exact h
        · rw [List.getElem?_eq_none h] at hy2; cases hy2
      obtain ⟨k1, k2⟩ := cs_at hy2
      have hl := cs_len xs'
      rw [← r2] at k1 k2 hl
      have a1 := g8 (2 * i) (by omega)
      have a2 := g8 (2 * i + 1) (by omega)
      rw [k1] at a1
      rw [k2] at a2
      exact ⟨a1, a2⟩
theorem XAt.ld {U : Nat → Nat → Prop} {w : World} {b off : Nat} {x : XT} (h : XAt U w b off x) : LdOk U w b off x.tm.cw := by
  refine ⟨[.int .i64 x.f, x.h], ?_, fun i hi => ?_⟩
  · rw [← Tm.cv_eq, ← XT.cv_tm, XT.cv_eq]
    exact rep_row.2 ⟨[.int .i64 x.f], [x.h], rfl, rep_int _ _, [x.h], [], rfl, rep_of_xr h.1, rfl⟩
  · match i, hi with
    | 0, _ => exact h.2.1
    | 1, _ => exact h.2.2
theorem XAt.ldl {U : Nat → Nat → Prop} {w : World} {b off : Nat} {x : XT} (h : XAt U w b off x) : LdOk U w b (off + 1) (.lst (x.tm.l.map Tm.cv)) := by
  refine ⟨[x.h], ?_, fun i hi => ?_⟩
  · rw [XT.tm_l, ← cvs_tm]; exact rep_of_xr h.1
  · match i, hi with
    | 0, _ => exact h.2.2
theorem XAt.ldh {U : Nat → Nat → Prop} {w : World} {b off : Nat} {x : XT} (h : XAt U w b off x) : LdOk U w b (off + 1) (.sc x.h) := by
  refine ⟨[x.h], rep_sc.2 ⟨rfl, rfl⟩, fun i hi => ?_⟩
  match i, hi with
  | 0, _ => exact h.2.2
theorem XAt.child {U : Nat → Nat → Prop} {w : World} {b off : Nat} {x y : XT} (h : XAt U w b off x) {i : Nat} (hy : x.l[i]? = some y) : ∃ g o1, x.a = some ⟨g, o1, none⟩ ∧ XAt U w g (o1 + 2 * i) y := by
  obtain ⟨⟨h1, h2, h3, g, o1, h4, h5⟩, h6⟩ := xr_iff.1 h.1
  have hne : x.l ≠ [] := fun e => by rw [e] at hy; simp at hy
  obtain ⟨a1, a2⟩ := h5 i y hy
  exact ⟨g, o1, h4 hne, h6 y (List.mem_of_getElem? hy), a1, by rw [Nat.add_assoc]; exact a2⟩

section
variable {P : Program} {w0 : World} {U0 : UX} {nt : Nat} {ops : Array Oper} {o : Oper} {S : Nat → Option AV} {gs : List Nat} {d : Nat}
theorem LdOk.now {W : World} (hW : Hw W w0 U0) {b off : Nat} {c : CV} (h : LdOk U0.m w0 b off c) {s : AS} {a : Act} {w : World} {D : Nat → Nat → Prop} {hv : Nat → Value} (hm : SimG w0 U0 nt s a w D hv) : LdOk (Us w0 U0 D) w b off c := by
  have hb := hm.below.below hW.2
  have hk : ∀ b o v, U0.m b o → w0.cell? ⟨b, o, none⟩ = some v → Us w0 U0 D b o ∧ w.cell? ⟨b, o, none⟩ = some v := fun b o v hu hc => by
    have hlt := World.block_lt_of_cell? w0 _ hc
    exact ⟨.inl ⟨hlt, hu, hW.2 b⟩, by rw [cellH (hb.block b hlt)]; exact hc⟩
  obtain ⟨xs, h1, h2⟩ := h
  refine ⟨xs, h1.keep hk, fun i hi => ?_⟩
  obtain ⟨h3, h4⟩ := h2 i hi
  rw [List.getElem?_eq_getElem hi] at h4 ⊢
  exact hk _ _ _ h3 h4
theorem a_loadZ {W : World} (hW : Hw W w0 U0) {b off : Nat} {c : CV} (hq : LdOk U0.m w0 b off c) (hg : Gd w0 U0 nt ops o gs S) (hd : o.dst = some d) (hn : Nat.blt d nt = true) (h5 : Nat.blt d 100000 = true) {x : Operand} {ty : TypeId} {ds : TypeDesc} {z n q p} (ho : o.op = .load ty x) (hu : P.underlying ty = some ds) (hi : (P.info? ty).map (·.size) = some z) (hx : ev S x = some ⟨0, ptrV b off, n, q, p⟩) (hk : aggB ds = Nat.beq c.k 2) (hz : c.size = z) : AOp P w0 U0 nt ops o (gs ++ rd x) [] S [(d, .val c)] :=
  aop_val hg hd hn h5 (fun k hk => List.mem_append_left _ hk) fun s hs a w D hv hm => by
    have h1 := ev_sc hm (fun k hk => hs k (List.mem_append_right _ hk)) hx
    obtain ⟨xs, h2, h3⟩ := hq.now hW hm
    obtain ⟨v, h4, h6, _⟩ := run_loadTree hu hi hk hz h2 (b := b) (off := off) (fun i hi => (h3 i hi).2)
    refine ⟨v, ?_, avrep_val h6⟩
    generalize a.eval = ρ at h1 ⊢
    simp [execOp, ho, Instr.loadAt, Instr.sureAddr, h1, h4]
theorem a_fieldZ (hg : Gd w0 U0 nt ops o gs S) (hd : o.dst = some d) (hn : Nat.blt d nt = true) (h5 : Nat.blt d 100000 = true) {b off : Nat} {x : Operand} {ty : TypeId} {fs : Array Field} {i : Nat} {f : Field} {z n q p} (ho : o.op = .fieldAddr ty x i) (hu : P.underlying ty = some (.struct fs)) (hf : fs[i]? = some f) (hz : (P.info? f.type).map (·.size) = some z) (hz0 : Nat.beq z 0 = false) (hx : ev S x = some ⟨0, ptrV b off, n, q, p⟩) : AOp P w0 U0 nt ops o (gs ++ rd x) [] S [(d, .val (ptrV b (off + f.offset)))] :=
  aop_val hg hd hn h5 (fun k hk => List.mem_append_left _ hk) fun s hs a w D hv hm => by
    have h1 := ev_sc hm (fun k hk => hs k (List.mem_append_right _ hk)) hx
    have hsz := run_sizeOf (P := P) (w := w) hz
    have hz1 : z ≠ 0 := fun e => by rw [e] at hz0; cases hz0
    refine ⟨.pointer (some ⟨b, off + f.offset, none⟩), ?_, avrep_sc rfl⟩
    have hadd := add_at b off f.offset
    generalize a.eval = ρ at h1 ⊢
    simp [execOp, ho, Instr.fieldAt, run_underlying hu, hf, Instr.sureAddr, h1, fieldPlace, hsz, hz1, hadd]
theorem a_nilZ (hg : Gd w0 U0 nt ops o gs S) (hd : o.dst = some d) (hn : Nat.blt d nt = true) (h5 : Nat.blt d 100000 = true) {b off : Nat} {x : Operand} {n q p} (ho : o.op = .nilCheck x) (hx : ev S x = some ⟨0, ptrV b off, n, q, p⟩) : AOp P w0 U0 nt ops o (gs ++ rd x) [] S [(d, .val (ptrV b off))] :=
  aop_val hg hd hn h5 (fun k hk => List.mem_append_left _ hk) fun s hs a w D hv hm => by
    have h1 := ev_sc hm (fun k hk => hs k (List.mem_append_right _ hk)) hx
    refine ⟨.pointer (some ⟨b, off, none⟩), ?_, avrep_sc rfl⟩
    generalize a.eval = ρ at h1 ⊢
    simp [execOp, ho, h1]
theorem a_indexZ (j : Nat) (hg : Gd w0 U0 nt ops o gs S) (hd : o.dst = some d) (hn : Nat.blt d nt = true) (h5 : Nat.blt d 100000 = true) {g off len cap z : Nat} {ao : Option Addr} {x y : Operand} {ty e : TypeId} {kd : IntKind} {i : Int} {n q p n' q' p'} (ho : o.op = .indexAddr ty x y) (hu : P.underlying ty = some (.slice e)) (hi : (P.info? e).map (·.size) = some z) (hx : ev S x = some ⟨0, .sc (.slice ao len cap), n, q, p⟩) (hy : ev S y = some ⟨0, .sc (.int kd i), n', q', p'⟩) (ha : ao = some ⟨g, off, none⟩) (hij : i = (j : Int)) (hj : j < len) : AOp P w0 U0 nt ops o (gs ++ (rd x ++ rd y)) [] S [(d, .val (ptrV g (off + j * z)))] :=
  aop_val hg hd hn h5 (fun k hk => List.mem_append_left _ hk) fun s hs a w D hv hm => by
    have e1 := ev_sc hm (fun k hk => hs k (List.mem_append_right _ (List.mem_append_left _ hk))) hx
    have e2 := ev_sc hm (fun k hk => hs k (List.mem_append_right _ (List.mem_append_right _ hk))) hy
    have hsz := run_sizeOf (P := P) (w := w) hi
    subst hij
    subst ha
    refine ⟨.pointer (some ⟨g, off + j * z, none⟩), ?_, avrep_sc rfl⟩
    have hadd := add_at g off (j * z)
    generalize a.eval = ρ at e1 e2 ⊢
    simp [execOp, ho, Instr.indexAt, asIntOf, e1, e2, run_underlying hu, hj, hsz, hadd]
end

section
variable {P : Program} {w0 : World} {U0 : UX} {nt : Nat} {ops : Array Oper} {o : Oper} {S : Nat → Option AV} {gs : List Nat} {d : Nat}
theorem a_lenZ (hg : Gd w0 U0 nt ops o gs S) (hd : o.dst = some d) (hn : Nat.blt d nt = true) (h5 : Nat.blt d 100000 = true) {x : Operand} {ts : Array TypeId} {ao : Option Addr} {len cap : Nat} {n q p} (ho : o.op = .call { callee := .builtin .len, args := #[x], argTypes := ts }) (hu : ((ts[0]?).bind fun t => (P.underlying t).bind fun d => match d with | .slice e => some e | _ => none).isSome = true) (hx : ev S x = some ⟨0, .sc (.slice ao len cap), n, q, p⟩) : AOp P w0 U0 nt ops o (gs ++ rd x) [] S [(d, .val (.i len))] :=
  aop_val hg hd hn h5 (fun k hk => List.mem_append_left _ hk) fun s hs a w D hv hm => by
    have e1 := ev_sc hm (fun k hk => hs k (List.mem_append_right _ hk)) hx
    refine ⟨.int .i64 len, ?_, avrep_sc rfl⟩
    cases ht : ts[0]? with
    | none => rw [ht] at hu; cases hu
    | some t =>
      rw [ht] at hu
      cases hd' : P.underlying t with
      | none => simp [hd'] at hu
      | some ds =>
        cases ds with
        | slice e =>
          generalize a.eval = ρ at e1 ⊢
          simp [execOp, ho, resolve, invoke, builtin, Builtin.len_, ht, e1, goInt, run_underlying hd', go_sem]
        | _ => simp [hd'] at hu
end

/-! ### Ends of two kinds -/
def UE : UX := ⟨fun _ _ => False, fun _ => False, fun _ => none, fun _ _ h => by cases h⟩
structure FRel (X : Nat → Prop) (F : World → World → Prop) : Prop where
  up : ∀ A B C, F A B → Below B.heap.size B C → F A C
  pre : ∀ A B C, Below A.heap.size A B → F B C → F A C
  out : ∀ A B, F A B → A.heap.size ≤ B.heap.size ∧ ∀ b, ¬ X b → b < A.heap.size → B.heap[b]? = A.heap[b]?
def YT (P : Program) (w0 : World) (l : Nat) (cs : List CV) : Prop := ∀ (R : Nat → Nat → Prop) (w : World) (vs : List Value), Below w0.heap.size w0 w → VReps R w cs vs → YieldAt Fence.wide 1 P l vs.toArray w fun e w' => e = .returned (.bool true) ∧ Below w.heap.size w w'
def YF (P : Program) (w0 : World) (l : Nat) (cs : List CV) (F : World → World → Prop) : Prop := ∀ (R : Nat → Nat → Prop) (w : World) (vs : List Value), Below w0.heap.size w0 w → VReps R w cs vs → YieldAt Fence.wide 1 P l vs.toArray w fun e w' => e = .returned (.bool false) ∧ F w w'
theorem YT.up {P : Program} {w0 w : World} {l : Nat} {cs : List CV} (h : YT P w0 l cs) (hb : Below w0.heap.size w0 w) : YT P w l cs := fun R w' vs h1 h2 => h R w' vs (hb.trans (h1.mono hb.size)) h2
theorem YF.up {P : Program} {w0 w : World} {l : Nat} {cs : List CV} {F : World → World → Prop} (h : YF P w0 l cs F) (hb : Below w0.heap.size w0 w) : YF P w l cs F := fun R w' vs h1 h2 => h R w' vs (hb.trans (h1.mono hb.size)) h2
def AFunF (P : Program) (q : (Nat → Nat → Prop) → World → Prop) (f : FuncId) (args : List CV) (r : AV) (F : World → World → Prop) : Prop :=
  EntF P f ∧ (r.t = 0 ∨ r.t = 4) ∧ r.n = 0 ∧ ∀ (U : Nat → Nat → Prop) (w : World) (vs : List Value), q U w → VReps U w args vs →
    Calls P f vs.toArray w fun e w' => ∃ v, e = .returned v ∧ RR (fun _ _ => False) w' r v ∧ F w w'

section
variable {P : Program} {w0 : World} {U0 : UX} {nt : Nat} {s : AS} {F : World → Prop}
def AWpZ (P : Program) (w0 : World) (U0 : UX) (nt : Nat) (F : World → Prop) (c : Code) (Q Qf : Exit → AS → Prop) (s : AS) : Prop :=
  ∀ M a w, Sim w0 U0 nt s a w → WP P M c (fun e a' w' => (∃ s', Q e s' ∧ Sim w0 U0 nt s' a' w') ∨ ∃ w1 s', F w1 ∧ Qf e s' ∧ Sim w1 UE nt s' a' w') a w
variable {Q Qf : Exit → AS → Prop}
theorem awpz_of {c : Code} (h : AWp P w0 U0 nt c Q s) : AWpZ P w0 U0 nt F c Q Qf s := fun M a w hs => WP_mono (h M a w hs) fun _ _ _ h => .inl h
theorem AWpZ.wk {c : Code} {s' : AS} (h : Wk w0 U0 nt s s') (h2 : AWpZ P w0 U0 nt F c Q Qf s') : AWpZ P w0 U0 nt F c Q Qf s := fun M a w hs => h2 M a w (h a w hs)
def thenZ (P : Program) (w0 : World) (U0 : UX) (nt : Nat) (F : World → Prop) (y : Code) (Q Qf : Exit → AS → Prop) : Exit → AS → Prop
  | .normal, s => AWpZ P w0 U0 nt F y Q Qf s
  | e, s => Q e s
def thenZF (P : Program) (nt : Nat) (F : World → Prop) (y : Code) (Qf : Exit → AS → Prop) : Exit → AS → Prop
  | .normal, s => ∀ w1, F w1 → AWp P w1 UE nt y Qf s
  | e, s => Qf e s
theorem awpz_seq {x y : Code} (h : AWpZ P w0 U0 nt F x (thenZ P w0 U0 nt F y Q Qf) (thenZF P nt F y Qf) s) : AWpZ P w0 U0 nt F (.seq x y) Q Qf s := fun M a w hs =>
  WP_seq (WP_mono (h M a w hs) fun e a' w' h => by
    rcases h with ⟨s', h1, h2⟩ | ⟨w1, s', h0, h1, h2⟩
    · cases e with
      | normal => exact h1 M a' w' h2
      | _ => exact .inl ⟨s', h1, h2⟩
    · cases e with
      | normal => exact WP_mono (h1 w1 h0 M a' w' h2) fun _ _ _ ⟨s2, k1, k2⟩ => .inr ⟨w1, s2, h0, k1, k2⟩
      | _ => exact .inr ⟨w1, s', h0, h1, h2⟩)
theorem blockQ_in {id : Nat} {Q : Exit → AS → Prop} {e : Exit} {s : AS} {X : Exit → Act → World → Prop} {a : Act} {w : World} (h : blockQ id Q e s) (hX : ∀ e, Q e s → X e a w) : Exit.inBlock id X e a w := by
  cases e with
  | exit id' =>
    by_cases e : id' = id
    · subst e
      simp only [blockQ, Nat.beq_refl] at h
      simp only [Exit.inBlock, if_true]
      exact hX _ h
    · have : Nat.beq id' id = false := by
        cases hb : Nat.beq id' id with
        | false => rfl
        | true => exact absurd (Nat.eq_of_beq_eq_true hb) e
      simp only [blockQ, this] at h
      simp only [Exit.inBlock, if_neg e]
      exact hX _ h
  | _ => exact hX _ h
theorem awpz_block {id : Nat} {c : Code} (h : AWpZ P w0 U0 nt F c (blockQ id Q) (blockQ id Qf) s) : AWpZ P w0 U0 nt F (.block id c) Q Qf s := fun M a w hs =>
  WP_block (WP_mono (h M a w hs) fun e a' w' h => by
    rcases h with ⟨s', h1, h2⟩ | ⟨w1, s', h0, h1, h2⟩
    · exact blockQ_in h1 fun e h => .inl ⟨s', h, h2⟩
    · exact blockQ_in h1 fun e h => .inr ⟨w1, s', h0, h, h2⟩)
def loopZF (Qf : Exit → AS → Prop) : Exit → AS → Prop
  | .normal, _ => False
  | e, s => Qf e s
theorem awpz_countI {c : Code} (N : Nat) (I : Nat → Prop) (st : Nat → AS) (hs0 : Wk w0 U0 nt s (st 0)) (hI : I 0) (hr : ∀ k, k ≤ N → I k → AWpZ P w0 U0 nt F c (countQI w0 U0 nt I st N k Q) (loopZF Qf) (st k)) : AWpZ P w0 U0 nt F (.loop c) Q Qf s := fun M a w hs => by
  classical
  let p : Act → World → Nat → Prop := fun a w n => ∃ k, k ≤ N ∧ I k ∧ n = N - k ∧ Sim w0 U0 nt (st k) a w
  let μ : Act → World → Nat := fun a w => if h : ∃ n, p a w n then Classical.choose (least _ h) else 0
  have hμ : ∀ a w n, p a w n → p a w (μ a w) ∧ μ a w ≤ n := fun a w n hn => by
    have h : ∃ n, p a w n := ⟨n, hn⟩
    have := Classical.choose_spec (least _ h)
    simp only [μ, dif_pos h]
    exact ⟨this.1, this.2 n hn⟩
  refine WP_loop (fun a w => ∃ n, p a w n) μ ⟨N - 0, 0, Nat.zero_le _, hI, rfl, hs0 a w hs⟩ (fun a w ⟨n, k, _, _, _, h2⟩ => h2.df) ?_
  rintro a w ⟨n, hn⟩
  obtain ⟨⟨k, h1, h2, h3, h4⟩, _⟩ := hμ a w n hn
  refine WP_mono (hr k h1 h2 M a w h4) ?_
  intro e a' w' h
  rcases h with ⟨s', g1, g2⟩ | ⟨w1, s', g0, g1, g2⟩
  · cases e with
    | normal =>
      have := hμ a' w' (N - (k + 1)) ⟨k + 1, g1.1, g1.2.1, rfl, g1.2.2 a' w' g2⟩
      exact ⟨⟨_, this.1⟩, by have := g1.1; omega⟩
    | _ => exact .inl ⟨s', g1, g2⟩
  · cases e with
    | normal => exact g1.elim
    | _ => exact .inr ⟨w1, s', g0, g1, g2⟩
abbrev kpS (kp : List (Nat × Value)) : AS := kp.map fun q => (q.1, .val (.sc q.2))
theorem sim_one {a : Act} {w w' : World} (hs : Sim w0 U0 nt s a w) {dd : Nat} (hn : Nat.blt dd nt = true) (h5 : Nat.blt dd 100000 = true) {r : AV} {v : Value} (hr : (r.t = 0 ∨ r.t = 4) ∧ r.n = 0) (hv : RR (fun _ _ => False) w' r v) (kp : List (Nat × Value)) (hkp : SubL s (kpS kp)) (hk5 : (kp.all fun q => Nat.blt q.1 100000) = true) : Sim w' UE nt ((dd, r) :: kpS kp) (a.put (some dd) v) w' := by
  obtain ⟨D, hv0, h⟩ := hs
  rw [List.all_eq_true] at hk5
  have hlow : ∀ {k av}, look (kpS kp) k = some av → ∃ q ∈ kp, k = q.1 ∧ av = .val (.sc q.2) := fun {k av} h1 => by
    obtain ⟨q, hq, he⟩ := List.mem_map.1 (look_mem h1)
    injection he with e1 e2
    exact ⟨q, hq, e1.symm, e2.symm⟩
  have hlt : ∀ {k av}, look (kpS kp) k = some av → k < 100000 := fun {k av} h1 => by
    obtain ⟨q, hq, rfl, _⟩ := hlow h1
    exact bL (hk5 q hq)
  have h0 : SimG w' UE nt (kpS kp) a w' (fun _ _ => False) (fun _ => .slice none 0 0) := by
    refine ⟨BelowX.refl _ _, h.dfr, h.size, fun d av h1 h2 => ?_, fun n o av h1 h2 h3 h4 => ?_, fun n o o' av av' h1 h2 => ?_, fun k av h1 h2 => ?_, fun k av g h1 h2 => ?_, fun k k' av av' g h1 h2 h3 h4 => ?_, fun k v h1 => (by cases h1), fun b o hd => hd.elim⟩
    · obtain ⟨q, hq, rfl, rfl⟩ := hlow h1
      obtain ⟨v, g1, g2⟩ := h.slot q.1 _ (hkp.sub _ _ h1) h2
      obtain ⟨rfl, g3⟩ := vrep_sc.1 g2.1
      exact ⟨_, g1, avrep_sc g3⟩
    · have := hlt h1; unfold fKey at this; omega
    · have := hlt h1; unfold fKey at this; omega
    · have := hlt h1; have := h2.1; omega
    · have := hlt h1; have := h2.1; omega
    · have := hlt h1; have := h3.1; omega
  refine ⟨_, _, h0.put (bL hn) (bL h5) (avrep_rr hr.1 hr.2 ?_)⟩
  unfold RR at hv ⊢
  split
  · rename_i ht
    rw [if_pos ht] at hv
    obtain ⟨vs, h1, h2⟩ := hv
    exact ⟨vs, h1, h2.keep fun b o v hu _ => hu.elim⟩
  · rename_i ht
    rw [if_neg ht] at hv
    exact hv.keep fun b o v hu _ => hu.elim
def FEnd (P : Program) (w0 : World) (U0 : UX) (nt : Nat) (ops : Array Oper) (o : Oper) (F : World → Prop) (r : AV) (s : AS) : Prop :=
  ((r.t = 0 ∨ r.t = 4) ∧ r.n = 0) ∧ ∀ (M : Md) a w, Sim w0 U0 nt s a w → ∀ (Q : Exit → Act → World → Prop) (K : Act → World → Prop), (∀ w' v, F w' → RR (fun _ _ => False) w' r v → K ((wdA a M.ds).put o.dst v) w') →
    Region.wanted o (yielded ops (wdA a M.ds).tmps) = true ∧ o.wpIn (wideR M.r) 1 P (wdA a M.ds) w K Q
theorem runY_app {M : Md} {ops : Array Oper} {Q : Exit → Act → World → Prop} {l2 : List Oper} : ∀ {l : List Oper} {s : AS} {K : AS → Prop}, RunY P w0 U0 nt ops l s K → (∀ s' a w, K s' → Sim w0 U0 nt s' a w → wpListIn (wideR M.r) 1 P ops Q l2 (wdA a M.ds) w) → ∀ a w, Sim w0 U0 nt s a w → wpListIn (wideR M.r) 1 P ops Q (l ++ l2) (wdA a M.ds) w
  | [], s, K, h, hK, a, w, hs => hK s a w h hs
  | o :: os, s, K, ⟨R, N, e, h1, h2, h3⟩, hK, a, w, hs => by
    rw [List.cons_append]
    unfold wpListIn
    exact h1 s (fun _ _ => rfl) (noRefB_spec h2) M a w hs _ _ (fun a' w' hs' => runY_app h3 hK a' w' hs')
theorem awpz_regionF {id : Nat} {l : List Oper} (j : Nat) (kp : List (Nat × Value)) {oo : Oper} {dd : Nat} {r : AV} (hj : l[j]? = some oo) (hdo : oo.dst = some dd) (hnd : Nat.blt dd nt = true) (h5d : Nat.blt dd 100000 = true)
    (hk5 : (kp.all fun q => Nat.blt q.1 100000) = true) (h : RunY P w0 U0 nt l.toArray (l.take j) s fun s1 => SubL s1 (kpS kp) ∧ FEnd P w0 U0 nt l.toArray oo F r s1) (h2 : ∀ w1, F w1 → RunY P w1 UE nt l.toArray (l.drop (j + 1)) ((dd, r) :: kpS kp) fun s' => Qf .normal s') : AWpZ P w0 U0 nt F (.region id l.toArray false) Q Qf s := by
  intro M a w hs
  refine wpIn_region_lit ?_
  have hsplit : l = l.take j ++ oo :: l.drop (j + 1) := by
    have hjl : j < l.length := by
      rcases Nat.lt_or_ge j l.length with h | h
      · exact h
      · rw [List.getElem?_eq_none h] at hj; cases hj
    conv => lhs; rw [← List.take_append_drop j l]
    congr 1
    rw [List.drop_eq_getElem_cons hjl]
    rw [List.getElem?_eq_getElem hjl] at hj
    injection hj with hj
    rw [hj]
  have key : wpListIn (wideR M.r) 1 P l.toArray (postW M fun e a' w' => (∃ s', Q e s' ∧ Sim w0 U0 nt s' a' w') ∨ ∃ w1 s', F w1 ∧ Qf e s' ∧ Sim w1 UE nt s' a' w') (l.take j ++ oo :: l.drop (j + 1)) (wdA a M.ds) w := by
    refine runY_app h ?_ a w hs
    rintro s1 a w ⟨hkp, hr, hF⟩ hs1
    unfold wpListIn
    obtain ⟨_, hF⟩ := hF M a w hs1 (postW M fun e a' w' => (∃ s', Q e s' ∧ Sim w0 U0 nt s' a' w') ∨ ∃ w1 s', F w1 ∧ Qf e s' ∧ Sim w1 UE nt s' a' w') (wpListIn (wideR M.r) 1 P l.toArray (postW M fun e a' w' => (∃ s', Q e s' ∧ Sim w0 U0 nt s' a' w') ∨ ∃ w1 s', F w1 ∧ Qf e s' ∧ Sim w1 UE nt s' a' w') (l.drop (j + 1))) (fun w' v hf hv => by
      rw [hdo, ← wd_put]
      exact runY_list (h2 w' hf) (fun s' a2 w2 k1 k2 => ⟨a2, rfl, .inr ⟨w', s', hf, k1, k2⟩⟩) _ _ (sim_one hs1 hnd h5d hr hv kp hkp hk5))
    rw [if_pos ‹_›]
    exact hF
  rw [← hsplit] at key
  exact key

variable {ops : Array Oper} {o : Oper} {S : Nat → Option AV} {gs : List Nat} {d : Nat}
theorem run_yieldOp {M : Md} {a : Act} {w : World} {x : Operand} {xs : Array Operand} {ts : Array TypeId} {l : Nat} {fn : FuncId} {tm : Array Value} {assign body : Code} (ho : o.op = .call { callee := .value x, args := xs, argTypes := ts }) (hfv : a.eval x = .func (.yield l) #[] #[]) (hy : (Instr.yield l (xs.toList.map a.eval).toArray).run P w = .ok (.round l fn tm assign body) w) : (o.semAt (wideR M.r).round (wdA a M.ds).eval).run P w = .ok (.round l fn tm assign body) w := by
  rw [Oper.semAt_eq _ _ _ (fun c hc => by rw [ho] at hc; cases hc), wd_eval]
  have harr : (xs.toList.map a.eval).toArray = xs.map a.eval := by apply Array.ext'; simp
  rw [harr] at hy
  generalize a.eval = ρ at hfv hy ⊢
  simp [execOp, ho, resolve, invoke, Deferred.ofValue, hfv, hy]
theorem a_yieldT {W : World} (hW : Hw W w0 U0) {l : Nat} {cs : List CV} (hY : YT P w0 l cs) (hg : Gd w0 U0 nt ops o gs S) (hd : o.dst = some d) (hn : Nat.blt d nt = true) (h5 : Nat.blt d 100000 = true) {x : Operand} {xs : Array Operand} {ts : Array TypeId} {n q p} (ho : o.op = .call { callee := .value x, args := xs, argTypes := ts }) (hf : ev S x = some ⟨0, yldV l, n, q, p⟩) (hx : evsO S xs.toList = some cs) : AOpY P w0 U0 nt ops o (gs ++ (rd x ++ rdl xs.toList)) [] S [(d, .val (.b true))] := by
  intro s hs hN M a w ⟨D, hv, h⟩ Q K hK
  show if Region.wanted o (yielded ops a.tmps) = true then _ else _
  rw [if_pos (hg s (fun k hk => hs k (List.mem_append_left _ hk)) a w D hv h)]
  have hfv : a.eval x = .func (.yield l) #[] #[] := ev_sc h (fun k hk => hs k (List.mem_append_right _ (List.mem_append_left _ hk))) hf
  have hargs := evsO_rep h (fun k hk => hs k (List.mem_append_right _ (List.mem_append_right _ hk))) hx
  obtain ⟨fn, tm, assign, body, hy, hR⟩ := hY _ w _ (h.below.below hW.2) hargs
  refine ⟨fun _ _ => trivial, ?_⟩
  rw [run_yieldOp ho hfv hy, Oper.uponIn_round]
  refine ⟨(fun hh => by cases hh), (roundIn_any (ro := M.r) hR).mono ?_⟩
  rintro e w' ⟨rfl, hb⟩
  have h10 := hK _ _ ⟨D, hv, (h.grow' hb).put (bL hn) (bL h5) (av := .val (.b true)) (v := .bool true) (avrep_sc rfl)⟩
  rw [hd]
  exact h10
theorem fend_yield {W : World} (hW : Hw W w0 U0) {X : Nat → Prop} {F : World → World → Prop} (hF : FRel X F) {l : Nat} {cs : List CV} (hY : YF P w0 l cs F) {s : AS} (hg : Gd w0 U0 nt ops o gs (look s)) {x : Operand} {xs : Array Operand} {ts : Array TypeId} {n q p} (ho : o.op = .call { callee := .value x, args := xs, argTypes := ts }) (hf : ev (look s) x = some ⟨0, yldV l, n, q, p⟩) (hx : evsO (look s) xs.toList = some cs) : FEnd P w0 U0 nt ops o (F w0) (.val (.b false)) s := by
  refine ⟨⟨.inl rfl, rfl⟩, fun M a w ⟨D, hv, h⟩ Q K hK => ⟨hg s (fun _ _ => rfl) a w D hv h, ?_⟩⟩
  have hfv : a.eval x = .func (.yield l) #[] #[] := ev_sc h (fun k hk => rfl) hf
  have hargs := evsO_rep h (fun k hk => rfl) hx
  obtain ⟨fn, tm, assign, body, hy, hR⟩ := hY _ w _ (h.below.below hW.2) hargs
  refine ⟨fun _ _ => trivial, ?_⟩
  rw [run_yieldOp ho hfv hy, Oper.uponIn_round]
  refine ⟨(fun hh => by cases hh), (roundIn_any (ro := M.r) hR).mono ?_⟩
  rintro e w' ⟨rfl, hb⟩
  exact hK w' (.bool false) (hF.pre _ _ _ (h.below.below hW.2) hb) (vrep_sc.2 ⟨rfl, rfl⟩)
theorem fend_call {W : World} {X : Nat → Prop} {F : World → World → Prop} (hF : FRel X F) {q : (Nat → Nat → Prop) → World → Prop} (hQ : QUp q) (hW : Hw W w0 U0) (hq : q U0.m w0) {f : FuncId} {cs : List CV} {r : AV} (hc : AFunF P q f cs r F) {s : AS} (hg : Gd w0 U0 nt ops o gs (look s)) {xs : Array Operand} {ts : Array TypeId} (ho : o.op = .call { callee := .value (.func f), args := xs, argTypes := ts }) (hx : evsO (look s) xs.toList = some cs) : FEnd P w0 U0 nt ops o (F w0) r s := by
  obtain ⟨h1, h2, h3, h4⟩ := hc
  refine ⟨⟨h2, h3⟩, fun M a w ⟨D, hv, h⟩ Q K hK => ⟨hg s (fun _ _ => rfl) a w D hv h, ?_⟩⟩
  have hargs := evsO_rep h (fun k hk => rfl) hx
  have hcall := h4 _ w _ (h.atQ hQ hW hq) hargs
  have he : (execOp a.eval o).run P w = .ok (.enter f (xs.toList.map a.eval).toArray) w := by
    have hf : a.eval (.func f) = .func (.func f) #[] #[] := rfl
    have hen := h1 (xs.map a.eval) w
    have harr : (xs.toList.map a.eval).toArray = xs.map a.eval := by apply Array.ext'; simp
    rw [harr]
    generalize a.eval = ρ at hf hen ⊢
    simp [execOp, ho, resolve, invoke, Deferred.ofValue, hf, hen]
  refine ⟨fun _ _ => trivial, ?_⟩
  rw [wd_eval, Oper.semAt_eq _ _ _ (fun c hc => by rw [ho] at hc; cases hc), he]
  refine ⟨(fun hh => by cases hh), callsIn_R (hcall.mono ?_)⟩
  rintro e w' ⟨v, rfl, h6, h7⟩
  exact hK w' v (hF.pre _ _ _ (h.below.below hW.2) h7) h6
theorem vreps_sc {U V : Nat → Nat → Prop} {w : World} : ∀ {cs : List CV} {vs : List Value}, (∀ c ∈ cs, ∃ v, c = .sc v) → VReps U w cs vs → VReps V w cs vs
  | [], _, _, h => h
  | c :: cs, vs, hc, ⟨u, us, e, h1, h2⟩ => by
    obtain ⟨v, rfl⟩ := hc c (by simp)
    exact ⟨u, us, e, vrep_sc.2 (vrep_sc.1 h1), vreps_sc (fun c h => hc c (List.mem_cons_of_mem _ h)) h2⟩
theorem rr_sc {U V : Nat → Nat → Prop} {w : World} {rs : List CV} {v : Value} (hc : ∀ c ∈ rs, ∃ v, c = .sc v) (h : RR U w (resAV rs) v) : RR V w (resAV rs) v := by
  match rs, hc, h with
  | [], _, h => exact h
  | [c], hc, h =>
    obtain ⟨u, rfl⟩ := hc c (by simp)
    exact vrep_sc.2 (vrep_sc.1 h)
  | c :: d :: rs, hc, h =>
    obtain ⟨vs, h1, h2⟩ := h
    exact ⟨vs, h1, vreps_sc hc h2⟩
theorem afunF_of {X : Nat → Prop} {F : World → World → Prop} {q : (Nat → Nat → Prop) → World → Prop} {f : FuncId} {fn : Func} {c : Code} {args rs : List CV} (hf : P.funcs[f]? = some fn) (hn : fn.ntmps = nt) (hname : (fn.name == "runtime.NumGoroutine") = false) (hb : fn.body = some c) (hl : Nat.ble args.length nt = true) (hnt : Nat.blt nt 100000 = true) (hF : FRel X F) (hsc : ∀ c ∈ rs, ∃ v, c = .sc v)
    (h : ∀ (w : World) (U : UX), Hw w w U → q U.m w → AWpZ P w U nt (F w) c (fun _ _ => False) (fun e s' => (e = .normal ∨ e = .ret) ∧ resO P s' fn.results.toList = some rs) (argS args 0)) : AFunF P q f args (resAV rs) F := by
  have hr2 : ((resAV rs).t = 0 ∨ (resAV rs).t = 4) ∧ (resAV rs).n = 0 := by
    unfold resAV
    split
    · exact ⟨.inl rfl, rfl⟩
    · exact ⟨.inr rfl, rfl⟩
  refine ⟨ent_of hf hname (by rw [hb]; rfl), hr2.1, hr2.2, fun U w vs hq hargs => ?_⟩
  have hlen := hargs.len
  refine calls_of_wp hf hb ?_
  have hle := Nat.le_of_ble_eq_true hl
  have hnt := bL hnt
  have hno : ∀ {k av}, 100000 ≤ k → look (argS args 0) k = some av → False := fun {k av} h1 h2 => by rw [argS_none (by omega)] at h2; cases h2
  obtain ⟨V, hV⟩ : ∃ V : UX, V = ⟨U, fun _ => False, fun _ => none, fun _ _ h => by cases h⟩ := ⟨_, rfl⟩
  have hs : Sim w V nt (argS args 0) { tmps := vs.toArray ++ Array.replicate (fn.ntmps - vs.toArray.size) undef, defers := [] } w := by
    refine ⟨fun _ _ => False, fun _ => .slice none 0 0, BelowX.refl _ _, rfl, by simp [hn]; omega, fun d av h1 h2 => ?_, fun n o av h1 => (hno (by unfold fKey; omega) h1).elim, fun n o o' av av' h1 => (hno (by unfold fKey; omega) h1).elim, fun k av h1 h2 => (hno h2.1 h1).elim, fun k av g h1 h2 => (hno h2.1 h1).elim, fun k k' av av' g h1 h2 h3 => (hno h3.1 h1).elim, fun n g h1 => (by rw [hV] at h1; cases h1), fun b o hd => hd.elim⟩
    obtain ⟨_, c', h3, rfl⟩ := look_argS h1
    rw [Nat.sub_zero] at h3
    obtain ⟨v, h4, h5⟩ := hargs.at h3
    have hdl : d < vs.length := by
      rcases Nat.lt_or_ge d vs.length with h | h
      · exact h
      · rw [List.getElem?_eq_none h] at h4; cases h4
    refine ⟨v, ?_, avrep_val (h5.keep fun b o v hu hc => ⟨.inl ⟨World.block_lt_of_cell? w _ hc, by rw [hV]; exact ⟨hu, fun h => h⟩⟩, hc⟩)⟩
    rw [Array.getElem?_append_left (by simpa using hdl)]
    simpa using h4
  have hwp := h w V (by rw [hV]; exact ⟨fun _ => rfl, fun _ h => h⟩) (by rw [hV]; exact hq) ⟨none, []⟩ _ w hs
  refine wp_mono (hwp.wp rfl (fun e a w h => by
    rcases h with ⟨s, h0, _⟩ | ⟨_, _, _, _, h⟩
    · exact h0.elim
    · exact h.df)) ?_
  rintro e a' w' (⟨s', h0, _⟩ | ⟨w1, s', h0, ⟨h1, h2⟩, D, hv, h3⟩)
  · exact h0.elim
  obtain ⟨v, h4, h5⟩ := res_run h3 h2
  have hbel : Below w1.heap.size w1 w' := h3.below.below (fun k hk => hk)
  have hR : RR (fun _ _ => False) w' (resAV rs) v := rr_sc hsc h5
  rcases h1 with rfl | rfl
  · exact ⟨h3.dfr, v, h4, v, rfl, hR, hF.up _ _ _ h0 hbel⟩
  · exact ⟨h3.dfr, v, h4, v, rfl, hR, hF.up _ _ _ h0 hbel⟩
end
end Go.Proofs.Ytekboofbedakcaa
namespace Go.Proofs.Ytekboofbedakcaa
open Go.RowKit
set_option linter.unusedVariables false
set_option linter.unusedSimpArgs false
def CloneX (w : World) (t : Tm) (e : Ending) (w' : World) : Prop := ∃ x a n c, x.tm = t.strip ∧ x.f = t.f ∧ x.h = .slice a n c ∧ e = .returned (.agg #[.int .i64 t.f, .slice a n c]) ∧ XR (fun b _ => w.heap.size ≤ b) w' x ∧ x.bl.Nodup ∧ (∀ b ∈ x.bl, Fz w' b) ∧ Below w.heap.size w w'

set_option maxRecDepth 100000 in
set_option maxHeartbeats 800000 in
theorem cloneAllX_any {U : Nat → Prop} {l : List Tm} {a : Option Addr} {n c : Nat} {w : World} (h : Las U w l a n c) (hn : n ≤ 90000000000)
    (hC : ∀ t ∈ l, ∀ (a : Option Addr) (n c : Nat) (w' : World), Tat U w' t a n c → Calls Try.prog 31 #[.agg #[.int .i64 t.f, .slice a n c]] w' (CloneX w' t)) :
    Calls Try.prog 47 #[.slice a n c] w fun e w' => ∃ xs a c, xs.map XT.tm = l.map Tm.strip ∧ e = .returned (.slice a xs.length c) ∧ OwnX 37 w' w.heap.size (.slice a xs.length c) xs ∧ Below w.heap.size w w' := by
  have HL := hid h.len
  have HA : Hid (∀ w', Below w.heap.size w w' → Las U w' l a n c) := fun w' hb => h.bw hb
  have HC := hid hC
  clear h hC
  go_enter Try.func47, Try.ntmps47
  go_wp2
  go_loopw [3, 8] (fun vv i wr => ∃ (k : Nat) (av : Option Addr) (cv : Nat) (xs : List XT), vv = .slice av k cv ∧ i = .int .i64 (k : Int) ∧ k ≤ n ∧ xs.map XT.tm = (l.take k).map Tm.strip ∧ OwnX 37 wr w.heap.size (.slice av k cv) xs ∧ Below w.heap.size w wr) (fun _ i _ => n - (intOf i).toNat)
  case atStart => exact ⟨0, _, _, [], rfl, rfl, by omega, rfl, OwnX.nil _ _ _, bW _⟩
  case round =>
    obtain ⟨k, av, cv, xs, rfl, rfl, hk, hxs, ho, hbr⟩ := hrel
    by_cases hlt : k < n
    · obtain ⟨b, off, s, a', n', c', rfl, hU, hlt', hs, hT, e1, e2⟩ := (HA.out wr hbr).at hlt
      have HS := hid hs
      clear hs
      have hb1 : Below wr.heap.size wr (wr.alloc (.cells #[.int .i64 s.f, .slice a' n' c'] 37)) := bA (bW _) _
      have HCall := hid (HC.out s (List.mem_of_getElem? HS.out) a' n' c' _ (hT.bw hb1))
      have HF := hid hT.wf
      have HApp : Hid (∀ w1 x a1 n1 c1, Below wr.heap.size wr w1 → x.tm = s.strip → x.f = s.f → x.h = .slice a1 n1 c1 → XR (fun b _ => wr.heap.size + 1 ≤ b) w1 x → x.bl.Nodup → (∀ b ∈ x.bl, Fz w1 b) → ∃ a' c' w', Sem.run Try.prog (Builtin.append_ #[35, 35] 35 #[.slice av k cv, .slice (some ⟨w1.heap.size, 0, none⟩) 1 1]) (w1.alloc (.cells #[.int .i64 s.f, .slice a1 n1 c1] 37)) = .ok (.slice a' (k + 1) c') w' ∧ (∃ xs, xs.map XT.tm = (l.take (k + 1)).map Tm.strip ∧ OwnX 37 w' w.heap.size (.slice a' (k + 1) c') xs) ∧ Below w.heap.size w w') := by
        intro w1 x a1 n1 c1 hw1 hxt hxf hxh hxr hxn hxz
        have ho1 := ho.bw hw1
        have hkl : xs.length = k := by have := congrArg List.length hxs; simp only [List.length_map, List.length_take] at this; have := HL.out; omega
        have hsz := hbr.size
        have hall := xbl_lt ho.2.1
        obtain ⟨a', c', w', hr, h1, h2⟩ := app_x (P := Try.prog) (B := w.heap.size) (Nat.le_trans hbr.size hw1.size) 35 37 _ 32 Try.underlying35 info_tm rfl (by decide) ho1 (x := x) (hxr.keep fun b o u hu hc => ⟨by omega, hc⟩) hxn hxz (fun b hb hb2 => by
          obtain ⟨_, o, q⟩ := hxr.lt b hb
          have := (hall b hb2).2
          omega) (fun b hb e => by
          obtain ⟨_, o, q⟩ := hxr.lt b hb
          have := (ho.lt e).2
          omega) (by omega)
        rw [hkl] at hr h1
        refine ⟨a', c', w', ?_, ⟨xs ++ [x], ?_, h1⟩, (hbr.trans (hw1.mono hbr.size)).trans h2⟩
        · rw [← hr]
          unfold XT.cs
          rw [hxf, hxh]
        · rw [List.take_add_one, HS.out, List.map_append, List.map_append, hxs]
          simp [hxt]
      clear ho hT
      go_wp2_with (first
        | (go_at_call 31; refine HCall.out.mono ?_; rintro e w1 ⟨x1, a1, n1, c1, hxt, hxf, hxh, rfl, hxr, hxn, hxz, hb1'⟩; rw [World.size_alloc] at hxr; obtain ⟨a2, c2, w2, hr2, ho2, hb2⟩ := HApp.out w1 x1 a1 n1 c1 (bN hb1 hb1') hxt hxf hxh hxr hxn hxz; clear hxt hxf hxh hxr hxn hxz)
        | (at_builtin; refine wpList_appRun _ rfl _ _ _ rfl _ _ rfl rfl _ _ hr2 ?_))
      go_wp2
      go_roundw
      case rel =>
        obtain ⟨xs2, hxs2, ho2⟩ := ho2
        exact ⟨k + 1, _, _, xs2, rfl, by go_num, by omega, hxs2, ho2, hb2⟩
      case measure => simp [intOf]; omega
    · have HE : Hid (l.take k = l) := List.take_of_length_le (by have := HL.out; omega)
      rw [HE.out] at hxs
      have HK : Hid (k = xs.length) := by show _ = _; have := HL.out; have h2 := congrArg List.length hxs; simp only [List.length_map] at h2; omega
      go_wp2
      go_ret
      exact ⟨xs, av, cv, hxs, by rw [← HK.out]; rfl, by rw [← HK.out]; exact ho, hbr⟩

set_option maxRecDepth 100000 in
set_option maxHeartbeats 800000 in
theorem cloneX_any {U : Nat → Prop} : ∀ (t : Tm) (a : Option Addr) (n c : Nat) (w : World), Tat U w t a n c → t.size ≤ 90000000000 → Calls Try.prog 31 #[.agg #[.int .i64 t.f, .slice a n c]] w (CloneX w t) := by
  intro t
  induction t using Tm.indp with
  | h t ih =>
    intro a n c w ht hsz
    obtain ⟨w0, hw0⟩ : ∃ w0, w0 = (w.alloc (.cells #[.int .i64 t.f, .slice a n c] 37)).alloc (.cells #[.int .i64 0, .slice none 0 0] 37) := ⟨_, rfl⟩
    have HX : Hid (∀ w1, Below w0.heap.size w0 w1 → w1.heap[w.heap.size + 1]? = some (.cells #[.int .i64 0, .slice none 0 0] 37 (0, 0))) := fun w1 hb => by
      have h1 := World.alloc_heap_new (w.alloc (.cells #[.int .i64 t.f, .slice a n c] 37)) (.cells #[.int .i64 0, .slice none 0 0] 37)
      rw [World.size_alloc, ← hw0] at h1
      exact (hb.block _ (Array.getElem?_eq_some_iff.1 h1).1).trans h1
    have HB : Hid (∀ w1, Below w0.heap.size w0 w1 → ((w1.cell? ⟨w.heap.size, 0, none⟩ = some (.int .i64 t.f) ∧ w1.cell? ⟨w.heap.size, 1, none⟩ = some (.slice a n c)) ∧ (w1.cell? ⟨w.heap.size + 1, 0, none⟩ = some (.int .i64 0) ∧ w1.cell? ⟨w.heap.size + 1, 1, none⟩ = some (.slice none 0 0))) ∧ (w1.frozen? ⟨w.heap.size + 1, 0, none⟩ = false ∧ w1.frozen? ⟨w.heap.size + 1, 1, none⟩ = false)) := fun w1 hb => by
      refine ⟨?_, frozen_box (HX.out w1 hb)⟩
      rw [hw0] at hb; exact box2 hb
    have HW := hid hw0
    have HB0 : Hid (Below w.heap.size w w0) := by rw [hw0]; exact bA (bA (bW _) _) _
    clear hw0
    have HP : Hid (∀ w1, Below w0.heap.size w0 w1 → Calls Try.prog 48 #[.agg #[.int .i64 t.f, .slice a n c]] w1 fun e w' => Below w1.heap.size w1 w' ∧ ∃ a' n' c', e = .returned (.slice a' n' c') ∧ Las U w' t.ps a' n' c') := fun w1 hb => parts_any (ht.bw (bN HB0.out hb))
    have hlp := t.len_ps
    have HC : Hid (∀ w1 a' n' c', Las U w1 t.ps a' n' c' → Calls Try.prog 47 #[.slice a' n' c'] w1 fun e w' => ∃ xs a c, xs.map XT.tm = t.ps.map Tm.strip ∧ e = .returned (.slice a xs.length c) ∧ OwnX 37 w' w1.heap.size (.slice a xs.length c) xs ∧ Below w1.heap.size w1 w') := fun w1 a' n' c' h => cloneAllX_any h (by have := h.1; omega) (fun s hs a n c w' h' => ih s hs a n c w' h' (by have := Tm.size_part hs; omega))
    have HST : Hid (∀ w1 x y, Below w0.heap.size w0 w1 → ((w1.setCell ⟨w.heap.size + 1, 0, none⟩ x).setCell ⟨w.heap.size + 1, 1, none⟩ y).cell? ⟨w.heap.size, 0, none⟩ = some (.int .i64 t.f) ∧ ((w1.setCell ⟨w.heap.size + 1, 0, none⟩ x).setCell ⟨w.heap.size + 1, 1, none⟩ y).cell? ⟨w.heap.size, 1, none⟩ = some (.slice a n c)) := fun w1 x y hb => by
      have h1 := (HB.out w1 hb).1.1
      have h2 : ((w1.setCell ⟨w.heap.size + 1, 0, none⟩ x).setCell ⟨w.heap.size + 1, 1, none⟩ y).heap[w.heap.size]? = w1.heap[w.heap.size]? := by
        rw [Below.heap_setCell _ _ _ _ (by show w.heap.size ≠ w.heap.size + 1; omega), Below.heap_setCell _ _ _ _ (by show w.heap.size ≠ w.heap.size + 1; omega)]
      exact ⟨(cell_congr h2).trans h1.1, (cell_congr h2).trans h1.2⟩
    have hq : Below w0.heap.size w0 w0 := bW _
    obtain ⟨⟨⟨c1, c2⟩, c3, c4⟩, c5, c6⟩ := HB.out w0 hq
    clear ih ht
    go_enter Try.func31, Try.ntmps31
    go_wp2_with fail
    rw [← HW.out]
    go_region_held3 (fun w' => w'.cell? ⟨w.heap.size, 0, none⟩ = some (.int .i64 t.f) ∧ w'.cell? ⟨w.heap.size, 1, none⟩ = some (.slice a n c)) (first | (refine (HB.out _ ?_).1.1; with_reducible exact hq) | (refine (HB.out _ ?_).1.1; with_reducible exact bD hq) | (refine HST.out _ _ _ ?_; with_reducible exact hq))
      (first
        | (go_at_call 48; refine (HP.out _ (by first | with_reducible exact hq | with_reducible exact bD hq)).mono ?_; rintro e w2 ⟨hb2, a2, n2, c2, rfl, hl2⟩; replace hq := bN (by first | with_reducible exact hq | with_reducible exact bD hq) hb2; clear hb2; dsimp only)
        | (go_at_call 47; refine (HC.out _ _ _ _ hl2).mono ?_; rintro e w3 ⟨xs3, a3, c3, hx3, rfl, ho3, hb3⟩; have hq2 := hq; replace hq := bN (by first | with_reducible exact hq | with_reducible exact bD hq) hb3; obtain ⟨⟨_, d3, d4⟩, d5, d6⟩ := HB.out _ hq; dsimp only))
    go_wp2_with fail
    refine bodyPost_ret (results_clone (g := w.heap.size + 1) rfl (two_block (HX.out _ hq) _ _)) rfl ?_
    have hle : w0.heap.size ≤ w2.heap.size := hq2.size
    have hw0 : w0.heap.size = w.heap.size + 2 := by rw [HW.out]; simp
    obtain ⟨_, hxr, hxn, hxz⟩ := ho3.xk t.f
    refine ⟨⟨t.f, a3, c3, xs3⟩, a3, _, c3, ?_, rfl, rfl, rfl, ?_, hxn, fun b hb => (hxz b hb).same ?_, ?_⟩
    · rw [XT.tm_eq, Tm.strip_eq, ← hx3]
    · refine hxr.keep fun b o u hu hc => ⟨by omega, ?_⟩
      have h2 : b ≠ w.heap.size + 1 := by omega
      rw [cellH (by rw [Below.heap_setCell _ _ _ _ (by show b ≠ w.heap.size + 1; omega), Below.heap_setCell _ _ _ _ (by show b ≠ w.heap.size + 1; omega)] : _ = (w3.heap[b]? : Option Obj))]
      exact hc
    · have h1 := (hxr.lt b hb).2
      obtain ⟨_, h1⟩ := h1
      have h2 : b ≠ w.heap.size + 1 := by omega
      rw [Below.heap_setCell _ _ _ _ (by show b ≠ w.heap.size + 1; omega), Below.heap_setCell _ _ _ _ (by show b ≠ w.heap.size + 1; omega)]
    · exact ((bN HB0.out hq).setCell (p := ⟨w.heap.size + 1, 0, none⟩) (by show w.heap.size ≤ w.heap.size + 1; omega) _).setCell (p := ⟨w.heap.size + 1, 1, none⟩) (by show w.heap.size ≤ w.heap.size + 1; omega) _
end Go.Proofs.Ytekboofbedakcaa
namespace Go.Proofs.Ytekboofbedakcaa
open Go.RowKit Go.MapKept
set_option linter.unusedVariables false
set_option linter.unusedSimpArgs false
section
variable {P : Program} {w0 : World} {U0 : UX} {nt : Nat} {ops : Array Oper} {o : Oper} {S : Nat → Option AV} {gs : List Nat} {d : Nat} {s : AS} {a : Act} {w : World} {D : Nat → Nat → Prop} {hv : Nat → Value}
end
end Go.Proofs.Ytekboofbedakcaa
namespace Go.Proofs.Ytekboofbedakcaa
open Go.RowKit Go.MapKept
set_option linter.unusedVariables false
set_option linter.unusedSimpArgs false
set_option maxRecDepth 100000
-- 
theorem wIsVar_abs (W : World) (t : Tm) : AFun Try.prog W 82 [t.cw] (.val (.b (decide (t.f < 0)))) := by
  refine afun_of (rs := [.b (decide (t.f < 0))]) Try.func82 Try.ntmps82 rfl rfl rfl rfl ?_
  intro w U hW
  refine aS (aR ?_)
  (refine nx (a_box (gN rfl) rfl rfl rfl rfl rfl) rfl ?_)
  (refine nx (aA (gN rfl) rfl rfl rfl rfl rfl) rfl ?_)
  show AWp _ _ _ _ _ _ _
  refine aS (aR ?_)
  (refine nx (aF (gN rfl) rfl rfl rfl rfl rfl rfl rfl rfl rfl) rfl ?_)
  (refine nx (aLb (gN rfl) rfl rfl rfl rfl rfl rfl rfl rfl rfl rfl rfl rfl) rfl ?_)
  (refine nx (a_lss (gN rfl) rfl rfl rfl rfl rfl rfl) rfl ?_)
  (refine nx (aA (gN rfl) rfl rfl rfl rfl rfl) rfl ?_)
  show AWp _ _ _ _ _ _ _
  exact aT ⟨.inr rfl, rfl⟩
-- 
theorem wNumber_abs (W : World) (t : Tm) (h1 : -9223372036854775808 ≤ t.f) (h2 : t.f < 0) : AFun Try.prog W 84 [t.cw] (.val (.i (-1 - t.f))) := by
  refine afun_of (rs := [.i (-1 - t.f)]) Try.func84 Try.ntmps84 rfl rfl rfl rfl ?_
  intro w U hW
  refine aS (aR ?_)
  (refine nx (a_box (gN rfl) rfl rfl rfl rfl rfl) rfl ?_)
  (refine nx (aA (gN rfl) rfl rfl rfl rfl rfl) rfl ?_)
  show AWp _ _ _ _ _ _ _
  refine aS (aR ?_)
  (refine nx (aF (gN rfl) rfl rfl rfl rfl rfl rfl rfl rfl rfl) rfl ?_)
  (refine nx (aLb (gN rfl) rfl rfl rfl rfl rfl rfl rfl rfl rfl rfl rfl rfl) rfl ?_)
  (refine nx (a_sub (gN rfl) rfl rfl rfl rfl rfl rfl (by first | omega | (simp only [List.length_map, List.length_append, List.length_cons, List.length_nil] <;> omega) | (simp <;> omega))) rfl ?_)
  (refine nx (aA (gN rfl) rfl rfl rfl rfl rfl) rfl ?_)
  show AWp _ _ _ _ _ _ _
  exact aT ⟨.inr rfl, rfl⟩
theorem wIsVar_any {U : Nat → Prop} {t : Tm} {a : Option Addr} {n c : Nat} {w : World} (h : Tat U w t a n c) : Calls Try.prog 82 #[.agg #[.int .i64 t.f, .slice a n c]] w fun e w' => e = .returned (.bool (decide (t.f < 0))) ∧ Below w.heap.size w w' := by
  refine ((wIsVar_abs w t).2.2.2 _ w [_] trivial ⟨_, _, rfl, vrep_of_tat h, rfl⟩).mono ?_
  rintro e w' ⟨v, rfl, h1, h2⟩
  obtain ⟨rfl, _⟩ := vrep_sc.1 h1
  exact ⟨rfl, h2⟩
theorem wNumber_any {U : Nat → Prop} {t : Tm} {a : Option Addr} {n c : Nat} {w : World} (h : Tat U w t a n c) (hf : t.f < 0) : Calls Try.prog 84 #[.agg #[.int .i64 t.f, .slice a n c]] w fun e w' => e = .returned (.int .i64 (-1 - t.f)) ∧ Below w.heap.size w w' := by
  have hr := h.wf
  refine ((wNumber_abs w t (by omega) hf).2.2.2 _ w [_] trivial ⟨_, _, rfl, vrep_of_tat h, rfl⟩).mono ?_
  rintro e w' ⟨v, rfl, h1, h2⟩
  obtain ⟨rfl, _⟩ := vrep_sc.1 h1
  exact ⟨rfl, h2⟩

def fillB (B : Int → Option Tm) : Tm → Tm
  | ⟨f, l⟩ => if f < 0 then ((B (-1 - f)).getD ⟨0, []⟩).strip else ⟨f, l.map (fillB B)⟩
theorem fillB_eq (B : Int → Option Tm) (t : Tm) : fillB B t = if t.f < 0 then ((B (-1 - t.f)).getD ⟨0, []⟩).strip else ⟨t.f, t.l.map (fillB B)⟩ := by
  cases t with
  | mk f l => rw [fillB]
def FillOk (B : Int → Option Tm) : Tm → Prop
  | ⟨f, l⟩ => if f < 0 then ∃ s, B (-1 - f) = some s ∧ s.size ≤ 90000000000 else l.length ≤ 90000000000 ∧ ∀ x ∈ l, FillOk B x
theorem fillOk_iff (B : Int → Option Tm) (t : Tm) : FillOk B t ↔ if t.f < 0 then ∃ s, B (-1 - t.f) = some s ∧ s.size ≤ 90000000000 else t.l.length ≤ 90000000000 ∧ ∀ x ∈ t.l, FillOk B x := by
  cases t with
  | mk f l => rw [FillOk]
def MapT (w : World) (g : Nat) (B : Int → Option Tm) : Prop := ∃ es clock, w.heap[g]? = some (.map es clock) ∧ ∀ v t, B v = some t → ∃ j a n c, Instr.findNow (.int .i64) (.int .i64 v) es.toList 0 = some (some (j, .agg #[.int .i64 t.f, .slice a n c])) ∧ Tat (fun _ => True) w t a n c
theorem MapT.bw {w w' : World} {g : Nat} {B : Int → Option Tm} (h : MapT w g B) (hb : Below w.heap.size w w') : MapT w' g B := by
  obtain ⟨es, clock, h1, h2⟩ := h
  refine ⟨es, clock, (hb.block g (Array.getElem?_eq_some_iff.1 h1).1).trans h1, fun v t hv => ?_⟩
  obtain ⟨j, a, n, c, h3, h4⟩ := h2 v t hv
  exact ⟨j, a, n, c, h3, h4.bw hb⟩
theorem mapT_run {w : World} {g : Nat} {B : Int → Option Tm} (h : MapT w g B) {v : Int} {t : Tm} (hv : B v = some t) : ∃ a n c, (Instr.lookup 129 (.map (some g)) (.int .i64 v) false).run Try.prog w = .ok (.agg #[.int .i64 t.f, .slice a n c]) w ∧ Tat (fun _ => True) w t a n c := by
  obtain ⟨es, clock, h1, h2⟩ := h
  obtain ⟨j, a, n, c, h3, h4⟩ := h2 v t hv
  have huk : Try.prog.underlying 3 = some (.int .i64) := by kernel_rfl
  have hu : Try.prog.underlying 129 = some (.map 3 37) := by kernel_rfl
  have hck := run_checkKey (P := Try.prog) (w := w) huk (k := .int .i64 v) rfl es.isEmpty 9999
  have hge := Go.MapKept.run_getObj_map (P := Try.prog) h1
  have hfk := run_findKey (P := Try.prog) (w := w) huk h3
  exact ⟨a, n, c, by simp [Instr.lookup, run_underlying hu, hge, hck, hfk], h4⟩
theorem wpList_lookT {P : Program} (w : World) {ops : Array Oper} {rest : List Oper} {o : Oper} {a : Act} {Q : Exit → Act → World → Prop} (hg : o.guard = none) (t : TypeId) (m x : Operand) (hop : o.op = Op.lookup t m x false) (mv xv : Value) (hm : a.eval m = mv) (hx : a.eval x = xv) (r : Value) (hrun : (Instr.lookup t mv xv false).run P w = .ok r w) (hK : wpList P ops Q rest (a.put o.dst r) w) : wpList P ops Q (o :: rest) a w := by
  refine wpList_plain hg fun K' hK' => ?_
  unfold Oper.wp
  simp [execOp, hop, hm, hx, hrun, Result.andThen]
  exact hK' _ _ hK
theorem results_fill {tmps : Array Value} {w : World} {g : Nat} {x y : Value} (hp : tmps.getD 4 undef = .pointer (some ⟨g, 0, none⟩)) (hg : w.heap[g]? = some (.cells #[x, y] 37 (0, 0))) :
    (results Try.f68 tmps).run Try.prog w = .ok (.agg #[x, y]) w := by
  have hp' : tmps[4]?.getD undef = .pointer (some ⟨g, 0, none⟩) := by simpa using hp
  simp [results, hp', asAddr, run_loadVar_row w g _ 37 #[x, y] (0, 0) _ hg Try.underlying37 rfl info_tm_size]
def FillX (w : World) (t : Tm) (e : Ending) (w' : World) : Prop := ∃ x a n c, x.tm = t ∧ x.f = t.f ∧ x.h = .slice a n c ∧ e = .returned (.agg #[.int .i64 t.f, .slice a n c]) ∧ XR (fun b _ => w.heap.size ≤ b) w' x ∧ x.bl.Nodup ∧ (∀ b ∈ x.bl, Fz w' b) ∧ Below w.heap.size w w'

set_option maxRecDepth 100000 in
set_option maxHeartbeats 1600000 in
theorem filledX_any {B : Int → Option Tm} {g : Nat} : ∀ (t : Tm) (U : Nat → Prop) (a : Option Addr) (n c : Nat) (w : World), Tat U w t a n c → MapT w g B → FillOk B t → Calls Try.prog 68 #[.agg #[.int .i64 t.f, .slice a n c], .map (some g)] w (FillX w (fillB B t)) := by
  intro t
  induction t using Tm.ind with
  | h f l ih =>
    intro U a n c w ht hM hF
    have HT : Hid (∀ w1, Below w.heap.size w w1 → Tat U w1 ⟨f, l⟩ a n c) := fun w1 hb => ht.bw hb
    have HM : Hid (∀ w1, Below w.heap.size w w1 → MapT w1 g B) := fun w1 hb => hM.bw hb
    have hFi := (fillOk_iff B ⟨f, l⟩).1 hF
    obtain ⟨w0, hw0⟩ : ∃ w0, w0 = (w.alloc (.cells #[.int .i64 f, .slice a n c] 37)).alloc (.cells #[.int .i64 0, .slice none 0 0] 37) := ⟨_, rfl⟩
    have HX : Hid (∀ w1, Below w0.heap.size w0 w1 → w1.heap[w.heap.size + 1]? = some (.cells #[.int .i64 0, .slice none 0 0] 37 (0, 0))) := fun w1 hb => by
      have h1 := World.alloc_heap_new (w.alloc (.cells #[.int .i64 f, .slice a n c] 37)) (.cells #[.int .i64 0, .slice none 0 0] 37)
      rw [World.size_alloc, ← hw0] at h1
      exact (hb.block _ (Array.getElem?_eq_some_iff.1 h1).1).trans h1
    have HB : Hid (∀ w1, Below w0.heap.size w0 w1 → ((w1.cell? ⟨w.heap.size, 0, none⟩ = some (.int .i64 f) ∧ w1.cell? ⟨w.heap.size, 1, none⟩ = some (.slice a n c)) ∧ (w1.cell? ⟨w.heap.size + 1, 0, none⟩ = some (.int .i64 0) ∧ w1.cell? ⟨w.heap.size + 1, 1, none⟩ = some (.slice none 0 0))) ∧ (w1.frozen? ⟨w.heap.size + 1, 0, none⟩ = false ∧ w1.frozen? ⟨w.heap.size + 1, 1, none⟩ = false)) := fun w1 hb => by
      refine ⟨?_, frozen_box (HX.out w1 hb)⟩
      rw [hw0] at hb; exact box2 hb
    have HW := hid hw0
    have HB0 : Hid (Below w.heap.size w w0) := by rw [hw0]; exact bA (bA (bW _) _) _
    have hw02 : Hid (w0.heap.size = w.heap.size + 2) := by show _ = _; rw [hw0]; simp
    clear hw0 hM hF
    have hq : Below w0.heap.size w0 w0 := bW _
    obtain ⟨⟨⟨c1, c2⟩, c3, c4⟩, c5, c6⟩ := HB.out w0 hq
    by_cases hf : f < 0
    · rw [if_pos (show (Tm.mk f l).f < 0 from hf)] at hFi
      obtain ⟨s, hs, hsz⟩ := hFi
      have HV : Hid (∀ w1, Below w0.heap.size w0 w1 → Calls Try.prog 82 #[.agg #[.int .i64 f, .slice a n c]] w1 fun e w' => e = .returned (.bool true) ∧ Below w1.heap.size w1 w') := fun w1 hb => (wIsVar_any (HT.out w1 (bN HB0.out hb))).mono fun e w' ⟨h1, h2⟩ => ⟨by rw [h1]; simp [hf], h2⟩
      have HN : Hid (∀ w1, Below w0.heap.size w0 w1 → Calls Try.prog 84 #[.agg #[.int .i64 f, .slice a n c]] w1 fun e w' => e = .returned (.int .i64 (-1 - f)) ∧ Below w1.heap.size w1 w') := fun w1 hb => wNumber_any (HT.out w1 (bN HB0.out hb)) hf
      have HLk : Hid (∀ w1, Below w0.heap.size w0 w1 → ∃ a n c, (Instr.lookup 129 (.map (some g)) (.int .i64 (-1 - f)) false).run Try.prog w1 = .ok (.agg #[.int .i64 s.f, .slice a n c]) w1 ∧ Tat (fun _ => True) w1 s a n c) := fun w1 hb => mapT_run (HM.out w1 (bN HB0.out hb)) hs
      have HC : Hid (∀ w1 a n c, Tat (fun _ => True) w1 s a n c → Calls Try.prog 31 #[.agg #[.int .i64 s.f, .slice a n c]] w1 (CloneX w1 s)) := fun w1 a n c h => cloneX_any s a n c w1 h hsz
      clear ih ht
      go_enter Try.func68, Try.ntmps68
      go_wp2_with fail
      rw [← HW.out]
      go_wp2_with (first
        | (go_at_call 82; refine (HV.out _ hq).mono ?_; rintro e w1 ⟨rfl, hb1⟩; obtain ⟨⟨⟨c1, c2⟩, c3, c4⟩, c5, c6⟩ := HB.out w1 hb1; dsimp only)
        | (go_at_call 84; refine (HN.out _ hb1).mono ?_; rintro e w2 ⟨rfl, hb2⟩; have hb2' := bN hb1 hb2; obtain ⟨a4, n4, c4', hrun, hta⟩ := HLk.out w2 hb2'; dsimp only)
        | (at_lookup; refine wpList_lookT _ rfl _ _ _ rfl _ _ rfl rfl _ hrun ?_)
        | (go_at_call 31; refine (HC.out _ _ _ _ hta).mono ?_; rintro e w3 ⟨x1, a1, n1, c1', hxt, hxf, hxh, rfl, hxr, hxn, hxz, hb3⟩; have hb3' := bN hb2' hb3; obtain ⟨⟨_, d3, d4⟩, d5, d6⟩ := HB.out w3 hb3'; dsimp only))
      refine bodyPost_ret (results_fill (g := w.heap.size + 1) rfl (two_block (HX.out _ hb3') _ _)) rfl ?_
      have e : fillB B ⟨f, l⟩ = s.strip := by rw [fillB_eq, if_pos hf]; simp [hs]
      have hle := hb2'.size
      have hw0 := hw02.out
      refine ⟨x1, a1, n1, c1', by rw [e]; exact hxt, by rw [e, Tm.strip_f]; exact hxf, hxh, by rw [e, Tm.strip_f], ?_, hxn, fun b hb => (hxz b hb).same ?_, ?_⟩
      · refine hxr.keep fun b o u hu hc => ⟨by omega, ?_⟩
        rw [cellH (by rw [Below.heap_setCell _ _ _ _ (by show b ≠ w.heap.size + 1; omega), Below.heap_setCell _ _ _ _ (by show b ≠ w.heap.size + 1; omega)] : _ = (w3.heap[b]? : Option Obj))]
        exact hc
      · obtain ⟨_, _, h1⟩ := hxr.lt b hb
        rw [Below.heap_setCell _ _ _ _ (by show b ≠ w.heap.size + 1; omega), Below.heap_setCell _ _ _ _ (by show b ≠ w.heap.size + 1; omega)]
      · exact ((bN HB0.out hb3').setCell (p := ⟨w.heap.size + 1, 0, none⟩) (by show w.heap.size ≤ w.heap.size + 1; omega) _).setCell (p := ⟨w.heap.size + 1, 1, none⟩) (by show w.heap.size ≤ w.heap.size + 1; omega) _
    · rw [if_neg (show ¬ (Tm.mk f l).f < 0 from hf)] at hFi
      obtain ⟨hln, hFi⟩ := hFi
      have HV : Hid (∀ w1, Below w0.heap.size w0 w1 → Calls Try.prog 82 #[.agg #[.int .i64 f, .slice a n c]] w1 fun e w' => e = .returned (.bool false) ∧ Below w1.heap.size w1 w') := fun w1 hb => (wIsVar_any (HT.out w1 (bN HB0.out hb))).mono fun e w' ⟨h1, h2⟩ => ⟨by rw [h1]; simp [hf], h2⟩
      have HA : Hid (∀ w', Below w0.heap.size w0 w' → Las U w' l a n c) := fun w' hb => (tat_iff.1 (HT.out w' (bN HB0.out hb))).2
      have HL := hid (tat_iff.1 ht).2.len
      have hnb : n ≤ 90000000000 := by have h1 := HL.out; have h2 : l.length ≤ 90000000000 := hln; omega
      have HC : Hid (∀ s ∈ l, ∀ (a : Option Addr) (n c : Nat) (w' : World), Below w0.heap.size w0 w' → Tat U w' s a n c → Calls Try.prog 68 #[.agg #[.int .i64 s.f, .slice a n c], .map (some g)] w' (FillX w' (fillB B s))) := fun s hs a n c w' hb h => ih s hs U a n c w' h (HM.out w' (bN HB0.out hb)) (hFi s hs)
      clear ih ht hFi
      go_enter Try.func68, Try.ntmps68
      go_wp2_with fail
      rw [← HW.out]
      go_wp2_with (first
        | (go_at_call 82; refine (HV.out _ hq).mono ?_; rintro e w1 ⟨rfl, hb1⟩; obtain ⟨⟨⟨c1, c2⟩, c3, c4⟩, c5, c6⟩ := HB.out w1 hb1; dsimp only))
      go_loopw [5, 18] (fun vv i wr => ∃ (k : Nat) (av : Option Addr) (cv : Nat) (xs : List XT), vv = .slice av k cv ∧ i = .int .i64 (k : Int) ∧ k ≤ n ∧ xs.map XT.tm = (l.take k).map (fillB B) ∧ OwnX 37 wr w0.heap.size (.slice av k cv) xs ∧ Below w0.heap.size w0 wr) (fun _ i _ => n - (intOf i).toNat)
      case atStart => exact ⟨0, _, _, [], rfl, rfl, by omega, rfl, OwnX.nil _ _ _, hb1⟩
      case round =>
        obtain ⟨k, av, cv, xs, rfl, rfl, hk, hxs, ho, hbr⟩ := hrel
        by_cases hlt : k < n
        · obtain ⟨b, off, s, a', n', c', rfl, hU, hlt', hs, hT, e1, e2⟩ := (HA.out wr hbr).at hlt
          have HS := hid hs
          clear hs
          have hb1 : Below wr.heap.size wr (wr.alloc (.cells #[.int .i64 s.f, .slice a' n' c'] 37)) := bA (bW _) _
          have HCall := hid (HC.out s (List.mem_of_getElem? HS.out) a' n' c' _ (bN hbr hb1) (hT.bw hb1))
          have HApp : Hid (∀ w1 x a1 n1 c1, Below wr.heap.size wr w1 → x.tm = fillB B s → x.f = (fillB B s).f → x.h = .slice a1 n1 c1 → XR (fun b _ => wr.heap.size + 1 ≤ b) w1 x → x.bl.Nodup → (∀ b ∈ x.bl, Fz w1 b) → ∃ a' c' w', Sem.run Try.prog (Builtin.append_ #[35, 35] 35 #[.slice av k cv, .slice (some ⟨w1.heap.size, 0, none⟩) 1 1]) (w1.alloc (.cells #[.int .i64 (fillB B s).f, .slice a1 n1 c1] 37)) = .ok (.slice a' (k + 1) c') w' ∧ (∃ xs, xs.map XT.tm = (l.take (k + 1)).map (fillB B) ∧ OwnX 37 w' w0.heap.size (.slice a' (k + 1) c') xs) ∧ Below w0.heap.size w0 w') := by
            intro w1 x a1 n1 c1 hw1 hxt hxf hxh hxr hxn hxz
            have ho1 := ho.bw hw1
            have hkl : xs.length = k := by have := congrArg List.length hxs; simp only [List.length_map, List.length_take] at this; have := HL.out; omega
            have hsz := hbr.size
            have hall := xbl_lt ho.2.1
            obtain ⟨a', c', w', hr, h1, h2⟩ := app_x (P := Try.prog) (B := w0.heap.size) (Nat.le_trans hbr.size hw1.size) 35 37 _ 32 Try.underlying35 info_tm rfl (by decide) ho1 (x := x) (hxr.keep fun b o u hu hc => ⟨by omega, hc⟩) hxn hxz (fun b hb hb2 => by
              obtain ⟨_, o, q⟩ := hxr.lt b hb
              have := (hall b hb2).2
              omega) (fun b hb e => by
              obtain ⟨_, o, q⟩ := hxr.lt b hb
              have := (ho.lt e).2
              omega) (by have := HL.out; omega)
            rw [hkl] at hr h1
            refine ⟨a', c', w', ?_, ⟨xs ++ [x], ?_, h1⟩, (hbr.trans (hw1.mono hbr.size)).trans h2⟩
            · rw [← hr]
              unfold XT.cs
              rw [hxf, hxh]
            · rw [List.take_add_one, HS.out, List.map_append, List.map_append, hxs]
              simp [hxt]
          clear ho hT
          go_wp2_with (first
            | (go_at_call 68; refine HCall.out.mono ?_; rintro e w1 ⟨x1, a1, n1, c1, hxt, hxf, hxh, rfl, hxr, hxn, hxz, hb1'⟩; rw [World.size_alloc] at hxr; obtain ⟨a2, c2, w2, hr2, ho2, hb2⟩ := HApp.out w1 x1 a1 n1 c1 (bN hb1 hb1') hxt hxf hxh hxr hxn hxz; clear hxt hxf hxh hxr hxn hxz)
            | (at_builtin; refine wpList_appRun _ rfl _ _ _ rfl _ _ rfl rfl _ _ hr2 ?_))
          go_wp2
          go_roundw
          case rel =>
            obtain ⟨xs2, hxs2, ho2⟩ := ho2
            exact ⟨k + 1, _, _, xs2, rfl, by go_num, by omega, hxs2, ho2, hb2⟩
          case measure => simp [intOf]; omega
        · have HE : Hid (l.take k = l) := List.take_of_length_le (by have := HL.out; omega)
          rw [HE.out] at hxs
          have HK : Hid (k = xs.length) := by show _ = _; have := HL.out; have h2 := congrArg List.length hxs; simp only [List.length_map] at h2; omega
          obtain ⟨⟨⟨c1, c2⟩, c3, c4⟩, c5, c6⟩ := HB.out wr hbr
          go_wp2
          rw [HK.out] at ho ⊢
          refine bodyPost_ret (results_fill (g := w.heap.size + 1) rfl (two_block (HX.out _ hbr) _ _)) rfl ?_
          obtain ⟨_, hxr, hxn, hxz⟩ := ho.xk f
          have hw0 := hw02.out
          have e : fillB B ⟨f, l⟩ = ⟨f, l.map (fillB B)⟩ := by rw [fillB_eq, if_neg (show ¬ f < 0 by omega)]
          refine ⟨⟨f, av, cv, xs⟩, av, _, cv, by rw [e, XT.tm_eq, ← hxs], by rw [e], rfl, by rw [e], ?_, hxn, fun b hb => (hxz b hb).same ?_, ?_⟩
          · refine hxr.keep fun b o u hu hc => ⟨by omega, ?_⟩
            rw [cellH (by rw [Below.heap_setCell _ _ _ _ (by show b ≠ w.heap.size + 1; omega), Below.heap_setCell _ _ _ _ (by show b ≠ w.heap.size + 1; omega)] : _ = (wr.heap[b]? : Option Obj))]
            exact hc
          · obtain ⟨_, _, h1⟩ := hxr.lt b hb
            rw [Below.heap_setCell _ _ _ _ (by show b ≠ w.heap.size + 1; omega), Below.heap_setCell _ _ _ _ (by show b ≠ w.heap.size + 1; omega)]
          · exact ((bN HB0.out hbr).setCell (p := ⟨w.heap.size + 1, 0, none⟩) (by show w.heap.size ≤ w.heap.size + 1; omega) _).setCell (p := ⟨w.heap.size + 1, 1, none⟩) (by show w.heap.size ≤ w.heap.size + 1; omega) _
end Go.Proofs.Ytekboofbedakcaa
