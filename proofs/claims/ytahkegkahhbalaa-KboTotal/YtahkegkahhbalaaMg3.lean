/-
  AbMap AbFull AbArr AbRoom AbBox SbFns SbApply SbVars TmSm SbSmall TmOrd RfSame RfLess RfFlat RfVars AbOf SbVnt SbRen TmPlA TmPlB TmPlC TmPlD KbMath KbSc SbSort SbClone KbFns KbFns2 KbMath2 KbFns3
-/
import Derived.Test.YtahkegkahhbalaaMg2
import Derived.MapKept
import Derived.Laws.NewFold
namespace Go.Proofs.Ytahkegkahhbalaa
open Go.RowKit Go.MapKept
set_option linter.unusedVariables false
set_option linter.unusedSimpArgs false

section
variable {P : Program} {w0 : World} {U0 : UX} {nt : Nat} {ops : Array Oper} {o : Oper} {S : Nat → Option AV} {gs : List Nat} {d : Nat} {s : AS} {a : Act} {w : World} {D : Nat → Nat → Prop} {hv : Nat → Value}

/-- An object has turned: its block alone. -/
theorem SimG.upd (h : SimG w0 U0 nt s a w D hv) {k0 : Nat} (h5 : oKey k0) {av0 av : AV} (h0 : look s k0 = some av0) (ht0 : av0.t ≠ 7) (hobj : av0.t ≠ 9) (ht : av.t = av0.t) (hnd : ∀ g, NoD D av0 (hv k0) g → NoD D av (hv k0) g) (ht6 : av.t ≠ 6) {g : Nat} (hg : hb (hv k0) = some g) {w' : World} (hos : w'.os = w.os) (htp : w'.tape = w.tape) (hou : w'.output = w.output) (hsize : w'.heap.size = w.heap.size) (hoth : ∀ k, k ≠ g → w'.heap[k]? = w.heap[k]?) (hoc : (∀ b o v, Us w0 U0 D b o → w.cell? ⟨b, o, none⟩ = some v → Us w0 U0 D b o ∧ w'.cell? ⟨b, o, none⟩ = some v) → OC (Us w0 U0 D) w' hv (LiveN s) av (hv k0)) :
    SimG w0 U0 nt ((k0, av) :: s) a w' D hv := by
  obtain ⟨hbase, hlt0, hD⟩ := h.blk k0 av0 g h0 h5 ht0 hg
  have h5' := h5
  unfold oKey at h5'
  have ht6' : av0.t ≠ 6 := by rw [← ht]; exact ht6
  have hD' : ∀ o, ¬ D g o := fun o => hD o fun e => absurd e ht6'
  have hne9 : av ≠ .obj := fun e => hobj (by rw [← ht, e])
  have hne90 : av0 ≠ .obj := fun e => hobj (by rw [e])
  have hl : ∀ n e, Live ((k0, av) :: s) n e ↔ Live s n e := fun n e => by
    unfold Live
    by_cases e1 : k0 = n
    · subst e1
      rw [look_same, h0]
      constructor
      · rintro ⟨h1, _⟩; cases h1; exact absurd rfl ht6
      · rintro ⟨h1, _⟩; cases h1; exact absurd rfl ht6'
    · rw [look_ne e1]
  have hl2 : LiveN ((k0, av) :: s) = LiveN s := by funext k; simp only [LiveN, hl]
  have hkeep : ∀ b o v, Us w0 U0 D b o → w.cell? ⟨b, o, none⟩ = some v → Us w0 U0 D b o ∧ w'.cell? ⟨b, o, none⟩ = some v := fun b o v hu hc => by
    refine ⟨hu, ?_⟩
    rw [World.cell?_of_block (w := w) (hoth b (us_ne hu hbase (hD' o)))]
    exact hc
  refine ⟨⟨hos.trans h.below.os, htp.trans h.below.tape, hou.trans h.below.output, by rw [hsize]; exact h.below.size, fun k hk hkx => ?_⟩, h.dfr, h.size, fun d av' h1 h2 => ?_, fun n o av' h1 h2 h3 h10 => ?_, fun n o o' av1 av2 h1 h2 => ?_, fun k av' h1 h2 => ?_, fun k av' g' h1 h2 h3 h4 => ?_, fun k k' av1 av2 g' h1 h2 h3 h4 h6 h7 hne => ?_, h.fix, fun b o hd => ?_⟩
  · rw [hoth k]
    · exact h.below.block k hk hkx
    · rintro rfl
      rcases hbase with h1 | h1
      · omega
      · exact hkx h1.2
  · rw [look_ne (by omega)] at h1
    rw [hl2]
    obtain ⟨v, h3, h4⟩ := h.slot d av' h1 h2
    exact ⟨v, h3, h4.keep hkeep⟩
  · rw [look_ne (by unfold fKey; omega)] at h1
    have hne : k0 ≠ 100000 + n := fun e => by subst e; rw [look_same] at h3; cases h3; exact hne9 rfl
    rw [look_ne hne] at h3
    rw [hl2]
    obtain ⟨v, h4, h6, h7⟩ := h.fld n o av' h1 h2 h3 h10
    refine ⟨v, h4.keep hkeep, h6, fun i hi => ?_⟩
    have hng : blkOf (hv (100000 + n)) ≠ g := by
      rintro e
      obtain ⟨g2, ys, ty2, e1, e2, e3⟩ := h.obj9 h3 h10
      have : hb (hv (100000 + n)) = some g := by rw [e1]; rw [e2] at e; rw [← e]; rfl
      exact h.disj k0 (100000 + n) av0 _ g h0 h3 h5 (bn_okey h10) ht0 (by simp) hne hg this
    rw [World.cell?_of_block (w := w) (hoth _ hng)]
    exact h7 i hi
  · rw [look_ne (by unfold fKey; omega)] at h1 h2
    exact h.fdis n o o' av1 av2 h1 h2
  · rw [hl2]
    by_cases e : k0 = k
    · subst e
      rw [look_same] at h1
      cases h1
      exact hoc hkeep
    · rw [look_ne e] at h1
      by_cases h7 : av'.t = 7
      · exact oc_no h7
      · exact (h.obj k av' h1 h2).move hkeep (fun _ hl => ⟨hl, rfl⟩) fun g' hg' => hoth g' fun e2 => h.disj k0 k av0 av' g h0 h1 h5 h2 ht0 h7 e hg (e2 ▸ hg')
  · rw [hsize]
    by_cases e : k0 = k
    · subst e
      rw [look_same] at h1
      cases h1
      obtain ⟨g1, g2, g3⟩ := h.blk k0 av0 g' h0 h5 ht0 h4
      exact ⟨by rw [lcl_eq ht]; exact g1, g2, hnd g' g3⟩
    · rw [look_ne e] at h1
      exact h.blk k av' g' h1 h2 h3 h4
  · have conv : ∀ q (aq : AV), look ((k0, av) :: s) q = some aq → aq.t ≠ 7 → ∃ aq', look s q = some aq' ∧ aq'.t ≠ 7 := fun q aq h8 h9 => by
      by_cases e : k0 = q
      · exact ⟨av0, by rw [← e]; exact h0, ht0⟩
      · rw [look_ne e] at h8; exact ⟨aq, h8, h9⟩
    obtain ⟨a1, b1, c1⟩ := conv k av1 h1 h6
    obtain ⟨a2, b2, c2⟩ := conv k' av2 h2 h7
    exact h.disj k k' a1 a2 g' b1 b2 h3 h4 c1 c2 hne
  · rw [hsize]; exact h.dlt b o hd


/-- A new map. -/
theorem a_mkmap (nn : Nat) (hg : Gd w0 U0 nt ops o gs S) (hd : o.dst = some d) (hn : Nat.blt d nt = true) (h5 : Nat.blt d 100000 = true) {t : TypeId} (ho : o.op = .makeMap t none) (hn2 : (Nat.ble 200000 nn && Nat.blt nn 400000) = true) : AOp P w0 U0 nt ops o gs [(nn, [])] S [(d, .mref nn), (nn, .mp [])] := by
  intro s hs hN a w ⟨D, hv, h⟩ Q K hK
  rw [if_pos (hg s hs a w D hv h)]
  have hrn := rnB hn2
  have he : (execOp a.eval o).run P w = .ok (.value (.map (some w.heap.size))) (w.alloc (.map #[] 0)) := by
    simp [execOp, ho, Instr.makeMap, run_newObj_alloc]
  unfold Oper.wp
  rw [he, Oper.upon_value, hd]
  have hb' : Below w.heap.size w (w.alloc (.map #[] 0)) := (Below.refl _ _).alloc (Nat.le_refl _) _
  have hG := h.newrow (X := fun _ => False) (avn := .mp []) (v' := .map (some w.heap.size)) (D' := D) hrn (hN (nn, []) (by simp)).nr (by simp) ((BelowX.refl _ w).step hb') (fun b hb => hb.elim) (fun g hg => by
      have hg : some w.heap.size = some g := hg
      cases hg
      refine ⟨.inr (Nat.le_refl _), by simp, fun o _ hd => ?_⟩
      have := h.dlt _ _ hd
      omega) (fun b o hd => .inl hd) (fun b o hd => Nat.lt_of_lt_of_le (h.dlt _ _ hd) hb'.size) (us_keep h.dlt hb' fun _ _ h => h) (fun hv lv => ⟨w.heap.size, #[], 0, rfl, alloc_new _ _, rfl, by simp, by simp⟩)
  refine hK _ _ ⟨_, _, hG.put (blt_lt hn) (blt_lt h5) ⟨RW.rn hrn, ?_, rfl⟩⟩
  simp

/-- All keys are ints. -/
def IntKeys (k : IntKind) (l : List CV) : Prop := ∀ r ∈ l, ∃ i c, r = .row [.sc (.int k i), c]
/-- What is found under a key. -/
def lookR (k : IntKind) (i : Int) : List CV → Option CV
  | [] => none
  | ⟨_, _, [⟨_, .int k' j, _⟩, c]⟩ :: l => if k' = k ∧ j = i then some c else lookR k i l
  | _ :: l => lookR k i l
theorem lookR_row {k : IntKind} {i j : Int} {c : CV} {l : List CV} : lookR k i (.row [.sc (.int k j), c] :: l) = if j = i then some c else lookR k i l := by
  rw [lookR]; simp
theorem find_spec {U : Nat → Nat → Prop} {k : IntKind} {i : Int} : ∀ {l : List CV} {es : List MapEntry} (n : Nat), Ents U w l es → IntKeys k l →
    (Instr.findNow (.int k) (.int k i) es n = some none ∧ lookR k i l = none) ∨ ∃ j e c, Instr.findNow (.int k) (.int k i) es n = some (some (n + j, e.val)) ∧ es[j]? = some e ∧ l[j]? = some (.row [.sc (.int k i), c]) ∧ VRep U w c e.val ∧ e.key = .int k i ∧ lookR k i l = some c
  | [], es, n, h, _ => by have h : es = [] := h; subst h; exact .inl ⟨rfl, rfl⟩
  | r :: l, es, n, ⟨e, es', h1, ⟨k1, c1, g2, g3, g4, g5⟩, h3⟩, hk => by
    obtain ⟨j0, c0, e1⟩ := hk r (by simp)
    rw [e1] at g2
    injection g2 with _ _ g6
    injection g6 with g6 g7
    injection g7 with g7 _
    subst g7
    have hkey : e.key = .int k j0 := by rw [g4, ← g6]
    subst h1
    rw [e1, lookR_row]
    by_cases hj : j0 = i
    · subst hj
      right
      refine ⟨0, e, c0, ?_, rfl, rfl, g5, hkey, by rw [if_pos rfl]⟩
      simp [Instr.findNow, Instr.sameNow, hkey]
    · rw [if_neg hj]
      have hs : Instr.sameNow (.int k) (.int k i) e.key = some false := by
        rw [hkey]
        simp [Instr.sameNow]
        exact fun h => hj h.symm
      rcases find_spec (n + 1) h3 (fun x hx => hk x (List.mem_cons_of_mem _ hx)) with ⟨f1, f2⟩ | ⟨j, e', c, f1, f2, f3, f4, f5, f6⟩
      · left; exact ⟨by simp [Instr.findNow, hs, f1], f2⟩
      · right
        refine ⟨j + 1, e', c, ?_, by simpa using f2, by simpa using f3, f4, f5, f6⟩
        simp [Instr.findNow, hs, f1]
        omega

/-- What is under a key, and whether there is anything. -/
theorem a_lookup (hg : Gd w0 U0 nt ops o gs S) (hd : o.dst = some d) (hn : Nat.blt d nt = true) (h5 : Nat.blt d 100000 = true) {x y : Operand} {t kt et : TypeId} {k : IntKind} {i : Int} {n : Nat} {l : List CV} {zc : CV} {n' q' p'} (ho : o.op = .lookup t x y true) (hu : P.underlying t = some (.map kt et)) (huk : P.underlying kt = some (.int k)) (hzc : zeroT P et = some zc) (hx : ev S x = some (.mref n)) (hy : ev S y = some ⟨0, .sc (.int k i), n', q', p'⟩) (hm' : S n = some (.mp l)) (hik : IntKeys k l) (hzr : ∀ U w v, Rep U w zc v.cells.toList → (∃ it, P.info? et = some it ∧ it.zero = some v) → VRep U w zc v) : AOp P w0 U0 nt ops o (gs ++ (rd x ++ (rd y ++ [n]))) [] S [(d, .tup [(lookR k i l).getD zc, .b (lookR k i l).isSome])] :=
  aop_val hg hd hn h5 (fun k hk => List.mem_append_left _ hk) fun s hs a w D hv hm => by
    obtain ⟨hrn, h1, _⟩ : RN n ∧ a.eval x = hv n ∧ (a.eval x).oneCell' = true := ev_rep hm (fun k hk => hs k (List.mem_append_right _ (List.mem_append_left _ hk))) hx
    have e2 := ev_sc hm (fun k hk => hs k (List.mem_append_right _ (List.mem_append_right _ (List.mem_append_left _ hk)))) hy
    have hok : oKey n := by unfold RN at hrn; unfold oKey; omega
    obtain ⟨g, es, clock, g1, g2, g3, g4, g5⟩ : ∃ g es clock, hv n = .map (some g) ∧ w.heap[g]? = some (.map es clock) ∧ Ents (Us w0 U0 D) w l es.toList ∧ (∀ e ∈ es, e.born < clock) ∧ (es.toList.map (fun e : MapEntry => e.born)).Nodup := hm.obj n _ ((hs n (by simp)).trans hm') hok
    obtain ⟨it, zv, i1, i2, i3⟩ := zeroT_spec hzc
    have hck := run_checkKey (P := P) (w := w) huk (k := .int k i) rfl es.isEmpty 9999
    have hge := Go.MapKept.run_getObj_map (P := P) g2
    rcases find_spec 0 g3 hik (i := i) with ⟨f1, f2⟩ | ⟨j, e, c, f1, f2, f3, f4, f5, f6⟩
    · have hfk := run_findKey (P := P) (w := w) huk f1
      have hzv : (zeroValue et).run P w = .ok zv w := by simp [zeroValue, typeInfo, i1, i2]
      refine ⟨.tuple #[zv, .bool false], ?_, ?_⟩
      · rw [g1] at h1
        generalize a.eval = ρ at h1 e2 ⊢
        simp [execOp, ho, Instr.lookup, run_underlying hu, h1, e2, hge, hck, hfk, hzv]
      · rw [f2]
        exact ⟨[zv, .bool false], rfl, zv, [.bool false], rfl, hzr _ _ zv (i3 _ _) ⟨it, i1, i2⟩, .bool false, [], rfl, vrep_sc.2 ⟨rfl, rfl⟩, rfl⟩
    · have hfk := run_findKey (P := P) (w := w) huk f1
      refine ⟨.tuple #[e.val, .bool true], ?_, ?_⟩
      · rw [g1] at h1
        generalize a.eval = ρ at h1 e2 ⊢
        simp [execOp, ho, Instr.lookup, run_underlying hu, h1, e2, hge, hck, hfk]
      · rw [f6]
        exact ⟨[e.val, .bool true], rfl, e.val, [.bool true], rfl, f4, .bool true, [], rfl, vrep_sc.2 ⟨rfl, rfl⟩, rfl⟩

/-- A pointer that isn't nil. -/
theorem a_nilchk (hg : Gd w0 U0 nt ops o gs S) (hd : o.dst = some d) (hn : Nat.blt d nt = true) (h5 : Nat.blt d 100000 = true) {x : Operand} {n q : Nat} {p : List Nat} {c : CV} (ho : o.op = .nilCheck x) (hx : ev S x = some ⟨2, c, n, q, p⟩) : AOp P w0 U0 nt ops o (gs ++ rd x) [] S [(d, ⟨2, c, n, q, p⟩)] :=
  aop_val hg hd hn h5 (fun k hk => List.mem_append_left _ hk) fun s hs a w D hv hm => by
    obtain ⟨hbn, h1⟩ : BN n ∧ a.eval x = .pointer (some ⟨blkOf (hv (100000 + n)), q, none⟩) := ev_rep hm (fun k hk => hs k (List.mem_append_right _ hk)) hx
    refine ⟨.pointer (some ⟨blkOf (hv (100000 + n)), q, none⟩), ?_, hbn, rfl⟩
    generalize a.eval = ρ at h1 ⊢
    simp [execOp, ho, h1]

/-- A key's value is another, or it is new. -/
def putR (k : IntKind) (i : Int) (c : CV) : List CV → List CV
  | [] => [.row [.sc (.int k i), c]]
  | r :: l => match r with
    | ⟨_, _, [⟨_, .int k' j, _⟩, _]⟩ => if k' = k ∧ j = i then .row [.sc (.int k i), c] :: l else r :: putR k i c l
    | _ => r :: putR k i c l
theorem putR_row {k : IntKind} {i j : Int} {c c' : CV} {l : List CV} : putR k i c (.row [.sc (.int k j), c'] :: l) = if j = i then .row [.sc (.int k i), c] :: l else .row [.sc (.int k j), c'] :: putR k i c l := by
  rw [putR]; simp
theorem putR_spec {k : IntKind} {i : Int} (c : CV) : ∀ {l : List CV}, IntKeys k l → (lookR k i l = none → putR k i c l = l ++ [.row [.sc (.int k i), c]]) ∧ ∀ j c', l[j]? = some (.row [.sc (.int k i), c']) → (∀ j' c'', j' < j → l[j']? ≠ some (.row [.sc (.int k i), c''])) → putR k i c l = l.set j (.row [.sc (.int k i), c])
  | [], _ => ⟨fun _ => rfl, fun j c' h => by simp at h⟩
  | r :: l, hk => by
    obtain ⟨j0, c0, rfl⟩ := hk r (by simp)
    obtain ⟨ih1, ih2⟩ := putR_spec c (l := l) (fun x hx => hk x (List.mem_cons_of_mem _ hx))
    rw [putR_row, lookR_row]
    by_cases hj : j0 = i
    · subst hj
      rw [if_pos rfl, if_pos rfl]
      refine ⟨(fun h => by cases h), fun j c' h hf => ?_⟩
      cases j with
      | zero => rfl
      | succ j => exact absurd rfl (hf 0 c0 (by omega))
    · rw [if_neg hj, if_neg hj]
      refine ⟨fun h => by rw [ih1 h]; rfl, fun j c' h hf => ?_⟩
      cases j with
      | zero =>
        simp at h
        exact absurd h.1 hj
      | succ j =>
        rw [ih2 j c' (by simpa using h) fun j' c'' hlt => by have := hf (j' + 1) c'' (by omega); simpa using this]
        rfl
theorem find_first {U : Nat → Nat → Prop} {k : IntKind} {i : Int} : ∀ {l : List CV} {es : List MapEntry} (n : Nat) {j : Nat} {v : Value}, Ents U w l es → IntKeys k l → Instr.findNow (.int k) (.int k i) es n = some (some (n + j, v)) → ∀ j' c'', j' < j → l[j']? ≠ some (.row [.sc (.int k i), c''])
  | [], es, n, j, v, h, _, hf => by have h : es = [] := h; subst h; cases hf
  | r :: l, es, n, j, v, ⟨e, es', h1, ⟨k1, c1, g2, g3, g4, g5⟩, h3⟩, hk, hf => by
    obtain ⟨j0, c0, e1⟩ := hk r (by simp)
    rw [e1] at g2
    injection g2 with _ _ g6
    injection g6 with g6 g7
    have hkey : e.key = .int k j0 := by rw [g4, ← g6]
    subst h1
    intro j' c'' hlt hr
    by_cases hj : j0 = i
    · subst hj
      simp [Instr.findNow, Instr.sameNow, hkey] at hf
      omega
    · have hs : Instr.sameNow (.int k) (.int k i) e.key = some false := by
        rw [hkey]
        simp [Instr.sameNow]
        exact fun h => hj h.symm
      simp [Instr.findNow, hs] at hf
      cases j' with
      | zero =>
        rw [e1] at hr
        simp at hr
        exact hj hr.1
      | succ j' =>
        obtain ⟨j2, rfl⟩ : ∃ j2, j = j2 + 1 := ⟨j - 1, by omega⟩
        exact find_first (n + 1) (j := j2) h3 (fun x hx => hk x (List.mem_cons_of_mem _ hx)) (by rw [hf]; congr 3; omega) j' c'' (by omega) (by simpa using hr)
theorem ents_set {U : Nat → Nat → Prop} {r : CV} {e' : MapEntry} : ∀ {l : List CV} {es : List MapEntry} {j : Nat}, Ents U w l es → Ent U w r e' → Ents U w (l.set j r) (es.set j e')
  | [], es, j, h, _ => by have h : es = [] := h; subst h; exact rfl
  | x :: l, es, 0, ⟨e, es', h1, h2, h3⟩, hr => by rw [h1]; exact ⟨e', es', rfl, hr, h3⟩
  | x :: l, es, j + 1, ⟨e, es', h1, h2, h3⟩, hr => by rw [h1]; exact ⟨e, es'.set j e', rfl, h2, ents_set h3 hr⟩
theorem ents_snoc {U : Nat → Nat → Prop} {r : CV} {e' : MapEntry} : ∀ {l : List CV} {es : List MapEntry}, Ents U w l es → Ent U w r e' → Ents U w (l ++ [r]) (es ++ [e'])
  | [], es, h, hr => by have h : es = [] := h; subst h; exact ⟨e', [], rfl, hr, rfl⟩
  | x :: l, es, ⟨e, es', h1, h2, h3⟩, hr => by rw [h1]; exact ⟨e, es' ++ [e'], rfl, h2, ents_snoc h3 hr⟩

/-- m[i] = c -/
theorem a_mapup (hg : Gd w0 U0 nt ops o gs S) (hd : o.dst = none) {x y z : Operand} {t kt et : TypeId} {k : IntKind} {i : Int} {n : Nat} {l : List CV} {c : CV} {n' q' p' n2 q2 p2} (ho : o.op = .mapUpdate t x y z) (hu : P.underlying t = some (.map kt et)) (huk : P.underlying kt = some (.int k)) (hx : ev S x = some (.mref n)) (hy : ev S y = some ⟨0, .sc (.int k i), n', q', p'⟩) (hz : ev S z = some ⟨0, c, n2, q2, p2⟩) (hm' : S n = some (.mp l)) (hik : IntKeys k l) : AOp P w0 U0 nt ops o (gs ++ (rd x ++ (rd y ++ (rd z ++ [n])))) [] S [(n, .mp (putR k i c l))] := by
  intro s hs hN a w ⟨D, hv, h⟩ Q K hK
  rw [if_pos (hg s (fun k hk => hs k (List.mem_append_left _ hk)) a w D hv h)]
  have hm := (hs n (by simp)).trans hm'
  obtain ⟨hrn, h1, _⟩ : RN n ∧ a.eval x = hv n ∧ (a.eval x).oneCell' = true := ev_rep h (fun k hk => hs k (List.mem_append_right _ (List.mem_append_left _ hk))) hx
  have e2 := ev_sc h (fun k hk => hs k (List.mem_append_right _ (List.mem_append_right _ (List.mem_append_left _ hk)))) hy
  have e3 := ev_val h (fun k hk => hs k (List.mem_append_right _ (List.mem_append_right _ (List.mem_append_right _ (List.mem_append_left _ hk))))) hz
  have hok : oKey n := by unfold RN at hrn; unfold oKey; omega
  obtain ⟨g, es, clock, g1, g2, g3, g4, g5⟩ : ∃ g es clock, hv n = .map (some g) ∧ w.heap[g]? = some (.map es clock) ∧ Ents (Us w0 U0 D) w l es.toList ∧ (∀ e ∈ es, e.born < clock) ∧ (es.toList.map (fun e : MapEntry => e.born)).Nodup := h.obj n _ hm hok
  have hck := run_checkKey (P := P) (w := w) huk (k := .int k i) rfl false 9999
  have hge := Go.MapKept.run_getObj_map (P := P) g2
  obtain ⟨p1, p2'⟩ := putR_spec (i := i) c hik
  have fin : ∀ (es' : Array MapEntry) (clock' : Nat), (execOp a.eval o).run P w = .ok .skip { w with heap := w.heap.setIfInBounds g (.map es' clock') } → Ents (Us w0 U0 D) w (putR k i c l) es'.toList → (∀ e ∈ es', e.born < clock') → (es'.toList.map (fun e : MapEntry => e.born)).Nodup → o.wp P a w K Q := fun es' clock' he k1 k2 k3 => by
    obtain ⟨q1, q2⟩ := heap_set (o' := Obj.map es' clock') g2
    unfold Oper.wp
    rw [he, Oper.upon_skip, hd]
    refine hK _ _ ⟨_, _, h.upd (av := .mp (putR k i c l)) (g := g) hok hm (by simp) (by simp) rfl (fun g' hn o _ => hn o (by simp)) (by simp) (by rw [g1]; rfl) rfl rfl rfl (by simp) q2 fun hkp => ?_⟩
    exact ⟨g, es', clock', g1, q1, k1.keep hkp, k2, k3⟩
  rcases find_spec 0 g3 hik (i := i) with ⟨f1, f2⟩ | ⟨j, e, c', f1, f2, f3, f4, f5, f6⟩
  · have hfk := run_findKey (P := P) (w := w) huk f1
    refine fin (es.push { key := .int k i, val := a.eval z, born := clock }) (clock + 1) ?_ ?_ ?_ ?_
    · rw [g1] at h1
      have hso := run_setObj_map (P := P) (Obj.map (es.push { key := .int k i, val := a.eval z, born := clock }) (clock + 1)) g2
      generalize a.eval = ρ at h1 e2 hso ⊢
      simp [execOp, ho, Instr.mapUpdate, run_underlying hu, h1, e2, hge, hck, hfk, hso]
    · rw [p1 f2, Array.toList_push]
      exact ents_snoc g3 ⟨.sc (.int k i), c, rfl, rfl, rfl, e3⟩
    · intro e he
      rcases Array.mem_push.1 he with he | rfl
      · have := g4 e he; omega
      · exact Nat.lt_succ_self _
    · rw [Array.toList_push, List.map_append, List.nodup_append]
      refine ⟨g5, by simp, fun a1 h1 b1 h2 => ?_⟩
      simp at h1 h2
      obtain ⟨e, he, rfl⟩ := h1
      have := g4 e he
      omega
  · have hfk := run_findKey (P := P) (w := w) huk f1
    rw [Nat.zero_add] at hfk
    have hjl : j < es.size := by
      have := (List.getElem?_eq_some_iff.1 f2).1
      simpa using this
    have hej : es[j]? = some e := by rw [← Array.getElem?_toList]; exact f2
    have hmod : (es.modify j fun e => { e with key := .int k i, val := a.eval z }).toList = es.toList.set j { e with key := .int k i, val := a.eval z } := by
      rw [Array.toList_modify]
      apply List.ext_getElem?
      intro q
      rw [List.getElem?_modify, List.getElem?_set]
      by_cases hq : j = q
      · subst hq
        have : es[j] = e := (Array.getElem?_eq_some_iff.1 hej).2
        simp [hjl, this]
      · simp [hq]
    have hbr : (es.modify j fun e => { e with key := .int k i, val := a.eval z }).toList.map (fun e : MapEntry => e.born) = es.toList.map (fun e : MapEntry => e.born) := by
      rw [hmod, List.map_set]
      apply List.ext_getElem?
      intro q
      rw [List.getElem?_set]
      by_cases hq : j = q
      · subst hq
        rw [if_pos rfl, if_pos (by simpa using hjl), List.getElem?_map, f2]
        rfl
      · rw [if_neg hq]
    refine fin (es.modify j fun e => { e with key := .int k i, val := a.eval z }) clock ?_ ?_ ?_ ?_
    · rw [g1] at h1
      have hso := run_setObj_map (P := P) (Obj.map (es.modify j fun e => { e with key := .int k i, val := a.eval z }) clock) g2
      have hst : (Instr.keyThatStays (.int k i) (.int k i)).run P w = .ok (.int k i) w := by simp [Instr.keyThatStays, Instr.sameBits]
      generalize a.eval = ρ at h1 e2 hso ⊢
      simp [execOp, ho, Instr.mapUpdate, run_underlying hu, h1, e2, hge, hck, hfk, hej, f5, hst, hso]
    · rw [hmod, p2' j c' f3 (find_first 0 (j := j) g3 hik f1)]
      exact ents_set g3 ⟨.sc (.int k i), c, rfl, rfl, rfl, e3⟩
    · intro e' he
      have h6 : e'.born ∈ (es.modify j fun e => { e with key := .int k i, val := a.eval z }).toList.map (fun e : MapEntry => e.born) := List.mem_map.2 ⟨e', Array.mem_toList_iff.2 he, rfl⟩
      rw [hbr] at h6
      obtain ⟨e4, h7, h8⟩ := List.mem_map.1 h6
      rw [← h8]
      exact g4 e4 (by simpa using h7)
    · rw [hbr]; exact g5
end
end Go.Proofs.Ytahkegkahhbalaa


namespace Go.Proofs.Ytahkegkahhbalaa
open Go.RowKit
set_option linter.unusedVariables false
set_option linter.unusedSimpArgs false

section
variable {P : Program} {w0 : World} {U0 : UX} {nt : Nat} {ops : Array Oper} {o : Oper} {S : Nat → Option AV} {gs : List Nat} {d : Nat} {s : AS} {a : Act} {w : World} {D : Nat → Nat → Prop} {hv : Nat → Value}

/-- What is built, nothing told of its room. -/
theorem AOp.plain {R : List Nat} {N : List (Nat × List Nat)} {c : CV} {n q : Nat} {p : List Nat} (h5 : Nat.blt d 100000 = true) (h : AOp P w0 U0 nt ops o R N S [(d, ⟨0, c, n, q, p⟩)]) : AOp P w0 U0 nt ops o R N S [(d, .val c)] := by
  intro s hs hN a w hsim Q K hK
  refine h s hs hN a w hsim Q K fun a' w' hs' => hK a' w' ?_
  obtain ⟨D, hv, hg⟩ := hs'
  obtain ⟨v, g1, g2⟩ := hg.slot d _ (look_same _ _ _) (blt_lt h5)
  refine ⟨D, hv, (hg.know (blt_lt h5) g1 (avrep_val g2.1)).congr fun k => ?_⟩
  show look ((d, AV.val c) :: s) k = look ((d, AV.val c) :: (d, _) :: s) k
  rw [look_cons, look_cons, look_cons]
  split <;> rfl
theorem a_buildP (hg : Gd w0 U0 nt ops o gs S) (hd : o.dst = some d) (hn : Nat.blt d nt = true) (h5 : Nat.blt d 100000 = true) {t : TypeId} {parts : Array (Nat × Operand)} {fs : Array Field} {it : TypeInfo} {cs : Array Value} {sz : List Nat} {zs r : List CV} {n : Nat} {p : List Nat} (ho : o.op = .build t parts) (hu : P.underlying t = some (.struct fs)) (hi : P.info? t = some it) (hz : it.zero = some (.agg cs)) (hsz : szO P fs.toList 0 = some sz) (h0 : zsO sz cs.toList = some zs) (hr : setsO S parts.toList zs = some r) (hp : nilB zs parts.toList 0 = (n, p)) :
    AOp P w0 U0 nt ops o (gs ++ rds parts.toList) [] S [(d, .val (.row r))] := (a_build hg hd hn h5 ho hu hi hz hsz h0 hr hp).plain h5

/-- A field that has no room behind it is read. -/
theorem load_full (hm : SimG w0 U0 nt s a w D hv) {x : Operand} {ty e : TypeId} {l : List CV} {n q : Nat} (ho : o.op = .load ty x) (hu : P.underlying ty = some (.slice e)) (hx : BN n ∧ a.eval x = .pointer (some ⟨blkOf (hv (100000 + n)), q, none⟩)) (hb : look s (100000 + n) = some .obj) {n3 q3 p3} (hf : look s (fKey n q) = some ⟨18, .lst l, n3, q3, p3⟩) (hq : q < 100) : ∃ v, (execOp a.eval o).run P w = .ok (.value v) w ∧ VRep (Us w0 U0 D) w (.lst l) v ∧ ∃ ao n, v = .slice ao n n := by
  obtain ⟨hbn, h1⟩ := hx
  obtain ⟨v, g1, g2, g3⟩ := hm.fld n q _ hf hq hb hbn
  have g1 : VRep (Us w0 U0 D) w (.lst l) v ∧ ∃ ao n, v = .slice ao n n := g1
  obtain ⟨g4, ao, k, rfl⟩ := g1
  refine ⟨_, ?_, g4, ao, k, rfl⟩
  have := g3 0 (by simp [Value.cells])
  simp only [Nat.add_zero, Value.cells] at this
  have hl : (loadVar ty ⟨blkOf (hv (100000 + n)), q, none⟩).run P w = .ok (.slice ao k k) w := by
    simp [loadVar, run_isAgg hu, aggB, run_load, this]
  generalize a.eval = ρ at h1 ⊢
  simp [execOp, ho, Instr.loadAt, Instr.sureAddr, h1, hl]
theorem a_load_full (hg : Gd w0 U0 nt ops o gs S) (hd : o.dst = some d) (hn : Nat.blt d nt = true) (h5 : Nat.blt d 100000 = true) {x : Operand} {ty e : TypeId} {n q : Nat} {p : List Nat} {k' v' l'} {l : List CV} (ho : o.op = .load ty x) (hu : P.underlying ty = some (.slice e)) (hx : ev S x = some ⟨2, ⟨k', v', l'⟩, n, q, p⟩) (hb : S (100000 + n) = some .obj) {n3 q3 p3} (hf : S (fKey n q) = some ⟨18, .lst l, n3, q3, p3⟩) (hq : Nat.blt q 100 = true) : AOp P w0 U0 nt ops o (gs ++ (rd x ++ [100000 + n, fKey n q])) [] S [(d, .full (.lst l))] :=
  aop_val hg hd hn h5 (fun k hk => List.mem_append_left _ hk) fun s hs a w D hv hm => by
    obtain ⟨v, h1, h2, h3⟩ := load_full (P := P) hm ho hu (ev_rep hm (fun k hk => hs k (List.mem_append_right _ (List.mem_append_left _ hk))) hx) ((hs (100000 + n) (by simp)).trans hb) ((hs (fKey n q) (by simp)).trans hf) (blt_lt hq)
    exact ⟨v, h1, h2, h3⟩
theorem a_load_fullv (hg : Gd w0 U0 nt ops o gs S) (hd : o.dst = some d) (hn : Nat.blt d nt = true) (h5 : Nat.blt d 100000 = true) {x : Operand} {ty e : TypeId} {n q : Nat} {p : List Nat} {k' v' l'} {l : List CV} (ho : o.op = .load ty x) (hu : P.underlying ty = some (.slice e)) (hx : ev S x = some ⟨2, ⟨k', v', l'⟩, n, q, p⟩) (hb : S (100000 + n) = some .obj) {n3 q3 p3} (hf : S (fKey n q) = some ⟨18, .lst l, n3, q3, p3⟩) (hq : Nat.blt q 100 = true) : AOp P w0 U0 nt ops o (gs ++ (rd x ++ [100000 + n, fKey n q])) [] S [(d, .val (.lst l))] :=
  aop_val hg hd hn h5 (fun k hk => List.mem_append_left _ hk) fun s hs a w D hv hm => by
    obtain ⟨v, h1, h2, h3⟩ := load_full (P := P) hm ho hu (ev_rep hm (fun k hk => hs k (List.mem_append_right _ (List.mem_append_left _ hk))) hx) ((hs (100000 + n) (by simp)).trans hb) ((hs (fKey n q) (by simp)).trans hf) (blt_lt hq)
    exact ⟨v, h1, avrep_val h2⟩

/-- x[:n:n] -/
theorem a_clip (hg : Gd w0 U0 nt ops o gs S) (hd : o.dst = some d) (hn : Nat.blt d nt = true) (h5 : Nat.blt d 100000 = true) {x y y2 : Operand} {t e : TypeId} {z : Nat} {l : List CV} {k k2 : IntKind} {i i2 : Int} {n q p n' q' p' n2 q2 p2} (ho : o.op = .slice t x none (some y) (some y2)) (hu : P.underlying t = some (.slice e)) (hi : (P.info? e).map (·.size) = some z) (hx : ev S x = some ⟨0, .lst l, n, q, p⟩) (hy : ev S y = some ⟨0, .sc (.int k i), n', q', p'⟩) (hy2 : ev S y2 = some ⟨0, .sc (.int k2 i2), n2, q2, p2⟩) (hij : i = (l.length : Int)) (hij2 : i2 = (l.length : Int)) (hz : ∀ c ∈ l, c.size = z) : AOp P w0 U0 nt ops o (gs ++ (rd x ++ (rd y ++ rd y2))) [] S [(d, .full (.lst l))] :=
  aop_val hg hd hn h5 (fun k hk => List.mem_append_left _ hk) fun s hs a w D hv hm => by
    have hv := ev_val hm (fun k hk => hs k (List.mem_append_right _ (List.mem_append_left _ hk))) hx
    have e2 := ev_sc hm (fun k hk => hs k (List.mem_append_right _ (List.mem_append_right _ (List.mem_append_left _ hk)))) hy
    have e3 := ev_sc hm (fun k hk => hs k (List.mem_append_right _ (List.mem_append_right _ (List.mem_append_right _ hk)))) hy2
    obtain ⟨ao, m, cap, h1, h2, h3, h4, h6, ys, h7, h8⟩ := vrep_lst.1 hv
    have hsz := run_sizeOf (P := P) (w := w) hi
    subst hij
    subst hij2
    have hb1 := run_bound (P := P) (w := w) (k := k2) (j := l.length) (y := cap) (code := .slice3Acap) (by omega)
    have hb2 := run_bound (P := P) (w := w) (k := k) (j := l.length) (y := l.length) (code := .slice3B) (Nat.le_refl _)
    refine ⟨.slice ao l.length l.length, ?_, vrep_lst.2 ⟨ao, l.length, l.length, rfl, rfl, Nat.le_refl _, by omega, fun h => ⟨by have := (h6 h).1; omega, by have := (h6 h).1; omega⟩, ys, h7, h8⟩, ao, l.length, rfl⟩
    generalize a.eval = ρ at h1 e2 e3 ⊢
    simp [execOp, ho, Instr.sliceAt, Instr.slice, run_underlying hu, h1, e2, e3, Instr.sliceBounds, hb1, hb2, hsz]
    intro _
    cases ao with
    | none => rfl
    | some ad => cases ad with | mk b f g => cases g <;> simp [Addr.add]

theorem run_eqmap {t k e : TypeId} (hu : P.underlying t = some (.map k e)) (w : World) : (Op.equal t (.map none) (.map none)).run P w = .ok true w := by
  unfold Op.equal
  rw [show Op.maxDepth = 9999 + 1 from rfl, Op.equalIn]
  simp [run_underlying hu]
/-- A map that is nil. -/
theorem a_mnil (hg : Gd w0 U0 nt ops o gs S) (hd : o.dst = some d) (hn : Nat.blt d nt = true) (h5 : Nat.blt d 100000 = true) {x : Operand} {t1 t2 e k : TypeId} {n q p} (ho : o.op = .binOp .eql t1 x (.const (.map none)) t2) (hu : P.underlying t1 = some (.map k e)) (hx : ev S x = some ⟨0, .sc (.map none), n, q, p⟩) : AOp P w0 U0 nt ops o (gs ++ rd x) [] S [(d, .val (.b true))] :=
  aop_val hg hd hn h5 (fun k hk => List.mem_append_left _ hk) fun s hs a w D hv hm => by
    have h1 := ev_sc hm (fun k hk => hs k (List.mem_append_right _ hk)) hx
    have hb := run_eqmap (P := P) hu w
    have hc : a.eval (.const (.map none)) = .map none := rfl
    refine ⟨.bool true, ?_, avrep_sc rfl⟩
    generalize a.eval = ρ at h1 hc ⊢
    simp [execOp, ho, h1, hc, eqGuard, binOp, hb]
theorem a_mnot (hg : Gd w0 U0 nt ops o gs S) (hd : o.dst = some d) (hn : Nat.blt d nt = true) (h5 : Nat.blt d 100000 = true) {x : Operand} {t1 t2 e k : TypeId} {n q p} (ho : o.op = .binOp .neq t1 x (.const (.map none)) t2) (hu : P.underlying t1 = some (.map k e)) (hx : ev S x = some ⟨0, .sc (.map none), n, q, p⟩) : AOp P w0 U0 nt ops o (gs ++ rd x) [] S [(d, .val (.b false))] :=
  aop_val hg hd hn h5 (fun k hk => List.mem_append_left _ hk) fun s hs a w D hv hm => by
    have h1 := ev_sc hm (fun k hk => hs k (List.mem_append_right _ hk)) hx
    have hb := run_eqmap (P := P) hu w
    have hc : a.eval (.const (.map none)) = .map none := rfl
    refine ⟨.bool false, ?_, avrep_sc rfl⟩
    generalize a.eval = ρ at h1 hc ⊢
    simp [execOp, ho, h1, hc, eqGuard, binOp, hb]

/-- append to a slice without room: always new memory. -/
theorem run_appF {t ty e : TypeId} {z : Value} {size bytes : Nat} (ht : P.underlying t = some (.slice e)) (hi : (P.info? e).map (fun i => (i.zero, i.size, i.bytes)) = some (some z, size, bytes)) (hzs : z.cells.size = size) (hsz : 0 < size)
    {ao1 : Option Addr} {n : Nat} {xs : List Value} {U : Nat → Nat → Prop} (hnil1 : ao1 = none → n = 0) (hb1 : At U w ao1 xs) (hl1 : xs.length = n * size) {ao : Option Addr} {m c : Nat} {ys : List Value} (hnil : ao = none → m = 0) (hb : At U w ao ys) (hl : ys.length = m * size) (h1 : ∀ u ∈ ys, u.oneCell' = true) (hm : 0 < m) (h63 : n + m ≤ maxLen) (hbytes : (n + m) * bytes ≤ 140737488355328) :
    ∃ v' w', Sem.run P (Builtin.append_ #[t, t] ty #[.slice ao1 n n, .slice ao m c]) w = .ok v' w' ∧ w'.ownsRow w.heap.size e size v' (n + m) (xs ++ ys) ∧ w.grownBy w' none := by
  obtain ⟨i, hi1, hi2, hi3, hi4⟩ := info_parts hi
  have hat : ∀ {ad : Addr} {zs : List Value}, At U w (some ad) zs → ∀ j u, zs[j]? = some u → w.cell? (ad.add j) = some u := fun {ad zs} hA j u hj => by
    have hjl : j < zs.length := by
      rcases Nat.lt_or_ge j zs.length with h | h
      · exact h
      · rw [List.getElem?_eq_none h] at hj; cases hj
    rcases hA with rfl | ⟨b, off, ha, hc⟩
    · simp at hjl
    · cases ha
      rw [add_at, (hc j hjl).2, hj]
  cases ao with
  | none => have := hnil rfl; omega
  | some ad =>
    cases ao1 with
    | none =>
      have hn := hnil1 rfl
      subst hn
      have : xs = [] := List.eq_nil_of_length_eq_zero (by simpa using hl1)
      subst this
      obtain ⟨v', w', hr, ho, hg, _⟩ := run_append_own (P := P) w w.heap.size t ty e i z size bytes ht hi1 hi2 hi3 hi4 hzs hsz (.slice none 0 0) 0 [] (World.ownsRow_nil _ _ _ _) ad m c ys hl (hat hb) h1 h63 hbytes (Nat.le_refl _)
      exact ⟨v', w', hr, ho, hg⟩
    | some ad1 => exact run_append_arg_grows (P := P) w t ty e i z size bytes ht hi1 hi2 hi3 hi4 hzs hsz ad1 n n xs hl1 (hat hb1) ad m c ys hl (hat hb) (by omega) h63 hbytes

theorem a_appF (nn : Nat) (hg : Gd w0 U0 nt ops o gs S) (hd : o.dst = some d) (hn : Nat.blt d nt = true) (h5 : Nat.blt d 100000 = true) {x y : Operand} {t e size bytes : Nat} {z : Value} {l l2 : List CV} {n2 q2 p2} (ho : o.op = .call { callee := .builtin .append, args := #[x, y], argTypes := #[t, t] }) (ht : P.underlying t = some (.slice e)) (hi : (P.info? e).map (fun i => (i.zero, i.size, i.bytes)) = some (some z, size, bytes)) (hzs : Nat.beq z.cells.size size = true) (hsz : Nat.blt 0 size = true) (hbt : Nat.ble bytes 1000 = true)
    (hx : ev S x = some (.full (.lst l))) (hy : ev S y = some ⟨0, .lst l2, n2, q2, p2⟩) (hn2 : (Nat.ble 200000 nn && Nat.blt nn 400000) = true) (hpos : Nat.blt 0 l2.length = true) (hl : ∀ c ∈ l, c.size = size) (hl2 : ∀ c ∈ l2, c.size = size) (hbd : l.length + l2.length ≤ 100000000000) :
    AOp P w0 U0 nt ops o (gs ++ (rd x ++ rd y)) [(nn, [])] S [(d, .sl nn 0 (l.length + l2.length) size), (nn, .mrow e size (l ++ l2))] := by
  intro s hs hN a w ⟨D, hv, h⟩ Q K hK
  rw [if_pos (hg s (fun k hk => hs k (List.mem_append_left _ hk)) a w D hv h)]
  obtain ⟨h1, ao, n, hvx⟩ : VRep (Us w0 U0 D) w (.lst l) (a.eval x) ∧ ∃ ao n, a.eval x = .slice ao n n := ev_rep h (fun k hk => hs k (List.mem_append_right _ (List.mem_append_left _ hk))) hx
  have h3 := ev_val h (fun k hk => hs k (List.mem_append_right _ (List.mem_append_right _ hk))) hy
  rw [hvx] at h1
  obtain ⟨ao', n', cap, e1, e2, e3, e4, e5, ys, e6, e7⟩ := vrep_lst.1 h1
  injection e1 with f1 f2 f3
  subst f1; subst f2; subst f3
  obtain ⟨ao2, m, c2, g1, g2, g3, g4, g6, ys2, g7, g8⟩ := vrep_lst.1 h3
  have hyl : ys.length = n * size := by rw [sq_len (n := CV.size) (fun c _ xs h => h.len) e7, sum_const hl, e2]
  have hyl2 : ys2.length = m * size := by rw [sq_len (n := CV.size) (fun c _ xs h => h.len) g8, sum_const hl2, g2]
  have hbt := Nat.le_of_ble_eq_true hbt
  have hsz := blt_lt hsz
  have hpos := blt_lt hpos
  have hmul : (n + m) * bytes ≤ 100000000000 * 1000 := Nat.mul_le_mul (by omega) hbt
  obtain ⟨v', w', r1, r2, r3⟩ := run_appF (P := P) (ty := o.type) ht hi (Nat.eq_of_beq_eq_true hzs) hsz (fun h => (e5 h).1) e6 hyl (fun h => (g6 h).1) g7 hyl2 (c := c2) (rep_one_of g8) (by omega) (by unfold maxLen; omega) (by omega)
  have hrn2 := rnB hn2
  have hb2 : hb v' = v'.ownBlock := by
    rcases r2.2 with ⟨rfl, _⟩ | ⟨g, cap, cur, rfl, _⟩ <;> rfl
  have hkp : ∀ b o u, Us w0 U0 D b o → w.cell? ⟨b, o, none⟩ = some u → Us w0 U0 D b o ∧ w'.cell? ⟨b, o, none⟩ = some u := fun b o u hu hc => by
    refine ⟨hu, ?_⟩
    have hlt : b < w.heap.size := World.block_lt_of_cell? w _ hc
    rw [World.cell?_of_block (w := w) (r3.block b hlt (by simp))]
    exact hc
  have hG := h.newrow (avn := .mrow e size (l ++ l2)) (v' := v') (D' := D) (X := fun _ => False) (n := nn) hrn2 (hN (nn, []) (by simp)).nr (by simp) ⟨r3.os, r3.tape, r3.output, r3.size, fun b hb hx => r3.block b hb (by simp)⟩ (fun b hb => hb.elim) (fun g hg => by
      rw [hb2] at hg
      refine ⟨.inr (r2.lt g hg).1, (r2.lt g hg).2, fun o _ hd => ?_⟩
      have := (r2.lt g hg).1
      have := h.dlt _ _ hd
      omega) (fun b o hd => .inl hd) (fun b o hd => Nat.lt_of_lt_of_le (h.dlt _ _ hd) r3.size) hkp (fun hv lv => by
      refine ⟨ys ++ ys2, ?_, hsz, fun c hc => ?_, ?_⟩
      · show w'.ownsRow 0 e size v' (l ++ l2).length (ys ++ ys2)
        rw [List.length_append, ← e2, ← g2]
        exact ownsRow_mono r2 (Nat.zero_le _)
      · rcases List.mem_append.1 hc with hc | hc
        · exact hl c hc
        · exact hl2 c hc
      · show Sq ((l ++ l2).map _) _
        rw [List.map_append]
        exact sq_append (Sq.keep hkp e7) (Sq.keep hkp g8))
  have he : (execOp a.eval o).run P w = .ok (.value v') w' := by
    generalize a.eval = ρ at hvx g1 ⊢
    simp [execOp, ho, resolve, invoke, builtin, hvx, g1, r1, Result.andThen]
  unfold Oper.wp
  rw [he, Oper.upon_value, hd]
  refine hK _ _ ⟨_, _, hG.put (blt_lt hn) (blt_lt h5) ?_⟩
  refine ⟨RW.rn hrn2, ?_⟩
  obtain ⟨a1, c1, k1, k2, k3⟩ := own_addr (ownsRow_mono r2 (Nat.zero_le _))
  have := slV_all (z := size) k1 k2 k3
  show SlV ((fun x => if x = nn then v' else hv x) nn) 0 (l.length + l2.length) size v'
  simp only [if_true]
  rw [← e2, ← g2]
  exact this

theorem made_flat (z : List Value) (hz : 0 < z.length) (n : Nat) : (madeCells z.toArray (n * z.length)).toList = (List.replicate n z).flatten := by
  apply List.ext_getElem?
  intro k
  rw [flat_const hz _ (fun v hv => by rw [List.eq_of_mem_replicate hv])]
  have hlen : (madeCells z.toArray (n * z.length)).toList.length = n * z.length := by simp [size_madeCells]
  rcases Nat.lt_or_ge k (n * z.length) with h | h
  · have hd : k / z.length < n := by rw [Nat.div_lt_iff_lt_mul hz]; exact h
    have hm : k % z.length < z.length := Nat.mod_lt _ hz
    rw [List.getElem?_replicate, if_pos hd]
    simp only [Option.bind_some]
    rw [List.getElem?_eq_getElem hm]
    simp [madeCells, h, hm]
  · rw [List.getElem?_eq_none (by omega), List.getElem?_replicate, if_neg]
    · rfl
    · rw [Nat.not_lt, Nat.le_div_iff_mul_le hz]; exact h

/-- make -/
theorem a_mkM (nn : Nat) (hg : Gd w0 U0 nt ops o gs S) (hd : o.dst = some d) (hn : Nat.blt d nt = true) (h5 : Nat.blt d 100000 = true) {x y : Operand} {t e size bytes k : Nat} {z : Value} {zc : CV} {i1 i2 : Int} {k1 k2 : IntKind} {n1 q1 p1 n2 q2 p2} (ho : o.op = .makeSlice t x y) (ht : P.underlying t = some (.slice e)) (hi : (P.info? e).map (fun i => (i.zero, i.size, i.bytes)) = some (some z, size, bytes)) (hzc : zeroT P e = some zc) (hzs : Nat.beq z.cells.size size = true) (hzz : zc.size = size) (hsz : Nat.blt 0 size = true) (hbt : Nat.ble bytes 1000 = true)
    (hx : ev S x = some ⟨0, .sc (.int k1 i1), n1, q1, p1⟩) (hy : ev S y = some ⟨0, .sc (.int k2 i2), n2, q2, p2⟩) (hn2 : (Nat.ble 200000 nn && Nat.blt nn 400000) = true) (h1 : i1 = (k : Int)) (h2 : i2 = (k : Int)) (hs1 : Nat.ble size 160 = true) (hbd : k ≤ 100000) :
    AOp P w0 U0 nt ops o (gs ++ (rd x ++ rd y)) [(nn, [])] S [(d, .sl nn 0 k size), (nn, .mrow e size (List.replicate k zc))] := by
  intro s hs hN a w ⟨D, hv, h⟩ Q K hK
  rw [if_pos (hg s (fun k hk => hs k (List.mem_append_left _ hk)) a w D hv h)]
  have e1 := ev_sc h (fun k hk => hs k (List.mem_append_right _ (List.mem_append_left _ hk))) hx
  have e2 := ev_sc h (fun k hk => hs k (List.mem_append_right _ (List.mem_append_right _ hk))) hy
  subst h1
  subst h2
  obtain ⟨i, hi1, hi2, hi3, hi4⟩ := info_parts hi
  have hsz := blt_lt hsz
  have hbt := Nat.le_of_ble_eq_true hbt
  have hzs := Nat.eq_of_beq_eq_true hzs
  have hmul : bytes * k ≤ 1000 * 100000 := Nat.mul_le_mul hbt hbd
  have hk : k * size ≤ 100000 * 160 := Nat.mul_le_mul hbd (Nat.le_of_ble_eq_true hs1)
  obtain ⟨w', r1, r2, r3⟩ := run_makeSlice_full (P := P) (w := w) w.heap.size t e i z size ht hi1 hi2 hi3 k1 k2 k (by omega) (by rw [hi4]; omega) (by unfold maxLen; omega) (Nat.le_refl _)
  have hrn2 := rnB hn2
  obtain ⟨it, z', f1, f2, f3⟩ := zeroT_spec hzc
  rw [hi1] at f1
  cases f1
  rw [hi2] at f2
  cases f2
  have hmf : (madeCells z.cells (k * size)).toList = (List.replicate k z.cells.toList).flatten := by
    have := made_flat z.cells.toList (by simpa [hzs] using hsz) k
    simpa [hzs] using this
  rw [hmf] at r2
  have hkp : ∀ b o u, Us w0 U0 D b o → w.cell? ⟨b, o, none⟩ = some u → Us w0 U0 D b o ∧ w'.cell? ⟨b, o, none⟩ = some u := fun b o u hu hc => by
    refine ⟨hu, ?_⟩
    have hlt : b < w.heap.size := World.block_lt_of_cell? w _ hc
    rw [World.cell?_of_block (w := w) (r3.block b hlt (by simp))]
    exact hc
  have hG := h.newrow (avn := .mrow e size (List.replicate k zc)) (v' := .slice (some ⟨w.heap.size, 0, none⟩) k k) (D' := D) (X := fun _ => False) (n := nn) hrn2 (hN (nn, []) (by simp)).nr (by simp) ⟨r3.os, r3.tape, r3.output, r3.size, fun b hb hx => r3.block b hb (by simp)⟩ (fun b hb => hb.elim) (fun g hg => by
      have hg : (Value.slice (some ⟨w.heap.size, 0, none⟩) k k).ownBlock = some g := hg
      refine ⟨.inr (r2.lt g hg).1, (r2.lt g hg).2, fun o _ hd => ?_⟩
      have := (r2.lt g hg).1
      have := h.dlt _ _ hd
      omega) (fun b o hd => .inl hd) (fun b o hd => Nat.lt_of_lt_of_le (h.dlt _ _ hd) r3.size) hkp (fun hv lv => by
      refine ⟨(List.replicate k z.cells.toList).flatten, ?_, hsz, fun c hc => ?_, sq_repl (f3 _ _) k⟩
      · show w'.ownsRow 0 e size _ (List.replicate k zc).length _
        rw [List.length_replicate]
        exact ownsRow_mono r2 (Nat.zero_le _)
      · rw [List.eq_of_mem_replicate hc]; exact hzz)
  have he : (execOp a.eval o).run P w = .ok (.value (.slice (some ⟨w.heap.size, 0, none⟩) k k)) w' := by
    generalize a.eval = ρ at e1 e2 ⊢
    simp [execOp, ho, e1, e2, r1]
  unfold Oper.wp
  rw [he, Oper.upon_value, hd]
  refine hK _ _ ⟨_, _, hG.put (blt_lt hn) (blt_lt h5) ⟨RW.rn hrn2, ?_⟩⟩
  show SlV ((fun x => if x = nn then Value.slice (some ⟨w.heap.size, 0, none⟩) k k else hv x) nn) 0 k size _
  simp only [if_true]
  exact slV_all rfl (Nat.le_refl _) (.inr ⟨_, rfl⟩)
end
end Go.Proofs.Ytahkegkahhbalaa


namespace Go.Proofs.Ytahkegkahhbalaa
open Go.RowKit
set_option linter.unusedVariables false
set_option linter.unusedSimpArgs false

section
variable {P : Program} {w0 : World} {U0 : UX} {nt : Nat} {ops : Array Oper} {o : Oper} {S : Nat → Option AV} {gs : List Nat} {d : Nat} {s : AS} {a : Act} {w : World} {D : Nat → Nat → Prop} {hv : Nat → Value}

/-- A variable of an array's type; sz: how many cells each of its parts takes. -/
theorem a_allocA (sz : List Nat) (hg : Gd w0 U0 nt ops o gs S) (hd : o.dst = some d) (hn : Nat.blt d nt = true) (h5 : Nat.blt d 100000 = true) {ty : TypeId} {it : TypeInfo} {cs : Array Value} {zs : List CV} (ho : o.op = .alloc ty) (hi : P.info? ty = some it) (hz : it.zero = some (.agg cs)) (h0 : zsO sz cs.toList = some zs) : AOp P w0 U0 nt ops o gs [(d, [])] S [(d, .bp d 0 []), (100000 + d, .bx (.row zs))] := by
  intro s hs hN a w ⟨D, hv, h⟩ Q K hK
  rw [if_pos (hg s hs a w D hv h)]
  obtain ⟨segs, e1, e2, e3, e4, e5⟩ := zsO_spec (U := Us w0 U0 D) (w := w) h0
  have hrep : Rep (Us w0 U0 D) w (.row zs) cs.toList := by
    rw [rep_row, ← e1]
    exact sq_of_segs e4 (fun i c hi => by obtain ⟨seg, f1, f2, _⟩ := e5 i c hi; exact ⟨seg, f1, f2⟩)
  have he : (execOp a.eval o).run P w = .ok (.value (.pointer (some ⟨w.heap.size, 0, none⟩))) (w.alloc (.cells cs ty)) := by
    simp [execOp, ho, Instr.alloc, zeroValue, typeInfo, hi, hz, run_newVar, Value.cells]
  unfold Oper.wp
  rw [he, Oper.upon_value, hd]
  have := h.newbox (d := d) (av := .bx (.row zs)) (hN (d, []) (by simp)).nr (blt_lt hn) (blt_lt h5) (.inl rfl) ty (fun _ => hrep) (fun _ hl => absurd hl not_live0)
  rw [Array.toArray_toList] at this
  exact hK _ _ ⟨_, _, this⟩

/-- An array is built. -/
theorem a_buildA (sz : List Nat) (hg : Gd w0 U0 nt ops o gs S) (hd : o.dst = some d) (hn : Nat.blt d nt = true) (h5 : Nat.blt d 100000 = true) {t e : TypeId} {m z : Nat} {parts : Array (Nat × Operand)} {it ie : TypeInfo} {cs : Array Value} {zs r : List CV} (ho : o.op = .build t parts) (hu : P.underlying t = some (.array m e)) (hi : P.info? t = some it) (hie : P.info? e = some ie) (hz : it.zero = some (.agg cs)) (hez : ie.size = z) (hsz : sz = List.replicate m z) (h0 : zsO sz cs.toList = some zs) (hr : setsO S parts.toList zs = some r) :
    AOp P w0 U0 nt ops o (gs ++ rds parts.toList) [] S [(d, .val (.row r))] :=
  aop_val hg hd hn h5 (fun k hk => List.mem_append_left _ hk) fun s hs a w D hv hm => by
    obtain ⟨segs, e1, e2, e3, e4, e5⟩ := zsO_spec (U := Us w0 U0 D) (w := w) h0
    have hlen : segs.map List.length = zs.map CV.size := by rw [e2, e3]
    obtain ⟨g1, g2⟩ := setsO_spec (U := Us w0 U0 D) (w := w) (ρ := a.eval) (segs := segs) hr (fun x hx c n q p hev => ev_val hm (fun k hk => hs k (List.mem_append_right _ (mem_rds hx k hk))) hev) e4 hlen (fun i c hi => by obtain ⟨seg, f1, f2, _⟩ := e5 i c hi; exact ⟨seg, f1, f2⟩)
    have hfill := fill_segs (place := fun i => some (i * ie.size, ie.size)) sz (fun i z' hz' => by
      rw [hsz, List.getElem?_replicate] at hz'
      split at hz'
      · rename_i him
        cases hz'
        rw [hsz, List.take_replicate, List.sum_replicate_nat, hez, Nat.min_eq_left (Nat.le_of_lt him)]
      · cases hz') (parts.toList.map fun x => (x.1, a.eval x.2)) segs cs e1.symm e2 (fun x hx => by rw [← e3]; exact g1 x hx)
    refine ⟨.agg (setAll segs (parts.toList.map fun x => (x.1, a.eval x.2))).flatten.toArray, ?_, avrep_val (vrep_row.2 ⟨_, rfl, g2⟩)⟩
    have hb : P.built t (parts.map fun x => (x.1, a.eval x.2)).toList = some (setAll segs (parts.toList.map fun x => (x.1, a.eval x.2))).flatten.toArray := by
      unfold Program.built
      rw [hi, hu]
      simp only [hz, hie]
      rw [Array.toList_map]
      exact hfill
    have := run_build w t _ _ hb
    generalize a.eval = ρ at this ⊢
    simp [execOp, ho, this]

/-- The address of an array's element; the array is in a box. -/
theorem a_idxA (j : Nat) (hg : Gd w0 U0 nt ops o gs S) (hd : o.dst = some d) (hn : Nat.blt d nt = true) (h5 : Nat.blt d 100000 = true) {x y : Operand} {ty e : TypeId} {m z n q : Nat} {p : List Nat} {k' v' l'} {i : Int} {kd : IntKind} {n2 q2 p2} (ho : o.op = .indexAddr ty x y) (hu : P.underlying ty = some (.array m e)) (hz : (P.info? e).map (·.size) = some z) (hx : ev S x = some ⟨2, ⟨k', v', l'⟩, n, q, p⟩) (hy : ev S y = some ⟨0, .sc (.int kd i), n2, q2, p2⟩) (hi : i = (j : Int)) (hj : Nat.blt j m = true) : AOp P w0 U0 nt ops o (gs ++ (rd x ++ rd y)) [] S [(d, .bp n (q + j * z) (p ++ [j]))] :=
  aop_val hg hd hn h5 (fun k hk => List.mem_append_left _ hk) fun s hs a w D hv hm => by
    obtain ⟨hbn, h1⟩ : BN n ∧ a.eval x = .pointer (some ⟨blkOf (hv (100000 + n)), q, none⟩) := ev_rep hm (fun k hk => hs k (List.mem_append_right _ (List.mem_append_left _ hk))) hx
    have e2 := ev_sc hm (fun k hk => hs k (List.mem_append_right _ (List.mem_append_right _ hk))) hy
    have hsz := run_sizeOf (P := P) (w := w) hz
    have hj := blt_lt hj
    subst hi
    refine ⟨.pointer (some ⟨blkOf (hv (100000 + n)), q + j * z, none⟩), ?_, hbn, rfl⟩
    have hadd := add_at (blkOf (hv (100000 + n))) q (j * z)
    generalize a.eval = ρ at h1 e2 ⊢
    simp [execOp, ho, Instr.indexAt, asIntOf, run_underlying hu, Instr.sureAddr, h1, e2, hj, hsz, hadd]

theorem a_lookupI (hg : Gd w0 U0 nt ops o gs S) (hd : o.dst = some d) (hn : Nat.blt d nt = true) (h5 : Nat.blt d 100000 = true) {x y : Operand} {t kt et : TypeId} {k k2 : IntKind} {i z2 : Int} {n : Nat} {l : List CV} {n' q' p'} (ho : o.op = .lookup t x y true) (hu : P.underlying t = some (.map kt et)) (huk : P.underlying kt = some (.int k)) (hz2 : (P.info? et).map (·.zero) = some (some (.int k2 z2))) (hzc : zeroT P et = some (.sc (.int k2 z2))) (hx : ev S x = some (.mref n)) (hy : ev S y = some ⟨0, .sc (.int k i), n', q', p'⟩) (hm' : S n = some (.mp l)) (hik : IntKeys k l) : AOp P w0 U0 nt ops o (gs ++ (rd x ++ (rd y ++ [n]))) [] S [(d, .tup [(lookR k i l).getD (.sc (.int k2 z2)), .b (lookR k i l).isSome])] :=
  a_lookup hg hd hn h5 ho hu huk hzc hx hy hm' hik fun U w v _ hh => by
    obtain ⟨it, h1, h2⟩ := hh
    rw [h1, Option.map_some, h2] at hz2
    injection hz2 with hz2
    injection hz2 with hz2
    rw [hz2]
    exact vrep_sc.2 ⟨rfl, rfl⟩

/-- No map has this name. -/
def noMref (s : AS) (n : Nat) : Bool := s.all fun p => !((Nat.beq p.2.t 15 || Nat.beq p.2.t 19) && Nat.beq p.2.n n)
/-- What isn't turned is as it was. -/
def SameS (S : Nat → Option AV) (ks : List Nat) : AS → Prop
  | [] => True
  | (k, av) :: l => (hasN ks k = true ∨ S k = some av) ∧ SameS S ks l
theorem SameS.look {ks : List Nat} : ∀ {l : AS}, SameS S ks l → ∀ {k av}, look l k = some av → hasN ks k = false → S k = some av
  | [], _, k, av, h, _ => by cases h
  | (k', av') :: l, ⟨h1, h2⟩, k, av, h, hn => by
    rw [look_cons] at h
    split at h
    · rename_i e
      subst e
      cases h
      rcases h1 with h1 | h1
      · rw [h1] at hn; cases hn
      · exact h1
    · exact SameS.look h2 h hn
/-- A call that turns just these of what it is lent. -/
theorem a_callOU (post' : AS) {f : FuncId} {xs : Array Operand} {ts : Array TypeId} {avs : List AV} {r : AV} {pre post : AS} (hg : Gd w0 U0 nt ops o gs S) (hd : o.dst = some d) (hn : Nat.blt d nt = true) (h5 : Nat.blt d 100000 = true)
    (ho : o.op = .call { callee := .value (.func f), args := xs, argTypes := ts }) (hx : evsA S xs.toList = some avs) (hc : AFunO P f pre avs r post) (hp : SubS S pre) (hl : pre.all lendB = true) (hq : post.all (leaveB (keysOf post)) = true) (hks : (keysOf pre).all (hasN (keysOf post)) = true) (hr : refB (keysOf post) r = true) (hnb : ∀ k v, U0.f k = some v → hasN (keysOf post) k = true → hasN (keysOf pre) k = true) (hsub : SubL post post') (hsame : SameS S (keysOf post') post) (hkp : (keysOf post).all (hasN (keysOf pre)) = true) (hlow : (keysOf post).all (Nat.ble 100000) = true) :
    AOp P w0 U0 nt ops o (gs ++ (rdl xs.toList ++ keysOf pre)) (newN (keysOf pre) (keysOf post) (keysOf post)) S ((d, r) :: post') := by
  have h := a_callO hg hd hn h5 ho hx hc hp hl hq hks hr hnb
  intro s hs hN a w hsim Q K hK
  refine h s hs hN a w hsim Q K fun a' w' hs' => hK a' w' (hs'.sub fun k av h1 => ?_)
  have hd5 := blt_lt h5
  have h1 : look ((d, r) :: (post' ++ s)) k = some av := h1
  show look ((d, r) :: (post ++ s)) k = some av
  rw [look_cons] at h1 ⊢
  split
  · rename_i e; rw [if_pos e] at h1; exact h1
  · rename_i e
    rw [if_neg e, look_append] at h1
    rw [look_append]
    cases e1 : look post' k with
    | some x => rw [e1] at h1; cases h1; rw [hsub.sub k _ e1]; rfl
    | none =>
      rw [e1] at h1
      have h1 : look s k = some av := h1
      cases e2 : look post k with
      | none => exact h1
      | some y =>
        have hk2 : hasN (keysOf post') k = false := by
          cases e3 : hasN (keysOf post') k with
          | false => rfl
          | true => obtain ⟨z, hz⟩ := keys_look (hasN_mem e3); rw [e1] at hz; cases hz
        have h3 := hsame.look e2 hk2
        rw [List.all_eq_true] at hkp
        have h4 := hkp k (mem_keys e2)
        have h5 := hs k (List.mem_append_right _ (List.mem_append_right _ (hasN_mem h4)))
        rw [h5, h3] at h1
        exact h1
end
end Go.Proofs.Ytahkegkahhbalaa


namespace Go.Proofs.Ytahkegkahhbalaa
open Go.RowKit
set_option linter.unusedVariables false
set_option linter.unusedSimpArgs false

section
variable {P : Program} {w0 : World} {U0 : UX} {nt : Nat} {ops : Array Oper} {o : Oper} {S : Nat → Option AV} {gs : List Nat} {d : Nat} {s : AS} {a : Act} {w : World} {D : Nat → Nat → Prop} {hv : Nat → Value}

/-- The handle of a row gets a name. -/
theorem AWp.handle {c : Code} {Q : Exit → AS → Prop} (d n : Nat) {e z : Nat} {l : List CV} (hd : Nat.blt d nt = true) (h5 : Nat.blt d 100000 = true) (hm : look s n = some (.mrow e z l)) (hn : (Nat.ble 200000 n && Nat.blt n 450000) = true) (h : ∀ ao cap, l.length ≤ cap → (ao = none → l.length = 0 ∧ cap = 0) → AWp P w0 U0 nt c Q ((d, .hdl (.slice ao l.length cap) n) :: s)) : AWp P w0 U0 nt c Q s := by
  intro a w ⟨D, hv, hs⟩
  have hrn : RN n := rnF hn
  obtain ⟨xs, f1, _⟩ := hs.mrow hm hrn
  obtain ⟨ao, cap, e1, e2, _⟩ := own_slice f1
  have hdn : d < a.tmps.size := by rw [hs.size]; exact blt_lt hd
  have e3 : ao = none → l.length = 0 ∧ cap = 0 := fun e => by
    rcases f1.2 with ⟨b1, b2⟩ | ⟨g, cap', cur, b1, _⟩
    · rw [e1] at b1; injection b1 with _ _ i3; exact ⟨b2, i3⟩
    · rw [e1, e] at b1; cases b1
  exact h ao cap e2 e3 a w ⟨D, hv, hs.know (blt_lt h5) (Array.getElem?_eq_getElem hdn) ⟨hrn, e1⟩⟩

/-- A slot is forgotten. -/
theorem SimG.forget (h : SimG w0 U0 nt s a w D hv) {d : Nat} (h5 : d < 100000) (hd : d < nt) : SimG w0 U0 nt ((d, .no) :: s) a w D hv := by
  have hdn : d < a.tmps.size := by rw [h.size]; exact hd
  exact h.know h5 (Array.getElem?_eq_getElem hdn) trivial
def noL (ds : List Nat) : AS := ds.map fun d => (d, AV.no)
theorem SimG.forgets : ∀ {ds : List Nat}, SimG w0 U0 nt s a w D hv → (∀ d ∈ ds, d < 100000 ∧ d < nt) → SimG w0 U0 nt (noL ds ++ s) a w D hv
  | [], h, _ => h
  | d :: ds, h, hd => (SimG.forgets h fun x hx => hd x (List.mem_cons_of_mem _ hx)).forget (hd d (by simp)).1 (hd d (by simp)).2
theorem look_noL : ∀ {ds : List Nat} {k : Nat} {av : AV}, look (noL ds ++ s) k = some av → (k ∈ ds ∧ av = .no) ∨ (hasN ds k = false ∧ look s k = some av)
  | [], k, av, h => .inr ⟨rfl, h⟩
  | d :: ds, k, av, h => by
    have h : look ((d, AV.no) :: (noL ds ++ s)) k = some av := h
    rw [look_cons] at h
    split at h
    · rename_i e; cases h; exact .inl ⟨by rw [e]; simp, rfl⟩
    · rename_i e
      rcases look_noL h with ⟨h1, h2⟩ | ⟨h1, h2⟩
      · exact .inl ⟨List.mem_cons_of_mem _ h1, h2⟩
      · refine .inr ⟨?_, h2⟩
        show (Nat.beq d k || hasN ds k) = false
        rw [h1, Bool.or_false]
        cases e2 : Nat.beq d k with
        | false => rfl
        | true => exact absurd (Nat.eq_of_beq_eq_true e2) e
/-- A call; these slots are told nothing of behind it (they name what the call may move). -/
theorem a_callOD (ds : List Nat) {f : FuncId} {xs : Array Operand} {ts : Array TypeId} {avs : List AV} {r : AV} {pre post : AS} (hg : Gd w0 U0 nt ops o gs S) (hd : o.dst = some d) (hn : Nat.blt d nt = true) (h5 : Nat.blt d 100000 = true)
    (ho : o.op = .call { callee := .value (.func f), args := xs, argTypes := ts }) (hx : evsA S xs.toList = some avs) (hc : AFunO P f pre avs r post) (hp : SubS S pre) (hl : pre.all lendB = true) (hq : post.all (leaveB (keysOf post)) = true) (hks : (keysOf pre).all (hasN (keysOf post)) = true) (hr : refB (keysOf post) r = true) (hnb : ∀ k v, U0.f k = some v → hasN (keysOf post) k = true → hasN (keysOf pre) k = true) (hds : (ds.all fun x => Nat.blt x nt && Nat.blt x 100000) = true) (hpk : (keysOf pre).all (Nat.ble 100000) = true) (hnm : ((newN (keysOf pre) (keysOf post) (keysOf post)).all fun q => !Nat.beq q.1 0 && (!Nat.beq q.1 100000 && !Nat.beq q.1 1100000)) = true) :
    AOp P w0 U0 nt ops o (gs ++ (rdl xs.toList ++ keysOf pre)) ((newN (keysOf pre) (keysOf post) (keysOf post)).map fun q => (q.1, ds ++ q.2)) S ((d, r) :: (post ++ noL ds)) := by
  intro s hs hN a w ⟨D, hv, h⟩ Q K hK
  rw [if_pos (hg s (fun k hk => hs k (List.mem_append_left _ hk)) a w D hv h)]
  have hargs := evsA_rep h (fun k hk => hs k (List.mem_append_right _ (List.mem_append_left _ hk))) hx
  have hsub : Sub s pre := fun k av h1 => (hs k (List.mem_append_right _ (List.mem_append_right _ (mem_keys h1)))).trans (hp.look h1)
  obtain ⟨V, v1, v2, v3, v4, v5, v6⟩ := h.lend hsub hl
  obtain ⟨h1, h2⟩ := hc
  have hcall := h2 V w hv ⟨#[], []⟩ _ v1 v2 (hargs.imp fun c _ v hcv => hcv.move v6 (fun _ h3 => h3.imp id fun ⟨e, he⟩ => ⟨e, hsub _ _ he.1, he.2⟩) fun _ => rfl)
  have he : (execOp a.eval o).run P w = .ok (.enter f (xs.toList.map a.eval).toArray) w := by
    have hf : a.eval (.func f) = .func (.func f) #[] #[] := rfl
    have hen := h1 (xs.map a.eval) w
    have harr : (xs.toList.map a.eval).toArray = xs.map a.eval := by apply Array.ext'; simp
    rw [harr]
    generalize a.eval = ρ at hf hen ⊢
    simp [execOp, ho, resolve, invoke, Deferred.ofValue, hf, hen]
  rw [List.all_eq_true] at hds hpk hnm
  have hdl : ∀ x ∈ ds, x < 100000 ∧ x < nt := fun x hx => by
    have := hds x hx
    rw [Bool.and_eq_true] at this
    exact ⟨blt_lt this.2, blt_lt this.1⟩
  have h' := h.forgets hdl
  have hsub' : Sub (noL ds ++ s) pre := fun k av h3 => by
    have hk := Nat.le_of_ble_eq_true (hpk k (mem_keys h3))
    have h4 := hsub k av h3
    rw [look_append]
    cases e : look (noL ds) k with
    | none => exact h4
    | some y =>
      have h9 : look (noL ds ++ []) k = some y := by rw [List.append_nil]; exact e
      rcases look_noL h9 with ⟨h6, _⟩ | ⟨_, h6⟩
      · have := (hdl k h6).1; omega
      · cases h6
  have hN' : ∀ q ∈ newN (keysOf pre) (keysOf post) (keysOf post), NoRefE (noL ds ++ s) q := fun q hq k av h3 h4 => by
    have h6 := hnm q hq
    simp only [Bool.and_eq_true, Bool.not_eq_true'] at h6
    have hne : ∀ {x : Nat}, Nat.beq q.1 x = false → x ≠ q.1 := fun {x} hx e => by rw [← e, Nat.beq_refl] at hx; cases hx
    rcases look_noL h3 with ⟨h7, rfl⟩ | ⟨h7, h8⟩
    · have hk := (hdl k h7).1
      have hfn : fnm k = 100000 := by unfold fnm; rw [ble_no (by omega : k < 500000)]
      rw [hfn]
      exact ⟨hne h6.1, hne h6.2.1, hne h6.2.2⟩
    · refine hN (q.1, ds ++ q.2) (List.mem_map.2 ⟨q, hq, rfl⟩) k av h8 ?_
      show hasN (ds ++ q.2) k = false
      unfold hasN at h7 h4 ⊢
      rw [List.any_append, h7, h4]
      rfl
  unfold Oper.wp
  rw [he, Oper.upon_enter]
  refine hcall.mono ?_
  rintro e w' ⟨v, D', hv', a', rfl, h6, h7⟩
  rw [hd]
  obtain ⟨D2, hv2, h8, h9⟩ := h'.back hsub' hl hq hks hN' hnb v3 v4 v5 v2 h6
  have hfin := h8.put (d := d) (blt_lt hn) (blt_lt h5) (h9 r v hr h7)
  refine hK _ _ ⟨D2, hv2, ?_⟩
  show SimG w0 U0 nt ((d, r) :: ((post ++ noL ds) ++ s)) _ _ _ _
  rw [List.append_assoc]
  exact hfin
/-- Append where there is room: the row's block is another row's now. -/
theorem a_appR (yy dh dh2 : Nat) (hg : Gd w0 U0 nt ops o gs S) (hd : o.dst = some d) (hn : Nat.blt d nt = true) (h5 : Nat.blt d 100000 = true) {x y : Operand} {t e size bytes : Nat} {z : Value} {l l2 : List CV} {n len cap n2 q2 p2} {ao : Option Addr} (ho : o.op = .call { callee := .builtin .append, args := #[x, y], argTypes := #[t, t] }) (ht : P.underlying t = some (.slice e)) (hi : (P.info? e).map (fun i => (i.zero, i.size, i.bytes)) = some (some z, size, bytes))
    (hx : ev S x = some (.sl n 0 len size)) (hy : ev S y = some ⟨0, .lst l2, n2, q2, p2⟩) (hlv : S n = some (.mrow e size l)) (hdh : S dh = some (.hdl (.slice ao l.length cap) n)) (hyb : (Nat.ble 300000 yy && Nat.blt yy 450000) = true) (hdb : (Nat.blt dh 100000 && (Nat.blt dh2 100000 && (Nat.blt dh2 nt && !Nat.beq n yy))) = true) (hn3 : (Nat.ble 300000 n && Nat.blt n 450000) = true) (hf : U0.f yy = none) (hlen : len = l.length) (hl2 : ∀ c ∈ l2, c.size = size) (hpos : 0 < l2.length) (hroom : l.length + l2.length ≤ cap) :
    AOp P w0 U0 nt ops o (gs ++ (rd x ++ (rd y ++ [n, dh]))) [(yy, [])] S [(d, .sl yy 0 (l.length + l2.length) size), (dh2, .hdl (.slice ao (l.length + l2.length) cap) yy), (yy, .mrow e size (l ++ l2)), (n, .no)] := by
  intro s hs hN a w ⟨D, hv, h⟩ Q K hK
  rw [if_pos (hg s (fun k hk => hs k (List.mem_append_left _ hk)) a w D hv h)]
  simp only [Bool.and_eq_true] at hdb hyb hn3
  obtain ⟨hdh1, hdh2, hdh3, hny⟩ := hdb
  have hny : n ≠ yy := fun e => by rw [e, Nat.beq_refl] at hny; cases hny
  have hy1 := Nat.le_of_ble_eq_true hyb.1
  have hy2 := blt_lt hyb.2
  have hn1 := Nat.le_of_ble_eq_true hn3.1
  have hn2' := blt_lt hn3.2
  have hryy : RN yy := ⟨by omega, hy2⟩
  obtain ⟨hrn, hsl⟩ : RN n ∧ SlV (hv n) 0 len size (a.eval x) := ev_rep h (fun k hk => hs k (List.mem_append_right _ (List.mem_append_left _ hk))) hx
  have h3 := ev_val h (fun k hk => hs k (List.mem_append_right _ (List.mem_append_right _ (List.mem_append_left _ hk)))) hy
  have hok : oKey n := ⟨by omega, by omega⟩
  have hlk := (hs n (by simp)).trans hlv
  obtain ⟨xs, g1, g2, g3, g4⟩ := h.mrow hlk hrn
  obtain ⟨_, _, hhv⟩ : ∃ v, a.tmps[dh]? = some v ∧ RN n ∧ hv n = .slice ao l.length cap := h.slot dh _ ((hs dh (by simp)).trans hdh) (blt_lt hdh1)
  have hhv := hhv.2
  have hval : a.eval x = .slice ao l.length cap := by
    obtain ⟨ao1, m1, cap1, ao', e1, e2, e3, e4, _⟩ := hsl
    rw [hhv] at e1
    injection e1 with i1 i2 i3
    subst i1; subst i2; subst i3
    rw [e2, e4 rfl, hlen]; rfl
  obtain ⟨ao2, m, c2, k1, k2, k3, k4, k6, ys2, k7, k8⟩ := vrep_lst.1 h3
  have hyl2 : ys2.length = m * size := by rw [sq_len (n := CV.size) (fun c _ xs h => h.len) k8, sum_const hl2, k2]
  obtain ⟨i, hi1, hi2, hi3, hi4⟩ := info_parts hi
  rcases g1.2 with ⟨b1, b2⟩ | ⟨g, cap', cur, b1, b2, b3, b4, b5, b6, b7⟩
  · exfalso
    rw [hhv] at b1
    injection b1 with _ _ i3
    omega
  rw [hhv] at b1
  injection b1 with i1 i2 i3
  subst i1; subst i3
  cases ao2 with
  | none => exfalso; have := (k6 rfl).1; omega
  | some ad =>
  have hnews : ∀ j u, ys2[j]? = some u → w.cell? (ad.add j) = some u := fun j u hj => by
    have hjl : j < ys2.length := by
      rcases Nat.lt_or_ge j ys2.length with h | h
      · exact h
      · rw [List.getElem?_eq_none h] at hj; cases hj
    rcases k7 with rfl | ⟨b, off, ha, hc⟩
    · simp at hjl
    · cases ha
      rw [add_at, (hc j hjl).2, hj]
  have hown : w.ownsRow 0 e size (.slice (some ⟨g, 0, none⟩) l.length cap) l.length xs := by rw [← hhv]; exact g1
  obtain ⟨w', r1, r2, r3⟩ := run_append_fits (P := P) w 0 t o.type e i size ht hi1 hi3 g l.length cap xs hown ad m c2 ys2 hyl2 hnews (rep_one_of k8) (by omega)
  have hvb : hb (hv n) = some g := by rw [hhv]; rfl
  obtain ⟨f1, f2, f3⟩ := h.blk n _ g hlk hok (by simp) hvb
  have hD' : ∀ o, ¬ D g o := fun o => f3 o fun e => by cases e
  have hkp : ∀ b o u, Us w0 U0 D b o → w.cell? ⟨b, o, none⟩ = some u → Us w0 U0 D b o ∧ w'.cell? ⟨b, o, none⟩ = some u := fun b o u hu hc => by
    refine ⟨hu, ?_⟩
    have hlt : b < w.heap.size := World.block_lt_of_cell? w _ hc
    have hnb : some b ≠ some g := fun e => us_ne hu f1 (hD' o) (by injection e)
    rw [World.cell?_of_block (w := w) (r3.block b hlt hnb)]
    exact hc
  have hmn : Mn w0 U0 (lcl yy (.mrow e size (l ++ l2))) g := by
    rw [lcl_row hn1] at f1
    rw [lcl_row hy1]
    exact f1
  have hG := (h.kill hok).newrowF (n := yy) (avn := .mrow e size (l ++ l2)) (v' := .slice (some ⟨g, 0, none⟩) (l.length + m) cap) (D' := D) (X := fun b => b = g) hryy hf (fun k av hk => by
      by_cases e : n = k
      · subst e
        rw [look_same] at hk
        cases hk
        have hfn : fnm n = 100000 := by unfold fnm; rw [ble_no (by omega : n < 500000)]
        rw [hfn]
        exact ⟨by show 0 ≠ _; omega, by omega, by omega⟩
      · rw [look_ne e] at hk; exact (hN (yy, []) (by simp)).nr k av hk) (by simp) ⟨r3.os, r3.tape, r3.output, r3.size, fun b hb hx => r3.block b hb fun e => hx (by injection e)⟩ (fun b hb => by
      subst hb
      refine ⟨hmn, fun q av h6 h7 h8 h9 => ?_⟩
      have hq : n ≠ q := fun e => by subst e; rw [look_same] at h6; cases h6; exact h8 rfl
      rw [look_ne hq] at h6
      exact h.disj n q _ av b hlk h6 hok h7 (by simp) h8 hq hvb) (fun g' hg' => by
      have hg' : some g = some g' := hg'
      cases hg'
      exact ⟨.inl rfl, Nat.lt_of_lt_of_le f2 r3.size, fun o _ => hD' o⟩) (fun b o hd => .inl hd) (fun b o hd => Nat.lt_of_lt_of_le (h.dlt _ _ hd) r3.size) hkp (fun hv lv => by
      refine ⟨xs ++ ys2, ?_, g2, fun c hc => ?_, ?_⟩
      · show w'.ownsRow 0 e size _ (l ++ l2).length (xs ++ ys2)
        rw [List.length_append, ← k2]
        exact r2
      · rcases List.mem_append.1 hc with hc | hc
        · exact g3 c hc
        · exact hl2 c hc
      · show Sq ((l ++ l2).map _) _
        rw [List.map_append]
        exact sq_append (Sq.keep hkp g4) (Sq.keep hkp k8))
  have he : (execOp a.eval o).run P w = .ok (.value (.slice (some ⟨g, 0, none⟩) (l.length + m) cap)) w' := by
    generalize a.eval = ρ at hval k1 ⊢
    simp [execOp, ho, resolve, invoke, builtin, hval, k1, r1, Result.andThen]
  unfold Oper.wp
  rw [he, Oper.upon_value, hd]
  have hnew : (fun x => if x = yy then Value.slice (some ⟨g, 0, none⟩) (l.length + m) cap else hv x) yy = .slice (some ⟨g, 0, none⟩) (l.length + m) cap := by simp
  have hdn : dh2 < a.tmps.size := by rw [h.size]; exact blt_lt hdh3
  have hG2 := hG.know (d := dh2) (av := .hdl (.slice (some ⟨g, 0, none⟩) (l.length + l2.length) cap) yy) (blt_lt hdh2) (Array.getElem?_eq_getElem hdn) ⟨hryy, by rw [← k2]; exact hnew⟩
  refine hK _ _ ⟨_, _, hG2.put (blt_lt hn) (blt_lt h5) ⟨hryy, ?_⟩⟩
  show SlV ((fun x => if x = yy then Value.slice (some ⟨g, 0, none⟩) (l.length + m) cap else hv x) yy) 0 (l.length + l2.length) size _
  rw [hnew, ← k2]
  exact slV_all rfl (by omega) (.inr ⟨_, rfl⟩)
/-- Append where there is no room: a new row, the old one stays. -/
theorem a_appX (yy dh : Nat) (hg : Gd w0 U0 nt ops o gs S) (hd : o.dst = some d) (hn : Nat.blt d nt = true) (h5 : Nat.blt d 100000 = true) {x y : Operand} {t e size bytes : Nat} {z : Value} {l l2 : List CV} {n len n2 q2 p2} {ao : Option Addr} (ho : o.op = .call { callee := .builtin .append, args := #[x, y], argTypes := #[t, t] }) (ht : P.underlying t = some (.slice e)) (hi : (P.info? e).map (fun i => (i.zero, i.size, i.bytes)) = some (some z, size, bytes)) (hzs : Nat.beq z.cells.size size = true) (hbt : Nat.ble bytes 1000 = true)
    (hx : ev S x = some (.sl n 0 len size)) (hy : ev S y = some ⟨0, .lst l2, n2, q2, p2⟩) (hlv : S n = some (.mrow e size l)) (hdh : S dh = some (.hdl (.slice ao l.length l.length) n)) (hyb : (Nat.ble 200000 yy && Nat.blt yy 450000) = true) (hdb : Nat.blt dh 100000 = true) (hf : U0.f yy = none) (hlen : len = l.length) (hl2 : ∀ c ∈ l2, c.size = size) (hpos : 0 < l2.length) (hbd : l.length + l2.length ≤ 100000000000) :
    AOp P w0 U0 nt ops o (gs ++ (rd x ++ (rd y ++ [n, dh]))) [(yy, [])] S [(d, .sl yy 0 (l.length + l2.length) size), (yy, .mrow e size (l ++ l2))] := by
  intro s hs hN a w ⟨D, hv, h⟩ Q K hK
  rw [if_pos (hg s (fun k hk => hs k (List.mem_append_left _ hk)) a w D hv h)]
  have hryy : RN yy := rnF hyb
  obtain ⟨hrn, hsl⟩ : RN n ∧ SlV (hv n) 0 len size (a.eval x) := ev_rep h (fun k hk => hs k (List.mem_append_right _ (List.mem_append_left _ hk))) hx
  have h3 := ev_val h (fun k hk => hs k (List.mem_append_right _ (List.mem_append_right _ (List.mem_append_left _ hk)))) hy
  have hlk := (hs n (by simp)).trans hlv
  obtain ⟨xs, g1, g2, g3, g4⟩ := h.mrow hlk hrn
  obtain ⟨_, _, hhv⟩ : ∃ v, a.tmps[dh]? = some v ∧ RN n ∧ hv n = .slice ao l.length l.length := h.slot dh _ ((hs dh (by simp)).trans hdh) (blt_lt hdb)
  have hhv := hhv.2
  have hval : a.eval x = .slice ao l.length l.length := by
    obtain ⟨ao1, m1, cap1, ao', e1, e2, e3, e4, _⟩ := hsl
    rw [hhv] at e1
    injection e1 with i1 i2 i3
    subst i1; subst i2; subst i3
    rw [e2, e4 rfl, hlen]; rfl
  obtain ⟨ao2, m, c2, k1, k2, k3, k4, k6, ys2, k7, k8⟩ := vrep_lst.1 h3
  have hyl2 : ys2.length = m * size := by rw [sq_len (n := CV.size) (fun c _ xs h => h.len) k8, sum_const hl2, k2]
  have hAt : At (fun _ _ => True) w ao xs ∧ (ao = none → l.length = 0) := by
    rw [hhv] at g1
    rcases g1.2 with ⟨b1, b2⟩ | ⟨g, cap', cur, b1, b2, b3, b4, b5, b6, b7⟩
    · injection b1 with i1 i2 i3
      exact ⟨.inl (List.eq_nil_of_length_eq_zero (by rw [g1.1, i2]; simp)), fun _ => i2⟩
    · injection b1 with i1 i2 i3
      subst i1
      refine ⟨.inr ⟨g, 0, rfl, fun j hj => ⟨trivial, ?_⟩⟩, fun e => by cases e⟩
      rw [Nat.zero_add]
      exact own_cell g1 (g := g) rfl (by rw [← g1.1]; exact hj)
  have hAt2 : At (fun _ _ => True) w ao2 ys2 := by
    rcases k7 with k7 | ⟨b, off, ha, hc⟩
    · exact .inl k7
    · exact .inr ⟨b, off, ha, fun j hj => ⟨trivial, (hc j hj).2⟩⟩
  have hmul : (l.length + m) * bytes ≤ 100000000000 * 1000 := Nat.mul_le_mul (by omega) (Nat.le_of_ble_eq_true hbt)
  obtain ⟨v', w', r1, r2, r3⟩ := run_appF (P := P) (ty := o.type) ht hi (Nat.eq_of_beq_eq_true hzs) g2 hAt.2 hAt.1 g1.1 (fun h => (k6 h).1) hAt2 hyl2 (c := c2) (rep_one_of k8) (by omega) (by unfold maxLen; omega) (by omega)
  have hb2 : hb v' = v'.ownBlock := by
    rcases r2.2 with ⟨rfl, _⟩ | ⟨g, cap, cur, rfl, _⟩ <;> rfl
  have hkp : ∀ b o u, Us w0 U0 D b o → w.cell? ⟨b, o, none⟩ = some u → Us w0 U0 D b o ∧ w'.cell? ⟨b, o, none⟩ = some u := fun b o u hu hc => by
    refine ⟨hu, ?_⟩
    have hlt : b < w.heap.size := World.block_lt_of_cell? w _ hc
    rw [World.cell?_of_block (w := w) (r3.block b hlt (by simp))]
    exact hc
  have hG := h.newrowF (n := yy) (avn := .mrow e size (l ++ l2)) (v' := v') (D' := D) (X := fun _ => False) hryy hf (hN (yy, []) (by simp)).nr (by simp) ⟨r3.os, r3.tape, r3.output, r3.size, fun b hb hx => r3.block b hb (by simp)⟩ (fun b hb => hb.elim) (fun g hg => by
      rw [hb2] at hg
      refine ⟨.inr (r2.lt g hg).1, (r2.lt g hg).2, fun o _ hd => ?_⟩
      have := (r2.lt g hg).1
      have := h.dlt _ _ hd
      omega) (fun b o hd => .inl hd) (fun b o hd => Nat.lt_of_lt_of_le (h.dlt _ _ hd) r3.size) hkp (fun hv lv => by
      refine ⟨xs ++ ys2, ?_, g2, fun c hc => ?_, ?_⟩
      · show w'.ownsRow 0 e size v' (l ++ l2).length (xs ++ ys2)
        rw [List.length_append, ← k2]
        exact ownsRow_mono r2 (Nat.zero_le _)
      · rcases List.mem_append.1 hc with hc | hc
        · exact g3 c hc
        · exact hl2 c hc
      · show Sq ((l ++ l2).map _) _
        rw [List.map_append]
        exact sq_append (Sq.keep hkp g4) (Sq.keep hkp k8))
  have he : (execOp a.eval o).run P w = .ok (.value v') w' := by
    generalize a.eval = ρ at hval k1 ⊢
    simp [execOp, ho, resolve, invoke, builtin, hval, k1, r1, Result.andThen]
  unfold Oper.wp
  rw [he, Oper.upon_value, hd]
  refine hK _ _ ⟨_, _, hG.put (blt_lt hn) (blt_lt h5) ⟨hryy, ?_⟩⟩
  obtain ⟨a1, c1, q1, q2, q3⟩ := own_addr (ownsRow_mono r2 (Nat.zero_le _))
  have := slV_all (z := size) q1 q2 q3
  show SlV ((fun x => if x = yy then v' else hv x) yy) 0 (l.length + l2.length) size v'
  simp only [if_true]
  rw [← k2]
  exact this

/-- Is a row whose handle is known nil? -/
theorem a_nilS (dh : Nat) (hg : Gd w0 U0 nt ops o gs S) (hd : o.dst = some d) (hn : Nat.blt d nt = true) (h5 : Nat.blt d 100000 = true) {x : Operand} {t1 t2 e : TypeId} {n len z m cap : Nat} {ao : Option Addr} (ho : o.op = .binOp .eql t1 x (.const (.slice none 0 0)) t2) (hu : P.underlying t1 = some (.slice e)) (hx : ev S x = some (.sl n 0 len z)) (hdh : S dh = some (.hdl (.slice ao m cap) n)) (hdb : Nat.blt dh 100000 = true) (hao : ao = none → len = 0 ∧ cap = 0) : AOp P w0 U0 nt ops o (gs ++ (rd x ++ [dh])) [] S [(d, .val (.b ao.isNone))] :=
  aop_val hg hd hn h5 (fun k hk => List.mem_append_left _ hk) fun s hs a w D hv hm => by
    obtain ⟨_, ao1, m1, cap1, ao', e1, e2, e3, e4, _⟩ : RN n ∧ SlV (hv n) 0 len z (a.eval x) := ev_rep hm (fun k hk => hs k (List.mem_append_right _ (List.mem_append_left _ hk))) hx
    obtain ⟨_, _, _, hhv⟩ : ∃ v, a.tmps[dh]? = some v ∧ RN n ∧ hv n = .slice ao m cap := hm.slot dh _ ((hs dh (by simp)).trans hdh) (blt_lt hdb)
    rw [hhv] at e1
    injection e1 with i1 i2 i3
    subst i1; subst i2; subst i3
    have hval : a.eval x = .slice ao len cap := by rw [e2, e4 rfl]; rfl
    have hb := run_eqnil (P := P) hu (.slice ao len cap) w ⟨ao, len, cap, rfl, hao⟩
    have hnil : isNil (.slice ao len cap) = ao.isNone := by
      cases ao with
      | none => obtain ⟨rfl, rfl⟩ := hao rfl; rfl
      | some x => rfl
    rw [hnil] at hb
    refine ⟨.bool ao.isNone, ?_, avrep_sc rfl⟩
    have hc : a.eval (.const (.slice none 0 0)) = .slice none 0 0 := rfl
    generalize a.eval = ρ at hval hc ⊢
    simp [execOp, ho, hval, hc, eqGuard, binOp, hb]

theorem appLawS {Q : Exit → Act → World → Prop} {K : Act → World → Prop} (h : SimG w0 U0 nt s a w D hv) {n e size bytes : Nat} {z : Value} {t : TypeId} (hd : o.dst = some d) (hdn : d < nt) (h5 : d < 100000) (hn : RW n) (hr : NoRef s n) {x y : Operand} (ho : o.op = .call { callee := .builtin .append, args := #[x, y], argTypes := #[t, t] })
    (ht : P.underlying t = some (.slice e)) (hi : (P.info? e).map (fun i => (i.zero, i.size, i.bytes)) = some (some z, size, bytes)) (hzs : z.cells.size = size) (hsz : 0 < size) (hbt : bytes ≤ 1000)
    {l l2 : List CV} (hl : ∀ c ∈ l, c.size = size) (hl2 : ∀ c ∈ l2, c.size = size) (hbd : l.length + l2.length ≤ 100000000000)
    {v : Value} (hx : a.eval x = v) (hvr : VRep (Us w0 U0 D) w (.lst l) v) {ao2 : Option Addr} {m c2 : Nat} {ys2 : List Value} {V2 : Nat → Nat → Prop} (g1 : a.eval y = .slice ao2 m c2) (g2 : m = l2.length) (g6 : ao2 = none → m = 0 ∧ c2 = 0) (g7 : At V2 w ao2 ys2) (g8 : Sq (l2.map fun c => Rep (Us w0 U0 D) w c) ys2) {k : Nat} {xs : List Value} (hown : w.ownsRow 0 e size v k xs)
    (hroom : ∀ g, v.ownBlock = some g → Mn w0 U0 6 g ∧ (∀ o, k * size ≤ o → ¬ D g o) ∧ ∀ q av, look s q = some av → oKey q → av.t ≠ 7 → q ≠ n → hb (hv q) ≠ some g)
    (hK : ∀ a' w', Sim w0 U0 nt ((d, .own (.lst (l ++ l2)) n) :: (n, .tok e size) :: s) a' w' → K a' w') : o.wp P a w K Q := by
  obtain ⟨ao, k2, c, h1, h2, h3, h4, h6, ys, h7, h8⟩ := vrep_lst.1 hvr
  have hyl : ys.length = k2 * size := by rw [sq_len (n := CV.size) (fun c _ xs h => h.len) h8, sum_const hl, h2]
  have hyl2 : ys2.length = m * size := by rw [sq_len (n := CV.size) (fun c _ xs h => h.len) g8, sum_const hl2, g2]
  have hk : k = k2 := by
    rcases hown.2 with ⟨e1, e2⟩ | ⟨g, cap, cur, e1, _⟩
    · rw [h1] at e1; cases e1; exact e2
    · rw [h1] at e1; cases e1; rfl
  subst hk
  obtain ⟨exy, _⟩ := own_same hown h1 h7 hyl
  subst exy
  have hmul : (k + m) * bytes ≤ 100000000000 * 1000 := Nat.mul_le_mul (by omega) hbt
  obtain ⟨v', w', r1, r2, r3, r4⟩ := run_app (P := P) (ty := o.type) ht hi hzs hsz (Nat.zero_le _) hown g6 g7 hyl2 (rep_one_of g8) (by unfold maxLen; omega) (by omega)
  obtain ⟨s1, s2⟩ := h.app hn hr hown hsz hroom r2 r3 r4
  have he : (execOp a.eval o).run P w = .ok (.value v') w' := by
    generalize a.eval = ρ at hx g1 ⊢
    simp [execOp, ho, resolve, invoke, builtin, hx, g1, r1, Result.andThen]
  unfold Oper.wp
  rw [he, Oper.upon_value, hd]
  refine hK _ _ ⟨_, _, s1.put hdn h5 ⟨?_, fun _ => ?_⟩⟩
  · obtain ⟨a1, c1, e1, e2, e3, e4, e5⟩ := ownsRow_cs r2
    refine vrep_lst.2 ⟨a1, k + m, c1, e1, by rw [List.length_append, ← h2, ← g2], e2, e3, e4, xs ++ ys2, ?_, ?_⟩
    · rcases e5 with e5 | ⟨b, off, ha, hlt, hc⟩
      · exact .inl e5
      · refine .inr ⟨b, off, ha, fun i hi => ⟨.inr ⟨?_, .inr ⟨?_, ?_⟩⟩, hc i hi⟩⟩
        · have hbo : v'.ownBlock = some b := by rw [e1, ha]; rfl
          rcases r4 with r4 | ⟨_, r4⟩
          · rcases (hroom b (r4 ▸ hbo)).1 with h1 | h1
            · exact h1
            · exact absurd rfl h1.1
          · exact Nat.le_trans h.below.size (r4 b hbo)
        · rw [e1, ha]; rfl
        · rcases r2.2 with ⟨e6, _⟩ | ⟨g, cap, cur, e6, _⟩
          · rw [e1, ha] at e6; cases e6
          · rw [e1, ha] at e6; cases e6
            have := r2.1
            omega
    · rw [List.map_append]
      exact sq_append (h8.keep s2) (g8.keep s2)
  · refine ⟨0, .lst (l ++ l2), rfl, ?_⟩
    have : v'.cells.toList = [v'] := by
      obtain ⟨a1, c1, e1, _⟩ := ownsRow_cs r2
      rw [e1]; rfl
    rw [this]
    unfold tokv
    rw [if_neg (by show n ≠ 1; unfold RW at hn; omega)]
    simp

/-- append(S{}, row...): a list of the call's own. -/
theorem a_app0S (hg : Gd w0 U0 nt ops o gs S) (hd : o.dst = some d) (hn : Nat.blt d nt = true) (h5 : Nat.blt d 100000 = true) {x y : Operand} {t e size bytes : Nat} {z : Value} {l : List CV} {n q n2 len e2} (ho : o.op = .call { callee := .builtin .append, args := #[x, y], argTypes := #[t, t] }) (ht : P.underlying t = some (.slice e)) (hi : (P.info? e).map (fun i => (i.zero, i.size, i.bytes)) = some (some z, size, bytes)) (hzs : Nat.beq z.cells.size size = true) (hsz : Nat.blt 0 size = true) (hbt : Nat.ble bytes 1000 = true)
    (hx : ev S x = some ⟨0, .lst [], n, q, []⟩) (hy : ev S y = some (.sl n2 0 len size)) (hnn : (Nat.ble 200000 n && Nat.blt n 400000) = true) (hne : Nat.beq n (300000 + d) = false) (hlv : S n = some (.tok e size)) (hlm : S n2 = some (.mrow e2 size l)) (hlen : len = l.length) (hbd : l.length ≤ 100000000000) :
    AOp P w0 U0 nt ops o (gs ++ (rd x ++ (rd y ++ [n, n2]))) [(300000 + d, [])] S [(d, .own (.lst l) (300000 + d)), (300000 + d, .tok e size), (n, .no)] := by
  intro s hs hN a w ⟨D, hv, h⟩ Q K hK
  rw [if_pos (hg s (fun k hk => hs k (List.mem_append_left _ hk)) a w D hv h)]
  obtain ⟨h1, h2⟩ : VRep (Us w0 U0 D) w (.lst []) (a.eval x) ∧ Tk hv (LiveN s) ⟨0, .lst [], n, q, []⟩ (a.eval x).cells.toList := ev_rep h (fun k hk => hs k (List.mem_append_right _ (List.mem_append_left _ hk))) hx
  obtain ⟨hr2, hsl⟩ : RN n2 ∧ SlV (hv n2) 0 len size (a.eval y) := ev_rep h (fun k hk => hs k (List.mem_append_right _ (List.mem_append_right _ (List.mem_append_left _ hk)))) hy
  have hrn := rnB hnn
  have hn2 : 200000 ≤ n := hrn.1
  have hnx := hrn.2
  obtain ⟨ys, y1, y2, y3, y4⟩ := h.mrow ((hs n2 (by simp)).trans hlm) hr2
  obtain ⟨ao2, c2, y5, y6, y7⟩ := own_slice y1
  have hval2 : a.eval y = .slice ao2 l.length c2 := by
    obtain ⟨ao1, m1, cap1, ao', e1, e2, e3, e4, _⟩ := hsl
    rw [y5] at e1
    injection e1 with i1 i2 i3
    subst i1; subst i2; subst i3
    rw [e2, e4 rfl, hlen]; rfl
  have hAt : At (fun _ _ => True) w ao2 ys ∧ (ao2 = none → l.length = 0 ∧ c2 = 0) := by
    have y1' := y1
    rw [y5] at y1'
    rcases y1'.2 with ⟨b1, b2⟩ | ⟨g, cap', cur, b1, b2, b3, b4, b5, b6, b7⟩
    · injection b1 with i1 i2 i3
      exact ⟨.inl (List.eq_nil_of_length_eq_zero (by rw [y1'.1, i2]; simp)), fun _ => ⟨i2, i3⟩⟩
    · injection b1 with i1 i2 i3
      subst i1
      refine ⟨.inr ⟨g, 0, rfl, fun j hj => ⟨trivial, ?_⟩⟩, fun e => by cases e⟩
      rw [Nat.zero_add]
      exact own_cell y1' (g := g) rfl (by rw [← y1'.1]; exact hj)
  have hok : oKey n := ⟨by omega, by omega⟩
  have hlk := (hs n (by simp)).trans hlv
  have hlive : Live s n (e, size) := ⟨hlk, hn2, hnx⟩
  have hval : a.eval x = hv n := by
    obtain ⟨m, c, g1, g2⟩ := h2 (.inr ⟨_, hlive⟩)
    simp only at g1
    rw [at_nil] at g1
    cases g1
    obtain ⟨ao, k, c, e1, _⟩ := vrep_lst.1 h1
    unfold tokv at g2
    rw [if_neg (by show n ≠ 1; omega)] at g2
    rw [e1] at g2 ⊢
    simpa [Value.cells] using g2
  obtain ⟨k, xs, g1, g2⟩ : ∃ k xs, w.ownsRow 0 e size (hv n) k xs ∧ 0 < size := h.obj n _ hlk hok
  have hvs : hb (hv n) = (hv n).ownBlock ∧ lenOf (hv n) = k := by
    rcases g1.2 with ⟨e1, e2⟩ | ⟨g, cap, cur, e1, _⟩
    · rw [e1, e2]; exact ⟨rfl, rfl⟩
    · rw [e1]; exact ⟨rfl, rfl⟩
  have hne' : n ≠ 300000 + d := fun e => by rw [e, Nat.beq_refl] at hne; cases hne
  have hkill := h.kill hok
  have h5' := blt_lt h5
  refine appLawS (l := []) (l2 := l) (n := 300000 + d) hkill hd (blt_lt hn) (blt_lt h5) ⟨by omega, by omega⟩ (fun k av hk => ?_) ho ht hi (Nat.eq_of_beq_eq_true hzs) (blt_lt hsz) (Nat.le_of_ble_eq_true hbt) (fun c hc => by cases hc) y3 (by simpa using hbd) hval (hval ▸ h1) hval2 rfl hAt.2 hAt.1 y4 g1 (fun g hg => ?_) (fun a' w' hs' => hK a' w' ?_)
  · by_cases e : n = k
    · subst e
      rw [look_same] at hk
      cases hk
      refine ⟨by show 0 ≠ _; omega, ?_⟩
      have : Nat.ble 500000 n = false := by
        cases hb : Nat.ble 500000 n with
        | false => rfl
        | true => have := Nat.le_of_ble_eq_true hb; omega
      have hfn : fnm n = 100000 := by unfold fnm; rw [this]
      rw [hfn]
      omega
    · rw [look_ne e] at hk; exact (hN (300000 + d, []) (by simp)).nr k av hk
  · rw [← hvs.1] at hg
    obtain ⟨f1, f2, f3⟩ := h.blk n _ g hlk hok (by simp) hg
    refine ⟨by rw [lcl_tok rfl] at f1; exact f1, fun o ho => f3 o fun _ => ?_, fun q av h6 h7 h8 h9 => ?_⟩
    · rw [hvs.2]; exact ho
    · have hq : n ≠ q := fun e => by subst e; rw [look_same] at h6; cases h6; exact h8 rfl
      rw [look_ne hq] at h6
      exact h.disj n q _ av g hlk h6 hok h7 (by simp) h8 hq hg
  · simpa using hs'
end
end Go.Proofs.Ytahkegkahhbalaa


namespace Go.Proofs.Ytahkegkahhbalaa
open Go.RowKit Go.MapKept
set_option linter.unusedVariables false
set_option linter.unusedSimpArgs false
section
variable {P : Program} {w0 : World} {U0 : UX} {nt : Nat} {ops : Array Oper} {o : Oper} {S : Nat → Option AV} {gs : List Nat} {d : Nat} {s : AS} {a : Act} {w : World} {D : Nat → Nat → Prop} {hv : Nat → Value}

theorem live_two2 {x y : AV} {k m n : Nat} {e : Nat × Nat} (hk : k < 200000) (hm : m < 200000 ∨ 400000 ≤ m) : Live ((k, x) :: (m, y) :: s) n e ↔ Live s n e := by
  unfold Live
  constructor
  · rintro ⟨h1, h2⟩
    rw [look_ne (by omega), look_ne (by omega)] at h1
    exact ⟨h1, h2⟩
  · rintro ⟨h1, h2⟩
    exact ⟨by rw [look_ne (by omega), look_ne (by omega)]; exact h1, h2⟩
theorem hk_ne_boxN {lv : Nat → Prop} {a : AV} {d : Nat} (hd : BN d) (hlv : ∀ n, lv n → n = 1 ∨ RN n) (hr : a.n ≠ d) (h : Rn lv a) : hk a ≠ 100000 + d := by
  unfold BN at hd
  rcases h with ⟨h1, h2, h3⟩ | ⟨h1, h2⟩ | ⟨h1, h2⟩
  · rw [hk_eq.2 (by omega)]
    rcases hlv _ h2 with h4 | h4
    · exact absurd h4 h3
    · unfold RN at h4; omega
  · rw [hk_eq.1 h1]; omega
  · rw [hk_eq.2 (by omega)]; unfold RN at h2; omega
theorem SimG.newboxN (h : SimG w0 U0 nt s a w D hv) {nn : Nat} (hbn : BN nn) (hnf : ∀ v, U0.f (100000 + nn) = some v → False) (hr : NoRef s nn) (hd : d < nt) (h5 : d < 100000) {av : AV} (hav : av.t = 5 ∨ av = .obj) {xs : List Value} (ty : TypeId) (hrep : av.t = 5 → Rep (Us w0 U0 D) w av.c xs) (htk : av.t = 5 → Tk hv (LiveN s) av xs) :
    SimG w0 U0 nt ((d, .bp nn 0 []) :: (100000 + nn, av) :: s) (a.put (some d) (.pointer (some ⟨w.heap.size, 0, none⟩))) (w.alloc (.cells xs.toArray ty)) D (fun k => if k = 100000 + nn then .pointer (some ⟨w.heap.size, 0, none⟩) else hv k) := by
  have hbn1 := hbn
  unfold BN at hbn1
  have hb' : Below w.heap.size w (w.alloc (.cells xs.toArray ty)) := (Below.refl _ _).alloc (Nat.le_refl _) _
  have hG := h.grow' hb'
  obtain ⟨s', hs'⟩ : ∃ s', s' = (d, AV.bp nn 0 []) :: (100000 + nn, av) :: s := ⟨_, rfl⟩
  obtain ⟨hv', hhv⟩ : ∃ hv' : Nat → Value, hv' = fun k => if k = 100000 + nn then .pointer (some ⟨w.heap.size, 0, none⟩) else hv k := ⟨_, rfl⟩
  rw [← hs', ← hhv]
  have hl : ∀ n e, Live s' n e ↔ Live s n e := fun n e => by rw [hs']; exact live_two2 (by omega) (by unfold BN at hbn; omega)
  have hl2 : LiveN s' = LiveN s := by funext n; simp only [LiveN, hl]
  have hlk : ∀ k, k ≠ d → k ≠ 100000 + nn → look s' k = look s k := fun k h1 h2 => by rw [hs', look_ne (Ne.symm h1), look_ne (Ne.symm h2)]
  have hlb : look s' (100000 + nn) = some av := by rw [hs', look_ne (by omega), look_same]
  have hvn : ∀ k, k ≠ 100000 + nn → hv' k = hv k := fun k hk => by rw [hhv]; simp only [if_neg hk]
  have hvd : hv' (100000 + nn) = .pointer (some ⟨w.heap.size, 0, none⟩) := by rw [hhv]; simp
  have hid : ∀ b o v, Us w0 U0 D b o → (w.alloc (.cells xs.toArray ty)).cell? ⟨b, o, none⟩ = some v → Us w0 U0 D b o ∧ (w.alloc (.cells xs.toArray ty)).cell? ⟨b, o, none⟩ = some v := fun _ _ _ h1 h2 => ⟨h1, h2⟩
  have hmv : ∀ {k av' v}, look s k = some av' → AVRep (Us w0 U0 D) (w.alloc (.cells xs.toArray ty)) hv (LiveN s) av' v → AVRep (Us w0 U0 D) (w.alloc (.cells xs.toArray ty)) hv' (LiveN s) av' v := fun {k av' v} h1 h2 =>
    h2.move hid (fun _ h => h) fun h3 => hvn _ (hk_ne_boxN hbn (fun n => liveN_rn) (hr k av' h1).1 h3)
  refine ⟨hG.below, h.dfr, by simp [Act.put, h.size], fun d' av' h1 h2 => ?_, fun n o av' h1 h2 h3 h10 => ?_, fun n o o' av1 av2 h1 h2 h3 h4 => ?_, fun k av' h1 h2 => ?_, fun k av' g h1 h2 h3 h4 => ?_, fun k k' av1 av2 g h1 h2 h3 h4 h6 h7 hne => ?_, fun n g h1 => ?_, hG.dlt⟩
  · rw [hl2]
    by_cases e : d = d'
    · subst e
      rw [hs', look_same] at h1
      cases h1
      refine ⟨.pointer (some ⟨w.heap.size, 0, none⟩), by simp [Act.put, h.size, hd], ?_⟩
      unfold AVRep
      simp only [if_true]
      exact ⟨hbn, by rw [hvd]; rfl⟩
    · rw [hlk d' (Ne.symm e) (by omega)] at h1
      obtain ⟨v', h3, h4⟩ := hG.slot d' av' h1 h2
      exact ⟨v', by simp [Act.put, e, h3], hmv h1 h4⟩
  · rw [hlk _ (by unfold fKey; omega) (by unfold fKey; omega)] at h1
    have hn := (hr _ _ h1).2.1
    rw [fnm_key h2] at hn
    rw [hlk _ (by omega) (by omega)] at h3
    rw [hl2]
    obtain ⟨v, h4, h6, h7⟩ := hG.fld n o av' h1 h2 h3 h10
    refine ⟨v, hmv h1 h4, h6, ?_⟩
    rw [hvn _ (by omega)]
    exact h7
  · rw [hlk _ (by unfold fKey; omega) (by unfold fKey; omega)] at h1 h2
    exact h.fdis n o o' av1 av2 h1 h2 h3 h4
  · rw [hl2]
    by_cases e : k = 100000 + nn
    · subst e
      rw [hlb] at h1
      cases h1
      rw [hvd]
      unfold OC
      rcases hav with hav | rfl
      · rw [if_pos hav]
        refine ⟨w.heap.size, xs, ty, rfl, alloc_new _ _, (hrep hav).keep (us_keep h.dlt hb' fun _ _ h => h), fun hl => ?_⟩
        obtain ⟨m, c, g1, g2⟩ := htk hav hl
        refine ⟨m, c, g1, ?_⟩
        rw [g2]
        unfold tokv
        rcases liveN_rn hl with h6 | h6
        · rw [if_pos h6, if_pos h6]
        · unfold RN at h6
          rw [hvn _ (by omega)]
      · simp only [if_true]
        exact ⟨w.heap.size, xs.toArray, ty, rfl, alloc_new _ _⟩
    · have h2' := h2
      unfold oKey at h2'
      rw [hlk k (by omega) e] at h1
      rw [hvn k e]
      refine (hG.obj k av' h1 h2).move hid (fun _ hl => ⟨hl, ?_⟩) (fun _ _ => rfl)
      unfold tokv
      rcases liveN_rn hl with h6 | h6
      · rw [if_pos h6, if_pos h6]
      · unfold RN at h6
        rw [hvn _ (by omega)]
  · by_cases e : k = 100000 + nn
    · subst e
      rw [hvd] at h4
      have h4 : some w.heap.size = some g := h4
      cases h4
      refine ⟨.inl h.below.size, by simp, fun o _ hd => ?_⟩
      have := h.dlt _ _ hd
      omega
    · have h2' := h2
      unfold oKey at h2'
      rw [hlk k (by omega) e] at h1
      rw [hvn k e] at h4 ⊢
      exact hG.blk k av' g h1 h2 h3 h4
  · have h3' := h3
    have h4' := h4
    unfold oKey at h3' h4'
    by_cases e1 : k = 100000 + nn
    · have e2 : k' ≠ 100000 + nn := fun e => hne (e1.trans e.symm)
      rw [hlk k' (by omega) e2] at h2
      rw [e1, hvd, hvn k' e2]
      intro h8 h9
      have := (h.blk k' av2 g h2 h4 h7 h9).2.1
      have h8 : some w.heap.size = some g := h8
      cases h8
      omega
    · rw [hlk k (by omega) e1] at h1
      by_cases e2 : k' = 100000 + nn
      · rw [e2, hvd, hvn k e1]
        intro h8 h9
        have := (h.blk k av1 g h1 h3 h6 h8).2.1
        have h9 : some w.heap.size = some g := h9
        cases h9
        omega
      · rw [hlk k' (by omega) e2] at h2
        rw [hvn k e1, hvn k' e2]
        exact h.disj k k' av1 av2 g h1 h2 h3 h4 h6 h7 hne
  · have := U0.hf n g h1
    rw [hvn _ (fun e => hnf g (by rw [← e]; exact h1))]
    exact h.fix n g h1

theorem a_alloc9N (nn : Nat) (hg : Gd w0 U0 nt ops o gs S) (hd : o.dst = some d) (hn : Nat.blt d nt = true) (h5 : Nat.blt d 100000 = true) {ty : TypeId} {fs : Array Field} {it : TypeInfo} {cs : Array Value} {sz : List Nat} {zs : List CV} (ho : o.op = .alloc ty) (hu : P.underlying ty = some (.struct fs)) (hi : P.info? ty = some it) (hz : it.zero = some (.agg cs)) (hsz : szO P fs.toList 0 = some sz) (h0 : zsO sz cs.toList = some zs) (hp : (sz.all fun z => Nat.blt 0 z) = true) (h100 : Nat.ble cs.size 100 = true) (hbb : (Nat.blt nn 100000 || (Nat.ble 350000 nn && Nat.blt nn 400000)) = true) (hnf : ∀ v, U0.f (100000 + nn) = some v → False) : AOp P w0 U0 nt ops o gs [(nn, [])] S (fldsA nn zs 0 ++ [(d, .bp nn 0 []), (100000 + nn, .obj)]) := by
  intro s hs hN a w ⟨D, hv, h⟩ Q K hK
  rw [if_pos (hg s hs a w D hv h)]
  have hd5 := blt_lt h5
  have hbn : BN nn := by
    rcases Bool.or_eq_true_iff.1 hbb with h1 | h1
    · exact .inl (blt_lt h1)
    · rw [Bool.and_eq_true] at h1; exact .inr ⟨Nat.le_of_ble_eq_true h1.1, blt_lt h1.2⟩
  have hbn1 := hbn
  unfold BN at hbn1
  have he : (execOp a.eval o).run P w = .ok (.value (.pointer (some ⟨w.heap.size, 0, none⟩))) (w.alloc (.cells cs ty)) := by
    simp [execOp, ho, Instr.alloc, zeroValue, typeInfo, hi, hz, run_newVar, Value.cells]
  unfold Oper.wp
  rw [he, Oper.upon_value, hd]
  have hr := (hN (nn, []) (by simp)).nr
  have hG := h.newboxN (d := d) (av := .obj) hbn hnf hr (blt_lt hn) hd5 (.inr rfl) (xs := cs.toList) ty (fun e => by cases e) (fun e => by cases e)
  rw [Array.toArray_toList] at hG
  obtain ⟨segs, e1, e2, e3, e4, e5⟩ := zsO_spec (U := Us w0 U0 D) (w := w.alloc (.cells cs ty)) h0
  suffices hfin : SimG w0 U0 nt (fldsA nn zs 0 ++ ((d, AV.bp nn 0 []) :: (100000 + nn, AV.obj) :: s)) (a.put (some d) (.pointer (some ⟨w.heap.size, 0, none⟩))) (w.alloc (.cells cs ty)) D (fun k => if k = 100000 + nn then .pointer (some ⟨w.heap.size, 0, none⟩) else hv k) by
    exact hK _ _ ⟨D, _, by rw [List.append_assoc]; exact hfin⟩
  refine hG.addFs (n := nn) (g := w.heap.size) hbn (by rw [look_ne (by omega), look_same]) (fun q av h1 h2 => ?_) (by simp only [if_true]; rfl) e4 e5 (fun i hi' => ?_) (fun c hc => ?_) (by rw [e1]; have := Nat.le_of_ble_eq_true h100; simpa using this)
  · rw [look_ne (by unfold fKey; omega), look_ne (by unfold fKey; omega)] at h1
    have := (hr _ _ h1).2.1
    rw [fnm_key h2] at this
    exact this rfl
  · rw [e1] at hi' ⊢
    rw [Nat.zero_add]
    have := alloc_new w (.cells cs ty)
    simp only [World.cell?, this]
    simp
  · rw [List.all_eq_true] at hp
    have : c.size ∈ sz := by rw [← e3]; exact List.mem_map.2 ⟨c, hc, rfl⟩
    exact blt_lt (hp _ this)

theorem a_neg (hg : Gd w0 U0 nt ops o gs S) (hd : o.dst = some d) (hn : Nat.blt d nt = true) (h5 : Nat.blt d 100000 = true) {x : Operand} {i : Int} {ty : TypeId} {n q p} (ho : o.op = .unOp .neg ty x) (hx : ev S x = some ⟨0, .sc (.int .i64 i), n, q, p⟩) (hb : -9223372036854775808 < i ∧ i ≤ 9223372036854775808) : AOp P w0 U0 nt ops o (gs ++ rd x) [] S [(d, .val (.i (-i)))] :=
  aop_val hg hd hn h5 (fun k hk => List.mem_append_left _ hk) fun s hs a w D hv hm => by
    have h1 := ev_sc hm (fun k hk => hs k (List.mem_append_right _ hk)) hx
    have hw : IntKind.i64.wrap (-i) = -i := by rw [IntKind.wrap_i64]; omega
    generalize a.eval = ρ at h1 ⊢
    exact ⟨.int .i64 (-i), by simp [execOp, ho, h1, Op.unary, go_sem, hw], avrep_sc rfl⟩

theorem run_eqmap2 {t k e : TypeId} (hu : P.underlying t = some (.map k e)) (g : Nat) (w : World) : (Op.equal t (.map (some g)) (.map none)).run P w = .ok false w := by
  unfold Op.equal
  rw [show Op.maxDepth = 9999 + 1 from rfl, Op.equalIn]
  simp [run_underlying hu]
/-- A map that isn't nil. -/
theorem a_mref_nil (hg : Gd w0 U0 nt ops o gs S) (hd : o.dst = some d) (hn : Nat.blt d nt = true) (h5 : Nat.blt d 100000 = true) {x : Operand} {t1 t2 e k : TypeId} {n : Nat} {l : List CV} (ho : o.op = .binOp .eql t1 x (.const (.map none)) t2) (hu : P.underlying t1 = some (.map k e)) (hx : ev S x = some (.mref n)) (hm' : S n = some (.mp l)) : AOp P w0 U0 nt ops o (gs ++ (rd x ++ [n])) [] S [(d, .val (.b false))] :=
  aop_val hg hd hn h5 (fun k hk => List.mem_append_left _ hk) fun s hs a w D hv hm => by
    obtain ⟨hrn, h1, _⟩ : RN n ∧ a.eval x = hv n ∧ (a.eval x).oneCell' = true := ev_rep hm (fun k hk => hs k (List.mem_append_right _ (List.mem_append_left _ hk))) hx
    have hok : oKey n := by unfold RN at hrn; unfold oKey; omega
    obtain ⟨g, es, clock, g1, g2, g3, g4, g5⟩ : ∃ g es clock, hv n = .map (some g) ∧ w.heap[g]? = some (.map es clock) ∧ Ents (Us w0 U0 D) w l es.toList ∧ (∀ e ∈ es, e.born < clock) ∧ (es.toList.map (fun e : MapEntry => e.born)).Nodup := hm.obj n _ ((hs n (by simp)).trans hm') hok
    rw [g1] at h1
    have hb := run_eqmap2 (P := P) hu g w
    have hc : a.eval (.const (.map none)) = .map none := rfl
    refine ⟨.bool false, ?_, avrep_sc rfl⟩
    generalize a.eval = ρ at h1 hc ⊢
    simp [execOp, ho, h1, hc, eqGuard, binOp, hb]

/-- What is under a key, or zero. -/
theorem a_lookup1 (hg : Gd w0 U0 nt ops o gs S) (hd : o.dst = some d) (hn : Nat.blt d nt = true) (h5 : Nat.blt d 100000 = true) {x y : Operand} {t kt et : TypeId} {k k2 : IntKind} {i z2 : Int} {n : Nat} {l : List CV} {n' q' p'} (ho : o.op = .lookup t x y false) (hu : P.underlying t = some (.map kt et)) (huk : P.underlying kt = some (.int k)) (hz2 : (P.info? et).map (·.zero) = some (some (.int k2 z2))) (hzc : zeroT P et = some (.sc (.int k2 z2))) (hx : ev S x = some (.mref n)) (hy : ev S y = some ⟨0, .sc (.int k i), n', q', p'⟩) (hm' : S n = some (.mp l)) (hik : IntKeys k l) : AOp P w0 U0 nt ops o (gs ++ (rd x ++ (rd y ++ [n]))) [] S [(d, .val ((lookR k i l).getD (.sc (.int k2 z2))))] :=
  aop_val hg hd hn h5 (fun k hk => List.mem_append_left _ hk) fun s hs a w D hv hm => by
    obtain ⟨hrn, h1, _⟩ : RN n ∧ a.eval x = hv n ∧ (a.eval x).oneCell' = true := ev_rep hm (fun k hk => hs k (List.mem_append_right _ (List.mem_append_left _ hk))) hx
    have e2 := ev_sc hm (fun k hk => hs k (List.mem_append_right _ (List.mem_append_right _ (List.mem_append_left _ hk)))) hy
    have hok : oKey n := by unfold RN at hrn; unfold oKey; omega
    obtain ⟨g, es, clock, g1, g2, g3, g4, g5⟩ : ∃ g es clock, hv n = .map (some g) ∧ w.heap[g]? = some (.map es clock) ∧ Ents (Us w0 U0 D) w l es.toList ∧ (∀ e ∈ es, e.born < clock) ∧ (es.toList.map (fun e : MapEntry => e.born)).Nodup := hm.obj n _ ((hs n (by simp)).trans hm') hok
    obtain ⟨it, zv, i1, i2, i3⟩ := zeroT_spec hzc
    have hck := run_checkKey (P := P) (w := w) huk (k := .int k i) rfl es.isEmpty 9999
    have hge := Go.MapKept.run_getObj_map (P := P) g2
    rcases find_spec 0 g3 hik (i := i) with ⟨f1, f2⟩ | ⟨j, e, c, f1, f2, f3, f4, f5, f6⟩
    · have hfk := run_findKey (P := P) (w := w) huk f1
      have hzv : (zeroValue et).run P w = .ok zv w := by simp [zeroValue, typeInfo, i1, i2]
      rw [i1, Option.map_some, i2] at hz2
      injection hz2 with hz2
      injection hz2 with hz2
      refine ⟨zv, ?_, ?_⟩
      · rw [g1] at h1
        generalize a.eval = ρ at h1 e2 ⊢
        simp [execOp, ho, Instr.lookup, run_underlying hu, h1, e2, hge, hck, hfk, hzv]
      · rw [f2, hz2]
        exact avrep_sc rfl
    · have hfk := run_findKey (P := P) (w := w) huk f1
      refine ⟨e.val, ?_, ?_⟩
      · rw [g1] at h1
        generalize a.eval = ρ at h1 e2 ⊢
        simp [execOp, ho, Instr.lookup, run_underlying hu, h1, e2, hge, hck, hfk]
      · rw [f6]
        exact avrep_val f4
/-- A map that is nil. -/
theorem a_mref_isnil (hg : Gd w0 U0 nt ops o gs S) (hd : o.dst = some d) (hn : Nat.blt d nt = true) (h5 : Nat.blt d 100000 = true) {x : Operand} {t1 t2 e k : TypeId} {n : Nat} {c : CV} {m q p} (ho : o.op = .binOp .eql t1 x (.const (.map none)) t2) (hu : P.underlying t1 = some (.map k e)) (hx : ev S x = some (.mref n)) (hm' : S n = some ⟨17, c, m, q, p⟩) : AOp P w0 U0 nt ops o (gs ++ (rd x ++ [n])) [] S [(d, .val (.b true))] :=
  aop_val hg hd hn h5 (fun k hk => List.mem_append_left _ hk) fun s hs a w D hv hm => by
    obtain ⟨hrn, h1, _⟩ : RN n ∧ a.eval x = hv n ∧ (a.eval x).oneCell' = true := ev_rep hm (fun k hk => hs k (List.mem_append_right _ (List.mem_append_left _ hk))) hx
    have hok : oKey n := by unfold RN at hrn; unfold oKey; omega
    have g1 : hv n = .map none := hm.obj n _ ((hs n (by simp)).trans hm') hok rfl
    rw [g1] at h1
    have hb := run_eqmap (P := P) hu w
    have hc : a.eval (.const (.map none)) = .map none := rfl
    refine ⟨.bool true, ?_, avrep_sc rfl⟩
    generalize a.eval = ρ at h1 hc ⊢
    simp [execOp, ho, h1, hc, eqGuard, binOp, hb]
/-- A field that holds a map which is nil gets the map's name. -/
theorem wk_nmap (k n : Nat) (hk : Nat.ble 500000 k = true) (hn : (Nat.ble 200000 n && Nat.blt n 400000) = true) (hs : look s k = some (.val (.sc (.map none)))) (hr : noRefB s [(n, [])] = true) (hnk : noKey s n = true) : Wk w0 U0 nt s ((k, .mref n) :: (n, .nmap) :: s) := by
  rintro a w ⟨D, hv, h⟩
  have hk5 := Nat.le_of_ble_eq_true hk
  have hrn := rnB hn
  have hrn' : RN n := RW.rn hrn
  unfold RW at hrn
  have hnk' : look s n = none := by
    cases e : look s n with
    | none => rfl
    | some av =>
      unfold noKey at hnk
      rw [List.all_eq_true] at hnk
      have := hnk _ (look_mem e)
      simp [Nat.beq_refl] at this
  have hnr : NoRef s n := (noRefB_spec hr (n, []) (by simp)).nr
  obtain ⟨hv', hhv⟩ : ∃ hv' : Nat → Value, hv' = fun x => if x = n then .map none else hv x := ⟨_, rfl⟩
  have hvn : ∀ x, x ≠ n → hv' x = hv x := fun x hx => by rw [hhv]; simp only [if_neg hx]
  have hvd : hv' n = .map none := by rw [hhv]; simp
  obtain ⟨s', hs'⟩ : ∃ s', s' = (k, AV.mref n) :: (n, AV.nmap) :: s := ⟨_, rfl⟩
  rw [← hs']
  have hlk : ∀ x, x ≠ k → x ≠ n → look s' x = look s x := fun x h1 h2 => by rw [hs', look_ne (Ne.symm h1), look_ne (Ne.symm h2)]
  have hlkk : look s' k = some (.mref n) := by rw [hs', look_same]
  have hlkn : look s' n = some .nmap := by rw [hs', look_ne (by omega), look_same]
  have hl : ∀ q e, Live s' q e ↔ Live s q e := fun q e => by
    unfold Live
    by_cases e1 : q = k
    · omega
    · by_cases e2 : q = n
      · subst e2
        rw [hlkn, hnk']
        constructor <;> (rintro ⟨h1, _⟩; cases h1)
      · rw [hlk q e1 e2]
  have hl2 : LiveN s' = LiveN s := by funext q; simp only [LiveN, hl]
  have hmv : ∀ {k' av v}, look s k' = some av → AVRep (Us w0 U0 D) w hv (LiveN s) av v → AVRep (Us w0 U0 D) w hv' (LiveN s) av v := fun {k' av v} h1 h2 =>
    h2.move (fun _ _ _ h1 h2 => ⟨h1, h2⟩) (fun _ h => h) fun h3 => hvn _ (hk_ne_row hrn' (hnr k' av h1).1 h3)
  refine ⟨D, hv', h.below, h.dfr, h.size, fun d av g1 g2 => ?_, fun m o av g1 g2 g3 g4 => ?_, fun m o o' av av' g1 g2 g3 g4 g5 => ?_, fun k' av g1 g2 => ?_, fun k' av g g1 g2 g3 g4 => ?_, fun k' k2 av av' g g1 g2 g3 g4 g5 g6 g7 g8 => ?_, fun k' v g1 => ?_, h.dlt⟩
  · rw [hlk d (by omega) (by omega)] at g1
    rw [hl2]
    obtain ⟨v, h1, h2⟩ := h.slot d av g1 g2
    exact ⟨v, h1, hmv g1 h2⟩
  · have hbk := bn_okey g4
    unfold oKey at hbk
    unfold BN at g4
    rw [hlk (100000 + m) (by omega) (by omega)] at g3
    rw [hl2, hvn (100000 + m) (by omega)]
    by_cases e : fKey m o = k
    · rw [e, hlkk] at g1
      cases g1
      obtain ⟨v, h1, h2, h3⟩ := h.fld m o _ (by rw [e]; exact hs) g2 g3 g4
      obtain ⟨h4, _⟩ := vrep_sc.1 h1.1
      subst h4
      exact ⟨.map none, ⟨hrn', hvd.symm, rfl⟩, rfl, h3⟩
    · rw [hlk _ e (by unfold fKey; omega)] at g1
      obtain ⟨v, h1, h2, h3⟩ := h.fld m o av g1 g2 g3 g4
      exact ⟨v, hmv g1 h1, h2, h3⟩
  · have conv : ∀ o (av : AV), look s' (fKey m o) = some av → ∃ av', look s (fKey m o) = some av' ∧ av'.sz = av.sz := fun o av f1 => by
      by_cases e : fKey m o = k
      · rw [e, hlkk] at f1
        cases f1
        exact ⟨.val (.sc (.map none)), by rw [e]; exact hs, rfl⟩
      · rw [hlk _ e (by unfold fKey; omega)] at f1
        exact ⟨av, f1, rfl⟩
    obtain ⟨a1, b1, c1⟩ := conv o av g1
    obtain ⟨a2, b2, c2⟩ := conv o' av' g2
    rw [← c1]
    exact h.fdis m o o' a1 a2 b1 b2 g3 g4 g5
  · unfold oKey at g2
    rw [hl2]
    by_cases e : k' = n
    · subst e
      rw [hlkn] at g1
      cases g1
      rw [hvd]
      unfold OC
      exact fun _ => rfl
    · rw [hlk k' (by omega) e] at g1
      rw [hvn k' e]
      exact (h.obj k' av g1 g2).move (fun _ _ _ h1 h2 => ⟨h1, h2⟩) (fun ht hl => ⟨hl, by
        unfold tokv
        rw [hvn _ (hnr k' av g1).1]⟩) (fun _ _ => rfl)
  · unfold oKey at g2
    by_cases e : k' = n
    · subst e
      rw [hvd] at g4
      cases g4
    · rw [hlk k' (by omega) e] at g1
      rw [hvn k' e] at g4 ⊢
      exact h.blk k' av g g1 g2 g3 g4
  · unfold oKey at g3 g4
    by_cases e : k' = n
    · subst e
      rw [hvd] at g8
      cases g8
    · by_cases e2 : k2 = n
      · subst e2
        rw [hvd]
        intro h9; cases h9
      · rw [hlk k' (by omega) e] at g1
        rw [hlk k2 (by omega) e2] at g2
        rw [hvn k' e] at g8
        rw [hvn k2 e2]
        exact h.disj k' k2 av av' g g1 g2 g3 g4 g5 g6 g7 g8
  · have := U0.hf k' v g1
    rw [hvn k' (by omega)]
    exact h.fix k' v g1
end
end Go.Proofs.Ytahkegkahhbalaa


namespace Go.Proofs.Ytahkegkahhbalaa
open Go.RowKit
set_option linter.unusedVariables false
set_option linter.unusedSimpArgs false
set_option maxRecDepth 100000
end Go.Proofs.Ytahkegkahhbalaa


namespace Go.Proofs.Ytahkegkahhbalaa
open Go.RowKit
set_option linter.unusedVariables false
set_option linter.unusedSimpArgs false
set_option maxRecDepth 100000

theorem varT_rng {v : Int} (h1 : 0 ≤ v) (h2 : v ≤ 9223372036854775807) : (varT v).rng := (Tm.rng_iff _).2 ⟨by show _ ≤ -1 - v ∧ -1 - v ≤ _; omega, fun s hs => by cases hs⟩
theorem varT_size (v : Int) : (varT v).size = 1 := by
  rw [Tm.size_eq]
  have : (varT v).ps = [] := by unfold Tm.ps varT; simp
  rw [this]; rfl
theorem findB_mem : ∀ {l : List Bd} {v : Int} {t : Tm}, findB l v = some t → ∃ b ∈ l, b.t = t ∧ b.v = v
  | [], v, t, h => by cases h
  | b :: l, v, t, h => by
    rw [findB] at h
    split at h
    · rename_i e; cases h; exact ⟨b, by simp, rfl, e⟩
    · obtain ⟨c, h1, h2⟩ := findB_mem h
      exact ⟨c, List.mem_cons_of_mem _ h1, h2⟩
/-- Bindings whose terms are right, and not too great. -/
def bdsOk (l : List Bd) : Prop := ∀ b ∈ l, b.t.rng ∧ b.t.size ≤ 1000000000
theorem imgB_ok {l : List Bd} (h : bdsOk l) {v : Int} (h1 : 0 ≤ v) (h2 : v ≤ 9223372036854775807) : (imgB l v).rng ∧ (imgB l v).size ≤ 1000000000 := by
  unfold imgB
  cases hf : findB l v with
  | none => exact ⟨varT_rng h1 h2, by show (varT v).size ≤ _; rw [varT_size]; omega⟩
  | some t =>
    obtain ⟨b, hb, e, _⟩ := findB_mem hf
    show t.rng ∧ t.size ≤ _
    rw [← e]
    exact h b hb
/-- A variable's number, raised. -/
def upV (by_ v : Int) : Int := v + min by_ (9223372036854775807 - v)
end Go.Proofs.Ytahkegkahhbalaa


namespace Go.Proofs.Ytahkegkahhbalaa
set_option linter.unusedVariables false
set_option linter.unusedSimpArgs false

def vsL (l : List Tm) : List Int := (l.filter fun s => decide (s.f < 0)).map fun s => -1 - s.f
/-- The numbers of variables as they stand. -/
def Tm.vs (t : Tm) : List Int := vsL t.flat
theorem vsL_append (l m : List Tm) : vsL (l ++ m) = vsL l ++ vsL m := by simp [vsL]
theorem vsL_flatMap (l : List Tm) : vsL (l.flatMap Tm.flat) = l.flatMap Tm.vs := by
  induction l with
  | nil => rfl
  | cons t l ih => rw [List.flatMap_cons, vsL_append, ih, List.flatMap_cons]; rfl
theorem Tm.vs_var {t : Tm} (h : t.f < 0) : t.vs = [-1 - t.f] := by
  unfold Tm.vs
  rw [Tm.flat_eq, Tm.ps_of_var h]
  simp [vsL, h]
theorem Tm.vs_sym {t : Tm} (h : ¬ t.f < 0) : t.vs = t.l.flatMap Tm.vs := by
  unfold Tm.vs
  rw [Tm.flat_eq, Tm.ps_of_sym (by omega), show t :: t.l.flatMap Tm.flat = [t] ++ t.l.flatMap Tm.flat from rfl, vsL_append, vsL_flatMap]
  simp [vsL, h]
  rfl
theorem Tm.strip_vs (t : Tm) : t.strip.vs = t.vs := by
  induction t using Tm.indp with
  | h t ih =>
    by_cases h : t.f < 0
    · rw [Tm.vs_var h, Tm.vs_var (by rw [Tm.strip_f]; exact h), Tm.strip_f]
    · rw [Tm.vs_sym h, Tm.vs_sym (by rw [Tm.strip_f]; exact h), Tm.strip_l]
      rw [Tm.ps_of_sym (by omega)] at ih ⊢
      rw [List.flatMap_def, List.flatMap_def, List.map_map]
      congr 1
      exact List.map_congr_left fun s hs => ih s hs
theorem Tm.size_sym {t : Tm} (h : ¬ t.f < 0) : t.size = 1 + (t.l.map Tm.size).sum := by
  rw [Tm.size_eq, Tm.ps_of_sym (by omega), List.length_flatMap]
  rfl
theorem Tm.size_var {t : Tm} (h : t.f < 0) : t.size = 1 := by
  rw [Tm.size_eq, Tm.ps_of_var h]; rfl
theorem sum_congr_int {l : List Tm} {f g : Tm → Int} (h : ∀ s ∈ l, f s = g s) : (l.map f).sum = (l.map g).sum := by
  rw [List.map_congr_left h]
theorem sum_flatMap_int (l : List Tm) (g : Int → Int) : ((l.flatMap Tm.vs).map g).sum = (l.map fun s => (s.vs.map g).sum).sum := by
  induction l with
  | nil => rfl
  | cons t l ih => rw [List.flatMap_cons, List.map_append, List.sum_append_int, ih, List.map_cons, List.sum_cons]
theorem sum_cast (l : List Nat) : ((l.sum : Nat) : Int) = (l.map fun n : Nat => (n : Int)).sum := by
  induction l with
  | nil => rfl
  | cons n l ih => rw [List.sum_cons, List.map_cons, List.sum_cons, ← ih]; omega
theorem sum_add (l : List Tm) (f g : Tm → Int) : (l.map fun s => f s + g s).sum = (l.map f).sum + (l.map g).sum := by
  induction l with
  | nil => rfl
  | cons t l ih => simp only [List.map_cons, List.sum_cons, ih]; omega
theorem repT_size (img : Int → Tm) (t : Tm) : ((repT img t).size : Int) = t.size + (t.vs.map fun v => ((img v).size : Int) - 1).sum := by
  induction t using Tm.indp with
  | h t ih =>
    by_cases h : t.f < 0
    · rw [repT_var h, Tm.vs_var h, Tm.strip_size, Tm.size_var h]; simp; omega
    · rw [repT_sym h, Tm.vs_sym h, Tm.size_sym h, Tm.size_sym (t := ⟨t.f, _⟩) h, sum_flatMap_int]
      rw [Tm.ps_of_sym (by omega)] at ih
      simp only
      rw [Int.natCast_add, Int.natCast_add, sum_cast, sum_cast, List.map_map, List.map_map, List.map_map, Int.add_assoc, ← sum_add]
      congr 1
      exact sum_congr_int fun s hs => ih s hs

/-- Each once, as they first stand. -/
def nubS (acc : List Int) (v : Int) : List Int := if v ∈ acc then acc else acc ++ [v]
def nub (l : List Int) : List Int := l.foldl nubS []
theorem snoc_ind {α : Type} {Q : List α → Prop} (h0 : Q []) (h1 : ∀ l x, Q l → Q (l ++ [x])) : ∀ l, Q l := by
  intro l
  have : ∀ n (l : List α), l.length = n → Q l := by
    intro n
    induction n with
    | zero => intro l hl; rw [List.eq_nil_of_length_eq_zero hl]; exact h0
    | succ n ih =>
      intro l hl
      have hne : l ≠ [] := fun e => by rw [e] at hl; simp at hl
      rw [← List.dropLast_concat_getLast hne]
      exact h1 _ _ (ih _ (by simp [hl]))
  exact this _ l rfl
end Go.Proofs.Ytahkegkahhbalaa


namespace Go.Proofs.Ytahkegkahhbalaa
open Go.RowKit
set_option linter.unusedVariables false
set_option linter.unusedSimpArgs false

def Tm.sm : Tm → Prop
  | ⟨f, l⟩ => (-1000 ≤ f ∧ f ≤ 1000) ∧ ∀ t ∈ l, Tm.sm t
theorem Tm.sm_iff (t : Tm) : t.sm ↔ (-1000 ≤ t.f ∧ t.f ≤ 1000) ∧ ∀ s ∈ t.l, s.sm := by cases t; rw [Tm.sm]
theorem small_sm (t : Tm) : ∀ most deep, 0 ≤ smallT t most deep → t.sm := by
  induction t using Tm.ind with
  | h f l ih =>
    intro most deep h
    rw [smallT_eq] at h
    split at h
    · omega
    · rename_i hc
      refine (Tm.sm_iff _).2 ⟨⟨by show -1000 ≤ f; omega, by show f ≤ 1000; omega⟩, ?_⟩
      have : ∀ (l : List Tm) (m d : Int), (∀ t ∈ l, ∀ most deep, 0 ≤ smallT t most deep → t.sm) → 0 ≤ smallL l m d → ∀ t ∈ l, t.sm := by
        intro l
        induction l with
        | nil => intro m d _ _ t ht; cases ht
        | cons y ys ih2 =>
          intro m d hl h t ht
          rw [smallL_cons] at h
          split at h
          · omega
          · have hy : 0 ≤ smallT y m d := by
              rcases Int.lt_or_le (smallT y m d) 0 with h1 | h1
              · rw [smallL_neg ys d h1] at h; omega
              · exact h1
            rcases List.mem_cons.1 ht with rfl | ht
            · exact hl t (by simp) m d hy
            · exact ih2 (smallT y m d) d (fun s hs => hl s (List.mem_cons_of_mem _ hs)) h t ht
      exact this l _ _ ih h
theorem Tm.wt_ok {t : Tm} (h : t.wt ≤ 1000000) : t.ok := by
  induction t using Tm.ind with
  | h f l ih =>
    rw [Tm.wt_eq] at h
    simp only at h
    have := Tm.wts_len l
    exact (Tm.ok_iff _).2 ⟨by simp only; omega, fun s hs => ih s hs (by have : s.wt ≤ Tm.wts l := Tm.wts_mem hs; omega)⟩
theorem Tm.strip_rng {t : Tm} (h : t.rng) : t.strip.rng := by
  induction t using Tm.indp with
  | h t ih =>
    obtain ⟨h1, h2⟩ := (Tm.rng_iff _).1 h
    refine (Tm.rng_iff _).2 ⟨by rw [Tm.strip_f]; exact h1, fun s hs => ?_⟩
    rw [Tm.strip_l] at hs
    obtain ⟨u, hu, rfl⟩ := List.mem_map.1 hs
    exact ih u hu (h2 u (Tm.ps_mem hu).1)
theorem Tm.strip_ok {t : Tm} (h : t.ok) : t.strip.ok := by
  induction t using Tm.indp with
  | h t ih =>
    obtain ⟨h1, h2⟩ := (Tm.ok_iff _).1 h
    refine (Tm.ok_iff _).2 ⟨?_, fun s hs => ?_⟩
    · rw [Tm.strip_l, List.length_map]
      unfold Tm.ps
      split
      · simp
      · exact h1
    · rw [Tm.strip_l] at hs
      obtain ⟨u, hu, rfl⟩ := List.mem_map.1 hs
      exact ih u hu (h2 u (Tm.ps_mem hu).1)
theorem leaf_rng {f : Int} (h1 : -9223372036854775808 ≤ f) (h2 : f ≤ 9223372036854775807) : (Tm.mk f []).rng := (Tm.rng_iff _).2 ⟨⟨h1, h2⟩, fun s hs => by cases hs⟩
theorem leaf_ok (f : Int) : (Tm.mk f []).ok := (Tm.ok_iff _).2 ⟨by show 0 ≤ _; omega, fun s hs => by cases hs⟩
theorem leaf_size (f : Int) : (Tm.mk f []).size = 1 := by
  rw [Tm.size_eq]
  have : (Tm.mk f []).ps = [] := by unfold Tm.ps; simp
  rw [this]; rfl
end Go.Proofs.Ytahkegkahhbalaa


namespace Go.Proofs.Ytahkegkahhbalaa
open Go.RowKit
set_option linter.unusedVariables false
set_option linter.unusedSimpArgs false
set_option maxRecDepth 100000

theorem repT_rng {img : Int → Tm} {t : Tm} (h : t.rng) (hi : ∀ v, 0 ≤ v → v ≤ 9223372036854775807 → (img v).rng) : (repT img t).rng := by
  induction t using Tm.ind with
  | h f l ih =>
    obtain ⟨h1, h2⟩ := (Tm.rng_iff _).1 h
    simp only at h1 h2
    by_cases hf : f < 0
    · rw [repT_var hf]; exact Tm.strip_rng (hi _ (by simp only; omega) (by simp only; omega))
    · rw [repT_sym hf]
      refine (Tm.rng_iff _).2 ⟨h1, fun s hs => ?_⟩
      obtain ⟨u, hu, rfl⟩ := List.mem_map.1 hs
      exact ih u hu (h2 u hu)
theorem repT_ok {img : Int → Tm} {t : Tm} (h : t.ok) (hi : ∀ v, (img v).ok) : (repT img t).ok := by
  induction t using Tm.ind with
  | h f l ih =>
    obtain ⟨h1, h2⟩ := (Tm.ok_iff _).1 h
    simp only at h1 h2
    by_cases hf : f < 0
    · rw [repT_var hf]; exact Tm.strip_ok (hi _)
    · rw [repT_sym hf]
      refine (Tm.ok_iff _).2 ⟨by simpa using h1, fun s hs => ?_⟩
      obtain ⟨u, hu, rfl⟩ := List.mem_map.1 hs
      exact ih u hu (h2 u hu)
end Go.Proofs.Ytahkegkahhbalaa


namespace Go.Proofs.Ytahkegkahhbalaa
set_option linter.unusedVariables false
set_option linter.unusedSimpArgs false

theorem cmpZ_cases (x y : Int) : (cmpZ x y = -1 ∧ x < y) ∨ (cmpZ x y = 0 ∧ x = y) ∨ (cmpZ x y = 1 ∧ y < x) := by
  unfold cmpZ
  split
  · exact .inl ⟨rfl, by assumption⟩
  · split
    · exact .inr (.inr ⟨rfl, by assumption⟩)
    · exact .inr (.inl ⟨rfl, by omega⟩)

/-- A head's place among heads. -/
def rank (x : Int) : Int × Int := if x < 0 then (0, -1 - x) else (1, x)
theorem cmpH_cases (x y : Int) : (cmpH x y = -1 ∧ ((x < 0 ∧ y < 0 ∧ y < x) ∨ (¬ (x < 0 ∧ y < 0) ∧ x < y))) ∨ (cmpH x y = 0 ∧ x = y) ∨ (cmpH x y = 1 ∧ ((x < 0 ∧ y < 0 ∧ x < y) ∨ (¬ (x < 0 ∧ y < 0) ∧ y < x))) := by
  unfold cmpH
  split
  · have := cmpZ_cases (-1 - x) (-1 - y)
    omega
  · have := cmpZ_cases x y
    omega

/-- A comparison that is an order on these. -/
structure CmpOk (c : Int) : Prop where
  three : c = -1 ∨ c = 0 ∨ c = 1

theorem cmpT_zero (a : Tm) : ∀ b, cmpT a b = 0 ↔ a.strip = b.strip := by
  induction a using Tm.indp with
  | h a ih =>
    intro b
    rw [cmpT_eq, Tm.strip_eq a, Tm.strip_eq b]
    have hL : ∀ (l m : List Tm), (∀ s ∈ l, ∀ b, cmpT s b = 0 ↔ s.strip = b.strip) → (cmpL l m = 0 ↔ l.map Tm.strip = m.map Tm.strip) := by
      intro l
      induction l with
      | nil => intro m _; cases m <;> simp [cmpL_nil, cmpL_lt, cmpL_gt]
      | cons y ys ih2 =>
        intro m hl
        cases m with
        | nil => simp [cmpL_nil, cmpL_lt, cmpL_gt]
        | cons z zs =>
          rw [cmpL_cons, List.map_cons, List.map_cons, List.cons.injEq, ← hl y (by simp) z, ← ih2 zs (fun s hs => hl s (List.mem_cons_of_mem _ hs))]
          by_cases h : cmpT y z = 0 <;> simp [h]
    rw [Tm.mk.injEq]
    by_cases h1 : a.f = b.f
    · rw [if_neg (by simp [h1])]
      by_cases h2 : a.ps.length = b.ps.length
      · rw [if_neg (by simp [h2]), hL _ _ ih]
        simp [h1]
      · rw [if_pos h2]
        constructor
        · intro h3
          have := cmpZ_cases a.ps.length b.ps.length
          omega
        · rintro ⟨_, h3⟩
          exact absurd (by simpa using congrArg List.length h3) h2
    · rw [if_pos h1]
      constructor
      · intro h3
        have := cmpH_cases a.f b.f
        omega
      · rintro ⟨h3, _⟩
        exact absurd h3 h1

/-- Over two it goes on; strict if one of both is. -/
def Goon (p q r : Int) : Prop := p ≤ 0 → q ≤ 0 → r ≤ 0 ∧ (r = 0 → p = 0 ∧ q = 0)

theorem sameT_iff (a b : Tm) : sameT a b = true ↔ a.strip = b.strip := by
  unfold sameT
  rw [beq_iff_eq]
  exact cmpT_zero a b
end Go.Proofs.Ytahkegkahhbalaa


namespace Go.Proofs.Ytahkegkahhbalaa
open Go.RowKit
set_option linter.unusedVariables false
set_option linter.unusedSimpArgs false
set_option maxRecDepth 100000
end Go.Proofs.Ytahkegkahhbalaa


namespace Go.Proofs.Ytahkegkahhbalaa
open Go.RowKit
set_option linter.unusedVariables false
set_option linter.unusedSimpArgs false
set_option maxRecDepth 100000
end Go.Proofs.Ytahkegkahhbalaa


namespace Go.Proofs.Ytahkegkahhbalaa
open Go.RowKit
set_option linter.unusedVariables false
set_option linter.unusedSimpArgs false
set_option maxRecDepth 100000
end Go.Proofs.Ytahkegkahhbalaa


namespace Go.Proofs.Ytahkegkahhbalaa
open Go.RowKit
set_option linter.unusedVariables false
set_option linter.unusedSimpArgs false
set_option maxRecDepth 100000
end Go.Proofs.Ytahkegkahhbalaa


namespace Go.Proofs.Ytahkegkahhbalaa
open Go.RowKit
set_option linter.unusedVariables false
set_option linter.unusedSimpArgs false
set_option maxRecDepth 100000

set_option maxHeartbeats 1000000 in
-- 
theorem of_abs (W : World) : ∀ (t : Tm), t.ok → AFun Try.prog W 11 [t.cw] (.val t.cw) := by
  intro t
  induction t using Tm.ind with
  | h f l ih =>
  intro hok
  obtain ⟨hl, hok⟩ := (Tm.ok_iff _).1 hok
  simp only at hl hok
  refine afun_of (rs := [Tm.cw ⟨f, l⟩]) Try.func11 Try.ntmps11 rfl rfl rfl rfl ?_
  intro w U hW
  refine awp_seq (awp_region ?_)
  (refine ⟨_, _, _, a_box (gd_none rfl) rfl rfl rfl rfl rfl, (by first | rfl | kernel_rfl), ?_⟩)
  (refine ⟨_, _, _, a_alloc (gd_none rfl) rfl rfl rfl rfl rfl rfl rfl rfl rfl rfl, (by first | rfl | kernel_rfl), ?_⟩)
  show AWp _ _ _ _ _ _ _
  refine awp_seq (awp_region ?_)
  (first | (refine ⟨_, _, _, a_field_bp (gd_none rfl) rfl rfl rfl rfl rfl rfl rfl rfl rfl, (by first | rfl | kernel_rfl), ?_⟩) | (refine ⟨_, _, _, a_field_ad (gd_none rfl) rfl rfl rfl rfl rfl rfl rfl rfl rfl rfl rfl, (by first | rfl | kernel_rfl), ?_⟩) | (refine ⟨_, _, _, a_fieldM (gd_none rfl) rfl rfl rfl rfl rfl rfl rfl rfl rfl, (by first | rfl | kernel_rfl), ?_⟩))
  (first | (refine ⟨_, _, _, a_load_all (gd_none rfl) rfl rfl rfl rfl rfl rfl rfl rfl rfl rfl rfl rfl, (by first | rfl | kernel_rfl), ?_⟩) | (refine ⟨_, _, _, a_load_tok (gd_none rfl) rfl rfl rfl rfl rfl rfl rfl rfl rfl rfl rfl rfl rfl, (by first | rfl | kernel_rfl), ?_⟩) | (refine ⟨_, _, _, a_load_bp (gd_none rfl) rfl rfl rfl rfl rfl rfl rfl rfl rfl rfl rfl rfl, (by first | rfl | kernel_rfl), ?_⟩) | (refine ⟨_, _, _, a_load_ad (gd_none rfl) rfl rfl rfl rfl rfl rfl rfl rfl rfl, (by first | rfl | kernel_rfl), ?_⟩) | (refine ⟨_, _, _, a_load_ptr (gd_none rfl) rfl rfl rfl rfl rfl rfl rfl rfl rfl, (by first | rfl | kernel_rfl), ?_⟩) | (refine ⟨_, _, _, a_load_fld (gd_none rfl) rfl rfl rfl rfl rfl rfl rfl rfl rfl rfl rfl rfl rfl, (by first | rfl | kernel_rfl), ?_⟩) | (refine ⟨_, _, _, a_load_fullv (gd_none rfl) rfl rfl rfl rfl rfl rfl rfl rfl rfl, (by first | rfl | kernel_rfl), ?_⟩))
  (refine ⟨_, _, _, a_build (gd_none rfl) rfl rfl rfl rfl rfl rfl rfl rfl rfl rfl rfl, (by first | rfl | kernel_rfl), ?_⟩)
  (refine ⟨_, _, _, a_alloc (gd_none rfl) rfl rfl rfl rfl rfl rfl rfl rfl rfl rfl, (by first | rfl | kernel_rfl), ?_⟩)
  (first | (refine ⟨_, _, _, a_store_all (gd_none rfl) rfl rfl rfl rfl rfl rfl rfl rfl rfl rfl, (by first | rfl | kernel_rfl), ?_⟩) | (refine ⟨_, _, _, a_store (gd_none rfl) rfl rfl rfl rfl rfl rfl rfl rfl rfl rfl, (by first | rfl | kernel_rfl), ?_⟩) | (refine ⟨_, _, _, a_store_fld (gd_none rfl) rfl rfl rfl rfl rfl rfl rfl rfl rfl rfl rfl rfl, (by first | rfl | kernel_rfl), ?_⟩))
  show AWp _ _ _ _ _ _ _
  refine awp_seq (awp_seq (awp_region ?_))
  (refine ⟨_, _, _, a_assign (gd_none rfl) rfl rfl rfl rfl rfl, (by first | rfl | kernel_rfl), ?_⟩)
  show AWp _ _ _ _ _ _ _
  refine awp_block (awp_count l.length (fun k => [(1, .bp 1 0 []), (100001, .bx (Tm.cw ⟨f, l⟩)), (2, .bp 2 0 []), (100002, ⟨5, .row [.i 0, .lst []], 1, 0, [1]⟩), (3, .bp 3 0 []), (100003, ⟨5, .row [.i f, .lst ((l.take k).map Tm.cv)], 200024, 0, [1]⟩), (200024, .tok 29 2), (4, .val (.i k))])
    ((wk_nil 100003 200024 29 2 rfl rfl rfl rfl rfl rfl rfl).trans (wk_sub ⟨rfl, rfl, rfl, rfl, rfl, rfl, rfl, rfl, trivial⟩)) ?_)
  intro k hk
  refine awp_seq (awp_seq (awp_region ?_))
  (refine ⟨_, _, _, a_move (gd_none rfl) rfl rfl rfl rfl rfl, (by first | rfl | kernel_rfl), ?_⟩)
  (first | (refine ⟨_, _, _, a_field_bp (gd_none rfl) rfl rfl rfl rfl rfl rfl rfl rfl rfl, (by first | rfl | kernel_rfl), ?_⟩) | (refine ⟨_, _, _, a_field_ad (gd_none rfl) rfl rfl rfl rfl rfl rfl rfl rfl rfl rfl rfl, (by first | rfl | kernel_rfl), ?_⟩) | (refine ⟨_, _, _, a_fieldM (gd_none rfl) rfl rfl rfl rfl rfl rfl rfl rfl rfl, (by first | rfl | kernel_rfl), ?_⟩))
  (first | (refine ⟨_, _, _, a_load_all (gd_none rfl) rfl rfl rfl rfl rfl rfl rfl rfl rfl rfl rfl rfl, (by first | rfl | kernel_rfl), ?_⟩) | (refine ⟨_, _, _, a_load_tok (gd_none rfl) rfl rfl rfl rfl rfl rfl rfl rfl rfl rfl rfl rfl rfl, (by first | rfl | kernel_rfl), ?_⟩) | (refine ⟨_, _, _, a_load_bp (gd_none rfl) rfl rfl rfl rfl rfl rfl rfl rfl rfl rfl rfl rfl, (by first | rfl | kernel_rfl), ?_⟩) | (refine ⟨_, _, _, a_load_ad (gd_none rfl) rfl rfl rfl rfl rfl rfl rfl rfl rfl, (by first | rfl | kernel_rfl), ?_⟩) | (refine ⟨_, _, _, a_load_ptr (gd_none rfl) rfl rfl rfl rfl rfl rfl rfl rfl rfl, (by first | rfl | kernel_rfl), ?_⟩) | (refine ⟨_, _, _, a_load_fld (gd_none rfl) rfl rfl rfl rfl rfl rfl rfl rfl rfl rfl rfl rfl rfl, (by first | rfl | kernel_rfl), ?_⟩) | (refine ⟨_, _, _, a_load_fullv (gd_none rfl) rfl rfl rfl rfl rfl rfl rfl rfl rfl, (by first | rfl | kernel_rfl), ?_⟩))
  (first | (refine ⟨_, _, _, a_len (gd_none rfl) rfl rfl rfl rfl rfl rfl rfl, (by first | rfl | kernel_rfl), ?_⟩) | (refine ⟨_, _, _, a_lenM (gd_none rfl) rfl rfl rfl rfl rfl rfl rfl, (by first | rfl | kernel_rfl), ?_⟩))
  (refine ⟨_, _, _, a_lss (gd_none rfl) rfl rfl rfl rfl rfl rfl, (by first | rfl | kernel_rfl), ?_⟩)
  show AWp _ _ _ _ _ _ _
  refine awp_cond rfl (fun hc => ?_) (fun hc => ?_)
  · simp only [List.length_map, decide_eq_true_eq] at hc
    have hkl : k < l.length := by omega
    obtain ⟨t, ht⟩ : ∃ t, l[k]? = some t := ⟨l[k], List.getElem?_eq_getElem hkl⟩
    refine awp_skip ?_
    show AWp _ _ _ _ _ _ _
    refine awp_seq (awp_block (awp_draw (by kernel_rfl) (by kernel_rfl) ?_))
    (first | (refine ⟨_, _, _, a_field_bp (gd_none rfl) rfl rfl rfl rfl rfl rfl rfl rfl rfl, (by first | rfl | kernel_rfl), ?_⟩) | (refine ⟨_, _, _, a_field_ad (gd_none rfl) rfl rfl rfl rfl rfl rfl rfl rfl rfl rfl rfl, (by first | rfl | kernel_rfl), ?_⟩) | (refine ⟨_, _, _, a_fieldM (gd_none rfl) rfl rfl rfl rfl rfl rfl rfl rfl rfl, (by first | rfl | kernel_rfl), ?_⟩))
    (first | (refine ⟨_, _, _, a_load_all (gd_none rfl) rfl rfl rfl rfl rfl rfl rfl rfl rfl rfl rfl rfl, (by first | rfl | kernel_rfl), ?_⟩) | (refine ⟨_, _, _, a_load_tok (gd_none rfl) rfl rfl rfl rfl rfl rfl rfl rfl rfl rfl rfl rfl rfl, (by first | rfl | kernel_rfl), ?_⟩) | (refine ⟨_, _, _, a_load_bp (gd_none rfl) rfl rfl rfl rfl rfl rfl rfl rfl rfl rfl rfl rfl, (by first | rfl | kernel_rfl), ?_⟩) | (refine ⟨_, _, _, a_load_ad (gd_none rfl) rfl rfl rfl rfl rfl rfl rfl rfl rfl, (by first | rfl | kernel_rfl), ?_⟩) | (refine ⟨_, _, _, a_load_ptr (gd_none rfl) rfl rfl rfl rfl rfl rfl rfl rfl rfl, (by first | rfl | kernel_rfl), ?_⟩) | (refine ⟨_, _, _, a_load_fld (gd_none rfl) rfl rfl rfl rfl rfl rfl rfl rfl rfl rfl rfl rfl rfl, (by first | rfl | kernel_rfl), ?_⟩) | (refine ⟨_, _, _, a_load_fullv (gd_none rfl) rfl rfl rfl rfl rfl rfl rfl rfl rfl, (by first | rfl | kernel_rfl), ?_⟩))
    (first | (refine ⟨_, _, _, a_field_bp (gd_none rfl) rfl rfl rfl rfl rfl rfl rfl rfl rfl, (by first | rfl | kernel_rfl), ?_⟩) | (refine ⟨_, _, _, a_field_ad (gd_none rfl) rfl rfl rfl rfl rfl rfl rfl rfl rfl rfl rfl, (by first | rfl | kernel_rfl), ?_⟩) | (refine ⟨_, _, _, a_fieldM (gd_none rfl) rfl rfl rfl rfl rfl rfl rfl rfl rfl, (by first | rfl | kernel_rfl), ?_⟩))
    (first | (refine ⟨_, _, _, a_load_all (gd_none rfl) rfl rfl rfl rfl rfl rfl rfl rfl rfl rfl rfl rfl, (by first | rfl | kernel_rfl), ?_⟩) | (refine ⟨_, _, _, a_load_tok (gd_none rfl) rfl rfl rfl rfl rfl rfl rfl rfl rfl rfl rfl rfl rfl, (by first | rfl | kernel_rfl), ?_⟩) | (refine ⟨_, _, _, a_load_bp (gd_none rfl) rfl rfl rfl rfl rfl rfl rfl rfl rfl rfl rfl rfl, (by first | rfl | kernel_rfl), ?_⟩) | (refine ⟨_, _, _, a_load_ad (gd_none rfl) rfl rfl rfl rfl rfl rfl rfl rfl rfl, (by first | rfl | kernel_rfl), ?_⟩) | (refine ⟨_, _, _, a_load_ptr (gd_none rfl) rfl rfl rfl rfl rfl rfl rfl rfl rfl, (by first | rfl | kernel_rfl), ?_⟩) | (refine ⟨_, _, _, a_load_fld (gd_none rfl) rfl rfl rfl rfl rfl rfl rfl rfl rfl rfl rfl rfl rfl, (by first | rfl | kernel_rfl), ?_⟩) | (refine ⟨_, _, _, a_load_fullv (gd_none rfl) rfl rfl rfl rfl rfl rfl rfl rfl rfl, (by first | rfl | kernel_rfl), ?_⟩))
    (refine ⟨_, _, _, a_move (gd_none rfl) rfl rfl rfl rfl rfl, (by first | rfl | kernel_rfl), ?_⟩)
    (refine ⟨_, _, _, a_index (j := _) (gd_none rfl) rfl rfl rfl rfl rfl rfl rfl rfl rfl (Tm.map_at ht) rfl (Tm.size_all l), (by first | rfl | kernel_rfl), ?_⟩)
    (first | (refine ⟨_, _, _, a_load_all (gd_none rfl) rfl rfl rfl rfl rfl rfl rfl rfl rfl rfl rfl rfl, (by first | rfl | kernel_rfl), ?_⟩) | (refine ⟨_, _, _, a_load_tok (gd_none rfl) rfl rfl rfl rfl rfl rfl rfl rfl rfl rfl rfl rfl rfl, (by first | rfl | kernel_rfl), ?_⟩) | (refine ⟨_, _, _, a_load_bp (gd_none rfl) rfl rfl rfl rfl rfl rfl rfl rfl rfl rfl rfl rfl, (by first | rfl | kernel_rfl), ?_⟩) | (refine ⟨_, _, _, a_load_ad (gd_none rfl) rfl rfl rfl rfl rfl rfl rfl rfl rfl, (by first | rfl | kernel_rfl), ?_⟩) | (refine ⟨_, _, _, a_load_ptr (gd_none rfl) rfl rfl rfl rfl rfl rfl rfl rfl rfl, (by first | rfl | kernel_rfl), ?_⟩) | (refine ⟨_, _, _, a_load_fld (gd_none rfl) rfl rfl rfl rfl rfl rfl rfl rfl rfl rfl rfl rfl rfl, (by first | rfl | kernel_rfl), ?_⟩) | (refine ⟨_, _, _, a_load_fullv (gd_none rfl) rfl rfl rfl rfl rfl rfl rfl rfl rfl, (by first | rfl | kernel_rfl), ?_⟩))
    (refine ⟨_, _, _, a_call (gd_none rfl) rfl rfl rfl rfl rfl ((ih t (List.mem_of_getElem? ht) (hok t (List.mem_of_getElem? ht))).up hW), (by first | rfl | kernel_rfl), ?_⟩)
    (refine ⟨_, _, _, a_bslice (gd_none rfl) rfl rfl rfl rfl rfl rfl rfl rfl rfl rfl rfl rfl rfl, (by first | rfl | kernel_rfl), ?_⟩)
    (first | (refine ⟨_, _, _, a_app (gd_none rfl) rfl rfl rfl rfl rfl rfl rfl rfl rfl rfl rfl rfl rfl rfl rfl (by first | assumption | exact szAll_spec rfl | exact Tm.size_all _ | exact Bd.size_all _ | exact ints_size _) (by first | assumption | exact szAll_spec rfl | exact Tm.size_all _ | exact Bd.size_all _ | exact ints_size _) (by first | omega | (simp only [List.length_map, List.length_append, List.length_cons, List.length_nil] <;> omega) | (simp <;> omega)), (by first | rfl | kernel_rfl), ?_⟩) | (refine ⟨_, _, _, a_app_nil (gd_none rfl) rfl rfl rfl rfl rfl rfl rfl rfl rfl rfl rfl (by first | assumption | exact szAll_spec rfl | exact Tm.size_all _ | exact Bd.size_all _ | exact ints_size _) (by first | assumption | exact szAll_spec rfl | exact Tm.size_all _ | exact Bd.size_all _ | exact ints_size _) (by first | omega | (simp only [List.length_map, List.length_append, List.length_cons, List.length_nil] <;> omega) | (simp <;> omega)), (by first | rfl | kernel_rfl), ?_⟩))
    (first | (refine ⟨_, _, _, a_field_bp (gd_none rfl) rfl rfl rfl rfl rfl rfl rfl rfl rfl, (by first | rfl | kernel_rfl), ?_⟩) | (refine ⟨_, _, _, a_field_ad (gd_none rfl) rfl rfl rfl rfl rfl rfl rfl rfl rfl rfl rfl, (by first | rfl | kernel_rfl), ?_⟩) | (refine ⟨_, _, _, a_fieldM (gd_none rfl) rfl rfl rfl rfl rfl rfl rfl rfl rfl, (by first | rfl | kernel_rfl), ?_⟩))
    (first | (refine ⟨_, _, _, a_store_all (gd_none rfl) rfl rfl rfl rfl rfl rfl rfl rfl rfl rfl, (by first | rfl | kernel_rfl), ?_⟩) | (refine ⟨_, _, _, a_store (gd_none rfl) rfl rfl rfl rfl rfl rfl rfl rfl rfl rfl, (by first | rfl | kernel_rfl), ?_⟩) | (refine ⟨_, _, _, a_store_fld (gd_none rfl) rfl rfl rfl rfl rfl rfl rfl rfl rfl rfl rfl rfl, (by first | rfl | kernel_rfl), ?_⟩))
    refine ⟨by kernel_rfl, ?_⟩
    show AWp _ _ _ _ _ _ _
    refine awp_region ?_
    (refine ⟨_, _, _, a_move (gd_none rfl) rfl rfl rfl rfl rfl, (by first | rfl | kernel_rfl), ?_⟩)
    (refine ⟨_, _, _, a_add (gd_none rfl) rfl rfl rfl rfl rfl rfl (by first | omega | (simp only [List.length_map, List.length_append, List.length_cons, List.length_nil] <;> omega) | (simp <;> omega)), (by first | rfl | kernel_rfl), ?_⟩)
    (refine ⟨_, _, _, a_assign (gd_none rfl) rfl rfl rfl rfl rfl, (by first | rfl | kernel_rfl), ?_⟩)
    refine ⟨hkl, Wk.trans (wk_sub (s' := [(1, .bp 1 0 []), (100001, .bx (Tm.cw ⟨f, l⟩)), (2, .bp 2 0 []), (100002, ⟨5, .row [.i 0, .lst []], 1, 0, [1]⟩), (3, .bp 3 0 []), (100003, ⟨5, .row [.i f, .lst ((l.take (k + 1)).map Tm.cv)], 300024, 0, [1]⟩), (300024, .tok 29 2), (4, .val (.i ((k + 1 : Nat) : Int)))]) ⟨rfl, rfl, rfl, rfl, rfl, ?_, rfl, rfl, trivial⟩) (wk_ren 300024 200024 rfl rfl rfl rfl)⟩
    rw [List.take_add_one, ht, List.map_append]
    simp only [Option.toList_some, List.map_cons, List.map_nil, Tm.cv_eq]
    rfl
  · refine awp_exit ?_
    show AWp _ _ _ _ _ _ _
    have hkl : k = l.length := by
      simp only [List.length_map, decide_eq_false_iff_not] at hc
      omega
    subst hkl
    rw [List.take_length]
    refine awp_seq (awp_region ?_)
    (first | (refine ⟨_, _, _, a_load_all (gd_none rfl) rfl rfl rfl rfl rfl rfl rfl rfl rfl rfl rfl rfl, (by first | rfl | kernel_rfl), ?_⟩) | (refine ⟨_, _, _, a_load_tok (gd_none rfl) rfl rfl rfl rfl rfl rfl rfl rfl rfl rfl rfl rfl rfl, (by first | rfl | kernel_rfl), ?_⟩) | (refine ⟨_, _, _, a_load_bp (gd_none rfl) rfl rfl rfl rfl rfl rfl rfl rfl rfl rfl rfl rfl, (by first | rfl | kernel_rfl), ?_⟩) | (refine ⟨_, _, _, a_load_ad (gd_none rfl) rfl rfl rfl rfl rfl rfl rfl rfl rfl, (by first | rfl | kernel_rfl), ?_⟩) | (refine ⟨_, _, _, a_load_ptr (gd_none rfl) rfl rfl rfl rfl rfl rfl rfl rfl rfl, (by first | rfl | kernel_rfl), ?_⟩) | (refine ⟨_, _, _, a_load_fld (gd_none rfl) rfl rfl rfl rfl rfl rfl rfl rfl rfl rfl rfl rfl rfl, (by first | rfl | kernel_rfl), ?_⟩) | (refine ⟨_, _, _, a_load_fullv (gd_none rfl) rfl rfl rfl rfl rfl rfl rfl rfl rfl, (by first | rfl | kernel_rfl), ?_⟩))
    (first | (refine ⟨_, _, _, a_store_all (gd_none rfl) rfl rfl rfl rfl rfl rfl rfl rfl rfl rfl, (by first | rfl | kernel_rfl), ?_⟩) | (refine ⟨_, _, _, a_store (gd_none rfl) rfl rfl rfl rfl rfl rfl rfl rfl rfl rfl, (by first | rfl | kernel_rfl), ?_⟩) | (refine ⟨_, _, _, a_store_fld (gd_none rfl) rfl rfl rfl rfl rfl rfl rfl rfl rfl rfl rfl rfl, (by first | rfl | kernel_rfl), ?_⟩))
    show AWp _ _ _ _ _ _ _
    exact awp_ret ⟨.inr rfl, rfl⟩
end Go.Proofs.Ytahkegkahhbalaa


namespace Go.Proofs.Ytahkegkahhbalaa
open Go.RowKit
set_option linter.unusedVariables false
set_option linter.unusedSimpArgs false
set_option maxRecDepth 100000
def fineBd (b : Bd) : Bool := decide (0 ≤ b.v) && (decide (b.v ≤ 1000) && decide (0 ≤ smallT b.t 20 10))
def fine7B (l : List Bd) : Bool := l.all fineBd && decide (l.length ≤ 8)
/-- What the document's Apply makes. -/
def appR (l : List Bd) : Tm → Tm
  | ⟨f, ts⟩ => if f < 0 then imgB l (-1 - f) else ⟨f, ts.map (appR l)⟩
end Go.Proofs.Ytahkegkahhbalaa


namespace Go.Proofs.Ytahkegkahhbalaa
set_option linter.unusedVariables false
set_option linter.unusedSimpArgs false
/-- Where it stands first. -/
def ixOf : List Int → Int → Nat
  | [], _ => 0
  | x :: l, v => if x = v then 0 else ixOf l v + 1
def zipB (a b : List Int) : List Bd := List.zipWith (fun v u => ⟨v, varT u⟩) a b
def nums (n : Nat) : List Int := (List.range n).map fun i : Nat => (i : Int)
/-- A term's numbers of variables, each once. -/
def Tm.nv (t : Tm) : List Int := nub t.vs
def canT (t : Tm) : Tm := repT (imgB (zipB t.nv (nums t.nv.length))) t
def vntB (a b : Tm) : Bool := decide (a.nv.length = b.nv.length) && sameT (repT (imgB (zipB a.nv b.nv)) a) b
end Go.Proofs.Ytahkegkahhbalaa


namespace Go.Proofs.Ytahkegkahhbalaa
open Go.RowKit
set_option linter.unusedVariables false
set_option linter.unusedSimpArgs false
set_option maxRecDepth 100000
/-- The part of a number. -/
def Tm.pa (t : Tm) (n : Int) : Option Tm := if 0 ≤ n then t.ps[n.toNat]? else none
/-- Does q stand at p's head? -/
def undB (p q : List Int) : Bool := decide (q = p.take q.length)
/-- What stands at a place. -/
def atP : List Int → Tm → Option Tm
  | [], t => some t
  | k :: ks, t => (t.pa k).bind (atP ks)
def stepP (p : List Int) (t : Tm) (k : Nat) : Tm := (atP (p.take k) t).getD ⟨0, []⟩
end Go.Proofs.Ytahkegkahhbalaa


namespace Go.Proofs.Ytahkegkahhbalaa
open Go.RowKit
set_option linter.unusedVariables false
set_option linter.unusedSimpArgs false
set_option maxRecDepth 100000
end Go.Proofs.Ytahkegkahhbalaa


namespace Go.Proofs.Ytahkegkahhbalaa
open Go.RowKit
set_option linter.unusedVariables false
set_option linter.unusedSimpArgs false
set_option maxRecDepth 100000

/-- Another term at a place. -/
def putP (u : Tm) : List Int → Tm → Option Tm
  | [], t => some u.strip
  | k :: ks, t => (t.pa k).bind fun s => (putP u ks s).map fun v => ⟨t.f, (t.l.take k.toNat).map Tm.strip ++ v :: (t.l.drop (k.toNat + 1)).map Tm.strip⟩
end Go.Proofs.Ytahkegkahhbalaa


namespace Go.Proofs.Ytahkegkahhbalaa
set_option linter.unusedVariables false
set_option linter.unusedSimpArgs false
theorem split_at {l : List Tm} {m : Nat} {s : Tm} (h : l[m]? = some s) : l = l.take m ++ s :: l.drop (m + 1) ∧ m < l.length := by
  have hm : m < l.length := by
    rcases Nat.lt_or_ge m l.length with h1 | h1
    · exact h1
    · rw [List.getElem?_eq_none h1] at h; cases h
  refine ⟨?_, hm⟩
  have e : l[m] = s := by rw [List.getElem?_eq_getElem hm] at h; exact Option.some.inj h
  rw [← e, ← List.drop_eq_getElem_cons hm, List.take_append_drop]
end Go.Proofs.Ytahkegkahhbalaa


namespace Go.Proofs.Ytahkegkahhbalaa
set_option linter.unusedVariables false
set_option linter.unusedSimpArgs false

/-- No variable stands more often in b than in a. -/
def cov (a b : Tm) : Prop := ∀ v, b.vs.count v ≤ a.vs.count v
/-- What sizes and variables say to what was seen within. -/
def ordV (z w : Int) : Int := if 0 < z then 1 else if z < 0 then -1 else w
noncomputable def pickV (o : Int) (c d : Prop) : Int :=
  haveI := Classical.propDecidable
  if (o = 1 ∧ ¬ c) ∨ (o = -1 ∧ ¬ d) then 2 else o
noncomputable def verd (z : Int) (c d : Prop) (w : Int) : Int := if w = 0 then 0 else pickV (ordV z w) c d
/-- Heads that differ. -/
def hdK (a b : Tm) : Int := if a.f < 0 ∨ b.f < 0 then 2 else if a.f ≠ b.f then cmpZ a.f b.f else cmpZ a.l.length b.l.length
noncomputable def firstK (k : Int) (r : Int) : Int := if k ≠ 0 then k else r
noncomputable def szD (a b : Tm) : Int := (a.size : Int) - b.size
noncomputable def kb (p : Tm) : Tm → Int :=
  Tm.rec (motive_1 := fun _ => Tm → Int) (motive_2 := fun _ => List Tm → Int)
    (fun f l ih t => verd (szD ⟨f, l⟩ t) (cov ⟨f, l⟩ t) (cov t ⟨f, l⟩) (if f ≠ t.f ∨ (Tm.mk f l).ps.length ≠ t.ps.length then hdK ⟨f, l⟩ t else if f < 0 then 0 else ih t.l))
    (fun _ => 0)
    (fun _ _ ih1 ih2 ts => match ts with | [] => 0 | t :: ts => firstK (ih1 t) (ih2 ts)) p
noncomputable def kbs (ps : List Tm) : List Tm → Int :=
  Tm.rec_1 (motive_1 := fun _ => Tm → Int) (motive_2 := fun _ => List Tm → Int)
    (fun f l ih t => verd (szD ⟨f, l⟩ t) (cov ⟨f, l⟩ t) (cov t ⟨f, l⟩) (if f ≠ t.f ∨ (Tm.mk f l).ps.length ≠ t.ps.length then hdK ⟨f, l⟩ t else if f < 0 then 0 else ih t.l))
    (fun _ => 0)
    (fun _ _ ih1 ih2 ts => match ts with | [] => 0 | t :: ts => firstK (ih1 t) (ih2 ts)) ps
noncomputable def wi (a b : Tm) : Int := if a.f ≠ b.f ∨ a.ps.length ≠ b.ps.length then hdK a b else kbs a.ps b.ps
theorem kbs_nil (ts : List Tm) : kbs [] ts = 0 := rfl
theorem kbs_cons (p : Tm) (ps : List Tm) (t : Tm) (ts : List Tm) : kbs (p :: ps) (t :: ts) = firstK (kb p t) (kbs ps ts) := rfl
theorem kb_eq (a b : Tm) : kb a b = verd (szD a b) (cov a b) (cov b a) (wi a b) := by
  cases a with
  | mk f l =>
    show verd _ _ _ _ = _
    congr 1
    unfold wi
    simp only
    split
    · rfl
    · rename_i h
      by_cases hf : f < 0
      · rw [if_pos hf, Tm.ps_of_var (t := ⟨f, l⟩) hf, kbs_nil]
      · rw [if_neg hf, Tm.ps_of_sym (t := ⟨f, l⟩) (by show 0 ≤ f; omega), Tm.ps_of_sym (t := b) (by have := Classical.not_not.1 (fun e => h (.inl e)); omega)]
        rfl

theorem verd_cases (z : Int) (c d : Prop) (w : Int) : (w = 0 ∧ verd z c d w = 0) ∨ (w ≠ 0 ∧ ∃ o, ((0 < z ∧ o = 1) ∨ (z < 0 ∧ o = -1) ∨ (z = 0 ∧ o = w)) ∧ ((verd z c d w = 2 ∧ ((o = 1 ∧ ¬ c) ∨ (o = -1 ∧ ¬ d))) ∨ (verd z c d w = o ∧ ¬ ((o = 1 ∧ ¬ c) ∨ (o = -1 ∧ ¬ d))))) := by
  unfold verd
  by_cases h0 : w = 0
  · left; exact ⟨h0, if_pos h0⟩
  · right
    refine ⟨h0, ordV z w, ?_, ?_⟩
    · unfold ordV
      by_cases h1 : 0 < z
      · rw [if_pos h1]; exact .inl ⟨h1, rfl⟩
      · rw [if_neg h1]
        by_cases h2 : z < 0
        · rw [if_pos h2]; exact .inr (.inl ⟨h2, rfl⟩)
        · rw [if_neg h2]; exact .inr (.inr ⟨by omega, rfl⟩)
    · rw [if_neg h0]
      generalize ordV z w = o
      unfold pickV
      by_cases h3 : (o = 1 ∧ ¬ c) ∨ (o = -1 ∧ ¬ d)
      · left; exact ⟨if_pos h3, h3⟩
      · right; exact ⟨if_neg h3, h3⟩
theorem verd_zero {z : Int} {c d : Prop} {w : Int} : verd z c d w = 0 ↔ w = 0 := by
  rcases verd_cases z c d w with ⟨h1, h2⟩ | ⟨h1, o, h2, ⟨h3, h4⟩ | ⟨h3, h4⟩⟩
  · exact ⟨fun _ => h1, fun _ => h2⟩
  · omega
  · omega
theorem verd_one {z : Int} {c d : Prop} {w : Int} : verd z c d w = 1 ↔ w ≠ 0 ∧ c ∧ (0 < z ∨ (z = 0 ∧ w = 1)) := by
  rcases verd_cases z c d w with ⟨h1, h2⟩ | ⟨h1, o, h2, ⟨h3, h4⟩ | ⟨h3, h4⟩⟩
  · constructor
    · intro h; omega
    · rintro ⟨h, _⟩; exact absurd h1 h
  · constructor
    · intro h; omega
    · rintro ⟨_, hc, h⟩
      have : o = 1 := by omega
      rcases h4 with h4 | h4
      · exact absurd hc h4.2
      · omega
  · constructor
    · intro h
      have ho : o = 1 := by omega
      exact ⟨h1, Classical.not_not.1 fun hc => h4 (.inl ⟨ho, hc⟩), by omega⟩
    · rintro ⟨_, hc, h⟩; omega
theorem verd_less {z : Int} {c d : Prop} {w : Int} : verd z c d w = -1 ↔ w ≠ 0 ∧ d ∧ (z < 0 ∨ (z = 0 ∧ w = -1)) := by
  rcases verd_cases z c d w with ⟨h1, h2⟩ | ⟨h1, o, h2, ⟨h3, h4⟩ | ⟨h3, h4⟩⟩
  · constructor
    · intro h; omega
    · rintro ⟨h, _⟩; exact absurd h1 h
  · constructor
    · intro h; omega
    · rintro ⟨_, hc, h⟩
      have : o = -1 := by omega
      rcases h4 with h4 | h4
      · omega
      · exact absurd hc h4.2
  · constructor
    · intro h
      have ho : o = -1 := by omega
      exact ⟨h1, Classical.not_not.1 fun hc => h4 (.inr ⟨ho, hc⟩), by omega⟩
    · rintro ⟨_, hc, h⟩; omega
/-- What can be told. -/
def K4 (k : Int) : Prop := k = 0 ∨ k = 1 ∨ k = -1 ∨ k = 2
theorem verd_four {z : Int} {c d : Prop} {w : Int} (h : K4 w) : K4 (verd z c d w) := by
  unfold K4 at *
  rcases verd_cases z c d w with ⟨h1, h2⟩ | ⟨h1, o, h2, ⟨h3, h4⟩ | ⟨h3, h4⟩⟩ <;> omega
theorem hd_four (a b : Tm) : K4 (hdK a b) := by
  unfold hdK K4
  split
  · omega
  · split
    · rcases cmpZ_cases a.f b.f with h | h | h <;> omega
    · rcases cmpZ_cases a.l.length b.l.length with h | h | h <;> omega
theorem hd_ne {a b : Tm} (h : a.f ≠ b.f ∨ a.ps.length ≠ b.ps.length) : hdK a b ≠ 0 := by
  unfold hdK
  split
  · omega
  · rename_i h1
    rw [Tm.ps_of_sym (t := a) (by omega), Tm.ps_of_sym (t := b) (by omega)] at h
    split
    · rcases cmpZ_cases a.f b.f with h2 | h2 | h2 <;> omega
    · rcases cmpZ_cases a.l.length b.l.length with h2 | h2 | h2 <;> omega
theorem kbs_four : ∀ {l m : List Tm}, (∀ s ∈ l, ∀ t, K4 (kb s t)) → K4 (kbs l m)
  | [], m, _ => .inl rfl
  | _ :: _, [], _ => .inl rfl
  | x :: l, y :: m, h => by
    rw [kbs_cons]
    unfold firstK
    split
    · exact h x (by simp) y
    · exact kbs_four fun s hs => h s (List.mem_cons_of_mem _ hs)
theorem kb_four (a : Tm) : ∀ b, K4 (kb a b) := by
  induction a using Tm.indp with
  | h a ih =>
    intro b
    rw [kb_eq]
    refine verd_four ?_
    unfold wi
    split
    · exact hd_four a b
    · exact kbs_four ih
theorem kbs_zero : ∀ {l m : List Tm}, l.length = m.length → (∀ s ∈ l, ∀ t, kb s t = 0 ↔ s.strip = t.strip) → (kbs l m = 0 ↔ l.map Tm.strip = m.map Tm.strip)
  | [], [], _, _ => by simp [kbs_nil]
  | [], _ :: _, h, _ => by simp at h
  | _ :: _, [], h, _ => by simp at h
  | x :: l, y :: m, h, ih => by
    rw [kbs_cons, List.map_cons, List.map_cons, List.cons.injEq, ← ih x (by simp) y, ← kbs_zero (by simpa using h) fun s hs => ih s (List.mem_cons_of_mem _ hs)]
    unfold firstK
    split
    · rename_i h1
      constructor
      · intro h2; exact absurd h2 h1
      · rintro ⟨h2, _⟩; exact h2
    · rename_i h1
      exact ⟨fun h2 => ⟨Classical.not_not.1 h1, h2⟩, fun h2 => h2.2⟩
theorem strip_eq_iff (a b : Tm) : a.strip = b.strip ↔ a.f = b.f ∧ a.ps.map Tm.strip = b.ps.map Tm.strip := by
  rw [Tm.strip_eq, Tm.strip_eq b, Tm.mk.injEq]
theorem kb_zero (a : Tm) : ∀ b, kb a b = 0 ↔ a.strip = b.strip := by
  induction a using Tm.indp with
  | h a ih =>
    intro b
    rw [kb_eq, verd_zero, strip_eq_iff]
    unfold wi
    split
    · rename_i h
      constructor
      · intro h1; exact absurd h1 (hd_ne h)
      · rintro ⟨h1, h2⟩
        have := congrArg List.length h2
        rw [List.length_map, List.length_map] at this
        omega
    · rename_i h
      have hf : a.f = b.f := by omega
      rw [kbs_zero (by omega) ih]
      exact ⟨fun h1 => ⟨hf, h1⟩, fun h1 => h1.2⟩
/-- When a is greater. -/
theorem kb_one (a b : Tm) : kb a b = 1 ↔ cov a b ∧ (b.size < a.size ∨ (a.size = b.size ∧ wi a b = 1)) := by
  rw [kb_eq, verd_one]
  unfold szD
  constructor
  · rintro ⟨h1, h2, h3⟩; exact ⟨h2, by omega⟩
  · rintro ⟨h1, h2⟩
    refine ⟨fun e => ?_, h1, by omega⟩
    have h3 : kb a b = 0 := by rw [kb_eq, verd_zero]; exact e
    have h4 := (kb_zero a b).1 h3
    have h5 : a.size = b.size := by rw [← Tm.strip_size, h4, Tm.strip_size]
    omega
theorem hd_turn (a b : Tm) (h : hdK a b ≠ 2) : hdK b a = - hdK a b := by
  unfold hdK at *
  by_cases h1 : a.f < 0 ∨ b.f < 0
  · rw [if_pos h1] at h; exact absurd rfl h
  · rw [if_neg h1, if_neg (by omega)]
    by_cases h2 : a.f = b.f
    · rw [if_neg (by omega), if_neg (by omega)]
      rcases cmpZ_cases a.l.length b.l.length with h3 | h3 | h3 <;> rcases cmpZ_cases b.l.length a.l.length with h4 | h4 | h4 <;> omega
    · rw [if_pos (by omega), if_pos h2]
      rcases cmpZ_cases a.f b.f with h3 | h3 | h3 <;> rcases cmpZ_cases b.f a.f with h4 | h4 | h4 <;> omega
theorem hd_turn2 (a b : Tm) (h : hdK a b = 2) : hdK b a = 2 := by
  unfold hdK at *
  by_cases h1 : a.f < 0 ∨ b.f < 0
  · rw [if_pos (by omega)]
  · rw [if_neg h1] at h
    exfalso
    split at h
    · rcases cmpZ_cases a.f b.f with h3 | h3 | h3 <;> omega
    · rcases cmpZ_cases a.l.length b.l.length with h3 | h3 | h3 <;> omega
/-- The other way round. -/
def trn (k : Int) : Int := if k = 2 then 2 else - k
theorem trn_four {k : Int} (h : K4 k) : (trn k = 0 ↔ k = 0) ∧ (trn k = 1 ↔ k = -1) ∧ (trn k = -1 ↔ k = 1) ∧ K4 (trn k) := by
  unfold trn K4 at *
  split <;> omega
theorem verd_turn {z : Int} {c d : Prop} {w : Int} (h : K4 w) : verd (-z) d c (trn w) = trn (verd z c d w) := by
  have h1 := verd_four (z := z) (c := c) (d := d) h
  have t0 := trn_four h
  have h2 := verd_four (z := -z) (c := d) (d := c) t0.2.2.2
  have t1 := trn_four h1
  have a0 := @verd_zero z c d w
  have a1 := @verd_one z c d w
  have a2 := @verd_less z c d w
  have b0 := @verd_zero (-z) d c (trn w)
  have b1 := @verd_one (-z) d c (trn w)
  have b2 := @verd_less (-z) d c (trn w)
  generalize verd (-z) d c (trn w) = y at *
  generalize verd z c d w = x at *
  have e0 : y = 0 ↔ x = 0 := by rw [b0, a0]; exact t0.1
  have e1 : y = 1 ↔ x = -1 := by
    rw [b1, a2]
    constructor
    · rintro ⟨g1, g2, g3⟩; exact ⟨fun e => g1 (t0.1.2 e), g2, by rcases g3 with g3 | ⟨g3, g4⟩; · omega
                                                                 · exact .inr ⟨by omega, t0.2.1.1 g4⟩⟩
    · rintro ⟨g1, g2, g3⟩; exact ⟨fun e => g1 (t0.1.1 e), g2, by rcases g3 with g3 | ⟨g3, g4⟩; · omega
                                                                 · exact .inr ⟨by omega, t0.2.1.2 g4⟩⟩
  have e2 : y = -1 ↔ x = 1 := by
    rw [b2, a1]
    constructor
    · rintro ⟨g1, g2, g3⟩; exact ⟨fun e => g1 (t0.1.2 e), g2, by rcases g3 with g3 | ⟨g3, g4⟩; · omega
                                                                 · exact .inr ⟨by omega, t0.2.2.1.1 g4⟩⟩
    · rintro ⟨g1, g2, g3⟩; exact ⟨fun e => g1 (t0.1.1 e), g2, by rcases g3 with g3 | ⟨g3, g4⟩; · omega
                                                                 · exact .inr ⟨by omega, t0.2.2.1.2 g4⟩⟩
  unfold trn
  unfold K4 at h1 h2
  split <;> omega
theorem kbs_turn : ∀ {l m : List Tm}, l.length = m.length → (∀ s ∈ l, ∀ t, kb t s = trn (kb s t)) → kbs m l = trn (kbs l m)
  | [], [], _, _ => by rw [kbs_nil]; rfl
  | [], _ :: _, h, _ => by simp at h
  | _ :: _, [], h, _ => by simp at h
  | x :: l, y :: m, h, ih => by
    rw [kbs_cons, kbs_cons, ih x (by simp) y, kbs_turn (by simpa using h) fun s hs => ih s (List.mem_cons_of_mem _ hs)]
    have := (trn_four (kb_four x y)).1
    unfold firstK
    by_cases h1 : kb x y = 0
    · rw [if_neg (fun e => e (this.2 h1)), if_neg (by omega)]
    · rw [if_pos (fun e => h1 (this.1 e)), if_pos h1]
theorem kb_turn (a : Tm) : ∀ b, kb b a = trn (kb a b) := by
  induction a using Tm.indp with
  | h a ih =>
    intro b
    rw [kb_eq, kb_eq a]
    have h1 : szD b a = - szD a b := by unfold szD; omega
    have h4 : K4 (wi a b) := by
      unfold wi
      split
      · exact hd_four a b
      · exact kbs_four fun s _ t => kb_four s t
    rw [h1, ← verd_turn h4]
    congr 1
    unfold wi
    by_cases h : a.f ≠ b.f ∨ a.ps.length ≠ b.ps.length
    · rw [if_pos h, if_pos (by omega)]
      unfold trn
      split
      · rename_i h2; exact hd_turn2 a b h2
      · rename_i h2; exact hd_turn a b h2
    · rw [if_neg h, if_neg (by omega)]
      exact kbs_turn (by omega) ih
end Go.Proofs.Ytahkegkahhbalaa


namespace Go.Proofs.Ytahkegkahhbalaa
set_option linter.unusedVariables false
set_option linter.unusedSimpArgs false

structure Sc where
  sz : Int
  mp : List (Int × Int)
  sp : Int
  lk : Int
def mfind : List (Int × Int) → Int → Option Int
  | [], _ => none
  | (k, x) :: l, v => if k = v then some x else mfind l v
def mget (l : List (Int × Int)) (v : Int) : Int := (mfind l v).getD 0
def mput : List (Int × Int) → Int → Int → List (Int × Int)
  | [], v, y => [(v, y)]
  | (k, x) :: l, v, y => if k = v then (v, y) :: l else (k, x) :: mput l v y
theorem mput_ne (l : List (Int × Int)) (v y : Int) : mput l v y ≠ [] := by
  cases l with
  | nil => simp [mput]
  | cons p l =>
    obtain ⟨k, x⟩ := p
    rw [mput]
    split <;> simp
theorem mfind_put (l : List (Int × Int)) (v y u : Int) : mfind (mput l v y) u = if v = u then some y else mfind l u := by
  induction l with
  | nil => rfl
  | cons p l ih =>
    obtain ⟨k, x⟩ := p
    rw [mput]
    by_cases h : k = v
    · rw [if_pos h, mfind, mfind]
      by_cases h2 : v = u
      · rw [if_pos h2, if_pos h2]
      · rw [if_neg h2, if_neg h2, if_neg (by omega)]
    · rw [if_neg h, mfind, mfind]
      by_cases h2 : k = u
      · rw [if_pos h2, if_pos h2, if_neg (by omega)]
      · rw [if_neg h2, if_neg h2, ih]
theorem mget_put (l : List (Int × Int)) (v y u : Int) : mget (mput l v y) u = if v = u then y else mget l u := by
  unfold mget
  rw [mfind_put]
  split <;> rfl
def addV (s : Sc) (v σ : Int) : Sc := ⟨s.sz, mput s.mp v (mget s.mp v + σ), s.sp + (max (mget s.mp v + σ) 0 - max (mget s.mp v) 0), s.lk + (max (-(mget s.mp v + σ)) 0 - max (-(mget s.mp v)) 0)⟩
/-- One symbol or variable more. -/
def addN (σ : Int) (s : Sc) (t : Tm) : Sc := if t.f < 0 then addV ⟨s.sz + σ, s.mp, s.sp, s.lk⟩ (-1 - t.f) σ else ⟨s.sz + σ, s.mp, s.sp, s.lk⟩
def addT (σ : Int) (s : Sc) (t : Tm) : Sc := t.flat.foldl (addN σ) s
def addL (σ : Int) (s : Sc) (l : List Tm) : Sc := (l.flatMap Tm.flat).foldl (addN σ) s
theorem addT_var {σ : Int} {s : Sc} {t : Tm} (h : t.f < 0) : addT σ s t = addV ⟨s.sz + σ, s.mp, s.sp, s.lk⟩ (-1 - t.f) σ := by
  unfold addT
  rw [Tm.flat_eq, Tm.ps_of_var h]
  show addN σ s t = _
  unfold addN
  rw [if_pos h]
theorem addT_sym {σ : Int} {s : Sc} {t : Tm} (h : ¬ t.f < 0) : addT σ s t = addL σ ⟨s.sz + σ, s.mp, s.sp, s.lk⟩ t.l := by
  unfold addT addL
  rw [Tm.flat_eq, Tm.ps_of_sym (by omega), List.foldl_cons]
  congr 1
  unfold addN
  rw [if_neg h]
theorem addL_take {σ : Int} {s : Sc} {l : List Tm} {k : Nat} {t : Tm} (h : l[k]? = some t) : addL σ s (l.take (k + 1)) = addT σ (addL σ s (l.take k)) t := by
  unfold addL addT
  rw [List.take_add_one, h, List.flatMap_append, List.foldl_append]
  simp
/-- Sums over rows. -/
def upS (l : List (Int × Int)) : Int := (l.map fun p => max p.2 0).sum
def dnS (l : List (Int × Int)) : Int := (l.map fun p => max (-p.2) 0).sum
def ndk (l : List (Int × Int)) : Prop := (l.map (·.1)).Nodup
theorem mfind_none {l : List (Int × Int)} {v : Int} (h : v ∉ l.map (·.1)) : mfind l v = none := by
  induction l with
  | nil => rfl
  | cons p l ih =>
    obtain ⟨k, x⟩ := p
    rw [List.map_cons, List.mem_cons, not_or] at h
    rw [mfind, if_neg (fun e => h.1 e.symm), ih h.2]
theorem keys_put {l : List (Int × Int)} {v y u : Int} (h : u ∈ (mput l v y).map (·.1)) : u = v ∨ u ∈ l.map (·.1) := by
  induction l with
  | nil => simp [mput] at h; exact .inl h
  | cons p l ih =>
    obtain ⟨k, x⟩ := p
    rw [mput] at h
    split at h
    · rename_i e
      rw [List.map_cons, List.mem_cons] at h ⊢
      rcases h with h | h
      · exact .inl h
      · exact .inr (.inr h)
    · rw [List.map_cons, List.mem_cons] at h ⊢
      rcases h with h | h
      · exact .inr (.inl h)
      · rcases ih h with h | h
        · exact .inl h
        · exact .inr (.inr h)
theorem ndk_put {l : List (Int × Int)} (h : ndk l) (v y : Int) : ndk (mput l v y) ∧ upS (mput l v y) = upS l + (max y 0 - max (mget l v) 0) ∧ dnS (mput l v y) = dnS l + (max (-y) 0 - max (-(mget l v)) 0) := by
  induction l with
  | nil => exact ⟨by simp [mput, ndk], by simp [mput, upS, mget, mfind], by simp [mput, dnS, mget, mfind]⟩
  | cons p l ih =>
    obtain ⟨k, x⟩ := p
    unfold ndk at h
    rw [List.map_cons, List.nodup_cons] at h
    rw [mput]
    by_cases e : k = v
    · rw [if_pos e]
      have hg : mget ((k, x) :: l) v = x := by unfold mget mfind; rw [if_pos e]; rfl
      rw [hg]
      refine ⟨by unfold ndk; rw [List.map_cons, List.nodup_cons]; exact e ▸ h, ?_, ?_⟩
      · simp only [upS, List.map_cons, List.sum_cons]; omega
      · simp only [dnS, List.map_cons, List.sum_cons]; omega
    · rw [if_neg e]
      have hg : mget ((k, x) :: l) v = mget l v := by unfold mget; rw [mfind, if_neg e]
      obtain ⟨h1, h2, h3⟩ := ih h.2
      rw [hg]
      refine ⟨?_, ?_, ?_⟩
      · unfold ndk
        rw [List.map_cons, List.nodup_cons]
        refine ⟨fun hm => ?_, h1⟩
        rcases keys_put hm with hm | hm
        · exact e hm
        · exact h.1 hm
      · unfold upS at h2 ⊢; rw [List.map_cons, List.sum_cons, h2, List.map_cons, List.sum_cons]; omega
      · unfold dnS at h3 ⊢; rw [List.map_cons, List.sum_cons, h3, List.map_cons, List.sum_cons]; omega
theorem ups_zero {l : List (Int × Int)} (h : ndk l) : 0 ≤ upS l ∧ (upS l = 0 ↔ ∀ v, mget l v ≤ 0) := by
  induction l with
  | nil => exact ⟨by simp [upS], by simp [upS, mget, mfind]⟩
  | cons p l ih =>
    obtain ⟨k, x⟩ := p
    unfold ndk at h
    rw [List.map_cons, List.nodup_cons] at h
    obtain ⟨h1, h2⟩ := ih h.2
    have e : upS ((k, x) :: l) = max x 0 + upS l := by simp [upS]
    rw [e]
    refine ⟨by omega, ?_⟩
    constructor
    · intro h3 v
      have h4 := h2.1 (by omega) v
      unfold mget at h4 ⊢
      rw [mfind]
      split
      · show x ≤ 0; omega
      · exact h4
    · intro h3
      have hx := h3 k
      unfold mget at hx
      rw [mfind, if_pos rfl] at hx
      have hx : x ≤ 0 := hx
      have := h2.2 fun v => by
        by_cases hv : k = v
        · subst hv
          unfold mget
          rw [mfind_none h.1]
          exact Int.le_refl 0
        · have := h3 v
          unfold mget at this ⊢
          rw [mfind, if_neg hv] at this
          exact this
      omega
theorem dns_zero {l : List (Int × Int)} (h : ndk l) : 0 ≤ dnS l ∧ (dnS l = 0 ↔ ∀ v, 0 ≤ mget l v) := by
  induction l with
  | nil => exact ⟨by simp [dnS], by simp [dnS, mget, mfind]⟩
  | cons p l ih =>
    obtain ⟨k, x⟩ := p
    unfold ndk at h
    rw [List.map_cons, List.nodup_cons] at h
    obtain ⟨h1, h2⟩ := ih h.2
    have e : dnS ((k, x) :: l) = max (-x) 0 + dnS l := by simp [dnS]
    rw [e]
    refine ⟨by omega, ?_⟩
    constructor
    · intro h3 v
      have h4 := h2.1 (by omega) v
      unfold mget at h4 ⊢
      rw [mfind]
      split
      · show 0 ≤ x; omega
      · exact h4
    · intro h3
      have hx := h3 k
      unfold mget at hx
      rw [mfind, if_pos rfl] at hx
      have hx : 0 ≤ x := hx
      have := h2.2 fun v => by
        by_cases hv : k = v
        · subst hv
          unfold mget
          rw [mfind_none h.1]
          exact Int.le_refl 0
        · have := h3 v
          unfold mget at this ⊢
          rw [mfind, if_neg hv] at this
          exact this
      omega
/-- What the scales say: the sizes' difference, and each variable's. -/
structure Ss (s : Sc) (z : Int) (D : Int → Int) : Prop where
  sz : s.sz = z
  nd : ndk s.mp
  sp : s.sp = upS s.mp
  lk : s.lk = dnS s.mp
  at_ : ∀ v, mget s.mp v = D v
theorem Ss.addV {s : Sc} {z : Int} {D : Int → Int} (h : Ss s z D) (v σ : Int) : Ss (addV s v σ) z (fun u => D u + if v = u then σ else 0) := by
  obtain ⟨h1, h2, h3⟩ := ndk_put h.nd v (mget s.mp v + σ)
  refine ⟨h.sz, h1, ?_, ?_, fun u => ?_⟩
  · show s.sp + _ = upS (mput _ _ _); rw [h2, h.sp]
  · show s.lk + _ = dnS (mput _ _ _); rw [h3, h.lk]
  · show mget (mput _ _ _) u = _
    rw [mget_put]
    split
    · rename_i e; subst e; rw [h.at_]
    · rw [h.at_]; omega
theorem addN_var {σ : Int} {s : Sc} {t : Tm} (h : t.f < 0) : addN σ s t = addV ⟨s.sz + σ, s.mp, s.sp, s.lk⟩ (-1 - t.f) σ := if_pos h
theorem addN_sym {σ : Int} {s : Sc} {t : Tm} (h : ¬ t.f < 0) : addN σ s t = ⟨s.sz + σ, s.mp, s.sp, s.lk⟩ := if_neg h
theorem Ss.fold {σ : Int} : ∀ {l : List Tm} {s : Sc} {z : Int} {D : Int → Int}, Ss s z D → Ss (l.foldl (addN σ) s) (z + σ * l.length) (fun v => D v + σ * ((vsL l).count v : Int))
  | [], s, z, D, h => by
    refine ⟨by show s.sz = _; rw [h.sz]; simp, h.nd, h.sp, h.lk, fun v => ?_⟩
    show mget s.mp v = _
    rw [h.at_]; simp [vsL]
  | t :: l, s, z, D, h => by
    rw [List.foldl_cons]
    have h0 : Ss ⟨s.sz + σ, s.mp, s.sp, s.lk⟩ (z + σ) D := ⟨by show s.sz + σ = _; rw [h.sz], h.nd, h.sp, h.lk, h.at_⟩
    have e1 : σ * ((t :: l).length : Int) = σ + σ * (l.length : Int) := by
      rw [List.length_cons]; push_cast; rw [Int.mul_add]; omega
    by_cases hf : t.f < 0
    · have h1 := (h0.addV (-1 - t.f) σ).fold (σ := σ) (l := l)
      rw [addN_var hf]
      refine ⟨?_, h1.nd, h1.sp, h1.lk, fun v => ?_⟩
      · rw [h1.sz, e1]; omega
      · rw [h1.at_]
        have e2 : (vsL (t :: l)).count v = (if -1 - t.f = v then 1 else 0) + (vsL l).count v := by
          unfold vsL
          rw [List.filter_cons, if_pos (by simpa using hf), List.map_cons, List.count_cons]
          simp only [beq_iff_eq]
          omega
        rw [e2]
        split
        · push_cast; rw [Int.mul_add]; omega
        · push_cast; rw [Int.mul_add]; omega
    · have h1 := h0.fold (σ := σ) (l := l)
      rw [addN_sym hf]
      refine ⟨?_, h1.nd, h1.sp, h1.lk, fun v => ?_⟩
      · rw [h1.sz, e1]; omega
      · rw [h1.at_]
        have e2 : vsL (t :: l) = vsL l := by
          unfold vsL
          rw [List.filter_cons, if_neg (by simpa using hf)]
        rw [e2]
end Go.Proofs.Ytahkegkahhbalaa


namespace Go.Proofs.Ytahkegkahhbalaa
open Go.RowKit
set_option linter.unusedVariables false
set_option linter.unusedSimpArgs false
set_option maxRecDepth 100000

section
variable {α : Type} (lt : α → α → Bool) (a : Nat)
/-- The element at j goes down as long as it is less. -/
def sink : Nat → List α → List α
  | 0, L => L
  | j + 1, L => match L[j + 1]?, L[j]? with
    | some x, some y => if a < j + 1 ∧ lt x y = true then sink j ((L.set (j + 1) y).set j x) else L
    | _, _ => L
def isortN : Nat → Nat → List α → List α
  | 0, _, L => L
  | n + 1, i, L => isortN n (i + 1) (sink lt a i L)
end

def ltC (cmp : Bd → Bd → Int) (x y : Bd) : Bool := decide (cmp x y < 0)
end Go.Proofs.Ytahkegkahhbalaa


namespace Go.Proofs.Ytahkegkahhbalaa
open Go.RowKit
set_option linter.unusedVariables false
set_option linter.unusedSimpArgs false
set_option maxRecDepth 100000

theorem cmp_abs (W : World) (x y : Int) : AFun Try.prog W 66 [.i x, .i y] (.val (.i (cmpZ x y))) := by
  refine ⟨ent_of Try.func66 rfl rfl, .inl rfl, rfl, ?_⟩
  rintro U w vs hW ⟨u1, us1, rfl, h1, u2, us2, rfl, h2, h3⟩
  have h3 : us2 = [] := h3
  subst h3
  obtain ⟨rfl, _⟩ := vrep_sc.1 h1
  obtain ⟨rfl, _⟩ := vrep_sc.1 h2
  refine (cmpInt_any x y w).mono ?_
  rintro e w' ⟨rfl, hb⟩
  exact ⟨_, rfl, vrep_sc.2 ⟨rfl, rfl⟩, hb⟩

def cmpB (x y : Bd) : Int := cmpZ x.v y.v
/-- A variable that is bound to itself. -/
def idleB (b : Bd) : Bool := decide (b.t.f < 0) && decide (-1 - b.t.f = b.v)
/-- The first one of which it is true. -/
def idxB (q : Bd → Bool) : List Bd → Nat → Int
  | [], _ => -1
  | b :: l, i => if q b then (i : Int) else idxB q l (i + 1)
end Go.Proofs.Ytahkegkahhbalaa


namespace Go.Proofs.Ytahkegkahhbalaa
open Go.RowKit
set_option linter.unusedVariables false
set_option linter.unusedSimpArgs false
set_option maxRecDepth 100000

noncomputable def mrv (p : Int × Int) : CV := .row [.i p.1, .i p.2]
theorem mr_keys (l : List (Int × Int)) : IntKeys .i64 (l.map mrv) := fun r hr => by
  obtain ⟨p, _, rfl⟩ := List.mem_map.1 hr
  exact ⟨p.1, .i p.2, rfl⟩
theorem mr_look (l : List (Int × Int)) (v : Int) : lookR .i64 v (l.map mrv) = (mfind l v).map CV.i := by
  induction l with
  | nil => rfl
  | cons p l ih =>
    obtain ⟨k, x⟩ := p
    rw [List.map_cons, mrv, lookR_row, mfind]
    split
    · rfl
    · exact ih
theorem mr_get (l : List (Int × Int)) (v : Int) : (lookR .i64 v (l.map mrv)).getD (.sc (.int .i64 0)) = .i (mget l v) := by
  rw [mr_look]
  unfold mget
  cases mfind l v <;> rfl
theorem mr_put (l : List (Int × Int)) (v y : Int) : putR .i64 v (.i y) (l.map mrv) = (mput l v y).map mrv := by
  induction l with
  | nil => rfl
  | cons p l ih =>
    obtain ⟨k, x⟩ := p
    rw [List.map_cons, mrv, putR_row, mput]
    split
    · rfl
    · rw [List.map_cons, ih]; rfl
/-- The map of variables: nil until the first one comes. -/
noncomputable def mB (l : List (Int × Int)) : AV := ⟨if l = [] then 17 else 14, .lst (l.map mrv), 0, 0, []⟩
noncomputable abbrev sst (s : Sc) : AS := [(450001, .obj), (35500100, .val (.i s.sz)), (35500101, .mref 300001), (35500102, .val (.i s.sp)), (35500103, .val (.i s.lk)), (300001, mB s.mp)]
noncomputable abbrev sstN (z p k : Int) : AS := [(450001, .obj), (35500100, .val (.i z)), (35500101, .mref 300001), (35500102, .val (.i p)), (35500103, .val (.i k)), (300001, .nmap)]
noncomputable abbrev sstM (z : Int) (l : List (Int × Int)) (p k : Int) : AS := [(450001, .obj), (35500100, .val (.i z)), (35500101, .mref 300001), (35500102, .val (.i p)), (35500103, .val (.i k)), (300001, .mp (l.map mrv))]
theorem sst_N {s : Sc} (h : s.mp = []) : sst s = sstN s.sz s.sp s.lk := by simp only [sst, mB, h, if_true]; rfl
theorem sst_M {s : Sc} (h : s.mp ≠ []) : sst s = sstM s.sz s.mp s.sp s.lk := by simp only [sst, mB, if_neg h]
theorem sst_lend (s : Sc) : (sst s).all lendB = true := by
  by_cases h : s.mp = []
  · rw [sst_N h]; kernel_rfl
  · rw [sst_M h]; kernel_rfl
theorem sst_leave (s : Sc) : (sst s).all (leaveB (keysOf (sst s))) = true := by
  by_cases h : s.mp = []
  · rw [sst_N h]; kernel_rfl
  · rw [sst_M h]; kernel_rfl
/-- Nothing on the scales is greater than n. -/
structure Bds (s : Sc) (n : Nat) : Prop where
  sz : -(n : Int) ≤ s.sz ∧ s.sz ≤ n
  sp : -(n : Int) ≤ s.sp ∧ s.sp ≤ n
  lk : -(n : Int) ≤ s.lk ∧ s.lk ≤ n
  at_ : ∀ v, -(n : Int) ≤ mget s.mp v ∧ mget s.mp v ≤ n
theorem Bds.node {s : Sc} {n : Nat} {σ : Int} (h : Bds s n) (hσ : σ = 1 ∨ σ = -1) (t : Tm) : Bds (addN σ s t) (n + 1) := by
  obtain ⟨h1, h2, h3, h4⟩ := h
  unfold addN
  split
  · unfold addV
    have := h4 (-1 - t.f)
    refine ⟨by show _ ≤ s.sz + σ ∧ s.sz + σ ≤ _; omega, by simp only; omega, by simp only; omega, fun v => ?_⟩
    simp only
    rw [mget_put]
    have := h4 v
    split <;> omega
  · exact ⟨by show _ ≤ s.sz + σ ∧ s.sz + σ ≤ _; omega, by simp only; omega, by simp only; omega, fun v => by have := h4 v; simp only; omega⟩
theorem Bds.fold {σ : Int} (hσ : σ = 1 ∨ σ = -1) : ∀ {l : List Tm} {s : Sc} {n : Nat}, Bds s n → Bds (l.foldl (addN σ) s) (n + l.length)
  | [], s, n, h => h
  | t :: l, s, n, h => by
    rw [List.foldl_cons, List.length_cons, show n + (l.length + 1) = n + 1 + l.length by omega]
    exact (h.node hσ t).fold hσ
theorem Bds.addL {σ : Int} (hσ : σ = 1 ∨ σ = -1) {l : List Tm} {s : Sc} {n : Nat} (h : Bds s n) : Bds (addL σ s l) (n + (l.flatMap Tm.flat).length) := h.fold hσ
theorem Bds.addT {σ : Int} (hσ : σ = 1 ∨ σ = -1) {t : Tm} {s : Sc} {n : Nat} (h : Bds s n) : Bds (addT σ s t) (n + t.size) := h.fold hσ

-- 
theorem kIsVar_abs (W : World) (t : Tm) : AFun Try.prog W 52 [t.cw] (.val (.b (decide (t.f < 0)))) := by
  refine afun_of (rs := [.b (decide (t.f < 0))]) Try.func52 Try.ntmps52 rfl rfl rfl rfl ?_
  intro w U hW
  refine awp_seq (awp_region ?_)
  (refine ⟨_, _, _, a_box (gd_none rfl) rfl rfl rfl rfl rfl, (by first | rfl | kernel_rfl), ?_⟩)
  (refine ⟨_, _, _, a_assign (gd_none rfl) rfl rfl rfl rfl rfl, (by first | rfl | kernel_rfl), ?_⟩)
  show AWp _ _ _ _ _ _ _
  refine awp_seq (awp_region ?_)
  (first | (refine ⟨_, _, _, a_field_bp (gd_none rfl) rfl rfl rfl rfl rfl rfl rfl rfl rfl, (by first | rfl | kernel_rfl), ?_⟩) | (refine ⟨_, _, _, a_field_ad (gd_none rfl) rfl rfl rfl rfl rfl rfl rfl rfl rfl rfl rfl, (by first | rfl | kernel_rfl), ?_⟩) | (refine ⟨_, _, _, a_fieldM (gd_none rfl) rfl rfl rfl rfl rfl rfl rfl rfl rfl, (by first | rfl | kernel_rfl), ?_⟩))
  (first | (refine ⟨_, _, _, a_load_all (gd_none rfl) rfl rfl rfl rfl rfl rfl rfl rfl rfl rfl rfl rfl, (by first | rfl | kernel_rfl), ?_⟩) | (refine ⟨_, _, _, a_load_tok (gd_none rfl) rfl rfl rfl rfl rfl rfl rfl rfl rfl rfl rfl rfl rfl, (by first | rfl | kernel_rfl), ?_⟩) | (refine ⟨_, _, _, a_load_bp (gd_none rfl) rfl rfl rfl rfl rfl rfl rfl rfl rfl rfl rfl rfl, (by first | rfl | kernel_rfl), ?_⟩) | (refine ⟨_, _, _, a_load_ad (gd_none rfl) rfl rfl rfl rfl rfl rfl rfl rfl rfl, (by first | rfl | kernel_rfl), ?_⟩) | (refine ⟨_, _, _, a_load_ptr (gd_none rfl) rfl rfl rfl rfl rfl rfl rfl rfl rfl, (by first | rfl | kernel_rfl), ?_⟩) | (refine ⟨_, _, _, a_load_fld (gd_none rfl) rfl rfl rfl rfl rfl rfl rfl rfl rfl rfl rfl rfl rfl, (by first | rfl | kernel_rfl), ?_⟩) | (refine ⟨_, _, _, a_load_fullv (gd_none rfl) rfl rfl rfl rfl rfl rfl rfl rfl rfl, (by first | rfl | kernel_rfl), ?_⟩))
  (refine ⟨_, _, _, a_lss (gd_none rfl) rfl rfl rfl rfl rfl rfl, (by first | rfl | kernel_rfl), ?_⟩)
  (refine ⟨_, _, _, a_assign (gd_none rfl) rfl rfl rfl rfl rfl, (by first | rfl | kernel_rfl), ?_⟩)
  show AWp _ _ _ _ _ _ _
  exact awp_ret ⟨.inr rfl, rfl⟩
-- 
theorem kNumber_abs (W : World) (t : Tm) (h1 : -9223372036854775808 ≤ t.f) (h2 : t.f < 0) : AFun Try.prog W 54 [t.cw] (.val (.i (-1 - t.f))) := by
  refine afun_of (rs := [.i (-1 - t.f)]) Try.func54 Try.ntmps54 rfl rfl rfl rfl ?_
  intro w U hW
  refine awp_seq (awp_region ?_)
  (refine ⟨_, _, _, a_box (gd_none rfl) rfl rfl rfl rfl rfl, (by first | rfl | kernel_rfl), ?_⟩)
  (refine ⟨_, _, _, a_assign (gd_none rfl) rfl rfl rfl rfl rfl, (by first | rfl | kernel_rfl), ?_⟩)
  show AWp _ _ _ _ _ _ _
  refine awp_seq (awp_region ?_)
  (first | (refine ⟨_, _, _, a_field_bp (gd_none rfl) rfl rfl rfl rfl rfl rfl rfl rfl rfl, (by first | rfl | kernel_rfl), ?_⟩) | (refine ⟨_, _, _, a_field_ad (gd_none rfl) rfl rfl rfl rfl rfl rfl rfl rfl rfl rfl rfl, (by first | rfl | kernel_rfl), ?_⟩) | (refine ⟨_, _, _, a_fieldM (gd_none rfl) rfl rfl rfl rfl rfl rfl rfl rfl rfl, (by first | rfl | kernel_rfl), ?_⟩))
  (first | (refine ⟨_, _, _, a_load_all (gd_none rfl) rfl rfl rfl rfl rfl rfl rfl rfl rfl rfl rfl rfl, (by first | rfl | kernel_rfl), ?_⟩) | (refine ⟨_, _, _, a_load_tok (gd_none rfl) rfl rfl rfl rfl rfl rfl rfl rfl rfl rfl rfl rfl rfl, (by first | rfl | kernel_rfl), ?_⟩) | (refine ⟨_, _, _, a_load_bp (gd_none rfl) rfl rfl rfl rfl rfl rfl rfl rfl rfl rfl rfl rfl, (by first | rfl | kernel_rfl), ?_⟩) | (refine ⟨_, _, _, a_load_ad (gd_none rfl) rfl rfl rfl rfl rfl rfl rfl rfl rfl, (by first | rfl | kernel_rfl), ?_⟩) | (refine ⟨_, _, _, a_load_ptr (gd_none rfl) rfl rfl rfl rfl rfl rfl rfl rfl rfl, (by first | rfl | kernel_rfl), ?_⟩) | (refine ⟨_, _, _, a_load_fld (gd_none rfl) rfl rfl rfl rfl rfl rfl rfl rfl rfl rfl rfl rfl rfl, (by first | rfl | kernel_rfl), ?_⟩) | (refine ⟨_, _, _, a_load_fullv (gd_none rfl) rfl rfl rfl rfl rfl rfl rfl rfl rfl, (by first | rfl | kernel_rfl), ?_⟩))
  (refine ⟨_, _, _, a_sub (gd_none rfl) rfl rfl rfl rfl rfl rfl (by first | omega | (simp only [List.length_map, List.length_append, List.length_cons, List.length_nil] <;> omega) | (simp <;> omega)), (by first | rfl | kernel_rfl), ?_⟩)
  (refine ⟨_, _, _, a_assign (gd_none rfl) rfl rfl rfl rfl rfl, (by first | rfl | kernel_rfl), ?_⟩)
  show AWp _ _ _ _ _ _ _
  exact awp_ret ⟨.inr rfl, rfl⟩
-- 
theorem kParts_abs (W : World) (t : Tm) : AFun Try.prog W 48 [t.cw] (.val (.lst (t.ps.map Tm.cv))) := by
  refine afun_of (rs := [.lst (t.ps.map Tm.cv)]) Try.func48 Try.ntmps48 rfl rfl rfl rfl ?_
  intro w U hW
  refine awp_seq (awp_region ?_)
  (refine ⟨_, _, _, a_box (gd_none rfl) rfl rfl rfl rfl rfl, (by first | rfl | kernel_rfl), ?_⟩)
  (refine ⟨_, _, _, a_assign (gd_none rfl) rfl rfl rfl rfl rfl, (by first | rfl | kernel_rfl), ?_⟩)
  show AWp _ _ _ _ _ _ _
  refine awp_seq (awp_seq (awp_region ?_))
  (first | (refine ⟨_, _, _, a_load_all (gd_none rfl) rfl rfl rfl rfl rfl rfl rfl rfl rfl rfl rfl rfl, (by first | rfl | kernel_rfl), ?_⟩) | (refine ⟨_, _, _, a_load_tok (gd_none rfl) rfl rfl rfl rfl rfl rfl rfl rfl rfl rfl rfl rfl rfl, (by first | rfl | kernel_rfl), ?_⟩) | (refine ⟨_, _, _, a_load_bp (gd_none rfl) rfl rfl rfl rfl rfl rfl rfl rfl rfl rfl rfl rfl, (by first | rfl | kernel_rfl), ?_⟩) | (refine ⟨_, _, _, a_load_ad (gd_none rfl) rfl rfl rfl rfl rfl rfl rfl rfl rfl, (by first | rfl | kernel_rfl), ?_⟩) | (refine ⟨_, _, _, a_load_ptr (gd_none rfl) rfl rfl rfl rfl rfl rfl rfl rfl rfl, (by first | rfl | kernel_rfl), ?_⟩) | (refine ⟨_, _, _, a_load_fld (gd_none rfl) rfl rfl rfl rfl rfl rfl rfl rfl rfl rfl rfl rfl rfl, (by first | rfl | kernel_rfl), ?_⟩) | (refine ⟨_, _, _, a_load_fullv (gd_none rfl) rfl rfl rfl rfl rfl rfl rfl rfl rfl, (by first | rfl | kernel_rfl), ?_⟩))
  (refine ⟨_, _, _, a_call (gd_none rfl) rfl rfl rfl rfl rfl (kIsVar_abs w t), (by first | rfl | kernel_rfl), ?_⟩)
  show AWp _ _ _ _ _ _ _
  refine awp_cond rfl (fun hc => ?_) (fun hc => ?_)
  · have hf : t.f < 0 := by simpa using hc
    rw [Tm.ps_of_var hf]
    refine awp_seq (awp_region ?_)
    (refine ⟨_, _, _, a_assign (gd_none rfl) rfl rfl rfl rfl rfl, (by first | rfl | kernel_rfl), ?_⟩)
    show AWp _ _ _ _ _ _ _
    exact awp_ret ⟨.inr rfl, rfl⟩
  · have hf : ¬ t.f < 0 := by simpa using hc
    rw [Tm.ps_of_sym (by omega)]
    refine awp_skip ?_
    show AWp _ _ _ _ _ _ _
    refine awp_seq (awp_region ?_)
    (first | (refine ⟨_, _, _, a_field_bp (gd_none rfl) rfl rfl rfl rfl rfl rfl rfl rfl rfl, (by first | rfl | kernel_rfl), ?_⟩) | (refine ⟨_, _, _, a_field_ad (gd_none rfl) rfl rfl rfl rfl rfl rfl rfl rfl rfl rfl rfl, (by first | rfl | kernel_rfl), ?_⟩) | (refine ⟨_, _, _, a_fieldM (gd_none rfl) rfl rfl rfl rfl rfl rfl rfl rfl rfl, (by first | rfl | kernel_rfl), ?_⟩))
    (first | (refine ⟨_, _, _, a_load_all (gd_none rfl) rfl rfl rfl rfl rfl rfl rfl rfl rfl rfl rfl rfl, (by first | rfl | kernel_rfl), ?_⟩) | (refine ⟨_, _, _, a_load_tok (gd_none rfl) rfl rfl rfl rfl rfl rfl rfl rfl rfl rfl rfl rfl rfl, (by first | rfl | kernel_rfl), ?_⟩) | (refine ⟨_, _, _, a_load_bp (gd_none rfl) rfl rfl rfl rfl rfl rfl rfl rfl rfl rfl rfl rfl, (by first | rfl | kernel_rfl), ?_⟩) | (refine ⟨_, _, _, a_load_ad (gd_none rfl) rfl rfl rfl rfl rfl rfl rfl rfl rfl, (by first | rfl | kernel_rfl), ?_⟩) | (refine ⟨_, _, _, a_load_ptr (gd_none rfl) rfl rfl rfl rfl rfl rfl rfl rfl rfl, (by first | rfl | kernel_rfl), ?_⟩) | (refine ⟨_, _, _, a_load_fld (gd_none rfl) rfl rfl rfl rfl rfl rfl rfl rfl rfl rfl rfl rfl rfl, (by first | rfl | kernel_rfl), ?_⟩) | (refine ⟨_, _, _, a_load_fullv (gd_none rfl) rfl rfl rfl rfl rfl rfl rfl rfl rfl, (by first | rfl | kernel_rfl), ?_⟩))
    (refine ⟨_, _, _, a_assign (gd_none rfl) rfl rfl rfl rfl rfl, (by first | rfl | kernel_rfl), ?_⟩)
    show AWp _ _ _ _ _ _ _
    exact awp_ret ⟨.inr rfl, rfl⟩
-- 
theorem kAddVarN_abs (s : Sc) (n : Nat) (hb : Bds s n) (hn : n ≤ 1000000000000) (v σ : Int) (hσ : σ = 1 ∨ σ = -1) (hm : s.mp = []) : AFunO Try.prog 53 (sstN s.sz s.sp s.lk) [.bp 350001 0 [], .val (.i v), .val (.i σ)] (.tup []) (sstM s.sz (addV s v σ).mp (addV s v σ).sp (addV s v σ).lk) := by
  have hb2 := hb.sp
  have hb3 := hb.lk
  have hb4 := hb.at_ v
  have hg : mget [] v = mget s.mp v := by rw [hm]
  obtain ⟨was, hwas⟩ : ∃ was, was = mget s.mp v := ⟨_, rfl⟩
  rw [← hwas] at hb4
  refine afunO_of Try.func53 Try.ntmps53 rfl rfl rfl rfl rfl rfl ?_
  intro w U hU
  refine awp_seq (awp_seq (awp_region ?_))
  (refine ⟨_, _, _, a_move (gd_none rfl) rfl rfl rfl rfl rfl, (by first | rfl | kernel_rfl), ?_⟩)
  (refine ⟨_, _, _, a_nilchk (gd_none rfl) rfl rfl rfl rfl rfl, (by first | rfl | kernel_rfl), ?_⟩)
  (first | (refine ⟨_, _, _, a_field_bp (gd_none rfl) rfl rfl rfl rfl rfl rfl rfl rfl rfl, (by first | rfl | kernel_rfl), ?_⟩) | (refine ⟨_, _, _, a_field_ad (gd_none rfl) rfl rfl rfl rfl rfl rfl rfl rfl rfl rfl rfl, (by first | rfl | kernel_rfl), ?_⟩) | (refine ⟨_, _, _, a_fieldM (gd_none rfl) rfl rfl rfl rfl rfl rfl rfl rfl rfl, (by first | rfl | kernel_rfl), ?_⟩))
  (first | (refine ⟨_, _, _, a_load_all (gd_none rfl) rfl rfl rfl rfl rfl rfl rfl rfl rfl rfl rfl rfl, (by first | rfl | kernel_rfl), ?_⟩) | (refine ⟨_, _, _, a_load_tok (gd_none rfl) rfl rfl rfl rfl rfl rfl rfl rfl rfl rfl rfl rfl rfl, (by first | rfl | kernel_rfl), ?_⟩) | (refine ⟨_, _, _, a_load_bp (gd_none rfl) rfl rfl rfl rfl rfl rfl rfl rfl rfl rfl rfl rfl, (by first | rfl | kernel_rfl), ?_⟩) | (refine ⟨_, _, _, a_load_ad (gd_none rfl) rfl rfl rfl rfl rfl rfl rfl rfl rfl, (by first | rfl | kernel_rfl), ?_⟩) | (refine ⟨_, _, _, a_load_ptr (gd_none rfl) rfl rfl rfl rfl rfl rfl rfl rfl rfl, (by first | rfl | kernel_rfl), ?_⟩) | (refine ⟨_, _, _, a_load_fld (gd_none rfl) rfl rfl rfl rfl rfl rfl rfl rfl rfl rfl rfl rfl rfl, (by first | rfl | kernel_rfl), ?_⟩) | (refine ⟨_, _, _, a_load_fullv (gd_none rfl) rfl rfl rfl rfl rfl rfl rfl rfl rfl, (by first | rfl | kernel_rfl), ?_⟩))
  (first | (refine ⟨_, _, _, a_mnil (gd_none rfl) rfl rfl rfl rfl rfl rfl, (by first | rfl | kernel_rfl), ?_⟩) | (refine ⟨_, _, _, a_mref_nil (gd_none rfl) rfl rfl rfl rfl rfl rfl rfl, (by first | rfl | kernel_rfl), ?_⟩) | (refine ⟨_, _, _, a_mref_isnil (gd_none rfl) rfl rfl rfl rfl rfl rfl rfl, (by first | rfl | kernel_rfl), ?_⟩))
  show AWp _ _ _ _ _ _ _
  refine awp_cond rfl (fun hc => ?_) (fun hc => by cases hc)
  refine awp_region ?_
  (refine ⟨_, _, _, a_move (gd_none rfl) rfl rfl rfl rfl rfl, (by first | rfl | kernel_rfl), ?_⟩)
  (refine ⟨_, _, _, a_mkmap 300002 (gd_none rfl) rfl rfl rfl rfl rfl, (by first | rfl | kernel_rfl), ?_⟩)
  (refine ⟨_, _, _, a_nilchk (gd_none rfl) rfl rfl rfl rfl rfl, (by first | rfl | kernel_rfl), ?_⟩)
  (first | (refine ⟨_, _, _, a_field_bp (gd_none rfl) rfl rfl rfl rfl rfl rfl rfl rfl rfl, (by first | rfl | kernel_rfl), ?_⟩) | (refine ⟨_, _, _, a_field_ad (gd_none rfl) rfl rfl rfl rfl rfl rfl rfl rfl rfl rfl rfl, (by first | rfl | kernel_rfl), ?_⟩) | (refine ⟨_, _, _, a_fieldM (gd_none rfl) rfl rfl rfl rfl rfl rfl rfl rfl rfl, (by first | rfl | kernel_rfl), ?_⟩))
  (first | (refine ⟨_, _, _, a_store_all (gd_none rfl) rfl rfl rfl rfl rfl rfl rfl rfl rfl rfl, (by first | rfl | kernel_rfl), ?_⟩) | (refine ⟨_, _, _, a_store (gd_none rfl) rfl rfl rfl rfl rfl rfl rfl rfl rfl rfl, (by first | rfl | kernel_rfl), ?_⟩) | (refine ⟨_, _, _, a_store_fld (gd_none rfl) rfl rfl rfl rfl rfl rfl rfl rfl rfl rfl rfl rfl, (by first | rfl | kernel_rfl), ?_⟩))
  show AWp _ _ _ _ _ _ _
  refine awp_seq (awp_region ?_)
  (refine ⟨_, _, _, a_move (gd_none rfl) rfl rfl rfl rfl rfl, (by first | rfl | kernel_rfl), ?_⟩)
  (refine ⟨_, _, _, a_nilchk (gd_none rfl) rfl rfl rfl rfl rfl, (by first | rfl | kernel_rfl), ?_⟩)
  (first | (refine ⟨_, _, _, a_field_bp (gd_none rfl) rfl rfl rfl rfl rfl rfl rfl rfl rfl, (by first | rfl | kernel_rfl), ?_⟩) | (refine ⟨_, _, _, a_field_ad (gd_none rfl) rfl rfl rfl rfl rfl rfl rfl rfl rfl rfl rfl, (by first | rfl | kernel_rfl), ?_⟩) | (refine ⟨_, _, _, a_fieldM (gd_none rfl) rfl rfl rfl rfl rfl rfl rfl rfl rfl, (by first | rfl | kernel_rfl), ?_⟩))
  (first | (refine ⟨_, _, _, a_load_all (gd_none rfl) rfl rfl rfl rfl rfl rfl rfl rfl rfl rfl rfl rfl, (by first | rfl | kernel_rfl), ?_⟩) | (refine ⟨_, _, _, a_load_tok (gd_none rfl) rfl rfl rfl rfl rfl rfl rfl rfl rfl rfl rfl rfl rfl, (by first | rfl | kernel_rfl), ?_⟩) | (refine ⟨_, _, _, a_load_bp (gd_none rfl) rfl rfl rfl rfl rfl rfl rfl rfl rfl rfl rfl rfl, (by first | rfl | kernel_rfl), ?_⟩) | (refine ⟨_, _, _, a_load_ad (gd_none rfl) rfl rfl rfl rfl rfl rfl rfl rfl rfl, (by first | rfl | kernel_rfl), ?_⟩) | (refine ⟨_, _, _, a_load_ptr (gd_none rfl) rfl rfl rfl rfl rfl rfl rfl rfl rfl, (by first | rfl | kernel_rfl), ?_⟩) | (refine ⟨_, _, _, a_load_fld (gd_none rfl) rfl rfl rfl rfl rfl rfl rfl rfl rfl rfl rfl rfl rfl, (by first | rfl | kernel_rfl), ?_⟩) | (refine ⟨_, _, _, a_load_fullv (gd_none rfl) rfl rfl rfl rfl rfl rfl rfl rfl rfl, (by first | rfl | kernel_rfl), ?_⟩))
  (refine ⟨_, _, _, a_move (gd_none rfl) rfl rfl rfl rfl rfl, (by first | rfl | kernel_rfl), ?_⟩)
  (refine ⟨_, _, _, a_lookup1 (gd_none rfl) rfl rfl rfl rfl rfl rfl rfl rfl rfl rfl rfl ( mr_keys []), (by first | rfl | kernel_rfl), ?_⟩)
  (refine ⟨_, _, _, a_assign (gd_none rfl) rfl rfl rfl rfl rfl, (by first | rfl | kernel_rfl), ?_⟩)
  show AWp _ _ _ _ _ _ _
  refine AWp.wk (wk_sub (s' := [(0, AV.bp 350001 0 []), (1, .val (.i v)), (2, .val (.i σ)), (6, .val (.i was)), (450001, .obj), (35500100, .val (.i s.sz)), (35500101, .mref 300002), (35500102, .val (.i s.sp)), (35500103, .val (.i s.lk)), (300002, .mp (([] : List (Int × Int)).map mrv))]) ⟨rfl, rfl, rfl, ?_, rfl, rfl, rfl, rfl, rfl, rfl, trivial⟩) ?_
  · rw [hwas, ← hg]; rfl
  refine awp_seq (awp_region ?_)
  (refine ⟨_, _, _, a_move (gd_none rfl) rfl rfl rfl rfl rfl, (by first | rfl | kernel_rfl), ?_⟩)
  (refine ⟨_, _, _, a_move (gd_none rfl) rfl rfl rfl rfl rfl, (by first | rfl | kernel_rfl), ?_⟩)
  (refine ⟨_, _, _, a_add (gd_none rfl) rfl rfl rfl rfl rfl rfl (by first | omega | (simp only [List.length_map, List.length_append, List.length_cons, List.length_nil] <;> omega) | (simp <;> omega)), (by first | rfl | kernel_rfl), ?_⟩)
  (refine ⟨_, _, _, a_assign (gd_none rfl) rfl rfl rfl rfl rfl, (by first | rfl | kernel_rfl), ?_⟩)
  show AWp _ _ _ _ _ _ _
  refine awp_seq (awp_region ?_)
  (refine ⟨_, _, _, a_move (gd_none rfl) rfl rfl rfl rfl rfl, (by first | rfl | kernel_rfl), ?_⟩)
  (refine ⟨_, _, _, a_nilchk (gd_none rfl) rfl rfl rfl rfl rfl, (by first | rfl | kernel_rfl), ?_⟩)
  (first | (refine ⟨_, _, _, a_field_bp (gd_none rfl) rfl rfl rfl rfl rfl rfl rfl rfl rfl, (by first | rfl | kernel_rfl), ?_⟩) | (refine ⟨_, _, _, a_field_ad (gd_none rfl) rfl rfl rfl rfl rfl rfl rfl rfl rfl rfl rfl, (by first | rfl | kernel_rfl), ?_⟩) | (refine ⟨_, _, _, a_fieldM (gd_none rfl) rfl rfl rfl rfl rfl rfl rfl rfl rfl, (by first | rfl | kernel_rfl), ?_⟩))
  (first | (refine ⟨_, _, _, a_load_all (gd_none rfl) rfl rfl rfl rfl rfl rfl rfl rfl rfl rfl rfl rfl, (by first | rfl | kernel_rfl), ?_⟩) | (refine ⟨_, _, _, a_load_tok (gd_none rfl) rfl rfl rfl rfl rfl rfl rfl rfl rfl rfl rfl rfl rfl, (by first | rfl | kernel_rfl), ?_⟩) | (refine ⟨_, _, _, a_load_bp (gd_none rfl) rfl rfl rfl rfl rfl rfl rfl rfl rfl rfl rfl rfl, (by first | rfl | kernel_rfl), ?_⟩) | (refine ⟨_, _, _, a_load_ad (gd_none rfl) rfl rfl rfl rfl rfl rfl rfl rfl rfl, (by first | rfl | kernel_rfl), ?_⟩) | (refine ⟨_, _, _, a_load_ptr (gd_none rfl) rfl rfl rfl rfl rfl rfl rfl rfl rfl, (by first | rfl | kernel_rfl), ?_⟩) | (refine ⟨_, _, _, a_load_fld (gd_none rfl) rfl rfl rfl rfl rfl rfl rfl rfl rfl rfl rfl rfl rfl, (by first | rfl | kernel_rfl), ?_⟩) | (refine ⟨_, _, _, a_load_fullv (gd_none rfl) rfl rfl rfl rfl rfl rfl rfl rfl rfl, (by first | rfl | kernel_rfl), ?_⟩))
  (refine ⟨_, _, _, a_move (gd_none rfl) rfl rfl rfl rfl rfl, (by first | rfl | kernel_rfl), ?_⟩)
  (refine ⟨_, _, _, a_move (gd_none rfl) rfl rfl rfl rfl rfl, (by first | rfl | kernel_rfl), ?_⟩)
  (refine ⟨_, _, _, a_mapup (gd_none rfl) rfl rfl rfl rfl rfl rfl rfl rfl (mr_keys []), (by first | rfl | kernel_rfl), ?_⟩)
  show AWp _ _ _ _ _ _ _
  refine awp_seq (awp_region ?_)
  (refine ⟨_, _, _, a_move (gd_none rfl) rfl rfl rfl rfl rfl, (by first | rfl | kernel_rfl), ?_⟩)
  (refine ⟨_, _, _, a_nilchk (gd_none rfl) rfl rfl rfl rfl rfl, (by first | rfl | kernel_rfl), ?_⟩)
  (first | (refine ⟨_, _, _, a_field_bp (gd_none rfl) rfl rfl rfl rfl rfl rfl rfl rfl rfl, (by first | rfl | kernel_rfl), ?_⟩) | (refine ⟨_, _, _, a_field_ad (gd_none rfl) rfl rfl rfl rfl rfl rfl rfl rfl rfl rfl rfl, (by first | rfl | kernel_rfl), ?_⟩) | (refine ⟨_, _, _, a_fieldM (gd_none rfl) rfl rfl rfl rfl rfl rfl rfl rfl rfl, (by first | rfl | kernel_rfl), ?_⟩))
  (first | (refine ⟨_, _, _, a_load_all (gd_none rfl) rfl rfl rfl rfl rfl rfl rfl rfl rfl rfl rfl rfl, (by first | rfl | kernel_rfl), ?_⟩) | (refine ⟨_, _, _, a_load_tok (gd_none rfl) rfl rfl rfl rfl rfl rfl rfl rfl rfl rfl rfl rfl rfl, (by first | rfl | kernel_rfl), ?_⟩) | (refine ⟨_, _, _, a_load_bp (gd_none rfl) rfl rfl rfl rfl rfl rfl rfl rfl rfl rfl rfl rfl, (by first | rfl | kernel_rfl), ?_⟩) | (refine ⟨_, _, _, a_load_ad (gd_none rfl) rfl rfl rfl rfl rfl rfl rfl rfl rfl, (by first | rfl | kernel_rfl), ?_⟩) | (refine ⟨_, _, _, a_load_ptr (gd_none rfl) rfl rfl rfl rfl rfl rfl rfl rfl rfl, (by first | rfl | kernel_rfl), ?_⟩) | (refine ⟨_, _, _, a_load_fld (gd_none rfl) rfl rfl rfl rfl rfl rfl rfl rfl rfl rfl rfl rfl rfl, (by first | rfl | kernel_rfl), ?_⟩) | (refine ⟨_, _, _, a_load_fullv (gd_none rfl) rfl rfl rfl rfl rfl rfl rfl rfl rfl, (by first | rfl | kernel_rfl), ?_⟩))
  (refine ⟨_, _, _, a_move (gd_none rfl) rfl rfl rfl rfl rfl, (by first | rfl | kernel_rfl), ?_⟩)
  (refine ⟨_, _, _, a_max (gd_none rfl) rfl rfl rfl rfl rfl rfl, (by first | rfl | kernel_rfl), ?_⟩)
  (refine ⟨_, _, _, a_move (gd_none rfl) rfl rfl rfl rfl rfl, (by first | rfl | kernel_rfl), ?_⟩)
  (refine ⟨_, _, _, a_max (gd_none rfl) rfl rfl rfl rfl rfl rfl, (by first | rfl | kernel_rfl), ?_⟩)
  (refine ⟨_, _, _, a_sub (gd_none rfl) rfl rfl rfl rfl rfl rfl (by first | omega | (simp only [List.length_map, List.length_append, List.length_cons, List.length_nil] <;> omega) | (simp <;> omega)), (by first | rfl | kernel_rfl), ?_⟩)
  (refine ⟨_, _, _, a_add (gd_none rfl) rfl rfl rfl rfl rfl rfl (by first | omega | (simp only [List.length_map, List.length_append, List.length_cons, List.length_nil] <;> omega) | (simp <;> omega)), (by first | rfl | kernel_rfl), ?_⟩)
  (refine ⟨_, _, _, a_nilchk (gd_none rfl) rfl rfl rfl rfl rfl, (by first | rfl | kernel_rfl), ?_⟩)
  (first | (refine ⟨_, _, _, a_field_bp (gd_none rfl) rfl rfl rfl rfl rfl rfl rfl rfl rfl, (by first | rfl | kernel_rfl), ?_⟩) | (refine ⟨_, _, _, a_field_ad (gd_none rfl) rfl rfl rfl rfl rfl rfl rfl rfl rfl rfl rfl, (by first | rfl | kernel_rfl), ?_⟩) | (refine ⟨_, _, _, a_fieldM (gd_none rfl) rfl rfl rfl rfl rfl rfl rfl rfl rfl, (by first | rfl | kernel_rfl), ?_⟩))
  (first | (refine ⟨_, _, _, a_store_all (gd_none rfl) rfl rfl rfl rfl rfl rfl rfl rfl rfl rfl, (by first | rfl | kernel_rfl), ?_⟩) | (refine ⟨_, _, _, a_store (gd_none rfl) rfl rfl rfl rfl rfl rfl rfl rfl rfl rfl, (by first | rfl | kernel_rfl), ?_⟩) | (refine ⟨_, _, _, a_store_fld (gd_none rfl) rfl rfl rfl rfl rfl rfl rfl rfl rfl rfl rfl rfl, (by first | rfl | kernel_rfl), ?_⟩))
  show AWp _ _ _ _ _ _ _
  refine awp_region ?_
  (refine ⟨_, _, _, a_move (gd_none rfl) rfl rfl rfl rfl rfl, (by first | rfl | kernel_rfl), ?_⟩)
  (refine ⟨_, _, _, a_nilchk (gd_none rfl) rfl rfl rfl rfl rfl, (by first | rfl | kernel_rfl), ?_⟩)
  (first | (refine ⟨_, _, _, a_field_bp (gd_none rfl) rfl rfl rfl rfl rfl rfl rfl rfl rfl, (by first | rfl | kernel_rfl), ?_⟩) | (refine ⟨_, _, _, a_field_ad (gd_none rfl) rfl rfl rfl rfl rfl rfl rfl rfl rfl rfl rfl, (by first | rfl | kernel_rfl), ?_⟩) | (refine ⟨_, _, _, a_fieldM (gd_none rfl) rfl rfl rfl rfl rfl rfl rfl rfl rfl, (by first | rfl | kernel_rfl), ?_⟩))
  (first | (refine ⟨_, _, _, a_load_all (gd_none rfl) rfl rfl rfl rfl rfl rfl rfl rfl rfl rfl rfl rfl, (by first | rfl | kernel_rfl), ?_⟩) | (refine ⟨_, _, _, a_load_tok (gd_none rfl) rfl rfl rfl rfl rfl rfl rfl rfl rfl rfl rfl rfl rfl, (by first | rfl | kernel_rfl), ?_⟩) | (refine ⟨_, _, _, a_load_bp (gd_none rfl) rfl rfl rfl rfl rfl rfl rfl rfl rfl rfl rfl rfl, (by first | rfl | kernel_rfl), ?_⟩) | (refine ⟨_, _, _, a_load_ad (gd_none rfl) rfl rfl rfl rfl rfl rfl rfl rfl rfl, (by first | rfl | kernel_rfl), ?_⟩) | (refine ⟨_, _, _, a_load_ptr (gd_none rfl) rfl rfl rfl rfl rfl rfl rfl rfl rfl, (by first | rfl | kernel_rfl), ?_⟩) | (refine ⟨_, _, _, a_load_fld (gd_none rfl) rfl rfl rfl rfl rfl rfl rfl rfl rfl rfl rfl rfl rfl, (by first | rfl | kernel_rfl), ?_⟩) | (refine ⟨_, _, _, a_load_fullv (gd_none rfl) rfl rfl rfl rfl rfl rfl rfl rfl rfl, (by first | rfl | kernel_rfl), ?_⟩))
  (refine ⟨_, _, _, a_move (gd_none rfl) rfl rfl rfl rfl rfl, (by first | rfl | kernel_rfl), ?_⟩)
  (refine ⟨_, _, _, a_neg (gd_none rfl) rfl rfl rfl rfl rfl (by first | omega | (constructor <;> omega)), (by first | rfl | kernel_rfl), ?_⟩)
  (refine ⟨_, _, _, a_max (gd_none rfl) rfl rfl rfl rfl rfl rfl, (by first | rfl | kernel_rfl), ?_⟩)
  (refine ⟨_, _, _, a_move (gd_none rfl) rfl rfl rfl rfl rfl, (by first | rfl | kernel_rfl), ?_⟩)
  (refine ⟨_, _, _, a_neg (gd_none rfl) rfl rfl rfl rfl rfl (by first | omega | (constructor <;> omega)), (by first | rfl | kernel_rfl), ?_⟩)
  (refine ⟨_, _, _, a_max (gd_none rfl) rfl rfl rfl rfl rfl rfl, (by first | rfl | kernel_rfl), ?_⟩)
  (refine ⟨_, _, _, a_sub (gd_none rfl) rfl rfl rfl rfl rfl rfl (by first | omega | (simp only [List.length_map, List.length_append, List.length_cons, List.length_nil] <;> omega) | (simp <;> omega)), (by first | rfl | kernel_rfl), ?_⟩)
  (refine ⟨_, _, _, a_add (gd_none rfl) rfl rfl rfl rfl rfl rfl (by first | omega | (simp only [List.length_map, List.length_append, List.length_cons, List.length_nil] <;> omega) | (simp <;> omega)), (by first | rfl | kernel_rfl), ?_⟩)
  (refine ⟨_, _, _, a_nilchk (gd_none rfl) rfl rfl rfl rfl rfl, (by first | rfl | kernel_rfl), ?_⟩)
  (first | (refine ⟨_, _, _, a_field_bp (gd_none rfl) rfl rfl rfl rfl rfl rfl rfl rfl rfl, (by first | rfl | kernel_rfl), ?_⟩) | (refine ⟨_, _, _, a_field_ad (gd_none rfl) rfl rfl rfl rfl rfl rfl rfl rfl rfl rfl rfl, (by first | rfl | kernel_rfl), ?_⟩) | (refine ⟨_, _, _, a_fieldM (gd_none rfl) rfl rfl rfl rfl rfl rfl rfl rfl rfl, (by first | rfl | kernel_rfl), ?_⟩))
  (first | (refine ⟨_, _, _, a_store_all (gd_none rfl) rfl rfl rfl rfl rfl rfl rfl rfl rfl rfl, (by first | rfl | kernel_rfl), ?_⟩) | (refine ⟨_, _, _, a_store (gd_none rfl) rfl rfl rfl rfl rfl rfl rfl rfl rfl rfl, (by first | rfl | kernel_rfl), ?_⟩) | (refine ⟨_, _, _, a_store_fld (gd_none rfl) rfl rfl rfl rfl rfl rfl rfl rfl rfl rfl rfl rfl, (by first | rfl | kernel_rfl), ?_⟩))
  refine ⟨.inl rfl, _, (wk_sub (s' := [(450001, .obj), (35500100, .val (.i s.sz)), (35500101, .mref 300002), (35500102, .val (.i (addV s v σ).sp)), (35500103, .val (.i (addV s v σ).lk)), (300002, .mp ((addV s v σ).mp.map mrv))]) ⟨rfl, rfl, rfl, ?_, ?_, ?_, trivial⟩).trans (wk_ren 300002 300001 rfl rfl (by kernel_rfl) (by kernel_rfl)), rfl, rfl, rfl, rfl, rfl, rfl, rfl, trivial⟩
  · unfold addV; rw [← hwas]; rfl
  · unfold addV; rw [← hwas]; rfl
  · unfold addV
    simp only
    rw [← hwas, hm, ← mr_put]
    rfl
-- 
theorem kAddVarM_abs (s : Sc) (n : Nat) (hb : Bds s n) (hn : n ≤ 1000000000000) (v σ : Int) (hσ : σ = 1 ∨ σ = -1) : AFunO Try.prog 53 (sstM s.sz s.mp s.sp s.lk) [.bp 350001 0 [], .val (.i v), .val (.i σ)] (.tup []) (sstM s.sz (addV s v σ).mp (addV s v σ).sp (addV s v σ).lk) := by
  have hb2 := hb.sp
  have hb3 := hb.lk
  have hb4 := hb.at_ v
  obtain ⟨was, hwas⟩ : ∃ was, was = mget s.mp v := ⟨_, rfl⟩
  rw [← hwas] at hb4
  refine afunO_of Try.func53 Try.ntmps53 rfl rfl rfl rfl rfl rfl ?_
  intro w U hU
  refine awp_seq (awp_seq (awp_region ?_))
  (refine ⟨_, _, _, a_move (gd_none rfl) rfl rfl rfl rfl rfl, (by first | rfl | kernel_rfl), ?_⟩)
  (refine ⟨_, _, _, a_nilchk (gd_none rfl) rfl rfl rfl rfl rfl, (by first | rfl | kernel_rfl), ?_⟩)
  (first | (refine ⟨_, _, _, a_field_bp (gd_none rfl) rfl rfl rfl rfl rfl rfl rfl rfl rfl, (by first | rfl | kernel_rfl), ?_⟩) | (refine ⟨_, _, _, a_field_ad (gd_none rfl) rfl rfl rfl rfl rfl rfl rfl rfl rfl rfl rfl, (by first | rfl | kernel_rfl), ?_⟩) | (refine ⟨_, _, _, a_fieldM (gd_none rfl) rfl rfl rfl rfl rfl rfl rfl rfl rfl, (by first | rfl | kernel_rfl), ?_⟩))
  (first | (refine ⟨_, _, _, a_load_all (gd_none rfl) rfl rfl rfl rfl rfl rfl rfl rfl rfl rfl rfl rfl, (by first | rfl | kernel_rfl), ?_⟩) | (refine ⟨_, _, _, a_load_tok (gd_none rfl) rfl rfl rfl rfl rfl rfl rfl rfl rfl rfl rfl rfl rfl, (by first | rfl | kernel_rfl), ?_⟩) | (refine ⟨_, _, _, a_load_bp (gd_none rfl) rfl rfl rfl rfl rfl rfl rfl rfl rfl rfl rfl rfl, (by first | rfl | kernel_rfl), ?_⟩) | (refine ⟨_, _, _, a_load_ad (gd_none rfl) rfl rfl rfl rfl rfl rfl rfl rfl rfl, (by first | rfl | kernel_rfl), ?_⟩) | (refine ⟨_, _, _, a_load_ptr (gd_none rfl) rfl rfl rfl rfl rfl rfl rfl rfl rfl, (by first | rfl | kernel_rfl), ?_⟩) | (refine ⟨_, _, _, a_load_fld (gd_none rfl) rfl rfl rfl rfl rfl rfl rfl rfl rfl rfl rfl rfl rfl, (by first | rfl | kernel_rfl), ?_⟩) | (refine ⟨_, _, _, a_load_fullv (gd_none rfl) rfl rfl rfl rfl rfl rfl rfl rfl rfl, (by first | rfl | kernel_rfl), ?_⟩))
  (first | (refine ⟨_, _, _, a_mnil (gd_none rfl) rfl rfl rfl rfl rfl rfl, (by first | rfl | kernel_rfl), ?_⟩) | (refine ⟨_, _, _, a_mref_nil (gd_none rfl) rfl rfl rfl rfl rfl rfl rfl, (by first | rfl | kernel_rfl), ?_⟩) | (refine ⟨_, _, _, a_mref_isnil (gd_none rfl) rfl rfl rfl rfl rfl rfl rfl, (by first | rfl | kernel_rfl), ?_⟩))
  show AWp _ _ _ _ _ _ _
  refine awp_cond rfl (fun hc => by cases hc) (fun hc => ?_)
  refine awp_skip ?_
  show AWp _ _ _ _ _ _ _
  refine awp_seq (awp_region ?_)
  (refine ⟨_, _, _, a_move (gd_none rfl) rfl rfl rfl rfl rfl, (by first | rfl | kernel_rfl), ?_⟩)
  (refine ⟨_, _, _, a_nilchk (gd_none rfl) rfl rfl rfl rfl rfl, (by first | rfl | kernel_rfl), ?_⟩)
  (first | (refine ⟨_, _, _, a_field_bp (gd_none rfl) rfl rfl rfl rfl rfl rfl rfl rfl rfl, (by first | rfl | kernel_rfl), ?_⟩) | (refine ⟨_, _, _, a_field_ad (gd_none rfl) rfl rfl rfl rfl rfl rfl rfl rfl rfl rfl rfl, (by first | rfl | kernel_rfl), ?_⟩) | (refine ⟨_, _, _, a_fieldM (gd_none rfl) rfl rfl rfl rfl rfl rfl rfl rfl rfl, (by first | rfl | kernel_rfl), ?_⟩))
  (first | (refine ⟨_, _, _, a_load_all (gd_none rfl) rfl rfl rfl rfl rfl rfl rfl rfl rfl rfl rfl rfl, (by first | rfl | kernel_rfl), ?_⟩) | (refine ⟨_, _, _, a_load_tok (gd_none rfl) rfl rfl rfl rfl rfl rfl rfl rfl rfl rfl rfl rfl rfl, (by first | rfl | kernel_rfl), ?_⟩) | (refine ⟨_, _, _, a_load_bp (gd_none rfl) rfl rfl rfl rfl rfl rfl rfl rfl rfl rfl rfl rfl, (by first | rfl | kernel_rfl), ?_⟩) | (refine ⟨_, _, _, a_load_ad (gd_none rfl) rfl rfl rfl rfl rfl rfl rfl rfl rfl, (by first | rfl | kernel_rfl), ?_⟩) | (refine ⟨_, _, _, a_load_ptr (gd_none rfl) rfl rfl rfl rfl rfl rfl rfl rfl rfl, (by first | rfl | kernel_rfl), ?_⟩) | (refine ⟨_, _, _, a_load_fld (gd_none rfl) rfl rfl rfl rfl rfl rfl rfl rfl rfl rfl rfl rfl rfl, (by first | rfl | kernel_rfl), ?_⟩) | (refine ⟨_, _, _, a_load_fullv (gd_none rfl) rfl rfl rfl rfl rfl rfl rfl rfl rfl, (by first | rfl | kernel_rfl), ?_⟩))
  (refine ⟨_, _, _, a_move (gd_none rfl) rfl rfl rfl rfl rfl, (by first | rfl | kernel_rfl), ?_⟩)
  (refine ⟨_, _, _, a_lookup1 (gd_none rfl) rfl rfl rfl rfl rfl rfl rfl rfl rfl rfl rfl ( mr_keys _), (by first | rfl | kernel_rfl), ?_⟩)
  (refine ⟨_, _, _, a_assign (gd_none rfl) rfl rfl rfl rfl rfl, (by first | rfl | kernel_rfl), ?_⟩)
  show AWp _ _ _ _ _ _ _
  refine AWp.wk (wk_sub (s' := [(0, AV.bp 350001 0 []), (1, .val (.i v)), (2, .val (.i σ)), (6, .val (.i was)), (450001, .obj), (35500100, .val (.i s.sz)), (35500101, .mref 300001), (35500102, .val (.i s.sp)), (35500103, .val (.i s.lk)), (300001, .mp (s.mp.map mrv))]) ⟨rfl, rfl, rfl, ?_, rfl, rfl, rfl, rfl, rfl, rfl, trivial⟩) ?_
  · rw [hwas, ← mr_get]; rfl
  refine awp_seq (awp_region ?_)
  (refine ⟨_, _, _, a_move (gd_none rfl) rfl rfl rfl rfl rfl, (by first | rfl | kernel_rfl), ?_⟩)
  (refine ⟨_, _, _, a_move (gd_none rfl) rfl rfl rfl rfl rfl, (by first | rfl | kernel_rfl), ?_⟩)
  (refine ⟨_, _, _, a_add (gd_none rfl) rfl rfl rfl rfl rfl rfl (by first | omega | (simp only [List.length_map, List.length_append, List.length_cons, List.length_nil] <;> omega) | (simp <;> omega)), (by first | rfl | kernel_rfl), ?_⟩)
  (refine ⟨_, _, _, a_assign (gd_none rfl) rfl rfl rfl rfl rfl, (by first | rfl | kernel_rfl), ?_⟩)
  show AWp _ _ _ _ _ _ _
  refine awp_seq (awp_region ?_)
  (refine ⟨_, _, _, a_move (gd_none rfl) rfl rfl rfl rfl rfl, (by first | rfl | kernel_rfl), ?_⟩)
  (refine ⟨_, _, _, a_nilchk (gd_none rfl) rfl rfl rfl rfl rfl, (by first | rfl | kernel_rfl), ?_⟩)
  (first | (refine ⟨_, _, _, a_field_bp (gd_none rfl) rfl rfl rfl rfl rfl rfl rfl rfl rfl, (by first | rfl | kernel_rfl), ?_⟩) | (refine ⟨_, _, _, a_field_ad (gd_none rfl) rfl rfl rfl rfl rfl rfl rfl rfl rfl rfl rfl, (by first | rfl | kernel_rfl), ?_⟩) | (refine ⟨_, _, _, a_fieldM (gd_none rfl) rfl rfl rfl rfl rfl rfl rfl rfl rfl, (by first | rfl | kernel_rfl), ?_⟩))
  (first | (refine ⟨_, _, _, a_load_all (gd_none rfl) rfl rfl rfl rfl rfl rfl rfl rfl rfl rfl rfl rfl, (by first | rfl | kernel_rfl), ?_⟩) | (refine ⟨_, _, _, a_load_tok (gd_none rfl) rfl rfl rfl rfl rfl rfl rfl rfl rfl rfl rfl rfl rfl, (by first | rfl | kernel_rfl), ?_⟩) | (refine ⟨_, _, _, a_load_bp (gd_none rfl) rfl rfl rfl rfl rfl rfl rfl rfl rfl rfl rfl rfl, (by first | rfl | kernel_rfl), ?_⟩) | (refine ⟨_, _, _, a_load_ad (gd_none rfl) rfl rfl rfl rfl rfl rfl rfl rfl rfl, (by first | rfl | kernel_rfl), ?_⟩) | (refine ⟨_, _, _, a_load_ptr (gd_none rfl) rfl rfl rfl rfl rfl rfl rfl rfl rfl, (by first | rfl | kernel_rfl), ?_⟩) | (refine ⟨_, _, _, a_load_fld (gd_none rfl) rfl rfl rfl rfl rfl rfl rfl rfl rfl rfl rfl rfl rfl, (by first | rfl | kernel_rfl), ?_⟩) | (refine ⟨_, _, _, a_load_fullv (gd_none rfl) rfl rfl rfl rfl rfl rfl rfl rfl rfl, (by first | rfl | kernel_rfl), ?_⟩))
  (refine ⟨_, _, _, a_move (gd_none rfl) rfl rfl rfl rfl rfl, (by first | rfl | kernel_rfl), ?_⟩)
  (refine ⟨_, _, _, a_move (gd_none rfl) rfl rfl rfl rfl rfl, (by first | rfl | kernel_rfl), ?_⟩)
  (refine ⟨_, _, _, a_mapup (gd_none rfl) rfl rfl rfl rfl rfl rfl rfl rfl (mr_keys _), (by first | rfl | kernel_rfl), ?_⟩)
  show AWp _ _ _ _ _ _ _
  refine awp_seq (awp_region ?_)
  (refine ⟨_, _, _, a_move (gd_none rfl) rfl rfl rfl rfl rfl, (by first | rfl | kernel_rfl), ?_⟩)
  (refine ⟨_, _, _, a_nilchk (gd_none rfl) rfl rfl rfl rfl rfl, (by first | rfl | kernel_rfl), ?_⟩)
  (first | (refine ⟨_, _, _, a_field_bp (gd_none rfl) rfl rfl rfl rfl rfl rfl rfl rfl rfl, (by first | rfl | kernel_rfl), ?_⟩) | (refine ⟨_, _, _, a_field_ad (gd_none rfl) rfl rfl rfl rfl rfl rfl rfl rfl rfl rfl rfl, (by first | rfl | kernel_rfl), ?_⟩) | (refine ⟨_, _, _, a_fieldM (gd_none rfl) rfl rfl rfl rfl rfl rfl rfl rfl rfl, (by first | rfl | kernel_rfl), ?_⟩))
  (first | (refine ⟨_, _, _, a_load_all (gd_none rfl) rfl rfl rfl rfl rfl rfl rfl rfl rfl rfl rfl rfl, (by first | rfl | kernel_rfl), ?_⟩) | (refine ⟨_, _, _, a_load_tok (gd_none rfl) rfl rfl rfl rfl rfl rfl rfl rfl rfl rfl rfl rfl rfl, (by first | rfl | kernel_rfl), ?_⟩) | (refine ⟨_, _, _, a_load_bp (gd_none rfl) rfl rfl rfl rfl rfl rfl rfl rfl rfl rfl rfl rfl, (by first | rfl | kernel_rfl), ?_⟩) | (refine ⟨_, _, _, a_load_ad (gd_none rfl) rfl rfl rfl rfl rfl rfl rfl rfl rfl, (by first | rfl | kernel_rfl), ?_⟩) | (refine ⟨_, _, _, a_load_ptr (gd_none rfl) rfl rfl rfl rfl rfl rfl rfl rfl rfl, (by first | rfl | kernel_rfl), ?_⟩) | (refine ⟨_, _, _, a_load_fld (gd_none rfl) rfl rfl rfl rfl rfl rfl rfl rfl rfl rfl rfl rfl rfl, (by first | rfl | kernel_rfl), ?_⟩) | (refine ⟨_, _, _, a_load_fullv (gd_none rfl) rfl rfl rfl rfl rfl rfl rfl rfl rfl, (by first | rfl | kernel_rfl), ?_⟩))
  (refine ⟨_, _, _, a_move (gd_none rfl) rfl rfl rfl rfl rfl, (by first | rfl | kernel_rfl), ?_⟩)
  (refine ⟨_, _, _, a_max (gd_none rfl) rfl rfl rfl rfl rfl rfl, (by first | rfl | kernel_rfl), ?_⟩)
  (refine ⟨_, _, _, a_move (gd_none rfl) rfl rfl rfl rfl rfl, (by first | rfl | kernel_rfl), ?_⟩)
  (refine ⟨_, _, _, a_max (gd_none rfl) rfl rfl rfl rfl rfl rfl, (by first | rfl | kernel_rfl), ?_⟩)
  (refine ⟨_, _, _, a_sub (gd_none rfl) rfl rfl rfl rfl rfl rfl (by first | omega | (simp only [List.length_map, List.length_append, List.length_cons, List.length_nil] <;> omega) | (simp <;> omega)), (by first | rfl | kernel_rfl), ?_⟩)
  (refine ⟨_, _, _, a_add (gd_none rfl) rfl rfl rfl rfl rfl rfl (by first | omega | (simp only [List.length_map, List.length_append, List.length_cons, List.length_nil] <;> omega) | (simp <;> omega)), (by first | rfl | kernel_rfl), ?_⟩)
  (refine ⟨_, _, _, a_nilchk (gd_none rfl) rfl rfl rfl rfl rfl, (by first | rfl | kernel_rfl), ?_⟩)
  (first | (refine ⟨_, _, _, a_field_bp (gd_none rfl) rfl rfl rfl rfl rfl rfl rfl rfl rfl, (by first | rfl | kernel_rfl), ?_⟩) | (refine ⟨_, _, _, a_field_ad (gd_none rfl) rfl rfl rfl rfl rfl rfl rfl rfl rfl rfl rfl, (by first | rfl | kernel_rfl), ?_⟩) | (refine ⟨_, _, _, a_fieldM (gd_none rfl) rfl rfl rfl rfl rfl rfl rfl rfl rfl, (by first | rfl | kernel_rfl), ?_⟩))
  (first | (refine ⟨_, _, _, a_store_all (gd_none rfl) rfl rfl rfl rfl rfl rfl rfl rfl rfl rfl, (by first | rfl | kernel_rfl), ?_⟩) | (refine ⟨_, _, _, a_store (gd_none rfl) rfl rfl rfl rfl rfl rfl rfl rfl rfl rfl, (by first | rfl | kernel_rfl), ?_⟩) | (refine ⟨_, _, _, a_store_fld (gd_none rfl) rfl rfl rfl rfl rfl rfl rfl rfl rfl rfl rfl rfl, (by first | rfl | kernel_rfl), ?_⟩))
  show AWp _ _ _ _ _ _ _
  refine awp_region ?_
  (refine ⟨_, _, _, a_move (gd_none rfl) rfl rfl rfl rfl rfl, (by first | rfl | kernel_rfl), ?_⟩)
  (refine ⟨_, _, _, a_nilchk (gd_none rfl) rfl rfl rfl rfl rfl, (by first | rfl | kernel_rfl), ?_⟩)
  (first | (refine ⟨_, _, _, a_field_bp (gd_none rfl) rfl rfl rfl rfl rfl rfl rfl rfl rfl, (by first | rfl | kernel_rfl), ?_⟩) | (refine ⟨_, _, _, a_field_ad (gd_none rfl) rfl rfl rfl rfl rfl rfl rfl rfl rfl rfl rfl, (by first | rfl | kernel_rfl), ?_⟩) | (refine ⟨_, _, _, a_fieldM (gd_none rfl) rfl rfl rfl rfl rfl rfl rfl rfl rfl, (by first | rfl | kernel_rfl), ?_⟩))
  (first | (refine ⟨_, _, _, a_load_all (gd_none rfl) rfl rfl rfl rfl rfl rfl rfl rfl rfl rfl rfl rfl, (by first | rfl | kernel_rfl), ?_⟩) | (refine ⟨_, _, _, a_load_tok (gd_none rfl) rfl rfl rfl rfl rfl rfl rfl rfl rfl rfl rfl rfl rfl, (by first | rfl | kernel_rfl), ?_⟩) | (refine ⟨_, _, _, a_load_bp (gd_none rfl) rfl rfl rfl rfl rfl rfl rfl rfl rfl rfl rfl rfl, (by first | rfl | kernel_rfl), ?_⟩) | (refine ⟨_, _, _, a_load_ad (gd_none rfl) rfl rfl rfl rfl rfl rfl rfl rfl rfl, (by first | rfl | kernel_rfl), ?_⟩) | (refine ⟨_, _, _, a_load_ptr (gd_none rfl) rfl rfl rfl rfl rfl rfl rfl rfl rfl, (by first | rfl | kernel_rfl), ?_⟩) | (refine ⟨_, _, _, a_load_fld (gd_none rfl) rfl rfl rfl rfl rfl rfl rfl rfl rfl rfl rfl rfl rfl, (by first | rfl | kernel_rfl), ?_⟩) | (refine ⟨_, _, _, a_load_fullv (gd_none rfl) rfl rfl rfl rfl rfl rfl rfl rfl rfl, (by first | rfl | kernel_rfl), ?_⟩))
  (refine ⟨_, _, _, a_move (gd_none rfl) rfl rfl rfl rfl rfl, (by first | rfl | kernel_rfl), ?_⟩)
  (refine ⟨_, _, _, a_neg (gd_none rfl) rfl rfl rfl rfl rfl (by first | omega | (constructor <;> omega)), (by first | rfl | kernel_rfl), ?_⟩)
  (refine ⟨_, _, _, a_max (gd_none rfl) rfl rfl rfl rfl rfl rfl, (by first | rfl | kernel_rfl), ?_⟩)
  (refine ⟨_, _, _, a_move (gd_none rfl) rfl rfl rfl rfl rfl, (by first | rfl | kernel_rfl), ?_⟩)
  (refine ⟨_, _, _, a_neg (gd_none rfl) rfl rfl rfl rfl rfl (by first | omega | (constructor <;> omega)), (by first | rfl | kernel_rfl), ?_⟩)
  (refine ⟨_, _, _, a_max (gd_none rfl) rfl rfl rfl rfl rfl rfl, (by first | rfl | kernel_rfl), ?_⟩)
  (refine ⟨_, _, _, a_sub (gd_none rfl) rfl rfl rfl rfl rfl rfl (by first | omega | (simp only [List.length_map, List.length_append, List.length_cons, List.length_nil] <;> omega) | (simp <;> omega)), (by first | rfl | kernel_rfl), ?_⟩)
  (refine ⟨_, _, _, a_add (gd_none rfl) rfl rfl rfl rfl rfl rfl (by first | omega | (simp only [List.length_map, List.length_append, List.length_cons, List.length_nil] <;> omega) | (simp <;> omega)), (by first | rfl | kernel_rfl), ?_⟩)
  (refine ⟨_, _, _, a_nilchk (gd_none rfl) rfl rfl rfl rfl rfl, (by first | rfl | kernel_rfl), ?_⟩)
  (first | (refine ⟨_, _, _, a_field_bp (gd_none rfl) rfl rfl rfl rfl rfl rfl rfl rfl rfl, (by first | rfl | kernel_rfl), ?_⟩) | (refine ⟨_, _, _, a_field_ad (gd_none rfl) rfl rfl rfl rfl rfl rfl rfl rfl rfl rfl rfl, (by first | rfl | kernel_rfl), ?_⟩) | (refine ⟨_, _, _, a_fieldM (gd_none rfl) rfl rfl rfl rfl rfl rfl rfl rfl rfl, (by first | rfl | kernel_rfl), ?_⟩))
  (first | (refine ⟨_, _, _, a_store_all (gd_none rfl) rfl rfl rfl rfl rfl rfl rfl rfl rfl rfl, (by first | rfl | kernel_rfl), ?_⟩) | (refine ⟨_, _, _, a_store (gd_none rfl) rfl rfl rfl rfl rfl rfl rfl rfl rfl rfl, (by first | rfl | kernel_rfl), ?_⟩) | (refine ⟨_, _, _, a_store_fld (gd_none rfl) rfl rfl rfl rfl rfl rfl rfl rfl rfl rfl rfl rfl, (by first | rfl | kernel_rfl), ?_⟩))
  refine ⟨.inl rfl, _, (wk_sub (s' := sstM s.sz (addV s v σ).mp (addV s v σ).sp (addV s v σ).lk) ⟨rfl, rfl, rfl, ?_, ?_, ?_, trivial⟩), rfl, rfl, rfl, rfl, rfl, rfl, rfl, trivial⟩
  · unfold addV; rw [← hwas]; rfl
  · unfold addV; rw [← hwas]; rfl
  · unfold addV
    simp only
    rw [← hwas, ← mr_put]
    rfl
theorem kAddVar_abs (s : Sc) (n : Nat) (hb : Bds s n) (hn : n ≤ 1000000000000) (v σ : Int) (hσ : σ = 1 ∨ σ = -1) : AFunO Try.prog 53 (sst s) [.bp 350001 0 [], .val (.i v), .val (.i σ)] (.tup []) (sst (addV s v σ)) := by
  rw [sst_M (s := addV s v σ) (mput_ne _ _ _)]
  by_cases h : s.mp = []
  · rw [sst_N h]; exact kAddVarN_abs s n hb hn v σ hσ h
  · rw [sst_M h]; exact kAddVarM_abs s n hb hn v σ hσ
end Go.Proofs.Ytahkegkahhbalaa


namespace Go.Proofs.Ytahkegkahhbalaa
open Go.RowKit
set_option linter.unusedVariables false
set_option linter.unusedSimpArgs false
set_option maxRecDepth 100000

/-- What add is to do with a term. -/
def KAdd (σ : Int) (t : Tm) : Prop := ∀ (s : Sc) (n : Nat), Bds s n → n + t.size ≤ 1000000000000 → AFunO Try.prog 32 (sst s) [.bp 350001 0 [], .val t.cw, .val (.i σ)] (.tup []) (sst (addT σ s t))
-- 
theorem kAddAll_of (σ : Int) (hσ : σ = 1 ∨ σ = -1) (l : List Tm) (hl : l.length ≤ 1000000000000) (ih : ∀ t ∈ l, KAdd σ t) (s : Sc) (n : Nat) (hb : Bds s n) (hn : n + (l.flatMap Tm.flat).length ≤ 1000000000000) : AFunO Try.prog 51 (sst s) [.bp 350001 0 [], .val (.lst (l.map Tm.cv)), .val (.i σ)] (.tup []) (sst (addL σ s l)) := by
  have hsz := Tm.size_all l
  refine afunO_of Try.func51 Try.ntmps51 rfl rfl rfl rfl rfl rfl ?_
  intro w U hU
  refine awp_seq (awp_region ?_)
  (refine ⟨_, _, _, a_move (gd_none rfl) rfl rfl rfl rfl rfl, (by first | rfl | kernel_rfl), ?_⟩)
  (first | (refine ⟨_, _, _, a_len (gd_none rfl) rfl rfl rfl rfl rfl rfl rfl, (by first | rfl | kernel_rfl), ?_⟩) | (refine ⟨_, _, _, a_lenM (gd_none rfl) rfl rfl rfl rfl rfl rfl rfl, (by first | rfl | kernel_rfl), ?_⟩))
  (refine ⟨_, _, _, a_move (gd_none rfl) rfl rfl rfl rfl rfl, (by first | rfl | kernel_rfl), ?_⟩)
  show AWp _ _ _ _ _ _ _
  refine awp_block (awp_count l.length (fun k => (0, .bp 350001 0 []) :: (2, .val (.i σ)) :: (8, .val (.lst (l.map Tm.cv))) :: (9, .val (.i (l.map Tm.cv).length)) :: (10, .val (.i k)) :: sst (addL σ s (l.take k))) (wk_sub ⟨rfl, rfl, rfl, rfl, rfl, rfl, rfl, rfl, rfl, rfl, rfl, trivial⟩) ?_)
  intro k hk
  refine awp_seq (awp_region ?_)
  (refine ⟨_, _, _, a_lss (gd_none rfl) rfl rfl rfl rfl rfl rfl, (by first | rfl | kernel_rfl), ?_⟩)
  show AWp _ _ _ _ _ _ _
  refine awp_seq (awp_cond rfl (fun hlt => ?_) (fun hlt => ?_))
  · have hkl : k < l.length := by simpa using hlt
    obtain ⟨x, hx⟩ : ∃ x, l[k]? = some x := ⟨l[k], List.getElem?_eq_getElem hkl⟩
    have hx' := Tm.map_at hx
    have hxm := List.mem_of_getElem? hx
    obtain ⟨sk, hsk⟩ : ∃ sk, sk = addL σ s (l.take k) := ⟨_, rfl⟩
    have hbk : Bds sk (n + ((l.take k).flatMap Tm.flat).length) := by rw [hsk]; exact hb.addL hσ
    have hnk : n + ((l.take k).flatMap Tm.flat).length + x.size ≤ 1000000000000 := by
      have h2 : (l.flatMap Tm.flat).length = ((l.take k).flatMap Tm.flat).length + ((l.drop k).flatMap Tm.flat).length := by
        conv => lhs; rw [← List.take_append_drop k l]
        rw [List.flatMap_append, List.length_append]
      have h3 : x.flat.length ≤ ((l.drop k).flatMap Tm.flat).length := flatMap_len_mem Tm.flat (List.mem_of_getElem? (i := 0) (by rw [List.getElem?_drop]; simpa using hx))
      unfold Tm.size
      omega
    have hstep := addL_take (σ := σ) (s := s) hx
    rw [← hsk] at hstep
    rw [← hsk]
    refine awp_skip ?_
    show AWp _ _ _ _ _ _ _
    refine awp_seq (awp_block (awp_seq (awp_region ?_)))
    (refine ⟨_, _, _, a_index (j := k) (gd_none rfl) rfl rfl rfl rfl rfl rfl rfl rfl rfl (hx') rfl (hsz), (by first | rfl | kernel_rfl), ?_⟩)
    (first | (refine ⟨_, _, _, a_load_all (gd_none rfl) rfl rfl rfl rfl rfl rfl rfl rfl rfl rfl rfl rfl, (by first | rfl | kernel_rfl), ?_⟩) | (refine ⟨_, _, _, a_load_tok (gd_none rfl) rfl rfl rfl rfl rfl rfl rfl rfl rfl rfl rfl rfl rfl, (by first | rfl | kernel_rfl), ?_⟩) | (refine ⟨_, _, _, a_load_bp (gd_none rfl) rfl rfl rfl rfl rfl rfl rfl rfl rfl rfl rfl rfl, (by first | rfl | kernel_rfl), ?_⟩) | (refine ⟨_, _, _, a_load_ad (gd_none rfl) rfl rfl rfl rfl rfl rfl rfl rfl rfl, (by first | rfl | kernel_rfl), ?_⟩) | (refine ⟨_, _, _, a_load_ptr (gd_none rfl) rfl rfl rfl rfl rfl rfl rfl rfl rfl, (by first | rfl | kernel_rfl), ?_⟩) | (refine ⟨_, _, _, a_load_fld (gd_none rfl) rfl rfl rfl rfl rfl rfl rfl rfl rfl rfl rfl rfl rfl, (by first | rfl | kernel_rfl), ?_⟩) | (refine ⟨_, _, _, a_load_fullv (gd_none rfl) rfl rfl rfl rfl rfl rfl rfl rfl rfl, (by first | rfl | kernel_rfl), ?_⟩))
    (refine ⟨_, _, _, a_alloc (gd_none rfl) rfl rfl rfl rfl rfl rfl rfl rfl rfl rfl, (by first | rfl | kernel_rfl), ?_⟩)
    (first | (refine ⟨_, _, _, a_store_all (gd_none rfl) rfl rfl rfl rfl rfl rfl rfl rfl rfl rfl, (by first | rfl | kernel_rfl), ?_⟩) | (refine ⟨_, _, _, a_store (gd_none rfl) rfl rfl rfl rfl rfl rfl rfl rfl rfl rfl, (by first | rfl | kernel_rfl), ?_⟩) | (refine ⟨_, _, _, a_store_fld (gd_none rfl) rfl rfl rfl rfl rfl rfl rfl rfl rfl rfl rfl rfl, (by first | rfl | kernel_rfl), ?_⟩))
    show AWp _ _ _ _ _ _ _
    refine awp_region ?_
    (refine ⟨_, _, _, a_move (gd_none rfl) rfl rfl rfl rfl rfl, (by first | rfl | kernel_rfl), ?_⟩)
    (first | (refine ⟨_, _, _, a_load_all (gd_none rfl) rfl rfl rfl rfl rfl rfl rfl rfl rfl rfl rfl rfl, (by first | rfl | kernel_rfl), ?_⟩) | (refine ⟨_, _, _, a_load_tok (gd_none rfl) rfl rfl rfl rfl rfl rfl rfl rfl rfl rfl rfl rfl rfl, (by first | rfl | kernel_rfl), ?_⟩) | (refine ⟨_, _, _, a_load_bp (gd_none rfl) rfl rfl rfl rfl rfl rfl rfl rfl rfl rfl rfl rfl, (by first | rfl | kernel_rfl), ?_⟩) | (refine ⟨_, _, _, a_load_ad (gd_none rfl) rfl rfl rfl rfl rfl rfl rfl rfl rfl, (by first | rfl | kernel_rfl), ?_⟩) | (refine ⟨_, _, _, a_load_ptr (gd_none rfl) rfl rfl rfl rfl rfl rfl rfl rfl rfl, (by first | rfl | kernel_rfl), ?_⟩) | (refine ⟨_, _, _, a_load_fld (gd_none rfl) rfl rfl rfl rfl rfl rfl rfl rfl rfl rfl rfl rfl rfl, (by first | rfl | kernel_rfl), ?_⟩) | (refine ⟨_, _, _, a_load_fullv (gd_none rfl) rfl rfl rfl rfl rfl rfl rfl rfl rfl, (by first | rfl | kernel_rfl), ?_⟩))
    (refine ⟨_, _, _, a_move (gd_none rfl) rfl rfl rfl rfl rfl, (by first | rfl | kernel_rfl), ?_⟩)
    (refine ⟨_, _, _, a_callO (gd_none rfl) rfl rfl rfl rfl rfl (ih x hxm sk _ hbk hnk) (by repeat (first | exact trivial | refine ⟨rfl, ?_⟩)) (sst_lend _) (sst_leave _) (by first | rfl | kernel_rfl) (by first | rfl | kernel_rfl) (hnb_of (by first | rfl | kernel_rfl)), (by first | rfl | kernel_rfl), ?_⟩)
    show AWp _ _ _ _ _ _ _
    refine awp_region ?_
    (refine ⟨_, _, _, a_add (gd_none rfl) rfl rfl rfl rfl rfl rfl (by first | omega | (simp only [List.length_map, List.length_append, List.length_cons, List.length_nil] <;> omega) | (simp <;> omega)), (by first | rfl | kernel_rfl), ?_⟩)
    (refine ⟨_, _, _, a_move (gd_none rfl) rfl rfl rfl rfl rfl, (by first | rfl | kernel_rfl), ?_⟩)
    refine ⟨hkl, wk_sub ⟨rfl, rfl, rfl, rfl, rfl, rfl, ?_, rfl, ?_, ?_, ?_, trivial⟩⟩
    all_goals (rw [hstep]; rfl)
  · have hkl : k = l.length := by
      have : ¬ k < l.length := by simpa using hlt
      omega
    subst hkl
    rw [List.take_length]
    refine awp_exit ?_
    exact ⟨.inl rfl, _, Wk.refl _, rfl, rfl, rfl, rfl, rfl, rfl, rfl, trivial⟩
-- 
theorem kAdd_abs (σ : Int) (hσ : σ = 1 ∨ σ = -1) : ∀ t : Tm, t.rng → t.ok → KAdd σ t := by
  intro t
  induction t using Tm.ind with
  | h f l ih =>
  intro hr hok s n hb hn
  have hok := (Tm.ok_iff _).1 hok
  have hr := (Tm.rng_iff _).1 hr
  simp only at hok hr
  have hb1 := hb.sz
  have hsp := Tm.size_pos ⟨f, l⟩
  refine afunO_of Try.func32 Try.ntmps32 rfl rfl rfl rfl rfl rfl ?_
  intro w U hU
  refine awp_seq (awp_region ?_)
  (refine ⟨_, _, _, a_box (gd_none rfl) rfl rfl rfl rfl rfl, (by first | rfl | kernel_rfl), ?_⟩)
  show AWp _ _ _ _ _ _ _
  refine awp_seq (awp_region ?_)
  (refine ⟨_, _, _, a_move (gd_none rfl) rfl rfl rfl rfl rfl, (by first | rfl | kernel_rfl), ?_⟩)
  (refine ⟨_, _, _, a_nilchk (gd_none rfl) rfl rfl rfl rfl rfl, (by first | rfl | kernel_rfl), ?_⟩)
  (first | (refine ⟨_, _, _, a_field_bp (gd_none rfl) rfl rfl rfl rfl rfl rfl rfl rfl rfl, (by first | rfl | kernel_rfl), ?_⟩) | (refine ⟨_, _, _, a_field_ad (gd_none rfl) rfl rfl rfl rfl rfl rfl rfl rfl rfl rfl rfl, (by first | rfl | kernel_rfl), ?_⟩) | (refine ⟨_, _, _, a_fieldM (gd_none rfl) rfl rfl rfl rfl rfl rfl rfl rfl rfl, (by first | rfl | kernel_rfl), ?_⟩))
  (first | (refine ⟨_, _, _, a_load_all (gd_none rfl) rfl rfl rfl rfl rfl rfl rfl rfl rfl rfl rfl rfl, (by first | rfl | kernel_rfl), ?_⟩) | (refine ⟨_, _, _, a_load_tok (gd_none rfl) rfl rfl rfl rfl rfl rfl rfl rfl rfl rfl rfl rfl rfl, (by first | rfl | kernel_rfl), ?_⟩) | (refine ⟨_, _, _, a_load_bp (gd_none rfl) rfl rfl rfl rfl rfl rfl rfl rfl rfl rfl rfl rfl, (by first | rfl | kernel_rfl), ?_⟩) | (refine ⟨_, _, _, a_load_ad (gd_none rfl) rfl rfl rfl rfl rfl rfl rfl rfl rfl, (by first | rfl | kernel_rfl), ?_⟩) | (refine ⟨_, _, _, a_load_ptr (gd_none rfl) rfl rfl rfl rfl rfl rfl rfl rfl rfl, (by first | rfl | kernel_rfl), ?_⟩) | (refine ⟨_, _, _, a_load_fld (gd_none rfl) rfl rfl rfl rfl rfl rfl rfl rfl rfl rfl rfl rfl rfl, (by first | rfl | kernel_rfl), ?_⟩) | (refine ⟨_, _, _, a_load_fullv (gd_none rfl) rfl rfl rfl rfl rfl rfl rfl rfl rfl, (by first | rfl | kernel_rfl), ?_⟩))
  (refine ⟨_, _, _, a_move (gd_none rfl) rfl rfl rfl rfl rfl, (by first | rfl | kernel_rfl), ?_⟩)
  (refine ⟨_, _, _, a_add (gd_none rfl) rfl rfl rfl rfl rfl rfl (by first | omega | (simp only [List.length_map, List.length_append, List.length_cons, List.length_nil] <;> omega) | (simp <;> omega)), (by first | rfl | kernel_rfl), ?_⟩)
  (refine ⟨_, _, _, a_nilchk (gd_none rfl) rfl rfl rfl rfl rfl, (by first | rfl | kernel_rfl), ?_⟩)
  (first | (refine ⟨_, _, _, a_field_bp (gd_none rfl) rfl rfl rfl rfl rfl rfl rfl rfl rfl, (by first | rfl | kernel_rfl), ?_⟩) | (refine ⟨_, _, _, a_field_ad (gd_none rfl) rfl rfl rfl rfl rfl rfl rfl rfl rfl rfl rfl, (by first | rfl | kernel_rfl), ?_⟩) | (refine ⟨_, _, _, a_fieldM (gd_none rfl) rfl rfl rfl rfl rfl rfl rfl rfl rfl, (by first | rfl | kernel_rfl), ?_⟩))
  (first | (refine ⟨_, _, _, a_store_all (gd_none rfl) rfl rfl rfl rfl rfl rfl rfl rfl rfl rfl, (by first | rfl | kernel_rfl), ?_⟩) | (refine ⟨_, _, _, a_store (gd_none rfl) rfl rfl rfl rfl rfl rfl rfl rfl rfl rfl, (by first | rfl | kernel_rfl), ?_⟩) | (refine ⟨_, _, _, a_store_fld (gd_none rfl) rfl rfl rfl rfl rfl rfl rfl rfl rfl rfl rfl rfl, (by first | rfl | kernel_rfl), ?_⟩))
  show AWp _ _ _ _ _ _ _
  obtain ⟨s1, hs1⟩ : ∃ s1 : Sc, s1 = ⟨s.sz + σ, s.mp, s.sp, s.lk⟩ := ⟨_, rfl⟩
  have hb' : Bds s1 (n + 1) := by
    obtain ⟨b1, b2, b3, b4⟩ := hb
    rw [hs1]
    exact ⟨by show _ ≤ s.sz + σ ∧ s.sz + σ ≤ _; omega, by simp only; omega, by simp only; omega, fun v => by have := b4 v; simp only; omega⟩
  refine AWp.wk (wk_sub (s' := (0, AV.bp 350001 0 []) :: (2, .val (.i σ)) :: (4, .bp 4 0 []) :: (100004, .bx (Tm.cw ⟨f, l⟩)) :: sst s1) ⟨rfl, rfl, rfl, rfl, rfl, ?_, rfl, ?_, ?_, ?_, trivial⟩) ?_
  · rw [hs1]; rfl
  · rw [hs1]; rfl
  · rw [hs1]; rfl
  · rw [hs1]; rfl
  refine awp_seq (awp_seq (awp_region ?_))
  (first | (refine ⟨_, _, _, a_load_all (gd_none rfl) rfl rfl rfl rfl rfl rfl rfl rfl rfl rfl rfl rfl, (by first | rfl | kernel_rfl), ?_⟩) | (refine ⟨_, _, _, a_load_tok (gd_none rfl) rfl rfl rfl rfl rfl rfl rfl rfl rfl rfl rfl rfl rfl, (by first | rfl | kernel_rfl), ?_⟩) | (refine ⟨_, _, _, a_load_bp (gd_none rfl) rfl rfl rfl rfl rfl rfl rfl rfl rfl rfl rfl rfl, (by first | rfl | kernel_rfl), ?_⟩) | (refine ⟨_, _, _, a_load_ad (gd_none rfl) rfl rfl rfl rfl rfl rfl rfl rfl rfl, (by first | rfl | kernel_rfl), ?_⟩) | (refine ⟨_, _, _, a_load_ptr (gd_none rfl) rfl rfl rfl rfl rfl rfl rfl rfl rfl, (by first | rfl | kernel_rfl), ?_⟩) | (refine ⟨_, _, _, a_load_fld (gd_none rfl) rfl rfl rfl rfl rfl rfl rfl rfl rfl rfl rfl rfl rfl, (by first | rfl | kernel_rfl), ?_⟩) | (refine ⟨_, _, _, a_load_fullv (gd_none rfl) rfl rfl rfl rfl rfl rfl rfl rfl rfl, (by first | rfl | kernel_rfl), ?_⟩))
  (refine ⟨_, _, _, a_call (gd_none rfl) rfl rfl rfl rfl rfl (kIsVar_abs w ⟨f, l⟩), (by first | rfl | kernel_rfl), ?_⟩)
  show AWp _ _ _ _ _ _ _
  refine awp_cond rfl (fun hc => ?_) (fun hc => ?_)
  · have hf : f < 0 := by simpa using hc
    rw [addT_var (t := ⟨f, l⟩) hf, ← hs1]
    refine awp_seq (awp_region ?_)
    (refine ⟨_, _, _, a_move (gd_none rfl) rfl rfl rfl rfl rfl, (by first | rfl | kernel_rfl), ?_⟩)
    (first | (refine ⟨_, _, _, a_load_all (gd_none rfl) rfl rfl rfl rfl rfl rfl rfl rfl rfl rfl rfl rfl, (by first | rfl | kernel_rfl), ?_⟩) | (refine ⟨_, _, _, a_load_tok (gd_none rfl) rfl rfl rfl rfl rfl rfl rfl rfl rfl rfl rfl rfl rfl, (by first | rfl | kernel_rfl), ?_⟩) | (refine ⟨_, _, _, a_load_bp (gd_none rfl) rfl rfl rfl rfl rfl rfl rfl rfl rfl rfl rfl rfl, (by first | rfl | kernel_rfl), ?_⟩) | (refine ⟨_, _, _, a_load_ad (gd_none rfl) rfl rfl rfl rfl rfl rfl rfl rfl rfl, (by first | rfl | kernel_rfl), ?_⟩) | (refine ⟨_, _, _, a_load_ptr (gd_none rfl) rfl rfl rfl rfl rfl rfl rfl rfl rfl, (by first | rfl | kernel_rfl), ?_⟩) | (refine ⟨_, _, _, a_load_fld (gd_none rfl) rfl rfl rfl rfl rfl rfl rfl rfl rfl rfl rfl rfl rfl, (by first | rfl | kernel_rfl), ?_⟩) | (refine ⟨_, _, _, a_load_fullv (gd_none rfl) rfl rfl rfl rfl rfl rfl rfl rfl rfl, (by first | rfl | kernel_rfl), ?_⟩))
    (refine ⟨_, _, _, a_call (gd_none rfl) rfl rfl rfl rfl rfl (kNumber_abs w ⟨f, l⟩ hr.1.1 hf), (by first | rfl | kernel_rfl), ?_⟩)
    (refine ⟨_, _, _, a_move (gd_none rfl) rfl rfl rfl rfl rfl, (by first | rfl | kernel_rfl), ?_⟩)
    (refine ⟨_, _, _, a_callO (gd_none rfl) rfl rfl rfl rfl rfl (kAddVar_abs s1 (n + 1) hb' (by omega) (-1 - f) σ hσ) (by repeat (first | exact trivial | refine ⟨rfl, ?_⟩)) (sst_lend _) (sst_leave _) (by first | rfl | kernel_rfl) (by first | rfl | kernel_rfl) (hnb_of (by first | rfl | kernel_rfl)), (by first | rfl | kernel_rfl), ?_⟩)
    show AWp _ _ _ _ _ _ _
    exact awp_ret ⟨.inr rfl, _, Wk.refl _, rfl, rfl, rfl, rfl, rfl, rfl, rfl, trivial⟩
  · have hf : ¬ f < 0 := by simpa using hc
    rw [addT_sym (t := ⟨f, l⟩) hf, ← hs1]
    have hse := Tm.size_eq ⟨f, l⟩
    rw [Tm.ps_of_sym (t := ⟨f, l⟩) (by show 0 ≤ f; omega)] at hse
    simp only at hse
    have hlen := Tm.len_ps ⟨f, l⟩
    rw [Tm.ps_of_sym (t := ⟨f, l⟩) (by show 0 ≤ f; omega)] at hlen
    simp only at hlen
    refine awp_skip ?_
    show AWp _ _ _ _ _ _ _
    refine awp_region ?_
    (refine ⟨_, _, _, a_move (gd_none rfl) rfl rfl rfl rfl rfl, (by first | rfl | kernel_rfl), ?_⟩)
    (first | (refine ⟨_, _, _, a_field_bp (gd_none rfl) rfl rfl rfl rfl rfl rfl rfl rfl rfl, (by first | rfl | kernel_rfl), ?_⟩) | (refine ⟨_, _, _, a_field_ad (gd_none rfl) rfl rfl rfl rfl rfl rfl rfl rfl rfl rfl rfl, (by first | rfl | kernel_rfl), ?_⟩) | (refine ⟨_, _, _, a_fieldM (gd_none rfl) rfl rfl rfl rfl rfl rfl rfl rfl rfl, (by first | rfl | kernel_rfl), ?_⟩))
    (first | (refine ⟨_, _, _, a_load_all (gd_none rfl) rfl rfl rfl rfl rfl rfl rfl rfl rfl rfl rfl rfl, (by first | rfl | kernel_rfl), ?_⟩) | (refine ⟨_, _, _, a_load_tok (gd_none rfl) rfl rfl rfl rfl rfl rfl rfl rfl rfl rfl rfl rfl rfl, (by first | rfl | kernel_rfl), ?_⟩) | (refine ⟨_, _, _, a_load_bp (gd_none rfl) rfl rfl rfl rfl rfl rfl rfl rfl rfl rfl rfl rfl, (by first | rfl | kernel_rfl), ?_⟩) | (refine ⟨_, _, _, a_load_ad (gd_none rfl) rfl rfl rfl rfl rfl rfl rfl rfl rfl, (by first | rfl | kernel_rfl), ?_⟩) | (refine ⟨_, _, _, a_load_ptr (gd_none rfl) rfl rfl rfl rfl rfl rfl rfl rfl rfl, (by first | rfl | kernel_rfl), ?_⟩) | (refine ⟨_, _, _, a_load_fld (gd_none rfl) rfl rfl rfl rfl rfl rfl rfl rfl rfl rfl rfl rfl rfl, (by first | rfl | kernel_rfl), ?_⟩) | (refine ⟨_, _, _, a_load_fullv (gd_none rfl) rfl rfl rfl rfl rfl rfl rfl rfl rfl, (by first | rfl | kernel_rfl), ?_⟩))
    (refine ⟨_, _, _, a_move (gd_none rfl) rfl rfl rfl rfl rfl, (by first | rfl | kernel_rfl), ?_⟩)
    (refine ⟨_, _, _, a_callO (gd_none rfl) rfl rfl rfl rfl rfl (kAddAll_of σ hσ l (by omega) (fun t ht => ih t ht (hr.2 t ht) (hok.2 t ht)) s1 (n + 1) hb' (by omega)) (by repeat (first | exact trivial | refine ⟨rfl, ?_⟩)) (sst_lend _) (sst_leave _) (by first | rfl | kernel_rfl) (by first | rfl | kernel_rfl) (hnb_of (by first | rfl | kernel_rfl)), (by first | rfl | kernel_rfl), ?_⟩)
    exact ⟨.inl rfl, _, Wk.refl _, rfl, rfl, rfl, rfl, rfl, rfl, rfl, trivial⟩
theorem kAddAll_abs (σ : Int) (hσ : σ = 1 ∨ σ = -1) (l : List Tm) (hl : l.length ≤ 1000000000000) (hr : ∀ t ∈ l, t.rng ∧ t.ok) (s : Sc) (n : Nat) (hb : Bds s n) (hn : n + (l.flatMap Tm.flat).length ≤ 1000000000000) : AFunO Try.prog 51 (sst s) [.bp 350001 0 [], .val (.lst (l.map Tm.cv)), .val (.i σ)] (.tup []) (sst (addL σ s l)) :=
  kAddAll_of σ hσ l hl (fun t ht => kAdd_abs σ hσ t (hr t ht).1 (hr t ht).2) s n hb hn

/-- What the scales say to what was seen within. -/
def ordS (s : Sc) (w : Int) : Int := if s.sz ≠ 0 then cmpZ s.sz 0 else w
def vdS (s : Sc) (w : Int) : Int := if (ordS s w = 1 ∧ 0 < s.lk) ∨ (ordS s w = -1 ∧ 0 < s.sp) then 2 else ordS s w
-- 
theorem kVerdict_abs (s : Sc) (x : Int) : AFunO Try.prog 49 (sst s) [.bp 350001 0 [], .val (.i x)] (.val (.i (vdS s x))) (sst s) := by
  refine afunO_of Try.func49 Try.ntmps49 rfl rfl rfl rfl rfl rfl ?_
  intro w U hU
  refine awp_seq (awp_region ?_)
  (refine ⟨_, _, _, a_assign (gd_none rfl) rfl rfl rfl rfl rfl, (by first | rfl | kernel_rfl), ?_⟩)
  show AWp _ _ _ _ _ _ _
  refine awp_seq (awp_region ?_)
  (refine ⟨_, _, _, a_move (gd_none rfl) rfl rfl rfl rfl rfl, (by first | rfl | kernel_rfl), ?_⟩)
  (refine ⟨_, _, _, a_assign (gd_none rfl) rfl rfl rfl rfl rfl, (by first | rfl | kernel_rfl), ?_⟩)
  show AWp _ _ _ _ _ _ _
  refine awp_mid ((0, AV.bp 350001 0 []) :: (5, .val (.i (ordS s x))) :: sst s) ?_ ?_
  · unfold ordS
    refine awp_seq (awp_region ?_)
    (refine ⟨_, _, _, a_move (gd_none rfl) rfl rfl rfl rfl rfl, (by first | rfl | kernel_rfl), ?_⟩)
    (refine ⟨_, _, _, a_nilchk (gd_none rfl) rfl rfl rfl rfl rfl, (by first | rfl | kernel_rfl), ?_⟩)
    (first | (refine ⟨_, _, _, a_field_bp (gd_none rfl) rfl rfl rfl rfl rfl rfl rfl rfl rfl, (by first | rfl | kernel_rfl), ?_⟩) | (refine ⟨_, _, _, a_field_ad (gd_none rfl) rfl rfl rfl rfl rfl rfl rfl rfl rfl rfl rfl, (by first | rfl | kernel_rfl), ?_⟩) | (refine ⟨_, _, _, a_fieldM (gd_none rfl) rfl rfl rfl rfl rfl rfl rfl rfl rfl, (by first | rfl | kernel_rfl), ?_⟩))
    (first | (refine ⟨_, _, _, a_load_all (gd_none rfl) rfl rfl rfl rfl rfl rfl rfl rfl rfl rfl rfl rfl, (by first | rfl | kernel_rfl), ?_⟩) | (refine ⟨_, _, _, a_load_tok (gd_none rfl) rfl rfl rfl rfl rfl rfl rfl rfl rfl rfl rfl rfl rfl, (by first | rfl | kernel_rfl), ?_⟩) | (refine ⟨_, _, _, a_load_bp (gd_none rfl) rfl rfl rfl rfl rfl rfl rfl rfl rfl rfl rfl rfl, (by first | rfl | kernel_rfl), ?_⟩) | (refine ⟨_, _, _, a_load_ad (gd_none rfl) rfl rfl rfl rfl rfl rfl rfl rfl rfl, (by first | rfl | kernel_rfl), ?_⟩) | (refine ⟨_, _, _, a_load_ptr (gd_none rfl) rfl rfl rfl rfl rfl rfl rfl rfl rfl, (by first | rfl | kernel_rfl), ?_⟩) | (refine ⟨_, _, _, a_load_fld (gd_none rfl) rfl rfl rfl rfl rfl rfl rfl rfl rfl rfl rfl rfl rfl, (by first | rfl | kernel_rfl), ?_⟩) | (refine ⟨_, _, _, a_load_fullv (gd_none rfl) rfl rfl rfl rfl rfl rfl rfl rfl rfl, (by first | rfl | kernel_rfl), ?_⟩))
    (first | (refine ⟨_, _, _, a_neq (gd_none rfl) rfl rfl rfl rfl rfl rfl, (by first | rfl | kernel_rfl), ?_⟩) | (refine ⟨_, _, _, a_bne (gd_none rfl) rfl rfl rfl rfl rfl rfl rfl, (by first | rfl | kernel_rfl), ?_⟩))
    show AWp _ _ _ _ _ _ _
    refine awp_cond rfl (fun hc => ?_) (fun hc => ?_)
    · have h : s.sz ≠ 0 := by simpa using hc
      rw [if_pos h]
      refine awp_region ?_
      (refine ⟨_, _, _, a_move (gd_none rfl) rfl rfl rfl rfl rfl, (by first | rfl | kernel_rfl), ?_⟩)
      (refine ⟨_, _, _, a_nilchk (gd_none rfl) rfl rfl rfl rfl rfl, (by first | rfl | kernel_rfl), ?_⟩)
      (first | (refine ⟨_, _, _, a_field_bp (gd_none rfl) rfl rfl rfl rfl rfl rfl rfl rfl rfl, (by first | rfl | kernel_rfl), ?_⟩) | (refine ⟨_, _, _, a_field_ad (gd_none rfl) rfl rfl rfl rfl rfl rfl rfl rfl rfl rfl rfl, (by first | rfl | kernel_rfl), ?_⟩) | (refine ⟨_, _, _, a_fieldM (gd_none rfl) rfl rfl rfl rfl rfl rfl rfl rfl rfl, (by first | rfl | kernel_rfl), ?_⟩))
      (first | (refine ⟨_, _, _, a_load_all (gd_none rfl) rfl rfl rfl rfl rfl rfl rfl rfl rfl rfl rfl rfl, (by first | rfl | kernel_rfl), ?_⟩) | (refine ⟨_, _, _, a_load_tok (gd_none rfl) rfl rfl rfl rfl rfl rfl rfl rfl rfl rfl rfl rfl rfl, (by first | rfl | kernel_rfl), ?_⟩) | (refine ⟨_, _, _, a_load_bp (gd_none rfl) rfl rfl rfl rfl rfl rfl rfl rfl rfl rfl rfl rfl, (by first | rfl | kernel_rfl), ?_⟩) | (refine ⟨_, _, _, a_load_ad (gd_none rfl) rfl rfl rfl rfl rfl rfl rfl rfl rfl, (by first | rfl | kernel_rfl), ?_⟩) | (refine ⟨_, _, _, a_load_ptr (gd_none rfl) rfl rfl rfl rfl rfl rfl rfl rfl rfl, (by first | rfl | kernel_rfl), ?_⟩) | (refine ⟨_, _, _, a_load_fld (gd_none rfl) rfl rfl rfl rfl rfl rfl rfl rfl rfl rfl rfl rfl rfl, (by first | rfl | kernel_rfl), ?_⟩) | (refine ⟨_, _, _, a_load_fullv (gd_none rfl) rfl rfl rfl rfl rfl rfl rfl rfl rfl, (by first | rfl | kernel_rfl), ?_⟩))
      (refine ⟨_, _, _, a_call (gd_none rfl) rfl rfl rfl rfl rfl (cmp_abs w s.sz 0), (by first | rfl | kernel_rfl), ?_⟩)
      (refine ⟨_, _, _, a_assign (gd_none rfl) rfl rfl rfl rfl rfl, (by first | rfl | kernel_rfl), ?_⟩)
      exact wk_sub ⟨rfl, rfl, rfl, rfl, rfl, rfl, rfl, rfl, trivial⟩
    · have h : ¬ s.sz ≠ 0 := by simpa using hc
      rw [if_neg h]
      refine awp_skip ?_
      exact wk_sub ⟨rfl, rfl, rfl, rfl, rfl, rfl, rfl, rfl, trivial⟩
  unfold vdS
  generalize ordS s x = o
  by_cases h1 : o = 1
  · subst h1
    by_cases h2 : 0 < s.lk
    · have g : decide (s.lk > 0) = true := by simpa using h2
      rw [if_pos (.inl ⟨rfl, h2⟩)]
      refine awp_seq (awp_seq (awp_region ?_))
      (refine ⟨_, _, _, a_move (gd_none rfl) rfl rfl rfl rfl rfl, (by first | rfl | kernel_rfl), ?_⟩)
      (first | (refine ⟨_, _, _, a_eql (gd_none rfl) rfl rfl rfl rfl rfl rfl, (by first | rfl | kernel_rfl), ?_⟩) | (refine ⟨_, _, _, a_beq (gd_none rfl) rfl rfl rfl rfl rfl rfl rfl, (by first | rfl | kernel_rfl), ?_⟩))
      (refine ⟨_, _, _, a_move (gd_none rfl) rfl rfl rfl rfl rfl, (by first | rfl | kernel_rfl), ?_⟩)
      (refine ⟨_, _, _, a_move (gd_on rfl rfl rfl rfl (by first | rfl | assumption | (simp; done))) rfl rfl rfl rfl rfl, (by first | rfl | kernel_rfl), ?_⟩)
      (refine ⟨_, _, _, a_nilchk (gd_on rfl rfl rfl rfl (by first | rfl | assumption | (simp; done))) rfl rfl rfl rfl rfl, (by first | rfl | kernel_rfl), ?_⟩)
      (first | (refine ⟨_, _, _, a_field_bp (gd_on rfl rfl rfl rfl (by first | rfl | assumption | (simp; done))) rfl rfl rfl rfl rfl rfl rfl rfl rfl, (by first | rfl | kernel_rfl), ?_⟩) | (refine ⟨_, _, _, a_field_ad (gd_on rfl rfl rfl rfl (by first | rfl | assumption | (simp; done))) rfl rfl rfl rfl rfl rfl rfl rfl rfl rfl rfl, (by first | rfl | kernel_rfl), ?_⟩) | (refine ⟨_, _, _, a_fieldM (gd_on rfl rfl rfl rfl (by first | rfl | assumption | (simp; done))) rfl rfl rfl rfl rfl rfl rfl rfl rfl, (by first | rfl | kernel_rfl), ?_⟩))
      (first | (refine ⟨_, _, _, a_load_all (gd_on rfl rfl rfl rfl (by first | rfl | assumption | (simp; done))) rfl rfl rfl rfl rfl rfl rfl rfl rfl rfl rfl rfl, (by first | rfl | kernel_rfl), ?_⟩) | (refine ⟨_, _, _, a_load_tok (gd_on rfl rfl rfl rfl (by first | rfl | assumption | (simp; done))) rfl rfl rfl rfl rfl rfl rfl rfl rfl rfl rfl rfl rfl, (by first | rfl | kernel_rfl), ?_⟩) | (refine ⟨_, _, _, a_load_bp (gd_on rfl rfl rfl rfl (by first | rfl | assumption | (simp; done))) rfl rfl rfl rfl rfl rfl rfl rfl rfl rfl rfl rfl, (by first | rfl | kernel_rfl), ?_⟩) | (refine ⟨_, _, _, a_load_ad (gd_on rfl rfl rfl rfl (by first | rfl | assumption | (simp; done))) rfl rfl rfl rfl rfl rfl rfl rfl rfl, (by first | rfl | kernel_rfl), ?_⟩) | (refine ⟨_, _, _, a_load_ptr (gd_on rfl rfl rfl rfl (by first | rfl | assumption | (simp; done))) rfl rfl rfl rfl rfl rfl rfl rfl rfl, (by first | rfl | kernel_rfl), ?_⟩) | (refine ⟨_, _, _, a_load_fld (gd_on rfl rfl rfl rfl (by first | rfl | assumption | (simp; done))) rfl rfl rfl rfl rfl rfl rfl rfl rfl rfl rfl rfl rfl, (by first | rfl | kernel_rfl), ?_⟩) | (refine ⟨_, _, _, a_load_fullv (gd_on rfl rfl rfl rfl (by first | rfl | assumption | (simp; done))) rfl rfl rfl rfl rfl rfl rfl rfl rfl, (by first | rfl | kernel_rfl), ?_⟩))
      (refine ⟨_, _, _, a_gtr (gd_on rfl rfl rfl rfl (by first | rfl | assumption | (simp; done))) rfl rfl rfl rfl rfl rfl, (by first | rfl | kernel_rfl), ?_⟩)
      (first | (refine ⟨_, _, _, a_pick_t (gd_none rfl) rfl rfl rfl rfl rfl ?hb rfl, rfl, ?_⟩; case hb => (first | rfl | assumption | (simp; done))) | (refine ⟨_, _, _, a_pick_f (gd_none rfl) rfl rfl rfl rfl rfl ?hb rfl, rfl, ?_⟩; case hb => (first | rfl | assumption | (simp; done))))
      (refine ⟨_, _, _, a_move (gd_none rfl) rfl rfl rfl rfl rfl, (by first | rfl | kernel_rfl), ?_⟩)
      (first | (refine ⟨_, _, _, a_offt (go_off rfl rfl rfl rfl (by first | rfl | assumption | (simp; done) | (simp [*]; done))) rfl rfl rfl, rfl, ?_⟩) | (refine ⟨_, _, _, a_offt (go_off_t rfl rfl rfl rfl) rfl rfl rfl, rfl, ?_⟩))
      (first | (refine ⟨_, _, _, a_offt (go_off rfl rfl rfl rfl (by first | rfl | assumption | (simp; done) | (simp [*]; done))) rfl rfl rfl, rfl, ?_⟩) | (refine ⟨_, _, _, a_offt (go_off_t rfl rfl rfl rfl) rfl rfl rfl, rfl, ?_⟩))
      (first | (refine ⟨_, _, _, a_offt (go_off rfl rfl rfl rfl (by first | rfl | assumption | (simp; done) | (simp [*]; done))) rfl rfl rfl, rfl, ?_⟩) | (refine ⟨_, _, _, a_offt (go_off_t rfl rfl rfl rfl) rfl rfl rfl, rfl, ?_⟩))
      (first | (refine ⟨_, _, _, a_offt (go_off rfl rfl rfl rfl (by first | rfl | assumption | (simp; done) | (simp [*]; done))) rfl rfl rfl, rfl, ?_⟩) | (refine ⟨_, _, _, a_offt (go_off_t rfl rfl rfl rfl) rfl rfl rfl, rfl, ?_⟩))
      (first | (refine ⟨_, _, _, a_offt (go_off rfl rfl rfl rfl (by first | rfl | assumption | (simp; done) | (simp [*]; done))) rfl rfl rfl, rfl, ?_⟩) | (refine ⟨_, _, _, a_offt (go_off_t rfl rfl rfl rfl) rfl rfl rfl, rfl, ?_⟩))
      (first | (refine ⟨_, _, _, a_offt (go_off rfl rfl rfl rfl (by first | rfl | assumption | (simp; done) | (simp [*]; done))) rfl rfl rfl, rfl, ?_⟩) | (refine ⟨_, _, _, a_offt (go_off_t rfl rfl rfl rfl) rfl rfl rfl, rfl, ?_⟩))
      (first | (refine ⟨_, _, _, a_offt (go_off rfl rfl rfl rfl (by first | rfl | assumption | (simp; done) | (simp [*]; done))) rfl rfl rfl, rfl, ?_⟩) | (refine ⟨_, _, _, a_offt (go_off_t rfl rfl rfl rfl) rfl rfl rfl, rfl, ?_⟩))
      (first | (refine ⟨_, _, _, a_offt (go_off rfl rfl rfl rfl (by first | rfl | assumption | (simp; done) | (simp [*]; done))) rfl rfl rfl, rfl, ?_⟩) | (refine ⟨_, _, _, a_offt (go_off_t rfl rfl rfl rfl) rfl rfl rfl, rfl, ?_⟩))
      (first | (refine ⟨_, _, _, a_offt (go_off rfl rfl rfl rfl (by first | rfl | assumption | (simp; done) | (simp [*]; done))) rfl rfl rfl, rfl, ?_⟩) | (refine ⟨_, _, _, a_offt (go_off_t rfl rfl rfl rfl) rfl rfl rfl, rfl, ?_⟩))
      (first | (refine ⟨_, _, _, a_pick_t (gd_none rfl) rfl rfl rfl rfl rfl ?hb rfl, rfl, ?_⟩; case hb => (first | rfl | assumption | (simp; done))) | (refine ⟨_, _, _, a_pick_f (gd_none rfl) rfl rfl rfl rfl rfl ?hb rfl, rfl, ?_⟩; case hb => (first | rfl | assumption | (simp; done))))
      show AWp _ _ _ _ _ _ _
      refine awp_cond rfl (fun hc => ?_) (fun hc => by cases hc)
      refine awp_seq (awp_region ?_)
      (refine ⟨_, _, _, a_assign (gd_none rfl) rfl rfl rfl rfl rfl, (by first | rfl | kernel_rfl), ?_⟩)
      show AWp _ _ _ _ _ _ _
      exact awp_ret ⟨.inr rfl, _, Wk.refl _, rfl, rfl, rfl, rfl, rfl, rfl, rfl, trivial⟩
    · have g : decide (s.lk > 0) = false := by simpa using h2
      rw [if_neg (by omega)]
      refine awp_seq (awp_seq (awp_region ?_))
      (refine ⟨_, _, _, a_move (gd_none rfl) rfl rfl rfl rfl rfl, (by first | rfl | kernel_rfl), ?_⟩)
      (first | (refine ⟨_, _, _, a_eql (gd_none rfl) rfl rfl rfl rfl rfl rfl, (by first | rfl | kernel_rfl), ?_⟩) | (refine ⟨_, _, _, a_beq (gd_none rfl) rfl rfl rfl rfl rfl rfl rfl, (by first | rfl | kernel_rfl), ?_⟩))
      (refine ⟨_, _, _, a_move (gd_none rfl) rfl rfl rfl rfl rfl, (by first | rfl | kernel_rfl), ?_⟩)
      (refine ⟨_, _, _, a_move (gd_on rfl rfl rfl rfl (by first | rfl | assumption | (simp; done))) rfl rfl rfl rfl rfl, (by first | rfl | kernel_rfl), ?_⟩)
      (refine ⟨_, _, _, a_nilchk (gd_on rfl rfl rfl rfl (by first | rfl | assumption | (simp; done))) rfl rfl rfl rfl rfl, (by first | rfl | kernel_rfl), ?_⟩)
      (first | (refine ⟨_, _, _, a_field_bp (gd_on rfl rfl rfl rfl (by first | rfl | assumption | (simp; done))) rfl rfl rfl rfl rfl rfl rfl rfl rfl, (by first | rfl | kernel_rfl), ?_⟩) | (refine ⟨_, _, _, a_field_ad (gd_on rfl rfl rfl rfl (by first | rfl | assumption | (simp; done))) rfl rfl rfl rfl rfl rfl rfl rfl rfl rfl rfl, (by first | rfl | kernel_rfl), ?_⟩) | (refine ⟨_, _, _, a_fieldM (gd_on rfl rfl rfl rfl (by first | rfl | assumption | (simp; done))) rfl rfl rfl rfl rfl rfl rfl rfl rfl, (by first | rfl | kernel_rfl), ?_⟩))
      (first | (refine ⟨_, _, _, a_load_all (gd_on rfl rfl rfl rfl (by first | rfl | assumption | (simp; done))) rfl rfl rfl rfl rfl rfl rfl rfl rfl rfl rfl rfl, (by first | rfl | kernel_rfl), ?_⟩) | (refine ⟨_, _, _, a_load_tok (gd_on rfl rfl rfl rfl (by first | rfl | assumption | (simp; done))) rfl rfl rfl rfl rfl rfl rfl rfl rfl rfl rfl rfl rfl, (by first | rfl | kernel_rfl), ?_⟩) | (refine ⟨_, _, _, a_load_bp (gd_on rfl rfl rfl rfl (by first | rfl | assumption | (simp; done))) rfl rfl rfl rfl rfl rfl rfl rfl rfl rfl rfl rfl, (by first | rfl | kernel_rfl), ?_⟩) | (refine ⟨_, _, _, a_load_ad (gd_on rfl rfl rfl rfl (by first | rfl | assumption | (simp; done))) rfl rfl rfl rfl rfl rfl rfl rfl rfl, (by first | rfl | kernel_rfl), ?_⟩) | (refine ⟨_, _, _, a_load_ptr (gd_on rfl rfl rfl rfl (by first | rfl | assumption | (simp; done))) rfl rfl rfl rfl rfl rfl rfl rfl rfl, (by first | rfl | kernel_rfl), ?_⟩) | (refine ⟨_, _, _, a_load_fld (gd_on rfl rfl rfl rfl (by first | rfl | assumption | (simp; done))) rfl rfl rfl rfl rfl rfl rfl rfl rfl rfl rfl rfl rfl, (by first | rfl | kernel_rfl), ?_⟩) | (refine ⟨_, _, _, a_load_fullv (gd_on rfl rfl rfl rfl (by first | rfl | assumption | (simp; done))) rfl rfl rfl rfl rfl rfl rfl rfl rfl, (by first | rfl | kernel_rfl), ?_⟩))
      (refine ⟨_, _, _, a_gtr (gd_on rfl rfl rfl rfl (by first | rfl | assumption | (simp; done))) rfl rfl rfl rfl rfl rfl, (by first | rfl | kernel_rfl), ?_⟩)
      (first | (refine ⟨_, _, _, a_pick_t (gd_none rfl) rfl rfl rfl rfl rfl ?hb rfl, rfl, ?_⟩; case hb => (first | rfl | assumption | (simp; done))) | (refine ⟨_, _, _, a_pick_f (gd_none rfl) rfl rfl rfl rfl rfl ?hb rfl, rfl, ?_⟩; case hb => (first | rfl | assumption | (simp; done))))
      (refine ⟨_, _, _, a_move (gd_none rfl) rfl rfl rfl rfl rfl, (by first | rfl | kernel_rfl), ?_⟩)
      (refine ⟨_, _, _, a_move (gd_on rfl rfl rfl rfl (by first | rfl | assumption | (simp; done))) rfl rfl rfl rfl rfl, (by first | rfl | kernel_rfl), ?_⟩)
      (first | (refine ⟨_, _, _, a_eql (gd_on rfl rfl rfl rfl (by first | rfl | assumption | (simp; done))) rfl rfl rfl rfl rfl rfl, (by first | rfl | kernel_rfl), ?_⟩) | (refine ⟨_, _, _, a_beq (gd_on rfl rfl rfl rfl (by first | rfl | assumption | (simp; done))) rfl rfl rfl rfl rfl rfl rfl, (by first | rfl | kernel_rfl), ?_⟩))
      (refine ⟨_, _, _, a_move (gd_on rfl rfl rfl rfl (by first | rfl | assumption | (simp; done))) rfl rfl rfl rfl rfl, (by first | rfl | kernel_rfl), ?_⟩)
      (first | (refine ⟨_, _, _, a_offt (go_off rfl rfl rfl rfl (by first | rfl | assumption | (simp; done) | (simp [*]; done))) rfl rfl rfl, rfl, ?_⟩) | (refine ⟨_, _, _, a_offt (go_off_t rfl rfl rfl rfl) rfl rfl rfl, rfl, ?_⟩))
      (first | (refine ⟨_, _, _, a_offt (go_off rfl rfl rfl rfl (by first | rfl | assumption | (simp; done) | (simp [*]; done))) rfl rfl rfl, rfl, ?_⟩) | (refine ⟨_, _, _, a_offt (go_off_t rfl rfl rfl rfl) rfl rfl rfl, rfl, ?_⟩))
      (first | (refine ⟨_, _, _, a_offt (go_off rfl rfl rfl rfl (by first | rfl | assumption | (simp; done) | (simp [*]; done))) rfl rfl rfl, rfl, ?_⟩) | (refine ⟨_, _, _, a_offt (go_off_t rfl rfl rfl rfl) rfl rfl rfl, rfl, ?_⟩))
      (first | (refine ⟨_, _, _, a_offt (go_off rfl rfl rfl rfl (by first | rfl | assumption | (simp; done) | (simp [*]; done))) rfl rfl rfl, rfl, ?_⟩) | (refine ⟨_, _, _, a_offt (go_off_t rfl rfl rfl rfl) rfl rfl rfl, rfl, ?_⟩))
      (first | (refine ⟨_, _, _, a_offt (go_off rfl rfl rfl rfl (by first | rfl | assumption | (simp; done) | (simp [*]; done))) rfl rfl rfl, rfl, ?_⟩) | (refine ⟨_, _, _, a_offt (go_off_t rfl rfl rfl rfl) rfl rfl rfl, rfl, ?_⟩))
      (first | (refine ⟨_, _, _, a_pick_t (gd_on rfl rfl rfl rfl (by first | rfl | assumption | (simp; done))) rfl rfl rfl rfl rfl ?hb rfl, rfl, ?_⟩; case hb => (first | rfl | assumption | (simp; done))) | (refine ⟨_, _, _, a_pick_f (gd_on rfl rfl rfl rfl (by first | rfl | assumption | (simp; done))) rfl rfl rfl rfl rfl ?hb rfl, rfl, ?_⟩; case hb => (first | rfl | assumption | (simp; done))))
      (first | (refine ⟨_, _, _, a_pick_t (gd_none rfl) rfl rfl rfl rfl rfl ?hb rfl, rfl, ?_⟩; case hb => (first | rfl | assumption | (simp; done))) | (refine ⟨_, _, _, a_pick_f (gd_none rfl) rfl rfl rfl rfl rfl ?hb rfl, rfl, ?_⟩; case hb => (first | rfl | assumption | (simp; done))))
      show AWp _ _ _ _ _ _ _
      refine awp_cond rfl (fun hc => by cases hc) (fun hc => awp_skip ?_)
      show AWp _ _ _ _ _ _ _
      refine awp_seq (awp_region ?_)
      (refine ⟨_, _, _, a_move (gd_none rfl) rfl rfl rfl rfl rfl, (by first | rfl | kernel_rfl), ?_⟩)
      (refine ⟨_, _, _, a_assign (gd_none rfl) rfl rfl rfl rfl rfl, (by first | rfl | kernel_rfl), ?_⟩)
      show AWp _ _ _ _ _ _ _
      exact awp_ret ⟨.inr rfl, _, Wk.refl _, rfl, rfl, rfl, rfl, rfl, rfl, rfl, trivial⟩
  · have g1 : decide (o = 1) = false := by simpa using h1
    by_cases h2 : o = -1
    · subst h2
      by_cases h3 : 0 < s.sp
      · have g : decide (s.sp > 0) = true := by simpa using h3
        rw [if_pos (.inr ⟨rfl, h3⟩)]
        refine awp_seq (awp_seq (awp_region ?_))
        (refine ⟨_, _, _, a_move (gd_none rfl) rfl rfl rfl rfl rfl, (by first | rfl | kernel_rfl), ?_⟩)
        (first | (refine ⟨_, _, _, a_eql (gd_none rfl) rfl rfl rfl rfl rfl rfl, (by first | rfl | kernel_rfl), ?_⟩) | (refine ⟨_, _, _, a_beq (gd_none rfl) rfl rfl rfl rfl rfl rfl rfl, (by first | rfl | kernel_rfl), ?_⟩))
        (refine ⟨_, _, _, a_move (gd_none rfl) rfl rfl rfl rfl rfl, (by first | rfl | kernel_rfl), ?_⟩)
        (first | (refine ⟨_, _, _, a_offt (go_off rfl rfl rfl rfl (by first | rfl | assumption | (simp; done) | (simp [*]; done))) rfl rfl rfl, rfl, ?_⟩) | (refine ⟨_, _, _, a_offt (go_off_t rfl rfl rfl rfl) rfl rfl rfl, rfl, ?_⟩))
        (first | (refine ⟨_, _, _, a_offt (go_off rfl rfl rfl rfl (by first | rfl | assumption | (simp; done) | (simp [*]; done))) rfl rfl rfl, rfl, ?_⟩) | (refine ⟨_, _, _, a_offt (go_off_t rfl rfl rfl rfl) rfl rfl rfl, rfl, ?_⟩))
        (first | (refine ⟨_, _, _, a_offt (go_off rfl rfl rfl rfl (by first | rfl | assumption | (simp; done) | (simp [*]; done))) rfl rfl rfl, rfl, ?_⟩) | (refine ⟨_, _, _, a_offt (go_off_t rfl rfl rfl rfl) rfl rfl rfl, rfl, ?_⟩))
        (first | (refine ⟨_, _, _, a_offt (go_off rfl rfl rfl rfl (by first | rfl | assumption | (simp; done) | (simp [*]; done))) rfl rfl rfl, rfl, ?_⟩) | (refine ⟨_, _, _, a_offt (go_off_t rfl rfl rfl rfl) rfl rfl rfl, rfl, ?_⟩))
        (first | (refine ⟨_, _, _, a_offt (go_off rfl rfl rfl rfl (by first | rfl | assumption | (simp; done) | (simp [*]; done))) rfl rfl rfl, rfl, ?_⟩) | (refine ⟨_, _, _, a_offt (go_off_t rfl rfl rfl rfl) rfl rfl rfl, rfl, ?_⟩))
        (first | (refine ⟨_, _, _, a_pick_t (gd_none rfl) rfl rfl rfl rfl rfl ?hb rfl, rfl, ?_⟩; case hb => (first | rfl | assumption | (simp; done))) | (refine ⟨_, _, _, a_pick_f (gd_none rfl) rfl rfl rfl rfl rfl ?hb rfl, rfl, ?_⟩; case hb => (first | rfl | assumption | (simp; done))))
        (refine ⟨_, _, _, a_move (gd_none rfl) rfl rfl rfl rfl rfl, (by first | rfl | kernel_rfl), ?_⟩)
        (refine ⟨_, _, _, a_move (gd_on rfl rfl rfl rfl (by first | rfl | assumption | (simp; done))) rfl rfl rfl rfl rfl, (by first | rfl | kernel_rfl), ?_⟩)
        (first | (refine ⟨_, _, _, a_eql (gd_on rfl rfl rfl rfl (by first | rfl | assumption | (simp; done))) rfl rfl rfl rfl rfl rfl, (by first | rfl | kernel_rfl), ?_⟩) | (refine ⟨_, _, _, a_beq (gd_on rfl rfl rfl rfl (by first | rfl | assumption | (simp; done))) rfl rfl rfl rfl rfl rfl rfl, (by first | rfl | kernel_rfl), ?_⟩))
        (refine ⟨_, _, _, a_move (gd_on rfl rfl rfl rfl (by first | rfl | assumption | (simp; done))) rfl rfl rfl rfl rfl, (by first | rfl | kernel_rfl), ?_⟩)
        (refine ⟨_, _, _, a_move (gd_on rfl rfl rfl rfl (by first | rfl | assumption | (simp; done))) rfl rfl rfl rfl rfl, (by first | rfl | kernel_rfl), ?_⟩)
        (refine ⟨_, _, _, a_nilchk (gd_on rfl rfl rfl rfl (by first | rfl | assumption | (simp; done))) rfl rfl rfl rfl rfl, (by first | rfl | kernel_rfl), ?_⟩)
        (first | (refine ⟨_, _, _, a_field_bp (gd_on rfl rfl rfl rfl (by first | rfl | assumption | (simp; done))) rfl rfl rfl rfl rfl rfl rfl rfl rfl, (by first | rfl | kernel_rfl), ?_⟩) | (refine ⟨_, _, _, a_field_ad (gd_on rfl rfl rfl rfl (by first | rfl | assumption | (simp; done))) rfl rfl rfl rfl rfl rfl rfl rfl rfl rfl rfl, (by first | rfl | kernel_rfl), ?_⟩) | (refine ⟨_, _, _, a_fieldM (gd_on rfl rfl rfl rfl (by first | rfl | assumption | (simp; done))) rfl rfl rfl rfl rfl rfl rfl rfl rfl, (by first | rfl | kernel_rfl), ?_⟩))
        (first | (refine ⟨_, _, _, a_load_all (gd_on rfl rfl rfl rfl (by first | rfl | assumption | (simp; done))) rfl rfl rfl rfl rfl rfl rfl rfl rfl rfl rfl rfl, (by first | rfl | kernel_rfl), ?_⟩) | (refine ⟨_, _, _, a_load_tok (gd_on rfl rfl rfl rfl (by first | rfl | assumption | (simp; done))) rfl rfl rfl rfl rfl rfl rfl rfl rfl rfl rfl rfl rfl, (by first | rfl | kernel_rfl), ?_⟩) | (refine ⟨_, _, _, a_load_bp (gd_on rfl rfl rfl rfl (by first | rfl | assumption | (simp; done))) rfl rfl rfl rfl rfl rfl rfl rfl rfl rfl rfl rfl, (by first | rfl | kernel_rfl), ?_⟩) | (refine ⟨_, _, _, a_load_ad (gd_on rfl rfl rfl rfl (by first | rfl | assumption | (simp; done))) rfl rfl rfl rfl rfl rfl rfl rfl rfl, (by first | rfl | kernel_rfl), ?_⟩) | (refine ⟨_, _, _, a_load_ptr (gd_on rfl rfl rfl rfl (by first | rfl | assumption | (simp; done))) rfl rfl rfl rfl rfl rfl rfl rfl rfl, (by first | rfl | kernel_rfl), ?_⟩) | (refine ⟨_, _, _, a_load_fld (gd_on rfl rfl rfl rfl (by first | rfl | assumption | (simp; done))) rfl rfl rfl rfl rfl rfl rfl rfl rfl rfl rfl rfl rfl, (by first | rfl | kernel_rfl), ?_⟩) | (refine ⟨_, _, _, a_load_fullv (gd_on rfl rfl rfl rfl (by first | rfl | assumption | (simp; done))) rfl rfl rfl rfl rfl rfl rfl rfl rfl, (by first | rfl | kernel_rfl), ?_⟩))
        (refine ⟨_, _, _, a_gtr (gd_on rfl rfl rfl rfl (by first | rfl | assumption | (simp; done))) rfl rfl rfl rfl rfl rfl, (by first | rfl | kernel_rfl), ?_⟩)
        (first | (refine ⟨_, _, _, a_pick_t (gd_on rfl rfl rfl rfl (by first | rfl | assumption | (simp; done))) rfl rfl rfl rfl rfl ?hb rfl, rfl, ?_⟩; case hb => (first | rfl | assumption | (simp; done))) | (refine ⟨_, _, _, a_pick_f (gd_on rfl rfl rfl rfl (by first | rfl | assumption | (simp; done))) rfl rfl rfl rfl rfl ?hb rfl, rfl, ?_⟩; case hb => (first | rfl | assumption | (simp; done))))
        (first | (refine ⟨_, _, _, a_pick_t (gd_none rfl) rfl rfl rfl rfl rfl ?hb rfl, rfl, ?_⟩; case hb => (first | rfl | assumption | (simp; done))) | (refine ⟨_, _, _, a_pick_f (gd_none rfl) rfl rfl rfl rfl rfl ?hb rfl, rfl, ?_⟩; case hb => (first | rfl | assumption | (simp; done))))
        show AWp _ _ _ _ _ _ _
        refine awp_cond rfl (fun hc => ?_) (fun hc => by rw [g] at hc; cases hc)
        refine awp_seq (awp_region ?_)
        (refine ⟨_, _, _, a_assign (gd_none rfl) rfl rfl rfl rfl rfl, (by first | rfl | kernel_rfl), ?_⟩)
        show AWp _ _ _ _ _ _ _
        exact awp_ret ⟨.inr rfl, _, Wk.refl _, rfl, rfl, rfl, rfl, rfl, rfl, rfl, trivial⟩
      · have g : decide (s.sp > 0) = false := by simpa using h3
        rw [if_neg (by omega)]
        refine awp_seq (awp_seq (awp_region ?_))
        (refine ⟨_, _, _, a_move (gd_none rfl) rfl rfl rfl rfl rfl, (by first | rfl | kernel_rfl), ?_⟩)
        (first | (refine ⟨_, _, _, a_eql (gd_none rfl) rfl rfl rfl rfl rfl rfl, (by first | rfl | kernel_rfl), ?_⟩) | (refine ⟨_, _, _, a_beq (gd_none rfl) rfl rfl rfl rfl rfl rfl rfl, (by first | rfl | kernel_rfl), ?_⟩))
        (refine ⟨_, _, _, a_move (gd_none rfl) rfl rfl rfl rfl rfl, (by first | rfl | kernel_rfl), ?_⟩)
        (first | (refine ⟨_, _, _, a_offt (go_off rfl rfl rfl rfl (by first | rfl | assumption | (simp; done) | (simp [*]; done))) rfl rfl rfl, rfl, ?_⟩) | (refine ⟨_, _, _, a_offt (go_off_t rfl rfl rfl rfl) rfl rfl rfl, rfl, ?_⟩))
        (first | (refine ⟨_, _, _, a_offt (go_off rfl rfl rfl rfl (by first | rfl | assumption | (simp; done) | (simp [*]; done))) rfl rfl rfl, rfl, ?_⟩) | (refine ⟨_, _, _, a_offt (go_off_t rfl rfl rfl rfl) rfl rfl rfl, rfl, ?_⟩))
        (first | (refine ⟨_, _, _, a_offt (go_off rfl rfl rfl rfl (by first | rfl | assumption | (simp; done) | (simp [*]; done))) rfl rfl rfl, rfl, ?_⟩) | (refine ⟨_, _, _, a_offt (go_off_t rfl rfl rfl rfl) rfl rfl rfl, rfl, ?_⟩))
        (first | (refine ⟨_, _, _, a_offt (go_off rfl rfl rfl rfl (by first | rfl | assumption | (simp; done) | (simp [*]; done))) rfl rfl rfl, rfl, ?_⟩) | (refine ⟨_, _, _, a_offt (go_off_t rfl rfl rfl rfl) rfl rfl rfl, rfl, ?_⟩))
        (first | (refine ⟨_, _, _, a_offt (go_off rfl rfl rfl rfl (by first | rfl | assumption | (simp; done) | (simp [*]; done))) rfl rfl rfl, rfl, ?_⟩) | (refine ⟨_, _, _, a_offt (go_off_t rfl rfl rfl rfl) rfl rfl rfl, rfl, ?_⟩))
        (first | (refine ⟨_, _, _, a_pick_t (gd_none rfl) rfl rfl rfl rfl rfl ?hb rfl, rfl, ?_⟩; case hb => (first | rfl | assumption | (simp; done))) | (refine ⟨_, _, _, a_pick_f (gd_none rfl) rfl rfl rfl rfl rfl ?hb rfl, rfl, ?_⟩; case hb => (first | rfl | assumption | (simp; done))))
        (refine ⟨_, _, _, a_move (gd_none rfl) rfl rfl rfl rfl rfl, (by first | rfl | kernel_rfl), ?_⟩)
        (refine ⟨_, _, _, a_move (gd_on rfl rfl rfl rfl (by first | rfl | assumption | (simp; done))) rfl rfl rfl rfl rfl, (by first | rfl | kernel_rfl), ?_⟩)
        (first | (refine ⟨_, _, _, a_eql (gd_on rfl rfl rfl rfl (by first | rfl | assumption | (simp; done))) rfl rfl rfl rfl rfl rfl, (by first | rfl | kernel_rfl), ?_⟩) | (refine ⟨_, _, _, a_beq (gd_on rfl rfl rfl rfl (by first | rfl | assumption | (simp; done))) rfl rfl rfl rfl rfl rfl rfl, (by first | rfl | kernel_rfl), ?_⟩))
        (refine ⟨_, _, _, a_move (gd_on rfl rfl rfl rfl (by first | rfl | assumption | (simp; done))) rfl rfl rfl rfl rfl, (by first | rfl | kernel_rfl), ?_⟩)
        (refine ⟨_, _, _, a_move (gd_on rfl rfl rfl rfl (by first | rfl | assumption | (simp; done))) rfl rfl rfl rfl rfl, (by first | rfl | kernel_rfl), ?_⟩)
        (refine ⟨_, _, _, a_nilchk (gd_on rfl rfl rfl rfl (by first | rfl | assumption | (simp; done))) rfl rfl rfl rfl rfl, (by first | rfl | kernel_rfl), ?_⟩)
        (first | (refine ⟨_, _, _, a_field_bp (gd_on rfl rfl rfl rfl (by first | rfl | assumption | (simp; done))) rfl rfl rfl rfl rfl rfl rfl rfl rfl, (by first | rfl | kernel_rfl), ?_⟩) | (refine ⟨_, _, _, a_field_ad (gd_on rfl rfl rfl rfl (by first | rfl | assumption | (simp; done))) rfl rfl rfl rfl rfl rfl rfl rfl rfl rfl rfl, (by first | rfl | kernel_rfl), ?_⟩) | (refine ⟨_, _, _, a_fieldM (gd_on rfl rfl rfl rfl (by first | rfl | assumption | (simp; done))) rfl rfl rfl rfl rfl rfl rfl rfl rfl, (by first | rfl | kernel_rfl), ?_⟩))
        (first | (refine ⟨_, _, _, a_load_all (gd_on rfl rfl rfl rfl (by first | rfl | assumption | (simp; done))) rfl rfl rfl rfl rfl rfl rfl rfl rfl rfl rfl rfl, (by first | rfl | kernel_rfl), ?_⟩) | (refine ⟨_, _, _, a_load_tok (gd_on rfl rfl rfl rfl (by first | rfl | assumption | (simp; done))) rfl rfl rfl rfl rfl rfl rfl rfl rfl rfl rfl rfl rfl, (by first | rfl | kernel_rfl), ?_⟩) | (refine ⟨_, _, _, a_load_bp (gd_on rfl rfl rfl rfl (by first | rfl | assumption | (simp; done))) rfl rfl rfl rfl rfl rfl rfl rfl rfl rfl rfl rfl, (by first | rfl | kernel_rfl), ?_⟩) | (refine ⟨_, _, _, a_load_ad (gd_on rfl rfl rfl rfl (by first | rfl | assumption | (simp; done))) rfl rfl rfl rfl rfl rfl rfl rfl rfl, (by first | rfl | kernel_rfl), ?_⟩) | (refine ⟨_, _, _, a_load_ptr (gd_on rfl rfl rfl rfl (by first | rfl | assumption | (simp; done))) rfl rfl rfl rfl rfl rfl rfl rfl rfl, (by first | rfl | kernel_rfl), ?_⟩) | (refine ⟨_, _, _, a_load_fld (gd_on rfl rfl rfl rfl (by first | rfl | assumption | (simp; done))) rfl rfl rfl rfl rfl rfl rfl rfl rfl rfl rfl rfl rfl, (by first | rfl | kernel_rfl), ?_⟩) | (refine ⟨_, _, _, a_load_fullv (gd_on rfl rfl rfl rfl (by first | rfl | assumption | (simp; done))) rfl rfl rfl rfl rfl rfl rfl rfl rfl, (by first | rfl | kernel_rfl), ?_⟩))
        (refine ⟨_, _, _, a_gtr (gd_on rfl rfl rfl rfl (by first | rfl | assumption | (simp; done))) rfl rfl rfl rfl rfl rfl, (by first | rfl | kernel_rfl), ?_⟩)
        (first | (refine ⟨_, _, _, a_pick_t (gd_on rfl rfl rfl rfl (by first | rfl | assumption | (simp; done))) rfl rfl rfl rfl rfl ?hb rfl, rfl, ?_⟩; case hb => (first | rfl | assumption | (simp; done))) | (refine ⟨_, _, _, a_pick_f (gd_on rfl rfl rfl rfl (by first | rfl | assumption | (simp; done))) rfl rfl rfl rfl rfl ?hb rfl, rfl, ?_⟩; case hb => (first | rfl | assumption | (simp; done))))
        (first | (refine ⟨_, _, _, a_pick_t (gd_none rfl) rfl rfl rfl rfl rfl ?hb rfl, rfl, ?_⟩; case hb => (first | rfl | assumption | (simp; done))) | (refine ⟨_, _, _, a_pick_f (gd_none rfl) rfl rfl rfl rfl rfl ?hb rfl, rfl, ?_⟩; case hb => (first | rfl | assumption | (simp; done))))
        show AWp _ _ _ _ _ _ _
        refine awp_cond rfl (fun hc => by rw [g] at hc; cases hc) (fun hc => awp_skip ?_)
        show AWp _ _ _ _ _ _ _
        refine awp_seq (awp_region ?_)
        (refine ⟨_, _, _, a_move (gd_none rfl) rfl rfl rfl rfl rfl, (by first | rfl | kernel_rfl), ?_⟩)
        (refine ⟨_, _, _, a_assign (gd_none rfl) rfl rfl rfl rfl rfl, (by first | rfl | kernel_rfl), ?_⟩)
        show AWp _ _ _ _ _ _ _
        exact awp_ret ⟨.inr rfl, _, Wk.refl _, rfl, rfl, rfl, rfl, rfl, rfl, rfl, trivial⟩
    · have g2 : decide (o = -1) = false := by simpa using h2
      rw [if_neg (by omega)]
      refine awp_seq (awp_seq (awp_region ?_))
      (refine ⟨_, _, _, a_move (gd_none rfl) rfl rfl rfl rfl rfl, (by first | rfl | kernel_rfl), ?_⟩)
      (first | (refine ⟨_, _, _, a_eql (gd_none rfl) rfl rfl rfl rfl rfl rfl, (by first | rfl | kernel_rfl), ?_⟩) | (refine ⟨_, _, _, a_beq (gd_none rfl) rfl rfl rfl rfl rfl rfl rfl, (by first | rfl | kernel_rfl), ?_⟩))
      (refine ⟨_, _, _, a_move (gd_none rfl) rfl rfl rfl rfl rfl, (by first | rfl | kernel_rfl), ?_⟩)
      (first | (refine ⟨_, _, _, a_offt (go_off rfl rfl rfl rfl (by first | rfl | assumption | (simp; done) | (simp [*]; done))) rfl rfl rfl, rfl, ?_⟩) | (refine ⟨_, _, _, a_offt (go_off_t rfl rfl rfl rfl) rfl rfl rfl, rfl, ?_⟩))
      (first | (refine ⟨_, _, _, a_offt (go_off rfl rfl rfl rfl (by first | rfl | assumption | (simp; done) | (simp [*]; done))) rfl rfl rfl, rfl, ?_⟩) | (refine ⟨_, _, _, a_offt (go_off_t rfl rfl rfl rfl) rfl rfl rfl, rfl, ?_⟩))
      (first | (refine ⟨_, _, _, a_offt (go_off rfl rfl rfl rfl (by first | rfl | assumption | (simp; done) | (simp [*]; done))) rfl rfl rfl, rfl, ?_⟩) | (refine ⟨_, _, _, a_offt (go_off_t rfl rfl rfl rfl) rfl rfl rfl, rfl, ?_⟩))
      (first | (refine ⟨_, _, _, a_offt (go_off rfl rfl rfl rfl (by first | rfl | assumption | (simp; done) | (simp [*]; done))) rfl rfl rfl, rfl, ?_⟩) | (refine ⟨_, _, _, a_offt (go_off_t rfl rfl rfl rfl) rfl rfl rfl, rfl, ?_⟩))
      (first | (refine ⟨_, _, _, a_offt (go_off rfl rfl rfl rfl (by first | rfl | assumption | (simp; done) | (simp [*]; done))) rfl rfl rfl, rfl, ?_⟩) | (refine ⟨_, _, _, a_offt (go_off_t rfl rfl rfl rfl) rfl rfl rfl, rfl, ?_⟩))
      (first | (refine ⟨_, _, _, a_pick_t (gd_none rfl) rfl rfl rfl rfl rfl ?hb rfl, rfl, ?_⟩; case hb => (first | rfl | assumption | (simp; done))) | (refine ⟨_, _, _, a_pick_f (gd_none rfl) rfl rfl rfl rfl rfl ?hb rfl, rfl, ?_⟩; case hb => (first | rfl | assumption | (simp; done))))
      (refine ⟨_, _, _, a_move (gd_none rfl) rfl rfl rfl rfl rfl, (by first | rfl | kernel_rfl), ?_⟩)
      (refine ⟨_, _, _, a_move (gd_on rfl rfl rfl rfl (by first | rfl | assumption | (simp; done))) rfl rfl rfl rfl rfl, (by first | rfl | kernel_rfl), ?_⟩)
      (first | (refine ⟨_, _, _, a_eql (gd_on rfl rfl rfl rfl (by first | rfl | assumption | (simp; done))) rfl rfl rfl rfl rfl rfl, (by first | rfl | kernel_rfl), ?_⟩) | (refine ⟨_, _, _, a_beq (gd_on rfl rfl rfl rfl (by first | rfl | assumption | (simp; done))) rfl rfl rfl rfl rfl rfl rfl, (by first | rfl | kernel_rfl), ?_⟩))
      (refine ⟨_, _, _, a_move (gd_on rfl rfl rfl rfl (by first | rfl | assumption | (simp; done))) rfl rfl rfl rfl rfl, (by first | rfl | kernel_rfl), ?_⟩)
      (first | (refine ⟨_, _, _, a_offt (go_off rfl rfl rfl rfl (by first | rfl | assumption | (simp; done) | (simp [*]; done))) rfl rfl rfl, rfl, ?_⟩) | (refine ⟨_, _, _, a_offt (go_off_t rfl rfl rfl rfl) rfl rfl rfl, rfl, ?_⟩))
      (first | (refine ⟨_, _, _, a_offt (go_off rfl rfl rfl rfl (by first | rfl | assumption | (simp; done) | (simp [*]; done))) rfl rfl rfl, rfl, ?_⟩) | (refine ⟨_, _, _, a_offt (go_off_t rfl rfl rfl rfl) rfl rfl rfl, rfl, ?_⟩))
      (first | (refine ⟨_, _, _, a_offt (go_off rfl rfl rfl rfl (by first | rfl | assumption | (simp; done) | (simp [*]; done))) rfl rfl rfl, rfl, ?_⟩) | (refine ⟨_, _, _, a_offt (go_off_t rfl rfl rfl rfl) rfl rfl rfl, rfl, ?_⟩))
      (first | (refine ⟨_, _, _, a_offt (go_off rfl rfl rfl rfl (by first | rfl | assumption | (simp; done) | (simp [*]; done))) rfl rfl rfl, rfl, ?_⟩) | (refine ⟨_, _, _, a_offt (go_off_t rfl rfl rfl rfl) rfl rfl rfl, rfl, ?_⟩))
      (first | (refine ⟨_, _, _, a_offt (go_off rfl rfl rfl rfl (by first | rfl | assumption | (simp; done) | (simp [*]; done))) rfl rfl rfl, rfl, ?_⟩) | (refine ⟨_, _, _, a_offt (go_off_t rfl rfl rfl rfl) rfl rfl rfl, rfl, ?_⟩))
      (first | (refine ⟨_, _, _, a_pick_t (gd_on rfl rfl rfl rfl (by first | rfl | assumption | (simp; done))) rfl rfl rfl rfl rfl ?hb rfl, rfl, ?_⟩; case hb => (first | rfl | assumption | (simp; done))) | (refine ⟨_, _, _, a_pick_f (gd_on rfl rfl rfl rfl (by first | rfl | assumption | (simp; done))) rfl rfl rfl rfl rfl ?hb rfl, rfl, ?_⟩; case hb => (first | rfl | assumption | (simp; done))))
      (first | (refine ⟨_, _, _, a_pick_t (gd_none rfl) rfl rfl rfl rfl rfl ?hb rfl, rfl, ?_⟩; case hb => (first | rfl | assumption | (simp; done))) | (refine ⟨_, _, _, a_pick_f (gd_none rfl) rfl rfl rfl rfl rfl ?hb rfl, rfl, ?_⟩; case hb => (first | rfl | assumption | (simp; done))))
      show AWp _ _ _ _ _ _ _
      refine awp_cond rfl (fun hc => by cases hc) (fun hc => awp_skip ?_)
      show AWp _ _ _ _ _ _ _
      refine awp_seq (awp_region ?_)
      (refine ⟨_, _, _, a_move (gd_none rfl) rfl rfl rfl rfl rfl, (by first | rfl | kernel_rfl), ?_⟩)
      (refine ⟨_, _, _, a_assign (gd_none rfl) rfl rfl rfl rfl rfl, (by first | rfl | kernel_rfl), ?_⟩)
      show AWp _ _ _ _ _ _ _
      exact awp_ret ⟨.inr rfl, _, Wk.refl _, rfl, rfl, rfl, rfl, rfl, rfl, rfl, trivial⟩
/-- The first that isn't 0. -/
def orL : List Int → Int
  | [] => 0
  | x :: l => if x ≠ 0 then x else orL l
theorem orL_at : ∀ {l : List Int} {k : Nat} {x : Int}, l[k]? = some x → x ≠ 0 → (∀ j y, j < k → l[j]? = some y → y = 0) → orL l = x
  | [], k, x, h, _, _ => by simp at h
  | y :: l, 0, x, h, hx, _ => by
    simp at h
    subst h
    rw [orL, if_pos hx]
  | y :: l, k + 1, x, h, hx, hi => by
    rw [orL, if_neg (by have := hi 0 y (by omega) rfl; omega)]
    exact orL_at (by simpa using h) hx fun j z hj hz => hi (j + 1) z (by omega) (by simpa using hz)
theorem orL_none : ∀ {l : List Int}, (∀ x ∈ l, x = 0) → orL l = 0
  | [], _ => rfl
  | x :: l, h => by
    rw [orL, if_neg (by have := h x (by simp); omega)]
    exact orL_none fun y hy => h y (List.mem_cons_of_mem _ hy)
-- 
theorem cOr_abs (W : World) (l : List Int) (hl : l.length ≤ 1000000000) : AFun Try.prog W 68 [.lst (l.map CV.i)] (.val (.i (orL l))) := by
  have hsz := ints_size l
  refine afun_of (rs := [.i (orL l)]) Try.func68 Try.ntmps68 rfl rfl rfl rfl ?_
  intro w U hW
  refine awp_seq (awp_region ?_)
  (refine ⟨_, _, _, a_assign (gd_none rfl) rfl rfl rfl rfl rfl, (by first | rfl | kernel_rfl), ?_⟩)
  show AWp _ _ _ _ _ _ _
  refine awp_seq (awp_region ?_)
  (refine ⟨_, _, _, a_assign (gd_none rfl) rfl rfl rfl rfl rfl, (by first | rfl | kernel_rfl), ?_⟩)
  show AWp _ _ _ _ _ _ _
  refine awp_seq (awp_seq (awp_region ?_))
  (refine ⟨_, _, _, a_move (gd_none rfl) rfl rfl rfl rfl rfl, (by first | rfl | kernel_rfl), ?_⟩)
  (first | (refine ⟨_, _, _, a_len (gd_none rfl) rfl rfl rfl rfl rfl rfl rfl, (by first | rfl | kernel_rfl), ?_⟩) | (refine ⟨_, _, _, a_lenM (gd_none rfl) rfl rfl rfl rfl rfl rfl rfl, (by first | rfl | kernel_rfl), ?_⟩))
  (refine ⟨_, _, _, a_move (gd_none rfl) rfl rfl rfl rfl rfl, (by first | rfl | kernel_rfl), ?_⟩)
  show AWp _ _ _ _ _ _ _
  refine awp_block (awp_countI l.length (fun k => ∀ j y, j < k → l[j]? = some y → y = 0) (fun k => [(3, .val (.i 0)), (6, .val (.lst (l.map CV.i))), (7, .val (.i (l.map CV.i).length)), (8, .val (.i k))]) (wk_sub ⟨rfl, rfl, rfl, rfl, trivial⟩) (fun j c hj => by omega) ?_)
  intro k hk hI
  refine awp_seq (awp_region ?_)
  (refine ⟨_, _, _, a_lss (gd_none rfl) rfl rfl rfl rfl rfl rfl, (by first | rfl | kernel_rfl), ?_⟩)
  show AWp _ _ _ _ _ _ _
  refine awp_seq (awp_cond rfl (fun hlt => ?_) (fun hlt => ?_))
  · have hkl : k < l.length := by simpa using hlt
    obtain ⟨x, hx⟩ : ∃ x, l[k]? = some x := ⟨l[k], List.getElem?_eq_getElem hkl⟩
    have hx' : (l.map CV.i)[k]? = some (CV.i x) := by rw [List.getElem?_map, hx]; rfl
    refine awp_skip ?_
    show AWp _ _ _ _ _ _ _
    refine awp_seq (awp_block (awp_seq (awp_region ?_)))
    (refine ⟨_, _, _, a_index (j := k) (gd_none rfl) rfl rfl rfl rfl rfl rfl rfl rfl rfl (hx') rfl (hsz), (by first | rfl | kernel_rfl), ?_⟩)
    (first | (refine ⟨_, _, _, a_load_all (gd_none rfl) rfl rfl rfl rfl rfl rfl rfl rfl rfl rfl rfl rfl, (by first | rfl | kernel_rfl), ?_⟩) | (refine ⟨_, _, _, a_load_tok (gd_none rfl) rfl rfl rfl rfl rfl rfl rfl rfl rfl rfl rfl rfl rfl, (by first | rfl | kernel_rfl), ?_⟩) | (refine ⟨_, _, _, a_load_bp (gd_none rfl) rfl rfl rfl rfl rfl rfl rfl rfl rfl rfl rfl rfl, (by first | rfl | kernel_rfl), ?_⟩) | (refine ⟨_, _, _, a_load_ad (gd_none rfl) rfl rfl rfl rfl rfl rfl rfl rfl rfl, (by first | rfl | kernel_rfl), ?_⟩) | (refine ⟨_, _, _, a_load_ptr (gd_none rfl) rfl rfl rfl rfl rfl rfl rfl rfl rfl, (by first | rfl | kernel_rfl), ?_⟩) | (refine ⟨_, _, _, a_load_fld (gd_none rfl) rfl rfl rfl rfl rfl rfl rfl rfl rfl rfl rfl rfl rfl, (by first | rfl | kernel_rfl), ?_⟩) | (refine ⟨_, _, _, a_load_fullv (gd_none rfl) rfl rfl rfl rfl rfl rfl rfl rfl rfl, (by first | rfl | kernel_rfl), ?_⟩))
    (refine ⟨_, _, _, a_assign (gd_none rfl) rfl rfl rfl rfl rfl, (by first | rfl | kernel_rfl), ?_⟩)
    show AWp _ _ _ _ _ _ _
    refine awp_seq (awp_region ?_)
    (refine ⟨_, _, _, a_move (gd_none rfl) rfl rfl rfl rfl rfl, (by first | rfl | kernel_rfl), ?_⟩)
    (refine ⟨_, _, _, a_move (gd_none rfl) rfl rfl rfl rfl rfl, (by first | rfl | kernel_rfl), ?_⟩)
    (first | (refine ⟨_, _, _, a_neq (gd_none rfl) rfl rfl rfl rfl rfl rfl, (by first | rfl | kernel_rfl), ?_⟩) | (refine ⟨_, _, _, a_bne (gd_none rfl) rfl rfl rfl rfl rfl rfl rfl, (by first | rfl | kernel_rfl), ?_⟩))
    show AWp _ _ _ _ _ _ _
    refine awp_cond rfl (fun hq => ?_) (fun hq => ?_)
    · have hq : x ≠ 0 := by simpa using hq
      refine awp_seq (awp_region ?_)
      (refine ⟨_, _, _, a_move (gd_none rfl) rfl rfl rfl rfl rfl, (by first | rfl | kernel_rfl), ?_⟩)
      (refine ⟨_, _, _, a_assign (gd_none rfl) rfl rfl rfl rfl rfl, (by first | rfl | kernel_rfl), ?_⟩)
      show AWp _ _ _ _ _ _ _
      rw [orL_at hx hq hI]
      exact awp_ret ⟨.inr rfl, rfl⟩
    · have hq : x = 0 := by simpa using hq
      refine awp_skip ?_
      show AWp _ _ _ _ _ _ _
      refine awp_region ?_
      (refine ⟨_, _, _, a_add (gd_none rfl) rfl rfl rfl rfl rfl rfl (by first | omega | (simp only [List.length_map, List.length_append, List.length_cons, List.length_nil] <;> omega) | (simp <;> omega)), (by first | rfl | kernel_rfl), ?_⟩)
      (refine ⟨_, _, _, a_move (gd_none rfl) rfl rfl rfl rfl rfl, (by first | rfl | kernel_rfl), ?_⟩)
      refine ⟨hkl, fun j c hj hc => ?_, wk_sub ⟨rfl, rfl, rfl, rfl, trivial⟩⟩
      rcases Nat.lt_or_ge j k with h | h
      · exact hI j c h hc
      · have : j = k := by omega
        subst this
        rw [hx] at hc
        cases hc
        exact hq
  · have hkl : ¬ k < l.length := by simpa using hlt
    rw [orL_none (l := l) fun x hx => ?_]
    · refine awp_exit ?_
      show AWp _ _ _ _ _ _ _
      refine awp_seq (awp_region ?_)
      (refine ⟨_, _, _, a_move (gd_none rfl) rfl rfl rfl rfl rfl, (by first | rfl | kernel_rfl), ?_⟩)
      (refine ⟨_, _, _, a_assign (gd_none rfl) rfl rfl rfl rfl rfl, (by first | rfl | kernel_rfl), ?_⟩)
      show AWp _ _ _ _ _ _ _
      exact awp_ret ⟨.inr rfl, rfl⟩
    · obtain ⟨j, hj⟩ := List.getElem?_of_mem hx
      have hjl : j < l.length := by
        rcases Nat.lt_or_ge j l.length with h | h
        · exact h
        · rw [List.getElem?_eq_none h] at hj; cases hj
      exact hI j x (by omega) hj
theorem hd_or {a b : Tm} (h : ¬ (a.f < 0 ∨ b.f < 0)) : hdK a b = orL [cmpZ a.f b.f, cmpZ a.l.length b.l.length] := by
  unfold hdK
  rw [if_neg h]
  simp only [orL]
  rcases cmpZ_cases a.f b.f with h1 | h1 | h1
  · rw [if_pos (by omega), if_pos (by omega)]
  · rw [if_neg (by omega), if_neg (by omega)]
    split
    · rfl
    · omega
  · rw [if_pos (by omega), if_pos (by omega)]
-- 
theorem kHeads_abs (W : World) (a b : Tm) : AFun Try.prog W 50 [a.cw, b.cw] (.val (.i (hdK a b))) := by
  refine afun_of (rs := [.i (hdK a b)]) Try.func50 Try.ntmps50 rfl rfl rfl rfl ?_
  intro w U hW
  refine awp_seq (awp_region ?_)
  (refine ⟨_, _, _, a_box (gd_none rfl) rfl rfl rfl rfl rfl, (by first | rfl | kernel_rfl), ?_⟩)
  (refine ⟨_, _, _, a_box (gd_none rfl) rfl rfl rfl rfl rfl, (by first | rfl | kernel_rfl), ?_⟩)
  (refine ⟨_, _, _, a_assign (gd_none rfl) rfl rfl rfl rfl rfl, (by first | rfl | kernel_rfl), ?_⟩)
  show AWp _ _ _ _ _ _ _
  by_cases ha : a.f < 0
  · have g : decide (a.f < 0) = true := by simpa using ha
    refine awp_seq (awp_seq (awp_region ?_))
    (first | (refine ⟨_, _, _, a_load_all (gd_none rfl) rfl rfl rfl rfl rfl rfl rfl rfl rfl rfl rfl rfl, (by first | rfl | kernel_rfl), ?_⟩) | (refine ⟨_, _, _, a_load_tok (gd_none rfl) rfl rfl rfl rfl rfl rfl rfl rfl rfl rfl rfl rfl rfl, (by first | rfl | kernel_rfl), ?_⟩) | (refine ⟨_, _, _, a_load_bp (gd_none rfl) rfl rfl rfl rfl rfl rfl rfl rfl rfl rfl rfl rfl, (by first | rfl | kernel_rfl), ?_⟩) | (refine ⟨_, _, _, a_load_ad (gd_none rfl) rfl rfl rfl rfl rfl rfl rfl rfl rfl, (by first | rfl | kernel_rfl), ?_⟩) | (refine ⟨_, _, _, a_load_ptr (gd_none rfl) rfl rfl rfl rfl rfl rfl rfl rfl rfl, (by first | rfl | kernel_rfl), ?_⟩) | (refine ⟨_, _, _, a_load_fld (gd_none rfl) rfl rfl rfl rfl rfl rfl rfl rfl rfl rfl rfl rfl rfl, (by first | rfl | kernel_rfl), ?_⟩) | (refine ⟨_, _, _, a_load_fullv (gd_none rfl) rfl rfl rfl rfl rfl rfl rfl rfl rfl, (by first | rfl | kernel_rfl), ?_⟩))
    (refine ⟨_, _, _, a_call (gd_none rfl) rfl rfl rfl rfl rfl (kIsVar_abs w a), (by first | rfl | kernel_rfl), ?_⟩)
    (refine ⟨_, _, _, a_move (gd_none rfl) rfl rfl rfl rfl rfl, (by first | rfl | kernel_rfl), ?_⟩)
    (refine ⟨_, _, _, a_off (go_off rfl rfl rfl rfl (by first | rfl | assumption | (simp; done) | (simp [*]; done))) rfl rfl rfl, rfl, ?_⟩)
    (refine ⟨_, _, _, a_off (go_off rfl rfl rfl rfl (by first | rfl | assumption | (simp; done) | (simp [*]; done))) rfl rfl rfl, rfl, ?_⟩)
    (first | (refine ⟨_, _, _, a_pick_t (gd_none rfl) rfl rfl rfl rfl rfl ?hb rfl, rfl, ?_⟩; case hb => (first | rfl | assumption | (simp; done))) | (refine ⟨_, _, _, a_pick_f (gd_none rfl) rfl rfl rfl rfl rfl ?hb rfl, rfl, ?_⟩; case hb => (first | rfl | assumption | (simp; done))))
    show AWp _ _ _ _ _ _ _
    refine awp_cond rfl (fun hc => ?_) (fun hc => by cases hc)
    unfold hdK
    rw [if_pos (.inl ha)]
    refine awp_seq (awp_region ?_)
    (refine ⟨_, _, _, a_assign (gd_none rfl) rfl rfl rfl rfl rfl, (by first | rfl | kernel_rfl), ?_⟩)
    show AWp _ _ _ _ _ _ _
    exact awp_ret ⟨.inr rfl, rfl⟩
  have g : decide (a.f < 0) = false := by simpa using ha
  refine awp_seq (awp_seq (awp_region ?_))
  (first | (refine ⟨_, _, _, a_load_all (gd_none rfl) rfl rfl rfl rfl rfl rfl rfl rfl rfl rfl rfl rfl, (by first | rfl | kernel_rfl), ?_⟩) | (refine ⟨_, _, _, a_load_tok (gd_none rfl) rfl rfl rfl rfl rfl rfl rfl rfl rfl rfl rfl rfl rfl, (by first | rfl | kernel_rfl), ?_⟩) | (refine ⟨_, _, _, a_load_bp (gd_none rfl) rfl rfl rfl rfl rfl rfl rfl rfl rfl rfl rfl rfl, (by first | rfl | kernel_rfl), ?_⟩) | (refine ⟨_, _, _, a_load_ad (gd_none rfl) rfl rfl rfl rfl rfl rfl rfl rfl rfl, (by first | rfl | kernel_rfl), ?_⟩) | (refine ⟨_, _, _, a_load_ptr (gd_none rfl) rfl rfl rfl rfl rfl rfl rfl rfl rfl, (by first | rfl | kernel_rfl), ?_⟩) | (refine ⟨_, _, _, a_load_fld (gd_none rfl) rfl rfl rfl rfl rfl rfl rfl rfl rfl rfl rfl rfl rfl, (by first | rfl | kernel_rfl), ?_⟩) | (refine ⟨_, _, _, a_load_fullv (gd_none rfl) rfl rfl rfl rfl rfl rfl rfl rfl rfl, (by first | rfl | kernel_rfl), ?_⟩))
  (refine ⟨_, _, _, a_call (gd_none rfl) rfl rfl rfl rfl rfl (kIsVar_abs w a), (by first | rfl | kernel_rfl), ?_⟩)
  (refine ⟨_, _, _, a_move (gd_none rfl) rfl rfl rfl rfl rfl, (by first | rfl | kernel_rfl), ?_⟩)
  (first | (refine ⟨_, _, _, a_load_all (gd_on rfl rfl rfl rfl (by first | rfl | assumption | (simp; done))) rfl rfl rfl rfl rfl rfl rfl rfl rfl rfl rfl rfl, (by first | rfl | kernel_rfl), ?_⟩) | (refine ⟨_, _, _, a_load_tok (gd_on rfl rfl rfl rfl (by first | rfl | assumption | (simp; done))) rfl rfl rfl rfl rfl rfl rfl rfl rfl rfl rfl rfl rfl, (by first | rfl | kernel_rfl), ?_⟩) | (refine ⟨_, _, _, a_load_bp (gd_on rfl rfl rfl rfl (by first | rfl | assumption | (simp; done))) rfl rfl rfl rfl rfl rfl rfl rfl rfl rfl rfl rfl, (by first | rfl | kernel_rfl), ?_⟩) | (refine ⟨_, _, _, a_load_ad (gd_on rfl rfl rfl rfl (by first | rfl | assumption | (simp; done))) rfl rfl rfl rfl rfl rfl rfl rfl rfl, (by first | rfl | kernel_rfl), ?_⟩) | (refine ⟨_, _, _, a_load_ptr (gd_on rfl rfl rfl rfl (by first | rfl | assumption | (simp; done))) rfl rfl rfl rfl rfl rfl rfl rfl rfl, (by first | rfl | kernel_rfl), ?_⟩) | (refine ⟨_, _, _, a_load_fld (gd_on rfl rfl rfl rfl (by first | rfl | assumption | (simp; done))) rfl rfl rfl rfl rfl rfl rfl rfl rfl rfl rfl rfl rfl, (by first | rfl | kernel_rfl), ?_⟩) | (refine ⟨_, _, _, a_load_fullv (gd_on rfl rfl rfl rfl (by first | rfl | assumption | (simp; done))) rfl rfl rfl rfl rfl rfl rfl rfl rfl, (by first | rfl | kernel_rfl), ?_⟩))
  (refine ⟨_, _, _, a_call (gd_on rfl rfl rfl rfl (by first | rfl | assumption | (simp; done))) rfl rfl rfl rfl rfl (kIsVar_abs w b), (by first | rfl | kernel_rfl), ?_⟩)
  (first | (refine ⟨_, _, _, a_pick_t (gd_none rfl) rfl rfl rfl rfl rfl ?hb rfl, rfl, ?_⟩; case hb => (first | rfl | assumption | (simp; done))) | (refine ⟨_, _, _, a_pick_f (gd_none rfl) rfl rfl rfl rfl rfl ?hb rfl, rfl, ?_⟩; case hb => (first | rfl | assumption | (simp; done))))
  show AWp _ _ _ _ _ _ _
  refine awp_cond rfl (fun hc => ?_) (fun hc => ?_)
  · have hb : b.f < 0 := by simpa using hc
    unfold hdK
    rw [if_pos (.inr hb)]
    refine awp_seq (awp_region ?_)
    (refine ⟨_, _, _, a_assign (gd_none rfl) rfl rfl rfl rfl rfl, (by first | rfl | kernel_rfl), ?_⟩)
    show AWp _ _ _ _ _ _ _
    exact awp_ret ⟨.inr rfl, rfl⟩
  · have hb : ¬ b.f < 0 := by simpa using hc
    rw [hd_or (by omega)]
    have e1 : (a.l.map Tm.cv).length = a.l.length := List.length_map ..
    have e2 : (b.l.map Tm.cv).length = b.l.length := List.length_map ..
    refine awp_skip ?_
    show AWp _ _ _ _ _ _ _
    refine awp_seq (awp_draw (by kernel_rfl) (by kernel_rfl) ?_)
    (first | (refine ⟨_, _, _, a_field_bp (gd_none rfl) rfl rfl rfl rfl rfl rfl rfl rfl rfl, (by first | rfl | kernel_rfl), ?_⟩) | (refine ⟨_, _, _, a_field_ad (gd_none rfl) rfl rfl rfl rfl rfl rfl rfl rfl rfl rfl rfl, (by first | rfl | kernel_rfl), ?_⟩) | (refine ⟨_, _, _, a_fieldM (gd_none rfl) rfl rfl rfl rfl rfl rfl rfl rfl rfl, (by first | rfl | kernel_rfl), ?_⟩))
    (first | (refine ⟨_, _, _, a_load_all (gd_none rfl) rfl rfl rfl rfl rfl rfl rfl rfl rfl rfl rfl rfl, (by first | rfl | kernel_rfl), ?_⟩) | (refine ⟨_, _, _, a_load_tok (gd_none rfl) rfl rfl rfl rfl rfl rfl rfl rfl rfl rfl rfl rfl rfl, (by first | rfl | kernel_rfl), ?_⟩) | (refine ⟨_, _, _, a_load_bp (gd_none rfl) rfl rfl rfl rfl rfl rfl rfl rfl rfl rfl rfl rfl, (by first | rfl | kernel_rfl), ?_⟩) | (refine ⟨_, _, _, a_load_ad (gd_none rfl) rfl rfl rfl rfl rfl rfl rfl rfl rfl, (by first | rfl | kernel_rfl), ?_⟩) | (refine ⟨_, _, _, a_load_ptr (gd_none rfl) rfl rfl rfl rfl rfl rfl rfl rfl rfl, (by first | rfl | kernel_rfl), ?_⟩) | (refine ⟨_, _, _, a_load_fld (gd_none rfl) rfl rfl rfl rfl rfl rfl rfl rfl rfl rfl rfl rfl rfl, (by first | rfl | kernel_rfl), ?_⟩) | (refine ⟨_, _, _, a_load_fullv (gd_none rfl) rfl rfl rfl rfl rfl rfl rfl rfl rfl, (by first | rfl | kernel_rfl), ?_⟩))
    (first | (refine ⟨_, _, _, a_field_bp (gd_none rfl) rfl rfl rfl rfl rfl rfl rfl rfl rfl, (by first | rfl | kernel_rfl), ?_⟩) | (refine ⟨_, _, _, a_field_ad (gd_none rfl) rfl rfl rfl rfl rfl rfl rfl rfl rfl rfl rfl, (by first | rfl | kernel_rfl), ?_⟩) | (refine ⟨_, _, _, a_fieldM (gd_none rfl) rfl rfl rfl rfl rfl rfl rfl rfl rfl, (by first | rfl | kernel_rfl), ?_⟩))
    (first | (refine ⟨_, _, _, a_load_all (gd_none rfl) rfl rfl rfl rfl rfl rfl rfl rfl rfl rfl rfl rfl, (by first | rfl | kernel_rfl), ?_⟩) | (refine ⟨_, _, _, a_load_tok (gd_none rfl) rfl rfl rfl rfl rfl rfl rfl rfl rfl rfl rfl rfl rfl, (by first | rfl | kernel_rfl), ?_⟩) | (refine ⟨_, _, _, a_load_bp (gd_none rfl) rfl rfl rfl rfl rfl rfl rfl rfl rfl rfl rfl rfl, (by first | rfl | kernel_rfl), ?_⟩) | (refine ⟨_, _, _, a_load_ad (gd_none rfl) rfl rfl rfl rfl rfl rfl rfl rfl rfl, (by first | rfl | kernel_rfl), ?_⟩) | (refine ⟨_, _, _, a_load_ptr (gd_none rfl) rfl rfl rfl rfl rfl rfl rfl rfl rfl, (by first | rfl | kernel_rfl), ?_⟩) | (refine ⟨_, _, _, a_load_fld (gd_none rfl) rfl rfl rfl rfl rfl rfl rfl rfl rfl rfl rfl rfl rfl, (by first | rfl | kernel_rfl), ?_⟩) | (refine ⟨_, _, _, a_load_fullv (gd_none rfl) rfl rfl rfl rfl rfl rfl rfl rfl rfl, (by first | rfl | kernel_rfl), ?_⟩))
    (refine ⟨_, _, _, a_call (gd_none rfl) rfl rfl rfl rfl rfl (cmp_abs w a.f b.f), (by first | rfl | kernel_rfl), ?_⟩)
    (first | (refine ⟨_, _, _, a_field_bp (gd_none rfl) rfl rfl rfl rfl rfl rfl rfl rfl rfl, (by first | rfl | kernel_rfl), ?_⟩) | (refine ⟨_, _, _, a_field_ad (gd_none rfl) rfl rfl rfl rfl rfl rfl rfl rfl rfl rfl rfl, (by first | rfl | kernel_rfl), ?_⟩) | (refine ⟨_, _, _, a_fieldM (gd_none rfl) rfl rfl rfl rfl rfl rfl rfl rfl rfl, (by first | rfl | kernel_rfl), ?_⟩))
    (first | (refine ⟨_, _, _, a_load_all (gd_none rfl) rfl rfl rfl rfl rfl rfl rfl rfl rfl rfl rfl rfl, (by first | rfl | kernel_rfl), ?_⟩) | (refine ⟨_, _, _, a_load_tok (gd_none rfl) rfl rfl rfl rfl rfl rfl rfl rfl rfl rfl rfl rfl rfl, (by first | rfl | kernel_rfl), ?_⟩) | (refine ⟨_, _, _, a_load_bp (gd_none rfl) rfl rfl rfl rfl rfl rfl rfl rfl rfl rfl rfl rfl, (by first | rfl | kernel_rfl), ?_⟩) | (refine ⟨_, _, _, a_load_ad (gd_none rfl) rfl rfl rfl rfl rfl rfl rfl rfl rfl, (by first | rfl | kernel_rfl), ?_⟩) | (refine ⟨_, _, _, a_load_ptr (gd_none rfl) rfl rfl rfl rfl rfl rfl rfl rfl rfl, (by first | rfl | kernel_rfl), ?_⟩) | (refine ⟨_, _, _, a_load_fld (gd_none rfl) rfl rfl rfl rfl rfl rfl rfl rfl rfl rfl rfl rfl rfl, (by first | rfl | kernel_rfl), ?_⟩) | (refine ⟨_, _, _, a_load_fullv (gd_none rfl) rfl rfl rfl rfl rfl rfl rfl rfl rfl, (by first | rfl | kernel_rfl), ?_⟩))
    (first | (refine ⟨_, _, _, a_len (gd_none rfl) rfl rfl rfl rfl rfl rfl rfl, (by first | rfl | kernel_rfl), ?_⟩) | (refine ⟨_, _, _, a_lenM (gd_none rfl) rfl rfl rfl rfl rfl rfl rfl, (by first | rfl | kernel_rfl), ?_⟩))
    (first | (refine ⟨_, _, _, a_field_bp (gd_none rfl) rfl rfl rfl rfl rfl rfl rfl rfl rfl, (by first | rfl | kernel_rfl), ?_⟩) | (refine ⟨_, _, _, a_field_ad (gd_none rfl) rfl rfl rfl rfl rfl rfl rfl rfl rfl rfl rfl, (by first | rfl | kernel_rfl), ?_⟩) | (refine ⟨_, _, _, a_fieldM (gd_none rfl) rfl rfl rfl rfl rfl rfl rfl rfl rfl, (by first | rfl | kernel_rfl), ?_⟩))
    (first | (refine ⟨_, _, _, a_load_all (gd_none rfl) rfl rfl rfl rfl rfl rfl rfl rfl rfl rfl rfl rfl, (by first | rfl | kernel_rfl), ?_⟩) | (refine ⟨_, _, _, a_load_tok (gd_none rfl) rfl rfl rfl rfl rfl rfl rfl rfl rfl rfl rfl rfl rfl, (by first | rfl | kernel_rfl), ?_⟩) | (refine ⟨_, _, _, a_load_bp (gd_none rfl) rfl rfl rfl rfl rfl rfl rfl rfl rfl rfl rfl rfl, (by first | rfl | kernel_rfl), ?_⟩) | (refine ⟨_, _, _, a_load_ad (gd_none rfl) rfl rfl rfl rfl rfl rfl rfl rfl rfl, (by first | rfl | kernel_rfl), ?_⟩) | (refine ⟨_, _, _, a_load_ptr (gd_none rfl) rfl rfl rfl rfl rfl rfl rfl rfl rfl, (by first | rfl | kernel_rfl), ?_⟩) | (refine ⟨_, _, _, a_load_fld (gd_none rfl) rfl rfl rfl rfl rfl rfl rfl rfl rfl rfl rfl rfl rfl, (by first | rfl | kernel_rfl), ?_⟩) | (refine ⟨_, _, _, a_load_fullv (gd_none rfl) rfl rfl rfl rfl rfl rfl rfl rfl rfl, (by first | rfl | kernel_rfl), ?_⟩))
    (first | (refine ⟨_, _, _, a_len (gd_none rfl) rfl rfl rfl rfl rfl rfl rfl, (by first | rfl | kernel_rfl), ?_⟩) | (refine ⟨_, _, _, a_lenM (gd_none rfl) rfl rfl rfl rfl rfl rfl rfl, (by first | rfl | kernel_rfl), ?_⟩))
    (refine ⟨_, _, _, a_call (gd_none rfl) rfl rfl rfl rfl rfl (cmp_abs w _ _), (by first | rfl | kernel_rfl), ?_⟩)
    (refine ⟨_, _, _, a_bslice (gd_none rfl) rfl rfl rfl rfl rfl rfl rfl rfl rfl rfl rfl rfl rfl, (by first | rfl | kernel_rfl), ?_⟩)
    (refine ⟨_, _, _, a_call (gd_none rfl) rfl rfl rfl rfl rfl (cOr_abs w [_, _] (by simp)), (by first | rfl | kernel_rfl), ?_⟩)
    (refine ⟨_, _, _, a_assign (gd_none rfl) rfl rfl rfl rfl rfl, (by first | rfl | kernel_rfl), ?_⟩)
    refine ⟨by kernel_rfl, ?_⟩
    show AWp _ _ _ _ _ _ _
    rw [e1, e2]
    exact awp_ret ⟨.inr rfl, rfl⟩
end Go.Proofs.Ytahkegkahhbalaa


namespace Go.Proofs.Ytahkegkahhbalaa
set_option linter.unusedVariables false
set_option linter.unusedSimpArgs false
theorem kb_big {a b : Tm} (h : cov a b) (h2 : b.size < a.size) : kb a b = 1 := (kb_one a b).2 ⟨h, .inl h2⟩
end Go.Proofs.Ytahkegkahhbalaa


namespace Go.Proofs.Ytahkegkahhbalaa
open Go.RowKit
set_option linter.unusedVariables false
set_option linter.unusedSimpArgs false
set_option maxRecDepth 100000

def emp : Sc := ⟨0, [], 0, 0⟩
noncomputable def restS (c : Int) (s : Sc) (l m : List Tm) (r : Sc) : Sc := if c ≠ 0 then addL (-1) (addL 1 s l) m else r
/-- What lies on the scales behind compare. -/
noncomputable def scS (p : Tm) : Tm → Sc :=
  Tm.rec (motive_1 := fun _ => Tm → Sc) (motive_2 := fun _ => List Tm → Sc)
    (fun f l ih t => if f ≠ t.f ∨ (Tm.mk f l).ps.length ≠ t.ps.length then addT (-1) (addT 1 emp ⟨f, l⟩) t else if f < 0 then emp else ih t.l)
    (fun _ => emp)
    (fun x l ih1 ih2 ts => match ts with | [] => emp | t :: ts => restS (kb x t) (ih1 t) l ts (ih2 ts)) p
noncomputable def scs (ps : List Tm) : List Tm → Sc :=
  Tm.rec_1 (motive_1 := fun _ => Tm → Sc) (motive_2 := fun _ => List Tm → Sc)
    (fun f l ih t => if f ≠ t.f ∨ (Tm.mk f l).ps.length ≠ t.ps.length then addT (-1) (addT 1 emp ⟨f, l⟩) t else if f < 0 then emp else ih t.l)
    (fun _ => emp)
    (fun x l ih1 ih2 ts => match ts with | [] => emp | t :: ts => restS (kb x t) (ih1 t) l ts (ih2 ts)) ps
theorem scs_nil (m : List Tm) : scs [] m = emp := rfl
theorem scs_cons (x : Tm) (l : List Tm) (y : Tm) (m : List Tm) : scs (x :: l) (y :: m) = restS (kb x y) (scS x y) l m (scs l m) := rfl
theorem scS_ne {a b : Tm} (h : a.f ≠ b.f ∨ a.ps.length ≠ b.ps.length) : scS a b = addT (-1) (addT 1 emp a) b := by
  cases a
  show (if _ then _ else _) = _
  rw [if_pos h]
theorem scS_eq {a b : Tm} (h : ¬ (a.f ≠ b.f ∨ a.ps.length ≠ b.ps.length)) : scS a b = scs a.ps b.ps := by
  cases a with
  | mk f l =>
    show (if _ then _ else _) = _
    rw [if_neg h]
    by_cases hf : f < 0
    · rw [if_pos hf, Tm.ps_of_var (t := ⟨f, l⟩) hf, scs_nil]
    · rw [if_neg hf, Tm.ps_of_sym (t := ⟨f, l⟩) (by show 0 ≤ f; omega), Tm.ps_of_sym (t := b) (by have := Classical.not_not.1 (fun e => h (.inl e)); simp only at this; omega)]
      rfl
/-- Where the first parts that aren't the same stand. -/
theorem scs_at : ∀ {l m : List Tm} {k : Nat} {x y : Tm}, l[k]? = some x → m[k]? = some y → kb x y ≠ 0 → (∀ j u v, j < k → l[j]? = some u → m[j]? = some v → kb u v = 0) → scs l m = addL (-1) (addL 1 (scS x y) (l.drop (k + 1))) (m.drop (k + 1)) ∧ kbs l m = kb x y
  | [], _, k, x, y, h, _, _, _ => by simp at h
  | _ :: _, [], k, x, y, _, h, _, _ => by simp at h
  | u :: l, v :: m, 0, x, y, h1, h2, hne, _ => by
    simp at h1 h2
    subst h1; subst h2
    rw [scs_cons, kbs_cons]
    unfold restS firstK
    rw [if_pos hne, if_pos hne]
    exact ⟨rfl, rfl⟩
  | u :: l, v :: m, k + 1, x, y, h1, h2, hne, hi => by
    have h0 := hi 0 u v (by omega) rfl rfl
    rw [scs_cons, kbs_cons]
    unfold restS firstK
    rw [if_neg (by omega), if_neg (by omega)]
    exact scs_at (by simpa using h1) (by simpa using h2) hne fun j u v hj hu hv => hi (j + 1) u v (by omega) (by simpa using hu) (by simpa using hv)
theorem scs_none : ∀ {l m : List Tm}, (∀ (j : Nat) u v, l[j]? = some u → m[j]? = some v → kb u v = 0) → scs l m = emp ∧ kbs l m = 0
  | [], _, _ => ⟨rfl, rfl⟩
  | _ :: _, [], _ => ⟨rfl, rfl⟩
  | u :: l, v :: m, hi => by
    have h0 := hi 0 u v rfl rfl
    rw [scs_cons, kbs_cons]
    unfold restS firstK
    rw [if_neg (by omega), if_neg (by omega)]
    exact scs_none fun j u v hu hv => hi (j + 1) u v (by simpa using hu) (by simpa using hv)
theorem emp_ss : Ss emp 0 fun _ => 0 := ⟨rfl, by simp [ndk, emp], rfl, rfl, fun _ => rfl⟩
theorem emp_bds : Bds emp 0 := ⟨by simp [emp], by simp [emp], by simp [emp], fun _ => by simp [emp, mget, mfind]⟩
def vD (a b : Tm) (v : Int) : Int := (a.vs.count v : Int) - b.vs.count v
/-- The first place where lists differ, or none. -/
theorem first_ne : ∀ (l m : List Tm), l.length = m.length → (∃ (k : Nat) (x y : Tm), l[k]? = some x ∧ m[k]? = some y ∧ kb x y ≠ 0 ∧ ∀ (j : Nat) u v, j < k → l[j]? = some u → m[j]? = some v → kb u v = 0) ∨ ∀ (j : Nat) u v, l[j]? = some u → m[j]? = some v → kb u v = 0
  | [], _, _ => .inr fun j u v h => by simp at h
  | _ :: _, [], h => by simp at h
  | u :: l, v :: m, h => by
    by_cases h0 : kb u v = 0
    · rcases first_ne l m (by simpa using h) with ⟨k, x, y, h1, h2, h3, h4⟩ | h1
      · left
        refine ⟨k + 1, x, y, by simpa using h1, by simpa using h2, h3, fun j u' v' hj hu hv => ?_⟩
        cases j with
        | zero => simp at hu hv; subst hu; subst hv; exact h0
        | succ j => exact h4 j u' v' (by omega) (by simpa using hu) (by simpa using hv)
      · right
        intro j u' v' hu hv
        cases j with
        | zero => simp at hu hv; subst hu; subst hv; exact h0
        | succ j => exact h1 j u' v' (by simpa using hu) (by simpa using hv)
    · left; exact ⟨0, u, v, rfl, rfl, h0, fun j u v hj => by omega⟩
theorem vs_take_same : ∀ {l m : List Tm} {k : Nat}, k ≤ l.length → l.length = m.length → (∀ j u v, j < k → l[j]? = some u → m[j]? = some v → kb u v = 0) → ((l.take k).flatMap Tm.flat).length = ((m.take k).flatMap Tm.flat).length ∧ (l.take k).flatMap Tm.vs = (m.take k).flatMap Tm.vs
  | _, _, 0, _, _, _ => by simp
  | [], _, k + 1, h, _, _ => by simp at h
  | _ :: _, [], k + 1, _, h, _ => by simp at h
  | u :: l, v :: m, k + 1, h, hl, hi => by
    have h0 := (kb_zero u v).1 (hi 0 u v (by omega) rfl rfl)
    obtain ⟨h1, h2⟩ := vs_take_same (l := l) (m := m) (k := k) (by simpa using h) (by simpa using hl) fun j u v hj hu hv => hi (j + 1) u v (by omega) (by simpa using hu) (by simpa using hv)
    have h3 : u.flat.length = v.flat.length := by have := congrArg Tm.size h0; rw [Tm.strip_size, Tm.strip_size] at this; exact this
    have h4 : u.vs = v.vs := by have := congrArg Tm.vs h0; rw [Tm.strip_vs, Tm.strip_vs] at this; exact this
    rw [List.take_succ_cons, List.take_succ_cons, List.flatMap_cons, List.flatMap_cons, List.flatMap_cons, List.flatMap_cons, List.length_append, List.length_append, h1, h2, h3, h4]
    exact ⟨rfl, rfl⟩
theorem split_len {l : List Tm} {k : Nat} {x : Tm} (h : l[k]? = some x) : (l.flatMap Tm.flat).length = ((l.take k).flatMap Tm.flat).length + (x.size + ((l.drop (k + 1)).flatMap Tm.flat).length) ∧ ∀ v, (l.flatMap Tm.vs).count v = ((l.take k).flatMap Tm.vs).count v + (x.vs.count v + ((l.drop (k + 1)).flatMap Tm.vs).count v) := by
  obtain ⟨h1, _⟩ := split_at h
  constructor
  · conv => lhs; rw [h1]
    rw [List.flatMap_append, List.flatMap_cons, List.length_append, List.length_append]
    rfl
  · intro v
    conv => lhs; rw [h1]
    rw [List.flatMap_append, List.flatMap_cons, List.count_append, List.count_append]
/-- What the scales say behind compare. -/
theorem scS_spec (a : Tm) : ∀ b, Bds (scS a b) (a.size + b.size) ∧ (kb a b = 0 → scS a b = emp) ∧ (kb a b ≠ 0 → Ss (scS a b) (szD a b) (vD a b)) := by
  induction a using Tm.indp with
  | h a ih =>
    intro b
    by_cases h : a.f ≠ b.f ∨ a.ps.length ≠ b.ps.length
    · rw [scS_ne h]
      have h1 : Bds (addT (-1) (addT 1 emp a) b) (0 + a.size + b.size) := (emp_bds.addT (.inl rfl)).addT (.inr rfl)
      refine ⟨by rw [Nat.zero_add] at h1; exact h1, fun h2 => ?_, fun _ => ?_⟩
      · rw [kb_eq, verd_zero] at h2
        unfold wi at h2
        rw [if_pos h] at h2
        exact absurd h2 (hd_ne h)
      · have h2 := (emp_ss.fold (σ := 1) (l := a.flat)).fold (σ := -1) (l := b.flat)
        refine ⟨?_, h2.nd, h2.sp, h2.lk, fun v => ?_⟩
        · refine h2.sz.trans ?_
          unfold szD Tm.size; omega
        · refine (h2.at_ v).trans ?_
          unfold vD Tm.vs; omega
    · rw [scS_eq h]
      have hw : wi a b = kbs a.ps b.ps := by unfold wi; rw [if_neg h]
      have hll : a.ps.length = b.ps.length := by omega
      rcases first_ne a.ps b.ps hll with ⟨k, x, y, h1, h2, h3, h4⟩ | h1
      · obtain ⟨e1, e2⟩ := scs_at h1 h2 h3 h4
        obtain ⟨b1, b2, b3⟩ := ih x (List.mem_of_getElem? h1) y
        have hk : k < a.ps.length := by
          rcases Nat.lt_or_ge k a.ps.length with h | h
          · exact h
          · rw [List.getElem?_eq_none h] at h1; cases h1
        obtain ⟨v1, v2⟩ := vs_take_same (Nat.le_of_lt hk) hll h4
        obtain ⟨l1, l2⟩ := split_len h1
        obtain ⟨m1, m2⟩ := split_len h2
        have sa := a.size_eq
        have sb := b.size_eq
        rw [e1]
        refine ⟨?_, fun h5 => ?_, fun h5 => ?_⟩
        · have hB := ((b1.addL (.inl rfl) (l := a.ps.drop (k + 1))).addL (.inr rfl) (l := b.ps.drop (k + 1)))
          obtain ⟨q1, q2, q3, q4⟩ := hB
          exact ⟨by omega, by omega, by omega, fun v => by have := q4 v; omega⟩
        · rw [kb_eq, verd_zero, hw, e2] at h5
          exact absurd h5 h3
        · have h6 := ((b3 h3).fold (σ := 1) (l := (a.ps.drop (k + 1)).flatMap Tm.flat)).fold (σ := -1) (l := (b.ps.drop (k + 1)).flatMap Tm.flat)
          refine ⟨?_, h6.nd, h6.sp, h6.lk, fun v => ?_⟩
          · refine h6.sz.trans ?_
            unfold szD; omega
          · refine (h6.at_ v).trans ?_
            rw [vsL_flatMap, vsL_flatMap]
            have p1 := l2 v
            have p2 := m2 v
            rw [← v2] at p2
            have hf : a.f = b.f := by omega
            have ha : a.vs = a.ps.flatMap Tm.vs := by
              by_cases hv : a.f < 0
              · rw [Tm.ps_of_var hv] at hk; simp at hk
              · rw [Tm.vs_sym hv, Tm.ps_of_sym (by omega)]
            have hb : b.vs = b.ps.flatMap Tm.vs := by
              by_cases hv : b.f < 0
              · rw [Tm.ps_of_var (t := a) (by omega)] at hk; simp at hk
              · rw [Tm.vs_sym hv, Tm.ps_of_sym (by omega)]
            unfold vD
            rw [ha, hb]
            omega
      · obtain ⟨e1, e2⟩ := scs_none h1
        rw [e1]
        refine ⟨?_, fun _ => rfl, fun h5 => ?_⟩
        · obtain ⟨q1, q2, q3, q4⟩ := emp_bds
          exact ⟨by omega, by omega, by omega, fun v => by have := q4 v; omega⟩
        · exfalso
          apply h5
          rw [kb_eq, verd_zero, hw, e2]
theorem ord_same (z w : Int) : (if z ≠ 0 then cmpZ z 0 else w) = ordV z w := by
  unfold ordV
  rcases cmpZ_cases z 0 with h | h | h
  · rw [if_pos (by omega), if_neg (by omega), if_pos (by omega), h.1]
  · rw [if_neg (by omega), if_neg (by omega), if_neg (by omega)]
  · rw [if_pos (by omega), if_pos (by omega), h.1]
/-- The verdict of scales is that of sizes and variables. -/
theorem vd_spec {s : Sc} {a b : Tm} (h : Ss s (szD a b) (vD a b)) {w : Int} (hw : w ≠ 0) : vdS s w = verd (szD a b) (cov a b) (cov b a) w := by
  have h1 : 0 < s.lk ↔ ¬ cov a b := by
    obtain ⟨d1, d2⟩ := dns_zero h.nd
    rw [h.lk]
    have : dnS s.mp = 0 ↔ cov a b := by
      rw [d2]
      unfold cov
      constructor
      · intro h2 v; have := h2 v; rw [h.at_] at this; unfold vD at this; omega
      · intro h2 v; have := h2 v; rw [h.at_]; unfold vD; omega
    rw [← this]; omega
  have h2 : 0 < s.sp ↔ ¬ cov b a := by
    obtain ⟨d1, d2⟩ := ups_zero h.nd
    rw [h.sp]
    have : upS s.mp = 0 ↔ cov b a := by
      rw [d2]
      unfold cov
      constructor
      · intro h2 v; have := h2 v; rw [h.at_] at this; unfold vD at this; omega
      · intro h2 v; have := h2 v; rw [h.at_]; unfold vD; omega
    rw [← this]; omega
  unfold vdS verd pickV ordS
  rw [if_neg hw, h.sz, ord_same]
  by_cases h3 : (ordV (szD a b) w = 1 ∧ ¬ cov a b) ∨ (ordV (szD a b) w = -1 ∧ ¬ cov b a)
  · rw [if_pos h3, if_pos (by rw [h1, h2]; exact h3)]
  · rw [if_neg h3, if_neg (by rw [h1, h2]; exact h3)]
end Go.Proofs.Ytahkegkahhbalaa

