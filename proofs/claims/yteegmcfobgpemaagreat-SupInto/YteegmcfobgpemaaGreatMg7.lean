/-
  UnFns8 AbRoom AbBox AbIter AbRange AbMark AbBack UnFns9 AbMapR AbEnds
-/
import Derived.Test.YteegmcfobgpemaaGreatMg6
import Derived.Test.YteegmcfobgpemaaGreatMg3
import Derived.Test.YteegmcfobgpemaaGreatMg2
import Derived.Test.YteegmcfobgpemaaGreatMg5
import Derived.Maps.RangeRun
namespace Go.Proofs.YteegmcfobgpemaaGreat
open Go.RowKit
set_option linter.unusedVariables false
set_option linter.unusedSimpArgs false
set_option maxRecDepth 100000
theorem nodup_le : ∀ (N : Nat) {l : List Nat}, l.Nodup → (∀ x ∈ l, x < N) → l.length ≤ N
  | 0, l, _, h => by
    cases l with
    | nil => simp
    | cons a l => exact absurd (h a (by simp)) (by omega)
  | N + 1, l, hn, h => by
    have h1 : (l.filter fun x => decide (x ≠ N)).length ≤ N := nodup_le N (List.Pairwise.filter _ hn) fun x hx => by
      obtain ⟨h2, h3⟩ := List.mem_filter.1 hx
      have := h x h2
      have : x ≠ N := by simpa using h3
      omega
    have h2 : l.length ≤ (l.filter fun x => decide (x ≠ N)).length + 1 := by
      clear h h1
      induction l with
      | nil => simp
      | cons a l ih =>
        rw [List.nodup_cons] at hn
        by_cases e : a = N
        · subst e
          rw [List.filter_cons, if_neg (by simp), List.length_cons]
          have : l.filter (fun x => decide (x ≠ a)) = l := List.filter_eq_self.2 fun x hx => by
            simp only [ne_eq, decide_eq_true_eq]
            exact fun e => hn.1 (e ▸ hx)
          rw [this]
          omega
        · rw [List.filter_cons, if_pos (by simpa using e), List.length_cons, List.length_cons]
          have := ih hn.2
          omega
    omega
theorem runC_inv : ∀ (k : Nat) {c : Cl} {q} {E} {M : Nat}, runC k c = some q → Inv c E M → q.2 = true → Inv q.1 E M ∧ q.1.ps = []
  | 0, _, _, _, _, e, _, _ => by cases e
  | k + 1, c, q, E, M, e, h, hq => by
    rw [runC] at e
    cases hg : c.ps.getLast? with
    | none => rw [hg] at e; cases e; exact ⟨h, List.getLast?_eq_none_iff.1 hg⟩
    | some p =>
      rw [hg] at e
      simp only at e
      cases hj : joinC k ⟨c.ns, c.vr, c.ps.dropLast⟩ p.1 p.2 with
      | none => rw [hj] at e; cases e
      | some qq =>
        rw [hj] at e
        simp only at e
        split at e
        · rename_i h2; exact runC_inv k e ((h.join hg hj).2 h2) hq
        · rename_i h2; cases e; exact absurd hq h2
theorem joinAllC_inv {k : Nat} : ∀ (l : List (Tm × Tm)) {c : Cl} {q} {E}, joinAllC k l c = some q → Inv c E 2000001 → c.ps = [] → (∀ p ∈ l, (p.1.rng ∧ p.1.ok) ∧ (p.2.rng ∧ p.2.ok)) → pw c.ns + plcS l ≤ 1000 → q.2 = true → ∃ E', Inv q.1 E' 2000001
  | [], c, q, E, e, h, _, _, _, _ => by cases e; exact ⟨E, h⟩
  | p :: l, c, q, E, e, h, hps, hl, hb, hq => by
    have hb : pw c.ns + (p.1.size + p.2.size + plcS l) ≤ 1000 := hb
    rw [joinAllC] at e
    cases hr : runC k (openC c p) with
    | none => rw [hr] at e; cases e
    | some qr =>
      rw [hr] at e
      simp only at e
      obtain ⟨h1, h2⟩ := hl p (by simp)
      have hI := h.opn hps h1 h2 (by omega)
      split at e
      · rename_i h3
        obtain ⟨g1, g2⟩ := runC_inv k hr hI h3
        have hp := pw_run k hr
        rw [pw_open] at hp
        exact joinAllC_inv l e g1 g2 (fun x hx => hl x (List.mem_cons_of_mem _ hx)) (by omega) hq
      · rename_i h3; cases e; exact absurd hq h3
theorem ordC_fit {k : Nat} : ∀ (j i : Nat) {c : Cl} {o : List Nat} {q}, ordC k j i c o = some q → FitU c → (∀ h ∈ o, h < c.ns.length) → ∀ {B : Int}, 0 ≤ B → usB c.ns B → FitU q.1
  | 0, _, _, _, _, e, _, _, _, _, _ => by cases e
  | j + 1, i, c, o, q, e, hF, ho, B, hB, hu => by
    rw [ordC] at e
    cases hi : o[i]? with
    | none => rw [hi] at e; cases e; exact hF
    | some g =>
      rw [hi] at e
      simp only at e
      have hg := ho g (List.mem_of_getElem? hi)
      have hp := hF.parts hg
      have hsn := snd_le hF.kid hg
      cases hd : downC k (List.range' (pC c g).2.1 ((pC c g).2.2 - (pC c g).2.1)) (pC c g).1.ns o with
      | none => rw [hd] at e; cases e
      | some qd =>
        rw [hd] at e
        simp only at e
        have hge : c.ns.length ≤ (pC c g).1.ns.length := parts_len
        obtain ⟨g1, g2, g3, g4, g5⟩ := downC_keep (vr := (pC c g).1.vr) (ps := (pC c g).1.ps) _ hd hp (fun p hp2 => by rw [List.mem_range'_1] at hp2; omega) (hu.parts hB g) (fun x hx => by have := ho x hx; omega)
        exact ordC_fit j (i + 1) e g1 (fun x hx => by show x < qd.1.length; rw [g2]; exact g5 x hx) (by omega) g3
end Go.Proofs.YteegmcfobgpemaaGreat
namespace Go.Proofs.YteegmcfobgpemaaGreat
open Go.RowKit
set_option linter.unusedVariables false
set_option linter.unusedSimpArgs false
section
variable {P : Program} {w0 : World} {U0 : UX} {nt : Nat} {ops : Array Oper} {o : Oper} {S : Nat → Option AV} {gs : List Nat} {d : Nat} {s : AS} {a : Act} {w : World} {D : Nat → Nat → Prop} {hv : Nat → Value}

theorem AWp.handle {c : Code} {Q : Exit → AS → Prop} (d n : Nat) {e z : Nat} {l : List CV} (hd : Nat.blt d nt = true) (h5 : Nat.blt d 100000 = true) (hm : look s n = some (.mrow e z l)) (hn : (Nat.ble 200000 n && Nat.blt n 450000) = true) (h : ∀ ao cap, l.length ≤ cap → (ao = none → l.length = 0 ∧ cap = 0) → AWp P w0 U0 nt c Q ((d, .hdl (.slice ao l.length cap) n) :: s)) : AWp P w0 U0 nt c Q s := by
  intro M a w ⟨D, hv, hs⟩
  have hrn : RN n := rnF hn
  obtain ⟨xs, f1, _⟩ := hs.mrow hm hrn
  obtain ⟨ao, cap, e1, e2, _⟩ := own_slice f1
  have hdn : d < a.tmps.size := by rw [hs.size]; exact bL hd
  have e3 : ao = none → l.length = 0 ∧ cap = 0 := fun e => by
    rcases f1.2 with ⟨b1, b2⟩ | ⟨g, cap', cur, b1, _⟩
    · rw [e1] at b1; injection b1 with _ _ i3; exact ⟨b2, i3⟩
    · rw [e1, e] at b1; cases b1
  exact h ao cap e2 e3 M a w ⟨D, hv, hs.know (bL h5) (Array.getElem?_eq_getElem hdn) ⟨hrn, e1⟩⟩

theorem a_appR (yy dh dh2 : Nat) (hg : Gd w0 U0 nt ops o gs S) (hd : o.dst = some d) (hn : Nat.blt d nt = true) (h5 : Nat.blt d 100000 = true) {x y : Operand} {t e size bytes : Nat} {z : Value} {l l2 : List CV} {n len cap n2 q2 p2} {ao : Option Addr} (ho : o.op = .call { callee := .builtin .append, args := #[x, y], argTypes := #[t, t] }) (ht : P.underlying t = some (.slice e)) (hi : (P.info? e).map (fun i => (i.zero, i.size, i.bytes)) = some (some z, size, bytes))
    (hx : ev S x = some (.sl n 0 len size)) (hy : ev S y = some ⟨0, .lst l2, n2, q2, p2⟩) (hlv : S n = some (.mrow e size l)) (hdh : S dh = some (.hdl (.slice ao l.length cap) n)) (hyb : (Nat.ble 300000 yy && Nat.blt yy 450000) = true) (hdb : (Nat.blt dh 100000 && (Nat.blt dh2 100000 && (Nat.blt dh2 nt && !Nat.beq n yy))) = true) (hn3 : (Nat.ble 300000 n && Nat.blt n 450000) = true) (hf : U0.f yy = none) (hlen : len = l.length) (hl2 : ∀ c ∈ l2, c.size = size) (hpos : 0 < l2.length) (hroom : l.length + l2.length ≤ cap) :
    AOp P w0 U0 nt ops o (gs ++ (rd x ++ (rd y ++ [n, dh]))) [(yy, [])] S [(d, .sl yy 0 (l.length + l2.length) size), (dh2, .hdl (.slice ao (l.length + l2.length) cap) yy), (yy, .mrow e size (l ++ l2)), (n, .no)] := by
  intro s hs hN a w ⟨D, hv, h⟩ Q K hK
  rw [if_pos (hg s (fun k hk => hs k (List.mem_append_left _ hk)) a w D hv h)]
  simp only [Bool.and_eq_true] at hdb hyb hn3
  obtain ⟨hdh1, hdh2, hdh3, hny⟩ := hdb
  have hny : n ≠ yy := fun e => by rw [e, Nat.beq_refl] at hny; cases hny
  have hy1 := Nat.le_of_ble_eq_true hyb.1
  have hy2 := bL hyb.2
  have hn1 := Nat.le_of_ble_eq_true hn3.1
  have hn2' := bL hn3.2
  have hryy : RN yy := ⟨by omega, hy2⟩
  obtain ⟨hrn, hsl⟩ : RN n ∧ SlV (hv n) 0 len size (a.eval x) := ev_rep h (fun k hk => hs k (List.mem_append_right _ (List.mem_append_left _ hk))) hx
  have h3 := ev_val h (fun k hk => hs k (List.mem_append_right _ (List.mem_append_right _ (List.mem_append_left _ hk)))) hy
  have hok : oKey n := ⟨by omega, by omega⟩
  have hlk := (hs n (by simp)).trans hlv
  obtain ⟨xs, g1, g2, g3, g4⟩ := h.mrow hlk hrn
  obtain ⟨_, _, hhv⟩ : ∃ v, a.tmps[dh]? = some v ∧ RN n ∧ hv n = .slice ao l.length cap := h.slot dh _ ((hs dh (by simp)).trans hdh) (bL hdh1)
  have hhv := hhv.2
  have hval : a.eval x = .slice ao l.length cap := by
    obtain ⟨ao1, m1, cap1, ao', e1, e2, e3, e4, _⟩ := hsl
    rw [hhv] at e1
    injection e1 with i1 i2 i3
    subst i1; subst i2; subst i3
    rw [e2, e4 rfl, hlen]; rfl
  obtain ⟨ao2, m, c2, k1, k2, k3, k4, k6, ys2, k7, k8⟩ := vrep_lst.1 h3
  have hyl2 : ys2.length = m * size := by rw [sq_len (n := CV.size) (fun c _ xs h => h.len) k8, sum_const hl2, k2]
  obtain ⟨i, hi1, hi2, hi3, hi4⟩ := info_parts hi
  rcases g1.2 with ⟨b1, b2⟩ | ⟨g, cap', cur, b1, b2, b3, b4, b5, b6, b7⟩
  · exfalso
    rw [hhv] at b1
    injection b1 with _ _ i3
    omega
  rw [hhv] at b1
  injection b1 with i1 i2 i3
  subst i1; subst i3
  cases ao2 with
  | none => exfalso; have := (k6 rfl).1; omega
  | some ad =>
  have hnews : ∀ j u, ys2[j]? = some u → w.cell? (ad.add j) = some u := fun j u hj => by
    have hjl : j < ys2.length := by
      rcases Nat.lt_or_ge j ys2.length with h | h
      · exact h
      · rw [List.getElem?_eq_none h] at hj; cases hj
    rcases k7 with rfl | ⟨b, off, ha, hc⟩
    · simp at hjl
    · cases ha
      rw [add_at, (hc j hjl).2, hj]
  have hown : w.ownsRow 0 e size (.slice (some ⟨g, 0, none⟩) l.length cap) l.length xs := by rw [← hhv]; exact g1
  obtain ⟨w', r1, r2, r3⟩ := run_append_fits (P := P) w 0 t o.type e i size ht hi1 hi3 g l.length cap xs hown ad m c2 ys2 hyl2 hnews (rep_one_of k8) (by omega)
  have hvb : hb (hv n) = some g := by rw [hhv]; rfl
  obtain ⟨f1, f2, f3⟩ := h.blk n _ g hlk hok (by simp) hvb
  have hD' : ∀ o, ¬ D g o := fun o => f3 o fun e => by cases e
  have hkp : ∀ b o u, Us w0 U0 D b o → w.cell? ⟨b, o, none⟩ = some u → Us w0 U0 D b o ∧ w'.cell? ⟨b, o, none⟩ = some u := fun b o u hu hc => by
    refine ⟨hu, ?_⟩
    have hlt : b < w.heap.size := World.block_lt_of_cell? w _ hc
    have hnb : some b ≠ some g := fun e => us_ne hu f1 (hD' o) (by injection e)
    rw [World.cell?_of_block (w := w) (r3.block b hlt hnb)]
    exact hc
  have hmn : Mn w0 U0 (lcl yy (.mrow e size (l ++ l2))) g := by
    rw [lcl_row hn1] at f1
    rw [lcl_row hy1]
    exact f1
  have hG := (h.kill hok).newrowF (n := yy) (avn := .mrow e size (l ++ l2)) (v' := .slice (some ⟨g, 0, none⟩) (l.length + m) cap) (D' := D) (X := fun b => b = g) hryy hf (fun k av hk => by
      by_cases e : n = k
      · subst e
        rw [lS] at hk
        cases hk
        have hfn : fnm n = 100000 := by unfold fnm; rw [ble_no (by omega : n < 500000)]
        rw [hfn]
        exact ⟨by show 0 ≠ _; omega, by omega, by omega⟩
      · rw [lN e] at hk; exact (hN (yy, []) (by simp)).nr k av hk) (by simp) ⟨r3.os, r3.tape, r3.output, r3.size, fun b hb hx => r3.block b hb fun e => hx (by injection e)⟩ (fun b hb => by
      subst hb
      refine ⟨hmn, fun q av h6 h7 h8 h9 => ?_⟩
      have hq : n ≠ q := fun e => by subst e; rw [lS] at h6; cases h6; exact h8 rfl
      rw [lN hq] at h6
      exact h.disj n q _ av b hlk h6 hok h7 (by simp) h8 hq hvb) (fun g' hg' => by
      have hg' : some g = some g' := hg'
      cases hg'
      exact ⟨.inl rfl, Nat.lt_of_lt_of_le f2 r3.size, fun o _ => hD' o⟩) (fun b o hd => .inl hd) (fun b o hd => Nat.lt_of_lt_of_le (h.dlt _ _ hd) r3.size) hkp (fun hv lv => by
      refine ⟨xs ++ ys2, ?_, g2, fun c hc => ?_, ?_⟩
      · show w'.ownsRow 0 e size _ (l ++ l2).length (xs ++ ys2)
        rw [List.length_append, ← k2]
        exact r2
      · rcases List.mem_append.1 hc with hc | hc
        · exact g3 c hc
        · exact hl2 c hc
      · show Sq ((l ++ l2).map _) _
        rw [List.map_append]
        exact sq_append (Sq.keep hkp g4) (Sq.keep hkp k8))
  have he : (execOp a.eval o).run P w = .ok (.value (.slice (some ⟨g, 0, none⟩) (l.length + m) cap)) w' := by
    generalize a.eval = ρ at hval k1 ⊢
    simp [execOp, ho, resolve, invoke, builtin, hval, k1, r1, Result.andThen]
  unfold Oper.wp
  rw [he, Oper.upon_value, hd]
  have hnew : (fun x => if x = yy then Value.slice (some ⟨g, 0, none⟩) (l.length + m) cap else hv x) yy = .slice (some ⟨g, 0, none⟩) (l.length + m) cap := by simp
  have hdn : dh2 < a.tmps.size := by rw [h.size]; exact bL hdh3
  have hG2 := hG.know (d := dh2) (av := .hdl (.slice (some ⟨g, 0, none⟩) (l.length + l2.length) cap) yy) (bL hdh2) (Array.getElem?_eq_getElem hdn) ⟨hryy, by rw [← k2]; exact hnew⟩
  refine hK _ _ ⟨_, _, hG2.put (bL hn) (bL h5) ⟨hryy, ?_⟩⟩
  show SlV ((fun x => if x = yy then Value.slice (some ⟨g, 0, none⟩) (l.length + m) cap else hv x) yy) 0 (l.length + l2.length) size _
  rw [hnew, ← k2]
  exact slV_all rfl (by omega) (.inr ⟨_, rfl⟩)
theorem a_appX (yy dh : Nat) (hg : Gd w0 U0 nt ops o gs S) (hd : o.dst = some d) (hn : Nat.blt d nt = true) (h5 : Nat.blt d 100000 = true) {x y : Operand} {t e size bytes : Nat} {z : Value} {l l2 : List CV} {n len n2 q2 p2} {ao : Option Addr} (ho : o.op = .call { callee := .builtin .append, args := #[x, y], argTypes := #[t, t] }) (ht : P.underlying t = some (.slice e)) (hi : (P.info? e).map (fun i => (i.zero, i.size, i.bytes)) = some (some z, size, bytes)) (hzs : Nat.beq z.cells.size size = true) (hbt : Nat.ble bytes 1000 = true)
    (hx : ev S x = some (.sl n 0 len size)) (hy : ev S y = some ⟨0, .lst l2, n2, q2, p2⟩) (hlv : S n = some (.mrow e size l)) (hdh : S dh = some (.hdl (.slice ao l.length l.length) n)) (hyb : (Nat.ble 200000 yy && Nat.blt yy 450000) = true) (hdb : Nat.blt dh 100000 = true) (hf : U0.f yy = none) (hlen : len = l.length) (hl2 : ∀ c ∈ l2, c.size = size) (hpos : 0 < l2.length) (hbd : l.length + l2.length ≤ 100000000000) :
    AOp P w0 U0 nt ops o (gs ++ (rd x ++ (rd y ++ [n, dh]))) [(yy, [])] S [(d, .sl yy 0 (l.length + l2.length) size), (yy, .mrow e size (l ++ l2))] := by
  intro s hs hN a w ⟨D, hv, h⟩ Q K hK
  rw [if_pos (hg s (fun k hk => hs k (List.mem_append_left _ hk)) a w D hv h)]
  have hryy : RN yy := rnF hyb
  obtain ⟨hrn, hsl⟩ : RN n ∧ SlV (hv n) 0 len size (a.eval x) := ev_rep h (fun k hk => hs k (List.mem_append_right _ (List.mem_append_left _ hk))) hx
  have h3 := ev_val h (fun k hk => hs k (List.mem_append_right _ (List.mem_append_right _ (List.mem_append_left _ hk)))) hy
  have hlk := (hs n (by simp)).trans hlv
  obtain ⟨xs, g1, g2, g3, g4⟩ := h.mrow hlk hrn
  obtain ⟨_, _, hhv⟩ : ∃ v, a.tmps[dh]? = some v ∧ RN n ∧ hv n = .slice ao l.length l.length := h.slot dh _ ((hs dh (by simp)).trans hdh) (bL hdb)
  have hhv := hhv.2
  have hval : a.eval x = .slice ao l.length l.length := by
    obtain ⟨ao1, m1, cap1, ao', e1, e2, e3, e4, _⟩ := hsl
    rw [hhv] at e1
    injection e1 with i1 i2 i3
    subst i1; subst i2; subst i3
    rw [e2, e4 rfl, hlen]; rfl
  obtain ⟨ao2, m, c2, k1, k2, k3, k4, k6, ys2, k7, k8⟩ := vrep_lst.1 h3
  have hyl2 : ys2.length = m * size := by rw [sq_len (n := CV.size) (fun c _ xs h => h.len) k8, sum_const hl2, k2]
  have hAt : At (fun _ _ => True) w ao xs ∧ (ao = none → l.length = 0) := by
    rw [hhv] at g1
    rcases g1.2 with ⟨b1, b2⟩ | ⟨g, cap', cur, b1, b2, b3, b4, b5, b6, b7⟩
    · injection b1 with i1 i2 i3
      exact ⟨.inl (List.eq_nil_of_length_eq_zero (by rw [g1.1, i2]; simp)), fun _ => i2⟩
    · injection b1 with i1 i2 i3
      subst i1
      refine ⟨.inr ⟨g, 0, rfl, fun j hj => ⟨trivial, ?_⟩⟩, fun e => by cases e⟩
      rw [Nat.zero_add]
      exact own_cell g1 (g := g) rfl (by rw [← g1.1]; exact hj)
  have hAt2 : At (fun _ _ => True) w ao2 ys2 := by
    rcases k7 with k7 | ⟨b, off, ha, hc⟩
    · exact .inl k7
    · exact .inr ⟨b, off, ha, fun j hj => ⟨trivial, (hc j hj).2⟩⟩
  have hmul : (l.length + m) * bytes ≤ 100000000000 * 1000 := Nat.mul_le_mul (by omega) (Nat.le_of_ble_eq_true hbt)
  obtain ⟨v', w', r1, r2, r3⟩ := run_appF (P := P) (ty := o.type) ht hi (Nat.eq_of_beq_eq_true hzs) g2 hAt.2 hAt.1 g1.1 (fun h => (k6 h).1) hAt2 hyl2 (c := c2) (rep_one_of k8) (by omega) (by unfold maxLen; omega) (by omega)
  have hb2 : hb v' = v'.ownBlock := by
    rcases r2.2 with ⟨rfl, _⟩ | ⟨g, cap, cur, rfl, _⟩ <;> rfl
  have hkp : ∀ b o u, Us w0 U0 D b o → w.cell? ⟨b, o, none⟩ = some u → Us w0 U0 D b o ∧ w'.cell? ⟨b, o, none⟩ = some u := fun b o u hu hc => by
    refine ⟨hu, ?_⟩
    have hlt : b < w.heap.size := World.block_lt_of_cell? w _ hc
    rw [World.cell?_of_block (w := w) (r3.block b hlt (by simp))]
    exact hc
  have hG := h.newrowF (n := yy) (avn := .mrow e size (l ++ l2)) (v' := v') (D' := D) (X := fun _ => False) hryy hf (hN (yy, []) (by simp)).nr (by simp) ⟨r3.os, r3.tape, r3.output, r3.size, fun b hb hx => r3.block b hb (by simp)⟩ (fun b hb => hb.elim) (fun g hg => by
      rw [hb2] at hg
      refine ⟨.inr (r2.lt g hg).1, (r2.lt g hg).2, fun o _ hd => ?_⟩
      have := (r2.lt g hg).1
      have := h.dlt _ _ hd
      omega) (fun b o hd => .inl hd) (fun b o hd => Nat.lt_of_lt_of_le (h.dlt _ _ hd) r3.size) hkp (fun hv lv => by
      refine ⟨xs ++ ys2, ?_, g2, fun c hc => ?_, ?_⟩
      · show w'.ownsRow 0 e size v' (l ++ l2).length (xs ++ ys2)
        rw [List.length_append, ← k2]
        exact ownsRow_mono r2 (Nat.zero_le _)
      · rcases List.mem_append.1 hc with hc | hc
        · exact g3 c hc
        · exact hl2 c hc
      · show Sq ((l ++ l2).map _) _
        rw [List.map_append]
        exact sq_append (Sq.keep hkp g4) (Sq.keep hkp k8))
  have he : (execOp a.eval o).run P w = .ok (.value v') w' := by
    generalize a.eval = ρ at hval k1 ⊢
    simp [execOp, ho, resolve, invoke, builtin, hval, k1, r1, Result.andThen]
  unfold Oper.wp
  rw [he, Oper.upon_value, hd]
  refine hK _ _ ⟨_, _, hG.put (bL hn) (bL h5) ⟨hryy, ?_⟩⟩
  obtain ⟨a1, c1, q1, q2, q3⟩ := own_addr (ownsRow_mono r2 (Nat.zero_le _))
  have := slV_all (z := size) q1 q2 q3
  show SlV ((fun x => if x = yy then v' else hv x) yy) 0 (l.length + l2.length) size v'
  simp only [if_true]
  rw [← k2]
  exact this

theorem wk_again (X Y dh dh2 k : Nat) {e z m cap : Nat} {l : List CV} {ao : Option Addr} (hY : look s Y = some (.mrow e z l)) (hX : look s X = some .no) (h1 : look s dh = some (.hdl (.slice ao k cap) X)) (h2 : look s dh2 = some (.hdl (.slice ao m cap) Y)) (hdb : (Nat.blt dh 100000 && Nat.blt dh2 100000) = true) (hXb : (Nat.ble 300000 X && Nat.blt X 450000) = true) (hYb : (Nat.ble 300000 Y && Nat.blt Y 450000) = true) (hk : k ≤ l.length) : Wk w0 U0 nt s ((X, .mrow e z (l.take k)) :: (Y, .no) :: s) := by
  rintro a w ⟨D, hv, h⟩
  simp only [Bool.and_eq_true] at hdb hXb hYb
  have x1 := Nat.le_of_ble_eq_true hXb.1
  have x2 := bL hXb.2
  have y1 := Nat.le_of_ble_eq_true hYb.1
  have y2 := bL hYb.2
  have hXY : X ≠ Y := fun e => by rw [e, hY] at hX; cases hX
  obtain ⟨_, _, _, hvX⟩ : ∃ v, a.tmps[dh]? = some v ∧ RN X ∧ hv X = .slice ao k cap := h.slot dh _ h1 (bL hdb.1)
  obtain ⟨_, _, hrY, hvY⟩ : ∃ v, a.tmps[dh2]? = some v ∧ RN Y ∧ hv Y = .slice ao m cap := h.slot dh2 _ h2 (bL hdb.2)
  obtain ⟨xs, f1, f2, f3, f4⟩ := h.mrow hY hrY
  have hoX : oKey X := ⟨by omega, by omega⟩
  have hoY : oKey Y := ⟨by omega, by omega⟩
  have hbXY : hb (hv X) = hb (hv Y) := by rw [hvX, hvY]; cases ao <;> rfl
  obtain ⟨s', hs'⟩ : ∃ s', s' = (X, AV.mrow e z (l.take k)) :: (Y, AV.no) :: s := ⟨_, rfl⟩
  rw [← hs']
  have hlX : look s' X = some (.mrow e z (l.take k)) := by rw [hs', lS]
  have hlY : look s' Y = some .no := by rw [hs', lN hXY, lS]
  have hlo : ∀ {q}, q ≠ X → q ≠ Y → look s' q = look s q := fun {q} a1 a2 => by rw [hs', lN (Ne.symm a1), lN (Ne.symm a2)]
  have hl : ∀ q f, Live s' q f ↔ Live s q f := fun q f => by
    unfold Live
    by_cases e1 : q = X
    · subst e1; rw [hlX, hX]; constructor <;> (rintro ⟨a1, _⟩; cases a1)
    · by_cases e2 : q = Y
      · subst e2; rw [hlY, hY]; constructor <;> (rintro ⟨a1, _⟩; cases a1)
      · rw [hlo e1 e2]
  have hl2 : LiveN s' = LiveN s := by funext q; simp only [LiveN, hl]
  refine ⟨D, hv, h.below, h.dfr, h.size, fun d av g1 g2 => ?_, fun q o av g1 g2 g3 g4 => ?_, fun q o o' av av' g1 g2 => ?_, fun q av g1 g2 => ?_, fun q av g g1 g2 g3 g4 => ?_, fun q q' av av' g g1 g2 g3 g4 g5 g6 g7 g8 => ?_, h.fix, h.dlt⟩
  · rw [hlo (by omega) (by omega)] at g1
    rw [hl2]; exact h.slot d av g1 g2
  · rw [hlo (by unfold fKey; omega) (by unfold fKey; omega)] at g1
    rw [hlo (by unfold BN at g4; omega) (by unfold BN at g4; omega)] at g3
    rw [hl2]; exact h.fld q o av g1 g2 g3 g4
  · rw [hlo (by unfold fKey; omega) (by unfold fKey; omega)] at g1 g2
    exact h.fdis q o o' av av' g1 g2
  · rw [hl2]
    by_cases e1 : q = X
    · subst e1
      rw [hlX] at g1
      cases g1
      rw [hvX]
      obtain ⟨ys, zs, q1, q2⟩ : ∃ ys zs, xs = ys ++ zs ∧ Sq ((l.take k).map fun c => Rep (Us w0 U0 D) w c) ys := by
        have f4' := f4
        rw [← List.take_append_drop k l, List.map_append] at f4'
        obtain ⟨y1, r1, q1, q2, q3⟩ := sq_split f4'
        exact ⟨y1, r1, q1, q2⟩
      have hyl : ys.length = k * z := by rw [sq_len (n := CV.size) (fun c _ xs h => h.len) q2, sum_const (fun c hc => f3 c (List.mem_of_mem_take hc)), List.length_take, Nat.min_eq_left hk]
      refine ⟨ys, ⟨?_, ?_⟩, f2, fun c hc => f3 c (List.mem_of_mem_take hc), q2⟩
      · show ys.length = (l.take k).length * z
        rw [List.length_take, Nat.min_eq_left hk]; exact hyl
      · show (Value.slice ao k cap = _ ∧ (l.take k).length = 0) ∨ _
        rw [List.length_take, Nat.min_eq_left hk]
        rcases f1.2 with ⟨b1, b2⟩ | ⟨g, cap', cur, b1, b2, b3, b4, b6, b7, b8⟩
        · rw [hvY] at b1
          injection b1 with i1 i2 i3
          subst i1; subst i3
          have : k = 0 := by omega
          subst this
          exact .inl ⟨rfl, rfl⟩
        · rw [hvY] at b1
          injection b1 with i1 i2 i3
          subst i1; subst i3
          refine .inr ⟨g, cap, cur, rfl, b2, b3, by omega, b6, b7, ?_⟩
          have b8' : cur.toList.take (l.length * z) = xs := b8
          have : cur.toList.take (k * z) = xs.take (k * z) := by
            rw [← b8', List.take_take, Nat.min_eq_left (Nat.mul_le_mul_right z hk)]
          show List.take (k * z) cur.toList = ys
          rw [this, q1, ← hyl]
          exact List.take_left' rfl
    · by_cases e2 : q = Y
      · subst e2
        rw [hlY] at g1
        cases g1
        exact oc_no rfl
      · rw [hlo e1 e2] at g1
        exact h.obj q av g1 g2
  · by_cases e1 : q = X
    · subst e1
      rw [hlX] at g1
      cases g1
      rw [hbXY] at g4
      obtain ⟨a1, a2, a3⟩ := h.blk Y _ g hY hoY (by simp) g4
      rw [lcl_row y1] at a1
      rw [lcl_row x1]
      exact ⟨a1, a2, fun o _ => a3 o fun e => by cases e⟩
    · by_cases e2 : q = Y
      · subst e2; rw [hlY] at g1; cases g1; exact absurd rfl g3
      · rw [hlo e1 e2] at g1
        exact h.blk q av g g1 g2 g3 g4
  · have conv : ∀ {q av}, look s' q = some av → av.t ≠ 7 → (q = X ∧ hb (hv q) = hb (hv Y)) ∨ (q ≠ Y ∧ look s q = some av) := fun {q av} a1 a2 => by
      by_cases e1 : q = X
      · exact .inl ⟨e1, by rw [e1]; exact hbXY⟩
      · by_cases e2 : q = Y
        · subst e2; rw [hlY] at a1; cases a1; exact absurd rfl a2
        · rw [hlo e1 e2] at a1; exact .inr ⟨e2, a1⟩
    rcases conv g1 g5 with ⟨c1, c2⟩ | ⟨c1, c2⟩
    · rcases conv g2 g6 with ⟨c3, c4⟩ | ⟨c3, c4⟩
      · exact absurd (c1.trans c3.symm) g7
      · rw [c2] at g8
        exact h.disj Y q' _ av' g hY c4 hoY g4 (by simp) g6 (Ne.symm c3) g8
    · rcases conv g2 g6 with ⟨c3, c4⟩ | ⟨c3, c4⟩
      · rw [c4]
        exact h.disj q Y av _ g c2 hY g3 hoY g5 (by simp) c1 g8
      · exact h.disj q q' av av' g c2 c4 g3 g4 g5 g6 g7 g8
end
end Go.Proofs.YteegmcfobgpemaaGreat
namespace Go.Proofs.YteegmcfobgpemaaGreat
open Go.RowKit Go.MapKept
set_option linter.unusedVariables false
set_option linter.unusedSimpArgs false
section
variable {P : Program} {w0 : World} {U0 : UX} {nt : Nat} {ops : Array Oper} {o : Oper} {S : Nat → Option AV} {gs : List Nat} {d : Nat} {s : AS} {a : Act} {w : World} {D : Nat → Nat → Prop} {hv : Nat → Value}

theorem live_two2 {x y : AV} {k m n : Nat} {e : Nat × Nat} (hk : k < 200000) (hm : m < 200000 ∨ 400000 ≤ m) : Live ((k, x) :: (m, y) :: s) n e ↔ Live s n e := by
  unfold Live
  constructor
  · rintro ⟨h1, h2⟩
    rw [lN (by omega), lN (by omega)] at h1
    exact ⟨h1, h2⟩
  · rintro ⟨h1, h2⟩
    exact ⟨by rw [lN (by omega), lN (by omega)]; exact h1, h2⟩
theorem hk_ne_boxN {lv : Nat → Prop} {a : AV} {d : Nat} (hd : BN d) (hlv : ∀ n, lv n → n = 1 ∨ RN n) (hr : a.n ≠ d) (h : Rn lv a) : hk a ≠ 100000 + d := by
  unfold BN at hd
  rcases h with ⟨h1, h2, h3⟩ | ⟨h1, h2⟩ | ⟨h1, h2⟩
  · rw [hk_eq.2 (by omega)]
    rcases hlv _ h2 with h4 | h4
    · exact absurd h4 h3
    · unfold RN at h4; omega
  · rw [hk_eq.1 h1]; omega
  · rw [hk_eq.2 (by omega)]; unfold RN at h2; omega
theorem SimG.newboxN (h : SimG w0 U0 nt s a w D hv) {nn : Nat} (hbn : BN nn) (hnf : ∀ v, U0.f (100000 + nn) = some v → False) (hr : NoRef s nn) (hd : d < nt) (h5 : d < 100000) {av : AV} (hav : av.t = 5 ∨ av = .obj) {xs : List Value} (ty : TypeId) (hrep : av.t = 5 → Rep (Us w0 U0 D) w av.c xs) (htk : av.t = 5 → Tk hv (LiveN s) av xs) :
    SimG w0 U0 nt ((d, .bp nn 0 []) :: (100000 + nn, av) :: s) (a.put (some d) (.pointer (some ⟨w.heap.size, 0, none⟩))) (w.alloc (.cells xs.toArray ty)) D (fun k => if k = 100000 + nn then .pointer (some ⟨w.heap.size, 0, none⟩) else hv k) := by
  have hbn1 := hbn
  unfold BN at hbn1
  have hb' : Below w.heap.size w (w.alloc (.cells xs.toArray ty)) := (Below.refl _ _).alloc (Nat.le_refl _) _
  have hG := h.grow' hb'
  obtain ⟨s', hs'⟩ : ∃ s', s' = (d, AV.bp nn 0 []) :: (100000 + nn, av) :: s := ⟨_, rfl⟩
  obtain ⟨hv', hhv⟩ : ∃ hv' : Nat → Value, hv' = fun k => if k = 100000 + nn then .pointer (some ⟨w.heap.size, 0, none⟩) else hv k := ⟨_, rfl⟩
  rw [← hs', ← hhv]
  have hl : ∀ n e, Live s' n e ↔ Live s n e := fun n e => by rw [hs']; exact live_two2 (by omega) (by unfold BN at hbn; omega)
  have hl2 : LiveN s' = LiveN s := by funext n; simp only [LiveN, hl]
  have hlk : ∀ k, k ≠ d → k ≠ 100000 + nn → look s' k = look s k := fun k h1 h2 => by rw [hs', lN (Ne.symm h1), lN (Ne.symm h2)]
  have hlb : look s' (100000 + nn) = some av := by rw [hs', lN (by omega), lS]
  have hvn : ∀ k, k ≠ 100000 + nn → hv' k = hv k := fun k hk => by rw [hhv]; simp only [if_neg hk]
  have hvd : hv' (100000 + nn) = .pointer (some ⟨w.heap.size, 0, none⟩) := by rw [hhv]; simp
  have hid : ∀ b o v, Us w0 U0 D b o → (w.alloc (.cells xs.toArray ty)).cell? ⟨b, o, none⟩ = some v → Us w0 U0 D b o ∧ (w.alloc (.cells xs.toArray ty)).cell? ⟨b, o, none⟩ = some v := fun _ _ _ h1 h2 => ⟨h1, h2⟩
  have hmv : ∀ {k av' v}, look s k = some av' → AVRep (Us w0 U0 D) (w.alloc (.cells xs.toArray ty)) hv (LiveN s) av' v → AVRep (Us w0 U0 D) (w.alloc (.cells xs.toArray ty)) hv' (LiveN s) av' v := fun {k av' v} h1 h2 =>
    h2.move hid (fun _ h => h) fun h3 => hvn _ (hk_ne_boxN hbn (fun n => liveN_rn) (hr k av' h1).1 h3)
  refine ⟨hG.below, h.dfr, by simp [Act.put, h.size], fun d' av' h1 h2 => ?_, fun n o av' h1 h2 h3 h10 => ?_, fun n o o' av1 av2 h1 h2 h3 h4 => ?_, fun k av' h1 h2 => ?_, fun k av' g h1 h2 h3 h4 => ?_, fun k k' av1 av2 g h1 h2 h3 h4 h6 h7 hne => ?_, fun n g h1 => ?_, hG.dlt⟩
  · rw [hl2]
    by_cases e : d = d'
    · subst e
      rw [hs', lS] at h1
      cases h1
      refine ⟨.pointer (some ⟨w.heap.size, 0, none⟩), by simp [Act.put, h.size, hd], ?_⟩
      unfold AVRep
      simp only [if_true]
      exact ⟨hbn, by rw [hvd]; rfl⟩
    · rw [hlk d' (Ne.symm e) (by omega)] at h1
      obtain ⟨v', h3, h4⟩ := hG.slot d' av' h1 h2
      exact ⟨v', by simp [Act.put, e, h3], hmv h1 h4⟩
  · rw [hlk _ (by unfold fKey; omega) (by unfold fKey; omega)] at h1
    have hn := (hr _ _ h1).2.1
    rw [fnm_key h2] at hn
    rw [hlk _ (by omega) (by omega)] at h3
    rw [hl2]
    obtain ⟨v, h4, h6, h7⟩ := hG.fld n o av' h1 h2 h3 h10
    refine ⟨v, hmv h1 h4, h6, ?_⟩
    rw [hvn _ (by omega)]
    exact h7
  · rw [hlk _ (by unfold fKey; omega) (by unfold fKey; omega)] at h1 h2
    exact h.fdis n o o' av1 av2 h1 h2 h3 h4
  · rw [hl2]
    by_cases e : k = 100000 + nn
    · subst e
      rw [hlb] at h1
      cases h1
      rw [hvd]
      unfold OC
      rcases hav with hav | rfl
      · rw [if_pos hav]
        refine ⟨w.heap.size, xs, ty, rfl, alloc_new _ _, (hrep hav).keep (us_keep h.dlt hb' fun _ _ h => h), fun hl => ?_⟩
        obtain ⟨m, c, g1, g2⟩ := htk hav hl
        refine ⟨m, c, g1, ?_⟩
        rw [g2]
        unfold tokv
        rcases liveN_rn hl with h6 | h6
        · rw [if_pos h6, if_pos h6]
        · unfold RN at h6
          rw [hvn _ (by omega)]
      · simp only [if_true]
        exact ⟨w.heap.size, xs.toArray, ty, rfl, alloc_new _ _⟩
    · have h2' := h2
      unfold oKey at h2'
      rw [hlk k (by omega) e] at h1
      rw [hvn k e]
      refine (hG.obj k av' h1 h2).move hid (fun _ hl => ⟨hl, ?_⟩) (fun _ _ => rfl)
      unfold tokv
      rcases liveN_rn hl with h6 | h6
      · rw [if_pos h6, if_pos h6]
      · unfold RN at h6
        rw [hvn _ (by omega)]
  · by_cases e : k = 100000 + nn
    · subst e
      rw [hvd] at h4
      have h4 : some w.heap.size = some g := h4
      cases h4
      refine ⟨.inl h.below.size, by simp, fun o _ hd => ?_⟩
      have := h.dlt _ _ hd
      omega
    · have h2' := h2
      unfold oKey at h2'
      rw [hlk k (by omega) e] at h1
      rw [hvn k e] at h4 ⊢
      exact hG.blk k av' g h1 h2 h3 h4
  · have h3' := h3
    have h4' := h4
    unfold oKey at h3' h4'
    by_cases e1 : k = 100000 + nn
    · have e2 : k' ≠ 100000 + nn := fun e => hne (e1.trans e.symm)
      rw [hlk k' (by omega) e2] at h2
      rw [e1, hvd, hvn k' e2]
      intro h8 h9
      have := (h.blk k' av2 g h2 h4 h7 h9).2.1
      have h8 : some w.heap.size = some g := h8
      cases h8
      omega
    · rw [hlk k (by omega) e1] at h1
      by_cases e2 : k' = 100000 + nn
      · rw [e2, hvd, hvn k e1]
        intro h8 h9
        have := (h.blk k av1 g h1 h3 h6 h8).2.1
        have h9 : some w.heap.size = some g := h9
        cases h9
        omega
      · rw [hlk k' (by omega) e2] at h2
        rw [hvn k e1, hvn k' e2]
        exact h.disj k k' av1 av2 g h1 h2 h3 h4 h6 h7 hne
  · have := U0.hf n g h1
    rw [hvn _ (fun e => hnf g (by rw [← e]; exact h1))]
    exact h.fix n g h1

theorem a_alloc9N (nn : Nat) (hg : Gd w0 U0 nt ops o gs S) (hd : o.dst = some d) (hn : Nat.blt d nt = true) (h5 : Nat.blt d 100000 = true) {ty : TypeId} {fs : Array Field} {it : TypeInfo} {cs : Array Value} {sz : List Nat} {zs : List CV} (ho : o.op = .alloc ty) (hu : P.underlying ty = some (.struct fs)) (hi : P.info? ty = some it) (hz : it.zero = some (.agg cs)) (hsz : szO P fs.toList 0 = some sz) (h0 : zsO sz cs.toList = some zs) (hp : (sz.all fun z => Nat.blt 0 z) = true) (h100 : Nat.ble cs.size 100 = true) (hbb : (Nat.blt nn 100000 || (Nat.ble 350000 nn && Nat.blt nn 400000)) = true) (hnf : ∀ v, U0.f (100000 + nn) = some v → False) : AOp P w0 U0 nt ops o gs [(nn, [])] S (fldsA nn zs 0 ++ [(d, .bp nn 0 []), (100000 + nn, .obj)]) := by
  intro s hs hN a w ⟨D, hv, h⟩ Q K hK
  rw [if_pos (hg s hs a w D hv h)]
  have hd5 := bL h5
  have hbn : BN nn := by
    rcases Bool.or_eq_true_iff.1 hbb with h1 | h1
    · exact .inl (bL h1)
    · rw [Bool.and_eq_true] at h1; exact .inr ⟨Nat.le_of_ble_eq_true h1.1, bL h1.2⟩
  have hbn1 := hbn
  unfold BN at hbn1
  have he : (execOp a.eval o).run P w = .ok (.value (.pointer (some ⟨w.heap.size, 0, none⟩))) (w.alloc (.cells cs ty)) := by
    simp [execOp, ho, Instr.alloc, zeroValue, typeInfo, hi, hz, run_newVar, Value.cells]
  unfold Oper.wp
  rw [he, Oper.upon_value, hd]
  have hr := (hN (nn, []) (by simp)).nr
  have hG := h.newboxN (d := d) (av := .obj) hbn hnf hr (bL hn) hd5 (.inr rfl) (xs := cs.toList) ty (fun e => by cases e) (fun e => by cases e)
  rw [Array.toArray_toList] at hG
  obtain ⟨segs, e1, e2, e3, e4, e5⟩ := zsO_spec (U := Us w0 U0 D) (w := w.alloc (.cells cs ty)) h0
  suffices hfin : SimG w0 U0 nt (fldsA nn zs 0 ++ ((d, AV.bp nn 0 []) :: (100000 + nn, AV.obj) :: s)) (a.put (some d) (.pointer (some ⟨w.heap.size, 0, none⟩))) (w.alloc (.cells cs ty)) D (fun k => if k = 100000 + nn then .pointer (some ⟨w.heap.size, 0, none⟩) else hv k) by
    exact hK _ _ ⟨D, _, by rw [List.append_assoc]; exact hfin⟩
  refine hG.addFs (n := nn) (g := w.heap.size) hbn (by rw [lN (by omega), lS]) (fun q av h1 h2 => ?_) (by simp only [if_true]; rfl) e4 e5 (fun i hi' => ?_) (fun c hc => ?_) (by rw [e1]; have := Nat.le_of_ble_eq_true h100; simpa using this)
  · rw [lN (by unfold fKey; omega), lN (by unfold fKey; omega)] at h1
    have := (hr _ _ h1).2.1
    rw [fnm_key h2] at this
    exact this rfl
  · rw [e1] at hi' ⊢
    rw [Nat.zero_add]
    have := alloc_new w (.cells cs ty)
    simp only [World.cell?, this]
    simp
  · rw [List.all_eq_true] at hp
    have : c.size ∈ sz := by rw [← e3]; exact List.mem_map.2 ⟨c, hc, rfl⟩
    exact bL (hp _ this)

theorem a_neg (hg : Gd w0 U0 nt ops o gs S) (hd : o.dst = some d) (hn : Nat.blt d nt = true) (h5 : Nat.blt d 100000 = true) {x : Operand} {i : Int} {ty : TypeId} {n q p} (ho : o.op = .unOp .neg ty x) (hx : ev S x = some ⟨0, .sc (.int .i64 i), n, q, p⟩) (hb : -9223372036854775808 < i ∧ i ≤ 9223372036854775808) : AOp P w0 U0 nt ops o (gs ++ rd x) [] S [(d, .val (.i (-i)))] :=
  aop_val hg hd hn h5 (fun k hk => List.mem_append_left _ hk) fun s hs a w D hv hm => by
    have h1 := ev_sc hm (fun k hk => hs k (List.mem_append_right _ hk)) hx
    have hw : IntKind.i64.wrap (-i) = -i := by rw [IntKind.wrap_i64]; omega
    generalize a.eval = ρ at h1 ⊢
    exact ⟨.int .i64 (-i), by simp [execOp, ho, h1, Op.unary, go_sem, hw], avrep_sc rfl⟩

theorem run_eqmap2 {t k e : TypeId} (hu : P.underlying t = some (.map k e)) (g : Nat) (w : World) : (Op.equal t (.map (some g)) (.map none)).run P w = .ok false w := by
  unfold Op.equal
  rw [show Op.maxDepth = 9999 + 1 from rfl, Op.equalIn]
  simp [run_underlying hu]
theorem a_mref_nil (hg : Gd w0 U0 nt ops o gs S) (hd : o.dst = some d) (hn : Nat.blt d nt = true) (h5 : Nat.blt d 100000 = true) {x : Operand} {t1 t2 e k : TypeId} {n : Nat} {l : List CV} (ho : o.op = .binOp .eql t1 x (.const (.map none)) t2) (hu : P.underlying t1 = some (.map k e)) (hx : ev S x = some (.mref n)) (hm' : S n = some (.mp l)) : AOp P w0 U0 nt ops o (gs ++ (rd x ++ [n])) [] S [(d, .val (.b false))] :=
  aop_val hg hd hn h5 (fun k hk => List.mem_append_left _ hk) fun s hs a w D hv hm => by
    obtain ⟨hrn, h1, _⟩ : RN n ∧ a.eval x = hv n ∧ (a.eval x).oneCell' = true := ev_rep hm (fun k hk => hs k (List.mem_append_right _ (List.mem_append_left _ hk))) hx
    have hok : oKey n := by unfold RN at hrn; unfold oKey; omega
    obtain ⟨g, es, clock, g1, g2, g3, g4, g5⟩ : ∃ g es clock, hv n = .map (some g) ∧ w.heap[g]? = some (.map es clock) ∧ Ents (Us w0 U0 D) w l es.toList ∧ (∀ e ∈ es, e.born < clock) ∧ (es.toList.map (fun e : MapEntry => e.born)).Nodup := hm.obj n _ ((hs n (by simp)).trans hm') hok
    rw [g1] at h1
    have hb := run_eqmap2 (P := P) hu g w
    have hc : a.eval (.const (.map none)) = .map none := rfl
    refine ⟨.bool false, ?_, avrep_sc rfl⟩
    generalize a.eval = ρ at h1 hc ⊢
    simp [execOp, ho, h1, hc, eqGuard, binOp, hb]

theorem a_lookup1 (hg : Gd w0 U0 nt ops o gs S) (hd : o.dst = some d) (hn : Nat.blt d nt = true) (h5 : Nat.blt d 100000 = true) {x y : Operand} {t kt et : TypeId} {k k2 : IntKind} {i z2 : Int} {n : Nat} {l : List CV} {n' q' p'} (ho : o.op = .lookup t x y false) (hu : P.underlying t = some (.map kt et)) (huk : P.underlying kt = some (.int k)) (hz2 : (P.info? et).map (·.zero) = some (some (.int k2 z2))) (hzc : zeroT P et = some (.sc (.int k2 z2))) (hx : ev S x = some (.mref n)) (hy : ev S y = some ⟨0, .sc (.int k i), n', q', p'⟩) (hm' : S n = some (.mp l)) (hik : IntKeys k l) : AOp P w0 U0 nt ops o (gs ++ (rd x ++ (rd y ++ [n]))) [] S [(d, .val ((lookR k i l).getD (.sc (.int k2 z2))))] :=
  aop_val hg hd hn h5 (fun k hk => List.mem_append_left _ hk) fun s hs a w D hv hm => by
    obtain ⟨hrn, h1, _⟩ : RN n ∧ a.eval x = hv n ∧ (a.eval x).oneCell' = true := ev_rep hm (fun k hk => hs k (List.mem_append_right _ (List.mem_append_left _ hk))) hx
    have e2 := ev_sc hm (fun k hk => hs k (List.mem_append_right _ (List.mem_append_right _ (List.mem_append_left _ hk)))) hy
    have hok : oKey n := by unfold RN at hrn; unfold oKey; omega
    obtain ⟨g, es, clock, g1, g2, g3, g4, g5⟩ : ∃ g es clock, hv n = .map (some g) ∧ w.heap[g]? = some (.map es clock) ∧ Ents (Us w0 U0 D) w l es.toList ∧ (∀ e ∈ es, e.born < clock) ∧ (es.toList.map (fun e : MapEntry => e.born)).Nodup := hm.obj n _ ((hs n (by simp)).trans hm') hok
    obtain ⟨it, zv, i1, i2, i3⟩ := zeroT_spec hzc
    have hck := run_checkKey (P := P) (w := w) huk (k := .int k i) rfl es.isEmpty 9999
    have hge := Go.MapKept.run_getObj_map (P := P) g2
    rcases find_spec 0 g3 hik (i := i) with ⟨f1, f2⟩ | ⟨j, e, c, f1, f2, f3, f4, f5, f6⟩
    · have hfk := run_findKey (P := P) (w := w) huk f1
      have hzv : (zeroValue et).run P w = .ok zv w := by simp [zeroValue, typeInfo, i1, i2]
      rw [i1, Option.map_some, i2] at hz2
      injection hz2 with hz2
      injection hz2 with hz2
      refine ⟨zv, ?_, ?_⟩
      · rw [g1] at h1
        generalize a.eval = ρ at h1 e2 ⊢
        simp [execOp, ho, Instr.lookup, run_underlying hu, h1, e2, hge, hck, hfk, hzv]
      · rw [f2, hz2]
        exact avrep_sc rfl
    · have hfk := run_findKey (P := P) (w := w) huk f1
      refine ⟨e.val, ?_, ?_⟩
      · rw [g1] at h1
        generalize a.eval = ρ at h1 e2 ⊢
        simp [execOp, ho, Instr.lookup, run_underlying hu, h1, e2, hge, hck, hfk]
      · rw [f6]
        exact avrep_val f4
theorem a_mref_isnil (hg : Gd w0 U0 nt ops o gs S) (hd : o.dst = some d) (hn : Nat.blt d nt = true) (h5 : Nat.blt d 100000 = true) {x : Operand} {t1 t2 e k : TypeId} {n : Nat} {c : CV} {m q p} (ho : o.op = .binOp .eql t1 x (.const (.map none)) t2) (hu : P.underlying t1 = some (.map k e)) (hx : ev S x = some (.mref n)) (hm' : S n = some ⟨17, c, m, q, p⟩) : AOp P w0 U0 nt ops o (gs ++ (rd x ++ [n])) [] S [(d, .val (.b true))] :=
  aop_val hg hd hn h5 (fun k hk => List.mem_append_left _ hk) fun s hs a w D hv hm => by
    obtain ⟨hrn, h1, _⟩ : RN n ∧ a.eval x = hv n ∧ (a.eval x).oneCell' = true := ev_rep hm (fun k hk => hs k (List.mem_append_right _ (List.mem_append_left _ hk))) hx
    have hok : oKey n := by unfold RN at hrn; unfold oKey; omega
    have g1 : hv n = .map none := (show OX _ _ _ _ from hm.obj n _ ((hs n (by simp)).trans hm') hok).1.1 rfl
    rw [g1] at h1
    have hb := run_eqmap (P := P) hu w
    have hc : a.eval (.const (.map none)) = .map none := rfl
    refine ⟨.bool true, ?_, avrep_sc rfl⟩
    generalize a.eval = ρ at h1 hc ⊢
    simp [execOp, ho, h1, hc, eqGuard, binOp, hb]
theorem wk_nmap (k n : Nat) (hk : Nat.ble 500000 k = true) (hn : (Nat.ble 200000 n && Nat.blt n 400000) = true) (hs : look s k = some (.val (.sc (.map none)))) (hr : noRefB s [(n, [])] = true) (hnk : noKey s n = true) : Wk w0 U0 nt s ((k, .mref n) :: (n, .nmap) :: s) := by
  rintro a w ⟨D, hv, h⟩
  have hk5 := Nat.le_of_ble_eq_true hk
  have hrn := rnB hn
  have hrn' : RN n := RW.rn hrn
  unfold RW at hrn
  have hnk' : look s n = none := by
    cases e : look s n with
    | none => rfl
    | some av =>
      unfold noKey at hnk
      rw [List.all_eq_true] at hnk
      have := hnk _ (look_mem e)
      simp [Nat.beq_refl] at this
  have hnr : NoRef s n := (noRefB_spec hr (n, []) (by simp)).nr
  obtain ⟨hv', hhv⟩ : ∃ hv' : Nat → Value, hv' = fun x => if x = n then .map none else hv x := ⟨_, rfl⟩
  have hvn : ∀ x, x ≠ n → hv' x = hv x := fun x hx => by rw [hhv]; simp only [if_neg hx]
  have hvd : hv' n = .map none := by rw [hhv]; simp
  obtain ⟨s', hs'⟩ : ∃ s', s' = (k, AV.mref n) :: (n, AV.nmap) :: s := ⟨_, rfl⟩
  rw [← hs']
  have hlk : ∀ x, x ≠ k → x ≠ n → look s' x = look s x := fun x h1 h2 => by rw [hs', lN (Ne.symm h1), lN (Ne.symm h2)]
  have hlkk : look s' k = some (.mref n) := by rw [hs', lS]
  have hlkn : look s' n = some .nmap := by rw [hs', lN (by omega), lS]
  have hl : ∀ q e, Live s' q e ↔ Live s q e := fun q e => by
    unfold Live
    by_cases e1 : q = k
    · omega
    · by_cases e2 : q = n
      · subst e2
        rw [hlkn, hnk']
        constructor <;> (rintro ⟨h1, _⟩; cases h1)
      · rw [hlk q e1 e2]
  have hl2 : LiveN s' = LiveN s := by funext q; simp only [LiveN, hl]
  have hmv : ∀ {k' av v}, look s k' = some av → AVRep (Us w0 U0 D) w hv (LiveN s) av v → AVRep (Us w0 U0 D) w hv' (LiveN s) av v := fun {k' av v} h1 h2 =>
    h2.move (fun _ _ _ h1 h2 => ⟨h1, h2⟩) (fun _ h => h) fun h3 => hvn _ (hk_ne_row hrn' (hnr k' av h1).1 h3)
  refine ⟨D, hv', h.below, h.dfr, h.size, fun d av g1 g2 => ?_, fun m o av g1 g2 g3 g4 => ?_, fun m o o' av av' g1 g2 g3 g4 g5 => ?_, fun k' av g1 g2 => ?_, fun k' av g g1 g2 g3 g4 => ?_, fun k' k2 av av' g g1 g2 g3 g4 g5 g6 g7 g8 => ?_, fun k' v g1 => ?_, h.dlt⟩
  · rw [hlk d (by omega) (by omega)] at g1
    rw [hl2]
    obtain ⟨v, h1, h2⟩ := h.slot d av g1 g2
    exact ⟨v, h1, hmv g1 h2⟩
  · have hbk := bn_okey g4
    unfold oKey at hbk
    unfold BN at g4
    rw [hlk (100000 + m) (by omega) (by omega)] at g3
    rw [hl2, hvn (100000 + m) (by omega)]
    by_cases e : fKey m o = k
    · rw [e, hlkk] at g1
      cases g1
      obtain ⟨v, h1, h2, h3⟩ := h.fld m o _ (by rw [e]; exact hs) g2 g3 g4
      obtain ⟨h4, _⟩ := vrep_sc.1 h1.1
      subst h4
      exact ⟨.map none, ⟨hrn', hvd.symm, rfl⟩, rfl, h3⟩
    · rw [hlk _ e (by unfold fKey; omega)] at g1
      obtain ⟨v, h1, h2, h3⟩ := h.fld m o av g1 g2 g3 g4
      exact ⟨v, hmv g1 h1, h2, h3⟩
  · have conv : ∀ o (av : AV), look s' (fKey m o) = some av → ∃ av', look s (fKey m o) = some av' ∧ av'.sz = av.sz := fun o av f1 => by
      by_cases e : fKey m o = k
      · rw [e, hlkk] at f1
        cases f1
        exact ⟨.val (.sc (.map none)), by rw [e]; exact hs, rfl⟩
      · rw [hlk _ e (by unfold fKey; omega)] at f1
        exact ⟨av, f1, rfl⟩
    obtain ⟨a1, b1, c1⟩ := conv o av g1
    obtain ⟨a2, b2, c2⟩ := conv o' av' g2
    rw [← c1]
    exact h.fdis m o o' a1 a2 b1 b2 g3 g4 g5
  · unfold oKey at g2
    rw [hl2]
    by_cases e : k' = n
    · subst e
      rw [hlkn] at g1
      cases g1
      rw [hvd]
      exact ⟨⟨fun _ => rfl, (fun e => by cases e)⟩, (fun e => by cases e), (fun e => by cases e), (fun e => by cases e)⟩
    · rw [hlk k' (by omega) e] at g1
      rw [hvn k' e]
      exact (h.obj k' av g1 g2).move (fun _ _ _ h1 h2 => ⟨h1, h2⟩) (fun ht hl => ⟨hl, by
        unfold tokv
        rw [hvn _ (hnr k' av g1).1]⟩) (fun _ _ => rfl)
  · unfold oKey at g2
    by_cases e : k' = n
    · subst e
      rw [hvd] at g4
      cases g4
    · rw [hlk k' (by omega) e] at g1
      rw [hvn k' e] at g4 ⊢
      exact h.blk k' av g g1 g2 g3 g4
  · unfold oKey at g3 g4
    by_cases e : k' = n
    · subst e
      rw [hvd] at g8
      cases g8
    · by_cases e2 : k2 = n
      · subst e2
        rw [hvd]
        intro h9; cases h9
      · rw [hlk k' (by omega) e] at g1
        rw [hlk k2 (by omega) e2] at g2
        rw [hvn k' e] at g8
        rw [hvn k2 e2]
        exact h.disj k' k2 av av' g g1 g2 g3 g4 g5 g6 g7 g8
  · have := U0.hf k' v g1
    rw [hvn k' (by omega)]
    exact h.fix k' v g1
end
def collPostL (L D : Nat) (Kp : World → World → Prop) (I : World → Prop) (W : World) : Exit → Act → World → Prop
  | .normal, _, W' => W'.heap[L]? = W.heap[L]? ∧ W'.heap[D]? = W.heap[D]? ∧ Kp W W' ∧ I W'
  | _, _, _ => False

section
variable {α : Type} {P : Program}

theorem wp_rangeL {g : Operand} {ps : Array Tmp} {assign body : Code} {Q : Exit → Act → World → Prop} {a : Act} {w : World} {gf : Nat} {lb : Array Value}
    (hg : a.eval g = .func (.func gf) #[] lb) (eg : ∀ args w, (callFunc gf args).run P w = .ok (.enter gf args) w)
    {encs : α → Array Value} {Ok : List α → α → Prop} {Kp : World → World → Prop} {S : List α → Prop} (hseq : Gives P gf lb encs (fun pre x _ => Ok pre x) Kp S w)
    (hKt : ∀ {A B C : World}, Kp A B → Kp B C → Kp A C)
    (hKb : ∀ (W : World) (l : Nat) (o' : Obj), w.heap.size ≤ l → Kp W (W.putObj l o'))
    (hps : ∀ x, (encs x).size = ps.size) (I : List α → World → Prop) (hI : ∀ pre A B, I pre A → Below A.heap.size A B → I pre B)
    (hIp : ∀ (pre : List α) (A : World) (r r' : Loop), I pre A → A.heap[w.heap.size + 1]? = some (.loop r) → I pre (A.putObj (w.heap.size + 1) (.loop r')))
    (h0 : ∀ r : Loop, I [] ((w.alloc (.deferred (some []))).alloc (.loop r))) (a₁ : α → Act)
    (hassign : ∀ (x : α) (W : World) (K : Act → World → Prop), K (a₁ x) W →
      assign.wpIn (Fence.wide.inRound (w.heap.size + 1)) 1 P (Exit.then K (fun _ _ _ => False)) { tmps := (ps.zip (encs x)).foldl (fun t (p, v) => t.setIfInBounds p v) a.tmps, defers := [] } W)
    (hbody : ∀ (pre : List α) (x : α) (W : World), I pre W → Ok pre x → w.heap.size + 2 ≤ W.heap.size → body.wpIn (Fence.wide.inRound (w.heap.size + 1)) 1 P (collPostL (w.heap.size + 1) w.heap.size Kp (I (pre ++ [x])) W) (a₁ x) W)
    (hdone : ∀ (xs : List α) (W : World), S xs → I xs W → W.heap[w.heap.size]? = some (.deferred (some [])) → Q .normal { a with defers := { target := .collected w.heap.size, args := #[] } :: a.defers } W) :
    (Code.rangeFunc g ps assign body).wpIn Fence.wide 3 P Q a w := by
  refine wpIn_rangeFunc fun fn hfn => ?_
  obtain ⟨D, hD⟩ : ∃ D, D = w.heap.size := ⟨_, rfl⟩
  rw [← hD] at hIp hassign hbody hdone hKb
  obtain ⟨W1, hW1⟩ : ∃ W1, W1 = (w.alloc (.deferred (some []))).alloc (.loop (recOf fn a.tmps ps assign body D .ready)) := ⟨_, rfl⟩
  have below1 : Below w.heap.size w W1 := by rw [hW1]; exact ((Below.refl _ w).alloc (Nat.le_refl _) _).alloc (by simp) _
  have atL : W1.heap[D + 1]? = some (.loop (recOf fn a.tmps ps assign body D .ready)) := by
    have := World.alloc_heap_new (w.alloc (.deferred (some []))) (.loop (recOf fn a.tmps ps assign body D .ready))
    rw [World.size_alloc, ← hD, ← hW1] at this
    exact this
  have atD : W1.heap[D]? = some (.deferred (some [])) := by
    have h := World.alloc_heap_new w (.deferred (some []))
    rw [← hD] at h
    rw [hW1, Below.heap_alloc _ _ _ (by simp; omega)]
    exact h
  refine ⟨D + 1, [{ target := .collected D, args := #[] }], W1, { target := .fn (.func gf) lb, args := #[.func (.yield (D + 1)) #[] #[]] }, W1, gf, #[.func (.yield (D + 1)) #[] #[]] ++ lb, W1, ?_, ?_, fun _ _ => trivial, ?_, (fun _ => by omega), ?_⟩
  · rw [hW1, hD]; exact run_enterLoop_outer _ _ _ _ _
  · simp only [resolve, hg]
    simp [go_sem]
  · simp [invoke, go_sem, eg]
  refine (hseq (D + 1) (fun pre V => I pre V ∧ V.heap[D + 1]? = some (.loop (recOf fn a.tmps ps assign body D .ready)) ∧ V.heap[D]? = some (.deferred (some []))) W1 below1 ?abides ?rounds ⟨by rw [hW1]; exact h0 _, atL, atD⟩).mono ?after
  case abides =>
    rintro pre A B ⟨h1, h2, h3⟩ hb
    exact ⟨hI _ _ _ h1 hb, (hb.block _ (Array.getElem?_eq_some_iff.1 h2).1).trans h2, (hb.block _ (Array.getElem?_eq_some_iff.1 h3).1).trans h3⟩
  case rounds =>
    rintro pre x V ⟨h1, h2, h3⟩ hx
    have hlt := (Array.getElem?_eq_some_iff.1 h2).1
    have hy := run_yield (P := P) (args := encs x) h2 (hps x)
    refine ⟨fn, _, assign, body, hy, roundIn_of_wpIn hfn (hassign x V _ ⟨_, run_beginRound h2 rfl, ?_⟩)⟩
    have b2 : (V.putObj (D + 1) (.loop (recOf fn a.tmps ps assign body D .busy))).heap[D + 1]? = some (.loop (recOf fn a.tmps ps assign body D .busy)) := World.putObj_heap_same hlt
    have b3 : (V.putObj (D + 1) (.loop (recOf fn a.tmps ps assign body D .busy))).heap[D]? = some (.deferred (some [])) := (World.putObj_heap_other (by omega)).trans h3
    refine wpIn_mono (hbody pre x (V.putObj (D + 1) (.loop (recOf fn a.tmps ps assign body D .busy))) (hIp _ _ _ _ h1 h2) hx (by rw [World.putObj_size]; omega)) ?_
    rintro e a3 U hp
    cases e with
    | normal =>
      obtain ⟨k0, k1, k2, k3⟩ := hp
      have u2 := k0.trans b2
      have u3 := k1.trans b3
      have hr := run_endRound (P := P) none u2
      refine ⟨_, _, hr, rfl, ⟨hIp _ _ _ _ k3 u2, World.putObj_heap_same (Array.getElem?_eq_some_iff.1 u2).1, (World.putObj_heap_other (by omega)).trans u3⟩, ?_⟩
      exact hKt (hKt (hKb _ _ _ (by omega)) k2) (hKb _ _ _ (by omega))
    | ret => exact hp.elim
    | exit _ => exact hp.elim
    | goto _ => exact hp.elim
    | panic _ => exact hp.elim
    | outgrown => exact hp.elim
  case after =>
    rintro e V ⟨⟨v, rfl⟩, xs, hS, h1, h2, h3⟩
    exact ⟨none, _, run_endLoop (P := P) h2 (by simp [recOf]), hdone xs _ hS (hIp _ _ _ _ h1 h2) ((World.putObj_heap_other (by omega)).trans h3)⟩
end

section
variable {P : Program} {w0 : World} {U0 : UX} {nt : Nat} {ops : Array Oper} {o : Oper} {S : Nat → Option AV} {gs : List Nat} {d : Nat} {s : AS} {a : Act} {w : World} {D : Nat → Nat → Prop} {hv : Nat → Value}

abbrev AV.ob (g o : Nat) : AV := ⟨20, .sc (.pointer (some ⟨g, 0, none⟩)), 0, o, []⟩
theorem SimG.newob (h : SimG w0 U0 nt s a w D hv) {n o : Nat} (hn : RW n) (hr : NoRef s n) {x : Obj} (hx : ∀ xs ty fl, x ≠ .cells xs ty fl) (ho : o = 0 → x = .deferred (some [])) : SimG w0 U0 nt ((n, .ob w.heap.size o) :: s) a (w.alloc x) D (fun k => if k = n then .pointer (some ⟨w.heap.size, 0, none⟩) else hv k) := by
  have hb' : Below w.heap.size w (w.alloc x) := (Below.refl _ _).alloc (Nat.le_refl _) _
  exact h.newrow (X := fun _ => False) (avn := .ob w.heap.size o) (v' := .pointer (some ⟨w.heap.size, 0, none⟩)) (D' := D) hn hr (fun e => by cases e) ((BelowX.refl _ w).step hb') (fun b hb => hb.elim) (fun g hg => by
      have hg : some w.heap.size = some g := hg
      cases hg
      refine ⟨.inr (Nat.le_refl _), by simp, fun o _ hd => ?_⟩
      have := h.dlt _ _ hd
      omega) (fun b o hd => .inl hd) (fun b o hd => Nat.lt_of_lt_of_le (h.dlt _ _ hd) hb'.size) (us_keep h.dlt hb' fun _ _ h => h) (fun hv lv => ⟨⟨(fun e => by cases e), (fun e => by cases e)⟩, fun _ => ⟨rfl, w.heap.size, x, rfl, alloc_new _ _, hx, ho⟩, (fun e => by cases e), (fun e => by cases e)⟩)
theorem SimG.putob (h : SimG w0 U0 nt s a w D hv) {n o o' : Nat} (hn : RW n) {g : Nat} (hs : look s n = some (.ob g o)) {x : Obj} (hx : ∀ xs ty fl, x ≠ .cells xs ty fl) (ho : o' = 0 → x = .deferred (some [])) : SimG w0 U0 nt ((n, .ob g o') :: s) a (w.putObj g x) D hv ∧ g < w.heap.size ∧ hv n = .pointer (some ⟨g, 0, none⟩) ∧ ∃ y, w.heap[g]? = some y ∧ (o = 0 → y = .deferred (some [])) := by
  have hok : oKey n := by unfold RW at hn; unfold oKey; omega
  have hO : OX _ _ _ _ := h.obj n _ hs hok
  obtain ⟨e1, g', y, e2, e3, e4, e5⟩ := hO.2.1 rfl
  have e1 : hv n = .pointer (some ⟨g, 0, none⟩) := e1
  have hg : g' = g := by rw [e1] at e2; injection e2 with e2; injection e2 with e2; injection e2 with e2; exact e2.symm
  subst hg
  have hlt : g' < w.heap.size := (Array.getElem?_eq_some_iff.1 e3).1
  refine ⟨h.upd (av := .ob g' o') (w' := w.putObj g' x) hok hs (fun e => by cases e) (fun e => by cases e) rfl (fun g hh o ho => hh o fun e => by cases e) (fun e => by cases e) (g := g') (by rw [e1]; rfl) rfl rfl rfl (by simp) (fun k hk => World.putObj_heap_other hk) fun hc => ⟨⟨(fun e => by cases e), (fun e => by cases e)⟩, fun _ => ⟨e1, g', x, e1, World.putObj_heap_same hlt, hx, ho⟩, (fun e => by cases e), (fun e => by cases e)⟩, hlt, e1, y, e3, e5⟩
theorem SimG.frame {V : UX} {pre sl : AS} (h : SimG w V 0 pre ⟨#[], []⟩ w (fun _ _ => False) hv) (hpre : (kO pre).all (Nat.ble 100000) = true) (hsl : (kO sl).all (fun k => Nat.blt k 100000) = true) {tmps : Array Value} (hsz : tmps.size = nt)
    (hsv : ∀ d av, look sl d = some av → ∃ v, tmps[d]? = some v ∧ AVRep (Us w V (fun _ _ => False)) w hv (LiveN pre) av v) : SimG w V nt (sl ++ pre) ⟨tmps, []⟩ w (fun _ _ => False) hv := by
  have hlow : ∀ {k av}, look pre k = some av → 100000 ≤ k := fun {k av} h1 => by
    rw [List.all_eq_true] at hpre
    exact Nat.le_of_ble_eq_true (hpre k (mem_keys h1))
  have hup : ∀ {k av}, look sl k = some av → k < 100000 := fun {k av} h1 => by
    rw [List.all_eq_true] at hsl
    exact bL (hsl k (mem_keys h1))
  have hlk : ∀ {k}, 100000 ≤ k → look (sl ++ pre) k = look pre k := fun {k} h1 => by
    rw [look_append]
    cases h2 : look sl k with
    | none => rfl
    | some av => have := hup h2; omega
  have hlive : LiveN (sl ++ pre) = LiveN pre := by
    funext n
    unfold LiveN Live
    apply propext
    constructor
    · rintro (h1 | ⟨e, h1, h2, h3⟩)
      · exact .inl h1
      · rw [hlk (by omega)] at h1; exact .inr ⟨e, h1, h2, h3⟩
    · rintro (h1 | ⟨e, h1, h2, h3⟩)
      · exact .inl h1
      · exact .inr ⟨e, by rw [hlk (by omega)]; exact h1, h2, h3⟩
  refine ⟨h.below, rfl, hsz, fun d av h1 h2 => ?_, fun n o av h1 h2 h3 h4 => ?_, fun n o o' av av' h1 h2 => ?_, fun k av h1 h2 => ?_, fun k av g h1 h2 => ?_, fun k k' av av' g h1 h2 h3 h4 => ?_, h.fix, fun b o hd => hd.elim⟩
  · rw [look_append] at h1
    cases h3 : look sl d with
    | none => rw [h3] at h1; have := hlow h1; omega
    | some av' =>
      rw [h3] at h1
      cases h1
      rw [hlive]
      exact hsv d av h3
  · rw [hlk (by unfold fKey; omega)] at h1
    rw [hlk (by omega)] at h3
    rw [hlive]
    exact h.fld n o av h1 h2 h3 h4
  · rw [hlk (by unfold fKey; omega)] at h1 h2
    exact h.fdis n o o' av av' h1 h2
  · rw [hlk h2.1] at h1; rw [hlive]; exact h.obj k av h1 h2
  · rw [hlk h2.1] at h1; exact h.blk k av g h1 h2
  · rw [hlk h3.1] at h1; rw [hlk h4.1] at h2; exact h.disj k k' av av' g h1 h2 h3 h4
theorem SimG.bare (h : SimG w0 U0 nt s a w D hv) {post : AS} (hp : Sub s post) (hpost : (kO post).all (Nat.ble 100000) = true) : SimG w0 U0 0 post ⟨#[], []⟩ w D hv := by
  have hS := h.sub hp
  have hlow2 : ∀ {k av}, look post k = some av → 100000 ≤ k := fun {k av} h1 => by
    rw [List.all_eq_true] at hpost
    exact Nat.le_of_ble_eq_true (hpost k (mem_keys h1))
  exact ⟨hS.below, rfl, rfl, fun d av h7 h8 => by have := hlow2 h7; omega, hS.fld, hS.fdis, hS.obj, hS.blk, hS.disj, hS.fix, hS.dlt⟩
end
def KpX (n0 : Nat) (X : Nat → Prop) (V V' : World) : Prop := ∀ b, b < n0 → ¬ X b → V'.heap[b]? = V.heap[b]?
def Hands {α : Type} (P : Program) (gf : Nat) (caps : List CV) (encC : α → List CV) (xs : List α) : Prop :=
  ∀ (w : World) (lb : List Value) (R : Nat → Nat → Prop), VReps R w caps lb → Gives P gf lb.toArray (fun x => ((encC x).map CV.v).toArray) (fun pre x _ => xs[pre.length]? = some x) (KpX w.heap.size fun b => ¬ ∃ o, R b o) (fun ys => ys = xs) w

def asgL : List Oper → Option (List (Nat × Nat))
  | [] => some []
  | o :: os => match o.dst, o.op, o.guard, asgL os with
    | some d, .assign (.tmp t), none, some r => some ((d, t) :: r)
    | _, _, _, _ => none
def asgT : List (Nat × Nat) → Array Value → Array Value
  | [], tm => tm
  | (d, t) :: r, tm => asgT r (tm.setIfInBounds d (tm.getD t undef))
def asgS : List (Nat × Nat) → AS → AS
  | [], s => s
  | (d, t) :: r, s => asgS r ((d, match look s t with | some av => av | none => .no) :: s)
def parT : List Tmp → List Value → Array Value → Array Value
  | p :: ps, v :: vs, tm => parT ps vs (tm.setIfInBounds p v)
  | _, _, tm => tm
def parS : List Tmp → List CV → AS → AS
  | p :: ps, c :: cs, s => parS ps cs ((p, .val c) :: s)
  | _, _, s => s
def SlOk (R : AV → Value → Prop) (s : AS) (tm : Array Value) : Prop := ∀ d av, look s d = some av → ∃ v, tm[d]? = some v ∧ R av v
theorem SlOk.set {R : AV → Value → Prop} {s : AS} {tm : Array Value} (h : SlOk R s tm) {d : Nat} (hd : d < tm.size) {av : AV} {v : Value} (hv : R av v) : SlOk R ((d, av) :: s) (tm.setIfInBounds d v) := by
  intro d' av' h1
  rw [look_cons] at h1
  split at h1
  · rename_i e; subst e; cases h1; exact ⟨v, by simp [hd], hv⟩
  · rename_i e
    obtain ⟨u, h2, h3⟩ := h d' av' h1
    exact ⟨u, by rw [Array.getElem?_setIfInBounds_ne (by omega)]; exact h2, h3⟩
theorem SlOk.asg {R : AV → Value → Prop} (hno : ∀ v, R .no v) : ∀ {al : List (Nat × Nat)} {s : AS} {tm : Array Value}, SlOk R s tm → (al.all fun p => Nat.blt p.1 tm.size) = true → SlOk R (asgS al s) (asgT al tm) ∧ (asgT al tm).size = tm.size
  | [], s, tm, h, _ => ⟨h, rfl⟩
  | (d, t) :: r, s, tm, h, hl => by
    rw [List.all_cons, Bool.and_eq_true] at hl
    have hd := bL hl.1
    have := SlOk.asg hno (al := r) (s := (d, match look s t with | some av => av | none => .no) :: s) (tm := tm.setIfInBounds d (tm.getD t undef)) (h.set hd ?_) (by rw [Array.size_setIfInBounds]; exact hl.2)
    · exact ⟨this.1, by rw [asgT, this.2, Array.size_setIfInBounds]⟩
    · cases e : look s t with
      | none => exact hno _
      | some av =>
        obtain ⟨v, h1, h2⟩ := h t av e
        show R av _
        simp only [Array.getD_eq_getD_getElem?, h1, Option.getD_some]
        exact h2
theorem SlOk.par {R : AV → Value → Prop} : ∀ {ps : List Tmp} {cs : List CV} {s : AS} {tm : Array Value}, SlOk R s tm → (ps.all fun p => Nat.blt p tm.size) = true → (∀ c ∈ cs, R (.val c) c.v) → SlOk R (parS ps cs s) (parT ps (cs.map CV.v) tm) ∧ (parT ps (cs.map CV.v) tm).size = tm.size
  | [], cs, s, tm, h, _, _ => ⟨by cases cs <;> exact h, by cases cs <;> rfl⟩
  | p :: ps, [], s, tm, h, _, _ => ⟨h, rfl⟩
  | p :: ps, c :: cs, s, tm, h, hl, hc => by
    rw [List.all_cons, Bool.and_eq_true] at hl
    have := SlOk.par (ps := ps) (cs := cs) (s := (p, .val c) :: s) (tm := tm.setIfInBounds p c.v) (h.set (bL hl.1) (hc c (by simp))) (by rw [Array.size_setIfInBounds]; exact hl.2) (fun c' hc' => hc c' (List.mem_cons_of_mem _ hc'))
    exact ⟨this.1, by show (parT ps (cs.map CV.v) (tm.setIfInBounds p c.v)).size = _; rw [this.2, Array.size_setIfInBounds]⟩
theorem zip_par : ∀ (ps : List Tmp) (vs : List Value) (tm : Array Value), (ps.toArray.zip vs.toArray).foldl (fun t (p, v) => t.setIfInBounds p v) tm = parT ps vs tm := by
  intro ps vs tm
  rw [List.zip_toArray, List.foldl_toArray]
  induction ps generalizing vs tm with
  | nil => cases vs <;> rfl
  | cons p ps ih =>
    cases vs with
    | nil => rfl
    | cons v vs => rw [List.zip_cons_cons, List.foldl_cons]; exact ih vs _
theorem asg_run {P : Program} {ro : Option Nat} {ops : Array Oper} {Q : Exit → Act → World → Prop} : ∀ {l : List Oper} {al : List (Nat × Nat)} {tm : Array Value} {ds : List Deferred} {w : World}, asgL l = some al → Q .normal ⟨asgT al tm, ds⟩ w → wpListIn (wideR ro) 1 P ops Q l ⟨tm, ds⟩ w
  | [], al, tm, ds, w, h, hq => by cases h; exact hq
  | o :: os, al, tm, ds, w, h, hq => by
    rw [asgL] at h
    split at h
    · rename_i d t r h1 h2 h3 h4
      cases h
      unfold wpListIn
      rw [if_pos (by simp [Region.wanted, h3])]
      refine ⟨fun _ _ => trivial, ?_⟩
      have hs : (o.semAt (wideR ro).round (Act.eval ⟨tm, ds⟩)) = pure (.value (tm.getD t undef)) := by
        rw [Oper.semAt_eq _ _ _ (fun c hc => by rw [h2] at hc; cases hc)]
        simp only [execOp, h2]
        rfl
      rw [hs]
      show wpListIn _ _ _ _ _ _ _ _
      rw [h1]
      exact asg_run h4 hq
    · cases h

section
variable {P : Program} {w0 : World} {U0 : UX} {nt : Nat} {s : AS}

theorem wpIn_n {n m : Nat} {c : Code} {Q : Exit → Act → World → Prop} {a : Act} {w : World} (h : c.wpIn Fence.wide n P Q a w) : c.wpIn Fence.wide m P Q a w :=
  fun b k cs h1 h2 _ => h b k cs h1 h2 (room_wide _)
def AWpM (P : Program) (w0 : World) (U0 : UX) (nt : Nat) (c : Code) (Q : Exit → AS → Nat → Prop) (s : AS) : Prop :=
  ∀ a w, Sim w0 U0 nt s a w → c.wpIn Fence.wide 1 P (fun e a' w' => ∃ s' a'' g, Q e s' g ∧ Sim w0 U0 nt s' a'' w' ∧ a' = wdA a'' [⟨.collected g, #[]⟩] ∧ look s' 299999 = some (.ob g 0)) a w
theorem awpM_pre {x y : Code} {Q : Exit → AS → Nat → Prop} (h : AWp P w0 U0 nt x (fun e s' => e = .normal ∧ AWpM P w0 U0 nt y Q s') s) : AWpM P w0 U0 nt (.seq x y) Q s := fun a w hs => by
  have := h ⟨none, []⟩ a w hs
  unfold WP at this
  rw [wd_none hs.df] at this
  refine wpIn_seq (wpIn_mono this ?_)
  rintro e a' w' ⟨a'', rfl, s', ⟨rfl, h2⟩, h3⟩
  show Code.wpIn _ _ _ _ _ _ _
  rw [wd_none h3.df]
  exact h2 a'' w' h3
theorem awpM_post {x y : Code} {Q : Exit → AS → Nat → Prop} (h : AWpM P w0 U0 nt x (fun e s' g => e = .normal ∧ AWp P w0 U0 nt y (fun e s2 => Q e s2 g ∧ look s2 299999 = some (.ob g 0)) s') s) : AWpM P w0 U0 nt (.seq x y) Q s := fun a w hs => by
  refine wpIn_seq (wpIn_mono (h a w hs) ?_)
  rintro e a' w' ⟨s', a'', g, ⟨rfl, h2⟩, h3, rfl, h4⟩
  show Code.wpIn _ _ _ _ _ _ _
  refine wpIn_mono (h2 ⟨none, [⟨.collected g, #[]⟩]⟩ a'' w' h3) ?_
  rintro e b w2 ⟨b', rfl, s2, ⟨h5, h6⟩, h7⟩
  exact ⟨s2, b', g, h5, h7, rfl, h6⟩
theorem awpM_block {id : Nat} {c : Code} {Q : Exit → AS → Nat → Prop} (h : AWpM P w0 U0 nt c (fun e s' g => e = .normal ∧ Q .normal s' g) s) : AWpM P w0 U0 nt (.block id c) Q s := fun a w hs => by
  refine wpIn_block (wpIn_mono (h a w hs) ?_)
  rintro e a' w' ⟨s', a'', g, ⟨rfl, h2⟩, h3⟩
  exact ⟨s', a'', g, h2, h3⟩

theorem awpM_range {α : Type} {g : Operand} {ps : List Tmp} {rid : Nat} {l : List Oper} {body : Code} {gf : Nat} {caps : List CV} {encC : α → List CV} {xs : List α} {al : List (Nat × Nat)} {n1 q1 p1} (ob : Nat → AS) (sl : AS)
    (hgv : ev (look s) g = some ⟨0, .fn gf 0 caps, n1, q1, p1⟩) (hent : EntF P gf) (hG : Hands P gf caps encC xs)
    (hasg : asgL l = some al) (hal : (al.all fun p => Nat.blt p.1 nt && Nat.blt p.1 100000) = true) (hps : (ps.all fun p => Nat.blt p nt && Nat.blt p 100000) = true) (hsc : ∀ x ∈ xs, ∀ c ∈ encC x, ∃ v, c = .sc v ∧ v.oneCell' = true) (hlen : ∀ x, (encC x).length = ps.length)
    (hsl : SubL s sl) (hslk : (kO sl).all (fun k => Nat.blt k 100000) = true) (hob0 : SubL s (ob 0))
    (hlend : ∀ k, (ob k).all lendB = true) (hleave : ∀ k, (ob k).all (leaveB (kO (ob k))) = true) (hkeys : ∀ k, kO (ob k) = kO (ob 0))
    (hko : ((kO (ob 0)).all fun k => Nat.ble 300000 k) = true) (hnr : noRefB s ((299999, []) :: (299998, []) :: newN (kO (ob 0)) (kO (ob 0)) (kO (ob 0))) = true)
    (hnm : ((newN (kO (ob 0)) (kO (ob 0)) (kO (ob 0))).all fun q => !Nat.beq q.1 0 && (!Nat.beq q.1 100000 && !Nat.beq q.1 1100000)) = true)
    (hround : ∀ k x, xs[k]? = some x → ∀ (w : World) (U : UX), (∀ k' v, U.f k' = some v → hasN (kO (ob k)) k' = true) → AWp P w U nt body (fun e s' => e = .normal ∧ Wk w U nt s' (ob (k + 1))) (asgS al (parS ps (encC x) sl) ++ ob k)) :
    AWpM P w0 U0 nt (.rangeFunc g ps.toArray (.region rid l.toArray false) body) (fun e s' m => e = .normal ∧ s' = ob xs.length ++ ((299998, .ob (m + 1) 1) :: (299999, .ob m 0) :: s)) s := by
  rintro a w ⟨D0, hv0, h⟩
  obtain ⟨ys, lb, e1, e2, e3, e4⟩ := vrep_fn.1 (ev_val h (fun k _ => rfl) hgv)
  have hys : ys = [] := List.eq_nil_of_length_eq_zero e2
  subst hys
  have hcaps : VReps (Us w0 U0 D0) w caps lb := sq_vreps e4 (by simpa using e3)
  obtain ⟨lp, hlp⟩ : ∃ lp : AS, lp = (299998, AV.ob (w.heap.size + 1) 1) :: (299999, AV.ob w.heap.size 0) :: s := ⟨_, rfl⟩
  have hnE := noRefB_spec hnr
  have hlk3 : ∀ {k av k'}, look (ob k) k' = some av → 300000 ≤ k' := fun {k av k'} h1 => by
    rw [List.all_eq_true] at hko
    refine Nat.le_of_ble_eq_true (hko k' ?_)
    rw [← hkeys k]
    exact mem_keys h1
  have hL : look lp 299998 = some (.ob (w.heap.size + 1) 1) := by rw [hlp, lS]
  have hDf : look lp 299999 = some (.ob w.heap.size 0) := by rw [hlp, lN (by omega), lS]
  have hap : ∀ {k k' : Nat}, k' < 300000 → look (ob k ++ lp) k' = look lp k' := fun {k k'} h1 => by
    rw [look_append]
    cases e : look (ob k) k' with
    | none => rfl
    | some av => have := hlk3 e; omega
  have hsubo : ∀ k, Sub (ob k ++ lp) (ob k) := fun k k' av h1 => by rw [look_append, h1]; rfl
  -- what holds between rounds
  let I : List α → World → Prop := fun pre V => ∃ D hv, (∀ b o, D0 b o → D b o) ∧ SimG w0 U0 nt (ob pre.length ++ lp) a V D hv
  have hIp : ∀ (pre : List α) (A : World) (r r' : Loop), I pre A → A.heap[w.heap.size + 1]? = some (.loop r) → I pre (A.putObj (w.heap.size + 1) (.loop r')) := by
    rintro pre A r r' ⟨D, hv, hd, hS⟩ hr
    obtain ⟨h1, _⟩ := hS.putob (n := 299998) (o := 1) (o' := 1) (by unfold RW; omega) (by rw [hap (by omega)]; exact hL) (x := .loop r') (fun _ _ _ e => by cases e) (fun e => by cases e)
    refine ⟨D, hv, hd, h1.congr fun k => ?_⟩
    rw [look_cons]
    split
    · rename_i e; subst e; rw [hap (by omega)]; exact hL
    · rfl
  have hk1 : ∀ {k}, k < 300000 → look (ob 0) k = none := fun {k} hk => by
    cases e : look (ob 0) k with
    | none => rfl
    | some av => have := hlk3 e; omega
  have h0 : ∀ r : Loop, I [] ((w.alloc (.deferred (some []))).alloc (.loop r)) := fun r => by
    have h1 := h.newob (n := 299999) (o := 0) (by unfold RW; omega) (hnE (299999, []) (by simp)).nr (x := .deferred (some [])) (fun _ _ _ e => by cases e) (fun _ => rfl)
    have hnr2 : NoRef ((299999, AV.ob w.heap.size 0) :: s) 299998 := fun k av hk => by
      rw [look_cons] at hk
      split at hk
      · rename_i e; subst e; cases hk; exact ⟨by show (0 : Nat) ≠ 299998; decide, by decide, by decide⟩
      · exact (hnE (299998, []) (by simp)).nr k av hk
    have h2 := h1.newob (n := 299998) (o := 1) (by unfold RW; omega) hnr2 (x := .loop r) (fun _ _ _ e => by cases e) (fun e => by cases e)
    rw [show (w.alloc (.deferred (some []))).heap.size = w.heap.size + 1 by simp, ← hlp] at h2
    refine ⟨D0, _, fun _ _ h => h, h2.congr fun k => ?_⟩
    show look (ob 0 ++ lp) k = _
    rw [look_append]
    cases e : look (ob 0) k with
    | none => rfl
    | some av =>
      have h3 := hlk3 e
      have h4 := hob0.sub k av e
      show some av = _
      rw [hlp, lN (by omega), lN (by omega), h4]
  have hwl : (w.heap.size + 1) = (w.heap.size + 1) := rfl
  refine wpIn_n (wp_rangeL (gf := gf) (lb := lb.toArray) (by rw [e1]) hent (Ok := fun pre x => xs[pre.length]? = some x) (hG w lb (Us w0 U0 D0) hcaps) (fun {A B C} h1 h2 b hb hx => (h2 b hb hx).trans (h1 b hb hx)) (fun W l o' hl b hb hx => World.putObj_heap_other (by omega)) (fun x => by simp [hlen]) I (fun pre A B ⟨D, hv, hd, hS⟩ hb => ⟨D, hv, hd, hS.grow' hb⟩) hIp h0
    (fun x => ⟨asgT al (parT ps ((encC x).map CV.v) a.tmps), []⟩) (fun x W K hK => ?_) (fun pre x W hI hx hsz => ?_) (fun ys W hys hI hD => ?_))
  · rw [zip_par]
    exact wpIn_region_lit (asg_run (ro := some (w.heap.size + 1)) hasg hK)
  · obtain ⟨D, hv, hd, hS⟩ := hI
    obtain ⟨k, hk⟩ : ∃ k, k = pre.length := ⟨_, rfl⟩
    rw [← hk] at hx hS
    obtain ⟨V, v1, v2, v3, v4, v5, v6⟩ := hS.lend (hsubo k) (hlend k)
    have hbig : ((kO (ob k)).all (Nat.ble 100000)) = true := by
      rw [hkeys k, List.all_eq_true]
      intro q hq
      have := Nat.le_of_ble_eq_true (List.all_eq_true.1 hko q hq)
      exact Nat.ble_eq_true_of_le (by omega)
    have hslv : SlOk (fun av v => AVRep (Us W V (fun _ _ => False)) W hv (LiveN (ob k)) av v) sl a.tmps := fun d av h1 => by
      have hd5 : d < 100000 := by
        rw [List.all_eq_true] at hslk
        exact bL (hslk d (mem_keys h1))
      have h2 : look (ob k ++ lp) d = some av := by
        rw [hap (by omega), hlp, lN (by omega), lN (by omega)]
        exact hsl.sub d av h1
      obtain ⟨v, h3, h4⟩ := hS.slot d av h2 hd5
      exact ⟨v, h3, h4.move v6 (fun _ h5 => h5.imp id fun ⟨e, he⟩ => ⟨e, hsubo k _ _ he.1, he.2⟩) fun _ => rfl⟩
    have hpar := hslv.par (ps := ps) (cs := encC x) (by
      rw [List.all_eq_true] at hps ⊢
      intro p hp
      have := hps p hp
      rw [Bool.and_eq_true] at this
      rw [hS.size]; exact this.1) (fun c hc => by
        obtain ⟨v, rfl, hv1⟩ := hsc x (List.mem_of_getElem? hx) c hc
        exact avrep_sc hv1)
    have hasg2 := hpar.1.asg (fun v => by unfold AVRep; simp) (al := al) (by
      rw [List.all_eq_true] at hal ⊢
      intro p hp
      have := hal p hp
      rw [Bool.and_eq_true] at this
      rw [hpar.2, hS.size]; exact this.1)
    have hkl : (kO (asgS al (parS ps (encC x) sl))).all (fun k => Nat.blt k 100000) = true := by
      have hp1 : ∀ (ps : List Tmp) (cs : List CV) (sl : AS), (ps.all fun p => Nat.blt p nt && Nat.blt p 100000) = true → (kO sl).all (fun k => Nat.blt k 100000) = true → (kO (parS ps cs sl)).all (fun k => Nat.blt k 100000) = true := by
        intro ps
        induction ps with
        | nil => intro cs sl _ h; cases cs <;> exact h
        | cons p ps ih =>
          intro cs sl h1 h2
          cases cs with
          | nil => exact h2
          | cons c cs =>
            rw [List.all_cons, Bool.and_eq_true] at h1
            have h3 := h1.1
            rw [Bool.and_eq_true] at h3
            refine ih cs ((p, .val c) :: sl) h1.2 ?_
            show ((p :: kO sl).all _) = true
            rw [List.all_cons, Bool.and_eq_true]
            exact ⟨h3.2, h2⟩
      have hp2 : ∀ (al : List (Nat × Nat)) (sl : AS), (al.all fun p => Nat.blt p.1 nt && Nat.blt p.1 100000) = true → (kO sl).all (fun k => Nat.blt k 100000) = true → (kO (asgS al sl)).all (fun k => Nat.blt k 100000) = true := by
        intro al
        induction al with
        | nil => intro sl _ h; exact h
        | cons p al ih =>
          intro sl h1 h2
          obtain ⟨d, t⟩ := p
          rw [List.all_cons, Bool.and_eq_true] at h1
          have h3 := h1.1
          rw [Bool.and_eq_true] at h3
          refine ih _ h1.2 ?_
          show ((d :: kO sl).all _) = true
          rw [List.all_cons, Bool.and_eq_true]
          exact ⟨h3.2, h2⟩
      exact hp2 _ _ hal (hp1 _ _ _ hps hslk)
    have hF := v2.frame (nt := nt) hbig hkl (tmps := asgT al (parT ps ((encC x).map CV.v) a.tmps)) (by rw [hasg2.2, hpar.2]; exact hS.size) hasg2.1
    have hR := hround k x hx W V v1 ⟨some (w.heap.size + 1), []⟩ _ W ⟨_, hv, hF⟩
    refine wpIn_mono hR ?_
    rintro e a' W' ⟨a'', rfl, s', ⟨rfl, h5⟩, h6⟩
    obtain ⟨D', hv', h7⟩ := h5 a'' W' h6
    have h8 := h7.bare (post := ob (k + 1)) (fun _ _ h => h) (by rw [hkeys (k + 1), ← hkeys k]; exact hbig)
    have hnx : ∀ b, b < W.heap.size → ¬ V.x b → W'.heap[b]? = W.heap[b]? := fun b hb hx => h8.below.block b hb hx
    have hnob : ∀ {b kk o}, kk = 299998 ∨ kk = 299999 → look lp kk = some (.ob b o) → ¬ V.x b := fun {b kk o} hkk h9 hb => by
      obtain ⟨q, av, g1, g2, g3⟩ := (v3 b).1 hb
      have hq := hlk3 g1
      have hav : av.t ≠ 7 := by
        have h3 := all_look (hlend k) g1
        unfold lendB at h3
        unfold oKey at g2
        have h4 : Nat.ble 500000 q = false := by
          cases e : Nat.ble 500000 q with
          | false => rfl
          | true => have := Nat.le_of_ble_eq_true e; omega
        simp only [h4, Bool.and_eq_true, Bool.not_eq_true'] at h3
        intro e
        rw [e] at h3
        exact absurd h3.1.2 (by decide)
      have hkk' : oKey kk := by unfold oKey; omega
      have hO : OX (Us w0 U0 D) W (.ob b o) (hv kk) := hS.obj kk (.ob b o) (by rw [hap (by omega)]; exact h9) hkk'
      have hval : hv kk = .pointer (some ⟨b, 0, none⟩) := (hO.2.1 rfl).1
      exact hS.disj q kk av _ b (hsubo k _ _ g1) (by rw [hap (by omega)]; exact h9) g2 hkk' hav (fun e => by cases e) (by omega) g3 (by rw [hval]; rfl)
    have hnL := hnob (.inl rfl) hL
    have hnD := hnob (.inr rfl) hDf
    have hqn : ∀ q ∈ newN (kO (ob 0)) (kO (ob 0)) (kO (ob 0)), q.1 ≠ 0 ∧ 100000 ≠ q.1 ∧ 100000 + 1000000 ≠ q.1 := fun q hq => by
      rw [List.all_eq_true] at hnm
      have := hnm q hq
      simp only [Bool.and_eq_true, Bool.not_eq_true'] at this
      obtain ⟨g1, g2, g3⟩ := this
      exact ⟨(fun e => by rw [e] at g1; cases g1), (fun e => by rw [← e] at g2; cases g2), (fun e => by rw [← e] at g3; cases g3)⟩
    obtain ⟨D2, hv2, h9, _, hD2⟩ := hS.back (hsubo k) (hlend k) (hleave (k + 1)) (by rw [hkeys (k + 1), hkeys k, List.all_eq_true]; intro q hq; exact hasN_of hq) (fun q hq => by
      rw [hkeys (k + 1), hkeys k] at hq
      intro kk av hkk hex
      have hq2 := hnE q (by simp only [List.mem_cons]; exact .inr (.inr hq))
      rw [look_append] at hkk
      cases e : look (ob k) kk with
      | some av' =>
        exfalso
        have hin : hasN q.2 kk = true := by
          have : ∀ (P1 P2 ks : List Nat), q ∈ newN P1 P2 ks → q.2 = P1 ++ P2 := by
            intro P1 P2 ks
            induction ks with
            | nil => intro h; cases h
            | cons y ys ih =>
              intro h
              unfold newN at h
              split at h
              · exact ih h
              · rcases List.mem_cons.1 h with rfl | h
                · rfl
                · exact ih h
              · exact ih h
              · rcases List.mem_cons.1 h with rfl | h
                · rfl
                · exact ih h
              · rcases List.mem_cons.1 h with rfl | h
                · rfl
                · exact ih h
              · rcases List.mem_cons.1 h with rfl | h
                · rfl
                · exact ih h
          rw [this _ _ _ hq]
          refine hasN_of (List.mem_append_left _ ?_)
          rw [← hkeys k]
          exact mem_keys e
        rw [hin] at hex
        cases hex
      | none =>
        rw [e] at hkk
        have hkk : look lp kk = some av := hkk
        rw [hlp, look_cons] at hkk
        split at hkk
        · rename_i e2
          injection hkk with hkk
          obtain ⟨g1, g2, g3⟩ := hqn q hq
          rw [← e2, ← hkk]
          exact ⟨fun e => g1 e.symm, g2, g3⟩
        · rw [look_cons] at hkk
          split at hkk
          · rename_i e2
            injection hkk with hkk
            obtain ⟨g1, g2, g3⟩ := hqn q hq
            rw [← e2, ← hkk]
            exact ⟨fun e => g1 e.symm, g2, g3⟩
          · exact hq2 kk av hkk hex) (fun q v hq1 hq2 => by rw [hkeys (k + 1), ← hkeys k] at hq2; exact hq2) v3 v4 v5 v2 h8
    refine ⟨hnx _ (by omega) hnL, hnx _ (by omega) hnD, fun b hb hx => ?_, D2, hv2, fun b o hb => hD2 b o (hd b o hb), ?_⟩
    · obtain ⟨o, ho⟩ := Classical.not_not.1 hx
      refine hnx b (by omega) fun hb2 => ?_
      obtain ⟨q, av, g1, g2, g3⟩ := (v3 b).1 hb2
      have hq := hlk3 g1
      have hav : av.t ≠ 7 ∧ av.t ≠ 6 := by
        have h3 := all_look (hlend k) g1
        unfold lendB at h3
        unfold oKey at g2
        have h4 : Nat.ble 500000 q = false := by
          cases e : Nat.ble 500000 q with
          | false => rfl
          | true => have := Nat.le_of_ble_eq_true e; omega
        simp only [h4, Bool.and_eq_true, Bool.not_eq_true'] at h3
        exact ⟨(fun e => by rw [e] at h3; exact absurd h3.1.2 (by decide)), (fun e => by rw [e] at h3; exact absurd h3.1.1.2 (by decide))⟩
      obtain ⟨f1, f2, f3⟩ := hS.blk q av b (hsubo k _ _ g1) g2 hav.1 g3
      have ho2 : Us w0 U0 D b o := ho.imp id fun h => ⟨h.1, hd _ _ h.2⟩
      exact us_ne ho2 f1 (f3 o fun e => absurd e hav.2) rfl
    · have hlen2 : (pre ++ [x]).length = k + 1 := by rw [List.length_append, hk]; rfl
      rw [hlen2]
      refine h9.sub fun q av hq => ?_
      rw [look_append] at hq ⊢
      cases e : look (ob (k + 1)) q with
      | some av' => rw [e] at hq; exact hq
      | none =>
        rw [e] at hq
        have hq : look lp q = some av := hq
        show look (ob k ++ lp) q = some av
        rw [look_append]
        cases e2 : look (ob k) q with
        | none => exact hq
        | some av' =>
          exfalso
          have h1 := mem_keys e2
          rw [hkeys k, ← hkeys (k + 1)] at h1
          obtain ⟨av2, h2⟩ : ∃ av2, look (ob (k + 1)) q = some av2 := by
            clear e
            generalize ob (k + 1) = L at h1
            induction L with
            | nil => cases h1
            | cons y L ih =>
              obtain ⟨q', av2⟩ := y
              rw [look_cons]
              by_cases e3 : q' = q
              · exact ⟨av2, if_pos e3⟩
              · rw [if_neg e3]
                rcases List.mem_cons.1 h1 with h1 | h1
                · exact absurd h1.symm e3
                · exact ih h1
          rw [e] at h2; cases h2
  · subst hys
    obtain ⟨D, hv, hd, hS⟩ := hI
    refine ⟨_, a, w.heap.size, ⟨rfl, rfl⟩, ⟨D, hv, by rw [hlp] at hS; exact hS⟩, by show _ = wdA a _; unfold wdA; rw [h.dfr], ?_⟩
    have := hap (k := ys.length) (k' := 299999) (by omega)
    rw [hDf, hlp] at this
    exact this
end
section
variable {P : Program} {w0 : World} {U0 : UX} {nt : Nat} {ops : Array Oper} {o : Oper} {S : Nat → Option AV} {gs : List Nat} {d : Nat} {s : AS} {a : Act} {w : World} {D : Nat → Nat → Prop} {hv : Nat → Value}

theorem awpM_mono {c : Code} {Q Q' : Exit → AS → Nat → Prop} (h : AWpM P w0 U0 nt c Q s) (hq : ∀ e s g, Q e s g → Q' e s g) : AWpM P w0 U0 nt c Q' s := fun a w hs =>
  wpIn_mono (h a w hs) fun e a' w' ⟨s', a'', g, h1, h2⟩ => ⟨s', a'', g, hq _ _ _ h1, h2⟩
theorem awpM_wk {c : Code} {Q : Exit → AS → Nat → Prop} {s' : AS} (h : Wk w0 U0 nt s s') (h2 : AWpM P w0 U0 nt c Q s') : AWpM P w0 U0 nt c Q s := fun a w hs => h2 a w (h a w hs)
theorem afunOM_of {f : FuncId} {fn : Func} {c : Code} {pre post : AS} {args : List AV} {r : AV} (hf : P.funcs[f]? = some fn) (hn : fn.ntmps = nt) (hname : (fn.name == "runtime.NumGoroutine") = false) (hb : fn.body = some c) (hl : Nat.ble args.length nt = true) (hnt : Nat.blt nt 100000 = true) (hpre : (kO pre).all (Nat.ble 100000) = true) (hpost : (kO post).all (Nat.ble 100000) = true)
    (h : ∀ (w : World) (U : UX), (∀ k v, U.f k = some v → hasN (kO pre) k = true) → AWpM P w U nt c (fun e s' g => (e = .normal ∨ e = .ret) ∧ ∃ s2, Wk w U nt s' ((299999, .ob g 0) :: s2) ∧ resA P s2 fn.results.toList = some r ∧ SubL s2 post ∧ look s2 299999 = none) (argA args 0 ++ pre)) : AFunO P f pre args r post := by
  refine ⟨ent_of hf hname (by rw [hb]; rfl), fun U w hv a0 vs hU hpS hargs => ?_⟩
  have hlen := hargs.len
  refine callsIn_wide.1 (callsIn_of_wp_marks (F := Fence.wide) (n := 1) hf hb trivial ?_ rfl)
  have hle := Nat.le_of_ble_eq_true hl
  have hnt := bL hnt
  have hlow : ∀ {k av}, look pre k = some av → 100000 ≤ k := fun {k av} h1 => by
    rw [List.all_eq_true] at hpre
    exact Nat.le_of_ble_eq_true (hpre k (mem_keys h1))
  have hlk : ∀ {k}, 100000 ≤ k → look (argA args 0 ++ pre) k = look pre k := fun {k} h1 => by
    rw [look_append]
    cases h2 : look (argA args 0) k with
    | none => rfl
    | some av =>
      obtain ⟨_, h3⟩ := look_argA h2
      rw [Nat.sub_zero, List.getElem?_eq_none (by omega)] at h3
      cases h3
  have hlive : LiveN (argA args 0 ++ pre) = LiveN pre := by
    funext n
    unfold LiveN Live
    apply propext
    constructor
    · rintro (h1 | ⟨e, h1, h2, h3⟩)
      · exact .inl h1
      · rw [hlk (by omega)] at h1; exact .inr ⟨e, h1, h2, h3⟩
    · rintro (h1 | ⟨e, h1, h2, h3⟩)
      · exact .inl h1
      · exact .inr ⟨e, by rw [hlk (by omega)]; exact h1, h2, h3⟩
  have hs : Sim w U nt (argA args 0 ++ pre) { tmps := vs.toArray ++ Array.replicate (fn.ntmps - vs.toArray.size) undef, defers := [] } w := by
    refine ⟨fun _ _ => False, hv, hpS.below, rfl, by simp [hn]; omega, fun d av h1 h2 => ?_, fun n o av h1 h2 h3 h4 => ?_, fun n o o' av av' h1 h2 => ?_, fun k av h1 h2 => ?_, fun k av g h1 h2 => ?_, fun k k' av av' g h1 h2 h3 h4 => ?_, hpS.fix, fun b o hd => hd.elim⟩
    · rw [look_append] at h1
      cases h3 : look (argA args 0) d with
      | none =>
        rw [h3] at h1
        have := hlow h1
        omega
      | some av' =>
        rw [h3] at h1
        cases h1
        obtain ⟨_, h4⟩ := look_argA h3
        rw [Nat.sub_zero] at h4
        obtain ⟨v, h6, h7⟩ := hargs.at h4
        have hdl : d < vs.length := by
          rcases Nat.lt_or_ge d vs.length with h | h
          · exact h
          · rw [List.getElem?_eq_none h] at h6; cases h6
        rw [hlive]
        refine ⟨v, ?_, h7⟩
        rw [Array.getElem?_append_left (by simpa using hdl)]
        simpa using h6
    · rw [hlk (by unfold fKey; omega)] at h1
      rw [hlk (by omega)] at h3
      rw [hlive]
      exact hpS.fld n o av h1 h2 h3 h4
    · rw [hlk (by unfold fKey; omega)] at h1 h2
      exact hpS.fdis n o o' av av' h1 h2
    · rw [hlk h2.1] at h1; rw [hlive]; exact hpS.obj k av h1 h2
    · rw [hlk h2.1] at h1; exact hpS.blk k av g h1 h2
    · rw [hlk h3.1] at h1; rw [hlk h4.1] at h2; exact hpS.disj k k' av av' g h1 h2 h3 h4
  refine wpIn_mono (h w U hU _ w hs) ?_
  rintro e a' w' ⟨s', a'', g, ⟨h1, s2, g1, g2, g3, g4⟩, h3, rfl, g5⟩
  obtain ⟨D', hv', h4⟩ := g1 a'' w' h3
  obtain ⟨h5, h6, h7, y, h8, h9⟩ := h4.putob (n := 299999) (o := 0) (o' := 1) (by unfold RW; omega) (lS _ _ _) (x := .deferred none) (fun _ _ _ e => by cases e) (fun e => by cases e)
  have h9 := h9 rfl
  subst h9
  have hS := h5.sub (s' := s2) fun k av hk => by
    have hne : (299999 : Nat) ≠ k := fun e => by rw [← e, g4] at hk; cases hk
    rw [lN hne, lN hne]; exact hk
  obtain ⟨v, i1, i2⟩ := resA_run hS g2
  have hlow2 : ∀ {k av}, look post k = some av → 100000 ≤ k := fun {k av} h1 => by
    rw [List.all_eq_true] at hpost
    exact Nat.le_of_ble_eq_true (hpost k (mem_keys h1))
  have hSp := hS.sub g3.sub
  have hS0 : SimG w U 0 post ⟨#[], []⟩ (w'.putObj g (.deferred none)) D' hv' := ⟨hSp.below, rfl, rfl, fun d av h7 h8 => by have := hlow2 h7; omega, hSp.fld, hSp.fdis, hSp.obj, hSp.blk, hSp.disj, hSp.fix, hSp.dlt⟩
  have hleave : LeavesInM Fence.wide 1 P fn a''.tmps (fun e w' => ∃ v D' hv' a', e = .returned v ∧ SimG w U 0 post a' w' D' hv' ∧ AVRep (Us w U D') w' hv' (LiveN post) r v) [⟨.collected g, #[]⟩] .returning w' :=
    ⟨(fun e => by cases e), .inl ⟨g, _, rfl, run_takeDeferred h8, v, i1, v, D', hv', _, rfl, hS0, i2.move (fun _ _ _ h1 h2 => ⟨h1, h2⟩) (fun _ h7 => h7.imp id fun ⟨e, he⟩ => ⟨e, g3.sub _ _ he.1, he.2⟩) fun _ => rfl⟩⟩
  rcases h1 with rfl | rfl
  · exact hleave
  · exact hleave

theorem a_boxN (nn : Nat) (hg : Gd w0 U0 nt ops o gs S) (hd : o.dst = some d) (hn : Nat.blt d nt = true) (h5 : Nat.blt d 100000 = true) {x : Operand} {ty : TypeId} {av : AV} (ho : o.op = .box ty x) (hx : ev S x = some av) (hsz : Nat.beq av.sz 1 = true) (hone : ((Nat.beq av.t 0 && !Nat.beq av.c.k 2) || Nat.beq av.t 2 || Nat.beq av.t 12 || Nat.beq av.t 15) = true) (hbb : (Nat.blt nn 100000 || (Nat.ble 350000 nn && Nat.blt nn 400000)) = true) (hnn : Nat.beq av.n nn = false) (hnf : ∀ v, U0.f (100000 + nn) = some v → False) : AOp P w0 U0 nt ops o (gs ++ rd x) [(nn, [])] S [(fKey nn 0, av), (d, .bp nn 0 []), (100000 + nn, .obj)] := by
  intro s hs hN a w ⟨D, hv, h⟩ Q K hK
  rw [if_pos (hg s (fun k hk => hs k (List.mem_append_left _ hk)) a w D hv h)]
  have hd5 := bL h5
  have hbn : BN nn := by
    rcases Bool.or_eq_true_iff.1 hbb with h1 | h1
    · exact .inl (bL h1)
    · rw [Bool.and_eq_true] at h1; exact .inr ⟨Nat.le_of_ble_eq_true h1.1, bL h1.2⟩
  have hbn1 := hbn
  unfold BN at hbn1
  have hrep := ev_rep h (fun k hk => hs k (List.mem_append_right _ hk)) hx
  have hcell : (a.eval x).cells = #[a.eval x] := by
    have hone' : (av.t = 0 ∧ av.c.k ≠ 2) ∨ (av.t ≠ 0 ∧ fldB av = true) := by
      simp only [Bool.or_eq_true, Bool.and_eq_true, Bool.not_eq_true'] at hone
      rcases hone with ((⟨h1, h2⟩ | h1) | h1) | h1
      · exact .inl ⟨Nat.eq_of_beq_eq_true h1, fun e => by rw [e] at h2; cases h2⟩
      all_goals (refine .inr ⟨fun e => (by rw [e] at h1; cases h1), ?_⟩; unfold fldB; rw [h1]; simp)
    rcases hone' with ⟨h1, h2⟩ | ⟨h1, h2⟩
    · unfold AVRep at hrep
      rw [if_pos h1] at hrep
      exact (vrep_one hrep.1 h2).1
    · exact (fld_one hrep h2 h1).1
  have he : (execOp a.eval o).run P w = .ok (.value (.pointer (some ⟨w.heap.size, 0, none⟩))) (w.alloc (.cells #[a.eval x] ty)) := by
    generalize a.eval = ρ at hcell ⊢
    simp [execOp, ho, Instr.box, run_newVar, hcell]
  unfold Oper.wp
  rw [he, Oper.upon_value, hd]
  have hr := (hN (nn, []) (by simp)).nr
  have hG := h.newboxN (d := d) (av := .obj) hbn hnf hr (bL hn) hd5 (.inr rfl) (xs := [a.eval x]) ty (fun e => by cases e) (fun e => by cases e)
  have hb' : Below w.heap.size w (w.alloc (.cells #[a.eval x] ty)) := (Below.refl _ _).alloc (Nat.le_refl _) _
  have hl2 : LiveN ((d, AV.bp nn 0 []) :: (100000 + nn, AV.obj) :: s) = LiveN s := by
    funext n
    simp only [LiveN, live_two2 (show d < 200000 by omega) (show 100000 + nn < 200000 ∨ 400000 ≤ 100000 + nn by omega)]
  refine hK _ _ ⟨D, _, hG.addF hbn (by rw [lN (by omega), lS]) (by omega) (av := av) (v := a.eval x) ?_ ?_ ?_ ?_⟩
  · rw [hl2]
    refine hrep.move (us_keep h.dlt hb' fun _ _ h => h) (fun _ h => h) fun h3 => ?_
    have hkn : hk av ≠ 100000 + nn := by
      refine hk_ne_boxN hbn (fun n => liveN_rn) ?_ h3
      exact fun e => by rw [e, Nat.beq_refl] at hnn; cases hnn
    simp only [if_neg hkn]
  · rw [hcell, Nat.eq_of_beq_eq_true hsz]; rfl
  · intro i hi
    rw [hcell] at hi ⊢
    have hi : i = 0 := by simp at hi; omega
    subst hi
    simp only [if_true]
    show (w.alloc (.cells #[a.eval x] ty)).cell? ⟨w.heap.size, 0 + 0, none⟩ = _
    have := alloc_new w (.cells #[a.eval x] ty)
    simp only [World.cell?, this]
    simp
  · intro o' av' h1 h2
    exfalso
    rw [lN (by unfold fKey; omega), lN (by unfold fKey; omega)] at h1
    have := (hr _ _ h1).2.1
    rw [fnm_key h2] at this
    exact this rfl
theorem a_alloc1N (nn : Nat) (hg : Gd w0 U0 nt ops o gs S) (hd : o.dst = some d) (hn : Nat.blt d nt = true) (h5 : Nat.blt d 100000 = true) {ty : TypeId} {v : Value} {av : AV} (ho : o.op = .alloc ty) (hi : (P.info? ty).map (·.zero) = some (some v)) (hav : (v = .slice none 0 0 ∧ av = ⟨0, .lst [], 1, 0, []⟩) ∨ (v.oneCell' = true ∧ av = .val (.sc v))) (hbb : (Nat.blt nn 100000 || (Nat.ble 350000 nn && Nat.blt nn 400000)) = true) (hnn : Nat.beq 1 nn = false) (hn0 : Nat.beq 0 nn = false) (hnf : ∀ v, U0.f (100000 + nn) = some v → False) : AOp P w0 U0 nt ops o gs [(nn, [])] S [(fKey nn 0, av), (d, .bp nn 0 []), (100000 + nn, .obj)] := by
  intro s hs hN a w ⟨D, hv, h⟩ Q K hK
  rw [if_pos (hg s hs a w D hv h)]
  have hd5 := bL h5
  have hbn : BN nn := by
    rcases Bool.or_eq_true_iff.1 hbb with h1 | h1
    · exact .inl (bL h1)
    · rw [Bool.and_eq_true] at h1; exact .inr ⟨Nat.le_of_ble_eq_true h1.1, bL h1.2⟩
  have hbn1 := hbn
  unfold BN at hbn1
  have hv1 : v.oneCell' = true := by
    rcases hav with ⟨rfl, _⟩ | ⟨h1, _⟩
    · rfl
    · exact h1
  have hcell := one_cells hv1
  obtain ⟨it, i1, i2⟩ : ∃ it, P.info? ty = some it ∧ it.zero = some v := by
    cases e : P.info? ty with
    | none => rw [e] at hi; cases hi
    | some it => rw [e, Option.map_some] at hi; exact ⟨it, rfl, by injection hi⟩
  have he : (execOp a.eval o).run P w = .ok (.value (.pointer (some ⟨w.heap.size, 0, none⟩))) (w.alloc (.cells #[v] ty)) := by
    simp [execOp, ho, Instr.alloc, zeroValue, typeInfo, i1, i2, run_newVar, hcell]
  unfold Oper.wp
  rw [he, Oper.upon_value, hd]
  have hr := (hN (nn, []) (by simp)).nr
  have hG := h.newboxN (d := d) (av := .obj) hbn hnf hr (bL hn) hd5 (.inr rfl) (xs := [v]) ty (fun e => by cases e) (fun e => by cases e)
  refine hK _ _ ⟨D, _, hG.addF hbn (by rw [lN (by omega), lS]) (by omega) (av := av) (v := v) ?_ ?_ ?_ ?_⟩
  · rcases hav with ⟨rfl, rfl⟩ | ⟨h1, rfl⟩
    · exact ⟨vrep_lst.2 ⟨none, 0, 0, rfl, rfl, Nat.le_refl _, by decide, fun _ => ⟨rfl, rfl⟩, [], .inl rfl, rfl⟩, fun _ => ⟨0, .lst [], rfl, rfl⟩⟩
    · exact avrep_sc h1
  · rw [hcell]
    rcases hav with ⟨rfl, rfl⟩ | ⟨h1, rfl⟩ <;> rfl
  · intro i hi
    rw [hcell] at hi ⊢
    have hi : i = 0 := by simp at hi; omega
    subst hi
    simp only [if_true]
    show (w.alloc (.cells #[v] ty)).cell? ⟨w.heap.size, 0 + 0, none⟩ = _
    have := alloc_new w (.cells #[v] ty)
    simp only [World.cell?, this]
    simp
  · intro o' av' h1 h2
    exfalso
    rw [lN (by unfold fKey; omega), lN (by unfold fKey; omega)] at h1
    have := (hr _ _ h1).2.1
    rw [fnm_key h2] at this
    exact this rfl
theorem a_mk0 (nn : Nat) (hg : Gd w0 U0 nt ops o gs S) (hd : o.dst = some d) (hn : Nat.blt d nt = true) (h5 : Nat.blt d 100000 = true) {x y : Operand} {t e size bytes k : Nat} {z : Value} {i1 i2 : Int} {k1 k2 : IntKind} {n1 q1 p1 n2 q2 p2} (ho : o.op = .makeSlice t x y) (ht : P.underlying t = some (.slice e)) (hi : (P.info? e).map (fun i => (i.zero, i.size, i.bytes)) = some (some z, size, bytes)) (hsz : Nat.blt 0 size = true) (hbt : Nat.ble bytes 1000 = true)
    (hx : ev S x = some ⟨0, .sc (.int k1 i1), n1, q1, p1⟩) (hy : ev S y = some ⟨0, .sc (.int k2 i2), n2, q2, p2⟩) (hn2 : (Nat.ble 200000 nn && Nat.blt nn 400000) = true) (h1 : i1 = 0) (h2 : i2 = (k : Int)) (hbd : k ≤ 1000000000) :
    AOp P w0 U0 nt ops o (gs ++ (rd x ++ rd y)) [(nn, [])] S [(d, .sl nn 0 0 size), (nn, .mrow e size [])] := by
  intro s hs hN a w ⟨D, hv, h⟩ Q K hK
  rw [if_pos (hg s (fun k hk => hs k (List.mem_append_left _ hk)) a w D hv h)]
  have e1 := ev_sc h (fun k hk => hs k (List.mem_append_right _ (List.mem_append_left _ hk))) hx
  have e2 := ev_sc h (fun k hk => hs k (List.mem_append_right _ (List.mem_append_right _ hk))) hy
  subst h1
  subst h2
  obtain ⟨i, hi1, hi2, hi3, hi4⟩ := info_parts hi
  have hsz := bL hsz
  have hbt := Nat.le_of_ble_eq_true hbt
  have hmul : bytes * k ≤ 1000 * 1000000000 := Nat.mul_le_mul hbt hbd
  obtain ⟨w', r1, r2, r3⟩ := run_make_own (P := P) (w := w) w.heap.size t e i z size ht hi1 hi2 hi3 k1 k2 k (by rw [hi4]; omega) (by unfold maxLen; omega) (Nat.le_refl _)
  have hrn2 := rnB hn2
  have hkp : ∀ b o u, Us w0 U0 D b o → w.cell? ⟨b, o, none⟩ = some u → Us w0 U0 D b o ∧ w'.cell? ⟨b, o, none⟩ = some u := fun b o u hu hc => by
    refine ⟨hu, ?_⟩
    have hlt : b < w.heap.size := World.block_lt_of_cell? w _ hc
    rw [World.cell?_of_block (w := w) (r3.block b hlt (by simp))]
    exact hc
  have hG := h.newrow (avn := .mrow e size []) (v' := .slice (some ⟨w.heap.size, 0, none⟩) 0 k) (D' := D) (X := fun _ => False) (n := nn) hrn2 (hN (nn, []) (by simp)).nr (by simp) ⟨r3.os, r3.tape, r3.output, r3.size, fun b hb hx => r3.block b hb (by simp)⟩ (fun b hb => hb.elim) (fun g hg => by
      have hg : (Value.slice (some ⟨w.heap.size, 0, none⟩) 0 k).ownBlock = some g := hg
      refine ⟨.inr (r2.lt g hg).1, (r2.lt g hg).2, fun o _ hd => ?_⟩
      have := (r2.lt g hg).1
      have := h.dlt _ _ hd
      omega) (fun b o hd => .inl hd) (fun b o hd => Nat.lt_of_lt_of_le (h.dlt _ _ hd) r3.size) hkp (fun hv lv => ⟨[], ownsRow_mono r2 (Nat.zero_le _), hsz, (fun c hc => by cases hc), rfl⟩)
  have he : (execOp a.eval o).run P w = .ok (.value (.slice (some ⟨w.heap.size, 0, none⟩) 0 k)) w' := by
    generalize a.eval = ρ at e1 e2 ⊢
    simp [execOp, ho, e1, e2, r1]
  unfold Oper.wp
  rw [he, Oper.upon_value, hd]
  refine hK _ _ ⟨_, _, hG.put (bL hn) (bL h5) ⟨RW.rn hrn2, ?_⟩⟩
  show SlV ((fun x => if x = nn then Value.slice (some ⟨w.heap.size, 0, none⟩) 0 k else hv x) nn) 0 0 size _
  simp only [if_true]
  exact slV_all rfl (Nat.zero_le _) (.inr ⟨_, rfl⟩)
end
end Go.Proofs.YteegmcfobgpemaaGreat
namespace Go.Proofs.YteegmcfobgpemaaGreat
open Go.RowKit Go.MapKept Go.Shelf
set_option linter.unusedVariables false
set_option linter.unusedSimpArgs false
attribute [local go_sem] Oper.semAt_some

def encB (x : Nat × Int) : List CV := [.i (x.1 : Int), .i x.2]
def backL (L : List Int) : List (Nat × Int) := (List.range L.length).reverse.map fun i => (i, L.getD i 0)
theorem backL_len (L : List Int) : (backL L).length = L.length := by simp [backL]
theorem backL_at {L : List Int} {k : Nat} (h : k < L.length) : (backL L)[k]? = some (L.length - 1 - k, L.getD (L.length - 1 - k) 0) := by
  unfold backL
  rw [List.getElem?_map, List.getElem?_reverse (by simpa using h)]
  simp only [List.length_range]
  rw [List.getElem?_range (by omega)]
  rfl
set_option maxRecDepth 100000 in
set_option maxHeartbeats 2000000 in
theorem back_in (l Bb ob : Nat) (L : List Int) (R : Nat → Nat → Prop) (w : World) (ao : Option Addr) (cap : Nat) (hbox : w.cell? ⟨Bb, ob, none⟩ = some (.slice ao L.length cap)) (hRb : R Bb ob) (hat : At R w ao (L.map (Value.int .i64))) (hl : L.length ≤ 1000000000)
    (J : List (Nat × Int) → World → Prop) (hJ : ∀ pre A B, J pre A → Below A.heap.size A B → J pre B)
    (hY : ∀ pre (x : Nat × Int) V, J pre V → (backL L)[pre.length]? = some x → YieldAt Fence.wide 1 Tryz.prog l #[.int .i64 (x.1 : Int), .int .i64 x.2] V fun e V' => e = .returned (.bool true) ∧ J (pre ++ [x]) V' ∧ KpX w.heap.size (fun b => ¬ ∃ o, R b o) V V')
    (W : World) (hW : Below w.heap.size w W) (h0 : J [] W) :
    CallsIn Fence.wide 2 Tryz.prog 181 #[.func (.yield l) #[] #[], .pointer (some ⟨Bb, ob, none⟩)] W fun e W' => (∃ v, e = .returned v) ∧ ∃ ys, ys = backL L ∧ J ys W' := by
  have hcs : ∀ {V : World}, KpX w.heap.size (fun b => ¬ ∃ o, R b o) w V → V.cell? ⟨Bb, ob, none⟩ = some (.slice ao L.length cap) ∧ ∀ i, i < L.length → ∃ b off, ao = some ⟨b, off, none⟩ ∧ V.cell? ⟨b, off + i, none⟩ = some (.int .i64 (L.getD i 0)) := fun {V} hV => by
    have hkeep : ∀ b o u, R b o → w.cell? ⟨b, o, none⟩ = some u → V.cell? ⟨b, o, none⟩ = some u := fun b o u hr hc => by
      have hb : b < w.heap.size := World.block_lt_of_cell? w _ hc
      rw [World.cell?_of_block (w := w) (hV b hb (fun hn => hn ⟨o, hr⟩))]
      exact hc
    refine ⟨hkeep _ _ _ hRb hbox, fun i hi => ?_⟩
    rcases hat with h1 | ⟨b, off, h1, h2⟩
    · have := congrArg List.length h1
      rw [List.length_map] at this
      simp at this
      subst this
      simp at hi
    · obtain ⟨h3, h4⟩ := h2 i (by simpa using hi)
      refine ⟨b, off, h1, hkeep _ _ _ h3 ?_⟩
      rw [h4, List.getElem?_map, List.getElem?_eq_getElem hi, List.getD_eq_getElem?_getD, List.getElem?_eq_getElem hi]
      rfl
  have hW0 : KpX w.heap.size (fun b => ¬ ∃ o, R b o) w W := fun b hb _ => hW.block b hb
  obtain ⟨n, hn⟩ : ∃ n, n = L.length := ⟨_, rfl⟩
  have HN : Hid (n = L.length) := hn
  have HC : Hid (∀ {V : World}, KpX w.heap.size (fun b => ¬ ∃ o, R b o) w V → V.cell? ⟨Bb, ob, none⟩ = some (.slice ao n cap) ∧ ∀ i, i < n → ∃ b off, ao = some ⟨b, off, none⟩ ∧ V.cell? ⟨b, off + i, none⟩ = some (.int .i64 (L.getD i 0))) := by
    rw [hn]; exact fun {V} h => hcs h
  have hl' : n ≤ 1000000000 := by omega
  clear hcs hbox hat hn hl hRb
  obtain ⟨hb0, _⟩ := HC.out hW0
  refine callsIn_of_wp Tryz.func181 rfl trivial ?_ rfl
  simp only [Tryz.ntmps181, List.size_toArray, List.length_cons, List.length_nil, Nat.reduceAdd, Nat.reduceSub, Array.replicate_succ, Array.replicate_zero, List.push_toArray, List.append_toArray, List.nil_append, List.cons_append]
  gi_wp2
  gi_loopw [3] (fun iv wr => ∃ (z : Int) (k : Nat), iv = .int .i64 z ∧ z = (n : Int) - 1 - k ∧ k ≤ n ∧ J ((backL L).take k) wr ∧ KpX w.heap.size (fun b => ¬ ∃ o, R b o) w wr) (fun iv wr => (intOf iv + 1).toNat)
  case atStart => exact ⟨_, 0, rfl, by omega, by omega, by simpa using h0, hW0⟩
  case round =>
    obtain ⟨z, k, rfl, hz, hk, hJr, hKr⟩ := hrel
    clear hb0 h0 hW0
    obtain ⟨hb1, hc1⟩ := HC.out hKr
    by_cases hkn : k = n
    · have hz1 : z = -1 := by omega
      subst hz1
      gi_wp2
      go_end0
      refine ⟨⟨_, rfl⟩, _, rfl, ?_⟩
      rw [hkn, HN.out, ← backL_len, List.take_length] at hJr
      exact hJr
    · obtain ⟨j, hj⟩ : ∃ j : Nat, j = n - 1 - k := ⟨_, rfl⟩
      have hzj : z = (j : Int) := by omega
      have hjn : j < n := by omega
      subst hzj
      obtain ⟨b, off, rfl, hc2⟩ := hc1 j hjn
      have hx : (backL L)[((backL L).take k).length]? = some (j, L.getD j 0) := by
        have hkl : k < L.length := by have := HN.out; omega
        rw [List.length_take, backL_len, Nat.min_eq_left (by omega), backL_at hkl, ← HN.out, ← hj]
      obtain ⟨fn, tmps, assign, body, hy, hR⟩ := hY _ _ _ hJr hx
      have HX : Hid (((backL L).take k) ++ [(j, L.getD j 0)] = (backL L).take (k + 1)) := by
        have hkl : k < L.length := by have := HN.out; omega
        show _ = _
        rw [List.take_add_one, backL_at hkl, ← HN.out, ← hj]
        rfl
      obtain ⟨v, hv⟩ : ∃ v, v = L.getD j 0 := ⟨_, rfl⟩
      rw [← hv] at hc2 hR
      have HX2 := HX.out
      rw [← hv] at HX2
      have HX3 : Hid (((backL L).take k) ++ [(j, v)] = (backL L).take (k + 1)) := HX2
      clear HX HX2 hx hc1
      have hy : Sem.run Tryz.prog (Instr.yield l #[.int .i64 (j : Int), .int .i64 v]) wr = .ok (.round l fn tmps assign body) wr := by rw [hv]; exact hy
      clear hv
      have HJ : Hid (j = n - 1 - k ∧ k < n) := ⟨hj, by omega⟩
      clear hj hz hkn hk
      gi_wp2
      refine hR.mono ?_
      rintro e V3 ⟨rfl, hJ3, hk3⟩
      gi_wp2
      go_roundw
      case rel => exact ⟨_, k + 1, rfl, by have := HJ.out; omega, by have := HJ.out; omega, by have := hJ3; rw [HX3.out] at this; exact this, fun b' hb' hx' => (hk3 b' hb' hx').trans (hKr b' hb' hx')⟩
      case measure => simp [intOf]
theorem back_hands (L : List Int) (hl : L.length ≤ 1000000000) : Hands Tryz.prog 181 [.ptr (.lst (L.map CV.i))] encB (backL L) := by
  rintro w lb R ⟨u, us, rfl, h1, h2⟩
  have h2 : us = [] := h2
  subst h2
  obtain ⟨b, off, xs, rfl, h3, h4⟩ := vrep_ptr.1 h1
  obtain ⟨v, g1, g2⟩ := vrep_of_rep h3
  obtain ⟨ao, n, cap, rfl, e1, e2, e3, e4, ys, e5, e6⟩ := vrep_lst.1 g1
  rw [List.length_map] at e1
  subst e1
  have hxs : xs = [.slice ao L.length cap] := by rw [← g2]; rfl
  subst hxs
  obtain ⟨h5, h6⟩ := h4 0 (by simp)
  have hys : ys = L.map (Value.int .i64) := by
    have : ∀ (l : List Int) (zs : List Value), Sq ((l.map CV.i).map fun c => Rep R w c) zs → zs = l.map (Value.int .i64) := by
      intro l
      induction l with
      | nil => intro zs h; exact h
      | cons x l ih =>
        intro zs h
        obtain ⟨us, bs, rfl, k1, k2⟩ := h
        rw [List.map_cons, ih bs k2]
        have k3 : us = [.int .i64 x] := by
          obtain ⟨v, j1, j2⟩ := vrep_of_rep k1
          obtain ⟨j3, _⟩ := vrep_sc.1 j1
          subst j3
          rw [← j2]; rfl
        rw [k3]; rfl
    exact this L ys e6
  subst hys
  intro l J W hW hJ hY h0
  exact back_in l b off L R w ao cap (by simpa using h6) (by simpa using h5) e5 hl J hJ hY W hW h0
-- 
theorem back_abs (W : World) (L : List Int) : AFun Tryz.prog W 174 [.lst (L.map CV.i)] (.val (.fn 181 0 [.ptr (.lst (L.map CV.i))])) := by
  refine afun_of (rs := [.fn 181 0 [.ptr (.lst (L.map CV.i))]]) Tryz.func174 Tryz.ntmps174 rfl rfl rfl rfl ?_
  intro w U hW
  refine aS (aR ?_)
  (refine nx (a_box (gN rfl) rfl rfl rfl rfl rfl) rfl ?_)
  (refine nx (aA (gN rfl) rfl rfl rfl rfl rfl) rfl ?_)
  show AWp _ _ _ _ _ _ _
  refine AWp.wk (wk_freeze 1 rfl rfl rfl (s' := []) trivial rfl rfl rfl) ?_
  refine aS (aR ?_)
  (refine nx (a_mkfunc (gN rfl) rfl rfl rfl rfl rfl rfl) rfl ?_)
  (refine nx (aA (gN rfl) rfl rfl rfl rfl rfl) rfl ?_)
  show AWp _ _ _ _ _ _ _
  exact aT ⟨.inr rfl, rfl⟩
end Go.Proofs.YteegmcfobgpemaaGreat
namespace Go.Proofs.YteegmcfobgpemaaGreat
open Go.RowKit
set_option linter.unusedVariables false
set_option linter.unusedSimpArgs false
set_option maxRecDepth 100000
def stepT (k : Nat) (t : Cl × List Tm) (n : Nat) : Option (Cl × List Tm) := match listC k t.2 (List.range' (pC t.1 n).2.1 ((pC t.1 n).2.2 - (pC t.1 n).2.1)) (pC t.1 n).1.ns [] with
  | none => none
  | some q => some (⟨q.1, (pC t.1 n).1.vr, (pC t.1 n).1.ps⟩, t.2.set n ⟨(nT q.1 n).f, q.2⟩)
theorem termsC_cons (k n : Nat) (o : List Nat) (c : Cl) (out : List Tm) : termsC k (n :: o) c out = (stepT k (c, out) n).bind fun t => termsC k o t.1 t.2 := by
  rw [termsC, stepT]
  simp only
  cases listC k out (List.range' (pC c n).2.1 ((pC c n).2.2 - (pC c n).2.1)) (pC c n).1.ns [] <;> rfl
theorem termsC_snoc (k : Nat) : ∀ (o : List Nat) (n : Nat) (c : Cl) (out : List Tm), termsC k (o ++ [n]) c out = (termsC k o c out).bind fun t => stepT k t n
  | [], n, c, out => by
    rw [List.nil_append, termsC_cons]
    show _ = stepT k (c, out) n
    cases stepT k (c, out) n <;> rfl
  | m :: o, n, c, out => by
    rw [List.cons_append, termsC_cons, termsC_cons]
    cases stepT k (c, out) m with
    | none => rfl
    | some t => exact termsC_snoc k o n t.1 t.2
theorem termsC_take {k : Nat} : ∀ {o : List Nat} {c : Cl} {out : List Tm} {q}, termsC k o c out = some q → ∀ j, ∃ t, termsC k (o.take j) c out = some t
  | [], c, out, q, h, j => ⟨(c, out), by rw [List.take_nil]; rfl⟩
  | n :: o, c, out, q, h, 0 => ⟨(c, out), rfl⟩
  | n :: o, c, out, q, h, j + 1 => by
    rw [termsC_cons] at h
    rw [List.take_succ_cons, termsC_cons]
    cases e : stepT k (c, out) n with
    | none => rw [e] at h; cases h
    | some t => rw [e] at h; exact termsC_take (o := o) h j
structure TI (N : Nat) (t : Cl × List Tm) : Prop where
  fit : FitU t.1
  out : t.2.length = N
  len : N ≤ t.1.ns.length
theorem listC_keep {k : Nat} {vr ps} {out : List Tm} : ∀ (l : List Nat) {ns : List Nd} {ts : List Tm} {q}, listC k out l ns ts = some q → FitU ⟨ns, vr, ps⟩ → (∀ p ∈ l, p < ns.length) → FitU ⟨q.1, vr, ps⟩ ∧ q.1.length = ns.length ∧ q.2.length = ts.length + l.length
  | [], ns, ts, q, h, hF, _ => by
    have h : some (ns, ts) = some q := h
    cases h
    exact ⟨hF, rfl, rfl⟩
  | p :: l, ns, ts, q, h, hF, hl => by
    rw [listC] at h
    cases hd : headC k ns p with
    | none => rw [hd] at h; cases h
    | some r =>
      rw [hd] at h
      obtain ⟨h1, h2, h3⟩ := FitU.head hF (hl p (by simp)) hd
      obtain ⟨g1, g2, g3⟩ := listC_keep l h h1 fun p' hp' => by rw [h2]; exact hl p' (List.mem_cons_of_mem _ hp')
      exact ⟨g1, by rw [g2, h2], by rw [g3]; simp; omega⟩
theorem TI.step {k N : Nat} {t t' : Cl × List Tm} {n : Nat} (h : TI N t) (hn : n < t.1.ns.length) (hs : stepT k t n = some t') : TI N t' ∧ t.1.ns.length ≤ t'.1.ns.length := by
  unfold stepT at hs
  have hFp := h.fit.parts hn
  have htl : (pC t.1 n).2.2 ≤ (pC t.1 n).1.ns.length := snd_le h.fit.kid hn
  have hfr : (pC t.1 n).2.1 ≤ (pC t.1 n).2.2 := parts_pos.1
  have hgrow : t.1.ns.length ≤ (pC t.1 n).1.ns.length := parts_len
  split at hs
  · cases hs
  · rename_i q hq
    cases hs
    obtain ⟨g1, g2, g3⟩ := listC_keep (vr := (pC t.1 n).1.vr) (ps := (pC t.1 n).1.ps) _ hq hFp fun p hp => by
      rw [List.mem_range'] at hp
      obtain ⟨i, hi, rfl⟩ := hp
      omega
    refine ⟨⟨g1, by simp only [List.length_set]; exact h.out, ?_⟩, ?_⟩
    · show N ≤ q.1.length; rw [g2]; exact Nat.le_trans h.len hgrow
    · show _ ≤ q.1.length; rw [g2]; exact hgrow
theorem TI.all {k N : Nat} : ∀ {o : List Nat} {t q : Cl × List Tm}, TI N t → (∀ n ∈ o, n < N) → termsC k o t.1 t.2 = some q → TI N q ∧ t.1.ns.length ≤ q.1.ns.length
  | [], t, q, h, _, hq => by
    have hq : some (t.1, t.2) = some q := hq
    cases hq
    exact ⟨h, Nat.le_refl _⟩
  | n :: o, t, q, h, ho, hq => by
    rw [termsC_cons] at hq
    cases e : stepT k (t.1, t.2) n with
    | none => rw [e] at hq; cases hq
    | some t' =>
      rw [e] at hq
      obtain ⟨h1, h2⟩ := h.step (t' := t') (n := n) (Nat.lt_of_lt_of_le (ho n (by simp)) h.len) e
      obtain ⟨h3, h4⟩ := TI.all h1 (fun m hm => ho m (List.mem_cons_of_mem _ hm)) hq
      exact ⟨h3, Nat.le_trans h2 h4⟩
noncomputable abbrev obT (N : Nat) (t : Cl × List Tm) : AS := (450002, AV.obj) :: (35500200, .bp 350001 0 []) :: (450003, .obj) :: (35500300, .sl 300005 0 N 2) :: (300005, .mrow 41 2 (t.2.map Tm.cv)) :: cstM t.1
theorem map_setT {out : List Tm} {n : Nat} {x : Tm} : (out.set n x).map Tm.cv = (out.map Tm.cv).set n x.cw := by rw [List.map_set, Tm.cv_eq]
noncomputable abbrev obF (N : Nat) (c : Cl) (out : List Tm) : AS := (450002, AV.obj) :: (35500200, .bp 350001 0 []) :: (450003, .obj) :: (35500300, .sl 300005 0 N 2) :: (300005, .mrow 41 2 (out.map Tm.cv)) :: cstF c
-- 
set_option maxHeartbeats 8000000 in
theorem uTerms_abs (fu : Nat) (c0 : Cl) (od : List Nat) (q : Cl × List Tm) (hq : termsC fu od.reverse c0 (List.replicate c0.ns.length tm0) = some q) (hF : FitU c0) (hlq : q.1.ns.length = c0.ns.length) (hod : ∀ n ∈ od, n < c0.ns.length) (hol : od.length ≤ 1000) : AFunO Tryz.prog 157 (cstM c0) [.bp 350001 0 [], .val (intsV od)] (.sl 300005 0 c0.ns.length 2) ((300005, .mrow 41 2 (q.2.map Tm.cv)) :: cstM q.1) := by
  obtain ⟨N, hN⟩ : ∃ N, N = c0.ns.length := ⟨_, rfl⟩
  have hl : N ≤ 1000 := by rw [hN]; exact Nat.le_trans (len_pw _) hF.big
  obtain ⟨out0, hout⟩ : ∃ out0, out0 = List.replicate N tm0 := ⟨_, rfl⟩
  obtain ⟨tk, htk⟩ : ∃ tk : Nat → Cl × List Tm, ∀ k, termsC fu (od.reverse.take k) c0 out0 = some (tk k) := by
    rw [← hN, ← hout] at hq
    exact ⟨fun k => Classical.choose (termsC_take hq k), fun k => Classical.choose_spec (termsC_take hq k)⟩
  rw [← hN] at hq hlq hod ⊢
  rw [← hout] at hq
  have hI0 : TI N (c0, out0) := ⟨hF, by rw [hout, List.length_replicate], by show N ≤ c0.ns.length; omega⟩
  have hIk : ∀ k, TI N (tk k) ∧ (tk k).1.ns.length = N := fun k => by
    have ho : ∀ n ∈ od.reverse.take k, n < N := fun n hn => hod n (List.mem_reverse.1 (List.mem_of_mem_take hn))
    obtain ⟨h1, h2⟩ := TI.all (t := (c0, out0)) hI0 ho (htk k)
    refine ⟨h1, ?_⟩
    have hrest : ∃ q', termsC fu (od.reverse.drop k) (tk k).1 (tk k).2 = some q' ∧ q' = q := by
      have happ : ∀ (a b : List Nat) (c : Cl) (o : List Tm), termsC fu (a ++ b) c o = (termsC fu a c o).bind fun t => termsC fu b t.1 t.2 := by
        intro a
        induction a with
        | nil => intro b c o; rfl
        | cons x a ih =>
          intro b c o
          rw [List.cons_append, termsC_cons, termsC_cons]
          cases stepT fu (c, o) x with
          | none => rfl
          | some t => exact ih b t.1 t.2
      have := happ (od.reverse.take k) (od.reverse.drop k) c0 out0
      rw [List.take_append_drop, hq, htk k] at this
      exact ⟨q, this.symm, rfl⟩
    obtain ⟨q', h3, rfl⟩ := hrest
    obtain ⟨_, h4⟩ := TI.all h1 (fun n hn => hod n (List.mem_reverse.1 (List.mem_of_mem_drop hn))) h3
    have := h1.len
    omega
  have hend : tk od.length = q := by
    have := htk od.length
    rw [List.take_of_length_le (by simp), hq] at this
    injection this with this
    exact this.symm
  have hstart : tk 0 = (c0, out0) := by
    have := htk 0
    have h2 : some (c0, out0) = some (tk 0) := this
    injection h2 with h2
    exact h2.symm
  have hints : (intsV od) = .lst ((od.map fun n : Nat => (n : Int)).map CV.i) := by unfold intsV; rw [List.map_map]; rfl
  have hxlen : (backL (od.map fun n : Nat => (n : Int))).length = od.length := by rw [backL_len, List.length_map]
  have hbk : ∀ W, AFun Tryz.prog W 174 [intsV od] (.val (.fn 181 0 [.ptr (.lst ((od.map fun n : Nat => (n : Int)).map CV.i))])) := fun W => by rw [hints]; exact back_abs W _
  refine afunOM_of Tryz.func157 Tryz.ntmps157 rfl rfl rfl rfl rfl rfl ?_
  intro w U hU
  refine awpM_pre (aR ?_)
  (refine nx (a_boxN 350002 (gN rfl) rfl rfl rfl rfl rfl rfl rfl rfl rfl (fun v h => by first | (rw [hW.1] at h; cases h) | (have h2 := hU _ v h; cases h2))) (by kernel_rfl) ?_)
  (refine nx (aA (gN rfl) rfl rfl rfl rfl rfl) rfl ?_)
  refine ⟨rfl, ?_⟩
  refine awpM_pre (aR ?_)
  (refine nx (aLf (gN rfl) rfl rfl rfl rfl rfl rfl rfl rfl rfl rfl rfl rfl rfl) rfl ?_)
  (refine nx (aNc (gN rfl) rfl rfl rfl rfl rfl) rfl ?_)
  (refine nx (aF (gN rfl) rfl rfl rfl rfl rfl rfl rfl rfl rfl) rfl ?_)
  (refine nx (aLf (gN rfl) rfl rfl rfl rfl rfl rfl rfl rfl rfl rfl rfl rfl rfl) rfl ?_)
  (refine nx (a_lenM (gN rfl) rfl rfl rfl rfl rfl rfl rfl) rfl ?_)
  (refine nx (a_mkM 300005 (k := N) (gN rfl) rfl rfl rfl rfl rfl rfl rfl rfl rfl rfl rfl rfl rfl rfl (by first | rfl | omega | (simp only [List.length_set, List.length_map, List.length_append, List.length_cons, List.length_nil] <;> omega) | (simp <;> omega)) (by first | rfl | omega | (simp only [List.length_set, List.length_map, List.length_append, List.length_cons, List.length_nil] <;> omega) | (simp <;> omega)) rfl (by first | rfl | omega | (simp only [List.length_set, List.length_map, List.length_append, List.length_cons, List.length_nil] <;> omega) | (simp <;> omega))) (by kernel_rfl) ?_)
  (refine nx (a_alloc1N 350003 (gN rfl) rfl rfl rfl rfl rfl (by first | exact .inl ⟨rfl, rfl⟩ | exact .inr ⟨rfl, rfl⟩) rfl rfl rfl (fun v h => by first | (rw [hW.1] at h; cases h) | (have h2 := hU _ v h; cases h2))) (by kernel_rfl) ?_)
  (refine nx (a_store_fld (gN rfl) rfl rfl rfl rfl rfl rfl rfl rfl rfl rfl rfl rfl) rfl ?_)
  refine ⟨rfl, ?_⟩
  refine awpM_post (awpM_pre (aR ?_))
  (refine nx (aM (gN rfl) rfl rfl rfl rfl rfl) rfl ?_)
  (refine nx (a_call (gN rfl) rfl rfl rfl rfl rfl (hbk w)) rfl ?_)
  refine ⟨rfl, ?_⟩
  refine awpM_block ?_
  refine awpM_wk (wk_sub (s' := (2, AV.bp 350002 0 []) :: (5, .bp 350003 0 []) :: (19, .val (.fn 181 0 [.ptr (.lst ((od.map fun n : Nat => (n : Int)).map CV.i))])) :: obT N (tk 0)) ⟨rfl, rfl, rfl, by kernel_rfl, by kernel_rfl, by kernel_rfl, by kernel_rfl, ?_, rfl, ?_, rfl, ?_, ?_, ?_, ?_, trivial⟩) ?_
  · rw [hstart, hout, List.map_replicate]; rfl
  · rw [hstart]; rfl
  · rw [hstart]; rfl
  · rw [hstart]; rfl
  · rw [hstart]; rfl
  · rw [hstart]; rfl
  refine awpM_mono (awpM_range (α := Nat × Int) (encC := encB) (xs := backL (od.map fun n : Nat => (n : Int))) (al := [(7, 21)]) (fun k => obT N (tk k)) [(2, AV.bp 350002 0 []), (5, .bp 350003 0 [])] rfl (ent_of Tryz.func181 rfl rfl) (back_hands _ (by rw [List.length_map]; omega)) rfl rfl rfl (fun x _ c hc => ?_) (fun x => rfl) ⟨rfl, rfl, trivial⟩ rfl ⟨rfl, rfl, rfl, rfl, rfl, rfl, rfl, rfl, rfl, rfl, rfl, rfl, trivial⟩ (fun k => by kernel_rfl) (fun k => by kernel_rfl) (fun k => rfl) rfl (by kernel_rfl) (by kernel_rfl) ?_) ?_
  · rcases List.mem_cons.1 hc with rfl | hc
    · exact ⟨_, rfl, rfl⟩
    · rw [List.mem_singleton] at hc; subst hc; exact ⟨_, rfl, rfl⟩
  · intro k x hx w U hU
    have hkl : k < od.length := by
      rcases Nat.lt_or_ge k od.length with h | h
      · exact h
      · rw [List.getElem?_eq_none (by omega)] at hx; cases hx
    obtain ⟨n, hn⟩ : ∃ n, od.reverse[k]? = some n := ⟨od.reverse[k]'(by simpa using hkl), List.getElem?_eq_getElem (by simpa using hkl)⟩
    have hnN : n < N := hod n (List.mem_reverse.1 (List.mem_of_getElem? hn))
    obtain ⟨i, hxe⟩ : ∃ i : Nat, x = (i, (n : Int)) := by
      rw [backL_at (by rw [List.length_map]; exact hkl)] at hx
      injection hx with hx
      refine ⟨(od.map fun n : Nat => (n : Int)).length - 1 - k, ?_⟩
      rw [← hx]
      congr 1
      rw [List.length_map, List.getD_eq_getElem?_getD, List.getElem?_map]
      rw [List.getElem?_reverse hkl] at hn
      rw [hn]; rfl
    rw [hxe]
    clear hx hxe
    obtain ⟨hI, hIl⟩ := hIk k
    have hstep : stepT fu (tk k) n = some (tk (k + 1)) := by
      have := htk (k + 1)
      rw [List.take_add_one, hn] at this
      have := (termsC_snoc fu (od.reverse.take k) n c0 out0).symm.trans this
      rw [htk k] at this
      exact this
    obtain ⟨hI1, hIl1⟩ := hIk (k + 1)
    obtain ⟨t, ht⟩ : ∃ t, t = tk k := ⟨_, rfl⟩
    obtain ⟨t', ht'⟩ : ∃ t', t' = tk (k + 1) := ⟨_, rfl⟩
    rw [← ht] at hI hIl hstep hU ⊢
    rw [← ht'] at hstep hI1 hIl1 ⊢
    clear ht ht'
    obtain ⟨c, out⟩ := t
    have hFc : FitU c := hI.fit
    have hol' : out.length = N := hI.out
    have hcl : c.ns.length = N := hIl
    have hnc : n < c.ns.length := by omega
    have hFp := hFc.parts hnc
    have hlp : (pC c n).1.ns.length ≤ 1000 := Nat.le_trans (len_pw _) hFp.big
    have hpc := uParts_abs c n hnc hFc.trm (by omega) (hFc.kid.fi hnc (by omega))
    have hft : (pC c n).2.1 ≤ (pC c n).2.2 := parts_pos.1
    have htl : (pC c n).2.2 ≤ (pC c n).1.ns.length := snd_le hFc.kid hnc
    have hgr : c.ns.length ≤ (pC c n).1.ns.length := parts_len
    unfold stepT at hstep
    simp only at hstep
    obtain ⟨c2, hc2⟩ : ∃ c2, c2 = (pC c n).1 := ⟨_, rfl⟩
    obtain ⟨fr, hfr⟩ : ∃ x, x = (pC c n).2.1 := ⟨_, rfl⟩
    obtain ⟨to, hto⟩ : ∃ x, x = (pC c n).2.2 := ⟨_, rfl⟩
    rw [← hc2] at hFp hlp hpc htl hgr hstep
    rw [← hfr, ← hto] at hpc hft hstep
    rw [← hto] at htl
    clear hfr hto hc2
    cases hlq : listC fu out (List.range' fr (to - fr)) c2.ns [] with
    | none => rw [hlq] at hstep; cases hstep
    | some lq =>
    rw [hlq] at hstep
    simp only at hstep
    have hstep := Option.some.inj hstep
    subst hstep
    have hc2N : c2.ns.length = N := by
      have h1 : lq.1.length = N := hIl1
      obtain ⟨_, h2, _⟩ := listC_keep (vr := c2.vr) (ps := c2.ps) _ hlq hFp fun p hp => by
        rw [List.mem_range'] at hp
        obtain ⟨i, hi, rfl⟩ := hp
        omega
      omega
    refine AWp.wk (wk_sub (s' := (7, AV.val (.i (n : Int))) :: (2, .bp 350002 0 []) :: (5, .bp 350003 0 []) :: obT N (c, out)) ⟨rfl, rfl, rfl, rfl, rfl, rfl, rfl, rfl, rfl, rfl, rfl, rfl, rfl, rfl, rfl, trivial⟩) ?_
    refine aB (aS (aR ?_))
    (refine nx (aLf (gN rfl) rfl rfl rfl rfl rfl rfl rfl rfl rfl rfl rfl rfl rfl) rfl ?_)
    (refine nx (aM (gN rfl) rfl rfl rfl rfl rfl) rfl ?_)
    (refine nx (a_callO (gN rfl) rfl rfl rfl rfl rfl (hpc) (by repeat (first | exact trivial | refine ⟨rfl, ?_⟩)) (by first | rfl | kernel_rfl) (by first | rfl | kernel_rfl) (by first | rfl | kernel_rfl) (by first | rfl | kernel_rfl) (hnb_of (by first | rfl | kernel_rfl))) (by kernel_rfl) ?_)
    (refine nx (aM (gN rfl) rfl rfl rfl rfl rfl) rfl ?_)
    (refine nx (aX (gN rfl) rfl rfl rfl rfl rfl rfl) rfl ?_)
    (refine nx (aX (gN rfl) rfl rfl rfl rfl rfl rfl) rfl ?_)
    (refine nx (aA (gN rfl) rfl rfl rfl rfl rfl) rfl ?_)
    (refine nx (aA (gN rfl) rfl rfl rfl rfl rfl) rfl ?_)
    show AWp _ _ _ _ _ _ _
    refine aS (aR ?_)
    (refine nx (aM (gN rfl) rfl rfl rfl rfl rfl) rfl ?_)
    (refine nx (aM (gN rfl) rfl rfl rfl rfl rfl) rfl ?_)
    (refine nx (a_sub (gN rfl) rfl rfl rfl rfl rfl rfl (by first | omega | (simp only [List.length_map, List.length_append, List.length_cons, List.length_nil] <;> omega) | (simp <;> omega))) rfl ?_)
    (refine nx (a_mk0 200031 (k := (to - fr)) (gN rfl) rfl rfl rfl rfl rfl rfl rfl rfl rfl rfl rfl rfl (by first | rfl | omega | (simp only [List.length_set, List.length_map, List.length_append, List.length_cons, List.length_nil] <;> omega) | (simp <;> omega)) (by first | rfl | omega | (simp only [List.length_set, List.length_map, List.length_append, List.length_cons, List.length_nil] <;> omega) | (simp <;> omega))) (by kernel_rfl) ?_)
    (refine nx (aA (gN rfl) rfl rfl rfl rfl rfl) rfl ?_)
    show AWp _ _ _ _ _ _ _
    refine aS (aS (aR ?_))
    (refine nx (aM (gN rfl) rfl rfl rfl rfl rfl) rfl ?_)
    (refine nx (aA (gN rfl) rfl rfl rfl rfl rfl) rfl ?_)
    show AWp _ _ _ _ _ _ _
    refine AWp.wk ((wk_sub (s' := (7, AV.val (.i (n : Int))) :: (2, .bp 350002 0 []) :: (5, .bp 350003 0 []) :: (9, .val (.i (to : Int))) :: (10, .sl 200031 0 0 2) :: (11, .val (.i (fr : Int))) :: (200031, .mrow 41 2 []) :: obT N (c2, out)) ⟨rfl, rfl, rfl, rfl, rfl, rfl, rfl, rfl, rfl, rfl, rfl, rfl, rfl, rfl, rfl, rfl, rfl, rfl, rfl, trivial⟩).trans (wk_renF 300001 400001 rfl rfl (hUno hU (by kernel_rfl)) (by kernel_rfl) (by kernel_rfl) (by kernel_rfl))) ?_
    obtain ⟨st, hst⟩ : ∃ st : Nat → List Nd → List Tm → AS, st = fun i ns1 ts => (7, AV.val (.i (n : Int))) :: (2, .bp 350002 0 []) :: (5, .bp 350003 0 []) :: (9, .val (.i (to : Int))) :: (10, .sl 200031 0 ts.length 2) :: (11, .val (.i ((fr + i : Nat) : Int))) :: (200031, .mrow 41 2 (ts.map Tm.cv)) :: obF N ⟨ns1, c2.vr, c2.ps⟩ out := ⟨_, rfl⟩
    refine aB (awp_loop (fun m s => ∃ i ns1 ts, i + m = to - fr ∧ listC fu out (List.range' (fr + i) m) ns1 ts = some lq ∧ FitU ⟨ns1, c2.vr, c2.ps⟩ ∧ ns1.length = N ∧ ts.length = i ∧ s = st i ns1 ts) (n := to - fr) (s' := st 0 c2.ns []) (by rw [hst]; exact wk_sub ⟨rfl, rfl, rfl, rfl, rfl, rfl, rfl, rfl, rfl, rfl, rfl, rfl, rfl, rfl, rfl, rfl, rfl, rfl, rfl, trivial⟩) ⟨0, c2.ns, [], by omega, hlq, hFp, hc2N, rfl, rfl⟩ ?_)
    rintro m s ⟨i2, ns1, ts, him, hlc, hF3, hl3, hts, rfl⟩
    rw [hst]
    refine aS (aS (aR ?_))
    (refine nx (aM (gN rfl) rfl rfl rfl rfl rfl) rfl ?_)
    (refine nx (aM (gN rfl) rfl rfl rfl rfl rfl) rfl ?_)
    (refine nx (a_lss (gN rfl) rfl rfl rfl rfl rfl rfl) rfl ?_)
    show AWp _ _ _ _ _ _ _
    cases m with
    | zero =>
      have hlc : some (ns1, ts) = some lq := hlc
      have hlc := Option.some.inj hlc
      subst hlc
      refine aC rfl (fun hc => ?_) (fun hc => ?_)
      · exfalso
        have : ((fr + i2 : Nat) : Int) < to := by simpa using hc
        omega
      refine aE ?_
      show AWp _ _ _ _ _ _ _
      obtain ⟨y, hy⟩ := nd_at (ns := ns1) (n := n) (by omega)
      have hy' := Nd.map_at hy
      have hlm : (ns1.map Nd.cv).length = ns1.length := List.length_map ..
      have hlo : (out.map Tm.cv).length = out.length := List.length_map ..
      obtain ⟨z, hz⟩ : ∃ z, out[n]? = some z := ⟨out[n]'(by omega), List.getElem?_eq_getElem (by omega)⟩
      have hz' := Tm.map_at hz
      have hyf : (nT ns1 n).f = y.t.f := by unfold nT; rw [getD_at hy]
      have htl' : (ts.map Tm.cv).length = ts.length := List.length_map ..
      refine AWp.wk (wk_frz 10 200031 rfl rfl rfl (.inr (by decide)) (by rw [htl']; omega) (s' := (7, AV.val (.i (n : Int))) :: (2, .bp 350002 0 []) :: (5, .bp 350003 0 []) :: obF N ⟨ns1, c2.vr, c2.ps⟩ out) ⟨rfl, rfl, rfl, rfl, rfl, rfl, rfl, rfl, rfl, rfl, rfl, rfl, rfl, rfl, rfl, trivial⟩ (by kernel_rfl)) ?_
      rw [List.drop_zero, List.take_of_length_le (by rw [htl']; omega)]
      refine aD (by kernel_rfl) (by kernel_rfl) ?_
      (refine nx (aLf (gN rfl) rfl rfl rfl rfl rfl rfl rfl rfl rfl rfl rfl rfl rfl) rfl ?_)
      (refine nx (aM (gN rfl) rfl rfl rfl rfl rfl) rfl ?_)
      (refine nx (aLf (gN rfl) rfl rfl rfl rfl rfl rfl rfl rfl rfl rfl rfl rfl rfl) rfl ?_)
      (refine nx (aNc (gN rfl) rfl rfl rfl rfl rfl) rfl ?_)
      (refine nx (aF (gN rfl) rfl rfl rfl rfl rfl rfl rfl rfl rfl) rfl ?_)
      (refine nx (aLf (gN rfl) rfl rfl rfl rfl rfl rfl rfl rfl rfl rfl rfl rfl rfl) rfl ?_)
      (refine nx (aM (gN rfl) rfl rfl rfl rfl rfl) rfl ?_)
      (refine nx (aIm (k := n) (gN rfl) rfl rfl rfl rfl rfl rfl rfl rfl rfl (by first | rfl | omega | (simp only [List.length_set, List.length_map, List.length_append, List.length_cons, List.length_nil] <;> omega) | (simp <;> omega))) rfl ?_)
      (refine nx (a_fieldM (gN rfl) rfl rfl rfl rfl rfl rfl rfl rfl rfl) rfl ?_)
      (refine nx (a_fieldM (gN rfl) rfl rfl rfl rfl rfl rfl rfl rfl rfl) rfl ?_)
      (refine nx (a_loadM (gN rfl) rfl rfl rfl rfl rfl rfl rfl rfl (hy') rfl (by first | rfl | omega | (simp only [List.length_set, List.length_map, List.length_append, List.length_cons, List.length_nil] <;> omega) | (simp <;> omega)) rfl rfl) rfl ?_)
      (refine nx (aM (gN rfl) rfl rfl rfl rfl rfl) rfl ?_)
      (refine nx (a_build (gN rfl) rfl rfl rfl rfl rfl rfl rfl rfl rfl rfl rfl) rfl ?_)
      (refine nx (aIm (k := n) (gN rfl) rfl rfl rfl rfl rfl rfl rfl rfl rfl (by first | rfl | omega | (simp only [List.length_set, List.length_map, List.length_append, List.length_cons, List.length_nil] <;> omega) | (simp <;> omega))) rfl ?_)
      (refine nx (a_storeM (gN rfl) rfl rfl rfl rfl rfl rfl (hz') rfl rfl (by first | rfl | omega | (simp only [List.length_set, List.length_map, List.length_append, List.length_cons, List.length_nil] <;> omega) | (simp <;> omega)) rfl) rfl ?_)
      refine ⟨by kernel_rfl, rfl, ?_⟩
      refine (wk_sub (s' := obF N ⟨ns1, c2.vr, c2.ps⟩ (out.set n ⟨(nT ns1 n).f, ts⟩)) ⟨rfl, rfl, rfl, rfl, ?_, rfl, rfl, rfl, rfl, rfl, rfl, rfl, trivial⟩).trans (wk_renF 400001 300001 rfl rfl (hUlow U (by decide)) (by kernel_rfl) (by kernel_rfl) (by kernel_rfl))
      rw [map_setT, hyf]; rfl
    | succ m =>
      have hp1 : fr + i2 < ns1.length := by omega
      rw [List.range'_succ, listC] at hlc
      cases hd2 : headC fu ns1 (fr + i2) with
      | none => rw [hd2] at hlc; cases hlc
      | some r2 =>
      rw [hd2] at hlc
      simp only at hlc
      obtain ⟨hF4, hl4, hr4⟩ := FitU.head hF3 hp1 hd2
      have hdc2 := uHead_abs c2.vr c2.ps fu ns1 (fr + i2) r2 hd2 hF3.up hp1 (by omega)
      have hcst : cstF ⟨r2.1, c2.vr, c2.ps⟩ = [(450001, .obj), (35500100, .sl 400001 0 ns1.length 5), (35500101, .mref 300003), (35500102, .sl 300002 0 c2.ps.length 2), (400001, .mrow 194 5 (r2.1.map Nd.cv)), (300003, .mp (c2.vr.map vrv)), (300002, .mrow 207 2 (c2.ps.map psv))] := by simp only [cstF, hl4]
      rw [hcst] at hdc2
      obtain ⟨z, hz⟩ : ∃ z, out[r2.2]? = some z := ⟨out[r2.2]'(by omega), List.getElem?_eq_getElem (by omega)⟩
      have hz' := Tm.map_at hz
      have hlo : (out.map Tm.cv).length = out.length := List.length_map ..
      have htl' : (ts.map Tm.cv).length = ts.length := List.length_map ..
      have htz := Tm.size_all ts
      have hgd : out.getD r2.2 tm0 = z := by rw [List.getD_eq_getElem?_getD, hz]; rfl
      rw [hgd] at hlc
      refine aC rfl (fun hc => ?_) (fun hc => ?_)
      case refine_2 =>
        have : ¬ ((fr + i2 : Nat) : Int) < to := by simpa using hc
        omega
      refine aK ?_
      show AWp _ _ _ _ _ _ _
      refine aS (aB (aD (by kernel_rfl) (by kernel_rfl) ?_))
      (refine nx (aM (gN rfl) rfl rfl rfl rfl rfl) rfl ?_)
      (refine nx (aLf (gN rfl) rfl rfl rfl rfl rfl rfl rfl rfl rfl rfl rfl rfl rfl) rfl ?_)
      (refine nx (aLf (gN rfl) rfl rfl rfl rfl rfl rfl rfl rfl rfl rfl rfl rfl rfl) rfl ?_)
      (refine nx (aM (gN rfl) rfl rfl rfl rfl rfl) rfl ?_)
      (refine nx (a_callOU ([(400001, .mrow 194 5 (r2.1.map Nd.cv))]) (gN rfl) rfl rfl rfl rfl rfl (hdc2) (by repeat (first | exact trivial | refine ⟨rfl, ?_⟩)) (by first | rfl | kernel_rfl) (by first | rfl | kernel_rfl) (by first | rfl | kernel_rfl) (by first | rfl | kernel_rfl) (hnb_of (by first | rfl | kernel_rfl)) (by repeat (first | exact trivial | refine ⟨rfl, ?_⟩)) (by repeat (first | exact trivial | refine ⟨.inl rfl, ?_⟩ | refine ⟨.inr rfl, ?_⟩)) (by first | rfl | kernel_rfl) (by first | rfl | kernel_rfl)) (by kernel_rfl) ?_)
      (refine nx (aIm (k := r2.2) (gN rfl) rfl rfl rfl rfl rfl rfl rfl rfl rfl (by first | rfl | omega | (simp only [List.length_set, List.length_map, List.length_append, List.length_cons, List.length_nil] <;> omega) | (simp <;> omega))) rfl ?_)
      (refine nx (a_loadM (gN rfl) rfl rfl rfl rfl rfl rfl rfl rfl (hz') rfl (by first | rfl | omega | (simp only [List.length_set, List.length_map, List.length_append, List.length_cons, List.length_nil] <;> omega) | (simp <;> omega)) rfl rfl) rfl ?_)
      (refine nx (a_bslice (gN rfl) rfl rfl rfl rfl rfl rfl rfl rfl rfl rfl rfl rfl rfl) rfl ?_)
      (refine nx (a_appM 200046 (gN rfl) rfl rfl rfl rfl rfl rfl rfl rfl rfl rfl rfl rfl rfl (by first | rfl | omega | (simp only [List.length_set, List.length_map, List.length_append, List.length_cons, List.length_nil] <;> omega) | (simp <;> omega)) (by first | assumption | exact sZ rfl | exact Tm.size_all _ | exact Bd.size_all _ | exact ints_size _ | exact bys_size _ | exact Lt.size_all _) (by first | omega | (simp only [List.length_map, List.length_append, List.length_cons, List.length_nil] <;> omega) | (simp <;> omega))) (by kernel_rfl) ?_)
      (refine nx (aA (gN rfl) rfl rfl rfl rfl rfl) rfl ?_)
      refine ⟨by kernel_rfl, ?_⟩
      show AWp _ _ _ _ _ _ _
      refine aR ?_
      (refine nx (aM (gN rfl) rfl rfl rfl rfl rfl) rfl ?_)
      (refine nx (a_add (gN rfl) rfl rfl rfl rfl rfl rfl (by first | omega | (simp only [List.length_map, List.length_append, List.length_cons, List.length_nil] <;> omega) | (simp <;> omega))) rfl ?_)
      (refine nx (aA (gN rfl) rfl rfl rfl rfl rfl) rfl ?_)
      refine ⟨m, st (i2 + 1) r2.1 (ts ++ [z]), by omega, ⟨i2 + 1, r2.1, ts ++ [z], by omega, by rw [show fr + (i2 + 1) = fr + i2 + 1 by omega]; exact hlc, hF4, by omega, by rw [List.length_append]; simp; omega, by rw [hst]⟩, ?_⟩
      rw [hst]
      refine (wk_sub (s' := (7, AV.val (.i (n : Int))) :: (2, .bp 350002 0 []) :: (5, .bp 350003 0 []) :: (9, .val (.i (to : Int))) :: (10, .sl 200046 0 (ts ++ [z]).length 2) :: (11, .val (.i ((fr + (i2 + 1) : Nat) : Int))) :: (200046, .mrow 41 2 ((ts ++ [z]).map Tm.cv)) :: obF N ⟨r2.1, c2.vr, c2.ps⟩ out) ⟨rfl, rfl, rfl, rfl, ?_, rfl, ?_, rfl, rfl, rfl, rfl, rfl, rfl, ?_, rfl, rfl, rfl, rfl, rfl, trivial⟩).trans (wk_ren 200046 200031 rfl rfl (by kernel_rfl) (by kernel_rfl))
      · rw [List.length_append, ← htl']; rfl
      · rw [List.map_append, List.map_singleton, Tm.cv_eq]; rfl
      · show _ = some (AV.sl 400001 0 r2.1.length 5); rw [hl4]; rfl
  · rintro e s' g ⟨rfl, rfl⟩
    rw [hxlen, hend]
    refine ⟨rfl, rfl, ?_⟩
    refine aS (aR ?_)
    (refine nx (aLf (gN rfl) rfl rfl rfl rfl rfl rfl rfl rfl rfl rfl rfl rfl rfl) rfl ?_)
    (refine nx (aA (gN rfl) rfl rfl rfl rfl rfl) rfl ?_)
    show AWp _ _ _ _ _ _ _
    refine aT ⟨⟨.inr rfl, [(4, AV.sl 300005 0 N 2), (300005, .mrow 41 2 (q.2.map Tm.cv))] ++ cstM q.1, ?_, rfl, ⟨rfl, rfl, rfl, rfl, rfl, rfl, rfl, rfl, trivial⟩, rfl⟩, rfl⟩
    exact wk_sub ⟨rfl, rfl, rfl, rfl, rfl, rfl, rfl, rfl, rfl, rfl, trivial⟩
end Go.Proofs.YteegmcfobgpemaaGreat
namespace Go.Proofs.YteegmcfobgpemaaGreat
open Go.RowKit Go.MapKept
open Go.ChangeMaps (setBlock)
set_option linter.unusedVariables false
set_option linter.unusedSimpArgs false
section
variable {P : Program} {w0 : World} {U0 : UX} {nt : Nat} {ops : Array Oper} {o : Oper} {S : Nat → Option AV} {gs : List Nat} {d : Nat} {s : AS} {a : Act} {w : World} {D : Nat → Nat → Prop} {hv : Nat → Value}

abbrev AV.stm (l : List CV) (b clock : Nat) (bs : List Nat) : AV := ⟨22, .lst l, 0, 0, b :: clock :: bs⟩
abbrev AV.itr (b since c0 : Nat) (seen : List Nat) : AV := ⟨21, .row [], 0, 0, b :: since :: c0 :: seen⟩

theorem SimG.retag (h : SimG w0 U0 nt s a w D hv) {n : Nat} (hok : oKey n) {av0 av : AV} (hs : look s n = some av0) (h6 : av0.t ≠ 6) (h7 : av0.t ≠ 7) (h9 : av0.t ≠ 9) (g6 : av.t ≠ 6) (g7 : av.t ≠ 7) (g9 : av.t ≠ 9) (hoc : OC (Us w0 U0 D) w hv (LiveN s) av (hv n)) : SimG w0 U0 nt ((n, av) :: s) a w D hv := by
  have hok' := hok
  unfold oKey at hok'
  have hlk : ∀ {k}, k ≠ n → look ((n, av) :: s) k = look s k := fun {k} hk => lN (Ne.symm hk)
  have hl : ∀ m e, Live ((n, av) :: s) m e ↔ Live s m e := fun m e => by
    unfold Live
    by_cases e1 : m = n
    · subst e1
      rw [lS, hs]
      constructor
      · rintro ⟨h1, _⟩; injection h1 with h1; rw [h1] at g6; exact absurd rfl g6
      · rintro ⟨h1, _⟩; injection h1 with h1; rw [h1] at h6; exact absurd rfl h6
    · rw [hlk e1]
  have hl2 : LiveN ((n, av) :: s) = LiveN s := by funext k; simp only [LiveN, hl]
  refine ⟨h.below, h.dfr, h.size, fun d' av' h1 h2 => ?_, fun m o' av' h1 h2 h3 h4 => ?_, fun m o1 o2 av1 av2 h1 h2 => ?_, fun k av' h1 h2 => ?_, fun k av' g h1 h2 h3 h4 => ?_, fun k k' av1 av2 g h1 h2 h3 h4 h5 h8 h10 => ?_, h.fix, h.dlt⟩
  · rw [hlk (by omega)] at h1; rw [hl2]; exact h.slot d' av' h1 h2
  · rw [hlk (by unfold fKey; omega)] at h1
    have hne : 100000 + m ≠ n := fun e => by rw [e, lS] at h3; injection h3 with h3; rw [h3] at g9; exact absurd rfl g9
    rw [hlk hne] at h3
    rw [hl2]
    exact h.fld m o' av' h1 h2 h3 h4
  · rw [hlk (by unfold fKey; omega)] at h1 h2
    exact h.fdis m o1 o2 av1 av2 h1 h2
  · rw [hl2]
    by_cases e1 : k = n
    · subst e1; rw [lS] at h1; cases h1; exact hoc
    · rw [hlk e1] at h1; exact h.obj k av' h1 h2
  · by_cases e1 : k = n
    · subst e1
      rw [lS] at h1; cases h1
      obtain ⟨f1, f2, f3⟩ := h.blk k av0 g hs h2 h7 h4
      refine ⟨?_, f2, fun o ho hd => f3 o (fun e => absurd e h6) hd⟩
      unfold Mn lcl at f1 ⊢
      rcases f1 with f1 | ⟨f1, f1'⟩
      · exact .inl f1
      · refine .inr ⟨?_, f1'⟩
        cases e2 : Nat.blt k 300000 with
        | true => rw [e2] at f1; exact absurd rfl f1
        | false => exact g6
    · rw [hlk e1] at h1; exact h.blk k av' g h1 h2 h3 h4
  · have conv : ∀ q (aq : AV), look ((n, av) :: s) q = some aq → aq.t ≠ 7 → ∃ aq', look s q = some aq' ∧ aq'.t ≠ 7 := fun q aq f1 f2 => by
      by_cases e1 : q = n
      · subst e1; exact ⟨av0, hs, h7⟩
      · rw [hlk e1] at f1; exact ⟨aq, f1, f2⟩
    obtain ⟨a1, b1, c1⟩ := conv k av1 h1 h5
    obtain ⟨a2, b2, c2⟩ := conv k' av2 h2 h8
    exact h.disj k k' a1 a2 g b1 b2 h3 h4 c1 c2 h10
theorem AWp.stamps {c : Code} {Q : Exit → AS → Prop} (n : Nat) {l : List CV} (hn : (Nat.ble 200000 n && Nat.blt n 450000) = true) (hm : look s n = some (.mp l)) (h : ∀ b clock bs, bs.length = l.length → bs.Nodup → (∀ x ∈ bs, x < clock) → AWp P w0 U0 nt c Q ((n, .stm l b clock bs) :: s)) : AWp P w0 U0 nt c Q s := by
  intro M a w ⟨D, hv, hS⟩
  have hrn := rnF hn
  have hok : oKey n := by unfold RN at hrn; unfold oKey; omega
  obtain ⟨g, es, clock, g1, g2, g3, g4, g5⟩ : ∃ g es clock, hv n = .map (some g) ∧ w.heap[g]? = some (.map es clock) ∧ Ents (Us w0 U0 D) w l es.toList ∧ (∀ e ∈ es, e.born < clock) ∧ (es.toList.map (fun e : MapEntry => e.born)).Nodup := hS.obj n _ hm hok
  refine h g clock (es.toList.map (fun e : MapEntry => e.born)) (by rw [List.length_map, ents_len g3]) g5 (fun x hx => ?_) M a w ⟨D, hv, hS.retag hok hm (fun e => by cases e) (fun e => by cases e) (fun e => by cases e) (fun e => by cases e) (fun e => by cases e) (fun e => by cases e) ?_⟩
  · obtain ⟨e, he, rfl⟩ := List.mem_map.1 hx
    exact g4 e (by simpa using he)
  · exact ⟨⟨(fun e => by cases e), (fun e => by cases e)⟩, (fun e => by cases e), (fun e => by cases e), fun _ => ⟨g, clock, es, g1, rfl, g2, g3, g4, g5⟩⟩
theorem wk_unstm (n : Nat) {l : List CV} {b clock : Nat} {bs : List Nat} (hn : (Nat.ble 200000 n && Nat.blt n 450000) = true) (hm : look s n = some (.stm l b clock bs)) : Wk w0 U0 nt s ((n, .mp l) :: s) := by
  rintro a w ⟨D, hv, hS⟩
  have hrn := rnF hn
  have hok : oKey n := by unfold RN at hrn; unfold oKey; omega
  obtain ⟨g, ck, es, g1, g2, g3, g4, g5, g6⟩ := (show OX _ _ _ _ from hS.obj n _ hm hok).2.2.2 rfl
  exact ⟨D, hv, hS.retag hok hm (fun e => by cases e) (fun e => by cases e) (fun e => by cases e) (fun e => by cases e) (fun e => by cases e) (fun e => by cases e) ⟨g, es, ck, g1, g3, g4, g5, g6⟩⟩

theorem a_rangeM (nn : Nat) (hg : Gd w0 U0 nt ops o gs S) (hd : o.dst = some d) (hn : Nat.blt d nt = true) (h5 : Nat.blt d 100000 = true) {x : Operand} {t kt et : TypeId} {n b clock : Nat} {l : List CV} {bs : List Nat} (ho : o.op = .range t x) (hu : P.underlying t = some (.map kt et)) (hx : ev S x = some (.mref n)) (hm' : S n = some (.stm l b clock bs)) (hn2 : (Nat.ble 200000 nn && Nat.blt nn 400000) = true) : AOp P w0 U0 nt ops o (gs ++ (rd x ++ [n])) [(nn, [])] S [(d, .mref nn), (nn, .itr b clock clock [])] := by
  intro s hs hN a w ⟨D, hv, h⟩ Q K hK
  rw [if_pos (hg s (fun k hk => hs k (List.mem_append_left _ hk)) a w D hv h)]
  have hrn := rnB hn2
  obtain ⟨hrm, h1, _⟩ : RN n ∧ a.eval x = hv n ∧ (a.eval x).oneCell' = true := ev_rep h (fun k hk => hs k (List.mem_append_right _ (List.mem_append_left _ hk))) hx
  have hok : oKey n := by unfold RN at hrm; unfold oKey; omega
  obtain ⟨g, ck, es, g1, g2, g3, g4, g5, g6⟩ := (show OX _ _ _ _ from h.obj n _ ((hs n (by simp)).trans hm') hok).2.2.2 rfl
  have hbb : b = g ∧ clock = ck := by
    have g2 : b :: clock :: bs = g :: ck :: es.toList.map (·.born) := g2
    injection g2 with g2 g2'
    injection g2' with g2'
    exact ⟨g2, g2'⟩
  obtain ⟨rfl, rfl⟩ := hbb
  rw [g1] at h1
  have he : (execOp a.eval o).run P w = .ok (.value (.pointer (some ⟨w.heap.size, 0, none⟩))) (w.alloc (.mapIter (some b) clock #[] clock)) := by
    have hge := Go.MapKept.run_getObj_map (P := P) g3
    generalize a.eval = ρ at h1 ⊢
    simp [execOp, ho, Instr.range, run_underlying hu, h1, hge, run_newObj_alloc]
  unfold Oper.wp
  rw [he, Oper.upon_value, hd]
  have hb' : Below w.heap.size w (w.alloc (.mapIter (some b) clock #[] clock)) := (Below.refl _ _).alloc (Nat.le_refl _) _
  have hG := h.newrow (X := fun _ => False) (avn := .itr b clock clock []) (v' := .pointer (some ⟨w.heap.size, 0, none⟩)) (D' := D) hrn (hN (nn, []) (by simp)).nr (fun e => by cases e) ((BelowX.refl _ w).step hb') (fun b hb => hb.elim) (fun g hg => by
      have hg : some w.heap.size = some g := hg
      cases hg
      refine ⟨.inr (Nat.le_refl _), by simp, fun o _ hd => ?_⟩
      have := h.dlt _ _ hd
      omega) (fun b o hd => .inl hd) (fun b o hd => Nat.lt_of_lt_of_le (h.dlt _ _ hd) hb'.size) (us_keep h.dlt hb' fun _ _ h => h) (fun hv lv => ⟨⟨(fun e => by cases e), (fun e => by cases e)⟩, (fun e => by cases e), fun _ => ⟨w.heap.size, b, clock, clock, [], rfl, rfl, alloc_new _ _⟩, (fun e => by cases e)⟩)
  refine hK _ _ ⟨_, _, hG.put (bL hn) (bL h5) ⟨RW.rn hrn, ?_, rfl⟩⟩
  simp
theorem a_entryM (hg : Gd w0 U0 nt ops o gs S) (hd : o.dst = some d) (hn : Nat.blt d nt = true) (h5 : Nat.blt d 100000 = true) {x : Operand} {n nn b since clock j z : Nat} {k : IntKind} {i : Int} {vc : CV} {l : List CV} {bs seen : List Nat} (ho : o.op = .entry x) (hx : ev S x = some (.mref nn)) (hI : S nn = some (.itr b since clock (seen ++ [z]))) (hm' : S n = some (.stm l b clock bs)) (hrn : (Nat.ble 200000 n && Nat.blt n 450000) = true) (hz : bs[j]? = some z) (hl : l[j]? = some (.row [.sc (.int k i), vc])) : AOp P w0 U0 nt ops o (gs ++ (rd x ++ [nn, n])) [] S [(d, .tup [.sc (.int k i), vc])] :=
  aop_val hg hd hn h5 (fun k hk => List.mem_append_left _ hk) fun s hs a w D hv hm => by
    obtain ⟨hrm, h1, _⟩ : RN nn ∧ a.eval x = hv nn ∧ (a.eval x).oneCell' = true := ev_rep hm (fun k hk => hs k (List.mem_append_right _ (List.mem_append_left _ hk))) hx
    have hok : oKey nn := by unfold RN at hrm; unfold oKey; omega
    have hrn := rnF hrn
    have hok2 : oKey n := by unfold RN at hrn; unfold oKey; omega
    obtain ⟨r, b1, s1, c1, seen1, f1, f2, f3⟩ := (show OX _ _ _ _ from hm.obj nn _ ((hs nn (by simp)).trans hI) hok).2.2.1 rfl
    obtain ⟨g, ck, es, g1, g2, g3, g4, g5, g6⟩ := (show OX _ _ _ _ from hm.obj n _ ((hs n (by simp)).trans hm') hok2).2.2.2 rfl
    have f2 : b :: since :: clock :: (seen ++ [z]) = b1 :: s1 :: c1 :: seen1 := f2
    injection f2 with f2 f2'
    injection f2' with f2' f2''
    injection f2'' with f2'' f2'''
    subst f2; subst f2'; subst f2''; subst f2'''
    have g2 : b :: clock :: bs = g :: ck :: es.toList.map (·.born) := g2
    injection g2 with g2 g2'
    injection g2' with g2' g2''
    subst g2; subst g2'; subst g2''
    obtain ⟨e, e1, e2⟩ := ents_at g4 hl
    have hez : e.born = z := by rw [List.getElem?_map, e1] at hz; injection hz
    have hr : w.heap[r]? = some (.mapIter (some b) since (seen.toArray.push e.born) clock) := by rw [f3, hez]; simp
    have hrun := run_entry_at (P := P) w r b since seen.toArray es clock e hr g3 (List.mem_of_getElem? e1) g6
    rw [f1] at h1
    obtain ⟨kc, vc', j1, j2, j3, j4⟩ := e2
    injection j1 with _ _ j1
    injection j1 with j1 j1'
    injection j1' with j1'
    subst j1; subst j1'
    refine ⟨.tuple #[e.key, e.val], ?_, [e.key, e.val], rfl, e.key, [e.val], rfl, ?_, e.val, [], rfl, j4, rfl⟩
    · generalize a.eval = ρ at h1 ⊢
      simp [execOp, ho, h1, hrun]
    · rw [j3]; exact vrep_sc.2 ⟨rfl, rfl⟩
theorem awp_nextM {id d1 : Nat} {o1 : Oper} {l2 : List Oper} {Q : Exit → AS → Prop} {it : Operand} {n nn b since c0 clock : Nat} {l : List CV} {bs seen : List Nat} {k : IntKind} (hd1 : o1.dst = some d1) (ho1 : o1.op = .next it false) (hg1 : o1.guard = none) (hn1 : Nat.blt d1 nt = true) (h51 : Nat.blt d1 100000 = true) (hit : ev (look s) it = some (.mref nn)) (hI : look s nn = some (.itr b since c0 seen)) (hM : look s n = some (.stm l b clock bs)) (hrn : (Nat.ble 200000 n && Nat.blt n 450000) = true) (hik : IntKeys k l) (hsince : ∀ x ∈ bs, x < since) (hsc : since ≤ c0)
    (hend : (∀ x ∈ bs, x ∈ seen) → Run P w0 U0 nt (o1 :: l2).toArray l2 ((d1, .tup [.b false]) :: s) [] fun s' _ => Q .normal s')
    (hgo : ∀ (j x : Nat) (i : Int) (vc : CV), bs[j]? = some x → l[j]? = some (.row [.sc (.int k i), vc]) → x ∉ seen → Run P w0 U0 nt (o1 :: l2).toArray l2 ((d1, .tup [.b true, .sc (.int k i), vc]) :: (nn, .itr b since clock (seen ++ [x])) :: s) [] fun s' _ => Q .normal s') :
    AWp P w0 U0 nt (.region id (o1 :: l2).toArray false) Q s := by
  intro M a w ⟨D, hv, h⟩
  refine wpIn_region_lit ?_
  have hrn := rnF hrn
  have hok2 : oKey n := by unfold RN at hrn; unfold oKey; omega
  obtain ⟨hrm, h1, _⟩ : RN nn ∧ a.eval it = hv nn ∧ (a.eval it).oneCell' = true := ev_rep h (fun k _ => rfl) hit
  have hok : oKey nn := by unfold RN at hrm; unfold oKey; omega
  obtain ⟨r, b1, s1, c1, seen1, f1, f2, f3⟩ := (show OX _ _ _ _ from h.obj nn _ hI hok).2.2.1 rfl
  obtain ⟨g, ck, es, g1, g2, g3, g4, g5, g6⟩ := (show OX _ _ _ _ from h.obj n _ hM hok2).2.2.2 rfl
  have f2 : b :: since :: c0 :: seen = b1 :: s1 :: c1 :: seen1 := f2
  injection f2 with f2 f2'
  injection f2' with f2' f2''
  injection f2'' with f2'' f2'''
  subst f2; subst f2'; subst f2''; subst f2'''
  have g2 : b :: clock :: bs = g :: ck :: es.toList.map (·.born) := g2
  injection g2 with g2 g2'
  injection g2' with g2' g2''
  subst g2; subst g2'; subst g2''
  rw [f1] at h1
  unfold wpListIn
  rw [if_pos (by simp [Region.wanted, hg1])]
  refine ⟨fun _ _ => trivial, ?_⟩
  rw [wd_eval, Oper.semAt_eq _ _ _ (fun c hc => by rw [ho1] at hc; cases hc)]
  have hold : ∀ x ∈ es.toList, x.born < since := fun x hx => hsince _ (List.mem_map.2 ⟨x, hx, rfl⟩)
  rcases run_next_at (P := P) w o1.type r b since c0 seen.toArray es clock f3 g3 hold hsc with ⟨e0, e1⟩ | ⟨e, he, w1, hw1, e1⟩
  · have hrun : (execOp a.eval o1).run P w = .ok (.value (.tuple #[.bool false])) w := by
      generalize a.eval = ρ at h1 ⊢
      simp [execOp, ho1, h1, e1]
    rw [hrun]
    show wpListIn _ _ _ _ _ _ _ _
    rw [hd1, ← wd_put]
    refine run_list (hend fun x hx => ?_) (fun s' t' a w h1 h2 => ⟨a, rfl, s', h1, h2⟩) _ _ ⟨D, hv, h.put (bL hn1) (bL h51) ⟨[.bool false], rfl, .bool false, [], rfl, vrep_sc.2 ⟨rfl, rfl⟩, rfl⟩⟩
    obtain ⟨e, he, rfl⟩ := List.mem_map.1 hx
    apply Classical.byContradiction
    intro hns
    have hmem : e ∈ leftOf es seen.toArray := by
      unfold leftOf
      simp
      exact ⟨by simpa using he, hns⟩
    have := Array.size_pos_of_mem hmem
    omega
  · have hrun : (execOp a.eval o1).run P w = .ok (.value (.tuple #[.bool true, e.key, e.val])) (setBlock w1 r (.mapIter (some b) since (seen.toArray.push e.born) clock)) := by
      generalize a.eval = ρ at h1 ⊢
      simp [execOp, ho1, h1, e1]
    rw [hrun]
    show wpListIn _ _ _ _ _ _ _ _
    rw [hd1, ← wd_put]
    have he2 : e ∈ es.toList ∧ e.born ∉ seen := by
      unfold leftOf at he
      simp at he
      exact ⟨by simpa using he.1, he.2⟩
    obtain ⟨j, hj⟩ := List.getElem?_of_mem he2.1
    have hlj : ∃ c, l[j]? = some c ∧ Ent (Us w0 U0 D) w c e := by
      have hlen := ents_len g4
      have hjl : j < l.length := by
        rcases Nat.lt_or_ge j es.toList.length with h | h
        · rw [← hlen]; exact h
        · rw [List.getElem?_eq_none h] at hj; cases hj
      obtain ⟨e', k1, k2⟩ := ents_at g4 (List.getElem?_eq_getElem hjl)
      rw [hj] at k1
      cases k1
      exact ⟨_, List.getElem?_eq_getElem hjl, k2⟩
    obtain ⟨c, hc, hce⟩ := hlj
    obtain ⟨i, vc, rfl⟩ := hik c (List.mem_of_getElem? hc)
    obtain ⟨kc, vc', j1, j2, j3, j4⟩ := hce
    injection j1 with _ _ j1
    injection j1 with j1 j1'
    injection j1' with j1'
    subst j1; subst j1'
    have h2 : SimG w0 U0 nt s a w1 D hv := by
      rcases hw1 with rfl | rfl
      · exact h
      · exact h.grow' (Below.drew (Below.refl _ _))
    have hheap : w1.heap = w.heap := by rcases hw1 with rfl | rfl <;> rfl
    have hrlt : r < w1.heap.size := by rw [hheap]; exact (Array.getElem?_eq_some_iff.1 f3).1
    have h3 := h2.upd (av := .itr b since clock (seen ++ [e.born])) (w' := setBlock w1 r (.mapIter (some b) since (seen.toArray.push e.born) clock)) hok hI (fun e => by cases e) (fun e => by cases e) rfl (fun g hh o ho => hh o fun e => by cases e) (fun e => by cases e) (g := r) (by rw [f1]; rfl) rfl rfl rfl (by simp [setBlock]) (fun q hq => by simp [setBlock, Array.getElem?_setIfInBounds_ne (Ne.symm hq)]) fun hkp => ⟨⟨(fun e => by cases e), (fun e => by cases e)⟩, (fun e => by cases e), fun _ => ⟨r, b, since, clock, seen ++ [e.born], f1, rfl, by simp [setBlock, hrlt]⟩, (fun e => by cases e)⟩
    have hval : VRep (Us w0 U0 D) (setBlock w1 r (.mapIter (some b) since (seen.toArray.push e.born) clock)) vc e.val := by
      refine j4.keep fun b' o' u hu hcell => ⟨hu, ?_⟩
      have hne : b' ≠ r := fun e => by
        subst e
        simp [World.cell?, f3] at hcell
      rw [World.cell?_of_block (w := w) (w' := setBlock w1 r _) (by simp [setBlock, Array.getElem?_setIfInBounds_ne (Ne.symm hne), hheap])]
      exact hcell
    refine run_list (hgo j e.born i vc (by rw [List.getElem?_map, hj]; rfl) hc he2.2) (fun s' t' a w h1 h2 => ⟨a, rfl, s', h1, h2⟩) _ _ ⟨D, hv, h3.put (bL hn1) (bL h51) ⟨[.bool true, e.key, e.val], rfl, .bool true, _, rfl, vrep_sc.2 ⟨rfl, rfl⟩, e.key, _, rfl, ?_, e.val, [], rfl, hval, rfl⟩⟩
    rw [j3]; exact vrep_sc.2 ⟨rfl, rfl⟩
end
end Go.Proofs.YteegmcfobgpemaaGreat
namespace Go.Proofs.YteegmcfobgpemaaGreat
open Go.RowKit Go.MapKept
set_option linter.unusedVariables false
set_option linter.unusedSimpArgs false
def AFunE {Sg : Type} (P : Program) (f : FuncId) (pre : AS) (args : List AV) (R : Sg → Prop) (r : Sg → AV) (post : Sg → AS) : Prop :=
  EntF P f ∧ ∀ (U : UX) (w : World) (hv : Nat → Value) (a0 : Act) (vs : List Value), (∀ k v, U.f k = some v → hasN (kO pre) k = true) → SimG w U 0 pre a0 w (fun _ _ => False) hv → AVReps (Us w U (fun _ _ => False)) w hv (LiveN pre) args vs →
    Calls P f vs.toArray w fun e w' => ∃ σ, R σ ∧ ∃ v D' hv' a', e = .returned v ∧ SimG w U 0 (post σ) a' w' D' hv' ∧ AVRep (Us w U D') w' hv' (LiveN (post σ)) (r σ) v
section
variable {P : Program} {w0 : World} {U0 : UX} {nt : Nat} {ops : Array Oper} {o : Oper} {S : Nat → Option AV} {gs : List Nat} {d : Nat} {s : AS} {a : Act} {w : World} {D : Nat → Nat → Prop} {hv : Nat → Value}

theorem afunE_of {Sg : Type} {R : Sg → Prop} {r : Sg → AV} {post : Sg → AS} {f : FuncId} {fn : Func} {c : Code} {pre : AS} {args : List AV} (hf : P.funcs[f]? = some fn) (hn : fn.ntmps = nt) (hname : (fn.name == "runtime.NumGoroutine") = false) (hb : fn.body = some c) (hl : Nat.ble args.length nt = true) (hnt : Nat.blt nt 100000 = true) (hpre : (kO pre).all (Nat.ble 100000) = true) (hpost : ∀ σ, (kO (post σ)).all (Nat.ble 100000) = true)
    (h : ∀ (w : World) (U : UX), (∀ k v, U.f k = some v → hasN (kO pre) k = true) → AWp P w U nt c (fun e s' => (e = .normal ∨ e = .ret) ∧ ∃ σ, R σ ∧ EndO P w U nt fn s' (r σ) (post σ)) (argA args 0 ++ pre)) : AFunE P f pre args R r post := by
  refine ⟨ent_of hf hname (by rw [hb]; rfl), fun U w hv a0 vs hU hpS hargs => ?_⟩
  have hlen := hargs.len
  refine calls_of_wp hf hb ?_
  have hle := Nat.le_of_ble_eq_true hl
  have hnt := bL hnt
  have hlow : ∀ {k av}, look pre k = some av → 100000 ≤ k := fun {k av} h1 => by
    rw [List.all_eq_true] at hpre
    exact Nat.le_of_ble_eq_true (hpre k (mem_keys h1))
  have hlk : ∀ {k}, 100000 ≤ k → look (argA args 0 ++ pre) k = look pre k := fun {k} h1 => by
    rw [look_append]
    cases h2 : look (argA args 0) k with
    | none => rfl
    | some av =>
      obtain ⟨_, h3⟩ := look_argA h2
      rw [Nat.sub_zero, List.getElem?_eq_none (by omega)] at h3
      cases h3
  have hlive : LiveN (argA args 0 ++ pre) = LiveN pre := by
    funext n
    unfold LiveN Live
    apply propext
    constructor
    · rintro (h1 | ⟨e, h1, h2, h3⟩)
      · exact .inl h1
      · rw [hlk (by omega)] at h1; exact .inr ⟨e, h1, h2, h3⟩
    · rintro (h1 | ⟨e, h1, h2, h3⟩)
      · exact .inl h1
      · exact .inr ⟨e, by rw [hlk (by omega)]; exact h1, h2, h3⟩
  have hs : Sim w U nt (argA args 0 ++ pre) { tmps := vs.toArray ++ Array.replicate (fn.ntmps - vs.toArray.size) undef, defers := [] } w := by
    refine ⟨fun _ _ => False, hv, hpS.below, rfl, by simp [hn]; omega, fun d av h1 h2 => ?_, fun n o av h1 h2 h3 h4 => ?_, fun n o o' av av' h1 h2 => ?_, fun k av h1 h2 => ?_, fun k av g h1 h2 => ?_, fun k k' av av' g h1 h2 h3 h4 => ?_, hpS.fix, fun b o hd => hd.elim⟩
    · rw [look_append] at h1
      cases h3 : look (argA args 0) d with
      | none =>
        rw [h3] at h1
        have := hlow h1
        omega
      | some av' =>
        rw [h3] at h1
        cases h1
        obtain ⟨_, h4⟩ := look_argA h3
        rw [Nat.sub_zero] at h4
        obtain ⟨v, h6, h7⟩ := hargs.at h4
        have hdl : d < vs.length := by
          rcases Nat.lt_or_ge d vs.length with h | h
          · exact h
          · rw [List.getElem?_eq_none h] at h6; cases h6
        rw [hlive]
        refine ⟨v, ?_, h7⟩
        rw [Array.getElem?_append_left (by simpa using hdl)]
        simpa using h6
    · rw [hlk (by unfold fKey; omega)] at h1
      rw [hlk (by omega)] at h3
      rw [hlive]
      exact hpS.fld n o av h1 h2 h3 h4
    · rw [hlk (by unfold fKey; omega)] at h1 h2
      exact hpS.fdis n o o' av av' h1 h2
    · rw [hlk h2.1] at h1; rw [hlive]; exact hpS.obj k av h1 h2
    · rw [hlk h2.1] at h1; exact hpS.blk k av g h1 h2
    · rw [hlk h3.1] at h1; rw [hlk h4.1] at h2; exact hpS.disj k k' av av' g h1 h2 h3 h4
  refine wp_mono ((h w U hU ⟨none, []⟩ _ w hs).wp rfl (fun e a w ⟨s, _, h⟩ => h.df)) ?_
  rintro e a' w' ⟨s', ⟨h1, σ, hσ, s2, g1, g2, g3⟩, h3⟩
  obtain ⟨D', hv', h4⟩ := g1 a' w' h3
  obtain ⟨v, h5, h6⟩ := resA_run h4 g2
  have hS := h4.sub g3.sub
  have hpost := hpost σ
  have hlow2 : ∀ {k av}, look (post σ) k = some av → 100000 ≤ k := fun {k av} h1 => by
    rw [List.all_eq_true] at hpost
    exact Nat.le_of_ble_eq_true (hpost k (mem_keys h1))
  have hS0 : SimG w U 0 (post σ) ⟨#[], []⟩ w' D' hv' := ⟨hS.below, rfl, rfl, fun d av h7 h8 => by have := hlow2 h7; omega, hS.fld, hS.fdis, hS.obj, hS.blk, hS.disj, hS.fix, hS.dlt⟩
  rcases h1 with rfl | rfl
  · exact ⟨h4.dfr, v, h5, σ, hσ, v, D', hv', _, rfl, hS0, h6.move (fun _ _ _ h1 h2 => ⟨h1, h2⟩) (fun _ h7 => h7.imp id fun ⟨e, he⟩ => ⟨e, g3.sub _ _ he.1, he.2⟩) fun _ => rfl⟩
  · exact ⟨h4.dfr, v, h5, σ, hσ, v, D', hv', _, rfl, hS0, h6.move (fun _ _ _ h1 h2 => ⟨h1, h2⟩) (fun _ h7 => h7.imp id fun ⟨e, he⟩ => ⟨e, g3.sub _ _ he.1, he.2⟩) fun _ => rfl⟩
theorem a_lenMp (hg : Gd w0 U0 nt ops o gs S) (hd : o.dst = some d) (hn : Nat.blt d nt = true) (h5 : Nat.blt d 100000 = true) {x : Operand} {ts : Array TypeId} {t kt et : TypeId} {n : Nat} {l : List CV} (ho : o.op = .call { callee := .builtin .len, args := #[x], argTypes := ts }) (ht : ts[0]? = some t) (hu : P.underlying t = some (.map kt et)) (hx : ev S x = some (.mref n)) (hm' : S n = some (.mp l)) : AOp P w0 U0 nt ops o (gs ++ (rd x ++ [n])) [] S [(d, .val (.i l.length))] :=
  aop_val hg hd hn h5 (fun k hk => List.mem_append_left _ hk) fun s hs a w D hv hm => by
    obtain ⟨hrn, h1, _⟩ : RN n ∧ a.eval x = hv n ∧ (a.eval x).oneCell' = true := ev_rep hm (fun k hk => hs k (List.mem_append_right _ (List.mem_append_left _ hk))) hx
    have hok : oKey n := by unfold RN at hrn; unfold oKey; omega
    obtain ⟨g, es, clock, g1, g2, g3, g4, g5⟩ : ∃ g es clock, hv n = .map (some g) ∧ w.heap[g]? = some (.map es clock) ∧ Ents (Us w0 U0 D) w l es.toList ∧ (∀ e ∈ es, e.born < clock) ∧ (es.toList.map (fun e : MapEntry => e.born)).Nodup := hm.obj n _ ((hs n (by simp)).trans hm') hok
    rw [g1] at h1
    have hge := Go.MapKept.run_getObj_map (P := P) g2
    have hlen : es.size = l.length := by have := ents_len g3; simpa using this
    refine ⟨.int .i64 (l.length : Int), ?_, avrep_sc rfl⟩
    generalize a.eval = ρ at h1 ⊢
    simp [execOp, ho, resolve, invoke, builtin, Builtin.len_, ht, h1, hge, hlen, goInt, run_underlying hu, go_sem]
theorem run_appE {M : Md} {ops : Array Oper} {Q : Exit → Act → World → Prop} {l2 : List Oper} : ∀ {l : List Oper} {s : AS} {acc : List (List Nat × List (Nat × List Nat) × AS)} {K : AS → List (List Nat × List (Nat × List Nat) × AS) → Prop}, Run P w0 U0 nt ops l s acc K → (∀ s' t' a w, K s' t' → Sim w0 U0 nt s' a w → wpListIn (wideR M.r) 1 P ops Q l2 (wdA a M.ds) w) → ∀ a w, Sim w0 U0 nt s a w → wpListIn (wideR M.r) 1 P ops Q (l ++ l2) (wdA a M.ds) w
  | [], s, acc, K, h, hK, a, w, hs => hK s acc a w h hs
  | o :: os, s, acc, K, ⟨R, N, e, h1, h2, h3⟩, hK, a, w, hs => by
    rw [List.cons_append]
    unfold wpListIn
    exact stp_in (h1 s (fun _ _ => rfl) (noRefB_spec h2)) hs (fun a' w' hs' => run_appE h3 hK a' w' hs')
theorem awp_regionE {Sg : Type} {R : Sg → Prop} {r : Sg → AV} {post : Sg → AS} {id : Nat} {l : List Oper} {Q : Exit → AS → Prop} (j : Nat) {f : FuncId} {xs : Array Operand} {ts : Array TypeId} {pre : AS} {args : List AV} {dd : Nat} {oo : Oper} (hj : l[j]? = some oo) (hgo : oo.guard = none) (hdo : oo.dst = some dd) (hnd : Nat.blt dd nt = true) (h5d : Nat.blt dd 100000 = true)
    (hoo : oo.op = .call { callee := .value (.func f), args := xs, argTypes := ts }) (hc : AFunE P f pre args R r post) (hl : pre.all lendB = true) (hq : ∀ σ, (post σ).all (leaveB (kO (post σ))) = true) (hks : ∀ σ, (kO pre).all (hasN (kO (post σ))) = true) (hr : ∀ σ, refB (kO (post σ)) (r σ) = true) (hnb : ∀ σ k v, U0.f k = some v → hasN (kO (post σ)) k = true → hasN (kO pre) k = true)
    (h : Run P w0 U0 nt l.toArray (l.take j) s [] fun s1 _ => evsA (look s1) xs.toList = some args ∧ SubL s1 pre ∧ ∀ σ, R σ → noRefB s1 (newN (kO pre) (kO (post σ)) (kO (post σ))) = true ∧ Run P w0 U0 nt l.toArray (l.drop (j + 1)) ((dd, r σ) :: (post σ ++ s1)) [] fun s' _ => Q .normal s') : AWp P w0 U0 nt (.region id l.toArray false) Q s := by
  intro M a w hs
  refine wpIn_region_lit ?_
  have hsplit : l = l.take j ++ oo :: l.drop (j + 1) := by
    have hjl : j < l.length := by
      rcases Nat.lt_or_ge j l.length with h | h
      · exact h
      · rw [List.getElem?_eq_none h] at hj; cases hj
    conv => lhs; rw [← List.take_append_drop j l]
    congr 1
    rw [List.drop_eq_getElem_cons hjl]
    rw [List.getElem?_eq_getElem hjl] at hj
    injection hj with hj
    rw [hj]
  have key : wpListIn (wideR M.r) 1 P l.toArray (postW M fun e a' w' => ∃ s', Q e s' ∧ Sim w0 U0 nt s' a' w') (l.take j ++ oo :: l.drop (j + 1)) (wdA a M.ds) w := by
    refine run_appE h ?_ a w hs
    rintro s1 _ a w ⟨hx, hp, hrest⟩ ⟨D, hv, h⟩
    have hargs := evsA_rep h (fun k _ => rfl) hx
    have hsub : Sub s1 pre := hp.sub
    obtain ⟨V, v1, v2, v3, v4, v5, v6⟩ := h.lend hsub hl
    obtain ⟨h1, h2⟩ := hc
    have hcall := h2 V w hv ⟨#[], []⟩ _ v1 v2 (hargs.imp fun c _ v hcv => hcv.move v6 (fun _ h3 => h3.imp (fun h => h) fun ⟨e, he⟩ => ⟨e, hsub _ _ he.1, he.2⟩) fun _ => rfl)
    have he : (execOp a.eval oo).run P w = .ok (.enter f (xs.toList.map a.eval).toArray) w := by
      have hf : a.eval (.func f) = .func (.func f) #[] #[] := rfl
      have hen := h1 (xs.map a.eval) w
      have harr : (xs.toList.map a.eval).toArray = xs.map a.eval := by apply Array.ext'; simp
      rw [harr]
      generalize a.eval = ρ at hf hen ⊢
      simp [execOp, hoo, resolve, invoke, Deferred.ofValue, hf, hen]
    unfold wpListIn
    rw [if_pos (by simp [Region.wanted, hgo])]
    refine ⟨fun _ _ => trivial, ?_⟩
    rw [wd_eval, Oper.semAt_eq _ _ _ (fun c hc => by rw [hoo] at hc; cases hc), he]
    refine ⟨(fun hh => by cases hh), callsIn_R (hcall.mono ?_)⟩
    rintro e w' ⟨σ, hσ, v, D', hv', a', rfl, h6, h7⟩
    obtain ⟨hnr, hrun⟩ := hrest σ hσ
    show wpListIn _ _ _ _ _ _ _ _
    rw [hdo, ← wd_put]
    obtain ⟨D2, hv2, h8, h9, _⟩ := h.back hsub hl (hq σ) (hks σ) (noRefB_spec hnr) (hnb σ) v3 v4 v5 v2 h6
    exact run_list hrun (fun s' t' a w h1 h2 => ⟨a, rfl, s', h1, h2⟩) _ _ ⟨D2, hv2, h8.put (bL hnd) (bL h5d) (h9 (r σ) v (hr σ) h7)⟩
  rw [← hsplit] at key
  exact key
end
end Go.Proofs.YteegmcfobgpemaaGreat
