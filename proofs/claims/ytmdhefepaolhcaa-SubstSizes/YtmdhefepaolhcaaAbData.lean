/-
  Parts of trees and where they lie; what 'fill' makes of a row's parts.
-/
import Derived.Test.YtmdhefepaolhcaaAbStep
import Derived.Laws.Tables
import Derived.Laws.CopyRow
namespace Go.Proofs.Ytmdhefepaolhcaa
open Go.RowKit
set_option linter.unusedVariables false
set_option linter.unusedSimpArgs false

theorem foldl_seg (off : Nat) : ∀ (vs : List Value) (j : Nat) (cells : Array Value), off + j + vs.length ≤ cells.size → ((vs.zipIdx j).foldl (fun cs (x : Value × Nat) => cs.setIfInBounds (off + x.2) x.1) cells).toList = cells.toList.take (off + j) ++ vs ++ cells.toList.drop (off + j + vs.length)
  | [], j, cells, h => by simp
  | v :: vs, j, cells, h => by
    rw [List.zipIdx_cons, List.foldl_cons, foldl_seg off vs (j + 1) _ (by simp at h ⊢; omega)]
    have := list_seg_step cells.toList (off + j) v vs (by simp at h ⊢; omega)
    simp only [Array.toList_setIfInBounds, Nat.add_assoc, List.length_cons] at this ⊢
    exact this

/-- Segments of cells, some of them replaced. -/
def setAll : List (List Value) → List (Nat × Value) → List (List Value)
  | segs, [] => segs
  | segs, (i, v) :: ps => setAll (segs.set i v.cells.toList) ps

theorem flatten_set : ∀ (segs : List (List Value)) (i : Nat) (seg vs : List Value), segs[i]? = some seg → vs.length = seg.length →
    (segs.set i vs).flatten = segs.flatten.take ((segs.take i).map List.length).sum ++ vs ++ segs.flatten.drop (((segs.take i).map List.length).sum + vs.length)
  | [], i, seg, vs, h, _ => by simp at h
  | s :: segs, 0, seg, vs, h, hl => by
    simp only [List.getElem?_cons_zero, Option.some.injEq] at h
    subst h
    simp [List.drop_append, hl]
  | s :: segs, i + 1, seg, vs, h, hl => by
    have ih := flatten_set segs i seg vs (by simpa using h) hl
    rw [List.set_cons_succ, List.flatten_cons, ih, List.flatten_cons, List.take_succ_cons, List.map_cons, List.sum_cons]
    rw [List.take_append, List.drop_append, List.take_of_length_le (by omega : s.length ≤ s.length + _), List.drop_eq_nil_of_le (by omega : s.length ≤ s.length + _ + vs.length)]
    simp only [List.nil_append, List.append_assoc]
    congr 4
    · omega
    · omega

theorem fill_segs (place : Nat → Option (Nat × Nat)) (sz : List Nat) (hpl : ∀ i z, sz[i]? = some z → place i = some ((sz.take i).sum, z)) : ∀ (parts : List (Nat × Value)) (segs : List (List Value)) (cells : Array Value), cells.toList = segs.flatten → segs.map List.length = sz → (∀ x ∈ parts, sz[x.1]? = some x.2.cells.size) →
    Instr.fill place cells parts = some (setAll segs parts).flatten.toArray
  | [], segs, cells, hc, _, _ => by rw [Instr.fill, setAll, ← hc]
  | (i, v) :: ps, segs, cells, hc, hsz, hp => by
    have h1 := hp (i, v) (by simp)
    simp only at h1
    have h2 := hpl i _ h1
    have hsz' := hsz
    rw [← hsz, List.getElem?_map] at h1
    obtain ⟨seg, h3, h4⟩ : ∃ seg, segs[i]? = some seg ∧ seg.length = v.cells.size := by
      cases hs : segs[i]? with
      | none => rw [hs] at h1; simp at h1
      | some seg => rw [hs] at h1; simp at h1; exact ⟨seg, rfl, h1⟩
    have hoff : (sz.take i).sum = ((segs.take i).map List.length).sum := by rw [← hsz, List.map_take]
    have hlen : ((segs.take i).map List.length).sum + v.cells.size ≤ cells.size := by
      rw [show cells.size = segs.flatten.length by rw [← hc]; simp, ← h4]
      have hi : i < segs.length := by
        rcases Nat.lt_or_ge i segs.length with h | h
        · exact h
        · rw [List.getElem?_eq_none h] at h3; cases h3
      rw [List.getElem?_eq_getElem hi] at h3
      have : segs = segs.take i ++ seg :: segs.drop (i + 1) := by
        rw [← Option.some.inj h3, List.getElem_cons_drop, List.take_append_drop]
      conv => rhs; rw [this]
      simp only [List.flatten_append, List.flatten_cons, List.length_append, List.length_flatten]
      omega
    rw [Instr.fill, h2]
    simp only
    rw [if_neg (by rw [hoff]; simp only [ne_eq, not_true_eq_false, decide_false, Bool.false_or, decide_eq_true_eq]; omega)]
    rw [setAll]
    refine fill_segs place sz hpl ps (segs.set i v.cells.toList) _ ?_ ?_ (fun x hx => hp x (List.mem_cons_of_mem _ hx))
    · have hz : v.cells.zipIdx = (v.cells.toList.zipIdx 0).toArray := by apply Array.ext'; simp
      rw [hz]
      have := foldl_seg (sz.take i).sum v.cells.toList 0 cells (by rw [hoff]; simp only [Array.length_toList, Nat.add_zero]; omega)
      simp only [List.foldl_toArray'] at this ⊢
      rw [flatten_set segs i seg _ h3 (by simp [h4]), ← hc, ← hoff]
      simpa using this
    · rw [List.map_set, hsz]
      apply List.ext_getElem?
      intro j
      rw [List.getElem?_set]
      split
      · rename_i e
        subst e
        split
        · rename_i hl
          have := hp (i, v) (by simp)
          simp only at this
          rw [this]
          simp
        · rename_i hl
          rw [List.getElem?_eq_none (by omega)]
      · rfl

/-- A row's child is another. -/
noncomputable def setO : List CV → Nat → CV → Option (List CV)
  | [], _, _ => none
  | c :: cs, 0, x => match Nat.beq c.size x.size with | true => some (x :: cs) | false => none
  | c :: cs, i + 1, x => match setO cs i x with | some r => some (c :: r) | none => none
theorem setO_spec : ∀ {l : List CV} {i : Nat} {x : CV} {r : List CV}, setO l i x = some r → r = l.set i x ∧ ∃ c, l[i]? = some c ∧ c.size = x.size
  | [], _, _, _, h => by simp [setO] at h
  | c :: cs, 0, x, r, h => by
    unfold setO at h
    split at h
    · rename_i hb
      cases h
      exact ⟨rfl, c, rfl, Nat.eq_of_beq_eq_true hb⟩
    · cases h
  | c :: cs, i + 1, x, r, h => by
    unfold setO at h
    split at h
    · rename_i r' hr
      cases h
      obtain ⟨h1, c', h2, h3⟩ := setO_spec hr
      exact ⟨by rw [h1]; rfl, c', by simpa using h2, h3⟩
    · cases h

/-- The zero value's cells as a row's children. -/
def zsO : List Nat → List Value → Option (List CV)
  | [], [] => some []
  | 1 :: sz, v :: vs => match plainV v, isNil v, zsO sz vs with | true, true, some r => some (.lst [] :: r) | true, false, some r => some (.sc v :: r) | _, _, _ => none
  | 2 :: sz, u :: v :: vs => match plainV u, plainV v, isNil u, isNil v, zsO sz vs with | true, true, false, true, some r => some (.row [.sc u, .lst []] :: r) | _, _, _, _, _ => none
  | _, _ => none
def isNilC : CV → Bool
  | ⟨1, _, []⟩ => true
  | _ => false
theorem isNil_eq {v : Value} (h : isNil v = true) : v = .slice none 0 0 := by
  unfold isNil at h
  split at h
  · rfl
  · cases h
theorem rep_cell {U : Nat → Nat → Prop} {w : World} {v : Value} (h : plainV v = true) : (isNil v = true → Rep U w (.lst []) [v]) ∧ (isNil v = false → Rep U w (.sc v) [v]) := by
  have := rep_plain U w v h
  unfold cellCV at this
  constructor <;> intro h1 <;> rw [h1] at this <;> exact this
theorem zsO_spec {U : Nat → Nat → Prop} {w : World} : ∀ {sz : List Nat} {vs : List Value} {r : List CV}, zsO sz vs = some r → ∃ segs : List (List Value), segs.flatten = vs ∧ segs.map List.length = sz ∧ r.map CV.size = sz ∧ r.length = segs.length ∧ ∀ (i : Nat) (c : CV), r[i]? = some c → ∃ seg, segs[i]? = some seg ∧ Rep U w c seg ∧ (isNilC c = true → seg = [.slice none 0 0])
  | [], vs, r, h => by
    cases vs with
    | nil => simp [zsO] at h; subst h; exact ⟨[], rfl, rfl, rfl, rfl, fun i c hi => by simp at hi⟩
    | cons v vs => simp [zsO] at h
  | z :: sz, vs, r, h => by
    unfold zsO at h
    split at h
    · rename_i heq; cases heq
    · rename_i sz' v vs' heq
      injection heq with e1 e2
      subst e1; subst e2
      split at h
      · rename_i r' h1 h2 h3
        cases h
        obtain ⟨segs, a1, a2, a3, a5, a4⟩ := zsO_spec (U := U) (w := w) h3
        refine ⟨[v] :: segs, by simp [a1], by simp [a2], by rw [List.map_cons, a3]; rfl, by simp [a5], fun i c hi => ?_⟩
        cases i with
        | zero => simp at hi; subst hi; exact ⟨[v], rfl, (rep_cell h1).1 h2, fun _ => by rw [isNil_eq h2]⟩
        | succ i => obtain ⟨seg, b1, b2⟩ := a4 i c (by simpa using hi); exact ⟨seg, by simpa using b1, b2⟩
      · rename_i r' h1 h2 h3
        cases h
        obtain ⟨segs, a1, a2, a3, a5, a4⟩ := zsO_spec (U := U) (w := w) h3
        refine ⟨[v] :: segs, by simp [a1], by simp [a2], by rw [List.map_cons, a3]; rfl, by simp [a5], fun i c hi => ?_⟩
        cases i with
        | zero => simp at hi; subst hi; exact ⟨[v], rfl, (rep_cell h1).2 h2, fun h => by simp [isNilC] at h⟩
        | succ i => obtain ⟨seg, b1, b2⟩ := a4 i c (by simpa using hi); exact ⟨seg, by simpa using b1, b2⟩
      · cases h
    · rename_i sz' u v vs' heq
      injection heq with e1 e2
      subst e1; subst e2
      split at h
      · rename_i r' h1 h2 h3 h4 h5
        cases h
        obtain ⟨segs, a1, a2, a3, a5, a4⟩ := zsO_spec (U := U) (w := w) h5
        refine ⟨[u, v] :: segs, by simp [a1], by simp [a2], by rw [List.map_cons, a3]; rfl, by simp [a5], fun i c hi => ?_⟩
        cases i with
        | zero =>
          simp at hi; subst hi
          refine ⟨[u, v], rfl, rep_row.2 ⟨[u], [v], rfl, (rep_cell h1).2 h3, [v], [], rfl, (rep_cell h2).1 h4, rfl⟩, fun h => by simp [isNilC] at h⟩
        | succ i => obtain ⟨seg, b1, b2⟩ := a4 i c (by simpa using hi); exact ⟨seg, by simpa using b1, b2⟩
      · cases h
    · cases h

theorem sq_of_segs {U : Nat → Nat → Prop} {w : World} : ∀ {r : List CV} {segs : List (List Value)}, r.length = segs.length → (∀ (i : Nat) (c : CV), r[i]? = some c → ∃ seg, segs[i]? = some seg ∧ Rep U w c seg) → Sq (r.map fun c => Rep U w c) segs.flatten
  | [], [], _, _ => rfl
  | [], s :: segs, h, _ => by simp at h
  | c :: r, [], h, _ => by simp at h
  | c :: r, s :: segs, h, h2 => by
    obtain ⟨seg, e1, e2⟩ := h2 0 c rfl
    simp at e1
    subst e1
    refine ⟨s, segs.flatten, rfl, e2, sq_of_segs (by simpa using h) fun i c' hi => ?_⟩
    obtain ⟨seg, f1, f2⟩ := h2 (i + 1) c' (by simpa using hi)
    exact ⟨seg, by simpa using f1, f2⟩

/-- A struct's parts, laid into the zero value's. -/
noncomputable def setsO (S : Nat → Option AV) : List (Nat × Operand) → List CV → Option (List CV)
  | [], zs => some zs
  | (i, x) :: ps, zs => match ev S x with
    | some ⟨0, c, _, _, _⟩ => match setO zs i c with | some zs' => setsO S ps zs' | none => none
    | _ => none
def rds : List (Nat × Operand) → List Nat
  | [] => []
  | x :: ps => rd x.2 ++ rds ps

theorem setsO_spec {S : Nat → Option AV} {U : Nat → Nat → Prop} {w : World} {ρ : Operand → Value} : ∀ {parts : List (Nat × Operand)} {zs r : List CV} {segs : List (List Value)}, setsO S parts zs = some r → (∀ x ∈ parts, ∀ c n q p, ev S x.2 = some ⟨0, c, n, q, p⟩ → VRep U w c (ρ x.2)) → zs.length = segs.length → segs.map List.length = zs.map CV.size → (∀ (i : Nat) (c : CV), zs[i]? = some c → ∃ seg, segs[i]? = some seg ∧ Rep U w c seg) →
    (∀ x ∈ parts.map (fun x => (x.1, ρ x.2)), (zs.map CV.size)[x.1]? = some x.2.cells.size) ∧ Sq (r.map fun c => Rep U w c) (setAll segs (parts.map fun x => (x.1, ρ x.2))).flatten
  | [], zs, r, segs, h, _, h2, _, h3 => by
    simp [setsO] at h
    subst h
    exact ⟨by simp, sq_of_segs h2 h3⟩
  | (i, x) :: ps, zs, r, segs, h, hv, h2, h4, h3 => by
    unfold setsO at h
    split at h
    · rename_i c n q p hev
      split at h
      · rename_i zs' hset
        obtain ⟨e1, c0, e2, e3⟩ := setO_spec hset
        have hx := hv (i, x) (by simp) c n q p hev
        have hrep := hx.cells
        have hlen := hrep.len
        obtain ⟨seg, e4, e5⟩ := h3 i c0 e2
        have hi : i < zs.length := by
          rcases Nat.lt_or_ge i zs.length with h | h
          · exact h
          · rw [List.getElem?_eq_none h] at e2; cases e2
        have hsz : zs'.map CV.size = zs.map CV.size := by
          rw [e1, List.map_set]
          apply List.ext_getElem?
          intro j
          rw [List.getElem?_set]
          split
          · rename_i e
            subst e
            rw [if_pos (by simpa using hi), List.getElem?_map, e2, Option.map_some, e3]
          · rfl
        have h4' : (segs.set i (ρ x).cells.toList).map List.length = segs.map List.length := by
          rw [List.map_set]
          apply List.ext_getElem?
          intro j
          rw [List.getElem?_set]
          split
          · rename_i e
            subst e
            rw [if_pos (by simp; omega), List.getElem?_map, e4, Option.map_some, hlen, ← e3, e5.len]
          · rfl
        obtain ⟨g1, g2⟩ := setsO_spec (segs := segs.set i (ρ x).cells.toList) h (fun y hy => hv y (List.mem_cons_of_mem _ hy)) (by rw [e1]; simp [h2]) (by rw [h4', h4, hsz]) (fun j c' hj => by
          rw [e1, List.getElem?_set] at hj
          rw [List.getElem?_set]
          split at hj
          · rename_i e
            subst e
            cases hj
            exact ⟨(ρ x).cells.toList, by rw [if_pos rfl, if_pos (by omega)], hrep⟩
          · rename_i e
            obtain ⟨seg', f1, f2⟩ := h3 j c' hj
            exact ⟨seg', by rw [if_neg e]; exact f1, f2⟩)
        refine ⟨fun y hy => ?_, g2⟩
        rw [List.map_cons, List.mem_cons] at hy
        rcases hy with rfl | hy
        · simp only [List.getElem?_map, e2, Option.map_some, e3, ← hlen, Array.length_toList]
        · rw [← hsz]; exact g1 y hy
      · cases h
    · cases h
end Go.Proofs.Ytmdhefepaolhcaa
