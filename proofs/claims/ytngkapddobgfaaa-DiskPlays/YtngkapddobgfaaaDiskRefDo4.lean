/-
  What the document's Do returns where a deed is to wait.
-/
import Derived.Test.YtngkapddobgfaaaDiskRefDo3
import Derived.Test.YtngkapddobgfaaaDiskOrdMem
namespace Go.Proofs.Ytngkapddobgfaaa
open Go.RowKit Go.Maps
set_option linter.unusedVariables false

theorem step_append_cells {P : Program} (w : World) {ops : Array Oper} {o : Oper} {a : Act} {K : Act → World → Prop} {Q : Exit → Act → World → Prop} {E : Prop} (hgd : Region.wanted o (yielded ops a.tmps) = true) (s x : Operand) (t : TypeId)
    (ho : o.op = .call { callee := .builtin .append, args := #[s, x], argTypes := #[t, t] })
    (base : Nat) (e : TypeId) (z : Value) (size bytes : Nat) (ht : P.underlying t = some (.slice e)) (hi : (P.info? e).map (fun i => (i.zero, i.size, i.bytes)) = some (some z, size, bytes)) (hzs : z.cells.size = size) (hsz : 0 < size)
    (v : Value) (n : Nat) (xs : List Value) (hs : a.eval s = v) (hown : w.ownsRow base e size v n xs)
    (ao : Option Addr) (m c : Nat) (ys : List Value) (hx : a.eval x = .slice ao m c) (hnil : ao = none → m = 0 ∧ c = 0) (hb : Cs w ao ys) (hl : ys.length = m * size) (h1 : ∀ u ∈ ys, u.oneCell' = true)
    (h63 : n + m ≤ maxLen) (hbytes : (n + m) * bytes ≤ 140737488355328) (hbase : base ≤ w.heap.size)
    (h : ∀ v' w', w'.ownsRow base e size v' (n + m) (xs ++ ys) → w.grownBy w' v.ownBlock → K (a.put o.dst v') w') :
    if Region.wanted o (yielded ops a.tmps) = true then Oper.wp P o a w K Q else E := by
  rw [if_pos hgd]
  obtain ⟨i, hi1, hi2, hi3, hi4⟩ := info_parts hi
  cases ao with
  | none =>
    obtain ⟨rfl, rfl⟩ := hnil rfl
    have : ys = [] := List.eq_nil_of_length_eq_zero (by omega)
    subst this
    have hrun := run_append_owned_none (P := P) (w := w) base t o.type e i size ht hi1 v _ _ hown
    unfold Oper.wp
    simp [execOp, ho, resolve, invoke, builtin, hs, hx, hrun, Result.andThen]
    exact h v w (by simpa using hown) (World.grownBy.refl _ _)
  | some ad =>
    refine wp_append_own w s x t ho base e i z size bytes ht hi1 hi2 hi3 hi4 hzs hsz v _ _ hs hown ad m c ys hx hl ?_ h1 h63 hbytes hbase ?_
    · intro j u hj
      have hjl : j < ys.length := by
        rcases Nat.lt_or_ge j ys.length with h | h
        · exact h
        · rw [List.getElem?_eq_none h] at hj; cases hj
      rcases hb with rfl | ⟨b, off, ha, hlt, hc⟩
      · simp at hjl
      · cases ha
        have e : (⟨b, off, none⟩ : Addr).add j = ⟨b, off + j, none⟩ := by simp [Addr.add]
        rw [e, hc j hjl, hj]
    · intro v' w' h5 h6 _
      exact h v' w' h5 h6
theorem keep_act {w : World} {k : Nat} {v v0 v1 v2 v3 v4 v5 : Value} (h : w.cell? ⟨k + 1, 0, none⟩ = some v0 ∧ w.cell? ⟨k + 1, 1, none⟩ = some v1 ∧ w.cell? ⟨k + 1, 2, none⟩ = some v2 ∧ w.cell? ⟨k + 1, 3, none⟩ = some v3 ∧ w.cell? ⟨k + 1, 4, none⟩ = some v4 ∧ w.cell? ⟨k + 1, 5, none⟩ = some v5) : (w.setCell ⟨k, 2, none⟩ v).cell? ⟨k + 1, 0, none⟩ = some v0 ∧ (w.setCell ⟨k, 2, none⟩ v).cell? ⟨k + 1, 1, none⟩ = some v1 ∧ (w.setCell ⟨k, 2, none⟩ v).cell? ⟨k + 1, 2, none⟩ = some v2 ∧ (w.setCell ⟨k, 2, none⟩ v).cell? ⟨k + 1, 3, none⟩ = some v3 ∧ (w.setCell ⟨k, 2, none⟩ v).cell? ⟨k + 1, 4, none⟩ = some v4 ∧ (w.setCell ⟨k, 2, none⟩ v).cell? ⟨k + 1, 5, none⟩ = some v5 := by
  have e : ∀ i, (w.setCell ⟨k, 2, none⟩ v).cell? ⟨k + 1, i, none⟩ = w.cell? ⟨k + 1, i, none⟩ := fun i => World.cell?_of_block (set_other v (Nat.succ_ne_self k))
  simp only [e]
  exact h
theorem keep_actd {w : World} {k : Nat} {v v0 v1 v2 v3 v4 v5 : Value} (h : w.cell? ⟨k + 1, 0, none⟩ = some v0 ∧ w.cell? ⟨k + 1, 1, none⟩ = some v1 ∧ w.cell? ⟨k + 1, 2, none⟩ = some v2 ∧ w.cell? ⟨k + 1, 3, none⟩ = some v3 ∧ w.cell? ⟨k + 1, 4, none⟩ = some v4 ∧ w.cell? ⟨k + 1, 5, none⟩ = some v5) : (w.setCell ⟨k, 2, none⟩ v).drew.cell? ⟨k + 1, 0, none⟩ = some v0 ∧ (w.setCell ⟨k, 2, none⟩ v).drew.cell? ⟨k + 1, 1, none⟩ = some v1 ∧ (w.setCell ⟨k, 2, none⟩ v).drew.cell? ⟨k + 1, 2, none⟩ = some v2 ∧ (w.setCell ⟨k, 2, none⟩ v).drew.cell? ⟨k + 1, 3, none⟩ = some v3 ∧ (w.setCell ⟨k, 2, none⟩ v).drew.cell? ⟨k + 1, 4, none⟩ = some v4 ∧ (w.setCell ⟨k, 2, none⟩ v).drew.cell? ⟨k + 1, 5, none⟩ = some v5 := by
  simp only [drew_cell]
  exact keep_act h
theorem acells_one (ws : List ARef) : ∀ u ∈ acells ws, u.oneCell' = true := by
  intro u hu
  obtain ⟨r, _, h⟩ := List.mem_flatMap.1 hu
  exact cells_one r u h
theorem acts_new0 (w : World) (base : Nat) (hb : base ≤ w.heap.size) : (w.alloc (.cells #[] 36)).ownsRow base 36 6 (.slice (some ⟨w.heap.size, 0, none⟩) 0 0) 0 [] :=
  World.ownsRow_made w #[] 0 hb (by simp) (by simp)

theorem deed_end {w w3 w6 : World} {wa : Option Addr} {wn wc : Nat} {ws : List ARef} {r : ARef} (hA : As w wa wn wc ws) (hri : r.inn w) (hb3 : Below w.heap.size w w3) (hlt : w.heap.size + 2 < w3.heap.size) (hb6 : Below w3.heap.size w3 w6) {a6 : Option Addr} {c6 : Nat}
    (ho6 : w6.ownsRow w3.heap.size 36 6 (.slice a6 (wn + 1) c6) (wn + 1) (acells ws ++ r.cells)) (u a b c d e f : Value) :
    As (put6 (w6.setCell ⟨w.heap.size, 2, none⟩ u) (w.heap.size + 1 + 1) a b c d e f) a6 (wn + 1) c6 (ws ++ [r]) ∧ (∀ x, a6 = some x → w.heap.size ≤ x.block) ∧ Below w.heap.size w (put6 (w6.setCell ⟨w.heap.size, 2, none⟩ u) (w.heap.size + 1 + 1) a b c d e f) := by
  have hb : Below w.heap.size w (put6 (w6.setCell ⟨w.heap.size, 2, none⟩ u) (w.heap.size + 1 + 1) a b c d e f) :=
    six_below ((hb3.trans (hb6.mono (by omega))).setCell (p := ⟨w.heap.size, 2, none⟩) (Nat.le_refl _) _) (by omega) a b c d e f
  have hk : Kp (fun i => i = w.heap.size ∨ i = w.heap.size + 1 + 1) w6 (put6 (w6.setCell ⟨w.heap.size, 2, none⟩ u) (w.heap.size + 1 + 1) a b c d e f) :=
    six_kp ((Kp.refl _ w6).setCell (p := ⟨w.heap.size, 2, none⟩) (fun _ => .inl rfl) _) (.inr rfl) a b c d e f
  obtain ⟨W, hW⟩ : ∃ W, W = put6 (w6.setCell ⟨w.heap.size, 2, none⟩ u) (w.heap.size + 1 + 1) a b c d e f := ⟨_, rfl⟩
  rw [← hW] at hb hk ⊢
  obtain ⟨a', c', e', h1, h2, h3, h4⟩ := ownsRow_cs ho6
  cases e'
  have hblk : ∀ x, a6 = some x → w3.heap.size ≤ x.block := fun x hx => (ho6.lt x.block (by rw [hx]; rfl)).1
  refine ⟨⟨?_, h1, h2, h3, ?_, fun q hq => ?_⟩, fun x hx => by have := hblk x hx; omega, hb⟩
  · rw [List.length_append, ← hA.1]; rfl
  · rw [acells_snoc]
    refine cs_kp h4 hk (fun x hx _ e => ?_)
    have := hblk x hx
    rcases e with e | e <;> omega
  · rcases List.mem_append.1 hq with e | e
    · exact (hA.2.2.2.2.2 q e).below hb (Nat.le_refl _)
    · have : q = r := by simpa using e
      rw [this]; exact hri.below hb (Nat.le_refl _)
end Go.Proofs.Ytngkapddobgfaaa
