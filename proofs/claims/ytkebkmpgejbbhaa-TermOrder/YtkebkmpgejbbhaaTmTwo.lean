/-
  What the laws on terms hold in common: arguments in boxes, terms made by Of in boxes.
-/
import Derived.Test.YtkebkmpgejbbhaaTmAlive
import Derived.Test.YtkebkmpgejbbhaaTmOrd
import Derived.Deep.CutRange
import Derived.BigRegion
namespace Go.Proofs.Ytkebkmpgejbbhaa
open Go.RowKit
set_option linter.unusedVariables false

/-- A box that holds a term. -/
def Bx (w : World) (ty : TypeId) (g : Nat) (t : Tm) (a : Option Addr) (n c : Nat) : Prop := w.heap[g]? = some (.cells #[.int .i64 t.f, .slice a n c] ty (0, 0))
theorem Bx.cells {w : World} {ty : TypeId} {g : Nat} {t : Tm} {a : Option Addr} {n c : Nat} (h : Bx w ty g t a n c) : w.cell? ⟨g, 0, none⟩ = some (.int .i64 t.f) ∧ w.cell? ⟨g, 1, none⟩ = some (.slice a n c) := cell2 h
theorem Bx.bw {w w' : World} {ty : TypeId} {g : Nat} {t : Tm} {a : Option Addr} {n c : Nat} (h : Bx w ty g t a n c) (hb : Below w.heap.size w w') : Bx w' ty g t a n c := (hb.block g (Array.getElem?_eq_some_iff.1 h).1).trans h
theorem Bx.new (w : World) (ty : TypeId) (t : Tm) (a : Option Addr) (n c : Nat) : Bx (w.alloc (.cells #[.int .i64 t.f, .slice a n c] ty)) ty w.heap.size t a n c := World.alloc_heap_new _ _

/-- Two terms in boxes of their own, made since w0. -/
def Two (w0 : World) (tx ty : Tm) (x y : Value) (wc : World) : Prop :=
  ∃ (gx gy : Nat) (ax : Option Addr) (nx cx : Nat) (ay : Option Addr) (ny cy : Nat), x = .pointer (some ⟨gx, 0, none⟩) ∧ y = .pointer (some ⟨gy, 0, none⟩) ∧ Bx wc 29 gx tx ax nx cx ∧ Bx wc 29 gy ty ay ny cy ∧ Tat (fun _ => True) wc tx ax nx cx ∧ Tat (fun _ => True) wc ty ay ny cy ∧ Below w0.heap.size w0 wc

theorem bS {w w' : World} (h : Below w.heap.size w w') {p : Addr} (hp : w.heap.size ≤ p.block) (v : Value) : Below w.heap.size w (w'.setCell p v) := h.setCell hp v

theorem heap_drew (w : World) : w.drew.heap = w.heap := rfl
theorem alloc_at {V : World} {o : Obj} {g : Nat} (h : g = V.heap.size) : (V.alloc o).heap[g]? = some o := by rw [h]; exact World.alloc_heap_new _ _
theorem alloc_on {V : World} {o : Obj} {g : Nat} (h : g < V.heap.size) : (V.alloc o).heap[g]? = V.heap[g]? := Below.heap_alloc _ _ _ h

/-- An empty box. -/
def Zb : Obj := .cells #[.int .i64 0, .slice none 0 0] 29 (0, 0)

theorem two_fin {w0 W : World} {tx ty : Tm} {gx gy : Nat} {ax : Option Addr} {nx cx : Nat} {ay : Option Addr} {ny cy : Nat} (hgx : W.heap[gx]? = some Zb) (hgy : W.heap[gy]? = some Zb) (hne : gx ≠ gy) (hx0 : w0.heap.size ≤ gx) (hy0 : w0.heap.size ≤ gy) (hW : Below w0.heap.size w0 W) (htx : Tat (fun b => b ≠ gx ∧ b ≠ gy) W tx ax nx cx) (hty : Tat (fun b => b ≠ gx ∧ b ≠ gy) W ty ay ny cy) :
    Two w0 tx ty (.pointer (some ⟨gx, 0, none⟩)) (.pointer (some ⟨gy, 0, none⟩)) ((((W.setCell ⟨gx, 0, none⟩ (.int .i64 tx.f)).setCell ⟨gx, 1, none⟩ (.slice ax nx cx)).setCell ⟨gy, 0, none⟩ (.int .i64 ty.f)).setCell ⟨gy, 1, none⟩ (.slice ay ny cy)) := by
  have hst : ∀ (V : World) (g h : Nat) (u v : Value), h ≠ g → ((V.setCell ⟨g, 0, none⟩ u).setCell ⟨g, 1, none⟩ v).heap[h]? = V.heap[h]? := fun V g h u v hn => by
    rw [Below.heap_setCell _ _ _ _ hn, Below.heap_setCell _ _ _ _ hn]
  have hk : ∀ b, (b ≠ gx ∧ b ≠ gy) → b < W.heap.size → True ∧ ((((W.setCell ⟨gx, 0, none⟩ (.int .i64 tx.f)).setCell ⟨gx, 1, none⟩ (.slice ax nx cx)).setCell ⟨gy, 0, none⟩ (.int .i64 ty.f)).setCell ⟨gy, 1, none⟩ (.slice ay ny cy)).heap[b]? = W.heap[b]? := fun b hb _ => ⟨trivial, by rw [hst _ _ _ _ _ hb.2, hst _ _ _ _ _ hb.1]⟩
  refine ⟨gx, gy, ax, nx, cx, ay, ny, cy, rfl, rfl, ?_, ?_, htx.keep hk, hty.keep hk, bS (bS (bS (bS hW hx0 _) hx0 _) hy0 _) hy0 _⟩
  · show _ = _
    rw [hst _ _ _ _ _ hne]
    exact two_block hgx _ _
  · refine two_block (x := .int .i64 0) (y := .slice none 0 0) ?_ _ _
    rw [hst _ _ _ _ _ (fun e => hne e.symm)]
    exact hgy

/-- A row of two terms, just built. -/
theorem las_two {w : World} {ty : TypeId} {t s : Tm} {a a' : Option Addr} {n c n' c' : Nat} (h1 : Tat (fun _ => True) w t a n c) (h2 : Tat (fun _ => True) w s a' n' c') : Las (fun _ => True) (w.alloc (.cells #[.int .i64 t.f, .slice a n c, .int .i64 s.f, .slice a' n' c'] ty)) [t, s] (some ⟨w.heap.size, 0, none⟩) 2 2 := by
  have hb := bA (bW w) (.cells #[.int .i64 t.f, .slice a n c, .int .i64 s.f, .slice a' n' c'] ty)
  refine ⟨rfl, Nat.le_refl _, by unfold maxLen; omega, (fun h => by cases h), [.int .i64 t.f, .slice a n c, .int .i64 s.f, .slice a' n' c'], .inr ⟨w.heap.size, 0, rfl, trivial, by simp, fun i hi => ?_⟩, ?_⟩
  · rw [Nat.zero_add, World.cell?_alloc_mark]; simp
  · exact Ecs.cons_iff.2 ⟨a, n, c, _, rfl, h1.bw hb, Ecs.cons_iff.2 ⟨a', n', c', [], rfl, h2.bw hb, Ecs.nil_iff.2 rfl⟩⟩
theorem las_one {w : World} {ty : TypeId} {t : Tm} {a : Option Addr} {n c : Nat} (h1 : Tat (fun _ => True) w t a n c) : Las (fun _ => True) (w.alloc (.cells #[.int .i64 t.f, .slice a n c] ty)) [t] (some ⟨w.heap.size, 0, none⟩) 1 1 := by
  have hb := bA (bW w) (.cells #[.int .i64 t.f, .slice a n c] ty)
  refine ⟨rfl, Nat.le_refl _, by unfold maxLen; omega, (fun h => by cases h), [.int .i64 t.f, .slice a n c], .inr ⟨w.heap.size, 0, rfl, trivial, by simp, fun i hi => ?_⟩, ?_⟩
  · rw [Nat.zero_add, World.cell?_alloc_mark]; simp
  · exact Ecs.cons_iff.2 ⟨a, n, c, [], rfl, h1.bw hb, Ecs.nil_iff.2 rfl⟩
theorem las_three {w : World} {ty : TypeId} {t s u : Tm} {a a' a'' : Option Addr} {n c n' c' n'' c'' : Nat} (h1 : Tat (fun _ => True) w t a n c) (h2 : Tat (fun _ => True) w s a' n' c') (h3 : Tat (fun _ => True) w u a'' n'' c'') : Las (fun _ => True) (w.alloc (.cells #[.int .i64 t.f, .slice a n c, .int .i64 s.f, .slice a' n' c', .int .i64 u.f, .slice a'' n'' c''] ty)) [t, s, u] (some ⟨w.heap.size, 0, none⟩) 3 3 := by
  have hb := bA (bW w) (.cells #[.int .i64 t.f, .slice a n c, .int .i64 s.f, .slice a' n' c', .int .i64 u.f, .slice a'' n'' c''] ty)
  refine ⟨rfl, Nat.le_refl _, by unfold maxLen; omega, (fun h => by cases h), [.int .i64 t.f, .slice a n c, .int .i64 s.f, .slice a' n' c', .int .i64 u.f, .slice a'' n'' c''], .inr ⟨w.heap.size, 0, rfl, trivial, by simp, fun i hi => ?_⟩, ?_⟩
  · rw [Nat.zero_add, World.cell?_alloc_mark]; simp
  · exact Ecs.cons_iff.2 ⟨a, n, c, _, rfl, h1.bw hb, Ecs.cons_iff.2 ⟨a', n', c', _, rfl, h2.bw hb, Ecs.cons_iff.2 ⟨a'', n'', c'', [], rfl, h3.bw hb, Ecs.nil_iff.2 rfl⟩⟩⟩

theorem fine_wt {t : Tm} (h : 0 ≤ smallT t 60 20) : t.wt ≤ 60 := by
  have := (small_bounds t 60 20 (by decide)).2.2 h
  omega
theorem fine_wf {t : Tm} (h : 0 ≤ smallT t 60 20) : -1000 ≤ t.f ∧ t.f ≤ 1000 := by
  cases t with
  | mk f l =>
    rw [smallT_eq] at h
    split at h
    · omega
    · simp only; omega
end Go.Proofs.Ytkebkmpgejbbhaa
