/-
  What the laws on terms hold in common: arguments in boxes, terms made by Of in boxes.
-/
import Derived.Test.YtkebkmpgejbbhaaTmAlive
import Derived.Test.YtkebkmpgejbbhaaTmOrd
import Derived.Deep.CutRange
import Derived.BigRegion
namespace Go.Proofs.Ytkebkmpgejbbhaa
open Go.RowKit
set_option linter.unusedVariables false

/-- A box that holds a term. -/
def Bx (w : World) (ty : TypeId) (g : Nat) (t : Tm) (a : Option Addr) (n c : Nat) : Prop := w.heap[g]? = some (.cells #[.int .i64 t.f, .slice a n c] ty (0, 0))
theorem Bx.cells {w : World} {ty : TypeId} {g : Nat} {t : Tm} {a : Option Addr} {n c : Nat} (h : Bx w ty g t a n c) : w.cell? ⟨g, 0, none⟩ = some (.int .i64 t.f) ∧ w.cell? ⟨g, 1, none⟩ = some (.slice a n c) := cell2 h
theorem Bx.bw {w w' : World} {ty : TypeId} {g : Nat} {t : Tm} {a : Option Addr} {n c : Nat} (h : Bx w ty g t a n c) (hb : Below w.heap.size w w') : Bx w' ty g t a n c := (hb.block g (Array.getElem?_eq_some_iff.1 h).1).trans h
theorem Bx.new (w : World) (ty : TypeId) (t : Tm) (a : Option Addr) (n c : Nat) : Bx (w.alloc (.cells #[.int .i64 t.f, .slice a n c] ty)) ty w.heap.size t a n c := World.alloc_heap_new _ _

/-- Two terms in boxes of their own, made since w0. -/
def Two (w0 : World) (tx ty : Tm) (x y : Value) (wc : World) : Prop :=
  ∃ (gx gy : Nat) (ax : Option Addr) (nx cx : Nat) (ay : Option Addr) (ny cy : Nat), x = .pointer (some ⟨gx, 0, none⟩) ∧ y = .pointer (some ⟨gy, 0, none⟩) ∧ Bx wc 29 gx tx ax nx cx ∧ Bx wc 29 gy ty ay ny cy ∧ Tat (fun _ => True) wc tx ax nx cx ∧ Tat (fun _ => True) wc ty ay ny cy ∧ Below w0.heap.size w0 wc

theorem bS {w w' : World} (h : Below w.heap.size w w') {p : Addr} (hp : w.heap.size ≤ p.block) (v : Value) : Below w.heap.size w (w'.setCell p v) := h.setCell hp v

theorem heap_drew (w : World) : w.drew.heap = w.heap := rfl
theorem alloc_at {V : World} {o : Obj} {g : Nat} (h : g = V.heap.size) : (V.alloc o).heap[g]? = some o := by rw [h]; exact World.alloc_heap_new _ _
theorem alloc_on {V : World} {o : Obj} {g : Nat} (h : g < V.heap.size) : (V.alloc o).heap[g]? = V.heap[g]? := Below.heap_alloc _ _ _ h

/-- An empty box. -/
def Zb : Obj := .cells #[.int .i64 0, .slice none 0 0] 29 (0, 0)

theorem two_fin {w0 W : World} {tx ty : Tm} {gx gy : Nat} {ax : Option Addr} {nx cx : Nat} {ay : Option Addr} {ny cy : Nat} (hgx : W.heap[gx]? = some Zb) (hgy : W.heap[gy]? = some Zb) (hne : gx ≠ gy) (hx0 : w0.heap.size ≤ gx) (hy0 : w0.heap.size ≤ gy) (hW : Below w0.heap.size w0 W) (htx : Tat (fun b => b ≠ gx ∧ b ≠ gy) W tx ax nx cx) (hty : Tat (fun b => b ≠ gx ∧ b ≠ gy) W ty ay ny cy) :
    Two w0 tx ty (.pointer (some ⟨gx, 0, none⟩)) (.pointer (some ⟨gy, 0, none⟩)) ((((W.setCell ⟨gx, 0, none⟩ (.int .i64 tx.f)).setCell ⟨gx, 1, none⟩ (.slice ax nx cx)).setCell ⟨gy, 0, none⟩ (.int .i64 ty.f)).setCell ⟨gy, 1, none⟩ (.slice ay ny cy)) := by
  have hst : ∀ (V : World) (g h : Nat) (u v : Value), h ≠ g → ((V.setCell ⟨g, 0, none⟩ u).setCell ⟨g, 1, none⟩ v).heap[h]? = V.heap[h]? := fun V g h u v hn => by
    rw [Below.heap_setCell _ _ _ _ hn, Below.heap_setCell _ _ _ _ hn]
  have hk : ∀ b, (b ≠ gx ∧ b ≠ gy) → b < W.heap.size → True ∧ ((((W.setCell ⟨gx, 0, none⟩ (.int .i64 tx.f)).setCell ⟨gx, 1, none⟩ (.slice ax nx cx)).setCell ⟨gy, 0, none⟩ (.int .i64 ty.f)).setCell ⟨gy, 1, none⟩ (.slice ay ny cy)).heap[b]? = W.heap[b]? := fun b hb _ => ⟨trivial, by rw [hst _ _ _ _ _ hb.2, hst _ _ _ _ _ hb.1]⟩
  refine ⟨gx, gy, ax, nx, cx, ay, ny, cy, rfl, rfl, ?_, ?_, htx.keep hk, hty.keep hk, bS (bS (bS (bS hW hx0 _) hx0 _) hy0 _) hy0 _⟩
  · show _ = _
    rw [hst _ _ _ _ _ hne]
    exact two_block hgx _ _
  · refine two_block (x := .int .i64 0) (y := .slice none 0 0) ?_ _ _
    rw [hst _ _ _ _ _ (fun e => hne e.symm)]
    exact hgy

/-- A row of two terms, just built. -/
theorem las_two {w : World} {ty : TypeId} {t s : Tm} {a a' : Option Addr} {n c n' c' : Nat} (h1 : Tat (fun _ => True) w t a n c) (h2 : Tat (fun _ => True) w s a' n' c') : Las (fun _ => True) (w.alloc (.cells #[.int .i64 t.f, .slice a n c, .int .i64 s.f, .slice a' n' c'] ty)) [t, s] (some ⟨w.heap.size, 0, none⟩) 2 2 := by
  have hb := bA (bW w) (.cells #[.int .i64 t.f, .slice a n c, .int .i64 s.f, .slice a' n' c'] ty)
  refine ⟨rfl, Nat.le_refl _, by unfold maxLen; omega, (fun h => by cases h), [.int .i64 t.f, .slice a n c, .int .i64 s.f, .slice a' n' c'], .inr ⟨w.heap.size, 0, rfl, trivial, by simp, fun i hi => ?_⟩, ?_⟩
  · rw [Nat.zero_add, World.cell?_alloc_mark]; simp
  · exact Ecs.cons_iff.2 ⟨a, n, c, _, rfl, h1.bw hb, Ecs.cons_iff.2 ⟨a', n', c', [], rfl, h2.bw hb, Ecs.nil_iff.2 rfl⟩⟩
theorem las_one {w : World} {ty : TypeId} {t : Tm} {a : Option Addr} {n c : Nat} (h1 : Tat (fun _ => True) w t a n c) : Las (fun _ => True) (w.alloc (.cells #[.int .i64 t.f, .slice a n c] ty)) [t] (some ⟨w.heap.size, 0, none⟩) 1 1 := by
  have hb := bA (bW w) (.cells #[.int .i64 t.f, .slice a n c] ty)
  refine ⟨rfl, Nat.le_refl _, by unfold maxLen; omega, (fun h => by cases h), [.int .i64 t.f, .slice a n c], .inr ⟨w.heap.size, 0, rfl, trivial, by simp, fun i hi => ?_⟩, ?_⟩
  · rw [Nat.zero_add, World.cell?_alloc_mark]; simp
  · exact Ecs.cons_iff.2 ⟨a, n, c, [], rfl, h1.bw hb, Ecs.nil_iff.2 rfl⟩
theorem las_three {w : World} {ty : TypeId} {t s u : Tm} {a a' a'' : Option Addr} {n c n' c' n'' c'' : Nat} (h1 : Tat (fun _ => True) w t a n c) (h2 : Tat (fun _ => True) w s a' n' c') (h3 : Tat (fun _ => True) w u a'' n'' c'') : Las (fun _ => True) (w.alloc (.cells #[.int .i64 t.f, .slice a n c, .int .i64 s.f, .slice a' n' c', .int .i64 u.f, .slice a'' n'' c''] ty)) [t, s, u] (some ⟨w.heap.size, 0, none⟩) 3 3 := by
  have hb := bA (bW w) (.cells #[.int .i64 t.f, .slice a n c, .int .i64 s.f, .slice a' n' c', .int .i64 u.f, .slice a'' n'' c''] ty)
  refine ⟨rfl, Nat.le_refl _, by unfold maxLen; omega, (fun h => by cases h), [.int .i64 t.f, .slice a n c, .int .i64 s.f, .slice a' n' c', .int .i64 u.f, .slice a'' n'' c''], .inr ⟨w.heap.size, 0, rfl, trivial, by simp, fun i hi => ?_⟩, ?_⟩
  · rw [Nat.zero_add, World.cell?_alloc_mark]; simp
  · exact Ecs.cons_iff.2 ⟨a, n, c, _, rfl, h1.bw hb, Ecs.cons_iff.2 ⟨a', n', c', _, rfl, h2.bw hb, Ecs.cons_iff.2 ⟨a'', n'', c'', [], rfl, h3.bw hb, Ecs.nil_iff.2 rfl⟩⟩⟩

theorem fine_wt {t : Tm} (h : 0 ≤ smallT t 60 20) : t.wt ≤ 60 := by
  have := (small_bounds t 60 20 (by decide)).2.2 h
  omega
theorem fine_wf {t : Tm} (h : 0 ≤ smallT t 60 20) : -1000 ≤ t.f ∧ t.f ≤ 1000 := by
  cases t with
  | mk f l =>
    rw [smallT_eq] at h
    split at h
    · omega
    · simp only; omega

/-- Two terms of the same parts, turned, in boxes of their own. -/
def Pq (w0 : World) (f : Int) (tx ty : Tm) (ax : Option Addr) (nx cx : Nat) (x y : Value) (wc : World) : Prop :=
  ∃ (gp gq rp rq : Nat), x = .pointer (some ⟨gp, 0, none⟩) ∧ y = .pointer (some ⟨gq, 0, none⟩) ∧ Bx wc 29 gp (.mk f [tx, ty]) (some ⟨rp, 0, none⟩) 2 2 ∧ Bx wc 29 gq (.mk f [ty, tx]) (some ⟨rq, 0, none⟩) 2 2 ∧ Tat (fun _ => True) wc (.mk f [tx, ty]) (some ⟨rp, 0, none⟩) 2 2 ∧ Tat (fun _ => True) wc (.mk f [ty, tx]) (some ⟨rq, 0, none⟩) 2 2 ∧ (wc.cell? ⟨rp, 0, none⟩ = some (.int .i64 tx.f) ∧ wc.cell? ⟨rp, 1, none⟩ = some (.slice ax nx cx)) ∧ Below w0.heap.size w0 wc

theorem las_at {W : World} {r : Nat} {t s : Tm} {a a' : Option Addr} {n c n' c' : Nat} {ty : TypeId} (h1 : Tat (fun _ => True) W t a n c) (h2 : Tat (fun _ => True) W s a' n' c') (hr : W.heap[r]? = some (.cells #[.int .i64 t.f, .slice a n c, .int .i64 s.f, .slice a' n' c'] ty (0, 0))) : Las (fun _ => True) W [t, s] (some ⟨r, 0, none⟩) 2 2 := by
  refine ⟨rfl, Nat.le_refl _, by unfold maxLen; omega, (fun h => by cases h), [.int .i64 t.f, .slice a n c, .int .i64 s.f, .slice a' n' c'], .inr ⟨r, 0, rfl, trivial, (Array.getElem?_eq_some_iff.1 hr).1, fun i hi => ?_⟩, ?_⟩
  · match i, hi with
    | 0, _ => simp [World.cell?, hr]
    | 1, _ => simp [World.cell?, hr]
    | 2, _ => simp [World.cell?, hr]
    | 3, _ => simp [World.cell?, hr]
  · exact Ecs.cons_iff.2 ⟨a, n, c, _, rfl, h1, Ecs.cons_iff.2 ⟨a', n', c', [], rfl, h2, Ecs.nil_iff.2 rfl⟩⟩

theorem pq_all {w0 W : World} {f : Int} {tx ty : Tm} {gp gq rp rq : Nat} {ax : Option Addr} {nx cx : Nat} {ay : Option Addr} {ny cy : Nat} (hf : -9223372036854775808 ≤ f ∧ f ≤ 9223372036854775807) (hgp : W.heap[gp]? = some (.cells #[.int .i64 f, .slice (some ⟨rp, 0, none⟩) 2 2] 29 (0, 0))) (hgq : W.heap[gq]? = some (.cells #[.int .i64 f, .slice (some ⟨rq, 0, none⟩) 2 2] 29 (0, 0)))
    (hrp : W.heap[rp]? = some (.cells #[.int .i64 tx.f, .slice ax nx cx, .int .i64 ty.f, .slice ay ny cy] 29 (0, 0))) (hrq : W.heap[rq]? = some (.cells #[.int .i64 ty.f, .slice ay ny cy, .int .i64 tx.f, .slice ax nx cx] 29 (0, 0)))
    (hW : Below w0.heap.size w0 W) (htx : Tat (fun _ => True) w0 tx ax nx cx) (hty : Tat (fun _ => True) w0 ty ay ny cy) :
    Pq w0 f tx ty ax nx cx (.pointer (some ⟨gp, 0, none⟩)) (.pointer (some ⟨gq, 0, none⟩)) W :=
  ⟨gp, gq, rp, rq, rfl, rfl, hgp, hgq, tat_iff.2 ⟨hf, las_at (htx.bw hW) (hty.bw hW) hrp⟩, tat_iff.2 ⟨hf, las_at (hty.bw hW) (htx.bw hW) hrq⟩, ⟨by simp [World.cell?, hrp], by simp [World.cell?, hrp]⟩, hW⟩

theorem cell_other (w : World) {p q : Addr} (v : Value) (h : p ≠ q) : (w.setCell p v).cell? q = w.cell? q := by apply World.cell?_setCell_other; exact h

/-- The first of a row of the call's own is written over. -/
theorem own_store {U : Nat → Prop} {w : World} {base : Nat} {a : Option Addr} {n c : Nat} {t : Tm} {ts : List Tm} (g : Int) (hg : -9223372036854775808 ≤ g ∧ g ≤ 9223372036854775807) (h : OwnT 29 U w base (.slice a n c) (t :: ts)) :
    ∃ r, a = some ⟨r, 0, none⟩ ∧ base ≤ r ∧ (w.cell? ⟨r, 0, none⟩).isSome = true ∧ (w.cell? ⟨r, 1, none⟩).isSome = true ∧ w.frozen? ⟨r, 0, none⟩ = false ∧ w.frozen? ⟨r, 1, none⟩ = false ∧
      Las (fun _ => True) ((w.setCell ⟨r, 0, none⟩ (.int .i64 g)).setCell ⟨r, 1, none⟩ (.slice none 0 0)) (⟨g, []⟩ :: ts) a n c := by
  obtain ⟨xs, h1, h2⟩ := h
  have hown := h1
  obtain ⟨_, h3⟩ := h1
  rcases h3 with ⟨h3, h4⟩ | ⟨r, cap, cur, h3, hb, hh, hn, hm, hs, ht⟩
  · simp at h4
  · cases h3
    obtain ⟨a0, n0, c0, ys, rfl, k1, k2⟩ := Ecs.cons_iff.1 h2
    have c0' : w.cell? ⟨r, 0, none⟩ = some (.int .i64 t.f) := hown.cellAt 0 (by simp)
    have c1' : w.cell? ⟨r, 1, none⟩ = some (.slice a0 n0 c0) := hown.cellAt 1 (by simp only [List.length_cons]; omega)
    have hne : ∀ b, b ≠ r → ((w.setCell ⟨r, 0, none⟩ (.int .i64 g)).setCell ⟨r, 1, none⟩ (.slice none 0 0)).heap[b]? = w.heap[b]? := fun b hb => by
      rw [Below.heap_setCell _ _ _ _ hb, Below.heap_setCell _ _ _ _ hb]
    have hlt : r < w.heap.size := (Array.getElem?_eq_some_iff.1 hh).1
    refine ⟨r, rfl, hb, by rw [c0']; rfl, by rw [c1']; rfl, by simp [World.frozen?, hh], by simp [World.frozen?, hh], rfl, hn, hm, (fun e => by cases e), .int .i64 g :: .slice none 0 0 :: ys, .inr ⟨r, 0, rfl, trivial, ?_, fun i hi => ?_⟩, ?_⟩
    · show r < ((w.setCell _ _).setCell _ _).heap.size
      rw [World.size_setCell, World.size_setCell]
      exact hlt
    · rw [Nat.zero_add]
      match i, hi with
      | 0, _ =>
        rw [cell_other _ _ (by simp), World.cell?_setCell_same' _ _ _ (by rw [c0']; rfl)]
        rfl
      | 1, _ =>
        rw [World.cell?_setCell_same' _ _ _ (by rw [cell_other _ _ (by simp), c1']; rfl)]
        rfl
      | i + 2, hi =>
        rw [cell_other _ _ (by simp), cell_other _ _ (by simp)]
        have := hown.cellAt (i + 2) (by have h8 := k2.length; simp only [List.length_cons] at hi ⊢; omega)
        rw [this]
        rfl
    · refine Ecs.cons_iff.2 ⟨none, 0, 0, ys, rfl, tat_nil _ hg, k2.keep fun b hb' _ => ⟨trivial, hne b (fun e => hb'.2 (by rw [e]; rfl))⟩⟩
end Go.Proofs.Ytkebkmpgejbbhaa
