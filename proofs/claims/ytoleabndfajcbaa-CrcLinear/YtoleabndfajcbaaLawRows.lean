/-
  What came into a law as a slice of bytes, and an empty slice of the call's own: no function of the program is named here.
-/
import Derived.Test.YtoleabndfajcbaaCodeMem
import Derived.OpenShut
import Derived.Laws.OwnMore
import Derived.OneCell
namespace Go.Proofs.Ytoleabndfajcbaa
open Go.RowKit
set_option linter.unusedVariables false

/-- What came in as a slice of bytes. -/
theorem bs_of_row {w : World} {a : Option Addr} {len cap : Nat} {zs : List Int}
    (h : (a = none ∧ len = 0 ∧ cap = 0 ∧ zs = []) ∨ ∃ x, a = some x ∧ len ≤ cap ∧ cap ≤ maxLen ∧ zs.length = cap ∧ (∀ i, i < zs.length → w.cell? (x.add i) = some (.int .u8 (zs.getD i 0))) ∧ ∀ n ∈ zs, (Lit.int .u8 n).wf = true) :
    (a = none → len = 0 ∧ cap = 0) ∧ Bs w a len (zs.take len) := by
  rcases h with ⟨rfl, rfl, rfl, rfl⟩ | ⟨x, rfl, hl, hm, hz, hcell, hwz⟩
  · exact ⟨fun _ => ⟨rfl, rfl⟩, rfl, by simp, .inl rfl⟩
  · refine ⟨(fun h => by cases h), by rw [List.length_take]; omega, fun z hzm => ?_, ?_⟩
    · have := hwz z (List.mem_of_mem_take hzm)
      simpa [Lit.wf, IntKind.min, IntKind.max, IntKind.signed, IntKind.bits] using this
    · rcases Nat.eq_zero_or_pos len with h0 | h0
      · exact .inl h0
      · obtain ⟨b, off, spot⟩ := x
        have hc := hcell 0 (by omega)
        have hspot : spot = none := by simpa [Addr.add] using World.cell?_spot hc
        subst hspot
        refine .inr ⟨b, off, rfl, ?_, fun i hi => ?_⟩
        · exact World.block_lt_of_cell? w _ hc
        · have := hcell i (by omega)
          have e : (⟨b, off, none⟩ : Addr).add i = ⟨b, off + i, none⟩ := by simp [Addr.add]
          rw [e] at this
          rw [this]
          simp [hi]

/-- An empty slice that the call itself has made. -/
theorem own_new0 (w : World) (base : Nat) (hb : base ≤ w.heap.size) : Own (w.alloc (.cells #[] 5)) base (.slice (some ⟨w.heap.size, 0, none⟩) 0 0) [] :=
  ⟨World.ownsRow_made w #[] 0 hb (by decide) rfl, by simp⟩

/-- Two slices that lie in blocks of their own. -/
theorem Own.block {w : World} {base : Nat} {v : Value} {zs : List Int} (h : Own w base v zs) (hz : 0 < zs.length) : ∃ g cap, v = .slice (some ⟨g, 0, none⟩) zs.length cap ∧ zs.length ≤ cap ∧ base ≤ g ∧ g < w.heap.size := by
  obtain ⟨⟨h1, h2⟩, h3⟩ := h
  rcases h2 with ⟨rfl, h⟩ | ⟨g, cap, cur, rfl, hb, hh, hn, hm, hs, ht⟩
  · omega
  · refine ⟨g, cap, rfl, hn, hb, ?_⟩
    rcases Nat.lt_or_ge g w.heap.size with h | h
    · exact h
    · rw [Array.getElem?_eq_none h] at hh; cases hh

theorem cb_set (zs : List Int) (j : Nat) (z : Int) : (cb zs).set j (.int .u8 z) = cb (zs.set j z) := by simp [cb, List.map_set]

/-- A byte of what is the call's own: it is there, it may be written, and what the slice holds behind it. -/
theorem Own.at {w : World} {base : Nat} {g cap n : Nat} {zs : List Int} (h : Own w base (.slice (some ⟨g, 0, none⟩) n cap) zs) (hn : n = zs.length) (j : Nat) (hj : j < n) :
    w.cell? ⟨g, j, none⟩ = some (.int .u8 (zs.getD j 0)) ∧ w.frozen? ⟨g, j, none⟩ = false ∧
    ∀ z, 0 ≤ z ∧ z ≤ 255 → Own (w.setCell ⟨g, j, none⟩ (.int .u8 z)) base (.slice (some ⟨g, 0, none⟩) n cap) (zs.set j z) := by
  subst hn
  refine ⟨?_, h.1.frozenAt j, fun z hz => ⟨?_, ?_⟩⟩
  · rw [h.1.cellAt j (by omega)]
    simp [cb, hj]
  · have := (h.1.stored j (.int .u8 z)).1
    rw [cb_set] at this
    rw [List.length_set]
    exact this
  · intro y hy
    rcases List.mem_or_eq_of_mem_set hy with h' | rfl
    · exact h.2 y h'
    · exact hz

/-- What is the call's own, as bytes to be read. -/
theorem Own.bs {w : World} {base : Nat} {g cap n : Nat} {zs : List Int} (h : Own w base (.slice (some ⟨g, 0, none⟩) n cap) zs) (hn : n = zs.length) : Bs w (some ⟨g, 0, none⟩) n zs := by
  subst hn
  obtain ⟨a', c', e1, e2, e3, e4⟩ := h.slice
  cases e1
  exact e4

theorem Own.drewN {w : World} {base : Nat} {v : Value} {zs : List Int} (h : Own w base v zs) (k : Nat) : Own (w.drewN k) base v zs := h

/-- What was made later lies elsewhere. -/
theorem Own.apart {w : World} {base : Nat} {v : Value} {zs : List Int} (h : Own w base v zs) {g : Nat} (hg : g < base) : v.ownBlock ≠ some g := fun e => by
  have := (h.1.lt g e).1
  omega

theorem Own.setCell_other {w : World} {base : Nat} {v : Value} {zs : List Int} (h : Own w base v zs) {a : Addr} (ha : v.ownBlock ≠ some a.block) (u : Value) : Own (w.setCell a u) base v zs :=
  ⟨ownsRow_setCell_other h.1 ha u, h.2⟩
end Go.Proofs.Ytoleabndfajcbaa
