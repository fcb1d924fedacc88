/-
  What came into a law as a slice of bytes, and an empty slice of the call's own: no function of the program is named here.
-/
import Derived.Test.YtngkapddobgfaaaCodeMem
import Derived.OpenShut
import Derived.Laws.OwnMore
import Derived.OneCell
namespace Go.Proofs.Ytngkapddobgfaaa
open Go.RowKit
set_option linter.unusedVariables false

/-- What came in as a slice of bytes. -/
theorem bs_of_row {w : World} {a : Option Addr} {len cap : Nat} {zs : List Int}
    (h : (a = none ∧ len = 0 ∧ cap = 0 ∧ zs = []) ∨ ∃ x, a = some x ∧ len ≤ cap ∧ cap ≤ maxLen ∧ zs.length = cap ∧ (∀ i, i < zs.length → w.cell? (x.add i) = some (.int .u8 (zs.getD i 0))) ∧ ∀ n ∈ zs, (Lit.int .u8 n).wf = true) :
    (a = none → len = 0 ∧ cap = 0) ∧ Bs w a len (zs.take len) := by
  rcases h with ⟨rfl, rfl, rfl, rfl⟩ | ⟨x, rfl, hl, hm, hz, hcell, hwz⟩
  · exact ⟨fun _ => ⟨rfl, rfl⟩, rfl, by simp, .inl rfl⟩
  · refine ⟨(fun h => by cases h), by rw [List.length_take]; omega, fun z hzm => ?_, ?_⟩
    · have := hwz z (List.mem_of_mem_take hzm)
      simpa [Lit.wf, IntKind.min, IntKind.max, IntKind.signed, IntKind.bits] using this
    · rcases Nat.eq_zero_or_pos len with h0 | h0
      · exact .inl h0
      · obtain ⟨b, off, spot⟩ := x
        have hc := hcell 0 (by omega)
        have hspot : spot = none := by simpa [Addr.add] using World.cell?_spot hc
        subst hspot
        refine .inr ⟨b, off, rfl, ?_, fun i hi => ?_⟩
        · exact World.block_lt_of_cell? w _ hc
        · have := hcell i (by omega)
          have e : (⟨b, off, none⟩ : Addr).add i = ⟨b, off + i, none⟩ := by simp [Addr.add]
          rw [e] at this
          rw [this]
          simp [hi]

/-- An empty slice that the call itself has made. -/
theorem own_new0 (w : World) (base : Nat) (hb : base ≤ w.heap.size) : Own (w.alloc (.cells #[] 5)) base (.slice (some ⟨w.heap.size, 0, none⟩) 0 0) [] :=
  ⟨World.ownsRow_made w #[] 0 hb (by decide) rfl, by simp⟩

/-- Two slices that lie in blocks of their own. -/
theorem Own.block {w : World} {base : Nat} {v : Value} {zs : List Int} (h : Own w base v zs) (hz : 0 < zs.length) : ∃ g cap, v = .slice (some ⟨g, 0, none⟩) zs.length cap ∧ zs.length ≤ cap ∧ base ≤ g ∧ g < w.heap.size := by
  obtain ⟨⟨h1, h2⟩, h3⟩ := h
  rcases h2 with ⟨rfl, h⟩ | ⟨g, cap, cur, rfl, hb, hh, hn, hm, hs, ht⟩
  · omega
  · refine ⟨g, cap, rfl, hn, hb, ?_⟩
    rcases Nat.lt_or_ge g w.heap.size with h | h
    · exact h
    · rw [Array.getElem?_eq_none h] at hh; cases hh

theorem cb_set (zs : List Int) (j : Nat) (z : Int) : (cb zs).set j (.int .u8 z) = cb (zs.set j z) := by simp [cb, List.map_set]

/-- A byte of what is the call's own: it is there, it may be written, and what the slice holds behind it. -/
theorem Own.at {w : World} {base : Nat} {g cap n : Nat} {zs : List Int} (h : Own w base (.slice (some ⟨g, 0, none⟩) n cap) zs) (hn : n = zs.length) (j : Nat) (hj : j < n) :
    w.cell? ⟨g, j, none⟩ = some (.int .u8 (zs.getD j 0)) ∧ w.frozen? ⟨g, j, none⟩ = false ∧
    ∀ z, 0 ≤ z ∧ z ≤ 255 → Own (w.setCell ⟨g, j, none⟩ (.int .u8 z)) base (.slice (some ⟨g, 0, none⟩) n cap) (zs.set j z) := by
  subst hn
  refine ⟨?_, h.1.frozenAt j, fun z hz => ⟨?_, ?_⟩⟩
  · rw [h.1.cellAt j (by omega)]
    simp [cb, hj]
  · have := (h.1.stored j (.int .u8 z)).1
    rw [cb_set] at this
    rw [List.length_set]
    exact this
  · intro y hy
    rcases List.mem_or_eq_of_mem_set hy with h' | rfl
    · exact h.2 y h'
    · exact hz

/-- What is the call's own, as bytes to be read. -/
theorem Own.bs {w : World} {base : Nat} {g cap n : Nat} {zs : List Int} (h : Own w base (.slice (some ⟨g, 0, none⟩) n cap) zs) (hn : n = zs.length) : Bs w (some ⟨g, 0, none⟩) n zs := by
  subst hn
  obtain ⟨a', c', e1, e2, e3, e4⟩ := h.slice
  cases e1
  exact e4

theorem Own.drewN {w : World} {base : Nat} {v : Value} {zs : List Int} (h : Own w base v zs) (k : Nat) : Own (w.drewN k) base v zs := h

/-- What was made later lies elsewhere. -/
theorem Own.apart {w : World} {base : Nat} {v : Value} {zs : List Int} (h : Own w base v zs) {g : Nat} (hg : g < base) : v.ownBlock ≠ some g := fun e => by
  have := (h.1.lt g e).1
  omega

theorem Own.setCell_other {w : World} {base : Nat} {v : Value} {zs : List Int} (h : Own w base v zs) {a : Addr} (ha : v.ownBlock ≠ some a.block) (u : Value) : Own (w.setCell a u) base v zs :=
  ⟨ownsRow_setCell_other h.1 ha u, h.2⟩

/-- A slice of slices of bytes that came in: its head a, its length m; row r is the slice A r, L r, C r, and holds the bytes R r. -/
def Rs (w : World) (a : Option Addr) (m : Nat) (A : Nat → Option Addr) (L C : Nat → Nat) (R : Nat → List Int) : Prop :=
  (∀ r, r < m → (A r = none → L r = 0 ∧ C r = 0) ∧ Bs w (A r) (L r) (R r) ∧ L r ≤ maxLen ∧ L r ≤ C r) ∧
  (m = 0 ∨ ∃ b off, a = some ⟨b, off, none⟩ ∧ b < w.heap.size ∧ ∀ r, r < m → w.cell? ⟨b, off + r, none⟩ = some (.slice (A r) (L r) (C r)))

/-- What an opened slice of slices of bytes says. -/
def IsRows (w : World) (a : Option Addr) (len cap : Nat) : Prop :=
  (a = none ∧ len = 0 ∧ cap = 0) ∨
  ∃ (x : Addr) (A : Nat → Option Addr) (L C : Nat → Nat) (Z : Nat → List Int), a = some x ∧ len ≤ cap ∧ cap ≤ maxLen ∧
    ∀ r, r < cap → w.cell? (x.add r) = some (.slice (A r) (L r) (C r)) ∧ L r ≤ C r ∧ C r ≤ maxLen ∧ (Z r).length = C r ∧ (∀ n ∈ Z r, (Lit.int .u8 n).wf = true) ∧ (A r = none → C r = 0) ∧
      ∀ a', A r = some a' → ∀ c, c < C r → w.cell? (a'.add c) = some (.int .u8 ((Z r).getD c 0))

theorem rs_of_rows {w : World} {a : Option Addr} {len cap : Nat} (h : IsRows w a len cap) : len ≤ maxLen ∧ len ≤ cap ∧ (a = none → len = 0 ∧ cap = 0) ∧ ∃ A L C R, Rs w a len A L C R := by
  rcases h with ⟨rfl, rfl, rfl⟩ | ⟨x, A, L, C, Z, rfl, hl, hm, hr⟩
  · exact ⟨by simp, by simp, fun _ => ⟨rfl, rfl⟩, fun _ => none, fun _ => 0, fun _ => 0, fun _ => [], fun r hr => by omega, .inl rfl⟩
  · refine ⟨by omega, hl, (fun h => by cases h), A, L, C, fun r => (Z r).take (L r), fun r hrl => ?_, ?_⟩
    · obtain ⟨h1, h2, h3, h4, h5, h6, h7⟩ := hr r (by omega)
      have hb := bs_of_row (w := w) (a := A r) (len := L r) (cap := C r) (zs := Z r) (by
        cases hA : A r with
        | none =>
          have := h6 hA
          exact .inl ⟨rfl, by omega, this, List.eq_nil_of_length_eq_zero (by omega)⟩
        | some a' => exact .inr ⟨a', rfl, h2, h3, h4, fun i hi => h7 a' hA i (by omega), h5⟩)
      exact ⟨hb.1, hb.2, by omega, h2⟩
    · rcases Nat.eq_zero_or_pos len with h0 | h0
      · exact .inl h0
      · obtain ⟨b, off, spot⟩ := x
        have hc := (hr 0 (by omega)).1
        have hspot : spot = none := by simpa [Addr.add] using World.cell?_spot hc
        subst hspot
        refine .inr ⟨b, off, rfl, World.block_lt_of_cell? w _ hc, fun r hrl => ?_⟩
        have := (hr r (by omega)).1
        have e : (⟨b, off, none⟩ : Addr).add r = ⟨b, off + r, none⟩ := by simp [Addr.add]
        rw [e] at this
        exact this
end Go.Proofs.Ytngkapddobgfaaa
