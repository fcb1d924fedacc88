/-
  What came into a law as a slice of calls.
-/
import Derived.Test.YtngkapddobgfaaaDiskModel
namespace Go.Proofs.Ytngkapddobgfaaa
open Go.RowKit Go.Maps
set_option linter.unusedVariables false

def acells (rs : List ARef) : List Value := rs.flatMap ARef.cells
theorem acells_cons (r : ARef) (rs : List ARef) : acells (r :: rs) = .int .i64 r.kind :: .string r.name :: .string r.to :: .slice r.a r.n r.c :: .int .i64 r.num :: .int .i64 r.torn :: acells rs := rfl
theorem acells_length (rs : List ARef) : (acells rs).length = rs.length * 6 := by
  induction rs with
  | nil => rfl
  | cons r rs ih => rw [acells_cons]; simp [ih]; omega
theorem acells_at (rs : List ARef) (k : Nat) (r : ARef) (h : rs[k]? = some r) (j : Nat) (hj : j < 6) : (acells rs)[k * 6 + j]? = r.cells[j]? := by
  induction rs generalizing k with
  | nil => simp at h
  | cons x rs ih =>
    cases k with
    | zero =>
      have : x = r := by simpa using h
      subst this
      show (ARef.cells x ++ acells rs)[0 * 6 + j]? = _
      rw [Nat.zero_mul, Nat.zero_add, List.getElem?_append_left (by simpa [ARef.cells] using hj)]
    | succ k =>
      have := ih k (by simpa using h)
      show (ARef.cells x ++ acells rs)[(k + 1) * 6 + j]? = _
      rw [List.getElem?_append_right (by simp [ARef.cells]; omega), show (k + 1) * 6 + j - (ARef.cells x).length = k * 6 + j by simp [ARef.cells]; omega]
      exact this

/-- A call that came in: its bytes are there, its numbers and names are within bounds. -/
def ARef.inn (w : World) (r : ARef) : Prop := r.ok w ∧ r.name.size ≤ maxLen ∧ r.to.size ≤ maxLen ∧ (-9223372036854775808 ≤ r.num ∧ r.num ≤ 9223372036854775807) ∧ (-9223372036854775808 ≤ r.torn ∧ r.torn ≤ 9223372036854775807) ∧ ∀ x, r.a = some x → 0 < r.n → x.block < w.heap.size

/-- A slice of calls that is read. -/
def As (w : World) (a : Option Addr) (n c : Nat) (rs : List ARef) : Prop :=
  n = rs.length ∧ n ≤ c ∧ c ≤ maxLen ∧ (a = none → n = 0 ∧ c = 0) ∧ Cs w a (acells rs) ∧ ∀ r ∈ rs, r.inn w

theorem wf_i64 {n : Int} (h : (Lit.int .i64 n).wf = true) : -9223372036854775808 ≤ n ∧ n ≤ 9223372036854775807 := by
  simpa [Lit.wf, IntKind.min, IntKind.max, IntKind.signed, IntKind.bits] using h

theorem six {α : Type} (l : List α) (h : l.length = 6) : ∃ a b c d e f, l = [a, b, c, d, e, f] := by
  match l, h with
  | [a, b, c, d, e, f], _ => exact ⟨a, b, c, d, e, f, rfl⟩

section
variable {H : Type} {enc : TypeId × Value → H} {w : World} {held : Bool}

set_option maxRecDepth 20000 in
/-- One call. -/
theorem open_act {fuel : Nat} {cs : List Value} {x : DataW H × List MemPlace} (h : DataW.trod enc Try.prog w 0 (fun _ => true) held fuel 36 cs = some x) : ∃ r : ARef, cs = r.cells ∧ r.inn w := by
  obtain ⟨xs, n, rfl, _, hl, hx, hf⟩ := DataW.trod_struct Try.underlying36 h
  have hl6 : cs.length = 6 := by rw [hl]; kernel_rfl
  have hx6 : xs.length = 6 := by rw [hx]; rfl
  have h0 := hf 0 _ rfl
  have h1 := hf 1 _ rfl
  have h2 := hf 2 _ rfl
  have h3 := hf 3 _ rfl
  have h4 := hf 4 _ rfl
  have h5 := hf 5 _ rfl
  rw [List.getElem?_eq_getElem (by omega)] at h0 h1 h2 h3 h4 h5
  obtain ⟨z0, e0, _, w0⟩ := DataW.trod_int Try.underlying3 h0
  obtain ⟨z1, e1, _, w1⟩ := DataW.trod_string Try.underlying9 h1
  obtain ⟨z2, e2, _, w2⟩ := DataW.trod_string Try.underlying9 h2
  obtain ⟨z4, e4, _, w4⟩ := DataW.trod_int Try.underlying3 h4
  obtain ⟨z5, e5, _, w5⟩ := DataW.trod_int Try.underlying3 h5
  obtain ⟨c0, c1, c2, c3, c4, c5, rfl⟩ := six cs hl6
  · clear h hl hl6
    have k3 : Try.prog.cellsOf 3 = 1 := by kernel_rfl
    have k9 : Try.prog.cellsOf 9 = 1 := by kernel_rfl
    have k32 : Try.prog.cellsOf 32 = 1 := by kernel_rfl
    have g0 : c0 = .int .i64 z0 := by simpa [k3, k9, k32] using e0
    have g1 : c1 = .string z1 := by simpa [k3, k9, k32] using e1
    have g2 : c2 = .string z2 := by simpa [k3, k9, k32] using e2
    have g4 : c4 = .int .i64 z4 := by simpa [k3, k9, k32] using e4
    have g5 : c5 = .int .i64 z5 := by simpa [k3, k9, k32] using e5
    rcases ChangeShapes.open_ints Try.underlying32 Try.underlying5 (by kernel_rfl) h3 with ⟨hcs, _⟩ | ⟨y, l, c, zs, hcs, _, hl2, hm, hz, _, hcell, hwz⟩
    · have g3 : c3 = .slice none 0 0 := by simpa [k3, k9, k32] using hcs
      refine ⟨⟨z0, z1, z2, none, 0, 0, [], z4, z5⟩, by rw [g0, g1, g2, g3, g4, g5]; rfl, ⟨fun _ => ⟨rfl, rfl⟩, Nat.le_refl _, Nat.zero_le _, Bs.empty _ _⟩, w1, w2, wf_i64 w4, wf_i64 w5, fun x hx => by cases hx⟩
    · have g3 : c3 = .slice (some y) l c := by simpa [k3, k9, k32] using hcs
      obtain ⟨hn, hb⟩ := bs_of_row (w := w) (a := some y) (len := l) (cap := c) (zs := zs) (.inr ⟨y, rfl, hl2, hm, by simpa using hz, hcell, hwz⟩)
      refine ⟨⟨z0, z1, z2, some y, l, c, zs.take l, z4, z5⟩, by rw [g0, g1, g2, g3, g4, g5]; rfl, ⟨hn, hl2, hm, hb⟩, w1, w2, wf_i64 w4, wf_i64 w5, fun x hx h0 => ?_⟩
      cases hx
      rcases hb.2.2 with h9 | ⟨b, off, e, hlt, _⟩
      · simp only at h0; omega
      · cases e; exact hlt

set_option maxRecDepth 20000 in
theorem open_acts {fuel : Nat} {a : Option Addr} {len cap : Nat} {x : DataW H × List MemPlace} (h : DataW.trod enc Try.prog w 0 (fun _ => true) held fuel 22 [.slice a len cap] = some x) : ∃ rs, As w a len cap rs := by
  rcases DataW.trod_slice Try.underlying22 h with ⟨hcs, _⟩ | ⟨ad, l, c, elems, rest, n, rfl, hcs, _, _, hl, hm, hel, hr, _⟩
  · cases hcs
    exact ⟨[], rfl, Nat.le_refl _, Nat.zero_le _, fun _ => ⟨rfl, rfl⟩, Cs.nil _ _, by simp⟩
  · cases hcs
    have each : ∀ i, i < len → ∃ r : ARef, r.inn w ∧ ∀ j, j < 6 → w.cell? (ad.add (i * 6 + j)) = r.cells[j]? := by
      intro i hi
      have h1 := hr i hi
      rw [show Try.prog.cellsOf 36 = 6 by kernel_rfl, List.getElem?_eq_getElem (by omega), Option.bind_eq_some_iff] at h1
      obtain ⟨cs, h2, h3⟩ := h1
      obtain ⟨_, h4, h5⟩ := World.cells?_some h2
      obtain ⟨r, rfl, h6⟩ := open_act h3
      refine ⟨r, h6, fun j hj => ?_⟩
      have h7 := h5 j hj
      rwa [Addr.add_add] at h7
    obtain ⟨R, hR⟩ : ∃ R : Nat → ARef, ∀ i, i < len → (R i).inn w ∧ ∀ j, j < 6 → w.cell? (ad.add (i * 6 + j)) = (R i).cells[j]? := by
      refine ⟨fun i => if hi : i < len then (each i hi).choose else ⟨0, ByteArray.empty, ByteArray.empty, none, 0, 0, [], 0, 0⟩, fun i hi => ?_⟩
      simp only [hi, dif_pos]
      exact (each i hi).choose_spec
    refine ⟨(List.range len).map R, by simp, hl, hm, (fun e => by cases e), ?_, fun r hr => ?_⟩
    · rcases Nat.eq_zero_or_pos len with h0 | h0
      · subst h0; exact .inl rfl
      · obtain ⟨b, off, spot⟩ := ad
        have hc := (hR 0 h0).2 0 (by omega)
        have hc' : w.cell? ((⟨b, off, spot⟩ : Addr).add 0) = some (.int .i64 (R 0).kind) := by simpa [ARef.cells] using hc
        have hspot : spot = none := by simpa [Addr.add] using World.cell?_spot hc'
        subst hspot
        rw [Addr.add_lit] at hc'
        refine .inr ⟨b, off, rfl, World.block_lt_of_cell? w _ hc', fun i hi => ?_⟩
        rw [acells_length, List.length_map, List.length_range] at hi
        have hq : i / 6 < len := by omega
        have h8 := (hR (i / 6) hq).2 (i % 6) (by omega)
        rw [Addr.add_lit, show i / 6 * 6 + i % 6 = i by omega] at h8
        rw [h8, ← acells_at ((List.range len).map R) (i / 6) (R (i / 6)) (by simp [hq]) (i % 6) (by omega), show i / 6 * 6 + i % 6 = i by omega]
    · obtain ⟨i, hi, rfl⟩ := List.mem_map.1 hr
      exact (hR i (List.mem_range.1 hi)).1
end
end Go.Proofs.Ytngkapddobgfaaa
