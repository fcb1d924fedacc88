/-
  Files in memory: what a slice of the document's files holds.
-/
import Derived.Test.YtngkapddobgfaaaRowMem
namespace Go.Proofs.Ytngkapddobgfaaa
open Go.RowKit
set_option linter.unusedVariables false

/-- A file as it lies in memory: its name, the slice of its bytes, and the bytes. -/
structure FRef where
  name : ByteArray
  a : Option Addr
  n : Nat
  c : Nat
  zs : List Int

/-- A file: its name and its bytes. -/
abbrev FileL := List UInt8 × List Int

def FRef.file (r : FRef) : FileL := (r.name.toList, r.zs)
def FRef.cells (r : FRef) : List Value := [.string r.name, .slice r.a r.n r.c]
def FRef.ok (w : World) (r : FRef) : Prop := (r.a = none → r.n = 0 ∧ r.c = 0) ∧ r.n ≤ r.c ∧ r.c ≤ maxLen ∧ Bs w r.a r.n r.zs
def fcells (rs : List FRef) : List Value := rs.flatMap FRef.cells

theorem fcells_cons (r : FRef) (rs : List FRef) : fcells (r :: rs) = .string r.name :: .slice r.a r.n r.c :: fcells rs := rfl
theorem fcells_append (a b : List FRef) : fcells (a ++ b) = fcells a ++ fcells b := by simp [fcells]
theorem fcells_length (rs : List FRef) : (fcells rs).length = rs.length * 2 := by
  induction rs with
  | nil => rfl
  | cons r rs ih => rw [fcells_cons]; simp [ih]; omega
theorem fcells_at (rs : List FRef) (i : Nat) (h : i < rs.length) : (fcells rs)[i * 2]? = some (.string rs[i].name) ∧ (fcells rs)[i * 2 + 1]? = some (.slice rs[i].a rs[i].n rs[i].c) := by
  induction rs generalizing i with
  | nil => simp at h
  | cons r rs ih =>
    cases i with
    | zero => simp [fcells_cons]
    | succ i =>
      have := ih i (by simpa using h)
      rw [fcells_cons, show (i + 1) * 2 = i * 2 + 1 + 1 by omega]
      simpa using this
theorem fcells_take (rs : List FRef) (k : Nat) : (fcells rs).take (k * 2) = fcells (rs.take k) := by
  induction rs generalizing k with
  | nil => simp [fcells]
  | cons r rs ih =>
    cases k with
    | zero => simp [fcells]
    | succ k => rw [fcells_cons, show (k + 1) * 2 = k * 2 + 1 + 1 by omega]; simp [fcells_cons, ih]
theorem fcells_drop (rs : List FRef) (k : Nat) : (fcells rs).drop (k * 2) = fcells (rs.drop k) := by
  induction rs generalizing k with
  | nil => simp [fcells]
  | cons r rs ih =>
    cases k with
    | zero => simp
    | succ k => rw [fcells_cons, show (k + 1) * 2 = k * 2 + 1 + 1 by omega]; simp [ih]
theorem fcells_oneCell (rs : List FRef) : ∀ u ∈ fcells rs, u.oneCell' = true := by
  induction rs with
  | nil => simp [fcells]
  | cons r rs ih =>
    intro u hu
    rw [fcells_cons] at hu
    simp only [List.mem_cons] at hu
    rcases hu with rfl | rfl | hu
    · rfl
    · rfl
    · exact ih u hu

theorem FRef.ok.below {B : Nat} {w w' : World} {r : FRef} (h : r.ok w) (hb : Below B w w') (hB : w.heap.size ≤ B) : r.ok w' :=
  ⟨h.1, h.2.1, h.2.2.1, h.2.2.2.below hb hB⟩

/-- A slice of files: its head, its length, its capacity, and what it holds. -/
def Fs (w : World) (a : Option Addr) (n c : Nat) (rs : List FRef) : Prop :=
  n = rs.length ∧ n ≤ c ∧ (a = none → n = 0 ∧ c = 0) ∧ Cs w a (fcells rs) ∧ ∀ r ∈ rs, r.ok w

theorem Fs.below {B : Nat} {w w' : World} {a : Option Addr} {n c : Nat} {rs : List FRef} (h : Fs w a n c rs) (hb : Below B w w') (hB : w.heap.size ≤ B) : Fs w' a n c rs :=
  ⟨h.1, h.2.1, h.2.2.1, h.2.2.2.1.below hb hB, fun r hr => (h.2.2.2.2 r hr).below hb hB⟩

theorem Fs.nil (w : World) : Fs w none 0 0 [] := ⟨rfl, by omega, fun _ => ⟨rfl, rfl⟩, .inl rfl, by simp⟩

/-- The cells of the file at a place. -/
theorem Fs.at {w : World} {a : Option Addr} {n c : Nat} {rs : List FRef} (h : Fs w a n c rs) {i : Nat} (hi : i < n) :
    ∃ b off r, a = some ⟨b, off, none⟩ ∧ rs[i]? = some r ∧ r.ok w ∧ w.cell? ⟨b, off + i * 2, none⟩ = some (.string r.name) ∧ w.cell? ⟨b, off + i * 2 + 1, none⟩ = some (.slice r.a r.n r.c) := by
  obtain ⟨h1, h2, h3, h4, h5⟩ := h
  have hil : i < rs.length := by omega
  rcases h4 with h4 | ⟨b, off, rfl, hlt, hc⟩
  · have := fcells_length rs
    rw [h4] at this
    simp at this
    omega
  · have hl := fcells_length rs
    obtain ⟨e1, e2⟩ := fcells_at rs i hil
    refine ⟨b, off, rs[i], rfl, by simp [hil], h5 _ (List.getElem_mem hil), ?_, ?_⟩
    · rw [hc (i * 2) (by omega), e1]
    · rw [Nat.add_assoc, hc (i * 2 + 1) (by omega), e2]

/-- A slice of files that is the call's own. -/
def OwnF (w : World) (base : Nat) (v : Value) (rs : List FRef) : Prop :=
  w.ownsRow base 71 2 v rs.length (fcells rs) ∧ ∀ r ∈ rs, r.ok w

theorem OwnF.fs {w : World} {base : Nat} {v : Value} {rs : List FRef} (h : OwnF w base v rs) : ∃ a c, v = .slice a rs.length c ∧ Fs w a rs.length c rs := by
  obtain ⟨a, c, e, h1, h2, h3, h4⟩ := ownsRow_cs h.1
  exact ⟨a, c, e, rfl, h1, h3, h4, h.2⟩
theorem OwnF.below {B : Nat} {w w' : World} {base : Nat} {v : Value} {rs : List FRef} (h : OwnF w base v rs) (hb : Below B w w') (hB : w.heap.size ≤ B) : OwnF w' base v rs :=
  ⟨ownsRow_below h.1 hb hB, fun r hr => (h.2 r hr).below hb hB⟩
theorem OwnF.mono {w : World} {base base' : Nat} {v : Value} {rs : List FRef} (h : OwnF w base v rs) (hb : base' ≤ base) : OwnF w base' v rs := ⟨ownsRow_mono h.1 hb, h.2⟩
theorem OwnF.nil (w : World) (base : Nat) : OwnF w base (.slice none 0 0) [] := ⟨World.ownsRow_nil _ _ _ _, by simp⟩

theorem OwnF.alloc {w : World} {base : Nat} {v : Value} {rs : List FRef} (h : OwnF w base v rs) (o : Obj) : OwnF (w.alloc o) base v rs :=
  ⟨h.1.alloc o, fun r hr => (h.2 r hr).below ((Below.refl w.heap.size w).alloc (Nat.le_refl _) o) (Nat.le_refl _)⟩

theorem filter_take {α : Type} (l : List α) (p : α → Bool) (k : Nat) (r : α) (h : l[k]? = some r) : (l.take (k + 1)).filter p = (l.take k).filter p ++ (if p r then [r] else []) := by
  have hk : k < l.length := by
    rcases Nat.lt_or_ge k l.length with h' | h'
    · exact h'
    · rw [List.getElem?_eq_none h'] at h; cases h
  rw [List.take_succ_eq_append_getElem hk, List.filter_append]
  rw [List.getElem?_eq_getElem hk] at h
  cases h
  cases hp : p l[k] <;> simp [hp]

/-- The first place of a name. -/
def findF (fs : List FileL) (name : List UInt8) : Option Nat := fs.findIdx? (fun f => f.1 == name)
def findZ (fs : List FileL) (name : List UInt8) : Int := match findF fs name with | some i => i | none => -1

theorem findZ_at {fs : List FileL} {name : List UInt8} {k : Nat} {f : FileL} (hf : fs[k]? = some f) (he : f.1 = name) (hall : ∀ (j : Nat) (g : FileL), j < k → fs[j]? = some g → g.1 ≠ name) : findZ fs name = (k : Int) := by
  have hk : k < fs.length := by
    rcases Nat.lt_or_ge k fs.length with h | h
    · exact h
    · rw [List.getElem?_eq_none h] at hf; cases hf
  have : findF fs name = some k := by
    unfold findF
    rw [List.findIdx?_eq_some_iff_getElem]
    refine ⟨hk, ?_, fun j hj => ?_⟩
    · rw [List.getElem?_eq_getElem hk] at hf
      cases hf
      simpa using he
    · have := hall j fs[j] hj (by simp [show j < fs.length by omega])
      simpa using this
  simp [findZ, this]
theorem findZ_none {fs : List FileL} {name : List UInt8} (hall : ∀ (j : Nat) (g : FileL), fs[j]? = some g → g.1 ≠ name) : findZ fs name = -1 := by
  have : findF fs name = none := by
    unfold findF
    rw [List.findIdx?_eq_none_iff]
    intro f hf
    obtain ⟨j, hj, rfl⟩ := List.mem_iff_getElem.1 hf
    have := hall j fs[j] (by simp [hj])
    simpa using this
  simp [findZ, this]
end Go.Proofs.Ytngkapddobgfaaa
