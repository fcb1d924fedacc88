/-
  What is known of a call under way: slots, boxes, rows that may grow or be written, fields; all of it told by trees.
-/
import Derived.Test.YtmdhefepaolhcaaAbMem
namespace Go.Proofs.Ytmdhefepaolhcaa
open Go.RowKit
set_option linter.unusedVariables false

/-- t = 0: a value (n: the name of a row that may grow, p: where in it; 1: nil); t = 2: an address in the box n; t = 3: an address of cells that stay; t = 4: a tuple; t = 5: what is in a box; t = 6: a row that may grow; t = 9: a box whose fields are told one by one; t = 11: an address in the row n; t = 12: a part of the row n; t = 13: a row that may be written; t = 14: a map; t = 15: the map n; t = 16: a value that is not nil. -/
structure AV where
  t : Nat
  c : CV
  n : Nat
  o : Nat
  p : List Nat

abbrev AV.val (c : CV) : AV := ⟨0, c, 0, 0, []⟩
abbrev AV.own (c : CV) (n : Nat) : AV := ⟨0, c, n, 0, []⟩
abbrev AV.bp (n o : Nat) (p : List Nat) : AV := ⟨2, .row [], n, o, p⟩
abbrev AV.ad (c : CV) : AV := ⟨3, c, 0, 0, []⟩
abbrev AV.tup (l : List CV) : AV := ⟨4, .row l, 0, 0, []⟩
abbrev AV.bx (c : CV) : AV := ⟨5, c, 0, 0, []⟩
abbrev AV.tok (e z : Nat) : AV := ⟨6, .row [], 0, e, [z]⟩
abbrev AV.no : AV := ⟨7, .row [], 0, 0, []⟩
abbrev AV.obj : AV := ⟨9, .row [], 0, 0, []⟩
abbrev AV.el (n o : Nat) (p : List Nat) : AV := ⟨11, .row [], n, o, p⟩
abbrev AV.sl (n lo len z : Nat) : AV := ⟨12, .row [], n, lo, [len, z]⟩
abbrev AV.mrow (e z : Nat) (l : List CV) : AV := ⟨13, .lst l, 0, e, [z]⟩
abbrev AV.mp (l : List CV) : AV := ⟨14, .lst l, 0, 0, []⟩
abbrev AV.mref (n : Nat) : AV := ⟨15, .row [], n, 0, []⟩

abbrev AS := List (Nat × AV)
def look : AS → Nat → Option AV
  | [], _ => none
  | (d, a) :: s, k => match Nat.beq d k with | true => some a | false => look s k

theorem look_same (s : AS) (d : Nat) (a : AV) : look ((d, a) :: s) d = some a := by simp [look, Nat.beq_refl]
theorem look_ne {s : AS} {d k : Nat} {a : AV} (h : d ≠ k) : look ((d, a) :: s) k = look s k := by
  have : Nat.beq d k = false := by
    cases e : Nat.beq d k with
    | false => rfl
    | true => exact absurd (Nat.eq_of_beq_eq_true e) h
  simp [look, this]
theorem look_cons (s : AS) (d k : Nat) (a : AV) : look ((d, a) :: s) k = if d = k then some a else look s k := by
  by_cases h : d = k
  · subst h; rw [look_same, if_pos rfl]
  · rw [look_ne h, if_neg h]

/-- This row may still grow; its elements' type and how many cells they take. -/
def Live (s : AS) (n : Nat) (e : Nat × Nat) : Prop := look s n = some (.tok e.1 e.2) ∧ 200000 ≤ n ∧ n < 400000

def LiveN (s : AS) (n : Nat) : Prop := n = 1 ∨ ∃ e, Live s n e
def tokv (hv : Nat → Value) (n : Nat) : Value := if n = 1 then .slice none 0 0 else hv n
/-- The row that may grow is in this place. -/
def Tk (hv : Nat → Value) (lv : Nat → Prop) (a : AV) (xs : List Value) : Prop := lv a.n → ∃ m c, a.c.at a.p = some (m, c) ∧ xs[m]? = some (tokv hv a.n)

/-- The block of what is handed about. -/
def hb : Value → Option Nat
  | .pointer (some a) => some a.block
  | .slice (some a) _ _ => some a.block
  | .map (some r) => some r
  | _ => none
def blkOf (v : Value) : Nat := (hb v).getD 0
def lenOf : Value → Nat
  | .slice _ n _ => n
  | _ => 0
def zOf (av : AV) : Nat := match av.p with | z :: _ => z | [] => 0
def zSl (av : AV) : Nat := match av.p with | _ :: z :: _ => z | _ => 0
/-- A part of a slice. -/
def SlV (v0 : Value) (lo len z : Nat) (v : Value) : Prop := ∃ ao m cap ao', v0 = .slice ao m cap ∧ v = .slice ao' len (cap - lo) ∧ lo + len ≤ cap ∧ (lo = 0 → ao' = ao) ∧ (lo < cap → ∀ g, ao = some ⟨g, 0, none⟩ → ao' = some ⟨g, lo * z, none⟩) ∧ (ao' = none ↔ ao = none)
/-- How many cells. -/
noncomputable def AV.sz (av : AV) : Nat := match Nat.beq av.t 0 with | true => av.c.size | false => 1
/-- Names of boxes; names of rows and maps. -/
def BN (n : Nat) : Prop := n < 100000 ∨ (350000 ≤ n ∧ n < 400000)
def RN (n : Nat) : Prop := 200000 ≤ n ∧ n < 450000
def RW (n : Nat) : Prop := 200000 ≤ n ∧ n < 400000
theorem RW.rn {n : Nat} (h : RW n) : RN n := by unfold RW at h; unfold RN; omega
/-- The key of what it speaks of. -/
def hk (av : AV) : Nat := match Nat.beq av.t 2 with | true => 100000 + av.n | false => av.n

/-- Values of trees, one by one. -/
def VReps (U : Nat → Nat → Prop) (w : World) : List CV → List Value → Prop
  | [], vs => vs = []
  | c :: cs, vs => ∃ u us, vs = u :: us ∧ VRep U w c u ∧ VReps U w cs us
theorem VReps.keep {U V : Nat → Nat → Prop} {w w' : World} (hs : ∀ b o v, U b o → w.cell? ⟨b, o, none⟩ = some v → V b o ∧ w'.cell? ⟨b, o, none⟩ = some v) : ∀ {l : List CV} {vs : List Value}, VReps U w l vs → VReps V w' l vs
  | [], _, h => h
  | c :: cs, vs, ⟨u, us, e, h1, h2⟩ => ⟨u, us, e, h1.keep hs, VReps.keep hs h2⟩
theorem VReps.len {U : Nat → Nat → Prop} {w : World} : ∀ {l : List CV} {vs : List Value}, VReps U w l vs → vs.length = l.length
  | [], _, h => by have h : _ = [] := h; rw [h]; rfl
  | c :: cs, vs, ⟨u, us, e, h1, h2⟩ => by rw [e, List.length_cons, List.length_cons, VReps.len h2]
theorem VReps.at {U : Nat → Nat → Prop} {w : World} : ∀ {l : List CV} {vs : List Value}, VReps U w l vs → ∀ {i : Nat} {c : CV}, l[i]? = some c → ∃ v, vs[i]? = some v ∧ VRep U w c v
  | [], _, _, i, c, hi => by simp at hi
  | c' :: cs, vs, ⟨u, us, e, h1, h2⟩, 0, c, hi => by
    simp only [List.getElem?_cons_zero, Option.some.injEq] at hi
    exact ⟨u, by rw [e]; rfl, hi ▸ h1⟩
  | c' :: cs, vs, ⟨u, us, e, h1, h2⟩, i + 1, c, hi => by
    obtain ⟨v, h3, h4⟩ := VReps.at h2 (i := i) (c := c) (by simpa using hi)
    exact ⟨v, by rw [e]; simpa using h3, h4⟩

def isNil : Value → Bool
  | .slice none 0 0 => true
  | _ => false
def AVRep (U : Nat → Nat → Prop) (w : World) (hv : Nat → Value) (lv : Nat → Prop) (a : AV) (v : Value) : Prop :=
  if a.t = 0 then VRep U w a.c v ∧ Tk hv lv a v.cells.toList
  else if a.t = 2 then BN a.n ∧ v = .pointer (some ⟨blkOf (hv (100000 + a.n)), a.o, none⟩)
  else if a.t = 3 then ∃ b off xs, v = .pointer (some ⟨b, off, none⟩) ∧ Rep U w a.c xs ∧ ∀ i, i < xs.length → U b (off + i) ∧ w.cell? ⟨b, off + i, none⟩ = xs[i]?
  else if a.t = 4 then ∃ vs : List Value, v = .tuple vs.toArray ∧ VReps U w a.c.l vs
  else if a.t = 11 then RN a.n ∧ v = .pointer (some ⟨blkOf (hv a.n), a.o, none⟩)
  else if a.t = 12 then RN a.n ∧ SlV (hv a.n) a.o (zOf a) (zSl a) v
  else if a.t = 15 then RN a.n ∧ v = hv a.n
  else if a.t = 16 then VRep U w a.c v ∧ isNil v = false
  else True
/-- It speaks of an object. -/
def Rn (lv : Nat → Prop) (a : AV) : Prop := (a.t = 0 ∧ lv a.n ∧ a.n ≠ 1) ∨ (a.t = 2 ∧ BN a.n) ∨ ((a.t = 11 ∨ a.t = 12 ∨ a.t = 15) ∧ RN a.n)
theorem hk_eq {a : AV} : (a.t = 2 → hk a = 100000 + a.n) ∧ (a.t ≠ 2 → hk a = a.n) := by
  unfold hk
  constructor
  · intro h; rw [h]
  · intro h
    cases e : Nat.beq a.t 2 with
    | false => rfl
    | true => exact absurd (Nat.eq_of_beq_eq_true e) h

/-- What is known of a value goes on. -/
theorem AVRep.move {U V : Nat → Nat → Prop} {w w' : World} {hv hv' : Nat → Value} {lv lv' : Nat → Prop} (hs : ∀ b o v, U b o → w.cell? ⟨b, o, none⟩ = some v → V b o ∧ w'.cell? ⟨b, o, none⟩ = some v) {a : AV} {v : Value} (hl : a.t = 0 → lv' a.n → lv a.n) (hh : Rn lv' a → hv' (hk a) = hv (hk a)) (h : AVRep U w hv lv a v) : AVRep V w' hv' lv' a v := by
  unfold AVRep at h ⊢
  by_cases h0 : a.t = 0
  · rw [if_pos h0] at h ⊢
    refine ⟨h.1.keep hs, fun h1 => ?_⟩
    obtain ⟨m, c, h2, h3⟩ := h.2 (hl h0 h1)
    refine ⟨m, c, h2, ?_⟩
    rw [h3]
    unfold tokv
    by_cases h4 : a.n = 1
    · rw [if_pos h4, if_pos h4]
    · have := hh (.inl ⟨h0, h1, h4⟩)
      rw [hk_eq.2 (by omega)] at this
      rw [this]
  rw [if_neg h0] at h ⊢
  by_cases h2 : a.t = 2
  · rw [if_pos h2] at h ⊢
    have := hh (.inr (.inl ⟨h2, h.1⟩))
    rw [hk_eq.1 h2] at this
    rw [this]; exact h
  rw [if_neg h2] at h ⊢
  by_cases h3 : a.t = 3
  · rw [if_pos h3] at h ⊢
    obtain ⟨b, off, xs, h4, h5, h6⟩ := h
    refine ⟨b, off, xs, h4, h5.keep hs, fun i hi => ?_⟩
    obtain ⟨h7, h8⟩ := h6 i hi
    rw [List.getElem?_eq_getElem hi] at h8 ⊢
    exact hs _ _ _ h7 h8
  rw [if_neg h3] at h ⊢
  by_cases h4 : a.t = 4
  · rw [if_pos h4] at h ⊢
    obtain ⟨vs, h5, h6⟩ := h
    exact ⟨vs, h5, h6.keep hs⟩
  rw [if_neg h4] at h ⊢
  have hR : (a.t = 11 ∨ a.t = 12 ∨ a.t = 15) → RN a.n → hv' a.n = hv a.n := fun h6 h5 => by
    have := hh (.inr (.inr ⟨h6, h5⟩))
    rwa [hk_eq.2 h2] at this
  by_cases h11 : a.t = 11
  · rw [if_pos h11] at h ⊢; rw [hR (.inl h11) h.1]; exact h
  rw [if_neg h11] at h ⊢
  by_cases h12 : a.t = 12
  · rw [if_pos h12] at h ⊢; rw [hR (.inr (.inl h12)) h.1]; exact h
  rw [if_neg h12] at h ⊢
  by_cases h15 : a.t = 15
  · rw [if_pos h15] at h ⊢; rw [hR (.inr (.inr h15)) h.1]; exact h
  rw [if_neg h15] at h ⊢
  by_cases h16 : a.t = 16
  · rw [if_pos h16] at h ⊢; exact ⟨h.1.keep hs, h.2⟩
  rw [if_neg h16]
  trivial
theorem hk_ne_box {lv : Nat → Prop} {a : AV} {d : Nat} (hd : d < 100000) (hlv : ∀ n, lv n → n = 1 ∨ RN n) (hr : a.n ≠ d) (h : Rn lv a) : hk a ≠ 100000 + d := by
  rcases h with ⟨h1, h2, h3⟩ | ⟨h1, h2⟩ | ⟨h1, h2⟩
  · rw [hk_eq.2 (by omega)]
    rcases hlv _ h2 with h4 | h4
    · exact absurd h4 h3
    · unfold RN at h4; omega
  · rw [hk_eq.1 h1]; omega
  · rw [hk_eq.2 (by omega)]; unfold RN at h2; omega
theorem hk_ne_row {lv : Nat → Prop} {a : AV} {n : Nat} (hn : RN n) (hr : a.n ≠ n) (h : Rn lv a) : hk a ≠ n := by
  rcases h with ⟨h1, h2, h3⟩ | ⟨h1, h2⟩ | ⟨h1, h2⟩
  · rw [hk_eq.2 (by omega)]; exact hr
  · rw [hk_eq.1 h1]; unfold BN at h2; unfold RN at hn; omega
  · rw [hk_eq.2 (by omega)]; exact hr
theorem liveN_rn {s : AS} {n : Nat} (h : LiveN s n) : n = 1 ∨ RN n := h.imp id fun ⟨e, he⟩ => ⟨he.2.1, Nat.lt_trans he.2.2 (by omega)⟩
theorem AVRep.keep {U V : Nat → Nat → Prop} {w w' : World} {hv : Nat → Value} {lv : Nat → Prop} (hs : ∀ b o v, U b o → w.cell? ⟨b, o, none⟩ = some v → V b o ∧ w'.cell? ⟨b, o, none⟩ = some v) {a : AV} {v : Value} (h : AVRep U w hv lv a v) : AVRep V w' hv lv a v := h.move hs (fun _ h => h) (fun _ => rfl)

/-- Of a map's rows. -/
def Ent (U : Nat → Nat → Prop) (w : World) (c : CV) (e : MapEntry) : Prop := ∃ k v : CV, c = .row [k, v] ∧ k.k = 0 ∧ e.key = k.v ∧ VRep U w v e.val
def Ents (U : Nat → Nat → Prop) (w : World) : List CV → List MapEntry → Prop
  | [], es => es = []
  | c :: cs, es => ∃ e es', es = e :: es' ∧ Ent U w c e ∧ Ents U w cs es'
theorem Ents.keep {U V : Nat → Nat → Prop} {w w' : World} (hs : ∀ b o v, U b o → w.cell? ⟨b, o, none⟩ = some v → V b o ∧ w'.cell? ⟨b, o, none⟩ = some v) : ∀ {l : List CV} {es : List MapEntry}, Ents U w l es → Ents V w' l es
  | [], _, h => h
  | c :: cs, es, ⟨e, es', h1, ⟨k, v, h2, h3, h4, h5⟩, h6⟩ => ⟨e, es', h1, ⟨k, v, h2, h3, h4, h5.keep hs⟩, Ents.keep hs h6⟩

/-- What is in a box, in a row, in a map. -/
def OC (U : Nat → Nat → Prop) (w : World) (hv : Nat → Value) (lv : Nat → Prop) (av : AV) (v : Value) : Prop :=
  if av.t = 5 then ∃ g xs ty, v = .pointer (some ⟨g, 0, none⟩) ∧ w.heap[g]? = some (.cells xs.toArray ty (0, 0)) ∧ Rep U w av.c xs ∧ Tk hv lv av xs
  else if av.t = 6 then ∃ k xs, w.ownsRow 0 av.o (zOf av) v k xs ∧ 0 < zOf av
  else if av.t = 9 then ∃ g xs ty, v = .pointer (some ⟨g, 0, none⟩) ∧ w.heap[g]? = some (.cells xs ty (0, 0))
  else if av.t = 13 then ∃ xs, w.ownsRow 0 av.o (zOf av) v av.c.l.length xs ∧ 0 < zOf av ∧ (∀ c ∈ av.c.l, c.size = zOf av) ∧ Sq (av.c.l.map fun c => Rep U w c) xs
  else if av.t = 14 then ∃ g es clock, v = .map (some g) ∧ w.heap[g]? = some (.map es clock) ∧ Ents U w av.c.l es.toList ∧ (∀ e ∈ es, e.born < clock) ∧ (es.toList.map (·.born)).Nodup
  else True

theorem ownsRow_same {w w' : World} {base : Nat} {e : TypeId} {z : Nat} {v : Value} {k : Nat} {xs : List Value} (h : w.ownsRow base e z v k xs) (hb : ∀ g, hb v = some g → w'.heap[g]? = w.heap[g]?) : w'.ownsRow base e z v k xs := by
  refine ⟨h.1, ?_⟩
  rcases h.2 with h6 | ⟨g, cap, cur, h6, h7, h8, h9⟩
  · exact .inl h6
  · refine .inr ⟨g, cap, cur, h6, h7, ?_, h9⟩
    rw [hb g (by rw [h6]; rfl)]
    exact h8

theorem OC.move {U V : Nat → Nat → Prop} {w w' : World} {hv hv' : Nat → Value} {lv lv' : Nat → Prop} (hs : ∀ b o v, U b o → w.cell? ⟨b, o, none⟩ = some v → V b o ∧ w'.cell? ⟨b, o, none⟩ = some v) {av : AV} {v : Value} (hl : av.t = 5 → lv' av.n → lv av.n ∧ tokv hv' av.n = tokv hv av.n) (hblk : ∀ g, hb v = some g → w'.heap[g]? = w.heap[g]?) (h : OC U w hv lv av v) : OC V w' hv' lv' av v := by
  unfold OC at h ⊢
  by_cases h5 : av.t = 5
  · rw [if_pos h5] at h ⊢
    obtain ⟨g, xs, ty, e, h1, h2, h3⟩ := h
    refine ⟨g, xs, ty, e, by rw [hblk g (by rw [e]; rfl)]; exact h1, h2.keep hs, fun h4 => ?_⟩
    obtain ⟨h6, h7⟩ := hl h5 h4
    obtain ⟨m, c, h8, h9⟩ := h3 h6
    exact ⟨m, c, h8, by rw [h9, h7]⟩
  rw [if_neg h5] at h ⊢
  by_cases h6 : av.t = 6
  · rw [if_pos h6] at h ⊢
    obtain ⟨k, xs, h1, h2⟩ := h
    exact ⟨k, xs, ownsRow_same h1 hblk, h2⟩
  rw [if_neg h6] at h ⊢
  by_cases h9 : av.t = 9
  · rw [if_pos h9] at h ⊢
    obtain ⟨g, xs, ty, e, h1⟩ := h
    exact ⟨g, xs, ty, e, by rw [hblk g (by rw [e]; rfl)]; exact h1⟩
  rw [if_neg h9] at h ⊢
  by_cases h13 : av.t = 13
  · rw [if_pos h13] at h ⊢
    obtain ⟨xs, h1, h2, h3, h4⟩ := h
    exact ⟨xs, ownsRow_same h1 hblk, h2, h3, h4.keep hs⟩
  rw [if_neg h13] at h ⊢
  by_cases h14 : av.t = 14
  · rw [if_pos h14] at h ⊢
    obtain ⟨g, es, clock, e, h1, h2, h3⟩ := h
    exact ⟨g, es, clock, e, by rw [hblk g (by rw [e]; rfl)]; exact h1, h2.keep hs, h3⟩
  rw [if_neg h14]
  trivial

/-- m: the cells that may be read; x: the blocks of what was lent; f: where what was lent lies and stays. -/
structure UX where
  m : Nat → Nat → Prop
  x : Nat → Prop
  f : Nat → Option Value
  hf : ∀ k v, f k = some v → 400000 ≤ k ∧ k < 500000

/-- All blocks but what was lent are as they were. -/
structure BelowX (X : Nat → Prop) (w w' : World) : Prop where
  os : w'.os = w.os
  tape : w'.tape = w.tape
  output : w'.output = w.output
  size : w.heap.size ≤ w'.heap.size
  block : ∀ k, k < w.heap.size → ¬ X k → w'.heap[k]? = w.heap[k]?
theorem BelowX.refl (X : Nat → Prop) (w : World) : BelowX X w w := ⟨rfl, rfl, rfl, Nat.le_refl _, fun _ _ _ => rfl⟩
theorem BelowX.step {X : Nat → Prop} {w w1 w2 : World} (h : BelowX X w w1) (h2 : Below w1.heap.size w1 w2) : BelowX X w w2 :=
  ⟨h2.os.trans h.os, h2.tape.trans h.tape, h2.output.trans h.output, Nat.le_trans h.size h2.size, fun k hk hx => (h2.block k (Nat.lt_of_lt_of_le hk h.size)).trans (h.block k hk hx)⟩
theorem BelowX.below {X : Nat → Prop} {w w1 : World} (h : BelowX X w w1) (hx : ∀ k, ¬ X k) : Below w.heap.size w w1 :=
  ⟨h.os, h.tape, h.output, h.size, fun k hk => h.block k hk (hx k)⟩

section
variable (w0 : World) (U0 : UX) (nt : Nat)

/-- The cells that stay: the caller's, and those of D. -/
def Us (D : Nat → Nat → Prop) (b o : Nat) : Prop := (b < w0.heap.size ∧ U0.m b o ∧ ¬ U0.x b) ∨ (w0.heap.size ≤ b ∧ D b o)
/-- A block that may be written. -/
def Mn (t g : Nat) : Prop := w0.heap.size ≤ g ∨ (t ≠ 6 ∧ U0.x g)
def NoD (D : Nat → Nat → Prop) (av : AV) (v : Value) (g : Nat) : Prop := ∀ o, (av.t = 6 → lenOf v * zOf av ≤ o) → ¬ D g o
/-- 6: it is the call's own. -/
def lcl (k : Nat) (av : AV) : Nat := match Nat.blt k 300000 with | true => 6 | false => av.t
/-- An object's key. -/
def oKey (k : Nat) : Prop := 100000 ≤ k ∧ k < 500000
def fKey (n o : Nat) : Nat := 500000 + (100 * n + o)

/-- D: cells that stay; hv: where boxes, rows and maps lie. -/
structure SimG (s : AS) (a : Act) (w : World) (D : Nat → Nat → Prop) (hv : Nat → Value) : Prop where
  below : BelowX U0.x w0 w
  dfr : a.defers = []
  size : a.tmps.size = nt
  slot : ∀ d av, look s d = some av → d < 100000 → ∃ v, a.tmps[d]? = some v ∧ AVRep (Us w0 U0 D) w hv (LiveN s) av v
  fld : ∀ n o av, look s (fKey n o) = some av → o < 100 → look s (100000 + n) = some .obj → BN n → ∃ v, AVRep (Us w0 U0 D) w hv (LiveN s) av v ∧ v.cells.size = av.sz ∧ ∀ i, i < v.cells.size → w.cell? ⟨blkOf (hv (100000 + n)), o + i, none⟩ = v.cells[i]?
  fdis : ∀ n o o' av av', look s (fKey n o) = some av → look s (fKey n o') = some av' → o < 100 → o' < 100 → o < o' → o + av.sz ≤ o'
  obj : ∀ k av, look s k = some av → oKey k → OC (Us w0 U0 D) w hv (LiveN s) av (hv k)
  blk : ∀ k av g, look s k = some av → oKey k → av.t ≠ 7 → hb (hv k) = some g → Mn w0 U0 (lcl k av) g ∧ g < w.heap.size ∧ NoD D av (hv k) g
  disj : ∀ k k' av av' g, look s k = some av → look s k' = some av' → oKey k → oKey k' → av.t ≠ 7 → av'.t ≠ 7 → k ≠ k' → hb (hv k) = some g → hb (hv k') ≠ some g
  fix : ∀ k v, U0.f k = some v → hv k = v
  dlt : ∀ b o, D b o → b < w.heap.size

def Sim (s : AS) (a : Act) (w : World) : Prop := ∃ D hv, SimG w0 U0 nt s a w D hv
end

section
variable {w0 : World} {U0 : UX} {nt : Nat} {s : AS} {a : Act} {w : World} {D : Nat → Nat → Prop} {hv : Nat → Value}

theorem SimG.congr (h : SimG w0 U0 nt s a w D hv) {s' : AS} (he : ∀ k, look s' k = look s k) : SimG w0 U0 nt s' a w D hv := by
  have hl : ∀ n e, Live s' n e ↔ Live s n e := fun n e => by unfold Live; rw [he]
  have hl2 : LiveN s' = LiveN s := by funext n; simp only [LiveN, hl]
  refine ⟨h.below, h.dfr, h.size, fun d av h1 h2 => ?_, fun n o av h1 h2 h3 h4 => ?_, fun n o o' av av' h1 h2 => ?_, fun k av h1 h2 => ?_, fun k av g h1 => ?_, fun k k' av av' g h1 h2 => ?_, h.fix, h.dlt⟩
  · rw [he] at h1; rw [hl2]; exact h.slot d av h1 h2
  · rw [he] at h1 h3; rw [hl2]; exact h.fld n o av h1 h2 h3 h4
  · rw [he] at h1 h2; exact h.fdis n o o' av av' h1 h2
  · rw [he] at h1; rw [hl2]; exact h.obj k av h1 h2
  · rw [he] at h1; exact h.blk k av g h1
  · rw [he] at h1 h2; exact h.disj k k' av av' g h1 h2

/-- Less is known: nothing of what is new. -/
def Sub (s s' : AS) : Prop := ∀ k av, look s' k = some av → look s k = some av
theorem SimG.sub (h : SimG w0 U0 nt s a w D hv) {s' : AS} (hs : Sub s s') : SimG w0 U0 nt s' a w D hv := by
  have hl : ∀ n e, Live s' n e → Live s n e := fun n e h1 => ⟨hs _ _ h1.1, h1.2⟩
  have hln : ∀ n, LiveN s' n → LiveN s n := fun n h1 => h1.imp id fun ⟨e, he⟩ => ⟨e, hl _ _ he⟩
  have hk : ∀ b o v, Us w0 U0 D b o → w.cell? ⟨b, o, none⟩ = some v → Us w0 U0 D b o ∧ w.cell? ⟨b, o, none⟩ = some v := fun _ _ _ h1 h2 => ⟨h1, h2⟩
  refine ⟨h.below, h.dfr, h.size, fun d av h1 h2 => ?_, fun n o av h1 h2 h3 h4 => ?_, fun n o o' av av' h1 h2 => h.fdis n o o' av av' (hs _ _ h1) (hs _ _ h2), fun k av h1 h2 => ?_, fun k av g h1 => h.blk k av g (hs _ _ h1), fun k k' av av' g h1 h2 => h.disj k k' av av' g (hs _ _ h1) (hs _ _ h2), h.fix, h.dlt⟩
  · obtain ⟨v, h3, h4⟩ := h.slot d av (hs _ _ h1) h2
    exact ⟨v, h3, h4.move hk (fun _ => hln _) (fun _ => rfl)⟩
  · obtain ⟨v, h6, h5⟩ := h.fld n o av (hs _ _ h1) h2 (hs _ _ h3) h4
    exact ⟨v, h6.move hk (fun _ => hln _) (fun _ => rfl), h5⟩
  · exact (h.obj k av (hs _ _ h1) h2).move hk (fun _ h3 => ⟨hln _ h3, rfl⟩) (fun _ _ => rfl)
theorem Sim.sub (h : Sim w0 U0 nt s a w) {s' : AS} (hs : Sub s s') : Sim w0 U0 nt s' a w := by
  obtain ⟨D, hv, h⟩ := h
  exact ⟨D, hv, h.sub hs⟩

/-- A slot is written. -/
theorem SimG.put (h : SimG w0 U0 nt s a w D hv) {d : Nat} {av : AV} {v : Value} (hd : d < nt) (h5 : d < 100000) (hav : AVRep (Us w0 U0 D) w hv (LiveN s) av v) : SimG w0 U0 nt ((d, av) :: s) (a.put (some d) v) w D hv := by
  have hlk : ∀ k, 100000 ≤ k → look ((d, av) :: s) k = look s k := fun k hk => look_ne (by omega)
  have hl : ∀ n e, Live ((d, av) :: s) n e ↔ Live s n e := fun n e => by
    unfold Live
    constructor
    · rintro ⟨h1, h2⟩; rw [hlk _ (by omega)] at h1; exact ⟨h1, h2⟩
    · rintro ⟨h1, h2⟩; exact ⟨by rw [hlk _ (by omega)]; exact h1, h2⟩
  have hl2 : LiveN ((d, av) :: s) = LiveN s := by funext n; simp only [LiveN, hl]
  refine ⟨h.below, h.dfr, by simp [Act.put, h.size], fun d' av' h1 h2 => ?_, fun n o av h1 h2 h3 h4 => ?_, fun n o o' av av' h1 h2 => ?_, fun k av h1 h2 => ?_, fun k av g h1 h2 => ?_, fun k k' av av' g h1 h2 h3 h4 => ?_, h.fix, h.dlt⟩
  · rw [hl2]
    by_cases e : d = d'
    · subst e
      rw [look_same] at h1
      cases h1
      exact ⟨v, by simp [Act.put, h.size, hd], hav⟩
    · rw [look_ne e] at h1
      obtain ⟨v', h3, h4⟩ := h.slot d' av' h1 h2
      exact ⟨v', by simp [Act.put, e, h3], h4⟩
  · rw [hlk _ (by unfold fKey; omega)] at h1; rw [hlk _ (by omega)] at h3; rw [hl2]; exact h.fld n o av h1 h2 h3 h4
  · rw [hlk _ (by unfold fKey; omega)] at h1 h2; exact h.fdis n o o' av av' h1 h2
  · rw [hlk _ h2.1] at h1; rw [hl2]; exact h.obj k av h1 h2
  · rw [hlk _ h2.1] at h1; exact h.blk k av g h1 h2
  · rw [hlk _ h3.1] at h1; rw [hlk _ h4.1] at h2; exact h.disj k k' av av' g h1 h2 h3 h4

/-- Cells that stay are in no block that may be written. -/
theorem us_ne {b o t g : Nat} (hu : Us w0 U0 D b o) (hm : Mn w0 U0 t g) (hd : ¬ D g o) : b ≠ g := by
  rintro rfl
  rcases hu with ⟨h1, _, h2⟩ | ⟨_, h2⟩
  · rcases hm with h3 | h3
    · omega
    · exact h2 h3.2
  · exact hd h2

/-- What stays in a world that has grown. -/
theorem us_keep {w' : World} (hd : ∀ b o, D b o → b < w.heap.size) (hb : Below w.heap.size w w') {D' : Nat → Nat → Prop} (hD : ∀ b o, D b o → D' b o) : ∀ b o v, Us w0 U0 D b o → w.cell? ⟨b, o, none⟩ = some v → Us w0 U0 D' b o ∧ w'.cell? ⟨b, o, none⟩ = some v := by
  intro b o v hu hc
  have hlt : b < w.heap.size := World.block_lt_of_cell? w _ hc
  refine ⟨?_, by rw [hb.cell (p := ⟨b, o, none⟩) hlt]; exact hc⟩
  rcases hu with h | h
  · exact .inl h
  · exact .inr ⟨h.1, hD _ _ h.2⟩

theorem lcl_row {k : Nat} (h : 300000 ≤ k) (av : AV) : lcl k av = av.t := by
  unfold lcl
  have : Nat.blt k 300000 = false := by
    cases e : Nat.blt k 300000 with
    | false => rfl
    | true => have : k < 300000 := by simpa [Nat.blt_eq] using e
              omega
  rw [this]
theorem lcl_own {k : Nat} (h : k < 300000) (av : AV) : lcl k av = 6 := by
  unfold lcl
  rw [show Nat.blt k 300000 = true by simp [Nat.blt_eq]; omega]
theorem lcl_tok {k : Nat} {av : AV} (h : av.t = 6) : lcl k av = 6 := by
  unfold lcl
  cases Nat.blt k 300000 with
  | false => exact h
  | true => rfl
theorem lcl_eq {k : Nat} {av av' : AV} (h : av'.t = av.t) : lcl k av' = lcl k av := by unfold lcl; rw [h]
theorem bn_okey {n : Nat} (h : BN n) : oKey (100000 + n) := by unfold BN at h; unfold oKey; omega
/-- A box that is told field by field. -/
theorem SimG.obj9 (h : SimG w0 U0 nt s a w D hv) {n : Nat} (h1 : look s (100000 + n) = some .obj) (h2 : BN n) : ∃ g xs ty, hv (100000 + n) = .pointer (some ⟨g, 0, none⟩) ∧ blkOf (hv (100000 + n)) = g ∧ w.heap[g]? = some (.cells xs ty (0, 0)) := by
  obtain ⟨g, xs, ty, e, h3⟩ : ∃ g xs ty, hv (100000 + n) = .pointer (some ⟨g, 0, none⟩) ∧ w.heap[g]? = some (.cells xs ty (0, 0)) := h.obj (100000 + n) _ h1 (bn_okey h2)
  exact ⟨g, xs, ty, e, by rw [e]; rfl, h3⟩

/-- The world has grown: new blocks, nothing old has turned. -/
theorem SimG.grow (h : SimG w0 U0 nt s a w D hv) {w' : World} (hb' : Below w.heap.size w w') {D' : Nat → Nat → Prop} (hD : ∀ b o, D b o → D' b o) (hN : ∀ b o, D' b o → D b o ∨ w.heap.size ≤ b) (hL : ∀ b o, D' b o → b < w'.heap.size) : SimG w0 U0 nt s a w' D' hv := by
  have hk := us_keep (w0 := w0) (U0 := U0) h.dlt hb' hD
  have hblk : ∀ k av g, look s k = some av → oKey k → av.t ≠ 7 → hb (hv k) = some g → w'.heap[g]? = w.heap[g]? := fun k av g h1 h2 h3 h4 => hb'.block g (h.blk k av g h1 h2 h3 h4).2.1
  refine ⟨h.below.step hb', h.dfr, h.size, fun d av h1 h2 => ?_, fun n o av h1 h2 h3 h4 => ?_, h.fdis, fun k av h1 h2 => ?_, fun k av g h1 h2 h3 h4 => ?_, h.disj, h.fix, hL⟩
  · obtain ⟨v, h3, h4⟩ := h.slot d av h1 h2
    exact ⟨v, h3, h4.keep hk⟩
  · obtain ⟨v, h7, h5, h6⟩ := h.fld n o av h1 h2 h3 h4
    refine ⟨v, h7.keep hk, h5, fun i hi => ?_⟩
    have h7 := h6 i hi
    rw [Array.getElem?_eq_getElem hi] at h7 ⊢
    have hlt : blkOf (hv (100000 + n)) < w.heap.size := World.block_lt_of_cell? w _ h7
    rw [hb'.cell (p := ⟨blkOf (hv (100000 + n)), o + i, none⟩) hlt]
    exact h7
  · by_cases h7 : av.t = 7
    · unfold OC
      rw [if_neg (by omega), if_neg (by omega), if_neg (by omega), if_neg (by omega), if_neg (by omega)]
      trivial
    · exact (h.obj k av h1 h2).move hk (fun _ h3 => ⟨h3, rfl⟩) fun g hg => hblk k av g h1 h2 h7 hg
  · obtain ⟨g1, g2, g3⟩ := h.blk k av g h1 h2 h3 h4
    refine ⟨g1, Nat.lt_of_lt_of_le g2 hb'.size, fun o ho hd => ?_⟩
    rcases hN _ _ hd with h7 | h7
    · exact g3 o ho h7
    · omega

theorem SimG.grow' (h : SimG w0 U0 nt s a w D hv) {w' : World} (hb : Below w.heap.size w w') : SimG w0 U0 nt s a w' D hv :=
  h.grow hb (fun _ _ h => h) (fun _ _ h => .inl h) fun b o hd => Nat.lt_of_lt_of_le (h.dlt b o hd) hb.size
/-- All that is new stays. -/
def Dn (D : Nat → Nat → Prop) (w w' : World) (b o : Nat) : Prop := D b o ∨ (w.heap.size ≤ b ∧ b < w'.heap.size)
theorem SimG.growN (h : SimG w0 U0 nt s a w D hv) {w' : World} (hb : Below w.heap.size w w') : SimG w0 U0 nt s a w' (Dn D w w') hv :=
  h.grow hb (fun _ _ h => .inl h) (fun b o hd => hd.imp id fun h => h.1) fun b o hd => by
    rcases hd with hd | hd
    · exact Nat.lt_of_lt_of_le (h.dlt b o hd) hb.size
    · exact hd.2

theorem oc_no {U : Nat → Nat → Prop} {lv : Nat → Prop} {v : Value} {av : AV} (h : av.t = 7) : OC U w hv lv av v := by
  unfold OC
  rw [if_neg (by omega), if_neg (by omega), if_neg (by omega), if_neg (by omega), if_neg (by omega)]
  trivial
end
end Go.Proofs.Ytmdhefepaolhcaa
