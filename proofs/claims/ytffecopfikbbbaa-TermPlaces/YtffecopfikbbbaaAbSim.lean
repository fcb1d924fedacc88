/-
  What is known of a call under way: slots, boxes, rows that may still grow; all of it told by trees.
-/
import Derived.Test.YtffecopfikbbbaaAbMem
namespace Go.Proofs.Ytffecopfikbbbaa
open Go.RowKit
set_option linter.unusedVariables false

/-- t = 0: a value (n: the name of a row that may grow, p: where in it; 1: nil); t = 2: an address in the box n; t = 3: an address of cells that stay; t = 4: a tuple; t = 5: what is in a box; t = 6: a row that may grow. -/
structure AV where
  t : Nat
  c : CV
  n : Nat
  o : Nat
  p : List Nat

abbrev AV.val (c : CV) : AV := ⟨0, c, 0, 0, []⟩
abbrev AV.own (c : CV) (n : Nat) : AV := ⟨0, c, n, 0, []⟩
abbrev AV.bp (n o : Nat) (p : List Nat) : AV := ⟨2, .row [], n, o, p⟩
abbrev AV.ad (c : CV) : AV := ⟨3, c, 0, 0, []⟩
abbrev AV.tup (l : List CV) : AV := ⟨4, .row l, 0, 0, []⟩
abbrev AV.bx (c : CV) : AV := ⟨5, c, 0, 0, []⟩
abbrev AV.tok (e z : Nat) : AV := ⟨6, .row [], 0, e, [z]⟩
abbrev AV.no : AV := ⟨7, .row [], 0, 0, []⟩

abbrev AS := List (Nat × AV)
def look : AS → Nat → Option AV
  | [], _ => none
  | (d, a) :: s, k => match Nat.beq d k with | true => some a | false => look s k

theorem look_same (s : AS) (d : Nat) (a : AV) : look ((d, a) :: s) d = some a := by simp [look, Nat.beq_refl]
theorem look_ne {s : AS} {d k : Nat} {a : AV} (h : d ≠ k) : look ((d, a) :: s) k = look s k := by
  have : Nat.beq d k = false := by
    cases e : Nat.beq d k with
    | false => rfl
    | true => exact absurd (Nat.eq_of_beq_eq_true e) h
  simp [look, this]
theorem look_cons (s : AS) (d k : Nat) (a : AV) : look ((d, a) :: s) k = if d = k then some a else look s k := by
  by_cases h : d = k
  · subst h; rw [look_same, if_pos rfl]
  · rw [look_ne h, if_neg h]

/-- This row may still grow; its elements' type and how many cells they take. -/
def Live (s : AS) (n : Nat) (e : Nat × Nat) : Prop := look s n = some (.tok e.1 e.2) ∧ 200000 ≤ n

def LiveN (s : AS) (n : Nat) : Prop := n = 1 ∨ ∃ e, Live s n e
def tokv (tv : Nat → Value) (n : Nat) : Value := if n = 1 then .slice none 0 0 else tv n
/-- The row that may grow is in this place. -/
def Tk (tv : Nat → Value) (lv : Nat → Prop) (a : AV) (xs : List Value) : Prop := lv a.n → ∃ m c, a.c.at a.p = some (m, c) ∧ xs[m]? = some (tokv tv a.n)

/-- Values of trees, one by one. -/
def VReps (U : Nat → Nat → Prop) (w : World) : List CV → List Value → Prop
  | [], vs => vs = []
  | c :: cs, vs => ∃ u us, vs = u :: us ∧ VRep U w c u ∧ VReps U w cs us
theorem VReps.keep {U V : Nat → Nat → Prop} {w w' : World} (hs : ∀ b o v, U b o → w.cell? ⟨b, o, none⟩ = some v → V b o ∧ w'.cell? ⟨b, o, none⟩ = some v) : ∀ {l : List CV} {vs : List Value}, VReps U w l vs → VReps V w' l vs
  | [], _, h => h
  | c :: cs, vs, ⟨u, us, e, h1, h2⟩ => ⟨u, us, e, h1.keep hs, VReps.keep hs h2⟩
theorem VReps.len {U : Nat → Nat → Prop} {w : World} : ∀ {l : List CV} {vs : List Value}, VReps U w l vs → vs.length = l.length
  | [], _, h => by have h : _ = [] := h; rw [h]; rfl
  | c :: cs, vs, ⟨u, us, e, h1, h2⟩ => by rw [e, List.length_cons, List.length_cons, VReps.len h2]
theorem VReps.at {U : Nat → Nat → Prop} {w : World} : ∀ {l : List CV} {vs : List Value}, VReps U w l vs → ∀ {i : Nat} {c : CV}, l[i]? = some c → ∃ v, vs[i]? = some v ∧ VRep U w c v
  | [], _, _, i, c, hi => by simp at hi
  | c' :: cs, vs, ⟨u, us, e, h1, h2⟩, 0, c, hi => by
    simp only [List.getElem?_cons_zero, Option.some.injEq] at hi
    exact ⟨u, by rw [e]; rfl, hi ▸ h1⟩
  | c' :: cs, vs, ⟨u, us, e, h1, h2⟩, i + 1, c, hi => by
    obtain ⟨v, h3, h4⟩ := VReps.at h2 (i := i) (c := c) (by simpa using hi)
    exact ⟨v, by rw [e]; simpa using h3, h4⟩

def AVRep (U : Nat → Nat → Prop) (w : World) (bx : Nat → Nat) (tv : Nat → Value) (lv : Nat → Prop) (a : AV) (v : Value) : Prop :=
  if a.t = 0 then VRep U w a.c v ∧ Tk tv lv a v.cells.toList
  else if a.t = 2 then v = .pointer (some ⟨bx a.n, a.o, none⟩)
  else if a.t = 3 then ∃ b off xs, v = .pointer (some ⟨b, off, none⟩) ∧ Rep U w a.c xs ∧ ∀ i, i < xs.length → U b (off + i) ∧ w.cell? ⟨b, off + i, none⟩ = xs[i]?
  else if a.t = 4 then ∃ vs : List Value, v = .tuple vs.toArray ∧ VReps U w a.c.l vs
  else True

theorem AVRep.keep {U V : Nat → Nat → Prop} {w w' : World} {bx : Nat → Nat} {tv : Nat → Value} {lv : Nat → Prop} (hs : ∀ b o v, U b o → w.cell? ⟨b, o, none⟩ = some v → V b o ∧ w'.cell? ⟨b, o, none⟩ = some v) {a : AV} {v : Value} (h : AVRep U w bx tv lv a v) : AVRep V w' bx tv lv a v := by
  unfold AVRep at h ⊢
  by_cases h0 : a.t = 0
  · rw [if_pos h0] at h ⊢
    exact ⟨h.1.keep hs, h.2⟩
  rw [if_neg h0] at h ⊢
  by_cases h2 : a.t = 2
  · rw [if_pos h2] at h ⊢
    exact h
  rw [if_neg h2] at h ⊢
  by_cases h3 : a.t = 3
  · rw [if_pos h3] at h ⊢
    obtain ⟨b, off, xs, h4, h5, h6⟩ := h
    refine ⟨b, off, xs, h4, h5.keep hs, fun i hi => ?_⟩
    obtain ⟨h7, h8⟩ := h6 i hi
    rw [List.getElem?_eq_getElem hi] at h8 ⊢
    exact hs _ _ _ h7 h8
  rw [if_neg h3] at h ⊢
  by_cases h4 : a.t = 4
  · rw [if_pos h4] at h ⊢
    obtain ⟨vs, h5, h6⟩ := h
    exact ⟨vs, h5, h6.keep hs⟩
  · rw [if_neg h4]
    trivial

section
variable (w0 : World) (U0 : Nat → Nat → Prop) (nt : Nat)

/-- The cells that stay: the caller's, and those of D. -/
def Us (D : Nat → Nat → Prop) (b o : Nat) : Prop := (b < w0.heap.size ∧ U0 b o) ∨ (w0.heap.size ≤ b ∧ D b o)

/-- D: cells that stay; bx: where boxes lie; tv: the rows that may grow. -/
structure SimG (s : AS) (a : Act) (w : World) (D : Nat → Nat → Prop) (bx : Nat → Nat) (tv : Nat → Value) : Prop where
  below : Below w0.heap.size w0 w
  dfr : a.defers = []
  size : a.tmps.size = nt
  slot : ∀ d av, look s d = some av → d < 100000 → ∃ v, a.tmps[d]? = some v ∧ AVRep (Us w0 U0 D) w bx tv (LiveN s) av v
  boxes : ∀ n av, look s (100000 + n) = some av → n < 100000 → ∃ (xs : List Value) (ty : TypeId), w.heap[bx n]? = some (.cells xs.toArray ty (0, 0)) ∧ Rep (Us w0 U0 D) w av.c xs ∧ w0.heap.size ≤ bx n ∧ (∀ o, ¬ D (bx n) o) ∧ Tk tv (LiveN s) av xs
  inj : ∀ n m av aw, look s (100000 + n) = some av → look s (100000 + m) = some aw → n < 100000 → m < 100000 → n ≠ m → bx n ≠ bx m
  toks : ∀ n e, Live s n e → ∃ z k xs, w.ownsRow w0.heap.size e.1 z (tv n) k xs ∧ (0 < z ∧ z = e.2) ∧ ∀ g, (tv n).ownBlock = some g → (∀ o, k * z ≤ o → ¬ D g o) ∧ ∀ m av, look s (100000 + m) = some av → m < 100000 → bx m ≠ g
  tinj : ∀ n m e f, Live s n e → Live s m f → n ≠ m → ∀ g, (tv n).ownBlock = some g → (tv m).ownBlock ≠ some g
  dlt : ∀ b o, D b o → b < w.heap.size

def Sim (s : AS) (a : Act) (w : World) : Prop := ∃ D bx tv, SimG w0 U0 nt s a w D bx tv
end

section
variable {w0 : World} {U0 : Nat → Nat → Prop} {nt : Nat} {s : AS} {a : Act} {w : World} {D : Nat → Nat → Prop} {bx : Nat → Nat} {tv : Nat → Value}

theorem SimG.congr (h : SimG w0 U0 nt s a w D bx tv) {s' : AS} (he : ∀ k, look s' k = look s k) : SimG w0 U0 nt s' a w D bx tv := by
  have hl : ∀ n e, Live s' n e ↔ Live s n e := fun n e => by unfold Live; rw [he]
  have hl2 : LiveN s' = LiveN s := by funext n; simp only [LiveN, hl]
  refine ⟨h.below, h.dfr, h.size, fun d av h1 h2 => ?_, fun n av h1 h2 => ?_, fun n m av aw h1 h2 => ?_, fun n e h1 => ?_, fun n m e f h1 h2 => ?_, h.dlt⟩
  · rw [he] at h1; rw [hl2]; exact h.slot d av h1 h2
  · rw [he] at h1; rw [hl2]; exact h.boxes n av h1 h2
  · rw [he] at h1 h2; exact h.inj n m av aw h1 h2
  · obtain ⟨z, k, xs, h3, hz, h4⟩ := h.toks n e ((hl n e).1 h1)
    exact ⟨z, k, xs, h3, hz, fun g hg => ⟨(h4 g hg).1, fun m av h5 h6 => (h4 g hg).2 m av (by rw [he] at h5; exact h5) h6⟩⟩
  · exact h.tinj n m e f ((hl n e).1 h1) ((hl m f).1 h2)

/-- Less is known: nothing of what is new. -/
def Sub (s s' : AS) : Prop := ∀ k av, look s' k = some av → look s k = some av
theorem Sim.sub (h : Sim w0 U0 nt s a w) {s' : AS} (hs : Sub s s') : Sim w0 U0 nt s' a w := by
  obtain ⟨D, bx, tv, h⟩ := h
  have hl : ∀ n e, Live s' n e → Live s n e := fun n e h1 => ⟨hs _ _ h1.1, h1.2⟩
  have hln : ∀ n, LiveN s' n → LiveN s n := fun n h1 => h1.imp id fun ⟨e, he⟩ => ⟨e, hl _ _ he⟩
  refine ⟨D, bx, tv, h.below, h.dfr, h.size, fun d av h1 h2 => ?_, fun n av h1 h2 => ?_, fun n m av aw h1 h2 => h.inj n m av aw (hs _ _ h1) (hs _ _ h2), fun n e h1 => ?_, fun n m e f h1 h2 => h.tinj n m e f (hl _ _ h1) (hl _ _ h2), h.dlt⟩
  · obtain ⟨v, h3, h4⟩ := h.slot d av (hs _ _ h1) h2
    refine ⟨v, h3, ?_⟩
    unfold AVRep at h4 ⊢
    by_cases h0 : av.t = 0
    · rw [if_pos h0] at h4 ⊢
      exact ⟨h4.1, fun he => h4.2 (hln _ he)⟩
    · rw [if_neg h0] at h4 ⊢
      exact h4
  · obtain ⟨xs, ty, h3, h4, h5, h6, h7⟩ := h.boxes n av (hs _ _ h1) h2
    exact ⟨xs, ty, h3, h4, h5, h6, fun he => h7 (hln _ he)⟩
  · obtain ⟨z, k, xs, h3, hz, h4⟩ := h.toks n e (hl n e h1)
    exact ⟨z, k, xs, h3, hz, fun g hg => ⟨(h4 g hg).1, fun m av h5 h6 => (h4 g hg).2 m av (hs _ _ h5) h6⟩⟩

/-- A slot is written. -/
theorem SimG.put (h : SimG w0 U0 nt s a w D bx tv) {d : Nat} {av : AV} {v : Value} (hd : d < nt) (h5 : d < 100000) (hv : AVRep (Us w0 U0 D) w bx tv (LiveN s) av v) : SimG w0 U0 nt ((d, av) :: s) (a.put (some d) v) w D bx tv := by
  have hlk : ∀ k, 100000 ≤ k → look ((d, av) :: s) k = look s k := fun k hk => look_ne (by omega)
  have hl : ∀ n e, Live ((d, av) :: s) n e ↔ Live s n e := fun n e => by
    unfold Live
    constructor
    · rintro ⟨h1, h2⟩; rw [hlk _ (by omega)] at h1; exact ⟨h1, h2⟩
    · rintro ⟨h1, h2⟩; exact ⟨by rw [hlk _ (by omega)]; exact h1, h2⟩
  have hl2 : LiveN ((d, av) :: s) = LiveN s := by funext n; simp only [LiveN, hl]
  refine ⟨h.below, h.dfr, by simp [Act.put, h.size], fun d' av' h1 h2 => ?_, fun n av' h1 h2 => ?_, fun n m av' aw h1 h2 => ?_, fun n e h1 => ?_, fun n m e f h1 h2 => ?_, h.dlt⟩
  · rw [hl2]
    by_cases e : d = d'
    · subst e
      rw [look_same] at h1
      cases h1
      exact ⟨v, by simp [Act.put, h.size, hd], hv⟩
    · rw [look_ne e] at h1
      obtain ⟨v', h3, h4⟩ := h.slot d' av' h1 h2
      exact ⟨v', by simp [Act.put, e, h3], h4⟩
  · rw [hlk _ (by omega)] at h1; rw [hl2]; exact h.boxes n av' h1 h2
  · rw [hlk _ (by omega)] at h1 h2; exact h.inj n m av' aw h1 h2
  · obtain ⟨z, k, xs, h3, hz, h4⟩ := h.toks n e ((hl n e).1 h1)
    exact ⟨z, k, xs, h3, hz, fun g hg => ⟨(h4 g hg).1, fun m av' h5 h6 => (h4 g hg).2 m av' (by rw [hlk _ (by omega)] at h5; exact h5) h6⟩⟩
  · exact h.tinj n m e f ((hl n e).1 h1) ((hl m f).1 h2)

theorem SimG.lt_box (h : SimG w0 U0 nt s a w D bx tv) {n : Nat} {av : AV} (h1 : look s (100000 + n) = some av) (h2 : n < 100000) : bx n < w.heap.size := by
  obtain ⟨xs, ty, h3, _⟩ := h.boxes n av h1 h2
  exact (Array.getElem?_eq_some_iff.1 h3).1
theorem SimG.lt_tok (h : SimG w0 U0 nt s a w D bx tv) {n : Nat} {e : Nat × Nat} (h1 : Live s n e) {g : Nat} (hg : (tv n).ownBlock = some g) : w0.heap.size ≤ g ∧ g < w.heap.size := by
  obtain ⟨z, k, xs, h3, _⟩ := h.toks n e h1
  exact h3.lt g hg

/-- What stays in a world that has grown. -/
theorem us_keep {w' : World} (hd : ∀ b o, D b o → b < w.heap.size) (hb : Below w.heap.size w w') {D' : Nat → Nat → Prop} (hD : ∀ b o, D b o → D' b o) : ∀ b o v, Us w0 U0 D b o → w.cell? ⟨b, o, none⟩ = some v → Us w0 U0 D' b o ∧ w'.cell? ⟨b, o, none⟩ = some v := by
  intro b o v hu hc
  have hlt : b < w.heap.size := by
    have := World.block_lt_of_cell? w _ hc
    exact this
  refine ⟨?_, by rw [hb.cell (p := ⟨b, o, none⟩) hlt]; exact hc⟩
  rcases hu with h | h
  · exact .inl h
  · exact .inr ⟨h.1, hD _ _ h.2⟩

/-- The world has grown: new blocks, nothing old has turned. -/
theorem SimG.grow (h : SimG w0 U0 nt s a w D bx tv) {w' : World} (hb : Below w.heap.size w w') {D' : Nat → Nat → Prop} (hD : ∀ b o, D b o → D' b o) (hN : ∀ b o, D' b o → D b o ∨ w.heap.size ≤ b) (hL : ∀ b o, D' b o → b < w'.heap.size) : SimG w0 U0 nt s a w' D' bx tv := by
  have hk := us_keep (w0 := w0) (U0 := U0) h.dlt hb hD
  have hbase : w0.heap.size ≤ w.heap.size := h.below.size
  refine ⟨h.below.trans (hb.mono hbase), h.dfr, h.size, fun d av h1 h2 => ?_, fun n av h1 h2 => ?_, h.inj, fun n e h1 => ?_, h.tinj, hL⟩
  · obtain ⟨v, h3, h4⟩ := h.slot d av h1 h2
    exact ⟨v, h3, h4.keep hk⟩
  · obtain ⟨xs, ty, h3, h4, h5, h6, h8⟩ := h.boxes n av h1 h2
    have hlt := h.lt_box h1 h2
    refine ⟨xs, ty, by rw [hb.block _ hlt]; exact h3, h4.keep hk, h5, fun o ho => ?_, h8⟩
    rcases hN _ _ ho with h7 | h7
    · exact h6 o h7
    · omega
  · obtain ⟨z, k, xs, h3, hz, h4⟩ := h.toks n e h1
    refine ⟨z, k, xs, ownsRow_below h3 hb (Nat.le_refl _), hz, fun g hg => ⟨fun o ho hd => ?_, (h4 g hg).2⟩⟩
    have := h.lt_tok h1 hg
    rcases hN _ _ hd with h7 | h7
    · exact (h4 g hg).1 o ho h7
    · omega

theorem SimG.grow' (h : SimG w0 U0 nt s a w D bx tv) {w' : World} (hb : Below w.heap.size w w') : SimG w0 U0 nt s a w' D bx tv :=
  h.grow hb (fun _ _ h => h) (fun _ _ h => .inl h) fun b o hd => Nat.lt_of_lt_of_le (h.dlt b o hd) hb.size
/-- All that is new stays. -/
def Dn (D : Nat → Nat → Prop) (w w' : World) (b o : Nat) : Prop := D b o ∨ (w.heap.size ≤ b ∧ b < w'.heap.size)
theorem SimG.growN (h : SimG w0 U0 nt s a w D bx tv) {w' : World} (hb : Below w.heap.size w w') : SimG w0 U0 nt s a w' (Dn D w w') bx tv :=
  h.grow hb (fun _ _ h => .inl h) (fun b o hd => hd.imp id fun h => h.1) fun b o hd => by
    rcases hd with hd | hd
    · exact Nat.lt_of_lt_of_le (h.dlt b o hd) hb.size
    · exact hd.2
end
end Go.Proofs.Ytffecopfikbbbaa
