/-
  term.Places: all places of a term, each a row of ints of its own.
-/
import Derived.Test.YtffecopfikbbbaaTmConcat
namespace Go.Proofs.Ytffecopfikbbbaa
open Go.RowKit
set_option linter.unusedVariables false
set_option linter.unusedSimpArgs false

/-- Each list behind its number. -/
def placesW : List (List (List Int)) → Nat → List (List Int)
  | [], _ => []
  | ps :: rest, k => ps.map (fun p => (k : Int) :: p) ++ placesW rest (k + 1)
/-- All places, in order. -/
def Tm.places : Tm → List (List Int)
  | ⟨f, l⟩ => [] :: (if f < 0 then [] else placesW (l.map Tm.places) 0)
def Tm.placesL (l : List Tm) (k : Nat) : List (List Int) := placesW (l.map Tm.places) k
theorem placesL_nil (k : Nat) : Tm.placesL [] k = [] := rfl
theorem placesL_cons (t : Tm) (ts : List Tm) (k : Nat) : Tm.placesL (t :: ts) k = t.places.map (fun p => (k : Int) :: p) ++ Tm.placesL ts (k + 1) := rfl
theorem Tm.places_eq (t : Tm) : t.places = [] :: Tm.placesL t.ps 0 := by
  cases t with
  | mk f l =>
    rw [Tm.places]
    unfold Tm.ps
    simp only
    by_cases h : f < 0 <;> simp [h, Tm.placesL, placesW]
theorem Tm.placesL_snoc : ∀ (l : List Tm) (s : Tm) (k : Nat), Tm.placesL (l ++ [s]) k = Tm.placesL l k ++ s.places.map (fun p => ((k + l.length : Nat) : Int) :: p)
  | [], s, k => by simp [placesL_cons, placesL_nil]
  | t :: ts, s, k => by
    rw [List.cons_append, placesL_cons, placesL_cons, Tm.placesL_snoc ts s (k + 1), List.append_assoc, List.length_cons, show k + 1 + ts.length = k + (ts.length + 1) by omega]
theorem Tm.places_len (t : Tm) : t.places.length = t.size := by
  induction t using Tm.indp with
  | h t ih =>
    rw [Tm.places_eq, t.size_eq, List.length_cons]
    have : ∀ (l : List Tm) (k : Nat), (∀ s ∈ l, s.places.length = s.size) → (Tm.placesL l k).length = (l.flatMap Tm.flat).length := by
      intro l
      induction l with
      | nil => intro k _; rfl
      | cons y ys ih2 =>
        intro k hl
        have h1 := hl y (by simp)
        unfold Tm.size at h1
        rw [placesL_cons, List.flatMap_cons, List.length_append, List.length_append, List.length_map, h1, ih2 _ (fun s hs => hl s (List.mem_cons_of_mem _ hs))]
    rw [this _ _ ih]
    omega

/-- A row of ints, as it is held. -/
structure Pr where
  a : Option Addr
  n : Nat
  c : Nat
  p : List Int
def Pr.v (x : Pr) : Value := .slice x.a x.n x.c
def ints (p : List Int) : List Value := p.map fun z => .int .i64 z
def Pr.ok (U : Nat → Prop) (w : World) (x : Pr) : Prop := x.n = x.p.length ∧ x.n ≤ x.c ∧ x.c ≤ maxLen ∧ (x.a = none → x.n = 0 ∧ x.c = 0) ∧ Cu U w x.a (ints x.p)
theorem Pr.ok.keep {U V : Nat → Prop} {w w' : World} {x : Pr} (h : x.ok U w) (hs : ∀ b, U b → b < w.heap.size → V b ∧ w'.heap[b]? = w.heap[b]?) : x.ok V w' := ⟨h.1, h.2.1, h.2.2.1, h.2.2.2.1, h.2.2.2.2.keep hs⟩
theorem ints_one (p : List Int) : ∀ u ∈ ints p, u.oneCell' = true := by
  intro u hu
  obtain ⟨z, _, rfl⟩ := List.mem_map.1 hu
  rfl

/-- A row of the call's own whose elements are rows of ints beside it. -/
def PsT (w : World) (base : Nat) (v : Value) (ps : List (List Int)) : Prop :=
  ∃ xs : List Pr, w.ownsRow base 33 1 v ps.length (xs.map Pr.v) ∧ xs.map Pr.p = ps ∧ ∀ x ∈ xs, x.ok (fun b => base ≤ b ∧ v.ownBlock ≠ some b) w

theorem info_ints : (Try.prog.info? 33).map (fun i => (i.zero, i.size, i.bytes)) = some (some (.slice none 0 0), 1, 24) := by kernel_rfl

/-- All but v's own block stays; v' lies where v lay or is new. -/
def Onto (v v' : Value) (w w' : World) : Prop := w.heap.size ≤ w'.heap.size ∧ (∀ b, b < w.heap.size → v.ownBlock ≠ some b → w'.heap[b]? = w.heap[b]?) ∧ ∀ g, v'.ownBlock = some g → v.ownBlock = some g ∨ w.heap.size ≤ g
theorem Onto.trans {v v1 v2 : Value} {w w1 w2 : World} (h : Onto v v1 w w1) (k : Onto v1 v2 w1 w2) : Onto v v2 w w2 := by
  refine ⟨Nat.le_trans h.1 k.1, fun b hb hne => ?_, fun g hg => ?_⟩
  · rw [k.2.1 b (Nat.lt_of_lt_of_le hb h.1) (fun e => ?_), h.2.1 b hb hne]
    rcases h.2.2 b e with e' | e'
    · exact hne e'
    · omega
  · rcases k.2.2 g hg with e | e
    · exact h.2.2 g e
    · have := h.1; exact .inr (by omega)
theorem Onto.of_below {v : Value} {w w' : World} (h : Below w.heap.size w w') : Onto v v w w' := ⟨h.size, fun b hb _ => h.block b hb, fun g hg => .inl hg⟩

theorem PsT.bw {w w' : World} {base : Nat} {v : Value} {ps : List (List Int)} (h : PsT w base v ps) (hb : Below w.heap.size w w') : PsT w' base v ps := by
  obtain ⟨xs, h1, h2, h3⟩ := h
  exact ⟨xs, ownsRow_below h1 hb (Nat.le_refl _), h2, fun x hx => (h3 x hx).keep fun b hb' hlt => ⟨hb', hb.block b hlt⟩⟩

/-- 'append(places, place)'. -/
theorem app_place {w : World} {B : Nat} (hB : B ≤ w.heap.size) {av : Option Addr} {cv : Nat} {ps : List (List Int)} {a : Option Addr} {n c : Nat} {p : List Int} (h : PsT w B (.slice av ps.length cv) ps) (hp : Pr.ok (fun b => B ≤ b ∧ (Value.slice av ps.length cv).ownBlock ≠ some b) w ⟨a, n, c, p⟩) (hn : ps.length ≤ 10000000000) :
    ∃ a' c' w', Sem.run Try.prog (Builtin.append_ #[43, 43] 43 #[.slice av ps.length cv, .slice (some ⟨w.heap.size, 0, none⟩) 1 1]) (w.alloc (.cells #[.slice a n c] 33)) = .ok (.slice a' (ps.length + 1) c') w' ∧ PsT w' B (.slice a' (ps.length + 1) c') (ps ++ [p]) ∧ Below B w w' ∧ Onto (.slice av ps.length cv) (.slice a' (ps.length + 1) c') w w' := by
  obtain ⟨xs, h1, h2, h3⟩ := h
  obtain ⟨a', c', w', hr, ho, hb, hk, hv⟩ := app_one (P := Try.prog) hB 43 33 _ 1 24 Try.underlying43 info_ints rfl (by decide) _ ps.length (xs.map Pr.v) [.slice a n c] h1 rfl (by simp [Value.oneCell']) hn (by decide)
  have hkeep : ∀ b, (B ≤ b ∧ (Value.slice av ps.length cv).ownBlock ≠ some b) → b < w.heap.size → (B ≤ b ∧ (Value.slice a' (ps.length + 1) c').ownBlock ≠ some b) ∧ w'.heap[b]? = w.heap[b]? := fun b h3 h4 => by
    refine ⟨⟨h3.1, fun e => ?_⟩, hk b h4 h3.2⟩
    rcases hv b e with e' | e'
    · exact h3.2 e'
    · omega
  have hsz : w.heap.size ≤ w'.heap.size := by
    rcases Nat.lt_or_ge w.heap.size B with h | h
    · omega
    · exact hb.size
  refine ⟨a', c', w', hr, ⟨xs ++ [⟨a, n, c, p⟩], ?_, ?_, ?_⟩, hb, hsz, hk, hv⟩
  · rw [List.map_append, List.length_append]
    exact ho
  · rw [List.map_append, h2]; rfl
  · intro x hx
    rcases List.mem_append.1 hx with hx | hx
    · exact (h3 x hx).keep hkeep
    · rw [List.mem_singleton.1 hx]; exact hp.keep hkeep

theorem two_cells {W : World} {b : Nat} {x y : Value} {t : TypeId} (h : W.heap[b]? = some (.cells #[x, y] t (0, 0))) : ∀ r, r < 2 → W.cell? ⟨b, 0 + r, none⟩ = some (if r = 0 then x else y) := by
  intro r hr
  match r, hr with
  | 0, _ => simp [World.cell?, h]
  | 1, _ => simp [World.cell?, h]

theorem box_cells {w : World} {b : Nat} {x y : Value} {t : TypeId} {fl : Nat × Nat} (h : w.heap[b]? = some (.cells #[x, y] t fl)) : w.cell? ⟨b, 0, none⟩ = some x ∧ w.cell? ⟨b, 1, none⟩ = some y := by
  constructor <;> simp [World.cell?, h]

/-- 'slices.Concat(place, []int{k})'. -/
theorem concat_place {U : Nat → Prop} {W : World} {pa : Option Addr} {pn pc : Nat} {p : List Int} (k : Int) (hp : Pr.ok U W ⟨pa, pn, pc, p⟩) (hn : pn ≤ 1000000000) :
    Calls Try.prog 46 #[.slice (some ⟨W.heap.size + 1, 0, none⟩) 2 2] ((W.alloc (.cells #[.int .i64 k] 3)).alloc (.cells #[.slice pa pn pc, .slice (some ⟨W.heap.size, 0, none⟩) 1 1] 33)) fun e w' => ∃ a' c', e = .returned (.slice a' (pn + 1) c') ∧ Pr.ok (fun b => W.heap.size ≤ b) w' ⟨a', pn + 1, c', p ++ [k]⟩ ∧ Below W.heap.size W w' := by
  obtain ⟨W1, hW1⟩ : ∃ W1, W1 = W.alloc (.cells #[.int .i64 k] 3) := ⟨_, rfl⟩
  obtain ⟨W2, hW2⟩ : ∃ W2, W2 = W1.alloc (.cells #[.slice pa pn pc, .slice (some ⟨W.heap.size, 0, none⟩) 1 1] 33) := ⟨_, rfl⟩
  have s1 : W1.heap.size = W.heap.size + 1 := by rw [hW1]; simp
  have b1 : Below W.heap.size W W1 := by rw [hW1]; exact bA (bW _) _
  have b2 : Below W1.heap.size W1 W2 := by rw [hW2]; exact bA (bW _) _
  have hx1 : W1.heap[W.heap.size]? = some (.cells #[.int .i64 k] 3 (0, 0)) := by rw [hW1]; exact World.alloc_heap_new _ _
  have hx2 : W2.heap[W.heap.size + 1]? = some (.cells #[.slice pa pn pc, .slice (some ⟨W.heap.size, 0, none⟩) 1 1] 33 (0, 0)) := by
    have := World.alloc_heap_new W1 (.cells #[.slice pa pn pc, .slice (some ⟨W.heap.size, 0, none⟩) 1 1] 33)
    rw [s1, ← hW2] at this
    exact this
  have hx1' : W2.heap[W.heap.size]? = some (.cells #[.int .i64 k] 3 (0, 0)) := (b2.block _ (by omega)).trans hx1
  rw [← hW1, ← hW2]
  have s2 : W2.heap.size = W.heap.size + 2 := by rw [hW2]; simp; omega
  have hp2 := hp.keep (V := U) (w' := W2) fun b h1 h2 => ⟨h1, (bN b1 b2).block b h2⟩
  clear hW1 hW2
  have hrw : Rw 1 W2 (some ⟨W.heap.size + 1, 0, none⟩) 2 (fun r => if r = 0 then pa else some ⟨W.heap.size, 0, none⟩) (fun r => if r = 0 then pn else 1) (fun r => if r = 0 then pc else 1) (fun r => if r = 0 then ints p else [.int .i64 k]) := by
    refine ⟨fun r hr => ?_, .inr ⟨_, 0, rfl, by omega, fun r hr => ?_⟩⟩
    · match r, hr with
      | 0, _ => exact ⟨hp.2.2.2.1, hp2.2.2.2.2.cs, by have := hp.1; simp [ints] at *; omega, ints_one p⟩
      | 1, _ =>
        refine ⟨(fun h => by cases h), .inr ⟨W.heap.size, 0, rfl, by omega, fun i hi => ?_⟩, rfl, fun u hu => ?_⟩
        · have : i = 0 := by simp at hi; exact hi
          subst this
          simp [World.cell?, hx1']
        · rw [show u = .int .i64 k by simpa using hu]; rfl
    · rw [two_cells hx2 r hr]
      match r, hr with
      | 0, _ => rfl
      | 1, _ => rfl
  refine (concatI_any _ 2 2 _ _ _ _ W2 hrw (by omega) (by simp [lenJ]; omega)).mono ?_
  rintro e w' ⟨v, rfl, ho, hb⟩
  have hl : lenJ (fun r => if r = 0 then pn else 1) 2 = pn + 1 := by simp [lenJ]
  have hj : joinV (fun r => if r = 0 then ints p else [.int .i64 k]) 2 = ints (p ++ [k]) := by simp [joinV, ints]
  rw [hl, hj] at ho
  obtain ⟨a', c', rfl, e2, e3, e4, e5⟩ := ownsRow_cs ho
  refine ⟨a', c', rfl, ⟨by have := hp.1; simp at *; omega, e2, e3, e4, ?_⟩, (bN (bN b1 b2) hb)⟩
  rcases e5 with h | ⟨b, off, ha, hlt, hc⟩
  · exact .inl h
  · refine .inr ⟨b, off, ha, ?_, hlt, hc⟩
    subst ha
    rcases ho.2 with ⟨h3, _⟩ | ⟨g, cap, cur, h3, hb', _⟩
    · cases h3
    · cases h3; show W.heap.size ≤ b; omega

set_option maxRecDepth 100000 in
set_option maxHeartbeats 1000000 in
theorem addPlaces_any {T : Nat → Prop} {B : Nat} (hTB : ∀ b, T b → b < B) (t : Tm) : ∀ (av : Option Addr) (cv : Nat) (ps : List (List Int)) (pa : Option Addr) (pn pc : Nat) (p : List Int) (a : Option Addr) (n c : Nat) (w : World), B ≤ w.heap.size → PsT w B (.slice av ps.length cv) ps → Pr.ok (fun b => B ≤ b ∧ (Value.slice av ps.length cv).ownBlock ≠ some b) w ⟨pa, pn, pc, p⟩ → Tat T w t a n c → ps.length + t.size ≤ 100000000 → pn + t.size ≤ 100000000 →
    Calls Try.prog 40 #[.slice av ps.length cv, .slice pa pn pc, .agg #[.int .i64 t.f, .slice a n c]] w fun e w' => ∃ a' c', e = .returned (.slice a' (ps.length + t.size) c') ∧ PsT w' B (.slice a' (ps.length + t.size) c') (ps ++ t.places.map (fun q => p ++ q)) ∧ Below B w w' ∧ Onto (.slice av ps.length cv) (.slice a' (ps.length + t.size) c') w w' := by
  induction t using Tm.indp with
  | h t ih =>
    intro av cv ps pa pn pc p a n c w hB hps hp ht hs1 hs2
    obtain ⟨w1, hw1⟩ : ∃ w1, w1 = w.alloc (.cells #[.int .i64 t.f, .slice a n c] 29) := ⟨_, rfl⟩
    have hb1 : Below w.heap.size w w1 := by rw [hw1]; exact bA (bW _) _
    have hx1 : w1.heap[w.heap.size]? = some (.cells #[.int .i64 t.f, .slice a n c] 29 (0, 0)) := by rw [hw1]; exact World.alloc_heap_new _ _
    have hB1 : B ≤ w1.heap.size := Nat.le_trans hB hb1.size
    have hps1 := hps.bw hb1
    have hp1 := hp.keep (V := fun b => B ≤ b ∧ (Value.slice av ps.length cv).ownBlock ≠ some b) (w' := w1) fun b h h2 => ⟨h, hb1.block b h2⟩
    have hs0 := t.size_pos
    obtain ⟨a2, c2, w2, hr2, hps2, hbB2, hon2⟩ := app_place hB1 hps1 hp1 (by omega)
    have hx2 : w2.heap[w.heap.size]? = some (.cells #[.int .i64 t.f, .slice a n c] 29 (0, 0)) := by
      refine (hon2.2.1 _ (Array.getElem?_eq_some_iff.1 hx1).1 (fun e => ?_)).trans hx1
      obtain ⟨xs, h1, _⟩ := hps
      have := (h1.lt _ e).2
      omega
    obtain ⟨c1', c2'⟩ := box_cells hx2
    have hon1 : Onto (.slice av ps.length cv) (.slice a2 (ps.length + 1) c2) w w2 := (Onto.of_below hb1).trans hon2
    have hbw2 : Below B w w2 := (hb1.mono hB).trans hbB2
    have ht2 : Tat T w2 t a n c := ht.below hbw2 fun b h _ => hTB b h
    have hp2 : Pr.ok (fun b => B ≤ b ∧ (Value.slice a2 (ps.length + 1) c2).ownBlock ≠ some b) w2 ⟨pa, pn, pc, p⟩ := hp.keep fun b h h2 => ⟨⟨h.1, fun e => by
      rcases hon1.2.2 b e with e' | e'
      · exact h.2 e'
      · omega⟩, hon1.2.1 b h2 h.2⟩
    have hB2 : B ≤ w2.heap.size := Nat.le_trans hB hon1.1
    rw [hw1, World.size_alloc] at hr2
    have HI := hid ih
    have HPL := hid t.places_eq
    have HSZ := hid t.places_len
    clear hw1 ih hps hps1 hp hp1 hx1 hon2 hbB2 ht hx2
    go_enter Try.func40, Try.ntmps40
    go_wp2_with (at_builtin; refine wpList_appRun _ rfl _ _ _ rfl _ _ rfl rfl _ _ hr2 ?_)
    refine (parts_any ht2).mono ?_
    rintro e w3 ⟨hb3, a3, n3, c3, rfl, hl3⟩
    obtain ⟨Q, hQ⟩ : ∃ Q : Nat → List (List Int), Q = fun k => ps ++ ([] :: Tm.placesL (t.ps.take k) 0).map (fun q => p ++ q) := ⟨_, rfl⟩
    have HQ0 : Hid (Q 0 = ps ++ [p]) := by show _ = _; rw [hQ]; simp [placesL_nil]
    have HQs : Hid (∀ k s, t.ps[k]? = some s → Q (k + 1) = Q k ++ s.places.map (fun q => (p ++ [(k : Int)]) ++ q)) := fun k s hk => by
      have hlt : k < t.ps.length := by
        rcases Nat.lt_or_ge k t.ps.length with h | h
        · exact h
        · rw [List.getElem?_eq_none h] at hk; cases hk
      rw [hQ]
      simp only [List.take_add_one, hk, Option.toList_some, Tm.placesL_snoc, List.length_take, Nat.min_eq_left (Nat.le_of_lt hlt), Nat.zero_add]
      simp [List.map_append, Function.comp_def]
    have HQe : Hid (Q n3 = ps ++ t.places.map (fun q => p ++ q)) := by
      show _ = _
      rw [hQ, t.places_eq]
      simp only [List.take_of_length_le (show t.ps.length ≤ n3 by have := hl3.1; omega)]
    have HQm : Hid (∀ k s, t.ps[k]? = some s → (Q k).length + s.size ≤ ps.length + t.size) := fun k s hk => by
      have h1 : (Q (k + 1)).length ≤ (Q n3).length := by
        have hlt : k < t.ps.length := by
          rcases Nat.lt_or_ge k t.ps.length with h | h
          · exact h
          · rw [List.getElem?_eq_none h] at hk; cases hk
        have : ∀ j, k + 1 + j ≤ n3 → (Q (k + 1)).length ≤ (Q (k + 1 + j)).length := by
          intro j
          induction j with
          | zero => intro _; exact Nat.le_refl _
          | succ j ih2 =>
            intro hj
            have h3 := HQs.out (k + 1 + j) (t.ps[k + 1 + j]'(by have := hl3.1; omega)) (by rw [List.getElem?_eq_getElem])
            rw [show k + 1 + (j + 1) = k + 1 + j + 1 by omega, h3, List.length_append]
            have := ih2 (by omega)
            omega
        have h4 := this (n3 - (k + 1)) (by have := hl3.1; omega)
        rw [show k + 1 + (n3 - (k + 1)) = n3 by have := hl3.1; omega] at h4
        exact h4
      rw [HQs.out k s hk, HQe.out, List.length_append, List.length_append, List.length_map, List.length_map, Tm.places_len, Tm.places_len] at h1
      exact h1
    have HQl : Hid ((Q n3).length = ps.length + t.size) := by show _ = _; rw [HQe.out, List.length_append, List.length_map, Tm.places_len]
    clear hQ
    have HL3 := hid hl3.len
    have hm3 : n3 ≤ 9223372036854775807 := by have := HL3.out; unfold maxLen at this; omega
    have hB3 : B ≤ w3.heap.size := Nat.le_trans hB2 hb3.size
    have hbw3 : Below B w w3 := hbw2.trans (hb3.mono hB2)
    have HLs : Hid (∀ V, Below B w3 V → Las T V t.ps a3 n3 c3) := fun V h => hl3.below h fun b hb _ => hTB b hb
    have hon3 : Onto (.slice av ps.length cv) (.slice a2 (ps.length + 1) c2) w w3 := hon1.trans (Onto.of_below hb3)
    have hps3 : PsT w3 B (.slice a2 (ps.length + 1) c2) (Q 0) := by rw [HQ0.out]; exact hps2.bw hb3
    have hp3 := hp2.keep (V := fun b => B ≤ b ∧ (Value.slice a2 (ps.length + 1) c2).ownBlock ≠ some b) (w' := w3) fun b h h2 => ⟨h, hb3.block b h2⟩
    have HQ0l : Hid (ps.length + 1 = (Q 0).length) := by show _ = _; rw [HQ0.out]; simp
    rw [HQ0l.out] at hps3 hp3 hon3 ⊢
    have HOUT : Hid (∀ a0 c0 wr, PsT wr B (.slice a0 (Q n3).length c0) (Q n3) → Below B w3 wr → Onto (.slice a2 (Q 0).length c2) (.slice a0 (Q n3).length c0) w3 wr → ∃ a' c', Ending.returned (.slice a0 (Q n3).length c0) = .returned (.slice a' (ps.length + t.size) c') ∧ PsT wr B (.slice a' (ps.length + t.size) c') (ps ++ t.places.map (fun q => p ++ q)) ∧ Below B w wr ∧ Onto (.slice av ps.length cv) (.slice a' (ps.length + t.size) c') w wr) := fun a0 c0 wr h1 h2 h3 => by
      rw [HQl.out] at h1 h3 ⊢
      rw [HQe.out] at h1
      exact ⟨a0, c0, rfl, h1, hbw3.trans h2, hon3.trans h3⟩
    clear hl3 hb3 hps2 hp2 ht2 c1' c2' hbw2 hbw3 hon1 hon3 hr2 hb1
    go_wp2
    go_loopw [0, 16] (fun u i wr => ∃ (k : Nat) (a0 : Option Addr) (c0 : Nat), u = .slice a0 (Q k).length c0 ∧ i = .int .i64 (k : Int) ∧ k ≤ n3 ∧ PsT wr B (.slice a0 (Q k).length c0) (Q k) ∧ Pr.ok (fun b => B ≤ b ∧ (Value.slice a0 (Q k).length c0).ownBlock ≠ some b) wr ⟨pa, pn, pc, p⟩ ∧ Below B w3 wr ∧ Onto (.slice a2 (Q 0).length c2) (.slice a0 (Q k).length c0) w3 wr) (fun _ i _ => n3 - (intOf i).toNat)
    case atStart => exact ⟨0, a2, c2, rfl, rfl, by omega, hps3, hp3, Below.refl _ _, Onto.of_below (bW _)⟩
    case round =>
      obtain ⟨k, a0, c0, rfl, rfl, hk, hpsr, hpr, hbr, honr⟩ := hrel
      clear hps3 hp3
      by_cases hlt : k < n3
      · obtain ⟨b, off, s, a', n', c', rfl, hU, hlt', hs, hT, e1, e2⟩ := (HLs.out wr hbr).at hlt
        have HS := hid hs
        clear hs
        have hBr : B ≤ wr.heap.size := Nat.le_trans hB3 hbr.size
        obtain ⟨M, hM⟩ : ∃ M, M = (Q k).length := ⟨_, rfl⟩
        have HM := hid hM
        rw [← hM] at hpsr hpr honr ⊢
        clear hM
        obtain ⟨w4, hw4⟩ : ∃ w4, w4 = wr.alloc (.cells #[.int .i64 s.f, .slice a' n' c'] 29) := ⟨_, rfl⟩
        have hb4 : Below wr.heap.size wr w4 := by rw [hw4]; exact bA (bW _) _
        have hx4 : w4.heap[wr.heap.size]? = some (.cells #[.int .i64 s.f, .slice a' n' c'] 29 (0, 0)) := by rw [hw4]; exact World.alloc_heap_new _ _
        have HW4 := hid hw4
        clear hw4
        have hlt4 := (Array.getElem?_eq_some_iff.1 hx4).1
        have hown4 : ∀ g, (Value.slice a0 M c0).ownBlock = some g → g < wr.heap.size := fun g hg => by
          obtain ⟨xs, h1, _⟩ := hpsr
          exact (h1.lt g hg).2
        have HBX : Hid (∀ W : World, W.heap[wr.heap.size]? = w4.heap[wr.heap.size]? → W.cell? ⟨wr.heap.size, 0, none⟩ = some (.int .i64 s.f) ∧ W.cell? ⟨wr.heap.size, 1, none⟩ = some (.slice a' n' c')) := fun W h => box_cells (h.trans hx4)
        have hpn : pn ≤ 1000000000 := by omega
        have hp4 : Pr.ok (fun b => B ≤ b ∧ (Value.slice a0 M c0).ownBlock ≠ some b) w4.drew ⟨pa, pn, pc, p⟩ := hpr.keep fun b h h2 => ⟨h, hb4.block b h2⟩
        have HCC : Hid (Calls Try.prog 46 #[.slice (some ⟨w4.heap.size + 1, 0, none⟩) 2 2] ((w4.drew.alloc (.cells #[.int .i64 (k : Int)] 3)).alloc (.cells #[.slice pa pn pc, .slice (some ⟨w4.heap.size, 0, none⟩) 1 1] 33)) fun e w' => ∃ a' c', e = .returned (.slice a' (pn + 1) c') ∧ Pr.ok (fun b => w4.heap.size ≤ b) w' ⟨a', pn + 1, c', p ++ [(k : Int)]⟩ ∧ Below w4.heap.size w4.drew w') := concat_place (W := w4.drew) (k : Int) hp4 hpn
        have HAD : Hid (∀ w5 a5 c5, Below w4.heap.size w4 w5 → Pr.ok (fun b => w4.heap.size ≤ b) w5 ⟨a5, pn + 1, c5, p ++ [(k : Int)]⟩ → Calls Try.prog 40 #[.slice a0 M c0, .slice a5 (pn + 1) c5, .agg #[.int .i64 s.f, .slice a' n' c']] w5 fun e w6 => ∃ a6 c6, e = .returned (.slice a6 (Q (k + 1)).length c6) ∧ w6.heap[wr.heap.size]? = w4.heap[wr.heap.size]? ∧ PsT w6 B (.slice a6 (Q (k + 1)).length c6) (Q (k + 1)) ∧ Pr.ok (fun b => B ≤ b ∧ (Value.slice a6 (Q (k + 1)).length c6).ownBlock ≠ some b) w6 ⟨pa, pn, pc, p⟩ ∧ Below B w3 w6 ∧ Onto (.slice a2 (Q 0).length c2) (.slice a6 (Q (k + 1)).length c6) w3 w6) := fun w5 a5 c5 hb5 hp5 => by
          have hbr5 : Below wr.heap.size wr w5 := bN hb4 hb5
          have hml : M = (Q k).length := HM.out
          have hps5 := hpsr.bw hbr5
          have hms := HQm.out k s HS.out
          have hss := Tm.size_part (List.mem_of_getElem? HS.out)
          have hp5' : Pr.ok (fun b => B ≤ b ∧ (Value.slice a0 M c0).ownBlock ≠ some b) w5 ⟨a5, pn + 1, c5, p ++ [(k : Int)]⟩ := hp5.keep fun b h1 h2 => ⟨⟨by omega, fun e => by have := hown4 b e; omega⟩, rfl⟩
          have hT5 : Tat T w5 s a' n' c' := hT.bw hbr5
          rw [hml] at hps5 hp5' ⊢
          refine (HI.out s (List.mem_of_getElem? HS.out) a0 c0 (Q k) a5 (pn + 1) c5 (p ++ [(k : Int)]) a' n' c' w5 (Nat.le_trans hBr hbr5.size) hps5 hp5' hT5 (by omega) (by omega)).mono ?_
          rintro e w6 ⟨a6, c6, rfl, hps6, hb6, hon6⟩
          have hql : (Q (k + 1)).length = (Q k).length + s.size := by rw [HQs.out k s HS.out, List.length_append, List.length_map, Tm.places_len]
          rw [← HQs.out k s HS.out, ← hql] at hps6
          rw [← hql] at hon6 ⊢
          have honw : Onto (.slice a0 (Q k).length c0) (.slice a6 (Q (k + 1)).length c6) wr w6 := (Onto.of_below hbr5).trans hon6
          rw [hml] at hpr honr hown4
          refine ⟨a6, c6, rfl, ?_, hps6, ?_, (hbr.trans (hbr5.mono hBr)).trans hb6, honr.trans honw⟩
          · rw [hon6.2.1 _ (Nat.lt_of_lt_of_le hlt4 hb5.size) (fun e => by have := hown4 _ e; omega), hb5.block _ hlt4]
          · exact hpr.keep fun b h h2 => ⟨⟨h.1, fun e => by
              rcases honw.2.2 b e with e' | e'
              · exact h.2 e'
              · omega⟩, honw.2.1 b h2 h.2⟩
        have hS0 := HBX.out w4 rfl
        have hS1 := HBX.out w4.drew rfl
        have hS2 := HBX.out (w4.drew.alloc (.cells #[.int .i64 (k : Int)] 3)) (Below.heap_alloc _ _ _ hlt4)
        have hS3 := HBX.out ((w4.drew.alloc (.cells #[.int .i64 (k : Int)] 3)).alloc (.cells #[.slice pa pn pc, .slice (some ⟨w4.heap.size, 0, none⟩) 1 1] 33)) ((Below.heap_alloc _ _ _ (by rw [World.size_alloc]; show wr.heap.size < w4.heap.size + 1; omega)).trans (Below.heap_alloc _ _ _ hlt4))
        have HEND : Hid (∀ w5, Below w4.heap.size w4.drew w5 → Below w4.heap.size w4 w5) := fun w5 h => bN (bD (bW _)) h
        clear hp4 hpr hpsr honr hT hb4 hx4 hown4 hpn hbr hBr
        go_wp2_with fail
        rw [← HW4.out]
        go_region_held3 (fun w' => w'.cell? ⟨wr.heap.size, 0, none⟩ = some (.int .i64 s.f) ∧ w'.cell? ⟨wr.heap.size, 1, none⟩ = some (.slice a' n' c')) (first | with_reducible exact hS0 | with_reducible exact hS1 | with_reducible exact hS2 | with_reducible exact hS3 | with_reducible exact (by assumption) | exact hS2 | exact hS3)
          (first
            | (go_at_call 46; refine HCC.out.mono ?_; rintro e w5 ⟨a5, c5, rfl, hp5, hb5⟩; have hS5 := HBX.out w5 (hb5.block _ hlt4); dsimp only)
            | (go_at_call 40; refine (HAD.out w5 a5 c5 (HEND.out _ hb5) hp5).mono ?_; rintro e w6 ⟨a6, c6, rfl, hx6, hps6, hp6, hb6, hon6⟩; have hS6 := HBX.out w6 hx6; dsimp only))
        go_wp2_with fail
        go_roundw
        case rel => exact ⟨k + 1, a6, c6, rfl, by go_num, by omega, hps6, hp6, hb6, hon6⟩
        case measure => simp [intOf]; omega
      · obtain rfl : k = n3 := by omega
        go_wp2
        go_ret
        exact HOUT.out _ _ _ hpsr hbr honr

set_option maxHeartbeats 400000 in
/-- What Places returns: rows of its own. -/
theorem places_any {T : Nat → Prop} {t : Tm} {a : Option Addr} {n c : Nat} {w : World} (ht : Tat T w t a n c) (hs : t.size ≤ 100000000) :
    Calls Try.prog 24 #[.agg #[.int .i64 t.f, .slice a n c]] w fun e w' => ∃ a' c', e = .returned (.slice a' t.size c') ∧ PsT w' w.heap.size (.slice a' t.size c') t.places ∧ Below w.heap.size w w' := by
  obtain ⟨w1, hw1⟩ : ∃ w1, w1 = w.alloc (.cells #[.int .i64 t.f, .slice a n c] 29) := ⟨_, rfl⟩
  have hb1 : Below w.heap.size w w1 := by rw [hw1]; exact bA (bW _) _
  have ht1 : Tat (· < w.heap.size) w1 t a n c := (ht.mono fun b _ h => h).below hb1 fun b h _ => h
  have hA := addPlaces_any (T := (· < w.heap.size)) (B := w.heap.size) (fun b h => h) t none 0 [] none 0 0 [] a n c w1 hb1.size ⟨[], World.ownsRow_nil _ _ _ _, rfl, by simp⟩ ⟨rfl, Nat.le_refl _, Nat.zero_le _, fun _ => ⟨rfl, rfl⟩, .inl rfl⟩ ht1 (by simpa using hs) (by simpa using hs)
  have HA : Hid (Calls Try.prog 40 #[.slice none 0 0, .slice none 0 0, .agg #[.int .i64 t.f, .slice a n c]] w1 fun e w' => ∃ a' c', e = .returned (.slice a' t.size c') ∧ PsT w' w.heap.size (.slice a' t.size c') t.places ∧ Below w.heap.size w w') := by
    refine Calls.mono hA ?_
    rintro e w' ⟨a', c', h1, h2, h3, _⟩
    simp only [List.length_nil, Nat.zero_add, List.nil_append, List.map_id'] at h1 h2
    exact ⟨a', c', h1, h2, hb1.trans h3⟩
  have HW := hid hw1
  clear hw1 hA ht1 ht
  go_enter Try.func24, Try.ntmps24
  go_wp2_with fail
  rw [← HW.out]
  go_wp2_with (go_at_call 40; refine HA.out.mono ?_; rintro e w2 ⟨a', c', rfl, h2, h3⟩)
  go_ret
  exact ⟨a', c', rfl, h2, h3⟩
end Go.Proofs.Ytffecopfikbbbaa
