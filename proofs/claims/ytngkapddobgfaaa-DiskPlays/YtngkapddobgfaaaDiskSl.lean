/-
  Slices of bytes that lie in blocks of their own, some with room behind them: what an append does to them, and what it leaves alone. No function of the program is named here.
-/
import Derived.Test.YtngkapddobgfaaaRegionBytes
import Derived.Test.YtngkapddobgfaaaLawRows
import Derived.ArgAppend
namespace Go.Proofs.Ytngkapddobgfaaa
open Go.RowKit
set_option linter.unusedVariables false

/-- A slice's head, length, capacity. -/
structure Sl where
  a : Option Addr
  n : Nat
  c : Nat

def Sl.val (s : Sl) : Value := .slice s.a s.n s.c
def Sl.blk (s : Sl) : Option Nat := s.a.map (·.block)

/-- The slice begins its block, and holds the bytes zs; behind them there may be room. -/
def Fl (w : World) (s : Sl) (zs : List Int) : Prop :=
  zs.length = s.n ∧ (∀ z ∈ zs, 0 ≤ z ∧ z ≤ 255) ∧
  ((s.a = none ∧ s.n = 0 ∧ s.c = 0) ∨ ∃ g cur, s.a = some ⟨g, 0, none⟩ ∧ w.heap[g]? = some (.cells cur 5 (0, 0)) ∧ s.n ≤ s.c ∧ s.c ≤ cur.size ∧ s.c ≤ maxLen ∧ cur.toList.take s.n = cb zs)

/-- All blocks but some stay. -/
structure Kp (S : Nat → Prop) (w w' : World) : Prop where
  os : w'.os = w.os
  tape : w'.tape = w.tape
  output : w'.output = w.output
  size : w.heap.size ≤ w'.heap.size
  block : ∀ k, k < w.heap.size → ¬ S k → w'.heap[k]? = w.heap[k]?

theorem Kp.refl (S : Nat → Prop) (w : World) : Kp S w w := ⟨rfl, rfl, rfl, Nat.le_refl _, fun _ _ _ => rfl⟩
theorem Kp.trans {S S1 : Nat → Prop} {a b c : World} (h : Kp S a b) (k : Kp S1 b c) (hs : ∀ i, i < a.heap.size → S1 i → S i) : Kp S a c :=
  ⟨k.os.trans h.os, k.tape.trans h.tape, k.output.trans h.output, Nat.le_trans h.size k.size, fun i hi hn => (k.block i (Nat.lt_of_lt_of_le hi h.size) (fun e => hn (hs i hi e))).trans (h.block i hi hn)⟩
theorem Kp.mono {S S1 : Nat → Prop} {a b : World} (h : Kp S a b) (hs : ∀ i, i < a.heap.size → S i → S1 i) : Kp S1 a b :=
  ⟨h.os, h.tape, h.output, h.size, fun i hi hn => h.block i hi (fun e => hn (hs i hi e))⟩
theorem Kp.drew {S : Nat → Prop} {a w : World} (h : Kp S a w) : Kp S a w.drew := ⟨h.os, h.tape, h.output, h.size, h.block⟩
theorem Kp.alloc {S : Nat → Prop} {a w : World} (h : Kp S a w) (o : Obj) : Kp S a (w.alloc o) :=
  ⟨h.os, h.tape, h.output, Nat.le_trans h.size (by simp), fun i hi hn => (Below.heap_alloc _ _ _ (Nat.lt_of_lt_of_le hi h.size)).trans (h.block i hi hn)⟩
theorem Kp.of_below {S : Nat → Prop} {a w : World} (h : Below a.heap.size a w) : Kp S a w := ⟨h.os, h.tape, h.output, h.size, fun i hi _ => h.block i hi⟩
theorem Kp.below {S : Nat → Prop} {a w : World} (h : Kp S a w) {B : Nat} (hB : B ≤ a.heap.size) (hs : ∀ i, S i → B ≤ i) : Below B a w :=
  ⟨h.os, h.tape, h.output, h.size, fun i hi => h.block i (by omega) (fun e => by have := hs i e; omega)⟩
theorem Kp.of_grown {a w : World} {row : Option Nat} (h : a.grownBy w row) : Kp (fun i => row = some i) a w := ⟨h.os, h.tape, h.output, h.size, fun i hi hn => h.block i hi (fun e => hn e.symm)⟩
theorem Kp.setCell {S : Nat → Prop} {a w : World} (h : Kp S a w) {p : Addr} (hp : p.block < a.heap.size → S p.block) (u : Value) : Kp S a (w.setCell p u) :=
  h.trans (S1 := fun i => i = p.block) ⟨rfl, rfl, rfl, by simp [World.setCell], fun k hk hn => Below.heap_setCell _ _ _ _ (fun e => hn e)⟩ (fun i hi e => by subst e; exact hp hi)
theorem Kp.cell {S : Nat → Prop} {a w : World} (h : Kp S a w) {p : Addr} {v : Value} (hc : a.cell? p = some v) (hn : ¬ S p.block) : w.cell? p = some v :=
  (World.cell?_of_block (h.block p.block (World.block_lt_of_cell? a _ hc) hn)).trans hc
theorem Kp.frozen {S : Nat → Prop} {a w : World} (h : Kp S a w) {p : Addr} (hc : p.block < a.heap.size) (hn : ¬ S p.block) : w.frozen? p = a.frozen? p :=
  World.frozen?_of_block (h.block p.block hc hn)

theorem Fl.lt {w : World} {s : Sl} {zs : List Int} (h : Fl w s zs) {g : Nat} (hg : s.blk = some g) : g < w.heap.size := by
  rcases h.2.2 with ⟨e, _⟩ | ⟨g', cur, e, hh, _⟩
  · rw [Sl.blk, e] at hg; cases hg
  · rw [Sl.blk, e] at hg
    cases hg
    exact (Array.getElem?_eq_some_iff.1 hh).1

theorem Fl.nil (w : World) : Fl w ⟨none, 0, 0⟩ [] := ⟨rfl, by simp, .inl ⟨rfl, rfl, rfl⟩⟩

theorem Fl.block {w w' : World} {s : Sl} {zs : List Int} (h : Fl w s zs) (hb : ∀ g, s.blk = some g → w'.heap[g]? = w.heap[g]?) : Fl w' s zs := by
  obtain ⟨h1, h2, h3⟩ := h
  refine ⟨h1, h2, ?_⟩
  rcases h3 with h3 | ⟨g, cur, e, hh, r⟩
  · exact .inl h3
  · exact .inr ⟨g, cur, e, (hb g (by rw [Sl.blk, e]; rfl)).trans hh, r⟩

theorem Fl.kp {S : Nat → Prop} {w w' : World} {s : Sl} {zs : List Int} (h : Fl w s zs) (hk : Kp S w w') (hn : ∀ g, s.blk = some g → ¬ S g) : Fl w' s zs :=
  h.block fun g hg => hk.block g (h.lt hg) (hn g hg)

theorem Fl.le {w : World} {s : Sl} {zs : List Int} (h : Fl w s zs) : s.n ≤ s.c ∧ s.c ≤ maxLen ∧ (s.a = none → s.n = 0 ∧ s.c = 0) := by
  rcases h.2.2 with ⟨e, h1, h2⟩ | ⟨g, cur, e, hh, h1, h2, h3, _⟩
  · exact ⟨by omega, by rw [h2]; unfold maxLen; omega, fun _ => ⟨h1, h2⟩⟩
  · exact ⟨h1, h3, fun e' => by rw [e] at e'; cases e'⟩

theorem cell_of_take {w : World} {g : Nat} {cur : Array Value} {e : TypeId} {f : Nat × Nat} (hh : w.heap[g]? = some (.cells cur e f)) {n : Nat} {xs : List Value} (ht : cur.toList.take n = xs) {i : Nat} (hi : i < xs.length) : w.cell? ⟨g, i, none⟩ = xs[i]? := by
  subst ht
  have hin : i < n := by rw [List.length_take] at hi; omega
  rw [List.getElem?_take, if_pos hin]
  simp [World.cell?, hh]

theorem Fl.bs {w : World} {s : Sl} {zs : List Int} (h : Fl w s zs) : Bs w s.a s.n zs := by
  refine ⟨h.1, h.2.1, ?_⟩
  rcases h.2.2 with ⟨e, h1, h2⟩ | ⟨g, cur, e, hh, h1, h2, h3, h4⟩
  · exact .inl h1
  · refine .inr ⟨g, 0, e, (Array.getElem?_eq_some_iff.1 hh).1, fun i hi => ?_⟩
    have hl : i < zs.length := by rw [h.1]; exact hi
    rw [Nat.zero_add, cell_of_take hh h4 (by rw [cb_length]; exact hl)]
    simp [cb, hl]

theorem Own.fl {w : World} {base : Nat} {s : Sl} {zs : List Int} (h : Own w base s.val zs) : Fl w s zs := by
  obtain ⟨⟨h1, h2⟩, h3⟩ := h
  rcases h2 with ⟨e, h⟩ | ⟨g, cap, cur, e, hb, hh, hn, hm, hs, ht⟩
  · obtain ⟨a, n, c⟩ := s
    simp only [Sl.val, Value.slice.injEq] at e
    obtain ⟨rfl, rfl, rfl⟩ := e
    exact ⟨h, h3, .inl ⟨rfl, rfl, rfl⟩⟩
  · obtain ⟨a, n, c⟩ := s
    simp only [Sl.val, Value.slice.injEq] at e
    obtain ⟨rfl, rfl, rfl⟩ := e
    exact ⟨rfl, h3, .inr ⟨g, cur, rfl, hh, hn, by simp at hs; simp; omega, hm, by simpa using ht⟩⟩

/-- A slice's beginning, with no room behind. -/
theorem Fl.clip {w : World} {s : Sl} {zs : List Int} (h : Fl w s zs) {k : Nat} (hk : k ≤ s.n) : Fl w ⟨s.a, k, k⟩ (zs.take k) := by
  obtain ⟨h1, h2, h3⟩ := h
  refine ⟨by simp only [List.length_take]; omega, fun z hz => h2 z (List.mem_of_mem_take hz), ?_⟩
  rcases h3 with ⟨e, h3, h4⟩ | ⟨g, cur, e, hh, h3, h4, h5, h6⟩
  · exact .inl ⟨e, by simp only; omega, by simp only; omega⟩
  · refine .inr ⟨g, cur, e, hh, Nat.le_refl _, by simp only; omega, by simp only; omega, ?_⟩
    have := congrArg (List.take k) h6
    rw [List.take_take, Nat.min_eq_left hk] at this
    simp only
    rw [this]
    simp [cb]

/-- The first k cells of a block stay. -/
def Prefix (w w' : World) (g k : Nat) : Prop := ∀ cur, w.heap[g]? = some (.cells cur 5 (0, 0)) → ∃ cur', w'.heap[g]? = some (.cells cur' 5 (0, 0)) ∧ cur'.size = cur.size ∧ cur'.toList.take k = cur.toList.take k

theorem Prefix.refl (w : World) (g k : Nat) : Prefix w w g k := fun cur h => ⟨cur, h, rfl, rfl⟩
theorem Prefix.trans {a b c : World} {g k : Nat} (h : Prefix a b g k) (h' : Prefix b c g k) : Prefix a c g k := fun cur hc => by
  obtain ⟨c1, e1, e2, e3⟩ := h cur hc
  obtain ⟨c2, f1, f2, f3⟩ := h' c1 e1
  exact ⟨c2, f1, f2.trans e2, f3.trans e3⟩
theorem Prefix.of_block {a b : World} {g k : Nat} (h : b.heap[g]? = a.heap[g]?) : Prefix a b g k := fun cur hc => ⟨cur, h.trans hc, rfl, rfl⟩
theorem Prefix.le {a b : World} {g k j : Nat} (h : Prefix a b g k) (hj : j ≤ k) : Prefix a b g j := fun cur hc => by
  obtain ⟨c1, e1, e2, e3⟩ := h cur hc
  refine ⟨c1, e1, e2, ?_⟩
  have := congrArg (List.take j) e3
  rwa [List.take_take, List.take_take, Nat.min_eq_left hj] at this

theorem Fl.prefix {w w' : World} {s : Sl} {zs : List Int} (h : Fl w s zs) (hp : ∀ g, s.blk = some g → Prefix w w' g s.n) : Fl w' s zs := by
  obtain ⟨h1, h2, h3⟩ := h
  refine ⟨h1, h2, ?_⟩
  rcases h3 with h3 | ⟨g, cur, e, hh, h3, h4, h5, h6⟩
  · exact .inl h3
  · obtain ⟨cur', e1, e2, e3⟩ := hp g (by rw [Sl.blk, e]; rfl) cur hh
    exact .inr ⟨g, cur', e, e1, h3, by omega, h5, e3.trans h6⟩

/-- 'append(v, x...)', v a slice that begins its block. -/
theorem run_append_fl {P : Program} (w : World) (ty : TypeId) (ht : P.underlying 32 = some (.slice 5)) (hi : (P.info? 5).map (fun i => (i.zero, i.size, i.bytes)) = some (some (.int .u8 0), 1, 1))
    (s : Sl) (xs : List Int) (hf : Fl w s xs) (ao : Option Addr) (m c : Nat) (ys : List Int) (hnil : ao = none → m = 0 ∧ c = 0) (hb : Bs w ao m ys) (hlen : s.n + m ≤ 140737488355328) :
    ∃ s' w', Sem.run P (Builtin.append_ #[32, 32] ty #[s.val, .slice ao m c]) w = .ok s'.val w' ∧ Fl w' s' (xs ++ ys) ∧ Kp (fun i => s.blk = some i) w w' ∧
      ((∃ g, s'.blk = some g ∧ w.heap.size ≤ g ∧ Kp (fun _ => False) w w') ∨ (s'.blk = s.blk ∧ s.n ≤ s'.n ∧ s'.c = s.c ∧ (s'.n = s.n ∨ s'.n ≤ s.c) ∧ ∀ g, s.blk = some g → Prefix w w' g s.n ∧ (s.c ≤ s.n → w'.heap[g]? = w.heap[g]?))) := by
  obtain ⟨i, h1, h2, h3, h4⟩ := info_parts hi
  have hwf : ∀ z ∈ xs ++ ys, 0 ≤ z ∧ z ≤ 255 := fun z hz => (List.mem_append.1 hz).elim (hf.2.1 z) (hb.2.1 z)
  cases ao with
  | none =>
    obtain ⟨rfl, rfl⟩ := hnil rfl
    have : ys = [] := List.eq_nil_of_length_eq_zero hb.1
    subst this
    refine ⟨s, w, ?_, by simpa using hf, Kp.refl _ _, .inr ⟨rfl, Nat.le_refl _, rfl, .inl rfl, fun g hg => ⟨Prefix.refl _ _ _, fun _ => rfl⟩⟩⟩
    obtain ⟨a, n, cc⟩ := s
    rcases hf.2.2 with ⟨e1, e2, e3⟩ | ⟨g, cur, e1, hh, hnc, _⟩
    · simp only at e1 e2 e3
      subst e1; subst e2; subst e3
      simp [Sl.val, Builtin.append_, run_underlying ht, sizeOf, typeInfo, h1, Builtin.lenOf, Builtin.firstCells]
    · simp only at e1 hnc
      subst e1
      simp [Sl.val, Builtin.append_, run_underlying ht, sizeOf, typeInfo, h1, Builtin.lenOf, Builtin.firstCells, hnc, storeCells]
  | some ad =>
    have hnews : ∀ j u, (cb ys)[j]? = some u → w.cell? (ad.add j) = some u := by
      intro j u hj
      have hjl : j < ys.length := by
        rcases Nat.lt_or_ge j ys.length with h | h
        · exact h
        · rw [List.getElem?_eq_none (by rw [cb_length]; exact h)] at hj; cases hj
      rcases hb.2.2 with b3 | ⟨b, off, ha, hlt, hc⟩
      · have := hb.1; omega
      · cases ha
        have e : (⟨b, off, none⟩ : Addr).add j = ⟨b, off + j, none⟩ := by simp [Addr.add]
        rw [e, hc j (by have := hb.1; omega), ← hj]
        simp [cb, hjl]
    have hml : (cb ys).length = m := by rw [cb_length]; exact hb.1
    obtain ⟨a, n, cc⟩ := s
    rcases hf.2.2 with ⟨e1, e2, e3⟩ | ⟨g, cur, e1, hh, hnc, hcc, hcm, htake⟩
    · simp only at e1 e2 e3 hlen
      subst e1; subst e2; subst e3
      have hx : xs = [] := List.eq_nil_of_length_eq_zero hf.1
      subst hx
      obtain ⟨v', w', hr, ho, hg, _⟩ := run_append_own (P := P) w w.heap.size 32 ty 5 i (.int .u8 0) 1 1 ht h1 h2 h3 h4 rfl (by decide) (.slice none 0 0) 0 [] (World.ownsRow_nil _ _ _ _) ad m c (cb ys) (by omega) hnews (cb_oneCell ys) (by unfold maxLen; omega) (by omega) (Nat.le_refl _)
      obtain ⟨a', c', e, h5, h6, h7, h8⟩ := ownsRow_cs ho
      have hk : Kp (fun _ => False) w w' := (Kp.of_grown hg).mono (fun i _ e => by simp [Value.ownBlock] at e)
      subst e
      have ho' : Own w' w.heap.size (Sl.val ⟨a', 0 + m, c'⟩) ys := ⟨by rw [← cb_length]; simpa [Sl.val, hml] using ho, hb.2.1⟩
      refine ⟨⟨a', 0 + m, c'⟩, w', hr, by simpa using ho'.fl, hk.mono (fun _ _ e => e.elim), ?_⟩
      cases a' with
      | none => exact .inr ⟨rfl, Nat.zero_le _, (h7 rfl).2, .inl (h7 rfl).1, fun g hg => by cases hg⟩
      | some a' =>
        have := ho.lt a'.block rfl
        exact .inl ⟨a'.block, rfl, this.1, hk⟩
    · simp only at e1 hnc hcc hcm htake hlen
      subst e1
      by_cases hroom : n + m ≤ cc
      · have hfit : n * i.size + (cb ys).length ≤ cur.size := by rw [hml, h3]; omega
        have hr := run_append_room (P := P) w 32 ty 5 i ht h1 g n cc cur hh ad m c (cb ys) (by rw [h3]; omega) hnews (cb_oneCell ys) hroom hfit
        rw [h3, Nat.mul_one, hml] at hr
        obtain ⟨row, hrow⟩ : ∃ row, row = (List.take n cur.toList ++ cb ys ++ List.drop (n + m) cur.toList).toArray := ⟨_, rfl⟩
        rw [← hrow] at hr
        have hncur : n ≤ cur.size := by omega
        have hrl : row.toList.length = cur.size := by rw [hrow]; simp [hml]; omega
        have ht1 : row.toList.take n = cur.toList.take n := by
          rw [hrow, List.append_assoc, List.take_append_of_le_length (by simp; omega), List.take_take, Nat.min_self]
        have ht2 : row.toList.take (n + m) = cb (xs ++ ys) := by
          rw [hrow]
          rw [List.take_append_of_le_length (by simp [hml]; omega), List.take_of_length_le (by simp [hml]; omega), htake, cb_append]
        refine ⟨⟨some ⟨g, 0, none⟩, n + m, cc⟩, w.setRow g row, hr, ⟨by have h6 := hf.1; have h7 := hb.1; simp only at h6; simp only [List.length_append]; omega, hwf, .inr ⟨g, row, rfl, setRow_heap w g cur row _ _ hh, hroom, by simpa [← hrl] using hcc, hcm, ht2⟩⟩, ⟨rfl, rfl, rfl, by simp, fun k hk hn => setRow_other w g k _ (fun e => hn (by subst e; rfl))⟩, .inr ⟨rfl, by simp only; omega, rfl, .inr hroom, fun g' hg' => ?_⟩⟩
        have : g' = g := by simpa [Sl.blk] using hg'.symm
        subst this
        refine ⟨fun cur' hc' => ?_, fun hle => ?_⟩
        · rw [hh] at hc'
          cases hc'
          exact ⟨row, setRow_heap w g' cur row _ _ hh, by simpa using hrl, ht1⟩
        · simp only at hle
          have hm0 : m = 0 := by omega
          have : row = cur := by
            rw [hrow]
            have : cb ys = [] := List.eq_nil_of_length_eq_zero (by omega)
            rw [this, hm0]
            simp
          rw [this, setRow_self w g' cur _ _ hh]
      · have holds : ∀ j u, (cb xs)[j]? = some u → w.cell? ((⟨g, 0, none⟩ : Addr).add j) = some u := by
          intro j u hj
          have hjl : j < (cb xs).length := by
            rcases Nat.lt_or_ge j (cb xs).length with h | h
            · exact h
            · rw [List.getElem?_eq_none h] at hj; cases hj
          have e : (⟨g, 0, none⟩ : Addr).add j = ⟨g, j, none⟩ := by rw [Addr.add_lit, Nat.zero_add]
          rw [e, cell_of_take hh htake hjl, hj]
        have hxn : (cb xs).length = n := by rw [cb_length]; exact hf.1
        obtain ⟨v', w', hr, ho, hg⟩ := run_append_arg_grows (P := P) w 32 ty 5 i (.int .u8 0) 1 1 ht h1 h2 h3 h4 rfl (by decide) ⟨g, 0, none⟩ n cc (cb xs) (by omega) holds ad m c (cb ys) (by omega) hnews (by omega) (by unfold maxLen; omega) (by omega)
        obtain ⟨a', c', e, h5, h6, h7, h8⟩ := ownsRow_cs ho
        have hk : Kp (fun _ => False) w w' := (Kp.of_grown hg).mono (fun i _ e => by cases e)
        subst e
        have ho' : Own w' w.heap.size (Sl.val ⟨a', n + m, c'⟩) (xs ++ ys) := ⟨by rw [← cb_length, cb_append]; simpa [Sl.val, hml, hxn] using ho, hwf⟩
        refine ⟨⟨a', n + m, c'⟩, w', hr, ho'.fl, hk.mono (fun _ _ e => e.elim), ?_⟩
        cases a' with
        | none => have := h7 rfl; omega
        | some a' =>
          have := ho.lt a'.block rfl
          exact .inl ⟨a'.block, rfl, this.1, hk⟩

theorem wpList_append_fl {P : Program} (w : World) {ops : Array Oper} {rest : List Oper} {o : Oper} {a : Act} {Q : Exit → Act → World → Prop} (hgd : Region.wanted o (yielded ops a.tmps) = true) (so x : Operand)
    (ho : o.op = .call { callee := .builtin .append, args := #[so, x], argTypes := #[32, 32] })
    (ht : P.underlying 32 = some (.slice 5)) (hi : (P.info? 5).map (fun i => (i.zero, i.size, i.bytes)) = some (some (.int .u8 0), 1, 1))
    (s : Sl) (xs : List Int) (hs : a.eval so = s.val) (hf : Fl w s xs) (ao : Option Addr) (m c : Nat) (ys : List Int) (hx : a.eval x = .slice ao m c) (hnil : ao = none → m = 0 ∧ c = 0) (hb : Bs w ao m ys) (hlen : s.n + m ≤ 140737488355328)
    (h : ∀ s' w', Fl w' s' (xs ++ ys) → Kp (fun i => s.blk = some i) w w' →
      ((∃ g, s'.blk = some g ∧ w.heap.size ≤ g ∧ Kp (fun _ => False) w w') ∨ (s'.blk = s.blk ∧ s.n ≤ s'.n ∧ s'.c = s.c ∧ (s'.n = s.n ∨ s'.n ≤ s.c) ∧ ∀ g, s.blk = some g → Prefix w w' g s.n ∧ (s.c ≤ s.n → w'.heap[g]? = w.heap[g]?))) → wpList P ops Q rest (a.put o.dst s'.val) w') : wpList P ops Q (o :: rest) a w := by
  refine wpList_wanted hgd fun K hK => ?_
  obtain ⟨s', w', hr, h1, h2, h3⟩ := run_append_fl (P := P) w o.type ht hi s xs hf ao m c ys hnil hb hlen
  unfold Oper.wp
  simp [execOp, ho, resolve, invoke, builtin, hs, hx, hr, Result.andThen]
  exact hK _ _ (h s' w' h1 h2 h3)

theorem step_append_fl {P : Program} (w : World) {ops : Array Oper} {o : Oper} {a : Act} {K : Act → World → Prop} {Q : Exit → Act → World → Prop} {E : Prop} (hgd : Region.wanted o (yielded ops a.tmps) = true) (so x : Operand)
    (ho : o.op = .call { callee := .builtin .append, args := #[so, x], argTypes := #[32, 32] })
    (ht : P.underlying 32 = some (.slice 5)) (hi : (P.info? 5).map (fun i => (i.zero, i.size, i.bytes)) = some (some (.int .u8 0), 1, 1))
    (s : Sl) (xs : List Int) (hs : a.eval so = s.val) (hf : Fl w s xs) (ao : Option Addr) (m c : Nat) (ys : List Int) (hx : a.eval x = .slice ao m c) (hnil : ao = none → m = 0 ∧ c = 0) (hb : Bs w ao m ys) (hlen : s.n + m ≤ 140737488355328)
    (h : ∀ s' w', Fl w' s' (xs ++ ys) → Kp (fun i => s.blk = some i) w w' →
      ((∃ g, s'.blk = some g ∧ w.heap.size ≤ g ∧ Kp (fun _ => False) w w') ∨ (s'.blk = s.blk ∧ s.n ≤ s'.n ∧ s'.c = s.c ∧ (s'.n = s.n ∨ s'.n ≤ s.c) ∧ ∀ g, s.blk = some g → Prefix w w' g s.n ∧ (s.c ≤ s.n → w'.heap[g]? = w.heap[g]?))) → K (a.put o.dst s'.val) w') :
    if Region.wanted o (yielded ops a.tmps) = true then Oper.wp P o a w K Q else E := by
  rw [if_pos hgd]
  obtain ⟨s', w', hr, h1, h2, h3⟩ := run_append_fl (P := P) w o.type ht hi s xs hf ao m c ys hnil hb hlen
  unfold Oper.wp
  simp [execOp, ho, resolve, invoke, builtin, hs, hx, hr, Result.andThen]
  exact h s' w' h1 h2 h3
end Go.Proofs.Ytngkapddobgfaaa
