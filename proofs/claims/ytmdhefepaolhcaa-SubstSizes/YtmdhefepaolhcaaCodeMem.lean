/-
  Words on rows of bytes in memory, and the laws on append that the walks of the code layer use: no function of the program is named here.
-/
import Derived.WalkKit
import Derived.WalkLawsBesides
import Derived.WalkSpells
import Derived.Lib.AppendStr
namespace Go.Proofs.Ytmdhefepaolhcaa
open Go.RowKit
set_option linter.unusedVariables false

/-- The cells of bytes. -/
def cb (zs : List Int) : List Value := zs.map (Value.int .u8)
theorem cb_append (a b : List Int) : cb (a ++ b) = cb a ++ cb b := List.map_append
theorem cb_length (a : List Int) : (cb a).length = a.length := List.length_map _

/-- A slice's head a and length n: at it lie the bytes zs. -/
def Bs (w : World) (a : Option Addr) (n : Nat) (zs : List Int) : Prop :=
  zs.length = n ∧ (∀ z ∈ zs, 0 ≤ z ∧ z ≤ 255) ∧ (n = 0 ∨ ∃ b off, a = some ⟨b, off, none⟩ ∧ b < w.heap.size ∧ ∀ i, i < n → w.cell? ⟨b, off + i, none⟩ = some (.int .u8 (zs.getD i 0)))

/-- The value v is a slice of the call's own (blocks from base on), that holds the bytes zs. -/
def Own (w : World) (base : Nat) (v : Value) (zs : List Int) : Prop :=
  w.ownsRow base 5 1 v zs.length (cb zs) ∧ ∀ z ∈ zs, 0 ≤ z ∧ z ≤ 255

theorem Bs.below {B : Nat} {w w' : World} {a : Option Addr} {n : Nat} {zs : List Int} (h : Bs w a n zs) (hb : Below B w w') (hB : w.heap.size ≤ B) : Bs w' a n zs := by
  obtain ⟨h1, h2, h3⟩ := h
  refine ⟨h1, h2, ?_⟩
  rcases h3 with h3 | ⟨b, off, ha, hlt, hc⟩
  · exact .inl h3
  · exact .inr ⟨b, off, ha, Nat.lt_of_lt_of_le hlt hb.size, fun i hi => by rw [hb.cell (by show b < B; omega)]; exact hc i hi⟩

theorem getD_drop (zs : List Int) (p i : Nat) : (zs.drop p).getD i 0 = zs.getD (p + i) 0 := by simp [List.getD_eq_getElem?_getD]

/-- What stands from a place on. -/
theorem Bs.drop {w : World} {a : Option Addr} {n : Nat} {zs : List Int} (h : Bs w a n zs) {p : Nat} (hp : p ≤ n) : Bs w (Option.map (fun x => x.add p) a) (n - p) (zs.drop p) := by
  obtain ⟨h1, h2, h3⟩ := h
  refine ⟨by rw [List.length_drop, h1], fun z hz => h2 z (List.mem_of_mem_drop hz), ?_⟩
  rcases h3 with h3 | ⟨b, off, rfl, hlt, hc⟩
  · exact .inl (by omega)
  · refine .inr ⟨b, off + p, by simp [Addr.add], hlt, fun i hi => ?_⟩
    rw [Nat.add_assoc, hc (p + i) (by omega), getD_drop]

/-- What stands ahead of a place. -/
theorem Bs.take {w : World} {a : Option Addr} {n : Nat} {zs : List Int} (h : Bs w a n zs) {q : Nat} (hq : q ≤ n) : Bs w a q (zs.take q) := by
  obtain ⟨h1, h2, h3⟩ := h
  refine ⟨by rw [List.length_take]; omega, fun z hz => h2 z (List.mem_of_mem_take hz), ?_⟩
  rcases h3 with h3 | ⟨b, off, rfl, hlt, hc⟩
  · exact .inl (by omega)
  · refine .inr ⟨b, off, rfl, hlt, fun i hi => ?_⟩
    rw [hc i (by omega)]
    simp [List.getD_eq_getElem?_getD, hi]

/-- An empty piece, wherever it lies. -/
theorem Bs.empty (w : World) (a : Option Addr) : Bs w a 0 [] := ⟨rfl, by simp, .inl rfl⟩

/-- What stands from a place on, as the walk writes it where nothing is known of the capacity. -/
theorem Bs.cut {w : World} {a : Option Addr} {n : Nat} {zs : List Int} (h : Bs w a n zs) {p cap : Nat} (hp : p ≤ n) (hc : n ≤ cap) : Bs w (if cap = p then a else Option.map (fun x => x.add p) a) (n - p) (zs.drop p) := by
  split
  · have e : n = p := by omega
    subst e
    rw [Nat.sub_self, List.drop_eq_nil_of_le (by rw [h.1]; omega)]
    exact Bs.empty w a
  · exact h.drop hp

theorem Bs.drewN {w : World} {a : Option Addr} {n : Nat} {zs : List Int} (h : Bs w a n zs) (k : Nat) : Bs (w.drewN k) a n zs := h

theorem Own.slice {w : World} {base : Nat} {v : Value} {zs : List Int} (h : Own w base v zs) :
    ∃ a cap, v = .slice a zs.length cap ∧ zs.length ≤ cap ∧ (a = none → zs.length = 0 ∧ cap = 0) ∧ Bs w a zs.length zs := by
  obtain ⟨⟨h1, h2⟩, h3⟩ := h
  rcases h2 with ⟨rfl, h⟩ | ⟨g, cap, cur, rfl, hb, hh, hn, hm, hs, ht⟩
  · exact ⟨none, 0, by rw [h], by omega, fun _ => ⟨h, rfl⟩, rfl, h3, .inl h⟩
  · refine ⟨_, cap, rfl, hn, (fun h => by cases h), rfl, h3, .inr ⟨g, 0, rfl, ?_, fun i hi => ?_⟩⟩
    · rcases Nat.lt_or_ge g w.heap.size with h | h
      · exact h
      · rw [Array.getElem?_eq_none h] at hh; cases hh
    · have ho : w.ownsRow base 5 1 (.slice (some ⟨g, 0, none⟩) zs.length cap) zs.length (cb zs) := ⟨h1, .inr ⟨g, cap, cur, rfl, hb, hh, hn, hm, hs, ht⟩⟩
      have := ho.cellAt i (by omega)
      rw [show 0 + i = i by omega, this]
      simp [cb, hi]

theorem Own.mono {w : World} {base base' : Nat} {v : Value} {zs : List Int} (h : Own w base v zs) (hb : base' ≤ base) : Own w base' v zs := by
  obtain ⟨⟨h1, h2⟩, h3⟩ := h
  refine ⟨⟨h1, ?_⟩, h3⟩
  rcases h2 with h2 | ⟨g, cap, cur, rfl, hg, r⟩
  · exact .inl h2
  · exact .inr ⟨g, cap, cur, rfl, by omega, r⟩

/-- What is owned lies below the heap's size, so nothing that leaves all that is below alone turns it. -/
theorem Own.below {B : Nat} {w w' : World} {base : Nat} {v : Value} {zs : List Int} (h : Own w base v zs) (hb : Below B w w') (hB : w.heap.size ≤ B) : Own w' base v zs := by
  obtain ⟨⟨h1, h2⟩, h3⟩ := h
  refine ⟨⟨h1, ?_⟩, h3⟩
  rcases h2 with h2 | ⟨g, cap, cur, rfl, hg, hh, r⟩
  · exact .inl h2
  · refine .inr ⟨g, cap, cur, rfl, hg, ?_, r⟩
    rw [hb.block g]
    · exact hh
    · rcases Nat.lt_or_ge g w.heap.size with h | h
      · omega
      · rw [Array.getElem?_eq_none h] at hh; cases hh

theorem cb_oneCell (zs : List Int) : ∀ u ∈ cb zs, u.oneCell' = true := ints_oneCell _ _

/-- An operation that is wanted (it has no guard, or its guard says yes). -/
theorem wpList_wanted {P : Program} {ops : Array Oper} {Q : Exit → Act → World → Prop} {a : Act} {w : World} {rest : List Oper} {o : Oper} (hgd : Region.wanted o (yielded ops a.tmps) = true)
    (h : ∀ K : Act → World → Prop, (∀ a w, wpList P ops Q rest a w → K a w) → o.wp P a w K Q) : wpList P ops Q (o :: rest) a w :=
  wpList_step fun K hK => by rw [if_pos hgd]; exact h K hK

theorem Below.of_grown {base : Nat} {w w' : World} {v : Value} {zs : List Int} (hown : Own w base v zs) (hg : w.grownBy w' v.ownBlock) (hbase : base ≤ w.heap.size) : Below base w w' :=
  (Below.refl _ _).grown hg hbase fun k hk => (hown.1.lt k hk).1

theorem Own.alloc {w : World} {base : Nat} {v : Value} {zs : List Int} (h : Own w base v zs) (o : Obj) : Own (w.alloc o) base v zs := ⟨h.1.alloc o, h.2⟩

/-- One byte in a block of its own. -/
theorem bs_new1 (w : World) (z : Int) (hz : 0 ≤ z ∧ z ≤ 255) : Bs (w.alloc (.cells #[.int .u8 z] 5)) (some ⟨w.heap.size, 0, none⟩) 1 [z] := by
  refine ⟨rfl, by simpa using hz, .inr ⟨_, 0, rfl, by simp, fun i hi => ?_⟩⟩
  obtain rfl : i = 0 := by omega
  simp

/-- A block of one byte that the call itself has laid is its own. -/
theorem own_new1 (w : World) (base : Nat) (hb : base ≤ w.heap.size) (z : Int) (hz : 0 ≤ z ∧ z ≤ 255) : Own (w.alloc (.cells #[.int .u8 z] 5)) base (.slice (some ⟨w.heap.size, 0, none⟩) 1 1) [z] :=
  ⟨World.ownsRow_lit w #[.int .u8 z] 1 hb (by decide) rfl, by simpa using hz⟩

theorem Own.nil (w : World) (base : Nat) : Own w base (.slice none 0 0) [] := ⟨World.ownsRow_nil _ _ _ _, by simp⟩

/-- The bytes of a string, as cells. -/
def sb (s : ByteArray) : List Int := s.data.toList.map fun c => (c.toNat : Int)
theorem sb_length (s : ByteArray) : (sb s).length = s.size := by rw [sb, List.length_map, Array.length_toList]; rfl
theorem sb_wf (s : ByteArray) : ∀ z ∈ sb s, 0 ≤ z ∧ z ≤ 255 := by
  intro z hz
  simp only [sb, List.mem_map] at hz
  obtain ⟨c, _, rfl⟩ := hz
  have := c.toNat_lt
  omega

end Go.Proofs.Ytmdhefepaolhcaa
