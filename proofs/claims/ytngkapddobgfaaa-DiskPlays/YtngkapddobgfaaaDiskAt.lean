/-
  The disk's calls, beside memory that is none of the disk's; and the chapter's example.
-/
import Derived.Test.YtngkapddobgfaaaDiskOps2
import Derived.Test.YtngkapddobgfaaaDiskOps6
namespace Go.Proofs.Ytngkapddobgfaaa
open Go.RowKit Go.Maps
set_option linter.unusedVariables false

/-- A disk none of whose blocks is among T. -/
def DkT (T : Nat → Prop) (w : World) (p : Nat) (st : St) : Prop := (∀ i, T i → i < w.heap.size) ∧ ∃ S, Dk w S p st ∧ ∀ i, S i → ¬ T i

theorem DkT.goes {T : Nat → Prop} {S : Nat → Prop} {w w' : World} {p : Nat} {st : St} (hT : ∀ i, T i → i < w.heap.size) (hS : ∀ i, S i → ¬ T i) (h : Goes w S p st w') : DkT T w' p st ∧ Kp (fun i => ¬ T i) w w' := by
  obtain ⟨S', hD, hS', hk⟩ := h
  refine ⟨⟨fun i hi => Nat.lt_of_lt_of_le (hT i hi) hk.size, S', hD, fun i hi hti => ?_⟩, hk.mono (fun i _ e => hS i e)⟩
  rcases hS' i hi with e | e
  · exact hS i e hti
  · have := hT i hti; omega
/-- The disk stays; and what is new is none of it. -/
def Stay (T : Nat → Prop) (w : World) (p : Nat) (st : St) (w' : World) : Prop := DkT T w' p st ∧ Kp (fun i => ¬ T i) w w' ∧ ∀ T' : Nat → Prop, (∀ i, T' i → i < w'.heap.size) → (∀ i, T' i → T i ∨ w.heap.size ≤ i) → DkT T' w' p st
theorem DkT.stays {T : Nat → Prop} {S : Nat → Prop} {w w' : World} {p : Nat} {st : St} (hT : ∀ i, T i → i < w.heap.size) (hS : ∀ i, S i → ¬ T i) (hD : Dk w S p st) (h : Stays w S p st w') : Stay T w p st w' := by
  obtain ⟨h1, h2⟩ := DkT.goes hT hS h.goes
  refine ⟨h1, h2, fun T' hT' hs => ⟨hT', S, h.1, fun i hi e => ?_⟩⟩
  obtain ⟨lm, E, v, rs, _, _, hSl⟩ := hD
  rcases hs i e with e' | e'
  · exact hS i hi e'
  · have := hSl i hi; omega
theorem DkT.more {T T' : Nat → Prop} {w : World} {p : Nat} {st : St} (h : DkT T w p st) (hT : ∀ i, T' i → i < w.heap.size) (hs : ∀ i, T' i → T i) : DkT T' w p st := by
  obtain ⟨h1, S, hD, hS⟩ := h
  exact ⟨hT, S, hD, fun i hi e => hS i hi (hs i e)⟩
/-- Nothing of what was there has turned: what is new may be added to what is none of the disk's. -/
theorem DkT.grow {T T' : Nat → Prop} {w w' : World} {p : Nat} {st : St} (h : DkT T w p st) (hk : Kp (fun _ => False) w w') (hT : ∀ i, T' i → i < w'.heap.size) (hs : ∀ i, T' i → T i ∨ w.heap.size ≤ i) : DkT T' w' p st := by
  obtain ⟨h1, S, ⟨lm, E, v, rs, hD, hS, hSl⟩, hST⟩ := h
  refine ⟨hT, S, ⟨lm, E, v, rs, hD.same hk, hS, fun i hi => Nat.lt_of_lt_of_le (hSl i hi) hk.size⟩, fun i hi e => ?_⟩
  rcases hs i e with e' | e'
  · exact hST i hi e'
  · have := hSl i hi; omega
theorem DkT.below {T : Nat → Prop} {w w' : World} {p : Nat} {st : St} (h : DkT T w p st) (hb : Below w.heap.size w w') : DkT T w' p st :=
  h.grow (Kp.of_below hb) (fun i hi => Nat.lt_of_lt_of_le (h.1 i hi) hb.size) (fun i hi => .inl hi)

theorem make_t (T : Nat → Prop) (p : Nat) (st : St) (w : World) (h : DkT T w p st) (nm : ByteArray) (hd : st.deeds ≤ 1099511627776) (hnm : nm.size ≤ maxLen) : Calls Try.prog 27 #[.pointer (some ⟨p, 0, none⟩), .string nm] w fun e w' => e = .returned (.int .u8 (doE st ⟨0, nm.toList, [], [], 0, 0⟩)) ∧ DkT T w' p (doS st ⟨0, nm.toList, [], [], 0, 0⟩) ∧ Kp (fun i => ¬ T i) w w' := by
  obtain ⟨h1, S, hD, hS⟩ := h
  exact (make_any S p st nm w hD hd hnm).mono fun e w' hx => ⟨hx.1, DkT.goes h1 hS hx.2⟩
theorem remove_t (T : Nat → Prop) (p : Nat) (st : St) (w : World) (h : DkT T w p st) (nm : ByteArray) (hd : st.deeds ≤ 1099511627776) (hnm : nm.size ≤ maxLen) : Calls Try.prog 31 #[.pointer (some ⟨p, 0, none⟩), .string nm] w fun e w' => e = .returned (.int .u8 (doE st ⟨4, nm.toList, [], [], 0, 0⟩)) ∧ DkT T w' p (doS st ⟨4, nm.toList, [], [], 0, 0⟩) ∧ Kp (fun i => ¬ T i) w w' := by
  obtain ⟨h1, S, hD, hS⟩ := h
  exact (remove_any S p st nm w hD hd hnm).mono fun e w' hx => ⟨hx.1, DkT.goes h1 hS hx.2⟩
theorem rename_t (T : Nat → Prop) (p : Nat) (st : St) (w : World) (h : DkT T w p st) (nm to : ByteArray) (hd : st.deeds ≤ 1099511627776) (hnm : nm.size ≤ maxLen) (hto : to.size ≤ maxLen) : Calls Try.prog 30 #[.pointer (some ⟨p, 0, none⟩), .string nm, .string to] w fun e w' => e = .returned (.int .u8 (doE st ⟨3, nm.toList, to.toList, [], 0, 0⟩)) ∧ DkT T w' p (doS st ⟨3, nm.toList, to.toList, [], 0, 0⟩) ∧ Kp (fun i => ¬ T i) w w' := by
  obtain ⟨h1, S, hD, hS⟩ := h
  exact (rename_any S p st nm to w hD hd hnm hto).mono fun e w' hx => ⟨hx.1, DkT.goes h1 hS hx.2⟩
theorem cut_t (T : Nat → Prop) (p : Nat) (st : St) (w : World) (h : DkT T w p st) (nm : ByteArray) (n : Int) (hd : st.deeds ≤ 1099511627776) (hnm : nm.size ≤ maxLen) : Calls Try.prog 29 #[.pointer (some ⟨p, 0, none⟩), .string nm, .int .i64 n] w fun e w' => e = .returned (.int .u8 (doE st ⟨2, nm.toList, [], [], n, 0⟩)) ∧ DkT T w' p (doS st ⟨2, nm.toList, [], [], n, 0⟩) ∧ Kp (fun i => ¬ T i) w w' := by
  obtain ⟨h1, S, hD, hS⟩ := h
  exact (cut_any S p st nm n w hD hd hnm).mono fun e w' hx => ⟨hx.1, DkT.goes h1 hS hx.2⟩
theorem append_t (T : Nat → Prop) (p : Nat) (st : St) (w : World) (h : DkT T w p st) (nm : ByteArray) (ba : Option Addr) (bn bc : Nat) (zs : List Int) (hd : st.deeds ≤ 1099511627776) (hnm : nm.size ≤ maxLen) (hnil : ba = none → bn = 0 ∧ bc = 0) (hbs : Bs w ba bn zs) (hba : ∀ x, ba = some x → 0 < bn → T x.block) (hbn0 : bn ≤ 1099511627776) :
    Calls Try.prog 28 #[.pointer (some ⟨p, 0, none⟩), .string nm, .slice ba bn bc] w fun e w' => e = .returned (.int .u8 (doE st ⟨1, nm.toList, [], zs, 0, 0⟩)) ∧ DkT T w' p (doS st ⟨1, nm.toList, [], zs, 0, 0⟩) ∧ Kp (fun i => ¬ T i) w w' := by
  obtain ⟨h1, S, hD, hS⟩ := h
  exact (append_any S p st nm ba bn bc zs w hD hd hnm hnil hbs (fun x hx h0 e => hS _ e (hba x hx h0)) hbn0).mono fun e w' hx => ⟨hx.1, DkT.goes h1 hS hx.2⟩
theorem sync_t (T : Nat → Prop) (p : Nat) (st : St) (w : World) (h : DkT T w p st) (hd : st.deeds < 1099511627776) : Calls Try.prog 20 #[.pointer (some ⟨p, 0, none⟩)] w fun e w' => e = .returned (.int .u8 (syncE st)) ∧ DkT T w' p (syncS st) ∧ Kp (fun i => ¬ T i) w w' := by
  obtain ⟨h1, S, hD, hS⟩ := h
  exact (sync_any S p st w hD hd).mono fun e w' hx => ⟨hx.1, DkT.goes h1 hS hx.2⟩
theorem arm_t (T : Nat → Prop) (p : Nat) (st : St) (w : World) (h : DkT T w p st) (n : Int) (hn : n ≤ 9223372036854775807) : Calls Try.prog 24 #[.pointer (some ⟨p, 0, none⟩), .int .i64 n] w fun e w' => e = .returned (.tuple #[]) ∧ DkT T w' p (armF st n) ∧ Kp (fun i => ¬ T i) w w' := by
  obtain ⟨h1, S, hD, hS⟩ := h
  exact (arm_any S p st n w hD hn).mono fun e w' hx => ⟨hx.1, DkT.goes h1 hS hx.2⟩
theorem crash_t (T : Nat → Prop) (p : Nat) (st : St) (w : World) (h : DkT T w p st) (keep torn : Int) (hd : st.deeds ≤ 1099511627776) : Calls Try.prog 22 #[.pointer (some ⟨p, 0, none⟩), .int .i64 keep, .int .i64 torn] w fun e w' => e = .returned (.tuple #[]) ∧ DkT T w' p (crashF st keep torn) ∧ Kp (fun i => ¬ T i) w w' := by
  obtain ⟨h1, S, hD, hS⟩ := h
  exact (crash_any S p st keep torn w hD hd).mono fun e w' hx => ⟨hx.1, DkT.goes h1 hS hx.2⟩
theorem used_t (T : Nat → Prop) (p : Nat) (st : St) (w : World) (h : DkT T w p st) (hd : st.deeds ≤ 1099511627776) : Calls Try.prog 25 #[.pointer (some ⟨p, 0, none⟩)] w fun e w' => e = .returned (.int .i64 ((usedF (seenF st) : Nat) : Int)) ∧ DkT T w' p st ∧ Kp (fun i => ¬ T i) w w' := by
  obtain ⟨h1, S, hD, hS⟩ := h
  exact (used_any S p st w hD hd).mono fun e w' hx => ⟨hx.1, DkT.goes h1 hS hx.2.goes⟩
theorem up_t (T : Nat → Prop) (p : Nat) (st : St) (w : World) (h : DkT T w p st) : Calls Try.prog 15 #[.pointer (some ⟨p, 0, none⟩)] w fun e w' => e = .returned (.bool (!st.down)) ∧ w' = w := by
  obtain ⟨h1, S, hD, hS⟩ := h
  exact up_any S p st w hD
theorem waits_t (T : Nat → Prop) (p : Nat) (st : St) (w : World) (h : DkT T w p st) : Calls Try.prog 16 #[.pointer (some ⟨p, 0, none⟩)] w fun e w' => e = .returned (.int .i64 (st.waits.length : Int)) ∧ w' = w := by
  obtain ⟨h1, S, hD, hS⟩ := h
  exact waits_any S p st w hD
theorem deeds_t (T : Nat → Prop) (p : Nat) (st : St) (w : World) (h : DkT T w p st) : Calls Try.prog 17 #[.pointer (some ⟨p, 0, none⟩)] w fun e w' => e = .returned (.int .i64 (st.deeds : Int)) ∧ w' = w := by
  obtain ⟨h1, S, hD, hS⟩ := h
  exact deeds_any S p st w hD
theorem read_t (T : Nat → Prop) (p : Nat) (st : St) (w : World) (h : DkT T w p st) (nm : ByteArray) (hd : st.deeds ≤ 1099511627776) (hnm : nm.size ≤ maxLen) : Calls Try.prog 26 #[.pointer (some ⟨p, 0, none⟩), .string nm] w fun e w' => ∃ s : Sl, e = .returned (.tuple #[s.val, .int .u8 (readE st nm.toList)]) ∧ Fl w' s (readB st nm.toList) ∧ (∀ g, s.blk = some g → w.heap.size ≤ g) ∧ Stay T w p st w' := by
  obtain ⟨h1, S, hD, hS⟩ := h
  refine (read_any S p st nm w hD hd hnm).mono ?_
  rintro e w' ⟨s, rfl, hf, hb, hx⟩
  exact ⟨s, rfl, hf, hb, DkT.stays h1 hS hD hx⟩
theorem names_t (T : Nat → Prop) (p : Nat) (st : St) (w : World) (h : DkT T w p st) (hd : st.deeds ≤ 1099511627776) : Calls Try.prog 32 #[.pointer (some ⟨p, 0, none⟩)] w fun e w' => ∃ v, e = .returned v ∧ w'.ownsRow w.heap.size 9 1 v (seenF st).length ((namesF (seenF st)).map encStr) ∧ Stay T w p st w' := by
  obtain ⟨h1, S, hD, hS⟩ := h
  refine (names_any S p st w hD hd).mono ?_
  rintro e w' ⟨v, rfl, hr, hx⟩
  exact ⟨v, rfl, hr, DkT.stays h1 hS hD hx⟩

/-- A new disk. -/
theorem new_t (T : Nat → Prop) (room : Int) (w : World) (hT : ∀ i, T i → i < w.heap.size) (h0 : 0 ≤ room) (h1 : room ≤ 1073741824) :
    Calls Try.prog 11 #[.int .i64 room] w fun e w' => e = .returned (.tuple #[.pointer (some ⟨w.heap.size, 0, none⟩), .int .u8 0]) ∧ DkT T w' w.heap.size (newS room.toNat) ∧ Below w.heap.size w w' := by
  refine (new_any room w h0 h1).mono ?_
  rintro e w' ⟨rfl, hD, hb⟩
  exact ⟨rfl, ⟨fun i hi => Nat.lt_of_lt_of_le (hT i hi) hb.size, _, hD, fun i hi e => by have := hT i e; have hi' : i = w.heap.size := hi; omega⟩, hb⟩

/-- 'string(b)' of bytes. -/
theorem run_str {w : World} {a : Option Addr} {n : Nat} {zs : List Int} (h : Bs w a n zs) (cap : Nat) :
    (convert 32 9 (.slice a n cap)).run Try.prog w = .ok (.string (strOfNums zs)) w := by
  obtain ⟨h1, h2, h3⟩ := h
  rcases h3 with h3 | ⟨b, off, rfl, hlt, hc⟩
  · subst h3
    have : zs = [] := List.eq_nil_of_length_eq_zero h1
    subst this
    cases a with
    | none => exact run_convert_bytes_nil w 32 5 Try.underlying32 Try.underlying5 0 cap 9 Try.underlying9
    | some ad =>
      rw [run_convert_bytes_string w 32 9 5 _ 0 cap Try.underlying32 Try.underlying5 Try.underlying9]
      have hl : (loadCells ad 0).run Try.prog w = .ok (([] : List Int).map (Value.int .u8)).toArray w := run_loadCells_list (P := Try.prog) w ad [] (fun j v hj => by simp at hj)
      rw [run_bytesToString w ad 0 cap [] hl]
      rfl
  · exact run_convert_bytes_arg w 32 5 Try.underlying32 Try.underlying5 b off n cap zs h1 hc 9 Try.underlying9

def nA : ByteArray := { data := #[97] }
theorem nA_list : nA.toList = [97] := by rw [ByteArray.toList_eq]; rfl
def al1 : St := doS (newS 9) ⟨0, [97], [], [], 0, 0⟩
def al2 : St := doS al1 ⟨1, [97], [], [120, 121], 0, 0⟩
def al3 : St := crashF al2 1 1
theorem al_facts : doE (newS 9) ⟨0, [97], [], [], 0, 0⟩ = 0 ∧ doE al1 ⟨1, [97], [], [120, 121], 0, 0⟩ = 0 ∧ readE al3 [97] = 0 ∧ readB al3 [97] = [120] ∧ doE al3 ⟨0, [97], [], [], 0, 0⟩ = 6 ∧ al1.deeds ≤ 10 ∧ al2.deeds ≤ 10 ∧ al3.deeds ≤ 10 := by decide +kernel

/-- Bytes in a block of their own, whatever its mark is. -/
theorem bs_new (w : World) (fr : Nat × Nat) (zs : List Int) (hz : ∀ z ∈ zs, 0 ≤ z ∧ z ≤ 255) (g : Nat) (hg : g = w.heap.size) : Bs (w.alloc (.cells (cb zs).toArray 5 fr)) (some ⟨g, 0, none⟩) zs.length zs := by
  subst hg
  refine ⟨rfl, hz, .inr ⟨_, 0, rfl, by simp, fun i hi => ?_⟩⟩
  have e : (⟨w.heap.size, 0 + i, none⟩ : Addr) = ⟨w.heap.size, i, none⟩ := by rw [Nat.zero_add]
  rw [e, World.cell?_alloc_mark]
  simp [cb, hi]

/-- What was there when the law began. -/
def Old (B : Nat) (i : Nat) : Prop := i < B
theorem Kp.old {B : Nat} {a w : World} (h : Kp (fun i => ¬ Old B i) a w) (hB : B ≤ a.heap.size) : Below B a w := h.below hB (fun i e => by unfold Old at e; omega)
theorem DkT.deeds {T : Nat → Prop} {w : World} {p : Nat} {st : St} (h : DkT T w p st) : st.waits.length ≤ st.deeds ∧ okFiles st.room (seenF st) ∧ st.room ≤ 1073741824 := by
  obtain ⟨_, S, ⟨lm, E, v, rs, hD, _⟩, _⟩ := h
  exact ⟨hD.deeds, hD.run.fold, hD.room⟩

set_option maxRecDepth 100000 in
set_option maxHeartbeats 1000000 in
theorem alive_any (w : World) : Calls Try.prog 9 #[] w fun e w' => e = .returned (.bool true) ∧ Below w.heap.size w w' := by
  obtain ⟨f1, f2, f3, f4, f5, f6, f7, f8⟩ := al_facts
  have hA : nA.size ≤ maxLen := by unfold maxLen; show 1 ≤ _; omega
  go_enter Try.func9, Try.ntmps9
  go_wp2_with fail
  refine (new_t (Old w.heap.size) 9 w (fun i hi => hi) (by omega) (by omega)).mono ?_
  rintro e w1 ⟨rfl, hD1, hb1⟩
  go_wp2_with fail
  have hm := make_t _ _ _ w1 hD1 nA (by decide) hA
  rw [nA_list, show (9 : Int).toNat = 9 from rfl, f1] at hm
  refine hm.mono ?_
  rintro e w2 ⟨rfl, hD2, hk2⟩
  have hb2 : Below w.heap.size w w2 := hb1.trans (hk2.old hb1.size)
  clear hm
  have kc := Go.Joins.run_convert_bytes_const_at (P := Try.prog) w2 32 5 (cb [120, 121]).toArray 2 2 w2.heap.size rfl Try.underlying32 Try.underlying5
  have hbs := bs_new w2 ((cb [120, 121]).toArray.size, (cb [120, 121]).toArray.size + 1) [120, 121] (by decide) w2.heap.size rfl
  have hk3 : Kp (fun _ => False) w2 (w2.alloc (.cells (cb [120, 121]).toArray 5 ((cb [120, 121]).toArray.size, (cb [120, 121]).toArray.size + 1))) := (Kp.refl _ _).alloc _
  have hD3 := hD2.grow (T' := fun i => Old w.heap.size i ∨ i = w2.heap.size) hk3 (fun i hi => by
    have hs := hb2.size
    have h5 : w2.heap.size + 1 = (w2.alloc (.cells (cb [120, 121]).toArray 5 ((cb [120, 121]).toArray.size, (cb [120, 121]).toArray.size + 1))).heap.size := by simp
    rw [← h5]
    rcases hi with e | e
    · unfold Old at e; omega
    · omega) (fun i hi => by rcases hi with e | e; exact .inl e; exact .inr (by omega))
  have hD3' : DkT (fun i => Old w.heap.size i ∨ i = w2.heap.size) (w2.alloc (.cells (cb [120, 121]).toArray 5 ((cb [120, 121]).toArray.size, (cb [120, 121]).toArray.size + 1))) w.heap.size al1 := hD3
  have ha := append_t _ _ _ _ hD3' nA (some ⟨w2.heap.size, 0, none⟩) 2 2 [120, 121] (by omega) hA (fun e => by cases e) hbs (fun x hx _ => by cases hx; exact .inr rfl) (by omega)
  rw [nA_list, f2] at ha
  have hs2 := hb2.size
  have HB2 : Hid (Below w.heap.size w w2) := hb2
  have HK3 : Hid (Kp (fun _ => False) w2 (w2.alloc (.cells (cb [120, 121]).toArray 5 ((cb [120, 121]).toArray.size, (cb [120, 121]).toArray.size + 1)))) := hk3
  simp only [cb, List.map] at kc ha
  clear hD3 hD3' hbs hk3 hD2 hk2 hb2
  go_wp2_with fail
  refine ha.mono ?_
  rintro e w4 ⟨rfl, hD4, hk4⟩
  clear ha kc
  have hB4 : Below w.heap.size w w4 := HB2.out.trans ((HK3.out.below (B := w.heap.size) hs2 (fun _ e => e.elim)).trans (hk4.below (Nat.le_trans hs2 HK3.out.size) (fun i e => by
    rcases Nat.lt_or_ge i w.heap.size with h | h
    · exact absurd (.inl h) e
    · exact h)))
  have hD4' : DkT (Old w.heap.size) w4 w.heap.size al2 := DkT.more hD4 (fun i hi => Nat.lt_of_lt_of_le hi hB4.size) (fun i hi => .inl hi)
  have hcr := crash_t _ _ _ _ hD4' 1 1 (by omega)
  have HB4 : Hid (Below w.heap.size w w4) := hB4
  have hs4 := hB4.size
  clear hk4 hD4 hB4 HB2 HK3
  go_wp2_with fail
  refine hcr.mono ?_
  rintro e w5 ⟨rfl, hD5, hk5⟩
  have hb5 : Below w.heap.size w w5 := HB4.out.trans (hk5.old hs4)
  have HB5 : Hid (Below w.heap.size w w5) := hb5
  have hs5 := hb5.size
  have hrd := read_t _ _ _ _ hD5 nA (by show al3.deeds ≤ _; omega) hA
  rw [nA_list, show crashF al2 1 1 = al3 from rfl, f3, f4] at hrd
  clear hcr hD4' HB4 hk5 hb5
  go_wp2_with fail
  refine hrd.mono ?_
  rintro e w6 ⟨⟨sa, sn, sc⟩, rfl, hf6, _, hD6, hk6, _⟩
  have hb6 : Below w.heap.size w w6 := HB5.out.trans (hk6.old hs5)
  have HB6 : Hid (Below w.heap.size w w6) := hb6
  have hs6 := hb6.size
  have hstr := run_str hf6.bs sc
  have hx : (strOfNums [120]).toList = [120] := by rw [ByteArray.toList_eq]; rfl
  have hmk := make_t _ _ _ _ hD6 nA (by show al3.deeds ≤ _; omega) hA
  rw [nA_list, f5] at hmk
  unfold Sl.val
  clear hrd hk6 hb6 hD5 HB5
  go_wp2_with fail
  refine hmk.mono ?_
  rintro e w7 ⟨rfl, hD7, hk7⟩
  go_wp2
  go_ret
  exact ⟨rfl, HB6.out.trans (hk7.old hs6)⟩
end Go.Proofs.Ytngkapddobgfaaa
