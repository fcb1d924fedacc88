/-
  What a crash tears of an append: the document's Done on it, and what stays behind.
-/
import Derived.Test.YtngkapddobgfaaaDiskRefDo6
namespace Go.Proofs.Ytngkapddobgfaaa
open Go.RowKit Go.Maps
set_option linter.unusedVariables false

theorem From.trans {w w7 : World} {rs rs5 rs8 : List FRef} (h : From w rs rs5) (h' : From w7 rs5 rs8) (hs : w.heap.size ≤ w7.heap.size) : From w rs rs8 := fun r hr => by
  rcases h' r hr with ⟨q, hq, e1, e2⟩ | e | ⟨x, e1, e2⟩
  · rcases h q hq with ⟨p, hp, f1, f2⟩ | f | ⟨x, f1, f2⟩
    · exact .inl ⟨p, hp, e1.trans f1, Nat.le_trans e2 f2⟩
    · exact .inr (.inl (e1.trans f))
    · exact .inr (.inr ⟨x, e1.trans f1, f2⟩)
  · exact .inr (.inl e)
  · exact .inr (.inr ⟨x, e1, by omega⟩)

theorem torn_done {wc w7 : World} {a5 : Option Addr} {n5 c5 : Nat} {rs5 : List FRef} {q : ARef} {J : Nat} (hF : Fs wc a5 n5 c5 rs5) (hq : q.inn wc) (hJ : J ≤ q.n) (hb : Below wc.heap.size wc w7) (hn : n5 ≤ 64) (hk : q.kind = 1) (hfind : (findF (rs5.map FRef.file) q.name.toList).isSome = true) (hu : usedF (rs5.map FRef.file) ≤ 4294967296) (hqb : q.zs.length ≤ 4294967296) :
    Calls Try.prog 34 #[.slice a5 n5 c5, .agg #[.int .i64 q.kind, .string q.name, .string q.to, .slice q.a J q.c, .int .i64 q.num, .int .i64 q.torn]] w7 fun e w8 => ∃ a8 n8 c8 rs8, e = .returned (.slice a8 n8 c8) ∧ Fs w8 a8 n8 c8 rs8 ∧ rs8.map FRef.file = doneF (rs5.map FRef.file) ⟨q.kind, q.name.toList, q.to.toList, q.zs.take J, q.num, q.torn⟩ ∧ Below w7.heap.size w7 w8 ∧ From w7 rs5 rs8 ∧ ∀ x, a8 = some x → w7.heap.size ≤ x.block := by
  have hbs : Bs w7 q.a q.n q.zs := hq.1.2.2.2.below hb (Nat.le_refl _)
  have hzl : q.zs.length = q.n := hbs.1
  have hok : ARef.ok w7 ⟨q.kind, q.name, q.to, q.a, J, q.c, q.zs.take J, q.num, q.torn⟩ := ⟨fun e => ⟨by have := (hq.1.1 e).1; show J = 0; omega, (hq.1.1 e).2⟩, Nat.le_trans hJ hq.1.2.1, hq.1.2.2.1, hbs.take hJ⟩
  have hd := refDone_any a5 n5 c5 rs5 ⟨q.kind, q.name, q.to, q.a, J, q.c, q.zs.take J, q.num, q.torn⟩ w7 (hF.below hb (Nat.le_refl _)) hok (by omega) ⟨fun _ => hfind, fun e => by have e' : q.kind = 2 := e; omega⟩ hu (by show J ≤ _; omega)
  refine hd.mono ?_
  rintro e w8 ⟨v, rs8, rfl, ho, hm, hl, hb8, hfr⟩
  obtain ⟨a8, c8, rfl, hfs⟩ := ho.fs
  exact ⟨a8, rs8.length, c8, rs8, rfl, hfs, hm, hb8, hfr, fun x hx => (ho.1.lt x.block (by rw [hx]; rfl)).1⟩

theorem torn_end {w w2 wc w7 w8 : World} {g5 : Nat} {a5 a8 : Option Addr} {n5 n8 c8 : Nat} {rs rs5 rs8 : List FRef} (hI : FIn (fun i => i ≠ g5 ∧ (i < w.heap.size ∨ w2.heap.size ≤ i)) a5 n5 rs5) (hsz : w.heap.size + 3 ≤ w2.heap.size) (hg : w2.heap.size ≤ g5) (hgl : g5 < wc.heap.size) (hs7 : wc.heap.size ≤ w7.heap.size) (hbw : Below w.heap.size w w7) (hb8 : Below w7.heap.size w7 w8) (hF : Fs w8 a8 n8 c8 rs8) (hfr : From w7 rs5 rs8) (hn : ∀ x, a8 = some x → w7.heap.size ≤ x.block) (u a b c d e f : Value) :
    Fs (put6 (w8.setCell ⟨g5, 1, none⟩ u) (w.heap.size + 1 + 1) a b c d e f) a8 n8 c8 rs8 ∧ Below w.heap.size w (put6 (w8.setCell ⟨g5, 1, none⟩ u) (w.heap.size + 1 + 1) a b c d e f) := by
  have hs8 := hb8.size
  have hb : Below w.heap.size w (put6 (w8.setCell ⟨g5, 1, none⟩ u) (w.heap.size + 1 + 1) a b c d e f) :=
    six_below ((hbw.trans (hb8.mono (by omega))).setCell (p := ⟨g5, 1, none⟩) (show w.heap.size ≤ g5 by omega) _) (by omega) a b c d e f
  have hk : Kp (fun i => i = g5 ∨ i = w.heap.size + 1 + 1) w8 (put6 (w8.setCell ⟨g5, 1, none⟩ u) (w.heap.size + 1 + 1) a b c d e f) :=
    six_kp ((Kp.refl _ w8).setCell (p := ⟨g5, 1, none⟩) (fun _ => .inl rfl) _) (.inr rfl) a b c d e f
  refine ⟨hF.kp hk ⟨fun x hx h0 h => ?_, fun r hr x hx h0 h => ?_⟩, hb⟩
  · have := hn x hx
    rcases h with h | h <;> omega
  · rcases hfr r hr with ⟨p, hp, e1, e2⟩ | e1 | ⟨y, e1, e2⟩
    · have h5 := hI.2 p hp x (by rw [← e1]; exact hx) (by omega)
      have h6 : x.block ≠ g5 ∧ (x.block < w.heap.size ∨ w2.heap.size ≤ x.block) := h5
      rcases h with h | h <;> omega
    · rw [hx] at e1; cases e1
    · rw [hx] at e1
      cases e1
      rcases h with h | h <;> omega
end Go.Proofs.Ytngkapddobgfaaa
