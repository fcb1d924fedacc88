/-
  What came into a law as a term of the document's: a finite tree.
-/
import Derived.Test.YtmdhefepaolhcaaTmMem
import Derived.Test.YtmdhefepaolhcaaChecked
import Derived.OpenShut
import Derived.ChangeArms
import Derived.Below
namespace Go.Proofs.Ytmdhefepaolhcaa
open Go.RowKit Go.ChangeShapes
set_option linter.unusedVariables false

theorem wf64 {n : Int} (h : (Lit.int .i64 n).wf = true) : -9223372036854775808 ≤ n ∧ n ≤ 9223372036854775807 := by
  simpa [Lit.wf, IntKind.min, IntKind.max, IntKind.signed, IntKind.bits] using h

section
variable {H : Type} {enc : TypeId × Value → H} {w : World} {held : Bool}

set_option maxRecDepth 20000 in
theorem open_tm : ∀ (fuel : Nat) {cs : List Value} {x : DataW H × List MemPlace}, DataW.trod enc Try.prog w 0 (fun _ => true) held fuel 25 cs = some x → ∃ t a n c, cs = [.int .i64 t.f, .slice a n c] ∧ Tat (fun _ => True) w t a n c := by
  intro fuel
  induction fuel using Nat.strongRecOn with
  | ind fuel ih =>
    intro cs x h
    obtain ⟨xs, n, rfl, _, hl, hx, hf⟩ := DataW.trod_struct Try.underlying25 h
    have hl2 : cs.length = 2 := by rw [hl]; kernel_rfl
    have hx2 : xs.length = 2 := by rw [hx]; rfl
    have h0 := hf 0 _ rfl
    have h1 := hf 1 _ rfl
    rw [List.getElem?_eq_getElem (by omega)] at h0 h1
    obtain ⟨z, e0, _, w0⟩ := DataW.trod_int Try.underlying3 h0
    obtain ⟨c0, c1, rfl⟩ : ∃ c0 c1, cs = [c0, c1] := by
      match cs, hl2 with
      | [a, b], _ => exact ⟨a, b, rfl⟩
    have k3 : Try.prog.cellsOf 3 = 1 := by kernel_rfl
    have k22 : Try.prog.cellsOf 23 = 1 := by kernel_rfl
    have g0 : c0 = .int .i64 z := by simpa [k3] using e0
    subst g0
    have h1' : DataW.trod enc Try.prog w 0 (fun _ => true) held n 23 [c1] = some xs[1] := by
      have h2 : DataW.trod enc Try.prog w 0 (fun _ => true) held n 23 (([Value.int .i64 z, c1].drop 1).take (Try.prog.cellsOf 23)) = some xs[1] := h1
      rw [k22] at h2
      exact h2
    rcases DataW.trod_slice Try.underlying23 h1' with ⟨hcs, _⟩ | ⟨ad, len, cap, elems, rest, m, rfl, hcs, _, _, hle, hm, hel, hr, _⟩
    · have g1 : c1 = .slice none 0 0 := by simpa using hcs
      subst g1
      exact ⟨.mk z [], none, 0, 0, rfl, tat_iff.2 ⟨wf64 w0, Las.nil _ _⟩⟩
    · have g1 : c1 = .slice (some ad) len cap := by simpa using hcs
      subst g1
      have each : ∀ i, i < len → ∃ t a n c, Tat (fun _ => True) w t a n c ∧ w.cell? (ad.add (i * 2)) = some (.int .i64 t.f) ∧ w.cell? (ad.add (i * 2 + 1)) = some (.slice a n c) := by
        intro i hi
        have h1 := hr i hi
        rw [show Try.prog.cellsOf 25 = 2 by kernel_rfl, List.getElem?_eq_getElem (by omega), Option.bind_eq_some_iff] at h1
        obtain ⟨cs, h2, h3⟩ := h1
        obtain ⟨_, h4, h5⟩ := World.cells?_some h2
        obtain ⟨t, a, n, c, rfl, h6⟩ := ih m (by omega) h3
        refine ⟨t, a, n, c, h6, ?_, ?_⟩
        · have h7 := h5 0 (by omega)
          rwa [Addr.add_add] at h7
        · have h7 := h5 1 (by omega)
          rwa [Addr.add_add] at h7
      have build : ∀ k, k ≤ len → ∃ (l : List Tm) (ys : List Value), l.length = k ∧ Ecs (fun _ => True) w l ys ∧ ∀ i, i < k * 2 → w.cell? (ad.add i) = ys[i]? := by
        intro k
        induction k with
        | zero => intro _; exact ⟨[], [], rfl, Ecs.nil_iff.2 rfl, by simp⟩
        | succ k ih2 =>
          intro hk
          obtain ⟨l, ys, h1, h2, h3⟩ := ih2 (by omega)
          obtain ⟨t, a, n, c, h4, h5, h6⟩ := each k (by omega)
          have hyl := h2.length
          refine ⟨l ++ [t], ys ++ [.int .i64 t.f, .slice a n c], by simp [h1], h2.append (Ecs.single h4), fun i hi => ?_⟩
          rcases Nat.lt_or_ge i (k * 2) with h | h
          · rw [h3 i h, List.getElem?_append_left (by omega)]
          · rw [List.getElem?_append_right (by omega)]
            rcases Nat.lt_or_ge i (k * 2 + 1) with h' | h'
            · obtain rfl : i = k * 2 := by omega
              rw [h5, show k * 2 - ys.length = 0 by omega]; rfl
            · obtain rfl : i = k * 2 + 1 := by omega
              rw [h6, show k * 2 + 1 - ys.length = 1 by omega]; rfl
      obtain ⟨l, ys, h1, h2, h3⟩ := build len (Nat.le_refl _)
      refine ⟨.mk z l, some ad, len, cap, rfl, tat_iff.2 ⟨wf64 w0, h1.symm, hle, hm, (fun e => by cases e), ys, ?_, h2⟩⟩
      have hyl := h2.length
      rcases Nat.eq_zero_or_pos len with hz0 | hz0
      · exact .inl (List.eq_nil_of_length_eq_zero (by omega))
      · obtain ⟨b, off, spot⟩ := ad
        obtain ⟨t, a, n, c, _, hc, _⟩ := each 0 hz0
        have hspot : spot = none := by simpa [Addr.add] using World.cell?_spot hc
        subst hspot
        have hadd : ∀ i, (⟨b, off, none⟩ : Addr).add i = ⟨b, off + i, none⟩ := fun i => by simp [Addr.add]
        rw [hadd] at hc
        refine .inr ⟨b, off, rfl, trivial, World.block_lt_of_cell? w _ hc, fun i hi => ?_⟩
        rw [← hadd]
        exact h3 i (by omega)
end
end Go.Proofs.Ytmdhefepaolhcaa
