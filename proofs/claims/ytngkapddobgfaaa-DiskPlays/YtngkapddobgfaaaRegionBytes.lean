/-
  The law on append of bytes where the operation stands in a region that draws its order: no function of the program is named here.
-/
import Derived.Test.YtngkapddobgfaaaRowMem
import Derived.Deep.RegionHeld3
namespace Go.Proofs.Ytngkapddobgfaaa
open Go.RowKit
set_option linter.unusedVariables false

theorem step_append_bytes {P : Program} (w : World) {ops : Array Oper} {o : Oper} {a : Act} {K : Act → World → Prop} {Q : Exit → Act → World → Prop} {E : Prop} (hgd : Region.wanted o (yielded ops a.tmps) = true) (s x : Operand)
    (ho : o.op = .call { callee := .builtin .append, args := #[s, x], argTypes := #[32, 32] })
    (base : Nat) (ht : P.underlying 32 = some (.slice 5)) (hi : (P.info? 5).map (fun i => (i.zero, i.size, i.bytes)) = some (some (.int .u8 0), 1, 1))
    (v : Value) (xs : List Int) (hs : a.eval s = v) (hown : Own w base v xs)
    (ao : Option Addr) (m c : Nat) (ys : List Int) (hx : a.eval x = .slice ao m c) (hnil : ao = none → m = 0 ∧ c = 0) (hb : Bs w ao m ys)
    (hlen : xs.length + m ≤ 140737488355328) (hbase : base ≤ w.heap.size)
    (h : ∀ v' w', Own w' base v' (xs ++ ys) → w.grownBy w' v.ownBlock → K (a.put o.dst v') w') :
    if Region.wanted o (yielded ops a.tmps) = true then Oper.wp P o a w K Q else E := by
  rw [if_pos hgd]
  obtain ⟨i, h1, h2, h3, h4⟩ := info_parts hi
  obtain ⟨b1, b2, b3⟩ := hb
  have hwf : ∀ z ∈ xs ++ ys, 0 ≤ z ∧ z ≤ 255 := fun z hz => (List.mem_append.1 hz).elim (hown.2 z) (b2 z)
  cases ao with
  | none =>
    obtain ⟨rfl, rfl⟩ := hnil rfl
    have : ys = [] := List.eq_nil_of_length_eq_zero b1
    subst this
    have hrun := run_append_owned_none (P := P) (w := w) base 32 o.type 5 i 1 ht h1 v _ _ hown.1
    unfold Oper.wp
    simp [execOp, ho, resolve, invoke, builtin, hs, hx, hrun, Result.andThen]
    exact h v w (by simpa using hown) (World.grownBy.refl _ _)
  | some ad =>
    refine wp_append_own w s x 32 ho base 5 i (.int .u8 0) 1 1 ht h1 h2 h3 h4 rfl (by decide) v _ _ hs hown.1 ad m c (cb ys) hx (by rw [cb_length, b1]; omega) ?_ (cb_oneCell ys) (by unfold maxLen; omega) (by omega) hbase ?_
    · intro j u hj
      rcases b3 with b3 | ⟨b, off, ha, hlt, hc⟩
      · have : ys = [] := List.eq_nil_of_length_eq_zero (by omega)
        subst this
        simp [cb] at hj
      · cases ha
        have hjl : j < ys.length := by
          rcases Nat.lt_or_ge j ys.length with h | h
          · exact h
          · rw [List.getElem?_eq_none (by rw [cb_length]; exact h)] at hj; cases hj
        have e : (⟨b, off, none⟩ : Addr).add j = ⟨b, off + j, none⟩ := by simp [Addr.add]
        rw [e, hc j (by omega), ← hj]
        simp [cb, hjl]
    · intro v' w' h5 h6 _
      refine h v' w' ⟨?_, hwf⟩ h6
      rw [List.length_append, cb_append, b1]
      exact h5
end Go.Proofs.Ytngkapddobgfaaa
