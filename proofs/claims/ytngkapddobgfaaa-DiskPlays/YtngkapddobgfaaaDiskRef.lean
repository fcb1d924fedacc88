/-
  What the document's own functions of the disk return.
-/
import Derived.Test.YtngkapddobgfaaaDiskMem
import Derived.Test.YtngkapddobgfaaaRefSame
namespace Go.Proofs.Ytngkapddobgfaaa
open Go.RowKit
set_option linter.unusedVariables false

set_option maxRecDepth 100000 in
set_option maxHeartbeats 400000 in
theorem refFind_any (a : Option Addr) (n c : Nat) (rs : List FRef) (name : ByteArray) (w : World) (h : Fs w a n c rs) (hn : n ≤ 1000) :
    Calls Try.prog 36 #[.slice a n c, .string name] w fun e w' => e = .returned (.int .i64 (findZ (rs.map FRef.file) name.toList)) ∧ w' = w := by
  go_enter Try.func36, Try.ntmps36
  go_wp2
  go_loop [5] (fun i => ∃ k : Nat, i = .int .i64 (k : Int) ∧ k ≤ n ∧ ∀ j r, j < k → rs[j]? = some r → r.name.toList ≠ name.toList) (fun i => n - (intOf i).toNat)
  case atStart => exact ⟨0, rfl, by omega, fun j r hj => by omega⟩
  case round =>
    obtain ⟨k, rfl, hk, hall⟩ := hrel
    by_cases hlt : k < n
    · obtain ⟨b, off, r, rfl, hr, hok, c1, c2⟩ := h.at hlt
      have HH : Hid (Fs w (some ⟨b, off, none⟩) n c rs) := h
      have HR : Hid (rs[k]? = some r) := hr
      clear h hr
      by_cases hq : r.name.toList = name.toList
      · have hqb : (r.name.toList == name.toList) = true := by simpa using hq
        have HQ : Hid (r.name.toList = name.toList) := hq
        clear hq
        go_wp2
        go_ret
        refine ⟨?_, rfl⟩
        rw [findZ_at (k := k) (f := r.file) (by rw [List.getElem?_map, HR.out]; rfl) HQ.out (fun j g hj hg => by
          rw [List.getElem?_map] at hg
          cases hr : rs[j]? with
          | none => rw [hr] at hg; cases hg
          | some r' => rw [hr] at hg; cases hg; exact hall j r' hj hr)]
        rfl
      · have hqb : (r.name.toList == name.toList) = false := by simpa using hq
        have HQ : Hid (r.name.toList ≠ name.toList) := hq
        clear hq
        go_wp2
        refine ⟨⟨k + 1, by go_num, by omega, fun j r' hj hr' => ?_⟩, ?_⟩
        · rcases Nat.lt_or_ge j k with hjk | hjk
          · exact hall j r' hjk hr'
          · obtain rfl : j = k := by omega
            rw [HR.out] at hr'
            cases hr'
            exact HQ.out
        · simp [intOf]; omega
    · have HN : Hid (n = rs.length) := h.1
      clear h
      go_wp2
      go_ret
      refine ⟨?_, rfl⟩
      rw [findZ_none (fun j g hg => by
        rw [List.getElem?_map] at hg
        cases hr : rs[j]? with
        | none => rw [hr] at hg; cases hg
        | some r' =>
          rw [hr] at hg; cases hg
          have hj : j < rs.length := by
            rcases Nat.lt_or_ge j rs.length with h | h
            · exact h
            · rw [List.getElem?_eq_none h] at hr; cases hr
          exact hall j r' (by have := HN.out; omega) hr)]
      rfl

theorem info_file : (Try.prog.info? 71).map (fun i => (i.zero, i.size, i.bytes)) = some (some (.agg #[.string ByteArray.empty, .slice none 0 0]), 2, 40) := by kernel_rfl

set_option maxRecDepth 100000 in
set_option maxHeartbeats 400000 in
theorem refDrop_any (a : Option Addr) (n c : Nat) (rs : List FRef) (name : ByteArray) (w : World) (h : Fs w a n c rs) (hn : n ≤ 1000) :
    Calls Try.prog 49 #[.slice a n c, .string name] w fun e w' => ∃ v, e = .returned v ∧ OwnF w' w.heap.size v (rs.filter fun r => decide (r.name.toList ≠ name.toList)) ∧ Below w.heap.size w w' := by
  go_enter Try.func49, Try.ntmps49
  go_wp2
  go_loopw [5, 6] (fun v i wr => ∃ (k : Nat) (L : List FRef), i = .int .i64 (k : Int) ∧ k ≤ n ∧ L = ((rs.take k).filter fun r => decide (r.name.toList ≠ name.toList)) ∧ wr.ownsRow w.heap.size 71 2 v L.length (fcells L) ∧ Below w.heap.size w wr) (fun _ i _ => n - (intOf i).toNat)
  case atStart => exact ⟨0, [], rfl, by omega, rfl, World.ownsRow_nil _ _ _ _, Below.refl _ _⟩
  case round =>
    obtain ⟨k, L, rfl, hk, hL, ho, hbr⟩ := hrel
    have HL : Hid (L = ((rs.take k).filter fun r => decide (r.name.toList ≠ name.toList))) := hL
    clear hL
    by_cases hlt : k < n
    · obtain ⟨b, off, r, rfl, hr, hok, c1, c2⟩ := (h.below hbr (Nat.le_refl _)).at hlt
      have HR : Hid (rs[k]? = some r) := hr
      clear h hr hok
      by_cases hq : r.name.toList = name.toList
      · have hqb : (r.name.toList == name.toList) = true := by simpa using hq
        have HE : Hid (L = (rs.take (k + 1)).filter fun r => decide (r.name.toList ≠ name.toList)) := by
          rw [filter_take _ _ _ _ HR.out, if_neg (by simpa using hq), List.append_nil]; exact HL.out
        clear hq
        go_wp2
        go_roundw
        case rel => exact ⟨k + 1, L, by go_num, by omega, HE.out, ho, hbr⟩
        case measure => simp [intOf]; omega
      · have hqb : (r.name.toList == name.toList) = false := by simpa using hq
        have HE : Hid (L ++ [r] = (rs.take (k + 1)).filter fun r => decide (r.name.toList ≠ name.toList)) := by
          rw [filter_take _ _ _ _ HR.out, if_pos (by simpa using hq), ← HL.out]; exact rfl
        have hLn : L.length ≤ 1000 := by
          rw [HL.out]
          have := List.length_filter_le (fun r : FRef => decide (r.name.toList ≠ name.toList)) (rs.take k)
          have h2 := List.length_take (i := k) (l := rs)
          omega
        clear hq
        go_wp2_with (at_builtin; refine wpList_append_cells _ rfl _ _ 29 rfl w.heap.size 71 _ 2 40 Try.underlying29 info_file rfl (by decide) _ L.length (fcells L) rfl (ho.alloc _) (some ⟨wr.heap.size, 0, none⟩) 1 1 (fcells [r]) rfl ?a1 (Cs.new _ _ _) rfl (fcells_oneCell _) ?a2 ?a3 ?a4 ?_)
        case a1 => intro h; cases h
        case a2 => unfold maxLen; omega
        case a3 => omega
        case a4 => have := hbr.size; simp; omega
        intro v2 w2 ho2 hg2
        have hb2 : Below w.heap.size w w2 := (hbr.alloc hbr.size _).trans (below_grown (ho.alloc _) hg2 (by have := hbr.size; simp; omega))
        rw [← fcells_append, show L.length + 1 = (L ++ [r]).length by simp] at ho2
        clear hg2 ho hbr
        go_wp2
        go_roundw
        case rel => exact ⟨k + 1, L ++ [r], by go_num, by omega, HE.out, ho2, hb2⟩
        case measure => simp [intOf]; omega
    · have HE : Hid (L = rs.filter fun r => decide (r.name.toList ≠ name.toList)) := by
        have := HL.out
        rw [List.take_of_length_le (by have := h.1; omega)] at this
        exact this
      go_wp2
      go_ret
      refine ⟨_, rfl, ⟨by rw [← HE.out]; exact ho, fun r hr => ?_⟩, hbr⟩
      exact (h.2.2.2.2 r (List.mem_filter.1 hr).1).below hbr (Nat.le_refl _)
end Go.Proofs.Ytngkapddobgfaaa
