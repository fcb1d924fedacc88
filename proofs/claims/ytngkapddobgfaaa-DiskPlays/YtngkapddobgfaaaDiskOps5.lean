/-
  What Names returns, and what it leaves.
-/
import Derived.Test.YtngkapddobgfaaaDiskOps4
import Derived.Test.YtngkapddobgfaaaDiskIter
namespace Go.Proofs.Ytngkapddobgfaaa
open Go.RowKit Go.Maps
set_option linter.unusedVariables false

theorem less_le : ∀ a b : List UInt8, Op.bytesLess a b = true → a ≤ b
  | [], b, _ => by simp
  | a :: r, [], h => by simp [Op.bytesLess] at h
  | a :: r, b :: s, h => by
    rw [List.cons_le_cons_iff]
    simp only [Op.bytesLess, Bool.or_eq_true, decide_eq_true_eq, Bool.and_eq_true, beq_iff_eq] at h
    rcases h with h | ⟨h1, h2⟩
    · exact .inl h
    · exact .inr ⟨h1, less_le r s h2⟩

def namesF (L : List FileL) : List (List UInt8) := L.map Prod.fst
theorem strKeys_dOf (E : Ents) : strKeys (dOf E) = namesF (filesOf E) := by
  simp [strKeys, dOf, namesF, filesOf, projG, strOf]
theorem sorted_names {E : Ents} (h : SortedG (filesOf E)) {ss : List (List UInt8)} (hp : ss.Perm (strKeys (dOf E))) : ss.mergeSort (fun x y => decide (x ≤ y)) = namesF (filesOf E) := by
  rw [mergeSort_of_perm hp, strKeys_dOf]
  refine List.mergeSort_of_pairwise ?_
  unfold namesF
  rw [List.pairwise_map]
  exact h.imp fun hl => by simpa using less_le _ _ hl

set_option maxRecDepth 100000 in
set_option maxHeartbeats 400000 in
theorem names_any (S : Nat → Prop) (p : Nat) (st : St) (w : World) (h : Dk w S p st) (hd : st.deeds ≤ 1099511627776) :
    Calls Try.prog 32 #[.pointer (some ⟨p, 0, none⟩)] w fun e w' => ∃ v, e = .returned v ∧ w'.ownsRow w.heap.size 9 1 v (seenF st).length ((namesF (seenF st)).map encStr) ∧ Stays w S p st w' := by
  obtain ⟨lm, E, v, rs, hD, hS, hSl⟩ := h
  have hseen := seen_any p lm E v rs st w hD hd
  have hok := hD.run.fold
  have HOK : Hid (okFiles st.room (foldF st.last st.waits)) := hok
  clear hok
  go_enter Try.func32, Try.ntmps32
  go_wp2_with fail
  refine hseen.mono ?_
  rintro e w1 ⟨m, E', rfl, hsaw⟩
  have hkeys := callsIn_wide.1 (Try.maps_Keys_47 (some m) w1)
  have hl : E'.length ≤ 64 := by rw [← files_length, hsaw.2.2.1]; exact HOK.out.2.1
  have hsort := callsIn_wide.1 (Try.slices_Sorted_keys_46_47 m E'.length (dOf E') slR w1 hsaw.2.1.1 (by rw [dOf_size]; unfold maxLen; omega) (by rw [dOf_size]; omega))
  go_wp2_with fail
  refine hkeys.mono ?_
  rintro e w2 ⟨rfl, rfl⟩
  clear hkeys
  go_wp2_with fail
  refine hsort.mono ?_
  rintro e w3 ⟨v3, ss, rfl, hperm, hrow, hnil, hb3⟩
  clear hsort
  go_wp2
  go_ret
  have hsz : ss.length = (seenF st).length := by
    rw [hperm.length_eq, strKeys_dOf, hsaw.2.2.1]; simp [namesF]
  rw [sorted_names (by rw [hsaw.2.2.1]; exact HOK.out.1) hperm, hsz, hsaw.2.2.1] at hrow
  have hs1 := hsaw.2.2.2.1.size
  refine ⟨v3, rfl, ownsRow_mono hrow (by simp; omega), ?_⟩
  have hka : Kp (fun _ => False) w1 (w1.alloc (.cells #[.map (some m)] 63)) := (Kp.refl _ _).alloc _
  exact Stays.saw hD hS hSl (Kp.refl _ _) ((hsaw.more hka).more (Kp.of_below hb3))
end Go.Proofs.Ytngkapddobgfaaa
