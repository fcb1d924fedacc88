/-
  PsMk12 PsWf PsCl12 PsRefB PsPr12
-/
import Derived.Test.YtglbohajmccehaaDoorMg7
import Derived.Test.YtglbohajmccehaaDoorMg4
import Derived.Test.YtglbohajmccehaaDoorMg6
import Derived.Test.YtglbohajmccehaaDoorMg5
import Derived.Test.YtglbohajmccehaaDoorMg3
namespace Go.Proofs.YtglbohajmccehaaDoor
open Go.RowKit
set_option linter.unusedVariables false
set_option linter.unusedSimpArgs false
set_option maxRecDepth 100000
theorem start12_any (w : World) :
    Calls Tryd.prog 12 #[] w fun e w' => e = .returned (.agg #[.slice (some ⟨w.heap.size + 1, 0, none⟩) 1 1, .slice (some ⟨w.heap.size + 2, 0, none⟩) 1 1, .slice (some ⟨w.heap.size + 3, 0, none⟩) 1 1]) ∧ Below w.heap.size w w' ∧ w'.heap.size = w.heap.size + 4 ∧ w'.heap[w.heap.size + 1]? = some (.cells #[trueS] 9 (0, 0)) ∧ w'.heap[w.heap.size + 2]? = some (.cells #[.int .i64 0] 3 (0, 0)) ∧ w'.heap[w.heap.size + 3]? = some (.cells #[.bool true] 4 (0, 0)) := by
  go_enter Tryd.func12, Tryd.ntmps12
  go_wp2
  obtain ⟨f0, f1, f2, f3, f4, f5⟩ := four w (.cells #[.slice (some ⟨w.heap.size + 1, 0, none⟩) 1 1, .slice (some ⟨w.heap.size + 1 + 1, 0, none⟩) 1 1, .slice (some ⟨w.heap.size + 1 + 1 + 1, 0, none⟩) 1 1] 32) (.cells #[trueS] 9) (.cells #[.int .i64 0] 3) (.cells #[.bool true] 4)
  refine bodyPost_ret (results_cell_row (cs := #[.slice (some ⟨w.heap.size + 1, 0, none⟩) 1 1, .slice (some ⟨w.heap.size + 1 + 1, 0, none⟩) 1 1, .slice (some ⟨w.heap.size + 1 + 1 + 1, 0, none⟩) 1 1]) (g := w.heap.size) (t := 32) (fr := (0, 0)) rfl _ _ (d := _) rfl f2 rfl rfl rfl) rfl ?_
  exact ⟨rfl, f0, f1, f3, f4, f5⟩
noncomputable abbrev rdI (L : List By) : AS := [(450001, .obj), (35500100, .val (.lst (L.map sv))), (35500101, .val (.i 0)), (35500102, .val (.b false)), (35500103, .sl 300001 0 1 1), (35500104, .sl 300002 0 1 1), (35500105, .sl 300003 0 1 1), (35500106, ⟨0, .lst [], 1, 0, []⟩), (300001, .mrow 9 1 [sv [36, 116, 114, 117, 101]]), (300002, .mrow 3 1 [.i 0]), (300003, .mrow 4 1 [.b true])]
theorem look_r0 {L : List By} {k : Nat} {av : AV} (h : look (rdI L) k = some av) : (k = 450001 ∧ av = .obj) ∨ (k = 35500100 ∧ av = .val (.lst (L.map sv))) ∨ (k = 35500101 ∧ av = .val (.i 0)) ∨ (k = 35500102 ∧ av = .val (.b false)) ∨ (k = 35500103 ∧ av = .sl 300001 0 1 1) ∨ (k = 35500104 ∧ av = .sl 300002 0 1 1) ∨ (k = 35500105 ∧ av = .sl 300003 0 1 1) ∨ (k = 35500106 ∧ av = ⟨0, .lst [], 1, 0, []⟩) ∨ (k = 300001 ∧ av = .mrow 9 1 [sv [36, 116, 114, 117, 101]]) ∨ (k = 300002 ∧ av = .mrow 3 1 [.i 0]) ∨ (k = 300003 ∧ av = .mrow 4 1 [.b true]) := by
  rw [look_cons] at h
  split at h
  · rename_i e; cases h; exact (.inl ⟨e.symm, rfl⟩)
  rw [look_cons] at h
  split at h
  · rename_i e; cases h; exact (.inr (.inl ⟨e.symm, rfl⟩))
  rw [look_cons] at h
  split at h
  · rename_i e; cases h; exact (.inr (.inr (.inl ⟨e.symm, rfl⟩)))
  rw [look_cons] at h
  split at h
  · rename_i e; cases h; exact (.inr (.inr (.inr (.inl ⟨e.symm, rfl⟩))))
  rw [look_cons] at h
  split at h
  · rename_i e; cases h; exact (.inr (.inr (.inr (.inr (.inl ⟨e.symm, rfl⟩)))))
  rw [look_cons] at h
  split at h
  · rename_i e; cases h; exact (.inr (.inr (.inr (.inr (.inr (.inl ⟨e.symm, rfl⟩))))))
  rw [look_cons] at h
  split at h
  · rename_i e; cases h; exact (.inr (.inr (.inr (.inr (.inr (.inr (.inl ⟨e.symm, rfl⟩)))))))
  rw [look_cons] at h
  split at h
  · rename_i e; cases h; exact (.inr (.inr (.inr (.inr (.inr (.inr (.inr (.inl ⟨e.symm, rfl⟩))))))))
  rw [look_cons] at h
  split at h
  · rename_i e; cases h; exact (.inr (.inr (.inr (.inr (.inr (.inr (.inr (.inr (.inl ⟨e.symm, rfl⟩)))))))))
  rw [look_cons] at h
  split at h
  · rename_i e; cases h; exact (.inr (.inr (.inr (.inr (.inr (.inr (.inr (.inr (.inr (.inl ⟨e.symm, rfl⟩))))))))))
  rw [look_cons] at h
  split at h
  · rename_i e; cases h; exact (.inr (.inr (.inr (.inr (.inr (.inr (.inr (.inr (.inr (.inr ⟨e.symm, rfl⟩))))))))))
  cases h
theorem rd_sim {w w' : World} {V : UX} (hV : ∀ k v, V.f k = some v → False) {g1 g2 g3 g5 : Nat} {ty : TypeId} {L : List By} {vL : Value} (hvL : VRep (Us w V (fun _ _ => False)) w' (.lst (L.map sv)) vL) (hB : Below w.heap.size w w') (h0 : w.heap.size ≤ g1) (h12 : g1 < g2) (h23 : g2 < g3) (h35 : g3 < g5) (hlt : g5 < w'.heap.size)
    (e1 : w'.heap[g1]? = some (.cells #[trueS] 9 (0, 0))) (e2 : w'.heap[g2]? = some (.cells #[.int .i64 0] 3 (0, 0))) (e3 : w'.heap[g3]? = some (.cells #[.bool true] 4 (0, 0)))
    (e5 : w'.heap[g5]? = some (.cells #[vL, .int .i64 0, .bool false, .slice (some ⟨g1, 0, none⟩) 1 1, .slice (some ⟨g2, 0, none⟩) 1 1, .slice (some ⟨g3, 0, none⟩) 1 1, .slice none 0 0] ty (0, 0))) :
    ∃ hv', SimG w V 0 (rdI L) ⟨#[], []⟩ w' (fun _ _ => False) hv' ∧ hv' 450001 = .pointer (some ⟨g5, 0, none⟩) := by
  have hcell : ∀ i, i < 7 → w'.cell? ⟨g5, i, none⟩ = (#[vL, .int .i64 0, .bool false, .slice (some ⟨g1, 0, none⟩) 1 1, .slice (some ⟨g2, 0, none⟩) 1 1, .slice (some ⟨g3, 0, none⟩) 1 1, .slice none 0 0] : Array Value)[i]? := fun i hi => by
    simp only [World.cell?, e5]
    simp
  obtain ⟨hv', hhv⟩ : ∃ hv' : Nat → Value, hv' = fun k => if k = 450001 then .pointer (some ⟨g5, 0, none⟩) else if k = 300001 then .slice (some ⟨g1, 0, none⟩) 1 1 else if k = 300002 then .slice (some ⟨g2, 0, none⟩) 1 1 else .slice (some ⟨g3, 0, none⟩) 1 1 := ⟨_, rfl⟩
  have hv5 : hv' 450001 = .pointer (some ⟨g5, 0, none⟩) := by rw [hhv]; simp
  have hv1 : hv' 300001 = .slice (some ⟨g1, 0, none⟩) 1 1 := by rw [hhv]; simp
  have hv2 : hv' 300002 = .slice (some ⟨g2, 0, none⟩) 1 1 := by rw [hhv]; simp
  have hv3 : hv' 300003 = .slice (some ⟨g3, 0, none⟩) 1 1 := by rw [hhv]; simp
  have hvs : vL.cells.size = 1 ∧ vL.cells[0]? = some vL := by
    obtain ⟨ao, m, c, rfl, _⟩ := vrep_lst.1 hvL
    exact ⟨rfl, rfl⟩
  refine ⟨hv', ⟨⟨hB.os, hB.tape, hB.output, hB.size, fun k hk _ => hB.block k hk⟩, rfl, rfl, fun d av k1 k2 => ?_, fun m o av k1 k2 k3 k4 => ?_, fun m o o' av av' k1 k2 k3 k4 k5 => ?_, fun k av k1 k2 => ?_, fun k av g k1 k2 k3 k4 => ?_, fun k k' av av' g k1 k2 k3 k4 k5 k6 k7 k8 => ?_, fun k v hk => (hV k v hk).elim, fun b o hd => hd.elim⟩, hv5⟩
  · rcases look_r0 k1 with ⟨e, _⟩ | ⟨e, _⟩ | ⟨e, _⟩ | ⟨e, _⟩ | ⟨e, _⟩ | ⟨e, _⟩ | ⟨e, _⟩ | ⟨e, _⟩ | ⟨e, _⟩ | ⟨e, _⟩ | ⟨e, _⟩ <;> omega
  · have hm : m = 350001 := by
      unfold BN at k4
      rcases look_r0 k3 with ⟨e, e2⟩ | ⟨e, e2⟩ | ⟨e, e2⟩ | ⟨e, e2⟩ | ⟨e, e2⟩ | ⟨e, e2⟩ | ⟨e, e2⟩ | ⟨e, e2⟩ | ⟨e, e2⟩ | ⟨e, e2⟩ | ⟨e, e2⟩
      · omega
      all_goals cases e2
    subst hm
    have hbk : blkOf (hv' (100000 + 350001)) = g5 := by rw [show 100000 + 350001 = 450001 from rfl, hv5]; rfl
    rw [hbk]
    rcases look_r0 k1 with ⟨e, _⟩ | ⟨e, rfl⟩ | ⟨e, rfl⟩ | ⟨e, rfl⟩ | ⟨e, rfl⟩ | ⟨e, rfl⟩ | ⟨e, rfl⟩ | ⟨e, rfl⟩ | ⟨e, _⟩ | ⟨e, _⟩ | ⟨e, _⟩
    · unfold fKey at e; omega
    · have ho : o = 0 := by unfold fKey at e; omega
      subst ho
      refine ⟨vL, avrep_val hvL, hvs.1, fun i hi => ?_⟩
      have hi : i < 1 := by rw [hvs.1] at hi; exact hi
      obtain rfl : i = 0 := by omega
      rw [hcell _ (by omega), hvs.2]; rfl
    · have ho : o = 1 := by unfold fKey at e; omega
      subst ho
      refine ⟨.int .i64 0, avrep_sc rfl, rfl, fun i hi => ?_⟩
      have hi : i < 1 := hi
      obtain rfl : i = 0 := by omega
      rw [hcell _ (by omega)]; rfl
    · have ho : o = 2 := by unfold fKey at e; omega
      subst ho
      refine ⟨.bool false, avrep_sc rfl, rfl, fun i hi => ?_⟩
      have hi : i < 1 := hi
      obtain rfl : i = 0 := by omega
      rw [hcell _ (by omega)]; rfl
    · have ho : o = 3 := by unfold fKey at e; omega
      subst ho
      refine ⟨.slice (some ⟨g1, 0, none⟩) 1 1, ⟨⟨by decide, by decide⟩, ?_⟩, rfl, fun i hi => ?_⟩
      · show SlV (hv' 300001) 0 1 1 _
        rw [hv1]; exact slV_all rfl (Nat.le_refl _) (.inr ⟨_, rfl⟩)
      · have hi : i < 1 := hi
        obtain rfl : i = 0 := by omega
        rw [hcell _ (by omega)]; rfl
    · have ho : o = 4 := by unfold fKey at e; omega
      subst ho
      refine ⟨.slice (some ⟨g2, 0, none⟩) 1 1, ⟨⟨by decide, by decide⟩, ?_⟩, rfl, fun i hi => ?_⟩
      · show SlV (hv' 300002) 0 1 1 _
        rw [hv2]; exact slV_all rfl (Nat.le_refl _) (.inr ⟨_, rfl⟩)
      · have hi : i < 1 := hi
        obtain rfl : i = 0 := by omega
        rw [hcell _ (by omega)]; rfl
    · have ho : o = 5 := by unfold fKey at e; omega
      subst ho
      refine ⟨.slice (some ⟨g3, 0, none⟩) 1 1, ⟨⟨by decide, by decide⟩, ?_⟩, rfl, fun i hi => ?_⟩
      · show SlV (hv' 300003) 0 1 1 _
        rw [hv3]; exact slV_all rfl (Nat.le_refl _) (.inr ⟨_, rfl⟩)
      · have hi : i < 1 := hi
        obtain rfl : i = 0 := by omega
        rw [hcell _ (by omega)]; rfl
    · have ho : o = 6 := by unfold fKey at e; omega
      subst ho
      refine ⟨.slice none 0 0, ⟨?_, fun _ => ⟨0, _, at_nil _, rfl⟩⟩, rfl, fun i hi => ?_⟩
      · exact vrep_lst.2 ⟨none, 0, 0, rfl, rfl, Nat.le_refl _, by unfold maxLen; omega, fun _ => ⟨rfl, rfl⟩, [], .inl rfl, rfl⟩
      · have hi : i < 1 := hi
        obtain rfl : i = 0 := by omega
        rw [hcell _ (by omega)]; rfl
    all_goals (unfold fKey at e; omega)
  · rcases look_r0 k1 with ⟨e, _⟩ | ⟨e, rfl⟩ | ⟨e, rfl⟩ | ⟨e, rfl⟩ | ⟨e, rfl⟩ | ⟨e, rfl⟩ | ⟨e, rfl⟩ | ⟨e, rfl⟩ | ⟨e, _⟩ | ⟨e, _⟩ | ⟨e, _⟩
    · unfold fKey at e; omega
    · show o + 1 ≤ o'; omega
    · show o + 1 ≤ o'; omega
    · show o + 1 ≤ o'; omega
    · show o + 1 ≤ o'; omega
    · show o + 1 ≤ o'; omega
    · show o + 1 ≤ o'; omega
    · show o + 1 ≤ o'; omega
    all_goals (unfold fKey at e; omega)
  · unfold oKey at k2
    rcases look_r0 k1 with ⟨rfl, rfl⟩ | ⟨e, _⟩ | ⟨e, _⟩ | ⟨e, _⟩ | ⟨e, _⟩ | ⟨e, _⟩ | ⟨e, _⟩ | ⟨e, _⟩ | ⟨rfl, rfl⟩ | ⟨rfl, rfl⟩ | ⟨rfl, rfl⟩
    · exact ⟨_, _, _, hv5, e5⟩
    · omega
    · omega
    · omega
    · omega
    · omega
    · omega
    · omega
    · rw [hv1]
      exact ⟨[trueS], ⟨rfl, .inr ⟨_, 1, #[trueS], rfl, Nat.zero_le _, e1, Nat.le_refl _, by decide, rfl, rfl⟩⟩, by decide, (fun c hc => by rw [List.mem_singleton.1 hc]; rfl), ⟨[trueS], [], rfl, rep_sc.2 ⟨rfl, rfl⟩, rfl⟩⟩
    · rw [hv2]
      exact ⟨[.int .i64 0], ⟨rfl, .inr ⟨_, 1, #[.int .i64 0], rfl, Nat.zero_le _, e2, Nat.le_refl _, by decide, rfl, rfl⟩⟩, by decide, (fun c hc => by rw [List.mem_singleton.1 hc]; rfl), ⟨[.int .i64 0], [], rfl, rep_sc.2 ⟨rfl, rfl⟩, rfl⟩⟩
    · rw [hv3]
      exact ⟨[.bool true], ⟨rfl, .inr ⟨_, 1, #[.bool true], rfl, Nat.zero_le _, e3, Nat.le_refl _, by decide, rfl, rfl⟩⟩, by decide, (fun c hc => by rw [List.mem_singleton.1 hc]; rfl), ⟨[.bool true], [], rfl, rep_sc.2 ⟨rfl, rfl⟩, rfl⟩⟩
  · unfold oKey at k2
    have hk : ∃ j, hb (hv' k) = some j ∧ w.heap.size ≤ j ∧ j < w'.heap.size := by
      rcases look_r0 k1 with ⟨rfl, rfl⟩ | ⟨e, _⟩ | ⟨e, _⟩ | ⟨e, _⟩ | ⟨e, _⟩ | ⟨e, _⟩ | ⟨e, _⟩ | ⟨e, _⟩ | ⟨rfl, rfl⟩ | ⟨rfl, rfl⟩ | ⟨rfl, rfl⟩
      · exact ⟨g5, by rw [hv5]; rfl, by omega, by omega⟩
      · omega
      · omega
      · omega
      · omega
      · omega
      · omega
      · omega
      · exact ⟨g1, by rw [hv1]; rfl, by omega, by omega⟩
      · exact ⟨g2, by rw [hv2]; rfl, by omega, by omega⟩
      · exact ⟨g3, by rw [hv3]; rfl, by omega, by omega⟩
    obtain ⟨j, f1, f2, f3⟩ := hk
    rw [f1] at k4
    cases k4
    exact ⟨.inl f2, f3, fun o _ h => h⟩
  · unfold oKey at k3 k4
    have hk : ∀ {k av}, look (rdI L) k = some av → 100000 ≤ k ∧ k < 500000 → (k = 450001 ∧ hb (hv' k) = some g5) ∨ (k = 300001 ∧ hb (hv' k) = some g1) ∨ (k = 300002 ∧ hb (hv' k) = some g2) ∨ (k = 300003 ∧ hb (hv' k) = some g3) := fun {k av} f1 f2 => by
      rcases look_r0 f1 with ⟨rfl, rfl⟩ | ⟨e, _⟩ | ⟨e, _⟩ | ⟨e, _⟩ | ⟨e, _⟩ | ⟨e, _⟩ | ⟨e, _⟩ | ⟨e, _⟩ | ⟨rfl, rfl⟩ | ⟨rfl, rfl⟩ | ⟨rfl, rfl⟩
      · exact .inl ⟨rfl, by rw [hv5]; rfl⟩
      · omega
      · omega
      · omega
      · omega
      · omega
      · omega
      · omega
      · exact .inr (.inl ⟨rfl, by rw [hv1]; rfl⟩)
      · exact .inr (.inr (.inl ⟨rfl, by rw [hv2]; rfl⟩))
      · exact .inr (.inr (.inr ⟨rfl, by rw [hv3]; rfl⟩))
    intro h9
    rcases hk k1 k3 with ⟨a1, a2⟩ | ⟨a1, a2⟩ | ⟨a1, a2⟩ | ⟨a1, a2⟩ <;> rcases hk k2 k4 with ⟨b1, b2⟩ | ⟨b1, b2⟩ | ⟨b1, b2⟩ | ⟨b1, b2⟩
    all_goals
      rw [a2] at k8
      rw [b2] at h9
      cases k8
      injection h9 with h9
      omega
theorem awp_reader {w0 : World} {U0 : UX} {nt : Nat} {s : AS} {id : Nat} {o0 o1 o2 o3 o4 : Oper} {Q : Exit → AS → Prop} {L : List By} {n5 q5 p5} (g0 : o0.guard = none) (g1 : o1.guard = none) (g2 : o2.guard = none) (g3 : o3.guard = none) (g4 : o4.guard = none) (d0 : o0.dst = some 22) (d1 : o1.dst = some 23) (d2 : o2.dst = some 24) (d3 : o3.dst = some 25) (d4 : o4.dst = some 7)
    (c0 : o0.op = .move (.tmp 5)) (c1 : o1.op = .call { callee := .value (.func 12), args := #[], argTypes := #[] }) (c2 : o2.op = .build 60 #[(0, .tmp 22), (3, .tmp 23)]) (c3 : o3.op = .box 60 (.tmp 24)) (c4 : o4.op = .assign (.tmp 25)) (h5 : look s 5 = some ⟨0, .lst (L.map sv), n5, q5, p5⟩)
    (hnt : 25 < nt) (hN : noRefB s (newN [] (kO (rdI L)) (kO (rdI L))) = true) (hnb : ∀ k v, U0.f k = some v → hasN (kO (rdI L)) k = true → False) (h : Q .normal ((7, .bp 350001 0 []) :: (25, ⟨99, .i 0, 0, 0, []⟩) :: (24, ⟨99, .i 0, 0, 0, []⟩) :: (23, ⟨99, .i 0, 0, 0, []⟩) :: (22, ⟨99, .i 0, 0, 0, []⟩) :: (rdI L ++ s))) : AWp Tryd.prog w0 U0 nt (.region id [o0, o1, o2, o3, o4].toArray false) Q s := by
  rintro M a w ⟨D, hv, hS⟩
  refine wpIn_region_lit ?_
  obtain ⟨V, x1, x2, x3, x4, x5, x6⟩ := hS.lend (pre := []) (fun k av hk => by cases hk) rfl
  have hsz := hS.size
  obtain ⟨vL, y1, y2⟩ := hS.slot 5 _ h5 (by omega)
  have y2 : VRep (Us w0 U0 D) w (.lst (L.map sv)) vL := y2.1
  have y3 : VRep (Us w V (fun _ _ => False)) w (.lst (L.map sv)) vL := y2.keep x6
  have t5 : a.eval (.tmp 5) = vL := by simp [Act.eval, Array.getD_eq_getD_getElem?, y1]
  have m0 : (execOp a.eval o0).run Tryd.prog w = .ok (.value vL) w := by
    generalize a.eval = ρ at t5 ⊢
    simp [execOp, c0, t5]
  refine list_value g0 d0 hS.dfr m0 ?_
  obtain ⟨a1, ha1⟩ : ∃ a1, a1 = a.put (some 22) vL := ⟨_, rfl⟩
  have t22 : a1.eval (.tmp 22) = vL := by rw [ha1, eval_put (by omega)]
  have s1 : a1.tmps.size = nt := by rw [ha1, put_size, hsz]
  rw [← ha1]
  refine list_call (R := fun v w' => v = .agg #[.slice (some ⟨w.heap.size + 1, 0, none⟩) 1 1, .slice (some ⟨w.heap.size + 2, 0, none⟩) 1 1, .slice (some ⟨w.heap.size + 3, 0, none⟩) 1 1] ∧ Below w.heap.size w w' ∧ w'.heap.size = w.heap.size + 4 ∧ w'.heap[w.heap.size + 1]? = some (.cells #[trueS] 9 (0, 0)) ∧ w'.heap[w.heap.size + 2]? = some (.cells #[.int .i64 0] 3 (0, 0)) ∧ w'.heap[w.heap.size + 3]? = some (.cells #[.bool true] 4 (0, 0))) g1 d1 (ent_of Tryd.func12 rfl rfl) c1 (by rw [show Array.map a1.eval #[] = #[] from by simp]; exact (start12_any w).mono fun e w' he => ⟨_, he.1, rfl, he.2⟩) ?_
  rintro v w1 ⟨rfl, hB, hz, e1, e2, e3⟩
  obtain ⟨a2, ha2⟩ : ∃ a2, a2 = a1.put (some 23) (.agg #[.slice (some ⟨w.heap.size + 1, 0, none⟩) 1 1, .slice (some ⟨w.heap.size + 2, 0, none⟩) 1 1, .slice (some ⟨w.heap.size + 3, 0, none⟩) 1 1]) := ⟨_, rfl⟩
  have t23 : a2.eval (.tmp 23) = .agg #[.slice (some ⟨w.heap.size + 1, 0, none⟩) 1 1, .slice (some ⟨w.heap.size + 2, 0, none⟩) 1 1, .slice (some ⟨w.heap.size + 3, 0, none⟩) 1 1] := by rw [ha2, eval_put (by omega)]
  have t22' : a2.eval (.tmp 22) = vL := by rw [ha2, eval_put_ne (by decide)]; exact t22
  have s2 : a2.tmps.size = nt := by rw [ha2, put_size, s1]
  rw [← ha2]
  have m2 : (execOp a2.eval o2).run Tryd.prog w1 = .ok (.value (.agg #[vL, .int .i64 0, .bool false, .slice (some ⟨w.heap.size + 1, 0, none⟩) 1 1, .slice (some ⟨w.heap.size + 2, 0, none⟩) 1 1, .slice (some ⟨w.heap.size + 3, 0, none⟩) 1 1, .slice none 0 0])) w1 := by
    obtain ⟨ao, mm, cc, hvl, _⟩ := vrep_lst.1 y3
    have := run_build (P := Tryd.prog) w1 60 #[(0, a2.eval (.tmp 22)), (3, a2.eval (.tmp 23))] #[vL, .int .i64 0, .bool false, .slice (some ⟨w.heap.size + 1, 0, none⟩) 1 1, .slice (some ⟨w.heap.size + 2, 0, none⟩) 1 1, .slice (some ⟨w.heap.size + 3, 0, none⟩) 1 1, .slice none 0 0] (by rw [t22', t23, hvl]; rfl)
    generalize a2.eval = ρ at this ⊢
    simp [execOp, c2, this]
  refine list_value g2 d2 (by rw [ha2, ha1]; exact hS.dfr) m2 ?_
  obtain ⟨a3, ha3⟩ : ∃ a3, a3 = a2.put (some 24) (.agg #[vL, .int .i64 0, .bool false, .slice (some ⟨w.heap.size + 1, 0, none⟩) 1 1, .slice (some ⟨w.heap.size + 2, 0, none⟩) 1 1, .slice (some ⟨w.heap.size + 3, 0, none⟩) 1 1, .slice none 0 0]) := ⟨_, rfl⟩
  have t24 : a3.eval (.tmp 24) = .agg #[vL, .int .i64 0, .bool false, .slice (some ⟨w.heap.size + 1, 0, none⟩) 1 1, .slice (some ⟨w.heap.size + 2, 0, none⟩) 1 1, .slice (some ⟨w.heap.size + 3, 0, none⟩) 1 1, .slice none 0 0] := by rw [ha3, eval_put (by omega)]
  have s3 : a3.tmps.size = nt := by rw [ha3, put_size, s2]
  rw [← ha3]
  have m3 : (execOp a3.eval o3).run Tryd.prog w1 = .ok (.value (.pointer (some ⟨w.heap.size + 4, 0, none⟩))) (w1.alloc (.cells #[vL, .int .i64 0, .bool false, .slice (some ⟨w.heap.size + 1, 0, none⟩) 1 1, .slice (some ⟨w.heap.size + 2, 0, none⟩) 1 1, .slice (some ⟨w.heap.size + 3, 0, none⟩) 1 1, .slice none 0 0] 60)) := by
    generalize a3.eval = ρ at t24 ⊢
    simp [execOp, c3, Instr.box, run_newVar, t24, hz, Value.cells]
  refine list_value g3 d3 (by rw [ha3, ha2, ha1]; exact hS.dfr) m3 ?_
  obtain ⟨w3, hw3⟩ : ∃ w3, w3 = w1.alloc (.cells #[vL, .int .i64 0, .bool false, .slice (some ⟨w.heap.size + 1, 0, none⟩) 1 1, .slice (some ⟨w.heap.size + 2, 0, none⟩) 1 1, .slice (some ⟨w.heap.size + 3, 0, none⟩) 1 1, .slice none 0 0] 60) := ⟨_, rfl⟩
  rw [← hw3]
  have m4 : (execOp (a3.put (some 25) (.pointer (some ⟨w.heap.size + 4, 0, none⟩))).eval o4).run Tryd.prog w3 = .ok (.value (.pointer (some ⟨w.heap.size + 4, 0, none⟩))) w3 := by
    have := eval_put (a := a3) (d := 25) (v := .pointer (some ⟨w.heap.size + 4, 0, none⟩)) (by omega)
    generalize (a3.put _ _).eval = ρ at this ⊢
    simp [execOp, c4, this]
  refine list_value g4 d4 (by rw [ha3, ha2, ha1]; exact hS.dfr) m4 ?_
  have z3 : w3.heap.size = w.heap.size + 5 := by rw [hw3]; simp [hz]
  have b3 : Below w.heap.size w w3 := by rw [hw3]; exact hB.alloc (by omega) _
  have q5' : w3.heap[w.heap.size + 4]? = some (.cells #[vL, .int .i64 0, .bool false, .slice (some ⟨w.heap.size + 1, 0, none⟩) 1 1, .slice (some ⟨w.heap.size + 2, 0, none⟩) 1 1, .slice (some ⟨w.heap.size + 3, 0, none⟩) 1 1, .slice none 0 0] 60 (0, 0)) := by rw [hw3, ← hz]; exact alloc_new _ _
  have qq : ∀ k, k < w.heap.size + 4 → w3.heap[k]? = w1.heap[k]? := fun k hk => by rw [hw3, Below.heap_alloc _ _ _ (by omega)]
  have y4 : VRep (Us w V (fun _ _ => False)) w3 (.lst (L.map sv)) vL := y3.keep fun b o v hu hc => ⟨hu, by rw [World.cell?_of_block (w := w) (b3.block b (World.block_lt_of_cell? w _ hc))]; exact hc⟩
  obtain ⟨hv', n1, n2⟩ := rd_sim (V := V) (fun k v hk => by have := x1 k v hk; cases this) y4 b3 (g1 := w.heap.size + 1) (g2 := w.heap.size + 2) (g3 := w.heap.size + 3) (g5 := w.heap.size + 4) (by omega) (by omega) (by omega) (by omega) (by omega) (by rw [qq _ (by omega)]; exact e1) (by rw [qq _ (by omega)]; exact e2) (by rw [qq _ (by omega)]; exact e3) q5'
  obtain ⟨D2, hv2, h8, h9, _⟩ := hS.back (pre := []) (post := rdI L) (fun k av hk => by cases hk) rfl (by kernel_rfl) rfl (noRefB_spec hN) (fun k v h1 h2 => (hnb k v h1 h2).elim) x3 x4 x5 x2 n1
  have hp : AVRep (Us w0 U0 D2) w3 hv2 (LiveN (rdI L ++ s)) (.bp 350001 0 []) (.pointer (some ⟨w.heap.size + 4, 0, none⟩)) := h9 _ _ rfl (by
    refine ⟨.inr ⟨by decide, by decide⟩, ?_⟩
    show _ = Value.pointer (some ⟨blkOf (hv' (100000 + 350001)), 0, none⟩)
    rw [show 100000 + 350001 = 450001 from rfl, n2]; rfl)
  have hj : ∀ {hv : Nat → Value} {lv : Nat → Prop} {U : Nat → Nat → Prop} {w : World} (v : Value), AVRep U w hv lv ⟨99, .i 0, 0, 0, []⟩ v := fun v => by
    unfold AVRep
    simp
  have r1 := h8.put (d := 22) (by omega) (by omega) (hj vL)
  rw [← ha1] at r1
  have r2 := r1.put (d := 23) (by omega) (by omega) (hj (.agg #[.slice (some ⟨w.heap.size + 1, 0, none⟩) 1 1, .slice (some ⟨w.heap.size + 2, 0, none⟩) 1 1, .slice (some ⟨w.heap.size + 3, 0, none⟩) 1 1]))
  rw [← ha2] at r2
  have r3 := r2.put (d := 24) (by omega) (by omega) (hj (.agg #[vL, .int .i64 0, .bool false, .slice (some ⟨w.heap.size + 1, 0, none⟩) 1 1, .slice (some ⟨w.heap.size + 2, 0, none⟩) 1 1, .slice (some ⟨w.heap.size + 3, 0, none⟩) 1 1, .slice none 0 0]))
  rw [← ha3] at r3
  have r4 := r3.put (d := 25) (by omega) (by omega) (hj (.pointer (some ⟨w.heap.size + 4, 0, none⟩)))
  have r5 := r4.put (d := 7) (av := .bp 350001 0 []) (v := .pointer (some ⟨w.heap.size + 4, 0, none⟩)) (by omega) (by omega) (hp.move (fun _ _ _ h1 h2 => ⟨h1, h2⟩) (fun e => by cases e) (fun _ => rfl))
  exact ⟨_, rfl, _, h, _, _, r5⟩
end Go.Proofs.YtglbohajmccehaaDoor
namespace Go.Proofs.YtglbohajmccehaaDoor
open Go.RowKit
set_option linter.unusedVariables false
set_option linter.unusedSimpArgs false
set_option maxRecDepth 10000
def TokOk (B : Nat) (x : By) : Prop := x.length ≤ B ∧ (isNmL x = true → x.all inB = true)
def Ph.nice (B : Nat) : Ph → Prop
  | ⟨n, ps⟩ => (isNmL n = true ∧ n.all inB = true ∧ n.length ≤ B ∧ (isGrL n = true → ps = [])) ∧ ∀ q ∈ ps, q.nice B
structure Se.nice (B : Nat) (s : Se) : Prop where
  a : s.a.nice B ∧ s.a.dp ≤ 32
  atom : s.atom = true → isSmL s.a.name = true ∧ s.b = Ph.z
  b : s.atom = false → s.b.nice B ∧ s.b.dp ≤ 32
end Go.Proofs.YtglbohajmccehaaDoor
namespace Go.Proofs.YtglbohajmccehaaDoor
open Go.RowKit
set_option linter.unusedVariables false
set_option linter.unusedSimpArgs false
set_option maxRecDepth 100000
theorem toks_facts : ∀ (n : Nat) (s : By), s.length ≤ n → (toks s).length ≤ s.length ∧ ∀ x ∈ toks s, x ≠ [] := by
  intro n
  induction n with
  | zero =>
    intro s h
    have : s = [] := List.eq_nil_of_length_eq_zero (by omega)
    subst this
    rw [toks_nil]
    exact ⟨Nat.le_refl _, fun x hx => by cases hx⟩
  | succ n ih =>
    intro s h
    rw [toks_eq]
    split
    · exact ⟨Nat.zero_le _, fun x hx => by cases hx⟩
    · rename_i hne
      have hlt := mvT_rs hne
      obtain ⟨h1, h2⟩ := ih (mvT s).rs (by omega)
      refine ⟨by rw [List.length_cons]; omega, fun x hx => ?_⟩
      rcases List.mem_cons.1 hx with rfl | hx
      · exact hne
      · exact h2 x hx
theorem hd_none {T : List By} (hT : ∀ x ∈ T, x ≠ []) {a : Nat} (ha : a ≤ T.length) : hd (T.drop a) = [] ↔ T.drop a = [] := by
  cases h : T.drop a with
  | nil => exact ⟨fun _ => rfl, fun _ => rfl⟩
  | cons x t =>
    refine ⟨fun e => ?_, fun e => by cases e⟩
    have hm : x ∈ T := List.mem_of_mem_drop (by rw [h]; exact List.mem_cons_self)
    exact absurd e (hT x hm)
theorem rdFL_ac2 {n : Nat} : ∀ {m : Nat} {t : List By} {acc : List (List Se)} {r : List (List Se) × Bool}, rdFL n m t acc = some r → r.2 = true → ∃ tail, r.1 = acc ++ tail
  | 0, t, acc, r, h, _ => by unfold rdFL at h; cases h
  | m + 1, t, acc, r, h, hok => by
    unfold rdFL at h
    split at h
    · cases h; exact ⟨[], by simp⟩
    · cases hc : rdCL n t with
      | none => rw [hc] at h; cases h
      | some q =>
        rw [hc] at h
        simp only at h
        split at h
        · split at h
          · obtain ⟨tail, ht⟩ := rdFL_ac2 h hok
            exact ⟨q.1 :: tail, by rw [ht]; simp⟩
          · cases h; cases hok
        · cases h; cases hok
theorem rdFL_step {n m : Nat} {t : List By} {acc : List (List Se)} {r : List (List Se) × Bool} (h : rdFL n m t acc = some r) (ht : t ≠ []) : ∃ m' q, m = m' + 1 ∧ rdCL n t = some q ∧ ((q.2.1 = false ∧ r.2 = false) ∨ (q.2.1 = true ∧ (takeL q.2.2 [46]).1 = false ∧ r.2 = false) ∨ (q.2.1 = true ∧ (takeL q.2.2 [46]).1 = true ∧ rdFL n m' (takeL q.2.2 [46]).2 (acc ++ [q.1]) = some r)) := by
  cases m with
  | zero => unfold rdFL at h; cases h
  | succ m =>
    unfold rdFL at h
    rw [if_neg ht] at h
    cases hc : rdCL n t with
    | none => rw [hc] at h; cases h
    | some q =>
      rw [hc] at h
      simp only at h
      refine ⟨m, q, rfl, rfl, ?_⟩
      cases hq : q.2.1 with
      | false => rw [hq, if_neg (by decide)] at h; cases h; exact .inl ⟨rfl, rfl⟩
      | true =>
        rw [hq, if_pos rfl] at h
        cases hk : (takeL q.2.2 [46]).1 with
        | false => rw [hk, if_neg (by decide)] at h; cases h; exact .inr (.inl ⟨rfl, rfl, rfl⟩)
        | true => rw [hk, if_pos rfl] at h; exact .inr (.inr ⟨rfl, rfl, h⟩)
theorem rdFL_nil {n m : Nat} {acc : List (List Se)} {r : List (List Se) × Bool} (h : rdFL n m [] acc = some r) : r = (acc, true) := by
  cases m with
  | zero => unfold rdFL at h; cases h
  | succ m => unfold rdFL at h; rw [if_pos rfl] at h; cases h; rfl
theorem Rel.start : Rel ⟨false, sg0, []⟩ nm0 := by
  refine ⟨rfl, rfl, fun i p h => by simp [nm0] at h, rfl, rfl, rfl, fun i j x hi hj => ?_, fun k i hi => ?_, fun k h => ?_, by show 1 ≤ 201; omega⟩
  · have key : ∀ i : Nat, ([[36, 116, 114, 117, 101]] : List By)[i]? = some x → i = 0 := fun i h => by
      cases i with
      | zero => rfl
      | succ i => simp at h
    rw [key i hi, key j hj]
  · constructor
    · intro h; cases h
    · rintro ⟨h, _⟩
      cases i with
      | zero => omega
      | succ i =>
        have h : ([[36, 116, 114, 117, 101]] : List By)[i + 1]? = some k.1 := h
        simp at h
  · cases h
theorem Rel.again {s : Rs} {st : Nm} (h : Rel s st) : Rel ⟨s.bad, s.g, []⟩ ⟨st.sg, st.sy, []⟩ :=
  ⟨h.g, rfl, fun i p h => by simp at h, h.la, h.lp, h.top, h.nd, h.sy, h.s0, h.few⟩
theorem litsF_cons {n : Nat} {st : Nm} {se : Se} {tail : List Se} {acc : List Lt} {r : Lt × Bool × Nm} (h : litF n st se = some r) : litsF n st (se :: tail) acc = if r.2.1 then litsF n r.2.2 tail (acc ++ [r.1]) else some ([], false, r.2.2) := by
  conv => lhs; unfold litsF
  rw [h]
theorem prF_fail {n : Nat} {src : By} {r : Sg × List (List Lt) × Int} {RR : List (List Se) × Bool} (hl : ¬ 32768 < src.length) (hR : rdFL n n (toks src) [] = some RR) (h : prF n src = some r) (hbad : RR.2 = true → RR.1.length ≤ 64 → ∀ q, mnF n nm0 RR.1 [] = some q → q.2.2 = false) : r = (⟨[], [], []⟩, [], 7) := by
  unfold prF at h
  rw [if_neg hl, rdAll_tl, hR] at h
  simp only at h
  by_cases hc : (RR.2 && decide (RR.1.length ≤ 64)) = true
  · rw [if_pos hc] at h
    rw [Bool.and_eq_true, decide_eq_true_iff] at hc
    cases hm : mnF n nm0 RR.1 [] with
    | none => rw [hm] at h; cases h
    | some q =>
      rw [hm] at h
      simp only at h
      rw [hbad hc.1 hc.2 q hm, if_neg (by decide)] at h
      exact (Option.some.inj h).symm
  · rw [if_neg hc] at h
    exact (Option.some.inj h).symm
theorem prF_good {n : Nat} {src : By} {r : Sg × List (List Lt) × Int} {RR : List (List Se) × Bool} (hl : ¬ 32768 < src.length) (hR : rdFL n n (toks src) [] = some RR) (h : prF n src = some r) (h1 : RR.2 = true) (h2 : RR.1.length ≤ 64) {q : Nm × List (List Lt) × Bool} (hm : mnF n nm0 RR.1 [] = some q) (h3 : q.2.2 = true) : r = (q.1.sg, q.2.1, 0) := by
  unfold prF at h
  rw [if_neg hl, rdAll_tl, hR] at h
  simp only at h
  rw [if_pos (by rw [h1, decide_eq_true h2]; rfl), hm] at h
  simp only at h
  rw [h3, if_pos rfl] at h
  exact (Option.some.inj h).symm
theorem mnF_cons {n : Nat} {st : Nm} {c : List Se} {cs : List (List Se)} {acc : List (List Lt)} {r : List Lt × Bool × Nm} (h : clsF n st c = some r) : mnF n st (c :: cs) acc = if r.2.1 && decide (wtL r.1 ≤ 60) then mnF n r.2.2 cs (acc ++ [r.1]) else some (st, [], false) := by
  conv => lhs; unfold mnF
  rw [h]
theorem fail_cls {n m : Nat} {src : By} {r : Sg × List (List Lt) × Int} {RR : List (List Se) × Bool} {acc : List (List Se)} {all : List (List Lt)} {st : Nm} {c : List Se} {t : List By} (hl : ¬ 32768 < src.length) (hR : rdFL n n (toks src) [] = some RR) (h : prF n src = some r) (hrest : rdFL n m t (acc ++ [c]) = some RR) (hmn : ∀ tail, mnF n nm0 (acc ++ tail) [] = mnF n st tail all) (hc : ∀ q, clsF n st c = some q → (q.2.1 && decide (wtL q.1 ≤ 60)) = false) : r = (⟨[], [], []⟩, [], 7) := by
  refine prF_fail hl hR h fun h1 _ q hq => ?_
  obtain ⟨tail, ht⟩ := rdFL_ac2 hrest h1
  rw [ht, List.append_assoc, hmn] at hq
  cases hcl : clsF n st c with
  | none =>
    have hq : mnF n st (c :: tail) all = some q := hq
    unfold mnF at hq
    rw [hcl] at hq; cases hq
  | some q2 =>
    have hq : mnF n st (c :: tail) all = some q := hq
    rw [mnF_cons hcl, hc q2 hcl, if_neg (by decide)] at hq
    cases hq
    rfl
theorem fail_many {n m : Nat} {src : By} {r : Sg × List (List Lt) × Int} {RR : List (List Se) × Bool} {acc : List (List Se)} {c : List Se} {t : List By} (hl : ¬ 32768 < src.length) (hR : rdFL n n (toks src) [] = some RR) (h : prF n src = some r) (hrest : rdFL n m t (acc ++ [c]) = some RR) (h64 : acc.length = 64) : r = (⟨[], [], []⟩, [], 7) := by
  refine prF_fail hl hR h fun h1 h2 q hq => ?_
  obtain ⟨tail, ht⟩ := rdFL_ac2 hrest h1
  rw [ht] at h2
  simp at h2
  omega
theorem rdLs_ac2 {n : Nat} : ∀ {m : Nat} {t : List By} {acc : List Se} {r : List Se × Bool × List By}, rdLsL n m t acc = some r → r.2.1 = true → ∃ tail, r.1 = acc ++ tail
  | 0, t, acc, r, h, _ => by unfold rdLsL at h; cases h
  | m + 1, t, acc, r, h, hok => by
    unfold rdLsL at h
    cases hc : rdLL n t with
    | none => rw [hc] at h; cases h
    | some q =>
      rw [hc] at h
      simp only at h
      split at h
      · split at h
        · obtain ⟨tail, ht⟩ := rdLs_ac2 h hok
          exact ⟨q.1 :: tail, by rw [ht]; simp⟩
        · cases h; exact ⟨[q.1], rfl⟩
      · cases h; cases hok
def BadC (N : Nat) (st0 : Nm) (q : List Se × Bool × List By) : Prop := q.2.1 = true → ∀ z, litsF N st0 q.1 [] = some z → z.2.1 = false
structure InG (T : List By) (N I : Nat) (st0 : Nm) (q : List Se × Bool × List By) (ses : List Se) (I' : Nat) (s' : Rs) (c : List Lt) (st' : Nm) (m : Nat) : Prop where
  rd : some q = if (takeL (T.drop I') [124]).1 then rdLsL N m (takeL (T.drop I') [124]).2 ses else some (ses, true, (takeL (T.drop I') [124]).2)
  nm : ∀ tail, litsF N st0 (ses ++ tail) [] = litsF N st' tail c
  rel : Rel s' st'
  lt : I < I'
  vs : s'.vs.length ≤ I'
  ok : ∀ x ∈ c, x.a.ok ∧ x.b.ok
  wt : wtL c ≤ 2 * I'
theorem wtL_snoc (c : List Lt) (l : Lt) : wtL (c ++ [l]) = wtL c + (l.a.size + l.b.size) := by unfold wtL; simp
theorem lit_more12 {T : List By} {N I K m : Nat} {st0 st' : Nm} {q : List Se × Bool × List By} {ses : List Se} {s' s1 : Rs} {c : List Lt} {l : Lt} {I1 : Nat} {r0 : Se × Bool × List By} (hrd : some q = rdLsL N m (T.drop K) ses) (hnm : ∀ tail, litsF N st0 (ses ++ tail) [] = litsF N st' tail c) (hR : Rel s' st') (hb : s'.bad = false) (hIK : I ≤ K) (hvs : s'.vs.length ≤ K) (hok : ∀ x ∈ c, x.a.ok ∧ x.b.ok) (hwt : wtL c ≤ 2 * K) (hr0 : rdLL N (T.drop K) = some r0) (hL : LitEnd T N K s' r0.1 r0.2.1 r0.2.2 l s1 I1) :
    I1 ≤ T.length ∧ ((s1.bad = true ∧ BadC N st0 q) ∨ (s1.bad = false ∧ K < I1 ∧ ∃ st1 m1, InG T N I st0 q (ses ++ [r0.1]) I1 s1 (c ++ [l]) st1 m1)) := by
  obtain ⟨h1, h2⟩ := hL
  refine ⟨h1, ?_⟩
  cases m with
  | zero => unfold rdLsL at hrd; cases hrd
  | succ m =>
    unfold rdLsL at hrd
    rw [hr0] at hrd
    simp only at hrd
    rcases h2 with ⟨k1, k2, k3, k4, k5, k6, k7⟩ | ⟨k1, k2⟩
    · rw [k1, if_pos rfl] at hrd
      obtain ⟨rl, hrl⟩ := litF_some (n := N) (st := st') (s := r0.1) (by unfold Se.sz; exact k7)
      have hG := lit_rel hR hb k4 k5 k6 hrl
      cases hok2 : rl.2.1 with
      | false =>
        have hbad := hG.2 hok2
        rw [← k2] at hbad
        refine .inl ⟨hbad, fun hq z hz => ?_⟩
        have htail : ∃ tail, q.1 = (ses ++ [r0.1]) ++ tail := by
          by_cases ht : (takeL r0.2.2 [124]).1 = true
          · rw [if_pos ht] at hrd; exact rdLs_ac2 hrd.symm hq
          · rw [if_neg ht] at hrd
            have := Option.some.inj hrd
            exact ⟨[], by rw [this]; simp⟩
        obtain ⟨tail, ht⟩ := htail
        rw [ht, List.append_assoc, hnm] at hz
        have hz : litsF N st' (r0.1 :: tail) c = some z := hz
        rw [litsF_cons hrl, hok2, if_neg (by decide)] at hz
        cases hz
        rfl
      | true =>
        obtain ⟨g1, g2, g3⟩ := hG.1 hok2
        rw [← k2] at g2 g3
        obtain ⟨f1, f2, f3, f4, f5, f6⟩ := k3 g2
        refine .inr ⟨g2, f4, rl.2.2, m, ⟨?_, fun tail => ?_, g3, by omega, by omega, fun x hx => ?_, ?_⟩⟩
        · rw [f2]; exact hrd
        · have e1 : l = rl.1 := by rw [f1]; exact g1
          rw [List.append_assoc, hnm]
          show litsF N st' (r0.1 :: tail) c = _
          rw [litsF_cons hrl, hok2, if_pos rfl, e1]
        · rcases List.mem_append.1 hx with hx | hx
          · exact hok x hx
          · rw [List.mem_singleton] at hx; rw [hx]; exact f5
        · rw [wtL_snoc]; omega
    · rw [k1, if_neg (by decide)] at hrd
      have := Option.some.inj hrd
      exact .inl ⟨k2, fun hq => by rw [this] at hq; cases hq⟩
end Go.Proofs.YtglbohajmccehaaDoor
-- @STR@
namespace Go.Proofs.YtglbohajmccehaaDoor
open Go.RowKit
set_option linter.unusedVariables false
set_option linter.unusedSimpArgs false
set_option maxRecDepth 100000

-- 
set_option maxHeartbeats 2000000 in
theorem weight12_abs (W : World) (c : List Lt) (hn : c.length ≤ 1000000) (hl : wtL c ≤ 1000000000) (hc : ∀ x ∈ c, x.a.ok ∧ x.b.ok) : AFun Tryd.prog W 19 [.lst (c.map Lt.cv)] (.val (.i (wtL c : Int))) := by
  have hsz := Lt.size_all c
  have htk : ∀ k, wtL (c.take k) ≤ wtL c := fun k => by
    have : wtL c = wtL (c.take k) + wtL (c.drop k) := by
      unfold wtL
      rw [← List.sum_append, ← List.map_append, List.take_append_drop]
    omega
  refine afun_of (rs := [.i (wtL c : Int)]) Tryd.func19 Tryd.ntmps19 rfl rfl rfl rfl ?_
  intro w U hW
  refine aS (aR ?_)
  (refine nx (aA (gN rfl) rfl rfl rfl rfl rfl) rfl ?_)
  show AWp _ _ _ _ _ _ _
  refine aS (aR ?_)
  (refine nx (aA (gN rfl) rfl rfl rfl rfl rfl) rfl ?_)
  show AWp _ _ _ _ _ _ _
  refine aS (aS (aR ?_))
  (refine nx (aA (gN rfl) rfl rfl rfl rfl rfl) rfl ?_)
  show AWp _ _ _ _ _ _ _
  refine aB (awp_count c.length (fun k => [(0, .val (.lst (c.map Lt.cv))), (3, .val (.i (wtL (c.take k) : Int))), (4, .val (.i (k : Int)))]) (wk_sub ⟨rfl, rfl, rfl, trivial⟩) ?_)
  intro k hk
  refine aS (aS (aR ?_))
  (refine nx (aM (gN rfl) rfl rfl rfl rfl rfl) rfl ?_)
  (refine nx (aM (gN rfl) rfl rfl rfl rfl rfl) rfl ?_)
  (refine nx (a_len (gN rfl) rfl rfl rfl rfl rfl rfl rfl) rfl ?_)
  (refine nx (a_lss (gN rfl) rfl rfl rfl rfl rfl rfl) rfl ?_)
  show AWp _ _ _ _ _ _ _
  refine aC rfl (fun hlt => ?_) (fun hlt => ?_)
  · have hkl : k < c.length := by simpa using hlt
    obtain ⟨x, hx⟩ : ∃ x, c[k]? = some x := ⟨c[k], List.getElem?_eq_getElem hkl⟩
    have hx' := Lt.map_at hx
    have hxm := List.mem_of_getElem? hx
    have hw1 : wtL (c.take (k + 1)) = wtL (c.take k) + (x.a.size + x.b.size) := by
      unfold wtL
      rw [List.take_add_one, hx, List.map_append, List.sum_append]
      simp
    have hle := htk (k + 1)
    have s1 := refFlat_abs w x.a (hc x hxm).1 (by omega)
    have s2 := refFlat_abs w x.b (hc x hxm).2 (by omega)
    have n1 : (x.a.flat.map Tm.cv).length = x.a.size := List.length_map _
    have n2 : (x.b.flat.map Tm.cv).length = x.b.size := List.length_map _
    refine aK ?_
    show AWp _ _ _ _ _ _ _
    refine aS (aB (aD (by kernel_rfl) (by kernel_rfl) ?_))
    (refine nx (aM (gN rfl) rfl rfl rfl rfl rfl) rfl ?_)
    (refine nx (aM (gN rfl) rfl rfl rfl rfl rfl) rfl ?_)
    (refine nx (aM (gN rfl) rfl rfl rfl rfl rfl) rfl ?_)
    (refine nx (a_index (j := k) (gN rfl) rfl rfl rfl rfl rfl rfl rfl rfl rfl (hx') rfl (hsz)) rfl ?_)
    (refine nx (a_field_ad (gN rfl) rfl rfl rfl rfl rfl rfl rfl rfl rfl rfl rfl) rfl ?_)
    (refine nx (a_load_ad (gN rfl) rfl rfl rfl rfl rfl rfl rfl rfl rfl) rfl ?_)
    (refine nx (a_call (gN rfl) rfl rfl rfl rfl rfl (s1)) rfl ?_)
    (refine nx (a_len (gN rfl) rfl rfl rfl rfl rfl rfl rfl) rfl ?_)
    (refine nx (a_add (gN rfl) rfl rfl rfl rfl rfl rfl (by first | omega | (simp only [List.length_map, List.length_append, List.length_cons, List.length_nil] <;> omega) | (simp <;> omega))) rfl ?_)
    (refine nx (aM (gN rfl) rfl rfl rfl rfl rfl) rfl ?_)
    (refine nx (aM (gN rfl) rfl rfl rfl rfl rfl) rfl ?_)
    (refine nx (a_index (j := k) (gN rfl) rfl rfl rfl rfl rfl rfl rfl rfl rfl (hx') rfl (hsz)) rfl ?_)
    (refine nx (a_field_ad (gN rfl) rfl rfl rfl rfl rfl rfl rfl rfl rfl rfl rfl) rfl ?_)
    (refine nx (a_load_ad (gN rfl) rfl rfl rfl rfl rfl rfl rfl rfl rfl) rfl ?_)
    (refine nx (a_call (gN rfl) rfl rfl rfl rfl rfl (s2)) rfl ?_)
    (refine nx (a_len (gN rfl) rfl rfl rfl rfl rfl rfl rfl) rfl ?_)
    (refine nx (a_add (gN rfl) rfl rfl rfl rfl rfl rfl (by first | omega | (simp only [List.length_map, List.length_append, List.length_cons, List.length_nil] <;> omega) | (simp <;> omega))) rfl ?_)
    (refine nx (aA (gN rfl) rfl rfl rfl rfl rfl) rfl ?_)
    refine ⟨by kernel_rfl, ?_⟩
    show AWp _ _ _ _ _ _ _
    refine aR ?_
    (refine nx (aM (gN rfl) rfl rfl rfl rfl rfl) rfl ?_)
    (refine nx (a_add (gN rfl) rfl rfl rfl rfl rfl rfl (by first | omega | (simp only [List.length_map, List.length_append, List.length_cons, List.length_nil] <;> omega) | (simp <;> omega))) rfl ?_)
    (refine nx (aA (gN rfl) rfl rfl rfl rfl rfl) rfl ?_)
    refine ⟨hkl, wk_sub ⟨rfl, ?_, rfl, trivial⟩⟩
    rw [hw1, ← n1, ← n2, Int.natCast_add, Int.natCast_add, ← Int.add_assoc]
    rfl
  · have hkl : k = c.length := by
      have : ¬ k < c.length := by simpa using hlt
      omega
    subst hkl
    rw [List.take_length]
    refine aE ?_
    show AWp _ _ _ _ _ _ _
    refine aS (aR ?_)
    (refine nx (aM (gN rfl) rfl rfl rfl rfl rfl) rfl ?_)
    (refine nx (aA (gN rfl) rfl rfl rfl rfl rfl) rfl ?_)
    show AWp _ _ _ _ _ _ _
    exact aT (And.intro (.inr rfl) rfl)
end Go.Proofs.YtglbohajmccehaaDoor

-- @STR@
namespace Go.Proofs.YtglbohajmccehaaDoor
open Go.RowKit
set_option linter.unusedVariables false
set_option linter.unusedSimpArgs false
set_option maxRecDepth 100000

section
variable {P : Program} {w0 : World} {U0 : UX} {nt : Nat} {Q : Exit → AS → Prop} {s : AS}
def midQ12 (w0 : World) (U0 : UX) (nt : Nat) {Sg : Type} (R : Sg → Prop) (st : Sg → AS) (Q : Exit → AS → Prop) : Exit → AS → Prop
  | .normal, s => ∃ σ, R σ ∧ Wk w0 U0 nt s (st σ)
  | e, s => Q e s
theorem awp_mid12 {Sg : Type} {x y : Code} (R : Sg → Prop) (st : Sg → AS) (hx : AWp P w0 U0 nt x (midQ12 w0 U0 nt R st Q) s) (hy : ∀ σ, R σ → AWp P w0 U0 nt y Q (st σ)) : AWp P w0 U0 nt (.seq x y) Q s :=
  aS fun M a w hs => WP_mono (hx M a w hs) fun e a' w' ⟨s', h1, h2⟩ => by
    cases e with
    | normal => obtain ⟨σ, k1, k2⟩ := h1; exact ⟨st σ, hy σ k1, k2 a' w' h2⟩
    | _ => exact ⟨s', h1, h2⟩
end
structure OutI (T : List By) (RR : List (List Se) × Bool) (N m I : Nat) (g : Sg) (acc : List (List Se)) (all : List (List Lt)) (stn : Nm) : Prop where
  le : I ≤ T.length
  rel : Rel ⟨false, g, []⟩ ⟨stn.sg, stn.sy, []⟩
  rd : rdFL N m (T.drop I) acc = some RR
  len : acc.length = all.length
  few : all.length ≤ 64
  mn : ∀ tail, mnF N nm0 (acc ++ tail) [] = mnF N stn tail all
theorem rdLs_lit {n m : Nat} {t : List By} {acc : List Se} {q : List Se × Bool × List By} (h : some q = rdLsL n m t acc) : ∃ r0, rdLL n t = some r0 := by
  cases m with
  | zero => unfold rdLsL at h; cases h
  | succ m =>
    unfold rdLsL at h
    cases hr : rdLL n t with
    | none => rw [hr] at h; cases h
    | some r0 => exact ⟨r0, rfl⟩
theorem len_wt : ∀ c : List Lt, c.length ≤ wtL c
  | [] => Nat.zero_le _
  | l :: c => by
    have := len_wt c
    have := l.a.size_pos
    unfold wtL at *
    rw [List.map_cons, List.sum_cons, List.length_cons]
    omega
def EndC (T : List By) (N I : Nat) (st0 : Nm) (q : List Se × Bool × List By) (c : List Lt) (s2 : Rs) (I2 : Nat) : Prop := I2 ≤ T.length ∧ ((s2.bad = true ∧ BadC N st0 q) ∨ (s2.bad = false ∧ I < I2 ∧ q.2.1 = true ∧ q.2.2 = T.drop I2 ∧ (∃ st2, litsF N st0 q.1 [] = some (c, true, st2) ∧ Rel s2 st2) ∧ (∀ x ∈ c, x.a.ok ∧ x.b.ok) ∧ wtL c ≤ 2 * I2))
-- 
set_option maxHeartbeats 4000000 in
theorem docParse_abs (W : World) (src : By) (r : Sg × List (List Lt) × Int) (hl : src.length ≤ 9223372036854775807) (hr : prF 65600 src = some r) : AFun Tryd.prog W 6 [sv src] (.tup [sgv r.1, .lst (r.2.1.map lcv), .i r.2.2]) := by
  refine afun_of (rs := [sgv r.1, .lst (r.2.1.map lcv), .i r.2.2]) Tryd.func6 Tryd.ntmps6 rfl rfl rfl rfl ?_
  intro w U hW
  refine aS (aR ?_)
  (refine nx (a_alloc (gN rfl) rfl rfl rfl rfl rfl rfl rfl rfl rfl rfl) rfl ?_)
  (refine nx (aA (gN rfl) rfl rfl rfl rfl rfl) rfl ?_)
  (refine nx (aA (gN rfl) rfl rfl rfl rfl rfl) rfl ?_)
  show AWp _ _ _ _ _ _ _
  refine aS (aS (aR ?_))
  (refine nx (aM (gN rfl) rfl rfl rfl rfl rfl) rfl ?_)
  (refine nx (a_slen (gN rfl) rfl rfl rfl rfl rfl rfl rfl) rfl ?_)
  (refine nx (a_gtr (gN rfl) rfl rfl rfl rfl rfl rfl) rfl ?_)
  show AWp _ _ _ _ _ _ _
  refine AWp.wk (wk_sub (s' := [(0, .val (sv src)), (2, .bp 2 0 []), (100002, ⟨5, sgcZ, 1, 0, [0]⟩), (12, .val (.b (decide ((32768 : Int) < (src.length : Int)))))]) ⟨rfl, rfl, rfl, rfl, trivial⟩) ?_
  refine aC rfl (fun hc => ?_) (fun hc => aK ?_)
  · have hgt : 32768 < src.length := by
      have : (32768 : Int) < (src.length : Int) := by simpa using hc
      omega
    unfold prF at hr
    rw [if_pos hgt] at hr
    cases hr
    refine aS (aR ?_)
    (refine nx (a_build (gN rfl) rfl rfl rfl rfl rfl rfl rfl rfl rfl rfl rfl) rfl ?_)
    (refine nx (aSt (gN rfl) rfl rfl rfl rfl rfl rfl rfl rfl rfl rfl) rfl ?_)
    (refine nx (aA (gN rfl) rfl rfl rfl rfl rfl) rfl ?_)
    (refine nx (aA (gN rfl) rfl rfl rfl rfl rfl) rfl ?_)
    show AWp _ _ _ _ _ _ _
    exact aT (And.intro (.inr rfl) rfl)
  · have hle : ¬ 32768 < src.length := by
      have : ¬ (32768 : Int) < (src.length : Int) := by simpa using hc
      omega
    have hlx := lex12_abs w src (by omega)
    obtain ⟨hT1, hT2⟩ := toks_facts _ src (Nat.le_refl _)
    obtain ⟨RR, hRR⟩ : ∃ RR, rdFL 65600 65600 (toks src) [] = some RR := by
      have h2 := hr
      unfold prF at h2
      rw [if_neg hle, rdAll_tl] at h2
      cases hq : rdFL 65600 65600 (toks src) [] with
      | none => rw [hq] at h2; cases h2
      | some q => exact ⟨q, rfl⟩
    show AWp _ _ _ _ _ _ _
    refine aS (aR ?_)
    (refine nx (aM (gN rfl) rfl rfl rfl rfl rfl) rfl ?_)
    (refine nx (a_call (gN rfl) rfl rfl rfl rfl rfl (hlx)) rfl ?_)
    (refine nx (aM (gN rfl) rfl rfl rfl rfl rfl) rfl ?_)
    (refine nx (aX (gN rfl) rfl rfl rfl rfl rfl rfl) rfl ?_)
    (refine nx (aX (gN rfl) rfl rfl rfl rfl rfl rfl) rfl ?_)
    (refine nx (aA (gN rfl) rfl rfl rfl rfl rfl) rfl ?_)
    (refine nx (aA (gN rfl) rfl rfl rfl rfl rfl) rfl ?_)
    show AWp _ _ _ _ _ _ _
    refine AWp.wk (wk_sub (s' := [(2, .bp 2 0 []), (100002, ⟨5, sgcZ, 1, 0, [0]⟩), (5, .val (.lst ((lexD src).1.map sv))), (6, .val (.b (lexD src).2))]) ⟨rfl, rfl, rfl, rfl, trivial⟩) ?_
    cases hok : (toks src).all okTk with
    | false =>
      have hr7 := prF_fail hle hRR hr (fun h1 _ q _ => by
        have := rdFL_okT hRR h1
        unfold okTs at this
        rw [hok] at this
        cases this)
      have hlD : lexD src = ([], false) := by unfold lexD; rw [hok, if_neg (by decide)]
      rw [hlD]
      cases hr7
      refine aS (aS (aR ?_))
      (refine nx (aM (gN rfl) rfl rfl rfl rfl rfl) rfl ?_)
      (refine nx (a_not (gN rfl) rfl rfl rfl rfl rfl) rfl ?_)
      show AWp _ _ _ _ _ _ _
      refine aC rfl (fun hc => ?_) (fun hc => by cases hc)
      refine aS (aR ?_)
      (refine nx (a_build (gN rfl) rfl rfl rfl rfl rfl rfl rfl rfl rfl rfl rfl) rfl ?_)
      (refine nx (aSt (gN rfl) rfl rfl rfl rfl rfl rfl rfl rfl rfl rfl) rfl ?_)
      (refine nx (aA (gN rfl) rfl rfl rfl rfl rfl) rfl ?_)
      (refine nx (aA (gN rfl) rfl rfl rfl rfl rfl) rfl ?_)
      show AWp _ _ _ _ _ _ _
      exact aT (And.intro (.inr rfl) rfl)
    | true =>
      have hlD : lexD src = (toks src ++ [[]], true) := by unfold lexD; rw [hok, if_pos rfl]
      rw [hlD]
      obtain ⟨T, hT⟩ : ∃ T, T = toks src := ⟨_, rfl⟩
      rw [← hT] at hT1 hT2 hRR ⊢
      refine aS (aS (aR ?_))
      (refine nx (aM (gN rfl) rfl rfl rfl rfl rfl) rfl ?_)
      (refine nx (a_not (gN rfl) rfl rfl rfl rfl rfl) rfl ?_)
      show AWp _ _ _ _ _ _ _
      refine aC rfl (fun hc => by cases hc) (fun hc => aK ?_)
      show AWp _ _ _ _ _ _ _
      refine AWp.wk (wk_sub (s' := [(2, .bp 2 0 []), (100002, ⟨5, sgcZ, 1, 0, [0]⟩), (5, .val (.lst ((T ++ [[]]).map sv)))]) ⟨rfl, rfl, rfl, trivial⟩) ?_
      refine aS (awp_reader rfl rfl rfl rfl rfl rfl rfl rfl rfl rfl rfl rfl rfl rfl rfl rfl (by decide) (by kernel_rfl) (fun k v hk _ => by rw [hW.1 k] at hk; cases hk) ?_)
      show AWp _ _ _ _ _ _ _
      refine AWp.wk (wk_sub (s' := (2, .bp 2 0 []) :: (100002, ⟨5, sgcZ, 1, 0, [0]⟩) :: (7, .bp 350001 0 []) :: rdI (T ++ [[]])) ⟨rfl, rfl, rfl, rfl, rfl, rfl, rfl, rfl, rfl, rfl, rfl, rfl, rfl, rfl, trivial⟩) ?_
      refine aS (aR ?_)
      (refine nx (aA (gN rfl) rfl rfl rfl rfl rfl) rfl ?_)
      show AWp _ _ _ _ _ _ _
      let sS : Nat → Sg → List By → List (List Lt) → AS := fun I g vs all => (2, .bp 2 0 []) :: (100002, ⟨5, sgcZ, 1, 0, [0]⟩) :: (7, .bp 350001 0 []) :: (8, .own (.lst (all.map lcv)) 200078) :: (200078, .tok 39 1) :: rdS (T ++ [[]]) I false g vs
      refine aS (aB (awp_loop (fun k s => ∃ I g vs acc all stn m, k = T.length - I ∧ OutI T RR 65600 m I g acc all stn ∧ s = sS I g vs all) (n := T.length) (s' := sS 0 sg0 [] []) (((wk_nil 8 200078 39 1 rfl rfl rfl rfl rfl (by kernel_rfl) (by kernel_rfl)).trans (wk_nilF 35500106 300004 9 1 rfl rfl rfl rfl (by kernel_rfl) (by kernel_rfl))).trans (wk_sub ⟨rfl, rfl, rfl, rfl, rfl, rfl, rfl, rfl, rfl, rfl, rfl, rfl, rfl, rfl, rfl, rfl, rfl, trivial⟩)) ⟨0, sg0, [], [], [], nm0, 65600, rfl, ⟨Nat.zero_le _, Rel.start, hRR, rfl, Nat.zero_le _, fun tail => rfl⟩, rfl⟩ ?_))
      rintro k s ⟨I, g, vs, acc, all, stn, m, rfl, hO, rfl⟩
      have hx := at_hd T hO.le
      have hx' := sv_at hx
      have hsv := svs_size (T ++ [[]])
      refine aS (aS (aD (by kernel_rfl) (by kernel_rfl) ?_))
      (refine nx (aM (gN rfl) rfl rfl rfl rfl rfl) rfl ?_)
      (refine nx (aNc (gN rfl) rfl rfl rfl rfl rfl) rfl ?_)
      (refine nx (aF (gN rfl) rfl rfl rfl rfl rfl rfl rfl rfl rfl) rfl ?_)
      (refine nx (aLf (gN rfl) rfl rfl rfl rfl rfl rfl rfl rfl rfl rfl rfl rfl rfl) rfl ?_)
      (refine nx (aM (gN rfl) rfl rfl rfl rfl rfl) rfl ?_)
      (refine nx (aNc (gN rfl) rfl rfl rfl rfl rfl) rfl ?_)
      (refine nx (aF (gN rfl) rfl rfl rfl rfl rfl rfl rfl rfl rfl) rfl ?_)
      (refine nx (aLf (gN rfl) rfl rfl rfl rfl rfl rfl rfl rfl rfl rfl rfl rfl rfl) rfl ?_)
      (refine nx (a_index (j := I) (gN rfl) rfl rfl rfl rfl rfl rfl rfl rfl rfl (hx') rfl (hsv)) rfl ?_)
      (refine nx (a_load_ad (gN rfl) rfl rfl rfl rfl rfl rfl rfl rfl rfl) rfl ?_)
      (refine nx (a_sneq (gN rfl) rfl rfl rfl rfl rfl rfl rfl) rfl ?_)
      refine ⟨by kernel_rfl, ?_⟩
      show AWp _ _ _ _ _ _ _
      refine aC rfl (fun hc => aK ?_) (fun hc => aE ?_)
      · have hne : T.drop I ≠ [] := fun e => by
          rw [e] at hc
          exact absurd hc (by decide)
        obtain ⟨m', q, rfl, hq, hcase⟩ := rdFL_step hO.rd hne
        have hIlt : I < T.length := by
          rcases Nat.lt_or_ge I T.length with h | h
          · exact h
          · exact absurd (List.drop_eq_nil_of_le h) hne
        show AWp _ _ _ _ _ _ _
        refine AWp.wk (wk_sub (s' := sS I g vs all) ⟨rfl, rfl, rfl, rfl, rfl, rfl, rfl, rfl, rfl, rfl, rfl, rfl, rfl, rfl, rfl, rfl, rfl, trivial⟩) ?_
        refine aB (aS (aR ?_))
        (refine nx (aM (gN rfl) rfl rfl rfl rfl rfl) rfl ?_)
        (refine nx (aNc (gN rfl) rfl rfl rfl rfl rfl) rfl ?_)
        (refine nx (aF (gN rfl) rfl rfl rfl rfl rfl rfl rfl rfl rfl) rfl ?_)
        (refine nx (a_store_fld (gN rfl) rfl rfl rfl rfl rfl rfl rfl rfl rfl rfl rfl rfl) rfl ?_)
        show AWp _ _ _ _ _ _ _
        refine aS (aR ?_)
        (refine nx (aA (gN rfl) rfl rfl rfl rfl rfl) rfl ?_)
        show AWp _ _ _ _ _ _ _
        let sL : List Lt → Rs → Nat → AS := fun c s2 I2 => (2, .bp 2 0 []) :: (100002, ⟨5, sgcZ, 1, 0, [0]⟩) :: (7, .bp 350001 0 []) :: (8, .own (.lst (all.map lcv)) 200078) :: (200078, .tok 39 1) :: (9, .own (.lst (c.map Lt.cv)) 200057) :: (200057, .tok 66 5) :: rdR (T ++ [[]]) I2 s2
        refine AWp.wk (((wk_sub (s' := [(2, .bp 2 0 []), (100002, ⟨5, sgcZ, 1, 0, [0]⟩), (7, .bp 350001 0 []), (8, .own (.lst (all.map lcv)) 200078), (200078, .tok 39 1), (9, ⟨0, .lst [], 1, 0, []⟩), (450001, .obj), (35500100, .val (.lst ((T ++ [[]]).map sv))), (35500101, .val (.i (I : Int))), (35500102, .val (.b false)), (35500103, .sl 300001 0 g.nm.length 1), (35500104, .sl 300002 0 g.ar.length 1), (35500105, .sl 300003 0 g.pr.length 1), (35500106, ⟨0, .lst [], 1, 0, []⟩), (300001, .mrow 9 1 (g.nm.map sv)), (300002, .mrow 3 1 (g.ar.map iv)), (300003, .mrow 4 1 (g.pr.map bv))]) ⟨rfl, rfl, rfl, rfl, rfl, rfl, rfl, rfl, rfl, rfl, rfl, rfl, rfl, rfl, rfl, rfl, rfl, trivial⟩).trans ((wk_nil 9 200057 66 5 rfl rfl rfl rfl rfl (by kernel_rfl) (by kernel_rfl)).trans (wk_nilF 35500106 300004 9 1 rfl rfl rfl rfl (by kernel_rfl) (by kernel_rfl)))).trans (wk_sub (s' := sL [] ⟨false, g, []⟩ I) ⟨rfl, rfl, rfl, rfl, rfl, rfl, rfl, rfl, rfl, rfl, rfl, rfl, rfl, rfl, rfl, rfl, rfl, rfl, rfl, trivial⟩)) ?_
        obtain ⟨st0, hst0⟩ : ∃ st0 : Nm, st0 = ⟨stn.sg, stn.sy, []⟩ := ⟨_, rfl⟩
        have hrel0 := hO.rel
        rw [← hst0] at hrel0
        refine awp_mid12 (fun σ : List Lt × Rs × Nat => EndC T 65600 I st0 q σ.1 σ.2.1 σ.2.2) (fun σ => sL σ.1 σ.2.1 σ.2.2) ?_ ?_
        · have his := is12_abs (T ++ [[]]) I false g [] neverB _ hx
          refine aS (aR ?_)
          (refine nx (aM (gN rfl) rfl rfl rfl rfl rfl) rfl ?_)
          (refine nx (a_callO (gN rfl) rfl rfl rfl rfl rfl (his) (by repeat (first | exact trivial | refine ⟨rfl, ?_⟩)) (by first | rfl | kernel_rfl) (by first | rfl | kernel_rfl) (by first | rfl | kernel_rfl) (by first | rfl | kernel_rfl) (hnb_of (by first | rfl | kernel_rfl))) rfl ?_)
          show AWp _ _ _ _ _ _ _
          obtain ⟨t1, t2, t3⟩ := take_at T hO.le (x := neverB) (by decide)
          refine aC rfl (fun hc => ?_) (fun hc => ?_)
          · have hn : hd (T.drop I) = neverB := by simpa using hc
            have hqe : q = ([], true, T.drop (I + 1)) := by
              unfold rdCL at hq
              rw [t1, decide_eq_true hn, if_pos rfl, (t2 hn).1] at hq
              exact (Option.some.inj hq).symm
            rw [hn] at hx
            have htk := take12_yes (T ++ [[]]) I g [] neverB hx (by omega)
            refine aR ?_
            (refine nx (aM (gN rfl) rfl rfl rfl rfl rfl) rfl ?_)
            (refine nx (a_callO (gN rfl) rfl rfl rfl rfl rfl (htk) (by repeat (first | exact trivial | refine ⟨rfl, ?_⟩)) (by first | rfl | kernel_rfl) (by first | rfl | kernel_rfl) (by first | rfl | kernel_rfl) (by first | rfl | kernel_rfl) (hnb_of (by first | rfl | kernel_rfl))) rfl ?_)
            refine ⟨([], ⟨false, g, []⟩, I + 1), ⟨(t2 hn).2, .inr ⟨rfl, by show I < I + 1; omega, by rw [hqe], by rw [hqe], ⟨st0, by rw [hqe]; rfl, hrel0⟩, (fun x hx => by cases hx), Nat.zero_le _⟩⟩, wk_sub ⟨rfl, rfl, rfl, rfl, rfl, rfl, rfl, rfl, rfl, rfl, rfl, rfl, rfl, rfl, rfl, rfl, rfl, rfl, rfl, trivial⟩⟩
          · have hn : hd (T.drop I) ≠ neverB := by simpa using hc
            have hq2 : some q = rdLsL 65600 65600 (T.drop I) [] := by
              unfold rdCL at hq
              rw [t1, decide_eq_false hn, if_neg (by decide), t3 hn] at hq
              exact hq.symm
            obtain ⟨r0, hr0⟩ := rdLs_lit hq2
            obtain ⟨l, s1, I1, hlit, hLE⟩ := litP_abs T (by omega) 65600 I hO.le (by omega) ⟨false, g, []⟩ rfl hrel0.ok (by have := hrel0.few; rw [← hrel0.g] at this; show g.nm.length ≤ _; have : g.nm.length ≤ 201 := this; omega) (Nat.zero_le _) r0 hr0
            have hnx := lit_more12 (I := I) (K := I) (st0 := st0) (st' := st0) (ses := []) (c := []) hq2 (fun tail => rfl) hrel0 rfl (Nat.le_refl _) (Nat.zero_le _) (fun x hx => by cases hx) (Nat.zero_le _) hr0 hLE
            refine AWp.wk (wk_sub (s' := sL [] ⟨false, g, []⟩ I) ⟨rfl, rfl, rfl, rfl, rfl, rfl, rfl, rfl, rfl, rfl, rfl, rfl, rfl, rfl, rfl, rfl, rfl, rfl, rfl, trivial⟩) ?_
            refine aS (aR ?_)
            (refine nx (aM (gN rfl) rfl rfl rfl rfl rfl) rfl ?_)
            (refine nx (aM (gN rfl) rfl rfl rfl rfl rfl) rfl ?_)
            (refine nx (a_callO (gN rfl) rfl rfl rfl rfl rfl (hlit) (by repeat (first | exact trivial | refine ⟨rfl, ?_⟩)) (by first | rfl | kernel_rfl) (by first | rfl | kernel_rfl) (by first | rfl | kernel_rfl) (by first | rfl | kernel_rfl) (hnb_of (by first | rfl | kernel_rfl))) rfl ?_)
            (refine nx (a_bslice (gN rfl) rfl rfl rfl rfl rfl rfl rfl rfl rfl rfl rfl rfl rfl) rfl ?_)
            (refine nx (a_app (gN rfl) rfl rfl rfl rfl rfl rfl rfl rfl rfl rfl rfl rfl rfl rfl rfl (by first | assumption | exact sZ rfl | exact Tm.size_all _ | exact Bd.size_all _ | exact ints_size _ | exact bys_size _ | exact Lt.size_all _) (by first | assumption | exact sZ rfl | exact Tm.size_all _ | exact Bd.size_all _ | exact ints_size _ | exact bys_size _ | exact Lt.size_all _) (by first | omega | (simp only [List.length_map, List.length_append, List.length_cons, List.length_nil] <;> omega) | (simp <;> omega))) (by kernel_rfl) ?_)
            (refine nx (aA (gN rfl) rfl rfl rfl rfl rfl) rfl ?_)
            show AWp _ _ _ _ _ _ _
            refine aB (awp_loop (fun k s => ∃ c s' I', k = (if s'.bad then 0 else T.length - I' + 1) ∧ I' ≤ T.length ∧ ((s'.bad = true ∧ BadC 65600 st0 q) ∨ (s'.bad = false ∧ ∃ ses st' m, InG T 65600 I st0 q ses I' s' c st' m)) ∧ s = sL c s' I') (n := if s1.bad then 0 else T.length - I1 + 1) (s' := sL [l] s1 I1) ((wk_sub (s' := (2, .bp 2 0 []) :: (100002, ⟨5, sgcZ, 1, 0, [0]⟩) :: (7, .bp 350001 0 []) :: (8, .own (.lst (all.map lcv)) 200078) :: (200078, .tok 39 1) :: (9, .own (.lst (([l]).map Lt.cv)) 300048) :: (300048, .tok 66 5) :: rdR (T ++ [[]]) I1 s1) ⟨rfl, rfl, rfl, rfl, rfl, by first | rfl | (rw [List.map_append]; rfl), rfl, rfl, rfl, rfl, rfl, rfl, rfl, rfl, rfl, rfl, rfl, rfl, rfl, trivial⟩).trans (wk_ren 300048 200057 rfl rfl (by kernel_rfl) (by kernel_rfl))) ⟨[l], s1, I1, rfl, hnx.1, (by rcases hnx.2 with h | ⟨h1, _, st1, m1, h2⟩; exact .inl h; exact .inr ⟨h1, _, st1, m1, h2⟩), rfl⟩ ?_)
            rintro k s ⟨c, s', I', rfl, hI', hD, rfl⟩
            have hx2 := at_hd T hI'
            have his2 := is12_abs (T ++ [[]]) I' s'.bad s'.g s'.vs [124] _ hx2
            obtain ⟨u1, u2, u3⟩ := take_at T hI' (x := [124]) (by decide)
            refine aS (aS (aR ?_))
            (refine nx (aM (gN rfl) rfl rfl rfl rfl rfl) rfl ?_)
            (refine nx (a_callO (gN rfl) rfl rfl rfl rfl rfl (his2) (by repeat (first | exact trivial | refine ⟨rfl, ?_⟩)) (by first | rfl | kernel_rfl) (by first | rfl | kernel_rfl) (by first | rfl | kernel_rfl) (by first | rfl | kernel_rfl) (hnb_of (by first | rfl | kernel_rfl))) rfl ?_)
            show AWp _ _ _ _ _ _ _
            refine aC rfl (fun hc => aK ?_) (fun hc => aE ?_)
            · have hc : (!s'.bad && decide (hd (T.drop I') = [124])) = true := hc
              rw [Bool.and_eq_true, decide_eq_true_iff] at hc
              have hb' : s'.bad = false := by simpa using hc.1
              have hbar := hc.2
              rcases hD with ⟨h, _⟩ | ⟨_, ses, st', m2, hG⟩
              · rw [hb'] at h; cases h
              have hle2 := (u2 hbar).2
              have hrd2 := hG.rd
              rw [u1, decide_eq_true hbar, if_pos rfl, (u2 hbar).1] at hrd2
              obtain ⟨r2, hr2⟩ := rdLs_lit hrd2
              have hfew := hG.rel.few
              rw [← hG.rel.g] at hfew
              obtain ⟨l2, s3, I3, hlit2, hLE2⟩ := litP_abs T (by omega) 65600 (I' + 1) hle2 (by omega) s' hb' hG.rel.ok (by omega) (by have := hG.vs; omega) r2 hr2
              have hwt' := hG.wt
              have hvs' := hG.vs
              have hlt' := hG.lt
              have hnx2 := lit_more12 (I := I) (K := I' + 1) (st0 := st0) (st' := st') (ses := ses) (c := c) hrd2 hG.nm hG.rel hb' (by omega) (by omega) hG.ok (by omega) hr2 hLE2
              rw [hbar] at hx2
              have htk := take12_yes (T ++ [[]]) I' s'.g s'.vs [124] hx2 (by omega)
              have hcl := len_wt c
              have hcl2 : (c.map Lt.cv).length ≤ 1000000 := by rw [List.length_map]; omega
              have hcz := Lt.size_all c
              refine AWp.wk (wk_sub (s' := (2, .bp 2 0 []) :: (100002, ⟨5, sgcZ, 1, 0, [0]⟩) :: (7, .bp 350001 0 []) :: (8, .own (.lst (all.map lcv)) 200078) :: (200078, .tok 39 1) :: (9, .own (.lst (c.map Lt.cv)) 200057) :: (200057, .tok 66 5) :: rdS (T ++ [[]]) I' false s'.g s'.vs) (by rw [← hb']; exact ⟨rfl, rfl, rfl, rfl, rfl, rfl, rfl, rfl, rfl, rfl, rfl, rfl, rfl, rfl, rfl, rfl, rfl, rfl, rfl, trivial⟩)) ?_
              refine aB (aS (aR ?_))
              (refine nx (aM (gN rfl) rfl rfl rfl rfl rfl) rfl ?_)
              (refine nx (a_callO (gN rfl) rfl rfl rfl rfl rfl (htk) (by repeat (first | exact trivial | refine ⟨rfl, ?_⟩)) (by first | rfl | kernel_rfl) (by first | rfl | kernel_rfl) (by first | rfl | kernel_rfl) (by first | rfl | kernel_rfl) (hnb_of (by first | rfl | kernel_rfl))) rfl ?_)
              show AWp _ _ _ _ _ _ _
              refine AWp.wk (wk_sub (s' := sL c s' (I' + 1)) (by show SubL _ ((2, .bp 2 0 []) :: (100002, ⟨5, sgcZ, 1, 0, [0]⟩) :: (7, .bp 350001 0 []) :: (8, .own (.lst (all.map lcv)) 200078) :: (200078, .tok 39 1) :: (9, .own (.lst (c.map Lt.cv)) 200057) :: (200057, .tok 66 5) :: rdS (T ++ [[]]) (I' + 1) s'.bad s'.g s'.vs); rw [hb']; exact ⟨rfl, rfl, rfl, rfl, rfl, rfl, rfl, rfl, rfl, rfl, rfl, rfl, rfl, rfl, rfl, rfl, rfl, rfl, rfl, trivial⟩)) ?_
              refine aR ?_
              (refine nx (aM (gN rfl) rfl rfl rfl rfl rfl) rfl ?_)
              (refine nx (aM (gN rfl) rfl rfl rfl rfl rfl) rfl ?_)
              (refine nx (a_callO (gN rfl) rfl rfl rfl rfl rfl (hlit2) (by repeat (first | exact trivial | refine ⟨rfl, ?_⟩)) (by first | rfl | kernel_rfl) (by first | rfl | kernel_rfl) (by first | rfl | kernel_rfl) (by first | rfl | kernel_rfl) (hnb_of (by first | rfl | kernel_rfl))) rfl ?_)
              (refine nx (a_bslice (gN rfl) rfl rfl rfl rfl rfl rfl rfl rfl rfl rfl rfl rfl rfl) rfl ?_)
              (refine nx (a_app (gN rfl) rfl rfl rfl rfl rfl rfl rfl rfl rfl rfl rfl rfl rfl rfl rfl (by first | assumption | exact sZ rfl | exact Tm.size_all _ | exact Bd.size_all _ | exact ints_size _ | exact bys_size _ | exact Lt.size_all _) (by first | assumption | exact sZ rfl | exact Tm.size_all _ | exact Bd.size_all _ | exact ints_size _ | exact bys_size _ | exact Lt.size_all _) (by first | omega | (simp only [List.length_map, List.length_append, List.length_cons, List.length_nil] <;> omega) | (simp <;> omega))) (by kernel_rfl) ?_)
              (refine nx (aA (gN rfl) rfl rfl rfl rfl rfl) rfl ?_)
              refine ⟨if s3.bad then 0 else T.length - I3 + 1, sL (c ++ [l2]) s3 I3, ?_, ⟨c ++ [l2], s3, I3, rfl, hnx2.1, (by rcases hnx2.2 with h | ⟨h1, _, st1, m1, h2⟩; exact .inl h; exact .inr ⟨h1, _, st1, m1, h2⟩), rfl⟩, ((wk_sub (s' := (2, .bp 2 0 []) :: (100002, ⟨5, sgcZ, 1, 0, [0]⟩) :: (7, .bp 350001 0 []) :: (8, .own (.lst (all.map lcv)) 200078) :: (200078, .tok 39 1) :: (9, .own (.lst ((c ++ [l2]).map Lt.cv)) 300057) :: (300057, .tok 66 5) :: rdR (T ++ [[]]) I3 s3) ⟨rfl, rfl, rfl, rfl, rfl, by first | rfl | (rw [List.map_append]; rfl), rfl, rfl, rfl, rfl, rfl, rfl, rfl, rfl, rfl, rfl, rfl, rfl, rfl, trivial⟩).trans (wk_ren 300057 200057 rfl rfl (by kernel_rfl) (by kernel_rfl)))⟩
              rw [hb']
              rcases hnx2.2 with ⟨h, _⟩ | ⟨h1, h2, _⟩
              · rw [h, if_pos rfl, if_neg (by decide)]; omega
              · rw [h1, if_neg (by decide), if_neg (by decide)]; have := hnx2.1; omega
            · have hc : (!s'.bad && decide (hd (T.drop I') = [124])) = false := by
                cases h : (!s'.bad && decide (hd (T.drop I') = [124])) with
                | false => rfl
                | true => exact absurd (show (!s'.bad && decide (hd (T.drop I') = [124])) = true from h) (by simpa using hc)
              refine ⟨(c, s', I'), ⟨hI', ?_⟩, wk_sub (s' := sL c s' I') ⟨rfl, rfl, rfl, rfl, rfl, rfl, rfl, rfl, rfl, rfl, rfl, rfl, rfl, rfl, rfl, rfl, rfl, rfl, rfl, trivial⟩⟩
              rcases hD with h | ⟨hb', ses, st', m2, hG⟩
              · exact .inl h
              · have hbar : hd (T.drop I') ≠ [124] := by
                  rw [hb'] at hc
                  simpa using hc
                have hrd2 := hG.rd
                rw [u1, decide_eq_false hbar, if_neg (by decide), u3 hbar] at hrd2
                have hqe := Option.some.inj hrd2
                have hnm := hG.nm []
                rw [List.append_nil] at hnm
                exact .inr ⟨hb', hG.lt, by rw [hqe], by rw [hqe], ⟨st', by rw [hqe]; exact hnm.trans (by unfold litsF; rfl), hG.rel⟩, hG.ok, hG.wt⟩
        · rintro ⟨c, s2, I2⟩ hE
          obtain ⟨hI2, hE⟩ := hE
          have hI2 : I2 ≤ T.length := hI2
          have hx2 := at_hd T hI2
          obtain ⟨v1, v2, v3⟩ := take_at T hI2 (x := [46]) (by decide)
          by_cases hgo : s2.bad = false ∧ hd (T.drop I2) = [46]
          · obtain ⟨hb2, hdot⟩ := hgo
            rcases hE with ⟨h, _⟩ | ⟨_, hlt, hq1, hq2, ⟨st2, hls, hrel2⟩, hcok, hcw⟩
            · have h : s2.bad = true := h
              rw [hb2] at h; cases h
            have hlt : I < I2 := hlt
            have hrest : rdFL 65600 m' (T.drop (I2 + 1)) (acc ++ [q.1]) = some RR := by
              rw [hq2] at hcase
              rw [v1, (v2 hdot).1, decide_eq_true hdot] at hcase
              rcases hcase with ⟨h, _⟩ | ⟨_, h, _⟩ | ⟨_, _, h⟩
              · rw [hq1] at h; cases h
              · cases h
              · exact h
            have hcl : clsF 65600 stn q.1 = some (c, true, st2) := by unfold clsF; rw [← hst0]; exact hls
            rw [hdot] at hx2
            have htk := take12_yes (T ++ [[]]) I2 s2.g s2.vs [46] hx2 (by omega)
            have hcw : wtL c ≤ 2 * I2 := hcw
            have hcl2 := len_wt c
            have hwt := weight12_abs w c (by omega) (by omega) hcok
            refine AWp.wk (wk_sub (s' := (2, .bp 2 0 []) :: (100002, ⟨5, sgcZ, 1, 0, [0]⟩) :: (7, .bp 350001 0 []) :: (8, .own (.lst (all.map lcv)) 200078) :: (200078, .tok 39 1) :: (9, .own (.lst (c.map Lt.cv)) 200057) :: (200057, .tok 66 5) :: rdS (T ++ [[]]) I2 false s2.g s2.vs) (by rw [← hb2]; exact ⟨rfl, rfl, rfl, rfl, rfl, rfl, rfl, rfl, rfl, rfl, rfl, rfl, rfl, rfl, rfl, rfl, rfl, rfl, rfl, trivial⟩)) ?_
            refine aS (aR ?_)
            (refine nx (aM (gN rfl) rfl rfl rfl rfl rfl) rfl ?_)
            (refine nx (a_callO (gN rfl) rfl rfl rfl rfl rfl (htk) (by repeat (first | exact trivial | refine ⟨rfl, ?_⟩)) (by first | rfl | kernel_rfl) (by first | rfl | kernel_rfl) (by first | rfl | kernel_rfl) (by first | rfl | kernel_rfl) (hnb_of (by first | rfl | kernel_rfl))) rfl ?_)
            show AWp _ _ _ _ _ _ _
            by_cases hheavy : (60 : Int) < (wtL c : Int)
            · have hr7 := fail_cls hle (by rw [← hT]; exact hRR) hr hrest hO.mn (fun z hz => by
                rw [hcl] at hz
                cases hz
                show (true && decide (wtL c ≤ 60)) = false
                rw [decide_eq_false (by omega)]; rfl)
              cases hr7
              refine aS (aS (aR ?_))
              (refine nx (aM (gN rfl) rfl rfl rfl rfl rfl) rfl ?_)
              (refine nx (aNc (gN rfl) rfl rfl rfl rfl rfl) rfl ?_)
              (refine nx (aF (gN rfl) rfl rfl rfl rfl rfl rfl rfl rfl rfl) rfl ?_)
              (refine nx (aLf (gN rfl) rfl rfl rfl rfl rfl rfl rfl rfl rfl rfl rfl rfl rfl) rfl ?_)
              (refine nx (aM (gN rfl) rfl rfl rfl rfl rfl) rfl ?_)
              (refine nx (aM (gd_on rfl rfl rfl rfl (by first | rfl | assumption | (simp; done))) rfl rfl rfl rfl rfl) rfl ?_)
              (refine nx (a_call (gd_on rfl rfl rfl rfl (by first | rfl | assumption | (simp; done))) rfl rfl rfl rfl rfl (hwt)) rfl ?_)
              (refine nx (a_gtr (gd_on rfl rfl rfl rfl (by first | rfl | assumption | (simp; done))) rfl rfl rfl rfl rfl rfl) rfl ?_)
              rw [show decide ((wtL c : Int) > 60) = true from decide_eq_true hheavy]
              (refine ⟨_, _, _, aPf (gN rfl) rfl rfl rfl rfl rfl ?hb rfl, rfl, ?_⟩; case hb => (first | rfl | assumption | (simp; done)))
              (refine nx (aM (gN rfl) rfl rfl rfl rfl rfl) rfl ?_)
              (refine ⟨_, _, _, a_off (go_off rfl rfl rfl rfl (by first | rfl | assumption | (simp; done) | (simp [*]; done))) rfl rfl rfl, rfl, ?_⟩)
              (refine ⟨_, _, _, a_off (go_off rfl rfl rfl rfl (by first | rfl | assumption | (simp; done) | (simp [*]; done))) rfl rfl rfl, rfl, ?_⟩)
              (refine ⟨_, _, _, a_off (go_off rfl rfl rfl rfl (by first | rfl | assumption | (simp; done) | (simp [*]; done))) rfl rfl rfl, rfl, ?_⟩)
              (refine ⟨_, _, _, aPt (gN rfl) rfl rfl rfl rfl rfl ?hb rfl, rfl, ?_⟩; case hb => (first | rfl | assumption | (simp; done)))
              show AWp _ _ _ _ _ _ _
              refine aC rfl (fun hc => ?_) (fun hc => by cases hc)
              refine aS (aR ?_)
              (refine nx (a_build (gN rfl) rfl rfl rfl rfl rfl rfl rfl rfl rfl rfl rfl) rfl ?_)
              (refine nx (aSt (gN rfl) rfl rfl rfl rfl rfl rfl rfl rfl rfl rfl) rfl ?_)
              (refine nx (aA (gN rfl) rfl rfl rfl rfl rfl) rfl ?_)
              (refine nx (aA (gN rfl) rfl rfl rfl rfl rfl) rfl ?_)
              show AWp _ _ _ _ _ _ _
              exact aT (And.intro (.inr rfl) rfl)
            · have hlight : wtL c ≤ 60 := by omega
              refine aS (aS (aR ?_))
              (refine nx (aM (gN rfl) rfl rfl rfl rfl rfl) rfl ?_)
              (refine nx (aNc (gN rfl) rfl rfl rfl rfl rfl) rfl ?_)
              (refine nx (aF (gN rfl) rfl rfl rfl rfl rfl rfl rfl rfl rfl) rfl ?_)
              (refine nx (aLf (gN rfl) rfl rfl rfl rfl rfl rfl rfl rfl rfl rfl rfl rfl rfl) rfl ?_)
              (refine nx (aM (gN rfl) rfl rfl rfl rfl rfl) rfl ?_)
              (refine nx (aM (gd_on rfl rfl rfl rfl (by first | rfl | assumption | (simp; done))) rfl rfl rfl rfl rfl) rfl ?_)
              (refine nx (a_call (gd_on rfl rfl rfl rfl (by first | rfl | assumption | (simp; done))) rfl rfl rfl rfl rfl (hwt)) rfl ?_)
              (refine nx (a_gtr (gd_on rfl rfl rfl rfl (by first | rfl | assumption | (simp; done))) rfl rfl rfl rfl rfl rfl) rfl ?_)
              rw [show decide ((wtL c : Int) > 60) = false from decide_eq_false hheavy]
              (refine ⟨_, _, _, aPf (gN rfl) rfl rfl rfl rfl rfl ?hb rfl, rfl, ?_⟩; case hb => (first | rfl | assumption | (simp; done)))
              (refine nx (aM (gN rfl) rfl rfl rfl rfl rfl) rfl ?_)
              (refine nx (aM (gd_on rfl rfl rfl rfl (by first | rfl | assumption | (simp; done))) rfl rfl rfl rfl rfl) rfl ?_)
              (refine nx (a_len (gd_on rfl rfl rfl rfl (by first | rfl | assumption | (simp; done))) rfl rfl rfl rfl rfl rfl rfl) rfl ?_)
              (refine nx (a_eql (gd_on rfl rfl rfl rfl (by first | rfl | assumption | (simp; done))) rfl rfl rfl rfl rfl rfl) rfl ?_)
              (refine ⟨_, _, _, aPf (gN rfl) rfl rfl rfl rfl rfl ?hb rfl, rfl, ?_⟩; case hb => (first | rfl | assumption | (simp; done)))
              show AWp _ _ _ _ _ _ _
              refine aC rfl (fun hc => ?_) (fun hc => aK ?_)
              · have h64 : all.length = 64 := by
                  have : ((all.length : Int) = 64) := by simpa using hc
                  omega
                have hr7 := fail_many hle (by rw [← hT]; exact hRR) hr hrest (by rw [hO.len]; exact h64)
                cases hr7
                refine aS (aR ?_)
                (refine nx (a_build (gN rfl) rfl rfl rfl rfl rfl rfl rfl rfl rfl rfl rfl) rfl ?_)
                (refine nx (aSt (gN rfl) rfl rfl rfl rfl rfl rfl rfl rfl rfl rfl) rfl ?_)
                (refine nx (aA (gN rfl) rfl rfl rfl rfl rfl) rfl ?_)
                (refine nx (aA (gN rfl) rfl rfl rfl rfl rfl) rfl ?_)
                show AWp _ _ _ _ _ _ _
                exact aT (And.intro (.inr rfl) rfl)
              · have h64 : all.length < 64 := by
                  have h1 : ¬ ((all.length : Int) = 64) := by simpa using hc
                  have := hO.few
                  omega
                have hsz2 := lcv_size all
                have hal2 : (all.map lcv).length ≤ 1000000 := by rw [List.length_map]; omega
                show AWp _ _ _ _ _ _ _
                refine aR ?_
                (refine nx (aM (gN rfl) rfl rfl rfl rfl rfl) rfl ?_)
                (refine nx (aM (gN rfl) rfl rfl rfl rfl rfl) rfl ?_)
                (refine nx (a_bslice (gN rfl) rfl rfl rfl rfl rfl rfl rfl rfl rfl rfl rfl rfl rfl) rfl ?_)
                (refine nx (a_app (gN rfl) rfl rfl rfl rfl rfl rfl rfl rfl rfl rfl rfl rfl rfl rfl rfl (by first | assumption | exact sZ rfl | exact Tm.size_all _ | exact Bd.size_all _ | exact ints_size _ | exact bys_size _ | exact Lt.size_all _) (by first | assumption | exact sZ rfl | exact Tm.size_all _ | exact Bd.size_all _ | exact ints_size _ | exact bys_size _ | exact Lt.size_all _) (by first | omega | (simp only [List.length_map, List.length_append, List.length_cons, List.length_nil] <;> omega) | (simp <;> omega))) (by kernel_rfl) ?_)
                (refine nx (aA (gN rfl) rfl rfl rfl rfl rfl) rfl ?_)
                have hrel3 := hrel2.again
                have hrel3 : Rel ⟨s2.bad, s2.g, []⟩ ⟨st2.sg, st2.sy, []⟩ := hrel3
                rw [hb2] at hrel3
                refine ⟨T.length - (I2 + 1), sS (I2 + 1) s2.g s2.vs (all ++ [c]), by omega, ⟨I2 + 1, s2.g, s2.vs, acc ++ [q.1], all ++ [c], st2, m', rfl, ⟨(v2 hdot).2, hrel3, hrest, by rw [List.length_append, List.length_append, hO.len]; rfl, by rw [List.length_append]; exact h64, fun tail => ?_⟩, rfl⟩, (wk_sub (s' := (2, .bp 2 0 []) :: (100002, ⟨5, sgcZ, 1, 0, [0]⟩) :: (7, .bp 350001 0 []) :: (8, .own (.lst ((all ++ [c]).map lcv)) 300078) :: (300078, .tok 39 1) :: rdS (T ++ [[]]) (I2 + 1) false s2.g s2.vs) ⟨rfl, rfl, rfl, by first | rfl | (rw [List.map_append]; rfl), rfl, rfl, rfl, rfl, rfl, rfl, rfl, rfl, rfl, rfl, rfl, rfl, rfl, trivial⟩).trans (wk_ren 300078 200078 rfl rfl (by kernel_rfl) (by kernel_rfl))⟩
                rw [List.append_assoc, hO.mn]
                show mnF 65600 stn (q.1 :: tail) all = _
                rw [mnF_cons hcl, if_pos (by show (true && decide (wtL c ≤ 60)) = true; rw [decide_eq_true hlight]; rfl)]
          · have hr7 : r = (⟨[], [], []⟩, [], 7) := by
              rcases hcase with ⟨_, h⟩ | ⟨_, _, h⟩ | ⟨hq1, hdt, hrest⟩
              · exact prF_fail hle (by rw [← hT]; exact hRR) hr (fun h1 => by rw [h] at h1; cases h1)
              · exact prF_fail hle (by rw [← hT]; exact hRR) hr (fun h1 => by rw [h] at h1; cases h1)
              · rcases hE with ⟨_, hbc⟩ | ⟨hb2, _, _, hq2, _⟩
                · exact fail_cls hle (by rw [← hT]; exact hRR) hr hrest hO.mn (fun z hz => by
                    unfold clsF at hz
                    rw [← hst0] at hz
                    rw [hbc hq1 z hz]; rfl)
                · have hb2 : s2.bad = false := hb2
                  have hq2 : q.2.2 = T.drop I2 := hq2
                  rw [hq2, v1] at hdt
                  exact absurd ⟨hb2, of_decide_eq_true hdt⟩ hgo
            have hno : (!s2.bad && decide (hd (T.drop I2) = [46])) = false := by
              rw [Bool.and_eq_false_iff]
              by_cases h : s2.bad = false
              · exact .inr (decide_eq_false fun e => hgo ⟨h, e⟩)
              · left; cases hb : s2.bad with
                | false => exact absurd hb h
                | true => rfl
            have htk := take12_no (T ++ [[]]) I2 s2.bad s2.g s2.vs [46] _ hx2 hno
            cases hr7
            refine aS (aR ?_)
            (refine nx (aM (gN rfl) rfl rfl rfl rfl rfl) rfl ?_)
            (refine nx (a_callO (gN rfl) rfl rfl rfl rfl rfl (htk) (by repeat (first | exact trivial | refine ⟨rfl, ?_⟩)) (by first | rfl | kernel_rfl) (by first | rfl | kernel_rfl) (by first | rfl | kernel_rfl) (by first | rfl | kernel_rfl) (hnb_of (by first | rfl | kernel_rfl))) rfl ?_)
            show AWp _ _ _ _ _ _ _
            refine aS (aS (aR ?_))
            (refine nx (aM (gN rfl) rfl rfl rfl rfl rfl) rfl ?_)
            (refine nx (aNc (gN rfl) rfl rfl rfl rfl rfl) rfl ?_)
            (refine nx (aF (gN rfl) rfl rfl rfl rfl rfl rfl rfl rfl rfl) rfl ?_)
            (refine nx (aLf (gN rfl) rfl rfl rfl rfl rfl rfl rfl rfl rfl rfl rfl rfl rfl) rfl ?_)
            (refine nx (aM (gN rfl) rfl rfl rfl rfl rfl) rfl ?_)
            (refine ⟨_, _, _, a_off (go_off rfl rfl rfl rfl (by first | rfl | assumption | (simp; done) | (simp [*]; done))) rfl rfl rfl, rfl, ?_⟩)
            (refine ⟨_, _, _, a_off (go_off rfl rfl rfl rfl (by first | rfl | assumption | (simp; done) | (simp [*]; done))) rfl rfl rfl, rfl, ?_⟩)
            (refine ⟨_, _, _, a_off (go_off rfl rfl rfl rfl (by first | rfl | assumption | (simp; done) | (simp [*]; done))) rfl rfl rfl, rfl, ?_⟩)
            (refine ⟨_, _, _, aPt (gN rfl) rfl rfl rfl rfl rfl ?hb rfl, rfl, ?_⟩; case hb => (first | rfl | assumption | (simp; done)))
            (refine nx (aM (gN rfl) rfl rfl rfl rfl rfl) rfl ?_)
            (refine ⟨_, _, _, a_off (go_off rfl rfl rfl rfl (by first | rfl | assumption | (simp; done) | (simp [*]; done))) rfl rfl rfl, rfl, ?_⟩)
            (refine ⟨_, _, _, a_off (go_off rfl rfl rfl rfl (by first | rfl | assumption | (simp; done) | (simp [*]; done))) rfl rfl rfl, rfl, ?_⟩)
            (refine ⟨_, _, _, a_off (go_off rfl rfl rfl rfl (by first | rfl | assumption | (simp; done) | (simp [*]; done))) rfl rfl rfl, rfl, ?_⟩)
            (refine ⟨_, _, _, aPt (gN rfl) rfl rfl rfl rfl rfl ?hb rfl, rfl, ?_⟩; case hb => (first | rfl | assumption | (simp; done)))
            show AWp _ _ _ _ _ _ _
            refine aC rfl (fun hc => ?_) (fun hc => by cases hc)
            refine aS (aR ?_)
            (refine nx (a_build (gN rfl) rfl rfl rfl rfl rfl rfl rfl rfl rfl rfl rfl) rfl ?_)
            (refine nx (aSt (gN rfl) rfl rfl rfl rfl rfl rfl rfl rfl rfl rfl) rfl ?_)
            (refine nx (aA (gN rfl) rfl rfl rfl rfl rfl) rfl ?_)
            (refine nx (aA (gN rfl) rfl rfl rfl rfl rfl) rfl ?_)
            show AWp _ _ _ _ _ _ _
            exact aT (And.intro (.inr rfl) rfl)
      · have hn : hd (T.drop I) = [] := by
          cases h : hd (T.drop I) with
          | nil => rfl
          | cons b t => rw [h] at hc; exact absurd hc (by simp)
        have hnil := (hd_none hT2 hO.le).1 hn
        have hrd := hO.rd
        rw [hnil] at hrd
        have hRe := rdFL_nil hrd
        have hmn := hO.mn []
        rw [List.append_nil] at hmn
        have hmn2 : mnF 65600 nm0 RR.1 [] = some (stn, all, true) := by rw [hRe]; exact hmn.trans (by unfold mnF; rfl)
        have hre := prF_good hle (by rw [← hT]; exact hRR) hr (by rw [hRe]) (by rw [hRe]; show acc.length ≤ 64; rw [hO.len]; exact hO.few) hmn2 rfl
        have hg : g = stn.sg := hO.rel.g
        cases hre
        rw [← hg]
        show AWp _ _ _ _ _ _ _
        refine AWp.wk (wk_three (n := 350001) (o1 := 3) (r1 := 300001) (r2 := 300002) (r3 := 300003) (l1 := g.nm.map sv) (l2 := g.ar.map iv) (l3 := g.pr.map bv) (e1 := 9) (e2 := 3) (e3 := 4) (.inr ⟨by decide, by decide⟩) (by kernel_rfl) rfl (by rw [show (g.nm.map sv).length = g.nm.length from List.length_map _]; kernel_rfl) (by rw [show (g.ar.map iv).length = g.ar.length from List.length_map _]; kernel_rfl) (by rw [show (g.pr.map bv).length = g.pr.length from List.length_map _]; kernel_rfl) (by kernel_rfl) (by kernel_rfl) (by kernel_rfl) hW.2 (by decide) (by decide) (by decide) (s' := [(2, .bp 2 0 []), (100002, ⟨5, sgcZ, 1, 0, [0]⟩), (7, .bp 350001 0 []), (8, .own (.lst (all.map lcv)) 200078), (200078, .tok 39 1), (450001, .obj)]) ⟨by kernel_rfl, by kernel_rfl, by kernel_rfl, by kernel_rfl, by kernel_rfl, by kernel_rfl, trivial⟩ (by kernel_rfl) rfl rfl rfl (fun o av h1 h2 => by
          rw [lN (by unfold fKey; omega), lN (by unfold fKey; omega), lN (by unfold fKey; omega), lN (by unfold fKey; omega), lN (by unfold fKey; omega), lN (by unfold fKey; omega)] at h1
          cases h1)) ?_
        refine AWp.wk (wk_sub (s' := [(2, .bp 2 0 []), (100002, ⟨5, sgcZ, 1, 0, [0]⟩), (7, .bp 350001 0 []), (8, .own (.lst (all.map lcv)) 200078), (200078, .tok 39 1), (450001, .obj), (35500103, .val (sgv g))]) ⟨by kernel_rfl, by kernel_rfl, by kernel_rfl, by kernel_rfl, by kernel_rfl, by kernel_rfl, by kernel_rfl, trivial⟩) ?_
        refine aS (aR ?_)
        (refine nx (aM (gN rfl) rfl rfl rfl rfl rfl) rfl ?_)
        (refine nx (aNc (gN rfl) rfl rfl rfl rfl rfl) rfl ?_)
        (refine nx (aF (gN rfl) rfl rfl rfl rfl rfl rfl rfl rfl rfl) rfl ?_)
        (refine nx (aLf (gN rfl) rfl rfl rfl rfl rfl rfl rfl rfl rfl rfl rfl rfl rfl) rfl ?_)
        (refine nx (aM (gN rfl) rfl rfl rfl rfl rfl) rfl ?_)
        (refine nx (aSt (gN rfl) rfl rfl rfl rfl rfl rfl rfl rfl rfl rfl) rfl ?_)
        (refine nx (aA (gN rfl) rfl rfl rfl rfl rfl) rfl ?_)
        (refine nx (aA (gN rfl) rfl rfl rfl rfl rfl) rfl ?_)
        show AWp _ _ _ _ _ _ _
        exact aT (And.intro (.inr rfl) rfl)
end Go.Proofs.YtglbohajmccehaaDoor

