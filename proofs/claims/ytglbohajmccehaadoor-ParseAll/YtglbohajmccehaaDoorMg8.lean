/-
  PsMk12 PsWf PsCl12 PsRefB PsPr12
-/
import Derived.Test.YtglbohajmccehaaDoorMg7
import Derived.Test.YtglbohajmccehaaDoorMg4
import Derived.Test.YtglbohajmccehaaDoorMg6
import Derived.Test.YtglbohajmccehaaDoorMg5
import Derived.Test.YtglbohajmccehaaDoorMg3
namespace Go.Proofs.YtglbohajmccehaaDoor
open Go.RowKit
set_option linter.unusedVariables false
set_option linter.unusedSimpArgs false
set_option maxRecDepth 100000
theorem start12_any (w : World) :
    Calls Tryd.prog 12 #[] w fun e w' => e = .returned (.agg #[.slice (some ⟨w.heap.size + 1, 0, none⟩) 1 1, .slice (some ⟨w.heap.size + 2, 0, none⟩) 1 1, .slice (some ⟨w.heap.size + 3, 0, none⟩) 1 1]) ∧ Below w.heap.size w w' ∧ w'.heap.size = w.heap.size + 4 ∧ w'.heap[w.heap.size + 1]? = some (.cells #[trueS] 9 (0, 0)) ∧ w'.heap[w.heap.size + 2]? = some (.cells #[.int .i64 0] 3 (0, 0)) ∧ w'.heap[w.heap.size + 3]? = some (.cells #[.bool true] 4 (0, 0)) := by
  go_enter Tryd.func12, Tryd.ntmps12
  go_wp2
  obtain ⟨f0, f1, f2, f3, f4, f5⟩ := four w (.cells #[.slice (some ⟨w.heap.size + 1, 0, none⟩) 1 1, .slice (some ⟨w.heap.size + 1 + 1, 0, none⟩) 1 1, .slice (some ⟨w.heap.size + 1 + 1 + 1, 0, none⟩) 1 1] 32) (.cells #[trueS] 9) (.cells #[.int .i64 0] 3) (.cells #[.bool true] 4)
  refine bodyPost_ret (results_cell_row (cs := #[.slice (some ⟨w.heap.size + 1, 0, none⟩) 1 1, .slice (some ⟨w.heap.size + 1 + 1, 0, none⟩) 1 1, .slice (some ⟨w.heap.size + 1 + 1 + 1, 0, none⟩) 1 1]) (g := w.heap.size) (t := 32) (fr := (0, 0)) rfl _ _ (d := _) rfl f2 rfl rfl rfl) rfl ?_
  exact ⟨rfl, f0, f1, f3, f4, f5⟩
noncomputable abbrev rdI (L : List By) : AS := [(450001, .obj), (35500100, .val (.lst (L.map sv))), (35500101, .val (.i 0)), (35500102, .val (.b false)), (35500103, .sl 300001 0 1 1), (35500104, .sl 300002 0 1 1), (35500105, .sl 300003 0 1 1), (35500106, ⟨0, .lst [], 1, 0, []⟩), (300001, .mrow 9 1 [sv [36, 116, 114, 117, 101]]), (300002, .mrow 3 1 [.i 0]), (300003, .mrow 4 1 [.b true])]
theorem look_r0 {L : List By} {k : Nat} {av : AV} (h : look (rdI L) k = some av) : (k = 450001 ∧ av = .obj) ∨ (k = 35500100 ∧ av = .val (.lst (L.map sv))) ∨ (k = 35500101 ∧ av = .val (.i 0)) ∨ (k = 35500102 ∧ av = .val (.b false)) ∨ (k = 35500103 ∧ av = .sl 300001 0 1 1) ∨ (k = 35500104 ∧ av = .sl 300002 0 1 1) ∨ (k = 35500105 ∧ av = .sl 300003 0 1 1) ∨ (k = 35500106 ∧ av = ⟨0, .lst [], 1, 0, []⟩) ∨ (k = 300001 ∧ av = .mrow 9 1 [sv [36, 116, 114, 117, 101]]) ∨ (k = 300002 ∧ av = .mrow 3 1 [.i 0]) ∨ (k = 300003 ∧ av = .mrow 4 1 [.b true]) := by
  rw [look_cons] at h
  split at h
  · rename_i e; cases h; exact (.inl ⟨e.symm, rfl⟩)
  rw [look_cons] at h
  split at h
  · rename_i e; cases h; exact (.inr (.inl ⟨e.symm, rfl⟩))
  rw [look_cons] at h
  split at h
  · rename_i e; cases h; exact (.inr (.inr (.inl ⟨e.symm, rfl⟩)))
  rw [look_cons] at h
  split at h
  · rename_i e; cases h; exact (.inr (.inr (.inr (.inl ⟨e.symm, rfl⟩))))
  rw [look_cons] at h
  split at h
  · rename_i e; cases h; exact (.inr (.inr (.inr (.inr (.inl ⟨e.symm, rfl⟩)))))
  rw [look_cons] at h
  split at h
  · rename_i e; cases h; exact (.inr (.inr (.inr (.inr (.inr (.inl ⟨e.symm, rfl⟩))))))
  rw [look_cons] at h
  split at h
  · rename_i e; cases h; exact (.inr (.inr (.inr (.inr (.inr (.inr (.inl ⟨e.symm, rfl⟩)))))))
  rw [look_cons] at h
  split at h
  · rename_i e; cases h; exact (.inr (.inr (.inr (.inr (.inr (.inr (.inr (.inl ⟨e.symm, rfl⟩))))))))
  rw [look_cons] at h
  split at h
  · rename_i e; cases h; exact (.inr (.inr (.inr (.inr (.inr (.inr (.inr (.inr (.inl ⟨e.symm, rfl⟩)))))))))
  rw [look_cons] at h
  split at h
  · rename_i e; cases h; exact (.inr (.inr (.inr (.inr (.inr (.inr (.inr (.inr (.inr (.inl ⟨e.symm, rfl⟩))))))))))
  rw [look_cons] at h
  split at h
  · rename_i e; cases h; exact (.inr (.inr (.inr (.inr (.inr (.inr (.inr (.inr (.inr (.inr ⟨e.symm, rfl⟩))))))))))
  cases h
theorem rd_sim {w w' : World} {V : UX} (hV : ∀ k v, V.f k = some v → False) {g1 g2 g3 g5 : Nat} {ty : TypeId} {L : List By} {vL : Value} (hvL : VRep (Us w V (fun _ _ => False)) w' (.lst (L.map sv)) vL) (hB : Below w.heap.size w w') (h0 : w.heap.size ≤ g1) (h12 : g1 < g2) (h23 : g2 < g3) (h35 : g3 < g5) (hlt : g5 < w'.heap.size)
    (e1 : w'.heap[g1]? = some (.cells #[trueS] 9 (0, 0))) (e2 : w'.heap[g2]? = some (.cells #[.int .i64 0] 3 (0, 0))) (e3 : w'.heap[g3]? = some (.cells #[.bool true] 4 (0, 0)))
    (e5 : w'.heap[g5]? = some (.cells #[vL, .int .i64 0, .bool false, .slice (some ⟨g1, 0, none⟩) 1 1, .slice (some ⟨g2, 0, none⟩) 1 1, .slice (some ⟨g3, 0, none⟩) 1 1, .slice none 0 0] ty (0, 0))) :
    ∃ hv', SimG w V 0 (rdI L) ⟨#[], []⟩ w' (fun _ _ => False) hv' ∧ hv' 450001 = .pointer (some ⟨g5, 0, none⟩) := by
  have hcell : ∀ i, i < 7 → w'.cell? ⟨g5, i, none⟩ = (#[vL, .int .i64 0, .bool false, .slice (some ⟨g1, 0, none⟩) 1 1, .slice (some ⟨g2, 0, none⟩) 1 1, .slice (some ⟨g3, 0, none⟩) 1 1, .slice none 0 0] : Array Value)[i]? := fun i hi => by
    simp only [World.cell?, e5]
    simp
  obtain ⟨hv', hhv⟩ : ∃ hv' : Nat → Value, hv' = fun k => if k = 450001 then .pointer (some ⟨g5, 0, none⟩) else if k = 300001 then .slice (some ⟨g1, 0, none⟩) 1 1 else if k = 300002 then .slice (some ⟨g2, 0, none⟩) 1 1 else .slice (some ⟨g3, 0, none⟩) 1 1 := ⟨_, rfl⟩
  have hv5 : hv' 450001 = .pointer (some ⟨g5, 0, none⟩) := by rw [hhv]; simp
  have hv1 : hv' 300001 = .slice (some ⟨g1, 0, none⟩) 1 1 := by rw [hhv]; simp
  have hv2 : hv' 300002 = .slice (some ⟨g2, 0, none⟩) 1 1 := by rw [hhv]; simp
  have hv3 : hv' 300003 = .slice (some ⟨g3, 0, none⟩) 1 1 := by rw [hhv]; simp
  have hvs : vL.cells.size = 1 ∧ vL.cells[0]? = some vL := by
    obtain ⟨ao, m, c, rfl, _⟩ := vrep_lst.1 hvL
    exact ⟨rfl, rfl⟩
  refine ⟨hv', ⟨⟨hB.os, hB.tape, hB.output, hB.size, fun k hk _ => hB.block k hk⟩, rfl, rfl, fun d av k1 k2 => ?_, fun m o av k1 k2 k3 k4 => ?_, fun m o o' av av' k1 k2 k3 k4 k5 => ?_, fun k av k1 k2 => ?_, fun k av g k1 k2 k3 k4 => ?_, fun k k' av av' g k1 k2 k3 k4 k5 k6 k7 k8 => ?_, fun k v hk => (hV k v hk).elim, fun b o hd => hd.elim⟩, hv5⟩
  · rcases look_r0 k1 with ⟨e, _⟩ | ⟨e, _⟩ | ⟨e, _⟩ | ⟨e, _⟩ | ⟨e, _⟩ | ⟨e, _⟩ | ⟨e, _⟩ | ⟨e, _⟩ | ⟨e, _⟩ | ⟨e, _⟩ | ⟨e, _⟩ <;> omega
  · have hm : m = 350001 := by
      unfold BN at k4
      rcases look_r0 k3 with ⟨e, e2⟩ | ⟨e, e2⟩ | ⟨e, e2⟩ | ⟨e, e2⟩ | ⟨e, e2⟩ | ⟨e, e2⟩ | ⟨e, e2⟩ | ⟨e, e2⟩ | ⟨e, e2⟩ | ⟨e, e2⟩ | ⟨e, e2⟩
      · omega
      all_goals cases e2
    subst hm
    have hbk : blkOf (hv' (100000 + 350001)) = g5 := by rw [show 100000 + 350001 = 450001 from rfl, hv5]; rfl
    rw [hbk]
    rcases look_r0 k1 with ⟨e, _⟩ | ⟨e, rfl⟩ | ⟨e, rfl⟩ | ⟨e, rfl⟩ | ⟨e, rfl⟩ | ⟨e, rfl⟩ | ⟨e, rfl⟩ | ⟨e, rfl⟩ | ⟨e, _⟩ | ⟨e, _⟩ | ⟨e, _⟩
    · unfold fKey at e; omega
    · have ho : o = 0 := by unfold fKey at e; omega
      subst ho
      refine ⟨vL, avrep_val hvL, hvs.1, fun i hi => ?_⟩
      have hi : i < 1 := by rw [hvs.1] at hi; exact hi
      obtain rfl : i = 0 := by omega
      rw [hcell _ (by omega), hvs.2]; rfl
    · have ho : o = 1 := by unfold fKey at e; omega
      subst ho
      refine ⟨.int .i64 0, avrep_sc rfl, rfl, fun i hi => ?_⟩
      have hi : i < 1 := hi
      obtain rfl : i = 0 := by omega
      rw [hcell _ (by omega)]; rfl
    · have ho : o = 2 := by unfold fKey at e; omega
      subst ho
      refine ⟨.bool false, avrep_sc rfl, rfl, fun i hi => ?_⟩
      have hi : i < 1 := hi
      obtain rfl : i = 0 := by omega
      rw [hcell _ (by omega)]; rfl
    · have ho : o = 3 := by unfold fKey at e; omega
      subst ho
      refine ⟨.slice (some ⟨g1, 0, none⟩) 1 1, ⟨⟨by decide, by decide⟩, ?_⟩, rfl, fun i hi => ?_⟩
      · show SlV (hv' 300001) 0 1 1 _
        rw [hv1]; exact slV_all rfl (Nat.le_refl _) (.inr ⟨_, rfl⟩)
      · have hi : i < 1 := hi
        obtain rfl : i = 0 := by omega
        rw [hcell _ (by omega)]; rfl
    · have ho : o = 4 := by unfold fKey at e; omega
      subst ho
      refine ⟨.slice (some ⟨g2, 0, none⟩) 1 1, ⟨⟨by decide, by decide⟩, ?_⟩, rfl, fun i hi => ?_⟩
      · show SlV (hv' 300002) 0 1 1 _
        rw [hv2]; exact slV_all rfl (Nat.le_refl _) (.inr ⟨_, rfl⟩)
      · have hi : i < 1 := hi
        obtain rfl : i = 0 := by omega
        rw [hcell _ (by omega)]; rfl
    · have ho : o = 5 := by unfold fKey at e; omega
      subst ho
      refine ⟨.slice (some ⟨g3, 0, none⟩) 1 1, ⟨⟨by decide, by decide⟩, ?_⟩, rfl, fun i hi => ?_⟩
      · show SlV (hv' 300003) 0 1 1 _
        rw [hv3]; exact slV_all rfl (Nat.le_refl _) (.inr ⟨_, rfl⟩)
      · have hi : i < 1 := hi
        obtain rfl : i = 0 := by omega
        rw [hcell _ (by omega)]; rfl
    · have ho : o = 6 := by unfold fKey at e; omega
      subst ho
      refine ⟨.slice none 0 0, ⟨?_, fun _ => ⟨0, _, at_nil _, rfl⟩⟩, rfl, fun i hi => ?_⟩
      · exact vrep_lst.2 ⟨none, 0, 0, rfl, rfl, Nat.le_refl _, by unfold maxLen; omega, fun _ => ⟨rfl, rfl⟩, [], .inl rfl, rfl⟩
      · have hi : i < 1 := hi
        obtain rfl : i = 0 := by omega
        rw [hcell _ (by omega)]; rfl
    all_goals (unfold fKey at e; omega)
  · rcases look_r0 k1 with ⟨e, _⟩ | ⟨e, rfl⟩ | ⟨e, rfl⟩ | ⟨e, rfl⟩ | ⟨e, rfl⟩ | ⟨e, rfl⟩ | ⟨e, rfl⟩ | ⟨e, rfl⟩ | ⟨e, _⟩ | ⟨e, _⟩ | ⟨e, _⟩
    · unfold fKey at e; omega
    · show o + 1 ≤ o'; omega
    · show o + 1 ≤ o'; omega
    · show o + 1 ≤ o'; omega
    · show o + 1 ≤ o'; omega
    · show o + 1 ≤ o'; omega
    · show o + 1 ≤ o'; omega
    · show o + 1 ≤ o'; omega
    all_goals (unfold fKey at e; omega)
  · unfold oKey at k2
    rcases look_r0 k1 with ⟨rfl, rfl⟩ | ⟨e, _⟩ | ⟨e, _⟩ | ⟨e, _⟩ | ⟨e, _⟩ | ⟨e, _⟩ | ⟨e, _⟩ | ⟨e, _⟩ | ⟨rfl, rfl⟩ | ⟨rfl, rfl⟩ | ⟨rfl, rfl⟩
    · exact ⟨_, _, _, hv5, e5⟩
    · omega
    · omega
    · omega
    · omega
    · omega
    · omega
    · omega
    · rw [hv1]
      exact ⟨[trueS], ⟨rfl, .inr ⟨_, 1, #[trueS], rfl, Nat.zero_le _, e1, Nat.le_refl _, by decide, rfl, rfl⟩⟩, by decide, (fun c hc => by rw [List.mem_singleton.1 hc]; rfl), ⟨[trueS], [], rfl, rep_sc.2 ⟨rfl, rfl⟩, rfl⟩⟩
    · rw [hv2]
      exact ⟨[.int .i64 0], ⟨rfl, .inr ⟨_, 1, #[.int .i64 0], rfl, Nat.zero_le _, e2, Nat.le_refl _, by decide, rfl, rfl⟩⟩, by decide, (fun c hc => by rw [List.mem_singleton.1 hc]; rfl), ⟨[.int .i64 0], [], rfl, rep_sc.2 ⟨rfl, rfl⟩, rfl⟩⟩
    · rw [hv3]
      exact ⟨[.bool true], ⟨rfl, .inr ⟨_, 1, #[.bool true], rfl, Nat.zero_le _, e3, Nat.le_refl _, by decide, rfl, rfl⟩⟩, by decide, (fun c hc => by rw [List.mem_singleton.1 hc]; rfl), ⟨[.bool true], [], rfl, rep_sc.2 ⟨rfl, rfl⟩, rfl⟩⟩
  · unfold oKey at k2
    have hk : ∃ j, hb (hv' k) = some j ∧ w.heap.size ≤ j ∧ j < w'.heap.size := by
      rcases look_r0 k1 with ⟨rfl, rfl⟩ | ⟨e, _⟩ | ⟨e, _⟩ | ⟨e, _⟩ | ⟨e, _⟩ | ⟨e, _⟩ | ⟨e, _⟩ | ⟨e, _⟩ | ⟨rfl, rfl⟩ | ⟨rfl, rfl⟩ | ⟨rfl, rfl⟩
      · exact ⟨g5, by rw [hv5]; rfl, by omega, by omega⟩
      · omega
      · omega
      · omega
      · omega
      · omega
      · omega
      · omega
      · exact ⟨g1, by rw [hv1]; rfl, by omega, by omega⟩
      · exact ⟨g2, by rw [hv2]; rfl, by omega, by omega⟩
      · exact ⟨g3, by rw [hv3]; rfl, by omega, by omega⟩
    obtain ⟨j, f1, f2, f3⟩ := hk
    rw [f1] at k4
    cases k4
    exact ⟨.inl f2, f3, fun o _ h => h⟩
  · unfold oKey at k3 k4
    have hk : ∀ {k av}, look (rdI L) k = some av → 100000 ≤ k ∧ k < 500000 → (k = 450001 ∧ hb (hv' k) = some g5) ∨ (k = 300001 ∧ hb (hv' k) = some g1) ∨ (k = 300002 ∧ hb (hv' k) = some g2) ∨ (k = 300003 ∧ hb (hv' k) = some g3) := fun {k av} f1 f2 => by
      rcases look_r0 f1 with ⟨rfl, rfl⟩ | ⟨e, _⟩ | ⟨e, _⟩ | ⟨e, _⟩ | ⟨e, _⟩ | ⟨e, _⟩ | ⟨e, _⟩ | ⟨e, _⟩ | ⟨rfl, rfl⟩ | ⟨rfl, rfl⟩ | ⟨rfl, rfl⟩
      · exact .inl ⟨rfl, by rw [hv5]; rfl⟩
      · omega
      · omega
      · omega
      · omega
      · omega
      · omega
      · omega
      · exact .inr (.inl ⟨rfl, by rw [hv1]; rfl⟩)
      · exact .inr (.inr (.inl ⟨rfl, by rw [hv2]; rfl⟩))
      · exact .inr (.inr (.inr ⟨rfl, by rw [hv3]; rfl⟩))
    intro h9
    rcases hk k1 k3 with ⟨a1, a2⟩ | ⟨a1, a2⟩ | ⟨a1, a2⟩ | ⟨a1, a2⟩ <;> rcases hk k2 k4 with ⟨b1, b2⟩ | ⟨b1, b2⟩ | ⟨b1, b2⟩ | ⟨b1, b2⟩
    all_goals
      rw [a2] at k8
      rw [b2] at h9
      cases k8
      injection h9 with h9
      omega
theorem awp_reader {w0 : World} {U0 : UX} {nt : Nat} {s : AS} {id : Nat} {o0 o1 o2 o3 o4 : Oper} {Q : Exit → AS → Prop} {L : List By} {n5 q5 p5} (g0 : o0.guard = none) (g1 : o1.guard = none) (g2 : o2.guard = none) (g3 : o3.guard = none) (g4 : o4.guard = none) (d0 : o0.dst = some 22) (d1 : o1.dst = some 23) (d2 : o2.dst = some 24) (d3 : o3.dst = some 25) (d4 : o4.dst = some 7)
    (c0 : o0.op = .move (.tmp 5)) (c1 : o1.op = .call { callee := .value (.func 12), args := #[], argTypes := #[] }) (c2 : o2.op = .build 60 #[(0, .tmp 22), (3, .tmp 23)]) (c3 : o3.op = .box 60 (.tmp 24)) (c4 : o4.op = .assign (.tmp 25)) (h5 : look s 5 = some ⟨0, .lst (L.map sv), n5, q5, p5⟩)
    (hnt : 25 < nt) (hN : noRefB s (newN [] (kO (rdI L)) (kO (rdI L))) = true) (hnb : ∀ k v, U0.f k = some v → hasN (kO (rdI L)) k = true → False) (h : Q .normal ((7, .bp 350001 0 []) :: (25, ⟨99, .i 0, 0, 0, []⟩) :: (24, ⟨99, .i 0, 0, 0, []⟩) :: (23, ⟨99, .i 0, 0, 0, []⟩) :: (22, ⟨99, .i 0, 0, 0, []⟩) :: (rdI L ++ s))) : AWp Tryd.prog w0 U0 nt (.region id [o0, o1, o2, o3, o4].toArray false) Q s := by
  rintro M a w ⟨D, hv, hS⟩
  refine wpIn_region_lit ?_
  obtain ⟨V, x1, x2, x3, x4, x5, x6⟩ := hS.lend (pre := []) (fun k av hk => by cases hk) rfl
  have hsz := hS.size
  obtain ⟨vL, y1, y2⟩ := hS.slot 5 _ h5 (by omega)
  have y2 : VRep (Us w0 U0 D) w (.lst (L.map sv)) vL := y2.1
  have y3 : VRep (Us w V (fun _ _ => False)) w (.lst (L.map sv)) vL := y2.keep x6
  have t5 : a.eval (.tmp 5) = vL := by simp [Act.eval, Array.getD_eq_getD_getElem?, y1]
  have m0 : (execOp a.eval o0).run Tryd.prog w = .ok (.value vL) w := by
    generalize a.eval = ρ at t5 ⊢
    simp [execOp, c0, t5]
  refine list_value g0 d0 hS.dfr m0 ?_
  obtain ⟨a1, ha1⟩ : ∃ a1, a1 = a.put (some 22) vL := ⟨_, rfl⟩
  have t22 : a1.eval (.tmp 22) = vL := by rw [ha1, eval_put (by omega)]
  have s1 : a1.tmps.size = nt := by rw [ha1, put_size, hsz]
  rw [← ha1]
  refine list_call (R := fun v w' => v = .agg #[.slice (some ⟨w.heap.size + 1, 0, none⟩) 1 1, .slice (some ⟨w.heap.size + 2, 0, none⟩) 1 1, .slice (some ⟨w.heap.size + 3, 0, none⟩) 1 1] ∧ Below w.heap.size w w' ∧ w'.heap.size = w.heap.size + 4 ∧ w'.heap[w.heap.size + 1]? = some (.cells #[trueS] 9 (0, 0)) ∧ w'.heap[w.heap.size + 2]? = some (.cells #[.int .i64 0] 3 (0, 0)) ∧ w'.heap[w.heap.size + 3]? = some (.cells #[.bool true] 4 (0, 0))) g1 d1 (ent_of Tryd.func12 rfl rfl) c1 (by rw [show Array.map a1.eval #[] = #[] from by simp]; exact (start12_any w).mono fun e w' he => ⟨_, he.1, rfl, he.2⟩) ?_
  rintro v w1 ⟨rfl, hB, hz, e1, e2, e3⟩
  obtain ⟨a2, ha2⟩ : ∃ a2, a2 = a1.put (some 23) (.agg #[.slice (some ⟨w.heap.size + 1, 0, none⟩) 1 1, .slice (some ⟨w.heap.size + 2, 0, none⟩) 1 1, .slice (some ⟨w.heap.size + 3, 0, none⟩) 1 1]) := ⟨_, rfl⟩
  have t23 : a2.eval (.tmp 23) = .agg #[.slice (some ⟨w.heap.size + 1, 0, none⟩) 1 1, .slice (some ⟨w.heap.size + 2, 0, none⟩) 1 1, .slice (some ⟨w.heap.size + 3, 0, none⟩) 1 1] := by rw [ha2, eval_put (by omega)]
  have t22' : a2.eval (.tmp 22) = vL := by rw [ha2, eval_put_ne (by decide)]; exact t22
  have s2 : a2.tmps.size = nt := by rw [ha2, put_size, s1]
  rw [← ha2]
  have m2 : (execOp a2.eval o2).run Tryd.prog w1 = .ok (.value (.agg #[vL, .int .i64 0, .bool false, .slice (some ⟨w.heap.size + 1, 0, none⟩) 1 1, .slice (some ⟨w.heap.size + 2, 0, none⟩) 1 1, .slice (some ⟨w.heap.size + 3, 0, none⟩) 1 1, .slice none 0 0])) w1 := by
    obtain ⟨ao, mm, cc, hvl, _⟩ := vrep_lst.1 y3
    have := run_build (P := Tryd.prog) w1 60 #[(0, a2.eval (.tmp 22)), (3, a2.eval (.tmp 23))] #[vL, .int .i64 0, .bool false, .slice (some ⟨w.heap.size + 1, 0, none⟩) 1 1, .slice (some ⟨w.heap.size + 2, 0, none⟩) 1 1, .slice (some ⟨w.heap.size + 3, 0, none⟩) 1 1, .slice none 0 0] (by rw [t22', t23, hvl]; rfl)
    generalize a2.eval = ρ at this ⊢
    simp [execOp, c2, this]
  refine list_value g2 d2 (by rw [ha2, ha1]; exact hS.dfr) m2 ?_
  obtain ⟨a3, ha3⟩ : ∃ a3, a3 = a2.put (some 24) (.agg #[vL, .int .i64 0, .bool false, .slice (some ⟨w.heap.size + 1, 0, none⟩) 1 1, .slice (some ⟨w.heap.size + 2, 0, none⟩) 1 1, .slice (some ⟨w.heap.size + 3, 0, none⟩) 1 1, .slice none 0 0]) := ⟨_, rfl⟩
  have t24 : a3.eval (.tmp 24) = .agg #[vL, .int .i64 0, .bool false, .slice (some ⟨w.heap.size + 1, 0, none⟩) 1 1, .slice (some ⟨w.heap.size + 2, 0, none⟩) 1 1, .slice (some ⟨w.heap.size + 3, 0, none⟩) 1 1, .slice none 0 0] := by rw [ha3, eval_put (by omega)]
  have s3 : a3.tmps.size = nt := by rw [ha3, put_size, s2]
  rw [← ha3]
  have m3 : (execOp a3.eval o3).run Tryd.prog w1 = .ok (.value (.pointer (some ⟨w.heap.size + 4, 0, none⟩))) (w1.alloc (.cells #[vL, .int .i64 0, .bool false, .slice (some ⟨w.heap.size + 1, 0, none⟩) 1 1, .slice (some ⟨w.heap.size + 2, 0, none⟩) 1 1, .slice (some ⟨w.heap.size + 3, 0, none⟩) 1 1, .slice none 0 0] 60)) := by
    generalize a3.eval = ρ at t24 ⊢
    simp [execOp, c3, Instr.box, run_newVar, t24, hz, Value.cells]
  refine list_value g3 d3 (by rw [ha3, ha2, ha1]; exact hS.dfr) m3 ?_
  obtain ⟨w3, hw3⟩ : ∃ w3, w3 = w1.alloc (.cells #[vL, .int .i64 0, .bool false, .slice (some ⟨w.heap.size + 1, 0, none⟩) 1 1, .slice (some ⟨w.heap.size + 2, 0, none⟩) 1 1, .slice (some ⟨w.heap.size + 3, 0, none⟩) 1 1, .slice none 0 0] 60) := ⟨_, rfl⟩
  rw [← hw3]
  have m4 : (execOp (a3.put (some 25) (.pointer (some ⟨w.heap.size + 4, 0, none⟩))).eval o4).run Tryd.prog w3 = .ok (.value (.pointer (some ⟨w.heap.size + 4, 0, none⟩))) w3 := by
    have := eval_put (a := a3) (d := 25) (v := .pointer (some ⟨w.heap.size + 4, 0, none⟩)) (by omega)
    generalize (a3.put _ _).eval = ρ at this ⊢
    simp [execOp, c4, this]
  refine list_value g4 d4 (by rw [ha3, ha2, ha1]; exact hS.dfr) m4 ?_
  have z3 : w3.heap.size = w.heap.size + 5 := by rw [hw3]; simp [hz]
  have b3 : Below w.heap.size w w3 := by rw [hw3]; exact hB.alloc (by omega) _
  have q5' : w3.heap[w.heap.size + 4]? = some (.cells #[vL, .int .i64 0, .bool false, .slice (some ⟨w.heap.size + 1, 0, none⟩) 1 1, .slice (some ⟨w.heap.size + 2, 0, none⟩) 1 1, .slice (some ⟨w.heap.size + 3, 0, none⟩) 1 1, .slice none 0 0] 60 (0, 0)) := by rw [hw3, ← hz]; exact alloc_new _ _
  have qq : ∀ k, k < w.heap.size + 4 → w3.heap[k]? = w1.heap[k]? := fun k hk => by rw [hw3, Below.heap_alloc _ _ _ (by omega)]
  have y4 : VRep (Us w V (fun _ _ => False)) w3 (.lst (L.map sv)) vL := y3.keep fun b o v hu hc => ⟨hu, by rw [World.cell?_of_block (w := w) (b3.block b (World.block_lt_of_cell? w _ hc))]; exact hc⟩
  obtain ⟨hv', n1, n2⟩ := rd_sim (V := V) (fun k v hk => by have := x1 k v hk; cases this) y4 b3 (g1 := w.heap.size + 1) (g2 := w.heap.size + 2) (g3 := w.heap.size + 3) (g5 := w.heap.size + 4) (by omega) (by omega) (by omega) (by omega) (by omega) (by rw [qq _ (by omega)]; exact e1) (by rw [qq _ (by omega)]; exact e2) (by rw [qq _ (by omega)]; exact e3) q5'
  obtain ⟨D2, hv2, h8, h9, _⟩ := hS.back (pre := []) (post := rdI L) (fun k av hk => by cases hk) rfl (by kernel_rfl) rfl (noRefB_spec hN) (fun k v h1 h2 => (hnb k v h1 h2).elim) x3 x4 x5 x2 n1
  have hp : AVRep (Us w0 U0 D2) w3 hv2 (LiveN (rdI L ++ s)) (.bp 350001 0 []) (.pointer (some ⟨w.heap.size + 4, 0, none⟩)) := h9 _ _ rfl (by
    refine ⟨.inr ⟨by decide, by decide⟩, ?_⟩
    show _ = Value.pointer (some ⟨blkOf (hv' (100000 + 350001)), 0, none⟩)
    rw [show 100000 + 350001 = 450001 from rfl, n2]; rfl)
  have hj : ∀ {hv : Nat → Value} {lv : Nat → Prop} {U : Nat → Nat → Prop} {w : World} (v : Value), AVRep U w hv lv ⟨99, .i 0, 0, 0, []⟩ v := fun v => by
    unfold AVRep
    simp
  have r1 := h8.put (d := 22) (by omega) (by omega) (hj vL)
  rw [← ha1] at r1
  have r2 := r1.put (d := 23) (by omega) (by omega) (hj (.agg #[.slice (some ⟨w.heap.size + 1, 0, none⟩) 1 1, .slice (some ⟨w.heap.size + 2, 0, none⟩) 1 1, .slice (some ⟨w.heap.size + 3, 0, none⟩) 1 1]))
  rw [← ha2] at r2
  have r3 := r2.put (d := 24) (by omega) (by omega) (hj (.agg #[vL, .int .i64 0, .bool false, .slice (some ⟨w.heap.size + 1, 0, none⟩) 1 1, .slice (some ⟨w.heap.size + 2, 0, none⟩) 1 1, .slice (some ⟨w.heap.size + 3, 0, none⟩) 1 1, .slice none 0 0]))
  rw [← ha3] at r3
  have r4 := r3.put (d := 25) (by omega) (by omega) (hj (.pointer (some ⟨w.heap.size + 4, 0, none⟩)))
  have r5 := r4.put (d := 7) (av := .bp 350001 0 []) (v := .pointer (some ⟨w.heap.size + 4, 0, none⟩)) (by omega) (by omega) (hp.move (fun _ _ _ h1 h2 => ⟨h1, h2⟩) (fun e => by cases e) (fun _ => rfl))
  exact ⟨_, rfl, _, h, _, _, r5⟩
end Go.Proofs.YtglbohajmccehaaDoor
namespace Go.Proofs.YtglbohajmccehaaDoor
open Go.RowKit
set_option linter.unusedVariables false
set_option linter.unusedSimpArgs false
set_option maxRecDepth 10000
def TokOk (B : Nat) (x : By) : Prop := x.length ≤ B ∧ (isNmL x = true → x.all inB = true)
def Ph.nice (B : Nat) : Ph → Prop
  | ⟨n, ps⟩ => (isNmL n = true ∧ n.all inB = true ∧ n.length ≤ B ∧ (isGrL n = true → ps = [])) ∧ ∀ q ∈ ps, q.nice B
structure Se.nice (B : Nat) (s : Se) : Prop where
  a : s.a.nice B ∧ s.a.dp ≤ 32
  atom : s.atom = true → isSmL s.a.name = true ∧ s.b = Ph.z
  b : s.atom = false → s.b.nice B ∧ s.b.dp ≤ 32
end Go.Proofs.YtglbohajmccehaaDoor
namespace Go.Proofs.YtglbohajmccehaaDoor
open Go.RowKit
set_option linter.unusedVariables false
set_option linter.unusedSimpArgs false
set_option maxRecDepth 100000
theorem toks_facts : ∀ (n : Nat) (s : By), s.length ≤ n → (toks s).length ≤ s.length ∧ ∀ x ∈ toks s, x ≠ [] := by
  intro n
  induction n with
  | zero =>
    intro s h
    have : s = [] := List.eq_nil_of_length_eq_zero (by omega)
    subst this
    rw [toks_nil]
    exact ⟨Nat.le_refl _, fun x hx => by cases hx⟩
  | succ n ih =>
    intro s h
    rw [toks_eq]
    split
    · exact ⟨Nat.zero_le _, fun x hx => by cases hx⟩
    · rename_i hne
      have hlt := mvT_rs hne
      obtain ⟨h1, h2⟩ := ih (mvT s).rs (by omega)
      refine ⟨by rw [List.length_cons]; omega, fun x hx => ?_⟩
      rcases List.mem_cons.1 hx with rfl | hx
      · exact hne
      · exact h2 x hx
theorem hd_none {T : List By} (hT : ∀ x ∈ T, x ≠ []) {a : Nat} (ha : a ≤ T.length) : hd (T.drop a) = [] ↔ T.drop a = [] := by
  cases h : T.drop a with
  | nil => exact ⟨fun _ => rfl, fun _ => rfl⟩
  | cons x t =>
    refine ⟨fun e => ?_, fun e => by cases e⟩
    have hm : x ∈ T := List.mem_of_mem_drop (by rw [h]; exact List.mem_cons_self)
    exact absurd e (hT x hm)
theorem rdFL_ac2 {n : Nat} : ∀ {m : Nat} {t : List By} {acc : List (List Se)} {r : List (List Se) × Bool}, rdFL n m t acc = some r → r.2 = true → ∃ tail, r.1 = acc ++ tail
  | 0, t, acc, r, h, _ => by unfold rdFL at h; cases h
  | m + 1, t, acc, r, h, hok => by
    unfold rdFL at h
    split at h
    · cases h; exact ⟨[], by simp⟩
    · cases hc : rdCL n t with
      | none => rw [hc] at h; cases h
      | some q =>
        rw [hc] at h
        simp only at h
        split at h
        · split at h
          · obtain ⟨tail, ht⟩ := rdFL_ac2 h hok
            exact ⟨q.1 :: tail, by rw [ht]; simp⟩
          · cases h; cases hok
        · cases h; cases hok
theorem rdFL_step {n m : Nat} {t : List By} {acc : List (List Se)} {r : List (List Se) × Bool} (h : rdFL n m t acc = some r) (ht : t ≠ []) : ∃ m' q, m = m' + 1 ∧ rdCL n t = some q ∧ ((q.2.1 = false ∧ r.2 = false) ∨ (q.2.1 = true ∧ (takeL q.2.2 [46]).1 = false ∧ r.2 = false) ∨ (q.2.1 = true ∧ (takeL q.2.2 [46]).1 = true ∧ rdFL n m' (takeL q.2.2 [46]).2 (acc ++ [q.1]) = some r)) := by
  cases m with
  | zero => unfold rdFL at h; cases h
  | succ m =>
    unfold rdFL at h
    rw [if_neg ht] at h
    cases hc : rdCL n t with
    | none => rw [hc] at h; cases h
    | some q =>
      rw [hc] at h
      simp only at h
      refine ⟨m, q, rfl, rfl, ?_⟩
      cases hq : q.2.1 with
      | false => rw [hq, if_neg (by decide)] at h; cases h; exact .inl ⟨rfl, rfl⟩
      | true =>
        rw [hq, if_pos rfl] at h
        cases hk : (takeL q.2.2 [46]).1 with
        | false => rw [hk, if_neg (by decide)] at h; cases h; exact .inr (.inl ⟨rfl, rfl, rfl⟩)
        | true => rw [hk, if_pos rfl] at h; exact .inr (.inr ⟨rfl, rfl, h⟩)
theorem rdFL_nil {n m : Nat} {acc : List (List Se)} {r : List (List Se) × Bool} (h : rdFL n m [] acc = some r) : r = (acc, true) := by
  cases m with
  | zero => unfold rdFL at h; cases h
  | succ m => unfold rdFL at h; rw [if_pos rfl] at h; cases h; rfl
theorem Rel.start : Rel ⟨false, sg0, []⟩ nm0 := by
  refine ⟨rfl, rfl, fun i p h => by simp [nm0] at h, rfl, rfl, rfl, fun i j x hi hj => ?_, fun k i hi => ?_, fun k h => ?_, by show 1 ≤ 201; omega⟩
  · have key : ∀ i : Nat, ([[36, 116, 114, 117, 101]] : List By)[i]? = some x → i = 0 := fun i h => by
      cases i with
      | zero => rfl
      | succ i => simp at h
    rw [key i hi, key j hj]
  · constructor
    · intro h; cases h
    · rintro ⟨h, _⟩
      cases i with
      | zero => omega
      | succ i =>
        have h : ([[36, 116, 114, 117, 101]] : List By)[i + 1]? = some k.1 := h
        simp at h
  · cases h
theorem Rel.again {s : Rs} {st : Nm} (h : Rel s st) : Rel ⟨s.bad, s.g, []⟩ ⟨st.sg, st.sy, []⟩ :=
  ⟨h.g, rfl, fun i p h => by simp at h, h.la, h.lp, h.top, h.nd, h.sy, h.s0, h.few⟩
theorem litsF_cons {n : Nat} {st : Nm} {se : Se} {tail : List Se} {acc : List Lt} {r : Lt × Bool × Nm} (h : litF n st se = some r) : litsF n st (se :: tail) acc = if r.2.1 then litsF n r.2.2 tail (acc ++ [r.1]) else some ([], false, r.2.2) := by
  conv => lhs; unfold litsF
  rw [h]
theorem prF_fail {n : Nat} {src : By} {r : Sg × List (List Lt) × Int} {RR : List (List Se) × Bool} (hl : ¬ 32768 < src.length) (hR : rdFL n n (toks src) [] = some RR) (h : prF n src = some r) (hbad : RR.2 = true → RR.1.length ≤ 64 → ∀ q, mnF n nm0 RR.1 [] = some q → q.2.2 = false) : r = (⟨[], [], []⟩, [], 7) := by
  unfold prF at h
  rw [if_neg hl, rdAll_tl, hR] at h
  simp only at h
  by_cases hc : (RR.2 && decide (RR.1.length ≤ 64)) = true
  · rw [if_pos hc] at h
    rw [Bool.and_eq_true, decide_eq_true_iff] at hc
    cases hm : mnF n nm0 RR.1 [] with
    | none => rw [hm] at h; cases h
    | some q =>
      rw [hm] at h
      simp only at h
      rw [hbad hc.1 hc.2 q hm, if_neg (by decide)] at h
      exact (Option.some.inj h).symm
  · rw [if_neg hc] at h
    exact (Option.some.inj h).symm
theorem prF_good {n : Nat} {src : By} {r : Sg × List (List Lt) × Int} {RR : List (List Se) × Bool} (hl : ¬ 32768 < src.length) (hR : rdFL n n (toks src) [] = some RR) (h : prF n src = some r) (h1 : RR.2 = true) (h2 : RR.1.length ≤ 64) {q : Nm × List (List Lt) × Bool} (hm : mnF n nm0 RR.1 [] = some q) (h3 : q.2.2 = true) : r = (q.1.sg, q.2.1, 0) := by
  unfold prF at h
  rw [if_neg hl, rdAll_tl, hR] at h
  simp only at h
  rw [if_pos (by rw [h1, decide_eq_true h2]; rfl), hm] at h
  simp only at h
  rw [h3, if_pos rfl] at h
  exact (Option.some.inj h).symm
theorem mnF_cons {n : Nat} {st : Nm} {c : List Se} {cs : List (List Se)} {acc : List (List Lt)} {r : List Lt × Bool × Nm} (h : clsF n st c = some r) : mnF n st (c :: cs) acc = if r.2.1 && decide (wtL r.1 ≤ 60) then mnF n r.2.2 cs (acc ++ [r.1]) else some (st, [], false) := by
  conv => lhs; unfold mnF
  rw [h]
theorem fail_cls {n m : Nat} {src : By} {r : Sg × List (List Lt) × Int} {RR : List (List Se) × Bool} {acc : List (List Se)} {all : List (List Lt)} {st : Nm} {c : List Se} {t : List By} (hl : ¬ 32768 < src.length) (hR : rdFL n n (toks src) [] = some RR) (h : prF n src = some r) (hrest : rdFL n m t (acc ++ [c]) = some RR) (hmn : ∀ tail, mnF n nm0 (acc ++ tail) [] = mnF n st tail all) (hc : ∀ q, clsF n st c = some q → (q.2.1 && decide (wtL q.1 ≤ 60)) = false) : r = (⟨[], [], []⟩, [], 7) := by
  refine prF_fail hl hR h fun h1 _ q hq => ?_
  obtain ⟨tail, ht⟩ := rdFL_ac2 hrest h1
  rw [ht, List.append_assoc, hmn] at hq
  cases hcl : clsF n st c with
  | none =>
    have hq : mnF n st (c :: tail) all = some q := hq
    unfold mnF at hq
    rw [hcl] at hq; cases hq
  | some q2 =>
    have hq : mnF n st (c :: tail) all = some q := hq
    rw [mnF_cons hcl, hc q2 hcl, if_neg (by decide)] at hq
    cases hq
    rfl
theorem fail_many {n m : Nat} {src : By} {r : Sg × List (List Lt) × Int} {RR : List (List Se) × Bool} {acc : List (List Se)} {c : List Se} {t : List By} (hl : ¬ 32768 < src.length) (hR : rdFL n n (toks src) [] = some RR) (h : prF n src = some r) (hrest : rdFL n m t (acc ++ [c]) = some RR) (h64 : acc.length = 64) : r = (⟨[], [], []⟩, [], 7) := by
  refine prF_fail hl hR h fun h1 h2 q hq => ?_
  obtain ⟨tail, ht⟩ := rdFL_ac2 hrest h1
  rw [ht] at h2
  simp at h2
  omega
theorem rdLs_ac2 {n : Nat} : ∀ {m : Nat} {t : List By} {acc : List Se} {r : List Se × Bool × List By}, rdLsL n m t acc = some r → r.2.1 = true → ∃ tail, r.1 = acc ++ tail
  | 0, t, acc, r, h, _ => by unfold rdLsL at h; cases h
  | m + 1, t, acc, r, h, hok => by
    unfold rdLsL at h
    cases hc : rdLL n t with
    | none => rw [hc] at h; cases h
    | some q =>
      rw [hc] at h
      simp only at h
      split at h
      · split at h
        · obtain ⟨tail, ht⟩ := rdLs_ac2 h hok
          exact ⟨q.1 :: tail, by rw [ht]; simp⟩
        · cases h; exact ⟨[q.1], rfl⟩
      · cases h; cases hok
def BadC (N : Nat) (st0 : Nm) (q : List Se × Bool × List By) : Prop := q.2.1 = true → ∀ z, litsF N st0 q.1 [] = some z → z.2.1 = false
structure InG (T : List By) (N I : Nat) (st0 : Nm) (q : List Se × Bool × List By) (ses : List Se) (I' : Nat) (s' : Rs) (c : List Lt) (st' : Nm) (m : Nat) : Prop where
  rd : some q = if (takeL (T.drop I') [124]).1 then rdLsL N m (takeL (T.drop I') [124]).2 ses else some (ses, true, (takeL (T.drop I') [124]).2)
  nm : ∀ tail, litsF N st0 (ses ++ tail) [] = litsF N st' tail c
  rel : Rel s' st'
  lt : I < I'
  vs : s'.vs.length ≤ I'
  ok : ∀ x ∈ c, x.a.ok ∧ x.b.ok
  wt : wtL c ≤ 2 * I'
theorem wtL_snoc (c : List Lt) (l : Lt) : wtL (c ++ [l]) = wtL c + (l.a.size + l.b.size) := by unfold wtL; simp
theorem lit_more12 {T : List By} {N I K m : Nat} {st0 st' : Nm} {q : List Se × Bool × List By} {ses : List Se} {s' s1 : Rs} {c : List Lt} {l : Lt} {I1 : Nat} {r0 : Se × Bool × List By} (hrd : some q = rdLsL N m (T.drop K) ses) (hnm : ∀ tail, litsF N st0 (ses ++ tail) [] = litsF N st' tail c) (hR : Rel s' st') (hb : s'.bad = false) (hIK : I ≤ K) (hvs : s'.vs.length ≤ K) (hok : ∀ x ∈ c, x.a.ok ∧ x.b.ok) (hwt : wtL c ≤ 2 * K) (hr0 : rdLL N (T.drop K) = some r0) (hL : LitEnd T N K s' r0.1 r0.2.1 r0.2.2 l s1 I1) :
    I1 ≤ T.length ∧ ((s1.bad = true ∧ BadC N st0 q) ∨ (s1.bad = false ∧ K < I1 ∧ ∃ st1 m1, InG T N I st0 q (ses ++ [r0.1]) I1 s1 (c ++ [l]) st1 m1)) := by
  obtain ⟨h1, h2⟩ := hL
  refine ⟨h1, ?_⟩
  cases m with
  | zero => unfold rdLsL at hrd; cases hrd
  | succ m =>
    unfold rdLsL at hrd
    rw [hr0] at hrd
    simp only at hrd
    rcases h2 with ⟨k1, k2, k3, k4, k5, k6, k7⟩ | ⟨k1, k2⟩
    · rw [k1, if_pos rfl] at hrd
      obtain ⟨rl, hrl⟩ := litF_some (n := N) (st := st') (s := r0.1) (by unfold Se.sz; exact k7)
      have hG := lit_rel hR hb k4 k5 k6 hrl
      cases hok2 : rl.2.1 with
      | false =>
        have hbad := hG.2 hok2
        rw [← k2] at hbad
        refine .inl ⟨hbad, fun hq z hz => ?_⟩
        have htail : ∃ tail, q.1 = (ses ++ [r0.1]) ++ tail := by
          by_cases ht : (takeL r0.2.2 [124]).1 = true
          · rw [if_pos ht] at hrd; exact rdLs_ac2 hrd.symm hq
          · rw [if_neg ht] at hrd
            have := Option.some.inj hrd
            exact ⟨[], by rw [this]; simp⟩
        obtain ⟨tail, ht⟩ := htail
        rw [ht, List.append_assoc, hnm] at hz
        have hz : litsF N st' (r0.1 :: tail) c = some z := hz
        rw [litsF_cons hrl, hok2, if_neg (by decide)] at hz
        cases hz
        rfl
      | true =>
        obtain ⟨g1, g2, g3⟩ := hG.1 hok2
        rw [← k2] at g2 g3
        obtain ⟨f1, f2, f3, f4, f5, f6⟩ := k3 g2
        refine .inr ⟨g2, f4, rl.2.2, m, ⟨?_, fun tail => ?_, g3, by omega, by omega, fun x hx => ?_, ?_⟩⟩
        · rw [f2]; exact hrd
        · have e1 : l = rl.1 := by rw [f1]; exact g1
          rw [List.append_assoc, hnm]
          show litsF N st' (r0.1 :: tail) c = _
          rw [litsF_cons hrl, hok2, if_pos rfl, e1]
        · rcases List.mem_append.1 hx with hx | hx
          · exact hok x hx
          · rw [List.mem_singleton] at hx; rw [hx]; exact f5
        · rw [wtL_snoc]; omega
    · rw [k1, if_neg (by decide)] at hrd
      have := Option.some.inj hrd
      exact .inl ⟨k2, fun hq => by rw [this] at hq; cases hq⟩
end Go.Proofs.YtglbohajmccehaaDoor
-- @STR@
namespace Go.Proofs.YtglbohajmccehaaDoor
open Go.RowKit
set_option linter.unusedVariables false
set_option linter.unusedSimpArgs false
set_option maxRecDepth 100000

-- 
set_option maxHeartbeats 2000000 in
theorem weight12_abs (W : World) (c : List Lt) (hn : c.length ≤ 1000000) (hl : wtL c ≤ 1000000000) (hc : ∀ x ∈ c, x.a.ok ∧ x.b.ok) : AFun Tryd.prog W 19 [.lst (c.map Lt.cv)] (.val (.i (wtL c : Int))) := by
  have hsz := Lt.size_all c
  have htk : ∀ k, wtL (c.take k) ≤ wtL c := fun k => by
    have : wtL c = wtL (c.take k) + wtL (c.drop k) := by
      unfold wtL
      rw [← List.sum_append, ← List.map_append, List.take_append_drop]
    omega
  refine afun_of (rs := [.i (wtL c : Int)]) Tryd.func19 Tryd.ntmps19 rfl rfl rfl rfl ?_
  intro w U hW
  refine aS (aR ?_)
  (refine nx (aA (gN rfl) rfl rfl rfl rfl rfl) rfl ?_)
  show AWp _ _ _ _ _ _ _
  refine aS (aR ?_)
  (refine nx (aA (gN rfl) rfl rfl rfl rfl rfl) rfl ?_)
  show AWp _ _ _ _ _ _ _
  refine aS (aS (aR ?_))
  (refine nx (aA (gN rfl) rfl rfl rfl rfl rfl) rfl ?_)
  show AWp _ _ _ _ _ _ _
  refine aB (awp_count c.length (fun k => [(0, .val (.lst (c.map Lt.cv))), (3, .val (.i (wtL (c.take k) : Int))), (4, .val (.i (k : Int)))]) (wk_sub ⟨rfl, rfl, rfl, trivial⟩) ?_)
  intro k hk
  refine aS (aS (aR ?_))
  (refine nx (aM (gN rfl) rfl rfl rfl rfl rfl) rfl ?_)
  (refine nx (aM (gN rfl) rfl rfl rfl rfl rfl) rfl ?_)
  (refine nx (a_len (gN rfl) rfl rfl rfl rfl rfl rfl rfl) rfl ?_)
  (refine nx (a_lss (gN rfl) rfl rfl rfl rfl rfl rfl) rfl ?_)
  show AWp _ _ _ _ _ _ _
  refine aC rfl (fun hlt => ?_) (fun hlt => ?_)
  · have hkl : k < c.length := by simpa using hlt
    obtain ⟨x, hx⟩ : ∃ x, c[k]? = some x := ⟨c[k], List.getElem?_eq_getElem hkl⟩
    have hx' := Lt.map_at hx
    have hxm := List.mem_of_getElem? hx
    have hw1 : wtL (c.take (k + 1)) = wtL (c.take k) + (x.a.size + x.b.size) := by
      unfold wtL
      rw [List.take_add_one, hx, List.map_append, List.sum_append]
      simp
    have hle := htk (k + 1)
    have s1 := refFlat_abs w x.a (hc x hxm).1 (by omega)
    have s2 := refFlat_abs w x.b (hc x hxm).2 (by omega)
    have n1 : (x.a.flat.map Tm.cv).length = x.a.size := List.length_map _
    have n2 : (x.b.flat.map Tm.cv).length = x.b.size := List.length_map _
    refine aK ?_
    show AWp _ _ _ _ _ _ _
    refine aS (aB (aD (by kernel_rfl) (by kernel_rfl) ?_))
    (refine nx (aM (gN rfl) rfl rfl rfl rfl rfl) rfl ?_)
    (refine nx (aM (gN rfl) rfl rfl rfl rfl rfl) rfl ?_)
    (refine nx (aM (gN rfl) rfl rfl rfl rfl rfl) rfl ?_)
    (refine nx (a_index (j := k) (gN rfl) rfl rfl rfl rfl rfl rfl rfl rfl rfl (hx') rfl (hsz)) rfl ?_)
    (refine nx (a_field_ad (gN rfl) rfl rfl rfl rfl rfl rfl rfl rfl rfl rfl rfl) rfl ?_)
    (refine nx (a_load_ad (gN rfl) rfl rfl rfl rfl rfl rfl rfl rfl rfl) rfl ?_)
    (refine nx (a_call (gN rfl) rfl rfl rfl rfl rfl (s1)) rfl ?_)
    (refine nx (a_len (gN rfl) rfl rfl rfl rfl rfl rfl rfl) rfl ?_)
    (refine nx (a_add (gN rfl) rfl rfl rfl rfl rfl rfl (by first | omega | (simp only [List.length_map, List.length_append, List.length_cons, List.length_nil] <;> omega) | (simp <;> omega))) rfl ?_)
    (refine nx (aM (gN rfl) rfl rfl rfl rfl rfl) rfl ?_)
    (refine nx (aM (gN rfl) rfl rfl rfl rfl rfl) rfl ?_)
    (refine nx (a_index (j := k) (gN rfl) rfl rfl rfl rfl rfl rfl rfl rfl rfl (hx') rfl (hsz)) rfl ?_)
    (refine nx (a_field_ad (gN rfl) rfl rfl rfl rfl rfl rfl rfl rfl rfl rfl rfl) rfl ?_)
    (refine nx (a_load_ad (gN rfl) rfl rfl rfl rfl rfl rfl rfl rfl rfl) rfl ?_)
    (refine nx (a_call (gN rfl) rfl rfl rfl rfl rfl (s2)) rfl ?_)
    (refine nx (a_len (gN rfl) rfl rfl rfl rfl rfl rfl rfl) rfl ?_)
    (refine nx (a_add (gN rfl) rfl rfl rfl rfl rfl rfl (by first | omega | (simp only [List.length_map, List.length_append, List.length_cons, List.length_nil] <;> omega) | (simp <;> omega))) rfl ?_)
    (refine nx (aA (gN rfl) rfl rfl rfl rfl rfl) rfl ?_)
    refine ⟨by kernel_rfl, ?_⟩
    show AWp _ _ _ _ _ _ _
    refine aR ?_
    (refine nx (aM (gN rfl) rfl rfl rfl rfl rfl) rfl ?_)
    (refine nx (a_add (gN rfl) rfl rfl rfl rfl rfl rfl (by first | omega | (simp only [List.length_map, List.length_append, List.length_cons, List.length_nil] <;> omega) | (simp <;> omega))) rfl ?_)
    (refine nx (aA (gN rfl) rfl rfl rfl rfl rfl) rfl ?_)
    refine ⟨hkl, wk_sub ⟨rfl, ?_, rfl, trivial⟩⟩
    rw [hw1, ← n1, ← n2, Int.natCast_add, Int.natCast_add, ← Int.add_assoc]
    rfl
  · have hkl : k = c.length := by
      have : ¬ k < c.length := by simpa using hlt
      omega
    subst hkl
    rw [List.take_length]
    refine aE ?_
    show AWp _ _ _ _ _ _ _
    refine aS (aR ?_)
    (refine nx (aM (gN rfl) rfl rfl rfl rfl rfl) rfl ?_)
    (refine nx (aA (gN rfl) rfl rfl rfl rfl rfl) rfl ?_)
    show AWp _ _ _ _ _ _ _
    exact aT (And.intro (.inr rfl) rfl)
end Go.Proofs.YtglbohajmccehaaDoor

-- @STR@
namespace Go.Proofs.YtglbohajmccehaaDoor
open Go.RowKit
set_option linter.unusedVariables false
set_option linter.unusedSimpArgs false
set_option maxRecDepth 100000

section
variable {P : Program} {w0 : World} {U0 : UX} {nt : Nat} {Q : Exit → AS → Prop} {s : AS}
def midQ12 (w0 : World) (U0 : UX) (nt : Nat) {Sg : Type} (R : Sg → Prop) (st : Sg → AS) (Q : Exit → AS → Prop) : Exit → AS → Prop
  | .normal, s => ∃ σ, R σ ∧ Wk w0 U0 nt s (st σ)
  | e, s => Q e s
theorem awp_mid12 {Sg : Type} {x y : Code} (R : Sg → Prop) (st : Sg → AS) (hx : AWp P w0 U0 nt x (midQ12 w0 U0 nt R st Q) s) (hy : ∀ σ, R σ → AWp P w0 U0 nt y Q (st σ)) : AWp P w0 U0 nt (.seq x y) Q s :=
  aS fun M a w hs => WP_mono (hx M a w hs) fun e a' w' ⟨s', h1, h2⟩ => by
    cases e with
    | normal => obtain ⟨σ, k1, k2⟩ := h1; exact ⟨st σ, hy σ k1, k2 a' w' h2⟩
    | _ => exact ⟨s', h1, h2⟩
end
structure OutI (T : List By) (RR : List (List Se) × Bool) (N m I : Nat) (g : Sg) (acc : List (List Se)) (all : List (List Lt)) (stn : Nm) : Prop where
  le : I ≤ T.length
  rel : Rel ⟨false, g, []⟩ ⟨stn.sg, stn.sy, []⟩
  rd : rdFL N m (T.drop I) acc = some RR
  len : acc.length = all.length
  few : all.length ≤ 64
  mn : ∀ tail, mnF N nm0 (acc ++ tail) [] = mnF N stn tail all
theorem rdLs_lit {n m : Nat} {t : List By} {acc : List Se} {q : List Se × Bool × List By} (h : some q = rdLsL n m t acc) : ∃ r0, rdLL n t = some r0 := by
  cases m with
  | zero => unfold rdLsL at h; cases h
  | succ m =>
    unfold rdLsL at h
    cases hr : rdLL n t with
    | none => rw [hr] at h; cases h
    | some r0 => exact ⟨r0, rfl⟩
theorem len_wt : ∀ c : List Lt, c.length ≤ wtL c
  | [] => Nat.zero_le _
  | l :: c => by
    have := len_wt c
    have := l.a.size_pos
    unfold wtL at *
    rw [List.map_cons, List.sum_cons, List.length_cons]
    omega
def EndC (T : List By) (N I : Nat) (st0 : Nm) (q : List Se × Bool × List By) (c : List Lt) (s2 : Rs) (I2 : Nat) : Prop := I2 ≤ T.length ∧ ((s2.bad = true ∧ BadC N st0 q) ∨ (s2.bad = false ∧ I < I2 ∧ q.2.1 = true ∧ q.2.2 = T.drop I2 ∧ (∃ st2, litsF N st0 q.1 [] = some (c, true, st2) ∧ Rel s2 st2) ∧ (∀ x ∈ c, x.a.ok ∧ x.b.ok) ∧ wtL c ≤ 2 * I2))
end Go.Proofs.YtglbohajmccehaaDoor

