/-
  What the document's Do returns where a deed is to wait: the walk.
-/
import Derived.Test.YtngkapddobgfaaaDiskRefDo4
namespace Go.Proofs.Ytngkapddobgfaaa
open Go.RowKit Go.Maps
set_option linter.unusedVariables false

set_option maxRecDepth 100000 in
set_option maxHeartbeats 1000000 in
theorem refDo_deed_z (room : Nat) (la : Option Addr) (ln lc : Nat) (rs : List FRef) (wa : Option Addr) (wn wc : Nat) (ws : List ARef) (armed : Int) (down : Bool) (deeds : Int) (r : ARef) (w : World) (hl : Fs w la ln lc rs) (hw : As w wa wn wc ws) (hrun : canRun (rs.map FRef.file) (ws.map ARef.act)) (hwn : wn ≤ 1000)
    (hkk : 0 ≤ r.kind ∧ r.kind ≤ 8 ∧ r.kind ≠ 6 ∧ r.kind ≠ 7) (hroom : room ≤ 1073741824) (hrn : r.n ≤ 1000) (hrz : r.zs.length = r.n) (W : Int) (hW : W = wrongR room down (foldF (rs.map FRef.file) (ws.map ARef.act)) r.act) (hus : usedF (foldF (rs.map FRef.file) (ws.map ARef.act)) ≤ 4294967296) (hln : (foldF (rs.map FRef.file) (ws.map ARef.act)).length ≤ 64) (hW0 : W = 0) (hk5 : r.kind < 5) (hri : r.inn w) (ha : armed ≤ 0) (hau : armed ≤ 9223372036854775807) (hdd : 0 ≤ deeds ∧ deeds ≤ 1000000) :
    Calls Try.prog 12 #[refDisk (room : Int) la ln lc wa wn wc armed down deeds, r.val] w fun e w' => ∃ a c, e = .returned (.tuple #[refDisk (room : Int) la ln lc a (wn + 1) c armed down (deeds + 1), .int .i64 0, .slice none 0 0]) ∧ As w' a (wn + 1) c (ws ++ [r]) ∧ (∀ x, a = some x → w.heap.size ≤ x.block) ∧ Below w.heap.size w w' := by
  have t8 : (r.kind == 8) = false := by simp; omega
  have t5 : (r.kind == 5) = false := by simp; omega
  clear hk5
  obtain ⟨w0, hx⟩ := boxes3 w (room : Int) la ln lc wa wn wc armed down deeds r
  obtain ⟨hw0, gd, ga, gr, hsz, hb0⟩ := hx
  have hseen := refSeen_any (room : Int) la ln lc rs wa wn wc ws armed down deeds w0 (hl.below hb0 (Nat.le_refl _)) (hw.below hb0 (Nat.le_refl _)) hrun hwn
  have t6 : (r.kind == 6) = false := by simp; omega
  have t7 : (r.kind == 7) = false := by simp; omega
  obtain ⟨d0, d1, d2, d3, d4, d5, _⟩ := six_cells gd
  obtain ⟨e0, e1, e2, e3, e4, e5, _⟩ := six_cells ga
  have HAW : Hid (As w wa wn wc ws) := hw
  have HLW : Hid (FIn (fun i => i < w.heap.size) la ln rs) := hl.fin
  unfold refDisk at hseen ⊢
  unfold ARef.val
  clear hl hw
  go_enter Try.func12, Try.ntmps12
  go_wp2_with fail
  refine hseen.mono ?_
  rintro e w1 ⟨a, n, c, rs', rfl, hfs, hmp, hb1, hfrom, hapl⟩
  have gd1 := (hb1.block w.heap.size (by omega)).trans gd
  have ga1 := (hb1.block (w.heap.size + 1) (by omega)).trans ga
  have gr1 := (hb1.block (w.heap.size + 2) (by omega)).trans gr
  have hb1' : Below w.heap.size w w1 := hb0.trans (hb1.mono (by omega))
  have hn64 : n ≤ 64 := by have := hfs.1; rw [← hmp, List.length_map] at hln; omega
  have hwr := wrong_any room la ln lc wa wn wc armed down deeds a n c rs' r w1 hfs (by omega) (by rw [hmp]; exact hus) hroom hrn hrz hkk
  rw [hmp, ← hW] at hwr
  unfold refDisk ARef.val at hwr
  have hs1 := hb1.size
  clear gd ga gr hseen d0 d1 d2 d3 d4 d5 e0 e1 e2 e3 e4 e5 hw0 hW hrun
  obtain ⟨d0, d1, d2, d3, d4, d5, df⟩ := six_cells gd1
  obtain ⟨e0, e1, e2, e3, e4, e5, ef⟩ := six_cells ga1
  go_wp2_with fail
  refine hwr.mono ?_
  rintro e w2 ⟨rfl, hb2⟩
  have gd2 := (hb2.block w.heap.size (by omega)).trans gd1
  have ga2 := (hb2.block (w.heap.size + 1) (by omega)).trans ga1
  have gr2 := (hb2.block (w.heap.size + 2) (by omega)).trans gr1
  have hb2' : Below w.heap.size w w2 := hb1'.trans (hb2.mono (by omega))
  have hs2 := hb2.size
  clear hwr d0 d1 d2 d3 d4 d5 e0 e1 e2 e3 e4 e5 df ef gd1 ga1 gr1
  obtain ⟨d0, d1, d2, d3, d4, d5, df⟩ := six_cells gd2
  obtain ⟨e0, e1, e2, e3, e4, e5, ef⟩ := six_cells ga2
  obtain ⟨f0, f1, f2, f3, f4, f5, ff⟩ := six_cells gr2
  subst hW0
  have a1 : (armed == 1) = false := by simp; omega
  have a2 : ¬ (0 : Int) < armed := by omega
  clear hfs hmp hfrom hapl
  go_wp2_with fail
  obtain ⟨w3, hw3⟩ : ∃ w3, w3 = w2.setCell ⟨w.heap.size, 5, none⟩ (.int .i64 (deeds + 1)) := ⟨_, rfl⟩
  have hb3 : Below w.heap.size w w3 := by rw [hw3]; exact hb2'.setCell (p := ⟨w.heap.size, 5, none⟩) (Nat.le_refl _) _
  have gd3 : w3.heap[w.heap.size]? = some (.cells #[.int .i64 (room : Int), .slice la ln lc, .slice wa wn wc, .int .i64 armed, .bool down, .int .i64 (deeds + 1)] 31 (0, 0)) := by rw [hw3]; exact set_block (i := 5) gd2 _
  have ga3 := (show w3.heap[w.heap.size + 1]? = _ by rw [hw3]; exact set_other _ (by omega)).trans ga2
  have gr3 := (show w3.heap[w.heap.size + 2]? = _ by rw [hw3]; exact set_other _ (by omega)).trans gr2
  have hlt3 : w.heap.size + 2 < w3.heap.size := by
    rcases Nat.lt_or_ge (w.heap.size + 2) w3.heap.size with h | h
    · exact h
    · rw [Array.getElem?_eq_none h] at gr3; cases gr3
  rw [← hw3]
  clear hw3 d0 d1 d2 d3 d4 d5 df e0 e1 e2 e3 e4 e5 ef f0 f1 f2 f3 f4 f5 ff gd2 ga2 gr2
  obtain ⟨_, _, d2, _, _, _, df⟩ := six_cells gd3
  have d2f := df 2
  obtain ⟨e0, e1, e2, e3, e4, e5, ef⟩ := six_cells ga3
  have hAs3 := HAW.out.below hb3 (Nat.le_refl _)
  have HA3 : Hid ((wa = none → wn = 0 ∧ wc = 0) ∧ (acells ws).length = wn * 6 ∧ 0 + wn ≤ maxLen ∧ (0 + wn) * 80 ≤ 140737488355328) := ⟨hAs3.2.2.2.1, by rw [acells_length, ← hAs3.1], by unfold maxLen; omega, by omega⟩
  have HC3 : Hid (∀ w', Below w3.heap.size w3 w' → Cs w' wa (acells ws)) := fun w' h => hAs3.2.2.2.2.1.below h (Nat.le_refl _)
  have HK : Hid (∀ w', Below w3.heap.size w3 w' → w'.cell? ⟨w.heap.size + 1, 0, none⟩ = some (.int .i64 r.kind) ∧ w'.cell? ⟨w.heap.size + 1, 1, none⟩ = some (.string r.name) ∧ w'.cell? ⟨w.heap.size + 1, 2, none⟩ = some (.string r.to) ∧ w'.cell? ⟨w.heap.size + 1, 3, none⟩ = some (.slice r.a r.n r.c) ∧ w'.cell? ⟨w.heap.size + 1, 4, none⟩ = some (.int .i64 r.num) ∧ w'.cell? ⟨w.heap.size + 1, 5, none⟩ = some (.int .i64 r.torn)) := fun w' h => by
    have h5 := (h.block (w.heap.size + 1) (by omega)).trans ga3
    obtain ⟨z0, z1, z2, z3, z4, z5, _⟩ := six_cells h5
    exact ⟨z0, z1, z2, z3, z4, z5⟩
  have HD2 : Hid (∀ w', Below w3.heap.size w3 w' → w'.cell? ⟨w.heap.size, 2, none⟩ = some (.slice wa wn wc) ∧ w'.frozen? ⟨w.heap.size, 2, none⟩ = false) := fun w' h => by
    have h5 := (h.block w.heap.size (by omega)).trans gd3
    obtain ⟨_, _, z2, _, _, _, zf⟩ := six_cells h5
    exact ⟨z2, zf 2⟩
  have B0 : Below w3.heap.size w3 (w3.alloc (.cells #[] 36)).drew := ((Below.refl _ _).alloc (Nat.le_refl _) _).drew
  have B1 : Below w3.heap.size w3 (w3.alloc (.cells #[.int .i64 r.kind, .string r.name, .string r.to, .slice r.a r.n r.c, .int .i64 r.num, .int .i64 r.torn] 36)).drew := ((Below.refl _ _).alloc (Nat.le_refl _) _).drew
  have B01 : Below w3.heap.size w3 ((w3.alloc (.cells #[] 36)).alloc (.cells #[.int .i64 r.kind, .string r.name, .string r.to, .slice r.a r.n r.c, .int .i64 r.num, .int .i64 r.torn] 36)).drew := (((Below.refl _ _).alloc (Nat.le_refl _) _).alloc (by simp) _).drew
  have B10 : Below w3.heap.size w3 ((w3.alloc (.cells #[.int .i64 r.kind, .string r.name, .string r.to, .slice r.a r.n r.c, .int .i64 r.num, .int .i64 r.torn] 36)).alloc (.cells #[] 36)).drew := (((Below.refl _ _).alloc (Nat.le_refl _) _).alloc (by simp) _).drew
  have hS0 := HK.out w3.drew (Below.refl _ _).drew
  have hSx := HK.out w3 (Below.refl _ _)
  have hSa := HK.out _ B0
  have hSb := HK.out _ B1
  have hSab := HK.out _ B01
  have hSba := HK.out _ B10
  have c20 := (HD2.out w3.drew (Below.refl _ _).drew).1
  have c2a := (HD2.out _ B0).1
  have c2b := (HD2.out _ B1).1
  have c2ab := (HD2.out _ B01).1
  have c2ba := (HD2.out _ B10).1
  have c2a' : (w3.alloc (.cells #[] 36)).cell? ⟨w.heap.size, 2, none⟩ = some (.slice wa wn wc) := c2a
  have c2b' : (w3.alloc (.cells #[.int .i64 r.kind, .string r.name, .string r.to, .slice r.a r.n r.c, .int .i64 r.num, .int .i64 r.torn] 36)).cell? ⟨w.heap.size, 2, none⟩ = some (.slice wa wn wc) := c2b
  have c2ab' : ((w3.alloc (.cells #[] 36)).alloc (.cells #[.int .i64 r.kind, .string r.name, .string r.to, .slice r.a r.n r.c, .int .i64 r.num, .int .i64 r.torn] 36)).cell? ⟨w.heap.size, 2, none⟩ = some (.slice wa wn wc) := c2ab
  have c2ba' : ((w3.alloc (.cells #[.int .i64 r.kind, .string r.name, .string r.to, .slice r.a r.n r.c, .int .i64 r.num, .int .i64 r.torn] 36)).alloc (.cells #[] 36)).cell? ⟨w.heap.size, 2, none⟩ = some (.slice wa wn wc) := c2ba
  have ho0 := (acts_new0 w3 w3.heap.size (Nat.le_refl _)).drew
  have ho0ab := ((acts_new0 w3 w3.heap.size (Nat.le_refl _)).alloc (.cells #[.int .i64 r.kind, .string r.name, .string r.to, .slice r.a r.n r.c, .int .i64 r.num, .int .i64 r.torn] 36)).drew
  have ho0ba : ((w3.alloc (.cells #[.int .i64 r.kind, .string r.name, .string r.to, .slice r.a r.n r.c, .int .i64 r.num, .int .i64 r.torn] 36)).alloc (.cells #[] 36)).drew.ownsRow w3.heap.size 36 6 (.slice (some ⟨w3.heap.size + 1, 0, none⟩) 0 0) 0 [] := by
    have h5 := acts_new0 (w3.alloc (.cells #[.int .i64 r.kind, .string r.name, .string r.to, .slice r.a r.n r.c, .int .i64 r.num, .int .i64 r.torn] 36)) w3.heap.size (by simp)
    rw [World.size_alloc] at h5
    exact h5.drew
  have hcrab : Cs ((w3.alloc (.cells #[] 36)).alloc (.cells #[.int .i64 r.kind, .string r.name, .string r.to, .slice r.a r.n r.c, .int .i64 r.num, .int .i64 r.torn] 36)).drew (some ⟨w3.heap.size + 1, 0, none⟩) r.cells := by
    have h5 := Cs.new (w3.alloc (.cells #[] 36)) r.cells 36
    rw [World.size_alloc] at h5
    exact h5
  have hcrba : Cs ((w3.alloc (.cells #[.int .i64 r.kind, .string r.name, .string r.to, .slice r.a r.n r.c, .int .i64 r.num, .int .i64 r.torn] 36)).alloc (.cells #[] 36)).drew (some ⟨w3.heap.size, 0, none⟩) r.cells :=
    (Cs.new w3 r.cells 36).below (((Below.refl (w3.alloc (.cells #[.int .i64 r.kind, .string r.name, .string r.to, .slice r.a r.n r.c, .int .i64 r.num, .int .i64 r.torn] 36)).heap.size _).alloc (Nat.le_refl _) _).drew) (Nat.le_refl _)
  have HA4 : Hid (wn + 1 ≤ maxLen ∧ (wn + 1) * 80 ≤ 140737488355328) := ⟨by unfold maxLen; omega, by omega⟩
  have HG3 := Hid.mk' (And.intro gd3 gr3)
  have HB3 := Hid.mk' hb3
  have HLT := Hid.mk' hlt3
  have HRI := Hid.mk' hri
  clear hAs3 gd3 ga3 gr3 hri
  go_region_law
    (first
      | (refine step_append_cells _ rfl _ _ 22 rfl w3.heap.size 36 _ 6 80 Try.underlying22 info_act rfl (by decide) _ 0 [] rfl ho0 wa wn wc (acells ws) rfl HA3.out.1 (HC3.out _ B0) HA3.out.2.1 (acells_one ws) HA3.out.2.2.1 HA3.out.2.2.2 B0.size ?_; intro v4 w4 ho4' hg4; have ho4 : w4.ownsRow w3.heap.size 36 6 v4 wn (acells ws) := (by simpa using ho4'); have hb4 : Below w3.heap.size w3 w4 := B0.trans (below_grown ho0 hg4 B0.size); have hcr4 := trivial; have hS4 := HK.out _ hb4; have hS4r := HK.out _ (hb4.trans ((Below.refl w3.heap.size w4).alloc hb4.size (.cells #[.int .i64 r.kind, .string r.name, .string r.to, .slice r.a r.n r.c, .int .i64 r.num, .int .i64 r.torn] 36))); obtain ⟨a4, c4, rfl, x1, x2, x3, x4⟩ := ownsRow_cs ho4; dsimp only)
      | (refine step_append_cells _ rfl _ _ 22 rfl w3.heap.size 36 _ 6 80 Try.underlying22 info_act rfl (by decide) _ 0 [] rfl ho0ab wa wn wc (acells ws) rfl HA3.out.1 (HC3.out _ B01) HA3.out.2.1 (acells_one ws) HA3.out.2.2.1 HA3.out.2.2.2 B01.size ?_; intro v4 w4 ho4' hg4; have ho4 : w4.ownsRow w3.heap.size 36 6 v4 wn (acells ws) := (by simpa using ho4'); have hb4 : Below w3.heap.size w3 w4 := B01.trans (below_grown ho0ab hg4 B01.size); have hcr4 := (cs_kp hcrab (Kp.of_grown hg4) (fun x hx _ e => by cases hx; have e := Option.some.inj e; simp at e)); have hS4 := HK.out _ hb4; have hS4r := HK.out _ (hb4.trans ((Below.refl w3.heap.size w4).alloc hb4.size (.cells #[.int .i64 r.kind, .string r.name, .string r.to, .slice r.a r.n r.c, .int .i64 r.num, .int .i64 r.torn] 36))); obtain ⟨a4, c4, rfl, x1, x2, x3, x4⟩ := ownsRow_cs ho4; dsimp only)
      | (refine step_append_cells _ rfl _ _ 22 rfl w3.heap.size 36 _ 6 80 Try.underlying22 info_act rfl (by decide) _ 0 [] rfl ho0ba wa wn wc (acells ws) rfl HA3.out.1 (HC3.out _ B10) HA3.out.2.1 (acells_one ws) HA3.out.2.2.1 HA3.out.2.2.2 B10.size ?_; intro v4 w4 ho4' hg4; have ho4 : w4.ownsRow w3.heap.size 36 6 v4 wn (acells ws) := (by simpa using ho4'); have hb4 : Below w3.heap.size w3 w4 := B10.trans (below_grown ho0ba hg4 B10.size); have hcr4 := (cs_kp hcrba (Kp.of_grown hg4) (fun x hx _ e => by cases hx; have e := Option.some.inj e; simp at e)); have hS4 := HK.out _ hb4; have hS4r := HK.out _ (hb4.trans ((Below.refl w3.heap.size w4).alloc hb4.size (.cells #[.int .i64 r.kind, .string r.name, .string r.to, .slice r.a r.n r.c, .int .i64 r.num, .int .i64 r.torn] 36))); obtain ⟨a4, c4, rfl, x1, x2, x3, x4⟩ := ownsRow_cs ho4; dsimp only)
      | (refine step_append_cells _ rfl _ _ 22 rfl w3.heap.size 36 _ 6 80 Try.underlying22 info_act rfl (by decide) _ wn (acells ws) rfl (ho4.alloc _) _ 1 1 r.cells rfl (fun e => by cases e) (Cs.new w4 r.cells 36) rfl (cells_one r) HA4.out.1 HA4.out.2 (Nat.le_trans hb4.size (by simp)) ?_; intro v6 w6 ho6 hg6; have hb6 : Below w3.heap.size w3 w6 := (hb4.trans ((Below.refl w3.heap.size w4).alloc hb4.size _)).trans (below_grown (ho4.alloc _) hg6 (Nat.le_trans hb4.size (by simp))); have hS6 := HK.out _ hb6; obtain ⟨c26, c26f⟩ := HD2.out _ hb6; obtain ⟨a6, c6, rfl, y1, y2, y3, y4⟩ := ownsRow_cs ho6; have hS7 := keep_act (v := .slice a6 (wn + 1) c6) hS6; have hS7d := keep_actd (v := .slice a6 (wn + 1) c6) hS6; dsimp only)
      | (refine step_append_cells _ rfl _ _ 22 rfl w3.heap.size 36 _ 6 80 Try.underlying22 info_act rfl (by decide) _ wn (acells ws) rfl ho4 _ 1 1 r.cells rfl (fun e => by cases e) hcr4 rfl (cells_one r) HA4.out.1 HA4.out.2 hb4.size ?_; intro v6 w6 ho6 hg6; have hb6 : Below w3.heap.size w3 w6 := hb4.trans (below_grown ho4 hg6 hb4.size); have hS6 := HK.out _ hb6; obtain ⟨c26, c26f⟩ := HD2.out _ hb6; obtain ⟨a6, c6, rfl, y1, y2, y3, y4⟩ := ownsRow_cs ho6; have hS7 := keep_act (v := .slice a6 (wn + 1) c6) hS6; have hS7d := keep_actd (v := .slice a6 (wn + 1) c6) hS6; dsimp only))
  all_goals have gd6 := (hb6.block w.heap.size (by omega)).trans HG3.out.1
  all_goals have gr6 := (hb6.block (w.heap.size + 2) (by omega)).trans HG3.out.2
  all_goals have HEND := Hid.mk' (deed_end HAW.out HRI.out HB3.out HLT.out hb6 ho6 (.slice a6 (wn + 1) c6) (.int .i64 (room : Int)) (.slice la ln lc) (.slice a6 (wn + 1) c6) (.int .i64 armed) (.bool down) (.int .i64 (deeds + 1)))
  all_goals obtain ⟨p0, p1, p2, p3, p4, p5, pf⟩ := six_cells gd6
  all_goals obtain ⟨q0, q1, q2, q3, q4, q5, qf⟩ := six_cells gr6
  all_goals clear hS0 hSx hSa hSb hSab hSba c20 c2a c2b c2ab c2ba c2a' c2b' c2ab' c2ba' ho0 ho0ab ho0ba hcrab hcrba B0 B1 B01 B10 d2 d2f df e0 e1 e2 e3 e4 e5 ef hb4 hb6 ho6 hS4 hS4r hS6 hS7 hS7d
  all_goals go_wp2
  all_goals refine bodyPost_ret (results_disk (g := w.heap.size + 1 + 1) rfl (six_block ((set_other _ (by omega)).trans gr6) _ _ _ _ _ _) rfl rfl rfl) rfl ?_
  all_goals exact ⟨a6, c6, rfl, HEND.out⟩

end Go.Proofs.Ytngkapddobgfaaa
