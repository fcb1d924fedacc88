/-
  What the document's Do returns where the call is no crash and no arming.
-/
import Derived.Test.YtngkapddobgfaaaDiskRefDo
import Derived.Test.YtngkapddobgfaaaDiskFIn
namespace Go.Proofs.Ytngkapddobgfaaa
open Go.RowKit Go.Maps
set_option linter.unusedVariables false

theorem six_kp {S : Nat → Prop} {w0 w : World} (h : Kp S w0 w) {g : Nat} (hg : S g) (a b c d e f : Value) : Kp S w0 (put6 w g a b c d e f) :=
  (((((h.setCell (p := ⟨g, 0, none⟩) (fun _ => hg) _).setCell (p := ⟨g, 1, none⟩) (fun _ => hg) _).setCell (p := ⟨g, 2, none⟩) (fun _ => hg) _).setCell (p := ⟨g, 3, none⟩) (fun _ => hg) _).setCell (p := ⟨g, 4, none⟩) (fun _ => hg) _).setCell (p := ⟨g, 5, none⟩) (fun _ => hg) _

set_option maxRecDepth 100000 in
set_option maxHeartbeats 4000000 in
theorem refDo_wrong (room : Nat) (la : Option Addr) (ln lc : Nat) (rs : List FRef) (wa : Option Addr) (wn wc : Nat) (ws : List ARef) (armed : Int) (down : Bool) (deeds : Int) (r : ARef) (w : World) (hl : Fs w la ln lc rs) (hw : As w wa wn wc ws) (hrun : canRun (rs.map FRef.file) (ws.map ARef.act)) (hwn : wn ≤ 1000)
    (hkk : 0 ≤ r.kind ∧ r.kind ≤ 8 ∧ r.kind ≠ 6 ∧ r.kind ≠ 7) (hroom : room ≤ 1073741824) (hrn : r.n ≤ 1000) (hrz : r.zs.length = r.n) (W : Int) (hW : W = wrongR room down (foldF (rs.map FRef.file) (ws.map ARef.act)) r.act) (hus : usedF (foldF (rs.map FRef.file) (ws.map ARef.act)) ≤ 4294967296) (hln : (foldF (rs.map FRef.file) (ws.map ARef.act)).length ≤ 64) (hW0 : W ≠ 0) :
    Calls Try.prog 12 #[refDisk (room : Int) la ln lc wa wn wc armed down deeds, r.val] w fun e w' => e = .returned (.tuple #[refDisk (room : Int) la ln lc wa wn wc armed down deeds, .int .i64 W, .slice none 0 0]) ∧ Below w.heap.size w w' := by
  obtain ⟨w0, hx⟩ := boxes3 w (room : Int) la ln lc wa wn wc armed down deeds r
  obtain ⟨hw0, gd, ga, gr, hsz, hb0⟩ := hx
  have hseen := refSeen_any (room : Int) la ln lc rs wa wn wc ws armed down deeds w0 (hl.below hb0 (Nat.le_refl _)) (hw.below hb0 (Nat.le_refl _)) hrun hwn
  have t6 : (r.kind == 6) = false := by simp; omega
  have t7 : (r.kind == 7) = false := by simp; omega
  obtain ⟨d0, d1, d2, d3, d4, d5, _⟩ := six_cells gd
  obtain ⟨e0, e1, e2, e3, e4, e5, _⟩ := six_cells ga
  have HAW : Hid (As w wa wn wc ws) := hw
  have HLW : Hid (FIn (fun i => i < w.heap.size) la ln rs) := hl.fin
  unfold refDisk at hseen ⊢
  unfold ARef.val
  clear hl hw
  go_enter Try.func12, Try.ntmps12
  go_wp2_with fail
  refine hseen.mono ?_
  rintro e w1 ⟨a, n, c, rs', rfl, hfs, hmp, hb1, hfrom, hapl⟩
  have gd1 := (hb1.block w.heap.size (by omega)).trans gd
  have ga1 := (hb1.block (w.heap.size + 1) (by omega)).trans ga
  have gr1 := (hb1.block (w.heap.size + 2) (by omega)).trans gr
  have hb1' : Below w.heap.size w w1 := hb0.trans (hb1.mono (by omega))
  have hn64 : n ≤ 64 := by have := hfs.1; rw [← hmp, List.length_map] at hln; omega
  have hwr := wrong_any room la ln lc wa wn wc armed down deeds a n c rs' r w1 hfs (by omega) (by rw [hmp]; exact hus) hroom hrn hrz hkk
  rw [hmp, ← hW] at hwr
  unfold refDisk ARef.val at hwr
  have hs1 := hb1.size
  clear gd ga gr hseen d0 d1 d2 d3 d4 d5 e0 e1 e2 e3 e4 e5 hw0 hW hrun
  obtain ⟨d0, d1, d2, d3, d4, d5, df⟩ := six_cells gd1
  obtain ⟨e0, e1, e2, e3, e4, e5, ef⟩ := six_cells ga1
  go_wp2_with fail
  refine hwr.mono ?_
  rintro e w2 ⟨rfl, hb2⟩
  have gd2 := (hb2.block w.heap.size (by omega)).trans gd1
  have ga2 := (hb2.block (w.heap.size + 1) (by omega)).trans ga1
  have gr2 := (hb2.block (w.heap.size + 2) (by omega)).trans gr1
  have hb2' : Below w.heap.size w w2 := hb1'.trans (hb2.mono (by omega))
  have hs2 := hb2.size
  clear hwr d0 d1 d2 d3 d4 d5 e0 e1 e2 e3 e4 e5 df ef gd1 ga1 gr1
  obtain ⟨d0, d1, d2, d3, d4, d5, df⟩ := six_cells gd2
  obtain ⟨e0, e1, e2, e3, e4, e5, ef⟩ := six_cells ga2
  obtain ⟨f0, f1, f2, f3, f4, f5, ff⟩ := six_cells gr2
  have tW : (W != 0) = true := by simpa using hW0
  clear hfs hmp hfrom hapl
  go_wp2
  refine bodyPost_ret (results_disk (g := w.heap.size + 1 + 1) rfl (six_block gr2 _ _ _ _ _ _) rfl rfl rfl) rfl ?_
  exact ⟨rfl, six_below hb2' (by omega) _ _ _ _ _ _⟩

set_option maxRecDepth 100000 in
set_option maxHeartbeats 4000000 in
theorem refDo_down (room : Nat) (la : Option Addr) (ln lc : Nat) (rs : List FRef) (wa : Option Addr) (wn wc : Nat) (ws : List ARef) (armed : Int) (down : Bool) (deeds : Int) (r : ARef) (w : World) (hl : Fs w la ln lc rs) (hw : As w wa wn wc ws) (hrun : canRun (rs.map FRef.file) (ws.map ARef.act)) (hwn : wn ≤ 1000)
    (hkk : 0 ≤ r.kind ∧ r.kind ≤ 8 ∧ r.kind ≠ 6 ∧ r.kind ≠ 7) (hroom : room ≤ 1073741824) (hrn : r.n ≤ 1000) (hrz : r.zs.length = r.n) (W : Int) (hW : W = wrongR room down (foldF (rs.map FRef.file) (ws.map ARef.act)) r.act) (hus : usedF (foldF (rs.map FRef.file) (ws.map ARef.act)) ≤ 4294967296) (hln : (foldF (rs.map FRef.file) (ws.map ARef.act)).length ≤ 64) (hW0 : W = 0) (hk8 : r.kind ≠ 8) (ha : armed = 1) :
    Calls Try.prog 12 #[refDisk (room : Int) la ln lc wa wn wc armed down deeds, r.val] w fun e w' => e = .returned (.tuple #[refDisk (room : Int) la ln lc wa wn wc armed true deeds, .int .i64 3, .slice none 0 0]) ∧ Below w.heap.size w w' := by
  subst ha
  obtain ⟨w0, hx⟩ := boxes3 w (room : Int) la ln lc wa wn wc 1 down deeds r
  obtain ⟨hw0, gd, ga, gr, hsz, hb0⟩ := hx
  have hseen := refSeen_any (room : Int) la ln lc rs wa wn wc ws 1 down deeds w0 (hl.below hb0 (Nat.le_refl _)) (hw.below hb0 (Nat.le_refl _)) hrun hwn
  have t6 : (r.kind == 6) = false := by simp; omega
  have t7 : (r.kind == 7) = false := by simp; omega
  obtain ⟨d0, d1, d2, d3, d4, d5, _⟩ := six_cells gd
  obtain ⟨e0, e1, e2, e3, e4, e5, _⟩ := six_cells ga
  have HAW : Hid (As w wa wn wc ws) := hw
  have HLW : Hid (FIn (fun i => i < w.heap.size) la ln rs) := hl.fin
  unfold refDisk at hseen ⊢
  unfold ARef.val
  clear hl hw
  go_enter Try.func12, Try.ntmps12
  go_wp2_with fail
  refine hseen.mono ?_
  rintro e w1 ⟨a, n, c, rs', rfl, hfs, hmp, hb1, hfrom, hapl⟩
  have gd1 := (hb1.block w.heap.size (by omega)).trans gd
  have ga1 := (hb1.block (w.heap.size + 1) (by omega)).trans ga
  have gr1 := (hb1.block (w.heap.size + 2) (by omega)).trans gr
  have hb1' : Below w.heap.size w w1 := hb0.trans (hb1.mono (by omega))
  have hn64 : n ≤ 64 := by have := hfs.1; rw [← hmp, List.length_map] at hln; omega
  have hwr := wrong_any room la ln lc wa wn wc 1 down deeds a n c rs' r w1 hfs (by omega) (by rw [hmp]; exact hus) hroom hrn hrz hkk
  rw [hmp, ← hW] at hwr
  unfold refDisk ARef.val at hwr
  have hs1 := hb1.size
  clear gd ga gr hseen d0 d1 d2 d3 d4 d5 e0 e1 e2 e3 e4 e5 hw0 hW hrun
  obtain ⟨d0, d1, d2, d3, d4, d5, df⟩ := six_cells gd1
  obtain ⟨e0, e1, e2, e3, e4, e5, ef⟩ := six_cells ga1
  go_wp2_with fail
  refine hwr.mono ?_
  rintro e w2 ⟨rfl, hb2⟩
  have gd2 := (hb2.block w.heap.size (by omega)).trans gd1
  have ga2 := (hb2.block (w.heap.size + 1) (by omega)).trans ga1
  have gr2 := (hb2.block (w.heap.size + 2) (by omega)).trans gr1
  have hb2' : Below w.heap.size w w2 := hb1'.trans (hb2.mono (by omega))
  have hs2 := hb2.size
  clear hwr d0 d1 d2 d3 d4 d5 e0 e1 e2 e3 e4 e5 df ef gd1 ga1 gr1
  obtain ⟨d0, d1, d2, d3, d4, d5, df⟩ := six_cells gd2
  obtain ⟨e0, e1, e2, e3, e4, e5, ef⟩ := six_cells ga2
  obtain ⟨f0, f1, f2, f3, f4, f5, ff⟩ := six_cells gr2
  subst hW0
  have t8 : (r.kind == 8) = false := by simp [hk8]
  clear hfs hmp hfrom hapl
  go_wp2
  refine bodyPost_ret (results_disk (g := w.heap.size + 1 + 1) rfl (six_block ((set_other _ (by omega)).trans gr2) _ _ _ _ _ _) rfl rfl rfl) rfl ?_
  exact ⟨rfl, six_below (hb2'.setCell (p := ⟨w.heap.size, 4, none⟩) (Nat.le_refl _) _) (by omega) _ _ _ _ _ _⟩

set_option maxRecDepth 100000 in
set_option maxHeartbeats 4000000 in
theorem refDo_sync_a (room : Nat) (la : Option Addr) (ln lc : Nat) (rs : List FRef) (wa : Option Addr) (wn wc : Nat) (ws : List ARef) (armed : Int) (down : Bool) (deeds : Int) (r : ARef) (w : World) (hl : Fs w la ln lc rs) (hw : As w wa wn wc ws) (hrun : canRun (rs.map FRef.file) (ws.map ARef.act)) (hwn : wn ≤ 1000)
    (hkk : 0 ≤ r.kind ∧ r.kind ≤ 8 ∧ r.kind ≠ 6 ∧ r.kind ≠ 7) (hroom : room ≤ 1073741824) (hrn : r.n ≤ 1000) (hrz : r.zs.length = r.n) (W : Int) (hW : W = wrongR room down (foldF (rs.map FRef.file) (ws.map ARef.act)) r.act) (hus : usedF (foldF (rs.map FRef.file) (ws.map ARef.act)) ≤ 4294967296) (hln : (foldF (rs.map FRef.file) (ws.map ARef.act)).length ≤ 64) (hW0 : W = 0) (hk5 : r.kind = 5) (ha : 1 < armed) (hau : armed ≤ 9223372036854775807) (hdd : 0 ≤ deeds ∧ deeds ≤ 1000000) :
    Calls Try.prog 12 #[refDisk (room : Int) la ln lc wa wn wc armed down deeds, r.val] w fun e w' => ∃ a n c rs', e = .returned (.tuple #[refDisk (room : Int) a n c none 0 0 (armed - 1) down (deeds + 1), .int .i64 0, .slice none 0 0]) ∧ Fs w' a n c rs' ∧ rs'.map FRef.file = foldF (rs.map FRef.file) (ws.map ARef.act) ∧ From w rs rs' ∧ ((a = la ∧ n = ln) ∨ ∃ x, a = some x ∧ w.heap.size ≤ x.block ∨ a = none) ∧ Below w.heap.size w w' := by
  have t8 : (r.kind == 8) = false := by simp [hk5]
  have t5 : (r.kind == 5) = true := by simp [hk5]
  clear hk5
  obtain ⟨w0, hx⟩ := boxes3 w (room : Int) la ln lc wa wn wc armed down deeds r
  obtain ⟨hw0, gd, ga, gr, hsz, hb0⟩ := hx
  have hseen := refSeen_any (room : Int) la ln lc rs wa wn wc ws armed down deeds w0 (hl.below hb0 (Nat.le_refl _)) (hw.below hb0 (Nat.le_refl _)) hrun hwn
  have t6 : (r.kind == 6) = false := by simp; omega
  have t7 : (r.kind == 7) = false := by simp; omega
  obtain ⟨d0, d1, d2, d3, d4, d5, _⟩ := six_cells gd
  obtain ⟨e0, e1, e2, e3, e4, e5, _⟩ := six_cells ga
  have HAW : Hid (As w wa wn wc ws) := hw
  have HLW : Hid (FIn (fun i => i < w.heap.size) la ln rs) := hl.fin
  unfold refDisk at hseen ⊢
  unfold ARef.val
  clear hl hw
  go_enter Try.func12, Try.ntmps12
  go_wp2_with fail
  refine hseen.mono ?_
  rintro e w1 ⟨a, n, c, rs', rfl, hfs, hmp, hb1, hfrom, hapl⟩
  have gd1 := (hb1.block w.heap.size (by omega)).trans gd
  have ga1 := (hb1.block (w.heap.size + 1) (by omega)).trans ga
  have gr1 := (hb1.block (w.heap.size + 2) (by omega)).trans gr
  have hb1' : Below w.heap.size w w1 := hb0.trans (hb1.mono (by omega))
  have hn64 : n ≤ 64 := by have := hfs.1; rw [← hmp, List.length_map] at hln; omega
  have hwr := wrong_any room la ln lc wa wn wc armed down deeds a n c rs' r w1 hfs (by omega) (by rw [hmp]; exact hus) hroom hrn hrz hkk
  rw [hmp, ← hW] at hwr
  unfold refDisk ARef.val at hwr
  have hs1 := hb1.size
  clear gd ga gr hseen d0 d1 d2 d3 d4 d5 e0 e1 e2 e3 e4 e5 hw0 hW hrun
  obtain ⟨d0, d1, d2, d3, d4, d5, df⟩ := six_cells gd1
  obtain ⟨e0, e1, e2, e3, e4, e5, ef⟩ := six_cells ga1
  go_wp2_with fail
  refine hwr.mono ?_
  rintro e w2 ⟨rfl, hb2⟩
  have gd2 := (hb2.block w.heap.size (by omega)).trans gd1
  have ga2 := (hb2.block (w.heap.size + 1) (by omega)).trans ga1
  have gr2 := (hb2.block (w.heap.size + 2) (by omega)).trans gr1
  have hb2' : Below w.heap.size w w2 := hb1'.trans (hb2.mono (by omega))
  have hs2 := hb2.size
  clear hwr d0 d1 d2 d3 d4 d5 e0 e1 e2 e3 e4 e5 df ef gd1 ga1 gr1
  obtain ⟨d0, d1, d2, d3, d4, d5, df⟩ := six_cells gd2
  obtain ⟨e0, e1, e2, e3, e4, e5, ef⟩ := six_cells ga2
  obtain ⟨f0, f1, f2, f3, f4, f5, ff⟩ := six_cells gr2
  subst hW0
  have a1 : (armed == 1) = false := by simp; omega
  have a2 : (0 : Int) < armed := by omega
  have a3 : wrap64 (armed - 1) = armed - 1 := by unfold wrap64; omega
  have HF : Hid (Fs w1 a n c rs' ∧ rs'.map FRef.file = foldF (rs.map FRef.file) (ws.map ARef.act) ∧ From w0 rs rs' ∧ ((a = la ∧ n = ln) ∨ ∃ x, a = some x ∧ w0.heap.size ≤ x.block ∨ a = none)) := ⟨hfs, hmp, hfrom, hapl⟩
  clear hfs hmp hfrom hapl
  go_wp2
  refine bodyPost_ret (results_disk (g := w.heap.size + 1 + 1) rfl (six_block ((set_other _ (by omega)).trans ((set_other _ (by omega)).trans ((set_other _ (by omega)).trans ((set_other _ (by omega)).trans gr2)))) _ _ _ _ _ _) rfl rfl rfl) rfl ?_
  have hkp : Kp (fun i => w.heap.size ≤ i ∧ i < w0.heap.size) w2 (put6 ((((w2.setCell ⟨w.heap.size, 3, none⟩ (.int .i64 (armed - 1))).setCell ⟨w.heap.size, 5, none⟩ (.int .i64 (deeds + 1))).setCell ⟨w.heap.size, 1, none⟩ (.slice a n c)).setCell ⟨w.heap.size, 2, none⟩ (.slice none 0 0)) (w.heap.size + 1 + 1) (.int .i64 (room : Int)) (.slice a n c) (.slice none 0 0) (.int .i64 (armed - 1)) (.bool down) (.int .i64 (deeds + 1))) := (six_kp (((((Kp.refl _ w2).setCell (p := ⟨w.heap.size, 3, none⟩) (fun _ => ⟨Nat.le_refl _, show w.heap.size < w0.heap.size by omega⟩) _).setCell (p := ⟨w.heap.size, 5, none⟩) (fun _ => ⟨Nat.le_refl _, show w.heap.size < w0.heap.size by omega⟩) _).setCell (p := ⟨w.heap.size, 1, none⟩) (fun _ => ⟨Nat.le_refl _, show w.heap.size < w0.heap.size by omega⟩) _).setCell (p := ⟨w.heap.size, 2, none⟩) (fun _ => ⟨Nat.le_refl _, show w.heap.size < w0.heap.size by omega⟩) _) ⟨by omega, by omega⟩ _ _ _ _ _ _)
  refine ⟨a, n, c, rs', rfl, ?_, HF.out.2.1, HF.out.2.2.1.older (by omega), ?_, six_below ((((hb2'.setCell (p := ⟨w.heap.size, 3, none⟩) (Nat.le_refl _) _).setCell (p := ⟨w.heap.size, 5, none⟩) (Nat.le_refl _) _).setCell (p := ⟨w.heap.size, 1, none⟩) (Nat.le_refl _) _).setCell (p := ⟨w.heap.size, 2, none⟩) (Nat.le_refl _) _) (by omega) _ _ _ _ _ _⟩
  · refine (HF.out.1.below hb2 (Nat.le_refl _)).kp hkp ?_
    refine HLW.out.from HF.out.2.2.1 HF.out.2.2.2 HF.out.1 (fun i hi h => by omega) (fun i h1 h2 h => by omega)
  · rcases HF.out.2.2.2 with e | ⟨x, ⟨e1, e2⟩ | e1⟩
    · exact .inl e
    · exact .inr ⟨x, .inl ⟨e1, by omega⟩⟩
    · exact .inr ⟨x, .inr e1⟩

set_option maxRecDepth 100000 in
set_option maxHeartbeats 4000000 in
theorem refDo_sync_z (room : Nat) (la : Option Addr) (ln lc : Nat) (rs : List FRef) (wa : Option Addr) (wn wc : Nat) (ws : List ARef) (armed : Int) (down : Bool) (deeds : Int) (r : ARef) (w : World) (hl : Fs w la ln lc rs) (hw : As w wa wn wc ws) (hrun : canRun (rs.map FRef.file) (ws.map ARef.act)) (hwn : wn ≤ 1000)
    (hkk : 0 ≤ r.kind ∧ r.kind ≤ 8 ∧ r.kind ≠ 6 ∧ r.kind ≠ 7) (hroom : room ≤ 1073741824) (hrn : r.n ≤ 1000) (hrz : r.zs.length = r.n) (W : Int) (hW : W = wrongR room down (foldF (rs.map FRef.file) (ws.map ARef.act)) r.act) (hus : usedF (foldF (rs.map FRef.file) (ws.map ARef.act)) ≤ 4294967296) (hln : (foldF (rs.map FRef.file) (ws.map ARef.act)).length ≤ 64) (hW0 : W = 0) (hk5 : r.kind = 5) (ha : armed ≤ 0) (hau : armed ≤ 9223372036854775807) (hdd : 0 ≤ deeds ∧ deeds ≤ 1000000) :
    Calls Try.prog 12 #[refDisk (room : Int) la ln lc wa wn wc armed down deeds, r.val] w fun e w' => ∃ a n c rs', e = .returned (.tuple #[refDisk (room : Int) a n c none 0 0 armed down (deeds + 1), .int .i64 0, .slice none 0 0]) ∧ Fs w' a n c rs' ∧ rs'.map FRef.file = foldF (rs.map FRef.file) (ws.map ARef.act) ∧ From w rs rs' ∧ ((a = la ∧ n = ln) ∨ ∃ x, a = some x ∧ w.heap.size ≤ x.block ∨ a = none) ∧ Below w.heap.size w w' := by
  have t8 : (r.kind == 8) = false := by simp [hk5]
  have t5 : (r.kind == 5) = true := by simp [hk5]
  clear hk5
  obtain ⟨w0, hx⟩ := boxes3 w (room : Int) la ln lc wa wn wc armed down deeds r
  obtain ⟨hw0, gd, ga, gr, hsz, hb0⟩ := hx
  have hseen := refSeen_any (room : Int) la ln lc rs wa wn wc ws armed down deeds w0 (hl.below hb0 (Nat.le_refl _)) (hw.below hb0 (Nat.le_refl _)) hrun hwn
  have t6 : (r.kind == 6) = false := by simp; omega
  have t7 : (r.kind == 7) = false := by simp; omega
  obtain ⟨d0, d1, d2, d3, d4, d5, _⟩ := six_cells gd
  obtain ⟨e0, e1, e2, e3, e4, e5, _⟩ := six_cells ga
  have HAW : Hid (As w wa wn wc ws) := hw
  have HLW : Hid (FIn (fun i => i < w.heap.size) la ln rs) := hl.fin
  unfold refDisk at hseen ⊢
  unfold ARef.val
  clear hl hw
  go_enter Try.func12, Try.ntmps12
  go_wp2_with fail
  refine hseen.mono ?_
  rintro e w1 ⟨a, n, c, rs', rfl, hfs, hmp, hb1, hfrom, hapl⟩
  have gd1 := (hb1.block w.heap.size (by omega)).trans gd
  have ga1 := (hb1.block (w.heap.size + 1) (by omega)).trans ga
  have gr1 := (hb1.block (w.heap.size + 2) (by omega)).trans gr
  have hb1' : Below w.heap.size w w1 := hb0.trans (hb1.mono (by omega))
  have hn64 : n ≤ 64 := by have := hfs.1; rw [← hmp, List.length_map] at hln; omega
  have hwr := wrong_any room la ln lc wa wn wc armed down deeds a n c rs' r w1 hfs (by omega) (by rw [hmp]; exact hus) hroom hrn hrz hkk
  rw [hmp, ← hW] at hwr
  unfold refDisk ARef.val at hwr
  have hs1 := hb1.size
  clear gd ga gr hseen d0 d1 d2 d3 d4 d5 e0 e1 e2 e3 e4 e5 hw0 hW hrun
  obtain ⟨d0, d1, d2, d3, d4, d5, df⟩ := six_cells gd1
  obtain ⟨e0, e1, e2, e3, e4, e5, ef⟩ := six_cells ga1
  go_wp2_with fail
  refine hwr.mono ?_
  rintro e w2 ⟨rfl, hb2⟩
  have gd2 := (hb2.block w.heap.size (by omega)).trans gd1
  have ga2 := (hb2.block (w.heap.size + 1) (by omega)).trans ga1
  have gr2 := (hb2.block (w.heap.size + 2) (by omega)).trans gr1
  have hb2' : Below w.heap.size w w2 := hb1'.trans (hb2.mono (by omega))
  have hs2 := hb2.size
  clear hwr d0 d1 d2 d3 d4 d5 e0 e1 e2 e3 e4 e5 df ef gd1 ga1 gr1
  obtain ⟨d0, d1, d2, d3, d4, d5, df⟩ := six_cells gd2
  obtain ⟨e0, e1, e2, e3, e4, e5, ef⟩ := six_cells ga2
  obtain ⟨f0, f1, f2, f3, f4, f5, ff⟩ := six_cells gr2
  subst hW0
  have a1 : (armed == 1) = false := by simp; omega
  have a2 : ¬ (0 : Int) < armed := by omega
  have HF : Hid (Fs w1 a n c rs' ∧ rs'.map FRef.file = foldF (rs.map FRef.file) (ws.map ARef.act) ∧ From w0 rs rs' ∧ ((a = la ∧ n = ln) ∨ ∃ x, a = some x ∧ w0.heap.size ≤ x.block ∨ a = none)) := ⟨hfs, hmp, hfrom, hapl⟩
  clear hfs hmp hfrom hapl
  go_wp2
  refine bodyPost_ret (results_disk (g := w.heap.size + 1 + 1) rfl (six_block ((set_other _ (by omega)).trans ((set_other _ (by omega)).trans ((set_other _ (by omega)).trans gr2))) _ _ _ _ _ _) rfl rfl rfl) rfl ?_
  have hkp : Kp (fun i => w.heap.size ≤ i ∧ i < w0.heap.size) w2 (put6 (((w2.setCell ⟨w.heap.size, 5, none⟩ (.int .i64 (deeds + 1))).setCell ⟨w.heap.size, 1, none⟩ (.slice a n c)).setCell ⟨w.heap.size, 2, none⟩ (.slice none 0 0)) (w.heap.size + 1 + 1) (.int .i64 (room : Int)) (.slice a n c) (.slice none 0 0) (.int .i64 armed) (.bool down) (.int .i64 (deeds + 1))) := (six_kp ((((Kp.refl _ w2).setCell (p := ⟨w.heap.size, 5, none⟩) (fun _ => ⟨Nat.le_refl _, show w.heap.size < w0.heap.size by omega⟩) _).setCell (p := ⟨w.heap.size, 1, none⟩) (fun _ => ⟨Nat.le_refl _, show w.heap.size < w0.heap.size by omega⟩) _).setCell (p := ⟨w.heap.size, 2, none⟩) (fun _ => ⟨Nat.le_refl _, show w.heap.size < w0.heap.size by omega⟩) _) ⟨by omega, by omega⟩ _ _ _ _ _ _)
  refine ⟨a, n, c, rs', rfl, ?_, HF.out.2.1, HF.out.2.2.1.older (by omega), ?_, six_below (((hb2'.setCell (p := ⟨w.heap.size, 5, none⟩) (Nat.le_refl _) _).setCell (p := ⟨w.heap.size, 1, none⟩) (Nat.le_refl _) _).setCell (p := ⟨w.heap.size, 2, none⟩) (Nat.le_refl _) _) (by omega) _ _ _ _ _ _⟩
  · refine (HF.out.1.below hb2 (Nat.le_refl _)).kp hkp ?_
    refine HLW.out.from HF.out.2.2.1 HF.out.2.2.2 HF.out.1 (fun i hi h => by omega) (fun i h1 h2 h => by omega)
  · rcases HF.out.2.2.2 with e | ⟨x, ⟨e1, e2⟩ | e1⟩
    · exact .inl e
    · exact .inr ⟨x, .inl ⟨e1, by omega⟩⟩
    · exact .inr ⟨x, .inr e1⟩

end Go.Proofs.Ytngkapddobgfaaa
