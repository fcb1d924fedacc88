/-
  What the document's Do returns where a file is read.
-/
import Derived.Test.YtngkapddobgfaaaDiskRefDo2
namespace Go.Proofs.Ytngkapddobgfaaa
open Go.RowKit Go.Maps
set_option linter.unusedVariables false

theorem six_keep {w : World} {g k i : Nat} {v : Value} (h : k ≠ g) (a b c d e f : Value) (hc : w.cell? ⟨k, i, none⟩ = some v) : (put6 w g a b c d e f).cell? ⟨k, i, none⟩ = some v := by
  refine (World.cell?_of_block ?_).trans hc
  unfold put6
  rw [set_other _ h, set_other _ h, set_other _ h, set_other _ h, set_other _ h, set_other _ h]
theorem Hid.mk' {p : Prop} (h : p) : Hid p := h
theorem Kp.eqw {S : Nat → Prop} {w w1 : World} (h : Kp S w w1) {w2 : World} (e : w1.drew = w2) : Kp S w w2 := by rw [← e]; exact h.drew
theorem six_drew {w : World} {g : Nat} {a0 b0 c0 d0 e0 f0 : Value} {t : TypeId} (h : w.heap[g]? = some (.cells #[a0, b0, c0, d0, e0, f0] t (0, 0))) (a b c d e f : Value) :
    ∃ wz, ((((((w.setCell ⟨g, 0, none⟩ a).setCell ⟨g, 1, none⟩ b).setCell ⟨g, 2, none⟩ c).setCell ⟨g, 3, none⟩ d).setCell ⟨g, 4, none⟩ e).setCell ⟨g, 5, none⟩ f).drew = wz ∧ wz.heap[g]? = some (.cells #[a, b, c, d, e, f] t (0, 0)) ∧ Kp (fun i => i = g) w wz ∧ ∀ B w0, Below B w0 w → B ≤ g → Below B w0 wz := by
  obtain ⟨wp, hwp⟩ : ∃ wp, wp = put6 w g a b c d e f := ⟨_, rfl⟩
  have h1 := six_block h a b c d e f
  have h2 := six_kp (Kp.refl (fun i => i = g) w) rfl a b c d e f
  have h3 : ∀ B w0, Below B w0 w → B ≤ g → Below B w0 (put6 w g a b c d e f) := fun B w0 hb hB => six_below hb hB a b c d e f
  rw [← hwp] at h1 h2 h3
  refine ⟨wp.drew, ?_, ?_, h2.drew, fun B w0 hb hB => (h3 B w0 hb hB).drew⟩
  · rw [hwp]; unfold put6; rfl
  · exact h1
theorem six_keep8 {w : World} {g m k i k' i' : Nat} {v v' v0 v1 v2 v3 v4 v5 : Value} (h0 : m ≠ g) (h : k ≠ g) (h' : k' ≠ g) (a b c d e f : Value) (hc : w.cell? ⟨m, 0, none⟩ = some v0 ∧ w.cell? ⟨m, 1, none⟩ = some v1 ∧ w.cell? ⟨m, 2, none⟩ = some v2 ∧ w.cell? ⟨m, 3, none⟩ = some v3 ∧ w.cell? ⟨m, 4, none⟩ = some v4 ∧ w.cell? ⟨m, 5, none⟩ = some v5 ∧ w.cell? ⟨k, i, none⟩ = some v ∧ w.cell? ⟨k', i', none⟩ = some v') : ((((((w.setCell ⟨g, 0, none⟩ a).setCell ⟨g, 1, none⟩ b).setCell ⟨g, 2, none⟩ c).setCell ⟨g, 3, none⟩ d).setCell ⟨g, 4, none⟩ e).setCell ⟨g, 5, none⟩ f).cell? ⟨m, 0, none⟩ = some v0 ∧ ((((((w.setCell ⟨g, 0, none⟩ a).setCell ⟨g, 1, none⟩ b).setCell ⟨g, 2, none⟩ c).setCell ⟨g, 3, none⟩ d).setCell ⟨g, 4, none⟩ e).setCell ⟨g, 5, none⟩ f).cell? ⟨m, 1, none⟩ = some v1 ∧ ((((((w.setCell ⟨g, 0, none⟩ a).setCell ⟨g, 1, none⟩ b).setCell ⟨g, 2, none⟩ c).setCell ⟨g, 3, none⟩ d).setCell ⟨g, 4, none⟩ e).setCell ⟨g, 5, none⟩ f).cell? ⟨m, 2, none⟩ = some v2 ∧ ((((((w.setCell ⟨g, 0, none⟩ a).setCell ⟨g, 1, none⟩ b).setCell ⟨g, 2, none⟩ c).setCell ⟨g, 3, none⟩ d).setCell ⟨g, 4, none⟩ e).setCell ⟨g, 5, none⟩ f).cell? ⟨m, 3, none⟩ = some v3 ∧ ((((((w.setCell ⟨g, 0, none⟩ a).setCell ⟨g, 1, none⟩ b).setCell ⟨g, 2, none⟩ c).setCell ⟨g, 3, none⟩ d).setCell ⟨g, 4, none⟩ e).setCell ⟨g, 5, none⟩ f).cell? ⟨m, 4, none⟩ = some v4 ∧ ((((((w.setCell ⟨g, 0, none⟩ a).setCell ⟨g, 1, none⟩ b).setCell ⟨g, 2, none⟩ c).setCell ⟨g, 3, none⟩ d).setCell ⟨g, 4, none⟩ e).setCell ⟨g, 5, none⟩ f).cell? ⟨m, 5, none⟩ = some v5 ∧ ((((((w.setCell ⟨g, 0, none⟩ a).setCell ⟨g, 1, none⟩ b).setCell ⟨g, 2, none⟩ c).setCell ⟨g, 3, none⟩ d).setCell ⟨g, 4, none⟩ e).setCell ⟨g, 5, none⟩ f).cell? ⟨k, i, none⟩ = some v ∧ ((((((w.setCell ⟨g, 0, none⟩ a).setCell ⟨g, 1, none⟩ b).setCell ⟨g, 2, none⟩ c).setCell ⟨g, 3, none⟩ d).setCell ⟨g, 4, none⟩ e).setCell ⟨g, 5, none⟩ f).cell? ⟨k', i', none⟩ = some v' := ⟨six_keep h0 _ _ _ _ _ _ hc.1, six_keep h0 _ _ _ _ _ _ hc.2.1, six_keep h0 _ _ _ _ _ _ hc.2.2.1, six_keep h0 _ _ _ _ _ _ hc.2.2.2.1, six_keep h0 _ _ _ _ _ _ hc.2.2.2.2.1, six_keep h0 _ _ _ _ _ _ hc.2.2.2.2.2.1, six_keep h _ _ _ _ _ _ hc.2.2.2.2.2.2.1, six_keep h' _ _ _ _ _ _ hc.2.2.2.2.2.2.2⟩
theorem drew_cell (w : World) (p : Addr) : w.drew.cell? p = w.cell? p := rfl
theorem six_keep8d {w : World} {g m k i k' i' : Nat} {v v' v0 v1 v2 v3 v4 v5 : Value} (h0 : m ≠ g) (h : k ≠ g) (h' : k' ≠ g) (a b c d e f : Value) (hc : w.cell? ⟨m, 0, none⟩ = some v0 ∧ w.cell? ⟨m, 1, none⟩ = some v1 ∧ w.cell? ⟨m, 2, none⟩ = some v2 ∧ w.cell? ⟨m, 3, none⟩ = some v3 ∧ w.cell? ⟨m, 4, none⟩ = some v4 ∧ w.cell? ⟨m, 5, none⟩ = some v5 ∧ w.cell? ⟨k, i, none⟩ = some v ∧ w.cell? ⟨k', i', none⟩ = some v') : ((((((w.setCell ⟨g, 0, none⟩ a).setCell ⟨g, 1, none⟩ b).setCell ⟨g, 2, none⟩ c).setCell ⟨g, 3, none⟩ d).setCell ⟨g, 4, none⟩ e).setCell ⟨g, 5, none⟩ f).drew.cell? ⟨m, 0, none⟩ = some v0 ∧ ((((((w.setCell ⟨g, 0, none⟩ a).setCell ⟨g, 1, none⟩ b).setCell ⟨g, 2, none⟩ c).setCell ⟨g, 3, none⟩ d).setCell ⟨g, 4, none⟩ e).setCell ⟨g, 5, none⟩ f).drew.cell? ⟨m, 1, none⟩ = some v1 ∧ ((((((w.setCell ⟨g, 0, none⟩ a).setCell ⟨g, 1, none⟩ b).setCell ⟨g, 2, none⟩ c).setCell ⟨g, 3, none⟩ d).setCell ⟨g, 4, none⟩ e).setCell ⟨g, 5, none⟩ f).drew.cell? ⟨m, 2, none⟩ = some v2 ∧ ((((((w.setCell ⟨g, 0, none⟩ a).setCell ⟨g, 1, none⟩ b).setCell ⟨g, 2, none⟩ c).setCell ⟨g, 3, none⟩ d).setCell ⟨g, 4, none⟩ e).setCell ⟨g, 5, none⟩ f).drew.cell? ⟨m, 3, none⟩ = some v3 ∧ ((((((w.setCell ⟨g, 0, none⟩ a).setCell ⟨g, 1, none⟩ b).setCell ⟨g, 2, none⟩ c).setCell ⟨g, 3, none⟩ d).setCell ⟨g, 4, none⟩ e).setCell ⟨g, 5, none⟩ f).drew.cell? ⟨m, 4, none⟩ = some v4 ∧ ((((((w.setCell ⟨g, 0, none⟩ a).setCell ⟨g, 1, none⟩ b).setCell ⟨g, 2, none⟩ c).setCell ⟨g, 3, none⟩ d).setCell ⟨g, 4, none⟩ e).setCell ⟨g, 5, none⟩ f).drew.cell? ⟨m, 5, none⟩ = some v5 ∧ ((((((w.setCell ⟨g, 0, none⟩ a).setCell ⟨g, 1, none⟩ b).setCell ⟨g, 2, none⟩ c).setCell ⟨g, 3, none⟩ d).setCell ⟨g, 4, none⟩ e).setCell ⟨g, 5, none⟩ f).drew.cell? ⟨k, i, none⟩ = some v ∧ ((((((w.setCell ⟨g, 0, none⟩ a).setCell ⟨g, 1, none⟩ b).setCell ⟨g, 2, none⟩ c).setCell ⟨g, 3, none⟩ d).setCell ⟨g, 4, none⟩ e).setCell ⟨g, 5, none⟩ f).drew.cell? ⟨k', i', none⟩ = some v' := by
  simp only [drew_cell]
  exact six_keep8 h0 h h' _ _ _ _ _ _ hc

set_option maxRecDepth 100000 in
set_option maxHeartbeats 1000000 in
theorem refDo_read (room : Nat) (la : Option Addr) (ln lc : Nat) (rs : List FRef) (wa : Option Addr) (wn wc : Nat) (ws : List ARef) (armed : Int) (down : Bool) (deeds : Int) (r : ARef) (w : World) (hl : Fs w la ln lc rs) (hw : As w wa wn wc ws) (hrun : canRun (rs.map FRef.file) (ws.map ARef.act)) (hwn : wn ≤ 1000)
    (hkk : 0 ≤ r.kind ∧ r.kind ≤ 8 ∧ r.kind ≠ 6 ∧ r.kind ≠ 7) (hroom : room ≤ 1073741824) (hrn : r.n ≤ 1000) (hrz : r.zs.length = r.n) (W : Int) (hW : W = wrongR room down (foldF (rs.map FRef.file) (ws.map ARef.act)) r.act) (hus : usedF (foldF (rs.map FRef.file) (ws.map ARef.act)) ≤ 4294967296) (hln : (foldF (rs.map FRef.file) (ws.map ARef.act)).length ≤ 64) (hW0 : W = 0) (hk8 : r.kind = 8) (hfd : (findF (foldF (rs.map FRef.file) (ws.map ARef.act)) r.name.toList).isSome = true) :
    Calls Try.prog 12 #[refDisk (room : Int) la ln lc wa wn wc armed down deeds, r.val] w fun e w' => ∃ a n c, e = .returned (.tuple #[refDisk (room : Int) la ln lc wa wn wc armed down deeds, .int .i64 0, .slice a n c]) ∧ Bs w' a n (bytesF (foldF (rs.map FRef.file) (ws.map ARef.act)) r.name.toList) ∧ Below w.heap.size w w' ∧ ((∃ q ∈ rs, a = q.a ∧ n ≤ q.n) ∨ a = none ∨ ∃ x, a = some x ∧ w.heap.size ≤ x.block) := by
  have t8 : (r.kind == 8) = true := by simp [hk8]
  clear hk8
  obtain ⟨w0, hx⟩ := boxes3 w (room : Int) la ln lc wa wn wc armed down deeds r
  obtain ⟨hw0, gd, ga, gr, hsz, hb0⟩ := hx
  have hseen := refSeen_any (room : Int) la ln lc rs wa wn wc ws armed down deeds w0 (hl.below hb0 (Nat.le_refl _)) (hw.below hb0 (Nat.le_refl _)) hrun hwn
  have t6 : (r.kind == 6) = false := by simp; omega
  have t7 : (r.kind == 7) = false := by simp; omega
  obtain ⟨d0, d1, d2, d3, d4, d5, _⟩ := six_cells gd
  obtain ⟨e0, e1, e2, e3, e4, e5, _⟩ := six_cells ga
  have HAW : Hid (As w wa wn wc ws) := hw
  have HLW : Hid (FIn (fun i => i < w.heap.size) la ln rs) := hl.fin
  unfold refDisk at hseen ⊢
  unfold ARef.val
  clear hl hw
  go_enter Try.func12, Try.ntmps12
  go_wp2_with fail
  refine hseen.mono ?_
  rintro e w1 ⟨a, n, c, rs', rfl, hfs, hmp, hb1, hfrom, hapl⟩
  have gd1 := (hb1.block w.heap.size (by omega)).trans gd
  have ga1 := (hb1.block (w.heap.size + 1) (by omega)).trans ga
  have gr1 := (hb1.block (w.heap.size + 2) (by omega)).trans gr
  have hb1' : Below w.heap.size w w1 := hb0.trans (hb1.mono (by omega))
  have hn64 : n ≤ 64 := by have := hfs.1; rw [← hmp, List.length_map] at hln; omega
  have hwr := wrong_any room la ln lc wa wn wc armed down deeds a n c rs' r w1 hfs (by omega) (by rw [hmp]; exact hus) hroom hrn hrz hkk
  rw [hmp, ← hW] at hwr
  unfold refDisk ARef.val at hwr
  have hs1 := hb1.size
  clear gd ga gr hseen d0 d1 d2 d3 d4 d5 e0 e1 e2 e3 e4 e5 hw0 hW hrun
  obtain ⟨d0, d1, d2, d3, d4, d5, df⟩ := six_cells gd1
  obtain ⟨e0, e1, e2, e3, e4, e5, ef⟩ := six_cells ga1
  go_wp2_with fail
  refine hwr.mono ?_
  rintro e w2 ⟨rfl, hb2⟩
  have gd2 := (hb2.block w.heap.size (by omega)).trans gd1
  have ga2 := (hb2.block (w.heap.size + 1) (by omega)).trans ga1
  have gr2 := (hb2.block (w.heap.size + 2) (by omega)).trans gr1
  have hb2' : Below w.heap.size w w2 := hb1'.trans (hb2.mono (by omega))
  have hs2 := hb2.size
  clear hwr d0 d1 d2 d3 d4 d5 e0 e1 e2 e3 e4 e5 df ef gd1 ga1 gr1
  obtain ⟨d0, d1, d2, d3, d4, d5, df⟩ := six_cells gd2
  obtain ⟨e0, e1, e2, e3, e4, e5, ef⟩ := six_cells ga2
  obtain ⟨f0, f1, f2, f3, f4, f5, ff⟩ := six_cells gr2
  subst hW0
  have HF : Hid (Fs w1 a n c rs' ∧ rs'.map FRef.file = foldF (rs.map FRef.file) (ws.map ARef.act) ∧ From w0 rs rs' ∧ ((a = la ∧ n = ln) ∨ ∃ x, a = some x ∧ w0.heap.size ≤ x.block ∨ a = none)) := ⟨hfs, hmp, hfrom, hapl⟩
  have hfs2 := hfs.below hb2 (Nat.le_refl _)
  obtain ⟨i, hi, hz, hil⟩ := findZ_some hfd
  rw [← hmp, List.length_map, ← hfs.1] at hil
  obtain ⟨bb, off, g, rfl, hg, hgo, c1, c2⟩ := hfs2.at hil
  have hbytes : bytesF (foldF (rs.map FRef.file) (ws.map ARef.act)) r.name.toList = g.zs := by
    unfold bytesF
    rw [hi, ← hmp]
    simp [List.getD_eq_getElem?_getD, List.getElem?_map, hg, FRef.file]
  rw [← hmp] at hz
  have HFD : Hid (∀ w', Below w2.heap.size w2 w' → Calls Try.prog 36 #[.slice (some ⟨bb, off, none⟩) n c, .string r.name] w' fun e w'' => e = .returned (.int .i64 (i : Int)) ∧ w'' = w') := fun w' hb => by
    have h5 := refFind_any (some ⟨bb, off, none⟩) n c rs' r.name w' (hfs2.below hb (Nat.le_refl _)) (by omega)
    rw [hz] at h5
    exact h5
  have HB : Hid (bytesF (foldF (rs.map FRef.file) (ws.map ARef.act)) r.name.toList = g.zs) := hbytes
  have hbs := hgo.2.2.2
  have HGF := Hid.mk' ((hfrom.older (w := w) (by omega)) g (List.mem_of_getElem? hg))
  have hbi : w.heap.size + 2 ≠ bb := by
    have h5 := HLW.out.from HF.out.2.2.1 HF.out.2.2.2 HF.out.1 (T' := fun i => i < w.heap.size ∨ w0.heap.size ≤ i) (fun i h => .inl h) (fun i h1 h2 => .inr h1)
    have h6 := h5.1 ⟨bb, off, none⟩ rfl (by omega)
    have h7 : bb < w.heap.size ∨ w0.heap.size ≤ bb := h6
    omega
  have HGI : Hid (∀ x, g.a = some x → 0 < g.n → x.block ≠ w.heap.size + 1 + 1) := fun x hx h0 e => by
    have h5 := HLW.out.from HF.out.2.2.1 HF.out.2.2.2 HF.out.1 (T' := fun i => i < w.heap.size ∨ w0.heap.size ≤ i) (fun i h => .inl h) (fun i h1 h2 => .inr h1)
    have h7 : x.block < w.heap.size ∨ w0.heap.size ≤ x.block := h5.2 g (List.mem_of_getElem? hg) x hx h0
    omega
  obtain ⟨wz, hz1, hz2, hz3, hz4⟩ := six_drew (g := w.heap.size + 1 + 1) gr2 (.int .i64 (room : Int)) (.slice la ln lc) (.slice wa wn wc) (.int .i64 armed) (.bool down) (.int .i64 deeds)
  have hz5 := bs_kp hbs hz3 (fun x hx h0 e => HGI.out x hx h0 e)
  rw [← HB.out] at hz5
  have HWZ := Hid.mk' (And.intro hz1 (And.intro hz2 (And.intro (hz4 w.heap.size w hb2' (by omega)) hz5)))
  clear hz1 hz2 hz3 hz4 hz5
  have hne0 : w.heap.size ≠ w.heap.size + 1 + 1 := by omega
  have hne1 : w.heap.size + 1 ≠ w.heap.size + 1 + 1 := by omega
  have hne2 : bb ≠ w.heap.size + 1 + 1 := fun e => hbi e.symm
  have hS0 : w2.drew.cell? ⟨w.heap.size, 0, none⟩ = some (.int .i64 (room : Int)) ∧ w2.drew.cell? ⟨w.heap.size, 1, none⟩ = some (.slice la ln lc) ∧ w2.drew.cell? ⟨w.heap.size, 2, none⟩ = some (.slice wa wn wc) ∧ w2.drew.cell? ⟨w.heap.size, 3, none⟩ = some (.int .i64 armed) ∧ w2.drew.cell? ⟨w.heap.size, 4, none⟩ = some (.bool down) ∧ w2.drew.cell? ⟨w.heap.size, 5, none⟩ = some (.int .i64 deeds) ∧ w2.drew.cell? ⟨w.heap.size + 1, 1, none⟩ = some (.string r.name) ∧ w2.drew.cell? ⟨bb, off + i * 2 + 1, none⟩ = some (.slice g.a g.n g.c) := ⟨d0, d1, d2, d3, d4, d5, e1, c2⟩
  have hSb : w2.cell? ⟨w.heap.size, 0, none⟩ = some (.int .i64 (room : Int)) ∧ w2.cell? ⟨w.heap.size, 1, none⟩ = some (.slice la ln lc) ∧ w2.cell? ⟨w.heap.size, 2, none⟩ = some (.slice wa wn wc) ∧ w2.cell? ⟨w.heap.size, 3, none⟩ = some (.int .i64 armed) ∧ w2.cell? ⟨w.heap.size, 4, none⟩ = some (.bool down) ∧ w2.cell? ⟨w.heap.size, 5, none⟩ = some (.int .i64 deeds) ∧ w2.cell? ⟨w.heap.size + 1, 1, none⟩ = some (.string r.name) ∧ w2.cell? ⟨bb, off + i * 2 + 1, none⟩ = some (.slice g.a g.n g.c) := ⟨d0, d1, d2, d3, d4, d5, e1, c2⟩
  have ix1 : (i : Int) < (n : Int) := by omega
  have ix2 : (0 : Int) ≤ (i : Int) := by omega
  clear hfs hfrom hapl hmp hfs2 hi hz hfd hg hgo hbytes
  go_wp2_with fail
  go_region_held3 (fun w' => w'.cell? ⟨w.heap.size, 0, none⟩ = some (.int .i64 (room : Int)) ∧ w'.cell? ⟨w.heap.size, 1, none⟩ = some (.slice la ln lc) ∧ w'.cell? ⟨w.heap.size, 2, none⟩ = some (.slice wa wn wc) ∧ w'.cell? ⟨w.heap.size, 3, none⟩ = some (.int .i64 armed) ∧ w'.cell? ⟨w.heap.size, 4, none⟩ = some (.bool down) ∧ w'.cell? ⟨w.heap.size, 5, none⟩ = some (.int .i64 deeds) ∧ w'.cell? ⟨w.heap.size + 1, 1, none⟩ = some (.string r.name) ∧ w'.cell? ⟨bb, off + i * 2 + 1, none⟩ = some (.slice g.a g.n g.c)) (first | with_reducible exact hS0 | with_reducible exact hSb | with_reducible exact six_keep8d hne0 hne1 hne2 _ _ _ _ _ _ hSb | with_reducible exact six_keep8 hne0 hne1 hne2 _ _ _ _ _ _ hS0 | with_reducible exact six_keep8 hne0 hne1 hne2 _ _ _ _ _ _ hSb | with_reducible exact six_keep8d hne0 hne1 hne2 _ _ _ _ _ _ hS0)
    (first
      | (go_at_call 36; refine (HFD.out _ (by first | exact Below.refl _ _ | exact (Below.refl _ _).drew | exact (Below.refl _ _).drew.drew)).mono ?_; rintro e w3 ⟨rfl, rfl⟩; dsimp only))
  all_goals rw [HWZ.out.1]
  all_goals go_wp2
  all_goals refine bodyPost_ret (results_disk (g := w.heap.size + 1 + 1) rfl HWZ.out.2.1 rfl rfl rfl) rfl ?_
  all_goals exact ⟨g.a, g.n, g.c, rfl, HWZ.out.2.2.2, HWZ.out.2.2.1, HGF.out⟩

end Go.Proofs.Ytngkapddobgfaaa
