/-
  What the document's Do returns where the disk crashes, and an append is torn.
-/
import Derived.Test.YtngkapddobgfaaaDiskRefTorn
import Derived.Deep.CutRange
namespace Go.Proofs.Ytngkapddobgfaaa
open Go.RowKit Go.Maps
set_option linter.unusedVariables false

set_option maxRecDepth 100000 in
set_option maxHeartbeats 1000000 in
theorem refDo_crash_torn (room : Nat) (la : Option Addr) (ln lc : Nat) (rs : List FRef) (wa : Option Addr) (wn wq : Nat) (ws : List ARef) (armed : Int) (down : Bool) (deeds : Int) (r : ARef) (w : World) (hl : Fs w la ln lc rs) (hw : As w wa wn wq ws) (hrun : canRun (rs.map FRef.file) (ws.map ARef.act)) (hwn : wn ≤ 1000) (hk : r.kind = 7) (q : ARef) (hqk : ws[(cutZ r.num (wn : Int)).toNat]? = some q) (hqq : q.kind = 1) :
    Calls Try.prog 12 #[refDisk (room : Int) la ln lc wa wn wq armed down deeds, r.val] w fun e w' => ∃ a n c rs', e = .returned (.tuple #[refDisk (room : Int) a n c none 0 0 0 false deeds, .int .i64 0, .slice none 0 0]) ∧ Fs w' a n c rs' ∧ rs'.map FRef.file = foldF (rs.map FRef.file) (crashA (ws.map ARef.act) r.num r.torn) ∧ From w rs rs' ∧ ((a = la ∧ n = ln) ∨ ∃ x, a = some x ∧ w.heap.size ≤ x.block ∨ a = none) ∧ Below w.heap.size w w' := by
  obtain ⟨w0, hx⟩ := boxes3 w (room : Int) la ln lc wa wn wq armed down deeds r
  obtain ⟨hw0, gd, ga, gr, hsz, hb0⟩ := hx
  have hseen := refSeen_any (room : Int) la ln lc rs wa wn wq ws armed down deeds w0 (hl.below hb0 (Nat.le_refl _)) (hw.below hb0 (Nat.le_refl _)) hrun hwn
  have t6 : (r.kind == 6) = false := by simp [hk]
  have t7 : (r.kind == 7) = true := by simp [hk]
  obtain ⟨d0, d1, d2, d3, d4, d5, _⟩ := six_cells gd
  obtain ⟨e0, e1, e2, e3, e4, e5, _⟩ := six_cells ga
  have HAW : Hid (As w wa wn wq ws) := hw
  have HFW : Hid (Fs w la ln lc rs) := hl
  have HRN : Hid (canRun (rs.map FRef.file) (ws.map ARef.act)) := hrun
  have HLW : Hid (FIn (fun i => i < w.heap.size) la ln rs) := hl.fin
  unfold refDisk at hseen ⊢
  unfold ARef.val
  have HNO := Hid.mk' (And.intro hqk hqq)
  clear hk hl hw hrun hqk hqq
  go_enter Try.func12, Try.ntmps12
  go_wp2_with fail
  refine hseen.mono ?_
  rintro e w1 ⟨a, n, c, rs', rfl, _, _, hb1, _, _⟩
  have gd1 := (hb1.block w.heap.size (by omega)).trans gd
  have ga1 := (hb1.block (w.heap.size + 1) (by omega)).trans ga
  have gr1 := (hb1.block (w.heap.size + 2) (by omega)).trans gr
  have hb1' : Below w.heap.size w w1 := hb0.trans (hb1.mono (by omega))
  have hs1 := hb1.size
  clear gd ga gr hseen hb1 d0 d1 d2 d3 d4 d5 e0 e1 e2 e3 e4 e5 hw0
  obtain ⟨d0, d1, d2, d3, d4, d5, df⟩ := six_cells gd1
  obtain ⟨e0, e1, e2, e3, e4, e5, ef⟩ := six_cells ga1
  obtain ⟨f0, f1, f2, f3, f4, f5, ff⟩ := six_cells gr1
  have hcut := refCut_any r.num (wn : Int) w1
  obtain ⟨k, hk1, hk2⟩ : ∃ k : Nat, cutZ r.num (wn : Int) = (k : Int) ∧ k ≤ wn := by
    refine ⟨(cutZ r.num (wn : Int)).toNat, ?_, ?_⟩
    · unfold cutZ; split
      · rfl
      · split <;> omega
    · unfold cutZ; split
      · omega
      · split <;> omega
  rw [hk1] at hcut
  have HKK : Hid (cutZ r.num (wn : Int) = (k : Int)) := hk1
  clear hk1
  go_wp2_with fail
  refine hcut.mono ?_
  rintro e w2 ⟨rfl, rfl⟩
  go_upto_region 8 with fail
  have HK : Hid (∀ w', Below w2.heap.size w2 w' → w'.cell? ⟨w.heap.size, 0, none⟩ = some (.int .i64 (room : Int)) ∧ w'.cell? ⟨w.heap.size, 1, none⟩ = some (.slice la ln lc) ∧ w'.cell? ⟨w.heap.size, 2, none⟩ = some (.slice wa wn wq) ∧ w'.cell? ⟨w.heap.size, 3, none⟩ = some (.int .i64 armed) ∧ w'.cell? ⟨w.heap.size, 4, none⟩ = some (.bool down) ∧ w'.cell? ⟨w.heap.size, 5, none⟩ = some (.int .i64 deeds)) := fun w' h => by
    have h5 := (h.block w.heap.size (by omega)).trans gd1
    obtain ⟨z0, z1, z2, z3, z4, z5, _⟩ := six_cells h5
    exact ⟨z0, z1, z2, z3, z4, z5⟩
  have hAs2 := HAW.out.below hb1' (Nat.le_refl _)
  have hFs2 := HFW.out.below hb1' (Nat.le_refl _)
  have HSN : Hid (∀ w', Below w2.heap.size w2 w' → Calls Try.prog 19 #[.agg #[.int .i64 0, .slice la ln lc, .slice wa k wq, .int .i64 0, .bool false, .int .i64 0]] w' fun e w'' => ∃ a n c rs', e = .returned (.slice a n c) ∧ Fs w'' a n c rs' ∧ rs'.map FRef.file = foldF (rs.map FRef.file) ((ws.take k).map ARef.act) ∧ Below w'.heap.size w' w'' ∧ From w' rs rs' ∧ ((a = la ∧ n = ln) ∨ ∃ x, a = some x ∧ w'.heap.size ≤ x.block ∨ a = none)) := fun w' h => by
    have hrk : canRun (rs.map FRef.file) ((ws.take k).map ARef.act) := by rw [List.map_take]; exact HRN.out.take k
    exact refSeen_any 0 la ln lc rs wa k wq (ws.take k) 0 false 0 w' (hFs2.below h (Nat.le_refl _)) ((As.take hAs2 hk2).below h (Nat.le_refl _)) hrk (by omega)
  have B0 : Below w2.heap.size w2 (w2.alloc (.cells #[.int .i64 0, .slice none 0 0, .slice none 0 0, .int .i64 0, .bool false, .int .i64 0] 31)).drew := ((Below.refl _ _).alloc (Nat.le_refl _) _).drew
  have HZB : Hid ((w2.alloc (.cells #[.int .i64 0, .slice none 0 0, .slice none 0 0, .int .i64 0, .bool false, .int .i64 0] 31)).drew.heap[w2.heap.size]? = some (.cells #[.int .i64 0, .slice none 0 0, .slice none 0 0, .int .i64 0, .bool false, .int .i64 0] 31 (0, 0)) ∧ w2.heap.size < (w2.alloc (.cells #[.int .i64 0, .slice none 0 0, .slice none 0 0, .int .i64 0, .bool false, .int .i64 0] 31)).drew.heap.size) := ⟨World.alloc_heap_new _ _, by show w2.heap.size < (w2.alloc _).heap.size; simp⟩
  have hS0 := HK.out w2.drew (Below.refl _ _).drew
  have hSx := HK.out w2 (Below.refl _ _)
  have hSa := HK.out _ B0
  have j1 : (k : Int) ≤ (wq : Int) := by have := hAs2.2.1; omega
  have j2 : (0 : Int) ≤ (k : Int) := by omega
  have j3 : k ≤ wq := by omega
  have HG1 := Hid.mk' (And.intro gd1 (And.intro ga1 gr1))
  have HB1 := Hid.mk' hb1'
  have hsz3 : w.heap.size + 3 ≤ w2.heap.size := by omega
  have HSZ := Hid.mk' hsz3
  clear hsz3
  clear hAs2 hFs2 gd1
  have hw2s : w.heap.size < w2.heap.size := by omega
  go_cut [9] from 31 to 44 (fun x wcut => CrB w w2 (room : Int) deeds la ln rs (foldF (rs.map FRef.file) ((ws.take k).map ARef.act)) x wcut)
  case first =>
   go_region_held3 (fun w' => w'.cell? ⟨w.heap.size, 0, none⟩ = some (.int .i64 (room : Int)) ∧ w'.cell? ⟨w.heap.size, 1, none⟩ = some (.slice la ln lc) ∧ w'.cell? ⟨w.heap.size, 2, none⟩ = some (.slice wa wn wq) ∧ w'.cell? ⟨w.heap.size, 3, none⟩ = some (.int .i64 armed) ∧ w'.cell? ⟨w.heap.size, 4, none⟩ = some (.bool down) ∧ w'.cell? ⟨w.heap.size, 5, none⟩ = some (.int .i64 deeds)) (first | with_reducible exact hS0 | with_reducible exact hSx | with_reducible exact hSa | with_reducible exact hS4 | with_reducible exact hS4a | with_reducible exact hS4b | with_reducible exact hS4c)
     (first
       | (go_at_call 19; refine (HSN.out _ (Below.refl _ _).drew).mono ?_; rintro e w4 ⟨a4, n4, c4, rs4, rfl, hf4, hm4, hb4, hfr4, hal4⟩; have hb4' : Below w2.heap.size w2 w4 := (Below.refl w2.heap.size w2).drew.trans hb4; have hS4 := HK.out _ hb4'; have hS4a := HK.out _ (hb4'.trans ((Below.refl w2.heap.size w4).alloc hb4'.size (.cells #[.int .i64 0, .slice none 0 0, .slice none 0 0, .int .i64 0, .bool false, .int .i64 0] 31))); have hS4b := HK.out _ (hb4'.trans ((Below.refl w2.heap.size w4).alloc hb4'.size (.cells #[.int .i64 (room : Int), .slice a4 n4 c4, .slice none 0 0, .int .i64 0, .bool false, .int .i64 deeds] 31))); have hS4c := HK.out _ ((((((hb4'.setCell (p := ⟨w2.heap.size, 0, none⟩) (Nat.le_refl _) (.int .i64 (room : Int))).setCell (p := ⟨w2.heap.size, 1, none⟩) (Nat.le_refl _) (.slice a4 n4 c4)).setCell (p := ⟨w2.heap.size, 2, none⟩) (Nat.le_refl _) (.slice none 0 0)).setCell (p := ⟨w2.heap.size, 3, none⟩) (Nat.le_refl _) (.int .i64 0)).setCell (p := ⟨w2.heap.size, 4, none⟩) (Nat.le_refl _) (.bool false)).setCell (p := ⟨w2.heap.size, 5, none⟩) (Nat.le_refl _) (.int .i64 deeds)); dsimp only)
       | (go_at_call 19; refine (HSN.out _ B0).mono ?_; rintro e w4 ⟨a4, n4, c4, rs4, rfl, hf4, hm4, hb4, hfr4, hal4⟩; have hb4' : Below w2.heap.size w2 w4 := B0.trans (hb4.mono B0.size); have hS4 := HK.out _ hb4'; have hS4a := HK.out _ (hb4'.trans ((Below.refl w2.heap.size w4).alloc hb4'.size (.cells #[.int .i64 0, .slice none 0 0, .slice none 0 0, .int .i64 0, .bool false, .int .i64 0] 31))); have hS4b := HK.out _ (hb4'.trans ((Below.refl w2.heap.size w4).alloc hb4'.size (.cells #[.int .i64 (room : Int), .slice a4 n4 c4, .slice none 0 0, .int .i64 0, .bool false, .int .i64 deeds] 31))); have hS4c := HK.out _ ((((((hb4'.setCell (p := ⟨w2.heap.size, 0, none⟩) (Nat.le_refl _) (.int .i64 (room : Int))).setCell (p := ⟨w2.heap.size, 1, none⟩) (Nat.le_refl _) (.slice a4 n4 c4)).setCell (p := ⟨w2.heap.size, 2, none⟩) (Nat.le_refl _) (.slice none 0 0)).setCell (p := ⟨w2.heap.size, 3, none⟩) (Nat.le_refl _) (.int .i64 0)).setCell (p := ⟨w2.heap.size, 4, none⟩) (Nat.le_refl _) (.bool false)).setCell (p := ⟨w2.heap.size, 5, none⟩) (Nat.le_refl _) (.int .i64 deeds)); obtain ⟨q0, q1, q2, q3, q4, q5, qf⟩ := six_cells ((hb4.block w2.heap.size HZB.out.2).trans HZB.out.1); dsimp only))
   all_goals go_wp2_with fail
   all_goals go_meet
   all_goals first
     | with_reducible exact crb_one HLW.out hw2s hb4' hf4 hm4 hfr4 hal4
     | with_reducible exact crb_two HLW.out hw2s hb4' hf4 hm4 hfr4 hal4 ((hb4.block w2.heap.size HZB.out.2).trans HZB.out.1)
  case rest =>
   obtain ⟨g5, a5, n5, c5, rs5, rfl, hg5, hg5l, G5, B5, F5, hm5, I5, fr5, al5⟩ := hcut
   have hszw := HSZ.out
   have gd5 := (B5.block w.heap.size (by omega)).trans HG1.out.1
   have ga5 := (B5.block (w.heap.size + 1) (by omega)).trans HG1.out.2.1
   have gr5 := (B5.block (w.heap.size + 2) (by omega)).trans HG1.out.2.2
   have hb5 : Below w.heap.size w wc := HB1.out.trans (B5.mono (by omega))
   have hAs5 := HAW.out.below hb5 (Nat.le_refl _)
   have HF5 := Hid.mk' (And.intro F5 (And.intro hm5 (And.intro I5 (And.intro fr5 al5))))
   have hg5n : g5 ≠ w.heap.size + 1 + 1 := by omega
   clear hcut HK HSN B0 HZB hS0 hSx hSa d0 d1 d2 d3 d4 d5 df e0 e1 e2 e3 e4 e5 ef f0 f1 f2 f3 f4 f5 ff ga1 gr1 F5 hm5 I5 fr5 al5
   obtain ⟨d0, d1, d2, d3, d4, d5, df⟩ := six_cells gd5
   obtain ⟨e0, e1, e2, e3, e4, e5, ef⟩ := six_cells ga5
   obtain ⟨f0, f1, f2, f3, f4, f5, ff⟩ := six_cells gr5
   obtain ⟨x0, x1, x2, x3, x4, x5, xf⟩ := six_cells G5
   have HEND : Hid (∀ (u0 u1 u2 u3 u4 u5 : Value), Fs (put6 wc (w.heap.size + 1 + 1) u0 u1 u2 u3 u4 u5) a5 n5 c5 rs5 ∧ Below w.heap.size w (put6 wc (w.heap.size + 1 + 1) u0 u1 u2 u3 u4 u5)) := fun u0 u1 u2 u3 u4 u5 => by
     refine ⟨HF5.out.1.kp (six_kp (Kp.refl (fun i => i = w.heap.size + 1 + 1) wc) rfl u0 u1 u2 u3 u4 u5) ⟨fun x hx h0 e => ?_, fun q hq x hx h0 e => ?_⟩, six_below hb5 (by omega) u0 u1 u2 u3 u4 u5⟩
     · have h5 := (HF5.out.2.2.1.1 x hx h0).2
       omega
     · have h5 := (HF5.out.2.2.1.2 q hq x hx h0).2
       omega
   have HWN : Hid (wn = ws.length) := HAW.out.1
   have hqs : ws[k]? = some q := by
     have h5 := HNO.out.1
     rw [HKK.out, Int.toNat_natCast] at h5
     exact h5
   have hq1 : q.kind = 1 := HNO.out.2
   have hkw : k < wn := by
     have h5 : k < ws.length := by
       rcases Nat.lt_or_ge k ws.length with h | h
       · exact h
       · rw [List.getElem?_eq_none h] at hqs; cases hqs
     have := HWN.out
     omega
   obtain ⟨b, off, q', rfl, hq, hqi, hbl, hqc⟩ := hAs5.at hkw
   have hqe : q' = q := by rw [hq] at hqs; exact Option.some.inj hqs
   rw [hqe] at hq hqi hqc
   clear hqe hqs
   have y0 := hqc 0 (by omega)
   have tq : (q.kind == 1) = true := by simpa using hq1
   have y0' : wc.cell? ⟨b, off + k * 6, none⟩ = some (.int .i64 q.kind) := y0
   have y1 : wc.cell? ⟨b, off + k * 6 + 1, none⟩ = some (.string q.name) := hqc 1 (by omega)
   have y2 : wc.cell? ⟨b, off + k * 6 + 2, none⟩ = some (.string q.to) := hqc 2 (by omega)
   have y3 : wc.cell? ⟨b, off + k * 6 + 3, none⟩ = some (.slice q.a q.n q.c) := hqc 3 (by omega)
   have y4 : wc.cell? ⟨b, off + k * 6 + 4, none⟩ = some (.int .i64 q.num) := hqc 4 (by omega)
   have y5 : wc.cell? ⟨b, off + k * 6 + 5, none⟩ = some (.int .i64 q.torn) := hqc 5 (by omega)
   have j4 : (k : Int) < (wn : Int) := by omega
   have HQI := Hid.mk' (And.intro hq hqi)
   clear hqc y0 hq hqi hq1 hAs5
   go_wp2_with fail
   obtain ⟨w6, hw6⟩ : ∃ w6, w6 = wc.alloc (.cells #[.int .i64 q.kind, .string q.name, .string q.to, .slice q.a q.n q.c, .int .i64 q.num, .int .i64 q.torn] 36) := ⟨_, rfl⟩
   have B6 : Below wc.heap.size wc w6 := by rw [hw6]; exact (Below.refl _ _).alloc (Nat.le_refl _) _
   have gy6 : w6.heap[wc.heap.size]? = some (.cells #[.int .i64 q.kind, .string q.name, .string q.to, .slice q.a q.n q.c, .int .i64 q.num, .int .i64 q.torn] 36 (0, 0)) := by rw [hw6]; exact World.alloc_heap_new _ _
   have hs5 := B5.size
   have ga6 := (B6.block (w.heap.size + 1) (by omega)).trans ga5
   have gr6 := (B6.block (w.heap.size + 2) (by omega)).trans gr5
   have gx6 := (B6.block g5 hg5l).trans G5
   rw [← hw6]
   have HW5 := Hid.mk' (And.intro gd5 (And.intro ga5 (And.intro gr5 G5)))
   clear hw6 d0 d1 d2 d3 d4 d5 df e0 e1 e2 e3 e4 e5 ef f0 f1 f2 f3 f4 f5 ff x0 x1 x2 x3 x4 x5 xf y0' y1 y2 y3 y4 y5 gd5 ga5 gr5 G5
   obtain ⟨_, _, _, _, _, e5, _⟩ := six_cells ga6
   obtain ⟨_, _, _, y3, _, _, yf⟩ := six_cells gy6
   have yf3 := yf 3
   obtain ⟨J, hJ1, hJ2⟩ : ∃ J : Nat, cutZ r.torn (q.n : Int) = (J : Int) ∧ J ≤ q.n := by
     refine ⟨(cutZ r.torn (q.n : Int)).toNat, ?_, ?_⟩
     · unfold cutZ; split
       · rfl
       · split <;> omega
     · unfold cutZ; split
       · omega
       · split <;> omega
   have HCUT : Hid (∀ w', Calls Try.prog 33 #[.int .i64 r.torn, .int .i64 (q.n : Int)] w' fun e w'' => e = .returned (.int .i64 (J : Int)) ∧ w'' = w') := fun w' => by
     have h5 := refCut_any r.torn (q.n : Int) w'
     rw [hJ1] at h5
     exact h5
   have HJ := Hid.mk' hJ1
   have j6 : (0 : Int) ≤ (J : Int) := by omega
   have j7 : (J : Int) ≤ (q.c : Int) := by have := HQI.out.2.1.2.1; omega
   have j8 : J ≤ q.c := by omega
   obtain ⟨w7, hw7⟩ : ∃ w7, (w6.setCell ⟨wc.heap.size, 3, none⟩ (.slice q.a J q.c)).drew = w7 := ⟨_, rfl⟩
   have b7 : Below wc.heap.size wc w7 := by rw [← hw7]; exact (B6.setCell (p := ⟨wc.heap.size, 3, none⟩) (Nat.le_refl _) _).drew
   have gy7 : w7.heap[wc.heap.size]? = some (.cells #[.int .i64 q.kind, .string q.name, .string q.to, .slice q.a J q.c, .int .i64 q.num, .int .i64 q.torn] 36 (0, 0)) := by
     rw [← hw7]; exact set_block (i := 3) gy6 (.slice q.a J q.c)
   have gx7 := (b7.block g5 hg5l).trans HW5.out.2.2.2
   have gr7 := (b7.block (w.heap.size + 2) (by omega)).trans HW5.out.2.2.1
   have hcr := HRN.out.at (k := k) (a := q.act) (by rw [List.getElem?_map, HQI.out.1]; rfl)
   have hL5 : rs5.map FRef.file = foldF (rs.map FRef.file) ((ws.map ARef.act).take k) := by rw [HF5.out.2.1, List.map_take]
   rw [← hL5] at hcr
   have hn5 : n5 ≤ 64 := by have h5 := hcr.1.2; rw [List.length_map, ← HF5.out.1.1] at h5; exact h5
   have hk1 : q.kind = 1 := by simpa using tq
   have hdone := torn_done HF5.out.1 HQI.out.2 hJ2 b7 hn5 hk1 (hcr.2.1.1 (.inl hk1)) hcr.1.1 hcr.2.2
   have HDN := Hid.mk' hdone
   have HMAP : Hid (doneF (rs5.map FRef.file) ⟨q.kind, q.name.toList, q.to.toList, q.zs.take J, q.num, q.torn⟩ = foldF (rs.map FRef.file) (crashA (ws.map ARef.act) r.num r.torn)) := by
     have e1 : crashA (ws.map ARef.act) r.num r.torn = (ws.map ARef.act).take k ++ [tornA q.act r.torn] := by
       unfold crashA
       rw [List.length_map, ← HWN.out, HKK.out, Int.toNat_natCast, List.getElem?_map, HQI.out.1]
       have h5 : q.act.kind = 1 := hk1
       simp [h5]
     have e2 : tornA q.act r.torn = ⟨q.kind, q.name.toList, q.to.toList, q.zs.take J, q.num, q.torn⟩ := by
       have h5 : q.zs.length = q.n := HQI.out.2.1.2.2.2.1
       unfold tornA ARef.act
       rw [h5, hJ1, Int.toNat_natCast]
     rw [e1, e2, hL5]
     show doneF _ _ = List.foldl doneF _ (_ ++ [_])
     rw [List.foldl_append]
     rfl
   have HW7 := Hid.mk' (And.intro hw7 (And.intro b7 (And.intro gy7 (And.intro gx7 gr7))))
   have hbw7 : Below w.heap.size w w7 := hb5.trans (b7.mono (by omega))
   have HBW := Hid.mk' hbw7
   have HS7 := Hid.mk' b7.size
   clear hJ1 hw7 b7 gy7 gx7 gr7 hcr hL5 hn5 hk1 hdone hbw7
   go_region_with (go_at_call 33; refine (HCUT.out _).mono ?_; rintro e w7 ⟨rfl, rfl⟩)
   all_goals rw [HW7.out.1]
   all_goals obtain ⟨y0, y1, y2, z3, y4, y5, _⟩ := six_cells HW7.out.2.2.1
   all_goals obtain ⟨x0, x1, x2, x3, x4, x5, xf⟩ := six_cells HW7.out.2.2.2.1
   all_goals clear y3 yf yf3 e5 gy6 ga6 gr6 gx6 B6
   all_goals go_wp2_with fail
   all_goals refine HDN.out.mono ?_
   all_goals rintro e w8 ⟨a8, n8, c8, rs8, rfl, hf8, hm8, hb8, hfr8, hn8⟩
   all_goals have hs7 := HS7.out
   all_goals have gx8 := (hb8.block g5 (by omega)).trans HW7.out.2.2.2.1
   all_goals have gr8 := (hb8.block (w.heap.size + 2) (by omega)).trans HW7.out.2.2.2.2
   all_goals have HE8 := Hid.mk' (And.intro hf8 (And.intro hm8 (And.intro hb8 (And.intro hfr8 hn8))))
   all_goals clear hf8 hm8 hb8 hfr8 hn8 x0 x1 x2 x3 x4 x5 xf y0 y1 y2 z3 y4 y5
   all_goals obtain ⟨x0, x1, x2, x3, x4, x5, xf⟩ := six_cells gx8
   all_goals obtain ⟨f0, f1, f2, f3, f4, f5, ff⟩ := six_cells gr8
   all_goals go_wp2
   all_goals refine bodyPost_ret (results_disk (g := w.heap.size + 1 + 1) rfl (six_block ((set_other _ (by omega)).trans gr8) _ _ _ _ _ _) rfl rfl rfl) rfl ?_
   all_goals have HEE := torn_end (rs := rs) (w := w) (w2 := w2) (wc := wc) (w7 := w7) HF5.out.2.2.1 HSZ.out hg5 hg5l HS7.out HBW.out HE8.out.2.2.1 HE8.out.1 HE8.out.2.2.2.1 HE8.out.2.2.2.2
   all_goals refine ⟨a8, n8, c8, rs8, rfl, (HEE _ _ _ _ _ _ _).1, HE8.out.2.1.trans HMAP.out, HF5.out.2.2.2.1.trans HE8.out.2.2.2.1 HBW.out.size, ?_, (HEE _ _ _ _ _ _ _).2⟩
   all_goals cases a8 with
     | none => exact .inr ⟨⟨0, 0, none⟩, .inr rfl⟩
     | some x => exact .inr ⟨x, .inl ⟨rfl, Nat.le_trans HBW.out.size (HE8.out.2.2.2.2 x rfl)⟩⟩
end Go.Proofs.Ytngkapddobgfaaa
