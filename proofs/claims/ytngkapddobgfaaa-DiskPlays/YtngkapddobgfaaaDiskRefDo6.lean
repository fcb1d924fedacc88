/-
  What the document's Do returns where the disk crashes, and nothing is torn.
-/
import Derived.Test.YtngkapddobgfaaaDiskRefDo3
import Derived.Test.YtngkapddobgfaaaDiskPlayMath
import Derived.Deep.CutRange
namespace Go.Proofs.Ytngkapddobgfaaa
open Go.RowKit Go.Maps
set_option linter.unusedVariables false

/-- The box of the disk that a crash leaves, wherever it lies. -/
def CrB (w w2 : World) (room deeds : Int) (la : Option Addr) (ln : Nat) (rs : List FRef) (L : List FileL) (x : Value) (wc : World) : Prop :=
  ∃ g a n c rs', x = .pointer (some ⟨g, 0, none⟩) ∧ w2.heap.size ≤ g ∧ g < wc.heap.size ∧ wc.heap[g]? = some (.cells #[.int .i64 room, .slice a n c, .slice none 0 0, .int .i64 0, .bool false, .int .i64 deeds] 31 (0, 0)) ∧ Below w2.heap.size w2 wc ∧ Fs wc a n c rs' ∧ rs'.map FRef.file = L ∧
    FIn (fun i => i ≠ g ∧ (i < w.heap.size ∨ w2.heap.size ≤ i)) a n rs' ∧ From w rs rs' ∧ ((a = la ∧ n = ln) ∨ ∃ x, a = some x ∧ w.heap.size ≤ x.block ∨ a = none)
theorem apl_older {w w' : World} {a la : Option Addr} {n ln : Nat} (h : (a = la ∧ n = ln) ∨ ∃ x, a = some x ∧ w'.heap.size ≤ x.block ∨ a = none) (hs : w.heap.size ≤ w'.heap.size) : (a = la ∧ n = ln) ∨ ∃ x, a = some x ∧ w.heap.size ≤ x.block ∨ a = none := by
  rcases h with e | ⟨x, ⟨e1, e2⟩ | e1⟩
  · exact .inl e
  · exact .inr ⟨x, .inl ⟨e1, by omega⟩⟩
  · exact .inr ⟨x, .inr e1⟩
theorem crb_one {w w2 w4 : World} {room deeds : Int} {la a : Option Addr} {ln n c : Nat} {rs rs' : List FRef} {L : List FileL} (hlw : FIn (fun i => i < w.heap.size) la ln rs) (hs : w.heap.size < w2.heap.size) (hb : Below w2.heap.size w2 w4) (hf : Fs w4 a n c rs') (hm : rs'.map FRef.file = L) (hfr : From w2.drew rs rs') (hal : (a = la ∧ n = ln) ∨ ∃ x, a = some x ∧ w2.drew.heap.size ≤ x.block ∨ a = none) :
    CrB w w2 room deeds la ln rs L (.pointer (some ⟨w4.heap.size, 0, none⟩)) (w4.alloc (.cells #[.int .i64 room, .slice a n c, .slice none 0 0, .int .i64 0, .bool false, .int .i64 deeds] 31)) := by
  have hs2 : w2.drew.heap.size = w2.heap.size := rfl
  have hsz := hb.size
  refine ⟨w4.heap.size, a, n, c, rs', rfl, hsz, by simp, World.alloc_heap_new _ _, hb.trans ((Below.refl _ _).alloc hsz _), hf.below ((Below.refl w4.heap.size w4).alloc (Nat.le_refl _) _) (Nat.le_refl _), hm, ?_, hfr.older (by omega), apl_older hal (by omega)⟩
  exact hlw.from hfr hal hf (fun i hi => ⟨by omega, .inl hi⟩) (fun i h1 h2 => ⟨by omega, .inr (by omega)⟩)
theorem crb_two {w w2 w4 : World} {room deeds : Int} {la a : Option Addr} {ln n c : Nat} {rs rs' : List FRef} {L : List FileL} {Z : Obj} (hlw : FIn (fun i => i < w.heap.size) la ln rs) (hs : w.heap.size < w2.heap.size) (hb : Below w2.heap.size w2 w4) (hf : Fs w4 a n c rs') (hm : rs'.map FRef.file = L) (hfr : From (w2.alloc Z).drew rs rs') (hal : (a = la ∧ n = ln) ∨ ∃ x, a = some x ∧ (w2.alloc Z).drew.heap.size ≤ x.block ∨ a = none)
    {a0 b0 c0 d0 e0 f0 : Value} (hg : w4.heap[w2.heap.size]? = some (.cells #[a0, b0, c0, d0, e0, f0] 31 (0, 0))) :
    CrB w w2 room deeds la ln rs L (.pointer (some ⟨w2.heap.size, 0, none⟩)) ((((((w4.setCell ⟨w2.heap.size, 0, none⟩ (.int .i64 room)).setCell ⟨w2.heap.size, 1, none⟩ (.slice a n c)).setCell ⟨w2.heap.size, 2, none⟩ (.slice none 0 0)).setCell ⟨w2.heap.size, 3, none⟩ (.int .i64 0)).setCell ⟨w2.heap.size, 4, none⟩ (.bool false)).setCell ⟨w2.heap.size, 5, none⟩ (.int .i64 deeds)) := by
  have hs2 : (w2.alloc Z).drew.heap.size = w2.heap.size + 1 := by show (w2.alloc Z).heap.size = _; simp
  have hsz := hb.size
  have h1 := six_block hg (.int .i64 room) (.slice a n c) (.slice none 0 0) (.int .i64 0) (.bool false) (.int .i64 deeds)
  have h2 := six_below (g := w2.heap.size) hb (Nat.le_refl _) (.int .i64 room) (.slice a n c) (.slice none 0 0) (.int .i64 0) (.bool false) (.int .i64 deeds)
  have h3 := six_kp (Kp.refl (fun i => i = w2.heap.size) w4) (g := w2.heap.size) rfl (.int .i64 room) (.slice a n c) (.slice none 0 0) (.int .i64 0) (.bool false) (.int .i64 deeds)
  show CrB w w2 room deeds la ln rs L _ (put6 w4 w2.heap.size (.int .i64 room) (.slice a n c) (.slice none 0 0) (.int .i64 0) (.bool false) (.int .i64 deeds))
  have hlt : w2.heap.size < w4.heap.size := (Array.getElem?_eq_some_iff.1 hg).1
  have hin := hlw.from hfr hal hf (T' := fun i => i ≠ w2.heap.size ∧ (i < w.heap.size ∨ w2.heap.size ≤ i)) (fun i hi => ⟨by omega, .inl hi⟩) (fun i h1 h2 => ⟨by omega, .inr (by omega)⟩)
  exact ⟨w2.heap.size, a, n, c, rs', rfl, Nat.le_refl _, Nat.lt_of_lt_of_le hlt h3.size, h1, h2, hf.kp h3 ⟨fun x hx h0 e => (hin.1 x hx h0).1 e, fun q hq x hx h0 e => (hin.2 q hq x hx h0).1 e⟩, hm, hin, hfr.older (by omega), apl_older hal (by omega)⟩

theorem As.take {w : World} {a : Option Addr} {n c : Nat} {rs : List ARef} (h : As w a n c rs) {k : Nat} (hk : k ≤ n) : As w a k c (rs.take k) := by
  obtain ⟨h1, h2, h3, h4, h5, h6⟩ := h
  refine ⟨by rw [List.length_take]; omega, by omega, h3, fun e => ⟨by have := (h4 e).1; omega, (h4 e).2⟩, ?_, fun r hr => h6 r (List.mem_of_mem_take hr)⟩
  have hsplit : acells rs = acells (rs.take k) ++ acells (rs.drop k) := by
    unfold acells
    rw [← List.flatMap_append, List.take_append_drop]
  rcases h5 with e | ⟨b, off, ha, hl, hc⟩
  · rw [hsplit] at e
    exact .inl (List.append_eq_nil_iff.1 e).1
  · refine .inr ⟨b, off, ha, hl, fun i hi => ?_⟩
    have := hc i (by rw [hsplit, List.length_append]; omega)
    rw [this, hsplit, List.getElem?_append_left hi]

set_option maxRecDepth 100000 in
set_option maxHeartbeats 1000000 in
theorem refDo_crash_keep (room : Nat) (la : Option Addr) (ln lc : Nat) (rs : List FRef) (wa : Option Addr) (wn wq : Nat) (ws : List ARef) (armed : Int) (down : Bool) (deeds : Int) (r : ARef) (w : World) (hl : Fs w la ln lc rs) (hw : As w wa wn wq ws) (hrun : canRun (rs.map FRef.file) (ws.map ARef.act)) (hwn : wn ≤ 1000) (hk : r.kind = 7) (hno : ∀ q, ws[(cutZ r.num (wn : Int)).toNat]? = some q → q.kind ≠ 1) :
    Calls Try.prog 12 #[refDisk (room : Int) la ln lc wa wn wq armed down deeds, r.val] w fun e w' => ∃ a n c rs', e = .returned (.tuple #[refDisk (room : Int) a n c none 0 0 0 false deeds, .int .i64 0, .slice none 0 0]) ∧ Fs w' a n c rs' ∧ rs'.map FRef.file = foldF (rs.map FRef.file) (crashA (ws.map ARef.act) r.num r.torn) ∧ From w rs rs' ∧ ((a = la ∧ n = ln) ∨ ∃ x, a = some x ∧ w.heap.size ≤ x.block ∨ a = none) ∧ Below w.heap.size w w' := by
  obtain ⟨w0, hx⟩ := boxes3 w (room : Int) la ln lc wa wn wq armed down deeds r
  obtain ⟨hw0, gd, ga, gr, hsz, hb0⟩ := hx
  have hseen := refSeen_any (room : Int) la ln lc rs wa wn wq ws armed down deeds w0 (hl.below hb0 (Nat.le_refl _)) (hw.below hb0 (Nat.le_refl _)) hrun hwn
  have t6 : (r.kind == 6) = false := by simp [hk]
  have t7 : (r.kind == 7) = true := by simp [hk]
  obtain ⟨d0, d1, d2, d3, d4, d5, _⟩ := six_cells gd
  obtain ⟨e0, e1, e2, e3, e4, e5, _⟩ := six_cells ga
  have HAW : Hid (As w wa wn wq ws) := hw
  have HFW : Hid (Fs w la ln lc rs) := hl
  have HRN : Hid (canRun (rs.map FRef.file) (ws.map ARef.act)) := hrun
  have HLW : Hid (FIn (fun i => i < w.heap.size) la ln rs) := hl.fin
  unfold refDisk at hseen ⊢
  unfold ARef.val
  have HNO := Hid.mk' hno
  clear hk hl hw hrun hno
  go_enter Try.func12, Try.ntmps12
  go_wp2_with fail
  refine hseen.mono ?_
  rintro e w1 ⟨a, n, c, rs', rfl, _, _, hb1, _, _⟩
  have gd1 := (hb1.block w.heap.size (by omega)).trans gd
  have ga1 := (hb1.block (w.heap.size + 1) (by omega)).trans ga
  have gr1 := (hb1.block (w.heap.size + 2) (by omega)).trans gr
  have hb1' : Below w.heap.size w w1 := hb0.trans (hb1.mono (by omega))
  have hs1 := hb1.size
  clear gd ga gr hseen hb1 d0 d1 d2 d3 d4 d5 e0 e1 e2 e3 e4 e5 hw0
  obtain ⟨d0, d1, d2, d3, d4, d5, df⟩ := six_cells gd1
  obtain ⟨e0, e1, e2, e3, e4, e5, ef⟩ := six_cells ga1
  obtain ⟨f0, f1, f2, f3, f4, f5, ff⟩ := six_cells gr1
  have hcut := refCut_any r.num (wn : Int) w1
  obtain ⟨k, hk1, hk2⟩ : ∃ k : Nat, cutZ r.num (wn : Int) = (k : Int) ∧ k ≤ wn := by
    refine ⟨(cutZ r.num (wn : Int)).toNat, ?_, ?_⟩
    · unfold cutZ; split
      · rfl
      · split <;> omega
    · unfold cutZ; split
      · omega
      · split <;> omega
  rw [hk1] at hcut
  have HKK : Hid (cutZ r.num (wn : Int) = (k : Int)) := hk1
  clear hk1
  go_wp2_with fail
  refine hcut.mono ?_
  rintro e w2 ⟨rfl, rfl⟩
  go_upto_region 8 with fail
  have HK : Hid (∀ w', Below w2.heap.size w2 w' → w'.cell? ⟨w.heap.size, 0, none⟩ = some (.int .i64 (room : Int)) ∧ w'.cell? ⟨w.heap.size, 1, none⟩ = some (.slice la ln lc) ∧ w'.cell? ⟨w.heap.size, 2, none⟩ = some (.slice wa wn wq) ∧ w'.cell? ⟨w.heap.size, 3, none⟩ = some (.int .i64 armed) ∧ w'.cell? ⟨w.heap.size, 4, none⟩ = some (.bool down) ∧ w'.cell? ⟨w.heap.size, 5, none⟩ = some (.int .i64 deeds)) := fun w' h => by
    have h5 := (h.block w.heap.size (by omega)).trans gd1
    obtain ⟨z0, z1, z2, z3, z4, z5, _⟩ := six_cells h5
    exact ⟨z0, z1, z2, z3, z4, z5⟩
  have hAs2 := HAW.out.below hb1' (Nat.le_refl _)
  have hFs2 := HFW.out.below hb1' (Nat.le_refl _)
  have HSN : Hid (∀ w', Below w2.heap.size w2 w' → Calls Try.prog 19 #[.agg #[.int .i64 0, .slice la ln lc, .slice wa k wq, .int .i64 0, .bool false, .int .i64 0]] w' fun e w'' => ∃ a n c rs', e = .returned (.slice a n c) ∧ Fs w'' a n c rs' ∧ rs'.map FRef.file = foldF (rs.map FRef.file) ((ws.take k).map ARef.act) ∧ Below w'.heap.size w' w'' ∧ From w' rs rs' ∧ ((a = la ∧ n = ln) ∨ ∃ x, a = some x ∧ w'.heap.size ≤ x.block ∨ a = none)) := fun w' h => by
    have hrk : canRun (rs.map FRef.file) ((ws.take k).map ARef.act) := by rw [List.map_take]; exact HRN.out.take k
    exact refSeen_any 0 la ln lc rs wa k wq (ws.take k) 0 false 0 w' (hFs2.below h (Nat.le_refl _)) ((As.take hAs2 hk2).below h (Nat.le_refl _)) hrk (by omega)
  have B0 : Below w2.heap.size w2 (w2.alloc (.cells #[.int .i64 0, .slice none 0 0, .slice none 0 0, .int .i64 0, .bool false, .int .i64 0] 31)).drew := ((Below.refl _ _).alloc (Nat.le_refl _) _).drew
  have HZB : Hid ((w2.alloc (.cells #[.int .i64 0, .slice none 0 0, .slice none 0 0, .int .i64 0, .bool false, .int .i64 0] 31)).drew.heap[w2.heap.size]? = some (.cells #[.int .i64 0, .slice none 0 0, .slice none 0 0, .int .i64 0, .bool false, .int .i64 0] 31 (0, 0)) ∧ w2.heap.size < (w2.alloc (.cells #[.int .i64 0, .slice none 0 0, .slice none 0 0, .int .i64 0, .bool false, .int .i64 0] 31)).drew.heap.size) := ⟨World.alloc_heap_new _ _, by show w2.heap.size < (w2.alloc _).heap.size; simp⟩
  have hS0 := HK.out w2.drew (Below.refl _ _).drew
  have hSx := HK.out w2 (Below.refl _ _)
  have hSa := HK.out _ B0
  have j1 : (k : Int) ≤ (wq : Int) := by have := hAs2.2.1; omega
  have j2 : (0 : Int) ≤ (k : Int) := by omega
  have j3 : k ≤ wq := by omega
  have HG1 := Hid.mk' (And.intro gd1 (And.intro ga1 gr1))
  have HB1 := Hid.mk' hb1'
  have hsz3 : w.heap.size + 3 ≤ w2.heap.size := by omega
  have HSZ := Hid.mk' hsz3
  clear hsz3
  clear hAs2 hFs2 gd1
  have hw2s : w.heap.size < w2.heap.size := by omega
  go_cut [9] from 31 to 44 (fun x wcut => CrB w w2 (room : Int) deeds la ln rs (foldF (rs.map FRef.file) ((ws.take k).map ARef.act)) x wcut)
  case first =>
   go_region_held3 (fun w' => w'.cell? ⟨w.heap.size, 0, none⟩ = some (.int .i64 (room : Int)) ∧ w'.cell? ⟨w.heap.size, 1, none⟩ = some (.slice la ln lc) ∧ w'.cell? ⟨w.heap.size, 2, none⟩ = some (.slice wa wn wq) ∧ w'.cell? ⟨w.heap.size, 3, none⟩ = some (.int .i64 armed) ∧ w'.cell? ⟨w.heap.size, 4, none⟩ = some (.bool down) ∧ w'.cell? ⟨w.heap.size, 5, none⟩ = some (.int .i64 deeds)) (first | with_reducible exact hS0 | with_reducible exact hSx | with_reducible exact hSa | with_reducible exact hS4 | with_reducible exact hS4a | with_reducible exact hS4b | with_reducible exact hS4c)
     (first
       | (go_at_call 19; refine (HSN.out _ (Below.refl _ _).drew).mono ?_; rintro e w4 ⟨a4, n4, c4, rs4, rfl, hf4, hm4, hb4, hfr4, hal4⟩; have hb4' : Below w2.heap.size w2 w4 := (Below.refl w2.heap.size w2).drew.trans hb4; have hS4 := HK.out _ hb4'; have hS4a := HK.out _ (hb4'.trans ((Below.refl w2.heap.size w4).alloc hb4'.size (.cells #[.int .i64 0, .slice none 0 0, .slice none 0 0, .int .i64 0, .bool false, .int .i64 0] 31))); have hS4b := HK.out _ (hb4'.trans ((Below.refl w2.heap.size w4).alloc hb4'.size (.cells #[.int .i64 (room : Int), .slice a4 n4 c4, .slice none 0 0, .int .i64 0, .bool false, .int .i64 deeds] 31))); have hS4c := HK.out _ ((((((hb4'.setCell (p := ⟨w2.heap.size, 0, none⟩) (Nat.le_refl _) (.int .i64 (room : Int))).setCell (p := ⟨w2.heap.size, 1, none⟩) (Nat.le_refl _) (.slice a4 n4 c4)).setCell (p := ⟨w2.heap.size, 2, none⟩) (Nat.le_refl _) (.slice none 0 0)).setCell (p := ⟨w2.heap.size, 3, none⟩) (Nat.le_refl _) (.int .i64 0)).setCell (p := ⟨w2.heap.size, 4, none⟩) (Nat.le_refl _) (.bool false)).setCell (p := ⟨w2.heap.size, 5, none⟩) (Nat.le_refl _) (.int .i64 deeds)); dsimp only)
       | (go_at_call 19; refine (HSN.out _ B0).mono ?_; rintro e w4 ⟨a4, n4, c4, rs4, rfl, hf4, hm4, hb4, hfr4, hal4⟩; have hb4' : Below w2.heap.size w2 w4 := B0.trans (hb4.mono B0.size); have hS4 := HK.out _ hb4'; have hS4a := HK.out _ (hb4'.trans ((Below.refl w2.heap.size w4).alloc hb4'.size (.cells #[.int .i64 0, .slice none 0 0, .slice none 0 0, .int .i64 0, .bool false, .int .i64 0] 31))); have hS4b := HK.out _ (hb4'.trans ((Below.refl w2.heap.size w4).alloc hb4'.size (.cells #[.int .i64 (room : Int), .slice a4 n4 c4, .slice none 0 0, .int .i64 0, .bool false, .int .i64 deeds] 31))); have hS4c := HK.out _ ((((((hb4'.setCell (p := ⟨w2.heap.size, 0, none⟩) (Nat.le_refl _) (.int .i64 (room : Int))).setCell (p := ⟨w2.heap.size, 1, none⟩) (Nat.le_refl _) (.slice a4 n4 c4)).setCell (p := ⟨w2.heap.size, 2, none⟩) (Nat.le_refl _) (.slice none 0 0)).setCell (p := ⟨w2.heap.size, 3, none⟩) (Nat.le_refl _) (.int .i64 0)).setCell (p := ⟨w2.heap.size, 4, none⟩) (Nat.le_refl _) (.bool false)).setCell (p := ⟨w2.heap.size, 5, none⟩) (Nat.le_refl _) (.int .i64 deeds)); obtain ⟨q0, q1, q2, q3, q4, q5, qf⟩ := six_cells ((hb4.block w2.heap.size HZB.out.2).trans HZB.out.1); dsimp only))
   all_goals go_wp2_with fail
   all_goals go_meet
   all_goals first
     | with_reducible exact crb_one HLW.out hw2s hb4' hf4 hm4 hfr4 hal4
     | with_reducible exact crb_two HLW.out hw2s hb4' hf4 hm4 hfr4 hal4 ((hb4.block w2.heap.size HZB.out.2).trans HZB.out.1)
  case rest =>
   obtain ⟨g5, a5, n5, c5, rs5, rfl, hg5, hg5l, G5, B5, F5, hm5, I5, fr5, al5⟩ := hcut
   have hszw := HSZ.out
   have gd5 := (B5.block w.heap.size (by omega)).trans HG1.out.1
   have ga5 := (B5.block (w.heap.size + 1) (by omega)).trans HG1.out.2.1
   have gr5 := (B5.block (w.heap.size + 2) (by omega)).trans HG1.out.2.2
   have hb5 : Below w.heap.size w wc := HB1.out.trans (B5.mono (by omega))
   have hAs5 := HAW.out.below hb5 (Nat.le_refl _)
   have HF5 := Hid.mk' (And.intro F5 (And.intro hm5 (And.intro I5 (And.intro fr5 al5))))
   have hg5n : g5 ≠ w.heap.size + 1 + 1 := by omega
   clear hcut HK HSN B0 HZB hS0 hSx hSa d0 d1 d2 d3 d4 d5 df e0 e1 e2 e3 e4 e5 ef f0 f1 f2 f3 f4 f5 ff ga1 gr1 F5 hm5 I5 fr5 al5
   obtain ⟨d0, d1, d2, d3, d4, d5, df⟩ := six_cells gd5
   obtain ⟨e0, e1, e2, e3, e4, e5, ef⟩ := six_cells ga5
   obtain ⟨f0, f1, f2, f3, f4, f5, ff⟩ := six_cells gr5
   obtain ⟨x0, x1, x2, x3, x4, x5, xf⟩ := six_cells G5
   have HEND : Hid (∀ (u0 u1 u2 u3 u4 u5 : Value), Fs (put6 wc (w.heap.size + 1 + 1) u0 u1 u2 u3 u4 u5) a5 n5 c5 rs5 ∧ Below w.heap.size w (put6 wc (w.heap.size + 1 + 1) u0 u1 u2 u3 u4 u5)) := fun u0 u1 u2 u3 u4 u5 => by
     refine ⟨HF5.out.1.kp (six_kp (Kp.refl (fun i => i = w.heap.size + 1 + 1) wc) rfl u0 u1 u2 u3 u4 u5) ⟨fun x hx h0 e => ?_, fun q hq x hx h0 e => ?_⟩, six_below hb5 (by omega) u0 u1 u2 u3 u4 u5⟩
     · have h5 := (HF5.out.2.2.1.1 x hx h0).2
       omega
     · have h5 := (HF5.out.2.2.1.2 q hq x hx h0).2
       omega
   have HCR : Hid ((∀ q, ws[k]? = some q → q.kind ≠ 1) → foldF (rs.map FRef.file) (crashA (ws.map ARef.act) r.num r.torn) = rs5.map FRef.file) := fun hq => by
     rw [HF5.out.2.1]
     congr 1
     unfold crashA
     rw [List.length_map, ← HAW.out.1, HKK.out, Int.toNat_natCast, List.getElem?_map]
     cases hz : ws[k]? with
     | none => simp [List.map_take]
     | some q =>
       have := hq q hz
       have h5 : ¬ q.act.kind = 1 := this
       simp [h5, List.map_take]
   have HWN : Hid (wn = ws.length) := HAW.out.1
   by_cases hkw : k < wn
   · obtain ⟨b, off, q, rfl, hq, hqi, hbl, hqc⟩ := hAs5.at hkw
     have y0 := hqc 0 (by omega)
     by_cases hq1 : q.kind = 1
     · exact absurd hq1 (HNO.out q (by rw [HKK.out, Int.toNat_natCast]; exact hq))
     · have tq : (q.kind == 1) = false := by simpa using hq1
       have y0' : wc.cell? ⟨b, off + k * 6, none⟩ = some (.int .i64 q.kind) := y0
       have j4 : (k : Int) < (wn : Int) := by omega
       have HQ := Hid.mk' (HCR.out (fun q' hq' => by rw [hq] at hq'; cases hq'; exact hq1))
       clear hqc y0 hq hqi hq1 hAs5
       go_wp2
       refine bodyPost_ret (results_disk (g := w.heap.size + 1 + 1) rfl (six_block gr5 _ _ _ _ _ _) rfl rfl rfl) rfl ?_
       first
         | exact ⟨a5, n5, c5, rs5, rfl, (HEND.out _ _ _ _ _ _).1, HQ.out.symm, HF5.out.2.2.2.1, HF5.out.2.2.2.2, (HEND.out _ _ _ _ _ _).2⟩
         | exact ⟨a5, n5, c5, rfl, rs5, (HEND.out _ _ _ _ _ _).1, HQ.out.symm, HF5.out.2.2.2.1, HF5.out.2.2.2.2, (HEND.out _ _ _ _ _ _).2⟩
   · have j4 : ¬ (k : Int) < (wn : Int) := by omega
     have HQ := Hid.mk' (HCR.out (fun q' hq' => by rw [List.getElem?_eq_none (by have := HWN.out; omega)] at hq'; cases hq'))
     clear hAs5
     go_wp2
     refine bodyPost_ret (results_disk (g := w.heap.size + 1 + 1) rfl (six_block gr5 _ _ _ _ _ _) rfl rfl rfl) rfl ?_
     first
         | exact ⟨a5, n5, c5, rs5, rfl, (HEND.out _ _ _ _ _ _).1, HQ.out.symm, HF5.out.2.2.2.1, HF5.out.2.2.2.2, (HEND.out _ _ _ _ _ _).2⟩
         | exact ⟨a5, n5, c5, rfl, rs5, (HEND.out _ _ _ _ _ _).1, HQ.out.symm, HF5.out.2.2.2.1, HF5.out.2.2.2.2, (HEND.out _ _ _ _ _ _).2⟩
end Go.Proofs.Ytngkapddobgfaaa
