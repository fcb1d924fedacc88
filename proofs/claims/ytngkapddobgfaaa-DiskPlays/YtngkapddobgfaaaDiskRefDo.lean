/-
  What the document's Do returns, call by call.
-/
import Derived.Test.YtngkapddobgfaaaDiskWrong2
import Derived.Laws.Rows
namespace Go.Proofs.Ytngkapddobgfaaa
open Go.RowKit Go.Maps
set_option linter.unusedVariables false

/-- The boxes of Do: the disk, the call, and the disk that is returned. -/
structure Boxes3 (w w0 : World) (room : Int) (la : Option Addr) (ln lc : Nat) (wa : Option Addr) (wn wc : Nat) (armed : Int) (down : Bool) (deeds : Int) (r : ARef) : Prop where
  eq : ((w.alloc (.cells #[.int .i64 room, .slice la ln lc, .slice wa wn wc, .int .i64 armed, .bool down, .int .i64 deeds] 31)).alloc (.cells #[.int .i64 r.kind, .string r.name, .string r.to, .slice r.a r.n r.c, .int .i64 r.num, .int .i64 r.torn] 36)).alloc (.cells #[.int .i64 0, .slice none 0 0, .slice none 0 0, .int .i64 0, .bool false, .int .i64 0] 31) = w0
  disk : w0.heap[w.heap.size]? = some (.cells #[.int .i64 room, .slice la ln lc, .slice wa wn wc, .int .i64 armed, .bool down, .int .i64 deeds] 31 (0, 0))
  act : w0.heap[w.heap.size + 1]? = some (.cells #[.int .i64 r.kind, .string r.name, .string r.to, .slice r.a r.n r.c, .int .i64 r.num, .int .i64 r.torn] 36 (0, 0))
  res : w0.heap[w.heap.size + 2]? = some (.cells #[.int .i64 0, .slice none 0 0, .slice none 0 0, .int .i64 0, .bool false, .int .i64 0] 31 (0, 0))
  size : w0.heap.size = w.heap.size + 3
  below : Below w.heap.size w w0

theorem boxes3 (w : World) (room : Int) (la : Option Addr) (ln lc : Nat) (wa : Option Addr) (wn wc : Nat) (armed : Int) (down : Bool) (deeds : Int) (r : ARef) : ∃ w0, Boxes3 w w0 room la ln lc wa wn wc armed down deeds r := by
  obtain ⟨w1, hw1⟩ : ∃ w1, w1 = w.alloc (.cells #[.int .i64 room, .slice la ln lc, .slice wa wn wc, .int .i64 armed, .bool down, .int .i64 deeds] 31) := ⟨_, rfl⟩
  obtain ⟨w2, hw2⟩ : ∃ w2, w2 = w1.alloc (.cells #[.int .i64 r.kind, .string r.name, .string r.to, .slice r.a r.n r.c, .int .i64 r.num, .int .i64 r.torn] 36) := ⟨_, rfl⟩
  obtain ⟨w3, hw3⟩ : ∃ w3, w3 = w2.alloc (.cells #[.int .i64 0, .slice none 0 0, .slice none 0 0, .int .i64 0, .bool false, .int .i64 0] 31) := ⟨_, rfl⟩
  have s1 : w1.heap.size = w.heap.size + 1 := by rw [hw1]; simp
  have s2 : w2.heap.size = w.heap.size + 2 := by rw [hw2, World.size_alloc, s1]
  have s3 : w3.heap.size = w.heap.size + 3 := by rw [hw3, World.size_alloc, s2]
  have b1 : Below w.heap.size w w1 := by rw [hw1]; exact (Below.refl _ _).alloc (Nat.le_refl _) _
  have b2 : Below w1.heap.size w1 w2 := by rw [hw2]; exact (Below.refl _ _).alloc (Nat.le_refl _) _
  have b3 : Below w2.heap.size w2 w3 := by rw [hw3]; exact (Below.refl _ _).alloc (Nat.le_refl _) _
  refine ⟨w3, ⟨by rw [hw3, hw2, hw1], ?_, ?_, ?_, s3, b1.trans ((b2.mono (by omega)).trans (b3.mono (by omega)))⟩⟩
  · rw [b3.block _ (by omega), b2.block _ (by omega), hw1]; exact World.alloc_heap_new _ _
  · rw [b3.block _ (by omega), hw2, ← s1]; exact World.alloc_heap_new _ _
  · rw [hw3, ← s2]; exact World.alloc_heap_new _ _

/-- A block of six cells. -/
theorem six_cells {w : World} {g : Nat} {a b c d e f : Value} {t : TypeId} (h : w.heap[g]? = some (.cells #[a, b, c, d, e, f] t (0, 0))) :
    w.cell? ⟨g, 0, none⟩ = some a ∧ w.cell? ⟨g, 1, none⟩ = some b ∧ w.cell? ⟨g, 2, none⟩ = some c ∧ w.cell? ⟨g, 3, none⟩ = some d ∧ w.cell? ⟨g, 4, none⟩ = some e ∧ w.cell? ⟨g, 5, none⟩ = some f ∧ ∀ i, w.frozen? ⟨g, i, none⟩ = false := by
  refine ⟨?_, ?_, ?_, ?_, ?_, ?_, fun i => ?_⟩
  all_goals first | (simp [World.cell?, h]; done) | simp [World.frozen?, h]

/-- Six cells stored one behind the other. -/
def put6 (w : World) (g : Nat) (a b c d e f : Value) : World := (((((w.setCell ⟨g, 0, none⟩ a).setCell ⟨g, 1, none⟩ b).setCell ⟨g, 2, none⟩ c).setCell ⟨g, 3, none⟩ d).setCell ⟨g, 4, none⟩ e).setCell ⟨g, 5, none⟩ f

theorem set_block {w : World} {g i : Nat} {cs : Array Value} {t : TypeId} {fr : Nat × Nat} (h : w.heap[g]? = some (.cells cs t fr)) (u : Value) : (w.setCell ⟨g, i, none⟩ u).heap[g]? = some (.cells (cs.setIfInBounds i u) t fr) := by
  obtain ⟨hlt, hk⟩ := Array.getElem?_eq_some_iff.1 h
  show (w.heap.modify g _)[g]? = _
  rw [Array.getElem?_eq_getElem (by rw [Array.size_modify]; exact hlt), Array.getElem_modify_self, hk]
  rfl

theorem six_block {w : World} {g : Nat} {a0 b0 c0 d0 e0 f0 : Value} {t : TypeId} (h : w.heap[g]? = some (.cells #[a0, b0, c0, d0, e0, f0] t (0, 0))) (a b c d e f : Value) : (put6 w g a b c d e f).heap[g]? = some (.cells #[a, b, c, d, e, f] t (0, 0)) := by
  unfold put6
  have h1 := set_block (i := 0) h a
  have h2 := set_block (i := 1) h1 b
  have h3 := set_block (i := 2) h2 c
  have h4 := set_block (i := 3) h3 d
  have h5 := set_block (i := 4) h4 e
  have h6 := set_block (i := 5) h5 f
  exact h6

theorem six_below {B : Nat} {w0 w : World} (h : Below B w0 w) {g : Nat} (hg : B ≤ g) (a b c d e f : Value) : Below B w0 (put6 w g a b c d e f) :=
  (((((h.setCell (p := ⟨g, 0, none⟩) hg _).setCell (p := ⟨g, 1, none⟩) hg _).setCell (p := ⟨g, 2, none⟩) hg _).setCell (p := ⟨g, 3, none⟩) hg _).setCell (p := ⟨g, 4, none⟩) hg _).setCell (p := ⟨g, 5, none⟩) hg _

theorem set_other {w : World} {g k i : Nat} (u : Value) (h : k ≠ g) : (w.setCell ⟨g, i, none⟩ u).heap[k]? = w.heap[k]? := Below.heap_setCell _ _ _ _ h

theorem info_disk : (Try.prog.info? 31).map (·.size) = some 6 := by kernel_rfl

/-- The results of Do: the disk out of its cell. -/
theorem results_disk {tmps : Array Value} {w : World} {g : Nat} {cs : Array Value} {u v : Value} (hp : tmps.getD 4 undef = .pointer (some ⟨g, 0, none⟩)) (hg : w.heap[g]? = some (.cells cs 31 (0, 0))) (hc : cs.size = 6) (hu : tmps.getD 5 undef = u) (hv : tmps.getD 6 undef = v) :
    (results Try.f12 tmps).run Try.prog w = .ok (.tuple #[.agg cs, u, v]) w := by
  have hp' : tmps[4]?.getD undef = .pointer (some ⟨g, 0, none⟩) := by simpa using hp
  have hu' : tmps[5]?.getD undef = u := by simpa using hu
  have hv' : tmps[6]?.getD undef = v := by simpa using hv
  simp [results, hp', hu', hv', asAddr, run_loadVar_row w g _ 31 cs (0, 0) _ hg Try.underlying31 rfl (by rw [info_disk, hc])]

set_option maxRecDepth 100000 in
set_option maxHeartbeats 4000000 in
/-- Arm. -/
theorem refDo_arm (room : Nat) (la : Option Addr) (ln lc : Nat) (rs : List FRef) (wa : Option Addr) (wn wc : Nat) (ws : List ARef) (armed : Int) (down : Bool) (deeds : Int) (r : ARef) (w : World) (hl : Fs w la ln lc rs) (hw : As w wa wn wc ws) (hrun : canRun (rs.map FRef.file) (ws.map ARef.act)) (hwn : wn ≤ 1000) (hk : r.kind = 6) :
    Calls Try.prog 12 #[refDisk (room : Int) la ln lc wa wn wc armed down deeds, r.val] w fun e w' => e = .returned (.tuple #[refDisk (room : Int) la ln lc wa wn wc (cutZ r.num 4611686018427387904) down deeds, .int .i64 0, .slice none 0 0]) ∧ Below w.heap.size w w' := by
  obtain ⟨w0, hx⟩ := boxes3 w (room : Int) la ln lc wa wn wc armed down deeds r
  obtain ⟨hw0, gd, ga, gr, hsz, hb0⟩ := hx
  have hseen := refSeen_any (room : Int) la ln lc rs wa wn wc ws armed down deeds w0 (hl.below hb0 (Nat.le_refl _)) (hw.below hb0 (Nat.le_refl _)) hrun hwn
  have t6 : (r.kind == 6) = true := by simp [hk]
  obtain ⟨d0, d1, d2, d3, d4, d5, _⟩ := six_cells gd
  obtain ⟨e0, e1, e2, e3, e4, e5, _⟩ := six_cells ga
  unfold refDisk at hseen ⊢
  unfold ARef.val
  clear hk hl hw hrun
  go_enter Try.func12, Try.ntmps12
  go_wp2_with fail
  refine hseen.mono ?_
  rintro e w1 ⟨a, n, c, rs', rfl, _, _, hb1, _, _⟩
  have gd1 := (hb1.block w.heap.size (by omega)).trans gd
  have ga1 := (hb1.block (w.heap.size + 1) (by omega)).trans ga
  have gr1 := (hb1.block (w.heap.size + 2) (by omega)).trans gr
  have hb1' : Below w.heap.size w w1 := hb0.trans (hb1.mono (by omega))
  clear gd ga gr hseen hb1 d0 d1 d2 d3 d4 d5 e0 e1 e2 e3 e4 e5 hw0
  obtain ⟨d0, d1, d2, d3, d4, d5, df⟩ := six_cells gd1
  obtain ⟨e0, e1, e2, e3, e4, e5, ef⟩ := six_cells ga1
  obtain ⟨f0, f1, f2, f3, f4, f5, ff⟩ := six_cells gr1
  have hcut := refCut_any r.num 4611686018427387904 w1
  go_wp2_with fail
  refine hcut.mono ?_
  rintro e w2 ⟨rfl, rfl⟩
  go_wp2
  refine bodyPost_ret (results_disk (g := w.heap.size + 1 + 1) rfl (six_block ((set_other _ (by omega)).trans gr1) _ _ _ _ _ _) rfl rfl rfl) rfl ?_
  exact ⟨rfl, six_below (hb1'.setCell (p := ⟨w.heap.size, 3, none⟩) (Nat.le_refl _) _) (by omega) _ _ _ _ _ _⟩
end Go.Proofs.Ytngkapddobgfaaa
