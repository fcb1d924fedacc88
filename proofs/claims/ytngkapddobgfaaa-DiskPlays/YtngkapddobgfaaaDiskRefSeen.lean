/-
  What the document's Seen returns: what lasts with all that waits done.
-/
import Derived.Test.YtngkapddobgfaaaDiskLaw2
namespace Go.Proofs.Ytngkapddobgfaaa
open Go.RowKit Go.Maps
set_option linter.unusedVariables false

/-- Each call that waits could be done, and its bytes fit. -/
def canRun : List FileL → List ActL → Prop
  | L, [] => usedF L ≤ 4294967296 ∧ L.length ≤ 64
  | L, a :: al => (usedF L ≤ 4294967296 ∧ L.length ≤ 64) ∧ canF L a ∧ a.b.length ≤ 4294967296 ∧ canRun (doneF L a) al
theorem canRun.at {L : List FileL} {al : List ActL} (h : canRun L al) {k : Nat} {a : ActL} (hk : al[k]? = some a) : (usedF (foldF L (al.take k)) ≤ 4294967296 ∧ (foldF L (al.take k)).length ≤ 64) ∧ canF (foldF L (al.take k)) a ∧ a.b.length ≤ 4294967296 := by
  induction al generalizing L k with
  | nil => simp at hk
  | cons b al ih =>
    cases k with
    | zero =>
      have : b = a := by simpa using hk
      subst this
      exact ⟨h.1, h.2.1, h.2.2.1⟩
    | succ k => exact ih h.2.2.2 (by simpa using hk)

/-- The document's disk, by value. -/
def refDisk (room : Int) (la : Option Addr) (ln lc : Nat) (wa : Option Addr) (wn wc : Nat) (armed : Int) (down : Bool) (deeds : Int) : Value :=
  .agg #[.int .i64 room, .slice la ln lc, .slice wa wn wc, .int .i64 armed, .bool down, .int .i64 deeds]

set_option maxRecDepth 100000 in
set_option maxHeartbeats 1000000 in
theorem refSeen_any (room : Int) (la : Option Addr) (ln lc : Nat) (rs : List FRef) (wa : Option Addr) (wn wc : Nat) (ws : List ARef) (armed : Int) (down : Bool) (deeds : Int) (w : World) (hl : Fs w la ln lc rs) (hw : As w wa wn wc ws) (hrun : canRun (rs.map FRef.file) (ws.map ARef.act)) (hwn : wn ≤ 1000) :
    Calls Try.prog 19 #[refDisk room la ln lc wa wn wc armed down deeds] w fun e w' => ∃ a n c rs', e = .returned (.slice a n c) ∧ Fs w' a n c rs' ∧ rs'.map FRef.file = foldF (rs.map FRef.file) (ws.map ARef.act) ∧ Below w.heap.size w w' ∧ From w rs rs' ∧ ((a = la ∧ n = ln) ∨ ∃ x, a = some x ∧ w.heap.size ≤ x.block ∨ a = none) := by
  have hb0 : Below w.heap.size w (w.alloc (.cells #[.int .i64 room, .slice la ln lc, .slice wa wn wc, .int .i64 armed, .bool down, .int .i64 deeds] 31)) := (Below.refl _ _).alloc (Nat.le_refl _) _
  obtain ⟨w0, hw0⟩ : ∃ w0, w0 = w.alloc (.cells #[.int .i64 room, .slice la ln lc, .slice wa wn wc, .int .i64 armed, .bool down, .int .i64 deeds] 31) := ⟨_, rfl⟩
  rw [← hw0] at hb0
  have hsz0 : w.heap.size < w0.heap.size := by rw [hw0]; simp
  have b1 : w0.cell? ⟨w.heap.size, 1, none⟩ = some (.slice la ln lc) := by rw [hw0]; simp
  have b2 : w0.cell? ⟨w.heap.size, 2, none⟩ = some (.slice wa wn wc) := by rw [hw0]; simp
  have hw0' : w.alloc (.cells #[.int .i64 room, .slice la ln lc, .slice wa wn wc, .int .i64 armed, .bool down, .int .i64 deeds] 31) = w0 := hw0.symm
  have HLEN : Hid (wn = ws.length) := hw.1
  have hwc := hw.2.1
  have HW : Hid (As w wa wn wc ws) := hw
  have HR : Hid (canRun (rs.map FRef.file) (ws.map ARef.act)) := hrun
  have hl0 := hl.below hb0 (Nat.le_refl _)
  clear hw0 hw hrun
  unfold refDisk
  go_enter Try.func19, Try.ntmps19
  go_wp2
  go_loopw [3, 4] (fun lv iv wr => ∃ (k : Nat) (a : Option Addr) (n c : Nat) (rk : List FRef), lv = .slice a n c ∧ iv = .int .i64 (k : Int) ∧ k ≤ wn ∧ Fs wr a n c rk ∧ rk.map FRef.file = foldF (rs.map FRef.file) ((ws.map ARef.act).take k) ∧ Below w.heap.size w wr ∧ Below w0.heap.size w0 wr ∧ From w rs rk ∧ ((a = la ∧ n = ln) ∨ ∃ x, a = some x ∧ w.heap.size ≤ x.block ∨ a = none)) (fun _ iv _ => wn - (intOf iv).toNat)
  case atStart => exact ⟨0, la, ln, lc, rs, rfl, rfl, Nat.zero_le _, hl0, rfl, hb0, Below.refl _ _, From.sub w (fun _ h => h), .inl ⟨rfl, rfl⟩⟩
  case round =>
    obtain ⟨k, a, n, c, rk, rfl, rfl, hk, hfk, hmk, hbk, hbk0, hfr, hak⟩ := hrel
    have c2 : wr.cell? ⟨w.heap.size, 2, none⟩ = some (.slice wa wn wc) := by rw [hbk0.cell hsz0]; exact b2
    by_cases hlt : k < wn
    · obtain ⟨b, off, r, rfl, hr, hinn, hbb, hc⟩ := (HW.out.below hbk (Nat.le_refl _)).at hlt
      have d0 := hc 0 (by omega)
      have d1 := hc 1 (by omega)
      have d2 := hc 2 (by omega)
      have d3 := hc 3 (by omega)
      have d4 := hc 4 (by omega)
      have d5 := hc 5 (by omega)
      simp only [ARef.cells, List.getElem?_cons_zero, List.getElem?_cons_succ, Nat.add_zero] at d0 d1 d2 d3 d4 d5
      have hak2 : (ws.map ARef.act)[k]? = some r.act := by rw [List.getElem?_map, hr]; rfl
      obtain ⟨⟨u1, u2⟩, u3, u4⟩ := HR.out.at hak2
      rw [← hmk] at u1 u2 u3
      have hn64 : n ≤ 64 := by rw [hfk.1]; rw [List.length_map] at u2; exact u2
      have hbl : r.n ≤ 4294967296 := by have h5 : r.zs.length = r.n := hinn.1.2.2.2.1; have h6 : r.act.b.length = r.zs.length := rfl; omega
      have hdone := refDone_any a n c rk r wr hfk hinn.1 (by omega) u3 u1 hbl
      have HM : Hid (doneF (rk.map FRef.file) r.act = foldF (rs.map FRef.file) ((ws.map ARef.act).take (k + 1))) := by rw [foldF_succ _ _ hak2, ← hmk]; exact rfl
      have HB : Hid (Below w.heap.size w wr ∧ Below w0.heap.size w0 wr ∧ From w rs rk) := ⟨hbk, hbk0, hfr⟩
      have hsk := hbk.size
      have hsk0 := hbk0.size
      clear hc hr hinn hfk hmk hbk hbk0 hfr u1 u2 u3 u4 hak2 hbl
      go_wp2_with fail
      refine hdone.mono ?_
      rintro e w2 ⟨v2, rs2, rfl, ho2, hm2, hl2, hb2, hfr2⟩
      obtain ⟨a2, c2', rfl, hfs2⟩ := ho2.fs
      have hfin : Fs w2 a2 rs2.length c2' rs2 ∧ rs2.map FRef.file = foldF (rs.map FRef.file) ((ws.map ARef.act).take (k + 1)) ∧ Below w.heap.size w w2 ∧ Below w0.heap.size w0 w2 ∧ From w rs rs2 ∧ ((a2 = la ∧ rs2.length = ln) ∨ ∃ x, a2 = some x ∧ w.heap.size ≤ x.block ∨ a2 = none) := by
        refine ⟨hfs2, by rw [hm2, HM.out], HB.out.1.trans (hb2.mono hsk), HB.out.2.1.trans (hb2.mono hsk0), fun r' hr' => ?_, ?_⟩
        · rcases hfr2 r' hr' with ⟨q, hq, e, hle⟩ | e | ⟨x, e1, e2⟩
          · rcases HB.out.2.2 q hq with ⟨q0, h1, h2, h3⟩ | h1 | ⟨x, h1, h2⟩
            · exact .inl ⟨q0, h1, e.trans h2, Nat.le_trans hle h3⟩
            · exact .inr (.inl (e.trans h1))
            · exact .inr (.inr ⟨x, e.trans h1, h2⟩)
          · exact .inr (.inl e)
          · exact .inr (.inr ⟨x, e1, by omega⟩)
        · cases a2 with
          | none => exact .inr ⟨⟨0, 0, none⟩, .inr rfl⟩
          | some x => exact .inr ⟨x, .inl ⟨rfl, by have := (ho2.1.lt x.block rfl).1; omega⟩⟩
      have HF : Hid (Fs w2 a2 rs2.length c2' rs2 ∧ rs2.map FRef.file = foldF (rs.map FRef.file) ((ws.map ARef.act).take (k + 1)) ∧ Below w.heap.size w w2 ∧ Below w0.heap.size w0 w2 ∧ From w rs rs2 ∧ ((a2 = la ∧ rs2.length = ln) ∨ ∃ x, a2 = some x ∧ w.heap.size ≤ x.block ∨ a2 = none)) := hfin
      clear hfin hdone ho2 hm2 hl2 hb2 hfr2 hfs2
      go_wp2
      go_roundw
      case rel => exact ⟨k + 1, a2, _, c2', rs2, rfl, by go_num, by omega, HF.out.1, HF.out.2.1, HF.out.2.2.1, HF.out.2.2.2.1, HF.out.2.2.2.2.1, HF.out.2.2.2.2.2⟩
      case measure => simp [intOf]; omega
    · have HM : Hid (rk.map FRef.file = foldF (rs.map FRef.file) (ws.map ARef.act)) := by
        rw [hmk, List.take_of_length_le (by rw [List.length_map]; have := HLEN.out; omega)]; exact rfl
      clear hmk
      go_wp2
      go_ret
      exact ⟨a, n, c, rk, rfl, hfk, HM.out, hbk, hfr, hak⟩
end Go.Proofs.Ytngkapddobgfaaa
