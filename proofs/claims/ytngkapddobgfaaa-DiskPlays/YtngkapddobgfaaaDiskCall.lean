/-
  What a call of a law's list does to the disk.
-/
import Derived.Test.YtngkapddobgfaaaDiskPlay
namespace Go.Proofs.Ytngkapddobgfaaa
open Go.RowKit Go.Maps
set_option linter.unusedVariables false

/-- A deed, by what it needs alone. -/
def deedA (a : ActL) : ActL :=
  if a.kind = 0 then ⟨0, a.name, [], [], 0, 0⟩ else if a.kind = 1 then ⟨1, a.name, [], a.b, 0, 0⟩ else if a.kind = 2 then ⟨2, a.name, [], [], a.num, 0⟩ else if a.kind = 3 then ⟨3, a.name, a.to, [], 0, 0⟩ else ⟨4, a.name, [], [], 0, 0⟩
def playS (st : St) (a : ActL) : St := if a.kind < 5 then doS st (deedA a) else if a.kind = 5 then syncS st else if a.kind = 6 then armF st a.num else if a.kind = 7 then crashF st a.num a.torn else st
def playE (st : St) (a : ActL) : Int := if a.kind < 5 then doE st (deedA a) else if a.kind = 5 then syncE st else if a.kind = 6 then 0 else if a.kind = 7 then 0 else readE st a.name
def playB (st : St) (a : ActL) : List Int := if a.kind = 8 then readB st a.name else []

theorem doE_small (st : St) (a : ActL) : 0 ≤ doE st a ∧ doE st a ≤ 6 := by
  unfold doE wrongF countE
  repeat' split
  all_goals omega
theorem syncE_small (st : St) : 0 ≤ syncE st ∧ syncE st ≤ 6 := by
  unfold syncE countE
  repeat' split
  all_goals omega
theorem readE_small (st : St) (n : List UInt8) : 0 ≤ readE st n ∧ readE st n ≤ 6 := by
  unfold readE
  repeat' split
  all_goals omega

set_option maxRecDepth 100000 in
set_option maxHeartbeats 1000000 in
theorem do_t (T : Nat → Prop) (p : Nat) (st : St) (r : ARef) (w : World) (h : DkT T w p st) (hd : st.deeds < 1099511627776) (hr : r.inn w) (hk0 : 0 ≤ r.kind) (hk8 : r.kind ≤ 8) (hb : r.n ≤ 1000) (hT : ∀ x, r.a = some x → 0 < r.n → T x.block) :
    Calls Try.prog 13 #[.pointer (some ⟨p, 0, none⟩), .agg #[.int .i64 r.kind, .string r.name, .string r.to, .slice r.a r.n r.c, .int .i64 r.num, .int .i64 r.torn]] w fun e w' => ∃ s : Sl, e = .returned (.tuple #[.int .i64 (playE st r.act), s.val]) ∧ Fl w' s (playB st r.act) ∧ DkT T w' p (playS st r.act) ∧ Kp (fun i => ¬ T i) w w' := by
  have hb0 : Below w.heap.size w (w.alloc (.cells r.cells.toArray 36)) := (Below.refl _ _).alloc (Nat.le_refl _) _
  obtain ⟨w0, hw0⟩ : ∃ w0, w0 = w.alloc (.cells r.cells.toArray 36) := ⟨_, rfl⟩
  rw [← hw0] at hb0
  have b0 : w0.cell? ⟨w.heap.size, 0, none⟩ = some (.int .i64 r.kind) := by rw [hw0]; simp [ARef.cells]
  have b1 : w0.cell? ⟨w.heap.size, 1, none⟩ = some (.string r.name) := by rw [hw0]; simp [ARef.cells]
  have b2 : w0.cell? ⟨w.heap.size, 2, none⟩ = some (.string r.to) := by rw [hw0]; simp [ARef.cells]
  have b3 : w0.cell? ⟨w.heap.size, 3, none⟩ = some (.slice r.a r.n r.c) := by rw [hw0]; simp [ARef.cells]
  have b4 : w0.cell? ⟨w.heap.size, 4, none⟩ = some (.int .i64 r.num) := by rw [hw0]; simp [ARef.cells]
  have b5 : w0.cell? ⟨w.heap.size, 5, none⟩ = some (.int .i64 r.torn) := by rw [hw0]; simp [ARef.cells]
  have hD0 := h.below hb0
  have hr0 := hr.below hb0 (Nat.le_refl _)
  have hw0' : w.alloc (.cells #[.int .i64 r.kind, .string r.name, .string r.to, .slice r.a r.n r.c, .int .i64 r.num, .int .i64 r.torn] 36) = w0 := hw0.symm
  have hK0 : Kp (fun i => ¬ T i) w w0 := Kp.of_below hb0
  have HK0 : Hid (∀ w1, Kp (fun i => ¬ T i) w0 w1 → Kp (fun i => ¬ T i) w w1) := fun w1 hk => hK0.trans hk (fun _ _ e => e)
  clear hw0 hb0 hK0
  by_cases k0 : r.kind = 0
  · have q0 : (r.kind == 0) = true := by simpa using k0
    have hd1 : deedA r.act = ⟨0, r.name.toList, [], [], 0, 0⟩ := by
      unfold deedA
      rw [if_pos (show r.act.kind = 0 from k0)]
      rfl
    have hlt5 : r.act.kind < 5 := by show r.kind < 5; omega
    have HG : Hid (playE st r.act = doE st ⟨0, r.name.toList, [], [], 0, 0⟩ ∧ playS st r.act = doS st ⟨0, r.name.toList, [], [], 0, 0⟩ ∧ playB st r.act = []) := ⟨by unfold playE; rw [if_pos hlt5, hd1], by unfold playS; rw [if_pos hlt5, hd1], by unfold playB; rw [if_neg (by omega)]⟩
    have hx := make_t _ _ _ w0 hD0 r.name (by omega) hr0.2.1
    obtain ⟨s1, s2⟩ := doE_small st ⟨0, r.name.toList, [], [], 0, 0⟩
    obtain ⟨EE, hEE⟩ : ∃ EE, EE = doE st ⟨0, r.name.toList, [], [], 0, 0⟩ := ⟨_, rfl⟩
    rw [← hEE] at hx s1 s2
    rw [HG.out.1, HG.out.2.1, HG.out.2.2, ← hEE]
    clear k0 hd1 hlt5 hEE
    go_enter Try.func13, Try.ntmps13
    go_wp2_with fail
    refine hx.mono ?_
    rintro e w1 ⟨rfl, hD1, hk1⟩
    go_wp2
    go_ret2
    exact ⟨⟨none, 0, 0⟩, rfl, Fl.nil _, hD1, HK0.out _ hk1⟩
  have q0 : (r.kind == 0) = false := by simpa using k0
  by_cases k1 : r.kind = 1
  · have q1 : (r.kind == 1) = true := by simpa using k1
    have hd1 : deedA r.act = ⟨1, r.name.toList, [], r.zs, 0, 0⟩ := by
      unfold deedA
      rw [if_neg (show ¬ r.act.kind = 0 from k0)]
      rw [if_pos (show r.act.kind = 1 from k1)]
      rfl
    have hlt5 : r.act.kind < 5 := by show r.kind < 5; omega
    have HG : Hid (playE st r.act = doE st ⟨1, r.name.toList, [], r.zs, 0, 0⟩ ∧ playS st r.act = doS st ⟨1, r.name.toList, [], r.zs, 0, 0⟩ ∧ playB st r.act = []) := ⟨by unfold playE; rw [if_pos hlt5, hd1], by unfold playS; rw [if_pos hlt5, hd1], by unfold playB; rw [if_neg (by omega)]⟩
    have hx := append_t _ _ _ w0 hD0 r.name r.a r.n r.c r.zs (by omega) hr0.2.1 hr0.1.1 hr0.1.2.2.2 hT (by omega)
    obtain ⟨s1, s2⟩ := doE_small st ⟨1, r.name.toList, [], r.zs, 0, 0⟩
    obtain ⟨EE, hEE⟩ : ∃ EE, EE = doE st ⟨1, r.name.toList, [], r.zs, 0, 0⟩ := ⟨_, rfl⟩
    rw [← hEE] at hx s1 s2
    rw [HG.out.1, HG.out.2.1, HG.out.2.2, ← hEE]
    clear k1 hd1 hlt5 hEE k0
    go_enter Try.func13, Try.ntmps13
    go_wp2_with fail
    refine hx.mono ?_
    rintro e w1 ⟨rfl, hD1, hk1⟩
    go_wp2
    go_ret2
    exact ⟨⟨none, 0, 0⟩, rfl, Fl.nil _, hD1, HK0.out _ hk1⟩
  have q1 : (r.kind == 1) = false := by simpa using k1
  by_cases k2 : r.kind = 2
  · have q2 : (r.kind == 2) = true := by simpa using k2
    have hd1 : deedA r.act = ⟨2, r.name.toList, [], [], r.num, 0⟩ := by
      unfold deedA
      rw [if_neg (show ¬ r.act.kind = 0 from k0)]
      rw [if_neg (show ¬ r.act.kind = 1 from k1)]
      rw [if_pos (show r.act.kind = 2 from k2)]
      rfl
    have hlt5 : r.act.kind < 5 := by show r.kind < 5; omega
    have HG : Hid (playE st r.act = doE st ⟨2, r.name.toList, [], [], r.num, 0⟩ ∧ playS st r.act = doS st ⟨2, r.name.toList, [], [], r.num, 0⟩ ∧ playB st r.act = []) := ⟨by unfold playE; rw [if_pos hlt5, hd1], by unfold playS; rw [if_pos hlt5, hd1], by unfold playB; rw [if_neg (by omega)]⟩
    have hx := cut_t _ _ _ w0 hD0 r.name r.num (by omega) hr0.2.1
    obtain ⟨s1, s2⟩ := doE_small st ⟨2, r.name.toList, [], [], r.num, 0⟩
    obtain ⟨EE, hEE⟩ : ∃ EE, EE = doE st ⟨2, r.name.toList, [], [], r.num, 0⟩ := ⟨_, rfl⟩
    rw [← hEE] at hx s1 s2
    rw [HG.out.1, HG.out.2.1, HG.out.2.2, ← hEE]
    clear k2 hd1 hlt5 hEE k0 k1
    go_enter Try.func13, Try.ntmps13
    go_wp2_with fail
    refine hx.mono ?_
    rintro e w1 ⟨rfl, hD1, hk1⟩
    go_wp2
    go_ret2
    exact ⟨⟨none, 0, 0⟩, rfl, Fl.nil _, hD1, HK0.out _ hk1⟩
  have q2 : (r.kind == 2) = false := by simpa using k2
  by_cases k3 : r.kind = 3
  · have q3 : (r.kind == 3) = true := by simpa using k3
    have hd1 : deedA r.act = ⟨3, r.name.toList, r.to.toList, [], 0, 0⟩ := by
      unfold deedA
      rw [if_neg (show ¬ r.act.kind = 0 from k0)]
      rw [if_neg (show ¬ r.act.kind = 1 from k1)]
      rw [if_neg (show ¬ r.act.kind = 2 from k2)]
      rw [if_pos (show r.act.kind = 3 from k3)]
      rfl
    have hlt5 : r.act.kind < 5 := by show r.kind < 5; omega
    have HG : Hid (playE st r.act = doE st ⟨3, r.name.toList, r.to.toList, [], 0, 0⟩ ∧ playS st r.act = doS st ⟨3, r.name.toList, r.to.toList, [], 0, 0⟩ ∧ playB st r.act = []) := ⟨by unfold playE; rw [if_pos hlt5, hd1], by unfold playS; rw [if_pos hlt5, hd1], by unfold playB; rw [if_neg (by omega)]⟩
    have hx := rename_t _ _ _ w0 hD0 r.name r.to (by omega) hr0.2.1 hr0.2.2.1
    obtain ⟨s1, s2⟩ := doE_small st ⟨3, r.name.toList, r.to.toList, [], 0, 0⟩
    obtain ⟨EE, hEE⟩ : ∃ EE, EE = doE st ⟨3, r.name.toList, r.to.toList, [], 0, 0⟩ := ⟨_, rfl⟩
    rw [← hEE] at hx s1 s2
    rw [HG.out.1, HG.out.2.1, HG.out.2.2, ← hEE]
    clear k3 hd1 hlt5 hEE k0 k1 k2
    go_enter Try.func13, Try.ntmps13
    go_wp2_with fail
    refine hx.mono ?_
    rintro e w1 ⟨rfl, hD1, hk1⟩
    go_wp2
    go_ret2
    exact ⟨⟨none, 0, 0⟩, rfl, Fl.nil _, hD1, HK0.out _ hk1⟩
  have q3 : (r.kind == 3) = false := by simpa using k3
  by_cases k4 : r.kind = 4
  · have q4 : (r.kind == 4) = true := by simpa using k4
    have hd1 : deedA r.act = ⟨4, r.name.toList, [], [], 0, 0⟩ := by
      unfold deedA
      rw [if_neg (show ¬ r.act.kind = 0 from k0)]
      rw [if_neg (show ¬ r.act.kind = 1 from k1)]
      rw [if_neg (show ¬ r.act.kind = 2 from k2)]
      rw [if_neg (show ¬ r.act.kind = 3 from k3)]
      rfl
    have hlt5 : r.act.kind < 5 := by show r.kind < 5; omega
    have HG : Hid (playE st r.act = doE st ⟨4, r.name.toList, [], [], 0, 0⟩ ∧ playS st r.act = doS st ⟨4, r.name.toList, [], [], 0, 0⟩ ∧ playB st r.act = []) := ⟨by unfold playE; rw [if_pos hlt5, hd1], by unfold playS; rw [if_pos hlt5, hd1], by unfold playB; rw [if_neg (by omega)]⟩
    have hx := remove_t _ _ _ w0 hD0 r.name (by omega) hr0.2.1
    obtain ⟨s1, s2⟩ := doE_small st ⟨4, r.name.toList, [], [], 0, 0⟩
    obtain ⟨EE, hEE⟩ : ∃ EE, EE = doE st ⟨4, r.name.toList, [], [], 0, 0⟩ := ⟨_, rfl⟩
    rw [← hEE] at hx s1 s2
    rw [HG.out.1, HG.out.2.1, HG.out.2.2, ← hEE]
    clear k4 hd1 hlt5 hEE k0 k1 k2 k3
    go_enter Try.func13, Try.ntmps13
    go_wp2_with fail
    refine hx.mono ?_
    rintro e w1 ⟨rfl, hD1, hk1⟩
    go_wp2
    go_ret2
    exact ⟨⟨none, 0, 0⟩, rfl, Fl.nil _, hD1, HK0.out _ hk1⟩
  have q4 : (r.kind == 4) = false := by simpa using k4
  have hge : ¬ r.act.kind < 5 := by show ¬ r.kind < 5; omega
  by_cases k5 : r.kind = 5
  · have q5 : (r.kind == 5) = true := by simpa using k5
    have HG : Hid (playE st r.act = syncE st ∧ playS st r.act = syncS st ∧ playB st r.act = []) := ⟨by unfold playE; rw [if_neg hge, if_pos (show r.act.kind = 5 from k5)], by unfold playS; rw [if_neg hge, if_pos (show r.act.kind = 5 from k5)], by unfold playB; rw [if_neg (show ¬ r.act.kind = 8 by show ¬ r.kind = 8; omega)]⟩
    have hx := sync_t _ _ _ w0 hD0 hd
    obtain ⟨s1, s2⟩ := syncE_small st
    obtain ⟨EE, hEE⟩ : ∃ EE, EE = syncE st := ⟨_, rfl⟩
    rw [← hEE] at hx s1 s2
    rw [HG.out.1, HG.out.2.1, HG.out.2.2, ← hEE]
    clear k0 k1 k2 k3 k4 k5 hge hEE
    go_enter Try.func13, Try.ntmps13
    go_wp2_with fail
    refine hx.mono ?_
    rintro e w1 ⟨rfl, hD1, hk1⟩
    go_wp2
    go_ret2
    exact ⟨⟨none, 0, 0⟩, rfl, Fl.nil _, hD1, HK0.out _ hk1⟩
  have q5 : (r.kind == 5) = false := by simpa using k5
  by_cases k6 : r.kind = 6
  · have q6 : (r.kind == 6) = true := by simpa using k6
    have HG : Hid (playE st r.act = 0 ∧ playS st r.act = armF st r.num ∧ playB st r.act = []) := ⟨by unfold playE; rw [if_neg hge, if_neg (show ¬ r.act.kind = 5 from k5), if_pos (show r.act.kind = 6 from k6)], by unfold playS; rw [if_neg hge, if_neg (show ¬ r.act.kind = 5 from k5), if_pos (show r.act.kind = 6 from k6)]; rfl, by unfold playB; rw [if_neg (show ¬ r.act.kind = 8 by show ¬ r.kind = 8; omega)]⟩
    have hx := arm_t _ _ _ w0 hD0 r.num hr0.2.2.2.1.2
    rw [HG.out.1, HG.out.2.1, HG.out.2.2]
    clear k0 k1 k2 k3 k4 k5 k6 hge
    go_enter Try.func13, Try.ntmps13
    go_wp2_with fail
    refine hx.mono ?_
    rintro e w1 ⟨rfl, hD1, hk1⟩
    go_wp2
    go_ret2
    exact ⟨⟨none, 0, 0⟩, rfl, Fl.nil _, hD1, HK0.out _ hk1⟩
  have q6 : (r.kind == 6) = false := by simpa using k6
  by_cases k7 : r.kind = 7
  · have q7 : (r.kind == 7) = true := by simpa using k7
    have HG : Hid (playE st r.act = 0 ∧ playS st r.act = crashF st r.num r.torn ∧ playB st r.act = []) := ⟨by unfold playE; rw [if_neg hge, if_neg (show ¬ r.act.kind = 5 from k5), if_neg (show ¬ r.act.kind = 6 from k6), if_pos (show r.act.kind = 7 from k7)], by unfold playS; rw [if_neg hge, if_neg (show ¬ r.act.kind = 5 from k5), if_neg (show ¬ r.act.kind = 6 from k6), if_pos (show r.act.kind = 7 from k7)]; rfl, by unfold playB; rw [if_neg (show ¬ r.act.kind = 8 by show ¬ r.kind = 8; omega)]⟩
    have hx := crash_t _ _ _ w0 hD0 r.num r.torn (by omega)
    rw [HG.out.1, HG.out.2.1, HG.out.2.2]
    clear k0 k1 k2 k3 k4 k5 k6 k7 hge
    go_enter Try.func13, Try.ntmps13
    go_wp2_with fail
    refine hx.mono ?_
    rintro e w1 ⟨rfl, hD1, hk1⟩
    go_wp2
    go_ret2
    exact ⟨⟨none, 0, 0⟩, rfl, Fl.nil _, hD1, HK0.out _ hk1⟩
  have q7 : (r.kind == 7) = false := by simpa using k7
  have k8 : r.kind = 8 := by omega
  have HG : Hid (playE st r.act = readE st r.name.toList ∧ playS st r.act = st ∧ playB st r.act = readB st r.name.toList) := ⟨by unfold playE; rw [if_neg hge, if_neg (show ¬ r.act.kind = 5 from k5), if_neg (show ¬ r.act.kind = 6 from k6), if_neg (show ¬ r.act.kind = 7 from k7)]; rfl, by unfold playS; rw [if_neg hge, if_neg (show ¬ r.act.kind = 5 from k5), if_neg (show ¬ r.act.kind = 6 from k6), if_neg (show ¬ r.act.kind = 7 from k7)], by unfold playB; rw [if_pos (show r.act.kind = 8 from k8)]; rfl⟩
  have hx := read_t _ _ _ w0 hD0 r.name (by omega) hr0.2.1
  obtain ⟨s1, s2⟩ := readE_small st r.name.toList
  obtain ⟨EE, hEE⟩ : ∃ EE, EE = readE st r.name.toList := ⟨_, rfl⟩
  rw [← hEE] at hx s1 s2
  rw [HG.out.1, HG.out.2.1, HG.out.2.2, ← hEE]
  clear k0 k1 k2 k3 k4 k5 k6 k7 k8 hge hEE
  go_enter Try.func13, Try.ntmps13
  go_wp2_with fail
  refine hx.mono ?_
  rintro e w1 ⟨⟨sa, sn, sc⟩, rfl, hf1, _, hD1, hk1, _⟩
  unfold Sl.val
  go_wp2
  go_ret2
  exact ⟨⟨sa, sn, sc⟩, rfl, hf1, hD1, HK0.out _ hk1⟩
end Go.Proofs.Ytngkapddobgfaaa
