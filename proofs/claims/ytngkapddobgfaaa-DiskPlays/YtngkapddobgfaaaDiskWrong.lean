/-
  What the document's wrong returns: the error of a call ahead of being counted.
-/
import Derived.Test.YtngkapddobgfaaaDiskRefSeen
namespace Go.Proofs.Ytngkapddobgfaaa
open Go.RowKit Go.Maps
set_option linter.unusedVariables false

def wrongR (room : Nat) (down : Bool) (L : List FileL) (a : ActL) : Int := if down then 3 else if a.kind = 5 then 0 else wrongL room L a

def ARef.val (r : ARef) : Value := .agg #[.int .i64 r.kind, .string r.name, .string r.to, .slice r.a r.n r.c, .int .i64 r.num, .int .i64 r.torn]

theorem ret_z {a b : Int} (h : a = b) : Ending.returned (.int .i64 a) = .returned (.int .i64 b) := by rw [h]

/-- The boxes of a call that takes a disk and a call by value. -/
structure Boxes (w w0 : World) (room : Int) (la : Option Addr) (ln lc : Nat) (wa : Option Addr) (wn wc : Nat) (armed : Int) (down : Bool) (deeds : Int) (r : ARef) : Prop where
  eq : (w.alloc (.cells #[.int .i64 room, .slice la ln lc, .slice wa wn wc, .int .i64 armed, .bool down, .int .i64 deeds] 31)).alloc (.cells #[.int .i64 r.kind, .string r.name, .string r.to, .slice r.a r.n r.c, .int .i64 r.num, .int .i64 r.torn] 36) = w0
  d0 : w0.cell? ⟨w.heap.size, 0, none⟩ = some (.int .i64 room)
  d1 : w0.cell? ⟨w.heap.size, 1, none⟩ = some (.slice la ln lc)
  d2 : w0.cell? ⟨w.heap.size, 2, none⟩ = some (.slice wa wn wc)
  d3 : w0.cell? ⟨w.heap.size, 3, none⟩ = some (.int .i64 armed)
  d4 : w0.cell? ⟨w.heap.size, 4, none⟩ = some (.bool down)
  d5 : w0.cell? ⟨w.heap.size, 5, none⟩ = some (.int .i64 deeds)
  e0 : w0.cell? ⟨w.heap.size + 1, 0, none⟩ = some (.int .i64 r.kind)
  e1 : w0.cell? ⟨w.heap.size + 1, 1, none⟩ = some (.string r.name)
  e2 : w0.cell? ⟨w.heap.size + 1, 2, none⟩ = some (.string r.to)
  e3 : w0.cell? ⟨w.heap.size + 1, 3, none⟩ = some (.slice r.a r.n r.c)
  e4 : w0.cell? ⟨w.heap.size + 1, 4, none⟩ = some (.int .i64 r.num)
  e5 : w0.cell? ⟨w.heap.size + 1, 5, none⟩ = some (.int .i64 r.torn)
  size : w0.heap.size = w.heap.size + 2
  below : Below w.heap.size w w0

theorem boxes (w : World) (room : Int) (la : Option Addr) (ln lc : Nat) (wa : Option Addr) (wn wc : Nat) (armed : Int) (down : Bool) (deeds : Int) (r : ARef) : ∃ w0, Boxes w w0 room la ln lc wa wn wc armed down deeds r := by
  obtain ⟨w1, hw1⟩ : ∃ w1, w1 = w.alloc (.cells #[.int .i64 room, .slice la ln lc, .slice wa wn wc, .int .i64 armed, .bool down, .int .i64 deeds] 31) := ⟨_, rfl⟩
  have hs1 : w1.heap.size = w.heap.size + 1 := by rw [hw1]; simp
  have hb1 : Below w.heap.size w w1 := by rw [hw1]; exact (Below.refl _ _).alloc (Nat.le_refl _) _
  have hb : Below w1.heap.size w1 (w1.alloc (.cells #[.int .i64 r.kind, .string r.name, .string r.to, .slice r.a r.n r.c, .int .i64 r.num, .int .i64 r.torn] 36)) := (Below.refl _ _).alloc (Nat.le_refl _) _
  have hc : ∀ i v, w1.cell? ⟨w.heap.size, i, none⟩ = some v → (w1.alloc (.cells #[.int .i64 r.kind, .string r.name, .string r.to, .slice r.a r.n r.c, .int .i64 r.num, .int .i64 r.torn] 36)).cell? ⟨w.heap.size, i, none⟩ = some v := fun i v h => (hb.cell (p := ⟨w.heap.size, i, none⟩) (by show w.heap.size < w1.heap.size; omega)).trans h
  refine ⟨_, ⟨by rw [← hw1], hc 0 _ (by rw [hw1]; simp), hc 1 _ (by rw [hw1]; simp), hc 2 _ (by rw [hw1]; simp), hc 3 _ (by rw [hw1]; simp), hc 4 _ (by rw [hw1]; simp), hc 5 _ (by rw [hw1]; simp), ?_, ?_, ?_, ?_, ?_, ?_, by simp [hs1], hb1.trans (hb.mono (by omega))⟩⟩
  all_goals rw [← hs1]
  all_goals simp

set_option maxRecDepth 100000 in
set_option maxHeartbeats 4000000 in
/-- Ahead of the look for the file. -/
theorem wrong_first (room : Nat) (la : Option Addr) (ln lc : Nat) (wa : Option Addr) (wn wc : Nat) (armed : Int) (down : Bool) (deeds : Int) (a : Option Addr) (n c : Nat) (r : ARef) (w : World) (W : Int)
    (h : (down = true ∧ W = 3) ∨ (down = false ∧ r.kind = 5 ∧ W = 0) ∨ (down = false ∧ r.kind ≠ 5 ∧ W = 1 ∧ (badN r.name.toList = true ∨ (badN r.name.toList = false ∧ r.kind = 3 ∧ badN r.to.toList = true)))) :
    Calls Try.prog 35 #[refDisk (room : Int) la ln lc wa wn wc armed down deeds, .slice a n c, r.val] w fun e w' => e = .returned (.int .i64 W) ∧ Below w.heap.size w w' := by
  obtain ⟨w0, hx⟩ := boxes w (room : Int) la ln lc wa wn wc armed down deeds r
  obtain ⟨hw0, d0, d1, d2, d3, d4, d5, e0, e1, e2, e3, e4, e5, hsz, hb0⟩ := hx
  have hnl : r.name.toList.length = r.name.size := size_list _
  have htl : r.to.toList.length = r.to.size := size_list _
  unfold refDisk ARef.val
  rcases h with ⟨rfl, rfl⟩ | ⟨rfl, k5, rfl⟩ | ⟨rfl, k5, rfl, hbad⟩
  · clear hnl htl
    go_enter Try.func35, Try.ntmps35
    go_wp2
    go_ret
    exact ⟨rfl, hb0⟩
  · have t5 : (r.kind == 5) = true := by simp [k5]
    clear hnl htl k5
    go_enter Try.func35, Try.ntmps35
    go_wp2
    go_ret
    exact ⟨rfl, hb0⟩
  · have t5 : (r.kind == 5) = false := by simp [k5]
    by_cases hb1 : r.name.toList = []
    · clear hnl htl hbad
      go_enter Try.func35, Try.ntmps35
      go_wp2
      go_ret
      exact ⟨rfl, hb0⟩
    have hl0 : r.name.toList.length ≠ 0 := fun h => hb1 (List.eq_nil_of_length_eq_zero h)
    have hb1' : (r.name.toList == []) = false := by simpa using hb1
    by_cases hb2 : 16 < r.name.size
    · have t2 : (16 : Int) < (r.name.size : Int) := by omega
      clear hnl htl hbad hl0
      go_enter Try.func35, Try.ntmps35
      go_wp2
      go_ret
      exact ⟨rfl, hb0⟩
    have t2 : ¬ (16 : Int) < (r.name.size : Int) := by omega
    have hbn : badN r.name.toList = false := by
      rw [hnl] at hl0
      unfold badN
      rw [hnl, Bool.or_eq_false_iff, decide_eq_false_iff_not, decide_eq_false_iff_not]
      omega
    rcases hbad with hbad | ⟨_, k3, hbt⟩
    · rw [hbn] at hbad; cases hbad
    have t3 : (r.kind == 3) = true := by simp [k3]
    by_cases hc1 : r.to.toList = []
    · clear hnl htl hl0 hbn hbt k3
      go_enter Try.func35, Try.ntmps35
      go_wp2
      go_ret
      exact ⟨rfl, hb0⟩
    have hc1' : (r.to.toList == []) = false := by simpa using hc1
    have hc2 : (16 : Int) < (r.to.size : Int) := by
      have h0 : r.to.toList.length ≠ 0 := fun h => hc1 (List.eq_nil_of_length_eq_zero h)
      unfold badN at hbt
      rw [htl] at hbt h0
      rw [Bool.or_eq_true, decide_eq_true_eq, decide_eq_true_eq] at hbt
      omega
    clear hnl htl hl0 hbn hbt k3
    go_enter Try.func35, Try.ntmps35
    go_wp2
    go_ret
    exact ⟨rfl, hb0⟩
set_option maxRecDepth 100000 in
set_option maxHeartbeats 4000000 in
theorem wrong_k0 (room : Nat) (la : Option Addr) (ln lc : Nat) (wa : Option Addr) (wn wc : Nat) (armed : Int) (deeds : Int) (a : Option Addr) (n c : Nat) (rs : List FRef) (r : ARef) (w : World) (W Z : Int) (hf : Fs w a n c rs) (hn : n ≤ 1000)
    (hZ : Z = findZ (rs.map FRef.file) r.name.toList) (hb1' : (r.name.toList == []) = false) (t2 : ¬ (16 : Int) < (r.name.size : Int)) (hk : r.kind = 0) (h : (0 ≤ Z ∧ W = 6) ∨ (Z < 0 ∧ 64 ≤ n ∧ W = 4) ∨ (Z < 0 ∧ n < 64 ∧ W = 0)) :
    Calls Try.prog 35 #[refDisk (room : Int) la ln lc wa wn wc armed false deeds, .slice a n c, r.val] w fun e w' => e = .returned (.int .i64 W) ∧ Below w.heap.size w w' := by
  obtain ⟨w0, hx⟩ := boxes w (room : Int) la ln lc wa wn wc armed false deeds r
  obtain ⟨hw0, d0, d1, d2, d3, d4, d5, e0, e1, e2, e3, e4, e5, hsz, hb0⟩ := hx
  have hb1 : ¬ r.name.toList = [] := by simpa using hb1'
  have HFIND : Hid (∀ w', Below w.heap.size w w' → Calls Try.prog 36 #[.slice a n c, .string r.name] w' fun e w'' => e = .returned (.int .i64 Z) ∧ w'' = w') := fun w' hb => by rw [hZ]; exact refFind_any a n c rs r.name w' (hf.below hb (Nat.le_refl _)) hn
  have hfb := hf.below hb0 (Nat.le_refl _)
  unfold refDisk ARef.val
  have t0 : (r.kind == 0) = true := by simp [hk]
  have t1 : (r.kind == 1) = false := by simp [hk]
  have t2 : (r.kind == 2) = false := by simp [hk]
  have t3 : (r.kind == 3) = false := by simp [hk]
  have t5 : (r.kind == 5) = false := by simp [hk]
  clear hk hZ hf hfb
  rcases h with ⟨hz, rfl⟩ | ⟨hz, h64, rfl⟩ | ⟨hz, h64, rfl⟩
  · go_enter Try.func35, Try.ntmps35
    go_wp2_with fail
    refine (HFIND.out _ hb0).mono ?_
    rintro e w1 ⟨rfl, rfl⟩
    go_wp2
    go_ret
    exact ⟨rfl, hb0⟩
  · have hz' : ¬ 0 ≤ Z := by omega
    have h64' : (64 : Int) ≤ (n : Int) := by omega
    go_enter Try.func35, Try.ntmps35
    go_wp2_with fail
    refine (HFIND.out _ hb0).mono ?_
    rintro e w1 ⟨rfl, rfl⟩
    go_wp2
    go_ret
    exact ⟨rfl, hb0⟩
  · have hz' : ¬ 0 ≤ Z := by omega
    have h64' : ¬ (64 : Int) ≤ (n : Int) := by omega
    go_enter Try.func35, Try.ntmps35
    go_wp2_with fail
    refine (HFIND.out _ hb0).mono ?_
    rintro e w1 ⟨rfl, rfl⟩
    go_wp2
    go_ret
    exact ⟨rfl, hb0⟩

set_option maxRecDepth 100000 in
set_option maxHeartbeats 4000000 in
theorem wrong_k2 (room : Nat) (la : Option Addr) (ln lc : Nat) (wa : Option Addr) (wn wc : Nat) (armed : Int) (deeds : Int) (a : Option Addr) (n c : Nat) (rs : List FRef) (r : ARef) (w : World) (W Z : Int) (hf : Fs w a n c rs) (hn : n ≤ 1000)
    (hZ : Z = findZ (rs.map FRef.file) r.name.toList) (hb1' : (r.name.toList == []) = false) (t2 : ¬ (16 : Int) < (r.name.size : Int)) (hk : r.kind = 2) (h : (r.num < 0 ∧ W = 1) ∨ (0 ≤ r.num ∧ Z = -1 ∧ W = 5) ∨ (∃ (i : Nat) (f : FRef), 0 ≤ r.num ∧ Z = (i : Int) ∧ i < n ∧ rs[i]? = some f ∧ (f.n : Int) < r.num ∧ W = 1) ∨ (∃ (i : Nat) (f : FRef), 0 ≤ r.num ∧ Z = (i : Int) ∧ i < n ∧ rs[i]? = some f ∧ r.num ≤ (f.n : Int) ∧ W = 0)) :
    Calls Try.prog 35 #[refDisk (room : Int) la ln lc wa wn wc armed false deeds, .slice a n c, r.val] w fun e w' => e = .returned (.int .i64 W) ∧ Below w.heap.size w w' := by
  obtain ⟨w0, hx⟩ := boxes w (room : Int) la ln lc wa wn wc armed false deeds r
  obtain ⟨hw0, d0, d1, d2, d3, d4, d5, e0, e1, e2, e3, e4, e5, hsz, hb0⟩ := hx
  have hb1 : ¬ r.name.toList = [] := by simpa using hb1'
  have HFIND : Hid (∀ w', Below w.heap.size w w' → Calls Try.prog 36 #[.slice a n c, .string r.name] w' fun e w'' => e = .returned (.int .i64 Z) ∧ w'' = w') := fun w' hb => by rw [hZ]; exact refFind_any a n c rs r.name w' (hf.below hb (Nat.le_refl _)) hn
  have hfb := hf.below hb0 (Nat.le_refl _)
  unfold refDisk ARef.val
  have t0 : (r.kind == 0) = false := by simp [hk]
  have t1 : (r.kind == 1) = false := by simp [hk]
  have t2 : (r.kind == 2) = true := by simp [hk]
  have t3 : (r.kind == 3) = false := by simp [hk]
  have t5 : (r.kind == 5) = false := by simp [hk]
  clear hk hZ hf
  rcases h with ⟨hz, rfl⟩ | ⟨hz0, rfl, rfl⟩ | ⟨i, f, hz0, rfl, hin, hfi, hlt, rfl⟩ | ⟨i, f, hz0, rfl, hin, hfi, hlt, rfl⟩
  · have hzd : decide (r.num < 0) = true := by simp [hz]
    clear hfb
    rcases Int.lt_or_le Z 0 with hZ0 | hZ0
    · have hZ1 : ¬ 0 ≤ Z := by omega
      have hZd : decide (0 ≤ Z) = false := by simp; omega
      go_enter Try.func35, Try.ntmps35
      go_wp2_with fail
      refine (HFIND.out _ hb0).mono ?_
      rintro e w1 ⟨rfl, rfl⟩
      go_wp2
      go_quiet (fail)
      go_wp2
      go_ret
      exact ⟨rfl, below_drewN hb0 _⟩
    · have hZ1 : ¬ Z < 0 := by omega
      have hZd : decide (0 ≤ Z) = true := by simp; omega
      go_enter Try.func35, Try.ntmps35
      go_wp2_with fail
      refine (HFIND.out _ hb0).mono ?_
      rintro e w1 ⟨rfl, rfl⟩
      go_wp2
      go_quiet (fail)
      go_wp2
      go_ret
      exact ⟨rfl, below_drewN hb0 _⟩
  · have hz0' : ¬ r.num < 0 := by omega
    have hzd : decide (r.num < 0) = false := by simp; omega
    clear hfb
    go_enter Try.func35, Try.ntmps35
    go_wp2_with fail
    refine (HFIND.out _ hb0).mono ?_
    rintro e w1 ⟨rfl, rfl⟩
    go_wp2
    go_quiet (fail)
    go_wp2
    go_ret
    exact ⟨rfl, below_drewN hb0 _⟩
  · obtain ⟨b, off, f', rfl, hf', hfok, c1, c2⟩ := hfb.at hin
    have hff : f' = f := by rw [hfi] at hf'; cases hf'; rfl
    subst hff
    have hz0' : ¬ r.num < 0 := by omega
    have i0 : (0 : Int) ≤ (i : Int) := by omega
    have i1 : (i : Int) < (n : Int) := by omega
    have i2 : ¬ (i : Int) < 0 := by omega
    have i3 : (f'.n : Int) < r.num := hlt
    clear hfb hf' hfi
    go_enter Try.func35, Try.ntmps35
    go_wp2_with fail
    refine (HFIND.out _ hb0).mono ?_
    rintro e w1 ⟨rfl, rfl⟩
    go_wp2
    go_quiet (fail)
    go_wp2
    go_ret
    exact ⟨rfl, below_drewN hb0 _⟩
  · obtain ⟨b, off, f', rfl, hf', hfok, c1, c2⟩ := hfb.at hin
    have hff : f' = f := by rw [hfi] at hf'; cases hf'; rfl
    subst hff
    have hz0' : ¬ r.num < 0 := by omega
    have i0 : (0 : Int) ≤ (i : Int) := by omega
    have i1 : (i : Int) < (n : Int) := by omega
    have i2 : ¬ (i : Int) < 0 := by omega
    have i3 : ¬ (f'.n : Int) < r.num := by omega
    clear hfb hf' hfi
    go_enter Try.func35, Try.ntmps35
    go_wp2_with fail
    refine (HFIND.out _ hb0).mono ?_
    rintro e w1 ⟨rfl, rfl⟩
    go_wp2
    go_quiet (fail)
    go_wp2
    go_quiet (fail)
    go_wp2
    go_ret
    exact ⟨rfl, by first | exact below_drewN (below_drewN hb0 _) _ | exact below_drewN hb0 _⟩

set_option maxRecDepth 100000 in
set_option maxHeartbeats 4000000 in
theorem wrong_k348 (room : Nat) (la : Option Addr) (ln lc : Nat) (wa : Option Addr) (wn wc : Nat) (armed : Int) (deeds : Int) (a : Option Addr) (n c : Nat) (rs : List FRef) (r : ARef) (w : World) (W Z : Int) (hf : Fs w a n c rs) (hn : n ≤ 1000)
    (hZ : Z = findZ (rs.map FRef.file) r.name.toList) (hb1' : (r.name.toList == []) = false) (t2 : ¬ (16 : Int) < (r.name.size : Int)) (hk : r.kind = 3 ∨ r.kind = 4 ∨ r.kind = 8) (h3 : r.kind = 3 → (r.to.toList == []) = false ∧ ¬ (16 : Int) < (r.to.size : Int)) (h : (Z < 0 ∧ W = 5) ∨ (0 ≤ Z ∧ W = 0)) :
    Calls Try.prog 35 #[refDisk (room : Int) la ln lc wa wn wc armed false deeds, .slice a n c, r.val] w fun e w' => e = .returned (.int .i64 W) ∧ Below w.heap.size w w' := by
  obtain ⟨w0, hx⟩ := boxes w (room : Int) la ln lc wa wn wc armed false deeds r
  obtain ⟨hw0, d0, d1, d2, d3, d4, d5, e0, e1, e2, e3, e4, e5, hsz, hb0⟩ := hx
  have hb1 : ¬ r.name.toList = [] := by simpa using hb1'
  have HFIND : Hid (∀ w', Below w.heap.size w w' → Calls Try.prog 36 #[.slice a n c, .string r.name] w' fun e w'' => e = .returned (.int .i64 Z) ∧ w'' = w') := fun w' hb => by rw [hZ]; exact refFind_any a n c rs r.name w' (hf.below hb (Nat.le_refl _)) hn
  have hfb := hf.below hb0 (Nat.le_refl _)
  unfold refDisk ARef.val
  have t0 : (r.kind == 0) = false := by simp; omega
  have t1 : (r.kind == 1) = false := by simp; omega
  have t2' : (r.kind == 2) = false := by simp; omega
  have t5 : (r.kind == 5) = false := by simp; omega
  clear hZ hf hfb
  by_cases k3 : r.kind = 3
  · obtain ⟨s1, s2⟩ := h3 k3
    have s3 : ¬ r.to.toList = [] := by simpa using s1
    have t3 : (r.kind == 3) = true := by simp [k3]
    clear k3 h3 hk
    rcases h with ⟨hz, rfl⟩ | ⟨hz, rfl⟩
    · have hz' : ¬ 0 ≤ Z := by omega
      go_enter Try.func35, Try.ntmps35
      go_wp2_with fail
      refine (HFIND.out _ hb0).mono ?_
      rintro e w1 ⟨rfl, rfl⟩
      go_wp2
      go_quiet (fail)
      go_wp2
      go_ret
      exact ⟨rfl, below_drewN hb0 _⟩
    · have hz' : ¬ Z < 0 := by omega
      go_enter Try.func35, Try.ntmps35
      go_wp2_with fail
      refine (HFIND.out _ hb0).mono ?_
      rintro e w1 ⟨rfl, rfl⟩
      go_wp2
      go_quiet (fail)
      go_wp2
      go_quiet (fail)
      go_wp2
      go_ret
      exact ⟨rfl, by first | exact below_drewN (below_drewN hb0 _) _ | exact below_drewN hb0 _⟩
  · have t3 : (r.kind == 3) = false := by simp [k3]
    clear h3 hk k3
    rcases h with ⟨hz, rfl⟩ | ⟨hz, rfl⟩
    · have hz' : ¬ 0 ≤ Z := by omega
      go_enter Try.func35, Try.ntmps35
      go_wp2_with fail
      refine (HFIND.out _ hb0).mono ?_
      rintro e w1 ⟨rfl, rfl⟩
      go_wp2
      go_quiet (fail)
      go_wp2
      go_ret
      exact ⟨rfl, below_drewN hb0 _⟩
    · have hz' : ¬ Z < 0 := by omega
      go_enter Try.func35, Try.ntmps35
      go_wp2_with fail
      refine (HFIND.out _ hb0).mono ?_
      rintro e w1 ⟨rfl, rfl⟩
      go_wp2
      go_quiet (fail)
      go_wp2
      go_quiet (fail)
      go_wp2
      go_ret
      exact ⟨rfl, by first | exact below_drewN (below_drewN hb0 _) _ | exact below_drewN hb0 _⟩

set_option maxRecDepth 100000 in
set_option maxHeartbeats 4000000 in
theorem wrong_k1 (room : Nat) (la : Option Addr) (ln lc : Nat) (wa : Option Addr) (wn wc : Nat) (armed : Int) (deeds : Int) (a : Option Addr) (n c : Nat) (rs : List FRef) (r : ARef) (w : World) (W Z : Int) (hf : Fs w a n c rs) (hn : n ≤ 1000)
    (hZ : Z = findZ (rs.map FRef.file) r.name.toList) (hb1' : (r.name.toList == []) = false) (t2 : ¬ (16 : Int) < (r.name.size : Int)) (hk : r.kind = 1) (U : Nat) (hU : U = usedF (rs.map FRef.file)) (hu : U ≤ 4294967296) (hroom : room ≤ 1073741824) (hrn : r.n ≤ 1000) (h : (Z < 0 ∧ W = 5) ∨ (0 ≤ Z ∧ room < U + r.n ∧ W = 4) ∨ (0 ≤ Z ∧ U + r.n ≤ room ∧ W = 0)) :
    Calls Try.prog 35 #[refDisk (room : Int) la ln lc wa wn wc armed false deeds, .slice a n c, r.val] w fun e w' => e = .returned (.int .i64 W) ∧ Below w.heap.size w w' := by
  obtain ⟨w0, hx⟩ := boxes w (room : Int) la ln lc wa wn wc armed false deeds r
  obtain ⟨hw0, d0, d1, d2, d3, d4, d5, e0, e1, e2, e3, e4, e5, hsz, hb0⟩ := hx
  have hb1 : ¬ r.name.toList = [] := by simpa using hb1'
  have HFIND : Hid (∀ w', Below w.heap.size w w' → Calls Try.prog 36 #[.slice a n c, .string r.name] w' fun e w'' => e = .returned (.int .i64 Z) ∧ w'' = w') := fun w' hb => by rw [hZ]; exact refFind_any a n c rs r.name w' (hf.below hb (Nat.le_refl _)) hn
  have hfb := hf.below hb0 (Nat.le_refl _)
  unfold refDisk ARef.val
  have t0 : (r.kind == 0) = false := by simp [hk]
  have t1 : (r.kind == 1) = true := by simp [hk]
  have t2 : (r.kind == 2) = false := by simp [hk]
  have t3 : (r.kind == 3) = false := by simp [hk]
  have t5 : (r.kind == 5) = false := by simp [hk]
  have HF : Hid (Fs w a n c rs) := hf
  clear hk hZ hf
  rcases h with ⟨hz, rfl⟩ | ⟨hz, hlt, rfl⟩ | ⟨hz, hlt, rfl⟩
  · have hz' : ¬ 0 ≤ Z := by omega
    clear hfb
    go_enter Try.func35, Try.ntmps35
    go_wp2_with fail
    refine (HFIND.out _ hb0).mono ?_
    rintro e w1 ⟨rfl, rfl⟩
    go_wp2
    go_quiet (fail)
    go_wp2
    go_ret
    exact ⟨rfl, below_drewN hb0 _⟩
  · have hz' : ¬ Z < 0 := by omega
    have HUSED : Hid (∀ w', Below w.heap.size w w' → Calls Try.prog 37 #[.slice a n c] w' fun e w'' => e = .returned (.int .i64 (U : Int)) ∧ w'' = w') := fun w' hb => by rw [hU]; exact refUsed_any a n c rs w' (HF.out.below hb (Nat.le_refl _)) hn (by omega)
    clear hfb
    go_enter Try.func35, Try.ntmps35
    go_wp2_with fail
    refine (HFIND.out _ hb0).mono ?_
    rintro e w1 ⟨rfl, rfl⟩
    go_wp2
    go_quiet (fail)
    have d0' : (w1.drewN nq).cell? ⟨w.heap.size, 0, none⟩ = some (.int .i64 (room : Int)) := d0
    have e0' : (w1.drewN nq).cell? ⟨w.heap.size + 1, 0, none⟩ = some (.int .i64 r.kind) := e0
    have e3' : (w1.drewN nq).cell? ⟨w.heap.size + 1, 3, none⟩ = some (.slice r.a r.n r.c) := e3
    have hb4 := below_drewN hb0 nq
    generalize w1.drewN nq = w4 at *
    have HUQ : Hid (∀ k, Calls Try.prog 37 #[.slice a n c] (w4.drewN k) fun e w' => e = .returned (.int .i64 (U : Int)) ∧ w' = w4.drewN k) := fun k => HUSED.out _ (below_drewN hb4 k)
    have hl : (room : Int) - (U : Int) < (r.n : Int) := by omega
    clear hw0 d0 d1 d2 d3 d4 d5 e0 e1 e2 e3 e4 e5 hU
    go_wp2
    go_quiet (first | (go_at_call 37; exact Calls.quiet_of_same (HUQ.out _)))
    go_wp2
    go_ret
    exact ⟨rfl, below_drewN hb4 _⟩
  · have hz' : ¬ Z < 0 := by omega
    have HUSED : Hid (∀ w', Below w.heap.size w w' → Calls Try.prog 37 #[.slice a n c] w' fun e w'' => e = .returned (.int .i64 (U : Int)) ∧ w'' = w') := fun w' hb => by rw [hU]; exact refUsed_any a n c rs w' (HF.out.below hb (Nat.le_refl _)) hn (by omega)
    clear hfb
    go_enter Try.func35, Try.ntmps35
    go_wp2_with fail
    refine (HFIND.out _ hb0).mono ?_
    rintro e w1 ⟨rfl, rfl⟩
    go_wp2
    go_quiet (fail)
    have d0' : (w1.drewN nq).cell? ⟨w.heap.size, 0, none⟩ = some (.int .i64 (room : Int)) := d0
    have e0' : (w1.drewN nq).cell? ⟨w.heap.size + 1, 0, none⟩ = some (.int .i64 r.kind) := e0
    have e3' : (w1.drewN nq).cell? ⟨w.heap.size + 1, 3, none⟩ = some (.slice r.a r.n r.c) := e3
    have hb4 := below_drewN hb0 nq
    generalize w1.drewN nq = w4 at *
    have HUQ : Hid (∀ k, Calls Try.prog 37 #[.slice a n c] (w4.drewN k) fun e w' => e = .returned (.int .i64 (U : Int)) ∧ w' = w4.drewN k) := fun k => HUSED.out _ (below_drewN hb4 k)
    have hl : ¬ (room : Int) - (U : Int) < (r.n : Int) := by omega
    clear hw0 d0 d1 d2 d3 d4 d5 e0 e1 e2 e3 e4 e5 hU
    go_wp2
    go_quiet (first | (go_at_call 37; exact Calls.quiet_of_same (HUQ.out _)))
    go_wp2
    go_ret
    exact ⟨rfl, below_drewN hb4 _⟩
end Go.Proofs.Ytngkapddobgfaaa
