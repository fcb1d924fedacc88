/-
  What frame.Get returns at a place of bytes.
-/
import Derived.Test.YtfcckekinlobjaaFrPut
import Derived.Test.YtfcckekinlobjaaFrBackMath
import Derived.Deep.RegionHeld3
namespace Go.Proofs.Ytfcckekinlobjaa
open Go.RowKit
set_option linter.unusedVariables false

/-- The record whose frame bytes begin with, and how long the frame is. -/
def getF (l : List Int) : Option (List Int × Nat) :=
  if (rdU l).2.2 ≠ 0 then none
  else if 65536 < (rdU l).1 then none
  else if l.length < (rdU l).2.1 + 4 + (rdU l).1 then none
  else if bword (l.drop (rdU l).2.1) = crcOf (l.take (rdU l).2.1 ++ (l.drop ((rdU l).2.1 + 4)).take (rdU l).1) then some ((l.drop ((rdU l).2.1 + 4)).take (rdU l).1, (rdU l).2.1 + 4 + (rdU l).1)
  else none

/-- A slice of bytes lies in a block of bytes. -/
def Bt8 (w : World) (a : Option Addr) (n : Nat) : Prop := n = 0 ∨ ∃ g off cur, a = some ⟨g, off, none⟩ ∧ w.heap[g]? = some (.cells cur 5 (0, 0))

theorem Own.typed {w : World} {base : Nat} {a : Option Addr} {n c : Nat} {zs : List Int} (h : Own w base (.slice a n c) zs) : Bt8 w a n := by
  rcases h.1.2 with ⟨h1, h2⟩ | ⟨g, cap, cur, h1, hb, hh, _⟩
  · cases h1; exact .inl rfl
  · cases h1; exact .inr ⟨g, 0, cur, rfl, hh⟩

theorem Bt8.drop {w : World} {a : Option Addr} {n : Nat} (h : Bt8 w a n) (hn : 0 < n) (p m : Nat) : Bt8 w (Option.map (fun x => x.add p) a) m := by
  rcases h with h | ⟨g, off, cur, rfl, hh⟩
  · omega
  · refine .inr ⟨g, off + p, cur, ?_, hh⟩
    rw [Option.map_some]
    unfold Addr.add
    split <;> simp [*]

set_option maxRecDepth 100000 in
set_option maxHeartbeats 400000 in
theorem get_arg (a : Option Addr) (k cap p : Nat) (w : World) (hp : k < p) :
    Calls Try.prog 14 #[.slice a k cap, .int .i64 (p : Int)] w fun e w' => e = .returned (.tuple #[.slice none 0 0, .int .i64 0, .int .u8 1]) ∧ w' = w := by
  go_enter Try.func14, Try.ntmps14
  go_wp2_with fail
  refine (uint_arg a k cap p w hp).mono ?_
  rintro e w1 ⟨rfl, rfl⟩
  go_wp2
  go_ret3
  exact ⟨rfl, rfl⟩

set_option maxRecDepth 100000 in
set_option maxHeartbeats 400000 in
theorem get_err (a : Option Addr) (k cap p er : Nat) (zs : List Int) (w : World) (hb : Bs w a k zs) (hk : k ≤ 1000000) (hkc : k ≤ cap) (hp : p ≤ k) (he : rdU (zs.drop p) = (0, 0, er)) (h0 : er ≠ 0) :
    Calls Try.prog 14 #[.slice a k cap, .int .i64 (p : Int)] w fun e w' => e = .returned (.tuple #[.slice none 0 0, .int .i64 0, .int .u8 (er : Int)]) ∧ w' = w := by
  have h1 : ((er : Int) != 0) = true := by simp; omega
  have H : Hid (∀ w, Bs w a k zs → Calls Try.prog 22 #[.slice a k cap, .int .i64 (p : Int)] w fun e w' => e = .returned (.tuple #[.int .u64 0, .int .i64 0, .int .u8 (er : Int)]) ∧ w' = w) := fun w hb => uint_err a k cap zs p er w hb (by omega) hkc hp he h0
  clear he
  go_enter Try.func14, Try.ntmps14
  go_wp2_with fail
  refine (H.out w hb).mono ?_
  rintro e w1 ⟨rfl, rfl⟩
  go_wp2
  go_ret3
  exact ⟨rfl, rfl⟩

set_option maxRecDepth 100000 in
set_option maxHeartbeats 400000 in
theorem get_large (a : Option Addr) (k cap p v c : Nat) (zs : List Int) (w : World) (hb : Bs w a k zs) (hk : k ≤ 1000000) (hkc : k ≤ cap) (hp : p ≤ k) (he : rdU (zs.drop p) = (v, c, 0)) (h0 : 65536 < v) :
    Calls Try.prog 14 #[.slice a k cap, .int .i64 (p : Int)] w fun e w' => e = .returned (.tuple #[.slice none 0 0, .int .i64 0, .int .u8 9]) ∧ w' = w := by
  have h1 : (65536 : Int) < (v : Int) := by omega
  have H : Hid (∀ w, Bs w a k zs → Calls Try.prog 22 #[.slice a k cap, .int .i64 (p : Int)] w fun e w' => e = .returned (.tuple #[.int .u64 (v : Int), .int .i64 ((p + c : Nat) : Int), .int .u8 0]) ∧ w' = w) := fun w hb => uint_read a k cap zs p v c w hb (by omega) hkc hp he
  obtain ⟨q, hq⟩ : ∃ q, q = p + c := ⟨_, rfl⟩
  rw [← hq] at H
  clear he hq
  go_enter Try.func14, Try.ntmps14
  go_wp2_with fail
  refine (H.out w hb).mono ?_
  rintro e w1 ⟨rfl, rfl⟩
  go_wp2
  go_ret3
  exact ⟨rfl, rfl⟩

set_option maxRecDepth 100000 in
set_option maxHeartbeats 400000 in
theorem get_short (a : Option Addr) (k cap p v c : Nat) (zs : List Int) (w : World) (hb : Bs w a k zs) (hk : k ≤ 1000000) (hkc : k ≤ cap) (hp : p ≤ k) (he : rdU (zs.drop p) = (v, c, 0)) (h0 : v ≤ 65536) (hs : k < p + c + 4 + v) :
    Calls Try.prog 14 #[.slice a k cap, .int .i64 (p : Int)] w fun e w' => e = .returned (.tuple #[.slice none 0 0, .int .i64 0, .int .u8 10]) ∧ w' = w := by
  have H : Hid (∀ w, Bs w a k zs → Calls Try.prog 22 #[.slice a k cap, .int .i64 (p : Int)] w fun e w' => e = .returned (.tuple #[.int .u64 (v : Int), .int .i64 ((p + c : Nat) : Int), .int .u8 0]) ∧ w' = w) := fun w hb => uint_read a k cap zs p v c w hb (by omega) hkc hp he
  have hcb := rdU_bounds (fun z hz => hb.2.1 z (List.mem_of_mem_drop hz)) he
  have hcl : c ≤ k - p := by have := hcb.2.2.1; rwa [List.length_drop, hb.1] at this
  obtain ⟨q, hq⟩ : ∃ q, q = p + c := ⟨_, rfl⟩
  have hqk : q ≤ k := by omega
  rw [← hq] at H hs
  have h1 : ¬ (65536 : Int) < (v : Int) := by omega
  have h2 : (k : Int) - (q : Int) < 4 + (v : Int) := by omega
  clear he hq hcb hcl
  go_enter Try.func14, Try.ntmps14
  go_wp2_with fail
  refine (H.out w hb).mono ?_
  rintro e w1 ⟨rfl, rfl⟩
  go_wp2
  go_ret3
  exact ⟨rfl, rfl⟩

set_option maxRecDepth 100000 in
set_option maxHeartbeats 800000 in
theorem get_whole (a : Option Addr) (k cap p v c : Nat) (zs : List Int) (w : World) (hb : Bs w a k zs) (hk : k ≤ 1000000) (hkc : k ≤ cap) (hp : p ≤ k) (he : rdU (zs.drop p) = (v, c, 0)) (h0 : v ≤ 65536) (hs : p + c + 4 + v ≤ k) :
    Calls Try.prog 14 #[.slice a k cap, .int .i64 (p : Int)] w fun e w' =>
      (bword ((zs.drop p).drop c) ≠ crcOf ((zs.drop p).take c ++ ((zs.drop p).drop (c + 4)).take v) ∧ e = .returned (.tuple #[.slice none 0 0, .int .i64 0, .int .u8 8]) ∧ Below w.heap.size w w') ∨
      (bword ((zs.drop p).drop c) = crcOf ((zs.drop p).take c ++ ((zs.drop p).drop (c + 4)).take v) ∧ ∃ a' c', e = .returned (.tuple #[.slice a' v c', .int .i64 ((p + (c + 4 + v) : Nat) : Int), .int .u8 0]) ∧ Piece.ok w' ⟨a', v, c', ((zs.drop p).drop (c + 4)).take v⟩ ∧ Bt8 w' a' v ∧ Below w.heap.size w w') := by
  have H : Hid (∀ w, Bs w a k zs → Calls Try.prog 22 #[.slice a k cap, .int .i64 (p : Int)] w fun e w' => e = .returned (.tuple #[.int .u64 (v : Int), .int .i64 ((p + c : Nat) : Int), .int .u8 0]) ∧ w' = w) := fun w hb => uint_read a k cap zs p v c w hb (by omega) hkc hp he
  have hcb := rdU_bounds (fun z hz => hb.2.1 z (List.mem_of_mem_drop hz)) he
  have hc1 := hcb.2.1
  obtain ⟨q, hq⟩ : ∃ q, q = p + c := ⟨_, rfl⟩
  obtain ⟨s, hs'⟩ : ∃ s, s = q + 4 := ⟨_, rfl⟩
  obtain ⟨x, hx'⟩ : ∃ x, x = s + v := ⟨_, rfl⟩
  rw [← hq] at H hs
  have h1 : ¬ (65536 : Int) < (v : Int) := by omega
  have h2 : ¬ (k : Int) - (q : Int) < 4 + (v : Int) := by omega
  rcases hb.2.2 with h00 | ⟨b, off, rfl, hblk, _⟩
  · omega
  have HX : Hid (q = p + c ∧ s = q + 4 ∧ x = s + v ∧ x ≤ k) := ⟨hq, hs', hx', by omega⟩
  have n1 : ¬ cap = q := by omega
  have n2 : ¬ cap = p := by omega
  have k1 : (p : Int) ≤ (q : Int) := by omega
  have k2 : (q : Int) ≤ (s : Int) := by omega
  have k3 : (s : Int) ≤ (x : Int) := by omega
  have k4 : (x : Int) ≤ (cap : Int) := by omega
  have k5 : (q : Int) ≤ (cap : Int) := by omega
  have k6 : (s : Int) ≤ (cap : Int) := by omega
  have k7 : (0 : Int) ≤ (p : Int) := by omega
  have k8 : (q : Int) - (p : Int) = (c : Int) := by omega
  have hadd : ∀ n, (⟨b, off, none⟩ : Addr).add n = ⟨b, off + n, none⟩ := fun n => by unfold Addr.add; split <;> simp [*]
  have hbq : Bs w (some ⟨b, off + q, none⟩) 4 ((zs.drop q).take 4) := by
    have := (hb.drop (p := q) (by omega)).take (q := 4) (by omega)
    rwa [Option.map_some, hadd] at this
  have hbp : Bs w (some ⟨b, off + p, none⟩) c ((zs.drop p).take c) := by
    have := (hb.drop (p := p) (by omega)).take (q := c) (by omega)
    rwa [Option.map_some, hadd] at this
  have hbs : Bs w (if cap = s then some ⟨b, off, none⟩ else some ⟨b, off + s, none⟩) v ((zs.drop s).take v) := by
    have := (hb.cut (p := s) (cap := cap) (by omega) hkc).take (q := v) (by omega)
    rwa [Option.map_some, hadd] at this
  obtain ⟨T1, hT1⟩ : ∃ T, T = (zs.drop q).take 4 := ⟨_, rfl⟩
  obtain ⟨T2, hT2⟩ : ∃ T, T = (zs.drop p).take c := ⟨_, rfl⟩
  obtain ⟨T3, hT3⟩ : ∃ T, T = (zs.drop s).take v := ⟨_, rfl⟩
  have e1 : (zs.drop p).drop c = zs.drop q := by rw [List.drop_drop, ← hq]
  have e2 : ((zs.drop p).drop (c + 4)).take v = T3 := by rw [List.drop_drop, hT3, hs', hq, Nat.add_assoc]
  have e3 : bword ((zs.drop p).drop c) = bword (T1 ++ (T2 ++ T3)) := by
    rw [e1, ← bword_take (zs.drop q) 4 (by omega), ← hT1, ← bword_take (T1 ++ (T2 ++ T3)) 4 (by omega), List.take_left' (by rw [hT1]; exact hbq.1)]
  rw [e2, e3, ← hT2]
  rw [← hT1] at hbq
  rw [← hT2] at hbp
  rw [← hT3] at hbs
  have l1 := hbq.1
  have l2 := hbp.1
  have l3 := hbs.1
  have hr := rs_built w [⟨some ⟨b, off + q, none⟩, s - q, cap - q, T1⟩, ⟨some ⟨b, off + p, none⟩, q - p, cap - p, T2⟩, ⟨if cap = s then some ⟨b, off, none⟩ else some ⟨b, off + s, none⟩, x - s, cap - s, T3⟩] 22 (by
    have c1 : s - q = 4 := by omega
    have c2 : q - p = c := by omega
    have c3 : x - s = v := by omega
    simp only [List.mem_cons, List.not_mem_nil, or_false, forall_eq_or_imp, forall_eq, c1, c2, c3]
    refine ⟨⟨(fun h => by cases h), hbq, ?_, ?_⟩, ⟨(fun h => by cases h), hbp, ?_, ?_⟩, ⟨(fun h => ?_), hbs, ?_, ?_⟩⟩
    · show 4 ≤ maxLen; unfold maxLen; omega
    · show 4 ≤ cap - q; omega
    · show c ≤ maxLen; unfold maxLen; omega
    · show c ≤ cap - p; omega
    · have h' : (if cap = s then some (⟨b, off, none⟩ : Addr) else some ⟨b, off + s, none⟩) = none := h
      split at h' <;> cases h'
    · show v ≤ maxLen; unfold maxLen; omega
    · show v ≤ cap - s; omega)
  have hj : joinR (fun i => (([⟨some ⟨b, off + q, none⟩, s - q, cap - q, T1⟩, ⟨some ⟨b, off + p, none⟩, q - p, cap - p, T2⟩, ⟨if cap = s then some ⟨b, off, none⟩ else some ⟨b, off + s, none⟩, x - s, cap - s, T3⟩] : List Piece).getD i pnil).zs) 3 = T1 ++ (T2 ++ T3) := by simp [joinR]
  have hjl : (T1 ++ (T2 ++ T3)).length = 4 + (c + v) := by rw [List.length_append, List.length_append, l1, l2, l3]
  have HC : Hid (Calls Try.prog 16 #[.slice (some ⟨w.heap.size, 0, none⟩) 3 3] (w.alloc (.cells #[.slice (some ⟨b, off + q, none⟩) (s - q) (cap - q), .slice (some ⟨b, off + p, none⟩) (q - p) (cap - p), .slice (if cap = s then some ⟨b, off, none⟩ else some ⟨b, off + s, none⟩) (x - s) (cap - s)] 22)).drew fun e w' => ∃ v, e = .returned v ∧ Own w' (w.heap.size + 1) v (T1 ++ (T2 ++ T3)) ∧ Below w.heap.size w w') := by
    have := concat_any _ 3 3 _ _ _ _ (w.alloc (.cells #[.slice (some ⟨b, off + q, none⟩) (s - q) (cap - q), .slice (some ⟨b, off + p, none⟩) (q - p) (cap - p), .slice (if cap = s then some ⟨b, off, none⟩ else some ⟨b, off + s, none⟩) (x - s) (cap - s)] 22)).drew hr (by omega) (by rw [hj, hjl]; omega)
    rw [hj] at this
    refine this.mono ?_
    rintro e w' ⟨v', rfl, ho, hb'⟩
    have hz : (w.alloc (.cells #[.slice (some ⟨b, off + q, none⟩) (s - q) (cap - q), .slice (some ⟨b, off + p, none⟩) (q - p) (cap - p), .slice (if cap = s then some ⟨b, off, none⟩ else some ⟨b, off + s, none⟩) (x - s) (cap - s)] 22)).drew.heap.size = w.heap.size + 1 := by show (w.alloc _).heap.size = _; rw [World.size_alloc]
    rw [hz] at ho hb'
    exact ⟨v', rfl, ho, ((Below.refl _ _).alloc (Nat.le_refl _) _).drew.trans (hb'.mono (by omega))⟩
  obtain ⟨D, hD⟩ : ∃ D, D = T2 ++ T3 := ⟨_, rfl⟩
  obtain ⟨T, hT⟩ : ∃ T, T = T1 ++ D := ⟨_, rfl⟩
  rw [← hD, ← hT] at HC hjl
  rw [← hD, ← hT]
  have HD1 : Hid (T.drop 4 = D) := by show T.drop 4 = D; rw [hT]; exact List.drop_left' l1
  have HD2 : Hid (D.drop c = T3) := by show D.drop c = T3; rw [hD]; exact List.drop_left' l2
  have hDl : D.length = c + v := by rw [hD, List.length_append, l2, l3]
  clear hadd hT hD hr hj hbq hbp hbs l1 l2 l3 hT1 hT2 hT3 e1 e2 e3
  clear he hq hs' hx' hcb
  by_cases hE : bword T = crcOf D
  · have HG : Hid (∀ w a ca, Bs w a (4 + (c + v)) T → 4 + (c + v) ≤ ca → Calls Try.prog 23 #[.slice a (4 + (c + v)) ca] w fun e w' => ∃ v, e = .returned (.tuple #[v, .int .u8 0]) ∧ Own w' w.heap.size v D ∧ Below w.heap.size w w') := fun w a ca h1 h2 => by
      have := get_ok a (4 + (c + v)) ca T w h1 (by omega) h2 (by omega) (by rw [HD1.out]; exact hE)
      rw [HD1.out] at this
      exact this
    have HE : Hid (bword T = crcOf D) := hE
    clear hE
    go_enter Try.func14, Try.ntmps14
    go_wp2_with fail
    refine (H.out w hb).mono ?_
    rintro e w1 ⟨rfl, rfl⟩
    go_wp2
    rw [show (q : Int) + 4 = ((s : Nat) : Int) from by have := HX.out; omega]
    rw [show (s : Int) + (v : Int) = ((x : Nat) : Int) from by have := HX.out; omega]
    have hS0 : Below w1.heap.size w1 w1.drew := (Below.refl _ _).drew
    go_region_held3 (fun w' => Below w1.heap.size w1 w') (first | exact hS0 | exact ((Below.refl _ _).alloc (Nat.le_refl _) _).drew | exact (Below.refl _ _).alloc (Nat.le_refl _) _ | exact hS1 | exact hS2)
      (first
        | (go_at_call 16; refine HC.out.mono ?_; rintro e w5 ⟨v5, rfl, ho5, hS1⟩; obtain ⟨a5, c5, rfl, hc5, hn5, bt5⟩ := ho5.slice; rw [hjl] at bt5 hc5 hn5; rw [hjl]; dsimp only)
        | (go_at_call 23; refine (HG.out _ _ _ bt5 hc5).mono ?_; rintro e w6 ⟨v6, rfl, ho6, hb6⟩; have hS2 := hS1.trans (hb6.mono hS1.size); obtain ⟨a6, c6, rfl, hc6, hn6, bt6⟩ := ho6.slice; have ht6 := ho6.typed; rw [hDl] at bt6 hc6 hn6 ht6; rw [hDl]; dsimp only))
    all_goals have k9 : (c : Int) ≤ (c : Int) + (v : Int) := by omega
    all_goals have k10 : (c : Int) + (v : Int) ≤ (c6 : Int) := by omega
    all_goals go_wp2
    all_goals go_ret3
    all_goals have hxx : (p : Int) + ((c : Int) + 4 + (v : Int)) = (x : Int) := by have := HX.out; omega
    all_goals rw [hxx]
    all_goals first
      | (refine .inr ⟨HE.out, _, _, rfl, ⟨fun _ => ⟨by show v = 0; omega, rfl⟩, ?_, by show v ≤ maxLen; unfold maxLen; omega, by show v ≤ 0; omega⟩, .inl (by omega), hS2⟩
         have hv : v = 0 := by omega
         have h3 := (bt6.drop (p := c) (by omega)).1
         rw [HD2.out] at h3
         have h4 : T3 = [] := List.eq_nil_of_length_eq_zero (by omega)
         show Bs w6 a6 v T3
         rw [hv, h4]
         exact Bs.empty _ _)
      | (refine .inr ⟨HE.out, _, _, rfl, ⟨fun h => ?_, ?_, by show v ≤ maxLen; unfold maxLen; omega, by show v ≤ c6 - c; omega⟩, ht6.drop (by omega) c v, hS2⟩
         · have h5 : a6 = none := by simpa using h
           have := (hn6 h5).1
           omega
         · have h3 := bt6.drop (p := c) (by omega)
           rw [HD2.out, Nat.add_sub_cancel_left] at h3
           exact h3)
  · have HG : Hid (∀ w a ca, Bs w a (4 + (c + v)) T → 4 + (c + v) ≤ ca → Calls Try.prog 23 #[.slice a (4 + (c + v)) ca] w fun e w' => e = .returned (.tuple #[.slice none 0 0, .int .u8 8]) ∧ Below w.heap.size w w') := fun w a ca h1 h2 => by
      refine (get_sum a (4 + (c + v)) ca T w h1 (by omega) h2 (by omega) (by rw [HD1.out]; exact hE)).mono ?_
      rintro e w' ⟨rfl, nq, rfl⟩
      exact ⟨rfl, below_drewN (Below.refl _ _) _⟩
    have HE : Hid (¬ bword T = crcOf D) := hE
    clear hE
    go_enter Try.func14, Try.ntmps14
    go_wp2_with fail
    refine (H.out w hb).mono ?_
    rintro e w1 ⟨rfl, rfl⟩
    go_wp2
    rw [show (q : Int) + 4 = ((s : Nat) : Int) from by have := HX.out; omega]
    rw [show (s : Int) + (v : Int) = ((x : Nat) : Int) from by have := HX.out; omega]
    have hS0 : Below w1.heap.size w1 w1.drew := (Below.refl _ _).drew
    go_region_held3 (fun w' => Below w1.heap.size w1 w') (first | exact hS0 | exact ((Below.refl _ _).alloc (Nat.le_refl _) _).drew | exact (Below.refl _ _).alloc (Nat.le_refl _) _ | exact hS1 | exact hS2)
      (first
        | (go_at_call 16; refine HC.out.mono ?_; rintro e w5 ⟨v5, rfl, ho5, hS1⟩; obtain ⟨a5, c5, rfl, hc5, hn5, bt5⟩ := ho5.slice; rw [hjl] at bt5 hc5 hn5; rw [hjl]; dsimp only)
        | (go_at_call 23; refine (HG.out _ _ _ bt5 hc5).mono ?_; rintro e w6 ⟨rfl, hb6⟩; have hS2 := hS1.trans (hb6.mono hS1.size); dsimp only))
    all_goals go_wp2
    all_goals go_ret3
    all_goals exact .inl ⟨HE.out, rfl, hS2⟩
end Go.Proofs.Ytfcckekinlobjaa
