/-
  What frame.sum, frame.Put and frame.Size return.
-/
import Derived.Test.YtfcckekinlobjaaFrConcat
import Derived.Test.YtfcckekinlobjaaCrcGet
namespace Go.Proofs.Ytfcckekinlobjaa
open Go.RowKit
set_option linter.unusedVariables false

/-- A slice's head, length, capacity and bytes. -/
structure Piece where
  a : Option Addr
  n : Nat
  c : Nat
  zs : List Int

def Piece.ok (w : World) (p : Piece) : Prop := (p.a = none → p.n = 0 ∧ p.c = 0) ∧ Bs w p.a p.n p.zs ∧ p.n ≤ maxLen ∧ p.n ≤ p.c
def Piece.v (p : Piece) : Value := .slice p.a p.n p.c
def pnil : Piece := ⟨none, 0, 0, []⟩

/-- A row of slices that the call has just built. -/
theorem rs_built (w : World) (ps : List Piece) (t : TypeId) (h : ∀ p ∈ ps, p.ok w) :
    Rs (w.alloc (.cells (ps.map Piece.v).toArray t)) (some ⟨w.heap.size, 0, none⟩) ps.length (fun i => (ps.getD i pnil).a) (fun i => (ps.getD i pnil).n) (fun i => (ps.getD i pnil).c) (fun i => (ps.getD i pnil).zs) := by
  have hbel : Below w.heap.size w (w.alloc (.cells (ps.map Piece.v).toArray t)) := (Below.refl _ _).alloc (Nat.le_refl _) _
  refine ⟨fun r hr => ?_, ?_⟩
  · have hm : ps.getD r pnil ∈ ps := by rw [List.getD_eq_getElem?_getD, List.getElem?_eq_getElem hr]; exact List.getElem_mem hr
    obtain ⟨h1, h2, h3, h4⟩ := h _ hm
    exact ⟨h1, h2.below hbel (Nat.le_refl _), h3, h4⟩
  · refine .inr ⟨w.heap.size, 0, rfl, by simp, fun r hr => ?_⟩
    rw [Nat.zero_add, World.cell?_alloc_mark]
    simp [Piece.v, hr]

set_option maxRecDepth 100000 in
set_option maxHeartbeats 400000 in
theorem sum_any (a b : Option Addr) (n m c d : Nat) (zs ys : List Int) (w : World) (hp : Piece.ok w ⟨a, n, c, zs⟩) (hq : Piece.ok w ⟨b, m, d, ys⟩) (hl : n + m ≤ 1000000) :
    Calls Try.prog 17 #[.slice a n c, .slice b m d] w fun e w' => ∃ a' c', e = .returned (.slice a' 4 c') ∧ Piece.ok w' ⟨a', 4, c', wbytes (crcOf (zs ++ ys))⟩ ∧ Below w.heap.size w w' := by
  have hr := rs_built w [⟨a, n, c, zs⟩, ⟨b, m, d, ys⟩] 22 (by simp [hp, hq])
  have hj : joinR (fun i => (([⟨a, n, c, zs⟩, ⟨b, m, d, ys⟩] : List Piece).getD i pnil).zs) 2 = zs ++ ys := by simp [joinR]
  have HC : Hid (∀ c', Calls Try.prog 16 #[.slice (some ⟨w.heap.size, 0, none⟩) 2 c'] (w.alloc (.cells #[.slice a n c, .slice b m d] 22)) fun e w' => ∃ v, e = .returned v ∧ Own w' (w.heap.size + 1) v (zs ++ ys) ∧ Below (w.heap.size + 1) (w.alloc (.cells #[.slice a n c, .slice b m d] 22)) w') := by
    intro c'
    have := concat_any _ 2 c' _ _ _ _ _ hr (by omega) (by rw [hj, List.length_append, hp.2.1.1, hq.2.1.1]; show n + m ≤ _; omega)
    rw [hj, World.size_alloc] at this
    exact this
  have hlen : (zs ++ ys).length ≤ 1000000 := by rw [List.length_append, hp.2.1.1, hq.2.1.1]; exact hl
  obtain ⟨T, hT⟩ : ∃ T, T = zs ++ ys := ⟨_, rfl⟩
  rw [← hT] at HC hlen ⊢
  clear hr hj hT
  go_enter Try.func17, Try.ntmps17
  go_wp2_with fail
  refine (HC.out _).mono ?_
  rintro e w1 ⟨v1, rfl, ho1, hb1⟩
  obtain ⟨a1, c1, rfl, hc1, hnil1, hbs1⟩ := ho1.slice
  have hb1' : Below w.heap.size w w1 := ((Below.refl _ _).alloc (Nat.le_refl _) _).trans (hb1.mono (by simp))
  clear ho1 hb1 hp hq
  go_wp2_with fail
  refine (put_any a1 _ c1 T w1 hnil1 hbs1 (by omega)).mono ?_
  rintro e w2 ⟨v2, rfl, ho2, hb2⟩
  obtain ⟨X, hX⟩ : ∃ X, X = wbytes (crcOf T) ++ T := ⟨_, rfl⟩
  rw [← hX] at ho2
  have hXl : 4 ≤ X.length := by rw [hX, List.length_append]; simp [wbytes]
  have HT : Hid (X.take 4 = wbytes (crcOf T)) := by rw [hX]; exact List.take_left' rfl
  obtain ⟨a2, c2, rfl, hc2, hnil2, hbs2⟩ := ho2.slice
  have hb2' := hb1'.trans (hb2.mono hb1'.size)
  clear hX ho2 hb2 hb1' hbs1 hnil1
  have hc4 : 4 ≤ c2 := by omega
  have hc4' : (4 : Int) ≤ (c2 : Int) := by omega
  go_wp2
  go_ret
  refine ⟨_, _, rfl, ⟨fun h => ?_, ?_, (by show 4 ≤ maxLen; unfold maxLen; omega), hc4⟩, hb2'⟩
  · have := (hnil2 h).1; omega
  · rw [← HT.out]; exact hbs2.take hXl

/-- A record's frame. -/
def frameOf (r : List Int) : List Int := ubytes r.length ++ (wbytes (crcOf (ubytes r.length ++ r)) ++ r)

set_option maxRecDepth 100000 in
set_option maxHeartbeats 800000 in
theorem fput_any (a b : Option Addr) (n m c d : Nat) (zs rs : List Int) (w : World) (hp : Piece.ok w ⟨a, n, c, zs⟩) (hq : Piece.ok w ⟨b, m, d, rs⟩) (hn : n ≤ 1000000) (hm : m ≤ 65536) :
    Calls Try.prog 7 #[.slice a n c, .slice b m d] w fun e w' => ∃ v, e = .returned (.tuple #[v, .int .u8 0]) ∧ Own w' w.heap.size v (zs ++ frameOf rs) ∧ Below w.heap.size w w' := by
  obtain ⟨T, hT⟩ : ∃ T, T = zs ++ frameOf rs := ⟨_, rfl⟩
  rw [← hT]
  have HT : Hid (T = zs ++ frameOf rs) := hT
  clear hT
  have hlr : rs.length = m := hq.2.1.1
  have hu : (ubytes m).length ≤ 10 := (ubytes_le m).2
  obtain ⟨U, hU⟩ : ∃ U, U = ubytes m := ⟨_, rfl⟩
  rw [← hU] at hu
  have HF : Hid (frameOf rs = U ++ (wbytes (crcOf (U ++ rs)) ++ rs)) := by show frameOf rs = _; rw [frameOf, hlr, hU]
  have HU : Hid (∀ w, Calls Try.prog 15 #[.slice none 0 0, .int .u64 (m : Int)] w fun e w' => ∃ v, e = .returned v ∧ Own w' w.heap.size v U ∧ Below w.heap.size w w') := fun w => by
    have := putUint_any none 0 0 [] m (by omega) w (fun _ => ⟨rfl, rfl⟩) (Bs.empty _ _) (by omega)
    rw [List.nil_append, ← hU] at this
    exact this
  clear hU
  go_enter Try.func7, Try.ntmps7
  go_wp2_with fail
  refine (HU.out _).mono ?_
  rintro e w1 ⟨v1, rfl, ho1, hb1⟩
  obtain ⟨a1, c1, rfl, hc1, hnil1, hbs1⟩ := ho1.slice
  have P1 : Piece.ok w1 ⟨a1, U.length, c1, U⟩ := ⟨hnil1, hbs1, (by show U.length ≤ maxLen; unfold maxLen; omega), hc1⟩
  have Pz : Piece.ok w1 ⟨a, n, c, zs⟩ := ⟨hp.1, hp.2.1.below hb1 (Nat.le_refl _), hp.2.2⟩
  have Pr : Piece.ok w1 ⟨b, m, d, rs⟩ := ⟨hq.1, hq.2.1.below hb1 (Nat.le_refl _), hq.2.2⟩
  obtain ⟨u, hul⟩ : ∃ u, u = U.length := ⟨_, rfl⟩
  rw [← hul] at P1 hu
  rw [← hul]
  clear ho1 hnil1 hbs1 hc1 hp hq hlr hul
  go_wp2_with fail
  refine (sum_any a1 b u m c1 d U rs w1 P1 Pr (by omega)).mono ?_
  rintro e w2 ⟨a2, c2, rfl, P2, hb2⟩
  have P1' : Piece.ok w2 ⟨a1, u, c1, U⟩ := ⟨P1.1, P1.2.1.below hb2 (Nat.le_refl _), P1.2.2⟩
  have Pz' : Piece.ok w2 ⟨a, n, c, zs⟩ := ⟨Pz.1, Pz.2.1.below hb2 (Nat.le_refl _), Pz.2.2⟩
  have Pr' : Piece.ok w2 ⟨b, m, d, rs⟩ := ⟨Pr.1, Pr.2.1.below hb2 (Nat.le_refl _), Pr.2.2⟩
  obtain ⟨X, hX⟩ : ∃ X, X = wbytes (crcOf (U ++ rs)) := ⟨_, rfl⟩
  rw [← hX] at P2
  have HF' : Hid (zs ++ frameOf rs = zs ++ U ++ X ++ rs) := by show _ = _; rw [HF.out, hX]; simp
  have hbel : Below w.heap.size w w2 := hb1.trans (hb2.mono hb1.size)
  have hr := rs_built w2 [⟨a, n, c, zs⟩, ⟨a1, u, c1, U⟩, ⟨a2, 4, c2, X⟩, ⟨b, m, d, rs⟩] 22 (by simp [P1', Pz', Pr', P2])
  have hj : joinR (fun i => (([⟨a, n, c, zs⟩, ⟨a1, u, c1, U⟩, ⟨a2, 4, c2, X⟩, ⟨b, m, d, rs⟩] : List Piece).getD i pnil).zs) 4 = zs ++ U ++ X ++ rs := by simp [joinR]
  have hjl : (zs ++ U ++ X ++ rs).length ≤ 70368744177664 := by
    rw [List.length_append, List.length_append, List.length_append, Pz'.2.1.1, P1'.2.1.1, P2.2.1.1, Pr'.2.1.1]; show n + u + 4 + m ≤ _; omega
  have HC : Hid (∀ c', Calls Try.prog 16 #[.slice (some ⟨w2.heap.size, 0, none⟩) 4 c'] (w2.alloc (.cells #[.slice a n c, .slice a1 u c1, .slice a2 4 c2, .slice b m d] 22)) fun e w' => ∃ v, e = .returned v ∧ Own w' (w2.heap.size + 1) v (zs ++ frameOf rs) ∧ Below (w2.heap.size + 1) (w2.alloc (.cells #[.slice a n c, .slice a1 u c1, .slice a2 4 c2, .slice b m d] 22)) w') := by
    intro c'
    have := concat_any _ 4 c' _ _ _ _ _ hr (by omega) (by rw [hj]; exact hjl)
    rw [hj, World.size_alloc] at this
    rw [HF'.out]
    exact this
  rw [← HT.out] at HC
  have hsz := hbel.size
  clear hr hj hjl HF' hX P1 Pz Pr P1' Pz' Pr' P2 hb1 hb2
  go_wp2_with fail
  refine (HC.out _).mono ?_
  rintro e w3 ⟨v3, rfl, ho3, hb3⟩
  have hbel3 : Below w.heap.size w w3 := (hbel.alloc hsz _).trans (hb3.mono (by omega))
  clear hb3
  go_wp2
  go_ret2
  exact ⟨_, rfl, ho3.mono (by omega), hbel3⟩

set_option maxRecDepth 100000 in
set_option maxHeartbeats 400000 in
theorem size_any (n : Nat) (hn : n ≤ 65536) (w : World) :
    Calls Try.prog 11 #[.int .i64 (n : Int)] w fun e w' => e = .returned (.int .i64 (((ubytes n).length + 4 + n : Nat) : Int)) ∧ w' = w := by
  have hu := (ubytes_le n).2
  obtain ⟨u, hul⟩ : ∃ u, u = (ubytes n).length := ⟨_, rfl⟩
  have HL : Hid (∀ w, Calls Try.prog 20 #[.int .u64 (n : Int)] w fun e w' => e = .returned (.int .i64 (u : Int)) ∧ w' = w) := fun w => by rw [hul]; exact len_any n (by omega) w
  rw [← hul] at hu ⊢
  clear hul
  go_enter Try.func11, Try.ntmps11
  go_wp2_with fail
  refine (HL.out _).mono ?_
  rintro e w1 ⟨rfl, rfl⟩
  go_wp2
  go_ret
  refine ⟨?_, rfl⟩
  go_num

set_option maxRecDepth 100000 in
set_option maxHeartbeats 400000 in
theorem size_no (n : Int) (hn : n < 0 ∨ 65536 < n) (w : World) :
    Calls Try.prog 11 #[.int .i64 n] w fun e w' => e = .returned (.int .i64 0) ∧ w' = w := by
  rcases hn with hn | hn
  · go_enter Try.func11, Try.ntmps11
    go_wp2
    go_ret
    exact ⟨rfl, rfl⟩
  · have h0 : ¬ n < 0 := by omega
    go_enter Try.func11, Try.ntmps11
    go_wp2
    go_ret
    exact ⟨rfl, rfl⟩
end Go.Proofs.Ytfcckekinlobjaa
