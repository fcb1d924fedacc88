/-
  The walk of the law CrcLinear, out of the contracts of what it calls.
-/
import Derived.Test.YtoleabndfajcbaaCrcLaw5
import Derived.Deep.RegionHeld3
import Derived.Deep.CutRange
import Derived.BigRegion
namespace Go.Proofs.Ytoleabndfajcbaa
open Go.RowKit
set_option linter.unusedVariables false

/-- So many zeros, in a block of their own. -/
theorem run_zeros (n : Nat) (hn : n ≤ 1000) (w : World) : (Instr.makeSlice 22 (.int .i64 (n : Int)) (.int .i64 (n : Int))).run Try.prog w = .ok (.slice (some ⟨w.heap.size, 0, none⟩) n n) (w.alloc (.cells (cb (List.replicate n 0)).toArray 5)) := by
  obtain ⟨i, hi1, hi2, hi3, hi4⟩ := info_parts info_byte
  have h := run_make (P := Try.prog) w 22 5 i (.int .u8 0) Try.underlying22 hi1 hi2 .i64 .i64 n n (by omega) (by omega) (by rw [hi4]; omega) (by omega)
  rw [h, hi3]
  have e : madeCells (Value.int .u8 0).cells n = (cb (List.replicate n 0)).toArray := by
    apply Array.toList_inj.1
    rw [show (Value.int .u8 0).cells = #[Value.int .u8 0] from rfl, toList_madeCells_one]
    simp [cb]
  simp [e]

/-- The first so many bytes are mixed, the others are 0 still. -/
def mix (p q : List Int) (n k : Nat) : List Int := zxor (p.take k) (q.take k) ++ List.replicate (n - k) 0
theorem zxor_length (p q : List Int) : (zxor p q).length = min p.length q.length := by simp [zxor]
theorem mix_length (p q : List Int) (n k : Nat) (hp : k ≤ p.length) (hq : k ≤ q.length) (hk : k ≤ n) : (mix p q n k).length = n := by
  rw [mix, List.length_append, zxor_length, List.length_take, List.length_take, List.length_replicate]; omega
theorem mix_zero (p q : List Int) (n : Nat) : mix p q n 0 = List.replicate n 0 := by simp [mix, zxor]
theorem mix_step (p q : List Int) (n k : Nat) (hp : k < p.length) (hq : k < q.length) (hk : k < n) (z : Int) (hz : z = (((p.getD k 0).toNat ^^^ (q.getD k 0).toNat : Nat) : Int)) : (mix p q n k).set k z = mix p q n (k + 1) := by
  have hl : (zxor (p.take k) (q.take k)).length = k := by rw [zxor_length, List.length_take, List.length_take]; omega
  have e : zxor (p.take (k + 1)) (q.take (k + 1)) = zxor (p.take k) (q.take k) ++ [z] := by
    rw [List.take_succ_eq_append_getElem hp, List.take_succ_eq_append_getElem hq, zxor, List.zipWith_append (by rw [List.length_take, List.length_take]; omega)]
    simp [hp, hq] at hz
    simp [zxor, hz]
  rw [mix, mix, e, List.set_append_right _ _ (by omega), hl, Nat.sub_self, List.append_assoc]
  congr 1
  obtain ⟨r, hr⟩ : ∃ r, n - k = r + 1 := ⟨n - k - 1, by omega⟩
  rw [hr, List.replicate_succ, List.set_cons_zero, show n - (k + 1) = r by omega]
  rfl

/-- What is so ahead of each round. -/
def Lin (w wr : World) (gx gy gz n : Nat) (xs ys zs : List Int) (k : Nat) : Prop :=
  Own wr w.heap.size (.slice (some ⟨gx, 0, none⟩) n n) (mix xs ys n k) ∧ Own wr w.heap.size (.slice (some ⟨gy, 0, none⟩) n n) (mix zs ys n k) ∧ Own wr w.heap.size (.slice (some ⟨gz, 0, none⟩) n n) (mix xs zs n k) ∧ Below w.heap.size w wr

/-- How two sums differ hangs on how the bytes differ alone. -/
theorem linear_eq (xs ys zs : List Int) (n : Nat) (hx : xs.length = n) (hy : n ≤ ys.length) (hz : n ≤ zs.length) :
    crcOf xs ^^^ crcOf (zs.take n) = crcOf (mix xs ys n n) ^^^ crcOf (mix zs ys n n) ∧ crcOf (mix xs zs n n) ^^^ crcOf (List.replicate n 0) = crcOf (mix xs ys n n) ^^^ crcOf (mix zs ys n n) := by
  have m1 := mix_length xs ys n n (by omega) hy (by omega)
  have m2 := mix_length zs ys n n hz hy (by omega)
  have m3 := mix_length xs zs n n (by omega) hz (by omega)
  have lz : (zs.take n).length = n := by rw [List.length_take]; omega
  have ly : (ys.take n).length = n := by rw [List.length_take]; omega
  have lx : (xs.take n).length = n := by rw [List.length_take]; omega
  have e : ∀ p q : List Int, (p.take n).length = (q.take n).length → bval (mix p q n n) = bval (p.take n) ^^^ bval (q.take n) := fun p q h => by
    rw [mix, Nat.sub_self, List.replicate_zero, List.append_nil, bval_zxor _ _ h]
  rw [crc_diff xs (zs.take n) (by omega), crc_diff (mix xs ys n n) (mix zs ys n n) (by omega), crc_diff (mix xs zs n n) (List.replicate n 0) (by rw [List.length_replicate]; omega),
    e xs ys (by omega), e zs ys (by omega), e xs zs (by omega), bval_zeros, List.take_of_length_le (l := xs) (by omega), m1, m3, hx]
  constructor
  · congr 1
    rw [Nat.xor_assoc, Nat.xor_comm (bval (zs.take n)) (bval (ys.take n)), xor_twice]
  · congr 1
    rw [Nat.xor_zero, Nat.xor_assoc, Nat.xor_comm (bval (zs.take n)) (bval (ys.take n)), xor_twice]

/-- A byte of what came in, in whatever world behind. -/
theorem Bs.byte {w w' : World} {b off n : Nat} {zs : List Int} (h : Bs w (some ⟨b, off, none⟩) n zs) (hb : Below w.heap.size w w') {k : Nat} (hk : k < n) {Z : Nat} (hZ : (Z : Int) = zs.getD k 0) : w'.cell? ⟨b, off + k, none⟩ = some (.int .u8 (Z : Int)) := by
  obtain ⟨_, _, h0 | ⟨b', off', e, _, hc⟩⟩ := h.below hb (Nat.le_refl _)
  · omega
  · cases e
    rw [hZ]; exact hc k hk

theorem lin_step {w wr : World} {gx gy gz n mb mc ba oa bb ob bc oc : Nat} {xs ys zs : List Int} {k : Nat} (hL : Lin w wr gx gy gz n xs ys zs k) (nxy : gx ≠ gy) (nxz : gx ≠ gz) (nyz : gy ≠ gz) (lx : w.heap.size ≤ gx) (ly : w.heap.size ≤ gy) (lz : w.heap.size ≤ gz)
    (ha : Bs w (some ⟨ba, oa, none⟩) n xs) (hb : Bs w (some ⟨bb, ob, none⟩) mb ys) (hc : Bs w (some ⟨bc, oc, none⟩) mc zs) (hmb : n ≤ mb) (hmc : n ≤ mc) (hk : k < n) :
    ∃ (A B C : Nat) (V1 V2 V3 : Int), A < 256 ∧ B < 256 ∧ C < 256 ∧ wr.cell? ⟨ba, oa + k, none⟩ = some (.int .u8 (A : Int)) ∧ wr.cell? ⟨bb, ob + k, none⟩ = some (.int .u8 (B : Int)) ∧ wr.frozen? ⟨gx, k, none⟩ = false ∧ wr.cell? ⟨gx, k, none⟩ = some (.int .u8 V1) ∧
      ∀ v1 v2 v3 : Int, v1 = ((A ^^^ B : Nat) : Int) → v2 = ((C ^^^ B : Nat) : Int) → v3 = ((A ^^^ C : Nat) : Int) →
        (wr.setCell ⟨gx, k, none⟩ (.int .u8 v1)).cell? ⟨bc, oc + k, none⟩ = some (.int .u8 (C : Int)) ∧ (wr.setCell ⟨gx, k, none⟩ (.int .u8 v1)).cell? ⟨bb, ob + k, none⟩ = some (.int .u8 (B : Int)) ∧
        (wr.setCell ⟨gx, k, none⟩ (.int .u8 v1)).frozen? ⟨gy, k, none⟩ = false ∧ (wr.setCell ⟨gx, k, none⟩ (.int .u8 v1)).cell? ⟨gy, k, none⟩ = some (.int .u8 V2) ∧
        ((wr.setCell ⟨gx, k, none⟩ (.int .u8 v1)).setCell ⟨gy, k, none⟩ (.int .u8 v2)).cell? ⟨ba, oa + k, none⟩ = some (.int .u8 (A : Int)) ∧
        ((wr.setCell ⟨gx, k, none⟩ (.int .u8 v1)).setCell ⟨gy, k, none⟩ (.int .u8 v2)).cell? ⟨bc, oc + k, none⟩ = some (.int .u8 (C : Int)) ∧
        ((wr.setCell ⟨gx, k, none⟩ (.int .u8 v1)).setCell ⟨gy, k, none⟩ (.int .u8 v2)).frozen? ⟨gz, k, none⟩ = false ∧ ((wr.setCell ⟨gx, k, none⟩ (.int .u8 v1)).setCell ⟨gy, k, none⟩ (.int .u8 v2)).cell? ⟨gz, k, none⟩ = some (.int .u8 V3) ∧
        Lin w (((wr.setCell ⟨gx, k, none⟩ (.int .u8 v1)).setCell ⟨gy, k, none⟩ (.int .u8 v2)).setCell ⟨gz, k, none⟩ (.int .u8 v3)) gx gy gz n xs ys zs (k + 1) := by
  obtain ⟨h1, h2, h3, h4⟩ := hL
  obtain ⟨p1, p2⟩ := getD_wf ha.2.1 k
  obtain ⟨p3, p4⟩ := getD_wf hb.2.1 k
  obtain ⟨p5, p6⟩ := getD_wf hc.2.1 k
  obtain ⟨A, hA⟩ : ∃ A : Nat, (A : Int) = xs.getD k 0 := ⟨(xs.getD k 0).toNat, by omega⟩
  obtain ⟨B, hB⟩ : ∃ B : Nat, (B : Int) = ys.getD k 0 := ⟨(ys.getD k 0).toNat, by omega⟩
  obtain ⟨C, hC⟩ : ∃ C : Nat, (C : Int) = zs.getD k 0 := ⟨(zs.getD k 0).toNat, by omega⟩
  have la := ha.1
  have lb := hb.1
  have lc := hc.1
  have m1 := mix_length xs ys n k (by omega) (by omega) (by omega)
  have m2 := mix_length zs ys n k (by omega) (by omega) (by omega)
  have m3 := mix_length xs zs n k (by omega) (by omega) (by omega)
  have fx : ∀ X Y : Nat, X < 256 → Y < 256 → X ^^^ Y < 256 := fun X Y hX hY => Nat.xor_lt_two_pow (n := 8) hX hY
  have hA8 : A < 256 := by omega
  have hB8 : B < 256 := by omega
  have hC8 : C < 256 := by omega
  obtain ⟨x1, x2, x3⟩ := h1.at m1.symm k hk
  refine ⟨A, B, C, _, (mix zs ys n k).getD k 0, (mix xs zs n k).getD k 0, hA8, hB8, hC8, ha.byte h4 hk hA, hb.byte h4 (by omega) hB, x2, x1, ?_⟩
  intro v1 v2 v3 e1 e2 e3
  have r1 : 0 ≤ v1 ∧ v1 ≤ 255 := by have := fx A B hA8 hB8; omega
  have r2 : 0 ≤ v2 ∧ v2 ≤ 255 := by have := fx C B hC8 hB8; omega
  have r3 : 0 ≤ v3 ∧ v3 ≤ 255 := by have := fx A C hA8 hC8; omega
  have o1 := x3 v1 r1
  have h2' := h2.setCell_other (a := ⟨gx, k, none⟩) (by simpa [Value.ownBlock] using nxy.symm) (.int .u8 v1)
  have h3' := h3.setCell_other (a := ⟨gx, k, none⟩) (by simpa [Value.ownBlock] using nxz.symm) (.int .u8 v1)
  have b1 := h4.setCell (p := ⟨gx, k, none⟩) lx (.int .u8 v1)
  obtain ⟨y1, y2, y3⟩ := h2'.at m2.symm k hk
  have o2 := y3 v2 r2
  have o1' := o1.setCell_other (a := ⟨gy, k, none⟩) (by simpa [Value.ownBlock] using nxy) (.int .u8 v2)
  have h3'' := h3'.setCell_other (a := ⟨gy, k, none⟩) (by simpa [Value.ownBlock] using nyz.symm) (.int .u8 v2)
  have b2 := b1.setCell (p := ⟨gy, k, none⟩) ly (.int .u8 v2)
  obtain ⟨z1, z2, z3⟩ := h3''.at m3.symm k hk
  have o3 := z3 v3 r3
  have o1'' := o1'.setCell_other (a := ⟨gz, k, none⟩) (by simpa [Value.ownBlock] using nxz) (.int .u8 v3)
  have o2' := o2.setCell_other (a := ⟨gz, k, none⟩) (by simpa [Value.ownBlock] using nyz) (.int .u8 v3)
  have b3 := b2.setCell (p := ⟨gz, k, none⟩) lz (.int .u8 v3)
  rw [mix_step xs ys n k (by omega) (by omega) hk v1 (by rw [e1, ← hA, ← hB]; simp)] at o1''
  rw [mix_step zs ys n k (by omega) (by omega) hk v2 (by rw [e2, ← hC, ← hB]; simp)] at o2'
  rw [mix_step xs zs n k (by omega) (by omega) hk v3 (by rw [e3, ← hA, ← hC]; simp)] at o3
  exact ⟨hc.byte b1 (by omega) hC, hb.byte b1 (by omega) hB, y2, y1, ha.byte b2 hk hA, hc.byte b2 (by omega) hC, z2, z1, o1'', o2', o3, b3⟩

theorem lin_drew {w wr : World} {gx gy gz n : Nat} {xs ys zs : List Int} {k : Nat} (h : Lin w wr gx gy gz n xs ys zs k) : Lin w wr.drew gx gy gz n xs ys zs k := ⟨h.1, h.2.1, h.2.2.1, h.2.2.2.drew⟩

/-- Three slices of zeros, whichever was made first. -/
def Made (w wc : World) (n : Nat) (x y z : Value) : Prop :=
  ∃ gx gy gz, x = .slice (some ⟨gx, 0, none⟩) n n ∧ y = .slice (some ⟨gy, 0, none⟩) n n ∧ z = .slice (some ⟨gz, 0, none⟩) n n ∧ gx ≠ gy ∧ gx ≠ gz ∧ gy ≠ gz ∧ w.heap.size ≤ gx ∧ w.heap.size ≤ gy ∧ w.heap.size ≤ gz ∧
    Own wc w.heap.size x (List.replicate n 0) ∧ Own wc w.heap.size y (List.replicate n 0) ∧ Own wc w.heap.size z (List.replicate n 0) ∧ Below w.heap.size w wc

set_option maxRecDepth 100000 in
set_option maxHeartbeats 4000000 in
theorem crcLinear_walk (a b c : Option Addr) (n mb mc ca cb cc : Nat) (xs ys zs : List Int) (w : World) (ha : Bs w a n xs) (hb : Bs w b mb ys) (hc : Bs w c mc zs) (hna : a = none → n = 0 ∧ ca = 0) (hnc : c = none → mc = 0 ∧ cc = 0) (hca : n ≤ ca) (hcc : mc ≤ cc) (h1 : n ≤ maxLen) (h2 : mb ≤ maxLen) (h3 : mc ≤ maxLen) :
    Calls Try.prog 6 #[.slice a n ca, .slice b mb cb, .slice c mc cc] w fun e w' => e = .returned (.bool true) ∧ Below w.heap.size w w' := by
  unfold maxLen at h1 h2 h3
  by_cases q1 : mb < n
  · have t1 : decide ((mb : Int) < (n : Int)) = true := by simp; omega
    go_enter Try.func6, Try.ntmps6
    go_wp2_with fail
    refine (crcAlive_any _).mono ?_
    rintro e w1 ⟨rfl, hb1⟩
    go_wp2
    go_ret
    exact ⟨rfl, hb1⟩
  have t1 : decide ((mb : Int) < (n : Int)) = false := by simp; omega
  by_cases q2 : mc < n
  · have t2 : decide ((mc : Int) < (n : Int)) = true := by simp; omega
    go_enter Try.func6, Try.ntmps6
    go_wp2_with fail
    refine (crcAlive_any _).mono ?_
    rintro e w1 ⟨rfl, hb1⟩
    go_wp2
    go_ret
    exact ⟨rfl, hb1⟩
  have t2 : decide ((mc : Int) < (n : Int)) = false := by simp; omega
  by_cases q3 : 500 < n
  · have t3 : decide ((500 : Int) < (n : Int)) = true := by simp; omega
    go_enter Try.func6, Try.ntmps6
    go_wp2_with fail
    refine (crcAlive_any _).mono ?_
    rintro e w1 ⟨rfl, hb1⟩
    go_wp2
    go_ret
    exact ⟨rfl, hb1⟩
  have t3 : decide ((500 : Int) < (n : Int)) = false := by simp; omega
  have hmk := run_zeros n (by omega)
  obtain ⟨MC, hMC⟩ : ∃ MC, MC = (Go.Proofs.Ytoleabndfajcbaa.cb (List.replicate n 0)).toArray := ⟨_, rfl⟩
  rw [← hMC] at hmk
  have HMC : Hid (MC = (Go.Proofs.Ytoleabndfajcbaa.cb (List.replicate n 0)).toArray) := hMC
  clear hMC
  go_enter Try.func6, Try.ntmps6
  go_wp2_with fail
  refine (crcAlive_any _).mono ?_
  rintro e w1 ⟨rfl, hb1⟩
  have hz : ∀ z ∈ List.replicate n (0 : Int), 0 ≤ z ∧ z ≤ 255 := fun z hz => by rw [List.eq_of_mem_replicate hz]; omega
  have hzl : (List.replicate n (0 : Int)).length = n := List.length_replicate
  have hO : ∀ w' : World, w.heap.size ≤ w'.heap.size → Own (w'.alloc (.cells MC 5)) w.heap.size (.slice (some ⟨w'.heap.size, 0, none⟩) n n) (List.replicate n 0) := fun w' h => by
    have := own_new w' w.heap.size h (List.replicate n 0) hz (by rw [hzl]; unfold maxLen; omega)
    rw [hzl] at this
    rw [HMC.out]; exact this
  have W2 : w.heap.size ≤ (w1.alloc (.cells MC 5)).heap.size := by have := hb1.size; simp; omega
  have W3 : w.heap.size ≤ ((w1.alloc (.cells MC 5)).alloc (.cells MC 5)).heap.size := by have := hb1.size; simp; omega
  have O0 : Hid (Own (((w1.alloc (.cells MC 5)).alloc (.cells MC 5)).alloc (.cells MC 5)).drew w.heap.size (.slice (some ⟨w1.heap.size, 0, none⟩) n n) (List.replicate n 0)) := (((hO w1 hb1.size).alloc _).alloc _).drewN 1
  have O1 : Hid (Own (((w1.alloc (.cells MC 5)).alloc (.cells MC 5)).alloc (.cells MC 5)).drew w.heap.size (.slice (some ⟨w1.heap.size + 1, 0, none⟩) n n) (List.replicate n 0)) := by
    have := ((hO _ W2).alloc (.cells MC 5)).drewN 1
    simp at this
    exact this
  have O2 : Hid (Own (((w1.alloc (.cells MC 5)).alloc (.cells MC 5)).alloc (.cells MC 5)).drew w.heap.size (.slice (some ⟨w1.heap.size + 1 + 1, 0, none⟩) n n) (List.replicate n 0)) := by
    have := (hO _ W3).drewN 1
    simp at this
    exact this
  have OB : Hid (Below w.heap.size w (((w1.alloc (.cells MC 5)).alloc (.cells MC 5)).alloc (.cells MC 5)).drew) := (((hb1.alloc hb1.size _).alloc W2 _).alloc W3 _).drew
  have hs := hb1.size
  clear hO W2 W3 hb1
  go_upto_region 6 with fail
  go_cut [8, 9, 10] from 30 to 35 (fun x y z wc => Made w wc n x y z)
  case first =>
    go_region
    all_goals go_wp2_with fail
    all_goals go_meet
    all_goals first
      | exact ⟨_, _, _, rfl, rfl, rfl, by omega, by omega, by omega, by omega, by omega, by omega, O0.out, O1.out, O2.out, OB.out⟩
      | exact ⟨_, _, _, rfl, rfl, rfl, by omega, by omega, by omega, by omega, by omega, by omega, O0.out, O2.out, O1.out, OB.out⟩
      | exact ⟨_, _, _, rfl, rfl, rfl, by omega, by omega, by omega, by omega, by omega, by omega, O1.out, O0.out, O2.out, OB.out⟩
      | exact ⟨_, _, _, rfl, rfl, rfl, by omega, by omega, by omega, by omega, by omega, by omega, O1.out, O2.out, O0.out, OB.out⟩
      | exact ⟨_, _, _, rfl, rfl, rfl, by omega, by omega, by omega, by omega, by omega, by omega, O2.out, O0.out, O1.out, OB.out⟩
      | exact ⟨_, _, _, rfl, rfl, rfl, by omega, by omega, by omega, by omega, by omega, by omega, O2.out, O1.out, O0.out, OB.out⟩
  case rest =>
    obtain ⟨gx, gy, gz, rfl, rfl, rfl, nxy, nxz, nyz, lx, ly, lz, ox, oy, oz, hbc⟩ := hcut
    clear O0 O1 O2 OB hs
    go_wp2
    go_loopw [11] (fun i wr => ∃ k : Nat, i = .int .i64 (k : Int) ∧ k ≤ n ∧ Lin w wr gx gy gz n xs ys zs k) (fun i _ => n - (intOf i).toNat)
    case atStart => exact ⟨0, rfl, by omega, by rw [mix_zero]; exact ox, by rw [mix_zero]; exact oy, by rw [mix_zero]; exact oz, hbc⟩
    case round =>
      obtain ⟨k, rfl, hk, hL⟩ := hrel
      clear ox oy oz hbc
      by_cases hlt : k < n
      · rcases ha.2.2 with z0 | ⟨ba, oa, rfl, hba, _⟩
        · omega
        rcases hb.2.2 with z0 | ⟨bb, ob, rfl, hbb, _⟩
        · omega
        rcases hc.2.2 with z0 | ⟨bc, oc, rfl, hbc, _⟩
        · omega
        obtain ⟨A, B, C, V1, V2, V3, hA, hB, hC, c1, c2, c3, c5, c4⟩ := lin_step hL nxy nxz nyz lx ly lz ha hb hc (by omega) (by omega) hlt
        obtain ⟨d1, d2, d3, d8, d4, d5, d6, d9, d7⟩ := c4 (bits .xor .u8 (A : Int) (B : Int)) (bits .xor .u8 (C : Int) (B : Int)) (bits .xor .u8 (A : Int) (C : Int)) (u8_xor_nat A B hA hB) (u8_xor_nat C B hC hB) (u8_xor_nat A C hA hC)
        have D7 : Hid (Lin w (((wr.setCell ⟨gx, k, none⟩ (.int .u8 (bits .xor .u8 (A : Int) (B : Int)))).setCell ⟨gy, k, none⟩ (.int .u8 (bits .xor .u8 (C : Int) (B : Int)))).setCell ⟨gz, k, none⟩ (.int .u8 (bits .xor .u8 (A : Int) (C : Int)))) gx gy gz n xs ys zs (k + 1)) := d7
        have k1 : (k : Int) < (n : Int) := by omega
        have k2 : (k : Int) < (mb : Int) := by omega
        have k3 : (k : Int) < (mc : Int) := by omega
        clear c4 d7 hL ha hb hc
        go_wp2
        go_region
        go_wp2
        go_region
        go_wp2
        go_region
        go_wp2
        refine ⟨⟨k + 1, by go_num, by omega, lin_drew (lin_drew (lin_drew D7.out))⟩, ?_⟩
        simp [intOf]; omega
      · obtain rfl : k = n := by omega
        obtain ⟨o1, o2, o3, hbr⟩ := hL
        have la := ha.1
        have lb := hb.1
        have lc := hc.1
        have m1 := mix_length xs ys k k (by omega) (by omega) (by omega)
        have m2 := mix_length zs ys k k (by omega) (by omega) (by omega)
        have m3 := mix_length xs zs k k (by omega) (by omega) (by omega)
        obtain ⟨i1, i2⟩ := linear_eq xs ys zs k la (by omega) (by omega)
        obtain ⟨Ca, hCa⟩ : ∃ C, C = crcOf xs := ⟨_, rfl⟩
        obtain ⟨Cc, hCc⟩ : ∃ C, C = crcOf (zs.take k) := ⟨_, rfl⟩
        obtain ⟨Cx, hCx⟩ : ∃ C, C = crcOf (mix xs ys k k) := ⟨_, rfl⟩
        obtain ⟨Cy, hCy⟩ : ∃ C, C = crcOf (mix zs ys k k) := ⟨_, rfl⟩
        obtain ⟨Cz, hCz⟩ : ∃ C, C = crcOf (mix xs zs k k) := ⟨_, rfl⟩
        obtain ⟨C0, hC0⟩ : ∃ C, C = crcOf (List.replicate k 0) := ⟨_, rfl⟩
        have ra : Ca < 4294967296 := by rw [hCa]; exact crcOf_lt ha.2.1
        have rc : Cc < 4294967296 := by rw [hCc]; exact crcOf_lt fun z hz => hc.2.1 z (List.mem_of_mem_take hz)
        have rx : Cx < 4294967296 := by rw [hCx]; exact crcOf_lt o1.2
        have ry : Cy < 4294967296 := by rw [hCy]; exact crcOf_lt o2.2
        have rz : Cz < 4294967296 := by rw [hCz]; exact crcOf_lt o3.2
        have r0 : C0 < 4294967296 := by rw [hC0]; exact crcOf_lt hz
        have hq1 : (bits .xor .u32 (Ca : Int) (Cc : Int) == bits .xor .u32 (Cx : Int) (Cy : Int)) = true := by
          rw [u32_xor_nat _ _ ra rc, u32_xor_nat _ _ rx ry, hCa, hCc, hCx, hCy, i1]; simp
        have hq2 : (bits .xor .u32 (Cz : Int) (C0 : Int) == bits .xor .u32 (Cx : Int) (Cy : Int)) = true := by
          rw [u32_xor_nat _ _ rz r0, u32_xor_nat _ _ rx ry, hCz, hC0, hCx, hCy, i2]; simp
        have BA : Hid (∀ w', Below wr.heap.size wr w' → ∀ c, Calls Try.prog 14 #[.slice a k c] w' fun e w'' => e = .returned (.int .u32 (Ca : Int)) ∧ w'' = w') := fun w' h c => by
          rw [hCa]; exact of_any a k c xs w' ((ha.below hbr (Nat.le_refl _)).below h (Nat.le_refl _)) (by omega)
        have BC : Hid (∀ w', Below wr.heap.size wr w' → ∀ c', Calls Try.prog 14 #[.slice c k c'] w' fun e w'' => e = .returned (.int .u32 (Cc : Int)) ∧ w'' = w') := fun w' h c' => by
          rw [hCc]; exact of_any c k c' (zs.take k) w' (((hc.take (q := k) (by omega)).below hbr (Nat.le_refl _)).below h (Nat.le_refl _)) (by omega)
        have BX : Hid (∀ w', Below wr.heap.size wr w' → Calls Try.prog 14 #[.slice (some ⟨gx, 0, none⟩) k k] w' fun e w'' => e = .returned (.int .u32 (Cx : Int)) ∧ w'' = w') := fun w' h => by
          rw [hCx]; exact of_any _ k k _ w' ((o1.bs m1.symm).below h (Nat.le_refl _)) (by omega)
        have BY : Hid (∀ w', Below wr.heap.size wr w' → Calls Try.prog 14 #[.slice (some ⟨gy, 0, none⟩) k k] w' fun e w'' => e = .returned (.int .u32 (Cy : Int)) ∧ w'' = w') := fun w' h => by
          rw [hCy]; exact of_any _ k k _ w' ((o2.bs m2.symm).below h (Nat.le_refl _)) (by omega)
        have BZ : Hid (∀ w', Below wr.heap.size wr w' → Calls Try.prog 14 #[.slice (some ⟨gz, 0, none⟩) k k] w' fun e w'' => e = .returned (.int .u32 (Cz : Int)) ∧ w'' = w') := fun w' h => by
          rw [hCz]; exact of_any _ k k _ w' ((o3.bs m3.symm).below h (Nat.le_refl _)) (by omega)
        have B0 : Hid (∀ w' : World, Calls Try.prog 14 #[.slice (some ⟨w'.heap.size, 0, none⟩) k k] (w'.alloc (.cells MC 5)) fun e w'' => e = .returned (.int .u32 (C0 : Int)) ∧ w'' = w'.alloc (.cells MC 5)) := fun w' => by
          rw [hC0]
          have hbs := bs_new w' (0, 0) (List.replicate k 0) hz w'.heap.size rfl
          rw [hzl, ← HMC.out] at hbs
          exact of_any _ k k _ _ hbs (by omega)
        have HB : Hid (Below w.heap.size w wr) := hbr
        have k1 : (k : Int) ≤ (ca : Int) := by omega
        have k2 : (k : Int) ≤ (cc : Int) := by omega
        have hS0 : Below wr.heap.size wr wr.drew := (Below.refl _ _).drew
        clear hCa hCc hCx hCy hCz hC0 o1 o2 o3 hbr i1 i2 m1 m2 m3 ra rc rx ry rz r0 la lb lc ha hb hc
        go_wp2_with fail
        go_region_held3 (fun w' => Below wr.heap.size wr w') (first | exact hS0 | exact (hS0.alloc (Nat.le_refl _) _) | (refine Below.alloc ?_ ?_ _ <;> first | exact hS0 | assumption | simp))
          (first
            | (go_at_call_of 14 (Value.slice a k ca); refine (BA.out _ (by assumption) _).mono ?_; rintro e w8 ⟨rfl, rfl⟩; dsimp only)
            | (go_at_call_of 14 (Value.slice c k cc); refine (BC.out _ (by assumption) _).mono ?_; rintro e w8 ⟨rfl, rfl⟩; dsimp only)
            | (go_at_call_of 14 (Value.slice (some ⟨gx, 0, none⟩) k k); refine (BX.out _ (by assumption)).mono ?_; rintro e w8 ⟨rfl, rfl⟩; dsimp only)
            | (go_at_call_of 14 (Value.slice (some ⟨gy, 0, none⟩) k k); refine (BY.out _ (by assumption)).mono ?_; rintro e w8 ⟨rfl, rfl⟩; dsimp only)
            | (go_at_call_of 14 (Value.slice (some ⟨gz, 0, none⟩) k k); refine (BZ.out _ (by assumption)).mono ?_; rintro e w8 ⟨rfl, rfl⟩; dsimp only)
            | (go_at_call 14; refine (B0.out wr.drew).mono ?_; rintro e w8 ⟨rfl, rfl⟩; dsimp only))
        all_goals go_wp2
        all_goals go_ret
        all_goals exact ⟨rfl, (HB.out.alloc HB.out.size _).drew⟩
end Go.Proofs.Ytoleabndfajcbaa
