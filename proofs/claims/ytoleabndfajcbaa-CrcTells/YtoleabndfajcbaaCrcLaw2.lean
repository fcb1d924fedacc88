/-
  The walk of the law CrcTells, out of the contracts of what it calls.
-/
import Derived.Test.YtoleabndfajcbaaCrcLaw5
namespace Go.Proofs.Ytoleabndfajcbaa
open Go.RowKit
set_option linter.unusedVariables false

theorem mod_next (t k : Nat) : t % 2 ^ (k + 1) = t % 2 ^ k ^^^ (if t / 2 ^ k % 2 = 1 then 2 ^ k else 0) := by
  apply Nat.eq_of_testBit_eq
  intro i
  rw [Nat.testBit_xor, Nat.testBit_mod_two_pow, Nat.testBit_mod_two_pow]
  have hb := Nat.testBit_eq_decide_div_mod_eq (x := t) (i := k)
  split
  · rename_i h
    rw [decide_eq_true h] at hb
    rw [Nat.testBit_two_pow]
    by_cases hik : k = i
    · subst hik; simp [hb]
    · by_cases h1 : i < k
      · simp [h1, hik]; omega
      · have h2 : ¬ i < k + 1 := by omega
        simp [h1, h2, hik]
  · rename_i h
    rw [decide_eq_false h] at hb
    by_cases hik : k = i
    · subst hik; simp [hb]
    · by_cases h1 : i < k
      · have h2 : i < k + 1 := by omega
        simp [h1, h2]
      · have h2 : ¬ i < k + 1 := by omega
        simp [h1, h2]

theorem turn_yes (B F t k : Nat) (h : t / 2 ^ k % 2 = 1) : B ^^^ 2 ^ F * (t % 2 ^ k) ^^^ 2 ^ (F + k) = B ^^^ 2 ^ F * (t % 2 ^ (k + 1)) := by
  rw [mod_next, if_pos h, mul_xor, Nat.pow_add, Nat.xor_assoc]
theorem turn_no (F t k : Nat) (h : ¬ t / 2 ^ k % 2 = 1) : t % 2 ^ k = t % 2 ^ (k + 1) := by
  rw [mod_next, if_neg h, Nat.xor_zero]

theorem bit_cast (t k : Nat) : ((t : Int) / 2 ^ k).tmod 2 = ((t / 2 ^ k % 2 : Nat) : Int) := by
  have e : (t : Int) / 2 ^ k = ((t / 2 ^ k : Nat) : Int) := by simp
  rw [e]
  exact (Int.ofNat_tmod _ _).symm

/-- What is so ahead of each round: both slices hold the bytes with so many bits turned. -/
def Turned (w wr : World) (gs gx m cs cx : Nat) (zs X : List Int) (F t k : Nat) : Prop :=
  X.length = m ∧ Own wr w.heap.size (.slice (some ⟨gx, 0, none⟩) m cx) X ∧ Own wr w.heap.size (.slice (some ⟨gs, 0, none⟩) (4 + m) cs) (wbytes (crcOf zs) ++ X) ∧ bval X = bval zs ^^^ 2 ^ F * (t % 2 ^ k) ∧ Below w.heap.size w wr

theorem turned_step {w wr : World} {gs gx m cs cx : Nat} {zs X : List Int} {F t k : Nat} (h : Turned w wr gs gx m cs cx zs X F t k) (hne : gs ≠ gx) (hs : w.heap.size ≤ gs) (hx : w.heap.size ≤ gx) (hF : F + k < 8 * m) (hbit : t / 2 ^ k % 2 = 1) :
    ∃ Z : Nat, Z < 256 ∧ wr.cell? ⟨gx, (F + k) / 8, none⟩ = some (.int .u8 (Z : Int)) ∧ wr.frozen? ⟨gx, (F + k) / 8, none⟩ = false ∧
      ∀ z : Int, z = ((Z ^^^ 2 ^ ((F + k) % 8) : Nat) : Int) →
        (wr.setCell ⟨gx, (F + k) / 8, none⟩ (.int .u8 z)).cell? ⟨gs, 4 + (F + k) / 8, none⟩ = some (.int .u8 (Z : Int)) ∧
        (wr.setCell ⟨gx, (F + k) / 8, none⟩ (.int .u8 z)).frozen? ⟨gs, 4 + (F + k) / 8, none⟩ = false ∧
        Turned w ((wr.setCell ⟨gx, (F + k) / 8, none⟩ (.int .u8 z)).setCell ⟨gs, 4 + (F + k) / 8, none⟩ (.int .u8 z)) gs gx m cs cx zs (X.set ((F + k) / 8) z) F t (k + 1) := by
  obtain ⟨h1, h2, h3, h4, h5⟩ := h
  have hj : (F + k) / 8 < m := by omega
  obtain ⟨x1, x2, x3⟩ := h2.at h1.symm ((F + k) / 8) hj
  obtain ⟨z0, z1⟩ := getD_wf h2.2 ((F + k) / 8)
  obtain ⟨Z, hZ⟩ : ∃ Z : Nat, (Z : Int) = X.getD ((F + k) / 8) 0 := ⟨(X.getD ((F + k) / 8) 0).toNat, by omega⟩
  refine ⟨Z, by omega, by rw [hZ]; exact x1, x2, ?_⟩
  intro z hz
  have hzl : z < 256 ∧ 0 ≤ z := by
    have := xor_pow_lt Z ((F + k) % 8) (by omega) (by omega)
    omega
  have hwb : (wbytes (crcOf zs)).length = 4 := rfl
  have hL : 4 + m = (wbytes (crcOf zs) ++ X).length := by rw [List.length_append, h1, hwb]
  have hs1 : Own (wr.setCell ⟨gx, (F + k) / 8, none⟩ (.int .u8 z)) w.heap.size (.slice (some ⟨gs, 0, none⟩) (4 + m) cs) (wbytes (crcOf zs) ++ X) :=
    h3.setCell_other (a := ⟨gx, (F + k) / 8, none⟩) (by simpa [Value.ownBlock] using hne) _
  have hx1 := x3 z (by omega)
  obtain ⟨y1, y2, y3⟩ := hs1.at hL (4 + (F + k) / 8) (by omega)
  have e1 : (wbytes (crcOf zs) ++ X).getD (4 + (F + k) / 8) 0 = (Z : Int) := by
    rw [hZ, List.getD_eq_getElem?_getD, List.getElem?_append_right (by omega), hwb, Nat.add_sub_cancel_left, List.getD_eq_getElem?_getD]
  have e2 : (wbytes (crcOf zs) ++ X).set (4 + (F + k) / 8) z = wbytes (crcOf zs) ++ X.set ((F + k) / 8) z := by
    rw [List.set_append_right _ _ (by omega), hwb, Nat.add_sub_cancel_left]
  have hs2 := y3 z (by omega)
  rw [e2] at hs2
  refine ⟨by rw [y1, e1], y2, by rw [List.length_set]; exact h1, hx1.setCell_other (a := ⟨gs, 4 + (F + k) / 8, none⟩) (by simpa [Value.ownBlock] using hne.symm) _, hs2, ?_, (h5.setCell (p := ⟨gx, (F + k) / 8, none⟩) hx _).setCell (p := ⟨gs, 4 + (F + k) / 8, none⟩) hs _⟩
  rw [bval_set X ((F + k) / 8) ((F + k) % 8) (by omega) z (by rw [← hZ, hz]; simp), h4, show 8 * ((F + k) / 8) + (F + k) % 8 = F + k by omega, turn_yes _ _ _ _ hbit]

set_option maxRecDepth 100000 in
set_option maxHeartbeats 4000000 in
theorem crcTells_walk (a : Option Addr) (m ca : Nat) (zs : List Int) (at_ t : Nat) (w : World) (hnil : a = none → m = 0 ∧ ca = 0) (hb : Bs w a m zs) (hm : m ≤ maxLen) (hat : at_ < 65536) (ht : t < 4294967296) :
    Calls Try.prog 4 #[.slice a m ca, .int .u16 (at_ : Int), .int .u32 (t : Int)] w fun e w' => e = .returned (.bool true) ∧ Below w.heap.size w w' := by
  unfold maxLen at hm
  by_cases h1 : m < 5
  · have t1 : decide ((m : Int) < 5) = true := by simp; omega
    go_enter Try.func4, Try.ntmps4
    go_wp2_with fail
    refine (crcAlive_any _).mono ?_
    rintro e w1 ⟨rfl, hb1⟩
    go_wp2
    go_ret
    exact ⟨rfl, hb1⟩
  have t1 : decide ((m : Int) < 5) = false := by simp; omega
  by_cases h2 : 2000 < m
  · have t2 : decide ((2000 : Int) < (m : Int)) = true := by simp; omega
    go_enter Try.func4, Try.ntmps4
    go_wp2_with fail
    refine (crcAlive_any _).mono ?_
    rintro e w1 ⟨rfl, hb1⟩
    go_wp2
    go_ret
    exact ⟨rfl, hb1⟩
  have t2 : decide ((2000 : Int) < (m : Int)) = false := by simp; omega
  by_cases h3 : t = 0
  · subst h3
    go_enter Try.func4, Try.ntmps4
    go_wp2_with fail
    refine (crcAlive_any _).mono ?_
    rintro e w1 ⟨rfl, hb1⟩
    go_wp2
    go_ret
    exact ⟨rfl, hb1⟩
  have t3 : ((t : Int) == 0) = false := by simp; omega
  obtain ⟨F, hF⟩ : ∃ F, F = at_ % (8 * m - 31) := ⟨_, rfl⟩
  have hF1 : F < 8 * m - 31 := by rw [hF]; exact Nat.mod_lt _ (by omega)
  have hFe : (at_ : Int) % (8 * (m : Int) - 31) = (F : Int) := by
    rw [hF, Int.natCast_emod, show ((8 * m - 31 : Nat) : Int) = 8 * (m : Int) - 31 by omega]
  have hFt : (at_ : Int).tmod (8 * (m : Int) - 31) = (F : Int) := by
    rw [← hFe]; exact Int.tmod_eq_emod_of_nonneg (by omega)
  have hnz : (8 * (m : Int) - 31) ≠ 0 := by omega
  have hnz' : ((8 * (m : Int) - 31) == 0) = false := by simp; omega
  clear hF
  go_enter Try.func4, Try.ntmps4
  go_wp2_with fail
  refine (crcAlive_any _).mono ?_
  rintro e w1 ⟨rfl, hb1⟩
  have bs1 := hb.below hb1 (Nat.le_refl _)
  go_wp2_with fail
  refine (put_any a m ca zs w1 hnil bs1 (by omega)).mono ?_
  rintro e w2 ⟨v2, rfl, ho2, hb2⟩
  have hbw2 : Below w.heap.size w w2 := hb1.trans (hb2.mono hb1.size)
  replace ho2 := ho2.mono hb1.size
  have hzl := hb.1
  obtain ⟨gs, cs, rfl, hcs, hgs1, hgs2⟩ := ho2.block (by simp [wbytes])
  have hTl : (wbytes (crcOf zs) ++ zs).length = 4 + m := by rw [List.length_append, hzl]; rfl
  rw [hTl] at ho2 hcs ⊢
  have ho3 := own_new w2 w2.heap.size (Nat.le_refl _) [] (by simp) (by simp)
  have hb3 : Below w2.heap.size w2 (w2.alloc (.cells (cb []).toArray 5)) := (Below.refl _ _).alloc (Nat.le_refl _) _
  have bs3 := (hb.below hbw2 (Nat.le_refl _)).below hb3 (Nat.le_refl _)
  clear hb1 hb2 bs1 hTl
  go_wp2_with (at_builtin; refine wpList_append_bytes _ rfl _ _ rfl w2.heap.size Try.underlying22 info_byte _ [] rfl ho3 a m ca zs rfl hnil bs3 ?d1 hb3.size ?_)
  case d1 => simp; omega
  intro v4 w4 ho4 hg4
  have hb4 : Below w2.heap.size w2 w4 := hb3.trans (Below.of_grown ho3 hg4 hb3.size)
  have hbw4 : Below w.heap.size w w4 := hbw2.trans (hb4.mono hbw2.size)
  replace ho2 := ho2.below hb4 (Nat.le_refl _)
  obtain ⟨gx, cx, rfl, hcx, hgx1, hgx2⟩ := ho4.block (by omega)
  replace ho4 := ho4.mono hbw2.size
  have hgne : gs ≠ gx := by omega
  rw [hzl] at ho4 hcx ⊢
  have hgx : w.heap.size ≤ gx := Nat.le_trans hbw2.size hgx1
  clear hg4 hb4 ho3 hb3 bs3 hgx1 hgs2 hbw2
  go_wp2
  go_loopw [10] (fun i wr => ∃ (k : Nat) (X : List Int), i = .int .i64 (k : Int) ∧ k ≤ 32 ∧ Turned w wr gs gx m cs cx zs X F t k) (fun i _ => 32 - (intOf i).toNat)
  case atStart => exact ⟨0, zs, rfl, by omega, hzl, ho4, ho2, by simp [Nat.mod_one], hbw4⟩
  case round =>
    obtain ⟨k, X, rfl, hk, hT⟩ := hrel
    clear ho4 ho2 hbw4
    by_cases hlt : k < 32
    · by_cases hbit : t / 2 ^ k % 2 = 1
      · obtain ⟨Z, hZ, c1, c2, c3⟩ := turned_step hT hgne hgs1 hgx (by omega) hbit
        obtain ⟨d1, d2, d3⟩ := c3 (bits .xor .u8 (Z : Int) (2 ^ ((F + k) % 8) % 256)) (bits_turn Z _ hZ (by omega))
        have hq : (((t : Int) / 2 ^ k).tmod 2 == 1) = true := by rw [bit_cast, hbit]; rfl
        have HD : Hid (Turned w ((wr.setCell ⟨gx, (F + k) / 8, none⟩ (.int .u8 (bits .xor .u8 (Z : Int) (2 ^ ((F + k) % 8) % 256)))).setCell ⟨gs, 4 + (F + k) / 8, none⟩ (.int .u8 (bits .xor .u8 (Z : Int) (2 ^ ((F + k) % 8) % 256)))) gs gx m cs cx zs (X.set ((F + k) / 8) (bits .xor .u8 (Z : Int) (2 ^ ((F + k) % 8) % 256))) F t (k + 1)) := d3
        clear c3 d3 hT hbit
        go_wp2
        refine ⟨⟨k + 1, _, by go_num, by omega, HD.out⟩, ?_⟩
        simp [intOf]; omega
      · have hq : (((t : Int) / 2 ^ k).tmod 2 == 1) = false := by
          rw [bit_cast, show t / 2 ^ k % 2 = 0 by have := Nat.mod_lt (t / 2 ^ k) (y := 2) (by omega); generalize t / 2 ^ k % 2 = q at *; omega]; rfl
        have HD : Hid (Turned w wr gs gx m cs cx zs X F t (k + 1)) := by
          obtain ⟨q1, q2, q3, q4, q5⟩ := hT
          exact ⟨q1, q2, q3, by rw [q4, turn_no F t k hbit], q5⟩
        clear hT hbit
        go_wp2
        refine ⟨⟨k + 1, _, by go_num, by omega, HD.out⟩, ?_⟩
        simp [intOf]; omega
    · obtain rfl : k = 32 := by omega
      obtain ⟨q1, q2, q3, q4, q5⟩ := hT
      have hwb : (wbytes (crcOf zs)).length = 4 := rfl
      have hne := crc_tells X zs (by rw [q1, hzl]) t F (by omega) h3 (by omega) (by rw [q4, Nat.mod_eq_of_lt (by omega)])
      have bsS := q3.bs (by rw [List.length_append, q1, hwb])
      have bsX := q2.bs q1.symm
      obtain ⟨S, hS⟩ : ∃ S, S = wbytes (crcOf zs) ++ X := ⟨_, rfl⟩
      have hSd : S.drop 4 = X := by rw [hS]; rfl
      have hSw : bword S = crcOf zs := by rw [hS]; exact bword_wbytes (crcOf_lt hb.2.1) X
      have hne2 : bword S ≠ crcOf (S.drop 4) := by rw [hSd, hSw]; exact hne.symm
      rw [← hS] at bsS
      have bsZ := hb.below q5 (Nat.le_refl _)
      obtain ⟨A, hA⟩ : ∃ A, A = crcOf X := ⟨_, rfl⟩
      obtain ⟨C, hC⟩ : ∃ C, C = crcOf zs := ⟨_, rfl⟩
      have hAC : ((A : Int) != (C : Int)) = true := by rw [hA, hC]; simp; omega
      have HA : Hid (A = crcOf X) := hA
      have HC : Hid (C = crcOf zs) := hC
      clear hA hC hS hSd hSw hne q1 q2 q3 q4
      go_wp2_with fail
      refine (get_sum _ (4 + m) cs S wr bsS (by omega) hcs (by omega) hne2).mono ?_
      rintro e w5 ⟨rfl, nq, rfl⟩
      go_wp2_with fail
      refine (of_any _ m cx X _ (bsX.drewN nq) (by omega)).mono ?_
      rintro e w6 ⟨rfl, rfl⟩
      rw [← HA.out]
      go_wp2_with fail
      refine (of_any _ m ca zs _ (bsZ.drewN nq) (by omega)).mono ?_
      rintro e w6 ⟨rfl, rfl⟩
      rw [← HC.out]
      go_wp2
      go_ret
      exact ⟨rfl, below_drewN q5 nq⟩
end Go.Proofs.Ytoleabndfajcbaa
