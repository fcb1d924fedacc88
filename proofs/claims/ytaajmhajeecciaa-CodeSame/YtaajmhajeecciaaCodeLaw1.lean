/-
  The walk of the law CodePuts, out of the contracts of what it calls.
-/
import Derived.Test.YtaajmhajeecciaaCodeAlive
import Derived.OpenShut
namespace Go.Proofs.Ytaajmhajeecciaa
open Go.RowKit
set_option linter.unusedVariables false

/-- What came in as a slice of bytes. -/
theorem bs_of_row {w : World} {a : Option Addr} {len cap : Nat} {zs : List Int}
    (h : (a = none ∧ len = 0 ∧ cap = 0 ∧ zs = []) ∨ ∃ x, a = some x ∧ len ≤ cap ∧ cap ≤ maxLen ∧ zs.length = cap ∧ (∀ i, i < zs.length → w.cell? (x.add i) = some (.int .u8 (zs.getD i 0))) ∧ ∀ n ∈ zs, (Lit.int .u8 n).wf = true) :
    (a = none → len = 0 ∧ cap = 0) ∧ Bs w a len (zs.take len) := by
  rcases h with ⟨rfl, rfl, rfl, rfl⟩ | ⟨x, rfl, hl, hm, hz, hcell, hwz⟩
  · exact ⟨fun _ => ⟨rfl, rfl⟩, rfl, by simp, .inl rfl⟩
  · refine ⟨(fun h => by cases h), by rw [List.length_take]; omega, fun z hzm => ?_, ?_⟩
    · have := hwz z (List.mem_of_mem_take hzm)
      simpa [Lit.wf, IntKind.min, IntKind.max, IntKind.signed, IntKind.bits] using this
    · rcases Nat.eq_zero_or_pos len with h0 | h0
      · exact .inl h0
      · obtain ⟨b, off, spot⟩ := x
        have hc := hcell 0 (by omega)
        have hspot : spot = none := by simpa [Addr.add] using World.cell?_spot hc
        subst hspot
        refine .inr ⟨b, off, rfl, ?_, fun i hi => ?_⟩
        · exact World.block_lt_of_cell? w _ hc
        · have := hcell i (by omega)
          have e : (⟨b, off, none⟩ : Addr).add i = ⟨b, off + i, none⟩ := by simp [Addr.add]
          rw [e] at this
          rw [this]
          simp [hi]

/-- An empty slice that the call itself has made. -/
theorem own_new0 (w : World) (base : Nat) (hb : base ≤ w.heap.size) : Own (w.alloc (.cells #[] 5)) base (.slice (some ⟨w.heap.size, 0, none⟩) 0 0) [] :=
  ⟨World.ownsRow_made w #[] 0 hb (by decide) rfl, by simp⟩

set_option maxRecDepth 100000 in
set_option maxHeartbeats 400000 in
theorem codePuts_walk (a : Option Addr) (m cap : Nat) (zs : List Int) (n : Nat) (k : Int) (s : ByteArray) (w : World) (hnil : a = none → m = 0 ∧ cap = 0) (hb : Bs w a m zs) (hn : n < 2 ^ 64)
    (k1 : -9223372036854775808 ≤ k) (k2 : k < 9223372036854775808) (hmm : m ≤ maxLen) (hs : s.size ≤ maxLen) :
    Calls Try.prog 3 #[.slice a m cap, .int .u64 (n : Int), .int .i64 k, .string s] w fun e w' => e = .returned (.bool true) ∧ Below w.heap.size w w' := by
  unfold maxLen at hs hmm
  by_cases h1 : 2000 < m
  · have t1 : decide ((2000 : Int) < (m : Int)) = true := by simp; omega
    go_enter Try.func3, Try.ntmps3
    go_wp2_with fail
    refine (alive_any _).mono ?_
    rintro e w1 ⟨rfl, hb1⟩
    go_wp2
    go_ret
    exact ⟨rfl, hb1⟩
  have t1 : decide ((2000 : Int) < (m : Int)) = false := by simp; omega
  by_cases h2 : 2000 < s.size
  · have t2 : decide ((2000 : Int) < (s.size : Int)) = true := by simp; omega
    go_enter Try.func3, Try.ntmps3
    go_wp2_with fail
    refine (alive_any _).mono ?_
    rintro e w1 ⟨rfl, hb1⟩
    go_wp2
    go_ret
    exact ⟨rfl, hb1⟩
  have t2 : decide ((2000 : Int) < (s.size : Int)) = false := by simp; omega
  go_enter Try.func3, Try.ntmps3
  go_wp2_with fail
  refine (alive_any _).mono ?_
  rintro e w1 ⟨rfl, hb1⟩
  have hz1 := hb1.size
  have bs1 := hb.below hb1 (Nat.le_refl _)
  go_wp2_with (at_builtin; refine wpList_append_bytes _ rfl _ _ rfl w.heap.size Try.underlying22 info_u8 _ [] rfl (own_new0 w1 _ hz1) a m cap zs rfl hnil (bs1.below ((Below.refl _ _).alloc (Nat.le_refl _) _) (Nat.le_refl _)) ?d1 ?d2 ?_)
  case d1 => simp; omega
  case d2 => simp; omega
  intro v2 w2 ho2 hg2
  have hb2 : Below w.heap.size w w2 := (hb1.alloc hz1 _).trans (Below.of_grown (own_new0 w1 _ hz1) hg2 (by simp; omega))
  clear hg2 bs1 hz1 hb1
  try rw [List.nil_append] at ho2
  have hbw : Below w.heap.size w w2 := hb2
  clear hb2
  have hzw := hbw.size
  go_wp2_with fail
  refine (putUint_any a m cap zs n hn w2 hnil (hb.below hbw (Nat.le_refl _)) (by omega)).mono ?_
  rintro e w3 ⟨x3, rfl, hox3, hbx⟩
  replace ho2 := ho2.below hbx (Nat.le_refl _)
  replace hbw : Below w.heap.size w w3 := hbw.trans (hbx.mono hzw)
  clear hbx
  replace hzw := hbw.size
  obtain ⟨L3, hL3⟩ : ∃ L, L = zs ++ ubytes n := ⟨_, rfl⟩
  rw [← hL3] at hox3
  have HL3 : Hid (L3 = zs ++ ubytes n) := hL3
  clear hL3
  go_wp2_with fail
  refine (putInt_any a m cap zs k k1 k2 w3 hnil (hb.below hbw (Nat.le_refl _)) (by omega)).mono ?_
  rintro e w4 ⟨x4, rfl, hox4, hbx⟩
  replace ho2 := ho2.below hbx (Nat.le_refl _)
  replace hox3 := hox3.below hbx (Nat.le_refl _)
  replace hbw : Below w.heap.size w w4 := hbw.trans (hbx.mono hzw)
  clear hbx
  replace hzw := hbw.size
  obtain ⟨L4, hL4⟩ : ∃ L, L = zs ++ ubytes (zz k) := ⟨_, rfl⟩
  rw [← hL4] at hox4
  have HL4 : Hid (L4 = zs ++ ubytes (zz k)) := hL4
  clear hL4
  go_wp2_with fail
  refine (putText_any a m cap zs s w4 hnil (hb.below hbw (Nat.le_refl _)) (by omega) (by omega)).mono ?_
  rintro e w5 ⟨x5, rfl, hox5, hbx⟩
  replace ho2 := ho2.below hbx (Nat.le_refl _)
  replace hox3 := hox3.below hbx (Nat.le_refl _)
  replace hox4 := hox4.below hbx (Nat.le_refl _)
  replace hbw : Below w.heap.size w w5 := hbw.trans (hbx.mono hzw)
  clear hbx
  replace hzw := hbw.size
  obtain ⟨L5, hL5⟩ : ∃ L, L = zs ++ (ubytes s.size ++ sb s) := ⟨_, rfl⟩
  rw [← hL5] at hox5
  have HL5 : Hid (L5 = zs ++ (ubytes s.size ++ sb s)) := hL5
  clear hL5
  obtain ⟨av, cv, hv, hcv, hnv, bsv⟩ := ho2.slice
  rw [hb.1] at hv hcv hnv bsv
  subst hv
  clear ho2
  go_wp2_with fail
  refine (same_below a av m m cap cv zs zs w5 (hb.below hbw (Nat.le_refl _)) bsv (by omega) (by omega)).mono ?_
  rintro e w6 ⟨rfl, hbx⟩
  rw [show decide (zs = zs) = true from by simp]
  replace hox3 := hox3.below hbx (Nat.le_refl _)
  replace hox4 := hox4.below hbx (Nat.le_refl _)
  replace hox5 := hox5.below hbx (Nat.le_refl _)
  replace hbw : Below w.heap.size w w6 := hbw.trans (hbx.mono hzw)
  clear hbx bsv hcv hnv
  replace hzw := hbw.size
  have hown7 : Own (w6.alloc (.cells #[] 5)) w6.heap.size (.slice (some ⟨w6.heap.size, 0, none⟩) 0 0) [] := own_new0 w6 _ (Nat.le_refl _)
  have hbs7 := (hb.below hbw (Nat.le_refl _)).below ((Below.refl w6.heap.size w6).alloc (Nat.le_refl _) (.cells #[] 5)) (Nat.le_refl _)
  go_wp2_with (at_builtin; refine wpList_append_bytes _ rfl _ _ rfl w6.heap.size Try.underlying22 info_u8 _ [] rfl hown7 a m cap zs rfl hnil hbs7 ?p7 ?q7 ?_)
  case p7 => simp; omega
  case q7 => simp
  intro v7 w7 ho7 hg7
  have hb7 : Below w6.heap.size w6 w7 := ((Below.refl _ _).alloc (Nat.le_refl _) _).trans (Below.of_grown hown7 hg7 (by simp))
  clear hg7 hown7 hbs7
  try rw [List.nil_append] at ho7
  have hzA := hb7.size
  go_wp2_with fail
  refine (refUint n hn w7).mono ?_
  rintro e w8 ⟨v8, rfl, ho8, hbx⟩
  replace ho7 := ho7.below hbx (Nat.le_refl _)
  have hb8 : Below w6.heap.size w6 w8 := hb7.trans (hbx.mono hzA)
  have hzB := hb8.size
  clear hbx hb7 hzA
  obtain ⟨M1, hM1⟩ : ∃ L, L = ubytes n := ⟨_, rfl⟩
  rw [← hM1] at ho8
  have HM1 : Hid (M1 = ubytes n) := hM1
  have hMl1 : M1.length ≤ 2010 := by rw [hM1]; exact Nat.le_trans (ubytes_le _).2 (by decide)
  clear hM1
  obtain ⟨am1, cm1, rfl, hcm1, hnm1, bsm1⟩ := ho8.slice
  clear ho8 hcm1
  have hzl1 : zs.length ≤ 2000 := by rw [hb.1]; omega
  go_wp2_with (at_builtin; refine wpList_append_bytes _ rfl _ _ rfl w6.heap.size Try.underlying22 info_u8 _ zs rfl ho7 am1 _ cm1 M1 rfl hnm1 bsm1 ?p8 hzB ?_)
  case p8 => omega
  intro v9 w9 ho9 hg9
  have hb9 : Below w6.heap.size w6 w9 := hb8.trans (Below.of_grown ho7 hg9 hzB)
  clear hg9 ho7 bsm1 hnm1 hb8 hzB
  obtain ⟨N1, hN1⟩ : ∃ L, L = zs ++ M1 := ⟨_, rfl⟩
  rw [← hN1] at ho9
  have HN1 : Hid (N1 = L3) := by show N1 = L3; rw [hN1, HM1.out, HL3.out]
  have hNl1 : N1.length ≤ 5000 := by rw [hN1, List.length_append]; omega
  clear hN1 hzl1
  have hLl1 : L3.length ≤ 5000 := by rw [← HN1.out]; exact hNl1
  obtain ⟨an1, cn1, rfl, hcn1, hnn1, bsn1⟩ := ho9.slice
  replace hox3 := hox3.below hb9 (Nat.le_refl _)
  replace hox4 := hox4.below hb9 (Nat.le_refl _)
  replace hox5 := hox5.below hb9 (Nat.le_refl _)
  replace hbw : Below w.heap.size w w9 := hbw.trans (hb9.mono hzw)
  clear hb9 ho9 hcn1 hnn1
  replace hzw := hbw.size
  obtain ⟨ax1, cx1, rfl, hcx1, hnx1, bsx1⟩ := hox3.slice
  clear hox3 hcx1 hnx1
  go_wp2_with fail
  refine (same_below ax1 an1 _ _ cx1 cn1 L3 N1 w9 bsx1 bsn1 (by omega) (by omega)).mono ?_
  rintro e w10 ⟨rfl, hbx⟩
  rw [show decide (L3 = N1) = true from by rw [HN1.out]; simp]
  replace hox4 := hox4.below hbx (Nat.le_refl _)
  replace hox5 := hox5.below hbx (Nat.le_refl _)
  replace hbw : Below w.heap.size w w10 := hbw.trans (hbx.mono hzw)
  clear hbx bsx1 bsn1 hMl1 hNl1 hLl1
  replace hzw := hbw.size
  have hown11 : Own (w10.alloc (.cells #[] 5)) w10.heap.size (.slice (some ⟨w10.heap.size, 0, none⟩) 0 0) [] := own_new0 w10 _ (Nat.le_refl _)
  have hbs11 := (hb.below hbw (Nat.le_refl _)).below ((Below.refl w10.heap.size w10).alloc (Nat.le_refl _) (.cells #[] 5)) (Nat.le_refl _)
  go_wp2_with (at_builtin; refine wpList_append_bytes _ rfl _ _ rfl w10.heap.size Try.underlying22 info_u8 _ [] rfl hown11 a m cap zs rfl hnil hbs11 ?p11 ?q11 ?_)
  case p11 => simp; omega
  case q11 => simp
  intro v11 w11 ho11 hg11
  have hb11 : Below w10.heap.size w10 w11 := ((Below.refl _ _).alloc (Nat.le_refl _) _).trans (Below.of_grown hown11 hg11 (by simp))
  clear hg11 hown11 hbs11
  try rw [List.nil_append] at ho11
  have hzA := hb11.size
  go_wp2_with fail
  refine (refInt k k1 k2 w11).mono ?_
  rintro e w12 ⟨v12, rfl, ho12, hbx⟩
  replace ho11 := ho11.below hbx (Nat.le_refl _)
  have hb12 : Below w10.heap.size w10 w12 := hb11.trans (hbx.mono hzA)
  have hzB := hb12.size
  clear hbx hb11 hzA
  obtain ⟨M2, hM2⟩ : ∃ L, L = ubytes (zz k) := ⟨_, rfl⟩
  rw [← hM2] at ho12
  have HM2 : Hid (M2 = ubytes (zz k)) := hM2
  have hMl2 : M2.length ≤ 2010 := by rw [hM2]; exact Nat.le_trans (ubytes_le _).2 (by decide)
  clear hM2
  obtain ⟨am2, cm2, rfl, hcm2, hnm2, bsm2⟩ := ho12.slice
  clear ho12 hcm2
  have hzl2 : zs.length ≤ 2000 := by rw [hb.1]; omega
  go_wp2_with (at_builtin; refine wpList_append_bytes _ rfl _ _ rfl w10.heap.size Try.underlying22 info_u8 _ zs rfl ho11 am2 _ cm2 M2 rfl hnm2 bsm2 ?p12 hzB ?_)
  case p12 => omega
  intro v13 w13 ho13 hg13
  have hb13 : Below w10.heap.size w10 w13 := hb12.trans (Below.of_grown ho11 hg13 hzB)
  clear hg13 ho11 bsm2 hnm2 hb12 hzB
  obtain ⟨N2, hN2⟩ : ∃ L, L = zs ++ M2 := ⟨_, rfl⟩
  rw [← hN2] at ho13
  have HN2 : Hid (N2 = L4) := by show N2 = L4; rw [hN2, HM2.out, HL4.out]
  have hNl2 : N2.length ≤ 5000 := by rw [hN2, List.length_append]; omega
  clear hN2 hzl2
  have hLl2 : L4.length ≤ 5000 := by rw [← HN2.out]; exact hNl2
  obtain ⟨an2, cn2, rfl, hcn2, hnn2, bsn2⟩ := ho13.slice
  replace hox4 := hox4.below hb13 (Nat.le_refl _)
  replace hox5 := hox5.below hb13 (Nat.le_refl _)
  replace hbw : Below w.heap.size w w13 := hbw.trans (hb13.mono hzw)
  clear hb13 ho13 hcn2 hnn2
  replace hzw := hbw.size
  obtain ⟨ax2, cx2, rfl, hcx2, hnx2, bsx2⟩ := hox4.slice
  clear hox4 hcx2 hnx2
  go_wp2_with fail
  refine (same_below ax2 an2 _ _ cx2 cn2 L4 N2 w13 bsx2 bsn2 (by omega) (by omega)).mono ?_
  rintro e w14 ⟨rfl, hbx⟩
  rw [show decide (L4 = N2) = true from by rw [HN2.out]; simp]
  replace hox5 := hox5.below hbx (Nat.le_refl _)
  replace hbw : Below w.heap.size w w14 := hbw.trans (hbx.mono hzw)
  clear hbx bsx2 bsn2 hMl2 hNl2 hLl2
  replace hzw := hbw.size
  have hown15 : Own (w14.alloc (.cells #[] 5)) w14.heap.size (.slice (some ⟨w14.heap.size, 0, none⟩) 0 0) [] := own_new0 w14 _ (Nat.le_refl _)
  have hbs15 := (hb.below hbw (Nat.le_refl _)).below ((Below.refl w14.heap.size w14).alloc (Nat.le_refl _) (.cells #[] 5)) (Nat.le_refl _)
  go_wp2_with (at_builtin; refine wpList_append_bytes _ rfl _ _ rfl w14.heap.size Try.underlying22 info_u8 _ [] rfl hown15 a m cap zs rfl hnil hbs15 ?p15 ?q15 ?_)
  case p15 => simp; omega
  case q15 => simp
  intro v15 w15 ho15 hg15
  have hb15 : Below w14.heap.size w14 w15 := ((Below.refl _ _).alloc (Nat.le_refl _) _).trans (Below.of_grown hown15 hg15 (by simp))
  clear hg15 hown15 hbs15
  try rw [List.nil_append] at ho15
  have hzA := hb15.size
  go_wp2_with fail
  refine (refText s (by omega) w15).mono ?_
  rintro e w16 ⟨v16, rfl, ho16, hbx⟩
  replace ho15 := ho15.below hbx (Nat.le_refl _)
  have hb16 : Below w14.heap.size w14 w16 := hb15.trans (hbx.mono hzA)
  have hzB := hb16.size
  clear hbx hb15 hzA
  obtain ⟨M3, hM3⟩ : ∃ L, L = ubytes s.size ++ sb s := ⟨_, rfl⟩
  rw [← hM3] at ho16
  have HM3 : Hid (M3 = ubytes s.size ++ sb s) := hM3
  have hMl3 : M3.length ≤ 2010 := by rw [hM3]; rw [List.length_append, sb_length]; have := (ubytes_le s.size).2; omega
  clear hM3
  obtain ⟨am3, cm3, rfl, hcm3, hnm3, bsm3⟩ := ho16.slice
  clear ho16 hcm3
  have hzl3 : zs.length ≤ 2000 := by rw [hb.1]; omega
  go_wp2_with (at_builtin; refine wpList_append_bytes _ rfl _ _ rfl w14.heap.size Try.underlying22 info_u8 _ zs rfl ho15 am3 _ cm3 M3 rfl hnm3 bsm3 ?p16 hzB ?_)
  case p16 => omega
  intro v17 w17 ho17 hg17
  have hb17 : Below w14.heap.size w14 w17 := hb16.trans (Below.of_grown ho15 hg17 hzB)
  clear hg17 ho15 bsm3 hnm3 hb16 hzB
  obtain ⟨N3, hN3⟩ : ∃ L, L = zs ++ M3 := ⟨_, rfl⟩
  rw [← hN3] at ho17
  have HN3 : Hid (N3 = L5) := by show N3 = L5; rw [hN3, HM3.out, HL5.out]
  have hNl3 : N3.length ≤ 5000 := by rw [hN3, List.length_append]; omega
  clear hN3 hzl3
  have hLl3 : L5.length ≤ 5000 := by rw [← HN3.out]; exact hNl3
  obtain ⟨an3, cn3, rfl, hcn3, hnn3, bsn3⟩ := ho17.slice
  replace hox5 := hox5.below hb17 (Nat.le_refl _)
  replace hbw : Below w.heap.size w w17 := hbw.trans (hb17.mono hzw)
  clear hb17 ho17 hcn3 hnn3
  replace hzw := hbw.size
  obtain ⟨ax3, cx3, rfl, hcx3, hnx3, bsx3⟩ := hox5.slice
  clear hox5 hcx3 hnx3
  go_wp2_with fail
  refine (same_below ax3 an3 _ _ cx3 cn3 L5 N3 w17 bsx3 bsn3 (by omega) (by omega)).mono ?_
  rintro e w18 ⟨rfl, hbx⟩
  rw [show decide (L5 = N3) = true from by rw [HN3.out]; simp]
  replace hbw : Below w.heap.size w w18 := hbw.trans (hbx.mono hzw)
  clear hbx bsx3 bsn3 hMl3 hNl3 hLl3
  replace hzw := hbw.size
  go_wp2_with fail
  refine (len_any n hn w18).mono ?_
  rintro e w19 ⟨rfl, rfl⟩
  go_wp2_with fail
  refine (refUint n hn w19).mono ?_
  rintro e w20 ⟨v20, rfl, ho20, hbx⟩
  replace hbw : Below w.heap.size w w20 := hbw.trans (hbx.mono hzw)
  obtain ⟨al, cl, rfl, _, _, _⟩ := ho20.slice
  clear ho20 hbx
  have hle := (ubytes_le n).2
  have hq : (((ubytes n).length : Int) == ((ubytes n).length : Int)) = true := by simp
  go_wp2
  go_ret
  exact ⟨rfl, hbw⟩
end Go.Proofs.Ytaajmhajeecciaa
