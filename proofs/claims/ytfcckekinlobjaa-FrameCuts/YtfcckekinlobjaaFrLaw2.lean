/-
  The walk of the law FrameCuts.
-/
import Derived.Test.YtfcckekinlobjaaFrCut
import Derived.Test.YtfcckekinlobjaaFrLaw3
namespace Go.Proofs.Ytfcckekinlobjaa
open Go.RowKit
set_option linter.unusedVariables false

theorem info_int : (Try.prog.info? 3).map (fun i => (i.zero, i.size, i.bytes)) = some (some (.int .i64 0), 1, 8) := by kernel_rfl

def eCells (l : List (List Int)) (n : Nat) : List Value := (List.range n).map fun j => Value.int .i64 (lenTo l (j + 1) : Int)

theorem eCells_snoc (l : List (List Int)) (n : Nat) : eCells l (n + 1) = eCells l n ++ [.int .i64 (lenTo l (n + 1) : Int)] := by
  unfold eCells; rw [List.range_succ, List.map_append]; rfl
theorem eCells_length (l : List (List Int)) (n : Nat) : (eCells l n).length = n := by simp [eCells]
theorem eCells_at (l : List (List Int)) {n j : Nat} (h : j < n) : (eCells l n)[j]? = some (.int .i64 (lenTo l (j + 1) : Int)) := by simp [eCells, h]

/-- A row of bytes and a row of numbers lie in different blocks. -/
theorem own_apart {w : World} {b1 b2 : Nat} {v u : Value} {zs : List Int} {n : Nat} {xs : List Value} (h : Own w b1 v zs) (hr : w.ownsRow b2 3 1 u n xs) : v.ownBlock = none ∨ v.ownBlock ≠ u.ownBlock := by
  rcases h.1.2 with ⟨rfl, _⟩ | ⟨g, cap, cur, rfl, _, hh, _⟩
  · exact .inl rfl
  · refine .inr fun e => ?_
    rcases hr.2 with ⟨rfl, _⟩ | ⟨g', cap', cur', rfl, _, hh', _⟩
    · simp [Value.ownBlock] at e
    · have e' : g = g' := by simpa [Value.ownBlock] using e
      rw [e', hh'] at hh
      cases hh

set_option maxRecDepth 100000 in
set_option maxHeartbeats 4000000 in
theorem frameCuts_walk (la : Option Addr) (nl cl cut at_ bt : Nat) (ps : List Piece) (w : World) (hpl : ps.length = nl) (hcl : nl ≤ cl) (hla : la = none → nl = 0 ∧ cl = 0) (hP : Vs w la ps) (hnl : nl ≤ maxLen) (hcut : cut < 65536) (hat : at_ < 65536) (hbt : bt < 256) :
    Calls Try.prog 4 #[.slice la nl cl, .int .u16 (cut : Int), .int .u16 (at_ : Int), .int .u8 (bt : Int)] w fun e w' => e = .returned (.bool true) ∧ Below w.heap.size w w' := by
  unfold maxLen at hnl
  by_cases h1 : 20 < nl
  · have t1 : (20 : Int) < (nl : Int) := by omega
    go_enter Try.func4, Try.ntmps4
    go_wp2_with fail
    refine (alive_any _).mono ?_
    rintro e w1 ⟨rfl, hb1⟩
    go_wp2
    go_ret
    exact ⟨rfl, hb1⟩
  have t1 : ¬ (20 : Int) < (nl : Int) := by omega
  have hk1 : nl ≤ 20 := by omega
  obtain ⟨Lz, hLz⟩ : ∃ L, L = ps.map Piece.zs := ⟨_, rfl⟩
  have HL : Hid (Lz = ps.map Piece.zs ∧ Lz.length = nl ∧ (∀ r ∈ Lz, Wf r) ∧ ps.length = nl) := ⟨hLz, by rw [hLz, List.length_map, hpl], by rw [hLz]; exact vs_good hP, hpl⟩
  have HP : Hid (∀ w', Below w.heap.size w w' → Vs w' la ps) := fun w' hb => hP.below hb (Nat.le_refl _)
  clear hLz hpl hP h1 hnl
  go_enter Try.func4, Try.ntmps4
  go_wp2_with fail
  refine (alive_any _).mono ?_
  rintro e w1 ⟨rfl, hb1⟩
  go_wp2
  go_loopw [9, 10, 11] (fun bv ev iv wr => ∃ (i : Nat) (B : List Int), iv = .int .i64 (i : Int) ∧ i ≤ nl ∧ Own wr w.heap.size bv B ∧ B = framesOf (Lz.take i) ∧ wr.ownsRow w.heap.size 3 1 ev i (eCells Lz i) ∧ (∀ r ∈ Lz.take i, r.length ≤ 200) ∧ Below w.heap.size w wr) (fun _ _ iv _ => nl - (intOf iv).toNat)
  case atStart => exact ⟨0, [], rfl, by omega, Own.nil _ _, by simp [framesOf], World.ownsRow_nil _ _ _ _, by simp, hb1⟩
  case round =>
    obtain ⟨i, B, rfl, hi, hown, hB, hrow, hlen, hbel⟩ := hrel
    have HB : Hid (B = framesOf (Lz.take i)) := hB
    have HLEN : Hid (∀ r ∈ Lz.take i, r.length ≤ 200) := hlen
    have hBl : B.length ≤ 5000 := by
      have h2 := framesOf_le (l := Lz.take i) (b := 200) hlen
      have h3 : (Lz.take i).length ≤ 20 := by rw [List.length_take, HL.out.2.1]; omega
      rw [← hB] at h2
      have h4 : (Lz.take i).length * 214 ≤ 20 * 214 := Nat.mul_le_mul_right _ h3
      omega
    clear hB hlen hb1
    obtain ⟨ba, bc, rfl, hbc, hbn, hbs⟩ := hown.slice
    obtain ⟨ea, ec, rfl, hec, hem, hen, hes⟩ := ownsRow_cs hrow
    obtain ⟨bl, hbl⟩ : ∃ bl, bl = B.length := ⟨_, rfl⟩
    rw [← hbl] at hown hbc hbn hbs hBl
    rw [← hbl]
    have HBL : Hid (bl = B.length) := hbl
    clear hbl
    have hz := hbel.size
    by_cases hlt : i < nl
    · have tlt : (i : Int) < (nl : Int) := by omega
      have vP := HP.out _ hbel
      have hki : i < ps.length := by rw [HL.out.2.2.2]; exact hlt
      obtain ⟨b3, o3, rfl, hblk, hcell, hok⟩ := vP.at hki
      obtain ⟨p, hp⟩ : ∃ p, p = ps[i]'hki := ⟨_, rfl⟩
      rw [← hp] at hcell hok
      have HZ : Hid (Lz[i]? = some p.zs) := by
        show Lz[i]? = some p.zs
        rw [HL.out.1, List.getElem?_map, List.getElem?_eq_getElem hki, ← hp]
        rfl
      obtain ⟨pa, pn, pc, pz⟩ := p
      have hcell' : wr.cell? ⟨b3, o3 + i, none⟩ = some (.slice pa pn pc) := hcell
      have hpl : pz.length = pn := hok.2.1.1
      clear hcell hp hki vP
      by_cases hp200 : 200 < pn
      · have tp : (200 : Int) < (pn : Int) := by omega
        go_wp2
        go_ret
        exact ⟨rfl, hbel⟩
      · have tp : ¬ (200 : Int) < (pn : Int) := by omega
        have HALL : Hid (∀ r ∈ Lz.take (i + 1), r.length ≤ 200) := by
          intro r hr
          rw [List.take_add_one, HZ.out] at hr
          rcases List.mem_append.1 hr with hr | hr
          · exact HLEN.out r hr
          · have : r = pz := by simpa using hr
            rw [this, hpl]; omega
        have hcs : wr.cell? ⟨b3, o3 + i, none⟩ = some (.slice pa pn pc) := hcell'
        go_wp2_with fail
        refine (fput_any ba pa bl pn bc pc B pz wr ⟨hbn, hbs, (by show bl ≤ maxLen; unfold maxLen; omega), hbc⟩ hok (by omega) (by omega)).mono ?_
        rintro e w4 ⟨v4, rfl, ho4, hb4⟩
        obtain ⟨X, hX⟩ : ∃ X, X = B ++ frameOf pz := ⟨_, rfl⟩
        rw [← hX] at ho4
        have HX : Hid (X = framesOf (Lz.take (i + 1))) := by
          show X = framesOf (Lz.take (i + 1))
          rw [hX, HB.out, List.take_add_one, HZ.out]
          exact (framesOf_snoc _ _).symm
        have hXl : X.length ≤ 6000 := by
          have := (ubytes_le pn).2
          rw [hX, List.length_append, frame_len, hpl]
          have := HBL.out
          omega
        have HXL : Hid (X.length = lenTo Lz (i + 1)) := by show X.length = _; rw [HX.out]; rfl
        obtain ⟨a4, c4, rfl, hc4, hn4, hbs4⟩ := ho4.slice
        have hrow4 := ownsRow_below hrow hb4 (Nat.le_refl _)
        have hbel4 : Below w.heap.size w w4 := hbel.trans (hb4.mono hz)
        have hz4 := hbel4.size
        obtain ⟨xl, hxl⟩ : ∃ xl, xl = X.length := ⟨_, rfl⟩
        rw [← hxl] at ho4 hXl HXL
        rw [← hxl]
        clear hX hbs4 hn4 hc4 hown hbs hrow hes hxl hbc hbn
        go_wp2_with (at_builtin; refine wpList_append_cells _ rfl _ _ 35 rfl w.heap.size 3 (.int .i64 0) 1 8 Try.underlying35 info_int rfl (by decide) _ i (eCells Lz i) rfl (hrow4.alloc _) (some ⟨w4.heap.size, 0, none⟩) 1 1 [.int .i64 (xl : Int)] rfl (fun h => by cases h) (Cs.new _ _ _) rfl (by simp [Value.oneCell']) (by unfold maxLen; omega) (by omega) (by simp; omega) ?_)
        intro v5 w5 ho5 hg5
        have hown5 : Own w5 w.heap.size (.slice a4 xl c4) X := by
          have h1 := ho4.mono (hz : w.heap.size ≤ wr.heap.size)
          have h2 : Own (w4.alloc (.cells #[.int .i64 (xl : Int)] 3)) w.heap.size (.slice a4 xl c4) X := h1.alloc _
          exact ⟨h2.1.kept hg5 (own_apart h2 (hrow4.alloc _)), h2.2⟩
        have hbel5 : Below w.heap.size w w5 := (hbel4.alloc hz4 _).trans (below_grown (hrow4.alloc _) hg5 (by simp; omega))
        clear hg5 ho4 hb4 hrow4
        go_wp2
        go_roundw
        case rel => exact ⟨i + 1, X, by go_num, by omega, hown5, HX.out, by rw [eCells_snoc, ← HXL.out]; exact ho5, HALL.out, hbel5⟩
        case measure => simp [intOf]; omega
    · obtain rfl : i = nl := by omega
      have tlt : ¬ (i : Int) < (i : Int) := by omega
      have hgood : GoodL Lz := fun r hr => ⟨HL.out.2.2.1 r hr, by
        have := HLEN.out r (by rw [List.take_of_length_le (by rw [HL.out.2.1]; exact Nat.le_refl _)]; exact hr)
        omega⟩
      have hBe : B = framesOf Lz := by rw [HB.out, List.take_of_length_le (by rw [HL.out.2.1]; exact Nat.le_refl _)]
      have HG : Hid (GoodL Lz ∧ B = framesOf Lz) := ⟨hgood, hBe⟩
      clear HB hgood hBe
      by_cases h0 : bl = 0
      · have t0 : ((bl : Int) == 0) = true := by simp [h0]
        go_wp2
        go_ret
        exact ⟨rfl, hbel⟩
      have t0 : ((bl : Int) == 0) = false := by simp [h0]
      have hi0 : 0 < i := by
        rcases Nat.eq_zero_or_pos i with h | h
        · exfalso
          have h2 : Lz = [] := List.eq_nil_of_length_eq_zero (by rw [HL.out.2.1, h])
          have h3 := HBL.out
          rw [HG.out.2, h2] at h3
          exact h0 h3
        · exact h
      obtain ⟨K, hK⟩ : ∃ K, K = cut % (bl + 1) := ⟨_, rfl⟩
      have hKb : K ≤ bl := by have := Nat.mod_lt cut (show 0 < bl + 1 by omega); omega
      have hKI : Int.tmod (cut : Int) ((bl : Int) + 1) = (K : Int) := by
        rw [Int.tmod_eq_emod_of_nonneg (by omega), hK]; push_cast; rfl
      have t2 : ((bl : Int) + 1 == 0) = false := by simp; omega
      have t3 : (K : Int) ≤ (bc : Int) := by omega
      have t4 : (0 : Int) ≤ (K : Int) := by omega
      have t5 : ¬ (bl : Int) + 1 = 0 := by omega
      have hbk : Bs wr ba K (B.take K) := hbs.take hKb
      clear hK
      -- from here on by gen-cuts.py
      obtain ⟨be, oe, rfl, hbe, hce⟩ : ∃ be oe, ea = some ⟨be, oe, none⟩ ∧ be < wr.heap.size ∧ ∀ j, j < i → wr.cell? ⟨be, oe + j, none⟩ = some (.int .i64 (lenTo Lz (j + 1) : Int)) := by
        rcases hes with e | ⟨be, oe, h1, h2, h3⟩
        · have := congrArg List.length e
          rw [eCells_length, List.length_nil] at this
          omega
        · exact ⟨be, oe, h1, h2, fun j hj => by rw [h3 j (by rw [eCells_length]; exact hj), eCells_at Lz hj]⟩
      obtain ⟨g, hg0, hgb⟩ : ∃ g, ba = some ⟨g, 0, none⟩ ∧ w.heap.size ≤ g := by
        obtain ⟨g, gc, hgv, _, hgb, _⟩ := hown.block (by rw [← HBL.out]; omega)
        injection hgv with h1 h2 h3
        exact ⟨g, h1, hgb⟩
      subst hg0
      go_wp2_with fail
      refine (all_any (some ⟨g, 0, none⟩) K bc (B.take K) wr hbk (by omega) (by omega)).mono ?_
      rintro e w2 ⟨xs, v2, hxs, rfl, hrow2, hok2, hb2⟩
      have HXS : Hid (xs.map Rc.key = allOf (B.take K) 0) := hxs
      have hbel2 : Below w.heap.size w w2 := hbel.trans (hb2.mono hz)
      have hown2 := hown.below hb2 (Nat.le_refl _)
      have HCE : Hid (∀ j, j < i → w2.cell? ⟨be, oe + j, none⟩ = some (.int .i64 (lenTo Lz (j + 1) : Int))) := fun j hj => (hb2.cell (p := ⟨be, oe + j, none⟩) hbe).trans (hce j hj)
      obtain ⟨E, hE⟩ : ∃ E, E = endOf (allOf (B.take K) 0) := ⟨_, rfl⟩
      rw [← hE]
      have HE : Hid (E = endOf (allOf (B.take K) 0)) := hE
      obtain ⟨x2, xc, rfl, hxc, hv2⟩ := vs_of_all hrow2 hok2
      obtain ⟨xl, hxl⟩ : ∃ xl, xl = xs.length := ⟨_, rfl⟩
      rw [← hxl]
      have HXL : Hid (xl = xs.length) := hxl
      have hbE : be < w2.heap.size := Nat.lt_of_lt_of_le hbe hb2.size
      clear hxs hE hxl hrow2 hok2 hbs hbk hes hce hrow hown hb2 hbe
      go_wp2
      go_loop [17] (fun nv => ∃ N : Nat, nv = .int .i64 (N : Int) ∧ N ≤ i ∧ ∀ j, j < N → lenTo Lz (j + 1) ≤ K) (fun nv => i - (intOf nv).toNat)
      case atStart => exact ⟨0, rfl, by omega, fun j hj => by omega⟩
      case round =>
        obtain ⟨N, rfl, hNi, hNall⟩ := hrel
        have HNA : Hid (∀ j, j < N → lenTo Lz (j + 1) ≤ K) := hNall
        clear hNall
        by_cases hNl : N < i
        · have u1 : (N : Int) < (i : Int) := by omega
          have hcN := HCE.out N hNl
          obtain ⟨T, hT⟩ : ∃ T, T = lenTo Lz (N + 1) := ⟨_, rfl⟩
          rw [← hT] at hcN
          have HT : Hid (T = lenTo Lz (N + 1)) := hT
          clear hT
          by_cases hTK : T ≤ K
          · have u2 : (T : Int) ≤ (K : Int) := by omega
            go_wp2
            refine ⟨⟨N + 1, by go_num, by omega, fun j hj => ?_⟩, ?_⟩
            · rcases Nat.lt_or_ge j N with h | h
              · exact HNA.out j h
              · obtain rfl : j = N := by omega
                rw [← HT.out]; exact hTK
            · simp [intOf]; omega
          · have u2 : ¬ (T : Int) ≤ (K : Int) := by omega
            have HEND : Hid (N = i ∨ K < lenTo Lz (N + 1)) := .inr (by rw [← HT.out]; omega)
            clear HT
            by_cases hN0 : N = 0
            · subst hN0
              rw [Nat.add_zero] at hcN
              have hlt0 : lenTo Lz 0 ≤ K := by
                rw [lenTo_zero]; omega
              have hA : allOf (B.take K) 0 = ends 0 (Lz.take 0) := by
                rw [HG.out.2]; exact cut_row HG.out.1 K 0 (by rw [HL.out.2.1]; omega) hlt0 (by rw [HL.out.2.1]; exact HEND.out)
              have hxz : xs.map Rc.zs = Lz.take 0 := by
                have h := congrArg (List.map Prod.snd) HXS.out
                rw [hA, ends_snd, List.map_map] at h
                exact h
              have hxN : 0 = xl := by
                symm
                rw [HXL.out, ← List.length_map (f := Rc.zs), hxz, List.length_take, HL.out.2.1]; omega
              have hEN : E = lenTo Lz 0 := by rw [HE.out, hA, endOf_take]
              have HSZ : Hid ((xs.map Rc.piece).map Piece.zs = (ps.take 0).map Piece.zs) := by
                show (xs.map Rc.piece).map Piece.zs = (ps.take 0).map Piece.zs
                rw [List.map_map, List.map_take, ← HL.out.1]; exact hxz
              have HXN : Hid (∀ p ∈ xs.map Rc.piece, p.n ≤ 1000000) := by
                intro p hp
                have h1 : p.zs ∈ Lz := by
                  have h0 : p.zs ∈ Lz.take 0 := by rw [← hxz]; obtain ⟨x, hx, rfl⟩ := List.mem_map.1 hp; exact List.mem_map.2 ⟨x, hx, rfl⟩
                  exact List.mem_of_mem_take h0
                have h2 : p.zs.length ≤ 65536 := (HG.out.1 _ h1).2
                have h3 := (hv2.2 p hp).2.1.1
                omega
              have HXL2 : Hid (0 = (xs.map Rc.piece).length) := by show 0 = (xs.map Rc.piece).length; rw [List.length_map, ← HXL.out]; exact hxN
              subst hxN
              have vPN := (HP.out _ hbel2).take 0
              have u3 : (0 : Int) ≤ (cl : Int) := by omega
              have u4 : (0 : Int) ≤ (0 : Int) := by omega
              have hE0 : E = 0 := by rw [hEN, lenTo_zero]
              subst hE0
              clear hEN
              clear hA hxz hlt0 HXS HE
              go_wp2_with fail
              refine (sameL_yes x2 la 0 xc cl _ _ w2 HXL2.out hv2 vPN HSZ.out (by omega) HXN.out).mono ?_
              rintro e w3 ⟨rfl, hb3⟩
              have hbel3 : Below w.heap.size w w3 := hbel2.trans (hb3.mono hbel2.size)
              have hown3 := hown2.below hb3 (Nat.le_refl _)
              have HCE3 : Hid (∀ j, j < i → w3.cell? ⟨be, oe + j, none⟩ = some (.int .i64 (lenTo Lz (j + 1) : Int))) := fun j hj => (hb3.cell (p := ⟨be, oe + j, none⟩) hbE).trans (HCE.out j hj)
              have vP3 := HP.out _ hbel3
              obtain ⟨I, hI⟩ : ∃ I, I = at_ % i := ⟨_, rfl⟩
              have hIi : I < i := by rw [hI]; exact Nat.mod_lt _ hi0
              have hII : Int.tmod (at_ : Int) (i : Int) = (I : Int) := by rw [Int.tmod_eq_emod_of_nonneg (by omega), hI]; rfl
              have u5 : ((i : Int) == 0) = false := by simp; omega
              have u6 : ¬ (i : Int) = 0 := by omega
              have hki : I < ps.length := by rw [HL.out.2.2.2]; exact hIi
              obtain ⟨bq, oq, rfl, hblq, hcq, hokq⟩ := vP3.at hki
              obtain ⟨p, hp⟩ : ∃ p, p = ps[I]'hki := ⟨_, rfl⟩
              rw [← hp] at hcq hokq
              have HZ : Hid (Lz[I]? = some p.zs) := by
                show Lz[I]? = some p.zs
                rw [HL.out.1, List.getElem?_map, List.getElem?_eq_getElem hki, ← hp]
                rfl
              obtain ⟨pa, pn, pc, pz⟩ := p
              have hcq' : w3.cell? ⟨bq, oq + I, none⟩ = some (.slice pa pn pc) := hcq
              have hpl : pz.length = pn := hokq.2.1.1
              have hpm : pn ≤ 65536 := by rw [← hpl]; exact (HG.out.1 pz (List.mem_of_getElem? HZ.out)).2
              have u7 : (I : Int) < (i : Int) := by omega
              clear hI hcq hp hokq hki vPN hb3 hown2 hv2 HCE hbE
              by_cases hpn : pn = 0
              · have u8' : ((pn : Int) == 0) = true := by simp [hpn]
                go_wp2
                go_ret
                exact ⟨rfl, hbel3⟩
              have u8' : ((pn : Int) == 0) = false := by simp [hpn]
              have u9' : ¬ (pn : Int) = 0 := by omega
              by_cases hb0 : bt = 0
              · have u9 : ((bt : Int) == 0) = true := by simp [hb0]
                go_wp2
                go_ret
                exact ⟨rfl, hbel3⟩
              have u9 : ((bt : Int) == 0) = false := by simp [hb0]
              obtain ⟨q, hq⟩ : ∃ q, q = at_ % pn := ⟨_, rfl⟩
              have hqp : q < pn := by rw [hq]; exact Nat.mod_lt _ (by omega)
              have hqI : Int.tmod (at_ : Int) (pn : Int) = (q : Int) := by rw [Int.tmod_eq_emod_of_nonneg (by omega), hq]; rfl
              have hcI := HCE3.out I hIi
              obtain ⟨PL, hPL⟩ : ∃ PL, PL = lenTo Lz (I + 1) - 1 - q := ⟨_, rfl⟩
              obtain ⟨T2, hT2⟩ : ∃ T, T = lenTo Lz (I + 1) := ⟨_, rfl⟩
              have hT2q : q + 1 ≤ T2 := by
                rw [hT2, lenTo_step HZ.out, frame_len, hpl]; omega
              have hT2l : T2 ≤ bl := by rw [hT2, HBL.out, HG.out.2]; exact lenTo_le _ _
              rw [← hT2] at hcI hPL
              have hPLI : (T2 : Int) - 1 - (q : Int) = (PL : Int) := by omega
              have hPLb : PL < bl := by omega
              have HPL : Hid (PL = lenTo Lz (I + 1) - 1 - q) := by show PL = _; rw [hPL, hT2]
              clear hq hPL hT2 HCE3
              go_wp2
              go_quiet (fail)
              have hown4 := hown3.drewN nq
              have hbel4 := below_drewN hbel3 nq
              generalize w3.drewN nq = w4 at *
              obtain ⟨c1, c2, c3⟩ := hown4.at HBL.out PL hPLb
              obtain ⟨Z, hZ⟩ : ∃ Z : Nat, (Z : Int) = B.getD PL 0 := ⟨(B.getD PL 0).toNat, by have := getD_wf hown4.2 PL; omega⟩
              have hZ2 : Z < 256 := by have := getD_wf hown4.2 PL; omega
              rw [← hZ] at c1
              have hX := u8_xor_nat Z bt hZ2 hbt
              have hXlt : Z ^^^ bt < 256 := Nat.xor_lt_two_pow (n := 8) hZ2 hbt
              have hown5 := c3 ((Z ^^^ bt : Nat) : Int) (by omega)
              have hbel5 : Below w.heap.size w (w4.setCell ⟨g, PL, none⟩ (.int .u8 ((Z ^^^ bt : Nat) : Int))) := hbel4.setCell (p := ⟨g, PL, none⟩) hgb _
              have HT : Hid (allOf (B.set PL ((Z ^^^ bt : Nat) : Int)) 0 = ends 0 (Lz.take I)) := by
                show allOf (B.set PL ((Z ^^^ bt : Nat) : Int)) 0 = ends 0 (Lz.take I)
                have h1 := hZ
                rw [HG.out.2, HPL.out] at h1
                rw [HG.out.2, HPL.out]
                exact turn_row HG.out.1 I pz HZ.out q (by rw [hpl]; exact hqp) bt hb0 hbt _ (by rw [← h1]; simp) (by omega)
              obtain ⟨Y, hY⟩ : ∃ Y, Y = B.set PL ((Z ^^^ bt : Nat) : Int) := ⟨_, rfl⟩
              rw [← hY] at hown5 HT
              have hYl : bl = Y.length := by rw [hY, List.length_set]; exact HBL.out
              have hbs5 := hown5.bs hYl
              obtain ⟨XV, hXV⟩ : ∃ X, X = ((Z ^^^ bt : Nat) : Int) := ⟨_, rfl⟩
              rw [← hXV] at hX hown5 hbel5 hbs5
              obtain ⟨w5, hw5⟩ : ∃ w5, w5 = w4.setCell ⟨g, PL, none⟩ (.int .u8 XV) := ⟨_, rfl⟩
              rw [← hw5] at hbel5 hbs5
              have hw5' := hw5.symm
              have k0 : (PL : Int) < (bl : Int) := by omega
              clear hY hXV c3 hZ hown5 hown4 hown3 hw5 hYl
              go_wp2_with fail
              refine (all_any (some ⟨g, 0, none⟩) bl bc Y w5 hbs5 (by omega) (by omega)).mono ?_
              rintro e w6 ⟨zs, v6, hzs, rfl, hrow6, hok6, hb6⟩
              have hbel6 : Below w.heap.size w w6 := hbel5.trans (hb6.mono hbel5.size)
              have hzz : zs.map Rc.zs = Lz.take I := by
                have h := congrArg (List.map Prod.snd) hzs
                rw [HT.out, ends_snd, List.map_map] at h
                exact h
              have hzl : zs.length = I := by rw [← List.length_map (f := Rc.zs), hzz, List.length_take, HL.out.2.1]; omega
              obtain ⟨x6, c6, rfl, hc6, hv6⟩ := vs_of_all hrow6 hok6
              rw [hzl]
              have HSZ6 : Hid ((zs.map Rc.piece).map Piece.zs = (ps.take I).map Piece.zs) := by
                show (zs.map Rc.piece).map Piece.zs = (ps.take I).map Piece.zs
                rw [List.map_map, List.map_take, ← HL.out.1]; exact hzz
              have HN6 : Hid (∀ p ∈ zs.map Rc.piece, p.n ≤ 1000000) := by
                intro p hp
                have h1 : p.zs ∈ Lz := by
                  have h0 : p.zs ∈ Lz.take I := by rw [← hzz]; obtain ⟨x, hx, rfl⟩ := List.mem_map.1 hp; exact List.mem_map.2 ⟨x, hx, rfl⟩
                  exact List.mem_of_mem_take h0
                have h2 : p.zs.length ≤ 65536 := (HG.out.1 _ h1).2
                have h3 := (hv6.2 p hp).2.1.1
                omega
              have HL6 : Hid (I = (zs.map Rc.piece).length) := by show I = (zs.map Rc.piece).length; rw [List.length_map, hzl]
              have vP6 := (HP.out _ hbel6).take I
              have k1 : (I : Int) ≤ (cl : Int) := by omega
              have k2 : (0 : Int) ≤ (I : Int) := by omega
              clear hzs hzz hzl hrow6 hok6 hb6 hw5' hX c1 c2
              go_wp2_with fail
              refine (sameL_yes x6 _ I c6 cl _ _ w6 HL6.out hv6 vP6 HSZ6.out (by omega) HN6.out).mono ?_
              rintro e w7 ⟨rfl, hb7⟩
              go_wp2
              go_ret
              exact ⟨rfl, hbel6.trans (hb7.mono hbel6.size)⟩
            · have hNp : 0 < N := by omega
              have hlt0 : lenTo Lz N ≤ K := by
                obtain ⟨M, hM⟩ : ∃ M, M + 1 = N := ⟨N - 1, by omega⟩
                have := HNA.out M (by omega)
                rwa [hM] at this
              have hA : allOf (B.take K) 0 = ends 0 (Lz.take N) := by
                rw [HG.out.2]; exact cut_row HG.out.1 K N (by rw [HL.out.2.1]; omega) hlt0 (by rw [HL.out.2.1]; exact HEND.out)
              have hxz : xs.map Rc.zs = Lz.take N := by
                have h := congrArg (List.map Prod.snd) HXS.out
                rw [hA, ends_snd, List.map_map] at h
                exact h
              have hxN : N = xl := by
                symm
                rw [HXL.out, ← List.length_map (f := Rc.zs), hxz, List.length_take, HL.out.2.1]; omega
              have hEN : E = lenTo Lz N := by rw [HE.out, hA, endOf_take]
              have HSZ : Hid ((xs.map Rc.piece).map Piece.zs = (ps.take N).map Piece.zs) := by
                show (xs.map Rc.piece).map Piece.zs = (ps.take N).map Piece.zs
                rw [List.map_map, List.map_take, ← HL.out.1]; exact hxz
              have HXN : Hid (∀ p ∈ xs.map Rc.piece, p.n ≤ 1000000) := by
                intro p hp
                have h1 : p.zs ∈ Lz := by
                  have h0 : p.zs ∈ Lz.take N := by rw [← hxz]; obtain ⟨x, hx, rfl⟩ := List.mem_map.1 hp; exact List.mem_map.2 ⟨x, hx, rfl⟩
                  exact List.mem_of_mem_take h0
                have h2 : p.zs.length ≤ 65536 := (HG.out.1 _ h1).2
                have h3 := (hv2.2 p hp).2.1.1
                omega
              have HXL2 : Hid (N = (xs.map Rc.piece).length) := by show N = (xs.map Rc.piece).length; rw [List.length_map, ← HXL.out]; exact hxN
              subst hxN
              have vPN := (HP.out _ hbel2).take N
              have u3 : (N : Int) ≤ (cl : Int) := by omega
              have u4 : (0 : Int) ≤ (N : Int) := by omega
              have u10 : (0 : Int) < (N : Int) := by omega
              obtain ⟨M, hM⟩ : ∃ M, M + 1 = N := ⟨N - 1, by omega⟩
              have u11 : (N : Int) - 1 = (M : Int) := by omega
              have hcM := HCE.out M (by omega)
              rw [hM, ← hEN] at hcM
              have u12' : (M : Int) < (i : Int) := by omega
              have u13' : ¬ (N : Int) = 0 := by omega
              have u14' : ((N : Int) == 0) = false := by simp; omega
              clear hEN hM
              clear hA hxz hlt0 HXS HE
              go_wp2_with fail
              refine (sameL_yes x2 la N xc cl _ _ w2 HXL2.out hv2 vPN HSZ.out (by omega) HXN.out).mono ?_
              rintro e w3 ⟨rfl, hb3⟩
              have hbel3 : Below w.heap.size w w3 := hbel2.trans (hb3.mono hbel2.size)
              have hown3 := hown2.below hb3 (Nat.le_refl _)
              have HCE3 : Hid (∀ j, j < i → w3.cell? ⟨be, oe + j, none⟩ = some (.int .i64 (lenTo Lz (j + 1) : Int))) := fun j hj => (hb3.cell (p := ⟨be, oe + j, none⟩) hbE).trans (HCE.out j hj)
              have vP3 := HP.out _ hbel3
              obtain ⟨I, hI⟩ : ∃ I, I = at_ % i := ⟨_, rfl⟩
              have hIi : I < i := by rw [hI]; exact Nat.mod_lt _ hi0
              have hII : Int.tmod (at_ : Int) (i : Int) = (I : Int) := by rw [Int.tmod_eq_emod_of_nonneg (by omega), hI]; rfl
              have u5 : ((i : Int) == 0) = false := by simp; omega
              have u6 : ¬ (i : Int) = 0 := by omega
              have hki : I < ps.length := by rw [HL.out.2.2.2]; exact hIi
              obtain ⟨bq, oq, rfl, hblq, hcq, hokq⟩ := vP3.at hki
              obtain ⟨p, hp⟩ : ∃ p, p = ps[I]'hki := ⟨_, rfl⟩
              rw [← hp] at hcq hokq
              have HZ : Hid (Lz[I]? = some p.zs) := by
                show Lz[I]? = some p.zs
                rw [HL.out.1, List.getElem?_map, List.getElem?_eq_getElem hki, ← hp]
                rfl
              obtain ⟨pa, pn, pc, pz⟩ := p
              have hcq' : w3.cell? ⟨bq, oq + I, none⟩ = some (.slice pa pn pc) := hcq
              have hpl : pz.length = pn := hokq.2.1.1
              have hpm : pn ≤ 65536 := by rw [← hpl]; exact (HG.out.1 pz (List.mem_of_getElem? HZ.out)).2
              have u7 : (I : Int) < (i : Int) := by omega
              clear hI hcq hp hokq hki vPN hb3 hown2 hv2 HCE hbE
              by_cases hpn : pn = 0
              · have u8' : ((pn : Int) == 0) = true := by simp [hpn]
                go_wp2
                go_ret
                exact ⟨rfl, hbel3⟩
              have u8' : ((pn : Int) == 0) = false := by simp [hpn]
              have u9' : ¬ (pn : Int) = 0 := by omega
              by_cases hb0 : bt = 0
              · have u9 : ((bt : Int) == 0) = true := by simp [hb0]
                go_wp2
                go_ret
                exact ⟨rfl, hbel3⟩
              have u9 : ((bt : Int) == 0) = false := by simp [hb0]
              obtain ⟨q, hq⟩ : ∃ q, q = at_ % pn := ⟨_, rfl⟩
              have hqp : q < pn := by rw [hq]; exact Nat.mod_lt _ (by omega)
              have hqI : Int.tmod (at_ : Int) (pn : Int) = (q : Int) := by rw [Int.tmod_eq_emod_of_nonneg (by omega), hq]; rfl
              have hcI := HCE3.out I hIi
              obtain ⟨PL, hPL⟩ : ∃ PL, PL = lenTo Lz (I + 1) - 1 - q := ⟨_, rfl⟩
              obtain ⟨T2, hT2⟩ : ∃ T, T = lenTo Lz (I + 1) := ⟨_, rfl⟩
              have hT2q : q + 1 ≤ T2 := by
                rw [hT2, lenTo_step HZ.out, frame_len, hpl]; omega
              have hT2l : T2 ≤ bl := by rw [hT2, HBL.out, HG.out.2]; exact lenTo_le _ _
              rw [← hT2] at hcI hPL
              have hPLI : (T2 : Int) - 1 - (q : Int) = (PL : Int) := by omega
              have hPLb : PL < bl := by omega
              have HPL : Hid (PL = lenTo Lz (I + 1) - 1 - q) := by show PL = _; rw [hPL, hT2]
              clear hq hPL hT2 HCE3
              go_wp2
              go_quiet (fail)
              have hown4 := hown3.drewN nq
              have hbel4 := below_drewN hbel3 nq
              generalize w3.drewN nq = w4 at *
              obtain ⟨c1, c2, c3⟩ := hown4.at HBL.out PL hPLb
              obtain ⟨Z, hZ⟩ : ∃ Z : Nat, (Z : Int) = B.getD PL 0 := ⟨(B.getD PL 0).toNat, by have := getD_wf hown4.2 PL; omega⟩
              have hZ2 : Z < 256 := by have := getD_wf hown4.2 PL; omega
              rw [← hZ] at c1
              have hX := u8_xor_nat Z bt hZ2 hbt
              have hXlt : Z ^^^ bt < 256 := Nat.xor_lt_two_pow (n := 8) hZ2 hbt
              have hown5 := c3 ((Z ^^^ bt : Nat) : Int) (by omega)
              have hbel5 : Below w.heap.size w (w4.setCell ⟨g, PL, none⟩ (.int .u8 ((Z ^^^ bt : Nat) : Int))) := hbel4.setCell (p := ⟨g, PL, none⟩) hgb _
              have HT : Hid (allOf (B.set PL ((Z ^^^ bt : Nat) : Int)) 0 = ends 0 (Lz.take I)) := by
                show allOf (B.set PL ((Z ^^^ bt : Nat) : Int)) 0 = ends 0 (Lz.take I)
                have h1 := hZ
                rw [HG.out.2, HPL.out] at h1
                rw [HG.out.2, HPL.out]
                exact turn_row HG.out.1 I pz HZ.out q (by rw [hpl]; exact hqp) bt hb0 hbt _ (by rw [← h1]; simp) (by omega)
              obtain ⟨Y, hY⟩ : ∃ Y, Y = B.set PL ((Z ^^^ bt : Nat) : Int) := ⟨_, rfl⟩
              rw [← hY] at hown5 HT
              have hYl : bl = Y.length := by rw [hY, List.length_set]; exact HBL.out
              have hbs5 := hown5.bs hYl
              obtain ⟨XV, hXV⟩ : ∃ X, X = ((Z ^^^ bt : Nat) : Int) := ⟨_, rfl⟩
              rw [← hXV] at hX hown5 hbel5 hbs5
              obtain ⟨w5, hw5⟩ : ∃ w5, w5 = w4.setCell ⟨g, PL, none⟩ (.int .u8 XV) := ⟨_, rfl⟩
              rw [← hw5] at hbel5 hbs5
              have hw5' := hw5.symm
              have k0 : (PL : Int) < (bl : Int) := by omega
              clear hY hXV c3 hZ hown5 hown4 hown3 hw5 hYl
              go_wp2_with fail
              refine (all_any (some ⟨g, 0, none⟩) bl bc Y w5 hbs5 (by omega) (by omega)).mono ?_
              rintro e w6 ⟨zs, v6, hzs, rfl, hrow6, hok6, hb6⟩
              have hbel6 : Below w.heap.size w w6 := hbel5.trans (hb6.mono hbel5.size)
              have hzz : zs.map Rc.zs = Lz.take I := by
                have h := congrArg (List.map Prod.snd) hzs
                rw [HT.out, ends_snd, List.map_map] at h
                exact h
              have hzl : zs.length = I := by rw [← List.length_map (f := Rc.zs), hzz, List.length_take, HL.out.2.1]; omega
              obtain ⟨x6, c6, rfl, hc6, hv6⟩ := vs_of_all hrow6 hok6
              rw [hzl]
              have HSZ6 : Hid ((zs.map Rc.piece).map Piece.zs = (ps.take I).map Piece.zs) := by
                show (zs.map Rc.piece).map Piece.zs = (ps.take I).map Piece.zs
                rw [List.map_map, List.map_take, ← HL.out.1]; exact hzz
              have HN6 : Hid (∀ p ∈ zs.map Rc.piece, p.n ≤ 1000000) := by
                intro p hp
                have h1 : p.zs ∈ Lz := by
                  have h0 : p.zs ∈ Lz.take I := by rw [← hzz]; obtain ⟨x, hx, rfl⟩ := List.mem_map.1 hp; exact List.mem_map.2 ⟨x, hx, rfl⟩
                  exact List.mem_of_mem_take h0
                have h2 : p.zs.length ≤ 65536 := (HG.out.1 _ h1).2
                have h3 := (hv6.2 p hp).2.1.1
                omega
              have HL6 : Hid (I = (zs.map Rc.piece).length) := by show I = (zs.map Rc.piece).length; rw [List.length_map, hzl]
              have vP6 := (HP.out _ hbel6).take I
              have k1 : (I : Int) ≤ (cl : Int) := by omega
              have k2 : (0 : Int) ≤ (I : Int) := by omega
              clear hzs hzz hzl hrow6 hok6 hb6 hw5' hX c1 c2
              go_wp2_with fail
              refine (sameL_yes x6 _ I c6 cl _ _ w6 HL6.out hv6 vP6 HSZ6.out (by omega) HN6.out).mono ?_
              rintro e w7 ⟨rfl, hb7⟩
              go_wp2
              go_ret
              exact ⟨rfl, hbel6.trans (hb7.mono hbel6.size)⟩
        · obtain rfl : N = i := by omega
          have u1 : ¬ (N : Int) < (N : Int) := by omega
          have HEND : Hid (N = N ∨ K < lenTo Lz (N + 1)) := .inl rfl
          have hNp : 0 < N := hi0
          have hlt0 : lenTo Lz N ≤ K := by
            obtain ⟨M, hM⟩ : ∃ M, M + 1 = N := ⟨N - 1, by omega⟩
            have := HNA.out M (by omega)
            rwa [hM] at this
          have hA : allOf (B.take K) 0 = ends 0 (Lz.take N) := by
            rw [HG.out.2]; exact cut_row HG.out.1 K N (by rw [HL.out.2.1]; omega) hlt0 (by rw [HL.out.2.1]; exact HEND.out)
          have hxz : xs.map Rc.zs = Lz.take N := by
            have h := congrArg (List.map Prod.snd) HXS.out
            rw [hA, ends_snd, List.map_map] at h
            exact h
          have hxN : N = xl := by
            symm
            rw [HXL.out, ← List.length_map (f := Rc.zs), hxz, List.length_take, HL.out.2.1]; omega
          have hEN : E = lenTo Lz N := by rw [HE.out, hA, endOf_take]
          have HSZ : Hid ((xs.map Rc.piece).map Piece.zs = (ps.take N).map Piece.zs) := by
            show (xs.map Rc.piece).map Piece.zs = (ps.take N).map Piece.zs
            rw [List.map_map, List.map_take, ← HL.out.1]; exact hxz
          have HXN : Hid (∀ p ∈ xs.map Rc.piece, p.n ≤ 1000000) := by
            intro p hp
            have h1 : p.zs ∈ Lz := by
              have h0 : p.zs ∈ Lz.take N := by rw [← hxz]; obtain ⟨x, hx, rfl⟩ := List.mem_map.1 hp; exact List.mem_map.2 ⟨x, hx, rfl⟩
              exact List.mem_of_mem_take h0
            have h2 : p.zs.length ≤ 65536 := (HG.out.1 _ h1).2
            have h3 := (hv2.2 p hp).2.1.1
            omega
          have HXL2 : Hid (N = (xs.map Rc.piece).length) := by show N = (xs.map Rc.piece).length; rw [List.length_map, ← HXL.out]; exact hxN
          subst hxN
          have vPN := (HP.out _ hbel2).take N
          have u3 : (N : Int) ≤ (cl : Int) := by omega
          have u4 : (0 : Int) ≤ (N : Int) := by omega
          have u10 : (0 : Int) < (N : Int) := by omega
          obtain ⟨M, hM⟩ : ∃ M, M + 1 = N := ⟨N - 1, by omega⟩
          have u11 : (N : Int) - 1 = (M : Int) := by omega
          have hcM := HCE.out M (by omega)
          rw [hM, ← hEN] at hcM
          have u12' : (M : Int) < (N : Int) := by omega
          have u13' : ¬ (N : Int) = 0 := by omega
          have u14' : ((N : Int) == 0) = false := by simp; omega
          clear hEN hM
          clear hA hxz hlt0 HXS HE
          go_wp2_with fail
          refine (sameL_yes x2 la N xc cl _ _ w2 HXL2.out hv2 vPN HSZ.out (by omega) HXN.out).mono ?_
          rintro e w3 ⟨rfl, hb3⟩
          have hbel3 : Below w.heap.size w w3 := hbel2.trans (hb3.mono hbel2.size)
          have hown3 := hown2.below hb3 (Nat.le_refl _)
          have HCE3 : Hid (∀ j, j < N → w3.cell? ⟨be, oe + j, none⟩ = some (.int .i64 (lenTo Lz (j + 1) : Int))) := fun j hj => (hb3.cell (p := ⟨be, oe + j, none⟩) hbE).trans (HCE.out j hj)
          have vP3 := HP.out _ hbel3
          obtain ⟨I, hI⟩ : ∃ I, I = at_ % N := ⟨_, rfl⟩
          have hIi : I < N := by rw [hI]; exact Nat.mod_lt _ hi0
          have hII : Int.tmod (at_ : Int) (N : Int) = (I : Int) := by rw [Int.tmod_eq_emod_of_nonneg (by omega), hI]; rfl
          have u5 : ((N : Int) == 0) = false := by simp; omega
          have u6 : ¬ (N : Int) = 0 := by omega
          have hki : I < ps.length := by rw [HL.out.2.2.2]; exact hIi
          obtain ⟨bq, oq, rfl, hblq, hcq, hokq⟩ := vP3.at hki
          obtain ⟨p, hp⟩ : ∃ p, p = ps[I]'hki := ⟨_, rfl⟩
          rw [← hp] at hcq hokq
          have HZ : Hid (Lz[I]? = some p.zs) := by
            show Lz[I]? = some p.zs
            rw [HL.out.1, List.getElem?_map, List.getElem?_eq_getElem hki, ← hp]
            rfl
          obtain ⟨pa, pn, pc, pz⟩ := p
          have hcq' : w3.cell? ⟨bq, oq + I, none⟩ = some (.slice pa pn pc) := hcq
          have hpl : pz.length = pn := hokq.2.1.1
          have hpm : pn ≤ 65536 := by rw [← hpl]; exact (HG.out.1 pz (List.mem_of_getElem? HZ.out)).2
          have u7 : (I : Int) < (N : Int) := by omega
          clear hI hcq hp hokq hki vPN hb3 hown2 hv2 HCE hbE
          by_cases hpn : pn = 0
          · have u8' : ((pn : Int) == 0) = true := by simp [hpn]
            go_wp2
            go_ret
            exact ⟨rfl, hbel3⟩
          have u8' : ((pn : Int) == 0) = false := by simp [hpn]
          have u9' : ¬ (pn : Int) = 0 := by omega
          by_cases hb0 : bt = 0
          · have u9 : ((bt : Int) == 0) = true := by simp [hb0]
            go_wp2
            go_ret
            exact ⟨rfl, hbel3⟩
          have u9 : ((bt : Int) == 0) = false := by simp [hb0]
          obtain ⟨q, hq⟩ : ∃ q, q = at_ % pn := ⟨_, rfl⟩
          have hqp : q < pn := by rw [hq]; exact Nat.mod_lt _ (by omega)
          have hqI : Int.tmod (at_ : Int) (pn : Int) = (q : Int) := by rw [Int.tmod_eq_emod_of_nonneg (by omega), hq]; rfl
          have hcI := HCE3.out I hIi
          obtain ⟨PL, hPL⟩ : ∃ PL, PL = lenTo Lz (I + 1) - 1 - q := ⟨_, rfl⟩
          obtain ⟨T2, hT2⟩ : ∃ T, T = lenTo Lz (I + 1) := ⟨_, rfl⟩
          have hT2q : q + 1 ≤ T2 := by
            rw [hT2, lenTo_step HZ.out, frame_len, hpl]; omega
          have hT2l : T2 ≤ bl := by rw [hT2, HBL.out, HG.out.2]; exact lenTo_le _ _
          rw [← hT2] at hcI hPL
          have hPLI : (T2 : Int) - 1 - (q : Int) = (PL : Int) := by omega
          have hPLb : PL < bl := by omega
          have HPL : Hid (PL = lenTo Lz (I + 1) - 1 - q) := by show PL = _; rw [hPL, hT2]
          clear hq hPL hT2 HCE3
          go_wp2
          go_quiet (fail)
          have hown4 := hown3.drewN nq
          have hbel4 := below_drewN hbel3 nq
          generalize w3.drewN nq = w4 at *
          obtain ⟨c1, c2, c3⟩ := hown4.at HBL.out PL hPLb
          obtain ⟨Z, hZ⟩ : ∃ Z : Nat, (Z : Int) = B.getD PL 0 := ⟨(B.getD PL 0).toNat, by have := getD_wf hown4.2 PL; omega⟩
          have hZ2 : Z < 256 := by have := getD_wf hown4.2 PL; omega
          rw [← hZ] at c1
          have hX := u8_xor_nat Z bt hZ2 hbt
          have hXlt : Z ^^^ bt < 256 := Nat.xor_lt_two_pow (n := 8) hZ2 hbt
          have hown5 := c3 ((Z ^^^ bt : Nat) : Int) (by omega)
          have hbel5 : Below w.heap.size w (w4.setCell ⟨g, PL, none⟩ (.int .u8 ((Z ^^^ bt : Nat) : Int))) := hbel4.setCell (p := ⟨g, PL, none⟩) hgb _
          have HT : Hid (allOf (B.set PL ((Z ^^^ bt : Nat) : Int)) 0 = ends 0 (Lz.take I)) := by
            show allOf (B.set PL ((Z ^^^ bt : Nat) : Int)) 0 = ends 0 (Lz.take I)
            have h1 := hZ
            rw [HG.out.2, HPL.out] at h1
            rw [HG.out.2, HPL.out]
            exact turn_row HG.out.1 I pz HZ.out q (by rw [hpl]; exact hqp) bt hb0 hbt _ (by rw [← h1]; simp) (by omega)
          obtain ⟨Y, hY⟩ : ∃ Y, Y = B.set PL ((Z ^^^ bt : Nat) : Int) := ⟨_, rfl⟩
          rw [← hY] at hown5 HT
          have hYl : bl = Y.length := by rw [hY, List.length_set]; exact HBL.out
          have hbs5 := hown5.bs hYl
          obtain ⟨XV, hXV⟩ : ∃ X, X = ((Z ^^^ bt : Nat) : Int) := ⟨_, rfl⟩
          rw [← hXV] at hX hown5 hbel5 hbs5
          obtain ⟨w5, hw5⟩ : ∃ w5, w5 = w4.setCell ⟨g, PL, none⟩ (.int .u8 XV) := ⟨_, rfl⟩
          rw [← hw5] at hbel5 hbs5
          have hw5' := hw5.symm
          have k0 : (PL : Int) < (bl : Int) := by omega
          clear hY hXV c3 hZ hown5 hown4 hown3 hw5 hYl
          go_wp2_with fail
          refine (all_any (some ⟨g, 0, none⟩) bl bc Y w5 hbs5 (by omega) (by omega)).mono ?_
          rintro e w6 ⟨zs, v6, hzs, rfl, hrow6, hok6, hb6⟩
          have hbel6 : Below w.heap.size w w6 := hbel5.trans (hb6.mono hbel5.size)
          have hzz : zs.map Rc.zs = Lz.take I := by
            have h := congrArg (List.map Prod.snd) hzs
            rw [HT.out, ends_snd, List.map_map] at h
            exact h
          have hzl : zs.length = I := by rw [← List.length_map (f := Rc.zs), hzz, List.length_take, HL.out.2.1]; omega
          obtain ⟨x6, c6, rfl, hc6, hv6⟩ := vs_of_all hrow6 hok6
          rw [hzl]
          have HSZ6 : Hid ((zs.map Rc.piece).map Piece.zs = (ps.take I).map Piece.zs) := by
            show (zs.map Rc.piece).map Piece.zs = (ps.take I).map Piece.zs
            rw [List.map_map, List.map_take, ← HL.out.1]; exact hzz
          have HN6 : Hid (∀ p ∈ zs.map Rc.piece, p.n ≤ 1000000) := by
            intro p hp
            have h1 : p.zs ∈ Lz := by
              have h0 : p.zs ∈ Lz.take I := by rw [← hzz]; obtain ⟨x, hx, rfl⟩ := List.mem_map.1 hp; exact List.mem_map.2 ⟨x, hx, rfl⟩
              exact List.mem_of_mem_take h0
            have h2 : p.zs.length ≤ 65536 := (HG.out.1 _ h1).2
            have h3 := (hv6.2 p hp).2.1.1
            omega
          have HL6 : Hid (I = (zs.map Rc.piece).length) := by show I = (zs.map Rc.piece).length; rw [List.length_map, hzl]
          have vP6 := (HP.out _ hbel6).take I
          have k1 : (I : Int) ≤ (cl : Int) := by omega
          have k2 : (0 : Int) ≤ (I : Int) := by omega
          clear hzs hzz hzl hrow6 hok6 hb6 hw5' hX c1 c2
          go_wp2_with fail
          refine (sameL_yes x6 _ I c6 cl _ _ w6 HL6.out hv6 vP6 HSZ6.out (by omega) HN6.out).mono ?_
          rintro e w7 ⟨rfl, hb7⟩
          go_wp2
          go_ret
          exact ⟨rfl, hbel6.trans (hb7.mono hbel6.size)⟩
end Go.Proofs.Ytfcckekinlobjaa
