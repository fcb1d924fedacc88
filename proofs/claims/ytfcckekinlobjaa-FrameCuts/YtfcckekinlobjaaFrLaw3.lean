/-
  The walk of the law FrameRows.
-/
import Derived.Test.YtfcckekinlobjaaFrSame
import Derived.Test.YtfcckekinlobjaaFrLaw1
namespace Go.Proofs.Ytfcckekinlobjaa
open Go.RowKit
set_option linter.unusedVariables false

theorem ownsRow_new0 (w : World) (base : Nat) (hb : base ≤ w.heap.size) : (w.alloc (.cells #[] 22)).ownsRow base 22 1 (.slice (some ⟨w.heap.size, 0, none⟩) 0 0) 0 [] :=
  World.ownsRow_made w #[] 0 hb (by decide) rfl

theorem framesOf_le {l : List (List Int)} {b : Nat} (h : ∀ r ∈ l, r.length ≤ b) : (framesOf l).length ≤ l.length * (14 + b) := by
  induction l with
  | nil => simp [framesOf]
  | cons r l ih =>
    have h1 := ih fun x hx => h x (List.mem_cons_of_mem _ hx)
    have h2 := h r List.mem_cons_self
    have h3 := (ubytes_le r.length).2
    rw [framesOf, List.length_append, frame_len, List.length_cons, Nat.succ_mul]
    omega

theorem vs_good {w : World} {a : Option Addr} {ps : List Piece} (h : Vs w a ps) : ∀ r ∈ ps.map Piece.zs, Wf r := by
  intro r hr
  obtain ⟨p, hp, rfl⟩ := List.mem_map.1 hr
  exact (h.2 p hp).2.1.2.1

theorem cells_v (ps : List Piece) : ∀ u ∈ ps.map Piece.v, u.oneCell' = true := by
  intro u hu
  obtain ⟨p, _, rfl⟩ := List.mem_map.1 hu
  rfl

theorem framesOf_snoc (l : List (List Int)) (r : List Int) : framesOf (l ++ [r]) = framesOf l ++ frameOf r := by
  rw [framesOf_append]; simp [framesOf]

/-- 'append(v, x...)', v the call's own row of slices of bytes, x any such row (nil too). -/
theorem wpList_append_vs (w : World) {ops : Array Oper} {rest : List Oper} {o : Oper} {a : Act} {Q : Exit → Act → World → Prop} (hgd : Region.wanted o (yielded ops a.tmps) = true) (s x : Operand)
    (ho : o.op = .call { callee := .builtin .append, args := #[s, x], argTypes := #[33, 33] })
    (base : Nat) (v : Value) (k : Nat) (xs : List Piece) (hs : a.eval s = v) (hown : w.ownsRow base 22 1 v k (xs.map Piece.v))
    (ao : Option Addr) (m c : Nat) (ys : List Piece) (hx : a.eval x = .slice ao m c) (hnil : ao = none → m = 0 ∧ c = 0) (hb : Vs w ao ys) (hm : ys.length = m) (hlen : k + m ≤ 1000) (hbase : base ≤ w.heap.size)
    (h : ∀ v' w', w'.ownsRow base 22 1 v' (k + m) ((xs ++ ys).map Piece.v) → w.grownBy w' v.ownBlock → wpList Try.prog ops Q rest (a.put o.dst v') w') : wpList Try.prog ops Q (o :: rest) a w := by
  refine wpList_append_cells w hgd s x 33 ho base 22 (.slice none 0 0) 1 24 Try.underlying33 info_bs rfl (by decide) v k (xs.map Piece.v) hs hown ao m c (ys.map Piece.v) hx hnil hb.1 (by rw [List.length_map, hm, Nat.mul_one]) (cells_v ys) (by unfold maxLen; omega) (by omega) hbase ?_
  intro v' w' h1 h2
  exact h v' w' (by rw [List.map_append]; exact h1) h2

set_option maxRecDepth 100000 in
set_option maxHeartbeats 4000000 in
theorem frameRows_walk (la lb rc : Option Addr) (nl nm cl cm n c : Nat) (ps qs : List Piece) (zs : List Int) (w : World) (hpl : ps.length = nl) (hql : qs.length = nm) (hcl : nl ≤ cl) (hcm : nm ≤ cm) (hla : la = none → nl = 0 ∧ cl = 0) (hlb : lb = none → nm = 0 ∧ cm = 0)
    (hP : Vs w la ps) (hQ : Vs w lb qs) (hR : Piece.ok w ⟨rc, n, c, zs⟩) (hnl : nl ≤ maxLen) (hnm : nm ≤ maxLen) :
    Calls Try.prog 5 #[.slice la nl cl, .slice lb nm cm, .slice rc n c] w fun e w' => e = .returned (.bool true) ∧ Below w.heap.size w w' := by
  have hnm' : n ≤ maxLen := hR.2.2.1
  unfold maxLen at hnl hnm hnm'
  by_cases h1 : 12 < nl
  · have t1 : (12 : Int) < (nl : Int) := by omega
    go_enter Try.func5, Try.ntmps5
    go_wp2_with fail
    refine (alive_any _).mono ?_
    rintro e w1 ⟨rfl, hb1⟩
    go_wp2
    go_ret
    exact ⟨rfl, hb1⟩
  have t1 : ¬ (12 : Int) < (nl : Int) := by omega
  by_cases h2 : 12 < nm
  · have t2 : (12 : Int) < (nm : Int) := by omega
    go_enter Try.func5, Try.ntmps5
    go_wp2_with fail
    refine (alive_any _).mono ?_
    rintro e w1 ⟨rfl, hb1⟩
    go_wp2
    go_ret
    exact ⟨rfl, hb1⟩
  have t2 : ¬ (12 : Int) < (nm : Int) := by omega
  by_cases h3 : 100 < n
  · have t3 : (100 : Int) < (n : Int) := by omega
    go_enter Try.func5, Try.ntmps5
    go_wp2_with fail
    refine (alive_any _).mono ?_
    rintro e w1 ⟨rfl, hb1⟩
    go_wp2
    go_ret
    exact ⟨rfl, hb1⟩
  have t3 : ¬ (100 : Int) < (n : Int) := by omega
  obtain ⟨Lz, hLz⟩ : ∃ L, L = ps.map Piece.zs := ⟨_, rfl⟩
  obtain ⟨Mz, hMz⟩ : ∃ L, L = qs.map Piece.zs := ⟨_, rfl⟩
  have HL : Hid (Lz = ps.map Piece.zs ∧ Lz.length = nl ∧ (∀ r ∈ Lz, Wf r) ∧ ps.length = nl) := ⟨hLz, by rw [hLz, List.length_map, hpl], by rw [hLz]; exact vs_good hP, hpl⟩
  have HM : Hid (Mz = qs.map Piece.zs ∧ Mz.length = nm ∧ (∀ r ∈ Mz, Wf r) ∧ qs.length = nm) := ⟨hMz, by rw [hMz, List.length_map, hql], by rw [hMz]; exact vs_good hQ, hql⟩
  have HPQ : Hid (∀ w', Below w.heap.size w w' → Vs w' la ps ∧ Vs w' lb qs ∧ Piece.ok w' ⟨rc, n, c, zs⟩) := fun w' hb => ⟨hP.below hb (Nat.le_refl _), hQ.below hb (Nat.le_refl _), hR.below hb (Nat.le_refl _)⟩
  have hk1 : nl ≤ 12 := by omega
  have hk2 : nm ≤ 12 := by omega
  have hk3 : n ≤ 100 := by omega
  clear hLz hMz hpl hql hP hQ hR h1 h2 h3 hnl hnm hnm'
  go_enter Try.func5, Try.ntmps5
  go_wp2_with fail
  refine (alive_any _).mono ?_
  rintro e w1 ⟨rfl, hb1⟩
  go_wp2
  go_loopw [7, 8, 9] (fun av bv iv wr => ∃ (i : Nat) (fa fb : Option Addr) (na nb ca cb : Nat) (A B : List Int), iv = .int .i64 (i : Int) ∧ i ≤ nl + nm ∧ av = .slice fa na ca ∧ bv = .slice fb nb cb ∧ Piece.ok wr ⟨fa, na, ca, A⟩ ∧ Piece.ok wr ⟨fb, nb, cb, B⟩ ∧ A = framesOf (Lz.take i) ∧ B = framesOf (Mz.take (i - nl)) ∧ (∀ r ∈ (Lz ++ Mz).take i, r.length ≤ 100) ∧ Below w.heap.size w wr) (fun _ _ iv _ => nl + nm - (intOf iv).toNat)
  case atStart => exact ⟨0, none, none, 0, 0, 0, 0, [], [], rfl, by omega, rfl, rfl, pnil_ok _, pnil_ok _, rfl, by simp [framesOf], by simp, hb1⟩
  case round =>
    obtain ⟨i, fa, fb, na, nb, ca, cb, A, B, rfl, hi, rfl, rfl, okA, okB, hA, hB, hlen, hbel⟩ := hrel
    have HA : Hid (A = framesOf (Lz.take i)) := hA
    have HB : Hid (B = framesOf (Mz.take (i - nl))) := hB
    have HLEN : Hid (∀ r ∈ (Lz ++ Mz).take i, r.length ≤ 100) := hlen
    have hna : na ≤ 3000 := by
      have h1 : A.length = na := okA.2.1.1
      have h2 := framesOf_le (l := Lz.take i) (b := 100) (fun r hr => hlen r (by rw [List.take_append]; exact List.mem_append_left _ hr))
      have h3 : (Lz.take i).length ≤ 12 := by rw [List.length_take, HL.out.2.1]; omega
      rw [← hA, h1] at h2
      have h4 : (Lz.take i).length * 114 ≤ 12 * 114 := Nat.mul_le_mul_right _ h3
      omega
    have hnb : nb ≤ 3000 := by
      have h1 : B.length = nb := okB.2.1.1
      have h2 := framesOf_le (l := Mz.take (i - nl)) (b := 100) (fun r hr => hlen r (by rw [List.take_append, HL.out.2.1]; exact List.mem_append_right _ hr))
      have h3 : (Mz.take (i - nl)).length ≤ 12 := by rw [List.length_take, HM.out.2.1]; omega
      rw [← hB, h1] at h2
      have h4 : (Mz.take (i - nl)).length * 114 ≤ 12 * 114 := Nat.mul_le_mul_right _ h3
      omega
    clear hA hB hlen hb1
    by_cases hlt : i < nl + nm
    · have tlt : (i : Int) < (nl : Int) + (nm : Int) := by omega
      obtain ⟨vP, vQ, _⟩ := HPQ.out _ hbel
      have hz := hbel.size
      go_wp2_with (at_builtin; refine wpList_append_vs _ rfl _ _ rfl wr.heap.size _ 0 [] rfl (ownsRow_new0 wr _ (Nat.le_refl _)) la nl cl ps rfl hla (vP.below ((Below.refl wr.heap.size wr).alloc (Nat.le_refl _) _) (Nat.le_refl _)) HL.out.2.2.2 (by omega) (by simp) ?_)
      intro v2 w2 ho2 hg2
      have hb2 : Below wr.heap.size wr w2 := ((Below.refl _ _).alloc (Nat.le_refl _) _).trans (below_grown (ownsRow_new0 wr _ (Nat.le_refl _)) hg2 (by simp))
      try rw [Nat.zero_add] at ho2
      try rw [List.nil_append] at ho2
      have hz2 := hb2.size
      clear hg2
      go_wp2_with (at_builtin; refine wpList_append_vs _ rfl _ _ rfl wr.heap.size _ nl ps rfl ho2 lb nm cm qs rfl hlb (vQ.below hb2 (Nat.le_refl _)) HM.out.2.2.2 (by omega) hz2 ?_)
      intro v3 w3 ho3 hg3
      have hb3 : Below wr.heap.size wr w3 := hb2.trans (below_grown ho2 hg3 hz2)
      obtain ⟨a3, c3, rfl, hc3, _, _, hcs3⟩ := ownsRow_cs ho3
      have hbel3 : Below w.heap.size w w3 := hbel.trans (hb3.mono hz)
      have vPQ : Vs w3 a3 (ps ++ qs) := ⟨by rw [List.map_append]; exact hcs3, fun p hp => by
        obtain ⟨vP', vQ', _⟩ := HPQ.out _ hbel3
        exact (List.mem_append.1 hp).elim (vP'.2 p) (vQ'.2 p)⟩
      have hki : i < (ps ++ qs).length := by rw [List.length_append, HL.out.2.2.2, HM.out.2.2.2]; exact hlt
      obtain ⟨b3, o3, rfl, hblk, hcell, hok⟩ := vPQ.at hki
      obtain ⟨p, hp⟩ : ∃ p, p = (ps ++ qs)[i]'hki := ⟨_, rfl⟩
      rw [← hp] at hcell hok
      have HZ : Hid ((Lz ++ Mz)[i]? = some p.zs) := by
        show (Lz ++ Mz)[i]? = some p.zs
        rw [HL.out.1, HM.out.1, ← List.map_append, List.getElem?_map, List.getElem?_eq_getElem hki, ← hp]
        rfl
      obtain ⟨pa, pn, pc, pz⟩ := p
      have hcell' : w3.cell? ⟨b3, o3 + i, none⟩ = some (.slice pa pn pc) := hcell
      have hpl : pz.length = pn := hok.2.1.1
      have okA3 := okA.below hb3 (Nat.le_refl _)
      have okB3 := okB.below hb3 (Nat.le_refl _)
      clear hcell hp hcs3 ho3 ho2 hg3 hb2 hz2 vPQ hki okA okB
      have ti0 : (i : Int) < (nl : Int) + (nm : Int) := tlt
      by_cases hp100 : 100 < pn
      · have tp : (100 : Int) < (pn : Int) := by omega
        go_wp2
        go_ret
        exact ⟨rfl, hbel3⟩
      · have tp : ¬ (100 : Int) < (pn : Int) := by omega
        have hall : ∀ r ∈ (Lz ++ Mz).take (i + 1), r.length ≤ 100 := by
          intro r hr
          rw [List.take_add_one, HZ.out] at hr
          rcases List.mem_append.1 hr with hr | hr
          · exact HLEN.out r hr
          · have : r = pz := by simpa using hr
            rw [this, hpl]; omega
        have HALL : Hid (∀ r ∈ (Lz ++ Mz).take (i + 1), r.length ≤ 100) := hall
        clear hall
        by_cases hil : i < nl
        · have til : (i : Int) < (nl : Int) := by omega
          go_wp2_with fail
          refine (fput_any fa pa na pn ca pc A pz w3 okA3 hok (by omega) (by omega)).mono ?_
          rintro e w4 ⟨v4, rfl, ho4, hb4⟩
          obtain ⟨X, hX⟩ : ∃ X, X = A ++ frameOf pz := ⟨_, rfl⟩
          rw [← hX] at ho4
          obtain ⟨a4, c4, rfl, hc4, hn4, hbs4⟩ := ho4.slice
          have HX : Hid (X = A ++ frameOf pz) := hX
          have okB4 := okB3.below hb4 (Nat.le_refl _)
          have hbel4 : Below w.heap.size w w4 := hbel3.trans (hb4.mono hbel3.size)
          have hXl : X.length ≤ maxLen := by
            have := (ubytes_le pz.length).2
            rw [hpl] at this
            have h1 : A.length = na := okA3.2.1.1
            rw [hX, List.length_append, frame_len, h1, hpl]; unfold maxLen; omega
          clear hX
          go_wp2
          go_roundw
          case rel =>
            refine ⟨i + 1, a4, fb, X.length, nb, c4, cb, X, B, by go_num, by omega, rfl, rfl, ⟨hn4, hbs4, hXl, hc4⟩, okB4, ?_, ?_, HALL.out, hbel4⟩
            · have h1 : Lz[i]? = some pz := by
                have := HZ.out
                rwa [List.getElem?_append_left (by rw [HL.out.2.1]; exact hil)] at this
              rw [HX.out, HA.out, List.take_add_one, h1]
              exact (framesOf_snoc _ _).symm
            · rw [HB.out, show i - nl = 0 by omega, show i + 1 - nl = 0 by omega]
          case measure => simp [intOf]; omega
        · have til : ¬ (i : Int) < (nl : Int) := by omega
          go_wp2_with fail
          refine (fput_any fb pa nb pn cb pc B pz w3 okB3 hok (by omega) (by omega)).mono ?_
          rintro e w4 ⟨v4, rfl, ho4, hb4⟩
          obtain ⟨X, hX⟩ : ∃ X, X = B ++ frameOf pz := ⟨_, rfl⟩
          rw [← hX] at ho4
          obtain ⟨a4, c4, rfl, hc4, hn4, hbs4⟩ := ho4.slice
          have HX : Hid (X = B ++ frameOf pz) := hX
          have okA4 := okA3.below hb4 (Nat.le_refl _)
          have hbel4 : Below w.heap.size w w4 := hbel3.trans (hb4.mono hbel3.size)
          have hXl : X.length ≤ maxLen := by
            have := (ubytes_le pz.length).2
            rw [hpl] at this
            have h1 : B.length = nb := okB3.2.1.1
            rw [hX, List.length_append, frame_len, h1, hpl]; unfold maxLen; omega
          clear hX
          go_wp2
          go_roundw
          case rel =>
            refine ⟨i + 1, fa, a4, na, X.length, ca, c4, A, X, by go_num, by omega, rfl, rfl, okA4, ⟨hn4, hbs4, hXl, hc4⟩, ?_, ?_, HALL.out, hbel4⟩
            · rw [HA.out, List.take_of_length_le (by rw [HL.out.2.1]; omega), List.take_of_length_le (by rw [HL.out.2.1]; omega)]
            · have h1 : Mz[i - nl]? = some pz := by
                have := HZ.out
                rwa [List.getElem?_append_right (by rw [HL.out.2.1]; omega), HL.out.2.1] at this
              rw [HX.out, HB.out, show i + 1 - nl = i - nl + 1 by omega, List.take_add_one, h1]
              exact (framesOf_snoc _ _).symm
          case measure => simp [intOf]; omega
    · obtain rfl : i = nl + nm := by omega
      have tlt : ¬ ((nl + nm : Nat) : Int) < (nl : Int) + (nm : Int) := by omega
      have gL : GoodL Lz := fun r hr => ⟨HL.out.2.2.1 r hr, by
        have := HLEN.out r (by rw [List.take_of_length_le (by rw [List.length_append, HL.out.2.1, HM.out.2.1]; omega)]; exact List.mem_append_left _ hr)
        omega⟩
      have gM : GoodL Mz := fun r hr => ⟨HM.out.2.2.1 r hr, by
        have := HLEN.out r (by rw [List.take_of_length_le (by rw [List.length_append, HL.out.2.1, HM.out.2.1]; omega)]; exact List.mem_append_right _ hr)
        omega⟩
      have eA : A = framesOf Lz := by rw [HA.out, List.take_of_length_le (by rw [HL.out.2.1]; omega)]
      have eB : B = framesOf Mz := by rw [HB.out, Nat.add_sub_cancel_left, List.take_of_length_le (by rw [HM.out.2.1]; omega)]
      have HAB : Hid (A = framesOf Lz ∧ B = framesOf Mz ∧ GoodL Lz ∧ GoodL Mz) := ⟨eA, eB, gL, gM⟩
      clear HA HB gL gM eA eB
      have hAl : A.length = na := okA.2.1.1
      have hBl : B.length = nb := okB.2.1.1
      have hz := hbel.size
      go_wp2_with (at_builtin; refine wpList_append_bytes _ rfl _ _ rfl wr.heap.size Try.underlying22 info_u8 _ [] rfl (own_new0 wr _ (Nat.le_refl _)) fa na ca A rfl okA.1 (okA.2.1.below ((Below.refl _ _).alloc (Nat.le_refl _) _) (Nat.le_refl _)) (by simp; omega) (by simp) ?_)
      intro v2 w2 ho2 hg2
      have hb2 : Below wr.heap.size wr w2 := ((Below.refl _ _).alloc (Nat.le_refl _) _).trans (Below.of_grown (own_new0 wr _ (Nat.le_refl _)) hg2 (by simp))
      try rw [List.nil_append] at ho2
      have hz2 := hb2.size
      clear hg2
      go_wp2_with (at_builtin; refine wpList_append_bytes _ rfl _ _ rfl wr.heap.size Try.underlying22 info_u8 _ A rfl ho2 fb nb cb B rfl okB.1 (okB.2.1.below hb2 (Nat.le_refl _)) (by rw [hAl]; omega) hz2 ?_)
      intro v3 w3 ho3 hg3
      have hb3 : Below wr.heap.size wr w3 := hb2.trans (Below.of_grown ho2 hg3 hz2)
      obtain ⟨X, hX⟩ : ∃ X, X = A ++ B := ⟨_, rfl⟩
      rw [← hX] at ho3
      have hXl : X.length = na + nb := by rw [hX, List.length_append, hAl, hBl]
      obtain ⟨a3, c3, rfl, hc3, hn3, hbs3⟩ := ho3.slice
      rw [hXl] at hbs3 hc3
      rw [hXl]
      have HX : Hid (X = A ++ B) := hX
      clear hX hg3 ho2 ho3 hn3 hb2 hz2
      go_wp2_with fail
      refine (all_any a3 (na + nb) c3 X w3 hbs3 (by omega) hc3).mono ?_
      rintro e w4 ⟨xs, v4, hxs, rfl, hrow4, hok4, hb4⟩
      have HXS : Hid (xs.map Rc.key = allOf X 0) := hxs
      have hb4' : Below wr.heap.size wr w4 := hb3.trans (hb4.mono hb3.size)
      have hz4 := hb4'.size
      obtain ⟨E1, hE1⟩ : ∃ E, E = endOf (allOf X 0) := ⟨_, rfl⟩
      rw [← hE1]
      have HE1 : Hid (E1 = endOf (allOf X 0)) := hE1
      clear hxs hb3 hb4 hbs3 hE1
      have okA4 := okA.below hb4' (Nat.le_refl _)
      have okB4 := okB.below hb4' (Nat.le_refl _)
      have hbel4 : Below w.heap.size w w4 := hbel.trans (hb4'.mono hz)
      obtain ⟨_, _, okR4⟩ := HPQ.out _ hbel4
      go_wp2_with (at_builtin; refine wpList_append_bytes _ rfl _ _ rfl w4.heap.size Try.underlying22 info_u8 _ [] rfl (own_new0 w4 _ (Nat.le_refl _)) fa na ca A rfl okA4.1 (okA4.2.1.below ((Below.refl _ _).alloc (Nat.le_refl _) _) (Nat.le_refl _)) (by simp; omega) (by simp) ?_)
      intro v5 w5 ho5 hg5
      have hb5 : Below w4.heap.size w4 w5 := ((Below.refl _ _).alloc (Nat.le_refl _) _).trans (Below.of_grown (own_new0 w4 _ (Nat.le_refl _)) hg5 (by simp))
      try rw [List.nil_append] at ho5
      have hz5 := hb5.size
      clear hg5
      go_wp2_with (at_builtin; refine wpList_append_bytes _ rfl _ _ rfl w4.heap.size Try.underlying22 info_u8 _ A rfl ho5 rc n c zs rfl okR4.1 (okR4.2.1.below hb5 (Nat.le_refl _)) (by rw [hAl]; omega) hz5 ?_)
      intro v6 w6 ho6 hg6
      have hb6 : Below w4.heap.size w4 w6 := hb5.trans (Below.of_grown ho5 hg6 hz5)
      obtain ⟨Y, hY⟩ : ∃ Y, Y = A ++ zs := ⟨_, rfl⟩
      rw [← hY] at ho6
      have hzl : zs.length = n := okR4.2.1.1
      have hzw : Wf zs := okR4.2.1.2.1
      have hYl : Y.length = na + n := by rw [hY, List.length_append, hAl, hzl]
      obtain ⟨a6, c6, rfl, hc6, hn6, hbs6⟩ := ho6.slice
      rw [hYl] at hbs6 hc6
      rw [hYl]
      have HY : Hid (Y = A ++ zs ∧ Wf zs) := ⟨hY, hzw⟩
      clear hY hg6 ho5 ho6 hn6 hb5 hz5 hzw
      go_wp2_with fail
      refine (all_any a6 (na + n) c6 Y w6 hbs6 (by omega) hc6).mono ?_
      rintro e w7 ⟨ys, v7, hys, rfl, hrow7, hok7, hb7⟩
      have hb7' : Below w4.heap.size w4 w7 := hb6.trans (hb7.mono hb6.size)
      obtain ⟨E2, hE2⟩ : ∃ E, E = endOf (allOf Y 0) := ⟨_, rfl⟩
      rw [← hE2]
      -- what was read
      have hx1 : allOf X 0 = ends 0 (Lz ++ Mz) := by
        have h := allOf_stop (l := Lz ++ Mz) (fun r hr => (List.mem_append.1 hr).elim (HAB.out.2.2.1 r) (HAB.out.2.2.2 r)) [] (fun z hz => by cases hz) getF_nil
        rw [List.append_nil, framesOf_append, ← HAB.out.1, ← HAB.out.2.1, ← HX.out] at h
        exact h
      have hy1 : allOf Y 0 = ends 0 Lz ++ allOf Y na := by
        have h := allOf_row HAB.out.2.2.1 zs HY.out.2
        rw [← HAB.out.1, ← HY.out.1, hAl] at h
        exact h
      have hxz : xs.map Rc.zs = Lz ++ Mz := by
        have h := congrArg (List.map Prod.snd) HXS.out
        rw [hx1, ends_snd, List.map_map] at h
        exact h
      have hxl : xs.length = nl + nm := by rw [← List.length_map (f := Rc.zs), hxz, List.length_append, HL.out.2.1, HM.out.2.1]
      have hyz : ∃ K, ys.map Rc.zs = Lz ++ K := by
        have h := congrArg (List.map Prod.snd) hys
        rw [hy1, List.map_append, ends_snd, List.map_map] at h
        exact ⟨_, h⟩
      have hyl : nl ≤ ys.length := by
        obtain ⟨K, hK⟩ := hyz
        rw [← List.length_map (f := Rc.zs), hK, List.length_append, HL.out.2.1]; omega
      have hE1' : E1 = na + nb := by
        rw [HE1.out, hx1, endOf_ends0, framesOf_append, List.length_append, ← HAB.out.1, ← HAB.out.2.1, hAl, hBl]
      have hE2' : na ≤ E2 := by
        rw [hE2, hy1]
        refine endOf_append_ge _ _ _ ?_ ?_
        · rw [endOf_ends0, ← HAB.out.1, hAl]; exact Nat.le_refl _
        · have hwY : Wf Y := by rw [HY.out.1]; exact wf_app (by rw [HAB.out.1]; exact framesOf_wf HAB.out.2.2.1) HY.out.2
          exact allOf_ge hwY _ _ (by rw [hYl]; omega)
      obtain ⟨x4, c4, rfl, hc4, hv4⟩ := vs_of_all hrow4 hok4
      obtain ⟨x7, c7, rfl, hc7, hv7⟩ := vs_of_all hrow7 hok7
      rw [hxl]
      have HXZ : Hid ((xs.map Rc.piece).map Piece.zs = (ps ++ qs).map Piece.zs) := by
        show (xs.map Rc.piece).map Piece.zs = (ps ++ qs).map Piece.zs
        rw [List.map_map, List.map_append, ← HL.out.1, ← HM.out.1]; exact hxz
      have HYZ : Hid (((ys.map Rc.piece).take nl).map Piece.zs = ps.map Piece.zs) := by
        show ((ys.map Rc.piece).take nl).map Piece.zs = ps.map Piece.zs
        obtain ⟨K, hK⟩ := hyz
        rw [← HL.out.1, List.map_take, List.map_map]
        show (ys.map Rc.zs).take nl = Lz
        rw [hK, List.take_left' HL.out.2.1]
      have HYL : Hid (((ys.map Rc.piece).take nl).length = nl) := by
        show ((ys.map Rc.piece).take nl).length = nl
        rw [List.length_take, List.length_map]; omega
      have HXL : Hid ((xs.map Rc.piece).length = nl + nm) := by show (xs.map Rc.piece).length = _; rw [List.length_map, hxl]
      have HXN : Hid (∀ p ∈ xs.map Rc.piece, p.n ≤ 1000000) := by
        intro p hp
        have h1 : p.zs ∈ Lz ++ Mz := by rw [← hxz]; obtain ⟨x, hx, rfl⟩ := List.mem_map.1 hp; exact List.mem_map.2 ⟨x, hx, rfl⟩
        have h2 : p.zs.length ≤ 65536 := (List.mem_append.1 h1).elim (fun h => (HAB.out.2.2.1 _ h).2) (fun h => (HAB.out.2.2.2 _ h).2)
        have h3 := (hv4.2 p hp).2.1.1
        omega
      have HYN : Hid (∀ p ∈ (ys.map Rc.piece).take nl, p.n ≤ 1000000) := by
        intro p hp
        have h1 : p.zs ∈ ps.map Piece.zs := by rw [← HYZ.out]; exact List.mem_map.2 ⟨p, hp, rfl⟩
        have h2 : p.zs.length ≤ 65536 := (HAB.out.2.2.1 _ (by rw [HL.out.1]; exact h1)).2
        have h3 := (hv7.2 p (List.mem_of_mem_take hp)).2.1.1
        omega
      have hx7 : Vs w7 x4 (xs.map Rc.piece) := hv4.below hb7' (Nat.le_refl _)
      have hbel7 : Below w.heap.size w w7 := hbel4.trans (hb7'.mono hbel4.size)
      obtain ⟨vP, vQ, _⟩ := HPQ.out _ hbel7
      obtain ⟨yl, hyle⟩ : ∃ yl, yl = ys.length := ⟨_, rfl⟩
      rw [← hyle] at hc7 hyl
      rw [← hyle]
      subst hE1'
      have ty : (nl : Int) ≤ (yl : Int) := by omega
      have ty2 : (nl : Int) ≤ (c7 : Int) := by omega
      have te : (na : Int) ≤ (E2 : Int) := by omega
      clear hxz hyz hx1 hy1 hys hE2 hyle hrow4 hrow7 hok4 hok7 hv4 HE1 HXS hb6 hb7 hb7' hb4' okA4 okB4 okR4 hbs6 hxl okA okB hE2'
      go_wp2_with (at_builtin; refine wpList_append_vs _ rfl _ _ rfl w7.heap.size _ 0 [] rfl (ownsRow_new0 w7 _ (Nat.le_refl _)) la nl cl ps rfl hla (vP.below ((Below.refl w7.heap.size w7).alloc (Nat.le_refl _) _) (Nat.le_refl _)) HL.out.2.2.2 (by omega) (by simp) ?_)
      intro v8 w8 ho8 hg8
      have hb8 : Below w7.heap.size w7 w8 := ((Below.refl _ _).alloc (Nat.le_refl _) _).trans (below_grown (ownsRow_new0 w7 _ (Nat.le_refl _)) hg8 (by simp))
      try rw [Nat.zero_add] at ho8
      try rw [List.nil_append] at ho8
      have hz8 := hb8.size
      clear hg8
      go_wp2_with (at_builtin; refine wpList_append_vs _ rfl _ _ rfl w7.heap.size _ nl ps rfl ho8 lb nm cm qs rfl hlb (vQ.below hb8 (Nat.le_refl _)) HM.out.2.2.2 (by omega) hz8 ?_)
      intro v9 w9 ho9 hg9
      have hb9 : Below w7.heap.size w7 w9 := hb8.trans (below_grown ho8 hg9 hz8)
      obtain ⟨a9, c9, rfl, hc9, _, _, hcs9⟩ := ownsRow_cs ho9
      have hbel9 : Below w.heap.size w w9 := hbel7.trans (hb9.mono hbel7.size)
      have v9 : Vs w9 a9 (ps ++ qs) := ⟨by rw [List.map_append]; exact hcs9, fun p hp => by
        obtain ⟨vP', vQ', _⟩ := HPQ.out _ hbel9
        exact (List.mem_append.1 hp).elim (vP'.2 p) (vQ'.2 p)⟩
      have hx9 := hx7.below hb9 (Nat.le_refl _)
      have hy9 := (hv7.take nl).below hb9 (Nat.le_refl _)
      clear hg9 ho8 ho9 hb8 hz8 hx7 hv7 hcs9
      go_wp2_with fail
      refine (sameL_yes x4 a9 (nl + nm) c4 c9 _ _ w9 HXL.out.symm hx9 v9 HXZ.out (by omega) HXN.out).mono ?_
      rintro e w10 ⟨rfl, hb10⟩
      have hy10 := hy9.below hb10 (Nat.le_refl _)
      have hbel10 := hbel9.trans (hb10.mono hbel9.size)
      obtain ⟨vP10, _, _⟩ := HPQ.out _ hbel10
      go_wp2_with fail
      refine (sameL_yes x7 la nl c7 cl _ _ w10 HYL.out.symm hy10 vP10 HYZ.out (by omega) HYN.out).mono ?_
      rintro e w11 ⟨rfl, hb11⟩
      go_wp2
      go_ret
      exact ⟨rfl, hbel10.trans (hb11.mono hbel10.size)⟩
end Go.Proofs.Ytfcckekinlobjaa
