/-
  SuJoin SuFol SuUni SuMath OrLw EqRes EqAlive EqLw MtMath MtMath2 EqVnt ClTop SuTop
-/
import Derived.Test.YteegmcfobgpemaaGreatMg13
import Derived.Test.YteegmcfobgpemaaGreatMg11
import Derived.Test.YteegmcfobgpemaaGreatMg12
import Derived.Test.YteegmcfobgpemaaGreatMg4
namespace Go.Proofs.YteegmcfobgpemaaGreat
open Go.RowKit
set_option linter.unusedVariables false
set_option linter.unusedSimpArgs false
set_option maxRecDepth 100000
theorem afunO_hdl {P : Program} {f : FuncId} {X e z n : Nat} {l : List CV} {a1 a3 : AV} {r : AV} {post : AS} (hX : (Nat.ble 200000 X && Nat.blt X 450000) = true) (hn : n ≤ l.length) (h : AFunO P f [(X, .mrow e z l)] [a1, .sl X 0 n z, a3] r post) : AFunH P f [(X, .mrow e z l)] X X (fun v _ => [a1, .val (.sc (cutV v n)), a3]) (fun _ _ => r) post := by
  refine ⟨h.1, fun U w hv a0 vs hU hpS hargs => h.2 U w hv a0 vs hU hpS ?_⟩
  obtain ⟨u1, _, rfl, h1, u2, _, rfl, h2, h3⟩ := hargs
  refine ⟨u1, _, rfl, h1, u2, _, rfl, ?_, h3⟩
  have hrn : RN X := rnF hX
  have hu : u2 = cutV (hv X) n := (vrep_sc.1 h2.1).1
  have hlk : look [(X, AV.mrow e z l)] X = some (.mrow e z l) := lS _ _ _
  obtain ⟨xs, f1, _⟩ := hpS.mrow hlk hrn
  obtain ⟨ao, cap, e1, e2, _⟩ := own_slice f1
  refine ⟨hrn, ?_⟩
  show SlV (hv X) 0 n z u2
  rw [hu, e1]
  exact ⟨ao, l.length, cap, ao, rfl, rfl, by omega, fun _ => rfl, fun _ g hg' => by rw [hg', Nat.zero_mul], Iff.rfl⟩
noncomputable def joinM (m : Mt) (c d : List Lt) : List Lt := (offL c m.fr.n.toNat).map Lt.strip ++ ((offL d m.ti.n.toNat).map Lt.strip ++ [⟨negAt d m.ti.n, (putP m.fr.b m.pl m.ti.a).getD ⟨0, []⟩, m.ti.b⟩])
theorem concat3_abs (W : World) (x y z : List Lt) (hl : x.length + y.length + z.length ≤ 1000000) : AFun Tryz.prog W 95 [.lst [.lst (x.map Lt.cv), .lst (y.map Lt.cv), .lst (z.map Lt.cv)]] (.val (.lst ((x ++ (y ++ z)).map Lt.cv))) := by
  have h := concatL_abs W [x, y, z] (by simp) (by simp; omega)
  have e : [x, y, z].flatten = x ++ (y ++ z) := by simp
  rw [e] at h
  exact h
def Lt.rok (l : Lt) : Prop := (l.a.rng ∧ l.a.ok) ∧ l.b.rng ∧ l.b.ok
-- 
set_option maxHeartbeats 8000000 in
theorem suJoin400002_abs (c d : List Lt) (m : Mt) (hcl : c.length ≤ 1000) (hdl : d.length ≤ 1000) (hc : ∀ l ∈ c, l.rok) (hd : ∀ l ∈ d, l.rok) (hi : 0 ≤ m.fr.n ∧ m.fr.n < c.length) (hj : 0 ≤ m.ti.n ∧ m.ti.n < d.length) (hfb : m.fr.b.rng ∧ m.fr.b.size ≤ 1000000) (hta : m.ti.a.rng ∧ m.ti.a.size ≤ 100000) (hpl : m.pl.length ≤ 1000000) : AFunH Tryz.prog 68 [(400002, AV.mrow 3 1 (m.pl.map CV.i))] 400002 400002 (fun v _ => [.val (m.cvH v), .val (.lst (c.map Lt.cv)), .val (.lst (d.map Lt.cv))]) (fun _ _ => .val (.lst ((joinM m c d).map Lt.cv))) [(400002, AV.mrow 3 1 (m.pl.map CV.i))] := by
  obtain ⟨⟨fn, fa, fb⟩, ⟨tn, ta, tb⟩, pl, pt⟩ := m
  simp only at hi hj hfb hta hpl
  obtain ⟨i, rfl⟩ : ∃ i : Nat, fn = (i : Int) := ⟨fn.toNat, by omega⟩
  obtain ⟨j, rfl⟩ : ∃ j : Nat, tn = (j : Int) := ⟨tn.toNat, by omega⟩
  have hi2 : i < c.length := by omega
  have hj2 : j < d.length := by omega
  obtain ⟨l, hl⟩ : ∃ l, d[j]? = some l := ⟨d[j], List.getElem?_eq_getElem hj2⟩
  have hl' := Lt.map_at hl
  have hsd := Lt.size_all d
  have hng : negAt d (j : Int) = l.neg := by unfold negAt; rw [Int.toNat_natCast, hl]
  have hP := afunO_hdl (by decide) (by simp) (put400002_abs pl fb hfb.1 (by omega) pl 0 ta rfl (by simp) hpl hta.1 hta.2)
  obtain ⟨q, hq⟩ : ∃ q, q = (putP fb pl ta).getD ⟨0, []⟩ := ⟨_, rfl⟩
  obtain ⟨ok, hok⟩ : ∃ ok, ok = (putP fb pl ta).isSome := ⟨_, rfl⟩
  rw [← hq, ← hok] at hP
  have hW1 := fun w => eWithout_abs w c (i : Int) (by omega) hc
  have hW2 := fun w => eWithout_abs w d (j : Int) (by omega) hd
  rw [if_pos ⟨by omega, by omega⟩, Int.toNat_natCast] at hW1 hW2
  obtain ⟨A, hA⟩ : ∃ A, A = (offL c i).map Lt.strip := ⟨_, rfl⟩
  obtain ⟨B, hB⟩ : ∃ B, B = (offL d j).map Lt.strip := ⟨_, rfl⟩
  have hAl : A.length ≤ 1000 := by have := offL_len hi2; rw [hA, List.length_map]; omega
  have hBl : B.length ≤ 1000 := by have := offL_len hj2; rw [hB, List.length_map]; omega
  have hJ : joinM ⟨⟨(i : Int), fa, fb⟩, ⟨(j : Int), ta, tb⟩, pl, pt⟩ c d = A ++ (B ++ [⟨l.neg, q, tb⟩]) := by unfold joinM; simp only [Int.toNat_natCast]; rw [hng, ← hA, ← hB, ← hq]
  rw [hJ]
  rw [← hA] at hW1
  rw [← hB] at hW2
  have hC := fun w => concat3_abs w A B [⟨l.neg, q, tb⟩] (by simp; omega)
  have hlm : (pl.map CV.i).length = pl.length := List.length_map ..
  refine afunH_of 46 400002 47 400002 Tryz.func68 Tryz.ntmps68 rfl rfl (fun _ _ => rfl) rfl rfl rfl rfl rfl ?_
  intro v v2 w U hU
  refine aS (aR ?_)
  (refine nx (a_box (gN rfl) rfl rfl rfl rfl rfl) rfl ?_)
  (refine nx (aA (gN rfl) rfl rfl rfl rfl rfl) rfl ?_)
  show AWp _ _ _ _ _ _ _
  refine aS (aR ?_)
  (refine nx (aF (gN rfl) rfl rfl rfl rfl rfl rfl rfl rfl rfl) rfl ?_)
  (refine nx (aF (gN rfl) rfl rfl rfl rfl rfl rfl rfl rfl rfl) rfl ?_)
  (refine nx (aLb (gN rfl) rfl rfl rfl rfl rfl rfl rfl rfl rfl rfl rfl rfl) rfl ?_)
  (refine nx (aF (gN rfl) rfl rfl rfl rfl rfl rfl rfl rfl rfl) rfl ?_)
  (refine nx (aLb (gN rfl) rfl rfl rfl rfl rfl rfl rfl rfl rfl rfl rfl rfl) rfl ?_)
  (refine nx (aF (gN rfl) rfl rfl rfl rfl rfl rfl rfl rfl rfl) rfl ?_)
  (refine nx (aF (gN rfl) rfl rfl rfl rfl rfl rfl rfl rfl rfl) rfl ?_)
  (refine nx (aLb (gN rfl) rfl rfl rfl rfl rfl rfl rfl rfl rfl rfl rfl rfl) rfl ?_)
  (refine nx (a_callH 46 47 (gN rfl) rfl rfl rfl rfl (hP) rfl rfl rfl rfl (by repeat (first | exact trivial | refine ⟨rfl, ?_⟩)) (by first | rfl | kernel_rfl) (by first | rfl | kernel_rfl) (by first | rfl | kernel_rfl) (by first | rfl | kernel_rfl) (hnb_of (by first | rfl | kernel_rfl))) rfl ?_)
  (refine nx (aM (gN rfl) rfl rfl rfl rfl rfl) rfl ?_)
  (refine nx (aX (gN rfl) rfl rfl rfl rfl rfl rfl) rfl ?_)
  (refine nx (aX (gN rfl) rfl rfl rfl rfl rfl rfl) rfl ?_)
  (refine nx (a_alloc (gN rfl) rfl rfl rfl rfl rfl rfl rfl rfl rfl rfl) rfl ?_)
  (refine nx (aSt (gN rfl) rfl rfl rfl rfl rfl rfl rfl rfl rfl rfl) rfl ?_)
  (refine nx (aA (gN rfl) rfl rfl rfl rfl rfl) rfl ?_)
  show AWp _ _ _ _ _ _ _
  refine AWp.wk (wk_sub (s' := (1, AV.val (.lst (c.map Lt.cv))) :: (2, .val (.lst (d.map Lt.cv))) :: (3, .bp 3 0 []) :: (100003, .bx (.row [.row [.i (i : Int), fa.cw, fb.cw], .row [.i (j : Int), ta.cw, tb.cw], .sc (cutV v pl.length), pt.cw])) :: (7, .bp 7 0 []) :: (100007, .bx q.cw) :: [(400002, .mrow 3 1 (pl.map CV.i))]) ⟨rfl, rfl, rfl, rfl, rfl, rfl, rfl, trivial⟩) ?_
  refine aS (aD (by kernel_rfl) (by kernel_rfl) ?_)
  (refine nx (aM (gN rfl) rfl rfl rfl rfl rfl) rfl ?_)
  (refine nx (aF (gN rfl) rfl rfl rfl rfl rfl rfl rfl rfl rfl) rfl ?_)
  (refine nx (aF (gN rfl) rfl rfl rfl rfl rfl rfl rfl rfl rfl) rfl ?_)
  (refine nx (aLb (gN rfl) rfl rfl rfl rfl rfl rfl rfl rfl rfl rfl rfl rfl) rfl ?_)
  (refine nx (a_index (j := j) (gN rfl) rfl rfl rfl rfl rfl rfl rfl rfl rfl (hl') rfl (hsd)) rfl ?_)
  (refine nx (a_field_ad (gN rfl) rfl rfl rfl rfl rfl rfl rfl rfl rfl rfl rfl) rfl ?_)
  (refine nx (a_load_ad (gN rfl) rfl rfl rfl rfl rfl rfl rfl rfl rfl) rfl ?_)
  (refine nx (aL (gN rfl) rfl rfl rfl rfl rfl rfl rfl rfl rfl rfl rfl rfl) rfl ?_)
  (refine nx (aF (gN rfl) rfl rfl rfl rfl rfl rfl rfl rfl rfl) rfl ?_)
  (refine nx (aF (gN rfl) rfl rfl rfl rfl rfl rfl rfl rfl rfl) rfl ?_)
  (refine nx (aLb (gN rfl) rfl rfl rfl rfl rfl rfl rfl rfl rfl rfl rfl rfl) rfl ?_)
  (refine nx (a_buildT ltZ3 (gN rfl) rfl rfl rfl rfl rfl rfl rfl rfl rfl rfl rfl) rfl ?_)
  (refine nx (a_allocT ltZ3 (gN rfl) rfl rfl rfl rfl rfl rfl rfl) rfl ?_)
  (refine nx (aSt (gN rfl) rfl rfl rfl rfl rfl rfl rfl rfl rfl rfl) rfl ?_)
  refine ⟨by kernel_rfl, ?_⟩
  show AWp _ _ _ _ _ _ _
  refine aS (aD (by kernel_rfl) (by kernel_rfl) ?_)
  (refine nx (aM (gN rfl) rfl rfl rfl rfl rfl) rfl ?_)
  (refine nx (aF (gN rfl) rfl rfl rfl rfl rfl rfl rfl rfl rfl) rfl ?_)
  (refine nx (aF (gN rfl) rfl rfl rfl rfl rfl rfl rfl rfl rfl) rfl ?_)
  (refine nx (aLb (gN rfl) rfl rfl rfl rfl rfl rfl rfl rfl rfl rfl rfl rfl) rfl ?_)
  (refine nx (a_call (gN rfl) rfl rfl rfl rfl rfl (hW1 w)) rfl ?_)
  (refine nx (aM (gN rfl) rfl rfl rfl rfl rfl) rfl ?_)
  (refine nx (aF (gN rfl) rfl rfl rfl rfl rfl rfl rfl rfl rfl) rfl ?_)
  (refine nx (aF (gN rfl) rfl rfl rfl rfl rfl rfl rfl rfl rfl) rfl ?_)
  (refine nx (aLb (gN rfl) rfl rfl rfl rfl rfl rfl rfl rfl rfl rfl rfl rfl) rfl ?_)
  (refine nx (a_call (gN rfl) rfl rfl rfl rfl rfl (hW2 w)) rfl ?_)
  (refine nx (aL (gN rfl) rfl rfl rfl rfl rfl rfl rfl rfl rfl rfl rfl rfl) rfl ?_)
  (refine nx (a_bslice (gN rfl) rfl rfl rfl rfl rfl rfl rfl rfl rfl rfl rfl rfl rfl) rfl ?_)
  (refine nx (a_bslice (gN rfl) rfl rfl rfl rfl rfl rfl rfl rfl rfl rfl rfl rfl rfl) rfl ?_)
  (refine nx (a_call (gN rfl) rfl rfl rfl rfl rfl (hC w)) rfl ?_)
  (refine nx (aA (gN rfl) rfl rfl rfl rfl rfl) rfl ?_)
  refine ⟨by kernel_rfl, ?_⟩
  show AWp _ _ _ _ _ _ _
  exact aT ⟨.inr rfl, _, Wk.refl _, rfl, rfl, trivial⟩
-- 
set_option maxHeartbeats 8000000 in
theorem suJoin400003_abs (c d : List Lt) (m : Mt) (hcl : c.length ≤ 1000) (hdl : d.length ≤ 1000) (hc : ∀ l ∈ c, l.rok) (hd : ∀ l ∈ d, l.rok) (hi : 0 ≤ m.fr.n ∧ m.fr.n < c.length) (hj : 0 ≤ m.ti.n ∧ m.ti.n < d.length) (hfb : m.fr.b.rng ∧ m.fr.b.size ≤ 1000000) (hta : m.ti.a.rng ∧ m.ti.a.size ≤ 100000) (hpl : m.pl.length ≤ 1000000) : AFunH Tryz.prog 68 [(400003, AV.mrow 3 1 (m.pl.map CV.i))] 400003 400003 (fun v _ => [.val (m.cvH v), .val (.lst (c.map Lt.cv)), .val (.lst (d.map Lt.cv))]) (fun _ _ => .val (.lst ((joinM m c d).map Lt.cv))) [(400003, AV.mrow 3 1 (m.pl.map CV.i))] := by
  obtain ⟨⟨fn, fa, fb⟩, ⟨tn, ta, tb⟩, pl, pt⟩ := m
  simp only at hi hj hfb hta hpl
  obtain ⟨i, rfl⟩ : ∃ i : Nat, fn = (i : Int) := ⟨fn.toNat, by omega⟩
  obtain ⟨j, rfl⟩ : ∃ j : Nat, tn = (j : Int) := ⟨tn.toNat, by omega⟩
  have hi2 : i < c.length := by omega
  have hj2 : j < d.length := by omega
  obtain ⟨l, hl⟩ : ∃ l, d[j]? = some l := ⟨d[j], List.getElem?_eq_getElem hj2⟩
  have hl' := Lt.map_at hl
  have hsd := Lt.size_all d
  have hng : negAt d (j : Int) = l.neg := by unfold negAt; rw [Int.toNat_natCast, hl]
  have hP := afunO_hdl (by decide) (by simp) (put400003_abs pl fb hfb.1 (by omega) pl 0 ta rfl (by simp) hpl hta.1 hta.2)
  obtain ⟨q, hq⟩ : ∃ q, q = (putP fb pl ta).getD ⟨0, []⟩ := ⟨_, rfl⟩
  obtain ⟨ok, hok⟩ : ∃ ok, ok = (putP fb pl ta).isSome := ⟨_, rfl⟩
  rw [← hq, ← hok] at hP
  have hW1 := fun w => eWithout_abs w c (i : Int) (by omega) hc
  have hW2 := fun w => eWithout_abs w d (j : Int) (by omega) hd
  rw [if_pos ⟨by omega, by omega⟩, Int.toNat_natCast] at hW1 hW2
  obtain ⟨A, hA⟩ : ∃ A, A = (offL c i).map Lt.strip := ⟨_, rfl⟩
  obtain ⟨B, hB⟩ : ∃ B, B = (offL d j).map Lt.strip := ⟨_, rfl⟩
  have hAl : A.length ≤ 1000 := by have := offL_len hi2; rw [hA, List.length_map]; omega
  have hBl : B.length ≤ 1000 := by have := offL_len hj2; rw [hB, List.length_map]; omega
  have hJ : joinM ⟨⟨(i : Int), fa, fb⟩, ⟨(j : Int), ta, tb⟩, pl, pt⟩ c d = A ++ (B ++ [⟨l.neg, q, tb⟩]) := by unfold joinM; simp only [Int.toNat_natCast]; rw [hng, ← hA, ← hB, ← hq]
  rw [hJ]
  rw [← hA] at hW1
  rw [← hB] at hW2
  have hC := fun w => concat3_abs w A B [⟨l.neg, q, tb⟩] (by simp; omega)
  have hlm : (pl.map CV.i).length = pl.length := List.length_map ..
  refine afunH_of 46 400003 47 400003 Tryz.func68 Tryz.ntmps68 rfl rfl (fun _ _ => rfl) rfl rfl rfl rfl rfl ?_
  intro v v2 w U hU
  refine aS (aR ?_)
  (refine nx (a_box (gN rfl) rfl rfl rfl rfl rfl) rfl ?_)
  (refine nx (aA (gN rfl) rfl rfl rfl rfl rfl) rfl ?_)
  show AWp _ _ _ _ _ _ _
  refine aS (aR ?_)
  (refine nx (aF (gN rfl) rfl rfl rfl rfl rfl rfl rfl rfl rfl) rfl ?_)
  (refine nx (aF (gN rfl) rfl rfl rfl rfl rfl rfl rfl rfl rfl) rfl ?_)
  (refine nx (aLb (gN rfl) rfl rfl rfl rfl rfl rfl rfl rfl rfl rfl rfl rfl) rfl ?_)
  (refine nx (aF (gN rfl) rfl rfl rfl rfl rfl rfl rfl rfl rfl) rfl ?_)
  (refine nx (aLb (gN rfl) rfl rfl rfl rfl rfl rfl rfl rfl rfl rfl rfl rfl) rfl ?_)
  (refine nx (aF (gN rfl) rfl rfl rfl rfl rfl rfl rfl rfl rfl) rfl ?_)
  (refine nx (aF (gN rfl) rfl rfl rfl rfl rfl rfl rfl rfl rfl) rfl ?_)
  (refine nx (aLb (gN rfl) rfl rfl rfl rfl rfl rfl rfl rfl rfl rfl rfl rfl) rfl ?_)
  (refine nx (a_callH 46 47 (gN rfl) rfl rfl rfl rfl (hP) rfl rfl rfl rfl (by repeat (first | exact trivial | refine ⟨rfl, ?_⟩)) (by first | rfl | kernel_rfl) (by first | rfl | kernel_rfl) (by first | rfl | kernel_rfl) (by first | rfl | kernel_rfl) (hnb_of (by first | rfl | kernel_rfl))) rfl ?_)
  (refine nx (aM (gN rfl) rfl rfl rfl rfl rfl) rfl ?_)
  (refine nx (aX (gN rfl) rfl rfl rfl rfl rfl rfl) rfl ?_)
  (refine nx (aX (gN rfl) rfl rfl rfl rfl rfl rfl) rfl ?_)
  (refine nx (a_alloc (gN rfl) rfl rfl rfl rfl rfl rfl rfl rfl rfl rfl) rfl ?_)
  (refine nx (aSt (gN rfl) rfl rfl rfl rfl rfl rfl rfl rfl rfl rfl) rfl ?_)
  (refine nx (aA (gN rfl) rfl rfl rfl rfl rfl) rfl ?_)
  show AWp _ _ _ _ _ _ _
  refine AWp.wk (wk_sub (s' := (1, AV.val (.lst (c.map Lt.cv))) :: (2, .val (.lst (d.map Lt.cv))) :: (3, .bp 3 0 []) :: (100003, .bx (.row [.row [.i (i : Int), fa.cw, fb.cw], .row [.i (j : Int), ta.cw, tb.cw], .sc (cutV v pl.length), pt.cw])) :: (7, .bp 7 0 []) :: (100007, .bx q.cw) :: [(400003, .mrow 3 1 (pl.map CV.i))]) ⟨rfl, rfl, rfl, rfl, rfl, rfl, rfl, trivial⟩) ?_
  refine aS (aD (by kernel_rfl) (by kernel_rfl) ?_)
  (refine nx (aM (gN rfl) rfl rfl rfl rfl rfl) rfl ?_)
  (refine nx (aF (gN rfl) rfl rfl rfl rfl rfl rfl rfl rfl rfl) rfl ?_)
  (refine nx (aF (gN rfl) rfl rfl rfl rfl rfl rfl rfl rfl rfl) rfl ?_)
  (refine nx (aLb (gN rfl) rfl rfl rfl rfl rfl rfl rfl rfl rfl rfl rfl rfl) rfl ?_)
  (refine nx (a_index (j := j) (gN rfl) rfl rfl rfl rfl rfl rfl rfl rfl rfl (hl') rfl (hsd)) rfl ?_)
  (refine nx (a_field_ad (gN rfl) rfl rfl rfl rfl rfl rfl rfl rfl rfl rfl rfl) rfl ?_)
  (refine nx (a_load_ad (gN rfl) rfl rfl rfl rfl rfl rfl rfl rfl rfl) rfl ?_)
  (refine nx (aL (gN rfl) rfl rfl rfl rfl rfl rfl rfl rfl rfl rfl rfl rfl) rfl ?_)
  (refine nx (aF (gN rfl) rfl rfl rfl rfl rfl rfl rfl rfl rfl) rfl ?_)
  (refine nx (aF (gN rfl) rfl rfl rfl rfl rfl rfl rfl rfl rfl) rfl ?_)
  (refine nx (aLb (gN rfl) rfl rfl rfl rfl rfl rfl rfl rfl rfl rfl rfl rfl) rfl ?_)
  (refine nx (a_buildT ltZ3 (gN rfl) rfl rfl rfl rfl rfl rfl rfl rfl rfl rfl rfl) rfl ?_)
  (refine nx (a_allocT ltZ3 (gN rfl) rfl rfl rfl rfl rfl rfl rfl) rfl ?_)
  (refine nx (aSt (gN rfl) rfl rfl rfl rfl rfl rfl rfl rfl rfl rfl) rfl ?_)
  refine ⟨by kernel_rfl, ?_⟩
  show AWp _ _ _ _ _ _ _
  refine aS (aD (by kernel_rfl) (by kernel_rfl) ?_)
  (refine nx (aM (gN rfl) rfl rfl rfl rfl rfl) rfl ?_)
  (refine nx (aF (gN rfl) rfl rfl rfl rfl rfl rfl rfl rfl rfl) rfl ?_)
  (refine nx (aF (gN rfl) rfl rfl rfl rfl rfl rfl rfl rfl rfl) rfl ?_)
  (refine nx (aLb (gN rfl) rfl rfl rfl rfl rfl rfl rfl rfl rfl rfl rfl rfl) rfl ?_)
  (refine nx (a_call (gN rfl) rfl rfl rfl rfl rfl (hW1 w)) rfl ?_)
  (refine nx (aM (gN rfl) rfl rfl rfl rfl rfl) rfl ?_)
  (refine nx (aF (gN rfl) rfl rfl rfl rfl rfl rfl rfl rfl rfl) rfl ?_)
  (refine nx (aF (gN rfl) rfl rfl rfl rfl rfl rfl rfl rfl rfl) rfl ?_)
  (refine nx (aLb (gN rfl) rfl rfl rfl rfl rfl rfl rfl rfl rfl rfl rfl rfl) rfl ?_)
  (refine nx (a_call (gN rfl) rfl rfl rfl rfl rfl (hW2 w)) rfl ?_)
  (refine nx (aL (gN rfl) rfl rfl rfl rfl rfl rfl rfl rfl rfl rfl rfl rfl) rfl ?_)
  (refine nx (a_bslice (gN rfl) rfl rfl rfl rfl rfl rfl rfl rfl rfl rfl rfl rfl rfl) rfl ?_)
  (refine nx (a_bslice (gN rfl) rfl rfl rfl rfl rfl rfl rfl rfl rfl rfl rfl rfl rfl) rfl ?_)
  (refine nx (a_call (gN rfl) rfl rfl rfl rfl rfl (hC w)) rfl ?_)
  (refine nx (aA (gN rfl) rfl rfl rfl rfl rfl) rfl ?_)
  refine ⟨by kernel_rfl, ?_⟩
  show AWp _ _ _ _ _ _ _
  exact aT ⟨.inr rfl, _, Wk.refl _, rfl, rfl, trivial⟩
noncomputable def folC (ld : Tm → Tm → Bool) (c d : List Lt) (m : Mt) : Option (List Lt) :=
  if (mgT m.fr.a m.pt).2 = true ∧ ld (repT (mgS m.fr.a m.pt) m.fr.a) (repT (mgS m.fr.a m.pt) m.fr.b) = true ∧ ld (repT (mgS m.fr.a m.pt) m.ti.a) (repT (mgS m.fr.a m.pt) m.ti.b) = true then some ((joinM m c d).map (Lt.rep (mgS m.fr.a m.pt))) else none
noncomputable def folL (ld : Tm → Tm → Bool) (c d : List Lt) (ms : List Mt) : List (List Lt) := ms.filterMap (folC ld c d)
theorem folL_take {ld : Tm → Tm → Bool} {c d : List Lt} {ms : List Mt} {k : Nat} {m : Mt} (h : ms[k]? = some m) : folL ld c d (ms.take (k + 1)) = folL ld c d (ms.take k) ++ (folC ld c d m).toList := by
  unfold folL
  rw [List.take_add_one, h, List.filterMap_append]
  congr 1
structure FolOk (fd : Nat) (ld : Tm → Tm → Bool) (c d : List Lt) (m : Mt) : Prop where
  un : ∀ w, AFun Tryz.prog w 65 [m.fr.a.cw, m.pt.cw] (.tup [.lst ((mgT m.fr.a m.pt).1.map Bd.cv), .b (mgT m.fr.a m.pt).2])
  ap : ∀ w t, t = m.fr.a ∨ t = m.fr.b ∨ t = m.ti.a ∨ t = m.ti.b → AFun Tryz.prog w 66 [.lst ((mgT m.fr.a m.pt).1.map Bd.cv), t.cw] (.val (repT (mgS m.fr.a m.pt) t).cw)
  ld1 : ∀ w, AFun Tryz.prog w fd [(repT (mgS m.fr.a m.pt) m.fr.a).cw, (repT (mgS m.fr.a m.pt) m.fr.b).cw] (.val (.b (ld (repT (mgS m.fr.a m.pt) m.fr.a) (repT (mgS m.fr.a m.pt) m.fr.b))))
  ld2 : ∀ w, AFun Tryz.prog w fd [(repT (mgS m.fr.a m.pt) m.ti.a).cw, (repT (mgS m.fr.a m.pt) m.ti.b).cw] (.val (.b (ld (repT (mgS m.fr.a m.pt) m.ti.a) (repT (mgS m.fr.a m.pt) m.ti.b))))
  ca : ∀ w, AFun Tryz.prog w 67 [.lst ((mgT m.fr.a m.pt).1.map Bd.cv), .lst ((joinM m c d).map Lt.cv)] (.val (.lst (((joinM m c d).map (Lt.rep (mgS m.fr.a m.pt))).map Lt.cv)))
  i : 0 ≤ m.fr.n ∧ m.fr.n < c.length
  j : 0 ≤ m.ti.n ∧ m.ti.n < d.length
  fb : m.fr.b.rng ∧ m.fr.b.size ≤ 1000000
  ta : m.ti.a.rng ∧ m.ti.a.size ≤ 100000
  pl : m.pl.length ≤ 1000000
-- 
set_option maxHeartbeats 16000000 in
theorem suFollows_abs (W : World) (fl fd : Nat) (ld : Tm → Tm → Bool) (c d d' : List Lt) (L M : List Int) (tp : Int) (htp : -1 ≤ tp ∧ tp ≤ 4000000000000000000) (hcl : c.length ≤ 1000) (hdl : d'.length ≤ 1000) (hc : ∀ l ∈ c, l.rok) (hd : ∀ l ∈ d', l.rok)
    (hTop : ∀ w, AFun Tryz.prog w 63 [.lst (c.map Lt.cv)] (.val (.i tp))) (hRen : ∀ w, AFun Tryz.prog w 18 [.lst (d.map Lt.cv), .i (tp + 1)] (.val (.lst (d'.map Lt.cv))))
    (hlc : ∀ w, AFun Tryz.prog w fl [.lst (c.map Lt.cv)] (.val (.lst (L.map CV.i)))) (hlM : ∀ w, AFun Tryz.prog w fl [.lst (d'.map Lt.cv)] (.val (.lst (M.map CV.i))))
    (hL : ∀ n ∈ L, 0 ≤ n ∧ n < c.length) (hM : ∀ n ∈ M, 0 ≤ n ∧ n < d'.length) (hLl : L.length ≤ 1000000) (hMl : M.length ≤ 1000000)
    (hlw : ∀ w, ∀ l, l ∈ c ∨ l ∈ d' → AFun Tryz.prog w fd [l.a.cw, l.b.cw] (.val (.b (ld l.a l.b))) ∧ AFun Tryz.prog w fd [l.b.cw, l.a.cw] (.val (.b (ld l.b l.a)))) (hsz : ∀ w ∈ wysL ld d' M, w.a.size ≤ 1000000) (hsn : ∀ w ∈ wysL ld c L, 0 ≤ w.n ∧ w.n < c.length)
    (hml : (mtsL (negAt c) (wysL ld c L) (wysL ld d' M)).length ≤ 1000000) (hfo : ∀ m ∈ mtsL (negAt c) (wysL ld c L) (wysL ld d' M), FolOk fd ld c d' m) :
    AFun Tryz.prog W 39 [ruC fl fd, .lst (c.map Lt.cv), .lst (d.map Lt.cv)] (.val (.lst ((folL ld c d' (mtsL (negAt c) (wysL ld c L) (wysL ld d' M))).map clC))) := by
  have hsw : EntF Tryz.prog 118 := ent_of Tryz.func118 rfl rfl
  have hsm : EntF Tryz.prog 90 := ent_of Tryz.func90 rfl rfl
  have hh := fun Ls => suMeet_hands c 118 118 _ _ (wysL ld c L) (wysL ld d' M) hsw hsw hsn hsz (suWays_hands fl fd ld c (by omega) L hL hLl (fun w l hl => hlw w l (.inl hl))) (suWays_hands fl fd ld d' (by omega) M hM hMl (fun w l hl => hlw w l (.inr hl))) Ls
  obtain ⟨ms, hms⟩ : ∃ ms, ms = mtsL (negAt c) (wysL ld c L) (wysL ld d' M) := ⟨_, rfl⟩
  rw [← hms] at hh hml hfo ⊢
  refine afunM_of Tryz.func39 Tryz.ntmps39 rfl rfl rfl rfl ?_
  intro w U hW
  have hme := fun w => suMeet_abs w fl fd c d' L M hlc hlM
  obtain ⟨caps, hcaps⟩ : ∃ caps, caps = [CV.ptr (.fn 118 0 [.ptr (.lst (L.map CV.i)), .ptr (.lst (c.map Lt.cv)), .ptr (ruC fl fd)]), .ptr (.lst (c.map Lt.cv)), .ptr (.fn 118 0 [.ptr (.lst (M.map CV.i)), .ptr (.lst (d'.map Lt.cv)), .ptr (ruC fl fd)])] := ⟨_, rfl⟩
  rw [← hcaps] at hme hh
  refine awpM_pre (aR ?_)
  (refine nx (a_box (gN rfl) rfl rfl rfl rfl rfl) rfl ?_)
  (refine nx (a_box (gN rfl) rfl rfl rfl rfl rfl) rfl ?_)
  (refine nx (a_box (gN rfl) rfl rfl rfl rfl rfl) rfl ?_)
  (refine nx (aA (gN rfl) rfl rfl rfl rfl rfl) rfl ?_)
  refine ⟨rfl, ?_⟩
  refine awpM_pre (aD (by kernel_rfl) (by kernel_rfl) ?_)
  (refine nx (aL (gN rfl) rfl rfl rfl rfl rfl rfl rfl rfl rfl rfl rfl rfl) rfl ?_)
  (refine nx (aL (gN rfl) rfl rfl rfl rfl rfl rfl rfl rfl rfl rfl rfl rfl) rfl ?_)
  (refine nx (a_call (gN rfl) rfl rfl rfl rfl rfl (hTop w)) rfl ?_)
  (refine nx (a_add (gN rfl) rfl rfl rfl rfl rfl rfl (by first | omega | (simp only [List.length_map, List.length_append, List.length_cons, List.length_nil] <;> omega) | (simp <;> omega))) rfl ?_)
  (refine nx (a_call (gN rfl) rfl rfl rfl rfl rfl (hRen w)) rfl ?_)
  (refine nx (aSt (gN rfl) rfl rfl rfl rfl rfl rfl rfl rfl rfl rfl) rfl ?_)
  refine ⟨by kernel_rfl, ?_⟩
  refine ⟨rfl, ?_⟩
  refine awpM_pre (aR ?_)
  (refine nx (a_alloc1N 350001 (gN rfl) rfl rfl rfl rfl rfl (by first | exact .inl ⟨rfl, rfl⟩ | exact .inr ⟨rfl, rfl⟩) rfl rfl rfl (fun v h => by first | (rw [hW.1] at h; cases h) | (have h2 := hU _ v h; cases h2))) rfl ?_)
  refine ⟨rfl, ?_⟩
  refine awpM_wk ((wk_freeze 3 rfl rfl rfl (s' := [(4, .bp 4 0 []), (100004, .bx (.lst (c.map Lt.cv))), (5, .bp 5 0 []), (100005, .bx (.lst (d'.map Lt.cv))), (7, .bp 350001 0 []), (450001, .obj), (35500100, ⟨0, .lst [], 1, 0, []⟩)]) ⟨rfl, rfl, rfl, rfl, rfl, rfl, rfl, trivial⟩ rfl rfl rfl).trans ((wk_freeze 4 rfl rfl rfl (s' := [(3, .val (.ptr (ruC fl fd))), (5, .bp 5 0 []), (100005, .bx (.lst (d'.map Lt.cv))), (7, .bp 350001 0 []), (450001, .obj), (35500100, ⟨0, .lst [], 1, 0, []⟩)]) ⟨rfl, rfl, rfl, rfl, rfl, rfl, trivial⟩ rfl rfl rfl).trans ((wk_freeze 5 rfl rfl rfl (s' := [(3, .val (.ptr (ruC fl fd))), (4, .val (.ptr (.lst (c.map Lt.cv)))), (7, .bp 350001 0 []), (450001, .obj), (35500100, ⟨0, .lst [], 1, 0, []⟩)]) ⟨rfl, rfl, rfl, rfl, rfl, trivial⟩ rfl rfl rfl).trans (wk_nilF 35500100 300005 26 1 rfl rfl rfl rfl rfl rfl)))) ?_
  refine awpM_post (awpM_pre (aR ?_))
  (refine nx (a_load_ptr (gN rfl) rfl rfl rfl rfl rfl rfl rfl rfl rfl) rfl ?_)
  (refine nx (a_load_ptr (gN rfl) rfl rfl rfl rfl rfl rfl rfl rfl rfl) rfl ?_)
  (refine nx (a_load_ptr (gN rfl) rfl rfl rfl rfl rfl rfl rfl rfl rfl) rfl ?_)
  (refine nx (a_call (gN rfl) rfl rfl rfl rfl rfl (hme w)) rfl ?_)
  refine ⟨rfl, ?_⟩
  refine awpM_block ?_
  refine awpM_wk (wk_sub (s' := (21, AV.val (.fn 90 0 caps)) :: (3, .val (.ptr (ruC fl fd))) :: (4, .val (.ptr (.lst (c.map Lt.cv)))) :: (5, .val (.ptr (.lst (d'.map Lt.cv)))) :: (7, .bp 350001 0 []) :: obE []) ⟨rfl, rfl, rfl, rfl, rfl, rfl, rfl, rfl, trivial⟩) ?_
  refine awpM_mono (awpM_rangeY (ps := [22]) (fun k => obE (folL ld c d' (ms.take k))) [(3, .val (.ptr (ruC fl fd))), (4, .val (.ptr (.lst (c.map Lt.cv)))), (5, .val (.ptr (.lst (d'.map Lt.cv)))), (7, .bp 350001 0 [])] (fun X v => [(71, .hdl v X)]) rfl hsm (hh fun k => folL ld c d' (ms.take k)) rfl (fun _ _ _ => rfl) ⟨rfl, rfl, rfl, rfl, trivial⟩ rfl ⟨.inl ⟨_, rfl⟩, .inl ⟨_, rfl⟩, .inl ⟨_, rfl⟩, .inr rfl, trivial⟩ ⟨rfl, rfl, rfl, trivial⟩ ⟨by kernel_rfl, by kernel_rfl, fun k => rfl, rfl, rfl, rfl⟩ (fun k X hX x => by
      simp only [List.mem_cons, List.not_mem_nil, or_false] at hX
      rcases hX with rfl | rfl <;> rfl) (fun X hX => .inr ⟨71, fun _ => rfl, by decide, by decide, by
      simp only [List.mem_cons, List.not_mem_nil, or_false] at hX
      unfold RN; omega⟩) (by kernel_rfl) ?_) ?_
  · intro k m hm X hX v w U hU hon1
    have hF := hfo m (List.mem_of_getElem? hm)
    have hkm : k < ms.length := by
      rcases Nat.lt_or_ge k ms.length with h | h
      · exact h
      · rw [List.getElem?_eq_none h] at hm; cases hm
    obtain ⟨L0, hL0⟩ : ∃ L0, L0 = folL ld c d' (ms.take k) := ⟨_, rfl⟩
    have hL0l : L0.length ≤ 1000000 := by
      have h1 := List.length_filterMap_le (folC ld c d') (ms.take k)
      rw [List.length_take] at h1
      rw [hL0]
      show (folL ld c d' (ms.take k)).length ≤ _
      unfold folL
      omega
    have hszc := clC_size L0
    have hL0m : (L0.map clC).length = L0.length := List.length_map ..
    rw [folL_take hm, ← hL0]
    obtain ⟨ok, hok⟩ : ∃ ok, ok = (mgT m.fr.a m.pt).2 := ⟨_, rfl⟩
    obtain ⟨g1, hg1⟩ : ∃ g, g = ld (repT (mgS m.fr.a m.pt) m.fr.a) (repT (mgS m.fr.a m.pt) m.fr.b) := ⟨_, rfl⟩
    obtain ⟨g2, hg2⟩ : ∃ g, g = ld (repT (mgS m.fr.a m.pt) m.ti.a) (repT (mgS m.fr.a m.pt) m.ti.b) := ⟨_, rfl⟩
    have hfc : folC ld c d' m = if ok = true ∧ g1 = true ∧ g2 = true then some ((joinM m c d').map (Lt.rep (mgS m.fr.a m.pt))) else none := by unfold folC; rw [hok, hg1, hg2]
    have hno : (ok = false ∨ g1 = false ∨ g2 = false) → folC ld c d' m = none := fun h => by
      rw [hfc, if_neg]
      rintro ⟨h1, h2, h3⟩
      rcases h with h | h | h
      · rw [h1] at h; cases h
      · rw [h2] at h; cases h
      · rw [h3] at h; cases h
    have hyes : ok = true → g1 = true → g2 = true → folC ld c d' m = some ((joinM m c d').map (Lt.rep (mgS m.fr.a m.pt))) := fun h1 h2 h3 => by rw [hfc, if_pos ⟨h1, h2, h3⟩]
    have hv1 : ∀ w, AFunV Tryz.prog w (.fn fd 0 []) [(repT (mgS m.fr.a m.pt) m.fr.a).cw, (repT (mgS m.fr.a m.pt) m.fr.b).cw] (.val (.b g1)) := fun w => ⟨fd, 0, [], rfl, by rw [hg1]; exact hF.ld1 w⟩
    have hv2 : ∀ w, AFunV Tryz.prog w (.fn fd 0 []) [(repT (mgS m.fr.a m.pt) m.ti.a).cw, (repT (mgS m.fr.a m.pt) m.ti.b).cw] (.val (.b g2)) := fun w => ⟨fd, 0, [], rfl, by rw [hg2]; exact hF.ld2 w⟩
    simp only [List.mem_cons, List.not_mem_nil, or_false] at hX
    rcases hX with rfl | rfl
    · have hJn := suJoin400002_abs c d' m hcl hdl hc hd hF.i hF.j hF.fb hF.ta hF.pl
      show AWp _ _ _ _ _ _ ((22, AV.val (.row [.row [.i m.fr.n, m.fr.a.cw, m.fr.b.cw], .row [.i m.ti.n, m.ti.a.cw, m.ti.b.cw], .sc (cutV v m.pl.length), m.pt.cw])) :: (71, .hdl v 400002) :: (3, .val (.ptr (ruC fl fd))) :: (4, .val (.ptr (.lst (c.map Lt.cv)))) :: (5, .val (.ptr (.lst (d'.map Lt.cv)))) :: (7, .bp 350001 0 []) :: obX L0 400002 m.pl)
      refine aR ?_
      (refine nx (a_allocT mtZ4 (gN rfl) rfl rfl rfl rfl rfl rfl rfl) (by kernel_rfl) ?_)
      (refine nx (aSt (gN rfl) rfl rfl rfl rfl rfl rfl rfl rfl rfl rfl) rfl ?_)
      refine ⟨rfl, fun w1 hon2 => awpN_of ?_⟩
      refine AWp.wk (wk_sub (s' := (8, AV.bp 8 0 []) :: (100008, .bx (.row [.row [.i m.fr.n, m.fr.a.cw, m.fr.b.cw], .row [.i m.ti.n, m.ti.a.cw, m.ti.b.cw], .sc (cutV v m.pl.length), m.pt.cw])) :: (3, .val (.ptr (ruC fl fd))) :: (4, .val (.ptr (.lst (c.map Lt.cv)))) :: (5, .val (.ptr (.lst (d'.map Lt.cv)))) :: (7, .bp 350001 0 []) :: (71, .hdl v 400002) :: obX L0 400002 m.pl) ⟨rfl, rfl, rfl, rfl, rfl, rfl, rfl, rfl, rfl, rfl, rfl, trivial⟩) ?_
      refine aB (aS (aR ?_))
      (refine nx (aF (gN rfl) rfl rfl rfl rfl rfl rfl rfl rfl rfl) rfl ?_)
      (refine nx (aF (gN rfl) rfl rfl rfl rfl rfl rfl rfl rfl rfl) rfl ?_)
      (refine nx (aLb (gN rfl) rfl rfl rfl rfl rfl rfl rfl rfl rfl rfl rfl rfl) rfl ?_)
      (refine nx (aF (gN rfl) rfl rfl rfl rfl rfl rfl rfl rfl rfl) rfl ?_)
      (refine nx (aLb (gN rfl) rfl rfl rfl rfl rfl rfl rfl rfl rfl rfl rfl rfl) rfl ?_)
      (refine nx (a_call (gN rfl) rfl rfl rfl rfl rfl (hF.un w1)) rfl ?_)
      (refine nx (aM (gN rfl) rfl rfl rfl rfl rfl) rfl ?_)
      (refine nx (aX (gN rfl) rfl rfl rfl rfl rfl rfl) rfl ?_)
      (refine nx (aX (gN rfl) rfl rfl rfl rfl rfl rfl) rfl ?_)
      (refine nx (aA (gN rfl) rfl rfl rfl rfl rfl) rfl ?_)
      (refine nx (aA (gN rfl) rfl rfl rfl rfl rfl) rfl ?_)
      show AWp _ _ _ _ _ _ _
      refine AWp.wk (wk_sub (s' := (9, AV.val (.lst ((mgT m.fr.a m.pt).1.map Bd.cv))) :: (10, .val (.b ok)) :: (8, AV.bp 8 0 []) :: (100008, .bx (.row [.row [.i m.fr.n, m.fr.a.cw, m.fr.b.cw], .row [.i m.ti.n, m.ti.a.cw, m.ti.b.cw], .sc (cutV v m.pl.length), m.pt.cw])) :: (3, .val (.ptr (ruC fl fd))) :: (4, .val (.ptr (.lst (c.map Lt.cv)))) :: (5, .val (.ptr (.lst (d'.map Lt.cv)))) :: (7, .bp 350001 0 []) :: (71, .hdl v 400002) :: obX L0 400002 m.pl) ⟨rfl, by rw [hok]; rfl, rfl, rfl, rfl, rfl, rfl, rfl, rfl, rfl, rfl, rfl, rfl, trivial⟩) ?_
      cases ok with
      | false =>
        rw [hno (.inl rfl)]
        refine aS (aS (aR ?_))
        (refine nx (aM (gN rfl) rfl rfl rfl rfl rfl) rfl ?_)
        (refine nx (a_not (gN rfl) rfl rfl rfl rfl rfl) rfl ?_)
        show AWp _ _ _ _ _ _ _
        refine aC rfl (fun _ => ?_) (fun h => by cases h)
        refine aE ?_
        refine ⟨rfl, wk_sub ⟨rfl, ?_, ?_, rfl, trivial⟩⟩
        · show some (AV.sl _ _ _ _) = some (AV.sl _ _ _ _); simp
        · show some (AV.mrow _ _ _) = some (AV.mrow _ _ _); simp
      | true =>
        refine aS (aS (aR ?_))
        (refine nx (aM (gN rfl) rfl rfl rfl rfl rfl) rfl ?_)
        (refine nx (a_not (gN rfl) rfl rfl rfl rfl rfl) rfl ?_)
        show AWp _ _ _ _ _ _ _
        refine aC rfl (fun h => by cases h) (fun _ => aK ?_)
        show AWp _ _ _ _ _ _ _
        refine aS (aD (by kernel_rfl) (by kernel_rfl) ?_)
        (refine nx (aF (gN rfl) rfl rfl rfl rfl rfl rfl rfl rfl rfl) rfl ?_)
        (refine nx (aLb (gN rfl) rfl rfl rfl rfl rfl rfl rfl rfl rfl rfl rfl rfl) rfl ?_)
        (refine nx (aF (gN rfl) rfl rfl rfl rfl rfl rfl rfl rfl rfl) rfl ?_)
        (refine nx (aLb (gN rfl) rfl rfl rfl rfl rfl rfl rfl rfl rfl rfl rfl rfl) rfl ?_)
        (refine nx (a_allocT [.i 0, .row [.i 0, .lst []], .row [.i 0, .lst []]] (gN rfl) rfl rfl rfl rfl rfl rfl rfl) (by kernel_rfl) ?_)
        (refine nx (a_allocT [.i 0, .row [.i 0, .lst []], .row [.i 0, .lst []]] (gN rfl) rfl rfl rfl rfl rfl rfl rfl) (by kernel_rfl) ?_)
        (refine nx (aSt (gN rfl) rfl rfl rfl rfl rfl rfl rfl rfl rfl rfl) rfl ?_)
        (refine nx (aSt (gN rfl) rfl rfl rfl rfl rfl rfl rfl rfl rfl rfl) rfl ?_)
        refine ⟨by kernel_rfl, ?_⟩
        show AWp _ _ _ _ _ _ _
        refine AWp.wk ((wk_sub (s' := (9, AV.val (.lst ((mgT m.fr.a m.pt).1.map Bd.cv))) :: (11, .bp 11 0 []) :: (100011, .bx (.row [.i m.fr.n, m.fr.a.cw, m.fr.b.cw])) :: (12, .bp 12 0 []) :: (100012, .bx (.row [.i m.ti.n, m.ti.a.cw, m.ti.b.cw])) :: (8, AV.bp 8 0 []) :: (100008, .bx (.row [.row [.i m.fr.n, m.fr.a.cw, m.fr.b.cw], .row [.i m.ti.n, m.ti.a.cw, m.ti.b.cw], .sc (cutV v m.pl.length), m.pt.cw])) :: (3, .val (.ptr (ruC fl fd))) :: (4, .val (.ptr (.lst (c.map Lt.cv)))) :: (5, .val (.ptr (.lst (d'.map Lt.cv)))) :: (7, .bp 350001 0 []) :: (71, .hdl v 400002) :: obX L0 400002 m.pl) ⟨rfl, rfl, rfl, rfl, rfl, rfl, rfl, rfl, rfl, rfl, rfl, rfl, rfl, rfl, rfl, rfl, trivial⟩).trans (wk_ptrad 3 rfl rfl)) ?_
        cases g1 with
        | false =>
          rw [hno (.inr (.inl rfl))]
          refine aS (aD (by kernel_rfl) (by kernel_rfl) ?_)
          (refine nx (a_field_ad (gN rfl) rfl rfl rfl rfl rfl rfl rfl rfl rfl rfl rfl) rfl ?_)
          (refine nx (a_load_ad (gN rfl) rfl rfl rfl rfl rfl rfl rfl rfl rfl) rfl ?_)
          (refine nx (aM (gN rfl) rfl rfl rfl rfl rfl) rfl ?_)
          (refine nx (aF (gN rfl) rfl rfl rfl rfl rfl rfl rfl rfl rfl) rfl ?_)
          (refine nx (aLb (gN rfl) rfl rfl rfl rfl rfl rfl rfl rfl rfl rfl rfl rfl) rfl ?_)
          (refine nx (a_call (gN rfl) rfl rfl rfl rfl rfl (hF.ap w1 _ (.inl rfl))) rfl ?_)
          (refine nx (aM (gN rfl) rfl rfl rfl rfl rfl) rfl ?_)
          (refine nx (aF (gN rfl) rfl rfl rfl rfl rfl rfl rfl rfl rfl) rfl ?_)
          (refine nx (aLb (gN rfl) rfl rfl rfl rfl rfl rfl rfl rfl rfl rfl rfl rfl) rfl ?_)
          (refine nx (a_call (gN rfl) rfl rfl rfl rfl rfl (hF.ap w1 _ (.inr (.inl rfl)))) rfl ?_)
          (refine nx (a_callv (gN rfl) rfl rfl rfl rfl rfl rfl (hv1 w1)) rfl ?_)
          (refine nx (aM (gN rfl) rfl rfl rfl rfl rfl) rfl ?_)
          (refine ⟨_, _, _, a_off (go_off rfl rfl rfl rfl (by first | rfl | assumption | (simp; done) | (simp [*]; done))) rfl rfl rfl, rfl, ?_⟩)
          (refine ⟨_, _, _, a_off (go_off rfl rfl rfl rfl (by first | rfl | assumption | (simp; done) | (simp [*]; done))) rfl rfl rfl, rfl, ?_⟩)
          (refine ⟨_, _, _, a_off (go_off rfl rfl rfl rfl (by first | rfl | assumption | (simp; done) | (simp [*]; done))) rfl rfl rfl, rfl, ?_⟩)
          (refine ⟨_, _, _, a_off (go_off rfl rfl rfl rfl (by first | rfl | assumption | (simp; done) | (simp [*]; done))) rfl rfl rfl, rfl, ?_⟩)
          (refine ⟨_, _, _, a_off (go_off rfl rfl rfl rfl (by first | rfl | assumption | (simp; done) | (simp [*]; done))) rfl rfl rfl, rfl, ?_⟩)
          (refine ⟨_, _, _, a_off (go_off rfl rfl rfl rfl (by first | rfl | assumption | (simp; done) | (simp [*]; done))) rfl rfl rfl, rfl, ?_⟩)
          (refine ⟨_, _, _, a_off (go_off rfl rfl rfl rfl (by first | rfl | assumption | (simp; done) | (simp [*]; done))) rfl rfl rfl, rfl, ?_⟩)
          (refine ⟨_, _, _, a_off (go_off rfl rfl rfl rfl (by first | rfl | assumption | (simp; done) | (simp [*]; done))) rfl rfl rfl, rfl, ?_⟩)
          (refine ⟨_, _, _, a_off (go_off rfl rfl rfl rfl (by first | rfl | assumption | (simp; done) | (simp [*]; done))) rfl rfl rfl, rfl, ?_⟩)
          (refine ⟨_, _, _, a_off (go_off rfl rfl rfl rfl (by first | rfl | assumption | (simp; done) | (simp [*]; done))) rfl rfl rfl, rfl, ?_⟩)
          (refine ⟨_, _, _, a_off (go_off rfl rfl rfl rfl (by first | rfl | assumption | (simp; done) | (simp [*]; done))) rfl rfl rfl, rfl, ?_⟩)
          (refine ⟨_, _, _, aPf (gN rfl) rfl rfl rfl rfl rfl ?hb rfl, rfl, ?_⟩; case hb => (first | rfl | assumption | (simp; done)))
          refine ⟨by kernel_rfl, ?_⟩
          show AWp _ _ _ _ _ _ _
          refine aC rfl (fun h => by cases h) (fun _ => aK ?_)
          refine ⟨rfl, wk_sub ⟨rfl, ?_, ?_, rfl, trivial⟩⟩
          · show some (AV.sl _ _ _ _) = some (AV.sl _ _ _ _); simp
          · show some (AV.mrow _ _ _) = some (AV.mrow _ _ _); simp
        | true =>
          refine aS (aD (by kernel_rfl) (by kernel_rfl) ?_)
          (refine nx (a_field_ad (gN rfl) rfl rfl rfl rfl rfl rfl rfl rfl rfl rfl rfl) rfl ?_)
          (refine nx (a_load_ad (gN rfl) rfl rfl rfl rfl rfl rfl rfl rfl rfl) rfl ?_)
          (refine nx (aM (gN rfl) rfl rfl rfl rfl rfl) rfl ?_)
          (refine nx (aF (gN rfl) rfl rfl rfl rfl rfl rfl rfl rfl rfl) rfl ?_)
          (refine nx (aLb (gN rfl) rfl rfl rfl rfl rfl rfl rfl rfl rfl rfl rfl rfl) rfl ?_)
          (refine nx (a_call (gN rfl) rfl rfl rfl rfl rfl (hF.ap w1 _ (.inl rfl))) rfl ?_)
          (refine nx (aM (gN rfl) rfl rfl rfl rfl rfl) rfl ?_)
          (refine nx (aF (gN rfl) rfl rfl rfl rfl rfl rfl rfl rfl rfl) rfl ?_)
          (refine nx (aLb (gN rfl) rfl rfl rfl rfl rfl rfl rfl rfl rfl rfl rfl rfl) rfl ?_)
          (refine nx (a_call (gN rfl) rfl rfl rfl rfl rfl (hF.ap w1 _ (.inr (.inl rfl)))) rfl ?_)
          (refine nx (a_callv (gN rfl) rfl rfl rfl rfl rfl rfl (hv1 w1)) rfl ?_)
          (refine nx (aM (gN rfl) rfl rfl rfl rfl rfl) rfl ?_)
          (refine nx (a_field_ad (gd_on rfl rfl rfl rfl (by first | rfl | assumption | (simp; done))) rfl rfl rfl rfl rfl rfl rfl rfl rfl rfl rfl) rfl ?_)
          (refine nx (a_load_ad (gd_on rfl rfl rfl rfl (by first | rfl | assumption | (simp; done))) rfl rfl rfl rfl rfl rfl rfl rfl rfl) rfl ?_)
          (refine nx (aM (gd_on rfl rfl rfl rfl (by first | rfl | assumption | (simp; done))) rfl rfl rfl rfl rfl) rfl ?_)
          (refine nx (aF (gd_on rfl rfl rfl rfl (by first | rfl | assumption | (simp; done))) rfl rfl rfl rfl rfl rfl rfl rfl rfl) rfl ?_)
          (refine nx (aLb (gd_on rfl rfl rfl rfl (by first | rfl | assumption | (simp; done))) rfl rfl rfl rfl rfl rfl rfl rfl rfl rfl rfl rfl) rfl ?_)
          (refine nx (a_call (gd_on rfl rfl rfl rfl (by first | rfl | assumption | (simp; done))) rfl rfl rfl rfl rfl (hF.ap w1 _ (.inr (.inr (.inl rfl))))) rfl ?_)
          (refine nx (aM (gd_on rfl rfl rfl rfl (by first | rfl | assumption | (simp; done))) rfl rfl rfl rfl rfl) rfl ?_)
          (refine nx (aF (gd_on rfl rfl rfl rfl (by first | rfl | assumption | (simp; done))) rfl rfl rfl rfl rfl rfl rfl rfl rfl) rfl ?_)
          (refine nx (aLb (gd_on rfl rfl rfl rfl (by first | rfl | assumption | (simp; done))) rfl rfl rfl rfl rfl rfl rfl rfl rfl rfl rfl rfl) rfl ?_)
          (refine nx (a_call (gd_on rfl rfl rfl rfl (by first | rfl | assumption | (simp; done))) rfl rfl rfl rfl rfl (hF.ap w1 _ (.inr (.inr (.inr rfl))))) rfl ?_)
          (refine nx (a_callv (gd_on rfl rfl rfl rfl (by first | rfl | assumption | (simp; done))) rfl rfl rfl rfl rfl rfl (hv2 w1)) rfl ?_)
          (refine ⟨_, _, _, aPt (gN rfl) rfl rfl rfl rfl rfl ?hb rfl, rfl, ?_⟩; case hb => (first | rfl | assumption | (simp; done)))
          refine ⟨by kernel_rfl, ?_⟩
          show AWp _ _ _ _ _ _ _
          cases g2 with
          | false =>
            rw [hno (.inr (.inr rfl))]
            refine aC rfl (fun h => by cases h) (fun _ => aK ?_)
            refine ⟨rfl, wk_sub ⟨rfl, ?_, ?_, rfl, trivial⟩⟩
            · show some (AV.sl _ _ _ _) = some (AV.sl _ _ _ _); simp
            · show some (AV.mrow _ _ _) = some (AV.mrow _ _ _); simp
          | true =>
            rw [hyes rfl rfl rfl]
            have hca := hF.ca w1
            obtain ⟨z, hz⟩ : ∃ z, z = (joinM m c d').map (Lt.rep (mgS m.fr.a m.pt)) := ⟨_, rfl⟩
            rw [← hz] at hca ⊢
            refine aC rfl (fun _ => ?_) (fun h => by cases h)
            refine AWp.wk (wk_sub (s' := (9, AV.val (.lst ((mgT m.fr.a m.pt).1.map Bd.cv))) :: (8, AV.bp 8 0 []) :: (100008, .bx (.row [.row [.i m.fr.n, m.fr.a.cw, m.fr.b.cw], .row [.i m.ti.n, m.ti.a.cw, m.ti.b.cw], .sc (cutV v m.pl.length), m.pt.cw])) :: (4, .val (.ptr (.lst (c.map Lt.cv)))) :: (5, .val (.ptr (.lst (d'.map Lt.cv)))) :: (7, .bp 350001 0 []) :: (71, .hdl v 400002) :: obX L0 400002 m.pl) ⟨rfl, rfl, rfl, rfl, rfl, rfl, rfl, rfl, rfl, rfl, rfl, trivial⟩) ?_
            refine aD (by kernel_rfl) (by kernel_rfl) ?_
            (refine nx (aLf (gN rfl) rfl rfl rfl rfl rfl rfl rfl rfl rfl rfl rfl rfl rfl) rfl ?_)
            (refine nx (aM (gN rfl) rfl rfl rfl rfl rfl) rfl ?_)
            (refine nx (aL (gN rfl) rfl rfl rfl rfl rfl rfl rfl rfl rfl rfl rfl rfl) rfl ?_)
            (refine nx (a_load_ptr (gN rfl) rfl rfl rfl rfl rfl rfl rfl rfl rfl) rfl ?_)
            (refine nx (a_load_ptr (gN rfl) rfl rfl rfl rfl rfl rfl rfl rfl rfl) rfl ?_)
            (refine nx (a_callH 71 71 (gN rfl) rfl rfl rfl rfl (hJn) rfl rfl rfl rfl (by repeat (first | exact trivial | refine ⟨rfl, ?_⟩)) (by first | rfl | kernel_rfl) (by first | rfl | kernel_rfl) (by first | rfl | kernel_rfl) (by first | rfl | kernel_rfl) (hnb_of (by first | rfl | kernel_rfl))) rfl ?_)
            (refine nx (a_call (gN rfl) rfl rfl rfl rfl rfl (hca)) rfl ?_)
            (refine nx (a_bslice (gN rfl) rfl rfl rfl rfl rfl rfl rfl rfl rfl rfl rfl rfl rfl) rfl ?_)
            (refine nx (a_appM 300006 (gN rfl) rfl rfl rfl rfl rfl rfl rfl rfl rfl rfl rfl rfl rfl (by first | rfl | omega | (simp only [List.length_set, List.length_map, List.length_append, List.length_cons, List.length_nil] <;> omega) | (simp <;> omega)) (by first | assumption | exact sZ rfl | exact Tm.size_all _ | exact Bd.size_all _ | exact ints_size _ | exact bys_size _ | exact Lt.size_all _) (by first | omega | (simp only [List.length_map, List.length_append, List.length_cons, List.length_nil] <;> omega) | (simp <;> omega))) (by kernel_rfl) ?_)
            (refine nx (a_store_fld (gN rfl) rfl rfl rfl rfl rfl rfl rfl rfl rfl rfl rfl rfl) rfl ?_)
            refine ⟨by kernel_rfl, ?_⟩
            refine ⟨rfl, (wk_sub (s' := [(450001, .obj), (35500100, .sl 300006 0 (L0 ++ [z]).length 1), (300006, .mrow 26 1 ((L0 ++ [z]).map clC)), (400002, .mrow 3 1 (m.pl.map CV.i))]) ⟨rfl, ?_, ?_, rfl, trivial⟩).trans (wk_ren 300006 300005 rfl rfl (by kernel_rfl) (by kernel_rfl))⟩
            · show some (AV.sl _ _ _ _) = some (AV.sl _ _ _ _)
              rw [List.length_append, ← hL0m]; rfl
            · show some (AV.mrow _ _ _) = some (AV.mrow _ _ _)
              rw [List.map_append (f := clC)]; rfl
    · have hJn := suJoin400003_abs c d' m hcl hdl hc hd hF.i hF.j hF.fb hF.ta hF.pl
      show AWp _ _ _ _ _ _ ((22, AV.val (.row [.row [.i m.fr.n, m.fr.a.cw, m.fr.b.cw], .row [.i m.ti.n, m.ti.a.cw, m.ti.b.cw], .sc (cutV v m.pl.length), m.pt.cw])) :: (71, .hdl v 400003) :: (3, .val (.ptr (ruC fl fd))) :: (4, .val (.ptr (.lst (c.map Lt.cv)))) :: (5, .val (.ptr (.lst (d'.map Lt.cv)))) :: (7, .bp 350001 0 []) :: obX L0 400003 m.pl)
      refine aR ?_
      (refine nx (a_allocT mtZ4 (gN rfl) rfl rfl rfl rfl rfl rfl rfl) (by kernel_rfl) ?_)
      (refine nx (aSt (gN rfl) rfl rfl rfl rfl rfl rfl rfl rfl rfl rfl) rfl ?_)
      refine ⟨rfl, fun w1 hon2 => awpN_of ?_⟩
      refine AWp.wk (wk_sub (s' := (8, AV.bp 8 0 []) :: (100008, .bx (.row [.row [.i m.fr.n, m.fr.a.cw, m.fr.b.cw], .row [.i m.ti.n, m.ti.a.cw, m.ti.b.cw], .sc (cutV v m.pl.length), m.pt.cw])) :: (3, .val (.ptr (ruC fl fd))) :: (4, .val (.ptr (.lst (c.map Lt.cv)))) :: (5, .val (.ptr (.lst (d'.map Lt.cv)))) :: (7, .bp 350001 0 []) :: (71, .hdl v 400003) :: obX L0 400003 m.pl) ⟨rfl, rfl, rfl, rfl, rfl, rfl, rfl, rfl, rfl, rfl, rfl, trivial⟩) ?_
      refine aB (aS (aR ?_))
      (refine nx (aF (gN rfl) rfl rfl rfl rfl rfl rfl rfl rfl rfl) rfl ?_)
      (refine nx (aF (gN rfl) rfl rfl rfl rfl rfl rfl rfl rfl rfl) rfl ?_)
      (refine nx (aLb (gN rfl) rfl rfl rfl rfl rfl rfl rfl rfl rfl rfl rfl rfl) rfl ?_)
      (refine nx (aF (gN rfl) rfl rfl rfl rfl rfl rfl rfl rfl rfl) rfl ?_)
      (refine nx (aLb (gN rfl) rfl rfl rfl rfl rfl rfl rfl rfl rfl rfl rfl rfl) rfl ?_)
      (refine nx (a_call (gN rfl) rfl rfl rfl rfl rfl (hF.un w1)) rfl ?_)
      (refine nx (aM (gN rfl) rfl rfl rfl rfl rfl) rfl ?_)
      (refine nx (aX (gN rfl) rfl rfl rfl rfl rfl rfl) rfl ?_)
      (refine nx (aX (gN rfl) rfl rfl rfl rfl rfl rfl) rfl ?_)
      (refine nx (aA (gN rfl) rfl rfl rfl rfl rfl) rfl ?_)
      (refine nx (aA (gN rfl) rfl rfl rfl rfl rfl) rfl ?_)
      show AWp _ _ _ _ _ _ _
      refine AWp.wk (wk_sub (s' := (9, AV.val (.lst ((mgT m.fr.a m.pt).1.map Bd.cv))) :: (10, .val (.b ok)) :: (8, AV.bp 8 0 []) :: (100008, .bx (.row [.row [.i m.fr.n, m.fr.a.cw, m.fr.b.cw], .row [.i m.ti.n, m.ti.a.cw, m.ti.b.cw], .sc (cutV v m.pl.length), m.pt.cw])) :: (3, .val (.ptr (ruC fl fd))) :: (4, .val (.ptr (.lst (c.map Lt.cv)))) :: (5, .val (.ptr (.lst (d'.map Lt.cv)))) :: (7, .bp 350001 0 []) :: (71, .hdl v 400003) :: obX L0 400003 m.pl) ⟨rfl, by rw [hok]; rfl, rfl, rfl, rfl, rfl, rfl, rfl, rfl, rfl, rfl, rfl, rfl, trivial⟩) ?_
      cases ok with
      | false =>
        rw [hno (.inl rfl)]
        refine aS (aS (aR ?_))
        (refine nx (aM (gN rfl) rfl rfl rfl rfl rfl) rfl ?_)
        (refine nx (a_not (gN rfl) rfl rfl rfl rfl rfl) rfl ?_)
        show AWp _ _ _ _ _ _ _
        refine aC rfl (fun _ => ?_) (fun h => by cases h)
        refine aE ?_
        refine ⟨rfl, wk_sub ⟨rfl, ?_, ?_, rfl, trivial⟩⟩
        · show some (AV.sl _ _ _ _) = some (AV.sl _ _ _ _); simp
        · show some (AV.mrow _ _ _) = some (AV.mrow _ _ _); simp
      | true =>
        refine aS (aS (aR ?_))
        (refine nx (aM (gN rfl) rfl rfl rfl rfl rfl) rfl ?_)
        (refine nx (a_not (gN rfl) rfl rfl rfl rfl rfl) rfl ?_)
        show AWp _ _ _ _ _ _ _
        refine aC rfl (fun h => by cases h) (fun _ => aK ?_)
        show AWp _ _ _ _ _ _ _
        refine aS (aD (by kernel_rfl) (by kernel_rfl) ?_)
        (refine nx (aF (gN rfl) rfl rfl rfl rfl rfl rfl rfl rfl rfl) rfl ?_)
        (refine nx (aLb (gN rfl) rfl rfl rfl rfl rfl rfl rfl rfl rfl rfl rfl rfl) rfl ?_)
        (refine nx (aF (gN rfl) rfl rfl rfl rfl rfl rfl rfl rfl rfl) rfl ?_)
        (refine nx (aLb (gN rfl) rfl rfl rfl rfl rfl rfl rfl rfl rfl rfl rfl rfl) rfl ?_)
        (refine nx (a_allocT [.i 0, .row [.i 0, .lst []], .row [.i 0, .lst []]] (gN rfl) rfl rfl rfl rfl rfl rfl rfl) (by kernel_rfl) ?_)
        (refine nx (a_allocT [.i 0, .row [.i 0, .lst []], .row [.i 0, .lst []]] (gN rfl) rfl rfl rfl rfl rfl rfl rfl) (by kernel_rfl) ?_)
        (refine nx (aSt (gN rfl) rfl rfl rfl rfl rfl rfl rfl rfl rfl rfl) rfl ?_)
        (refine nx (aSt (gN rfl) rfl rfl rfl rfl rfl rfl rfl rfl rfl rfl) rfl ?_)
        refine ⟨by kernel_rfl, ?_⟩
        show AWp _ _ _ _ _ _ _
        refine AWp.wk ((wk_sub (s' := (9, AV.val (.lst ((mgT m.fr.a m.pt).1.map Bd.cv))) :: (11, .bp 11 0 []) :: (100011, .bx (.row [.i m.fr.n, m.fr.a.cw, m.fr.b.cw])) :: (12, .bp 12 0 []) :: (100012, .bx (.row [.i m.ti.n, m.ti.a.cw, m.ti.b.cw])) :: (8, AV.bp 8 0 []) :: (100008, .bx (.row [.row [.i m.fr.n, m.fr.a.cw, m.fr.b.cw], .row [.i m.ti.n, m.ti.a.cw, m.ti.b.cw], .sc (cutV v m.pl.length), m.pt.cw])) :: (3, .val (.ptr (ruC fl fd))) :: (4, .val (.ptr (.lst (c.map Lt.cv)))) :: (5, .val (.ptr (.lst (d'.map Lt.cv)))) :: (7, .bp 350001 0 []) :: (71, .hdl v 400003) :: obX L0 400003 m.pl) ⟨rfl, rfl, rfl, rfl, rfl, rfl, rfl, rfl, rfl, rfl, rfl, rfl, rfl, rfl, rfl, rfl, trivial⟩).trans (wk_ptrad 3 rfl rfl)) ?_
        cases g1 with
        | false =>
          rw [hno (.inr (.inl rfl))]
          refine aS (aD (by kernel_rfl) (by kernel_rfl) ?_)
          (refine nx (a_field_ad (gN rfl) rfl rfl rfl rfl rfl rfl rfl rfl rfl rfl rfl) rfl ?_)
          (refine nx (a_load_ad (gN rfl) rfl rfl rfl rfl rfl rfl rfl rfl rfl) rfl ?_)
          (refine nx (aM (gN rfl) rfl rfl rfl rfl rfl) rfl ?_)
          (refine nx (aF (gN rfl) rfl rfl rfl rfl rfl rfl rfl rfl rfl) rfl ?_)
          (refine nx (aLb (gN rfl) rfl rfl rfl rfl rfl rfl rfl rfl rfl rfl rfl rfl) rfl ?_)
          (refine nx (a_call (gN rfl) rfl rfl rfl rfl rfl (hF.ap w1 _ (.inl rfl))) rfl ?_)
          (refine nx (aM (gN rfl) rfl rfl rfl rfl rfl) rfl ?_)
          (refine nx (aF (gN rfl) rfl rfl rfl rfl rfl rfl rfl rfl rfl) rfl ?_)
          (refine nx (aLb (gN rfl) rfl rfl rfl rfl rfl rfl rfl rfl rfl rfl rfl rfl) rfl ?_)
          (refine nx (a_call (gN rfl) rfl rfl rfl rfl rfl (hF.ap w1 _ (.inr (.inl rfl)))) rfl ?_)
          (refine nx (a_callv (gN rfl) rfl rfl rfl rfl rfl rfl (hv1 w1)) rfl ?_)
          (refine nx (aM (gN rfl) rfl rfl rfl rfl rfl) rfl ?_)
          (refine ⟨_, _, _, a_off (go_off rfl rfl rfl rfl (by first | rfl | assumption | (simp; done) | (simp [*]; done))) rfl rfl rfl, rfl, ?_⟩)
          (refine ⟨_, _, _, a_off (go_off rfl rfl rfl rfl (by first | rfl | assumption | (simp; done) | (simp [*]; done))) rfl rfl rfl, rfl, ?_⟩)
          (refine ⟨_, _, _, a_off (go_off rfl rfl rfl rfl (by first | rfl | assumption | (simp; done) | (simp [*]; done))) rfl rfl rfl, rfl, ?_⟩)
          (refine ⟨_, _, _, a_off (go_off rfl rfl rfl rfl (by first | rfl | assumption | (simp; done) | (simp [*]; done))) rfl rfl rfl, rfl, ?_⟩)
          (refine ⟨_, _, _, a_off (go_off rfl rfl rfl rfl (by first | rfl | assumption | (simp; done) | (simp [*]; done))) rfl rfl rfl, rfl, ?_⟩)
          (refine ⟨_, _, _, a_off (go_off rfl rfl rfl rfl (by first | rfl | assumption | (simp; done) | (simp [*]; done))) rfl rfl rfl, rfl, ?_⟩)
          (refine ⟨_, _, _, a_off (go_off rfl rfl rfl rfl (by first | rfl | assumption | (simp; done) | (simp [*]; done))) rfl rfl rfl, rfl, ?_⟩)
          (refine ⟨_, _, _, a_off (go_off rfl rfl rfl rfl (by first | rfl | assumption | (simp; done) | (simp [*]; done))) rfl rfl rfl, rfl, ?_⟩)
          (refine ⟨_, _, _, a_off (go_off rfl rfl rfl rfl (by first | rfl | assumption | (simp; done) | (simp [*]; done))) rfl rfl rfl, rfl, ?_⟩)
          (refine ⟨_, _, _, a_off (go_off rfl rfl rfl rfl (by first | rfl | assumption | (simp; done) | (simp [*]; done))) rfl rfl rfl, rfl, ?_⟩)
          (refine ⟨_, _, _, a_off (go_off rfl rfl rfl rfl (by first | rfl | assumption | (simp; done) | (simp [*]; done))) rfl rfl rfl, rfl, ?_⟩)
          (refine ⟨_, _, _, aPf (gN rfl) rfl rfl rfl rfl rfl ?hb rfl, rfl, ?_⟩; case hb => (first | rfl | assumption | (simp; done)))
          refine ⟨by kernel_rfl, ?_⟩
          show AWp _ _ _ _ _ _ _
          refine aC rfl (fun h => by cases h) (fun _ => aK ?_)
          refine ⟨rfl, wk_sub ⟨rfl, ?_, ?_, rfl, trivial⟩⟩
          · show some (AV.sl _ _ _ _) = some (AV.sl _ _ _ _); simp
          · show some (AV.mrow _ _ _) = some (AV.mrow _ _ _); simp
        | true =>
          refine aS (aD (by kernel_rfl) (by kernel_rfl) ?_)
          (refine nx (a_field_ad (gN rfl) rfl rfl rfl rfl rfl rfl rfl rfl rfl rfl rfl) rfl ?_)
          (refine nx (a_load_ad (gN rfl) rfl rfl rfl rfl rfl rfl rfl rfl rfl) rfl ?_)
          (refine nx (aM (gN rfl) rfl rfl rfl rfl rfl) rfl ?_)
          (refine nx (aF (gN rfl) rfl rfl rfl rfl rfl rfl rfl rfl rfl) rfl ?_)
          (refine nx (aLb (gN rfl) rfl rfl rfl rfl rfl rfl rfl rfl rfl rfl rfl rfl) rfl ?_)
          (refine nx (a_call (gN rfl) rfl rfl rfl rfl rfl (hF.ap w1 _ (.inl rfl))) rfl ?_)
          (refine nx (aM (gN rfl) rfl rfl rfl rfl rfl) rfl ?_)
          (refine nx (aF (gN rfl) rfl rfl rfl rfl rfl rfl rfl rfl rfl) rfl ?_)
          (refine nx (aLb (gN rfl) rfl rfl rfl rfl rfl rfl rfl rfl rfl rfl rfl rfl) rfl ?_)
          (refine nx (a_call (gN rfl) rfl rfl rfl rfl rfl (hF.ap w1 _ (.inr (.inl rfl)))) rfl ?_)
          (refine nx (a_callv (gN rfl) rfl rfl rfl rfl rfl rfl (hv1 w1)) rfl ?_)
          (refine nx (aM (gN rfl) rfl rfl rfl rfl rfl) rfl ?_)
          (refine nx (a_field_ad (gd_on rfl rfl rfl rfl (by first | rfl | assumption | (simp; done))) rfl rfl rfl rfl rfl rfl rfl rfl rfl rfl rfl) rfl ?_)
          (refine nx (a_load_ad (gd_on rfl rfl rfl rfl (by first | rfl | assumption | (simp; done))) rfl rfl rfl rfl rfl rfl rfl rfl rfl) rfl ?_)
          (refine nx (aM (gd_on rfl rfl rfl rfl (by first | rfl | assumption | (simp; done))) rfl rfl rfl rfl rfl) rfl ?_)
          (refine nx (aF (gd_on rfl rfl rfl rfl (by first | rfl | assumption | (simp; done))) rfl rfl rfl rfl rfl rfl rfl rfl rfl) rfl ?_)
          (refine nx (aLb (gd_on rfl rfl rfl rfl (by first | rfl | assumption | (simp; done))) rfl rfl rfl rfl rfl rfl rfl rfl rfl rfl rfl rfl) rfl ?_)
          (refine nx (a_call (gd_on rfl rfl rfl rfl (by first | rfl | assumption | (simp; done))) rfl rfl rfl rfl rfl (hF.ap w1 _ (.inr (.inr (.inl rfl))))) rfl ?_)
          (refine nx (aM (gd_on rfl rfl rfl rfl (by first | rfl | assumption | (simp; done))) rfl rfl rfl rfl rfl) rfl ?_)
          (refine nx (aF (gd_on rfl rfl rfl rfl (by first | rfl | assumption | (simp; done))) rfl rfl rfl rfl rfl rfl rfl rfl rfl) rfl ?_)
          (refine nx (aLb (gd_on rfl rfl rfl rfl (by first | rfl | assumption | (simp; done))) rfl rfl rfl rfl rfl rfl rfl rfl rfl rfl rfl rfl) rfl ?_)
          (refine nx (a_call (gd_on rfl rfl rfl rfl (by first | rfl | assumption | (simp; done))) rfl rfl rfl rfl rfl (hF.ap w1 _ (.inr (.inr (.inr rfl))))) rfl ?_)
          (refine nx (a_callv (gd_on rfl rfl rfl rfl (by first | rfl | assumption | (simp; done))) rfl rfl rfl rfl rfl rfl (hv2 w1)) rfl ?_)
          (refine ⟨_, _, _, aPt (gN rfl) rfl rfl rfl rfl rfl ?hb rfl, rfl, ?_⟩; case hb => (first | rfl | assumption | (simp; done)))
          refine ⟨by kernel_rfl, ?_⟩
          show AWp _ _ _ _ _ _ _
          cases g2 with
          | false =>
            rw [hno (.inr (.inr rfl))]
            refine aC rfl (fun h => by cases h) (fun _ => aK ?_)
            refine ⟨rfl, wk_sub ⟨rfl, ?_, ?_, rfl, trivial⟩⟩
            · show some (AV.sl _ _ _ _) = some (AV.sl _ _ _ _); simp
            · show some (AV.mrow _ _ _) = some (AV.mrow _ _ _); simp
          | true =>
            rw [hyes rfl rfl rfl]
            have hca := hF.ca w1
            obtain ⟨z, hz⟩ : ∃ z, z = (joinM m c d').map (Lt.rep (mgS m.fr.a m.pt)) := ⟨_, rfl⟩
            rw [← hz] at hca ⊢
            refine aC rfl (fun _ => ?_) (fun h => by cases h)
            refine AWp.wk (wk_sub (s' := (9, AV.val (.lst ((mgT m.fr.a m.pt).1.map Bd.cv))) :: (8, AV.bp 8 0 []) :: (100008, .bx (.row [.row [.i m.fr.n, m.fr.a.cw, m.fr.b.cw], .row [.i m.ti.n, m.ti.a.cw, m.ti.b.cw], .sc (cutV v m.pl.length), m.pt.cw])) :: (4, .val (.ptr (.lst (c.map Lt.cv)))) :: (5, .val (.ptr (.lst (d'.map Lt.cv)))) :: (7, .bp 350001 0 []) :: (71, .hdl v 400003) :: obX L0 400003 m.pl) ⟨rfl, rfl, rfl, rfl, rfl, rfl, rfl, rfl, rfl, rfl, rfl, trivial⟩) ?_
            refine aD (by kernel_rfl) (by kernel_rfl) ?_
            (refine nx (aLf (gN rfl) rfl rfl rfl rfl rfl rfl rfl rfl rfl rfl rfl rfl rfl) rfl ?_)
            (refine nx (aM (gN rfl) rfl rfl rfl rfl rfl) rfl ?_)
            (refine nx (aL (gN rfl) rfl rfl rfl rfl rfl rfl rfl rfl rfl rfl rfl rfl) rfl ?_)
            (refine nx (a_load_ptr (gN rfl) rfl rfl rfl rfl rfl rfl rfl rfl rfl) rfl ?_)
            (refine nx (a_load_ptr (gN rfl) rfl rfl rfl rfl rfl rfl rfl rfl rfl) rfl ?_)
            (refine nx (a_callH 71 71 (gN rfl) rfl rfl rfl rfl (hJn) rfl rfl rfl rfl (by repeat (first | exact trivial | refine ⟨rfl, ?_⟩)) (by first | rfl | kernel_rfl) (by first | rfl | kernel_rfl) (by first | rfl | kernel_rfl) (by first | rfl | kernel_rfl) (hnb_of (by first | rfl | kernel_rfl))) rfl ?_)
            (refine nx (a_call (gN rfl) rfl rfl rfl rfl rfl (hca)) rfl ?_)
            (refine nx (a_bslice (gN rfl) rfl rfl rfl rfl rfl rfl rfl rfl rfl rfl rfl rfl rfl) rfl ?_)
            (refine nx (a_appM 300006 (gN rfl) rfl rfl rfl rfl rfl rfl rfl rfl rfl rfl rfl rfl rfl (by first | rfl | omega | (simp only [List.length_set, List.length_map, List.length_append, List.length_cons, List.length_nil] <;> omega) | (simp <;> omega)) (by first | assumption | exact sZ rfl | exact Tm.size_all _ | exact Bd.size_all _ | exact ints_size _ | exact bys_size _ | exact Lt.size_all _) (by first | omega | (simp only [List.length_map, List.length_append, List.length_cons, List.length_nil] <;> omega) | (simp <;> omega))) (by kernel_rfl) ?_)
            (refine nx (a_store_fld (gN rfl) rfl rfl rfl rfl rfl rfl rfl rfl rfl rfl rfl rfl) rfl ?_)
            refine ⟨by kernel_rfl, ?_⟩
            refine ⟨rfl, (wk_sub (s' := [(450001, .obj), (35500100, .sl 300006 0 (L0 ++ [z]).length 1), (300006, .mrow 26 1 ((L0 ++ [z]).map clC)), (400003, .mrow 3 1 (m.pl.map CV.i))]) ⟨rfl, ?_, ?_, rfl, trivial⟩).trans (wk_ren 300006 300005 rfl rfl (by kernel_rfl) (by kernel_rfl))⟩
            · show some (AV.sl _ _ _ _) = some (AV.sl _ _ _ _)
              rw [List.length_append, ← hL0m]; rfl
            · show some (AV.mrow _ _ _) = some (AV.mrow _ _ _)
              rw [List.map_append (f := clC)]; rfl
  · rintro e s' g ⟨rfl, rfl⟩
    rw [List.take_length]
    refine ⟨rfl, rfl, ?_⟩
    refine aS (aR ?_)
    (refine nx (aLf (gN rfl) rfl rfl rfl rfl rfl rfl rfl rfl rfl rfl rfl rfl rfl) rfl ?_)
    (refine nx (aA (gN rfl) rfl rfl rfl rfl rfl) rfl ?_)
    show AWp _ _ _ _ _ _ _
    obtain ⟨R, hR⟩ : ∃ R, R = folL ld c d' ms := ⟨_, rfl⟩
    rw [← hR]
    refine aT ⟨⟨.inr rfl, [(6, AV.val (.lst (((R.map clC).drop 0).take R.length)))], ?_, ?_, trivial, rfl⟩, rfl⟩
    · exact (wk_frz 6 300005 (e := 26) (z := 1) (lo := 0) (len := R.length) (l := R.map clC) rfl rfl rfl (.inl hW.2) (by simp) (s' := [(299999, .ob g 0)]) ⟨rfl, trivial⟩ rfl).trans (wk_sub ⟨rfl, rfl, trivial⟩)
    · rw [List.drop_zero, List.take_of_length_le (by simp)]
      rfl
-- 
set_option maxHeartbeats 2000000 in
theorem uPairsF_abs (W : World) (a b : Tm) (ha : (a.rng ∧ a.ok) ∧ a.size ≤ 16) (hb : (b.rng ∧ b.ok) ∧ b.size ≤ 16) (hfew : ∀ τ, uni τ [(a, b)] → a.ten ∧ b.ten) (l : List (Tm × Tm)) (hle : l = [(a, b)]) (r : List Bd × Bool) (hT : ToldU l r) : AFun Tryz.prog W 92 [.lst (l.map prv)] (.tup [.lst (r.1.map Bd.cv), .b r.2]) := by
  have hl : ∀ p ∈ l, (p.1.rng ∧ p.1.ok) ∧ (p.2.rng ∧ p.2.ok) := fun p hp => by
    rw [hle, List.mem_singleton] at hp
    rw [hp]
    exact ⟨ha.1, hb.1⟩
  have hpz : plcS l = a.size + b.size := by rw [hle]; unfold plcS; simp
  have hpl : plcS l ≤ 1000 := by have := ha.2; have := hb.2; omega
  obtain ⟨k, j, e1, f1, f2⟩ := pairs_spec l
  have hj := e1 k (Nat.le_refl _)
  have hja := uJoinAll_abs k l j hj hl hpl
  refine afun_of (rs := [.lst (r.1.map Bd.cv), .b r.2]) Tryz.func92 Tryz.ntmps92 rfl rfl rfl rfl ?_
  intro w U hW
  refine aS (aR ?_)
  (refine nx (aA (gN rfl) rfl rfl rfl rfl rfl) rfl ?_)
  (refine nx (aA (gN rfl) rfl rfl rfl rfl rfl) rfl ?_)
  show AWp _ _ _ _ _ _ _
  refine aS (aR ?_)
  (refine nx (a_callO (gN rfl) rfl rfl rfl rfl rfl (newC_abs) (by repeat (first | exact trivial | refine ⟨rfl, ?_⟩)) (by first | rfl | kernel_rfl) (by first | rfl | kernel_rfl) (by first | rfl | kernel_rfl) (by first | rfl | kernel_rfl) (fun k v h => by first | (rw [hW.1] at h; cases h) | (have h2 := hU k v h; cases h2))) rfl ?_)
  (refine nx (aA (gN rfl) rfl rfl rfl rfl rfl) rfl ?_)
  show AWp _ _ _ _ _ _ _
  refine aS (aS (aR ?_))
  (refine nx (aM (gN rfl) rfl rfl rfl rfl rfl) rfl ?_)
  (refine nx (aM (gN rfl) rfl rfl rfl rfl rfl) rfl ?_)
  (refine nx (a_callO (gN rfl) rfl rfl rfl rfl rfl (hja) (by repeat (first | exact trivial | refine ⟨rfl, ?_⟩)) (by first | rfl | kernel_rfl) (by first | rfl | kernel_rfl) (by first | rfl | kernel_rfl) (by first | rfl | kernel_rfl) (hnb_of (by first | rfl | kernel_rfl))) rfl ?_)
  (refine nx (a_not (gN rfl) rfl rfl rfl rfl rfl) rfl ?_)
  show AWp _ _ _ _ _ _ _
  cases hj2 : j.2 with
  | false =>
    rw [hT.no (f1 hj2)]
    refine aC rfl (fun hc => ?_) (fun hc => by cases hc)
    refine aS (aR ?_)
    (refine nx (aA (gN rfl) rfl rfl rfl rfl rfl) rfl ?_)
    (refine nx (aA (gN rfl) rfl rfl rfl rfl rfl) rfl ?_)
    show AWp _ _ _ _ _ _ _
    exact aT (And.intro (.inr rfl) rfl)
  | true =>
    obtain ⟨cn, od, H, r', e2, g1, g2, g3, ki, hcn, n1, n2⟩ := f2 hj2
    obtain ⟨e3, e4⟩ := e2 k (Nat.le_refl _)
    obtain ⟨E', hI⟩ := joinAllC_inv l hj (E := []) ⟨⟨id, id, Cls.nil, by show 0 + sumTo _ 0 ≤ _; simp [sumTo]⟩, (fun x hx => by cases hx), by show sumTo _ 0 ≤ _; simp [sumTo]⟩ rfl hl (by show sumTo _ 0 + _ ≤ _; simpa [sumTo] using hpl) hj2
    have hF := hI.fitU
    have hu0 : usB j.1.ns 0 := fun m => by rw [nS_all hj]; exact ⟨Int.le_refl _, Int.le_refl _⟩
    obtain ⟨hF1, hu1, hh1, hhl⟩ := countC_keep k 0 e3 hF (by simpa using hu0) (by omega) (fun h hm => by cases hm) (Nat.le_refl _)
    have hF2 := ordC_fit k 0 e4 hF1 (fun h hm => hh1 h (List.mem_filter.1 hm).1) (by decide) hu1
    have hnsl : od.1.ns.length ≤ 1000 := Nat.le_trans (len_pw _) hF2.big
    have hod : ∀ x ∈ od.2, x < od.1.ns.length := fun x hx => (ki.hd x hx).1
    have hol : od.2.length ≤ 1000 := Nat.le_trans (nodup_le _ ki.nd hod) hnsl
    have hor := uOrd_abs k j.1 cn od e3 e4 hF hu0 hol
    have hvr : vrOk od.1.vr := vr_ord k 0 e4 (vr_count k 0 e3 (vr_all hj ⟨List.nodup_nil, fun p hp => by cases hp⟩))
    have hvb : ∀ p ∈ od.1.vr, p.1 ≤ 9223372036854775807 := fun p hp => by
      obtain ⟨v1, v2⟩ := g1.vrt p.1 p.2 (lookV_mem hvr.1 hp)
      have v3 := ((Tm.rng_iff _).1 ((trmOk_iff _).1 hF2.trm p.2 v1).1).1
      omega
    refine aC rfl (fun hc => by cases hc) (fun hc => aK ?_)
    show AWp _ _ _ _ _ _ _
    by_cases h : od.2.length = cn.2.length
    · have h9 : decide ((od.2.length : Int) = cn.2.length) = true := by rw [h]; simp
      rw [h9] at hor
      obtain ⟨k1, tm, e5, c1, c5, c2, hm⟩ := n2 h
      have hu := (hm (od.1.vr.map fun p => (⟨p.1, tm.2.getD (H p.2) tm0⟩ : Bd)) (fun v => findB_bind hvr.1 (List.Perm.refl _) (fun n => tm.2.getD (H n) tm0) v)).uni
      rw [hle] at hu
      obtain ⟨ha10, hb10⟩ := hfew _ hu
      have hvl : od.1.vr.length < 20 := vr_few (hle ▸ g1) hvr ha10 hb10 (by
        have h1 := pw_ord k 0 e4
        have h2 := pw_count k 0 e3
        have h3 := pw_all hj
        have h4 : plc l = a.size + b.size := by rw [hle]; unfold plc; simp
        have h5 : pw ([] : List Nd) = 0 := rfl
        have h6 := len_pw od.1.ns
        have h7 : pw (⟨[], [], []⟩ : Cl).ns = 0 := rfl
        omega)
      have hFq := (TI.all (t := (od.1, List.replicate od.1.ns.length tm0)) (N := od.1.ns.length) ⟨hF2, by simp, Nat.le_refl _⟩ (fun n hn => hod n (List.mem_reverse.1 hn)) (e5 k1 (Nat.le_refl _))).1.fit
      have hbi := uBind_abs k1 od.1 od.2 tm (e5 k1 (Nat.le_refl _)) hF2 c2 hod hol c1 hFq (by rw [c5]; exact hvr) (by rw [c5]; omega)
      refine aS (aR ?_)
      (refine nx (aM (gN rfl) rfl rfl rfl rfl rfl) rfl ?_)
      (refine nx (a_callO (gN rfl) rfl rfl rfl rfl rfl (hor) (by repeat (first | exact trivial | refine ⟨rfl, ?_⟩)) (by first | rfl | kernel_rfl) (by first | rfl | kernel_rfl) (by first | rfl | kernel_rfl) (by first | rfl | kernel_rfl) (hnb_of (by first | rfl | kernel_rfl))) rfl ?_)
      (refine nx (aM (gN rfl) rfl rfl rfl rfl rfl) rfl ?_)
      (refine nx (aX (gN rfl) rfl rfl rfl rfl rfl rfl) rfl ?_)
      (refine nx (aX (gN rfl) rfl rfl rfl rfl rfl rfl) rfl ?_)
      (refine nx (aA (gN rfl) rfl rfl rfl rfl rfl) rfl ?_)
      (refine nx (aA (gN rfl) rfl rfl rfl rfl rfl) rfl ?_)
      show AWp _ _ _ _ _ _ _
      refine aS (aS (aR ?_))
      (refine nx (aM (gN rfl) rfl rfl rfl rfl rfl) rfl ?_)
      (refine nx (a_not (gN rfl) rfl rfl rfl rfl rfl) rfl ?_)
      show AWp _ _ _ _ _ _ _
      refine aC rfl (fun hc => by cases hc) (fun hc => aK ?_)
      show AWp _ _ _ _ _ _ _
      refine aS (awp_regionE 2 rfl rfl rfl rfl rfl rfl hbi (by kernel_rfl) (fun σ => by kernel_rfl) (fun σ => by kernel_rfl) (fun σ => rfl) (fun σ => hnb_of (by kernel_rfl)) ?_)
      (refine nx (aM (gN rfl) rfl rfl rfl rfl rfl) rfl ?_)
      (refine nx (aM (gN rfl) rfl rfl rfl rfl rfl) rfl ?_)
      refine ⟨rfl, ⟨rfl, rfl, rfl, rfl, rfl, rfl, rfl, trivial⟩, fun σ hσ => ⟨by kernel_rfl, ?_⟩⟩
      obtain ⟨vr', hp, hσ1⟩ := hσ
      rw [c5] at hp
      obtain ⟨t1, t2, t3⟩ := told_bind hT hvr hvb hp hσ1 hm
      have hsl : σ.1.length < 20 := by rw [hσ1, List.length_map, hp.length_eq]; omega
      (refine nx (a_call (gN rfl) rfl rfl rfl rfl rfl (norm_abs _ σ.1 hsl t3)) rfl ?_)
      (refine nx (aA (gN rfl) rfl rfl rfl rfl rfl) rfl ?_)
      (refine nx (aA (gN rfl) rfl rfl rfl rfl rfl) rfl ?_)
      show AWp _ _ _ _ _ _ _
      rw [t1]
      exact aT (And.intro (.inr rfl) rfl)
    · have h9 : decide ((od.2.length : Int) = cn.2.length) = false := by
        rw [decide_eq_false_iff_not]
        omega
      rw [h9] at hor
      rw [hT.no (n1 h)]
      refine aS (aR ?_)
      (refine nx (aM (gN rfl) rfl rfl rfl rfl rfl) rfl ?_)
      (refine nx (a_callO (gN rfl) rfl rfl rfl rfl rfl (hor) (by repeat (first | exact trivial | refine ⟨rfl, ?_⟩)) (by first | rfl | kernel_rfl) (by first | rfl | kernel_rfl) (by first | rfl | kernel_rfl) (by first | rfl | kernel_rfl) (hnb_of (by first | rfl | kernel_rfl))) rfl ?_)
      (refine nx (aM (gN rfl) rfl rfl rfl rfl rfl) rfl ?_)
      (refine nx (aX (gN rfl) rfl rfl rfl rfl rfl rfl) rfl ?_)
      (refine nx (aX (gN rfl) rfl rfl rfl rfl rfl rfl) rfl ?_)
      (refine nx (aA (gN rfl) rfl rfl rfl rfl rfl) rfl ?_)
      (refine nx (aA (gN rfl) rfl rfl rfl rfl rfl) rfl ?_)
      show AWp _ _ _ _ _ _ _
      refine aS (aS (aR ?_))
      (refine nx (aM (gN rfl) rfl rfl rfl rfl rfl) rfl ?_)
      (refine nx (a_not (gN rfl) rfl rfl rfl rfl rfl) rfl ?_)
      show AWp _ _ _ _ _ _ _
      refine aC rfl (fun hc => ?_) (fun hc => by cases hc)
      refine aS (aR ?_)
      (refine nx (aA (gN rfl) rfl rfl rfl rfl rfl) rfl ?_)
      (refine nx (aA (gN rfl) rfl rfl rfl rfl rfl) rfl ?_)
      show AWp _ _ _ _ _ _ _
      exact aT (And.intro (.inr rfl) rfl)
-- 
set_option maxHeartbeats 2000000 in
theorem uUnifyF_abs (W : World) (a b : Tm) (ha : (a.rng ∧ a.ok) ∧ a.size ≤ 16) (hb : (b.rng ∧ b.ok) ∧ b.size ≤ 16) (hfew : ∀ τ, uni τ [(a, b)] → a.ten ∧ b.ten) (r : List Bd × Bool) (hT : ToldU [(a, b)] r) : AFun Tryz.prog W 65 [a.cw, b.cw] (.tup [.lst (r.1.map Bd.cv), .b r.2]) := by
  refine afun_of (rs := [.lst (r.1.map Bd.cv), .b r.2]) Tryz.func65 Tryz.ntmps65 rfl rfl rfl rfl ?_
  intro w U hW
  refine aS (aR ?_)
  (refine nx (a_box (gN rfl) rfl rfl rfl rfl rfl) rfl ?_)
  (refine nx (a_box (gN rfl) rfl rfl rfl rfl rfl) rfl ?_)
  (refine nx (aA (gN rfl) rfl rfl rfl rfl rfl) rfl ?_)
  (refine nx (aA (gN rfl) rfl rfl rfl rfl rfl) rfl ?_)
  show AWp _ _ _ _ _ _ _
  refine aS (aR ?_)
  (refine nx (aL (gN rfl) rfl rfl rfl rfl rfl rfl rfl rfl rfl rfl rfl rfl) rfl ?_)
  (refine nx (aL (gN rfl) rfl rfl rfl rfl rfl rfl rfl rfl rfl rfl rfl rfl) rfl ?_)
  (refine nx (a_buildA [2, 2] (gN rfl) rfl rfl rfl rfl rfl rfl rfl rfl rfl rfl rfl rfl) rfl ?_)
  (refine nx (a_bslice (gN rfl) rfl rfl rfl rfl rfl rfl rfl rfl rfl rfl rfl rfl rfl) rfl ?_)
  (refine nx (a_call (gN rfl) rfl rfl rfl rfl rfl (uPairsF_abs _ a b ha hb hfew [(a, b)] rfl r hT)) rfl ?_)
  (refine nx (aX (gN rfl) rfl rfl rfl rfl rfl rfl) rfl ?_)
  (refine nx (aX (gN rfl) rfl rfl rfl rfl rfl rfl) rfl ?_)
  (refine nx (aA (gN rfl) rfl rfl rfl rfl rfl) rfl ?_)
  (refine nx (aA (gN rfl) rfl rfl rfl rfl rfl) rfl ?_)
  show AWp _ _ _ _ _ _ _
  exact aT (And.intro (.inr rfl) rfl)
theorem putP_bare6 (u : Tm) : ∀ (p : List Int) (t z : Tm), putP u p t = some z → z.strip = z
  | [], t, z, h => by cases h; exact Tm.strip_strip u
  | k :: ks, t, z, h => by
    rw [putP] at h
    cases hp : t.pa k with
    | none => rw [hp] at h; cases h
    | some x =>
      rw [hp, Option.bind_some] at h
      cases hv : putP u ks x with
      | none => rw [hv] at h; cases h
      | some v =>
        rw [hv, Option.map_some] at h
        have h := Option.some.inj h
        subst h
        have hf := pa_sym hp
        rw [Tm.strip_eq, Tm.ps_of_sym (t := ⟨t.f, _⟩) (by show 0 ≤ t.f; omega)]
        simp only
        rw [List.map_append, List.map_cons, map_strip2, map_strip2, putP_bare6 u ks x v hv]
theorem strip_ok6 {t : Tm} (h : t.size ≤ 10000000000) : t.strip.ok := by
  induction t using Tm.indp with
  | h t ih =>
    have hs := Tm.size_eq t
    refine (Tm.ok_iff _).2 ⟨?_, fun s hs' => ?_⟩
    · rw [Tm.strip_l, List.length_map]
      have : ∀ l : List Tm, l.length ≤ (l.flatMap Tm.flat).length := by
        intro l
        induction l with
        | nil => exact Nat.le_refl _
        | cons x l ih =>
          rw [List.flatMap_cons, List.length_append, List.length_cons]
          have : 0 < x.flat.length := by rw [Tm.flat_eq]; simp
          omega
      have := this t.ps
      omega
    · rw [Tm.strip_l] at hs'
      obtain ⟨x, hx, rfl⟩ := List.mem_map.1 hs'
      refine ih x hx ?_
      have := flatMap_len_mem Tm.flat hx
      have h2 : x.size = x.flat.length := rfl
      omega
theorem syL_mem : ∀ (l : List Tm) (i : Nat) (pl : List Int) (q : List Int × Tm), q ∈ syL l i pl → ∃ j x, l[j]? = some x ∧ q ∈ sy x (pl ++ [((i + j : Nat) : Int)])
  | [], i, pl, q, h => by rw [syL_nil] at h; cases h
  | t :: l, i, pl, q, h => by
    rw [syL_cons] at h
    rcases List.mem_append.1 h with h | h
    · exact ⟨0, t, rfl, h⟩
    · obtain ⟨j, x, h1, h2⟩ := syL_mem l (i + 1) pl q h
      exact ⟨j + 1, x, by simpa using h1, by rw [show i + (j + 1) = i + 1 + j by omega]; exact h2⟩
theorem sy_mem (t : Tm) : ∀ (pl : List Int) (q : List Int × Tm), q ∈ sy t pl → ∃ p, q.1 = pl ++ p ∧ atP p t = some q.2 ∧ ¬ q.2.f < 0 ∧ p.length < t.size := by
  induction t using Tm.ind with
  | h f l ih =>
    intro pl q hq
    rw [sy_eq] at hq
    split at hq
    · cases hq
    · rename_i hf
      rcases List.mem_cons.1 hq with rfl | hq
      · exact ⟨[], by simp, rfl, hf, Tm.size_pos _⟩
      · obtain ⟨j, x, h1, h2⟩ := syL_mem l 0 pl q hq
        obtain ⟨p, e1, e2, e3, e4⟩ := ih x (List.mem_of_getElem? h1) _ q h2
        refine ⟨((0 + j : Nat) : Int) :: p, by rw [e1, List.append_assoc]; rfl, ?_, e3, ?_⟩
        · have hpa : (Tm.mk f l).pa ((0 + j : Nat) : Int) = some x := by
            unfold Tm.pa
            rw [if_pos (by omega), Int.toNat_natCast, Nat.zero_add, Tm.ps_of_sym (by show 0 ≤ f; have : ¬ f < 0 := hf; omega)]
            exact h1
          rw [atP, hpa]; exact e2
        · have := sy_sizes (show ¬ f < 0 from hf) h1
          rw [List.length_cons]; omega
theorem syL_len : ∀ (l : List Tm) (i : Nat) (pl : List Int), (∀ t ∈ l, ∀ pl, (sy t pl).length ≤ t.flat.length) → (syL l i pl).length ≤ (l.flatMap Tm.flat).length
  | [], _, _, _ => by simp [syL_nil]
  | t :: l, i, pl, h => by
    rw [syL_cons, List.length_append, List.flatMap_cons, List.length_append]
    have h1 := h t (by simp) (pl ++ [(i : Int)])
    have h2 := syL_len l (i + 1) pl fun s hs => h s (List.mem_cons_of_mem _ hs)
    omega
theorem sy_len (t : Tm) : ∀ pl, (sy t pl).length ≤ t.size := by
  induction t using Tm.ind with
  | h f l ih =>
    intro pl
    rw [sy_eq]
    split
    · simp
    · rename_i hf
      have h1 := syL_len l 0 pl ih
      have h2 : (Tm.mk f l).size = 1 + (l.flatMap Tm.flat).length := by rw [Tm.size_eq, Tm.ps_of_sym (by show 0 ≤ f; have : ¬ f < 0 := hf; omega)]
      rw [List.length_cons, h2]
      show (syL l 0 pl).length + 1 ≤ _
      omega
theorem wys_mem {ld : Tm → Tm → Bool} {c : List Lt} {L : List Int} {w : Wy} (h : w ∈ wysL ld c L) : w.n ∈ L ∧ ∃ l, c[w.n.toNat]? = some l ∧ (((w.a = l.a ∧ w.b = l.b) ∨ (w.a = l.b ∧ w.b = l.a)) ∧ ld w.a w.b = true) := by
  obtain ⟨n, hn, hw⟩ := List.mem_flatMap.1 h
  unfold wysN at hw
  split at hw
  · rename_i l hl
    obtain ⟨h1, h2⟩ := List.mem_filter.1 hw
    simp only [wy2, List.mem_cons, List.not_mem_nil, or_false] at h1
    rcases h1 with rfl | rfl
    · exact ⟨hn, l, hl, .inl ⟨rfl, rfl⟩, h2⟩
    · exact ⟨hn, l, hl, .inr ⟨rfl, rfl⟩, h2⟩
  · cases hw
theorem wys_len (ld : Tm → Tm → Bool) (c : List Lt) : ∀ L : List Int, (wysL ld c L).length ≤ 2 * L.length
  | [] => Nat.zero_le _
  | n :: L => by
    have h1 := wys_len ld c L
    have h2 : (wysN ld c n).length ≤ 2 := by
      unfold wysN
      split
      · exact List.length_filter_le _ _
      · exact Nat.zero_le _
    show (wysN ld c n ++ wysL ld c L).length ≤ _
    rw [List.length_append, List.length_cons]
    omega
theorem mts_mem {neg : Int → Bool} {src tgt : List Wy} {m : Mt} (h : m ∈ mtsL neg src tgt) : m.fr ∈ src ∧ neg m.fr.n = false ∧ m.ti ∈ tgt ∧ (m.pl, m.pt) ∈ sy m.ti.a [] := by
  obtain ⟨f, hf, h⟩ := List.mem_flatMap.1 h
  unfold mtN at h
  split at h
  · cases h
  · rename_i hn
    obtain ⟨i, hi, h⟩ := List.mem_flatMap.1 h
    obtain ⟨q, hq, rfl⟩ := List.mem_map.1 h
    exact ⟨hf, by simpa using hn, hi, hq⟩
theorem mts_len (neg : Int → Bool) (src tgt : List Wy) (N : Nat) (h : ∀ w ∈ tgt, w.a.size ≤ N) : (mtsL neg src tgt).length ≤ src.length * (tgt.length * N) := by
  have h1 : ∀ f (T : List Wy), (∀ w ∈ T, w.a.size ≤ N) → (mtF T f).length ≤ T.length * N := fun f T => by
    induction T with
    | nil => intro _; exact Nat.zero_le _
    | cons i T ih =>
      intro hT
      have a1 := ih fun w hw => hT w (List.mem_cons_of_mem _ hw)
      have a2 := Nat.le_trans (sy_len i.a []) (hT i (by simp))
      show (mtI f i ++ mtF T f).length ≤ _
      have a3 : (mtI f i).length = (sy i.a []).length := List.length_map ..
      rw [List.length_append, List.length_cons, Nat.add_mul, a3]
      omega
  induction src with
  | nil => exact Nat.zero_le _
  | cons f S ih =>
    have h2 : (mtN neg tgt f).length ≤ tgt.length * N := by
      unfold mtN
      split
      · exact Nat.zero_le _
      · exact h1 f tgt h
    show (mtN neg tgt f ++ mtsL neg S tgt).length ≤ _
    rw [List.length_append, List.length_cons, Nat.add_mul, Nat.one_mul]
    omega
def Tm.s16 (t : Tm) : Prop := (t.rng ∧ t.ok) ∧ t.size ≤ 16
def PrOk (a b : Tm) : Prop := a.s16 ∧ b.s16 ∧ ∀ τ, uni τ [(a, b)] → a.ten ∧ b.ten
theorem PrOk.tiny {a b : Tm} (h : PrOk a b) : Tiny2 [(a, b)] := fun p hp => by
  rw [List.mem_singleton] at hp
  subst hp
  exact ⟨h.1, h.2.1⟩
theorem ten_pr {a b : Tm} (ha : a.ten) (hb : b.ten) : PrOk a b := ⟨⟨ha.1, Nat.le_trans ha.2 (by omega)⟩, ⟨hb.1, Nat.le_trans hb.2 (by omega)⟩, fun _ _ => ⟨ha, hb⟩⟩
theorem PrOk.tell {a b : Tm} (h : PrOk a b) : Tells8 [(a, b)] (mgT a b) := by
  obtain ⟨n, r, _, _, _, h⟩ := told_of (l := [(a, b)]) (by simp) h.tiny
  rw [mg_of h]
  exact h
theorem PrOk.img {a b : Tm} (h : PrOk a b) {v : Int} (hv : 0 ≤ v) : (imgB (mgT a b).1 v).size ≤ 2955 := by
  cases h2 : (mgT a b).2 with
  | true =>
    obtain ⟨ha, hb⟩ := h.2.2 _ (h.tell.yes h2).uni
    exact mg_img ha hb hv
  | false =>
    rw [(h.tell.no h2).1]
    show (varT v).size ≤ _
    rw [Tm.size_var (by rw [varT_f]; omega)]; omega
theorem PrOk.un {a b : Tm} (h : PrOk a b) (W : World) : AFun Tryz.prog W 65 [a.cw, b.cw] (.tup [.lst ((mgT a b).1.map Bd.cv), .b (mgT a b).2]) := uUnifyF_abs W a b h.1 h.2.1 h.2.2 _ h.tell.told
theorem PrOk.rep {a b : Tm} (h : PrOk a b) {t : Tm} (ht : t.rng ∧ t.ok) : (repT (mgS a b) t).rng ∧ (repT (mgS a b) t).ok ∧ (repT (mgS a b) t).size ≤ 2955 * t.size :=
  ⟨rep_rng h.tell.bdsOk ht.1, repT_ok ht.2 fun v => imgB_ok2 (fun b hb => (h.tell.ok b hb).2) v, rep_big (M := 2955) (by omega) (fun v hv => h.img hv) t⟩
theorem PrOk.ap {a b : Tm} (h : PrOk a b) {t : Tm} (ht : t.rng ∧ t.ok) (W : World) : AFun Tryz.prog W 66 [.lst ((mgT a b).1.map Bd.cv), t.cw] (.val (repT (mgS a b) t).cw) :=
  applyG_abs W (mgT a b).1 t (by have := h.tell.len; omega) h.tell.bdsOk ht.1 ht.2
theorem PrOk.ca {a b : Tm} (h : PrOk a b) (W : World) (c : List Lt) (hl : c.length ≤ 100000) (hc : ∀ l ∈ c, l.rok) : AFun Tryz.prog W 67 [.lst ((mgT a b).1.map Bd.cv), .lst (c.map Lt.cv)] (.val (.lst ((c.map (Lt.rep (mgS a b))).map Lt.cv))) := by
  obtain ⟨h1, h2⟩ := sid_fit hl hc
  exact cApply_abs W (mgT a b).1 c (by omega) (by have := h.tell.len; omega) h.tell.bdsOk h1 h2
def Lt.s16 (l : Lt) : Prop := l.a.s16 ∧ l.b.s16
theorem Lt.s16.rok {l : Lt} (h : l.s16) : l.rok := ⟨h.1.1, h.2.1⟩
structure MtOk (c d : List Lt) (m : Mt) : Prop where
  i : 0 ≤ m.fr.n ∧ m.fr.n < c.length
  j : 0 ≤ m.ti.n ∧ m.ti.n < d.length
  fr : ∃ l, c[m.fr.n.toNat]? = some l ∧ ((m.fr.a = l.a ∧ m.fr.b = l.b) ∨ (m.fr.a = l.b ∧ m.fr.b = l.a)) ∧ l.neg = false
  ti : ∃ l, d[m.ti.n.toNat]? = some l ∧ ((m.ti.a = l.a ∧ m.ti.b = l.b) ∨ (m.ti.a = l.b ∧ m.ti.b = l.a))
  at_ : atP m.pl m.ti.a = some m.pt
  sym : ¬ m.pt.f < 0
  pl : m.pl.length < m.ti.a.size
theorem mts_ok {ld : Tm → Tm → Bool} {c d : List Lt} {L M : List Int} (hL : ∀ n ∈ L, 0 ≤ n ∧ n < c.length) (hM : ∀ n ∈ M, 0 ≤ n ∧ n < d.length) {m : Mt} (h : m ∈ mtsL (negAt c) (wysL ld c L) (wysL ld d M)) : MtOk c d m := by
  obtain ⟨h1, h2, h3, h4⟩ := mts_mem h
  obtain ⟨a1, l, a2, a3, a4⟩ := wys_mem h1
  obtain ⟨b1, k, b2, b3, b4⟩ := wys_mem h3
  obtain ⟨p, e1, e2, e3, e4⟩ := sy_mem m.ti.a [] _ h4
  have e1 : m.pl = p := e1
  subst e1
  refine ⟨hL _ a1, hM _ b1, ⟨l, a2, a3, ?_⟩, ⟨k, b2, b3⟩, e2, e3, e4⟩
  unfold negAt at h2
  rw [a2] at h2
  exact h2
theorem MtOk.fs {c d : List Lt} {m : Mt} (h : MtOk c d m) (hc : ∀ l ∈ c, l.s16) : m.fr.a.s16 ∧ m.fr.b.s16 := by
  obtain ⟨l, h1, h2, _⟩ := h.fr
  have := hc l (List.mem_of_getElem? h1)
  rcases h2 with ⟨e1, e2⟩ | ⟨e1, e2⟩
  · rw [e1, e2]; exact this
  · rw [e1, e2]; exact ⟨this.2, this.1⟩
theorem MtOk.ts {c d : List Lt} {m : Mt} (h : MtOk c d m) (hd : ∀ l ∈ d, l.s16) : m.ti.a.s16 ∧ m.ti.b.s16 := by
  obtain ⟨l, h1, h2⟩ := h.ti
  have := hd l (List.mem_of_getElem? h1)
  rcases h2 with ⟨e1, e2⟩ | ⟨e1, e2⟩
  · rw [e1, e2]; exact this
  · rw [e1, e2]; exact ⟨this.2, this.1⟩
theorem MtOk.put {c d : List Lt} {m : Mt} (h : MtOk c d m) (hc : ∀ l ∈ c, l.s16) (hd : ∀ l ∈ d, l.s16) : ∃ z, putP m.fr.b m.pl m.ti.a = some z ∧ (z.rng ∧ z.ok) ∧ z.size + m.pt.size = m.ti.a.size + m.fr.b.size := by
  obtain ⟨f1, f2⟩ := h.fs hc
  obtain ⟨t1, t2⟩ := h.ts hd
  obtain ⟨z, g1, g2, g3, g4, g5⟩ := putP_facts m.fr.b f2.1.1 m.pl m.ti.a m.pt t1.1.1 h.at_
  refine ⟨z, g1, ⟨g2, ?_⟩, g5⟩
  have e := putP_bare6 m.fr.b m.pl m.ti.a z g1
  rw [← e]
  exact strip_ok6 (by have := t1.2; have := f2.2; omega)
theorem MtOk.lits {c d : List Lt} {m : Mt} (h : MtOk c d m) (hc : ∀ l ∈ c, l.s16) (hd : ∀ l ∈ d, l.s16) : ∀ l ∈ joinM m c d, l.rok ∧ l.a.size ≤ 31 ∧ l.b.size ≤ 31 := fun l hl => by
  have st : ∀ x : Lt, x.s16 → x.strip.rok ∧ x.strip.a.size ≤ 31 ∧ x.strip.b.size ≤ 31 := fun x hx => by
    refine ⟨⟨⟨Tm.strip_rng hx.1.1.1, Tm.strip_ok hx.1.1.2⟩, Tm.strip_rng hx.2.1.1, Tm.strip_ok hx.2.1.2⟩, ?_, ?_⟩
    · show x.a.strip.size ≤ 31; rw [Tm.strip_size]; have := hx.1.2; omega
    · show x.b.strip.size ≤ 31; rw [Tm.strip_size]; have := hx.2.2; omega
  unfold joinM at hl
  rcases List.mem_append.1 hl with hl | hl
  · obtain ⟨x, hx, rfl⟩ := List.mem_map.1 hl
    exact st x (hc x (offL_mem hx))
  · rcases List.mem_append.1 hl with hl | hl
    · obtain ⟨x, hx, rfl⟩ := List.mem_map.1 hl
      exact st x (hd x (offL_mem hx))
    · rw [List.mem_singleton] at hl
      subst hl
      obtain ⟨z, g1, g2, g3⟩ := h.put hc hd
      obtain ⟨t1, t2⟩ := h.ts hd
      obtain ⟨f1, f2⟩ := h.fs hc
      rw [g1]
      have := m.pt.size_pos
      have := t1.2
      have := t2.2
      have := f2.2
      exact ⟨⟨g2, t2.1⟩, by show z.size ≤ 31; omega, by show m.ti.b.size ≤ 31; omega⟩
theorem join_len {c d : List Lt} {m : Mt} (h : MtOk c d m) : (joinM m c d).length + 1 = c.length + d.length := by
  unfold joinM
  have h1 := offL_len (c := c) (n := m.fr.n.toNat) (by have := h.i; omega)
  have h2 := offL_len (c := d) (n := m.ti.n.toNat) (by have := h.j; omega)
  rw [List.length_append, List.length_append, List.length_map, List.length_map]
  simp
  omega
theorem folOk_mk {fd : Nat} {ld : Tm → Tm → Bool} {c d : List Lt} {m : Mt} (hld : ∀ w (a b : Tm), a.rng ∧ a.ok ∧ a.size ≤ 1000000 → b.rng ∧ b.ok ∧ b.size ≤ 1000000 → AFun Tryz.prog w fd [a.cw, b.cw] (.val (.b (ld a b)))) (hcl : c.length ≤ 1000) (hdl : d.length ≤ 1000) (hc : ∀ l ∈ c, l.s16) (hd : ∀ l ∈ d, l.s16) (h : MtOk c d m) (hp : PrOk m.fr.a m.pt) : FolOk fd ld c d m := by
  obtain ⟨f1, f2⟩ := h.fs hc
  obtain ⟨t1, t2⟩ := h.ts hd
  have hb : ∀ t : Tm, t.s16 → (repT (mgS m.fr.a m.pt) t).rng ∧ (repT (mgS m.fr.a m.pt) t).ok ∧ (repT (mgS m.fr.a m.pt) t).size ≤ 1000000 := fun t ht => by
    obtain ⟨g1, g2, g3⟩ := hp.rep ht.1
    refine ⟨g1, g2, ?_⟩
    have := Nat.mul_le_mul_left 2955 ht.2
    omega
  refine ⟨hp.un, fun w t ht => hp.ap ?_ w, fun w => hld w _ _ (hb _ f1) (hb _ f2), fun w => hld w _ _ (hb _ t1) (hb _ t2), fun w => hp.ca w _ (by have := join_len h; omega) (fun l hl => (h.lits hc hd l hl).1), h.i, h.j, ⟨f2.1.1, by have := f2.2; omega⟩, ⟨t1.1.1, by have := t1.2; omega⟩, by have := h.pl; have := t1.2; omega⟩
  rcases ht with rfl | rfl | rfl | rfl
  · exact f1.1
  · exact f2.1
  · exact t1.1
  · exact t2.1
end Go.Proofs.YteegmcfobgpemaaGreat
namespace Go.Proofs.YteegmcfobgpemaaGreat
open Go.RowKit
set_option linter.unusedVariables false
set_option linter.unusedSimpArgs false
theorem mulB_not {a b : List Tm} : mulB a b = false ↔ ¬ mulP a b := by rw [← mulB_iff, Bool.not_eq_true]
theorem lok_len (c : List Lt) : (lokL c).length ≤ c.length + 1 := by
  unfold lokL
  split
  · simp
  · have := gsK_len c c.length; omega
end Go.Proofs.YteegmcfobgpemaaGreat
namespace Go.Proofs.YteegmcfobgpemaaGreat
open Go.RowKit
set_option linter.unusedVariables false
set_option linter.unusedSimpArgs false
set_option maxRecDepth 100000
theorem hvK_at (c : List Lt) : ∀ k : Nat, -1 ≤ (hvK c k).1 ∧ (hvK c k).1 < k
  | 0 => ⟨by show (-1 : Int) ≤ -1; omega, by show (-1 : Int) < _; omega⟩
  | k + 1 => by
    obtain ⟨h1, h2⟩ := hvK_at c k
    unfold hvK
    split
    · omega
    · split
      · simp only; omega
      · omega
theorem lok_at {c : List Lt} {z : Int} (h : z ∈ lokL c) : 0 ≤ z ∧ z < c.length := by
  unfold lokL at h
  split at h
  · rw [List.mem_singleton] at h
    have := hvK_at c c.length
    omega
  · unfold gsK at h
    obtain ⟨i, hi, rfl⟩ := List.mem_map.1 h
    have := List.mem_range.1 (List.mem_filter.1 hi).1
    omega

theorem fine_ten {c : List Lt} {most : Nat} {size : Int} (h0 : 0 ≤ size) (h1 : size ≤ 10) (h : fineC c most size = true) : c.length ≤ most ∧ ∀ l ∈ c, l.ten := by
  obtain ⟨h2, h3⟩ := fineC_facts h0 (by omega) h
  refine ⟨h2, fun l hl => ?_⟩
  obtain ⟨⟨⟨_, a1, a2⟩, _, a3⟩, ⟨⟨_, b1, b2⟩, _, b3⟩⟩ := h3 l hl
  exact ⟨⟨⟨a1, a2⟩, by omega⟩, ⟨b1, b2⟩, by omega⟩
theorem strip2 (l : Lt) : l.strip.strip = l.strip := by
  unfold Lt.strip
  simp only [Tm.strip_strip]
theorem strips2 (c : List Lt) : (c.map Lt.strip).map Lt.strip = c.map Lt.strip := by
  rw [List.map_map]
  exact List.map_congr_left fun l _ => strip2 l
theorem stC2 (L : List (List Lt)) : stC (stC L) = stC L := by
  unfold stC
  rw [List.map_map]
  exact List.map_congr_left fun c _ => strips2 c
theorem stC_fit {L : List (List Lt)} {N : Nat} (h : ∀ d ∈ L, d.length ≤ N ∧ ∀ l ∈ d, l.a.ok ∧ l.b.ok) : ∀ d ∈ stC L, d.length ≤ N ∧ ∀ l ∈ d, l.a.ok ∧ l.b.ok := fun d hd => by
  obtain ⟨e, he, rfl⟩ := List.mem_map.1 hd
  obtain ⟨h1, h2⟩ := h e he
  refine ⟨by rw [List.length_map]; exact h1, fun l hl => ?_⟩
  obtain ⟨x, hx, rfl⟩ := List.mem_map.1 hl
  exact ⟨Tm.strip_ok (h2 x hx).1, Tm.strip_ok (h2 x hx).2⟩
end Go.Proofs.YteegmcfobgpemaaGreat
namespace Go.Proofs.YteegmcfobgpemaaGreat
set_option linter.unusedVariables false


end Go.Proofs.YteegmcfobgpemaaGreat
namespace Go.Proofs.YteegmcfobgpemaaGreat
open Go.RowKit
set_option linter.unusedVariables false
set_option linter.unusedSimpArgs false
set_option maxRecDepth 100000
abbrev shV (n : Int) : Int → Tm := fun v => varT (v + n)
theorem sh_size {n : Int} (hn : 0 ≤ n) (t : Tm) : (repT (shV n) t).size = t.size := size_ren (g := fun v => v + n) fun v hv => by have := vs_nonneg t v hv; omega
section
variable {P : Program} {w0 : World} {U0 : UX} {nt : Nat} {ops : Array Oper} {o : Oper} {S : Nat → Option AV} {gs : List Nat} {d : Nat}
theorem a_max3 (hg : Gd w0 U0 nt ops o gs S) (hd : o.dst = some d) (hn : Nat.blt d nt = true) (h5 : Nat.blt d 100000 = true) {x y z : Operand} {ts : Array TypeId} {k : IntKind} {i j l : Int} {n q p n' q' p' n2 q2 p2} (ho : o.op = .call { callee := .builtin .max, args := #[x, y, z], argTypes := ts }) (hx : ev S x = some ⟨0, .sc (.int k i), n, q, p⟩) (hy : ev S y = some ⟨0, .sc (.int k j), n', q', p'⟩) (hz : ev S z = some ⟨0, .sc (.int k l), n2, q2, p2⟩) : AOp P w0 U0 nt ops o (gs ++ (rd x ++ (rd y ++ rd z))) [] S [(d, .val (.sc (.int k (max (max i j) l))))] :=
  aop_val hg hd hn h5 (fun k hk => List.mem_append_left _ hk) fun s hs a w D hv hm => by
    have e1 := ev_sc hm (fun k hk => hs k (List.mem_append_right _ (List.mem_append_left _ hk))) hx
    have e2 := ev_sc hm (fun k hk => hs k (List.mem_append_right _ (List.mem_append_right _ (List.mem_append_left _ hk)))) hy
    have e3 := ev_sc hm (fun k hk => hs k (List.mem_append_right _ (List.mem_append_right _ (List.mem_append_right _ hk)))) hz
    refine ⟨.int k (max (max i j) l), ?_, avrep_sc rfl⟩
    generalize a.eval = ρ at e1 e2 e3 ⊢
    simp [execOp, ho, resolve, invoke, builtin, Builtin.max_, Builtin.max2, e1, e2, e3]
    split <;> split <;> omega
end

def topC (c : List Lt) : Int := c.foldl (fun m l => max (max m (topF l.a.flat)) (topF l.b.flat)) (-1)

-- 
theorem cTop_abs (W : World) (c : List Lt) (hn : c.length ≤ 1000000) (hc : ∀ l ∈ c, l.rng) : AFun Tryz.prog W 63 [.lst (c.map Lt.cv)] (.val (.i (topC c))) := by
  have hsz := Lt.size_all c
  refine afun_of (rs := [.i (topC c)]) Tryz.func63 Tryz.ntmps63 rfl rfl rfl rfl ?_
  intro w U hW
  refine aS (aR ?_)
  (refine nx (aA (gN rfl) rfl rfl rfl rfl rfl) rfl ?_)
  show AWp _ _ _ _ _ _ _
  refine aS (aR ?_)
  (refine nx (aA (gN rfl) rfl rfl rfl rfl rfl) rfl ?_)
  show AWp _ _ _ _ _ _ _
  refine aS (aS (aR ?_))
  (refine nx (aM (gN rfl) rfl rfl rfl rfl rfl) rfl ?_)
  (refine nx (a_len (gN rfl) rfl rfl rfl rfl rfl rfl rfl) rfl ?_)
  (refine nx (aM (gN rfl) rfl rfl rfl rfl rfl) rfl ?_)
  show AWp _ _ _ _ _ _ _
  refine aB (awp_count c.length (fun k => [(3, .val (.i (topC (c.take k)))), (6, .val (.lst (c.map Lt.cv))), (7, .val (.i (c.map Lt.cv).length)), (8, .val (.i k))]) (wk_sub ⟨rfl, rfl, rfl, rfl, trivial⟩) ?_)
  intro k hk
  refine aS (aR ?_)
  (refine nx (a_lss (gN rfl) rfl rfl rfl rfl rfl rfl) rfl ?_)
  show AWp _ _ _ _ _ _ _
  refine aS (aC rfl (fun hlt => ?_) (fun hlt => ?_))
  · have hkl : k < c.length := by simpa using hlt
    obtain ⟨x, hx⟩ : ∃ x, c[k]? = some x := ⟨c[k], List.getElem?_eq_getElem hkl⟩
    have hx' := Lt.map_at hx
    have hxm := List.mem_of_getElem? hx
    have s1 := top_abs w (hc x hxm).1
    have s2 := top_abs w (hc x hxm).2
    have hst : topC (c.take (k + 1)) = max (max (topC (c.take k)) (topF x.a.flat)) (topF x.b.flat) := by
      unfold topC
      rw [List.take_add_one, hx, List.foldl_append]
      rfl
    refine aK ?_
    show AWp _ _ _ _ _ _ _
    refine aS (aB (aS (aR ?_)))
    (refine nx (a_index (j := k) (gN rfl) rfl rfl rfl rfl rfl rfl rfl rfl rfl (hx') rfl (hsz)) rfl ?_)
    (refine nx (a_load_ad (gN rfl) rfl rfl rfl rfl rfl rfl rfl rfl rfl) rfl ?_)
    (refine nx (a_alloc (gN rfl) rfl rfl rfl rfl rfl rfl rfl rfl rfl rfl) rfl ?_)
    (refine nx (aSt (gN rfl) rfl rfl rfl rfl rfl rfl rfl rfl rfl rfl) rfl ?_)
    show AWp _ _ _ _ _ _ _
    refine aD (by kernel_rfl) (by kernel_rfl) ?_
    (refine nx (aM (gN rfl) rfl rfl rfl rfl rfl) rfl ?_)
    (refine nx (aF (gN rfl) rfl rfl rfl rfl rfl rfl rfl rfl rfl) rfl ?_)
    (refine nx (aLb (gN rfl) rfl rfl rfl rfl rfl rfl rfl rfl rfl rfl rfl rfl) rfl ?_)
    (refine nx (a_call (gN rfl) rfl rfl rfl rfl rfl (s1)) rfl ?_)
    (refine nx (aF (gN rfl) rfl rfl rfl rfl rfl rfl rfl rfl rfl) rfl ?_)
    (refine nx (aLb (gN rfl) rfl rfl rfl rfl rfl rfl rfl rfl rfl rfl rfl rfl) rfl ?_)
    (refine nx (a_call (gN rfl) rfl rfl rfl rfl rfl (s2)) rfl ?_)
    (refine nx (a_max3 (gN rfl) rfl rfl rfl rfl rfl rfl rfl) rfl ?_)
    (refine nx (aA (gN rfl) rfl rfl rfl rfl rfl) rfl ?_)
    refine ⟨by kernel_rfl, ?_⟩
    show AWp _ _ _ _ _ _ _
    refine aR ?_
    (refine nx (a_add (gN rfl) rfl rfl rfl rfl rfl rfl (by first | omega | (simp only [List.length_map, List.length_append, List.length_cons, List.length_nil] <;> omega) | (simp <;> omega))) rfl ?_)
    (refine nx (aM (gN rfl) rfl rfl rfl rfl rfl) rfl ?_)
    exact ⟨hkl, wk_sub ⟨by rw [hst]; rfl, rfl, rfl, rfl, trivial⟩⟩
  · have hkl : k = c.length := by
      have : ¬ k < c.length := by simpa using hlt
      omega
    subst hkl
    rw [List.take_length]
    refine aE ?_
    show AWp _ _ _ _ _ _ _
    refine aS (aR ?_)
    (refine nx (aM (gN rfl) rfl rfl rfl rfl rfl) rfl ?_)
    (refine nx (aA (gN rfl) rfl rfl rfl rfl rfl) rfl ?_)
    show AWp _ _ _ _ _ _ _
    exact aT (And.intro (.inr rfl) rfl)
theorem fold_max : ∀ (l : List Int) (m : Int), m ≤ l.foldl max m ∧ (∀ v ∈ l, v ≤ l.foldl max m) ∧ ∀ N, m < N → (∀ v ∈ l, v < N) → l.foldl max m < N
  | [], m => ⟨Int.le_refl _, (fun v h => by cases h), fun N h _ => h⟩
  | x :: l, m => by
    obtain ⟨h1, h2, h3⟩ := fold_max l (max m x)
    refine ⟨?_, fun v hv => ?_, fun N hm hl => h3 N ?_ fun v hv => hl v (List.mem_cons_of_mem _ hv)⟩
    · show m ≤ l.foldl max (max m x); omega
    · show v ≤ l.foldl max (max m x)
      rcases List.mem_cons.1 hv with rfl | hv
      · omega
      · exact h2 v hv
    · have := hl x (by simp); omega
def cvs (c : List Lt) : List Int := c.flatMap fun l => l.a.vs ++ l.b.vs
theorem cvs_a {c : List Lt} {l : Lt} (h : l ∈ c) : ∀ v ∈ l.a.vs, v ∈ cvs c := fun v hv => List.mem_flatMap.2 ⟨l, h, List.mem_append_left _ hv⟩
theorem cvs_b {c : List Lt} {l : Lt} (h : l ∈ c) : ∀ v ∈ l.b.vs, v ∈ cvs c := fun v hv => List.mem_flatMap.2 ⟨l, h, List.mem_append_right _ hv⟩
theorem top_cvs (c : List Lt) : topC c = (cvs c).foldl max (-1) := by
  have hm : ∀ (l : List Int) (m : Int), -1 ≤ m → l.foldl max m = max m (l.foldl max (-1)) := fun l => by
    induction l with
    | nil => intro m h; show m = max m (-1); omega
    | cons x l ih =>
      intro m h
      show l.foldl max (max m x) = max m (l.foldl max (max (-1) x))
      rw [ih _ (by omega), ih (max (-1) x) (by omega)]; omega
  have key : ∀ (c : List Lt) (m : Int), -1 ≤ m → c.foldl (fun m l => max (max m (topF l.a.flat)) (topF l.b.flat)) m = (cvs c).foldl max m := fun c => by
    induction c with
    | nil => intro m _; rfl
    | cons l c ih =>
      intro m h
      have e1 : topF l.a.flat = l.a.vs.foldl max (-1) := topF_vs _
      have e2 : topF l.b.flat = l.b.vs.foldl max (-1) := topF_vs _
      show c.foldl _ (max (max m (topF l.a.flat)) (topF l.b.flat)) = ((l.a.vs ++ l.b.vs) ++ cvs c).foldl max m
      have g1 := (fold_max l.a.vs (-1)).1
      rw [ih _ (by rw [e1]; omega), List.foldl_append, List.foldl_append, hm l.a.vs m h, hm l.b.vs _ (by omega), e1, e2]
  exact key c (-1) (Int.le_refl _)
theorem top_lo (c : List Lt) : -1 ≤ topC c := by rw [top_cvs]; exact (fold_max _ _).1
theorem top_lt {c : List Lt} {N : Int} (hN : 0 ≤ N) (h : ∀ v ∈ cvs c, v < N) : topC c < N := by rw [top_cvs]; exact (fold_max _ _).2.2 N (by omega) h
noncomputable def rnC (c d : List Lt) : List Lt := d.map (Lt.rep (shV (topC c + 1)))
theorem rn_len (c d : List Lt) : (rnC c d).length = d.length := List.length_map ..
theorem sh_s16 {t : Tm} (h : t.s16) {b N : Int} (hb : 0 ≤ b) (hbN : b + N ≤ 1000000000000) (hN : ∀ v ∈ t.vs, v < N) : (repT (shV b) t).s16 := by
  have e : repT (shV b) t = repT (fun v => varT (upV (max b 0) v)) t := rep_congr fun v hv => by
    have h1 := hN v hv
    have h2 := vs_nonneg t v hv
    show varT _ = varT _
    congr 1
    unfold upV
    omega
  refine ⟨⟨?_, ?_⟩, by rw [sh_size hb]; exact h.2⟩
  · by_cases hv0 : t.vs = []
    · have e2 : repT (shV b) t = repT varT t := rep_congr fun v hv => by rw [hv0] at hv; cases hv
      rw [e2, rep_id]; exact Tm.strip_rng h.1.1
    · obtain ⟨v0, hv⟩ := List.exists_mem_of_ne_nil _ hv0
      have h1 := hN v0 hv
      have h2 := vs_nonneg t v0 hv
      rw [e]
      exact repT_rng h.1.1 fun v h1 h2 => varT_rng (upV_ok h1 h2 (by omega)).1 (upV_ok h1 h2 (by omega)).2
  · exact repT_ok h.1.2 fun v => varT_ok _
theorem rn_s16 {c d : List Lt} {N : Int} (hN : 0 ≤ N ∧ N ≤ 1000000) (hc : ∀ v ∈ cvs c, v < N) (hd : ∀ l ∈ d, l.s16) (hv : ∀ v ∈ cvs d, v < N) : ∀ l ∈ rnC c d, l.s16 := fun l hl => by
  obtain ⟨x, hx, rfl⟩ := List.mem_map.1 hl
  have h1 := top_lo c
  have h2 := top_lt hN.1 hc
  exact ⟨sh_s16 (hd x hx).1 (N := N) (by omega) (by omega) fun v h => hv v (cvs_a hx v h), sh_s16 (hd x hx).2 (N := N) (by omega) (by omega) fun v h => hv v (cvs_b hx v h)⟩
theorem s16_fit {c : List Lt} (h : ∀ l ∈ c, l.s16) : ∀ l ∈ c, l.rok := fun l hl => (h l hl).rok
theorem cRen_abs (W : World) {c d : List Lt} {N : Int} (hN : 0 ≤ N ∧ N ≤ 1000000) (hdl : d.length ≤ 1000) (hc : ∀ v ∈ cvs c, v < N) (hd : ∀ l ∈ d, l.s16) (hv : ∀ v ∈ cvs d, v < N) : AFun Tryz.prog W 18 [.lst (d.map Lt.cv), .i (topC c + 1)] (.val (.lst ((rnC c d).map Lt.cv))) := by
  obtain ⟨h1, h2⟩ := sid_fit (by omega) (s16_fit hd)
  have h := cRename_abs W d (topC c + 1) (by omega) h1 h2
  have g1 := top_lo c
  have g2 := top_lt hN.1 hc
  have e : d.map (Lt.rep fun v => varT (upV (max (topC c + 1) 0) v)) = rnC c d := List.map_congr_left fun l hl => by
    have e : ∀ t : Tm, (∀ v ∈ t.vs, v ∈ cvs d) → repT (fun v => varT (upV (max (topC c + 1) 0) v)) t = repT (shV (topC c + 1)) t := fun t ht => rep_congr fun v hv2 => by
      have h3 := hv v (ht v hv2)
      have h4 := vs_nonneg t v hv2
      show varT _ = varT _
      congr 1
      unfold upV
      omega
    unfold Lt.rep
    rw [e _ (cvs_a hl), e _ (cvs_b hl)]
  rw [e] at h
  exact h
noncomputable def lkM (free : Bool) (c : List Lt) : List Int := if free = true then upL c.length else lokL c
noncomputable def ldM (free : Bool) : Tm → Tm → Bool := if free = true then fun _ _ => true else leadB
noncomputable def mtM (free : Bool) (c d : List Lt) : List Mt := mtsL (negAt c) (wysL (ldM free) c (lkM free c)) (wysL (ldM free) d (lkM free d))
noncomputable def supM (free : Bool) (c d : List Lt) : List (List Lt) := folL (ldM free) c (rnC c d) (mtM free c (rnC c d))
theorem up_mem {n : Nat} {z : Int} (h : z ∈ upL n) : 0 ≤ z ∧ z < n := by
  obtain ⟨k, hk, rfl⟩ := List.mem_map.1 h
  have := List.mem_range.1 hk
  omega
theorem lk_at (free : Bool) (c : List Lt) : ∀ n ∈ lkM free c, 0 ≤ n ∧ n < c.length := fun n hn => by
  unfold lkM at hn
  split at hn
  · exact up_mem hn
  · exact lok_at hn
theorem lk_len (free : Bool) (c : List Lt) : (lkM free c).length ≤ c.length + 1 := by
  unfold lkM
  split
  · rw [upL_len]; omega
  · exact lok_len c
theorem mt_at {free : Bool} {c d : List Lt} {m : Mt} (h : m ∈ mtM free c d) : MtOk c d m := mts_ok (lk_at free c) (lk_at free d) h
structure Pr2 (free : Bool) (c d : List Lt) : Prop where
  N : ∃ N : Int, (0 ≤ N ∧ N ≤ 1000000) ∧ (∀ v ∈ cvs c, v < N) ∧ ∀ v ∈ cvs d, v < N
  cl : c.length ≤ 10
  dl : d.length ≤ 10
  cs : ∀ l ∈ c, l.s16
  ds : ∀ l ∈ d, l.s16
  pr : ∀ m ∈ mtM free c (rnC c d), PrOk m.fr.a m.pt
theorem Pr2.rn {free : Bool} {c d : List Lt} (h : Pr2 free c d) : ∀ l ∈ rnC c d, l.s16 := by
  obtain ⟨N, h1, h2, h3⟩ := h.N
  exact rn_s16 h1 h2 h.ds h3
theorem wys_s16 {ld : Tm → Tm → Bool} {c : List Lt} {L : List Int} (hc : ∀ l ∈ c, l.s16) {w : Wy} (h : w ∈ wysL ld c L) : w.a.s16 ∧ w.b.s16 := by
  obtain ⟨_, l, h1, h2, _⟩ := wys_mem h
  have := hc l (List.mem_of_getElem? h1)
  rcases h2 with ⟨e1, e2⟩ | ⟨e1, e2⟩
  · rw [e1, e2]; exact this
  · rw [e1, e2]; exact ⟨this.2, this.1⟩
theorem mtM_len {free : Bool} {c d : List Lt} (hc : c.length ≤ 10) (hd : d.length ≤ 10) (hs : ∀ l ∈ d, l.s16) : (mtM free c d).length ≤ 22 * (22 * 16) := by
  have h1 := wys_len (ldM free) c (lkM free c)
  have h2 := wys_len (ldM free) d (lkM free d)
  have h3 := lk_len free c
  have h4 := lk_len free d
  refine Nat.le_trans (mts_len _ _ _ 16 fun w hw => (wys_s16 hs hw).1.2) (Nat.mul_le_mul (by omega) (Nat.mul_le_mul (by omega) (Nat.le_refl _)))
theorem supM_len {free : Bool} {c d : List Lt} (hc : c.length ≤ 10) (hd : d.length ≤ 10) (hs : ∀ l ∈ rnC c d, l.s16) : (supM free c d).length ≤ 7744 :=
  Nat.le_trans (List.length_filterMap_le _ _) (mtM_len hc (by rw [rn_len]; exact hd) hs)
theorem suFol_abs (free : Bool) (fl fd : Nat) (W : World) (c d : List Lt) (h : Pr2 free c d) (hfl : ∀ w (x : List Lt), x.length ≤ 1000 → (∀ l ∈ x, l.s16) → AFun Tryz.prog w fl [.lst (x.map Lt.cv)] (.val (.lst ((lkM free x).map CV.i)))) (hfd : ∀ w (a b : Tm), a.rng ∧ a.ok ∧ a.size ≤ 1000000 → b.rng ∧ b.ok ∧ b.size ≤ 1000000 → AFun Tryz.prog w fd [a.cw, b.cw] (.val (.b (ldM free a b)))) : AFun Tryz.prog W 39 [ruC fl fd, .lst (c.map Lt.cv), .lst (d.map Lt.cv)] (.val (.lst ((supM free c d).map clC))) := by
  obtain ⟨N, n1, n2, n3⟩ := h.N
  have hr := h.rn
  have hdl := h.dl
  have hcl := h.cl
  have hrl := rn_len c d
  have g1 := top_lo c
  have g2 := top_lt n1.1 n2
  have l1 := lk_len free c
  have l2 := lk_len free (rnC c d)
  have hb : ∀ t : Tm, t.s16 → t.rng ∧ t.ok ∧ t.size ≤ 1000000 := fun t ht => ⟨ht.1.1, ht.1.2, by have := ht.2; omega⟩
  have hml := mtM_len (free := free) hcl (by rw [hrl]; exact hdl) hr
  exact suFollows_abs W fl fd (ldM free) c d (rnC c d) (lkM free c) (lkM free (rnC c d)) (topC c) (by omega) (by omega) (by omega) (s16_fit h.cs) (s16_fit hr) (fun w => cTop_abs w c (by omega) fun l hl => ⟨(h.cs l hl).1.1.1, (h.cs l hl).2.1.1⟩) (fun w => cRen_abs w n1 (by omega) n2 h.ds n3) (fun w => hfl w c (by omega) h.cs) (fun w => hfl w _ (by omega) hr) (lk_at free c) (lk_at free _) (by omega) (by omega)
    (fun w l hl => by
      have hs : l.s16 := by
        rcases hl with hl | hl
        · exact h.cs l hl
        · exact hr l hl
      exact ⟨hfd w _ _ (hb _ hs.1) (hb _ hs.2), hfd w _ _ (hb _ hs.2) (hb _ hs.1)⟩) (fun w hw => by have := (wys_s16 hr hw).1.2; omega) (fun w hw => lk_at free c _ (wys_mem hw).1) (by unfold mtM at hml; omega)
    (fun m hm => folOk_mk hfd (by omega) (by omega) h.cs hr (mt_at hm) (h.pr m hm))
theorem afun_ru {P : Program} {W : World} {f fl fd : Nat} {a b : CV} {r : AV} (h : AFun P W f [ruC fl fd, a, b] r) : AFun P W f [.row [.sc (.func (.func fl) #[] #[]), .sc (.func (.func fd) #[] #[])], a, b] r := by
  refine ⟨h.1, h.2.1, h.2.2.1, fun U w vs hW hv => h.2.2.2 U w vs hW ?_⟩
  obtain ⟨u, us, rfl, h1, h2⟩ := hv
  refine ⟨u, us, rfl, ?_, h2⟩
  have key : ∀ (f : Nat) (xs : List Value), Rep U w (.sc (.func (.func f) #[] #[])) xs → Rep U w (.fn f 0 []) xs := fun f xs hx => by
    obtain ⟨rfl, _⟩ := rep_sc.1 hx
    exact rep_fn.2 ⟨[], [], rfl, rfl, rfl, fun c hc => by cases hc⟩
  obtain ⟨xs, e, y1, z1, e1, s1, y2, z2, e2, s2, s3⟩ := vrep_row.1 h1
  exact vrep_row.2 ⟨xs, e, y1, z1, e1, key _ _ s1, y2, z2, e2, key _ _ s2, s3⟩
-- 
theorem suInto_abs (W : World) (c d : List Lt) (h : Pr2 false c d) : AFun Tryz.prog W 13 [.lst (c.map Lt.cv), .lst (d.map Lt.cv)] (.val (.lst ((supM false c d).map clC))) := by
  have hf := fun w => suFol_abs false 37 38 w c d h (fun w x hx hs => by
    have := oLook_abs w x (by omega) fun l hl => ?_
    · exact this
    · exact ⟨⟨(hs l hl).1.1.1, (hs l hl).1.1.2, by have := (hs l hl).1.2; omega⟩, (hs l hl).2.1.1, (hs l hl).2.1.2, by have := (hs l hl).2.2; omega⟩) (fun w a b ha hb => suLeads_abs w a b ha hb)
  refine afun_of (rs := [.lst ((supM false c d).map clC)]) Tryz.func13 Tryz.ntmps13 rfl rfl rfl rfl ?_
  intro w U hW
  refine aS (aR ?_)
  (refine nx (aA (gN rfl) rfl rfl rfl rfl rfl) rfl ?_)
  show AWp _ _ _ _ _ _ _
  refine aS (aR ?_)
  (refine nx (a_buildT [.sc .nilFunc, .sc .nilFunc] (gN rfl) rfl rfl rfl rfl rfl rfl rfl rfl rfl rfl rfl) rfl ?_)
  (refine nx (aM (gN rfl) rfl rfl rfl rfl rfl) rfl ?_)
  (refine nx (aM (gN rfl) rfl rfl rfl rfl rfl) rfl ?_)
  (refine nx (a_call (gN rfl) rfl rfl rfl rfl rfl (afun_ru (hf w))) rfl ?_)
  (refine nx (aA (gN rfl) rfl rfl rfl rfl rfl) rfl ?_)
  show AWp _ _ _ _ _ _ _
  exact aT (And.intro (.inr rfl) rfl)
-- 
theorem suFree_abs (W : World) (c d : List Lt) (h : Pr2 true c d) : AFun Tryz.prog W 15 [.lst (c.map Lt.cv), .lst (d.map Lt.cv)] (.val (.lst ((supM true c d).map clC))) := by
  have hf := fun w => suFol_abs true 41 42 w c d h (fun w x hx hs => suPlaces_abs w x (by omega)) (fun w a b _ _ => suAlways_abs w a b)
  refine afun_of (rs := [.lst ((supM true c d).map clC)]) Tryz.func15 Tryz.ntmps15 rfl rfl rfl rfl ?_
  intro w U hW
  refine aS (aR ?_)
  (refine nx (aA (gN rfl) rfl rfl rfl rfl rfl) rfl ?_)
  show AWp _ _ _ _ _ _ _
  refine aS (aR ?_)
  (refine nx (a_buildT [.sc .nilFunc, .sc .nilFunc] (gN rfl) rfl rfl rfl rfl rfl rfl rfl rfl rfl rfl rfl) rfl ?_)
  (refine nx (aM (gN rfl) rfl rfl rfl rfl rfl) rfl ?_)
  (refine nx (aM (gN rfl) rfl rfl rfl rfl rfl) rfl ?_)
  (refine nx (a_call (gN rfl) rfl rfl rfl rfl rfl (afun_ru (hf w))) rfl ?_)
  (refine nx (aA (gN rfl) rfl rfl rfl rfl rfl) rfl ?_)
  show AWp _ _ _ _ _ _ _
  exact aT (And.intro (.inr rfl) rfl)
theorem sup_mem {free : Bool} {c d : List Lt} {z : List Lt} (h : z ∈ supM free c d) : ∃ m, m ∈ mtM free c (rnC c d) ∧ (mgT m.fr.a m.pt).2 = true ∧ z = (joinM m c (rnC c d)).map (Lt.rep (mgS m.fr.a m.pt)) := by
  obtain ⟨m, hm, he⟩ := List.mem_filterMap.1 h
  unfold folC at he
  split at he
  · rename_i hg
    exact ⟨m, hm, hg.1, (Option.some.inj he).symm⟩
  · cases he
theorem sup_fit {free : Bool} {c d : List Lt} (hp : Pr2 free c d) {z : List Lt} (h : z ∈ supM free c d) : z.length + 1 = c.length + d.length ∧ ∀ l ∈ z, l.rok ∧ l.a.size ≤ 100000 ∧ l.b.size ≤ 100000 := by
  obtain ⟨m, hm, _, rfl⟩ := sup_mem h
  have hk := mt_at hm
  have hpr := hp.pr m hm
  refine ⟨by rw [List.length_map, ← rn_len c d]; exact join_len hk, fun l hl => ?_⟩
  obtain ⟨x, hx, rfl⟩ := List.mem_map.1 hl
  obtain ⟨h1, h2, h3⟩ := hk.lits hp.cs hp.rn x hx
  obtain ⟨a1, a2, a3⟩ := hpr.rep h1.1
  obtain ⟨b1, b2, b3⟩ := hpr.rep h1.2
  have m1 := Nat.mul_le_mul_left 2955 h2
  have m2 := Nat.mul_le_mul_left 2955 h3
  exact ⟨⟨⟨a1, a2⟩, b1, b2⟩, by show (repT _ x.a).size ≤ _; omega, by show (repT _ x.b).size ≤ _; omega⟩
end Go.Proofs.YteegmcfobgpemaaGreat
