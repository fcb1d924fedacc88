/-
  SuSym SuWays SuMeet SuPut SuJoin SuFol
-/
import Derived.Test.YteegmcfobgpemaaGreatMg10
import Derived.Test.YteegmcfobgpemaaGreatMg4
import Derived.Test.YteegmcfobgpemaaGreatMg2
namespace Go.Proofs.YteegmcfobgpemaaGreat
open Go.RowKit
set_option linter.unusedVariables false
set_option linter.unusedSimpArgs false
set_option maxRecDepth 100000
-- 
theorem suSymbols_abs (W : World) (t : Tm) : AFun Tryz.prog W 91 [t.cw] (.val (.fn 119 0 [.ptr t.cw])) := by
  refine afun_of (rs := [.fn 119 0 [.ptr t.cw]]) Tryz.func91 Tryz.ntmps91 rfl rfl rfl rfl ?_
  intro w U hW
  refine aS (aR ?_)
  (refine nx (a_box (gN rfl) rfl rfl rfl rfl rfl) rfl ?_)
  (refine nx (aA (gN rfl) rfl rfl rfl rfl rfl) rfl ?_)
  show AWp _ _ _ _ _ _ _
  refine AWp.wk (wk_freeze 1 rfl rfl rfl (s' := []) trivial rfl rfl rfl) ?_
  refine aS (aR ?_)
  (refine nx (a_mkfunc (gN rfl) rfl rfl rfl rfl rfl rfl) rfl ?_)
  (refine nx (aA (gN rfl) rfl rfl rfl rfl rfl) rfl ?_)
  show AWp _ _ _ _ _ _ _
  exact aT ⟨.inr rfl, rfl⟩
-- 
set_option maxHeartbeats 2000000 in
theorem suSym_hands (t : Tm) (hsz : t.size ≤ 1000000) (Ls : Nat → List (List Lt)) : HandsY Tryz.prog 119 [.ptr t.cw] [400002, 400003] (fun X x => rowI X x.1) (fun X x _ => [.sl X 0 x.1.length 1, .val x.2.cw]) (sy t []) (fun k => obE (Ls k)) := by
  intro Wb Ub l0 hY
  have hw := (suWalk_abs Wb Ub l0 Ls t 0 [] (by simpa using hsz) (fun i x hx X hX => by
    have := hY i x hx X hX
    rw [show 0 + i = i by omega]
    exact this)).1
  rw [Nat.zero_add] at hw
  have hcall : AFunY Tryz.prog Wb Ub 120 (obE (Ls 0)) [.own (.lst []) 1, .val t.cw, .val (yldV l0)] (.val (.b true)) (obE (Ls (sy t []).length)) := afunY_nil 400002 3 1 (cs := [t.cw, yldV l0]) rfl rfl (by kernel_rfl) rfl hw
  refine afunY_of Tryz.func119 Tryz.ntmps119 rfl rfl rfl rfl (by kernel_rfl) (by kernel_rfl) ?_
  intro w U hon hU
  show AWp _ _ _ _ _ _ ((0, AV.val (yldV l0)) :: (1, .val (.ptr t.cw)) :: obE (Ls 0))
  refine aR ?_
  (refine nx (a_load_ptr (gN rfl) rfl rfl rfl rfl rfl rfl rfl rfl rfl) rfl ?_)
  (refine nx (aM (gN rfl) rfl rfl rfl rfl rfl) rfl ?_)
  (refine nx (a_callY hon (gN rfl) rfl rfl rfl rfl rfl (hcall) (by repeat (first | exact trivial | refine ⟨rfl, ?_⟩)) (by first | rfl | kernel_rfl) (by first | rfl | kernel_rfl) (by first | rfl | kernel_rfl) (by first | rfl | kernel_rfl) (hnb_of (by first | rfl | kernel_rfl)) rfl) rfl ?_)
  exact ⟨.inl rfl, _, Wk.refl _, rfl, rfl, rfl, rfl, trivial⟩
-- 
theorem suLeads_abs (W : World) (a b : Tm) (ha : a.rng ∧ a.ok ∧ a.size ≤ 1000000) (hb : b.rng ∧ b.ok ∧ b.size ≤ 1000000) : AFun Tryz.prog W 38 [a.cw, b.cw] (.val (.b (leadB a b))) := by
  have hk := fun w => kCmp_abs w a b ha.1 ha.2.1 (by omega) hb.1 hb.2.1 (by omega)
  obtain ⟨k, hkk⟩ : ∃ k, k = kb a b := ⟨_, rfl⟩
  have he : leadB a b = decide (k = 1 ∨ k = 2) := by rw [hkk]; rfl
  rw [← hkk] at hk
  rw [he]
  refine afun_of (rs := [.b (decide (k = 1 ∨ k = 2))]) Tryz.func38 Tryz.ntmps38 rfl rfl rfl rfl ?_
  intro w U hW
  refine aS (aR ?_)
  (refine nx (a_box (gN rfl) rfl rfl rfl rfl rfl) rfl ?_)
  (refine nx (a_box (gN rfl) rfl rfl rfl rfl rfl) rfl ?_)
  (refine nx (aA (gN rfl) rfl rfl rfl rfl rfl) rfl ?_)
  show AWp _ _ _ _ _ _ _
  refine aS (aR ?_)
  (refine nx (aL (gN rfl) rfl rfl rfl rfl rfl rfl rfl rfl rfl rfl rfl rfl) rfl ?_)
  (refine nx (aL (gN rfl) rfl rfl rfl rfl rfl rfl rfl rfl rfl rfl rfl rfl) rfl ?_)
  (refine nx (a_call (gN rfl) rfl rfl rfl rfl rfl (hk w)) rfl ?_)
  (refine nx (aA (gN rfl) rfl rfl rfl rfl rfl) rfl ?_)
  show AWp _ _ _ _ _ _ _
  by_cases h1 : k = 1
  · have g : decide (k = 1) = true := decide_eq_true h1
    rw [decide_eq_true (Or.inl h1)]
    refine aS (aR ?_)
    (refine nx (aM (gN rfl) rfl rfl rfl rfl rfl) rfl ?_)
    (refine nx (a_eql (gN rfl) rfl rfl rfl rfl rfl rfl) rfl ?_)
    (refine nx (aM (gN rfl) rfl rfl rfl rfl rfl) rfl ?_)
    (refine ⟨_, _, _, a_off (go_off rfl rfl rfl rfl (by first | rfl | assumption | (simp; done) | (simp [*]; done))) rfl rfl rfl, rfl, ?_⟩)
    (refine ⟨_, _, _, a_off (go_off rfl rfl rfl rfl (by first | rfl | assumption | (simp; done) | (simp [*]; done))) rfl rfl rfl, rfl, ?_⟩)
    (refine ⟨_, _, _, aPt (gN rfl) rfl rfl rfl rfl rfl ?hb rfl, rfl, ?_⟩; case hb => (first | rfl | assumption | (simp; done)))
    (refine nx (aA (gN rfl) rfl rfl rfl rfl rfl) rfl ?_)
    show AWp _ _ _ _ _ _ _
    exact aT (And.intro (.inr rfl) rfl)
  · have g : decide (k = 1) = false := decide_eq_false h1
    have e : decide (k = 1 ∨ k = 2) = decide (k = 2) := by simp [h1]
    rw [e]
    refine aS (aR ?_)
    (refine nx (aM (gN rfl) rfl rfl rfl rfl rfl) rfl ?_)
    (refine nx (a_eql (gN rfl) rfl rfl rfl rfl rfl rfl) rfl ?_)
    (refine nx (aM (gN rfl) rfl rfl rfl rfl rfl) rfl ?_)
    (refine nx (aM (gd_on rfl rfl rfl rfl (by first | rfl | assumption | (simp; done))) rfl rfl rfl rfl rfl) rfl ?_)
    (refine nx (a_eql (gd_on rfl rfl rfl rfl (by first | rfl | assumption | (simp; done))) rfl rfl rfl rfl rfl rfl) rfl ?_)
    (refine ⟨_, _, _, aPf (gN rfl) rfl rfl rfl rfl rfl ?hb rfl, rfl, ?_⟩; case hb => (first | rfl | assumption | (simp; done)))
    (refine nx (aA (gN rfl) rfl rfl rfl rfl rfl) rfl ?_)
    show AWp _ _ _ _ _ _ _
    exact aT (And.intro (.inr rfl) rfl)
-- 
theorem suAlways_abs (W : World) (a b : Tm) : AFun Tryz.prog W 42 [a.cw, b.cw] (.val (.b true)) := by
  refine afun_of (rs := [.b true]) Tryz.func42 Tryz.ntmps42 rfl rfl rfl rfl ?_
  intro w U hW
  refine aS (aR ?_)
  (refine nx (a_box (gN rfl) rfl rfl rfl rfl rfl) rfl ?_)
  (refine nx (a_box (gN rfl) rfl rfl rfl rfl rfl) rfl ?_)
  (refine nx (aA (gN rfl) rfl rfl rfl rfl rfl) rfl ?_)
  show AWp _ _ _ _ _ _ _
  refine aS (aR ?_)
  (refine nx (aA (gN rfl) rfl rfl rfl rfl rfl) rfl ?_)
  show AWp _ _ _ _ _ _ _
  exact aT (And.intro (.inr rfl) rfl)
def upL (n : Nat) : List Int := (List.range n).map fun (k : Nat) => (k : Int)
theorem upL_succ (n : Nat) : upL (n + 1) = upL n ++ [(n : Int)] := by
  unfold upL
  rw [List.range_succ, List.map_append]; rfl
theorem upL_len (n : Nat) : (upL n).length = n := by unfold upL; simp
structure Wy where
  n : Int
  a : Tm
  b : Tm
noncomputable def Wy.cv (w : Wy) : CV := .row [.i w.n, .row [.i w.a.f, .lst (w.a.l.map Tm.cv)], .row [.i w.b.f, .lst (w.b.l.map Tm.cv)]]
def wy2 (n : Int) (l : Lt) : List Wy := [⟨n, l.a, l.b⟩, ⟨n, l.b, l.a⟩]
noncomputable def wysN (ld : Tm → Tm → Bool) (c : List Lt) (n : Int) : List Wy := match c[n.toNat]? with
  | some l => (wy2 n l).filter fun w => ld w.a w.b
  | none => []
noncomputable def wysL (ld : Tm → Tm → Bool) (c : List Lt) (L : List Int) : List Wy := L.flatMap (wysN ld c)
theorem wysL_take {ld : Tm → Tm → Bool} {c : List Lt} {L : List Int} {k : Nat} {n : Int} (h : L[k]? = some n) : wysL ld c (L.take (k + 1)) = wysL ld c (L.take k) ++ wysN ld c n := by
  unfold wysL
  rw [List.take_add_one, h, List.flatMap_append]
  simp
theorem wy2_size (n : Int) (l : Lt) : ∀ x ∈ (wy2 n l).map Wy.cv, x.size = 5 := by
  intro x hx
  obtain ⟨w, _, rfl⟩ := List.mem_map.1 hx
  rfl
theorem wys_at {ld : Tm → Tm → Bool} {c : List Lt} {L : List Int} {k : Nat} {n : Int} {l : Lt} (h : L[k]? = some n) (hl : c[n.toNat]? = some l) {j : Nat} {w : Wy} (hj : (wy2 n l)[j]? = some w) (hld : ld w.a w.b = true) : (wysL ld c L)[(wysL ld c (L.take k)).length + (((wy2 n l).take j).filter fun w => ld w.a w.b).length]? = some w := by
  have h1 : wysL ld c L = wysL ld c (L.take (k + 1)) ++ wysL ld c (L.drop (k + 1)) := by
    conv => lhs; rw [← List.take_append_drop (k + 1) L]
    unfold wysL; rw [List.flatMap_append]
  have h2 : wysN ld c n = (wy2 n l).filter fun w => ld w.a w.b := by unfold wysN; rw [hl]
  have h3 : (wy2 n l).filter (fun w => ld w.a w.b) = ((wy2 n l).take j).filter (fun w => ld w.a w.b) ++ (w :: ((wy2 n l).drop (j + 1)).filter fun w => ld w.a w.b) := by
    conv => lhs; rw [← List.take_append_drop j (wy2 n l), drop_at hj]
    rw [List.filter_append, List.filter_cons, if_pos hld]
  rw [h1, wysL_take h, h2, h3, List.append_assoc, List.getElem?_append_right (by omega), Nat.add_sub_cancel_left, List.append_assoc, List.getElem?_append_right (by omega), Nat.sub_self]
  rfl
section
variable {P : Program} {w0 : World} {U0 : UX} {nt : Nat} {s : AS}
variable {ops : Array Oper} {o : Oper} {S : Nat → Option AV} {gs : List Nat} {d : Nat}
theorem a_alloc1V (hg : Gd w0 U0 nt ops o gs S) (hd : o.dst = some d) (hn : Nat.blt d nt = true) (h5 : Nat.blt d 100000 = true) {ty : TypeId} {v : Value} {c : CV} (ho : o.op = .alloc ty) (hi : (P.info? ty).map (·.zero) = some (some v)) (hc : (v = .slice none 0 0 ∧ c = .lst []) ∨ (v.oneCell' = true ∧ c = .sc v)) : AOp P w0 U0 nt ops o gs [(d, [])] S [(d, .bp d 0 []), (100000 + d, .bx c)] := by
  intro s hs hN a w ⟨D, hv, h⟩ Q K hK
  rw [if_pos (hg s hs a w D hv h)]
  obtain ⟨it, hi1, hi2⟩ : ∃ it, P.info? ty = some it ∧ it.zero = some v := by
    cases e : P.info? ty with
    | none => rw [e] at hi; cases hi
    | some it => rw [e] at hi; exact ⟨it, rfl, by simpa using hi⟩
  have hrep : Rep (Us w0 U0 D) w c [v] ∧ v.cells = #[v] := by
    rcases hc with ⟨rfl, rfl⟩ | ⟨h1, rfl⟩
    · exact ⟨rep_lst.2 ⟨none, 0, 0, rfl, rfl, by omega, (by unfold maxLen; omega), (fun _ => ⟨rfl, rfl⟩), [], .inl rfl, rfl⟩, rfl⟩
    · exact ⟨rep_sc.2 ⟨rfl, h1⟩, by cases v <;> first | rfl | simp [Value.oneCell'] at h1⟩
  have he : (execOp a.eval o).run P w = .ok (.value (.pointer (some ⟨w.heap.size, 0, none⟩))) (w.alloc (.cells #[v] ty)) := by
    simp [execOp, ho, Instr.alloc, zeroValue, typeInfo, hi1, hi2, run_newVar, hrep.2]
  unfold Oper.wp
  rw [he, Oper.upon_value, hd]
  exact hK _ _ ⟨_, _, h.newbox (d := d) (av := .bx c) (xs := [v]) (hN (d, []) (by simp)).nr (bL hn) (bL h5) (.inl rfl) ty (fun _ => hrep.1) (fun _ hl => absurd hl not_live0)⟩
theorem wk_ptrad (d : Nat) {c : CV} (h1 : look s d = some (.val (.ptr c))) (hd : Nat.blt d 100000 = true) : Wk w0 U0 nt s ((d, .ad c) :: s) := by
  rintro a w ⟨D, hv, h⟩
  obtain ⟨v, g1, g2⟩ := h.slot d _ h1 (bL hd)
  obtain ⟨b, off, xs, e1, e2, e3⟩ := vrep_ptr.1 g2.1
  exact ⟨D, hv, h.know (bL hd) g1 ⟨b, off, xs, e1, e2, e3⟩⟩
end
noncomputable abbrev ruC (fl fd : Nat) : CV := .row [.fn fl 0 [], .fn fd 0 []]
-- 
theorem suWays_abs (W : World) (fl fd : Nat) (c : List Lt) (L : List Int) (hlk : ∀ w, AFun Tryz.prog w fl [.lst (c.map Lt.cv)] (.val (.lst (L.map CV.i)))) : AFun Tryz.prog W 89 [ruC fl fd, .lst (c.map Lt.cv)] (.val (.fn 118 0 [.ptr (.lst (L.map CV.i)), .ptr (.lst (c.map Lt.cv)), .ptr (ruC fl fd)])) := by
  refine afun_of (rs := [.fn 118 0 [.ptr (.lst (L.map CV.i)), .ptr (.lst (c.map Lt.cv)), .ptr (ruC fl fd)]]) Tryz.func89 Tryz.ntmps89 rfl rfl rfl rfl ?_
  intro w U hW
  have hv : AFunV Tryz.prog w (.fn fl 0 []) [.lst (c.map Lt.cv)] (.val (.lst (L.map CV.i))) := ⟨fl, 0, [], rfl, by simpa using hlk w⟩
  refine aS (aR ?_)
  (refine nx (a_box (gN rfl) rfl rfl rfl rfl rfl) rfl ?_)
  (refine nx (a_box (gN rfl) rfl rfl rfl rfl rfl) rfl ?_)
  (refine nx (aA (gN rfl) rfl rfl rfl rfl rfl) rfl ?_)
  show AWp _ _ _ _ _ _ _
  refine aS (aR ?_)
  (refine nx (aF (gN rfl) rfl rfl rfl rfl rfl rfl rfl rfl rfl) rfl ?_)
  (refine nx (aLb (gN rfl) rfl rfl rfl rfl rfl rfl rfl rfl rfl rfl rfl rfl) rfl ?_)
  (refine nx (aL (gN rfl) rfl rfl rfl rfl rfl rfl rfl rfl rfl rfl rfl rfl) rfl ?_)
  (refine nx (a_callv (gN rfl) rfl rfl rfl rfl rfl rfl (hv)) rfl ?_)
  (refine nx (a_alloc1V (gN rfl) rfl rfl rfl rfl rfl (by first | exact .inl ⟨rfl, rfl⟩ | exact .inr ⟨rfl, rfl⟩)) rfl ?_)
  (refine nx (aSt (gN rfl) rfl rfl rfl rfl rfl rfl rfl rfl rfl rfl) rfl ?_)
  show AWp _ _ _ _ _ _ _
  refine AWp.wk ((wk_freeze 5 rfl rfl rfl (s' := [(2, AV.bp 2 0 []), (100002, .bx (ruC fl fd)), (3, .bp 3 0 []), (100003, .bx (.lst (c.map Lt.cv)))]) ⟨rfl, rfl, rfl, rfl, trivial⟩ rfl rfl rfl).trans ((wk_freeze 3 rfl rfl rfl (s' := [(5, AV.val (.ptr (.lst (L.map CV.i)))), (2, AV.bp 2 0 []), (100002, .bx (ruC fl fd))]) ⟨rfl, rfl, rfl, trivial⟩ rfl rfl rfl).trans (wk_freeze 2 rfl rfl rfl (s' := [(5, AV.val (.ptr (.lst (L.map CV.i)))), (3, .val (.ptr (.lst (c.map Lt.cv))))]) ⟨rfl, rfl, trivial⟩ rfl rfl rfl))) ?_
  refine aS (aR ?_)
  (refine nx (a_mkfunc (gN rfl) rfl rfl rfl rfl rfl rfl) rfl ?_)
  (refine nx (aA (gN rfl) rfl rfl rfl rfl rfl) rfl ?_)
  show AWp _ _ _ _ _ _ _
  exact aT ⟨.inr rfl, rfl⟩
-- 
set_option maxHeartbeats 8000000 in
theorem suWays_hands (fl fd : Nat) (ld : Tm → Tm → Bool) (c : List Lt) (hc : c.length ≤ 1000000) (L : List Int) (hL : ∀ n ∈ L, 0 ≤ n ∧ n < c.length) (hLl : L.length ≤ 1000000) (hd : ∀ w, ∀ l ∈ c, AFun Tryz.prog w fd [l.a.cw, l.b.cw] (.val (.b (ld l.a l.b))) ∧ AFun Tryz.prog w fd [l.b.cw, l.a.cw] (.val (.b (ld l.b l.a)))) (Ls : Nat → List (List Lt)) : HandsY Tryz.prog 118 [.ptr (.lst (L.map CV.i)), .ptr (.lst (c.map Lt.cv)), .ptr (ruC fl fd)] [0] (fun _ _ => []) (fun _ x _ => [.val x.cv]) (wysL ld c L) (fun k => obE (Ls k)) := by
  intro Wb Ub l0 hY
  refine afunY_of Tryz.func118 Tryz.ntmps118 rfl rfl rfl rfl (by kernel_rfl) (by kernel_rfl) ?_
  intro w U hon hU
  show AWp _ _ _ _ _ _ ((0, AV.val (yldV l0)) :: (1, .val (.ptr (.lst (L.map CV.i)))) :: (2, .val (.ptr (.lst (c.map Lt.cv)))) :: (3, .val (.ptr (ruC fl fd))) :: obE (Ls 0))
  have hsc := Lt.size_all c
  refine aS (aR ?_)
  (refine nx (a_load_ptr (gN rfl) rfl rfl rfl rfl rfl rfl rfl rfl rfl) rfl ?_)
  (refine nx (a_len (gN rfl) rfl rfl rfl rfl rfl rfl rfl) rfl ?_)
  (refine nx (aM (gN rfl) rfl rfl rfl rfl rfl) rfl ?_)
  show AWp _ _ _ _ _ _ _
  refine AWp.wk (wk_ptrad 3 rfl rfl) ?_
  refine aB (awp_count L.length (fun k => (0, AV.val (yldV l0)) :: (2, .val (.ptr (.lst (c.map Lt.cv)))) :: (3, .ad (ruC fl fd)) :: (9, .val (.lst (L.map CV.i))) :: (10, .val (.i (L.map CV.i).length)) :: (11, .val (.i (k : Int))) :: obE (Ls (wysL ld c (L.take k)).length)) (wk_sub ⟨rfl, rfl, rfl, rfl, rfl, rfl, rfl, rfl, rfl, trivial⟩) ?_)
  intro k hk
  obtain ⟨J, hJ⟩ : ∃ J, J = (wysL ld c (L.take k)).length := ⟨_, rfl⟩
  refine aS (aR ?_)
  (refine nx (a_lss (gN rfl) rfl rfl rfl rfl rfl rfl) rfl ?_)
  show AWp _ _ _ _ _ _ _
  refine aS (aC rfl (fun hlt => ?_) (fun hlt => ?_))
  · have hkl : k < L.length := by simpa using hlt
    obtain ⟨n, hn⟩ : ∃ n, L[k]? = some n := ⟨L[k], List.getElem?_eq_getElem hkl⟩
    obtain ⟨m, hm⟩ : ∃ m : Nat, n = (m : Int) := ⟨n.toNat, by have := (hL n (List.mem_of_getElem? hn)).1; omega⟩
    subst hm
    have hmc : m < c.length := by have := (hL _ (List.mem_of_getElem? hn)).2; omega
    obtain ⟨l, hl⟩ : ∃ l, c[m]? = some l := ⟨c[m], List.getElem?_eq_getElem hmc⟩
    have hlm := List.mem_of_getElem? hl
    have hl' := Lt.map_at hl
    have hn' : (L.map CV.i)[k]? = some (.i (m : Int)) := by rw [List.getElem?_map, hn]; rfl
    have hsi := ints_size L
    have hwN : wysN ld c (m : Int) = (wy2 m l).filter fun w => ld w.a w.b := by unfold wysN; rw [Int.toNat_natCast, hl]
    have hstep := wysL_take (ld := ld) (c := c) hn
    rw [← hJ]
    refine aK ?_
    show AWp _ _ _ _ _ _ _
    refine aS (aB (aS (aR ?_)))
    (refine nx (a_index (j := k) (gN rfl) rfl rfl rfl rfl rfl rfl rfl rfl rfl (hn') rfl (hsi)) rfl ?_)
    (refine nx (a_load_ad (gN rfl) rfl rfl rfl rfl rfl rfl rfl rfl rfl) rfl ?_)
    (refine nx (aA (gN rfl) rfl rfl rfl rfl rfl) rfl ?_)
    show AWp _ _ _ _ _ _ _
    refine aS (aD (by kernel_rfl) (by kernel_rfl) ?_)
    (refine nx (aM (gN rfl) rfl rfl rfl rfl rfl) rfl ?_)
    (refine nx (a_load_ptr (gN rfl) rfl rfl rfl rfl rfl rfl rfl rfl rfl) rfl ?_)
    (refine nx (aM (gN rfl) rfl rfl rfl rfl rfl) rfl ?_)
    (refine nx (a_index (j := m) (gN rfl) rfl rfl rfl rfl rfl rfl rfl rfl rfl (hl') rfl (hsc)) rfl ?_)
    (refine nx (a_field_ad (gN rfl) rfl rfl rfl rfl rfl rfl rfl rfl rfl rfl rfl) rfl ?_)
    (refine nx (a_load_ad (gN rfl) rfl rfl rfl rfl rfl rfl rfl rfl rfl) rfl ?_)
    (refine nx (a_load_ptr (gN rfl) rfl rfl rfl rfl rfl rfl rfl rfl rfl) rfl ?_)
    (refine nx (aM (gN rfl) rfl rfl rfl rfl rfl) rfl ?_)
    (refine nx (a_index (j := m) (gN rfl) rfl rfl rfl rfl rfl rfl rfl rfl rfl (hl') rfl (hsc)) rfl ?_)
    (refine nx (a_field_ad (gN rfl) rfl rfl rfl rfl rfl rfl rfl rfl rfl rfl rfl) rfl ?_)
    (refine nx (a_load_ad (gN rfl) rfl rfl rfl rfl rfl rfl rfl rfl rfl) rfl ?_)
    (refine nx (a_build (gN rfl) rfl rfl rfl rfl rfl rfl rfl rfl rfl rfl rfl) rfl ?_)
    (refine nx (aM (gN rfl) rfl rfl rfl rfl rfl) rfl ?_)
    (refine nx (a_load_ptr (gN rfl) rfl rfl rfl rfl rfl rfl rfl rfl rfl) rfl ?_)
    (refine nx (aM (gN rfl) rfl rfl rfl rfl rfl) rfl ?_)
    (refine nx (a_index (j := m) (gN rfl) rfl rfl rfl rfl rfl rfl rfl rfl rfl (hl') rfl (hsc)) rfl ?_)
    (refine nx (a_field_ad (gN rfl) rfl rfl rfl rfl rfl rfl rfl rfl rfl rfl rfl) rfl ?_)
    (refine nx (a_load_ad (gN rfl) rfl rfl rfl rfl rfl rfl rfl rfl rfl) rfl ?_)
    (refine nx (a_load_ptr (gN rfl) rfl rfl rfl rfl rfl rfl rfl rfl rfl) rfl ?_)
    (refine nx (aM (gN rfl) rfl rfl rfl rfl rfl) rfl ?_)
    (refine nx (a_index (j := m) (gN rfl) rfl rfl rfl rfl rfl rfl rfl rfl rfl (hl') rfl (hsc)) rfl ?_)
    (refine nx (a_field_ad (gN rfl) rfl rfl rfl rfl rfl rfl rfl rfl rfl rfl rfl) rfl ?_)
    (refine nx (a_load_ad (gN rfl) rfl rfl rfl rfl rfl rfl rfl rfl rfl) rfl ?_)
    (refine nx (a_build (gN rfl) rfl rfl rfl rfl rfl rfl rfl rfl rfl rfl rfl) rfl ?_)
    (refine nx (a_bslice (gN rfl) rfl rfl rfl rfl rfl rfl rfl rfl rfl rfl rfl rfl rfl) rfl ?_)
    (refine nx (a_len (gN rfl) rfl rfl rfl rfl rfl rfl rfl) rfl ?_)
    (refine nx (aM (gN rfl) rfl rfl rfl rfl rfl) rfl ?_)
    refine ⟨by kernel_rfl, ?_⟩
    show AWp _ _ _ _ _ _ _
    have hws := wy2_size m l
    refine aB (awp_count 2 (fun j => (0, AV.val (yldV l0)) :: (3, .ad (ruC fl fd)) :: (2, .val (.ptr (.lst (c.map Lt.cv)))) :: (9, .val (.lst (L.map CV.i))) :: (10, .val (.i (L.map CV.i).length)) :: (11, .val (.i (k : Int))) :: (39, .val (.lst ((wy2 m l).map Wy.cv))) :: (40, .val (.i 2)) :: (41, .val (.i (j : Int))) :: obE (Ls (J + (((wy2 m l).take j).filter fun w => ld w.a w.b).length))) (wk_sub ⟨rfl, rfl, rfl, rfl, rfl, rfl, rfl, rfl, rfl, rfl, rfl, rfl, trivial⟩) ?_)
    intro j hj
    obtain ⟨J2, hJ2⟩ : ∃ J2, J2 = J + (((wy2 m l).take j).filter fun w => ld w.a w.b).length := ⟨_, rfl⟩
    refine aS (aR ?_)
    (refine nx (a_lss (gN rfl) rfl rfl rfl rfl rfl rfl) rfl ?_)
    show AWp _ _ _ _ _ _ _
    refine aS (aC rfl (fun hlt => ?_) (fun hlt => ?_))
    · have hj2 : j < 2 := by have := of_decide_eq_true hlt; omega
      obtain ⟨x, hx⟩ : ∃ x, (wy2 m l)[j]? = some x := ⟨(wy2 m l)[j]'hj2, List.getElem?_eq_getElem hj2⟩
      have hx' : ((wy2 m l).map Wy.cv)[j]? = some x.cv := by rw [List.getElem?_map, hx]; rfl
      have hcv : x.cv = .row [.i x.n, x.a.cw, x.b.cw] := rfl
      rw [hcv] at hx'
      have hd1 : ∀ w, AFunV Tryz.prog w (.fn fd 0 []) [x.a.cw, x.b.cw] (.val (.b (ld x.a x.b))) := fun w => ⟨fd, 0, [], rfl, by
        have h1 := hd w l hlm
        show AFun _ _ _ ([] ++ ([x.a.cw, x.b.cw] ++ [])) _
        match j, hj2, hx with
        | 0, _, hx => cases hx; exact h1.1
        | 1, _, hx => cases hx; exact h1.2⟩
      have hnx : ((wy2 m l).take (j + 1)).filter (fun w => ld w.a w.b) = ((wy2 m l).take j).filter (fun w => ld w.a w.b) ++ (if ld x.a x.b = true then [x] else []) := by
        rw [List.take_add_one, hx, Option.toList_some, List.filter_append, List.filter_cons, List.filter_nil]
      rw [← hJ2]
      refine aK ?_
      show AWp _ _ _ _ _ _ _
      refine aS (aB (aS (aR ?_)))
      (refine nx (a_index (j := j) (gN rfl) rfl rfl rfl rfl rfl rfl rfl rfl rfl (hx') rfl (hws)) rfl ?_)
      (refine nx (a_load_ad (gN rfl) rfl rfl rfl rfl rfl rfl rfl rfl rfl) rfl ?_)
      (refine nx (a_alloc (gN rfl) rfl rfl rfl rfl rfl rfl rfl rfl rfl rfl) (by kernel_rfl) ?_)
      (refine nx (aSt (gN rfl) rfl rfl rfl rfl rfl rfl rfl rfl rfl rfl) rfl ?_)
      show AWp _ _ _ _ _ _ _
      obtain ⟨b, hb⟩ : ∃ b, b = ld x.a x.b := ⟨_, rfl⟩
      have hd2 := hd1 w
      rw [← hb] at hd2 hnx
      cases b with
      | false =>
        refine aS (aR ?_)
        (refine nx (a_field_ad (gN rfl) rfl rfl rfl rfl rfl rfl rfl rfl rfl rfl rfl) rfl ?_)
        (refine nx (a_load_ad (gN rfl) rfl rfl rfl rfl rfl rfl rfl rfl rfl) rfl ?_)
        (refine nx (aF (gN rfl) rfl rfl rfl rfl rfl rfl rfl rfl rfl) rfl ?_)
        (refine nx (aLb (gN rfl) rfl rfl rfl rfl rfl rfl rfl rfl rfl rfl rfl rfl) rfl ?_)
        (refine nx (aF (gN rfl) rfl rfl rfl rfl rfl rfl rfl rfl rfl) rfl ?_)
        (refine nx (aLb (gN rfl) rfl rfl rfl rfl rfl rfl rfl rfl rfl rfl rfl rfl) rfl ?_)
        (refine nx (a_callv (gN rfl) rfl rfl rfl rfl rfl rfl (hd2)) rfl ?_)
        (refine nx (aM (gN rfl) rfl rfl rfl rfl rfl) rfl ?_)
        (refine ⟨_, _, _, a_off (go_off rfl rfl rfl rfl (by first | rfl | assumption | (simp; done) | (simp [*]; done))) rfl rfl rfl, rfl, ?_⟩)
        (refine ⟨_, _, _, a_off (go_off rfl rfl rfl rfl (by first | rfl | assumption | (simp; done) | (simp [*]; done))) rfl rfl rfl, rfl, ?_⟩)
        (refine ⟨_, _, _, a_off (go_off rfl rfl rfl rfl (by first | rfl | assumption | (simp; done) | (simp [*]; done))) rfl rfl rfl, rfl, ?_⟩)
        (refine ⟨_, _, _, a_off (go_off rfl rfl rfl rfl (by first | rfl | assumption | (simp; done) | (simp [*]; done))) rfl rfl rfl, rfl, ?_⟩)
        (refine ⟨_, _, _, aPf (gN rfl) rfl rfl rfl rfl rfl ?hb rfl, rfl, ?_⟩; case hb => (first | rfl | assumption | (simp; done)))
        show AWp _ _ _ _ _ _ _
        refine aC rfl (fun hc => by cases hc) (fun hc => aK ?_)
        show AWp _ _ _ _ _ _ _
        refine aR ?_
        (refine nx (a_add (gN rfl) rfl rfl rfl rfl rfl rfl (by first | omega | (simp only [List.length_map, List.length_append, List.length_cons, List.length_nil] <;> omega) | (simp <;> omega))) rfl ?_)
        (refine nx (aM (gN rfl) rfl rfl rfl rfl rfl) rfl ?_)
        refine ⟨hj2, ?_⟩
        have e : J + (((wy2 m l).take (j + 1)).filter fun w => ld w.a w.b).length = J2 := by rw [hnx, if_neg (by simp), List.append_nil, hJ2]
        show Wk _ _ _ _ ((0, AV.val (yldV l0)) :: (3, .ad (ruC fl fd)) :: (2, .val (.ptr (.lst (c.map Lt.cv)))) :: (9, .val (.lst (L.map CV.i))) :: (10, .val (.i (L.map CV.i).length)) :: (11, .val (.i (k : Int))) :: (39, .val (.lst ((wy2 m l).map Wy.cv))) :: (40, .val (.i 2)) :: (41, .val (.i ((j + 1 : Nat) : Int))) :: obE (Ls (J + (((wy2 m l).take (j + 1)).filter fun w => ld w.a w.b).length)))
        rw [e]
        exact wk_sub ⟨rfl, rfl, rfl, rfl, rfl, rfl, rfl, rfl, rfl, rfl, rfl, rfl, trivial⟩
      | true =>
        have hY0 := hY J2 x (by rw [hJ2, hJ]; exact wys_at hn (by rw [Int.toNat_natCast]; exact hl) hx hb.symm) 0 (by simp)
        have hY0 : YldC Tryz.prog Wb Ub l0 0 (obE (Ls J2)) (fun _ => [.val (.row [.i x.n, x.a.cw, x.b.cw])]) (obE (Ls (J2 + 1))) := hY0
        refine aS (awp_regionY ?_)
        (refine nxY (AOp.y (a_field_ad (gN rfl) rfl rfl rfl rfl rfl rfl rfl rfl rfl rfl rfl)) rfl ?_)
        (refine nxY (AOp.y (a_load_ad (gN rfl) rfl rfl rfl rfl rfl rfl rfl rfl rfl)) rfl ?_)
        (refine nxY (AOp.y (aF (gN rfl) rfl rfl rfl rfl rfl rfl rfl rfl rfl)) rfl ?_)
        (refine nxY (AOp.y (aLb (gN rfl) rfl rfl rfl rfl rfl rfl rfl rfl rfl rfl rfl rfl)) rfl ?_)
        (refine nxY (AOp.y (aF (gN rfl) rfl rfl rfl rfl rfl rfl rfl rfl rfl)) rfl ?_)
        (refine nxY (AOp.y (aLb (gN rfl) rfl rfl rfl rfl rfl rfl rfl rfl rfl rfl rfl rfl)) rfl ?_)
        (refine nxY (AOp.y (a_callv (gN rfl) rfl rfl rfl rfl rfl rfl (hd2))) rfl ?_)
        (refine nxY (AOp.y (aM (gN rfl) rfl rfl rfl rfl rfl)) rfl ?_)
        (refine nxY (AOp.y (aM (gd_on rfl rfl rfl rfl (by first | rfl | assumption | (simp; done))) rfl rfl rfl rfl rfl)) rfl ?_)
        (refine nxY (AOp.y (aL (gd_on rfl rfl rfl rfl (by first | rfl | assumption | (simp; done))) rfl rfl rfl rfl rfl rfl rfl rfl rfl rfl rfl rfl)) rfl ?_)
        (refine nxY (a_yield (u := .slice none 0 0) 0 (hY0) hon (gd_on rfl rfl rfl rfl (by first | rfl | assumption | (simp; done))) rfl rfl rfl rfl rfl rfl (.inr fun _ _ => rfl) (by repeat (first | exact trivial | refine ⟨rfl, ?_⟩)) (by first | rfl | kernel_rfl) (by first | rfl | kernel_rfl) (by first | rfl | kernel_rfl) (hnb_of (by first | rfl | kernel_rfl)) rfl) rfl ?_)
        (refine nxY (AOp.y (a_not (gd_on rfl rfl rfl rfl (by first | rfl | assumption | (simp; done))) rfl rfl rfl rfl rfl)) rfl ?_)
        (refine ⟨_, _, _, AOp.y (aPt (gN rfl) rfl rfl rfl rfl rfl ?hb rfl), rfl, ?_⟩; case hb => (first | rfl | assumption | (simp; done)))
        show AWp _ _ _ _ _ _ _
        refine aC rfl (fun hc => by cases hc) (fun hc => aK ?_)
        show AWp _ _ _ _ _ _ _
        refine aR ?_
        (refine nx (a_add (gN rfl) rfl rfl rfl rfl rfl rfl (by first | omega | (simp only [List.length_map, List.length_append, List.length_cons, List.length_nil] <;> omega) | (simp <;> omega))) rfl ?_)
        (refine nx (aM (gN rfl) rfl rfl rfl rfl rfl) rfl ?_)
        refine ⟨hj2, ?_⟩
        have e : J + (((wy2 m l).take (j + 1)).filter fun w => ld w.a w.b).length = J2 + 1 := by rw [hnx, if_pos rfl, List.length_append, hJ2]; rfl
        show Wk _ _ _ _ ((0, AV.val (yldV l0)) :: (3, .ad (ruC fl fd)) :: (2, .val (.ptr (.lst (c.map Lt.cv)))) :: (9, .val (.lst (L.map CV.i))) :: (10, .val (.i (L.map CV.i).length)) :: (11, .val (.i (k : Int))) :: (39, .val (.lst ((wy2 m l).map Wy.cv))) :: (40, .val (.i 2)) :: (41, .val (.i ((j + 1 : Nat) : Int))) :: obE (Ls (J + (((wy2 m l).take (j + 1)).filter fun w => ld w.a w.b).length)))
        rw [e]
        exact wk_sub ⟨rfl, rfl, rfl, rfl, rfl, rfl, rfl, rfl, rfl, rfl, rfl, rfl, trivial⟩
    · have hj2 : j = 2 := by
        have : ¬ j < 2 := by have := of_decide_eq_false hlt; omega
        omega
      subst hj2
      rw [← hJ2]
      refine aE ?_
      show AWp _ _ _ _ _ _ _
      refine aR ?_
      (refine nx (a_add (gN rfl) rfl rfl rfl rfl rfl rfl (by first | omega | (simp only [List.length_map, List.length_append, List.length_cons, List.length_nil] <;> omega) | (simp <;> omega))) rfl ?_)
      (refine nx (aM (gN rfl) rfl rfl rfl rfl rfl) rfl ?_)
      refine ⟨hkl, ?_⟩
      have e : (wysL ld c (L.take (k + 1))).length = J2 := by
        rw [hstep, hwN, List.length_append, hJ2, hJ]; rfl
      show Wk _ _ _ _ ((0, AV.val (yldV l0)) :: (2, .val (.ptr (.lst (c.map Lt.cv)))) :: (3, .ad (ruC fl fd)) :: (9, .val (.lst (L.map CV.i))) :: (10, .val (.i (L.map CV.i).length)) :: (11, .val (.i ((k + 1 : Nat) : Int))) :: obE (Ls (wysL ld c (L.take (k + 1))).length))
      rw [e]
      exact wk_sub ⟨rfl, rfl, rfl, rfl, rfl, rfl, rfl, rfl, rfl, trivial⟩
  · have hkl : k = L.length := by
      have : ¬ k < L.length := by simpa using hlt
      omega
    subst hkl
    rw [List.take_length]
    refine aE ?_
    exact ⟨.inl rfl, _, Wk.refl _, rfl, rfl, rfl, rfl, trivial⟩
-- 
theorem suPlaces_abs (W : World) (c : List Lt) (hc : c.length ≤ 1000000) : AFun Tryz.prog W 41 [.lst (c.map Lt.cv)] (.val (.lst ((upL c.length).map CV.i))) := by
  refine afun_of (rs := [.lst ((upL c.length).map CV.i)]) Tryz.func41 Tryz.ntmps41 rfl rfl rfl rfl ?_
  intro w U hW
  refine aS (aR ?_)
  (refine nx (aA (gN rfl) rfl rfl rfl rfl rfl) rfl ?_)
  show AWp _ _ _ _ _ _ _
  refine aS (aR ?_)
  (refine nx (aA (gN rfl) rfl rfl rfl rfl rfl) rfl ?_)
  show AWp _ _ _ _ _ _ _
  refine aS (aS (aR ?_))
  (refine nx (aM (gN rfl) rfl rfl rfl rfl rfl) rfl ?_)
  (refine nx (a_len (gN rfl) rfl rfl rfl rfl rfl rfl rfl) rfl ?_)
  (refine nx (aM (gN rfl) rfl rfl rfl rfl rfl) rfl ?_)
  show AWp _ _ _ _ _ _ _
  refine aB (awp_count c.length (fun k => [(6, AV.val (.i (c.map Lt.cv).length)), (7, .val (.i (k : Int))), (3, .own (.lst ((upL k).map CV.i)) 200013), (200013, .tok 3 1)]) ((wk_nil 3 200013 3 1 rfl rfl rfl rfl rfl rfl rfl).trans (wk_sub ⟨rfl, rfl, rfl, rfl, trivial⟩)) ?_)
  intro k hk
  have hul := upL_len k
  have hlu : ((upL k).map CV.i).length = k := by rw [List.length_map, upL_len]
  have hsi := ints_size (upL k)
  refine aS (aR ?_)
  (refine nx (a_lss (gN rfl) rfl rfl rfl rfl rfl rfl) rfl ?_)
  show AWp _ _ _ _ _ _ _
  refine aS (aC rfl (fun hlt => ?_) (fun hlt => ?_))
  · have hkl : k < c.length := by simpa using hlt
    refine aK ?_
    show AWp _ _ _ _ _ _ _
    refine aS (aB (aS (aR ?_)))
    (refine nx (aM (gN rfl) rfl rfl rfl rfl rfl) rfl ?_)
    (refine nx (aA (gN rfl) rfl rfl rfl rfl rfl) rfl ?_)
    show AWp _ _ _ _ _ _ _
    refine aR ?_
    (refine nx (aM (gN rfl) rfl rfl rfl rfl rfl) rfl ?_)
    (refine nx (aM (gN rfl) rfl rfl rfl rfl rfl) rfl ?_)
    (refine nx (a_bslice (gN rfl) rfl rfl rfl rfl rfl rfl rfl rfl rfl rfl rfl rfl rfl) rfl ?_)
    (refine nx (a_app (gN rfl) rfl rfl rfl rfl rfl rfl rfl rfl rfl rfl rfl rfl rfl rfl rfl (by first | assumption | exact sZ rfl | exact Tm.size_all _ | exact Bd.size_all _ | exact ints_size _ | exact bys_size _ | exact Lt.size_all _) (by first | assumption | exact sZ rfl | exact Tm.size_all _ | exact Bd.size_all _ | exact ints_size _ | exact bys_size _ | exact Lt.size_all _) (by first | omega | (simp only [List.length_map, List.length_append, List.length_cons, List.length_nil] <;> omega) | (simp <;> omega))) rfl ?_)
    (refine nx (aA (gN rfl) rfl rfl rfl rfl rfl) rfl ?_)
    show AWp _ _ _ _ _ _ _
    refine aR ?_
    (refine nx (a_add (gN rfl) rfl rfl rfl rfl rfl rfl (by first | omega | (simp only [List.length_map, List.length_append, List.length_cons, List.length_nil] <;> omega) | (simp <;> omega))) rfl ?_)
    (refine nx (aM (gN rfl) rfl rfl rfl rfl rfl) rfl ?_)
    refine ⟨hkl, ?_⟩
    show Wk _ _ _ _ [(6, AV.val (.i (c.map Lt.cv).length)), (7, .val (.i ((k + 1 : Nat) : Int))), (3, .own (.lst ((upL (k + 1)).map CV.i)) 200013), (200013, .tok 3 1)]
    rw [upL_succ, List.map_append]
    exact (wk_sub (s' := [(6, AV.val (.i (c.map Lt.cv).length)), (7, .val (.i ((k + 1 : Nat) : Int))), (3, .own (.lst ((upL k).map CV.i ++ [CV.i (k : Int)])) 300013), (300013, .tok 3 1)]) ⟨rfl, rfl, rfl, rfl, trivial⟩).trans ((wk_ren 300013 200013 rfl rfl rfl rfl).trans (wk_sub ⟨rfl, rfl, rfl, rfl, trivial⟩))
  · have hkl : k = c.length := by
      have : ¬ k < c.length := by simpa using hlt
      omega
    subst hkl
    refine aE ?_
    show AWp _ _ _ _ _ _ _
    refine aS (aR ?_)
    (refine nx (aM (gN rfl) rfl rfl rfl rfl rfl) rfl ?_)
    (refine nx (aA (gN rfl) rfl rfl rfl rfl rfl) rfl ?_)
    show AWp _ _ _ _ _ _ _
    exact aT (And.intro (.inr rfl) rfl)
structure Mt where
  fr : Wy
  ti : Wy
  pl : List Int
  pt : Tm
noncomputable def Mt.cvH (m : Mt) (v : Value) : CV := .row [m.fr.cv, m.ti.cv, .sc (cutV v m.pl.length), .row [.i m.pt.f, .lst (m.pt.l.map Tm.cv)]]
noncomputable def mtI (f i : Wy) : List Mt := (sy i.a []).map fun q => ⟨f, i, q.1, q.2⟩
noncomputable def mtF (tgt : List Wy) (f : Wy) : List Mt := tgt.flatMap (mtI f)
noncomputable def mtN (neg : Int → Bool) (tgt : List Wy) (f : Wy) : List Mt := if neg f.n = true then [] else mtF tgt f
noncomputable def mtsL (neg : Int → Bool) (src tgt : List Wy) : List Mt := src.flatMap (mtN neg tgt)
theorem flat_take {α β : Type} {g : α → List β} {L : List α} {k : Nat} {x : α} (h : L[k]? = some x) : (L.take (k + 1)).flatMap g = (L.take k).flatMap g ++ g x := by
  rw [List.take_add_one, h, List.flatMap_append]
  simp
theorem flatM_at {α β : Type} {g : α → List β} {L : List α} {k : Nat} {x : α} (h : L[k]? = some x) {i : Nat} {y : β} (hy : (g x)[i]? = some y) : (L.flatMap g)[((L.take k).flatMap g).length + i]? = some y := by
  have h1 : L.flatMap g = (L.take (k + 1)).flatMap g ++ (L.drop (k + 1)).flatMap g := by
    conv => lhs; rw [← List.take_append_drop (k + 1) L]
    rw [List.flatMap_append]
  have hi : i < (g x).length := by
    rcases Nat.lt_or_ge i (g x).length with h2 | h2
    · exact h2
    · rw [List.getElem?_eq_none h2] at hy; cases hy
  rw [h1, flat_take h, List.append_assoc, List.getElem?_append_right (by omega), Nat.add_sub_cancel_left, List.getElem?_append_left hi, hy]
def negAt (c : List Lt) (n : Int) : Bool := match c[n.toNat]? with
  | some l => l.neg
  | none => false
noncomputable abbrev wyZ : CV := .row [.i 0, .row [.i 0, .lst []], .row [.i 0, .lst []]]
noncomputable abbrev mtZ4 : List CV := [wyZ, wyZ, .lst [], .row [.i 0, .lst []]]
-- 
theorem suMeet_abs (W : World) (fl fd : Nat) (c d : List Lt) (L M : List Int) (hlc : ∀ w, AFun Tryz.prog w fl [.lst (c.map Lt.cv)] (.val (.lst (L.map CV.i)))) (hld : ∀ w, AFun Tryz.prog w fl [.lst (d.map Lt.cv)] (.val (.lst (M.map CV.i)))) : AFun Tryz.prog W 64 [ruC fl fd, .lst (c.map Lt.cv), .lst (d.map Lt.cv)] (.val (.fn 90 0 [.ptr (.fn 118 0 [.ptr (.lst (L.map CV.i)), .ptr (.lst (c.map Lt.cv)), .ptr (ruC fl fd)]), .ptr (.lst (c.map Lt.cv)), .ptr (.fn 118 0 [.ptr (.lst (M.map CV.i)), .ptr (.lst (d.map Lt.cv)), .ptr (ruC fl fd)])])) := by
  obtain ⟨S, hS⟩ : ∃ S, S = CV.fn 118 0 [.ptr (.lst (L.map CV.i)), .ptr (.lst (c.map Lt.cv)), .ptr (ruC fl fd)] := ⟨_, rfl⟩
  obtain ⟨T, hT⟩ : ∃ T, T = CV.fn 118 0 [.ptr (.lst (M.map CV.i)), .ptr (.lst (d.map Lt.cv)), .ptr (ruC fl fd)] := ⟨_, rfl⟩
  refine afun_of (rs := [.fn 90 0 [.ptr (.fn 118 0 [.ptr (.lst (L.map CV.i)), .ptr (.lst (c.map Lt.cv)), .ptr (ruC fl fd)]), .ptr (.lst (c.map Lt.cv)), .ptr (.fn 118 0 [.ptr (.lst (M.map CV.i)), .ptr (.lst (d.map Lt.cv)), .ptr (ruC fl fd)])]]) Tryz.func64 Tryz.ntmps64 rfl rfl rfl rfl ?_
  intro w U hW
  have h1 := suWays_abs w fl fd c L hlc
  have h2 := suWays_abs w fl fd d M hld
  refine aS (aR ?_)
  (refine nx (a_box (gN rfl) rfl rfl rfl rfl rfl) rfl ?_)
  (refine nx (a_box (gN rfl) rfl rfl rfl rfl rfl) rfl ?_)
  (refine nx (aA (gN rfl) rfl rfl rfl rfl rfl) rfl ?_)
  show AWp _ _ _ _ _ _ _
  refine aS (aD (by kernel_rfl) (by kernel_rfl) ?_)
  (refine nx (aL (gN rfl) rfl rfl rfl rfl rfl rfl rfl rfl rfl rfl rfl rfl) rfl ?_)
  (refine nx (aL (gN rfl) rfl rfl rfl rfl rfl rfl rfl rfl rfl rfl rfl rfl) rfl ?_)
  (refine nx (a_call (gN rfl) rfl rfl rfl rfl rfl (h1)) rfl ?_)
  (refine nx (aL (gN rfl) rfl rfl rfl rfl rfl rfl rfl rfl rfl rfl rfl rfl) rfl ?_)
  (refine nx (aM (gN rfl) rfl rfl rfl rfl rfl) rfl ?_)
  (refine nx (a_call (gN rfl) rfl rfl rfl rfl rfl (h2)) rfl ?_)
  (refine nx (a_alloc1V (gN rfl) rfl rfl rfl rfl rfl (by first | exact .inl ⟨rfl, rfl⟩ | exact .inr ⟨rfl, rfl⟩)) rfl ?_)
  (refine nx (a_alloc1V (gN rfl) rfl rfl rfl rfl rfl (by first | exact .inl ⟨rfl, rfl⟩ | exact .inr ⟨rfl, rfl⟩)) rfl ?_)
  (refine nx (aSt (gN rfl) rfl rfl rfl rfl rfl rfl rfl rfl rfl rfl) rfl ?_)
  (refine nx (aSt (gN rfl) rfl rfl rfl rfl rfl rfl rfl rfl rfl rfl) rfl ?_)
  refine ⟨by kernel_rfl, ?_⟩
  show AWp _ _ _ _ _ _ _
  refine AWp.wk ((wk_freeze 7 rfl rfl rfl (s' := [(4, AV.bp 4 0 []), (100004, .bx (.lst (c.map Lt.cv))), (8, AV.bp 8 0 []), (100008, .bx (.fn 118 0 [.ptr (.lst (M.map CV.i)), .ptr (.lst (d.map Lt.cv)), .ptr (ruC fl fd)]))]) ⟨rfl, rfl, rfl, rfl, trivial⟩ rfl rfl rfl).trans ((wk_freeze 8 rfl rfl rfl (s' := [(7, AV.val (.ptr (.fn 118 0 [.ptr (.lst (L.map CV.i)), .ptr (.lst (c.map Lt.cv)), .ptr (ruC fl fd)]))), (4, AV.bp 4 0 []), (100004, .bx (.lst (c.map Lt.cv)))]) ⟨rfl, rfl, rfl, trivial⟩ rfl rfl rfl).trans (wk_freeze 4 rfl rfl rfl (s' := [(7, AV.val (.ptr (.fn 118 0 [.ptr (.lst (L.map CV.i)), .ptr (.lst (c.map Lt.cv)), .ptr (ruC fl fd)]))), (8, AV.val (.ptr (.fn 118 0 [.ptr (.lst (M.map CV.i)), .ptr (.lst (d.map Lt.cv)), .ptr (ruC fl fd)])))]) ⟨rfl, rfl, trivial⟩ rfl rfl rfl))) ?_
  refine aS (aR ?_)
  (refine nx (a_mkfunc (gN rfl) rfl rfl rfl rfl rfl rfl) rfl ?_)
  (refine nx (aA (gN rfl) rfl rfl rfl rfl rfl) rfl ?_)
  show AWp _ _ _ _ _ _ _
  exact aT ⟨.inr rfl, rfl⟩
-- 
set_option maxHeartbeats 8000000 in
theorem suMeet_hands (c : List Lt) (gs gt : Nat) (cs ct : List CV) (src tgt : List Wy) (hes : EntF Tryz.prog gs) (het : EntF Tryz.prog gt) (hsrc : ∀ w ∈ src, 0 ≤ w.n ∧ w.n < c.length) (htgt : ∀ w ∈ tgt, w.a.size ≤ 1000000)
    (hs : ∀ Ls : Nat → List (List Lt), HandsY Tryz.prog gs cs [0] (fun _ _ => []) (fun _ x _ => [.val x.cv]) src (fun k => obE (Ls k)))
    (ht : ∀ Ls : Nat → List (List Lt), HandsY Tryz.prog gt ct [0] (fun _ _ => []) (fun _ x _ => [.val x.cv]) tgt (fun k => obE (Ls k)))
    (Ls : Nat → List (List Lt)) : HandsY Tryz.prog 90 [.ptr (.fn gs 0 cs), .ptr (.lst (c.map Lt.cv)), .ptr (.fn gt 0 ct)] [400002, 400003] (fun X x => rowI X x.pl) (fun X x v => [.val (x.cvH v)]) (mtsL (negAt c) src tgt) (fun k => obE (Ls k)) := by
  intro Wb Ub l0 hY
  have hsy : EntF Tryz.prog 119 := ent_of Tryz.func119 rfl rfl
  have hsc := Lt.size_all c
  refine afunYM_of Tryz.func90 Tryz.ntmps90 rfl rfl rfl rfl (by kernel_rfl) (by kernel_rfl) ?_
  intro w U hon hU
  show AWpM _ _ _ _ _ _ ((0, AV.val (yldV l0)) :: (1, .val (.ptr (.fn gs 0 cs))) :: (2, .val (.ptr (.lst (c.map Lt.cv)))) :: (3, .val (.ptr (.fn gt 0 ct))) :: obE (Ls 0))
  refine awpM_pre (aR ?_)
  (refine nx (a_box (gN rfl) rfl rfl rfl rfl rfl) (by kernel_rfl) ?_)
  refine ⟨rfl, ?_⟩
  refine awpM_wk (wk_freeze 4 rfl rfl rfl (s' := (1, AV.val (.ptr (.fn gs 0 cs))) :: (2, .val (.ptr (.lst (c.map Lt.cv)))) :: (3, .val (.ptr (.fn gt 0 ct))) :: obE (Ls 0)) ⟨rfl, rfl, rfl, rfl, rfl, rfl, trivial⟩ rfl rfl (by kernel_rfl)) ?_
  refine awpM_pre (aR ?_)
  (refine nx (a_load_ptr (gN rfl) rfl rfl rfl rfl rfl rfl rfl rfl rfl) rfl ?_)
  refine ⟨rfl, ?_⟩
  refine awpM_block ?_
  refine awpM_wk (wk_sub (s' := (9, AV.val (.fn gs 0 cs)) :: (2, .val (.ptr (.lst (c.map Lt.cv)))) :: (3, .val (.ptr (.fn gt 0 ct))) :: (4, .val (.ptr (yldV l0))) :: obE (Ls 0)) ⟨rfl, rfl, rfl, rfl, rfl, rfl, rfl, trivial⟩) ?_
  refine awpM_mono (awpM_rangeY (ps := [10]) (fun k => obE (Ls (mtsL (negAt c) (src.take k) tgt).length)) [(2, .val (.ptr (.lst (c.map Lt.cv)))), (3, .val (.ptr (.fn gt 0 ct))), (4, .val (.ptr (yldV l0)))] (fun _ _ => []) rfl hes (hs fun k => Ls (mtsL (negAt c) (src.take k) tgt).length) rfl (fun _ _ _ => rfl) ⟨rfl, rfl, rfl, trivial⟩ rfl ⟨.inl ⟨_, rfl⟩, .inl ⟨_, rfl⟩, .inl ⟨_, rfl⟩, trivial⟩ ⟨rfl, rfl, rfl, trivial⟩ ⟨by kernel_rfl, by kernel_rfl, fun k => rfl, rfl, rfl, rfl⟩ (fun k X hX x => rfl) (fun X hX => .inl fun _ => rfl) (by kernel_rfl) ?_) ?_
  · intro k f hf X hX v w U hU hon1
    obtain ⟨n, hn⟩ : ∃ n : Nat, f.n = (n : Int) := ⟨f.n.toNat, by have := (hsrc f (List.mem_of_getElem? hf)).1; omega⟩
    have hnc : n < c.length := by have := (hsrc f (List.mem_of_getElem? hf)).2; omega
    obtain ⟨l, hl⟩ : ∃ l, c[n]? = some l := ⟨c[n], List.getElem?_eq_getElem hnc⟩
    have hl' := Lt.map_at hl
    have hng : negAt c f.n = l.neg := by unfold negAt; rw [hn, Int.toNat_natCast, hl]
    have hcvf : f.cv = .row [.i n, f.a.cw, f.b.cw] := by unfold Wy.cv; rw [hn]
    obtain ⟨o1, ho1⟩ : ∃ o1, o1 = (mtsL (negAt c) (src.take k) tgt).length := ⟨_, rfl⟩
    have hstep : (mtsL (negAt c) (src.take (k + 1)) tgt).length = o1 + (mtN (negAt c) tgt f).length := by
      unfold mtsL at ho1 ⊢
      rw [flat_take hf, List.length_append, ho1]
    have hat1 : ∀ i y, (mtN (negAt c) tgt f)[i]? = some y → (mtsL (negAt c) src tgt)[o1 + i]? = some y := fun i y hy => by rw [ho1]; exact flatM_at hf hy
    show AWp _ _ _ _ _ _ ((10, AV.val f.cv) :: (2, .val (.ptr (.lst (c.map Lt.cv)))) :: (3, .val (.ptr (.fn gt 0 ct))) :: (4, .val (.ptr (yldV l0))) :: obE (Ls (mtsL (negAt c) (src.take k) tgt).length))
    rw [← ho1, hstep, hcvf]
    refine aR ?_
    (refine nx (a_alloc (gN rfl) rfl rfl rfl rfl rfl rfl rfl rfl rfl rfl) (by kernel_rfl) ?_)
    (refine nx (aSt (gN rfl) rfl rfl rfl rfl rfl rfl rfl rfl rfl rfl) rfl ?_)
    refine ⟨rfl, fun w1 hon2 => ?_⟩
    obtain ⟨b, hb⟩ : ∃ b, b = l.neg := ⟨_, rfl⟩
    have hl2 : (c.map Lt.cv)[n]? = some (.row [.b b, l.a.cw, l.b.cw]) := by rw [hl', hb]
    rw [← hb] at hng
    cases b with
    | true =>
      have e : mtN (negAt c) tgt f = [] := by unfold mtN; rw [if_pos hng]
      rw [e]
      refine awpN_of (aB (aS (aS (aR ?_))))
      (refine nx (a_load_ptr (gN rfl) rfl rfl rfl rfl rfl rfl rfl rfl rfl) rfl ?_)
      (refine nx (aF (gN rfl) rfl rfl rfl rfl rfl rfl rfl rfl rfl) rfl ?_)
      (refine nx (aLb (gN rfl) rfl rfl rfl rfl rfl rfl rfl rfl rfl rfl rfl rfl) rfl ?_)
      (refine nx (a_index (j := n) (gN rfl) rfl rfl rfl rfl rfl rfl rfl rfl rfl (hl2) rfl (hsc)) rfl ?_)
      (refine nx (a_field_ad (gN rfl) rfl rfl rfl rfl rfl rfl rfl rfl rfl rfl rfl) rfl ?_)
      (refine nx (a_load_ad (gN rfl) rfl rfl rfl rfl rfl rfl rfl rfl rfl) rfl ?_)
      show AWp _ _ _ _ _ _ _
      refine aC rfl (fun _ => ?_) (fun h => by cases h)
      refine aE ?_
      exact ⟨rfl, wk_sub ⟨rfl, rfl, rfl, trivial⟩⟩
    | false =>
      have e : mtN (negAt c) tgt f = mtF tgt f := by unfold mtN; rw [if_neg (by rw [hng]; simp)]
      rw [e] at hat1 ⊢
      refine awpN_block (awpN_pre (aS (aR ?_)))
      (refine nx (a_load_ptr (gN rfl) rfl rfl rfl rfl rfl rfl rfl rfl rfl) rfl ?_)
      (refine nx (aF (gN rfl) rfl rfl rfl rfl rfl rfl rfl rfl rfl) rfl ?_)
      (refine nx (aLb (gN rfl) rfl rfl rfl rfl rfl rfl rfl rfl rfl rfl rfl rfl) rfl ?_)
      (refine nx (a_index (j := n) (gN rfl) rfl rfl rfl rfl rfl rfl rfl rfl rfl (hl2) rfl (hsc)) rfl ?_)
      (refine nx (a_field_ad (gN rfl) rfl rfl rfl rfl rfl rfl rfl rfl rfl rfl rfl) rfl ?_)
      (refine nx (a_load_ad (gN rfl) rfl rfl rfl rfl rfl rfl rfl rfl rfl) rfl ?_)
      show AWp _ _ _ _ _ _ _
      refine aC rfl (fun h => by cases h) (fun _ => aK ?_)
      refine ⟨rfl, ?_⟩
      refine awpN_wk (wk_freeze 5 rfl rfl rfl (s' := (3, AV.val (.ptr (.fn gt 0 ct))) :: (4, .val (.ptr (yldV l0))) :: obE (Ls o1)) ⟨rfl, rfl, rfl, rfl, rfl, trivial⟩ rfl rfl (by kernel_rfl)) ?_
      refine awpN_pre (aR ?_)
      (refine nx (a_load_ptr (gN rfl) rfl rfl rfl rfl rfl rfl rfl rfl rfl) rfl ?_)
      refine ⟨rfl, ?_⟩
      refine awpN_block ?_
      refine awpN_wk (wk_sub (s' := (17, AV.val (.fn gt 0 ct)) :: (4, .val (.ptr (yldV l0))) :: (5, .val (.ptr (.row [.i n, f.a.cw, f.b.cw]))) :: obE (Ls o1)) ⟨rfl, rfl, rfl, rfl, rfl, rfl, trivial⟩) ?_
      refine awpN_mono (awpN_rangeY (ps := [18]) (fun j => obE (Ls (o1 + ((tgt.take j).flatMap (mtI f)).length))) [(4, .val (.ptr (yldV l0))), (5, .val (.ptr (.row [.i n, f.a.cw, f.b.cw])))] (fun _ _ => []) rfl het (ht fun j => Ls (o1 + ((tgt.take j).flatMap (mtI f)).length)) rfl (fun _ _ _ => rfl) ⟨rfl, rfl, trivial⟩ rfl ⟨.inl ⟨_, rfl⟩, .inl ⟨_, rfl⟩, trivial⟩ ⟨rfl, rfl, rfl, trivial⟩ ⟨by kernel_rfl, by kernel_rfl, fun k => rfl, rfl, rfl, rfl⟩ (fun k X hX x => rfl) (fun X hX => .inl fun _ => rfl) (by kernel_rfl) ?_) ?_
      · intro j i hi X hX v w U hU hon3
        have his := htgt i (List.mem_of_getElem? hi)
        obtain ⟨o2, ho2⟩ : ∃ o2, o2 = o1 + ((tgt.take j).flatMap (mtI f)).length := ⟨_, rfl⟩
        have hstep2 : o1 + ((tgt.take (j + 1)).flatMap (mtI f)).length = o2 + (sy i.a []).length := by
          rw [flat_take hi, List.length_append, ho2]
          unfold mtI
          rw [List.length_map]; omega
        have hat2 : ∀ q y, (sy i.a [])[q]? = some y → (mtsL (negAt c) src tgt)[o2 + q]? = some ⟨f, i, y.1, y.2⟩ := fun q y hy => by
          have := hat1 (((tgt.take j).flatMap (mtI f)).length + q) ⟨f, i, y.1, y.2⟩ (flatM_at hi (by unfold mtI; rw [List.getElem?_map, hy]; rfl))
          rw [ho2, Nat.add_assoc]
          exact this
        show AWp _ _ _ _ _ _ ((18, AV.val (.row [.i i.n, i.a.cw, i.b.cw])) :: (4, .val (.ptr (yldV l0))) :: (5, .val (.ptr (.row [.i n, f.a.cw, f.b.cw]))) :: obE (Ls (o1 + ((tgt.take j).flatMap (mtI f)).length)))
        rw [← ho2, hstep2]
        refine aR ?_
        (refine nx (a_alloc (gN rfl) rfl rfl rfl rfl rfl rfl rfl rfl rfl rfl) (by kernel_rfl) ?_)
        (refine nx (aSt (gN rfl) rfl rfl rfl rfl rfl rfl rfl rfl rfl rfl) rfl ?_)
        refine ⟨rfl, fun w2 hon4 => ?_⟩
        refine awpN_block (awpN_pre (aR ?_))
        (refine nx (aF (gN rfl) rfl rfl rfl rfl rfl rfl rfl rfl rfl) rfl ?_)
        (refine nx (aLb (gN rfl) rfl rfl rfl rfl rfl rfl rfl rfl rfl rfl rfl rfl) rfl ?_)
        (refine nx (a_call (gN rfl) rfl rfl rfl rfl rfl (suSymbols_abs w2 i.a)) rfl ?_)
        refine ⟨rfl, ?_⟩
        refine awpN_wk (wk_freeze 6 rfl rfl rfl (s' := (21, AV.val (.fn 119 0 [.ptr i.a.cw])) :: (4, .val (.ptr (yldV l0))) :: (5, .val (.ptr (.row [.i n, f.a.cw, f.b.cw]))) :: obE (Ls o2)) ⟨rfl, rfl, rfl, rfl, rfl, rfl, trivial⟩ rfl rfl (by kernel_rfl)) ?_
        refine awpN_block ?_
        refine awpN_mono (awpN_rangeY (ps := [22, 23]) (fun q => obE (Ls (o2 + q))) [(4, .val (.ptr (yldV l0))), (5, .val (.ptr (.row [.i n, f.a.cw, f.b.cw]))), (6, .val (.ptr (.row [.i i.n, i.a.cw, i.b.cw])))] (fun X v => [(11, .hdl v X)]) rfl hsy (suSym_hands i.a his fun q => Ls (o2 + q)) rfl (fun _ _ _ => rfl) ⟨rfl, rfl, rfl, trivial⟩ rfl ⟨.inl ⟨_, rfl⟩, .inl ⟨_, rfl⟩, .inl ⟨_, rfl⟩, trivial⟩ ⟨rfl, rfl, rfl, trivial⟩ ⟨by kernel_rfl, by kernel_rfl, fun k => rfl, rfl, rfl, rfl⟩ (fun k X hX x => by
            simp only [List.mem_cons, List.not_mem_nil, or_false] at hX
            rcases hX with rfl | rfl <;> rfl) (fun X hX => .inr ⟨11, fun _ => rfl, by decide, by decide, by
            simp only [List.mem_cons, List.not_mem_nil, or_false] at hX
            unfold RN; omega⟩) (by kernel_rfl) ?_) ?_
        · intro q y hy X hX v w U hU hon5
          have hY0 : YldC Tryz.prog Wb Ub l0 X (obE (Ls (o2 + q)) ++ rowI X y.1) (fun v => [.val (.row [.row [.i (n : Int), f.a.cw, f.b.cw], .row [.i i.n, i.a.cw, i.b.cw], .sc (cutV v y.1.length), y.2.cw])]) (obE (Ls (o2 + q + 1)) ++ rowI X y.1) := by
            rw [← hn]
            exact hY (o2 + q) ⟨f, i, y.1, y.2⟩ (hat2 q y hy) X hX
          simp only [List.mem_cons, List.not_mem_nil, or_false] at hX
          rcases hX with rfl | rfl
          · refine aS (aR ?_)
            (refine nx (aA (gN rfl) rfl rfl rfl rfl rfl) rfl ?_)
            show AWp _ _ _ _ _ _ _
            refine aR ?_
            (refine nx (a_alloc (gN rfl) rfl rfl rfl rfl rfl rfl rfl rfl rfl rfl) (by kernel_rfl) ?_)
            (refine nx (aSt (gN rfl) rfl rfl rfl rfl rfl rfl rfl rfl rfl rfl) rfl ?_)
            refine ⟨rfl, fun w3 hon6 => awpN_of ?_⟩
            have hon := (hon.trans hon2).trans (hon4.trans hon6)
            refine AWp.wk ((wk_sub (s' := (7, AV.sl 400002 0 y.1.length 1) :: (11, .hdl v 400002) :: (8, .bp 8 0 []) :: (100008, .bx y.2.cw) :: (4, .val (.ptr (yldV l0))) :: (5, .val (.ptr (.row [.i n, f.a.cw, f.b.cw]))) :: (6, .val (.ptr (.row [.i i.n, i.a.cw, i.b.cw]))) :: obX (Ls (o2 + q)) 400002 y.1) ⟨rfl, rfl, rfl, rfl, rfl, rfl, rfl, rfl, rfl, rfl, rfl, trivial⟩).trans (wk_slsc 7 400002 11 rfl rfl rfl)) ?_
            refine aB (aS (awp_regionY ?_))
            (refine nxY (AOp.y (a_load_ptr (gN rfl) rfl rfl rfl rfl rfl rfl rfl rfl rfl)) rfl ?_)
            (refine nxY (AOp.y (a_load_ptr (gN rfl) rfl rfl rfl rfl rfl rfl rfl rfl rfl)) rfl ?_)
            (refine nxY (AOp.y (a_load_ptr (gN rfl) rfl rfl rfl rfl rfl rfl rfl rfl rfl)) rfl ?_)
            (refine nxY (AOp.y (aM (gN rfl) rfl rfl rfl rfl rfl)) rfl ?_)
            (refine nxY (AOp.y (aL (gN rfl) rfl rfl rfl rfl rfl rfl rfl rfl rfl rfl rfl rfl)) rfl ?_)
            (refine nxY (AOp.y (a_buildT mtZ4 (gN rfl) rfl rfl rfl rfl rfl rfl rfl rfl rfl rfl rfl)) rfl ?_)
            (refine nxY (a_yield 11 (hY0) hon (gN rfl) rfl rfl rfl rfl rfl rfl (.inl ⟨rfl, rfl⟩) (by repeat (first | exact trivial | refine ⟨rfl, ?_⟩)) (by first | rfl | kernel_rfl) (by first | rfl | kernel_rfl) (by first | rfl | kernel_rfl) (hnb_of (by first | rfl | kernel_rfl)) rfl) rfl ?_)
            (refine nxY (AOp.y (a_not (gN rfl) rfl rfl rfl rfl rfl)) rfl ?_)
            show AWp _ _ _ _ _ _ _
            refine aC rfl (fun hc => by cases hc) (fun hc => aK ?_)
            exact ⟨rfl, wk_sub ⟨rfl, rfl, rfl, rfl, trivial⟩⟩
          · refine aS (aR ?_)
            (refine nx (aA (gN rfl) rfl rfl rfl rfl rfl) rfl ?_)
            show AWp _ _ _ _ _ _ _
            refine aR ?_
            (refine nx (a_alloc (gN rfl) rfl rfl rfl rfl rfl rfl rfl rfl rfl rfl) (by kernel_rfl) ?_)
            (refine nx (aSt (gN rfl) rfl rfl rfl rfl rfl rfl rfl rfl rfl rfl) rfl ?_)
            refine ⟨rfl, fun w3 hon6 => awpN_of ?_⟩
            have hon := (hon.trans hon2).trans (hon4.trans hon6)
            refine AWp.wk ((wk_sub (s' := (7, AV.sl 400003 0 y.1.length 1) :: (11, .hdl v 400003) :: (8, .bp 8 0 []) :: (100008, .bx y.2.cw) :: (4, .val (.ptr (yldV l0))) :: (5, .val (.ptr (.row [.i n, f.a.cw, f.b.cw]))) :: (6, .val (.ptr (.row [.i i.n, i.a.cw, i.b.cw]))) :: obX (Ls (o2 + q)) 400003 y.1) ⟨rfl, rfl, rfl, rfl, rfl, rfl, rfl, rfl, rfl, rfl, rfl, trivial⟩).trans (wk_slsc 7 400003 11 rfl rfl rfl)) ?_
            refine aB (aS (awp_regionY ?_))
            (refine nxY (AOp.y (a_load_ptr (gN rfl) rfl rfl rfl rfl rfl rfl rfl rfl rfl)) rfl ?_)
            (refine nxY (AOp.y (a_load_ptr (gN rfl) rfl rfl rfl rfl rfl rfl rfl rfl rfl)) rfl ?_)
            (refine nxY (AOp.y (a_load_ptr (gN rfl) rfl rfl rfl rfl rfl rfl rfl rfl rfl)) rfl ?_)
            (refine nxY (AOp.y (aM (gN rfl) rfl rfl rfl rfl rfl)) rfl ?_)
            (refine nxY (AOp.y (aL (gN rfl) rfl rfl rfl rfl rfl rfl rfl rfl rfl rfl rfl rfl)) rfl ?_)
            (refine nxY (AOp.y (a_buildT mtZ4 (gN rfl) rfl rfl rfl rfl rfl rfl rfl rfl rfl rfl rfl)) rfl ?_)
            (refine nxY (a_yield 11 (hY0) hon (gN rfl) rfl rfl rfl rfl rfl rfl (.inl ⟨rfl, rfl⟩) (by repeat (first | exact trivial | refine ⟨rfl, ?_⟩)) (by first | rfl | kernel_rfl) (by first | rfl | kernel_rfl) (by first | rfl | kernel_rfl) (hnb_of (by first | rfl | kernel_rfl)) rfl) rfl ?_)
            (refine nxY (AOp.y (a_not (gN rfl) rfl rfl rfl rfl rfl)) rfl ?_)
            show AWp _ _ _ _ _ _ _
            refine aC rfl (fun hc => by cases hc) (fun hc => aK ?_)
            exact ⟨rfl, wk_sub ⟨rfl, rfl, rfl, rfl, trivial⟩⟩
        · rintro e s' ⟨rfl, m, rfl⟩
          refine ⟨rfl, rfl, rfl, ?_⟩
          exact wk_sub ⟨rfl, rfl, rfl, trivial⟩
      · rintro e s' ⟨rfl, m, rfl⟩
        refine ⟨rfl, rfl, rfl, ?_⟩
        rw [List.take_length]
        exact wk_sub ⟨rfl, rfl, rfl, trivial⟩
  · rintro e s' g ⟨rfl, rfl⟩
    refine ⟨rfl, .inl rfl, obE (Ls (mtsL (negAt c) src tgt).length), ?_, rfl, ⟨rfl, rfl, rfl, trivial⟩, rfl⟩
    rw [List.take_length]
    exact wk_sub ⟨rfl, rfl, rfl, rfl, trivial⟩
-- 
set_option maxHeartbeats 2000000 in
theorem put400002_abs (F : List Int) (u : Tm) (hu : u.rng) (hus : u.size ≤ 90000000000) : ∀ (p : List Int) (lo : Nat) (t : Tm), F.drop lo = p → lo + p.length = F.length → F.length ≤ 1000000 → t.rng → t.size ≤ 100000 → AFunO Tryz.prog 94 [(400002, AV.mrow 3 1 (F.map CV.i))] [.val t.cw, .sl 400002 lo p.length 1, .val u.cw] (.tup [((putP u p t).getD ⟨0, []⟩).cw, .b (putP u p t).isSome]) [(400002, AV.mrow 3 1 (F.map CV.i))] := by
  intro p
  induction p with
  | nil =>
    intro lo t hF hFl _ _ _
    refine afunO_of Tryz.func94 Tryz.ntmps94 rfl rfl rfl rfl rfl rfl ?_
    intro w U hU
    refine aS (aR ?_)
    (refine nx (a_box (gN rfl) rfl rfl rfl rfl rfl) rfl ?_)
    (refine nx (a_box (gN rfl) rfl rfl rfl rfl rfl) rfl ?_)
    (refine nx (a_alloc (gN rfl) rfl rfl rfl rfl rfl rfl rfl rfl rfl rfl) rfl ?_)
    (refine nx (aA (gN rfl) rfl rfl rfl rfl rfl) rfl ?_)
    show AWp _ _ _ _ _ _ _
    refine aS (aS (aR ?_))
    (refine nx (aM (gN rfl) rfl rfl rfl rfl rfl) rfl ?_)
    (refine nx (a_lenM (gN rfl) rfl rfl rfl rfl rfl rfl rfl) rfl ?_)
    (refine nx (a_eql (gN rfl) rfl rfl rfl rfl rfl rfl) rfl ?_)
    show AWp _ _ _ _ _ _ _
    refine aC rfl (fun hc => ?_) (fun hc => by cases hc)
    refine aS (aR ?_)
    (refine nx (aL (gN rfl) rfl rfl rfl rfl rfl rfl rfl rfl rfl rfl rfl rfl) rfl ?_)
    (refine nx (a_call (gN rfl) rfl rfl rfl rfl rfl (clone_abs w hu hus)) rfl ?_)
    (refine nx (aSt (gN rfl) rfl rfl rfl rfl rfl rfl rfl rfl rfl rfl) rfl ?_)
    (refine nx (aA (gN rfl) rfl rfl rfl rfl rfl) rfl ?_)
    show AWp _ _ _ _ _ _ _
    exact aT ⟨.inr rfl, _, Wk.refl _, rfl, rfl, trivial⟩
  | cons n p ih =>
    intro lo t hF hFl hp hr hts
    rw [List.length_cons] at hFl
    have hx0 : (F.map CV.i)[lo]? = some (.i n) := by
      rw [List.getElem?_map]
      have : F[lo]? = (F.drop lo)[0]? := by rw [List.getElem?_drop, Nat.add_zero]
      rw [this, hF]; rfl
    have hFm : (F.map CV.i).length = F.length := List.length_map ..
    have hF1 : F.drop (lo + 1) = p := by rw [show lo + 1 = 1 + lo by omega, Nat.add_comm, ← List.drop_drop, hF]; rfl
    have hsp := ints_size (n :: p)
    refine afunO_of Tryz.func94 Tryz.ntmps94 rfl rfl rfl rfl rfl rfl ?_
    intro w U hU
    refine aS (aR ?_)
    (refine nx (a_box (gN rfl) rfl rfl rfl rfl rfl) rfl ?_)
    (refine nx (a_box (gN rfl) rfl rfl rfl rfl rfl) rfl ?_)
    (refine nx (a_alloc (gN rfl) rfl rfl rfl rfl rfl rfl rfl rfl rfl rfl) rfl ?_)
    (refine nx (aA (gN rfl) rfl rfl rfl rfl rfl) rfl ?_)
    show AWp _ _ _ _ _ _ _
    refine aS (aS (aR ?_))
    (refine nx (aM (gN rfl) rfl rfl rfl rfl rfl) rfl ?_)
    (refine nx (a_lenM (gN rfl) rfl rfl rfl rfl rfl rfl rfl) rfl ?_)
    (refine nx (a_eql (gN rfl) rfl rfl rfl rfl rfl rfl) rfl ?_)
    show AWp _ _ _ _ _ _ _
    refine aC rfl (fun hc => ?_) (fun hc => aK ?_)
    · simp at hc
      omega
    clear hc
    show AWp _ _ _ _ _ _ _
    refine aS (aR ?_)
    (refine nx (aM (gN rfl) rfl rfl rfl rfl rfl) rfl ?_)
    (refine nx (aIm (k := lo) (gN rfl) rfl rfl rfl rfl rfl rfl rfl rfl rfl (by first | rfl | omega | (simp only [List.length_set, List.length_map, List.length_append, List.length_cons, List.length_nil] <;> omega) | (simp <;> omega))) rfl ?_)
    (refine nx (a_loadM (gN rfl) rfl rfl rfl rfl rfl rfl rfl rfl (hx0) rfl (by first | rfl | omega | (simp only [List.length_set, List.length_map, List.length_append, List.length_cons, List.length_nil] <;> omega) | (simp <;> omega)) rfl rfl) rfl ?_)
    (refine nx (aA (gN rfl) rfl rfl rfl rfl rfl) rfl ?_)
    show AWp _ _ _ _ _ _ _
    refine aS (aS (aR ?_))
    (refine nx (aL (gN rfl) rfl rfl rfl rfl rfl rfl rfl rfl rfl rfl rfl rfl) rfl ?_)
    (refine nx (aM (gN rfl) rfl rfl rfl rfl rfl) rfl ?_)
    (refine nx (a_call (gN rfl) rfl rfl rfl rfl rfl (hasPart_abs w t n)) rfl ?_)
    (refine nx (a_not (gN rfl) rfl rfl rfl rfl rfl) rfl ?_)
    show AWp _ _ _ _ _ _ _
    refine aC rfl (fun hc => ?_) (fun hc => aK ?_)
    · have hno : t.pa n = none := by simpa using hc
      have e : putP u (n :: p) t = none := by rw [putP, hno]; rfl
      rw [e]
      refine aS (aR ?_)
      (refine nx (a_build (gN rfl) rfl rfl rfl rfl rfl rfl rfl rfl rfl rfl rfl) rfl ?_)
      (refine nx (aSt (gN rfl) rfl rfl rfl rfl rfl rfl rfl rfl rfl rfl) rfl ?_)
      (refine nx (aA (gN rfl) rfl rfl rfl rfl rfl) rfl ?_)
      show AWp _ _ _ _ _ _ _
      exact aT ⟨.inr rfl, _, Wk.refl _, rfl, rfl, trivial⟩
    obtain ⟨s, hs⟩ : ∃ s, t.pa n = some s := Option.isSome_iff_exists.1 (by simpa using hc)
    clear hc
    have hn0 : 0 ≤ n := by
      unfold Tm.pa at hs
      split at hs
      · assumption
      · cases hs
    have hsym := pa_sym hs
    have hl : t.l[n.toNat]? = some s := by
      have hs := hs
      unfold Tm.pa at hs
      rw [if_pos hn0, Tm.ps_of_sym (by omega)] at hs
      exact hs
    have hl' := Tm.map_at hl
    have hsz := Tm.size_all t.l
    obtain ⟨m, hm⟩ : ∃ m : Nat, n = m := ⟨n.toNat, by omega⟩
    subst hm
    rw [Int.toNat_natCast] at hl hl'
    have hml : m < t.l.length := by
      rcases Nat.lt_or_ge m t.l.length with h | h
      · exact h
      · rw [List.getElem?_eq_none h] at hl; cases hl
    have hml' : m < (t.l.map Tm.cv).length := by rw [List.length_map]; exact hml
    have hrs := ((Tm.rng_iff _).1 hr).2
    have hparts : ∀ x ∈ t.l, x.rng ∧ x.size ≤ 100000 := fun x hx => ⟨hrs x hx, by
      have h1 := Tm.size_eq t
      rw [Tm.ps_of_sym (by omega)] at h1
      have := flatMap_len_mem Tm.flat hx
      have h2 : x.size = x.flat.length := rfl
      omega⟩
    have hlen : t.l.length ≤ 100000 := by
      have h1 := Tm.size_eq t
      rw [Tm.ps_of_sym (by omega)] at h1
      have : ∀ l : List Tm, l.length ≤ (l.flatMap Tm.flat).length := by
        intro l
        induction l with
        | nil => exact Nat.le_refl _
        | cons x l ih =>
          rw [List.flatMap_cons, List.length_append, List.length_cons]
          have : 0 < x.flat.length := by rw [Tm.flat_eq]; simp
          omega
      have := this t.l
      omega
    have hsb := hparts s (List.mem_of_getElem? hl)
    have h1l : 1 ≤ (List.map CV.i ((m : Int) :: p)).length := by simp
    show AWp _ _ _ _ _ _ _
    have hP := ih (lo + 1) s hF1 (by omega) hp hsb.1 hsb.2
    refine aS (aD (by kernel_rfl) (by kernel_rfl) ?_)
    (refine nx (aF (gN rfl) rfl rfl rfl rfl rfl rfl rfl rfl rfl) rfl ?_)
    (refine nx (aLb (gN rfl) rfl rfl rfl rfl rfl rfl rfl rfl rfl rfl rfl rfl) rfl ?_)
    (refine nx (aM (gN rfl) rfl rfl rfl rfl rfl) rfl ?_)
    (refine nx (a_index (gN rfl) rfl rfl rfl rfl rfl rfl rfl rfl rfl (by assumption) rfl (by first | assumption | exact sZ rfl | exact Tm.size_all _ | exact Bd.size_all _ | exact ints_size _ | exact bys_size _ | exact Lt.size_all _)) rfl ?_)
    (refine nx (a_load_ad (gN rfl) rfl rfl rfl rfl rfl rfl rfl rfl rfl) rfl ?_)
    (refine nx (aM (gN rfl) rfl rfl rfl rfl rfl) rfl ?_)
    (refine nx (a_fromM (j := 1) (gN rfl) rfl rfl rfl rfl rfl rfl rfl rfl (by first | rfl | omega | (simp only [List.length_set, List.length_map, List.length_append, List.length_cons, List.length_nil] <;> omega) | (simp <;> omega)) (by first | rfl | omega | (simp only [List.length_set, List.length_map, List.length_append, List.length_cons, List.length_nil] <;> omega) | (simp <;> omega))) rfl ?_)
    (refine nx (aL (gN rfl) rfl rfl rfl rfl rfl rfl rfl rfl rfl rfl rfl rfl) rfl ?_)
    (refine nx (a_callO (gN rfl) rfl rfl rfl rfl rfl (hP) (by repeat (first | exact trivial | refine ⟨rfl, ?_⟩)) (by first | rfl | kernel_rfl) (by first | rfl | kernel_rfl) (by first | rfl | kernel_rfl) (by first | rfl | kernel_rfl) (hnb_of (by first | rfl | kernel_rfl))) rfl ?_)
    (refine nx (aM (gN rfl) rfl rfl rfl rfl rfl) rfl ?_)
    (refine nx (aX (gN rfl) rfl rfl rfl rfl rfl rfl) rfl ?_)
    (refine nx (aX (gN rfl) rfl rfl rfl rfl rfl rfl) rfl ?_)
    (refine nx (a_alloc (gN rfl) rfl rfl rfl rfl rfl rfl rfl rfl rfl rfl) rfl ?_)
    (refine nx (aSt (gN rfl) rfl rfl rfl rfl rfl rfl rfl rfl rfl rfl) rfl ?_)
    (refine nx (aA (gN rfl) rfl rfl rfl rfl rfl) rfl ?_)
    refine ⟨by kernel_rfl, ?_⟩
    show AWp _ _ _ _ _ _ _
    refine aS (aS (aR ?_))
    (refine nx (aM (gN rfl) rfl rfl rfl rfl rfl) rfl ?_)
    (refine nx (a_not (gN rfl) rfl rfl rfl rfl rfl) rfl ?_)
    show AWp _ _ _ _ _ _ _
    refine aC rfl (fun hc => ?_) (fun hc => aK ?_)
    · have hno : putP u p s = none := by simpa using hc
      have e : putP u ((m : Int) :: p) t = none := by rw [putP, hs, Option.bind_some, hno]; rfl
      rw [e]
      refine aS (aR ?_)
      (refine nx (a_build (gN rfl) rfl rfl rfl rfl rfl rfl rfl rfl rfl rfl rfl) rfl ?_)
      (refine nx (aSt (gN rfl) rfl rfl rfl rfl rfl rfl rfl rfl rfl rfl) rfl ?_)
      (refine nx (aA (gN rfl) rfl rfl rfl rfl rfl) rfl ?_)
      show AWp _ _ _ _ _ _ _
      exact aT ⟨.inr rfl, _, Wk.refl _, rfl, rfl, trivial⟩
    obtain ⟨v, hv⟩ : ∃ v, putP u p s = some v := Option.isSome_iff_exists.1 (by simpa using hc)
    clear hc
    have e : putP u ((m : Int) :: p) t = some ⟨t.f, (t.l.take m).map Tm.strip ++ v :: (t.l.drop (m + 1)).map Tm.strip⟩ := by rw [putP, hs, Option.bind_some, hv]; rfl
    rw [e, hv]
    have c1 := cloneAll_abs w (t.l.take m) (by rw [List.length_take]; omega) (fun x hx => ⟨(hparts x (List.mem_of_mem_take hx)).1, by have := (hparts x (List.mem_of_mem_take hx)).2; omega⟩)
    have c2 := cloneAll_abs w (t.l.drop (m + 1)) (by rw [List.length_drop]; omega) (fun x hx => ⟨(hparts x (List.mem_of_mem_drop hx)).1, by have := (hparts x (List.mem_of_mem_drop hx)).2; omega⟩)
    rw [show (t.l.take m).map Tm.cv = (t.l.map Tm.cv).take m from List.map_take] at c1
    rw [show (t.l.drop (m + 1)).map Tm.cv = (t.l.map Tm.cv).drop (m + 1) from List.map_drop] at c2
    obtain ⟨A, hA⟩ : ∃ A, A = (t.l.take m).map Tm.strip := ⟨_, rfl⟩
    obtain ⟨B, hB⟩ : ∃ B, B = (t.l.drop (m + 1)).map Tm.strip := ⟨_, rfl⟩
    have hAl : A.length ≤ 100000 := by rw [hA, List.length_map, List.length_take]; omega
    have hBl : B.length ≤ 100000 := by rw [hB, List.length_map, List.length_drop]; omega
    rw [← hA] at c1 ⊢
    rw [← hB] at c2 ⊢
    have c3 : AFun Tryz.prog w 130 [.lst [.lst (A.map Tm.cv), .lst [v.cw], .lst (B.map Tm.cv)]] (.val (.lst ((A ++ v :: B).map Tm.cv))) := by
      have := concat_abs w [A, [v], B] (by simp) (by simp; omega)
      simpa only [List.map_cons, List.map_nil, Tm.cv_eq, List.flatten_cons, List.flatten_nil, List.append_nil, List.cons_append, List.nil_append, List.singleton_append] using this
    show AWp _ _ _ _ _ _ _
    refine AWp.wk (wk_sub (s' := [(3, .bp 3 0 []), (100003, .bx t.cw), (6, .bp 6 0 []), (100006, ⟨5, .row [.i 0, .lst []], 1, 0, [1]⟩), (8, .val (.i m)), (9, .bp 9 0 []), (100009, .bx v.cw), (400002, AV.mrow 3 1 (F.map CV.i))]) ⟨rfl, rfl, rfl, rfl, rfl, rfl, rfl, rfl, trivial⟩) ?_
    refine aS (aD (by kernel_rfl) (by kernel_rfl) ?_)
    (refine nx (aF (gN rfl) rfl rfl rfl rfl rfl rfl rfl rfl rfl) rfl ?_)
    (refine nx (aLb (gN rfl) rfl rfl rfl rfl rfl rfl rfl rfl rfl rfl rfl rfl) rfl ?_)
    (refine nx (aM (gN rfl) rfl rfl rfl rfl rfl) rfl ?_)
    (refine nx (a_upto (gN rfl) rfl rfl rfl rfl rfl rfl rfl rfl rfl (by omega) (by first | assumption | exact sZ rfl | exact Tm.size_all _ | exact Bd.size_all _ | exact ints_size _ | exact bys_size _ | exact Lt.size_all _)) rfl ?_)
    (refine nx (a_call (gN rfl) rfl rfl rfl rfl rfl (c1)) rfl ?_)
    (refine nx (aL (gN rfl) rfl rfl rfl rfl rfl rfl rfl rfl rfl rfl rfl rfl) rfl ?_)
    (refine nx (a_bslice (gN rfl) rfl rfl rfl rfl rfl rfl rfl rfl rfl rfl rfl rfl rfl) rfl ?_)
    (refine nx (aF (gN rfl) rfl rfl rfl rfl rfl rfl rfl rfl rfl) rfl ?_)
    (refine nx (aLb (gN rfl) rfl rfl rfl rfl rfl rfl rfl rfl rfl rfl rfl rfl) rfl ?_)
    (refine nx (aM (gN rfl) rfl rfl rfl rfl rfl) rfl ?_)
    (refine nx (a_add (gN rfl) rfl rfl rfl rfl rfl rfl (by first | omega | (simp only [List.length_map, List.length_append, List.length_cons, List.length_nil] <;> omega) | (simp <;> omega))) rfl ?_)
    (refine nx (a_from (lo := m + 1) (gN rfl) rfl rfl rfl rfl rfl rfl rfl rfl rfl (by omega) (by first | assumption | exact sZ rfl | exact Tm.size_all _ | exact Bd.size_all _ | exact ints_size _ | exact bys_size _ | exact Lt.size_all _)) rfl ?_)
    (refine nx (a_call (gN rfl) rfl rfl rfl rfl rfl (c2)) rfl ?_)
    (refine nx (a_bslice (gN rfl) rfl rfl rfl rfl rfl rfl rfl rfl rfl rfl rfl rfl rfl) rfl ?_)
    (refine nx (a_call (gN rfl) rfl rfl rfl rfl rfl (c3)) rfl ?_)
    (refine nx (aA (gN rfl) rfl rfl rfl rfl rfl) rfl ?_)
    refine ⟨by kernel_rfl, ?_⟩
    show AWp _ _ _ _ _ _ _
    refine aS (aR ?_)
    (refine nx (aF (gN rfl) rfl rfl rfl rfl rfl rfl rfl rfl rfl) rfl ?_)
    (refine nx (aLb (gN rfl) rfl rfl rfl rfl rfl rfl rfl rfl rfl rfl rfl rfl) rfl ?_)
    (refine nx (aM (gN rfl) rfl rfl rfl rfl rfl) rfl ?_)
    (refine nx (a_build (gN rfl) rfl rfl rfl rfl rfl rfl rfl rfl rfl rfl rfl) rfl ?_)
    (refine nx (aSt (gN rfl) rfl rfl rfl rfl rfl rfl rfl rfl rfl rfl) rfl ?_)
    (refine nx (aA (gN rfl) rfl rfl rfl rfl rfl) rfl ?_)
    show AWp _ _ _ _ _ _ _
    exact aT ⟨.inr rfl, _, Wk.refl _, rfl, rfl, trivial⟩
-- 
set_option maxHeartbeats 2000000 in
theorem put400003_abs (F : List Int) (u : Tm) (hu : u.rng) (hus : u.size ≤ 90000000000) : ∀ (p : List Int) (lo : Nat) (t : Tm), F.drop lo = p → lo + p.length = F.length → F.length ≤ 1000000 → t.rng → t.size ≤ 100000 → AFunO Tryz.prog 94 [(400003, AV.mrow 3 1 (F.map CV.i))] [.val t.cw, .sl 400003 lo p.length 1, .val u.cw] (.tup [((putP u p t).getD ⟨0, []⟩).cw, .b (putP u p t).isSome]) [(400003, AV.mrow 3 1 (F.map CV.i))] := by
  intro p
  induction p with
  | nil =>
    intro lo t hF hFl _ _ _
    refine afunO_of Tryz.func94 Tryz.ntmps94 rfl rfl rfl rfl rfl rfl ?_
    intro w U hU
    refine aS (aR ?_)
    (refine nx (a_box (gN rfl) rfl rfl rfl rfl rfl) rfl ?_)
    (refine nx (a_box (gN rfl) rfl rfl rfl rfl rfl) rfl ?_)
    (refine nx (a_alloc (gN rfl) rfl rfl rfl rfl rfl rfl rfl rfl rfl rfl) rfl ?_)
    (refine nx (aA (gN rfl) rfl rfl rfl rfl rfl) rfl ?_)
    show AWp _ _ _ _ _ _ _
    refine aS (aS (aR ?_))
    (refine nx (aM (gN rfl) rfl rfl rfl rfl rfl) rfl ?_)
    (refine nx (a_lenM (gN rfl) rfl rfl rfl rfl rfl rfl rfl) rfl ?_)
    (refine nx (a_eql (gN rfl) rfl rfl rfl rfl rfl rfl) rfl ?_)
    show AWp _ _ _ _ _ _ _
    refine aC rfl (fun hc => ?_) (fun hc => by cases hc)
    refine aS (aR ?_)
    (refine nx (aL (gN rfl) rfl rfl rfl rfl rfl rfl rfl rfl rfl rfl rfl rfl) rfl ?_)
    (refine nx (a_call (gN rfl) rfl rfl rfl rfl rfl (clone_abs w hu hus)) rfl ?_)
    (refine nx (aSt (gN rfl) rfl rfl rfl rfl rfl rfl rfl rfl rfl rfl) rfl ?_)
    (refine nx (aA (gN rfl) rfl rfl rfl rfl rfl) rfl ?_)
    show AWp _ _ _ _ _ _ _
    exact aT ⟨.inr rfl, _, Wk.refl _, rfl, rfl, trivial⟩
  | cons n p ih =>
    intro lo t hF hFl hp hr hts
    rw [List.length_cons] at hFl
    have hx0 : (F.map CV.i)[lo]? = some (.i n) := by
      rw [List.getElem?_map]
      have : F[lo]? = (F.drop lo)[0]? := by rw [List.getElem?_drop, Nat.add_zero]
      rw [this, hF]; rfl
    have hFm : (F.map CV.i).length = F.length := List.length_map ..
    have hF1 : F.drop (lo + 1) = p := by rw [show lo + 1 = 1 + lo by omega, Nat.add_comm, ← List.drop_drop, hF]; rfl
    have hsp := ints_size (n :: p)
    refine afunO_of Tryz.func94 Tryz.ntmps94 rfl rfl rfl rfl rfl rfl ?_
    intro w U hU
    refine aS (aR ?_)
    (refine nx (a_box (gN rfl) rfl rfl rfl rfl rfl) rfl ?_)
    (refine nx (a_box (gN rfl) rfl rfl rfl rfl rfl) rfl ?_)
    (refine nx (a_alloc (gN rfl) rfl rfl rfl rfl rfl rfl rfl rfl rfl rfl) rfl ?_)
    (refine nx (aA (gN rfl) rfl rfl rfl rfl rfl) rfl ?_)
    show AWp _ _ _ _ _ _ _
    refine aS (aS (aR ?_))
    (refine nx (aM (gN rfl) rfl rfl rfl rfl rfl) rfl ?_)
    (refine nx (a_lenM (gN rfl) rfl rfl rfl rfl rfl rfl rfl) rfl ?_)
    (refine nx (a_eql (gN rfl) rfl rfl rfl rfl rfl rfl) rfl ?_)
    show AWp _ _ _ _ _ _ _
    refine aC rfl (fun hc => ?_) (fun hc => aK ?_)
    · simp at hc
      omega
    clear hc
    show AWp _ _ _ _ _ _ _
    refine aS (aR ?_)
    (refine nx (aM (gN rfl) rfl rfl rfl rfl rfl) rfl ?_)
    (refine nx (aIm (k := lo) (gN rfl) rfl rfl rfl rfl rfl rfl rfl rfl rfl (by first | rfl | omega | (simp only [List.length_set, List.length_map, List.length_append, List.length_cons, List.length_nil] <;> omega) | (simp <;> omega))) rfl ?_)
    (refine nx (a_loadM (gN rfl) rfl rfl rfl rfl rfl rfl rfl rfl (hx0) rfl (by first | rfl | omega | (simp only [List.length_set, List.length_map, List.length_append, List.length_cons, List.length_nil] <;> omega) | (simp <;> omega)) rfl rfl) rfl ?_)
    (refine nx (aA (gN rfl) rfl rfl rfl rfl rfl) rfl ?_)
    show AWp _ _ _ _ _ _ _
    refine aS (aS (aR ?_))
    (refine nx (aL (gN rfl) rfl rfl rfl rfl rfl rfl rfl rfl rfl rfl rfl rfl) rfl ?_)
    (refine nx (aM (gN rfl) rfl rfl rfl rfl rfl) rfl ?_)
    (refine nx (a_call (gN rfl) rfl rfl rfl rfl rfl (hasPart_abs w t n)) rfl ?_)
    (refine nx (a_not (gN rfl) rfl rfl rfl rfl rfl) rfl ?_)
    show AWp _ _ _ _ _ _ _
    refine aC rfl (fun hc => ?_) (fun hc => aK ?_)
    · have hno : t.pa n = none := by simpa using hc
      have e : putP u (n :: p) t = none := by rw [putP, hno]; rfl
      rw [e]
      refine aS (aR ?_)
      (refine nx (a_build (gN rfl) rfl rfl rfl rfl rfl rfl rfl rfl rfl rfl rfl) rfl ?_)
      (refine nx (aSt (gN rfl) rfl rfl rfl rfl rfl rfl rfl rfl rfl rfl) rfl ?_)
      (refine nx (aA (gN rfl) rfl rfl rfl rfl rfl) rfl ?_)
      show AWp _ _ _ _ _ _ _
      exact aT ⟨.inr rfl, _, Wk.refl _, rfl, rfl, trivial⟩
    obtain ⟨s, hs⟩ : ∃ s, t.pa n = some s := Option.isSome_iff_exists.1 (by simpa using hc)
    clear hc
    have hn0 : 0 ≤ n := by
      unfold Tm.pa at hs
      split at hs
      · assumption
      · cases hs
    have hsym := pa_sym hs
    have hl : t.l[n.toNat]? = some s := by
      have hs := hs
      unfold Tm.pa at hs
      rw [if_pos hn0, Tm.ps_of_sym (by omega)] at hs
      exact hs
    have hl' := Tm.map_at hl
    have hsz := Tm.size_all t.l
    obtain ⟨m, hm⟩ : ∃ m : Nat, n = m := ⟨n.toNat, by omega⟩
    subst hm
    rw [Int.toNat_natCast] at hl hl'
    have hml : m < t.l.length := by
      rcases Nat.lt_or_ge m t.l.length with h | h
      · exact h
      · rw [List.getElem?_eq_none h] at hl; cases hl
    have hml' : m < (t.l.map Tm.cv).length := by rw [List.length_map]; exact hml
    have hrs := ((Tm.rng_iff _).1 hr).2
    have hparts : ∀ x ∈ t.l, x.rng ∧ x.size ≤ 100000 := fun x hx => ⟨hrs x hx, by
      have h1 := Tm.size_eq t
      rw [Tm.ps_of_sym (by omega)] at h1
      have := flatMap_len_mem Tm.flat hx
      have h2 : x.size = x.flat.length := rfl
      omega⟩
    have hlen : t.l.length ≤ 100000 := by
      have h1 := Tm.size_eq t
      rw [Tm.ps_of_sym (by omega)] at h1
      have : ∀ l : List Tm, l.length ≤ (l.flatMap Tm.flat).length := by
        intro l
        induction l with
        | nil => exact Nat.le_refl _
        | cons x l ih =>
          rw [List.flatMap_cons, List.length_append, List.length_cons]
          have : 0 < x.flat.length := by rw [Tm.flat_eq]; simp
          omega
      have := this t.l
      omega
    have hsb := hparts s (List.mem_of_getElem? hl)
    have h1l : 1 ≤ (List.map CV.i ((m : Int) :: p)).length := by simp
    show AWp _ _ _ _ _ _ _
    have hP := ih (lo + 1) s hF1 (by omega) hp hsb.1 hsb.2
    refine aS (aD (by kernel_rfl) (by kernel_rfl) ?_)
    (refine nx (aF (gN rfl) rfl rfl rfl rfl rfl rfl rfl rfl rfl) rfl ?_)
    (refine nx (aLb (gN rfl) rfl rfl rfl rfl rfl rfl rfl rfl rfl rfl rfl rfl) rfl ?_)
    (refine nx (aM (gN rfl) rfl rfl rfl rfl rfl) rfl ?_)
    (refine nx (a_index (gN rfl) rfl rfl rfl rfl rfl rfl rfl rfl rfl (by assumption) rfl (by first | assumption | exact sZ rfl | exact Tm.size_all _ | exact Bd.size_all _ | exact ints_size _ | exact bys_size _ | exact Lt.size_all _)) rfl ?_)
    (refine nx (a_load_ad (gN rfl) rfl rfl rfl rfl rfl rfl rfl rfl rfl) rfl ?_)
    (refine nx (aM (gN rfl) rfl rfl rfl rfl rfl) rfl ?_)
    (refine nx (a_fromM (j := 1) (gN rfl) rfl rfl rfl rfl rfl rfl rfl rfl (by first | rfl | omega | (simp only [List.length_set, List.length_map, List.length_append, List.length_cons, List.length_nil] <;> omega) | (simp <;> omega)) (by first | rfl | omega | (simp only [List.length_set, List.length_map, List.length_append, List.length_cons, List.length_nil] <;> omega) | (simp <;> omega))) rfl ?_)
    (refine nx (aL (gN rfl) rfl rfl rfl rfl rfl rfl rfl rfl rfl rfl rfl rfl) rfl ?_)
    (refine nx (a_callO (gN rfl) rfl rfl rfl rfl rfl (hP) (by repeat (first | exact trivial | refine ⟨rfl, ?_⟩)) (by first | rfl | kernel_rfl) (by first | rfl | kernel_rfl) (by first | rfl | kernel_rfl) (by first | rfl | kernel_rfl) (hnb_of (by first | rfl | kernel_rfl))) rfl ?_)
    (refine nx (aM (gN rfl) rfl rfl rfl rfl rfl) rfl ?_)
    (refine nx (aX (gN rfl) rfl rfl rfl rfl rfl rfl) rfl ?_)
    (refine nx (aX (gN rfl) rfl rfl rfl rfl rfl rfl) rfl ?_)
    (refine nx (a_alloc (gN rfl) rfl rfl rfl rfl rfl rfl rfl rfl rfl rfl) rfl ?_)
    (refine nx (aSt (gN rfl) rfl rfl rfl rfl rfl rfl rfl rfl rfl rfl) rfl ?_)
    (refine nx (aA (gN rfl) rfl rfl rfl rfl rfl) rfl ?_)
    refine ⟨by kernel_rfl, ?_⟩
    show AWp _ _ _ _ _ _ _
    refine aS (aS (aR ?_))
    (refine nx (aM (gN rfl) rfl rfl rfl rfl rfl) rfl ?_)
    (refine nx (a_not (gN rfl) rfl rfl rfl rfl rfl) rfl ?_)
    show AWp _ _ _ _ _ _ _
    refine aC rfl (fun hc => ?_) (fun hc => aK ?_)
    · have hno : putP u p s = none := by simpa using hc
      have e : putP u ((m : Int) :: p) t = none := by rw [putP, hs, Option.bind_some, hno]; rfl
      rw [e]
      refine aS (aR ?_)
      (refine nx (a_build (gN rfl) rfl rfl rfl rfl rfl rfl rfl rfl rfl rfl rfl) rfl ?_)
      (refine nx (aSt (gN rfl) rfl rfl rfl rfl rfl rfl rfl rfl rfl rfl) rfl ?_)
      (refine nx (aA (gN rfl) rfl rfl rfl rfl rfl) rfl ?_)
      show AWp _ _ _ _ _ _ _
      exact aT ⟨.inr rfl, _, Wk.refl _, rfl, rfl, trivial⟩
    obtain ⟨v, hv⟩ : ∃ v, putP u p s = some v := Option.isSome_iff_exists.1 (by simpa using hc)
    clear hc
    have e : putP u ((m : Int) :: p) t = some ⟨t.f, (t.l.take m).map Tm.strip ++ v :: (t.l.drop (m + 1)).map Tm.strip⟩ := by rw [putP, hs, Option.bind_some, hv]; rfl
    rw [e, hv]
    have c1 := cloneAll_abs w (t.l.take m) (by rw [List.length_take]; omega) (fun x hx => ⟨(hparts x (List.mem_of_mem_take hx)).1, by have := (hparts x (List.mem_of_mem_take hx)).2; omega⟩)
    have c2 := cloneAll_abs w (t.l.drop (m + 1)) (by rw [List.length_drop]; omega) (fun x hx => ⟨(hparts x (List.mem_of_mem_drop hx)).1, by have := (hparts x (List.mem_of_mem_drop hx)).2; omega⟩)
    rw [show (t.l.take m).map Tm.cv = (t.l.map Tm.cv).take m from List.map_take] at c1
    rw [show (t.l.drop (m + 1)).map Tm.cv = (t.l.map Tm.cv).drop (m + 1) from List.map_drop] at c2
    obtain ⟨A, hA⟩ : ∃ A, A = (t.l.take m).map Tm.strip := ⟨_, rfl⟩
    obtain ⟨B, hB⟩ : ∃ B, B = (t.l.drop (m + 1)).map Tm.strip := ⟨_, rfl⟩
    have hAl : A.length ≤ 100000 := by rw [hA, List.length_map, List.length_take]; omega
    have hBl : B.length ≤ 100000 := by rw [hB, List.length_map, List.length_drop]; omega
    rw [← hA] at c1 ⊢
    rw [← hB] at c2 ⊢
    have c3 : AFun Tryz.prog w 130 [.lst [.lst (A.map Tm.cv), .lst [v.cw], .lst (B.map Tm.cv)]] (.val (.lst ((A ++ v :: B).map Tm.cv))) := by
      have := concat_abs w [A, [v], B] (by simp) (by simp; omega)
      simpa only [List.map_cons, List.map_nil, Tm.cv_eq, List.flatten_cons, List.flatten_nil, List.append_nil, List.cons_append, List.nil_append, List.singleton_append] using this
    show AWp _ _ _ _ _ _ _
    refine AWp.wk (wk_sub (s' := [(3, .bp 3 0 []), (100003, .bx t.cw), (6, .bp 6 0 []), (100006, ⟨5, .row [.i 0, .lst []], 1, 0, [1]⟩), (8, .val (.i m)), (9, .bp 9 0 []), (100009, .bx v.cw), (400003, AV.mrow 3 1 (F.map CV.i))]) ⟨rfl, rfl, rfl, rfl, rfl, rfl, rfl, rfl, trivial⟩) ?_
    refine aS (aD (by kernel_rfl) (by kernel_rfl) ?_)
    (refine nx (aF (gN rfl) rfl rfl rfl rfl rfl rfl rfl rfl rfl) rfl ?_)
    (refine nx (aLb (gN rfl) rfl rfl rfl rfl rfl rfl rfl rfl rfl rfl rfl rfl) rfl ?_)
    (refine nx (aM (gN rfl) rfl rfl rfl rfl rfl) rfl ?_)
    (refine nx (a_upto (gN rfl) rfl rfl rfl rfl rfl rfl rfl rfl rfl (by omega) (by first | assumption | exact sZ rfl | exact Tm.size_all _ | exact Bd.size_all _ | exact ints_size _ | exact bys_size _ | exact Lt.size_all _)) rfl ?_)
    (refine nx (a_call (gN rfl) rfl rfl rfl rfl rfl (c1)) rfl ?_)
    (refine nx (aL (gN rfl) rfl rfl rfl rfl rfl rfl rfl rfl rfl rfl rfl rfl) rfl ?_)
    (refine nx (a_bslice (gN rfl) rfl rfl rfl rfl rfl rfl rfl rfl rfl rfl rfl rfl rfl) rfl ?_)
    (refine nx (aF (gN rfl) rfl rfl rfl rfl rfl rfl rfl rfl rfl) rfl ?_)
    (refine nx (aLb (gN rfl) rfl rfl rfl rfl rfl rfl rfl rfl rfl rfl rfl rfl) rfl ?_)
    (refine nx (aM (gN rfl) rfl rfl rfl rfl rfl) rfl ?_)
    (refine nx (a_add (gN rfl) rfl rfl rfl rfl rfl rfl (by first | omega | (simp only [List.length_map, List.length_append, List.length_cons, List.length_nil] <;> omega) | (simp <;> omega))) rfl ?_)
    (refine nx (a_from (lo := m + 1) (gN rfl) rfl rfl rfl rfl rfl rfl rfl rfl rfl (by omega) (by first | assumption | exact sZ rfl | exact Tm.size_all _ | exact Bd.size_all _ | exact ints_size _ | exact bys_size _ | exact Lt.size_all _)) rfl ?_)
    (refine nx (a_call (gN rfl) rfl rfl rfl rfl rfl (c2)) rfl ?_)
    (refine nx (a_bslice (gN rfl) rfl rfl rfl rfl rfl rfl rfl rfl rfl rfl rfl rfl rfl) rfl ?_)
    (refine nx (a_call (gN rfl) rfl rfl rfl rfl rfl (c3)) rfl ?_)
    (refine nx (aA (gN rfl) rfl rfl rfl rfl rfl) rfl ?_)
    refine ⟨by kernel_rfl, ?_⟩
    show AWp _ _ _ _ _ _ _
    refine aS (aR ?_)
    (refine nx (aF (gN rfl) rfl rfl rfl rfl rfl rfl rfl rfl rfl) rfl ?_)
    (refine nx (aLb (gN rfl) rfl rfl rfl rfl rfl rfl rfl rfl rfl rfl rfl rfl) rfl ?_)
    (refine nx (aM (gN rfl) rfl rfl rfl rfl rfl) rfl ?_)
    (refine nx (a_build (gN rfl) rfl rfl rfl rfl rfl rfl rfl rfl rfl rfl rfl) rfl ?_)
    (refine nx (aSt (gN rfl) rfl rfl rfl rfl rfl rfl rfl rfl rfl rfl) rfl ?_)
    (refine nx (aA (gN rfl) rfl rfl rfl rfl rfl) rfl ?_)
    show AWp _ _ _ _ _ _ _
    exact aT ⟨.inr rfl, _, Wk.refl _, rfl, rfl, trivial⟩
theorem afunO_hdl {P : Program} {f : FuncId} {X e z n : Nat} {l : List CV} {a1 a3 : AV} {r : AV} {post : AS} (hX : (Nat.ble 200000 X && Nat.blt X 450000) = true) (hn : n ≤ l.length) (h : AFunO P f [(X, .mrow e z l)] [a1, .sl X 0 n z, a3] r post) : AFunH P f [(X, .mrow e z l)] X X (fun v _ => [a1, .val (.sc (cutV v n)), a3]) (fun _ _ => r) post := by
  refine ⟨h.1, fun U w hv a0 vs hU hpS hargs => h.2 U w hv a0 vs hU hpS ?_⟩
  obtain ⟨u1, _, rfl, h1, u2, _, rfl, h2, h3⟩ := hargs
  refine ⟨u1, _, rfl, h1, u2, _, rfl, ?_, h3⟩
  have hrn : RN X := rnF hX
  have hu : u2 = cutV (hv X) n := (vrep_sc.1 h2.1).1
  have hlk : look [(X, AV.mrow e z l)] X = some (.mrow e z l) := lS _ _ _
  obtain ⟨xs, f1, _⟩ := hpS.mrow hlk hrn
  obtain ⟨ao, cap, e1, e2, _⟩ := own_slice f1
  refine ⟨hrn, ?_⟩
  show SlV (hv X) 0 n z u2
  rw [hu, e1]
  exact ⟨ao, l.length, cap, ao, rfl, rfl, by omega, fun _ => rfl, fun _ g hg' => by rw [hg', Nat.zero_mul], Iff.rfl⟩
noncomputable def joinM (m : Mt) (c d : List Lt) : List Lt := (offL c m.fr.n.toNat).map Lt.strip ++ ((offL d m.ti.n.toNat).map Lt.strip ++ [⟨negAt d m.ti.n, (putP m.fr.b m.pl m.ti.a).getD ⟨0, []⟩, m.ti.b⟩])
theorem concat3_abs (W : World) (x y z : List Lt) (hl : x.length + y.length + z.length ≤ 1000000) : AFun Tryz.prog W 95 [.lst [.lst (x.map Lt.cv), .lst (y.map Lt.cv), .lst (z.map Lt.cv)]] (.val (.lst ((x ++ (y ++ z)).map Lt.cv))) := by
  have h := concatL_abs W [x, y, z] (by simp) (by simp; omega)
  have e : [x, y, z].flatten = x ++ (y ++ z) := by simp
  rw [e] at h
  exact h
def Lt.rok (l : Lt) : Prop := (l.a.rng ∧ l.a.ok) ∧ l.b.rng ∧ l.b.ok
-- 
set_option maxHeartbeats 8000000 in
theorem suJoin400002_abs (c d : List Lt) (m : Mt) (hcl : c.length ≤ 1000) (hdl : d.length ≤ 1000) (hc : ∀ l ∈ c, l.rok) (hd : ∀ l ∈ d, l.rok) (hi : 0 ≤ m.fr.n ∧ m.fr.n < c.length) (hj : 0 ≤ m.ti.n ∧ m.ti.n < d.length) (hfb : m.fr.b.rng ∧ m.fr.b.size ≤ 1000000) (hta : m.ti.a.rng ∧ m.ti.a.size ≤ 100000) (hpl : m.pl.length ≤ 1000000) : AFunH Tryz.prog 68 [(400002, AV.mrow 3 1 (m.pl.map CV.i))] 400002 400002 (fun v _ => [.val (m.cvH v), .val (.lst (c.map Lt.cv)), .val (.lst (d.map Lt.cv))]) (fun _ _ => .val (.lst ((joinM m c d).map Lt.cv))) [(400002, AV.mrow 3 1 (m.pl.map CV.i))] := by
  obtain ⟨⟨fn, fa, fb⟩, ⟨tn, ta, tb⟩, pl, pt⟩ := m
  simp only at hi hj hfb hta hpl
  obtain ⟨i, rfl⟩ : ∃ i : Nat, fn = (i : Int) := ⟨fn.toNat, by omega⟩
  obtain ⟨j, rfl⟩ : ∃ j : Nat, tn = (j : Int) := ⟨tn.toNat, by omega⟩
  have hi2 : i < c.length := by omega
  have hj2 : j < d.length := by omega
  obtain ⟨l, hl⟩ : ∃ l, d[j]? = some l := ⟨d[j], List.getElem?_eq_getElem hj2⟩
  have hl' := Lt.map_at hl
  have hsd := Lt.size_all d
  have hng : negAt d (j : Int) = l.neg := by unfold negAt; rw [Int.toNat_natCast, hl]
  have hP := afunO_hdl (by decide) (by simp) (put400002_abs pl fb hfb.1 (by omega) pl 0 ta rfl (by simp) hpl hta.1 hta.2)
  obtain ⟨q, hq⟩ : ∃ q, q = (putP fb pl ta).getD ⟨0, []⟩ := ⟨_, rfl⟩
  obtain ⟨ok, hok⟩ : ∃ ok, ok = (putP fb pl ta).isSome := ⟨_, rfl⟩
  rw [← hq, ← hok] at hP
  have hW1 := fun w => eWithout_abs w c (i : Int) (by omega) hc
  have hW2 := fun w => eWithout_abs w d (j : Int) (by omega) hd
  rw [if_pos ⟨by omega, by omega⟩, Int.toNat_natCast] at hW1 hW2
  obtain ⟨A, hA⟩ : ∃ A, A = (offL c i).map Lt.strip := ⟨_, rfl⟩
  obtain ⟨B, hB⟩ : ∃ B, B = (offL d j).map Lt.strip := ⟨_, rfl⟩
  have hAl : A.length ≤ 1000 := by have := offL_len hi2; rw [hA, List.length_map]; omega
  have hBl : B.length ≤ 1000 := by have := offL_len hj2; rw [hB, List.length_map]; omega
  have hJ : joinM ⟨⟨(i : Int), fa, fb⟩, ⟨(j : Int), ta, tb⟩, pl, pt⟩ c d = A ++ (B ++ [⟨l.neg, q, tb⟩]) := by unfold joinM; simp only [Int.toNat_natCast]; rw [hng, ← hA, ← hB, ← hq]
  rw [hJ]
  rw [← hA] at hW1
  rw [← hB] at hW2
  have hC := fun w => concat3_abs w A B [⟨l.neg, q, tb⟩] (by simp; omega)
  have hlm : (pl.map CV.i).length = pl.length := List.length_map ..
  refine afunH_of 46 400002 47 400002 Tryz.func68 Tryz.ntmps68 rfl rfl (fun _ _ => rfl) rfl rfl rfl rfl rfl ?_
  intro v v2 w U hU
  refine aS (aR ?_)
  (refine nx (a_box (gN rfl) rfl rfl rfl rfl rfl) rfl ?_)
  (refine nx (aA (gN rfl) rfl rfl rfl rfl rfl) rfl ?_)
  show AWp _ _ _ _ _ _ _
  refine aS (aR ?_)
  (refine nx (aF (gN rfl) rfl rfl rfl rfl rfl rfl rfl rfl rfl) rfl ?_)
  (refine nx (aF (gN rfl) rfl rfl rfl rfl rfl rfl rfl rfl rfl) rfl ?_)
  (refine nx (aLb (gN rfl) rfl rfl rfl rfl rfl rfl rfl rfl rfl rfl rfl rfl) rfl ?_)
  (refine nx (aF (gN rfl) rfl rfl rfl rfl rfl rfl rfl rfl rfl) rfl ?_)
  (refine nx (aLb (gN rfl) rfl rfl rfl rfl rfl rfl rfl rfl rfl rfl rfl rfl) rfl ?_)
  (refine nx (aF (gN rfl) rfl rfl rfl rfl rfl rfl rfl rfl rfl) rfl ?_)
  (refine nx (aF (gN rfl) rfl rfl rfl rfl rfl rfl rfl rfl rfl) rfl ?_)
  (refine nx (aLb (gN rfl) rfl rfl rfl rfl rfl rfl rfl rfl rfl rfl rfl rfl) rfl ?_)
  (refine nx (a_callH 46 47 (gN rfl) rfl rfl rfl rfl (hP) rfl rfl rfl rfl (by repeat (first | exact trivial | refine ⟨rfl, ?_⟩)) (by first | rfl | kernel_rfl) (by first | rfl | kernel_rfl) (by first | rfl | kernel_rfl) (by first | rfl | kernel_rfl) (hnb_of (by first | rfl | kernel_rfl))) rfl ?_)
  (refine nx (aM (gN rfl) rfl rfl rfl rfl rfl) rfl ?_)
  (refine nx (aX (gN rfl) rfl rfl rfl rfl rfl rfl) rfl ?_)
  (refine nx (aX (gN rfl) rfl rfl rfl rfl rfl rfl) rfl ?_)
  (refine nx (a_alloc (gN rfl) rfl rfl rfl rfl rfl rfl rfl rfl rfl rfl) rfl ?_)
  (refine nx (aSt (gN rfl) rfl rfl rfl rfl rfl rfl rfl rfl rfl rfl) rfl ?_)
  (refine nx (aA (gN rfl) rfl rfl rfl rfl rfl) rfl ?_)
  show AWp _ _ _ _ _ _ _
  refine AWp.wk (wk_sub (s' := (1, AV.val (.lst (c.map Lt.cv))) :: (2, .val (.lst (d.map Lt.cv))) :: (3, .bp 3 0 []) :: (100003, .bx (.row [.row [.i (i : Int), fa.cw, fb.cw], .row [.i (j : Int), ta.cw, tb.cw], .sc (cutV v pl.length), pt.cw])) :: (7, .bp 7 0 []) :: (100007, .bx q.cw) :: [(400002, .mrow 3 1 (pl.map CV.i))]) ⟨rfl, rfl, rfl, rfl, rfl, rfl, rfl, trivial⟩) ?_
  refine aS (aD (by kernel_rfl) (by kernel_rfl) ?_)
  (refine nx (aM (gN rfl) rfl rfl rfl rfl rfl) rfl ?_)
  (refine nx (aF (gN rfl) rfl rfl rfl rfl rfl rfl rfl rfl rfl) rfl ?_)
  (refine nx (aF (gN rfl) rfl rfl rfl rfl rfl rfl rfl rfl rfl) rfl ?_)
  (refine nx (aLb (gN rfl) rfl rfl rfl rfl rfl rfl rfl rfl rfl rfl rfl rfl) rfl ?_)
  (refine nx (a_index (j := j) (gN rfl) rfl rfl rfl rfl rfl rfl rfl rfl rfl (hl') rfl (hsd)) rfl ?_)
  (refine nx (a_field_ad (gN rfl) rfl rfl rfl rfl rfl rfl rfl rfl rfl rfl rfl) rfl ?_)
  (refine nx (a_load_ad (gN rfl) rfl rfl rfl rfl rfl rfl rfl rfl rfl) rfl ?_)
  (refine nx (aL (gN rfl) rfl rfl rfl rfl rfl rfl rfl rfl rfl rfl rfl rfl) rfl ?_)
  (refine nx (aF (gN rfl) rfl rfl rfl rfl rfl rfl rfl rfl rfl) rfl ?_)
  (refine nx (aF (gN rfl) rfl rfl rfl rfl rfl rfl rfl rfl rfl) rfl ?_)
  (refine nx (aLb (gN rfl) rfl rfl rfl rfl rfl rfl rfl rfl rfl rfl rfl rfl) rfl ?_)
  (refine nx (a_buildT ltZ3 (gN rfl) rfl rfl rfl rfl rfl rfl rfl rfl rfl rfl rfl) rfl ?_)
  (refine nx (a_allocT ltZ3 (gN rfl) rfl rfl rfl rfl rfl rfl rfl) rfl ?_)
  (refine nx (aSt (gN rfl) rfl rfl rfl rfl rfl rfl rfl rfl rfl rfl) rfl ?_)
  refine ⟨by kernel_rfl, ?_⟩
  show AWp _ _ _ _ _ _ _
  refine aS (aD (by kernel_rfl) (by kernel_rfl) ?_)
  (refine nx (aM (gN rfl) rfl rfl rfl rfl rfl) rfl ?_)
  (refine nx (aF (gN rfl) rfl rfl rfl rfl rfl rfl rfl rfl rfl) rfl ?_)
  (refine nx (aF (gN rfl) rfl rfl rfl rfl rfl rfl rfl rfl rfl) rfl ?_)
  (refine nx (aLb (gN rfl) rfl rfl rfl rfl rfl rfl rfl rfl rfl rfl rfl rfl) rfl ?_)
  (refine nx (a_call (gN rfl) rfl rfl rfl rfl rfl (hW1 w)) rfl ?_)
  (refine nx (aM (gN rfl) rfl rfl rfl rfl rfl) rfl ?_)
  (refine nx (aF (gN rfl) rfl rfl rfl rfl rfl rfl rfl rfl rfl) rfl ?_)
  (refine nx (aF (gN rfl) rfl rfl rfl rfl rfl rfl rfl rfl rfl) rfl ?_)
  (refine nx (aLb (gN rfl) rfl rfl rfl rfl rfl rfl rfl rfl rfl rfl rfl rfl) rfl ?_)
  (refine nx (a_call (gN rfl) rfl rfl rfl rfl rfl (hW2 w)) rfl ?_)
  (refine nx (aL (gN rfl) rfl rfl rfl rfl rfl rfl rfl rfl rfl rfl rfl rfl) rfl ?_)
  (refine nx (a_bslice (gN rfl) rfl rfl rfl rfl rfl rfl rfl rfl rfl rfl rfl rfl rfl) rfl ?_)
  (refine nx (a_bslice (gN rfl) rfl rfl rfl rfl rfl rfl rfl rfl rfl rfl rfl rfl rfl) rfl ?_)
  (refine nx (a_call (gN rfl) rfl rfl rfl rfl rfl (hC w)) rfl ?_)
  (refine nx (aA (gN rfl) rfl rfl rfl rfl rfl) rfl ?_)
  refine ⟨by kernel_rfl, ?_⟩
  show AWp _ _ _ _ _ _ _
  exact aT ⟨.inr rfl, _, Wk.refl _, rfl, rfl, trivial⟩
-- 
set_option maxHeartbeats 8000000 in
theorem suJoin400003_abs (c d : List Lt) (m : Mt) (hcl : c.length ≤ 1000) (hdl : d.length ≤ 1000) (hc : ∀ l ∈ c, l.rok) (hd : ∀ l ∈ d, l.rok) (hi : 0 ≤ m.fr.n ∧ m.fr.n < c.length) (hj : 0 ≤ m.ti.n ∧ m.ti.n < d.length) (hfb : m.fr.b.rng ∧ m.fr.b.size ≤ 1000000) (hta : m.ti.a.rng ∧ m.ti.a.size ≤ 100000) (hpl : m.pl.length ≤ 1000000) : AFunH Tryz.prog 68 [(400003, AV.mrow 3 1 (m.pl.map CV.i))] 400003 400003 (fun v _ => [.val (m.cvH v), .val (.lst (c.map Lt.cv)), .val (.lst (d.map Lt.cv))]) (fun _ _ => .val (.lst ((joinM m c d).map Lt.cv))) [(400003, AV.mrow 3 1 (m.pl.map CV.i))] := by
  obtain ⟨⟨fn, fa, fb⟩, ⟨tn, ta, tb⟩, pl, pt⟩ := m
  simp only at hi hj hfb hta hpl
  obtain ⟨i, rfl⟩ : ∃ i : Nat, fn = (i : Int) := ⟨fn.toNat, by omega⟩
  obtain ⟨j, rfl⟩ : ∃ j : Nat, tn = (j : Int) := ⟨tn.toNat, by omega⟩
  have hi2 : i < c.length := by omega
  have hj2 : j < d.length := by omega
  obtain ⟨l, hl⟩ : ∃ l, d[j]? = some l := ⟨d[j], List.getElem?_eq_getElem hj2⟩
  have hl' := Lt.map_at hl
  have hsd := Lt.size_all d
  have hng : negAt d (j : Int) = l.neg := by unfold negAt; rw [Int.toNat_natCast, hl]
  have hP := afunO_hdl (by decide) (by simp) (put400003_abs pl fb hfb.1 (by omega) pl 0 ta rfl (by simp) hpl hta.1 hta.2)
  obtain ⟨q, hq⟩ : ∃ q, q = (putP fb pl ta).getD ⟨0, []⟩ := ⟨_, rfl⟩
  obtain ⟨ok, hok⟩ : ∃ ok, ok = (putP fb pl ta).isSome := ⟨_, rfl⟩
  rw [← hq, ← hok] at hP
  have hW1 := fun w => eWithout_abs w c (i : Int) (by omega) hc
  have hW2 := fun w => eWithout_abs w d (j : Int) (by omega) hd
  rw [if_pos ⟨by omega, by omega⟩, Int.toNat_natCast] at hW1 hW2
  obtain ⟨A, hA⟩ : ∃ A, A = (offL c i).map Lt.strip := ⟨_, rfl⟩
  obtain ⟨B, hB⟩ : ∃ B, B = (offL d j).map Lt.strip := ⟨_, rfl⟩
  have hAl : A.length ≤ 1000 := by have := offL_len hi2; rw [hA, List.length_map]; omega
  have hBl : B.length ≤ 1000 := by have := offL_len hj2; rw [hB, List.length_map]; omega
  have hJ : joinM ⟨⟨(i : Int), fa, fb⟩, ⟨(j : Int), ta, tb⟩, pl, pt⟩ c d = A ++ (B ++ [⟨l.neg, q, tb⟩]) := by unfold joinM; simp only [Int.toNat_natCast]; rw [hng, ← hA, ← hB, ← hq]
  rw [hJ]
  rw [← hA] at hW1
  rw [← hB] at hW2
  have hC := fun w => concat3_abs w A B [⟨l.neg, q, tb⟩] (by simp; omega)
  have hlm : (pl.map CV.i).length = pl.length := List.length_map ..
  refine afunH_of 46 400003 47 400003 Tryz.func68 Tryz.ntmps68 rfl rfl (fun _ _ => rfl) rfl rfl rfl rfl rfl ?_
  intro v v2 w U hU
  refine aS (aR ?_)
  (refine nx (a_box (gN rfl) rfl rfl rfl rfl rfl) rfl ?_)
  (refine nx (aA (gN rfl) rfl rfl rfl rfl rfl) rfl ?_)
  show AWp _ _ _ _ _ _ _
  refine aS (aR ?_)
  (refine nx (aF (gN rfl) rfl rfl rfl rfl rfl rfl rfl rfl rfl) rfl ?_)
  (refine nx (aF (gN rfl) rfl rfl rfl rfl rfl rfl rfl rfl rfl) rfl ?_)
  (refine nx (aLb (gN rfl) rfl rfl rfl rfl rfl rfl rfl rfl rfl rfl rfl rfl) rfl ?_)
  (refine nx (aF (gN rfl) rfl rfl rfl rfl rfl rfl rfl rfl rfl) rfl ?_)
  (refine nx (aLb (gN rfl) rfl rfl rfl rfl rfl rfl rfl rfl rfl rfl rfl rfl) rfl ?_)
  (refine nx (aF (gN rfl) rfl rfl rfl rfl rfl rfl rfl rfl rfl) rfl ?_)
  (refine nx (aF (gN rfl) rfl rfl rfl rfl rfl rfl rfl rfl rfl) rfl ?_)
  (refine nx (aLb (gN rfl) rfl rfl rfl rfl rfl rfl rfl rfl rfl rfl rfl rfl) rfl ?_)
  (refine nx (a_callH 46 47 (gN rfl) rfl rfl rfl rfl (hP) rfl rfl rfl rfl (by repeat (first | exact trivial | refine ⟨rfl, ?_⟩)) (by first | rfl | kernel_rfl) (by first | rfl | kernel_rfl) (by first | rfl | kernel_rfl) (by first | rfl | kernel_rfl) (hnb_of (by first | rfl | kernel_rfl))) rfl ?_)
  (refine nx (aM (gN rfl) rfl rfl rfl rfl rfl) rfl ?_)
  (refine nx (aX (gN rfl) rfl rfl rfl rfl rfl rfl) rfl ?_)
  (refine nx (aX (gN rfl) rfl rfl rfl rfl rfl rfl) rfl ?_)
  (refine nx (a_alloc (gN rfl) rfl rfl rfl rfl rfl rfl rfl rfl rfl rfl) rfl ?_)
  (refine nx (aSt (gN rfl) rfl rfl rfl rfl rfl rfl rfl rfl rfl rfl) rfl ?_)
  (refine nx (aA (gN rfl) rfl rfl rfl rfl rfl) rfl ?_)
  show AWp _ _ _ _ _ _ _
  refine AWp.wk (wk_sub (s' := (1, AV.val (.lst (c.map Lt.cv))) :: (2, .val (.lst (d.map Lt.cv))) :: (3, .bp 3 0 []) :: (100003, .bx (.row [.row [.i (i : Int), fa.cw, fb.cw], .row [.i (j : Int), ta.cw, tb.cw], .sc (cutV v pl.length), pt.cw])) :: (7, .bp 7 0 []) :: (100007, .bx q.cw) :: [(400003, .mrow 3 1 (pl.map CV.i))]) ⟨rfl, rfl, rfl, rfl, rfl, rfl, rfl, trivial⟩) ?_
  refine aS (aD (by kernel_rfl) (by kernel_rfl) ?_)
  (refine nx (aM (gN rfl) rfl rfl rfl rfl rfl) rfl ?_)
  (refine nx (aF (gN rfl) rfl rfl rfl rfl rfl rfl rfl rfl rfl) rfl ?_)
  (refine nx (aF (gN rfl) rfl rfl rfl rfl rfl rfl rfl rfl rfl) rfl ?_)
  (refine nx (aLb (gN rfl) rfl rfl rfl rfl rfl rfl rfl rfl rfl rfl rfl rfl) rfl ?_)
  (refine nx (a_index (j := j) (gN rfl) rfl rfl rfl rfl rfl rfl rfl rfl rfl (hl') rfl (hsd)) rfl ?_)
  (refine nx (a_field_ad (gN rfl) rfl rfl rfl rfl rfl rfl rfl rfl rfl rfl rfl) rfl ?_)
  (refine nx (a_load_ad (gN rfl) rfl rfl rfl rfl rfl rfl rfl rfl rfl) rfl ?_)
  (refine nx (aL (gN rfl) rfl rfl rfl rfl rfl rfl rfl rfl rfl rfl rfl rfl) rfl ?_)
  (refine nx (aF (gN rfl) rfl rfl rfl rfl rfl rfl rfl rfl rfl) rfl ?_)
  (refine nx (aF (gN rfl) rfl rfl rfl rfl rfl rfl rfl rfl rfl) rfl ?_)
  (refine nx (aLb (gN rfl) rfl rfl rfl rfl rfl rfl rfl rfl rfl rfl rfl rfl) rfl ?_)
  (refine nx (a_buildT ltZ3 (gN rfl) rfl rfl rfl rfl rfl rfl rfl rfl rfl rfl rfl) rfl ?_)
  (refine nx (a_allocT ltZ3 (gN rfl) rfl rfl rfl rfl rfl rfl rfl) rfl ?_)
  (refine nx (aSt (gN rfl) rfl rfl rfl rfl rfl rfl rfl rfl rfl rfl) rfl ?_)
  refine ⟨by kernel_rfl, ?_⟩
  show AWp _ _ _ _ _ _ _
  refine aS (aD (by kernel_rfl) (by kernel_rfl) ?_)
  (refine nx (aM (gN rfl) rfl rfl rfl rfl rfl) rfl ?_)
  (refine nx (aF (gN rfl) rfl rfl rfl rfl rfl rfl rfl rfl rfl) rfl ?_)
  (refine nx (aF (gN rfl) rfl rfl rfl rfl rfl rfl rfl rfl rfl) rfl ?_)
  (refine nx (aLb (gN rfl) rfl rfl rfl rfl rfl rfl rfl rfl rfl rfl rfl rfl) rfl ?_)
  (refine nx (a_call (gN rfl) rfl rfl rfl rfl rfl (hW1 w)) rfl ?_)
  (refine nx (aM (gN rfl) rfl rfl rfl rfl rfl) rfl ?_)
  (refine nx (aF (gN rfl) rfl rfl rfl rfl rfl rfl rfl rfl rfl) rfl ?_)
  (refine nx (aF (gN rfl) rfl rfl rfl rfl rfl rfl rfl rfl rfl) rfl ?_)
  (refine nx (aLb (gN rfl) rfl rfl rfl rfl rfl rfl rfl rfl rfl rfl rfl rfl) rfl ?_)
  (refine nx (a_call (gN rfl) rfl rfl rfl rfl rfl (hW2 w)) rfl ?_)
  (refine nx (aL (gN rfl) rfl rfl rfl rfl rfl rfl rfl rfl rfl rfl rfl rfl) rfl ?_)
  (refine nx (a_bslice (gN rfl) rfl rfl rfl rfl rfl rfl rfl rfl rfl rfl rfl rfl rfl) rfl ?_)
  (refine nx (a_bslice (gN rfl) rfl rfl rfl rfl rfl rfl rfl rfl rfl rfl rfl rfl rfl) rfl ?_)
  (refine nx (a_call (gN rfl) rfl rfl rfl rfl rfl (hC w)) rfl ?_)
  (refine nx (aA (gN rfl) rfl rfl rfl rfl rfl) rfl ?_)
  refine ⟨by kernel_rfl, ?_⟩
  show AWp _ _ _ _ _ _ _
  exact aT ⟨.inr rfl, _, Wk.refl _, rfl, rfl, trivial⟩
noncomputable def folC (ld : Tm → Tm → Bool) (c d : List Lt) (m : Mt) : Option (List Lt) :=
  if (mgT m.fr.a m.pt).2 = true ∧ ld (repT (mgS m.fr.a m.pt) m.fr.a) (repT (mgS m.fr.a m.pt) m.fr.b) = true ∧ ld (repT (mgS m.fr.a m.pt) m.ti.a) (repT (mgS m.fr.a m.pt) m.ti.b) = true then some ((joinM m c d).map (Lt.rep (mgS m.fr.a m.pt))) else none
noncomputable def folL (ld : Tm → Tm → Bool) (c d : List Lt) (ms : List Mt) : List (List Lt) := ms.filterMap (folC ld c d)
theorem folL_take {ld : Tm → Tm → Bool} {c d : List Lt} {ms : List Mt} {k : Nat} {m : Mt} (h : ms[k]? = some m) : folL ld c d (ms.take (k + 1)) = folL ld c d (ms.take k) ++ (folC ld c d m).toList := by
  unfold folL
  rw [List.take_add_one, h, List.filterMap_append]
  congr 1
structure FolOk (fd : Nat) (ld : Tm → Tm → Bool) (c d : List Lt) (m : Mt) : Prop where
  un : ∀ w, AFun Tryz.prog w 65 [m.fr.a.cw, m.pt.cw] (.tup [.lst ((mgT m.fr.a m.pt).1.map Bd.cv), .b (mgT m.fr.a m.pt).2])
  ap : ∀ w t, t = m.fr.a ∨ t = m.fr.b ∨ t = m.ti.a ∨ t = m.ti.b → AFun Tryz.prog w 66 [.lst ((mgT m.fr.a m.pt).1.map Bd.cv), t.cw] (.val (repT (mgS m.fr.a m.pt) t).cw)
  ld1 : ∀ w, AFun Tryz.prog w fd [(repT (mgS m.fr.a m.pt) m.fr.a).cw, (repT (mgS m.fr.a m.pt) m.fr.b).cw] (.val (.b (ld (repT (mgS m.fr.a m.pt) m.fr.a) (repT (mgS m.fr.a m.pt) m.fr.b))))
  ld2 : ∀ w, AFun Tryz.prog w fd [(repT (mgS m.fr.a m.pt) m.ti.a).cw, (repT (mgS m.fr.a m.pt) m.ti.b).cw] (.val (.b (ld (repT (mgS m.fr.a m.pt) m.ti.a) (repT (mgS m.fr.a m.pt) m.ti.b))))
  ca : ∀ w, AFun Tryz.prog w 67 [.lst ((mgT m.fr.a m.pt).1.map Bd.cv), .lst ((joinM m c d).map Lt.cv)] (.val (.lst (((joinM m c d).map (Lt.rep (mgS m.fr.a m.pt))).map Lt.cv)))
  i : 0 ≤ m.fr.n ∧ m.fr.n < c.length
  j : 0 ≤ m.ti.n ∧ m.ti.n < d.length
  fb : m.fr.b.rng ∧ m.fr.b.size ≤ 1000000
  ta : m.ti.a.rng ∧ m.ti.a.size ≤ 100000
  pl : m.pl.length ≤ 1000000
-- 
set_option maxHeartbeats 16000000 in
theorem suFollows_abs (W : World) (fl fd : Nat) (ld : Tm → Tm → Bool) (c d d' : List Lt) (L M : List Int) (tp : Int) (htp : -1 ≤ tp ∧ tp ≤ 4000000000000000000) (hcl : c.length ≤ 1000) (hdl : d'.length ≤ 1000) (hc : ∀ l ∈ c, l.rok) (hd : ∀ l ∈ d', l.rok)
    (hTop : ∀ w, AFun Tryz.prog w 63 [.lst (c.map Lt.cv)] (.val (.i tp))) (hRen : ∀ w, AFun Tryz.prog w 18 [.lst (d.map Lt.cv), .i (tp + 1)] (.val (.lst (d'.map Lt.cv))))
    (hlc : ∀ w, AFun Tryz.prog w fl [.lst (c.map Lt.cv)] (.val (.lst (L.map CV.i)))) (hlM : ∀ w, AFun Tryz.prog w fl [.lst (d'.map Lt.cv)] (.val (.lst (M.map CV.i))))
    (hL : ∀ n ∈ L, 0 ≤ n ∧ n < c.length) (hM : ∀ n ∈ M, 0 ≤ n ∧ n < d'.length) (hLl : L.length ≤ 1000000) (hMl : M.length ≤ 1000000)
    (hlw : ∀ w, ∀ l, l ∈ c ∨ l ∈ d' → AFun Tryz.prog w fd [l.a.cw, l.b.cw] (.val (.b (ld l.a l.b))) ∧ AFun Tryz.prog w fd [l.b.cw, l.a.cw] (.val (.b (ld l.b l.a)))) (hsz : ∀ w ∈ wysL ld d' M, w.a.size ≤ 1000000) (hsn : ∀ w ∈ wysL ld c L, 0 ≤ w.n ∧ w.n < c.length)
    (hml : (mtsL (negAt c) (wysL ld c L) (wysL ld d' M)).length ≤ 1000000) (hfo : ∀ m ∈ mtsL (negAt c) (wysL ld c L) (wysL ld d' M), FolOk fd ld c d' m) :
    AFun Tryz.prog W 39 [ruC fl fd, .lst (c.map Lt.cv), .lst (d.map Lt.cv)] (.val (.lst ((folL ld c d' (mtsL (negAt c) (wysL ld c L) (wysL ld d' M))).map clC))) := by
  have hsw : EntF Tryz.prog 118 := ent_of Tryz.func118 rfl rfl
  have hsm : EntF Tryz.prog 90 := ent_of Tryz.func90 rfl rfl
  have hh := fun Ls => suMeet_hands c 118 118 _ _ (wysL ld c L) (wysL ld d' M) hsw hsw hsn hsz (suWays_hands fl fd ld c (by omega) L hL hLl (fun w l hl => hlw w l (.inl hl))) (suWays_hands fl fd ld d' (by omega) M hM hMl (fun w l hl => hlw w l (.inr hl))) Ls
  obtain ⟨ms, hms⟩ : ∃ ms, ms = mtsL (negAt c) (wysL ld c L) (wysL ld d' M) := ⟨_, rfl⟩
  rw [← hms] at hh hml hfo ⊢
  refine afunM_of Tryz.func39 Tryz.ntmps39 rfl rfl rfl rfl ?_
  intro w U hW
  have hme := fun w => suMeet_abs w fl fd c d' L M hlc hlM
  obtain ⟨caps, hcaps⟩ : ∃ caps, caps = [CV.ptr (.fn 118 0 [.ptr (.lst (L.map CV.i)), .ptr (.lst (c.map Lt.cv)), .ptr (ruC fl fd)]), .ptr (.lst (c.map Lt.cv)), .ptr (.fn 118 0 [.ptr (.lst (M.map CV.i)), .ptr (.lst (d'.map Lt.cv)), .ptr (ruC fl fd)])] := ⟨_, rfl⟩
  rw [← hcaps] at hme hh
  refine awpM_pre (aR ?_)
  (refine nx (a_box (gN rfl) rfl rfl rfl rfl rfl) rfl ?_)
  (refine nx (a_box (gN rfl) rfl rfl rfl rfl rfl) rfl ?_)
  (refine nx (a_box (gN rfl) rfl rfl rfl rfl rfl) rfl ?_)
  (refine nx (aA (gN rfl) rfl rfl rfl rfl rfl) rfl ?_)
  refine ⟨rfl, ?_⟩
  refine awpM_pre (aD (by kernel_rfl) (by kernel_rfl) ?_)
  (refine nx (aL (gN rfl) rfl rfl rfl rfl rfl rfl rfl rfl rfl rfl rfl rfl) rfl ?_)
  (refine nx (aL (gN rfl) rfl rfl rfl rfl rfl rfl rfl rfl rfl rfl rfl rfl) rfl ?_)
  (refine nx (a_call (gN rfl) rfl rfl rfl rfl rfl (hTop w)) rfl ?_)
  (refine nx (a_add (gN rfl) rfl rfl rfl rfl rfl rfl (by first | omega | (simp only [List.length_map, List.length_append, List.length_cons, List.length_nil] <;> omega) | (simp <;> omega))) rfl ?_)
  (refine nx (a_call (gN rfl) rfl rfl rfl rfl rfl (hRen w)) rfl ?_)
  (refine nx (aSt (gN rfl) rfl rfl rfl rfl rfl rfl rfl rfl rfl rfl) rfl ?_)
  refine ⟨by kernel_rfl, ?_⟩
  refine ⟨rfl, ?_⟩
  refine awpM_pre (aR ?_)
  (refine nx (a_alloc1N 350001 (gN rfl) rfl rfl rfl rfl rfl (by first | exact .inl ⟨rfl, rfl⟩ | exact .inr ⟨rfl, rfl⟩) rfl rfl rfl (fun v h => by first | (rw [hW.1] at h; cases h) | (have h2 := hU _ v h; cases h2))) rfl ?_)
  refine ⟨rfl, ?_⟩
  refine awpM_wk ((wk_freeze 3 rfl rfl rfl (s' := [(4, .bp 4 0 []), (100004, .bx (.lst (c.map Lt.cv))), (5, .bp 5 0 []), (100005, .bx (.lst (d'.map Lt.cv))), (7, .bp 350001 0 []), (450001, .obj), (35500100, ⟨0, .lst [], 1, 0, []⟩)]) ⟨rfl, rfl, rfl, rfl, rfl, rfl, rfl, trivial⟩ rfl rfl rfl).trans ((wk_freeze 4 rfl rfl rfl (s' := [(3, .val (.ptr (ruC fl fd))), (5, .bp 5 0 []), (100005, .bx (.lst (d'.map Lt.cv))), (7, .bp 350001 0 []), (450001, .obj), (35500100, ⟨0, .lst [], 1, 0, []⟩)]) ⟨rfl, rfl, rfl, rfl, rfl, rfl, trivial⟩ rfl rfl rfl).trans ((wk_freeze 5 rfl rfl rfl (s' := [(3, .val (.ptr (ruC fl fd))), (4, .val (.ptr (.lst (c.map Lt.cv)))), (7, .bp 350001 0 []), (450001, .obj), (35500100, ⟨0, .lst [], 1, 0, []⟩)]) ⟨rfl, rfl, rfl, rfl, rfl, trivial⟩ rfl rfl rfl).trans (wk_nilF 35500100 300005 26 1 rfl rfl rfl rfl rfl rfl)))) ?_
  refine awpM_post (awpM_pre (aR ?_))
  (refine nx (a_load_ptr (gN rfl) rfl rfl rfl rfl rfl rfl rfl rfl rfl) rfl ?_)
  (refine nx (a_load_ptr (gN rfl) rfl rfl rfl rfl rfl rfl rfl rfl rfl) rfl ?_)
  (refine nx (a_load_ptr (gN rfl) rfl rfl rfl rfl rfl rfl rfl rfl rfl) rfl ?_)
  (refine nx (a_call (gN rfl) rfl rfl rfl rfl rfl (hme w)) rfl ?_)
  refine ⟨rfl, ?_⟩
  refine awpM_block ?_
  refine awpM_wk (wk_sub (s' := (21, AV.val (.fn 90 0 caps)) :: (3, .val (.ptr (ruC fl fd))) :: (4, .val (.ptr (.lst (c.map Lt.cv)))) :: (5, .val (.ptr (.lst (d'.map Lt.cv)))) :: (7, .bp 350001 0 []) :: obE []) ⟨rfl, rfl, rfl, rfl, rfl, rfl, rfl, rfl, trivial⟩) ?_
  refine awpM_mono (awpM_rangeY (ps := [22]) (fun k => obE (folL ld c d' (ms.take k))) [(3, .val (.ptr (ruC fl fd))), (4, .val (.ptr (.lst (c.map Lt.cv)))), (5, .val (.ptr (.lst (d'.map Lt.cv)))), (7, .bp 350001 0 [])] (fun X v => [(71, .hdl v X)]) rfl hsm (hh fun k => folL ld c d' (ms.take k)) rfl (fun _ _ _ => rfl) ⟨rfl, rfl, rfl, rfl, trivial⟩ rfl ⟨.inl ⟨_, rfl⟩, .inl ⟨_, rfl⟩, .inl ⟨_, rfl⟩, .inr rfl, trivial⟩ ⟨rfl, rfl, rfl, trivial⟩ ⟨by kernel_rfl, by kernel_rfl, fun k => rfl, rfl, rfl, rfl⟩ (fun k X hX x => by
      simp only [List.mem_cons, List.not_mem_nil, or_false] at hX
      rcases hX with rfl | rfl <;> rfl) (fun X hX => .inr ⟨71, fun _ => rfl, by decide, by decide, by
      simp only [List.mem_cons, List.not_mem_nil, or_false] at hX
      unfold RN; omega⟩) (by kernel_rfl) ?_) ?_
  · intro k m hm X hX v w U hU hon1
    have hF := hfo m (List.mem_of_getElem? hm)
    have hkm : k < ms.length := by
      rcases Nat.lt_or_ge k ms.length with h | h
      · exact h
      · rw [List.getElem?_eq_none h] at hm; cases hm
    obtain ⟨L0, hL0⟩ : ∃ L0, L0 = folL ld c d' (ms.take k) := ⟨_, rfl⟩
    have hL0l : L0.length ≤ 1000000 := by
      have h1 := List.length_filterMap_le (folC ld c d') (ms.take k)
      rw [List.length_take] at h1
      rw [hL0]
      show (folL ld c d' (ms.take k)).length ≤ _
      unfold folL
      omega
    have hszc := clC_size L0
    have hL0m : (L0.map clC).length = L0.length := List.length_map ..
    rw [folL_take hm, ← hL0]
    obtain ⟨ok, hok⟩ : ∃ ok, ok = (mgT m.fr.a m.pt).2 := ⟨_, rfl⟩
    obtain ⟨g1, hg1⟩ : ∃ g, g = ld (repT (mgS m.fr.a m.pt) m.fr.a) (repT (mgS m.fr.a m.pt) m.fr.b) := ⟨_, rfl⟩
    obtain ⟨g2, hg2⟩ : ∃ g, g = ld (repT (mgS m.fr.a m.pt) m.ti.a) (repT (mgS m.fr.a m.pt) m.ti.b) := ⟨_, rfl⟩
    have hfc : folC ld c d' m = if ok = true ∧ g1 = true ∧ g2 = true then some ((joinM m c d').map (Lt.rep (mgS m.fr.a m.pt))) else none := by unfold folC; rw [hok, hg1, hg2]
    have hno : (ok = false ∨ g1 = false ∨ g2 = false) → folC ld c d' m = none := fun h => by
      rw [hfc, if_neg]
      rintro ⟨h1, h2, h3⟩
      rcases h with h | h | h
      · rw [h1] at h; cases h
      · rw [h2] at h; cases h
      · rw [h3] at h; cases h
    have hyes : ok = true → g1 = true → g2 = true → folC ld c d' m = some ((joinM m c d').map (Lt.rep (mgS m.fr.a m.pt))) := fun h1 h2 h3 => by rw [hfc, if_pos ⟨h1, h2, h3⟩]
    have hv1 : ∀ w, AFunV Tryz.prog w (.fn fd 0 []) [(repT (mgS m.fr.a m.pt) m.fr.a).cw, (repT (mgS m.fr.a m.pt) m.fr.b).cw] (.val (.b g1)) := fun w => ⟨fd, 0, [], rfl, by rw [hg1]; exact hF.ld1 w⟩
    have hv2 : ∀ w, AFunV Tryz.prog w (.fn fd 0 []) [(repT (mgS m.fr.a m.pt) m.ti.a).cw, (repT (mgS m.fr.a m.pt) m.ti.b).cw] (.val (.b g2)) := fun w => ⟨fd, 0, [], rfl, by rw [hg2]; exact hF.ld2 w⟩
    simp only [List.mem_cons, List.not_mem_nil, or_false] at hX
    rcases hX with rfl | rfl
    · have hJn := suJoin400002_abs c d' m hcl hdl hc hd hF.i hF.j hF.fb hF.ta hF.pl
      show AWp _ _ _ _ _ _ ((22, AV.val (.row [.row [.i m.fr.n, m.fr.a.cw, m.fr.b.cw], .row [.i m.ti.n, m.ti.a.cw, m.ti.b.cw], .sc (cutV v m.pl.length), m.pt.cw])) :: (71, .hdl v 400002) :: (3, .val (.ptr (ruC fl fd))) :: (4, .val (.ptr (.lst (c.map Lt.cv)))) :: (5, .val (.ptr (.lst (d'.map Lt.cv)))) :: (7, .bp 350001 0 []) :: obX L0 400002 m.pl)
      refine aR ?_
      (refine nx (a_allocT mtZ4 (gN rfl) rfl rfl rfl rfl rfl rfl rfl) (by kernel_rfl) ?_)
      (refine nx (aSt (gN rfl) rfl rfl rfl rfl rfl rfl rfl rfl rfl rfl) rfl ?_)
      refine ⟨rfl, fun w1 hon2 => awpN_of ?_⟩
      refine AWp.wk (wk_sub (s' := (8, AV.bp 8 0 []) :: (100008, .bx (.row [.row [.i m.fr.n, m.fr.a.cw, m.fr.b.cw], .row [.i m.ti.n, m.ti.a.cw, m.ti.b.cw], .sc (cutV v m.pl.length), m.pt.cw])) :: (3, .val (.ptr (ruC fl fd))) :: (4, .val (.ptr (.lst (c.map Lt.cv)))) :: (5, .val (.ptr (.lst (d'.map Lt.cv)))) :: (7, .bp 350001 0 []) :: (71, .hdl v 400002) :: obX L0 400002 m.pl) ⟨rfl, rfl, rfl, rfl, rfl, rfl, rfl, rfl, rfl, rfl, rfl, trivial⟩) ?_
      refine aB (aS (aR ?_))
      (refine nx (aF (gN rfl) rfl rfl rfl rfl rfl rfl rfl rfl rfl) rfl ?_)
      (refine nx (aF (gN rfl) rfl rfl rfl rfl rfl rfl rfl rfl rfl) rfl ?_)
      (refine nx (aLb (gN rfl) rfl rfl rfl rfl rfl rfl rfl rfl rfl rfl rfl rfl) rfl ?_)
      (refine nx (aF (gN rfl) rfl rfl rfl rfl rfl rfl rfl rfl rfl) rfl ?_)
      (refine nx (aLb (gN rfl) rfl rfl rfl rfl rfl rfl rfl rfl rfl rfl rfl rfl) rfl ?_)
      (refine nx (a_call (gN rfl) rfl rfl rfl rfl rfl (hF.un w1)) rfl ?_)
      (refine nx (aM (gN rfl) rfl rfl rfl rfl rfl) rfl ?_)
      (refine nx (aX (gN rfl) rfl rfl rfl rfl rfl rfl) rfl ?_)
      (refine nx (aX (gN rfl) rfl rfl rfl rfl rfl rfl) rfl ?_)
      (refine nx (aA (gN rfl) rfl rfl rfl rfl rfl) rfl ?_)
      (refine nx (aA (gN rfl) rfl rfl rfl rfl rfl) rfl ?_)
      show AWp _ _ _ _ _ _ _
      refine AWp.wk (wk_sub (s' := (9, AV.val (.lst ((mgT m.fr.a m.pt).1.map Bd.cv))) :: (10, .val (.b ok)) :: (8, AV.bp 8 0 []) :: (100008, .bx (.row [.row [.i m.fr.n, m.fr.a.cw, m.fr.b.cw], .row [.i m.ti.n, m.ti.a.cw, m.ti.b.cw], .sc (cutV v m.pl.length), m.pt.cw])) :: (3, .val (.ptr (ruC fl fd))) :: (4, .val (.ptr (.lst (c.map Lt.cv)))) :: (5, .val (.ptr (.lst (d'.map Lt.cv)))) :: (7, .bp 350001 0 []) :: (71, .hdl v 400002) :: obX L0 400002 m.pl) ⟨rfl, by rw [hok]; rfl, rfl, rfl, rfl, rfl, rfl, rfl, rfl, rfl, rfl, rfl, rfl, trivial⟩) ?_
      cases ok with
      | false =>
        rw [hno (.inl rfl)]
        refine aS (aS (aR ?_))
        (refine nx (aM (gN rfl) rfl rfl rfl rfl rfl) rfl ?_)
        (refine nx (a_not (gN rfl) rfl rfl rfl rfl rfl) rfl ?_)
        show AWp _ _ _ _ _ _ _
        refine aC rfl (fun _ => ?_) (fun h => by cases h)
        refine aE ?_
        refine ⟨rfl, wk_sub ⟨rfl, ?_, ?_, rfl, trivial⟩⟩
        · show some (AV.sl _ _ _ _) = some (AV.sl _ _ _ _); simp
        · show some (AV.mrow _ _ _) = some (AV.mrow _ _ _); simp
      | true =>
        refine aS (aS (aR ?_))
        (refine nx (aM (gN rfl) rfl rfl rfl rfl rfl) rfl ?_)
        (refine nx (a_not (gN rfl) rfl rfl rfl rfl rfl) rfl ?_)
        show AWp _ _ _ _ _ _ _
        refine aC rfl (fun h => by cases h) (fun _ => aK ?_)
        show AWp _ _ _ _ _ _ _
        refine aS (aD (by kernel_rfl) (by kernel_rfl) ?_)
        (refine nx (aF (gN rfl) rfl rfl rfl rfl rfl rfl rfl rfl rfl) rfl ?_)
        (refine nx (aLb (gN rfl) rfl rfl rfl rfl rfl rfl rfl rfl rfl rfl rfl rfl) rfl ?_)
        (refine nx (aF (gN rfl) rfl rfl rfl rfl rfl rfl rfl rfl rfl) rfl ?_)
        (refine nx (aLb (gN rfl) rfl rfl rfl rfl rfl rfl rfl rfl rfl rfl rfl rfl) rfl ?_)
        (refine nx (a_allocT [.i 0, .row [.i 0, .lst []], .row [.i 0, .lst []]] (gN rfl) rfl rfl rfl rfl rfl rfl rfl) (by kernel_rfl) ?_)
        (refine nx (a_allocT [.i 0, .row [.i 0, .lst []], .row [.i 0, .lst []]] (gN rfl) rfl rfl rfl rfl rfl rfl rfl) (by kernel_rfl) ?_)
        (refine nx (aSt (gN rfl) rfl rfl rfl rfl rfl rfl rfl rfl rfl rfl) rfl ?_)
        (refine nx (aSt (gN rfl) rfl rfl rfl rfl rfl rfl rfl rfl rfl rfl) rfl ?_)
        refine ⟨by kernel_rfl, ?_⟩
        show AWp _ _ _ _ _ _ _
        refine AWp.wk ((wk_sub (s' := (9, AV.val (.lst ((mgT m.fr.a m.pt).1.map Bd.cv))) :: (11, .bp 11 0 []) :: (100011, .bx (.row [.i m.fr.n, m.fr.a.cw, m.fr.b.cw])) :: (12, .bp 12 0 []) :: (100012, .bx (.row [.i m.ti.n, m.ti.a.cw, m.ti.b.cw])) :: (8, AV.bp 8 0 []) :: (100008, .bx (.row [.row [.i m.fr.n, m.fr.a.cw, m.fr.b.cw], .row [.i m.ti.n, m.ti.a.cw, m.ti.b.cw], .sc (cutV v m.pl.length), m.pt.cw])) :: (3, .val (.ptr (ruC fl fd))) :: (4, .val (.ptr (.lst (c.map Lt.cv)))) :: (5, .val (.ptr (.lst (d'.map Lt.cv)))) :: (7, .bp 350001 0 []) :: (71, .hdl v 400002) :: obX L0 400002 m.pl) ⟨rfl, rfl, rfl, rfl, rfl, rfl, rfl, rfl, rfl, rfl, rfl, rfl, rfl, rfl, rfl, rfl, trivial⟩).trans (wk_ptrad 3 rfl rfl)) ?_
        cases g1 with
        | false =>
          rw [hno (.inr (.inl rfl))]
          refine aS (aD (by kernel_rfl) (by kernel_rfl) ?_)
          (refine nx (a_field_ad (gN rfl) rfl rfl rfl rfl rfl rfl rfl rfl rfl rfl rfl) rfl ?_)
          (refine nx (a_load_ad (gN rfl) rfl rfl rfl rfl rfl rfl rfl rfl rfl) rfl ?_)
          (refine nx (aM (gN rfl) rfl rfl rfl rfl rfl) rfl ?_)
          (refine nx (aF (gN rfl) rfl rfl rfl rfl rfl rfl rfl rfl rfl) rfl ?_)
          (refine nx (aLb (gN rfl) rfl rfl rfl rfl rfl rfl rfl rfl rfl rfl rfl rfl) rfl ?_)
          (refine nx (a_call (gN rfl) rfl rfl rfl rfl rfl (hF.ap w1 _ (.inl rfl))) rfl ?_)
          (refine nx (aM (gN rfl) rfl rfl rfl rfl rfl) rfl ?_)
          (refine nx (aF (gN rfl) rfl rfl rfl rfl rfl rfl rfl rfl rfl) rfl ?_)
          (refine nx (aLb (gN rfl) rfl rfl rfl rfl rfl rfl rfl rfl rfl rfl rfl rfl) rfl ?_)
          (refine nx (a_call (gN rfl) rfl rfl rfl rfl rfl (hF.ap w1 _ (.inr (.inl rfl)))) rfl ?_)
          (refine nx (a_callv (gN rfl) rfl rfl rfl rfl rfl rfl (hv1 w1)) rfl ?_)
          (refine nx (aM (gN rfl) rfl rfl rfl rfl rfl) rfl ?_)
          (refine ⟨_, _, _, a_off (go_off rfl rfl rfl rfl (by first | rfl | assumption | (simp; done) | (simp [*]; done))) rfl rfl rfl, rfl, ?_⟩)
          (refine ⟨_, _, _, a_off (go_off rfl rfl rfl rfl (by first | rfl | assumption | (simp; done) | (simp [*]; done))) rfl rfl rfl, rfl, ?_⟩)
          (refine ⟨_, _, _, a_off (go_off rfl rfl rfl rfl (by first | rfl | assumption | (simp; done) | (simp [*]; done))) rfl rfl rfl, rfl, ?_⟩)
          (refine ⟨_, _, _, a_off (go_off rfl rfl rfl rfl (by first | rfl | assumption | (simp; done) | (simp [*]; done))) rfl rfl rfl, rfl, ?_⟩)
          (refine ⟨_, _, _, a_off (go_off rfl rfl rfl rfl (by first | rfl | assumption | (simp; done) | (simp [*]; done))) rfl rfl rfl, rfl, ?_⟩)
          (refine ⟨_, _, _, a_off (go_off rfl rfl rfl rfl (by first | rfl | assumption | (simp; done) | (simp [*]; done))) rfl rfl rfl, rfl, ?_⟩)
          (refine ⟨_, _, _, a_off (go_off rfl rfl rfl rfl (by first | rfl | assumption | (simp; done) | (simp [*]; done))) rfl rfl rfl, rfl, ?_⟩)
          (refine ⟨_, _, _, a_off (go_off rfl rfl rfl rfl (by first | rfl | assumption | (simp; done) | (simp [*]; done))) rfl rfl rfl, rfl, ?_⟩)
          (refine ⟨_, _, _, a_off (go_off rfl rfl rfl rfl (by first | rfl | assumption | (simp; done) | (simp [*]; done))) rfl rfl rfl, rfl, ?_⟩)
          (refine ⟨_, _, _, a_off (go_off rfl rfl rfl rfl (by first | rfl | assumption | (simp; done) | (simp [*]; done))) rfl rfl rfl, rfl, ?_⟩)
          (refine ⟨_, _, _, a_off (go_off rfl rfl rfl rfl (by first | rfl | assumption | (simp; done) | (simp [*]; done))) rfl rfl rfl, rfl, ?_⟩)
          (refine ⟨_, _, _, aPf (gN rfl) rfl rfl rfl rfl rfl ?hb rfl, rfl, ?_⟩; case hb => (first | rfl | assumption | (simp; done)))
          refine ⟨by kernel_rfl, ?_⟩
          show AWp _ _ _ _ _ _ _
          refine aC rfl (fun h => by cases h) (fun _ => aK ?_)
          refine ⟨rfl, wk_sub ⟨rfl, ?_, ?_, rfl, trivial⟩⟩
          · show some (AV.sl _ _ _ _) = some (AV.sl _ _ _ _); simp
          · show some (AV.mrow _ _ _) = some (AV.mrow _ _ _); simp
        | true =>
          refine aS (aD (by kernel_rfl) (by kernel_rfl) ?_)
          (refine nx (a_field_ad (gN rfl) rfl rfl rfl rfl rfl rfl rfl rfl rfl rfl rfl) rfl ?_)
          (refine nx (a_load_ad (gN rfl) rfl rfl rfl rfl rfl rfl rfl rfl rfl) rfl ?_)
          (refine nx (aM (gN rfl) rfl rfl rfl rfl rfl) rfl ?_)
          (refine nx (aF (gN rfl) rfl rfl rfl rfl rfl rfl rfl rfl rfl) rfl ?_)
          (refine nx (aLb (gN rfl) rfl rfl rfl rfl rfl rfl rfl rfl rfl rfl rfl rfl) rfl ?_)
          (refine nx (a_call (gN rfl) rfl rfl rfl rfl rfl (hF.ap w1 _ (.inl rfl))) rfl ?_)
          (refine nx (aM (gN rfl) rfl rfl rfl rfl rfl) rfl ?_)
          (refine nx (aF (gN rfl) rfl rfl rfl rfl rfl rfl rfl rfl rfl) rfl ?_)
          (refine nx (aLb (gN rfl) rfl rfl rfl rfl rfl rfl rfl rfl rfl rfl rfl rfl) rfl ?_)
          (refine nx (a_call (gN rfl) rfl rfl rfl rfl rfl (hF.ap w1 _ (.inr (.inl rfl)))) rfl ?_)
          (refine nx (a_callv (gN rfl) rfl rfl rfl rfl rfl rfl (hv1 w1)) rfl ?_)
          (refine nx (aM (gN rfl) rfl rfl rfl rfl rfl) rfl ?_)
          (refine nx (a_field_ad (gd_on rfl rfl rfl rfl (by first | rfl | assumption | (simp; done))) rfl rfl rfl rfl rfl rfl rfl rfl rfl rfl rfl) rfl ?_)
          (refine nx (a_load_ad (gd_on rfl rfl rfl rfl (by first | rfl | assumption | (simp; done))) rfl rfl rfl rfl rfl rfl rfl rfl rfl) rfl ?_)
          (refine nx (aM (gd_on rfl rfl rfl rfl (by first | rfl | assumption | (simp; done))) rfl rfl rfl rfl rfl) rfl ?_)
          (refine nx (aF (gd_on rfl rfl rfl rfl (by first | rfl | assumption | (simp; done))) rfl rfl rfl rfl rfl rfl rfl rfl rfl) rfl ?_)
          (refine nx (aLb (gd_on rfl rfl rfl rfl (by first | rfl | assumption | (simp; done))) rfl rfl rfl rfl rfl rfl rfl rfl rfl rfl rfl rfl) rfl ?_)
          (refine nx (a_call (gd_on rfl rfl rfl rfl (by first | rfl | assumption | (simp; done))) rfl rfl rfl rfl rfl (hF.ap w1 _ (.inr (.inr (.inl rfl))))) rfl ?_)
          (refine nx (aM (gd_on rfl rfl rfl rfl (by first | rfl | assumption | (simp; done))) rfl rfl rfl rfl rfl) rfl ?_)
          (refine nx (aF (gd_on rfl rfl rfl rfl (by first | rfl | assumption | (simp; done))) rfl rfl rfl rfl rfl rfl rfl rfl rfl) rfl ?_)
          (refine nx (aLb (gd_on rfl rfl rfl rfl (by first | rfl | assumption | (simp; done))) rfl rfl rfl rfl rfl rfl rfl rfl rfl rfl rfl rfl) rfl ?_)
          (refine nx (a_call (gd_on rfl rfl rfl rfl (by first | rfl | assumption | (simp; done))) rfl rfl rfl rfl rfl (hF.ap w1 _ (.inr (.inr (.inr rfl))))) rfl ?_)
          (refine nx (a_callv (gd_on rfl rfl rfl rfl (by first | rfl | assumption | (simp; done))) rfl rfl rfl rfl rfl rfl (hv2 w1)) rfl ?_)
          (refine ⟨_, _, _, aPt (gN rfl) rfl rfl rfl rfl rfl ?hb rfl, rfl, ?_⟩; case hb => (first | rfl | assumption | (simp; done)))
          refine ⟨by kernel_rfl, ?_⟩
          show AWp _ _ _ _ _ _ _
          cases g2 with
          | false =>
            rw [hno (.inr (.inr rfl))]
            refine aC rfl (fun h => by cases h) (fun _ => aK ?_)
            refine ⟨rfl, wk_sub ⟨rfl, ?_, ?_, rfl, trivial⟩⟩
            · show some (AV.sl _ _ _ _) = some (AV.sl _ _ _ _); simp
            · show some (AV.mrow _ _ _) = some (AV.mrow _ _ _); simp
          | true =>
            rw [hyes rfl rfl rfl]
            have hca := hF.ca w1
            obtain ⟨z, hz⟩ : ∃ z, z = (joinM m c d').map (Lt.rep (mgS m.fr.a m.pt)) := ⟨_, rfl⟩
            rw [← hz] at hca ⊢
            refine aC rfl (fun _ => ?_) (fun h => by cases h)
            refine AWp.wk (wk_sub (s' := (9, AV.val (.lst ((mgT m.fr.a m.pt).1.map Bd.cv))) :: (8, AV.bp 8 0 []) :: (100008, .bx (.row [.row [.i m.fr.n, m.fr.a.cw, m.fr.b.cw], .row [.i m.ti.n, m.ti.a.cw, m.ti.b.cw], .sc (cutV v m.pl.length), m.pt.cw])) :: (4, .val (.ptr (.lst (c.map Lt.cv)))) :: (5, .val (.ptr (.lst (d'.map Lt.cv)))) :: (7, .bp 350001 0 []) :: (71, .hdl v 400002) :: obX L0 400002 m.pl) ⟨rfl, rfl, rfl, rfl, rfl, rfl, rfl, rfl, rfl, rfl, rfl, trivial⟩) ?_
            refine aD (by kernel_rfl) (by kernel_rfl) ?_
            (refine nx (aLf (gN rfl) rfl rfl rfl rfl rfl rfl rfl rfl rfl rfl rfl rfl rfl) rfl ?_)
            (refine nx (aM (gN rfl) rfl rfl rfl rfl rfl) rfl ?_)
            (refine nx (aL (gN rfl) rfl rfl rfl rfl rfl rfl rfl rfl rfl rfl rfl rfl) rfl ?_)
            (refine nx (a_load_ptr (gN rfl) rfl rfl rfl rfl rfl rfl rfl rfl rfl) rfl ?_)
            (refine nx (a_load_ptr (gN rfl) rfl rfl rfl rfl rfl rfl rfl rfl rfl) rfl ?_)
            (refine nx (a_callH 71 71 (gN rfl) rfl rfl rfl rfl (hJn) rfl rfl rfl rfl (by repeat (first | exact trivial | refine ⟨rfl, ?_⟩)) (by first | rfl | kernel_rfl) (by first | rfl | kernel_rfl) (by first | rfl | kernel_rfl) (by first | rfl | kernel_rfl) (hnb_of (by first | rfl | kernel_rfl))) rfl ?_)
            (refine nx (a_call (gN rfl) rfl rfl rfl rfl rfl (hca)) rfl ?_)
            (refine nx (a_bslice (gN rfl) rfl rfl rfl rfl rfl rfl rfl rfl rfl rfl rfl rfl rfl) rfl ?_)
            (refine nx (a_appM 300006 (gN rfl) rfl rfl rfl rfl rfl rfl rfl rfl rfl rfl rfl rfl rfl (by first | rfl | omega | (simp only [List.length_set, List.length_map, List.length_append, List.length_cons, List.length_nil] <;> omega) | (simp <;> omega)) (by first | assumption | exact sZ rfl | exact Tm.size_all _ | exact Bd.size_all _ | exact ints_size _ | exact bys_size _ | exact Lt.size_all _) (by first | omega | (simp only [List.length_map, List.length_append, List.length_cons, List.length_nil] <;> omega) | (simp <;> omega))) (by kernel_rfl) ?_)
            (refine nx (a_store_fld (gN rfl) rfl rfl rfl rfl rfl rfl rfl rfl rfl rfl rfl rfl) rfl ?_)
            refine ⟨by kernel_rfl, ?_⟩
            refine ⟨rfl, (wk_sub (s' := [(450001, .obj), (35500100, .sl 300006 0 (L0 ++ [z]).length 1), (300006, .mrow 26 1 ((L0 ++ [z]).map clC)), (400002, .mrow 3 1 (m.pl.map CV.i))]) ⟨rfl, ?_, ?_, rfl, trivial⟩).trans (wk_ren 300006 300005 rfl rfl (by kernel_rfl) (by kernel_rfl))⟩
            · show some (AV.sl _ _ _ _) = some (AV.sl _ _ _ _)
              rw [List.length_append, ← hL0m]; rfl
            · show some (AV.mrow _ _ _) = some (AV.mrow _ _ _)
              rw [List.map_append (f := clC)]; rfl
    · have hJn := suJoin400003_abs c d' m hcl hdl hc hd hF.i hF.j hF.fb hF.ta hF.pl
      show AWp _ _ _ _ _ _ ((22, AV.val (.row [.row [.i m.fr.n, m.fr.a.cw, m.fr.b.cw], .row [.i m.ti.n, m.ti.a.cw, m.ti.b.cw], .sc (cutV v m.pl.length), m.pt.cw])) :: (71, .hdl v 400003) :: (3, .val (.ptr (ruC fl fd))) :: (4, .val (.ptr (.lst (c.map Lt.cv)))) :: (5, .val (.ptr (.lst (d'.map Lt.cv)))) :: (7, .bp 350001 0 []) :: obX L0 400003 m.pl)
      refine aR ?_
      (refine nx (a_allocT mtZ4 (gN rfl) rfl rfl rfl rfl rfl rfl rfl) (by kernel_rfl) ?_)
      (refine nx (aSt (gN rfl) rfl rfl rfl rfl rfl rfl rfl rfl rfl rfl) rfl ?_)
      refine ⟨rfl, fun w1 hon2 => awpN_of ?_⟩
      refine AWp.wk (wk_sub (s' := (8, AV.bp 8 0 []) :: (100008, .bx (.row [.row [.i m.fr.n, m.fr.a.cw, m.fr.b.cw], .row [.i m.ti.n, m.ti.a.cw, m.ti.b.cw], .sc (cutV v m.pl.length), m.pt.cw])) :: (3, .val (.ptr (ruC fl fd))) :: (4, .val (.ptr (.lst (c.map Lt.cv)))) :: (5, .val (.ptr (.lst (d'.map Lt.cv)))) :: (7, .bp 350001 0 []) :: (71, .hdl v 400003) :: obX L0 400003 m.pl) ⟨rfl, rfl, rfl, rfl, rfl, rfl, rfl, rfl, rfl, rfl, rfl, trivial⟩) ?_
      refine aB (aS (aR ?_))
      (refine nx (aF (gN rfl) rfl rfl rfl rfl rfl rfl rfl rfl rfl) rfl ?_)
      (refine nx (aF (gN rfl) rfl rfl rfl rfl rfl rfl rfl rfl rfl) rfl ?_)
      (refine nx (aLb (gN rfl) rfl rfl rfl rfl rfl rfl rfl rfl rfl rfl rfl rfl) rfl ?_)
      (refine nx (aF (gN rfl) rfl rfl rfl rfl rfl rfl rfl rfl rfl) rfl ?_)
      (refine nx (aLb (gN rfl) rfl rfl rfl rfl rfl rfl rfl rfl rfl rfl rfl rfl) rfl ?_)
      (refine nx (a_call (gN rfl) rfl rfl rfl rfl rfl (hF.un w1)) rfl ?_)
      (refine nx (aM (gN rfl) rfl rfl rfl rfl rfl) rfl ?_)
      (refine nx (aX (gN rfl) rfl rfl rfl rfl rfl rfl) rfl ?_)
      (refine nx (aX (gN rfl) rfl rfl rfl rfl rfl rfl) rfl ?_)
      (refine nx (aA (gN rfl) rfl rfl rfl rfl rfl) rfl ?_)
      (refine nx (aA (gN rfl) rfl rfl rfl rfl rfl) rfl ?_)
      show AWp _ _ _ _ _ _ _
      refine AWp.wk (wk_sub (s' := (9, AV.val (.lst ((mgT m.fr.a m.pt).1.map Bd.cv))) :: (10, .val (.b ok)) :: (8, AV.bp 8 0 []) :: (100008, .bx (.row [.row [.i m.fr.n, m.fr.a.cw, m.fr.b.cw], .row [.i m.ti.n, m.ti.a.cw, m.ti.b.cw], .sc (cutV v m.pl.length), m.pt.cw])) :: (3, .val (.ptr (ruC fl fd))) :: (4, .val (.ptr (.lst (c.map Lt.cv)))) :: (5, .val (.ptr (.lst (d'.map Lt.cv)))) :: (7, .bp 350001 0 []) :: (71, .hdl v 400003) :: obX L0 400003 m.pl) ⟨rfl, by rw [hok]; rfl, rfl, rfl, rfl, rfl, rfl, rfl, rfl, rfl, rfl, rfl, rfl, trivial⟩) ?_
      cases ok with
      | false =>
        rw [hno (.inl rfl)]
        refine aS (aS (aR ?_))
        (refine nx (aM (gN rfl) rfl rfl rfl rfl rfl) rfl ?_)
        (refine nx (a_not (gN rfl) rfl rfl rfl rfl rfl) rfl ?_)
        show AWp _ _ _ _ _ _ _
        refine aC rfl (fun _ => ?_) (fun h => by cases h)
        refine aE ?_
        refine ⟨rfl, wk_sub ⟨rfl, ?_, ?_, rfl, trivial⟩⟩
        · show some (AV.sl _ _ _ _) = some (AV.sl _ _ _ _); simp
        · show some (AV.mrow _ _ _) = some (AV.mrow _ _ _); simp
      | true =>
        refine aS (aS (aR ?_))
        (refine nx (aM (gN rfl) rfl rfl rfl rfl rfl) rfl ?_)
        (refine nx (a_not (gN rfl) rfl rfl rfl rfl rfl) rfl ?_)
        show AWp _ _ _ _ _ _ _
        refine aC rfl (fun h => by cases h) (fun _ => aK ?_)
        show AWp _ _ _ _ _ _ _
        refine aS (aD (by kernel_rfl) (by kernel_rfl) ?_)
        (refine nx (aF (gN rfl) rfl rfl rfl rfl rfl rfl rfl rfl rfl) rfl ?_)
        (refine nx (aLb (gN rfl) rfl rfl rfl rfl rfl rfl rfl rfl rfl rfl rfl rfl) rfl ?_)
        (refine nx (aF (gN rfl) rfl rfl rfl rfl rfl rfl rfl rfl rfl) rfl ?_)
        (refine nx (aLb (gN rfl) rfl rfl rfl rfl rfl rfl rfl rfl rfl rfl rfl rfl) rfl ?_)
        (refine nx (a_allocT [.i 0, .row [.i 0, .lst []], .row [.i 0, .lst []]] (gN rfl) rfl rfl rfl rfl rfl rfl rfl) (by kernel_rfl) ?_)
        (refine nx (a_allocT [.i 0, .row [.i 0, .lst []], .row [.i 0, .lst []]] (gN rfl) rfl rfl rfl rfl rfl rfl rfl) (by kernel_rfl) ?_)
        (refine nx (aSt (gN rfl) rfl rfl rfl rfl rfl rfl rfl rfl rfl rfl) rfl ?_)
        (refine nx (aSt (gN rfl) rfl rfl rfl rfl rfl rfl rfl rfl rfl rfl) rfl ?_)
        refine ⟨by kernel_rfl, ?_⟩
        show AWp _ _ _ _ _ _ _
        refine AWp.wk ((wk_sub (s' := (9, AV.val (.lst ((mgT m.fr.a m.pt).1.map Bd.cv))) :: (11, .bp 11 0 []) :: (100011, .bx (.row [.i m.fr.n, m.fr.a.cw, m.fr.b.cw])) :: (12, .bp 12 0 []) :: (100012, .bx (.row [.i m.ti.n, m.ti.a.cw, m.ti.b.cw])) :: (8, AV.bp 8 0 []) :: (100008, .bx (.row [.row [.i m.fr.n, m.fr.a.cw, m.fr.b.cw], .row [.i m.ti.n, m.ti.a.cw, m.ti.b.cw], .sc (cutV v m.pl.length), m.pt.cw])) :: (3, .val (.ptr (ruC fl fd))) :: (4, .val (.ptr (.lst (c.map Lt.cv)))) :: (5, .val (.ptr (.lst (d'.map Lt.cv)))) :: (7, .bp 350001 0 []) :: (71, .hdl v 400003) :: obX L0 400003 m.pl) ⟨rfl, rfl, rfl, rfl, rfl, rfl, rfl, rfl, rfl, rfl, rfl, rfl, rfl, rfl, rfl, rfl, trivial⟩).trans (wk_ptrad 3 rfl rfl)) ?_
        cases g1 with
        | false =>
          rw [hno (.inr (.inl rfl))]
          refine aS (aD (by kernel_rfl) (by kernel_rfl) ?_)
          (refine nx (a_field_ad (gN rfl) rfl rfl rfl rfl rfl rfl rfl rfl rfl rfl rfl) rfl ?_)
          (refine nx (a_load_ad (gN rfl) rfl rfl rfl rfl rfl rfl rfl rfl rfl) rfl ?_)
          (refine nx (aM (gN rfl) rfl rfl rfl rfl rfl) rfl ?_)
          (refine nx (aF (gN rfl) rfl rfl rfl rfl rfl rfl rfl rfl rfl) rfl ?_)
          (refine nx (aLb (gN rfl) rfl rfl rfl rfl rfl rfl rfl rfl rfl rfl rfl rfl) rfl ?_)
          (refine nx (a_call (gN rfl) rfl rfl rfl rfl rfl (hF.ap w1 _ (.inl rfl))) rfl ?_)
          (refine nx (aM (gN rfl) rfl rfl rfl rfl rfl) rfl ?_)
          (refine nx (aF (gN rfl) rfl rfl rfl rfl rfl rfl rfl rfl rfl) rfl ?_)
          (refine nx (aLb (gN rfl) rfl rfl rfl rfl rfl rfl rfl rfl rfl rfl rfl rfl) rfl ?_)
          (refine nx (a_call (gN rfl) rfl rfl rfl rfl rfl (hF.ap w1 _ (.inr (.inl rfl)))) rfl ?_)
          (refine nx (a_callv (gN rfl) rfl rfl rfl rfl rfl rfl (hv1 w1)) rfl ?_)
          (refine nx (aM (gN rfl) rfl rfl rfl rfl rfl) rfl ?_)
          (refine ⟨_, _, _, a_off (go_off rfl rfl rfl rfl (by first | rfl | assumption | (simp; done) | (simp [*]; done))) rfl rfl rfl, rfl, ?_⟩)
          (refine ⟨_, _, _, a_off (go_off rfl rfl rfl rfl (by first | rfl | assumption | (simp; done) | (simp [*]; done))) rfl rfl rfl, rfl, ?_⟩)
          (refine ⟨_, _, _, a_off (go_off rfl rfl rfl rfl (by first | rfl | assumption | (simp; done) | (simp [*]; done))) rfl rfl rfl, rfl, ?_⟩)
          (refine ⟨_, _, _, a_off (go_off rfl rfl rfl rfl (by first | rfl | assumption | (simp; done) | (simp [*]; done))) rfl rfl rfl, rfl, ?_⟩)
          (refine ⟨_, _, _, a_off (go_off rfl rfl rfl rfl (by first | rfl | assumption | (simp; done) | (simp [*]; done))) rfl rfl rfl, rfl, ?_⟩)
          (refine ⟨_, _, _, a_off (go_off rfl rfl rfl rfl (by first | rfl | assumption | (simp; done) | (simp [*]; done))) rfl rfl rfl, rfl, ?_⟩)
          (refine ⟨_, _, _, a_off (go_off rfl rfl rfl rfl (by first | rfl | assumption | (simp; done) | (simp [*]; done))) rfl rfl rfl, rfl, ?_⟩)
          (refine ⟨_, _, _, a_off (go_off rfl rfl rfl rfl (by first | rfl | assumption | (simp; done) | (simp [*]; done))) rfl rfl rfl, rfl, ?_⟩)
          (refine ⟨_, _, _, a_off (go_off rfl rfl rfl rfl (by first | rfl | assumption | (simp; done) | (simp [*]; done))) rfl rfl rfl, rfl, ?_⟩)
          (refine ⟨_, _, _, a_off (go_off rfl rfl rfl rfl (by first | rfl | assumption | (simp; done) | (simp [*]; done))) rfl rfl rfl, rfl, ?_⟩)
          (refine ⟨_, _, _, a_off (go_off rfl rfl rfl rfl (by first | rfl | assumption | (simp; done) | (simp [*]; done))) rfl rfl rfl, rfl, ?_⟩)
          (refine ⟨_, _, _, aPf (gN rfl) rfl rfl rfl rfl rfl ?hb rfl, rfl, ?_⟩; case hb => (first | rfl | assumption | (simp; done)))
          refine ⟨by kernel_rfl, ?_⟩
          show AWp _ _ _ _ _ _ _
          refine aC rfl (fun h => by cases h) (fun _ => aK ?_)
          refine ⟨rfl, wk_sub ⟨rfl, ?_, ?_, rfl, trivial⟩⟩
          · show some (AV.sl _ _ _ _) = some (AV.sl _ _ _ _); simp
          · show some (AV.mrow _ _ _) = some (AV.mrow _ _ _); simp
        | true =>
          refine aS (aD (by kernel_rfl) (by kernel_rfl) ?_)
          (refine nx (a_field_ad (gN rfl) rfl rfl rfl rfl rfl rfl rfl rfl rfl rfl rfl) rfl ?_)
          (refine nx (a_load_ad (gN rfl) rfl rfl rfl rfl rfl rfl rfl rfl rfl) rfl ?_)
          (refine nx (aM (gN rfl) rfl rfl rfl rfl rfl) rfl ?_)
          (refine nx (aF (gN rfl) rfl rfl rfl rfl rfl rfl rfl rfl rfl) rfl ?_)
          (refine nx (aLb (gN rfl) rfl rfl rfl rfl rfl rfl rfl rfl rfl rfl rfl rfl) rfl ?_)
          (refine nx (a_call (gN rfl) rfl rfl rfl rfl rfl (hF.ap w1 _ (.inl rfl))) rfl ?_)
          (refine nx (aM (gN rfl) rfl rfl rfl rfl rfl) rfl ?_)
          (refine nx (aF (gN rfl) rfl rfl rfl rfl rfl rfl rfl rfl rfl) rfl ?_)
          (refine nx (aLb (gN rfl) rfl rfl rfl rfl rfl rfl rfl rfl rfl rfl rfl rfl) rfl ?_)
          (refine nx (a_call (gN rfl) rfl rfl rfl rfl rfl (hF.ap w1 _ (.inr (.inl rfl)))) rfl ?_)
          (refine nx (a_callv (gN rfl) rfl rfl rfl rfl rfl rfl (hv1 w1)) rfl ?_)
          (refine nx (aM (gN rfl) rfl rfl rfl rfl rfl) rfl ?_)
          (refine nx (a_field_ad (gd_on rfl rfl rfl rfl (by first | rfl | assumption | (simp; done))) rfl rfl rfl rfl rfl rfl rfl rfl rfl rfl rfl) rfl ?_)
          (refine nx (a_load_ad (gd_on rfl rfl rfl rfl (by first | rfl | assumption | (simp; done))) rfl rfl rfl rfl rfl rfl rfl rfl rfl) rfl ?_)
          (refine nx (aM (gd_on rfl rfl rfl rfl (by first | rfl | assumption | (simp; done))) rfl rfl rfl rfl rfl) rfl ?_)
          (refine nx (aF (gd_on rfl rfl rfl rfl (by first | rfl | assumption | (simp; done))) rfl rfl rfl rfl rfl rfl rfl rfl rfl) rfl ?_)
          (refine nx (aLb (gd_on rfl rfl rfl rfl (by first | rfl | assumption | (simp; done))) rfl rfl rfl rfl rfl rfl rfl rfl rfl rfl rfl rfl) rfl ?_)
          (refine nx (a_call (gd_on rfl rfl rfl rfl (by first | rfl | assumption | (simp; done))) rfl rfl rfl rfl rfl (hF.ap w1 _ (.inr (.inr (.inl rfl))))) rfl ?_)
          (refine nx (aM (gd_on rfl rfl rfl rfl (by first | rfl | assumption | (simp; done))) rfl rfl rfl rfl rfl) rfl ?_)
          (refine nx (aF (gd_on rfl rfl rfl rfl (by first | rfl | assumption | (simp; done))) rfl rfl rfl rfl rfl rfl rfl rfl rfl) rfl ?_)
          (refine nx (aLb (gd_on rfl rfl rfl rfl (by first | rfl | assumption | (simp; done))) rfl rfl rfl rfl rfl rfl rfl rfl rfl rfl rfl rfl) rfl ?_)
          (refine nx (a_call (gd_on rfl rfl rfl rfl (by first | rfl | assumption | (simp; done))) rfl rfl rfl rfl rfl (hF.ap w1 _ (.inr (.inr (.inr rfl))))) rfl ?_)
          (refine nx (a_callv (gd_on rfl rfl rfl rfl (by first | rfl | assumption | (simp; done))) rfl rfl rfl rfl rfl rfl (hv2 w1)) rfl ?_)
          (refine ⟨_, _, _, aPt (gN rfl) rfl rfl rfl rfl rfl ?hb rfl, rfl, ?_⟩; case hb => (first | rfl | assumption | (simp; done)))
          refine ⟨by kernel_rfl, ?_⟩
          show AWp _ _ _ _ _ _ _
          cases g2 with
          | false =>
            rw [hno (.inr (.inr rfl))]
            refine aC rfl (fun h => by cases h) (fun _ => aK ?_)
            refine ⟨rfl, wk_sub ⟨rfl, ?_, ?_, rfl, trivial⟩⟩
            · show some (AV.sl _ _ _ _) = some (AV.sl _ _ _ _); simp
            · show some (AV.mrow _ _ _) = some (AV.mrow _ _ _); simp
          | true =>
            rw [hyes rfl rfl rfl]
            have hca := hF.ca w1
            obtain ⟨z, hz⟩ : ∃ z, z = (joinM m c d').map (Lt.rep (mgS m.fr.a m.pt)) := ⟨_, rfl⟩
            rw [← hz] at hca ⊢
            refine aC rfl (fun _ => ?_) (fun h => by cases h)
            refine AWp.wk (wk_sub (s' := (9, AV.val (.lst ((mgT m.fr.a m.pt).1.map Bd.cv))) :: (8, AV.bp 8 0 []) :: (100008, .bx (.row [.row [.i m.fr.n, m.fr.a.cw, m.fr.b.cw], .row [.i m.ti.n, m.ti.a.cw, m.ti.b.cw], .sc (cutV v m.pl.length), m.pt.cw])) :: (4, .val (.ptr (.lst (c.map Lt.cv)))) :: (5, .val (.ptr (.lst (d'.map Lt.cv)))) :: (7, .bp 350001 0 []) :: (71, .hdl v 400003) :: obX L0 400003 m.pl) ⟨rfl, rfl, rfl, rfl, rfl, rfl, rfl, rfl, rfl, rfl, rfl, trivial⟩) ?_
            refine aD (by kernel_rfl) (by kernel_rfl) ?_
            (refine nx (aLf (gN rfl) rfl rfl rfl rfl rfl rfl rfl rfl rfl rfl rfl rfl rfl) rfl ?_)
            (refine nx (aM (gN rfl) rfl rfl rfl rfl rfl) rfl ?_)
            (refine nx (aL (gN rfl) rfl rfl rfl rfl rfl rfl rfl rfl rfl rfl rfl rfl) rfl ?_)
            (refine nx (a_load_ptr (gN rfl) rfl rfl rfl rfl rfl rfl rfl rfl rfl) rfl ?_)
            (refine nx (a_load_ptr (gN rfl) rfl rfl rfl rfl rfl rfl rfl rfl rfl) rfl ?_)
            (refine nx (a_callH 71 71 (gN rfl) rfl rfl rfl rfl (hJn) rfl rfl rfl rfl (by repeat (first | exact trivial | refine ⟨rfl, ?_⟩)) (by first | rfl | kernel_rfl) (by first | rfl | kernel_rfl) (by first | rfl | kernel_rfl) (by first | rfl | kernel_rfl) (hnb_of (by first | rfl | kernel_rfl))) rfl ?_)
            (refine nx (a_call (gN rfl) rfl rfl rfl rfl rfl (hca)) rfl ?_)
            (refine nx (a_bslice (gN rfl) rfl rfl rfl rfl rfl rfl rfl rfl rfl rfl rfl rfl rfl) rfl ?_)
            (refine nx (a_appM 300006 (gN rfl) rfl rfl rfl rfl rfl rfl rfl rfl rfl rfl rfl rfl rfl (by first | rfl | omega | (simp only [List.length_set, List.length_map, List.length_append, List.length_cons, List.length_nil] <;> omega) | (simp <;> omega)) (by first | assumption | exact sZ rfl | exact Tm.size_all _ | exact Bd.size_all _ | exact ints_size _ | exact bys_size _ | exact Lt.size_all _) (by first | omega | (simp only [List.length_map, List.length_append, List.length_cons, List.length_nil] <;> omega) | (simp <;> omega))) (by kernel_rfl) ?_)
            (refine nx (a_store_fld (gN rfl) rfl rfl rfl rfl rfl rfl rfl rfl rfl rfl rfl rfl) rfl ?_)
            refine ⟨by kernel_rfl, ?_⟩
            refine ⟨rfl, (wk_sub (s' := [(450001, .obj), (35500100, .sl 300006 0 (L0 ++ [z]).length 1), (300006, .mrow 26 1 ((L0 ++ [z]).map clC)), (400003, .mrow 3 1 (m.pl.map CV.i))]) ⟨rfl, ?_, ?_, rfl, trivial⟩).trans (wk_ren 300006 300005 rfl rfl (by kernel_rfl) (by kernel_rfl))⟩
            · show some (AV.sl _ _ _ _) = some (AV.sl _ _ _ _)
              rw [List.length_append, ← hL0m]; rfl
            · show some (AV.mrow _ _ _) = some (AV.mrow _ _ _)
              rw [List.map_append (f := clC)]; rfl
  · rintro e s' g ⟨rfl, rfl⟩
    rw [List.take_length]
    refine ⟨rfl, rfl, ?_⟩
    refine aS (aR ?_)
    (refine nx (aLf (gN rfl) rfl rfl rfl rfl rfl rfl rfl rfl rfl rfl rfl rfl rfl) rfl ?_)
    (refine nx (aA (gN rfl) rfl rfl rfl rfl rfl) rfl ?_)
    show AWp _ _ _ _ _ _ _
    obtain ⟨R, hR⟩ : ∃ R, R = folL ld c d' ms := ⟨_, rfl⟩
    rw [← hR]
    refine aT ⟨⟨.inr rfl, [(6, AV.val (.lst (((R.map clC).drop 0).take R.length)))], ?_, ?_, trivial, rfl⟩, rfl⟩
    · exact (wk_frz 6 300005 (e := 26) (z := 1) (lo := 0) (len := R.length) (l := R.map clC) rfl rfl rfl (.inl hW.2) (by simp) (s' := [(299999, .ob g 0)]) ⟨rfl, trivial⟩ rfl).trans (wk_sub ⟨rfl, rfl, trivial⟩)
    · rw [List.drop_zero, List.take_of_length_le (by simp)]
      rfl
end Go.Proofs.YteegmcfobgpemaaGreat
