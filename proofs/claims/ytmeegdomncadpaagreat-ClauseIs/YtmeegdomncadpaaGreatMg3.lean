/-
  AbObj AbCall AbObj2 SbSort SbClone SbNorm SbApply SbVars TmSm SbSmall TmOrd RfSame RfLess RfFlat RfVars AbOf
-/
import Derived.Test.YtmeegdomncadpaaGreatMg2
namespace Go.Proofs.YtmeegdomncadpaaGreat
open Go.RowKit
set_option linter.unusedVariables false
set_option linter.unusedSimpArgs false
theorem add_at (b off j : Nat) : (⟨b, off, none⟩ : Addr).add j = ⟨b, off + j, none⟩ := by unfold Addr.add; split <;> simp_all

section
variable {P : Program} {w0 : World} {U0 : UX} {nt : Nat} {ops : Array Oper} {o : Oper} {S : Nat → Option AV} {gs : List Nat} {d : Nat} {s : AS} {a : Act} {w : World} {D : Nat → Nat → Prop} {hv : Nat → Value}

theorem run_sizeOf {e : TypeId} {z : Nat} (hi : (P.info? e).map (·.size) = some z) : (sizeOf e).run P w = .ok z w := by
  cases hi' : P.info? e with
  | none => rw [hi'] at hi; simp at hi
  | some i => rw [hi'] at hi; simp at hi; simp [sizeOf, typeInfo, hi', hi]

theorem SimG.mrow (h : SimG w0 U0 nt s a w D hv) {n e z : Nat} {l : List CV} (h1 : look s n = some (.mrow e z l)) (hn : RN n) : ∃ xs, w.ownsRow 0 e z (hv n) l.length xs ∧ 0 < z ∧ (∀ c ∈ l, c.size = z) ∧ Sq (l.map fun c => Rep (Us w0 U0 D) w c) xs := by
  have : OC (Us w0 U0 D) w hv (LiveN s) (.mrow e z l) (hv n) := h.obj n _ h1 (by unfold RN at hn; unfold oKey; omega)
  exact this
theorem own_some {e z : Nat} {v : Value} {k : Nat} {xs : List Value} (h : w.ownsRow 0 e z v k xs) (hk : 0 < k) : ∃ g cap cur, v = .slice (some ⟨g, 0, none⟩) k cap ∧ w.heap[g]? = some (.cells cur e (0, 0)) ∧ k ≤ cap ∧ cap ≤ maxLen ∧ cur.size = cap * z ∧ cur.toList.take (k * z) = xs ∧ blkOf v = g ∧ hb v = some g := by
  rcases h.2 with ⟨_, rfl⟩ | ⟨g, cap, cur, rfl, _, h3, h4, h5, h6, h7⟩
  · omega
  · exact ⟨g, cap, cur, rfl, h3, h4, h5, h6, h7, rfl, rfl⟩
section
variable (hg : Gd w0 U0 nt ops o gs S) (hd : o.dst = some d) (hn : Nat.blt d nt = true) (h5 : Nat.blt d 100000 = true)
include hg hd hn h5

theorem a_lenM {x : Operand} {t e : TypeId} {ts : Array TypeId} {n lo len z : Nat} (ho : o.op = .call { callee := .builtin .len, args := #[x], argTypes := ts }) (ht : ts[0]? = some t) (hu : P.underlying t = some (.slice e)) (hx : ev S x = some (.sl n lo len z)) : AOp P w0 U0 nt ops o (gs ++ rd x) [] S [(d, .val (.i len))] :=
  aop_val hg hd hn h5 (fun k hk => List.mem_append_left _ hk) fun s hs a w D hv hm => by
    obtain ⟨_, ao, m, cap, ao', h1, h2, _⟩ : RN n ∧ SlV (hv n) lo len z (a.eval x) := ev_rep hm (fun k hk => hs k (List.mem_append_right _ hk)) hx
    refine ⟨.int .i64 len, ?_, avrep_sc rfl⟩
    generalize a.eval = ρ at h2 ⊢
    simp [execOp, ho, resolve, invoke, builtin, Builtin.len_, ht, h2, goInt, run_underlying hu, go_sem]

theorem aIm {x y : Operand} {ty e e' : TypeId} {l : List CV} {i : Int} {k n lo len z : Nat} {kd : IntKind} {n' q' p'} (ho : o.op = .indexAddr ty x y) (hu : P.underlying ty = some (.slice e)) (hi : (P.info? e).map (·.size) = some z) (hx : ev S x = some (.sl n lo len z)) (hy : ev S y = some ⟨0, .sc (.int kd i), n', q', p'⟩) (hm' : S n = some (.mrow e' z l)) (hk : i + (lo : Int) = (k : Int) ∧ lo ≤ k ∧ k < lo + len ∧ lo + len ≤ l.length) : AOp P w0 U0 nt ops o (gs ++ (rd x ++ (rd y ++ [n]))) [] S [(d, .el n (k * z) [k])] :=
  aop_val hg hd hn h5 (fun k hk => List.mem_append_left _ hk) fun s hs a w D hv hm => by
    obtain ⟨hij, hlo, hj, hl⟩ := hk
    obtain ⟨j, rfl⟩ : ∃ j, k = lo + j := ⟨k - lo, by omega⟩
    obtain ⟨hrn, ao, m, cap, ao', h1, h2, h3, h4, h6, _⟩ : RN n ∧ SlV (hv n) lo len z (a.eval x) := ev_rep hm (fun k hk => hs k (List.mem_append_right _ (List.mem_append_left _ hk))) hx
    have e2 := ev_sc hm (fun k hk => hs k (List.mem_append_right _ (List.mem_append_right _ (List.mem_append_left _ hk)))) hy
    obtain ⟨xs, g1, _⟩ := hm.mrow ((hs n (by simp)).trans hm') hrn
    obtain ⟨g, cap', cur, f1, f2, f3, f4, f6, f7, f8, f9⟩ := own_some g1 (by omega)
    rw [f1] at h1
    injection h1 with h1 h7 h8
    subst h1; subst h7; subst h8
    have ha : ao' = some ⟨g, lo * z, none⟩ := h6 (by omega) g rfl
    subst ha
    have hij : i = (j : Int) := by omega
    have hj : j < len := by omega
    subst hij
    have hsz := run_sizeOf (P := P) (w := w) hi
    refine ⟨.pointer (some ⟨g, (lo + j) * z, none⟩), ?_, ?_⟩
    · have hadd : (⟨g, lo * z, none⟩ : Addr).add (j * z) = ⟨g, (lo + j) * z, none⟩ := by rw [add_at, Nat.add_mul]
      generalize a.eval = ρ at h2 e2 ⊢
      simp [execOp, ho, Instr.indexAt, asIntOf, h2, e2, run_underlying hu, hj, hsz, hadd]
    · exact ⟨hrn, by show _ = Value.pointer (some ⟨blkOf (hv n), _, none⟩); rw [f8]⟩

omit hg hd hn h5 in
theorem elem_at {U : Nat → Nat → Prop} {e z k j m q : Nat} {v : Value} {l : List CV} {c c' : CV} {p : List Nat} {xs : List Value} (h : w.ownsRow 0 e z v l.length xs) (hsq : Sq (l.map fun c => Rep U w c) xs) (hz : ∀ c ∈ l, c.size = z) (hc : l[j]? = some c) (hat : c.at p = some (m, c')) (hq : q = j * z + m) :
    ∃ g cap cur ys zs us, v = .slice (some ⟨g, 0, none⟩) l.length cap ∧ blkOf v = g ∧ hb v = some g ∧ w.heap[g]? = some (.cells cur e (0, 0)) ∧ l.length ≤ cap ∧ cap ≤ maxLen ∧ cur.size = cap * z ∧ cur.toList.take (l.length * z) = xs ∧ cur.toList = ys ++ zs ++ us ∧ ys.length = q ∧ Rep U w c' zs := by
  have hjl : j < l.length := by
    rcases Nat.lt_or_ge j l.length with h | h
    · exact h
    · rw [List.getElem?_eq_none h] at hc; cases hc
  obtain ⟨g, cap, cur, f1, f2, f3, f4, f6, f7, f8, f9⟩ := own_some h (by omega)
  obtain ⟨y1, z1, u1, e1, e2, e3⟩ := sq_at hz hsq hc
  obtain ⟨y2, z2, u2, e4, e5, e6⟩ := at_spec hat e3
  refine ⟨g, cap, cur, y1 ++ y2, z2, u2 ++ (u1 ++ cur.toList.drop (l.length * z)), f1, f8, f9, f2, f3, f4, f6, f7, ?_, by rw [List.length_append, e2, e5, hq], e6⟩
  conv => lhs; rw [← List.take_append_drop (l.length * z) cur.toList, f7, e1, e4]
  simp

theorem a_loadM {x : Operand} {ty : TypeId} {ds : TypeDesc} {e z z' j m n q : Nat} {l : List CV} {c c' : CV} {p : List Nat} (ho : o.op = .load ty x) (hu : P.underlying ty = some ds) (hi : (P.info? ty).map (·.size) = some z') (hx : ev S x = some (.el n q (j :: p))) (hm' : S n = some (.mrow e z l)) (hc : l[j]? = some c) (hat : c.at p = some (m, c')) (hq : q = j * z + m) (hk : aggB ds = Nat.beq c'.k 2) (hz : c'.size = z') : AOp P w0 U0 nt ops o (gs ++ (rd x ++ [n])) [] S [(d, .val c')] :=
  aop_val hg hd hn h5 (fun k hk => List.mem_append_left _ hk) fun s hs a w D hv hm => by
    obtain ⟨hrn, h1⟩ : RN n ∧ a.eval x = .pointer (some ⟨blkOf (hv n), q, none⟩) := ev_rep hm (fun k hk => hs k (List.mem_append_right _ (List.mem_append_left _ hk))) hx
    obtain ⟨xs, g1, g2, g3, g4⟩ := hm.mrow ((hs n (by simp)).trans hm') hrn
    obtain ⟨g, cap, cur, ys, zs, us, f1, f2, f3, f4, f6, f7, f8, f9, f10, f11, f12⟩ := elem_at (k := 0) g1 g4 g3 hc hat hq
    rw [f2] at h1
    obtain ⟨v, h6, h7, h8⟩ := run_loadTree hu hi hk hz f12 (b := g) (off := q) (fun i hi => by rw [← f11]; exact box_cells_at (xs := cur.toList) (by rw [Array.toArray_toList]; exact f4) f10 i hi)
    refine ⟨v, ?_, avrep_val h7⟩
    generalize a.eval = ρ at h1 ⊢
    simp [execOp, ho, Instr.loadAt, Instr.sureAddr, h1, h6]

theorem a_fromM {x y : Operand} {t e : TypeId} {z : Nat} {k : IntKind} {i : Int} {j n lo len : Nat} {n' q' p'} (ho : o.op = .slice t x (some y) none none) (hu : P.underlying t = some (.slice e)) (hi : (P.info? e).map (·.size) = some z) (hx : ev S x = some (.sl n lo len z)) (hy : ev S y = some ⟨0, .sc (.int k i), n', q', p'⟩) (hij : i = (j : Int)) (hj : j ≤ len) : AOp P w0 U0 nt ops o (gs ++ (rd x ++ rd y)) [] S [(d, .sl n (lo + j) (len - j) z)] :=
  aop_val hg hd hn h5 (fun k hk => List.mem_append_left _ hk) fun s hs a w D hv hm => by
    obtain ⟨hrn, ao, m, cap, ao', h1, h2, h3, h4, h6, h7⟩ : RN n ∧ SlV (hv n) lo len z (a.eval x) := ev_rep hm (fun k hk => hs k (List.mem_append_right _ (List.mem_append_left _ hk))) hx
    have e2 := ev_sc hm (fun k hk => hs k (List.mem_append_right _ (List.mem_append_right _ hk))) hy
    have hsz := run_sizeOf (P := P) (w := w) hi
    refine ⟨.slice (if cap - lo = j then ao' else ao'.map (·.add (j * z))) (len - j) (cap - lo - j), ?_, hrn, ao, m, cap, _, h1, by rw [Nat.sub_sub]; rfl, by show lo + j + (len - j) ≤ cap; omega, fun h8 => ?_, fun h8 => ?_, ?_⟩
    · have hb := run_bound (P := P) (w := w) (k := k) (j := j) (y := len) (code := .sliceB) hj
      subst hij
      generalize a.eval = ρ at h2 e2 ⊢
      simp [execOp, ho, Instr.sliceAt, Instr.slice, run_underlying hu, h2, e2, Instr.sliceBounds, hb, hsz]
    · have h8 : lo + j = 0 := h8
      have hj0 : j = 0 := by omega
      subst hj0
      rw [h4 (by omega)]
      split
      · rfl
      · cases ao with
        | none => rfl
        | some ad => simp [Addr.add]
    · have h8 : lo + j < cap := h8
      intro g hg'
      rw [if_neg (by omega), h6 (by omega) g hg']
      show some ((⟨g, lo * z, none⟩ : Addr).add (j * z)) = some ⟨g, (lo + j) * z, none⟩
      rw [add_at, Nat.add_mul]
    · split
      · exact h7
      · rw [Option.map_eq_none_iff]; exact h7
theorem a_uptoM {x y : Operand} {t e : TypeId} {z : Nat} {k : IntKind} {i : Int} {j n lo len : Nat} {n' q' p'} (ho : o.op = .slice t x none (some y) none) (hu : P.underlying t = some (.slice e)) (hi : (P.info? e).map (·.size) = some z) (hx : ev S x = some (.sl n lo len z)) (hy : ev S y = some ⟨0, .sc (.int k i), n', q', p'⟩) (hij : i = (j : Int)) (hj : j ≤ len) : AOp P w0 U0 nt ops o (gs ++ (rd x ++ rd y)) [] S [(d, .sl n lo j z)] :=
  aop_val hg hd hn h5 (fun k hk => List.mem_append_left _ hk) fun s hs a w D hv hm => by
    obtain ⟨hrn, ao, m, cap, ao', h1, h2, h3, h4, h6, h7⟩ : RN n ∧ SlV (hv n) lo len z (a.eval x) := ev_rep hm (fun k hk => hs k (List.mem_append_right _ (List.mem_append_left _ hk))) hx
    have e2 := ev_sc hm (fun k hk => hs k (List.mem_append_right _ (List.mem_append_right _ hk))) hy
    have hsz := run_sizeOf (P := P) (w := w) hi
    have hid : (if cap - lo = 0 then ao' else ao'.map (·.add (0 * z))) = ao' := by
      split
      · rfl
      · cases ao' with
        | none => rfl
        | some ad => simp [Addr.add]
    refine ⟨.slice ao' j (cap - lo), ?_, hrn, ao, m, cap, ao', h1, rfl, by show lo + j ≤ cap; omega, h4, h6, h7⟩
    have hb := run_bound (P := P) (w := w) (k := k) (j := j) (y := cap - lo) (code := .sliceAcap) (by omega)
    subst hij
    generalize a.eval = ρ at h2 e2 ⊢
    simp [execOp, ho, Instr.sliceAt, Instr.slice, run_underlying hu, h2, e2, Instr.sliceBounds, hb, hsz, hid] <;> simpa using hid
end

theorem mem_set_of {α : Type} {l : List α} {j : Nat} {c x : α} (h : x ∈ l.set j c) : x ∈ l ∨ x = c := by
  rcases List.mem_or_eq_of_mem_set h with h | h
  · exact .inl h
  · exact .inr h
theorem a_storeM (hg : Gd w0 U0 nt ops o gs S) (hd : o.dst = none) {x y : Operand} {ty : TypeId} {e z z' j m n q : Nat} {l : List CV} {c c' c2 v : CV} {p : List Nat} {m1 q1 p1} (ho : o.op = .store ty x y) (hi : (P.info? ty).map (·.size) = some z') (hx : ev S x = some (.el n q (j :: p))) (hm' : S n = some (.mrow e z l)) (hy : ev S y = some ⟨0, v, m1, q1, p1⟩) (hc : l[j]? = some c) (hat : c.at p = some (m, c')) (hup : c.upO p v = some c2) (hq : q = j * z + m) (hz : v.size = z') :
    AOp P w0 U0 nt ops o (gs ++ (rd x ++ (rd y ++ [n]))) [] S [(n, .mrow e z (l.set j c2))] := by
  intro s hs hN a w ⟨D, hv, h⟩ Q K hK
  rw [if_pos (hg s (fun k hk => hs k (List.mem_append_left _ hk)) a w D hv h)]
  have hm := (hs n (by simp)).trans hm'
  obtain ⟨hrn, h1⟩ : RN n ∧ a.eval x = .pointer (some ⟨blkOf (hv n), q, none⟩) := ev_rep h (fun k hk => hs k (List.mem_append_right _ (List.mem_append_left _ hk))) hx
  have h2 := ev_val h (fun k hk => hs k (List.mem_append_right _ (List.mem_append_right _ (List.mem_append_left _ hk)))) hy
  obtain ⟨xs, g1, g2, g3, g4⟩ := h.mrow hm hrn
  have hjl : j < l.length := by
    rcases Nat.lt_or_ge j l.length with h | h
    · exact h
    · rw [List.getElem?_eq_none h] at hc; cases hc
  obtain ⟨g, cap, cur, f1, f2, f3, f4, f6, f7, f8, f9⟩ := own_some g1 (by omega)
  rw [f8] at h1
  have hl : l = l.take j ++ c :: l.drop (j + 1) := by
    rw [List.getElem?_eq_getElem hjl] at hc
    rw [← Option.some.inj hc, List.getElem_cons_drop, List.take_append_drop]
  have g4' := g4
  rw [hl, List.map_append] at g4'
  obtain ⟨y1, r1, e1, s1, z1, u1, e2, s2, s3⟩ := sq_split g4'
  obtain ⟨u1', u2⟩ := upO_spec (U := Us w0 U0 D) (w := w) (xs := z1) hat hup
  obtain ⟨y2, z2, u3, e3, e4, e5, e6⟩ := u2 s2
  have hy1 : y1.length = j * z := by rw [sq_len (n := CV.size) (fun c _ xs h => h.len) s1, sum_const (fun c hc => g3 c (List.mem_of_mem_take hc)), List.length_take, Nat.min_eq_left (by omega)]
  have hvl := h2.cells.len
  have hcur : cur.toList = (y1 ++ y2) ++ z2 ++ (u3 ++ u1 ++ cur.toList.drop (l.length * z)) := by
    conv => lhs; rw [← List.take_append_drop (l.length * z) cur.toList, f7, e1, e2, e3]
    simp
  have hrun := run_storeTree (P := P) (ys := y1 ++ y2) (zs := z2) (us := u3 ++ u1 ++ cur.toList.drop (l.length * z)) (q := q) (z := z') hi (by rw [← hcur, Array.toArray_toList]; exact f2) (by rw [List.length_append, hy1, e4, hq]) (v := a.eval y) rfl (by rw [hvl, e5]) (by rw [hvl, hz]) h2.cells.one
  have he : (execOp a.eval o).run P w = .ok .skip (w.setRow g (y1 ++ y2 ++ (a.eval y).cells.toList ++ (u3 ++ u1 ++ cur.toList.drop (l.length * z))).toArray) := by
    generalize a.eval = ρ at h1 hrun ⊢
    simp [execOp, ho, Instr.storeAt, Instr.sureAddr, h1, hrun]
  unfold Oper.wp
  rw [he, Oper.upon_skip, hd]
  have hok : oKey n := by unfold RN at hrn; unfold oKey; omega
  refine hK _ _ ⟨_, _, h.store (av := .mrow e z (l.set j c2)) hok hm (by simp) (by simp) rfl (fun g' hn o _ => hn o (by simp)) (by simp) f9 f2 fun w' hw hkp => ?_⟩
  have hnew := (e6 _ h2.cells).keep hkp
  have hsz2 : c2.size = z := by
    have a1 := hnew.len
    have a2 := s2.len
    rw [e3, g3 c (List.mem_of_getElem? hc)] at a2
    simp only [List.length_append] at a1 a2
    omega
  refine ⟨y1 ++ (y2 ++ (a.eval y).cells.toList ++ u3) ++ u1, ⟨?_, .inr ⟨g, cap, _, ?_, Nat.zero_le _, hw, ?_, f4, ?_, ?_⟩⟩, g2, fun x hx => ?_, ?_⟩
  · have a1 := g1.1
    rw [e1, e2, e3] at a1
    simp only [List.length_append] at a1 ⊢
    show _ = (l.set j c2).length * z
    rw [List.length_set]
    omega
  · show hv n = .slice _ (l.set j c2).length cap
    rw [List.length_set]; exact f1
  · show (l.set j c2).length ≤ cap
    rw [List.length_set]; exact f3
  · have := congrArg List.length hcur
    rw [Array.length_toList, f6] at this
    simp only [List.size_toArray, List.length_append] at this ⊢
    show _ = cap * z
    omega
  · show List.take ((l.set j c2).length * z) _ = _
    rw [List.length_set]
    have a1 := g1.1
    rw [e1, e2, e3] at a1
    simp only [List.length_append] at a1
    have e7 : y1 ++ y2 ++ (a.eval y).cells.toList ++ (u3 ++ u1 ++ cur.toList.drop (l.length * z)) = (y1 ++ (y2 ++ (a.eval y).cells.toList ++ u3) ++ u1) ++ cur.toList.drop (l.length * z) := by simp
    rw [e7, List.take_append_of_le_length (by simp only [List.length_append]; omega), List.take_of_length_le (by simp only [List.length_append]; omega)]
  · rcases mem_set_of hx with hx | rfl
    · exact g3 x hx
    · exact hsz2
  · show Sq ((l.set j c2).map fun c => Rep (Us w0 U0 D) w' c) _
    have hs' : l.set j c2 = l.take j ++ c2 :: l.drop (j + 1) := by
      conv => lhs; rw [hl]
      rw [List.set_append_right _ _ (by simp; omega)]
      simp [Nat.min_eq_left (Nat.le_of_lt hjl)]
    rw [hs', List.map_append, List.append_assoc]
    exact sq_append (Sq.keep hkp s1) ⟨_, u1, rfl, hnew, Sq.keep hkp s3⟩
end
def AVReps (U : Nat → Nat → Prop) (w : World) (hv : Nat → Value) (lv : Nat → Prop) : List AV → List Value → Prop
  | [], vs => vs = []
  | c :: cs, vs => ∃ u us, vs = u :: us ∧ AVRep U w hv lv c u ∧ AVReps U w hv lv cs us
theorem AVReps.len {U : Nat → Nat → Prop} {w : World} {hv : Nat → Value} {lv : Nat → Prop} : ∀ {l : List AV} {vs : List Value}, AVReps U w hv lv l vs → vs.length = l.length
  | [], _, h => by have h : _ = [] := h; rw [h]; rfl
  | c :: cs, vs, ⟨u, us, e, h1, h2⟩ => by rw [e, List.length_cons, List.length_cons, AVReps.len h2]
theorem AVReps.at {U : Nat → Nat → Prop} {w : World} {hv : Nat → Value} {lv : Nat → Prop} : ∀ {l : List AV} {vs : List Value}, AVReps U w hv lv l vs → ∀ {i : Nat} {c : AV}, l[i]? = some c → ∃ v, vs[i]? = some v ∧ AVRep U w hv lv c v
  | [], _, _, i, c, hi => by simp at hi
  | c' :: cs, vs, ⟨u, us, e, h1, h2⟩, 0, c, hi => by
    simp only [List.getElem?_cons_zero, Option.some.injEq] at hi
    exact ⟨u, by rw [e]; rfl, hi ▸ h1⟩
  | c' :: cs, vs, ⟨u, us, e, h1, h2⟩, i + 1, c, hi => by
    obtain ⟨v, h3, h4⟩ := AVReps.at h2 (i := i) (c := c) (by simpa using hi)
    exact ⟨v, by rw [e]; simpa using h3, h4⟩
theorem AVReps.imp {U V : Nat → Nat → Prop} {w w' : World} {hv hv' : Nat → Value} {lv lv' : Nat → Prop} : ∀ {l : List AV} {vs : List Value}, (∀ c ∈ l, ∀ v, AVRep U w hv lv c v → AVRep V w' hv' lv' c v) → AVReps U w hv lv l vs → AVReps V w' hv' lv' l vs
  | [], _, _, h => h
  | c :: cs, vs, hc, ⟨u, us, e, h1, h2⟩ => ⟨u, us, e, hc c (by simp) u h1, AVReps.imp (fun x hx => hc x (List.mem_cons_of_mem _ hx)) h2⟩

def AFunO (P : Program) (f : FuncId) (pre : AS) (args : List AV) (r : AV) (post : AS) : Prop :=
  EntF P f ∧ ∀ (U : UX) (w : World) (hv : Nat → Value) (a0 : Act) (vs : List Value), (∀ k v, U.f k = some v → hasN (kO pre) k = true) → SimG w U 0 pre a0 w (fun _ _ => False) hv → AVReps (Us w U (fun _ _ => False)) w hv (LiveN pre) args vs →
    Calls P f vs.toArray w fun e w' => ∃ v D' hv' a', e = .returned v ∧ SimG w U 0 post a' w' D' hv' ∧ AVRep (Us w U D') w' hv' (LiveN post) r v

def evsA (S : Nat → Option AV) : List Operand → Option (List AV)
  | [] => some []
  | x :: xs => match ev S x, evsA S xs with
    | some c, some cs => some (c :: cs)
    | _, _ => none

def SubS (S : Nat → Option AV) : AS → Prop
  | [] => True
  | (k, av) :: s => S k = some av ∧ SubS S s
theorem SubS.look {S : Nat → Option AV} : ∀ {s : AS}, SubS S s → ∀ {k av}, look s k = some av → S k = some av
  | [], _, k, av, h => by simp [Go.Proofs.YtmeegdomncadpaaGreat.look] at h
  | (k', av') :: s, ⟨h1, h2⟩, k, av, h => by
    rw [look_cons] at h
    split at h
    · rename_i e; subst e; cases h; exact h1
    · exact SubS.look h2 h

def lendB (p : Nat × AV) : Bool := match Nat.ble 500000 p.1 with
  | true => true
  | false => Nat.ble 300000 p.1 && !Nat.beq p.2.t 6 && !Nat.beq p.2.t 7 && (Nat.blt p.1 450000 || Nat.beq p.2.t 5 || Nat.beq p.2.t 9)
def refB (ks : List Nat) (av : AV) : Bool := match Nat.beq av.t 0 || Nat.beq av.t 5 with
  | true => Nat.ble av.n 1
  | false => match Nat.beq av.t 2 || Nat.beq av.t 11 || Nat.beq av.t 12 || Nat.beq av.t 15 || Nat.beq av.t 19 with
    | true => hasN ks (hk av)
    | false => true
def leaveB (ks : List Nat) (p : Nat × AV) : Bool := Nat.ble 200000 p.1 && !Nat.beq p.2.t 6 && refB ks p.2 && (match Nat.ble 500000 p.1 with | true => Nat.ble 350000 (fnm p.1) && Nat.blt (fnm p.1) 400000 && hasN ks (100000 + fnm p.1) | false => true)
def newN (pre post : List Nat) : List Nat → List (Nat × List Nat)
  | [] => []
  | k :: ks => match Nat.ble 500000 k, Nat.blt k 400000, Nat.blt k 450000, hasN pre k with
    | true, _, _, _ => newN pre post ks
    | false, true, _, _ => (k, pre ++ post) :: newN pre post ks
    | false, false, true, true => newN pre post ks
    | false, false, true, false => (k, pre ++ post) :: newN pre post ks
    | false, false, false, true => (k - 100000 + 1000000, pre ++ post) :: newN pre post ks
    | false, false, false, false => (k - 100000, pre ++ post) :: newN pre post ks

theorem ble_no {a b : Nat} (h : b < a) : Nat.ble a b = false := by
  cases e : Nat.ble a b with
  | false => rfl
  | true => have := Nat.le_of_ble_eq_true e; omega
theorem blt_no {a b : Nat} (h : b ≤ a) : Nat.blt a b = false := by
  cases e : Nat.blt a b with
  | false => rfl
  | true => have := bL e; omega
theorem blt_yes {a b : Nat} (h : a < b) : Nat.blt a b = true := by simp [Nat.blt_eq, h]
theorem newN_tail {pre post : List Nat} {x : Nat} {ks : List Nat} {q : Nat × List Nat} (h : q ∈ newN pre post ks) : q ∈ newN pre post (x :: ks) := by
  unfold newN
  split
  · exact h
  · exact List.mem_cons_of_mem _ h
  · exact h
  · exact List.mem_cons_of_mem _ h
  · exact List.mem_cons_of_mem _ h
  · exact List.mem_cons_of_mem _ h
theorem newN_row {pre post : List Nat} : ∀ {ks : List Nat} {k : Nat}, k ∈ ks → k < 450000 → (k < 400000 ∨ hasN pre k = false) → (k, pre ++ post) ∈ newN pre post ks
  | x :: ks, k, h, hk, hp => by
    rcases List.mem_cons.1 h with rfl | h
    · unfold newN
      rw [ble_no (by omega : k < 500000)]
      by_cases h4 : k < 400000
      · rw [blt_yes h4]; simp
      · rw [blt_no (by omega : 400000 ≤ k), blt_yes hk]
        rcases hp with hp | hp
        · omega
        · rw [hp]; simp
    · exact newN_tail (newN_row h hk hp)
theorem newN_box {pre post : List Nat} : ∀ {ks : List Nat} {k : Nat}, k ∈ ks → 450000 ≤ k → k < 500000 → hasN pre k = false → (k - 100000, pre ++ post) ∈ newN pre post ks
  | x :: ks, k, h, hk, hk2, hp => by
    rcases List.mem_cons.1 h with rfl | h
    · unfold newN
      rw [ble_no (by omega : k < 500000), blt_no (by omega : 400000 ≤ k), blt_no hk, hp]
      simp
    · exact newN_tail (newN_box h hk hk2 hp)
theorem newN_lent {pre post : List Nat} : ∀ {ks : List Nat} {k : Nat}, k ∈ ks → 450000 ≤ k → k < 500000 → hasN pre k = true → (k - 100000 + 1000000, pre ++ post) ∈ newN pre post ks
  | x :: ks, k, h, hk, hk2, hp => by
    rcases List.mem_cons.1 h with rfl | h
    · unfold newN
      rw [ble_no (by omega : k < 500000), blt_no (by omega : 400000 ≤ k), blt_no hk, hp]
      simp
    · exact newN_tail (newN_lent h hk hk2 hp)

theorem mem_keys {s : AS} {k : Nat} {av : AV} (h : look s k = some av) : k ∈ kO s := List.mem_map.2 ⟨_, look_mem h, rfl⟩
theorem keys_look {s : AS} {k : Nat} (h : k ∈ kO s) : ∃ av, look s k = some av := by
  induction s with
  | nil => simp [kO] at h
  | cons p s ih =>
    obtain ⟨d, x⟩ := p
    by_cases e : d = k
    · exact ⟨x, by rw [look_cons, if_pos e]⟩
    · rw [lN e]
      refine ih ?_
      simp only [kO, List.map_cons, List.mem_cons] at h ⊢
      rcases h with h | h
      · exact absurd h.symm e
      · exact h
theorem look_append {e s : AS} {k : Nat} : look (e ++ s) k = (look e k).or (look s k) := by
  induction e with
  | nil => rfl
  | cons p e ih =>
    obtain ⟨d, x⟩ := p
    by_cases h : d = k
    · subst h; rw [List.cons_append, lS, lS]; rfl
    · rw [List.cons_append, lN h, lN h, ih]
theorem look_no {s : AS} {k : Nat} (h : hasN (kO s) k = false) : look s k = none := by
  cases e : look s k with
  | none => rfl
  | some av => rw [hasN_of (mem_keys e)] at h; cases h

theorem all_look {q : Nat × AV → Bool} {s : AS} (h : s.all q = true) {k : Nat} {av : AV} (h1 : look s k = some av) : q (k, av) = true := by
  rw [List.all_eq_true] at h
  exact h _ (look_mem h1)

section
variable {P : Program} {w0 : World} {U0 : UX} {nt : Nat} {ops : Array Oper} {o : Oper} {S : Nat → Option AV} {gs : List Nat} {d : Nat} {s : AS} {a : Act} {w : World} {D : Nat → Nat → Prop} {hv : Nat → Value}

theorem evsA_rep (h : SimG w0 U0 nt s a w D hv) : ∀ {xs : List Operand} {cs : List AV}, (∀ k ∈ rdl xs, look s k = S k) → evsA S xs = some cs → AVReps (Us w0 U0 D) w hv (LiveN s) cs (xs.map a.eval)
  | [], cs, _, he => by simp [evsA] at he; subst he; rfl
  | x :: xs, cs, hs, he => by
    unfold evsA at he
    split at he
    · rename_i c cs' h1 h2
      cases he
      exact ⟨a.eval x, xs.map a.eval, rfl, ev_rep h (fun k hk => hs k (List.mem_append_left _ hk)) h1, evsA_rep h (fun k hk => hs k (List.mem_append_right _ hk)) h2⟩
    · cases he

theorem SimG.lend (h : SimG w0 U0 nt s a w D hv) {pre : AS} (hp : Sub s pre) (hl : pre.all lendB = true) : ∃ V : UX, (∀ k v, V.f k = some v → hasN (kO pre) k = true) ∧ SimG w V 0 pre ⟨#[], []⟩ w (fun _ _ => False) hv ∧ (∀ b, V.x b ↔ ∃ k av, look pre k = some av ∧ oKey k ∧ hb (hv k) = some b) ∧ (∀ k, hasN (kO pre) k = true → 400000 ≤ k → k < 500000 → V.f k = some (hv k)) ∧ (∀ b o, V.m b o ↔ Us w0 U0 D b o) ∧ ∀ b o u, Us w0 U0 D b o → w.cell? ⟨b, o, none⟩ = some u → Us w V (fun _ _ => False) b o ∧ w.cell? ⟨b, o, none⟩ = some u := by
  classical
  have hlk : ∀ {k av}, look pre k = some av → oKey k → 300000 ≤ k ∧ av.t ≠ 6 ∧ av.t ≠ 7 ∧ (k < 450000 ∨ av.t = 5 ∨ av.t = 9) := fun {k av} h1 h2 => by
    have h3 := all_look hl h1
    unfold oKey at h2
    unfold lendB at h3
    have h4 : Nat.ble 500000 k = false := by
      cases e : Nat.ble 500000 k with
      | false => rfl
      | true => have := Nat.le_of_ble_eq_true e; omega
    simp only [h4, Bool.and_eq_true, Bool.or_eq_true, Bool.not_eq_true'] at h3
    obtain ⟨⟨⟨h5, h6⟩, h7⟩, h8⟩ := h3
    refine ⟨Nat.le_of_ble_eq_true h5, (fun e => by rw [e] at h6; cases h6), (fun e => by rw [e] at h7; cases h7), ?_⟩
    rcases h8 with (h8 | h8) | h8
    · exact .inl (bL h8)
    · exact .inr (.inl (Nat.eq_of_beq_eq_true h8))
    · exact .inr (.inr (Nat.eq_of_beq_eq_true h8))
  let isB : Nat → Prop := fun k => 400000 ≤ k ∧ k < 500000 ∧ hasN (kO pre) k = true
  let V : UX := ⟨Us w0 U0 D, fun b => ∃ k av, look pre k = some av ∧ oKey k ∧ hb (hv k) = some b, fun k => if isB k then some (hv k) else none, fun k v (h1 : (if isB k then some (hv k) else none) = some v) => by
    split at h1
    · rename_i h2; exact ⟨h2.1, h2.2.1⟩
    · cases h1⟩
  have hkeep : ∀ b o u, Us w0 U0 D b o → w.cell? ⟨b, o, none⟩ = some u → Us w V (fun _ _ => False) b o ∧ w.cell? ⟨b, o, none⟩ = some u := fun b o u hu hc => by
    refine ⟨.inl ⟨World.block_lt_of_cell? w _ hc, hu, ?_⟩, hc⟩
    rintro ⟨k, av, h1, h2, h3⟩
    obtain ⟨g1, g2, g3, _⟩ := hlk h1 h2
    obtain ⟨f1, f2, f3⟩ := h.blk k av b (hp _ _ h1) h2 g3 h3
    exact us_ne hu f1 (f3 o fun e => absurd e g2) rfl
  have hln : ∀ n, LiveN pre n → LiveN s n := fun n h1 => h1.imp id fun ⟨e, he⟩ => ⟨e, hp _ _ he.1, he.2⟩
  refine ⟨V, fun n g h1 => ?_, ⟨BelowX.refl _ _, rfl, rfl, fun d av h1 h2 => ?_, fun n o av h1 h2 h3 h4 => ?_, fun n o o' av av' h1 h2 => h.fdis n o o' av av' (hp _ _ h1) (hp _ _ h2), fun k av h1 h2 => ?_, fun k av g h1 h2 h3 h4 => ?_, fun k k' av av' g h1 h2 => h.disj k k' av av' g (hp _ _ h1) (hp _ _ h2), fun n g h1 => ?_, fun b o hd => hd.elim⟩, fun b => Iff.rfl, fun k h1 h2 h3 => ?_, fun b o => Iff.rfl, hkeep⟩
  · have h1 : (if isB n then some (hv n) else none) = some g := h1
    split at h1
    · rename_i h2; exact h2.2.2
    · cases h1
  · have h3 := all_look hl h1
    unfold lendB at h3
    have h4 : Nat.ble 500000 d = false := by
      cases e : Nat.ble 500000 d with
      | false => rfl
      | true => have := Nat.le_of_ble_eq_true e; omega
    simp only [h4, Bool.and_eq_true] at h3
    have := Nat.le_of_ble_eq_true h3.1.1.1
    omega
  · obtain ⟨v, h6, h7⟩ := h.fld n o av (hp _ _ h1) h2 (hp _ _ h3) h4
    exact ⟨v, h6.move hkeep (fun _ => hln _) fun _ => rfl, h7⟩
  · exact (h.obj k av (hp _ _ h1) h2).move hkeep (fun _ h3 => ⟨hln _ h3, rfl⟩) fun _ _ => rfl
  · obtain ⟨g1, g2, g3, _⟩ := hlk h1 h2
    obtain ⟨f1, f2, f3⟩ := h.blk k av g (hp _ _ h1) h2 h3 h4
    exact ⟨.inr ⟨by rw [lcl_row g1]; exact g2, k, av, h1, h2, h4⟩, f2, fun _ _ h => h⟩
  · have h1 : (if isB n then some (hv n) else none) = some g := h1
    split at h1
    · cases h1; rfl
    · cases h1
  · show (if isB k then some (hv k) else none) = some (hv k)
    rw [if_pos ⟨h2, h3, h1⟩]

theorem SimG.back (h : SimG w0 U0 nt s a w D hv) {pre post : AS} (hp : Sub s pre) (hl : pre.all lendB = true) (hq : post.all (leaveB (kO post)) = true) (hks : (kO pre).all (hasN (kO post)) = true) (hN : ∀ q ∈ newN (kO pre) (kO post) (kO post), NoRefE s q) (hnb : ∀ k v, U0.f k = some v → hasN (kO post) k = true → hasN (kO pre) k = true)
    {V : UX} (hVx : ∀ b, V.x b ↔ ∃ k av, look pre k = some av ∧ oKey k ∧ hb (hv k) = some b) (hVf : ∀ k, hasN (kO pre) k = true → 400000 ≤ k → k < 500000 → V.f k = some (hv k)) (hVm : ∀ b o, V.m b o ↔ Us w0 U0 D b o) (hpS : SimG w V 0 pre ⟨#[], []⟩ w (fun _ _ => False) hv)
    {w' : World} {D' : Nat → Nat → Prop} {hv' : Nat → Value} {a' : Act} (h' : SimG w V 0 post a' w' D' hv') :
    ∃ D'' hv'', SimG w0 U0 nt (post ++ s) a w' D'' hv'' ∧ (∀ r v, refB (kO post) r = true → AVRep (Us w V D') w' hv' (LiveN post) r v → AVRep (Us w0 U0 D'') w' hv'' (LiveN (post ++ s)) r v) ∧ ∀ b o, D b o → D'' b o := by
  classical
  have hlk : ∀ {k av}, look pre k = some av → oKey k → 300000 ≤ k ∧ av.t ≠ 6 ∧ av.t ≠ 7 ∧ (k < 450000 ∨ av.t = 5 ∨ av.t = 9) := fun {k av} h1 h2 => by
    have h3 := all_look hl h1
    unfold oKey at h2
    unfold lendB at h3
    have h4 : Nat.ble 500000 k = false := by
      cases e : Nat.ble 500000 k with
      | false => rfl
      | true => have := Nat.le_of_ble_eq_true e; omega
    simp only [h4, Bool.and_eq_true, Bool.or_eq_true, Bool.not_eq_true'] at h3
    obtain ⟨⟨⟨h5, h6⟩, h7⟩, h8⟩ := h3
    refine ⟨Nat.le_of_ble_eq_true h5, (fun e => by rw [e] at h6; cases h6), (fun e => by rw [e] at h7; cases h7), ?_⟩
    rcases h8 with (h8 | h8) | h8
    · exact .inl (bL h8)
    · exact .inr (.inl (Nat.eq_of_beq_eq_true h8))
    · exact .inr (.inr (Nat.eq_of_beq_eq_true h8))
  have hqk : ∀ {k av}, look post k = some av → 200000 ≤ k ∧ av.t ≠ 6 ∧ refB (kO post) av = true := fun {k av} h1 => by
    have h3 := all_look hq h1
    unfold leaveB at h3
    simp only [Bool.and_eq_true, Bool.not_eq_true'] at h3
    exact ⟨Nat.le_of_ble_eq_true h3.1.1.1, (fun e => by rw [e] at h3; exact absurd h3.1.1.2 (by decide)), h3.1.2⟩
  have hqf : ∀ {n o av}, look post (fKey n o) = some av → o < 100 → 350000 ≤ n ∧ n < 400000 ∧ hasN (kO post) (100000 + n) = true := fun {n o av} h1 h2 => by
    have h3 := all_look hq h1
    unfold leaveB at h3
    have h4 : Nat.ble 500000 (fKey n o) = true := Nat.ble_eq_true_of_le (by unfold fKey; omega)
    simp only [h4, fnm_key h2, Bool.and_eq_true] at h3
    exact ⟨Nat.le_of_ble_eq_true h3.2.1.1, bL h3.2.1.2, h3.2.2⟩
  have hsub : ∀ {k}, hasN (kO pre) k = true → hasN (kO post) k = true := fun {k} h1 => by
    rw [List.all_eq_true] at hks
    exact hks k (hasN_mem h1)
  obtain ⟨D2, hD2⟩ : ∃ D2 : Nat → Nat → Prop, D2 = fun b o => D b o ∨ (w.heap.size ≤ b ∧ D' b o) := ⟨_, rfl⟩
  obtain ⟨hv2, hhv⟩ : ∃ hv2 : Nat → Value, hv2 = fun k => if hasN (kO post) k = true then hv' k else hv k := ⟨_, rfl⟩
  have hvy : ∀ {k}, hasN (kO post) k = true → hv2 k = hv' k := fun {k} h1 => by rw [hhv]; simp only [h1, if_true]
  have hvn : ∀ {k}, hasN (kO post) k = false → hv2 k = hv k := fun {k} h1 => by rw [hhv]; simp [h1]
  obtain ⟨s2, hs2⟩ : ∃ s2, s2 = post ++ s := ⟨_, rfl⟩
  have hly : ∀ {k av}, look post k = some av → look s2 k = some av := fun {k av} h1 => by rw [hs2, look_append, h1]; rfl
  have hlc : ∀ {k av}, look s2 k = some av → look post k = some av ∨ (hasN (kO post) k = false ∧ look s k = some av) := fun {k av} h1 => by
    cases e : hasN (kO post) k with
    | true =>
      obtain ⟨av', h2⟩ := keys_look (hasN_mem e)
      rw [hly h2] at h1
      cases h1
      exact .inl h2
    | false =>
      rw [hs2, look_append, look_no e] at h1
      exact .inr ⟨rfl, h1⟩
  have hlive : ∀ n e, Live s2 n e → hasN (kO post) n = false ∧ Live s n e := fun n e ⟨h1, h2⟩ => by
    rcases hlc h1 with h3 | ⟨h3, h4⟩
    · exact absurd rfl (hqk h3).2.1
    · exact ⟨h3, h4, h2⟩
  have hln : ∀ n, LiveN s2 n → LiveN s n := fun n h1 => h1.imp id fun ⟨e, he⟩ => ⟨e, (hlive n e he).2⟩
  have hbw := h'.below
  -- blocks that were not lent
  have hold : ∀ b, b < w.heap.size → ¬ V.x b → w'.heap[b]? = w.heap[b]? := hbw.block
  have hk1 : ∀ b o u, Us w0 U0 D b o → w.cell? ⟨b, o, none⟩ = some u → Us w0 U0 D2 b o ∧ w'.cell? ⟨b, o, none⟩ = some u := fun b o u hu hc => by
    refine ⟨hu.imp id fun h1 => ⟨h1.1, by rw [hD2]; exact .inl h1.2⟩, ?_⟩
    have hnx : ¬ V.x b := fun hx => by
      obtain ⟨k, av, h1, h2, h3⟩ := (hVx b).1 hx
      obtain ⟨g1, g2, g3, _⟩ := hlk h1 h2
      obtain ⟨f1, f2, f3⟩ := h.blk k av b (hp _ _ h1) h2 g3 h3
      exact us_ne hu f1 (f3 o fun e => absurd e g2) rfl
    rw [World.cell?_of_block (w := w) (hold b (World.block_lt_of_cell? w _ hc) hnx)]
    exact hc
  have hk2 : ∀ b o u, Us w V D' b o → w'.cell? ⟨b, o, none⟩ = some u → Us w0 U0 D2 b o ∧ w'.cell? ⟨b, o, none⟩ = some u := fun b o u hu hc => by
    refine ⟨?_, hc⟩
    rcases hu with ⟨h1, h2, h3⟩ | ⟨h1, h2⟩
    · exact ((hVm b o).1 h2).imp id fun h4 => ⟨h4.1, by rw [hD2]; exact .inl h4.2⟩
    · exact .inr ⟨Nat.le_trans h.below.size h1, by rw [hD2]; exact .inr ⟨h1, h2⟩⟩
  -- what was lent is where it was
  have hbx : ∀ k, 400000 ≤ k → k < 500000 → hasN (kO pre) k = true → hv' k = hv k := fun k h2 h3 h1 => h'.fix k _ (hVf k h1 h2 h3)
  have hrow : ∀ {k av n}, look s k = some av → hasN (kO post) k = false → RN n → hasN (kO post) n = true → (n < 400000 ∨ hasN (kO pre) n = false) → av.n ≠ n := fun {k av n} h1 h2 h3 h4 h6 => by
    have h5 := hN _ (newN_row (pre := kO pre) (post := kO post) (hasN_mem h4) h3.2 h6)
    refine (h5 k av h1 ?_).1
    cases e : hasN (kO pre ++ kO post) k with
    | false => rfl
    | true =>
      rcases List.mem_append.1 (hasN_mem e) with e | e
      · rw [hsub (hasN_of e)] at h2; cases h2
      · rw [hasN_of e] at h2; cases h2
  have hbox : ∀ {k av n}, look s k = some av → hasN (kO post) k = false → BN n → 350000 ≤ n → hasN (kO post) (100000 + n) = true → hasN (kO pre) (100000 + n) = false → av.n ≠ n ∧ fnm k ≠ n ∧ fnm k + 1000000 ≠ n := fun {k av n} h1 h2 h3 h6 h4 h5 => by
    unfold BN at h3
    have h7 := hN _ (newN_box (pre := kO pre) (post := kO post) (hasN_mem h4) (by omega) (by omega) h5)
    rw [show 100000 + n - 100000 = n by omega] at h7
    refine h7 k av h1 ?_
    cases e : hasN (kO pre ++ kO post) k with
    | false => rfl
    | true =>
      rcases List.mem_append.1 (hasN_mem e) with e | e
      · rw [hsub (hasN_of e)] at h2; cases h2
      · rw [hasN_of e] at h2; cases h2
  have hfno : ∀ {n o av}, look s (fKey n o) = some av → hasN (kO post) (fKey n o) = false → o < 100 → 350000 ≤ n → n < 400000 → hasN (kO post) (100000 + n) = true → False := fun {n o av} h1 h2 h3 h4 h5 h6 => by
    cases e : hasN (kO pre) (100000 + n) with
    | false =>
      have := (hbox h1 h2 (.inr ⟨h4, h5⟩) h4 h6 e).2.1
      rw [fnm_key h3] at this
      exact this rfl
    | true =>
      have h7 := hN _ (newN_lent (pre := kO pre) (post := kO post) (hasN_mem h6) (by omega) (by omega) e)
      have h8 := (h7 (fKey n o) av h1 (by
        cases e : hasN (kO pre ++ kO post) (fKey n o) with
        | false => rfl
        | true =>
          rcases List.mem_append.1 (hasN_mem e) with e | e
          · rw [hsub (hasN_of e)] at h2; cases h2
          · rw [hasN_of e] at h2; cases h2)).2.2
      rw [fnm_key h3] at h8
      apply h8
      show n + 1000000 = 100000 + n - 100000 + 1000000
      omega
  -- what the caller knew
  have hm1 : ∀ {k av v}, look s k = some av → hasN (kO post) k = false → AVRep (Us w0 U0 D) w hv (LiveN s) av v → AVRep (Us w0 U0 D2) w' hv2 (LiveN s2) av v := fun {k av v} h1 h2 h3 =>
    h3.move hk1 (fun _ => hln _) fun hR => by
      cases e : hasN (kO post) (hk av) with
      | false => exact hvn e
      | true =>
        rcases hR with ⟨r1, r2, r3⟩ | ⟨r1, r2⟩ | ⟨r1, r2⟩
        · rw [hk_eq.2 (by omega)] at e
          rcases r2 with r4 | ⟨_, r4⟩
          · exact absurd r4 r3
          · exact absurd rfl (hrow h1 h2 ⟨r4.2.1, Nat.lt_trans r4.2.2 (by omega)⟩ e (.inl r4.2.2))
        · rw [hk_eq.1 r1] at e ⊢
          rw [hvy e]
          cases e2 : hasN (kO pre) (100000 + av.n) with
          | true =>
            obtain ⟨av', h7⟩ := keys_look (hasN_mem e)
            have := (hqk h7).1
            unfold BN at r2
            exact hbx _ (by omega) (by omega) e2
          | false =>
            have h6 : 350000 ≤ av.n := by
              obtain ⟨av', h7⟩ := keys_look (hasN_mem e)
              have := (hqk h7).1
              unfold BN at r2
              omega
            exact absurd rfl (hbox h1 h2 r2 h6 e e2).1
        · rw [hk_eq.2 (by omega)] at e ⊢
          cases e2 : hasN (kO pre) av.n with
          | false => exact absurd rfl (hrow h1 h2 r2 e (.inr e2))
          | true =>
            by_cases h4 : av.n < 400000
            · exact absurd rfl (hrow h1 h2 r2 e (.inl h4))
            · have := r2.2
              rw [hvy e]
              exact hbx _ (by omega) (by omega) e2
  -- what the call left
  have hm2 : ∀ {av v}, refB (kO post) av = true → AVRep (Us w V D') w' hv' (LiveN post) av v → AVRep (Us w0 U0 D2) w' hv2 (LiveN s2) av v := fun {av v} h1 h2 => by
    unfold refB at h1
    refine h2.move hk2 (fun h3 h4 => ?_) fun hR => ?_
    · rw [h3] at h1
      have h1 : Nat.ble av.n 1 = true := h1
      have := Nat.le_of_ble_eq_true h1
      rcases liveN_rn h4 with h5 | h5
      · exact .inl h5
      · unfold RN at h5; omega
    · rcases hR with ⟨r1, r2, r3⟩ | ⟨r1, r2⟩ | ⟨r1, r2⟩
      · rw [r1] at h1
        have h1 : Nat.ble av.n 1 = true := h1
        have := Nat.le_of_ble_eq_true h1
        rcases liveN_rn r2 with h5 | h5
        · exact absurd h5 r3
        · unfold RN at h5; omega
      · rw [r1] at h1
        have h1 : hasN (kO post) (hk av) = true := h1
        exact hvy h1
      · rcases r1 with r1 | r1 | r1 | r1 <;> (rw [r1] at h1; have h1 : hasN (kO post) (hk av) = true := h1; exact hvy h1)
  refine ⟨D2, hv2, ?_, fun r v h1 h2 => by rw [← hs2]; exact hm2 h1 h2, fun b o hd => by rw [hD2]; exact .inl hd⟩
  rw [← hs2]
  -- the block of what was not lent
  have hnotx : ∀ {k av g}, look s k = some av → hasN (kO post) k = false → oKey k → av.t ≠ 7 → hb (hv k) = some g → ¬ V.x g := fun {k av g} h1 h2 h3 h4 h5 hx => by
    obtain ⟨k', av', f1, f2, f3⟩ := (hVx g).1 hx
    refine h.disj k k' av av' g h1 (hp _ _ f1) h3 f2 h4 (hlk f1 f2).2.2.1 (fun e => ?_) h5 f3
    rw [e, hsub (hasN_of (mem_keys f1))] at h2
    cases h2
  have hlent : ∀ {g}, V.x g → ∃ k av, look s k = some av ∧ oKey k ∧ av.t ≠ 7 ∧ av.t ≠ 6 ∧ hasN (kO post) k = true ∧ hb (hv k) = some g := fun {g} hx => by
    obtain ⟨k', av', f1, f2, f3⟩ := (hVx g).1 hx
    obtain ⟨g1, g2, g3, _⟩ := hlk f1 f2
    exact ⟨k', av', hp _ _ f1, f2, g3, g2, hsub (hasN_of (mem_keys f1)), f3⟩
  refine ⟨⟨hbw.os.trans h.below.os, hbw.tape.trans h.below.tape, hbw.output.trans h.below.output, Nat.le_trans h.below.size hbw.size, fun b hb hx => ?_⟩, h.dfr, h.size, fun d av h1 h2 => ?_, fun n o av h1 h2 h3 h4 => ?_, fun n o o' av av' h1 h2 h3 h4 h5 => ?_, fun k av h1 h2 => ?_, fun k av g h1 h2 h3 h4 => ?_, fun k k' av av' g h1 h2 h3 h4 h5 h6 hne => ?_, fun n g h1 => ?_, fun b o hd => ?_⟩
  · rw [hold b (Nat.lt_of_lt_of_le hb h.below.size) fun hv => ?_]
    · exact h.below.block b hb hx
    · obtain ⟨k, av, f1, f2, f3, f4, f5, f6⟩ := hlent hv
      rcases (h.blk k av b f1 f2 f3 f6).1 with f7 | f7
      · omega
      · exact hx f7.2
  · rcases hlc h1 with h3 | ⟨h3, h4⟩
    · have := (hqk h3).1; omega
    · obtain ⟨v, f1, f2⟩ := h.slot d av h4 h2
      exact ⟨v, f1, hm1 h4 h3 f2⟩
  · have hob := hlc h3
    rcases hlc h1 with h5 | ⟨h5, h6⟩
    · rcases hob with h7 | ⟨h7, h8⟩
      · obtain ⟨v, f1, f2, f3⟩ := h'.fld n o av h5 h2 h7 h4
        refine ⟨v, hm2 (hqk h5).2.2 f1, f2, ?_⟩
        rw [hvy (hasN_of (mem_keys h7))]
        exact f3
      · rw [(hqf h5 h2).2.2] at h7; cases h7
    · rcases hob with h7 | ⟨h7, h8⟩
      · have h8 := (hqk h7).1
        have h4' := h4
        unfold BN at h4'
        exact (hfno h6 h5 h2 (by omega) (by omega) (hasN_of (mem_keys h7))).elim
      · obtain ⟨v, f1, f2, f3⟩ := h.fld n o av h6 h2 h8 h4
        refine ⟨v, hm1 h6 h5 f1, f2, fun i hi => ?_⟩
        rw [hvn h7]
        have f4 := f3 i hi
        obtain ⟨g2, ys, ty2, e1, e2, e3⟩ := h.obj9 h8 h4
        rw [e2] at f4 ⊢
        rw [World.cell?_of_block (w := w) (hold g2 (Array.getElem?_eq_some_iff.1 e3).1 (hnotx h8 h7 (bn_okey h4) (by simp) (by rw [e1]; rfl)))]
        exact f4
  · rcases hlc h1 with f1 | ⟨f1, f2⟩
    · rcases hlc h2 with f3 | ⟨f3, f4⟩
      · exact h'.fdis n o o' av av' f1 f3 h3 h4 h5
      · obtain ⟨g1, g2, g3⟩ := hqf f1 h3
        exact (hfno f4 f3 h4 g1 g2 g3).elim
    · rcases hlc h2 with f3 | ⟨f3, f4⟩
      · obtain ⟨g1, g2, g3⟩ := hqf f3 h4
        exact (hfno f2 f1 h3 g1 g2 g3).elim
      · exact h.fdis n o o' av av' f2 f4 h3 h4 h5
  · rcases hlc h1 with h3 | ⟨h3, h4⟩
    · rw [hvy (hasN_of (mem_keys h3))]
      refine (h'.obj k av h3 h2).move hk2 (fun h5 h6 => ?_) fun _ _ => rfl
      have h7 := (hqk h3).2.2
      unfold refB at h7
      rw [h5] at h7
      have h7 : Nat.ble av.n 1 = true := h7
      have := Nat.le_of_ble_eq_true h7
      rcases liveN_rn h6 with h8 | h8
      · exact ⟨.inl h8, by rw [h8]; rfl⟩
      · unfold RN at h8; omega
    · rw [hvn h3]
      by_cases h7 : av.t = 7
      · exact oc_no h7
      · refine (h.obj k av h4 h2).move hk1 (fun h5 h6 => ⟨hln _ h6, ?_⟩) fun g hg => hold g (h.blk k av g h4 h2 h7 hg).2.1 (hnotx h4 h3 h2 h7 hg)
        unfold tokv
        by_cases h8 : av.n = 1
        · rw [if_pos h8, if_pos h8]
        · rw [if_neg h8, if_neg h8]
          rcases h6 with h6 | ⟨e, he⟩
          · exact absurd h6 h8
          · rw [hvn (hlive _ _ he).1]
  · rcases hlc h1 with h5 | ⟨h5, h6⟩
    · rw [hvy (hasN_of (mem_keys h5))] at h4 ⊢
      obtain ⟨f1, f2, f3⟩ := h'.blk k av g h5 h2 h3 h4
      have ht6 := (hqk h5).2.1
      refine ⟨?_, f2, fun o _ hd => ?_⟩
      · rcases f1 with f1 | ⟨f1, f4⟩
        · exact .inl (Nat.le_trans h.below.size f1)
        · obtain ⟨k1, av1, e1, e2, e3, e4, e5, e6⟩ := hlent f4
          rcases (h.blk k1 av1 g e1 e2 e3 e6).1 with e7 | e7
          · exact .inl e7
          · exact .inr ⟨f1, e7.2⟩
      · rw [hD2] at hd
        rcases hd with hd | hd
        · rcases f1 with f1 | ⟨f1, f4⟩
          · have := h.dlt _ _ hd; omega
          · obtain ⟨k1, av1, e1, e2, e3, e4, e5, e6⟩ := hlent f4
            exact (h.blk k1 av1 g e1 e2 e3 e6).2.2 o (fun e => absurd e e4) hd
        · exact f3 o (fun e => absurd e ht6) hd.2
    · rw [hvn h5] at h4 ⊢
      obtain ⟨f1, f2, f3⟩ := h.blk k av g h6 h2 h3 h4
      refine ⟨f1, Nat.lt_of_lt_of_le f2 hbw.size, fun o ho hd => ?_⟩
      rw [hD2] at hd
      rcases hd with hd | hd
      · exact f3 o ho hd
      · omega
  · have hmix : ∀ {k k' av av'}, look post k = some av → oKey k → av.t ≠ 7 → look s k' = some av' → hasN (kO post) k' = false → oKey k' → av'.t ≠ 7 → hb (hv' k) = some g → hb (hv k') ≠ some g := fun {k k' av av'} e1 e2 e3 e4 e5 e6 e7 e8 e9 => by
      rcases (h'.blk k av g e1 e2 e3 e8).1 with f1 | f1
      · have := (h.blk k' av' g e4 e6 e7 e9).2.1; omega
      · exact hnotx e4 e5 e6 e7 e9 f1.2
    rcases hlc h1 with e1 | ⟨e1, e2⟩
    · rw [hvy (hasN_of (mem_keys e1))]
      rcases hlc h2 with e3 | ⟨e3, e4⟩
      · rw [hvy (hasN_of (mem_keys e3))]
        exact h'.disj k k' av av' g e1 e3 h3 h4 h5 h6 hne
      · rw [hvn e3]
        exact hmix e1 h3 h5 e4 e3 h4 h6
    · rw [hvn e1]
      rcases hlc h2 with e3 | ⟨e3, e4⟩
      · rw [hvy (hasN_of (mem_keys e3))]
        exact fun f1 f2 => hmix e3 h4 h6 e2 e1 h3 h5 f2 f1
      · rw [hvn e3]
        exact h.disj k k' av av' g e2 e4 h3 h4 h5 h6 hne
  · cases e : hasN (kO post) n with
    | false => rw [hvn e]; exact h.fix n g h1
    | true =>
      rw [hvy e]
      have h2 := U0.hf n g h1
      rw [hbx n h2.1 h2.2 (hnb n g h1 e)]
      exact h.fix n g h1
  · rw [hD2] at hd
    rcases hd with hd | hd
    · exact Nat.lt_of_lt_of_le (h.dlt b o hd) hbw.size
    · exact h'.dlt b o hd.2

def nbB (pre post : List Nat) : Bool := post.all fun k => match Nat.ble 400000 k && Nat.blt k 500000 with | true => hasN pre k | false => true
theorem hnb_of {pre post : List Nat} (h : nbB pre post = true) : ∀ k v, U0.f k = some v → hasN post k = true → hasN pre k = true := fun k v h1 h2 => by
  have h3 := U0.hf k v h1
  unfold nbB at h
  rw [List.all_eq_true] at h
  have h4 := h _ (hasN_mem h2)
  rw [Nat.ble_eq_true_of_le h3.1, blt_yes h3.2] at h4
  exact h4
theorem a_callO {f : FuncId} {xs : Array Operand} {ts : Array TypeId} {avs : List AV} {r : AV} {pre post : AS} (hg : Gd w0 U0 nt ops o gs S) (hd : o.dst = some d) (hn : Nat.blt d nt = true) (h5 : Nat.blt d 100000 = true)
    (ho : o.op = .call { callee := .value (.func f), args := xs, argTypes := ts }) (hx : evsA S xs.toList = some avs) (hc : AFunO P f pre avs r post) (hp : SubS S pre) (hl : pre.all lendB = true) (hq : post.all (leaveB (kO post)) = true) (hks : (kO pre).all (hasN (kO post)) = true) (hr : refB (kO post) r = true) (hnb : ∀ k v, U0.f k = some v → hasN (kO post) k = true → hasN (kO pre) k = true) :
    AOp P w0 U0 nt ops o (gs ++ (rdl xs.toList ++ kO pre)) (newN (kO pre) (kO post) (kO post)) S ((d, r) :: post) := by
  intro s hs hN a w ⟨D, hv, h⟩ Q K hK
  rw [if_pos (hg s (fun k hk => hs k (List.mem_append_left _ hk)) a w D hv h)]
  have hargs := evsA_rep h (fun k hk => hs k (List.mem_append_right _ (List.mem_append_left _ hk))) hx
  have hsub : Sub s pre := fun k av h1 => (hs k (List.mem_append_right _ (List.mem_append_right _ (mem_keys h1)))).trans (hp.look h1)
  obtain ⟨V, v1, v2, v3, v4, v5, v6⟩ := h.lend hsub hl
  obtain ⟨h1, h2⟩ := hc
  have hcall := h2 V w hv ⟨#[], []⟩ _ v1 v2 (hargs.imp fun c _ v hcv => hcv.move v6 (fun _ h3 => h3.imp id fun ⟨e, he⟩ => ⟨e, hsub _ _ he.1, he.2⟩) fun _ => rfl)
  have he : (execOp a.eval o).run P w = .ok (.enter f (xs.toList.map a.eval).toArray) w := by
    have hf : a.eval (.func f) = .func (.func f) #[] #[] := rfl
    have hen := h1 (xs.map a.eval) w
    have harr : (xs.toList.map a.eval).toArray = xs.map a.eval := by apply Array.ext'; simp
    rw [harr]
    generalize a.eval = ρ at hf hen ⊢
    simp [execOp, ho, resolve, invoke, Deferred.ofValue, hf, hen]
  unfold Oper.wp
  rw [he, Oper.upon_enter]
  refine hcall.mono ?_
  rintro e w' ⟨v, D', hv', a', rfl, h6, h7⟩
  rw [hd]
  obtain ⟨D2, hv2, h8, h9⟩ := h.back hsub hl hq hks hN hnb v3 v4 v5 v2 h6
  exact hK _ _ ⟨D2, hv2, h8.put (bL hn) (bL h5) (h9.1 r v hr h7)⟩

def argA : List AV → Nat → AS
  | [], _ => []
  | c :: cs, i => (i, c) :: argA cs (i + 1)
theorem look_argA : ∀ {cs : List AV} {i k : Nat} {av : AV}, look (argA cs i) k = some av → i ≤ k ∧ cs[k - i]? = some av
  | [], _, _, _, h => by simp [argA, look] at h
  | c :: cs, i, k, av, h => by
    rw [argA, look_cons] at h
    split at h
    · rename_i e; subst e; cases h; exact ⟨Nat.le_refl _, by simp⟩
    · rename_i e
      obtain ⟨h1, h2⟩ := look_argA h
      refine ⟨by omega, ?_⟩
      rw [show k - i = (k - (i + 1)) + 1 by omega]
      simpa using h2
noncomputable def resA (P : Program) (s : AS) (rs : List ResultVar) : Option AV := match rs with
  | [.tmp t] => match Nat.blt t 100000, look s t with
    | true, some ⟨0, c, _, _, _⟩ => some (.val c)
    | true, some av => some av
    | _, _ => none
  | rs => match resO P s rs with | some cs => some (resAV cs) | none => none
theorem resA_run (h : SimG w0 U0 nt s a w D hv) {fn : Func} {r : AV} (hr : resA P s fn.results.toList = some r) : ∃ v, (results fn a.tmps).run P w = .ok v w ∧ AVRep (Us w0 U0 D) w hv (LiveN s) r v := by
  unfold resA at hr
  split at hr
  · rename_i t ht
    have hrs : fn.results = #[.tmp t] := by apply Array.ext'; simpa using ht
    have hres : ∀ v, a.tmps[t]? = some v → (results fn a.tmps).run P w = .ok v w := fun v hv => by
      rw [results_eq, hrs]
      simp [resF, Array.getD_eq_getD_getElem?, hv]
    split at hr
    · rename_i c n q p h1 h2
      cases hr
      obtain ⟨v, h3, h4⟩ := h.slot t _ h2 (bL h1)
      exact ⟨v, hres v h3, avrep_val h4.1⟩
    · rename_i av h1 h2
      cases hr
      obtain ⟨v, h3, h4⟩ := h.slot t _ h2 (bL h1)
      exact ⟨v, hres v h3, h4⟩
    · cases hr
  · split at hr
    · rename_i cs h1
      cases hr
      obtain ⟨v, h2, h3⟩ := res_run h h1
      refine ⟨v, h2, avrep_rr ?_ ?_ h3⟩
      · unfold resAV; split
        · exact .inl rfl
        · exact .inr rfl
      · unfold resAV; split <;> rfl
    · cases hr
def EndO (P : Program) (w0 : World) (U0 : UX) (nt : Nat) (fn : Func) (s : AS) (r : AV) (post : AS) : Prop := ∃ s', Wk w0 U0 nt s s' ∧ resA P s' fn.results.toList = some r ∧ SubL s' post

theorem afunO_of {f : FuncId} {fn : Func} {c : Code} {pre post : AS} {args : List AV} {r : AV} (hf : P.funcs[f]? = some fn) (hn : fn.ntmps = nt) (hname : (fn.name == "runtime.NumGoroutine") = false) (hb : fn.body = some c) (hl : Nat.ble args.length nt = true) (hnt : Nat.blt nt 100000 = true) (hpre : (kO pre).all (Nat.ble 100000) = true) (hpost : (kO post).all (Nat.ble 100000) = true)
    (h : ∀ (w : World) (U : UX), (∀ k v, U.f k = some v → hasN (kO pre) k = true) → AWp P w U nt c (fun e s' => (e = .normal ∨ e = .ret) ∧ EndO P w U nt fn s' r post) (argA args 0 ++ pre)) : AFunO P f pre args r post := by
  refine ⟨ent_of hf hname (by rw [hb]; rfl), fun U w hv a0 vs hU hpS hargs => ?_⟩
  have hlen := hargs.len
  refine calls_of_wp hf hb ?_
  have hle := Nat.le_of_ble_eq_true hl
  have hnt := bL hnt
  have hlow : ∀ {k av}, look pre k = some av → 100000 ≤ k := fun {k av} h1 => by
    rw [List.all_eq_true] at hpre
    exact Nat.le_of_ble_eq_true (hpre k (mem_keys h1))
  have hlk : ∀ {k}, 100000 ≤ k → look (argA args 0 ++ pre) k = look pre k := fun {k} h1 => by
    rw [look_append]
    cases h2 : look (argA args 0) k with
    | none => rfl
    | some av =>
      obtain ⟨_, h3⟩ := look_argA h2
      rw [Nat.sub_zero, List.getElem?_eq_none (by omega)] at h3
      cases h3
  have hlive : LiveN (argA args 0 ++ pre) = LiveN pre := by
    funext n
    unfold LiveN Live
    apply propext
    constructor
    · rintro (h1 | ⟨e, h1, h2, h3⟩)
      · exact .inl h1
      · rw [hlk (by omega)] at h1; exact .inr ⟨e, h1, h2, h3⟩
    · rintro (h1 | ⟨e, h1, h2, h3⟩)
      · exact .inl h1
      · exact .inr ⟨e, by rw [hlk (by omega)]; exact h1, h2, h3⟩
  have hs : Sim w U nt (argA args 0 ++ pre) { tmps := vs.toArray ++ Array.replicate (fn.ntmps - vs.toArray.size) undef, defers := [] } w := by
    refine ⟨fun _ _ => False, hv, hpS.below, rfl, by simp [hn]; omega, fun d av h1 h2 => ?_, fun n o av h1 h2 h3 h4 => ?_, fun n o o' av av' h1 h2 => ?_, fun k av h1 h2 => ?_, fun k av g h1 h2 => ?_, fun k k' av av' g h1 h2 h3 h4 => ?_, hpS.fix, fun b o hd => hd.elim⟩
    · rw [look_append] at h1
      cases h3 : look (argA args 0) d with
      | none =>
        rw [h3] at h1
        have := hlow h1
        omega
      | some av' =>
        rw [h3] at h1
        cases h1
        obtain ⟨_, h4⟩ := look_argA h3
        rw [Nat.sub_zero] at h4
        obtain ⟨v, h6, h7⟩ := hargs.at h4
        have hdl : d < vs.length := by
          rcases Nat.lt_or_ge d vs.length with h | h
          · exact h
          · rw [List.getElem?_eq_none h] at h6; cases h6
        rw [hlive]
        refine ⟨v, ?_, h7⟩
        rw [Array.getElem?_append_left (by simpa using hdl)]
        simpa using h6
    · rw [hlk (by unfold fKey; omega)] at h1
      rw [hlk (by omega)] at h3
      rw [hlive]
      exact hpS.fld n o av h1 h2 h3 h4
    · rw [hlk (by unfold fKey; omega)] at h1 h2
      exact hpS.fdis n o o' av av' h1 h2
    · rw [hlk h2.1] at h1; rw [hlive]; exact hpS.obj k av h1 h2
    · rw [hlk h2.1] at h1; exact hpS.blk k av g h1 h2
    · rw [hlk h3.1] at h1; rw [hlk h4.1] at h2; exact hpS.disj k k' av av' g h1 h2 h3 h4
  refine wp_mono ((h w U hU ⟨none, []⟩ _ w hs).wp rfl (fun e a w ⟨s, _, h⟩ => h.df)) ?_
  rintro e a' w' ⟨s', ⟨h1, s2, g1, g2, g3⟩, h3⟩
  obtain ⟨D', hv', h4⟩ := g1 a' w' h3
  obtain ⟨v, h5, h6⟩ := resA_run h4 g2
  have hS := h4.sub g3.sub
  have hlow2 : ∀ {k av}, look post k = some av → 100000 ≤ k := fun {k av} h1 => by
    rw [List.all_eq_true] at hpost
    exact Nat.le_of_ble_eq_true (hpost k (mem_keys h1))
  have hS0 : SimG w U 0 post ⟨#[], []⟩ w' D' hv' := ⟨hS.below, rfl, rfl, fun d av h7 h8 => by have := hlow2 h7; omega, hS.fld, hS.fdis, hS.obj, hS.blk, hS.disj, hS.fix, hS.dlt⟩
  rcases h1 with rfl | rfl
  · exact ⟨h4.dfr, v, h5, v, D', hv', _, rfl, hS0, h6.move (fun _ _ _ h1 h2 => ⟨h1, h2⟩) (fun _ h7 => h7.imp id fun ⟨e, he⟩ => ⟨e, g3.sub _ _ he.1, he.2⟩) fun _ => rfl⟩
  · exact ⟨h4.dfr, v, h5, v, D', hv', _, rfl, hS0, h6.move (fun _ _ _ h1 h2 => ⟨h1, h2⟩) (fun _ h7 => h7.imp id fun ⟨e, he⟩ => ⟨e, g3.sub _ _ he.1, he.2⟩) fun _ => rfl⟩
end
def zeroT (P : Program) (e : TypeId) : Option CV := match P.info? e with
  | some it => match it.zero with
    | some (.agg cs) => match P.underlying e with
      | some (.struct fs) => match szO P fs.toList 0 with
        | some sz => match zsO sz cs.toList with | some zs => some (.row zs) | none => none
        | none => none
      | _ => none
    | some v => match plainV v with | true => some (cellCV v) | false => none
    | none => none
  | none => none
theorem zeroT_spec {P : Program} {e : TypeId} {c : CV} (h : zeroT P e = some c) : ∃ it z, P.info? e = some it ∧ it.zero = some z ∧ ∀ U w, Rep U w c z.cells.toList := by
  unfold zeroT at h
  split at h
  · rename_i it hi
    split at h
    · rename_i cs hz
      refine ⟨it, _, hi, hz, fun U w => ?_⟩
      split at h
      · split at h
        · split at h
          · rename_i zs h0
            cases h
            obtain ⟨segs, e1, e2, e3, e4, e5⟩ := zsO_spec (U := U) (w := w) h0
            rw [rep_row]
            show Sq _ cs.toList
            rw [← e1]
            exact sq_of_segs e4 (fun i c hi => by obtain ⟨seg, f1, f2, _⟩ := e5 i c hi; exact ⟨seg, f1, f2⟩)
          · cases h
        · cases h
      · cases h
    · rename_i v hz hv
      refine ⟨it, _, hi, hv, fun U w => ?_⟩
      split at h
      · rename_i hp
        cases h
        have := rep_plain U w v hp
        have hc : v.cells = #[v] := by
          cases v with
          | agg cs => exact absurd rfl (hz cs)
          | _ => rfl
        rw [hc]
        exact this
      · cases h
    · cases h
  · cases h

section
variable {P : Program} {w0 : World} {U0 : UX} {nt : Nat} {ops : Array Oper} {o : Oper} {S : Nat → Option AV} {gs : List Nat} {d : Nat} {s : AS} {a : Act} {w : World} {D : Nat → Nat → Prop} {hv : Nat → Value}

theorem sq_repl {U : Nat → Nat → Prop} {c : CV} {xs : List Value} (h : Rep U w c xs) : ∀ k, Sq ((List.replicate k c).map fun c => Rep U w c) (List.replicate k xs).flatten
  | 0 => rfl
  | k + 1 => ⟨_, _, rfl, h, sq_repl h k⟩
theorem slV_all {v : Value} {k cap : Nat} {ao : Option Addr} {z : Nat} (h : v = .slice ao k cap) (hk : k ≤ cap) (hg : ao = none ∨ ∃ g, ao = some ⟨g, 0, none⟩) : SlV v 0 k z v := by
  refine ⟨ao, k, cap, ao, h, by rw [h]; rfl, by omega, fun _ => rfl, fun _ g e => by rw [Nat.zero_mul]; exact e, Iff.rfl⟩
theorem own_addr {e z : Nat} {v : Value} {k : Nat} {xs : List Value} (h : w.ownsRow 0 e z v k xs) : ∃ ao cap, v = .slice ao k cap ∧ k ≤ cap ∧ (ao = none ∨ ∃ g, ao = some ⟨g, 0, none⟩) := by
  rcases h.2 with ⟨rfl, rfl⟩ | ⟨g, cap, cur, rfl, _, h3, h4, h5, h6, h7⟩
  · exact ⟨none, 0, rfl, Nat.le_refl _, .inl rfl⟩
  · exact ⟨_, cap, rfl, h4, .inr ⟨g, rfl⟩⟩

theorem appLawM {Q : Exit → Act → World → Prop} {K : Act → World → Prop} (h : SimG w0 U0 nt s a w D hv) {n e size bytes : Nat} {z : Value} {t : TypeId} (hd : o.dst = some d) (hdn : d < nt) (h5 : d < 100000) (hn : RW n) (hr : NoRef s n) {x y : Operand} (ho : o.op = .call { callee := .builtin .append, args := #[x, y], argTypes := #[t, t] })
    (ht : P.underlying t = some (.slice e)) (hi : (P.info? e).map (fun i => (i.zero, i.size, i.bytes)) = some (some z, size, bytes)) (hzs : z.cells.size = size) (hsz : 0 < size) (hbt : bytes ≤ 1000)
    {l l2 : List CV} (hl : ∀ c ∈ l, c.size = size) (hl2 : ∀ c ∈ l2, c.size = size) (hbd : l.length + l2.length ≤ 100000000000)
    {v : Value} (hx : a.eval x = v) (hy : VRep (Us w0 U0 D) w (.lst l2) (a.eval y)) {xs : List Value} (hown : w.ownsRow 0 e size v l.length xs) (hsq : Sq (l.map fun c => Rep (Us w0 U0 D) w c) xs)
    (hroom : ∀ g, v.ownBlock = some g → Mn w0 U0 (lcl n (.mrow e size (l ++ l2))) g ∧ (∀ o, ¬ D g o) ∧ ∀ q av, look s q = some av → oKey q → av.t ≠ 7 → q ≠ n → hb (hv q) ≠ some g)
    (hK : ∀ a' w', Sim w0 U0 nt ((d, .sl n 0 (l.length + l2.length) size) :: (n, .mrow e size (l ++ l2)) :: s) a' w' → K a' w') : o.wp P a w K Q := by
  obtain ⟨ao2, m, c2, g1, g2, g3, g4, g6, ys2, g7, g8⟩ := vrep_lst.1 hy
  have hyl2 : ys2.length = m * size := by rw [sq_len (n := CV.size) (fun c _ xs h => h.len) g8, sum_const hl2, g2]
  have hmul : (l.length + m) * bytes ≤ 100000000000 * 1000 := Nat.mul_le_mul (by omega) hbt
  obtain ⟨v', w', r1, r2, r3, r4⟩ := run_app (P := P) (ty := o.type) ht hi hzs hsz (Nat.zero_le _) hown g6 g7 hyl2 (rep_one_of g8) (by unfold maxLen; omega) (by omega)
  have hvs : ∀ {u : Value} {k xs} {w : World}, w.ownsRow 0 e size u k xs → hb u = u.ownBlock := fun {u k xs w} h1 => by
    rcases h1.2 with ⟨rfl, rfl⟩ | ⟨g, cap, cur, rfl, _⟩ <;> rfl
  have hb2 := hvs r2
  have hkp : ∀ b o u, Us w0 U0 D b o → w.cell? ⟨b, o, none⟩ = some u → Us w0 U0 D b o ∧ w'.cell? ⟨b, o, none⟩ = some u := fun b o u hu hc => by
    refine ⟨hu, ?_⟩
    have hlt : b < w.heap.size := World.block_lt_of_cell? w _ hc
    have hnb : some b ≠ v.ownBlock := fun e => by
      obtain ⟨f1, f2, _⟩ := hroom b e.symm
      exact us_ne hu f1 (f2 o) rfl
    rw [World.cell?_of_block (w := w) (r3.block b hlt hnb)]
    exact hc
  have hG := h.newrow (avn := .mrow e size (l ++ l2)) (v' := v') (D' := D) (X := fun b => v.ownBlock = some b) hn hr (by simp) ⟨r3.os, r3.tape, r3.output, r3.size, fun b hb hx => r3.block b hb fun e => hx e.symm⟩ (fun b hb => ⟨(hroom b hb).1, (hroom b hb).2.2⟩) (fun g hg => by
      rw [hb2] at hg
      refine ⟨?_, (r2.lt g hg).2, fun o _ hd => ?_⟩
      · rcases r4 with r4 | ⟨_, r4⟩
        · exact .inl (r4 ▸ hg)
        · exact .inr (r4 g hg)
      · rcases r4 with r4 | ⟨_, r4⟩
        · exact (hroom g (r4 ▸ hg)).2.1 o hd
        · have := r4 g hg
          have := h.dlt _ _ hd
          omega) (fun b o hd => .inl hd) (fun b o hd => Nat.lt_of_lt_of_le (h.dlt _ _ hd) r3.size) hkp (fun hv lv => by
      refine ⟨xs ++ ys2, ?_, hsz, fun c hc => ?_, ?_⟩
      · show w'.ownsRow 0 e size v' (l ++ l2).length (xs ++ ys2)
        rw [List.length_append, ← g2]
        exact r2
      · rcases List.mem_append.1 hc with hc | hc
        · exact hl c hc
        · exact hl2 c hc
      · show Sq ((l ++ l2).map _) _
        rw [List.map_append]
        exact sq_append (Sq.keep hkp hsq) (Sq.keep hkp g8))
  have he : (execOp a.eval o).run P w = .ok (.value v') w' := by
    generalize a.eval = ρ at hx g1 ⊢
    simp [execOp, ho, resolve, invoke, builtin, hx, g1, r1, Result.andThen]
  unfold Oper.wp
  rw [he, Oper.upon_value, hd]
  refine hK _ _ ⟨_, _, hG.put hdn h5 ?_⟩
  refine ⟨hn.rn, ?_⟩
  obtain ⟨a1, c1, e1, e2, e3⟩ := own_addr r2
  have := slV_all (z := size) e1 e2 e3
  show SlV ((fun x => if x = n then v' else hv x) n) 0 (l.length + l2.length) size v'
  simp only [if_true]
  rw [← g2]
  exact this

theorem a_app0M (nn : Nat) (hg : Gd w0 U0 nt ops o gs S) (hd : o.dst = some d) (hn : Nat.blt d nt = true) (h5 : Nat.blt d 100000 = true) {x y : Operand} {t e size bytes : Nat} {z : Value} {l2 : List CV} {n q n2 q2 p2} (ho : o.op = .call { callee := .builtin .append, args := #[x, y], argTypes := #[t, t] }) (ht : P.underlying t = some (.slice e)) (hi : (P.info? e).map (fun i => (i.zero, i.size, i.bytes)) = some (some z, size, bytes)) (hzs : Nat.beq z.cells.size size = true) (hsz : Nat.blt 0 size = true) (hbt : Nat.ble bytes 1000 = true)
    (hx : ev S x = some ⟨0, .lst [], n, q, []⟩) (hy : ev S y = some ⟨0, .lst l2, n2, q2, p2⟩) (hnn : (Nat.ble 200000 n && Nat.blt n 400000) = true) (hn2 : (Nat.ble 200000 nn && Nat.blt nn 400000) = true) (hne : Nat.beq n nn = false) (hlv : S n = some (.tok e size)) (hl2 : ∀ c ∈ l2, c.size = size) (hbd : l2.length ≤ 100000000000) :
    AOp P w0 U0 nt ops o (gs ++ (rd x ++ (rd y ++ [n]))) [(nn, [])] S [(d, .sl nn 0 l2.length size), (nn, .mrow e size l2), (n, .no)] := by
  intro s hs hN a w ⟨D, hv, h⟩ Q K hK
  rw [if_pos (hg s (fun k hk => hs k (List.mem_append_left _ hk)) a w D hv h)]
  obtain ⟨h1, h2⟩ : VRep (Us w0 U0 D) w (.lst []) (a.eval x) ∧ Tk hv (LiveN s) ⟨0, .lst [], n, q, []⟩ (a.eval x).cells.toList := ev_rep h (fun k hk => hs k (List.mem_append_right _ (List.mem_append_left _ hk))) hx
  have h3 := ev_val h (fun k hk => hs k (List.mem_append_right _ (List.mem_append_right _ (List.mem_append_left _ hk)))) hy
  have hrn := rnB hnn
  have hrn2 := rnB hn2
  have hok : oKey n := ⟨by omega, by omega⟩
  have hlk := (hs n (by simp)).trans hlv
  have hlive : Live s n (e, size) := ⟨hlk, hrn.1, hrn.2⟩
  have hval : a.eval x = hv n := by
    obtain ⟨m, c, g1, g2⟩ := h2 (.inr ⟨_, hlive⟩)
    simp only at g1
    rw [at_nil] at g1
    cases g1
    obtain ⟨ao, k, c, e1, _⟩ := vrep_lst.1 h1
    unfold tokv at g2
    rw [if_neg (by show n ≠ 1; omega)] at g2
    rw [e1] at g2 ⊢
    simpa [Value.cells] using g2
  obtain ⟨k, xs, g1, g2⟩ : ∃ k xs, w.ownsRow 0 e size (hv n) k xs ∧ 0 < size := h.obj n _ hlk hok
  have hvs : hb (hv n) = (hv n).ownBlock ∧ lenOf (hv n) = k := by
    rcases g1.2 with ⟨e1, e2⟩ | ⟨g, cap, cur, e1, _⟩
    · rw [e1, e2]; exact ⟨rfl, rfl⟩
    · rw [e1]; exact ⟨rfl, rfl⟩
  have hk0 : k = 0 := by
    obtain ⟨ao, k', c, e1, e2, _⟩ := vrep_lst.1 h1
    rw [hval] at e1
    rw [e1] at hvs
    have : k' = k := hvs.2
    rw [← this, e2]; rfl
  subst hk0
  have hx0 : xs = [] := List.eq_nil_of_length_eq_zero (by simpa using g1.1)
  subst hx0
  have hne' : n ≠ nn := fun e => by rw [e, Nat.beq_refl] at hne; cases hne
  refine appLawM (l := []) (n := nn) (h.kill hok) hd (bL hn) (bL h5) hrn2 (fun k av hk => ?_) ho ht hi (Nat.eq_of_beq_eq_true hzs) (bL hsz) (Nat.le_of_ble_eq_true hbt) (fun c hc => by cases hc) hl2 (by simpa using hbd) hval h3 g1 rfl (fun g hg => ?_) (fun a' w' hs' => hK a' w' ?_)
  · by_cases e : n = k
    · subst e
      rw [lS] at hk
      cases hk
      refine ⟨by show 0 ≠ _; omega, ?_⟩
      have hfn : fnm n = 100000 := by
        unfold fnm
        have : Nat.ble 500000 n = false := by
          cases hb : Nat.ble 500000 n with
          | false => rfl
          | true => have := Nat.le_of_ble_eq_true hb; omega
        rw [this]
      rw [hfn]
      omega
    · rw [lN e] at hk; exact (hN (nn, []) (by simp)).nr k av hk
  · rw [← hvs.1] at hg
    obtain ⟨f1, f2, f3⟩ := h.blk n _ g hlk hok (by simp) hg
    rw [lcl_tok rfl] at f1
    refine ⟨?_, fun o => f3 o fun _ => ?_, fun q av h6 h7 h8 h9 => ?_⟩
    · rcases f1 with f1 | f1
      · exact .inl f1
      · exact absurd rfl f1.1
    · rw [hvs.2]; simp
    · have hq : n ≠ q := fun e => by subst e; rw [lS] at h6; cases h6; exact h8 rfl
      rw [lN hq] at h6
      exact h.disj n q _ av g hlk h6 hok h7 (by simp) h8 hq hg
  · simpa using hs'
theorem a_appM (nn : Nat) (hg : Gd w0 U0 nt ops o gs S) (hd : o.dst = some d) (hn : Nat.blt d nt = true) (h5 : Nat.blt d 100000 = true) {x y : Operand} {t e size bytes : Nat} {z : Value} {l l2 : List CV} {n len n2 q2 p2} (ho : o.op = .call { callee := .builtin .append, args := #[x, y], argTypes := #[t, t] }) (ht : P.underlying t = some (.slice e)) (hi : (P.info? e).map (fun i => (i.zero, i.size, i.bytes)) = some (some z, size, bytes)) (hzs : Nat.beq z.cells.size size = true) (hbt : Nat.ble bytes 1000 = true)
    (hx : ev S x = some (.sl n 0 len size)) (hy : ev S y = some ⟨0, .lst l2, n2, q2, p2⟩) (hn2 : (Nat.ble 200000 nn && Nat.blt nn 400000) = true) (hne : (!Nat.beq n nn && (Nat.blt n 300000 || Nat.ble 300000 nn)) = true) (hlv : S n = some (.mrow e size l)) (hlen : len = l.length) (hl2 : ∀ c ∈ l2, c.size = size) (hbd : l.length + l2.length ≤ 100000000000) :
    AOp P w0 U0 nt ops o (gs ++ (rd x ++ (rd y ++ [n]))) [(nn, [])] S [(d, .sl nn 0 (l.length + l2.length) size), (nn, .mrow e size (l ++ l2)), (n, .no)] := by
  intro s hs hN a w ⟨D, hv, h⟩ Q K hK
  rw [if_pos (hg s (fun k hk => hs k (List.mem_append_left _ hk)) a w D hv h)]
  obtain ⟨hrn, hsl⟩ : RN n ∧ SlV (hv n) 0 len size (a.eval x) := ev_rep h (fun k hk => hs k (List.mem_append_right _ (List.mem_append_left _ hk))) hx
  have h3 := ev_val h (fun k hk => hs k (List.mem_append_right _ (List.mem_append_right _ (List.mem_append_left _ hk)))) hy
  have hrn2 := rnB hn2
  have hrn' := hrn
  unfold RN at hrn'
  have hok : oKey n := ⟨by omega, by omega⟩
  have hlk := (hs n (by simp)).trans hlv
  obtain ⟨xs, g1, g2, g3, g4⟩ := h.mrow hlk hrn
  have hval : a.eval x = hv n := by
    obtain ⟨ao, m, cap, ao', e1, e2, e3, e4, _⟩ := hsl
    obtain ⟨ao2, cap2, f1, f2, f3⟩ := own_addr g1
    rw [f1] at e1 ⊢
    injection e1 with e5 e6 e7
    subst e5; subst e6; subst e7
    rw [e2, e4 rfl, hlen]; rfl
  have hvs : hb (hv n) = (hv n).ownBlock := by
    rcases g1.2 with ⟨e1, e2⟩ | ⟨g, cap, cur, e1, _⟩
    · rw [e1]; rfl
    · rw [e1]; rfl
  rw [Bool.and_eq_true, Bool.or_eq_true] at hne
  have hne' : n ≠ nn := fun e => by rw [e, Nat.beq_refl] at hne; exact absurd hne.1 (by decide)
  refine appLawM (l := l) (n := nn) (h.kill hok) hd (bL hn) (bL h5) hrn2 (fun k av hk => ?_) ho ht hi (Nat.eq_of_beq_eq_true hzs) g2 (Nat.le_of_ble_eq_true hbt) g3 hl2 hbd hval h3 g1 g4 (fun g hg => ?_) (fun a' w' hs' => hK a' w' hs')
  · by_cases e : n = k
    · subst e
      rw [lS] at hk
      cases hk
      refine ⟨by show 0 ≠ _; omega, ?_⟩
      have hfn : fnm n = 100000 := by
        unfold fnm
        have : Nat.ble 500000 n = false := by
          cases hb : Nat.ble 500000 n with
          | false => rfl
          | true => have := Nat.le_of_ble_eq_true hb; omega
        rw [this]
      rw [hfn]
      omega
    · rw [lN e] at hk; exact (hN (nn, []) (by simp)).nr k av hk
  · rw [← hvs] at hg
    obtain ⟨f1, f2, f3⟩ := h.blk n _ g hlk hok (by simp) hg
    refine ⟨?_, fun o => f3 o (fun e => by cases e), fun q av h6 h7 h8 h9 => ?_⟩
    · rcases f1 with f1 | f1
      · exact .inl f1
      · rcases hne.2 with h6 | h6
        · rw [lcl_own (bL h6)] at f1; exact absurd rfl f1.1
        · exact .inr ⟨by rw [lcl_row (Nat.le_of_ble_eq_true h6)]; simp, f1.2⟩
    · have hq : n ≠ q := fun e => by subst e; rw [lS] at h6; cases h6; exact h8 rfl
      rw [lN hq] at h6
      exact h.disj n q _ av g hlk h6 hok h7 (by simp) h8 hq hg

theorem a_clearM (hg : Gd w0 U0 nt ops o gs S) (hd : o.dst = none) {x : Operand} {t e e' : TypeId} {ts : Array TypeId} {n lo len z : Nat} {l : List CV} {zc : CV} (ho : o.op = .call { callee := .builtin .clear, args := #[x], argTypes := ts }) (ht : ts[0]? = some t) (hu : P.underlying t = some (.slice e)) (hzc : zeroT P e = some zc) (hx : ev S x = some (.sl n lo len z)) (hm' : S n = some (.mrow e' z l)) (hzz : zc.size = z) (hl : lo + len ≤ l.length) :
    AOp P w0 U0 nt ops o (gs ++ (rd x ++ [n])) [] S [(n, .mrow e' z (l.take lo ++ (List.replicate len zc ++ l.drop (lo + len))))] := by
  intro s hs hN a w ⟨D, hv, h⟩ Q K hK
  rw [if_pos (hg s (fun k hk => hs k (List.mem_append_left _ hk)) a w D hv h)]
  have hm := (hs n (by simp)).trans hm'
  obtain ⟨hrn, ao, m, cap, ao', h1, h2, h3, h4, h6, h7⟩ : RN n ∧ SlV (hv n) lo len z (a.eval x) := ev_rep h (fun k hk => hs k (List.mem_append_right _ (List.mem_append_left _ hk))) hx
  obtain ⟨xs, g1, g2, g3, g4⟩ := h.mrow hm hrn
  obtain ⟨it, zv, i1, i2, i3⟩ := zeroT_spec hzc
  by_cases hl0 : len = 0
  · subst hl0
    have he : (execOp a.eval o).run P w = .ok (.value (.tuple #[])) w := by
      generalize a.eval = ρ at h2 ⊢
      cases ao' <;> simp [execOp, ho, resolve, invoke, builtin, Builtin.clear_, ht, h2, run_underlying hu]
    unfold Oper.wp
    rw [he, Oper.upon_value, hd]
    have : l.take lo ++ (List.replicate 0 zc ++ l.drop (lo + 0)) = l := by simp
    refine hK _ _ ⟨D, hv, h.congr fun k => ?_⟩
    rw [this]
    by_cases e : n = k
    · subst e; rw [List.cons_append, lS]; exact hm.symm
    · rw [List.cons_append, lN e]; rfl
  obtain ⟨g, cap', cur, f1, f2, f3, f4, f6, f7, f8, f9⟩ := own_some g1 (by omega)
  obtain rfl : cap = cap' := by rw [f1] at h1; injection h1 with k1 k2 k3; exact k3.symm
  obtain rfl : ao = some ⟨g, 0, none⟩ := by rw [f1] at h1; injection h1 with k1 k2 k3; exact k1.symm
  have ha : ao' = some ⟨g, lo * z, none⟩ := h6 (by omega) g rfl
  subst ha
  have hzl : zv.cells.size = z := by have := (i3 (fun _ _ => True) w).len; rw [hzz] at this; simpa using this
  obtain ⟨zs, hzs⟩ : ∃ zs, zs = (List.replicate len zv.cells.toList).flatten := ⟨_, rfl⟩
  have hzsl : zs.length = len * z := by rw [hzs]; simp [hzl]
  have hzc2 : (Builtin.zeroCells zv.cells len).toList = zs := by
    rw [hzs]
    apply List.ext_getElem?
    intro k
    rw [flat_const g2 _ (by intro v hv'; rw [List.mem_replicate] at hv'; rw [hv'.2]; simpa using hzl)]
    unfold Builtin.zeroCells
    rw [hzl]
    by_cases hk : k < len * z
    · have e1 : k / z < len := (Nat.div_lt_iff_lt_mul g2).2 hk
      have e2 : k % z < zv.cells.size := by rw [hzl]; exact Nat.mod_lt _ g2
      simp [hk, List.getElem?_replicate, e1, e2]
    · have e1 : ¬ k / z < len := by rw [Nat.div_lt_iff_lt_mul g2]; exact hk
      simp [hk, List.getElem?_replicate, e1]
  have hone : ∀ v ∈ zs, v.oneCell' = true := by
    intro v hv'
    rw [hzs, List.mem_flatten] at hv'
    obtain ⟨r, hr1, hr2⟩ := hv'
    rw [List.mem_replicate] at hr1
    rw [hr1.2] at hr2
    exact (i3 (fun _ _ => True) w).one v hr2
  have hcl : lo * z + len * z ≤ l.length * z := by rw [← Nat.add_mul]; exact Nat.mul_le_mul_right _ hl
  have hcap : l.length * z ≤ cap * z := Nat.mul_le_mul_right _ f3
  have hst := run_storeCells_at (P := P) g (lo * z) e' zs 0 cur w f2 (by rw [hzsl, f6]; omega) hone
  rw [Nat.add_zero] at hst
  have he : (execOp a.eval o).run P w = .ok (.value (.tuple #[])) (w.setRow g (cur.toList.take (lo * z) ++ zs ++ cur.toList.drop (lo * z + zs.length)).toArray) := by
    have hzv : (zeroValue e).run P w = .ok zv w := by simp [zeroValue, typeInfo, i1, i2]
    obtain ⟨len', rfl⟩ : ∃ k, len = k + 1 := ⟨len - 1, by omega⟩
    generalize a.eval = ρ at h2 ⊢
    simp [execOp, ho, resolve, invoke, builtin, Builtin.clear_, ht, h2, run_underlying hu, hzv, hzc2, hst]
  unfold Oper.wp
  rw [he, Oper.upon_value, hd]
  have hok : oKey n := by unfold RN at hrn; unfold oKey; omega
  obtain ⟨l', hl'⟩ : ∃ l', l' = l.take lo ++ (List.replicate len zc ++ l.drop (lo + len)) := ⟨_, rfl⟩
  have hll : l'.length = l.length := by rw [hl']; simp; omega
  refine hK _ _ ?_
  rw [← hl']
  refine ⟨_, _, h.store (av := .mrow e' z l') hok hm (by simp) (by simp) rfl (fun g' hn o _ => hn o (by simp)) (by simp) f9 f2 fun w' hw hkp => ?_⟩
  have hsplit : l = l.take lo ++ ((l.drop lo).take len ++ (l.drop lo).drop len) := by rw [List.take_append_drop, List.take_append_drop]
  have g4' := g4
  rw [hsplit, List.map_append, List.map_append] at g4'
  obtain ⟨y1, r1, e1, s1, s2⟩ := sq_split g4'
  obtain ⟨y2, y3, e2, s3, s4⟩ := sq_split s2
  have hy1 : y1.length = lo * z := by rw [sq_len (n := CV.size) (fun c _ xs h => h.len) s1, sum_const (fun c hc => g3 c (List.mem_of_mem_take hc)), List.length_take, Nat.min_eq_left (by omega)]
  have hy2 : y2.length = len * z := by rw [sq_len (n := CV.size) (fun c _ xs h => h.len) s3, sum_const (fun c hc => g3 c (List.mem_of_mem_drop (List.mem_of_mem_take hc))), List.length_take, List.length_drop, Nat.min_eq_left (by omega)]
  have hy3 : y1.length + (y2.length + y3.length) = l.length * z := by have := g1.1; rw [e1, e2] at this; simpa using this
  have hcur : cur.toList = y1 ++ (y2 ++ (y3 ++ cur.toList.drop (l.length * z))) := by
    conv => lhs; rw [← List.take_append_drop (l.length * z) cur.toList, f7, e1, e2]
    simp
  have hnew : cur.toList.take (lo * z) ++ zs ++ cur.toList.drop (lo * z + zs.length) = (y1 ++ (zs ++ y3)) ++ cur.toList.drop (l.length * z) := by
    have t1 : cur.toList.take (lo * z) = y1 := by rw [hcur, ← hy1]; simp
    have t2 : cur.toList.drop (lo * z + zs.length) = y3 ++ cur.toList.drop (l.length * z) := by
      rw [hzsl, ← hy1, ← hy2]
      conv => lhs; rw [hcur]
      rw [← List.append_assoc, List.drop_append_of_le_length (by simp)]
      simp
    rw [t1, t2]
    simp
  rw [hnew] at hw
  refine ⟨y1 ++ (zs ++ y3), ⟨?_, .inr ⟨g, cap, _, ?_, Nat.zero_le _, hw, ?_, f4, ?_, ?_⟩⟩, g2, fun x hx => ?_, ?_⟩
  · show _ = l'.length * z
    rw [hll]
    simp only [List.length_append, hzsl]
    omega
  · show hv n = .slice _ l'.length cap
    rw [hll]; exact f1
  · show l'.length ≤ cap
    rw [hll]; exact f3
  · have := congrArg List.length hcur
    rw [Array.length_toList, f6] at this
    simp only [List.size_toArray, List.length_append, hzsl] at this ⊢
    show _ = cap * z
    omega
  · show List.take (l'.length * z) _ = _
    rw [hll, List.take_append_of_le_length (by simp only [List.length_append, hzsl]; omega), List.take_of_length_le (by simp only [List.length_append, hzsl]; omega)]
  · have hx : x ∈ l' := hx
    rw [hl', List.mem_append, List.mem_append] at hx
    rcases hx with hx | hx | hx
    · exact g3 x (List.mem_of_mem_take hx)
    · rw [List.mem_replicate] at hx; rw [hx.2, hzz]; rfl
    · exact g3 x (List.mem_of_mem_drop hx)
  · show Sq (l'.map fun c => Rep (Us w0 U0 D) w' c) _
    rw [hl', List.map_append, List.map_append]
    refine sq_append (Sq.keep hkp s1) (sq_append ?_ ?_)
    · rw [hzs]; exact sq_repl (i3 _ _) len
    · rw [← List.drop_drop]
      exact Sq.keep hkp s4

def AFunW (P : Program) (W : World) (fc : CV) (args : List CV) (r : AV) : Prop := AFunV P W fc args r ∨ ∃ f, fc = .sc (.func (.func f) #[] #[]) ∧ AFun P W f args r
theorem a_callw {x : Operand} {xs : Array Operand} {ts : Array TypeId} {fc : CV} {cs : List CV} {r : AV} {n q p} (hg : Gd w0 U0 nt ops o gs S) (hd : o.dst = some d) (hn : Nat.blt d nt = true) (h5 : Nat.blt d 100000 = true)
    (ho : o.op = .call { callee := .value x, args := xs, argTypes := ts }) (hf : ev S x = some ⟨0, fc, n, q, p⟩) (hx : evsO S xs.toList = some cs) (hc : AFunW P w0 fc cs r) : AOp P w0 U0 nt ops o (gs ++ (rd x ++ rdl xs.toList)) [] S [(d, r)] := by
  rcases hc with hc | ⟨f, rfl, hc⟩
  · exact a_callv hg hd hn h5 ho hf hx hc
  intro s hs _ a w ⟨D, hv, h⟩ Q K hK
  rw [if_pos (hg s (fun k hk => hs k (List.mem_append_left _ hk)) a w D hv h)]
  have hargs := evsO_rep h (fun k hk => hs k (List.mem_append_right _ (List.mem_append_right _ hk))) hx
  have hfv := ev_sc h (fun k hk => hs k (List.mem_append_right _ (List.mem_append_left _ hk))) hf
  obtain ⟨h1, h2, h3, h4⟩ := hc
  have hcall := h4 _ w _ trivial hargs
  have he : (execOp a.eval o).run P w = .ok (.enter f (xs.toList.map a.eval).toArray) w := by
    have hen := h1 (xs.map a.eval) w
    have harr : (xs.toList.map a.eval).toArray = xs.map a.eval := by apply Array.ext'; simp
    rw [harr]
    generalize a.eval = ρ at hfv hen ⊢
    simp [execOp, ho, resolve, invoke, Deferred.ofValue, hfv, hen]
  unfold Oper.wp
  rw [he, Oper.upon_enter]
  refine hcall.mono ?_
  rintro e w' ⟨v, rfl, h6, h7⟩
  rw [hd]
  exact hK _ _ ⟨Dn D w w', hv, (h.growN h7).put (bL hn) (bL h5) (avrep_rr h2 h3 (us_of_rr rfl h7.size h.below.size h6))⟩

theorem AWp.nil {c : Code} {Q : Exit → AS → Prop} (d : Nat) {l : List CV} (h5 : Nat.blt d 100000 = true) (hs : look s d = some (.val (.lst l))) (h1 : l = [] → AWp P w0 U0 nt c Q ((d, ⟨0, .lst [], 1, 0, []⟩) :: s)) (h2 : AWp P w0 U0 nt c Q ((d, ⟨16, .lst l, 0, 0, []⟩) :: s)) : AWp P w0 U0 nt c Q s := by
  intro M a w ⟨D, hv, h⟩
  have h5 := bL h5
  obtain ⟨v, g1, g2⟩ := h.slot d _ hs h5
  have g2 : VRep (Us w0 U0 D) w (.lst l) v := g2.1
  cases hn : isNil v with
  | false => exact h2 M a w ⟨D, hv, h.know h5 g1 ⟨g2, hn⟩⟩
  | true =>
    have hv0 := isNil_eq hn
    subst hv0
    obtain ⟨ao, n, cc, e1, e2, _⟩ := vrep_lst.1 g2
    injection e1 with _ e3 _
    have hl : l = [] := List.eq_nil_of_length_eq_zero (by omega)
    subst hl
    exact h1 rfl M a w ⟨D, hv, h.know h5 g1 ⟨g2, fun _ => ⟨0, .lst [], rfl, rfl⟩⟩⟩
theorem wk_not (d : Nat) {c : CV} (h5 : Nat.blt d 100000 = true) (hs : look s d = some ⟨16, c, 0, 0, []⟩) : Wk w0 U0 nt s ((d, .val c) :: s) := by
  rintro a w ⟨D, hv, h⟩
  have h5 := bL h5
  obtain ⟨v, g1, g2⟩ := h.slot d _ hs h5
  exact ⟨D, hv, h.know h5 g1 (avrep_val g2.1)⟩
theorem run_eqnil {t e : TypeId} (hu : P.underlying t = some (.slice e)) (v : Value) (w : World) (hv : ∃ ao n c, v = .slice ao n c ∧ (ao = none → n = 0 ∧ c = 0)) : (Op.equal t v (.slice none 0 0)).run P w = .ok (isNil v) w := by
  obtain ⟨ao, n, c, rfl, h⟩ := hv
  unfold Op.equal
  rw [show Op.maxDepth = 9999 + 1 from rfl, Op.equalIn]
  cases ao with
  | none => obtain ⟨rfl, rfl⟩ := h rfl; simp [run_underlying hu, isNil]
  | some ad => simp [run_underlying hu, isNil]
theorem a_isnil (hg : Gd w0 U0 nt ops o gs S) (hd : o.dst = some d) (hn : Nat.blt d nt = true) (h5 : Nat.blt d 100000 = true) {x : Operand} {t1 t2 e : TypeId} {q} (ho : o.op = .binOp .eql t1 x (.const (.slice none 0 0)) t2) (hu : P.underlying t1 = some (.slice e)) (hx : ev S x = some ⟨0, .lst [], 1, q, []⟩) : AOp P w0 U0 nt ops o (gs ++ rd x) [] S [(d, .val (.b true))] :=
  aop_val hg hd hn h5 (fun k hk => List.mem_append_left _ hk) fun s hs a w D hv hm => by
    obtain ⟨h1, h2⟩ : VRep (Us w0 U0 D) w (.lst []) (a.eval x) ∧ Tk hv (LiveN s) ⟨0, .lst [], 1, q, []⟩ (a.eval x).cells.toList := ev_rep hm (fun k hk => hs k (List.mem_append_right _ hk)) hx
    have hnil : a.eval x = .slice none 0 0 := by
      obtain ⟨m, c, g1, g2⟩ := h2 (.inl rfl)
      simp only at g1
      rw [at_nil] at g1
      cases g1
      obtain ⟨ao, k, c, e1, _⟩ := vrep_lst.1 h1
      rw [e1] at g2 ⊢
      simpa [Value.cells, tokv] using g2
    refine ⟨.bool true, ?_, avrep_sc rfl⟩
    have hb := run_eqnil (P := P) hu (.slice none 0 0) w ⟨none, 0, 0, rfl, fun _ => ⟨rfl, rfl⟩⟩
    have hc : a.eval (.const (.slice none 0 0)) = .slice none 0 0 := rfl
    generalize a.eval = ρ at hnil hc ⊢
    simp [execOp, ho, hnil, hc, eqGuard, binOp, hb, isNil]
theorem a_notnil (hg : Gd w0 U0 nt ops o gs S) (hd : o.dst = some d) (hn : Nat.blt d nt = true) (h5 : Nat.blt d 100000 = true) {x : Operand} {t1 t2 e : TypeId} {l : List CV} {n q p} (ho : o.op = .binOp .eql t1 x (.const (.slice none 0 0)) t2) (hu : P.underlying t1 = some (.slice e)) (hx : ev S x = some ⟨16, .lst l, n, q, p⟩) : AOp P w0 U0 nt ops o (gs ++ rd x) [] S [(d, .val (.b false))] :=
  aop_val hg hd hn h5 (fun k hk => List.mem_append_left _ hk) fun s hs a w D hv hm => by
    obtain ⟨h1, h2⟩ : VRep (Us w0 U0 D) w (.lst l) (a.eval x) ∧ isNil (a.eval x) = false := ev_rep hm (fun k hk => hs k (List.mem_append_right _ hk)) hx
    obtain ⟨ao, k, c, e1, e2, e3, e4, e5, _⟩ := vrep_lst.1 h1
    refine ⟨.bool false, ?_, avrep_sc rfl⟩
    have hb := run_eqnil (P := P) hu (a.eval x) w ⟨ao, k, c, e1, e5⟩
    rw [h2] at hb
    have hc : a.eval (.const (.slice none 0 0)) = .slice none 0 0 := rfl
    generalize a.eval = ρ at hb hc ⊢
    simp [execOp, ho, hc, eqGuard, binOp, hb]
theorem wk_nilM (d n e z : Nat) (hs : look s d = some ⟨0, .lst [], 1, 0, []⟩) (h5 : Nat.blt d 100000 = true) (hn : (Nat.ble 200000 n && Nat.blt n 400000) = true) (hz : Nat.blt 0 z = true) (hr : noRefB s [(n, [])] = true) : Wk w0 U0 nt s ((d, .sl n 0 0 z) :: (n, .mrow e z []) :: s) := by
  rintro a w ⟨D, hv, h⟩
  have h5 := bL h5
  have hrn := rnB hn
  have hz := bL hz
  have hr := (noRefB_spec hr (n, []) (by simp)).nr
  obtain ⟨v, g1, g2⟩ := h.slot d _ hs h5
  have hv0 : v = .slice none 0 0 := by
    obtain ⟨h1, h2⟩ : VRep (Us w0 U0 D) w (.lst []) v ∧ Tk hv (LiveN s) ⟨0, .lst [], 1, 0, []⟩ v.cells.toList := g2
    obtain ⟨m, c, f1, f2⟩ := h2 (.inl rfl)
    simp only at f1
    rw [at_nil] at f1
    cases f1
    obtain ⟨ao, k, c, e1, _⟩ := vrep_lst.1 h1
    rw [e1] at f2 ⊢
    simpa [Value.cells, tokv] using f2
  have hG := h.newrow (X := fun _ => False) (avn := .mrow e z []) (v' := .slice none 0 0) hrn hr (by simp) (BelowX.refl _ _) (fun b hb => hb.elim) (fun g hg => by cases hg) (fun b o hd => .inl hd) h.dlt (fun b o u h1 h2 => ⟨h1, h2⟩) (fun hv lv => ⟨[], World.ownsRow_nil _ _ _ _, hz, (fun c hc => by cases hc), rfl⟩)
  refine ⟨D, _, hG.know h5 g1 ⟨RW.rn hrn, ?_⟩⟩
  show SlV ((fun x => if x = n then Value.slice none 0 0 else hv x) n) 0 0 z v
  simp only [if_true]
  rw [hv0]
  exact slV_all rfl (Nat.le_refl _) (.inl rfl)
end
end Go.Proofs.YtmeegdomncadpaaGreat
namespace Go.Proofs.YtmeegdomncadpaaGreat
open Go.RowKit
set_option linter.unusedVariables false
set_option linter.unusedSimpArgs false
set_option maxRecDepth 100000
section
variable {α : Type} (lt : α → α → Bool) (a : Nat)
def sink : Nat → List α → List α
  | 0, L => L
  | j + 1, L => match L[j + 1]?, L[j]? with
    | some x, some y => if a < j + 1 ∧ lt x y = true then sink j ((L.set (j + 1) y).set j x) else L
    | _, _ => L
def isortN : Nat → Nat → List α → List α
  | 0, _, L => L
  | n + 1, i, L => isortN n (i + 1) (sink lt a i L)
theorem sink_len : ∀ (j : Nat) (L : List α), (sink lt a j L).length = L.length
  | 0, L => rfl
  | j + 1, L => by
    unfold sink
    split
    · split
      · rw [sink_len j]; simp
      · rfl
    · rfl
theorem sink_stop {j : Nat} {L : List α} (h : ¬ a < j) : sink lt a j L = L := by
  cases j with
  | zero => rfl
  | succ j => unfold sink; split <;> simp [h]
theorem sink_no {j : Nat} {L : List α} {x y : α} (hx : L[j + 1]? = some x) (hy : L[j]? = some y) (h : lt x y = false) : sink lt a (j + 1) L = L := by
  unfold sink; rw [hx, hy]; simp [h]
theorem sink_yes {j : Nat} {L : List α} {x y : α} (hx : L[j + 1]? = some x) (hy : L[j]? = some y) (ha : a < j + 1) (h : lt x y = true) : sink lt a (j + 1) L = sink lt a j ((L.set (j + 1) y).set j x) := by
  conv => lhs; unfold sink
  rw [hx, hy]; simp [h, ha]
theorem isortN_len : ∀ (n i : Nat) (L : List α), (isortN lt a n i L).length = L.length
  | 0, _, L => rfl
  | n + 1, i, L => by rw [isortN, isortN_len n, sink_len]
end

def ltC (cmp : Bd → Bd → Int) (x y : Bd) : Bool := decide (cmp x y < 0)
def cmpB (x y : Bd) : Int := cmpZ x.v y.v
def idleB (b : Bd) : Bool := decide (b.t.f < 0) && decide (-1 - b.t.f = b.v)
def idxB (q : Bd → Bool) : List Bd → Nat → Int
  | [], _ => -1
  | b :: l, i => if q b then (i : Int) else idxB q l (i + 1)
def Bd.zero : Bd := ⟨0, ⟨0, []⟩⟩
def cptN (q : Bd → Bd → Bool) (L : List Bd) : Nat → List Bd
  | 0 => []
  | m + 1 => match L[m]?, (match m with | 0 => none | k + 1 => L[k]?) with
    | some x, some y => if q x y then cptN q L m else cptN q L m ++ [x]
    | some x, none => cptN q L m ++ [x]
    | none, _ => cptN q L m
theorem take_snoc {α : Type} {l : List α} {k : Nat} {x : α} (h : l[k]? = some x) : l.take (k + 1) = l.take k ++ [x] := by
  rw [List.take_add_one, h]; rfl
theorem set_take {α : Type} {l : List α} {k : Nat} {x : α} (h : k < l.length) : (l.set k x).take (k + 1) = l.take k ++ [x] := by
  rw [take_snoc (x := x) (by simp [h]), List.take_set_of_le (Nat.le_refl _)]
theorem varT_rng {v : Int} (h1 : 0 ≤ v) (h2 : v ≤ 9223372036854775807) : (varT v).rng := (Tm.rng_iff _).2 ⟨by show _ ≤ -1 - v ∧ -1 - v ≤ _; omega, fun s hs => by cases hs⟩
theorem varT_size (v : Int) : (varT v).size = 1 := by
  rw [Tm.size_eq]
  have : (varT v).ps = [] := by unfold Tm.ps varT; simp
  rw [this]; rfl
theorem findB_mem : ∀ {l : List Bd} {v : Int} {t : Tm}, findB l v = some t → ∃ b ∈ l, b.t = t ∧ b.v = v
  | [], v, t, h => by cases h
  | b :: l, v, t, h => by
    rw [findB] at h
    split at h
    · rename_i e; cases h; exact ⟨b, by simp, rfl, e⟩
    · obtain ⟨c, h1, h2⟩ := findB_mem h
      exact ⟨c, List.mem_cons_of_mem _ h1, h2⟩
def bdsOk (l : List Bd) : Prop := ∀ b ∈ l, b.t.rng ∧ b.t.size ≤ 90000000000
theorem imgB_ok {l : List Bd} (h : bdsOk l) {v : Int} (h1 : 0 ≤ v) (h2 : v ≤ 9223372036854775807) : (imgB l v).rng ∧ (imgB l v).size ≤ 90000000000 := by
  unfold imgB
  cases hf : findB l v with
  | none => exact ⟨varT_rng h1 h2, by show (varT v).size ≤ _; rw [varT_size]; omega⟩
  | some t =>
    obtain ⟨b, hb, e, _⟩ := findB_mem hf
    show t.rng ∧ t.size ≤ _
    rw [← e]
    exact h b hb
-- 
theorem apply_abs (W : World) (l : List Bd) (t : Tm) (hl : l.length ≤ 64) (hb : bdsOk l) (hr : t.rng) (hok : t.ok) : AFun Tryz.prog W 49 [.lst (l.map Bd.cv), t.cw] (.val (repT (imgB l) t).cw) := by
  refine afun_of (rs := [(repT (imgB l) t).cw]) Tryz.func49 Tryz.ntmps49 rfl rfl rfl rfl ?_
  intro w U hW
  refine aS (aR ?_)
  (refine nx (a_box (gN rfl) rfl rfl rfl rfl rfl) rfl ?_)
  (refine nx (a_alloc (gN rfl) rfl rfl rfl rfl rfl rfl rfl rfl rfl rfl) rfl ?_)
  show AWp _ _ _ _ _ _ _
  refine aS (aD (by kernel_rfl) (by kernel_rfl) ?_)
  (refine nx (aL (gN rfl) rfl rfl rfl rfl rfl rfl rfl rfl rfl rfl rfl rfl) rfl ?_)
  (refine nx (aM (gN rfl) rfl rfl rfl rfl rfl) rfl ?_)
  (refine nx (a_call (gN rfl) rfl rfl rfl rfl rfl (images_abs w l hl)) rfl ?_)
  (refine nx (a_call (gN rfl) rfl rfl rfl rfl rfl (replace_abs w _ (imgB l) (fun v h1 h2 => ⟨⟨_, _, _, rfl, image_abs w l v (by omega) h1 h2⟩, imgB_ok hb h1 h2⟩) t hr hok)) rfl ?_)
  (refine nx (aSt (gN rfl) rfl rfl rfl rfl rfl rfl rfl rfl rfl rfl) rfl ?_)
  refine ⟨by kernel_rfl, ?_⟩
  show AWp _ _ _ _ _ _ _
  exact aT (And.intro (.inr rfl) rfl)

def upV (by_ v : Int) : Int := v + min by_ (9223372036854775807 - v)
-- 
theorem renf_abs (W : World) (v by_ : Int) (h1 : 0 ≤ v) (h2 : v ≤ 9223372036854775807) (h3 : 0 ≤ by_) : AFun Tryz.prog W 84 [.i v, .ptr (.i by_)] (.val (varT (upV by_ v)).cw) := by
  refine afun_of (rs := [(varT (upV by_ v)).cw]) Tryz.func84 Tryz.ntmps84 rfl rfl rfl rfl ?_
  intro w U hW
  refine aS (aR ?_)
  (refine nx (a_alloc (gN rfl) rfl rfl rfl rfl rfl rfl rfl rfl rfl rfl) rfl ?_)
  show AWp _ _ _ _ _ _ _
  refine aS (aR ?_)
  (refine nx (aM (gN rfl) rfl rfl rfl rfl rfl) rfl ?_)
  (refine nx (a_load_ptr (gN rfl) rfl rfl rfl rfl rfl rfl rfl rfl rfl) rfl ?_)
  (refine nx (aM (gN rfl) rfl rfl rfl rfl rfl) rfl ?_)
  (refine nx (a_sub (gN rfl) rfl rfl rfl rfl rfl rfl (by first | omega | (simp only [List.length_map, List.length_append, List.length_cons, List.length_nil] <;> omega) | (simp <;> omega))) rfl ?_)
  (refine nx (a_min (gN rfl) rfl rfl rfl rfl rfl rfl) rfl ?_)
  (refine nx (a_add (gN rfl) rfl rfl rfl rfl rfl rfl (by first | omega | (simp only [List.length_map, List.length_append, List.length_cons, List.length_nil] <;> omega) | (simp <;> omega))) rfl ?_)
  (refine nx (a_call (gN rfl) rfl rfl rfl rfl rfl (sVariable_abs w (v + min by_ (9223372036854775807 - v)) (by omega) (by omega))) rfl ?_)
  (refine nx (aSt (gN rfl) rfl rfl rfl rfl rfl rfl rfl rfl rfl rfl) rfl ?_)
  show AWp _ _ _ _ _ _ _
  exact aT (And.intro (.inr rfl) rfl)
theorem upV_ok {by_ v : Int} (h1 : 0 ≤ v) (h2 : v ≤ 9223372036854775807) (h3 : 0 ≤ by_) : 0 ≤ upV by_ v ∧ upV by_ v ≤ 9223372036854775807 := by unfold upV; omega
-- 
theorem rename_abs (W : World) (t : Tm) (by_ : Int) (hr : t.rng) (hok : t.ok) : AFun Tryz.prog W 47 [t.cw, .i by_] (.val (repT (fun v => varT (upV (max by_ 0) v)) t).cw) := by
  refine afun_of (rs := [(repT (fun v => varT (upV (max by_ 0) v)) t).cw]) Tryz.func47 Tryz.ntmps47 rfl rfl rfl rfl ?_
  intro w U hW
  refine aS (aR ?_)
  (refine nx (a_box (gN rfl) rfl rfl rfl rfl rfl) rfl ?_)
  (refine nx (a_box (gN rfl) rfl rfl rfl rfl rfl) rfl ?_)
  (refine nx (a_alloc (gN rfl) rfl rfl rfl rfl rfl rfl rfl rfl rfl rfl) rfl ?_)
  show AWp _ _ _ _ _ _ _
  refine aS (aR ?_)
  (refine nx (aL (gN rfl) rfl rfl rfl rfl rfl rfl rfl rfl rfl rfl rfl rfl) rfl ?_)
  (refine nx (a_max (gN rfl) rfl rfl rfl rfl rfl rfl) rfl ?_)
  (refine nx (aSt (gN rfl) rfl rfl rfl rfl rfl rfl rfl rfl rfl rfl) rfl ?_)
  show AWp _ _ _ _ _ _ _
  refine AWp.wk (wk_freeze 3 rfl rfl rfl (s' := [(2, .bp 2 0 []), (100002, .bx t.cw), (4, .bp 4 0 []), (100004, ⟨5, .row [.i 0, .lst []], 1, 0, [1]⟩)]) ⟨rfl, rfl, rfl, rfl, trivial⟩ rfl rfl rfl) ?_
  refine aS (aR ?_)
  (refine nx (aL (gN rfl) rfl rfl rfl rfl rfl rfl rfl rfl rfl rfl rfl rfl) rfl ?_)
  (refine nx (a_mkfunc (gN rfl) rfl rfl rfl rfl rfl rfl) rfl ?_)
  (refine nx (a_call (gN rfl) rfl rfl rfl rfl rfl (replace_abs w _ (fun v => varT (upV (max by_ 0) v)) (fun v h1 h2 => ⟨⟨_, _, _, rfl, renf_abs w v (max by_ 0) h1 h2 (by omega)⟩, varT_rng (upV_ok h1 h2 (by omega)).1 (upV_ok h1 h2 (by omega)).2, by rw [varT_size]; omega⟩) t hr hok)) rfl ?_)
  (refine nx (aSt (gN rfl) rfl rfl rfl rfl rfl rfl rfl rfl rfl rfl) rfl ?_)
  show AWp _ _ _ _ _ _ _
  exact aT (And.intro (.inr rfl) rfl)
end Go.Proofs.YtmeegdomncadpaaGreat
namespace Go.Proofs.YtmeegdomncadpaaGreat
set_option linter.unusedVariables false
set_option linter.unusedSimpArgs false
def vsL (l : List Tm) : List Int := (l.filter fun s => decide (s.f < 0)).map fun s => -1 - s.f
def Tm.vs (t : Tm) : List Int := vsL t.flat
theorem vsL_append (l m : List Tm) : vsL (l ++ m) = vsL l ++ vsL m := by simp [vsL]
theorem vsL_flatMap (l : List Tm) : vsL (l.flatMap Tm.flat) = l.flatMap Tm.vs := by
  induction l with
  | nil => rfl
  | cons t l ih => rw [List.flatMap_cons, vsL_append, ih, List.flatMap_cons]; rfl
theorem Tm.vs_var {t : Tm} (h : t.f < 0) : t.vs = [-1 - t.f] := by
  unfold Tm.vs
  rw [Tm.flat_eq, Tm.ps_of_var h]
  simp [vsL, h]
theorem Tm.vs_sym {t : Tm} (h : ¬ t.f < 0) : t.vs = t.l.flatMap Tm.vs := by
  unfold Tm.vs
  rw [Tm.flat_eq, Tm.ps_of_sym (by omega), show t :: t.l.flatMap Tm.flat = [t] ++ t.l.flatMap Tm.flat from rfl, vsL_append, vsL_flatMap]
  simp [vsL, h]
  rfl
theorem Tm.size_sym {t : Tm} (h : ¬ t.f < 0) : t.size = 1 + (t.l.map Tm.size).sum := by
  rw [Tm.size_eq, Tm.ps_of_sym (by omega), List.length_flatMap]
  rfl
theorem Tm.size_var {t : Tm} (h : t.f < 0) : t.size = 1 := by
  rw [Tm.size_eq, Tm.ps_of_var h]; rfl
theorem sum_congr_int {l : List Tm} {f g : Tm → Int} (h : ∀ s ∈ l, f s = g s) : (l.map f).sum = (l.map g).sum := by
  rw [List.map_congr_left h]
theorem sum_flatMap_int (l : List Tm) (g : Int → Int) : ((l.flatMap Tm.vs).map g).sum = (l.map fun s => (s.vs.map g).sum).sum := by
  induction l with
  | nil => rfl
  | cons t l ih => rw [List.flatMap_cons, List.map_append, List.sum_append_int, ih, List.map_cons, List.sum_cons]
theorem sum_cast (l : List Nat) : ((l.sum : Nat) : Int) = (l.map fun n : Nat => (n : Int)).sum := by
  induction l with
  | nil => rfl
  | cons n l ih => rw [List.sum_cons, List.map_cons, List.sum_cons, ← ih]; omega
theorem sum_add (l : List Tm) (f g : Tm → Int) : (l.map fun s => f s + g s).sum = (l.map f).sum + (l.map g).sum := by
  induction l with
  | nil => rfl
  | cons t l ih => simp only [List.map_cons, List.sum_cons, ih]; omega
theorem repT_size (img : Int → Tm) (t : Tm) : ((repT img t).size : Int) = t.size + (t.vs.map fun v => ((img v).size : Int) - 1).sum := by
  induction t using Tm.indp with
  | h t ih =>
    by_cases h : t.f < 0
    · rw [repT_var h, Tm.vs_var h, Tm.strip_size, Tm.size_var h]; simp; omega
    · rw [repT_sym h, Tm.vs_sym h, Tm.size_sym h, Tm.size_sym (t := ⟨t.f, _⟩) h, sum_flatMap_int]
      rw [Tm.ps_of_sym (by omega)] at ih
      simp only
      rw [Int.natCast_add, Int.natCast_add, sum_cast, sum_cast, List.map_map, List.map_map, List.map_map, Int.add_assoc, ← sum_add]
      congr 1
      exact sum_congr_int fun s hs => ih s hs

def nubS (acc : List Int) (v : Int) : List Int := if v ∈ acc then acc else acc ++ [v]
def nub (l : List Int) : List Int := l.foldl nubS []
theorem nub_snoc (l : List Int) (v : Int) : nub (l ++ [v]) = if v ∈ nub l then nub l else nub l ++ [v] := by
  unfold nub
  rw [List.foldl_append]
  rfl
theorem snoc_ind {α : Type} {Q : List α → Prop} (h0 : Q []) (h1 : ∀ l x, Q l → Q (l ++ [x])) : ∀ l, Q l := by
  intro l
  have : ∀ n (l : List α), l.length = n → Q l := by
    intro n
    induction n with
    | zero => intro l hl; rw [List.eq_nil_of_length_eq_zero hl]; exact h0
    | succ n ih =>
      intro l hl
      have hne : l ≠ [] := fun e => by rw [e] at hl; simp at hl
      rw [← List.dropLast_concat_getLast hne]
      exact h1 _ _ (ih _ (by simp [hl]))
  exact this _ l rfl
theorem mem_nub (l : List Int) : ∀ v, v ∈ nub l ↔ v ∈ l := by
  induction l using snoc_ind with
  | h0 => intro v; rfl
  | h1 l x ih =>
    intro v
    rw [nub_snoc, List.mem_append, ← ih]
    split
    · rename_i hx
      simp only [List.mem_singleton]
      exact ⟨fun h => .inl h, fun h => h.elim id fun e => e ▸ hx⟩
    · rw [List.mem_append]
theorem varsF_nub (l : List Tm) : varsF l = nub (vsL l) := by
  have : ∀ (l : List Tm) (acc : List Int), l.foldl varS acc = (vsL l).foldl nubS acc := by
    intro l
    induction l with
    | nil => intro acc; rfl
    | cons t l ih =>
      intro acc
      rw [List.foldl_cons, ih]
      by_cases h : t.f < 0
      · have : vsL (t :: l) = (-1 - t.f) :: vsL l := by simp [vsL, h]
        rw [this, List.foldl_cons]
        congr 1
        unfold varS nubS
        rw [if_pos h]
      · have : vsL (t :: l) = vsL l := by simp [vsL, h]
        rw [this]
        congr 1
        unfold varS
        rw [if_neg h]
  exact this l []
theorem topF_vs (l : List Tm) : topF l = (vsL l).foldl max (-1) := by
  have : ∀ (l : List Tm) (m : Int), l.foldl (fun m s => if s.f < 0 then max m (-1 - s.f) else m) m = (vsL l).foldl max m := by
    intro l
    induction l with
    | nil => intro acc; rfl
    | cons t l ih =>
      intro m
      rw [List.foldl_cons, ih]
      by_cases h : t.f < 0
      · have : vsL (t :: l) = (-1 - t.f) :: vsL l := by simp [vsL, h]
        rw [this, List.foldl_cons, if_pos h]
      · have : vsL (t :: l) = vsL l := by simp [vsL, h]
        rw [this, if_neg h]
  exact this l (-1)
theorem foldl_max_ge (l : List Int) : ∀ m : Int, m ≤ l.foldl max m := by
  induction l with
  | nil => intro m; exact Int.le_refl _
  | cons v l ih => intro m; rw [List.foldl_cons]; have := ih (max m v); omega
theorem vs_nonneg (t : Tm) : ∀ v ∈ t.vs, 0 ≤ v := by
  intro v hv
  obtain ⟨s, hs, rfl⟩ := List.mem_map.1 hv
  have := (List.mem_filter.1 hs).2
  simp at this
  omega
theorem vs_le {t : Tm} {B : Int} (h : ∀ s ∈ t.flat, -B ≤ s.f) : ∀ v ∈ t.vs, v < B := by
  intro v hv
  obtain ⟨s, hs, rfl⟩ := List.mem_map.1 hv
  have := h s (List.mem_filter.1 hs).1
  omega
end Go.Proofs.YtmeegdomncadpaaGreat
namespace Go.Proofs.YtmeegdomncadpaaGreat
open Go.RowKit
set_option linter.unusedVariables false
set_option linter.unusedSimpArgs false
def Tm.sm : Tm → Prop
  | ⟨f, l⟩ => (-1000 ≤ f ∧ f ≤ 1000) ∧ ∀ t ∈ l, Tm.sm t
theorem Tm.sm_iff (t : Tm) : t.sm ↔ (-1000 ≤ t.f ∧ t.f ≤ 1000) ∧ ∀ s ∈ t.l, s.sm := by cases t; rw [Tm.sm]
theorem small_sm (t : Tm) : ∀ most deep, 0 ≤ smallT t most deep → t.sm := by
  induction t using Tm.ind with
  | h f l ih =>
    intro most deep h
    rw [smallT_eq] at h
    split at h
    · omega
    · rename_i hc
      refine (Tm.sm_iff _).2 ⟨⟨by show -1000 ≤ f; omega, by show f ≤ 1000; omega⟩, ?_⟩
      have : ∀ (l : List Tm) (m d : Int), (∀ t ∈ l, ∀ most deep, 0 ≤ smallT t most deep → t.sm) → 0 ≤ smallL l m d → ∀ t ∈ l, t.sm := by
        intro l
        induction l with
        | nil => intro m d _ _ t ht; cases ht
        | cons y ys ih2 =>
          intro m d hl h t ht
          rw [smallL_cons] at h
          split at h
          · omega
          · have hy : 0 ≤ smallT y m d := by
              rcases Int.lt_or_le (smallT y m d) 0 with h1 | h1
              · rw [smallL_neg ys d h1] at h; omega
              · exact h1
            rcases List.mem_cons.1 ht with rfl | ht
            · exact hl t (by simp) m d hy
            · exact ih2 (smallT y m d) d (fun s hs => hl s (List.mem_cons_of_mem _ hs)) h t ht
      exact this l _ _ ih h
theorem Tm.sm_rng {t : Tm} (h : t.sm) : t.rng := by
  induction t using Tm.ind with
  | h f l ih =>
    obtain ⟨h1, h2⟩ := (Tm.sm_iff _).1 h
    exact (Tm.rng_iff _).2 ⟨by simp only at h1 ⊢; omega, fun s hs => ih s hs (h2 s hs)⟩
theorem Tm.wt_ok {t : Tm} (h : t.wt ≤ 1000000) : t.ok := by
  induction t using Tm.ind with
  | h f l ih =>
    rw [Tm.wt_eq] at h
    simp only at h
    have := Tm.wts_len l
    exact (Tm.ok_iff _).2 ⟨by simp only; omega, fun s hs => ih s hs (by have : s.wt ≤ Tm.wts l := Tm.wts_mem hs; omega)⟩
theorem Tm.sm_flat {t : Tm} (h : t.sm) : ∀ s ∈ t.flat, -1000 ≤ s.f ∧ s.f ≤ 1000 := by
  induction t using Tm.indp with
  | h t ih =>
    intro s hs
    rw [Tm.flat_eq] at hs
    rcases List.mem_cons.1 hs with rfl | hs
    · exact ((Tm.sm_iff _).1 h).1
    · obtain ⟨u, hu, hs⟩ := List.mem_flatMap.1 hs
      exact ih u hu (((Tm.sm_iff _).1 h).2 u (Tm.ps_mem hu).1) s hs
theorem Tm.strip_rng {t : Tm} (h : t.rng) : t.strip.rng := by
  induction t using Tm.indp with
  | h t ih =>
    obtain ⟨h1, h2⟩ := (Tm.rng_iff _).1 h
    refine (Tm.rng_iff _).2 ⟨by rw [Tm.strip_f]; exact h1, fun s hs => ?_⟩
    rw [Tm.strip_l] at hs
    obtain ⟨u, hu, rfl⟩ := List.mem_map.1 hs
    exact ih u hu (h2 u (Tm.ps_mem hu).1)
theorem Tm.strip_ok {t : Tm} (h : t.ok) : t.strip.ok := by
  induction t using Tm.indp with
  | h t ih =>
    obtain ⟨h1, h2⟩ := (Tm.ok_iff _).1 h
    refine (Tm.ok_iff _).2 ⟨?_, fun s hs => ?_⟩
    · rw [Tm.strip_l, List.length_map]
      unfold Tm.ps
      split
      · simp
      · exact h1
    · rw [Tm.strip_l] at hs
      obtain ⟨u, hu, rfl⟩ := List.mem_map.1 hs
      exact ih u hu (h2 u (Tm.ps_mem hu).1)
end Go.Proofs.YtmeegdomncadpaaGreat
namespace Go.Proofs.YtmeegdomncadpaaGreat
open Go.RowKit
set_option linter.unusedVariables false
set_option linter.unusedSimpArgs false
set_option maxRecDepth 100000
theorem repT_rng {img : Int → Tm} {t : Tm} (h : t.rng) (hi : ∀ v, 0 ≤ v → v ≤ 9223372036854775807 → (img v).rng) : (repT img t).rng := by
  induction t using Tm.ind with
  | h f l ih =>
    obtain ⟨h1, h2⟩ := (Tm.rng_iff _).1 h
    simp only at h1 h2
    by_cases hf : f < 0
    · rw [repT_var hf]; exact Tm.strip_rng (hi _ (by simp only; omega) (by simp only; omega))
    · rw [repT_sym hf]
      refine (Tm.rng_iff _).2 ⟨h1, fun s hs => ?_⟩
      obtain ⟨u, hu, rfl⟩ := List.mem_map.1 hs
      exact ih u hu (h2 u hu)
theorem repT_ok {img : Int → Tm} {t : Tm} (h : t.ok) (hi : ∀ v, (img v).ok) : (repT img t).ok := by
  induction t using Tm.ind with
  | h f l ih =>
    obtain ⟨h1, h2⟩ := (Tm.ok_iff _).1 h
    simp only at h1 h2
    by_cases hf : f < 0
    · rw [repT_var hf]; exact Tm.strip_ok (hi _)
    · rw [repT_sym hf]
      refine (Tm.ok_iff _).2 ⟨by simpa using h1, fun s hs => ?_⟩
      obtain ⟨u, hu, rfl⟩ := List.mem_map.1 hs
      exact ih u hu (h2 u hu)
theorem varT_ok (v : Int) : (varT v).ok := (Tm.ok_iff _).2 ⟨by show 0 ≤ _; omega, fun s hs => by cases hs⟩
theorem imgB_ok2 {l : List Bd} (h : ∀ b ∈ l, b.t.ok) (v : Int) : (imgB l v).ok := by
  unfold imgB
  cases hf : findB l v with
  | none => exact varT_ok v
  | some t =>
    obtain ⟨b, hb, e, _⟩ := findB_mem hf
    show t.ok
    rw [← e]
    exact h b hb
end Go.Proofs.YtmeegdomncadpaaGreat
namespace Go.Proofs.YtmeegdomncadpaaGreat
set_option linter.unusedVariables false
set_option linter.unusedSimpArgs false
theorem cmpZ_cases (x y : Int) : (cmpZ x y = -1 ∧ x < y) ∨ (cmpZ x y = 0 ∧ x = y) ∨ (cmpZ x y = 1 ∧ y < x) := by
  unfold cmpZ
  split
  · exact .inl ⟨rfl, by assumption⟩
  · split
    · exact .inr (.inr ⟨rfl, by assumption⟩)
    · exact .inr (.inl ⟨rfl, by omega⟩)

def rank (x : Int) : Int × Int := if x < 0 then (0, -1 - x) else (1, x)
theorem cmpH_cases (x y : Int) : (cmpH x y = -1 ∧ ((x < 0 ∧ y < 0 ∧ y < x) ∨ (¬ (x < 0 ∧ y < 0) ∧ x < y))) ∨ (cmpH x y = 0 ∧ x = y) ∨ (cmpH x y = 1 ∧ ((x < 0 ∧ y < 0 ∧ x < y) ∨ (¬ (x < 0 ∧ y < 0) ∧ y < x))) := by
  unfold cmpH
  split
  · have := cmpZ_cases (-1 - x) (-1 - y)
    omega
  · have := cmpZ_cases x y
    omega

structure CmpOk (c : Int) : Prop where
  three : c = -1 ∨ c = 0 ∨ c = 1

theorem cmpT_zero (a : Tm) : ∀ b, cmpT a b = 0 ↔ a.strip = b.strip := by
  induction a using Tm.indp with
  | h a ih =>
    intro b
    rw [cmpT_eq, Tm.strip_eq a, Tm.strip_eq b]
    have hL : ∀ (l m : List Tm), (∀ s ∈ l, ∀ b, cmpT s b = 0 ↔ s.strip = b.strip) → (cmpL l m = 0 ↔ l.map Tm.strip = m.map Tm.strip) := by
      intro l
      induction l with
      | nil => intro m _; cases m <;> simp [cmpL_nil, cmpL_lt, cmpL_gt]
      | cons y ys ih2 =>
        intro m hl
        cases m with
        | nil => simp [cmpL_nil, cmpL_lt, cmpL_gt]
        | cons z zs =>
          rw [cmpL_cons, List.map_cons, List.map_cons, List.cons.injEq, ← hl y (by simp) z, ← ih2 zs (fun s hs => hl s (List.mem_cons_of_mem _ hs))]
          by_cases h : cmpT y z = 0 <;> simp [h]
    rw [Tm.mk.injEq]
    by_cases h1 : a.f = b.f
    · rw [if_neg (by simp [h1])]
      by_cases h2 : a.ps.length = b.ps.length
      · rw [if_neg (by simp [h2]), hL _ _ ih]
        simp [h1]
      · rw [if_pos h2]
        constructor
        · intro h3
          have := cmpZ_cases a.ps.length b.ps.length
          omega
        · rintro ⟨_, h3⟩
          exact absurd (by simpa using congrArg List.length h3) h2
    · rw [if_pos h1]
      constructor
      · intro h3
        have := cmpH_cases a.f b.f
        omega
      · rintro ⟨h3, _⟩
        exact absurd h3 h1

theorem cmpT_turn (a : Tm) : ∀ b, cmpT b a = - cmpT a b := by
  induction a using Tm.indp with
  | h a ih =>
    intro b
    rw [cmpT_eq b a, cmpT_eq a b]
    have hL : ∀ (l m : List Tm), (∀ s ∈ l, ∀ b, cmpT b s = - cmpT s b) → cmpL m l = - cmpL l m := by
      intro l
      induction l with
      | nil => intro m _; cases m <;> simp [cmpL_nil, cmpL_lt, cmpL_gt]
      | cons y ys ih2 =>
        intro m hl
        cases m with
        | nil => simp [cmpL_nil, cmpL_lt, cmpL_gt]
        | cons z zs =>
          rw [cmpL_cons, cmpL_cons, hl y (by simp) z, ih2 zs (fun s hs => hl s (List.mem_cons_of_mem _ hs))]
          by_cases h : cmpT y z = 0 <;> simp [h]
    by_cases h1 : a.f = b.f
    · by_cases h2 : a.ps.length = b.ps.length
      · simp only [h1, h2, ne_eq, not_true_eq_false, if_false]
        exact hL _ _ ih
      · have h2' : ¬ b.ps.length = a.ps.length := fun e => h2 e.symm
        simp only [h1, h2, h2', ne_eq, not_true_eq_false, not_false_eq_true, if_false, if_true]
        have := cmpZ_cases a.ps.length b.ps.length
        have := cmpZ_cases b.ps.length a.ps.length
        omega
    · have h1' : ¬ b.f = a.f := fun e => h1 e.symm
      simp only [h1, h1', ne_eq, not_false_eq_true, if_true]
      have := cmpH_cases a.f b.f
      have := cmpH_cases b.f a.f
      omega

theorem cmpT_stripL (a : Tm) : ∀ b, cmpT a.strip b = cmpT a b := by
  induction a using Tm.indp with
  | h a ih =>
    intro b
    rw [cmpT_eq a.strip b, cmpT_eq a b, Tm.strip_f, Tm.strip_ps, List.length_map]
    have hL : ∀ (l m : List Tm), (∀ s ∈ l, ∀ b, cmpT s.strip b = cmpT s b) → cmpL (l.map Tm.strip) m = cmpL l m := by
      intro l
      induction l with
      | nil => intro m _; rfl
      | cons y ys ih2 =>
        intro m hl
        cases m with
        | nil => simp [cmpL_nil, cmpL_lt, cmpL_gt]
        | cons z zs => rw [List.map_cons, cmpL_cons, cmpL_cons, hl y (by simp) z, ih2 zs (fun s hs => hl s (List.mem_cons_of_mem _ hs))]
    rw [hL _ _ ih]
theorem cmpT_congr {a a' : Tm} (h : a.strip = a'.strip) (b : Tm) : cmpT a b = cmpT a' b := by rw [← cmpT_stripL a, ← cmpT_stripL a', h]

def Goon (p q r : Int) : Prop := p ≤ 0 → q ≤ 0 → r ≤ 0 ∧ (r = 0 → p = 0 ∧ q = 0)

theorem goon_step {p1 q1 r1 p2 q2 r2 : Int} (g1 : Goon p1 q1 r1) (g2 : Goon p2 q2 r2) (g3 : p1 = 0 → r1 = q1) : Goon (if p1 ≠ 0 then p1 else p2) (if q1 ≠ 0 then q1 else q2) (if r1 ≠ 0 then r1 else r2) := by
  unfold Goon at *
  intro hp hq
  split at hp <;> split at hq <;> split <;> first | omega | (simp_all; done) | (simp_all; omega)
theorem cmpT_f {a b : Tm} (h : a.f ≠ b.f) : cmpT a b = cmpH a.f b.f := by rw [cmpT_eq, if_pos h]
theorem cmpT_n {a b : Tm} (h : a.f = b.f) (h2 : a.ps.length ≠ b.ps.length) : cmpT a b = cmpZ a.ps.length b.ps.length := by rw [cmpT_eq, if_neg (by simp [h]), if_pos h2]
theorem cmpT_l {a b : Tm} (h : a.f = b.f) (h2 : a.ps.length = b.ps.length) : cmpT a b = cmpL a.ps b.ps := by rw [cmpT_eq, if_neg (by simp [h]), if_neg (by simp [h2])]

theorem cmpT_trans (a : Tm) : ∀ b c, Goon (cmpT a b) (cmpT b c) (cmpT a c) := by
  induction a using Tm.indp with
  | h a ih =>
    intro b c hp hq
    have hL : ∀ (l m n : List Tm), l.length = m.length → m.length = n.length → (∀ s ∈ l, ∀ b c, Goon (cmpT s b) (cmpT b c) (cmpT s c)) → Goon (cmpL l m) (cmpL m n) (cmpL l n) := by
      intro l
      induction l with
      | nil =>
        intro m n h1 h2 _
        have : m = [] := List.eq_nil_of_length_eq_zero (by simpa using h1.symm)
        subst this
        have : n = [] := List.eq_nil_of_length_eq_zero (by simpa using h2.symm)
        subst this
        simp [cmpL_nil, Goon]
      | cons y ys ih2 =>
        intro m n h1 h2 hl
        cases m with
        | nil => simp at h1
        | cons z zs =>
          cases n with
          | nil => simp at h2
          | cons u us =>
            have g1 := hl y (by simp) z u
            have g2 := ih2 zs us (by simpa using h1) (by simpa using h2) (fun s hs => hl s (List.mem_cons_of_mem _ hs))
            have g3 : cmpT y z = 0 → cmpT y u = cmpT z u := fun e => cmpT_congr ((cmpT_zero _ _).1 e) u
            rw [cmpL_cons, cmpL_cons, cmpL_cons]
            exact goon_step g1 g2 g3
    have hab := cmpH_cases a.f b.f
    have hbc := cmpH_cases b.f c.f
    have hac := cmpH_cases a.f c.f
    have zab := cmpZ_cases a.ps.length b.ps.length
    have zbc := cmpZ_cases b.ps.length c.ps.length
    have zac := cmpZ_cases a.ps.length c.ps.length
    by_cases f1 : a.f = b.f <;> by_cases f2 : b.f = c.f
    · have f3 : a.f = c.f := f1.trans f2
      by_cases l1 : a.ps.length = b.ps.length <;> by_cases l2 : b.ps.length = c.ps.length
      · rw [cmpT_l f1 l1] at hp ⊢
        rw [cmpT_l f2 l2] at hq ⊢
        rw [cmpT_l f3 (l1.trans l2)]
        exact hL _ _ _ l1 l2 ih hp hq
      · rw [cmpT_l f1 l1] at hp ⊢
        rw [cmpT_n f2 l2] at hq ⊢
        rw [cmpT_n f3 (by omega)]
        clear hL ih
        omega
      · rw [cmpT_n f1 l1] at hp ⊢
        rw [cmpT_l f2 l2] at hq ⊢
        rw [cmpT_n f3 (by omega)]
        clear hL ih
        omega
      · rw [cmpT_n f1 l1] at hp ⊢
        rw [cmpT_n f2 l2] at hq ⊢
        by_cases l3 : a.ps.length = c.ps.length
        · omega
        · rw [cmpT_n f3 l3]
          clear hL ih
          omega
    · have f3 : a.f ≠ c.f := by omega
      rw [cmpT_f f2] at hq ⊢
      rw [cmpT_f f3]
      clear hL ih
      omega
    · have f3 : a.f ≠ c.f := by omega
      rw [cmpT_f f1] at hp ⊢
      rw [cmpT_f f3]
      clear hL ih
      omega
    · rw [cmpT_f f1] at hp ⊢
      rw [cmpT_f f2] at hq ⊢
      by_cases f3 : a.f = c.f
      · omega
      · rw [cmpT_f f3]
        clear hL ih
        omega

theorem sameT_iff (a b : Tm) : sameT a b = true ↔ a.strip = b.strip := by
  unfold sameT
  rw [beq_iff_eq]
  exact cmpT_zero a b
end Go.Proofs.YtmeegdomncadpaaGreat
namespace Go.Proofs.YtmeegdomncadpaaGreat
open Go.RowKit
set_option linter.unusedVariables false
set_option linter.unusedSimpArgs false
set_option maxRecDepth 100000
theorem same_f {a b : Tm} (h : sameT a b = true) : a.f = b.f := by
  have := (sameT_iff a b).1 h
  rw [← Tm.strip_f, this, Tm.strip_f]
theorem same_fne {a b : Tm} (h : a.f ≠ b.f) : sameT a b = false := by
  cases hs : sameT a b with
  | false => rfl
  | true => exact absurd (same_f hs) h
theorem same_neg {a b : Tm} (h : a.f = b.f) (hf : a.f < 0) : sameT a b = true := by
  rw [sameT_iff, Tm.strip_eq, Tm.strip_eq, Tm.ps_of_var hf, Tm.ps_of_var (by omega), h]
theorem same_sym {a b : Tm} (h : a.f = b.f) (hf : ¬ a.f < 0) : sameT a b = true ↔ a.l.map Tm.strip = b.l.map Tm.strip := by
  rw [sameT_iff, Tm.strip_eq, Tm.strip_eq, Tm.ps_of_sym (by omega), Tm.ps_of_sym (by omega), h]
  simp
theorem same_lne {a b : Tm} (hf : ¬ a.f < 0) (hl : a.l.length ≠ b.l.length) : sameT a b = false := by
  cases hs : sameT a b with
  | false => rfl
  | true =>
    have := congrArg List.length ((same_sym (same_f hs) hf).1 hs)
    simp at this
    exact absurd this hl
theorem same_at {a b : Tm} (hf : ¬ a.f < 0) {i : Nat} {x y : Tm} (hx : a.l[i]? = some x) (hy : b.l[i]? = some y) (h : sameT x y = false) : sameT a b = false := by
  cases hs : sameT a b with
  | false => rfl
  | true =>
    have := congrArg (fun l => l[i]?) ((same_sym (same_f hs) hf).1 hs)
    simp only [List.getElem?_map, hx, hy, Option.map_some, Option.some.injEq] at this
    rw [(sameT_iff x y).2 this] at h
    cases h
theorem same_all {a b : Tm} (h : a.f = b.f) (hf : ¬ a.f < 0) (hl : a.l.length = b.l.length) (hi : ∀ i x y, i < a.l.length → a.l[i]? = some x → b.l[i]? = some y → sameT x y = true) : sameT a b = true := by
  rw [same_sym h hf]
  apply List.ext_getElem?
  intro i
  rw [List.getElem?_map, List.getElem?_map]
  by_cases hil : i < a.l.length
  · have hx := List.getElem?_eq_getElem hil
    have hy := List.getElem?_eq_getElem (l := b.l) (i := i) (by omega)
    rw [hx, hy]
    exact congrArg some ((sameT_iff _ _).1 (hi i _ _ hil hx hy))
  · rw [List.getElem?_eq_none (by omega), List.getElem?_eq_none (by omega)]

-- 
set_option maxHeartbeats 1000000 in
theorem refSame_abs (W : World) : ∀ (a b : Tm), a.ok → b.ok → AFun Tryz.prog W 11 [a.cw, b.cw] (.val (.b (sameT a b))) := by
  intro a
  induction a using Tm.ind with
  | h f l ih =>
  intro b hoa hob
  obtain ⟨hla, hoa⟩ := (Tm.ok_iff _).1 hoa
  obtain ⟨hlb, hob⟩ := (Tm.ok_iff _).1 hob
  simp only at hla hoa
  have hsz := Tm.size_all l
  have hsz2 := Tm.size_all b.l
  refine afun_of (rs := [.b (sameT ⟨f, l⟩ b)]) Tryz.func11 Tryz.ntmps11 rfl rfl rfl rfl ?_
  intro w U hW
  refine aS (aR ?_)
  (refine nx (a_box (gN rfl) rfl rfl rfl rfl rfl) rfl ?_)
  (refine nx (a_box (gN rfl) rfl rfl rfl rfl rfl) rfl ?_)
  (refine nx (aA (gN rfl) rfl rfl rfl rfl rfl) rfl ?_)
  show AWp _ _ _ _ _ _ _
  refine aS (aS (aR ?_))
  (refine nx (aF (gN rfl) rfl rfl rfl rfl rfl rfl rfl rfl rfl) rfl ?_)
  (refine nx (aLb (gN rfl) rfl rfl rfl rfl rfl rfl rfl rfl rfl rfl rfl rfl) rfl ?_)
  (refine nx (aF (gN rfl) rfl rfl rfl rfl rfl rfl rfl rfl rfl) rfl ?_)
  (refine nx (aLb (gN rfl) rfl rfl rfl rfl rfl rfl rfl rfl rfl rfl rfl rfl) rfl ?_)
  (refine nx (a_neq (gN rfl) rfl rfl rfl rfl rfl rfl) rfl ?_)
  show AWp _ _ _ _ _ _ _
  refine aC rfl (fun hc => ?_) (fun hc => aK ?_)
  · have hne : f ≠ b.f := by simpa using hc
    rw [same_fne (a := ⟨f, l⟩) hne]
    refine aS (aR ?_)
    (refine nx (aA (gN rfl) rfl rfl rfl rfl rfl) rfl ?_)
    show AWp _ _ _ _ _ _ _
    exact aT (And.intro (.inr rfl) rfl)
  have hfe : f = b.f := by simpa using hc
  clear hc
  show AWp _ _ _ _ _ _ _
  refine aS (aS (aR ?_))
  (refine nx (aF (gN rfl) rfl rfl rfl rfl rfl rfl rfl rfl rfl) rfl ?_)
  (refine nx (aLb (gN rfl) rfl rfl rfl rfl rfl rfl rfl rfl rfl rfl rfl rfl) rfl ?_)
  (refine nx (a_lss (gN rfl) rfl rfl rfl rfl rfl rfl) rfl ?_)
  show AWp _ _ _ _ _ _ _
  refine aC rfl (fun hc => ?_) (fun hc => aK ?_)
  · have hneg : f < 0 := by simpa using hc
    rw [same_neg (a := ⟨f, l⟩) hfe hneg]
    refine aS (aR ?_)
    (refine nx (aA (gN rfl) rfl rfl rfl rfl rfl) rfl ?_)
    show AWp _ _ _ _ _ _ _
    exact aT (And.intro (.inr rfl) rfl)
  have hnn : ¬ f < 0 := by simpa using hc
  clear hc
  show AWp _ _ _ _ _ _ _
  refine aS (aS (aR ?_))
  (refine nx (aF (gN rfl) rfl rfl rfl rfl rfl rfl rfl rfl rfl) rfl ?_)
  (refine nx (aLb (gN rfl) rfl rfl rfl rfl rfl rfl rfl rfl rfl rfl rfl rfl) rfl ?_)
  (refine nx (a_len (gN rfl) rfl rfl rfl rfl rfl rfl rfl) rfl ?_)
  (refine nx (aF (gN rfl) rfl rfl rfl rfl rfl rfl rfl rfl rfl) rfl ?_)
  (refine nx (aLb (gN rfl) rfl rfl rfl rfl rfl rfl rfl rfl rfl rfl rfl rfl) rfl ?_)
  (refine nx (a_len (gN rfl) rfl rfl rfl rfl rfl rfl rfl) rfl ?_)
  (refine nx (a_neq (gN rfl) rfl rfl rfl rfl rfl rfl) rfl ?_)
  show AWp _ _ _ _ _ _ _
  refine aC rfl (fun hc => ?_) (fun hc => aK ?_)
  · have hne : l.length ≠ b.l.length := by
      simp only [List.length_map, decide_eq_true_eq] at hc
      omega
    rw [same_lne (a := ⟨f, l⟩) hnn hne]
    refine aS (aR ?_)
    (refine nx (aA (gN rfl) rfl rfl rfl rfl rfl) rfl ?_)
    show AWp _ _ _ _ _ _ _
    exact aT (And.intro (.inr rfl) rfl)
  have hle : l.length = b.l.length := by
    simp only [List.length_map, decide_eq_false_iff_not, ne_eq, Decidable.not_not] at hc
    omega
  clear hc
  show AWp _ _ _ _ _ _ _
  refine aS (aS (aR ?_))
  (refine nx (aA (gN rfl) rfl rfl rfl rfl rfl) rfl ?_)
  show AWp _ _ _ _ _ _ _
  refine aB (awp_countI l.length (fun k => ∀ i x y, i < k → l[i]? = some x → b.l[i]? = some y → sameT x y = true) (fun k => [(2, .bp 2 0 []), (100002, .bx (Tm.cw ⟨f, l⟩)), (3, .bp 3 0 []), (100003, .bx b.cw), (5, .val (.i k))]) (wk_sub ⟨rfl, rfl, rfl, rfl, rfl, trivial⟩) (by omega) ?_)
  intro k hk hI
  refine aS (aS (aR ?_))
  (refine nx (aM (gN rfl) rfl rfl rfl rfl rfl) rfl ?_)
  (refine nx (aF (gN rfl) rfl rfl rfl rfl rfl rfl rfl rfl rfl) rfl ?_)
  (refine nx (aLb (gN rfl) rfl rfl rfl rfl rfl rfl rfl rfl rfl rfl rfl rfl) rfl ?_)
  (refine nx (a_len (gN rfl) rfl rfl rfl rfl rfl rfl rfl) rfl ?_)
  (refine nx (a_lss (gN rfl) rfl rfl rfl rfl rfl rfl) rfl ?_)
  show AWp _ _ _ _ _ _ _
  refine aC rfl (fun hc => aK ?_) (fun hc => aE ?_)
  · have hkl : k < l.length := by
      simp only [List.length_map, decide_eq_true_eq] at hc
      omega
    clear hc
    obtain ⟨x, hx⟩ : ∃ x, l[k]? = some x := ⟨l[k], List.getElem?_eq_getElem hkl⟩
    obtain ⟨y, hy⟩ : ∃ y, b.l[k]? = some y := ⟨b.l[k]'(by omega), List.getElem?_eq_getElem (by omega)⟩
    have hx' := Tm.map_at hx
    have hy' := Tm.map_at hy
    have hxm := List.mem_of_getElem? hx
    have hym := List.mem_of_getElem? hy
    show AWp _ _ _ _ _ _ _
    refine aS (aB (aS (aD (by kernel_rfl) (by kernel_rfl) ?_)))
    (refine nx (aF (gN rfl) rfl rfl rfl rfl rfl rfl rfl rfl rfl) rfl ?_)
    (refine nx (aLb (gN rfl) rfl rfl rfl rfl rfl rfl rfl rfl rfl rfl rfl rfl) rfl ?_)
    (refine nx (aM (gN rfl) rfl rfl rfl rfl rfl) rfl ?_)
    (refine nx (a_index (gN rfl) rfl rfl rfl rfl rfl rfl rfl rfl rfl (by assumption) rfl (by first | assumption | exact sZ rfl | exact Tm.size_all _ | exact Bd.size_all _ | exact ints_size _ | exact bys_size _ | exact Lt.size_all _)) rfl ?_)
    (refine nx (a_load_ad (gN rfl) rfl rfl rfl rfl rfl rfl rfl rfl rfl) rfl ?_)
    (refine nx (aF (gN rfl) rfl rfl rfl rfl rfl rfl rfl rfl rfl) rfl ?_)
    (refine nx (aLb (gN rfl) rfl rfl rfl rfl rfl rfl rfl rfl rfl rfl rfl rfl) rfl ?_)
    (refine nx (aM (gN rfl) rfl rfl rfl rfl rfl) rfl ?_)
    (refine nx (a_index (gN rfl) rfl rfl rfl rfl rfl rfl rfl rfl rfl (by assumption) rfl (by first | assumption | exact sZ rfl | exact Tm.size_all _ | exact Bd.size_all _ | exact ints_size _ | exact bys_size _ | exact Lt.size_all _)) rfl ?_)
    (refine nx (a_load_ad (gN rfl) rfl rfl rfl rfl rfl rfl rfl rfl rfl) rfl ?_)
    (refine nx (a_call (gN rfl) rfl rfl rfl rfl rfl ((ih x hxm y (hoa x hxm) (hob y hym)).up hW)) rfl ?_)
    (refine nx (a_not (gN rfl) rfl rfl rfl rfl rfl) rfl ?_)
    refine ⟨by kernel_rfl, ?_⟩
    show AWp _ _ _ _ _ _ _
    refine aC rfl (fun hc => ?_) (fun hc => aK ?_)
    · have hs : sameT x y = false := by simpa using hc
      rw [same_at (a := ⟨f, l⟩) hnn hx hy hs]
      refine aS (aR ?_)
      (refine nx (aA (gN rfl) rfl rfl rfl rfl rfl) rfl ?_)
      show AWp _ _ _ _ _ _ _
      exact aT (And.intro (.inr rfl) rfl)
    have hs : sameT x y = true := by simpa using hc
    clear hc
    show AWp _ _ _ _ _ _ _
    refine aR ?_
    (refine nx (aM (gN rfl) rfl rfl rfl rfl rfl) rfl ?_)
    (refine nx (a_add (gN rfl) rfl rfl rfl rfl rfl rfl (by first | omega | (simp only [List.length_map, List.length_append, List.length_cons, List.length_nil] <;> omega) | (simp <;> omega))) rfl ?_)
    (refine nx (aA (gN rfl) rfl rfl rfl rfl rfl) rfl ?_)
    refine ⟨hkl, fun i x' y' hi h1 h2 => ?_, wk_sub ⟨rfl, rfl, rfl, rfl, rfl, trivial⟩⟩
    rcases Nat.lt_or_ge i k with h | h
    · exact hI i x' y' h h1 h2
    · obtain rfl : i = k := by omega
      rw [hx] at h1; rw [hy] at h2
      cases h1; cases h2
      exact hs
  · have hkl : k = l.length := by
      simp only [List.length_map, decide_eq_false_iff_not] at hc
      omega
    subst hkl
    rw [same_all (a := ⟨f, l⟩) hfe hnn hle hI]
    show AWp _ _ _ _ _ _ _
    refine aS (aR ?_)
    (refine nx (aA (gN rfl) rfl rfl rfl rfl rfl) rfl ?_)
    show AWp _ _ _ _ _ _ _
    exact aT (And.intro (.inr rfl) rfl)
theorem cmp_same (a b : Tm) : sameT a b = true ↔ cmpT a b = 0 := by unfold sameT; rw [beq_iff_eq]
theorem cmpL_at : ∀ {l m : List Tm} {k : Nat} {x y : Tm}, l[k]? = some x → m[k]? = some y → (∀ i x y, i < k → l[i]? = some x → m[i]? = some y → cmpT x y = 0) → cmpT x y ≠ 0 → cmpL l m = cmpT x y
  | [], _, _, _, _, h, _, _, _ => by simp at h
  | _ :: _, [], _, _, _, _, h, _, _ => by simp at h
  | u :: l, v :: m, 0, x, y, h1, h2, _, hne => by
    simp at h1 h2; subst h1; subst h2
    rw [cmpL_cons, if_pos hne]
  | u :: l, v :: m, k + 1, x, y, h1, h2, h3, hne => by
    rw [cmpL_cons, if_neg (by rw [h3 0 u v (by omega) rfl rfl]; simp)]
    exact cmpL_at (k := k) (by simpa using h1) (by simpa using h2) (fun i x y hi a b => h3 (i + 1) x y (by omega) (by simpa using a) (by simpa using b)) hne
theorem cmp_fne {a b : Tm} (h : a.f ≠ b.f) : cmpT a b = cmpH a.f b.f := by rw [cmpT_eq, if_pos h]
theorem cmpH_val (x y : Int) : cmpH x y = if x < 0 ∧ y < 0 then cmpZ (-1 - x) (-1 - y) else cmpZ x y := by unfold cmpH; rfl
theorem cmpZ_lt (x y : Int) : cmpZ x y < 0 ↔ x < y := by
  unfold cmpZ
  split
  · omega
  · split <;> omega

-- 
set_option maxHeartbeats 2000000 in
theorem refLess_abs (W : World) : ∀ (a b : Tm), a.ok → b.ok → AFun Tryz.prog W 78 [a.cw, b.cw] (.val (.b (decide (cmpT a b < 0)))) := by
  intro a
  induction a using Tm.ind with
  | h f l ih =>
  intro b hoa hob
  obtain ⟨hla, hoa⟩ := (Tm.ok_iff _).1 hoa
  obtain ⟨hlb, hob⟩ := (Tm.ok_iff _).1 hob
  simp only at hla hoa
  have hsz := Tm.size_all l
  have hsz2 := Tm.size_all b.l
  refine afun_of (rs := [.b (decide (cmpT ⟨f, l⟩ b < 0))]) Tryz.func78 Tryz.ntmps78 rfl rfl rfl rfl ?_
  intro w U hW
  refine aS (aR ?_)
  (refine nx (a_box (gN rfl) rfl rfl rfl rfl rfl) rfl ?_)
  (refine nx (a_box (gN rfl) rfl rfl rfl rfl rfl) rfl ?_)
  (refine nx (aA (gN rfl) rfl rfl rfl rfl rfl) rfl ?_)
  show AWp _ _ _ _ _ _ _
  by_cases hn1 : f < 0
  · have hg : decide (f < 0) = true := by simpa using hn1
    refine aS (aS (aR ?_))
    (refine nx (aF (gN rfl) rfl rfl rfl rfl rfl rfl rfl rfl rfl) rfl ?_)
    (refine nx (aLb (gN rfl) rfl rfl rfl rfl rfl rfl rfl rfl rfl rfl rfl rfl) rfl ?_)
    (refine nx (a_lss (gN rfl) rfl rfl rfl rfl rfl rfl) rfl ?_)
    (refine nx (aM (gN rfl) rfl rfl rfl rfl rfl) rfl ?_)
    (refine nx (aF (gd_on rfl rfl rfl rfl (by first | rfl | assumption | (simp; done))) rfl rfl rfl rfl rfl rfl rfl rfl rfl) rfl ?_)
    (refine nx (aLb (gd_on rfl rfl rfl rfl (by first | rfl | assumption | (simp; done))) rfl rfl rfl rfl rfl rfl rfl rfl rfl rfl rfl rfl) rfl ?_)
    (refine nx (a_lss (gd_on rfl rfl rfl rfl (by first | rfl | assumption | (simp; done))) rfl rfl rfl rfl rfl rfl) rfl ?_)
    (refine ⟨_, _, _, aPt (gN rfl) rfl rfl rfl rfl rfl ?hb rfl, rfl, ?_⟩; case hb => (first | rfl | assumption | (simp; done)))
    show AWp _ _ _ _ _ _ _
    refine aC rfl (fun hc => ?_) (fun hc => aK ?_)
    · have hn2 : b.f < 0 := by simpa using hc
      have e : decide (cmpT ⟨f, l⟩ b < 0) = decide (f > b.f) := by
        by_cases hfe : f = b.f
        · have : cmpT ⟨f, l⟩ b = 0 := (cmp_same _ _).1 (same_neg (a := ⟨f, l⟩) hfe hn1)
          rw [this, hfe]; simp
        · rw [cmp_fne (a := ⟨f, l⟩) hfe, cmpH_val, if_pos ⟨hn1, hn2⟩]
          simp only [cmpZ_lt, decide_eq_decide]
          omega
      rw [e]
      refine aS (aR ?_)
      (refine nx (aF (gN rfl) rfl rfl rfl rfl rfl rfl rfl rfl rfl) rfl ?_)
      (refine nx (aLb (gN rfl) rfl rfl rfl rfl rfl rfl rfl rfl rfl rfl rfl rfl) rfl ?_)
      (refine nx (aF (gN rfl) rfl rfl rfl rfl rfl rfl rfl rfl rfl) rfl ?_)
      (refine nx (aLb (gN rfl) rfl rfl rfl rfl rfl rfl rfl rfl rfl rfl rfl rfl) rfl ?_)
      (refine nx (a_gtr (gN rfl) rfl rfl rfl rfl rfl rfl) rfl ?_)
      (refine nx (aA (gN rfl) rfl rfl rfl rfl rfl) rfl ?_)
      show AWp _ _ _ _ _ _ _
      exact aT (And.intro (.inr rfl) rfl)
    have hn2 : ¬ b.f < 0 := by simpa using hc
    have hfe : f ≠ b.f := by omega
    show AWp _ _ _ _ _ _ _
    refine aS (aS (aR ?_))
    (refine nx (aF (gN rfl) rfl rfl rfl rfl rfl rfl rfl rfl rfl) rfl ?_)
    (refine nx (aLb (gN rfl) rfl rfl rfl rfl rfl rfl rfl rfl rfl rfl rfl rfl) rfl ?_)
    (refine nx (aF (gN rfl) rfl rfl rfl rfl rfl rfl rfl rfl rfl) rfl ?_)
    (refine nx (aLb (gN rfl) rfl rfl rfl rfl rfl rfl rfl rfl rfl rfl rfl rfl) rfl ?_)
    (refine nx (a_neq (gN rfl) rfl rfl rfl rfl rfl rfl) rfl ?_)
    show AWp _ _ _ _ _ _ _
    refine aC rfl (fun hc => ?_) (fun hc => ?_)
    · have e : decide (cmpT ⟨f, l⟩ b < 0) = decide (f < b.f) := by
        rw [cmp_fne (a := ⟨f, l⟩) hfe, cmpH_val, if_neg (by simp only; omega)]
        simp only [cmpZ_lt]
      rw [e]
      refine aS (aR ?_)
      (refine nx (aF (gN rfl) rfl rfl rfl rfl rfl rfl rfl rfl rfl) rfl ?_)
      (refine nx (aLb (gN rfl) rfl rfl rfl rfl rfl rfl rfl rfl rfl rfl rfl rfl) rfl ?_)
      (refine nx (aF (gN rfl) rfl rfl rfl rfl rfl rfl rfl rfl rfl) rfl ?_)
      (refine nx (aLb (gN rfl) rfl rfl rfl rfl rfl rfl rfl rfl rfl rfl rfl rfl) rfl ?_)
      (refine nx (a_lss (gN rfl) rfl rfl rfl rfl rfl rfl) rfl ?_)
      (refine nx (aA (gN rfl) rfl rfl rfl rfl rfl) rfl ?_)
      show AWp _ _ _ _ _ _ _
      exact aT (And.intro (.inr rfl) rfl)
    · have : f = b.f := by simpa using hc
      exact absurd this hfe
  have hg : decide (f < 0) = false := by simpa using hn1
  refine aS (aS (aR ?_))
  (refine nx (aF (gN rfl) rfl rfl rfl rfl rfl rfl rfl rfl rfl) rfl ?_)
  (refine nx (aLb (gN rfl) rfl rfl rfl rfl rfl rfl rfl rfl rfl rfl rfl rfl) rfl ?_)
  (refine nx (a_lss (gN rfl) rfl rfl rfl rfl rfl rfl) rfl ?_)
  (refine nx (aM (gN rfl) rfl rfl rfl rfl rfl) rfl ?_)
  (refine ⟨_, _, _, a_off (go_off rfl rfl rfl rfl (by first | rfl | assumption | (simp; done) | (simp [*]; done))) rfl rfl rfl, rfl, ?_⟩)
  (refine ⟨_, _, _, a_off (go_off rfl rfl rfl rfl (by first | rfl | assumption | (simp; done) | (simp [*]; done))) rfl rfl rfl, rfl, ?_⟩)
  (refine ⟨_, _, _, a_off (go_off rfl rfl rfl rfl (by first | rfl | assumption | (simp; done) | (simp [*]; done))) rfl rfl rfl, rfl, ?_⟩)
  (refine ⟨_, _, _, aPf (gN rfl) rfl rfl rfl rfl rfl ?hb rfl, rfl, ?_⟩; case hb => (first | rfl | assumption | (simp; done)))
  show AWp _ _ _ _ _ _ _
  refine aC rfl (fun hc => ?_) (fun hc => aK ?_)
  · cases hc
  show AWp _ _ _ _ _ _ _
  refine aS (aS (aR ?_))
  (refine nx (aF (gN rfl) rfl rfl rfl rfl rfl rfl rfl rfl rfl) rfl ?_)
  (refine nx (aLb (gN rfl) rfl rfl rfl rfl rfl rfl rfl rfl rfl rfl rfl rfl) rfl ?_)
  (refine nx (aF (gN rfl) rfl rfl rfl rfl rfl rfl rfl rfl rfl) rfl ?_)
  (refine nx (aLb (gN rfl) rfl rfl rfl rfl rfl rfl rfl rfl rfl rfl rfl rfl) rfl ?_)
  (refine nx (a_neq (gN rfl) rfl rfl rfl rfl rfl rfl) rfl ?_)
  show AWp _ _ _ _ _ _ _
  refine aC rfl (fun hc => ?_) (fun hc => aK ?_)
  · have hfe : f ≠ b.f := by simpa using hc
    have e : decide (cmpT ⟨f, l⟩ b < 0) = decide (f < b.f) := by
      rw [cmp_fne (a := ⟨f, l⟩) hfe, cmpH_val, if_neg (by simp only; omega)]
      simp only [cmpZ_lt]
    rw [e]
    refine aS (aR ?_)
    (refine nx (aF (gN rfl) rfl rfl rfl rfl rfl rfl rfl rfl rfl) rfl ?_)
    (refine nx (aLb (gN rfl) rfl rfl rfl rfl rfl rfl rfl rfl rfl rfl rfl rfl) rfl ?_)
    (refine nx (aF (gN rfl) rfl rfl rfl rfl rfl rfl rfl rfl rfl) rfl ?_)
    (refine nx (aLb (gN rfl) rfl rfl rfl rfl rfl rfl rfl rfl rfl rfl rfl rfl) rfl ?_)
    (refine nx (a_lss (gN rfl) rfl rfl rfl rfl rfl rfl) rfl ?_)
    (refine nx (aA (gN rfl) rfl rfl rfl rfl rfl) rfl ?_)
    show AWp _ _ _ _ _ _ _
    exact aT (And.intro (.inr rfl) rfl)
  have hfe : f = b.f := by simpa using hc
  clear hc
  have hc1 : cmpT ⟨f, l⟩ b = if l.length ≠ b.l.length then cmpZ l.length b.l.length else cmpL l b.l := by
    rw [cmpT_eq, if_neg (by simpa using hfe), Tm.ps_of_sym (t := ⟨f, l⟩) (by show 0 ≤ f; omega), Tm.ps_of_sym (t := b) (by omega)]
  rw [hc1]
  show AWp _ _ _ _ _ _ _
  refine aS (aS (aR ?_))
  (refine nx (aF (gN rfl) rfl rfl rfl rfl rfl rfl rfl rfl rfl) rfl ?_)
  (refine nx (aLb (gN rfl) rfl rfl rfl rfl rfl rfl rfl rfl rfl rfl rfl rfl) rfl ?_)
  (refine nx (a_len (gN rfl) rfl rfl rfl rfl rfl rfl rfl) rfl ?_)
  (refine nx (aF (gN rfl) rfl rfl rfl rfl rfl rfl rfl rfl rfl) rfl ?_)
  (refine nx (aLb (gN rfl) rfl rfl rfl rfl rfl rfl rfl rfl rfl rfl rfl rfl) rfl ?_)
  (refine nx (a_len (gN rfl) rfl rfl rfl rfl rfl rfl rfl) rfl ?_)
  (refine nx (a_neq (gN rfl) rfl rfl rfl rfl rfl rfl) rfl ?_)
  show AWp _ _ _ _ _ _ _
  refine aC rfl (fun hc => ?_) (fun hc => aK ?_)
  · have hne : l.length ≠ b.l.length := by
      simp only [List.length_map, decide_eq_true_eq] at hc
      omega
    rw [if_pos hne]
    refine aS (aR ?_)
    (refine nx (aF (gN rfl) rfl rfl rfl rfl rfl rfl rfl rfl rfl) rfl ?_)
    (refine nx (aLb (gN rfl) rfl rfl rfl rfl rfl rfl rfl rfl rfl rfl rfl rfl) rfl ?_)
    (refine nx (a_len (gN rfl) rfl rfl rfl rfl rfl rfl rfl) rfl ?_)
    (refine nx (aF (gN rfl) rfl rfl rfl rfl rfl rfl rfl rfl rfl) rfl ?_)
    (refine nx (aLb (gN rfl) rfl rfl rfl rfl rfl rfl rfl rfl rfl rfl rfl rfl) rfl ?_)
    (refine nx (a_len (gN rfl) rfl rfl rfl rfl rfl rfl rfl) rfl ?_)
    (refine nx (a_lss (gN rfl) rfl rfl rfl rfl rfl rfl) rfl ?_)
    (refine nx (aA (gN rfl) rfl rfl rfl rfl rfl) rfl ?_)
    show AWp _ _ _ _ _ _ _
    refine aT (And.intro (.inr rfl) ?_)
    have e : decide (((l.map Tm.cv).length : Int) < ((b.l.map Tm.cv).length : Int)) = decide (cmpZ l.length b.l.length < 0) := by
      simp only [cmpZ_lt, List.length_map]
    exact congrArg (fun x => some [CV.b x]) e
  have hle : l.length = b.l.length := by
    simp only [List.length_map, decide_eq_false_iff_not, ne_eq, Decidable.not_not] at hc
    omega
  clear hc
  rw [if_neg (by omega)]
  show AWp _ _ _ _ _ _ _
  refine aS (aS (aR ?_))
  (refine nx (aA (gN rfl) rfl rfl rfl rfl rfl) rfl ?_)
  show AWp _ _ _ _ _ _ _
  refine aB (awp_countI l.length (fun k => ∀ i x y, i < k → l[i]? = some x → b.l[i]? = some y → cmpT x y = 0) (fun k => [(2, .bp 2 0 []), (100002, .bx (Tm.cw ⟨f, l⟩)), (3, .bp 3 0 []), (100003, .bx b.cw), (5, .val (.i k))]) (wk_sub ⟨rfl, rfl, rfl, rfl, rfl, trivial⟩) (by omega) ?_)
  intro k hk hI
  refine aS (aS (aR ?_))
  (refine nx (aM (gN rfl) rfl rfl rfl rfl rfl) rfl ?_)
  (refine nx (aF (gN rfl) rfl rfl rfl rfl rfl rfl rfl rfl rfl) rfl ?_)
  (refine nx (aLb (gN rfl) rfl rfl rfl rfl rfl rfl rfl rfl rfl rfl rfl rfl) rfl ?_)
  (refine nx (a_len (gN rfl) rfl rfl rfl rfl rfl rfl rfl) rfl ?_)
  (refine nx (a_lss (gN rfl) rfl rfl rfl rfl rfl rfl) rfl ?_)
  show AWp _ _ _ _ _ _ _
  refine aC rfl (fun hc => aK ?_) (fun hc => aE ?_)
  · have hkl : k < l.length := by
      simp only [List.length_map, decide_eq_true_eq] at hc
      omega
    clear hc
    obtain ⟨x, hx⟩ : ∃ x, l[k]? = some x := ⟨l[k], List.getElem?_eq_getElem hkl⟩
    obtain ⟨y, hy⟩ : ∃ y, b.l[k]? = some y := ⟨b.l[k]'(by omega), List.getElem?_eq_getElem (by omega)⟩
    have hx' := Tm.map_at hx
    have hy' := Tm.map_at hy
    have hxm := List.mem_of_getElem? hx
    have hym := List.mem_of_getElem? hy
    show AWp _ _ _ _ _ _ _
    refine aS (aB (aS (aD (by kernel_rfl) (by kernel_rfl) ?_)))
    (refine nx (aF (gN rfl) rfl rfl rfl rfl rfl rfl rfl rfl rfl) rfl ?_)
    (refine nx (aLb (gN rfl) rfl rfl rfl rfl rfl rfl rfl rfl rfl rfl rfl rfl) rfl ?_)
    (refine nx (aM (gN rfl) rfl rfl rfl rfl rfl) rfl ?_)
    (refine nx (a_index (gN rfl) rfl rfl rfl rfl rfl rfl rfl rfl rfl (by assumption) rfl (by first | assumption | exact sZ rfl | exact Tm.size_all _ | exact Bd.size_all _ | exact ints_size _ | exact bys_size _ | exact Lt.size_all _)) rfl ?_)
    (refine nx (a_load_ad (gN rfl) rfl rfl rfl rfl rfl rfl rfl rfl rfl) rfl ?_)
    (refine nx (aF (gN rfl) rfl rfl rfl rfl rfl rfl rfl rfl rfl) rfl ?_)
    (refine nx (aLb (gN rfl) rfl rfl rfl rfl rfl rfl rfl rfl rfl rfl rfl rfl) rfl ?_)
    (refine nx (aM (gN rfl) rfl rfl rfl rfl rfl) rfl ?_)
    (refine nx (a_index (gN rfl) rfl rfl rfl rfl rfl rfl rfl rfl rfl (by assumption) rfl (by first | assumption | exact sZ rfl | exact Tm.size_all _ | exact Bd.size_all _ | exact ints_size _ | exact bys_size _ | exact Lt.size_all _)) rfl ?_)
    (refine nx (a_load_ad (gN rfl) rfl rfl rfl rfl rfl rfl rfl rfl rfl) rfl ?_)
    (refine nx (a_call (gN rfl) rfl rfl rfl rfl rfl (refSame_abs w x y (hoa x hxm) (hob y hym))) rfl ?_)
    (refine nx (a_not (gN rfl) rfl rfl rfl rfl rfl) rfl ?_)
    refine ⟨by kernel_rfl, ?_⟩
    show AWp _ _ _ _ _ _ _
    refine aC rfl (fun hc => ?_) (fun hc => aK ?_)
    · have hs : cmpT x y ≠ 0 := fun e => by rw [← cmp_same] at e; rw [e] at hc; cases hc
      rw [cmpL_at hx hy hI hs]
      refine aS (aD (by kernel_rfl) (by kernel_rfl) ?_)
      (refine nx (aF (gN rfl) rfl rfl rfl rfl rfl rfl rfl rfl rfl) rfl ?_)
      (refine nx (aLb (gN rfl) rfl rfl rfl rfl rfl rfl rfl rfl rfl rfl rfl rfl) rfl ?_)
      (refine nx (aM (gN rfl) rfl rfl rfl rfl rfl) rfl ?_)
      (refine nx (a_index (gN rfl) rfl rfl rfl rfl rfl rfl rfl rfl rfl (by assumption) rfl (by first | assumption | exact sZ rfl | exact Tm.size_all _ | exact Bd.size_all _ | exact ints_size _ | exact bys_size _ | exact Lt.size_all _)) rfl ?_)
      (refine nx (a_load_ad (gN rfl) rfl rfl rfl rfl rfl rfl rfl rfl rfl) rfl ?_)
      (refine nx (aF (gN rfl) rfl rfl rfl rfl rfl rfl rfl rfl rfl) rfl ?_)
      (refine nx (aLb (gN rfl) rfl rfl rfl rfl rfl rfl rfl rfl rfl rfl rfl rfl) rfl ?_)
      (refine nx (aM (gN rfl) rfl rfl rfl rfl rfl) rfl ?_)
      (refine nx (a_index (gN rfl) rfl rfl rfl rfl rfl rfl rfl rfl rfl (by assumption) rfl (by first | assumption | exact sZ rfl | exact Tm.size_all _ | exact Bd.size_all _ | exact ints_size _ | exact bys_size _ | exact Lt.size_all _)) rfl ?_)
      (refine nx (a_load_ad (gN rfl) rfl rfl rfl rfl rfl rfl rfl rfl rfl) rfl ?_)
      (refine nx (a_call (gN rfl) rfl rfl rfl rfl rfl ((ih x hxm y (hoa x hxm) (hob y hym)).up hW)) rfl ?_)
      (refine nx (aA (gN rfl) rfl rfl rfl rfl rfl) rfl ?_)
      refine ⟨by kernel_rfl, ?_⟩
      show AWp _ _ _ _ _ _ _
      exact aT (And.intro (.inr rfl) rfl)
    have hs : cmpT x y = 0 := by rw [← cmp_same]; simpa using hc
    clear hc
    show AWp _ _ _ _ _ _ _
    refine aR ?_
    (refine nx (aM (gN rfl) rfl rfl rfl rfl rfl) rfl ?_)
    (refine nx (a_add (gN rfl) rfl rfl rfl rfl rfl rfl (by first | omega | (simp only [List.length_map, List.length_append, List.length_cons, List.length_nil] <;> omega) | (simp <;> omega))) rfl ?_)
    (refine nx (aA (gN rfl) rfl rfl rfl rfl rfl) rfl ?_)
    refine ⟨hkl, fun i x' y' hi h1 h2 => ?_, wk_sub ⟨rfl, rfl, rfl, rfl, rfl, trivial⟩⟩
    rcases Nat.lt_or_ge i k with h | h
    · exact hI i x' y' h h1 h2
    · obtain rfl : i = k := by omega
      rw [hx] at h1; rw [hy] at h2
      cases h1; cases h2
      exact hs
  · have hkl : k = l.length := by
      simp only [List.length_map, decide_eq_false_iff_not] at hc
      omega
    subst hkl
    have e : cmpL l b.l = 0 := by
      have h1 := same_all (a := ⟨f, l⟩) hfe hn1 hle (fun i x y hi h1 h2 => (cmp_same _ _).2 (hI i x y hi h1 h2))
      rw [cmp_same, hc1, if_neg (by omega)] at h1
      exact h1
    rw [e]
    show AWp _ _ _ _ _ _ _
    refine aS (aR ?_)
    (refine nx (aA (gN rfl) rfl rfl rfl rfl rfl) rfl ?_)
    show AWp _ _ _ _ _ _ _
    exact aT (And.intro (.inr rfl) rfl)
-- 
set_option maxHeartbeats 1000000 in
theorem to_abs (W : World) : ∀ (t : Tm), t.ok → AFun Tryz.prog W 37 [t.cw] (.val t.strip.cw) := by
  intro t
  induction t using Tm.ind with
  | h f l ih =>
  intro hok
  obtain ⟨hl, hok⟩ := (Tm.ok_iff _).1 hok
  simp only at hl hok
  have hsz := Tm.size_all l
  refine afun_of (rs := [(Tm.strip ⟨f, l⟩).cw]) Tryz.func37 Tryz.ntmps37 rfl rfl rfl rfl ?_
  intro w U hW
  refine aS (aR ?_)
  (refine nx (a_box (gN rfl) rfl rfl rfl rfl rfl) rfl ?_)
  (refine nx (a_alloc (gN rfl) rfl rfl rfl rfl rfl rfl rfl rfl rfl rfl) rfl ?_)
  show AWp _ _ _ _ _ _ _
  refine aS (aR ?_)
  (refine nx (aF (gN rfl) rfl rfl rfl rfl rfl rfl rfl rfl rfl) rfl ?_)
  (refine nx (aLb (gN rfl) rfl rfl rfl rfl rfl rfl rfl rfl rfl rfl rfl rfl) rfl ?_)
  (refine nx (a_build (gN rfl) rfl rfl rfl rfl rfl rfl rfl rfl rfl rfl rfl) rfl ?_)
  (refine nx (a_alloc (gN rfl) rfl rfl rfl rfl rfl rfl rfl rfl rfl rfl) rfl ?_)
  (refine nx (aSt (gN rfl) rfl rfl rfl rfl rfl rfl rfl rfl rfl rfl) rfl ?_)
  show AWp _ _ _ _ _ _ _
  refine aS (aS (aR ?_))
  (refine nx (aA (gN rfl) rfl rfl rfl rfl rfl) rfl ?_)
  show AWp _ _ _ _ _ _ _
  by_cases hf : f < 0
  · have hg : decide (f ≥ 0) = false := by simpa using hf
    rw [show (Tm.strip ⟨f, l⟩) = ⟨f, []⟩ by rw [Tm.strip_eq, Tm.ps_of_var (t := ⟨f, l⟩) hf]; rfl]
    refine aB (awp_count 0 (fun k => [(1, .bp 1 0 []), (100001, .bx (Tm.cw ⟨f, l⟩)), (2, .bp 2 0 []), (100002, ⟨5, .row [.i 0, .lst []], 1, 0, [1]⟩), (3, .bp 3 0 []), (100003, ⟨5, .row [.i f, .lst []], 1, 0, [1]⟩), (4, .val (.i k))]) (wk_sub ⟨rfl, rfl, rfl, rfl, rfl, rfl, rfl, trivial⟩) ?_)
    intro k hk
    refine aS (aS (aR ?_))
    (refine nx (aF (gN rfl) rfl rfl rfl rfl rfl rfl rfl rfl rfl) rfl ?_)
    (refine nx (aLb (gN rfl) rfl rfl rfl rfl rfl rfl rfl rfl rfl rfl rfl rfl) rfl ?_)
    (refine nx (a_geq (gN rfl) rfl rfl rfl rfl rfl rfl) rfl ?_)
    (refine nx (aM (gN rfl) rfl rfl rfl rfl rfl) rfl ?_)
    (refine ⟨_, _, _, a_off (go_off rfl rfl rfl rfl (by first | rfl | assumption | (simp; done) | (simp [*]; done))) rfl rfl rfl, rfl, ?_⟩)
    (refine ⟨_, _, _, a_off (go_off rfl rfl rfl rfl (by first | rfl | assumption | (simp; done) | (simp [*]; done))) rfl rfl rfl, rfl, ?_⟩)
    (refine ⟨_, _, _, a_off (go_off rfl rfl rfl rfl (by first | rfl | assumption | (simp; done) | (simp [*]; done))) rfl rfl rfl, rfl, ?_⟩)
    (refine ⟨_, _, _, a_off (go_off rfl rfl rfl rfl (by first | rfl | assumption | (simp; done) | (simp [*]; done))) rfl rfl rfl, rfl, ?_⟩)
    (refine ⟨_, _, _, a_off (go_off rfl rfl rfl rfl (by first | rfl | assumption | (simp; done) | (simp [*]; done))) rfl rfl rfl, rfl, ?_⟩)
    (refine ⟨_, _, _, aPf (gN rfl) rfl rfl rfl rfl rfl ?hb rfl, rfl, ?_⟩; case hb => (first | rfl | assumption | (simp; done)))
    show AWp _ _ _ _ _ _ _
    refine aC rfl (fun hc => by cases hc) (fun hc => aE ?_)
    show AWp _ _ _ _ _ _ _
    refine aS (aR ?_)
    (refine nx (aL (gN rfl) rfl rfl rfl rfl rfl rfl rfl rfl rfl rfl rfl rfl) rfl ?_)
    (refine nx (aSt (gN rfl) rfl rfl rfl rfl rfl rfl rfl rfl rfl rfl) rfl ?_)
    show AWp _ _ _ _ _ _ _
    exact aT (And.intro (.inr rfl) rfl)
  have hg : decide (f ≥ 0) = true := by simp only [decide_eq_true_eq]; omega
  rw [show (Tm.strip ⟨f, l⟩) = ⟨f, l.map Tm.strip⟩ by rw [Tm.strip_eq, Tm.ps_of_sym (t := ⟨f, l⟩) (by show 0 ≤ f; omega)]]
  refine aB (awp_count l.length (fun k => [(1, .bp 1 0 []), (100001, .bx (Tm.cw ⟨f, l⟩)), (2, .bp 2 0 []), (100002, ⟨5, .row [.i 0, .lst []], 1, 0, [1]⟩), (3, .bp 3 0 []), (100003, ⟨5, .row [.i f, .lst (((l.take k).map Tm.strip).map Tm.cv)], 200029, 0, [1]⟩), (200029, .tok 33 2), (4, .val (.i k))])
    ((wk_nil 100003 200029 33 2 rfl rfl rfl rfl rfl rfl rfl).trans (wk_sub ⟨rfl, rfl, rfl, rfl, rfl, rfl, rfl, rfl, trivial⟩)) ?_)
  intro k hk
  refine aS (aS (aR ?_))
  (refine nx (aF (gN rfl) rfl rfl rfl rfl rfl rfl rfl rfl rfl) rfl ?_)
  (refine nx (aLb (gN rfl) rfl rfl rfl rfl rfl rfl rfl rfl rfl rfl rfl rfl) rfl ?_)
  (refine nx (a_geq (gN rfl) rfl rfl rfl rfl rfl rfl) rfl ?_)
  (refine nx (aM (gN rfl) rfl rfl rfl rfl rfl) rfl ?_)
  (refine nx (aM (gd_on rfl rfl rfl rfl (by first | rfl | assumption | (simp; done))) rfl rfl rfl rfl rfl) rfl ?_)
  (refine nx (aF (gd_on rfl rfl rfl rfl (by first | rfl | assumption | (simp; done))) rfl rfl rfl rfl rfl rfl rfl rfl rfl) rfl ?_)
  (refine nx (aLb (gd_on rfl rfl rfl rfl (by first | rfl | assumption | (simp; done))) rfl rfl rfl rfl rfl rfl rfl rfl rfl rfl rfl rfl) rfl ?_)
  (refine nx (a_len (gd_on rfl rfl rfl rfl (by first | rfl | assumption | (simp; done))) rfl rfl rfl rfl rfl rfl rfl) rfl ?_)
  (refine nx (a_lss (gd_on rfl rfl rfl rfl (by first | rfl | assumption | (simp; done))) rfl rfl rfl rfl rfl rfl) rfl ?_)
  (refine ⟨_, _, _, aPt (gN rfl) rfl rfl rfl rfl rfl ?hb rfl, rfl, ?_⟩; case hb => (first | rfl | assumption | (simp; done)))
  show AWp _ _ _ _ _ _ _
  refine aC rfl (fun hc => aK ?_) (fun hc => aE ?_)
  · have hkl : k < l.length := by
      simp only [List.length_map, decide_eq_true_eq] at hc
      omega
    clear hc
    obtain ⟨t, ht⟩ : ∃ t, l[k]? = some t := ⟨l[k], List.getElem?_eq_getElem hkl⟩
    have ht' := Tm.map_at ht
    have htm := List.mem_of_getElem? ht
    show AWp _ _ _ _ _ _ _
    refine aS (aB (aD (by kernel_rfl) (by kernel_rfl) ?_))
    (refine nx (aF (gN rfl) rfl rfl rfl rfl rfl rfl rfl rfl rfl) rfl ?_)
    (refine nx (a_load_tok (gN rfl) rfl rfl rfl rfl rfl rfl rfl rfl rfl rfl rfl rfl rfl) rfl ?_)
    (refine nx (aF (gN rfl) rfl rfl rfl rfl rfl rfl rfl rfl rfl) rfl ?_)
    (refine nx (aLb (gN rfl) rfl rfl rfl rfl rfl rfl rfl rfl rfl rfl rfl rfl) rfl ?_)
    (refine nx (aM (gN rfl) rfl rfl rfl rfl rfl) rfl ?_)
    (refine nx (a_index (gN rfl) rfl rfl rfl rfl rfl rfl rfl rfl rfl (by assumption) rfl (by first | assumption | exact sZ rfl | exact Tm.size_all _ | exact Bd.size_all _ | exact ints_size _ | exact bys_size _ | exact Lt.size_all _)) rfl ?_)
    (refine nx (a_load_ad (gN rfl) rfl rfl rfl rfl rfl rfl rfl rfl rfl) rfl ?_)
    (refine nx (a_call (gN rfl) rfl rfl rfl rfl rfl ((ih t htm (hok t htm)).up hW)) rfl ?_)
    (refine nx (a_bslice (gN rfl) rfl rfl rfl rfl rfl rfl rfl rfl rfl rfl rfl rfl rfl) rfl ?_)
    (refine nx (a_app (gN rfl) rfl rfl rfl rfl rfl rfl rfl rfl rfl rfl rfl rfl rfl rfl rfl (by first | assumption | exact sZ rfl | exact Tm.size_all _ | exact Bd.size_all _ | exact ints_size _ | exact bys_size _ | exact Lt.size_all _) (by first | assumption | exact sZ rfl | exact Tm.size_all _ | exact Bd.size_all _ | exact ints_size _ | exact bys_size _ | exact Lt.size_all _) (by first | omega | (simp only [List.length_map, List.length_append, List.length_cons, List.length_nil] <;> omega) | (simp <;> omega))) rfl ?_)
    (refine nx (aF (gN rfl) rfl rfl rfl rfl rfl rfl rfl rfl rfl) rfl ?_)
    (refine nx (a_store (gN rfl) rfl rfl rfl rfl rfl rfl rfl rfl rfl rfl) rfl ?_)
    refine ⟨by kernel_rfl, ?_⟩
    show AWp _ _ _ _ _ _ _
    refine aR ?_
    (refine nx (aM (gN rfl) rfl rfl rfl rfl rfl) rfl ?_)
    (refine nx (a_add (gN rfl) rfl rfl rfl rfl rfl rfl (by first | omega | (simp only [List.length_map, List.length_append, List.length_cons, List.length_nil] <;> omega) | (simp <;> omega))) rfl ?_)
    (refine nx (aA (gN rfl) rfl rfl rfl rfl rfl) rfl ?_)
    refine ⟨hkl, Wk.trans (wk_sub (s' := [(1, .bp 1 0 []), (100001, .bx (Tm.cw ⟨f, l⟩)), (2, .bp 2 0 []), (100002, ⟨5, .row [.i 0, .lst []], 1, 0, [1]⟩), (3, .bp 3 0 []), (100003, ⟨5, .row [.i f, .lst (((l.take (k + 1)).map Tm.strip).map Tm.cv)], 300029, 0, [1]⟩), (300029, .tok 33 2), (4, .val (.i ((k + 1 : Nat) : Int)))]) ⟨rfl, rfl, rfl, rfl, rfl, ?_, rfl, rfl, trivial⟩) (wk_ren 300029 200029 rfl rfl rfl rfl)⟩
    rw [List.take_add_one, ht, List.map_append, List.map_append]
    simp only [Option.toList_some, List.map_cons, List.map_nil, Tm.cv_eq]
    rfl
  · have hkl : k = l.length := by
      simp only [List.length_map, decide_eq_false_iff_not] at hc
      omega
    subst hkl
    rw [List.take_length]
    show AWp _ _ _ _ _ _ _
    refine aS (aR ?_)
    (refine nx (aL (gN rfl) rfl rfl rfl rfl rfl rfl rfl rfl rfl rfl rfl rfl) rfl ?_)
    (refine nx (aSt (gN rfl) rfl rfl rfl rfl rfl rfl rfl rfl rfl rfl) rfl ?_)
    show AWp _ _ _ _ _ _ _
    exact aT (And.intro (.inr rfl) rfl)

theorem flat_len_take (l : List Tm) (k : Nat) : ((l.take k).flatMap Tm.flat).length ≤ (l.flatMap Tm.flat).length := by
  conv => rhs; rw [← List.take_append_drop k l, List.flatMap_append, List.length_append]
  omega
-- 
set_option maxHeartbeats 1000000 in
theorem refFlat_abs (W : World) : ∀ (t : Tm), t.ok → t.size ≤ 90000000000 → AFun Tryz.prog W 10 [t.cw] (.val (.lst (t.flat.map Tm.cv))) := by
  intro t
  induction t using Tm.ind with
  | h f l ih =>
  intro hok hts
  obtain ⟨hl, hok⟩ := (Tm.ok_iff _).1 hok
  simp only at hl hok
  have hsz := Tm.size_all l
  refine afun_of (rs := [.lst ((Tm.flat ⟨f, l⟩).map Tm.cv)]) Tryz.func10 Tryz.ntmps10 rfl rfl rfl rfl ?_
  intro w U hW
  refine aS (aR ?_)
  (refine nx (a_box (gN rfl) rfl rfl rfl rfl rfl) rfl ?_)
  (refine nx (aA (gN rfl) rfl rfl rfl rfl rfl) rfl ?_)
  show AWp _ _ _ _ _ _ _
  refine aS (aR ?_)
  (refine nx (aL (gN rfl) rfl rfl rfl rfl rfl rfl rfl rfl rfl rfl rfl rfl) rfl ?_)
  (refine nx (a_bsliceT (gN rfl) rfl rfl rfl rfl rfl rfl rfl rfl rfl rfl rfl rfl rfl rfl) rfl ?_)
  (refine nx (aA (gN rfl) rfl rfl rfl rfl rfl) rfl ?_)
  show AWp _ _ _ _ _ _ _
  refine aS (aS (aR ?_))
  (refine nx (aA (gN rfl) rfl rfl rfl rfl rfl) rfl ?_)
  show AWp _ _ _ _ _ _ _
  have e0 : look [(3, AV.own (.lst [Tm.cw ⟨f, l⟩]) 300006)] 3 = some (.own (.lst ([Tm.mk f l].map Tm.cv)) 300006) := by
    simp only [List.map_cons, List.map_nil, Tm.cv_eq]
    rfl
  by_cases hf : f < 0
  · have hg : decide (f ≥ 0) = false := by simpa using hf
    rw [show Tm.flat ⟨f, l⟩ = [⟨f, l⟩] by rw [Tm.flat_eq, Tm.ps_of_var (t := ⟨f, l⟩) hf]; rfl]
    refine aB (awp_count 0 (fun k => [(1, .bp 1 0 []), (100001, .bx (Tm.cw ⟨f, l⟩)), (3, .val (.lst ([Tm.mk f l].map Tm.cv))), (4, .val (.i k))]) (Wk.trans (wk_sub (s' := [(1, .bp 1 0 []), (100001, .bx (Tm.cw ⟨f, l⟩)), (3, .own (.lst ([Tm.mk f l].map Tm.cv)) 300006), (4, .val (.i (0 : Nat)))]) ⟨rfl, rfl, e0, rfl, trivial⟩) (wk_plain 3 rfl)) ?_)
    intro k hk
    refine aS (aS (aR ?_))
    (refine nx (aF (gN rfl) rfl rfl rfl rfl rfl rfl rfl rfl rfl) rfl ?_)
    (refine nx (aLb (gN rfl) rfl rfl rfl rfl rfl rfl rfl rfl rfl rfl rfl rfl) rfl ?_)
    (refine nx (a_geq (gN rfl) rfl rfl rfl rfl rfl rfl) rfl ?_)
    (refine nx (aM (gN rfl) rfl rfl rfl rfl rfl) rfl ?_)
    (refine ⟨_, _, _, a_off (go_off rfl rfl rfl rfl (by first | rfl | assumption | (simp; done) | (simp [*]; done))) rfl rfl rfl, rfl, ?_⟩)
    (refine ⟨_, _, _, a_off (go_off rfl rfl rfl rfl (by first | rfl | assumption | (simp; done) | (simp [*]; done))) rfl rfl rfl, rfl, ?_⟩)
    (refine ⟨_, _, _, a_off (go_off rfl rfl rfl rfl (by first | rfl | assumption | (simp; done) | (simp [*]; done))) rfl rfl rfl, rfl, ?_⟩)
    (refine ⟨_, _, _, a_off (go_off rfl rfl rfl rfl (by first | rfl | assumption | (simp; done) | (simp [*]; done))) rfl rfl rfl, rfl, ?_⟩)
    (refine ⟨_, _, _, a_off (go_off rfl rfl rfl rfl (by first | rfl | assumption | (simp; done) | (simp [*]; done))) rfl rfl rfl, rfl, ?_⟩)
    (refine ⟨_, _, _, aPf (gN rfl) rfl rfl rfl rfl rfl ?hb rfl, rfl, ?_⟩; case hb => (first | rfl | assumption | (simp; done)))
    show AWp _ _ _ _ _ _ _
    refine aC rfl (fun hc => by cases hc) (fun hc => aE ?_)
    show AWp _ _ _ _ _ _ _
    refine aS (aR ?_)
    (refine nx (aM (gN rfl) rfl rfl rfl rfl rfl) rfl ?_)
    (refine nx (aA (gN rfl) rfl rfl rfl rfl rfl) rfl ?_)
    show AWp _ _ _ _ _ _ _
    exact aT (And.intro (.inr rfl) rfl)
  have hg : decide (f ≥ 0) = true := by simp only [decide_eq_true_eq]; omega
  have hfl : Tm.flat ⟨f, l⟩ = ⟨f, l⟩ :: l.flatMap Tm.flat := by rw [Tm.flat_eq, Tm.ps_of_sym (t := ⟨f, l⟩) (by show 0 ≤ f; omega)]
  unfold Tm.size at hts
  rw [hfl] at hts ⊢
  rw [List.length_cons] at hts
  refine aB (awp_count l.length (fun k => [(1, .bp 1 0 []), (100001, .bx (Tm.cw ⟨f, l⟩)), (3, .own (.lst ((Tm.mk f l :: (l.take k).flatMap Tm.flat).map Tm.cv)) 200026), (200026, .tok 33 2), (4, .val (.i k))])
    (Wk.trans (wk_sub (s' := [(1, .bp 1 0 []), (100001, .bx (Tm.cw ⟨f, l⟩)), (3, .own (.lst ([Tm.mk f l].map Tm.cv)) 300006), (300006, .tok 33 2), (4, .val (.i (0 : Nat)))]) ⟨rfl, rfl, e0, rfl, rfl, trivial⟩) (wk_ren 300006 200026 rfl rfl rfl rfl)) ?_)
  intro k hk
  refine aS (aS (aR ?_))
  (refine nx (aF (gN rfl) rfl rfl rfl rfl rfl rfl rfl rfl rfl) rfl ?_)
  (refine nx (aLb (gN rfl) rfl rfl rfl rfl rfl rfl rfl rfl rfl rfl rfl rfl) rfl ?_)
  (refine nx (a_geq (gN rfl) rfl rfl rfl rfl rfl rfl) rfl ?_)
  (refine nx (aM (gN rfl) rfl rfl rfl rfl rfl) rfl ?_)
  (refine nx (aM (gd_on rfl rfl rfl rfl (by first | rfl | assumption | (simp; done))) rfl rfl rfl rfl rfl) rfl ?_)
  (refine nx (aF (gd_on rfl rfl rfl rfl (by first | rfl | assumption | (simp; done))) rfl rfl rfl rfl rfl rfl rfl rfl rfl) rfl ?_)
  (refine nx (aLb (gd_on rfl rfl rfl rfl (by first | rfl | assumption | (simp; done))) rfl rfl rfl rfl rfl rfl rfl rfl rfl rfl rfl rfl) rfl ?_)
  (refine nx (a_len (gd_on rfl rfl rfl rfl (by first | rfl | assumption | (simp; done))) rfl rfl rfl rfl rfl rfl rfl) rfl ?_)
  (refine nx (a_lss (gd_on rfl rfl rfl rfl (by first | rfl | assumption | (simp; done))) rfl rfl rfl rfl rfl rfl) rfl ?_)
  (refine ⟨_, _, _, aPt (gN rfl) rfl rfl rfl rfl rfl ?hb rfl, rfl, ?_⟩; case hb => (first | rfl | assumption | (simp; done)))
  show AWp _ _ _ _ _ _ _
  refine aC rfl (fun hc => aK ?_) (fun hc => aE ?_)
  · have hkl : k < l.length := by
      simp only [List.length_map, decide_eq_true_eq] at hc
      omega
    clear hc
    obtain ⟨t, ht⟩ : ∃ t, l[k]? = some t := ⟨l[k], List.getElem?_eq_getElem hkl⟩
    have ht' := Tm.map_at ht
    have htm := List.mem_of_getElem? ht
    have hb1 := flat_len_take l k
    have hb2 := flatMap_len_mem Tm.flat htm
    have hb3 := flat_len_take l (k + 1)
    rw [List.take_add_one, ht, List.flatMap_append, List.length_append] at hb3
    simp only [Option.toList_some, List.flatMap_cons, List.flatMap_nil, List.append_nil] at hb3
    show AWp _ _ _ _ _ _ _
    refine aS (aB (aR ?_))
    (refine nx (aM (gN rfl) rfl rfl rfl rfl rfl) rfl ?_)
    (refine nx (aF (gN rfl) rfl rfl rfl rfl rfl rfl rfl rfl rfl) rfl ?_)
    (refine nx (aLb (gN rfl) rfl rfl rfl rfl rfl rfl rfl rfl rfl rfl rfl rfl) rfl ?_)
    (refine nx (aM (gN rfl) rfl rfl rfl rfl rfl) rfl ?_)
    (refine nx (a_index (gN rfl) rfl rfl rfl rfl rfl rfl rfl rfl rfl (by assumption) rfl (by first | assumption | exact sZ rfl | exact Tm.size_all _ | exact Bd.size_all _ | exact ints_size _ | exact bys_size _ | exact Lt.size_all _)) rfl ?_)
    (refine nx (a_load_ad (gN rfl) rfl rfl rfl rfl rfl rfl rfl rfl rfl) rfl ?_)
    (refine nx (a_call (gN rfl) rfl rfl rfl rfl rfl ((ih t htm (hok t htm) (by unfold Tm.size; omega)).up hW)) rfl ?_)
    (refine nx (a_app (gN rfl) rfl rfl rfl rfl rfl rfl rfl rfl rfl rfl rfl rfl rfl rfl rfl (by first | assumption | exact sZ rfl | exact Tm.size_all _ | exact Bd.size_all _ | exact ints_size _ | exact bys_size _ | exact Lt.size_all _) (by first | assumption | exact sZ rfl | exact Tm.size_all _ | exact Bd.size_all _ | exact ints_size _ | exact bys_size _ | exact Lt.size_all _) (by first | omega | (simp only [List.length_map, List.length_append, List.length_cons, List.length_nil] <;> omega) | (simp <;> omega))) rfl ?_)
    (refine nx (aA (gN rfl) rfl rfl rfl rfl rfl) rfl ?_)
    show AWp _ _ _ _ _ _ _
    refine aR ?_
    (refine nx (aM (gN rfl) rfl rfl rfl rfl rfl) rfl ?_)
    (refine nx (a_add (gN rfl) rfl rfl rfl rfl rfl rfl (by first | omega | (simp only [List.length_map, List.length_append, List.length_cons, List.length_nil] <;> omega) | (simp <;> omega))) rfl ?_)
    (refine nx (aA (gN rfl) rfl rfl rfl rfl rfl) rfl ?_)
    refine ⟨hkl, Wk.trans (wk_sub (s' := [(1, .bp 1 0 []), (100001, .bx (Tm.cw ⟨f, l⟩)), (3, .own (.lst ((Tm.mk f l :: (l.take (k + 1)).flatMap Tm.flat).map Tm.cv)) 300026), (300026, .tok 33 2), (4, .val (.i ((k + 1 : Nat) : Int)))]) ⟨rfl, rfl, ?_, rfl, rfl, trivial⟩) (wk_ren 300026 200026 rfl rfl rfl rfl)⟩
    rw [List.take_add_one, ht, List.flatMap_append, ← List.cons_append, List.map_append]
    simp only [Option.toList_some, List.flatMap_cons, List.flatMap_nil, List.append_nil]
    rfl
  · have hkl : k = l.length := by
      simp only [List.length_map, decide_eq_false_iff_not] at hc
      omega
    subst hkl
    rw [List.take_length]
    show AWp _ _ _ _ _ _ _
    refine aS (aR ?_)
    (refine nx (aM (gN rfl) rfl rfl rfl rfl rfl) rfl ?_)
    (refine nx (aA (gN rfl) rfl rfl rfl rfl rfl) rfl ?_)
    show AWp _ _ _ _ _ _ _
    exact aT (And.intro (.inr rfl) rfl)
theorem Tm.rng_flat {t : Tm} (h : t.rng) : ∀ s ∈ t.flat, -9223372036854775808 ≤ s.f ∧ s.f ≤ 9223372036854775807 := by
  induction t using Tm.indp with
  | h t ih =>
    intro s hs
    rw [Tm.flat_eq] at hs
    rcases List.mem_cons.1 hs with rfl | hs
    · exact ((Tm.rng_iff _).1 h).1
    · obtain ⟨u, hu, hs⟩ := List.mem_flatMap.1 hs
      exact ih u hu (((Tm.rng_iff _).1 h).2 u (Tm.ps_mem hu).1) s hs
theorem mem_take_succ {l : List Int} {k : Nat} {x n : Int} (h : l[k]? = some x) : n ∈ l.take (k + 1) ↔ n ∈ l.take k ∨ x = n := by
  rw [List.take_add_one, h, List.mem_append]
  simp [eq_comm]

-- 
set_option maxHeartbeats 2000000 in
theorem refVars_abs (W : World) (t : Tm) (hr : t.rng) (hok : t.ok) (hts : t.size ≤ 90000000000) : AFun Tryz.prog W 43 [t.cw] (.val (.lst ((varsF t.flat).map CV.i))) := by
  refine afun_of (rs := [.lst ((varsF t.flat).map CV.i)]) Tryz.func43 Tryz.ntmps43 rfl rfl rfl rfl ?_
  intro w U hW
  refine aS (aR ?_)
  (refine nx (a_box (gN rfl) rfl rfl rfl rfl rfl) rfl ?_)
  (refine nx (aA (gN rfl) rfl rfl rfl rfl rfl) rfl ?_)
  show AWp _ _ _ _ _ _ _
  refine aS (aR ?_)
  (refine nx (aL (gN rfl) rfl rfl rfl rfl rfl rfl rfl rfl rfl rfl rfl rfl) rfl ?_)
  (refine nx (a_call (gN rfl) rfl rfl rfl rfl rfl (refFlat_abs w t hok hts)) rfl ?_)
  (refine nx (aA (gN rfl) rfl rfl rfl rfl rfl) rfl ?_)
  show AWp _ _ _ _ _ _ _
  have hrf := Tm.rng_flat hr
  unfold Tm.size at hts
  obtain ⟨l, hl⟩ : ∃ l, l = t.flat := ⟨_, rfl⟩
  rw [← hl] at hrf hts ⊢
  have hsz := Tm.size_all l
  refine aS (aR ?_)
  (refine nx (aA (gN rfl) rfl rfl rfl rfl rfl) rfl ?_)
  show AWp _ _ _ _ _ _ _
  refine aS (aS (aR ?_))
  (refine nx (aA (gN rfl) rfl rfl rfl rfl rfl) rfl ?_)
  show AWp _ _ _ _ _ _ _
  refine aB (awp_count l.length (fun i => [(3, .val (.lst (l.map Tm.cv))), (4, .own (.lst ((varsF (l.take i)).map CV.i)) 200049), (200049, .tok 3 1), (5, .val (.i i))])
    ((wk_nil 4 200049 3 1 rfl rfl rfl rfl rfl rfl rfl).trans (wk_sub ⟨rfl, rfl, rfl, rfl, trivial⟩)) ?_)
  intro i hi
  refine aS (aS (aR ?_))
  (refine nx (aM (gN rfl) rfl rfl rfl rfl rfl) rfl ?_)
  (refine nx (aM (gN rfl) rfl rfl rfl rfl rfl) rfl ?_)
  (refine nx (a_len (gN rfl) rfl rfl rfl rfl rfl rfl rfl) rfl ?_)
  (refine nx (a_lss (gN rfl) rfl rfl rfl rfl rfl rfl) rfl ?_)
  show AWp _ _ _ _ _ _ _
  refine aC rfl (fun hc => aK ?_) (fun hc => aE ?_)
  · have hil : i < l.length := by
      simp only [List.length_map, decide_eq_true_eq] at hc
      omega
    clear hc
    obtain ⟨s, hs⟩ : ∃ s, l[i]? = some s := ⟨l[i], List.getElem?_eq_getElem hil⟩
    have hs' := Tm.map_at hs
    have hsr := hrf s (List.mem_of_getElem? hs)
    have htk : l.take (i + 1) = l.take i ++ [s] := by rw [List.take_add_one, hs]; rfl
    have hvl := varsF_len (l.take i)
    rw [List.length_take] at hvl
    show AWp _ _ _ _ _ _ _
    refine aS (aB (aS (aS (aR ?_))))
    (refine nx (aM (gN rfl) rfl rfl rfl rfl rfl) rfl ?_)
    (refine nx (aM (gN rfl) rfl rfl rfl rfl rfl) rfl ?_)
    (refine nx (a_index (gN rfl) rfl rfl rfl rfl rfl rfl rfl rfl rfl (by assumption) rfl (by first | assumption | exact sZ rfl | exact Tm.size_all _ | exact Bd.size_all _ | exact ints_size _ | exact bys_size _ | exact Lt.size_all _)) rfl ?_)
    (refine nx (a_field_ad (gN rfl) rfl rfl rfl rfl rfl rfl rfl rfl rfl rfl rfl) rfl ?_)
    (refine nx (a_load_ad (gN rfl) rfl rfl rfl rfl rfl rfl rfl rfl rfl) rfl ?_)
    (refine nx (a_geq (gN rfl) rfl rfl rfl rfl rfl rfl) rfl ?_)
    show AWp _ _ _ _ _ _ _
    refine aC rfl (fun hc => aE ?_) (fun hc => aK ?_)
    · have hsf : ¬ s.f < 0 := by
        simp only [decide_eq_true_eq] at hc
        omega
      show AWp _ _ _ _ _ _ _
      refine aR ?_
      (refine nx (aM (gN rfl) rfl rfl rfl rfl rfl) rfl ?_)
      (refine nx (a_add (gN rfl) rfl rfl rfl rfl rfl rfl (by first | omega | (simp only [List.length_map, List.length_append, List.length_cons, List.length_nil] <;> omega) | (simp <;> omega))) rfl ?_)
      (refine nx (aA (gN rfl) rfl rfl rfl rfl rfl) rfl ?_)
      refine ⟨hil, wk_sub ⟨rfl, ?_, rfl, rfl, trivial⟩⟩
      rw [htk, varsF_snoc]
      unfold varS
      rw [if_neg hsf]
      rfl
    have hsf : s.f < 0 := by
      simp only [decide_eq_false_iff_not] at hc
      omega
    clear hc
    show AWp _ _ _ _ _ _ _
    refine aS (aR ?_)
    (refine nx (aM (gN rfl) rfl rfl rfl rfl rfl) rfl ?_)
    (refine nx (aM (gN rfl) rfl rfl rfl rfl rfl) rfl ?_)
    (refine nx (a_index (gN rfl) rfl rfl rfl rfl rfl rfl rfl rfl rfl (by assumption) rfl (by first | assumption | exact sZ rfl | exact Tm.size_all _ | exact Bd.size_all _ | exact ints_size _ | exact bys_size _ | exact Lt.size_all _)) rfl ?_)
    (refine nx (a_field_ad (gN rfl) rfl rfl rfl rfl rfl rfl rfl rfl rfl rfl rfl) rfl ?_)
    (refine nx (a_load_ad (gN rfl) rfl rfl rfl rfl rfl rfl rfl rfl rfl) rfl ?_)
    (refine nx (a_sub (gN rfl) rfl rfl rfl rfl rfl rfl (by first | omega | (simp only [List.length_map, List.length_append, List.length_cons, List.length_nil] <;> omega) | (simp <;> omega))) rfl ?_)
    (refine nx (aA (gN rfl) rfl rfl rfl rfl rfl) rfl ?_)
    show AWp _ _ _ _ _ _ _
    refine aS (aR ?_)
    (refine nx (aA (gN rfl) rfl rfl rfl rfl rfl) rfl ?_)
    show AWp _ _ _ _ _ _ _
    obtain ⟨n, hn⟩ : ∃ n, n = -1 - s.f := ⟨_, rfl⟩
    obtain ⟨out, ho⟩ : ∃ out, out = varsF (l.take i) := ⟨_, rfl⟩
    rw [← ho] at hvl ⊢
    have hoz := ints_size out
    refine aS (aS (aR ?_))
    (refine nx (aA (gN rfl) rfl rfl rfl rfl rfl) rfl ?_)
    show AWp _ _ _ _ _ _ _
    refine aB (awp_count out.length (fun k => [(3, .val (.lst (l.map Tm.cv))), (4, .own (.lst (out.map CV.i)) 200049), (200049, .tok 3 1), (5, .val (.i i)), (6, .val (.i n)), (7, .val (.b (decide (n ∈ out.take k)))), (8, .val (.i k))]) (wk_sub ⟨rfl, rfl, rfl, rfl, by rw [hn]; rfl, rfl, rfl, trivial⟩) ?_)
    intro k hk
    refine aS (aS (aR ?_))
    (refine nx (aM (gN rfl) rfl rfl rfl rfl rfl) rfl ?_)
    (refine nx (aM (gN rfl) rfl rfl rfl rfl rfl) rfl ?_)
    (refine nx (a_len (gN rfl) rfl rfl rfl rfl rfl rfl rfl) rfl ?_)
    (refine nx (a_lss (gN rfl) rfl rfl rfl rfl rfl rfl) rfl ?_)
    show AWp _ _ _ _ _ _ _
    refine aC rfl (fun hc => aK ?_) (fun hc => aE ?_)
    · have hkl : k < out.length := by
        simp only [List.length_map, decide_eq_true_eq] at hc
        omega
      clear hc
      obtain ⟨x, hx⟩ : ∃ x, out[k]? = some x := ⟨out[k], List.getElem?_eq_getElem hkl⟩
      have hx' := ints_at hx
      show AWp _ _ _ _ _ _ _
      by_cases hm : n ∈ out.take k
      · have hg : decide (n ∈ out.take k) = true := by simpa using hm
        refine aS (aB (aR ?_))
        (refine nx (aM (gN rfl) rfl rfl rfl rfl rfl) rfl ?_)
        (refine nx (aM (gN rfl) rfl rfl rfl rfl rfl) rfl ?_)
        (refine ⟨_, _, _, a_off (go_off rfl rfl rfl rfl (by first | rfl | assumption | (simp; done) | (simp [*]; done))) rfl rfl rfl, rfl, ?_⟩)
        (refine ⟨_, _, _, a_off (go_off rfl rfl rfl rfl (by first | rfl | assumption | (simp; done) | (simp [*]; done))) rfl rfl rfl, rfl, ?_⟩)
        (refine ⟨_, _, _, a_off (go_off rfl rfl rfl rfl (by first | rfl | assumption | (simp; done) | (simp [*]; done))) rfl rfl rfl, rfl, ?_⟩)
        (refine ⟨_, _, _, a_off (go_off rfl rfl rfl rfl (by first | rfl | assumption | (simp; done) | (simp [*]; done))) rfl rfl rfl, rfl, ?_⟩)
        (refine ⟨_, _, _, a_off (go_off rfl rfl rfl rfl (by first | rfl | assumption | (simp; done) | (simp [*]; done))) rfl rfl rfl, rfl, ?_⟩)
        (refine ⟨_, _, _, a_off (go_off rfl rfl rfl rfl (by first | rfl | assumption | (simp; done) | (simp [*]; done))) rfl rfl rfl, rfl, ?_⟩)
        (refine ⟨_, _, _, aPt (gN rfl) rfl rfl rfl rfl rfl ?hb rfl, rfl, ?_⟩; case hb => (first | rfl | assumption | (simp; done)))
        (refine nx (aA (gN rfl) rfl rfl rfl rfl rfl) rfl ?_)
        show AWp _ _ _ _ _ _ _
        refine aR ?_
        (refine nx (aM (gN rfl) rfl rfl rfl rfl rfl) rfl ?_)
        (refine nx (a_add (gN rfl) rfl rfl rfl rfl rfl rfl (by first | omega | (simp only [List.length_map, List.length_append, List.length_cons, List.length_nil] <;> omega) | (simp <;> omega))) rfl ?_)
        (refine nx (aA (gN rfl) rfl rfl rfl rfl rfl) rfl ?_)
        refine ⟨hkl, wk_sub ⟨rfl, rfl, rfl, rfl, rfl, ?_, rfl, trivial⟩⟩
        have : decide (n ∈ out.take (k + 1)) = true := by rw [decide_eq_true_eq, mem_take_succ hx]; exact .inl hm
        rw [this]
        rfl
      · have hg : decide (n ∈ out.take k) = false := by simpa using hm
        refine aS (aB (aR ?_))
        (refine nx (aM (gN rfl) rfl rfl rfl rfl rfl) rfl ?_)
        (refine nx (aM (gN rfl) rfl rfl rfl rfl rfl) rfl ?_)
        (refine nx (aM (gd_on rfl rfl rfl rfl (by first | rfl | assumption | (simp; done))) rfl rfl rfl rfl rfl) rfl ?_)
        (refine nx (aM (gd_on rfl rfl rfl rfl (by first | rfl | assumption | (simp; done))) rfl rfl rfl rfl rfl) rfl ?_)
        (refine nx (a_index (gd_on rfl rfl rfl rfl (by first | rfl | assumption | (simp; done))) rfl rfl rfl rfl rfl rfl rfl rfl rfl (by assumption) rfl (by first | assumption | exact sZ rfl | exact Tm.size_all _ | exact Bd.size_all _ | exact ints_size _ | exact bys_size _ | exact Lt.size_all _)) rfl ?_)
        (refine nx (a_load_ad (gd_on rfl rfl rfl rfl (by first | rfl | assumption | (simp; done))) rfl rfl rfl rfl rfl rfl rfl rfl rfl) rfl ?_)
        (refine nx (aM (gd_on rfl rfl rfl rfl (by first | rfl | assumption | (simp; done))) rfl rfl rfl rfl rfl) rfl ?_)
        (refine nx (a_eql (gd_on rfl rfl rfl rfl (by first | rfl | assumption | (simp; done))) rfl rfl rfl rfl rfl rfl) rfl ?_)
        (refine ⟨_, _, _, aPf (gN rfl) rfl rfl rfl rfl rfl ?hb rfl, rfl, ?_⟩; case hb => (first | rfl | assumption | (simp; done)))
        (refine nx (aA (gN rfl) rfl rfl rfl rfl rfl) rfl ?_)
        show AWp _ _ _ _ _ _ _
        refine aR ?_
        (refine nx (aM (gN rfl) rfl rfl rfl rfl rfl) rfl ?_)
        (refine nx (a_add (gN rfl) rfl rfl rfl rfl rfl rfl (by first | omega | (simp only [List.length_map, List.length_append, List.length_cons, List.length_nil] <;> omega) | (simp <;> omega))) rfl ?_)
        (refine nx (aA (gN rfl) rfl rfl rfl rfl rfl) rfl ?_)
        refine ⟨hkl, wk_sub ⟨rfl, rfl, rfl, rfl, rfl, ?_, rfl, trivial⟩⟩
        have : decide (n ∈ out.take (k + 1)) = decide (x = n) := by rw [decide_eq_decide, mem_take_succ hx]; simp [hm]
        rw [this]
        rfl
    · have hkl : k = out.length := by
        simp only [List.length_map, decide_eq_false_iff_not] at hc
        omega
      subst hkl
      rw [List.take_length]
      show AWp _ _ _ _ _ _ _
      refine aS (aR ?_)
      (refine nx (aM (gN rfl) rfl rfl rfl rfl rfl) rfl ?_)
      (refine nx (a_not (gN rfl) rfl rfl rfl rfl rfl) rfl ?_)
      show AWp _ _ _ _ _ _ _
      refine aC rfl (fun hc => ?_) (fun hc => aK ?_)
      · have hm : n ∉ out := by simpa using hc
        refine aR ?_
        (refine nx (aM (gN rfl) rfl rfl rfl rfl rfl) rfl ?_)
        (refine nx (aM (gN rfl) rfl rfl rfl rfl rfl) rfl ?_)
        (refine nx (a_bslice (gN rfl) rfl rfl rfl rfl rfl rfl rfl rfl rfl rfl rfl rfl rfl) rfl ?_)
        (refine nx (a_app (gN rfl) rfl rfl rfl rfl rfl rfl rfl rfl rfl rfl rfl rfl rfl rfl rfl (by first | assumption | exact sZ rfl | exact Tm.size_all _ | exact Bd.size_all _ | exact ints_size _ | exact bys_size _ | exact Lt.size_all _) (by first | assumption | exact sZ rfl | exact Tm.size_all _ | exact Bd.size_all _ | exact ints_size _ | exact bys_size _ | exact Lt.size_all _) (by first | omega | (simp only [List.length_map, List.length_append, List.length_cons, List.length_nil] <;> omega) | (simp <;> omega))) rfl ?_)
        (refine nx (aA (gN rfl) rfl rfl rfl rfl rfl) rfl ?_)
        show AWp _ _ _ _ _ _ _
        refine aR ?_
        (refine nx (aM (gN rfl) rfl rfl rfl rfl rfl) rfl ?_)
        (refine nx (a_add (gN rfl) rfl rfl rfl rfl rfl rfl (by first | omega | (simp only [List.length_map, List.length_append, List.length_cons, List.length_nil] <;> omega) | (simp <;> omega))) rfl ?_)
        (refine nx (aA (gN rfl) rfl rfl rfl rfl rfl) rfl ?_)
        refine ⟨hil, Wk.trans (wk_sub (s' := [(3, .val (.lst (l.map Tm.cv))), (4, .own (.lst ((varsF (l.take (i + 1))).map CV.i)) 300049), (300049, .tok 3 1), (5, .val (.i ((i + 1 : Nat) : Int)))]) ⟨rfl, ?_, rfl, rfl, trivial⟩) (wk_ren 300049 200049 rfl rfl rfl rfl)⟩
        have : varsF (l.take (i + 1)) = out ++ [n] := by
          rw [htk, varsF_snoc, ← ho]
          unfold varS
          rw [if_pos hsf, ← hn, if_neg hm]
        rw [this, List.map_append]
        rfl
      · have hm : n ∈ out := by simpa using hc
        show AWp _ _ _ _ _ _ _
        refine aR ?_
        (refine nx (aM (gN rfl) rfl rfl rfl rfl rfl) rfl ?_)
        (refine nx (a_add (gN rfl) rfl rfl rfl rfl rfl rfl (by first | omega | (simp only [List.length_map, List.length_append, List.length_cons, List.length_nil] <;> omega) | (simp <;> omega))) rfl ?_)
        (refine nx (aA (gN rfl) rfl rfl rfl rfl rfl) rfl ?_)
        refine ⟨hil, wk_sub ⟨rfl, ?_, rfl, rfl, trivial⟩⟩
        have : varsF (l.take (i + 1)) = out := by
          rw [htk, varsF_snoc, ← ho]
          unfold varS
          rw [if_pos hsf, ← hn, if_pos hm]
        rw [this]
        rfl
  · have hil : i = l.length := by
      simp only [List.length_map, decide_eq_false_iff_not] at hc
      omega
    subst hil
    rw [List.take_length]
    show AWp _ _ _ _ _ _ _
    refine aS (aR ?_)
    (refine nx (aM (gN rfl) rfl rfl rfl rfl rfl) rfl ?_)
    (refine nx (aA (gN rfl) rfl rfl rfl rfl rfl) rfl ?_)
    show AWp _ _ _ _ _ _ _
    exact aT (And.intro (.inr rfl) rfl)
set_option maxHeartbeats 1000000 in
-- 
theorem of_abs (W : World) : ∀ (t : Tm), t.ok → AFun Tryz.prog W 33 [t.cw] (.val t.cw) := by
  intro t
  induction t using Tm.ind with
  | h f l ih =>
  intro hok
  obtain ⟨hl, hok⟩ := (Tm.ok_iff _).1 hok
  simp only at hl hok
  refine afun_of (rs := [Tm.cw ⟨f, l⟩]) Tryz.func33 Tryz.ntmps33 rfl rfl rfl rfl ?_
  intro w U hW
  refine aS (aR ?_)
  (refine nx (a_box (gN rfl) rfl rfl rfl rfl rfl) rfl ?_)
  (refine nx (a_alloc (gN rfl) rfl rfl rfl rfl rfl rfl rfl rfl rfl rfl) rfl ?_)
  show AWp _ _ _ _ _ _ _
  refine aS (aR ?_)
  (refine nx (aF (gN rfl) rfl rfl rfl rfl rfl rfl rfl rfl rfl) rfl ?_)
  (refine nx (aLb (gN rfl) rfl rfl rfl rfl rfl rfl rfl rfl rfl rfl rfl rfl) rfl ?_)
  (refine nx (a_build (gN rfl) rfl rfl rfl rfl rfl rfl rfl rfl rfl rfl rfl) rfl ?_)
  (refine nx (a_alloc (gN rfl) rfl rfl rfl rfl rfl rfl rfl rfl rfl rfl) rfl ?_)
  (refine nx (aSt (gN rfl) rfl rfl rfl rfl rfl rfl rfl rfl rfl rfl) rfl ?_)
  show AWp _ _ _ _ _ _ _
  refine aS (aS (aR ?_))
  (refine nx (aA (gN rfl) rfl rfl rfl rfl rfl) rfl ?_)
  show AWp _ _ _ _ _ _ _
  refine aB (awp_count l.length (fun k => [(1, .bp 1 0 []), (100001, .bx (Tm.cw ⟨f, l⟩)), (2, .bp 2 0 []), (100002, ⟨5, .row [.i 0, .lst []], 1, 0, [1]⟩), (3, .bp 3 0 []), (100003, ⟨5, .row [.i f, .lst ((l.take k).map Tm.cv)], 200024, 0, [1]⟩), (200024, .tok 61 2), (4, .val (.i k))])
    ((wk_nil 100003 200024 61 2 rfl rfl rfl rfl rfl rfl rfl).trans (wk_sub ⟨rfl, rfl, rfl, rfl, rfl, rfl, rfl, rfl, trivial⟩)) ?_)
  intro k hk
  refine aS (aS (aR ?_))
  (refine nx (aM (gN rfl) rfl rfl rfl rfl rfl) rfl ?_)
  (refine nx (aF (gN rfl) rfl rfl rfl rfl rfl rfl rfl rfl rfl) rfl ?_)
  (refine nx (aLb (gN rfl) rfl rfl rfl rfl rfl rfl rfl rfl rfl rfl rfl rfl) rfl ?_)
  (refine nx (a_len (gN rfl) rfl rfl rfl rfl rfl rfl rfl) rfl ?_)
  (refine nx (a_lss (gN rfl) rfl rfl rfl rfl rfl rfl) rfl ?_)
  show AWp _ _ _ _ _ _ _
  refine aC rfl (fun hc => ?_) (fun hc => ?_)
  · simp only [List.length_map, decide_eq_true_eq] at hc
    have hkl : k < l.length := by omega
    obtain ⟨t, ht⟩ : ∃ t, l[k]? = some t := ⟨l[k], List.getElem?_eq_getElem hkl⟩
    refine aK ?_
    show AWp _ _ _ _ _ _ _
    refine aS (aB (aD (by kernel_rfl) (by kernel_rfl) ?_))
    (refine nx (aF (gN rfl) rfl rfl rfl rfl rfl rfl rfl rfl rfl) rfl ?_)
    (refine nx (a_load_tok (gN rfl) rfl rfl rfl rfl rfl rfl rfl rfl rfl rfl rfl rfl rfl) rfl ?_)
    (refine nx (aF (gN rfl) rfl rfl rfl rfl rfl rfl rfl rfl rfl) rfl ?_)
    (refine nx (aLb (gN rfl) rfl rfl rfl rfl rfl rfl rfl rfl rfl rfl rfl rfl) rfl ?_)
    (refine nx (aM (gN rfl) rfl rfl rfl rfl rfl) rfl ?_)
    (refine nx (a_index (j := _) (gN rfl) rfl rfl rfl rfl rfl rfl rfl rfl rfl (Tm.map_at ht) rfl (Tm.size_all l)) rfl ?_)
    (refine nx (a_load_ad (gN rfl) rfl rfl rfl rfl rfl rfl rfl rfl rfl) rfl ?_)
    (refine nx (a_call (gN rfl) rfl rfl rfl rfl rfl ((ih t (List.mem_of_getElem? ht) (hok t (List.mem_of_getElem? ht))).up hW)) rfl ?_)
    (refine nx (a_bslice (gN rfl) rfl rfl rfl rfl rfl rfl rfl rfl rfl rfl rfl rfl rfl) rfl ?_)
    (refine nx (a_app (gN rfl) rfl rfl rfl rfl rfl rfl rfl rfl rfl rfl rfl rfl rfl rfl rfl (by first | assumption | exact sZ rfl | exact Tm.size_all _ | exact Bd.size_all _ | exact ints_size _ | exact bys_size _ | exact Lt.size_all _) (by first | assumption | exact sZ rfl | exact Tm.size_all _ | exact Bd.size_all _ | exact ints_size _ | exact bys_size _ | exact Lt.size_all _) (by first | omega | (simp only [List.length_map, List.length_append, List.length_cons, List.length_nil] <;> omega) | (simp <;> omega))) rfl ?_)
    (refine nx (aF (gN rfl) rfl rfl rfl rfl rfl rfl rfl rfl rfl) rfl ?_)
    (refine nx (a_store (gN rfl) rfl rfl rfl rfl rfl rfl rfl rfl rfl rfl) rfl ?_)
    refine ⟨by kernel_rfl, ?_⟩
    show AWp _ _ _ _ _ _ _
    refine aR ?_
    (refine nx (aM (gN rfl) rfl rfl rfl rfl rfl) rfl ?_)
    (refine nx (a_add (gN rfl) rfl rfl rfl rfl rfl rfl (by first | omega | (simp only [List.length_map, List.length_append, List.length_cons, List.length_nil] <;> omega) | (simp <;> omega))) rfl ?_)
    (refine nx (aA (gN rfl) rfl rfl rfl rfl rfl) rfl ?_)
    refine ⟨hkl, Wk.trans (wk_sub (s' := [(1, .bp 1 0 []), (100001, .bx (Tm.cw ⟨f, l⟩)), (2, .bp 2 0 []), (100002, ⟨5, .row [.i 0, .lst []], 1, 0, [1]⟩), (3, .bp 3 0 []), (100003, ⟨5, .row [.i f, .lst ((l.take (k + 1)).map Tm.cv)], 300024, 0, [1]⟩), (300024, .tok 61 2), (4, .val (.i ((k + 1 : Nat) : Int)))]) ⟨rfl, rfl, rfl, rfl, rfl, ?_, rfl, rfl, trivial⟩) (wk_ren 300024 200024 rfl rfl rfl rfl)⟩
    rw [List.take_add_one, ht, List.map_append]
    simp only [Option.toList_some, List.map_cons, List.map_nil, Tm.cv_eq]
    rfl
  · refine aE ?_
    show AWp _ _ _ _ _ _ _
    have hkl : k = l.length := by
      simp only [List.length_map, decide_eq_false_iff_not] at hc
      omega
    subst hkl
    rw [List.take_length]
    refine aS (aR ?_)
    (refine nx (aL (gN rfl) rfl rfl rfl rfl rfl rfl rfl rfl rfl rfl rfl rfl) rfl ?_)
    (refine nx (aSt (gN rfl) rfl rfl rfl rfl rfl rfl rfl rfl rfl rfl) rfl ?_)
    show AWp _ _ _ _ _ _ _
    exact aT ⟨.inr rfl, rfl⟩
end Go.Proofs.YtmeegdomncadpaaGreat
