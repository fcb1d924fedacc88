/-
  Rows that may be written: their length, their elements, parts of them.
-/
import Derived.Test.YtmdhefepaolhcaaAbOff
namespace Go.Proofs.Ytmdhefepaolhcaa
open Go.RowKit
set_option linter.unusedVariables false
set_option linter.unusedSimpArgs false

theorem add_at (b off j : Nat) : (⟨b, off, none⟩ : Addr).add j = ⟨b, off + j, none⟩ := by unfold Addr.add; split <;> simp_all

section
variable {P : Program} {w0 : World} {U0 : UX} {nt : Nat} {ops : Array Oper} {o : Oper} {S : Nat → Option AV} {gs : List Nat} {d : Nat} {s : AS} {a : Act} {w : World} {D : Nat → Nat → Prop} {hv : Nat → Value}

theorem run_sizeOf {e : TypeId} {z : Nat} (hi : (P.info? e).map (·.size) = some z) : (sizeOf e).run P w = .ok z w := by
  cases hi' : P.info? e with
  | none => rw [hi'] at hi; simp at hi
  | some i => rw [hi'] at hi; simp at hi; simp [sizeOf, typeInfo, hi', hi]

/-- A row that may be written. -/
theorem SimG.mrow (h : SimG w0 U0 nt s a w D hv) {n e z : Nat} {l : List CV} (h1 : look s n = some (.mrow e z l)) (hn : RN n) : ∃ xs, w.ownsRow 0 e z (hv n) l.length xs ∧ 0 < z ∧ (∀ c ∈ l, c.size = z) ∧ Sq (l.map fun c => Rep (Us w0 U0 D) w c) xs := by
  have : OC (Us w0 U0 D) w hv (LiveN s) (.mrow e z l) (hv n) := h.obj n _ h1 (by unfold RN at hn; unfold oKey; omega)
  exact this
/-- One that has elements. -/
theorem own_some {e z : Nat} {v : Value} {k : Nat} {xs : List Value} (h : w.ownsRow 0 e z v k xs) (hk : 0 < k) : ∃ g cap cur, v = .slice (some ⟨g, 0, none⟩) k cap ∧ w.heap[g]? = some (.cells cur e (0, 0)) ∧ k ≤ cap ∧ cap ≤ maxLen ∧ cur.size = cap * z ∧ cur.toList.take (k * z) = xs ∧ blkOf v = g ∧ hb v = some g := by
  rcases h.2 with ⟨_, rfl⟩ | ⟨g, cap, cur, rfl, _, h3, h4, h5, h6, h7⟩
  · omega
  · exact ⟨g, cap, cur, rfl, h3, h4, h5, h6, h7, rfl, rfl⟩
theorem own_slice {e z : Nat} {v : Value} {k : Nat} {xs : List Value} (h : w.ownsRow 0 e z v k xs) : ∃ ao cap, v = .slice ao k cap ∧ k ≤ cap ∧ cap ≤ maxLen := by
  rcases h.2 with ⟨rfl, rfl⟩ | ⟨g, cap, cur, rfl, _, h3, h4, h5, h6, h7⟩
  · exact ⟨none, 0, rfl, Nat.le_refl _, by unfold maxLen; omega⟩
  · exact ⟨_, cap, rfl, h4, h5⟩

section
variable (hg : Gd w0 U0 nt ops o gs S) (hd : o.dst = some d) (hn : Nat.blt d nt = true) (h5 : Nat.blt d 100000 = true)
include hg hd hn h5

theorem a_lenM {x : Operand} {t e : TypeId} {ts : Array TypeId} {n lo len z : Nat} (ho : o.op = .call { callee := .builtin .len, args := #[x], argTypes := ts }) (ht : ts[0]? = some t) (hu : P.underlying t = some (.slice e)) (hx : ev S x = some (.sl n lo len z)) : AOp P w0 U0 nt ops o (gs ++ rd x) [] S [(d, .val (.i len))] :=
  aop_val hg hd hn h5 (fun k hk => List.mem_append_left _ hk) fun s hs a w D hv hm => by
    obtain ⟨_, ao, m, cap, ao', h1, h2, _⟩ : RN n ∧ SlV (hv n) lo len z (a.eval x) := ev_rep hm (fun k hk => hs k (List.mem_append_right _ hk)) hx
    refine ⟨.int .i64 len, ?_, avrep_sc rfl⟩
    generalize a.eval = ρ at h2 ⊢
    simp [execOp, ho, resolve, invoke, builtin, Builtin.len_, ht, h2, goInt, run_underlying hu, go_sem]

/-- The address of an element. -/
theorem a_indexM {x y : Operand} {ty e e' : TypeId} {l : List CV} {i : Int} {k n lo len z : Nat} {kd : IntKind} {n' q' p'} (ho : o.op = .indexAddr ty x y) (hu : P.underlying ty = some (.slice e)) (hi : (P.info? e).map (·.size) = some z) (hx : ev S x = some (.sl n lo len z)) (hy : ev S y = some ⟨0, .sc (.int kd i), n', q', p'⟩) (hm' : S n = some (.mrow e' z l)) (hk : i + (lo : Int) = (k : Int) ∧ lo ≤ k ∧ k < lo + len ∧ lo + len ≤ l.length) : AOp P w0 U0 nt ops o (gs ++ (rd x ++ (rd y ++ [n]))) [] S [(d, .el n (k * z) [k])] :=
  aop_val hg hd hn h5 (fun k hk => List.mem_append_left _ hk) fun s hs a w D hv hm => by
    obtain ⟨hij, hlo, hj, hl⟩ := hk
    obtain ⟨j, rfl⟩ : ∃ j, k = lo + j := ⟨k - lo, by omega⟩
    obtain ⟨hrn, ao, m, cap, ao', h1, h2, h3, h4, h6, _⟩ : RN n ∧ SlV (hv n) lo len z (a.eval x) := ev_rep hm (fun k hk => hs k (List.mem_append_right _ (List.mem_append_left _ hk))) hx
    have e2 := ev_sc hm (fun k hk => hs k (List.mem_append_right _ (List.mem_append_right _ (List.mem_append_left _ hk)))) hy
    obtain ⟨xs, g1, _⟩ := hm.mrow ((hs n (by simp)).trans hm') hrn
    obtain ⟨g, cap', cur, f1, f2, f3, f4, f6, f7, f8, f9⟩ := own_some g1 (by omega)
    rw [f1] at h1
    injection h1 with h1 h7 h8
    subst h1; subst h7; subst h8
    have ha : ao' = some ⟨g, lo * z, none⟩ := h6 (by omega) g rfl
    subst ha
    have hij : i = (j : Int) := by omega
    have hj : j < len := by omega
    subst hij
    have hsz := run_sizeOf (P := P) (w := w) hi
    refine ⟨.pointer (some ⟨g, (lo + j) * z, none⟩), ?_, ?_⟩
    · have hadd : (⟨g, lo * z, none⟩ : Addr).add (j * z) = ⟨g, (lo + j) * z, none⟩ := by rw [add_at, Nat.add_mul]
      generalize a.eval = ρ at h2 e2 ⊢
      simp [execOp, ho, Instr.indexAt, asIntOf, h2, e2, run_underlying hu, hj, hsz, hadd]
    · exact ⟨hrn, by show _ = Value.pointer (some ⟨blkOf (hv n), _, none⟩); rw [f8]⟩

/-- The address of a field of an element. -/
theorem a_fieldM {x : Operand} {ty : TypeId} {fs : Array Field} {i : Nat} {f : Field} {n q p z} (ho : o.op = .fieldAddr ty x i) (hu : P.underlying ty = some (.struct fs)) (hf : fs[i]? = some f) (hz : (P.info? f.type).map (·.size) = some z) (hz0 : Nat.beq z 0 = false) (hx : ev S x = some (.el n q p)) : AOp P w0 U0 nt ops o (gs ++ rd x) [] S [(d, .el n (q + f.offset) (p ++ [i]))] :=
  aop_val hg hd hn h5 (fun k hk => List.mem_append_left _ hk) fun s hs a w D hv hm => by
    obtain ⟨hrn, h1⟩ : RN n ∧ a.eval x = .pointer (some ⟨blkOf (hv n), q, none⟩) := ev_rep hm (fun k hk => hs k (List.mem_append_right _ hk)) hx
    have hsz := run_sizeOf (P := P) (w := w) hz
    have hz1 : z ≠ 0 := fun e => by rw [e] at hz0; cases hz0
    refine ⟨.pointer (some ⟨blkOf (hv n), q + f.offset, none⟩), ?_, hrn, rfl⟩
    have hadd := add_at (blkOf (hv n)) q f.offset
    generalize a.eval = ρ at h1 ⊢
    simp [execOp, ho, Instr.fieldAt, run_underlying hu, hf, Instr.sureAddr, h1, fieldPlace, hsz, hz1, hadd]

omit hg hd hn h5 in
/-- Where an element's part lies. -/
theorem elem_at {U : Nat → Nat → Prop} {e z k j m q : Nat} {v : Value} {l : List CV} {c c' : CV} {p : List Nat} {xs : List Value} (h : w.ownsRow 0 e z v l.length xs) (hsq : Sq (l.map fun c => Rep U w c) xs) (hz : ∀ c ∈ l, c.size = z) (hc : l[j]? = some c) (hat : c.at p = some (m, c')) (hq : q = j * z + m) :
    ∃ g cap cur ys zs us, v = .slice (some ⟨g, 0, none⟩) l.length cap ∧ blkOf v = g ∧ hb v = some g ∧ w.heap[g]? = some (.cells cur e (0, 0)) ∧ l.length ≤ cap ∧ cap ≤ maxLen ∧ cur.size = cap * z ∧ cur.toList.take (l.length * z) = xs ∧ cur.toList = ys ++ zs ++ us ∧ ys.length = q ∧ Rep U w c' zs := by
  have hjl : j < l.length := by
    rcases Nat.lt_or_ge j l.length with h | h
    · exact h
    · rw [List.getElem?_eq_none h] at hc; cases hc
  obtain ⟨g, cap, cur, f1, f2, f3, f4, f6, f7, f8, f9⟩ := own_some h (by omega)
  obtain ⟨y1, z1, u1, e1, e2, e3⟩ := sq_at hz hsq hc
  obtain ⟨y2, z2, u2, e4, e5, e6⟩ := at_spec hat e3
  refine ⟨g, cap, cur, y1 ++ y2, z2, u2 ++ (u1 ++ cur.toList.drop (l.length * z)), f1, f8, f9, f2, f3, f4, f6, f7, ?_, by rw [List.length_append, e2, e5, hq], e6⟩
  conv => lhs; rw [← List.take_append_drop (l.length * z) cur.toList, f7, e1, e4]
  simp

/-- An element, or a part of it, is read. -/
theorem a_loadM {x : Operand} {ty : TypeId} {ds : TypeDesc} {e z z' j m n q : Nat} {l : List CV} {c c' : CV} {p : List Nat} (ho : o.op = .load ty x) (hu : P.underlying ty = some ds) (hi : (P.info? ty).map (·.size) = some z') (hx : ev S x = some (.el n q (j :: p))) (hm' : S n = some (.mrow e z l)) (hc : l[j]? = some c) (hat : c.at p = some (m, c')) (hq : q = j * z + m) (hk : aggB ds = Nat.beq c'.k 2) (hz : c'.size = z') : AOp P w0 U0 nt ops o (gs ++ (rd x ++ [n])) [] S [(d, .val c')] :=
  aop_val hg hd hn h5 (fun k hk => List.mem_append_left _ hk) fun s hs a w D hv hm => by
    obtain ⟨hrn, h1⟩ : RN n ∧ a.eval x = .pointer (some ⟨blkOf (hv n), q, none⟩) := ev_rep hm (fun k hk => hs k (List.mem_append_right _ (List.mem_append_left _ hk))) hx
    obtain ⟨xs, g1, g2, g3, g4⟩ := hm.mrow ((hs n (by simp)).trans hm') hrn
    obtain ⟨g, cap, cur, ys, zs, us, f1, f2, f3, f4, f6, f7, f8, f9, f10, f11, f12⟩ := elem_at (k := 0) g1 g4 g3 hc hat hq
    rw [f2] at h1
    obtain ⟨v, h6, h7, h8⟩ := run_loadTree hu hi hk hz f12 (b := g) (off := q) (fun i hi => by rw [← f11]; exact box_cells_at (xs := cur.toList) (by rw [Array.toArray_toList]; exact f4) f10 i hi)
    refine ⟨v, ?_, avrep_val h7⟩
    generalize a.eval = ρ at h1 ⊢
    simp [execOp, ho, Instr.loadAt, Instr.sureAddr, h1, h6]

omit hg hd hn h5 in
theorem run_bound' {k : IntKind} {i : Int} {j y : Nat} {code : BoundsCode} (hi : i = (j : Int)) (h : j ≤ y) : (Instr.sliceBound (.int k i) y code).run P w = .ok j w := by rw [hi]; exact run_bound h

/-- x[j:] -/
theorem a_fromM {x y : Operand} {t e : TypeId} {z : Nat} {k : IntKind} {i : Int} {j n lo len : Nat} {n' q' p'} (ho : o.op = .slice t x (some y) none none) (hu : P.underlying t = some (.slice e)) (hi : (P.info? e).map (·.size) = some z) (hx : ev S x = some (.sl n lo len z)) (hy : ev S y = some ⟨0, .sc (.int k i), n', q', p'⟩) (hij : i = (j : Int)) (hj : j ≤ len) : AOp P w0 U0 nt ops o (gs ++ (rd x ++ rd y)) [] S [(d, .sl n (lo + j) (len - j) z)] :=
  aop_val hg hd hn h5 (fun k hk => List.mem_append_left _ hk) fun s hs a w D hv hm => by
    obtain ⟨hrn, ao, m, cap, ao', h1, h2, h3, h4, h6, h7⟩ : RN n ∧ SlV (hv n) lo len z (a.eval x) := ev_rep hm (fun k hk => hs k (List.mem_append_right _ (List.mem_append_left _ hk))) hx
    have e2 := ev_sc hm (fun k hk => hs k (List.mem_append_right _ (List.mem_append_right _ hk))) hy
    have hsz := run_sizeOf (P := P) (w := w) hi
    refine ⟨.slice (if cap - lo = j then ao' else ao'.map (·.add (j * z))) (len - j) (cap - lo - j), ?_, hrn, ao, m, cap, _, h1, by rw [Nat.sub_sub]; rfl, by show lo + j + (len - j) ≤ cap; omega, fun h8 => ?_, fun h8 => ?_, ?_⟩
    · have hb := run_bound (P := P) (w := w) (k := k) (j := j) (y := len) (code := .sliceB) hj
      subst hij
      generalize a.eval = ρ at h2 e2 ⊢
      simp [execOp, ho, Instr.sliceAt, Instr.slice, run_underlying hu, h2, e2, Instr.sliceBounds, hb, hsz]
    · have h8 : lo + j = 0 := h8
      have hj0 : j = 0 := by omega
      subst hj0
      rw [h4 (by omega)]
      split
      · rfl
      · cases ao with
        | none => rfl
        | some ad => simp [Addr.add]
    · have h8 : lo + j < cap := h8
      intro g hg'
      rw [if_neg (by omega), h6 (by omega) g hg']
      show some ((⟨g, lo * z, none⟩ : Addr).add (j * z)) = some ⟨g, (lo + j) * z, none⟩
      rw [add_at, Nat.add_mul]
    · split
      · exact h7
      · rw [Option.map_eq_none_iff]; exact h7
/-- x[:j] -/
theorem a_uptoM {x y : Operand} {t e : TypeId} {z : Nat} {k : IntKind} {i : Int} {j n lo len : Nat} {n' q' p'} (ho : o.op = .slice t x none (some y) none) (hu : P.underlying t = some (.slice e)) (hi : (P.info? e).map (·.size) = some z) (hx : ev S x = some (.sl n lo len z)) (hy : ev S y = some ⟨0, .sc (.int k i), n', q', p'⟩) (hij : i = (j : Int)) (hj : j ≤ len) : AOp P w0 U0 nt ops o (gs ++ (rd x ++ rd y)) [] S [(d, .sl n lo j z)] :=
  aop_val hg hd hn h5 (fun k hk => List.mem_append_left _ hk) fun s hs a w D hv hm => by
    obtain ⟨hrn, ao, m, cap, ao', h1, h2, h3, h4, h6, h7⟩ : RN n ∧ SlV (hv n) lo len z (a.eval x) := ev_rep hm (fun k hk => hs k (List.mem_append_right _ (List.mem_append_left _ hk))) hx
    have e2 := ev_sc hm (fun k hk => hs k (List.mem_append_right _ (List.mem_append_right _ hk))) hy
    have hsz := run_sizeOf (P := P) (w := w) hi
    have hid : (if cap - lo = 0 then ao' else ao'.map (·.add (0 * z))) = ao' := by
      split
      · rfl
      · cases ao' with
        | none => rfl
        | some ad => simp [Addr.add]
    refine ⟨.slice ao' j (cap - lo), ?_, hrn, ao, m, cap, ao', h1, rfl, by show lo + j ≤ cap; omega, h4, h6, h7⟩
    have hb := run_bound (P := P) (w := w) (k := k) (j := j) (y := cap - lo) (code := .sliceAcap) (by omega)
    subst hij
    generalize a.eval = ρ at h2 e2 ⊢
    simp [execOp, ho, Instr.sliceAt, Instr.slice, run_underlying hu, h2, e2, Instr.sliceBounds, hb, hsz, hid] <;> simpa using hid
end

theorem mem_set_of {α : Type} {l : List α} {j : Nat} {c x : α} (h : x ∈ l.set j c) : x ∈ l ∨ x = c := by
  rcases List.mem_or_eq_of_mem_set h with h | h
  · exact .inl h
  · exact .inr h
/-- An element, or a part of it, is written. -/
theorem a_storeM (hg : Gd w0 U0 nt ops o gs S) (hd : o.dst = none) {x y : Operand} {ty : TypeId} {e z z' j m n q : Nat} {l : List CV} {c c' c2 v : CV} {p : List Nat} {m1 q1 p1} (ho : o.op = .store ty x y) (hi : (P.info? ty).map (·.size) = some z') (hx : ev S x = some (.el n q (j :: p))) (hm' : S n = some (.mrow e z l)) (hy : ev S y = some ⟨0, v, m1, q1, p1⟩) (hc : l[j]? = some c) (hat : c.at p = some (m, c')) (hup : c.upO p v = some c2) (hq : q = j * z + m) (hz : v.size = z') :
    AOp P w0 U0 nt ops o (gs ++ (rd x ++ (rd y ++ [n]))) [] S [(n, .mrow e z (l.set j c2))] := by
  intro s hs hN a w ⟨D, hv, h⟩ Q K hK
  rw [if_pos (hg s (fun k hk => hs k (List.mem_append_left _ hk)) a w D hv h)]
  have hm := (hs n (by simp)).trans hm'
  obtain ⟨hrn, h1⟩ : RN n ∧ a.eval x = .pointer (some ⟨blkOf (hv n), q, none⟩) := ev_rep h (fun k hk => hs k (List.mem_append_right _ (List.mem_append_left _ hk))) hx
  have h2 := ev_val h (fun k hk => hs k (List.mem_append_right _ (List.mem_append_right _ (List.mem_append_left _ hk)))) hy
  obtain ⟨xs, g1, g2, g3, g4⟩ := h.mrow hm hrn
  have hjl : j < l.length := by
    rcases Nat.lt_or_ge j l.length with h | h
    · exact h
    · rw [List.getElem?_eq_none h] at hc; cases hc
  obtain ⟨g, cap, cur, f1, f2, f3, f4, f6, f7, f8, f9⟩ := own_some g1 (by omega)
  rw [f8] at h1
  have hl : l = l.take j ++ c :: l.drop (j + 1) := by
    rw [List.getElem?_eq_getElem hjl] at hc
    rw [← Option.some.inj hc, List.getElem_cons_drop, List.take_append_drop]
  have g4' := g4
  rw [hl, List.map_append] at g4'
  obtain ⟨y1, r1, e1, s1, z1, u1, e2, s2, s3⟩ := sq_split g4'
  obtain ⟨u1', u2⟩ := upO_spec (U := Us w0 U0 D) (w := w) (xs := z1) hat hup
  obtain ⟨y2, z2, u3, e3, e4, e5, e6⟩ := u2 s2
  have hy1 : y1.length = j * z := by rw [sq_len (n := CV.size) (fun c _ xs h => h.len) s1, sum_const (fun c hc => g3 c (List.mem_of_mem_take hc)), List.length_take, Nat.min_eq_left (by omega)]
  have hvl := h2.cells.len
  have hcur : cur.toList = (y1 ++ y2) ++ z2 ++ (u3 ++ u1 ++ cur.toList.drop (l.length * z)) := by
    conv => lhs; rw [← List.take_append_drop (l.length * z) cur.toList, f7, e1, e2, e3]
    simp
  have hrun := run_storeTree (P := P) (ys := y1 ++ y2) (zs := z2) (us := u3 ++ u1 ++ cur.toList.drop (l.length * z)) (q := q) (z := z') hi (by rw [← hcur, Array.toArray_toList]; exact f2) (by rw [List.length_append, hy1, e4, hq]) (v := a.eval y) rfl (by rw [hvl, e5]) (by rw [hvl, hz]) h2.cells.one
  have he : (execOp a.eval o).run P w = .ok .skip (w.setRow g (y1 ++ y2 ++ (a.eval y).cells.toList ++ (u3 ++ u1 ++ cur.toList.drop (l.length * z))).toArray) := by
    generalize a.eval = ρ at h1 hrun ⊢
    simp [execOp, ho, Instr.storeAt, Instr.sureAddr, h1, hrun]
  unfold Oper.wp
  rw [he, Oper.upon_skip, hd]
  have hok : oKey n := by unfold RN at hrn; unfold oKey; omega
  refine hK _ _ ⟨_, _, h.store (av := .mrow e z (l.set j c2)) hok hm (by simp) (by simp) rfl (fun g' hn o _ => hn o (by simp)) (by simp) f9 f2 fun w' hw hkp => ?_⟩
  have hnew := (e6 _ h2.cells).keep hkp
  have hsz2 : c2.size = z := by
    have a1 := hnew.len
    have a2 := s2.len
    rw [e3, g3 c (List.mem_of_getElem? hc)] at a2
    simp only [List.length_append] at a1 a2
    omega
  refine ⟨y1 ++ (y2 ++ (a.eval y).cells.toList ++ u3) ++ u1, ⟨?_, .inr ⟨g, cap, _, ?_, Nat.zero_le _, hw, ?_, f4, ?_, ?_⟩⟩, g2, fun x hx => ?_, ?_⟩
  · have a1 := g1.1
    rw [e1, e2, e3] at a1
    simp only [List.length_append] at a1 ⊢
    show _ = (l.set j c2).length * z
    rw [List.length_set]
    omega
  · show hv n = .slice _ (l.set j c2).length cap
    rw [List.length_set]; exact f1
  · show (l.set j c2).length ≤ cap
    rw [List.length_set]; exact f3
  · have := congrArg List.length hcur
    rw [Array.length_toList, f6] at this
    simp only [List.size_toArray, List.length_append] at this ⊢
    show _ = cap * z
    omega
  · show List.take ((l.set j c2).length * z) _ = _
    rw [List.length_set]
    have a1 := g1.1
    rw [e1, e2, e3] at a1
    simp only [List.length_append] at a1
    have e7 : y1 ++ y2 ++ (a.eval y).cells.toList ++ (u3 ++ u1 ++ cur.toList.drop (l.length * z)) = (y1 ++ (y2 ++ (a.eval y).cells.toList ++ u3) ++ u1) ++ cur.toList.drop (l.length * z) := by simp
    rw [e7, List.take_append_of_le_length (by simp only [List.length_append]; omega), List.take_of_length_le (by simp only [List.length_append]; omega)]
  · rcases mem_set_of hx with hx | rfl
    · exact g3 x hx
    · exact hsz2
  · show Sq ((l.set j c2).map fun c => Rep (Us w0 U0 D) w' c) _
    have hs' : l.set j c2 = l.take j ++ c2 :: l.drop (j + 1) := by
      conv => lhs; rw [hl]
      rw [List.set_append_right _ _ (by simp; omega)]
      simp [Nat.min_eq_left (Nat.le_of_lt hjl)]
    rw [hs', List.map_append, List.append_assoc]
    exact sq_append (Sq.keep hkp s1) ⟨_, u1, rfl, hnew, Sq.keep hkp s3⟩
end
end Go.Proofs.Ytmdhefepaolhcaa
