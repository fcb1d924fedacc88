/-
  Function values, pointers to what stays, max and min, parts of slices.
-/
import Derived.Test.YtmdhefepaolhcaaAbTok
namespace Go.Proofs.Ytmdhefepaolhcaa
open Go.RowKit
set_option linter.unusedVariables false
set_option linter.unusedSimpArgs false

section
variable {P : Program} {w0 : World} {U0 : UX} {nt : Nat} {ops : Array Oper} {o : Oper} {S : Nat → Option AV} {gs : List Nat} {d : Nat} {s : AS} {a : Act} {w : World} {D : Nat → Nat → Prop} {hv : Nat → Value}

theorem vrep_ptr {U : Nat → Nat → Prop} {c : CV} {u : Value} : VRep U w (.ptr c) u ↔ ∃ b off ys, u = .pointer (some ⟨b, off, none⟩) ∧ Rep U w c ys ∧ ∀ i, i < ys.length → U b (off + i) ∧ w.cell? ⟨b, off + i, none⟩ = ys[i]? := by
  rw [show VRep U w (.ptr c) u = Rep U w (.ptr c) [u] from rfl, rep_ptr]; simp
theorem vrep_fn {U : Nat → Nat → Prop} {f n : Nat} {l : List CV} {u : Value} : VRep U w (.fn f n l) u ↔ ∃ (ys zs : List Value), u = .func (.func f) ys.toArray zs.toArray ∧ ys.length = n ∧ Sq (l.map fun c => Rep U w c) (ys ++ zs) ∧ ∀ c ∈ l, c.k ≠ 2 := by
  rw [show VRep U w (.fn f n l) u = if 10 + n = 2 then ∃ xs : List Value, u = .agg xs.toArray ∧ Rep U w (.fn f n l) xs else Rep U w (.fn f n l) [u] from rfl, if_neg (by omega), rep_fn]; simp

/-- Values of one cell each. -/
theorem sq_vreps {U : Nat → Nat → Prop} : ∀ {l : List CV} {xs : List Value}, (∀ c ∈ l, c.k ≠ 2) → Sq (l.map fun c => Rep U w c) xs → VReps U w l xs
  | [], xs, _, h => h
  | c :: cs, xs, hk, ⟨ys, zs, e, h1, h2⟩ => by
    have hc := hk c (by simp)
    have hlen := h1.len
    have h1c : c.size = 1 := by cases c with | mk k v l => rw [CV.size_mk, if_neg hc]
    rw [h1c] at hlen
    match ys, hlen with
    | [u], _ => exact ⟨u, zs, e, by unfold VRep; rw [if_neg hc]; exact h1, sq_vreps (fun x hx => hk x (List.mem_cons_of_mem _ hx)) h2⟩
theorem vreps_sq {U : Nat → Nat → Prop} : ∀ {l : List CV} {xs : List Value}, (∀ c ∈ l, c.k ≠ 2) → VReps U w l xs → Sq (l.map fun c => Rep U w c) xs
  | [], xs, _, h => h
  | c :: cs, xs, hk, ⟨u, us, e, h1, h2⟩ => by
    refine ⟨[u], us, e, ?_, vreps_sq (fun x hx => hk x (List.mem_cons_of_mem _ hx)) h2⟩
    unfold VRep at h1
    rw [if_neg (hk c (by simp))] at h1
    exact h1
theorem VReps.append {U : Nat → Nat → Prop} : ∀ {l m : List CV} {xs ys : List Value}, VReps U w l xs → VReps U w m ys → VReps U w (l ++ m) (xs ++ ys)
  | [], m, xs, ys, h, h2 => by have h : xs = [] := h; rw [h]; exact h2
  | c :: cs, m, xs, ys, ⟨u, us, e, h1, h3⟩, h2 => ⟨u, us ++ ys, by rw [e]; rfl, h1, VReps.append h3 h2⟩
theorem VReps.split {U : Nat → Nat → Prop} : ∀ {l : List CV} {xs ys : List Value}, VReps U w l (xs ++ ys) → VReps U w (l.take xs.length) xs ∧ VReps U w (l.drop xs.length) ys
  | l, [], ys, h => ⟨rfl, h⟩
  | [], x :: xs, ys, h => by have h : x :: xs ++ ys = [] := h; simp at h
  | c :: cs, x :: xs, ys, ⟨u, us, e, h1, h3⟩ => by
    injection e with e1 e2
    subst e1; subst e2
    obtain ⟨h4, h5⟩ := VReps.split h3
    exact ⟨⟨x, xs, rfl, h1, h4⟩, h5⟩

/-- Not rows. -/
def noRows : List CV → Bool
  | [] => true
  | c :: cs => match Nat.beq c.k 2 with | true => false | false => noRows cs
theorem noRows_spec : ∀ {l : List CV}, noRows l = true → ∀ c ∈ l, c.k ≠ 2
  | [], _, c, hc => by simp at hc
  | x :: l, h, c, hc => by
    unfold noRows at h
    split at h
    · cases h
    · rename_i hb
      rcases List.mem_cons.1 hc with rfl | hc
      · exact fun e => by rw [e] at hb; cases hb
      · exact noRows_spec h c hc

/-- A function value's contract. -/
def AFunV (P : Program) (W : World) (fc : CV) (args : List CV) (r : AV) : Prop := ∃ f n l, fc = .fn f n l ∧ AFun P W f (l.take n ++ (args ++ l.drop n)) r
theorem AFunV.up {W w : World} {fc : CV} {args : List CV} {r : AV} {U : UX} (h : AFunV P W fc args r) (hW : Hw W w U) : AFunV P w fc args r := by
  obtain ⟨f, n, l, h1, h2⟩ := h
  exact ⟨f, n, l, h1, h2.up hW⟩

theorem a_callv {x : Operand} {xs : Array Operand} {ts : Array TypeId} {fc : CV} {cs : List CV} {r : AV} {n q p} (hg : Gd w0 U0 nt ops o gs S) (hd : o.dst = some d) (hn : Nat.blt d nt = true) (h5 : Nat.blt d 100000 = true)
    (ho : o.op = .call { callee := .value x, args := xs, argTypes := ts }) (hf : ev S x = some ⟨0, fc, n, q, p⟩) (hx : evsO S xs.toList = some cs) (hc : AFunV P w0 fc cs r) : AOp P w0 U0 nt ops o (gs ++ (rd x ++ rdl xs.toList)) [] S [(d, r)] := by
  intro s hs _ a w ⟨D, hv, h⟩ Q K hK
  rw [if_pos (hg s (fun k hk => hs k (List.mem_append_left _ hk)) a w D hv h)]
  have hargs := evsO_rep h (fun k hk => hs k (List.mem_append_right _ (List.mem_append_right _ hk))) hx
  have hfv := ev_val h (fun k hk => hs k (List.mem_append_right _ (List.mem_append_left _ hk))) hf
  obtain ⟨f, m, l, rfl, h1, h2, h3, h4⟩ := hc
  obtain ⟨ys, zs, e1, e2, e3, e4⟩ := vrep_fn.1 hfv
  obtain ⟨s1, s2⟩ := VReps.split (sq_vreps e4 e3)
  rw [e2] at s1 s2
  have hcall := h4 _ w _ trivial (s1.append (hargs.append s2))
  have he : (execOp a.eval o).run P w = .ok (.enter f (ys ++ (xs.toList.map a.eval ++ zs)).toArray) w := by
    have hen := h1 (ys.toArray ++ (xs.map a.eval ++ zs.toArray)) w
    have harr : (ys ++ (xs.toList.map a.eval ++ zs)).toArray = ys.toArray ++ (xs.map a.eval ++ zs.toArray) := by apply Array.ext'; simp
    rw [harr]
    generalize a.eval = ρ at e1 hen ⊢
    simp [execOp, ho, resolve, invoke, Deferred.ofValue, e1, hen]
  unfold Oper.wp
  rw [he, Oper.upon_enter]
  refine hcall.mono ?_
  rintro e w' ⟨v, rfl, h6, h7⟩
  rw [hd]
  refine hK _ _ ⟨Dn D w w', hv, (h.growN h7).put (blt_lt hn) (blt_lt h5) (avrep_rr h2 h3 (us_of_rr rfl h7.size h.below.size h6))⟩

section
variable (hg : Gd w0 U0 nt ops o gs S) (hd : o.dst = some d) (hn : Nat.blt d nt = true) (h5 : Nat.blt d 100000 = true)
include hg hd hn h5

theorem a_mkfunc {f : Nat} {xs ys : Array Operand} {cs : List CV} (ho : o.op = .makeFunc (.func f) xs ys) (hx : evsO S (xs.toList ++ ys.toList) = some cs) (hk : noRows cs = true) : AOp P w0 U0 nt ops o (gs ++ rdl (xs.toList ++ ys.toList)) [] S [(d, .val (.fn f xs.size cs))] :=
  aop_val hg hd hn h5 (fun k hk => List.mem_append_left _ hk) fun s hs a w D hv hm => by
    have hargs := evsO_rep hm (fun k hk => hs k (List.mem_append_right _ hk)) hx
    rw [List.map_append] at hargs
    refine ⟨.func (.func f) (xs.toList.map a.eval).toArray (ys.toList.map a.eval).toArray, ?_, avrep_val (vrep_fn.2 ⟨_, _, rfl, by simp, vreps_sq (noRows_spec hk) hargs, noRows_spec hk⟩)⟩
    have e1 : (xs.toList.map a.eval).toArray = xs.map a.eval := by apply Array.ext'; simp
    have e2 : (ys.toList.map a.eval).toArray = ys.map a.eval := by apply Array.ext'; simp
    rw [e1, e2]
    generalize a.eval = ρ
    simp [execOp, ho, Instr.makeFunc]

theorem a_load_ptr {x : Operand} {ty : TypeId} {ds : TypeDesc} {z : Nat} {c : CV} {n q p} (ho : o.op = .load ty x) (hu : P.underlying ty = some ds) (hi : (P.info? ty).map (·.size) = some z) (hx : ev S x = some ⟨0, .ptr c, n, q, p⟩) (hk : aggB ds = Nat.beq c.k 2) (hz : c.size = z) : AOp P w0 U0 nt ops o (gs ++ rd x) [] S [(d, .val c)] :=
  aop_val hg hd hn h5 (fun k hk => List.mem_append_left _ hk) fun s hs a w D hv hm => by
    have h0 := ev_val hm (fun k hk => hs k (List.mem_append_right _ hk)) hx
    obtain ⟨b, off, xs, h1, h2, h3⟩ : ∃ b off xs, a.eval x = .pointer (some ⟨b, off, none⟩) ∧ Rep (Us w0 U0 D) w c xs ∧ ∀ i, i < xs.length → Us w0 U0 D b (off + i) ∧ w.cell? ⟨b, off + i, none⟩ = xs[i]? := vrep_ptr.1 h0
    obtain ⟨v, h4, h6, _⟩ := run_loadTree hu hi hk hz h2 (fun i hi => (h3 i hi).2)
    refine ⟨v, ?_, avrep_val h6⟩
    generalize a.eval = ρ at h1 ⊢
    simp [execOp, ho, Instr.loadAt, Instr.sureAddr, h1, h4]
theorem a_max {x y : Operand} {ts : Array TypeId} {k : IntKind} {i j : Int} {n q p n' q' p'} (ho : o.op = .call { callee := .builtin .max, args := #[x, y], argTypes := ts }) (hx : ev S x = some ⟨0, .sc (.int k i), n, q, p⟩) (hy : ev S y = some ⟨0, .sc (.int k j), n', q', p'⟩) : AOp P w0 U0 nt ops o (gs ++ (rd x ++ rd y)) [] S [(d, .val (.sc (.int k (max i j))))] :=
  aop_val hg hd hn h5 (fun k hk => List.mem_append_left _ hk) fun s hs a w D hv hm => by
    have e1 := ev_sc hm (fun k hk => hs k (List.mem_append_right _ (List.mem_append_left _ hk))) hx
    have e2 := ev_sc hm (fun k hk => hs k (List.mem_append_right _ (List.mem_append_right _ hk))) hy
    refine ⟨.int k (max i j), ?_, avrep_sc rfl⟩
    have e3 : (if j > i then j else i) = max i j := by split <;> omega
    generalize a.eval = ρ at e1 e2 ⊢
    simp [execOp, ho, resolve, invoke, builtin, Builtin.max_, Builtin.max2, e1, e2]
    exact e3
theorem a_min {x y : Operand} {ts : Array TypeId} {k : IntKind} {i j : Int} {n q p n' q' p'} (ho : o.op = .call { callee := .builtin .min, args := #[x, y], argTypes := ts }) (hx : ev S x = some ⟨0, .sc (.int k i), n, q, p⟩) (hy : ev S y = some ⟨0, .sc (.int k j), n', q', p'⟩) : AOp P w0 U0 nt ops o (gs ++ (rd x ++ rd y)) [] S [(d, .val (.sc (.int k (min i j))))] :=
  aop_val hg hd hn h5 (fun k hk => List.mem_append_left _ hk) fun s hs a w D hv hm => by
    have e1 := ev_sc hm (fun k hk => hs k (List.mem_append_right _ (List.mem_append_left _ hk))) hx
    have e2 := ev_sc hm (fun k hk => hs k (List.mem_append_right _ (List.mem_append_right _ hk))) hy
    refine ⟨.int k (min i j), ?_, avrep_sc rfl⟩
    have e3 : (if j < i then j else i) = min i j := by split <;> omega
    generalize a.eval = ρ at e1 e2 ⊢
    simp [execOp, ho, resolve, invoke, builtin, Builtin.min_, Builtin.min2, e1, e2]
    exact e3

omit hg hd hn h5 in
/-- A part of a slice. -/
theorem lst_cut {U : Nat → Nat → Prop} {l : List CV} {ao : Option Addr} {m cap z lo hi : Nat} (hz : ∀ c ∈ l, c.size = z) (h : VRep U w (.lst l) (.slice ao m cap)) (h1 : lo ≤ hi) (h2 : hi ≤ l.length) : VRep U w (.lst ((l.drop lo).take (hi - lo))) (.slice (if cap = lo then ao else ao.map (·.add (lo * z))) (hi - lo) (cap - lo)) := by
  obtain ⟨ao', m', cap', e, e2, e3, e4, e5, ys, e6, e7⟩ := vrep_lst.1 h
  injection e with e8 e9 e10
  subst e8; subst e9; subst e10
  have hsplit : l = l.take lo ++ ((l.drop lo).take (hi - lo) ++ (l.drop lo).drop (hi - lo)) := by rw [List.take_append_drop, List.take_append_drop]
  have e7' := e7
  rw [hsplit, List.map_append, List.map_append] at e7'
  obtain ⟨y1, y2, f1, f2, f3⟩ := sq_split e7'
  obtain ⟨z1, z2, f4, f5, f6⟩ := sq_split f3
  have hy1 : y1.length = lo * z := by rw [sq_len (n := CV.size) (fun c _ xs h => h.len) f2, sum_const (fun c hc => hz c (List.mem_of_mem_take hc)), List.length_take, Nat.min_eq_left (by omega)]
  refine vrep_lst.2 ⟨_, hi - lo, cap - lo, rfl, by simp; omega, by omega, by omega, ?_, z1, ?_, f5⟩
  · intro hn
    split at hn
    · have := e5 hn; omega
    · cases ao with
      | none => have := e5 rfl; omega
      | some a => cases hn
  · rcases e6 with e6 | ⟨b, off, rfl, hc⟩
    · left
      have := congrArg List.length f1
      rw [e6, f4] at this
      simp at this
      exact List.eq_nil_of_length_eq_zero (by omega)
    · by_cases hz1 : z1 = []
      · exact .inl hz1
      · right
        have hne : cap ≠ lo := fun e => by
          have : (l.drop lo).take (hi - lo) = [] := by
            rw [show hi - lo = 0 by omega]; rfl
          rw [this] at f5
          exact hz1 f5
        refine ⟨b, off + lo * z, ?_, fun i hi' => ?_⟩
        · rw [if_neg hne]
          simp [Addr.add]
        · have := hc (y1.length + i) (by rw [f1, f4]; simp; omega)
          rw [f1, f4, List.getElem?_append_right (by omega), show y1.length + i - y1.length = i by omega, List.getElem?_append_left hi'] at this
          rw [Nat.add_assoc, ← hy1]
          exact this

omit hg hd hn h5 in
theorem run_bound {k : IntKind} {j y : Nat} {code : BoundsCode} (h : j ≤ y) : (Instr.sliceBound (.int k (j : Int)) y code).run P w = .ok j w := by
  have : (0 : Int) ≤ (j : Int) ∧ (j : Int) ≤ (y : Int) := ⟨by omega, by omega⟩
  simp [Instr.sliceBound, asIntOf, h]

/-- x[lo:] -/
theorem a_from {x y : Operand} {t e : TypeId} {z : Nat} {l : List CV} {k : IntKind} {i : Int} {lo : Nat} {n q p n' q' p'} (ho : o.op = .slice t x (some y) none none) (hu : P.underlying t = some (.slice e)) (hi : (P.info? e).map (·.size) = some z) (hx : ev S x = some ⟨0, .lst l, n, q, p⟩) (hy : ev S y = some ⟨0, .sc (.int k i), n', q', p'⟩) (hij : i = (lo : Int)) (hlo : lo ≤ l.length) (hz : ∀ c ∈ l, c.size = z) : AOp P w0 U0 nt ops o (gs ++ (rd x ++ rd y)) [] S [(d, .val (.lst (l.drop lo)))] :=
  aop_val hg hd hn h5 (fun k hk => List.mem_append_left _ hk) fun s hs a w D hv hm => by
    have hv := ev_val hm (fun k hk => hs k (List.mem_append_right _ (List.mem_append_left _ hk))) hx
    have e2 := ev_sc hm (fun k hk => hs k (List.mem_append_right _ (List.mem_append_right _ hk))) hy
    obtain ⟨ao, m, cap, h1, h2, h3, _⟩ := vrep_lst.1 hv
    rw [h1] at hv
    have hcut := lst_cut hz hv (lo := lo) (hi := l.length) hlo (Nat.le_refl _)
    rw [List.take_of_length_le (by simp)] at hcut
    have hsz : (sizeOf e).run P w = .ok z w := by
      cases hi' : P.info? e with
      | none => rw [hi'] at hi; simp at hi
      | some i => rw [hi'] at hi; simp at hi; simp [sizeOf, typeInfo, hi', hi]
    subst hij
    refine ⟨_, ?_, avrep_val hcut⟩
    have hb := run_bound (P := P) (w := w) (k := k) (j := lo) (y := l.length) (code := .sliceB) hlo
    subst h2
    generalize a.eval = ρ at h1 e2 ⊢
    simp [execOp, ho, Instr.sliceAt, Instr.slice, run_underlying hu, h1, e2, Instr.sliceBounds, hb, hsz]
/-- x[:hi] -/
theorem a_upto {x y : Operand} {t e : TypeId} {z : Nat} {l : List CV} {k : IntKind} {i : Int} {hi' : Nat} {n q p n' q' p'} (ho : o.op = .slice t x none (some y) none) (hu : P.underlying t = some (.slice e)) (hi : (P.info? e).map (·.size) = some z) (hx : ev S x = some ⟨0, .lst l, n, q, p⟩) (hy : ev S y = some ⟨0, .sc (.int k i), n', q', p'⟩) (hij : i = (hi' : Int)) (hhi : hi' ≤ l.length) (hz : ∀ c ∈ l, c.size = z) : AOp P w0 U0 nt ops o (gs ++ (rd x ++ rd y)) [] S [(d, .val (.lst (l.take hi')))] :=
  aop_val hg hd hn h5 (fun k hk => List.mem_append_left _ hk) fun s hs a w D hv hm => by
    have hv := ev_val hm (fun k hk => hs k (List.mem_append_right _ (List.mem_append_left _ hk))) hx
    have e2 := ev_sc hm (fun k hk => hs k (List.mem_append_right _ (List.mem_append_right _ hk))) hy
    obtain ⟨ao, m, cap, h1, h2, h3, _⟩ := vrep_lst.1 hv
    rw [h1] at hv
    have hcut := lst_cut hz hv (lo := 0) (hi := hi') (Nat.zero_le _) hhi
    rw [List.drop_zero, Nat.sub_zero, Nat.sub_zero] at hcut
    have hsz : (sizeOf e).run P w = .ok z w := by
      cases hi' : P.info? e with
      | none => rw [hi'] at hi; simp at hi
      | some i => rw [hi'] at hi; simp at hi; simp [sizeOf, typeInfo, hi', hi]
    subst hij
    refine ⟨_, ?_, avrep_val hcut⟩
    have hb := run_bound (P := P) (w := w) (k := k) (j := hi') (y := cap) (code := .sliceAcap) (by omega)
    generalize a.eval = ρ at h1 e2 ⊢
    simp [execOp, ho, Instr.sliceAt, Instr.slice, run_underlying hu, h1, e2, Instr.sliceBounds, hb, hsz]
end

/-- More cells stay: those of a block that no object has. -/
theorem SimG.moreD (h : SimG w0 U0 nt s a w D hv) {g : Nat} (hg : g < w.heap.size) (hno : ∀ k av, look s k = some av → oKey k → av.t ≠ 7 → hb (hv k) ≠ some g) : SimG w0 U0 nt s a w (fun b o => D b o ∨ b = g) hv := by
  have hkeep : ∀ b o v, Us w0 U0 D b o → w.cell? ⟨b, o, none⟩ = some v → Us w0 U0 (fun b o => D b o ∨ b = g) b o ∧ w.cell? ⟨b, o, none⟩ = some v := fun b o v hu hc => ⟨hu.imp id fun h => ⟨h.1, .inl h.2⟩, hc⟩
  refine ⟨h.below, h.dfr, h.size, fun d av h1 h2 => ?_, fun m o av h1 h2 h3 h4 => ?_, h.fdis, fun k av h1 h2 => ?_, fun k av g' h1 h2 h3 h4 => ?_, h.disj, h.fix, fun b o hd => ?_⟩
  · obtain ⟨v, h3, h4⟩ := h.slot d av h1 h2
    exact ⟨v, h3, h4.keep hkeep⟩
  · obtain ⟨v, h5, h6⟩ := h.fld m o av h1 h2 h3 h4
    exact ⟨v, h5.keep hkeep, h6⟩
  · exact (h.obj k av h1 h2).move hkeep (fun _ h3 => ⟨h3, rfl⟩) fun _ _ => rfl
  · obtain ⟨f1, f2, f3⟩ := h.blk k av g' h1 h2 h3 h4
    refine ⟨f1, f2, fun o ho hd => ?_⟩
    rcases hd with hd | hd
    · exact f3 o ho hd
    · exact hno k av h1 h2 h3 (by rw [h4, hd])
  · rcases hd with hd | hd
    · exact h.dlt b o hd
    · rw [hd]; exact hg
/-- A slot is known otherwise. -/
theorem SimG.know (h : SimG w0 U0 nt s a w D hv) {d : Nat} {av : AV} {v : Value} (h5 : d < 100000) (hv1 : a.tmps[d]? = some v) (hav : AVRep (Us w0 U0 D) w hv (LiveN s) av v) : SimG w0 U0 nt ((d, av) :: s) a w D hv := by
  have hlt : d < nt := by
    rw [← h.size]
    rcases Nat.lt_or_ge d a.tmps.size with h1 | h1
    · exact h1
    · rw [Array.getElem?_eq_none h1] at hv1; cases hv1
  have := h.put hlt h5 hav
  have e : a.put (some d) v = a := by
    have : a.tmps.setIfInBounds d v = a.tmps := by
      apply Array.ext_getElem?
      intro i
      rw [Array.getElem?_setIfInBounds]
      split
      · rename_i e
        subst e
        rw [if_pos (by rw [h.size]; exact hlt), hv1]
      · rfl
    show { a with tmps := a.tmps.setIfInBounds d v } = a
    rw [this]
  rw [e] at this
  exact this

/-- A box that is no more written. -/
theorem wk_freeze (n : Nat) {c : CV} {k q p v l q1} (hb : look s (100000 + n) = some ⟨5, c, k, q, p⟩) (hs : look s n = some ⟨2, ⟨q1, v, l⟩, n, 0, []⟩) (hn5 : Nat.blt n 100000 = true) {s' : AS} (hsub : SubL s s') (hk : noKey s' (100000 + n) = true) (hk2 : noKey s' n = true) (hr : noRefB s' [(n, [])] = true) : Wk w0 U0 nt s ((n, .val (.ptr c)) :: s') := by
  rintro a w ⟨D, hv, h⟩
  have hn := blt_lt hn5
  obtain ⟨g, xs, ty, g0, g1, g2, g5⟩ := h.box hb (by omega)
  obtain ⟨v', g6, g7⟩ := h.slot n _ hs hn
  have g7 : v' = .pointer (some ⟨blkOf (hv (100000 + n)), 0, none⟩) := g7.2
  have hgb : Go.Proofs.Ytmdhefepaolhcaa.hb (hv (100000 + n)) = some g := by rw [g0]; rfl
  have hgb2 : blkOf (hv (100000 + n)) = g := by rw [g0]; rfl
  rw [hgb2] at g7
  have hsub := hsub.sub
  obtain ⟨f1, f2, f3⟩ := h.blk (100000 + n) _ g hb ⟨by omega, by omega⟩ (by simp) hgb
  have nokey : ∀ {t : AS} {m : Nat}, noKey t m = true → ∀ av, look t m ≠ some av := fun {t m} h1 av h2 => by
    have h3 := look_mem h2
    unfold noKey at h1
    rw [List.all_eq_true] at h1
    have := h1 _ h3
    simp at this
  have hnob : ∀ av, look s' (100000 + n) ≠ some av := nokey hk
  have h2 := (h.sub hsub).moreD (g := g) f2 fun k av h3 h4 h5 h6 => h.disj (100000 + n) k _ av g hb (hsub _ _ h3) ⟨by omega, by omega⟩ h4 (by simp) h5 (fun e => hnob av (e ▸ h3)) hgb h6
  rcases f1 with f1 | f1
  · refine ⟨_, hv, h2.know hn g6 (avrep_val ?_)⟩
    rw [g7]
    refine vrep_ptr.2 ⟨g, 0, xs, rfl, g2.keep fun b o v hu hc => ⟨hu.imp id fun h => ⟨h.1, .inl h.2⟩, hc⟩, fun i hi => ⟨.inr ⟨f1, .inr rfl⟩, ?_⟩⟩
    have := box_cells_at (ys := []) (us := []) g1 (by simp) i hi
    simpa using this
  · exact absurd (lcl_own (by omega) _) f1.1
end
end Go.Proofs.Ytmdhefepaolhcaa
