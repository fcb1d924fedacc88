/-
  Steps that read memory, make it, and write boxes; calls.
-/
import Derived.Test.YtmdhefepaolhcaaAbData
namespace Go.Proofs.Ytmdhefepaolhcaa
open Go.RowKit
set_option linter.unusedVariables false
set_option linter.unusedSimpArgs false

/-- What a call gives: a value or a tuple. -/
def RR (U : Nat → Nat → Prop) (w : World) (r : AV) (v : Value) : Prop :=
  if r.t = 4 then ∃ vs : List Value, v = .tuple vs.toArray ∧ VReps U w r.c.l vs else VRep U w r.c v
/-- A call of it is entered. -/
def EntF (P : Program) (f : FuncId) : Prop := ∀ args w, (callFunc f args).run P w = .ok (.enter f args) w
theorem ent_of {P : Program} {f : FuncId} {fn : Func} (hf : P.funcs[f]? = some fn) (hn : (fn.name == "runtime.NumGoroutine") = false) (hb : fn.body.isNone = false) : EntF P f := by
  intro args w
  have hn' : fn.name ≠ "runtime.NumGoroutine" := by simpa using hn
  have hb' : fn.body ≠ none := by cases h : fn.body <;> simp_all
  simp [callFunc, hf, hn', hb', go_sem]
/-- Nothing was lent. -/
def Hw (W w : World) (U : UX) : Prop := (∀ n, U.f n = none) ∧ ∀ b, ¬ U.x b
/-- In whatever world, with arguments like these: it returns this, in new memory or in the arguments'. -/
def AFun (P : Program) (W : World) (f : FuncId) (args : List CV) (r : AV) : Prop :=
  EntF P f ∧ (r.t = 0 ∨ r.t = 4) ∧ r.n = 0 ∧ ∀ (U : Nat → Nat → Prop) (w : World) (vs : List Value), True → VReps U w args vs →
    Calls P f vs.toArray w fun e w' => ∃ v, e = .returned v ∧ RR (fun b o => U b o ∨ w.heap.size ≤ b) w' r v ∧ Below w.heap.size w w'

theorem AFun.up {P : Program} {W w : World} {f : FuncId} {args : List CV} {r : AV} {U : UX} (h : AFun P W f args r) (hW : Hw W w U) : AFun P w f args r :=
  ⟨h.1, h.2.1, h.2.2.1, fun U w' vs hw hv => h.2.2.2 U w' vs trivial hv⟩

noncomputable def evsO (S : Nat → Option AV) : List Operand → Option (List CV)
  | [] => some []
  | x :: xs => match ev S x, evsO S xs with
    | some ⟨0, c, _, _, _⟩, some cs => some (c :: cs)
    | _, _ => none
def rdl : List Operand → List Nat
  | [] => []
  | x :: xs => rd x ++ rdl xs

section
variable {P : Program} {w0 : World} {U0 : UX} {nt : Nat} {ops : Array Oper} {o : Oper} {S : Nat → Option AV} {gs : List Nat} {d : Nat} {s : AS} {a : Act} {w : World} {D : Nat → Nat → Prop} {hv : Nat → Value}

/-- A box. -/
theorem SimG.box (h : SimG w0 U0 nt s a w D hv) {n : Nat} {c : CV} {m q p} (h1 : look s (100000 + n) = some ⟨5, c, m, q, p⟩) (h2 : n < 400000) : ∃ g xs ty, hv (100000 + n) = .pointer (some ⟨g, 0, none⟩) ∧ w.heap[g]? = some (.cells xs.toArray ty (0, 0)) ∧ Rep (Us w0 U0 D) w c xs ∧ Tk hv (LiveN s) ⟨5, c, m, q, p⟩ xs := h.obj (100000 + n) _ h1 ⟨by omega, by omega⟩
theorem evsO_rep (h : SimG w0 U0 nt s a w D hv) : ∀ {xs : List Operand} {cs : List CV}, (∀ k ∈ rdl xs, look s k = S k) → evsO S xs = some cs → VReps (Us w0 U0 D) w cs (xs.map a.eval)
  | [], cs, _, he => by simp [evsO] at he; subst he; rfl
  | x :: xs, cs, hs, he => by
    unfold evsO at he
    split at he
    · rename_i c n q p cs' h1 h2
      cases he
      exact ⟨a.eval x, xs.map a.eval, rfl, ev_val h (fun k hk => hs k (List.mem_append_left _ hk)) h1, evsO_rep h (fun k hk => hs k (List.mem_append_right _ hk)) h2⟩
    · cases he

theorem us_of_rr {W : World} (hW : W.heap.size = w.heap.size) {w' : World} (hsz : w.heap.size ≤ w'.heap.size) (hbase : w0.heap.size ≤ w.heap.size) {r : AV} {v : Value} (h : RR (fun b o => Us w0 U0 D b o ∨ W.heap.size ≤ b) w' r v) : RR (Us w0 U0 (Dn D w w')) w' r v := by
  have hk : ∀ b o v, (Us w0 U0 D b o ∨ W.heap.size ≤ b) → w'.cell? ⟨b, o, none⟩ = some v → Us w0 U0 (Dn D w w') b o ∧ w'.cell? ⟨b, o, none⟩ = some v := by
    intro b o v hu hc
    refine ⟨?_, hc⟩
    rcases hu with (h | h) | h
    · exact .inl h
    · exact .inr ⟨h.1, .inl h.2⟩
    · exact .inr ⟨by omega, .inr ⟨by omega, World.block_lt_of_cell? w' _ hc⟩⟩
  unfold RR at h ⊢
  split
  · rename_i ht
    rw [if_pos ht] at h
    obtain ⟨vs, h1, h2⟩ := h
    exact ⟨vs, h1, h2.keep hk⟩
  · rename_i ht
    rw [if_neg ht] at h
    exact h.keep hk
theorem avrep_rr {U : Nat → Nat → Prop} {r : AV} {v : Value} (ht : r.t = 0 ∨ r.t = 4) (hn : r.n = 0) (h : RR U w r v) : AVRep U w hv (LiveN s) r v := by
  unfold RR at h
  unfold AVRep
  rcases ht with ht | ht
  · rw [if_pos ht]
    rw [if_neg (by omega)] at h
    exact ⟨h, fun hl => by rw [hn] at hl; exact absurd hl not_live0⟩
  · rw [if_neg (by omega), if_neg (by omega), if_neg (by omega), if_pos ht]
    rw [if_pos ht] at h
    exact h

theorem a_call {f : FuncId} {xs : Array Operand} {ts : Array TypeId} {cs : List CV} {r : AV} (hg : Gd w0 U0 nt ops o gs S) (hd : o.dst = some d) (hn : Nat.blt d nt = true) (h5 : Nat.blt d 100000 = true)
    (ho : o.op = .call { callee := .value (.func f), args := xs, argTypes := ts }) (hx : evsO S xs.toList = some cs) (hc : AFun P w0 f cs r) : AOp P w0 U0 nt ops o (gs ++ rdl xs.toList) [] S [(d, r)] := by
  intro s hs _ a w ⟨D, hv, h⟩ Q K hK
  rw [if_pos (hg s (fun k hk => hs k (List.mem_append_left _ hk)) a w D hv h)]
  have hargs := evsO_rep h (fun k hk => hs k (List.mem_append_right _ hk)) hx
  obtain ⟨h1, h2, h3, h4⟩ := hc
  have hcall := h4 _ w _ trivial hargs
  have he : (execOp a.eval o).run P w = .ok (.enter f (xs.toList.map a.eval).toArray) w := by
    have hf : a.eval (.func f) = .func (.func f) #[] #[] := rfl
    have hen := h1 (xs.map a.eval) w
    have harr : (xs.toList.map a.eval).toArray = xs.map a.eval := by apply Array.ext'; simp
    rw [harr]
    generalize a.eval = ρ at hf hen ⊢
    simp [execOp, ho, resolve, invoke, Deferred.ofValue, hf, hen]
  unfold Oper.wp
  rw [he, Oper.upon_enter]
  refine hcall.mono ?_
  rintro e w' ⟨v, rfl, h6, h7⟩
  rw [hd]
  refine hK _ _ ⟨Dn D w w', hv, (h.growN h7).put (blt_lt hn) (blt_lt h5) (avrep_rr h2 h3 (us_of_rr rfl h7.size h.below.size h6))⟩

/-- A part of a tuple. -/
def nthO : List CV → Nat → Option CV
  | [], _ => none
  | c :: _, 0 => some c
  | _ :: cs, i + 1 => nthO cs i
theorem nthO_eq : ∀ (l : List CV) (i : Nat), nthO l i = l[i]?
  | [], _ => rfl
  | c :: cs, 0 => rfl
  | c :: cs, i + 1 => by rw [nthO, nthO_eq cs i]; rfl

section
variable (hg : Gd w0 U0 nt ops o gs S) (hd : o.dst = some d) (hn : Nat.blt d nt = true) (h5 : Nat.blt d 100000 = true)
include hg hd hn h5

theorem a_extract {x : Operand} {i : Nat} {l : List CV} {c : CV} {k v n q p} (ho : o.op = .extract x i) (hx : ev S x = some ⟨4, ⟨k, v, l⟩, n, q, p⟩) (hi : nthO l i = some c) : AOp P w0 U0 nt ops o (gs ++ rd x) [] S [(d, .val c)] :=
  aop_val hg hd hn h5 (fun k hk => List.mem_append_left _ hk) fun s hs a w D hv hm => by
    obtain ⟨vs, h1, h2⟩ : ∃ vs : List Value, a.eval x = .tuple vs.toArray ∧ VReps (Us w0 U0 D) w l vs := ev_rep hm (fun k hk => hs k (List.mem_append_right _ hk)) hx
    rw [nthO_eq] at hi
    obtain ⟨u, h3, h4⟩ := h2.at hi
    refine ⟨u, ?_, avrep_val h4⟩
    generalize a.eval = ρ at h1 ⊢
    simp [execOp, ho, Instr.extract, h1, h3]

/-- Struct or array. -/
def aggB : TypeDesc → Bool
  | .struct _ | .array _ _ => true
  | _ => false
omit hg hd hn h5 in
theorem run_isAgg {ty : TypeId} {ds : TypeDesc} (hu : P.underlying ty = some ds) (w : World) : (isAgg ty).run P w = .ok (aggB ds) w := by
  cases ds <;> simp [isAgg, run_underlying hu, aggB]
omit hg hd hn h5 in
theorem run_loadTree {ty : TypeId} {ds : TypeDesc} {z : Nat} (hu : P.underlying ty = some ds) (hi : (P.info? ty).map (·.size) = some z) {U : Nat → Nat → Prop} {c : CV} (hk : aggB ds = Nat.beq c.k 2) (hz : c.size = z) {b off : Nat} {xs : List Value} (hr : Rep U w c xs) (hc : ∀ i, i < xs.length → w.cell? ⟨b, off + i, none⟩ = xs[i]?) :
    ∃ v, (loadVar ty ⟨b, off, none⟩).run P w = .ok v w ∧ VRep U w c v ∧ v.cells.toList = xs := by
  have hadd : ∀ j, (⟨b, off, none⟩ : Addr).add j = ⟨b, off + j, none⟩ := fun j => by unfold Addr.add; split <;> simp_all
  have hsz : (sizeOf ty).run P w = .ok z w := by
    cases hi' : P.info? ty with
    | none => rw [hi'] at hi; simp at hi
    | some i => rw [hi'] at hi; simp at hi; simp [sizeOf, typeInfo, hi', hi]
  cases hb : aggB ds with
  | true =>
    rw [hb] at hk
    have hk2 : c.k = 2 := Nat.eq_of_beq_eq_true hk.symm
    have hl : xs.length = z := by rw [hr.len, hz]
    refine ⟨.agg xs.toArray, ?_, by unfold VRep; rw [if_pos hk2]; exact ⟨xs, rfl, hr⟩, by simp [Value.cells]⟩
    have := run_loadCells_list (P := P) w ⟨b, off, none⟩ xs (fun j v hj => by
      have hjl : j < xs.length := by
        rcases Nat.lt_or_ge j xs.length with h | h
        · exact h
        · rw [List.getElem?_eq_none h] at hj; cases hj
      rw [hadd, hc j hjl, hj])
    rw [hl] at this
    simp [loadVar, run_isAgg hu, hb, hsz, this]
  | false =>
    rw [hb] at hk
    have hk2 : c.k ≠ 2 := fun e => by rw [e] at hk; cases hk
    have h1 : c.size = 1 := by cases c with | mk k v l => rw [CV.size_mk, if_neg hk2]
    have hl : xs.length = 1 := by rw [hr.len, h1]
    obtain ⟨v, rfl⟩ : ∃ v, xs = [v] := by
      match xs, hl with
      | [v], _ => exact ⟨v, rfl⟩
    have h0 := hc 0 (by simp)
    refine ⟨v, ?_, by unfold VRep; rw [if_neg hk2]; exact hr, ?_⟩
    · simp only [Nat.add_zero, List.getElem?_cons_zero] at h0
      simp [loadVar, run_isAgg hu, hb, run_load, h0]
    · have hv : VRep U w c v := by unfold VRep; rw [if_neg hk2]; exact hr
      have h1 := hr.one v (by simp)
      cases v <;> first | rfl | simp [Value.oneCell'] at h1

/-- What lies at an address that stays. -/
theorem a_load_ad {x : Operand} {ty : TypeId} {ds : TypeDesc} {z : Nat} {c : CV} {n q p} (ho : o.op = .load ty x) (hu : P.underlying ty = some ds) (hi : (P.info? ty).map (·.size) = some z) (hx : ev S x = some ⟨3, c, n, q, p⟩) (hk : aggB ds = Nat.beq c.k 2) (hz : c.size = z) : AOp P w0 U0 nt ops o (gs ++ rd x) [] S [(d, .val c)] :=
  aop_val hg hd hn h5 (fun k hk => List.mem_append_left _ hk) fun s hs a w D hv hm => by
    obtain ⟨b, off, xs, h1, h2, h3⟩ : ∃ b off xs, a.eval x = .pointer (some ⟨b, off, none⟩) ∧ Rep (Us w0 U0 D) w c xs ∧ ∀ i, i < xs.length → Us w0 U0 D b (off + i) ∧ w.cell? ⟨b, off + i, none⟩ = xs[i]? := ev_rep hm (fun k hk => hs k (List.mem_append_right _ hk)) hx
    obtain ⟨v, h4, h6, _⟩ := run_loadTree hu hi hk hz h2 (fun i hi => (h3 i hi).2)
    refine ⟨v, ?_, avrep_val h6⟩
    generalize a.eval = ρ at h1 ⊢
    simp [execOp, ho, Instr.loadAt, Instr.sureAddr, h1, h4]

omit hg hd hn h5 in
theorem box_cells_at {g : Nat} {xs : List Value} {ty : TypeId} (h : w.heap[g]? = some (.cells xs.toArray ty (0, 0))) {ys zs us : List Value} (e : xs = ys ++ zs ++ us) : ∀ i, i < zs.length → w.cell? ⟨g, ys.length + i, none⟩ = zs[i]? := by
  intro i hi
  simp [World.cell?, h, e, List.getElem?_append, hi]

omit hg hd hn h5 in
theorem load_bp {x : Operand} {ty : TypeId} {ds : TypeDesc} {z : Nat} {c c' : CV} {n q p n' q' p' k' v' l'} (ho : o.op = .load ty x) (hu : P.underlying ty = some ds) (hi : (P.info? ty).map (·.size) = some z) (hx : ev S x = some ⟨2, ⟨k', v', l'⟩, n, q, p⟩) (hn5 : Nat.blt n 400000 = true) (hb : S (100000 + n) = some ⟨5, c, n', q', p'⟩) (hat : c.at p = some (q, c')) (hk : aggB ds = Nat.beq c'.k 2) (hz : c'.size = z)
    (hs : ∀ k ∈ rd x ++ [100000 + n], look s k = S k) (hm : SimG w0 U0 nt s a w D hv) : ∃ v xs ys zs us, (execOp a.eval o).run P w = .ok (.value v) w ∧ VRep (Us w0 U0 D) w c' v ∧ xs = ys ++ zs ++ us ∧ ys.length = q ∧ v.cells.toList = zs ∧ Rep (Us w0 U0 D) w c xs ∧ Tk hv (LiveN s) ⟨5, c, n', q', p'⟩ xs := by
  have h1 : a.eval x = .pointer (some ⟨blkOf (hv (100000 + n)), q, none⟩) := (ev_rep hm (fun k hk => hs k (List.mem_append_left _ hk)) hx).2
  obtain ⟨g, xs, t, hg, h2, h3, h4⟩ := hm.box ((hs _ (List.mem_append_right _ (by simp))).trans hb) (blt_lt hn5)
  have hg : blkOf (hv (100000 + n)) = g := by rw [hg]; rfl
  rw [hg] at h1
  obtain ⟨ys, zs, us, e, e1, e2⟩ := at_spec hat h3
  obtain ⟨v, h6, h7, h8⟩ := run_loadTree hu hi hk hz e2 (b := g) (off := q) (fun i hi => by rw [← e1]; exact box_cells_at h2 e i hi)
  refine ⟨v, xs, ys, zs, us, ?_, h7, e, e1, h8, h3, h4⟩
  generalize a.eval = ρ at h1 ⊢
  simp [execOp, ho, Instr.loadAt, Instr.sureAddr, h1, h6]

/-- A whole box is read. -/
theorem a_load_all {x : Operand} {ty : TypeId} {ds : TypeDesc} {z : Nat} {c : CV} {n q n' q' p' k' v' l'} (ho : o.op = .load ty x) (hu : P.underlying ty = some ds) (hi : (P.info? ty).map (·.size) = some z) (hx : ev S x = some ⟨2, ⟨k', v', l'⟩, n, q, []⟩) (hn5 : Nat.blt n 400000 = true) (hb : S (100000 + n) = some ⟨5, c, n', q', p'⟩) (hq : q = 0) (hk : aggB ds = Nat.beq c.k 2) (hz : c.size = z) : AOp P w0 U0 nt ops o (gs ++ (rd x ++ [100000 + n])) [] S [(d, ⟨0, c, n', 0, p'⟩)] :=
  aop_val hg hd hn h5 (fun k hk => List.mem_append_left _ hk) fun s hs a w D hv hm => by
    subst hq
    obtain ⟨v, xs, ys, zs, us, h1, h2, e, e1, h3, h4, h6⟩ := load_bp ho hu hi hx hn5 hb (by cases c; rfl) hk hz (fun k hk => hs k (List.mem_append_right _ hk)) hm
    refine ⟨v, h1, h2, fun hl => ?_⟩
    obtain ⟨m, c', g1, g2⟩ := h6 hl
    refine ⟨m, c', g1, ?_⟩
    have : ys = [] := List.eq_nil_of_length_eq_zero e1
    have hlen : us = [] := by
      have h7 := h4.len
      have h8 := h2.cells.len
      rw [h3] at h8
      rw [e, this] at h7
      simp at h7
      exact List.eq_nil_of_length_eq_zero (by omega)
    rw [h3]
    rw [e, this, hlen] at g2
    simpa using g2
/-- The place where a row may grow. -/
theorem a_load_tok {x : Operand} {ty : TypeId} {ds : TypeDesc} {z : Nat} {c c' : CV} {n q n' q' p k' v' l'} (ho : o.op = .load ty x) (hu : P.underlying ty = some ds) (hi : (P.info? ty).map (·.size) = some z) (hx : ev S x = some ⟨2, ⟨k', v', l'⟩, n, q, p⟩) (hn5 : Nat.blt n 400000 = true) (hb : S (100000 + n) = some ⟨5, c, n', q', p⟩) (hat : c.at p = some (q, c')) (hk : aggB ds = Nat.beq c'.k 2) (hz : c'.size = z) (hz1 : Nat.beq c'.size 1 = true) : AOp P w0 U0 nt ops o (gs ++ (rd x ++ [100000 + n])) [] S [(d, ⟨0, c', n', 0, []⟩)] :=
  aop_val hg hd hn h5 (fun k hk => List.mem_append_left _ hk) fun s hs a w D hv hm => by
    obtain ⟨v, xs, ys, zs, us, h1, h2, e, e1, h3, h4, h6⟩ := load_bp ho hu hi hx hn5 hb hat hk hz (fun k hk => hs k (List.mem_append_right _ hk)) hm
    refine ⟨v, h1, h2, fun hl => ?_⟩
    obtain ⟨m, c'', g1, g2⟩ := h6 hl
    simp only at g1
    rw [hat] at g1
    cases g1
    refine ⟨0, c', by cases c'; rfl, ?_⟩
    have h8 := h2.cells.len
    have h1' := Nat.eq_of_beq_eq_true hz1
    rw [h3] at h8 ⊢
    rw [e, ← e1] at g2
    rw [List.append_assoc, List.getElem?_append_right (Nat.le_refl _), Nat.sub_self, List.getElem?_append_left (by omega)] at g2
    exact g2
/-- A part of a box is read. -/
theorem a_load_bp {x : Operand} {ty : TypeId} {ds : TypeDesc} {z : Nat} {c c' : CV} {n q p n' q' p' k' v' l'} (ho : o.op = .load ty x) (hu : P.underlying ty = some ds) (hi : (P.info? ty).map (·.size) = some z) (hx : ev S x = some ⟨2, ⟨k', v', l'⟩, n, q, p⟩) (hn5 : Nat.blt n 400000 = true) (hb : S (100000 + n) = some ⟨5, c, n', q', p'⟩) (hat : c.at p = some (q, c')) (hk : aggB ds = Nat.beq c'.k 2) (hz : c'.size = z) : AOp P w0 U0 nt ops o (gs ++ (rd x ++ [100000 + n])) [] S [(d, .val c')] :=
  aop_val hg hd hn h5 (fun k hk => List.mem_append_left _ hk) fun s hs a w D hv hm => by
    obtain ⟨v, xs, ys, zs, us, h1, h2, _⟩ := load_bp ho hu hi hx hn5 hb hat hk hz (fun k hk => hs k (List.mem_append_right _ hk)) hm
    exact ⟨v, h1, avrep_val h2⟩

/-- The address of a field. -/
theorem a_field_bp {x : Operand} {ty : TypeId} {fs : Array Field} {i : Nat} {f : Field} {n q p k' v' l' z} (ho : o.op = .fieldAddr ty x i) (hu : P.underlying ty = some (.struct fs)) (hf : fs[i]? = some f) (hz : (P.info? f.type).map (·.size) = some z) (hz0 : Nat.beq z 0 = false) (hx : ev S x = some ⟨2, ⟨k', v', l'⟩, n, q, p⟩) : AOp P w0 U0 nt ops o (gs ++ rd x) [] S [(d, .bp n (q + f.offset) (p ++ [i]))] :=
  aop_val hg hd hn h5 (fun k hk => List.mem_append_left _ hk) fun s hs a w D hv hm => by
    obtain ⟨hbn, h1⟩ : BN n ∧ a.eval x = .pointer (some ⟨blkOf (hv (100000 + n)), q, none⟩) := ev_rep hm (fun k hk => hs k (List.mem_append_right _ hk)) hx
    have hsz : (sizeOf f.type).run P w = .ok z w := by
      cases hi' : P.info? f.type with
      | none => rw [hi'] at hz; simp at hz
      | some i => rw [hi'] at hz; simp at hz; simp [sizeOf, typeInfo, hi', hz]
    have hz1 : z ≠ 0 := fun e => by rw [e] at hz0; cases hz0
    have hadd : (⟨blkOf (hv (100000 + n)), q, none⟩ : Addr).add f.offset = ⟨blkOf (hv (100000 + n)), q + f.offset, none⟩ := by unfold Addr.add; split <;> simp_all
    refine ⟨.pointer (some ⟨blkOf (hv (100000 + n)), q + f.offset, none⟩), ?_, hbn, rfl⟩
    generalize a.eval = ρ at h1 ⊢
    simp [execOp, ho, Instr.fieldAt, run_underlying hu, hf, Instr.sureAddr, h1, fieldPlace, hsz, hz1, hadd]
theorem a_field_ad {x : Operand} {ty : TypeId} {fs : Array Field} {i : Nat} {f : Field} {l : List CV} {c : CV} {m : Nat} {v' n q p z} (ho : o.op = .fieldAddr ty x i) (hu : P.underlying ty = some (.struct fs)) (hf : fs[i]? = some f) (hz : (P.info? f.type).map (·.size) = some z) (hz0 : Nat.beq z 0 = false) (hx : ev S x = some ⟨3, ⟨2, v', l⟩, n, q, p⟩) (hc : preO l i = some (m, c)) (hm : m = f.offset) : AOp P w0 U0 nt ops o (gs ++ rd x) [] S [(d, .ad c)] :=
  aop_val hg hd hn h5 (fun k hk => List.mem_append_left _ hk) fun s hs a w D hv hmm => by
    obtain ⟨b, off, xs, h1, h2, h3⟩ : ∃ b off xs, a.eval x = .pointer (some ⟨b, off, none⟩) ∧ Rep (Us w0 U0 D) w ⟨2, v', l⟩ xs ∧ ∀ i, i < xs.length → Us w0 U0 D b (off + i) ∧ w.cell? ⟨b, off + i, none⟩ = xs[i]? := ev_rep hmm (fun k hk => hs k (List.mem_append_right _ hk)) hx
    have hsz : (sizeOf f.type).run P w = .ok z w := by
      cases hi' : P.info? f.type with
      | none => rw [hi'] at hz; simp at hz
      | some i => rw [hi'] at hz; simp at hz; simp [sizeOf, typeInfo, hi', hz]
    have hz1 : z ≠ 0 := fun e => by rw [e] at hz0; cases hz0
    have hadd : (⟨b, off, none⟩ : Addr).add f.offset = ⟨b, off + f.offset, none⟩ := by unfold Addr.add; split <;> simp_all
    rw [Rep, if_pos rfl] at h2
    obtain ⟨_, h4⟩ := preO_spec (f := fun c => Rep (Us w0 U0 D) w c) (fun c xs h => h.len) hc
    obtain ⟨ys, zs, us, e, e1, e2, _⟩ := h4 h2
    refine ⟨.pointer (some ⟨b, off + f.offset, none⟩), ?_, b, off + f.offset, zs, rfl, e2, fun i hi => ?_⟩
    · generalize a.eval = ρ at h1 ⊢
      simp [execOp, ho, Instr.fieldAt, run_underlying hu, hf, Instr.sureAddr, h1, fieldPlace, hsz, hz1, hadd]
    · have := h3 (ys.length + i) (by rw [e]; simp; omega)
      rw [e, e1, hm] at this
      rw [Nat.add_assoc]
      refine ⟨this.1, this.2.trans ?_⟩
      rw [← hm, ← e1, List.append_assoc, List.getElem?_append_right (by omega), List.getElem?_append_left (by omega)]
      congr 1
      omega

omit hg hd hn h5 in
theorem sum_const {l : List CV} {z : Nat} (h : ∀ c ∈ l, c.size = z) : (l.map CV.size).sum = l.length * z := by
  induction l with
  | nil => simp
  | cons c cs ih =>
    rw [List.map_cons, List.sum_cons, ih (fun x hx => h x (List.mem_cons_of_mem _ hx)), h c (by simp), List.length_cons, Nat.add_mul]
    omega
omit hg hd hn h5 in
theorem sq_at {U : Nat → Nat → Prop} {z : Nat} : ∀ {l : List CV} {xs : List Value} {i : Nat} {c : CV}, (∀ c ∈ l, c.size = z) → Sq (l.map fun c => Rep U w c) xs → l[i]? = some c → ∃ ys zs us, xs = ys ++ zs ++ us ∧ ys.length = i * z ∧ Rep U w c zs := by
  intro l xs i c hz h hi
  have hil : i < l.length := by
    rcases Nat.lt_or_ge i l.length with h | h
    · exact h
    · rw [List.getElem?_eq_none h] at hi; cases hi
  have hl : l = l.take i ++ c :: l.drop (i + 1) := by
    rw [List.getElem?_eq_getElem hil] at hi
    rw [← Option.some.inj hi, List.getElem_cons_drop, List.take_append_drop]
  rw [hl, List.map_append] at h
  obtain ⟨ys, zs, e, h1, h2⟩ := sq_split h
  obtain ⟨z1, z2, e2, h3, h4⟩ := h2
  refine ⟨ys, z1, z2, by rw [e, e2]; simp, ?_, h3⟩
  rw [sq_len (n := CV.size) (fun c _ xs h => h.len) h1, sum_const (fun c hc => hz c (List.mem_of_mem_take hc)), List.length_take, Nat.min_eq_left (by omega)]

/-- The address of an element. -/
theorem a_index {x y : Operand} {ty e : TypeId} {l : List CV} {i : Int} {j : Nat} {c : CV} {z : Nat} {k : IntKind} {n q p n' q' p'} (ho : o.op = .indexAddr ty x y) (hu : P.underlying ty = some (.slice e)) (hi : (P.info? e).map (·.size) = some z) (hx : ev S x = some ⟨0, .lst l, n, q, p⟩) (hy : ev S y = some ⟨0, .sc (.int k i), n', q', p'⟩) (hij : i = (j : Int)) (hc : l[j]? = some c) (hz0 : Nat.blt 0 z = true) (hz : ∀ c ∈ l, c.size = z) : AOp P w0 U0 nt ops o (gs ++ (rd x ++ rd y)) [] S [(d, .ad c)] :=
  aop_val hg hd hn h5 (fun k hk => List.mem_append_left _ hk) fun s hs a w D hv hm => by
    obtain ⟨ao, m, cap, h1, h2, h3, h4, h6, ys, h7, h8⟩ := vrep_lst.1 (ev_val hm (fun k hk => hs k (List.mem_append_right _ (List.mem_append_left _ hk))) hx)
    have e2 := ev_sc hm (fun k hk => hs k (List.mem_append_right _ (List.mem_append_right _ hk))) hy
    have hjl : j < l.length := by
      rcases Nat.lt_or_ge j l.length with h | h
      · exact h
      · rw [List.getElem?_eq_none h] at hc; cases hc
    obtain ⟨y1, z1, u1, e3, e4, e5⟩ := sq_at hz h8 hc
    have hsz : (sizeOf e).run P w = .ok z w := by
      cases hi' : P.info? e with
      | none => rw [hi'] at hi; simp at hi
      | some i => rw [hi'] at hi; simp at hi; simp [sizeOf, typeInfo, hi', hi]
    subst hij
    have hz0' := hz0
    rcases h7 with rfl | ⟨b, off, rfl, hcell⟩
    · have hz0 : z1 = [] := by
        have := congrArg List.length e3
        simp at this
        exact List.eq_nil_of_length_eq_zero (by omega)
      cases ao with
      | none => have := h6 rfl; omega
      | some ad =>
        have := e5.len
        rw [hz0, hz c (List.mem_of_getElem? hc)] at this
        have hpos := blt_lt hz0'
        simp at this
        omega
    · have hadd : (⟨b, off, none⟩ : Addr).add (j * z) = ⟨b, off + j * z, none⟩ := by unfold Addr.add; split <;> simp_all
      refine ⟨.pointer (some ⟨b, off + j * z, none⟩), ?_, b, off + j * z, z1, rfl, e5, fun i hi => ?_⟩
      · have hlt : j < m := by omega
        generalize a.eval = ρ at h1 e2 ⊢
        simp [execOp, ho, Instr.indexAt, asIntOf, h1, e2, run_underlying hu, hlt, hsz, hadd]
      · have := hcell (y1.length + i) (by rw [e3]; simp; omega)
        rw [e4] at this
        rw [Nat.add_assoc]
        refine ⟨this.1, this.2.trans ?_⟩
        rw [e3, ← e4, List.append_assoc, List.getElem?_append_right (by omega), List.getElem?_append_left (by omega)]
        congr 1
        omega
end
end
end Go.Proofs.Ytmdhefepaolhcaa
