/-
  Append to a row of the call's own, where it lies; rows of terms.
-/
import Derived.Test.YtmdhefepaolhcaaTmSmall
namespace Go.Proofs.Ytmdhefepaolhcaa
open Go.RowKit
set_option linter.unusedVariables false

/-- 'append(v, x...)' of rows of elements of several cells: where what comes of it lies. -/
theorem appRow_run {P : Program} (w : World) (t ty e : TypeId) (z : Value) (size bytes : Nat) (ht : P.underlying t = some (.slice e)) (hi : (P.info? e).map (fun i => (i.zero, i.size, i.bytes)) = some (some z, size, bytes)) (hzs : z.cells.size = size) (hsz : 0 < size)
    (v : Value) (n : Nat) (xs : List Value) (hown : w.ownsRow 0 e size v n xs) (ad : Addr) (m c : Nat) (ys : List Value) (hb : Cs w (some ad) ys) (hl : ys.length = m * size) (h1 : ∀ u ∈ ys, u.oneCell' = true) (h63 : n + m ≤ maxLen) (hbytes : (n + m) * bytes ≤ 140737488355328) :
    ∃ v' w', Sem.run P (Builtin.append_ #[t, t] ty #[v, .slice (some ad) m c]) w = .ok v' w' ∧ w'.ownsRow 0 e size v' (n + m) (xs ++ ys) ∧ w.grownBy w' v.ownBlock ∧ (v'.ownBlock = v.ownBlock ∨ ∀ g, v'.ownBlock = some g → w.heap.size ≤ g) := by
  obtain ⟨i, hi1, hi2, hi3, hi4⟩ := info_parts hi
  have hnews : ∀ j u, ys[j]? = some u → w.cell? (ad.add j) = some u := by
    intro j u hj
    have hjl : j < ys.length := by
      rcases Nat.lt_or_ge j ys.length with h | h
      · exact h
      · rw [List.getElem?_eq_none h] at hj; cases hj
    rcases hb with rfl | ⟨b, off, ha, hlt, hc⟩
    · simp at hjl
    · cases ha
      rw [show (⟨b, off, none⟩ : Addr).add j = ⟨b, off + j, none⟩ by simp [Addr.add], hc j hjl, hj]
  rcases hown.2 with ⟨rfl, rfl⟩ | ⟨g, cap, cur, rfl, hbg, hg, hnc, hcm, hcs, htake⟩
  · have hx : xs = [] := List.eq_nil_of_length_eq_zero (by simpa using hown.1)
    subst hx
    obtain ⟨v', w', hr, ho, hg, _⟩ := run_append_own (P := P) w w.heap.size t ty e i z size bytes ht hi1 hi2 hi3 hi4 hzs hsz (.slice none 0 0) 0 [] (World.ownsRow_nil _ _ _ _) ad m c ys hl hnews h1 h63 hbytes (Nat.le_refl _)
    exact ⟨v', w', hr, ownsRow_mono ho (Nat.zero_le _), hg, .inr (fun g hg => (ho.lt g hg).1)⟩
  · by_cases hroom : n + m ≤ cap
    · obtain ⟨w', hr, ho, hgr⟩ := run_append_fits (P := P) w 0 t ty e i size ht hi1 hi3 g n cap xs hown ad m c ys hl hnews h1 hroom
      exact ⟨_, w', hr, ho, hgr, .inl rfl⟩
    · obtain ⟨v', w', hr, ho, hgr⟩ := run_append_arg_grows (P := P) w t ty e i z size bytes ht hi1 hi2 hi3 hi4 hzs hsz ⟨g, 0, none⟩ n cap xs hown.1 (hown.cells (g := g) rfl) ad m c ys hl hnews (by omega) h63 hbytes
      exact ⟨v', w', hr, ownsRow_mono ho (Nat.zero_le _), hgr.but _, .inr (fun g hg => (ho.lt g hg).1)⟩

theorem step_appRun {P : Program} (w : World) {ops : Array Oper} {o : Oper} {a : Act} {K : Act → World → Prop} {Q : Exit → Act → World → Prop} {E : Prop} (hgd : Region.wanted o (yielded ops a.tmps) = true) (so x : Operand) (t : TypeId)
    (ho : o.op = .call { callee := .builtin .append, args := #[so, x], argTypes := #[t, t] }) (v y : Value) (hs : a.eval so = v) (hx : a.eval x = y) (v' : Value) (w' : World) (hrun : Sem.run P (Builtin.append_ #[t, t] o.type #[v, y]) w = .ok v' w') (h : K (a.put o.dst v') w') :
    if Region.wanted o (yielded ops a.tmps) = true then Oper.wp P o a w K Q else E := by
  rw [if_pos hgd]
  unfold Oper.wp
  simp [execOp, ho, resolve, invoke, builtin, hs, hx, hrun, Result.andThen]
  exact h

theorem wpList_appRun {P : Program} (w : World) {ops : Array Oper} {rest : List Oper} {o : Oper} {a : Act} {Q : Exit → Act → World → Prop} (hgd : Region.wanted o (yielded ops a.tmps) = true) (so x : Operand) (t : TypeId)
    (ho : o.op = .call { callee := .builtin .append, args := #[so, x], argTypes := #[t, t] }) (v y : Value) (hs : a.eval so = v) (hx : a.eval x = y) (v' : Value) (w' : World) (hrun : Sem.run P (Builtin.append_ #[t, t] o.type #[v, y]) w = .ok v' w') (h : wpList P ops Q rest (a.put o.dst v') w') : wpList P ops Q (o :: rest) a w := by
  refine wpList_wanted hgd fun K hK => ?_
  unfold Oper.wp
  simp [execOp, ho, resolve, invoke, builtin, hs, hx, hrun, Result.andThen]
  exact hK _ _ h


/-- A call of a Go function in a region that draws, for go_region_law. -/
theorem step_call {P : Program} (w : World) {ops : Array Oper} {o : Oper} {a : Act} {K : Act → World → Prop} {Q : Exit → Act → World → Prop} {E : Prop} (hgd : Region.wanted o (yielded ops a.tmps) = true) (f : Nat) (x : Operand) (ts : Array TypeId)
    (ho : o.op = .call { callee := .value (.func f), args := #[x], argTypes := ts }) (eg : ∀ args w, (callFunc f args).run P w = .ok (.enter f args) w) (v : Value) (hx : a.eval x = v) {R : Ending → World → Prop} (hc : Calls P f #[v] w R) (h : ∀ e w', R e w' → ∃ u, e = .returned u ∧ K (a.put o.dst u) w') :
    if Region.wanted o (yielded ops a.tmps) = true then Oper.wp P o a w K Q else E := by
  rw [if_pos hgd]
  unfold Oper.wp
  have he : (execOp a.eval o).run P w = .ok (.enter f #[v]) w := by
    rw [← hx]
    cases x <;> simp [execOp, ho, resolve, invoke, go_sem, eg]
  rw [he, Oper.upon_enter]
  refine hc.mono ?_
  rintro e w' hr
  obtain ⟨u, rfl, hk⟩ := h e w' hr
  exact hk

theorem appRow_base {w : World} {B : Nat} {e : TypeId} {size : Nat} {v : Value} {n : Nat} {xs : List Value} (h : w.ownsRow 0 e size v n xs) (hb : ∀ g, v.ownBlock = some g → B ≤ g) : w.ownsRow B e size v n xs := by
  obtain ⟨h1, h2⟩ := h
  refine ⟨h1, ?_⟩
  rcases h2 with h2 | ⟨g, cap, cur, rfl, hg, r⟩
  · exact .inl h2
  · exact .inr ⟨g, cap, cur, rfl, hb g rfl, r⟩

/-- 'append(v, x)', one element, v the call's own. -/
theorem app_one {P : Program} {w : World} {B : Nat} (hB : B ≤ w.heap.size) (t e : TypeId) (z : Value) (size bytes : Nat) (ht : P.underlying t = some (.slice e)) (hi : (P.info? e).map (fun i => (i.zero, i.size, i.bytes)) = some (some z, size, bytes)) (hzs : z.cells.size = size) (hsz : 0 < size)
    (v : Value) (n : Nat) (xs ys : List Value) (hrow : w.ownsRow B e size v n xs) (hl : ys.length = size) (h1 : ∀ u ∈ ys, u.oneCell' = true) (hn : n ≤ 10000000000) (hbt : bytes ≤ 1000) :
    ∃ a' c' w', Sem.run P (Builtin.append_ #[t, t] t #[v, .slice (some ⟨w.heap.size, 0, none⟩) 1 1]) (w.alloc (.cells ys.toArray e)) = .ok (.slice a' (n + 1) c') w' ∧ w'.ownsRow B e size (.slice a' (n + 1) c') (n + 1) (xs ++ ys) ∧ Below B w w' ∧ (∀ b, b < w.heap.size → v.ownBlock ≠ some b → w'.heap[b]? = w.heap[b]?) ∧ ∀ g, (Value.slice a' (n + 1) c').ownBlock = some g → v.ownBlock = some g ∨ w.heap.size ≤ g := by
  have hmul : (n + 1) * bytes ≤ 10000000001 * 1000 := Nat.mul_le_mul (by omega) hbt
  have hrow1 : (w.alloc (.cells ys.toArray e)).ownsRow 0 e size v n xs := ownsRow_mono (hrow.alloc _) (Nat.zero_le _)
  obtain ⟨v', w', hrun, ho, hg, hv⟩ := appRow_run (P := P) (w.alloc (.cells ys.toArray e)) t t e z size bytes ht hi hzs hsz v n xs hrow1 ⟨w.heap.size, 0, none⟩ 1 1 ys (Cs.new _ _ _) (by rw [hl, Nat.one_mul]) h1 (by unfold maxLen; omega) (by omega)
  obtain ⟨a', c', rfl, _⟩ := ownsRow_cs ho
  have hv' : ∀ g, (Value.slice a' (n + 1) c').ownBlock = some g → v.ownBlock = some g ∨ w.heap.size ≤ g := fun g hg' => by
    rcases hv with e | e
    · left; rw [← e]; exact hg'
    · right; have := e g hg'; rw [World.size_alloc] at this; omega
  refine ⟨a', c', w', hrun, appRow_base ho (fun g hg' => ?_), ?_, fun b hb hne => ?_, hv'⟩
  · rcases hv' g hg' with e | e
    · exact (hrow.lt g e).1
    · omega
  · exact ((Below.refl B w).alloc hB _).trans ((Below.refl _ _).grown hg (by simp; omega) fun k hk => (hrow.lt k hk).1)
  · rw [hg.block b (by simp; omega) (fun e => hne e.symm), Below.heap_alloc _ _ _ hb]

/-- A row of the call's own that holds terms, their parts in blocks of U beside it. -/
def OwnT (e : TypeId) (U : Nat → Prop) (w : World) (base : Nat) (v : Value) (l : List Tm) : Prop := ∃ xs, w.ownsRow base e 2 v l.length xs ∧ Ecs (fun b => U b ∧ v.ownBlock ≠ some b) w l xs

theorem OwnT.nil (e : TypeId) (U : Nat → Prop) (w : World) (base : Nat) : OwnT e U w base (.slice none 0 0) [] := ⟨[], World.ownsRow_nil _ _ _ _, Ecs.nil_iff.2 rfl⟩

theorem OwnT.las {e : TypeId} {U : Nat → Prop} {w : World} {base : Nat} {v : Value} {l : List Tm} (h : OwnT e U w base v l) (hU : ∀ b, base ≤ b → b < w.heap.size → U b) : ∃ a c, v = .slice a l.length c ∧ Las U w l a l.length c := by
  obtain ⟨xs, h1, h2⟩ := h
  obtain ⟨a, c, e1, e2, e3, e4, e5⟩ := ownsRow_cs h1
  refine ⟨a, c, e1, rfl, e2, e3, e4, xs, ?_, h2.mono fun b hb _ => hb.1⟩
  rcases e5 with h | ⟨b, off, ha, hlt, hc⟩
  · exact .inl h
  · refine .inr ⟨b, off, ha, hU b ?_ hlt, hlt, hc⟩
    subst ha
    obtain ⟨_, h3⟩ := h1
    rcases h3 with ⟨h3, _⟩ | ⟨g, cap, cur, h3, hb, _⟩
    · rw [e1] at h3; cases h3
    · rw [e1] at h3; cases h3; exact hb

theorem OwnT.lt {e : TypeId} {U : Nat → Prop} {w : World} {base : Nat} {v : Value} {l : List Tm} (h : OwnT e U w base v l) {g : Nat} (hg : v.ownBlock = some g) : base ≤ g ∧ g < w.heap.size := by
  obtain ⟨xs, h1, h2⟩ := h
  exact h1.lt g hg

theorem OwnT.bw {e : TypeId} {U : Nat → Prop} {w w' : World} {base : Nat} {v : Value} {l : List Tm} (h : OwnT e U w base v l) (hb : Below w.heap.size w w') : OwnT e U w' base v l := by
  obtain ⟨xs, h1, h2⟩ := h
  exact ⟨xs, ownsRow_below h1 hb (Nat.le_refl _), h2.below hb fun b _ h => h⟩

theorem OwnT.keep {e : TypeId} {U : Nat → Prop} {w w' : World} {base : Nat} {v : Value} {l : List Tm} (h : OwnT e U w base v l) (hU : ∀ b, U b → base ≤ b) (hs : ∀ b, base ≤ b → b < w.heap.size → w'.heap[b]? = w.heap[b]?) : OwnT e U w' base v l := by
  obtain ⟨xs, h1, h2⟩ := h
  refine ⟨xs, ?_, h2.keep fun b hb hlt => ⟨hb, hs b (hU b hb.1) hlt⟩⟩
  refine ⟨h1.1, ?_⟩
  rcases h1.2 with h3 | ⟨g, cap, cur, rfl, hg, hh, r⟩
  · exact .inl h3
  · exact .inr ⟨g, cap, cur, rfl, hg, (hs g hg (Array.getElem?_eq_some_iff.1 hh).1).trans hh, r⟩
theorem OwnT.mono {e : TypeId} {U V : Nat → Prop} {w : World} {base base' : Nat} {v : Value} {l : List Tm} (h : OwnT e U w base v l) (hb : base' ≤ base) (hU : ∀ b, U b → V b) : OwnT e V w base' v l := by
  obtain ⟨xs, h1, h2⟩ := h
  exact ⟨xs, ownsRow_mono h1 hb, h2.mono fun b hb _ => ⟨hU b hb.1, hb.2⟩⟩

/-- 'append(v, s)', s a term. -/
theorem app_tm {P : Program} {U : Nat → Prop} {w : World} {B : Nat} (hB : B ≤ w.heap.size) (t e : TypeId) (z : Value) (bytes : Nat) (ht : P.underlying t = some (.slice e)) (hi : (P.info? e).map (fun i => (i.zero, i.size, i.bytes)) = some (some z, 2, bytes)) (hzs : z.cells.size = 2) (hbt : bytes ≤ 1000)
    {v : Value} {l : List Tm} {s : Tm} {a : Option Addr} {n c : Nat} (h : OwnT e U w B v l) (hs : Tat (fun b => U b ∧ v.ownBlock ≠ some b) w s a n c) (hn : l.length ≤ 10000000000) :
    ∃ a' c' w', Sem.run P (Builtin.append_ #[t, t] t #[v, .slice (some ⟨w.heap.size, 0, none⟩) 1 1]) (w.alloc (.cells #[.int .i64 s.f, .slice a n c] e)) = .ok (.slice a' (l.length + 1) c') w' ∧ OwnT e U w' B (.slice a' (l.length + 1) c') (l ++ [s]) ∧ Below B w w' ∧ (∀ b, b < w.heap.size → v.ownBlock ≠ some b → w'.heap[b]? = w.heap[b]?) ∧ ∀ g, (Value.slice a' (l.length + 1) c').ownBlock = some g → v.ownBlock = some g ∨ w.heap.size ≤ g := by
  obtain ⟨xs, h1, h2⟩ := h
  obtain ⟨a', c', w', hr, ho, hb, hk, hv⟩ := app_one (P := P) hB t e z 2 bytes ht hi hzs (by decide) v l.length xs [.int .i64 s.f, .slice a n c] h1 rfl (by simp [Value.oneCell']) hn hbt
  have hkeep : ∀ b, (U b ∧ v.ownBlock ≠ some b) → b < w.heap.size → (U b ∧ (Value.slice a' (l.length + 1) c').ownBlock ≠ some b) ∧ w'.heap[b]? = w.heap[b]? := fun b h3 h4 => by
    refine ⟨⟨h3.1, fun e => ?_⟩, hk b h4 h3.2⟩
    rcases hv b e with e' | e'
    · exact h3.2 e'
    · omega
  refine ⟨a', c', w', hr, ⟨xs ++ [.int .i64 s.f, .slice a n c], ?_, (h2.keep hkeep).append (Ecs.single (hs.keep hkeep))⟩, hb, hk, hv⟩
  rw [List.length_append]
  exact ho
end Go.Proofs.Ytmdhefepaolhcaa
