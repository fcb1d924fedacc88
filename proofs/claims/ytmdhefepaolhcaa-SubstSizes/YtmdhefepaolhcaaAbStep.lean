/-
  A step of a region: what it reads, what it writes; the steps that leave memory as it is.
-/
import Derived.Test.YtmdhefepaolhcaaAbSim
namespace Go.Proofs.Ytmdhefepaolhcaa
open Go.RowKit
set_option linter.unusedVariables false
set_option linter.unusedSimpArgs false

def hasN (l : List Nat) (n : Nat) : Bool := l.any fun m => Nat.beq m n
theorem hasN_of {l : List Nat} {n : Nat} (h : n ∈ l) : hasN l n = true := List.any_eq_true.2 ⟨n, h, Nat.beq_refl n⟩
theorem hasN_mem {l : List Nat} {n : Nat} (h : hasN l n = true) : n ∈ l := by
  obtain ⟨m, h1, h2⟩ := List.any_eq_true.1 h
  rw [← Nat.eq_of_beq_eq_true h2]; exact h1
/-- The box that a field's key speaks of. -/
def fnm (k : Nat) : Nat := match Nat.ble 500000 k with | true => (k - 500000) / 100 | false => 100000
/-- The same, of another sort. -/
def fnm2 (k : Nat) : Nat := match Nat.ble 500000 k with | true => (k + 99500000) / 100 | false => 1100000
theorem fnm2_eq (k : Nat) : fnm2 k = fnm k + 1000000 := by
  cases e : Nat.ble 500000 k with
  | false =>
    have h1 : fnm2 k = 1100000 := by unfold fnm2; rw [e]
    have h2 : fnm k = 100000 := by unfold fnm; rw [e]
    omega
  | true =>
    have h1 : fnm2 k = (k + 99500000) / 100 := by unfold fnm2; rw [e]
    have h2 : fnm k = (k - 500000) / 100 := by unfold fnm; rw [e]
    have := Nat.le_of_ble_eq_true e
    omega
theorem fnm_key {n o : Nat} (h : o < 100) : fnm (fKey n o) = n := by
  unfold fnm fKey
  rw [Nat.ble_eq_true_of_le (by omega)]
  simp only
  omega
/-- Nothing that is known names n. -/
def NoRef (s : AS) (n : Nat) : Prop := ∀ k av, look s k = some av → av.n ≠ n ∧ fnm k ≠ n ∧ fnm k + 1000000 ≠ n
/-- But at these keys. -/
def NoRefE (s : AS) (q : Nat × List Nat) : Prop := ∀ k av, look s k = some av → hasN q.2 k = false → av.n ≠ q.1 ∧ fnm k ≠ q.1 ∧ fnm k + 1000000 ≠ q.1
theorem NoRefE.nr {s : AS} {n : Nat} (h : NoRefE s (n, [])) : NoRef s n := fun k av h1 => h k av h1 rfl

section
variable (P : Program) (w0 : World) (U0 : UX) (nt : Nat) (ops : Array Oper)

def Stp (o : Oper) (s e : AS) : Prop :=
  ∀ a w, Sim w0 U0 nt s a w → ∀ (Q : Exit → Act → World → Prop) (K : Act → World → Prop), (∀ a' w', Sim w0 U0 nt (e ++ s) a' w' → K a' w') →
    if Region.wanted o (yielded ops a.tmps) = true then o.wp P a w K Q else K (a.put o.dst undef) w

/-- Where R is as S tells, and nothing names N: this is written. -/
def AOp (o : Oper) (R : List Nat) (N : List (Nat × List Nat)) (S : Nat → Option AV) (e : AS) : Prop :=
  ∀ s, (∀ k ∈ R, look s k = S k) → (∀ q ∈ N, NoRefE s q) → Stp P w0 U0 nt ops o s e

/-- It is wanted. -/
def Gd (o : Oper) (gs : List Nat) (S : Nat → Option AV) : Prop :=
  ∀ s, (∀ k ∈ gs, look s k = S k) → ∀ a w D hv, SimG w0 U0 nt s a w D hv → Region.wanted o (yielded ops a.tmps) = true
def Go (o : Oper) (gs : List Nat) (S : Nat → Option AV) : Prop :=
  ∀ s, (∀ k ∈ gs, look s k = S k) → ∀ a w D hv, SimG w0 U0 nt s a w D hv → Region.wanted o (yielded ops a.tmps) = false
end

section
variable {P : Program} {w0 : World} {U0 : UX} {nt : Nat} {ops : Array Oper} {o : Oper} {S : Nat → Option AV} {gs : List Nat} {d : Nat}

theorem blt_lt {a b : Nat} (h : Nat.blt a b = true) : a < b := by simpa [Nat.blt_eq] using h

theorem gd_none (h : o.guard = none) : Gd w0 U0 nt ops o [] S := fun s _ a w D hv _ => by simp [Region.wanted, h]
theorem guard_val {j : Nat} {b : Bool} (hj : (ops[j]?).bind (·.dst) = some d) (h5 : Nat.blt d 100000 = true) {s : AS} (hs : look s d = some (.val (.b b))) {a : Act} {w : World} {D : Nat → Nat → Prop} {hv : Nat → Value} (h : SimG w0 U0 nt s a w D hv) : yielded ops a.tmps j = some b := by
  obtain ⟨v, h1, h2⟩ := h.slot d _ hs (blt_lt h5)
  have h3 : VRep (Us w0 U0 D) w (.b b) v := h2.1
  rw [vrep_sc] at h3
  simp [yielded, hj, h1, h3.1]
theorem gd_on {j : Nat} {b c : Bool} (hg : o.guard = some (j, b)) (hj : (ops[j]?).bind (·.dst) = some d) (h5 : Nat.blt d 100000 = true) (hS : S d = some (.val (.b c))) (hc : c = b) : Gd w0 U0 nt ops o [d] S := fun s hs a w D hv h => by
  subst hc
  have := guard_val hj h5 ((hs d (by simp)).trans hS) h
  simp [Region.wanted, hg, this]
theorem go_off {j : Nat} {b c : Bool} (hg : o.guard = some (j, c)) (hj : (ops[j]?).bind (·.dst) = some d) (h5 : Nat.blt d 100000 = true) (hS : S d = some (.val (.b b))) (hbc : b = !c) : Go w0 U0 nt ops o [d] S := fun s hs a w D hv h => by
  have := guard_val hj h5 ((hs d (by simp)).trans hS) h
  subst hbc
  simp only [Region.wanted, hg, this]
  cases c <;> rfl

/-- It is not done. -/
theorem a_off {d' : Nat} (hg : Go w0 U0 nt ops o gs S) (hd : o.dst = some d') (hn : Nat.blt d' nt = true) (h5 : Nat.blt d' 100000 = true) : AOp P w0 U0 nt ops o gs [] S [(d', .no)] := by
  intro s hs _ a w ⟨D, hv, h⟩ Q K hK
  rw [if_neg (by rw [hg s hs a w D hv h]; simp), hd]
  exact hK _ _ ⟨D, hv, h.put (blt_lt hn) (blt_lt h5) (by unfold AVRep; simp)⟩

/-- It makes a value and leaves memory as it is. -/
theorem aop_val {R : List Nat} {av : AV} (hg : Gd w0 U0 nt ops o gs S) (hd : o.dst = some d) (hn : Nat.blt d nt = true) (h5 : Nat.blt d 100000 = true) (hR : ∀ k ∈ gs, k ∈ R)
    (h : ∀ s, (∀ k ∈ R, look s k = S k) → ∀ a w D hv, SimG w0 U0 nt s a w D hv → ∃ v, (execOp a.eval o).run P w = .ok (.value v) w ∧ AVRep (Us w0 U0 D) w hv (LiveN s) av v) : AOp P w0 U0 nt ops o R [] S [(d, av)] := by
  intro s hs _ a w ⟨D, hv, hm⟩ Q K hK
  obtain ⟨v, h1, h2⟩ := h s hs a w D hv hm
  rw [if_pos (hg s (fun k hk => hs k (hR k hk)) a w D hv hm)]
  unfold Oper.wp
  rw [h1, Oper.upon_value, hd]
  exact hK _ _ ⟨D, hv, hm.put (blt_lt hn) (blt_lt h5) h2⟩

/-- A constant as a tree. -/
def cellCV (v : Value) : CV := match isNil v with | true => .lst [] | false => .sc v
def constCV : Value → CV
  | .agg cs => .row (cs.toList.map cellCV)
  | v => cellCV v
def plainV : Value → Bool
  | .slice none 0 0 => true
  | .slice _ _ _ | .agg _ | .tuple _ => false
  | _ => true
def plainC : Value → Bool
  | .agg cs => cs.toList.all plainV
  | v => plainV v
def constAV (v : Value) : Option AV := match plainC v with | true => some ⟨0, constCV v, (match isNil v with | true => 1 | false => 0), 0, []⟩ | false => none

theorem run_beq {P : Program} {t : TypeId} (hu : P.underlying t = some .bool) (i j : Bool) (w : World) : (Op.equal t (.bool i) (.bool j)).run P w = .ok (i == j) w := by
  unfold Op.equal
  rw [show Op.maxDepth = 9999 + 1 from rfl, Op.equalIn]
  simp [run_underlying hu]

/-- What an operand is. -/
def ev (S : Nat → Option AV) : Operand → Option AV
  | .tmp t => match Nat.blt t 100000 with | true => S t | false => none
  | .const v => constAV v
  | .func f => some (.val (.sc (.func (.func f) #[] #[])))
  | .global _ => none
def rd : Operand → List Nat
  | .tmp t => [t]
  | _ => []

theorem rep_nil (U : Nat → Nat → Prop) (w : World) : Rep U w (.lst []) [.slice none 0 0] := rep_lst.2 ⟨none, 0, 0, rfl, rfl, Nat.le_refl _, by unfold maxLen; omega, fun _ => ⟨rfl, rfl⟩, [], .inl rfl, rfl⟩
theorem rep_plain (U : Nat → Nat → Prop) (w : World) (v : Value) (h : plainV v = true) : Rep U w (cellCV v) [v] := by
  unfold plainV at h
  split at h
  · exact rep_nil U w
  · cases h
  · cases h
  · cases h
  · rename_i h1 h2 h3 h4
    have : isNil v = false := by unfold isNil; split <;> simp_all
    unfold cellCV
    rw [this]
    refine rep_sc.2 ⟨rfl, ?_⟩
    cases v <;> simp_all [Value.oneCell']
theorem sq_plain (U : Nat → Nat → Prop) (w : World) : ∀ (l : List Value), l.all plainV = true → Sq ((l.map cellCV).map fun c => Rep U w c) l
  | [], _ => rfl
  | v :: l, h => by
    rw [List.all_cons, Bool.and_eq_true] at h
    exact ⟨[v], l, rfl, rep_plain U w v h.1, sq_plain U w l h.2⟩
theorem cell_vrep {U : Nat → Nat → Prop} {w : World} {v : Value} (h : Rep U w (cellCV v) [v]) : VRep U w (cellCV v) v := by
  unfold VRep
  rw [if_neg]
  · exact h
  · unfold cellCV; split <;> simp
theorem vrep_const (U : Nat → Nat → Prop) (w : World) (v : Value) (h : plainC v = true) : VRep U w (constCV v) v := by
  cases v with
  | agg cs =>
    unfold constCV
    rw [vrep_row]
    exact ⟨cs.toList, by simp, sq_plain U w cs.toList h⟩
  | _ => exact cell_vrep (rep_plain U w _ h)

theorem not_live0 {s : AS} : ¬ LiveN s 0 := by
  rintro (h | ⟨e, h⟩)
  · cases h
  · exact absurd h.2 (by decide)
theorem ev_rep {s : AS} {a : Act} {w : World} {D : Nat → Nat → Prop} {hv : Nat → Value} (h : SimG w0 U0 nt s a w D hv) {x : Operand} {av : AV} (hs : ∀ k ∈ rd x, look s k = S k) (hx : ev S x = some av) : AVRep (Us w0 U0 D) w hv (LiveN s) av (a.eval x) := by
  cases x with
  | tmp t =>
    have hx : (match Nat.blt t 100000 with | true => S t | false => none) = some av := hx
    split at hx
    · rename_i hb
      obtain ⟨v, h1, h2⟩ := h.slot t av ((hs t (by simp [rd])).trans hx) (blt_lt hb)
      have : a.eval (.tmp t) = v := by simp [Act.eval, h1]
      rw [this]; exact h2
    · cases hx
  | const v =>
    have hx : constAV v = some av := hx
    unfold constAV at hx
    split at hx
    · rename_i hp
      cases hx
      refine ⟨vrep_const _ _ v hp, fun h1 => ?_⟩
      cases hv : isNil v with
      | true =>
        simp only [hv]
        refine ⟨0, constCV v, by simp [CV.at], ?_⟩
        unfold isNil at hv
        split at hv
        · simp [Value.cells, tokv, Act.eval]
        · cases hv
      | false => simp only [hv] at h1; exact absurd h1 not_live0
    · cases hx
  | func f =>
    cases hx
    exact ⟨vrep_sc.2 ⟨rfl, rfl⟩, fun h1 => absurd h1 not_live0⟩
  | global g => cases hx

theorem ev_val {s : AS} {a : Act} {w : World} {D : Nat → Nat → Prop} {hv : Nat → Value} (h : SimG w0 U0 nt s a w D hv) {x : Operand} {c : CV} {n o p} (hs : ∀ k ∈ rd x, look s k = S k) (hx : ev S x = some ⟨0, c, n, o, p⟩) : VRep (Us w0 U0 D) w c (a.eval x) := (ev_rep h hs hx).1
theorem ev_sc {s : AS} {a : Act} {w : World} {D : Nat → Nat → Prop} {hv : Nat → Value} (h : SimG w0 U0 nt s a w D hv) {x : Operand} {v : Value} {n o p} (hs : ∀ k ∈ rd x, look s k = S k) (hx : ev S x = some ⟨0, .sc v, n, o, p⟩) : a.eval x = v := (vrep_sc.1 (ev_val h hs hx)).1
theorem avrep_sc {U : Nat → Nat → Prop} {w : World} {hv : Nat → Value} {s : AS} {v : Value} (h : v.oneCell' = true) : AVRep U w hv (LiveN s) (.val (.sc v)) v :=
  ⟨vrep_sc.2 ⟨rfl, h⟩, fun h1 => absurd h1 not_live0⟩
theorem avrep_val {U : Nat → Nat → Prop} {w : World} {hv : Nat → Value} {s : AS} {c : CV} {v : Value} (h : VRep U w c v) : AVRep U w hv (LiveN s) (.val c) v :=
  ⟨h, fun h1 => absurd h1 not_live0⟩

section
variable (hg : Gd w0 U0 nt ops o gs S) (hd : o.dst = some d) (hn : Nat.blt d nt = true) (h5 : Nat.blt d 100000 = true)
include hg hd hn h5

theorem a_move {x : Operand} {av : AV} (ho : o.op = .move x) (hx : ev S x = some av) : AOp P w0 U0 nt ops o (gs ++ rd x) [] S [(d, av)] :=
  aop_val hg hd hn h5 (fun k hk => List.mem_append_left _ hk) fun s hs a w D hv hm =>
    ⟨a.eval x, by simp [execOp, ho], ev_rep hm (fun k hk => hs k (List.mem_append_right _ hk)) hx⟩
theorem a_assign {x : Operand} {av : AV} (ho : o.op = .assign x) (hx : ev S x = some av) : AOp P w0 U0 nt ops o (gs ++ rd x) [] S [(d, av)] :=
  aop_val hg hd hn h5 (fun k hk => List.mem_append_left _ hk) fun s hs a w D hv hm =>
    ⟨a.eval x, by simp [execOp, ho], ev_rep hm (fun k hk => hs k (List.mem_append_right _ hk)) hx⟩
theorem a_pick {c x y : Operand} {b : Bool} {av : AV} {n q p} (ho : o.op = .pick c x y) (hc : ev S c = some ⟨0, .b b, n, q, p⟩) (hx : ev S (bif b then x else y) = some av) : AOp P w0 U0 nt ops o (gs ++ (rd c ++ (rd x ++ rd y))) [] S [(d, av)] :=
  aop_val hg hd hn h5 (fun k hk => List.mem_append_left _ hk) fun s hs a w D hv hm => by
    have h1 := ev_sc hm (fun k hk => hs k (List.mem_append_right _ (List.mem_append_left _ hk))) hc
    refine ⟨a.eval (bif b then x else y), ?_, ev_rep hm (fun k hk => hs k (List.mem_append_right _ (List.mem_append_right _ ?_))) hx⟩
    · generalize a.eval = ρ at h1 ⊢
      cases b <;> simp [execOp, ho, h1, asBool, go_sem]
    · cases b
      · exact List.mem_append_right _ hk
      · exact List.mem_append_left _ hk
theorem a_pick_t {c x y : Operand} {b : Bool} {av : AV} {n q p} (ho : o.op = .pick c x y) (hc : ev S c = some ⟨0, .b b, n, q, p⟩) (hb : b = true) (hx : ev S x = some av) : AOp P w0 U0 nt ops o (gs ++ (rd c ++ (rd x ++ rd y))) [] S [(d, av)] := a_pick hg hd hn h5 ho hc (by rw [hb]; exact hx)
theorem a_pick_f {c x y : Operand} {b : Bool} {av : AV} {n q p} (ho : o.op = .pick c x y) (hc : ev S c = some ⟨0, .b b, n, q, p⟩) (hb : b = false) (hx : ev S y = some av) : AOp P w0 U0 nt ops o (gs ++ (rd c ++ (rd x ++ rd y))) [] S [(d, av)] := a_pick hg hd hn h5 ho hc (by rw [hb]; exact hx)
theorem a_not {x : Operand} {b : Bool} {ty : TypeId} {n q p} (ho : o.op = .unOp .not ty x) (hx : ev S x = some ⟨0, .b b, n, q, p⟩) : AOp P w0 U0 nt ops o (gs ++ rd x) [] S [(d, .val (.b (!b)))] :=
  aop_val hg hd hn h5 (fun k hk => List.mem_append_left _ hk) fun s hs a w D hv hm => by
    have h1 := ev_sc hm (fun k hk => hs k (List.mem_append_right _ hk)) hx
    generalize a.eval = ρ at h1 ⊢
    exact ⟨.bool !b, by simp [execOp, ho, h1, Op.unary, go_sem], avrep_sc rfl⟩

/-- An operation on two ints. -/
theorem aop_int2 {x y : Operand} {op : BinOp} {t1 t2 : TypeId} {k : IntKind} {i j : Int} {n q p n' q' p'} {r : Value} (ho : o.op = .binOp op t1 x y t2) (hx : ev S x = some ⟨0, .sc (.int k i), n, q, p⟩) (hy : ev S y = some ⟨0, .sc (.int k j), n', q', p'⟩) (hr : ∀ w, (binOp op t1 (.int k i) (.int k j)).run P w = .ok r w) (h1 : r.oneCell' = true) : AOp P w0 U0 nt ops o (gs ++ (rd x ++ rd y)) [] S [(d, .val (.sc r))] :=
  aop_val hg hd hn h5 (fun k hk => List.mem_append_left _ hk) fun s hs a w D hv hm => by
    have e1 := ev_sc hm (fun k hk => hs k (List.mem_append_right _ (List.mem_append_left _ hk))) hx
    have e2 := ev_sc hm (fun k hk => hs k (List.mem_append_right _ (List.mem_append_right _ hk))) hy
    refine ⟨r, ?_, avrep_sc h1⟩
    have := hr w
    generalize a.eval = ρ at e1 e2 ⊢
    cases op <;> simp [binOp, go_sem] at this <;> simp [execOp, ho, e1, e2, eqGuard, binOp, this, go_sem]

theorem a_add {x y : Operand} {t1 t2 : TypeId} {i j : Int} {n q p n' q' p'} (ho : o.op = .binOp .add t1 x y t2) (hx : ev S x = some ⟨0, .i i, n, q, p⟩) (hy : ev S y = some ⟨0, .i j, n', q', p'⟩) (hr : -9223372036854775808 ≤ i + j ∧ i + j ≤ 9223372036854775807) : AOp P w0 U0 nt ops o (gs ++ (rd x ++ rd y)) [] S [(d, .val (.i (i + j)))] :=
  aop_int2 hg hd hn h5 ho hx hy (fun w => by have : IntKind.i64.wrap (i + j) = i + j := by rw [IntKind.wrap_i64]; omega
                                             simp [binOp, Op.intArith, this, go_sem]) rfl
theorem a_sub {x y : Operand} {t1 t2 : TypeId} {i j : Int} {n q p n' q' p'} (ho : o.op = .binOp .sub t1 x y t2) (hx : ev S x = some ⟨0, .i i, n, q, p⟩) (hy : ev S y = some ⟨0, .i j, n', q', p'⟩) (hr : -9223372036854775808 ≤ i - j ∧ i - j ≤ 9223372036854775807) : AOp P w0 U0 nt ops o (gs ++ (rd x ++ rd y)) [] S [(d, .val (.i (i - j)))] :=
  aop_int2 hg hd hn h5 ho hx hy (fun w => by have : IntKind.i64.wrap (i - j) = i - j := by rw [IntKind.wrap_i64]; omega
                                             simp [binOp, Op.intArith, this, go_sem]) rfl
theorem a_mul {x y : Operand} {t1 t2 : TypeId} {i j : Int} {n q p n' q' p'} (ho : o.op = .binOp .mul t1 x y t2) (hx : ev S x = some ⟨0, .i i, n, q, p⟩) (hy : ev S y = some ⟨0, .i j, n', q', p'⟩) (hr : -9223372036854775808 ≤ i * j ∧ i * j ≤ 9223372036854775807) : AOp P w0 U0 nt ops o (gs ++ (rd x ++ rd y)) [] S [(d, .val (.i (i * j)))] :=
  aop_int2 hg hd hn h5 ho hx hy (fun w => by have : IntKind.i64.wrap (i * j) = i * j := by rw [IntKind.wrap_i64]; omega
                                             simp [binOp, Op.intArith, this, go_sem]) rfl
theorem a_rem {x y : Operand} {t1 t2 : TypeId} {k : IntKind} {i j : Int} {n q p n' q' p'} (ho : o.op = .binOp .rem t1 x y t2) (hx : ev S x = some ⟨0, .sc (.int k i), n, q, p⟩) (hy : ev S y = some ⟨0, .sc (.int k j), n', q', p'⟩) (hr : j ≠ 0) : AOp P w0 U0 nt ops o (gs ++ (rd x ++ rd y)) [] S [(d, .val (.sc (.int k (i.tmod j))))] :=
  aop_int2 hg hd hn h5 ho hx hy (fun w => by simp [binOp, Op.intDiv, hr, go_sem]) rfl
theorem a_eql {x y : Operand} {t1 t2 : TypeId} {k : IntKind} {i j : Int} {n q p n' q' p'} (ho : o.op = .binOp .eql t1 x y t2) (hx : ev S x = some ⟨0, .sc (.int k i), n, q, p⟩) (hy : ev S y = some ⟨0, .sc (.int k j), n', q', p'⟩) : AOp P w0 U0 nt ops o (gs ++ (rd x ++ rd y)) [] S [(d, .val (.b (decide (i = j))))] :=
  aop_int2 hg hd hn h5 ho hx hy (fun w => by simp [binOp, Op.intCmp, go_sem]; first | rfl | exact (by cases h : decide (i = j) <;> simp_all)) rfl
theorem a_neq {x y : Operand} {t1 t2 : TypeId} {k : IntKind} {i j : Int} {n q p n' q' p'} (ho : o.op = .binOp .neq t1 x y t2) (hx : ev S x = some ⟨0, .sc (.int k i), n, q, p⟩) (hy : ev S y = some ⟨0, .sc (.int k j), n', q', p'⟩) : AOp P w0 U0 nt ops o (gs ++ (rd x ++ rd y)) [] S [(d, .val (.b (decide (i ≠ j))))] :=
  aop_int2 hg hd hn h5 ho hx hy (fun w => by by_cases h : i = j <;> simp [binOp, Op.intCmp, go_sem, h]) rfl
theorem a_lss {x y : Operand} {t1 t2 : TypeId} {k : IntKind} {i j : Int} {n q p n' q' p'} (ho : o.op = .binOp .lss t1 x y t2) (hx : ev S x = some ⟨0, .sc (.int k i), n, q, p⟩) (hy : ev S y = some ⟨0, .sc (.int k j), n', q', p'⟩) : AOp P w0 U0 nt ops o (gs ++ (rd x ++ rd y)) [] S [(d, .val (.b (decide (i < j))))] :=
  aop_int2 hg hd hn h5 ho hx hy (fun w => by simp [binOp, Op.intCmp, go_sem]) rfl
theorem a_leq {x y : Operand} {t1 t2 : TypeId} {k : IntKind} {i j : Int} {n q p n' q' p'} (ho : o.op = .binOp .leq t1 x y t2) (hx : ev S x = some ⟨0, .sc (.int k i), n, q, p⟩) (hy : ev S y = some ⟨0, .sc (.int k j), n', q', p'⟩) : AOp P w0 U0 nt ops o (gs ++ (rd x ++ rd y)) [] S [(d, .val (.b (decide (i ≤ j))))] :=
  aop_int2 hg hd hn h5 ho hx hy (fun w => by simp [binOp, Op.intCmp, go_sem]) rfl
theorem a_gtr {x y : Operand} {t1 t2 : TypeId} {k : IntKind} {i j : Int} {n q p n' q' p'} (ho : o.op = .binOp .gtr t1 x y t2) (hx : ev S x = some ⟨0, .sc (.int k i), n, q, p⟩) (hy : ev S y = some ⟨0, .sc (.int k j), n', q', p'⟩) : AOp P w0 U0 nt ops o (gs ++ (rd x ++ rd y)) [] S [(d, .val (.b (decide (i > j))))] :=
  aop_int2 hg hd hn h5 ho hx hy (fun w => by simp [binOp, Op.intCmp, go_sem]) rfl
theorem a_geq {x y : Operand} {t1 t2 : TypeId} {k : IntKind} {i j : Int} {n q p n' q' p'} (ho : o.op = .binOp .geq t1 x y t2) (hx : ev S x = some ⟨0, .sc (.int k i), n, q, p⟩) (hy : ev S y = some ⟨0, .sc (.int k j), n', q', p'⟩) : AOp P w0 U0 nt ops o (gs ++ (rd x ++ rd y)) [] S [(d, .val (.b (decide (i ≥ j))))] :=
  aop_int2 hg hd hn h5 ho hx hy (fun w => by simp [binOp, Op.intCmp, go_sem]) rfl
/-- Two bools. -/
theorem a_beq {x y : Operand} {t1 t2 : TypeId} {i j : Bool} {n q p n' q' p'} (ho : o.op = .binOp .eql t1 x y t2) (hu : P.underlying t1 = some .bool) (hx : ev S x = some ⟨0, .b i, n, q, p⟩) (hy : ev S y = some ⟨0, .b j, n', q', p'⟩) : AOp P w0 U0 nt ops o (gs ++ (rd x ++ rd y)) [] S [(d, .val (.b (i == j)))] :=
  aop_val hg hd hn h5 (fun k hk => List.mem_append_left _ hk) fun s hs a w D hv hm => by
    have e1 := ev_sc hm (fun k hk => hs k (List.mem_append_right _ (List.mem_append_left _ hk))) hx
    have e2 := ev_sc hm (fun k hk => hs k (List.mem_append_right _ (List.mem_append_right _ hk))) hy
    refine ⟨.bool (i == j), ?_, avrep_sc rfl⟩
    generalize a.eval = ρ at e1 e2 ⊢
    have hb := run_beq hu i j w
    simp [execOp, ho, e1, e2, eqGuard, binOp, hb]
theorem a_bne {x y : Operand} {t1 t2 : TypeId} {i j : Bool} {n q p n' q' p'} (ho : o.op = .binOp .neq t1 x y t2) (hu : P.underlying t1 = some .bool) (hx : ev S x = some ⟨0, .b i, n, q, p⟩) (hy : ev S y = some ⟨0, .b j, n', q', p'⟩) : AOp P w0 U0 nt ops o (gs ++ (rd x ++ rd y)) [] S [(d, .val (.b (i != j)))] :=
  aop_val hg hd hn h5 (fun k hk => List.mem_append_left _ hk) fun s hs a w D hv hm => by
    have e1 := ev_sc hm (fun k hk => hs k (List.mem_append_right _ (List.mem_append_left _ hk))) hx
    have e2 := ev_sc hm (fun k hk => hs k (List.mem_append_right _ (List.mem_append_right _ hk))) hy
    refine ⟨.bool (i != j), ?_, avrep_sc rfl⟩
    generalize a.eval = ρ at e1 e2 ⊢
    have hb := run_beq hu i j w
    simp [execOp, ho, e1, e2, eqGuard, binOp, hb]
    cases i <;> cases j <;> rfl
/-- An int as another kind of int. -/
theorem a_conv {x : Operand} {src dst : TypeId} {k k' : IntKind} {i : Int} {ds : TypeDesc} {n q p} (ho : o.op = .convert src dst x) (hs1 : P.underlying src = some ds) (hu : P.underlying dst = some (.int k')) (hx : ev S x = some ⟨0, .sc (.int k i), n, q, p⟩) (hw : k'.wrap i = i) : AOp P w0 U0 nt ops o (gs ++ rd x) [] S [(d, .val (.sc (.int k' i)))] :=
  aop_val hg hd hn h5 (fun k hk => List.mem_append_left _ hk) fun s hs a w D hv hm => by
    have e1 := ev_sc hm (fun k hk => hs k (List.mem_append_right _ hk)) hx
    refine ⟨.int k' i, ?_, avrep_sc rfl⟩
    generalize a.eval = ρ at e1 ⊢
    simp [execOp, ho, e1, convert, Conv.intToInt, run_underlying hs1, run_underlying hu, hw, go_sem]
/-- The length of a slice. -/
theorem a_len {x : Operand} {t e : TypeId} {ts : Array TypeId} {l : List CV} {n q p} (ho : o.op = .call { callee := .builtin .len, args := #[x], argTypes := ts }) (ht : ts[0]? = some t) (hu : P.underlying t = some (.slice e)) (hx : ev S x = some ⟨0, .lst l, n, q, p⟩) : AOp P w0 U0 nt ops o (gs ++ rd x) [] S [(d, .val (.i l.length))] :=
  aop_val hg hd hn h5 (fun k hk => List.mem_append_left _ hk) fun s hs a w D hv hm => by
    obtain ⟨b, m, c, h1, h2, _⟩ := vrep_lst.1 (ev_val hm (fun k hk => hs k (List.mem_append_right _ hk)) hx)
    refine ⟨.int .i64 l.length, ?_, avrep_sc rfl⟩
    generalize a.eval = ρ at h1 ⊢
    simp [execOp, ho, resolve, invoke, builtin, Builtin.len_, ht, h1, h2, goInt, run_underlying hu, go_sem]
end
end
end Go.Proofs.Ytmdhefepaolhcaa
