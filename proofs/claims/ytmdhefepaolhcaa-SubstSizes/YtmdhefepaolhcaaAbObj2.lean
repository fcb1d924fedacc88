/-
  Rows that may be written: append, clear; a row that is no more written.
-/
import Derived.Test.YtmdhefepaolhcaaAbCall
namespace Go.Proofs.Ytmdhefepaolhcaa
open Go.RowKit
set_option linter.unusedVariables false
set_option linter.unusedSimpArgs false

/-- The zero value as a tree. -/
def zeroT (P : Program) (e : TypeId) : Option CV := match P.info? e with
  | some it => match it.zero with
    | some (.agg cs) => match P.underlying e with
      | some (.struct fs) => match szO P fs.toList 0 with
        | some sz => match zsO sz cs.toList with | some zs => some (.row zs) | none => none
        | none => none
      | _ => none
    | some v => match plainV v with | true => some (cellCV v) | false => none
    | none => none
  | none => none
theorem zeroT_spec {P : Program} {e : TypeId} {c : CV} (h : zeroT P e = some c) : ∃ it z, P.info? e = some it ∧ it.zero = some z ∧ ∀ U w, Rep U w c z.cells.toList := by
  unfold zeroT at h
  split at h
  · rename_i it hi
    split at h
    · rename_i cs hz
      refine ⟨it, _, hi, hz, fun U w => ?_⟩
      split at h
      · split at h
        · split at h
          · rename_i zs h0
            cases h
            obtain ⟨segs, e1, e2, e3, e4, e5⟩ := zsO_spec (U := U) (w := w) h0
            rw [rep_row]
            show Sq _ cs.toList
            rw [← e1]
            exact sq_of_segs e4 (fun i c hi => by obtain ⟨seg, f1, f2, _⟩ := e5 i c hi; exact ⟨seg, f1, f2⟩)
          · cases h
        · cases h
      · cases h
    · rename_i v hz hv
      refine ⟨it, _, hi, hv, fun U w => ?_⟩
      split at h
      · rename_i hp
        cases h
        have := rep_plain U w v hp
        have hc : v.cells = #[v] := by
          cases v with
          | agg cs => exact absurd rfl (hz cs)
          | _ => rfl
        rw [hc]
        exact this
      · cases h
    · cases h
  · cases h

section
variable {P : Program} {w0 : World} {U0 : UX} {nt : Nat} {ops : Array Oper} {o : Oper} {S : Nat → Option AV} {gs : List Nat} {d : Nat} {s : AS} {a : Act} {w : World} {D : Nat → Nat → Prop} {hv : Nat → Value}

theorem sq_repl {U : Nat → Nat → Prop} {c : CV} {xs : List Value} (h : Rep U w c xs) : ∀ k, Sq ((List.replicate k c).map fun c => Rep U w c) (List.replicate k xs).flatten
  | 0 => rfl
  | k + 1 => ⟨_, _, rfl, h, sq_repl h k⟩
theorem slV_all {v : Value} {k cap : Nat} {ao : Option Addr} {z : Nat} (h : v = .slice ao k cap) (hk : k ≤ cap) (hg : ao = none ∨ ∃ g, ao = some ⟨g, 0, none⟩) : SlV v 0 k z v := by
  refine ⟨ao, k, cap, ao, h, by rw [h]; rfl, by omega, fun _ => rfl, fun _ g e => by rw [Nat.zero_mul]; exact e, Iff.rfl⟩
theorem own_addr {e z : Nat} {v : Value} {k : Nat} {xs : List Value} (h : w.ownsRow 0 e z v k xs) : ∃ ao cap, v = .slice ao k cap ∧ k ≤ cap ∧ (ao = none ∨ ∃ g, ao = some ⟨g, 0, none⟩) := by
  rcases h.2 with ⟨rfl, rfl⟩ | ⟨g, cap, cur, rfl, _, h3, h4, h5, h6, h7⟩
  · exact ⟨none, 0, rfl, Nat.le_refl _, .inl rfl⟩
  · exact ⟨_, cap, rfl, h4, .inr ⟨g, rfl⟩⟩

/-- The law of append, to a row that may be written. -/
theorem appLawM {Q : Exit → Act → World → Prop} {K : Act → World → Prop} (h : SimG w0 U0 nt s a w D hv) {n e size bytes : Nat} {z : Value} {t : TypeId} (hd : o.dst = some d) (hdn : d < nt) (h5 : d < 100000) (hn : RW n) (hr : NoRef s n) {x y : Operand} (ho : o.op = .call { callee := .builtin .append, args := #[x, y], argTypes := #[t, t] })
    (ht : P.underlying t = some (.slice e)) (hi : (P.info? e).map (fun i => (i.zero, i.size, i.bytes)) = some (some z, size, bytes)) (hzs : z.cells.size = size) (hsz : 0 < size) (hbt : bytes ≤ 1000)
    {l l2 : List CV} (hl : ∀ c ∈ l, c.size = size) (hl2 : ∀ c ∈ l2, c.size = size) (hbd : l.length + l2.length ≤ 100000000000)
    {v : Value} (hx : a.eval x = v) (hy : VRep (Us w0 U0 D) w (.lst l2) (a.eval y)) {xs : List Value} (hown : w.ownsRow 0 e size v l.length xs) (hsq : Sq (l.map fun c => Rep (Us w0 U0 D) w c) xs)
    (hroom : ∀ g, v.ownBlock = some g → Mn w0 U0 (lcl n (.mrow e size (l ++ l2))) g ∧ (∀ o, ¬ D g o) ∧ ∀ q av, look s q = some av → oKey q → av.t ≠ 7 → q ≠ n → hb (hv q) ≠ some g)
    (hK : ∀ a' w', Sim w0 U0 nt ((d, .sl n 0 (l.length + l2.length) size) :: (n, .mrow e size (l ++ l2)) :: s) a' w' → K a' w') : o.wp P a w K Q := by
  obtain ⟨ao2, m, c2, g1, g2, g3, g4, g6, ys2, g7, g8⟩ := vrep_lst.1 hy
  have hyl2 : ys2.length = m * size := by rw [sq_len (n := CV.size) (fun c _ xs h => h.len) g8, sum_const hl2, g2]
  have hmul : (l.length + m) * bytes ≤ 100000000000 * 1000 := Nat.mul_le_mul (by omega) hbt
  obtain ⟨v', w', r1, r2, r3, r4⟩ := run_app (P := P) (ty := o.type) ht hi hzs hsz (Nat.zero_le _) hown g6 g7 hyl2 (rep_one_of g8) (by unfold maxLen; omega) (by omega)
  have hvs : ∀ {u : Value} {k xs} {w : World}, w.ownsRow 0 e size u k xs → hb u = u.ownBlock := fun {u k xs w} h1 => by
    rcases h1.2 with ⟨rfl, rfl⟩ | ⟨g, cap, cur, rfl, _⟩ <;> rfl
  have hb2 := hvs r2
  have hkp : ∀ b o u, Us w0 U0 D b o → w.cell? ⟨b, o, none⟩ = some u → Us w0 U0 D b o ∧ w'.cell? ⟨b, o, none⟩ = some u := fun b o u hu hc => by
    refine ⟨hu, ?_⟩
    have hlt : b < w.heap.size := World.block_lt_of_cell? w _ hc
    have hnb : some b ≠ v.ownBlock := fun e => by
      obtain ⟨f1, f2, _⟩ := hroom b e.symm
      exact us_ne hu f1 (f2 o) rfl
    rw [World.cell?_of_block (w := w) (r3.block b hlt hnb)]
    exact hc
  have hG := h.newrow (avn := .mrow e size (l ++ l2)) (v' := v') (D' := D) (X := fun b => v.ownBlock = some b) hn hr (by simp) ⟨r3.os, r3.tape, r3.output, r3.size, fun b hb hx => r3.block b hb fun e => hx e.symm⟩ (fun b hb => ⟨(hroom b hb).1, (hroom b hb).2.2⟩) (fun g hg => by
      rw [hb2] at hg
      refine ⟨?_, (r2.lt g hg).2, fun o _ hd => ?_⟩
      · rcases r4 with r4 | ⟨_, r4⟩
        · exact .inl (r4 ▸ hg)
        · exact .inr (r4 g hg)
      · rcases r4 with r4 | ⟨_, r4⟩
        · exact (hroom g (r4 ▸ hg)).2.1 o hd
        · have := r4 g hg
          have := h.dlt _ _ hd
          omega) (fun b o hd => .inl hd) (fun b o hd => Nat.lt_of_lt_of_le (h.dlt _ _ hd) r3.size) hkp (fun hv lv => by
      refine ⟨xs ++ ys2, ?_, hsz, fun c hc => ?_, ?_⟩
      · show w'.ownsRow 0 e size v' (l ++ l2).length (xs ++ ys2)
        rw [List.length_append, ← g2]
        exact r2
      · rcases List.mem_append.1 hc with hc | hc
        · exact hl c hc
        · exact hl2 c hc
      · show Sq ((l ++ l2).map _) _
        rw [List.map_append]
        exact sq_append (Sq.keep hkp hsq) (Sq.keep hkp g8))
  have he : (execOp a.eval o).run P w = .ok (.value v') w' := by
    generalize a.eval = ρ at hx g1 ⊢
    simp [execOp, ho, resolve, invoke, builtin, hx, g1, r1, Result.andThen]
  unfold Oper.wp
  rw [he, Oper.upon_value, hd]
  refine hK _ _ ⟨_, _, hG.put hdn h5 ?_⟩
  refine ⟨hn.rn, ?_⟩
  obtain ⟨a1, c1, e1, e2, e3⟩ := own_addr r2
  have := slV_all (z := size) e1 e2 e3
  show SlV ((fun x => if x = n then v' else hv x) n) 0 (l.length + l2.length) size v'
  simp only [if_true]
  rw [← g2]
  exact this

/-- Append to what is empty: a row that may be written. -/
theorem a_app0M (nn : Nat) (hg : Gd w0 U0 nt ops o gs S) (hd : o.dst = some d) (hn : Nat.blt d nt = true) (h5 : Nat.blt d 100000 = true) {x y : Operand} {t e size bytes : Nat} {z : Value} {l2 : List CV} {n q n2 q2 p2} (ho : o.op = .call { callee := .builtin .append, args := #[x, y], argTypes := #[t, t] }) (ht : P.underlying t = some (.slice e)) (hi : (P.info? e).map (fun i => (i.zero, i.size, i.bytes)) = some (some z, size, bytes)) (hzs : Nat.beq z.cells.size size = true) (hsz : Nat.blt 0 size = true) (hbt : Nat.ble bytes 1000 = true)
    (hx : ev S x = some ⟨0, .lst [], n, q, []⟩) (hy : ev S y = some ⟨0, .lst l2, n2, q2, p2⟩) (hnn : (Nat.ble 200000 n && Nat.blt n 400000) = true) (hn2 : (Nat.ble 200000 nn && Nat.blt nn 400000) = true) (hne : Nat.beq n nn = false) (hlv : S n = some (.tok e size)) (hl2 : ∀ c ∈ l2, c.size = size) (hbd : l2.length ≤ 100000000000) :
    AOp P w0 U0 nt ops o (gs ++ (rd x ++ (rd y ++ [n]))) [(nn, [])] S [(d, .sl nn 0 l2.length size), (nn, .mrow e size l2), (n, .no)] := by
  intro s hs hN a w ⟨D, hv, h⟩ Q K hK
  rw [if_pos (hg s (fun k hk => hs k (List.mem_append_left _ hk)) a w D hv h)]
  obtain ⟨h1, h2⟩ : VRep (Us w0 U0 D) w (.lst []) (a.eval x) ∧ Tk hv (LiveN s) ⟨0, .lst [], n, q, []⟩ (a.eval x).cells.toList := ev_rep h (fun k hk => hs k (List.mem_append_right _ (List.mem_append_left _ hk))) hx
  have h3 := ev_val h (fun k hk => hs k (List.mem_append_right _ (List.mem_append_right _ (List.mem_append_left _ hk)))) hy
  have hrn := rnB hnn
  have hrn2 := rnB hn2
  have hok : oKey n := ⟨by omega, by omega⟩
  have hlk := (hs n (by simp)).trans hlv
  have hlive : Live s n (e, size) := ⟨hlk, hrn.1, hrn.2⟩
  have hval : a.eval x = hv n := by
    obtain ⟨m, c, g1, g2⟩ := h2 (.inr ⟨_, hlive⟩)
    simp only at g1
    rw [at_nil] at g1
    cases g1
    obtain ⟨ao, k, c, e1, _⟩ := vrep_lst.1 h1
    unfold tokv at g2
    rw [if_neg (by show n ≠ 1; omega)] at g2
    rw [e1] at g2 ⊢
    simpa [Value.cells] using g2
  obtain ⟨k, xs, g1, g2⟩ : ∃ k xs, w.ownsRow 0 e size (hv n) k xs ∧ 0 < size := h.obj n _ hlk hok
  have hvs : hb (hv n) = (hv n).ownBlock ∧ lenOf (hv n) = k := by
    rcases g1.2 with ⟨e1, e2⟩ | ⟨g, cap, cur, e1, _⟩
    · rw [e1, e2]; exact ⟨rfl, rfl⟩
    · rw [e1]; exact ⟨rfl, rfl⟩
  have hk0 : k = 0 := by
    obtain ⟨ao, k', c, e1, e2, _⟩ := vrep_lst.1 h1
    rw [hval] at e1
    rw [e1] at hvs
    have : k' = k := hvs.2
    rw [← this, e2]; rfl
  subst hk0
  have hx0 : xs = [] := List.eq_nil_of_length_eq_zero (by simpa using g1.1)
  subst hx0
  have hne' : n ≠ nn := fun e => by rw [e, Nat.beq_refl] at hne; cases hne
  refine appLawM (l := []) (n := nn) (h.kill hok) hd (blt_lt hn) (blt_lt h5) hrn2 (fun k av hk => ?_) ho ht hi (Nat.eq_of_beq_eq_true hzs) (blt_lt hsz) (Nat.le_of_ble_eq_true hbt) (fun c hc => by cases hc) hl2 (by simpa using hbd) hval h3 g1 rfl (fun g hg => ?_) (fun a' w' hs' => hK a' w' ?_)
  · by_cases e : n = k
    · subst e
      rw [look_same] at hk
      cases hk
      refine ⟨by show 0 ≠ _; omega, ?_⟩
      have hfn : fnm n = 100000 := by
        unfold fnm
        have : Nat.ble 500000 n = false := by
          cases hb : Nat.ble 500000 n with
          | false => rfl
          | true => have := Nat.le_of_ble_eq_true hb; omega
        rw [this]
      rw [hfn]
      omega
    · rw [look_ne e] at hk; exact (hN (nn, []) (by simp)).nr k av hk
  · rw [← hvs.1] at hg
    obtain ⟨f1, f2, f3⟩ := h.blk n _ g hlk hok (by simp) hg
    rw [lcl_tok rfl] at f1
    refine ⟨?_, fun o => f3 o fun _ => ?_, fun q av h6 h7 h8 h9 => ?_⟩
    · rcases f1 with f1 | f1
      · exact .inl f1
      · exact absurd rfl f1.1
    · rw [hvs.2]; simp
    · have hq : n ≠ q := fun e => by subst e; rw [look_same] at h6; cases h6; exact h8 rfl
      rw [look_ne hq] at h6
      exact h.disj n q _ av g hlk h6 hok h7 (by simp) h8 hq hg
  · simpa using hs'
/-- Append to a row that may be written. -/
theorem a_appM (nn : Nat) (hg : Gd w0 U0 nt ops o gs S) (hd : o.dst = some d) (hn : Nat.blt d nt = true) (h5 : Nat.blt d 100000 = true) {x y : Operand} {t e size bytes : Nat} {z : Value} {l l2 : List CV} {n len n2 q2 p2} (ho : o.op = .call { callee := .builtin .append, args := #[x, y], argTypes := #[t, t] }) (ht : P.underlying t = some (.slice e)) (hi : (P.info? e).map (fun i => (i.zero, i.size, i.bytes)) = some (some z, size, bytes)) (hzs : Nat.beq z.cells.size size = true) (hbt : Nat.ble bytes 1000 = true)
    (hx : ev S x = some (.sl n 0 len size)) (hy : ev S y = some ⟨0, .lst l2, n2, q2, p2⟩) (hn2 : (Nat.ble 200000 nn && Nat.blt nn 400000) = true) (hne : (!Nat.beq n nn && (Nat.blt n 300000 || Nat.ble 300000 nn)) = true) (hlv : S n = some (.mrow e size l)) (hlen : len = l.length) (hl2 : ∀ c ∈ l2, c.size = size) (hbd : l.length + l2.length ≤ 100000000000) :
    AOp P w0 U0 nt ops o (gs ++ (rd x ++ (rd y ++ [n]))) [(nn, [])] S [(d, .sl nn 0 (l.length + l2.length) size), (nn, .mrow e size (l ++ l2)), (n, .no)] := by
  intro s hs hN a w ⟨D, hv, h⟩ Q K hK
  rw [if_pos (hg s (fun k hk => hs k (List.mem_append_left _ hk)) a w D hv h)]
  obtain ⟨hrn, hsl⟩ : RN n ∧ SlV (hv n) 0 len size (a.eval x) := ev_rep h (fun k hk => hs k (List.mem_append_right _ (List.mem_append_left _ hk))) hx
  have h3 := ev_val h (fun k hk => hs k (List.mem_append_right _ (List.mem_append_right _ (List.mem_append_left _ hk)))) hy
  have hrn2 := rnB hn2
  have hrn' := hrn
  unfold RN at hrn'
  have hok : oKey n := ⟨by omega, by omega⟩
  have hlk := (hs n (by simp)).trans hlv
  obtain ⟨xs, g1, g2, g3, g4⟩ := h.mrow hlk hrn
  have hval : a.eval x = hv n := by
    obtain ⟨ao, m, cap, ao', e1, e2, e3, e4, _⟩ := hsl
    obtain ⟨ao2, cap2, f1, f2, f3⟩ := own_addr g1
    rw [f1] at e1 ⊢
    injection e1 with e5 e6 e7
    subst e5; subst e6; subst e7
    rw [e2, e4 rfl, hlen]; rfl
  have hvs : hb (hv n) = (hv n).ownBlock := by
    rcases g1.2 with ⟨e1, e2⟩ | ⟨g, cap, cur, e1, _⟩
    · rw [e1]; rfl
    · rw [e1]; rfl
  rw [Bool.and_eq_true, Bool.or_eq_true] at hne
  have hne' : n ≠ nn := fun e => by rw [e, Nat.beq_refl] at hne; exact absurd hne.1 (by decide)
  refine appLawM (l := l) (n := nn) (h.kill hok) hd (blt_lt hn) (blt_lt h5) hrn2 (fun k av hk => ?_) ho ht hi (Nat.eq_of_beq_eq_true hzs) g2 (Nat.le_of_ble_eq_true hbt) g3 hl2 hbd hval h3 g1 g4 (fun g hg => ?_) (fun a' w' hs' => hK a' w' hs')
  · by_cases e : n = k
    · subst e
      rw [look_same] at hk
      cases hk
      refine ⟨by show 0 ≠ _; omega, ?_⟩
      have hfn : fnm n = 100000 := by
        unfold fnm
        have : Nat.ble 500000 n = false := by
          cases hb : Nat.ble 500000 n with
          | false => rfl
          | true => have := Nat.le_of_ble_eq_true hb; omega
        rw [this]
      rw [hfn]
      omega
    · rw [look_ne e] at hk; exact (hN (nn, []) (by simp)).nr k av hk
  · rw [← hvs] at hg
    obtain ⟨f1, f2, f3⟩ := h.blk n _ g hlk hok (by simp) hg
    refine ⟨?_, fun o => f3 o (fun e => by cases e), fun q av h6 h7 h8 h9 => ?_⟩
    · rcases f1 with f1 | f1
      · exact .inl f1
      · rcases hne.2 with h6 | h6
        · rw [lcl_own (blt_lt h6)] at f1; exact absurd rfl f1.1
        · exact .inr ⟨by rw [lcl_row (Nat.le_of_ble_eq_true h6)]; simp, f1.2⟩
    · have hq : n ≠ q := fun e => by subst e; rw [look_same] at h6; cases h6; exact h8 rfl
      rw [look_ne hq] at h6
      exact h.disj n q _ av g hlk h6 hok h7 (by simp) h8 hq hg

/-- clear(x) -/
theorem a_clearM (hg : Gd w0 U0 nt ops o gs S) (hd : o.dst = none) {x : Operand} {t e e' : TypeId} {ts : Array TypeId} {n lo len z : Nat} {l : List CV} {zc : CV} (ho : o.op = .call { callee := .builtin .clear, args := #[x], argTypes := ts }) (ht : ts[0]? = some t) (hu : P.underlying t = some (.slice e)) (hzc : zeroT P e = some zc) (hx : ev S x = some (.sl n lo len z)) (hm' : S n = some (.mrow e' z l)) (hzz : zc.size = z) (hl : lo + len ≤ l.length) :
    AOp P w0 U0 nt ops o (gs ++ (rd x ++ [n])) [] S [(n, .mrow e' z (l.take lo ++ (List.replicate len zc ++ l.drop (lo + len))))] := by
  intro s hs hN a w ⟨D, hv, h⟩ Q K hK
  rw [if_pos (hg s (fun k hk => hs k (List.mem_append_left _ hk)) a w D hv h)]
  have hm := (hs n (by simp)).trans hm'
  obtain ⟨hrn, ao, m, cap, ao', h1, h2, h3, h4, h6, h7⟩ : RN n ∧ SlV (hv n) lo len z (a.eval x) := ev_rep h (fun k hk => hs k (List.mem_append_right _ (List.mem_append_left _ hk))) hx
  obtain ⟨xs, g1, g2, g3, g4⟩ := h.mrow hm hrn
  obtain ⟨it, zv, i1, i2, i3⟩ := zeroT_spec hzc
  by_cases hl0 : len = 0
  · subst hl0
    have he : (execOp a.eval o).run P w = .ok (.value (.tuple #[])) w := by
      generalize a.eval = ρ at h2 ⊢
      cases ao' <;> simp [execOp, ho, resolve, invoke, builtin, Builtin.clear_, ht, h2, run_underlying hu]
    unfold Oper.wp
    rw [he, Oper.upon_value, hd]
    have : l.take lo ++ (List.replicate 0 zc ++ l.drop (lo + 0)) = l := by simp
    refine hK _ _ ⟨D, hv, h.congr fun k => ?_⟩
    rw [this]
    by_cases e : n = k
    · subst e; rw [List.cons_append, look_same]; exact hm.symm
    · rw [List.cons_append, look_ne e]; rfl
  obtain ⟨g, cap', cur, f1, f2, f3, f4, f6, f7, f8, f9⟩ := own_some g1 (by omega)
  obtain rfl : cap = cap' := by rw [f1] at h1; injection h1 with k1 k2 k3; exact k3.symm
  obtain rfl : ao = some ⟨g, 0, none⟩ := by rw [f1] at h1; injection h1 with k1 k2 k3; exact k1.symm
  have ha : ao' = some ⟨g, lo * z, none⟩ := h6 (by omega) g rfl
  subst ha
  have hzl : zv.cells.size = z := by have := (i3 (fun _ _ => True) w).len; rw [hzz] at this; simpa using this
  obtain ⟨zs, hzs⟩ : ∃ zs, zs = (List.replicate len zv.cells.toList).flatten := ⟨_, rfl⟩
  have hzsl : zs.length = len * z := by rw [hzs]; simp [hzl]
  have hzc2 : (Builtin.zeroCells zv.cells len).toList = zs := by
    rw [hzs]
    apply List.ext_getElem?
    intro k
    rw [flat_const g2 _ (by intro v hv'; rw [List.mem_replicate] at hv'; rw [hv'.2]; simpa using hzl)]
    unfold Builtin.zeroCells
    rw [hzl]
    by_cases hk : k < len * z
    · have e1 : k / z < len := (Nat.div_lt_iff_lt_mul g2).2 hk
      have e2 : k % z < zv.cells.size := by rw [hzl]; exact Nat.mod_lt _ g2
      simp [hk, List.getElem?_replicate, e1, e2]
    · have e1 : ¬ k / z < len := by rw [Nat.div_lt_iff_lt_mul g2]; exact hk
      simp [hk, List.getElem?_replicate, e1]
  have hone : ∀ v ∈ zs, v.oneCell' = true := by
    intro v hv'
    rw [hzs, List.mem_flatten] at hv'
    obtain ⟨r, hr1, hr2⟩ := hv'
    rw [List.mem_replicate] at hr1
    rw [hr1.2] at hr2
    exact (i3 (fun _ _ => True) w).one v hr2
  have hcl : lo * z + len * z ≤ l.length * z := by rw [← Nat.add_mul]; exact Nat.mul_le_mul_right _ hl
  have hcap : l.length * z ≤ cap * z := Nat.mul_le_mul_right _ f3
  have hst := run_storeCells_at (P := P) g (lo * z) e' zs 0 cur w f2 (by rw [hzsl, f6]; omega) hone
  rw [Nat.add_zero] at hst
  have he : (execOp a.eval o).run P w = .ok (.value (.tuple #[])) (w.setRow g (cur.toList.take (lo * z) ++ zs ++ cur.toList.drop (lo * z + zs.length)).toArray) := by
    have hzv : (zeroValue e).run P w = .ok zv w := by simp [zeroValue, typeInfo, i1, i2]
    obtain ⟨len', rfl⟩ : ∃ k, len = k + 1 := ⟨len - 1, by omega⟩
    generalize a.eval = ρ at h2 ⊢
    simp [execOp, ho, resolve, invoke, builtin, Builtin.clear_, ht, h2, run_underlying hu, hzv, hzc2, hst]
  unfold Oper.wp
  rw [he, Oper.upon_value, hd]
  have hok : oKey n := by unfold RN at hrn; unfold oKey; omega
  obtain ⟨l', hl'⟩ : ∃ l', l' = l.take lo ++ (List.replicate len zc ++ l.drop (lo + len)) := ⟨_, rfl⟩
  have hll : l'.length = l.length := by rw [hl']; simp; omega
  refine hK _ _ ?_
  rw [← hl']
  refine ⟨_, _, h.store (av := .mrow e' z l') hok hm (by simp) (by simp) rfl (fun g' hn o _ => hn o (by simp)) (by simp) f9 f2 fun w' hw hkp => ?_⟩
  have hsplit : l = l.take lo ++ ((l.drop lo).take len ++ (l.drop lo).drop len) := by rw [List.take_append_drop, List.take_append_drop]
  have g4' := g4
  rw [hsplit, List.map_append, List.map_append] at g4'
  obtain ⟨y1, r1, e1, s1, s2⟩ := sq_split g4'
  obtain ⟨y2, y3, e2, s3, s4⟩ := sq_split s2
  have hy1 : y1.length = lo * z := by rw [sq_len (n := CV.size) (fun c _ xs h => h.len) s1, sum_const (fun c hc => g3 c (List.mem_of_mem_take hc)), List.length_take, Nat.min_eq_left (by omega)]
  have hy2 : y2.length = len * z := by rw [sq_len (n := CV.size) (fun c _ xs h => h.len) s3, sum_const (fun c hc => g3 c (List.mem_of_mem_drop (List.mem_of_mem_take hc))), List.length_take, List.length_drop, Nat.min_eq_left (by omega)]
  have hy3 : y1.length + (y2.length + y3.length) = l.length * z := by have := g1.1; rw [e1, e2] at this; simpa using this
  have hcur : cur.toList = y1 ++ (y2 ++ (y3 ++ cur.toList.drop (l.length * z))) := by
    conv => lhs; rw [← List.take_append_drop (l.length * z) cur.toList, f7, e1, e2]
    simp
  have hnew : cur.toList.take (lo * z) ++ zs ++ cur.toList.drop (lo * z + zs.length) = (y1 ++ (zs ++ y3)) ++ cur.toList.drop (l.length * z) := by
    have t1 : cur.toList.take (lo * z) = y1 := by rw [hcur, ← hy1]; simp
    have t2 : cur.toList.drop (lo * z + zs.length) = y3 ++ cur.toList.drop (l.length * z) := by
      rw [hzsl, ← hy1, ← hy2]
      conv => lhs; rw [hcur]
      rw [← List.append_assoc, List.drop_append_of_le_length (by simp)]
      simp
    rw [t1, t2]
    simp
  rw [hnew] at hw
  refine ⟨y1 ++ (zs ++ y3), ⟨?_, .inr ⟨g, cap, _, ?_, Nat.zero_le _, hw, ?_, f4, ?_, ?_⟩⟩, g2, fun x hx => ?_, ?_⟩
  · show _ = l'.length * z
    rw [hll]
    simp only [List.length_append, hzsl]
    omega
  · show hv n = .slice _ l'.length cap
    rw [hll]; exact f1
  · show l'.length ≤ cap
    rw [hll]; exact f3
  · have := congrArg List.length hcur
    rw [Array.length_toList, f6] at this
    simp only [List.size_toArray, List.length_append, hzsl] at this ⊢
    show _ = cap * z
    omega
  · show List.take (l'.length * z) _ = _
    rw [hll, List.take_append_of_le_length (by simp only [List.length_append, hzsl]; omega), List.take_of_length_le (by simp only [List.length_append, hzsl]; omega)]
  · have hx : x ∈ l' := hx
    rw [hl', List.mem_append, List.mem_append] at hx
    rcases hx with hx | hx | hx
    · exact g3 x (List.mem_of_mem_take hx)
    · rw [List.mem_replicate] at hx; rw [hx.2, hzz]; rfl
    · exact g3 x (List.mem_of_mem_drop hx)
  · show Sq (l'.map fun c => Rep (Us w0 U0 D) w' c) _
    rw [hl', List.map_append, List.map_append]
    refine sq_append (Sq.keep hkp s1) (sq_append ?_ ?_)
    · rw [hzs]; exact sq_repl (i3 _ _) len
    · rw [← List.drop_drop]
      exact Sq.keep hkp s4

/-- A row that is no more written. -/
theorem wk_frz (d n : Nat) {e z lo len : Nat} {l : List CV} (hs : look s d = some (.sl n lo len z)) (hm : look s n = some (.mrow e z l)) (hd : Nat.blt d 100000 = true) (hloc : (∀ b, ¬ U0.x b) ∨ n < 300000) (hlen : lo + len ≤ l.length) {s' : AS} (hsub : SubL s s') (hk : noKey s' n = true) : Wk w0 U0 nt s ((d, .val (.lst ((l.drop lo).take len))) :: s') := by
  rintro a w ⟨D, hv, h⟩
  have hd := blt_lt hd
  obtain ⟨v, g1, hrn, ao, m, cap, ao', h1, h2, h3, h4, h6, h7⟩ : ∃ v, a.tmps[d]? = some v ∧ RN n ∧ SlV (hv n) lo len z v := h.slot d _ hs hd
  have h2 : v = .slice ao' len (cap - lo) := h2
  obtain ⟨xs, f1, f2, f3, f4⟩ := h.mrow hm hrn
  have hrn' := hrn
  unfold RN at hrn'
  have hok : oKey n := ⟨by omega, by omega⟩
  have hsub' := hsub.sub
  have hno : ∀ av, look s' n ≠ some av := fun av h8 => by
    have h9 := look_mem h8
    unfold noKey at hk
    rw [List.all_eq_true] at hk
    have := hk _ h9
    simp at this
  rcases f1.2 with ⟨e1, e2⟩ | ⟨g, cap', cur, e1, _, e3, e4, e5, e6, e7⟩
  · -- nil
    have hl0 : l = [] := List.eq_nil_of_length_eq_zero e2
    subst hl0
    rw [e1] at h1
    injection h1 with h1 h8 h9
    subst h1; subst h8; subst h9
    have hlo : lo = 0 := by simp at hlen; omega
    have hle : len = 0 := by simp at hlen; omega
    subst hlo; subst hle
    have hao : ao' = none := h7.2 rfl
    refine ⟨D, hv, (h.sub hsub').know hd g1 (avrep_val ?_)⟩
    rw [h2, hao]
    exact vrep_lst.2 ⟨none, 0, 0, rfl, rfl, Nat.le_refl _, by unfold maxLen; omega, fun _ => ⟨rfl, rfl⟩, [], .inl rfl, rfl⟩
  · obtain rfl : cap = cap' := by rw [e1] at h1; injection h1 with k1 k2 k3; exact k3.symm
    obtain rfl : ao = some ⟨g, 0, none⟩ := by rw [e1] at h1; injection h1 with k1 k2 k3; exact k1.symm
    have hgb : hb (hv n) = some g := by rw [e1]; rfl
    obtain ⟨b1, b2, b3⟩ := h.blk n _ g hm hok (by simp) hgb
    have hge : w0.heap.size ≤ g := by
      rcases b1 with b1 | b1
      · exact b1
      · rcases hloc with hloc | hloc
        · exact absurd b1.2 (hloc g)
        · exact absurd (lcl_own hloc _) b1.1
    have hG := (h.sub hsub').moreD (g := g) b2 fun k av h10 h11 h12 h13 => h.disj n k _ av g hm (hsub' _ _ h10) hok h11 (by simp) h12 (fun e => hno av (e ▸ h10)) hgb h13
    refine ⟨_, hv, hG.know hd g1 (avrep_val ?_)⟩
    rw [h2]
    have hkp : ∀ b o v, Us w0 U0 D b o → w.cell? ⟨b, o, none⟩ = some v → Us w0 U0 (fun b o => D b o ∨ b = g) b o ∧ w.cell? ⟨b, o, none⟩ = some v := fun b o v hu hc => ⟨hu.imp id fun h => ⟨h.1, .inl h.2⟩, hc⟩
    have hsplit : l = l.take lo ++ ((l.drop lo).take len ++ (l.drop lo).drop len) := by rw [List.take_append_drop, List.take_append_drop]
    have f4' := f4
    rw [hsplit, List.map_append, List.map_append] at f4'
    obtain ⟨y1, r1, c1, s1, s2⟩ := sq_split f4'
    obtain ⟨y2, y3, c2, s3, s4⟩ := sq_split s2
    have hy1 : y1.length = lo * z := by rw [sq_len (n := CV.size) (fun c _ xs h => h.len) s1, sum_const (fun c hc => f3 c (List.mem_of_mem_take hc)), List.length_take, Nat.min_eq_left (by omega)]
    refine vrep_lst.2 ⟨ao', len, cap - lo, rfl, by simp; omega, by omega, by omega, fun h10 => ?_, y2, ?_, Sq.keep hkp s3⟩
    · have := h7.1 h10; cases this
    · by_cases hlc : lo < cap
      · refine .inr ⟨g, lo * z, h6 hlc g rfl, fun i hi => ⟨.inr ⟨hge, .inr rfl⟩, ?_⟩⟩
        have hlt : lo * z + i < l.length * z := by
          have := f1.1
          rw [c1, c2] at this
          simp only [List.length_append] at this
          omega
        rw [own_cell f1 (by rw [e1]; rfl) hlt, c1, c2, ← hy1, List.getElem?_append_right (by omega), List.getElem?_append_left (by omega)]
        congr 1
        omega
      · left
        have : len = 0 := by omega
        rw [this] at s3
        exact s3

/-- A function value's contract: a function itself, or one with what it holds. -/
def AFunW (P : Program) (W : World) (fc : CV) (args : List CV) (r : AV) : Prop := AFunV P W fc args r ∨ ∃ f, fc = .sc (.func (.func f) #[] #[]) ∧ AFun P W f args r
theorem a_callw {x : Operand} {xs : Array Operand} {ts : Array TypeId} {fc : CV} {cs : List CV} {r : AV} {n q p} (hg : Gd w0 U0 nt ops o gs S) (hd : o.dst = some d) (hn : Nat.blt d nt = true) (h5 : Nat.blt d 100000 = true)
    (ho : o.op = .call { callee := .value x, args := xs, argTypes := ts }) (hf : ev S x = some ⟨0, fc, n, q, p⟩) (hx : evsO S xs.toList = some cs) (hc : AFunW P w0 fc cs r) : AOp P w0 U0 nt ops o (gs ++ (rd x ++ rdl xs.toList)) [] S [(d, r)] := by
  rcases hc with hc | ⟨f, rfl, hc⟩
  · exact a_callv hg hd hn h5 ho hf hx hc
  intro s hs _ a w ⟨D, hv, h⟩ Q K hK
  rw [if_pos (hg s (fun k hk => hs k (List.mem_append_left _ hk)) a w D hv h)]
  have hargs := evsO_rep h (fun k hk => hs k (List.mem_append_right _ (List.mem_append_right _ hk))) hx
  have hfv := ev_sc h (fun k hk => hs k (List.mem_append_right _ (List.mem_append_left _ hk))) hf
  obtain ⟨h1, h2, h3, h4⟩ := hc
  have hcall := h4 _ w _ trivial hargs
  have he : (execOp a.eval o).run P w = .ok (.enter f (xs.toList.map a.eval).toArray) w := by
    have hen := h1 (xs.map a.eval) w
    have harr : (xs.toList.map a.eval).toArray = xs.map a.eval := by apply Array.ext'; simp
    rw [harr]
    generalize a.eval = ρ at hfv hen ⊢
    simp [execOp, ho, resolve, invoke, Deferred.ofValue, hfv, hen]
  unfold Oper.wp
  rw [he, Oper.upon_enter]
  refine hcall.mono ?_
  rintro e w' ⟨v, rfl, h6, h7⟩
  rw [hd]
  exact hK _ _ ⟨Dn D w w', hv, (h.growN h7).put (blt_lt hn) (blt_lt h5) (avrep_rr h2 h3 (us_of_rr rfl h7.size h.below.size h6))⟩

/-- A slice is nil, or it is not. -/
theorem AWp.nil {c : Code} {Q : Exit → AS → Prop} (d : Nat) {l : List CV} (h5 : Nat.blt d 100000 = true) (hs : look s d = some (.val (.lst l))) (h1 : l = [] → AWp P w0 U0 nt c Q ((d, ⟨0, .lst [], 1, 0, []⟩) :: s)) (h2 : AWp P w0 U0 nt c Q ((d, ⟨16, .lst l, 0, 0, []⟩) :: s)) : AWp P w0 U0 nt c Q s := by
  intro a w ⟨D, hv, h⟩
  have h5 := blt_lt h5
  obtain ⟨v, g1, g2⟩ := h.slot d _ hs h5
  have g2 : VRep (Us w0 U0 D) w (.lst l) v := g2.1
  cases hn : isNil v with
  | false => exact h2 a w ⟨D, hv, h.know h5 g1 ⟨g2, hn⟩⟩
  | true =>
    have hv0 := isNil_eq hn
    subst hv0
    obtain ⟨ao, n, cc, e1, e2, _⟩ := vrep_lst.1 g2
    injection e1 with _ e3 _
    have hl : l = [] := List.eq_nil_of_length_eq_zero (by omega)
    subst hl
    exact h1 rfl a w ⟨D, hv, h.know h5 g1 ⟨g2, fun _ => ⟨0, .lst [], rfl, rfl⟩⟩⟩
theorem wk_not (d : Nat) {c : CV} (h5 : Nat.blt d 100000 = true) (hs : look s d = some ⟨16, c, 0, 0, []⟩) : Wk w0 U0 nt s ((d, .val c) :: s) := by
  rintro a w ⟨D, hv, h⟩
  have h5 := blt_lt h5
  obtain ⟨v, g1, g2⟩ := h.slot d _ hs h5
  exact ⟨D, hv, h.know h5 g1 (avrep_val g2.1)⟩
theorem run_eqnil {t e : TypeId} (hu : P.underlying t = some (.slice e)) (v : Value) (w : World) (hv : ∃ ao n c, v = .slice ao n c ∧ (ao = none → n = 0 ∧ c = 0)) : (Op.equal t v (.slice none 0 0)).run P w = .ok (isNil v) w := by
  obtain ⟨ao, n, c, rfl, h⟩ := hv
  unfold Op.equal
  rw [show Op.maxDepth = 9999 + 1 from rfl, Op.equalIn]
  cases ao with
  | none => obtain ⟨rfl, rfl⟩ := h rfl; simp [run_underlying hu, isNil]
  | some ad => simp [run_underlying hu, isNil]
theorem a_isnil (hg : Gd w0 U0 nt ops o gs S) (hd : o.dst = some d) (hn : Nat.blt d nt = true) (h5 : Nat.blt d 100000 = true) {x : Operand} {t1 t2 e : TypeId} {q} (ho : o.op = .binOp .eql t1 x (.const (.slice none 0 0)) t2) (hu : P.underlying t1 = some (.slice e)) (hx : ev S x = some ⟨0, .lst [], 1, q, []⟩) : AOp P w0 U0 nt ops o (gs ++ rd x) [] S [(d, .val (.b true))] :=
  aop_val hg hd hn h5 (fun k hk => List.mem_append_left _ hk) fun s hs a w D hv hm => by
    obtain ⟨h1, h2⟩ : VRep (Us w0 U0 D) w (.lst []) (a.eval x) ∧ Tk hv (LiveN s) ⟨0, .lst [], 1, q, []⟩ (a.eval x).cells.toList := ev_rep hm (fun k hk => hs k (List.mem_append_right _ hk)) hx
    have hnil : a.eval x = .slice none 0 0 := by
      obtain ⟨m, c, g1, g2⟩ := h2 (.inl rfl)
      simp only at g1
      rw [at_nil] at g1
      cases g1
      obtain ⟨ao, k, c, e1, _⟩ := vrep_lst.1 h1
      rw [e1] at g2 ⊢
      simpa [Value.cells, tokv] using g2
    refine ⟨.bool true, ?_, avrep_sc rfl⟩
    have hb := run_eqnil (P := P) hu (.slice none 0 0) w ⟨none, 0, 0, rfl, fun _ => ⟨rfl, rfl⟩⟩
    have hc : a.eval (.const (.slice none 0 0)) = .slice none 0 0 := rfl
    generalize a.eval = ρ at hnil hc ⊢
    simp [execOp, ho, hnil, hc, eqGuard, binOp, hb, isNil]
theorem a_notnil (hg : Gd w0 U0 nt ops o gs S) (hd : o.dst = some d) (hn : Nat.blt d nt = true) (h5 : Nat.blt d 100000 = true) {x : Operand} {t1 t2 e : TypeId} {l : List CV} {n q p} (ho : o.op = .binOp .eql t1 x (.const (.slice none 0 0)) t2) (hu : P.underlying t1 = some (.slice e)) (hx : ev S x = some ⟨16, .lst l, n, q, p⟩) : AOp P w0 U0 nt ops o (gs ++ rd x) [] S [(d, .val (.b false))] :=
  aop_val hg hd hn h5 (fun k hk => List.mem_append_left _ hk) fun s hs a w D hv hm => by
    obtain ⟨h1, h2⟩ : VRep (Us w0 U0 D) w (.lst l) (a.eval x) ∧ isNil (a.eval x) = false := ev_rep hm (fun k hk => hs k (List.mem_append_right _ hk)) hx
    obtain ⟨ao, k, c, e1, e2, e3, e4, e5, _⟩ := vrep_lst.1 h1
    refine ⟨.bool false, ?_, avrep_sc rfl⟩
    have hb := run_eqnil (P := P) hu (a.eval x) w ⟨ao, k, c, e1, e5⟩
    rw [h2] at hb
    have hc : a.eval (.const (.slice none 0 0)) = .slice none 0 0 := rfl
    generalize a.eval = ρ at hb hc ⊢
    simp [execOp, ho, hc, eqGuard, binOp, hb]
/-- What is nil may be written under a name. -/
theorem wk_nilM (d n e z : Nat) (hs : look s d = some ⟨0, .lst [], 1, 0, []⟩) (h5 : Nat.blt d 100000 = true) (hn : (Nat.ble 200000 n && Nat.blt n 400000) = true) (hz : Nat.blt 0 z = true) (hr : noRefB s [(n, [])] = true) : Wk w0 U0 nt s ((d, .sl n 0 0 z) :: (n, .mrow e z []) :: s) := by
  rintro a w ⟨D, hv, h⟩
  have h5 := blt_lt h5
  have hrn := rnB hn
  have hz := blt_lt hz
  have hr := (noRefB_spec hr (n, []) (by simp)).nr
  obtain ⟨v, g1, g2⟩ := h.slot d _ hs h5
  have hv0 : v = .slice none 0 0 := by
    obtain ⟨h1, h2⟩ : VRep (Us w0 U0 D) w (.lst []) v ∧ Tk hv (LiveN s) ⟨0, .lst [], 1, 0, []⟩ v.cells.toList := g2
    obtain ⟨m, c, f1, f2⟩ := h2 (.inl rfl)
    simp only at f1
    rw [at_nil] at f1
    cases f1
    obtain ⟨ao, k, c, e1, _⟩ := vrep_lst.1 h1
    rw [e1] at f2 ⊢
    simpa [Value.cells, tokv] using f2
  have hG := h.newrow (X := fun _ => False) (avn := .mrow e z []) (v' := .slice none 0 0) hrn hr (by simp) (BelowX.refl _ _) (fun b hb => hb.elim) (fun g hg => by cases hg) (fun b o hd => .inl hd) h.dlt (fun b o u h1 h2 => ⟨h1, h2⟩) (fun hv lv => ⟨[], World.ownsRow_nil _ _ _ _, hz, (fun c hc => by cases hc), rfl⟩)
  refine ⟨D, _, hG.know h5 g1 ⟨RW.rn hrn, ?_⟩⟩
  show SlV ((fun x => if x = n then Value.slice none 0 0 else hv x) n) 0 0 z v
  simp only [if_true]
  rw [hv0]
  exact slV_all rfl (Nat.le_refl _) (.inl rfl)
end
end Go.Proofs.Ytmdhefepaolhcaa
