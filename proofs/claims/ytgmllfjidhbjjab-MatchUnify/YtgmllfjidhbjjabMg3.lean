/-
  AbObj2 AbFld AbMap AbFull AbArr SbFns SbApply SbVars TmSm SbSmall TmOrd RfSame RfLess RfFlat RfVars AbOf SbVnt SbRen SbSort SbClone SbNorm SbNorm2 SbSortM SbLaw3 SbThen UnMath UnCls UnInv UnMod
-/
import Derived.Test.YtgmllfjidhbjjabMg2
import Derived.MapKept
import Derived.Laws.NewFold
namespace Go.Proofs.Ytgmllfjidhbjjab
open Go.RowKit
set_option linter.unusedVariables false
set_option linter.unusedSimpArgs false

/-- The zero value as a tree. -/
def zeroT (P : Program) (e : TypeId) : Option CV := match P.info? e with
  | some it => match it.zero with
    | some (.agg cs) => match P.underlying e with
      | some (.struct fs) => match szO P fs.toList 0 with
        | some sz => match zsO sz cs.toList with | some zs => some (.row zs) | none => none
        | none => none
      | _ => none
    | some v => match plainV v with | true => some (cellCV v) | false => none
    | none => none
  | none => none
theorem zeroT_spec {P : Program} {e : TypeId} {c : CV} (h : zeroT P e = some c) : ∃ it z, P.info? e = some it ∧ it.zero = some z ∧ ∀ U w, Rep U w c z.cells.toList := by
  unfold zeroT at h
  split at h
  · rename_i it hi
    split at h
    · rename_i cs hz
      refine ⟨it, _, hi, hz, fun U w => ?_⟩
      split at h
      · split at h
        · split at h
          · rename_i zs h0
            cases h
            obtain ⟨segs, e1, e2, e3, e4, e5⟩ := zsO_spec (U := U) (w := w) h0
            rw [rep_row]
            show Sq _ cs.toList
            rw [← e1]
            exact sq_of_segs e4 (fun i c hi => by obtain ⟨seg, f1, f2, _⟩ := e5 i c hi; exact ⟨seg, f1, f2⟩)
          · cases h
        · cases h
      · cases h
    · rename_i v hz hv
      refine ⟨it, _, hi, hv, fun U w => ?_⟩
      split at h
      · rename_i hp
        cases h
        have := rep_plain U w v hp
        have hc : v.cells = #[v] := by
          cases v with
          | agg cs => exact absurd rfl (hz cs)
          | _ => rfl
        rw [hc]
        exact this
      · cases h
    · cases h
  · cases h

section
variable {P : Program} {w0 : World} {U0 : UX} {nt : Nat} {ops : Array Oper} {o : Oper} {S : Nat → Option AV} {gs : List Nat} {d : Nat} {s : AS} {a : Act} {w : World} {D : Nat → Nat → Prop} {hv : Nat → Value}

theorem sq_repl {U : Nat → Nat → Prop} {c : CV} {xs : List Value} (h : Rep U w c xs) : ∀ k, Sq ((List.replicate k c).map fun c => Rep U w c) (List.replicate k xs).flatten
  | 0 => rfl
  | k + 1 => ⟨_, _, rfl, h, sq_repl h k⟩
theorem slV_all {v : Value} {k cap : Nat} {ao : Option Addr} {z : Nat} (h : v = .slice ao k cap) (hk : k ≤ cap) (hg : ao = none ∨ ∃ g, ao = some ⟨g, 0, none⟩) : SlV v 0 k z v := by
  refine ⟨ao, k, cap, ao, h, by rw [h]; rfl, by omega, fun _ => rfl, fun _ g e => by rw [Nat.zero_mul]; exact e, Iff.rfl⟩
theorem own_addr {e z : Nat} {v : Value} {k : Nat} {xs : List Value} (h : w.ownsRow 0 e z v k xs) : ∃ ao cap, v = .slice ao k cap ∧ k ≤ cap ∧ (ao = none ∨ ∃ g, ao = some ⟨g, 0, none⟩) := by
  rcases h.2 with ⟨rfl, rfl⟩ | ⟨g, cap, cur, rfl, _, h3, h4, h5, h6, h7⟩
  · exact ⟨none, 0, rfl, Nat.le_refl _, .inl rfl⟩
  · exact ⟨_, cap, rfl, h4, .inr ⟨g, rfl⟩⟩

/-- The law of append, to a row that may be written. -/
theorem appLawM {Q : Exit → Act → World → Prop} {K : Act → World → Prop} (h : SimG w0 U0 nt s a w D hv) {n e size bytes : Nat} {z : Value} {t : TypeId} (hd : o.dst = some d) (hdn : d < nt) (h5 : d < 100000) (hn : RW n) (hr : NoRef s n) {x y : Operand} (ho : o.op = .call { callee := .builtin .append, args := #[x, y], argTypes := #[t, t] })
    (ht : P.underlying t = some (.slice e)) (hi : (P.info? e).map (fun i => (i.zero, i.size, i.bytes)) = some (some z, size, bytes)) (hzs : z.cells.size = size) (hsz : 0 < size) (hbt : bytes ≤ 1000)
    {l l2 : List CV} (hl : ∀ c ∈ l, c.size = size) (hl2 : ∀ c ∈ l2, c.size = size) (hbd : l.length + l2.length ≤ 100000000000)
    {v : Value} (hx : a.eval x = v) (hy : VRep (Us w0 U0 D) w (.lst l2) (a.eval y)) {xs : List Value} (hown : w.ownsRow 0 e size v l.length xs) (hsq : Sq (l.map fun c => Rep (Us w0 U0 D) w c) xs)
    (hroom : ∀ g, v.ownBlock = some g → Mn w0 U0 (lcl n (.mrow e size (l ++ l2))) g ∧ (∀ o, ¬ D g o) ∧ ∀ q av, look s q = some av → oKey q → av.t ≠ 7 → q ≠ n → hb (hv q) ≠ some g)
    (hK : ∀ a' w', Sim w0 U0 nt ((d, .sl n 0 (l.length + l2.length) size) :: (n, .mrow e size (l ++ l2)) :: s) a' w' → K a' w') : o.wp P a w K Q := by
  obtain ⟨ao2, m, c2, g1, g2, g3, g4, g6, ys2, g7, g8⟩ := vrep_lst.1 hy
  have hyl2 : ys2.length = m * size := by rw [sq_len (n := CV.size) (fun c _ xs h => h.len) g8, sum_const hl2, g2]
  have hmul : (l.length + m) * bytes ≤ 100000000000 * 1000 := Nat.mul_le_mul (by omega) hbt
  obtain ⟨v', w', r1, r2, r3, r4⟩ := run_app (P := P) (ty := o.type) ht hi hzs hsz (Nat.zero_le _) hown g6 g7 hyl2 (rep_one_of g8) (by unfold maxLen; omega) (by omega)
  have hvs : ∀ {u : Value} {k xs} {w : World}, w.ownsRow 0 e size u k xs → hb u = u.ownBlock := fun {u k xs w} h1 => by
    rcases h1.2 with ⟨rfl, rfl⟩ | ⟨g, cap, cur, rfl, _⟩ <;> rfl
  have hb2 := hvs r2
  have hkp : ∀ b o u, Us w0 U0 D b o → w.cell? ⟨b, o, none⟩ = some u → Us w0 U0 D b o ∧ w'.cell? ⟨b, o, none⟩ = some u := fun b o u hu hc => by
    refine ⟨hu, ?_⟩
    have hlt : b < w.heap.size := World.block_lt_of_cell? w _ hc
    have hnb : some b ≠ v.ownBlock := fun e => by
      obtain ⟨f1, f2, _⟩ := hroom b e.symm
      exact us_ne hu f1 (f2 o) rfl
    rw [World.cell?_of_block (w := w) (r3.block b hlt hnb)]
    exact hc
  have hG := h.newrow (avn := .mrow e size (l ++ l2)) (v' := v') (D' := D) (X := fun b => v.ownBlock = some b) hn hr (by simp) ⟨r3.os, r3.tape, r3.output, r3.size, fun b hb hx => r3.block b hb fun e => hx e.symm⟩ (fun b hb => ⟨(hroom b hb).1, (hroom b hb).2.2⟩) (fun g hg => by
      rw [hb2] at hg
      refine ⟨?_, (r2.lt g hg).2, fun o _ hd => ?_⟩
      · rcases r4 with r4 | ⟨_, r4⟩
        · exact .inl (r4 ▸ hg)
        · exact .inr (r4 g hg)
      · rcases r4 with r4 | ⟨_, r4⟩
        · exact (hroom g (r4 ▸ hg)).2.1 o hd
        · have := r4 g hg
          have := h.dlt _ _ hd
          omega) (fun b o hd => .inl hd) (fun b o hd => Nat.lt_of_lt_of_le (h.dlt _ _ hd) r3.size) hkp (fun hv lv => by
      refine ⟨xs ++ ys2, ?_, hsz, fun c hc => ?_, ?_⟩
      · show w'.ownsRow 0 e size v' (l ++ l2).length (xs ++ ys2)
        rw [List.length_append, ← g2]
        exact r2
      · rcases List.mem_append.1 hc with hc | hc
        · exact hl c hc
        · exact hl2 c hc
      · show Sq ((l ++ l2).map _) _
        rw [List.map_append]
        exact sq_append (Sq.keep hkp hsq) (Sq.keep hkp g8))
  have he : (execOp a.eval o).run P w = .ok (.value v') w' := by
    generalize a.eval = ρ at hx g1 ⊢
    simp [execOp, ho, resolve, invoke, builtin, hx, g1, r1, Result.andThen]
  unfold Oper.wp
  rw [he, Oper.upon_value, hd]
  refine hK _ _ ⟨_, _, hG.put hdn h5 ?_⟩
  refine ⟨hn.rn, ?_⟩
  obtain ⟨a1, c1, e1, e2, e3⟩ := own_addr r2
  have := slV_all (z := size) e1 e2 e3
  show SlV ((fun x => if x = n then v' else hv x) n) 0 (l.length + l2.length) size v'
  simp only [if_true]
  rw [← g2]
  exact this

/-- Append to what is empty: a row that may be written. -/
theorem a_app0M (nn : Nat) (hg : Gd w0 U0 nt ops o gs S) (hd : o.dst = some d) (hn : Nat.blt d nt = true) (h5 : Nat.blt d 100000 = true) {x y : Operand} {t e size bytes : Nat} {z : Value} {l2 : List CV} {n q n2 q2 p2} (ho : o.op = .call { callee := .builtin .append, args := #[x, y], argTypes := #[t, t] }) (ht : P.underlying t = some (.slice e)) (hi : (P.info? e).map (fun i => (i.zero, i.size, i.bytes)) = some (some z, size, bytes)) (hzs : Nat.beq z.cells.size size = true) (hsz : Nat.blt 0 size = true) (hbt : Nat.ble bytes 1000 = true)
    (hx : ev S x = some ⟨0, .lst [], n, q, []⟩) (hy : ev S y = some ⟨0, .lst l2, n2, q2, p2⟩) (hnn : (Nat.ble 200000 n && Nat.blt n 400000) = true) (hn2 : (Nat.ble 200000 nn && Nat.blt nn 400000) = true) (hne : Nat.beq n nn = false) (hlv : S n = some (.tok e size)) (hl2 : ∀ c ∈ l2, c.size = size) (hbd : l2.length ≤ 100000000000) :
    AOp P w0 U0 nt ops o (gs ++ (rd x ++ (rd y ++ [n]))) [(nn, [])] S [(d, .sl nn 0 l2.length size), (nn, .mrow e size l2), (n, .no)] := by
  intro s hs hN a w ⟨D, hv, h⟩ Q K hK
  rw [if_pos (hg s (fun k hk => hs k (List.mem_append_left _ hk)) a w D hv h)]
  obtain ⟨h1, h2⟩ : VRep (Us w0 U0 D) w (.lst []) (a.eval x) ∧ Tk hv (LiveN s) ⟨0, .lst [], n, q, []⟩ (a.eval x).cells.toList := ev_rep h (fun k hk => hs k (List.mem_append_right _ (List.mem_append_left _ hk))) hx
  have h3 := ev_val h (fun k hk => hs k (List.mem_append_right _ (List.mem_append_right _ (List.mem_append_left _ hk)))) hy
  have hrn := rnB hnn
  have hrn2 := rnB hn2
  have hok : oKey n := ⟨by omega, by omega⟩
  have hlk := (hs n (by simp)).trans hlv
  have hlive : Live s n (e, size) := ⟨hlk, hrn.1, hrn.2⟩
  have hval : a.eval x = hv n := by
    obtain ⟨m, c, g1, g2⟩ := h2 (.inr ⟨_, hlive⟩)
    simp only at g1
    rw [at_nil] at g1
    cases g1
    obtain ⟨ao, k, c, e1, _⟩ := vrep_lst.1 h1
    unfold tokv at g2
    rw [if_neg (by show n ≠ 1; omega)] at g2
    rw [e1] at g2 ⊢
    simpa [Value.cells] using g2
  obtain ⟨k, xs, g1, g2⟩ : ∃ k xs, w.ownsRow 0 e size (hv n) k xs ∧ 0 < size := h.obj n _ hlk hok
  have hvs : hb (hv n) = (hv n).ownBlock ∧ lenOf (hv n) = k := by
    rcases g1.2 with ⟨e1, e2⟩ | ⟨g, cap, cur, e1, _⟩
    · rw [e1, e2]; exact ⟨rfl, rfl⟩
    · rw [e1]; exact ⟨rfl, rfl⟩
  have hk0 : k = 0 := by
    obtain ⟨ao, k', c, e1, e2, _⟩ := vrep_lst.1 h1
    rw [hval] at e1
    rw [e1] at hvs
    have : k' = k := hvs.2
    rw [← this, e2]; rfl
  subst hk0
  have hx0 : xs = [] := List.eq_nil_of_length_eq_zero (by simpa using g1.1)
  subst hx0
  have hne' : n ≠ nn := fun e => by rw [e, Nat.beq_refl] at hne; cases hne
  refine appLawM (l := []) (n := nn) (h.kill hok) hd (blt_lt hn) (blt_lt h5) hrn2 (fun k av hk => ?_) ho ht hi (Nat.eq_of_beq_eq_true hzs) (blt_lt hsz) (Nat.le_of_ble_eq_true hbt) (fun c hc => by cases hc) hl2 (by simpa using hbd) hval h3 g1 rfl (fun g hg => ?_) (fun a' w' hs' => hK a' w' ?_)
  · by_cases e : n = k
    · subst e
      rw [look_same] at hk
      cases hk
      refine ⟨by show 0 ≠ _; omega, ?_⟩
      have hfn : fnm n = 100000 := by
        unfold fnm
        have : Nat.ble 500000 n = false := by
          cases hb : Nat.ble 500000 n with
          | false => rfl
          | true => have := Nat.le_of_ble_eq_true hb; omega
        rw [this]
      rw [hfn]
      omega
    · rw [look_ne e] at hk; exact (hN (nn, []) (by simp)).nr k av hk
  · rw [← hvs.1] at hg
    obtain ⟨f1, f2, f3⟩ := h.blk n _ g hlk hok (by simp) hg
    rw [lcl_tok rfl] at f1
    refine ⟨?_, fun o => f3 o fun _ => ?_, fun q av h6 h7 h8 h9 => ?_⟩
    · rcases f1 with f1 | f1
      · exact .inl f1
      · exact absurd rfl f1.1
    · rw [hvs.2]; simp
    · have hq : n ≠ q := fun e => by subst e; rw [look_same] at h6; cases h6; exact h8 rfl
      rw [look_ne hq] at h6
      exact h.disj n q _ av g hlk h6 hok h7 (by simp) h8 hq hg
  · simpa using hs'
/-- Append to a row that may be written. -/
theorem a_appM (nn : Nat) (hg : Gd w0 U0 nt ops o gs S) (hd : o.dst = some d) (hn : Nat.blt d nt = true) (h5 : Nat.blt d 100000 = true) {x y : Operand} {t e size bytes : Nat} {z : Value} {l l2 : List CV} {n len n2 q2 p2} (ho : o.op = .call { callee := .builtin .append, args := #[x, y], argTypes := #[t, t] }) (ht : P.underlying t = some (.slice e)) (hi : (P.info? e).map (fun i => (i.zero, i.size, i.bytes)) = some (some z, size, bytes)) (hzs : Nat.beq z.cells.size size = true) (hbt : Nat.ble bytes 1000 = true)
    (hx : ev S x = some (.sl n 0 len size)) (hy : ev S y = some ⟨0, .lst l2, n2, q2, p2⟩) (hn2 : (Nat.ble 200000 nn && Nat.blt nn 400000) = true) (hne : (!Nat.beq n nn && (Nat.blt n 300000 || Nat.ble 300000 nn)) = true) (hlv : S n = some (.mrow e size l)) (hlen : len = l.length) (hl2 : ∀ c ∈ l2, c.size = size) (hbd : l.length + l2.length ≤ 100000000000) :
    AOp P w0 U0 nt ops o (gs ++ (rd x ++ (rd y ++ [n]))) [(nn, [])] S [(d, .sl nn 0 (l.length + l2.length) size), (nn, .mrow e size (l ++ l2)), (n, .no)] := by
  intro s hs hN a w ⟨D, hv, h⟩ Q K hK
  rw [if_pos (hg s (fun k hk => hs k (List.mem_append_left _ hk)) a w D hv h)]
  obtain ⟨hrn, hsl⟩ : RN n ∧ SlV (hv n) 0 len size (a.eval x) := ev_rep h (fun k hk => hs k (List.mem_append_right _ (List.mem_append_left _ hk))) hx
  have h3 := ev_val h (fun k hk => hs k (List.mem_append_right _ (List.mem_append_right _ (List.mem_append_left _ hk)))) hy
  have hrn2 := rnB hn2
  have hrn' := hrn
  unfold RN at hrn'
  have hok : oKey n := ⟨by omega, by omega⟩
  have hlk := (hs n (by simp)).trans hlv
  obtain ⟨xs, g1, g2, g3, g4⟩ := h.mrow hlk hrn
  have hval : a.eval x = hv n := by
    obtain ⟨ao, m, cap, ao', e1, e2, e3, e4, _⟩ := hsl
    obtain ⟨ao2, cap2, f1, f2, f3⟩ := own_addr g1
    rw [f1] at e1 ⊢
    injection e1 with e5 e6 e7
    subst e5; subst e6; subst e7
    rw [e2, e4 rfl, hlen]; rfl
  have hvs : hb (hv n) = (hv n).ownBlock := by
    rcases g1.2 with ⟨e1, e2⟩ | ⟨g, cap, cur, e1, _⟩
    · rw [e1]; rfl
    · rw [e1]; rfl
  rw [Bool.and_eq_true, Bool.or_eq_true] at hne
  have hne' : n ≠ nn := fun e => by rw [e, Nat.beq_refl] at hne; exact absurd hne.1 (by decide)
  refine appLawM (l := l) (n := nn) (h.kill hok) hd (blt_lt hn) (blt_lt h5) hrn2 (fun k av hk => ?_) ho ht hi (Nat.eq_of_beq_eq_true hzs) g2 (Nat.le_of_ble_eq_true hbt) g3 hl2 hbd hval h3 g1 g4 (fun g hg => ?_) (fun a' w' hs' => hK a' w' hs')
  · by_cases e : n = k
    · subst e
      rw [look_same] at hk
      cases hk
      refine ⟨by show 0 ≠ _; omega, ?_⟩
      have hfn : fnm n = 100000 := by
        unfold fnm
        have : Nat.ble 500000 n = false := by
          cases hb : Nat.ble 500000 n with
          | false => rfl
          | true => have := Nat.le_of_ble_eq_true hb; omega
        rw [this]
      rw [hfn]
      omega
    · rw [look_ne e] at hk; exact (hN (nn, []) (by simp)).nr k av hk
  · rw [← hvs] at hg
    obtain ⟨f1, f2, f3⟩ := h.blk n _ g hlk hok (by simp) hg
    refine ⟨?_, fun o => f3 o (fun e => by cases e), fun q av h6 h7 h8 h9 => ?_⟩
    · rcases f1 with f1 | f1
      · exact .inl f1
      · rcases hne.2 with h6 | h6
        · rw [lcl_own (blt_lt h6)] at f1; exact absurd rfl f1.1
        · exact .inr ⟨by rw [lcl_row (Nat.le_of_ble_eq_true h6)]; simp, f1.2⟩
    · have hq : n ≠ q := fun e => by subst e; rw [look_same] at h6; cases h6; exact h8 rfl
      rw [look_ne hq] at h6
      exact h.disj n q _ av g hlk h6 hok h7 (by simp) h8 hq hg

/-- clear(x) -/
theorem a_clearM (hg : Gd w0 U0 nt ops o gs S) (hd : o.dst = none) {x : Operand} {t e e' : TypeId} {ts : Array TypeId} {n lo len z : Nat} {l : List CV} {zc : CV} (ho : o.op = .call { callee := .builtin .clear, args := #[x], argTypes := ts }) (ht : ts[0]? = some t) (hu : P.underlying t = some (.slice e)) (hzc : zeroT P e = some zc) (hx : ev S x = some (.sl n lo len z)) (hm' : S n = some (.mrow e' z l)) (hzz : zc.size = z) (hl : lo + len ≤ l.length) :
    AOp P w0 U0 nt ops o (gs ++ (rd x ++ [n])) [] S [(n, .mrow e' z (l.take lo ++ (List.replicate len zc ++ l.drop (lo + len))))] := by
  intro s hs hN a w ⟨D, hv, h⟩ Q K hK
  rw [if_pos (hg s (fun k hk => hs k (List.mem_append_left _ hk)) a w D hv h)]
  have hm := (hs n (by simp)).trans hm'
  obtain ⟨hrn, ao, m, cap, ao', h1, h2, h3, h4, h6, h7⟩ : RN n ∧ SlV (hv n) lo len z (a.eval x) := ev_rep h (fun k hk => hs k (List.mem_append_right _ (List.mem_append_left _ hk))) hx
  obtain ⟨xs, g1, g2, g3, g4⟩ := h.mrow hm hrn
  obtain ⟨it, zv, i1, i2, i3⟩ := zeroT_spec hzc
  by_cases hl0 : len = 0
  · subst hl0
    have he : (execOp a.eval o).run P w = .ok (.value (.tuple #[])) w := by
      generalize a.eval = ρ at h2 ⊢
      cases ao' <;> simp [execOp, ho, resolve, invoke, builtin, Builtin.clear_, ht, h2, run_underlying hu]
    unfold Oper.wp
    rw [he, Oper.upon_value, hd]
    have : l.take lo ++ (List.replicate 0 zc ++ l.drop (lo + 0)) = l := by simp
    refine hK _ _ ⟨D, hv, h.congr fun k => ?_⟩
    rw [this]
    by_cases e : n = k
    · subst e; rw [List.cons_append, look_same]; exact hm.symm
    · rw [List.cons_append, look_ne e]; rfl
  obtain ⟨g, cap', cur, f1, f2, f3, f4, f6, f7, f8, f9⟩ := own_some g1 (by omega)
  obtain rfl : cap = cap' := by rw [f1] at h1; injection h1 with k1 k2 k3; exact k3.symm
  obtain rfl : ao = some ⟨g, 0, none⟩ := by rw [f1] at h1; injection h1 with k1 k2 k3; exact k1.symm
  have ha : ao' = some ⟨g, lo * z, none⟩ := h6 (by omega) g rfl
  subst ha
  have hzl : zv.cells.size = z := by have := (i3 (fun _ _ => True) w).len; rw [hzz] at this; simpa using this
  obtain ⟨zs, hzs⟩ : ∃ zs, zs = (List.replicate len zv.cells.toList).flatten := ⟨_, rfl⟩
  have hzsl : zs.length = len * z := by rw [hzs]; simp [hzl]
  have hzc2 : (Builtin.zeroCells zv.cells len).toList = zs := by
    rw [hzs]
    apply List.ext_getElem?
    intro k
    rw [flat_const g2 _ (by intro v hv'; rw [List.mem_replicate] at hv'; rw [hv'.2]; simpa using hzl)]
    unfold Builtin.zeroCells
    rw [hzl]
    by_cases hk : k < len * z
    · have e1 : k / z < len := (Nat.div_lt_iff_lt_mul g2).2 hk
      have e2 : k % z < zv.cells.size := by rw [hzl]; exact Nat.mod_lt _ g2
      simp [hk, List.getElem?_replicate, e1, e2]
    · have e1 : ¬ k / z < len := by rw [Nat.div_lt_iff_lt_mul g2]; exact hk
      simp [hk, List.getElem?_replicate, e1]
  have hone : ∀ v ∈ zs, v.oneCell' = true := by
    intro v hv'
    rw [hzs, List.mem_flatten] at hv'
    obtain ⟨r, hr1, hr2⟩ := hv'
    rw [List.mem_replicate] at hr1
    rw [hr1.2] at hr2
    exact (i3 (fun _ _ => True) w).one v hr2
  have hcl : lo * z + len * z ≤ l.length * z := by rw [← Nat.add_mul]; exact Nat.mul_le_mul_right _ hl
  have hcap : l.length * z ≤ cap * z := Nat.mul_le_mul_right _ f3
  have hst := run_storeCells_at (P := P) g (lo * z) e' zs 0 cur w f2 (by rw [hzsl, f6]; omega) hone
  rw [Nat.add_zero] at hst
  have he : (execOp a.eval o).run P w = .ok (.value (.tuple #[])) (w.setRow g (cur.toList.take (lo * z) ++ zs ++ cur.toList.drop (lo * z + zs.length)).toArray) := by
    have hzv : (zeroValue e).run P w = .ok zv w := by simp [zeroValue, typeInfo, i1, i2]
    obtain ⟨len', rfl⟩ : ∃ k, len = k + 1 := ⟨len - 1, by omega⟩
    generalize a.eval = ρ at h2 ⊢
    simp [execOp, ho, resolve, invoke, builtin, Builtin.clear_, ht, h2, run_underlying hu, hzv, hzc2, hst]
  unfold Oper.wp
  rw [he, Oper.upon_value, hd]
  have hok : oKey n := by unfold RN at hrn; unfold oKey; omega
  obtain ⟨l', hl'⟩ : ∃ l', l' = l.take lo ++ (List.replicate len zc ++ l.drop (lo + len)) := ⟨_, rfl⟩
  have hll : l'.length = l.length := by rw [hl']; simp; omega
  refine hK _ _ ?_
  rw [← hl']
  refine ⟨_, _, h.store (av := .mrow e' z l') hok hm (by simp) (by simp) rfl (fun g' hn o _ => hn o (by simp)) (by simp) f9 f2 fun w' hw hkp => ?_⟩
  have hsplit : l = l.take lo ++ ((l.drop lo).take len ++ (l.drop lo).drop len) := by rw [List.take_append_drop, List.take_append_drop]
  have g4' := g4
  rw [hsplit, List.map_append, List.map_append] at g4'
  obtain ⟨y1, r1, e1, s1, s2⟩ := sq_split g4'
  obtain ⟨y2, y3, e2, s3, s4⟩ := sq_split s2
  have hy1 : y1.length = lo * z := by rw [sq_len (n := CV.size) (fun c _ xs h => h.len) s1, sum_const (fun c hc => g3 c (List.mem_of_mem_take hc)), List.length_take, Nat.min_eq_left (by omega)]
  have hy2 : y2.length = len * z := by rw [sq_len (n := CV.size) (fun c _ xs h => h.len) s3, sum_const (fun c hc => g3 c (List.mem_of_mem_drop (List.mem_of_mem_take hc))), List.length_take, List.length_drop, Nat.min_eq_left (by omega)]
  have hy3 : y1.length + (y2.length + y3.length) = l.length * z := by have := g1.1; rw [e1, e2] at this; simpa using this
  have hcur : cur.toList = y1 ++ (y2 ++ (y3 ++ cur.toList.drop (l.length * z))) := by
    conv => lhs; rw [← List.take_append_drop (l.length * z) cur.toList, f7, e1, e2]
    simp
  have hnew : cur.toList.take (lo * z) ++ zs ++ cur.toList.drop (lo * z + zs.length) = (y1 ++ (zs ++ y3)) ++ cur.toList.drop (l.length * z) := by
    have t1 : cur.toList.take (lo * z) = y1 := by rw [hcur, ← hy1]; simp
    have t2 : cur.toList.drop (lo * z + zs.length) = y3 ++ cur.toList.drop (l.length * z) := by
      rw [hzsl, ← hy1, ← hy2]
      conv => lhs; rw [hcur]
      rw [← List.append_assoc, List.drop_append_of_le_length (by simp)]
      simp
    rw [t1, t2]
    simp
  rw [hnew] at hw
  refine ⟨y1 ++ (zs ++ y3), ⟨?_, .inr ⟨g, cap, _, ?_, Nat.zero_le _, hw, ?_, f4, ?_, ?_⟩⟩, g2, fun x hx => ?_, ?_⟩
  · show _ = l'.length * z
    rw [hll]
    simp only [List.length_append, hzsl]
    omega
  · show hv n = .slice _ l'.length cap
    rw [hll]; exact f1
  · show l'.length ≤ cap
    rw [hll]; exact f3
  · have := congrArg List.length hcur
    rw [Array.length_toList, f6] at this
    simp only [List.size_toArray, List.length_append, hzsl] at this ⊢
    show _ = cap * z
    omega
  · show List.take (l'.length * z) _ = _
    rw [hll, List.take_append_of_le_length (by simp only [List.length_append, hzsl]; omega), List.take_of_length_le (by simp only [List.length_append, hzsl]; omega)]
  · have hx : x ∈ l' := hx
    rw [hl', List.mem_append, List.mem_append] at hx
    rcases hx with hx | hx | hx
    · exact g3 x (List.mem_of_mem_take hx)
    · rw [List.mem_replicate] at hx; rw [hx.2, hzz]; rfl
    · exact g3 x (List.mem_of_mem_drop hx)
  · show Sq (l'.map fun c => Rep (Us w0 U0 D) w' c) _
    rw [hl', List.map_append, List.map_append]
    refine sq_append (Sq.keep hkp s1) (sq_append ?_ ?_)
    · rw [hzs]; exact sq_repl (i3 _ _) len
    · rw [← List.drop_drop]
      exact Sq.keep hkp s4

/-- A function value's contract: a function itself, or one with what it holds. -/
def AFunW (P : Program) (W : World) (fc : CV) (args : List CV) (r : AV) : Prop := AFunV P W fc args r ∨ ∃ f, fc = .sc (.func (.func f) #[] #[]) ∧ AFun P W f args r
theorem a_callw {x : Operand} {xs : Array Operand} {ts : Array TypeId} {fc : CV} {cs : List CV} {r : AV} {n q p} (hg : Gd w0 U0 nt ops o gs S) (hd : o.dst = some d) (hn : Nat.blt d nt = true) (h5 : Nat.blt d 100000 = true)
    (ho : o.op = .call { callee := .value x, args := xs, argTypes := ts }) (hf : ev S x = some ⟨0, fc, n, q, p⟩) (hx : evsO S xs.toList = some cs) (hc : AFunW P w0 fc cs r) : AOp P w0 U0 nt ops o (gs ++ (rd x ++ rdl xs.toList)) [] S [(d, r)] := by
  rcases hc with hc | ⟨f, rfl, hc⟩
  · exact a_callv hg hd hn h5 ho hf hx hc
  intro s hs _ a w ⟨D, hv, h⟩ Q K hK
  rw [if_pos (hg s (fun k hk => hs k (List.mem_append_left _ hk)) a w D hv h)]
  have hargs := evsO_rep h (fun k hk => hs k (List.mem_append_right _ (List.mem_append_right _ hk))) hx
  have hfv := ev_sc h (fun k hk => hs k (List.mem_append_right _ (List.mem_append_left _ hk))) hf
  obtain ⟨h1, h2, h3, h4⟩ := hc
  have hcall := h4 _ w _ trivial hargs
  have he : (execOp a.eval o).run P w = .ok (.enter f (xs.toList.map a.eval).toArray) w := by
    have hen := h1 (xs.map a.eval) w
    have harr : (xs.toList.map a.eval).toArray = xs.map a.eval := by apply Array.ext'; simp
    rw [harr]
    generalize a.eval = ρ at hfv hen ⊢
    simp [execOp, ho, resolve, invoke, Deferred.ofValue, hfv, hen]
  unfold Oper.wp
  rw [he, Oper.upon_enter]
  refine hcall.mono ?_
  rintro e w' ⟨v, rfl, h6, h7⟩
  rw [hd]
  exact hK _ _ ⟨Dn D w w', hv, (h.growN h7).put (blt_lt hn) (blt_lt h5) (avrep_rr h2 h3 (us_of_rr rfl h7.size h.below.size h6))⟩

/-- A slice is nil, or it is not. -/
theorem AWp.nil {c : Code} {Q : Exit → AS → Prop} (d : Nat) {l : List CV} (h5 : Nat.blt d 100000 = true) (hs : look s d = some (.val (.lst l))) (h1 : l = [] → AWp P w0 U0 nt c Q ((d, ⟨0, .lst [], 1, 0, []⟩) :: s)) (h2 : AWp P w0 U0 nt c Q ((d, ⟨16, .lst l, 0, 0, []⟩) :: s)) : AWp P w0 U0 nt c Q s := by
  intro a w ⟨D, hv, h⟩
  have h5 := blt_lt h5
  obtain ⟨v, g1, g2⟩ := h.slot d _ hs h5
  have g2 : VRep (Us w0 U0 D) w (.lst l) v := g2.1
  cases hn : isNil v with
  | false => exact h2 a w ⟨D, hv, h.know h5 g1 ⟨g2, hn⟩⟩
  | true =>
    have hv0 := isNil_eq hn
    subst hv0
    obtain ⟨ao, n, cc, e1, e2, _⟩ := vrep_lst.1 g2
    injection e1 with _ e3 _
    have hl : l = [] := List.eq_nil_of_length_eq_zero (by omega)
    subst hl
    exact h1 rfl a w ⟨D, hv, h.know h5 g1 ⟨g2, fun _ => ⟨0, .lst [], rfl, rfl⟩⟩⟩
theorem run_eqnil {t e : TypeId} (hu : P.underlying t = some (.slice e)) (v : Value) (w : World) (hv : ∃ ao n c, v = .slice ao n c ∧ (ao = none → n = 0 ∧ c = 0)) : (Op.equal t v (.slice none 0 0)).run P w = .ok (isNil v) w := by
  obtain ⟨ao, n, c, rfl, h⟩ := hv
  unfold Op.equal
  rw [show Op.maxDepth = 9999 + 1 from rfl, Op.equalIn]
  cases ao with
  | none => obtain ⟨rfl, rfl⟩ := h rfl; simp [run_underlying hu, isNil]
  | some ad => simp [run_underlying hu, isNil]
theorem a_isnil (hg : Gd w0 U0 nt ops o gs S) (hd : o.dst = some d) (hn : Nat.blt d nt = true) (h5 : Nat.blt d 100000 = true) {x : Operand} {t1 t2 e : TypeId} {q} (ho : o.op = .binOp .eql t1 x (.const (.slice none 0 0)) t2) (hu : P.underlying t1 = some (.slice e)) (hx : ev S x = some ⟨0, .lst [], 1, q, []⟩) : AOp P w0 U0 nt ops o (gs ++ rd x) [] S [(d, .val (.b true))] :=
  aop_val hg hd hn h5 (fun k hk => List.mem_append_left _ hk) fun s hs a w D hv hm => by
    obtain ⟨h1, h2⟩ : VRep (Us w0 U0 D) w (.lst []) (a.eval x) ∧ Tk hv (LiveN s) ⟨0, .lst [], 1, q, []⟩ (a.eval x).cells.toList := ev_rep hm (fun k hk => hs k (List.mem_append_right _ hk)) hx
    have hnil : a.eval x = .slice none 0 0 := by
      obtain ⟨m, c, g1, g2⟩ := h2 (.inl rfl)
      simp only at g1
      rw [at_nil] at g1
      cases g1
      obtain ⟨ao, k, c, e1, _⟩ := vrep_lst.1 h1
      rw [e1] at g2 ⊢
      simpa [Value.cells, tokv] using g2
    refine ⟨.bool true, ?_, avrep_sc rfl⟩
    have hb := run_eqnil (P := P) hu (.slice none 0 0) w ⟨none, 0, 0, rfl, fun _ => ⟨rfl, rfl⟩⟩
    have hc : a.eval (.const (.slice none 0 0)) = .slice none 0 0 := rfl
    generalize a.eval = ρ at hnil hc ⊢
    simp [execOp, ho, hnil, hc, eqGuard, binOp, hb, isNil]
theorem a_notnil (hg : Gd w0 U0 nt ops o gs S) (hd : o.dst = some d) (hn : Nat.blt d nt = true) (h5 : Nat.blt d 100000 = true) {x : Operand} {t1 t2 e : TypeId} {l : List CV} {n q p} (ho : o.op = .binOp .eql t1 x (.const (.slice none 0 0)) t2) (hu : P.underlying t1 = some (.slice e)) (hx : ev S x = some ⟨16, .lst l, n, q, p⟩) : AOp P w0 U0 nt ops o (gs ++ rd x) [] S [(d, .val (.b false))] :=
  aop_val hg hd hn h5 (fun k hk => List.mem_append_left _ hk) fun s hs a w D hv hm => by
    obtain ⟨h1, h2⟩ : VRep (Us w0 U0 D) w (.lst l) (a.eval x) ∧ isNil (a.eval x) = false := ev_rep hm (fun k hk => hs k (List.mem_append_right _ hk)) hx
    obtain ⟨ao, k, c, e1, e2, e3, e4, e5, _⟩ := vrep_lst.1 h1
    refine ⟨.bool false, ?_, avrep_sc rfl⟩
    have hb := run_eqnil (P := P) hu (a.eval x) w ⟨ao, k, c, e1, e5⟩
    rw [h2] at hb
    have hc : a.eval (.const (.slice none 0 0)) = .slice none 0 0 := rfl
    generalize a.eval = ρ at hb hc ⊢
    simp [execOp, ho, hc, eqGuard, binOp, hb]
end
end Go.Proofs.Ytgmllfjidhbjjab


namespace Go.Proofs.Ytgmllfjidhbjjab
open Go.RowKit
set_option linter.unusedVariables false
set_option linter.unusedSimpArgs false

section
variable {P : Program} {w0 : World} {U0 : UX} {nt : Nat} {ops : Array Oper} {o : Oper} {S : Nat → Option AV} {gs : List Nat} {d : Nat} {s : AS} {a : Act} {w : World} {D : Nat → Nat → Prop} {hv : Nat → Value}

/-- A struct. -/
def aggA (av : AV) : Bool := match Nat.beq av.t 0 with | true => Nat.beq av.c.k 2 | false => false
theorem vrep_one {U : Nat → Nat → Prop} {c : CV} {v : Value} (h : VRep U w c v) (hk : c.k ≠ 2) : v.cells = #[v] ∧ v.oneCell' = true := by
  unfold VRep at h
  rw [if_neg hk] at h
  have h1 := h.one v (by simp)
  exact ⟨by cases v <;> first | rfl | simp [Value.oneCell'] at h1, h1⟩

/-- What a field may hold. -/
def fldB (av : AV) : Bool := Nat.beq av.t 0 || Nat.beq av.t 2 || Nat.beq av.t 11 || Nat.beq av.t 12 || Nat.beq av.t 15
theorem one_cells {v : Value} (h : v.oneCell' = true) : v.cells = #[v] := by cases v <;> first | rfl | simp [Value.oneCell'] at h
theorem fld_one {U : Nat → Nat → Prop} {lv : Nat → Prop} {av : AV} {v : Value} (h : AVRep U w hv lv av v) (hf : fldB av = true) (ht : av.t ≠ 0) : v.cells = #[v] ∧ v.oneCell' = true := by
  unfold fldB at hf
  simp only [Bool.or_eq_true] at hf
  unfold AVRep at h
  rw [if_neg ht] at h
  rcases hf with (((hf | hf) | hf) | hf) | hf <;> have hf := Nat.eq_of_beq_eq_true hf
  · exact absurd hf ht
  · rw [if_pos hf] at h; rw [h.2]; exact ⟨rfl, rfl⟩
  · rw [if_neg (by omega), if_neg (by omega), if_neg (by omega), if_pos hf] at h; rw [h.2]; exact ⟨rfl, rfl⟩
  · rw [if_neg (by omega), if_neg (by omega), if_neg (by omega), if_neg (by omega), if_pos hf] at h
    obtain ⟨_, ao, m, cap, ao', _, e, _⟩ := h
    rw [e]; exact ⟨rfl, rfl⟩
  · rw [if_neg (by omega), if_neg (by omega), if_neg (by omega), if_neg (by omega), if_neg (by omega), if_pos hf] at h
    exact ⟨one_cells h.2.2, h.2.2⟩
/-- A field is read. -/
theorem a_load_fld (hg : Gd w0 U0 nt ops o gs S) (hd : o.dst = some d) (hn : Nat.blt d nt = true) (h5 : Nat.blt d 100000 = true) {x : Operand} {ty : TypeId} {ds : TypeDesc} {z n q : Nat} {p : List Nat} {k' v' l'} {av : AV} (ho : o.op = .load ty x) (hu : P.underlying ty = some ds) (hi : (P.info? ty).map (·.size) = some z) (hx : ev S x = some ⟨2, ⟨k', v', l'⟩, n, q, p⟩) (hb : S (100000 + n) = some .obj) (hf : S (fKey n q) = some av) (hq : Nat.blt q 100 = true) (hz : av.sz = z) (hk : aggB ds = aggA av) (ht : fldB av = true) : AOp P w0 U0 nt ops o (gs ++ (rd x ++ [100000 + n, fKey n q])) [] S [(d, av)] :=
  aop_val hg hd hn h5 (fun k hk => List.mem_append_left _ hk) fun s hs a w D hv hm => by
    obtain ⟨hbn, h1⟩ : BN n ∧ a.eval x = .pointer (some ⟨blkOf (hv (100000 + n)), q, none⟩) := ev_rep hm (fun k hk => hs k (List.mem_append_right _ (List.mem_append_left _ hk))) hx
    obtain ⟨v, g1, g2, g3⟩ := hm.fld n q av ((hs (fKey n q) (by simp)).trans hf) (blt_lt hq) ((hs (100000 + n) (by simp)).trans hb) hbn
    have hsz := run_sizeOf (P := P) (w := w) hi
    refine ⟨v, ?_, g1⟩
    have hl : (loadVar ty ⟨blkOf (hv (100000 + n)), q, none⟩).run P w = .ok v w := by
      cases hag : aggA av with
      | true =>
        rw [hag] at hk
        unfold aggA at hag
        split at hag
        · rename_i ht0
          have ht0 := Nat.eq_of_beq_eq_true ht0
          have hk2 := Nat.eq_of_beq_eq_true hag
          unfold AVRep at g1
          rw [if_pos ht0] at g1
          have g4 := g1.1
          unfold VRep at g4
          rw [if_pos hk2] at g4
          obtain ⟨xs, rfl, g5⟩ := g4
          have hxl : xs.length = z := by rw [← hz, ← g2]; simp [Value.cells]
          have := run_loadCells_list (P := P) w ⟨blkOf (hv (100000 + n)), q, none⟩ xs (fun j u hj => by
            have hjl : j < xs.length := by
              rcases Nat.lt_or_ge j xs.length with h | h
              · exact h
              · rw [List.getElem?_eq_none h] at hj; cases hj
            rw [add_at, g3 j (by simpa [Value.cells] using hjl)]
            simpa [Value.cells] using hj)
          rw [hxl] at this
          simp [loadVar, run_isAgg hu, hk, hsz, this]
        · cases hag
      | false =>
        rw [hag] at hk
        have hv1 : v.cells = #[v] := by
          by_cases ht0 : av.t = 0
          · unfold aggA at hag
            rw [ht0] at hag
            have hk2 : av.c.k ≠ 2 := fun e => by rw [e] at hag; cases hag
            unfold AVRep at g1
            rw [if_pos ht0] at g1
            exact (vrep_one g1.1 hk2).1
          · exact (fld_one g1 ht ht0).1
        have := g3 0 (by rw [hv1]; simp)
        rw [hv1] at this
        simp only [Nat.add_zero] at this
        simp [loadVar, run_isAgg hu, hk, run_load, this]
    generalize a.eval = ρ at h1 ⊢
    simp [execOp, ho, Instr.loadAt, Instr.sureAddr, h1, hl]

/-- A field is written. -/
theorem SimG.storeF (h : SimG w0 U0 nt s a w D hv) {n q : Nat} (hbn : BN n) (hob : look s (100000 + n) = some .obj) (hq : q < 100) {av0 av : AV} (h0 : look s (fKey n q) = some av0) (hsz : av.sz = av0.sz) (hz0 : 0 < av.sz) {v : Value} (hav : AVRep (Us w0 U0 D) w hv (LiveN s) av v) (hvs : v.cells.size = av.sz) :
    ∃ g ys zs us ty, blkOf (hv (100000 + n)) = g ∧ w.heap[g]? = some (.cells (ys ++ zs ++ us).toArray ty (0, 0)) ∧ ys.length = q ∧ zs.length = av.sz ∧ SimG w0 U0 nt ((fKey n q, av) :: s) a (w.setRow g (ys ++ v.cells.toList ++ us).toArray) D hv := by
  obtain ⟨g, xs, ty, e1, e2, e3⟩ := h.obj9 hob hbn
  have hgb : hb (hv (100000 + n)) = some g := by rw [e1]; rfl
  obtain ⟨v0, f1, f2, f3⟩ := h.fld n q av0 h0 hq hob hbn
  obtain ⟨hmn, hlt, hD⟩ := h.blk (100000 + n) _ g hob (bn_okey hbn) (by simp) hgb
  have hD' : ∀ o, ¬ D g o := fun o => hD o fun e => by cases e
  have hqz : q + av.sz ≤ xs.size := by
    have := f3 (av.sz - 1) (by rw [f2, ← hsz]; omega)
    rw [e2] at this
    simp only [World.cell?, e3] at this
    rw [Array.getElem?_eq_getElem (xs := v0.cells) (by rw [f2, ← hsz]; omega)] at this
    have h2 := (Array.getElem?_eq_some_iff.1 (by simpa using this)).1
    omega
  obtain ⟨ys, hys⟩ : ∃ ys, ys = xs.toList.take q := ⟨_, rfl⟩
  obtain ⟨zs, hzs⟩ : ∃ zs, zs = (xs.toList.drop q).take av.sz := ⟨_, rfl⟩
  obtain ⟨us, hus⟩ : ∃ us, us = (xs.toList.drop q).drop av.sz := ⟨_, rfl⟩
  have hxs : xs.toList = ys ++ zs ++ us := by rw [hys, hzs, hus, List.append_assoc, List.take_append_drop, List.take_append_drop]
  have hyl : ys.length = q := by rw [hys]; simp; omega
  have hzl : zs.length = av.sz := by rw [hzs]; simp; omega
  have hvl : v.cells.toList.length = av.sz := by simpa using hvs
  have hx' : w.heap[g]? = some (.cells (ys ++ zs ++ us).toArray ty (0, 0)) := by rw [← hxs, Array.toArray_toList]; exact e3
  refine ⟨g, ys, zs, us, ty, e2, hx', hyl, hzl, ?_⟩
  obtain ⟨w', hw'⟩ : ∃ w', w' = w.setRow g (ys ++ v.cells.toList ++ us).toArray := ⟨_, rfl⟩
  rw [← hw']
  have hoth : ∀ k, k ≠ g → w'.heap[k]? = w.heap[k]? := fun k hk => by rw [hw']; exact setRow_other w g k _ hk
  have hnew : w'.heap[g]? = some (.cells (ys ++ v.cells.toList ++ us).toArray ty (0, 0)) := by rw [hw']; exact setRow_heap w _ _ _ _ _ hx'
  have hkeep : ∀ b o u, Us w0 U0 D b o → w.cell? ⟨b, o, none⟩ = some u → Us w0 U0 D b o ∧ w'.cell? ⟨b, o, none⟩ = some u := fun b o u hu hc => by
    refine ⟨hu, ?_⟩
    rw [hw', cell_setRow_other]
    · exact hc
    · exact us_ne hu hmn (hD' o)
  -- cells of the box outside the field
  have hout : ∀ i, i < q ∨ q + av.sz ≤ i → w'.cell? ⟨g, i, none⟩ = w.cell? ⟨g, i, none⟩ := fun i hi => by
    simp only [World.cell?, hnew, hx']
    simp only [Option.isSome_none, Bool.false_eq_true, if_false, List.getElem?_toArray]
    rcases hi with hi | hi
    · rw [List.append_assoc, List.append_assoc, List.getElem?_append_left (by omega), List.getElem?_append_left (by omega)]
    · rw [List.getElem?_append_right (by simp only [List.length_append]; omega), List.getElem?_append_right (by simp only [List.length_append]; omega)]
      simp only [List.length_append, hvl, hzl]
  have hfk : ∀ {m o : Nat}, o < 100 → fKey m o = fKey n q → m = n ∧ o = q := fun {m o} ho e => by unfold fKey at e; omega
  have hlk : ∀ {k}, k ≠ fKey n q → look ((fKey n q, av) :: s) k = look s k := fun {k} hk => look_ne (Ne.symm hk)
  have hl : ∀ m e, Live ((fKey n q, av) :: s) m e ↔ Live s m e := fun m e => by
    unfold Live
    constructor
    · rintro ⟨g1, g2⟩; rw [hlk (by unfold fKey; omega)] at g1; exact ⟨g1, g2⟩
    · rintro ⟨g1, g2⟩; exact ⟨by rw [hlk (by unfold fKey; omega)]; exact g1, g2⟩
  have hl2 : LiveN ((fKey n q, av) :: s) = LiveN s := by funext k; simp only [LiveN, hl]
  have hsize : w'.heap.size = w.heap.size := by rw [hw', setRow_size]
  refine ⟨⟨?_, ?_, ?_, by rw [hsize]; exact h.below.size, fun k hk hkx => ?_⟩, h.dfr, h.size, fun d av' g1 g2 => ?_, fun m o av' g1 g2 g3 g4 => ?_, fun m o o' av1 av2 g1 g2 g3 g4 g5 => ?_, fun k av' g1 g2 => ?_, fun k av' g' g1 g2 g3 g4 => ?_, fun k k' av1 av2 g' g1 g2 g3 g4 => ?_, h.fix, fun b o hd => by rw [hsize]; exact h.dlt b o hd⟩
  · rw [hw']; exact h.below.os
  · rw [hw']; exact h.below.tape
  · rw [hw']; exact h.below.output
  · rw [hoth k]
    · exact h.below.block k hk hkx
    · rintro rfl
      rcases hmn with h1 | h1
      · omega
      · exact hkx h1.2
  · rw [hlk (by unfold fKey; omega)] at g1
    rw [hl2]
    obtain ⟨u, g3, g4⟩ := h.slot d av' g1 g2
    exact ⟨u, g3, g4.keep hkeep⟩
  · rw [hlk (by unfold fKey BN at *; omega)] at g3
    rw [hl2]
    by_cases e : fKey m o = fKey n q
    · obtain ⟨rfl, rfl⟩ := hfk g2 e
      rw [look_same] at g1
      cases g1
      refine ⟨v, hav.keep hkeep, hvs, fun i hi => ?_⟩
      rw [e2]
      simp only [World.cell?, hnew]
      simp only [Option.isSome_none, Bool.false_eq_true, if_false, List.getElem?_toArray]
      rw [List.append_assoc, List.getElem?_append_right (by omega), hyl, show o + i - o = i by omega, List.getElem?_append_left (by omega)]
      simp
    · rw [hlk e] at g1
      obtain ⟨u, k1, k2, k3⟩ := h.fld m o av' g1 g2 g3 g4
      refine ⟨u, k1.keep hkeep, k2, fun i hi => ?_⟩
      by_cases em : m = n
      · subst em
        have ho : o ≠ q := fun e3 => e (by rw [e3])
        rw [e2]
        have k4 := k3 i hi
        rw [e2] at k4
        rw [hout]
        · exact k4
        · rcases Nat.lt_or_ge o q with h3 | h3
          · have := h.fdis m o q av' av0 g1 h0 g2 hq h3
            rw [k2] at hi
            omega
          · have := h.fdis m q o av0 av' h0 g1 hq g2 (by omega)
            omega
      · obtain ⟨g2', _, _, c1, c2, c3⟩ := h.obj9 g3 g4
        have hne : g2' ≠ g := fun e3 => h.disj (100000 + n) (100000 + m) _ _ g hob g3 (bn_okey hbn) (bn_okey g4) (by simp) (by simp) (by omega) hgb (by rw [c1, e3]; rfl)
        rw [c2]
        have k4 := k3 i hi
        rw [c2] at k4
        rw [World.cell?_of_block (w := w) (hoth g2' hne)]
        exact k4
  · have conv : ∀ {o : Nat} {aq : AV}, o < 100 → look ((fKey n q, av) :: s) (fKey m o) = some aq → ∃ aq', look s (fKey m o) = some aq' ∧ aq'.sz = aq.sz := fun {o aq} ho g6 => by
      by_cases e : fKey m o = fKey n q
      · rw [e, look_same] at g6
        cases g6
        exact ⟨av0, by rw [e]; exact h0, hsz.symm⟩
      · rw [hlk e] at g6; exact ⟨aq, g6, rfl⟩
    obtain ⟨b1, c1, c2⟩ := conv g3 g1
    obtain ⟨b2, c3, c4⟩ := conv g4 g2
    rw [← c2]
    exact h.fdis m o o' b1 b2 c1 c3 g3 g4 g5
  · have g2' := g2
    unfold oKey at g2'
    rw [hlk (by unfold fKey; omega)] at g1
    rw [hl2]
    by_cases e : k = 100000 + n
    · subst e
      rw [hob] at g1
      cases g1
      exact ⟨g, _, ty, e1, hnew⟩
    · by_cases h7 : av'.t = 7
      · exact oc_no h7
      · exact (h.obj k av' g1 g2).move hkeep (fun _ hx => ⟨hx, rfl⟩) fun g' hg' => hoth g' fun e3 => h.disj (100000 + n) k _ av' g hob g1 (bn_okey hbn) g2 (by simp) h7 (Ne.symm e) hgb (e3 ▸ hg')
  · have g2' := g2
    unfold oKey at g2'
    rw [hlk (by unfold fKey; omega)] at g1
    rw [hsize]
    exact h.blk k av' g' g1 g2 g3 g4
  · have g3' := g3
    have g4' := g4
    unfold oKey at g3' g4'
    rw [hlk (by unfold fKey; omega)] at g1 g2
    exact h.disj k k' av1 av2 g' g1 g2 g3 g4

theorem a_store_fld (hg : Gd w0 U0 nt ops o gs S) (hd : o.dst = none) {x y : Operand} {ty : TypeId} {z n q : Nat} {p : List Nat} {k' v' l'} {av0 av : AV} (ho : o.op = .store ty x y) (hi : (P.info? ty).map (·.size) = some z) (hx : ev S x = some ⟨2, ⟨k', v', l'⟩, n, q, p⟩) (hb : S (100000 + n) = some .obj) (hf : S (fKey n q) = some av0) (hy : ev S y = some av) (hq : Nat.blt q 100 = true) (hz : av.sz = z) (hz0 : av0.sz = z) (hzp : Nat.blt 0 z = true) (ht : fldB av = true) : AOp P w0 U0 nt ops o (gs ++ (rd x ++ (rd y ++ [100000 + n, fKey n q]))) [] S [(fKey n q, av)] := by
  intro s hs hN a w ⟨D, hv, h⟩ Q K hK
  rw [if_pos (hg s (fun k hk => hs k (List.mem_append_left _ hk)) a w D hv h)]
  obtain ⟨hbn, h1⟩ : BN n ∧ a.eval x = .pointer (some ⟨blkOf (hv (100000 + n)), q, none⟩) := ev_rep h (fun k hk => hs k (List.mem_append_right _ (List.mem_append_left _ hk))) hx
  have h2 := ev_rep h (fun k hk => hs k (List.mem_append_right _ (List.mem_append_right _ (List.mem_append_left _ hk)))) hy
  have hcs : (a.eval y).cells.size = av.sz ∧ ∀ u ∈ (a.eval y).cells.toList, u.oneCell' = true := by
    by_cases ht0 : av.t = 0
    · have h3 := h2
      unfold AVRep at h3
      rw [if_pos ht0] at h3
      refine ⟨?_, h3.1.cells.one⟩
      have := h3.1.cells.len
      unfold AV.sz
      rw [ht0]
      simpa using this
    · obtain ⟨g1, g2⟩ := fld_one h2 ht ht0
      rw [g1]
      refine ⟨?_, by simpa using g2⟩
      unfold AV.sz
      rw [beq_ne ht0]
      rfl
  obtain ⟨g, ys, zs, us, t, e1, e2, e3, e4, e5⟩ := h.storeF hbn ((hs (100000 + n) (by simp)).trans hb) (blt_lt hq) ((hs (fKey n q) (by simp)).trans hf) (hz.trans hz0.symm) (by rw [hz]; exact blt_lt hzp) h2 hcs.1
  rw [e1] at h1
  have hcl : (a.eval y).cells.toList.length = av.sz := by simpa using hcs.1
  have hrun := run_storeTree (P := P) hi e2 e3 (v := a.eval y) rfl (by rw [hcl, e4]) (by rw [hcl, hz]) hcs.2
  have he : (execOp a.eval o).run P w = .ok .skip (w.setRow g (ys ++ (a.eval y).cells.toList ++ us).toArray) := by
    generalize a.eval = ρ at h1 hrun ⊢
    simp [execOp, ho, Instr.storeAt, Instr.sureAddr, h1, hrun]
  unfold Oper.wp
  rw [he, Oper.upon_skip, hd]
  exact hK _ _ ⟨_, _, e5⟩

/-- The fields of a new box. -/
def zeroAV (c : CV) : AV := ⟨0, c, match isNilC c with | true => 1 | false => 0, 0, []⟩
noncomputable def fldsA (d : Nat) : List CV → Nat → AS
  | [], _ => []
  | c :: cs, o => (fKey d o, zeroAV c) :: fldsA d cs (o + c.size)
end
end Go.Proofs.Ytgmllfjidhbjjab


namespace Go.Proofs.Ytgmllfjidhbjjab
open Go.RowKit Go.MapKept
set_option linter.unusedVariables false
set_option linter.unusedSimpArgs false

section
variable {P : Program} {w0 : World} {U0 : UX} {nt : Nat} {ops : Array Oper} {o : Oper} {S : Nat → Option AV} {gs : List Nat} {d : Nat} {s : AS} {a : Act} {w : World} {D : Nat → Nat → Prop} {hv : Nat → Value}

/-- An object has turned: its block alone. -/
theorem SimG.upd (h : SimG w0 U0 nt s a w D hv) {k0 : Nat} (h5 : oKey k0) {av0 av : AV} (h0 : look s k0 = some av0) (ht0 : av0.t ≠ 7) (hobj : av0.t ≠ 9) (ht : av.t = av0.t) (hnd : ∀ g, NoD D av0 (hv k0) g → NoD D av (hv k0) g) (ht6 : av.t ≠ 6) {g : Nat} (hg : hb (hv k0) = some g) {w' : World} (hos : w'.os = w.os) (htp : w'.tape = w.tape) (hou : w'.output = w.output) (hsize : w'.heap.size = w.heap.size) (hoth : ∀ k, k ≠ g → w'.heap[k]? = w.heap[k]?) (hoc : (∀ b o v, Us w0 U0 D b o → w.cell? ⟨b, o, none⟩ = some v → Us w0 U0 D b o ∧ w'.cell? ⟨b, o, none⟩ = some v) → OC (Us w0 U0 D) w' hv (LiveN s) av (hv k0)) :
    SimG w0 U0 nt ((k0, av) :: s) a w' D hv := by
  obtain ⟨hbase, hlt0, hD⟩ := h.blk k0 av0 g h0 h5 ht0 hg
  have h5' := h5
  unfold oKey at h5'
  have ht6' : av0.t ≠ 6 := by rw [← ht]; exact ht6
  have hD' : ∀ o, ¬ D g o := fun o => hD o fun e => absurd e ht6'
  have hne9 : av ≠ .obj := fun e => hobj (by rw [← ht, e])
  have hne90 : av0 ≠ .obj := fun e => hobj (by rw [e])
  have hl : ∀ n e, Live ((k0, av) :: s) n e ↔ Live s n e := fun n e => by
    unfold Live
    by_cases e1 : k0 = n
    · subst e1
      rw [look_same, h0]
      constructor
      · rintro ⟨h1, _⟩; cases h1; exact absurd rfl ht6
      · rintro ⟨h1, _⟩; cases h1; exact absurd rfl ht6'
    · rw [look_ne e1]
  have hl2 : LiveN ((k0, av) :: s) = LiveN s := by funext k; simp only [LiveN, hl]
  have hkeep : ∀ b o v, Us w0 U0 D b o → w.cell? ⟨b, o, none⟩ = some v → Us w0 U0 D b o ∧ w'.cell? ⟨b, o, none⟩ = some v := fun b o v hu hc => by
    refine ⟨hu, ?_⟩
    rw [World.cell?_of_block (w := w) (hoth b (us_ne hu hbase (hD' o)))]
    exact hc
  refine ⟨⟨hos.trans h.below.os, htp.trans h.below.tape, hou.trans h.below.output, by rw [hsize]; exact h.below.size, fun k hk hkx => ?_⟩, h.dfr, h.size, fun d av' h1 h2 => ?_, fun n o av' h1 h2 h3 h10 => ?_, fun n o o' av1 av2 h1 h2 => ?_, fun k av' h1 h2 => ?_, fun k av' g' h1 h2 h3 h4 => ?_, fun k k' av1 av2 g' h1 h2 h3 h4 h6 h7 hne => ?_, h.fix, fun b o hd => ?_⟩
  · rw [hoth k]
    · exact h.below.block k hk hkx
    · rintro rfl
      rcases hbase with h1 | h1
      · omega
      · exact hkx h1.2
  · rw [look_ne (by omega)] at h1
    rw [hl2]
    obtain ⟨v, h3, h4⟩ := h.slot d av' h1 h2
    exact ⟨v, h3, h4.keep hkeep⟩
  · rw [look_ne (by unfold fKey; omega)] at h1
    have hne : k0 ≠ 100000 + n := fun e => by subst e; rw [look_same] at h3; cases h3; exact hne9 rfl
    rw [look_ne hne] at h3
    rw [hl2]
    obtain ⟨v, h4, h6, h7⟩ := h.fld n o av' h1 h2 h3 h10
    refine ⟨v, h4.keep hkeep, h6, fun i hi => ?_⟩
    have hng : blkOf (hv (100000 + n)) ≠ g := by
      rintro e
      obtain ⟨g2, ys, ty2, e1, e2, e3⟩ := h.obj9 h3 h10
      have : hb (hv (100000 + n)) = some g := by rw [e1]; rw [e2] at e; rw [← e]; rfl
      exact h.disj k0 (100000 + n) av0 _ g h0 h3 h5 (bn_okey h10) ht0 (by simp) hne hg this
    rw [World.cell?_of_block (w := w) (hoth _ hng)]
    exact h7 i hi
  · rw [look_ne (by unfold fKey; omega)] at h1 h2
    exact h.fdis n o o' av1 av2 h1 h2
  · rw [hl2]
    by_cases e : k0 = k
    · subst e
      rw [look_same] at h1
      cases h1
      exact hoc hkeep
    · rw [look_ne e] at h1
      by_cases h7 : av'.t = 7
      · exact oc_no h7
      · exact (h.obj k av' h1 h2).move hkeep (fun _ hl => ⟨hl, rfl⟩) fun g' hg' => hoth g' fun e2 => h.disj k0 k av0 av' g h0 h1 h5 h2 ht0 h7 e hg (e2 ▸ hg')
  · rw [hsize]
    by_cases e : k0 = k
    · subst e
      rw [look_same] at h1
      cases h1
      obtain ⟨g1, g2, g3⟩ := h.blk k0 av0 g' h0 h5 ht0 h4
      exact ⟨by rw [lcl_eq ht]; exact g1, g2, hnd g' g3⟩
    · rw [look_ne e] at h1
      exact h.blk k av' g' h1 h2 h3 h4
  · have conv : ∀ q (aq : AV), look ((k0, av) :: s) q = some aq → aq.t ≠ 7 → ∃ aq', look s q = some aq' ∧ aq'.t ≠ 7 := fun q aq h8 h9 => by
      by_cases e : k0 = q
      · exact ⟨av0, by rw [← e]; exact h0, ht0⟩
      · rw [look_ne e] at h8; exact ⟨aq, h8, h9⟩
    obtain ⟨a1, b1, c1⟩ := conv k av1 h1 h6
    obtain ⟨a2, b2, c2⟩ := conv k' av2 h2 h7
    exact h.disj k k' a1 a2 g' b1 b2 h3 h4 c1 c2 hne
  · rw [hsize]; exact h.dlt b o hd


/-- A new map. -/
theorem a_mkmap (nn : Nat) (hg : Gd w0 U0 nt ops o gs S) (hd : o.dst = some d) (hn : Nat.blt d nt = true) (h5 : Nat.blt d 100000 = true) {t : TypeId} (ho : o.op = .makeMap t none) (hn2 : (Nat.ble 200000 nn && Nat.blt nn 400000) = true) : AOp P w0 U0 nt ops o gs [(nn, [])] S [(d, .mref nn), (nn, .mp [])] := by
  intro s hs hN a w ⟨D, hv, h⟩ Q K hK
  rw [if_pos (hg s hs a w D hv h)]
  have hrn := rnB hn2
  have he : (execOp a.eval o).run P w = .ok (.value (.map (some w.heap.size))) (w.alloc (.map #[] 0)) := by
    simp [execOp, ho, Instr.makeMap, run_newObj_alloc]
  unfold Oper.wp
  rw [he, Oper.upon_value, hd]
  have hb' : Below w.heap.size w (w.alloc (.map #[] 0)) := (Below.refl _ _).alloc (Nat.le_refl _) _
  have hG := h.newrow (X := fun _ => False) (avn := .mp []) (v' := .map (some w.heap.size)) (D' := D) hrn (hN (nn, []) (by simp)).nr (by simp) ((BelowX.refl _ w).step hb') (fun b hb => hb.elim) (fun g hg => by
      have hg : some w.heap.size = some g := hg
      cases hg
      refine ⟨.inr (Nat.le_refl _), by simp, fun o _ hd => ?_⟩
      have := h.dlt _ _ hd
      omega) (fun b o hd => .inl hd) (fun b o hd => Nat.lt_of_lt_of_le (h.dlt _ _ hd) hb'.size) (us_keep h.dlt hb' fun _ _ h => h) (fun hv lv => ⟨w.heap.size, #[], 0, rfl, alloc_new _ _, rfl, by simp, by simp⟩)
  refine hK _ _ ⟨_, _, hG.put (blt_lt hn) (blt_lt h5) ⟨RW.rn hrn, ?_, rfl⟩⟩
  simp

/-- All keys are ints. -/
def IntKeys (k : IntKind) (l : List CV) : Prop := ∀ r ∈ l, ∃ i c, r = .row [.sc (.int k i), c]
/-- What is found under a key. -/
def lookR (k : IntKind) (i : Int) : List CV → Option CV
  | [] => none
  | ⟨_, _, [⟨_, .int k' j, _⟩, c]⟩ :: l => if k' = k ∧ j = i then some c else lookR k i l
  | _ :: l => lookR k i l
theorem lookR_row {k : IntKind} {i j : Int} {c : CV} {l : List CV} : lookR k i (.row [.sc (.int k j), c] :: l) = if j = i then some c else lookR k i l := by
  rw [lookR]; simp
theorem find_spec {U : Nat → Nat → Prop} {k : IntKind} {i : Int} : ∀ {l : List CV} {es : List MapEntry} (n : Nat), Ents U w l es → IntKeys k l →
    (Instr.findNow (.int k) (.int k i) es n = some none ∧ lookR k i l = none) ∨ ∃ j e c, Instr.findNow (.int k) (.int k i) es n = some (some (n + j, e.val)) ∧ es[j]? = some e ∧ l[j]? = some (.row [.sc (.int k i), c]) ∧ VRep U w c e.val ∧ e.key = .int k i ∧ lookR k i l = some c
  | [], es, n, h, _ => by have h : es = [] := h; subst h; exact .inl ⟨rfl, rfl⟩
  | r :: l, es, n, ⟨e, es', h1, ⟨k1, c1, g2, g3, g4, g5⟩, h3⟩, hk => by
    obtain ⟨j0, c0, e1⟩ := hk r (by simp)
    rw [e1] at g2
    injection g2 with _ _ g6
    injection g6 with g6 g7
    injection g7 with g7 _
    subst g7
    have hkey : e.key = .int k j0 := by rw [g4, ← g6]
    subst h1
    rw [e1, lookR_row]
    by_cases hj : j0 = i
    · subst hj
      right
      refine ⟨0, e, c0, ?_, rfl, rfl, g5, hkey, by rw [if_pos rfl]⟩
      simp [Instr.findNow, Instr.sameNow, hkey]
    · rw [if_neg hj]
      have hs : Instr.sameNow (.int k) (.int k i) e.key = some false := by
        rw [hkey]
        simp [Instr.sameNow]
        exact fun h => hj h.symm
      rcases find_spec (n + 1) h3 (fun x hx => hk x (List.mem_cons_of_mem _ hx)) with ⟨f1, f2⟩ | ⟨j, e', c, f1, f2, f3, f4, f5, f6⟩
      · left; exact ⟨by simp [Instr.findNow, hs, f1], f2⟩
      · right
        refine ⟨j + 1, e', c, ?_, by simpa using f2, by simpa using f3, f4, f5, f6⟩
        simp [Instr.findNow, hs, f1]
        omega

/-- What is under a key, and whether there is anything. -/
theorem a_lookup (hg : Gd w0 U0 nt ops o gs S) (hd : o.dst = some d) (hn : Nat.blt d nt = true) (h5 : Nat.blt d 100000 = true) {x y : Operand} {t kt et : TypeId} {k : IntKind} {i : Int} {n : Nat} {l : List CV} {zc : CV} {n' q' p'} (ho : o.op = .lookup t x y true) (hu : P.underlying t = some (.map kt et)) (huk : P.underlying kt = some (.int k)) (hzc : zeroT P et = some zc) (hx : ev S x = some (.mref n)) (hy : ev S y = some ⟨0, .sc (.int k i), n', q', p'⟩) (hm' : S n = some (.mp l)) (hik : IntKeys k l) (hzr : ∀ U w v, Rep U w zc v.cells.toList → (∃ it, P.info? et = some it ∧ it.zero = some v) → VRep U w zc v) : AOp P w0 U0 nt ops o (gs ++ (rd x ++ (rd y ++ [n]))) [] S [(d, .tup [(lookR k i l).getD zc, .b (lookR k i l).isSome])] :=
  aop_val hg hd hn h5 (fun k hk => List.mem_append_left _ hk) fun s hs a w D hv hm => by
    obtain ⟨hrn, h1, _⟩ : RN n ∧ a.eval x = hv n ∧ (a.eval x).oneCell' = true := ev_rep hm (fun k hk => hs k (List.mem_append_right _ (List.mem_append_left _ hk))) hx
    have e2 := ev_sc hm (fun k hk => hs k (List.mem_append_right _ (List.mem_append_right _ (List.mem_append_left _ hk)))) hy
    have hok : oKey n := by unfold RN at hrn; unfold oKey; omega
    obtain ⟨g, es, clock, g1, g2, g3, g4, g5⟩ : ∃ g es clock, hv n = .map (some g) ∧ w.heap[g]? = some (.map es clock) ∧ Ents (Us w0 U0 D) w l es.toList ∧ (∀ e ∈ es, e.born < clock) ∧ (es.toList.map (fun e : MapEntry => e.born)).Nodup := hm.obj n _ ((hs n (by simp)).trans hm') hok
    obtain ⟨it, zv, i1, i2, i3⟩ := zeroT_spec hzc
    have hck := run_checkKey (P := P) (w := w) huk (k := .int k i) rfl es.isEmpty 9999
    have hge := Go.MapKept.run_getObj_map (P := P) g2
    rcases find_spec 0 g3 hik (i := i) with ⟨f1, f2⟩ | ⟨j, e, c, f1, f2, f3, f4, f5, f6⟩
    · have hfk := run_findKey (P := P) (w := w) huk f1
      have hzv : (zeroValue et).run P w = .ok zv w := by simp [zeroValue, typeInfo, i1, i2]
      refine ⟨.tuple #[zv, .bool false], ?_, ?_⟩
      · rw [g1] at h1
        generalize a.eval = ρ at h1 e2 ⊢
        simp [execOp, ho, Instr.lookup, run_underlying hu, h1, e2, hge, hck, hfk, hzv]
      · rw [f2]
        exact ⟨[zv, .bool false], rfl, zv, [.bool false], rfl, hzr _ _ zv (i3 _ _) ⟨it, i1, i2⟩, .bool false, [], rfl, vrep_sc.2 ⟨rfl, rfl⟩, rfl⟩
    · have hfk := run_findKey (P := P) (w := w) huk f1
      refine ⟨.tuple #[e.val, .bool true], ?_, ?_⟩
      · rw [g1] at h1
        generalize a.eval = ρ at h1 e2 ⊢
        simp [execOp, ho, Instr.lookup, run_underlying hu, h1, e2, hge, hck, hfk]
      · rw [f6]
        exact ⟨[e.val, .bool true], rfl, e.val, [.bool true], rfl, f4, .bool true, [], rfl, vrep_sc.2 ⟨rfl, rfl⟩, rfl⟩

/-- A pointer that isn't nil. -/
theorem a_nilchk (hg : Gd w0 U0 nt ops o gs S) (hd : o.dst = some d) (hn : Nat.blt d nt = true) (h5 : Nat.blt d 100000 = true) {x : Operand} {n q : Nat} {p : List Nat} {c : CV} (ho : o.op = .nilCheck x) (hx : ev S x = some ⟨2, c, n, q, p⟩) : AOp P w0 U0 nt ops o (gs ++ rd x) [] S [(d, ⟨2, c, n, q, p⟩)] :=
  aop_val hg hd hn h5 (fun k hk => List.mem_append_left _ hk) fun s hs a w D hv hm => by
    obtain ⟨hbn, h1⟩ : BN n ∧ a.eval x = .pointer (some ⟨blkOf (hv (100000 + n)), q, none⟩) := ev_rep hm (fun k hk => hs k (List.mem_append_right _ hk)) hx
    refine ⟨.pointer (some ⟨blkOf (hv (100000 + n)), q, none⟩), ?_, hbn, rfl⟩
    generalize a.eval = ρ at h1 ⊢
    simp [execOp, ho, h1]

/-- A key's value is another, or it is new. -/
def putR (k : IntKind) (i : Int) (c : CV) : List CV → List CV
  | [] => [.row [.sc (.int k i), c]]
  | r :: l => match r with
    | ⟨_, _, [⟨_, .int k' j, _⟩, _]⟩ => if k' = k ∧ j = i then .row [.sc (.int k i), c] :: l else r :: putR k i c l
    | _ => r :: putR k i c l
theorem putR_row {k : IntKind} {i j : Int} {c c' : CV} {l : List CV} : putR k i c (.row [.sc (.int k j), c'] :: l) = if j = i then .row [.sc (.int k i), c] :: l else .row [.sc (.int k j), c'] :: putR k i c l := by
  rw [putR]; simp
theorem putR_spec {k : IntKind} {i : Int} (c : CV) : ∀ {l : List CV}, IntKeys k l → (lookR k i l = none → putR k i c l = l ++ [.row [.sc (.int k i), c]]) ∧ ∀ j c', l[j]? = some (.row [.sc (.int k i), c']) → (∀ j' c'', j' < j → l[j']? ≠ some (.row [.sc (.int k i), c''])) → putR k i c l = l.set j (.row [.sc (.int k i), c])
  | [], _ => ⟨fun _ => rfl, fun j c' h => by simp at h⟩
  | r :: l, hk => by
    obtain ⟨j0, c0, rfl⟩ := hk r (by simp)
    obtain ⟨ih1, ih2⟩ := putR_spec c (l := l) (fun x hx => hk x (List.mem_cons_of_mem _ hx))
    rw [putR_row, lookR_row]
    by_cases hj : j0 = i
    · subst hj
      rw [if_pos rfl, if_pos rfl]
      refine ⟨(fun h => by cases h), fun j c' h hf => ?_⟩
      cases j with
      | zero => rfl
      | succ j => exact absurd rfl (hf 0 c0 (by omega))
    · rw [if_neg hj, if_neg hj]
      refine ⟨fun h => by rw [ih1 h]; rfl, fun j c' h hf => ?_⟩
      cases j with
      | zero =>
        simp at h
        exact absurd h.1 hj
      | succ j =>
        rw [ih2 j c' (by simpa using h) fun j' c'' hlt => by have := hf (j' + 1) c'' (by omega); simpa using this]
        rfl
theorem find_first {U : Nat → Nat → Prop} {k : IntKind} {i : Int} : ∀ {l : List CV} {es : List MapEntry} (n : Nat) {j : Nat} {v : Value}, Ents U w l es → IntKeys k l → Instr.findNow (.int k) (.int k i) es n = some (some (n + j, v)) → ∀ j' c'', j' < j → l[j']? ≠ some (.row [.sc (.int k i), c''])
  | [], es, n, j, v, h, _, hf => by have h : es = [] := h; subst h; cases hf
  | r :: l, es, n, j, v, ⟨e, es', h1, ⟨k1, c1, g2, g3, g4, g5⟩, h3⟩, hk, hf => by
    obtain ⟨j0, c0, e1⟩ := hk r (by simp)
    rw [e1] at g2
    injection g2 with _ _ g6
    injection g6 with g6 g7
    have hkey : e.key = .int k j0 := by rw [g4, ← g6]
    subst h1
    intro j' c'' hlt hr
    by_cases hj : j0 = i
    · subst hj
      simp [Instr.findNow, Instr.sameNow, hkey] at hf
      omega
    · have hs : Instr.sameNow (.int k) (.int k i) e.key = some false := by
        rw [hkey]
        simp [Instr.sameNow]
        exact fun h => hj h.symm
      simp [Instr.findNow, hs] at hf
      cases j' with
      | zero =>
        rw [e1] at hr
        simp at hr
        exact hj hr.1
      | succ j' =>
        obtain ⟨j2, rfl⟩ : ∃ j2, j = j2 + 1 := ⟨j - 1, by omega⟩
        exact find_first (n + 1) (j := j2) h3 (fun x hx => hk x (List.mem_cons_of_mem _ hx)) (by rw [hf]; congr 3; omega) j' c'' (by omega) (by simpa using hr)
theorem ents_set {U : Nat → Nat → Prop} {r : CV} {e' : MapEntry} : ∀ {l : List CV} {es : List MapEntry} {j : Nat}, Ents U w l es → Ent U w r e' → Ents U w (l.set j r) (es.set j e')
  | [], es, j, h, _ => by have h : es = [] := h; subst h; exact rfl
  | x :: l, es, 0, ⟨e, es', h1, h2, h3⟩, hr => by rw [h1]; exact ⟨e', es', rfl, hr, h3⟩
  | x :: l, es, j + 1, ⟨e, es', h1, h2, h3⟩, hr => by rw [h1]; exact ⟨e, es'.set j e', rfl, h2, ents_set h3 hr⟩
theorem ents_snoc {U : Nat → Nat → Prop} {r : CV} {e' : MapEntry} : ∀ {l : List CV} {es : List MapEntry}, Ents U w l es → Ent U w r e' → Ents U w (l ++ [r]) (es ++ [e'])
  | [], es, h, hr => by have h : es = [] := h; subst h; exact ⟨e', [], rfl, hr, rfl⟩
  | x :: l, es, ⟨e, es', h1, h2, h3⟩, hr => by rw [h1]; exact ⟨e, es' ++ [e'], rfl, h2, ents_snoc h3 hr⟩

/-- m[i] = c -/
theorem a_mapup (hg : Gd w0 U0 nt ops o gs S) (hd : o.dst = none) {x y z : Operand} {t kt et : TypeId} {k : IntKind} {i : Int} {n : Nat} {l : List CV} {c : CV} {n' q' p' n2 q2 p2} (ho : o.op = .mapUpdate t x y z) (hu : P.underlying t = some (.map kt et)) (huk : P.underlying kt = some (.int k)) (hx : ev S x = some (.mref n)) (hy : ev S y = some ⟨0, .sc (.int k i), n', q', p'⟩) (hz : ev S z = some ⟨0, c, n2, q2, p2⟩) (hm' : S n = some (.mp l)) (hik : IntKeys k l) : AOp P w0 U0 nt ops o (gs ++ (rd x ++ (rd y ++ (rd z ++ [n])))) [] S [(n, .mp (putR k i c l))] := by
  intro s hs hN a w ⟨D, hv, h⟩ Q K hK
  rw [if_pos (hg s (fun k hk => hs k (List.mem_append_left _ hk)) a w D hv h)]
  have hm := (hs n (by simp)).trans hm'
  obtain ⟨hrn, h1, _⟩ : RN n ∧ a.eval x = hv n ∧ (a.eval x).oneCell' = true := ev_rep h (fun k hk => hs k (List.mem_append_right _ (List.mem_append_left _ hk))) hx
  have e2 := ev_sc h (fun k hk => hs k (List.mem_append_right _ (List.mem_append_right _ (List.mem_append_left _ hk)))) hy
  have e3 := ev_val h (fun k hk => hs k (List.mem_append_right _ (List.mem_append_right _ (List.mem_append_right _ (List.mem_append_left _ hk))))) hz
  have hok : oKey n := by unfold RN at hrn; unfold oKey; omega
  obtain ⟨g, es, clock, g1, g2, g3, g4, g5⟩ : ∃ g es clock, hv n = .map (some g) ∧ w.heap[g]? = some (.map es clock) ∧ Ents (Us w0 U0 D) w l es.toList ∧ (∀ e ∈ es, e.born < clock) ∧ (es.toList.map (fun e : MapEntry => e.born)).Nodup := h.obj n _ hm hok
  have hck := run_checkKey (P := P) (w := w) huk (k := .int k i) rfl false 9999
  have hge := Go.MapKept.run_getObj_map (P := P) g2
  obtain ⟨p1, p2'⟩ := putR_spec (i := i) c hik
  have fin : ∀ (es' : Array MapEntry) (clock' : Nat), (execOp a.eval o).run P w = .ok .skip { w with heap := w.heap.setIfInBounds g (.map es' clock') } → Ents (Us w0 U0 D) w (putR k i c l) es'.toList → (∀ e ∈ es', e.born < clock') → (es'.toList.map (fun e : MapEntry => e.born)).Nodup → o.wp P a w K Q := fun es' clock' he k1 k2 k3 => by
    obtain ⟨q1, q2⟩ := heap_set (o' := Obj.map es' clock') g2
    unfold Oper.wp
    rw [he, Oper.upon_skip, hd]
    refine hK _ _ ⟨_, _, h.upd (av := .mp (putR k i c l)) (g := g) hok hm (by simp) (by simp) rfl (fun g' hn o _ => hn o (by simp)) (by simp) (by rw [g1]; rfl) rfl rfl rfl (by simp) q2 fun hkp => ?_⟩
    exact ⟨g, es', clock', g1, q1, k1.keep hkp, k2, k3⟩
  rcases find_spec 0 g3 hik (i := i) with ⟨f1, f2⟩ | ⟨j, e, c', f1, f2, f3, f4, f5, f6⟩
  · have hfk := run_findKey (P := P) (w := w) huk f1
    refine fin (es.push { key := .int k i, val := a.eval z, born := clock }) (clock + 1) ?_ ?_ ?_ ?_
    · rw [g1] at h1
      have hso := run_setObj_map (P := P) (Obj.map (es.push { key := .int k i, val := a.eval z, born := clock }) (clock + 1)) g2
      generalize a.eval = ρ at h1 e2 hso ⊢
      simp [execOp, ho, Instr.mapUpdate, run_underlying hu, h1, e2, hge, hck, hfk, hso]
    · rw [p1 f2, Array.toList_push]
      exact ents_snoc g3 ⟨.sc (.int k i), c, rfl, rfl, rfl, e3⟩
    · intro e he
      rcases Array.mem_push.1 he with he | rfl
      · have := g4 e he; omega
      · exact Nat.lt_succ_self _
    · rw [Array.toList_push, List.map_append, List.nodup_append]
      refine ⟨g5, by simp, fun a1 h1 b1 h2 => ?_⟩
      simp at h1 h2
      obtain ⟨e, he, rfl⟩ := h1
      have := g4 e he
      omega
  · have hfk := run_findKey (P := P) (w := w) huk f1
    rw [Nat.zero_add] at hfk
    have hjl : j < es.size := by
      have := (List.getElem?_eq_some_iff.1 f2).1
      simpa using this
    have hej : es[j]? = some e := by rw [← Array.getElem?_toList]; exact f2
    have hmod : (es.modify j fun e => { e with key := .int k i, val := a.eval z }).toList = es.toList.set j { e with key := .int k i, val := a.eval z } := by
      rw [Array.toList_modify]
      apply List.ext_getElem?
      intro q
      rw [List.getElem?_modify, List.getElem?_set]
      by_cases hq : j = q
      · subst hq
        have : es[j] = e := (Array.getElem?_eq_some_iff.1 hej).2
        simp [hjl, this]
      · simp [hq]
    have hbr : (es.modify j fun e => { e with key := .int k i, val := a.eval z }).toList.map (fun e : MapEntry => e.born) = es.toList.map (fun e : MapEntry => e.born) := by
      rw [hmod, List.map_set]
      apply List.ext_getElem?
      intro q
      rw [List.getElem?_set]
      by_cases hq : j = q
      · subst hq
        rw [if_pos rfl, if_pos (by simpa using hjl), List.getElem?_map, f2]
        rfl
      · rw [if_neg hq]
    refine fin (es.modify j fun e => { e with key := .int k i, val := a.eval z }) clock ?_ ?_ ?_ ?_
    · rw [g1] at h1
      have hso := run_setObj_map (P := P) (Obj.map (es.modify j fun e => { e with key := .int k i, val := a.eval z }) clock) g2
      have hst : (Instr.keyThatStays (.int k i) (.int k i)).run P w = .ok (.int k i) w := by simp [Instr.keyThatStays, Instr.sameBits]
      generalize a.eval = ρ at h1 e2 hso ⊢
      simp [execOp, ho, Instr.mapUpdate, run_underlying hu, h1, e2, hge, hck, hfk, hej, f5, hst, hso]
    · rw [hmod, p2' j c' f3 (find_first 0 (j := j) g3 hik f1)]
      exact ents_set g3 ⟨.sc (.int k i), c, rfl, rfl, rfl, e3⟩
    · intro e' he
      have h6 : e'.born ∈ (es.modify j fun e => { e with key := .int k i, val := a.eval z }).toList.map (fun e : MapEntry => e.born) := List.mem_map.2 ⟨e', Array.mem_toList_iff.2 he, rfl⟩
      rw [hbr] at h6
      obtain ⟨e4, h7, h8⟩ := List.mem_map.1 h6
      rw [← h8]
      exact g4 e4 (by simpa using h7)
    · rw [hbr]; exact g5
end
end Go.Proofs.Ytgmllfjidhbjjab


namespace Go.Proofs.Ytgmllfjidhbjjab
open Go.RowKit
set_option linter.unusedVariables false
set_option linter.unusedSimpArgs false

section
variable {P : Program} {w0 : World} {U0 : UX} {nt : Nat} {ops : Array Oper} {o : Oper} {S : Nat → Option AV} {gs : List Nat} {d : Nat} {s : AS} {a : Act} {w : World} {D : Nat → Nat → Prop} {hv : Nat → Value}

/-- What is built, nothing told of its room. -/
theorem AOp.plain {R : List Nat} {N : List (Nat × List Nat)} {c : CV} {n q : Nat} {p : List Nat} (h5 : Nat.blt d 100000 = true) (h : AOp P w0 U0 nt ops o R N S [(d, ⟨0, c, n, q, p⟩)]) : AOp P w0 U0 nt ops o R N S [(d, .val c)] := by
  intro s hs hN a w hsim Q K hK
  refine h s hs hN a w hsim Q K fun a' w' hs' => hK a' w' ?_
  obtain ⟨D, hv, hg⟩ := hs'
  obtain ⟨v, g1, g2⟩ := hg.slot d _ (look_same _ _ _) (blt_lt h5)
  refine ⟨D, hv, (hg.know (blt_lt h5) g1 (avrep_val g2.1)).congr fun k => ?_⟩
  show look ((d, AV.val c) :: s) k = look ((d, AV.val c) :: (d, _) :: s) k
  rw [look_cons, look_cons, look_cons]
  split <;> rfl
theorem a_buildP (hg : Gd w0 U0 nt ops o gs S) (hd : o.dst = some d) (hn : Nat.blt d nt = true) (h5 : Nat.blt d 100000 = true) {t : TypeId} {parts : Array (Nat × Operand)} {fs : Array Field} {it : TypeInfo} {cs : Array Value} {sz : List Nat} {zs r : List CV} {n : Nat} {p : List Nat} (ho : o.op = .build t parts) (hu : P.underlying t = some (.struct fs)) (hi : P.info? t = some it) (hz : it.zero = some (.agg cs)) (hsz : szO P fs.toList 0 = some sz) (h0 : zsO sz cs.toList = some zs) (hr : setsO S parts.toList zs = some r) (hp : nilB zs parts.toList 0 = (n, p)) :
    AOp P w0 U0 nt ops o (gs ++ rds parts.toList) [] S [(d, .val (.row r))] := (a_build hg hd hn h5 ho hu hi hz hsz h0 hr hp).plain h5

/-- A field that has no room behind it is read. -/
theorem load_full (hm : SimG w0 U0 nt s a w D hv) {x : Operand} {ty e : TypeId} {l : List CV} {n q : Nat} (ho : o.op = .load ty x) (hu : P.underlying ty = some (.slice e)) (hx : BN n ∧ a.eval x = .pointer (some ⟨blkOf (hv (100000 + n)), q, none⟩)) (hb : look s (100000 + n) = some .obj) {n3 q3 p3} (hf : look s (fKey n q) = some ⟨18, .lst l, n3, q3, p3⟩) (hq : q < 100) : ∃ v, (execOp a.eval o).run P w = .ok (.value v) w ∧ VRep (Us w0 U0 D) w (.lst l) v ∧ ∃ ao n, v = .slice ao n n := by
  obtain ⟨hbn, h1⟩ := hx
  obtain ⟨v, g1, g2, g3⟩ := hm.fld n q _ hf hq hb hbn
  have g1 : VRep (Us w0 U0 D) w (.lst l) v ∧ ∃ ao n, v = .slice ao n n := g1
  obtain ⟨g4, ao, k, rfl⟩ := g1
  refine ⟨_, ?_, g4, ao, k, rfl⟩
  have := g3 0 (by simp [Value.cells])
  simp only [Nat.add_zero, Value.cells] at this
  have hl : (loadVar ty ⟨blkOf (hv (100000 + n)), q, none⟩).run P w = .ok (.slice ao k k) w := by
    simp [loadVar, run_isAgg hu, aggB, run_load, this]
  generalize a.eval = ρ at h1 ⊢
  simp [execOp, ho, Instr.loadAt, Instr.sureAddr, h1, hl]
theorem a_load_full (hg : Gd w0 U0 nt ops o gs S) (hd : o.dst = some d) (hn : Nat.blt d nt = true) (h5 : Nat.blt d 100000 = true) {x : Operand} {ty e : TypeId} {n q : Nat} {p : List Nat} {k' v' l'} {l : List CV} (ho : o.op = .load ty x) (hu : P.underlying ty = some (.slice e)) (hx : ev S x = some ⟨2, ⟨k', v', l'⟩, n, q, p⟩) (hb : S (100000 + n) = some .obj) {n3 q3 p3} (hf : S (fKey n q) = some ⟨18, .lst l, n3, q3, p3⟩) (hq : Nat.blt q 100 = true) : AOp P w0 U0 nt ops o (gs ++ (rd x ++ [100000 + n, fKey n q])) [] S [(d, .full (.lst l))] :=
  aop_val hg hd hn h5 (fun k hk => List.mem_append_left _ hk) fun s hs a w D hv hm => by
    obtain ⟨v, h1, h2, h3⟩ := load_full (P := P) hm ho hu (ev_rep hm (fun k hk => hs k (List.mem_append_right _ (List.mem_append_left _ hk))) hx) ((hs (100000 + n) (by simp)).trans hb) ((hs (fKey n q) (by simp)).trans hf) (blt_lt hq)
    exact ⟨v, h1, h2, h3⟩
theorem a_load_fullv (hg : Gd w0 U0 nt ops o gs S) (hd : o.dst = some d) (hn : Nat.blt d nt = true) (h5 : Nat.blt d 100000 = true) {x : Operand} {ty e : TypeId} {n q : Nat} {p : List Nat} {k' v' l'} {l : List CV} (ho : o.op = .load ty x) (hu : P.underlying ty = some (.slice e)) (hx : ev S x = some ⟨2, ⟨k', v', l'⟩, n, q, p⟩) (hb : S (100000 + n) = some .obj) {n3 q3 p3} (hf : S (fKey n q) = some ⟨18, .lst l, n3, q3, p3⟩) (hq : Nat.blt q 100 = true) : AOp P w0 U0 nt ops o (gs ++ (rd x ++ [100000 + n, fKey n q])) [] S [(d, .val (.lst l))] :=
  aop_val hg hd hn h5 (fun k hk => List.mem_append_left _ hk) fun s hs a w D hv hm => by
    obtain ⟨v, h1, h2, h3⟩ := load_full (P := P) hm ho hu (ev_rep hm (fun k hk => hs k (List.mem_append_right _ (List.mem_append_left _ hk))) hx) ((hs (100000 + n) (by simp)).trans hb) ((hs (fKey n q) (by simp)).trans hf) (blt_lt hq)
    exact ⟨v, h1, avrep_val h2⟩

/-- x[:n:n] -/
theorem a_clip (hg : Gd w0 U0 nt ops o gs S) (hd : o.dst = some d) (hn : Nat.blt d nt = true) (h5 : Nat.blt d 100000 = true) {x y y2 : Operand} {t e : TypeId} {z : Nat} {l : List CV} {k k2 : IntKind} {i i2 : Int} {n q p n' q' p' n2 q2 p2} (ho : o.op = .slice t x none (some y) (some y2)) (hu : P.underlying t = some (.slice e)) (hi : (P.info? e).map (·.size) = some z) (hx : ev S x = some ⟨0, .lst l, n, q, p⟩) (hy : ev S y = some ⟨0, .sc (.int k i), n', q', p'⟩) (hy2 : ev S y2 = some ⟨0, .sc (.int k2 i2), n2, q2, p2⟩) (hij : i = (l.length : Int)) (hij2 : i2 = (l.length : Int)) (hz : ∀ c ∈ l, c.size = z) : AOp P w0 U0 nt ops o (gs ++ (rd x ++ (rd y ++ rd y2))) [] S [(d, .full (.lst l))] :=
  aop_val hg hd hn h5 (fun k hk => List.mem_append_left _ hk) fun s hs a w D hv hm => by
    have hv := ev_val hm (fun k hk => hs k (List.mem_append_right _ (List.mem_append_left _ hk))) hx
    have e2 := ev_sc hm (fun k hk => hs k (List.mem_append_right _ (List.mem_append_right _ (List.mem_append_left _ hk)))) hy
    have e3 := ev_sc hm (fun k hk => hs k (List.mem_append_right _ (List.mem_append_right _ (List.mem_append_right _ hk)))) hy2
    obtain ⟨ao, m, cap, h1, h2, h3, h4, h6, ys, h7, h8⟩ := vrep_lst.1 hv
    have hsz := run_sizeOf (P := P) (w := w) hi
    subst hij
    subst hij2
    have hb1 := run_bound (P := P) (w := w) (k := k2) (j := l.length) (y := cap) (code := .slice3Acap) (by omega)
    have hb2 := run_bound (P := P) (w := w) (k := k) (j := l.length) (y := l.length) (code := .slice3B) (Nat.le_refl _)
    refine ⟨.slice ao l.length l.length, ?_, vrep_lst.2 ⟨ao, l.length, l.length, rfl, rfl, Nat.le_refl _, by omega, fun h => ⟨by have := (h6 h).1; omega, by have := (h6 h).1; omega⟩, ys, h7, h8⟩, ao, l.length, rfl⟩
    generalize a.eval = ρ at h1 e2 e3 ⊢
    simp [execOp, ho, Instr.sliceAt, Instr.slice, run_underlying hu, h1, e2, e3, Instr.sliceBounds, hb1, hb2, hsz]
    intro _
    cases ao with
    | none => rfl
    | some ad => cases ad with | mk b f g => cases g <;> simp [Addr.add]

theorem run_eqmap {t k e : TypeId} (hu : P.underlying t = some (.map k e)) (w : World) : (Op.equal t (.map none) (.map none)).run P w = .ok true w := by
  unfold Op.equal
  rw [show Op.maxDepth = 9999 + 1 from rfl, Op.equalIn]
  simp [run_underlying hu]
/-- A map that is nil. -/
theorem a_mnil (hg : Gd w0 U0 nt ops o gs S) (hd : o.dst = some d) (hn : Nat.blt d nt = true) (h5 : Nat.blt d 100000 = true) {x : Operand} {t1 t2 e k : TypeId} {n q p} (ho : o.op = .binOp .eql t1 x (.const (.map none)) t2) (hu : P.underlying t1 = some (.map k e)) (hx : ev S x = some ⟨0, .sc (.map none), n, q, p⟩) : AOp P w0 U0 nt ops o (gs ++ rd x) [] S [(d, .val (.b true))] :=
  aop_val hg hd hn h5 (fun k hk => List.mem_append_left _ hk) fun s hs a w D hv hm => by
    have h1 := ev_sc hm (fun k hk => hs k (List.mem_append_right _ hk)) hx
    have hb := run_eqmap (P := P) hu w
    have hc : a.eval (.const (.map none)) = .map none := rfl
    refine ⟨.bool true, ?_, avrep_sc rfl⟩
    generalize a.eval = ρ at h1 hc ⊢
    simp [execOp, ho, h1, hc, eqGuard, binOp, hb]
theorem a_mnot (hg : Gd w0 U0 nt ops o gs S) (hd : o.dst = some d) (hn : Nat.blt d nt = true) (h5 : Nat.blt d 100000 = true) {x : Operand} {t1 t2 e k : TypeId} {n q p} (ho : o.op = .binOp .neq t1 x (.const (.map none)) t2) (hu : P.underlying t1 = some (.map k e)) (hx : ev S x = some ⟨0, .sc (.map none), n, q, p⟩) : AOp P w0 U0 nt ops o (gs ++ rd x) [] S [(d, .val (.b false))] :=
  aop_val hg hd hn h5 (fun k hk => List.mem_append_left _ hk) fun s hs a w D hv hm => by
    have h1 := ev_sc hm (fun k hk => hs k (List.mem_append_right _ hk)) hx
    have hb := run_eqmap (P := P) hu w
    have hc : a.eval (.const (.map none)) = .map none := rfl
    refine ⟨.bool false, ?_, avrep_sc rfl⟩
    generalize a.eval = ρ at h1 hc ⊢
    simp [execOp, ho, h1, hc, eqGuard, binOp, hb]

/-- append to a slice without room: always new memory. -/
theorem run_appF {t ty e : TypeId} {z : Value} {size bytes : Nat} (ht : P.underlying t = some (.slice e)) (hi : (P.info? e).map (fun i => (i.zero, i.size, i.bytes)) = some (some z, size, bytes)) (hzs : z.cells.size = size) (hsz : 0 < size)
    {ao1 : Option Addr} {n : Nat} {xs : List Value} {U : Nat → Nat → Prop} (hnil1 : ao1 = none → n = 0) (hb1 : At U w ao1 xs) (hl1 : xs.length = n * size) {ao : Option Addr} {m c : Nat} {ys : List Value} (hnil : ao = none → m = 0) (hb : At U w ao ys) (hl : ys.length = m * size) (h1 : ∀ u ∈ ys, u.oneCell' = true) (hm : 0 < m) (h63 : n + m ≤ maxLen) (hbytes : (n + m) * bytes ≤ 140737488355328) :
    ∃ v' w', Sem.run P (Builtin.append_ #[t, t] ty #[.slice ao1 n n, .slice ao m c]) w = .ok v' w' ∧ w'.ownsRow w.heap.size e size v' (n + m) (xs ++ ys) ∧ w.grownBy w' none := by
  obtain ⟨i, hi1, hi2, hi3, hi4⟩ := info_parts hi
  have hat : ∀ {ad : Addr} {zs : List Value}, At U w (some ad) zs → ∀ j u, zs[j]? = some u → w.cell? (ad.add j) = some u := fun {ad zs} hA j u hj => by
    have hjl : j < zs.length := by
      rcases Nat.lt_or_ge j zs.length with h | h
      · exact h
      · rw [List.getElem?_eq_none h] at hj; cases hj
    rcases hA with rfl | ⟨b, off, ha, hc⟩
    · simp at hjl
    · cases ha
      rw [add_at, (hc j hjl).2, hj]
  cases ao with
  | none => have := hnil rfl; omega
  | some ad =>
    cases ao1 with
    | none =>
      have hn := hnil1 rfl
      subst hn
      have : xs = [] := List.eq_nil_of_length_eq_zero (by simpa using hl1)
      subst this
      obtain ⟨v', w', hr, ho, hg, _⟩ := run_append_own (P := P) w w.heap.size t ty e i z size bytes ht hi1 hi2 hi3 hi4 hzs hsz (.slice none 0 0) 0 [] (World.ownsRow_nil _ _ _ _) ad m c ys hl (hat hb) h1 h63 hbytes (Nat.le_refl _)
      exact ⟨v', w', hr, ho, hg⟩
    | some ad1 => exact run_append_arg_grows (P := P) w t ty e i z size bytes ht hi1 hi2 hi3 hi4 hzs hsz ad1 n n xs hl1 (hat hb1) ad m c ys hl (hat hb) (by omega) h63 hbytes

theorem a_appF (nn : Nat) (hg : Gd w0 U0 nt ops o gs S) (hd : o.dst = some d) (hn : Nat.blt d nt = true) (h5 : Nat.blt d 100000 = true) {x y : Operand} {t e size bytes : Nat} {z : Value} {l l2 : List CV} {n2 q2 p2} (ho : o.op = .call { callee := .builtin .append, args := #[x, y], argTypes := #[t, t] }) (ht : P.underlying t = some (.slice e)) (hi : (P.info? e).map (fun i => (i.zero, i.size, i.bytes)) = some (some z, size, bytes)) (hzs : Nat.beq z.cells.size size = true) (hsz : Nat.blt 0 size = true) (hbt : Nat.ble bytes 1000 = true)
    (hx : ev S x = some (.full (.lst l))) (hy : ev S y = some ⟨0, .lst l2, n2, q2, p2⟩) (hn2 : (Nat.ble 200000 nn && Nat.blt nn 400000) = true) (hpos : Nat.blt 0 l2.length = true) (hl : ∀ c ∈ l, c.size = size) (hl2 : ∀ c ∈ l2, c.size = size) (hbd : l.length + l2.length ≤ 100000000000) :
    AOp P w0 U0 nt ops o (gs ++ (rd x ++ rd y)) [(nn, [])] S [(d, .sl nn 0 (l.length + l2.length) size), (nn, .mrow e size (l ++ l2))] := by
  intro s hs hN a w ⟨D, hv, h⟩ Q K hK
  rw [if_pos (hg s (fun k hk => hs k (List.mem_append_left _ hk)) a w D hv h)]
  obtain ⟨h1, ao, n, hvx⟩ : VRep (Us w0 U0 D) w (.lst l) (a.eval x) ∧ ∃ ao n, a.eval x = .slice ao n n := ev_rep h (fun k hk => hs k (List.mem_append_right _ (List.mem_append_left _ hk))) hx
  have h3 := ev_val h (fun k hk => hs k (List.mem_append_right _ (List.mem_append_right _ hk))) hy
  rw [hvx] at h1
  obtain ⟨ao', n', cap, e1, e2, e3, e4, e5, ys, e6, e7⟩ := vrep_lst.1 h1
  injection e1 with f1 f2 f3
  subst f1; subst f2; subst f3
  obtain ⟨ao2, m, c2, g1, g2, g3, g4, g6, ys2, g7, g8⟩ := vrep_lst.1 h3
  have hyl : ys.length = n * size := by rw [sq_len (n := CV.size) (fun c _ xs h => h.len) e7, sum_const hl, e2]
  have hyl2 : ys2.length = m * size := by rw [sq_len (n := CV.size) (fun c _ xs h => h.len) g8, sum_const hl2, g2]
  have hbt := Nat.le_of_ble_eq_true hbt
  have hsz := blt_lt hsz
  have hpos := blt_lt hpos
  have hmul : (n + m) * bytes ≤ 100000000000 * 1000 := Nat.mul_le_mul (by omega) hbt
  obtain ⟨v', w', r1, r2, r3⟩ := run_appF (P := P) (ty := o.type) ht hi (Nat.eq_of_beq_eq_true hzs) hsz (fun h => (e5 h).1) e6 hyl (fun h => (g6 h).1) g7 hyl2 (c := c2) (rep_one_of g8) (by omega) (by unfold maxLen; omega) (by omega)
  have hrn2 := rnB hn2
  have hb2 : hb v' = v'.ownBlock := by
    rcases r2.2 with ⟨rfl, _⟩ | ⟨g, cap, cur, rfl, _⟩ <;> rfl
  have hkp : ∀ b o u, Us w0 U0 D b o → w.cell? ⟨b, o, none⟩ = some u → Us w0 U0 D b o ∧ w'.cell? ⟨b, o, none⟩ = some u := fun b o u hu hc => by
    refine ⟨hu, ?_⟩
    have hlt : b < w.heap.size := World.block_lt_of_cell? w _ hc
    rw [World.cell?_of_block (w := w) (r3.block b hlt (by simp))]
    exact hc
  have hG := h.newrow (avn := .mrow e size (l ++ l2)) (v' := v') (D' := D) (X := fun _ => False) (n := nn) hrn2 (hN (nn, []) (by simp)).nr (by simp) ⟨r3.os, r3.tape, r3.output, r3.size, fun b hb hx => r3.block b hb (by simp)⟩ (fun b hb => hb.elim) (fun g hg => by
      rw [hb2] at hg
      refine ⟨.inr (r2.lt g hg).1, (r2.lt g hg).2, fun o _ hd => ?_⟩
      have := (r2.lt g hg).1
      have := h.dlt _ _ hd
      omega) (fun b o hd => .inl hd) (fun b o hd => Nat.lt_of_lt_of_le (h.dlt _ _ hd) r3.size) hkp (fun hv lv => by
      refine ⟨ys ++ ys2, ?_, hsz, fun c hc => ?_, ?_⟩
      · show w'.ownsRow 0 e size v' (l ++ l2).length (ys ++ ys2)
        rw [List.length_append, ← e2, ← g2]
        exact ownsRow_mono r2 (Nat.zero_le _)
      · rcases List.mem_append.1 hc with hc | hc
        · exact hl c hc
        · exact hl2 c hc
      · show Sq ((l ++ l2).map _) _
        rw [List.map_append]
        exact sq_append (Sq.keep hkp e7) (Sq.keep hkp g8))
  have he : (execOp a.eval o).run P w = .ok (.value v') w' := by
    generalize a.eval = ρ at hvx g1 ⊢
    simp [execOp, ho, resolve, invoke, builtin, hvx, g1, r1, Result.andThen]
  unfold Oper.wp
  rw [he, Oper.upon_value, hd]
  refine hK _ _ ⟨_, _, hG.put (blt_lt hn) (blt_lt h5) ?_⟩
  refine ⟨RW.rn hrn2, ?_⟩
  obtain ⟨a1, c1, k1, k2, k3⟩ := own_addr (ownsRow_mono r2 (Nat.zero_le _))
  have := slV_all (z := size) k1 k2 k3
  show SlV ((fun x => if x = nn then v' else hv x) nn) 0 (l.length + l2.length) size v'
  simp only [if_true]
  rw [← e2, ← g2]
  exact this

theorem made_flat (z : List Value) (hz : 0 < z.length) (n : Nat) : (madeCells z.toArray (n * z.length)).toList = (List.replicate n z).flatten := by
  apply List.ext_getElem?
  intro k
  rw [flat_const hz _ (fun v hv => by rw [List.eq_of_mem_replicate hv])]
  have hlen : (madeCells z.toArray (n * z.length)).toList.length = n * z.length := by simp [size_madeCells]
  rcases Nat.lt_or_ge k (n * z.length) with h | h
  · have hd : k / z.length < n := by rw [Nat.div_lt_iff_lt_mul hz]; exact h
    have hm : k % z.length < z.length := Nat.mod_lt _ hz
    rw [List.getElem?_replicate, if_pos hd]
    simp only [Option.bind_some]
    rw [List.getElem?_eq_getElem hm]
    simp [madeCells, h, hm]
  · rw [List.getElem?_eq_none (by omega), List.getElem?_replicate, if_neg]
    · rfl
    · rw [Nat.not_lt, Nat.le_div_iff_mul_le hz]; exact h

/-- make -/
theorem a_mkM (nn : Nat) (hg : Gd w0 U0 nt ops o gs S) (hd : o.dst = some d) (hn : Nat.blt d nt = true) (h5 : Nat.blt d 100000 = true) {x y : Operand} {t e size bytes k : Nat} {z : Value} {zc : CV} {i1 i2 : Int} {k1 k2 : IntKind} {n1 q1 p1 n2 q2 p2} (ho : o.op = .makeSlice t x y) (ht : P.underlying t = some (.slice e)) (hi : (P.info? e).map (fun i => (i.zero, i.size, i.bytes)) = some (some z, size, bytes)) (hzc : zeroT P e = some zc) (hzs : Nat.beq z.cells.size size = true) (hzz : zc.size = size) (hsz : Nat.blt 0 size = true) (hbt : Nat.ble bytes 1000 = true)
    (hx : ev S x = some ⟨0, .sc (.int k1 i1), n1, q1, p1⟩) (hy : ev S y = some ⟨0, .sc (.int k2 i2), n2, q2, p2⟩) (hn2 : (Nat.ble 200000 nn && Nat.blt nn 400000) = true) (h1 : i1 = (k : Int)) (h2 : i2 = (k : Int)) (hs1 : Nat.ble size 160 = true) (hbd : k ≤ 100000) :
    AOp P w0 U0 nt ops o (gs ++ (rd x ++ rd y)) [(nn, [])] S [(d, .sl nn 0 k size), (nn, .mrow e size (List.replicate k zc))] := by
  intro s hs hN a w ⟨D, hv, h⟩ Q K hK
  rw [if_pos (hg s (fun k hk => hs k (List.mem_append_left _ hk)) a w D hv h)]
  have e1 := ev_sc h (fun k hk => hs k (List.mem_append_right _ (List.mem_append_left _ hk))) hx
  have e2 := ev_sc h (fun k hk => hs k (List.mem_append_right _ (List.mem_append_right _ hk))) hy
  subst h1
  subst h2
  obtain ⟨i, hi1, hi2, hi3, hi4⟩ := info_parts hi
  have hsz := blt_lt hsz
  have hbt := Nat.le_of_ble_eq_true hbt
  have hzs := Nat.eq_of_beq_eq_true hzs
  have hmul : bytes * k ≤ 1000 * 100000 := Nat.mul_le_mul hbt hbd
  have hk : k * size ≤ 100000 * 160 := Nat.mul_le_mul hbd (Nat.le_of_ble_eq_true hs1)
  obtain ⟨w', r1, r2, r3⟩ := run_makeSlice_full (P := P) (w := w) w.heap.size t e i z size ht hi1 hi2 hi3 k1 k2 k (by omega) (by rw [hi4]; omega) (by unfold maxLen; omega) (Nat.le_refl _)
  have hrn2 := rnB hn2
  obtain ⟨it, z', f1, f2, f3⟩ := zeroT_spec hzc
  rw [hi1] at f1
  cases f1
  rw [hi2] at f2
  cases f2
  have hmf : (madeCells z.cells (k * size)).toList = (List.replicate k z.cells.toList).flatten := by
    have := made_flat z.cells.toList (by simpa [hzs] using hsz) k
    simpa [hzs] using this
  rw [hmf] at r2
  have hkp : ∀ b o u, Us w0 U0 D b o → w.cell? ⟨b, o, none⟩ = some u → Us w0 U0 D b o ∧ w'.cell? ⟨b, o, none⟩ = some u := fun b o u hu hc => by
    refine ⟨hu, ?_⟩
    have hlt : b < w.heap.size := World.block_lt_of_cell? w _ hc
    rw [World.cell?_of_block (w := w) (r3.block b hlt (by simp))]
    exact hc
  have hG := h.newrow (avn := .mrow e size (List.replicate k zc)) (v' := .slice (some ⟨w.heap.size, 0, none⟩) k k) (D' := D) (X := fun _ => False) (n := nn) hrn2 (hN (nn, []) (by simp)).nr (by simp) ⟨r3.os, r3.tape, r3.output, r3.size, fun b hb hx => r3.block b hb (by simp)⟩ (fun b hb => hb.elim) (fun g hg => by
      have hg : (Value.slice (some ⟨w.heap.size, 0, none⟩) k k).ownBlock = some g := hg
      refine ⟨.inr (r2.lt g hg).1, (r2.lt g hg).2, fun o _ hd => ?_⟩
      have := (r2.lt g hg).1
      have := h.dlt _ _ hd
      omega) (fun b o hd => .inl hd) (fun b o hd => Nat.lt_of_lt_of_le (h.dlt _ _ hd) r3.size) hkp (fun hv lv => by
      refine ⟨(List.replicate k z.cells.toList).flatten, ?_, hsz, fun c hc => ?_, sq_repl (f3 _ _) k⟩
      · show w'.ownsRow 0 e size _ (List.replicate k zc).length _
        rw [List.length_replicate]
        exact ownsRow_mono r2 (Nat.zero_le _)
      · rw [List.eq_of_mem_replicate hc]; exact hzz)
  have he : (execOp a.eval o).run P w = .ok (.value (.slice (some ⟨w.heap.size, 0, none⟩) k k)) w' := by
    generalize a.eval = ρ at e1 e2 ⊢
    simp [execOp, ho, e1, e2, r1]
  unfold Oper.wp
  rw [he, Oper.upon_value, hd]
  refine hK _ _ ⟨_, _, hG.put (blt_lt hn) (blt_lt h5) ⟨RW.rn hrn2, ?_⟩⟩
  show SlV ((fun x => if x = nn then Value.slice (some ⟨w.heap.size, 0, none⟩) k k else hv x) nn) 0 k size _
  simp only [if_true]
  exact slV_all rfl (Nat.le_refl _) (.inr ⟨_, rfl⟩)
end
end Go.Proofs.Ytgmllfjidhbjjab


namespace Go.Proofs.Ytgmllfjidhbjjab
open Go.RowKit
set_option linter.unusedVariables false
set_option linter.unusedSimpArgs false

section
variable {P : Program} {w0 : World} {U0 : UX} {nt : Nat} {ops : Array Oper} {o : Oper} {S : Nat → Option AV} {gs : List Nat} {d : Nat} {s : AS} {a : Act} {w : World} {D : Nat → Nat → Prop} {hv : Nat → Value}

/-- A variable of an array's type; sz: how many cells each of its parts takes. -/
theorem a_allocA (sz : List Nat) (hg : Gd w0 U0 nt ops o gs S) (hd : o.dst = some d) (hn : Nat.blt d nt = true) (h5 : Nat.blt d 100000 = true) {ty : TypeId} {it : TypeInfo} {cs : Array Value} {zs : List CV} (ho : o.op = .alloc ty) (hi : P.info? ty = some it) (hz : it.zero = some (.agg cs)) (h0 : zsO sz cs.toList = some zs) : AOp P w0 U0 nt ops o gs [(d, [])] S [(d, .bp d 0 []), (100000 + d, .bx (.row zs))] := by
  intro s hs hN a w ⟨D, hv, h⟩ Q K hK
  rw [if_pos (hg s hs a w D hv h)]
  obtain ⟨segs, e1, e2, e3, e4, e5⟩ := zsO_spec (U := Us w0 U0 D) (w := w) h0
  have hrep : Rep (Us w0 U0 D) w (.row zs) cs.toList := by
    rw [rep_row, ← e1]
    exact sq_of_segs e4 (fun i c hi => by obtain ⟨seg, f1, f2, _⟩ := e5 i c hi; exact ⟨seg, f1, f2⟩)
  have he : (execOp a.eval o).run P w = .ok (.value (.pointer (some ⟨w.heap.size, 0, none⟩))) (w.alloc (.cells cs ty)) := by
    simp [execOp, ho, Instr.alloc, zeroValue, typeInfo, hi, hz, run_newVar, Value.cells]
  unfold Oper.wp
  rw [he, Oper.upon_value, hd]
  have := h.newbox (d := d) (av := .bx (.row zs)) (hN (d, []) (by simp)).nr (blt_lt hn) (blt_lt h5) (.inl rfl) ty (fun _ => hrep) (fun _ hl => absurd hl not_live0)
  rw [Array.toArray_toList] at this
  exact hK _ _ ⟨_, _, this⟩

/-- An array is built. -/
theorem a_buildA (sz : List Nat) (hg : Gd w0 U0 nt ops o gs S) (hd : o.dst = some d) (hn : Nat.blt d nt = true) (h5 : Nat.blt d 100000 = true) {t e : TypeId} {m z : Nat} {parts : Array (Nat × Operand)} {it ie : TypeInfo} {cs : Array Value} {zs r : List CV} (ho : o.op = .build t parts) (hu : P.underlying t = some (.array m e)) (hi : P.info? t = some it) (hie : P.info? e = some ie) (hz : it.zero = some (.agg cs)) (hez : ie.size = z) (hsz : sz = List.replicate m z) (h0 : zsO sz cs.toList = some zs) (hr : setsO S parts.toList zs = some r) :
    AOp P w0 U0 nt ops o (gs ++ rds parts.toList) [] S [(d, .val (.row r))] :=
  aop_val hg hd hn h5 (fun k hk => List.mem_append_left _ hk) fun s hs a w D hv hm => by
    obtain ⟨segs, e1, e2, e3, e4, e5⟩ := zsO_spec (U := Us w0 U0 D) (w := w) h0
    have hlen : segs.map List.length = zs.map CV.size := by rw [e2, e3]
    obtain ⟨g1, g2⟩ := setsO_spec (U := Us w0 U0 D) (w := w) (ρ := a.eval) (segs := segs) hr (fun x hx c n q p hev => ev_val hm (fun k hk => hs k (List.mem_append_right _ (mem_rds hx k hk))) hev) e4 hlen (fun i c hi => by obtain ⟨seg, f1, f2, _⟩ := e5 i c hi; exact ⟨seg, f1, f2⟩)
    have hfill := fill_segs (place := fun i => some (i * ie.size, ie.size)) sz (fun i z' hz' => by
      rw [hsz, List.getElem?_replicate] at hz'
      split at hz'
      · rename_i him
        cases hz'
        rw [hsz, List.take_replicate, List.sum_replicate_nat, hez, Nat.min_eq_left (Nat.le_of_lt him)]
      · cases hz') (parts.toList.map fun x => (x.1, a.eval x.2)) segs cs e1.symm e2 (fun x hx => by rw [← e3]; exact g1 x hx)
    refine ⟨.agg (setAll segs (parts.toList.map fun x => (x.1, a.eval x.2))).flatten.toArray, ?_, avrep_val (vrep_row.2 ⟨_, rfl, g2⟩)⟩
    have hb : P.built t (parts.map fun x => (x.1, a.eval x.2)).toList = some (setAll segs (parts.toList.map fun x => (x.1, a.eval x.2))).flatten.toArray := by
      unfold Program.built
      rw [hi, hu]
      simp only [hz, hie]
      rw [Array.toList_map]
      exact hfill
    have := run_build w t _ _ hb
    generalize a.eval = ρ at this ⊢
    simp [execOp, ho, this]

/-- The address of an array's element; the array is in a box. -/
theorem a_idxA (j : Nat) (hg : Gd w0 U0 nt ops o gs S) (hd : o.dst = some d) (hn : Nat.blt d nt = true) (h5 : Nat.blt d 100000 = true) {x y : Operand} {ty e : TypeId} {m z n q : Nat} {p : List Nat} {k' v' l'} {i : Int} {kd : IntKind} {n2 q2 p2} (ho : o.op = .indexAddr ty x y) (hu : P.underlying ty = some (.array m e)) (hz : (P.info? e).map (·.size) = some z) (hx : ev S x = some ⟨2, ⟨k', v', l'⟩, n, q, p⟩) (hy : ev S y = some ⟨0, .sc (.int kd i), n2, q2, p2⟩) (hi : i = (j : Int)) (hj : Nat.blt j m = true) : AOp P w0 U0 nt ops o (gs ++ (rd x ++ rd y)) [] S [(d, .bp n (q + j * z) (p ++ [j]))] :=
  aop_val hg hd hn h5 (fun k hk => List.mem_append_left _ hk) fun s hs a w D hv hm => by
    obtain ⟨hbn, h1⟩ : BN n ∧ a.eval x = .pointer (some ⟨blkOf (hv (100000 + n)), q, none⟩) := ev_rep hm (fun k hk => hs k (List.mem_append_right _ (List.mem_append_left _ hk))) hx
    have e2 := ev_sc hm (fun k hk => hs k (List.mem_append_right _ (List.mem_append_right _ hk))) hy
    have hsz := run_sizeOf (P := P) (w := w) hz
    have hj := blt_lt hj
    subst hi
    refine ⟨.pointer (some ⟨blkOf (hv (100000 + n)), q + j * z, none⟩), ?_, hbn, rfl⟩
    have hadd := add_at (blkOf (hv (100000 + n))) q (j * z)
    generalize a.eval = ρ at h1 e2 ⊢
    simp [execOp, ho, Instr.indexAt, asIntOf, run_underlying hu, Instr.sureAddr, h1, e2, hj, hsz, hadd]

theorem a_lookupI (hg : Gd w0 U0 nt ops o gs S) (hd : o.dst = some d) (hn : Nat.blt d nt = true) (h5 : Nat.blt d 100000 = true) {x y : Operand} {t kt et : TypeId} {k k2 : IntKind} {i z2 : Int} {n : Nat} {l : List CV} {n' q' p'} (ho : o.op = .lookup t x y true) (hu : P.underlying t = some (.map kt et)) (huk : P.underlying kt = some (.int k)) (hz2 : (P.info? et).map (·.zero) = some (some (.int k2 z2))) (hzc : zeroT P et = some (.sc (.int k2 z2))) (hx : ev S x = some (.mref n)) (hy : ev S y = some ⟨0, .sc (.int k i), n', q', p'⟩) (hm' : S n = some (.mp l)) (hik : IntKeys k l) : AOp P w0 U0 nt ops o (gs ++ (rd x ++ (rd y ++ [n]))) [] S [(d, .tup [(lookR k i l).getD (.sc (.int k2 z2)), .b (lookR k i l).isSome])] :=
  a_lookup hg hd hn h5 ho hu huk hzc hx hy hm' hik fun U w v _ hh => by
    obtain ⟨it, h1, h2⟩ := hh
    rw [h1, Option.map_some, h2] at hz2
    injection hz2 with hz2
    injection hz2 with hz2
    rw [hz2]
    exact vrep_sc.2 ⟨rfl, rfl⟩

/-- No map has this name. -/
def noMref (s : AS) (n : Nat) : Bool := s.all fun p => !(Nat.beq p.2.t 15 && Nat.beq p.2.n n)
/-- A row's end is forgotten. -/
theorem wk_cut (n k : Nat) {e z : Nat} {l : List CV} (hm : look s n = some (.mrow e z l)) (hn : (Nat.ble 200000 n && Nat.blt n 400000) = true) (hkl : k ≤ l.length) (hr : noMref s n = true) : Wk w0 U0 nt s ((n, .mrow e z (l.take k)) :: s) := by
  rintro a w ⟨D, hv, h⟩
  have hrn := rnB hn
  have hrn1 : RN n := RW.rn hrn
  obtain ⟨xs, f1, f2, f3, f4⟩ := h.mrow hm hrn1
  obtain ⟨ao, cap, e1, e2, e3⟩ := own_slice f1
  obtain ⟨hv', hhv⟩ : ∃ hv' : Nat → Value, hv' = fun x => if x = n then .slice ao k cap else hv x := ⟨_, rfl⟩
  have hvn : ∀ x, x ≠ n → hv' x = hv x := fun x hx => by rw [hhv]; simp only [if_neg hx]
  have hvd : hv' n = .slice ao k cap := by rw [hhv]; simp
  have hbs : ∀ x, hb (hv' x) = hb (hv x) := fun x => by
    by_cases hx : x = n
    · subst hx; rw [hvd, e1]; cases ao <;> rfl
    · rw [hvn x hx]
  have hbk : ∀ x, blkOf (hv' x) = blkOf (hv x) := fun x => by unfold blkOf; rw [hbs]
  have hlk : ∀ {k'}, k' ≠ n → look ((n, AV.mrow e z (l.take k)) :: s) k' = look s k' := fun {k'} h1 => look_ne (Ne.symm h1)
  have hl : ∀ q f, Live ((n, AV.mrow e z (l.take k)) :: s) q f ↔ Live s q f := fun q f => by
    unfold Live
    by_cases e4 : q = n
    · subst e4
      rw [look_same, hm]
      constructor <;> (rintro ⟨h1, _⟩; cases h1)
    · rw [hlk e4]
  have hl2 : LiveN ((n, AV.mrow e z (l.take k)) :: s) = LiveN s := by funext q; simp only [LiveN, hl]
  have hnl : ¬ LiveN s n := by
    rintro (h1 | ⟨f, h1⟩)
    · omega
    · rw [h1.1] at hm; cases hm
  have hrep : ∀ {k' av v}, look s k' = some av → AVRep (Us w0 U0 D) w hv (LiveN s) av v → AVRep (Us w0 U0 D) w hv' (LiveN s) av v := fun {k' av v} g1 g2 => by
    by_cases hc : hk av = n ∧ (av.t = 11 ∨ av.t = 12 ∨ av.t = 15)
    · obtain ⟨c1, c2⟩ := hc
      have ht2 : av.t ≠ 2 := by omega
      rw [hk_eq.2 ht2] at c1
      unfold AVRep at g2 ⊢
      rw [if_neg (by omega), if_neg (by omega), if_neg (by omega), if_neg (by omega)] at g2 ⊢
      rcases c2 with c2 | c2 | c2
      · rw [if_pos c2] at g2 ⊢; rw [hbk]; exact g2
      · rw [if_neg (by omega), if_pos c2] at g2 ⊢
        obtain ⟨r1, a0, m, cp, a1, b1, b2, b3⟩ := g2
        rw [c1, e1] at b1
        injection b1 with i1 i2 i3
        subst i1; subst i3
        exact ⟨r1, ao, k, cap, a1, by rw [c1]; exact hvd, b2, b3⟩
      · unfold noMref at hr
        rw [List.all_eq_true] at hr
        have := hr _ (look_mem g1)
        simp only [c2, c1, Nat.beq_refl] at this
        cases this
    · refine g2.move (fun _ _ _ h1 h2 => ⟨h1, h2⟩) (fun _ h1 => h1) fun hR => ?_
      by_cases e4 : hk av = n
      · exfalso
        rcases hR with ⟨r1, r2, r3⟩ | ⟨r1, r2⟩ | ⟨r1, r2⟩
        · rw [hk_eq.2 (by omega)] at e4; rw [e4] at r2; exact hnl r2
        · rw [hk_eq.1 r1] at e4; unfold BN at r2; omega
        · exact hc ⟨e4, r1⟩
      · exact hvn _ e4
  refine ⟨D, hv', h.below, h.dfr, h.size, fun d av g1 g2 => ?_, fun m o av g1 g2 g3 g4 => ?_, fun m o o' av av' g1 g2 => ?_, fun k' av g1 g2 => ?_, fun k' av g g1 g2 g3 g4 => ?_, fun k' k2 av av' g g1 g2 g3 g4 g5 g6 g7 g8 => ?_, fun k' v g1 => ?_, h.dlt⟩
  · rw [hlk (by omega)] at g1
    rw [hl2]
    obtain ⟨v, h1, h2⟩ := h.slot d av g1 g2
    exact ⟨v, h1, hrep g1 h2⟩
  · rw [hlk (by unfold fKey; omega)] at g1
    rw [hlk (by unfold BN at g4; omega)] at g3
    rw [hl2, hbk]
    obtain ⟨v, h1, h2⟩ := h.fld m o av g1 g2 g3 g4
    exact ⟨v, hrep g1 h1, h2⟩
  · rw [hlk (by unfold fKey; omega)] at g1 g2
    exact h.fdis m o o' av av' g1 g2
  · rw [hl2]
    by_cases e4 : k' = n
    · subst e4
      rw [look_same] at g1
      cases g1
      rw [hvd]
      have hx : ∃ ys zs, xs = ys ++ zs ∧ Sq ((l.take k).map fun c => Rep (Us w0 U0 D) w c) ys := by
        have f4' := f4
        rw [← List.take_append_drop k l, List.map_append] at f4'
        obtain ⟨y1, r1, q1, q2, q3⟩ := sq_split f4'
        exact ⟨y1, r1, q1, q2⟩
      obtain ⟨ys, zs, q1, q2⟩ := hx
      have hyl : ys.length = k * z := by rw [sq_len (n := CV.size) (fun c _ xs h => h.len) q2, sum_const (fun c hc => f3 c (List.mem_of_mem_take hc)), List.length_take, Nat.min_eq_left hkl]
      refine ⟨ys, ⟨?_, ?_⟩, f2, fun c hc => f3 c (List.mem_of_mem_take hc), q2⟩
      · show ys.length = (l.take k).length * z
        rw [List.length_take, Nat.min_eq_left hkl]; exact hyl
      · show (Value.slice ao k cap = _ ∧ (l.take k).length = 0) ∨ _
        rw [List.length_take, Nat.min_eq_left hkl]
        rcases f1.2 with ⟨h1, h2⟩ | ⟨g, cap', cur, h1, h2, h3, h4, h6, h7, h8⟩
        · rw [e1] at h1
          injection h1 with i1 i2 i3
          subst i1; subst i3
          have : k = 0 := by omega
          subst this
          exact .inl ⟨rfl, rfl⟩
        · rw [e1] at h1
          injection h1 with i1 i2 i3
          subst i1; subst i3
          refine .inr ⟨g, cap, cur, rfl, h2, h3, by omega, h6, h7, ?_⟩
          have h8' : cur.toList.take (l.length * z) = xs := h8
          have : cur.toList.take (k * z) = xs.take (k * z) := by
            rw [← h8', List.take_take, Nat.min_eq_left (Nat.mul_le_mul_right z hkl)]
          show List.take (k * z) cur.toList = ys
          rw [this, q1, ← hyl]
          exact List.take_left' rfl
    · rw [hlk e4] at g1
      rw [hvn k' e4]
      by_cases h7 : av.t = 7
      · exact oc_no h7
      · refine (h.obj k' av g1 g2).move (fun _ _ _ h1 h2 => ⟨h1, h2⟩) (fun _ h3 => ⟨h3, ?_⟩) fun _ _ => rfl
        unfold tokv
        split
        · rfl
        · exact hvn _ fun e5 => hnl (e5 ▸ h3)
  · rw [hbs] at g4
    by_cases e4 : k' = n
    · subst e4
      rw [look_same] at g1
      cases g1
      obtain ⟨h1, h2, h3⟩ := h.blk k' _ g hm g2 (by simp) g4
      exact ⟨h1, h2, fun o _ => h3 o fun e5 => by cases e5⟩
    · rw [hlk e4] at g1
      obtain ⟨h1, h2, h3⟩ := h.blk k' av g g1 g2 g3 g4
      rw [hvn k' e4]
      exact ⟨h1, h2, h3⟩
  · rw [hbs] at g8 ⊢
    have conv : ∀ {x av}, look ((n, AV.mrow e z (l.take k)) :: s) x = some av → av.t ≠ 7 → ∃ av0, look s x = some av0 ∧ av0.t ≠ 7 := fun {x av} h1 h2 => by
      by_cases e4 : x = n
      · subst e4; exact ⟨_, hm, by simp⟩
      · rw [hlk e4] at h1; exact ⟨av, h1, h2⟩
    obtain ⟨b1, c1, c2⟩ := conv g1 g5
    obtain ⟨b2, c3, c4⟩ := conv g2 g6
    exact h.disj k' k2 b1 b2 g c1 c3 g3 g4 c2 c4 g7 g8
  · have h1 := U0.hf k' v g1
    rw [hvn k' (by omega)]
    exact h.fix k' v g1
/-- What isn't turned is as it was. -/
def SameS (S : Nat → Option AV) (ks : List Nat) : AS → Prop
  | [] => True
  | (k, av) :: l => (hasN ks k = true ∨ S k = some av) ∧ SameS S ks l
theorem SameS.look {ks : List Nat} : ∀ {l : AS}, SameS S ks l → ∀ {k av}, look l k = some av → hasN ks k = false → S k = some av
  | [], _, k, av, h, _ => by cases h
  | (k', av') :: l, ⟨h1, h2⟩, k, av, h, hn => by
    rw [look_cons] at h
    split at h
    · rename_i e
      subst e
      cases h
      rcases h1 with h1 | h1
      · rw [h1] at hn; cases hn
      · exact h1
    · exact SameS.look h2 h hn
/-- A call that turns just these of what it is lent. -/
theorem a_callOU (post' : AS) {f : FuncId} {xs : Array Operand} {ts : Array TypeId} {avs : List AV} {r : AV} {pre post : AS} (hg : Gd w0 U0 nt ops o gs S) (hd : o.dst = some d) (hn : Nat.blt d nt = true) (h5 : Nat.blt d 100000 = true)
    (ho : o.op = .call { callee := .value (.func f), args := xs, argTypes := ts }) (hx : evsA S xs.toList = some avs) (hc : AFunO P f pre avs r post) (hp : SubS S pre) (hl : pre.all lendB = true) (hq : post.all (leaveB (keysOf post)) = true) (hks : (keysOf pre).all (hasN (keysOf post)) = true) (hr : refB (keysOf post) r = true) (hnb : ∀ k v, U0.f k = some v → hasN (keysOf post) k = true → hasN (keysOf pre) k = true) (hsub : SubL post post') (hsame : SameS S (keysOf post') post) (hkp : (keysOf post).all (hasN (keysOf pre)) = true) (hlow : (keysOf post).all (Nat.ble 100000) = true) :
    AOp P w0 U0 nt ops o (gs ++ (rdl xs.toList ++ keysOf pre)) (newN (keysOf pre) (keysOf post) (keysOf post)) S ((d, r) :: post') := by
  have h := a_callO hg hd hn h5 ho hx hc hp hl hq hks hr hnb
  intro s hs hN a w hsim Q K hK
  refine h s hs hN a w hsim Q K fun a' w' hs' => hK a' w' (hs'.sub fun k av h1 => ?_)
  have hd5 := blt_lt h5
  have h1 : look ((d, r) :: (post' ++ s)) k = some av := h1
  show look ((d, r) :: (post ++ s)) k = some av
  rw [look_cons] at h1 ⊢
  split
  · rename_i e; rw [if_pos e] at h1; exact h1
  · rename_i e
    rw [if_neg e, look_append] at h1
    rw [look_append]
    cases e1 : look post' k with
    | some x => rw [e1] at h1; cases h1; rw [hsub.sub k _ e1]; rfl
    | none =>
      rw [e1] at h1
      have h1 : look s k = some av := h1
      cases e2 : look post k with
      | none => exact h1
      | some y =>
        have hk2 : hasN (keysOf post') k = false := by
          cases e3 : hasN (keysOf post') k with
          | false => rfl
          | true => obtain ⟨z, hz⟩ := keys_look (hasN_mem e3); rw [e1] at hz; cases hz
        have h3 := hsame.look e2 hk2
        rw [List.all_eq_true] at hkp
        have h4 := hkp k (mem_keys e2)
        have h5 := hs k (List.mem_append_right _ (List.mem_append_right _ (hasN_mem h4)))
        rw [h5, h3] at h1
        exact h1
end
end Go.Proofs.Ytgmllfjidhbjjab


namespace Go.Proofs.Ytgmllfjidhbjjab
open Go.RowKit
set_option linter.unusedVariables false
set_option linter.unusedSimpArgs false
set_option maxRecDepth 100000

-- 
theorem sIsVar_abs (W : World) (t : Tm) : AFun Try.prog W 56 [t.cw] (.val (.b (decide (t.f < 0)))) := by
  refine afun_of (rs := [.b (decide (t.f < 0))]) Try.func56 Try.ntmps56 rfl rfl rfl rfl ?_
  intro w U hW
  refine awp_seq (awp_region ?_)
  (refine ⟨_, _, _, a_box (gd_none rfl) rfl rfl rfl rfl rfl, (by first | rfl | kernel_rfl), ?_⟩)
  (refine ⟨_, _, _, a_assign (gd_none rfl) rfl rfl rfl rfl rfl, (by first | rfl | kernel_rfl), ?_⟩)
  show AWp _ _ _ _ _ _ _
  refine awp_seq (awp_region ?_)
  (first | (refine ⟨_, _, _, a_field_bp (gd_none rfl) rfl rfl rfl rfl rfl rfl rfl rfl rfl, (by first | rfl | kernel_rfl), ?_⟩) | (refine ⟨_, _, _, a_field_ad (gd_none rfl) rfl rfl rfl rfl rfl rfl rfl rfl rfl rfl rfl, (by first | rfl | kernel_rfl), ?_⟩) | (refine ⟨_, _, _, a_fieldM (gd_none rfl) rfl rfl rfl rfl rfl rfl rfl rfl rfl, (by first | rfl | kernel_rfl), ?_⟩))
  (first | (refine ⟨_, _, _, a_load_all (gd_none rfl) rfl rfl rfl rfl rfl rfl rfl rfl rfl rfl rfl rfl, (by first | rfl | kernel_rfl), ?_⟩) | (refine ⟨_, _, _, a_load_tok (gd_none rfl) rfl rfl rfl rfl rfl rfl rfl rfl rfl rfl rfl rfl rfl, (by first | rfl | kernel_rfl), ?_⟩) | (refine ⟨_, _, _, a_load_bp (gd_none rfl) rfl rfl rfl rfl rfl rfl rfl rfl rfl rfl rfl rfl, (by first | rfl | kernel_rfl), ?_⟩) | (refine ⟨_, _, _, a_load_ad (gd_none rfl) rfl rfl rfl rfl rfl rfl rfl rfl rfl, (by first | rfl | kernel_rfl), ?_⟩) | (refine ⟨_, _, _, a_load_ptr (gd_none rfl) rfl rfl rfl rfl rfl rfl rfl rfl rfl, (by first | rfl | kernel_rfl), ?_⟩) | (refine ⟨_, _, _, a_load_fld (gd_none rfl) rfl rfl rfl rfl rfl rfl rfl rfl rfl rfl rfl rfl rfl, (by first | rfl | kernel_rfl), ?_⟩) | (refine ⟨_, _, _, a_load_fullv (gd_none rfl) rfl rfl rfl rfl rfl rfl rfl rfl rfl, (by first | rfl | kernel_rfl), ?_⟩))
  (refine ⟨_, _, _, a_lss (gd_none rfl) rfl rfl rfl rfl rfl rfl, (by first | rfl | kernel_rfl), ?_⟩)
  (refine ⟨_, _, _, a_assign (gd_none rfl) rfl rfl rfl rfl rfl, (by first | rfl | kernel_rfl), ?_⟩)
  show AWp _ _ _ _ _ _ _
  exact awp_ret ⟨.inr rfl, rfl⟩
-- 
theorem sNumber_abs (W : World) (t : Tm) (h1 : -9223372036854775808 ≤ t.f) (h2 : t.f < 0) : AFun Try.prog W 57 [t.cw] (.val (.i (-1 - t.f))) := by
  refine afun_of (rs := [.i (-1 - t.f)]) Try.func57 Try.ntmps57 rfl rfl rfl rfl ?_
  intro w U hW
  refine awp_seq (awp_region ?_)
  (refine ⟨_, _, _, a_box (gd_none rfl) rfl rfl rfl rfl rfl, (by first | rfl | kernel_rfl), ?_⟩)
  (refine ⟨_, _, _, a_assign (gd_none rfl) rfl rfl rfl rfl rfl, (by first | rfl | kernel_rfl), ?_⟩)
  show AWp _ _ _ _ _ _ _
  refine awp_seq (awp_region ?_)
  (first | (refine ⟨_, _, _, a_field_bp (gd_none rfl) rfl rfl rfl rfl rfl rfl rfl rfl rfl, (by first | rfl | kernel_rfl), ?_⟩) | (refine ⟨_, _, _, a_field_ad (gd_none rfl) rfl rfl rfl rfl rfl rfl rfl rfl rfl rfl rfl, (by first | rfl | kernel_rfl), ?_⟩) | (refine ⟨_, _, _, a_fieldM (gd_none rfl) rfl rfl rfl rfl rfl rfl rfl rfl rfl, (by first | rfl | kernel_rfl), ?_⟩))
  (first | (refine ⟨_, _, _, a_load_all (gd_none rfl) rfl rfl rfl rfl rfl rfl rfl rfl rfl rfl rfl rfl, (by first | rfl | kernel_rfl), ?_⟩) | (refine ⟨_, _, _, a_load_tok (gd_none rfl) rfl rfl rfl rfl rfl rfl rfl rfl rfl rfl rfl rfl rfl, (by first | rfl | kernel_rfl), ?_⟩) | (refine ⟨_, _, _, a_load_bp (gd_none rfl) rfl rfl rfl rfl rfl rfl rfl rfl rfl rfl rfl rfl, (by first | rfl | kernel_rfl), ?_⟩) | (refine ⟨_, _, _, a_load_ad (gd_none rfl) rfl rfl rfl rfl rfl rfl rfl rfl rfl, (by first | rfl | kernel_rfl), ?_⟩) | (refine ⟨_, _, _, a_load_ptr (gd_none rfl) rfl rfl rfl rfl rfl rfl rfl rfl rfl, (by first | rfl | kernel_rfl), ?_⟩) | (refine ⟨_, _, _, a_load_fld (gd_none rfl) rfl rfl rfl rfl rfl rfl rfl rfl rfl rfl rfl rfl rfl, (by first | rfl | kernel_rfl), ?_⟩) | (refine ⟨_, _, _, a_load_fullv (gd_none rfl) rfl rfl rfl rfl rfl rfl rfl rfl rfl, (by first | rfl | kernel_rfl), ?_⟩))
  (refine ⟨_, _, _, a_sub (gd_none rfl) rfl rfl rfl rfl rfl rfl (by first | omega | (simp only [List.length_map, List.length_append, List.length_cons, List.length_nil] <;> omega) | (simp <;> omega)), (by first | rfl | kernel_rfl), ?_⟩)
  (refine ⟨_, _, _, a_assign (gd_none rfl) rfl rfl rfl rfl rfl, (by first | rfl | kernel_rfl), ?_⟩)
  show AWp _ _ _ _ _ _ _
  exact awp_ret ⟨.inr rfl, rfl⟩
-- 
theorem sVariable_abs (W : World) (v : Int) (h1 : 0 ≤ v) (h2 : v ≤ 9223372036854775807) : AFun Try.prog W 44 [.i v] (.val (varT v).cw) := by
  refine afun_of (rs := [(varT v).cw]) Try.func44 Try.ntmps44 rfl rfl rfl rfl ?_
  intro w U hW
  refine awp_seq (awp_region ?_)
  (refine ⟨_, _, _, a_alloc (gd_none rfl) rfl rfl rfl rfl rfl rfl rfl rfl rfl rfl, (by first | rfl | kernel_rfl), ?_⟩)
  show AWp _ _ _ _ _ _ _
  refine awp_seq (awp_region ?_)
  (refine ⟨_, _, _, a_move (gd_none rfl) rfl rfl rfl rfl rfl, (by first | rfl | kernel_rfl), ?_⟩)
  (refine ⟨_, _, _, a_sub (gd_none rfl) rfl rfl rfl rfl rfl rfl (by first | omega | (simp only [List.length_map, List.length_append, List.length_cons, List.length_nil] <;> omega) | (simp <;> omega)), (by first | rfl | kernel_rfl), ?_⟩)
  (refine ⟨_, _, _, a_build (gd_none rfl) rfl rfl rfl rfl rfl rfl rfl rfl rfl rfl rfl, (by first | rfl | kernel_rfl), ?_⟩)
  (first | (refine ⟨_, _, _, a_store_all (gd_none rfl) rfl rfl rfl rfl rfl rfl rfl rfl rfl rfl, (by first | rfl | kernel_rfl), ?_⟩) | (refine ⟨_, _, _, a_store (gd_none rfl) rfl rfl rfl rfl rfl rfl rfl rfl rfl rfl, (by first | rfl | kernel_rfl), ?_⟩) | (refine ⟨_, _, _, a_store_fld (gd_none rfl) rfl rfl rfl rfl rfl rfl rfl rfl rfl rfl rfl rfl, (by first | rfl | kernel_rfl), ?_⟩))
  show AWp _ _ _ _ _ _ _
  exact awp_ret ⟨.inr rfl, rfl⟩
-- 
theorem replace_abs (W : World) (fc : CV) (img : Int → Tm) (hI : ∀ v, 0 ≤ v → v ≤ 9223372036854775807 → AFunV Try.prog W fc [.i v] (.val (img v).cw) ∧ (img v).rng ∧ (img v).size ≤ 1000000000) : ∀ t : Tm, t.rng → t.ok → AFun Try.prog W 35 [t.cw, fc] (.val (repT img t).cw) := by
  intro t
  induction t using Tm.ind with
  | h f l ih =>
  intro hr hok
  have hok := (Tm.ok_iff _).1 hok
  have hr := (Tm.rng_iff _).1 hr
  simp only at hok hr
  have hsz := Tm.size_all l
  refine afun_of (rs := [(repT img ⟨f, l⟩).cw]) Try.func35 Try.ntmps35 rfl rfl rfl rfl ?_
  intro w U hW
  refine awp_seq (awp_region ?_)
  (refine ⟨_, _, _, a_box (gd_none rfl) rfl rfl rfl rfl rfl, (by first | rfl | kernel_rfl), ?_⟩)
  (refine ⟨_, _, _, a_alloc (gd_none rfl) rfl rfl rfl rfl rfl rfl rfl rfl rfl rfl, (by first | rfl | kernel_rfl), ?_⟩)
  show AWp _ _ _ _ _ _ _
  refine awp_seq (awp_seq (awp_region ?_))
  (first | (refine ⟨_, _, _, a_load_all (gd_none rfl) rfl rfl rfl rfl rfl rfl rfl rfl rfl rfl rfl rfl, (by first | rfl | kernel_rfl), ?_⟩) | (refine ⟨_, _, _, a_load_tok (gd_none rfl) rfl rfl rfl rfl rfl rfl rfl rfl rfl rfl rfl rfl rfl, (by first | rfl | kernel_rfl), ?_⟩) | (refine ⟨_, _, _, a_load_bp (gd_none rfl) rfl rfl rfl rfl rfl rfl rfl rfl rfl rfl rfl rfl, (by first | rfl | kernel_rfl), ?_⟩) | (refine ⟨_, _, _, a_load_ad (gd_none rfl) rfl rfl rfl rfl rfl rfl rfl rfl rfl, (by first | rfl | kernel_rfl), ?_⟩) | (refine ⟨_, _, _, a_load_ptr (gd_none rfl) rfl rfl rfl rfl rfl rfl rfl rfl rfl, (by first | rfl | kernel_rfl), ?_⟩) | (refine ⟨_, _, _, a_load_fld (gd_none rfl) rfl rfl rfl rfl rfl rfl rfl rfl rfl rfl rfl rfl rfl, (by first | rfl | kernel_rfl), ?_⟩) | (refine ⟨_, _, _, a_load_fullv (gd_none rfl) rfl rfl rfl rfl rfl rfl rfl rfl rfl, (by first | rfl | kernel_rfl), ?_⟩))
  (refine ⟨_, _, _, a_call (gd_none rfl) rfl rfl rfl rfl rfl (sIsVar_abs w ⟨f, l⟩), (by first | rfl | kernel_rfl), ?_⟩)
  show AWp _ _ _ _ _ _ _
  refine awp_cond rfl (fun hc => ?_) (fun hc => ?_)
  · have hf : f < 0 := by simpa using hc
    rw [repT_var hf]
    obtain ⟨i1, i2, i3⟩ := hI (-1 - f) (by omega) (by omega)
    refine awp_seq (awp_region ?_)
    (refine ⟨_, _, _, a_move (gd_none rfl) rfl rfl rfl rfl rfl, (by first | rfl | kernel_rfl), ?_⟩)
    (first | (refine ⟨_, _, _, a_load_all (gd_none rfl) rfl rfl rfl rfl rfl rfl rfl rfl rfl rfl rfl rfl, (by first | rfl | kernel_rfl), ?_⟩) | (refine ⟨_, _, _, a_load_tok (gd_none rfl) rfl rfl rfl rfl rfl rfl rfl rfl rfl rfl rfl rfl rfl, (by first | rfl | kernel_rfl), ?_⟩) | (refine ⟨_, _, _, a_load_bp (gd_none rfl) rfl rfl rfl rfl rfl rfl rfl rfl rfl rfl rfl rfl, (by first | rfl | kernel_rfl), ?_⟩) | (refine ⟨_, _, _, a_load_ad (gd_none rfl) rfl rfl rfl rfl rfl rfl rfl rfl rfl, (by first | rfl | kernel_rfl), ?_⟩) | (refine ⟨_, _, _, a_load_ptr (gd_none rfl) rfl rfl rfl rfl rfl rfl rfl rfl rfl, (by first | rfl | kernel_rfl), ?_⟩) | (refine ⟨_, _, _, a_load_fld (gd_none rfl) rfl rfl rfl rfl rfl rfl rfl rfl rfl rfl rfl rfl rfl, (by first | rfl | kernel_rfl), ?_⟩) | (refine ⟨_, _, _, a_load_fullv (gd_none rfl) rfl rfl rfl rfl rfl rfl rfl rfl rfl, (by first | rfl | kernel_rfl), ?_⟩))
    (refine ⟨_, _, _, a_call (gd_none rfl) rfl rfl rfl rfl rfl (sNumber_abs w ⟨f, l⟩ hr.1.1 hf), (by first | rfl | kernel_rfl), ?_⟩)
    (refine ⟨_, _, _, a_callv (gd_none rfl) rfl rfl rfl rfl rfl rfl (i1.up hW), (by first | rfl | kernel_rfl), ?_⟩)
    (refine ⟨_, _, _, a_call (gd_none rfl) rfl rfl rfl rfl rfl (clone_abs w i2 i3), (by first | rfl | kernel_rfl), ?_⟩)
    (first | (refine ⟨_, _, _, a_store_all (gd_none rfl) rfl rfl rfl rfl rfl rfl rfl rfl rfl rfl, (by first | rfl | kernel_rfl), ?_⟩) | (refine ⟨_, _, _, a_store (gd_none rfl) rfl rfl rfl rfl rfl rfl rfl rfl rfl rfl, (by first | rfl | kernel_rfl), ?_⟩) | (refine ⟨_, _, _, a_store_fld (gd_none rfl) rfl rfl rfl rfl rfl rfl rfl rfl rfl rfl rfl rfl, (by first | rfl | kernel_rfl), ?_⟩))
    show AWp _ _ _ _ _ _ _
    exact awp_ret (And.intro (.inr rfl) rfl)
  · have hf : ¬ f < 0 := by simpa using hc
    rw [repT_sym hf]
    refine awp_skip ?_
    show AWp _ _ _ _ _ _ _
    refine awp_seq (awp_region ?_)
    (refine ⟨_, _, _, a_assign (gd_none rfl) rfl rfl rfl rfl rfl, (by first | rfl | kernel_rfl), ?_⟩)
    show AWp _ _ _ _ _ _ _
    refine awp_seq (awp_seq (awp_region ?_))
    (first | (refine ⟨_, _, _, a_field_bp (gd_none rfl) rfl rfl rfl rfl rfl rfl rfl rfl rfl, (by first | rfl | kernel_rfl), ?_⟩) | (refine ⟨_, _, _, a_field_ad (gd_none rfl) rfl rfl rfl rfl rfl rfl rfl rfl rfl rfl rfl, (by first | rfl | kernel_rfl), ?_⟩) | (refine ⟨_, _, _, a_fieldM (gd_none rfl) rfl rfl rfl rfl rfl rfl rfl rfl rfl, (by first | rfl | kernel_rfl), ?_⟩))
    (first | (refine ⟨_, _, _, a_load_all (gd_none rfl) rfl rfl rfl rfl rfl rfl rfl rfl rfl rfl rfl rfl, (by first | rfl | kernel_rfl), ?_⟩) | (refine ⟨_, _, _, a_load_tok (gd_none rfl) rfl rfl rfl rfl rfl rfl rfl rfl rfl rfl rfl rfl rfl, (by first | rfl | kernel_rfl), ?_⟩) | (refine ⟨_, _, _, a_load_bp (gd_none rfl) rfl rfl rfl rfl rfl rfl rfl rfl rfl rfl rfl rfl, (by first | rfl | kernel_rfl), ?_⟩) | (refine ⟨_, _, _, a_load_ad (gd_none rfl) rfl rfl rfl rfl rfl rfl rfl rfl rfl, (by first | rfl | kernel_rfl), ?_⟩) | (refine ⟨_, _, _, a_load_ptr (gd_none rfl) rfl rfl rfl rfl rfl rfl rfl rfl rfl, (by first | rfl | kernel_rfl), ?_⟩) | (refine ⟨_, _, _, a_load_fld (gd_none rfl) rfl rfl rfl rfl rfl rfl rfl rfl rfl rfl rfl rfl rfl, (by first | rfl | kernel_rfl), ?_⟩) | (refine ⟨_, _, _, a_load_fullv (gd_none rfl) rfl rfl rfl rfl rfl rfl rfl rfl rfl, (by first | rfl | kernel_rfl), ?_⟩))
    (first | (refine ⟨_, _, _, a_len (gd_none rfl) rfl rfl rfl rfl rfl rfl rfl, (by first | rfl | kernel_rfl), ?_⟩) | (refine ⟨_, _, _, a_lenM (gd_none rfl) rfl rfl rfl rfl rfl rfl rfl, (by first | rfl | kernel_rfl), ?_⟩))
    (refine ⟨_, _, _, a_move (gd_none rfl) rfl rfl rfl rfl rfl, (by first | rfl | kernel_rfl), ?_⟩)
    show AWp _ _ _ _ _ _ _
    refine awp_block (awp_count l.length (fun k => [(1, .val fc), (2, .bp 2 0 []), (100002, .bx (Tm.cw ⟨f, l⟩)), (4, .bp 4 0 []), (100004, ⟨5, .row [.i 0, .lst []], 1, 0, [1]⟩), (5, .own (.lst ((l.take k).map fun t => (repT img t).cv)) 200027), (200027, .tok 38 2), (16, .val (.lst (l.map Tm.cv))), (17, .val (.i (l.map Tm.cv).length)), (18, .val (.i k))])
      ((wk_nil 5 200027 38 2 rfl rfl rfl rfl rfl rfl rfl).trans (wk_sub ⟨rfl, rfl, rfl, rfl, rfl, rfl, rfl, rfl, rfl, rfl, trivial⟩)) ?_)
    intro k hk
    refine awp_seq (awp_region ?_)
    (refine ⟨_, _, _, a_lss (gd_none rfl) rfl rfl rfl rfl rfl rfl, (by first | rfl | kernel_rfl), ?_⟩)
    show AWp _ _ _ _ _ _ _
    refine awp_seq (awp_cond rfl (fun hc => ?_) (fun hc => ?_))
    · have hkl : k < l.length := by
        simp only [List.length_map, decide_eq_true_eq] at hc
        omega
      obtain ⟨t, ht⟩ : ∃ t, l[k]? = some t := ⟨l[k], List.getElem?_eq_getElem hkl⟩
      have ht' := Tm.map_at ht
      have htm := List.mem_of_getElem? ht
      have hsz2 : ∀ c ∈ (l.take k).map fun t => (repT img t).cv, c.size = 2 := by
        intro c hc
        obtain ⟨t, _, rfl⟩ := List.mem_map.1 hc
        exact Tm.size_cv _
      refine awp_skip ?_
      show AWp _ _ _ _ _ _ _
      refine awp_seq (awp_block (awp_seq (awp_region ?_)))
      (refine ⟨_, _, _, a_index (gd_none rfl) rfl rfl rfl rfl rfl rfl rfl rfl rfl (by assumption) rfl (by first | assumption | exact szAll_spec rfl | exact Tm.size_all _ | exact Bd.size_all _ | exact ints_size _), (by first | rfl | kernel_rfl), ?_⟩)
      (first | (refine ⟨_, _, _, a_load_all (gd_none rfl) rfl rfl rfl rfl rfl rfl rfl rfl rfl rfl rfl rfl, (by first | rfl | kernel_rfl), ?_⟩) | (refine ⟨_, _, _, a_load_tok (gd_none rfl) rfl rfl rfl rfl rfl rfl rfl rfl rfl rfl rfl rfl rfl, (by first | rfl | kernel_rfl), ?_⟩) | (refine ⟨_, _, _, a_load_bp (gd_none rfl) rfl rfl rfl rfl rfl rfl rfl rfl rfl rfl rfl rfl, (by first | rfl | kernel_rfl), ?_⟩) | (refine ⟨_, _, _, a_load_ad (gd_none rfl) rfl rfl rfl rfl rfl rfl rfl rfl rfl, (by first | rfl | kernel_rfl), ?_⟩) | (refine ⟨_, _, _, a_load_ptr (gd_none rfl) rfl rfl rfl rfl rfl rfl rfl rfl rfl, (by first | rfl | kernel_rfl), ?_⟩) | (refine ⟨_, _, _, a_load_fld (gd_none rfl) rfl rfl rfl rfl rfl rfl rfl rfl rfl rfl rfl rfl rfl, (by first | rfl | kernel_rfl), ?_⟩) | (refine ⟨_, _, _, a_load_fullv (gd_none rfl) rfl rfl rfl rfl rfl rfl rfl rfl rfl, (by first | rfl | kernel_rfl), ?_⟩))
      (refine ⟨_, _, _, a_alloc (gd_none rfl) rfl rfl rfl rfl rfl rfl rfl rfl rfl rfl, (by first | rfl | kernel_rfl), ?_⟩)
      (first | (refine ⟨_, _, _, a_store_all (gd_none rfl) rfl rfl rfl rfl rfl rfl rfl rfl rfl rfl, (by first | rfl | kernel_rfl), ?_⟩) | (refine ⟨_, _, _, a_store (gd_none rfl) rfl rfl rfl rfl rfl rfl rfl rfl rfl rfl, (by first | rfl | kernel_rfl), ?_⟩) | (refine ⟨_, _, _, a_store_fld (gd_none rfl) rfl rfl rfl rfl rfl rfl rfl rfl rfl rfl rfl rfl, (by first | rfl | kernel_rfl), ?_⟩))
      show AWp _ _ _ _ _ _ _
      refine awp_region ?_
      (refine ⟨_, _, _, a_move (gd_none rfl) rfl rfl rfl rfl rfl, (by first | rfl | kernel_rfl), ?_⟩)
      (first | (refine ⟨_, _, _, a_load_all (gd_none rfl) rfl rfl rfl rfl rfl rfl rfl rfl rfl rfl rfl rfl, (by first | rfl | kernel_rfl), ?_⟩) | (refine ⟨_, _, _, a_load_tok (gd_none rfl) rfl rfl rfl rfl rfl rfl rfl rfl rfl rfl rfl rfl rfl, (by first | rfl | kernel_rfl), ?_⟩) | (refine ⟨_, _, _, a_load_bp (gd_none rfl) rfl rfl rfl rfl rfl rfl rfl rfl rfl rfl rfl rfl, (by first | rfl | kernel_rfl), ?_⟩) | (refine ⟨_, _, _, a_load_ad (gd_none rfl) rfl rfl rfl rfl rfl rfl rfl rfl rfl, (by first | rfl | kernel_rfl), ?_⟩) | (refine ⟨_, _, _, a_load_ptr (gd_none rfl) rfl rfl rfl rfl rfl rfl rfl rfl rfl, (by first | rfl | kernel_rfl), ?_⟩) | (refine ⟨_, _, _, a_load_fld (gd_none rfl) rfl rfl rfl rfl rfl rfl rfl rfl rfl rfl rfl rfl rfl, (by first | rfl | kernel_rfl), ?_⟩) | (refine ⟨_, _, _, a_load_fullv (gd_none rfl) rfl rfl rfl rfl rfl rfl rfl rfl rfl, (by first | rfl | kernel_rfl), ?_⟩))
      (refine ⟨_, _, _, a_move (gd_none rfl) rfl rfl rfl rfl rfl, (by first | rfl | kernel_rfl), ?_⟩)
      (refine ⟨_, _, _, a_call (gd_none rfl) rfl rfl rfl rfl rfl ((ih t htm (hr.2 t htm) (hok.2 t htm)).up hW), (by first | rfl | kernel_rfl), ?_⟩)
      (refine ⟨_, _, _, a_bslice (gd_none rfl) rfl rfl rfl rfl rfl rfl rfl rfl rfl rfl rfl rfl rfl, (by first | rfl | kernel_rfl), ?_⟩)
      (first | (refine ⟨_, _, _, a_app (gd_none rfl) rfl rfl rfl rfl rfl rfl rfl rfl rfl rfl rfl rfl rfl rfl rfl (by first | assumption | exact szAll_spec rfl | exact Tm.size_all _ | exact Bd.size_all _ | exact ints_size _) (by first | assumption | exact szAll_spec rfl | exact Tm.size_all _ | exact Bd.size_all _ | exact ints_size _) (by first | omega | (simp only [List.length_map, List.length_append, List.length_cons, List.length_nil] <;> omega) | (simp <;> omega)), (by first | rfl | kernel_rfl), ?_⟩) | (refine ⟨_, _, _, a_app_nil (gd_none rfl) rfl rfl rfl rfl rfl rfl rfl rfl rfl rfl rfl (by first | assumption | exact szAll_spec rfl | exact Tm.size_all _ | exact Bd.size_all _ | exact ints_size _) (by first | assumption | exact szAll_spec rfl | exact Tm.size_all _ | exact Bd.size_all _ | exact ints_size _) (by first | omega | (simp only [List.length_map, List.length_append, List.length_cons, List.length_nil] <;> omega) | (simp <;> omega)), (by first | rfl | kernel_rfl), ?_⟩))
      (refine ⟨_, _, _, a_assign (gd_none rfl) rfl rfl rfl rfl rfl, (by first | rfl | kernel_rfl), ?_⟩)
      show AWp _ _ _ _ _ _ _
      refine awp_region ?_
      (refine ⟨_, _, _, a_add (gd_none rfl) rfl rfl rfl rfl rfl rfl (by first | omega | (simp only [List.length_map, List.length_append, List.length_cons, List.length_nil] <;> omega) | (simp <;> omega)), (by first | rfl | kernel_rfl), ?_⟩)
      (refine ⟨_, _, _, a_move (gd_none rfl) rfl rfl rfl rfl rfl, (by first | rfl | kernel_rfl), ?_⟩)
      refine ⟨hkl, Wk.trans (wk_sub (s' := [(1, .val fc), (2, .bp 2 0 []), (100002, .bx (Tm.cw ⟨f, l⟩)), (4, .bp 4 0 []), (100004, ⟨5, .row [.i 0, .lst []], 1, 0, [1]⟩), (5, .own (.lst ((l.take (k + 1)).map fun t => (repT img t).cv)) 300027), (300027, .tok 38 2), (16, .val (.lst (l.map Tm.cv))), (17, .val (.i (l.map Tm.cv).length)), (18, .val (.i ((k + 1 : Nat) : Int)))]) ⟨rfl, rfl, rfl, rfl, rfl, ?_, rfl, rfl, rfl, rfl, trivial⟩) (wk_ren 300027 200027 rfl rfl rfl rfl)⟩
      rw [List.take_add_one, ht, List.map_append]
      simp only [Option.toList_some, List.map_cons, List.map_nil, Tm.cv_eq]
      rfl
    · have hkl : k = l.length := by
        simp only [List.length_map, decide_eq_false_iff_not] at hc
        omega
      subst hkl
      rw [List.take_length]
      refine awp_exit ?_
      show AWp _ _ _ _ _ _ _
      refine awp_seq (awp_region ?_)
      (first | (refine ⟨_, _, _, a_field_bp (gd_none rfl) rfl rfl rfl rfl rfl rfl rfl rfl rfl, (by first | rfl | kernel_rfl), ?_⟩) | (refine ⟨_, _, _, a_field_ad (gd_none rfl) rfl rfl rfl rfl rfl rfl rfl rfl rfl rfl rfl, (by first | rfl | kernel_rfl), ?_⟩) | (refine ⟨_, _, _, a_fieldM (gd_none rfl) rfl rfl rfl rfl rfl rfl rfl rfl rfl, (by first | rfl | kernel_rfl), ?_⟩))
      (first | (refine ⟨_, _, _, a_load_all (gd_none rfl) rfl rfl rfl rfl rfl rfl rfl rfl rfl rfl rfl rfl, (by first | rfl | kernel_rfl), ?_⟩) | (refine ⟨_, _, _, a_load_tok (gd_none rfl) rfl rfl rfl rfl rfl rfl rfl rfl rfl rfl rfl rfl rfl, (by first | rfl | kernel_rfl), ?_⟩) | (refine ⟨_, _, _, a_load_bp (gd_none rfl) rfl rfl rfl rfl rfl rfl rfl rfl rfl rfl rfl rfl, (by first | rfl | kernel_rfl), ?_⟩) | (refine ⟨_, _, _, a_load_ad (gd_none rfl) rfl rfl rfl rfl rfl rfl rfl rfl rfl, (by first | rfl | kernel_rfl), ?_⟩) | (refine ⟨_, _, _, a_load_ptr (gd_none rfl) rfl rfl rfl rfl rfl rfl rfl rfl rfl, (by first | rfl | kernel_rfl), ?_⟩) | (refine ⟨_, _, _, a_load_fld (gd_none rfl) rfl rfl rfl rfl rfl rfl rfl rfl rfl rfl rfl rfl rfl, (by first | rfl | kernel_rfl), ?_⟩) | (refine ⟨_, _, _, a_load_fullv (gd_none rfl) rfl rfl rfl rfl rfl rfl rfl rfl rfl, (by first | rfl | kernel_rfl), ?_⟩))
      (refine ⟨_, _, _, a_move (gd_none rfl) rfl rfl rfl rfl rfl, (by first | rfl | kernel_rfl), ?_⟩)
      (refine ⟨_, _, _, a_build (gd_none rfl) rfl rfl rfl rfl rfl rfl rfl rfl rfl rfl rfl, (by first | rfl | kernel_rfl), ?_⟩)
      (first | (refine ⟨_, _, _, a_store_all (gd_none rfl) rfl rfl rfl rfl rfl rfl rfl rfl rfl rfl, (by first | rfl | kernel_rfl), ?_⟩) | (refine ⟨_, _, _, a_store (gd_none rfl) rfl rfl rfl rfl rfl rfl rfl rfl rfl rfl, (by first | rfl | kernel_rfl), ?_⟩) | (refine ⟨_, _, _, a_store_fld (gd_none rfl) rfl rfl rfl rfl rfl rfl rfl rfl rfl rfl rfl rfl, (by first | rfl | kernel_rfl), ?_⟩))
      show AWp _ _ _ _ _ _ _
      refine awp_ret (And.intro (.inr rfl) ?_)
      unfold Tm.cw
      rw [List.map_map]
      rfl
end Go.Proofs.Ytgmllfjidhbjjab


namespace Go.Proofs.Ytgmllfjidhbjjab
open Go.RowKit
set_option linter.unusedVariables false
set_option linter.unusedSimpArgs false
set_option maxRecDepth 100000

theorem varT_rng {v : Int} (h1 : 0 ≤ v) (h2 : v ≤ 9223372036854775807) : (varT v).rng := (Tm.rng_iff _).2 ⟨by show _ ≤ -1 - v ∧ -1 - v ≤ _; omega, fun s hs => by cases hs⟩
theorem varT_size (v : Int) : (varT v).size = 1 := by
  rw [Tm.size_eq]
  have : (varT v).ps = [] := by unfold Tm.ps varT; simp
  rw [this]; rfl
theorem findB_mem : ∀ {l : List Bd} {v : Int} {t : Tm}, findB l v = some t → ∃ b ∈ l, b.t = t ∧ b.v = v
  | [], v, t, h => by cases h
  | b :: l, v, t, h => by
    rw [findB] at h
    split at h
    · rename_i e; cases h; exact ⟨b, by simp, rfl, e⟩
    · obtain ⟨c, h1, h2⟩ := findB_mem h
      exact ⟨c, List.mem_cons_of_mem _ h1, h2⟩
/-- Bindings whose terms are right, and not too great. -/
def bdsOk (l : List Bd) : Prop := ∀ b ∈ l, b.t.rng ∧ b.t.size ≤ 1000000000
theorem imgB_ok {l : List Bd} (h : bdsOk l) {v : Int} (h1 : 0 ≤ v) (h2 : v ≤ 9223372036854775807) : (imgB l v).rng ∧ (imgB l v).size ≤ 1000000000 := by
  unfold imgB
  cases hf : findB l v with
  | none => exact ⟨varT_rng h1 h2, by show (varT v).size ≤ _; rw [varT_size]; omega⟩
  | some t =>
    obtain ⟨b, hb, e, _⟩ := findB_mem hf
    show t.rng ∧ t.size ≤ _
    rw [← e]
    exact h b hb
/-- A variable's number, raised. -/
def upV (by_ v : Int) : Int := v + min by_ (9223372036854775807 - v)
-- 
theorem renf_abs (W : World) (v by_ : Int) (h1 : 0 ≤ v) (h2 : v ≤ 9223372036854775807) (h3 : 0 ≤ by_) : AFun Try.prog W 45 [.i v, .ptr (.i by_)] (.val (varT (upV by_ v)).cw) := by
  refine afun_of (rs := [(varT (upV by_ v)).cw]) Try.func45 Try.ntmps45 rfl rfl rfl rfl ?_
  intro w U hW
  refine awp_seq (awp_region ?_)
  (refine ⟨_, _, _, a_alloc (gd_none rfl) rfl rfl rfl rfl rfl rfl rfl rfl rfl rfl, (by first | rfl | kernel_rfl), ?_⟩)
  show AWp _ _ _ _ _ _ _
  refine awp_seq (awp_region ?_)
  (refine ⟨_, _, _, a_move (gd_none rfl) rfl rfl rfl rfl rfl, (by first | rfl | kernel_rfl), ?_⟩)
  (first | (refine ⟨_, _, _, a_load_all (gd_none rfl) rfl rfl rfl rfl rfl rfl rfl rfl rfl rfl rfl rfl, (by first | rfl | kernel_rfl), ?_⟩) | (refine ⟨_, _, _, a_load_tok (gd_none rfl) rfl rfl rfl rfl rfl rfl rfl rfl rfl rfl rfl rfl rfl, (by first | rfl | kernel_rfl), ?_⟩) | (refine ⟨_, _, _, a_load_bp (gd_none rfl) rfl rfl rfl rfl rfl rfl rfl rfl rfl rfl rfl rfl, (by first | rfl | kernel_rfl), ?_⟩) | (refine ⟨_, _, _, a_load_ad (gd_none rfl) rfl rfl rfl rfl rfl rfl rfl rfl rfl, (by first | rfl | kernel_rfl), ?_⟩) | (refine ⟨_, _, _, a_load_ptr (gd_none rfl) rfl rfl rfl rfl rfl rfl rfl rfl rfl, (by first | rfl | kernel_rfl), ?_⟩) | (refine ⟨_, _, _, a_load_fld (gd_none rfl) rfl rfl rfl rfl rfl rfl rfl rfl rfl rfl rfl rfl rfl, (by first | rfl | kernel_rfl), ?_⟩) | (refine ⟨_, _, _, a_load_fullv (gd_none rfl) rfl rfl rfl rfl rfl rfl rfl rfl rfl, (by first | rfl | kernel_rfl), ?_⟩))
  (refine ⟨_, _, _, a_move (gd_none rfl) rfl rfl rfl rfl rfl, (by first | rfl | kernel_rfl), ?_⟩)
  (refine ⟨_, _, _, a_sub (gd_none rfl) rfl rfl rfl rfl rfl rfl (by first | omega | (simp only [List.length_map, List.length_append, List.length_cons, List.length_nil] <;> omega) | (simp <;> omega)), (by first | rfl | kernel_rfl), ?_⟩)
  (refine ⟨_, _, _, a_min (gd_none rfl) rfl rfl rfl rfl rfl rfl, (by first | rfl | kernel_rfl), ?_⟩)
  (refine ⟨_, _, _, a_add (gd_none rfl) rfl rfl rfl rfl rfl rfl (by first | omega | (simp only [List.length_map, List.length_append, List.length_cons, List.length_nil] <;> omega) | (simp <;> omega)), (by first | rfl | kernel_rfl), ?_⟩)
  (refine ⟨_, _, _, a_call (gd_none rfl) rfl rfl rfl rfl rfl (sVariable_abs w (v + min by_ (9223372036854775807 - v)) (by omega) (by omega)), (by first | rfl | kernel_rfl), ?_⟩)
  (first | (refine ⟨_, _, _, a_store_all (gd_none rfl) rfl rfl rfl rfl rfl rfl rfl rfl rfl rfl, (by first | rfl | kernel_rfl), ?_⟩) | (refine ⟨_, _, _, a_store (gd_none rfl) rfl rfl rfl rfl rfl rfl rfl rfl rfl rfl, (by first | rfl | kernel_rfl), ?_⟩) | (refine ⟨_, _, _, a_store_fld (gd_none rfl) rfl rfl rfl rfl rfl rfl rfl rfl rfl rfl rfl rfl, (by first | rfl | kernel_rfl), ?_⟩))
  show AWp _ _ _ _ _ _ _
  exact awp_ret (And.intro (.inr rfl) rfl)
theorem upV_ok {by_ v : Int} (h1 : 0 ≤ v) (h2 : v ≤ 9223372036854775807) (h3 : 0 ≤ by_) : 0 ≤ upV by_ v ∧ upV by_ v ≤ 9223372036854775807 := by unfold upV; omega
-- 
theorem rename_abs (W : World) (t : Tm) (by_ : Int) (hr : t.rng) (hok : t.ok) : AFun Try.prog W 24 [t.cw, .i by_] (.val (repT (fun v => varT (upV (max by_ 0) v)) t).cw) := by
  refine afun_of (rs := [(repT (fun v => varT (upV (max by_ 0) v)) t).cw]) Try.func24 Try.ntmps24 rfl rfl rfl rfl ?_
  intro w U hW
  refine awp_seq (awp_region ?_)
  (refine ⟨_, _, _, a_box (gd_none rfl) rfl rfl rfl rfl rfl, (by first | rfl | kernel_rfl), ?_⟩)
  (refine ⟨_, _, _, a_box (gd_none rfl) rfl rfl rfl rfl rfl, (by first | rfl | kernel_rfl), ?_⟩)
  (refine ⟨_, _, _, a_alloc (gd_none rfl) rfl rfl rfl rfl rfl rfl rfl rfl rfl rfl, (by first | rfl | kernel_rfl), ?_⟩)
  show AWp _ _ _ _ _ _ _
  refine awp_seq (awp_region ?_)
  (first | (refine ⟨_, _, _, a_load_all (gd_none rfl) rfl rfl rfl rfl rfl rfl rfl rfl rfl rfl rfl rfl, (by first | rfl | kernel_rfl), ?_⟩) | (refine ⟨_, _, _, a_load_tok (gd_none rfl) rfl rfl rfl rfl rfl rfl rfl rfl rfl rfl rfl rfl rfl, (by first | rfl | kernel_rfl), ?_⟩) | (refine ⟨_, _, _, a_load_bp (gd_none rfl) rfl rfl rfl rfl rfl rfl rfl rfl rfl rfl rfl rfl, (by first | rfl | kernel_rfl), ?_⟩) | (refine ⟨_, _, _, a_load_ad (gd_none rfl) rfl rfl rfl rfl rfl rfl rfl rfl rfl, (by first | rfl | kernel_rfl), ?_⟩) | (refine ⟨_, _, _, a_load_ptr (gd_none rfl) rfl rfl rfl rfl rfl rfl rfl rfl rfl, (by first | rfl | kernel_rfl), ?_⟩) | (refine ⟨_, _, _, a_load_fld (gd_none rfl) rfl rfl rfl rfl rfl rfl rfl rfl rfl rfl rfl rfl rfl, (by first | rfl | kernel_rfl), ?_⟩) | (refine ⟨_, _, _, a_load_fullv (gd_none rfl) rfl rfl rfl rfl rfl rfl rfl rfl rfl, (by first | rfl | kernel_rfl), ?_⟩))
  (refine ⟨_, _, _, a_max (gd_none rfl) rfl rfl rfl rfl rfl rfl, (by first | rfl | kernel_rfl), ?_⟩)
  (first | (refine ⟨_, _, _, a_store_all (gd_none rfl) rfl rfl rfl rfl rfl rfl rfl rfl rfl rfl, (by first | rfl | kernel_rfl), ?_⟩) | (refine ⟨_, _, _, a_store (gd_none rfl) rfl rfl rfl rfl rfl rfl rfl rfl rfl rfl, (by first | rfl | kernel_rfl), ?_⟩) | (refine ⟨_, _, _, a_store_fld (gd_none rfl) rfl rfl rfl rfl rfl rfl rfl rfl rfl rfl rfl rfl, (by first | rfl | kernel_rfl), ?_⟩))
  show AWp _ _ _ _ _ _ _
  refine AWp.wk (wk_freeze 3 rfl rfl rfl (s' := [(2, .bp 2 0 []), (100002, .bx t.cw), (4, .bp 4 0 []), (100004, ⟨5, .row [.i 0, .lst []], 1, 0, [1]⟩)]) ⟨rfl, rfl, rfl, rfl, trivial⟩ rfl rfl rfl) ?_
  refine awp_seq (awp_region ?_)
  (first | (refine ⟨_, _, _, a_load_all (gd_none rfl) rfl rfl rfl rfl rfl rfl rfl rfl rfl rfl rfl rfl, (by first | rfl | kernel_rfl), ?_⟩) | (refine ⟨_, _, _, a_load_tok (gd_none rfl) rfl rfl rfl rfl rfl rfl rfl rfl rfl rfl rfl rfl rfl, (by first | rfl | kernel_rfl), ?_⟩) | (refine ⟨_, _, _, a_load_bp (gd_none rfl) rfl rfl rfl rfl rfl rfl rfl rfl rfl rfl rfl rfl, (by first | rfl | kernel_rfl), ?_⟩) | (refine ⟨_, _, _, a_load_ad (gd_none rfl) rfl rfl rfl rfl rfl rfl rfl rfl rfl, (by first | rfl | kernel_rfl), ?_⟩) | (refine ⟨_, _, _, a_load_ptr (gd_none rfl) rfl rfl rfl rfl rfl rfl rfl rfl rfl, (by first | rfl | kernel_rfl), ?_⟩) | (refine ⟨_, _, _, a_load_fld (gd_none rfl) rfl rfl rfl rfl rfl rfl rfl rfl rfl rfl rfl rfl rfl, (by first | rfl | kernel_rfl), ?_⟩) | (refine ⟨_, _, _, a_load_fullv (gd_none rfl) rfl rfl rfl rfl rfl rfl rfl rfl rfl, (by first | rfl | kernel_rfl), ?_⟩))
  (refine ⟨_, _, _, a_mkfunc (gd_none rfl) rfl rfl rfl rfl rfl rfl, (by first | rfl | kernel_rfl), ?_⟩)
  (refine ⟨_, _, _, a_call (gd_none rfl) rfl rfl rfl rfl rfl (replace_abs w _ (fun v => varT (upV (max by_ 0) v)) (fun v h1 h2 => ⟨⟨_, _, _, rfl, renf_abs w v (max by_ 0) h1 h2 (by omega)⟩, varT_rng (upV_ok h1 h2 (by omega)).1 (upV_ok h1 h2 (by omega)).2, by rw [varT_size]; omega⟩) t hr hok), (by first | rfl | kernel_rfl), ?_⟩)
  (first | (refine ⟨_, _, _, a_store_all (gd_none rfl) rfl rfl rfl rfl rfl rfl rfl rfl rfl rfl, (by first | rfl | kernel_rfl), ?_⟩) | (refine ⟨_, _, _, a_store (gd_none rfl) rfl rfl rfl rfl rfl rfl rfl rfl rfl rfl, (by first | rfl | kernel_rfl), ?_⟩) | (refine ⟨_, _, _, a_store_fld (gd_none rfl) rfl rfl rfl rfl rfl rfl rfl rfl rfl rfl rfl rfl, (by first | rfl | kernel_rfl), ?_⟩))
  show AWp _ _ _ _ _ _ _
  exact awp_ret (And.intro (.inr rfl) rfl)
end Go.Proofs.Ytgmllfjidhbjjab


namespace Go.Proofs.Ytgmllfjidhbjjab
set_option linter.unusedVariables false
set_option linter.unusedSimpArgs false

def vsL (l : List Tm) : List Int := (l.filter fun s => decide (s.f < 0)).map fun s => -1 - s.f
/-- The numbers of variables as they stand. -/
def Tm.vs (t : Tm) : List Int := vsL t.flat
theorem vsL_append (l m : List Tm) : vsL (l ++ m) = vsL l ++ vsL m := by simp [vsL]
theorem vsL_flatMap (l : List Tm) : vsL (l.flatMap Tm.flat) = l.flatMap Tm.vs := by
  induction l with
  | nil => rfl
  | cons t l ih => rw [List.flatMap_cons, vsL_append, ih, List.flatMap_cons]; rfl
theorem Tm.vs_var {t : Tm} (h : t.f < 0) : t.vs = [-1 - t.f] := by
  unfold Tm.vs
  rw [Tm.flat_eq, Tm.ps_of_var h]
  simp [vsL, h]
theorem Tm.vs_sym {t : Tm} (h : ¬ t.f < 0) : t.vs = t.l.flatMap Tm.vs := by
  unfold Tm.vs
  rw [Tm.flat_eq, Tm.ps_of_sym (by omega), show t :: t.l.flatMap Tm.flat = [t] ++ t.l.flatMap Tm.flat from rfl, vsL_append, vsL_flatMap]
  simp [vsL, h]
  rfl
theorem Tm.strip_vs (t : Tm) : t.strip.vs = t.vs := by
  induction t using Tm.indp with
  | h t ih =>
    by_cases h : t.f < 0
    · rw [Tm.vs_var h, Tm.vs_var (by rw [Tm.strip_f]; exact h), Tm.strip_f]
    · rw [Tm.vs_sym h, Tm.vs_sym (by rw [Tm.strip_f]; exact h), Tm.strip_l]
      rw [Tm.ps_of_sym (by omega)] at ih ⊢
      rw [List.flatMap_def, List.flatMap_def, List.map_map]
      congr 1
      exact List.map_congr_left fun s hs => ih s hs
theorem repT_vs (img : Int → Tm) (t : Tm) : (repT img t).vs = t.vs.flatMap fun v => (img v).vs := by
  induction t using Tm.indp with
  | h t ih =>
    by_cases h : t.f < 0
    · rw [repT_var h, Tm.vs_var h, Tm.strip_vs]; simp
    · rw [repT_sym h, Tm.vs_sym h, Tm.vs_sym (t := ⟨t.f, _⟩) h]
      rw [Tm.ps_of_sym (by omega)] at ih
      simp only
      rw [List.flatMap_assoc, List.flatMap_def, List.map_map, List.flatMap_def]
      congr 1
      exact List.map_congr_left fun s hs => ih s hs
theorem Tm.size_sym {t : Tm} (h : ¬ t.f < 0) : t.size = 1 + (t.l.map Tm.size).sum := by
  rw [Tm.size_eq, Tm.ps_of_sym (by omega), List.length_flatMap]
  rfl
theorem Tm.size_var {t : Tm} (h : t.f < 0) : t.size = 1 := by
  rw [Tm.size_eq, Tm.ps_of_var h]; rfl
theorem sum_congr_int {l : List Tm} {f g : Tm → Int} (h : ∀ s ∈ l, f s = g s) : (l.map f).sum = (l.map g).sum := by
  rw [List.map_congr_left h]
theorem sum_flatMap_int (l : List Tm) (g : Int → Int) : ((l.flatMap Tm.vs).map g).sum = (l.map fun s => (s.vs.map g).sum).sum := by
  induction l with
  | nil => rfl
  | cons t l ih => rw [List.flatMap_cons, List.map_append, List.sum_append_int, ih, List.map_cons, List.sum_cons]
theorem sum_cast (l : List Nat) : ((l.sum : Nat) : Int) = (l.map fun n : Nat => (n : Int)).sum := by
  induction l with
  | nil => rfl
  | cons n l ih => rw [List.sum_cons, List.map_cons, List.sum_cons, ← ih]; omega
theorem sum_add (l : List Tm) (f g : Tm → Int) : (l.map fun s => f s + g s).sum = (l.map f).sum + (l.map g).sum := by
  induction l with
  | nil => rfl
  | cons t l ih => simp only [List.map_cons, List.sum_cons, ih]; omega
theorem repT_size (img : Int → Tm) (t : Tm) : ((repT img t).size : Int) = t.size + (t.vs.map fun v => ((img v).size : Int) - 1).sum := by
  induction t using Tm.indp with
  | h t ih =>
    by_cases h : t.f < 0
    · rw [repT_var h, Tm.vs_var h, Tm.strip_size, Tm.size_var h]; simp; omega
    · rw [repT_sym h, Tm.vs_sym h, Tm.size_sym h, Tm.size_sym (t := ⟨t.f, _⟩) h, sum_flatMap_int]
      rw [Tm.ps_of_sym (by omega)] at ih
      simp only
      rw [Int.natCast_add, Int.natCast_add, sum_cast, sum_cast, List.map_map, List.map_map, List.map_map, Int.add_assoc, ← sum_add]
      congr 1
      exact sum_congr_int fun s hs => ih s hs

/-- Each once, as they first stand. -/
def nubS (acc : List Int) (v : Int) : List Int := if v ∈ acc then acc else acc ++ [v]
def nub (l : List Int) : List Int := l.foldl nubS []
theorem topF_vs (l : List Tm) : topF l = (vsL l).foldl max (-1) := by
  have : ∀ (l : List Tm) (m : Int), l.foldl (fun m s => if s.f < 0 then max m (-1 - s.f) else m) m = (vsL l).foldl max m := by
    intro l
    induction l with
    | nil => intro acc; rfl
    | cons t l ih =>
      intro m
      rw [List.foldl_cons, ih]
      by_cases h : t.f < 0
      · have : vsL (t :: l) = (-1 - t.f) :: vsL l := by simp [vsL, h]
        rw [this, List.foldl_cons, if_pos h]
      · have : vsL (t :: l) = vsL l := by simp [vsL, h]
        rw [this, if_neg h]
  exact this l (-1)
theorem vs_nonneg (t : Tm) : ∀ v ∈ t.vs, 0 ≤ v := by
  intro v hv
  obtain ⟨s, hs, rfl⟩ := List.mem_map.1 hv
  have := (List.mem_filter.1 hs).2
  simp at this
  omega
theorem vs_le {t : Tm} {B : Int} (h : ∀ s ∈ t.flat, -B ≤ s.f) : ∀ v ∈ t.vs, v < B := by
  intro v hv
  obtain ⟨s, hs, rfl⟩ := List.mem_map.1 hv
  have := h s (List.mem_filter.1 hs).1
  omega
end Go.Proofs.Ytgmllfjidhbjjab


namespace Go.Proofs.Ytgmllfjidhbjjab
open Go.RowKit
set_option linter.unusedVariables false
set_option linter.unusedSimpArgs false

def Tm.sm : Tm → Prop
  | ⟨f, l⟩ => (-1000 ≤ f ∧ f ≤ 1000) ∧ ∀ t ∈ l, Tm.sm t
theorem Tm.sm_iff (t : Tm) : t.sm ↔ (-1000 ≤ t.f ∧ t.f ≤ 1000) ∧ ∀ s ∈ t.l, s.sm := by cases t; rw [Tm.sm]
theorem small_sm (t : Tm) : ∀ most deep, 0 ≤ smallT t most deep → t.sm := by
  induction t using Tm.ind with
  | h f l ih =>
    intro most deep h
    rw [smallT_eq] at h
    split at h
    · omega
    · rename_i hc
      refine (Tm.sm_iff _).2 ⟨⟨by show -1000 ≤ f; omega, by show f ≤ 1000; omega⟩, ?_⟩
      have : ∀ (l : List Tm) (m d : Int), (∀ t ∈ l, ∀ most deep, 0 ≤ smallT t most deep → t.sm) → 0 ≤ smallL l m d → ∀ t ∈ l, t.sm := by
        intro l
        induction l with
        | nil => intro m d _ _ t ht; cases ht
        | cons y ys ih2 =>
          intro m d hl h t ht
          rw [smallL_cons] at h
          split at h
          · omega
          · have hy : 0 ≤ smallT y m d := by
              rcases Int.lt_or_le (smallT y m d) 0 with h1 | h1
              · rw [smallL_neg ys d h1] at h; omega
              · exact h1
            rcases List.mem_cons.1 ht with rfl | ht
            · exact hl t (by simp) m d hy
            · exact ih2 (smallT y m d) d (fun s hs => hl s (List.mem_cons_of_mem _ hs)) h t ht
      exact this l _ _ ih h
theorem Tm.sm_rng {t : Tm} (h : t.sm) : t.rng := by
  induction t using Tm.ind with
  | h f l ih =>
    obtain ⟨h1, h2⟩ := (Tm.sm_iff _).1 h
    exact (Tm.rng_iff _).2 ⟨by simp only at h1 ⊢; omega, fun s hs => ih s hs (h2 s hs)⟩
theorem Tm.wt_ok {t : Tm} (h : t.wt ≤ 1000000) : t.ok := by
  induction t using Tm.ind with
  | h f l ih =>
    rw [Tm.wt_eq] at h
    simp only at h
    have := Tm.wts_len l
    exact (Tm.ok_iff _).2 ⟨by simp only; omega, fun s hs => ih s hs (by have : s.wt ≤ Tm.wts l := Tm.wts_mem hs; omega)⟩
theorem Tm.sm_flat {t : Tm} (h : t.sm) : ∀ s ∈ t.flat, -1000 ≤ s.f ∧ s.f ≤ 1000 := by
  induction t using Tm.indp with
  | h t ih =>
    intro s hs
    rw [Tm.flat_eq] at hs
    rcases List.mem_cons.1 hs with rfl | hs
    · exact ((Tm.sm_iff _).1 h).1
    · obtain ⟨u, hu, hs⟩ := List.mem_flatMap.1 hs
      exact ih u hu (((Tm.sm_iff _).1 h).2 u (Tm.ps_mem hu).1) s hs
theorem Tm.strip_rng {t : Tm} (h : t.rng) : t.strip.rng := by
  induction t using Tm.indp with
  | h t ih =>
    obtain ⟨h1, h2⟩ := (Tm.rng_iff _).1 h
    refine (Tm.rng_iff _).2 ⟨by rw [Tm.strip_f]; exact h1, fun s hs => ?_⟩
    rw [Tm.strip_l] at hs
    obtain ⟨u, hu, rfl⟩ := List.mem_map.1 hs
    exact ih u hu (h2 u (Tm.ps_mem hu).1)
theorem Tm.strip_ok {t : Tm} (h : t.ok) : t.strip.ok := by
  induction t using Tm.indp with
  | h t ih =>
    obtain ⟨h1, h2⟩ := (Tm.ok_iff _).1 h
    refine (Tm.ok_iff _).2 ⟨?_, fun s hs => ?_⟩
    · rw [Tm.strip_l, List.length_map]
      unfold Tm.ps
      split
      · simp
      · exact h1
    · rw [Tm.strip_l] at hs
      obtain ⟨u, hu, rfl⟩ := List.mem_map.1 hs
      exact ih u hu (h2 u (Tm.ps_mem hu).1)
theorem leaf_rng {f : Int} (h1 : -9223372036854775808 ≤ f) (h2 : f ≤ 9223372036854775807) : (Tm.mk f []).rng := (Tm.rng_iff _).2 ⟨⟨h1, h2⟩, fun s hs => by cases hs⟩
theorem leaf_ok (f : Int) : (Tm.mk f []).ok := (Tm.ok_iff _).2 ⟨by show 0 ≤ _; omega, fun s hs => by cases hs⟩
theorem leaf_size (f : Int) : (Tm.mk f []).size = 1 := by
  rw [Tm.size_eq]
  have : (Tm.mk f []).ps = [] := by unfold Tm.ps; simp
  rw [this]; rfl
end Go.Proofs.Ytgmllfjidhbjjab


namespace Go.Proofs.Ytgmllfjidhbjjab
open Go.RowKit
set_option linter.unusedVariables false
set_option linter.unusedSimpArgs false
set_option maxRecDepth 100000

theorem repT_rng {img : Int → Tm} {t : Tm} (h : t.rng) (hi : ∀ v, 0 ≤ v → v ≤ 9223372036854775807 → (img v).rng) : (repT img t).rng := by
  induction t using Tm.ind with
  | h f l ih =>
    obtain ⟨h1, h2⟩ := (Tm.rng_iff _).1 h
    simp only at h1 h2
    by_cases hf : f < 0
    · rw [repT_var hf]; exact Tm.strip_rng (hi _ (by simp only; omega) (by simp only; omega))
    · rw [repT_sym hf]
      refine (Tm.rng_iff _).2 ⟨h1, fun s hs => ?_⟩
      obtain ⟨u, hu, rfl⟩ := List.mem_map.1 hs
      exact ih u hu (h2 u hu)
theorem repT_ok {img : Int → Tm} {t : Tm} (h : t.ok) (hi : ∀ v, (img v).ok) : (repT img t).ok := by
  induction t using Tm.ind with
  | h f l ih =>
    obtain ⟨h1, h2⟩ := (Tm.ok_iff _).1 h
    simp only at h1 h2
    by_cases hf : f < 0
    · rw [repT_var hf]; exact Tm.strip_ok (hi _)
    · rw [repT_sym hf]
      refine (Tm.ok_iff _).2 ⟨by simpa using h1, fun s hs => ?_⟩
      obtain ⟨u, hu, rfl⟩ := List.mem_map.1 hs
      exact ih u hu (h2 u hu)
theorem varT_ok (v : Int) : (varT v).ok := (Tm.ok_iff _).2 ⟨by show 0 ≤ _; omega, fun s hs => by cases hs⟩
theorem leaf_vs (f : Int) (h : 0 ≤ f) : (Tm.mk f []).vs = [] := by rw [Tm.vs_sym (by show ¬ f < 0; omega)]; rfl
end Go.Proofs.Ytgmllfjidhbjjab


namespace Go.Proofs.Ytgmllfjidhbjjab
set_option linter.unusedVariables false
set_option linter.unusedSimpArgs false

theorem cmpZ_cases (x y : Int) : (cmpZ x y = -1 ∧ x < y) ∨ (cmpZ x y = 0 ∧ x = y) ∨ (cmpZ x y = 1 ∧ y < x) := by
  unfold cmpZ
  split
  · exact .inl ⟨rfl, by assumption⟩
  · split
    · exact .inr (.inr ⟨rfl, by assumption⟩)
    · exact .inr (.inl ⟨rfl, by omega⟩)

/-- A head's place among heads. -/
def rank (x : Int) : Int × Int := if x < 0 then (0, -1 - x) else (1, x)
theorem cmpH_cases (x y : Int) : (cmpH x y = -1 ∧ ((x < 0 ∧ y < 0 ∧ y < x) ∨ (¬ (x < 0 ∧ y < 0) ∧ x < y))) ∨ (cmpH x y = 0 ∧ x = y) ∨ (cmpH x y = 1 ∧ ((x < 0 ∧ y < 0 ∧ x < y) ∨ (¬ (x < 0 ∧ y < 0) ∧ y < x))) := by
  unfold cmpH
  split
  · have := cmpZ_cases (-1 - x) (-1 - y)
    omega
  · have := cmpZ_cases x y
    omega

/-- A comparison that is an order on these. -/
structure CmpOk (c : Int) : Prop where
  three : c = -1 ∨ c = 0 ∨ c = 1

theorem cmpT_zero (a : Tm) : ∀ b, cmpT a b = 0 ↔ a.strip = b.strip := by
  induction a using Tm.indp with
  | h a ih =>
    intro b
    rw [cmpT_eq, Tm.strip_eq a, Tm.strip_eq b]
    have hL : ∀ (l m : List Tm), (∀ s ∈ l, ∀ b, cmpT s b = 0 ↔ s.strip = b.strip) → (cmpL l m = 0 ↔ l.map Tm.strip = m.map Tm.strip) := by
      intro l
      induction l with
      | nil => intro m _; cases m <;> simp [cmpL_nil, cmpL_lt, cmpL_gt]
      | cons y ys ih2 =>
        intro m hl
        cases m with
        | nil => simp [cmpL_nil, cmpL_lt, cmpL_gt]
        | cons z zs =>
          rw [cmpL_cons, List.map_cons, List.map_cons, List.cons.injEq, ← hl y (by simp) z, ← ih2 zs (fun s hs => hl s (List.mem_cons_of_mem _ hs))]
          by_cases h : cmpT y z = 0 <;> simp [h]
    rw [Tm.mk.injEq]
    by_cases h1 : a.f = b.f
    · rw [if_neg (by simp [h1])]
      by_cases h2 : a.ps.length = b.ps.length
      · rw [if_neg (by simp [h2]), hL _ _ ih]
        simp [h1]
      · rw [if_pos h2]
        constructor
        · intro h3
          have := cmpZ_cases a.ps.length b.ps.length
          omega
        · rintro ⟨_, h3⟩
          exact absurd (by simpa using congrArg List.length h3) h2
    · rw [if_pos h1]
      constructor
      · intro h3
        have := cmpH_cases a.f b.f
        omega
      · rintro ⟨h3, _⟩
        exact absurd h3 h1

/-- Over two it goes on; strict if one of both is. -/
def Goon (p q r : Int) : Prop := p ≤ 0 → q ≤ 0 → r ≤ 0 ∧ (r = 0 → p = 0 ∧ q = 0)

theorem sameT_iff (a b : Tm) : sameT a b = true ↔ a.strip = b.strip := by
  unfold sameT
  rw [beq_iff_eq]
  exact cmpT_zero a b
end Go.Proofs.Ytgmllfjidhbjjab


namespace Go.Proofs.Ytgmllfjidhbjjab
open Go.RowKit
set_option linter.unusedVariables false
set_option linter.unusedSimpArgs false
set_option maxRecDepth 100000
end Go.Proofs.Ytgmllfjidhbjjab


namespace Go.Proofs.Ytgmllfjidhbjjab
open Go.RowKit
set_option linter.unusedVariables false
set_option linter.unusedSimpArgs false
set_option maxRecDepth 100000
end Go.Proofs.Ytgmllfjidhbjjab


namespace Go.Proofs.Ytgmllfjidhbjjab
open Go.RowKit
set_option linter.unusedVariables false
set_option linter.unusedSimpArgs false
set_option maxRecDepth 100000
end Go.Proofs.Ytgmllfjidhbjjab


namespace Go.Proofs.Ytgmllfjidhbjjab
open Go.RowKit
set_option linter.unusedVariables false
set_option linter.unusedSimpArgs false
set_option maxRecDepth 100000
end Go.Proofs.Ytgmllfjidhbjjab


namespace Go.Proofs.Ytgmllfjidhbjjab
open Go.RowKit
set_option linter.unusedVariables false
set_option linter.unusedSimpArgs false
set_option maxRecDepth 100000

set_option maxHeartbeats 1000000 in
-- 
theorem of_abs (W : World) : ∀ (t : Tm), t.ok → AFun Try.prog W 14 [t.cw] (.val t.cw) := by
  intro t
  induction t using Tm.ind with
  | h f l ih =>
  intro hok
  obtain ⟨hl, hok⟩ := (Tm.ok_iff _).1 hok
  simp only at hl hok
  refine afun_of (rs := [Tm.cw ⟨f, l⟩]) Try.func14 Try.ntmps14 rfl rfl rfl rfl ?_
  intro w U hW
  refine awp_seq (awp_region ?_)
  (refine ⟨_, _, _, a_box (gd_none rfl) rfl rfl rfl rfl rfl, (by first | rfl | kernel_rfl), ?_⟩)
  (refine ⟨_, _, _, a_alloc (gd_none rfl) rfl rfl rfl rfl rfl rfl rfl rfl rfl rfl, (by first | rfl | kernel_rfl), ?_⟩)
  show AWp _ _ _ _ _ _ _
  refine awp_seq (awp_region ?_)
  (first | (refine ⟨_, _, _, a_field_bp (gd_none rfl) rfl rfl rfl rfl rfl rfl rfl rfl rfl, (by first | rfl | kernel_rfl), ?_⟩) | (refine ⟨_, _, _, a_field_ad (gd_none rfl) rfl rfl rfl rfl rfl rfl rfl rfl rfl rfl rfl, (by first | rfl | kernel_rfl), ?_⟩) | (refine ⟨_, _, _, a_fieldM (gd_none rfl) rfl rfl rfl rfl rfl rfl rfl rfl rfl, (by first | rfl | kernel_rfl), ?_⟩))
  (first | (refine ⟨_, _, _, a_load_all (gd_none rfl) rfl rfl rfl rfl rfl rfl rfl rfl rfl rfl rfl rfl, (by first | rfl | kernel_rfl), ?_⟩) | (refine ⟨_, _, _, a_load_tok (gd_none rfl) rfl rfl rfl rfl rfl rfl rfl rfl rfl rfl rfl rfl rfl, (by first | rfl | kernel_rfl), ?_⟩) | (refine ⟨_, _, _, a_load_bp (gd_none rfl) rfl rfl rfl rfl rfl rfl rfl rfl rfl rfl rfl rfl, (by first | rfl | kernel_rfl), ?_⟩) | (refine ⟨_, _, _, a_load_ad (gd_none rfl) rfl rfl rfl rfl rfl rfl rfl rfl rfl, (by first | rfl | kernel_rfl), ?_⟩) | (refine ⟨_, _, _, a_load_ptr (gd_none rfl) rfl rfl rfl rfl rfl rfl rfl rfl rfl, (by first | rfl | kernel_rfl), ?_⟩) | (refine ⟨_, _, _, a_load_fld (gd_none rfl) rfl rfl rfl rfl rfl rfl rfl rfl rfl rfl rfl rfl rfl, (by first | rfl | kernel_rfl), ?_⟩) | (refine ⟨_, _, _, a_load_fullv (gd_none rfl) rfl rfl rfl rfl rfl rfl rfl rfl rfl, (by first | rfl | kernel_rfl), ?_⟩))
  (refine ⟨_, _, _, a_build (gd_none rfl) rfl rfl rfl rfl rfl rfl rfl rfl rfl rfl rfl, (by first | rfl | kernel_rfl), ?_⟩)
  (refine ⟨_, _, _, a_alloc (gd_none rfl) rfl rfl rfl rfl rfl rfl rfl rfl rfl rfl, (by first | rfl | kernel_rfl), ?_⟩)
  (first | (refine ⟨_, _, _, a_store_all (gd_none rfl) rfl rfl rfl rfl rfl rfl rfl rfl rfl rfl, (by first | rfl | kernel_rfl), ?_⟩) | (refine ⟨_, _, _, a_store (gd_none rfl) rfl rfl rfl rfl rfl rfl rfl rfl rfl rfl, (by first | rfl | kernel_rfl), ?_⟩) | (refine ⟨_, _, _, a_store_fld (gd_none rfl) rfl rfl rfl rfl rfl rfl rfl rfl rfl rfl rfl rfl, (by first | rfl | kernel_rfl), ?_⟩))
  show AWp _ _ _ _ _ _ _
  refine awp_seq (awp_seq (awp_region ?_))
  (refine ⟨_, _, _, a_assign (gd_none rfl) rfl rfl rfl rfl rfl, (by first | rfl | kernel_rfl), ?_⟩)
  show AWp _ _ _ _ _ _ _
  refine awp_block (awp_count l.length (fun k => [(1, .bp 1 0 []), (100001, .bx (Tm.cw ⟨f, l⟩)), (2, .bp 2 0 []), (100002, ⟨5, .row [.i 0, .lst []], 1, 0, [1]⟩), (3, .bp 3 0 []), (100003, ⟨5, .row [.i f, .lst ((l.take k).map Tm.cv)], 200024, 0, [1]⟩), (200024, .tok 38 2), (4, .val (.i k))])
    ((wk_nil 100003 200024 38 2 rfl rfl rfl rfl rfl rfl rfl).trans (wk_sub ⟨rfl, rfl, rfl, rfl, rfl, rfl, rfl, rfl, trivial⟩)) ?_)
  intro k hk
  refine awp_seq (awp_seq (awp_region ?_))
  (refine ⟨_, _, _, a_move (gd_none rfl) rfl rfl rfl rfl rfl, (by first | rfl | kernel_rfl), ?_⟩)
  (first | (refine ⟨_, _, _, a_field_bp (gd_none rfl) rfl rfl rfl rfl rfl rfl rfl rfl rfl, (by first | rfl | kernel_rfl), ?_⟩) | (refine ⟨_, _, _, a_field_ad (gd_none rfl) rfl rfl rfl rfl rfl rfl rfl rfl rfl rfl rfl, (by first | rfl | kernel_rfl), ?_⟩) | (refine ⟨_, _, _, a_fieldM (gd_none rfl) rfl rfl rfl rfl rfl rfl rfl rfl rfl, (by first | rfl | kernel_rfl), ?_⟩))
  (first | (refine ⟨_, _, _, a_load_all (gd_none rfl) rfl rfl rfl rfl rfl rfl rfl rfl rfl rfl rfl rfl, (by first | rfl | kernel_rfl), ?_⟩) | (refine ⟨_, _, _, a_load_tok (gd_none rfl) rfl rfl rfl rfl rfl rfl rfl rfl rfl rfl rfl rfl rfl, (by first | rfl | kernel_rfl), ?_⟩) | (refine ⟨_, _, _, a_load_bp (gd_none rfl) rfl rfl rfl rfl rfl rfl rfl rfl rfl rfl rfl rfl, (by first | rfl | kernel_rfl), ?_⟩) | (refine ⟨_, _, _, a_load_ad (gd_none rfl) rfl rfl rfl rfl rfl rfl rfl rfl rfl, (by first | rfl | kernel_rfl), ?_⟩) | (refine ⟨_, _, _, a_load_ptr (gd_none rfl) rfl rfl rfl rfl rfl rfl rfl rfl rfl, (by first | rfl | kernel_rfl), ?_⟩) | (refine ⟨_, _, _, a_load_fld (gd_none rfl) rfl rfl rfl rfl rfl rfl rfl rfl rfl rfl rfl rfl rfl, (by first | rfl | kernel_rfl), ?_⟩) | (refine ⟨_, _, _, a_load_fullv (gd_none rfl) rfl rfl rfl rfl rfl rfl rfl rfl rfl, (by first | rfl | kernel_rfl), ?_⟩))
  (first | (refine ⟨_, _, _, a_len (gd_none rfl) rfl rfl rfl rfl rfl rfl rfl, (by first | rfl | kernel_rfl), ?_⟩) | (refine ⟨_, _, _, a_lenM (gd_none rfl) rfl rfl rfl rfl rfl rfl rfl, (by first | rfl | kernel_rfl), ?_⟩))
  (refine ⟨_, _, _, a_lss (gd_none rfl) rfl rfl rfl rfl rfl rfl, (by first | rfl | kernel_rfl), ?_⟩)
  show AWp _ _ _ _ _ _ _
  refine awp_cond rfl (fun hc => ?_) (fun hc => ?_)
  · simp only [List.length_map, decide_eq_true_eq] at hc
    have hkl : k < l.length := by omega
    obtain ⟨t, ht⟩ : ∃ t, l[k]? = some t := ⟨l[k], List.getElem?_eq_getElem hkl⟩
    refine awp_skip ?_
    show AWp _ _ _ _ _ _ _
    refine awp_seq (awp_block (awp_draw (by kernel_rfl) (by kernel_rfl) ?_))
    (first | (refine ⟨_, _, _, a_field_bp (gd_none rfl) rfl rfl rfl rfl rfl rfl rfl rfl rfl, (by first | rfl | kernel_rfl), ?_⟩) | (refine ⟨_, _, _, a_field_ad (gd_none rfl) rfl rfl rfl rfl rfl rfl rfl rfl rfl rfl rfl, (by first | rfl | kernel_rfl), ?_⟩) | (refine ⟨_, _, _, a_fieldM (gd_none rfl) rfl rfl rfl rfl rfl rfl rfl rfl rfl, (by first | rfl | kernel_rfl), ?_⟩))
    (first | (refine ⟨_, _, _, a_load_all (gd_none rfl) rfl rfl rfl rfl rfl rfl rfl rfl rfl rfl rfl rfl, (by first | rfl | kernel_rfl), ?_⟩) | (refine ⟨_, _, _, a_load_tok (gd_none rfl) rfl rfl rfl rfl rfl rfl rfl rfl rfl rfl rfl rfl rfl, (by first | rfl | kernel_rfl), ?_⟩) | (refine ⟨_, _, _, a_load_bp (gd_none rfl) rfl rfl rfl rfl rfl rfl rfl rfl rfl rfl rfl rfl, (by first | rfl | kernel_rfl), ?_⟩) | (refine ⟨_, _, _, a_load_ad (gd_none rfl) rfl rfl rfl rfl rfl rfl rfl rfl rfl, (by first | rfl | kernel_rfl), ?_⟩) | (refine ⟨_, _, _, a_load_ptr (gd_none rfl) rfl rfl rfl rfl rfl rfl rfl rfl rfl, (by first | rfl | kernel_rfl), ?_⟩) | (refine ⟨_, _, _, a_load_fld (gd_none rfl) rfl rfl rfl rfl rfl rfl rfl rfl rfl rfl rfl rfl rfl, (by first | rfl | kernel_rfl), ?_⟩) | (refine ⟨_, _, _, a_load_fullv (gd_none rfl) rfl rfl rfl rfl rfl rfl rfl rfl rfl, (by first | rfl | kernel_rfl), ?_⟩))
    (first | (refine ⟨_, _, _, a_field_bp (gd_none rfl) rfl rfl rfl rfl rfl rfl rfl rfl rfl, (by first | rfl | kernel_rfl), ?_⟩) | (refine ⟨_, _, _, a_field_ad (gd_none rfl) rfl rfl rfl rfl rfl rfl rfl rfl rfl rfl rfl, (by first | rfl | kernel_rfl), ?_⟩) | (refine ⟨_, _, _, a_fieldM (gd_none rfl) rfl rfl rfl rfl rfl rfl rfl rfl rfl, (by first | rfl | kernel_rfl), ?_⟩))
    (first | (refine ⟨_, _, _, a_load_all (gd_none rfl) rfl rfl rfl rfl rfl rfl rfl rfl rfl rfl rfl rfl, (by first | rfl | kernel_rfl), ?_⟩) | (refine ⟨_, _, _, a_load_tok (gd_none rfl) rfl rfl rfl rfl rfl rfl rfl rfl rfl rfl rfl rfl rfl, (by first | rfl | kernel_rfl), ?_⟩) | (refine ⟨_, _, _, a_load_bp (gd_none rfl) rfl rfl rfl rfl rfl rfl rfl rfl rfl rfl rfl rfl, (by first | rfl | kernel_rfl), ?_⟩) | (refine ⟨_, _, _, a_load_ad (gd_none rfl) rfl rfl rfl rfl rfl rfl rfl rfl rfl, (by first | rfl | kernel_rfl), ?_⟩) | (refine ⟨_, _, _, a_load_ptr (gd_none rfl) rfl rfl rfl rfl rfl rfl rfl rfl rfl, (by first | rfl | kernel_rfl), ?_⟩) | (refine ⟨_, _, _, a_load_fld (gd_none rfl) rfl rfl rfl rfl rfl rfl rfl rfl rfl rfl rfl rfl rfl, (by first | rfl | kernel_rfl), ?_⟩) | (refine ⟨_, _, _, a_load_fullv (gd_none rfl) rfl rfl rfl rfl rfl rfl rfl rfl rfl, (by first | rfl | kernel_rfl), ?_⟩))
    (refine ⟨_, _, _, a_move (gd_none rfl) rfl rfl rfl rfl rfl, (by first | rfl | kernel_rfl), ?_⟩)
    (refine ⟨_, _, _, a_index (j := _) (gd_none rfl) rfl rfl rfl rfl rfl rfl rfl rfl rfl (Tm.map_at ht) rfl (Tm.size_all l), (by first | rfl | kernel_rfl), ?_⟩)
    (first | (refine ⟨_, _, _, a_load_all (gd_none rfl) rfl rfl rfl rfl rfl rfl rfl rfl rfl rfl rfl rfl, (by first | rfl | kernel_rfl), ?_⟩) | (refine ⟨_, _, _, a_load_tok (gd_none rfl) rfl rfl rfl rfl rfl rfl rfl rfl rfl rfl rfl rfl rfl, (by first | rfl | kernel_rfl), ?_⟩) | (refine ⟨_, _, _, a_load_bp (gd_none rfl) rfl rfl rfl rfl rfl rfl rfl rfl rfl rfl rfl rfl, (by first | rfl | kernel_rfl), ?_⟩) | (refine ⟨_, _, _, a_load_ad (gd_none rfl) rfl rfl rfl rfl rfl rfl rfl rfl rfl, (by first | rfl | kernel_rfl), ?_⟩) | (refine ⟨_, _, _, a_load_ptr (gd_none rfl) rfl rfl rfl rfl rfl rfl rfl rfl rfl, (by first | rfl | kernel_rfl), ?_⟩) | (refine ⟨_, _, _, a_load_fld (gd_none rfl) rfl rfl rfl rfl rfl rfl rfl rfl rfl rfl rfl rfl rfl, (by first | rfl | kernel_rfl), ?_⟩) | (refine ⟨_, _, _, a_load_fullv (gd_none rfl) rfl rfl rfl rfl rfl rfl rfl rfl rfl, (by first | rfl | kernel_rfl), ?_⟩))
    (refine ⟨_, _, _, a_call (gd_none rfl) rfl rfl rfl rfl rfl ((ih t (List.mem_of_getElem? ht) (hok t (List.mem_of_getElem? ht))).up hW), (by first | rfl | kernel_rfl), ?_⟩)
    (refine ⟨_, _, _, a_bslice (gd_none rfl) rfl rfl rfl rfl rfl rfl rfl rfl rfl rfl rfl rfl rfl, (by first | rfl | kernel_rfl), ?_⟩)
    (first | (refine ⟨_, _, _, a_app (gd_none rfl) rfl rfl rfl rfl rfl rfl rfl rfl rfl rfl rfl rfl rfl rfl rfl (by first | assumption | exact szAll_spec rfl | exact Tm.size_all _ | exact Bd.size_all _ | exact ints_size _) (by first | assumption | exact szAll_spec rfl | exact Tm.size_all _ | exact Bd.size_all _ | exact ints_size _) (by first | omega | (simp only [List.length_map, List.length_append, List.length_cons, List.length_nil] <;> omega) | (simp <;> omega)), (by first | rfl | kernel_rfl), ?_⟩) | (refine ⟨_, _, _, a_app_nil (gd_none rfl) rfl rfl rfl rfl rfl rfl rfl rfl rfl rfl rfl (by first | assumption | exact szAll_spec rfl | exact Tm.size_all _ | exact Bd.size_all _ | exact ints_size _) (by first | assumption | exact szAll_spec rfl | exact Tm.size_all _ | exact Bd.size_all _ | exact ints_size _) (by first | omega | (simp only [List.length_map, List.length_append, List.length_cons, List.length_nil] <;> omega) | (simp <;> omega)), (by first | rfl | kernel_rfl), ?_⟩))
    (first | (refine ⟨_, _, _, a_field_bp (gd_none rfl) rfl rfl rfl rfl rfl rfl rfl rfl rfl, (by first | rfl | kernel_rfl), ?_⟩) | (refine ⟨_, _, _, a_field_ad (gd_none rfl) rfl rfl rfl rfl rfl rfl rfl rfl rfl rfl rfl, (by first | rfl | kernel_rfl), ?_⟩) | (refine ⟨_, _, _, a_fieldM (gd_none rfl) rfl rfl rfl rfl rfl rfl rfl rfl rfl, (by first | rfl | kernel_rfl), ?_⟩))
    (first | (refine ⟨_, _, _, a_store_all (gd_none rfl) rfl rfl rfl rfl rfl rfl rfl rfl rfl rfl, (by first | rfl | kernel_rfl), ?_⟩) | (refine ⟨_, _, _, a_store (gd_none rfl) rfl rfl rfl rfl rfl rfl rfl rfl rfl rfl, (by first | rfl | kernel_rfl), ?_⟩) | (refine ⟨_, _, _, a_store_fld (gd_none rfl) rfl rfl rfl rfl rfl rfl rfl rfl rfl rfl rfl rfl, (by first | rfl | kernel_rfl), ?_⟩))
    refine ⟨by kernel_rfl, ?_⟩
    show AWp _ _ _ _ _ _ _
    refine awp_region ?_
    (refine ⟨_, _, _, a_move (gd_none rfl) rfl rfl rfl rfl rfl, (by first | rfl | kernel_rfl), ?_⟩)
    (refine ⟨_, _, _, a_add (gd_none rfl) rfl rfl rfl rfl rfl rfl (by first | omega | (simp only [List.length_map, List.length_append, List.length_cons, List.length_nil] <;> omega) | (simp <;> omega)), (by first | rfl | kernel_rfl), ?_⟩)
    (refine ⟨_, _, _, a_assign (gd_none rfl) rfl rfl rfl rfl rfl, (by first | rfl | kernel_rfl), ?_⟩)
    refine ⟨hkl, Wk.trans (wk_sub (s' := [(1, .bp 1 0 []), (100001, .bx (Tm.cw ⟨f, l⟩)), (2, .bp 2 0 []), (100002, ⟨5, .row [.i 0, .lst []], 1, 0, [1]⟩), (3, .bp 3 0 []), (100003, ⟨5, .row [.i f, .lst ((l.take (k + 1)).map Tm.cv)], 300024, 0, [1]⟩), (300024, .tok 38 2), (4, .val (.i ((k + 1 : Nat) : Int)))]) ⟨rfl, rfl, rfl, rfl, rfl, ?_, rfl, rfl, trivial⟩) (wk_ren 300024 200024 rfl rfl rfl rfl)⟩
    rw [List.take_add_one, ht, List.map_append]
    simp only [Option.toList_some, List.map_cons, List.map_nil, Tm.cv_eq]
    rfl
  · refine awp_exit ?_
    show AWp _ _ _ _ _ _ _
    have hkl : k = l.length := by
      simp only [List.length_map, decide_eq_false_iff_not] at hc
      omega
    subst hkl
    rw [List.take_length]
    refine awp_seq (awp_region ?_)
    (first | (refine ⟨_, _, _, a_load_all (gd_none rfl) rfl rfl rfl rfl rfl rfl rfl rfl rfl rfl rfl rfl, (by first | rfl | kernel_rfl), ?_⟩) | (refine ⟨_, _, _, a_load_tok (gd_none rfl) rfl rfl rfl rfl rfl rfl rfl rfl rfl rfl rfl rfl rfl, (by first | rfl | kernel_rfl), ?_⟩) | (refine ⟨_, _, _, a_load_bp (gd_none rfl) rfl rfl rfl rfl rfl rfl rfl rfl rfl rfl rfl rfl, (by first | rfl | kernel_rfl), ?_⟩) | (refine ⟨_, _, _, a_load_ad (gd_none rfl) rfl rfl rfl rfl rfl rfl rfl rfl rfl, (by first | rfl | kernel_rfl), ?_⟩) | (refine ⟨_, _, _, a_load_ptr (gd_none rfl) rfl rfl rfl rfl rfl rfl rfl rfl rfl, (by first | rfl | kernel_rfl), ?_⟩) | (refine ⟨_, _, _, a_load_fld (gd_none rfl) rfl rfl rfl rfl rfl rfl rfl rfl rfl rfl rfl rfl rfl, (by first | rfl | kernel_rfl), ?_⟩) | (refine ⟨_, _, _, a_load_fullv (gd_none rfl) rfl rfl rfl rfl rfl rfl rfl rfl rfl, (by first | rfl | kernel_rfl), ?_⟩))
    (first | (refine ⟨_, _, _, a_store_all (gd_none rfl) rfl rfl rfl rfl rfl rfl rfl rfl rfl rfl, (by first | rfl | kernel_rfl), ?_⟩) | (refine ⟨_, _, _, a_store (gd_none rfl) rfl rfl rfl rfl rfl rfl rfl rfl rfl rfl, (by first | rfl | kernel_rfl), ?_⟩) | (refine ⟨_, _, _, a_store_fld (gd_none rfl) rfl rfl rfl rfl rfl rfl rfl rfl rfl rfl rfl rfl, (by first | rfl | kernel_rfl), ?_⟩))
    show AWp _ _ _ _ _ _ _
    exact awp_ret ⟨.inr rfl, rfl⟩
end Go.Proofs.Ytgmllfjidhbjjab


namespace Go.Proofs.Ytgmllfjidhbjjab
open Go.RowKit
set_option linter.unusedVariables false
set_option linter.unusedSimpArgs false
set_option maxRecDepth 100000
def fineBd (b : Bd) : Bool := decide (0 ≤ b.v) && (decide (b.v ≤ 1000) && decide (0 ≤ smallT b.t 20 10))
def fine7B (l : List Bd) : Bool := l.all fineBd && decide (l.length ≤ 8)
/-- What the document's Apply makes. -/
def appR (l : List Bd) : Tm → Tm
  | ⟨f, ts⟩ => if f < 0 then imgB l (-1 - f) else ⟨f, ts.map (appR l)⟩
end Go.Proofs.Ytgmllfjidhbjjab


namespace Go.Proofs.Ytgmllfjidhbjjab
set_option linter.unusedVariables false
set_option linter.unusedSimpArgs false

theorem rep_congr {f g : Int → Tm} {t : Tm} (h : ∀ v ∈ t.vs, f v = g v) : repT f t = repT g t := by
  induction t using Tm.indp with
  | h t ih =>
    by_cases hf : t.f < 0
    · rw [Tm.vs_var hf] at h
      rw [repT_var hf, repT_var hf, h _ (by simp)]
    · rw [Tm.vs_sym hf] at h
      rw [Tm.ps_of_sym (by omega)] at ih
      rw [repT_sym hf, repT_sym hf]
      congr 1
      exact List.map_congr_left fun s hs => ih s hs fun v hv => h v (List.mem_flatMap.2 ⟨s, hs, hv⟩)
theorem varT_strip (v : Int) : (varT v).strip = varT v := by
  rw [Tm.strip_eq]
  have : (varT v).ps = [] := by unfold Tm.ps varT; simp
  rw [this]; rfl
theorem rep_comp (img : Int → Tm) (g : Int → Int) {t : Tm} (h : ∀ v ∈ t.vs, 0 ≤ g v) : repT img (repT (fun v => varT (g v)) t) = repT (fun v => img (g v)) t := by
  induction t using Tm.indp with
  | h t ih =>
    by_cases hf : t.f < 0
    · rw [Tm.vs_var hf] at h
      have h := h _ (List.mem_singleton.2 rfl)
      rw [repT_var hf, repT_var hf, varT_strip, repT_var (by show -1 - g (-1 - t.f) < 0; omega)]
      show (img (-1 - (-1 - g (-1 - t.f)))).strip = _
      rw [show -1 - (-1 - g (-1 - t.f)) = g (-1 - t.f) by omega]
    · rw [Tm.vs_sym hf] at h
      rw [Tm.ps_of_sym (by omega)] at ih
      rw [repT_sym hf, repT_sym (t := ⟨t.f, _⟩) hf, repT_sym hf]
      simp only [List.map_map]
      congr 1
      exact List.map_congr_left fun s hs => ih s hs fun v hv => h v (List.mem_flatMap.2 ⟨s, hs, hv⟩)
theorem rep_id (t : Tm) : repT varT t = t.strip := by
  induction t using Tm.indp with
  | h t ih =>
    by_cases hf : t.f < 0
    · rw [repT_var hf, varT_strip, Tm.strip_eq, Tm.ps_of_var hf]
      unfold varT
      rw [show -1 - (-1 - t.f) = t.f by omega]; rfl
    · rw [Tm.ps_of_sym (by omega)] at ih
      rw [repT_sym hf, Tm.strip_eq, Tm.ps_of_sym (by omega)]
      congr 1
      exact List.map_congr_left fun s hs => ih s hs
theorem rep_strip (img : Int → Tm) (t : Tm) : repT img t.strip = repT img t := by
  induction t using Tm.indp with
  | h t ih =>
    by_cases hf : t.f < 0
    · rw [repT_var hf, repT_var (by rw [Tm.strip_f]; exact hf), Tm.strip_f]
    · rw [Tm.ps_of_sym (by omega)] at ih
      rw [repT_sym hf, repT_sym (by rw [Tm.strip_f]; exact hf), Tm.strip_f, Tm.strip_l, Tm.ps_of_sym (by omega), List.map_map]
      congr 1
      exact List.map_congr_left fun s hs => ih s hs
theorem rep_bare (img : Int → Tm) (t : Tm) : (repT img t).strip = repT img t := by
  induction t using Tm.indp with
  | h t ih =>
    by_cases hf : t.f < 0
    · rw [repT_var hf, Tm.strip_strip]
    · rw [Tm.ps_of_sym (by omega)] at ih
      rw [repT_sym hf, Tm.strip_eq, Tm.ps_of_sym (t := ⟨t.f, _⟩) (by show 0 ≤ t.f; omega)]
      simp only [List.map_map]
      congr 1
      exact List.map_congr_left fun s hs => ih s hs
/-- Where it stands first. -/
def ixOf : List Int → Int → Nat
  | [], _ => 0
  | x :: l, v => if x = v then 0 else ixOf l v + 1
def zipB (a b : List Int) : List Bd := List.zipWith (fun v u => ⟨v, varT u⟩) a b
def nums (n : Nat) : List Int := (List.range n).map fun i : Nat => (i : Int)
/-- A term's numbers of variables, each once. -/
def Tm.nv (t : Tm) : List Int := nub t.vs
def canT (t : Tm) : Tm := repT (imgB (zipB t.nv (nums t.nv.length))) t
def vntB (a b : Tm) : Bool := decide (a.nv.length = b.nv.length) && sameT (repT (imgB (zipB a.nv b.nv)) a) b
end Go.Proofs.Ytgmllfjidhbjjab


namespace Go.Proofs.Ytgmllfjidhbjjab
open Go.RowKit
set_option linter.unusedVariables false
set_option linter.unusedSimpArgs false
set_option maxRecDepth 100000

section
variable {α : Type} (lt : α → α → Bool) (a : Nat)
/-- The element at j goes down as long as it is less. -/
def sink : Nat → List α → List α
  | 0, L => L
  | j + 1, L => match L[j + 1]?, L[j]? with
    | some x, some y => if a < j + 1 ∧ lt x y = true then sink j ((L.set (j + 1) y).set j x) else L
    | _, _ => L
def isortN : Nat → Nat → List α → List α
  | 0, _, L => L
  | n + 1, i, L => isortN n (i + 1) (sink lt a i L)
end

def ltC (cmp : Bd → Bd → Int) (x y : Bd) : Bool := decide (cmp x y < 0)
end Go.Proofs.Ytgmllfjidhbjjab


namespace Go.Proofs.Ytgmllfjidhbjjab
open Go.RowKit
set_option linter.unusedVariables false
set_option linter.unusedSimpArgs false
set_option maxRecDepth 100000
def cmpB (x y : Bd) : Int := cmpZ x.v y.v
/-- A variable that is bound to itself. -/
def idleB (b : Bd) : Bool := decide (b.t.f < 0) && decide (-1 - b.t.f = b.v)
/-- The first one of which it is true. -/
def idxB (q : Bd → Bool) : List Bd → Nat → Int
  | [], _ => -1
  | b :: l, i => if q b then (i : Int) else idxB q l (i + 1)
theorem idxB_none {q : Bd → Bool} : ∀ {l : List Bd} {i : Nat}, (∀ b ∈ l, q b = false) → idxB q l i = -1
  | [], _, _ => rfl
  | b :: l, i, h => by rw [idxB, h b (by simp), if_neg (by simp)]; exact idxB_none fun c hc => h c (List.mem_cons_of_mem _ hc)
theorem idxB_at {q : Bd → Bool} : ∀ {l : List Bd} {i k : Nat} {b : Bd}, l[k]? = some b → q b = true → (∀ j c, j < k → l[j]? = some c → q c = false) → idxB q l i = ((i + k : Nat) : Int)
  | [], _, _, _, h, _, _ => by simp at h
  | x :: l, i, 0, b, h, hq, _ => by simp at h; subst h; rw [idxB, if_pos hq]; rfl
  | x :: l, i, k + 1, b, h, hq, hf => by
    rw [idxB, hf 0 x (by omega) rfl, if_neg (by simp), idxB_at (k := k) (by simpa using h) hq fun j c hj hc => hf (j + 1) c (by omega) (by simpa using hc)]
    congr 1; omega
-- 
theorem indexF_abs (q : Bd → Bool) (fc : CV) (L : List Bd) (n : Nat) (hnl : n ≤ L.length) (hn : L.length ≤ 1000000000) (hc : ∀ W x, x ∈ L.take n → AFunW Try.prog W fc [x.cw] (.val (.b (q x)))) :
    AFunO Try.prog 89 [(400000, .mrow 60 3 (L.map Bd.cv))] [.sl 400000 0 n 3, .val fc] (.val (.i (idxB q (L.take n) 0))) [(400000, .mrow 60 3 (L.map Bd.cv))] := by
  refine afunO_of Try.func89 Try.ntmps89 rfl rfl rfl rfl rfl rfl ?_
  intro w U hU
  refine awp_seq (awp_region ?_)
  (refine ⟨_, _, _, a_assign (gd_none rfl) rfl rfl rfl rfl rfl, (by first | rfl | kernel_rfl), ?_⟩)
  show AWp _ _ _ _ _ _ _
  refine awp_seq (awp_seq (awp_region ?_))
  (refine ⟨_, _, _, a_move (gd_none rfl) rfl rfl rfl rfl rfl, (by first | rfl | kernel_rfl), ?_⟩)
  (first | (refine ⟨_, _, _, a_len (gd_none rfl) rfl rfl rfl rfl rfl rfl rfl, (by first | rfl | kernel_rfl), ?_⟩) | (refine ⟨_, _, _, a_lenM (gd_none rfl) rfl rfl rfl rfl rfl rfl rfl, (by first | rfl | kernel_rfl), ?_⟩))
  (refine ⟨_, _, _, a_move (gd_none rfl) rfl rfl rfl rfl rfl, (by first | rfl | kernel_rfl), ?_⟩)
  show AWp _ _ _ _ _ _ _
  refine awp_block (awp_countI n (fun k => ∀ j c, j < k → (L.take n)[j]? = some c → q c = false) (fun k => [(0, .sl 400000 0 n 3), (1, .val fc), (7, .val (.i n)), (8, .val (.i k)), (400000, .mrow 60 3 (L.map Bd.cv))]) (wk_sub ⟨rfl, rfl, rfl, rfl, rfl, trivial⟩) (fun j c hj => by omega) ?_)
  intro k hk hI
  refine awp_seq (awp_region ?_)
  (refine ⟨_, _, _, a_lss (gd_none rfl) rfl rfl rfl rfl rfl rfl, (by first | rfl | kernel_rfl), ?_⟩)
  show AWp _ _ _ _ _ _ _
  refine awp_seq (awp_cond rfl (fun hlt => ?_) (fun hlt => ?_))
  · have hkl : k < n := by simpa using hlt
    obtain ⟨x, hx0⟩ : ∃ x, L[k]? = some x := ⟨L[k]'(by omega), List.getElem?_eq_getElem (by omega)⟩
    have hx : (L.take n)[k]? = some x := by rw [List.getElem?_take, if_pos hkl]; exact hx0
    have hx' := Bd.map_at hx0
    refine awp_skip ?_
    show AWp _ _ _ _ _ _ _
    refine awp_seq (awp_block (awp_seq (awp_region ?_)))
    (refine ⟨_, _, _, a_move (gd_none rfl) rfl rfl rfl rfl rfl, (by first | rfl | kernel_rfl), ?_⟩)
    (refine ⟨_, _, _, a_assign (gd_none rfl) rfl rfl rfl rfl rfl, (by first | rfl | kernel_rfl), ?_⟩)
    show AWp _ _ _ _ _ _ _
    refine awp_seq (awp_region ?_)
    (refine ⟨_, _, _, a_move (gd_none rfl) rfl rfl rfl rfl rfl, (by first | rfl | kernel_rfl), ?_⟩)
    (refine ⟨_, _, _, a_move (gd_none rfl) rfl rfl rfl rfl rfl, (by first | rfl | kernel_rfl), ?_⟩)
    (refine ⟨_, _, _, a_move (gd_none rfl) rfl rfl rfl rfl rfl, (by first | rfl | kernel_rfl), ?_⟩)
    (refine ⟨_, _, _, a_indexM (k := k) (gd_none rfl) rfl rfl rfl rfl rfl rfl rfl rfl rfl (by first | rfl | omega | (simp only [List.length_set, List.length_map, List.length_append, List.length_cons, List.length_nil] <;> omega) | (simp <;> omega)), (by first | rfl | kernel_rfl), ?_⟩)
    (refine ⟨_, _, _, a_loadM (gd_none rfl) rfl rfl rfl rfl rfl rfl rfl rfl (hx') rfl (by first | rfl | omega | (simp only [List.length_set, List.length_map, List.length_append, List.length_cons, List.length_nil] <;> omega) | (simp <;> omega)) rfl rfl, (by first | rfl | kernel_rfl), ?_⟩)
    (refine ⟨_, _, _, a_callw (gd_none rfl) rfl rfl rfl rfl rfl rfl (hc _ x (List.mem_of_getElem? hx)), (by first | rfl | kernel_rfl), ?_⟩)
    show AWp _ _ _ _ _ _ _
    refine awp_cond rfl (fun hq => ?_) (fun hq => ?_)
    · refine awp_seq (awp_region ?_)
      (refine ⟨_, _, _, a_move (gd_none rfl) rfl rfl rfl rfl rfl, (by first | rfl | kernel_rfl), ?_⟩)
      (refine ⟨_, _, _, a_assign (gd_none rfl) rfl rfl rfl rfl rfl, (by first | rfl | kernel_rfl), ?_⟩)
      show AWp _ _ _ _ _ _ _
      refine awp_ret ⟨.inr rfl, _, Wk.refl _, ?_, rfl, trivial⟩
      rw [idxB_at hx hq hI, Nat.zero_add]
      rfl
    · refine awp_skip ?_
      show AWp _ _ _ _ _ _ _
      refine awp_region ?_
      (refine ⟨_, _, _, a_add (gd_none rfl) rfl rfl rfl rfl rfl rfl (by first | omega | (simp only [List.length_map, List.length_append, List.length_cons, List.length_nil] <;> omega) | (simp <;> omega)), (by first | rfl | kernel_rfl), ?_⟩)
      (refine ⟨_, _, _, a_move (gd_none rfl) rfl rfl rfl rfl rfl, (by first | rfl | kernel_rfl), ?_⟩)
      refine ⟨hkl, fun j c hj hc => ?_, wk_sub ⟨rfl, rfl, rfl, rfl, rfl, trivial⟩⟩
      rcases Nat.lt_or_ge j k with h | h
      · exact hI j c h hc
      · have : j = k := by omega
        subst this
        rw [hx] at hc
        cases hc
        exact hq
  · have hkl : ¬ k < n := by simpa using hlt
    refine awp_exit ?_
    show AWp _ _ _ _ _ _ _
    refine awp_seq (awp_region ?_)
    (refine ⟨_, _, _, a_assign (gd_none rfl) rfl rfl rfl rfl rfl, (by first | rfl | kernel_rfl), ?_⟩)
    show AWp _ _ _ _ _ _ _
    refine awp_ret ⟨.inr rfl, _, Wk.refl _, ?_, rfl, trivial⟩
    rw [idxB_none fun b hb => ?_]
    · rfl
    · obtain ⟨j, hj⟩ := List.getElem?_of_mem hb
      have hjl : j < n := by
        rw [List.getElem?_take] at hj
        split at hj
        · assumption
        · cases hj
      exact hI j b (by omega) hj
end Go.Proofs.Ytgmllfjidhbjjab


namespace Go.Proofs.Ytgmllfjidhbjjab
open Go.RowKit
set_option linter.unusedVariables false
set_option linter.unusedSimpArgs false
set_option maxRecDepth 100000

/-- No binding. -/
def Bd.zero : Bd := ⟨0, ⟨0, []⟩⟩
/-- Of the first n: those that are not like the one ahead. -/
def cptN (q : Bd → Bd → Bool) (L : List Bd) : Nat → List Bd
  | 0 => []
  | m + 1 => match L[m]?, (match m with | 0 => none | k + 1 => L[k]?) with
    | some x, some y => if q x y then cptN q L m else cptN q L m ++ [x]
    | some x, none => cptN q L m ++ [x]
    | none, _ => cptN q L m
theorem cptN_yes {q : Bd → Bd → Bool} {L : List Bd} {m : Nat} {x y : Bd} (hx : L[m + 1]? = some x) (hy : L[m]? = some y) (h : q x y = true) : cptN q L (m + 2) = cptN q L (m + 1) := by
  rw [cptN]; simp only [hx, hy, h, if_true]
theorem cptN_no {q : Bd → Bd → Bool} {L : List Bd} {m : Nat} {x y : Bd} (hx : L[m + 1]? = some x) (hy : L[m]? = some y) (h : q x y = false) : cptN q L (m + 2) = cptN q L (m + 1) ++ [x] := by
  rw [cptN]; simp [hx, hy, h]
end Go.Proofs.Ytgmllfjidhbjjab


namespace Go.Proofs.Ytgmllfjidhbjjab
open Go.RowKit
set_option linter.unusedVariables false
set_option linter.unusedSimpArgs false
set_option maxRecDepth 100000

def sameV (x y : Bd) : Bool := decide (x.v = y.v)
def sortF (L : List Bd) : List Bd := isortN (ltC cmpB) 0 (L.length - 1) 1 L
def firstsF (L : List Bd) : List Bd := cptN sameV (sortF L) (sortF L).length
def Bd.strip (b : Bd) : Bd := ⟨b.v, b.t.strip⟩
def normF (L : List Bd) : List Bd := ((firstsF L).filter fun b => !idleB b).map Bd.strip

theorem cptN_step {q : Bd → Bd → Bool} {L : List Bd} (n : Nat) : cptN q L (n + 1) = cptN q L n ∨ ∃ x, L[n]? = some x ∧ cptN q L (n + 1) = cptN q L n ++ [x] := by
  cases n with
  | zero =>
    cases L with
    | nil => left; rfl
    | cons x l => right; exact ⟨x, rfl, rfl⟩
  | succ m =>
    cases hx : L[m + 1]? with
    | none => left; rw [cptN]; simp only [hx]
    | some x =>
      cases hy : L[m]? with
      | none => right; exact ⟨x, rfl, by rw [cptN]; simp only [hx, hy]⟩
      | some y =>
        cases hq : q x y with
        | true => left; exact cptN_yes hx hy hq
        | false => right; exact ⟨x, rfl, cptN_no hx hy hq⟩
theorem cptN_mem {q : Bd → Bd → Bool} {L : List Bd} : ∀ {n : Nat} {x : Bd}, x ∈ cptN q L n → x ∈ L
  | 0, x, h => by simp [cptN] at h
  | n + 1, x, h => by
    rcases cptN_step (q := q) (L := L) n with e | ⟨y, h1, e⟩
    · rw [e] at h; exact cptN_mem h
    · rw [e] at h
      rcases List.mem_append.1 h with h | h
      · exact cptN_mem h
      · rw [List.mem_singleton.1 h]; exact List.mem_of_getElem? h1
theorem sink_mem {lt : Bd → Bd → Bool} {a : Nat} : ∀ {j : Nat} {L : List Bd} {z : Bd}, z ∈ sink lt a j L ↔ z ∈ L
  | 0, L, z => Iff.rfl
  | j + 1, L, z => by
    rw [sink]
    split
    · rename_i x y hx hy
      split
      · rw [sink_mem]
        have hj : j + 1 < L.length := by
          rcases Nat.lt_or_ge (j + 1) L.length with h | h
          · exact h
          · rw [List.getElem?_eq_none h] at hx; cases hx
        have hxe : L[j + 1] = x := by rw [List.getElem?_eq_getElem hj] at hx; exact Option.some.inj hx
        have hye : L[j]'(by omega) = y := by rw [List.getElem?_eq_getElem (by omega)] at hy; exact Option.some.inj hy
        constructor
        · intro h
          rcases mem_set_of h with h | rfl
          · rcases mem_set_of h with h | rfl
            · exact h
            · exact List.mem_of_getElem? hy
          · exact List.mem_of_getElem? hx
        · intro h
          obtain ⟨i, hi⟩ := List.getElem?_of_mem h
          by_cases e1 : i = j
          · subst e1
            rw [hy] at hi
            cases hi
            exact List.mem_of_getElem? (i := i + 1) (by rw [List.getElem?_set_ne (by omega), List.getElem?_set_self hj])
          · by_cases e2 : i = j + 1
            · subst e2
              rw [hx] at hi
              cases hi
              exact List.mem_of_getElem? (i := j) (by rw [List.getElem?_set_self (by simp; omega)])
            · exact List.mem_of_getElem? (i := i) (by rw [List.getElem?_set_ne (Ne.symm e1), List.getElem?_set_ne (Ne.symm e2)]; exact hi)
      · exact Iff.rfl
    · exact Iff.rfl
theorem isortN_mem {lt : Bd → Bd → Bool} {a : Nat} : ∀ {n i : Nat} {L : List Bd} {z : Bd}, z ∈ isortN lt a n i L ↔ z ∈ L
  | 0, _, _, _ => Iff.rfl
  | n + 1, i, L, z => by rw [isortN, isortN_mem, sink_mem]
theorem firstsF_mem {L : List Bd} {x : Bd} (h : x ∈ firstsF L) : x ∈ L := isortN_mem.1 (cptN_mem h)
end Go.Proofs.Ytgmllfjidhbjjab


namespace Go.Proofs.Ytgmllfjidhbjjab
open Go.RowKit
set_option linter.unusedVariables false
set_option linter.unusedSimpArgs false
def SrtB (l : List Bd) : Prop := l.Pairwise fun x y => x.v ≤ y.v
theorem strip_of_var {t : Tm} (h : t.f < 0) : t.strip = ⟨t.f, []⟩ := by
  rw [Tm.strip_eq]
  have : t.ps = [] := by unfold Tm.ps; rw [if_pos h]
  rw [this]; rfl
end Go.Proofs.Ytgmllfjidhbjjab


namespace Go.Proofs.Ytgmllfjidhbjjab
open Go.RowKit
set_option linter.unusedVariables false
set_option linter.unusedSimpArgs false
set_option maxRecDepth 100000
end Go.Proofs.Ytgmllfjidhbjjab


namespace Go.Proofs.Ytgmllfjidhbjjab
open Go.RowKit
set_option linter.unusedVariables false
set_option linter.unusedSimpArgs false
set_option maxRecDepth 100000

def putB (M : List Bd) (b : Bd) : Bd := ⟨b.v, repT (imgB M) b.t⟩
def thenF (L M : List Bd) : List Bd := normF ((firstsF L).map (putB M) ++ M)

theorem rep_two (f g : Int → Tm) (t : Tm) : repT g (repT f t) = repT (fun v => repT g (f v)) t := by
  induction t using Tm.indp with
  | h t ih =>
    by_cases hf : t.f < 0
    · rw [repT_var hf, repT_var hf, rep_strip, rep_bare]
    · rw [Tm.ps_of_sym (by omega)] at ih
      rw [repT_sym hf, repT_sym (t := ⟨t.f, _⟩) hf, repT_sym hf]
      simp only [List.map_map]
      congr 1
      exact List.map_congr_left fun s hs => ih s hs
/-- Terms of no more than n symbols. -/
def Bnd (n : Nat) (L : List Bd) : Prop := ∀ b ∈ L, b.t.rng ∧ b.t.ok ∧ b.t.size ≤ n
theorem Bnd.ok {n : Nat} {L : List Bd} (h : Bnd n L) (hn : n ≤ 1000000000) : bdsOk L := fun b hb => ⟨(h b hb).1, Nat.le_trans (h b hb).2.2 hn⟩
theorem Bnd.img {n : Nat} {L : List Bd} (h : Bnd n L) (hn : 1 ≤ n) (v : Int) : (imgB L v).ok ∧ (imgB L v).size ≤ n := by
  unfold imgB
  cases e : findB L v with
  | none => exact ⟨leaf_ok _, by show (varT v).size ≤ n; rw [varT_size]; exact hn⟩
  | some t =>
    obtain ⟨b, hb, rfl, _⟩ := findB_mem e
    exact (h b hb).2
theorem rep_le {img : Int → Tm} {m : Nat} (hm : 1 ≤ m) (h : ∀ v, (img v).size ≤ m) (t : Tm) : (repT img t).size ≤ t.size * m := by
  have e := repT_size img t
  have hs : (t.vs.map fun v => ((img v).size : Int) - 1).sum ≤ (t.vs.length : Int) * ((m : Int) - 1) := by
    generalize t.vs = l
    induction l with
    | nil => simp
    | cons v l ih =>
      have := h v
      rw [List.map_cons, List.sum_cons, List.length_cons]
      have e2 : ((l.length + 1 : Nat) : Int) * ((m : Int) - 1) = (l.length : Int) * ((m : Int) - 1) + ((m : Int) - 1) := by
        rw [Int.natCast_add, Int.add_mul]; simp
      rw [e2]
      omega
  have hl : t.vs.length ≤ t.size := by
    unfold Tm.vs vsL Tm.size
    rw [List.length_map]
    exact List.length_filter_le _ _
  have h2 : (t.vs.length : Int) * ((m : Int) - 1) ≤ (t.size : Int) * ((m : Int) - 1) := Int.mul_le_mul_of_nonneg_right (by omega) (by omega)
  have h3 : (t.size : Int) * ((m : Int) - 1) = (t.size : Int) * (m : Int) - t.size := by rw [Int.mul_sub, Int.mul_one]
  have h4 : ((t.size * m : Nat) : Int) = (t.size : Int) * (m : Int) := Int.natCast_mul _ _
  omega
theorem Bnd.norm {n : Nat} {L : List Bd} (h : Bnd n L) : Bnd n (normF L) := fun b hb => by
  unfold normF at hb
  obtain ⟨c, hc, rfl⟩ := List.mem_map.1 hb
  obtain ⟨h1, h2, h3⟩ := h c (firstsF_mem (List.mem_filter.1 hc).1)
  exact ⟨Tm.strip_rng h1, Tm.strip_ok h2, by show c.t.strip.size ≤ n; rw [Tm.strip_size]; exact h3⟩
theorem Bnd.then {n m : Nat} {L M : List Bd} (hL : Bnd n L) (hM : Bnd m M) (hn : 1 ≤ n) (hm : 1 ≤ m) (hb : m ≤ 1000000000) : Bnd (n * m) (thenF L M) ∧ ∀ b ∈ L, (repT (imgB M) b.t).size ≤ n * m := by
  have hs : ∀ b ∈ L, (repT (imgB M) b.t).size ≤ n * m := fun b hbL => Nat.le_trans (rep_le hm (fun v => (hM.img hm v).2) b.t) (Nat.mul_le_mul_right _ (hL b hbL).2.2)
  refine ⟨Bnd.norm fun b hb' => ?_, hs⟩
  rcases List.mem_append.1 hb' with hb' | hb'
  · obtain ⟨c, hc, rfl⟩ := List.mem_map.1 hb'
    have hcL := firstsF_mem hc
    obtain ⟨h1, h2, h3⟩ := hL c hcL
    exact ⟨repT_rng h1 fun v g1 g2 => (imgB_ok (hM.ok hb) g1 g2).1, repT_ok h2 fun v => (hM.img hm v).1, hs c hcL⟩
  · obtain ⟨h1, h2, h3⟩ := hM b hb'
    exact ⟨h1, h2, Nat.le_trans h3 (Nat.le_mul_of_pos_left _ hn)⟩
end Go.Proofs.Ytgmllfjidhbjjab


namespace Go.Proofs.Ytgmllfjidhbjjab
set_option linter.unusedVariables false
set_option linter.unusedSimpArgs false

/-- It makes both of each pair the same. -/
def uni (τ : Int → Tm) (E : List (Tm × Tm)) : Prop := ∀ p ∈ E, repT τ p.1 = repT τ p.2
theorem uni_app {τ : Int → Tm} {E F : List (Tm × Tm)} : uni τ (E ++ F) ↔ uni τ E ∧ uni τ F := by
  unfold uni
  constructor
  · intro h; exact ⟨fun p hp => h p (List.mem_append_left _ hp), fun p hp => h p (List.mem_append_right _ hp)⟩
  · rintro ⟨h1, h2⟩ p hp
    rcases List.mem_append.1 hp with hp | hp
    · exact h1 p hp
    · exact h2 p hp
theorem uni_one {τ : Int → Tm} {a b : Tm} : uni τ [(a, b)] ↔ repT τ a = repT τ b := by
  unfold uni
  constructor
  · intro h; exact h (a, b) (by simp)
  · intro h p hp
    simp only [List.mem_singleton] at hp
    rw [hp]; exact h
/-- The unifier that is told. -/
structure Mgu (σ : Int → Tm) (E : List (Tm × Tm)) : Prop where
  uni : uni σ E
  bare : ∀ v, 0 ≤ v → (σ v).strip = σ v
  idem : ∀ v, 0 ≤ v → ∀ u ∈ (σ v).vs, σ u = varT u
  most : ∀ τ, Go.Proofs.Ytgmllfjidhbjjab.uni τ E → ∀ v, 0 ≤ v → repT τ (σ v) = (τ v).strip
  low : ∀ v, 0 ≤ v → (σ v).f < 0 → -1 - (σ v).f ≤ v

theorem varT_f (v : Int) : (varT v).f = -1 - v := rfl
theorem rep_varT {τ : Int → Tm} {v : Int} (hv : 0 ≤ v) : repT τ (varT v) = (τ v).strip := by
  rw [repT_var (by rw [varT_f]; omega), varT_f, show -1 - (-1 - v) = v by omega]
theorem rep_f {τ : Int → Tm} {t : Tm} (h : ¬ t.f < 0) : (repT τ t).f = t.f := by rw [repT_sym h]
theorem var_of_rep {τ : Int → Tm} {t : Tm} (h : (repT τ t).f < 0) : t.f < 0 := by
  rcases Decidable.em (t.f < 0) with h1 | h1
  · exact h1
  · rw [rep_f h1] at h; exact h
theorem bare_var {t : Tm} (hb : t.strip = t) (h : t.f < 0) : t = varT (-1 - t.f) := by
  rw [← hb, strip_of_var h]
  unfold varT
  rw [show -1 - (-1 - t.f) = t.f by omega]
theorem rep_idem {σ : Int → Tm} {t : Tm} (h : ∀ u ∈ t.vs, σ u = varT u) : repT σ t = t.strip := by
  rw [rep_congr (g := varT) h, rep_id]

theorem Mgu.stays {σ σ' : Int → Tm} {E : List (Tm × Tm)} (h : Mgu σ E) (h' : Mgu σ' E) {v : Int} (hv : 0 ≤ v) (e : σ v = varT v) : σ' v = varT v := by
  have h1 := h'.most σ h.uni v hv
  rw [h.bare v hv, e] at h1
  have h2 : (σ' v).f < 0 := var_of_rep (τ := σ) (by rw [h1, varT_f]; omega)
  obtain ⟨u, hu⟩ : ∃ u, u = -1 - (σ' v).f := ⟨_, rfl⟩
  have hu0 : 0 ≤ u := by omega
  have h3 : σ' v = varT u := by rw [hu]; exact bare_var (h'.bare v hv) h2
  have h4 : u ≤ v := by rw [hu]; exact h'.low v hv h2
  rw [h3, rep_varT hu0, h.bare u hu0] at h1
  have h5 := h.low u hu0 (by rw [h1, varT_f]; omega)
  rw [h1, varT_f] at h5
  have : u = v := by omega
  rw [h3, this]
/-- There is one alone. -/
theorem Mgu.one {σ σ' : Int → Tm} {E : List (Tm × Tm)} (h : Mgu σ E) (h' : Mgu σ' E) {v : Int} (hv : 0 ≤ v) : σ' v = σ v := by
  have h1 := h.most σ' h'.uni v hv
  rw [h'.bare v hv, rep_idem (fun u hu => h.stays h' (vs_nonneg _ u hu) (h.idem v hv u hu)), h.bare v hv] at h1
  exact h1.symm
theorem Mgu.eqv {σ : Int → Tm} {E F : List (Tm × Tm)} (h : Mgu σ E) (he : ∀ τ, Go.Proofs.Ytgmllfjidhbjjab.uni τ E ↔ Go.Proofs.Ytgmllfjidhbjjab.uni τ F) : Mgu σ F :=
  ⟨(he σ).1 h.uni, h.bare, h.idem, fun τ ht => h.most τ ((he τ).2 ht), h.low⟩
/-- Nothing behind it changes what a unifier makes of a term. -/
theorem Mgu.rep {σ τ : Int → Tm} {E : List (Tm × Tm)} (h : Mgu σ E) (ht : Go.Proofs.Ytgmllfjidhbjjab.uni τ E) (t : Tm) : repT τ (repT σ t) = repT τ t := by
  rw [rep_two]
  revert t
  refine Tm.ind fun f l ih => ?_
  rcases Decidable.em (f < 0) with hf | hf
  · rw [repT_var (t := ⟨f, l⟩) hf, repT_var (t := ⟨f, l⟩) hf, h.most τ ht _ (by show 0 ≤ -1 - f; omega), Tm.strip_strip]
  · rw [repT_sym (t := ⟨f, l⟩) (by show ¬ f < 0; omega), repT_sym (t := ⟨f, l⟩) (by show ¬ f < 0; omega)]
    show (⟨f, l.map _⟩ : Tm) = ⟨f, l.map _⟩
    congr 1
    exact List.map_congr_left ih
theorem Mgu.rep_vs {σ : Int → Tm} {E : List (Tm × Tm)} (h : Mgu σ E) {t : Tm} {u : Int} (hu : u ∈ (repT σ t).vs) : σ u = varT u := by
  rw [repT_vs, List.mem_flatMap] at hu
  obtain ⟨v, hv, hu⟩ := hu
  exact h.idem v (vs_nonneg _ v hv) u hu
theorem Mgu.nil : Mgu varT [] :=
  ⟨fun p hp => (by cases hp), fun v hv => varT_strip v, fun v hv u hu => rfl, fun τ ht v hv => rep_varT hv, fun v hv hf => by rw [varT_f]; omega⟩

/-- Both are the same already. -/
theorem Mgu.same {σ : Int → Tm} {E : List (Tm × Tm)} (h : Mgu σ E) {a b : Tm} (e : repT σ a = repT σ b) : Mgu σ (E ++ [(a, b)]) :=
  h.eqv fun τ => by
    rw [uni_app, uni_one]
    constructor
    · intro ht
      refine ⟨ht, ?_⟩
      rw [← h.rep ht a, e, h.rep ht b]
    · exact fun ht => ht.1
/-- One binding. -/
def oneS (x : Int) (b : Tm) (v : Int) : Tm := if v = x then b else varT v
theorem one_off {x : Int} {b t : Tm} (h : x ∉ t.vs) : repT (oneS x b) t = t.strip :=
  rep_idem fun u hu => if_neg fun (e : u = x) => h (e ▸ hu)
/-- A variable is bound. -/
theorem Mgu.bind {σ : Int → Tm} {E : List (Tm × Tm)} (h : Mgu σ E) {a b : Tm} {x : Int} (hx : 0 ≤ x) (ha : repT σ a = varT x) (hb : x ∉ (repT σ b).vs) (hlow : (repT σ b).f < 0 → -1 - (repT σ b).f ≤ x) {σ2 : Int → Tm} (h2 : ∀ v, 0 ≤ v → σ2 v = repT (oneS x (repT σ b)) (σ v)) : Mgu σ2 (E ++ [(a, b)]) := by
  obtain ⟨B, hB⟩ : ∃ B, B = repT σ b := ⟨_, rfl⟩
  rw [← hB] at hb hlow h2
  have hBs : B.strip = B := by rw [hB, rep_bare]
  have hr : ∀ t, repT σ2 t = repT (oneS x B) (repT σ t) := fun t => by
    rw [rep_two]
    exact rep_congr fun v hv => h2 v (vs_nonneg _ v hv)
  have hxx : oneS x B x = B := if_pos rfl
  refine ⟨?_, fun v hv => by rw [h2 v hv, rep_bare], fun v hv u hu => ?_, fun τ ht v hv => ?_, fun v hv hf => ?_⟩
  · rw [uni_app, uni_one]
    refine ⟨fun p hp => by rw [hr, hr, h.uni p hp], ?_⟩
    rw [hr, hr, ha, rep_varT hx, hxx, ← hB, one_off hb]
  · rw [h2 v hv, repT_vs, List.mem_flatMap] at hu
    obtain ⟨w, hw, hu⟩ := hu
    have hw0 := vs_nonneg _ w hw
    have : σ u = varT u ∧ u ≠ x := by
      by_cases e : w = x
      · rw [e, hxx] at hu
        refine ⟨h.rep_vs (t := b) (by rw [← hB]; exact hu), fun e => hb (e ▸ hu)⟩
      · unfold oneS at hu
        rw [if_neg e, Tm.vs_var (by rw [varT_f]; omega), varT_f, List.mem_singleton] at hu
        have : u = w := by omega
        rw [this]
        exact ⟨h.idem v hv w hw, e⟩
    have hu0 : 0 ≤ u := vs_nonneg _ u hu
    rw [h2 u hu0, this.1, rep_varT hu0]
    unfold oneS
    rw [if_neg this.2, varT_strip]
  · rw [uni_app, uni_one] at ht
    rw [h2 v hv, rep_two, ← h.most τ ht.1 v hv]
    have : ∀ w ∈ (σ v).vs, repT τ (oneS x B w) = (τ w).strip := fun w hw => by
      have hw0 := vs_nonneg _ w hw
      by_cases e : w = x
      · rw [e, hxx, hB, h.rep ht.1, ← ht.2, ← h.rep ht.1, ha, rep_varT hx]
      · unfold oneS
        rw [if_neg e, rep_varT hw0]
    have h3 : ∀ t : Tm, (∀ w ∈ t.vs, repT τ (oneS x B w) = (τ w).strip) → repT (fun v => repT τ (oneS x B v)) t = repT τ t := by
      refine Tm.ind fun f l ih hw => ?_
      rcases Decidable.em (f < 0) with hf | hf
      · rw [repT_var (t := ⟨f, l⟩) hf, repT_var (t := ⟨f, l⟩) hf, hw _ (by rw [Tm.vs_var (t := ⟨f, l⟩) hf]; simp), Tm.strip_strip]
      · have hf' : ¬ (⟨f, l⟩ : Tm).f < 0 := by show ¬ f < 0; omega
        rw [repT_sym hf', repT_sym hf']
        rw [Tm.vs_sym hf'] at hw
        congr 1
        exact List.map_congr_left fun t ht => ih t ht fun w hw' => hw w (List.mem_flatMap.2 ⟨t, ht, hw'⟩)
    exact h3 _ this
  · rw [h2 v hv] at hf ⊢
    have h4 := var_of_rep hf
    have h5 := h.low v hv h4
    rw [repT_var h4] at hf ⊢
    obtain ⟨w, hw⟩ : ∃ w, w = -1 - (σ v).f := ⟨_, rfl⟩
    rw [← hw] at hf h5 ⊢
    by_cases e : w = x
    · rw [e, hxx, hBs] at hf ⊢
      have := hlow hf
      omega
    · unfold oneS
      rw [if_neg e, varT_strip, varT_f]
      omega
end Go.Proofs.Ytgmllfjidhbjjab


namespace Go.Proofs.Ytgmllfjidhbjjab
set_option linter.unusedVariables false
set_option linter.unusedSimpArgs false

/-- Nodes below N: T their terms, H the head of a node's class, K where its parts' nodes begin; all that must be joined is. -/
structure Joined (N : Nat) (T : Nat → Tm) (H K : Nat → Nat) (E : List (Tm × Tm)) : Prop where
  hd : ∀ n, n < N → H n < N ∧ H (H n) = H n
  low : ∀ n, n < N → (T n).f ≤ (T (H n)).f
  kid : ∀ n, n < N → ¬ (T n).f < 0 → ∀ i p, (T n).l[i]? = some p → K n + i < N ∧ T (K n + i) = p
  cls : ∀ n, n < N → ¬ (T n).f < 0 → (T (H n)).f = (T n).f ∧ (T (H n)).l.length = (T n).l.length ∧ ∀ i, i < (T n).l.length → H (K n + i) = H (K (H n) + i)
  var : ∀ n m, n < N → m < N → (T n).f < 0 → (T n).f = (T m).f → H n = H m
  pair : ∀ p ∈ E, ∃ n m, n < N ∧ m < N ∧ T n = p.1 ∧ T m = p.2 ∧ H n = H m
  sound : ∀ τ, uni τ E → ∀ n, n < N → repT τ (T n) = repT τ (T (H n))

section
variable {N : Nat} {T : Nat → Tm} {H K : Nat → Nat} {E : List (Tm × Tm)}
/-- What heads become. -/
def OutOk (N : Nat) (T : Nat → Tm) (H K : Nat → Nat) (out : Nat → Tm) : Prop := ∀ h, h < N → H h = h → out h = ⟨(T h).f, if (T h).f < 0 then [] else (List.range (T h).l.length).map fun i => out (H (K h + i))⟩
/-- Each head stands ahead of its parts' heads. -/
def Ranked (N : Nat) (T : Nat → Tm) (H K : Nat → Nat) (ρ : Nat → Nat) : Prop := ∀ h, h < N → H h = h → ¬ (T h).f < 0 → ∀ i, i < (T h).l.length → ρ (H (K h + i)) < ρ h

theorem Joined.part (j : Joined N T H K E) {h : Nat} (hN : h < N) (hf : ¬ (T h).f < 0) {i : Nat} (hi : i < (T h).l.length) : K h + i < N ∧ T (K h + i) = (T h).l[i] ∧ H (K h + i) < N ∧ H (H (K h + i)) = H (K h + i) := by
  obtain ⟨h1, h2⟩ := j.kid h hN hf i _ (List.getElem?_eq_getElem hi)
  exact ⟨h1, h2, j.hd _ h1⟩
/-- Induction over heads. -/
theorem Joined.ind (j : Joined N T H K E) {ρ : Nat → Nat} (hr : Ranked N T H K ρ) {Q : Nat → Prop} (hQ : ∀ h, h < N → H h = h → (¬ (T h).f < 0 → ∀ i, i < (T h).l.length → Q (H (K h + i))) → Q h) : ∀ h, h < N → H h = h → Q h := by
  intro h
  induction e : ρ h using Nat.strongRecOn generalizing h with
  | ind k ih =>
    intro hN hh
    refine hQ h hN hh fun hf i hi => ?_
    obtain ⟨_, _, h3, h4⟩ := j.part hN hf hi
    exact ih _ (by rw [← e]; exact hr h hN hh hf i hi) _ rfl h3 h4
theorem out_var {out : Nat → Tm} (ho : OutOk N T H K out) {h : Nat} (hN : h < N) (hh : H h = h) (hf : (T h).f < 0) : out h = ⟨(T h).f, []⟩ := by rw [ho h hN hh, if_pos hf]
theorem out_sym {out : Nat → Tm} (ho : OutOk N T H K out) {h : Nat} (hN : h < N) (hh : H h = h) (hf : ¬ (T h).f < 0) : out h = ⟨(T h).f, (List.range (T h).l.length).map fun i => out (H (K h + i))⟩ := by rw [ho h hN hh, if_neg hf]
theorem out_f {out : Nat → Tm} (ho : OutOk N T H K out) {h : Nat} (hN : h < N) (hh : H h = h) : (out h).f = (T h).f := by rw [ho h hN hh]
theorem map_range {l : List Tm} {g g' : Tm → Tm} {q : Nat → Tm} (h : ∀ i (hi : i < l.length), g l[i] = g' (q i)) : l.map g = ((List.range l.length).map q).map g' := by
  apply List.ext_getElem
  · simp
  · intro i h1 h2
    simp only [List.getElem_map, List.getElem_range]
    exact h i (by simpa using h1)
theorem Joined.out_bare (j : Joined N T H K E) {ρ : Nat → Nat} (hr : Ranked N T H K ρ) {out : Nat → Tm} (ho : OutOk N T H K out) : ∀ h, h < N → H h = h → (out h).strip = out h :=
  j.ind hr fun h hN hh ih => by
    by_cases hf : (T h).f < 0
    · rw [out_var ho hN hh hf, strip_of_var (t := ⟨(T h).f, []⟩) hf]
    · rw [out_sym ho hN hh hf, Tm.strip_eq, Tm.ps_of_sym (t := ⟨(T h).f, _⟩) (by show 0 ≤ (T h).f; omega)]
      congr 1
      rw [List.map_map]
      exact List.map_congr_left fun i hi => ih hf i (List.mem_range.1 hi)
/-- What is told of a variable. -/
structure Says (N : Nat) (T : Nat → Tm) (H : Nat → Nat) (out : Nat → Tm) (σ : Int → Tm) : Prop where
  at_ : ∀ n, n < N → (T n).f < 0 → σ (-1 - (T n).f) = out (H n)
  off : ∀ v, 0 ≤ v → (∀ n, n < N → (T n).f ≠ -1 - v) → σ v = varT v
theorem Joined.rep (j : Joined N T H K E) {ρ : Nat → Nat} (hr : Ranked N T H K ρ) {out : Nat → Tm} (ho : OutOk N T H K out) {σ : Int → Tm} (hs : Says N T H out σ) : ∀ (t : Tm) (n : Nat), n < N → T n = t → repT σ t = out (H n) := by
  refine Tm.ind fun f l ih n hN e => ?_
  obtain ⟨hH, hHH⟩ := j.hd n hN
  by_cases hf : f < 0
  · have := hs.at_ n hN (by rw [e]; exact hf)
    rw [e] at this
    rw [repT_var (t := ⟨f, l⟩) hf, this, j.out_bare hr ho _ hH hHH]
  · have hfn : ¬ (T n).f < 0 := by rw [e]; exact hf
    obtain ⟨c1, c2, c3⟩ := j.cls n hN hfn
    rw [repT_sym (t := ⟨f, l⟩) hf, out_sym ho hH hHH (by rw [c1]; exact hfn), c1, c2, e]
    congr 1
    have := map_range (l := l) (g := repT σ) (g' := id) (q := fun i => out (H (K (H n) + i))) fun i hi => by
      have hi' : i < (T n).l.length := by rw [e]; exact hi
      obtain ⟨p1, p2, _⟩ := j.part hN hfn hi'
      have p3 : (T n).l[i] = l[i] := by simp only [e]
      rw [ih l[i] (List.getElem_mem hi) (K n + i) p1 (by rw [p2, p3]), c3 i hi']
      rfl
    rw [this, List.map_id]
theorem Joined.most (j : Joined N T H K E) {ρ : Nat → Nat} (hr : Ranked N T H K ρ) {out : Nat → Tm} (ho : OutOk N T H K out) {τ : Int → Tm} (ht : uni τ E) : ∀ h, h < N → H h = h → repT τ (out h) = repT τ (T h) :=
  j.ind hr fun h hN hh ih => by
    by_cases hf : (T h).f < 0
    · rw [out_var ho hN hh hf, repT_var (t := ⟨(T h).f, []⟩) hf, repT_var hf]
    · rw [out_sym ho hN hh hf, repT_sym (t := ⟨(T h).f, _⟩) hf, repT_sym hf]
      congr 1
      refine (map_range fun i hi => ?_).symm
      obtain ⟨p1, p2, _⟩ := j.part hN hf hi
      rw [ih hf i hi, ← j.sound τ ht _ p1, p2]
theorem Joined.idem (j : Joined N T H K E) {ρ : Nat → Nat} (hr : Ranked N T H K ρ) {out : Nat → Tm} (ho : OutOk N T H K out) {σ : Int → Tm} (hs : Says N T H out σ) : ∀ h, h < N → H h = h → ∀ u ∈ (out h).vs, σ u = varT u :=
  j.ind hr fun h hN hh ih u hu => by
    by_cases hf : (T h).f < 0
    · have h1 := out_var ho hN hh hf
      rw [h1, Tm.vs_var (t := ⟨(T h).f, []⟩) hf, List.mem_singleton] at hu
      have h2 := hs.at_ h hN hf
      rw [hh, h1] at h2
      have hu : u = -1 - (T h).f := hu
      rw [hu, h2]
      unfold varT
      rw [show -1 - (-1 - (T h).f) = (T h).f by omega]
    · rw [out_sym ho hN hh hf, Tm.vs_sym (t := ⟨(T h).f, _⟩) hf, List.mem_flatMap] at hu
      obtain ⟨t, ht, hu⟩ := hu
      obtain ⟨i, hi, rfl⟩ := List.mem_map.1 ht
      exact ih hf i (List.mem_range.1 hi) u hu
/-- What the classes come to is the unifier. -/
theorem Joined.mgu (j : Joined N T H K E) {ρ : Nat → Nat} (hr : Ranked N T H K ρ) {out : Nat → Tm} (ho : OutOk N T H K out) {σ : Int → Tm} (hs : Says N T H out σ) : Mgu σ E := by
  have two : ∀ v, 0 ≤ v → (∃ n, n < N ∧ (T n).f = -1 - v ∧ σ v = out (H n)) ∨ σ v = varT v := fun v hv => by
    by_cases h : ∃ n, n < N ∧ (T n).f = -1 - v
    · obtain ⟨n, h1, h2⟩ := h
      have := hs.at_ n h1 (by omega)
      rw [h2, show -1 - (-1 - v) = v by omega] at this
      exact .inl ⟨n, h1, h2, this⟩
    · exact .inr (hs.off v hv fun n h1 h2 => h ⟨n, h1, h2⟩)
  refine ⟨fun p hp => ?_, fun v hv => ?_, fun v hv u hu => ?_, fun τ ht v hv => ?_, fun v hv hf => ?_⟩
  · obtain ⟨n, m, h1, h2, h3, h4, h5⟩ := j.pair p hp
    rw [j.rep hr ho hs p.1 n h1 h3, j.rep hr ho hs p.2 m h2 h4, h5]
  · rcases two v hv with ⟨n, h1, h2, h3⟩ | h3
    · rw [h3, j.out_bare hr ho _ (j.hd n h1).1 (j.hd n h1).2]
    · rw [h3, varT_strip]
  · rcases two v hv with ⟨n, h1, h2, h3⟩ | h3
    · rw [h3] at hu
      exact j.idem hr ho hs _ (j.hd n h1).1 (j.hd n h1).2 u hu
    · rw [h3, Tm.vs_var (by rw [varT_f]; omega), varT_f, List.mem_singleton] at hu
      rw [show u = v by omega]; exact h3
  · rcases two v hv with ⟨n, h1, h2, h3⟩ | h3
    · rw [h3, j.most hr ho ht _ (j.hd n h1).1 (j.hd n h1).2, ← j.sound τ ht n h1, repT_var (by omega), h2, show -1 - (-1 - v) = v by omega]
    · rw [h3, rep_varT hv]
  · rcases two v hv with ⟨n, h1, h2, h3⟩ | h3
    · have := j.low n h1
      rw [h3, out_f ho (j.hd n h1).1 (j.hd n h1).2]
      omega
    · rw [h3, varT_f]; omega
/-- Where heads are left over, each in one that is left over too, there is no unifier. -/
theorem Joined.no (j : Joined N T H K E) {O : Nat → Prop} (hO : ∀ h, h < N → H h = h → ¬ O h → ∃ g, g < N ∧ H g = g ∧ ¬ O g ∧ ¬ (T g).f < 0 ∧ ∃ i, i < (T g).l.length ∧ H (K g + i) = h) {h0 : Nat} (hN0 : h0 < N) (hh0 : H h0 = h0) (hn0 : ¬ O h0) (τ : Int → Tm) : ¬ uni τ E := by
  intro ht
  have up : ∀ k : Nat, ∃ h, h < N ∧ H h = h ∧ ¬ O h ∧ k ≤ (repT τ (T h)).size := fun k => by
    induction k with
    | zero => exact ⟨h0, hN0, hh0, hn0, Nat.zero_le _⟩
    | succ k ih =>
      obtain ⟨h, h1, h2, h3, h4⟩ := ih
      obtain ⟨g, g1, g2, g3, g4, i, g5, g6⟩ := hO h h1 h2 h3
      refine ⟨g, g1, g2, g3, ?_⟩
      obtain ⟨p1, p2, _⟩ := j.part g1 g4 g5
      have h5 : repT τ (T h) = repT τ (T g).l[i] := by rw [← g6, ← j.sound τ ht _ p1, p2]
      have h6 : (repT τ (T g).l[i]).size < (repT τ (T g)).size := by
        refine Tm.size_part ?_
        rw [repT_sym g4, Tm.ps_of_sym (t := ⟨(T g).f, _⟩) (by show 0 ≤ (T g).f; omega)]
        exact List.mem_map.2 ⟨_, List.getElem_mem g5, rfl⟩
      rw [h5] at h4
      omega
  have top : ∀ M : Nat, ∃ B, ∀ n, n < M → (repT τ (T n)).size ≤ B := fun M => by
    induction M with
    | zero => exact ⟨0, fun n hn => by omega⟩
    | succ M ih =>
      obtain ⟨B, hB⟩ := ih
      refine ⟨max B (repT τ (T M)).size, fun n hn => ?_⟩
      rcases Nat.lt_or_ge n M with h | h
      · exact Nat.le_trans (hB n h) (Nat.le_max_left _ _)
      · rw [show n = M by omega]; exact Nat.le_max_right _ _
  obtain ⟨B, hB⟩ := top N
  obtain ⟨h, h1, _, _, h4⟩ := up (B + 1)
  have := hB h h1
  omega
end
end Go.Proofs.Ytgmllfjidhbjjab


namespace Go.Proofs.Ytgmllfjidhbjjab
set_option linter.unusedVariables false
set_option linter.unusedSimpArgs false

def lookV : List (Int × Nat) → Int → Option Nat
  | [], _ => none
  | p :: l, v => if p.1 = v then some p.2 else lookV l v
theorem lookV_snoc (l : List (Int × Nat)) (u : Int) (n : Nat) (v : Int) : lookV (l ++ [(u, n)]) v = (lookV l v).or (if u = v then some n else none) := by
  induction l with
  | nil => rfl
  | cons p l ih =>
    rw [List.cons_append, lookV, lookV]
    split
    · rfl
    · exact ih
/-- Two nodes come to one class, if what waits is done. -/
def Con (N : Nat) (H : Nat → Nat) (ps : List (Nat × Nat)) (x y : Nat) : Prop := ∀ G : Nat → Nat, (∀ m, m < N → G m = G (H m)) → (∀ p ∈ ps, G p.1 = G p.2) → G x = G y
/-- N nodes: T their terms, K where their parts begin (0: not asked for), U a node nearer to the head, H the head (r: how far it is); vr the variables' first nodes; ps what waits; E the pairs of terms so far. -/
structure Cls (N : Nat) (T : Nat → Tm) (K U H r : Nat → Nat) (vr : List (Int × Nat)) (ps : List (Nat × Nat)) (E : List (Tm × Tm)) : Prop where
  hd : ∀ n, n < N → H n < N ∧ H (H n) = H n
  up : ∀ n, n < N → U n < N ∧ H (U n) = H n ∧ (H n = n → U n = n)
  rank : ∀ n, n < N → H n ≠ n → r (U n) < r n
  low : ∀ n, n < N → (T n).f ≤ (T (H n)).f
  kid : ∀ n, n < N → K n ≠ 0 → ¬ (T n).f < 0 ∧ ∀ i, i < (T n).l.length → K n + i < N ∧ (T n).l[i]? = some (T (K n + i))
  vrs : ∀ n, n < N → (T n).f < 0 → ∃ m, lookV vr (-1 - (T n).f) = some m ∧ H n = H m
  vrt : ∀ v m, lookV vr v = some m → m < N ∧ (T m).f = -1 - v
  cls : ∀ n, n < N → ¬ (T n).f < 0 → H n ≠ n → (T (H n)).f = (T n).f ∧ (T (H n)).l.length = (T n).l.length ∧ ((T n).l.length ≠ 0 → K n ≠ 0 ∧ K (H n) ≠ 0) ∧ ∀ i, i < (T n).l.length → Con N H ps (K n + i) (K (H n) + i)
  pss : ∀ p ∈ ps, p.1 < N ∧ p.2 < N
  pair : ∀ p ∈ E, ∃ n m, n < N ∧ m < N ∧ T n = p.1 ∧ T m = p.2 ∧ Con N H ps n m
  sound : ∀ τ, uni τ E → (∀ n, n < N → repT τ (T n) = repT τ (T (H n))) ∧ ∀ p ∈ ps, repT τ (T p.1) = repT τ (T p.2)

section
variable {N : Nat} {T : Nat → Tm} {K U H r : Nat → Nat} {vr : List (Int × Nat)} {ps : List (Nat × Nat)} {E : List (Tm × Tm)}
def upd {α : Type} (f : Nat → α) (n : Nat) (x : α) (m : Nat) : α := if m = n then x else f m
theorem upd_same {α : Type} {f : Nat → α} {n : Nat} {x : α} : upd f n x n = x := if_pos rfl
theorem upd_ne {α : Type} {f : Nat → α} {n m : Nat} {x : α} (h : m ≠ n) : upd f n x m = f m := if_neg h

theorem Cls.nil : Cls 0 T K U H r [] [] [] :=
  ⟨fun n h => by omega, fun n h => by omega, fun n h => by omega, fun n h => by omega, fun n h => by omega, fun n h => by omega, fun v m h => (by cases h), fun n h => by omega, fun p h => (by cases h), fun p h => (by cases h), fun τ _ => ⟨fun n h => by omega, fun p h => (by cases h)⟩⟩

/-- A node more. -/
theorem Cls.add (h : Cls N T K U H r vr ps E) {t : Tm} {u : Nat} {vr' : List (Int × Nat)} (hu : u ≤ N) (hb : u < N → t.f < 0 ∧ (T u).f = t.f) (hv1 : ∀ v m, lookV vr v = some m → lookV vr' v = some m) (hv2 : ∀ v m, lookV vr' v = some m → lookV vr v = some m ∨ (m = N ∧ t.f = -1 - v)) (hv3 : t.f < 0 → lookV vr' (-1 - t.f) = some u) :
    Cls (N + 1) (upd T N t) (upd K N 0) (upd U N u) (upd H N (if u = N then N else H u)) (upd r N (if u = N then 0 else r u + 1)) vr' ps E := by
  have hH : ∀ {n}, n < N → upd H N (if u = N then N else H u) n = H n := fun hn => upd_ne (by omega)
  have hT : ∀ {n}, n < N → upd T N t n = T n := fun hn => upd_ne (by omega)
  have hK : ∀ {n}, n < N → upd K N 0 n = K n := fun hn => upd_ne (by omega)
  have hU : ∀ {n}, n < N → upd U N u n = U n := fun hn => upd_ne (by omega)
  have hr : ∀ {n}, n < N → upd r N (if u = N then 0 else r u + 1) n = r n := fun hn => upd_ne (by omega)
  have con : ∀ {x y}, Con N H ps x y → Con (N + 1) (upd H N (if u = N then N else H u)) ps x y := fun hc G g1 g2 => hc G (fun m hm => by have := g1 m (by omega); rw [hH hm] at this; exact this) g2
  have two : ∀ {n}, n < N + 1 → n < N ∨ n = N := fun hn => by omega
  refine ⟨fun n hn => ?_, fun n hn => ?_, fun n hn hne => ?_, fun n hn => ?_, fun n hn hk => ?_, fun n hn hf => ?_, fun v m hl => ?_, fun n hn hf hne => ?_, fun p hp => ?_, fun p hp => ?_, fun τ ht => ?_⟩
  · rcases two hn with hn | rfl
    · have := h.hd n hn
      rw [hH hn, hH this.1]
      exact ⟨by omega, this.2⟩
    · rw [upd_same]
      split
      · exact ⟨by omega, by rw [upd_same]⟩
      · have := h.hd u (by omega)
        rw [upd_ne (by omega)]
        exact ⟨by omega, this.2⟩
  · rcases two hn with hn | rfl
    · have := h.up n hn
      rw [hU hn, hH hn, hH this.1]
      exact ⟨by omega, this.2⟩
    · rw [upd_same, upd_same]
      by_cases e : u = n
      · rw [if_pos e, e, upd_same]
        exact ⟨by omega, by simp, fun _ => rfl⟩
      · rw [if_neg e, upd_ne e]
        refine ⟨by omega, rfl, fun e2 => ?_⟩
        have := (h.hd u (by omega)).1
        omega
  · rcases two hn with hn | rfl
    · rw [hH hn] at hne
      rw [hU hn, hr hn, hr (h.up n hn).1]
      exact h.rank n hn hne
    · rw [upd_same] at hne
      rw [upd_same, upd_same]
      by_cases e : u = n
      · rw [if_pos e] at hne; exact absurd rfl hne
      · rw [if_neg e, upd_ne e]; omega
  · rcases two hn with hn | rfl
    · rw [hH hn, hT hn, hT (h.hd n hn).1]; exact h.low n hn
    · rw [upd_same, upd_same]
      by_cases e : u = n
      · rw [if_pos e, upd_same]; exact Int.le_refl _
      · rw [if_neg e]
        have h1 := h.hd u (by omega)
        have h2 := h.low u (by omega)
        rw [hT h1.1, ← (hb (by omega)).2]
        exact h2
  · rcases two hn with hn | rfl
    · rw [hK hn] at hk ⊢
      rw [hT hn]
      obtain ⟨h1, h2⟩ := h.kid n hn hk
      refine ⟨h1, fun i hi => ?_⟩
      have := h2 i hi
      rw [hT this.1]
      exact ⟨by omega, this.2⟩
    · rw [upd_same] at hk; exact absurd rfl hk
  · rcases two hn with hn | rfl
    · rw [hT hn] at hf ⊢
      obtain ⟨m, h1, h2⟩ := h.vrs n hn hf
      have := (h.vrt _ m h1).1
      exact ⟨m, hv1 _ _ h1, by rw [hH hn, hH this, h2]⟩
    · rw [upd_same] at hf ⊢
      refine ⟨u, hv3 hf, ?_⟩
      rw [upd_same]
      by_cases e : u = n
      · rw [if_pos e, e, upd_same]
      · rw [if_neg e, upd_ne e]
  · rcases hv2 v m hl with h1 | ⟨rfl, h1⟩
    · have := h.vrt v m h1
      rw [hT this.1]
      exact ⟨by omega, this.2⟩
    · rw [upd_same]; exact ⟨by omega, h1⟩
  · rcases two hn with hn | rfl
    · have h1 := (h.hd n hn).1
      rw [hT hn] at hf ⊢
      rw [hH hn] at hne ⊢
      rw [hT h1, hK hn, hK h1]
      obtain ⟨c1, c2, c3, c4⟩ := h.cls n hn hf hne
      exact ⟨c1, c2, c3, fun i hi => con (c4 i hi)⟩
    · rw [upd_same] at hf hne
      by_cases e : u = n
      · rw [if_pos e] at hne; exact absurd rfl hne
      · exact absurd (hb (by omega)).1 hf
  · have := h.pss p hp; exact ⟨by omega, by omega⟩
  · obtain ⟨n, m, h1, h2, h3, h4, h5⟩ := h.pair p hp
    exact ⟨n, m, by omega, by omega, by rw [hT h1]; exact h3, by rw [hT h2]; exact h4, con h5⟩
  · obtain ⟨s1, s2⟩ := h.sound τ ht
    refine ⟨fun n hn => ?_, fun p hp => ?_⟩
    · rcases two hn with hn | rfl
      · rw [hH hn, hT hn, hT (h.hd n hn).1]; exact s1 n hn
      · rw [upd_same, upd_same]
        by_cases e : u = n
        · rw [if_pos e, upd_same]
        · have hu' : u < n := by omega
          rw [if_neg e, hT (h.hd u hu').1, ← s1 u hu']
          obtain ⟨f1, f2⟩ := hb hu'
          rw [repT_var f1, repT_var (by rw [f2]; exact f1), f2]
    · have := h.pss p hp
      rw [hT this.1, hT this.2]
      exact s2 p hp
/-- A node's parts are asked for: they are nodes already. -/
theorem Cls.setK (h : Cls N T K U H r vr ps E) {n k : Nat} (hn : n < N) (hk : K n = 0) (hf : ¬ (T n).f < 0) (hp : ∀ i, i < (T n).l.length → k + i < N ∧ (T n).l[i]? = some (T (k + i))) : Cls N T (upd K n k) U H r vr ps E := by
  refine ⟨h.hd, h.up, h.rank, h.low, fun m hm h1 => ?_, h.vrs, h.vrt, fun m hm h1 h2 => ?_, h.pss, h.pair, h.sound⟩
  · by_cases e : m = n
    · subst e; rw [upd_same]; exact ⟨hf, hp⟩
    · rw [upd_ne e] at h1 ⊢; exact h.kid m hm h1
  · obtain ⟨c1, c2, c3, c4⟩ := h.cls m hm h1 h2
    refine ⟨c1, c2, fun h3 => ?_, fun i hi => ?_⟩
    · obtain ⟨d1, d2⟩ := c3 h3
      rw [upd_ne (m := m) (fun e => d1 (by rw [e]; exact hk)), upd_ne (m := H m) (fun e => d2 (by rw [e]; exact hk))]
      exact ⟨d1, d2⟩
    · obtain ⟨d1, d2⟩ := c3 (by omega)
      rw [upd_ne (m := m) (fun e => d1 (by rw [e]; exact hk)), upd_ne (m := H m) (fun e => d2 (by rw [e]; exact hk))]
      exact c4 i hi
/-- A way is made shorter. -/
theorem Cls.halve (h : Cls N T K U H r vr ps E) {n : Nat} (hn : n < N) : Cls N T K (upd U n (U (U n))) H r vr ps E := by
  obtain ⟨u1, u2, u3⟩ := h.up n hn
  obtain ⟨v1, v2, v3⟩ := h.up (U n) u1
  refine ⟨h.hd, fun m hm => ?_, fun m hm h1 => ?_, h.low, h.kid, h.vrs, h.vrt, h.cls, h.pss, h.pair, h.sound⟩
  · by_cases e : m = n
    · subst e
      rw [upd_same]
      exact ⟨v1, by rw [v2, u2], fun e => by rw [u3 e]; exact u3 e⟩
    · rw [upd_ne e]; exact h.up m hm
  · by_cases e : m = n
    · subst e
      rw [upd_same]
      have h2 := h.rank m hm h1
      by_cases e2 : H (U m) = U m
      · rw [v3 e2]; exact h2
      · have := h.rank (U m) u1 e2; omega
    · rw [upd_ne e]; exact h.rank m hm h1
/-- Both are of one class already. -/
theorem Cls.drop {x y : Nat} (h : Cls N T K U H r vr (ps ++ [(x, y)]) E) (e : H x = H y) : Cls N T K U H r vr ps E := by
  have hxy := h.pss (x, y) (by simp)
  have con : ∀ {p q}, Con N H (ps ++ [(x, y)]) p q → Con N H ps p q := fun hc G g1 g2 => hc G g1 fun p hp => by
    rcases List.mem_append.1 hp with hp | hp
    · exact g2 p hp
    · rw [List.mem_singleton] at hp
      rw [hp]
      show G x = G y
      rw [g1 x hxy.1, g1 y hxy.2, e]
  refine ⟨h.hd, h.up, h.rank, h.low, h.kid, h.vrs, h.vrt, fun n hn h1 h2 => ?_, fun p hp => h.pss p (List.mem_append_left _ hp), fun p hp => ?_, fun τ ht => ⟨(h.sound τ ht).1, fun p hp => (h.sound τ ht).2 p (List.mem_append_left _ hp)⟩⟩
  · obtain ⟨c1, c2, c3, c4⟩ := h.cls n hn h1 h2
    exact ⟨c1, c2, c3, fun i hi => con (c4 i hi)⟩
  · obtain ⟨n, m, h1, h2, h3, h4, h5⟩ := h.pair p hp
    exact ⟨n, m, h1, h2, h3, h4, con h5⟩
/-- A pair of terms more. -/
theorem Cls.push (h : Cls N T K U H r vr ps E) {n m : Nat} (hn : n < N) (hm : m < N) : Cls N T K U H r vr (ps ++ [(n, m)]) (E ++ [(T n, T m)]) := by
  have con : ∀ {p q}, Con N H ps p q → Con N H (ps ++ [(n, m)]) p q := fun hc G g1 g2 => hc G g1 fun p hp => g2 p (List.mem_append_left _ hp)
  refine ⟨h.hd, h.up, h.rank, h.low, h.kid, h.vrs, h.vrt, fun a ha h1 h2 => ?_, fun p hp => ?_, fun p hp => ?_, fun τ ht => ?_⟩
  · obtain ⟨c1, c2, c3, c4⟩ := h.cls a ha h1 h2
    exact ⟨c1, c2, c3, fun i hi => con (c4 i hi)⟩
  · rcases List.mem_append.1 hp with hp | hp
    · exact h.pss p hp
    · rw [List.mem_singleton] at hp; rw [hp]; exact ⟨hn, hm⟩
  · rcases List.mem_append.1 hp with hp | hp
    · obtain ⟨a, b, h1, h2, h3, h4, h5⟩ := h.pair p hp
      exact ⟨a, b, h1, h2, h3, h4, con h5⟩
    · rw [List.mem_singleton] at hp
      rw [hp]
      exact ⟨n, m, hn, hm, rfl, rfl, fun G _ g2 => g2 (n, m) (by simp)⟩
  · rw [uni_app, uni_one] at ht
    obtain ⟨s1, s2⟩ := h.sound τ ht.1
    refine ⟨s1, fun p hp => ?_⟩
    rcases List.mem_append.1 hp with hp | hp
    · exact s2 p hp
    · rw [List.mem_singleton] at hp; rw [hp]; exact ht.2
/-- Two classes become one. -/
theorem Cls.union {x y : Nat} (h : Cls N T K U H r vr (ps ++ [(x, y)]) E) {a b : Nat} (ha : a < N) (hb : b < N) (hha : H a = a) (hhb : H b = b) (hab : a ≠ b) (hxy : (H x = a ∧ H y = b) ∨ (H x = b ∧ H y = a)) (hlow : (T a).f ≤ (T b).f) {qs : List (Nat × Nat)}
    (hs : ¬ (T a).f < 0 → (T b).f = (T a).f ∧ (T b).l.length = (T a).l.length ∧ ((T a).l.length ≠ 0 → K a ≠ 0 ∧ K b ≠ 0) ∧ ∀ i, i < (T a).l.length → (K a + i, K b + i) ∈ qs)
    (hq : ∀ q ∈ qs, ¬ (T a).f < 0 ∧ ∃ i, i < (T a).l.length ∧ q = (K a + i, K b + i)) :
    Cls N T K (upd U a b) (fun m => if H m = a then b else H m) (fun m => if H m = a then r m + r b + 1 else r m) vr (ps ++ qs) E := by
  have hxyN := h.pss (x, y) (by simp)
  obtain ⟨H', hH'⟩ : ∃ H' : Nat → Nat, H' = fun m => if H m = a then b else H m := ⟨_, rfl⟩
  have e1 : ∀ {m}, H m = a → H' m = b := fun e => by rw [hH']; exact if_pos e
  have e2 : ∀ {m}, H m ≠ a → H' m = H m := fun e => by rw [hH']; exact if_neg e
  rw [← hH']
  have hkids : ¬ (T a).f < 0 → ∀ i, i < (T a).l.length → K a + i < N ∧ K b + i < N ∧ (T a).l[i]? = some (T (K a + i)) ∧ (T b).l[i]? = some (T (K b + i)) := fun hf i hi => by
    obtain ⟨_, s2, s3, _⟩ := hs hf
    obtain ⟨k1, k2⟩ := s3 (by omega)
    have p1 := (h.kid a ha k1).2 i hi
    have p2 := (h.kid b hb k2).2 i (by omega)
    exact ⟨p1.1, p2.1, p1.2, p2.2⟩
  -- what respects the new classes respects the old ones
  have resp : ∀ G : Nat → Nat, (∀ m, m < N → G m = G (H' m)) → (∀ p ∈ ps ++ qs, G p.1 = G p.2) → (∀ m, m < N → G m = G (H m)) ∧ ∀ p ∈ ps ++ [(x, y)], G p.1 = G p.2 := fun G g1 g2 => by
    have g3 : ∀ m, m < N → G m = G (H m) := fun m hm => by
      by_cases e : H m = a
      · rw [g1 m hm, e1 e, e, g1 a ha, e1 hha]
      · rw [g1 m hm, e2 e]
    refine ⟨g3, fun p hp => ?_⟩
    rcases List.mem_append.1 hp with hp | hp
    · exact g2 p (List.mem_append_left _ hp)
    · rw [List.mem_singleton] at hp
      rw [hp]
      show G x = G y
      have g4 : G a = G b := by rw [g1 a ha, e1 hha]
      rw [g3 x hxyN.1, g3 y hxyN.2]
      rcases hxy with ⟨c1, c2⟩ | ⟨c1, c2⟩
      · rw [c1, c2, g4]
      · rw [c1, c2, g4]
  have con : ∀ {p q}, Con N H (ps ++ [(x, y)]) p q → Con N H' (ps ++ qs) p q := fun hc G g1 g2 => hc G (resp G g1 g2).1 (resp G g1 g2).2
  have hba : H b ≠ a := by rw [hhb]; exact Ne.symm hab
  refine ⟨fun n hn => ?_, fun n hn => ?_, fun n hn hne => ?_, fun n hn => ?_, h.kid, fun n hn hf => ?_, h.vrt, fun n hn hf hne => ?_, fun p hp => ?_, fun p hp => ?_, fun τ ht => ?_⟩
  · by_cases e : H n = a
    · rw [e1 e, e2 hba]; exact ⟨hb, hhb⟩
    · have := h.hd n hn
      rw [e2 e, e2 (by rw [this.2]; exact e)]; exact this
  · obtain ⟨u1, u2, u3⟩ := h.up n hn
    by_cases e : n = a
    · subst e
      rw [upd_same, e1 hha, e2 hba]
      exact ⟨hb, hhb, fun e => e⟩
    · rw [upd_ne e]
      by_cases e3 : H n = a
      · rw [e1 e3, e1 (by rw [u2]; exact e3)]
        exact ⟨u1, rfl, fun e4 => by rw [← e4, hhb] at e3; exact absurd e3.symm hab⟩
      · rw [e2 e3, e2 (by rw [u2]; exact e3)]
        exact ⟨u1, u2, u3⟩
  · obtain ⟨u1, u2, u3⟩ := h.up n hn
    by_cases e : n = a
    · subst e
      rw [upd_same, if_neg hba, if_pos hha]; omega
    · rw [upd_ne e]
      by_cases e3 : H n = a
      · have := h.rank n hn (by rw [e3]; exact Ne.symm e)
        rw [if_pos e3, if_pos (by rw [u2]; exact e3)]; omega
      · rw [e2 e3] at hne
        rw [if_neg e3, if_neg (by rw [u2]; exact e3)]
        exact h.rank n hn hne
  · have := h.low n hn
    by_cases e : H n = a
    · rw [e1 e]; rw [e] at this; omega
    · rw [e2 e]; exact this
  · obtain ⟨m, h1, h2⟩ := h.vrs n hn hf
    refine ⟨m, h1, ?_⟩
    by_cases e : H n = a
    · rw [e1 e, e1 (by rw [← h2]; exact e)]
    · rw [e2 e, e2 (by rw [← h2]; exact e), h2]
  · by_cases e : H n = a
    · rw [e1 e]
      by_cases e3 : n = a
      · subst e3
        obtain ⟨s1, s2, s3, s4⟩ := hs hf
        exact ⟨s1, s2, s3, fun i hi G g1 g2 => g2 _ (List.mem_append_right _ (s4 i hi))⟩
      · obtain ⟨c1, c2, c3, c4⟩ := h.cls n hn hf (by rw [e]; exact Ne.symm e3)
        rw [e] at c1 c2 c3 c4
        obtain ⟨s1, s2, s3, s4⟩ := hs (by rw [c1]; exact hf)
        refine ⟨by rw [s1, c1], by rw [s2, c2], fun h5 => ⟨(c3 h5).1, (s3 (by rw [c2]; exact h5)).2⟩, fun i hi G g1 g2 => ?_⟩
        rw [con (c4 i hi) G g1 g2]
        exact g2 _ (List.mem_append_right _ (s4 i (by rw [c2]; exact hi)))
    · rw [e2 e] at hne ⊢
      obtain ⟨c1, c2, c3, c4⟩ := h.cls n hn hf hne
      exact ⟨c1, c2, c3, fun i hi => con (c4 i hi)⟩
  · rcases List.mem_append.1 hp with hp | hp
    · exact h.pss p (List.mem_append_left _ hp)
    · obtain ⟨hf, i, hi, e⟩ := hq p hp
      have := hkids hf i hi
      rw [e]
      exact ⟨this.1, this.2.1⟩
  · obtain ⟨n, m, h1, h2, h3, h4, h5⟩ := h.pair p hp
    exact ⟨n, m, h1, h2, h3, h4, con h5⟩
  · obtain ⟨s1, s2⟩ := h.sound τ ht
    have hxy2 : repT τ (T x) = repT τ (T y) := s2 (x, y) (by simp)
    have hab2 : repT τ (T a) = repT τ (T b) := by
      rw [s1 x hxyN.1, s1 y hxyN.2] at hxy2
      rcases hxy with ⟨c1, c2⟩ | ⟨c1, c2⟩
      · rw [c1, c2] at hxy2; exact hxy2
      · rw [c1, c2] at hxy2; exact hxy2.symm
    refine ⟨fun n hn => ?_, fun p hp => ?_⟩
    · by_cases e : H n = a
      · rw [e1 e, s1 n hn, e, hab2]
      · rw [e2 e]; exact s1 n hn
    · rcases List.mem_append.1 hp with hp | hp
      · exact s2 p (List.mem_append_left _ hp)
      · obtain ⟨hf, i, hi, e⟩ := hq p hp
        obtain ⟨_, _, k3, k4⟩ := hkids hf i hi
        rw [e]
        obtain ⟨s3, s4, _⟩ := hs hf
        rw [repT_sym hf, repT_sym (by rw [s3]; exact hf)] at hab2
        have := congrArg (fun t : Tm => t.l[i]?) hab2
        simp only [List.getElem?_map, k3, k4, Option.map_some, Option.some.injEq] at this
        exact this
/-- Two symbols stand against it. -/
theorem Cls.clash {x y : Nat} (h : Cls N T K U H r vr (ps ++ [(x, y)]) E) {a b : Nat} (hxy : (H x = a ∧ H y = b) ∨ (H x = b ∧ H y = a)) (hfa : ¬ (T a).f < 0) (hfb : ¬ (T b).f < 0) (hc : (T a).f ≠ (T b).f ∨ (T a).l.length ≠ (T b).l.length) (τ : Int → Tm) : ¬ uni τ E := by
  intro ht
  have hxyN := h.pss (x, y) (by simp)
  obtain ⟨s1, s2⟩ := h.sound τ ht
  have hxy2 : repT τ (T x) = repT τ (T y) := s2 (x, y) (by simp)
  have hab2 : repT τ (T a) = repT τ (T b) := by
    rw [s1 x hxyN.1, s1 y hxyN.2] at hxy2
    rcases hxy with ⟨c1, c2⟩ | ⟨c1, c2⟩
    · rw [c1, c2] at hxy2; exact hxy2
    · rw [c1, c2] at hxy2; exact hxy2.symm
  rw [repT_sym hfa, repT_sym hfb] at hab2
  have h4 := congrArg Tm.f hab2
  have h5 := congrArg (fun t : Tm => t.l.length) hab2
  simp only [List.length_map] at h4 h5
  rcases hc with hc | hc
  · exact hc h4
  · exact hc h5
/-- Nothing waits, and all parts were asked for. -/
theorem Cls.joined (h : Cls N T K U H r vr [] E) (hk : ∀ n, n < N → ¬ (T n).f < 0 → (T n).l.length ≠ 0 → K n ≠ 0) : Joined N T H K E := by
  have con : ∀ {p q}, Con N H [] p q → H p = H q := fun hc => hc H (fun m hm => (h.hd m hm).2.symm) (fun p hp => by cases hp)
  refine ⟨h.hd, h.low, fun n hn hf i p hp => ?_, fun n hn hf => ?_, fun n m hn hm hf e => ?_, fun p hp => ?_, fun τ ht => (h.sound τ ht).1⟩
  · have hi : i < (T n).l.length := by
      rcases Nat.lt_or_ge i (T n).l.length with h1 | h1
      · exact h1
      · rw [List.getElem?_eq_none h1] at hp; cases hp
    obtain ⟨k1, k2⟩ := (h.kid n hn (hk n hn hf (by omega))).2 i hi
    rw [k2] at hp
    exact ⟨k1, Option.some.inj hp⟩
  · by_cases e : H n = n
    · rw [e]; exact ⟨rfl, rfl, fun _ _ => rfl⟩
    · obtain ⟨c1, c2, c3, c4⟩ := h.cls n hn hf e
      exact ⟨c1, c2, fun i hi => con (c4 i hi)⟩
  · obtain ⟨a, a1, a2⟩ := h.vrs n hn hf
    obtain ⟨b, b1, b2⟩ := h.vrs m hm (by rw [← e]; exact hf)
    rw [← e, a1] at b1
    rw [a2, b2, Option.some.inj b1]
  · obtain ⟨n, m, h1, h2, h3, h4, h5⟩ := h.pair p hp
    exact ⟨n, m, h1, h2, h3, h4, con h5⟩
end
end Go.Proofs.Ytgmllfjidhbjjab


namespace Go.Proofs.Ytgmllfjidhbjjab
set_option linter.unusedVariables false
set_option linter.unusedSimpArgs false

theorem Cls.congr {N : Nat} {T T' : Nat → Tm} {K K' U U' H H' r : Nat → Nat} {vr ps E} (h : Cls N T K U H r vr ps E) (hT : ∀ n, n < N → T' n = T n) (hK : ∀ n, n < N → K' n = K n) (hU : ∀ n, n < N → U' n = U n) (hH : ∀ n, n < N → H' n = H n) : Cls N T' K' U' H' r vr ps E := by
  have con : ∀ {x y}, Con N H ps x y → Con N H' ps x y := fun hc G g1 g2 => hc G (fun m hm => by rw [g1 m hm, hH m hm]) g2
  refine ⟨fun n hn => ?_, fun n hn => ?_, fun n hn hne => ?_, fun n hn => ?_, fun n hn hk => ?_, fun n hn hf => ?_, fun v m hl => ?_, fun n hn hf hne => ?_, h.pss, fun p hp => ?_, fun τ ht => ?_⟩
  · have := h.hd n hn; rw [hH n hn, hH _ this.1]; exact this
  · have := h.up n hn; rw [hU n hn, hH n hn, hH _ this.1]; exact this
  · rw [hH n hn] at hne; rw [hU n hn]; exact h.rank n hn hne
  · rw [hH n hn, hT n hn, hT _ (h.hd n hn).1]; exact h.low n hn
  · rw [hK n hn] at hk ⊢
    rw [hT n hn]
    obtain ⟨h1, h2⟩ := h.kid n hn hk
    refine ⟨h1, fun i hi => ?_⟩
    have := h2 i hi
    rw [hT _ this.1]; exact this
  · rw [hT n hn] at hf ⊢
    obtain ⟨m, h1, h2⟩ := h.vrs n hn hf
    exact ⟨m, h1, by rw [hH n hn, hH m (h.vrt _ m h1).1]; exact h2⟩
  · have := h.vrt v m hl; rw [hT m this.1]; exact this
  · have h1 := (h.hd n hn).1
    rw [hT n hn] at hf ⊢
    rw [hH n hn] at hne ⊢
    rw [hT _ h1, hK n hn, hK _ h1]
    obtain ⟨c1, c2, c3, c4⟩ := h.cls n hn hf hne
    exact ⟨c1, c2, c3, fun i hi => con (c4 i hi)⟩
  · obtain ⟨n, m, h1, h2, h3, h4, h5⟩ := h.pair p hp
    exact ⟨n, m, h1, h2, by rw [hT n h1]; exact h3, by rw [hT m h2]; exact h4, con h5⟩
  · obtain ⟨s1, s2⟩ := h.sound τ ht
    refine ⟨fun n hn => ?_, fun p hp => ?_⟩
    · rw [hH n hn, hT n hn, hT _ (h.hd n hn).1]; exact s1 n hn
    · have := h.pss p hp
      rw [hT _ this.1, hT _ this.2]; exact s2 p hp

/-- A node. -/
structure Nd where
  t : Tm
  fi : Nat
  up : Nat
  us : Int
def ndD : Nd := ⟨⟨0, []⟩, 0, 0, 0⟩
def nT (ns : List Nd) (n : Nat) : Tm := (ns.getD n ndD).t
def nK (ns : List Nd) (n : Nat) : Nat := (ns.getD n ndD).fi
def nU (ns : List Nd) (n : Nat) : Nat := (ns.getD n ndD).up
def nS (ns : List Nd) (n : Nat) : Int := (ns.getD n ndD).us
def setFi (ns : List Nd) (n k : Nat) : List Nd := ns.set n { ns.getD n ndD with fi := k }
def setUp (ns : List Nd) (n k : Nat) : List Nd := ns.set n { ns.getD n ndD with up := k }
structure Cl where
  ns : List Nd
  vr : List (Int × Nat)
  ps : List (Nat × Nat)
def ClsC (c : Cl) (H r : Nat → Nat) (E : List (Tm × Tm)) : Prop := Cls c.ns.length (nT c.ns) (nK c.ns) (nU c.ns) H r c.vr c.ps E

theorem getD_lt {ns : List Nd} {x : Nd} {n : Nat} (h : n < ns.length) : (ns ++ [x]).getD n ndD = ns.getD n ndD := by
  rw [List.getD_eq_getElem?_getD, List.getD_eq_getElem?_getD, List.getElem?_append_left h]
theorem getD_end {ns : List Nd} {x : Nd} : (ns ++ [x]).getD ns.length ndD = x := by
  rw [List.getD_eq_getElem?_getD, List.getElem?_append_right (Nat.le_refl _), Nat.sub_self]; rfl
theorem getDn_set {ns : List Nd} {x : Nd} {n m : Nat} (h : n < ns.length) : (ns.set n x).getD m ndD = if m = n then x else ns.getD m ndD := by
  rw [List.getD_eq_getElem?_getD, List.getElem?_set]
  by_cases e : m = n
  · subst e; rw [if_pos rfl, if_pos h, if_pos rfl]; rfl
  · rw [if_neg (Ne.symm e), if_neg e, List.getD_eq_getElem?_getD]
theorem upd_snoc {α : Type} (g : Nd → α) {ns : List Nd} {x : Nd} {n : Nat} (hn : n < ns.length + 1) : g ((ns ++ [x]).getD n ndD) = upd (fun m => g (ns.getD m ndD)) ns.length (g x) n := by
  rcases Nat.lt_or_ge n ns.length with h | h
  · rw [getD_lt h, upd_ne (by omega)]
  · have : n = ns.length := by omega
    rw [this, getD_end, upd_same]

/-- add: where the new node hangs. -/
def addU (c : Cl) (t : Tm) : Nat := if t.f < 0 then (lookV c.vr (-1 - t.f)).getD c.ns.length else c.ns.length
def addV (c : Cl) (t : Tm) : List (Int × Nat) := if t.f < 0 then (match lookV c.vr (-1 - t.f) with | some _ => c.vr | none => c.vr ++ [(-1 - t.f, c.ns.length)]) else c.vr
def addC (c : Cl) (t : Tm) : Cl := ⟨c.ns ++ [⟨t, 0, addU c t, 0⟩], addV c t, c.ps⟩
theorem addC_len (c : Cl) (t : Tm) : (addC c t).ns.length = c.ns.length + 1 := by simp [addC]
theorem addC_at (c : Cl) (t : Tm) {n : Nat} (h : n < c.ns.length) : (addC c t).ns.getD n ndD = c.ns.getD n ndD := getD_lt h
theorem ClsC.add {c : Cl} {H r : Nat → Nat} {E} (h : ClsC c H r E) (t : Tm) : ∃ H' r', ClsC (addC c t) H' r' E ∧ (∀ n, n < c.ns.length → H' n = H n) ∧ (¬ t.f < 0 → H' c.ns.length = c.ns.length) := by
  have hx : addU c t ≤ c.ns.length ∧ (addU c t < c.ns.length → t.f < 0 ∧ (nT c.ns (addU c t)).f = t.f) ∧ (t.f < 0 → lookV (addV c t) (-1 - t.f) = some (addU c t)) ∧ (∀ v m, lookV c.vr v = some m → lookV (addV c t) v = some m) ∧ (∀ v m, lookV (addV c t) v = some m → lookV c.vr v = some m ∨ (m = c.ns.length ∧ t.f = -1 - v)) := by
    unfold addU addV
    by_cases hf : t.f < 0
    · rw [if_pos hf, if_pos hf]
      cases hl : lookV c.vr (-1 - t.f) with
      | some m =>
        have := h.vrt _ m hl
        refine ⟨by simpa using Nat.le_of_lt this.1, fun _ => ⟨hf, ?_⟩, fun _ => hl, fun v m h => h, fun v m h => .inl h⟩
        show (nT c.ns m).f = t.f
        rw [this.2]; omega
      | none =>
        refine ⟨Nat.le_refl _, fun h => absurd h (Nat.lt_irrefl _), fun _ => ?_, fun v m h => ?_, fun v m h => ?_⟩
        · show lookV (c.vr ++ _) _ = _
          rw [lookV_snoc, hl, if_pos rfl]; rfl
        · show lookV (c.vr ++ _) _ = _
          rw [lookV_snoc, h]; rfl
        · have h : lookV (c.vr ++ _) _ = _ := h
          rw [lookV_snoc] at h
          cases hv : lookV c.vr v with
          | some q => rw [hv] at h; exact .inl h
          | none =>
            rw [hv] at h
            have h : (if -1 - t.f = v then some c.ns.length else none) = some m := h
            split at h
            · rename_i e
              cases h
              exact .inr ⟨rfl, by omega⟩
            · cases h
    · rw [if_neg hf, if_neg hf]
      exact ⟨Nat.le_refl _, fun h => absurd h (Nat.lt_irrefl _), fun h => absurd h hf, fun v m h => h, fun v m h => .inl h⟩
  obtain ⟨x1, x2, x3, x4, x5⟩ := hx
  have h1 := Cls.add h x1 x2 x4 x5 x3
  refine ⟨upd H c.ns.length (if addU c t = c.ns.length then c.ns.length else H (addU c t)), upd r c.ns.length (if addU c t = c.ns.length then 0 else r (addU c t) + 1), ?_, fun n hn => upd_ne (by omega), fun hf => ?_⟩
  · unfold ClsC
    rw [addC_len]
    exact h1.congr (fun n hn => upd_snoc Nd.t hn) (fun n hn => upd_snoc Nd.fi hn) (fun n hn => upd_snoc Nd.up hn) fun n hn => rfl
  · rw [upd_same, if_pos]
    unfold addU
    rw [if_neg hf]
def addAll (c : Cl) (l : List Tm) : Cl := l.foldl addC c
theorem addAll_len (l : List Tm) : ∀ c : Cl, (addAll c l).ns.length = c.ns.length + l.length := by
  induction l with
  | nil => exact fun c => rfl
  | cons t l ih => intro c; rw [show addAll c (t :: l) = addAll (addC c t) l from rfl, ih, addC_len, List.length_cons]; omega
theorem addAll_at (l : List Tm) : ∀ (c : Cl) {n : Nat}, n < c.ns.length → (addAll c l).ns.getD n ndD = c.ns.getD n ndD := by
  induction l with
  | nil => exact fun c n _ => rfl
  | cons t l ih =>
    intro c n hn
    rw [show addAll c (t :: l) = addAll (addC c t) l from rfl, ih _ (by rw [addC_len]; omega), addC_at c t hn]
theorem addAll_ps (l : List Tm) : ∀ (c : Cl), (addAll c l).ps = c.ps := by
  induction l with
  | nil => exact fun c => rfl
  | cons t l ih => intro c; exact ih _
theorem addAll_new (l : List Tm) : ∀ (c : Cl) {i : Nat}, i < l.length → l[i]? = some (nT (addAll c l).ns (c.ns.length + i)) ∧ nK (addAll c l).ns (c.ns.length + i) = 0 := by
  induction l with
  | nil => intro c i hi; simp at hi
  | cons t l ih =>
    intro c i hi
    rw [show addAll c (t :: l) = addAll (addC c t) l from rfl]
    cases i with
    | zero =>
      unfold nT nK
      rw [Nat.add_zero, addAll_at l _ (by rw [addC_len]; omega)]
      unfold addC
      rw [getD_end]
      exact ⟨rfl, rfl⟩
    | succ i =>
      have := ih (addC c t) (i := i) (by simpa using hi)
      rw [addC_len] at this
      rw [show c.ns.length + (i + 1) = c.ns.length + 1 + i by omega]
      exact ⟨by rw [List.getElem?_cons_succ]; exact this.1, this.2⟩
theorem ClsC.addAll (l : List Tm) : ∀ {c : Cl} {H r : Nat → Nat} {E}, ClsC c H r E → ∃ H' r', ClsC (addAll c l) H' r' E ∧ (∀ n, n < c.ns.length → H' n = H n) := by
  induction l with
  | nil => exact fun {c H r E} h => ⟨H, r, h, fun n _ => rfl⟩
  | cons t l ih =>
    intro c H r E h
    obtain ⟨H1, r1, g1, g2, _⟩ := h.add t
    obtain ⟨H2, r2, k1, k2⟩ := ih g1
    exact ⟨H2, r2, k1, fun n hn => by rw [k2 n (by rw [addC_len]; omega), g2 n hn]⟩
def Cl.setFi (c : Cl) (n k : Nat) : Cl := ⟨Go.Proofs.Ytgmllfjidhbjjab.setFi c.ns n k, c.vr, c.ps⟩
theorem addC_setFi (c : Cl) (t : Tm) {n k : Nat} (hn : n < c.ns.length) : addC (c.setFi n k) t = (addC c t).setFi n k := by
  unfold addC Cl.setFi addU addV setFi
  simp only [List.length_set]
  congr 1
  rw [List.set_append_left _ _ hn, getD_lt hn]
theorem addAll_setFi (l : List Tm) : ∀ (c : Cl) {n k : Nat}, n < c.ns.length → Go.Proofs.Ytgmllfjidhbjjab.addAll (c.setFi n k) l = (Go.Proofs.Ytgmllfjidhbjjab.addAll c l).setFi n k := by
  induction l with
  | nil => exact fun c n k _ => rfl
  | cons t l ih =>
    intro c n k hn
    show Go.Proofs.Ytgmllfjidhbjjab.addAll (addC (c.setFi n k) t) l = _
    rw [addC_setFi c t hn, ih _ (by rw [addC_len]; omega)]
    rfl
theorem getD_setFi {ns : List Nd} {n k m : Nat} (h : n < ns.length) : (setFi ns n k).getD m ndD = if m = n then { ns.getD n ndD with fi := k } else ns.getD m ndD := getDn_set h
theorem getD_setUp {ns : List Nd} {n k m : Nat} (h : n < ns.length) : (setUp ns n k).getD m ndD = if m = n then { ns.getD n ndD with up := k } else ns.getD m ndD := getDn_set h
theorem nT_setFi {ns : List Nd} {n k m : Nat} (h : n < ns.length) : nT (setFi ns n k) m = nT ns m := by
  unfold nT; rw [getD_setFi h]; split
  · rename_i e; rw [e]
  · rfl
theorem nU_setFi {ns : List Nd} {n k m : Nat} (h : n < ns.length) : nU (setFi ns n k) m = nU ns m := by
  unfold nU; rw [getD_setFi h]; split
  · rename_i e; rw [e]
  · rfl
theorem nK_setFi {ns : List Nd} {n k m : Nat} (h : n < ns.length) : nK (setFi ns n k) m = upd (nK ns) n k m := by
  unfold nK upd; rw [getD_setFi h]; split <;> rfl
theorem nT_setUp {ns : List Nd} {n k m : Nat} (h : n < ns.length) : nT (setUp ns n k) m = nT ns m := by
  unfold nT; rw [getD_setUp h]; split
  · rename_i e; rw [e]
  · rfl
theorem nK_setUp {ns : List Nd} {n k m : Nat} (h : n < ns.length) : nK (setUp ns n k) m = nK ns m := by
  unfold nK; rw [getD_setUp h]; split
  · rename_i e; rw [e]
  · rfl
theorem nS_setUp {ns : List Nd} {n k m : Nat} (h : n < ns.length) : nS (setUp ns n k) m = nS ns m := by
  unfold nS; rw [getD_setUp h]; split
  · rename_i e; rw [e]
  · rfl
theorem nU_setUp {ns : List Nd} {n k m : Nat} (h : n < ns.length) : nU (setUp ns n k) m = upd (nU ns) n k m := by
  unfold nU upd; rw [getD_setUp h]; split <;> rfl
theorem setUp_len {ns : List Nd} {n k : Nat} : (setUp ns n k).length = ns.length := List.length_set
theorem setFi_len {ns : List Nd} {n k : Nat} : (setFi ns n k).length = ns.length := List.length_set

/-- parts. -/
def partsC (c : Cl) (n : Nat) : Cl × Nat × Nat :=
  if (nT c.ns n).f < 0 ∨ (nT c.ns n).l.length = 0 then (c, 0, 0)
  else if nK c.ns n = 0 then (Go.Proofs.Ytgmllfjidhbjjab.addAll (c.setFi n c.ns.length) (nT c.ns n).l, c.ns.length, c.ns.length + (nT c.ns n).l.length)
  else (c, nK c.ns n, nK c.ns n + (nT c.ns n).l.length)
/-- What stays: nodes' terms, and heads. -/
structure Grew (c c' : Cl) (H H' : Nat → Nat) : Prop where
  len : c.ns.length ≤ c'.ns.length
  tm : ∀ m, m < c.ns.length → nT c'.ns m = nT c.ns m
  kd : ∀ m, m < c.ns.length → nK c.ns m ≠ 0 → nK c'.ns m = nK c.ns m
  us : ∀ m, m < c.ns.length → nS c'.ns m = nS c.ns m
  hd : ∀ m, m < c.ns.length → H' m = H m
  ps : c'.ps = c.ps
theorem Grew.refl (c : Cl) (H : Nat → Nat) : Grew c c H H := ⟨Nat.le_refl _, fun _ _ => rfl, fun _ _ _ => rfl, fun _ _ => rfl, fun _ _ => rfl, rfl⟩
theorem Grew.trans {c c' c'' : Cl} {H H' H'' : Nat → Nat} (h : Grew c c' H H') (g : Grew c' c'' H' H'') : Grew c c'' H H'' := by
  have l := h.len
  refine ⟨Nat.le_trans h.len g.len, fun m hm => ?_, fun m hm hk => ?_, fun m hm => ?_, fun m hm => ?_, g.ps.trans h.ps⟩
  · rw [g.tm m (by omega), h.tm m hm]
  · rw [g.kd m (by omega) (by rw [h.kd m hm hk]; exact hk), h.kd m hm hk]
  · rw [g.us m (by omega), h.us m hm]
  · rw [g.hd m (by omega), h.hd m hm]
theorem ClsC.parts {c : Cl} {H r : Nat → Nat} {E} (h : ClsC c H r E) {n : Nat} (hn : n < c.ns.length) : ∃ H' r', ClsC (partsC c n).1 H' r' E ∧ Grew c (partsC c n).1 H H' ∧ ((nT c.ns n).f < 0 ∨ (nT c.ns n).l.length = 0 → (partsC c n).2 = (0, 0)) ∧ (¬ ((nT c.ns n).f < 0 ∨ (nT c.ns n).l.length = 0) → nK (partsC c n).1.ns n ≠ 0 ∧ (partsC c n).2 = (nK (partsC c n).1.ns n, nK (partsC c n).1.ns n + (nT c.ns n).l.length)) := by
  unfold partsC
  split
  · rename_i hv
    exact ⟨H, r, h, Grew.refl c H, fun _ => rfl, fun hc => absurd hv hc⟩
  · rename_i hv
    split
    · rename_i hk
      obtain ⟨H1, r1, g1, g2⟩ := ClsC.addAll (nT c.ns n).l h
      rw [addAll_setFi _ c hn]
      obtain ⟨l, hl⟩ : ∃ l, l = (nT c.ns n).l := ⟨_, rfl⟩
      rw [← hl] at g1 hv ⊢
      have hlen := addAll_len l c
      have hn' : n < (Go.Proofs.Ytgmllfjidhbjjab.addAll c l).ns.length := by omega
      have ht : ∀ m, m < c.ns.length → nT (Go.Proofs.Ytgmllfjidhbjjab.addAll c l).ns m = nT c.ns m := fun m hm => by unfold nT; rw [addAll_at l c hm]
      have hkk : ∀ m, m < c.ns.length → nK (Go.Proofs.Ytgmllfjidhbjjab.addAll c l).ns m = nK c.ns m := fun m hm => by unfold nK; rw [addAll_at l c hm]
      have hss : ∀ m, m < c.ns.length → nS (Go.Proofs.Ytgmllfjidhbjjab.addAll c l).ns m = nS c.ns m := fun m hm => by unfold nS; rw [addAll_at l c hm]
      have hfs : ¬ (nT c.ns n).f < 0 := fun e => hv (.inl e)
      have g3 : Cls _ _ (upd (nK (Go.Proofs.Ytgmllfjidhbjjab.addAll c l).ns) n c.ns.length) _ _ _ _ _ _ := Cls.setK g1 hn' (by rw [hkk n hn]; exact hk) (by rw [ht n hn]; exact hfs) fun i hi => by
        rw [ht n hn, ← hl] at hi ⊢
        exact ⟨by omega, (addAll_new l c hi).1⟩
      refine ⟨H1, r1, ?_, ⟨?_, fun m hm => ?_, fun m hm hk2 => ?_, fun m hm => ?_, g2, addAll_ps l c⟩, fun e => absurd e hv, fun _ => ?_⟩
      · unfold ClsC
        show Cls (setFi _ _ _).length (nT (setFi _ _ _)) (nK (setFi _ _ _)) (nU (setFi _ _ _)) _ _ _ _ _
        rw [setFi_len]
        exact g3.congr (fun m _ => nT_setFi hn') (fun m _ => nK_setFi hn') (fun m _ => nU_setFi hn') fun m _ => rfl
      · show _ ≤ (setFi _ _ _).length
        rw [setFi_len]; omega
      · show nT (setFi _ _ _) m = _
        rw [nT_setFi hn', ht m hm]
      · show nK (setFi _ _ _) m = _
        rw [nK_setFi hn', upd_ne (fun e => hk2 (by rw [e]; exact hk)), hkk m hm]
      · show nS (setFi _ _ _) m = _
        unfold nS
        rw [getD_setFi hn', ← show nS (Go.Proofs.Ytgmllfjidhbjjab.addAll c l).ns m = (c.ns.getD m ndD).us from hss m hm]
        split
        · rename_i e; rw [e]; rfl
        · rfl
      · have : nK (setFi (Go.Proofs.Ytgmllfjidhbjjab.addAll c l).ns n c.ns.length) n = c.ns.length := by rw [nK_setFi hn', upd_same]
        show nK (setFi _ _ _) n ≠ 0 ∧ (c.ns.length, c.ns.length + l.length) = (nK (setFi _ _ _) n, nK (setFi _ _ _) n + l.length)
        rw [this]
        exact ⟨by omega, rfl⟩
    · rename_i hk
      exact ⟨H, r, h, Grew.refl c H, fun e => absurd e hv, fun _ => ⟨hk, rfl⟩⟩

/-- head. -/
def headC : Nat → List Nd → Nat → Option (List Nd × Nat)
  | 0, _, _ => none
  | k + 1, ns, n => if nU ns n = n then some (ns, n) else headC k (setUp ns n (nU ns (nU ns n))) (nU (setUp ns n (nU ns (nU ns n))) n)
theorem headC_succ : ∀ (k : Nat) (ns : List Nd) (n : Nat) (r), headC k ns n = some r → headC (k + 1) ns n = some r
  | 0, _, _, _, e => by cases e
  | k + 1, ns, n, r, e => by
    rw [headC] at e ⊢
    split
    · rename_i h; rw [if_pos h] at e; exact e
    · rename_i h; rw [if_neg h] at e; exact headC_succ k _ _ _ e
theorem headC_le {k m : Nat} (h : k ≤ m) {ns : List Nd} {n : Nat} {r} (e : headC k ns n = some r) : headC m ns n = some r := by
  induction h with
  | refl => exact e
  | step _ ih => exact headC_succ _ _ _ _ ih
theorem ClsC.head {vr ps} {H r : Nat → Nat} {E} : ∀ (k : Nat) {ns : List Nd} {n : Nat}, ClsC ⟨ns, vr, ps⟩ H r E → n < ns.length → r n < k → ∃ ns', headC k ns n = some (ns', H n) ∧ ClsC ⟨ns', vr, ps⟩ H r E ∧ ns'.length = ns.length ∧ (∀ m, nT ns' m = nT ns m) ∧ (∀ m, nK ns' m = nK ns m) ∧ ∀ m, nS ns' m = nS ns m
  | 0, ns, n, h, hn, hr => by omega
  | k + 1, ns, n, h, hn, hr => by
    obtain ⟨u1, u2, u3⟩ := h.up n hn
    rw [headC]
    by_cases e : nU ns n = n
    · rw [if_pos e]
      have hh : H n = n := Decidable.byContradiction fun hne => by
        have h1 : r (nU ns n) < r n := h.rank n hn hne
        rw [e] at h1; omega
      exact ⟨ns, by rw [hh], h, rfl, fun _ => rfl, fun _ => rfl, fun _ => rfl⟩
    · rw [if_neg e]
      have hne : H n ≠ n := fun e2 => e (u3 e2)
      have r1 : r (nU ns n) < r n := h.rank n hn hne
      obtain ⟨v1, v2, v3⟩ := h.up (nU ns n) u1
      have u1' : nU ns n < ns.length := u1
      have v1' : nU ns (nU ns n) < ns.length := v1
      have hU : nU (setUp ns n (nU ns (nU ns n))) n = nU ns (nU ns n) := by rw [nU_setUp hn, upd_same]
      have hc : ClsC ⟨setUp ns n (nU ns (nU ns n)), vr, ps⟩ H r E := by
        unfold ClsC
        show Cls (setUp _ _ _).length _ _ _ _ _ _ _ _
        rw [setUp_len]
        exact (Cls.halve h hn).congr (fun m _ => nT_setUp hn) (fun m _ => nK_setUp hn) (fun m _ => nU_setUp hn) fun m _ => rfl
      have r2 : r (nU ns (nU ns n)) ≤ r (nU ns n) := by
        by_cases e2 : H (nU ns n) = nU ns n
        · rw [show nU ns (nU ns n) = nU ns n from v3 e2]; exact Nat.le_refl _
        · exact Nat.le_of_lt (h.rank _ u1 e2)
      rw [hU]
      obtain ⟨ns', g1, g2, g3, g4, g5, g6⟩ := ClsC.head k hc (n := nU ns (nU ns n)) (by rw [setUp_len]; exact v1') (by omega)
      refine ⟨ns', ?_, g2, by rw [g3, setUp_len], fun m => by rw [g4, nT_setUp hn], fun m => by rw [g5, nK_setUp hn], fun m => by rw [g6, nS_setUp hn]⟩
      rw [g1, show H (nU ns (nU ns n)) = H n from v2.trans u2]
end Go.Proofs.Ytgmllfjidhbjjab

