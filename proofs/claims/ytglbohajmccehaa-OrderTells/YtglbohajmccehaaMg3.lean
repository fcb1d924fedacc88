/-
  AbObj2 AbFld AbMap AbFull AbArr AbRoom AbDel AbRowO AbHdl SbFns SbApply SbVars TmSm SbSmall TmOrd RfSame RfLess RfFlat RfVars AbOf SbVnt SbRen TmPlA TmPlB TmPlC TmPlD KbMath KbMath2 KbMath3 OrMath
-/
import Derived.Test.YtglbohajmccehaaMg2
import Derived.MapKept
import Derived.Laws.NewFold
namespace Go.Proofs.Ytglbohajmccehaa
open Go.RowKit
set_option linter.unusedVariables false
set_option linter.unusedSimpArgs false
def zeroT (P : Program) (e : TypeId) : Option CV := match P.info? e with
  | some it => match it.zero with
    | some (.agg cs) => match P.underlying e with
      | some (.struct fs) => match szO P fs.toList 0 with
        | some sz => match zsO sz cs.toList with | some zs => some (.row zs) | none => none
        | none => none
      | _ => none
    | some v => match plainV v with | true => some (cellCV v) | false => none
    | none => none
  | none => none
theorem zeroT_spec {P : Program} {e : TypeId} {c : CV} (h : zeroT P e = some c) : ∃ it z, P.info? e = some it ∧ it.zero = some z ∧ ∀ U w, Rep U w c z.cells.toList := by
  unfold zeroT at h
  split at h
  · rename_i it hi
    split at h
    · rename_i cs hz
      refine ⟨it, _, hi, hz, fun U w => ?_⟩
      split at h
      · split at h
        · split at h
          · rename_i zs h0
            cases h
            obtain ⟨segs, e1, e2, e3, e4, e5⟩ := zsO_spec (U := U) (w := w) h0
            rw [rep_row]
            show Sq _ cs.toList
            rw [← e1]
            exact sq_of_segs e4 (fun i c hi => by obtain ⟨seg, f1, f2, _⟩ := e5 i c hi; exact ⟨seg, f1, f2⟩)
          · cases h
        · cases h
      · cases h
    · rename_i v hz hv
      refine ⟨it, _, hi, hv, fun U w => ?_⟩
      split at h
      · rename_i hp
        cases h
        have := rep_plain U w v hp
        have hc : v.cells = #[v] := by
          cases v with
          | agg cs => exact absurd rfl (hz cs)
          | _ => rfl
        rw [hc]
        exact this
      · cases h
    · cases h
  · cases h

section
variable {P : Program} {w0 : World} {U0 : UX} {nt : Nat} {ops : Array Oper} {o : Oper} {S : Nat → Option AV} {gs : List Nat} {d : Nat} {s : AS} {a : Act} {w : World} {D : Nat → Nat → Prop} {hv : Nat → Value}

theorem sq_repl {U : Nat → Nat → Prop} {c : CV} {xs : List Value} (h : Rep U w c xs) : ∀ k, Sq ((List.replicate k c).map fun c => Rep U w c) (List.replicate k xs).flatten
  | 0 => rfl
  | k + 1 => ⟨_, _, rfl, h, sq_repl h k⟩
theorem slV_all {v : Value} {k cap : Nat} {ao : Option Addr} {z : Nat} (h : v = .slice ao k cap) (hk : k ≤ cap) (hg : ao = none ∨ ∃ g, ao = some ⟨g, 0, none⟩) : SlV v 0 k z v := by
  refine ⟨ao, k, cap, ao, h, by rw [h]; rfl, by omega, fun _ => rfl, fun _ g e => by rw [Nat.zero_mul]; exact e, Iff.rfl⟩
theorem own_addr {e z : Nat} {v : Value} {k : Nat} {xs : List Value} (h : w.ownsRow 0 e z v k xs) : ∃ ao cap, v = .slice ao k cap ∧ k ≤ cap ∧ (ao = none ∨ ∃ g, ao = some ⟨g, 0, none⟩) := by
  rcases h.2 with ⟨rfl, rfl⟩ | ⟨g, cap, cur, rfl, _, h3, h4, h5, h6, h7⟩
  · exact ⟨none, 0, rfl, Nat.le_refl _, .inl rfl⟩
  · exact ⟨_, cap, rfl, h4, .inr ⟨g, rfl⟩⟩

theorem appLawM {Q : Exit → Act → World → Prop} {K : Act → World → Prop} (h : SimG w0 U0 nt s a w D hv) {n e size bytes : Nat} {z : Value} {t : TypeId} (hd : o.dst = some d) (hdn : d < nt) (h5 : d < 100000) (hn : RW n) (hr : NoRef s n) {x y : Operand} (ho : o.op = .call { callee := .builtin .append, args := #[x, y], argTypes := #[t, t] })
    (ht : P.underlying t = some (.slice e)) (hi : (P.info? e).map (fun i => (i.zero, i.size, i.bytes)) = some (some z, size, bytes)) (hzs : z.cells.size = size) (hsz : 0 < size) (hbt : bytes ≤ 1000)
    {l l2 : List CV} (hl : ∀ c ∈ l, c.size = size) (hl2 : ∀ c ∈ l2, c.size = size) (hbd : l.length + l2.length ≤ 100000000000)
    {v : Value} (hx : a.eval x = v) (hy : VRep (Us w0 U0 D) w (.lst l2) (a.eval y)) {xs : List Value} (hown : w.ownsRow 0 e size v l.length xs) (hsq : Sq (l.map fun c => Rep (Us w0 U0 D) w c) xs)
    (hroom : ∀ g, v.ownBlock = some g → Mn w0 U0 (lcl n (.mrow e size (l ++ l2))) g ∧ (∀ o, ¬ D g o) ∧ ∀ q av, look s q = some av → oKey q → av.t ≠ 7 → q ≠ n → hb (hv q) ≠ some g)
    (hK : ∀ a' w', Sim w0 U0 nt ((d, .sl n 0 (l.length + l2.length) size) :: (n, .mrow e size (l ++ l2)) :: s) a' w' → K a' w') : o.wp P a w K Q := by
  obtain ⟨ao2, m, c2, g1, g2, g3, g4, g6, ys2, g7, g8⟩ := vrep_lst.1 hy
  have hyl2 : ys2.length = m * size := by rw [sq_len (n := CV.size) (fun c _ xs h => h.len) g8, sum_const hl2, g2]
  have hmul : (l.length + m) * bytes ≤ 100000000000 * 1000 := Nat.mul_le_mul (by omega) hbt
  obtain ⟨v', w', r1, r2, r3, r4⟩ := run_app (P := P) (ty := o.type) ht hi hzs hsz (Nat.zero_le _) hown g6 g7 hyl2 (rep_one_of g8) (by unfold maxLen; omega) (by omega)
  have hvs : ∀ {u : Value} {k xs} {w : World}, w.ownsRow 0 e size u k xs → hb u = u.ownBlock := fun {u k xs w} h1 => by
    rcases h1.2 with ⟨rfl, rfl⟩ | ⟨g, cap, cur, rfl, _⟩ <;> rfl
  have hb2 := hvs r2
  have hkp : ∀ b o u, Us w0 U0 D b o → w.cell? ⟨b, o, none⟩ = some u → Us w0 U0 D b o ∧ w'.cell? ⟨b, o, none⟩ = some u := fun b o u hu hc => by
    refine ⟨hu, ?_⟩
    have hlt : b < w.heap.size := World.block_lt_of_cell? w _ hc
    have hnb : some b ≠ v.ownBlock := fun e => by
      obtain ⟨f1, f2, _⟩ := hroom b e.symm
      exact us_ne hu f1 (f2 o) rfl
    rw [World.cell?_of_block (w := w) (r3.block b hlt hnb)]
    exact hc
  have hG := h.newrow (avn := .mrow e size (l ++ l2)) (v' := v') (D' := D) (X := fun b => v.ownBlock = some b) hn hr (by simp) ⟨r3.os, r3.tape, r3.output, r3.size, fun b hb hx => r3.block b hb fun e => hx e.symm⟩ (fun b hb => ⟨(hroom b hb).1, (hroom b hb).2.2⟩) (fun g hg => by
      rw [hb2] at hg
      refine ⟨?_, (r2.lt g hg).2, fun o _ hd => ?_⟩
      · rcases r4 with r4 | ⟨_, r4⟩
        · exact .inl (r4 ▸ hg)
        · exact .inr (r4 g hg)
      · rcases r4 with r4 | ⟨_, r4⟩
        · exact (hroom g (r4 ▸ hg)).2.1 o hd
        · have := r4 g hg
          have := h.dlt _ _ hd
          omega) (fun b o hd => .inl hd) (fun b o hd => Nat.lt_of_lt_of_le (h.dlt _ _ hd) r3.size) hkp (fun hv lv => by
      refine ⟨xs ++ ys2, ?_, hsz, fun c hc => ?_, ?_⟩
      · show w'.ownsRow 0 e size v' (l ++ l2).length (xs ++ ys2)
        rw [List.length_append, ← g2]
        exact r2
      · rcases List.mem_append.1 hc with hc | hc
        · exact hl c hc
        · exact hl2 c hc
      · show Sq ((l ++ l2).map _) _
        rw [List.map_append]
        exact sq_append (Sq.keep hkp hsq) (Sq.keep hkp g8))
  have he : (execOp a.eval o).run P w = .ok (.value v') w' := by
    generalize a.eval = ρ at hx g1 ⊢
    simp [execOp, ho, resolve, invoke, builtin, hx, g1, r1, Result.andThen]
  unfold Oper.wp
  rw [he, Oper.upon_value, hd]
  refine hK _ _ ⟨_, _, hG.put hdn h5 ?_⟩
  refine ⟨hn.rn, ?_⟩
  obtain ⟨a1, c1, e1, e2, e3⟩ := own_addr r2
  have := slV_all (z := size) e1 e2 e3
  show SlV ((fun x => if x = n then v' else hv x) n) 0 (l.length + l2.length) size v'
  simp only [if_true]
  rw [← g2]
  exact this

theorem a_app0M (nn : Nat) (hg : Gd w0 U0 nt ops o gs S) (hd : o.dst = some d) (hn : Nat.blt d nt = true) (h5 : Nat.blt d 100000 = true) {x y : Operand} {t e size bytes : Nat} {z : Value} {l2 : List CV} {n q n2 q2 p2} (ho : o.op = .call { callee := .builtin .append, args := #[x, y], argTypes := #[t, t] }) (ht : P.underlying t = some (.slice e)) (hi : (P.info? e).map (fun i => (i.zero, i.size, i.bytes)) = some (some z, size, bytes)) (hzs : Nat.beq z.cells.size size = true) (hsz : Nat.blt 0 size = true) (hbt : Nat.ble bytes 1000 = true)
    (hx : ev S x = some ⟨0, .lst [], n, q, []⟩) (hy : ev S y = some ⟨0, .lst l2, n2, q2, p2⟩) (hnn : (Nat.ble 200000 n && Nat.blt n 400000) = true) (hn2 : (Nat.ble 200000 nn && Nat.blt nn 400000) = true) (hne : Nat.beq n nn = false) (hlv : S n = some (.tok e size)) (hl2 : ∀ c ∈ l2, c.size = size) (hbd : l2.length ≤ 100000000000) :
    AOp P w0 U0 nt ops o (gs ++ (rd x ++ (rd y ++ [n]))) [(nn, [])] S [(d, .sl nn 0 l2.length size), (nn, .mrow e size l2), (n, .no)] := by
  intro s hs hN a w ⟨D, hv, h⟩ Q K hK
  rw [if_pos (hg s (fun k hk => hs k (List.mem_append_left _ hk)) a w D hv h)]
  obtain ⟨h1, h2⟩ : VRep (Us w0 U0 D) w (.lst []) (a.eval x) ∧ Tk hv (LiveN s) ⟨0, .lst [], n, q, []⟩ (a.eval x).cells.toList := ev_rep h (fun k hk => hs k (List.mem_append_right _ (List.mem_append_left _ hk))) hx
  have h3 := ev_val h (fun k hk => hs k (List.mem_append_right _ (List.mem_append_right _ (List.mem_append_left _ hk)))) hy
  have hrn := rnB hnn
  have hrn2 := rnB hn2
  have hok : oKey n := ⟨by omega, by omega⟩
  have hlk := (hs n (by simp)).trans hlv
  have hlive : Live s n (e, size) := ⟨hlk, hrn.1, hrn.2⟩
  have hval : a.eval x = hv n := by
    obtain ⟨m, c, g1, g2⟩ := h2 (.inr ⟨_, hlive⟩)
    simp only at g1
    rw [at_nil] at g1
    cases g1
    obtain ⟨ao, k, c, e1, _⟩ := vrep_lst.1 h1
    unfold tokv at g2
    rw [if_neg (by show n ≠ 1; omega)] at g2
    rw [e1] at g2 ⊢
    simpa [Value.cells] using g2
  obtain ⟨k, xs, g1, g2⟩ : ∃ k xs, w.ownsRow 0 e size (hv n) k xs ∧ 0 < size := h.obj n _ hlk hok
  have hvs : hb (hv n) = (hv n).ownBlock ∧ lenOf (hv n) = k := by
    rcases g1.2 with ⟨e1, e2⟩ | ⟨g, cap, cur, e1, _⟩
    · rw [e1, e2]; exact ⟨rfl, rfl⟩
    · rw [e1]; exact ⟨rfl, rfl⟩
  have hk0 : k = 0 := by
    obtain ⟨ao, k', c, e1, e2, _⟩ := vrep_lst.1 h1
    rw [hval] at e1
    rw [e1] at hvs
    have : k' = k := hvs.2
    rw [← this, e2]; rfl
  subst hk0
  have hx0 : xs = [] := List.eq_nil_of_length_eq_zero (by simpa using g1.1)
  subst hx0
  have hne' : n ≠ nn := fun e => by rw [e, Nat.beq_refl] at hne; cases hne
  refine appLawM (l := []) (n := nn) (h.kill hok) hd (bL hn) (bL h5) hrn2 (fun k av hk => ?_) ho ht hi (Nat.eq_of_beq_eq_true hzs) (bL hsz) (Nat.le_of_ble_eq_true hbt) (fun c hc => by cases hc) hl2 (by simpa using hbd) hval h3 g1 rfl (fun g hg => ?_) (fun a' w' hs' => hK a' w' ?_)
  · by_cases e : n = k
    · subst e
      rw [lS] at hk
      cases hk
      refine ⟨by show 0 ≠ _; omega, ?_⟩
      have hfn : fnm n = 100000 := by
        unfold fnm
        have : Nat.ble 500000 n = false := by
          cases hb : Nat.ble 500000 n with
          | false => rfl
          | true => have := Nat.le_of_ble_eq_true hb; omega
        rw [this]
      rw [hfn]
      omega
    · rw [lN e] at hk; exact (hN (nn, []) (by simp)).nr k av hk
  · rw [← hvs.1] at hg
    obtain ⟨f1, f2, f3⟩ := h.blk n _ g hlk hok (by simp) hg
    rw [lcl_tok rfl] at f1
    refine ⟨?_, fun o => f3 o fun _ => ?_, fun q av h6 h7 h8 h9 => ?_⟩
    · rcases f1 with f1 | f1
      · exact .inl f1
      · exact absurd rfl f1.1
    · rw [hvs.2]; simp
    · have hq : n ≠ q := fun e => by subst e; rw [lS] at h6; cases h6; exact h8 rfl
      rw [lN hq] at h6
      exact h.disj n q _ av g hlk h6 hok h7 (by simp) h8 hq hg
  · simpa using hs'
theorem a_clearM (hg : Gd w0 U0 nt ops o gs S) (hd : o.dst = none) {x : Operand} {t e e' : TypeId} {ts : Array TypeId} {n lo len z : Nat} {l : List CV} {zc : CV} (ho : o.op = .call { callee := .builtin .clear, args := #[x], argTypes := ts }) (ht : ts[0]? = some t) (hu : P.underlying t = some (.slice e)) (hzc : zeroT P e = some zc) (hx : ev S x = some (.sl n lo len z)) (hm' : S n = some (.mrow e' z l)) (hzz : zc.size = z) (hl : lo + len ≤ l.length) :
    AOp P w0 U0 nt ops o (gs ++ (rd x ++ [n])) [] S [(n, .mrow e' z (l.take lo ++ (List.replicate len zc ++ l.drop (lo + len))))] := by
  intro s hs hN a w ⟨D, hv, h⟩ Q K hK
  rw [if_pos (hg s (fun k hk => hs k (List.mem_append_left _ hk)) a w D hv h)]
  have hm := (hs n (by simp)).trans hm'
  obtain ⟨hrn, ao, m, cap, ao', h1, h2, h3, h4, h6, h7⟩ : RN n ∧ SlV (hv n) lo len z (a.eval x) := ev_rep h (fun k hk => hs k (List.mem_append_right _ (List.mem_append_left _ hk))) hx
  obtain ⟨xs, g1, g2, g3, g4⟩ := h.mrow hm hrn
  obtain ⟨it, zv, i1, i2, i3⟩ := zeroT_spec hzc
  by_cases hl0 : len = 0
  · subst hl0
    have he : (execOp a.eval o).run P w = .ok (.value (.tuple #[])) w := by
      generalize a.eval = ρ at h2 ⊢
      cases ao' <;> simp [execOp, ho, resolve, invoke, builtin, Builtin.clear_, ht, h2, run_underlying hu]
    unfold Oper.wp
    rw [he, Oper.upon_value, hd]
    have : l.take lo ++ (List.replicate 0 zc ++ l.drop (lo + 0)) = l := by simp
    refine hK _ _ ⟨D, hv, h.congr fun k => ?_⟩
    rw [this]
    by_cases e : n = k
    · subst e; rw [List.cons_append, lS]; exact hm.symm
    · rw [List.cons_append, lN e]; rfl
  obtain ⟨g, cap', cur, f1, f2, f3, f4, f6, f7, f8, f9⟩ := own_some g1 (by omega)
  obtain rfl : cap = cap' := by rw [f1] at h1; injection h1 with k1 k2 k3; exact k3.symm
  obtain rfl : ao = some ⟨g, 0, none⟩ := by rw [f1] at h1; injection h1 with k1 k2 k3; exact k1.symm
  have ha : ao' = some ⟨g, lo * z, none⟩ := h6 (by omega) g rfl
  subst ha
  have hzl : zv.cells.size = z := by have := (i3 (fun _ _ => True) w).len; rw [hzz] at this; simpa using this
  obtain ⟨zs, hzs⟩ : ∃ zs, zs = (List.replicate len zv.cells.toList).flatten := ⟨_, rfl⟩
  have hzsl : zs.length = len * z := by rw [hzs]; simp [hzl]
  have hzc2 : (Builtin.zeroCells zv.cells len).toList = zs := by
    rw [hzs]
    apply List.ext_getElem?
    intro k
    rw [flat_const g2 _ (by intro v hv'; rw [List.mem_replicate] at hv'; rw [hv'.2]; simpa using hzl)]
    unfold Builtin.zeroCells
    rw [hzl]
    by_cases hk : k < len * z
    · have e1 : k / z < len := (Nat.div_lt_iff_lt_mul g2).2 hk
      have e2 : k % z < zv.cells.size := by rw [hzl]; exact Nat.mod_lt _ g2
      simp [hk, List.getElem?_replicate, e1, e2]
    · have e1 : ¬ k / z < len := by rw [Nat.div_lt_iff_lt_mul g2]; exact hk
      simp [hk, List.getElem?_replicate, e1]
  have hone : ∀ v ∈ zs, v.oneCell' = true := by
    intro v hv'
    rw [hzs, List.mem_flatten] at hv'
    obtain ⟨r, hr1, hr2⟩ := hv'
    rw [List.mem_replicate] at hr1
    rw [hr1.2] at hr2
    exact (i3 (fun _ _ => True) w).one v hr2
  have hcl : lo * z + len * z ≤ l.length * z := by rw [← Nat.add_mul]; exact Nat.mul_le_mul_right _ hl
  have hcap : l.length * z ≤ cap * z := Nat.mul_le_mul_right _ f3
  have hst := run_storeCells_at (P := P) g (lo * z) e' zs 0 cur w f2 (by rw [hzsl, f6]; omega) hone
  rw [Nat.add_zero] at hst
  have he : (execOp a.eval o).run P w = .ok (.value (.tuple #[])) (w.setRow g (cur.toList.take (lo * z) ++ zs ++ cur.toList.drop (lo * z + zs.length)).toArray) := by
    have hzv : (zeroValue e).run P w = .ok zv w := by simp [zeroValue, typeInfo, i1, i2]
    obtain ⟨len', rfl⟩ : ∃ k, len = k + 1 := ⟨len - 1, by omega⟩
    generalize a.eval = ρ at h2 ⊢
    simp [execOp, ho, resolve, invoke, builtin, Builtin.clear_, ht, h2, run_underlying hu, hzv, hzc2, hst]
  unfold Oper.wp
  rw [he, Oper.upon_value, hd]
  have hok : oKey n := by unfold RN at hrn; unfold oKey; omega
  obtain ⟨l', hl'⟩ : ∃ l', l' = l.take lo ++ (List.replicate len zc ++ l.drop (lo + len)) := ⟨_, rfl⟩
  have hll : l'.length = l.length := by rw [hl']; simp; omega
  refine hK _ _ ?_
  rw [← hl']
  refine ⟨_, _, h.store (av := .mrow e' z l') hok hm (by simp) (by simp) rfl (fun g' hn o _ => hn o (by simp)) (by simp) f9 f2 fun w' hw hkp => ?_⟩
  have hsplit : l = l.take lo ++ ((l.drop lo).take len ++ (l.drop lo).drop len) := by rw [List.take_append_drop, List.take_append_drop]
  have g4' := g4
  rw [hsplit, List.map_append, List.map_append] at g4'
  obtain ⟨y1, r1, e1, s1, s2⟩ := sq_split g4'
  obtain ⟨y2, y3, e2, s3, s4⟩ := sq_split s2
  have hy1 : y1.length = lo * z := by rw [sq_len (n := CV.size) (fun c _ xs h => h.len) s1, sum_const (fun c hc => g3 c (List.mem_of_mem_take hc)), List.length_take, Nat.min_eq_left (by omega)]
  have hy2 : y2.length = len * z := by rw [sq_len (n := CV.size) (fun c _ xs h => h.len) s3, sum_const (fun c hc => g3 c (List.mem_of_mem_drop (List.mem_of_mem_take hc))), List.length_take, List.length_drop, Nat.min_eq_left (by omega)]
  have hy3 : y1.length + (y2.length + y3.length) = l.length * z := by have := g1.1; rw [e1, e2] at this; simpa using this
  have hcur : cur.toList = y1 ++ (y2 ++ (y3 ++ cur.toList.drop (l.length * z))) := by
    conv => lhs; rw [← List.take_append_drop (l.length * z) cur.toList, f7, e1, e2]
    simp
  have hnew : cur.toList.take (lo * z) ++ zs ++ cur.toList.drop (lo * z + zs.length) = (y1 ++ (zs ++ y3)) ++ cur.toList.drop (l.length * z) := by
    have t1 : cur.toList.take (lo * z) = y1 := by rw [hcur, ← hy1]; simp
    have t2 : cur.toList.drop (lo * z + zs.length) = y3 ++ cur.toList.drop (l.length * z) := by
      rw [hzsl, ← hy1, ← hy2]
      conv => lhs; rw [hcur]
      rw [← List.append_assoc, List.drop_append_of_le_length (by simp)]
      simp
    rw [t1, t2]
    simp
  rw [hnew] at hw
  refine ⟨y1 ++ (zs ++ y3), ⟨?_, .inr ⟨g, cap, _, ?_, Nat.zero_le _, hw, ?_, f4, ?_, ?_⟩⟩, g2, fun x hx => ?_, ?_⟩
  · show _ = l'.length * z
    rw [hll]
    simp only [List.length_append, hzsl]
    omega
  · show hv n = .slice _ l'.length cap
    rw [hll]; exact f1
  · show l'.length ≤ cap
    rw [hll]; exact f3
  · have := congrArg List.length hcur
    rw [Array.length_toList, f6] at this
    simp only [List.size_toArray, List.length_append, hzsl] at this ⊢
    show _ = cap * z
    omega
  · show List.take (l'.length * z) _ = _
    rw [hll, List.take_append_of_le_length (by simp only [List.length_append, hzsl]; omega), List.take_of_length_le (by simp only [List.length_append, hzsl]; omega)]
  · have hx : x ∈ l' := hx
    rw [hl', List.mem_append, List.mem_append] at hx
    rcases hx with hx | hx | hx
    · exact g3 x (List.mem_of_mem_take hx)
    · rw [List.mem_replicate] at hx; rw [hx.2, hzz]; rfl
    · exact g3 x (List.mem_of_mem_drop hx)
  · show Sq (l'.map fun c => Rep (Us w0 U0 D) w' c) _
    rw [hl', List.map_append, List.map_append]
    refine sq_append (Sq.keep hkp s1) (sq_append ?_ ?_)
    · rw [hzs]; exact sq_repl (i3 _ _) len
    · rw [← List.drop_drop]
      exact Sq.keep hkp s4

theorem wk_frz (d n : Nat) {e z lo len : Nat} {l : List CV} (hs : look s d = some (.sl n lo len z)) (hm : look s n = some (.mrow e z l)) (hd : Nat.blt d 100000 = true) (hloc : (∀ b, ¬ U0.x b) ∨ n < 300000) (hlen : lo + len ≤ l.length) {s' : AS} (hsub : SubL s s') (hk : noKey s' n = true) : Wk w0 U0 nt s ((d, .val (.lst ((l.drop lo).take len))) :: s') := by
  rintro a w ⟨D, hv, h⟩
  have hd := bL hd
  obtain ⟨v, g1, hrn, ao, m, cap, ao', h1, h2, h3, h4, h6, h7⟩ : ∃ v, a.tmps[d]? = some v ∧ RN n ∧ SlV (hv n) lo len z v := h.slot d _ hs hd
  have h2 : v = .slice ao' len (cap - lo) := h2
  obtain ⟨xs, f1, f2, f3, f4⟩ := h.mrow hm hrn
  have hrn' := hrn
  unfold RN at hrn'
  have hok : oKey n := ⟨by omega, by omega⟩
  have hsub' := hsub.sub
  have hno : ∀ av, look s' n ≠ some av := fun av h8 => by
    have h9 := look_mem h8
    unfold noKey at hk
    rw [List.all_eq_true] at hk
    have := hk _ h9
    simp at this
  rcases f1.2 with ⟨e1, e2⟩ | ⟨g, cap', cur, e1, _, e3, e4, e5, e6, e7⟩
  · -- nil
    have hl0 : l = [] := List.eq_nil_of_length_eq_zero e2
    subst hl0
    rw [e1] at h1
    injection h1 with h1 h8 h9
    subst h1; subst h8; subst h9
    have hlo : lo = 0 := by simp at hlen; omega
    have hle : len = 0 := by simp at hlen; omega
    subst hlo; subst hle
    have hao : ao' = none := h7.2 rfl
    refine ⟨D, hv, (h.sub hsub').know hd g1 (avrep_val ?_)⟩
    rw [h2, hao]
    exact vrep_lst.2 ⟨none, 0, 0, rfl, rfl, Nat.le_refl _, by unfold maxLen; omega, fun _ => ⟨rfl, rfl⟩, [], .inl rfl, rfl⟩
  · obtain rfl : cap = cap' := by rw [e1] at h1; injection h1 with k1 k2 k3; exact k3.symm
    obtain rfl : ao = some ⟨g, 0, none⟩ := by rw [e1] at h1; injection h1 with k1 k2 k3; exact k1.symm
    have hgb : hb (hv n) = some g := by rw [e1]; rfl
    obtain ⟨b1, b2, b3⟩ := h.blk n _ g hm hok (by simp) hgb
    have hge : w0.heap.size ≤ g := by
      rcases b1 with b1 | b1
      · exact b1
      · rcases hloc with hloc | hloc
        · exact absurd b1.2 (hloc g)
        · exact absurd (lcl_own hloc _) b1.1
    have hG := (h.sub hsub').moreD (g := g) b2 fun k av h10 h11 h12 h13 => h.disj n k _ av g hm (hsub' _ _ h10) hok h11 (by simp) h12 (fun e => hno av (e ▸ h10)) hgb h13
    refine ⟨_, hv, hG.know hd g1 (avrep_val ?_)⟩
    rw [h2]
    have hkp : ∀ b o v, Us w0 U0 D b o → w.cell? ⟨b, o, none⟩ = some v → Us w0 U0 (fun b o => D b o ∨ b = g) b o ∧ w.cell? ⟨b, o, none⟩ = some v := fun b o v hu hc => ⟨hu.imp id fun h => ⟨h.1, .inl h.2⟩, hc⟩
    have hsplit : l = l.take lo ++ ((l.drop lo).take len ++ (l.drop lo).drop len) := by rw [List.take_append_drop, List.take_append_drop]
    have f4' := f4
    rw [hsplit, List.map_append, List.map_append] at f4'
    obtain ⟨y1, r1, c1, s1, s2⟩ := sq_split f4'
    obtain ⟨y2, y3, c2, s3, s4⟩ := sq_split s2
    have hy1 : y1.length = lo * z := by rw [sq_len (n := CV.size) (fun c _ xs h => h.len) s1, sum_const (fun c hc => f3 c (List.mem_of_mem_take hc)), List.length_take, Nat.min_eq_left (by omega)]
    refine vrep_lst.2 ⟨ao', len, cap - lo, rfl, by simp; omega, by omega, by omega, fun h10 => ?_, y2, ?_, Sq.keep hkp s3⟩
    · have := h7.1 h10; cases this
    · by_cases hlc : lo < cap
      · refine .inr ⟨g, lo * z, h6 hlc g rfl, fun i hi => ⟨.inr ⟨hge, .inr rfl⟩, ?_⟩⟩
        have hlt : lo * z + i < l.length * z := by
          have := f1.1
          rw [c1, c2] at this
          simp only [List.length_append] at this
          omega
        rw [own_cell f1 (by rw [e1]; rfl) hlt, c1, c2, ← hy1, List.getElem?_append_right (by omega), List.getElem?_append_left (by omega)]
        congr 1
        omega
      · left
        have : len = 0 := by omega
        rw [this] at s3
        exact s3

def AFunW (P : Program) (W : World) (fc : CV) (args : List CV) (r : AV) : Prop := AFunV P W fc args r ∨ ∃ f, fc = .sc (.func (.func f) #[] #[]) ∧ AFun P W f args r
theorem a_callw {x : Operand} {xs : Array Operand} {ts : Array TypeId} {fc : CV} {cs : List CV} {r : AV} {n q p} (hg : Gd w0 U0 nt ops o gs S) (hd : o.dst = some d) (hn : Nat.blt d nt = true) (h5 : Nat.blt d 100000 = true)
    (ho : o.op = .call { callee := .value x, args := xs, argTypes := ts }) (hf : ev S x = some ⟨0, fc, n, q, p⟩) (hx : evsO S xs.toList = some cs) (hc : AFunW P w0 fc cs r) : AOp P w0 U0 nt ops o (gs ++ (rd x ++ rdl xs.toList)) [] S [(d, r)] := by
  rcases hc with hc | ⟨f, rfl, hc⟩
  · exact a_callv hg hd hn h5 ho hf hx hc
  intro s hs _ a w ⟨D, hv, h⟩ Q K hK
  rw [if_pos (hg s (fun k hk => hs k (List.mem_append_left _ hk)) a w D hv h)]
  have hargs := evsO_rep h (fun k hk => hs k (List.mem_append_right _ (List.mem_append_right _ hk))) hx
  have hfv := ev_sc h (fun k hk => hs k (List.mem_append_right _ (List.mem_append_left _ hk))) hf
  obtain ⟨h1, h2, h3, h4⟩ := hc
  have hcall := h4 _ w _ trivial hargs
  have he : (execOp a.eval o).run P w = .ok (.enter f (xs.toList.map a.eval).toArray) w := by
    have hen := h1 (xs.map a.eval) w
    have harr : (xs.toList.map a.eval).toArray = xs.map a.eval := by apply Array.ext'; simp
    rw [harr]
    generalize a.eval = ρ at hfv hen ⊢
    simp [execOp, ho, resolve, invoke, Deferred.ofValue, hfv, hen]
  unfold Oper.wp
  rw [he, Oper.upon_enter]
  refine hcall.mono ?_
  rintro e w' ⟨v, rfl, h6, h7⟩
  rw [hd]
  exact hK _ _ ⟨Dn D w w', hv, (h.growN h7).put (bL hn) (bL h5) (avrep_rr h2 h3 (us_of_rr rfl h7.size h.below.size h6))⟩

theorem AWp.nil {c : Code} {Q : Exit → AS → Prop} (d : Nat) {l : List CV} (h5 : Nat.blt d 100000 = true) (hs : look s d = some (.val (.lst l))) (h1 : l = [] → AWp P w0 U0 nt c Q ((d, ⟨0, .lst [], 1, 0, []⟩) :: s)) (h2 : AWp P w0 U0 nt c Q ((d, ⟨16, .lst l, 0, 0, []⟩) :: s)) : AWp P w0 U0 nt c Q s := by
  intro M a w ⟨D, hv, h⟩
  have h5 := bL h5
  obtain ⟨v, g1, g2⟩ := h.slot d _ hs h5
  have g2 : VRep (Us w0 U0 D) w (.lst l) v := g2.1
  cases hn : isNil v with
  | false => exact h2 M a w ⟨D, hv, h.know h5 g1 ⟨g2, hn⟩⟩
  | true =>
    have hv0 := isNil_eq hn
    subst hv0
    obtain ⟨ao, n, cc, e1, e2, _⟩ := vrep_lst.1 g2
    injection e1 with _ e3 _
    have hl : l = [] := List.eq_nil_of_length_eq_zero (by omega)
    subst hl
    exact h1 rfl M a w ⟨D, hv, h.know h5 g1 ⟨g2, fun _ => ⟨0, .lst [], rfl, rfl⟩⟩⟩
theorem wk_not (d : Nat) {c : CV} (h5 : Nat.blt d 100000 = true) (hs : look s d = some ⟨16, c, 0, 0, []⟩) : Wk w0 U0 nt s ((d, .val c) :: s) := by
  rintro a w ⟨D, hv, h⟩
  have h5 := bL h5
  obtain ⟨v, g1, g2⟩ := h.slot d _ hs h5
  exact ⟨D, hv, h.know h5 g1 (avrep_val g2.1)⟩
theorem run_eqnil {t e : TypeId} (hu : P.underlying t = some (.slice e)) (v : Value) (w : World) (hv : ∃ ao n c, v = .slice ao n c ∧ (ao = none → n = 0 ∧ c = 0)) : (Op.equal t v (.slice none 0 0)).run P w = .ok (isNil v) w := by
  obtain ⟨ao, n, c, rfl, h⟩ := hv
  unfold Op.equal
  rw [show Op.maxDepth = 9999 + 1 from rfl, Op.equalIn]
  cases ao with
  | none => obtain ⟨rfl, rfl⟩ := h rfl; simp [run_underlying hu, isNil]
  | some ad => simp [run_underlying hu, isNil]
theorem a_isnil (hg : Gd w0 U0 nt ops o gs S) (hd : o.dst = some d) (hn : Nat.blt d nt = true) (h5 : Nat.blt d 100000 = true) {x : Operand} {t1 t2 e : TypeId} {q} (ho : o.op = .binOp .eql t1 x (.const (.slice none 0 0)) t2) (hu : P.underlying t1 = some (.slice e)) (hx : ev S x = some ⟨0, .lst [], 1, q, []⟩) : AOp P w0 U0 nt ops o (gs ++ rd x) [] S [(d, .val (.b true))] :=
  aop_val hg hd hn h5 (fun k hk => List.mem_append_left _ hk) fun s hs a w D hv hm => by
    obtain ⟨h1, h2⟩ : VRep (Us w0 U0 D) w (.lst []) (a.eval x) ∧ Tk hv (LiveN s) ⟨0, .lst [], 1, q, []⟩ (a.eval x).cells.toList := ev_rep hm (fun k hk => hs k (List.mem_append_right _ hk)) hx
    have hnil : a.eval x = .slice none 0 0 := by
      obtain ⟨m, c, g1, g2⟩ := h2 (.inl rfl)
      simp only at g1
      rw [at_nil] at g1
      cases g1
      obtain ⟨ao, k, c, e1, _⟩ := vrep_lst.1 h1
      rw [e1] at g2 ⊢
      simpa [Value.cells, tokv] using g2
    refine ⟨.bool true, ?_, avrep_sc rfl⟩
    have hb := run_eqnil (P := P) hu (.slice none 0 0) w ⟨none, 0, 0, rfl, fun _ => ⟨rfl, rfl⟩⟩
    have hc : a.eval (.const (.slice none 0 0)) = .slice none 0 0 := rfl
    generalize a.eval = ρ at hnil hc ⊢
    simp [execOp, ho, hnil, hc, eqGuard, binOp, hb, isNil]
theorem a_notnil (hg : Gd w0 U0 nt ops o gs S) (hd : o.dst = some d) (hn : Nat.blt d nt = true) (h5 : Nat.blt d 100000 = true) {x : Operand} {t1 t2 e : TypeId} {l : List CV} {n q p} (ho : o.op = .binOp .eql t1 x (.const (.slice none 0 0)) t2) (hu : P.underlying t1 = some (.slice e)) (hx : ev S x = some ⟨16, .lst l, n, q, p⟩) : AOp P w0 U0 nt ops o (gs ++ rd x) [] S [(d, .val (.b false))] :=
  aop_val hg hd hn h5 (fun k hk => List.mem_append_left _ hk) fun s hs a w D hv hm => by
    obtain ⟨h1, h2⟩ : VRep (Us w0 U0 D) w (.lst l) (a.eval x) ∧ isNil (a.eval x) = false := ev_rep hm (fun k hk => hs k (List.mem_append_right _ hk)) hx
    obtain ⟨ao, k, c, e1, e2, e3, e4, e5, _⟩ := vrep_lst.1 h1
    refine ⟨.bool false, ?_, avrep_sc rfl⟩
    have hb := run_eqnil (P := P) hu (a.eval x) w ⟨ao, k, c, e1, e5⟩
    rw [h2] at hb
    have hc : a.eval (.const (.slice none 0 0)) = .slice none 0 0 := rfl
    generalize a.eval = ρ at hb hc ⊢
    simp [execOp, ho, hc, eqGuard, binOp, hb]
theorem wk_nilM (d n e z : Nat) (hs : look s d = some ⟨0, .lst [], 1, 0, []⟩) (h5 : Nat.blt d 100000 = true) (hn : (Nat.ble 200000 n && Nat.blt n 400000) = true) (hz : Nat.blt 0 z = true) (hr : noRefB s [(n, [])] = true) : Wk w0 U0 nt s ((d, .sl n 0 0 z) :: (n, .mrow e z []) :: s) := by
  rintro a w ⟨D, hv, h⟩
  have h5 := bL h5
  have hrn := rnB hn
  have hz := bL hz
  have hr := (noRefB_spec hr (n, []) (by simp)).nr
  obtain ⟨v, g1, g2⟩ := h.slot d _ hs h5
  have hv0 : v = .slice none 0 0 := by
    obtain ⟨h1, h2⟩ : VRep (Us w0 U0 D) w (.lst []) v ∧ Tk hv (LiveN s) ⟨0, .lst [], 1, 0, []⟩ v.cells.toList := g2
    obtain ⟨m, c, f1, f2⟩ := h2 (.inl rfl)
    simp only at f1
    rw [at_nil] at f1
    cases f1
    obtain ⟨ao, k, c, e1, _⟩ := vrep_lst.1 h1
    rw [e1] at f2 ⊢
    simpa [Value.cells, tokv] using f2
  have hG := h.newrow (X := fun _ => False) (avn := .mrow e z []) (v' := .slice none 0 0) hrn hr (by simp) (BelowX.refl _ _) (fun b hb => hb.elim) (fun g hg => by cases hg) (fun b o hd => .inl hd) h.dlt (fun b o u h1 h2 => ⟨h1, h2⟩) (fun hv lv => ⟨[], World.ownsRow_nil _ _ _ _, hz, (fun c hc => by cases hc), rfl⟩)
  refine ⟨D, _, hG.know h5 g1 ⟨RW.rn hrn, ?_⟩⟩
  show SlV ((fun x => if x = n then Value.slice none 0 0 else hv x) n) 0 0 z v
  simp only [if_true]
  rw [hv0]
  exact slV_all rfl (Nat.le_refl _) (.inl rfl)
end
section
variable {P : Program} {w0 : World} {U0 : UX} {nt : Nat} {ops : Array Oper} {o : Oper} {S : Nat → Option AV} {gs : List Nat} {d : Nat} {s : AS} {a : Act} {w : World} {D : Nat → Nat → Prop} {hv : Nat → Value}

def aggA (av : AV) : Bool := match Nat.beq av.t 0 with | true => Nat.beq av.c.k 2 | false => false
theorem vrep_one {U : Nat → Nat → Prop} {c : CV} {v : Value} (h : VRep U w c v) (hk : c.k ≠ 2) : v.cells = #[v] ∧ v.oneCell' = true := by
  unfold VRep at h
  rw [if_neg hk] at h
  have h1 := h.one v (by simp)
  exact ⟨by cases v <;> first | rfl | simp [Value.oneCell'] at h1, h1⟩

def fldB (av : AV) : Bool := Nat.beq av.t 0 || Nat.beq av.t 2 || Nat.beq av.t 11 || Nat.beq av.t 12 || Nat.beq av.t 15
theorem one_cells {v : Value} (h : v.oneCell' = true) : v.cells = #[v] := by cases v <;> first | rfl | simp [Value.oneCell'] at h
theorem fld_one {U : Nat → Nat → Prop} {lv : Nat → Prop} {av : AV} {v : Value} (h : AVRep U w hv lv av v) (hf : fldB av = true) (ht : av.t ≠ 0) : v.cells = #[v] ∧ v.oneCell' = true := by
  unfold fldB at hf
  simp only [Bool.or_eq_true] at hf
  unfold AVRep at h
  rw [if_neg ht] at h
  rcases hf with (((hf | hf) | hf) | hf) | hf <;> have hf := Nat.eq_of_beq_eq_true hf
  · exact absurd hf ht
  · rw [if_pos hf] at h; rw [h.2]; exact ⟨rfl, rfl⟩
  · rw [if_neg (by omega), if_neg (by omega), if_neg (by omega), if_pos hf] at h; rw [h.2]; exact ⟨rfl, rfl⟩
  · rw [if_neg (by omega), if_neg (by omega), if_neg (by omega), if_neg (by omega), if_pos hf] at h
    obtain ⟨_, ao, m, cap, ao', _, e, _⟩ := h
    rw [e]; exact ⟨rfl, rfl⟩
  · rw [if_neg (by omega), if_neg (by omega), if_neg (by omega), if_neg (by omega), if_neg (by omega), if_pos hf] at h
    exact ⟨one_cells h.2.2, h.2.2⟩
theorem aLf (hg : Gd w0 U0 nt ops o gs S) (hd : o.dst = some d) (hn : Nat.blt d nt = true) (h5 : Nat.blt d 100000 = true) {x : Operand} {ty : TypeId} {ds : TypeDesc} {z n q : Nat} {p : List Nat} {k' v' l'} {av : AV} (ho : o.op = .load ty x) (hu : P.underlying ty = some ds) (hi : (P.info? ty).map (·.size) = some z) (hx : ev S x = some ⟨2, ⟨k', v', l'⟩, n, q, p⟩) (hb : S (100000 + n) = some .obj) (hf : S (fKey n q) = some av) (hq : Nat.blt q 100 = true) (hz : av.sz = z) (hk : aggB ds = aggA av) (ht : fldB av = true) : AOp P w0 U0 nt ops o (gs ++ (rd x ++ [100000 + n, fKey n q])) [] S [(d, av)] :=
  aop_val hg hd hn h5 (fun k hk => List.mem_append_left _ hk) fun s hs a w D hv hm => by
    obtain ⟨hbn, h1⟩ : BN n ∧ a.eval x = .pointer (some ⟨blkOf (hv (100000 + n)), q, none⟩) := ev_rep hm (fun k hk => hs k (List.mem_append_right _ (List.mem_append_left _ hk))) hx
    obtain ⟨v, g1, g2, g3⟩ := hm.fld n q av ((hs (fKey n q) (by simp)).trans hf) (bL hq) ((hs (100000 + n) (by simp)).trans hb) hbn
    have hsz := run_sizeOf (P := P) (w := w) hi
    refine ⟨v, ?_, g1⟩
    have hl : (loadVar ty ⟨blkOf (hv (100000 + n)), q, none⟩).run P w = .ok v w := by
      cases hag : aggA av with
      | true =>
        rw [hag] at hk
        unfold aggA at hag
        split at hag
        · rename_i ht0
          have ht0 := Nat.eq_of_beq_eq_true ht0
          have hk2 := Nat.eq_of_beq_eq_true hag
          unfold AVRep at g1
          rw [if_pos ht0] at g1
          have g4 := g1.1
          unfold VRep at g4
          rw [if_pos hk2] at g4
          obtain ⟨xs, rfl, g5⟩ := g4
          have hxl : xs.length = z := by rw [← hz, ← g2]; simp [Value.cells]
          have := run_loadCells_list (P := P) w ⟨blkOf (hv (100000 + n)), q, none⟩ xs (fun j u hj => by
            have hjl : j < xs.length := by
              rcases Nat.lt_or_ge j xs.length with h | h
              · exact h
              · rw [List.getElem?_eq_none h] at hj; cases hj
            rw [add_at, g3 j (by simpa [Value.cells] using hjl)]
            simpa [Value.cells] using hj)
          rw [hxl] at this
          simp [loadVar, run_isAgg hu, hk, hsz, this]
        · cases hag
      | false =>
        rw [hag] at hk
        have hv1 : v.cells = #[v] := by
          by_cases ht0 : av.t = 0
          · unfold aggA at hag
            rw [ht0] at hag
            have hk2 : av.c.k ≠ 2 := fun e => by rw [e] at hag; cases hag
            unfold AVRep at g1
            rw [if_pos ht0] at g1
            exact (vrep_one g1.1 hk2).1
          · exact (fld_one g1 ht ht0).1
        have := g3 0 (by rw [hv1]; simp)
        rw [hv1] at this
        simp only [Nat.add_zero] at this
        simp [loadVar, run_isAgg hu, hk, run_load, this]
    generalize a.eval = ρ at h1 ⊢
    simp [execOp, ho, Instr.loadAt, Instr.sureAddr, h1, hl]

theorem SimG.storeF (h : SimG w0 U0 nt s a w D hv) {n q : Nat} (hbn : BN n) (hob : look s (100000 + n) = some .obj) (hq : q < 100) {av0 av : AV} (h0 : look s (fKey n q) = some av0) (hsz : av.sz = av0.sz) (hz0 : 0 < av.sz) {v : Value} (hav : AVRep (Us w0 U0 D) w hv (LiveN s) av v) (hvs : v.cells.size = av.sz) :
    ∃ g ys zs us ty, blkOf (hv (100000 + n)) = g ∧ w.heap[g]? = some (.cells (ys ++ zs ++ us).toArray ty (0, 0)) ∧ ys.length = q ∧ zs.length = av.sz ∧ SimG w0 U0 nt ((fKey n q, av) :: s) a (w.setRow g (ys ++ v.cells.toList ++ us).toArray) D hv := by
  obtain ⟨g, xs, ty, e1, e2, e3⟩ := h.obj9 hob hbn
  have hgb : hb (hv (100000 + n)) = some g := by rw [e1]; rfl
  obtain ⟨v0, f1, f2, f3⟩ := h.fld n q av0 h0 hq hob hbn
  obtain ⟨hmn, hlt, hD⟩ := h.blk (100000 + n) _ g hob (bn_okey hbn) (by simp) hgb
  have hD' : ∀ o, ¬ D g o := fun o => hD o fun e => by cases e
  have hqz : q + av.sz ≤ xs.size := by
    have := f3 (av.sz - 1) (by rw [f2, ← hsz]; omega)
    rw [e2] at this
    simp only [World.cell?, e3] at this
    rw [Array.getElem?_eq_getElem (xs := v0.cells) (by rw [f2, ← hsz]; omega)] at this
    have h2 := (Array.getElem?_eq_some_iff.1 (by simpa using this)).1
    omega
  obtain ⟨ys, hys⟩ : ∃ ys, ys = xs.toList.take q := ⟨_, rfl⟩
  obtain ⟨zs, hzs⟩ : ∃ zs, zs = (xs.toList.drop q).take av.sz := ⟨_, rfl⟩
  obtain ⟨us, hus⟩ : ∃ us, us = (xs.toList.drop q).drop av.sz := ⟨_, rfl⟩
  have hxs : xs.toList = ys ++ zs ++ us := by rw [hys, hzs, hus, List.append_assoc, List.take_append_drop, List.take_append_drop]
  have hyl : ys.length = q := by rw [hys]; simp; omega
  have hzl : zs.length = av.sz := by rw [hzs]; simp; omega
  have hvl : v.cells.toList.length = av.sz := by simpa using hvs
  have hx' : w.heap[g]? = some (.cells (ys ++ zs ++ us).toArray ty (0, 0)) := by rw [← hxs, Array.toArray_toList]; exact e3
  refine ⟨g, ys, zs, us, ty, e2, hx', hyl, hzl, ?_⟩
  obtain ⟨w', hw'⟩ : ∃ w', w' = w.setRow g (ys ++ v.cells.toList ++ us).toArray := ⟨_, rfl⟩
  rw [← hw']
  have hoth : ∀ k, k ≠ g → w'.heap[k]? = w.heap[k]? := fun k hk => by rw [hw']; exact setRow_other w g k _ hk
  have hnew : w'.heap[g]? = some (.cells (ys ++ v.cells.toList ++ us).toArray ty (0, 0)) := by rw [hw']; exact setRow_heap w _ _ _ _ _ hx'
  have hkeep : ∀ b o u, Us w0 U0 D b o → w.cell? ⟨b, o, none⟩ = some u → Us w0 U0 D b o ∧ w'.cell? ⟨b, o, none⟩ = some u := fun b o u hu hc => by
    refine ⟨hu, ?_⟩
    rw [hw', cell_setRow_other]
    · exact hc
    · exact us_ne hu hmn (hD' o)
  -- cells of the box outside the field
  have hout : ∀ i, i < q ∨ q + av.sz ≤ i → w'.cell? ⟨g, i, none⟩ = w.cell? ⟨g, i, none⟩ := fun i hi => by
    simp only [World.cell?, hnew, hx']
    simp only [Option.isSome_none, Bool.false_eq_true, if_false, List.getElem?_toArray]
    rcases hi with hi | hi
    · rw [List.append_assoc, List.append_assoc, List.getElem?_append_left (by omega), List.getElem?_append_left (by omega)]
    · rw [List.getElem?_append_right (by simp only [List.length_append]; omega), List.getElem?_append_right (by simp only [List.length_append]; omega)]
      simp only [List.length_append, hvl, hzl]
  have hfk : ∀ {m o : Nat}, o < 100 → fKey m o = fKey n q → m = n ∧ o = q := fun {m o} ho e => by unfold fKey at e; omega
  have hlk : ∀ {k}, k ≠ fKey n q → look ((fKey n q, av) :: s) k = look s k := fun {k} hk => lN (Ne.symm hk)
  have hl : ∀ m e, Live ((fKey n q, av) :: s) m e ↔ Live s m e := fun m e => by
    unfold Live
    constructor
    · rintro ⟨g1, g2⟩; rw [hlk (by unfold fKey; omega)] at g1; exact ⟨g1, g2⟩
    · rintro ⟨g1, g2⟩; exact ⟨by rw [hlk (by unfold fKey; omega)]; exact g1, g2⟩
  have hl2 : LiveN ((fKey n q, av) :: s) = LiveN s := by funext k; simp only [LiveN, hl]
  have hsize : w'.heap.size = w.heap.size := by rw [hw', setRow_size]
  refine ⟨⟨?_, ?_, ?_, by rw [hsize]; exact h.below.size, fun k hk hkx => ?_⟩, h.dfr, h.size, fun d av' g1 g2 => ?_, fun m o av' g1 g2 g3 g4 => ?_, fun m o o' av1 av2 g1 g2 g3 g4 g5 => ?_, fun k av' g1 g2 => ?_, fun k av' g' g1 g2 g3 g4 => ?_, fun k k' av1 av2 g' g1 g2 g3 g4 => ?_, h.fix, fun b o hd => by rw [hsize]; exact h.dlt b o hd⟩
  · rw [hw']; exact h.below.os
  · rw [hw']; exact h.below.tape
  · rw [hw']; exact h.below.output
  · rw [hoth k]
    · exact h.below.block k hk hkx
    · rintro rfl
      rcases hmn with h1 | h1
      · omega
      · exact hkx h1.2
  · rw [hlk (by unfold fKey; omega)] at g1
    rw [hl2]
    obtain ⟨u, g3, g4⟩ := h.slot d av' g1 g2
    exact ⟨u, g3, g4.keep hkeep⟩
  · rw [hlk (by unfold fKey BN at *; omega)] at g3
    rw [hl2]
    by_cases e : fKey m o = fKey n q
    · obtain ⟨rfl, rfl⟩ := hfk g2 e
      rw [lS] at g1
      cases g1
      refine ⟨v, hav.keep hkeep, hvs, fun i hi => ?_⟩
      rw [e2]
      simp only [World.cell?, hnew]
      simp only [Option.isSome_none, Bool.false_eq_true, if_false, List.getElem?_toArray]
      rw [List.append_assoc, List.getElem?_append_right (by omega), hyl, show o + i - o = i by omega, List.getElem?_append_left (by omega)]
      simp
    · rw [hlk e] at g1
      obtain ⟨u, k1, k2, k3⟩ := h.fld m o av' g1 g2 g3 g4
      refine ⟨u, k1.keep hkeep, k2, fun i hi => ?_⟩
      by_cases em : m = n
      · subst em
        have ho : o ≠ q := fun e3 => e (by rw [e3])
        rw [e2]
        have k4 := k3 i hi
        rw [e2] at k4
        rw [hout]
        · exact k4
        · rcases Nat.lt_or_ge o q with h3 | h3
          · have := h.fdis m o q av' av0 g1 h0 g2 hq h3
            rw [k2] at hi
            omega
          · have := h.fdis m q o av0 av' h0 g1 hq g2 (by omega)
            omega
      · obtain ⟨g2', _, _, c1, c2, c3⟩ := h.obj9 g3 g4
        have hne : g2' ≠ g := fun e3 => h.disj (100000 + n) (100000 + m) _ _ g hob g3 (bn_okey hbn) (bn_okey g4) (by simp) (by simp) (by omega) hgb (by rw [c1, e3]; rfl)
        rw [c2]
        have k4 := k3 i hi
        rw [c2] at k4
        rw [World.cell?_of_block (w := w) (hoth g2' hne)]
        exact k4
  · have conv : ∀ {o : Nat} {aq : AV}, o < 100 → look ((fKey n q, av) :: s) (fKey m o) = some aq → ∃ aq', look s (fKey m o) = some aq' ∧ aq'.sz = aq.sz := fun {o aq} ho g6 => by
      by_cases e : fKey m o = fKey n q
      · rw [e, lS] at g6
        cases g6
        exact ⟨av0, by rw [e]; exact h0, hsz.symm⟩
      · rw [hlk e] at g6; exact ⟨aq, g6, rfl⟩
    obtain ⟨b1, c1, c2⟩ := conv g3 g1
    obtain ⟨b2, c3, c4⟩ := conv g4 g2
    rw [← c2]
    exact h.fdis m o o' b1 b2 c1 c3 g3 g4 g5
  · have g2' := g2
    unfold oKey at g2'
    rw [hlk (by unfold fKey; omega)] at g1
    rw [hl2]
    by_cases e : k = 100000 + n
    · subst e
      rw [hob] at g1
      cases g1
      exact ⟨g, _, ty, e1, hnew⟩
    · by_cases h7 : av'.t = 7
      · exact oc_no h7
      · exact (h.obj k av' g1 g2).move hkeep (fun _ hx => ⟨hx, rfl⟩) fun g' hg' => hoth g' fun e3 => h.disj (100000 + n) k _ av' g hob g1 (bn_okey hbn) g2 (by simp) h7 (Ne.symm e) hgb (e3 ▸ hg')
  · have g2' := g2
    unfold oKey at g2'
    rw [hlk (by unfold fKey; omega)] at g1
    rw [hsize]
    exact h.blk k av' g' g1 g2 g3 g4
  · have g3' := g3
    have g4' := g4
    unfold oKey at g3' g4'
    rw [hlk (by unfold fKey; omega)] at g1 g2
    exact h.disj k k' av1 av2 g' g1 g2 g3 g4

theorem a_store_fld (hg : Gd w0 U0 nt ops o gs S) (hd : o.dst = none) {x y : Operand} {ty : TypeId} {z n q : Nat} {p : List Nat} {k' v' l'} {av0 av : AV} (ho : o.op = .store ty x y) (hi : (P.info? ty).map (·.size) = some z) (hx : ev S x = some ⟨2, ⟨k', v', l'⟩, n, q, p⟩) (hb : S (100000 + n) = some .obj) (hf : S (fKey n q) = some av0) (hy : ev S y = some av) (hq : Nat.blt q 100 = true) (hz : av.sz = z) (hz0 : av0.sz = z) (hzp : Nat.blt 0 z = true) (ht : fldB av = true) : AOp P w0 U0 nt ops o (gs ++ (rd x ++ (rd y ++ [100000 + n, fKey n q]))) [] S [(fKey n q, av)] := by
  intro s hs hN a w ⟨D, hv, h⟩ Q K hK
  rw [if_pos (hg s (fun k hk => hs k (List.mem_append_left _ hk)) a w D hv h)]
  obtain ⟨hbn, h1⟩ : BN n ∧ a.eval x = .pointer (some ⟨blkOf (hv (100000 + n)), q, none⟩) := ev_rep h (fun k hk => hs k (List.mem_append_right _ (List.mem_append_left _ hk))) hx
  have h2 := ev_rep h (fun k hk => hs k (List.mem_append_right _ (List.mem_append_right _ (List.mem_append_left _ hk)))) hy
  have hcs : (a.eval y).cells.size = av.sz ∧ ∀ u ∈ (a.eval y).cells.toList, u.oneCell' = true := by
    by_cases ht0 : av.t = 0
    · have h3 := h2
      unfold AVRep at h3
      rw [if_pos ht0] at h3
      refine ⟨?_, h3.1.cells.one⟩
      have := h3.1.cells.len
      unfold AV.sz
      rw [ht0]
      simpa using this
    · obtain ⟨g1, g2⟩ := fld_one h2 ht ht0
      rw [g1]
      refine ⟨?_, by simpa using g2⟩
      unfold AV.sz
      rw [beq_ne ht0]
      rfl
  obtain ⟨g, ys, zs, us, t, e1, e2, e3, e4, e5⟩ := h.storeF hbn ((hs (100000 + n) (by simp)).trans hb) (bL hq) ((hs (fKey n q) (by simp)).trans hf) (hz.trans hz0.symm) (by rw [hz]; exact bL hzp) h2 hcs.1
  rw [e1] at h1
  have hcl : (a.eval y).cells.toList.length = av.sz := by simpa using hcs.1
  have hrun := run_storeTree (P := P) hi e2 e3 (v := a.eval y) rfl (by rw [hcl, e4]) (by rw [hcl, hz]) hcs.2
  have he : (execOp a.eval o).run P w = .ok .skip (w.setRow g (ys ++ (a.eval y).cells.toList ++ us).toArray) := by
    generalize a.eval = ρ at h1 hrun ⊢
    simp [execOp, ho, Instr.storeAt, Instr.sureAddr, h1, hrun]
  unfold Oper.wp
  rw [he, Oper.upon_skip, hd]
  exact hK _ _ ⟨_, _, e5⟩

theorem SimG.addF (h : SimG w0 U0 nt s a w D hv) {n q : Nat} (hbn : BN n) (hob : look s (100000 + n) = some .obj) (hq : q < 100) {av : AV} {v : Value} (hav : AVRep (Us w0 U0 D) w hv (LiveN s) av v) (hvs : v.cells.size = av.sz) (hc : ∀ i, i < v.cells.size → w.cell? ⟨blkOf (hv (100000 + n)), q + i, none⟩ = v.cells[i]?) (ho : ∀ o av', look s (fKey n o) = some av' → o < 100 → q + av.sz ≤ o) : SimG w0 U0 nt ((fKey n q, av) :: s) a w D hv := by
  have hfk : ∀ {m o : Nat}, o < 100 → fKey m o = fKey n q → m = n ∧ o = q := fun {m o} ho e => by unfold fKey at e; omega
  have hlk : ∀ {k}, k ≠ fKey n q → look ((fKey n q, av) :: s) k = look s k := fun {k} hk => lN (Ne.symm hk)
  have hl : ∀ m e, Live ((fKey n q, av) :: s) m e ↔ Live s m e := fun m e => by
    unfold Live
    constructor
    · rintro ⟨g1, g2⟩; rw [hlk (by unfold fKey; omega)] at g1; exact ⟨g1, g2⟩
    · rintro ⟨g1, g2⟩; exact ⟨by rw [hlk (by unfold fKey; omega)]; exact g1, g2⟩
  have hl2 : LiveN ((fKey n q, av) :: s) = LiveN s := by funext k; simp only [LiveN, hl]
  refine ⟨h.below, h.dfr, h.size, fun d av' g1 g2 => ?_, fun m o av' g1 g2 g3 g4 => ?_, fun m o o' av1 av2 g1 g2 g3 g4 g5 => ?_, fun k av' g1 g2 => ?_, fun k av' g' g1 g2 g3 g4 => ?_, fun k k' av1 av2 g' g1 g2 g3 g4 => ?_, h.fix, h.dlt⟩
  · rw [hlk (by unfold fKey; omega)] at g1
    rw [hl2]
    exact h.slot d av' g1 g2
  · rw [hlk (by unfold fKey BN at *; omega)] at g3
    rw [hl2]
    by_cases e : fKey m o = fKey n q
    · obtain ⟨rfl, rfl⟩ := hfk g2 e
      rw [lS] at g1
      cases g1
      exact ⟨v, hav, hvs, hc⟩
    · rw [hlk e] at g1
      exact h.fld m o av' g1 g2 g3 g4
  · by_cases e1 : fKey m o = fKey n q
    · obtain ⟨rfl, rfl⟩ := hfk g3 e1
      rw [lS] at g1
      cases g1
      rw [hlk (by unfold fKey; omega)] at g2
      exact ho o' av2 g2 g4
    · rw [hlk e1] at g1
      by_cases e2 : fKey m o' = fKey n q
      · obtain ⟨rfl, rfl⟩ := hfk g4 e2
        have := ho o av1 g1 g3
        omega
      · rw [hlk e2] at g2
        exact h.fdis m o o' av1 av2 g1 g2 g3 g4 g5
  · have g2' := g2
    unfold oKey at g2'
    rw [hlk (by unfold fKey; omega)] at g1
    rw [hl2]
    exact h.obj k av' g1 g2
  · have g2' := g2
    unfold oKey at g2'
    rw [hlk (by unfold fKey; omega)] at g1
    exact h.blk k av' g' g1 g2 g3 g4
  · have g3' := g3
    have g4' := g4
    unfold oKey at g3' g4'
    rw [hlk (by unfold fKey; omega)] at g1 g2
    exact h.disj k k' av1 av2 g' g1 g2 g3 g4

def zeroAV (c : CV) : AV := ⟨0, c, match isNilC c with | true => 1 | false => 0, 0, []⟩
noncomputable def fldsA (d : Nat) : List CV → Nat → AS
  | [], _ => []
  | c :: cs, o => (fKey d o, zeroAV c) :: fldsA d cs (o + c.size)
theorem look_fldsA {d : Nat} : ∀ {cs : List CV} {o k : Nat} {av : AV}, look (fldsA d cs o) k = some av → ∃ o', o ≤ o' ∧ k = fKey d o'
  | [], _, _, _, h => by simp [fldsA, look] at h
  | c :: cs, o, k, av, h => by
    rw [fldsA, look_cons] at h
    split at h
    · rename_i e; exact ⟨o, Nat.le_refl _, e.symm⟩
    · obtain ⟨o', h1, h2⟩ := look_fldsA h
      exact ⟨o', by omega, h2⟩
theorem vrep_of_rep {U : Nat → Nat → Prop} {c : CV} {xs : List Value} (h : Rep U w c xs) : ∃ v, VRep U w c v ∧ v.cells.toList = xs := by
  by_cases hk : c.k = 2
  · exact ⟨.agg xs.toArray, by unfold VRep; rw [if_pos hk]; exact ⟨xs, rfl, h⟩, by simp [Value.cells]⟩
  · have h1 : c.size = 1 := by cases c with | mk k v l => rw [CV.size_mk, if_neg hk]
    have hl := h.len
    rw [h1] at hl
    match xs, hl with
    | [v], _ =>
      refine ⟨v, by unfold VRep; rw [if_neg hk]; exact h, ?_⟩
      rw [one_cells (h.one v (by simp))]
theorem SimG.addFs (h : SimG w0 U0 nt s a w D hv) {n : Nat} (hbn : BN n) (hob : look s (100000 + n) = some .obj) (hno : ∀ o av, look s (fKey n o) = some av → o < 100 → False) {g : Nat} (hgv : blkOf (hv (100000 + n)) = g) : ∀ {cs : List CV} {segs : List (List Value)} {o : Nat}, cs.length = segs.length → (∀ (i : Nat) (c : CV), cs[i]? = some c → ∃ seg, segs[i]? = some seg ∧ Rep (Us w0 U0 D) w c seg ∧ (isNilC c = true → seg = [.slice none 0 0])) → (∀ i, i < segs.flatten.length → w.cell? ⟨g, o + i, none⟩ = segs.flatten[i]?) → (∀ c ∈ cs, 0 < c.size) → o + segs.flatten.length ≤ 100 → SimG w0 U0 nt (fldsA n cs o ++ s) a w D hv
  | [], _, _, _, _, _, _, _ => h
  | c :: cs, [], _, hl, _, _, _, _ => by simp at hl
  | c :: cs, seg :: segs, o, hl, hr, hc, hp, h100 => by
    obtain ⟨seg', e1, e2, e3⟩ := hr 0 c rfl
    simp at e1
    subst e1
    have hsl := e2.len
    have hcp := hp c (by simp)
    rw [List.flatten_cons] at hc h100
    rw [List.length_append] at h100
    have ih := h.addFs hbn hob hno hgv (cs := cs) (segs := segs) (o := o + c.size) (by simpa using hl) (fun i c' hi => hr (i + 1) c' (by simpa using hi)) (fun i hi => by
      have := hc (seg.length + i) (by rw [List.length_append]; omega)
      rw [List.getElem?_append_right (by omega), show seg.length + i - seg.length = i by omega] at this
      rw [← this, hsl, Nat.add_assoc]) (fun c' hc' => hp c' (List.mem_cons_of_mem _ hc')) (by omega)
    obtain ⟨v, g1, g2⟩ := vrep_of_rep e2
    have hnk : ∀ {k}, 100000 ≤ k → k < 500000 → look (fldsA n cs (o + c.size) ++ s) k = look s k := fun {k} h1 h2 => by
      rw [look_append]
      cases e : look (fldsA n cs (o + c.size)) k with
      | none => rfl
      | some av => obtain ⟨o', _, rfl⟩ := look_fldsA e; unfold fKey at h2; omega
    have hbk := bn_okey hbn
    unfold oKey at hbk
    refine ih.addF hbn (by rw [hnk hbk.1 hbk.2]; exact hob) (by omega) (v := v) ⟨g1, fun hlv => ?_⟩ ?_ ?_ ?_
    · refine ⟨0, c, at_nil c, ?_⟩
      show v.cells.toList[0]? = some (tokv hv (zeroAV c).n)
      unfold zeroAV at hlv ⊢
      cases hnil : isNilC c with
      | true =>
        rw [g2, e3 hnil]; rfl
      | false => rw [hnil] at hlv; exact absurd hlv not_live0
    · rw [← Array.length_toList, g2, hsl]; rfl
    · intro i hi
      have hi' : i < seg.length := by rw [← g2]; simpa using hi
      have := hc i (by rw [List.length_append]; omega)
      rw [List.getElem?_append_left hi', ← g2, Array.getElem?_toList] at this
      rw [hgv]; exact this
    · intro o' av' h1 h2
      rw [look_append] at h1
      cases e : look (fldsA n cs (o + c.size)) (fKey n o') with
      | none => rw [e] at h1; exact (hno o' av' h1 h2).elim
      | some av =>
        obtain ⟨o2, h3, h4⟩ := look_fldsA e
        unfold fKey at h4
        show o + c.size ≤ o'
        omega

end
end Go.Proofs.Ytglbohajmccehaa
namespace Go.Proofs.Ytglbohajmccehaa
open Go.RowKit Go.MapKept
set_option linter.unusedVariables false
set_option linter.unusedSimpArgs false
section
variable {P : Program} {w0 : World} {U0 : UX} {nt : Nat} {ops : Array Oper} {o : Oper} {S : Nat → Option AV} {gs : List Nat} {d : Nat} {s : AS} {a : Act} {w : World} {D : Nat → Nat → Prop} {hv : Nat → Value}

theorem SimG.upd (h : SimG w0 U0 nt s a w D hv) {k0 : Nat} (h5 : oKey k0) {av0 av : AV} (h0 : look s k0 = some av0) (ht0 : av0.t ≠ 7) (hobj : av0.t ≠ 9) (ht : av.t = av0.t) (hnd : ∀ g, NoD D av0 (hv k0) g → NoD D av (hv k0) g) (ht6 : av.t ≠ 6) {g : Nat} (hg : hb (hv k0) = some g) {w' : World} (hos : w'.os = w.os) (htp : w'.tape = w.tape) (hou : w'.output = w.output) (hsize : w'.heap.size = w.heap.size) (hoth : ∀ k, k ≠ g → w'.heap[k]? = w.heap[k]?) (hoc : (∀ b o v, Us w0 U0 D b o → w.cell? ⟨b, o, none⟩ = some v → Us w0 U0 D b o ∧ w'.cell? ⟨b, o, none⟩ = some v) → OC (Us w0 U0 D) w' hv (LiveN s) av (hv k0)) :
    SimG w0 U0 nt ((k0, av) :: s) a w' D hv := by
  obtain ⟨hbase, hlt0, hD⟩ := h.blk k0 av0 g h0 h5 ht0 hg
  have h5' := h5
  unfold oKey at h5'
  have ht6' : av0.t ≠ 6 := by rw [← ht]; exact ht6
  have hD' : ∀ o, ¬ D g o := fun o => hD o fun e => absurd e ht6'
  have hne9 : av ≠ .obj := fun e => hobj (by rw [← ht, e])
  have hne90 : av0 ≠ .obj := fun e => hobj (by rw [e])
  have hl : ∀ n e, Live ((k0, av) :: s) n e ↔ Live s n e := fun n e => by
    unfold Live
    by_cases e1 : k0 = n
    · subst e1
      rw [lS, h0]
      constructor
      · rintro ⟨h1, _⟩; cases h1; exact absurd rfl ht6
      · rintro ⟨h1, _⟩; cases h1; exact absurd rfl ht6'
    · rw [lN e1]
  have hl2 : LiveN ((k0, av) :: s) = LiveN s := by funext k; simp only [LiveN, hl]
  have hkeep : ∀ b o v, Us w0 U0 D b o → w.cell? ⟨b, o, none⟩ = some v → Us w0 U0 D b o ∧ w'.cell? ⟨b, o, none⟩ = some v := fun b o v hu hc => by
    refine ⟨hu, ?_⟩
    rw [World.cell?_of_block (w := w) (hoth b (us_ne hu hbase (hD' o)))]
    exact hc
  refine ⟨⟨hos.trans h.below.os, htp.trans h.below.tape, hou.trans h.below.output, by rw [hsize]; exact h.below.size, fun k hk hkx => ?_⟩, h.dfr, h.size, fun d av' h1 h2 => ?_, fun n o av' h1 h2 h3 h10 => ?_, fun n o o' av1 av2 h1 h2 => ?_, fun k av' h1 h2 => ?_, fun k av' g' h1 h2 h3 h4 => ?_, fun k k' av1 av2 g' h1 h2 h3 h4 h6 h7 hne => ?_, h.fix, fun b o hd => ?_⟩
  · rw [hoth k]
    · exact h.below.block k hk hkx
    · rintro rfl
      rcases hbase with h1 | h1
      · omega
      · exact hkx h1.2
  · rw [lN (by omega)] at h1
    rw [hl2]
    obtain ⟨v, h3, h4⟩ := h.slot d av' h1 h2
    exact ⟨v, h3, h4.keep hkeep⟩
  · rw [lN (by unfold fKey; omega)] at h1
    have hne : k0 ≠ 100000 + n := fun e => by subst e; rw [lS] at h3; cases h3; exact hne9 rfl
    rw [lN hne] at h3
    rw [hl2]
    obtain ⟨v, h4, h6, h7⟩ := h.fld n o av' h1 h2 h3 h10
    refine ⟨v, h4.keep hkeep, h6, fun i hi => ?_⟩
    have hng : blkOf (hv (100000 + n)) ≠ g := by
      rintro e
      obtain ⟨g2, ys, ty2, e1, e2, e3⟩ := h.obj9 h3 h10
      have : hb (hv (100000 + n)) = some g := by rw [e1]; rw [e2] at e; rw [← e]; rfl
      exact h.disj k0 (100000 + n) av0 _ g h0 h3 h5 (bn_okey h10) ht0 (by simp) hne hg this
    rw [World.cell?_of_block (w := w) (hoth _ hng)]
    exact h7 i hi
  · rw [lN (by unfold fKey; omega)] at h1 h2
    exact h.fdis n o o' av1 av2 h1 h2
  · rw [hl2]
    by_cases e : k0 = k
    · subst e
      rw [lS] at h1
      cases h1
      exact hoc hkeep
    · rw [lN e] at h1
      by_cases h7 : av'.t = 7
      · exact oc_no h7
      · exact (h.obj k av' h1 h2).move hkeep (fun _ hl => ⟨hl, rfl⟩) fun g' hg' => hoth g' fun e2 => h.disj k0 k av0 av' g h0 h1 h5 h2 ht0 h7 e hg (e2 ▸ hg')
  · rw [hsize]
    by_cases e : k0 = k
    · subst e
      rw [lS] at h1
      cases h1
      obtain ⟨g1, g2, g3⟩ := h.blk k0 av0 g' h0 h5 ht0 h4
      exact ⟨by rw [lcl_eq ht]; exact g1, g2, hnd g' g3⟩
    · rw [lN e] at h1
      exact h.blk k av' g' h1 h2 h3 h4
  · have conv : ∀ q (aq : AV), look ((k0, av) :: s) q = some aq → aq.t ≠ 7 → ∃ aq', look s q = some aq' ∧ aq'.t ≠ 7 := fun q aq h8 h9 => by
      by_cases e : k0 = q
      · exact ⟨av0, by rw [← e]; exact h0, ht0⟩
      · rw [lN e] at h8; exact ⟨aq, h8, h9⟩
    obtain ⟨a1, b1, c1⟩ := conv k av1 h1 h6
    obtain ⟨a2, b2, c2⟩ := conv k' av2 h2 h7
    exact h.disj k k' a1 a2 g' b1 b2 h3 h4 c1 c2 hne
  · rw [hsize]; exact h.dlt b o hd


theorem a_mkmap (nn : Nat) (hg : Gd w0 U0 nt ops o gs S) (hd : o.dst = some d) (hn : Nat.blt d nt = true) (h5 : Nat.blt d 100000 = true) {t : TypeId} (ho : o.op = .makeMap t none) (hn2 : (Nat.ble 200000 nn && Nat.blt nn 400000) = true) : AOp P w0 U0 nt ops o gs [(nn, [])] S [(d, .mref nn), (nn, .mp [])] := by
  intro s hs hN a w ⟨D, hv, h⟩ Q K hK
  rw [if_pos (hg s hs a w D hv h)]
  have hrn := rnB hn2
  have he : (execOp a.eval o).run P w = .ok (.value (.map (some w.heap.size))) (w.alloc (.map #[] 0)) := by
    simp [execOp, ho, Instr.makeMap, run_newObj_alloc]
  unfold Oper.wp
  rw [he, Oper.upon_value, hd]
  have hb' : Below w.heap.size w (w.alloc (.map #[] 0)) := (Below.refl _ _).alloc (Nat.le_refl _) _
  have hG := h.newrow (X := fun _ => False) (avn := .mp []) (v' := .map (some w.heap.size)) (D' := D) hrn (hN (nn, []) (by simp)).nr (by simp) ((BelowX.refl _ w).step hb') (fun b hb => hb.elim) (fun g hg => by
      have hg : some w.heap.size = some g := hg
      cases hg
      refine ⟨.inr (Nat.le_refl _), by simp, fun o _ hd => ?_⟩
      have := h.dlt _ _ hd
      omega) (fun b o hd => .inl hd) (fun b o hd => Nat.lt_of_lt_of_le (h.dlt _ _ hd) hb'.size) (us_keep h.dlt hb' fun _ _ h => h) (fun hv lv => ⟨w.heap.size, #[], 0, rfl, alloc_new _ _, rfl, by simp, by simp⟩)
  refine hK _ _ ⟨_, _, hG.put (bL hn) (bL h5) ⟨RW.rn hrn, ?_, rfl⟩⟩
  simp

def IntKeys (k : IntKind) (l : List CV) : Prop := ∀ r ∈ l, ∃ i c, r = .row [.sc (.int k i), c]
def lookR (k : IntKind) (i : Int) : List CV → Option CV
  | [] => none
  | ⟨_, _, [⟨_, .int k' j, _⟩, c]⟩ :: l => if k' = k ∧ j = i then some c else lookR k i l
  | _ :: l => lookR k i l
theorem lookR_row {k : IntKind} {i j : Int} {c : CV} {l : List CV} : lookR k i (.row [.sc (.int k j), c] :: l) = if j = i then some c else lookR k i l := by
  rw [lookR]; simp
theorem find_spec {U : Nat → Nat → Prop} {k : IntKind} {i : Int} : ∀ {l : List CV} {es : List MapEntry} (n : Nat), Ents U w l es → IntKeys k l →
    (Instr.findNow (.int k) (.int k i) es n = some none ∧ lookR k i l = none) ∨ ∃ j e c, Instr.findNow (.int k) (.int k i) es n = some (some (n + j, e.val)) ∧ es[j]? = some e ∧ l[j]? = some (.row [.sc (.int k i), c]) ∧ VRep U w c e.val ∧ e.key = .int k i ∧ lookR k i l = some c
  | [], es, n, h, _ => by have h : es = [] := h; subst h; exact .inl ⟨rfl, rfl⟩
  | r :: l, es, n, ⟨e, es', h1, ⟨k1, c1, g2, g3, g4, g5⟩, h3⟩, hk => by
    obtain ⟨j0, c0, e1⟩ := hk r (by simp)
    rw [e1] at g2
    injection g2 with _ _ g6
    injection g6 with g6 g7
    injection g7 with g7 _
    subst g7
    have hkey : e.key = .int k j0 := by rw [g4, ← g6]
    subst h1
    rw [e1, lookR_row]
    by_cases hj : j0 = i
    · subst hj
      right
      refine ⟨0, e, c0, ?_, rfl, rfl, g5, hkey, by rw [if_pos rfl]⟩
      simp [Instr.findNow, Instr.sameNow, hkey]
    · rw [if_neg hj]
      have hs : Instr.sameNow (.int k) (.int k i) e.key = some false := by
        rw [hkey]
        simp [Instr.sameNow]
        exact fun h => hj h.symm
      rcases find_spec (n + 1) h3 (fun x hx => hk x (List.mem_cons_of_mem _ hx)) with ⟨f1, f2⟩ | ⟨j, e', c, f1, f2, f3, f4, f5, f6⟩
      · left; exact ⟨by simp [Instr.findNow, hs, f1], f2⟩
      · right
        refine ⟨j + 1, e', c, ?_, by simpa using f2, by simpa using f3, f4, f5, f6⟩
        simp [Instr.findNow, hs, f1]
        omega

theorem aNc (hg : Gd w0 U0 nt ops o gs S) (hd : o.dst = some d) (hn : Nat.blt d nt = true) (h5 : Nat.blt d 100000 = true) {x : Operand} {n q : Nat} {p : List Nat} {c : CV} (ho : o.op = .nilCheck x) (hx : ev S x = some ⟨2, c, n, q, p⟩) : AOp P w0 U0 nt ops o (gs ++ rd x) [] S [(d, ⟨2, c, n, q, p⟩)] :=
  aop_val hg hd hn h5 (fun k hk => List.mem_append_left _ hk) fun s hs a w D hv hm => by
    obtain ⟨hbn, h1⟩ : BN n ∧ a.eval x = .pointer (some ⟨blkOf (hv (100000 + n)), q, none⟩) := ev_rep hm (fun k hk => hs k (List.mem_append_right _ hk)) hx
    refine ⟨.pointer (some ⟨blkOf (hv (100000 + n)), q, none⟩), ?_, hbn, rfl⟩
    generalize a.eval = ρ at h1 ⊢
    simp [execOp, ho, h1]

def putR (k : IntKind) (i : Int) (c : CV) : List CV → List CV
  | [] => [.row [.sc (.int k i), c]]
  | r :: l => match r with
    | ⟨_, _, [⟨_, .int k' j, _⟩, _]⟩ => if k' = k ∧ j = i then .row [.sc (.int k i), c] :: l else r :: putR k i c l
    | _ => r :: putR k i c l
theorem putR_row {k : IntKind} {i j : Int} {c c' : CV} {l : List CV} : putR k i c (.row [.sc (.int k j), c'] :: l) = if j = i then .row [.sc (.int k i), c] :: l else .row [.sc (.int k j), c'] :: putR k i c l := by
  rw [putR]; simp
theorem putR_spec {k : IntKind} {i : Int} (c : CV) : ∀ {l : List CV}, IntKeys k l → (lookR k i l = none → putR k i c l = l ++ [.row [.sc (.int k i), c]]) ∧ ∀ j c', l[j]? = some (.row [.sc (.int k i), c']) → (∀ j' c'', j' < j → l[j']? ≠ some (.row [.sc (.int k i), c''])) → putR k i c l = l.set j (.row [.sc (.int k i), c])
  | [], _ => ⟨fun _ => rfl, fun j c' h => by simp at h⟩
  | r :: l, hk => by
    obtain ⟨j0, c0, rfl⟩ := hk r (by simp)
    obtain ⟨ih1, ih2⟩ := putR_spec c (l := l) (fun x hx => hk x (List.mem_cons_of_mem _ hx))
    rw [putR_row, lookR_row]
    by_cases hj : j0 = i
    · subst hj
      rw [if_pos rfl, if_pos rfl]
      refine ⟨(fun h => by cases h), fun j c' h hf => ?_⟩
      cases j with
      | zero => rfl
      | succ j => exact absurd rfl (hf 0 c0 (by omega))
    · rw [if_neg hj, if_neg hj]
      refine ⟨fun h => by rw [ih1 h]; rfl, fun j c' h hf => ?_⟩
      cases j with
      | zero =>
        simp at h
        exact absurd h.1 hj
      | succ j =>
        rw [ih2 j c' (by simpa using h) fun j' c'' hlt => by have := hf (j' + 1) c'' (by omega); simpa using this]
        rfl
theorem find_first {U : Nat → Nat → Prop} {k : IntKind} {i : Int} : ∀ {l : List CV} {es : List MapEntry} (n : Nat) {j : Nat} {v : Value}, Ents U w l es → IntKeys k l → Instr.findNow (.int k) (.int k i) es n = some (some (n + j, v)) → ∀ j' c'', j' < j → l[j']? ≠ some (.row [.sc (.int k i), c''])
  | [], es, n, j, v, h, _, hf => by have h : es = [] := h; subst h; cases hf
  | r :: l, es, n, j, v, ⟨e, es', h1, ⟨k1, c1, g2, g3, g4, g5⟩, h3⟩, hk, hf => by
    obtain ⟨j0, c0, e1⟩ := hk r (by simp)
    rw [e1] at g2
    injection g2 with _ _ g6
    injection g6 with g6 g7
    have hkey : e.key = .int k j0 := by rw [g4, ← g6]
    subst h1
    intro j' c'' hlt hr
    by_cases hj : j0 = i
    · subst hj
      simp [Instr.findNow, Instr.sameNow, hkey] at hf
      omega
    · have hs : Instr.sameNow (.int k) (.int k i) e.key = some false := by
        rw [hkey]
        simp [Instr.sameNow]
        exact fun h => hj h.symm
      simp [Instr.findNow, hs] at hf
      cases j' with
      | zero =>
        rw [e1] at hr
        simp at hr
        exact hj hr.1
      | succ j' =>
        obtain ⟨j2, rfl⟩ : ∃ j2, j = j2 + 1 := ⟨j - 1, by omega⟩
        exact find_first (n + 1) (j := j2) h3 (fun x hx => hk x (List.mem_cons_of_mem _ hx)) (by rw [hf]; congr 3; omega) j' c'' (by omega) (by simpa using hr)
theorem ents_set {U : Nat → Nat → Prop} {r : CV} {e' : MapEntry} : ∀ {l : List CV} {es : List MapEntry} {j : Nat}, Ents U w l es → Ent U w r e' → Ents U w (l.set j r) (es.set j e')
  | [], es, j, h, _ => by have h : es = [] := h; subst h; exact rfl
  | x :: l, es, 0, ⟨e, es', h1, h2, h3⟩, hr => by rw [h1]; exact ⟨e', es', rfl, hr, h3⟩
  | x :: l, es, j + 1, ⟨e, es', h1, h2, h3⟩, hr => by rw [h1]; exact ⟨e, es'.set j e', rfl, h2, ents_set h3 hr⟩
theorem ents_snoc {U : Nat → Nat → Prop} {r : CV} {e' : MapEntry} : ∀ {l : List CV} {es : List MapEntry}, Ents U w l es → Ent U w r e' → Ents U w (l ++ [r]) (es ++ [e'])
  | [], es, h, hr => by have h : es = [] := h; subst h; exact ⟨e', [], rfl, hr, rfl⟩
  | x :: l, es, ⟨e, es', h1, h2, h3⟩, hr => by rw [h1]; exact ⟨e, es' ++ [e'], rfl, h2, ents_snoc h3 hr⟩

theorem a_mapup (hg : Gd w0 U0 nt ops o gs S) (hd : o.dst = none) {x y z : Operand} {t kt et : TypeId} {k : IntKind} {i : Int} {n : Nat} {l : List CV} {c : CV} {n' q' p' n2 q2 p2} (ho : o.op = .mapUpdate t x y z) (hu : P.underlying t = some (.map kt et)) (huk : P.underlying kt = some (.int k)) (hx : ev S x = some (.mref n)) (hy : ev S y = some ⟨0, .sc (.int k i), n', q', p'⟩) (hz : ev S z = some ⟨0, c, n2, q2, p2⟩) (hm' : S n = some (.mp l)) (hik : IntKeys k l) : AOp P w0 U0 nt ops o (gs ++ (rd x ++ (rd y ++ (rd z ++ [n])))) [] S [(n, .mp (putR k i c l))] := by
  intro s hs hN a w ⟨D, hv, h⟩ Q K hK
  rw [if_pos (hg s (fun k hk => hs k (List.mem_append_left _ hk)) a w D hv h)]
  have hm := (hs n (by simp)).trans hm'
  obtain ⟨hrn, h1, _⟩ : RN n ∧ a.eval x = hv n ∧ (a.eval x).oneCell' = true := ev_rep h (fun k hk => hs k (List.mem_append_right _ (List.mem_append_left _ hk))) hx
  have e2 := ev_sc h (fun k hk => hs k (List.mem_append_right _ (List.mem_append_right _ (List.mem_append_left _ hk)))) hy
  have e3 := ev_val h (fun k hk => hs k (List.mem_append_right _ (List.mem_append_right _ (List.mem_append_right _ (List.mem_append_left _ hk))))) hz
  have hok : oKey n := by unfold RN at hrn; unfold oKey; omega
  obtain ⟨g, es, clock, g1, g2, g3, g4, g5⟩ : ∃ g es clock, hv n = .map (some g) ∧ w.heap[g]? = some (.map es clock) ∧ Ents (Us w0 U0 D) w l es.toList ∧ (∀ e ∈ es, e.born < clock) ∧ (es.toList.map (fun e : MapEntry => e.born)).Nodup := h.obj n _ hm hok
  have hck := run_checkKey (P := P) (w := w) huk (k := .int k i) rfl false 9999
  have hge := Go.MapKept.run_getObj_map (P := P) g2
  obtain ⟨p1, p2'⟩ := putR_spec (i := i) c hik
  have fin : ∀ (es' : Array MapEntry) (clock' : Nat), (execOp a.eval o).run P w = .ok .skip { w with heap := w.heap.setIfInBounds g (.map es' clock') } → Ents (Us w0 U0 D) w (putR k i c l) es'.toList → (∀ e ∈ es', e.born < clock') → (es'.toList.map (fun e : MapEntry => e.born)).Nodup → o.wp P a w K Q := fun es' clock' he k1 k2 k3 => by
    obtain ⟨q1, q2⟩ := heap_set (o' := Obj.map es' clock') g2
    unfold Oper.wp
    rw [he, Oper.upon_skip, hd]
    refine hK _ _ ⟨_, _, h.upd (av := .mp (putR k i c l)) (g := g) hok hm (by simp) (by simp) rfl (fun g' hn o _ => hn o (by simp)) (by simp) (by rw [g1]; rfl) rfl rfl rfl (by simp) q2 fun hkp => ?_⟩
    exact ⟨g, es', clock', g1, q1, k1.keep hkp, k2, k3⟩
  rcases find_spec 0 g3 hik (i := i) with ⟨f1, f2⟩ | ⟨j, e, c', f1, f2, f3, f4, f5, f6⟩
  · have hfk := run_findKey (P := P) (w := w) huk f1
    refine fin (es.push { key := .int k i, val := a.eval z, born := clock }) (clock + 1) ?_ ?_ ?_ ?_
    · rw [g1] at h1
      have hso := run_setObj_map (P := P) (Obj.map (es.push { key := .int k i, val := a.eval z, born := clock }) (clock + 1)) g2
      generalize a.eval = ρ at h1 e2 hso ⊢
      simp [execOp, ho, Instr.mapUpdate, run_underlying hu, h1, e2, hge, hck, hfk, hso]
    · rw [p1 f2, Array.toList_push]
      exact ents_snoc g3 ⟨.sc (.int k i), c, rfl, rfl, rfl, e3⟩
    · intro e he
      rcases Array.mem_push.1 he with he | rfl
      · have := g4 e he; omega
      · exact Nat.lt_succ_self _
    · rw [Array.toList_push, List.map_append, List.nodup_append]
      refine ⟨g5, by simp, fun a1 h1 b1 h2 => ?_⟩
      simp at h1 h2
      obtain ⟨e, he, rfl⟩ := h1
      have := g4 e he
      omega
  · have hfk := run_findKey (P := P) (w := w) huk f1
    rw [Nat.zero_add] at hfk
    have hjl : j < es.size := by
      have := (List.getElem?_eq_some_iff.1 f2).1
      simpa using this
    have hej : es[j]? = some e := by rw [← Array.getElem?_toList]; exact f2
    have hmod : (es.modify j fun e => { e with key := .int k i, val := a.eval z }).toList = es.toList.set j { e with key := .int k i, val := a.eval z } := by
      rw [Array.toList_modify]
      apply List.ext_getElem?
      intro q
      rw [List.getElem?_modify, List.getElem?_set]
      by_cases hq : j = q
      · subst hq
        have : es[j] = e := (Array.getElem?_eq_some_iff.1 hej).2
        simp [hjl, this]
      · simp [hq]
    have hbr : (es.modify j fun e => { e with key := .int k i, val := a.eval z }).toList.map (fun e : MapEntry => e.born) = es.toList.map (fun e : MapEntry => e.born) := by
      rw [hmod, List.map_set]
      apply List.ext_getElem?
      intro q
      rw [List.getElem?_set]
      by_cases hq : j = q
      · subst hq
        rw [if_pos rfl, if_pos (by simpa using hjl), List.getElem?_map, f2]
        rfl
      · rw [if_neg hq]
    refine fin (es.modify j fun e => { e with key := .int k i, val := a.eval z }) clock ?_ ?_ ?_ ?_
    · rw [g1] at h1
      have hso := run_setObj_map (P := P) (Obj.map (es.modify j fun e => { e with key := .int k i, val := a.eval z }) clock) g2
      have hst : (Instr.keyThatStays (.int k i) (.int k i)).run P w = .ok (.int k i) w := by simp [Instr.keyThatStays, Instr.sameBits]
      generalize a.eval = ρ at h1 e2 hso ⊢
      simp [execOp, ho, Instr.mapUpdate, run_underlying hu, h1, e2, hge, hck, hfk, hej, f5, hst, hso]
    · rw [hmod, p2' j c' f3 (find_first 0 (j := j) g3 hik f1)]
      exact ents_set g3 ⟨.sc (.int k i), c, rfl, rfl, rfl, e3⟩
    · intro e' he
      have h6 : e'.born ∈ (es.modify j fun e => { e with key := .int k i, val := a.eval z }).toList.map (fun e : MapEntry => e.born) := List.mem_map.2 ⟨e', Array.mem_toList_iff.2 he, rfl⟩
      rw [hbr] at h6
      obtain ⟨e4, h7, h8⟩ := List.mem_map.1 h6
      rw [← h8]
      exact g4 e4 (by simpa using h7)
    · rw [hbr]; exact g5
end
end Go.Proofs.Ytglbohajmccehaa
namespace Go.Proofs.Ytglbohajmccehaa
open Go.RowKit
set_option linter.unusedVariables false
set_option linter.unusedSimpArgs false
section
variable {P : Program} {w0 : World} {U0 : UX} {nt : Nat} {ops : Array Oper} {o : Oper} {S : Nat → Option AV} {gs : List Nat} {d : Nat} {s : AS} {a : Act} {w : World} {D : Nat → Nat → Prop} {hv : Nat → Value}
theorem run_eqmap {t k e : TypeId} (hu : P.underlying t = some (.map k e)) (w : World) : (Op.equal t (.map none) (.map none)).run P w = .ok true w := by
  unfold Op.equal
  rw [show Op.maxDepth = 9999 + 1 from rfl, Op.equalIn]
  simp [run_underlying hu]
theorem made_flat (z : List Value) (hz : 0 < z.length) (n : Nat) : (madeCells z.toArray (n * z.length)).toList = (List.replicate n z).flatten := by
  apply List.ext_getElem?
  intro k
  rw [flat_const hz _ (fun v hv => by rw [List.eq_of_mem_replicate hv])]
  have hlen : (madeCells z.toArray (n * z.length)).toList.length = n * z.length := by simp [size_madeCells]
  rcases Nat.lt_or_ge k (n * z.length) with h | h
  · have hd : k / z.length < n := by rw [Nat.div_lt_iff_lt_mul hz]; exact h
    have hm : k % z.length < z.length := Nat.mod_lt _ hz
    rw [List.getElem?_replicate, if_pos hd]
    simp only [Option.bind_some]
    rw [List.getElem?_eq_getElem hm]
    simp [madeCells, h, hm]
  · rw [List.getElem?_eq_none (by omega), List.getElem?_replicate, if_neg]
    · rfl
    · rw [Nat.not_lt, Nat.le_div_iff_mul_le hz]; exact h

theorem a_mkM (nn : Nat) (hg : Gd w0 U0 nt ops o gs S) (hd : o.dst = some d) (hn : Nat.blt d nt = true) (h5 : Nat.blt d 100000 = true) {x y : Operand} {t e size bytes k : Nat} {z : Value} {zc : CV} {i1 i2 : Int} {k1 k2 : IntKind} {n1 q1 p1 n2 q2 p2} (ho : o.op = .makeSlice t x y) (ht : P.underlying t = some (.slice e)) (hi : (P.info? e).map (fun i => (i.zero, i.size, i.bytes)) = some (some z, size, bytes)) (hzc : zeroT P e = some zc) (hzs : Nat.beq z.cells.size size = true) (hzz : zc.size = size) (hsz : Nat.blt 0 size = true) (hbt : Nat.ble bytes 1000 = true)
    (hx : ev S x = some ⟨0, .sc (.int k1 i1), n1, q1, p1⟩) (hy : ev S y = some ⟨0, .sc (.int k2 i2), n2, q2, p2⟩) (hn2 : (Nat.ble 200000 nn && Nat.blt nn 400000) = true) (h1 : i1 = (k : Int)) (h2 : i2 = (k : Int)) (hs1 : Nat.ble size 160 = true) (hbd : k ≤ 100000) :
    AOp P w0 U0 nt ops o (gs ++ (rd x ++ rd y)) [(nn, [])] S [(d, .sl nn 0 k size), (nn, .mrow e size (List.replicate k zc))] := by
  intro s hs hN a w ⟨D, hv, h⟩ Q K hK
  rw [if_pos (hg s (fun k hk => hs k (List.mem_append_left _ hk)) a w D hv h)]
  have e1 := ev_sc h (fun k hk => hs k (List.mem_append_right _ (List.mem_append_left _ hk))) hx
  have e2 := ev_sc h (fun k hk => hs k (List.mem_append_right _ (List.mem_append_right _ hk))) hy
  subst h1
  subst h2
  obtain ⟨i, hi1, hi2, hi3, hi4⟩ := info_parts hi
  have hsz := bL hsz
  have hbt := Nat.le_of_ble_eq_true hbt
  have hzs := Nat.eq_of_beq_eq_true hzs
  have hmul : bytes * k ≤ 1000 * 100000 := Nat.mul_le_mul hbt hbd
  have hk : k * size ≤ 100000 * 160 := Nat.mul_le_mul hbd (Nat.le_of_ble_eq_true hs1)
  obtain ⟨w', r1, r2, r3⟩ := run_makeSlice_full (P := P) (w := w) w.heap.size t e i z size ht hi1 hi2 hi3 k1 k2 k (by omega) (by rw [hi4]; omega) (by unfold maxLen; omega) (Nat.le_refl _)
  have hrn2 := rnB hn2
  obtain ⟨it, z', f1, f2, f3⟩ := zeroT_spec hzc
  rw [hi1] at f1
  cases f1
  rw [hi2] at f2
  cases f2
  have hmf : (madeCells z.cells (k * size)).toList = (List.replicate k z.cells.toList).flatten := by
    have := made_flat z.cells.toList (by simpa [hzs] using hsz) k
    simpa [hzs] using this
  rw [hmf] at r2
  have hkp : ∀ b o u, Us w0 U0 D b o → w.cell? ⟨b, o, none⟩ = some u → Us w0 U0 D b o ∧ w'.cell? ⟨b, o, none⟩ = some u := fun b o u hu hc => by
    refine ⟨hu, ?_⟩
    have hlt : b < w.heap.size := World.block_lt_of_cell? w _ hc
    rw [World.cell?_of_block (w := w) (r3.block b hlt (by simp))]
    exact hc
  have hG := h.newrow (avn := .mrow e size (List.replicate k zc)) (v' := .slice (some ⟨w.heap.size, 0, none⟩) k k) (D' := D) (X := fun _ => False) (n := nn) hrn2 (hN (nn, []) (by simp)).nr (by simp) ⟨r3.os, r3.tape, r3.output, r3.size, fun b hb hx => r3.block b hb (by simp)⟩ (fun b hb => hb.elim) (fun g hg => by
      have hg : (Value.slice (some ⟨w.heap.size, 0, none⟩) k k).ownBlock = some g := hg
      refine ⟨.inr (r2.lt g hg).1, (r2.lt g hg).2, fun o _ hd => ?_⟩
      have := (r2.lt g hg).1
      have := h.dlt _ _ hd
      omega) (fun b o hd => .inl hd) (fun b o hd => Nat.lt_of_lt_of_le (h.dlt _ _ hd) r3.size) hkp (fun hv lv => by
      refine ⟨(List.replicate k z.cells.toList).flatten, ?_, hsz, fun c hc => ?_, sq_repl (f3 _ _) k⟩
      · show w'.ownsRow 0 e size _ (List.replicate k zc).length _
        rw [List.length_replicate]
        exact ownsRow_mono r2 (Nat.zero_le _)
      · rw [List.eq_of_mem_replicate hc]; exact hzz)
  have he : (execOp a.eval o).run P w = .ok (.value (.slice (some ⟨w.heap.size, 0, none⟩) k k)) w' := by
    generalize a.eval = ρ at e1 e2 ⊢
    simp [execOp, ho, e1, e2, r1]
  unfold Oper.wp
  rw [he, Oper.upon_value, hd]
  refine hK _ _ ⟨_, _, hG.put (bL hn) (bL h5) ⟨RW.rn hrn2, ?_⟩⟩
  show SlV ((fun x => if x = nn then Value.slice (some ⟨w.heap.size, 0, none⟩) k k else hv x) nn) 0 k size _
  simp only [if_true]
  exact slV_all rfl (Nat.le_refl _) (.inr ⟨_, rfl⟩)
end
section
variable {P : Program} {w0 : World} {U0 : UX} {nt : Nat} {ops : Array Oper} {o : Oper} {S : Nat → Option AV} {gs : List Nat} {d : Nat} {s : AS} {a : Act} {w : World} {D : Nat → Nat → Prop} {hv : Nat → Value}

theorem a_allocA (sz : List Nat) (hg : Gd w0 U0 nt ops o gs S) (hd : o.dst = some d) (hn : Nat.blt d nt = true) (h5 : Nat.blt d 100000 = true) {ty : TypeId} {it : TypeInfo} {cs : Array Value} {zs : List CV} (ho : o.op = .alloc ty) (hi : P.info? ty = some it) (hz : it.zero = some (.agg cs)) (h0 : zsO sz cs.toList = some zs) : AOp P w0 U0 nt ops o gs [(d, [])] S [(d, .bp d 0 []), (100000 + d, .bx (.row zs))] := by
  intro s hs hN a w ⟨D, hv, h⟩ Q K hK
  rw [if_pos (hg s hs a w D hv h)]
  obtain ⟨segs, e1, e2, e3, e4, e5⟩ := zsO_spec (U := Us w0 U0 D) (w := w) h0
  have hrep : Rep (Us w0 U0 D) w (.row zs) cs.toList := by
    rw [rep_row, ← e1]
    exact sq_of_segs e4 (fun i c hi => by obtain ⟨seg, f1, f2, _⟩ := e5 i c hi; exact ⟨seg, f1, f2⟩)
  have he : (execOp a.eval o).run P w = .ok (.value (.pointer (some ⟨w.heap.size, 0, none⟩))) (w.alloc (.cells cs ty)) := by
    simp [execOp, ho, Instr.alloc, zeroValue, typeInfo, hi, hz, run_newVar, Value.cells]
  unfold Oper.wp
  rw [he, Oper.upon_value, hd]
  have := h.newbox (d := d) (av := .bx (.row zs)) (hN (d, []) (by simp)).nr (bL hn) (bL h5) (.inl rfl) ty (fun _ => hrep) (fun _ hl => absurd hl not_live0)
  rw [Array.toArray_toList] at this
  exact hK _ _ ⟨_, _, this⟩

theorem a_buildA (sz : List Nat) (hg : Gd w0 U0 nt ops o gs S) (hd : o.dst = some d) (hn : Nat.blt d nt = true) (h5 : Nat.blt d 100000 = true) {t e : TypeId} {m z : Nat} {parts : Array (Nat × Operand)} {it ie : TypeInfo} {cs : Array Value} {zs r : List CV} (ho : o.op = .build t parts) (hu : P.underlying t = some (.array m e)) (hi : P.info? t = some it) (hie : P.info? e = some ie) (hz : it.zero = some (.agg cs)) (hez : ie.size = z) (hsz : sz = List.replicate m z) (h0 : zsO sz cs.toList = some zs) (hr : setsO S parts.toList zs = some r) :
    AOp P w0 U0 nt ops o (gs ++ rds parts.toList) [] S [(d, .val (.row r))] :=
  aop_val hg hd hn h5 (fun k hk => List.mem_append_left _ hk) fun s hs a w D hv hm => by
    obtain ⟨segs, e1, e2, e3, e4, e5⟩ := zsO_spec (U := Us w0 U0 D) (w := w) h0
    have hlen : segs.map List.length = zs.map CV.size := by rw [e2, e3]
    obtain ⟨g1, g2⟩ := setsO_spec (U := Us w0 U0 D) (w := w) (ρ := a.eval) (segs := segs) hr (fun x hx c n q p hev => ev_val hm (fun k hk => hs k (List.mem_append_right _ (mem_rds hx k hk))) hev) e4 hlen (fun i c hi => by obtain ⟨seg, f1, f2, _⟩ := e5 i c hi; exact ⟨seg, f1, f2⟩)
    have hfill := fill_segs (place := fun i => some (i * ie.size, ie.size)) sz (fun i z' hz' => by
      rw [hsz, List.getElem?_replicate] at hz'
      split at hz'
      · rename_i him
        cases hz'
        rw [hsz, List.take_replicate, List.sum_replicate_nat, hez, Nat.min_eq_left (Nat.le_of_lt him)]
      · cases hz') (parts.toList.map fun x => (x.1, a.eval x.2)) segs cs e1.symm e2 (fun x hx => by rw [← e3]; exact g1 x hx)
    refine ⟨.agg (setAll segs (parts.toList.map fun x => (x.1, a.eval x.2))).flatten.toArray, ?_, avrep_val (vrep_row.2 ⟨_, rfl, g2⟩)⟩
    have hb : P.built t (parts.map fun x => (x.1, a.eval x.2)).toList = some (setAll segs (parts.toList.map fun x => (x.1, a.eval x.2))).flatten.toArray := by
      unfold Program.built
      rw [hi, hu]
      simp only [hz, hie]
      rw [Array.toList_map]
      exact hfill
    have := run_build w t _ _ hb
    generalize a.eval = ρ at this ⊢
    simp [execOp, ho, this]

theorem a_idxA (j : Nat) (hg : Gd w0 U0 nt ops o gs S) (hd : o.dst = some d) (hn : Nat.blt d nt = true) (h5 : Nat.blt d 100000 = true) {x y : Operand} {ty e : TypeId} {m z n q : Nat} {p : List Nat} {k' v' l'} {i : Int} {kd : IntKind} {n2 q2 p2} (ho : o.op = .indexAddr ty x y) (hu : P.underlying ty = some (.array m e)) (hz : (P.info? e).map (·.size) = some z) (hx : ev S x = some ⟨2, ⟨k', v', l'⟩, n, q, p⟩) (hy : ev S y = some ⟨0, .sc (.int kd i), n2, q2, p2⟩) (hi : i = (j : Int)) (hj : Nat.blt j m = true) : AOp P w0 U0 nt ops o (gs ++ (rd x ++ rd y)) [] S [(d, .bp n (q + j * z) (p ++ [j]))] :=
  aop_val hg hd hn h5 (fun k hk => List.mem_append_left _ hk) fun s hs a w D hv hm => by
    obtain ⟨hbn, h1⟩ : BN n ∧ a.eval x = .pointer (some ⟨blkOf (hv (100000 + n)), q, none⟩) := ev_rep hm (fun k hk => hs k (List.mem_append_right _ (List.mem_append_left _ hk))) hx
    have e2 := ev_sc hm (fun k hk => hs k (List.mem_append_right _ (List.mem_append_right _ hk))) hy
    have hsz := run_sizeOf (P := P) (w := w) hz
    have hj := bL hj
    subst hi
    refine ⟨.pointer (some ⟨blkOf (hv (100000 + n)), q + j * z, none⟩), ?_, hbn, rfl⟩
    have hadd := add_at (blkOf (hv (100000 + n))) q (j * z)
    generalize a.eval = ρ at h1 e2 ⊢
    simp [execOp, ho, Instr.indexAt, asIntOf, run_underlying hu, Instr.sureAddr, h1, e2, hj, hsz, hadd]

def noMref (s : AS) (n : Nat) : Bool := s.all fun p => !((Nat.beq p.2.t 15 || Nat.beq p.2.t 19) && Nat.beq p.2.n n)
def SameS (S : Nat → Option AV) (ks : List Nat) : AS → Prop
  | [] => True
  | (k, av) :: l => (hasN ks k = true ∨ S k = some av) ∧ SameS S ks l
theorem SameS.look {ks : List Nat} : ∀ {l : AS}, SameS S ks l → ∀ {k av}, look l k = some av → hasN ks k = false → S k = some av
  | [], _, k, av, h, _ => by cases h
  | (k', av') :: l, ⟨h1, h2⟩, k, av, h, hn => by
    rw [look_cons] at h
    split at h
    · rename_i e
      subst e
      cases h
      rcases h1 with h1 | h1
      · rw [h1] at hn; cases hn
      · exact h1
    · exact SameS.look h2 h hn
end
section
variable {P : Program} {w0 : World} {U0 : UX} {nt : Nat} {ops : Array Oper} {o : Oper} {S : Nat → Option AV} {gs : List Nat} {d : Nat} {s : AS} {a : Act} {w : World} {D : Nat → Nat → Prop} {hv : Nat → Value}
def noL (ds : List Nat) : AS := ds.map fun d => (d, AV.no)
end
section
variable {P : Program} {w0 : World} {U0 : UX} {nt : Nat} {ops : Array Oper} {o : Oper} {S : Nat → Option AV} {gs : List Nat} {d : Nat} {s : AS} {a : Act} {w : World} {D : Nat → Nat → Prop} {hv : Nat → Value}

theorem a_cut3 (i1 i2 i3 : Nat) (hg : Gd w0 U0 nt ops o gs S) (hd : o.dst = some d) (hn : Nat.blt d nt = true) (h5 : Nat.blt d 100000 = true) {x y y2 y3 : Operand} {t e : TypeId} {z : Nat} {k k2 k3 : IntKind} {j1 j2 j3 : Int} {n lo len n1 q1 p1 n2 q2 p2 n3 q3 p3} (ho : o.op = .slice t x (some y) (some y2) (some y3)) (hu : P.underlying t = some (.slice e)) (hi : (P.info? e).map (·.size) = some z) (hx : ev S x = some (.sl n lo len z)) (hy : ev S y = some ⟨0, .sc (.int k j1), n1, q1, p1⟩) (hy2 : ev S y2 = some ⟨0, .sc (.int k2 j2), n2, q2, p2⟩) (hy3 : ev S y3 = some ⟨0, .sc (.int k3 j3), n3, q3, p3⟩) (e1 : j1 = (i1 : Int)) (e2 : j2 = (i2 : Int)) (e3 : j3 = (i3 : Int)) (h12 : i1 ≤ i2) (h23 : i2 ≤ i3) (h3 : i3 ≤ len) :
    AOp P w0 U0 nt ops o (gs ++ (rd x ++ (rd y ++ (rd y2 ++ rd y3)))) [] S [(d, .no)] :=
  aop_val hg hd hn h5 (fun k hk => List.mem_append_left _ hk) fun s hs a w D hv hm => by
    obtain ⟨hrn, ao, m, cap, ao', h1, h2, h3', h4, h6, h7⟩ : RN n ∧ SlV (hv n) lo len z (a.eval x) := ev_rep hm (fun k hk => hs k (List.mem_append_right _ (List.mem_append_left _ hk))) hx
    have f1 := ev_sc hm (fun k hk => hs k (List.mem_append_right _ (List.mem_append_right _ (List.mem_append_left _ hk)))) hy
    have f2 := ev_sc hm (fun k hk => hs k (List.mem_append_right _ (List.mem_append_right _ (List.mem_append_right _ (List.mem_append_left _ hk))))) hy2
    have f3 := ev_sc hm (fun k hk => hs k (List.mem_append_right _ (List.mem_append_right _ (List.mem_append_right _ (List.mem_append_right _ hk))))) hy3
    have hsz := run_sizeOf (P := P) (w := w) hi
    have b3 := run_bound (P := P) (w := w) (k := k3) (j := i3) (y := cap - lo) (code := .slice3Acap) (by omega)
    have b2 := run_bound (P := P) (w := w) (k := k2) (j := i2) (y := i3) (code := .slice3B) h23
    have b1 := run_bound (P := P) (w := w) (k := k) (j := i1) (y := i2) (code := .slice3C) h12
    subst e1 e2 e3
    refine ⟨.slice (if i3 = i1 then ao' else ao'.map (·.add (i1 * z))) (i2 - i1) (i3 - i1), ?_, trivial⟩
    generalize a.eval = ρ at h2 f1 f2 f3 ⊢
    simp [execOp, ho, Instr.sliceAt, Instr.slice, run_underlying hu, h2, f1, f2, f3, Instr.sliceBounds, b1, b2, b3, hsz]

theorem a_cutM (i1 i2 : Nat) (hg : Gd w0 U0 nt ops o gs S) (hd : o.dst = some d) (hn : Nat.blt d nt = true) (h5 : Nat.blt d 100000 = true) {x y y2 : Operand} {t e e' : TypeId} {z : Nat} {l : List CV} {k k2 : IntKind} {j1 j2 : Int} {n len n1 q1 p1 n2 q2 p2} (ho : o.op = .slice t x (some y) (some y2) none) (hu : P.underlying t = some (.slice e)) (hi : (P.info? e).map (·.size) = some z) (hx : ev S x = some (.sl n 0 len z)) (hy : ev S y = some ⟨0, .sc (.int k j1), n1, q1, p1⟩) (hy2 : ev S y2 = some ⟨0, .sc (.int k2 j2), n2, q2, p2⟩) (hm' : S n = some (.mrow e' z l)) (e1 : j1 = (i1 : Int)) (e2 : j2 = (i2 : Int)) (h12 : i1 ≤ i2) (h3 : i2 ≤ l.length) :
    AOp P w0 U0 nt ops o (gs ++ (rd x ++ (rd y ++ (rd y2 ++ [n])))) [] S [(d, .sl n i1 (i2 - i1) z)] :=
  aop_val hg hd hn h5 (fun k hk => List.mem_append_left _ hk) fun s hs a w D hv hm => by
    obtain ⟨hrn, ao, m, cap, ao', h1, h2, h3', h4, h6, h7⟩ : RN n ∧ SlV (hv n) 0 len z (a.eval x) := ev_rep hm (fun k hk => hs k (List.mem_append_right _ (List.mem_append_left _ hk))) hx
    have f1 := ev_sc hm (fun k hk => hs k (List.mem_append_right _ (List.mem_append_right _ (List.mem_append_left _ hk)))) hy
    have f2 := ev_sc hm (fun k hk => hs k (List.mem_append_right _ (List.mem_append_right _ (List.mem_append_right _ (List.mem_append_left _ hk))))) hy2
    obtain ⟨xs, g1, g2, g3, g4⟩ := hm.mrow ((hs n (by simp)).trans hm') hrn
    obtain ⟨ao2, cap2, c1, c2, _⟩ := own_slice g1
    have hcap : l.length ≤ cap := by rw [h1] at c1; injection c1 with _ _ c3; omega
    have hsz := run_sizeOf (P := P) (w := w) hi
    have b2 := run_bound (P := P) (w := w) (k := k2) (j := i2) (y := cap) (code := .sliceAcap) (by omega)
    have b1 := run_bound (P := P) (w := w) (k := k) (j := i1) (y := i2) (code := .sliceB) h12
    subst e1 e2
    have h2 : a.eval x = .slice ao len cap := by rw [h2, h4 rfl]; rfl
    refine ⟨.slice (if cap = i1 then ao else ao.map (·.add (i1 * z))) (i2 - i1) (cap - i1), ?_, hrn, ao, m, cap, _, h1, rfl, by show i1 + (i2 - i1) ≤ cap; omega, fun h8 => ?_, fun h8 => ?_, ?_⟩
    · generalize a.eval = ρ at h2 f1 f2 ⊢
      simp [execOp, ho, Instr.sliceAt, Instr.slice, run_underlying hu, h2, f1, f2, Instr.sliceBounds, b1, b2, hsz]
    · have h8 : i1 = 0 := h8
      subst h8
      split
      · rfl
      · cases ao with
        | none => rfl
        | some ad => simp [Addr.add]
    · have h8 : i1 < cap := h8
      intro g hg'
      rw [if_neg (by omega), hg']
      show some ((⟨g, 0, none⟩ : Addr).add (i1 * z)) = some ⟨g, i1 * z, none⟩
      rw [add_at, Nat.zero_add]
    · split
      · exact Iff.rfl
      · rw [Option.map_eq_none_iff]

theorem a_appI (hg : Gd w0 U0 nt ops o gs S) (hd : o.dst = some d) (hn : Nat.blt d nt = true) (h5 : Nat.blt d 100000 = true) {x y : Operand} {t e size bytes : Nat} {zv : Value} {l : List CV} {n len lo2 len2} (ho : o.op = .call { callee := .builtin .append, args := #[x, y], argTypes := #[t, t] }) (ht : P.underlying t = some (.slice e)) (hi : (P.info? e).map (fun i => (i.zero, i.size, i.bytes)) = some (some zv, size, bytes))
    (hx : ev S x = some (.sl n 0 len size)) (hy : ev S y = some (.sl n lo2 len2 size)) (hm' : S n = some (.mrow e size l)) (hl : len + len2 ≤ l.length) (hl2 : lo2 + len2 ≤ l.length) :
    AOp P w0 U0 nt ops o (gs ++ (rd x ++ (rd y ++ [n]))) [] S [(d, .sl n 0 (len + len2) size), (n, .mrow e size (l.take len ++ ((l.drop lo2).take len2 ++ l.drop (len + len2))))] := by
  intro s hs hN a w ⟨D, hv, h⟩ Q K hK
  rw [if_pos (hg s (fun k hk => hs k (List.mem_append_left _ hk)) a w D hv h)]
  obtain ⟨hrn, ao, m, cap, ao', h1, h2, h3, h4, h6, h7⟩ : RN n ∧ SlV (hv n) 0 len size (a.eval x) := ev_rep h (fun k hk => hs k (List.mem_append_right _ (List.mem_append_left _ hk))) hx
  obtain ⟨_, ao2, m2, cap2, ao2', j1, j2, j3, j4, j6, j7⟩ : RN n ∧ SlV (hv n) lo2 len2 size (a.eval y) := ev_rep h (fun k hk => hs k (List.mem_append_right _ (List.mem_append_right _ (List.mem_append_left _ hk)))) hy
  have h2 : a.eval x = .slice ao len cap := by rw [h2, h4 rfl]; rfl
  obtain ⟨i, hi1, hi2, hi3, hi4⟩ := info_parts hi
  have hok : oKey n := by unfold RN at hrn; unfold oKey; omega
  have hm := (hs n (by simp)).trans hm'
  obtain ⟨xs, g1, g2, g3, g4⟩ := h.mrow hm hrn
  obtain ⟨ao3, cap3, c1, c2, _⟩ := own_slice g1
  have hcl : l.length ≤ cap := by rw [h1] at c1; injection c1 with _ _ c3; omega
  have hv2 : SlV (hv n) 0 (len + len2) size (.slice ao (len + len2) cap) := ⟨ao, m, cap, ao, h1, rfl, by omega, fun _ => rfl, fun _ g hg' => by rw [hg', Nat.zero_mul], Iff.rfl⟩
  by_cases hz : len2 = 0
  · subst hz
    have he : (execOp a.eval o).run P w = .ok (.value (.slice ao len cap)) w := by
      have hle : len ≤ cap := by omega
      generalize a.eval = ρ at h2 j2 ⊢
      cases ao <;> cases ao2' <;> simp [execOp, ho, resolve, invoke, builtin, h2, j2, Builtin.append_, run_underlying ht, sizeOf, typeInfo, hi1, Builtin.lenOf, Builtin.firstCells, loadCells, loadCellsFrom, storeCells, hle, Result.andThen]
    unfold Oper.wp
    rw [he, Oper.upon_value, hd]
    have hl' : l.take len ++ ((l.drop lo2).take 0 ++ l.drop (len + 0)) = l := by simp
    refine hK _ _ ⟨D, hv, ?_⟩
    rw [hl']
    have hP := h.put (d := d) (av := .sl n 0 (len + 0) size) (v := .slice ao len cap) (bL hn) (bL h5) ⟨hrn, by rw [Nat.add_zero] at hv2 ⊢; exact hv2⟩
    refine hP.congr fun k => ?_
    show look ((d, _) :: (n, AV.mrow e size l) :: s) k = look ((d, _) :: s) k
    rw [look_cons, look_cons, look_cons]
    split
    · rfl
    · split
      · rename_i e; rw [← e]; exact hm.symm
      · rfl
  obtain ⟨g, cap', cur, f1, f2, f3, f4, f6, f7, f8, f9⟩ := own_some g1 (by omega)
  obtain rfl : cap = cap' := by rw [f1] at h1; injection h1 with k1 k2 k3; exact k3.symm
  obtain rfl : ao = some ⟨g, 0, none⟩ := by rw [f1] at h1; injection h1 with k1 k2 k3; exact k1.symm
  obtain rfl : cap = cap2 := by rw [f1] at j1; injection j1 with k1 k2 k3
  obtain rfl : ao2 = some ⟨g, 0, none⟩ := by rw [f1] at j1; injection j1 with k1 k2 k3; exact k1.symm
  have ha : ao2' = some ⟨g, lo2 * size, none⟩ := j6 (by omega) g rfl
  subst ha
  -- the cells that are appended
  have hsplit2 : l = l.take lo2 ++ ((l.drop lo2).take len2 ++ (l.drop lo2).drop len2) := by rw [List.take_append_drop, List.take_append_drop]
  have q4 := g4
  rw [hsplit2, List.map_append, List.map_append] at q4
  obtain ⟨x1, x4, ex1, t1, t2⟩ := sq_split q4
  obtain ⟨zs, x3, ex2, t3, t4⟩ := sq_split t2
  have hx1 : x1.length = lo2 * size := by rw [sq_len (n := CV.size) (fun c _ xs h => h.len) t1, sum_const (fun c hc => g3 c (List.mem_of_mem_take hc)), List.length_take, Nat.min_eq_left (by omega)]
  have hzsl : zs.length = len2 * size := by rw [sq_len (n := CV.size) (fun c _ xs h => h.len) t3, sum_const (fun c hc => g3 c (List.mem_of_mem_drop (List.mem_of_mem_take hc))), List.length_take, List.length_drop, Nat.min_eq_left (by omega)]
  have hone : ∀ v ∈ zs, v.oneCell' = true := rep_one_of t3
  have hxl : xs.length = l.length * size := g1.1
  have hcl2 : len * size + len2 * size ≤ l.length * size := by rw [← Nat.add_mul]; exact Nat.mul_le_mul_right _ hl
  have hcl3 : lo2 * size + len2 * size ≤ l.length * size := by rw [← Nat.add_mul]; exact Nat.mul_le_mul_right _ hl2
  have hcap : l.length * size ≤ cap * size := Nat.mul_le_mul_right _ f3
  have f7 : cur.toList.take (l.length * size) = xs := f7
  have f6 : cur.size = cap * size := f6
  have hnews : ∀ j u, zs[j]? = some u → w.cell? ((⟨g, lo2 * size, none⟩ : Addr).add j) = some u := fun j u hj => by
    have hjl : j < zs.length := by
      rcases Nat.lt_or_ge j zs.length with h | h
      · exact h
      · rw [List.getElem?_eq_none h] at hj; cases hj
    rw [add_at]
    have hc : xs[lo2 * size + j]? = some u := by rw [ex1, ex2, ← hx1, List.getElem?_append_right (by omega), Nat.add_sub_cancel_left, List.getElem?_append_left hjl]; exact hj
    have hown : w.ownsRow 0 e size (.slice (some ⟨g, 0, none⟩) l.length cap) l.length xs := by rw [← f1]; exact g1
    rw [hown.cellAt _ (by omega)]
    exact hc
  have hr := run_append_room (P := P) w t o.type e i ht hi1 g len cap cur f2 ⟨g, lo2 * size, none⟩ len2 (cap - lo2) zs (by rw [hi3]; exact hzsl) hnews hone (by omega) (by rw [hi3, hzsl, f6]; omega)
  rw [hi3] at hr
  have he : (execOp a.eval o).run P w = .ok (.value (.slice (some ⟨g, 0, none⟩) (len + len2) cap)) (w.setRow g (cur.toList.take (len * size) ++ zs ++ cur.toList.drop (len * size + zs.length)).toArray) := by
    generalize a.eval = ρ at h2 j2 ⊢
    simp [execOp, ho, resolve, invoke, builtin, h2, j2, hr, Result.andThen]
  unfold Oper.wp
  rw [he, Oper.upon_value, hd]
  obtain ⟨l', hl'⟩ : ∃ l', l' = l.take len ++ ((l.drop lo2).take len2 ++ l.drop (len + len2)) := ⟨_, rfl⟩
  have hll : l'.length = l.length := by rw [hl']; simp; omega
  refine hK _ _ ?_
  rw [← hl']
  suffices hG : SimG w0 U0 nt ((n, .mrow e size l') :: s) a (w.setRow g (cur.toList.take (len * size) ++ zs ++ cur.toList.drop (len * size + zs.length)).toArray) D hv from ⟨_, _, hG.put (bL hn) (bL h5) ⟨hrn, hv2⟩⟩
  refine h.store (av := .mrow e size l') hok hm (by simp) (by simp) rfl (fun g' hn o _ => hn o (by simp)) (by simp) f9 f2 fun w' hw hkp => ?_
  have hsplit : l = l.take len ++ ((l.drop len).take len2 ++ (l.drop len).drop len2) := by rw [List.take_append_drop, List.take_append_drop]
  have g4' := g4
  rw [hsplit, List.map_append, List.map_append] at g4'
  obtain ⟨y1, r1, e1, s1, s2⟩ := sq_split g4'
  obtain ⟨y2, y3, e2, s3, s4⟩ := sq_split s2
  have hy1 : y1.length = len * size := by rw [sq_len (n := CV.size) (fun c _ xs h => h.len) s1, sum_const (fun c hc => g3 c (List.mem_of_mem_take hc)), List.length_take, Nat.min_eq_left (by omega)]
  have hy2 : y2.length = len2 * size := by rw [sq_len (n := CV.size) (fun c _ xs h => h.len) s3, sum_const (fun c hc => g3 c (List.mem_of_mem_drop (List.mem_of_mem_take hc))), List.length_take, List.length_drop, Nat.min_eq_left (by omega)]
  have hy3 : y1.length + (y2.length + y3.length) = l.length * size := by have := hxl; rw [e1, e2] at this; simpa using this
  have hcur : cur.toList = y1 ++ (y2 ++ (y3 ++ cur.toList.drop (l.length * size))) := by
    conv => lhs; rw [← List.take_append_drop (l.length * size) cur.toList, f7, e1, e2]
    simp
  have hnew : cur.toList.take (len * size) ++ zs ++ cur.toList.drop (len * size + zs.length) = (y1 ++ (zs ++ y3)) ++ cur.toList.drop (l.length * size) := by
    have t1 : cur.toList.take (len * size) = y1 := by rw [hcur, ← hy1]; simp
    have t2 : cur.toList.drop (len * size + zs.length) = y3 ++ cur.toList.drop (l.length * size) := by
      rw [hzsl, ← hy1, ← hy2]
      conv => lhs; rw [hcur]
      rw [← List.append_assoc, List.drop_append_of_le_length (by simp)]
      simp
    rw [t1, t2]
    simp
  rw [hnew] at hw
  refine ⟨y1 ++ (zs ++ y3), ⟨?_, .inr ⟨g, cap, _, ?_, Nat.zero_le _, hw, ?_, f4, ?_, ?_⟩⟩, g2, fun x hx => ?_, ?_⟩
  · show _ = l'.length * size
    rw [hll]
    simp only [List.length_append, hzsl]
    omega
  · show hv n = .slice _ l'.length cap
    rw [hll]; exact f1
  · show l'.length ≤ cap
    rw [hll]; exact f3
  · have := congrArg List.length hcur
    rw [Array.length_toList, f6] at this
    simp only [List.size_toArray, List.length_append, hzsl] at this ⊢
    show _ = cap * size
    omega
  · show List.take (l'.length * size) _ = _
    rw [hll, List.take_append_of_le_length (by simp only [List.length_append, hzsl]; omega), List.take_of_length_le (by simp only [List.length_append, hzsl]; omega)]
  · have hx : x ∈ l' := hx
    rw [hl', List.mem_append, List.mem_append] at hx
    rcases hx with hx | hx | hx
    · exact g3 x (List.mem_of_mem_take hx)
    · exact g3 x (List.mem_of_mem_drop (List.mem_of_mem_take hx))
    · exact g3 x (List.mem_of_mem_drop hx)
  · show Sq (l'.map fun c => Rep (Us w0 U0 D) w' c) _
    rw [hl', List.map_append, List.map_append]
    refine sq_append (Sq.keep hkp s1) (sq_append (Sq.keep hkp t3) ?_)
    rw [← List.drop_drop]
    exact Sq.keep hkp s4
end
end Go.Proofs.Ytglbohajmccehaa
namespace Go.Proofs.Ytglbohajmccehaa
open Go.RowKit
set_option linter.unusedVariables false
set_option linter.unusedSimpArgs false
set_option maxRecDepth 100000

end Go.Proofs.Ytglbohajmccehaa
namespace Go.Proofs.Ytglbohajmccehaa
open Go.RowKit
set_option linter.unusedVariables false
set_option linter.unusedSimpArgs false
def cutV : Value → Nat → Value
  | .slice ao _ cap, len => .slice ao len cap
  | v, _ => v
def AFunH (P : Program) (f : FuncId) (pre : AS) (n1 n2 : Nat) (args : Value → Value → List AV) (r : Value → Value → AV) (post : AS) : Prop :=
  EntF P f ∧ ∀ (U : UX) (w : World) (hv : Nat → Value) (a0 : Act) (vs : List Value), (∀ k v, U.f k = some v → hasN (kO pre) k = true) → SimG w U 0 pre a0 w (fun _ _ => False) hv → AVReps (Us w U (fun _ _ => False)) w hv (LiveN pre) (args (hv n1) (hv n2)) vs →
    Calls P f vs.toArray w fun e w' => ∃ v D' hv' a', e = .returned v ∧ SimG w U 0 post a' w' D' hv' ∧ AVRep (Us w U D') w' hv' (LiveN post) (r (hv n1) (hv n2)) v

section
variable {P : Program} {w0 : World} {U0 : UX} {nt : Nat} {ops : Array Oper} {o : Oper} {S : Nat → Option AV} {gs : List Nat} {d : Nat} {s : AS} {a : Act} {w : World} {D : Nat → Nat → Prop} {hv : Nat → Value}

theorem afunH_of (d1 n1 d2 n2 : Nat) {f : FuncId} {fn : Func} {c : Code} {pre post : AS} {args : Value → Value → List AV} {r : Value → Value → AV} (hf : P.funcs[f]? = some fn) (hn : fn.ntmps = nt) (hname : (fn.name == "runtime.NumGoroutine") = false) (hb : fn.body = some c) (hl : ∀ v1 v2, Nat.ble (args v1 v2).length nt = true) (hdd : (Nat.blt d1 nt && Nat.blt d2 nt) = true) (hnn : (Nat.ble 200000 n1 && Nat.blt n1 450000 && (Nat.ble 200000 n2 && Nat.blt n2 450000)) = true) (hnt : Nat.blt nt 100000 = true) (hpre : (kO pre).all (Nat.ble 100000) = true) (hpost : (kO post).all (Nat.ble 100000) = true)
    (h : ∀ (v1 v2 : Value) (w : World) (U : UX), (∀ k v, U.f k = some v → hasN (kO pre) k = true) → AWp P w U nt c (fun e s' => (e = .normal ∨ e = .ret) ∧ EndO P w U nt fn s' (r v1 v2) post) ((d1, .hdl v1 n1) :: (d2, .hdl v2 n2) :: (argA (args v1 v2) 0 ++ pre))) : AFunH P f pre n1 n2 args r post := by
  refine ⟨ent_of hf hname (by rw [hb]; rfl), fun U w hv a0 vs hU hpS hargs => ?_⟩
  have hlen := hargs.len
  refine calls_of_wp hf hb ?_
  have hle := Nat.le_of_ble_eq_true (hl (hv n1) (hv n2))
  have hnt := bL hnt
  have hlow : ∀ {k av}, look pre k = some av → 100000 ≤ k := fun {k av} h1 => by
    rw [List.all_eq_true] at hpre
    exact Nat.le_of_ble_eq_true (hpre k (mem_keys h1))
  have hlk : ∀ {k}, 100000 ≤ k → look (argA (args (hv n1) (hv n2)) 0 ++ pre) k = look pre k := fun {k} h1 => by
    rw [look_append]
    cases h2 : look (argA (args (hv n1) (hv n2)) 0) k with
    | none => rfl
    | some av =>
      obtain ⟨_, h3⟩ := look_argA h2
      rw [Nat.sub_zero, List.getElem?_eq_none (by omega)] at h3
      cases h3
  have hlive : LiveN (argA (args (hv n1) (hv n2)) 0 ++ pre) = LiveN pre := by
    funext n
    unfold LiveN Live
    apply propext
    constructor
    · rintro (h1 | ⟨e, h1, h2, h3⟩)
      · exact .inl h1
      · rw [hlk (by omega)] at h1; exact .inr ⟨e, h1, h2, h3⟩
    · rintro (h1 | ⟨e, h1, h2, h3⟩)
      · exact .inl h1
      · exact .inr ⟨e, by rw [hlk (by omega)]; exact h1, h2, h3⟩
  have hs0 : SimG w U nt (argA (args (hv n1) (hv n2)) 0 ++ pre) { tmps := vs.toArray ++ Array.replicate (fn.ntmps - vs.toArray.size) undef, defers := [] } w (fun _ _ => False) hv := by
    refine ⟨hpS.below, rfl, by simp [hn]; omega, fun d av h1 h2 => ?_, fun n o av h1 h2 h3 h4 => ?_, fun n o o' av av' h1 h2 => ?_, fun k av h1 h2 => ?_, fun k av g h1 h2 => ?_, fun k k' av av' g h1 h2 h3 h4 => ?_, hpS.fix, fun b o hd => hd.elim⟩
    · rw [look_append] at h1
      cases h3 : look (argA (args (hv n1) (hv n2)) 0) d with
      | none =>
        rw [h3] at h1
        have := hlow h1
        omega
      | some av' =>
        rw [h3] at h1
        cases h1
        obtain ⟨_, h4⟩ := look_argA h3
        rw [Nat.sub_zero] at h4
        obtain ⟨v, h6, h7⟩ := hargs.at h4
        have hdl : d < vs.length := by
          rcases Nat.lt_or_ge d vs.length with h | h
          · exact h
          · rw [List.getElem?_eq_none h] at h6; cases h6
        rw [hlive]
        refine ⟨v, ?_, h7⟩
        rw [Array.getElem?_append_left (by simpa using hdl)]
        simpa using h6
    · rw [hlk (by unfold fKey; omega)] at h1
      rw [hlk (by omega)] at h3
      rw [hlive]
      exact hpS.fld n o av h1 h2 h3 h4
    · rw [hlk (by unfold fKey; omega)] at h1 h2
      exact hpS.fdis n o o' av av' h1 h2
    · rw [hlk h2.1] at h1; rw [hlive]; exact hpS.obj k av h1 h2
    · rw [hlk h2.1] at h1; exact hpS.blk k av g h1 h2
    · rw [hlk h3.1] at h1; rw [hlk h4.1] at h2; exact hpS.disj k k' av av' g h1 h2 h3 h4
  simp only [Bool.and_eq_true] at hdd hnn
  have hk1 : d1 < nt := bL hdd.1
  have hk2 : d2 < nt := bL hdd.2
  have hr1 : RN n1 := ⟨Nat.le_of_ble_eq_true hnn.1.1, bL hnn.1.2⟩
  have hr2 : RN n2 := ⟨Nat.le_of_ble_eq_true hnn.2.1, bL hnn.2.2⟩
  have hs1 := hs0.know (d := d2) (av := .hdl (hv n2) n2) (by omega) (Array.getElem?_eq_getElem (by rw [hs0.size]; exact hk2)) ⟨hr2, rfl⟩
  have hs2 := hs1.know (d := d1) (av := .hdl (hv n1) n1) (by omega) (Array.getElem?_eq_getElem (by rw [hs0.size]; exact hk1)) ⟨hr1, rfl⟩
  have hs : Sim w U nt ((d1, .hdl (hv n1) n1) :: (d2, .hdl (hv n2) n2) :: (argA (args (hv n1) (hv n2)) 0 ++ pre)) { tmps := vs.toArray ++ Array.replicate (fn.ntmps - vs.toArray.size) undef, defers := [] } w := ⟨_, _, hs2⟩
  refine wp_mono ((h (hv n1) (hv n2) w U hU ⟨none, []⟩ _ w hs).wp rfl (fun e a w ⟨s, _, h⟩ => h.df)) ?_
  rintro e a' w' ⟨s', ⟨h1, s2, g1, g2, g3⟩, h3⟩
  obtain ⟨D', hv', h4⟩ := g1 a' w' h3
  obtain ⟨v, h5, h6⟩ := resA_run h4 g2
  have hS := h4.sub g3.sub
  have hlow2 : ∀ {k av}, look post k = some av → 100000 ≤ k := fun {k av} h1 => by
    rw [List.all_eq_true] at hpost
    exact Nat.le_of_ble_eq_true (hpost k (mem_keys h1))
  have hS0 : SimG w U 0 post ⟨#[], []⟩ w' D' hv' := ⟨hS.below, rfl, rfl, fun d av h7 h8 => by have := hlow2 h7; omega, hS.fld, hS.fdis, hS.obj, hS.blk, hS.disj, hS.fix, hS.dlt⟩
  rcases h1 with rfl | rfl
  · exact ⟨h4.dfr, v, h5, v, D', hv', _, rfl, hS0, h6.move (fun _ _ _ h1 h2 => ⟨h1, h2⟩) (fun _ h7 => h7.imp id fun ⟨e, he⟩ => ⟨e, g3.sub _ _ he.1, he.2⟩) fun _ => rfl⟩
  · exact ⟨h4.dfr, v, h5, v, D', hv', _, rfl, hS0, h6.move (fun _ _ _ h1 h2 => ⟨h1, h2⟩) (fun _ h7 => h7.imp id fun ⟨e, he⟩ => ⟨e, g3.sub _ _ he.1, he.2⟩) fun _ => rfl⟩

theorem a_callH (dh1 dh2 : Nat) {f : FuncId} {xs : Array Operand} {ts : Array TypeId} {ar : Value → Value → List AV} {rr : Value → Value → AV} {pre post : AS} {n1 n2 : Nat} {u1 u2 : Value} (hg : Gd w0 U0 nt ops o gs S) (hd : o.dst = some d) (hn : Nat.blt d nt = true) (h5 : Nat.blt d 100000 = true)
    (ho : o.op = .call { callee := .value (.func f), args := xs, argTypes := ts }) (hc : AFunH P f pre n1 n2 ar rr post) (hh1 : S dh1 = some (.hdl u1 n1)) (hh2 : S dh2 = some (.hdl u2 n2)) (hdh : (Nat.blt dh1 100000 && Nat.blt dh2 100000) = true) (hx : evsA S xs.toList = some (ar u1 u2)) (hp : SubS S pre) (hl : pre.all lendB = true) (hq : post.all (leaveB (kO post)) = true) (hks : (kO pre).all (hasN (kO post)) = true) (hr : refB (kO post) (rr u1 u2) = true) (hnb : ∀ k v, U0.f k = some v → hasN (kO post) k = true → hasN (kO pre) k = true) :
    AOp P w0 U0 nt ops o (gs ++ (rdl xs.toList ++ (kO pre ++ [dh1, dh2]))) (newN (kO pre) (kO post) (kO post)) S ((d, rr u1 u2) :: post) := by
  intro s hs hN a w ⟨D, hv, h⟩ Q K hK
  rw [if_pos (hg s (fun k hk => hs k (List.mem_append_left _ hk)) a w D hv h)]
  have hargs := evsA_rep h (fun k hk => hs k (List.mem_append_right _ (List.mem_append_left _ hk))) hx
  have hsub : Sub s pre := fun k av h1 => (hs k (List.mem_append_right _ (List.mem_append_right _ (List.mem_append_left _ (mem_keys h1))))).trans (hp.look h1)
  obtain ⟨V, v1, v2, v3, v4, v5, v6⟩ := h.lend hsub hl
  obtain ⟨h1, h2⟩ := hc
  rw [Bool.and_eq_true] at hdh
  obtain ⟨_, _, hx1⟩ : ∃ v, a.tmps[dh1]? = some v ∧ RN n1 ∧ hv n1 = u1 := h.slot dh1 _ ((hs dh1 (by simp)).trans hh1) (bL hdh.1)
  obtain ⟨_, _, hx2⟩ : ∃ v, a.tmps[dh2]? = some v ∧ RN n2 ∧ hv n2 = u2 := h.slot dh2 _ ((hs dh2 (by simp)).trans hh2) (bL hdh.2)
  have h2 := fun V a0 vs q1 q2 q3 => h2 V w hv a0 vs q1 q2 q3
  rw [hx1.2, hx2.2] at h2
  have hcall := h2 V ⟨#[], []⟩ _ v1 v2 (hargs.imp fun c _ v hcv => hcv.move v6 (fun _ h3 => h3.imp id fun ⟨e, he⟩ => ⟨e, hsub _ _ he.1, he.2⟩) fun _ => rfl)
  have he : (execOp a.eval o).run P w = .ok (.enter f (xs.toList.map a.eval).toArray) w := by
    have hf : a.eval (.func f) = .func (.func f) #[] #[] := rfl
    have hen := h1 (xs.map a.eval) w
    have harr : (xs.toList.map a.eval).toArray = xs.map a.eval := by apply Array.ext'; simp
    rw [harr]
    generalize a.eval = ρ at hf hen ⊢
    simp [execOp, ho, resolve, invoke, Deferred.ofValue, hf, hen]
  unfold Oper.wp
  rw [he, Oper.upon_enter]
  refine hcall.mono ?_
  rintro e w' ⟨v, D', hv', a', rfl, h6, h7⟩
  rw [hd]
  obtain ⟨D2, hv2, h8, h9⟩ := h.back hsub hl hq hks hN hnb v3 v4 v5 v2 h6
  exact hK _ _ ⟨D2, hv2, h8.put (bL hn) (bL h5) (h9.1 (rr u1 u2) v hr h7)⟩

theorem a_bsliceM (nn : Nat) (hg : Gd w0 U0 nt ops o gs S) (hd : o.dst = some d) (hn : Nat.blt d nt = true) (h5 : Nat.blt d 100000 = true) {t e : TypeId} {len : Nat} {parts : Array (Nat × Operand)} {ie : TypeInfo} {z : Value} {cs : List CV} {sz : Nat} (ho : o.op = .buildSlice t len parts) (hu : P.underlying t = some (.slice e)) (hi : P.info? e = some ie) (hsz0 : ie.size = sz) (hz : ie.zero = some z) (hdn : dense parts.toList 0 = true) (hx : evsO S (parts.toList.map (·.2)) = some cs) (hl : Nat.beq cs.length len = true) (hsz : szAll cs sz = true) (hp : Nat.blt 0 (len * sz) = true) (h24 : Nat.ble (len * sz) 16777216 = true) (hn2 : (Nat.ble 200000 nn && Nat.blt nn 400000) = true) :
    AOp P w0 U0 nt ops o (gs ++ rdl (parts.toList.map (·.2))) [(nn, [])] S [(d, .sl nn 0 len sz), (nn, .mrow e sz cs)] := by
  subst hsz0
  intro s hs hN a w ⟨D, hv, h⟩ Q K hK
  rw [if_pos (hg s (fun k hk => hs k (List.mem_append_left _ hk)) a w D hv h)]
  have hvv := evsO_rep h (fun k hk => hs k (List.mem_append_right _ hk)) hx
  rw [List.map_map] at hvv
  have hlen : cs.length = len := Nat.eq_of_beq_eq_true hl
  have hvl := hvv.len
  have hpos := bL hp
  have hs0 : 0 < ie.size := Nat.pos_of_ne_zero fun e => by rw [e] at hpos; simp at hpos
  have hsizes := vreps_size hvv (sZ hsz)
  obtain ⟨vs, hvs⟩ : ∃ vs, vs = parts.toList.map (a.eval ∘ (·.2)) := ⟨_, rfl⟩
  rw [← hvs] at hvv hvl hsizes
  obtain ⟨r, hf, hrs, hrk⟩ := Great.fill_dense hs0 vs 0 ((Array.range (len * ie.size)).map (z.cells[· % z.cells.size]!)) hsizes (by simp; rw [hvl, hlen]; exact Nat.le_refl _)
  have hr : r.toList = (vs.map fun v => v.cells.toList).flatten := by
    apply List.ext_getElem?
    intro k
    rw [flat_const hs0 _ (by intro v hv'; rw [List.mem_map] at hv'; obtain ⟨u, hu, rfl⟩ := hv'; simpa using hsizes u hu)]
    have := hrk k
    rw [← Array.getElem?_toList] at this
    simp only [Nat.zero_mul, Nat.zero_le, true_and, Nat.zero_add] at this
    rw [this]
    by_cases hk : k < vs.length * ie.size
    · rw [if_pos hk]
      simp only [Nat.sub_zero, List.getElem?_map]
      cases vs[k / ie.size]? <;> simp
    · rw [if_neg hk, Array.getElem?_eq_none (by simp; rw [← hlen, ← hvl]; omega)]
      rw [List.getElem?_map, List.getElem?_eq_none (by rw [Nat.le_div_iff_mul_le hs0]; omega)]
      rfl
  have he : (execOp a.eval o).run P w = .ok (.value (.slice (some ⟨w.heap.size, 0, none⟩) len len)) (w.alloc (.cells r e)) := by
    have h24' := Nat.le_of_ble_eq_true h24
    have hparts : (parts.map fun x => (x.1, a.eval x.2)).toList = (vs.zipIdx 0).map fun x => (x.2, x.1) := by
      rw [Array.toList_map, dense_spec hdn a.eval, hvs]
      rfl
    have := run_buildSlice (P := P) w t e len (parts.map fun x => (x.1, a.eval x.2)) r ie z hu hi hz (by omega) (by omega) (by rw [hparts]; exact hf)
    generalize a.eval = ρ at this ⊢
    simp [execOp, ho, this]
  unfold Oper.wp
  rw [he, Oper.upon_value, hd]
  have hrs' : r.size = len * ie.size := by rw [hrs]; simp
  have hlm : len ≤ maxLen := by
    have := Nat.le_of_ble_eq_true h24
    have : len ≤ len * ie.size := Nat.le_mul_of_pos_right _ hs0
    unfold maxLen; omega
  have hrn2 := rnB hn2
  have hown := World.ownsRow_lit (e := e) (size := ie.size) (base := w.heap.size) w r len (Nat.le_refl _) hlm hrs'
  have hkp : ∀ b o u, Us w0 U0 D b o → w.cell? ⟨b, o, none⟩ = some u → Us w0 U0 D b o ∧ (w.alloc (.cells r e)).cell? ⟨b, o, none⟩ = some u := fun b o u hu hc => by
    refine ⟨hu, ?_⟩
    have hlt : b < w.heap.size := World.block_lt_of_cell? w _ hc
    rw [World.cell?_of_block (w := w) ((bA (Below.refl w.heap.size w) (.cells r e)).block b hlt)]
    exact hc
  have hG := h.newrow (avn := .mrow e ie.size cs) (v' := .slice (some ⟨w.heap.size, 0, none⟩) len len) (D' := D) (X := fun _ => False) (n := nn) hrn2 (hN (nn, []) (by simp)).nr (by simp) ⟨(bA (Below.refl w.heap.size w) (.cells r e)).os, (bA (Below.refl w.heap.size w) (.cells r e)).tape, (bA (Below.refl w.heap.size w) (.cells r e)).output, (bA (Below.refl w.heap.size w) (.cells r e)).size, fun b hb hx => (bA (Below.refl w.heap.size w) (.cells r e)).block b hb⟩ (fun b hb => hb.elim) (fun g hg => by
      have hg : (Value.slice (some ⟨w.heap.size, 0, none⟩) len len).ownBlock = some g := hg
      refine ⟨.inr (hown.lt g hg).1, (hown.lt g hg).2, fun o _ hd => ?_⟩
      have := (hown.lt g hg).1
      have := h.dlt _ _ hd
      omega) (fun b o hd => .inl hd) (fun b o hd => Nat.lt_of_lt_of_le (h.dlt _ _ hd) (bA (Below.refl w.heap.size w) (.cells r e)).size) hkp (fun hv lv => by
      refine ⟨r.toList, ?_, hs0, sZ hsz, ?_⟩
      · show (w.alloc (.cells r e)).ownsRow 0 e ie.size _ cs.length _
        rw [hlen]
        exact ownsRow_mono hown (Nat.zero_le _)
      · rw [hr]; exact Sq.keep hkp (sq_of_vreps hvv))
  refine hK _ _ ⟨_, _, hG.put (bL hn) (bL h5) ⟨RW.rn hrn2, ?_⟩⟩
  show SlV ((fun x => if x = nn then Value.slice (some ⟨w.heap.size, 0, none⟩) len len else hv x) nn) 0 len ie.size _
  simp only [if_true]
  exact slV_all rfl (Nat.le_refl _) (.inr ⟨_, rfl⟩)

theorem AWp.hdl {c : Code} {Q : Exit → AS → Prop} (d n : Nat) (hd : Nat.blt d nt = true) (h5 : Nat.blt d 100000 = true) (hn : (Nat.ble 200000 n && Nat.blt n 450000) = true) (h : ∀ v, AWp P w0 U0 nt c Q ((d, .hdl v n) :: s)) : AWp P w0 U0 nt c Q s := by
  intro M a w ⟨D, hv, hs⟩
  have hdn : d < a.tmps.size := by rw [hs.size]; exact bL hd
  exact h (hv n) M a w ⟨D, hv, hs.know (bL h5) (Array.getElem?_eq_getElem hdn) ⟨rnF hn, rfl⟩⟩
theorem wk_slsc (d n dh : Nat) {len z : Nat} {v : Value} (h1 : look s d = some (.sl n 0 len z)) (h2 : look s dh = some (.hdl v n)) (hd : (Nat.blt d 100000 && Nat.blt dh 100000) = true) : Wk w0 U0 nt s ((d, .val (.sc (cutV v len))) :: s) := by
  rintro a w ⟨D, hv, h⟩
  rw [Bool.and_eq_true] at hd
  obtain ⟨u, g1, hrn, ao, m, cap, ao', e1, e2, e3, e4, e5, e6⟩ : ∃ u, a.tmps[d]? = some u ∧ RN n ∧ SlV (hv n) 0 len z u := h.slot d _ h1 (bL hd.1)
  obtain ⟨_, _, _, hx⟩ : ∃ u, a.tmps[dh]? = some u ∧ RN n ∧ hv n = v := h.slot dh _ h2 (bL hd.2)
  have e2 : u = .slice ao len cap := by rw [e2, e4 rfl]; rfl
  refine ⟨D, hv, h.know (bL hd.1) g1 ?_⟩
  rw [← hx, e1]
  show AVRep _ _ _ _ (.val (.sc (.slice ao len cap))) u
  rw [e2]
  exact avrep_sc rfl
theorem wk_scsl (d n dh len : Nat) {e z : Nat} {l : List CV} {v : Value} (h1 : look s d = some (.val (.sc (cutV v len)))) (h2 : look s dh = some (.hdl v n)) (hm : look s n = some (.mrow e z l)) (hd : (Nat.blt d 100000 && Nat.blt dh 100000) = true) (hl : len ≤ l.length) : Wk w0 U0 nt s ((d, .sl n 0 len z) :: s) := by
  rintro a w ⟨D, hv, h⟩
  rw [Bool.and_eq_true] at hd
  obtain ⟨u, g1, g2⟩ := h.slot d _ h1 (bL hd.1)
  obtain ⟨_, _, hrn, hx⟩ : ∃ u, a.tmps[dh]? = some u ∧ RN n ∧ hv n = v := h.slot dh _ h2 (bL hd.2)
  obtain ⟨xs, f1, _⟩ := h.mrow hm hrn
  obtain ⟨ao, cap, e1, e2, _⟩ := own_slice f1
  have hu : u = cutV v len := (vrep_sc.1 g2.1).1
  refine ⟨D, hv, h.know (bL hd.1) g1 ⟨hrn, ?_⟩⟩
  show SlV (hv n) 0 len z u
  rw [hu, ← hx, e1]
  exact ⟨ao, l.length, cap, ao, rfl, rfl, by omega, fun _ => rfl, fun _ g hg' => by rw [hg', Nat.zero_mul], Iff.rfl⟩

def topX : UX := ⟨fun _ _ => True, fun _ => False, fun _ => none, fun _ _ h => by cases h⟩
theorem SimG.view (h : SimG w0 U0 nt s a w D hv) {n e z len : Nat} {l : List CV} (hm : look s n = some (.mrow e z l)) (hrn : RN n) (hl : len ≤ l.length) : VRep (fun _ _ => True) w (.lst (l.take len)) (cutV (hv n) len) := by
  obtain ⟨xs, ho, hz, hsz, hsq⟩ := h.mrow hm hrn
  obtain ⟨va, vc, ev, e2, e3, e4, e5⟩ := ownsRow_cs ho
  rw [ev]
  have hsplit : l = l.take len ++ l.drop len := (List.take_append_drop _ _).symm
  have q := hsq
  rw [hsplit, List.map_append] at q
  obtain ⟨y1, y2, ey, s1, s2⟩ := sq_split q
  refine vrep_lst.2 ⟨va, len, vc, rfl, by rw [List.length_take, Nat.min_eq_left hl], by omega, e3, (fun h => ⟨by have := (e4 h).1; omega, (e4 h).2⟩), y1, ?_, s1.keep fun b o v _ hc => ⟨trivial, hc⟩⟩
  rcases e5 with h0 | ⟨b, off, ha, hlt, hc⟩
  · left
    have := congrArg List.length ey
    rw [h0, List.length_append] at this
    exact List.eq_nil_of_length_eq_zero (by simp at this; omega)
  · refine .inr ⟨b, off, ha, fun i hi => ⟨trivial, ?_⟩⟩
    rw [hc i (by rw [ey, List.length_append]; omega), ey, List.getElem?_append_left hi]
theorem SimG.viewBox (h : SimG w0 U0 nt s a w D hv) (n : Nat) {v : Value} {k q p k1 k2 k3} {c : CV} (hb : look s (100000 + n) = some ⟨5, .sc v, k, q, p⟩) (hs : look s n = some ⟨2, ⟨k1, k2, k3⟩, n, 0, []⟩) (hn : n < 100000) (hc : c.k ≠ 2) (hv2 : VRep (fun _ _ => True) w c v) : ∃ u, a.tmps[n]? = some u ∧ VRep (fun _ _ => True) w (.ptr c) u := by
  obtain ⟨g, xs, ty, g0, g1, g2, g5⟩ := h.box hb (by omega)
  obtain ⟨v', g6, g7⟩ := h.slot n _ hs hn
  have g7 : v' = .pointer (some ⟨blkOf (hv (100000 + n)), 0, none⟩) := g7.2
  have hgb2 : blkOf (hv (100000 + n)) = g := by rw [g0]; rfl
  rw [hgb2] at g7
  obtain rfl : xs = [v] := (rep_sc.1 g2).1
  refine ⟨v', g6, ?_⟩
  rw [g7]
  refine vrep_ptr.2 ⟨g, 0, [v], rfl, ?_, fun i hi => ⟨trivial, ?_⟩⟩
  · unfold VRep at hv2; rw [if_neg hc] at hv2; exact hv2
  have := box_cells_at (ys := []) (us := []) g1 (by simp) i hi
  simpa using this
theorem awp_peek {c : Code} {Q : Exit → AS → Prop} {R : Exit → Prop} (vs : List (Nat × CV)) (dr : Nat) (x : Value) (objs : AS)
    (hview : ∀ a w D hv, SimG w0 U0 nt s a w D hv → ∀ q ∈ vs, ∃ v, a.tmps[q.1]? = some v ∧ VRep (fun _ _ => True) w q.2 v)
    (h : ∀ w, AWp P w topX nt c (fun e s' => R e ∧ look s' dr = some (.val (.sc x))) (vs.map fun q => (q.1, .val q.2)))
    (hsub : SubL s objs) (hk : (kO objs).all (Nat.ble 100000) = true) (hvk : (vs.all fun q => Nat.blt q.1 100000) = true) (hdr : Nat.blt dr 100000 = true) (hQ : ∀ e, R e → Q e ((dr, .val (.sc x)) :: objs)) : AWp P w0 U0 nt c Q s := by
  intro M a w ⟨D, hv, hs⟩
  have hlow : ∀ {k av}, look (vs.map fun q => (q.1, AV.val q.2)) k = some av → ∃ q ∈ vs, k = q.1 ∧ av = .val q.2 := fun {k av} h1 => by
    obtain ⟨q, hq, he⟩ := List.mem_map.1 (look_mem h1)
    injection he with e1 e2
    exact ⟨q, hq, e1.symm, e2.symm⟩
  rw [List.all_eq_true] at hvk hk
  have hlt : ∀ {k av}, look (vs.map fun q => (q.1, AV.val q.2)) k = some av → k < 100000 := fun {k av} h1 => by
    obtain ⟨q, hq, rfl, _⟩ := hlow h1
    exact bL (hvk q hq)
  have hS : Sim w topX nt (vs.map fun q => (q.1, AV.val q.2)) a w := by
    refine ⟨fun _ _ => False, hv, BelowX.refl _ _, hs.dfr, hs.size, fun d av h1 h2 => ?_, fun n o av h1 h2 h3 h4 => ?_, fun n o o' av av' h1 h2 => ?_, fun k av h1 h2 => ?_, fun k av g h1 h2 => ?_, fun k k' av av' g h1 h2 h3 h4 => ?_, fun k v h1 => (by cases h1), fun b o hd => hd.elim⟩
    · obtain ⟨q, hq, rfl, rfl⟩ := hlow h1
      obtain ⟨v, g1, g2⟩ := hview a w D hv hs q hq
      exact ⟨v, g1, avrep_val (g2.keep fun b o v _ hc => ⟨.inl ⟨World.block_lt_of_cell? w _ hc, trivial, fun h => h⟩, hc⟩)⟩
    · have := hlt h1; unfold fKey at this; omega
    · have := hlt h1; unfold fKey at this; omega
    · have := hlt h1; have := h2.1; omega
    · have := hlt h1; have := h2.1; omega
    · have := hlt h1; have := h3.1; omega
  refine WP_mono (h w M a w hS) ?_
  rintro e a' w' ⟨s', ⟨hR, hx⟩, D', hv', g⟩
  refine ⟨_, hQ e hR, D, hv, ?_⟩
  have hB : Below w.heap.size w w' := g.below.below fun k hk => hk
  have h1 := (hs.sub hsub.sub).grow' hB
  have hlow2 : ∀ {k av}, look objs k = some av → 100000 ≤ k := fun {k av} h1 => Nat.le_of_ble_eq_true (hk k (mem_keys h1))
  have h2 : SimG w0 U0 nt objs a' w' D hv := ⟨h1.below, g.dfr, g.size, fun d av h7 h8 => by have := hlow2 h7; omega, h1.fld, h1.fdis, h1.obj, h1.blk, h1.disj, h1.fix, h1.dlt⟩
  obtain ⟨v, k1, k2⟩ := g.slot dr _ hx (bL hdr)
  obtain ⟨rfl, k3⟩ := vrep_sc.1 k2.1
  exact h2.know (bL hdr) k1 (avrep_sc k3)
theorem afun_lend1 {W : World} {f : FuncId} {x : Value} {c2 : CV} {e z nm N : Nat} {l : List CV} (h1 : 300000 ≤ nm) (h2 : nm < 450000) (hN : N ≤ l.length) (h : AFun P W f [.lst (l.take N), c2] (.val (.sc x))) : AFunO P f [(nm, .mrow e z l)] [.sl nm 0 N z, .val c2] (.val (.sc x)) [(nm, .mrow e z l)] := by
  refine ⟨h.1, fun U w hv a0 vs hU hp ha => ?_⟩
  obtain ⟨u1, us1, rfl, a1, u2, us2, rfl, a2, a4⟩ := ha
  have a4 : us2 = [] := a4
  subst a4
  have hrn : RN nm := ⟨by omega, by omega⟩
  have hlk : look [(nm, AV.mrow e z l)] nm = some (.mrow e z l) := by rw [look_cons]; simp
  have hvw := hp.view hlk hrn hN
  have a1 : RN nm ∧ SlV (hv nm) 0 N z u1 := a1
  obtain ⟨_, ao, m, cap, ao', s1, s2, s3, s4, _⟩ := a1
  have e9 : u1 = cutV (hv nm) N := by rw [s1, s2, s4 rfl]; rfl
  refine (h.2.2.2 (fun _ _ => True) w _ trivial ⟨_, _, rfl, by rw [e9]; exact hvw, _, _, rfl, a2.1.mono fun b o _ => trivial, rfl⟩).mono ?_
  rintro e' w' ⟨v, rfl, hr, hB⟩
  obtain ⟨rfl, h9⟩ := vrep_sc.1 hr
  exact ⟨_, _, hv, a0, rfl, hp.grow' hB, avrep_sc h9⟩
end
end Go.Proofs.Ytglbohajmccehaa
namespace Go.Proofs.Ytglbohajmccehaa
open Go.RowKit
set_option linter.unusedVariables false
set_option linter.unusedSimpArgs false
set_option maxRecDepth 100000

def bdsOk (l : List Bd) : Prop := ∀ b ∈ l, b.t.rng ∧ b.t.size ≤ 90000000000
def upV (by_ v : Int) : Int := v + min by_ (9223372036854775807 - v)
end Go.Proofs.Ytglbohajmccehaa
namespace Go.Proofs.Ytglbohajmccehaa
set_option linter.unusedVariables false
set_option linter.unusedSimpArgs false
def vsL (l : List Tm) : List Int := (l.filter fun s => decide (s.f < 0)).map fun s => -1 - s.f
def Tm.vs (t : Tm) : List Int := vsL t.flat
theorem vsL_append (l m : List Tm) : vsL (l ++ m) = vsL l ++ vsL m := by simp [vsL]
theorem vsL_flatMap (l : List Tm) : vsL (l.flatMap Tm.flat) = l.flatMap Tm.vs := by
  induction l with
  | nil => rfl
  | cons t l ih => rw [List.flatMap_cons, vsL_append, ih, List.flatMap_cons]; rfl
theorem Tm.vs_var {t : Tm} (h : t.f < 0) : t.vs = [-1 - t.f] := by
  unfold Tm.vs
  rw [Tm.flat_eq, Tm.ps_of_var h]
  simp [vsL, h]
theorem Tm.vs_sym {t : Tm} (h : ¬ t.f < 0) : t.vs = t.l.flatMap Tm.vs := by
  unfold Tm.vs
  rw [Tm.flat_eq, Tm.ps_of_sym (by omega), show t :: t.l.flatMap Tm.flat = [t] ++ t.l.flatMap Tm.flat from rfl, vsL_append, vsL_flatMap]
  simp [vsL, h]
  rfl
theorem Tm.strip_vs (t : Tm) : t.strip.vs = t.vs := by
  induction t using Tm.indp with
  | h t ih =>
    by_cases h : t.f < 0
    · rw [Tm.vs_var h, Tm.vs_var (by rw [Tm.strip_f]; exact h), Tm.strip_f]
    · rw [Tm.vs_sym h, Tm.vs_sym (by rw [Tm.strip_f]; exact h), Tm.strip_l]
      rw [Tm.ps_of_sym (by omega)] at ih ⊢
      rw [List.flatMap_def, List.flatMap_def, List.map_map]
      congr 1
      exact List.map_congr_left fun s hs => ih s hs
def nubS (acc : List Int) (v : Int) : List Int := if v ∈ acc then acc else acc ++ [v]
def nub (l : List Int) : List Int := l.foldl nubS []
theorem nub_snoc (l : List Int) (v : Int) : nub (l ++ [v]) = if v ∈ nub l then nub l else nub l ++ [v] := by
  unfold nub
  rw [List.foldl_append]
  rfl
theorem snoc_ind {α : Type} {Q : List α → Prop} (h0 : Q []) (h1 : ∀ l x, Q l → Q (l ++ [x])) : ∀ l, Q l := by
  intro l
  have : ∀ n (l : List α), l.length = n → Q l := by
    intro n
    induction n with
    | zero => intro l hl; rw [List.eq_nil_of_length_eq_zero hl]; exact h0
    | succ n ih =>
      intro l hl
      have hne : l ≠ [] := fun e => by rw [e] at hl; simp at hl
      rw [← List.dropLast_concat_getLast hne]
      exact h1 _ _ (ih _ (by simp [hl]))
  exact this _ l rfl
theorem mem_nub (l : List Int) : ∀ v, v ∈ nub l ↔ v ∈ l := by
  induction l using snoc_ind with
  | h0 => intro v; rfl
  | h1 l x ih =>
    intro v
    rw [nub_snoc, List.mem_append, ← ih]
    split
    · rename_i hx
      simp only [List.mem_singleton]
      exact ⟨fun h => .inl h, fun h => h.elim id fun e => e ▸ hx⟩
    · rw [List.mem_append]
theorem varsF_nub (l : List Tm) : varsF l = nub (vsL l) := by
  have : ∀ (l : List Tm) (acc : List Int), l.foldl varS acc = (vsL l).foldl nubS acc := by
    intro l
    induction l with
    | nil => intro acc; rfl
    | cons t l ih =>
      intro acc
      rw [List.foldl_cons, ih]
      by_cases h : t.f < 0
      · have : vsL (t :: l) = (-1 - t.f) :: vsL l := by simp [vsL, h]
        rw [this, List.foldl_cons]
        congr 1
        unfold varS nubS
        rw [if_pos h]
      · have : vsL (t :: l) = vsL l := by simp [vsL, h]
        rw [this]
        congr 1
        unfold varS
        rw [if_neg h]
  exact this l []
end Go.Proofs.Ytglbohajmccehaa
namespace Go.Proofs.Ytglbohajmccehaa
open Go.RowKit
set_option linter.unusedVariables false
set_option linter.unusedSimpArgs false
def Tm.sm : Tm → Prop
  | ⟨f, l⟩ => (-1000 ≤ f ∧ f ≤ 1000) ∧ ∀ t ∈ l, Tm.sm t
theorem Tm.sm_iff (t : Tm) : t.sm ↔ (-1000 ≤ t.f ∧ t.f ≤ 1000) ∧ ∀ s ∈ t.l, s.sm := by cases t; rw [Tm.sm]
theorem small_sm (t : Tm) : ∀ most deep, 0 ≤ smallT t most deep → t.sm := by
  induction t using Tm.ind with
  | h f l ih =>
    intro most deep h
    rw [smallT_eq] at h
    split at h
    · omega
    · rename_i hc
      refine (Tm.sm_iff _).2 ⟨⟨by show -1000 ≤ f; omega, by show f ≤ 1000; omega⟩, ?_⟩
      have : ∀ (l : List Tm) (m d : Int), (∀ t ∈ l, ∀ most deep, 0 ≤ smallT t most deep → t.sm) → 0 ≤ smallL l m d → ∀ t ∈ l, t.sm := by
        intro l
        induction l with
        | nil => intro m d _ _ t ht; cases ht
        | cons y ys ih2 =>
          intro m d hl h t ht
          rw [smallL_cons] at h
          split at h
          · omega
          · have hy : 0 ≤ smallT y m d := by
              rcases Int.lt_or_le (smallT y m d) 0 with h1 | h1
              · rw [smallL_neg ys d h1] at h; omega
              · exact h1
            rcases List.mem_cons.1 ht with rfl | ht
            · exact hl t (by simp) m d hy
            · exact ih2 (smallT y m d) d (fun s hs => hl s (List.mem_cons_of_mem _ hs)) h t ht
      exact this l _ _ ih h
theorem Tm.sm_rng {t : Tm} (h : t.sm) : t.rng := by
  induction t using Tm.ind with
  | h f l ih =>
    obtain ⟨h1, h2⟩ := (Tm.sm_iff _).1 h
    exact (Tm.rng_iff _).2 ⟨by simp only at h1 ⊢; omega, fun s hs => ih s hs (h2 s hs)⟩
theorem Tm.wt_ok {t : Tm} (h : t.wt ≤ 1000000) : t.ok := by
  induction t using Tm.ind with
  | h f l ih =>
    rw [Tm.wt_eq] at h
    simp only at h
    have := Tm.wts_len l
    exact (Tm.ok_iff _).2 ⟨by simp only; omega, fun s hs => ih s hs (by have : s.wt ≤ Tm.wts l := Tm.wts_mem hs; omega)⟩
theorem Tm.strip_rng {t : Tm} (h : t.rng) : t.strip.rng := by
  induction t using Tm.indp with
  | h t ih =>
    obtain ⟨h1, h2⟩ := (Tm.rng_iff _).1 h
    refine (Tm.rng_iff _).2 ⟨by rw [Tm.strip_f]; exact h1, fun s hs => ?_⟩
    rw [Tm.strip_l] at hs
    obtain ⟨u, hu, rfl⟩ := List.mem_map.1 hs
    exact ih u hu (h2 u (Tm.ps_mem hu).1)
theorem Tm.strip_ok {t : Tm} (h : t.ok) : t.strip.ok := by
  induction t using Tm.indp with
  | h t ih =>
    obtain ⟨h1, h2⟩ := (Tm.ok_iff _).1 h
    refine (Tm.ok_iff _).2 ⟨?_, fun s hs => ?_⟩
    · rw [Tm.strip_l, List.length_map]
      unfold Tm.ps
      split
      · simp
      · exact h1
    · rw [Tm.strip_l] at hs
      obtain ⟨u, hu, rfl⟩ := List.mem_map.1 hs
      exact ih u hu (h2 u (Tm.ps_mem hu).1)
theorem leaf_rng {f : Int} (h1 : -9223372036854775808 ≤ f) (h2 : f ≤ 9223372036854775807) : (Tm.mk f []).rng := (Tm.rng_iff _).2 ⟨⟨h1, h2⟩, fun s hs => by cases hs⟩
theorem leaf_ok (f : Int) : (Tm.mk f []).ok := (Tm.ok_iff _).2 ⟨by show 0 ≤ _; omega, fun s hs => by cases hs⟩
theorem leaf_size (f : Int) : (Tm.mk f []).size = 1 := by
  rw [Tm.size_eq]
  have : (Tm.mk f []).ps = [] := by unfold Tm.ps; simp
  rw [this]; rfl
end Go.Proofs.Ytglbohajmccehaa
namespace Go.Proofs.Ytglbohajmccehaa
open Go.RowKit
set_option linter.unusedVariables false
set_option linter.unusedSimpArgs false
set_option maxRecDepth 100000

end Go.Proofs.Ytglbohajmccehaa
namespace Go.Proofs.Ytglbohajmccehaa
set_option linter.unusedVariables false
set_option linter.unusedSimpArgs false
theorem cmpZ_cases (x y : Int) : (cmpZ x y = -1 ∧ x < y) ∨ (cmpZ x y = 0 ∧ x = y) ∨ (cmpZ x y = 1 ∧ y < x) := by
  unfold cmpZ
  split
  · exact .inl ⟨rfl, by assumption⟩
  · split
    · exact .inr (.inr ⟨rfl, by assumption⟩)
    · exact .inr (.inl ⟨rfl, by omega⟩)

def rank (x : Int) : Int × Int := if x < 0 then (0, -1 - x) else (1, x)
theorem cmpH_cases (x y : Int) : (cmpH x y = -1 ∧ ((x < 0 ∧ y < 0 ∧ y < x) ∨ (¬ (x < 0 ∧ y < 0) ∧ x < y))) ∨ (cmpH x y = 0 ∧ x = y) ∨ (cmpH x y = 1 ∧ ((x < 0 ∧ y < 0 ∧ x < y) ∨ (¬ (x < 0 ∧ y < 0) ∧ y < x))) := by
  unfold cmpH
  split
  · have := cmpZ_cases (-1 - x) (-1 - y)
    omega
  · have := cmpZ_cases x y
    omega

structure CmpOk (c : Int) : Prop where
  three : c = -1 ∨ c = 0 ∨ c = 1

theorem cmpT_zero (a : Tm) : ∀ b, cmpT a b = 0 ↔ a.strip = b.strip := by
  induction a using Tm.indp with
  | h a ih =>
    intro b
    rw [cmpT_eq, Tm.strip_eq a, Tm.strip_eq b]
    have hL : ∀ (l m : List Tm), (∀ s ∈ l, ∀ b, cmpT s b = 0 ↔ s.strip = b.strip) → (cmpL l m = 0 ↔ l.map Tm.strip = m.map Tm.strip) := by
      intro l
      induction l with
      | nil => intro m _; cases m <;> simp [cmpL_nil, cmpL_lt, cmpL_gt]
      | cons y ys ih2 =>
        intro m hl
        cases m with
        | nil => simp [cmpL_nil, cmpL_lt, cmpL_gt]
        | cons z zs =>
          rw [cmpL_cons, List.map_cons, List.map_cons, List.cons.injEq, ← hl y (by simp) z, ← ih2 zs (fun s hs => hl s (List.mem_cons_of_mem _ hs))]
          by_cases h : cmpT y z = 0 <;> simp [h]
    rw [Tm.mk.injEq]
    by_cases h1 : a.f = b.f
    · rw [if_neg (by simp [h1])]
      by_cases h2 : a.ps.length = b.ps.length
      · rw [if_neg (by simp [h2]), hL _ _ ih]
        simp [h1]
      · rw [if_pos h2]
        constructor
        · intro h3
          have := cmpZ_cases a.ps.length b.ps.length
          omega
        · rintro ⟨_, h3⟩
          exact absurd (by simpa using congrArg List.length h3) h2
    · rw [if_pos h1]
      constructor
      · intro h3
        have := cmpH_cases a.f b.f
        omega
      · rintro ⟨h3, _⟩
        exact absurd h3 h1

def Goon (p q r : Int) : Prop := p ≤ 0 → q ≤ 0 → r ≤ 0 ∧ (r = 0 → p = 0 ∧ q = 0)

theorem sameT_iff (a b : Tm) : sameT a b = true ↔ a.strip = b.strip := by
  unfold sameT
  rw [beq_iff_eq]
  exact cmpT_zero a b
end Go.Proofs.Ytglbohajmccehaa
namespace Go.Proofs.Ytglbohajmccehaa
open Go.RowKit
set_option linter.unusedVariables false
set_option linter.unusedSimpArgs false
set_option maxRecDepth 100000
theorem same_f {a b : Tm} (h : sameT a b = true) : a.f = b.f := by
  have := (sameT_iff a b).1 h
  rw [← Tm.strip_f, this, Tm.strip_f]
theorem same_fne {a b : Tm} (h : a.f ≠ b.f) : sameT a b = false := by
  cases hs : sameT a b with
  | false => rfl
  | true => exact absurd (same_f hs) h
theorem same_neg {a b : Tm} (h : a.f = b.f) (hf : a.f < 0) : sameT a b = true := by
  rw [sameT_iff, Tm.strip_eq, Tm.strip_eq, Tm.ps_of_var hf, Tm.ps_of_var (by omega), h]
theorem same_sym {a b : Tm} (h : a.f = b.f) (hf : ¬ a.f < 0) : sameT a b = true ↔ a.l.map Tm.strip = b.l.map Tm.strip := by
  rw [sameT_iff, Tm.strip_eq, Tm.strip_eq, Tm.ps_of_sym (by omega), Tm.ps_of_sym (by omega), h]
  simp
theorem same_lne {a b : Tm} (hf : ¬ a.f < 0) (hl : a.l.length ≠ b.l.length) : sameT a b = false := by
  cases hs : sameT a b with
  | false => rfl
  | true =>
    have := congrArg List.length ((same_sym (same_f hs) hf).1 hs)
    simp at this
    exact absurd this hl
theorem same_at {a b : Tm} (hf : ¬ a.f < 0) {i : Nat} {x y : Tm} (hx : a.l[i]? = some x) (hy : b.l[i]? = some y) (h : sameT x y = false) : sameT a b = false := by
  cases hs : sameT a b with
  | false => rfl
  | true =>
    have := congrArg (fun l => l[i]?) ((same_sym (same_f hs) hf).1 hs)
    simp only [List.getElem?_map, hx, hy, Option.map_some, Option.some.injEq] at this
    rw [(sameT_iff x y).2 this] at h
    cases h
theorem same_all {a b : Tm} (h : a.f = b.f) (hf : ¬ a.f < 0) (hl : a.l.length = b.l.length) (hi : ∀ i x y, i < a.l.length → a.l[i]? = some x → b.l[i]? = some y → sameT x y = true) : sameT a b = true := by
  rw [same_sym h hf]
  apply List.ext_getElem?
  intro i
  rw [List.getElem?_map, List.getElem?_map]
  by_cases hil : i < a.l.length
  · have hx := List.getElem?_eq_getElem hil
    have hy := List.getElem?_eq_getElem (l := b.l) (i := i) (by omega)
    rw [hx, hy]
    exact congrArg some ((sameT_iff _ _).1 (hi i _ _ hil hx hy))
  · rw [List.getElem?_eq_none (by omega), List.getElem?_eq_none (by omega)]

-- 
set_option maxHeartbeats 1000000 in
theorem refSame_abs (W : World) : ∀ (a b : Tm), a.ok → b.ok → AFun Try.prog W 15 [a.cw, b.cw] (.val (.b (sameT a b))) := by
  intro a
  induction a using Tm.ind with
  | h f l ih =>
  intro b hoa hob
  obtain ⟨hla, hoa⟩ := (Tm.ok_iff _).1 hoa
  obtain ⟨hlb, hob⟩ := (Tm.ok_iff _).1 hob
  simp only at hla hoa
  have hsz := Tm.size_all l
  have hsz2 := Tm.size_all b.l
  refine afun_of (rs := [.b (sameT ⟨f, l⟩ b)]) Try.func15 Try.ntmps15 rfl rfl rfl rfl ?_
  intro w U hW
  refine aS (aR ?_)
  (refine nx (a_box (gN rfl) rfl rfl rfl rfl rfl) rfl ?_)
  (refine nx (a_box (gN rfl) rfl rfl rfl rfl rfl) rfl ?_)
  (refine nx (aA (gN rfl) rfl rfl rfl rfl rfl) rfl ?_)
  show AWp _ _ _ _ _ _ _
  refine aS (aS (aR ?_))
  (refine nx (aF (gN rfl) rfl rfl rfl rfl rfl rfl rfl rfl rfl) rfl ?_)
  (refine nx (aLb (gN rfl) rfl rfl rfl rfl rfl rfl rfl rfl rfl rfl rfl rfl) rfl ?_)
  (refine nx (aF (gN rfl) rfl rfl rfl rfl rfl rfl rfl rfl rfl) rfl ?_)
  (refine nx (aLb (gN rfl) rfl rfl rfl rfl rfl rfl rfl rfl rfl rfl rfl rfl) rfl ?_)
  (refine nx (a_neq (gN rfl) rfl rfl rfl rfl rfl rfl) rfl ?_)
  show AWp _ _ _ _ _ _ _
  refine aC rfl (fun hc => ?_) (fun hc => aK ?_)
  · have hne : f ≠ b.f := by simpa using hc
    rw [same_fne (a := ⟨f, l⟩) hne]
    refine aS (aR ?_)
    (refine nx (aA (gN rfl) rfl rfl rfl rfl rfl) rfl ?_)
    show AWp _ _ _ _ _ _ _
    exact aT (And.intro (.inr rfl) rfl)
  have hfe : f = b.f := by simpa using hc
  clear hc
  show AWp _ _ _ _ _ _ _
  refine aS (aS (aR ?_))
  (refine nx (aF (gN rfl) rfl rfl rfl rfl rfl rfl rfl rfl rfl) rfl ?_)
  (refine nx (aLb (gN rfl) rfl rfl rfl rfl rfl rfl rfl rfl rfl rfl rfl rfl) rfl ?_)
  (refine nx (a_lss (gN rfl) rfl rfl rfl rfl rfl rfl) rfl ?_)
  show AWp _ _ _ _ _ _ _
  refine aC rfl (fun hc => ?_) (fun hc => aK ?_)
  · have hneg : f < 0 := by simpa using hc
    rw [same_neg (a := ⟨f, l⟩) hfe hneg]
    refine aS (aR ?_)
    (refine nx (aA (gN rfl) rfl rfl rfl rfl rfl) rfl ?_)
    show AWp _ _ _ _ _ _ _
    exact aT (And.intro (.inr rfl) rfl)
  have hnn : ¬ f < 0 := by simpa using hc
  clear hc
  show AWp _ _ _ _ _ _ _
  refine aS (aS (aR ?_))
  (refine nx (aF (gN rfl) rfl rfl rfl rfl rfl rfl rfl rfl rfl) rfl ?_)
  (refine nx (aLb (gN rfl) rfl rfl rfl rfl rfl rfl rfl rfl rfl rfl rfl rfl) rfl ?_)
  (refine nx (a_len (gN rfl) rfl rfl rfl rfl rfl rfl rfl) rfl ?_)
  (refine nx (aF (gN rfl) rfl rfl rfl rfl rfl rfl rfl rfl rfl) rfl ?_)
  (refine nx (aLb (gN rfl) rfl rfl rfl rfl rfl rfl rfl rfl rfl rfl rfl rfl) rfl ?_)
  (refine nx (a_len (gN rfl) rfl rfl rfl rfl rfl rfl rfl) rfl ?_)
  (refine nx (a_neq (gN rfl) rfl rfl rfl rfl rfl rfl) rfl ?_)
  show AWp _ _ _ _ _ _ _
  refine aC rfl (fun hc => ?_) (fun hc => aK ?_)
  · have hne : l.length ≠ b.l.length := by
      simp only [List.length_map, decide_eq_true_eq] at hc
      omega
    rw [same_lne (a := ⟨f, l⟩) hnn hne]
    refine aS (aR ?_)
    (refine nx (aA (gN rfl) rfl rfl rfl rfl rfl) rfl ?_)
    show AWp _ _ _ _ _ _ _
    exact aT (And.intro (.inr rfl) rfl)
  have hle : l.length = b.l.length := by
    simp only [List.length_map, decide_eq_false_iff_not, ne_eq, Decidable.not_not] at hc
    omega
  clear hc
  show AWp _ _ _ _ _ _ _
  refine aS (aS (aR ?_))
  (refine nx (aA (gN rfl) rfl rfl rfl rfl rfl) rfl ?_)
  show AWp _ _ _ _ _ _ _
  refine aB (awp_countI l.length (fun k => ∀ i x y, i < k → l[i]? = some x → b.l[i]? = some y → sameT x y = true) (fun k => [(2, .bp 2 0 []), (100002, .bx (Tm.cw ⟨f, l⟩)), (3, .bp 3 0 []), (100003, .bx b.cw), (5, .val (.i k))]) (wk_sub ⟨rfl, rfl, rfl, rfl, rfl, trivial⟩) (by omega) ?_)
  intro k hk hI
  refine aS (aS (aR ?_))
  (refine nx (aM (gN rfl) rfl rfl rfl rfl rfl) rfl ?_)
  (refine nx (aF (gN rfl) rfl rfl rfl rfl rfl rfl rfl rfl rfl) rfl ?_)
  (refine nx (aLb (gN rfl) rfl rfl rfl rfl rfl rfl rfl rfl rfl rfl rfl rfl) rfl ?_)
  (refine nx (a_len (gN rfl) rfl rfl rfl rfl rfl rfl rfl) rfl ?_)
  (refine nx (a_lss (gN rfl) rfl rfl rfl rfl rfl rfl) rfl ?_)
  show AWp _ _ _ _ _ _ _
  refine aC rfl (fun hc => aK ?_) (fun hc => aE ?_)
  · have hkl : k < l.length := by
      simp only [List.length_map, decide_eq_true_eq] at hc
      omega
    clear hc
    obtain ⟨x, hx⟩ : ∃ x, l[k]? = some x := ⟨l[k], List.getElem?_eq_getElem hkl⟩
    obtain ⟨y, hy⟩ : ∃ y, b.l[k]? = some y := ⟨b.l[k]'(by omega), List.getElem?_eq_getElem (by omega)⟩
    have hx' := Tm.map_at hx
    have hy' := Tm.map_at hy
    have hxm := List.mem_of_getElem? hx
    have hym := List.mem_of_getElem? hy
    show AWp _ _ _ _ _ _ _
    refine aS (aB (aS (aD (by kernel_rfl) (by kernel_rfl) ?_)))
    (refine nx (aF (gN rfl) rfl rfl rfl rfl rfl rfl rfl rfl rfl) rfl ?_)
    (refine nx (aLb (gN rfl) rfl rfl rfl rfl rfl rfl rfl rfl rfl rfl rfl rfl) rfl ?_)
    (refine nx (aM (gN rfl) rfl rfl rfl rfl rfl) rfl ?_)
    (refine nx (a_index (gN rfl) rfl rfl rfl rfl rfl rfl rfl rfl rfl (by assumption) rfl (by first | assumption | exact sZ rfl | exact Tm.size_all _ | exact Bd.size_all _ | exact ints_size _ | exact bys_size _ | exact Lt.size_all _)) rfl ?_)
    (refine nx (a_load_ad (gN rfl) rfl rfl rfl rfl rfl rfl rfl rfl rfl) rfl ?_)
    (refine nx (aF (gN rfl) rfl rfl rfl rfl rfl rfl rfl rfl rfl) rfl ?_)
    (refine nx (aLb (gN rfl) rfl rfl rfl rfl rfl rfl rfl rfl rfl rfl rfl rfl) rfl ?_)
    (refine nx (aM (gN rfl) rfl rfl rfl rfl rfl) rfl ?_)
    (refine nx (a_index (gN rfl) rfl rfl rfl rfl rfl rfl rfl rfl rfl (by assumption) rfl (by first | assumption | exact sZ rfl | exact Tm.size_all _ | exact Bd.size_all _ | exact ints_size _ | exact bys_size _ | exact Lt.size_all _)) rfl ?_)
    (refine nx (a_load_ad (gN rfl) rfl rfl rfl rfl rfl rfl rfl rfl rfl) rfl ?_)
    (refine nx (a_call (gN rfl) rfl rfl rfl rfl rfl ((ih x hxm y (hoa x hxm) (hob y hym)).up hW)) rfl ?_)
    (refine nx (a_not (gN rfl) rfl rfl rfl rfl rfl) rfl ?_)
    refine ⟨by kernel_rfl, ?_⟩
    show AWp _ _ _ _ _ _ _
    refine aC rfl (fun hc => ?_) (fun hc => aK ?_)
    · have hs : sameT x y = false := by simpa using hc
      rw [same_at (a := ⟨f, l⟩) hnn hx hy hs]
      refine aS (aR ?_)
      (refine nx (aA (gN rfl) rfl rfl rfl rfl rfl) rfl ?_)
      show AWp _ _ _ _ _ _ _
      exact aT (And.intro (.inr rfl) rfl)
    have hs : sameT x y = true := by simpa using hc
    clear hc
    show AWp _ _ _ _ _ _ _
    refine aR ?_
    (refine nx (aM (gN rfl) rfl rfl rfl rfl rfl) rfl ?_)
    (refine nx (a_add (gN rfl) rfl rfl rfl rfl rfl rfl (by first | omega | (simp only [List.length_map, List.length_append, List.length_cons, List.length_nil] <;> omega) | (simp <;> omega))) rfl ?_)
    (refine nx (aA (gN rfl) rfl rfl rfl rfl rfl) rfl ?_)
    refine ⟨hkl, fun i x' y' hi h1 h2 => ?_, wk_sub ⟨rfl, rfl, rfl, rfl, rfl, trivial⟩⟩
    rcases Nat.lt_or_ge i k with h | h
    · exact hI i x' y' h h1 h2
    · obtain rfl : i = k := by omega
      rw [hx] at h1; rw [hy] at h2
      cases h1; cases h2
      exact hs
  · have hkl : k = l.length := by
      simp only [List.length_map, decide_eq_false_iff_not] at hc
      omega
    subst hkl
    rw [same_all (a := ⟨f, l⟩) hfe hnn hle hI]
    show AWp _ _ _ _ _ _ _
    refine aS (aR ?_)
    (refine nx (aA (gN rfl) rfl rfl rfl rfl rfl) rfl ?_)
    show AWp _ _ _ _ _ _ _
    exact aT (And.intro (.inr rfl) rfl)

-- 
set_option maxHeartbeats 1000000 in
theorem to_abs (W : World) : ∀ (t : Tm), t.ok → AFun Try.prog W 16 [t.cw] (.val t.strip.cw) := by
  intro t
  induction t using Tm.ind with
  | h f l ih =>
  intro hok
  obtain ⟨hl, hok⟩ := (Tm.ok_iff _).1 hok
  simp only at hl hok
  have hsz := Tm.size_all l
  refine afun_of (rs := [(Tm.strip ⟨f, l⟩).cw]) Try.func16 Try.ntmps16 rfl rfl rfl rfl ?_
  intro w U hW
  refine aS (aR ?_)
  (refine nx (a_box (gN rfl) rfl rfl rfl rfl rfl) rfl ?_)
  (refine nx (a_alloc (gN rfl) rfl rfl rfl rfl rfl rfl rfl rfl rfl rfl) rfl ?_)
  show AWp _ _ _ _ _ _ _
  refine aS (aR ?_)
  (refine nx (aF (gN rfl) rfl rfl rfl rfl rfl rfl rfl rfl rfl) rfl ?_)
  (refine nx (aLb (gN rfl) rfl rfl rfl rfl rfl rfl rfl rfl rfl rfl rfl rfl) rfl ?_)
  (refine nx (a_build (gN rfl) rfl rfl rfl rfl rfl rfl rfl rfl rfl rfl rfl) rfl ?_)
  (refine nx (a_alloc (gN rfl) rfl rfl rfl rfl rfl rfl rfl rfl rfl rfl) rfl ?_)
  (refine nx (aSt (gN rfl) rfl rfl rfl rfl rfl rfl rfl rfl rfl rfl) rfl ?_)
  show AWp _ _ _ _ _ _ _
  refine aS (aS (aR ?_))
  (refine nx (aA (gN rfl) rfl rfl rfl rfl rfl) rfl ?_)
  show AWp _ _ _ _ _ _ _
  by_cases hf : f < 0
  · have hg : decide (f ≥ 0) = false := by simpa using hf
    rw [show (Tm.strip ⟨f, l⟩) = ⟨f, []⟩ by rw [Tm.strip_eq, Tm.ps_of_var (t := ⟨f, l⟩) hf]; rfl]
    refine aB (awp_count 0 (fun k => [(1, .bp 1 0 []), (100001, .bx (Tm.cw ⟨f, l⟩)), (2, .bp 2 0 []), (100002, ⟨5, .row [.i 0, .lst []], 1, 0, [1]⟩), (3, .bp 3 0 []), (100003, ⟨5, .row [.i f, .lst []], 1, 0, [1]⟩), (4, .val (.i k))]) (wk_sub ⟨rfl, rfl, rfl, rfl, rfl, rfl, rfl, trivial⟩) ?_)
    intro k hk
    refine aS (aS (aR ?_))
    (refine nx (aF (gN rfl) rfl rfl rfl rfl rfl rfl rfl rfl rfl) rfl ?_)
    (refine nx (aLb (gN rfl) rfl rfl rfl rfl rfl rfl rfl rfl rfl rfl rfl rfl) rfl ?_)
    (refine nx (a_geq (gN rfl) rfl rfl rfl rfl rfl rfl) rfl ?_)
    (refine nx (aM (gN rfl) rfl rfl rfl rfl rfl) rfl ?_)
    (refine ⟨_, _, _, a_off (go_off rfl rfl rfl rfl (by first | rfl | assumption | (simp; done) | (simp [*]; done))) rfl rfl rfl, rfl, ?_⟩)
    (refine ⟨_, _, _, a_off (go_off rfl rfl rfl rfl (by first | rfl | assumption | (simp; done) | (simp [*]; done))) rfl rfl rfl, rfl, ?_⟩)
    (refine ⟨_, _, _, a_off (go_off rfl rfl rfl rfl (by first | rfl | assumption | (simp; done) | (simp [*]; done))) rfl rfl rfl, rfl, ?_⟩)
    (refine ⟨_, _, _, a_off (go_off rfl rfl rfl rfl (by first | rfl | assumption | (simp; done) | (simp [*]; done))) rfl rfl rfl, rfl, ?_⟩)
    (refine ⟨_, _, _, a_off (go_off rfl rfl rfl rfl (by first | rfl | assumption | (simp; done) | (simp [*]; done))) rfl rfl rfl, rfl, ?_⟩)
    (refine ⟨_, _, _, aPf (gN rfl) rfl rfl rfl rfl rfl ?hb rfl, rfl, ?_⟩; case hb => (first | rfl | assumption | (simp; done)))
    show AWp _ _ _ _ _ _ _
    refine aC rfl (fun hc => by cases hc) (fun hc => aE ?_)
    show AWp _ _ _ _ _ _ _
    refine aS (aR ?_)
    (refine nx (aL (gN rfl) rfl rfl rfl rfl rfl rfl rfl rfl rfl rfl rfl rfl) rfl ?_)
    (refine nx (aSt (gN rfl) rfl rfl rfl rfl rfl rfl rfl rfl rfl rfl) rfl ?_)
    show AWp _ _ _ _ _ _ _
    exact aT (And.intro (.inr rfl) rfl)
  have hg : decide (f ≥ 0) = true := by simp only [decide_eq_true_eq]; omega
  rw [show (Tm.strip ⟨f, l⟩) = ⟨f, l.map Tm.strip⟩ by rw [Tm.strip_eq, Tm.ps_of_sym (t := ⟨f, l⟩) (by show 0 ≤ f; omega)]]
  refine aB (awp_count l.length (fun k => [(1, .bp 1 0 []), (100001, .bx (Tm.cw ⟨f, l⟩)), (2, .bp 2 0 []), (100002, ⟨5, .row [.i 0, .lst []], 1, 0, [1]⟩), (3, .bp 3 0 []), (100003, ⟨5, .row [.i f, .lst (((l.take k).map Tm.strip).map Tm.cv)], 200029, 0, [1]⟩), (200029, .tok 29 2), (4, .val (.i k))])
    ((wk_nil 100003 200029 29 2 rfl rfl rfl rfl rfl rfl rfl).trans (wk_sub ⟨rfl, rfl, rfl, rfl, rfl, rfl, rfl, rfl, trivial⟩)) ?_)
  intro k hk
  refine aS (aS (aR ?_))
  (refine nx (aF (gN rfl) rfl rfl rfl rfl rfl rfl rfl rfl rfl) rfl ?_)
  (refine nx (aLb (gN rfl) rfl rfl rfl rfl rfl rfl rfl rfl rfl rfl rfl rfl) rfl ?_)
  (refine nx (a_geq (gN rfl) rfl rfl rfl rfl rfl rfl) rfl ?_)
  (refine nx (aM (gN rfl) rfl rfl rfl rfl rfl) rfl ?_)
  (refine nx (aM (gd_on rfl rfl rfl rfl (by first | rfl | assumption | (simp; done))) rfl rfl rfl rfl rfl) rfl ?_)
  (refine nx (aF (gd_on rfl rfl rfl rfl (by first | rfl | assumption | (simp; done))) rfl rfl rfl rfl rfl rfl rfl rfl rfl) rfl ?_)
  (refine nx (aLb (gd_on rfl rfl rfl rfl (by first | rfl | assumption | (simp; done))) rfl rfl rfl rfl rfl rfl rfl rfl rfl rfl rfl rfl) rfl ?_)
  (refine nx (a_len (gd_on rfl rfl rfl rfl (by first | rfl | assumption | (simp; done))) rfl rfl rfl rfl rfl rfl rfl) rfl ?_)
  (refine nx (a_lss (gd_on rfl rfl rfl rfl (by first | rfl | assumption | (simp; done))) rfl rfl rfl rfl rfl rfl) rfl ?_)
  (refine ⟨_, _, _, aPt (gN rfl) rfl rfl rfl rfl rfl ?hb rfl, rfl, ?_⟩; case hb => (first | rfl | assumption | (simp; done)))
  show AWp _ _ _ _ _ _ _
  refine aC rfl (fun hc => aK ?_) (fun hc => aE ?_)
  · have hkl : k < l.length := by
      simp only [List.length_map, decide_eq_true_eq] at hc
      omega
    clear hc
    obtain ⟨t, ht⟩ : ∃ t, l[k]? = some t := ⟨l[k], List.getElem?_eq_getElem hkl⟩
    have ht' := Tm.map_at ht
    have htm := List.mem_of_getElem? ht
    show AWp _ _ _ _ _ _ _
    refine aS (aB (aD (by kernel_rfl) (by kernel_rfl) ?_))
    (refine nx (aF (gN rfl) rfl rfl rfl rfl rfl rfl rfl rfl rfl) rfl ?_)
    (refine nx (a_load_tok (gN rfl) rfl rfl rfl rfl rfl rfl rfl rfl rfl rfl rfl rfl rfl) rfl ?_)
    (refine nx (aF (gN rfl) rfl rfl rfl rfl rfl rfl rfl rfl rfl) rfl ?_)
    (refine nx (aLb (gN rfl) rfl rfl rfl rfl rfl rfl rfl rfl rfl rfl rfl rfl) rfl ?_)
    (refine nx (aM (gN rfl) rfl rfl rfl rfl rfl) rfl ?_)
    (refine nx (a_index (gN rfl) rfl rfl rfl rfl rfl rfl rfl rfl rfl (by assumption) rfl (by first | assumption | exact sZ rfl | exact Tm.size_all _ | exact Bd.size_all _ | exact ints_size _ | exact bys_size _ | exact Lt.size_all _)) rfl ?_)
    (refine nx (a_load_ad (gN rfl) rfl rfl rfl rfl rfl rfl rfl rfl rfl) rfl ?_)
    (refine nx (a_call (gN rfl) rfl rfl rfl rfl rfl ((ih t htm (hok t htm)).up hW)) rfl ?_)
    (refine nx (a_bslice (gN rfl) rfl rfl rfl rfl rfl rfl rfl rfl rfl rfl rfl rfl rfl) rfl ?_)
    (refine nx (a_app (gN rfl) rfl rfl rfl rfl rfl rfl rfl rfl rfl rfl rfl rfl rfl rfl rfl (by first | assumption | exact sZ rfl | exact Tm.size_all _ | exact Bd.size_all _ | exact ints_size _ | exact bys_size _ | exact Lt.size_all _) (by first | assumption | exact sZ rfl | exact Tm.size_all _ | exact Bd.size_all _ | exact ints_size _ | exact bys_size _ | exact Lt.size_all _) (by first | omega | (simp only [List.length_map, List.length_append, List.length_cons, List.length_nil] <;> omega) | (simp <;> omega))) rfl ?_)
    (refine nx (aF (gN rfl) rfl rfl rfl rfl rfl rfl rfl rfl rfl) rfl ?_)
    (refine nx (a_store (gN rfl) rfl rfl rfl rfl rfl rfl rfl rfl rfl rfl) rfl ?_)
    refine ⟨by kernel_rfl, ?_⟩
    show AWp _ _ _ _ _ _ _
    refine aR ?_
    (refine nx (aM (gN rfl) rfl rfl rfl rfl rfl) rfl ?_)
    (refine nx (a_add (gN rfl) rfl rfl rfl rfl rfl rfl (by first | omega | (simp only [List.length_map, List.length_append, List.length_cons, List.length_nil] <;> omega) | (simp <;> omega))) rfl ?_)
    (refine nx (aA (gN rfl) rfl rfl rfl rfl rfl) rfl ?_)
    refine ⟨hkl, Wk.trans (wk_sub (s' := [(1, .bp 1 0 []), (100001, .bx (Tm.cw ⟨f, l⟩)), (2, .bp 2 0 []), (100002, ⟨5, .row [.i 0, .lst []], 1, 0, [1]⟩), (3, .bp 3 0 []), (100003, ⟨5, .row [.i f, .lst (((l.take (k + 1)).map Tm.strip).map Tm.cv)], 300029, 0, [1]⟩), (300029, .tok 29 2), (4, .val (.i ((k + 1 : Nat) : Int)))]) ⟨rfl, rfl, rfl, rfl, rfl, ?_, rfl, rfl, trivial⟩) (wk_ren 300029 200029 rfl rfl rfl rfl)⟩
    rw [List.take_add_one, ht, List.map_append, List.map_append]
    simp only [Option.toList_some, List.map_cons, List.map_nil, Tm.cv_eq]
    rfl
  · have hkl : k = l.length := by
      simp only [List.length_map, decide_eq_false_iff_not] at hc
      omega
    subst hkl
    rw [List.take_length]
    show AWp _ _ _ _ _ _ _
    refine aS (aR ?_)
    (refine nx (aL (gN rfl) rfl rfl rfl rfl rfl rfl rfl rfl rfl rfl rfl rfl) rfl ?_)
    (refine nx (aSt (gN rfl) rfl rfl rfl rfl rfl rfl rfl rfl rfl rfl) rfl ?_)
    show AWp _ _ _ _ _ _ _
    exact aT (And.intro (.inr rfl) rfl)

theorem flat_len_take (l : List Tm) (k : Nat) : ((l.take k).flatMap Tm.flat).length ≤ (l.flatMap Tm.flat).length := by
  conv => rhs; rw [← List.take_append_drop k l, List.flatMap_append, List.length_append]
  omega
-- 
set_option maxHeartbeats 1000000 in
theorem refFlat_abs (W : World) : ∀ (t : Tm), t.ok → t.size ≤ 90000000000 → AFun Try.prog W 58 [t.cw] (.val (.lst (t.flat.map Tm.cv))) := by
  intro t
  induction t using Tm.ind with
  | h f l ih =>
  intro hok hts
  obtain ⟨hl, hok⟩ := (Tm.ok_iff _).1 hok
  simp only at hl hok
  have hsz := Tm.size_all l
  refine afun_of (rs := [.lst ((Tm.flat ⟨f, l⟩).map Tm.cv)]) Try.func58 Try.ntmps58 rfl rfl rfl rfl ?_
  intro w U hW
  refine aS (aR ?_)
  (refine nx (a_box (gN rfl) rfl rfl rfl rfl rfl) rfl ?_)
  (refine nx (aA (gN rfl) rfl rfl rfl rfl rfl) rfl ?_)
  show AWp _ _ _ _ _ _ _
  refine aS (aR ?_)
  (refine nx (aL (gN rfl) rfl rfl rfl rfl rfl rfl rfl rfl rfl rfl rfl rfl) rfl ?_)
  (refine nx (a_bsliceT (gN rfl) rfl rfl rfl rfl rfl rfl rfl rfl rfl rfl rfl rfl rfl rfl) rfl ?_)
  (refine nx (aA (gN rfl) rfl rfl rfl rfl rfl) rfl ?_)
  show AWp _ _ _ _ _ _ _
  refine aS (aS (aR ?_))
  (refine nx (aA (gN rfl) rfl rfl rfl rfl rfl) rfl ?_)
  show AWp _ _ _ _ _ _ _
  have e0 : look [(3, AV.own (.lst [Tm.cw ⟨f, l⟩]) 300006)] 3 = some (.own (.lst ([Tm.mk f l].map Tm.cv)) 300006) := by
    simp only [List.map_cons, List.map_nil, Tm.cv_eq]
    rfl
  by_cases hf : f < 0
  · have hg : decide (f ≥ 0) = false := by simpa using hf
    rw [show Tm.flat ⟨f, l⟩ = [⟨f, l⟩] by rw [Tm.flat_eq, Tm.ps_of_var (t := ⟨f, l⟩) hf]; rfl]
    refine aB (awp_count 0 (fun k => [(1, .bp 1 0 []), (100001, .bx (Tm.cw ⟨f, l⟩)), (3, .val (.lst ([Tm.mk f l].map Tm.cv))), (4, .val (.i k))]) (Wk.trans (wk_sub (s' := [(1, .bp 1 0 []), (100001, .bx (Tm.cw ⟨f, l⟩)), (3, .own (.lst ([Tm.mk f l].map Tm.cv)) 300006), (4, .val (.i (0 : Nat)))]) ⟨rfl, rfl, e0, rfl, trivial⟩) (wk_plain 3 rfl)) ?_)
    intro k hk
    refine aS (aS (aR ?_))
    (refine nx (aF (gN rfl) rfl rfl rfl rfl rfl rfl rfl rfl rfl) rfl ?_)
    (refine nx (aLb (gN rfl) rfl rfl rfl rfl rfl rfl rfl rfl rfl rfl rfl rfl) rfl ?_)
    (refine nx (a_geq (gN rfl) rfl rfl rfl rfl rfl rfl) rfl ?_)
    (refine nx (aM (gN rfl) rfl rfl rfl rfl rfl) rfl ?_)
    (refine ⟨_, _, _, a_off (go_off rfl rfl rfl rfl (by first | rfl | assumption | (simp; done) | (simp [*]; done))) rfl rfl rfl, rfl, ?_⟩)
    (refine ⟨_, _, _, a_off (go_off rfl rfl rfl rfl (by first | rfl | assumption | (simp; done) | (simp [*]; done))) rfl rfl rfl, rfl, ?_⟩)
    (refine ⟨_, _, _, a_off (go_off rfl rfl rfl rfl (by first | rfl | assumption | (simp; done) | (simp [*]; done))) rfl rfl rfl, rfl, ?_⟩)
    (refine ⟨_, _, _, a_off (go_off rfl rfl rfl rfl (by first | rfl | assumption | (simp; done) | (simp [*]; done))) rfl rfl rfl, rfl, ?_⟩)
    (refine ⟨_, _, _, a_off (go_off rfl rfl rfl rfl (by first | rfl | assumption | (simp; done) | (simp [*]; done))) rfl rfl rfl, rfl, ?_⟩)
    (refine ⟨_, _, _, aPf (gN rfl) rfl rfl rfl rfl rfl ?hb rfl, rfl, ?_⟩; case hb => (first | rfl | assumption | (simp; done)))
    show AWp _ _ _ _ _ _ _
    refine aC rfl (fun hc => by cases hc) (fun hc => aE ?_)
    show AWp _ _ _ _ _ _ _
    refine aS (aR ?_)
    (refine nx (aM (gN rfl) rfl rfl rfl rfl rfl) rfl ?_)
    (refine nx (aA (gN rfl) rfl rfl rfl rfl rfl) rfl ?_)
    show AWp _ _ _ _ _ _ _
    exact aT (And.intro (.inr rfl) rfl)
  have hg : decide (f ≥ 0) = true := by simp only [decide_eq_true_eq]; omega
  have hfl : Tm.flat ⟨f, l⟩ = ⟨f, l⟩ :: l.flatMap Tm.flat := by rw [Tm.flat_eq, Tm.ps_of_sym (t := ⟨f, l⟩) (by show 0 ≤ f; omega)]
  unfold Tm.size at hts
  rw [hfl] at hts ⊢
  rw [List.length_cons] at hts
  refine aB (awp_count l.length (fun k => [(1, .bp 1 0 []), (100001, .bx (Tm.cw ⟨f, l⟩)), (3, .own (.lst ((Tm.mk f l :: (l.take k).flatMap Tm.flat).map Tm.cv)) 200026), (200026, .tok 29 2), (4, .val (.i k))])
    (Wk.trans (wk_sub (s' := [(1, .bp 1 0 []), (100001, .bx (Tm.cw ⟨f, l⟩)), (3, .own (.lst ([Tm.mk f l].map Tm.cv)) 300006), (300006, .tok 29 2), (4, .val (.i (0 : Nat)))]) ⟨rfl, rfl, e0, rfl, rfl, trivial⟩) (wk_ren 300006 200026 rfl rfl rfl rfl)) ?_)
  intro k hk
  refine aS (aS (aR ?_))
  (refine nx (aF (gN rfl) rfl rfl rfl rfl rfl rfl rfl rfl rfl) rfl ?_)
  (refine nx (aLb (gN rfl) rfl rfl rfl rfl rfl rfl rfl rfl rfl rfl rfl rfl) rfl ?_)
  (refine nx (a_geq (gN rfl) rfl rfl rfl rfl rfl rfl) rfl ?_)
  (refine nx (aM (gN rfl) rfl rfl rfl rfl rfl) rfl ?_)
  (refine nx (aM (gd_on rfl rfl rfl rfl (by first | rfl | assumption | (simp; done))) rfl rfl rfl rfl rfl) rfl ?_)
  (refine nx (aF (gd_on rfl rfl rfl rfl (by first | rfl | assumption | (simp; done))) rfl rfl rfl rfl rfl rfl rfl rfl rfl) rfl ?_)
  (refine nx (aLb (gd_on rfl rfl rfl rfl (by first | rfl | assumption | (simp; done))) rfl rfl rfl rfl rfl rfl rfl rfl rfl rfl rfl rfl) rfl ?_)
  (refine nx (a_len (gd_on rfl rfl rfl rfl (by first | rfl | assumption | (simp; done))) rfl rfl rfl rfl rfl rfl rfl) rfl ?_)
  (refine nx (a_lss (gd_on rfl rfl rfl rfl (by first | rfl | assumption | (simp; done))) rfl rfl rfl rfl rfl rfl) rfl ?_)
  (refine ⟨_, _, _, aPt (gN rfl) rfl rfl rfl rfl rfl ?hb rfl, rfl, ?_⟩; case hb => (first | rfl | assumption | (simp; done)))
  show AWp _ _ _ _ _ _ _
  refine aC rfl (fun hc => aK ?_) (fun hc => aE ?_)
  · have hkl : k < l.length := by
      simp only [List.length_map, decide_eq_true_eq] at hc
      omega
    clear hc
    obtain ⟨t, ht⟩ : ∃ t, l[k]? = some t := ⟨l[k], List.getElem?_eq_getElem hkl⟩
    have ht' := Tm.map_at ht
    have htm := List.mem_of_getElem? ht
    have hb1 := flat_len_take l k
    have hb2 := flatMap_len_mem Tm.flat htm
    have hb3 := flat_len_take l (k + 1)
    rw [List.take_add_one, ht, List.flatMap_append, List.length_append] at hb3
    simp only [Option.toList_some, List.flatMap_cons, List.flatMap_nil, List.append_nil] at hb3
    show AWp _ _ _ _ _ _ _
    refine aS (aB (aR ?_))
    (refine nx (aM (gN rfl) rfl rfl rfl rfl rfl) rfl ?_)
    (refine nx (aF (gN rfl) rfl rfl rfl rfl rfl rfl rfl rfl rfl) rfl ?_)
    (refine nx (aLb (gN rfl) rfl rfl rfl rfl rfl rfl rfl rfl rfl rfl rfl rfl) rfl ?_)
    (refine nx (aM (gN rfl) rfl rfl rfl rfl rfl) rfl ?_)
    (refine nx (a_index (gN rfl) rfl rfl rfl rfl rfl rfl rfl rfl rfl (by assumption) rfl (by first | assumption | exact sZ rfl | exact Tm.size_all _ | exact Bd.size_all _ | exact ints_size _ | exact bys_size _ | exact Lt.size_all _)) rfl ?_)
    (refine nx (a_load_ad (gN rfl) rfl rfl rfl rfl rfl rfl rfl rfl rfl) rfl ?_)
    (refine nx (a_call (gN rfl) rfl rfl rfl rfl rfl ((ih t htm (hok t htm) (by unfold Tm.size; omega)).up hW)) rfl ?_)
    (refine nx (a_app (gN rfl) rfl rfl rfl rfl rfl rfl rfl rfl rfl rfl rfl rfl rfl rfl rfl (by first | assumption | exact sZ rfl | exact Tm.size_all _ | exact Bd.size_all _ | exact ints_size _ | exact bys_size _ | exact Lt.size_all _) (by first | assumption | exact sZ rfl | exact Tm.size_all _ | exact Bd.size_all _ | exact ints_size _ | exact bys_size _ | exact Lt.size_all _) (by first | omega | (simp only [List.length_map, List.length_append, List.length_cons, List.length_nil] <;> omega) | (simp <;> omega))) rfl ?_)
    (refine nx (aA (gN rfl) rfl rfl rfl rfl rfl) rfl ?_)
    show AWp _ _ _ _ _ _ _
    refine aR ?_
    (refine nx (aM (gN rfl) rfl rfl rfl rfl rfl) rfl ?_)
    (refine nx (a_add (gN rfl) rfl rfl rfl rfl rfl rfl (by first | omega | (simp only [List.length_map, List.length_append, List.length_cons, List.length_nil] <;> omega) | (simp <;> omega))) rfl ?_)
    (refine nx (aA (gN rfl) rfl rfl rfl rfl rfl) rfl ?_)
    refine ⟨hkl, Wk.trans (wk_sub (s' := [(1, .bp 1 0 []), (100001, .bx (Tm.cw ⟨f, l⟩)), (3, .own (.lst ((Tm.mk f l :: (l.take (k + 1)).flatMap Tm.flat).map Tm.cv)) 300026), (300026, .tok 29 2), (4, .val (.i ((k + 1 : Nat) : Int)))]) ⟨rfl, rfl, ?_, rfl, rfl, trivial⟩) (wk_ren 300026 200026 rfl rfl rfl rfl)⟩
    rw [List.take_add_one, ht, List.flatMap_append, ← List.cons_append, List.map_append]
    simp only [Option.toList_some, List.flatMap_cons, List.flatMap_nil, List.append_nil]
    rfl
  · have hkl : k = l.length := by
      simp only [List.length_map, decide_eq_false_iff_not] at hc
      omega
    subst hkl
    rw [List.take_length]
    show AWp _ _ _ _ _ _ _
    refine aS (aR ?_)
    (refine nx (aM (gN rfl) rfl rfl rfl rfl rfl) rfl ?_)
    (refine nx (aA (gN rfl) rfl rfl rfl rfl rfl) rfl ?_)
    show AWp _ _ _ _ _ _ _
    exact aT (And.intro (.inr rfl) rfl)
theorem Tm.rng_flat {t : Tm} (h : t.rng) : ∀ s ∈ t.flat, -9223372036854775808 ≤ s.f ∧ s.f ≤ 9223372036854775807 := by
  induction t using Tm.indp with
  | h t ih =>
    intro s hs
    rw [Tm.flat_eq] at hs
    rcases List.mem_cons.1 hs with rfl | hs
    · exact ((Tm.rng_iff _).1 h).1
    · obtain ⟨u, hu, hs⟩ := List.mem_flatMap.1 hs
      exact ih u hu (((Tm.rng_iff _).1 h).2 u (Tm.ps_mem hu).1) s hs
theorem mem_take_succ {l : List Int} {k : Nat} {x n : Int} (h : l[k]? = some x) : n ∈ l.take (k + 1) ↔ n ∈ l.take k ∨ x = n := by
  rw [List.take_add_one, h, List.mem_append]
  simp [eq_comm]

-- 
set_option maxHeartbeats 2000000 in
theorem refVars_abs (W : World) (t : Tm) (hr : t.rng) (hok : t.ok) (hts : t.size ≤ 90000000000) : AFun Try.prog W 76 [t.cw] (.val (.lst ((varsF t.flat).map CV.i))) := by
  refine afun_of (rs := [.lst ((varsF t.flat).map CV.i)]) Try.func76 Try.ntmps76 rfl rfl rfl rfl ?_
  intro w U hW
  refine aS (aR ?_)
  (refine nx (a_box (gN rfl) rfl rfl rfl rfl rfl) rfl ?_)
  (refine nx (aA (gN rfl) rfl rfl rfl rfl rfl) rfl ?_)
  show AWp _ _ _ _ _ _ _
  refine aS (aR ?_)
  (refine nx (aL (gN rfl) rfl rfl rfl rfl rfl rfl rfl rfl rfl rfl rfl rfl) rfl ?_)
  (refine nx (a_call (gN rfl) rfl rfl rfl rfl rfl (refFlat_abs w t hok hts)) rfl ?_)
  (refine nx (aA (gN rfl) rfl rfl rfl rfl rfl) rfl ?_)
  show AWp _ _ _ _ _ _ _
  have hrf := Tm.rng_flat hr
  unfold Tm.size at hts
  obtain ⟨l, hl⟩ : ∃ l, l = t.flat := ⟨_, rfl⟩
  rw [← hl] at hrf hts ⊢
  have hsz := Tm.size_all l
  refine aS (aR ?_)
  (refine nx (aA (gN rfl) rfl rfl rfl rfl rfl) rfl ?_)
  show AWp _ _ _ _ _ _ _
  refine aS (aS (aR ?_))
  (refine nx (aA (gN rfl) rfl rfl rfl rfl rfl) rfl ?_)
  show AWp _ _ _ _ _ _ _
  refine aB (awp_count l.length (fun i => [(3, .val (.lst (l.map Tm.cv))), (4, .own (.lst ((varsF (l.take i)).map CV.i)) 200049), (200049, .tok 3 1), (5, .val (.i i))])
    ((wk_nil 4 200049 3 1 rfl rfl rfl rfl rfl rfl rfl).trans (wk_sub ⟨rfl, rfl, rfl, rfl, trivial⟩)) ?_)
  intro i hi
  refine aS (aS (aR ?_))
  (refine nx (aM (gN rfl) rfl rfl rfl rfl rfl) rfl ?_)
  (refine nx (aM (gN rfl) rfl rfl rfl rfl rfl) rfl ?_)
  (refine nx (a_len (gN rfl) rfl rfl rfl rfl rfl rfl rfl) rfl ?_)
  (refine nx (a_lss (gN rfl) rfl rfl rfl rfl rfl rfl) rfl ?_)
  show AWp _ _ _ _ _ _ _
  refine aC rfl (fun hc => aK ?_) (fun hc => aE ?_)
  · have hil : i < l.length := by
      simp only [List.length_map, decide_eq_true_eq] at hc
      omega
    clear hc
    obtain ⟨s, hs⟩ : ∃ s, l[i]? = some s := ⟨l[i], List.getElem?_eq_getElem hil⟩
    have hs' := Tm.map_at hs
    have hsr := hrf s (List.mem_of_getElem? hs)
    have htk : l.take (i + 1) = l.take i ++ [s] := by rw [List.take_add_one, hs]; rfl
    have hvl := varsF_len (l.take i)
    rw [List.length_take] at hvl
    show AWp _ _ _ _ _ _ _
    refine aS (aB (aS (aS (aR ?_))))
    (refine nx (aM (gN rfl) rfl rfl rfl rfl rfl) rfl ?_)
    (refine nx (aM (gN rfl) rfl rfl rfl rfl rfl) rfl ?_)
    (refine nx (a_index (gN rfl) rfl rfl rfl rfl rfl rfl rfl rfl rfl (by assumption) rfl (by first | assumption | exact sZ rfl | exact Tm.size_all _ | exact Bd.size_all _ | exact ints_size _ | exact bys_size _ | exact Lt.size_all _)) rfl ?_)
    (refine nx (a_field_ad (gN rfl) rfl rfl rfl rfl rfl rfl rfl rfl rfl rfl rfl) rfl ?_)
    (refine nx (a_load_ad (gN rfl) rfl rfl rfl rfl rfl rfl rfl rfl rfl) rfl ?_)
    (refine nx (a_geq (gN rfl) rfl rfl rfl rfl rfl rfl) rfl ?_)
    show AWp _ _ _ _ _ _ _
    refine aC rfl (fun hc => aE ?_) (fun hc => aK ?_)
    · have hsf : ¬ s.f < 0 := by
        simp only [decide_eq_true_eq] at hc
        omega
      show AWp _ _ _ _ _ _ _
      refine aR ?_
      (refine nx (aM (gN rfl) rfl rfl rfl rfl rfl) rfl ?_)
      (refine nx (a_add (gN rfl) rfl rfl rfl rfl rfl rfl (by first | omega | (simp only [List.length_map, List.length_append, List.length_cons, List.length_nil] <;> omega) | (simp <;> omega))) rfl ?_)
      (refine nx (aA (gN rfl) rfl rfl rfl rfl rfl) rfl ?_)
      refine ⟨hil, wk_sub ⟨rfl, ?_, rfl, rfl, trivial⟩⟩
      rw [htk, varsF_snoc]
      unfold varS
      rw [if_neg hsf]
      rfl
    have hsf : s.f < 0 := by
      simp only [decide_eq_false_iff_not] at hc
      omega
    clear hc
    show AWp _ _ _ _ _ _ _
    refine aS (aR ?_)
    (refine nx (aM (gN rfl) rfl rfl rfl rfl rfl) rfl ?_)
    (refine nx (aM (gN rfl) rfl rfl rfl rfl rfl) rfl ?_)
    (refine nx (a_index (gN rfl) rfl rfl rfl rfl rfl rfl rfl rfl rfl (by assumption) rfl (by first | assumption | exact sZ rfl | exact Tm.size_all _ | exact Bd.size_all _ | exact ints_size _ | exact bys_size _ | exact Lt.size_all _)) rfl ?_)
    (refine nx (a_field_ad (gN rfl) rfl rfl rfl rfl rfl rfl rfl rfl rfl rfl rfl) rfl ?_)
    (refine nx (a_load_ad (gN rfl) rfl rfl rfl rfl rfl rfl rfl rfl rfl) rfl ?_)
    (refine nx (a_sub (gN rfl) rfl rfl rfl rfl rfl rfl (by first | omega | (simp only [List.length_map, List.length_append, List.length_cons, List.length_nil] <;> omega) | (simp <;> omega))) rfl ?_)
    (refine nx (aA (gN rfl) rfl rfl rfl rfl rfl) rfl ?_)
    show AWp _ _ _ _ _ _ _
    refine aS (aR ?_)
    (refine nx (aA (gN rfl) rfl rfl rfl rfl rfl) rfl ?_)
    show AWp _ _ _ _ _ _ _
    obtain ⟨n, hn⟩ : ∃ n, n = -1 - s.f := ⟨_, rfl⟩
    obtain ⟨out, ho⟩ : ∃ out, out = varsF (l.take i) := ⟨_, rfl⟩
    rw [← ho] at hvl ⊢
    have hoz := ints_size out
    refine aS (aS (aR ?_))
    (refine nx (aA (gN rfl) rfl rfl rfl rfl rfl) rfl ?_)
    show AWp _ _ _ _ _ _ _
    refine aB (awp_count out.length (fun k => [(3, .val (.lst (l.map Tm.cv))), (4, .own (.lst (out.map CV.i)) 200049), (200049, .tok 3 1), (5, .val (.i i)), (6, .val (.i n)), (7, .val (.b (decide (n ∈ out.take k)))), (8, .val (.i k))]) (wk_sub ⟨rfl, rfl, rfl, rfl, by rw [hn]; rfl, rfl, rfl, trivial⟩) ?_)
    intro k hk
    refine aS (aS (aR ?_))
    (refine nx (aM (gN rfl) rfl rfl rfl rfl rfl) rfl ?_)
    (refine nx (aM (gN rfl) rfl rfl rfl rfl rfl) rfl ?_)
    (refine nx (a_len (gN rfl) rfl rfl rfl rfl rfl rfl rfl) rfl ?_)
    (refine nx (a_lss (gN rfl) rfl rfl rfl rfl rfl rfl) rfl ?_)
    show AWp _ _ _ _ _ _ _
    refine aC rfl (fun hc => aK ?_) (fun hc => aE ?_)
    · have hkl : k < out.length := by
        simp only [List.length_map, decide_eq_true_eq] at hc
        omega
      clear hc
      obtain ⟨x, hx⟩ : ∃ x, out[k]? = some x := ⟨out[k], List.getElem?_eq_getElem hkl⟩
      have hx' := ints_at hx
      show AWp _ _ _ _ _ _ _
      by_cases hm : n ∈ out.take k
      · have hg : decide (n ∈ out.take k) = true := by simpa using hm
        refine aS (aB (aR ?_))
        (refine nx (aM (gN rfl) rfl rfl rfl rfl rfl) rfl ?_)
        (refine nx (aM (gN rfl) rfl rfl rfl rfl rfl) rfl ?_)
        (refine ⟨_, _, _, a_off (go_off rfl rfl rfl rfl (by first | rfl | assumption | (simp; done) | (simp [*]; done))) rfl rfl rfl, rfl, ?_⟩)
        (refine ⟨_, _, _, a_off (go_off rfl rfl rfl rfl (by first | rfl | assumption | (simp; done) | (simp [*]; done))) rfl rfl rfl, rfl, ?_⟩)
        (refine ⟨_, _, _, a_off (go_off rfl rfl rfl rfl (by first | rfl | assumption | (simp; done) | (simp [*]; done))) rfl rfl rfl, rfl, ?_⟩)
        (refine ⟨_, _, _, a_off (go_off rfl rfl rfl rfl (by first | rfl | assumption | (simp; done) | (simp [*]; done))) rfl rfl rfl, rfl, ?_⟩)
        (refine ⟨_, _, _, a_off (go_off rfl rfl rfl rfl (by first | rfl | assumption | (simp; done) | (simp [*]; done))) rfl rfl rfl, rfl, ?_⟩)
        (refine ⟨_, _, _, a_off (go_off rfl rfl rfl rfl (by first | rfl | assumption | (simp; done) | (simp [*]; done))) rfl rfl rfl, rfl, ?_⟩)
        (refine ⟨_, _, _, aPt (gN rfl) rfl rfl rfl rfl rfl ?hb rfl, rfl, ?_⟩; case hb => (first | rfl | assumption | (simp; done)))
        (refine nx (aA (gN rfl) rfl rfl rfl rfl rfl) rfl ?_)
        show AWp _ _ _ _ _ _ _
        refine aR ?_
        (refine nx (aM (gN rfl) rfl rfl rfl rfl rfl) rfl ?_)
        (refine nx (a_add (gN rfl) rfl rfl rfl rfl rfl rfl (by first | omega | (simp only [List.length_map, List.length_append, List.length_cons, List.length_nil] <;> omega) | (simp <;> omega))) rfl ?_)
        (refine nx (aA (gN rfl) rfl rfl rfl rfl rfl) rfl ?_)
        refine ⟨hkl, wk_sub ⟨rfl, rfl, rfl, rfl, rfl, ?_, rfl, trivial⟩⟩
        have : decide (n ∈ out.take (k + 1)) = true := by rw [decide_eq_true_eq, mem_take_succ hx]; exact .inl hm
        rw [this]
        rfl
      · have hg : decide (n ∈ out.take k) = false := by simpa using hm
        refine aS (aB (aR ?_))
        (refine nx (aM (gN rfl) rfl rfl rfl rfl rfl) rfl ?_)
        (refine nx (aM (gN rfl) rfl rfl rfl rfl rfl) rfl ?_)
        (refine nx (aM (gd_on rfl rfl rfl rfl (by first | rfl | assumption | (simp; done))) rfl rfl rfl rfl rfl) rfl ?_)
        (refine nx (aM (gd_on rfl rfl rfl rfl (by first | rfl | assumption | (simp; done))) rfl rfl rfl rfl rfl) rfl ?_)
        (refine nx (a_index (gd_on rfl rfl rfl rfl (by first | rfl | assumption | (simp; done))) rfl rfl rfl rfl rfl rfl rfl rfl rfl (by assumption) rfl (by first | assumption | exact sZ rfl | exact Tm.size_all _ | exact Bd.size_all _ | exact ints_size _ | exact bys_size _ | exact Lt.size_all _)) rfl ?_)
        (refine nx (a_load_ad (gd_on rfl rfl rfl rfl (by first | rfl | assumption | (simp; done))) rfl rfl rfl rfl rfl rfl rfl rfl rfl) rfl ?_)
        (refine nx (aM (gd_on rfl rfl rfl rfl (by first | rfl | assumption | (simp; done))) rfl rfl rfl rfl rfl) rfl ?_)
        (refine nx (a_eql (gd_on rfl rfl rfl rfl (by first | rfl | assumption | (simp; done))) rfl rfl rfl rfl rfl rfl) rfl ?_)
        (refine ⟨_, _, _, aPf (gN rfl) rfl rfl rfl rfl rfl ?hb rfl, rfl, ?_⟩; case hb => (first | rfl | assumption | (simp; done)))
        (refine nx (aA (gN rfl) rfl rfl rfl rfl rfl) rfl ?_)
        show AWp _ _ _ _ _ _ _
        refine aR ?_
        (refine nx (aM (gN rfl) rfl rfl rfl rfl rfl) rfl ?_)
        (refine nx (a_add (gN rfl) rfl rfl rfl rfl rfl rfl (by first | omega | (simp only [List.length_map, List.length_append, List.length_cons, List.length_nil] <;> omega) | (simp <;> omega))) rfl ?_)
        (refine nx (aA (gN rfl) rfl rfl rfl rfl rfl) rfl ?_)
        refine ⟨hkl, wk_sub ⟨rfl, rfl, rfl, rfl, rfl, ?_, rfl, trivial⟩⟩
        have : decide (n ∈ out.take (k + 1)) = decide (x = n) := by rw [decide_eq_decide, mem_take_succ hx]; simp [hm]
        rw [this]
        rfl
    · have hkl : k = out.length := by
        simp only [List.length_map, decide_eq_false_iff_not] at hc
        omega
      subst hkl
      rw [List.take_length]
      show AWp _ _ _ _ _ _ _
      refine aS (aR ?_)
      (refine nx (aM (gN rfl) rfl rfl rfl rfl rfl) rfl ?_)
      (refine nx (a_not (gN rfl) rfl rfl rfl rfl rfl) rfl ?_)
      show AWp _ _ _ _ _ _ _
      refine aC rfl (fun hc => ?_) (fun hc => aK ?_)
      · have hm : n ∉ out := by simpa using hc
        refine aR ?_
        (refine nx (aM (gN rfl) rfl rfl rfl rfl rfl) rfl ?_)
        (refine nx (aM (gN rfl) rfl rfl rfl rfl rfl) rfl ?_)
        (refine nx (a_bslice (gN rfl) rfl rfl rfl rfl rfl rfl rfl rfl rfl rfl rfl rfl rfl) rfl ?_)
        (refine nx (a_app (gN rfl) rfl rfl rfl rfl rfl rfl rfl rfl rfl rfl rfl rfl rfl rfl rfl (by first | assumption | exact sZ rfl | exact Tm.size_all _ | exact Bd.size_all _ | exact ints_size _ | exact bys_size _ | exact Lt.size_all _) (by first | assumption | exact sZ rfl | exact Tm.size_all _ | exact Bd.size_all _ | exact ints_size _ | exact bys_size _ | exact Lt.size_all _) (by first | omega | (simp only [List.length_map, List.length_append, List.length_cons, List.length_nil] <;> omega) | (simp <;> omega))) rfl ?_)
        (refine nx (aA (gN rfl) rfl rfl rfl rfl rfl) rfl ?_)
        show AWp _ _ _ _ _ _ _
        refine aR ?_
        (refine nx (aM (gN rfl) rfl rfl rfl rfl rfl) rfl ?_)
        (refine nx (a_add (gN rfl) rfl rfl rfl rfl rfl rfl (by first | omega | (simp only [List.length_map, List.length_append, List.length_cons, List.length_nil] <;> omega) | (simp <;> omega))) rfl ?_)
        (refine nx (aA (gN rfl) rfl rfl rfl rfl rfl) rfl ?_)
        refine ⟨hil, Wk.trans (wk_sub (s' := [(3, .val (.lst (l.map Tm.cv))), (4, .own (.lst ((varsF (l.take (i + 1))).map CV.i)) 300049), (300049, .tok 3 1), (5, .val (.i ((i + 1 : Nat) : Int)))]) ⟨rfl, ?_, rfl, rfl, trivial⟩) (wk_ren 300049 200049 rfl rfl rfl rfl)⟩
        have : varsF (l.take (i + 1)) = out ++ [n] := by
          rw [htk, varsF_snoc, ← ho]
          unfold varS
          rw [if_pos hsf, ← hn, if_neg hm]
        rw [this, List.map_append]
        rfl
      · have hm : n ∈ out := by simpa using hc
        show AWp _ _ _ _ _ _ _
        refine aR ?_
        (refine nx (aM (gN rfl) rfl rfl rfl rfl rfl) rfl ?_)
        (refine nx (a_add (gN rfl) rfl rfl rfl rfl rfl rfl (by first | omega | (simp only [List.length_map, List.length_append, List.length_cons, List.length_nil] <;> omega) | (simp <;> omega))) rfl ?_)
        (refine nx (aA (gN rfl) rfl rfl rfl rfl rfl) rfl ?_)
        refine ⟨hil, wk_sub ⟨rfl, ?_, rfl, rfl, trivial⟩⟩
        have : varsF (l.take (i + 1)) = out := by
          rw [htk, varsF_snoc, ← ho]
          unfold varS
          rw [if_pos hsf, ← hn, if_pos hm]
        rw [this]
        rfl
  · have hil : i = l.length := by
      simp only [List.length_map, decide_eq_false_iff_not] at hc
      omega
    subst hil
    rw [List.take_length]
    show AWp _ _ _ _ _ _ _
    refine aS (aR ?_)
    (refine nx (aM (gN rfl) rfl rfl rfl rfl rfl) rfl ?_)
    (refine nx (aA (gN rfl) rfl rfl rfl rfl rfl) rfl ?_)
    show AWp _ _ _ _ _ _ _
    exact aT (And.intro (.inr rfl) rfl)
set_option maxHeartbeats 1000000 in
-- 
theorem of_abs (W : World) : ∀ (t : Tm), t.ok → AFun Try.prog W 11 [t.cw] (.val t.cw) := by
  intro t
  induction t using Tm.ind with
  | h f l ih =>
  intro hok
  obtain ⟨hl, hok⟩ := (Tm.ok_iff _).1 hok
  simp only at hl hok
  refine afun_of (rs := [Tm.cw ⟨f, l⟩]) Try.func11 Try.ntmps11 rfl rfl rfl rfl ?_
  intro w U hW
  refine aS (aR ?_)
  (refine nx (a_box (gN rfl) rfl rfl rfl rfl rfl) rfl ?_)
  (refine nx (a_alloc (gN rfl) rfl rfl rfl rfl rfl rfl rfl rfl rfl rfl) rfl ?_)
  show AWp _ _ _ _ _ _ _
  refine aS (aR ?_)
  (refine nx (aF (gN rfl) rfl rfl rfl rfl rfl rfl rfl rfl rfl) rfl ?_)
  (refine nx (aLb (gN rfl) rfl rfl rfl rfl rfl rfl rfl rfl rfl rfl rfl rfl) rfl ?_)
  (refine nx (a_build (gN rfl) rfl rfl rfl rfl rfl rfl rfl rfl rfl rfl rfl) rfl ?_)
  (refine nx (a_alloc (gN rfl) rfl rfl rfl rfl rfl rfl rfl rfl rfl rfl) rfl ?_)
  (refine nx (aSt (gN rfl) rfl rfl rfl rfl rfl rfl rfl rfl rfl rfl) rfl ?_)
  show AWp _ _ _ _ _ _ _
  refine aS (aS (aR ?_))
  (refine nx (aA (gN rfl) rfl rfl rfl rfl rfl) rfl ?_)
  show AWp _ _ _ _ _ _ _
  refine aB (awp_count l.length (fun k => [(1, .bp 1 0 []), (100001, .bx (Tm.cw ⟨f, l⟩)), (2, .bp 2 0 []), (100002, ⟨5, .row [.i 0, .lst []], 1, 0, [1]⟩), (3, .bp 3 0 []), (100003, ⟨5, .row [.i f, .lst ((l.take k).map Tm.cv)], 200024, 0, [1]⟩), (200024, .tok 31 2), (4, .val (.i k))])
    ((wk_nil 100003 200024 31 2 rfl rfl rfl rfl rfl rfl rfl).trans (wk_sub ⟨rfl, rfl, rfl, rfl, rfl, rfl, rfl, rfl, trivial⟩)) ?_)
  intro k hk
  refine aS (aS (aR ?_))
  (refine nx (aM (gN rfl) rfl rfl rfl rfl rfl) rfl ?_)
  (refine nx (aF (gN rfl) rfl rfl rfl rfl rfl rfl rfl rfl rfl) rfl ?_)
  (refine nx (aLb (gN rfl) rfl rfl rfl rfl rfl rfl rfl rfl rfl rfl rfl rfl) rfl ?_)
  (refine nx (a_len (gN rfl) rfl rfl rfl rfl rfl rfl rfl) rfl ?_)
  (refine nx (a_lss (gN rfl) rfl rfl rfl rfl rfl rfl) rfl ?_)
  show AWp _ _ _ _ _ _ _
  refine aC rfl (fun hc => ?_) (fun hc => ?_)
  · simp only [List.length_map, decide_eq_true_eq] at hc
    have hkl : k < l.length := by omega
    obtain ⟨t, ht⟩ : ∃ t, l[k]? = some t := ⟨l[k], List.getElem?_eq_getElem hkl⟩
    refine aK ?_
    show AWp _ _ _ _ _ _ _
    refine aS (aB (aD (by kernel_rfl) (by kernel_rfl) ?_))
    (refine nx (aF (gN rfl) rfl rfl rfl rfl rfl rfl rfl rfl rfl) rfl ?_)
    (refine nx (a_load_tok (gN rfl) rfl rfl rfl rfl rfl rfl rfl rfl rfl rfl rfl rfl rfl) rfl ?_)
    (refine nx (aF (gN rfl) rfl rfl rfl rfl rfl rfl rfl rfl rfl) rfl ?_)
    (refine nx (aLb (gN rfl) rfl rfl rfl rfl rfl rfl rfl rfl rfl rfl rfl rfl) rfl ?_)
    (refine nx (aM (gN rfl) rfl rfl rfl rfl rfl) rfl ?_)
    (refine nx (a_index (j := _) (gN rfl) rfl rfl rfl rfl rfl rfl rfl rfl rfl (Tm.map_at ht) rfl (Tm.size_all l)) rfl ?_)
    (refine nx (a_load_ad (gN rfl) rfl rfl rfl rfl rfl rfl rfl rfl rfl) rfl ?_)
    (refine nx (a_call (gN rfl) rfl rfl rfl rfl rfl ((ih t (List.mem_of_getElem? ht) (hok t (List.mem_of_getElem? ht))).up hW)) rfl ?_)
    (refine nx (a_bslice (gN rfl) rfl rfl rfl rfl rfl rfl rfl rfl rfl rfl rfl rfl rfl) rfl ?_)
    (refine nx (a_app (gN rfl) rfl rfl rfl rfl rfl rfl rfl rfl rfl rfl rfl rfl rfl rfl rfl (by first | assumption | exact sZ rfl | exact Tm.size_all _ | exact Bd.size_all _ | exact ints_size _ | exact bys_size _ | exact Lt.size_all _) (by first | assumption | exact sZ rfl | exact Tm.size_all _ | exact Bd.size_all _ | exact ints_size _ | exact bys_size _ | exact Lt.size_all _) (by first | omega | (simp only [List.length_map, List.length_append, List.length_cons, List.length_nil] <;> omega) | (simp <;> omega))) rfl ?_)
    (refine nx (aF (gN rfl) rfl rfl rfl rfl rfl rfl rfl rfl rfl) rfl ?_)
    (refine nx (a_store (gN rfl) rfl rfl rfl rfl rfl rfl rfl rfl rfl rfl) rfl ?_)
    refine ⟨by kernel_rfl, ?_⟩
    show AWp _ _ _ _ _ _ _
    refine aR ?_
    (refine nx (aM (gN rfl) rfl rfl rfl rfl rfl) rfl ?_)
    (refine nx (a_add (gN rfl) rfl rfl rfl rfl rfl rfl (by first | omega | (simp only [List.length_map, List.length_append, List.length_cons, List.length_nil] <;> omega) | (simp <;> omega))) rfl ?_)
    (refine nx (aA (gN rfl) rfl rfl rfl rfl rfl) rfl ?_)
    refine ⟨hkl, Wk.trans (wk_sub (s' := [(1, .bp 1 0 []), (100001, .bx (Tm.cw ⟨f, l⟩)), (2, .bp 2 0 []), (100002, ⟨5, .row [.i 0, .lst []], 1, 0, [1]⟩), (3, .bp 3 0 []), (100003, ⟨5, .row [.i f, .lst ((l.take (k + 1)).map Tm.cv)], 300024, 0, [1]⟩), (300024, .tok 31 2), (4, .val (.i ((k + 1 : Nat) : Int)))]) ⟨rfl, rfl, rfl, rfl, rfl, ?_, rfl, rfl, trivial⟩) (wk_ren 300024 200024 rfl rfl rfl rfl)⟩
    rw [List.take_add_one, ht, List.map_append]
    simp only [Option.toList_some, List.map_cons, List.map_nil, Tm.cv_eq]
    rfl
  · refine aE ?_
    show AWp _ _ _ _ _ _ _
    have hkl : k = l.length := by
      simp only [List.length_map, decide_eq_false_iff_not] at hc
      omega
    subst hkl
    rw [List.take_length]
    refine aS (aR ?_)
    (refine nx (aL (gN rfl) rfl rfl rfl rfl rfl rfl rfl rfl rfl rfl rfl rfl) rfl ?_)
    (refine nx (aSt (gN rfl) rfl rfl rfl rfl rfl rfl rfl rfl rfl rfl) rfl ?_)
    show AWp _ _ _ _ _ _ _
    exact aT ⟨.inr rfl, rfl⟩
def fineBd (b : Bd) : Bool := decide (0 ≤ b.v) && (decide (b.v ≤ 1000) && decide (0 ≤ smallT b.t 20 10))
def fine7B (l : List Bd) : Bool := l.all fineBd && decide (l.length ≤ 8)
def appR (l : List Bd) : Tm → Tm
  | ⟨f, ts⟩ => if f < 0 then imgB l (-1 - f) else ⟨f, ts.map (appR l)⟩
end Go.Proofs.Ytglbohajmccehaa
namespace Go.Proofs.Ytglbohajmccehaa
set_option linter.unusedVariables false
set_option linter.unusedSimpArgs false
def ixOf : List Int → Int → Nat
  | [], _ => 0
  | x :: l, v => if x = v then 0 else ixOf l v + 1
def zipB (a b : List Int) : List Bd := List.zipWith (fun v u => ⟨v, varT u⟩) a b
def nums (n : Nat) : List Int := (List.range n).map fun i : Nat => (i : Int)
def Tm.nv (t : Tm) : List Int := nub t.vs
theorem nv_vars (t : Tm) : varsF t.flat = t.nv := varsF_nub _
def canT (t : Tm) : Tm := repT (imgB (zipB t.nv (nums t.nv.length))) t
def vntB (a b : Tm) : Bool := decide (a.nv.length = b.nv.length) && sameT (repT (imgB (zipB a.nv b.nv)) a) b
end Go.Proofs.Ytglbohajmccehaa
namespace Go.Proofs.Ytglbohajmccehaa
open Go.RowKit
set_option linter.unusedVariables false
set_option linter.unusedSimpArgs false
set_option maxRecDepth 100000
def Tm.pa (t : Tm) (n : Int) : Option Tm := if 0 ≤ n then t.ps[n.toNat]? else none
def undB (p q : List Int) : Bool := decide (q = p.take q.length)
def atP : List Int → Tm → Option Tm
  | [], t => some t
  | k :: ks, t => (t.pa k).bind (atP ks)
def stepP (p : List Int) (t : Tm) (k : Nat) : Tm := (atP (p.take k) t).getD ⟨0, []⟩

def putP (u : Tm) : List Int → Tm → Option Tm
  | [], t => some u.strip
  | k :: ks, t => (t.pa k).bind fun s => (putP u ks s).map fun v => ⟨t.f, (t.l.take k.toNat).map Tm.strip ++ v :: (t.l.drop (k.toNat + 1)).map Tm.strip⟩
end Go.Proofs.Ytglbohajmccehaa
namespace Go.Proofs.Ytglbohajmccehaa
set_option linter.unusedVariables false
set_option linter.unusedSimpArgs false
theorem split_at {l : List Tm} {m : Nat} {s : Tm} (h : l[m]? = some s) : l = l.take m ++ s :: l.drop (m + 1) ∧ m < l.length := by
  have hm : m < l.length := by
    rcases Nat.lt_or_ge m l.length with h1 | h1
    · exact h1
    · rw [List.getElem?_eq_none h1] at h; cases h
  refine ⟨?_, hm⟩
  have e : l[m] = s := by rw [List.getElem?_eq_getElem hm] at h; exact Option.some.inj h
  rw [← e, ← List.drop_eq_getElem_cons hm, List.take_append_drop]
def cov (a b : Tm) : Prop := ∀ v, b.vs.count v ≤ a.vs.count v
def ordV (z w : Int) : Int := if 0 < z then 1 else if z < 0 then -1 else w
noncomputable def pickV (o : Int) (c d : Prop) : Int :=
  haveI := Classical.propDecidable
  if (o = 1 ∧ ¬ c) ∨ (o = -1 ∧ ¬ d) then 2 else o
noncomputable def verd (z : Int) (c d : Prop) (w : Int) : Int := if w = 0 then 0 else pickV (ordV z w) c d
def hdK (a b : Tm) : Int := if a.f < 0 ∨ b.f < 0 then 2 else if a.f ≠ b.f then cmpZ a.f b.f else cmpZ a.l.length b.l.length
noncomputable def firstK (k : Int) (r : Int) : Int := if k ≠ 0 then k else r
noncomputable def szD (a b : Tm) : Int := (a.size : Int) - b.size
noncomputable def kb (p : Tm) : Tm → Int :=
  Tm.rec (motive_1 := fun _ => Tm → Int) (motive_2 := fun _ => List Tm → Int)
    (fun f l ih t => verd (szD ⟨f, l⟩ t) (cov ⟨f, l⟩ t) (cov t ⟨f, l⟩) (if f ≠ t.f ∨ (Tm.mk f l).ps.length ≠ t.ps.length then hdK ⟨f, l⟩ t else if f < 0 then 0 else ih t.l))
    (fun _ => 0)
    (fun _ _ ih1 ih2 ts => match ts with | [] => 0 | t :: ts => firstK (ih1 t) (ih2 ts)) p
noncomputable def kbs (ps : List Tm) : List Tm → Int :=
  Tm.rec_1 (motive_1 := fun _ => Tm → Int) (motive_2 := fun _ => List Tm → Int)
    (fun f l ih t => verd (szD ⟨f, l⟩ t) (cov ⟨f, l⟩ t) (cov t ⟨f, l⟩) (if f ≠ t.f ∨ (Tm.mk f l).ps.length ≠ t.ps.length then hdK ⟨f, l⟩ t else if f < 0 then 0 else ih t.l))
    (fun _ => 0)
    (fun _ _ ih1 ih2 ts => match ts with | [] => 0 | t :: ts => firstK (ih1 t) (ih2 ts)) ps
noncomputable def wi (a b : Tm) : Int := if a.f ≠ b.f ∨ a.ps.length ≠ b.ps.length then hdK a b else kbs a.ps b.ps
theorem kbs_nil (ts : List Tm) : kbs [] ts = 0 := rfl
theorem kbs_cons (p : Tm) (ps : List Tm) (t : Tm) (ts : List Tm) : kbs (p :: ps) (t :: ts) = firstK (kb p t) (kbs ps ts) := rfl
theorem kb_eq (a b : Tm) : kb a b = verd (szD a b) (cov a b) (cov b a) (wi a b) := by
  cases a with
  | mk f l =>
    show verd _ _ _ _ = _
    congr 1
    unfold wi
    simp only
    split
    · rfl
    · rename_i h
      by_cases hf : f < 0
      · rw [if_pos hf, Tm.ps_of_var (t := ⟨f, l⟩) hf, kbs_nil]
      · rw [if_neg hf, Tm.ps_of_sym (t := ⟨f, l⟩) (by show 0 ≤ f; omega), Tm.ps_of_sym (t := b) (by have := Classical.not_not.1 (fun e => h (.inl e)); omega)]
        rfl

theorem verd_cases (z : Int) (c d : Prop) (w : Int) : (w = 0 ∧ verd z c d w = 0) ∨ (w ≠ 0 ∧ ∃ o, ((0 < z ∧ o = 1) ∨ (z < 0 ∧ o = -1) ∨ (z = 0 ∧ o = w)) ∧ ((verd z c d w = 2 ∧ ((o = 1 ∧ ¬ c) ∨ (o = -1 ∧ ¬ d))) ∨ (verd z c d w = o ∧ ¬ ((o = 1 ∧ ¬ c) ∨ (o = -1 ∧ ¬ d))))) := by
  unfold verd
  by_cases h0 : w = 0
  · left; exact ⟨h0, if_pos h0⟩
  · right
    refine ⟨h0, ordV z w, ?_, ?_⟩
    · unfold ordV
      by_cases h1 : 0 < z
      · rw [if_pos h1]; exact .inl ⟨h1, rfl⟩
      · rw [if_neg h1]
        by_cases h2 : z < 0
        · rw [if_pos h2]; exact .inr (.inl ⟨h2, rfl⟩)
        · rw [if_neg h2]; exact .inr (.inr ⟨by omega, rfl⟩)
    · rw [if_neg h0]
      generalize ordV z w = o
      unfold pickV
      by_cases h3 : (o = 1 ∧ ¬ c) ∨ (o = -1 ∧ ¬ d)
      · left; exact ⟨if_pos h3, h3⟩
      · right; exact ⟨if_neg h3, h3⟩
theorem verd_zero {z : Int} {c d : Prop} {w : Int} : verd z c d w = 0 ↔ w = 0 := by
  rcases verd_cases z c d w with ⟨h1, h2⟩ | ⟨h1, o, h2, ⟨h3, h4⟩ | ⟨h3, h4⟩⟩
  · exact ⟨fun _ => h1, fun _ => h2⟩
  · omega
  · omega
theorem verd_one {z : Int} {c d : Prop} {w : Int} : verd z c d w = 1 ↔ w ≠ 0 ∧ c ∧ (0 < z ∨ (z = 0 ∧ w = 1)) := by
  rcases verd_cases z c d w with ⟨h1, h2⟩ | ⟨h1, o, h2, ⟨h3, h4⟩ | ⟨h3, h4⟩⟩
  · constructor
    · intro h; omega
    · rintro ⟨h, _⟩; exact absurd h1 h
  · constructor
    · intro h; omega
    · rintro ⟨_, hc, h⟩
      have : o = 1 := by omega
      rcases h4 with h4 | h4
      · exact absurd hc h4.2
      · omega
  · constructor
    · intro h
      have ho : o = 1 := by omega
      exact ⟨h1, Classical.not_not.1 fun hc => h4 (.inl ⟨ho, hc⟩), by omega⟩
    · rintro ⟨_, hc, h⟩; omega
theorem verd_less {z : Int} {c d : Prop} {w : Int} : verd z c d w = -1 ↔ w ≠ 0 ∧ d ∧ (z < 0 ∨ (z = 0 ∧ w = -1)) := by
  rcases verd_cases z c d w with ⟨h1, h2⟩ | ⟨h1, o, h2, ⟨h3, h4⟩ | ⟨h3, h4⟩⟩
  · constructor
    · intro h; omega
    · rintro ⟨h, _⟩; exact absurd h1 h
  · constructor
    · intro h; omega
    · rintro ⟨_, hc, h⟩
      have : o = -1 := by omega
      rcases h4 with h4 | h4
      · omega
      · exact absurd hc h4.2
  · constructor
    · intro h
      have ho : o = -1 := by omega
      exact ⟨h1, Classical.not_not.1 fun hc => h4 (.inr ⟨ho, hc⟩), by omega⟩
    · rintro ⟨_, hc, h⟩; omega
def K4 (k : Int) : Prop := k = 0 ∨ k = 1 ∨ k = -1 ∨ k = 2
theorem verd_four {z : Int} {c d : Prop} {w : Int} (h : K4 w) : K4 (verd z c d w) := by
  unfold K4 at *
  rcases verd_cases z c d w with ⟨h1, h2⟩ | ⟨h1, o, h2, ⟨h3, h4⟩ | ⟨h3, h4⟩⟩ <;> omega
theorem hd_four (a b : Tm) : K4 (hdK a b) := by
  unfold hdK K4
  split
  · omega
  · split
    · rcases cmpZ_cases a.f b.f with h | h | h <;> omega
    · rcases cmpZ_cases a.l.length b.l.length with h | h | h <;> omega
theorem hd_ne {a b : Tm} (h : a.f ≠ b.f ∨ a.ps.length ≠ b.ps.length) : hdK a b ≠ 0 := by
  unfold hdK
  split
  · omega
  · rename_i h1
    rw [Tm.ps_of_sym (t := a) (by omega), Tm.ps_of_sym (t := b) (by omega)] at h
    split
    · rcases cmpZ_cases a.f b.f with h2 | h2 | h2 <;> omega
    · rcases cmpZ_cases a.l.length b.l.length with h2 | h2 | h2 <;> omega
theorem kbs_four : ∀ {l m : List Tm}, (∀ s ∈ l, ∀ t, K4 (kb s t)) → K4 (kbs l m)
  | [], m, _ => .inl rfl
  | _ :: _, [], _ => .inl rfl
  | x :: l, y :: m, h => by
    rw [kbs_cons]
    unfold firstK
    split
    · exact h x (by simp) y
    · exact kbs_four fun s hs => h s (List.mem_cons_of_mem _ hs)
theorem kb_four (a : Tm) : ∀ b, K4 (kb a b) := by
  induction a using Tm.indp with
  | h a ih =>
    intro b
    rw [kb_eq]
    refine verd_four ?_
    unfold wi
    split
    · exact hd_four a b
    · exact kbs_four ih
theorem kbs_zero : ∀ {l m : List Tm}, l.length = m.length → (∀ s ∈ l, ∀ t, kb s t = 0 ↔ s.strip = t.strip) → (kbs l m = 0 ↔ l.map Tm.strip = m.map Tm.strip)
  | [], [], _, _ => by simp [kbs_nil]
  | [], _ :: _, h, _ => by simp at h
  | _ :: _, [], h, _ => by simp at h
  | x :: l, y :: m, h, ih => by
    rw [kbs_cons, List.map_cons, List.map_cons, List.cons.injEq, ← ih x (by simp) y, ← kbs_zero (by simpa using h) fun s hs => ih s (List.mem_cons_of_mem _ hs)]
    unfold firstK
    split
    · rename_i h1
      constructor
      · intro h2; exact absurd h2 h1
      · rintro ⟨h2, _⟩; exact h2
    · rename_i h1
      exact ⟨fun h2 => ⟨Classical.not_not.1 h1, h2⟩, fun h2 => h2.2⟩
theorem strip_eq_iff (a b : Tm) : a.strip = b.strip ↔ a.f = b.f ∧ a.ps.map Tm.strip = b.ps.map Tm.strip := by
  rw [Tm.strip_eq, Tm.strip_eq b, Tm.mk.injEq]
theorem kb_zero (a : Tm) : ∀ b, kb a b = 0 ↔ a.strip = b.strip := by
  induction a using Tm.indp with
  | h a ih =>
    intro b
    rw [kb_eq, verd_zero, strip_eq_iff]
    unfold wi
    split
    · rename_i h
      constructor
      · intro h1; exact absurd h1 (hd_ne h)
      · rintro ⟨h1, h2⟩
        have := congrArg List.length h2
        rw [List.length_map, List.length_map] at this
        omega
    · rename_i h
      have hf : a.f = b.f := by omega
      rw [kbs_zero (by omega) ih]
      exact ⟨fun h1 => ⟨hf, h1⟩, fun h1 => h1.2⟩
theorem cov_strip {a b : Tm} : cov a.strip b ↔ cov a b := by unfold cov; rw [Tm.strip_vs]
theorem cov_strip2 {a b : Tm} : cov a b.strip ↔ cov a b := by unfold cov; rw [Tm.strip_vs]
theorem hd_strip (a b : Tm) : hdK a.strip b.strip = hdK a b := by
  unfold hdK
  rw [Tm.strip_f, Tm.strip_f]
  split
  · rfl
  · rename_i h
    split
    · rfl
    · rw [Tm.strip_l, Tm.strip_l, List.length_map, List.length_map, Tm.ps_of_sym (t := a) (by omega), Tm.ps_of_sym (t := b) (by omega)]
theorem kbs_strip : ∀ {l m : List Tm}, (∀ s ∈ l, ∀ t, kb s.strip t.strip = kb s t) → kbs (l.map Tm.strip) (m.map Tm.strip) = kbs l m
  | [], m, _ => rfl
  | _ :: _, [], _ => rfl
  | x :: l, y :: m, h => by
    rw [List.map_cons, List.map_cons, kbs_cons, kbs_cons, h x (by simp) y, kbs_strip fun s hs => h s (List.mem_cons_of_mem _ hs)]
theorem kb_strip (a : Tm) : ∀ b, kb a.strip b.strip = kb a b := by
  induction a using Tm.indp with
  | h a ih =>
    intro b
    rw [kb_eq, kb_eq a]
    have h1 : wi a.strip b.strip = wi a b := by
      unfold wi
      rw [Tm.strip_f, Tm.strip_f, Tm.strip_ps, Tm.strip_ps, List.length_map, List.length_map, hd_strip, kbs_strip ih]
    have h2 : szD a.strip b.strip = szD a b := by unfold szD; rw [Tm.strip_size, Tm.strip_size]
    have h3 : cov a.strip b.strip = cov a b := propext (cov_strip.trans cov_strip2)
    have h4 : cov b.strip a.strip = cov b a := propext (cov_strip.trans cov_strip2)
    rw [h1, h2, h3, h4]
theorem kb_congr {a a' b b' : Tm} (h : a.strip = a'.strip) (h2 : b.strip = b'.strip) : kb a b = kb a' b' := by rw [← kb_strip a, h, h2, kb_strip]
theorem kb_one (a b : Tm) : kb a b = 1 ↔ cov a b ∧ (b.size < a.size ∨ (a.size = b.size ∧ wi a b = 1)) := by
  rw [kb_eq, verd_one]
  unfold szD
  constructor
  · rintro ⟨h1, h2, h3⟩; exact ⟨h2, by omega⟩
  · rintro ⟨h1, h2⟩
    refine ⟨fun e => ?_, h1, by omega⟩
    have h3 : kb a b = 0 := by rw [kb_eq, verd_zero]; exact e
    have h4 := (kb_zero a b).1 h3
    have h5 : a.size = b.size := by rw [← Tm.strip_size, h4, Tm.strip_size]
    omega
theorem hd_turn (a b : Tm) (h : hdK a b ≠ 2) : hdK b a = - hdK a b := by
  unfold hdK at *
  by_cases h1 : a.f < 0 ∨ b.f < 0
  · rw [if_pos h1] at h; exact absurd rfl h
  · rw [if_neg h1, if_neg (by omega)]
    by_cases h2 : a.f = b.f
    · rw [if_neg (by omega), if_neg (by omega)]
      rcases cmpZ_cases a.l.length b.l.length with h3 | h3 | h3 <;> rcases cmpZ_cases b.l.length a.l.length with h4 | h4 | h4 <;> omega
    · rw [if_pos (by omega), if_pos h2]
      rcases cmpZ_cases a.f b.f with h3 | h3 | h3 <;> rcases cmpZ_cases b.f a.f with h4 | h4 | h4 <;> omega
theorem hd_turn2 (a b : Tm) (h : hdK a b = 2) : hdK b a = 2 := by
  unfold hdK at *
  by_cases h1 : a.f < 0 ∨ b.f < 0
  · rw [if_pos (by omega)]
  · rw [if_neg h1] at h
    exfalso
    split at h
    · rcases cmpZ_cases a.f b.f with h3 | h3 | h3 <;> omega
    · rcases cmpZ_cases a.l.length b.l.length with h3 | h3 | h3 <;> omega
def trn (k : Int) : Int := if k = 2 then 2 else - k
theorem trn_four {k : Int} (h : K4 k) : (trn k = 0 ↔ k = 0) ∧ (trn k = 1 ↔ k = -1) ∧ (trn k = -1 ↔ k = 1) ∧ K4 (trn k) := by
  unfold trn K4 at *
  split <;> omega
theorem verd_turn {z : Int} {c d : Prop} {w : Int} (h : K4 w) : verd (-z) d c (trn w) = trn (verd z c d w) := by
  have h1 := verd_four (z := z) (c := c) (d := d) h
  have t0 := trn_four h
  have h2 := verd_four (z := -z) (c := d) (d := c) t0.2.2.2
  have t1 := trn_four h1
  have a0 := @verd_zero z c d w
  have a1 := @verd_one z c d w
  have a2 := @verd_less z c d w
  have b0 := @verd_zero (-z) d c (trn w)
  have b1 := @verd_one (-z) d c (trn w)
  have b2 := @verd_less (-z) d c (trn w)
  generalize verd (-z) d c (trn w) = y at *
  generalize verd z c d w = x at *
  have e0 : y = 0 ↔ x = 0 := by rw [b0, a0]; exact t0.1
  have e1 : y = 1 ↔ x = -1 := by
    rw [b1, a2]
    constructor
    · rintro ⟨g1, g2, g3⟩; exact ⟨fun e => g1 (t0.1.2 e), g2, by rcases g3 with g3 | ⟨g3, g4⟩; · omega
                                                                 · exact .inr ⟨by omega, t0.2.1.1 g4⟩⟩
    · rintro ⟨g1, g2, g3⟩; exact ⟨fun e => g1 (t0.1.1 e), g2, by rcases g3 with g3 | ⟨g3, g4⟩; · omega
                                                                 · exact .inr ⟨by omega, t0.2.1.2 g4⟩⟩
  have e2 : y = -1 ↔ x = 1 := by
    rw [b2, a1]
    constructor
    · rintro ⟨g1, g2, g3⟩; exact ⟨fun e => g1 (t0.1.2 e), g2, by rcases g3 with g3 | ⟨g3, g4⟩; · omega
                                                                 · exact .inr ⟨by omega, t0.2.2.1.1 g4⟩⟩
    · rintro ⟨g1, g2, g3⟩; exact ⟨fun e => g1 (t0.1.1 e), g2, by rcases g3 with g3 | ⟨g3, g4⟩; · omega
                                                                 · exact .inr ⟨by omega, t0.2.2.1.2 g4⟩⟩
  unfold trn
  unfold K4 at h1 h2
  split <;> omega
theorem kbs_turn : ∀ {l m : List Tm}, l.length = m.length → (∀ s ∈ l, ∀ t, kb t s = trn (kb s t)) → kbs m l = trn (kbs l m)
  | [], [], _, _ => by rw [kbs_nil]; rfl
  | [], _ :: _, h, _ => by simp at h
  | _ :: _, [], h, _ => by simp at h
  | x :: l, y :: m, h, ih => by
    rw [kbs_cons, kbs_cons, ih x (by simp) y, kbs_turn (by simpa using h) fun s hs => ih s (List.mem_cons_of_mem _ hs)]
    have := (trn_four (kb_four x y)).1
    unfold firstK
    by_cases h1 : kb x y = 0
    · rw [if_neg (fun e => e (this.2 h1)), if_neg (by omega)]
    · rw [if_pos (fun e => h1 (this.1 e)), if_pos h1]
theorem kb_turn (a : Tm) : ∀ b, kb b a = trn (kb a b) := by
  induction a using Tm.indp with
  | h a ih =>
    intro b
    rw [kb_eq, kb_eq a]
    have h1 : szD b a = - szD a b := by unfold szD; omega
    have h4 : K4 (wi a b) := by
      unfold wi
      split
      · exact hd_four a b
      · exact kbs_four fun s _ t => kb_four s t
    rw [h1, ← verd_turn h4]
    congr 1
    unfold wi
    by_cases h : a.f ≠ b.f ∨ a.ps.length ≠ b.ps.length
    · rw [if_pos h, if_pos (by omega)]
      unfold trn
      split
      · rename_i h2; exact hd_turn2 a b h2
      · rename_i h2; exact hd_turn a b h2
    · rw [if_neg h, if_neg (by omega)]
      exact kbs_turn (by omega) ih
theorem hd_one {a b : Tm} : hdK a b = 1 ↔ ¬ a.f < 0 ∧ ¬ b.f < 0 ∧ (b.f < a.f ∨ (a.f = b.f ∧ b.l.length < a.l.length)) := by
  unfold hdK
  split
  · constructor
    · intro h; omega
    · rintro ⟨h1, h2, _⟩; omega
  · rename_i h
    split
    · rename_i h2
      rcases cmpZ_cases a.f b.f with h3 | h3 | h3
      · constructor
        · intro h4; omega
        · rintro ⟨_, _, h4⟩; omega
      · constructor
        · intro h4; omega
        · rintro ⟨_, _, h4⟩; omega
      · exact ⟨fun _ => ⟨by omega, by omega, by omega⟩, fun _ => h3.1⟩
    · rename_i h2
      rcases cmpZ_cases a.l.length b.l.length with h3 | h3 | h3
      · constructor
        · intro h4; omega
        · rintro ⟨_, _, h4⟩; omega
      · constructor
        · intro h4; omega
        · rintro ⟨_, _, h4⟩; omega
      · exact ⟨fun _ => ⟨by omega, by omega, by omega⟩, fun _ => h3.1⟩
theorem wi_one {a b : Tm} : wi a b = 1 ↔ ¬ a.f < 0 ∧ ¬ b.f < 0 ∧ (b.f < a.f ∨ (a.f = b.f ∧ (b.l.length < a.l.length ∨ (a.l.length = b.l.length ∧ kbs a.l b.l = 1)))) := by
  unfold wi
  split
  · rename_i h
    rw [hd_one]
    constructor
    · rintro ⟨h1, h2, h3⟩; exact ⟨h1, h2, by omega⟩
    · rintro ⟨h1, h2, h3⟩
      rw [Tm.ps_of_sym (t := a) (by omega), Tm.ps_of_sym (t := b) (by omega)] at h
      exact ⟨h1, h2, by omega⟩
  · rename_i h
    by_cases hf : a.f < 0
    · rw [Tm.ps_of_var hf, kbs_nil]
      constructor
      · intro h; omega
      · rintro ⟨h1, _⟩; omega
    · rw [Tm.ps_of_sym (t := a) (by omega), Tm.ps_of_sym (t := b) (by omega)] at h ⊢
      constructor
      · intro h1; exact ⟨hf, by omega, .inr ⟨by omega, .inr ⟨by omega, h1⟩⟩⟩
      · rintro ⟨h1, h2, h3 | ⟨h3, h4 | ⟨h4, h5⟩⟩⟩
        · omega
        · omega
        · exact h5

def cn (s : Tm) (l : List Tm) : Nat := l.countP (fun t => sameT s t)
theorem cn_nil (s : Tm) : cn s [] = 0 := rfl
theorem cn_cons (s t : Tm) (l : List Tm) : cn s (t :: l) = cn s l + (if sameT s t = true then 1 else 0) := by unfold cn; exact List.countP_cons
theorem sameT_refl (s : Tm) : sameT s s = true := (sameT_iff _ _).2 rfl
theorem cn_congr {s t : Tm} (h : sameT s t = true) (l : List Tm) : cn s l = cn t l := by
  unfold cn
  refine List.countP_congr fun x _ => ?_
  rw [sameT_iff, sameT_iff, (sameT_iff _ _).1 h]
theorem cn_pos {s : Tm} {l : List Tm} : 0 < cn s l ↔ ∃ t ∈ l, sameT s t = true := by unfold cn; exact List.countP_pos_iff
theorem cn_mem {t : Tm} {l : List Tm} (h : t ∈ l) : 0 < cn t l := cn_pos.2 ⟨t, h, sameT_refl t⟩
theorem kb_same {a a' b b' : Tm} (h : sameT a a' = true) (h2 : sameT b b' = true) : kb a b = kb a' b' := kb_congr ((sameT_iff _ _).1 h) ((sameT_iff _ _).1 h2)

def mulP (A B : List Tm) : Prop := (∃ s, cn s B < cn s A) ∧ ∀ s, cn s A < cn s B → ∃ t, cn t B < cn t A ∧ kb t s = 1

def cutN : Nat → List Tm → List Tm → List Tm × List Tm
  | 0, a, b => (a, b)
  | n + 1, a, b => match a[n]? with
    | none => cutN n a b
    | some t => match b.findIdx? (sameT t) with
      | none => cutN n a b
      | some k => cutN n (a.eraseIdx n) (b.eraseIdx k)
theorem cn_erase (s : Tm) : ∀ {l : List Tm} {k : Nat} {t : Tm}, l[k]? = some t → cn s (l.eraseIdx k) + (if sameT s t = true then 1 else 0) = cn s l
  | [], k, t, h => by simp at h
  | x :: l, 0, t, h => by
    have e : x = t := by simpa using h
    subst e
    rw [List.eraseIdx_cons_zero, cn_cons]
  | x :: l, k + 1, t, h => by
    have e := cn_erase s (l := l) (k := k) (t := t) (by simpa using h)
    rw [List.eraseIdx_cons_succ, cn_cons, cn_cons, ← e]; omega
theorem cut_cn : ∀ (n : Nat) (a b : List Tm) (s : Tm), cn s (cutN n a b).1 + cn s b = cn s (cutN n a b).2 + cn s a
  | 0, a, b, s => by unfold cutN; exact Nat.add_comm _ _
  | n + 1, a, b, s => by
    unfold cutN
    split
    · exact cut_cn n a b s
    · rename_i t ht
      split
      · exact cut_cn n a b s
      · rename_i k hk
        obtain ⟨hkl, hp, _⟩ := List.findIdx?_eq_some_iff_getElem.1 hk
        have h1 := cut_cn n (a.eraseIdx n) (b.eraseIdx k) s
        have h2 := cn_erase s ht
        have h3 := cn_erase s (List.getElem?_eq_getElem hkl)
        have h4 : sameT s t = sameT s b[k] := by rw [Bool.eq_iff_iff, sameT_iff, sameT_iff, (sameT_iff _ _).1 hp]
        rw [h4] at h2
        omega
theorem drop_atT {a : List Tm} {n : Nat} {t : Tm} (h : a[n]? = some t) : a.drop n = t :: a.drop (n + 1) := by
  obtain ⟨hl, he⟩ := List.getElem?_eq_some_iff.1 h
  rw [List.drop_eq_getElem_cons hl, he]
theorem erase_drop {a : List Tm} {n : Nat} (h : n < a.length) : (a.eraseIdx n).drop n = a.drop (n + 1) := by
  rw [List.eraseIdx_eq_take_drop_succ, List.drop_append]
  rw [List.length_take, Nat.min_eq_left (by omega)]
  simp
theorem cut_apart : ∀ (n : Nat) (a b : List Tm), n ≤ a.length → (∀ t ∈ a.drop n, cn t b = 0) → ∀ t ∈ (cutN n a b).1, cn t (cutN n a b).2 = 0
  | 0, a, b, _, h => by unfold cutN; simpa using h
  | n + 1, a, b, hn, h => by
    unfold cutN
    split
    · rename_i ht; rw [List.getElem?_eq_none_iff] at ht; omega
    · rename_i t ht
      split
      · rename_i hk
        refine cut_apart n a b (by omega) fun u hu => ?_
        rw [drop_atT ht] at hu
        rcases List.mem_cons.1 hu with rfl | hu
        · rw [List.findIdx?_eq_none_iff] at hk
          refine Nat.eq_zero_of_not_pos fun hc => ?_
          obtain ⟨v, hv, he⟩ := cn_pos.1 hc
          have := hk v hv
          rw [he] at this; cases this
        · exact h u hu
      · rename_i k hk
        obtain ⟨hkl, hp, _⟩ := List.findIdx?_eq_some_iff_getElem.1 hk
        refine cut_apart n _ _ (by rw [List.length_eraseIdx_of_lt (by omega)]; omega) fun u hu => ?_
        rw [erase_drop (by omega)] at hu
        have h1 := h u hu
        have h2 := cn_erase u (List.getElem?_eq_getElem hkl)
        omega
noncomputable def outB (X Y : List Tm) : Bool := decide (0 < X.length) && !(Y.any fun y => !(X.any fun x => decide (kb x y = 1)))
theorem outB_iff (X Y : List Tm) : outB X Y = true ↔ X ≠ [] ∧ ∀ y ∈ Y, ∃ x ∈ X, kb x y = 1 := by
  unfold outB
  rw [Bool.and_eq_true, decide_eq_true_iff, Bool.not_eq_true', ← Bool.not_eq_true, List.any_eq_true, List.length_pos_iff]
  refine and_congr_right fun _ => ⟨fun h y hy => ?_, fun h hc => ?_⟩
  · by_cases hx : (X.any fun x => decide (kb x y = 1)) = true
    · obtain ⟨x, hx, he⟩ := List.any_eq_true.1 hx
      exact ⟨x, hx, of_decide_eq_true he⟩
    · exact absurd ⟨y, hy, by simpa using hx⟩ h
  · obtain ⟨y, hy, he⟩ := hc
    obtain ⟨x, hx, hk⟩ := h y hy
    have : (X.any fun x => decide (kb x y = 1)) = true := List.any_eq_true.2 ⟨x, hx, decide_eq_true hk⟩
    rw [this] at he; cases he
theorem out_mul {X Y A B : List Tm} (h1 : ∀ s, cn s X = cn s A - cn s B) (h2 : ∀ s, cn s Y = cn s B - cn s A) : outB X Y = true ↔ mulP A B := by
  rw [outB_iff]
  unfold mulP
  constructor
  · rintro ⟨h3, h4⟩
    refine ⟨?_, fun s hs => ?_⟩
    · cases X with
      | nil => exact absurd rfl h3
      | cons x X =>
        have h5 := cn_mem (l := x :: X) List.mem_cons_self
        have h6 := h1 x
        exact ⟨x, by omega⟩
    · have h5 := h2 s
      obtain ⟨y, hy, he⟩ := cn_pos.1 (show 0 < cn s Y by omega)
      obtain ⟨x, hx, hk⟩ := h4 y hy
      have h6 := cn_mem hx
      have h7 := h1 x
      exact ⟨x, by omega, by rw [kb_same (sameT_refl x) he]; exact hk⟩
  · rintro ⟨⟨s, hs⟩, h4⟩
    refine ⟨?_, fun y hy => ?_⟩
    · rintro rfl
      have h5 := h1 s
      rw [cn_nil] at h5; omega
    · have h5 := cn_mem hy
      have h6 := h2 y
      obtain ⟨t, ht, hk⟩ := h4 y (by omega)
      have h7 := h1 t
      obtain ⟨x, hx, he⟩ := cn_pos.1 (show 0 < cn t X by omega)
      exact ⟨x, hx, by rw [← kb_same he (sameT_refl y)]; exact hk⟩
noncomputable def mulB (a b : List Tm) : Bool := outB (cutN a.length a b).1 (cutN a.length a b).2
theorem mulB_iff (a b : List Tm) : mulB a b = true ↔ mulP a b := by
  have h1 := cut_cn a.length a b
  have h2 := cut_apart a.length a b (Nat.le_refl _) (by simp)
  have h3 : ∀ s, cn s (cutN a.length a b).1 = 0 ∨ cn s (cutN a.length a b).2 = 0 := by
    intro s
    by_cases hc : 0 < cn s (cutN a.length a b).1
    · obtain ⟨t, ht, he⟩ := cn_pos.1 hc
      right; rw [cn_congr he]; exact h2 t ht
    · left; omega
  refine out_mul (fun s => ?_) (fun s => ?_)
  · have := h1 s; have := h3 s; omega
  · have := h1 s; have := h3 s; omega

def hitI (b : List Tm) (u : List Bool) (t : Tm) : Option Nat := (b.zip u).findIdx? (fun p => !p.2 && sameT t p.1)
def lsD : List Tm → List Tm → List Bool → List Tm
  | [], b, u => []
  | t :: a, b, u => match hitI b u t with
    | none => t :: lsD a b u
    | some k => lsD a b (u.set k true)
def rm (s : Tm) (b : List Tm) (u : List Bool) : Nat := (b.zip u).countP (fun p => !p.2 && sameT s p.1)
theorem rm_set (s : Tm) : ∀ {b : List Tm} {u : List Bool} {k : Nat} {t : Tm}, (b.zip u)[k]? = some (t, false) → rm s b (u.set k true) + (if sameT s t = true then 1 else 0) = rm s b u
  | [], u, k, t, h => by simp at h
  | x :: b, [], k, t, h => by simp at h
  | x :: b, y :: u, 0, t, h => by
    have e : x = t ∧ y = false := by simpa using h
    obtain ⟨rfl, rfl⟩ := e
    unfold rm
    rw [List.set_cons_zero, List.zip_cons_cons, List.zip_cons_cons, List.countP_cons, List.countP_cons]
    simp
  | x :: b, y :: u, k + 1, t, h => by
    have e := rm_set s (b := b) (u := u) (k := k) (t := t) (by simpa using h)
    unfold rm at e ⊢
    rw [List.set_cons_succ, List.zip_cons_cons, List.zip_cons_cons, List.countP_cons, List.countP_cons, ← e]; omega
theorem ls_cn (s : Tm) : ∀ (a b : List Tm) (u : List Bool), cn s (lsD a b u) = cn s a - rm s b u
  | [], b, u => by unfold lsD; rw [cn_nil]; omega
  | t :: a, b, u => by
    unfold lsD
    split
    · rename_i hh
      rw [cn_cons, cn_cons, ls_cn s a b u]
      unfold hitI at hh
      rw [List.findIdx?_eq_none_iff] at hh
      by_cases hs : sameT s t = true
      · have h0 : rm s b u = 0 := by
          unfold rm
          rw [List.countP_eq_zero]
          intro p hp hc
          have := hh p hp
          rw [Bool.and_eq_true, sameT_iff, (sameT_iff _ _).1 hs, ← sameT_iff, ← Bool.and_eq_true] at hc
          rw [hc] at this; cases this
        rw [h0, if_pos hs]; omega
      · rw [if_neg hs]; omega
    · rename_i k hk
      unfold hitI at hk
      obtain ⟨hl, hp, _⟩ := List.findIdx?_eq_some_iff_getElem.1 hk
      rw [Bool.and_eq_true, Bool.not_eq_true'] at hp
      have he : (b.zip u)[k]? = some ((b.zip u)[k].1, false) := by rw [List.getElem?_eq_getElem hl, ← hp.1]
      have h1 := rm_set s he
      have h4 : sameT s t = sameT s (b.zip u)[k].1 := by rw [Bool.eq_iff_iff, sameT_iff, sameT_iff, (sameT_iff _ _).1 hp.2]
      rw [← h4] at h1
      rw [ls_cn s a b _, cn_cons]
      by_cases hs : sameT s t = true
      · rw [if_pos hs] at h1 ⊢; omega
      · rw [if_neg hs] at h1 ⊢; omega
theorem rm_new (s : Tm) : ∀ (b : List Tm), rm s b (List.replicate b.length false) = cn s b
  | [] => rfl
  | x :: b => by
    have e := rm_new s b
    unfold rm at e ⊢
    rw [List.length_cons, List.replicate_succ, List.zip_cons_cons, List.countP_cons, e, cn_cons]
    simp
def lessD (a b : List Tm) : List Tm := lsD a b (List.replicate b.length false)
theorem less_cn (s : Tm) (a b : List Tm) : cn s (lessD a b) = cn s a - cn s b := by unfold lessD; rw [ls_cn, rm_new]
theorem mul_doc (a b : List Tm) : outB (lessD a b) (lessD b a) = mulB a b := by
  rw [Bool.eq_iff_iff, mulB_iff]
  exact out_mul (fun s => less_cn s a b) (fun s => less_cn s b a)
end Go.Proofs.Ytglbohajmccehaa
