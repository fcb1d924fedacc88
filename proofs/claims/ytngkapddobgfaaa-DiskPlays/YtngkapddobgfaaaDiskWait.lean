/-
  A copy of bytes, a deed that waits, and all that is seen made to last.
-/
import Derived.Test.YtngkapddobgfaaaDiskBase
import Derived.Lib.SmallJoins
import Derived.Deep.RegionLaw
namespace Go.Proofs.Ytngkapddobgfaaa
open Go.RowKit Go.Maps
set_option linter.unusedVariables false

set_option maxRecDepth 100000 in
set_option maxHeartbeats 400000 in
theorem clone_any (a : Option Addr) (n c : Nat) (zs : List Int) (w : World) (hnil : a = none → n = 0 ∧ c = 0) (hb : Bs w a n zs) (hn : n ≤ 140737488355328) :
    Calls Try.prog 44 #[.slice a n c] w fun e w' => ∃ s : Sl, e = .returned s.val ∧ Fl w' s zs ∧ (∀ g, s.blk = some g → w.heap.size ≤ g) ∧ Below w.heap.size w w' := by
  have q : ∀ (w : World) (a : Option Addr) (n c n' c' : Nat), (binOp .eql 32 (.slice a n c) (.slice none n' c')).run Try.prog w = .ok (.bool a.isNone) w := fun w a n c n' c' => Lib.run_eql_slice_nil w _ _ a n c n' c' Try.underlying32
  cases a with
  | none =>
    obtain ⟨rfl, rfl⟩ := hnil rfl
    have hz : zs = [] := List.eq_nil_of_length_eq_zero hb.1
    subst hz
    go_enter Try.func44, Try.ntmps44
    go_wp2
    go_ret
    exact ⟨⟨none, 0, 0⟩, rfl, Fl.nil _, (fun g hg => by cases hg), Below.refl _ _⟩
  | some ad =>
    go_enter Try.func44, Try.ntmps44
    have hbn : Below w.heap.size w (w.alloc (.cells #[] 5)) := (Below.refl _ _).alloc (Nat.le_refl _) _
    go_wp2_with (at_builtin; refine wpList_append_bytes _ rfl _ _ rfl w.heap.size Try.underlying32 info_u8d _ [] rfl (own_new0 w w.heap.size (Nat.le_refl _)) (some ad) n c zs rfl (fun e => by cases e) (hb.below hbn (Nat.le_refl _)) ?a1 hbn.size ?_)
    case a1 => simp; omega
    intro v2 w2 ho2 hg2
    have hb2 : Below w.heap.size w w2 := hbn.trans (Below.of_grown (own_new0 w w.heap.size (Nat.le_refl _)) hg2 hbn.size)
    obtain ⟨a2, c2, rfl, e1, e2, e3⟩ := ho2.slice
    have HO : Hid (Own w2 w.heap.size (.slice a2 zs.length c2) zs) := ho2
    clear ho2 hg2
    go_wp2
    go_ret
    exact ⟨⟨a2, zs.length, c2⟩, rfl, Own.fl (s := ⟨a2, zs.length, c2⟩) HO.out, fun g hg => (HO.out.1.lt g (by cases a2 with | none => cases hg | some x => simpa [Sl.blk, Value.ownBlock] using hg)).1, hb2⟩

/-- 'append(v, x...)' of rows of elements of several cells: where what comes of it lies. -/
theorem run_append_row {P : Program} (w : World) (t ty e : TypeId) (z : Value) (size bytes : Nat) (ht : P.underlying t = some (.slice e)) (hi : (P.info? e).map (fun i => (i.zero, i.size, i.bytes)) = some (some z, size, bytes)) (hzs : z.cells.size = size) (hsz : 0 < size)
    (v : Value) (n : Nat) (xs : List Value) (hown : w.ownsRow 0 e size v n xs) (ad : Addr) (m c : Nat) (ys : List Value) (hb : Cs w (some ad) ys) (hl : ys.length = m * size) (h1 : ∀ u ∈ ys, u.oneCell' = true) (h63 : n + m ≤ maxLen) (hbytes : (n + m) * bytes ≤ 140737488355328) :
    ∃ v' w', Sem.run P (Builtin.append_ #[t, t] ty #[v, .slice (some ad) m c]) w = .ok v' w' ∧ w'.ownsRow 0 e size v' (n + m) (xs ++ ys) ∧ w.grownBy w' v.ownBlock ∧ (v'.ownBlock = v.ownBlock ∨ ∀ g, v'.ownBlock = some g → w.heap.size ≤ g) := by
  obtain ⟨i, hi1, hi2, hi3, hi4⟩ := info_parts hi
  have hnews : ∀ j u, ys[j]? = some u → w.cell? (ad.add j) = some u := by
    intro j u hj
    have hjl : j < ys.length := by
      rcases Nat.lt_or_ge j ys.length with h | h
      · exact h
      · rw [List.getElem?_eq_none h] at hj; cases hj
    rcases hb with rfl | ⟨b, off, ha, hlt, hc⟩
    · simp at hjl
    · cases ha
      rw [Addr.add_lit, hc j hjl, hj]
  rcases hown.2 with ⟨rfl, rfl⟩ | ⟨g, cap, cur, rfl, hbg, hg, hnc, hcm, hcs, htake⟩
  · have hx : xs = [] := List.eq_nil_of_length_eq_zero (by simpa using hown.1)
    subst hx
    obtain ⟨v', w', hr, ho, hg, _⟩ := run_append_own (P := P) w w.heap.size t ty e i z size bytes ht hi1 hi2 hi3 hi4 hzs hsz (.slice none 0 0) 0 [] (World.ownsRow_nil _ _ _ _) ad m c ys hl hnews h1 h63 hbytes (Nat.le_refl _)
    exact ⟨v', w', hr, ownsRow_mono ho (Nat.zero_le _), hg, .inr (fun g hg => (ho.lt g hg).1)⟩
  · by_cases hroom : n + m ≤ cap
    · obtain ⟨w', hr, ho, hgr⟩ := run_append_fits (P := P) w 0 t ty e i size ht hi1 hi3 g n cap xs hown ad m c ys hl hnews h1 hroom
      exact ⟨_, w', hr, ho, hgr, .inl rfl⟩
    · obtain ⟨v', w', hr, ho, hgr⟩ := run_append_arg_grows (P := P) w t ty e i z size bytes ht hi1 hi2 hi3 hi4 hzs hsz ⟨g, 0, none⟩ n cap xs hown.1 (hown.cells (g := g) rfl) ad m c ys hl hnews (by omega) h63 hbytes
      exact ⟨v', w', hr, ownsRow_mono ho (Nat.zero_le _), hgr.but _, .inr (fun g hg => (ho.lt g hg).1)⟩

theorem step_append_run {P : Program} (w : World) {ops : Array Oper} {o : Oper} {a : Act} {K : Act → World → Prop} {Q : Exit → Act → World → Prop} {E : Prop} (hgd : Region.wanted o (yielded ops a.tmps) = true) (so x : Operand) (t : TypeId)
    (ho : o.op = .call { callee := .builtin .append, args := #[so, x], argTypes := #[t, t] }) (v y : Value) (hs : a.eval so = v) (hx : a.eval x = y) (v' : Value) (w' : World) (hrun : Sem.run P (Builtin.append_ #[t, t] o.type #[v, y]) w = .ok v' w') (h : K (a.put o.dst v') w') :
    if Region.wanted o (yielded ops a.tmps) = true then Oper.wp P o a w K Q else E := by
  rw [if_pos hgd]
  unfold Oper.wp
  simp [execOp, ho, resolve, invoke, builtin, hs, hx, hrun, Result.andThen]
  exact h

theorem info_deed : (Try.prog.info? 76).map (fun i => (i.zero, i.size, i.bytes)) = some (some (.agg #[.int .i64 0, .string ByteArray.empty, .string ByteArray.empty, .slice none 0 0, .int .i64 0]), 5, 72) := by kernel_rfl

/-- What turns only the disk's own cells and the row of deeds leaves all slices of bytes and all maps. -/
theorem DkE.flKeep {w w' : World} {p : Nat} {lm : Option Nat} {E : Ents} {v : Value} {rs : List ARef} {st : St} (h : DkE w p lm E v rs st) (hk : Kp (fun i => i = p ∨ v.ownBlock = some i) w w') {s : Sl} {zs : List Int} (hf : Fl w s zs) : Fl w' s zs :=
  hf.kp hk fun g hg e => by
    rcases e with rfl | e
    · exact h.ne_p hf hg
    · obtain ⟨cur, hc⟩ := hf.is hg
      obtain ⟨cur2, hc2⟩ := row_is h.row e
      rw [hc] at hc2
      injection hc2 with hc2
      injection hc2 with _ hc2
      revert hc2
      decide
theorem DkE.mpKeep {w w' : World} {p : Nat} {lm : Option Nat} {E : Ents} {v : Value} {rs : List ARef} {st : St} (h : DkE w p lm E v rs st) (hk : Kp (fun i => i = p ∨ v.ownBlock = some i) w w') {b : Nat} {F : Ents} (hm : Mp w b F) : Mp w' b F := by
  refine ⟨?_, fun e he => h.flKeep hk (hm.2.1 e he), hm.2.2⟩
  have hlt := hm.lt
  obtain ⟨es, clock, h1, r⟩ := hm.1
  refine ⟨es, clock, (hk.block b hlt (fun e => ?_)).trans h1, r⟩
  rcases e with rfl | e
  · rw [h.blk] at h1; cases h1
  · obtain ⟨cur2, hc2⟩ := row_is h.row e
    rw [h1] at hc2; cases hc2
theorem DkE.lmKeep {w w' : World} {p : Nat} {lm : Option Nat} {E : Ents} {v : Value} {rs : List ARef} {st : St} (h : DkE w p lm E v rs st) (hk : Kp (fun i => i = p ∨ v.ownBlock = some i) w w') : Lm w' lm E := by
  rcases h.last with h1 | ⟨b, e, h1⟩
  · exact .inl h1
  · exact .inr ⟨b, e, h.mpKeep hk h1⟩

/-- A deed in a block of its own. -/
def BoxD (w : World) (b : Nat) (r : ARef) : Prop := w.cell? ⟨b, 0, none⟩ = some (.int .i64 r.kind) ∧ w.cell? ⟨b, 1, none⟩ = some (.string r.name) ∧ w.cell? ⟨b, 2, none⟩ = some (.string r.to) ∧ w.cell? ⟨b, 3, none⟩ = some (.slice r.a r.n r.c) ∧ w.cell? ⟨b, 4, none⟩ = some (.int .i64 r.num)

def waitF (st : St) (a : ActL) : St := if st.armed = 1 then { st with armed := 0, down := true } else { st with armed := st.armed - 1, deeds := st.deeds + 1, waits := st.waits ++ [a] }

set_option maxRecDepth 100000 in
set_option maxHeartbeats 400000 in
theorem wait_any (p : Nat) (lm : Option Nat) (E : Ents) (v : Value) (rs : List ARef) (st : St) (r : ARef) (w : World) (hD : DkE w p lm E v rs st) (hd : st.deeds ≤ 1099511627776) (hr : Fl w r.tl r.zs) (hap : ∀ e ∈ E, ∀ g, e.2.1.blk = some g → r.tl.blk ≠ some g)
    (hact : okAct (seenF st) r.act) (hok : okFiles st.room (doneF (seenF st) r.act)) :
    Calls Try.prog 45 #[.pointer (some ⟨p, 0, none⟩), r.deed] w fun e w' => e = .returned (.int .u8 (countE st)) ∧ ∃ v' rs', DkE w' p lm E v' rs' (waitF st r.act) ∧ (∀ x ∈ rs', x ∈ rs ∨ x = r) ∧ (∀ g, v'.ownBlock = some g → v.ownBlock = some g ∨ w.heap.size ≤ g) ∧ Kp (fun i => i = p ∨ v.ownBlock = some i) w w' := by
  obtain ⟨va, vc, hv⟩ : ∃ va vc, v = .slice va rs.length vc := by
    obtain ⟨a, c, e, _⟩ := ownsRow_cs hD.row
    exact ⟨a, c, e⟩
  subst hv
  have hk0 : Kp (fun _ => False) w (w.alloc (.cells #[.int .i64 r.kind, .string r.name, .string r.to, .slice r.a r.n r.c, .int .i64 r.num] 76)) := (Kp.refl _ _).alloc _
  obtain ⟨w0, hw0⟩ : ∃ w0, w0 = w.alloc (.cells #[.int .i64 r.kind, .string r.name, .string r.to, .slice r.a r.n r.c, .int .i64 r.num] 76) := ⟨_, rfl⟩
  rw [← hw0] at hk0
  have hsz0 : w.heap.size < w0.heap.size := by rw [hw0]; simp
  have b0 : w0.cell? ⟨w.heap.size, 0, none⟩ = some (.int .i64 r.kind) := by rw [hw0]; simp
  have b1 : w0.cell? ⟨w.heap.size, 1, none⟩ = some (.string r.name) := by rw [hw0]; simp
  have b2 : w0.cell? ⟨w.heap.size, 2, none⟩ = some (.string r.to) := by rw [hw0]; simp
  have b3 : w0.cell? ⟨w.heap.size, 3, none⟩ = some (.slice r.a r.n r.c) := by rw [hw0]; simp
  have b4 : w0.cell? ⟨w.heap.size, 4, none⟩ = some (.int .i64 r.num) := by rw [hw0]; simp
  have hD0 := hD.same hk0
  have hplt := hD.plt
  unfold ARef.deed
  go_enter Try.func45, Try.ntmps45
  have hw0' : w.alloc (.cells #[.int .i64 r.kind, .string r.name, .string r.to, .slice r.a r.n r.c, .int .i64 r.num] 76) = w0 := hw0.symm
  clear hw0
  have hcnt := count_any p lm E _ rs st w0 hD0 hd
  by_cases h1 : st.armed = 1
  · have HC : Hid (countF st = { st with armed := 0, down := true } ∧ countE st = 3 ∧ waitF st r.act = { st with armed := 0, down := true }) := ⟨by rw [countF, if_pos h1], by rw [countE, if_pos h1], by rw [waitF, if_pos h1]⟩
    rw [HC.out.1, HC.out.2.1] at hcnt
    rw [HC.out.2.1, HC.out.2.2]
    clear h1
    go_wp2_with fail
    refine hcnt.mono ?_
    rintro e w1 ⟨rfl, hD1, hk1⟩
    clear hcnt
    go_wp2
    go_ret
    exact ⟨rfl, _, rs, hD1, fun x hx => .inl hx, fun g hg => .inl hg, (hk0.mono (S1 := fun i => i = p ∨ (Value.slice va rs.length vc).ownBlock = some i) (fun i _ e => e.elim)).trans hk1 (fun i _ e => .inl e)⟩
  · have HC : Hid (countF st = { st with armed := st.armed - 1, deeds := st.deeds + 1 } ∧ countE st = 0 ∧ waitF st r.act = { st with armed := st.armed - 1, deeds := st.deeds + 1, waits := st.waits ++ [r.act] }) := ⟨by rw [countF, if_neg h1], by rw [countE, if_neg h1], by rw [waitF, if_neg h1]⟩
    rw [HC.out.1, HC.out.2.1] at hcnt
    rw [HC.out.2.1, HC.out.2.2]
    clear h1
    go_wp2_with fail
    refine hcnt.mono ?_
    rintro e w1 ⟨rfl, hD1, hk1⟩
    have hs1 := hk1.size
    have hn1 : ∀ j, w1.cell? ⟨w.heap.size, j, none⟩ = w0.cell? ⟨w.heap.size, j, none⟩ := fun j => World.cell?_of_block (hk1.block w.heap.size (by omega) (fun e => by omega))
    rw [← hn1] at b0 b1 b2 b3 b4
    obtain ⟨c0, c1, c2, c3, c4, c5⟩ := hD1.cells
    have f2 := hD1.free 2
    have hrl : rs.length ≤ 1099511627776 := by
      have e1 := hD.deeds
      rw [← hD.acts, List.length_map] at e1
      omega
    have hrow1 : (w1.alloc (.cells #[.int .i64 r.kind, .string r.name, .string r.to, .slice r.a r.n r.c, .int .i64 r.num] 76)).drew.ownsRow 0 76 5 (.slice va rs.length vc) rs.length (dcells rs) := hD1.row.alloc _
    obtain ⟨v2, w2, hrun, ho2, hg2, hv2⟩ := run_append_row (P := Try.prog) (w1.alloc (.cells #[.int .i64 r.kind, .string r.name, .string r.to, .slice r.a r.n r.c, .int .i64 r.num] 76)).drew 64 64 76 _ 5 72 Try.underlying64 info_deed rfl (by decide) (.slice va rs.length vc) rs.length (dcells rs) hrow1 ⟨w1.heap.size, 0, none⟩ 1 1 (dcells [r]) (Cs.new _ _ _) rfl (dcells_oneCell _) (by unfold maxLen; omega) (by omega)
    obtain ⟨a2, k2, rfl, l1, l2, l3, l4⟩ := ownsRow_cs ho2
    clear hcnt hrow1
    have hpn : w.heap.size < w1.heap.size := by omega
    have hrow : (Value.slice va rs.length vc).ownBlock ≠ some p := fun e => by
      obtain ⟨cur2, hc2⟩ := row_is hD1.row e
      rw [hD1.blk] at hc2
      injection hc2 with hc2
      injection hc2 with _ hc2
      revert hc2
      decide
    have hplt1 : p < (w1.alloc (.cells #[.int .i64 r.kind, .string r.name, .string r.to, .slice r.a r.n r.c, .int .i64 r.num] 76)).drew.heap.size := by have := hk0.size; show p < (w1.alloc _).heap.size; simp; omega
    have hpb : w2.heap[p]? = w1.heap[p]? := (hg2.block p hplt1 (fun e => hrow e.symm)).trans (Below.heap_alloc _ _ _ (by have := hk0.size; omega))
    have g2 : w2.cell? ⟨p, 2, none⟩ = some (.slice va rs.length vc) := (World.cell?_of_block hpb).trans c2
    have g2f : w2.frozen? ⟨p, 2, none⟩ = false := (World.frozen?_of_block hpb).trans f2
    have hs1' : p < w1.heap.size := by have := hk0.size; omega
    have ca : (w1.alloc (.cells #[.int .i64 r.kind, .string r.name, .string r.to, .slice r.a r.n r.c, .int .i64 r.num] 76)).drew.cell? ⟨p, 2, none⟩ = some (.slice va rs.length vc) := (World.cell?_of_block (Below.heap_alloc _ _ _ hs1')).trans c2
    have HRUN : Hid (Sem.run Try.prog (Builtin.append_ #[64, 64] 64 #[.slice va rs.length vc, .slice (some ⟨w1.heap.size, 0, none⟩) 1 1]) (w1.alloc (.cells #[.int .i64 r.kind, .string r.name, .string r.to, .slice r.a r.n r.c, .int .i64 r.num] 76)).drew = .ok (.slice a2 (rs.length + 1) k2) w2) := hrun
    have ba : ∀ j, (w1.alloc (.cells #[.int .i64 r.kind, .string r.name, .string r.to, .slice r.a r.n r.c, .int .i64 r.num] 76)).cell? ⟨w.heap.size, j, none⟩ = w1.cell? ⟨w.heap.size, j, none⟩ := fun j => World.cell?_of_block (Below.heap_alloc _ _ _ hpn)
    have hkA : Kp (fun _ => False) w1 (w1.alloc (.cells #[.int .i64 r.kind, .string r.name, .string r.to, .slice r.a r.n r.c, .int .i64 r.num] 76)).drew := ((Kp.refl _ _).alloc _).drew
    have hk13 : Kp (fun i => i = p ∨ (Value.slice va rs.length vc).ownBlock = some i) w1 (w2.setCell ⟨p, 2, none⟩ (.slice a2 (rs.length + 1) k2)) :=
      ((hkA.mono (S1 := fun i => i = p ∨ (Value.slice va rs.length vc).ownBlock = some i) (fun i _ e => e.elim)).trans (Kp.of_grown hg2) (fun i _ e => .inr e)).setCell (p := ⟨p, 2, none⟩) (fun _ => .inl rfl) _
    have hk3 : Kp (fun i => i = p ∨ (Value.slice va rs.length vc).ownBlock = some i) w (w2.setCell ⟨p, 2, none⟩ (.slice a2 (rs.length + 1) k2)) :=
      ((hk0.mono (S1 := fun i => i = p ∨ (Value.slice va rs.length vc).ownBlock = some i) (fun i _ e => e.elim)).trans hk1 (fun i _ e => .inl e)).trans hk13 (fun i _ e => e)
    have hv2p : (Value.slice a2 (rs.length + 1) k2).ownBlock ≠ some p := fun e => by
      rcases hv2 with e' | e'
      · rw [e] at e'; exact hrow e'.symm
      · have h5 : w1.heap.size + 1 ≤ p := by simpa using e' p e
        omega
    have hfin : ∃ v' rs', DkE (w2.setCell ⟨p, 2, none⟩ (.slice a2 (rs.length + 1) k2)) p lm E v' rs' { st with armed := st.armed - 1, deeds := st.deeds + 1, waits := st.waits ++ [r.act] } ∧ (∀ x ∈ rs', x ∈ rs ∨ x = r) ∧ (∀ g, v'.ownBlock = some g → (Value.slice va rs.length vc).ownBlock = some g ∨ w.heap.size ≤ g) ∧ Kp (fun i => i = p ∨ (Value.slice va rs.length vc).ownBlock = some i) w (w2.setCell ⟨p, 2, none⟩ (.slice a2 (rs.length + 1) k2)) := by
      refine ⟨.slice a2 (rs.length + 1) k2, rs ++ [r], ?_, fun x hx => by simpa using hx, fun g hg => ?_, hk3⟩
      · refine { blk := heap_setCell_same w2 p 2 _ _ _ (hpb.trans hD1.blk), last := hD1.lmKeep hk13, files := hD.files, row := ?_, acts := ?_, tails := fun x hx => ?_, apart := fun x hx => ?_, run := hD.run.snoc hact hok, room := hD.room, deeds := ?_, armed := hD1.armed }
        · have h6 := ownsRow_setCell_other ho2 (a := ⟨p, 2, none⟩) hv2p (.slice a2 (rs.length + 1) k2)
          rw [← dcells_append] at h6
          simpa using h6
        · rw [List.map_append, hD.acts]; rfl
        · rcases List.mem_append.1 hx with h6 | h6
          · exact hD1.flKeep hk13 (hD1.tails x h6)
          · have : x = r := by simpa using h6
            subst this
            refine hD1.flKeep hk13 ((hr.kp hk0 (fun _ _ e => e)).kp hk1 (fun g hg e => ?_))
            subst e
            exact hD0.ne_p (hr.kp hk0 (fun _ _ e => e)) hg
        · rcases List.mem_append.1 hx with h6 | h6
          · exact hD.apart x h6
          · have : x = r := by simpa using h6
            subst this
            exact hap
        · have := hD.deeds
          simp only [List.length_append, List.length_cons, List.length_nil]
          omega
      · rcases hv2 with e' | e'
        · rw [hg] at e'; exact .inl e'.symm
        · have h5 : w1.heap.size + 1 ≤ g := by simpa using e' g hg
          exact .inr (by omega)
    have HFIN : Hid (∃ v' rs', DkE (w2.setCell ⟨p, 2, none⟩ (.slice a2 (rs.length + 1) k2)) p lm E v' rs' { st with armed := st.armed - 1, deeds := st.deeds + 1, waits := st.waits ++ [r.act] } ∧ (∀ x ∈ rs', x ∈ rs ∨ x = r) ∧ (∀ g, v'.ownBlock = some g → (Value.slice va rs.length vc).ownBlock = some g ∨ w.heap.size ≤ g) ∧ Kp (fun i => i = p ∨ (Value.slice va rs.length vc).ownBlock = some i) w (w2.setCell ⟨p, 2, none⟩ (.slice a2 (rs.length + 1) k2))) := hfin
    clear hfin hk3 hk13 hkA hv2p hv2 hrun hD1 hD0
    go_wp2_with fail
    go_region_law (refine step_append_run _ rfl _ _ 64 rfl _ _ rfl rfl (.slice a2 (rs.length + 1) k2) w2 HRUN.out ?_)
    all_goals go_wp2
    all_goals go_ret
    all_goals exact ⟨rfl, HFIN.out⟩

def settleF (st : St) : St := { st with last := seenF st, waits := [] }

set_option maxRecDepth 100000 in
set_option maxHeartbeats 400000 in
theorem settle_any (p : Nat) (lm : Option Nat) (E : Ents) (v : Value) (rs : List ARef) (st : St) (w : World) (hD : DkE w p lm E v rs st) (hd : st.deeds ≤ 1099511627776) :
    Calls Try.prog 40 #[.pointer (some ⟨p, 0, none⟩)] w fun e w' => e = .returned (.tuple #[]) ∧ ∃ m E', DkE w' p (some m) E' (.slice none 0 0) [] (settleF st) ∧ w.heap.size ≤ m ∧ (∀ x ∈ E', ∀ g, x.2.1.blk = some g → w.heap.size ≤ g ∨ fblk E g) ∧ Kp (fun i => i = p ∨ fblk E i) w w' := by
  go_enter Try.func40, Try.ntmps40
  go_wp2_with fail
  refine (seen_any p lm E v rs st w hD hd).mono ?_
  rintro e w1 ⟨m, E', rfl, hsaw⟩
  have hD1 := hD.saw hsaw
  obtain ⟨c0, c1, c2, c3, c4, c5⟩ := hD1.cells
  have f1 := hD1.free 1
  have f2 := hD1.free 2
  go_wp2
  go_end0
  obtain ⟨h1, h2, h3, h4, h5, h6⟩ := hsaw
  have hk : Kp (fun i => i = p) w1 ((w1.setCell ⟨p, 1, none⟩ (.map (some m))).setCell ⟨p, 2, none⟩ (.slice none 0 0)) := kp_p2 _ _ _ _ _ _
  have hmp : Mp ((w1.setCell ⟨p, 1, none⟩ (.map (some m))).setCell ⟨p, 2, none⟩ (.slice none 0 0)) m E' := hD1.mpKeep (hk.mono (fun i _ e => .inl e)) h2
  refine ⟨rfl, m, E', { blk := heap_setCell_same _ p 2 _ _ _ (heap_setCell_same _ p 1 _ _ _ hD1.blk), last := .inr ⟨m, rfl, hmp⟩, files := h3, row := World.ownsRow_nil _ _ _ _, acts := rfl, tails := by simp, apart := by simp, run := hD.run.fold, room := hD.room, deeds := Nat.zero_le _, armed := hD.armed }, h1, h6, (h4.mono (S1 := fun i => i = p ∨ fblk E i) (fun i _ e => .inr e)).trans hk (fun i _ e => .inl e)⟩
end Go.Proofs.Ytngkapddobgfaaa
