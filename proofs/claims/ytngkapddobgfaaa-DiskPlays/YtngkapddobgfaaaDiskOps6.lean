/-
  What Crash leaves.
-/
import Derived.Test.YtngkapddobgfaaaDiskOps5
import Derived.BigQuiet
import Derived.Deep.RegionWith
namespace Go.Proofs.Ytngkapddobgfaaa
open Go.RowKit Go.Maps
set_option linter.unusedVariables false

def tornA (a : ActL) (torn : Int) : ActL := { a with b := a.b.take (cutZ torn a.b.length).toNat }
/-- What a crash keeps of what waits. -/
def crashW (st : St) (keep torn : Int) : List ActL :=
  match st.waits[(cutZ keep st.waits.length).toNat]? with
  | some a => if a.kind = 1 then st.waits.take (cutZ keep st.waits.length).toNat ++ [tornA a torn] else st.waits.take (cutZ keep st.waits.length).toNat
  | none => st.waits.take (cutZ keep st.waits.length).toNat
def crashF (st : St) (keep torn : Int) : St := { st with last := foldF st.last (crashW st keep torn), waits := [], armed := 0, down := false }

theorem row_take {w : World} {va : Option Addr} {n vc : Nat} {rs : List ARef} (h : w.ownsRow 0 76 5 (.slice va n vc) rs.length (dcells rs)) (hn : n = rs.length) {k : Nat} (hk : k ≤ rs.length) : w.ownsRow 0 76 5 (.slice va k vc) k (dcells (rs.take k)) := by
  refine ⟨by rw [dcells_length, List.length_take, Nat.min_eq_left hk], ?_⟩
  rcases h.2 with ⟨e, h2⟩ | ⟨g, cap, cur, e, hb, hh, hn2, hm, hs, ht⟩
  · cases e
    exact .inl ⟨by rw [show k = 0 by omega], by omega⟩
  · cases e
    refine .inr ⟨g, vc, cur, rfl, hb, hh, by omega, hm, hs, ?_⟩
    rw [← dcells_take, ← ht, List.take_take, Nat.min_eq_left (by omega)]

/-- The row of deeds, and the disk's own cells, have turned. -/
theorem DkE.renew {w w' : World} {p : Nat} {lm : Option Nat} {E : Ents} {v v' : Value} {rs rs' : List ARef} {st st' : St} (h : DkE w p lm E v rs st) (hk : Kp (fun i => i = p ∨ v.ownBlock = some i) w w')
    (hb : w'.heap[p]? = some (.cells (pcells lm v' st') 66 (0, 0))) (hrow : w'.ownsRow 0 76 5 v' rs'.length (dcells rs')) (hacts : rs'.map ARef.act = st'.waits) (ht : ∀ r ∈ rs', Fl w r.tl r.zs) (ha : ∀ r ∈ rs', ∃ x ∈ rs, x.tl.blk = r.tl.blk)
    (hrun : okRun st'.room st'.last st'.waits) (e1 : st'.room = st.room) (e2 : st'.last = st.last) (e3 : st'.waits.length ≤ st'.deeds) (e4 : st'.armed ≤ 9223372036854775807) : DkE w' p lm E v' rs' st' where
  blk := hb
  last := h.lmKeep hk
  files := by rw [e2]; exact h.files
  row := hrow
  acts := hacts
  tails := fun r hr => h.flKeep hk (ht r hr)
  apart := fun r hr e he g hg => by
    obtain ⟨x, hx, hb⟩ := ha r hr
    rw [← hb]
    exact h.apart x hx e he g hg
  run := hrun
  room := by rw [e1]; exact h.room
  deeds := e3
  armed := e4

theorem okRun.torn {room : Nat} {L : List FileL} {al : List ActL} (h : okRun room L al) {k : Nat} {a : ActL} (hk : al[k]? = some a) (h1 : a.kind = 1) (torn : Int) : okRun room L (al.take k ++ [tornA a torn]) := by
  have hact := h.at hk
  have hf := (h.take (k + 1)).fold
  rw [foldF_succ _ _ hk] at hf
  refine (h.take k).snoc ?_ ?_
  · obtain ⟨a1, a2, a3, a4, a5, a6⟩ := hact
    refine ⟨a1, a2, a3, a4, fun e => ?_, fun e => ?_⟩
    · have e' : a.kind = 2 := e
      omega
    · have := a6 h1
      show (bytesF _ a.name).length + (a.b.take _).length ≤ _
      rw [List.length_take]
      omega
  · have e1 : doneF (foldF L (al.take k)) a = putF (foldF L (al.take k)) (a.name, bytesF (foldF L (al.take k)) a.name ++ a.b) := by
      unfold doneF; rw [if_neg (by omega), if_pos h1]
    have e2 : doneF (foldF L (al.take k)) (tornA a torn) = putF (foldF L (al.take k)) (a.name, bytesF (foldF L (al.take k)) a.name ++ (tornA a torn).b) := by
      unfold doneF
      rw [if_neg (show ¬ (tornA a torn).kind = 0 by show ¬ a.kind = 0; omega), if_pos (show (tornA a torn).kind = 1 from h1)]
      rfl
    rw [e1] at hf
    rw [e2]
    obtain ⟨f1, f2, f3⟩ := hf
    have hs := (h.take k).fold.1
    refine ⟨hs.put _, ?_, ?_⟩
    · rw [putF_eq, length_putG] at f2 ⊢
      exact f2
    · rw [used_put] at f3 ⊢
      have : (tornA a torn).b.length ≤ a.b.length := by show (a.b.take _).length ≤ _; rw [List.length_take]; omega
      simp only [List.length_append] at f3 ⊢
      omega

theorem Fl.shorter {w : World} {s : Sl} {zs : List Int} (h : Fl w s zs) {k : Nat} (hk : k ≤ s.n) : Fl w ⟨s.a, k, s.c⟩ (zs.take k) := by
  obtain ⟨h1, h2, h3⟩ := h
  refine ⟨by simp only [List.length_take]; omega, fun z hz => h2 z (List.mem_of_mem_take hz), ?_⟩
  rcases h3 with ⟨e, h3, h4⟩ | ⟨g, cur, e, hh, h3, h4, h5, h6⟩
  · exact .inl ⟨e, by simp only; omega, h4⟩
  · refine .inr ⟨g, cur, e, hh, by simp only; omega, h4, h5, ?_⟩
    have := congrArg (List.take k) h6
    rw [List.take_take, Nat.min_eq_left hk] at this
    simp only
    rw [this]
    simp [cb]

theorem wpList_append_run {P : Program} (w : World) {ops : Array Oper} {rest : List Oper} {o : Oper} {a : Act} {Q : Exit → Act → World → Prop} (hgd : Region.wanted o (yielded ops a.tmps) = true) (so x : Operand) (t : TypeId)
    (ho : o.op = .call { callee := .builtin .append, args := #[so, x], argTypes := #[t, t] }) (v y : Value) (hs : a.eval so = v) (hx : a.eval x = y) (v' : Value) (w' : World) (hrun : Sem.run P (Builtin.append_ #[t, t] o.type #[v, y]) w = .ok v' w') (h : wpList P ops Q rest (a.put o.dst v') w') : wpList P ops Q (o :: rest) a w := by
  refine wpList_wanted hgd fun K hK => ?_
  unfold Oper.wp
  simp [execOp, ho, resolve, invoke, builtin, hs, hx, hrun, Result.andThen]
  exact hK _ _ h

theorem Goes.comp {w w1 w2 : World} {S S1 : Nat → Prop} {p : Nat} {st : St} (hS1 : ∀ i, S1 i → S i ∨ w.heap.size ≤ i) (hk1 : Kp S w w1) (h2 : Goes w1 S1 p st w2) : Goes w S p st w2 := by
  obtain ⟨S2, hD, hS2, hk2⟩ := h2
  have hz := hk1.size
  refine ⟨S2, hD, fun i hi => ?_, hk1.trans hk2 (fun i hi e => (hS1 i e).resolve_right (by omega))⟩
  rcases hS2 i hi with e | e
  · exact hS1 i e
  · exact .inr (by omega)

theorem settle_goes (S : Nat → Prop) (p : Nat) (st : St) (w : World) (h : Dk w S p st) (hd : st.deeds ≤ 1099511627776) :
    Calls Try.prog 40 #[.pointer (some ⟨p, 0, none⟩)] w fun e w' => e = .returned (.tuple #[]) ∧ Goes w S p (settleF st) w' := by
  obtain ⟨lm, E, v, rs, hD, hS, hSl⟩ := h
  refine (settle_any p lm E v rs st w hD hd).mono ?_
  rintro e w3 ⟨rfl, m, E', hD3, hm3, hb3, hk3⟩
  refine ⟨rfl, Goes.intro hD3 (fun i hi => ?_) (hk3.mono (fun i _ e => ?_))⟩
  · rcases hi with e | e | ⟨x, hx, e⟩ | e | ⟨x, hx, e⟩
    · exact .inl (hS i (.inl e))
    · cases e; exact .inr hm3
    · rcases hb3 x hx i e with h9 | h9
      · exact .inr h9
      · exact .inl (hS i (.inr (.inr (.inl h9))))
    · cases e
    · simp at hx
  · rcases e with e | e
    · exact hS i (.inl e)
    · exact hS i (.inr (.inr (.inl e)))
theorem Goes.up {w : World} {S : Nat → Prop} {p : Nat} {st : St} (h : Dk w S p st) : Goes w S p { st with armed := 0, down := false } ((w.setCell ⟨p, 4, none⟩ (.int .i64 0)).setCell ⟨p, 5, none⟩ (.bool false)) := by
  obtain ⟨lm, E, v, rs, hD, hS, hSl⟩ := h
  have hk : Kp (fun i => i = p) w ((w.setCell ⟨p, 4, none⟩ (.int .i64 0)).setCell ⟨p, 5, none⟩ (.bool false)) := kp_p2 _ _ _ _ _ _
  exact Goes.intro (hD.turn hk (fun i _ e => e) { st with armed := 0, down := false } (heap_setCell_same _ p 5 _ _ _ (heap_setCell_same _ p 4 _ _ _ hD.blk)) rfl rfl rfl (Nat.le_refl _) (Nat.zero_le _)) (fun i hi => .inl (hS i hi)) (hk.mono (fun i _ e => hS i (.inl e)))
theorem Dk.free {w : World} {S : Nat → Prop} {p : Nat} {st : St} (h : Dk w S p st) : w.cell? ⟨p, 4, none⟩ = some (.int .i64 (st.armed : Int)) ∧ w.frozen? ⟨p, 4, none⟩ = false ∧ w.cell? ⟨p, 5, none⟩ = some (.bool st.down) ∧ w.frozen? ⟨p, 5, none⟩ = false := by
  obtain ⟨lm, E, v, rs, hD, hS, hSl⟩ := h
  exact ⟨hD.cells.2.2.2.2.1, hD.free 4, hD.cells.2.2.2.2.2, hD.free 5⟩

set_option maxRecDepth 100000 in
set_option maxHeartbeats 400000 in
theorem crash_any (S : Nat → Prop) (p : Nat) (st : St) (keep torn : Int) (w : World) (h : Dk w S p st) (hd : st.deeds ≤ 1099511627776) :
    Calls Try.prog 22 #[.pointer (some ⟨p, 0, none⟩), .int .i64 keep, .int .i64 torn] w fun e w' => e = .returned (.tuple #[]) ∧ Goes w S p (crashF st keep torn) w' := by
  obtain ⟨lm, E, v, rs, hD, hS, hSl⟩ := h
  obtain ⟨c0, c1, c2, c3, c4, c5⟩ := hD.cells
  obtain ⟨va, vc, hv⟩ : ∃ va vc, v = .slice va rs.length vc := by
    obtain ⟨a, c, e, _⟩ := ownsRow_cs hD.row
    exact ⟨a, c, e⟩
  subst hv
  have hcap : rs.length ≤ vc := by
    obtain ⟨a, c, e, h1, _⟩ := ownsRow_cs hD.row
    cases e; exact h1
  have hwl : st.waits.length = rs.length := by rw [← hD.acts, List.length_map]
  have hrl : rs.length ≤ 1099511627776 := by have := hD.deeds; omega
  obtain ⟨k, hk⟩ : ∃ k : Nat, cutZ keep rs.length = (k : Int) := Int.eq_ofNat_of_zero_le (by unfold cutZ; repeat' split <;> omega)
  have hkl : k ≤ rs.length := by
    have : cutZ keep rs.length ≤ (rs.length : Int) := by unfold cutZ; repeat' split <;> omega
    omega
  have hwith := within_any keep (rs.length : Int) w (by omega)
  rw [hk] at hwith
  have hkk : (cutZ keep st.waits.length).toNat = k := by rw [hwl, hk]; rfl
  have f2 := hD.free 2
  have f4 := hD.free 4
  have f5 := hD.free 5
  have hrow := row_take hD.row rfl hkl
  by_cases hlt : k < rs.length
  · obtain ⟨r, hr⟩ : ∃ r, rs[k]? = some r := ⟨_, List.getElem?_eq_getElem hlt⟩
    obtain ⟨g, cap, e1, _, d0, d1, d2, d3, d4⟩ := hD.at hr
    cases e1
    have hwk : st.waits[k]? = some r.act := by rw [← hD.acts, List.getElem?_map, hr]; rfl
    have hz1 : (k : Int) ≤ (vc : Int) := by omega
    have hz2 : (k : Int) ≤ (rs.length : Int) := by omega
    have hz3 : ¬ vc = k := by omega
    have hz4 : 0 < rs.length - k := by omega
    have hz5 : (0 : Int) < ((rs.length - k : Nat) : Int) := by omega
    have hrm : r ∈ rs := List.mem_of_getElem? hr
    have hgb : g < w.heap.size := World.block_lt_of_cell? w _ d0
    by_cases hk1 : r.kind = 1
    · have t1 : (r.kind == 1) = true := by simpa using hk1
      obtain ⟨J, hJ⟩ : ∃ J : Nat, cutZ torn r.n = (J : Int) := Int.eq_ofNat_of_zero_le (by unfold cutZ; repeat' split <;> omega)
      have hJl : J ≤ r.n := by
        have : cutZ torn r.n ≤ (r.n : Int) := by unfold cutZ; repeat' split <;> omega
        omega
      have htl := hD.tails r hrm
      have hnc : r.n ≤ r.c := htl.le.1
      have hw2 : ∀ W, Calls Try.prog 41 #[.int .i64 torn, .int .i64 (r.n : Int)] W fun e w' => e = .returned (.int .i64 (J : Int)) ∧ w' = W := fun W => by
        have := within_any torn (r.n : Int) W (by omega)
        rw [hJ] at this
        exact this
      have hz6 : (J : Int) ≤ (r.c : Int) := by omega
      have HCR : Hid (crashF st keep torn = { settleF { st with waits := st.waits.take k ++ [tornA r.act torn] } with armed := 0, down := false }) := by
        have : crashF st keep torn = { settleF { st with waits := st.waits.take k ++ [tornA r.act torn] } with armed := 0, down := false } := by
          unfold crashF settleF seenF crashW
          rw [hkk, hwk]
          simp only
          rw [if_pos (show r.act.kind = 1 from hk1)]
        exact this
      obtain ⟨r', hr'⟩ : ∃ r' : ARef, r' = { r with n := J, zs := r.zs.take J } := ⟨_, rfl⟩
      have hra : r'.act = tornA r.act torn := by
        rw [hr']
        show (⟨r.kind, r.name.toList, r.to.toList, r.zs.take J, r.num, r.torn⟩ : ActL) = ⟨r.kind, r.name.toList, r.to.toList, r.zs.take (cutZ torn r.zs.length).toNat, r.num, r.torn⟩
        have h5 : r.zs.length = r.n := htl.1
        rw [h5, hJ]
        rfl
      have hrt : r'.tl.blk = r.tl.blk := by rw [hr']; rfl
      have hrd : dcells [r'] = [.int .i64 r.kind, .string r.name, .string r.to, .slice r.a J r.c, .int .i64 r.num] := by rw [hr']; rfl
      have hrf : ∀ w', Fl w' r.tl r.zs → Fl w' r'.tl r'.zs := fun w' h5 => by rw [hr']; exact h5.shorter hJl
      have hokt := hD.run.torn hwk hk1 torn
      rw [HCR.out]
      have hplt := hD.plt
      have hgp : g ≠ p := fun e => by
        obtain ⟨cur2, hc2⟩ := row_is hD.row (g := g) rfl
        rw [e, hD.blk] at hc2
        injection hc2 with hc2
        injection hc2 with _ hc2
        revert hc2
        decide
      have hfin : ∀ w2, Kp (fun _ => False) w w2 → ∃ a5 c5 w5, Sem.run Try.prog (Builtin.append_ #[64, 64] 64 #[.slice (some ⟨g, 0, none⟩) k vc, .slice (some ⟨w2.heap.size + 1, 0, none⟩) 1 1]) ((w2.alloc (.cells #[.int .i64 r.kind, .string r.name, .string r.to, .slice r.a J r.c, .int .i64 r.num] 76)).alloc (.cells #[.int .i64 r.kind, .string r.name, .string r.to, .slice r.a J r.c, .int .i64 r.num] 76)).drew = .ok (.slice a5 (k + 1) c5) w5 ∧
          w5.cell? ⟨p, 2, none⟩ = some (.slice (some ⟨g, 0, none⟩) rs.length vc) ∧ w5.frozen? ⟨p, 2, none⟩ = false ∧ Goes w S p { st with waits := st.waits.take k ++ [tornA r.act torn] } (w5.setCell ⟨p, 2, none⟩ (.slice a5 (k + 1) c5)) := fun w2 hkq => by
        have hD2 := hD.same hkq
        have hkA : Kp (fun _ => False) w2 ((w2.alloc (.cells #[.int .i64 r.kind, .string r.name, .string r.to, .slice r.a J r.c, .int .i64 r.num] 76)).alloc (.cells #[.int .i64 r.kind, .string r.name, .string r.to, .slice r.a J r.c, .int .i64 r.num] 76)).drew := (((Kp.refl _ _).alloc _).alloc _).drew
        have hrow4 := row_kp (row_kp hrow hkq (fun _ _ e => e)) hkA (fun _ _ e => e)
        have hcs : Cs ((w2.alloc (.cells #[.int .i64 r.kind, .string r.name, .string r.to, .slice r.a J r.c, .int .i64 r.num] 76)).alloc (.cells #[.int .i64 r.kind, .string r.name, .string r.to, .slice r.a J r.c, .int .i64 r.num] 76)).drew (some ⟨w2.heap.size + 1, 0, none⟩) (dcells [r']) := by
          have h5 := Cs.new (w2.alloc (.cells #[.int .i64 r.kind, .string r.name, .string r.to, .slice r.a J r.c, .int .i64 r.num] 76)) (dcells [r']) 76
          rw [hrd] at h5 ⊢
          have e : (w2.alloc (.cells #[.int .i64 r.kind, .string r.name, .string r.to, .slice r.a J r.c, .int .i64 r.num] 76)).heap.size = w2.heap.size + 1 := by simp
          rw [e] at h5
          exact h5
        obtain ⟨v5, w5, hrun, ho5, hg5, hv5⟩ := run_append_row (P := Try.prog) _ 64 64 76 _ 5 72 Try.underlying64 info_deed rfl (by decide) (.slice (some ⟨g, 0, none⟩) k vc) k (dcells (rs.take k)) hrow4 ⟨w2.heap.size + 1, 0, none⟩ 1 1 (dcells [r']) hcs rfl (dcells_oneCell _) (by unfold maxLen; omega) (by omega)
        obtain ⟨a5, c5, rfl, l1, l2, l3, l4⟩ := ownsRow_cs ho5
        have hs2 := hkq.size
        have hkB : Kp (fun i => i = p ∨ (Value.slice (some ⟨g, 0, none⟩) rs.length vc).ownBlock = some i) w2 w5 := (hkA.mono (S1 := fun i => i = p ∨ (Value.slice (some ⟨g, 0, none⟩) rs.length vc).ownBlock = some i) (fun _ _ e => e.elim)).trans (Kp.of_grown hg5) (fun i _ e => .inr e)
        have hpb : w5.heap[p]? = w2.heap[p]? := (hg5.block p (Nat.lt_of_lt_of_le (Nat.lt_of_lt_of_le hplt hs2) hkA.size) (fun e => by cases e; exact hgp rfl)).trans (hkA.block p (by omega) (fun e => e))
        have hsz4 : w2.heap.size ≤ ((w2.alloc (.cells #[.int .i64 r.kind, .string r.name, .string r.to, .slice r.a J r.c, .int .i64 r.num] 76)).alloc (.cells #[.int .i64 r.kind, .string r.name, .string r.to, .slice r.a J r.c, .int .i64 r.num] 76)).drew.heap.size := hkA.size
        refine ⟨a5, c5, w5, hrun, (World.cell?_of_block hpb).trans hD2.cells.2.2.1, (World.frozen?_of_block hpb).trans (hD2.free 2), ?_⟩
        have hkC := hkB.setCell (p := ⟨p, 2, none⟩) (fun _ => .inl rfl) (.slice a5 (k + 1) c5)
        have hrl2 : (rs.take k ++ [r']).length = k + 1 := by rw [List.length_append, List.length_take]; simp; omega
        have h5p : (Value.slice a5 (k + 1) c5).ownBlock ≠ some p := fun e => by
          rcases hv5 with e' | e'
          · rw [e] at e'; cases e'; exact hgp rfl
          · have := e' p e; omega
        have hDn := hD2.renew (v' := .slice a5 (k + 1) c5) (rs' := rs.take k ++ [r']) (st' := { st with waits := st.waits.take k ++ [tornA r.act torn] }) hkC (heap_setCell_same _ p 2 _ _ _ (hpb.trans hD2.blk)) (by
            rw [hrl2, dcells_append]
            exact ownsRow_setCell_other ho5 (a := ⟨p, 2, none⟩) h5p _) (by rw [List.map_append, List.map_take, hD.acts, List.map_cons, hra]; rfl) (fun x hx => by
            rcases List.mem_append.1 hx with h6 | h6
            · exact hD2.tails x (List.mem_of_mem_take h6)
            · have : x = r' := by simpa using h6
              rw [this]
              exact hrf _ (hD2.tails r hrm)) (fun x hx => by
            rcases List.mem_append.1 hx with h6 | h6
            · exact ⟨x, List.mem_of_mem_take h6, rfl⟩
            · have : x = r' := by simpa using h6
              rw [this]
              exact ⟨r, hrm, hrt.symm⟩) hokt rfl rfl (by
            have := hD.deeds
            show (st.waits.take k ++ [tornA r.act torn]).length ≤ st.deeds
            rw [List.length_append, List.length_take]
            simp
            omega) hD.armed
        refine Goes.intro hDn (fun i hi => ?_) ((hkq.mono (S1 := S) (fun _ _ e => e.elim)).trans hkC (fun i _ e => ?_))
        · rcases hi with e | e | e | e | ⟨x, hx, e⟩
          · exact .inl (hS i (.inl e))
          · exact .inl (hS i (.inr (.inl e)))
          · exact .inl (hS i (.inr (.inr (.inl e))))
          · rcases hv5 with e' | e'
            · rw [e] at e'; exact .inl (hS i (.inr (.inr (.inr (.inl e'.symm)))))
            · have := e' i e
              exact .inr (by omega)
          · rcases List.mem_append.1 hx with h6 | h6
            · exact .inl (hS i (.inr (.inr (.inr (.inr ⟨x, List.mem_of_mem_take h6, e⟩)))))
            · have : x = r' := by simpa using h6
              rw [this, hrt] at e
              exact .inl (hS i (.inr (.inr (.inr (.inr ⟨r, hrm, e⟩)))))
        · rcases e with e | e
          · exact hS i (.inl e)
          · exact hS i (.inr (.inr (.inr (.inl e))))
      have HFIN : Hid (∀ w2, Kp (fun _ => False) w w2 → ∃ a5 c5 w5, Sem.run Try.prog (Builtin.append_ #[64, 64] 64 #[.slice (some ⟨g, 0, none⟩) k vc, .slice (some ⟨w2.heap.size + 1, 0, none⟩) 1 1]) ((w2.alloc (.cells #[.int .i64 r.kind, .string r.name, .string r.to, .slice r.a J r.c, .int .i64 r.num] 76)).alloc (.cells #[.int .i64 r.kind, .string r.name, .string r.to, .slice r.a J r.c, .int .i64 r.num] 76)).drew = .ok (.slice a5 (k + 1) c5) w5 ∧
          w5.cell? ⟨p, 2, none⟩ = some (.slice (some ⟨g, 0, none⟩) rs.length vc) ∧ w5.frozen? ⟨p, 2, none⟩ = false ∧ Goes w S p { st with waits := st.waits.take k ++ [tornA r.act torn] } (w5.setCell ⟨p, 2, none⟩ (.slice a5 (k + 1) c5))) := hfin
      clear hkk hk hk1 hr hwk hfin hr' hra hrt hrd hrf hokt
      go_enter Try.func22, Try.ntmps22
      go_wp2_with fail
      refine hwith.mono ?_
      rintro e w1 ⟨rfl, rfl⟩
      clear hwith
      go_wp2_with fail
      go_quiet (fail)
      have hkq : Kp (fun _ => False) w1 (w1.drewN nq) := ⟨rfl, rfl, rfl, Nat.le_refl _, fun _ _ _ => rfl⟩
      generalize w1.drewN nq = w2 at hkq ⊢
      replace d0 := hkq.cell d0 (fun e => e)
      replace d1 := hkq.cell d1 (fun e => e)
      replace d2 := hkq.cell d2 (fun e => e)
      replace d3 := hkq.cell d3 (fun e => e)
      replace d4 := hkq.cell d4 (fun e => e)
      clear c0 c1 c2 c3 c4 c5 f2 f4 f5
      obtain ⟨a5, c5, w5, hrun5, g2, g2f, hgo⟩ := HFIN.out w2 hkq
      obtain ⟨S1, hD1, hS1, hk1⟩ := hgo
      have HRUN : Hid (Sem.run Try.prog (Builtin.append_ #[64, 64] 64 #[.slice (some ⟨g, 0, none⟩) k vc, .slice (some ⟨w2.heap.size + 1, 0, none⟩) 1 1]) ((w2.alloc (.cells #[.int .i64 r.kind, .string r.name, .string r.to, .slice r.a J r.c, .int .i64 r.num] 76)).alloc (.cells #[.int .i64 r.kind, .string r.name, .string r.to, .slice r.a J r.c, .int .i64 r.num] 76)).drew = .ok (.slice a5 (k + 1) c5) w5) := hrun5
      clear hrun5
      have hset := settle_goes S1 p _ _ hD1 hd
      go_wp2_with fail
      go_region_with (go_at_call 41; refine (hw2 _).mono ?_; rintro e w3 ⟨rfl, rfl⟩)
      all_goals go_wp2_with (at_builtin; refine wpList_append_run _ rfl _ _ 64 rfl _ _ rfl rfl (.slice a5 (k + 1) c5) w5 HRUN.out ?_)
      all_goals refine hset.mono ?_
      all_goals rintro e w4 ⟨rfl, S3, hD3, hS3, hk3⟩
      all_goals obtain ⟨g4, g4f, g5, g5f⟩ := hD3.free
      all_goals go_wp2
      all_goals go_end0
      all_goals exact ⟨rfl, Goes.comp hS1 hk1 (Goes.comp hS3 hk3 (Goes.up hD3))⟩
    · have t1 : (r.kind == 1) = false := by simpa using hk1
      have HCR : Hid (crashF st keep torn = { settleF { st with waits := st.waits.take k } with armed := 0, down := false }) := by
        have : crashF st keep torn = { settleF { st with waits := st.waits.take k } with armed := 0, down := false } := by
          unfold crashF settleF seenF crashW
          rw [hkk, hwk]
          simp only
          rw [if_neg (show ¬ r.act.kind = 1 from hk1)]
        exact this
      have hpre : ∀ nq, Goes w S p { st with waits := st.waits.take k } ((w.drewN nq).setCell ⟨p, 2, none⟩ (.slice (some ⟨g, 0, none⟩) k vc)) := fun nq => by
        have hk2 : Kp (fun i => i = p) w ((w.drewN nq).setCell ⟨p, 2, none⟩ (.slice (some ⟨g, 0, none⟩) k vc)) := by
          have h5 := kp_p1 (w.drewN nq) p 2 (.slice (some ⟨g, 0, none⟩) k vc)
          exact ⟨h5.os, h5.tape, h5.output, h5.size, h5.block⟩
        have hb : ((w.drewN nq).setCell ⟨p, 2, none⟩ (.slice (some ⟨g, 0, none⟩) k vc)).heap[p]? = some (.cells (pcells lm (.slice (some ⟨g, 0, none⟩) k vc) { st with waits := st.waits.take k }) 66 (0, 0)) := heap_setCell_same _ p 2 _ _ _ hD.blk
        have hgp : g ≠ p := fun e => by
          obtain ⟨cur2, hc2⟩ := row_is hD.row (g := g) rfl
          rw [e, hD.blk] at hc2
          injection hc2 with hc2
          injection hc2 with _ hc2
          revert hc2
          decide
        have hrl2 : (rs.take k).length = k := by rw [List.length_take]; omega
        refine Goes.intro (hD.renew (rs' := rs.take k) (hk2.mono (fun i _ e => .inl e)) hb ?_ ?_ (fun x hx => hD.tails x (List.mem_of_mem_take hx)) (fun x hx => ⟨x, List.mem_of_mem_take hx, rfl⟩) (hD.run.take k) rfl rfl ?_ hD.armed) (fun i hi => .inl ?_) (hk2.mono (fun i _ e => hS i (.inl e)))
        · rw [hrl2]
          exact row_kp hrow hk2 (fun g' hg' e => by cases hg'; exact hgp e)
        · rw [List.map_take, hD.acts]
        · have := hD.deeds
          show (st.waits.take k).length ≤ st.deeds
          rw [List.length_take]; omega
        · rcases hi with e | e | e | e | ⟨x, hx, e⟩
          · exact hS i (.inl e)
          · exact hS i (.inr (.inl e))
          · exact hS i (.inr (.inr (.inl e)))
          · exact hS i (.inr (.inr (.inr (.inl e))))
          · exact hS i (.inr (.inr (.inr (.inr ⟨x, List.mem_of_mem_take hx, e⟩))))
      have HPRE : Hid (∀ nq, Goes w S p { st with waits := st.waits.take k } ((w.drewN nq).setCell ⟨p, 2, none⟩ (.slice (some ⟨g, 0, none⟩) k vc))) := hpre
      rw [HCR.out]
      clear hkk hk hpre hk1 hr hwk
      go_enter Try.func22, Try.ntmps22
      go_wp2_with fail
      refine hwith.mono ?_
      rintro e w1 ⟨rfl, rfl⟩
      clear hwith
      go_wp2_with fail
      go_quiet (fail)
      go_wp2_with fail
      obtain ⟨S1, hD1, hS1, hk1⟩ := HPRE.out nq
      refine (settle_goes S1 p _ _ hD1 hd).mono ?_
      rintro e w3 ⟨rfl, S3, hD3, hS3, hk3⟩
      obtain ⟨g4, g4f, g5, g5f⟩ := hD3.free
      go_wp2
      go_end0
      have hup := Goes.up hD3
      refine ⟨rfl, ?_⟩
      have hfin := Goes.comp hS1 hk1 (Goes.comp hS3 hk3 hup)
      exact hfin
  · have hke : k = rs.length := by omega
    have HCW : Hid (crashW st keep torn = st.waits) := by
      have : crashW st keep torn = st.waits := by
        unfold crashW
        rw [hkk, List.getElem?_eq_none (by omega), List.take_of_length_le (by omega)]
      exact this
    have hz1 : (k : Int) ≤ (vc : Int) := by omega
    have hz2 : (k : Int) ≤ (rs.length : Int) := by omega
    have hpre : ∀ nq, Goes w S p { st with waits := st.waits } ((w.drewN nq).setCell ⟨p, 2, none⟩ (.slice va rs.length vc)) := fun nq => by
      have hk2 : Kp (fun i => i = p) w ((w.drewN nq).setCell ⟨p, 2, none⟩ (.slice va rs.length vc)) := by
        have h5 := kp_p1 (w.drewN nq) p 2 (.slice va rs.length vc)
        exact ⟨h5.os, h5.tape, h5.output, h5.size, h5.block⟩
      have hb : ((w.drewN nq).setCell ⟨p, 2, none⟩ (.slice va rs.length vc)).heap[p]? = some (.cells (pcells lm (.slice va rs.length vc) st) 66 (0, 0)) := heap_setCell_same _ p 2 _ _ _ hD.blk
      exact Goes.intro (hD.turn hk2 (fun i _ e => e) st hb rfl rfl rfl (Nat.le_refl _) hD.armed) (fun i hi => .inl (hS i hi)) (hk2.mono (fun i _ e => hS i (.inl e)))
    have HPRE : Hid (∀ nq, Goes w S p { st with waits := st.waits } ((w.drewN nq).setCell ⟨p, 2, none⟩ (.slice va rs.length vc))) := hpre
    have HCR : Hid (crashF st keep torn = { settleF { st with waits := st.waits } with armed := 0, down := false }) := by
      have : crashF st keep torn = { settleF { st with waits := st.waits } with armed := 0, down := false } := by
        unfold crashF settleF seenF; rw [HCW.out]
      exact this
    rw [HCR.out]
    clear hkk hk hpre
    go_enter Try.func22, Try.ntmps22
    go_wp2_with fail
    refine hwith.mono ?_
    rintro e w1 ⟨rfl, rfl⟩
    clear hwith
    subst hke
    by_cases hvc : vc = rs.length
    · subst hvc
      go_wp2_with fail
      go_quiet (fail)
      go_wp2_with fail
      obtain ⟨S1, hD1, hS1, hk1⟩ := HPRE.out nq
      refine (settle_goes S1 p _ _ hD1 hd).mono ?_
      rintro e w3 ⟨rfl, S3, hD3, hS3, hk3⟩
      obtain ⟨g4, g4f, g5, g5f⟩ := hD3.free
      go_wp2
      go_end0
      have hup := Goes.up hD3
      refine ⟨rfl, ?_⟩
      have hfin := Goes.comp hS1 hk1 (Goes.comp hS3 hk3 hup)
      exact hfin
    · go_wp2_with fail
      go_quiet (fail)
      go_wp2_with fail
      obtain ⟨S1, hD1, hS1, hk1⟩ := HPRE.out nq
      refine (settle_goes S1 p _ _ hD1 hd).mono ?_
      rintro e w3 ⟨rfl, S3, hD3, hS3, hk3⟩
      obtain ⟨g4, g4f, g5, g5f⟩ := hD3.free
      go_wp2
      go_end0
      have hup := Goes.up hD3
      refine ⟨rfl, ?_⟩
      have hfin := Goes.comp hS1 hk1 (Goes.comp hS3 hk3 hup)
      exact hfin
end Go.Proofs.Ytngkapddobgfaaa
