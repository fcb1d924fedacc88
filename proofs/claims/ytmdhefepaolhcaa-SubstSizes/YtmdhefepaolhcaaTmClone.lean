/-
  term.Clone and term.cloneAll: terms in new memory, variables without parts.
-/
import Derived.Test.YtmdhefepaolhcaaTmApp
import Derived.RangeFuncBox
namespace Go.Proofs.Ytmdhefepaolhcaa
open Go.RowKit
set_option linter.unusedVariables false
set_option linter.unusedSimpArgs false

theorem info_tm : (Try.prog.info? 34).map (fun i => (i.zero, i.size, i.bytes)) = some (some (.agg #[.int .i64 0, .slice none 0 0]), 2, 32) := by kernel_rfl

theorem info_tm_size : (Try.prog.info? 34).map (fun i => i.size) = some 2 := by kernel_rfl

/-- What Clone tells. -/
def CloneSays (w : World) (t : Tm) (e : Ending) (w' : World) : Prop := ∃ a c, e = .returned (.agg #[.int .i64 t.f, .slice a t.ps.length c]) ∧ OwnT 34 (fun b => w.heap.size ≤ b) w' w.heap.size (.slice a t.ps.length c) (t.ps.map Tm.strip) ∧ Below w.heap.size w w'

theorem CloneSays.tat {w w' : World} {t : Tm} {e : Ending} (h : CloneSays w t e w') (hf : -9223372036854775808 ≤ t.f ∧ t.f ≤ 9223372036854775807) : ∃ a n c, e = .returned (.agg #[.int .i64 t.f, .slice a n c]) ∧ Tat (fun b => w.heap.size ≤ b) w' t.strip a n c ∧ Below w.heap.size w w' := by
  obtain ⟨a0, c0, h1, h2, h3⟩ := h
  obtain ⟨a, c, e1, h4⟩ := h2.las fun b h _ => h
  rw [e1] at h1
  refine ⟨a, _, c, h1, tat_iff.2 ⟨by rw [Tm.strip_f]; exact hf, ?_⟩, h3⟩
  rw [Tm.strip_l]
  exact h4

set_option maxRecDepth 100000 in
set_option maxHeartbeats 800000 in
theorem cloneAll_any {U : Nat → Prop} {l : List Tm} {a : Option Addr} {n c : Nat} {w : World} (h : Las U w l a n c) (hn : n ≤ 1000000000)
    (hC : ∀ t ∈ l, ∀ (a : Option Addr) (n c : Nat) (w' : World), Tat U w' t a n c → Calls Try.prog 41 #[.agg #[.int .i64 t.f, .slice a n c]] w' (CloneSays w' t)) :
    Calls Try.prog 59 #[.slice a n c] w fun e w' => ∃ a c, e = .returned (.slice a l.length c) ∧ OwnT 34 (fun b => w.heap.size ≤ b) w' w.heap.size (.slice a l.length c) (l.map Tm.strip) ∧ Below w.heap.size w w' := by
  have HL := hid h.len
  have HA : Hid (∀ w', Below w.heap.size w w' → Las U w' l a n c) := fun w' hb => h.bw hb
  have HC := hid hC
  clear h hC
  go_enter Try.func59, Try.ntmps59
  go_wp2
  go_loopw [3, 8] (fun vv i wr => ∃ (k : Nat) (av : Option Addr) (cv : Nat), vv = .slice av k cv ∧ i = .int .i64 (k : Int) ∧ k ≤ n ∧ OwnT 34 (fun b => w.heap.size ≤ b) wr w.heap.size (.slice av k cv) ((l.take k).map Tm.strip) ∧ Below w.heap.size w wr) (fun _ i _ => n - (intOf i).toNat)
  case atStart => exact ⟨0, _, _, rfl, rfl, by omega, OwnT.nil _ _ _ _, bW _⟩
  case round =>
    obtain ⟨k, av, cv, rfl, rfl, hk, ho, hbr⟩ := hrel
    by_cases hlt : k < n
    · obtain ⟨b, off, s, a', n', c', rfl, hU, hlt', hs, hT, e1, e2⟩ := (HA.out wr hbr).at hlt
      have HS := hid hs
      clear hs
      have hb1 : Below wr.heap.size wr (wr.alloc (.cells #[.int .i64 s.f, .slice a' n' c'] 34)) := bA (bW _) _
      have HCall := hid (HC.out s (List.mem_of_getElem? HS.out) a' n' c' _ (hT.bw hb1))
      have HF := hid hT.wf
      have HApp : Hid (∀ w1 a1 n1 c1, Below wr.heap.size wr w1 → Tat (fun b => wr.heap.size + 1 ≤ b) w1 s.strip a1 n1 c1 → ∃ a' c' w', Sem.run Try.prog (Builtin.append_ #[32, 32] 32 #[.slice av k cv, .slice (some ⟨w1.heap.size, 0, none⟩) 1 1]) (w1.alloc (.cells #[.int .i64 s.f, .slice a1 n1 c1] 34)) = .ok (.slice a' (k + 1) c') w' ∧ OwnT 34 (fun b => w.heap.size ≤ b) w' w.heap.size (.slice a' (k + 1) c') ((l.take (k + 1)).map Tm.strip) ∧ Below w.heap.size w w') := by
        intro w1 a1 n1 c1 hw1 ht1
        have ho1 := ho.bw hw1
        have hs1 : Tat (fun b => w.heap.size ≤ b ∧ (Value.slice av k cv).ownBlock ≠ some b) w1 s.strip a1 n1 c1 := ht1.mono fun b hb _ => ⟨by have := hbr.size; omega, fun e => by have := (ho.lt e).2; omega⟩
        have hkl : ((l.take k).map Tm.strip).length = k := by rw [List.length_map, List.length_take]; have := HL.out; omega
        obtain ⟨a', c', w', hr, h1, h2, _, _⟩ := app_tm (P := Try.prog) (U := fun b => w.heap.size ≤ b) (B := w.heap.size) (Nat.le_trans hbr.size hw1.size) 32 34 _ 32 Try.underlying32 info_tm rfl (by decide) ho1 hs1 (by omega)
        rw [Tm.strip_f, hkl] at hr
        rw [hkl] at h1
        refine ⟨a', c', w', hr, ?_, (hbr.trans (hw1.mono hbr.size)).trans h2⟩
        rw [List.take_add_one, HS.out, List.map_append]
        exact h1
      clear ho hT
      go_wp2_with (first
        | (go_at_call 41; refine HCall.out.mono ?_; rintro e w1 hcs; obtain ⟨a1, n1, c1, rfl, ht1, hb1'⟩ := hcs.tat HF.out; rw [World.size_alloc] at ht1; obtain ⟨a2, c2, w2, hr2, ho2, hb2⟩ := HApp.out w1 a1 n1 c1 (bN hb1 hb1') ht1; clear hcs ht1)
        | (at_builtin; refine wpList_appRun _ rfl _ _ _ rfl _ _ rfl rfl _ _ hr2 ?_))
      go_wp2
      go_roundw
      case rel => exact ⟨k + 1, _, _, rfl, by go_num, by omega, ho2, hb2⟩
      case measure => simp [intOf]; omega
    · have HE : Hid (l.take k = l) := List.take_of_length_le (by have := HL.out; omega)
      rw [HE.out] at ho
      have HK : Hid (k = l.length) := by show _ = _; have := HL.out; omega
      go_wp2
      go_ret
      exact ⟨av, cv, by rw [← HK.out]; rfl, by rw [← HK.out]; exact ho, hbr⟩

theorem two_block {W : World} {g : Nat} {x y : Value} {t : TypeId} (h : W.heap[g]? = some (.cells #[x, y] t (0, 0))) (x' y' : Value) : ((W.setCell ⟨g, 0, none⟩ x').setCell ⟨g, 1, none⟩ y').heap[g]? = some (.cells #[x', y'] t (0, 0)) := by
  obtain ⟨hlt, hk⟩ := Array.getElem?_eq_some_iff.1 h
  have h1 : (W.setCell ⟨g, 0, none⟩ x').heap[g]? = some (.cells #[x', y] t (0, 0)) := by
    show (W.heap.modify g _)[g]? = _
    rw [Array.getElem?_eq_getElem (by rw [Array.size_modify]; exact hlt), Array.getElem_modify_self, hk]
    rfl
  obtain ⟨hlt2, hk2⟩ := Array.getElem?_eq_some_iff.1 h1
  show ((W.setCell ⟨g, 0, none⟩ x').heap.modify g _)[g]? = _
  rw [Array.getElem?_eq_getElem (by rw [Array.size_modify]; exact hlt2), Array.getElem_modify_self, hk2]
  rfl

theorem frozen_box {w : World} {b : Nat} {x y : Value} {t : TypeId} (h : w.heap[b]? = some (.cells #[x, y] t (0, 0))) : w.frozen? ⟨b, 0, none⟩ = false ∧ w.frozen? ⟨b, 1, none⟩ = false := by
  constructor <;> simp [World.frozen?, h]

theorem results_clone {tmps : Array Value} {w : World} {g : Nat} {x y : Value} (hp : tmps.getD 2 undef = .pointer (some ⟨g, 0, none⟩)) (hg : w.heap[g]? = some (.cells #[x, y] 34 (0, 0))) :
    (results Try.f41 tmps).run Try.prog w = .ok (.agg #[x, y]) w := by
  have hp' : tmps[2]?.getD undef = .pointer (some ⟨g, 0, none⟩) := by simpa using hp
  simp [results, hp', asAddr, run_loadVar_row w g _ 34 #[x, y] (0, 0) _ hg Try.underlying34 rfl info_tm_size]

set_option maxRecDepth 100000 in
set_option maxHeartbeats 800000 in
theorem clone_any {U : Nat → Prop} : ∀ (t : Tm) (a : Option Addr) (n c : Nat) (w : World), Tat U w t a n c → t.size ≤ 1000000000 → Calls Try.prog 41 #[.agg #[.int .i64 t.f, .slice a n c]] w (CloneSays w t) := by
  intro t
  induction t using Tm.indp with
  | h t ih =>
    intro a n c w ht hsz
    obtain ⟨w0, hw0⟩ : ∃ w0, w0 = (w.alloc (.cells #[.int .i64 t.f, .slice a n c] 34)).alloc (.cells #[.int .i64 0, .slice none 0 0] 34) := ⟨_, rfl⟩
    have HX : Hid (∀ w1, Below w0.heap.size w0 w1 → w1.heap[w.heap.size + 1]? = some (.cells #[.int .i64 0, .slice none 0 0] 34 (0, 0))) := fun w1 hb => by
      have h1 := World.alloc_heap_new (w.alloc (.cells #[.int .i64 t.f, .slice a n c] 34)) (.cells #[.int .i64 0, .slice none 0 0] 34)
      rw [World.size_alloc, ← hw0] at h1
      exact (hb.block _ (Array.getElem?_eq_some_iff.1 h1).1).trans h1
    have HB : Hid (∀ w1, Below w0.heap.size w0 w1 → ((w1.cell? ⟨w.heap.size, 0, none⟩ = some (.int .i64 t.f) ∧ w1.cell? ⟨w.heap.size, 1, none⟩ = some (.slice a n c)) ∧ (w1.cell? ⟨w.heap.size + 1, 0, none⟩ = some (.int .i64 0) ∧ w1.cell? ⟨w.heap.size + 1, 1, none⟩ = some (.slice none 0 0))) ∧ (w1.frozen? ⟨w.heap.size + 1, 0, none⟩ = false ∧ w1.frozen? ⟨w.heap.size + 1, 1, none⟩ = false)) := fun w1 hb => by
      refine ⟨?_, frozen_box (HX.out w1 hb)⟩
      rw [hw0] at hb; exact box2 hb
    have HW := hid hw0
    have HB0 : Hid (Below w.heap.size w w0) := by rw [hw0]; exact bA (bA (bW _) _) _
    clear hw0
    have HP : Hid (∀ w1, Below w0.heap.size w0 w1 → Calls Try.prog 60 #[.agg #[.int .i64 t.f, .slice a n c]] w1 fun e w' => Below w1.heap.size w1 w' ∧ ∃ a' n' c', e = .returned (.slice a' n' c') ∧ Las U w' t.ps a' n' c') := fun w1 hb => parts_any (ht.bw (bN HB0.out hb))
    have hlp := t.len_ps
    have HC : Hid (∀ w1 a' n' c', Las U w1 t.ps a' n' c' → Calls Try.prog 59 #[.slice a' n' c'] w1 fun e w' => ∃ a c, e = .returned (.slice a t.ps.length c) ∧ OwnT 34 (fun b => w1.heap.size ≤ b) w' w1.heap.size (.slice a t.ps.length c) (t.ps.map Tm.strip) ∧ Below w1.heap.size w1 w') := fun w1 a' n' c' h => cloneAll_any h (by have := h.1; omega) (fun s hs a n c w' h' => ih s hs a n c w' h' (by have := Tm.size_part hs; omega))
    have HST : Hid (∀ w1 x y, Below w0.heap.size w0 w1 → ((w1.setCell ⟨w.heap.size + 1, 0, none⟩ x).setCell ⟨w.heap.size + 1, 1, none⟩ y).cell? ⟨w.heap.size, 0, none⟩ = some (.int .i64 t.f) ∧ ((w1.setCell ⟨w.heap.size + 1, 0, none⟩ x).setCell ⟨w.heap.size + 1, 1, none⟩ y).cell? ⟨w.heap.size, 1, none⟩ = some (.slice a n c)) := fun w1 x y hb => by
      have h1 := (HB.out w1 hb).1.1
      have h2 : ((w1.setCell ⟨w.heap.size + 1, 0, none⟩ x).setCell ⟨w.heap.size + 1, 1, none⟩ y).heap[w.heap.size]? = w1.heap[w.heap.size]? := by
        rw [Below.heap_setCell _ _ _ _ (by show w.heap.size ≠ w.heap.size + 1; omega), Below.heap_setCell _ _ _ _ (by show w.heap.size ≠ w.heap.size + 1; omega)]
      exact ⟨(cell_congr h2).trans h1.1, (cell_congr h2).trans h1.2⟩
    have hq : Below w0.heap.size w0 w0 := bW _
    obtain ⟨⟨⟨c1, c2⟩, c3, c4⟩, c5, c6⟩ := HB.out w0 hq
    clear ih ht
    go_enter Try.func41, Try.ntmps41
    go_wp2_with fail
    rw [← HW.out]
    go_region_held3 (fun w' => w'.cell? ⟨w.heap.size, 0, none⟩ = some (.int .i64 t.f) ∧ w'.cell? ⟨w.heap.size, 1, none⟩ = some (.slice a n c)) (first | (refine (HB.out _ ?_).1.1; with_reducible exact hq) | (refine (HB.out _ ?_).1.1; with_reducible exact bD hq) | (refine HST.out _ _ _ ?_; with_reducible exact hq))
      (first
        | (go_at_call 60; refine (HP.out _ (by first | with_reducible exact hq | with_reducible exact bD hq)).mono ?_; rintro e w2 ⟨hb2, a2, n2, c2, rfl, hl2⟩; replace hq := bN (by first | with_reducible exact hq | with_reducible exact bD hq) hb2; clear hb2; dsimp only)
        | (go_at_call 59; refine (HC.out _ _ _ _ hl2).mono ?_; rintro e w3 ⟨a3, c3, rfl, ho3, hb3⟩; have hq2 := hq; replace hq := bN (by first | with_reducible exact hq | with_reducible exact bD hq) hb3; obtain ⟨⟨_, d3, d4⟩, d5, d6⟩ := HB.out _ hq; dsimp only))
    go_wp2_with fail
    refine bodyPost_ret (results_clone (g := w.heap.size + 1) rfl (two_block (HX.out _ hq) _ _)) rfl ?_
    have hle : w0.heap.size ≤ w2.heap.size := hq2.size
    have hw0 : w0.heap.size = w.heap.size + 2 := by rw [HW.out]; simp
    refine ⟨a3, c3, rfl, ?_, ?_⟩
    · refine (ho3.keep (fun b h => h) fun b hb hlt => ?_).mono (by omega) (fun b h => by omega)
      rw [Below.heap_setCell _ _ _ _ (by show b ≠ w.heap.size + 1; omega), Below.heap_setCell _ _ _ _ (by show b ≠ w.heap.size + 1; omega)]
    · exact ((bN HB0.out hq).setCell (p := ⟨w.heap.size + 1, 0, none⟩) (by show w.heap.size ≤ w.heap.size + 1; omega) _).setCell (p := ⟨w.heap.size + 1, 1, none⟩) (by show w.heap.size ≤ w.heap.size + 1; omega) _
end Go.Proofs.Ytmdhefepaolhcaa
