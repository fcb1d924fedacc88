/-
  soriteslaw06.Of: the document's term as the program's, in new memory.
-/
import Derived.Test.YtmdhefepaolhcaaTmClone
import Derived.Deep.RegionLaw
import Derived.Shelf.Abstract
namespace Go.Proofs.Ytmdhefepaolhcaa
open Go.RowKit Go.Shelf
set_option linter.unusedVariables false
set_option linter.unusedSimpArgs false

/-- How many heads, those in variables' parts too. -/
def Tm.wt : Tm → Nat
  | ⟨_, l⟩ => 1 + (l.map Tm.wt).sum
def Tm.wts (l : List Tm) : Nat := (l.map Tm.wt).sum
theorem wts_nil : Tm.wts [] = 0 := rfl
theorem wts_cons (t : Tm) (ts : List Tm) : Tm.wts (t :: ts) = t.wt + Tm.wts ts := by simp [Tm.wts]
theorem Tm.wt_eq (t : Tm) : t.wt = 1 + Tm.wts t.l := by cases t with | mk f l => rw [Tm.wt]; rfl
theorem Tm.wts_mem {l : List Tm} {s : Tm} (h : s ∈ l) : s.wt ≤ Tm.wts l := by
  induction l with
  | nil => cases h
  | cons y ys ih =>
    rw [wts_cons]
    rcases List.mem_cons.1 h with rfl | h
    · omega
    · have := ih h; omega
theorem Tm.wts_len (l : List Tm) : l.length ≤ Tm.wts l := by
  induction l with
  | nil => simp [wts_nil]
  | cons y ys ih => rw [wts_cons, y.wt_eq, List.length_cons]; omega
theorem Tm.size_wt (t : Tm) : t.size ≤ t.wt := by
  induction t using Tm.ind with
  | h f l ih =>
    rw [Tm.size_eq, Tm.wt_eq]
    have h1 : ∀ l : List Tm, (∀ s ∈ l, s.size ≤ s.wt) → (l.flatMap Tm.flat).length ≤ Tm.wts l := by
      intro l hl
      induction l with
      | nil => simp
      | cons y ys ih2 =>
        have h1 := hl y (by simp)
        unfold Tm.size at h1
        rw [List.flatMap_cons, List.length_append, wts_cons]
        have := ih2 (fun s hs => hl s (List.mem_cons_of_mem _ hs))
        omega
    unfold Tm.ps
    split
    · simp
    · have := h1 l ih; show 1 + (l.flatMap Tm.flat).length ≤ 1 + Tm.wts l; omega

theorem cell2 {w : World} {b : Nat} {x y : Value} {t : TypeId} {fl : Nat × Nat} (h : w.heap[b]? = some (.cells #[x, y] t fl)) : w.cell? ⟨b, 0, none⟩ = some x ∧ w.cell? ⟨b, 1, none⟩ = some y := by
  constructor <;> simp [World.cell?, h]
theorem one_block {W : World} {g : Nat} {x y : Value} {t : TypeId} (h : W.heap[g]? = some (.cells #[x, y] t (0, 0))) (y' : Value) : (W.setCell ⟨g, 1, none⟩ y').heap[g]? = some (.cells #[x, y'] t (0, 0)) := by
  obtain ⟨hlt, hk⟩ := Array.getElem?_eq_some_iff.1 h
  show (W.heap.modify g _)[g]? = _
  rw [Array.getElem?_eq_getElem (by rw [Array.size_modify]; exact hlt), Array.getElem_modify_self, hk]
  rfl

theorem results_of {tmps : Array Value} {w : World} {g : Nat} {x y : Value} (hp : tmps.getD 2 undef = .pointer (some ⟨g, 0, none⟩)) (hg : w.heap[g]? = some (.cells #[x, y] 34 (0, 0))) :
    (results Try.f18 tmps).run Try.prog w = .ok (.agg #[x, y]) w := by
  have hp' : tmps[2]?.getD undef = .pointer (some ⟨g, 0, none⟩) := by simpa using hp
  simp [results, hp', asAddr, run_loadVar_row w g _ 34 #[x, y] (0, 0) _ hg Try.underlying34 rfl info_tm_size]

theorem of_enters : ∀ args w, (callFunc 18 args).run Try.prog w = .ok (.enter 18 args) w := enters_of Try.func18 (by kernel_rfl) rfl

/-- What Of tells. -/
def OfSays (w : World) (t : Tm) (e : Ending) (w' : World) : Prop := ∃ a n c, e = .returned (.agg #[.int .i64 t.f, .slice a n c]) ∧ Tat (fun b => w.heap.size ≤ b) w' t a n c ∧ Below w.heap.size w w'

set_option maxRecDepth 100000 in
set_option maxHeartbeats 1000000 in
theorem of_any : ∀ (t : Tm) (U : Nat → Prop) (a : Option Addr) (n c : Nat) (w : World), Tat U w t a n c → t.wt ≤ 1000000 → Calls Try.prog 18 #[.agg #[.int .i64 t.f, .slice a n c]] w (OfSays w t) := by
  intro t
  induction t using Tm.ind with
  | h f l ih =>
    intro U a n c w ht hwt
    have HF := hid ht.wf
    obtain ⟨w1, hw1⟩ : ∃ w1, w1 = w.alloc (.cells #[.int .i64 f, .slice a n c] 25) := ⟨_, rfl⟩
    obtain ⟨w2, hw2⟩ : ∃ w2, w2 = w1.alloc (.cells #[.int .i64 0, .slice none 0 0] 34) := ⟨_, rfl⟩
    obtain ⟨w3, hw3⟩ : ∃ w3, w3 = w2.alloc (.cells #[.int .i64 f, .slice none 0 0] 34) := ⟨_, rfl⟩
    have s1 : w1.heap.size = w.heap.size + 1 := by rw [hw1]; simp
    have s2 : w2.heap.size = w.heap.size + 2 := by rw [hw2]; simp; omega
    have s3 : w3.heap.size = w.heap.size + 3 := by rw [hw3]; simp; omega
    have b1 : Below w.heap.size w w1 := by rw [hw1]; exact bA (bW _) _
    have b2 : Below w1.heap.size w1 w2 := by rw [hw2]; exact bA (bW _) _
    have b3 : Below w2.heap.size w2 w3 := by rw [hw3]; exact bA (bW _) _
    have x1 : w3.heap[w.heap.size]? = some (.cells #[.int .i64 f, .slice a n c] 25 (0, 0)) := by
      rw [b3.block _ (by omega), b2.block _ (by omega), hw1]; exact World.alloc_heap_new _ _
    have x2 : w3.heap[w.heap.size + 1]? = some (.cells #[.int .i64 0, .slice none 0 0] 34 (0, 0)) := by
      rw [b3.block _ (by omega), hw2, ← s1]; exact World.alloc_heap_new _ _
    have x3 : w3.heap[w.heap.size + 1 + 1]? = some (.cells #[.int .i64 f, .slice none 0 0] 34 (0, 0)) := by
      rw [hw3, show w.heap.size + 1 + 1 = w2.heap.size by omega]; exact World.alloc_heap_new _ _
    have b0 : Below w.heap.size w w3 := bN (bN b1 b2) b3
    have hl : Las (· < w.heap.size) w3 l a n c := (ht.las.mono fun b _ h => h).below b0 fun b h _ => h
    have HL := hid hl.len
    have hn : n ≤ 1000000 := by have := HL.out.1; have := Tm.wts_len l; rw [Tm.wt_eq] at hwt; simp only at hwt; omega
    have HLs : Hid (∀ V, Below w.heap.size w3 V → Las (· < w.heap.size) V l a n c) := fun V h => hl.below h fun b hb _ => hb
    have HI : Hid (∀ s ∈ l, ∀ (U : Nat → Prop) (a : Option Addr) (n c : Nat) (w : World), Tat U w s a n c → Calls Try.prog 18 #[.agg #[.int .i64 s.f, .slice a n c]] w (OfSays w s)) := fun s hs U a n c w h => ih s hs U a n c w h (by have := Tm.wts_mem hs; rw [Tm.wt_eq] at hwt; simp only at hwt; omega)
    have HW : Hid (w3 = ((w.alloc (.cells #[.int .i64 f, .slice a n c] 25)).alloc (.cells #[.int .i64 0, .slice none 0 0] 34)).alloc (.cells #[.int .i64 f, .slice none 0 0] 34)) := by show _ = _; rw [hw3, hw2, hw1]
    clear hw1 hw2 hw3 s1 s2 b1 b2 b3 ht ih hl hwt
    simp only
    go_enter Try.func18, Try.ntmps18
    go_wp2_with fail
    rw [← HW.out]
    go_loopw [4] (fun i wr => ∃ (k : Nat) (av : Option Addr) (cv : Nat), i = .int .i64 (k : Int) ∧ k ≤ n ∧ OwnT 34 (fun b => w3.heap.size ≤ b) wr w3.heap.size (.slice av k cv) (l.take k) ∧ Below w.heap.size w3 wr ∧ wr.heap[w.heap.size]? = some (.cells #[.int .i64 f, .slice a n c] 25 (0, 0)) ∧ wr.heap[w.heap.size + 1]? = some (.cells #[.int .i64 0, .slice none 0 0] 34 (0, 0)) ∧ wr.heap[w.heap.size + 1 + 1]? = some (.cells #[.int .i64 f, .slice av k cv] 34 (0, 0))) (fun i _ => n - (intOf i).toNat)
    case atStart => exact ⟨0, _, _, rfl, by omega, OwnT.nil _ _ _ _, Below.refl _ _, x1, x2, x3⟩
    case round =>
      obtain ⟨k, av, cv, rfl, hk, ho, hbr, y1, y2, y3⟩ := hrel
      clear x1 x2 x3
      obtain ⟨d1, d2⟩ := cell2 y1
      obtain ⟨d3, d4⟩ := cell2 y3
      have hbr' : w3.heap.size ≤ wr.heap.size := hbr.size
      by_cases hlt : k < n
      · obtain ⟨b, off, s, a', n', c', rfl, hU, hlt', hs, hT, e1, e2⟩ := (HLs.out wr hbr).at hlt
        have HS := hid hs
        clear hs
        have HCall : Hid (Calls Try.prog 18 #[.agg #[.int .i64 s.f, .slice a' n' c']] wr.drew (OfSays wr.drew s)) := HI.out s (List.mem_of_getElem? HS.out) _ a' n' c' wr.drew (hT.bw (bD (bW _)))
        have HSt : Hid (∀ w5 a5 n5 c5, Below wr.heap.size wr.drew w5 → Tat (fun b => wr.heap.size ≤ b) w5 s a5 n5 c5 → ∃ a6 c6 w6, Sem.run Try.prog (Builtin.append_ #[32, 32] 32 #[.slice av k cv, .slice (some ⟨w5.heap.size, 0, none⟩) 1 1]) (w5.alloc (.cells #[.int .i64 s.f, .slice a5 n5 c5] 34)) = .ok (.slice a6 (k + 1) c6) w6 ∧ (w5.heap[w.heap.size + 1 + 1]? = some (.cells #[.int .i64 f, .slice av k cv] 34 (0, 0)) ∧ w6.heap[w.heap.size + 1 + 1]? = some (.cells #[.int .i64 f, .slice av k cv] 34 (0, 0))) ∧
            (OwnT 34 (fun b => w3.heap.size ≤ b) (w6.setCell ⟨w.heap.size + 1 + 1, 1, none⟩ (.slice a6 (k + 1) c6)) w3.heap.size (.slice a6 (k + 1) c6) (l.take (k + 1)) ∧ Below w.heap.size w3 (w6.setCell ⟨w.heap.size + 1 + 1, 1, none⟩ (.slice a6 (k + 1) c6)) ∧ (w6.setCell ⟨w.heap.size + 1 + 1, 1, none⟩ (.slice a6 (k + 1) c6)).heap[w.heap.size]? = some (.cells #[.int .i64 f, .slice (some ⟨b, off, none⟩) n c] 25 (0, 0)) ∧ (w6.setCell ⟨w.heap.size + 1 + 1, 1, none⟩ (.slice a6 (k + 1) c6)).heap[w.heap.size + 1]? = some (.cells #[.int .i64 0, .slice none 0 0] 34 (0, 0)) ∧ (w6.setCell ⟨w.heap.size + 1 + 1, 1, none⟩ (.slice a6 (k + 1) c6)).heap[w.heap.size + 1 + 1]? = some (.cells #[.int .i64 f, .slice a6 (k + 1) c6] 34 (0, 0)))) := by
          intro w5 a5 n5 c5 hw5' ht5
          have hw5 : Below wr.heap.size wr w5 := bN (bD (bW _)) hw5'
          have ho5 := ho.bw hw5
          have hkl : (l.take k).length = k := by rw [List.length_take]; have := HL.out; omega
          have hs5 : Tat (fun b => w3.heap.size ≤ b ∧ (Value.slice av k cv).ownBlock ≠ some b) w5 s a5 n5 c5 := ht5.mono fun b hb _ => ⟨by omega, fun e => by have := (ho.lt e).2; omega⟩
          obtain ⟨a6, c6, w6, hr, h1, h2, h3, h4⟩ := app_tm (P := Try.prog) (U := fun b => w3.heap.size ≤ b) (B := w3.heap.size) (Nat.le_trans hbr' hw5.size) 32 34 _ 32 Try.underlying32 info_tm rfl (by decide) ho5 hs5 (by omega)
          rw [hkl] at hr h1
          have z2 : w5.heap[w.heap.size + 1 + 1]? = some (.cells #[.int .i64 f, .slice av k cv] 34 (0, 0)) := (hw5.block _ (by omega)).trans y3
          have z3 : w6.heap[w.heap.size + 1 + 1]? = some (.cells #[.int .i64 f, .slice av k cv] 34 (0, 0)) := (h2.block _ (by omega)).trans z2
          have hst : ∀ g, g ≠ w.heap.size + 1 + 1 → (w6.setCell ⟨w.heap.size + 1 + 1, 1, none⟩ (.slice a6 (k + 1) c6)).heap[g]? = w6.heap[g]? := fun g hg => Below.heap_setCell _ _ _ _ hg
          refine ⟨a6, c6, w6, hr, ⟨z2, z3⟩, ?_, ?_, ?_, ?_, ?_⟩
          · rw [List.take_add_one, HS.out]
            exact h1.keep (fun b h => h) fun b hb _ => hst b (by omega)
          · exact ((hbr.trans (hw5.mono (by omega))).trans (h2.mono (by omega))).setCell (p := ⟨w.heap.size + 1 + 1, 1, none⟩) (by show w.heap.size ≤ w.heap.size + 1 + 1; omega) _
          · rw [hst _ (by omega), h2.block _ (by omega), hw5.block _ (by omega)]; exact y1
          · rw [hst _ (by omega), h2.block _ (by omega), hw5.block _ (by omega)]; exact y2
          · exact one_block z3 _
        clear ho hT y2
        go_wp2_with fail
        go_region_law (first
          | (refine step_call _ rfl 18 _ _ rfl of_enters (.agg #[.int .i64 s.f, .slice a' n' c']) rfl HCall.out ?_; rintro e w5 ⟨a5, n5, c5, rfl, ht5, hb5⟩; refine ⟨_, rfl, ?_⟩; obtain ⟨a6, c6, w6, hr6, ⟨z5, z6⟩, hend⟩ := HSt.out w5 a5 n5 c5 hb5 ht5; obtain ⟨f1, f2⟩ := cell2 z5; obtain ⟨f3, f4⟩ := cell2 z6; obtain ⟨f5, f6⟩ := frozen_box z6; obtain ⟨f7, f8⟩ := cell2 ((Below.heap_alloc w5 (.cells #[.int .i64 s.f, .slice a5 n5 c5] 34) _ (Array.getElem?_eq_some_iff.1 z5).1).trans z5))
          | (refine step_appRun _ rfl _ _ 32 rfl (.slice av k cv) (.slice (some ⟨w5.heap.size, 0, none⟩) 1 1) rfl rfl (.slice a6 (k + 1) c6) w6 hr6 ?_))
        all_goals go_wp2_with fail
        all_goals exact ⟨⟨k + 1, a6, c6, by go_num, by omega, hend⟩, by simp [intOf]; omega⟩
      · have HE : Hid (l.take k = l) := List.take_of_length_le (by have := HL.out; omega)
        have HK : Hid (k = l.length) := by show _ = _; have := HL.out; omega
        rw [HE.out] at ho
        obtain ⟨d5, d6⟩ := cell2 y2
        obtain ⟨d7, d8⟩ := frozen_box y2
        go_wp2_with fail
        refine bodyPost_ret (results_of (g := w.heap.size + 1) rfl (two_block y2 _ _)) rfl ?_
        obtain ⟨a7, c7, e7, h7⟩ := ho.las fun b h _ => h
        cases e7
        refine ⟨_, _, _, rfl, tat_iff.2 ⟨HF.out, ?_⟩, ?_⟩
        · refine Las.keep (U := fun b => w3.heap.size ≤ b) (fun b hb hlt2 => ⟨by omega, ?_⟩) h7
          rw [Below.heap_setCell _ _ _ _ (by show b ≠ w.heap.size + 1; omega), Below.heap_setCell _ _ _ _ (by show b ≠ w.heap.size + 1; omega)]
        · exact ((b0.trans hbr).setCell (p := ⟨w.heap.size + 1, 0, none⟩) (by show w.heap.size ≤ w.heap.size + 1; omega) _).setCell (p := ⟨w.heap.size + 1, 1, none⟩) (by show w.heap.size ≤ w.heap.size + 1; omega) _
end Go.Proofs.Ytmdhefepaolhcaa
