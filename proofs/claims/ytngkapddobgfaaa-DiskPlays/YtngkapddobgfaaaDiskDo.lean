/-
  What a deed does to a map of files.
-/
import Derived.Test.YtngkapddobgfaaaDiskMap
namespace Go.Proofs.Ytngkapddobgfaaa
open Go.RowKit Go.Maps
set_option linter.unusedVariables false

/-- What must stay of blocks: their first so many cells. -/
def Grd (E : Ents) (G : List (Nat × Nat)) : Prop := ∀ x ∈ E, ∀ q ∈ G, x.2.1.blk = some q.1 → q.2 ≤ x.2.1.n ∨ x.2.1.c ≤ x.2.1.n
def PrA (w w' : World) (G : List (Nat × Nat)) : Prop := ∀ q ∈ G, Prefix w w' q.1 q.2
theorem PrA.refl (w : World) (G : List (Nat × Nat)) : PrA w w G := fun q _ => Prefix.refl _ _ _
theorem PrA.trans {a b c : World} {G : List (Nat × Nat)} (h : PrA a b G) (k : PrA b c G) : PrA a c G := fun q hq => (h q hq).trans (k q hq)

/-- A deed's cells. -/
def ARef.deed (r : ARef) : Value := .agg #[.int .i64 r.kind, .string r.name, .string r.to, .slice r.a r.n r.c, .int .i64 r.num]

set_option maxRecDepth 100000 in
set_option maxHeartbeats 400000 in
theorem clip_any (s : Sl) (w : World) (h : s.n ≤ s.c) : Calls Try.prog 55 #[s.val] w fun e w' => e = .returned (Sl.val ⟨s.a, s.n, s.n⟩) ∧ w' = w := by
  obtain ⟨a, n, c⟩ := s
  unfold Sl.val
  simp only at h ⊢
  go_enter Try.func55, Try.ntmps55
  go_wp2
  go_ret
  exact ⟨rfl, rfl⟩

set_option maxRecDepth 100000 in
set_option maxHeartbeats 400000 in
theorem within_any (n m : Int) (w : World) (h : 0 ≤ m) : Calls Try.prog 41 #[.int .i64 n, .int .i64 m] w fun e w' => e = .returned (.int .i64 (cutZ n m)) ∧ w' = w := by
  go_enter Try.func41, Try.ntmps41
  go_wp2
  all_goals go_ret
  all_goals refine ⟨?_, rfl⟩
  all_goals (unfold cutZ; (repeat' split) <;> simp_all <;> omega)

theorem Prefix.of_map {w w' : World} {g k : Nat} {es : Array MapEntry} {c : Nat} (h : w.heap[g]? = some (.map es c)) : Prefix w w' g k := fun cur hc => by rw [h] at hc; cases hc
theorem PrA.of_kp {S : Nat → Prop} {w w' : World} {G : List (Nat × Nat)} (h : Kp S w w') (hS : ∀ q ∈ G, S q.1 → Prefix w w' q.1 q.2) : PrA w w' G := fun q hq => by
  by_cases hs : S q.1
  · exact hS q hq hs
  · rcases Nat.lt_or_ge q.1 w.heap.size with hl | hl
    · exact Prefix.of_block (h.block _ hl hs)
    · intro cur hc
      rw [Array.getElem?_eq_none hl] at hc
      cases hc
theorem Mp.prA {w w' : World} {m : Nat} {E : Ents} (h : Mp w m E) (hk : Kp (fun i => i = m) w w') (G : List (Nat × Nat)) : PrA w w' G :=
  PrA.of_kp hk fun q hq e => by
    obtain ⟨es, clock, hm, _⟩ := h.1
    rw [e]
    exact Prefix.of_map hm
theorem at_mem {E : Ents} {k : List UInt8} {g : Nat} (h : (slAt E k).blk = some g) : ∃ e, getG E k = some e ∧ slAt E k = e.1 ∧ (k, e) ∈ E := by
  cases hg : getG E k with
  | none => rw [slAt, hg] at h; cases h
  | some e => exact ⟨e, rfl, by rw [slAt, hg], getG_mem hg⟩
theorem Grd.at {E : Ents} {G : List (Nat × Nat)} (h : Grd E G) (k : List UInt8) : ∀ q ∈ G, (slAt E k).blk = some q.1 → q.2 ≤ (slAt E k).n ∨ (slAt E k).c ≤ (slAt E k).n := fun q hq hb => by
  obtain ⟨e, _, e2, e3⟩ := at_mem hb
  rw [e2] at hb ⊢
  exact h _ e3 q hq hb
theorem SepE.at {E : Ents} (h : SepE E) {e : List UInt8 × Ent} (he : e ∈ E) {k : List UInt8} (hne : e.1 ≠ k) {g : Nat} (hg : (slAt E k).blk = some g) : e.2.1.blk ≠ some g := by
  obtain ⟨x, _, e2, e3⟩ := at_mem hg
  rw [e2] at hg
  exact h _ e3 e he (fun e' => hne e'.symm) g hg

/-- What an append leaves of what must stay. -/
theorem app_prA {w w' : World} {E : Ents} {G : List (Nat × Nat)} {k : List UInt8} {s' : Sl} (hG : Grd E G) (hk : Kp (fun i => (slAt E k).blk = some i) w w')
    (h3 : (∃ g, s'.blk = some g ∧ w.heap.size ≤ g ∧ Kp (fun _ => False) w w') ∨ (s'.blk = (slAt E k).blk ∧ (slAt E k).n ≤ s'.n ∧ s'.c = (slAt E k).c ∧ (s'.n = (slAt E k).n ∨ s'.n ≤ (slAt E k).c) ∧ ∀ g, (slAt E k).blk = some g → Prefix w w' g (slAt E k).n ∧ ((slAt E k).c ≤ (slAt E k).n → w'.heap[g]? = w.heap[g]?))) : PrA w w' G := by
  rcases h3 with ⟨g, _, _, h⟩ | ⟨h1, h2, h3, h4, h5⟩
  · exact PrA.of_kp h fun q hq e => e.elim
  · refine PrA.of_kp hk fun q hq e => ?_
    rcases hG.at k q hq e with h6 | h6
    · exact (h5 _ e).1.le h6
    · exact Prefix.of_block ((h5 _ e).2 h6)

/-- What is asked of a deed ahead of its being done. -/
def OkDeed (w : World) (E : Ents) (r : ARef) : Prop :=
  r.ok w ∧ 0 ≤ r.kind ∧ r.kind ≤ 4 ∧ r.name.size ≤ maxLen ∧ r.to.size ≤ maxLen ∧ (r.kind = 2 → 0 ≤ r.num ∧ r.num ≤ (zsAt E r.name.toList).length) ∧ (r.kind = 1 → (zsAt E r.name.toList).length + r.n ≤ 140737488355328)

/-- What a deed leaves. -/
def Did (w : World) (m : Nat) (E : Ents) (r : ARef) (G : List (Nat × Nat)) (w' : World) : Prop :=
  ∃ E', Mp w' m E' ∧ filesOf E' = doneF (filesOf E) r.act ∧ Grd E' G ∧ PrA w w' G ∧ Kp (fun i => i = m ∨ ∃ x ∈ E, x.2.1.blk = some i) w w' ∧ ∀ x ∈ E', ∀ g, x.2.1.blk = some g → w.heap.size ≤ g ∨ ∃ y ∈ E, y.2.1.blk = some g

set_option maxRecDepth 100000 in
set_option maxHeartbeats 400000 in
theorem do_any (m : Nat) (E : Ents) (r : ARef) (G : List (Nat × Nat)) (w : World) (h : Mp w m E) (hr : OkDeed w E r) (hE : E.length < maxLen) (hG : Grd E G) (hGl : ∀ q ∈ G, q.1 < w.heap.size) :
    Calls Try.prog 51 #[r.deed, .map (some m)] w fun e w' => e = .returned (.tuple #[]) ∧ Did w m E r G w' := by
  have hb0 : Below w.heap.size w (w.alloc (.cells #[.int .i64 r.kind, .string r.name, .string r.to, .slice r.a r.n r.c, .int .i64 r.num] 76)) := (Below.refl _ _).alloc (Nat.le_refl _) _
  obtain ⟨w0, hw0⟩ : ∃ w0, w0 = w.alloc (.cells #[.int .i64 r.kind, .string r.name, .string r.to, .slice r.a r.n r.c, .int .i64 r.num] 76) := ⟨_, rfl⟩
  rw [← hw0] at hb0
  have hsz0 : w.heap.size < w0.heap.size := by rw [hw0]; simp
  have b0 : w0.cell? ⟨w.heap.size, 0, none⟩ = some (.int .i64 r.kind) := by rw [hw0]; simp
  have b1 : w0.cell? ⟨w.heap.size, 1, none⟩ = some (.string r.name) := by rw [hw0]; simp
  have b2 : w0.cell? ⟨w.heap.size, 2, none⟩ = some (.string r.to) := by rw [hw0]; simp
  have b3 : w0.cell? ⟨w.heap.size, 3, none⟩ = some (.slice r.a r.n r.c) := by rw [hw0]; simp
  have b4 : w0.cell? ⟨w.heap.size, 4, none⟩ = some (.int .i64 r.num) := by rw [hw0]; simp
  have h0 : Mp w0 m E := h.kp (Kp.of_below (S := fun _ => False) hb0) (fun e => e) (fun _ _ _ _ e => e)
  obtain ⟨hok, hk0, hk4, hn1, hn2, hcut, happ⟩ := hr
  unfold ARef.deed
  go_enter Try.func51, Try.ntmps51
  have hw0' : w.alloc (.cells #[.int .i64 r.kind, .string r.name, .string r.to, .slice r.a r.n r.c, .int .i64 r.num] 76) = w0 := hw0.symm
  clear hw0
  have hA : Kp (fun _ => False) w w0 := Kp.of_below hb0
  have hlt := h.lt
  have HAP : Hid (∀ e ∈ E, e.2.1.blk ≠ some m) := h.apart
  have hAG : PrA w w0 G := PrA.of_kp hA (fun q hq e => e.elim)
  have hfl := h0.flAt r.name.toList
  have hltS : ∀ g, (slAt E r.name.toList).blk = some g → g < w.heap.size := fun g hg => (h.flAt r.name.toList).lt hg
  obtain ⟨s, hs⟩ : ∃ s, s = slAt E r.name.toList := ⟨_, rfl⟩
  obtain ⟨a0, n0, c0⟩ := s
  have hv : (slAt E r.name.toList).val = .slice a0 n0 c0 := by rw [← hs]; rfl
  have HS : Hid ((⟨a0, n0, c0⟩ : Sl) = slAt E r.name.toList) := hs
  clear hs
  by_cases k0 : r.kind = 0
  · have q0 : (r.kind == 0) = true := by simpa using k0
    have HE : Hid (doneF (filesOf E) r.act = putF (filesOf E) (r.name.toList, [])) := by
      unfold doneF; rw [if_pos (show r.act.kind = 0 from k0)]; exact rfl
    clear k0
    go_wp2_with (first | (at_lookup; refine wpList_at_sl _ rfl _ _ rfl m E rfl h0 r.name rfl hn1 ?_) | (at_mapUpdate; refine wpList_put_sl _ rfl _ _ _ rfl m E rfl h0.1 hE r.name rfl hn1 ⟨none, 0, 0⟩ rfl ?_; intro w1 ho1 hk1))
    go_end0
    refine ⟨rfl, putG E (r.name.toList, (⟨none, 0, 0⟩, [])), ?_, by rw [files_put, HE.out], ?_, hAG.trans (h0.prA hk1 G), ?_, ?_⟩
    · exact Mp.put h0.1 ho1 (fun e he _ => (h0.2.1 e he).kp hk1 (fun g hg e' => HAP.out e he (by rw [hg, e']))) (Fl.nil _) h0.2.2 (fun e he _ g hg => by cases hg)
    · intro x hx q hq hb
      rcases mem_putG.1 hx with rfl | ⟨h1, h2⟩
      · cases hb
      · exact hG x h1 q hq hb
    · exact (hA.mono (S1 := fun i => i = m ∨ ∃ x ∈ E, x.2.1.blk = some i) (fun i _ e => e.elim)).trans hk1 (fun i hi e => .inl e)
    · intro x hx g hg
      rcases mem_putG.1 hx with rfl | ⟨h1, h2⟩
      · cases hg
      · exact .inr ⟨x, h1, hg⟩
  have q0 : (r.kind == 0) = false := by simpa using k0
  by_cases k1 : r.kind = 1
  · have q1 : (r.kind == 1) = true := by simpa using k1
    have HE : Hid (doneF (filesOf E) r.act = putF (filesOf E) (r.name.toList, zsAt E r.name.toList ++ r.zs)) := by
      unfold doneF; rw [if_neg (show ¬ r.act.kind = 0 from k0), if_pos (show r.act.kind = 1 from k1)]; rw [show r.act.name = r.name.toList from rfl, bytes_files]; exact rfl
    have hlen := happ k1
    have hn0 : (zsAt E r.name.toList).length = n0 := by rw [(h.flAt r.name.toList).1, ← HS.out]
    rw [hn0] at hlen
    have hbs : Bs w0.drew r.a r.n r.zs := hok.2.2.2.below (hb0.drew) (Nat.le_refl _)
    have hfl' : Fl w0.drew ⟨a0, n0, c0⟩ (zsAt E r.name.toList) := by rw [HS.out]; exact hfl
    have hne : ∀ w', Kp (fun i => (⟨a0, n0, c0⟩ : Sl).blk = some i) w0.drew w' → w'.cell? ⟨w.heap.size, 1, none⟩ = some (.string r.name) ∧ w'.cell? ⟨w.heap.size, 3, none⟩ = some (.slice r.a r.n r.c) := fun w' hk =>
      ⟨hk.cell b1 (fun e => by rw [HS.out] at e; have := hltS _ e; simp only at this; omega), hk.cell b3 (fun e => by rw [HS.out] at e; have := hltS _ e; simp only at this; omega)⟩
    have HNE : Hid (∀ w', Kp (fun i => (⟨a0, n0, c0⟩ : Sl).blk = some i) w0.drew w' → w'.cell? ⟨w.heap.size, 1, none⟩ = some (.string r.name) ∧ w'.cell? ⟨w.heap.size, 3, none⟩ = some (.slice r.a r.n r.c)) := hne
    have hS0 : w0.drew.cell? ⟨w.heap.size, 1, none⟩ = some (.string r.name) ∧ w0.drew.cell? ⟨w.heap.size, 3, none⟩ = some (.slice r.a r.n r.c) := ⟨b1, b3⟩
    have hokn := hok.1
    have HM : Hid (∀ w', Kp (fun i => (⟨a0, n0, c0⟩ : Sl).blk = some i) w0.drew w' → w'.ownsMap Try.prog 9 slR m E.length (dOf E)) := fun w' hk => by
      obtain ⟨es, clock, hm, F, hs, hD⟩ := h0.1
      refine ⟨es, clock, (hk.block m h0.lt (fun e => ?_)).trans hm, F, hs, hD⟩
      rw [HS.out] at e
      obtain ⟨x, _, e2, e3⟩ := at_mem e
      rw [e2] at e
      exact HAP.out _ e3 e
    clear k0 k1 happ hn0 hne
    go_wp2_with (first | (at_lookup; refine wpList_at_sl _ rfl _ _ rfl m E rfl h0 r.name rfl hn1 ?_; rw [hv]))
    go_region_held3 (fun w' => w'.cell? ⟨w.heap.size, 1, none⟩ = some (.string r.name) ∧ w'.cell? ⟨w.heap.size, 3, none⟩ = some (.slice r.a r.n r.c)) (first | exact hS0 | exact hS1 | exact hS2)
      (first
        | (refine step_append_fl _ rfl _ _ rfl Try.underlying32 info_u8d ⟨a0, n0, c0⟩ (zsAt E r.name.toList) rfl hfl' r.a r.n r.c r.zs rfl hokn hbs hlen ?_; intro s1 w1 hf1 hk1 hx1; have hS1 := HNE.out w1 hk1; obtain ⟨w2, hrun2, ho2, hk2⟩ := run_put_sl (HM.out w1 hk1) hE r.name hn1 s1; have hS2 : w2.cell? ⟨w.heap.size, 1, none⟩ = some (.string r.name) ∧ w2.cell? ⟨w.heap.size, 3, none⟩ = some (.slice r.a r.n r.c) := ⟨hk2.cell hS1.1 (fun e => by simp only at e; omega), hk2.cell hS1.2 (fun e => by simp only at e; omega)⟩; dsimp only))
    all_goals go_end0
    rw [HS.out] at hk1 hx1
    have hk1' : Kp (fun i => (slAt E r.name.toList).blk = some i) w0 w1 := ⟨hk1.os, hk1.tape, hk1.output, hk1.size, hk1.block⟩
    refine ⟨rfl, putG E (r.name.toList, (s1, zsAt E r.name.toList ++ r.zs)), ?_, by rw [files_put, HE.out], ?_, ?_, ?_, ?_⟩
    · refine Mp.put h0.1 ho2 (fun e he hne => ?_) (hf1.kp hk2 (fun g hg e => ?_)) h0.2.2 (fun e he hne g hg => ?_)
      · refine ((h0.2.1 e he).kp hk1' (fun g hg e' => h0.2.2.at he hne e' hg)).kp hk2 (fun g hg e' => HAP.out e he (by rw [hg, e']))
      · subst e
        rcases hx1 with ⟨g', e1, e2, _⟩ | ⟨e1, _⟩
        · rw [hg] at e1
          cases e1
          have : w0.heap.size ≤ g := e2
          omega
        · rw [hg] at e1
          obtain ⟨x, _, e2, e3⟩ := at_mem e1.symm
          rw [e2] at e1
          exact HAP.out _ e3 e1.symm
      · rcases hx1 with ⟨g', e1, e2, _⟩ | ⟨e1, _⟩
        · intro e'
          have h5 := (h.2.1 e he).lt e'
          rw [hg] at e1
          cases e1
          have : w0.heap.size ≤ g := e2
          omega
        · rw [hg] at e1
          exact h0.2.2.at he hne e1.symm
    · intro x hx q hq hb
      rcases mem_putG.1 hx with rfl | ⟨h1, h2⟩
      · simp only at hb ⊢
        rcases hx1 with ⟨g', e1, e2, _⟩ | ⟨e1, e2, e3, e4, _⟩
        · rw [hb] at e1
          cases e1
          have h5 := hGl q hq
          have : w0.heap.size ≤ q.1 := e2
          omega
        · rw [hb] at e1
          rcases hG.at _ q hq e1.symm with h6 | h6
          · exact .inl (by omega)
          · exact .inr (by omega)
      · exact hG x h1 q hq hb
    · refine (hAG.trans (app_prA (s' := s1) hG hk1' ?_)).trans ?_
      · rcases hx1 with ⟨g', e1, e2, e3⟩ | e
        · exact .inl ⟨g', e1, e2, ⟨e3.os, e3.tape, e3.output, e3.size, e3.block⟩⟩
        · exact .inr e
      · refine PrA.of_kp hk2 fun q hq e => ?_
        obtain ⟨es, clock, hm, _⟩ := h0.1
        rw [e]
        refine Prefix.of_map (es := es) (c := clock) ((hk1'.block m h0.lt (fun e => ?_)).trans hm)
        obtain ⟨x, _, e2, e3⟩ := at_mem e
        rw [e2] at e
        exact HAP.out _ e3 e
    · refine ((hA.mono (S1 := fun i => i = m ∨ ∃ x ∈ E, x.2.1.blk = some i) (fun i _ e => e.elim)).trans hk1' (fun i hi e => ?_)).trans hk2 (fun i hi e => .inl e)
      obtain ⟨x, _, e2, e3⟩ := at_mem e
      rw [e2] at e
      exact .inr ⟨_, e3, e⟩
    · intro x hx g hg
      rcases mem_putG.1 hx with rfl | ⟨h1, h2⟩
      · simp only at hg
        rcases hx1 with ⟨g', e1, e2, _⟩ | ⟨e1, _⟩
        · rw [hg] at e1
          cases e1
          have : w0.heap.size ≤ g := e2
          exact .inl (by omega)
        · rw [hg] at e1
          obtain ⟨x, _, e2, e3⟩ := at_mem e1.symm
          rw [e2] at e1
          exact .inr ⟨_, e3, e1.symm⟩
      · exact .inr ⟨x, h1, hg⟩
  have q1 : (r.kind == 1) = false := by simpa using k1
  have hAT : Kp (fun i => i = m ∨ ∃ x ∈ E, x.2.1.blk = some i) w w0 := hA.mono (fun i _ e => e.elim)
  by_cases k2 : r.kind = 2
  · have q2 : (r.kind == 2) = true := by simpa using k2
    obtain ⟨l1, l2⟩ := hcut k2
    obtain ⟨N, hN⟩ := Int.eq_ofNat_of_zero_le l1
    have HE : Hid (doneF (filesOf E) r.act = putF (filesOf E) (r.name.toList, (zsAt E r.name.toList).take N)) := by
      unfold doneF; rw [if_neg (show ¬ r.act.kind = 0 from k0), if_neg (show ¬ r.act.kind = 1 from k1), if_pos (show r.act.kind = 2 from k2)]; rw [show r.act.name = r.name.toList from rfl, bytes_files, show r.act.num = r.num from rfl, hN]; exact rfl
    have hn0 : (zsAt E r.name.toList).length = n0 := by rw [(h.flAt r.name.toList).1, ← HS.out]
    have hNn : N ≤ n0 := by omega
    have hle := hfl.le
    rw [← HS.out] at hle
    simp only at hle
    have z1 : (N : Int) ≤ (c0 : Int) := by omega
    rw [hN] at b4
    have hS0 : w0.drew.cell? ⟨w.heap.size, 1, none⟩ = some (.string r.name) ∧ w0.drew.cell? ⟨w.heap.size, 4, none⟩ = some (.int .i64 (N : Int)) := ⟨b1, b4⟩
    obtain ⟨w2, hrun2, ho2, hk2⟩ := run_put_sl (w := w0.drew) (b := m) (E := E) h0.1 hE r.name hn1 ⟨a0, N, N⟩
    have hrun2' : Sem.run Try.prog (Instr.mapUpdate 63 (.map (some m)) (.string r.name) (.slice a0 N N)) w0.drew = .ok () w2 := hrun2
    have hS2 : w2.cell? ⟨w.heap.size, 1, none⟩ = some (.string r.name) ∧ w2.cell? ⟨w.heap.size, 4, none⟩ = some (.int .i64 (N : Int)) := ⟨hk2.cell hS0.1 (fun e => by simp only at e; omega), hk2.cell hS0.2 (fun e => by simp only at e; omega)⟩
    have hclip : Calls Try.prog 55 #[.slice a0 N c0] w0.drew fun e w' => e = .returned (.slice a0 N N) ∧ w' = w0.drew := clip_any ⟨a0, N, c0⟩ _ (by simp only; omega)
    clear k0 k1 k2 happ hn0 hN l1 l2 hcut hrun2
    go_wp2_with (first | (at_lookup; refine wpList_at_sl _ rfl _ _ rfl m E rfl h0 r.name rfl hn1 ?_; rw [hv]))
    go_region_held3 (fun w' => w'.cell? ⟨w.heap.size, 1, none⟩ = some (.string r.name) ∧ w'.cell? ⟨w.heap.size, 4, none⟩ = some (.int .i64 (N : Int))) (first | exact hS0 | exact hS2)
      (first
        | (go_at_call 55; refine hclip.mono ?_; rintro e w1 ⟨rfl, rfl⟩; dsimp only))
    all_goals go_end0
    have hk2' : Kp (fun i => i = m) w0 w2 := ⟨hk2.os, hk2.tape, hk2.output, hk2.size, hk2.block⟩
    have hfN : Fl w2 ⟨a0, N, N⟩ ((zsAt E r.name.toList).take N) := by
      have h5 := hfl.clip (k := N) (by rw [← HS.out]; exact hNn)
      rw [← HS.out] at h5
      refine h5.kp hk2' (fun g hg e => ?_)
      have hb : (slAt E r.name.toList).blk = some g := by rw [← HS.out]; exact hg
      obtain ⟨x, _, e2, e3⟩ := at_mem hb
      rw [e2] at hb
      exact HAP.out _ e3 (by rw [hb, e])
    have hblk : (⟨a0, N, N⟩ : Sl).blk = (slAt E r.name.toList).blk := by rw [← HS.out]; rfl
    refine ⟨rfl, putG E (r.name.toList, (⟨a0, N, N⟩, (zsAt E r.name.toList).take N)), ?_, by rw [files_put, HE.out], ?_, hAG.trans (h0.prA hk2' G), hAT.trans hk2' (fun i hi e => .inl e), ?_⟩
    · refine Mp.put h0.1 ho2 (fun e he hne => (h0.2.1 e he).kp hk2' (fun g hg e' => HAP.out e he (by rw [hg, e']))) hfN h0.2.2 (fun e he hne g hg => ?_)
      rw [hblk] at hg
      exact h0.2.2.at he hne hg
    · intro x hx q hq hb
      rcases mem_putG.1 hx with rfl | ⟨h1, h2⟩
      · exact .inr (Nat.le_refl _)
      · exact hG x h1 q hq hb
    · intro x hx g hg
      rcases mem_putG.1 hx with rfl | ⟨h1, h2⟩
      · simp only at hg
        rw [hblk] at hg
        obtain ⟨x, _, e2, e3⟩ := at_mem hg
        rw [e2] at hg
        exact .inr ⟨_, e3, hg⟩
      · exact .inr ⟨x, h1, hg⟩
  have q2 : (r.kind == 2) = false := by simpa using k2
  by_cases k3 : r.kind = 3
  · have q3 : (r.kind == 3) = true := by simpa using k3
    have HE : Hid (doneF (filesOf E) r.act = putF (dropF (filesOf E) r.name.toList) (r.to.toList, zsAt E r.name.toList)) := by
      unfold doneF; rw [if_neg (show ¬ r.act.kind = 0 from k0), if_neg (show ¬ r.act.kind = 1 from k1), if_neg (show ¬ r.act.kind = 2 from k2), if_pos (show r.act.kind = 3 from k3)]; rw [show r.act.name = r.name.toList from rfl, bytes_files]; exact rfl
    have hE2 : (dropG E r.name.toList).length < maxLen := Nat.lt_of_le_of_lt (length_dropG_le _ _) hE
    clear k0 k1 k2 k3 happ hcut
    go_wp2_with (first | (at_lookup; refine wpList_at_sl _ rfl _ _ rfl m E rfl h0 r.name rfl hn1 ?_; rw [hv]) | (at_delete; refine wpList_del_sl _ rfl _ _ rfl m E rfl h0.1 r.name rfl hn1 ?_; intro w1 ho1 hk1; have c2 : w1.cell? ⟨w.heap.size, 2, none⟩ = some (.string r.to) := hk1.cell b2 (fun e => by simp only at e; omega)) | (at_mapUpdate; refine wpList_put_sl _ rfl _ _ _ rfl m (dropG E r.name.toList) rfl ho1 hE2 r.to rfl hn2 ⟨a0, n0, c0⟩ rfl ?_; intro w2 ho2 hk2))
    go_end0
    have hk3 : Kp (fun i => i = m) w0 w2 := hk1.trans hk2 (fun i _ e => e)
    have hblk : (⟨a0, n0, c0⟩ : Sl).blk = (slAt E r.name.toList).blk := by rw [← HS.out]
    have hsep : SepE (dropG E r.name.toList) := fun x hx y hy => h0.2.2 x (mem_dropG.1 hx).1 y (mem_dropG.1 hy).1
    refine ⟨rfl, putG (dropG E r.name.toList) (r.to.toList, (⟨a0, n0, c0⟩, zsAt E r.name.toList)), ?_, by rw [files_put, files_drop, HE.out], ?_, hAG.trans (h0.prA hk3 G), hAT.trans hk3 (fun i hi e => .inl e), ?_⟩
    · refine Mp.put ho1 ho2 (fun e he hne => (h0.2.1 e (mem_dropG.1 he).1).kp hk3 (fun g hg e' => HAP.out e (mem_dropG.1 he).1 (by rw [hg, e']))) ?_ hsep (fun e he hne g hg => ?_)
      · have h5 := hfl
        rw [← HS.out] at h5
        refine h5.kp hk3 (fun g hg e => ?_)
        rw [hblk] at hg
        obtain ⟨x, _, e2, e3⟩ := at_mem hg
        rw [e2] at hg
        exact HAP.out _ e3 (by rw [hg, e])
      · rw [hblk] at hg
        exact h0.2.2.at (mem_dropG.1 he).1 (mem_dropG.1 he).2 hg
    · intro x hx q hq hb
      rcases mem_putG.1 hx with rfl | ⟨h1, h2⟩
      · simp only [HS.out] at hb ⊢
        have := hG.at r.name.toList q hq hb
        rw [← HS.out] at this
        exact this
      · exact hG x (mem_dropG.1 h1).1 q hq hb
    · intro x hx g hg
      rcases mem_putG.1 hx with rfl | ⟨h1, h2⟩
      · simp only at hg
        rw [hblk] at hg
        obtain ⟨x, _, e2, e3⟩ := at_mem hg
        rw [e2] at hg
        exact .inr ⟨_, e3, hg⟩
      · exact .inr ⟨x, (mem_dropG.1 h1).1, hg⟩
  have q3 : (r.kind == 3) = false := by simpa using k3
  have q4 : (r.kind == 4) = true := by simp; omega
  have HE : Hid (doneF (filesOf E) r.act = dropF (filesOf E) r.name.toList) := by
    unfold doneF; rw [if_neg (show ¬ r.act.kind = 0 from k0), if_neg (show ¬ r.act.kind = 1 from k1), if_neg (show ¬ r.act.kind = 2 from k2), if_neg (show ¬ r.act.kind = 3 from k3)]; exact rfl
  clear k0 k1 k2 k3 happ hcut
  go_wp2_with (first | (at_lookup; refine wpList_at_sl _ rfl _ _ rfl m E rfl h0 r.name rfl hn1 ?_; rw [hv]) | (at_delete; refine wpList_del_sl _ rfl _ _ rfl m E rfl h0.1 r.name rfl hn1 ?_; intro w1 ho1 hk1))
  go_end0
  refine ⟨rfl, dropG E r.name.toList, ⟨ho1, fun e he => (h0.2.1 e (mem_dropG.1 he).1).kp hk1 (fun g hg e' => HAP.out e (mem_dropG.1 he).1 (by rw [hg, e'])), fun x hx y hy => h0.2.2 x (mem_dropG.1 hx).1 y (mem_dropG.1 hy).1⟩, by rw [files_drop, HE.out], fun x hx => hG x (mem_dropG.1 hx).1, hAG.trans (h0.prA hk1 G), hAT.trans hk1 (fun i hi e => .inl e), fun x hx g hg => .inr ⟨x, (mem_dropG.1 hx).1, hg⟩⟩
end Go.Proofs.Ytngkapddobgfaaa
