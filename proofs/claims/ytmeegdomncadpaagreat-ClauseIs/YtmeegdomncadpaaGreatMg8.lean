/-
  ClN0
-/
import Derived.Test.YtmeegdomncadpaaGreatMg7
import Derived.Test.YtmeegdomncadpaaGreatMg6
namespace Go.Proofs.YtmeegdomncadpaaGreat
open Go.RowKit
set_option linter.unusedVariables false
set_option linter.unusedSimpArgs false
set_option maxRecDepth 100000
theorem small_f {t : Tm} {most deep : Int} (h0 : 0 ≤ most) (h1 : most ≤ 30) (h : 0 ≤ smallT t most deep) : t.sm ∧ t.rng ∧ t.ok ∧ t.size ≤ 30 := by
  have hsm := small_sm t _ _ h
  have hwt : t.wt ≤ 30 := by have := (small_bounds t most deep h0).2.2 h; omega
  exact ⟨hsm, Tm.sm_rng hsm, Tm.wt_ok (t := t) (by omega), Nat.le_trans t.size_wt hwt⟩
theorem fine7_f {l : List Bd} (h : fine7B l = true) : l.length ≤ 8 ∧ bdsOk l ∧ ∀ b ∈ l, b.t.ok := by
  unfold fine7B at h
  rw [Bool.and_eq_true, List.all_eq_true, decide_eq_true_eq] at h
  obtain ⟨h1, h2⟩ := h
  have hf : ∀ b ∈ l, b.t.rng ∧ b.t.ok ∧ b.t.size ≤ 30 := fun b hb => by
    have := h1 b hb
    unfold fineBd at this
    simp only [Bool.and_eq_true, decide_eq_true_eq] at this
    exact (small_f (by decide) (by decide) this.2.2).2
  exact ⟨h2, fun b hb => ⟨(hf b hb).1, by have := (hf b hb).2.2; omega⟩, fun b hb => (hf b hb).2.1⟩
theorem fine_okCl {c : List Lt} {most : Nat} {size : Int} (h0 : 0 ≤ size) (h1 : size ≤ 60) (hm : most ≤ 12) (h : fineC c most size = true) : okCl c ∧ (∀ l ∈ c, l.a.sm ∧ l.b.sm) ∧ ∀ l ∈ c, (l.a.size : Int) ≤ size ∧ (l.b.size : Int) ≤ size := by
  obtain ⟨hl, hf⟩ := fineC_facts h0 h1 h
  refine ⟨⟨by omega, fun l hm => ?_⟩, fun l hm => ⟨(hf l hm).1.1.1, (hf l hm).2.1.1⟩, fun l hm => ⟨(hf l hm).1.2.2, (hf l hm).2.2.2⟩⟩
  obtain ⟨⟨⟨_, r1, o1⟩, _, s1⟩, ⟨_, r2, o2⟩, _, s2⟩ := hf l hm
  exact ⟨⟨r1, o1, by omega⟩, r2, o2, by omega⟩
theorem sm_vs {c : List Lt} (h : ∀ l ∈ c, l.a.sm ∧ l.b.sm) : ∀ v ∈ (sidT c).vs, 0 ≤ v ∧ v < 1000 := fun v hv => by
  rw [sid_vs, List.mem_flatMap] at hv
  obtain ⟨l, hl, hv⟩ := hv
  rcases List.mem_append.1 hv with hv | hv
  · exact ⟨vs_nonneg _ v hv, vs_le (fun s hs => (Tm.sm_flat (h l hl).1 s hs).1) v hv⟩
  · exact ⟨vs_nonneg _ v hv, vs_le (fun s hs => (Tm.sm_flat (h l hl).2 s hs).1) v hv⟩
theorem sm_nv {c : List Lt} (h : ∀ l ∈ c, l.a.sm ∧ l.b.sm) : ∀ v ∈ (sidT c).nv, 0 ≤ v ∧ v < 1000 := fun v hv => sm_vs h v ((mem_nub _ _).1 hv)
theorem okCl.repG {c : List Lt} (hn : okCl c) {img : Int → Tm} (h : ∀ v, ∃ u, img v = varT u) (hr : ∀ v, 0 ≤ v → v ≤ 9223372036854775807 → (img v).rng) : okCl (c.map (Lt.rep img)) := by
  refine ⟨by rw [List.length_map]; exact hn.1, fun l hl => ?_⟩
  obtain ⟨x, hx, rfl⟩ := List.mem_map.1 hl
  have key : ∀ t : Tm, (t.rng ∧ t.ok ∧ t.size ≤ 1000) → ((repT img t).rng ∧ (repT img t).ok ∧ (repT img t).size ≤ 1000) := fun t ht => by
    refine ⟨repT_rng ht.1 hr, repT_ok ht.2.1 fun v => ?_, by rw [rep_size1 h]; exact ht.2.2⟩
    obtain ⟨u, hu⟩ := h v
    rw [hu]
    exact varT_ok u
  exact ⟨key _ (hn.2 x hx).1, key _ (hn.2 x hx).2⟩
theorem up_img {k : Int} (hk : 0 ≤ k) : (∀ v, ∃ u, varT (upV k v) = varT u) ∧ ∀ v, 0 ≤ v → v ≤ 9223372036854775807 → (varT (upV k v)).rng :=
  ⟨fun v => ⟨_, rfl⟩, fun v h1 h2 => varT_rng (upV_ok h1 h2 hk).1 (upV_ok h1 h2 hk).2⟩
theorem okCl.okC {c : List Lt} (h : okCl c) : okC c := h.rng
end Go.Proofs.YtmeegdomncadpaaGreat
