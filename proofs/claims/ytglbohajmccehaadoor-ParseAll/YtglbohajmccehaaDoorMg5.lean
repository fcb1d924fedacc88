/-
  PsRd PsParse PsCk PsAlive PsRight PsRight2 PsRefR PsOk PsGood PsSame PsLex PsLex2 PsApp PsTwo AbRowO AbKind CodeMath CodeLen CodePut CodePutMore RefSame CodeRef CodeAlive CodeReadMath CodeRead CodeUint CodeText CodeBackMath ClBy ClCode ClPut ClGet ClGet2 ClA ClB PsLex3 PsLexM PsRefA PsLexW PsRdr
-/
import Derived.Test.YtglbohajmccehaaDoorMg4
import Derived.Test.YtglbohajmccehaaDoorMg3
import Derived.Test.YtglbohajmccehaaDoorMg2
import Derived.WalkKit
import Derived.Test.YtglbohajmccehaaDoorChecked
import Derived.WalkLawsBesides
import Derived.WalkSpells
import Derived.Test.YtglbohajmccehaaDoorMg1
import Derived.Laws.BitsAllLaws
import Derived.Deep.QuietTactic
import Derived.BigQuiet
import Derived.Laws.BytesArg
import Derived.Laws.Strings2
namespace Go.Proofs.YtglbohajmccehaaDoor
open Go.RowKit
set_option linter.unusedVariables false
set_option linter.unusedSimpArgs false
theorem takeT_lt {t : Tkn} {s : By} (h : (takeT t s).1 = true) (hs : s ≠ []) : (takeT t s).2.len < t.len := by
  unfold takeT at h ⊢
  split
  · rename_i e
    have h1 := mvT_len t.rs
    have h2 : 0 < t.nx.length := by
      rw [e]
      cases s with
      | nil => exact absurd rfl hs
      | cons b l => simp
    show (mvT t.rs).len < t.len
    unfold Tkn.len at *
    omega
  · rename_i e
    rw [if_neg e] at h
    cases h
theorem nameT_ok {t : Tkn} (h : (nameT t).2.1 = true) : (nameT t).1 ≠ [] ∧ (nameT t).1.length ≤ t.len := by
  unfold nameT at h ⊢
  split
  · rename_i e
    refine ⟨fun e2 => ?_, ?_⟩
    · have e2 : t.nx = [] := e2
      unfold isNmL at e
      rw [e2] at e
      simp at e
    · show t.nx.length ≤ _
      unfold Tkn.len
      omega
  · rename_i e
    rw [if_neg e] at h
    cases h
theorem rdX_g : ∀ (n d : Nat) (t : Tkn), t.len ≤ 1000000 → (∀ r, rdX n d t none = some r → r.2.2.1 = true → r.1.ok ∧ r.1.sz + r.2.2.2.len ≤ t.len) ∧ ∀ acc r, rdX n d t (some acc) = some r → r.2.2.1 = true → (∀ p ∈ acc, p.ok) → (∀ p ∈ r.2.1, p.ok) ∧ r.2.1.length + r.2.2.2.len ≤ acc.length + t.len ∧ (r.2.1.map Ph.sz).sum + r.2.2.2.len ≤ (acc.map Ph.sz).sum + t.len
  | 0, d, t, _ => ⟨fun r h => by simp [rdX] at h, fun acc r h => by simp [rdX] at h⟩
  | n + 1, d, t, ht => by
    constructor
    · intro r h hok
      obtain ⟨h1, h2⟩ := nameT_len t
      have h3 := takeT_len (nameT t).2.2 [40]
      rw [rdX] at h
      split at h
      · cases h; cases hok
      · split at h
        · cases h
          have hok : (nameT t).2.1 = true := hok
          have h2 := h2 hok
          obtain ⟨n1, n2⟩ := nameT_ok hok
          refine ⟨(Ph.ok_iff _).2 ⟨⟨n1, by show (nameT t).1.length ≤ _; omega, Nat.zero_le _⟩, fun q hq => by cases hq⟩, ?_⟩
          rw [Ph.sz_eq]
          show 1 + 0 + (nameT t).2.2.len ≤ _
          omega
        · rename_i hk
          have hk : (nameT t).2.1 = true := by
            cases hx : (nameT t).2.1 with
            | true => rfl
            | false => rw [hx] at hk; simp at hk
          have h2 := h2 hk
          obtain ⟨n1, n2⟩ := nameT_ok hk
          split at h
          · rename_i hp
            have h6 := takeT_lt hp (by simp)
            split at h
            · cases h
            · rename_i q hq
              split at h
              · rename_i hq2
                obtain ⟨i1, i2, i3⟩ := (rdX_g n (d + 1) (takeT (nameT t).2.2 [40]).2 (by omega)).2 [] q hq hq2 (fun p hp => by cases hp)
                have h5 := takeT_len q.2.2.2 [41]
                simp only [List.length_nil, List.map_nil, List.sum_nil] at i2 i3
                cases h
                refine ⟨(Ph.ok_iff _).2 ⟨⟨n1, by show (nameT t).1.length ≤ _; omega, by show q.2.1.length ≤ _; omega⟩, i1⟩, ?_⟩
                rw [Ph.sz_eq]
                show 1 + (q.2.1.map Ph.sz).sum + (takeT q.2.2.2 [41]).2.len ≤ _
                omega
              · cases h; cases hok
          · cases h
            refine ⟨(Ph.ok_iff _).2 ⟨⟨n1, by show (nameT t).1.length ≤ _; omega, Nat.zero_le _⟩, fun q hq => by cases hq⟩, ?_⟩
            rw [Ph.sz_eq]
            show 1 + 0 + (takeT (nameT t).2.2 [40]).2.len ≤ _
            omega
    · intro acc r h hok ha
      rw [rdX] at h
      split at h
      · cases h
      · rename_i q hq
        have h3 := takeT_len q.2.2.2 [44]
        split at h
        · rename_i hq2
          obtain ⟨g1, g2⟩ := (rdX_g n d t ht).1 q hq hq2
          have g3 := q.1.sz_pos
          have hacc : ∀ p ∈ acc ++ [q.1], p.ok := fun p hp => by
            rcases List.mem_append.1 hp with hp | hp
            · exact ha p hp
            · rw [List.mem_singleton.1 hp]; exact g1
          split at h
          · obtain ⟨i1, i2, i3⟩ := (rdX_g n d (takeT q.2.2.2 [44]).2 (by omega)).2 _ r h hok hacc
            rw [List.length_append] at i2
            rw [List.map_append, List.sum_append] at i3
            simp only [List.length_cons, List.length_nil, List.map_cons, List.map_nil, List.sum_cons, List.sum_nil] at i2 i3
            exact ⟨i1, by omega, by omega⟩
          · cases h
            refine ⟨hacc, ?_, ?_⟩
            · show (acc ++ [q.1]).length + (takeT q.2.2.2 [44]).2.len ≤ _
              rw [List.length_append]
              simp only [List.length_cons, List.length_nil]
              omega
            · show ((acc ++ [q.1]).map Ph.sz).sum + (takeT q.2.2.2 [44]).2.len ≤ _
              rw [List.map_append, List.sum_append]
              simp only [List.map_cons, List.map_nil, List.sum_cons, List.sum_nil]
              omega
        · cases h; cases hok
theorem rdX_some : ∀ (n d : Nat) (t : Tkn), (2 * t.len + 1 ≤ n → ∃ r, rdX n d t none = some r) ∧ ∀ acc, 2 * t.len + 2 ≤ n → ∃ r, rdX n d t (some acc) = some r
  | 0, d, t => ⟨fun h => by omega, fun acc h => by omega⟩
  | n + 1, d, t => by
    constructor
    · intro hn
      obtain ⟨h1, h2⟩ := nameT_len t
      rw [rdX]
      split
      · exact ⟨_, rfl⟩
      · split
        · exact ⟨_, rfl⟩
        · rename_i hk
          have hk : (nameT t).2.1 = true := by
            cases hx : (nameT t).2.1 with
            | true => rfl
            | false => rw [hx] at hk; simp at hk
          have h2 := h2 hk
          split
          · rename_i hp
            have h6 := takeT_lt hp (by simp)
            obtain ⟨r, hr⟩ := (rdX_some n (d + 1) (takeT (nameT t).2.2 [40]).2).2 [] (by omega)
            rw [hr]
            simp only
            split <;> exact ⟨_, rfl⟩
          · exact ⟨_, rfl⟩
    · intro acc hn
      rw [rdX]
      obtain ⟨r, hr⟩ := (rdX_some n d t).1 (by omega)
      rw [hr]
      simp only
      split
      · rename_i hok
        have h3 := ((rdX_len n d t).1 r hr).2 hok
        split
        · rename_i h4
          have h5 := takeT_lt h4 (by simp)
          exact (rdX_some n d (takeT r.2.2.2 [44]).2).2 _ (by omega)
        · exact ⟨_, rfl⟩
      · exact ⟨_, rfl⟩
theorem rdL_some {n : Nat} {t : Tkn} (h : 2 * t.len + 1 ≤ n) : ∃ r, rdL n t = some r := by
  unfold rdL
  have l1 := takeT_len t [126]
  obtain ⟨r, hr⟩ := (rdX_some n 1 (takeT t [126]).2).1 (by omega)
  have l2 := ((rdX_len n 1 _).1 r hr).1
  have l4 := takeT_len r.2.2.2 [61]
  have l5 := takeT_len (takeT r.2.2.2 [61]).2 unlB
  rw [hr]
  simp only
  split
  · split
    · obtain ⟨q, hq⟩ := (rdX_some n 1 (takeT r.2.2.2 [61]).2).1 (by omega)
      rw [hq]
      exact ⟨_, rfl⟩
    · split
      · obtain ⟨q, hq⟩ := (rdX_some n 1 (takeT (takeT r.2.2.2 [61]).2 unlB).2).1 (by omega)
        rw [hq]
        exact ⟨_, rfl⟩
      · exact ⟨_, rfl⟩
  · exact ⟨_, rfl⟩
theorem Ph.z_sz : Ph.z.sz = 1 := by rw [Ph.sz_eq]; rfl
theorem rdL_g {n : Nat} {t : Tkn} {r : Se × Bool × Tkn} (ht : t.len ≤ 1000000) (h : rdL n t = some r) (hok : r.2.1 = true) : r.1.ok ∧ r.1.sz + 2 * r.2.2.len ≤ 2 * t.len := by
  unfold rdL at h
  have l1 := takeT_len t [126]
  split at h
  · cases h
  · rename_i q hq
    have l4 := takeT_len q.2.2.2 [61]
    have l5 := takeT_len (takeT q.2.2.2 [61]).2 unlB
    split at h
    · rename_i hk
      obtain ⟨g1, g2⟩ := (rdX_g n 1 _ (by omega)).1 q hq hk
      have g3 := q.1.sz_pos
      split at h
      · split at h
        · cases h
        · rename_i q2 hq2
          cases h
          obtain ⟨g4, g5⟩ := (rdX_g n 1 _ (by omega)).1 q2 hq2 hok
          exact ⟨⟨g1, fun _ => g4⟩, by show q.1.sz + q2.1.sz + 2 * q2.2.2.2.len ≤ _; omega⟩
      · split at h
        · split at h
          · cases h
          · rename_i q2 hq2
            cases h
            obtain ⟨g4, g5⟩ := (rdX_g n 1 _ (by omega)).1 q2 hq2 hok
            exact ⟨⟨g1, fun _ => g4⟩, by show q.1.sz + q2.1.sz + 2 * q2.2.2.2.len ≤ _; omega⟩
        · cases h
          exact ⟨⟨g1, fun h => by cases h⟩, by show q.1.sz + Ph.z.sz + 2 * (takeT (takeT q.2.2.2 [61]).2 unlB).2.len ≤ _; rw [Ph.z_sz]; omega⟩
    · cases h
      cases hok
theorem Se.sz_pos (s : Se) : 1 ≤ s.sz := by unfold Se.sz; have := s.a.sz_pos; omega
theorem rdLs_some {n : Nat} : ∀ {m : Nat} {t : Tkn} {acc : List Se}, 2 * t.len + 1 ≤ n → t.len < m → ∃ r, rdLs n m t acc = some r
  | 0, _, _, _, h => by omega
  | m + 1, t, acc, hn, hm => by
    rw [rdLs]
    obtain ⟨r, hr⟩ := rdL_some hn
    rw [hr]
    simp only
    split
    · rename_i hok
      have h1 := (rdL_len hr).2 hok
      have h2 := takeT_len r.2.2 [124]
      split
      · exact rdLs_some (by omega) (by omega)
      · exact ⟨_, rfl⟩
    · exact ⟨_, rfl⟩
theorem rdLs_g {n : Nat} : ∀ {m : Nat} {t : Tkn} {acc : List Se} {r : List Se × Bool × Tkn}, t.len ≤ 1000000 → rdLs n m t acc = some r → r.2.1 = true → (∀ s ∈ acc, s.ok) → (∀ s ∈ r.1, s.ok) ∧ (r.1.map Se.sz).sum + 2 * r.2.2.len ≤ (acc.map Se.sz).sum + 2 * t.len
  | 0, _, _, _, _, h, _, _ => by simp [rdLs] at h
  | m + 1, t, acc, r, ht, h, hok, ha => by
    rw [rdLs] at h
    split at h
    · cases h
    · rename_i q hq
      have l1 := (rdL_len hq).1
      have l2 := takeT_len q.2.2 [124]
      split at h
      · rename_i hk
        obtain ⟨g1, g2⟩ := rdL_g ht hq hk
        have hacc : ∀ p ∈ acc ++ [q.1], p.ok := fun p hp => by
          rcases List.mem_append.1 hp with hp | hp
          · exact ha p hp
          · rw [List.mem_singleton.1 hp]; exact g1
        split at h
        · obtain ⟨i1, i2⟩ := rdLs_g (by omega) h hok hacc
          rw [List.map_append, List.sum_append] at i2
          simp only [List.map_cons, List.map_nil, List.sum_cons, List.sum_nil] at i2
          exact ⟨i1, by omega⟩
        · cases h
          refine ⟨hacc, ?_⟩
          show ((acc ++ [q.1]).map Se.sz).sum + 2 * (takeT q.2.2 [124]).2.len ≤ _
          rw [List.map_append, List.sum_append]
          simp only [List.map_cons, List.map_nil, List.sum_cons, List.sum_nil]
          omega
      · cases h; cases hok
theorem rdC_some {n : Nat} {t : Tkn} (h : 2 * t.len + 1 ≤ n) : ∃ r, rdC n t = some r := by
  unfold rdC
  have l1 := takeT_len t neverB
  split
  · exact ⟨_, rfl⟩
  · exact rdLs_some (by omega) (by omega)
theorem rdC_g {n : Nat} {t : Tkn} {r : List Se × Bool × Tkn} (ht : t.len ≤ 1000000) (h : rdC n t = some r) (hok : r.2.1 = true) : (∀ s ∈ r.1, s.ok) ∧ (r.1.map Se.sz).sum ≤ 2 * t.len := by
  unfold rdC at h
  have l1 := takeT_len t neverB
  split at h
  · cases h; exact ⟨(fun s hs => by cases hs), Nat.zero_le _⟩
  · obtain ⟨i1, i2⟩ := rdLs_g (by omega) h hok (fun s hs => by cases hs)
    simp only [List.map_nil, List.sum_nil] at i2
    exact ⟨i1, by omega⟩
theorem rdF_some {n : Nat} : ∀ {m : Nat} {t : Tkn} {acc : List (List Se)}, 2 * t.len + 1 ≤ n → t.len < m → ∃ r, rdF n m t acc = some r
  | 0, _, _, _, h => by omega
  | m + 1, t, acc, hn, hm => by
    rw [rdF]
    split
    · exact ⟨_, rfl⟩
    · obtain ⟨r, hr⟩ := rdC_some hn
      rw [hr]
      simp only
      have h1 := rdC_len hr
      split
      · split
        · rename_i hp
          have h2 := takeT_lt hp (by simp)
          exact rdF_some (by omega) (by omega)
        · exact ⟨_, rfl⟩
      · exact ⟨_, rfl⟩
theorem rdF_g {n : Nat} : ∀ {m : Nat} {t : Tkn} {acc : List (List Se)} {r : List (List Se) × Bool} {B : Nat}, t.len ≤ 1000000 → 2 * t.len ≤ B → rdF n m t acc = some r → (∀ c ∈ acc, (∀ s ∈ c, s.ok) ∧ (c.map Se.sz).sum ≤ B) → ∀ c ∈ r.1, (∀ s ∈ c, s.ok) ∧ (c.map Se.sz).sum ≤ B
  | 0, _, _, _, _, _, _, h, _ => by simp [rdF] at h
  | m + 1, t, acc, r, B, ht, hB, h, ha => by
    rw [rdF] at h
    split at h
    · cases h; exact ha
    · split at h
      · cases h
      · rename_i q hq
        have l1 := rdC_len hq
        have l2 := takeT_len q.2.2 [46]
        split at h
        · rename_i hok
          obtain ⟨g1, g2⟩ := rdC_g ht hq hok
          split at h
          · refine rdF_g (by omega) (by omega) h (fun c hc => ?_)
            rcases List.mem_append.1 hc with hc | hc
            · exact ha c hc
            · rw [List.mem_singleton.1 hc]; exact ⟨g1, by omega⟩
          · cases h; exact fun c hc => by cases hc
        · cases h; exact fun c hc => by cases hc
theorem len_le_sz (c : List Se) : c.length ≤ (c.map Se.sz).sum := by
  induction c with
  | nil => simp
  | cons s c ih =>
    rw [List.map_cons, List.sum_cons, List.length_cons]
    have := s.sz_pos
    omega
theorem rdAll_g {n : Nat} {src : By} {r : List (List Se) × Bool} (hs : src.length ≤ 32768) (h : rdAll n src = some r) : ∀ c ∈ r.1, (∀ s ∈ c, s.ok) ∧ c.length ≤ 1000000 ∧ (c.map Se.sz).sum ≤ 65536 := by
  intro c hc
  have l0 := mvT_len src
  obtain ⟨g1, g2⟩ := rdF_g (B := 65536) (by omega) (by omega) h (fun c hc => by cases hc) c hc
  have := len_le_sz c
  exact ⟨g1, by omega, g2⟩
theorem rdAll_some {n : Nat} {src : By} (h : 2 * src.length + 1 ≤ n) : ∃ r, rdAll n src = some r := by
  have l0 := mvT_len src
  exact rdF_some (by omega) (by omega)
theorem fold_some {f : Nm → Ph → Option (Tm × Bool × Nm)} : ∀ (ps : List Ph), (∀ p ∈ ps, ∀ st, ∃ r, f st p = some r) → ∀ (st : Nm) (acc : List Tm), ∃ r, foldP f st ps acc = some r
  | [], _, st, acc => ⟨_, rfl⟩
  | p :: ps, h, st, acc => by
    rw [foldP]
    obtain ⟨r, hr⟩ := h p (by simp) st
    rw [hr]
    simp only
    split
    · exact fold_some ps (fun p hp => h p (List.mem_cons_of_mem _ hp)) _ _
    · exact ⟨_, rfl⟩
theorem sz_mem {p : Ph} {ps : List Ph} (h : p ∈ ps) : p.sz ≤ (ps.map Ph.sz).sum := by
  induction ps with
  | nil => cases h
  | cons q ps ih =>
    rw [List.map_cons, List.sum_cons]
    rcases List.mem_cons.1 h with rfl | h
    · omega
    · have := ih h; omega
theorem sym_some {n : Nat} (hf : ∀ st (p : Ph), p.sz ≤ n → ∃ r, tmF n st p = some r) {st : Nm} {p : Ph} {pred : Bool} (h : p.sz ≤ n + 1) : ∃ r, symF (tmF n) st p pred = some r := by
  unfold symF
  have hs := p.sz_eq
  split
  · obtain ⟨r, hr⟩ := fold_some p.parts (fun q hq st => hf st q (by have := sz_mem hq; omega)) (numF st ⟨p.name, p.parts.length, pred⟩).2.2 []
    rw [hr]
    simp only
    split <;> exact ⟨_, rfl⟩
  · exact ⟨_, rfl⟩
theorem tmF_some : ∀ (n : Nat) (st : Nm) (p : Ph), p.sz ≤ n → ∃ r, tmF n st p = some r
  | 0, st, p, h => by have := p.sz_pos; omega
  | n + 1, st, p, h => by
    rw [tmF]
    split
    · exact ⟨_, rfl⟩
    · exact sym_some (tmF_some n) h
theorem litF_some {n : Nat} {st : Nm} {s : Se} (h : s.sz ≤ n) : ∃ r, litF n st s = some r := by
  unfold litF
  unfold Se.sz at h
  split
  · obtain ⟨r, hr⟩ := sym_some (tmF_some n) (st := st) (p := s.a) (pred := true) (by omega)
    rw [hr]
    exact ⟨_, rfl⟩
  · obtain ⟨r, hr⟩ := tmF_some n st s.a (by omega)
    rw [hr]
    simp only
    split
    · obtain ⟨q, hq⟩ := tmF_some n r.2.2 s.b (by omega)
      rw [hq]
      exact ⟨_, rfl⟩
    · exact ⟨_, rfl⟩
theorem litsF_some {n : Nat} : ∀ (ss : List Se), (ss.map Se.sz).sum ≤ n → ∀ (st : Nm) (acc : List Lt), ∃ r, litsF n st ss acc = some r
  | [], _, st, acc => ⟨_, rfl⟩
  | s :: ss, h, st, acc => by
    rw [List.map_cons, List.sum_cons] at h
    rw [litsF]
    obtain ⟨r, hr⟩ := litF_some (st := st) (s := s) (n := n) (by omega)
    rw [hr]
    simp only
    split
    · exact litsF_some ss (by omega) _ _
    · exact ⟨_, rfl⟩
theorem mnF_some {n : Nat} : ∀ (cs : List (List Se)), (∀ c ∈ cs, (c.map Se.sz).sum ≤ n) → ∀ (st : Nm) (acc : List (List Lt)), ∃ r, mnF n st cs acc = some r
  | [], _, st, acc => ⟨_, rfl⟩
  | c :: cs, h, st, acc => by
    rw [mnF]
    obtain ⟨r, hr⟩ := litsF_some c (h c (by simp)) ⟨st.sg, st.sy, []⟩ []
    have hr : clsF n st c = some r := hr
    rw [hr]
    simp only
    split
    · exact mnF_some cs (fun c hc => h c (List.mem_cons_of_mem _ hc)) _ _
    · exact ⟨_, rfl⟩
theorem prF_some (src : By) : ∃ r, prF 65600 src = some r := by
  unfold prF
  split
  · exact ⟨_, rfl⟩
  · rename_i hs
    obtain ⟨r, hr⟩ := rdAll_some (n := 65600) (src := src) (by omega)
    rw [hr]
    simp only
    split
    · obtain ⟨q, hq⟩ := mnF_some (n := 65600) r.1 (fun c hc => by have := (rdAll_g (by omega) hr c hc).2.2; omega) nm0 []
      rw [hq]
      simp only
      split <;> exact ⟨_, rfl⟩
    · exact ⟨_, rfl⟩
end Go.Proofs.YtglbohajmccehaaDoor
-- @STR@
namespace Go.Proofs.YtglbohajmccehaaDoor
open Go.RowKit
set_option linter.unusedVariables false
set_option linter.unusedSimpArgs false
set_option maxRecDepth 100000

-- 
set_option maxHeartbeats 4000000 in
theorem parse_abs (W : World) (n : Nat) (src : By) (r : Sg × List (List Lt) × Int) (hl : src.length ≤ 9223372036854775807) (hr : prF n src = some r) : AFun Tryd.prog W 5 [sv src] (.tup [sgv r.1, .lst (r.2.1.map lcv), .sc (.int .u8 r.2.2)]) := by
  unfold prF at hr
  refine afun_of (rs := [sgv r.1, .lst (r.2.1.map lcv), .sc (.int .u8 r.2.2)]) Tryd.func5 Tryd.ntmps5 rfl rfl rfl rfl ?_
  intro w U hW
  refine aS (aR ?_)
  (refine nx (a_alloc (gN rfl) rfl rfl rfl rfl rfl rfl rfl rfl rfl rfl) rfl ?_)
  (refine nx (aA (gN rfl) rfl rfl rfl rfl rfl) rfl ?_)
  (refine nx (aA (gN rfl) rfl rfl rfl rfl rfl) rfl ?_)
  show AWp _ _ _ _ _ _ _
  refine aS (aS (aR ?_))
  (refine nx (aM (gN rfl) rfl rfl rfl rfl rfl) rfl ?_)
  (refine nx (a_slen (gN rfl) rfl rfl rfl rfl rfl rfl rfl) rfl ?_)
  (refine nx (a_gtr (gN rfl) rfl rfl rfl rfl rfl rfl) rfl ?_)
  show AWp _ _ _ _ _ _ _
  refine AWp.wk (wk_sub (s' := [(0, .val (sv src)), (2, .bp 2 0 []), (100002, ⟨5, sgcZ, 1, 0, [0]⟩), (11, .val (.b (decide ((32768 : Int) < (src.length : Int)))))]) ⟨rfl, rfl, rfl, rfl, trivial⟩) ?_
  refine aC rfl (fun hc => ?_) (fun hc => aK ?_)
  · have hgt : 32768 < src.length := by
      have : (32768 : Int) < (src.length : Int) := by simpa using hc
      omega
    rw [if_pos hgt] at hr
    cases hr
    refine aS (aR ?_)
    (refine nx (a_build (gN rfl) rfl rfl rfl rfl rfl rfl rfl rfl rfl rfl rfl) rfl ?_)
    (refine nx (aSt (gN rfl) rfl rfl rfl rfl rfl rfl rfl rfl rfl rfl) rfl ?_)
    (refine nx (aA (gN rfl) rfl rfl rfl rfl rfl) rfl ?_)
    (refine nx (aA (gN rfl) rfl rfl rfl rfl rfl) rfl ?_)
    show AWp _ _ _ _ _ _ _
    exact aT (And.intro (.inr rfl) rfl)
  · have hle : ¬ 32768 < src.length := by
      have : ¬ (32768 : Int) < (src.length : Int) := by simpa using hc
      omega
    rw [if_neg hle] at hr
    cases hra : rdAll n src with
    | none => rw [hra] at hr; cases hr
    | some q =>
    rw [hra] at hr
    simp only at hr
    have hfl := file_abs w n src q (by omega) hra
    have hg := rdAll_g (by omega) hra
    have hqs := scv_size q.1
    show AWp _ _ _ _ _ _ _
    refine aS (aR ?_)
    (refine nx (aM (gN rfl) rfl rfl rfl rfl rfl) rfl ?_)
    (refine nx (a_call (gN rfl) rfl rfl rfl rfl rfl (hfl)) rfl ?_)
    (refine nx (aM (gN rfl) rfl rfl rfl rfl rfl) rfl ?_)
    (refine nx (aX (gN rfl) rfl rfl rfl rfl rfl rfl) rfl ?_)
    (refine nx (aX (gN rfl) rfl rfl rfl rfl rfl rfl) rfl ?_)
    (refine nx (aA (gN rfl) rfl rfl rfl rfl rfl) rfl ?_)
    (refine nx (aA (gN rfl) rfl rfl rfl rfl rfl) rfl ?_)
    show AWp _ _ _ _ _ _ _
    refine AWp.wk (wk_sub (s' := [(2, .bp 2 0 []), (100002, ⟨5, sgcZ, 1, 0, [0]⟩), (5, .val (.lst (q.1.map scv))), (6, .val (.b q.2))]) ⟨rfl, rfl, rfl, rfl, trivial⟩) ?_
    cases hok : q.2 with
    | false =>
      rw [hok] at hr
      simp only [Bool.false_and, Bool.false_eq_true, if_false, Option.some.injEq] at hr
      cases hr
      refine aS (aS (aR ?_))
      (refine nx (aM (gN rfl) rfl rfl rfl rfl rfl) rfl ?_)
      (refine nx (a_not (gN rfl) rfl rfl rfl rfl rfl) rfl ?_)
      (refine nx (aM (gN rfl) rfl rfl rfl rfl rfl) rfl ?_)
      (refine ⟨_, _, _, a_off (go_off rfl rfl rfl rfl (by first | rfl | assumption | (simp; done) | (simp [*]; done))) rfl rfl rfl, rfl, ?_⟩)
      (refine ⟨_, _, _, a_off (go_off rfl rfl rfl rfl (by first | rfl | assumption | (simp; done) | (simp [*]; done))) rfl rfl rfl, rfl, ?_⟩)
      (refine ⟨_, _, _, a_off (go_off rfl rfl rfl rfl (by first | rfl | assumption | (simp; done) | (simp [*]; done))) rfl rfl rfl, rfl, ?_⟩)
      (refine ⟨_, _, _, aPt (gN rfl) rfl rfl rfl rfl rfl ?hb rfl, rfl, ?_⟩; case hb => (first | rfl | assumption | (simp; done)))
      show AWp _ _ _ _ _ _ _
      refine aC rfl (fun hc => ?_) (fun hc => by cases hc)
      refine aS (aR ?_)
      (refine nx (a_build (gN rfl) rfl rfl rfl rfl rfl rfl rfl rfl rfl rfl rfl) rfl ?_)
      (refine nx (aSt (gN rfl) rfl rfl rfl rfl rfl rfl rfl rfl rfl rfl) rfl ?_)
      (refine nx (aA (gN rfl) rfl rfl rfl rfl rfl) rfl ?_)
      (refine nx (aA (gN rfl) rfl rfl rfl rfl rfl) rfl ?_)
      show AWp _ _ _ _ _ _ _
      exact aT (And.intro (.inr rfl) rfl)
    | true =>
      rw [hok] at hr
      refine aS (aS (aR ?_))
      (refine nx (aM (gN rfl) rfl rfl rfl rfl rfl) rfl ?_)
      (refine nx (a_not (gN rfl) rfl rfl rfl rfl rfl) rfl ?_)
      (refine nx (aM (gN rfl) rfl rfl rfl rfl rfl) rfl ?_)
      (refine nx (aM (gd_on rfl rfl rfl rfl (by first | rfl | assumption | (simp; done))) rfl rfl rfl rfl rfl) rfl ?_)
      (refine nx (a_len (gd_on rfl rfl rfl rfl (by first | rfl | assumption | (simp; done))) rfl rfl rfl rfl rfl rfl rfl) rfl ?_)
      (refine nx (a_gtr (gd_on rfl rfl rfl rfl (by first | rfl | assumption | (simp; done))) rfl rfl rfl rfl rfl rfl) rfl ?_)
      (refine ⟨_, _, _, aPf (gN rfl) rfl rfl rfl rfl rfl ?hb rfl, rfl, ?_⟩; case hb => (first | rfl | assumption | (simp; done)))
      show AWp _ _ _ _ _ _ _
      refine aC rfl (fun hc => ?_) (fun hc => aK ?_)
      · have hgt : ¬ q.1.length ≤ 64 := by
          have : (64 : Int) < (q.1.length : Int) := by simpa using hc
          omega
        simp only [Bool.true_and, hgt, decide_false, Bool.false_eq_true, if_false, Option.some.injEq] at hr
        cases hr
        refine aS (aR ?_)
        (refine nx (a_build (gN rfl) rfl rfl rfl rfl rfl rfl rfl rfl rfl rfl rfl) rfl ?_)
        (refine nx (aSt (gN rfl) rfl rfl rfl rfl rfl rfl rfl rfl rfl rfl) rfl ?_)
        (refine nx (aA (gN rfl) rfl rfl rfl rfl rfl) rfl ?_)
        (refine nx (aA (gN rfl) rfl rfl rfl rfl rfl) rfl ?_)
        show AWp _ _ _ _ _ _ _
        exact aT (And.intro (.inr rfl) rfl)
      · have hle2 : q.1.length ≤ 64 := by
          have : ¬ (64 : Int) < (q.1.length : Int) := by simpa using hc
          omega
        simp only [Bool.true_and, hle2, decide_true, if_true] at hr
        cases hmn : mnF n nm0 q.1 [] with
        | none => rw [hmn] at hr; cases hr
        | some m =>
        rw [hmn] at hr
        simp only at hr
        have hma := mean_abs w n q.1 m (fun c hc => by have := hg c hc; exact ⟨this.1, this.2.1, by omega⟩) (by omega) hmn
        show AWp _ _ _ _ _ _ _
        refine aS (aR ?_)
        (refine nx (aM (gN rfl) rfl rfl rfl rfl rfl) rfl ?_)
        (refine nx (a_call (gN rfl) rfl rfl rfl rfl rfl (hma)) rfl ?_)
        (refine nx (aM (gN rfl) rfl rfl rfl rfl rfl) rfl ?_)
        (refine nx (aX (gN rfl) rfl rfl rfl rfl rfl rfl) rfl ?_)
        (refine nx (aX (gN rfl) rfl rfl rfl rfl rfl rfl) rfl ?_)
        (refine nx (aX (gN rfl) rfl rfl rfl rfl rfl rfl) rfl ?_)
        (refine nx (a_alloc (gN rfl) rfl rfl rfl rfl rfl rfl rfl rfl rfl rfl) rfl ?_)
        (refine nx (aSt (gN rfl) rfl rfl rfl rfl rfl rfl rfl rfl rfl rfl) rfl ?_)
        (refine nx (aA (gN rfl) rfl rfl rfl rfl rfl) rfl ?_)
        (refine nx (aA (gN rfl) rfl rfl rfl rfl rfl) rfl ?_)
        show AWp _ _ _ _ _ _ _
        refine AWp.wk (wk_sub (s' := [(2, .bp 2 0 []), (100002, ⟨5, sgcZ, 1, 0, [0]⟩), (7, .bp 7 0 []), (100007, .bx (sgv (bif m.2.2 then m.1.sg else sgz))), (8, .val (.lst (m.2.1.map lcv))), (6, .val (.b m.2.2))]) ⟨rfl, rfl, rfl, rfl, rfl, rfl, trivial⟩) ?_
        cases hok2 : m.2.2 with
        | false =>
          rw [hok2] at hr
          simp only [Bool.false_eq_true, if_false, Option.some.injEq] at hr
          cases hr
          refine aS (aS (aR ?_))
          (refine nx (aM (gN rfl) rfl rfl rfl rfl rfl) rfl ?_)
          (refine nx (a_not (gN rfl) rfl rfl rfl rfl rfl) rfl ?_)
          show AWp _ _ _ _ _ _ _
          refine aC rfl (fun hc => ?_) (fun hc => by cases hc)
          refine aS (aR ?_)
          (refine nx (a_build (gN rfl) rfl rfl rfl rfl rfl rfl rfl rfl rfl rfl rfl) rfl ?_)
          (refine nx (aSt (gN rfl) rfl rfl rfl rfl rfl rfl rfl rfl rfl rfl) rfl ?_)
          (refine nx (aA (gN rfl) rfl rfl rfl rfl rfl) rfl ?_)
          (refine nx (aA (gN rfl) rfl rfl rfl rfl rfl) rfl ?_)
          show AWp _ _ _ _ _ _ _
          exact aT (And.intro (.inr rfl) rfl)
        | true =>
          rw [hok2] at hr
          simp only [if_true, Option.some.injEq] at hr
          cases hr
          refine aS (aS (aR ?_))
          (refine nx (aM (gN rfl) rfl rfl rfl rfl rfl) rfl ?_)
          (refine nx (a_not (gN rfl) rfl rfl rfl rfl rfl) rfl ?_)
          show AWp _ _ _ _ _ _ _
          refine aC rfl (fun hc => by cases hc) (fun hc => aK ?_)
          show AWp _ _ _ _ _ _ _
          refine aS (aR ?_)
          (refine nx (aL (gN rfl) rfl rfl rfl rfl rfl rfl rfl rfl rfl rfl rfl rfl) rfl ?_)
          (refine nx (aM (gN rfl) rfl rfl rfl rfl rfl) rfl ?_)
          (refine nx (aSt (gN rfl) rfl rfl rfl rfl rfl rfl rfl rfl rfl rfl) rfl ?_)
          (refine nx (aA (gN rfl) rfl rfl rfl rfl rfl) rfl ?_)
          (refine nx (aA (gN rfl) rfl rfl rfl rfl rfl) rfl ?_)
          show AWp _ _ _ _ _ _ _
          exact aT (And.intro (.inr rfl) rfl)
end Go.Proofs.YtglbohajmccehaaDoor

namespace Go.Proofs.YtglbohajmccehaaDoor
open Go.RowKit
set_option linter.unusedVariables false
set_option maxRecDepth 100000
noncomputable def Tm.zz (t : Tm) : Nat := Tm.rec (motive_1 := fun _ => Nat) (motive_2 := fun _ => Nat) (fun f _ ih => match decide (f < 0) with | true => 1 | false => 1 + ih) 0 (fun _ _ a b => a + b) t
theorem Tm.zz_mk (f : Int) (l : List Tm) : Tm.zz ⟨f, l⟩ = match decide (f < 0) with | true => 1 | false => 1 + (l.map Tm.zz).sum := by
  have hl : ∀ l : List Tm, Tm.rec_1 (motive_1 := fun _ => Nat) (motive_2 := fun _ => Nat) (fun f _ ih => match decide (f < 0) with | true => 1 | false => 1 + ih) 0 (fun _ _ a b => a + b) l = (l.map Tm.zz).sum := by
    intro l
    induction l with
    | nil => rfl
    | cons c cs ih => rw [List.map_cons, List.sum_cons, ← ih]; rfl
  rw [← hl]
  rfl
theorem Tm.zz_size : ∀ t : Tm, t.zz = t.size := Tm.ind fun f l ih => by
  rw [Tm.zz_mk, Tm.size_eq, List.length_flatMap]
  cases hf : decide (f < 0) with
  | true =>
    have hf : f < 0 := by simpa using hf
    rw [Tm.ps_of_var hf]
    rfl
  | false =>
    have hf : ¬ f < 0 := by simpa using hf
    rw [Tm.ps_of_sym (t := ⟨f, l⟩) (by show 0 ≤ f; omega)]
    show 1 + (l.map Tm.zz).sum = 1 + (l.map fun t => t.flat.length).sum
    rw [List.map_congr_left ih]
    rfl
noncomputable def wtK (c : List Lt) : Nat := (c.map fun l => l.a.zz + l.b.zz).sum
theorem wtK_eq (c : List Lt) : wtK c = wtL c := by
  unfold wtK wtL
  simp only [Tm.zz_size]
noncomputable def mnK (n : Nat) : Nm → List (List Se) → List (List Lt) → Option (Nm × List (List Lt) × Bool)
  | st, [], acc => some (st, acc, true)
  | st, c :: cs, acc => match clsF n st c with
    | none => none
    | some r => match r.2.1 && Nat.ble (wtK r.1) 60 with
      | true => mnK n r.2.2 cs (acc ++ [r.1])
      | false => some (st, [], false)
theorem mnK_eq (n : Nat) : ∀ (cs : List (List Se)) (st : Nm) (acc : List (List Lt)), mnK n st cs acc = mnF n st cs acc
  | [], _, _ => rfl
  | c :: cs, st, acc => by
    rw [mnK, mnF]
    cases clsF n st c with
    | none => rfl
    | some r =>
      simp only
      rw [wtK_eq]
      have hb : Nat.ble (wtL r.1) 60 = decide (wtL r.1 ≤ 60) := by
        cases h : Nat.ble (wtL r.1) 60 with
        | true => exact (decide_eq_true (Nat.le_of_ble_eq_true h)).symm
        | false => exact (decide_eq_false (fun h2 => by rw [Nat.ble_eq_true_of_le h2] at h; cases h)).symm
      rw [hb]
      cases r.2.1 && decide (wtL r.1 ≤ 60) with
      | true => exact mnK_eq n cs _ _
      | false => rfl
noncomputable def prK (n : Nat) (src : By) : Option (Sg × List (List Lt) × Int) :=
  match Nat.blt 32768 src.length with
  | true => some (⟨[], [], []⟩, [], 9)
  | false => match rdAll n src with
    | none => none
    | some r => match r.2 && Nat.ble r.1.length 64 with
      | true => (match mnK n nm0 r.1 [] with
        | none => none
        | some q => match q.2.2 with
          | true => some (q.1.sg, q.2.1, 0)
          | false => some (⟨[], [], []⟩, [], 7))
      | false => some (⟨[], [], []⟩, [], 7)
theorem ble_dec (a b : Nat) : Nat.ble a b = decide (a ≤ b) := by
  cases h : Nat.ble a b with
  | true => exact (decide_eq_true (Nat.le_of_ble_eq_true h)).symm
  | false => exact (decide_eq_false (fun h2 => by rw [Nat.ble_eq_true_of_le h2] at h; cases h)).symm
theorem prK_eq (n : Nat) (src : By) : prK n src = prF n src := by
  unfold prK prF
  rw [show Nat.blt 32768 src.length = decide (32768 < src.length) from ble_dec _ _]
  by_cases h : 32768 < src.length
  · rw [if_pos h, decide_eq_true h]
  · rw [if_neg h, decide_eq_false h]
    simp only
    cases rdAll n src with
    | none => rfl
    | some r =>
      simp only
      rw [ble_dec]
      cases r.2 && decide (r.1.length ≤ 64) with
      | false => rfl
      | true =>
        simp only [if_true]
        rw [mnK_eq]
        cases mnF n nm0 r.1 [] with
        | none => rfl
        | some q =>
          simp only
          cases q.2.2 <;> rfl
def repB (b : By) : Nat → By
  | 0 => []
  | k + 1 => repB b k ++ b
def srcD (d : Nat) : By := ((([112, 40] ++ repB [102, 40] d) ++ [97]) ++ repB [41] d) ++ [41, 46]
def srcQ (c : Nat) : By := repB [113, 46, 32] c
noncomputable def ckD (d : Nat) : Bool := match prK 200 (srcD d) with
  | some r => (decide (r.2.2 = 7) == Nat.blt 32 (d + 2)) && (decide (r.2.2 = 0) == Nat.beq r.2.1.length 1) && (decide (r.2.2 = 0) || decide (r.2.2 = 7))
  | none => false
noncomputable def ckQ (c : Nat) : Bool := match prK 200 (srcQ c) with
  | some r => (decide (r.2.2 = 7) == Nat.blt 64 c) && (!decide (r.2.2 = 0) || Nat.beq r.2.1.length c) && (decide (r.2.2 = 0) || decide (r.2.2 = 7))
  | none => false
end Go.Proofs.YtglbohajmccehaaDoor
-- @STR@
namespace Go.Proofs.YtglbohajmccehaaDoor
open Go.RowKit
set_option linter.unusedVariables false
set_option linter.unusedSimpArgs false
set_option maxRecDepth 100000

def exS12 : Sg := ⟨[[36, 116, 114, 117, 101], [112], [113]], [0, 1, 0], [true, true, true]⟩
def exC12 : List Lt := [⟨false, ⟨1, [⟨-1, []⟩]⟩, tz⟩, ⟨true, ⟨2, []⟩, tz⟩]
theorem ex_pr : prF 40 [112, 40, 88, 41, 32, 124, 32, 126, 113, 46] = some (exS12, [exC12], 0) := by rw [← prK_eq]; kernel_rfl
theorem ex_no : prF 40 [112] = some (sgz, [], 7) := by rw [← prK_eq]; kernel_rfl
-- 
set_option maxHeartbeats 4000000 in
theorem alive12_abs (W : World) : AFun Tryd.prog W 4 [] (.val (.b true)) := by
  refine afun_of (rs := [.b true]) Tryd.func4 Tryd.ntmps4 rfl rfl rfl rfl ?_
  intro w U hW
  have h1 := parse_abs w 40 _ _ (by decide) ex_pr
  have h2 := parse_abs w 40 _ _ (by decide) ex_no
  have i1 : ([exC12].map lcv)[0]? = some (lcv exC12) := rfl
  have z1 := lcv_size [exC12]
  have i2 : (exC12.map Lt.cv)[1]? = some (Lt.cv ⟨true, ⟨2, []⟩, tz⟩) := rfl
  have z2 := Lt.size_all exC12
  refine aS (aR ?_)
  (refine nx (aA (gN rfl) rfl rfl rfl rfl rfl) rfl ?_)
  show AWp _ _ _ _ _ _ _
  refine aS (aR ?_)
  (refine nx (a_call (gN rfl) rfl rfl rfl rfl rfl (h1)) rfl ?_)
  (refine nx (aM (gN rfl) rfl rfl rfl rfl rfl) rfl ?_)
  (refine nx (aX (gN rfl) rfl rfl rfl rfl rfl rfl) rfl ?_)
  (refine nx (aX (gN rfl) rfl rfl rfl rfl rfl rfl) rfl ?_)
  (refine nx (aX (gN rfl) rfl rfl rfl rfl rfl rfl) rfl ?_)
  (refine nx (a_alloc (gN rfl) rfl rfl rfl rfl rfl rfl rfl rfl rfl rfl) rfl ?_)
  (refine nx (aSt (gN rfl) rfl rfl rfl rfl rfl rfl rfl rfl rfl rfl) rfl ?_)
  (refine nx (aA (gN rfl) rfl rfl rfl rfl rfl) rfl ?_)
  (refine nx (aA (gN rfl) rfl rfl rfl rfl rfl) rfl ?_)
  show AWp _ _ _ _ _ _ _
  refine AWp.wk (wk_sub (s' := [(1, .bp 1 0 []), (100001, .bx (sgv exS12)), (2, .val (.lst ([exC12].map lcv))), (3, .val (.sc (.int .u8 0)))]) ⟨rfl, rfl, rfl, rfl, trivial⟩) ?_
  refine aS (aR ?_)
  (refine nx (a_call (gN rfl) rfl rfl rfl rfl rfl (h2)) rfl ?_)
  (refine nx (aM (gN rfl) rfl rfl rfl rfl rfl) rfl ?_)
  (refine nx (aX (gN rfl) rfl rfl rfl rfl rfl rfl) rfl ?_)
  (refine nx (aX (gN rfl) rfl rfl rfl rfl rfl rfl) rfl ?_)
  (refine nx (aX (gN rfl) rfl rfl rfl rfl rfl rfl) rfl ?_)
  (refine nx (a_alloc (gN rfl) rfl rfl rfl rfl rfl rfl rfl rfl rfl rfl) rfl ?_)
  (refine nx (aSt (gN rfl) rfl rfl rfl rfl rfl rfl rfl rfl rfl rfl) rfl ?_)
  (refine nx (aA (gN rfl) rfl rfl rfl rfl rfl) rfl ?_)
  (refine nx (aA (gN rfl) rfl rfl rfl rfl rfl) rfl ?_)
  show AWp _ _ _ _ _ _ _
  refine AWp.wk (wk_sub (s' := [(1, .bp 1 0 []), (100001, .bx (sgv exS12)), (2, .val (.lst ([exC12].map lcv))), (3, .val (.sc (.int .u8 0))), (6, .val (.sc (.int .u8 7)))]) ⟨rfl, rfl, rfl, rfl, rfl, trivial⟩) ?_
  refine aS (aR ?_)
  (refine nx (aM (gN rfl) rfl rfl rfl rfl rfl) rfl ?_)
  (refine nx (a_conv (gN rfl) rfl rfl rfl rfl rfl rfl rfl (by first | rfl | (rw [IntKind.wrap_i64]; omega) | assumption)) rfl ?_)
  (refine nx (a_eql (gN rfl) rfl rfl rfl rfl rfl rfl) rfl ?_)
  (refine nx (aM (gN rfl) rfl rfl rfl rfl rfl) rfl ?_)
  (refine nx (aM (gd_on rfl rfl rfl rfl (by first | rfl | assumption | (simp; done))) rfl rfl rfl rfl rfl) rfl ?_)
  (refine nx (a_len (gd_on rfl rfl rfl rfl (by first | rfl | assumption | (simp; done))) rfl rfl rfl rfl rfl rfl rfl) rfl ?_)
  (refine nx (a_eql (gd_on rfl rfl rfl rfl (by first | rfl | assumption | (simp; done))) rfl rfl rfl rfl rfl rfl) rfl ?_)
  (refine ⟨_, _, _, aPt (gN rfl) rfl rfl rfl rfl rfl ?hb rfl, rfl, ?_⟩; case hb => (first | rfl | assumption | (simp; done)))
  (refine nx (aM (gN rfl) rfl rfl rfl rfl rfl) rfl ?_)
  (refine nx (aM (gd_on rfl rfl rfl rfl (by first | rfl | assumption | (simp; done))) rfl rfl rfl rfl rfl) rfl ?_)
  (refine nx (a_index (j := 0) (gd_on rfl rfl rfl rfl (by first | rfl | assumption | (simp; done))) rfl rfl rfl rfl rfl rfl rfl rfl rfl (i1) rfl (z1)) rfl ?_)
  (refine nx (a_load_ad (gd_on rfl rfl rfl rfl (by first | rfl | assumption | (simp; done))) rfl rfl rfl rfl rfl rfl rfl rfl rfl) rfl ?_)
  (refine nx (a_len (gd_on rfl rfl rfl rfl (by first | rfl | assumption | (simp; done))) rfl rfl rfl rfl rfl rfl rfl) rfl ?_)
  (refine nx (a_eql (gd_on rfl rfl rfl rfl (by first | rfl | assumption | (simp; done))) rfl rfl rfl rfl rfl rfl) rfl ?_)
  (refine ⟨_, _, _, aPt (gN rfl) rfl rfl rfl rfl rfl ?hb rfl, rfl, ?_⟩; case hb => (first | rfl | assumption | (simp; done)))
  (refine nx (aM (gN rfl) rfl rfl rfl rfl rfl) rfl ?_)
  (refine nx (aM (gd_on rfl rfl rfl rfl (by first | rfl | assumption | (simp; done))) rfl rfl rfl rfl rfl) rfl ?_)
  (refine nx (a_index (j := 0) (gd_on rfl rfl rfl rfl (by first | rfl | assumption | (simp; done))) rfl rfl rfl rfl rfl rfl rfl rfl rfl (i1) rfl (z1)) rfl ?_)
  (refine nx (a_load_ad (gd_on rfl rfl rfl rfl (by first | rfl | assumption | (simp; done))) rfl rfl rfl rfl rfl rfl rfl rfl rfl) rfl ?_)
  (refine nx (a_index (j := 1) (gd_on rfl rfl rfl rfl (by first | rfl | assumption | (simp; done))) rfl rfl rfl rfl rfl rfl rfl rfl rfl (i2) rfl (z2)) rfl ?_)
  (refine nx (a_field_ad (gd_on rfl rfl rfl rfl (by first | rfl | assumption | (simp; done))) rfl rfl rfl rfl rfl rfl rfl rfl rfl rfl rfl) rfl ?_)
  (refine nx (a_load_ad (gd_on rfl rfl rfl rfl (by first | rfl | assumption | (simp; done))) rfl rfl rfl rfl rfl rfl rfl rfl rfl) rfl ?_)
  (refine ⟨_, _, _, aPt (gN rfl) rfl rfl rfl rfl rfl ?hb rfl, rfl, ?_⟩; case hb => (first | rfl | assumption | (simp; done)))
  (refine nx (aM (gN rfl) rfl rfl rfl rfl rfl) rfl ?_)
  (refine nx (aF (gd_on rfl rfl rfl rfl (by first | rfl | assumption | (simp; done))) rfl rfl rfl rfl rfl rfl rfl rfl rfl) rfl ?_)
  (refine nx (aLb (gd_on rfl rfl rfl rfl (by first | rfl | assumption | (simp; done))) rfl rfl rfl rfl rfl rfl rfl rfl rfl rfl rfl rfl) rfl ?_)
  (refine nx (a_len (gd_on rfl rfl rfl rfl (by first | rfl | assumption | (simp; done))) rfl rfl rfl rfl rfl rfl rfl) rfl ?_)
  (refine nx (a_eql (gd_on rfl rfl rfl rfl (by first | rfl | assumption | (simp; done))) rfl rfl rfl rfl rfl rfl) rfl ?_)
  (refine ⟨_, _, _, aPt (gN rfl) rfl rfl rfl rfl rfl ?hb rfl, rfl, ?_⟩; case hb => (first | rfl | assumption | (simp; done)))
  (refine nx (aM (gN rfl) rfl rfl rfl rfl rfl) rfl ?_)
  (refine nx (aM (gd_on rfl rfl rfl rfl (by first | rfl | assumption | (simp; done))) rfl rfl rfl rfl rfl) rfl ?_)
  (refine nx (a_conv (gd_on rfl rfl rfl rfl (by first | rfl | assumption | (simp; done))) rfl rfl rfl rfl rfl rfl rfl (by first | rfl | (rw [IntKind.wrap_i64]; omega) | assumption)) rfl ?_)
  (refine nx (a_eql (gd_on rfl rfl rfl rfl (by first | rfl | assumption | (simp; done))) rfl rfl rfl rfl rfl rfl) rfl ?_)
  (refine ⟨_, _, _, aPt (gN rfl) rfl rfl rfl rfl rfl ?hb rfl, rfl, ?_⟩; case hb => (first | rfl | assumption | (simp; done)))
  (refine nx (aA (gN rfl) rfl rfl rfl rfl rfl) rfl ?_)
  show AWp _ _ _ _ _ _ _
  exact aT (And.intro (.inr rfl) rfl)
end Go.Proofs.YtglbohajmccehaaDoor

-- @STR@
namespace Go.Proofs.YtglbohajmccehaaDoor
open Go.RowKit
set_option linter.unusedVariables false
set_option linter.unusedSimpArgs false
set_option maxRecDepth 100000

section
variable {P : Program} {w0 : World} {U0 : UX} {nt : Nat} {ops : Array Oper} {o : Oper} {gs : List Nat} {S : Nat → Option AV} {d : Nat}
end
def sgc (s : Sg) : Nat := min (min s.nm.length s.ar.length) s.pr.length
def fitB (s : Sg) (t : Tm) : Bool := decide (0 ≤ t.f) && (decide (t.f < (sgc s : Int)) && decide (s.ar[t.f.toNat]? = some t.l.length))
noncomputable def rtB (s : Sg) (t : Tm) : Bool := Tm.rec (motive_1 := fun _ => Bool) (motive_2 := fun _ => Bool) (fun f l ih => decide (f < 0) || (decide (0 < f) && (fitB s ⟨f, l⟩ && (!(s.pr.getD f.toNat false) && ih)))) true (fun _ _ a b => a && b) t
theorem rtB_mk (s : Sg) (f : Int) (l : List Tm) : rtB s ⟨f, l⟩ = (decide (f < 0) || (decide (0 < f) && (fitB s ⟨f, l⟩ && (!(s.pr.getD f.toNat false) && l.all (rtB s))))) := by
  have hl : ∀ l : List Tm, Tm.rec_1 (motive_1 := fun _ => Bool) (motive_2 := fun _ => Bool) (fun f l ih => decide (f < 0) || (decide (0 < f) && (fitB s ⟨f, l⟩ && (!(s.pr.getD f.toNat false) && ih)))) true (fun _ _ a b => a && b) l = l.all (rtB s) := by
    intro l
    induction l with
    | nil => rfl
    | cons c cs ih => rw [List.all_cons, ← ih]; rfl
  rw [← hl]
  rfl
noncomputable def atB (s : Sg) (t : Tm) : Bool := decide (0 < t.f) && (fitB s t && (s.pr.getD t.f.toNat false && t.l.all (rtB s)))
def trB (t : Tm) : Bool := decide (t.f = 0) && decide (t.l.length = 0)
noncomputable def rlB (s : Sg) (l : Lt) : Bool := match trB l.b with
  | false => rtB s l.a && rtB s l.b
  | true => atB s l.a && fitB s l.b
noncomputable def rcB (s : Sg) (c : List Lt) : Bool := c.all (rlB s)
end Go.Proofs.YtglbohajmccehaaDoor

-- @STR@
namespace Go.Proofs.YtglbohajmccehaaDoor
open Go.RowKit
set_option linter.unusedVariables false
set_option linter.unusedSimpArgs false
set_option maxRecDepth 100000

end Go.Proofs.YtglbohajmccehaaDoor

-- @STR@
namespace Go.Proofs.YtglbohajmccehaaDoor
open Go.RowKit
set_option linter.unusedVariables false
set_option linter.unusedSimpArgs false
set_option maxRecDepth 100000

-- 
theorem to12_abs (W : World) (s : Sg) : AFun Tryd.prog W 8 [sgv s] (.val (sgv s)) := by
  refine afun_of (rs := [sgv s]) Tryd.func8 Tryd.ntmps8 rfl rfl rfl rfl ?_
  intro w U hW
  refine aS (aR ?_)
  (refine nx (a_box (gN rfl) rfl rfl rfl rfl rfl) rfl ?_)
  (refine nx (a_alloc (gN rfl) rfl rfl rfl rfl rfl rfl rfl rfl rfl rfl) rfl ?_)
  show AWp _ _ _ _ _ _ _
  refine aS (aR ?_)
  (refine nx (aF (gN rfl) rfl rfl rfl rfl rfl rfl rfl rfl rfl) rfl ?_)
  (refine nx (aLb (gN rfl) rfl rfl rfl rfl rfl rfl rfl rfl rfl rfl rfl rfl) rfl ?_)
  (refine nx (aF (gN rfl) rfl rfl rfl rfl rfl rfl rfl rfl rfl) rfl ?_)
  (refine nx (aLb (gN rfl) rfl rfl rfl rfl rfl rfl rfl rfl rfl rfl rfl rfl) rfl ?_)
  (refine nx (aF (gN rfl) rfl rfl rfl rfl rfl rfl rfl rfl rfl) rfl ?_)
  (refine nx (aLb (gN rfl) rfl rfl rfl rfl rfl rfl rfl rfl rfl rfl rfl rfl) rfl ?_)
  (refine nx (a_build (gN rfl) rfl rfl rfl rfl rfl rfl rfl rfl rfl rfl rfl) rfl ?_)
  (refine nx (aSt (gN rfl) rfl rfl rfl rfl rfl rfl rfl rfl rfl rfl) rfl ?_)
  show AWp _ _ _ _ _ _ _
  exact aT (And.intro (.inr rfl) rfl)
noncomputable def ofB (s : Sg) (t : Tm) (p : Bool) : Bool := match p with
  | true => atB s t
  | false => rtB s t
theorem ofB_neg {s : Sg} {f : Int} {l : List Tm} {p : Bool} (h : f < 0) : ofB s ⟨f, l⟩ p = !p := by
  cases p with
  | true =>
    show atB s ⟨f, l⟩ = false
    unfold atB
    rw [show decide (0 < (⟨f, l⟩ : Tm).f) = false from decide_eq_false (by show ¬ 0 < f; omega)]
    rfl
  | false =>
    show rtB s ⟨f, l⟩ = true
    rw [rtB_mk, decide_eq_true h]
    rfl
theorem ofB_no {s : Sg} {f : Int} {l : List Tm} {p : Bool} (h0 : 0 ≤ f) (h : f = 0 ∨ (sgc s : Int) ≤ f) : ofB s ⟨f, l⟩ p = false := by
  have hd : (decide (0 < f) && fitB s ⟨f, l⟩) = false := by
    rcases h with h | h
    · rw [decide_eq_false (by omega)]; rfl
    · unfold fitB
      rw [show decide ((⟨f, l⟩ : Tm).f < (sgc s : Int)) = false from decide_eq_false (by show ¬ f < _; omega)]
      simp
  cases p with
  | true =>
    show atB s ⟨f, l⟩ = false
    unfold atB
    rw [← Bool.and_assoc]
    show ((decide (0 < f) && fitB s ⟨f, l⟩) && _) = false
    rw [hd]
    rfl
  | false =>
    show rtB s ⟨f, l⟩ = false
    rw [rtB_mk, decide_eq_false (by omega), ← Bool.and_assoc, hd]
    rfl
theorem ofB_yes {s : Sg} {j : Nat} {l : List Tm} {p : Bool} (h0 : 0 < j) (h : j < sgc s) {x : Nat} {y : Bool} (hx : s.ar[j]? = some x) (hy : s.pr[j]? = some y) : ofB s ⟨(j : Int), l⟩ p = ((y == p) && (decide (x = l.length) && l.all (rtB s))) := by
  have hf : fitB s ⟨(j : Int), l⟩ = decide (x = l.length) := by
    unfold fitB
    rw [show decide (0 ≤ (⟨(j : Int), l⟩ : Tm).f) = true from decide_eq_true (by show 0 ≤ (j : Int); omega), show decide ((⟨(j : Int), l⟩ : Tm).f < (sgc s : Int)) = true from decide_eq_true (by show (j : Int) < _; omega)]
    show (true && (true && decide (s.ar[((j : Int)).toNat]? = some l.length))) = _
    rw [Int.toNat_natCast, hx]
    simp
  have hg : s.pr.getD ((j : Int)).toNat false = y := by rw [Int.toNat_natCast, List.getD_eq_getElem?_getD, hy]; rfl
  cases p with
  | true =>
    show atB s ⟨(j : Int), l⟩ = _
    unfold atB
    rw [hf, show decide (0 < (⟨(j : Int), l⟩ : Tm).f) = true from decide_eq_true (by show 0 < (j : Int); omega)]
    show (true && (decide (x = l.length) && (s.pr.getD ((j : Int)).toNat false && l.all (rtB s)))) = _
    rw [hg]
    cases y <;> simp
  | false =>
    show rtB s ⟨(j : Int), l⟩ = _
    rw [rtB_mk, hf, hg, decide_eq_false (by omega), decide_eq_true (by omega)]
    cases y <;> simp
noncomputable def drB (s : Sg) (l : Lt) : Bool := match trB l.b with
  | true => atB s l.a
  | false => rtB s l.a && rtB s l.b
end Go.Proofs.YtglbohajmccehaaDoor

namespace Go.Proofs.YtglbohajmccehaaDoor
open Go.RowKit
set_option linter.unusedVariables false
set_option linter.unusedSimpArgs false
set_option maxRecDepth 100000
def ClG (c : List Lt) : Prop := c.length ≤ 1000000 ∧ (∀ x ∈ c, x.a.ok ∧ x.b.ok) ∧ okC c ∧ wtL c ≤ 60
theorem mnF_g {n : Nat} : ∀ (cs : List (List Se)) (st : Nm) (acc : List (List Lt)) (q : Nm × List (List Lt) × Bool), (∀ c ∈ cs, (∀ s ∈ c, s.ok) ∧ c.length ≤ 1000000 ∧ (c.map Se.sz).sum ≤ 1000000) → st.ok → (∀ c ∈ acc, ClG c) → mnF n st cs acc = some q → ∀ c ∈ q.2.1, ClG c
  | [], st, acc, q, _, _, ha, e => by
    simp only [mnF, Option.some.injEq] at e
    subst e
    exact ha
  | c :: cs, st, acc, q, hc, hs, ha, e => by
    rw [mnF] at e
    split at e
    · cases e
    · rename_i r hr
      obtain ⟨h1, h2, h3⟩ := hc c (by simp)
      obtain ⟨g1, g2, g3, g4, g5⟩ := clsF_g hs h1 h3 hr
      split at e
      · rename_i hk
        have hk : wtL r.1 ≤ 60 := by
          rw [Bool.and_eq_true, decide_eq_true_eq] at hk
          exact hk.2
        refine mnF_g cs _ _ q (fun c hm => hc c (List.mem_cons_of_mem _ hm)) g1 (fun c hm => ?_) e
        rcases List.mem_append.1 hm with hm | hm
        · exact ha c hm
        · rw [List.mem_singleton.1 hm]; exact ⟨by omega, g5, g2, hk⟩
      · cases e
        exact fun c hm => by cases hm
theorem prF_g {n : Nat} {src : By} {r : Sg × List (List Lt) × Int} (h : prF n src = some r) : ∀ c ∈ r.2.1, ClG c := by
  unfold prF at h
  split at h
  · cases h; exact fun c hm => by cases hm
  · rename_i hl
    split at h
    · cases h
    · rename_i q hq
      have hg := rdAll_g (by omega) hq
      split at h
      · split at h
        · cases h
        · rename_i m hm
          have := mnF_g q.1 nm0 [] m (fun c hc => by have := hg c hc; exact ⟨this.1, this.2.1, by omega⟩) ⟨rfl, rfl, by decide, (fun p hp => by cases hp), List.nodup_nil, ⟨by decide, (fun p hp => by cases hp)⟩, (fun p hp => by cases hp), List.nodup_nil, ⟨by decide, (fun p hp => by cases hp)⟩⟩ (fun c hc => by cases hc) hm
          split at h
          · cases h; exact this
          · cases h; exact fun c hm => by cases hm
      · cases h; exact fun c hm => by cases hm
theorem prF_nil {n : Nat} {src : By} {r : Sg × List (List Lt) × Int} (h : prF n src = some r) (he : r.2.2 ≠ 0) : r.2.1 = [] ∧ r.1 = sgz := by
  unfold prF at h
  split at h
  · cases h; exact ⟨rfl, rfl⟩
  · split at h
    · cases h
    · split at h
      · split at h
        · cases h
        · split at h
          · cases h; exact absurd rfl he
          · cases h; exact ⟨rfl, rfl⟩
      · cases h; exact ⟨rfl, rfl⟩
def sepB : Nat → By
  | 0 => [40]
  | _ + 1 => [44]
def argP : Nat → By
  | 0 => [102, 111, 111]
  | k + 1 => (argP k ++ sepB k) ++ [97]
def argB : Nat → By
  | 0 => argP 0
  | k + 1 => argP (k + 1) ++ [41]
def srcK (n k : Nat) (p : Bool) : By := match p with
  | true => ((argB n ++ [32, 61, 32, 98, 46, 32]) ++ argB k) ++ [46]
  | false => (((argB n ++ [32, 61, 32, 98, 46, 32]) ++ [99, 32, 61, 32]) ++ argB k) ++ [46]
def srcB (n : Nat) : By := argB n ++ [32, 61, 32, 98, 46, 32, 98, 97, 114, 32, 124, 32, 126, 98, 97, 114, 46]
noncomputable def ckK (n k : Nat) (p : Bool) : Bool := match prK 60 (srcK n k p) with
  | some r => match p || !Nat.beq n k with
    | true => decide (r.2.2 = 7)
    | false => decide (r.2.2 = 0) && (Nat.beq r.2.1.length 2 && rcB r.1 (r.2.1.getD 0 []))
  | none => false
noncomputable def ckB (n : Nat) : Bool := match prK 60 (srcB n) with
  | some r => decide (r.2.2 = 0) && Nat.beq r.2.1.length 2
  | none => false
end Go.Proofs.YtglbohajmccehaaDoor
namespace Go.Proofs.YtglbohajmccehaaDoor
open Go.RowKit
set_option linter.unusedVariables false
set_option linter.unusedSimpArgs false
structure SgLe (s s' : Sg) : Prop where
  ar : ∀ (i : Nat) (x : Nat), s.ar[i]? = some x → s'.ar[i]? = some x
  pr : ∀ (i : Nat) (x : Bool), s.pr[i]? = some x → s'.pr[i]? = some x
  le : sgc s ≤ sgc s'
theorem SgLe.refl (s : Sg) : SgLe s s := ⟨fun _ _ h => h, fun _ _ h => h, Nat.le_refl _⟩
theorem SgLe.trans {a b c : Sg} (h : SgLe a b) (g : SgLe b c) : SgLe a c := ⟨fun i x e => g.ar i x (h.ar i x e), fun i x e => g.pr i x (h.pr i x e), Nat.le_trans h.le g.le⟩
structure SgP (st : Nm) : Prop where
  la : st.sg.ar.length = st.sg.nm.length
  lp : st.sg.pr.length = st.sg.nm.length
  pos : 0 < st.sg.nm.length
  z0 : st.sg.ar[0]? = some 0
  sy : ∀ q ∈ st.sy, 0 < q.2 ∧ q.2 < st.sg.nm.length ∧ st.sg.ar[q.2]? = some q.1.2.1 ∧ st.sg.pr[q.2]? = some q.1.2.2
theorem SgP.sgc {st : Nm} (h : SgP st) : sgc st.sg = st.sg.nm.length := by
  have := h.la
  have := h.lp
  unfold Go.Proofs.YtglbohajmccehaaDoor.sgc
  omega
theorem nm0_p : SgP nm0 := ⟨rfl, rfl, by decide, rfl, fun q hq => by cases hq⟩
theorem ofB_mono {s s' : Sg} (h : SgLe s s') (t : Tm) (p : Bool) (hT : ∀ q ∈ t.l, rtB s q = true → rtB s' q = true) (e : ofB s t p = true) : ofB s' t p = true := by
  obtain ⟨f, l⟩ := t
  by_cases hf : f < 0
  · rw [ofB_neg hf] at e ⊢; exact e
  · by_cases h0 : f = 0 ∨ (sgc s : Int) ≤ f
    · rw [ofB_no (by omega) h0] at e; cases e
    · obtain ⟨j, rfl⟩ : ∃ j : Nat, f = (j : Int) := ⟨f.toNat, by omega⟩
      have hj : j < sgc s := by omega
      have hle := h.le
      have hj2 := hj
      unfold sgc at hj2
      obtain ⟨x, hx⟩ : ∃ x, s.ar[j]? = some x := ⟨s.ar[j]'(by omega), List.getElem?_eq_getElem _⟩
      obtain ⟨y, hy⟩ : ∃ y, s.pr[j]? = some y := ⟨s.pr[j]'(by omega), List.getElem?_eq_getElem _⟩
      rw [ofB_yes (by omega) hj hx hy] at e
      rw [ofB_yes (by omega) (by omega) (h.ar _ _ hx) (h.pr _ _ hy)]
      simp only [Bool.and_eq_true, List.all_eq_true] at e ⊢
      exact ⟨e.1, e.2.1, fun q hq => hT q hq (e.2.2 q hq)⟩
theorem rt_mono {s s' : Sg} (h : SgLe s s') : ∀ t : Tm, rtB s t = true → rtB s' t = true := Tm.ind fun f l ih e => ofB_mono h ⟨f, l⟩ false ih e
theorem at_mono {s s' : Sg} (h : SgLe s s') {t : Tm} (e : atB s t = true) : atB s' t = true := ofB_mono h t true (fun q _ => rt_mono h q) e
theorem fit_tz {s : Sg} (h0 : 0 < sgc s) (hz : s.ar[0]? = some 0) : fitB s tz = true := by
  unfold fitB
  simp only [Bool.and_eq_true, decide_eq_true_eq]
  exact ⟨Int.le_refl _, by show (0 : Int) < _; omega, hz⟩
theorem rl_mono {s s' : Sg} (h : SgLe s s') {l : Lt} (h0 : 0 < sgc s) (hz : s.ar[0]? = some 0) (e : rlB s l = true) : rlB s' l = true := by
  unfold rlB at e ⊢
  cases ht : trB l.b with
  | false =>
    rw [ht] at e
    simp only [Bool.and_eq_true] at e ⊢
    exact ⟨rt_mono h _ e.1, rt_mono h _ e.2⟩
  | true =>
    rw [ht] at e
    simp only [Bool.and_eq_true] at e ⊢
    refine ⟨at_mono h e.1, ?_⟩
    obtain ⟨hb1, hb2⟩ : l.b.f = 0 ∧ l.b.l.length = 0 := by
      unfold trB at ht
      simpa using ht
    have : l.b = tz := by
      obtain ⟨ng, la, f, ls⟩ := l
      simp only at hb1 hb2
      rw [hb1, List.eq_nil_of_length_eq_zero hb2]; rfl
    rw [this]
    exact fit_tz (by have := h.le; omega) (h.ar _ _ hz)
theorem numF_p {st : Nm} (h : SgP st) {k : Kd} (hok : (numF st k).2.1 = true) : SgP (numF st k).2.2 ∧ SgLe st.sg (numF st k).2.2.sg ∧ 0 < (numF st k).1 ∧ (numF st k).1 < sgc (numF st k).2.2.sg ∧ (numF st k).2.2.sg.ar[(numF st k).1]? = some k.2.1 ∧ (numF st k).2.2.sg.pr[(numF st k).1]? = some k.2.2 := by
  unfold numF at hok ⊢
  split
  · rename_i i hi
    obtain ⟨a, b, c, d⟩ := h.sy _ (lkA_some hi)
    exact ⟨h, SgLe.refl _, a, by rw [h.sgc]; exact b, c, d⟩
  · rename_i hn
    rw [hn] at hok
    split
    · rename_i hb; simp only [hb, if_true] at hok; cases hok
    · have hla := h.la
      have hlp := h.lp
      have hg : sgc ⟨st.sg.nm ++ [k.1], st.sg.ar ++ [k.2.1], st.sg.pr ++ [k.2.2]⟩ = st.sg.nm.length + 1 := by
        unfold sgc
        simp only [List.length_append, List.length_cons, List.length_nil]
        omega
      have hgl : sgc st.sg = st.sg.nm.length := h.sgc
      have ha : ∀ (i x : Nat), st.sg.ar[i]? = some x → (st.sg.ar ++ [k.2.1])[i]? = some x := fun i x e => by
        rw [List.getElem?_append_left]
        · exact e
        · exact (List.getElem?_eq_some_iff.1 e).1
      have hp : ∀ (i : Nat) (x : Bool), st.sg.pr[i]? = some x → (st.sg.pr ++ [k.2.2])[i]? = some x := fun i x e => by
        rw [List.getElem?_append_left]
        · exact e
        · exact (List.getElem?_eq_some_iff.1 e).1
      have na : (st.sg.ar ++ [k.2.1])[st.sg.nm.length]? = some k.2.1 := by rw [← hla]; simp
      have np : (st.sg.pr ++ [k.2.2])[st.sg.nm.length]? = some k.2.2 := by rw [← hlp]; simp
      refine ⟨⟨by simp [hla], by simp [hlp], by simp, ha _ _ h.z0, fun q hq => ?_⟩, ⟨ha, hp, by rw [hg, hgl]; omega⟩, h.pos, by rw [hg]; show st.sg.nm.length < _; omega, na, np⟩
      rcases List.mem_append.1 hq with hq | hq
      · obtain ⟨a, b, c, d⟩ := h.sy q hq
        exact ⟨a, by show q.2 < (st.sg.nm ++ [k.1]).length; simp; omega, ha _ _ c, hp _ _ d⟩
      · rw [List.mem_singleton.1 hq]
        exact ⟨h.pos, by show st.sg.nm.length < (st.sg.nm ++ [k.1]).length; simp, na, np⟩
theorem varF_p {st : Nm} (h : SgP st) (v : By) : SgP (varF st v).2 ∧ SgLe st.sg (varF st v).2.sg := by
  unfold varF
  split
  · exact ⟨h, SgLe.refl _⟩
  · exact ⟨⟨h.la, h.lp, h.pos, h.z0, h.sy⟩, SgLe.refl _⟩
def GoodF (f : Nm → Ph → Option (Tm × Bool × Nm)) : Prop := ∀ st p r, SgP st → f st p = some r → r.2.1 = true → SgP r.2.2 ∧ SgLe st.sg r.2.2.sg ∧ rtB r.2.2.sg r.1 = true ∧ r.1.f ≠ 0
theorem fold_p {f : Nm → Ph → Option (Tm × Bool × Nm)} (hf : GoodF f) : ∀ (ps : List Ph) (st : Nm) (acc : List Tm) (r : List Tm × Bool × Nm), SgP st → (∀ x ∈ acc, rtB st.sg x = true) → foldP f st ps acc = some r → r.2.1 = true → SgP r.2.2 ∧ SgLe st.sg r.2.2.sg ∧ (∀ x ∈ r.1, rtB r.2.2.sg x = true) ∧ r.1.length = acc.length + ps.length
  | [], st, acc, r, h, ha, e, _ => by
    simp only [foldP, Option.some.injEq] at e
    subst e
    exact ⟨h, SgLe.refl _, ha, rfl⟩
  | p :: ps, st, acc, r, h, ha, e, hok => by
    rw [foldP] at e
    cases hx : f st p with
    | none => rw [hx] at e; cases e
    | some q =>
      rw [hx] at e
      simp only at e
      split at e
      · rename_i hq
        obtain ⟨h1, h2, h3, _⟩ := hf st p q h hx hq
        obtain ⟨i1, i2, i3, i4⟩ := fold_p hf ps q.2.2 _ r h1 (fun x hx => by
          rcases List.mem_append.1 hx with hx | hx
          · exact rt_mono h2 x (ha x hx)
          · rw [List.mem_singleton.1 hx]; exact h3) e hok
        refine ⟨i1, h2.trans i2, i3, ?_⟩
        rw [List.length_append] at i4
        simp only [List.length_cons, List.length_nil] at i4 ⊢
        omega
      · cases e; cases hok
theorem sym_p {f : Nm → Ph → Option (Tm × Bool × Nm)} (hf : GoodF f) {st : Nm} {p : Ph} {pred : Bool} {r : Tm × Bool × Nm} (h : SgP st) (e : symF f st p pred = some r) (hok : r.2.1 = true) : SgP r.2.2 ∧ SgLe st.sg r.2.2.sg ∧ ofB r.2.2.sg r.1 pred = true ∧ r.1.f ≠ 0 := by
  unfold symF at e
  split at e
  · rename_i hn
    obtain ⟨n1, n2, n3, n4, n5, n6⟩ := numF_p h hn
    split at e
    · cases e
    · rename_i q hq
      split at e
      · rename_i hq2
        cases e
        obtain ⟨i1, i2, i3, i4⟩ := fold_p hf p.parts _ [] q n1 (fun x hx => by cases hx) hq hq2
        refine ⟨i1, n2.trans i2, ?_, by show ((_ : Nat) : Int) ≠ 0; omega⟩
        show ofB q.2.2.sg ⟨((numF st ⟨p.name, p.parts.length, pred⟩).1 : Nat), q.1⟩ pred = true
        rw [ofB_yes n3 (by have := i2.le; omega) (i2.ar _ _ n5) (i2.pr _ _ n6)]
        simp only [Bool.and_eq_true, decide_eq_true_eq, List.all_eq_true, beq_self_eq_true, true_and]
        refine ⟨?_, i3⟩
        simp only [List.length_nil] at i4
        omega
      · cases e; cases hok
  · cases e; cases hok
theorem tmF_p : ∀ n : Nat, GoodF (tmF n)
  | 0, _, _, _, _, e, _ => by simp [tmF] at e
  | n + 1, st, p, r, h, e, hok => by
    rw [tmF] at e
    split at e
    · cases e
      obtain ⟨v1, v2⟩ := varF_p h p.name
      refine ⟨v1, v2, ?_, by show -1 - ((_ : Nat) : Int) ≠ 0; omega⟩
      show ofB (varF st p.name).2.sg ⟨-1 - ((varF st p.name).1 : Nat), []⟩ false = true
      rw [ofB_neg (by omega)]
      rfl
    · exact sym_p (tmF_p n) h e hok
theorem litF_p {n : Nat} {st : Nm} {s : Se} {r : Lt × Bool × Nm} (h : SgP st) (e : litF n st s = some r) (hok : r.2.1 = true) : SgP r.2.2 ∧ SgLe st.sg r.2.2.sg ∧ rlB r.2.2.sg r.1 = true := by
  unfold litF at e
  split at e
  · split at e
    · cases e
    · rename_i q hq
      cases e
      obtain ⟨i1, i2, i3, i4⟩ := sym_p (tmF_p n) h hq hok
      refine ⟨i1, i2, ?_⟩
      show rlB q.2.2.sg ⟨s.neg, q.1, tz⟩ = true
      unfold rlB
      rw [show trB (⟨s.neg, q.1, tz⟩ : Lt).b = true from rfl]
      simp only [Bool.and_eq_true]
      exact ⟨i3, fit_tz (by rw [i1.sgc]; exact i1.pos) i1.z0⟩
  · split at e
    · cases e
    · rename_i q hq
      split at e
      · rename_i hq2
        obtain ⟨h1, h2, h3, h4⟩ := tmF_p n st s.a q h hq hq2
        split at e
        · cases e
        · rename_i q2 hq3
          cases e
          obtain ⟨k1, k2, k3, k4⟩ := tmF_p n q.2.2 s.b q2 h1 hq3 hok
          refine ⟨k1, h2.trans k2, ?_⟩
          show rlB q2.2.2.sg ⟨s.neg, q.1, q2.1⟩ = true
          unfold rlB
          rw [show trB (⟨s.neg, q.1, q2.1⟩ : Lt).b = false by unfold trB; rw [decide_eq_false k4]; rfl]
          simp only [Bool.and_eq_true]
          exact ⟨rt_mono k2 _ h3, k3⟩
      · cases e; cases hok
theorem litsF_p {n : Nat} : ∀ (ss : List Se) (st : Nm) (acc : List Lt) (r : List Lt × Bool × Nm), SgP st → (∀ x ∈ acc, rlB st.sg x = true) → litsF n st ss acc = some r → r.2.1 = true → SgP r.2.2 ∧ SgLe st.sg r.2.2.sg ∧ rcB r.2.2.sg r.1 = true
  | [], st, acc, r, h, ha, e, _ => by
    simp only [litsF, Option.some.injEq] at e
    subst e
    exact ⟨h, SgLe.refl _, List.all_eq_true.2 ha⟩
  | p :: ps, st, acc, r, h, ha, e, hok => by
    rw [litsF] at e
    cases hx : litF n st p with
    | none => rw [hx] at e; cases e
    | some q =>
      rw [hx] at e
      simp only at e
      split at e
      · rename_i hq
        obtain ⟨h1, h2, h3⟩ := litF_p h hx hq
        obtain ⟨i1, i2, i3⟩ := litsF_p ps q.2.2 _ r h1 (fun x hx => by
          rcases List.mem_append.1 hx with hx | hx
          · exact rl_mono h2 (by rw [h.sgc]; exact h.pos) h.z0 (ha x hx)
          · rw [List.mem_singleton.1 hx]; exact h3) e hok
        exact ⟨i1, h2.trans i2, i3⟩
      · cases e; cases hok
theorem mnF_p {n : Nat} : ∀ (cs : List (List Se)) (st : Nm) (acc : List (List Lt)) (q : Nm × List (List Lt) × Bool), SgP st → (∀ c ∈ acc, rcB st.sg c = true) → mnF n st cs acc = some q → q.2.2 = true → SgP q.1 ∧ ∀ c ∈ q.2.1, rcB q.1.sg c = true
  | [], st, acc, q, h, ha, e, _ => by
    simp only [mnF, Option.some.injEq] at e
    subst e
    exact ⟨h, ha⟩
  | c :: cs, st, acc, q, h, ha, e, hok => by
    rw [mnF] at e
    split at e
    · cases e
    · rename_i r hr
      split at e
      · rename_i hk
        rw [Bool.and_eq_true] at hk
        obtain ⟨i1, i2, i3⟩ := litsF_p c ⟨st.sg, st.sy, []⟩ [] r ⟨h.la, h.lp, h.pos, h.z0, h.sy⟩ (fun x hx => by cases hx) hr hk.1
        refine mnF_p cs r.2.2 _ q i1 (fun c hm => ?_) e hok
        rcases List.mem_append.1 hm with hm | hm
        · have := ha c hm
          unfold rcB at this ⊢
          rw [List.all_eq_true] at this ⊢
          exact fun x hx => rl_mono i2 (by show 0 < sgc st.sg; rw [h.sgc]; exact h.pos) h.z0 (this x hx)
        · rw [List.mem_singleton.1 hm]; exact i3
      · cases e; cases hok
end Go.Proofs.YtglbohajmccehaaDoor
-- @STR@
namespace Go.Proofs.YtglbohajmccehaaDoor
open Go.RowKit
set_option linter.unusedVariables false
set_option linter.unusedSimpArgs false
set_option maxRecDepth 100000

-- 
set_option maxHeartbeats 8000000 in
theorem sameSig_abs (W : World) (s : Sg) (hla : s.ar.length = s.nm.length) (hlp : s.pr.length = s.nm.length) (hs : s.nm.length ≤ 1000000) : AFun Tryd.prog W 7 [sgv s, sgv s] (.val (.b true)) := by
  have z1 := svs_size s.nm
  have z2 := ivs_size s.ar
  have z3 := bvs_size s.pr
  refine afun_of (rs := [.b true]) Tryd.func7 Tryd.ntmps7 rfl rfl rfl rfl ?_
  intro w U hW
  refine aS (aR ?_)
  (refine nx (a_box (gN rfl) rfl rfl rfl rfl rfl) rfl ?_)
  (refine nx (a_box (gN rfl) rfl rfl rfl rfl rfl) rfl ?_)
  (refine nx (aA (gN rfl) rfl rfl rfl rfl rfl) rfl ?_)
  show AWp _ _ _ _ _ _ _
  refine AWp.wk (wk_sub (s' := [(2, .bp 2 0 []), (100002, .bx (sgv s)), (3, .bp 3 0 []), (100003, .bx (sgv s))]) ⟨rfl, rfl, rfl, rfl, trivial⟩) ?_
  have e1 : decide (((s.nm.map sv).length : Int) ≠ ((s.nm.map sv).length : Int)) = false := by simp
  have e2 : decide (((s.ar.map iv).length : Int) ≠ ((s.ar.map iv).length : Int)) = false := by simp
  have e3 : decide (((s.pr.map bv).length : Int) ≠ ((s.pr.map bv).length : Int)) = false := by simp
  refine aS (aS (aR ?_))
  (refine nx (aF (gN rfl) rfl rfl rfl rfl rfl rfl rfl rfl rfl) rfl ?_)
  (refine nx (aLb (gN rfl) rfl rfl rfl rfl rfl rfl rfl rfl rfl rfl rfl rfl) rfl ?_)
  (refine nx (a_len (gN rfl) rfl rfl rfl rfl rfl rfl rfl) rfl ?_)
  (refine nx (aF (gN rfl) rfl rfl rfl rfl rfl rfl rfl rfl rfl) rfl ?_)
  (refine nx (aLb (gN rfl) rfl rfl rfl rfl rfl rfl rfl rfl rfl rfl rfl rfl) rfl ?_)
  (refine nx (a_len (gN rfl) rfl rfl rfl rfl rfl rfl rfl) rfl ?_)
  (refine nx (a_neq (gN rfl) rfl rfl rfl rfl rfl rfl) rfl ?_)
  (refine nx (aM (gN rfl) rfl rfl rfl rfl rfl) rfl ?_)
  (refine nx (aF (gd_on rfl rfl rfl rfl (by first | rfl | assumption | (simp; done))) rfl rfl rfl rfl rfl rfl rfl rfl rfl) rfl ?_)
  (refine nx (aLb (gd_on rfl rfl rfl rfl (by first | rfl | assumption | (simp; done))) rfl rfl rfl rfl rfl rfl rfl rfl rfl rfl rfl rfl) rfl ?_)
  (refine nx (a_len (gd_on rfl rfl rfl rfl (by first | rfl | assumption | (simp; done))) rfl rfl rfl rfl rfl rfl rfl) rfl ?_)
  (refine nx (aF (gd_on rfl rfl rfl rfl (by first | rfl | assumption | (simp; done))) rfl rfl rfl rfl rfl rfl rfl rfl rfl) rfl ?_)
  (refine nx (aLb (gd_on rfl rfl rfl rfl (by first | rfl | assumption | (simp; done))) rfl rfl rfl rfl rfl rfl rfl rfl rfl rfl rfl rfl) rfl ?_)
  (refine nx (a_len (gd_on rfl rfl rfl rfl (by first | rfl | assumption | (simp; done))) rfl rfl rfl rfl rfl rfl rfl) rfl ?_)
  (refine nx (a_neq (gd_on rfl rfl rfl rfl (by first | rfl | assumption | (simp; done))) rfl rfl rfl rfl rfl rfl) rfl ?_)
  (refine ⟨_, _, _, aPf (gN rfl) rfl rfl rfl rfl rfl ?hb rfl, rfl, ?_⟩; case hb => (first | rfl | assumption | (simp; done)))
  (refine nx (aM (gN rfl) rfl rfl rfl rfl rfl) rfl ?_)
  (refine nx (aF (gd_on rfl rfl rfl rfl (by first | rfl | assumption | (simp; done))) rfl rfl rfl rfl rfl rfl rfl rfl rfl) rfl ?_)
  (refine nx (aLb (gd_on rfl rfl rfl rfl (by first | rfl | assumption | (simp; done))) rfl rfl rfl rfl rfl rfl rfl rfl rfl rfl rfl rfl) rfl ?_)
  (refine nx (a_len (gd_on rfl rfl rfl rfl (by first | rfl | assumption | (simp; done))) rfl rfl rfl rfl rfl rfl rfl) rfl ?_)
  (refine nx (aF (gd_on rfl rfl rfl rfl (by first | rfl | assumption | (simp; done))) rfl rfl rfl rfl rfl rfl rfl rfl rfl) rfl ?_)
  (refine nx (aLb (gd_on rfl rfl rfl rfl (by first | rfl | assumption | (simp; done))) rfl rfl rfl rfl rfl rfl rfl rfl rfl rfl rfl rfl) rfl ?_)
  (refine nx (a_len (gd_on rfl rfl rfl rfl (by first | rfl | assumption | (simp; done))) rfl rfl rfl rfl rfl rfl rfl) rfl ?_)
  (refine nx (a_neq (gd_on rfl rfl rfl rfl (by first | rfl | assumption | (simp; done))) rfl rfl rfl rfl rfl rfl) rfl ?_)
  (refine ⟨_, _, _, aPf (gN rfl) rfl rfl rfl rfl rfl ?hb rfl, rfl, ?_⟩; case hb => (first | rfl | assumption | (simp; done)))
  show AWp _ _ _ _ _ _ _
  refine aC rfl (fun hc => by
    have hc : decide (((s.pr.map bv).length : Int) ≠ ((s.pr.map bv).length : Int)) = true := hc
    rw [e3] at hc
    cases hc) (fun hc => aK ?_)
  show AWp _ _ _ _ _ _ _
  refine aS (aS (aR ?_))
  (refine nx (aA (gN rfl) rfl rfl rfl rfl rfl) rfl ?_)
  show AWp _ _ _ _ _ _ _
  refine aB (awp_count s.nm.length (fun k => [(2, .bp 2 0 []), (100002, .bx (sgv s)), (3, .bp 3 0 []), (100003, .bx (sgv s)), (5, .val (.i (k : Int)))]) (wk_sub ⟨rfl, rfl, rfl, rfl, rfl, trivial⟩) ?_)
  intro k hk
  refine aS (aS (aR ?_))
  (refine nx (aM (gN rfl) rfl rfl rfl rfl rfl) rfl ?_)
  (refine nx (aF (gN rfl) rfl rfl rfl rfl rfl rfl rfl rfl rfl) rfl ?_)
  (refine nx (aLb (gN rfl) rfl rfl rfl rfl rfl rfl rfl rfl rfl rfl rfl rfl) rfl ?_)
  (refine nx (a_len (gN rfl) rfl rfl rfl rfl rfl rfl rfl) rfl ?_)
  (refine nx (a_lss (gN rfl) rfl rfl rfl rfl rfl rfl) rfl ?_)
  show AWp _ _ _ _ _ _ _
  refine aC rfl (fun hlt => ?_) (fun hlt => ?_)
  · have hkl : k < s.nm.length := by simpa using hlt
    obtain ⟨x, hx⟩ : ∃ x, s.nm[k]? = some x := ⟨s.nm[k], List.getElem?_eq_getElem hkl⟩
    obtain ⟨y, hy⟩ : ∃ y, s.ar[k]? = some y := ⟨s.ar[k]'(by omega), List.getElem?_eq_getElem _⟩
    obtain ⟨z, hz⟩ : ∃ z, s.pr[k]? = some z := ⟨s.pr[k]'(by omega), List.getElem?_eq_getElem _⟩
    have hx' := sv_at hx
    have hy' : (s.ar.map iv)[k]? = some (iv y) := by rw [List.getElem?_map, hy]; rfl
    have hz' : (s.pr.map bv)[k]? = some (bv z) := by rw [List.getElem?_map, hz]; rfl
    have f1 : decide (x ≠ x) = false := by simp
    have f2 : decide ((y : Int) ≠ (y : Int)) = false := by simp
    refine aK ?_
    show AWp _ _ _ _ _ _ _
    cases z with
    | true =>
      refine aS (aB (aS (aD (by kernel_rfl) (by kernel_rfl) ?_)))
      (refine nx (aF (gN rfl) rfl rfl rfl rfl rfl rfl rfl rfl rfl) rfl ?_)
      (refine nx (aLb (gN rfl) rfl rfl rfl rfl rfl rfl rfl rfl rfl rfl rfl rfl) rfl ?_)
      (refine nx (aM (gN rfl) rfl rfl rfl rfl rfl) rfl ?_)
      (refine nx (a_index (j := k) (gN rfl) rfl rfl rfl rfl rfl rfl rfl rfl rfl (hx') rfl (z1)) rfl ?_)
      (refine nx (a_load_ad (gN rfl) rfl rfl rfl rfl rfl rfl rfl rfl rfl) rfl ?_)
      (refine nx (aF (gN rfl) rfl rfl rfl rfl rfl rfl rfl rfl rfl) rfl ?_)
      (refine nx (aLb (gN rfl) rfl rfl rfl rfl rfl rfl rfl rfl rfl rfl rfl rfl) rfl ?_)
      (refine nx (aM (gN rfl) rfl rfl rfl rfl rfl) rfl ?_)
      (refine nx (a_index (j := k) (gN rfl) rfl rfl rfl rfl rfl rfl rfl rfl rfl (hx') rfl (z1)) rfl ?_)
      (refine nx (a_load_ad (gN rfl) rfl rfl rfl rfl rfl rfl rfl rfl rfl) rfl ?_)
      (refine nx (a_sneq (gN rfl) rfl rfl rfl rfl rfl rfl rfl) rfl ?_)
      (refine nx (aM (gN rfl) rfl rfl rfl rfl rfl) rfl ?_)
      (refine nx (aF (gd_on rfl rfl rfl rfl (by first | rfl | assumption | (simp; done))) rfl rfl rfl rfl rfl rfl rfl rfl rfl) rfl ?_)
      (refine nx (aLb (gd_on rfl rfl rfl rfl (by first | rfl | assumption | (simp; done))) rfl rfl rfl rfl rfl rfl rfl rfl rfl rfl rfl rfl) rfl ?_)
      (refine nx (aM (gd_on rfl rfl rfl rfl (by first | rfl | assumption | (simp; done))) rfl rfl rfl rfl rfl) rfl ?_)
      (refine nx (a_index (j := k) (gd_on rfl rfl rfl rfl (by first | rfl | assumption | (simp; done))) rfl rfl rfl rfl rfl rfl rfl rfl rfl (hy') rfl (z2)) rfl ?_)
      (refine nx (a_load_ad (gd_on rfl rfl rfl rfl (by first | rfl | assumption | (simp; done))) rfl rfl rfl rfl rfl rfl rfl rfl rfl) rfl ?_)
      (refine nx (aF (gd_on rfl rfl rfl rfl (by first | rfl | assumption | (simp; done))) rfl rfl rfl rfl rfl rfl rfl rfl rfl) rfl ?_)
      (refine nx (aLb (gd_on rfl rfl rfl rfl (by first | rfl | assumption | (simp; done))) rfl rfl rfl rfl rfl rfl rfl rfl rfl rfl rfl rfl) rfl ?_)
      (refine nx (aM (gd_on rfl rfl rfl rfl (by first | rfl | assumption | (simp; done))) rfl rfl rfl rfl rfl) rfl ?_)
      (refine nx (a_index (j := k) (gd_on rfl rfl rfl rfl (by first | rfl | assumption | (simp; done))) rfl rfl rfl rfl rfl rfl rfl rfl rfl (hy') rfl (z2)) rfl ?_)
      (refine nx (a_load_ad (gd_on rfl rfl rfl rfl (by first | rfl | assumption | (simp; done))) rfl rfl rfl rfl rfl rfl rfl rfl rfl) rfl ?_)
      (refine nx (a_neq (gd_on rfl rfl rfl rfl (by first | rfl | assumption | (simp; done))) rfl rfl rfl rfl rfl rfl) rfl ?_)
      (refine ⟨_, _, _, aPf (gN rfl) rfl rfl rfl rfl rfl ?hb rfl, rfl, ?_⟩; case hb => (first | rfl | assumption | (simp; done)))
      (refine nx (aM (gN rfl) rfl rfl rfl rfl rfl) rfl ?_)
      (refine nx (aF (gd_on rfl rfl rfl rfl (by first | rfl | assumption | (simp; done))) rfl rfl rfl rfl rfl rfl rfl rfl rfl) rfl ?_)
      (refine nx (aLb (gd_on rfl rfl rfl rfl (by first | rfl | assumption | (simp; done))) rfl rfl rfl rfl rfl rfl rfl rfl rfl rfl rfl rfl) rfl ?_)
      (refine nx (aM (gd_on rfl rfl rfl rfl (by first | rfl | assumption | (simp; done))) rfl rfl rfl rfl rfl) rfl ?_)
      (refine nx (a_index (j := k) (gd_on rfl rfl rfl rfl (by first | rfl | assumption | (simp; done))) rfl rfl rfl rfl rfl rfl rfl rfl rfl (hz') rfl (z3)) rfl ?_)
      (refine nx (a_load_ad (gd_on rfl rfl rfl rfl (by first | rfl | assumption | (simp; done))) rfl rfl rfl rfl rfl rfl rfl rfl rfl) rfl ?_)
      (refine nx (aF (gd_on rfl rfl rfl rfl (by first | rfl | assumption | (simp; done))) rfl rfl rfl rfl rfl rfl rfl rfl rfl) rfl ?_)
      (refine nx (aLb (gd_on rfl rfl rfl rfl (by first | rfl | assumption | (simp; done))) rfl rfl rfl rfl rfl rfl rfl rfl rfl rfl rfl rfl) rfl ?_)
      (refine nx (aM (gd_on rfl rfl rfl rfl (by first | rfl | assumption | (simp; done))) rfl rfl rfl rfl rfl) rfl ?_)
      (refine nx (a_index (j := k) (gd_on rfl rfl rfl rfl (by first | rfl | assumption | (simp; done))) rfl rfl rfl rfl rfl rfl rfl rfl rfl (hz') rfl (z3)) rfl ?_)
      (refine nx (a_load_ad (gd_on rfl rfl rfl rfl (by first | rfl | assumption | (simp; done))) rfl rfl rfl rfl rfl rfl rfl rfl rfl) rfl ?_)
      (refine nx (a_bne (gd_on rfl rfl rfl rfl (by first | rfl | assumption | (simp; done))) rfl rfl rfl rfl rfl rfl rfl) rfl ?_)
      (refine ⟨_, _, _, aPf (gN rfl) rfl rfl rfl rfl rfl ?hb rfl, rfl, ?_⟩; case hb => (first | rfl | assumption | (simp; done)))
      refine ⟨by kernel_rfl, ?_⟩
      show AWp _ _ _ _ _ _ _
      refine aC rfl (fun hc => by cases hc) (fun hc => aK ?_)
      show AWp _ _ _ _ _ _ _
      refine aR ?_
      (refine nx (aM (gN rfl) rfl rfl rfl rfl rfl) rfl ?_)
      (refine nx (a_add (gN rfl) rfl rfl rfl rfl rfl rfl (by first | omega | (simp only [List.length_map, List.length_append, List.length_cons, List.length_nil] <;> omega) | (simp <;> omega))) rfl ?_)
      (refine nx (aA (gN rfl) rfl rfl rfl rfl rfl) rfl ?_)
      refine ⟨hkl, wk_sub ⟨rfl, rfl, rfl, rfl, rfl, trivial⟩⟩
    | false =>
      refine aS (aB (aS (aD (by kernel_rfl) (by kernel_rfl) ?_)))
      (refine nx (aF (gN rfl) rfl rfl rfl rfl rfl rfl rfl rfl rfl) rfl ?_)
      (refine nx (aLb (gN rfl) rfl rfl rfl rfl rfl rfl rfl rfl rfl rfl rfl rfl) rfl ?_)
      (refine nx (aM (gN rfl) rfl rfl rfl rfl rfl) rfl ?_)
      (refine nx (a_index (j := k) (gN rfl) rfl rfl rfl rfl rfl rfl rfl rfl rfl (hx') rfl (z1)) rfl ?_)
      (refine nx (a_load_ad (gN rfl) rfl rfl rfl rfl rfl rfl rfl rfl rfl) rfl ?_)
      (refine nx (aF (gN rfl) rfl rfl rfl rfl rfl rfl rfl rfl rfl) rfl ?_)
      (refine nx (aLb (gN rfl) rfl rfl rfl rfl rfl rfl rfl rfl rfl rfl rfl rfl) rfl ?_)
      (refine nx (aM (gN rfl) rfl rfl rfl rfl rfl) rfl ?_)
      (refine nx (a_index (j := k) (gN rfl) rfl rfl rfl rfl rfl rfl rfl rfl rfl (hx') rfl (z1)) rfl ?_)
      (refine nx (a_load_ad (gN rfl) rfl rfl rfl rfl rfl rfl rfl rfl rfl) rfl ?_)
      (refine nx (a_sneq (gN rfl) rfl rfl rfl rfl rfl rfl rfl) rfl ?_)
      (refine nx (aM (gN rfl) rfl rfl rfl rfl rfl) rfl ?_)
      (refine nx (aF (gd_on rfl rfl rfl rfl (by first | rfl | assumption | (simp; done))) rfl rfl rfl rfl rfl rfl rfl rfl rfl) rfl ?_)
      (refine nx (aLb (gd_on rfl rfl rfl rfl (by first | rfl | assumption | (simp; done))) rfl rfl rfl rfl rfl rfl rfl rfl rfl rfl rfl rfl) rfl ?_)
      (refine nx (aM (gd_on rfl rfl rfl rfl (by first | rfl | assumption | (simp; done))) rfl rfl rfl rfl rfl) rfl ?_)
      (refine nx (a_index (j := k) (gd_on rfl rfl rfl rfl (by first | rfl | assumption | (simp; done))) rfl rfl rfl rfl rfl rfl rfl rfl rfl (hy') rfl (z2)) rfl ?_)
      (refine nx (a_load_ad (gd_on rfl rfl rfl rfl (by first | rfl | assumption | (simp; done))) rfl rfl rfl rfl rfl rfl rfl rfl rfl) rfl ?_)
      (refine nx (aF (gd_on rfl rfl rfl rfl (by first | rfl | assumption | (simp; done))) rfl rfl rfl rfl rfl rfl rfl rfl rfl) rfl ?_)
      (refine nx (aLb (gd_on rfl rfl rfl rfl (by first | rfl | assumption | (simp; done))) rfl rfl rfl rfl rfl rfl rfl rfl rfl rfl rfl rfl) rfl ?_)
      (refine nx (aM (gd_on rfl rfl rfl rfl (by first | rfl | assumption | (simp; done))) rfl rfl rfl rfl rfl) rfl ?_)
      (refine nx (a_index (j := k) (gd_on rfl rfl rfl rfl (by first | rfl | assumption | (simp; done))) rfl rfl rfl rfl rfl rfl rfl rfl rfl (hy') rfl (z2)) rfl ?_)
      (refine nx (a_load_ad (gd_on rfl rfl rfl rfl (by first | rfl | assumption | (simp; done))) rfl rfl rfl rfl rfl rfl rfl rfl rfl) rfl ?_)
      (refine nx (a_neq (gd_on rfl rfl rfl rfl (by first | rfl | assumption | (simp; done))) rfl rfl rfl rfl rfl rfl) rfl ?_)
      (refine ⟨_, _, _, aPf (gN rfl) rfl rfl rfl rfl rfl ?hb rfl, rfl, ?_⟩; case hb => (first | rfl | assumption | (simp; done)))
      (refine nx (aM (gN rfl) rfl rfl rfl rfl rfl) rfl ?_)
      (refine nx (aF (gd_on rfl rfl rfl rfl (by first | rfl | assumption | (simp; done))) rfl rfl rfl rfl rfl rfl rfl rfl rfl) rfl ?_)
      (refine nx (aLb (gd_on rfl rfl rfl rfl (by first | rfl | assumption | (simp; done))) rfl rfl rfl rfl rfl rfl rfl rfl rfl rfl rfl rfl) rfl ?_)
      (refine nx (aM (gd_on rfl rfl rfl rfl (by first | rfl | assumption | (simp; done))) rfl rfl rfl rfl rfl) rfl ?_)
      (refine nx (a_index (j := k) (gd_on rfl rfl rfl rfl (by first | rfl | assumption | (simp; done))) rfl rfl rfl rfl rfl rfl rfl rfl rfl (hz') rfl (z3)) rfl ?_)
      (refine nx (a_load_ad (gd_on rfl rfl rfl rfl (by first | rfl | assumption | (simp; done))) rfl rfl rfl rfl rfl rfl rfl rfl rfl) rfl ?_)
      (refine nx (aF (gd_on rfl rfl rfl rfl (by first | rfl | assumption | (simp; done))) rfl rfl rfl rfl rfl rfl rfl rfl rfl) rfl ?_)
      (refine nx (aLb (gd_on rfl rfl rfl rfl (by first | rfl | assumption | (simp; done))) rfl rfl rfl rfl rfl rfl rfl rfl rfl rfl rfl rfl) rfl ?_)
      (refine nx (aM (gd_on rfl rfl rfl rfl (by first | rfl | assumption | (simp; done))) rfl rfl rfl rfl rfl) rfl ?_)
      (refine nx (a_index (j := k) (gd_on rfl rfl rfl rfl (by first | rfl | assumption | (simp; done))) rfl rfl rfl rfl rfl rfl rfl rfl rfl (hz') rfl (z3)) rfl ?_)
      (refine nx (a_load_ad (gd_on rfl rfl rfl rfl (by first | rfl | assumption | (simp; done))) rfl rfl rfl rfl rfl rfl rfl rfl rfl) rfl ?_)
      (refine nx (a_bne (gd_on rfl rfl rfl rfl (by first | rfl | assumption | (simp; done))) rfl rfl rfl rfl rfl rfl rfl) rfl ?_)
      (refine ⟨_, _, _, aPf (gN rfl) rfl rfl rfl rfl rfl ?hb rfl, rfl, ?_⟩; case hb => (first | rfl | assumption | (simp; done)))
      refine ⟨by kernel_rfl, ?_⟩
      show AWp _ _ _ _ _ _ _
      refine aC rfl (fun hc => by cases hc) (fun hc => aK ?_)
      show AWp _ _ _ _ _ _ _
      refine aR ?_
      (refine nx (aM (gN rfl) rfl rfl rfl rfl rfl) rfl ?_)
      (refine nx (a_add (gN rfl) rfl rfl rfl rfl rfl rfl (by first | omega | (simp only [List.length_map, List.length_append, List.length_cons, List.length_nil] <;> omega) | (simp <;> omega))) rfl ?_)
      (refine nx (aA (gN rfl) rfl rfl rfl rfl rfl) rfl ?_)
      refine ⟨hkl, wk_sub ⟨rfl, rfl, rfl, rfl, rfl, trivial⟩⟩
  · refine aE ?_
    show AWp _ _ _ _ _ _ _
    refine aS (aR ?_)
    (refine nx (aA (gN rfl) rfl rfl rfl rfl rfl) rfl ?_)
    show AWp _ _ _ _ _ _ _
    exact aT (And.intro (.inr rfl) rfl)
end Go.Proofs.YtglbohajmccehaaDoor

namespace Go.Proofs.YtglbohajmccehaaDoor
open Go.RowKit
set_option linter.unusedVariables false
set_option linter.unusedSimpArgs false
set_option maxRecDepth 10000
def lex : Nat → By → List By
  | 0, _ => []
  | n + 1, s => if (mvT s).nx = [] then [] else (mvT s).nx :: lex n (mvT s).rs
theorem mvT_rs {s : By} (h : (mvT s).nx ≠ []) : (mvT s).rs.length < s.length := by
  have h1 := mvT_len s
  unfold Tkn.len at h1
  have : 0 < (mvT s).nx.length := by
    cases hn : (mvT s).nx with
    | nil => exact absurd hn h
    | cons b l => simp
  omega
theorem lex_more : ∀ (n m : Nat) (s : By), s.length < n → s.length < m → lex n s = lex m s
  | 0, _, _, h, _ => by omega
  | _ + 1, 0, _, _, h => by omega
  | n + 1, m + 1, s, h1, h2 => by
    rw [lex, lex]
    split
    · rfl
    · rename_i h
      have := mvT_rs h
      rw [lex_more n m _ (by omega) (by omega)]
def toks (s : By) : List By := lex (s.length + 1) s
theorem toks_eq (s : By) : toks s = if (mvT s).nx = [] then [] else (mvT s).nx :: toks (mvT s).rs := by
  unfold toks
  rw [lex]
  split
  · rfl
  · rename_i h
    have := mvT_rs h
    rw [lex_more _ ((mvT s).rs.length + 1) _ (by omega) (by omega)]
def tl (t : Tkn) : List By := if t.nx = [] then [] else t.nx :: toks t.rs
theorem tl_mv (s : By) : tl (mvT s) = toks s := (toks_eq s).symm
def takeL (L : List By) (s : By) : Bool × List By := match L with
  | [] => (false, [])
  | x :: l => if x = s then (true, l) else (false, x :: l)
def nameL (L : List By) : By × Bool × List By := match L with
  | [] => ([], false, [])
  | x :: l => if isNmL x then (x, true, l) else ([], false, x :: l)
theorem take_tl (t : Tkn) {s : By} (hs : s ≠ []) : (takeT t s).1 = (takeL (tl t) s).1 ∧ tl (takeT t s).2 = (takeL (tl t) s).2 := by
  unfold takeT
  by_cases h : t.nx = s
  · rw [if_pos h]
    have hn : t.nx ≠ [] := fun e => hs (h ▸ e)
    have e : tl t = t.nx :: toks t.rs := if_neg hn
    rw [e]
    unfold takeL
    simp only
    rw [if_pos h]
    exact ⟨rfl, tl_mv _⟩
  · rw [if_neg h]
    by_cases hn : t.nx = []
    · have e : tl t = [] := if_pos hn
      simp only
      rw [e]
      exact ⟨rfl, rfl⟩
    · have e : tl t = t.nx :: toks t.rs := if_neg hn
      simp only
      rw [e]
      unfold takeL
      simp only
      rw [if_neg h]
      exact ⟨rfl, rfl⟩
theorem name_tl (t : Tkn) : (nameT t).1 = (nameL (tl t)).1 ∧ (nameT t).2.1 = (nameL (tl t)).2.1 ∧ tl (nameT t).2.2 = (nameL (tl t)).2.2 := by
  unfold nameT
  by_cases hn : t.nx = []
  · have e : tl t = [] := if_pos hn
    rw [e]
    have : isNmL t.nx = false := by rw [hn]; rfl
    rw [if_neg (by rw [this]; simp)]
    exact ⟨rfl, rfl, e⟩
  · have e : tl t = t.nx :: toks t.rs := if_neg hn
    rw [e]
    unfold nameL
    simp only
    split
    · exact ⟨rfl, rfl, tl_mv _⟩
    · exact ⟨rfl, rfl, e⟩
def rdXL : Nat → Nat → List By → Option (List Ph) → Option (Ph × List Ph × Bool × List By)
  | 0, _, _, _ => none
  | n + 1, d, t, none => if 32 < d then some (⟨[], []⟩, [], false, t) else
      if !(nameL t).2.1 || isGrL (nameL t).1 then some (⟨(nameL t).1, []⟩, [], (nameL t).2.1, (nameL t).2.2) else
      if (takeL (nameL t).2.2 [40]).1 then (match rdXL n (d + 1) (takeL (nameL t).2.2 [40]).2 (some []) with
        | none => none
        | some r => if r.2.2.1 then some (⟨(nameL t).1, r.2.1⟩, [], (takeL r.2.2.2 [41]).1, (takeL r.2.2.2 [41]).2) else some (⟨(nameL t).1, r.2.1⟩, [], false, r.2.2.2))
      else some (⟨(nameL t).1, []⟩, [], (nameL t).2.1, (takeL (nameL t).2.2 [40]).2)
  | n + 1, d, t, some acc => match rdXL n d t none with
    | none => none
    | some r => if r.2.2.1 then (if (takeL r.2.2.2 [44]).1 then rdXL n d (takeL r.2.2.2 [44]).2 (some (acc ++ [r.1])) else some (⟨[], []⟩, acc ++ [r.1], true, (takeL r.2.2.2 [44]).2)) else some (⟨[], []⟩, [], false, r.2.2.2)
def mapX (r : Ph × List Ph × Bool × Tkn) : Ph × List Ph × Bool × List By := (r.1, r.2.1, r.2.2.1, tl r.2.2.2)
theorem rdX_tl : ∀ (n d : Nat) (t : Tkn) (acc : Option (List Ph)), (rdX n d t acc).map mapX = rdXL n d (tl t) acc
  | 0, _, _, _ => by simp [rdX, rdXL]
  | n + 1, d, t, none => by
    rw [rdX, rdXL]
    obtain ⟨n1, n2, n3⟩ := name_tl t
    rw [← n1, ← n2, ← n3]
    split
    · rfl
    · split
      · rfl
      · obtain ⟨k1, k2⟩ := take_tl (nameT t).2.2 (s := [40]) (by simp)
        rw [← k1, ← k2]
        split
        · rw [← rdX_tl n (d + 1) _ (some [])]
          cases rdX n (d + 1) (takeT (nameT t).2.2 [40]).2 (some []) with
          | none => rfl
          | some r =>
            obtain ⟨q1, q2⟩ := take_tl r.2.2.2 (s := [41]) (by simp)
            simp only [Option.map_some, mapX]
            rw [← q1, ← q2]
            split <;> rfl
        · rfl
  | n + 1, d, t, some acc => by
    rw [rdX, rdXL, ← rdX_tl n d t none]
    cases rdX n d t none with
    | none => rfl
    | some r =>
      obtain ⟨q1, q2⟩ := take_tl r.2.2.2 (s := [44]) (by simp)
      simp only [Option.map_some, mapX]
      rw [← q1, ← q2]
      split
      · split
        · rw [← rdX_tl n d _ (some (acc ++ [r.1]))]
        · rfl
      · rfl
def rdLL (n : Nat) (t : List By) : Option (Se × Bool × List By) :=
  match rdXL n 1 (takeL t [126]).2 none with
  | none => none
  | some r => if r.2.2.1 then
      (if (takeL r.2.2.2 [61]).1 then (match rdXL n 1 (takeL r.2.2.2 [61]).2 none with
          | none => none
          | some q => some (⟨(takeL t [126]).1, false, r.1, q.1⟩, q.2.2.1, q.2.2.2))
        else if (takeL (takeL r.2.2.2 [61]).2 unlB).1 then (match rdXL n 1 (takeL (takeL r.2.2.2 [61]).2 unlB).2 none with
          | none => none
          | some q => some (⟨!(takeL t [126]).1, false, r.1, q.1⟩, q.2.2.1, q.2.2.2))
        else some (⟨(takeL t [126]).1, true, r.1, Ph.z⟩, isSmL r.1.name, (takeL (takeL r.2.2.2 [61]).2 unlB).2))
    else some (Se.z, false, r.2.2.2)
def mapS (r : Se × Bool × Tkn) : Se × Bool × List By := (r.1, r.2.1, tl r.2.2)
theorem rdL_tl (n : Nat) (t : Tkn) : (rdL n t).map mapS = rdLL n (tl t) := by
  unfold rdL rdLL
  obtain ⟨a1, a2⟩ := take_tl t (s := [126]) (by simp)
  rw [← a1, ← a2, ← rdX_tl]
  cases rdX n 1 (takeT t [126]).2 none with
  | none => rfl
  | some r =>
    obtain ⟨b1, b2⟩ := take_tl r.2.2.2 (s := [61]) (by simp)
    obtain ⟨c1, c2⟩ := take_tl (takeT r.2.2.2 [61]).2 (s := unlB) (by simp [unlB])
    simp only [Option.map_some, mapX]
    rw [← b1, ← b2, ← c1, ← c2, ← rdX_tl, ← rdX_tl]
    split
    · split
      · cases rdX n 1 (takeT r.2.2.2 [61]).2 none <;> rfl
      · split
        · cases rdX n 1 (takeT (takeT r.2.2.2 [61]).2 unlB).2 none <;> rfl
        · rfl
    · rfl
def rdLsL (n : Nat) : Nat → List By → List Se → Option (List Se × Bool × List By)
  | 0, _, _ => none
  | m + 1, t, acc => match rdLL n t with
    | none => none
    | some r => if r.2.1 then (if (takeL r.2.2 [124]).1 then rdLsL n m (takeL r.2.2 [124]).2 (acc ++ [r.1]) else some (acc ++ [r.1], true, (takeL r.2.2 [124]).2)) else some ([], false, r.2.2)
def mapC (r : List Se × Bool × Tkn) : List Se × Bool × List By := (r.1, r.2.1, tl r.2.2)
theorem rdLs_tl (n : Nat) : ∀ (m : Nat) (t : Tkn) (acc : List Se), (rdLs n m t acc).map mapC = rdLsL n m (tl t) acc
  | 0, _, _ => by simp [rdLs, rdLsL]
  | m + 1, t, acc => by
    rw [rdLs, rdLsL, ← rdL_tl]
    cases rdL n t with
    | none => rfl
    | some r =>
      obtain ⟨q1, q2⟩ := take_tl r.2.2 (s := [124]) (by simp)
      simp only [Option.map_some, mapS]
      rw [← q1, ← q2]
      split
      · split
        · rw [← rdLs_tl n m]
        · rfl
      · rfl
def rdCL (n : Nat) (t : List By) : Option (List Se × Bool × List By) :=
  if (takeL t neverB).1 then some ([], true, (takeL t neverB).2) else rdLsL n n (takeL t neverB).2 []
theorem rdC_tl (n : Nat) (t : Tkn) : (rdC n t).map mapC = rdCL n (tl t) := by
  unfold rdC rdCL
  obtain ⟨q1, q2⟩ := take_tl t (s := neverB) (by simp [neverB])
  rw [← q1, ← q2, ← rdLs_tl]
  split <;> rfl
def rdFL (n : Nat) : Nat → List By → List (List Se) → Option (List (List Se) × Bool)
  | 0, _, _ => none
  | m + 1, t, acc => if t = [] then some (acc, true) else match rdCL n t with
    | none => none
    | some r => if r.2.1 then (if (takeL r.2.2 [46]).1 then rdFL n m (takeL r.2.2 [46]).2 (acc ++ [r.1]) else some ([], false)) else some ([], false)
theorem tl_nil (t : Tkn) : tl t = [] ↔ t.nx = [] := by
  unfold tl
  by_cases h : t.nx = []
  · rw [if_pos h]; simp [h]
  · rw [if_neg h]; simp [h]
theorem rdF_tl (n : Nat) : ∀ (m : Nat) (t : Tkn) (acc : List (List Se)), rdF n m t acc = rdFL n m (tl t) acc
  | 0, _, _ => by simp [rdF, rdFL]
  | m + 1, t, acc => by
    rw [rdF, rdFL]
    by_cases h : t.nx = []
    · rw [if_pos h, if_pos ((tl_nil t).2 h)]
    · rw [if_neg h, if_neg (fun e => h ((tl_nil t).1 e)), ← rdC_tl]
      cases rdC n t with
      | none => rfl
      | some r =>
        obtain ⟨q1, q2⟩ := take_tl r.2.2 (s := [46]) (by simp)
        simp only [Option.map_some, mapC]
        rw [← q1, ← q2, ← rdF_tl n m]
theorem rdAll_tl (n : Nat) (src : By) : rdAll n src = rdFL n n (toks src) [] := by
  unfold rdAll
  rw [rdF_tl, tl_mv]
theorem bh_step (s : By) : bh s = if Lib.hasPrefix (trm s) [37] then bh (behNl (trm s)) else trm s := by
  have h := (bh_eq s).1
  rw [bhN] at h
  split at h
  · rename_i hp
    rw [if_pos hp]
    have h2 := (bh_eq (behNl (trm s))).1
    have hl : (behNl (trm s)).length + 1 ≤ s.length := by
      have ht := trm_len s
      cases hs : trm s with
      | nil => rw [hs] at hp; simp [Lib.hasPrefix] at hp
      | cons b l =>
        have := behNl_lt (b := b) (l := l)
        rw [hs, List.length_cons] at ht
        omega
    have h3 := bhN_mono h2 (m := s.length) (by omega)
    rw [h3] at h
    injection h with h
    exact h.symm
  · rename_i hp
    rw [if_neg hp]
    injection h with h
    exact h.symm
theorem mv_nx (a : By) : (mvT a).nx = [] ↔ bh a = [] := by
  unfold mvT
  constructor
  · intro h
    have h : (bh a).take (tkSz (bh a)) = [] := h
    rcases List.take_eq_nil_iff.1 h with h | h
    · apply Classical.byContradiction
      intro hn
      have := tkSz_pos hn
      omega
    · exact h
  · intro h
    show (bh a).take (tkSz (bh a)) = []
    rw [h]
    simp

theorem nodup_subA {α : Type} [DecidableEq α] : ∀ {l m : List α}, l.Nodup → (∀ x ∈ l, x ∈ m) → l.length ≤ m.length
  | [], _, _, _ => Nat.zero_le _
  | x :: l, m, hn, hs => by
    rw [List.nodup_cons] at hn
    have hx := hs x (by simp)
    have h1 : l.length ≤ (m.erase x).length := nodup_subA hn.2 fun y hy => by
      exact (List.mem_erase_of_ne (a := y) (b := x) (fun e => hn.1 (by rw [← e]; exact hy))).2 (hs y (List.mem_cons_of_mem _ hy))
    rw [List.length_erase_of_mem hx] at h1
    have : 0 < m.length := List.length_pos_of_mem hx
    rw [List.length_cons]
    omega
def trueB : By := [36, 116, 114, 117, 101]
structure Rl (s1 s2 : Nm) : Prop where
  sub : ∀ p ∈ s1.sy, ∃ j, (p.1, j) ∈ s2.sy
  nms : ∀ x ∈ s1.sg.nm, x ∈ s2.sg.nm
  nd : s1.sg.nm.Nodup
  few : s2.sg.nm.length ≤ 201
  one : ∀ p ∈ s2.sy, ∀ q ∈ s2.sy, p.1.1 = q.1.1 → p.1 = q.1
  has : ∀ x ∈ s1.sg.nm, x = trueB ∨ ∃ p ∈ s1.sy, p.1.1 = x
  ins : ∀ p ∈ s2.sy, p.1.1 ∈ s2.sg.nm
  ne : ∀ p ∈ s2.sy, p.1.1 ≠ trueB
  tr : trueB ∈ s2.sg.nm
  vr : s1.vr = s2.vr
theorem Rl.clear {s1 s2 : Nm} (h : Rl s1 s2) : Rl ⟨s1.sg, s1.sy, []⟩ ⟨s2.sg, s2.sy, []⟩ := ⟨h.sub, h.nms, h.nd, h.few, h.one, h.has, h.ins, h.ne, h.tr, rfl⟩
theorem Rl.zero : Rl nm0 nm0 := ⟨(fun p hp => by cases hp), (fun x hx => hx), by simp [nm0, sg0], by decide, (fun p hp => by cases hp), (fun x hx => .inl (by simpa [nm0, sg0, trueB] using hx)), (fun p hp => by cases hp), (fun p hp => by cases hp), by simp [nm0, sg0, trueB], rfl⟩
theorem lkA_mem {α : Type} [DecidableEq α] {l : List (α × Nat)} {k : α} {j : Nat} (h : (k, j) ∈ l) : lkA l k ≠ none := fun e => lkA_none e _ h rfl
theorem numF_rl {s1 s2 : Nm} (h : Rl s1 s2) {k : Kd} (hok : (numF s2 k).2.1 = true) : (numF s1 k).2.1 = true ∧ Rl (numF s1 k).2.2 (numF s2 k).2.2 := by
  unfold numF at hok ⊢
  cases h1 : lkA s1.sy k with
  | some i =>
    obtain ⟨j, hj⟩ := h.sub _ (lkA_some h1)
    cases h2 : lkA s2.sy k with
    | none => exact absurd h2 (lkA_mem hj)
    | some j2 => exact ⟨rfl, h⟩
  | none =>
    cases h2 : lkA s2.sy k with
    | some j =>
      have hm := lkA_some h2
      have hn1 : k.1 ∉ s1.sg.nm := fun hx => by
        rcases h.has _ hx with e | ⟨p, hp, e⟩
        · exact h.ne _ hm e
        · obtain ⟨j', hj'⟩ := h.sub p hp
          have : p.1 = k := h.one _ hj' _ hm e
          exact lkA_none h1 p hp this
      have hl : (k.1 :: s1.sg.nm).length ≤ s2.sg.nm.length := nodup_subA (List.nodup_cons.2 ⟨hn1, h.nd⟩) fun x hx => by
        rcases List.mem_cons.1 hx with rfl | hx
        · exact h.ins _ hm
        · exact h.nms x hx
      rw [List.length_cons] at hl
      have hf := h.few
      have hno : ¬ (200 < s1.sg.nm.length ∨ k.1 ∈ s1.sg.nm) := fun e => by
        rcases e with e | e
        · omega
        · exact hn1 e
      simp only
      rw [if_neg hno]
      refine ⟨rfl, ⟨fun p hp => ?_, fun x hx => ?_, ?_, h.few, h.one, fun x hx => ?_, h.ins, h.ne, h.tr, h.vr⟩⟩
      · rcases List.mem_append.1 hp with hp | hp
        · exact h.sub p hp
        · rw [List.mem_singleton.1 hp]; exact ⟨j, hm⟩
      · rcases List.mem_append.1 hx with hx | hx
        · exact h.nms x hx
        · rw [List.mem_singleton.1 hx]; exact h.ins _ hm
      · show (s1.sg.nm ++ [k.1]).Nodup
        rw [List.nodup_append]
        exact ⟨h.nd, by simp, fun a ha b hb e => hn1 (by rw [List.mem_singleton.1 hb] at e; rw [← e]; exact ha)⟩
      · rcases List.mem_append.1 hx with hx | hx
        · rcases h.has x hx with e | ⟨p, hp, e⟩
          · exact .inl e
          · exact .inr ⟨p, List.mem_append_left _ hp, e⟩
        · exact .inr ⟨(k, s1.sg.nm.length), by simp, (List.mem_singleton.1 hx).symm⟩
    | none =>
      rw [h2] at hok
      simp only at hok
      have hno2 : ¬ (200 < s2.sg.nm.length ∨ k.1 ∈ s2.sg.nm) := fun e => by rw [if_pos e] at hok; cases hok
      have hn2 : k.1 ∉ s2.sg.nm := fun e => hno2 (.inr e)
      have hl2 : s2.sg.nm.length ≤ 200 := by
        rcases Nat.lt_or_ge 200 s2.sg.nm.length with e | e
        · exact absurd (.inl e) hno2
        · exact e
      have hl : s1.sg.nm.length ≤ s2.sg.nm.length := nodup_subA h.nd h.nms
      have hn1 : k.1 ∉ s1.sg.nm := fun e => hn2 (h.nms _ e)
      have hno : ¬ (200 < s1.sg.nm.length ∨ k.1 ∈ s1.sg.nm) := fun e => by
        rcases e with e | e
        · omega
        · exact hn1 e
      simp only
      rw [if_neg hno, if_neg hno2]
      refine ⟨rfl, ⟨fun p hp => ?_, fun x hx => ?_, ?_, ?_, fun p hp q hq e => ?_, fun x hx => ?_, fun p hp => ?_, fun p hp => ?_, List.mem_append_left _ h.tr, h.vr⟩⟩
      · rcases List.mem_append.1 hp with hp | hp
        · obtain ⟨j, hj⟩ := h.sub p hp
          exact ⟨j, List.mem_append_left _ hj⟩
        · rw [List.mem_singleton.1 hp]; exact ⟨s2.sg.nm.length, by simp⟩
      · rcases List.mem_append.1 hx with hx | hx
        · exact List.mem_append_left _ (h.nms x hx)
        · exact List.mem_append_right _ hx
      · show (s1.sg.nm ++ [k.1]).Nodup
        rw [List.nodup_append]
        exact ⟨h.nd, by simp, fun a ha b hb e => hn1 (by rw [List.mem_singleton.1 hb] at e; rw [← e]; exact ha)⟩
      · show (s2.sg.nm ++ [k.1]).length ≤ 201
        rw [List.length_append]
        simp only [List.length_cons, List.length_nil]
        omega
      · rcases List.mem_append.1 hp with hp | hp <;> rcases List.mem_append.1 hq with hq | hq
        · exact h.one p hp q hq e
        · rw [List.mem_singleton.1 hq] at e
          exact absurd (by rw [← e]; exact h.ins p hp) hn2
        · rw [List.mem_singleton.1 hp] at e
          exact absurd (by rw [e]; exact h.ins q hq) hn2
        · rw [List.mem_singleton.1 hp, List.mem_singleton.1 hq]
      · rcases List.mem_append.1 hx with hx | hx
        · rcases h.has x hx with e | ⟨p, hp, e⟩
          · exact .inl e
          · exact .inr ⟨p, List.mem_append_left _ hp, e⟩
        · exact .inr ⟨(k, s1.sg.nm.length), by simp, (List.mem_singleton.1 hx).symm⟩
      · rcases List.mem_append.1 hp with hp | hp
        · exact List.mem_append_left _ (h.ins p hp)
        · rw [List.mem_singleton.1 hp]; simp
      · rcases List.mem_append.1 hp with hp | hp
        · exact h.ne p hp
        · rw [List.mem_singleton.1 hp]
          exact fun e => hn2 (by rw [e]; exact h.tr)
theorem varF_rl {s1 s2 : Nm} (h : Rl s1 s2) (v : By) : (varF s1 v).1 = (varF s2 v).1 ∧ Rl (varF s1 v).2 (varF s2 v).2 := by
  unfold varF
  rw [h.vr]
  split
  · exact ⟨rfl, h⟩
  · exact ⟨rfl, ⟨h.sub, h.nms, h.nd, h.few, h.one, h.has, h.ins, h.ne, h.tr, rfl⟩⟩
def SimF (f : Nm → Ph → Option (Tm × Bool × Nm)) : Prop := ∀ s1 s2 p r2, Rl s1 s2 → f s2 p = some r2 → r2.2.1 = true → ∃ r1, f s1 p = some r1 ∧ r1.2.1 = true ∧ Rl r1.2.2 r2.2.2 ∧ r1.1.size = r2.1.size
theorem fold_rl {f : Nm → Ph → Option (Tm × Bool × Nm)} (hf : SimF f) : ∀ (ps : List Ph) (s1 s2 : Nm) (a1 a2 : List Tm) (r2 : List Tm × Bool × Nm), Rl s1 s2 → (a1.map Tm.size).sum = (a2.map Tm.size).sum → foldP f s2 ps a2 = some r2 → r2.2.1 = true → ∃ r1, foldP f s1 ps a1 = some r1 ∧ r1.2.1 = true ∧ Rl r1.2.2 r2.2.2 ∧ (r1.1.map Tm.size).sum = (r2.1.map Tm.size).sum
  | [], s1, s2, a1, a2, r2, h, ha, e, _ => by
    simp only [foldP, Option.some.injEq] at e
    subst e
    exact ⟨_, rfl, rfl, h, ha⟩
  | p :: ps, s1, s2, a1, a2, r2, h, ha, e, hok => by
    rw [foldP] at e ⊢
    cases hx : f s2 p with
    | none => rw [hx] at e; cases e
    | some q2 =>
      rw [hx] at e
      simp only at e
      split at e
      · rename_i hq
        obtain ⟨q1, k1, k2, k3, k4⟩ := hf s1 s2 p q2 h hx hq
        rw [k1]
        simp only [k2, if_true]
        exact fold_rl hf ps _ _ _ _ r2 k3 (by simp only [List.map_append, List.sum_append, List.map_cons, List.map_nil, List.sum_cons, List.sum_nil]; omega) e hok
      · cases e; cases hok
theorem size_sym (i : Nat) (l : List Tm) : Tm.size ⟨(i : Int), l⟩ = 1 + (l.map Tm.size).sum := by
  rw [Tm.size_eq, show Tm.ps ⟨(i : Int), l⟩ = l by unfold Tm.ps; rw [if_neg (by show ¬ ((_ : Nat) : Int) < 0; omega)], flat_len]
theorem sym_rl {f : Nm → Ph → Option (Tm × Bool × Nm)} (hf : SimF f) {s1 s2 : Nm} {p : Ph} {pred : Bool} {r2 : Tm × Bool × Nm} (h : Rl s1 s2) (e : symF f s2 p pred = some r2) (hok : r2.2.1 = true) : ∃ r1, symF f s1 p pred = some r1 ∧ r1.2.1 = true ∧ Rl r1.2.2 r2.2.2 ∧ r1.1.size = r2.1.size := by
  unfold symF at e ⊢
  split at e
  · rename_i hn
    obtain ⟨n1, n2⟩ := numF_rl h hn
    split at e
    · cases e
    · rename_i q2 hq
      split at e
      · rename_i hq2
        cases e
        obtain ⟨q1, k1, k2, k3, k4⟩ := fold_rl hf p.parts _ _ [] [] q2 n2 rfl hq hq2
        rw [if_pos n1, k1]
        simp only [k2, if_true]
        refine ⟨_, rfl, rfl, k3, ?_⟩
        show Tm.size ⟨_, q1.1⟩ = Tm.size ⟨_, q2.1⟩
        rw [size_sym, size_sym, k4]
      · cases e; cases hok
  · cases e; cases hok
theorem tmF_rl : ∀ n : Nat, SimF (tmF n)
  | 0, _, _, _, _, _, e, _ => by simp [tmF] at e
  | n + 1, s1, s2, p, r2, h, e, hok => by
    rw [tmF] at e ⊢
    split at e
    · rename_i hg
      rw [if_pos hg]
      cases e
      obtain ⟨v1, v2⟩ := varF_rl h p.name
      exact ⟨_, rfl, rfl, v2, by show Tm.size ⟨_, []⟩ = Tm.size ⟨_, []⟩; rw [v1]⟩
    · rename_i hg
      rw [if_neg hg]
      exact sym_rl (tmF_rl n) h e hok
theorem litF_rl {n : Nat} {s1 s2 : Nm} {s : Se} {r2 : Lt × Bool × Nm} (h : Rl s1 s2) (e : litF n s2 s = some r2) (hok : r2.2.1 = true) : ∃ r1, litF n s1 s = some r1 ∧ r1.2.1 = true ∧ Rl r1.2.2 r2.2.2 ∧ r1.1.a.size + r1.1.b.size = r2.1.a.size + r2.1.b.size := by
  unfold litF at e ⊢
  split at e
  · rename_i ha
    rw [if_pos ha]
    split at e
    · cases e
    · rename_i q2 hq
      cases e
      obtain ⟨q1, k1, k2, k3, k4⟩ := sym_rl (tmF_rl n) h hq hok
      rw [k1]
      exact ⟨_, rfl, k2, k3, by show q1.1.size + _ = q2.1.size + _; rw [k4]⟩
  · rename_i ha
    rw [if_neg ha]
    split at e
    · cases e
    · rename_i q2 hq
      split at e
      · rename_i hq2
        obtain ⟨q1, k1, k2, k3, k4⟩ := tmF_rl n s1 s2 s.a q2 h hq hq2
        rw [k1]
        simp only [k2, if_true]
        split at e
        · cases e
        · rename_i u2 hu
          cases e
          obtain ⟨u1, m1, m2, m3, m4⟩ := tmF_rl n _ _ s.b u2 k3 hu hok
          rw [m1]
          exact ⟨_, rfl, m2, m3, by show q1.1.size + u1.1.size = q2.1.size + u2.1.size; rw [k4, m4]⟩
      · cases e; cases hok
theorem litsF_rl {n : Nat} : ∀ (ss : List Se) (s1 s2 : Nm) (a1 a2 : List Lt) (r2 : List Lt × Bool × Nm), Rl s1 s2 → wtL a1 = wtL a2 → litsF n s2 ss a2 = some r2 → r2.2.1 = true → ∃ r1, litsF n s1 ss a1 = some r1 ∧ r1.2.1 = true ∧ Rl r1.2.2 r2.2.2 ∧ wtL r1.1 = wtL r2.1
  | [], s1, s2, a1, a2, r2, h, ha, e, _ => by
    simp only [litsF, Option.some.injEq] at e
    subst e
    exact ⟨_, rfl, rfl, h, ha⟩
  | p :: ps, s1, s2, a1, a2, r2, h, ha, e, hok => by
    rw [litsF] at e ⊢
    cases hx : litF n s2 p with
    | none => rw [hx] at e; cases e
    | some q2 =>
      rw [hx] at e
      simp only at e
      split at e
      · rename_i hq
        obtain ⟨q1, k1, k2, k3, k4⟩ := litF_rl h hx hq
        rw [k1]
        simp only [k2, if_true]
        refine litsF_rl ps _ _ _ _ r2 k3 ?_ e hok
        unfold wtL at ha ⊢
        simp only [List.map_append, List.sum_append, List.map_cons, List.map_nil, List.sum_cons, List.sum_nil]
        omega
      · cases e; cases hok
theorem mnF_rl {n : Nat} : ∀ (cs : List (List Se)) (s1 s2 : Nm) (a1 a2 : List (List Lt)) (q2 : Nm × List (List Lt) × Bool), Rl ⟨s1.sg, s1.sy, []⟩ ⟨s2.sg, s2.sy, []⟩ → mnF n s2 cs a2 = some q2 → q2.2.2 = true → ∃ q1, mnF n s1 cs a1 = some q1 ∧ q1.2.2 = true ∧ Rl ⟨q1.1.sg, q1.1.sy, []⟩ ⟨q2.1.sg, q2.1.sy, []⟩ ∧ q1.2.1.length + a2.length = q2.2.1.length + a1.length
  | [], s1, s2, a1, a2, q2, h, e, _ => by
    simp only [mnF, Option.some.injEq] at e
    subst e
    exact ⟨_, rfl, rfl, h, Nat.add_comm _ _⟩
  | c :: cs, s1, s2, a1, a2, q2, h, e, hok => by
    rw [mnF] at e ⊢
    split at e
    · cases e
    · rename_i r2 hr
      split at e
      · rename_i hk
        rw [Bool.and_eq_true, decide_eq_true_eq] at hk
        obtain ⟨r1, k1, k2, k3, k4⟩ := litsF_rl c ⟨s1.sg, s1.sy, []⟩ ⟨s2.sg, s2.sy, []⟩ [] [] r2 h rfl hr hk.1
        have k1 : clsF n s1 c = some r1 := k1
        rw [k1]
        simp only
        rw [if_pos (by rw [Bool.and_eq_true, decide_eq_true_eq]; exact ⟨k2, by omega⟩)]
        obtain ⟨q1, m1, m2, m3, m4⟩ := mnF_rl cs r1.2.2 r2.2.2 (a1 ++ [r1.1]) (a2 ++ [r2.1]) q2 k3.clear e hok
        refine ⟨q1, m1, m2, m3, ?_⟩
        rw [List.length_append, List.length_append] at m4
        simp only [List.length_cons, List.length_nil] at m4
        omega
      · cases e; cases hok
theorem mnF_acc {n : Nat} : ∀ (cs : List (List Se)) (st : Nm) (acc : List (List Lt)) (q : Nm × List (List Lt) × Bool), mnF n st cs acc = some q → q.2.2 = true → ∃ d, q.2.1 = acc ++ d ∧ d.length = cs.length
  | [], st, acc, q, e, _ => by
    simp only [mnF, Option.some.injEq] at e
    subst e
    exact ⟨[], by simp, rfl⟩
  | c :: cs, st, acc, q, e, hok => by
    rw [mnF] at e
    split at e
    · cases e
    · rename_i r hr
      split at e
      · obtain ⟨d, h1, h2⟩ := mnF_acc cs _ _ q e hok
        exact ⟨r.1 :: d, by rw [h1]; simp, by simp [h2]⟩
      · cases e; cases hok
theorem prF_ok {n : Nat} {src : By} {r : Sg × List (List Lt) × Int} (h : prF n src = some r) (he : r.2.2 = 0) : src.length ≤ 32768 ∧ ∃ cs q, rdAll n src = some (cs, true) ∧ cs.length ≤ 64 ∧ mnF n nm0 cs [] = some q ∧ q.2.2 = true ∧ r.1 = q.1.sg ∧ r.2.1 = q.2.1 := by
  unfold prF at h
  split at h
  · cases h; cases he
  · rename_i hl
    split at h
    · cases h
    · rename_i c hc
      split at h
      · rename_i hk
        rw [Bool.and_eq_true, decide_eq_true_eq] at hk
        split at h
        · cases h
        · rename_i q hq
          split at h
          · rename_i hq2
            cases h
            obtain ⟨cs, b⟩ := c
            have hb : b = true := hk.1
            subst hb
            exact ⟨by omega, cs, q, hc, hk.2, hq, hq2, rfl, rfl⟩
          · cases h; cases he
      · cases h; cases he
end Go.Proofs.YtglbohajmccehaaDoor
namespace Go.Proofs.YtglbohajmccehaaDoor
open Go.RowKit
set_option linter.unusedVariables false
set_option linter.unusedSimpArgs false
set_option maxRecDepth 100000

end Go.Proofs.YtglbohajmccehaaDoor
namespace Go.Proofs.YtglbohajmccehaaDoor
open Go.RowKit
set_option linter.unusedVariables false
set_option linter.unusedSimpArgs false
section
variable {P : Program} {w0 : World} {U0 : UX} {nt : Nat} {ops : Array Oper} {o : Oper} {S : Nat → Option AV} {gs : List Nat} {d : Nat}
variable (hg : Gd w0 U0 nt ops o gs S) (hd : o.dst = some d) (hn : Nat.blt d nt = true) (h5 : Nat.blt d 100000 = true)
include hg hd hn h5
end
end Go.Proofs.YtglbohajmccehaaDoor
namespace Go.Proofs.YtglbohajmccehaaDoor
set_option linter.unusedVariables false
def ub : Nat → Nat → List Int
  | 0, n => [(n : Int)]
  | k + 1, n => if n < 128 then [(n : Int)] else ((128 + n % 128 : Nat) : Int) :: ub k (n / 128)

def ubytes (n : Nat) : List Int := ub 9 n

def lenz (n : Nat) : Nat := if n = 0 then 0 else (ubytes n).length

def zz (n : Int) : Nat := if 0 ≤ n then (2 * n).toNat else (-2 * n - 1).toNat
end Go.Proofs.YtglbohajmccehaaDoor
namespace Go.Proofs.YtglbohajmccehaaDoor
open Go.RowKit
set_option linter.unusedVariables false






def lastAt : List Int → Option Nat
  | [] => none
  | b :: r => if b < 128 then some 0 else (lastAt r).map (· + 1)

def lastInt (l : List Int) : Int := match lastAt l with | none => -1 | some i => (i : Int)

def val : List Int → Nat
  | [] => 0
  | b :: r => (b % 128).toNat + 128 * val r

def okNum (l : List Int) : Bool := decide (l.length ≤ 10 ∧ (l.length = 10 → l.getD (l.length - 1) 0 ≤ 1) ∧ (l.getD (l.length - 1) 0 ≠ 0 ∨ l.length = 1))

def unzz (n : Nat) : Int := if n % 2 = 0 then ((n / 2 : Nat) : Int) else -((n / 2 : Nat) : Int) - 1


def rdU (l : List Int) : Nat × Nat × Nat :=
  match lastAt l with
  | none => (0, 0, 10)
  | some i => if okNum (l.take (i + 1)) then (val (l.take (i + 1)), i + 1, 0) else (0, 0, 7)
def canon : List Int → Prop
  | [] => False
  | b :: r => match r with
    | [] => 0 < b ∧ b < 128
    | _ :: _ => 128 ≤ b ∧ b ≤ 255 ∧ canon r
end Go.Proofs.YtglbohajmccehaaDoor
namespace Go.Proofs.YtglbohajmccehaaDoor
set_option linter.unusedVariables false
set_option linter.unusedSimpArgs false
def wT : Tm → List Int
  | ⟨f, l⟩ => ubytes (zz f) ++ (if f < 0 then [] else ubytes l.length ++ (l.map wT).flatten)
def wL (l : Lt) : List Int := (if l.neg then 1 else 0) :: (wT l.a ++ wT l.b)
def wC (c : List Lt) : List Int := ubytes c.length ++ c.flatMap wL

def rN (most : Nat) (l : List Int) : Except Nat (Nat × Nat) := match rdU l with
  | (v, c, 0) => if v > most then .error 7 else .ok (v, c)
  | (_, _, e + 1) => .error (e + 1)
def rH (l : List Int) : Except Nat (Int × Nat) := match rdU l with
  | (v, c, 0) => if -2147483648 ≤ unzz v ∧ unzz v ≤ 2147483647 then .ok (unzz v, c) else .error 7
  | (_, _, e + 1) => .error (e + 1)
def rMany {α : Type} (g : List Int → Except Nat (α × Nat)) : Nat → List Int → Except Nat (List α × Nat)
  | 0, _ => .ok ([], 0)
  | n + 1, l => match g l with
    | .error e => .error e
    | .ok (x, c) => match rMany g n (l.drop c) with
      | .error e => .error e
      | .ok (xs, c') => .ok (x :: xs, c + c')
def rList {α : Type} (g : List Int → Except Nat (α × Nat)) (l : List Int) : Except Nat (List α × Nat) := match rN 4096 l with
  | .error e => .error e
  | .ok (n, c) => match rMany g n (l.drop c) with
    | .error e => .error e
    | .ok (xs, c') => .ok (xs, c + c')
def rT : Nat → List Int → Except Nat (Tm × Nat)
  | 0, _ => .error 7
  | d + 1, l => match rH l with
    | .error e => .error e
    | .ok (f, c) => if f < 0 then .ok (⟨f, []⟩, c) else match rList (rT d) (l.drop c) with
      | .error e => .error e
      | .ok (xs, c') => .ok (⟨f, xs⟩, c + c')
def rL (l : List Int) : Except Nat (Lt × Nat) := match rN 1 l with
  | .error e => .error e
  | .ok (n, c) => match rT 257 (l.drop c) with
    | .error e => .error e
    | .ok (a, c1) => match rT 257 (l.drop (c + c1)) with
      | .error e => .error e
      | .ok (b, c2) => .ok (⟨decide (n = 1), a, b⟩, c + c1 + c2)
def rC (l : List Int) : Except Nat (List Lt × Nat) := rList rL l

def wfB (l : List Int) : Prop := ∀ z ∈ l, 0 ≤ z ∧ z ≤ 255
theorem wfB.drop {l : List Int} (h : wfB l) (n : Nat) : wfB (l.drop n) := fun z hz => h z (List.mem_of_mem_drop hz)
def Rt {α : Type} (w : α → List Int) (l : List Int) (r : Except Nat (α × Nat)) : Prop := ∀ x c, r = .ok (x, c) → c ≤ l.length ∧ w x = l.take c
def Er {α : Type} (r : Except Nat (α × Nat)) : Prop := ∀ e, r = .error e → e = 7 ∨ e = 10
structure Thru {α : Type} (g : List Int → Except Nat (α × Nat)) (w : List Int) (x : α) : Prop where
  back : ∀ r, g (w ++ r) = .ok (x, w.length)
  cut : ∀ j, j < w.length → g (w.take j) = .error 10
end Go.Proofs.YtglbohajmccehaaDoor
namespace Go.Proofs.YtglbohajmccehaaDoor
open Go.RowKit
set_option linter.unusedVariables false
set_option linter.unusedSimpArgs false
set_option maxRecDepth 100000
abbrev by8 (z : Int) : CV := .sc (.int .u8 z)
def gU (zs : List Int) (p : Int) : Int × Int × Int :=
  if p < 0 ∨ p > zs.length then (0, 0, 1) else match rdU (zs.drop p.toNat) with
    | (v, c, 0) => (v, p + c, 0)
    | (_, _, e + 1) => (0, 0, ((e + 1 : Nat) : Int))
def gI (zs : List Int) (p : Int) : Int × Int × Int :=
  if p < 0 ∨ p > zs.length then (0, 0, 1) else match rdU (zs.drop p.toNat) with
    | (v, c, 0) => (unzz v, p + c, 0)
    | (_, _, e + 1) => (0, 0, ((e + 1 : Nat) : Int))
noncomputable abbrev rB (zs : List Int) : AS := [(300001, .mrow 5 1 (zs.map by8))]
def zT : Tm := ⟨0, []⟩
def zL : Lt := ⟨false, zT, zT⟩
def okP {α : Type} (q : Nat) : Except Nat (α × Nat) → Int
  | .ok (_, c) => ((q + c : Nat) : Int)
  | .error _ => 0
def okE {α : Type} : Except Nat (α × Nat) → Int
  | .ok _ => 0
  | .error e => (e : Int)
def okN : Except Nat (Nat × Nat) → Int
  | .ok (v, _) => (v : Int)
  | .error _ => 0
noncomputable def okT : Except Nat (Tm × Nat) → CV
  | .ok (x, _) => x.cw
  | .error _ => .row [.i 0, .lst []]
noncomputable def okG : Except Nat (Lt × Nat) → CV
  | .ok (x, _) => x.cw
  | .error _ => .row [.b false, .row [.i 0, .lst []], .row [.i 0, .lst []]]
noncomputable def okLT : Except Nat (List Tm × Nat) → List CV
  | .ok (x, _) => x.map Tm.cv
  | .error _ => []
noncomputable def okLG : Except Nat (List Lt × Nat) → List CV
  | .ok (x, _) => x.map Lt.cv
  | .error _ => []
noncomputable abbrev tupN (q : Nat) (r : Except Nat (Nat × Nat)) : List CV := [.sc (.int .u64 (okN r)), .i (okP q r), by8 (okE r)]
noncomputable abbrev tupT (q : Nat) (r : Except Nat (Tm × Nat)) : List CV := [okT r, .i (okP q r), by8 (okE r)]
noncomputable abbrev tupG (q : Nat) (r : Except Nat (Lt × Nat)) : List CV := [okG r, .i (okP q r), by8 (okE r)]
noncomputable abbrev tupLT (q : Nat) (r : Except Nat (List Tm × Nat)) : List CV := [.lst (okLT r), .i (okP q r), by8 (okE r)]
noncomputable abbrev tupLG (q : Nat) (r : Except Nat (List Lt × Nat)) : List CV := [.lst (okLG r), .i (okP q r), by8 (okE r)]
def rHd (l : List Int) : Except Nat (Tm × Nat) := match rH l with
  | .error e => .error e
  | .ok (f, c) => .ok (⟨f, []⟩, c)
def cmb {α : Type} (xs : List α) (q0 q : Nat) : Except Nat (List α × Nat) → Except Nat (List α × Nat)
  | .error e => .error e
  | .ok (ys, c) => .ok (xs ++ ys, q - q0 + c)
def gC (zs : List Int) (p : Int) : Except Nat (List Lt × Nat) := if p < 0 ∨ p > zs.length then .error 1 else rC (zs.drop p.toNat)
def exC : Lt := ⟨false, ⟨3, [⟨-1, []⟩]⟩, ⟨1, []⟩⟩
def finL (size : Int) (l : Lt) : Bool := decide (0 ≤ smallT l.a size 8) && decide (0 ≤ smallT l.b size 8)
def fineC (c : List Lt) (most : Nat) (size : Int) : Bool := decide (c.length ≤ most) && c.all (finL size)
-- 
set_option maxHeartbeats 1000000 in
theorem to11_abs (W : World) (c : List Lt) (hl : c.length ≤ 1000000) (hc : ∀ l ∈ c, l.a.ok ∧ l.b.ok) : AFun Tryd.prog W 10 [.lst (c.map Lt.cv)] (.val (.lst ((c.map Lt.strip).map Lt.cv))) := by
  have hsz := Lt.size_all c
  refine afun_of (rs := [.lst ((c.map Lt.strip).map Lt.cv)]) Tryd.func10 Tryd.ntmps10 rfl rfl rfl rfl ?_
  intro w U hW
  refine aS (aR ?_)
  (refine nx (aA (gN rfl) rfl rfl rfl rfl rfl) rfl ?_)
  show AWp _ _ _ _ _ _ _
  refine aS (aR ?_)
  (refine nx (aA (gN rfl) rfl rfl rfl rfl rfl) rfl ?_)
  show AWp _ _ _ _ _ _ _
  refine aS (aS (aR ?_))
  (refine nx (aA (gN rfl) rfl rfl rfl rfl rfl) rfl ?_)
  show AWp _ _ _ _ _ _ _
  refine aB (awp_count c.length (fun k => [(0, .val (.lst (c.map Lt.cv))), (3, .own (.lst (((c.take k).map Lt.strip).map Lt.cv)) 200031), (200031, .tok 66 5), (4, .val (.i k))]) ((wk_nil 3 200031 66 5 rfl rfl rfl rfl rfl rfl rfl).trans (wk_sub ⟨rfl, rfl, rfl, rfl, trivial⟩)) ?_)
  intro k hk
  have hks := Lt.size_all ((c.take k).map Lt.strip)
  refine aS (aS (aR ?_))
  (refine nx (aM (gN rfl) rfl rfl rfl rfl rfl) rfl ?_)
  (refine nx (aM (gN rfl) rfl rfl rfl rfl rfl) rfl ?_)
  (refine nx (a_len (gN rfl) rfl rfl rfl rfl rfl rfl rfl) rfl ?_)
  (refine nx (a_lss (gN rfl) rfl rfl rfl rfl rfl rfl) rfl ?_)
  show AWp _ _ _ _ _ _ _
  refine aC rfl (fun hlt => ?_) (fun hlt => ?_)
  · have hkl : k < c.length := by simpa using hlt
    obtain ⟨x, hx⟩ : ∃ x, c[k]? = some x := ⟨c[k], List.getElem?_eq_getElem hkl⟩
    have hx' := Lt.map_at hx
    have hxm := List.mem_of_getElem? hx
    have hkn : (((c.take k).map Lt.strip).map Lt.cv).length ≤ 1000000 := by rw [List.length_map, List.length_map, List.length_take]; omega
    refine aK ?_
    show AWp _ _ _ _ _ _ _
    refine aS (aB (aD (by kernel_rfl) (by kernel_rfl) ?_))
    (refine nx (aM (gN rfl) rfl rfl rfl rfl rfl) rfl ?_)
    (refine nx (aM (gN rfl) rfl rfl rfl rfl rfl) rfl ?_)
    (refine nx (aM (gN rfl) rfl rfl rfl rfl rfl) rfl ?_)
    (refine nx (a_index (j := k) (gN rfl) rfl rfl rfl rfl rfl rfl rfl rfl rfl (hx') rfl (hsz)) rfl ?_)
    (refine nx (a_field_ad (gN rfl) rfl rfl rfl rfl rfl rfl rfl rfl rfl rfl rfl) rfl ?_)
    (refine nx (a_load_ad (gN rfl) rfl rfl rfl rfl rfl rfl rfl rfl rfl) rfl ?_)
    (refine nx (aM (gN rfl) rfl rfl rfl rfl rfl) rfl ?_)
    (refine nx (aM (gN rfl) rfl rfl rfl rfl rfl) rfl ?_)
    (refine nx (a_index (j := k) (gN rfl) rfl rfl rfl rfl rfl rfl rfl rfl rfl (hx') rfl (hsz)) rfl ?_)
    (refine nx (a_field_ad (gN rfl) rfl rfl rfl rfl rfl rfl rfl rfl rfl rfl rfl) rfl ?_)
    (refine nx (a_load_ad (gN rfl) rfl rfl rfl rfl rfl rfl rfl rfl rfl) rfl ?_)
    (refine nx (a_call (gN rfl) rfl rfl rfl rfl rfl (to_abs w x.a (hc x hxm).1)) rfl ?_)
    (refine nx (aM (gN rfl) rfl rfl rfl rfl rfl) rfl ?_)
    (refine nx (aM (gN rfl) rfl rfl rfl rfl rfl) rfl ?_)
    (refine nx (a_index (j := k) (gN rfl) rfl rfl rfl rfl rfl rfl rfl rfl rfl (hx') rfl (hsz)) rfl ?_)
    (refine nx (a_field_ad (gN rfl) rfl rfl rfl rfl rfl rfl rfl rfl rfl rfl rfl) rfl ?_)
    (refine nx (a_load_ad (gN rfl) rfl rfl rfl rfl rfl rfl rfl rfl rfl) rfl ?_)
    (refine nx (a_call (gN rfl) rfl rfl rfl rfl rfl (to_abs w x.b (hc x hxm).2)) rfl ?_)
    (refine nx (a_build (gN rfl) rfl rfl rfl rfl rfl rfl rfl rfl rfl rfl rfl) rfl ?_)
    (refine nx (a_bslice (gN rfl) rfl rfl rfl rfl rfl rfl rfl rfl rfl rfl rfl rfl rfl) rfl ?_)
    (refine nx (a_app (gN rfl) rfl rfl rfl rfl rfl rfl rfl rfl rfl rfl rfl rfl rfl rfl rfl (by first | assumption | exact sZ rfl | exact Tm.size_all _ | exact Bd.size_all _ | exact ints_size _ | exact bys_size _ | exact Lt.size_all _) (by first | assumption | exact sZ rfl | exact Tm.size_all _ | exact Bd.size_all _ | exact ints_size _ | exact bys_size _ | exact Lt.size_all _) (by first | omega | (simp only [List.length_map, List.length_append, List.length_cons, List.length_nil] <;> omega) | (simp <;> omega))) rfl ?_)
    (refine nx (aA (gN rfl) rfl rfl rfl rfl rfl) rfl ?_)
    refine ⟨by kernel_rfl, ?_⟩
    show AWp _ _ _ _ _ _ _
    refine aR ?_
    (refine nx (aM (gN rfl) rfl rfl rfl rfl rfl) rfl ?_)
    (first | (refine nx (a_add (gN rfl) rfl rfl rfl rfl rfl rfl (by first | omega | (simp only [List.length_map, List.length_append, List.length_cons, List.length_nil] <;> omega) | (simp <;> omega))) rfl ?_) | (refine nx (a_sadd (gN rfl) rfl rfl rfl rfl rfl rfl (by first | omega | (simp only [List.length_map, List.length_append, List.length_cons, List.length_nil] <;> omega) | (simp <;> omega))) (by first | rfl | kernel_rfl) ?_))
    (refine nx (aA (gN rfl) rfl rfl rfl rfl rfl) rfl ?_)
    refine ⟨hkl, Wk.trans (wk_sub (s' := [(0, .val (.lst (c.map Lt.cv))), (3, .own (.lst (((c.take (k + 1)).map Lt.strip).map Lt.cv)) 300031), (300031, .tok 66 5), (4, .val (.i ((k + 1 : Nat) : Int)))]) ⟨rfl, ?_, rfl, rfl, trivial⟩) (wk_ren 300031 200031 rfl rfl rfl rfl)⟩
    rw [List.take_add_one, hx, List.map_append, List.map_append]
    rfl
  · have hkl : k = c.length := by
      have : ¬ k < c.length := by simpa using hlt
      omega
    subst hkl
    rw [List.take_length]
    refine aE ?_
    show AWp _ _ _ _ _ _ _
    refine aS (aR ?_)
    (refine nx (aM (gN rfl) rfl rfl rfl rfl rfl) rfl ?_)
    (refine nx (aA (gN rfl) rfl rfl rfl rfl rfl) rfl ?_)
    show AWp _ _ _ _ _ _ _
    exact aT (And.intro (.inr rfl) rfl)
def sameL (x y : Lt) : Bool := (x.neg == y.neg) && (sameT x.a y.a && sameT x.b y.b)
theorem sameL_iff (x y : Lt) : sameL x y = true ↔ x.strip = y.strip := by
  unfold sameL
  rw [Bool.and_eq_true, Bool.and_eq_true, sameT_iff, sameT_iff, beq_iff_eq]
  cases x
  cases y
  simp [Lt.strip]
-- 
theorem sameLit_abs (W : World) (x y : Lt) (hx : x.a.ok ∧ x.b.ok) (hy : y.a.ok ∧ y.b.ok) : AFun Tryd.prog W 20 [x.cw, y.cw] (.val (.b (sameL x y))) := by
  refine afun_of (rs := [.b (sameL x y)]) Tryd.func20 Tryd.ntmps20 rfl rfl rfl rfl ?_
  intro w U hW
  have ha := refSame_abs w x.a y.a hx.1 hy.1
  have hb := refSame_abs w x.b y.b hx.2 hy.2
  refine aS (aR ?_)
  (refine nx (a_box (gN rfl) rfl rfl rfl rfl rfl) rfl ?_)
  (refine nx (a_box (gN rfl) rfl rfl rfl rfl rfl) rfl ?_)
  (refine nx (aA (gN rfl) rfl rfl rfl rfl rfl) rfl ?_)
  show AWp _ _ _ _ _ _ _
  cases hn : (x.neg == y.neg) with
  | false =>
    have e : sameL x y = false := by unfold sameL; rw [hn]; rfl
    rw [e]
    refine aS (aR ?_)
    (refine nx (aF (gN rfl) rfl rfl rfl rfl rfl rfl rfl rfl rfl) rfl ?_)
    (refine nx (aLb (gN rfl) rfl rfl rfl rfl rfl rfl rfl rfl rfl rfl rfl rfl) rfl ?_)
    (refine nx (aF (gN rfl) rfl rfl rfl rfl rfl rfl rfl rfl rfl) rfl ?_)
    (refine nx (aLb (gN rfl) rfl rfl rfl rfl rfl rfl rfl rfl rfl rfl rfl rfl) rfl ?_)
    (refine nx (a_beq (gN rfl) rfl rfl rfl rfl rfl rfl rfl) rfl ?_)
    (refine nx (aM (gN rfl) rfl rfl rfl rfl rfl) rfl ?_)
    (refine ⟨_, _, _, a_off (go_off rfl rfl rfl rfl (by first | rfl | assumption | (simp; done) | (simp [*]; done))) rfl rfl rfl, rfl, ?_⟩)
    (refine ⟨_, _, _, a_off (go_off rfl rfl rfl rfl (by first | rfl | assumption | (simp; done) | (simp [*]; done))) rfl rfl rfl, rfl, ?_⟩)
    (refine ⟨_, _, _, a_off (go_off rfl rfl rfl rfl (by first | rfl | assumption | (simp; done) | (simp [*]; done))) rfl rfl rfl, rfl, ?_⟩)
    (refine ⟨_, _, _, a_off (go_off rfl rfl rfl rfl (by first | rfl | assumption | (simp; done) | (simp [*]; done))) rfl rfl rfl, rfl, ?_⟩)
    (refine ⟨_, _, _, a_off (go_off rfl rfl rfl rfl (by first | rfl | assumption | (simp; done) | (simp [*]; done))) rfl rfl rfl, rfl, ?_⟩)
    (refine ⟨_, _, _, aPf (gN rfl) rfl rfl rfl rfl rfl ?hb rfl, rfl, ?_⟩; case hb => (first | rfl | assumption | (simp; done)))
    (refine nx (aM (gN rfl) rfl rfl rfl rfl rfl) rfl ?_)
    (refine ⟨_, _, _, a_off (go_off rfl rfl rfl rfl (by first | rfl | assumption | (simp; done) | (simp [*]; done))) rfl rfl rfl, rfl, ?_⟩)
    (refine ⟨_, _, _, a_off (go_off rfl rfl rfl rfl (by first | rfl | assumption | (simp; done) | (simp [*]; done))) rfl rfl rfl, rfl, ?_⟩)
    (refine ⟨_, _, _, a_off (go_off rfl rfl rfl rfl (by first | rfl | assumption | (simp; done) | (simp [*]; done))) rfl rfl rfl, rfl, ?_⟩)
    (refine ⟨_, _, _, a_off (go_off rfl rfl rfl rfl (by first | rfl | assumption | (simp; done) | (simp [*]; done))) rfl rfl rfl, rfl, ?_⟩)
    (refine ⟨_, _, _, a_off (go_off rfl rfl rfl rfl (by first | rfl | assumption | (simp; done) | (simp [*]; done))) rfl rfl rfl, rfl, ?_⟩)
    (refine ⟨_, _, _, aPf (gN rfl) rfl rfl rfl rfl rfl ?hb rfl, rfl, ?_⟩; case hb => (first | rfl | assumption | (simp; done)))
    (refine nx (aA (gN rfl) rfl rfl rfl rfl rfl) rfl ?_)
    show AWp _ _ _ _ _ _ _
    exact aT (And.intro (.inr rfl) rfl)
  | true =>
    cases hA : sameT x.a y.a with
    | false =>
      rw [hA] at ha
      have e : sameL x y = false := by unfold sameL; rw [hn, hA]; rfl
      rw [e]
      refine aS (aR ?_)
      (refine nx (aF (gN rfl) rfl rfl rfl rfl rfl rfl rfl rfl rfl) rfl ?_)
      (refine nx (aLb (gN rfl) rfl rfl rfl rfl rfl rfl rfl rfl rfl rfl rfl rfl) rfl ?_)
      (refine nx (aF (gN rfl) rfl rfl rfl rfl rfl rfl rfl rfl rfl) rfl ?_)
      (refine nx (aLb (gN rfl) rfl rfl rfl rfl rfl rfl rfl rfl rfl rfl rfl rfl) rfl ?_)
      (refine nx (a_beq (gN rfl) rfl rfl rfl rfl rfl rfl rfl) rfl ?_)
      (refine nx (aM (gN rfl) rfl rfl rfl rfl rfl) rfl ?_)
      (refine nx (aF (gd_on rfl rfl rfl rfl (by first | rfl | assumption | (simp; done))) rfl rfl rfl rfl rfl rfl rfl rfl rfl) rfl ?_)
      (refine nx (aLb (gd_on rfl rfl rfl rfl (by first | rfl | assumption | (simp; done))) rfl rfl rfl rfl rfl rfl rfl rfl rfl rfl rfl rfl) rfl ?_)
      (refine nx (aF (gd_on rfl rfl rfl rfl (by first | rfl | assumption | (simp; done))) rfl rfl rfl rfl rfl rfl rfl rfl rfl) rfl ?_)
      (refine nx (aLb (gd_on rfl rfl rfl rfl (by first | rfl | assumption | (simp; done))) rfl rfl rfl rfl rfl rfl rfl rfl rfl rfl rfl rfl) rfl ?_)
      (refine nx (a_call (gd_on rfl rfl rfl rfl (by first | rfl | assumption | (simp; done))) rfl rfl rfl rfl rfl (ha)) rfl ?_)
      (refine ⟨_, _, _, aPt (gN rfl) rfl rfl rfl rfl rfl ?hb rfl, rfl, ?_⟩; case hb => (first | rfl | assumption | (simp; done)))
      (refine nx (aM (gN rfl) rfl rfl rfl rfl rfl) rfl ?_)
      (refine ⟨_, _, _, a_off (go_off rfl rfl rfl rfl (by first | rfl | assumption | (simp; done) | (simp [*]; done))) rfl rfl rfl, rfl, ?_⟩)
      (refine ⟨_, _, _, a_off (go_off rfl rfl rfl rfl (by first | rfl | assumption | (simp; done) | (simp [*]; done))) rfl rfl rfl, rfl, ?_⟩)
      (refine ⟨_, _, _, a_off (go_off rfl rfl rfl rfl (by first | rfl | assumption | (simp; done) | (simp [*]; done))) rfl rfl rfl, rfl, ?_⟩)
      (refine ⟨_, _, _, a_off (go_off rfl rfl rfl rfl (by first | rfl | assumption | (simp; done) | (simp [*]; done))) rfl rfl rfl, rfl, ?_⟩)
      (refine ⟨_, _, _, a_off (go_off rfl rfl rfl rfl (by first | rfl | assumption | (simp; done) | (simp [*]; done))) rfl rfl rfl, rfl, ?_⟩)
      (refine ⟨_, _, _, aPf (gN rfl) rfl rfl rfl rfl rfl ?hb rfl, rfl, ?_⟩; case hb => (first | rfl | assumption | (simp; done)))
      (refine nx (aA (gN rfl) rfl rfl rfl rfl rfl) rfl ?_)
      show AWp _ _ _ _ _ _ _
      exact aT (And.intro (.inr rfl) rfl)
    | true =>
      rw [hA] at ha
      have e : sameL x y = sameT x.b y.b := by unfold sameL; rw [hn, hA]; rfl
      rw [e]
      refine aS (aR ?_)
      (refine nx (aF (gN rfl) rfl rfl rfl rfl rfl rfl rfl rfl rfl) rfl ?_)
      (refine nx (aLb (gN rfl) rfl rfl rfl rfl rfl rfl rfl rfl rfl rfl rfl rfl) rfl ?_)
      (refine nx (aF (gN rfl) rfl rfl rfl rfl rfl rfl rfl rfl rfl) rfl ?_)
      (refine nx (aLb (gN rfl) rfl rfl rfl rfl rfl rfl rfl rfl rfl rfl rfl rfl) rfl ?_)
      (refine nx (a_beq (gN rfl) rfl rfl rfl rfl rfl rfl rfl) rfl ?_)
      (refine nx (aM (gN rfl) rfl rfl rfl rfl rfl) rfl ?_)
      (refine nx (aF (gd_on rfl rfl rfl rfl (by first | rfl | assumption | (simp; done))) rfl rfl rfl rfl rfl rfl rfl rfl rfl) rfl ?_)
      (refine nx (aLb (gd_on rfl rfl rfl rfl (by first | rfl | assumption | (simp; done))) rfl rfl rfl rfl rfl rfl rfl rfl rfl rfl rfl rfl) rfl ?_)
      (refine nx (aF (gd_on rfl rfl rfl rfl (by first | rfl | assumption | (simp; done))) rfl rfl rfl rfl rfl rfl rfl rfl rfl) rfl ?_)
      (refine nx (aLb (gd_on rfl rfl rfl rfl (by first | rfl | assumption | (simp; done))) rfl rfl rfl rfl rfl rfl rfl rfl rfl rfl rfl rfl) rfl ?_)
      (refine nx (a_call (gd_on rfl rfl rfl rfl (by first | rfl | assumption | (simp; done))) rfl rfl rfl rfl rfl (ha)) rfl ?_)
      (refine ⟨_, _, _, aPt (gN rfl) rfl rfl rfl rfl rfl ?hb rfl, rfl, ?_⟩; case hb => (first | rfl | assumption | (simp; done)))
      (refine nx (aM (gN rfl) rfl rfl rfl rfl rfl) rfl ?_)
      (refine nx (aF (gd_on rfl rfl rfl rfl (by first | rfl | assumption | (simp; done))) rfl rfl rfl rfl rfl rfl rfl rfl rfl) rfl ?_)
      (refine nx (aLb (gd_on rfl rfl rfl rfl (by first | rfl | assumption | (simp; done))) rfl rfl rfl rfl rfl rfl rfl rfl rfl rfl rfl rfl) rfl ?_)
      (refine nx (aF (gd_on rfl rfl rfl rfl (by first | rfl | assumption | (simp; done))) rfl rfl rfl rfl rfl rfl rfl rfl rfl) rfl ?_)
      (refine nx (aLb (gd_on rfl rfl rfl rfl (by first | rfl | assumption | (simp; done))) rfl rfl rfl rfl rfl rfl rfl rfl rfl rfl rfl rfl) rfl ?_)
      (refine nx (a_call (gd_on rfl rfl rfl rfl (by first | rfl | assumption | (simp; done))) rfl rfl rfl rfl rfl (hb)) rfl ?_)
      (refine ⟨_, _, _, aPt (gN rfl) rfl rfl rfl rfl rfl ?hb rfl, rfl, ?_⟩; case hb => (first | rfl | assumption | (simp; done)))
      (refine nx (aA (gN rfl) rfl rfl rfl rfl rfl) rfl ?_)
      show AWp _ _ _ _ _ _ _
      exact aT (And.intro (.inr rfl) rfl)
def sameC : List Lt → List Lt → Bool
  | [], [] => true
  | x :: l, y :: m => sameL x y && sameC l m
  | _, _ => false
theorem sameC_iff : ∀ {l m : List Lt}, sameC l m = true ↔ l.map Lt.strip = m.map Lt.strip
  | [], [] => by simp [sameC]
  | [], _ :: _ => by simp [sameC]
  | _ :: _, [] => by simp [sameC]
  | x :: l, y :: m => by
    rw [sameC, Bool.and_eq_true, sameL_iff, sameC_iff, List.map_cons, List.map_cons, List.cons.injEq]
-- 
theorem same11_abs (W : World) (c d : List Lt) (hl : c.length ≤ 1000000) (hc : ∀ l ∈ c, l.a.ok ∧ l.b.ok) (hd : ∀ l ∈ d, l.a.ok ∧ l.b.ok) : AFun Tryd.prog W 9 [.lst (c.map Lt.cv), .lst (d.map Lt.cv)] (.val (.b (sameC c d))) := by
  have hs1 := Lt.size_all c
  have hs2 := Lt.size_all d
  refine afun_of (rs := [.b (sameC c d)]) Tryd.func9 Tryd.ntmps9 rfl rfl rfl rfl ?_
  intro w U hW
  refine aS (aR ?_)
  (refine nx (aA (gN rfl) rfl rfl rfl rfl rfl) rfl ?_)
  show AWp _ _ _ _ _ _ _
  refine aS (aS (aR ?_))
  (refine nx (aM (gN rfl) rfl rfl rfl rfl rfl) rfl ?_)
  (refine nx (a_len (gN rfl) rfl rfl rfl rfl rfl rfl rfl) rfl ?_)
  (refine nx (aM (gN rfl) rfl rfl rfl rfl rfl) rfl ?_)
  (refine nx (a_len (gN rfl) rfl rfl rfl rfl rfl rfl rfl) rfl ?_)
  (refine nx (a_neq (gN rfl) rfl rfl rfl rfl rfl rfl) rfl ?_)
  show AWp _ _ _ _ _ _ _
  refine aC rfl (fun h => ?_) (fun h => ?_)
  · have hne : sameC c d = false := by
      rw [← Bool.not_eq_true, sameC_iff]
      intro e
      have := congrArg List.length e
      rw [List.length_map, List.length_map] at this
      have h := of_decide_eq_true h
      rw [List.length_map, List.length_map] at h
      omega
    rw [hne]
    refine aS (aR ?_)
    (refine nx (aA (gN rfl) rfl rfl rfl rfl rfl) rfl ?_)
    show AWp _ _ _ _ _ _ _
    exact aT (And.intro (.inr rfl) rfl)
  have hll : c.length = d.length := by
    have := of_decide_eq_false h
    simp only [List.length_map, ne_eq, Decidable.not_not] at this
    omega
  refine aK ?_
  show AWp _ _ _ _ _ _ _
  refine aS (aS (aR ?_))
  (refine nx (aA (gN rfl) rfl rfl rfl rfl rfl) rfl ?_)
  show AWp _ _ _ _ _ _ _
  refine aB (awp_countI c.length (fun k => (c.take k).map Lt.strip = (d.take k).map Lt.strip) (fun k => [(0, .val (.lst (c.map Lt.cv))), (1, .val (.lst (d.map Lt.cv))), (5, .val (.i k))]) (wk_sub ⟨rfl, rfl, rfl, trivial⟩) (by simp) ?_)
  intro k hk hI
  refine aS (aS (aR ?_))
  (refine nx (aM (gN rfl) rfl rfl rfl rfl rfl) rfl ?_)
  (refine nx (aM (gN rfl) rfl rfl rfl rfl rfl) rfl ?_)
  (refine nx (a_len (gN rfl) rfl rfl rfl rfl rfl rfl rfl) rfl ?_)
  (refine nx (a_lss (gN rfl) rfl rfl rfl rfl rfl rfl) rfl ?_)
  show AWp _ _ _ _ _ _ _
  refine aC rfl (fun hlt => ?_) (fun hlt => ?_)
  · have hkl : k < c.length := by simpa using hlt
    obtain ⟨x, hx⟩ : ∃ x, c[k]? = some x := ⟨c[k], List.getElem?_eq_getElem hkl⟩
    obtain ⟨y, hy⟩ : ∃ y, d[k]? = some y := ⟨d[k]'(by omega), List.getElem?_eq_getElem (by omega)⟩
    have hx' := Lt.map_at hx
    have hy' := Lt.map_at hy
    have hsl := sameLit_abs w x y (hc x (List.mem_of_getElem? hx)) (hd y (List.mem_of_getElem? hy))
    refine aK ?_
    show AWp _ _ _ _ _ _ _
    refine aS (aB (aS (aD (by kernel_rfl) (by kernel_rfl) ?_)))
    (refine nx (aM (gN rfl) rfl rfl rfl rfl rfl) rfl ?_)
    (refine nx (aM (gN rfl) rfl rfl rfl rfl rfl) rfl ?_)
    (refine nx (a_index (j := k) (gN rfl) rfl rfl rfl rfl rfl rfl rfl rfl rfl (hx') rfl (hs1)) rfl ?_)
    (refine nx (a_load_ad (gN rfl) rfl rfl rfl rfl rfl rfl rfl rfl rfl) rfl ?_)
    (refine nx (aM (gN rfl) rfl rfl rfl rfl rfl) rfl ?_)
    (refine nx (aM (gN rfl) rfl rfl rfl rfl rfl) rfl ?_)
    (refine nx (a_index (j := k) (gN rfl) rfl rfl rfl rfl rfl rfl rfl rfl rfl (hy') rfl (hs2)) rfl ?_)
    (refine nx (a_load_ad (gN rfl) rfl rfl rfl rfl rfl rfl rfl rfl rfl) rfl ?_)
    (refine nx (a_call (gN rfl) rfl rfl rfl rfl rfl (hsl)) rfl ?_)
    (refine nx (a_not (gN rfl) rfl rfl rfl rfl rfl) rfl ?_)
    refine ⟨by kernel_rfl, ?_⟩
    show AWp _ _ _ _ _ _ _
    refine aC rfl (fun hc2 => ?_) (fun hc2 => ?_)
    · have hne : sameC c d = false := by
        rw [← Bool.not_eq_true, sameC_iff]
        intro e
        have e1 := congrArg (fun l => l[k]?) e
        simp only [List.getElem?_map, hx, hy, Option.map_some, Option.some.injEq] at e1
        rw [(sameL_iff x y).2 e1] at hc2
        cases hc2
      rw [hne]
      refine aS (aR ?_)
      (refine nx (aA (gN rfl) rfl rfl rfl rfl rfl) rfl ?_)
      show AWp _ _ _ _ _ _ _
      exact aT (And.intro (.inr rfl) rfl)
    · have hxy : x.strip = y.strip := (sameL_iff x y).1 (by simpa using hc2)
      refine aK ?_
      show AWp _ _ _ _ _ _ _
      refine aR ?_
      (refine nx (aM (gN rfl) rfl rfl rfl rfl rfl) rfl ?_)
      (first | (refine nx (a_add (gN rfl) rfl rfl rfl rfl rfl rfl (by first | omega | (simp only [List.length_map, List.length_append, List.length_cons, List.length_nil] <;> omega) | (simp <;> omega))) rfl ?_) | (refine nx (a_sadd (gN rfl) rfl rfl rfl rfl rfl rfl (by first | omega | (simp only [List.length_map, List.length_append, List.length_cons, List.length_nil] <;> omega) | (simp <;> omega))) (by first | rfl | kernel_rfl) ?_))
      (refine nx (aA (gN rfl) rfl rfl rfl rfl rfl) rfl ?_)
      refine ⟨hkl, ?_, wk_sub ⟨rfl, rfl, rfl, trivial⟩⟩
      show (c.take (k + 1)).map Lt.strip = (d.take (k + 1)).map Lt.strip
      rw [List.take_add_one, List.take_add_one, List.map_append, List.map_append, hI, hx, hy]
      simp [hxy]
  · have hkl : k = c.length := by
      have : ¬ k < c.length := by simpa using hlt
      omega
    subst hkl
    have he : sameC c d = true := by
      rw [List.take_length, List.take_of_length_le (by omega)] at hI
      exact sameC_iff.2 hI
    rw [he]
    refine aE ?_
    show AWp _ _ _ _ _ _ _
    refine aS (aR ?_)
    (refine nx (aA (gN rfl) rfl rfl rfl rfl rfl) rfl ?_)
    show AWp _ _ _ _ _ _ _
    exact aT (And.intro (.inr rfl) rfl)
end Go.Proofs.YtglbohajmccehaaDoor
namespace Go.Proofs.YtglbohajmccehaaDoor
open Go.RowKit
set_option linter.unusedVariables false
set_option linter.unusedSimpArgs false
set_option maxRecDepth 10000
theorem toks_of_bh {s t : By} (h : bh s = bh t) : toks s = toks t := by
  have : mvT s = mvT t := by unfold mvT; rw [h]
  rw [toks_eq, this, ← toks_eq]
theorem toks_nil : toks [] = [] := by decide
theorem toks_blank {c : UInt8} (hc : blB.contains c = true) (s : By) : toks (c :: s) = toks s := by
  refine toks_of_bh ?_
  have : trm (c :: s) = trm s := by
    unfold trm Lib.trimLeftS
    rw [List.dropWhile_cons_of_pos hc]
  rw [bh_step, bh_step s, this]
theorem trm_cons {c : UInt8} (hc : blB.contains c = false) (s : By) : trm (c :: s) = c :: s := by
  unfold trm Lib.trimLeftS
  rw [List.dropWhile_cons_of_neg (by rw [hc]; simp)]
theorem beh_drop (s : By) : (s.dropWhile (fun x => decide (x ≠ 10)) = [] ∧ behNl s = []) ∨ ∃ r, s.dropWhile (fun x => decide (x ≠ 10)) = 10 :: r ∧ behNl s = r := by
  induction s with
  | nil => exact .inl ⟨rfl, rfl⟩
  | cons x s ih =>
    by_cases hx : x = 10
    · subst hx
      refine .inr ⟨s, ?_, ?_⟩
      · rw [List.dropWhile_cons_of_neg (by simp)]
      · simp [behNl]
    · rw [List.dropWhile_cons_of_pos (by simp [hx]), behNl, if_neg hx]
      exact ih
theorem toks_rem (s : By) : toks (37 :: s) = toks ((37 :: s).dropWhile (fun x => decide (x ≠ 10))) := by
  have h1 : bh (37 :: s) = bh (behNl (37 :: s)) := by
    rw [bh_step, trm_cons (by decide), if_pos (by simp [Lib.hasPrefix])]
  rw [toks_of_bh h1]
  rcases beh_drop (37 :: s) with ⟨h2, h3⟩ | ⟨r, h2, h3⟩
  · rw [h2, h3]
  · rw [h2, h3, toks_blank (by decide)]
theorem toks_tok {c : UInt8} {s : By} (hb : blB.contains c = false) (hp : c ≠ 37) : toks (c :: s) = (c :: s).take (tkSz (c :: s)) :: toks ((c :: s).drop (tkSz (c :: s))) := by
  have h1 : bh (c :: s) = c :: s := by
    rw [bh_step, trm_cons hb, if_neg (by simp [Lib.hasPrefix, List.isPrefixOf]; exact fun e => hp e.symm)]
  have hm : mvT (c :: s) = ⟨(c :: s).take (tkSz (c :: s)), (c :: s).drop (tkSz (c :: s))⟩ := by unfold mvT; rw [h1]
  have hn : (mvT (c :: s)).nx ≠ [] := fun e => by
    have := (mv_nx _).1 e
    rw [h1] at this
    cases this
  rw [toks_eq, if_neg hn, hm]
def sgnB : By := [40, 41, 44, 124, 126, 61, 46]
def lhB : By := [97, 98, 99, 100, 101, 102, 103, 104, 105, 106, 107, 108, 109, 110, 111, 112, 113, 114, 115, 116, 117, 118, 119, 120, 121, 122, 65, 66, 67, 68, 69, 70, 71, 72, 73, 74, 75, 76, 77, 78, 79, 80, 81, 82, 83, 84, 85, 86, 87, 88, 89, 90]
def lhdB : By := lhB ++ [48, 49, 50, 51, 52, 53, 54, 55, 56, 57, 95]
theorem u8_all {p : UInt8 → Bool} (h : (List.range 256).all (fun n => p (UInt8.ofNat n)) = true) (c : UInt8) : p c = true := by
  have := List.all_eq_true.1 h c.toNat (List.mem_range.2 c.toNat_lt)
  simpa using this
theorem mem_lh (c : UInt8) : decide (c ∈ lhB) = (smB c || grB c) := by
  have := u8_all (p := fun c => decide (c ∈ lhB) == (smB c || grB c)) (by kernel_rfl) c
  simpa using this
theorem mem_lhd (c : UInt8) : decide (c ∈ lhdB) = inB c := by
  have := u8_all (p := fun c => decide (c ∈ lhdB) == inB c) (by kernel_rfl) c
  simpa using this
def okTk (t : By) : Bool := isNmL t || (decide (t = neverB) || (decide (t = unlB) || match t with | [c] => decide (c ∈ sgnB) | _ => false))
theorem tw_at {p : UInt8 → Bool} : ∀ (l : By) (k : Nat), k < (l.takeWhile p).length → ∃ x, l[k]? = some x ∧ p x = true
  | [], k, h => by simp at h
  | x :: l, k, h => by
    by_cases hx : p x = true
    · rw [List.takeWhile_cons_of_pos hx, List.length_cons] at h
      cases k with
      | zero => exact ⟨x, rfl, hx⟩
      | succ k => exact tw_at l k (by omega)
    · rw [List.takeWhile_cons_of_neg hx] at h
      simp at h
theorem tw_end {p : UInt8 → Bool} : ∀ (l : By), l[(l.takeWhile p).length]? = none ∨ ∃ x, l[(l.takeWhile p).length]? = some x ∧ p x = false
  | [] => .inl rfl
  | x :: l => by
    by_cases hx : p x = true
    · rw [List.takeWhile_cons_of_pos hx, List.length_cons]
      exact tw_end l
    · rw [List.takeWhile_cons_of_neg hx]
      exact .inr ⟨x, rfl, by simpa using hx⟩
theorem tw_drop {p : UInt8 → Bool} (l : By) : l.drop (l.takeWhile p).length = l.dropWhile p := by
  have h := List.takeWhile_append_dropWhile (p := p) (l := l)
  have h2 : (l.takeWhile p ++ l.dropWhile p).drop (l.takeWhile p).length = l.dropWhile p := List.drop_left ..
  rwa [h] at h2
theorem inB_of_let {c : UInt8} (h : (smB c || grB c) = true) : inB c = true := by unfold inB; rw [h]; rfl
theorem let_cons (c : UInt8) (s : By) : (isSmL (c :: s) || isGrL (c :: s)) = (smB c || grB c) := rfl
theorem tk_name {c : UInt8} {s : By} (h : (smB c || grB c) = true) : tkSz (c :: s) = 1 + (s.takeWhile inB).length ∧ okTk ((c :: s).take (tkSz (c :: s))) = true := by
  have h1 : tkSz (c :: s) = 1 + (s.takeWhile inB).length := by
    unfold tkSz
    rw [if_neg (by simp), let_cons, if_pos h]
    unfold nmSz
    rw [List.takeWhile_cons_of_pos (inB_of_let h), List.length_cons]
    omega
  refine ⟨h1, ?_⟩
  rw [h1, Nat.add_comm, List.take_succ_cons]
  unfold okTk isNmL
  rw [let_cons, h]
  simp
theorem tk_never {c : UInt8} {s : By} (h : (smB c || grB c) = false) (hp : Lib.hasPrefix (c :: s) neverB = true) : tkSz (c :: s) = 6 ∧ (c :: s).take 6 = neverB ∧ okTk neverB = true := by
  refine ⟨?_, ?_, by decide⟩
  · unfold tkSz
    rw [if_neg (by simp), let_cons, if_neg (by rw [h]; simp), if_pos hp]
  · obtain ⟨t, ht⟩ := List.isPrefixOf_iff_prefix.1 hp
    rw [← ht]
    rfl
theorem tk_unl {s : By} (hp : Lib.hasPrefix (33 :: 61 :: s) neverB = false) : tkSz (33 :: 61 :: s) = 2 ∧ okTk unlB = true := by
  refine ⟨?_, by decide⟩
  unfold tkSz
  rw [if_neg (by simp), let_cons, if_neg (by decide), if_neg (by rw [hp]; simp), if_pos (by simp [Lib.hasPrefix, unlB, List.isPrefixOf])]
theorem tk_one {c : UInt8} {s : By} (h : (smB c || grB c) = false) (hp : Lib.hasPrefix (c :: s) neverB = false) (hu : Lib.hasPrefix (c :: s) unlB = false) : tkSz (c :: s) = 1 ∧ (c :: s).take 1 = [c] ∧ okTk [c] = decide (c ∈ sgnB) := by
  refine ⟨?_, rfl, ?_⟩
  · unfold tkSz
    rw [if_neg (by simp), let_cons, if_neg (by rw [h]; simp), if_neg (by rw [hp]; simp), if_neg (by rw [hu]; simp)]
  · unfold okTk isNmL
    rw [let_cons, h]
    simp [neverB, unlB]
end Go.Proofs.YtglbohajmccehaaDoor
-- @STR@
namespace Go.Proofs.YtglbohajmccehaaDoor
open Go.RowKit
set_option linter.unusedVariables false
set_option linter.unusedSimpArgs false
set_option maxRecDepth 100000

section
variable {P : Program} {w0 : World} {U0 : UX} {nt : Nat} {ops : Array Oper} {o : Oper} {gs : List Nat} {S : Nat → Option AV} {d : Nat}
theorem a_scut (m j : Nat) (hg : Gd w0 U0 nt ops o gs S) (hd : o.dst = some d) (hn : Nat.blt d nt = true) (h5 : Nat.blt d 100000 = true) {x y z : Operand} {t : TypeId} {l : List UInt8} {k : IntKind} {i i2 : Int} {n q p n' q' p' n2 q2 p2} (ho : o.op = .slice t x (some z) (some y) none) (hu : P.underlying t = some .string) (hx : ev S x = some ⟨0, sv l, n, q, p⟩) (hz : ev S z = some ⟨0, .sc (.int k i2), n2, q2, p2⟩) (hy : ev S y = some ⟨0, .sc (.int k i), n', q', p'⟩) (hm2 : i2 = (m : Int)) (hi : i = (j : Int)) (hmj : m ≤ j) (hj : j ≤ l.length) : AOp P w0 U0 nt ops o (gs ++ (rd x ++ (rd z ++ rd y))) [] S [(d, .val (sv ((l.take j).drop m)))] :=
  aop_val hg hd hn h5 (fun k hk => List.mem_append_left _ hk) fun s hs a w D hv hm => by
    have e1 := ev_sc hm (fun k hk => hs k (List.mem_append_right _ (List.mem_append_left _ hk))) hx
    have e3 := ev_sc hm (fun k hk => hs k (List.mem_append_right _ (List.mem_append_right _ (List.mem_append_left _ hk)))) hz
    have e2 := ev_sc hm (fun k hk => hs k (List.mem_append_right _ (List.mem_append_right _ (List.mem_append_right _ hk)))) hy
    refine ⟨.string ⟨((l.take j).drop m).toArray⟩, ?_, avrep_sc rfl⟩
    generalize a.eval = ρ at e1 e2 e3 ⊢
    subst hi
    subst hm2
    have hx : (⟨l.toArray⟩ : ByteArray).extract m j = ⟨((l.take j).drop m).toArray⟩ := by
      apply ByteArray.ext
      rw [ByteArray.data_extract]
      simp [List.drop_take]
    have hr := run_slice_string (P := P) w t ⟨l.toArray⟩ k k (m : Int) (j : Int) hu (by omega) (by omega) (by rw [ba_size]; omega)
    simp [execOp, ho, e1, e2, e3, Instr.sliceAt, run_underlying hu, hr, hx]
end
-- 
theorem start12_abs (W : World) : AFun Tryd.prog W 12 [] (.val (sgv sg0)) := by
  refine afun_of (rs := [sgv sg0]) Tryd.func12 Tryd.ntmps12 rfl rfl rfl rfl ?_
  intro w U hW
  refine aS (aR ?_)
  (refine nx (a_alloc (gN rfl) rfl rfl rfl rfl rfl rfl rfl rfl rfl rfl) rfl ?_)
  show AWp _ _ _ _ _ _ _
  refine aS (aR ?_)
  (refine nx (a_bslice (gN rfl) rfl rfl rfl rfl rfl rfl rfl rfl rfl rfl rfl rfl rfl) rfl ?_)
  (refine nx (a_bslice (gN rfl) rfl rfl rfl rfl rfl rfl rfl rfl rfl rfl rfl rfl rfl) rfl ?_)
  (refine nx (a_bslice (gN rfl) rfl rfl rfl rfl rfl rfl rfl rfl rfl rfl rfl rfl rfl) rfl ?_)
  (refine nx (a_build (gN rfl) rfl rfl rfl rfl rfl rfl rfl rfl rfl rfl rfl) rfl ?_)
  (refine nx (aSt (gN rfl) rfl rfl rfl rfl rfl rfl rfl rfl rfl rfl) rfl ?_)
  show AWp _ _ _ _ _ _ _
  exact aT (And.intro (.inr rfl) rfl)
-- 
theorem startP_abs (W : World) : AFun Tryd.prog W 11 [] (.val (sgv sg0)) := by
  refine afun_of (rs := [sgv sg0]) Tryd.func11 Tryd.ntmps11 rfl rfl rfl rfl ?_
  intro w U hW
  refine aS (aR ?_)
  (refine nx (a_alloc (gN rfl) rfl rfl rfl rfl rfl rfl rfl rfl rfl rfl) rfl ?_)
  show AWp _ _ _ _ _ _ _
  refine aS (aR ?_)
  (refine nx (a_bslice (gN rfl) rfl rfl rfl rfl rfl rfl rfl rfl rfl rfl rfl rfl rfl) rfl ?_)
  (refine nx (a_bslice (gN rfl) rfl rfl rfl rfl rfl rfl rfl rfl rfl rfl rfl rfl rfl) rfl ?_)
  (refine nx (a_bslice (gN rfl) rfl rfl rfl rfl rfl rfl rfl rfl rfl rfl rfl rfl rfl) rfl ?_)
  (refine nx (a_build (gN rfl) rfl rfl rfl rfl rfl rfl rfl rfl rfl rfl rfl) rfl ?_)
  (refine nx (aSt (gN rfl) rfl rfl rfl rfl rfl rfl rfl rfl rfl rfl) rfl ?_)
  show AWp _ _ _ _ _ _ _
  exact aT (And.intro (.inr rfl) rfl)
-- 
set_option maxHeartbeats 2000000 in
theorem in12_abs (W : World) (c : UInt8) (s : By) (hs : s.length ≤ 1000000) : AFun Tryd.prog W 27 [.sc (.int .u8 (c.toNat : Int)), sv s] (.val (.b (decide (c ∈ s)))) := by
  refine afun_of (rs := [.b (decide (c ∈ s))]) Tryd.func27 Tryd.ntmps27 rfl rfl rfl rfl ?_
  intro w U hW
  refine aS (aR ?_)
  (refine nx (aA (gN rfl) rfl rfl rfl rfl rfl) rfl ?_)
  show AWp _ _ _ _ _ _ _
  refine aS (aS (aR ?_))
  (refine nx (aA (gN rfl) rfl rfl rfl rfl rfl) rfl ?_)
  show AWp _ _ _ _ _ _ _
  refine aB (awp_countI s.length (fun k => c ∉ s.take k) (fun k => [(0, .val (.sc (.int .u8 (c.toNat : Int)))), (1, .val (sv s)), (5, .val (.i (k : Int)))]) (wk_sub ⟨rfl, rfl, rfl, trivial⟩) (by simp) ?_)
  intro k hk hI
  refine aS (aS (aR ?_))
  (refine nx (aM (gN rfl) rfl rfl rfl rfl rfl) rfl ?_)
  (refine nx (aM (gN rfl) rfl rfl rfl rfl rfl) rfl ?_)
  (refine nx (a_slen (gN rfl) rfl rfl rfl rfl rfl rfl rfl) rfl ?_)
  (refine nx (a_lss (gN rfl) rfl rfl rfl rfl rfl rfl) rfl ?_)
  show AWp _ _ _ _ _ _ _
  refine aC rfl (fun hlt => ?_) (fun hlt => ?_)
  · have hkl : k < s.length := by simpa using hlt
    obtain ⟨x, hx⟩ : ∃ x, s[k]? = some x := ⟨s[k], List.getElem?_eq_getElem hkl⟩
    refine aK ?_
    show AWp _ _ _ _ _ _ _
    refine aS (aB (aS (aR ?_)))
    (refine nx (aM (gN rfl) rfl rfl rfl rfl rfl) rfl ?_)
    (refine nx (aM (gN rfl) rfl rfl rfl rfl rfl) rfl ?_)
    (refine nx (a_sidx (k) (gN rfl) rfl rfl rfl rfl rfl rfl rfl (by first | rfl | omega | (simp only [List.length_set, List.length_map, List.length_append, List.length_cons, List.length_nil] <;> omega) | (simp <;> omega)) (hx)) rfl ?_)
    (refine nx (aM (gN rfl) rfl rfl rfl rfl rfl) rfl ?_)
    (refine nx (a_eql (gN rfl) rfl rfl rfl rfl rfl rfl) rfl ?_)
    show AWp _ _ _ _ _ _ _
    refine aC rfl (fun hc => ?_) (fun hc => aK ?_)
    · have hc : decide ((x.toNat : Int) = (c.toNat : Int)) = true := hc
      have he : x = c := UInt8.toNat_inj.1 (by have : (x.toNat : Int) = (c.toNat : Int) := by simpa using hc
                                               omega)
      refine aS (aR ?_)
      (refine nx (aA (gN rfl) rfl rfl rfl rfl rfl) rfl ?_)
      show AWp _ _ _ _ _ _ _
      refine aT (And.intro (.inr rfl) ?_)
      rw [decide_eq_true (show c ∈ s by rw [← he]; exact List.mem_of_getElem? hx)]
      rfl
    · have hc : decide ((x.toNat : Int) = (c.toNat : Int)) = false := hc
      have hne : c ≠ x := fun e => by rw [e] at hc; simp at hc
      show AWp _ _ _ _ _ _ _
      refine aR ?_
      (refine nx (aM (gN rfl) rfl rfl rfl rfl rfl) rfl ?_)
      (refine nx (a_add (gN rfl) rfl rfl rfl rfl rfl rfl (by first | omega | (simp only [List.length_map, List.length_append, List.length_cons, List.length_nil] <;> omega) | (simp <;> omega))) rfl ?_)
      (refine nx (aA (gN rfl) rfl rfl rfl rfl rfl) rfl ?_)
      refine ⟨hkl, ?_, wk_sub ⟨rfl, rfl, rfl, trivial⟩⟩
      show c ∉ s.take (k + 1)
      rw [List.take_add_one, hx]
      intro hm
      rcases List.mem_append.1 hm with hm | hm
      · exact hI hm
      · exact hne (by simpa using hm)
  · have hkl : k = s.length := by
      have : ¬ k < s.length := by simpa using hlt
      omega
    subst hkl
    rw [List.take_length] at hI
    refine aE ?_
    show AWp _ _ _ _ _ _ _
    refine aS (aR ?_)
    (refine nx (aA (gN rfl) rfl rfl rfl rfl rfl) rfl ?_)
    show AWp _ _ _ _ _ _ _
    refine aT (And.intro (.inr rfl) ?_)
    rw [decide_eq_false hI]
    rfl
def fndB (l : List By) (s : By) : Int := match l.findIdx? fun x => decide (x = s) with
  | some i => (i : Int)
  | none => -1
end Go.Proofs.YtglbohajmccehaaDoor

-- @STR@
namespace Go.Proofs.YtglbohajmccehaaDoor
open Go.RowKit
set_option linter.unusedVariables false
set_option linter.unusedSimpArgs false
set_option maxRecDepth 100000

def lexD (src : By) : List By × Bool := if (toks src).all okTk then (toks src ++ [[]], true) else ([], false)
abbrev lxS (src : By) (i : Nat) (out : List By) : AS := [(0, .val (sv src)), (4, .own (.lst (out.map sv)) 200095), (200095, .tok 9 1), (5, .val (.i (i : Int)))]
abbrev lxE (src : By) (i : Nat) (out : List By) (c : UInt8) (e : Nat) : AS := [(0, .val (sv src)), (4, .own (.lst (out.map sv)) 200095), (200095, .tok 9 1), (5, .val (.i (i : Int))), (6, .val (.sc (.int .u8 (c.toNat : Int)))), (7, .val (.i (e : Int)))]
abbrev lxF (src : By) (i : Nat) (out : List By) (c : UInt8) (e : Nat) (d : Nat) (b : Bool) : AS := [(0, .val (sv src)), (4, .own (.lst (out.map sv)) 200095), (200095, .tok 9 1), (5, .val (.i (i : Int))), (6, .val (.sc (.int .u8 (c.toNat : Int)))), (7, .val (.i (e : Int))), (d, .val (.b b))]
def midR (w0 : World) (U0 : UX) (nt : Nat) (R : Prop) (st : AS) (Q : Exit → AS → Prop) : Exit → AS → Prop
  | .normal, s => R ∧ Wk w0 U0 nt s st
  | e, s => Q e s
theorem awp_midR {P : Program} {w0 : World} {U0 : UX} {nt : Nat} {Q : Exit → AS → Prop} {s : AS} {x y : Code} (R : Prop) (st : AS) (hx : AWp P w0 U0 nt x (midR w0 U0 nt R st Q) s) (hy : R → AWp P w0 U0 nt y Q st) : AWp P w0 U0 nt (.seq x y) Q s :=
  aS fun M a w hs => WP_mono (hx M a w hs) fun e a' w' ⟨s', h1, h2⟩ => by
    cases e with
    | normal => exact ⟨st, hy h1.1, h1.2 a' w' h2⟩
    | _ => exact ⟨s', h1, h2⟩
theorem u8_of {x : UInt8} {n : Nat} (hn : n < 256) (h : (x.toNat : Int) = (n : Int)) : x = UInt8.ofNat n := by
  apply UInt8.toNat_inj.1
  rw [UInt8.toNat_ofNat_of_lt' hn]
  omega
theorem u8_eq (x : UInt8) (n : Nat) (hn : n < 256) : decide ((x.toNat : Int) = (n : Int)) = decide (x = UInt8.ofNat n) := by
  rw [decide_eq_decide]
  constructor
  · intro h
    apply UInt8.toNat_inj.1
    rw [UInt8.toNat_ofNat_of_lt' hn]
    omega
  · intro h
    rw [h, UInt8.toNat_ofNat_of_lt' hn]
theorem pre_cut (src : By) (i : Nat) : Lib.hasPrefix (src.drop i) neverB = (decide (i + 6 ≤ src.length) && decide ((src.take (i + 6)).drop i = neverB)) := by
  rw [Bool.eq_iff_iff, Bool.and_eq_true, decide_eq_true_eq, decide_eq_true_eq]
  rw [List.drop_take, show i + 6 - i = 6 by omega]
  constructor
  · intro h
    obtain ⟨t, ht⟩ := List.isPrefixOf_iff_prefix.1 h
    refine ⟨?_, by rw [← ht]; rfl⟩
    have := congrArg List.length ht
    rw [List.length_append, List.length_drop] at this
    have h6 : neverB.length = 6 := rfl
    omega
  · rintro ⟨h1, h2⟩
    exact List.isPrefixOf_iff_prefix.2 ⟨(src.drop i).drop 6, by rw [← h2, List.take_append_drop]⟩
-- 
set_option maxHeartbeats 8000000 in
theorem lex12_abs (W : World) (src : By) (hs : src.length ≤ 1000000) : AFun Tryd.prog W 15 [sv src] (.tup [.lst ((lexD src).1.map sv), .b (lexD src).2]) := by
  obtain ⟨rD, hrD⟩ : ∃ rD, rD = lexD src := ⟨_, rfl⟩
  rw [← hrD]
  refine afun_of (rs := [.lst (rD.1.map sv), .b rD.2]) Tryd.func15 Tryd.ntmps15 rfl rfl rfl rfl ?_
  intro w U hW
  refine aS (aR ?_)
  (refine nx (aA (gN rfl) rfl rfl rfl rfl rfl) rfl ?_)
  (refine nx (aA (gN rfl) rfl rfl rfl rfl rfl) rfl ?_)
  show AWp _ _ _ _ _ _ _
  refine aS (aR ?_)
  (refine nx (aA (gN rfl) rfl rfl rfl rfl rfl) rfl ?_)
  show AWp _ _ _ _ _ _ _
  refine aS (aR ?_)
  (refine nx (aA (gN rfl) rfl rfl rfl rfl rfl) rfl ?_)
  show AWp _ _ _ _ _ _ _
  refine aS (aB (awp_loop (fun m s => ∃ (i : Nat) (out : List By), m = src.length - i ∧ i ≤ src.length ∧ out.length ≤ i ∧ out ++ toks (src.drop i) = toks src ∧ (∀ x ∈ out, okTk x = true) ∧ s = lxS src i out) (n := src.length) (s' := lxS src 0 []) ((wk_nil 4 200095 9 1 rfl rfl rfl rfl rfl rfl rfl).trans (wk_sub ⟨rfl, rfl, rfl, rfl, trivial⟩)) ⟨0, [], rfl, Nat.zero_le _, Nat.zero_le _, rfl, (fun x hx => by cases hx), rfl⟩ ?_))
  rintro m s ⟨i, out, rfl, hi, hol, htk, hok, rfl⟩
  have hks := svs_size out
  have hon : (out.map sv).length ≤ 1000000 := by rw [List.length_map]; omega
  refine aS (aS (aR ?_))
  (refine nx (aM (gN rfl) rfl rfl rfl rfl rfl) rfl ?_)
  (refine nx (aM (gN rfl) rfl rfl rfl rfl rfl) rfl ?_)
  (refine nx (a_slen (gN rfl) rfl rfl rfl rfl rfl rfl rfl) rfl ?_)
  (refine nx (a_lss (gN rfl) rfl rfl rfl rfl rfl rfl) rfl ?_)
  show AWp _ _ _ _ _ _ _
  refine aC rfl (fun hlt => ?_) (fun hlt => ?_)
  · have hlt : i < src.length := by have hlt : decide ((i : Int) < (src.length : Int)) = true := hlt; simpa using hlt
    obtain ⟨c, hc⟩ : ∃ c, src[i]? = some c := ⟨src[i], List.getElem?_eq_getElem hlt⟩
    obtain ⟨s, hsd⟩ : ∃ s, s = src.drop (i + 1) := ⟨_, rfl⟩
    have hr : src.drop i = c :: s := by
      rw [hsd, List.drop_eq_getElem_cons hlt]
      congr
      rw [List.getElem?_eq_getElem hlt] at hc
      exact Option.some.inj hc
    obtain ⟨k, hk⟩ : ∃ k, k = tkSz (c :: s) := ⟨_, rfl⟩
    have hkl : k ≤ (c :: s).length := by rw [hk]; exact tkSz_le _
    have hrl : (c :: s).length = src.length - i := by rw [← hr, List.length_drop]
    refine aK ?_
    show AWp _ _ _ _ _ _ _
    refine aB (aS (aR ?_))
    (refine nx (aM (gN rfl) rfl rfl rfl rfl rfl) rfl ?_)
    (refine nx (aM (gN rfl) rfl rfl rfl rfl rfl) rfl ?_)
    (refine nx (a_sidx (i) (gN rfl) rfl rfl rfl rfl rfl rfl rfl (by first | rfl | omega | (simp only [List.length_set, List.length_map, List.length_append, List.length_cons, List.length_nil] <;> omega) | (simp <;> omega)) (hc)) rfl ?_)
    (refine nx (aA (gN rfl) rfl rfl rfl rfl rfl) rfl ?_)
    show AWp _ _ _ _ _ _ _
    refine aS (aR ?_)
    (refine nx (aM (gN rfl) rfl rfl rfl rfl rfl) rfl ?_)
    (refine nx (a_add (gN rfl) rfl rfl rfl rfl rfl rfl (by first | omega | (simp only [List.length_map, List.length_append, List.length_cons, List.length_nil] <;> omega) | (simp <;> omega))) rfl ?_)
    (refine nx (aA (gN rfl) rfl rfl rfl rfl rfl) rfl ?_)
    show AWp _ _ _ _ _ _ _
    refine AWp.wk (wk_sub (s' := lxE src i out c (i + 1)) ⟨rfl, rfl, rfl, rfl, rfl, rfl, trivial⟩) ?_
    refine awp_midR (blB.contains c = false ∧ c ≠ 37 ∧ okTk ((c :: s).take k) = true ∧ 1 ≤ k) (lxE src i out c (i + k)) (aB ?_) ?_
    · have i1 := in12_abs w c [32, 9, 10, 13] (by decide)
      have i2 := in12_abs w c lhB (by decide)
      have i3 := in12_abs w c sgnB (by decide)
      refine aS (aR ?_)
      (refine nx (aM (gN rfl) rfl rfl rfl rfl rfl) rfl ?_)
      (refine nx (a_call (gN rfl) rfl rfl rfl rfl rfl (i1)) rfl ?_)
      (refine nx (aA (gN rfl) rfl rfl rfl rfl rfl) rfl ?_)
      show AWp _ _ _ _ _ _ _
      refine aC rfl (fun hb => ?_) (fun hb => ?_)
      · have hb : decide (c ∈ blB) = true := hb
        refine aS (aR ?_)
        (refine nx (aM (gN rfl) rfl rfl rfl rfl rfl) rfl ?_)
        (refine nx (a_add (gN rfl) rfl rfl rfl rfl rfl rfl (by first | omega | (simp only [List.length_map, List.length_append, List.length_cons, List.length_nil] <;> omega) | (simp <;> omega))) rfl ?_)
        (refine nx (aA (gN rfl) rfl rfl rfl rfl rfl) rfl ?_)
        show AWp _ _ _ _ _ _ _
        refine aE ?_
        refine ⟨src.length - (i + 1), lxS src (i + 1) out, by omega, ⟨i + 1, out, rfl, by omega, by omega, ?_, hok, rfl⟩, wk_sub ⟨rfl, rfl, rfl, rfl, trivial⟩⟩
        rw [← htk, hr, toks_blank (by simpa using hb), hsd]
      have hb : decide (c ∈ blB) = false := hb
      have hbl : blB.contains c = false := by simpa using hb
      show AWp _ _ _ _ _ _ _
      refine aS (aR ?_)
      (refine nx (aM (gN rfl) rfl rfl rfl rfl rfl) rfl ?_)
      (refine nx (a_eql (gN rfl) rfl rfl rfl rfl rfl rfl) rfl ?_)
      (refine nx (aA (gN rfl) rfl rfl rfl rfl rfl) rfl ?_)
      show AWp _ _ _ _ _ _ _
      refine aC rfl (fun hp => ?_) (fun hp => ?_)
      · have hp : decide ((c.toNat : Int) = 37) = true := hp
        have hp : c = 37 := by
          have := u8_eq c 37 (by decide)
          rw [show ((37 : Nat) : Int) = 37 from rfl, hp] at this
          simpa using this.symm
        obtain ⟨n, hn⟩ : ∃ n, n = ((src.drop i).takeWhile (fun x => decide (x ≠ 10))).length := ⟨_, rfl⟩
        have hn0 : 0 < n := by
          rw [hn, hr, hp, List.takeWhile_cons_of_pos (by decide)]
          simp
        have hnl : n ≤ src.length - i := by
          rw [hn, ← List.length_drop]
          exact (List.takeWhile_prefix _).length_le
        refine aS (aB (awp_count n (fun k => lxS src (i + k) out) (wk_sub ⟨rfl, rfl, rfl, rfl, trivial⟩) ?_))
        intro j hj
        by_cases hjn : j < n
        · obtain ⟨x, hx, hx2⟩ := tw_at (src.drop i) j (by rw [← hn]; exact hjn)
          rw [List.getElem?_drop] at hx
          have hx10 : decide ((x.toNat : Int) ≠ 10) = true := by
            rw [decide_eq_true_eq]
            intro e
            have hx2 : x ≠ 10 := by simpa using hx2
            exact hx2 (u8_of (n := 10) (by decide) e)
          have g : decide (((i + j : Nat) : Int) < (src.length : Int)) = true := by rw [decide_eq_true_eq]; omega
          refine aS (aS (aR ?_))
          (refine nx (aM (gN rfl) rfl rfl rfl rfl rfl) rfl ?_)
          (refine nx (aM (gN rfl) rfl rfl rfl rfl rfl) rfl ?_)
          (refine nx (a_slen (gN rfl) rfl rfl rfl rfl rfl rfl rfl) rfl ?_)
          (refine nx (a_lss (gN rfl) rfl rfl rfl rfl rfl rfl) rfl ?_)
          (refine nx (aM (gN rfl) rfl rfl rfl rfl rfl) rfl ?_)
          (refine nx (aM (gd_on rfl rfl rfl rfl (by first | rfl | assumption | (simp; done))) rfl rfl rfl rfl rfl) rfl ?_)
          (refine nx (aM (gd_on rfl rfl rfl rfl (by first | rfl | assumption | (simp; done))) rfl rfl rfl rfl rfl) rfl ?_)
          (refine nx (a_sidx (i + j) (gd_on rfl rfl rfl rfl (by first | rfl | assumption | (simp; done))) rfl rfl rfl rfl rfl rfl rfl (by first | rfl | omega | (simp only [List.length_set, List.length_map, List.length_append, List.length_cons, List.length_nil] <;> omega) | (simp <;> omega)) (hx)) rfl ?_)
          (refine nx (a_neq (gd_on rfl rfl rfl rfl (by first | rfl | assumption | (simp; done))) rfl rfl rfl rfl rfl rfl) rfl ?_)
          (refine ⟨_, _, _, aPt (gN rfl) rfl rfl rfl rfl rfl ?hb rfl, rfl, ?_⟩; case hb => (first | rfl | assumption | (simp; done)))
          show AWp _ _ _ _ _ _ _
          refine aC rfl (fun _ => aK ?_) (fun h => by have h : decide ((x.toNat : Int) ≠ 10) = false := h; rw [hx10] at h; cases h)
          show AWp _ _ _ _ _ _ _
          refine aB (aR ?_)
          (refine nx (aM (gN rfl) rfl rfl rfl rfl rfl) rfl ?_)
          (refine nx (a_add (gN rfl) rfl rfl rfl rfl rfl rfl (by first | omega | (simp only [List.length_map, List.length_append, List.length_cons, List.length_nil] <;> omega) | (simp <;> omega))) rfl ?_)
          (refine nx (aA (gN rfl) rfl rfl rfl rfl rfl) rfl ?_)
          exact ⟨hjn, wk_sub ⟨rfl, rfl, rfl, rfl, trivial⟩⟩
        · obtain rfl : j = n := by omega
          have hfin : ∃ m s', m < src.length - i ∧ (∃ (i : Nat) (out : List By), m = src.length - i ∧ i ≤ src.length ∧ out.length ≤ i ∧ out ++ toks (src.drop i) = toks src ∧ (∀ x ∈ out, okTk x = true) ∧ s' = lxS src i out) ∧ s' = lxS src (i + j) out := by
            refine ⟨src.length - (i + j), lxS src (i + j) out, by omega, ⟨i + j, out, rfl, by omega, by omega, ?_, hok, rfl⟩, rfl⟩
            rw [← htk, ← List.drop_drop, hn, tw_drop, hr, hp, ← toks_rem]
          obtain ⟨m, s', f1, f2, rfl⟩ := hfin
          rcases tw_end (p := fun x => decide (x ≠ 10)) (src.drop i) with hx | ⟨x, hx, hx2⟩
          · rw [← hn, List.getElem?_drop] at hx
            have g : decide (((i + j : Nat) : Int) < (src.length : Int)) = false := by
              have := List.getElem?_eq_none_iff.1 hx
              rw [decide_eq_false_iff_not]; omega
            refine aS (aS (aR ?_))
            (refine nx (aM (gN rfl) rfl rfl rfl rfl rfl) rfl ?_)
            (refine nx (aM (gN rfl) rfl rfl rfl rfl rfl) rfl ?_)
            (refine nx (a_slen (gN rfl) rfl rfl rfl rfl rfl rfl rfl) rfl ?_)
            (refine nx (a_lss (gN rfl) rfl rfl rfl rfl rfl rfl) rfl ?_)
            (refine nx (aM (gN rfl) rfl rfl rfl rfl rfl) rfl ?_)
            (refine ⟨_, _, _, a_off (go_off rfl rfl rfl rfl (by first | rfl | assumption | (simp; done) | (simp [*]; done))) rfl rfl rfl, rfl, ?_⟩)
            (refine ⟨_, _, _, a_off (go_off rfl rfl rfl rfl (by first | rfl | assumption | (simp; done) | (simp [*]; done))) rfl rfl rfl, rfl, ?_⟩)
            (refine ⟨_, _, _, a_off (go_off rfl rfl rfl rfl (by first | rfl | assumption | (simp; done) | (simp [*]; done))) rfl rfl rfl, rfl, ?_⟩)
            (refine ⟨_, _, _, a_off (go_off rfl rfl rfl rfl (by first | rfl | assumption | (simp; done) | (simp [*]; done))) rfl rfl rfl, rfl, ?_⟩)
            (refine ⟨_, _, _, aPf (gN rfl) rfl rfl rfl rfl rfl ?hb rfl, rfl, ?_⟩; case hb => (first | rfl | assumption | (simp; done)))
            show AWp _ _ _ _ _ _ _
            refine aC rfl (fun h => by cases h) (fun _ => aE ?_)
            show AWp _ _ _ _ _ _ _
            refine aE ?_
            exact ⟨m, _, f1, f2, wk_sub ⟨rfl, rfl, rfl, rfl, trivial⟩⟩
          · rw [← hn, List.getElem?_drop] at hx
            have hx10 : decide ((x.toNat : Int) ≠ 10) = false := by
              have hx2 : x = 10 := by simpa using hx2
              rw [hx2]
              rfl
            have g : decide (((i + j : Nat) : Int) < (src.length : Int)) = true := by
              have := (List.getElem?_eq_some_iff.1 hx).1
              rw [decide_eq_true_eq]; omega
            refine aS (aS (aR ?_))
            (refine nx (aM (gN rfl) rfl rfl rfl rfl rfl) rfl ?_)
            (refine nx (aM (gN rfl) rfl rfl rfl rfl rfl) rfl ?_)
            (refine nx (a_slen (gN rfl) rfl rfl rfl rfl rfl rfl rfl) rfl ?_)
            (refine nx (a_lss (gN rfl) rfl rfl rfl rfl rfl rfl) rfl ?_)
            (refine nx (aM (gN rfl) rfl rfl rfl rfl rfl) rfl ?_)
            (refine nx (aM (gd_on rfl rfl rfl rfl (by first | rfl | assumption | (simp; done))) rfl rfl rfl rfl rfl) rfl ?_)
            (refine nx (aM (gd_on rfl rfl rfl rfl (by first | rfl | assumption | (simp; done))) rfl rfl rfl rfl rfl) rfl ?_)
            (refine nx (a_sidx (i + j) (gd_on rfl rfl rfl rfl (by first | rfl | assumption | (simp; done))) rfl rfl rfl rfl rfl rfl rfl (by first | rfl | omega | (simp only [List.length_set, List.length_map, List.length_append, List.length_cons, List.length_nil] <;> omega) | (simp <;> omega)) (hx)) rfl ?_)
            (refine nx (a_neq (gd_on rfl rfl rfl rfl (by first | rfl | assumption | (simp; done))) rfl rfl rfl rfl rfl rfl) rfl ?_)
            (refine ⟨_, _, _, aPt (gN rfl) rfl rfl rfl rfl rfl ?hb rfl, rfl, ?_⟩; case hb => (first | rfl | assumption | (simp; done)))
            show AWp _ _ _ _ _ _ _
            refine aC rfl (fun h => by have h : decide ((x.toNat : Int) ≠ 10) = true := h; rw [hx10] at h; cases h) (fun _ => aE ?_)
            show AWp _ _ _ _ _ _ _
            refine aE ?_
            exact ⟨m, _, f1, f2, wk_sub ⟨rfl, rfl, rfl, rfl, trivial⟩⟩
      have hp37 : c ≠ 37 := fun e => by
        have hp : decide ((c.toNat : Int) = 37) = false := hp
        rw [e] at hp
        cases hp
      show AWp _ _ _ _ _ _ _
      refine aS (aR ?_)
      (refine nx (aM (gN rfl) rfl rfl rfl rfl rfl) rfl ?_)
      (refine nx (a_call (gN rfl) rfl rfl rfl rfl rfl (i2)) rfl ?_)
      (refine nx (aA (gN rfl) rfl rfl rfl rfl rfl) rfl ?_)
      show AWp _ _ _ _ _ _ _
      refine aC rfl (fun hl => ?_) (fun hl => ?_)
      · have hl : decide (c ∈ lhB) = true := hl
        rw [mem_lh] at hl
        obtain ⟨k1, k2⟩ := tk_name (s := s) hl
        rw [← hk] at k1 k2
        obtain ⟨n, hn⟩ : ∃ n, n = (s.takeWhile inB).length := ⟨_, rfl⟩
        rw [← hn] at k1
        refine aB (awp_count n (fun j => lxE src i out c (i + 1 + j)) (wk_sub ⟨rfl, rfl, rfl, rfl, rfl, rfl, trivial⟩) ?_)
        intro j hj
        by_cases hjn : j < n
        · obtain ⟨x, hx, hx2⟩ := tw_at s j (by rw [← hn]; exact hjn)
          rw [hsd, List.getElem?_drop] at hx
          have i4 := in12_abs w x lhdB (by decide)
          rw [mem_lhd, hx2] at i4
          have g : decide (((i + 1 + j : Nat) : Int) < (src.length : Int)) = true := by
            have := (List.getElem?_eq_some_iff.1 hx).1
            rw [decide_eq_true_eq]; omega
          refine aS (aS (aR ?_))
          (refine nx (aM (gN rfl) rfl rfl rfl rfl rfl) rfl ?_)
          (refine nx (aM (gN rfl) rfl rfl rfl rfl rfl) rfl ?_)
          (refine nx (a_slen (gN rfl) rfl rfl rfl rfl rfl rfl rfl) rfl ?_)
          (refine nx (a_lss (gN rfl) rfl rfl rfl rfl rfl rfl) rfl ?_)
          (refine nx (aM (gN rfl) rfl rfl rfl rfl rfl) rfl ?_)
          (refine nx (aM (gd_on rfl rfl rfl rfl (by first | rfl | assumption | (simp; done))) rfl rfl rfl rfl rfl) rfl ?_)
          (refine nx (aM (gd_on rfl rfl rfl rfl (by first | rfl | assumption | (simp; done))) rfl rfl rfl rfl rfl) rfl ?_)
          (refine nx (a_sidx (i + 1 + j) (gd_on rfl rfl rfl rfl (by first | rfl | assumption | (simp; done))) rfl rfl rfl rfl rfl rfl rfl (by first | rfl | omega | (simp only [List.length_set, List.length_map, List.length_append, List.length_cons, List.length_nil] <;> omega) | (simp <;> omega)) (hx)) rfl ?_)
          (refine nx (a_call (gd_on rfl rfl rfl rfl (by first | rfl | assumption | (simp; done))) rfl rfl rfl rfl rfl (i4)) rfl ?_)
          (refine ⟨_, _, _, aPt (gN rfl) rfl rfl rfl rfl rfl ?hb rfl, rfl, ?_⟩; case hb => (first | rfl | assumption | (simp; done)))
          show AWp _ _ _ _ _ _ _
          refine aC rfl (fun _ => aK ?_) (fun h => by cases h)
          show AWp _ _ _ _ _ _ _
          refine aB (aR ?_)
          (refine nx (aM (gN rfl) rfl rfl rfl rfl rfl) rfl ?_)
          (refine nx (a_add (gN rfl) rfl rfl rfl rfl rfl rfl (by first | omega | (simp only [List.length_map, List.length_append, List.length_cons, List.length_nil] <;> omega) | (simp <;> omega))) rfl ?_)
          (refine nx (aA (gN rfl) rfl rfl rfl rfl rfl) rfl ?_)
          exact ⟨hjn, wk_sub ⟨rfl, rfl, rfl, rfl, rfl, rfl, trivial⟩⟩
        · obtain rfl : j = n := by omega
          have hek : i + 1 + j = i + k := by omega
          rcases tw_end (p := inB) s with hx | ⟨x, hx, hx2⟩
          · rw [← hn, hsd, List.getElem?_drop] at hx
            have g : decide (((i + 1 + j : Nat) : Int) < (src.length : Int)) = false := by
              have := List.getElem?_eq_none_iff.1 hx
              rw [decide_eq_false_iff_not]; omega
            refine aS (aS (aR ?_))
            (refine nx (aM (gN rfl) rfl rfl rfl rfl rfl) rfl ?_)
            (refine nx (aM (gN rfl) rfl rfl rfl rfl rfl) rfl ?_)
            (refine nx (a_slen (gN rfl) rfl rfl rfl rfl rfl rfl rfl) rfl ?_)
            (refine nx (a_lss (gN rfl) rfl rfl rfl rfl rfl rfl) rfl ?_)
            (refine nx (aM (gN rfl) rfl rfl rfl rfl rfl) rfl ?_)
            (refine ⟨_, _, _, a_off (go_off rfl rfl rfl rfl (by first | rfl | assumption | (simp; done) | (simp [*]; done))) rfl rfl rfl, rfl, ?_⟩)
            (refine ⟨_, _, _, a_off (go_off rfl rfl rfl rfl (by first | rfl | assumption | (simp; done) | (simp [*]; done))) rfl rfl rfl, rfl, ?_⟩)
            (refine ⟨_, _, _, a_off (go_off rfl rfl rfl rfl (by first | rfl | assumption | (simp; done) | (simp [*]; done))) rfl rfl rfl, rfl, ?_⟩)
            (refine ⟨_, _, _, a_off (go_off rfl rfl rfl rfl (by first | rfl | assumption | (simp; done) | (simp [*]; done))) rfl rfl rfl, rfl, ?_⟩)
            (refine ⟨_, _, _, aPf (gN rfl) rfl rfl rfl rfl rfl ?hb rfl, rfl, ?_⟩; case hb => (first | rfl | assumption | (simp; done)))
            show AWp _ _ _ _ _ _ _
            refine aC rfl (fun h => by cases h) (fun _ => aE ?_)
            exact ⟨⟨hbl, hp37, k2, by omega⟩, wk_sub ⟨rfl, rfl, rfl, rfl, rfl, by rw [← hek]; rfl, trivial⟩⟩
          · rw [← hn, hsd, List.getElem?_drop] at hx
            have i4 := in12_abs w x lhdB (by decide)
            rw [mem_lhd, hx2] at i4
            have g : decide (((i + 1 + j : Nat) : Int) < (src.length : Int)) = true := by
              have := (List.getElem?_eq_some_iff.1 hx).1
              rw [decide_eq_true_eq]; omega
            refine aS (aS (aR ?_))
            (refine nx (aM (gN rfl) rfl rfl rfl rfl rfl) rfl ?_)
            (refine nx (aM (gN rfl) rfl rfl rfl rfl rfl) rfl ?_)
            (refine nx (a_slen (gN rfl) rfl rfl rfl rfl rfl rfl rfl) rfl ?_)
            (refine nx (a_lss (gN rfl) rfl rfl rfl rfl rfl rfl) rfl ?_)
            (refine nx (aM (gN rfl) rfl rfl rfl rfl rfl) rfl ?_)
            (refine nx (aM (gd_on rfl rfl rfl rfl (by first | rfl | assumption | (simp; done))) rfl rfl rfl rfl rfl) rfl ?_)
            (refine nx (aM (gd_on rfl rfl rfl rfl (by first | rfl | assumption | (simp; done))) rfl rfl rfl rfl rfl) rfl ?_)
            (refine nx (a_sidx (i + 1 + j) (gd_on rfl rfl rfl rfl (by first | rfl | assumption | (simp; done))) rfl rfl rfl rfl rfl rfl rfl (by first | rfl | omega | (simp only [List.length_set, List.length_map, List.length_append, List.length_cons, List.length_nil] <;> omega) | (simp <;> omega)) (hx)) rfl ?_)
            (refine nx (a_call (gd_on rfl rfl rfl rfl (by first | rfl | assumption | (simp; done))) rfl rfl rfl rfl rfl (i4)) rfl ?_)
            (refine ⟨_, _, _, aPt (gN rfl) rfl rfl rfl rfl rfl ?hb rfl, rfl, ?_⟩; case hb => (first | rfl | assumption | (simp; done)))
            show AWp _ _ _ _ _ _ _
            refine aC rfl (fun h => by cases h) (fun _ => aE ?_)
            exact ⟨⟨hbl, hp37, k2, by omega⟩, wk_sub ⟨rfl, rfl, rfl, rfl, rfl, by rw [← hek]; rfl, trivial⟩⟩
      have hl : decide (c ∈ lhB) = false := hl
      rw [mem_lh] at hl
      show AWp _ _ _ _ _ _ _
      have hcut := pre_cut src i
      rw [hr] at hcut
      cases hpn : Lib.hasPrefix (c :: s) neverB with
      | true =>
        rw [hpn] at hcut
        have hcut := hcut.symm
        rw [Bool.and_eq_true] at hcut
        obtain ⟨u1, u2⟩ := hcut
        have u3 : i + 6 ≤ src.length := of_decide_eq_true u1
        obtain ⟨k1, k2, k3⟩ := tk_never hl hpn
        rw [← hk] at k1
        have g : decide ((i : Int) + 6 ≤ (src.length : Int)) = true := by rw [decide_eq_true_eq]; omega
        refine aS (aR ?_)
        (refine nx (aM (gN rfl) rfl rfl rfl rfl rfl) rfl ?_)
        (refine nx (a_add (gN rfl) rfl rfl rfl rfl rfl rfl (by first | omega | (simp only [List.length_map, List.length_append, List.length_cons, List.length_nil] <;> omega) | (simp <;> omega))) rfl ?_)
        (refine nx (aM (gN rfl) rfl rfl rfl rfl rfl) rfl ?_)
        (refine nx (a_slen (gN rfl) rfl rfl rfl rfl rfl rfl rfl) rfl ?_)
        (refine nx (a_leq (gN rfl) rfl rfl rfl rfl rfl rfl) rfl ?_)
        (refine nx (aM (gN rfl) rfl rfl rfl rfl rfl) rfl ?_)
        (refine nx (aM (gd_on rfl rfl rfl rfl (by first | rfl | assumption | (simp; done))) rfl rfl rfl rfl rfl) rfl ?_)
        (refine nx (aM (gd_on rfl rfl rfl rfl (by first | rfl | assumption | (simp; done))) rfl rfl rfl rfl rfl) rfl ?_)
        (refine nx (aM (gd_on rfl rfl rfl rfl (by first | rfl | assumption | (simp; done))) rfl rfl rfl rfl rfl) rfl ?_)
        (refine nx (a_add (gd_on rfl rfl rfl rfl (by first | rfl | assumption | (simp; done))) rfl rfl rfl rfl rfl rfl (by first | omega | (simp only [List.length_map, List.length_append, List.length_cons, List.length_nil] <;> omega) | (simp <;> omega))) rfl ?_)
        (refine nx (a_scut (i) (i + 6) (gd_on rfl rfl rfl rfl (by first | rfl | assumption | (simp; done))) rfl rfl rfl rfl rfl rfl rfl rfl (by first | rfl | omega | (simp only [List.length_set, List.length_map, List.length_append, List.length_cons, List.length_nil] <;> omega) | (simp <;> omega)) (by first | rfl | omega | (simp only [List.length_set, List.length_map, List.length_append, List.length_cons, List.length_nil] <;> omega) | (simp <;> omega)) (by first | rfl | omega | (simp only [List.length_set, List.length_map, List.length_append, List.length_cons, List.length_nil] <;> omega) | (simp <;> omega)) (by first | rfl | omega | (simp only [List.length_set, List.length_map, List.length_append, List.length_cons, List.length_nil] <;> omega) | (simp <;> omega))) rfl ?_)
        (refine nx (a_seql (gd_on rfl rfl rfl rfl (by first | rfl | assumption | (simp; done))) rfl rfl rfl rfl rfl rfl rfl) rfl ?_)
        (refine ⟨_, _, _, aPt (gN rfl) rfl rfl rfl rfl rfl ?hb rfl, rfl, ?_⟩; case hb => (first | rfl | assumption | (simp; done)))
        (refine nx (aA (gN rfl) rfl rfl rfl rfl rfl) rfl ?_)
        show AWp _ _ _ _ _ _ _
        refine aC rfl (fun _ => ?_) (fun h => by have h : decide ((src.take (i + 6)).drop i = neverB) = false := h; rw [u2] at h; cases h)
        refine aR ?_
        (refine nx (aM (gN rfl) rfl rfl rfl rfl rfl) rfl ?_)
        (refine nx (a_add (gN rfl) rfl rfl rfl rfl rfl rfl (by first | omega | (simp only [List.length_map, List.length_append, List.length_cons, List.length_nil] <;> omega) | (simp <;> omega))) rfl ?_)
        (refine nx (aA (gN rfl) rfl rfl rfl rfl rfl) rfl ?_)
        exact ⟨⟨hbl, hp37, by rw [k1, k2]; exact k3, by omega⟩, wk_sub ⟨rfl, rfl, rfl, rfl, rfl, by rw [k1]; rfl, trivial⟩⟩
      | false =>
        rw [hpn] at hcut
        refine awp_mid (lxF src i out c (i + 1) 52 false) ?_ ?_
        · cases u1 : decide (i + 6 ≤ src.length) with
          | true =>
            rw [u1, Bool.true_and] at hcut
            have u3 : i + 6 ≤ src.length := of_decide_eq_true u1
            have g : decide ((i : Int) + 6 ≤ (src.length : Int)) = true := by rw [decide_eq_true_eq]; omega
            refine aR ?_
            (refine nx (aM (gN rfl) rfl rfl rfl rfl rfl) rfl ?_)
            (refine nx (a_add (gN rfl) rfl rfl rfl rfl rfl rfl (by first | omega | (simp only [List.length_map, List.length_append, List.length_cons, List.length_nil] <;> omega) | (simp <;> omega))) rfl ?_)
            (refine nx (aM (gN rfl) rfl rfl rfl rfl rfl) rfl ?_)
            (refine nx (a_slen (gN rfl) rfl rfl rfl rfl rfl rfl rfl) rfl ?_)
            (refine nx (a_leq (gN rfl) rfl rfl rfl rfl rfl rfl) rfl ?_)
            (refine nx (aM (gN rfl) rfl rfl rfl rfl rfl) rfl ?_)
            (refine nx (aM (gd_on rfl rfl rfl rfl (by first | rfl | assumption | (simp; done))) rfl rfl rfl rfl rfl) rfl ?_)
            (refine nx (aM (gd_on rfl rfl rfl rfl (by first | rfl | assumption | (simp; done))) rfl rfl rfl rfl rfl) rfl ?_)
            (refine nx (aM (gd_on rfl rfl rfl rfl (by first | rfl | assumption | (simp; done))) rfl rfl rfl rfl rfl) rfl ?_)
            (refine nx (a_add (gd_on rfl rfl rfl rfl (by first | rfl | assumption | (simp; done))) rfl rfl rfl rfl rfl rfl (by first | omega | (simp only [List.length_map, List.length_append, List.length_cons, List.length_nil] <;> omega) | (simp <;> omega))) rfl ?_)
            (refine nx (a_scut (i) (i + 6) (gd_on rfl rfl rfl rfl (by first | rfl | assumption | (simp; done))) rfl rfl rfl rfl rfl rfl rfl rfl (by first | rfl | omega | (simp only [List.length_set, List.length_map, List.length_append, List.length_cons, List.length_nil] <;> omega) | (simp <;> omega)) (by first | rfl | omega | (simp only [List.length_set, List.length_map, List.length_append, List.length_cons, List.length_nil] <;> omega) | (simp <;> omega)) (by first | rfl | omega | (simp only [List.length_set, List.length_map, List.length_append, List.length_cons, List.length_nil] <;> omega) | (simp <;> omega)) (by first | rfl | omega | (simp only [List.length_set, List.length_map, List.length_append, List.length_cons, List.length_nil] <;> omega) | (simp <;> omega))) rfl ?_)
            (refine nx (a_seql (gd_on rfl rfl rfl rfl (by first | rfl | assumption | (simp; done))) rfl rfl rfl rfl rfl rfl rfl) rfl ?_)
            (refine ⟨_, _, _, aPt (gN rfl) rfl rfl rfl rfl rfl ?hb rfl, rfl, ?_⟩; case hb => (first | rfl | assumption | (simp; done)))
            (refine nx (aA (gN rfl) rfl rfl rfl rfl rfl) rfl ?_)
            exact wk_sub ⟨rfl, rfl, rfl, rfl, rfl, rfl, by rw [hcut]; rfl, trivial⟩
          | false =>
            have u3 : ¬ i + 6 ≤ src.length := of_decide_eq_false u1
            have g : decide ((i : Int) + 6 ≤ (src.length : Int)) = false := by rw [decide_eq_false_iff_not]; omega
            refine aR ?_
            (refine nx (aM (gN rfl) rfl rfl rfl rfl rfl) rfl ?_)
            (refine nx (a_add (gN rfl) rfl rfl rfl rfl rfl rfl (by first | omega | (simp only [List.length_map, List.length_append, List.length_cons, List.length_nil] <;> omega) | (simp <;> omega))) rfl ?_)
            (refine nx (aM (gN rfl) rfl rfl rfl rfl rfl) rfl ?_)
            (refine nx (a_slen (gN rfl) rfl rfl rfl rfl rfl rfl rfl) rfl ?_)
            (refine nx (a_leq (gN rfl) rfl rfl rfl rfl rfl rfl) rfl ?_)
            (refine nx (aM (gN rfl) rfl rfl rfl rfl rfl) rfl ?_)
            (refine ⟨_, _, _, a_off (go_off rfl rfl rfl rfl (by first | rfl | assumption | (simp; done) | (simp [*]; done))) rfl rfl rfl, rfl, ?_⟩)
            (refine ⟨_, _, _, a_off (go_off rfl rfl rfl rfl (by first | rfl | assumption | (simp; done) | (simp [*]; done))) rfl rfl rfl, rfl, ?_⟩)
            (refine ⟨_, _, _, a_off (go_off rfl rfl rfl rfl (by first | rfl | assumption | (simp; done) | (simp [*]; done))) rfl rfl rfl, rfl, ?_⟩)
            (refine ⟨_, _, _, a_off (go_off rfl rfl rfl rfl (by first | rfl | assumption | (simp; done) | (simp [*]; done))) rfl rfl rfl, rfl, ?_⟩)
            (refine ⟨_, _, _, a_off (go_off rfl rfl rfl rfl (by first | rfl | assumption | (simp; done) | (simp [*]; done))) rfl rfl rfl, rfl, ?_⟩)
            (refine ⟨_, _, _, a_off (go_off rfl rfl rfl rfl (by first | rfl | assumption | (simp; done) | (simp [*]; done))) rfl rfl rfl, rfl, ?_⟩)
            (refine ⟨_, _, _, aPf (gN rfl) rfl rfl rfl rfl rfl ?hb rfl, rfl, ?_⟩; case hb => (first | rfl | assumption | (simp; done)))
            (refine nx (aA (gN rfl) rfl rfl rfl rfl rfl) rfl ?_)
            exact wk_sub ⟨rfl, rfl, rfl, rfl, rfl, rfl, rfl, trivial⟩
        refine aC rfl (fun h => by cases h) (fun _ => ?_)
        obtain ⟨hu, hhu⟩ : ∃ hu, hu = Lib.hasPrefix (c :: s) unlB := ⟨_, rfl⟩
        refine awp_mid (lxF src i out c (i + 1) 68 hu) ?_ ?_
        · by_cases h33 : c = 33
          · have g0 : decide ((c.toNat : Int) = 33) = true := by rw [h33]; rfl
            by_cases h1 : i + 1 < src.length
            · obtain ⟨x, hx⟩ : ∃ x, src[i + 1]? = some x := ⟨src[i + 1], List.getElem?_eq_getElem h1⟩
              have hs1 : s = x :: src.drop (i + 2) := by
                rw [hsd, List.drop_eq_getElem_cons h1]
                congr
                rw [List.getElem?_eq_getElem h1] at hx
                exact Option.some.inj hx
              have hv : hu = decide ((x.toNat : Int) = 61) := by
                rw [hhu, h33, hs1, show ((61 : Int)) = ((61 : Nat) : Int) from rfl, u8_eq x 61 (by decide)]
                simp [Lib.hasPrefix, unlB, List.isPrefixOf]
                rw [Bool.eq_iff_iff, beq_iff_eq, decide_eq_true_eq]
                exact eq_comm
              have g : decide (((i + 1 : Nat) : Int) < (src.length : Int)) = true := by rw [decide_eq_true_eq]; omega
              refine aR ?_
              (refine nx (aM (gN rfl) rfl rfl rfl rfl rfl) rfl ?_)
              (refine nx (a_eql (gN rfl) rfl rfl rfl rfl rfl rfl) rfl ?_)
              (refine nx (aM (gN rfl) rfl rfl rfl rfl rfl) rfl ?_)
              (refine nx (aM (gd_on rfl rfl rfl rfl (by first | rfl | assumption | (simp; done))) rfl rfl rfl rfl rfl) rfl ?_)
              (refine nx (aM (gd_on rfl rfl rfl rfl (by first | rfl | assumption | (simp; done))) rfl rfl rfl rfl rfl) rfl ?_)
              (refine nx (a_slen (gd_on rfl rfl rfl rfl (by first | rfl | assumption | (simp; done))) rfl rfl rfl rfl rfl rfl rfl) rfl ?_)
              (refine nx (a_lss (gd_on rfl rfl rfl rfl (by first | rfl | assumption | (simp; done))) rfl rfl rfl rfl rfl rfl) rfl ?_)
              (refine ⟨_, _, _, aPt (gN rfl) rfl rfl rfl rfl rfl ?hb rfl, rfl, ?_⟩; case hb => (first | rfl | assumption | (simp; done)))
              (refine nx (aM (gN rfl) rfl rfl rfl rfl rfl) rfl ?_)
              (refine nx (aM (gd_on rfl rfl rfl rfl (by first | rfl | assumption | (simp; done))) rfl rfl rfl rfl rfl) rfl ?_)
              (refine nx (aM (gd_on rfl rfl rfl rfl (by first | rfl | assumption | (simp; done))) rfl rfl rfl rfl rfl) rfl ?_)
              (refine nx (a_sidx (i + 1) (gd_on rfl rfl rfl rfl (by first | rfl | assumption | (simp; done))) rfl rfl rfl rfl rfl rfl rfl (by first | rfl | omega | (simp only [List.length_set, List.length_map, List.length_append, List.length_cons, List.length_nil] <;> omega) | (simp <;> omega)) (hx)) rfl ?_)
              (refine nx (a_eql (gd_on rfl rfl rfl rfl (by first | rfl | assumption | (simp; done))) rfl rfl rfl rfl rfl rfl) rfl ?_)
              (refine ⟨_, _, _, aPt (gN rfl) rfl rfl rfl rfl rfl ?hb rfl, rfl, ?_⟩; case hb => (first | rfl | assumption | (simp; done)))
              (refine nx (aA (gN rfl) rfl rfl rfl rfl rfl) rfl ?_)
              exact wk_sub ⟨rfl, rfl, rfl, rfl, rfl, rfl, by rw [hv]; rfl, trivial⟩
            · have hs1 : s = [] := by rw [hsd, List.drop_eq_nil_iff]; omega
              have hv : hu = false := by rw [hhu, h33, hs1]; rfl
              have g : decide (((i + 1 : Nat) : Int) < (src.length : Int)) = false := by rw [decide_eq_false_iff_not]; omega
              refine aR ?_
              (refine nx (aM (gN rfl) rfl rfl rfl rfl rfl) rfl ?_)
              (refine nx (a_eql (gN rfl) rfl rfl rfl rfl rfl rfl) rfl ?_)
              (refine nx (aM (gN rfl) rfl rfl rfl rfl rfl) rfl ?_)
              (refine nx (aM (gd_on rfl rfl rfl rfl (by first | rfl | assumption | (simp; done))) rfl rfl rfl rfl rfl) rfl ?_)
              (refine nx (aM (gd_on rfl rfl rfl rfl (by first | rfl | assumption | (simp; done))) rfl rfl rfl rfl rfl) rfl ?_)
              (refine nx (a_slen (gd_on rfl rfl rfl rfl (by first | rfl | assumption | (simp; done))) rfl rfl rfl rfl rfl rfl rfl) rfl ?_)
              (refine nx (a_lss (gd_on rfl rfl rfl rfl (by first | rfl | assumption | (simp; done))) rfl rfl rfl rfl rfl rfl) rfl ?_)
              (refine ⟨_, _, _, aPt (gN rfl) rfl rfl rfl rfl rfl ?hb rfl, rfl, ?_⟩; case hb => (first | rfl | assumption | (simp; done)))
              (refine nx (aM (gN rfl) rfl rfl rfl rfl rfl) rfl ?_)
              (refine ⟨_, _, _, a_off (go_off rfl rfl rfl rfl (by first | rfl | assumption | (simp; done) | (simp [*]; done))) rfl rfl rfl, rfl, ?_⟩)
              (refine ⟨_, _, _, a_off (go_off rfl rfl rfl rfl (by first | rfl | assumption | (simp; done) | (simp [*]; done))) rfl rfl rfl, rfl, ?_⟩)
              (refine ⟨_, _, _, a_off (go_off rfl rfl rfl rfl (by first | rfl | assumption | (simp; done) | (simp [*]; done))) rfl rfl rfl, rfl, ?_⟩)
              (refine ⟨_, _, _, a_off (go_off rfl rfl rfl rfl (by first | rfl | assumption | (simp; done) | (simp [*]; done))) rfl rfl rfl, rfl, ?_⟩)
              (refine ⟨_, _, _, aPf (gN rfl) rfl rfl rfl rfl rfl ?hb rfl, rfl, ?_⟩; case hb => (first | rfl | assumption | (simp; done)))
              (refine nx (aA (gN rfl) rfl rfl rfl rfl rfl) rfl ?_)
              exact wk_sub ⟨rfl, rfl, rfl, rfl, rfl, rfl, by rw [hv]; rfl, trivial⟩
          · have g0 : decide ((c.toNat : Int) = 33) = false := by
              rw [decide_eq_false_iff_not]
              intro e
              exact h33 (u8_of (n := 33) (by decide) e)
            have hv : hu = false := by
              rw [hhu]
              simp [Lib.hasPrefix, unlB, List.isPrefixOf]
              intro e
              exact absurd e.symm h33
            refine aR ?_
            (refine nx (aM (gN rfl) rfl rfl rfl rfl rfl) rfl ?_)
            (refine nx (a_eql (gN rfl) rfl rfl rfl rfl rfl rfl) rfl ?_)
            (refine nx (aM (gN rfl) rfl rfl rfl rfl rfl) rfl ?_)
            (refine ⟨_, _, _, a_off (go_off rfl rfl rfl rfl (by first | rfl | assumption | (simp; done) | (simp [*]; done))) rfl rfl rfl, rfl, ?_⟩)
            (refine ⟨_, _, _, a_off (go_off rfl rfl rfl rfl (by first | rfl | assumption | (simp; done) | (simp [*]; done))) rfl rfl rfl, rfl, ?_⟩)
            (refine ⟨_, _, _, a_off (go_off rfl rfl rfl rfl (by first | rfl | assumption | (simp; done) | (simp [*]; done))) rfl rfl rfl, rfl, ?_⟩)
            (refine ⟨_, _, _, a_off (go_off rfl rfl rfl rfl (by first | rfl | assumption | (simp; done) | (simp [*]; done))) rfl rfl rfl, rfl, ?_⟩)
            (refine ⟨_, _, _, aPf (gN rfl) rfl rfl rfl rfl rfl ?hb rfl, rfl, ?_⟩; case hb => (first | rfl | assumption | (simp; done)))
            (refine nx (aM (gN rfl) rfl rfl rfl rfl rfl) rfl ?_)
            (refine ⟨_, _, _, a_off (go_off rfl rfl rfl rfl (by first | rfl | assumption | (simp; done) | (simp [*]; done))) rfl rfl rfl, rfl, ?_⟩)
            (refine ⟨_, _, _, a_off (go_off rfl rfl rfl rfl (by first | rfl | assumption | (simp; done) | (simp [*]; done))) rfl rfl rfl, rfl, ?_⟩)
            (refine ⟨_, _, _, a_off (go_off rfl rfl rfl rfl (by first | rfl | assumption | (simp; done) | (simp [*]; done))) rfl rfl rfl, rfl, ?_⟩)
            (refine ⟨_, _, _, a_off (go_off rfl rfl rfl rfl (by first | rfl | assumption | (simp; done) | (simp [*]; done))) rfl rfl rfl, rfl, ?_⟩)
            (refine ⟨_, _, _, aPf (gN rfl) rfl rfl rfl rfl rfl ?hb rfl, rfl, ?_⟩; case hb => (first | rfl | assumption | (simp; done)))
            (refine nx (aA (gN rfl) rfl rfl rfl rfl rfl) rfl ?_)
            exact wk_sub ⟨rfl, rfl, rfl, rfl, rfl, rfl, by rw [hv]; rfl, trivial⟩
        cases hu with
        | true =>
          obtain ⟨t, ht⟩ := List.isPrefixOf_iff_prefix.1 hhu.symm
          have h2 : c :: s = 33 :: 61 :: t := ht.symm
          rw [h2] at hpn
          obtain ⟨k1, k2⟩ := tk_unl hpn
          rw [← h2, ← hk] at k1
          refine aC rfl (fun _ => ?_) (fun h => by cases h)
          refine aR ?_
          (refine nx (aM (gN rfl) rfl rfl rfl rfl rfl) rfl ?_)
          (refine nx (a_add (gN rfl) rfl rfl rfl rfl rfl rfl (by first | omega | (simp only [List.length_map, List.length_append, List.length_cons, List.length_nil] <;> omega) | (simp <;> omega))) rfl ?_)
          (refine nx (aA (gN rfl) rfl rfl rfl rfl rfl) rfl ?_)
          exact ⟨⟨hbl, hp37, by rw [k1, h2]; exact k2, by omega⟩, wk_sub ⟨rfl, rfl, rfl, rfl, rfl, by rw [k1]; rfl, trivial⟩⟩
        | false =>
          obtain ⟨k1, k2, k3⟩ := tk_one hl hpn hhu.symm
          rw [← hk] at k1
          refine aC rfl (fun h => by cases h) (fun _ => ?_)
          refine aS (aR ?_)
          (refine nx (aM (gN rfl) rfl rfl rfl rfl rfl) rfl ?_)
          (refine nx (a_call (gN rfl) rfl rfl rfl rfl rfl (i3)) rfl ?_)
          (refine nx (a_not (gN rfl) rfl rfl rfl rfl rfl) rfl ?_)
          (refine nx (aA (gN rfl) rfl rfl rfl rfl rfl) rfl ?_)
          show AWp _ _ _ _ _ _ _
          refine aC rfl (fun hg => ?_) (fun hg => aK ?_)
          · have hg : (!decide (c ∈ sgnB)) = true := hg
            have hD : rD = ([], false) := by
              rw [hrD]
              unfold lexD
              rw [if_neg]
              intro hall
              have hm : [c] ∈ toks src := by
                rw [← htk, hr, toks_tok hbl hp37, ← hk, k1, k2]
                simp
              have := List.all_eq_true.1 hall _ hm
              rw [k3] at this
              rw [this] at hg
              cases hg
            refine aS (aR ?_)
            (refine nx (aA (gN rfl) rfl rfl rfl rfl rfl) rfl ?_)
            (refine nx (aA (gN rfl) rfl rfl rfl rfl rfl) rfl ?_)
            show AWp _ _ _ _ _ _ _
            refine aT (And.intro (.inr rfl) ?_)
            rw [hD]
            rfl
          · have hg : (!decide (c ∈ sgnB)) = false := hg
            exact ⟨⟨hbl, hp37, by rw [k1, k2, k3]; simpa using hg, by omega⟩, wk_sub ⟨rfl, rfl, rfl, rfl, rfl, by rw [k1]; rfl, trivial⟩⟩
    rintro ⟨hbl, hp37, hokk, hk1⟩
    have hcut : (src.take (i + k)).drop i = (c :: s).take k := by rw [List.drop_take, hr, show i + k - i = k by omega]
    refine aS (aR ?_)
    (refine nx (aM (gN rfl) rfl rfl rfl rfl rfl) rfl ?_)
    (refine nx (aM (gN rfl) rfl rfl rfl rfl rfl) rfl ?_)
    (refine nx (aM (gN rfl) rfl rfl rfl rfl rfl) rfl ?_)
    (refine nx (aM (gN rfl) rfl rfl rfl rfl rfl) rfl ?_)
    (refine nx (a_scut (i) (i + k) (gN rfl) rfl rfl rfl rfl rfl rfl rfl rfl (by first | rfl | omega | (simp only [List.length_set, List.length_map, List.length_append, List.length_cons, List.length_nil] <;> omega) | (simp <;> omega)) (by first | rfl | omega | (simp only [List.length_set, List.length_map, List.length_append, List.length_cons, List.length_nil] <;> omega) | (simp <;> omega)) (by first | rfl | omega | (simp only [List.length_set, List.length_map, List.length_append, List.length_cons, List.length_nil] <;> omega) | (simp <;> omega)) (by first | rfl | omega | (simp only [List.length_set, List.length_map, List.length_append, List.length_cons, List.length_nil] <;> omega) | (simp <;> omega))) rfl ?_)
    (refine nx (a_bslice (gN rfl) rfl rfl rfl rfl rfl rfl rfl rfl rfl rfl rfl rfl rfl) rfl ?_)
    (refine nx (a_app (gN rfl) rfl rfl rfl rfl rfl rfl rfl rfl rfl rfl rfl rfl rfl rfl rfl (by first | assumption | exact sZ rfl | exact Tm.size_all _ | exact Bd.size_all _ | exact ints_size _ | exact bys_size _ | exact Lt.size_all _) (by first | assumption | exact sZ rfl | exact Tm.size_all _ | exact Bd.size_all _ | exact ints_size _ | exact bys_size _ | exact Lt.size_all _) (by first | omega | (simp only [List.length_map, List.length_append, List.length_cons, List.length_nil] <;> omega) | (simp <;> omega))) rfl ?_)
    (refine nx (aA (gN rfl) rfl rfl rfl rfl rfl) rfl ?_)
    show AWp _ _ _ _ _ _ _
    refine aR ?_
    (refine nx (aM (gN rfl) rfl rfl rfl rfl rfl) rfl ?_)
    (refine nx (aA (gN rfl) rfl rfl rfl rfl rfl) rfl ?_)
    refine ⟨src.length - (i + k), lxS src (i + k) (out ++ [(c :: s).take k]), by omega, ⟨i + k, out ++ [(c :: s).take k], rfl, by omega, by rw [List.length_append]; simp; omega, ?_, ?_, rfl⟩, Wk.trans (wk_sub (s' := [(0, .val (sv src)), (4, .own (.lst ((out ++ [(c :: s).take k]).map sv)) 300095), (300095, .tok 9 1), (5, .val (.i ((i + k : Nat) : Int)))]) ⟨rfl, ?_, rfl, rfl, trivial⟩) (wk_ren 300095 200095 rfl rfl rfl rfl)⟩
    · rw [← htk, hr, toks_tok hbl hp37, ← hk, ← List.drop_drop, hr]
      simp
    · intro x hx
      rcases List.mem_append.1 hx with hx | hx
      · exact hok x hx
      · rw [List.mem_singleton.1 hx]; exact hokk
    · rw [List.map_append, ← hcut]
      rfl
  · have hkl : i = src.length := by
      have hlt : decide ((i : Int) < (src.length : Int)) = false := hlt
      have := of_decide_eq_false hlt
      omega
    rw [hkl, List.drop_length, toks_nil, List.append_nil] at htk
    refine aE ?_
    show AWp _ _ _ _ _ _ _
    refine aS (aR ?_)
    (refine nx (aM (gN rfl) rfl rfl rfl rfl rfl) rfl ?_)
    (refine nx (a_bslice (gN rfl) rfl rfl rfl rfl rfl rfl rfl rfl rfl rfl rfl rfl rfl) rfl ?_)
    (refine nx (a_app (gN rfl) rfl rfl rfl rfl rfl rfl rfl rfl rfl rfl rfl rfl rfl rfl rfl (by first | assumption | exact sZ rfl | exact Tm.size_all _ | exact Bd.size_all _ | exact ints_size _ | exact bys_size _ | exact Lt.size_all _) (by first | assumption | exact sZ rfl | exact Tm.size_all _ | exact Bd.size_all _ | exact ints_size _ | exact bys_size _ | exact Lt.size_all _) (by first | omega | (simp only [List.length_map, List.length_append, List.length_cons, List.length_nil] <;> omega) | (simp <;> omega))) rfl ?_)
    (refine nx (aA (gN rfl) rfl rfl rfl rfl rfl) rfl ?_)
    (refine nx (aA (gN rfl) rfl rfl rfl rfl rfl) rfl ?_)
    show AWp _ _ _ _ _ _ _
    have hD : rD = (out ++ [[]], true) := by
      rw [hrD]
      unfold lexD
      rw [← htk, if_pos (List.all_eq_true.2 hok)]
    refine aT (And.intro (.inr rfl) ?_)
    rw [hD, List.map_append]
    rfl
end Go.Proofs.YtglbohajmccehaaDoor

-- @STR@
namespace Go.Proofs.YtglbohajmccehaaDoor
open Go.RowKit
set_option linter.unusedVariables false
set_option linter.unusedSimpArgs false
set_option maxRecDepth 100000

noncomputable abbrev rdS (L : List By) (I : Nat) (bad : Bool) (g : Sg) (vs : List By) : AS := [(450001, .obj), (35500100, .val (.lst (L.map sv))), (35500101, .val (.i (I : Int))), (35500102, .val (.b bad)), (35500103, .sl 300001 0 g.nm.length 1), (35500104, .sl 300002 0 g.ar.length 1), (35500105, .sl 300003 0 g.pr.length 1), (35500106, .sl 300004 0 vs.length 1), (300001, .mrow 9 1 (g.nm.map sv)), (300002, .mrow 3 1 (g.ar.map iv)), (300003, .mrow 4 1 (g.pr.map bv)), (300004, .mrow 9 1 (vs.map sv))]
-- 
set_option maxHeartbeats 1000000 in
theorem is12_abs (L : List By) (I : Nat) (bad : Bool) (g : Sg) (vs : List By) (s x : By) (hx : L[I]? = some x) : AFunO Tryd.prog 16 (rdS L I bad g vs) [.bp 350001 0 [], .val (sv s)] (.val (.b (!bad && decide (x = s)))) (rdS L I bad g vs) := by
  have hx' := sv_at hx
  have hsv := svs_size L
  refine afunO_of Tryd.func16 Tryd.ntmps16 rfl rfl rfl rfl rfl rfl ?_
  intro w U hU
  refine aS (aR ?_)
  (refine nx (aA (gN rfl) rfl rfl rfl rfl rfl) rfl ?_)
  show AWp _ _ _ _ _ _ _
  cases bad with
  | true =>
    refine aS (aD (by kernel_rfl) (by kernel_rfl) ?_)
    (refine nx (aM (gN rfl) rfl rfl rfl rfl rfl) rfl ?_)
    (refine nx (aNc (gN rfl) rfl rfl rfl rfl rfl) rfl ?_)
    (refine nx (aF (gN rfl) rfl rfl rfl rfl rfl rfl rfl rfl rfl) rfl ?_)
    (refine nx (aLf (gN rfl) rfl rfl rfl rfl rfl rfl rfl rfl rfl rfl rfl rfl rfl) rfl ?_)
    (refine nx (a_not (gN rfl) rfl rfl rfl rfl rfl) rfl ?_)
    (refine nx (aM (gN rfl) rfl rfl rfl rfl rfl) rfl ?_)
    (refine ⟨_, _, _, a_off (go_off rfl rfl rfl rfl (by first | rfl | assumption | (simp; done) | (simp [*]; done))) rfl rfl rfl, rfl, ?_⟩)
    (refine ⟨_, _, _, a_off (go_off rfl rfl rfl rfl (by first | rfl | assumption | (simp; done) | (simp [*]; done))) rfl rfl rfl, rfl, ?_⟩)
    (refine ⟨_, _, _, a_off (go_off rfl rfl rfl rfl (by first | rfl | assumption | (simp; done) | (simp [*]; done))) rfl rfl rfl, rfl, ?_⟩)
    (refine ⟨_, _, _, a_off (go_off rfl rfl rfl rfl (by first | rfl | assumption | (simp; done) | (simp [*]; done))) rfl rfl rfl, rfl, ?_⟩)
    (refine ⟨_, _, _, a_off (go_off rfl rfl rfl rfl (by first | rfl | assumption | (simp; done) | (simp [*]; done))) rfl rfl rfl, rfl, ?_⟩)
    (refine ⟨_, _, _, a_off (go_off rfl rfl rfl rfl (by first | rfl | assumption | (simp; done) | (simp [*]; done))) rfl rfl rfl, rfl, ?_⟩)
    (refine ⟨_, _, _, a_off (go_off rfl rfl rfl rfl (by first | rfl | assumption | (simp; done) | (simp [*]; done))) rfl rfl rfl, rfl, ?_⟩)
    (refine ⟨_, _, _, a_off (go_off rfl rfl rfl rfl (by first | rfl | assumption | (simp; done) | (simp [*]; done))) rfl rfl rfl, rfl, ?_⟩)
    (refine ⟨_, _, _, a_off (go_off rfl rfl rfl rfl (by first | rfl | assumption | (simp; done) | (simp [*]; done))) rfl rfl rfl, rfl, ?_⟩)
    (refine ⟨_, _, _, a_off (go_off rfl rfl rfl rfl (by first | rfl | assumption | (simp; done) | (simp [*]; done))) rfl rfl rfl, rfl, ?_⟩)
    (refine ⟨_, _, _, a_off (go_off rfl rfl rfl rfl (by first | rfl | assumption | (simp; done) | (simp [*]; done))) rfl rfl rfl, rfl, ?_⟩)
    (refine ⟨_, _, _, a_off (go_off rfl rfl rfl rfl (by first | rfl | assumption | (simp; done) | (simp [*]; done))) rfl rfl rfl, rfl, ?_⟩)
    (refine ⟨_, _, _, aPf (gN rfl) rfl rfl rfl rfl rfl ?hb rfl, rfl, ?_⟩; case hb => (first | rfl | assumption | (simp; done)))
    (refine nx (aA (gN rfl) rfl rfl rfl rfl rfl) rfl ?_)
    refine ⟨by kernel_rfl, ?_⟩
    show AWp _ _ _ _ _ _ _
    exact aT ⟨.inr rfl, _, Wk.refl _, rfl, rfl, rfl, rfl, rfl, rfl, rfl, rfl, rfl, rfl, rfl, rfl, rfl, trivial⟩
  | false =>
    refine aS (aD (by kernel_rfl) (by kernel_rfl) ?_)
    (refine nx (aM (gN rfl) rfl rfl rfl rfl rfl) rfl ?_)
    (refine nx (aNc (gN rfl) rfl rfl rfl rfl rfl) rfl ?_)
    (refine nx (aF (gN rfl) rfl rfl rfl rfl rfl rfl rfl rfl rfl) rfl ?_)
    (refine nx (aLf (gN rfl) rfl rfl rfl rfl rfl rfl rfl rfl rfl rfl rfl rfl rfl) rfl ?_)
    (refine nx (a_not (gN rfl) rfl rfl rfl rfl rfl) rfl ?_)
    (refine nx (aM (gN rfl) rfl rfl rfl rfl rfl) rfl ?_)
    (refine nx (aM (gd_on rfl rfl rfl rfl (by first | rfl | assumption | (simp; done))) rfl rfl rfl rfl rfl) rfl ?_)
    (refine nx (aNc (gd_on rfl rfl rfl rfl (by first | rfl | assumption | (simp; done))) rfl rfl rfl rfl rfl) rfl ?_)
    (refine nx (aF (gd_on rfl rfl rfl rfl (by first | rfl | assumption | (simp; done))) rfl rfl rfl rfl rfl rfl rfl rfl rfl) rfl ?_)
    (refine nx (aLf (gd_on rfl rfl rfl rfl (by first | rfl | assumption | (simp; done))) rfl rfl rfl rfl rfl rfl rfl rfl rfl rfl rfl rfl rfl) rfl ?_)
    (refine nx (aM (gd_on rfl rfl rfl rfl (by first | rfl | assumption | (simp; done))) rfl rfl rfl rfl rfl) rfl ?_)
    (refine nx (aNc (gd_on rfl rfl rfl rfl (by first | rfl | assumption | (simp; done))) rfl rfl rfl rfl rfl) rfl ?_)
    (refine nx (aF (gd_on rfl rfl rfl rfl (by first | rfl | assumption | (simp; done))) rfl rfl rfl rfl rfl rfl rfl rfl rfl) rfl ?_)
    (refine nx (aLf (gd_on rfl rfl rfl rfl (by first | rfl | assumption | (simp; done))) rfl rfl rfl rfl rfl rfl rfl rfl rfl rfl rfl rfl rfl) rfl ?_)
    (refine nx (a_index (j := I) (gd_on rfl rfl rfl rfl (by first | rfl | assumption | (simp; done))) rfl rfl rfl rfl rfl rfl rfl rfl rfl (hx') rfl (hsv)) rfl ?_)
    (refine nx (a_load_ad (gd_on rfl rfl rfl rfl (by first | rfl | assumption | (simp; done))) rfl rfl rfl rfl rfl rfl rfl rfl rfl) rfl ?_)
    (refine nx (aM (gd_on rfl rfl rfl rfl (by first | rfl | assumption | (simp; done))) rfl rfl rfl rfl rfl) rfl ?_)
    (refine nx (a_seql (gd_on rfl rfl rfl rfl (by first | rfl | assumption | (simp; done))) rfl rfl rfl rfl rfl rfl rfl) rfl ?_)
    (refine ⟨_, _, _, aPt (gN rfl) rfl rfl rfl rfl rfl ?hb rfl, rfl, ?_⟩; case hb => (first | rfl | assumption | (simp; done)))
    (refine nx (aA (gN rfl) rfl rfl rfl rfl rfl) rfl ?_)
    refine ⟨by kernel_rfl, ?_⟩
    show AWp _ _ _ _ _ _ _
    exact aT ⟨.inr rfl, _, Wk.refl _, rfl, rfl, rfl, rfl, rfl, rfl, rfl, rfl, rfl, rfl, rfl, rfl, rfl, trivial⟩
-- 
set_option maxHeartbeats 1000000 in
theorem take12_no (L : List By) (I : Nat) (bad : Bool) (g : Sg) (vs : List By) (s x : By) (hx : L[I]? = some x) (h : (!bad && decide (x = s)) = false) : AFunO Tryd.prog 17 (rdS L I bad g vs) [.bp 350001 0 [], .val (sv s)] (.tup []) (rdS L I true g vs) := by
  have h1 := is12_abs L I bad g vs s x hx
  rw [h] at h1
  refine afunO_of Tryd.func17 Tryd.ntmps17 rfl rfl rfl rfl rfl rfl ?_
  intro w U hU
  refine aS (aS (aR ?_))
  (refine nx (aM (gN rfl) rfl rfl rfl rfl rfl) rfl ?_)
  (refine nx (aM (gN rfl) rfl rfl rfl rfl rfl) rfl ?_)
  (refine nx (a_callO (gN rfl) rfl rfl rfl rfl rfl (h1) (by repeat (first | exact trivial | refine ⟨rfl, ?_⟩)) (by first | rfl | kernel_rfl) (by first | rfl | kernel_rfl) (by first | rfl | kernel_rfl) (by first | rfl | kernel_rfl) (hnb_of (by first | rfl | kernel_rfl))) rfl ?_)
  (refine nx (a_not (gN rfl) rfl rfl rfl rfl rfl) rfl ?_)
  show AWp _ _ _ _ _ _ _
  refine aC rfl (fun _ => ?_) (fun h => by cases h)
  refine aS (aR ?_)
  (refine nx (aM (gN rfl) rfl rfl rfl rfl rfl) rfl ?_)
  (refine nx (aNc (gN rfl) rfl rfl rfl rfl rfl) rfl ?_)
  (refine nx (aF (gN rfl) rfl rfl rfl rfl rfl rfl rfl rfl rfl) rfl ?_)
  (refine nx (a_store_fld (gN rfl) rfl rfl rfl rfl rfl rfl rfl rfl rfl rfl rfl rfl) rfl ?_)
  show AWp _ _ _ _ _ _ _
  exact aT ⟨.inr rfl, _, Wk.refl _, rfl, rfl, rfl, rfl, rfl, rfl, rfl, rfl, rfl, rfl, rfl, rfl, rfl, trivial⟩
set_option maxHeartbeats 1000000 in
theorem take12_yes (L : List By) (I : Nat) (g : Sg) (vs : List By) (s : By) (hx : L[I]? = some s) (hI : I ≤ 1000000) : AFunO Tryd.prog 17 (rdS L I false g vs) [.bp 350001 0 [], .val (sv s)] (.tup []) (rdS L (I + 1) false g vs) := by
  have h1 := is12_abs L I false g vs s s hx
  rw [show (!false && decide (s = s)) = true by simp] at h1
  refine afunO_of Tryd.func17 Tryd.ntmps17 rfl rfl rfl rfl rfl rfl ?_
  intro w U hU
  refine aS (aS (aR ?_))
  (refine nx (aM (gN rfl) rfl rfl rfl rfl rfl) rfl ?_)
  (refine nx (aM (gN rfl) rfl rfl rfl rfl rfl) rfl ?_)
  (refine nx (a_callO (gN rfl) rfl rfl rfl rfl rfl (h1) (by repeat (first | exact trivial | refine ⟨rfl, ?_⟩)) (by first | rfl | kernel_rfl) (by first | rfl | kernel_rfl) (by first | rfl | kernel_rfl) (by first | rfl | kernel_rfl) (hnb_of (by first | rfl | kernel_rfl))) rfl ?_)
  (refine nx (a_not (gN rfl) rfl rfl rfl rfl rfl) rfl ?_)
  show AWp _ _ _ _ _ _ _
  refine aC rfl (fun h => by cases h) (fun _ => aK ?_)
  show AWp _ _ _ _ _ _ _
  refine aR ?_
  (refine nx (aM (gN rfl) rfl rfl rfl rfl rfl) rfl ?_)
  (refine nx (aNc (gN rfl) rfl rfl rfl rfl rfl) rfl ?_)
  (refine nx (aF (gN rfl) rfl rfl rfl rfl rfl rfl rfl rfl rfl) rfl ?_)
  (refine nx (aLf (gN rfl) rfl rfl rfl rfl rfl rfl rfl rfl rfl rfl rfl rfl rfl) rfl ?_)
  (refine nx (a_add (gN rfl) rfl rfl rfl rfl rfl rfl (by first | omega | (simp only [List.length_map, List.length_append, List.length_cons, List.length_nil] <;> omega) | (simp <;> omega))) rfl ?_)
  (refine nx (aNc (gN rfl) rfl rfl rfl rfl rfl) rfl ?_)
  (refine nx (aF (gN rfl) rfl rfl rfl rfl rfl rfl rfl rfl rfl) rfl ?_)
  (refine nx (a_store_fld (gN rfl) rfl rfl rfl rfl rfl rfl rfl rfl rfl rfl rfl rfl) rfl ?_)
  exact ⟨.inl rfl, _, Wk.refl _, rfl, rfl, rfl, rfl, rfl, rfl, rfl, rfl, rfl, rfl, rfl, rfl, rfl, trivial⟩
end Go.Proofs.YtglbohajmccehaaDoor

