/-
  PrTop PsRd PsLex PsLex2 PsApp PsGr PsLex3 PsWf PsCk PsOk PsTwo PrTw PrTw2 PrTx PsParse PsAlive PsRight2 PsRefR PsGood PsSame AbRowO AbKind CodeMath CodeLen CodePut CodePutMore RefSame CodeRef CodeAlive CodeReadMath CodeRead CodeUint CodeText CodeBackMath ClBy ClCode ClPut ClGet ClGet2 ClA ClB PsLaw3 PrCom PrLex
-/
import Derived.Test.YtebhbnhijnpmcaaGreatDoorMg5
import Derived.Test.YtebhbnhijnpmcaaGreatDoorMg4
import Derived.Test.YtebhbnhijnpmcaaGreatDoorMg3
import Derived.Test.YtebhbnhijnpmcaaGreatDoorMg2
import Derived.WalkKit
import Derived.Test.YtebhbnhijnpmcaaGreatDoorChecked
import Derived.WalkLawsBesides
import Derived.WalkSpells
import Derived.Test.YtebhbnhijnpmcaaGreatDoorMg1
import Derived.Laws.BitsAllLaws
import Derived.Deep.QuietTactic
import Derived.BigQuiet
import Derived.Laws.BytesArg
import Derived.Test.YtebhbnhijnpmcaaGreatDoorPrShelf
-- @STR@
namespace Go.Proofs.YtebhbnhijnpmcaaGreatDoor
open Go.RowKit
set_option linter.unusedVariables false
set_option linter.unusedSimpArgs false
set_option maxRecDepth 100000

theorem wsE_leave (nm : List By) (o : Option By) : (wsE nm o).all (leaveB (kO (wsE nm o))) = true := by kernel_rfl
-- 
set_option maxHeartbeats 1000000 in
theorem prCls_abs (tb : Option (Nat × Obj)) (N : Nat) (hI : ItoaN tb N) (s : Sg) (hnm : s.nm.length ≤ 1000000) (c : List Lt) (hcl : c.length ≤ 1000000) (hk : ∀ l ∈ c, l.nk N s.nm.length) (hl : (txC s.nm c).length ≤ 1000000000) : AFunT Tryz.prog tb 13 [sgv s, lcv c] (.val (sv (txC s.nm c))) := by
  have p1 := clsW_abs tb N hI s.nm hnm c none hcl hk (by simpa using hl)
  have p2 := str_abs tb s.nm (some ((none : Option By).getD [] ++ txC s.nm c))
  refine afunQ_of (rs := [sv (txC s.nm c)]) Tryz.func13 Tryz.ntmps13 rfl rfl rfl rfl ?_
  intro w U hW hq
  have hT := Tb.of hW hq
  refine aS (aR ?_)
  (refine nx (a_box (gN rfl) rfl rfl rfl rfl rfl) rfl ?_)
  (refine nx (aA (gN rfl) rfl rfl rfl rfl rfl) rfl ?_)
  show AWp _ _ _ _ _ _ _
  refine aS (aR ?_)
  (refine nx (aF (gN rfl) rfl rfl rfl rfl rfl rfl rfl rfl rfl) rfl ?_)
  (refine nx (aLb (gN rfl) rfl rfl rfl rfl rfl rfl rfl rfl rfl rfl rfl rfl) rfl ?_)
  (refine nx (a_buildW (gN rfl) rfl rfl rfl rfl rfl rfl rfl rfl rfl) rfl ?_)
  (refine nx (a_allocW (gN rfl) rfl rfl rfl rfl rfl rfl (fun v h => by first | (rw [hW.1] at h; cases h) | (have h2 := hU _ v h; cases h2))) rfl ?_)
  (refine nx (a_storeW (gN rfl) rfl rfl rfl rfl rfl rfl rfl rfl) rfl ?_)
  show AWp _ _ _ _ _ _ _
  refine AWp.wk (wk_sub (s' := (5, .bp 350001 0 []) :: (1, .val (lcv c)) :: wst s.nm none) ⟨rfl, rfl, rfl, rfl, rfl, rfl, rfl, trivial⟩) ?_
  refine aS (aR ?_)
  (refine nx (aM (gN rfl) rfl rfl rfl rfl rfl) rfl ?_)
  (refine nx (a_callOT hT (gN rfl) rfl rfl rfl rfl rfl (p1) (by repeat (first | exact trivial | refine ⟨rfl, ?_⟩)) (wst_lend _ _) (wst_leave _ _) (by first | rfl | kernel_rfl) (by first | rfl | kernel_rfl) (hnb_of (by first | rfl | kernel_rfl))) (by kernel_rfl) ?_)
  show AWp _ _ _ _ _ _ _
  refine aS (aR ?_)
  (refine nx (aF (gN rfl) rfl rfl rfl rfl rfl rfl rfl rfl rfl) rfl ?_)
  (refine nx (a_callOT hT (gN rfl) rfl rfl rfl rfl rfl (p2) (by repeat (first | exact trivial | refine ⟨rfl, ?_⟩)) (wst_lend _ _) (wsE_leave _ _) (by first | rfl | kernel_rfl) (by first | rfl | kernel_rfl) (hnb_of (by first | rfl | kernel_rfl))) (by kernel_rfl) ?_)
  (refine nx (aA (gN rfl) rfl rfl rfl rfl rfl) rfl ?_)
  show AWp _ _ _ _ _ _ _
  exact aT (And.intro (.inr rfl) rfl)
def allO (nm : List By) (l : List (List Lt)) (k : Nat) : Option By := if k = 0 then none else some (txA nm (l.take k))
theorem allO_getD (nm : List By) (l : List (List Lt)) (k : Nat) : (allO nm l k).getD [] = txA nm (l.take k) := by
  unfold allO
  split
  · rename_i e; subst e; rfl
  · rfl
theorem txA_take {nm : List By} {l : List (List Lt)} {k : Nat} {c : List Lt} (h : l[k]? = some c) : txA nm (l.take (k + 1)) = txA nm (l.take k) ++ txC nm c ++ [46, 10] := by
  unfold txA
  rw [List.take_add_one, h, List.flatMap_append]
  simp
theorem txA_take_le (nm : List By) (l : List (List Lt)) (k : Nat) : (txA nm (l.take k)).length ≤ (txA nm l).length := by
  have h : txA nm l = txA nm (l.take k) ++ txA nm (l.drop k) := by unfold txA; rw [← List.flatMap_append, List.take_append_drop]
  rw [h, List.length_append]
  omega
theorem lcvs_size (l : List (List Lt)) : ∀ c ∈ l.map lcv, c.size = 1 := by
  intro c hc
  obtain ⟨t, _, rfl⟩ := List.mem_map.1 hc
  rfl
theorem lcv_at {l : List (List Lt)} {i : Nat} {t : List Lt} (h : l[i]? = some t) : (l.map lcv)[i]? = some (lcv t) := by rw [List.getElem?_map, h]; rfl
-- 
set_option maxHeartbeats 1000000 in
theorem prAll_abs (tb : Option (Nat × Obj)) (N : Nat) (hI : ItoaN tb N) (s : Sg) (hnm : s.nm.length ≤ 1000000) (l : List (List Lt)) (hll : l.length ≤ 1000000) (hcl : ∀ c ∈ l, c.length ≤ 1000000 ∧ ∀ x ∈ c, x.nk N s.nm.length) (hl : (txA s.nm l).length ≤ 1000000000) : AFunT Tryz.prog tb 6 [sgv s, .lst (l.map lcv)] (.val (sv (txA s.nm l))) := by
  have hsz := lcvs_size l
  have hln : (l.map lcv).length = l.length := List.length_map ..
  refine afunQ_of (rs := [sv (txA s.nm l)]) Tryz.func6 Tryz.ntmps6 rfl rfl rfl rfl ?_
  intro w U hW hq
  have hT := Tb.of hW hq
  refine aS (aR ?_)
  (refine nx (a_box (gN rfl) rfl rfl rfl rfl rfl) rfl ?_)
  (refine nx (aA (gN rfl) rfl rfl rfl rfl rfl) rfl ?_)
  show AWp _ _ _ _ _ _ _
  refine aS (aR ?_)
  (refine nx (aF (gN rfl) rfl rfl rfl rfl rfl rfl rfl rfl rfl) rfl ?_)
  (refine nx (aLb (gN rfl) rfl rfl rfl rfl rfl rfl rfl rfl rfl rfl rfl rfl) rfl ?_)
  (refine nx (a_buildW (gN rfl) rfl rfl rfl rfl rfl rfl rfl rfl rfl) rfl ?_)
  (refine nx (a_allocW (gN rfl) rfl rfl rfl rfl rfl rfl (fun v h => by first | (rw [hW.1] at h; cases h) | (have h2 := hU _ v h; cases h2))) rfl ?_)
  (refine nx (a_storeW (gN rfl) rfl rfl rfl rfl rfl rfl rfl rfl) rfl ?_)
  show AWp _ _ _ _ _ _ _
  refine AWp.wk (wk_sub (s' := (5, .bp 350001 0 []) :: (1, .val (.lst (l.map lcv))) :: wst s.nm none) ⟨rfl, rfl, rfl, rfl, rfl, rfl, rfl, trivial⟩) ?_
  refine aS (aS (aR ?_))
  (refine nx (aM (gN rfl) rfl rfl rfl rfl rfl) rfl ?_)
  (refine nx (a_len (gN rfl) rfl rfl rfl rfl rfl rfl rfl) rfl ?_)
  (refine nx (aM (gN rfl) rfl rfl rfl rfl rfl) rfl ?_)
  show AWp _ _ _ _ _ _ _
  refine aB (awp_count l.length (fun k => (5, .bp 350001 0 []) :: (11, .val (.lst (l.map lcv))) :: (12, .val (.i ((l.map lcv).length : Int))) :: (13, .val (.i (k : Int))) :: wst s.nm (allO s.nm l k)) (wk_sub ⟨rfl, rfl, rfl, rfl, rfl, rfl, rfl, rfl, rfl, trivial⟩) ?_)
  intro k hk1
  refine aS (aR ?_)
  (refine nx (a_lss (gN rfl) rfl rfl rfl rfl rfl rfl) rfl ?_)
  show AWp _ _ _ _ _ _ _
  refine aS (aC rfl (fun hlt => ?_) (fun hlt => ?_))
  · have hkl : k < l.length := by
      have hlt : decide ((k : Int) < ((l.map lcv).length : Int)) = true := hlt
      rw [hln] at hlt
      simpa using hlt
    obtain ⟨x, hx⟩ : ∃ x, l[k]? = some x := ⟨l[k], List.getElem?_eq_getElem hkl⟩
    have hx' := lcv_at hx
    have hxm := List.mem_of_getElem? hx
    have hlen := txA_take_le s.nm l (k + 1)
    have htk := txA_take (nm := s.nm) hx
    rw [htk, List.length_append, List.length_append] at hlen
    have h2 : ([46, 10] : By).length = 2 := rfl
    obtain ⟨c0, hc0⟩ : ∃ c0, c0 = allO s.nm l k := ⟨_, rfl⟩
    have hc0g : c0.getD [] = txA s.nm (l.take k) := by rw [hc0, allO_getD]
    rw [← hc0]
    have q1 := clsW_abs tb N hI s.nm hnm x c0 (hcl x hxm).1 (hcl x hxm).2 (by rw [hc0g]; omega)
    have q2 := put_abs tb s.nm (some (c0.getD [] ++ txC s.nm x)) [46, 10] (by
      show (c0.getD [] ++ txC s.nm x).length + 2 ≤ _
      rw [List.length_append, hc0g]; omega)
    have hstep : allO s.nm l (k + 1) = some ((some (c0.getD [] ++ txC s.nm x)).getD [] ++ [46, 10]) := by
      unfold allO
      rw [if_neg (by omega), htk, hc0g]
      rfl
    refine aK ?_
    show AWp _ _ _ _ _ _ _
    refine aS (aB (aS (aR ?_)))
    (refine nx (a_index (j := k) (gN rfl) rfl rfl rfl rfl rfl rfl rfl rfl rfl (hx') rfl (hsz)) rfl ?_)
    (refine nx (a_load_ad (gN rfl) rfl rfl rfl rfl rfl rfl rfl rfl rfl) rfl ?_)
    (refine nx (aA (gN rfl) rfl rfl rfl rfl rfl) rfl ?_)
    show AWp _ _ _ _ _ _ _
    refine aS (aR ?_)
    (refine nx (aM (gN rfl) rfl rfl rfl rfl rfl) rfl ?_)
    (refine nx (a_callOT hT (gN rfl) rfl rfl rfl rfl rfl (q1) (by repeat (first | exact trivial | refine ⟨rfl, ?_⟩)) (wst_lend _ _) (wst_leave _ _) (by first | rfl | kernel_rfl) (by first | rfl | kernel_rfl) (hnb_of (by first | rfl | kernel_rfl))) (by kernel_rfl) ?_)
    show AWp _ _ _ _ _ _ _
    refine aR ?_
    (refine nx (a_callOT hT (gN rfl) rfl rfl rfl rfl rfl (q2) (by repeat (first | exact trivial | refine ⟨rfl, ?_⟩)) (wst_lend _ _) (wst_leave _ _) (by first | rfl | kernel_rfl) (by first | rfl | kernel_rfl) (hnb_of (by first | rfl | kernel_rfl))) (by kernel_rfl) ?_)
    show AWp _ _ _ _ _ _ _
    refine aR ?_
    (refine nx (a_add (gN rfl) rfl rfl rfl rfl rfl rfl (by first | omega | (simp only [List.length_map, List.length_append, List.length_cons, List.length_nil] <;> omega) | (simp <;> omega))) rfl ?_)
    (refine nx (aM (gN rfl) rfl rfl rfl rfl rfl) rfl ?_)
    refine ⟨hkl, wk_sub ⟨rfl, rfl, rfl, rfl, ?_, rfl, rfl, ?_, ?_, trivial⟩⟩
    all_goals (rw [hstep]; rfl)
  · have hkl : k = l.length := by
      have hlt : decide ((k : Int) < ((l.map lcv).length : Int)) = false := hlt
      rw [hln] at hlt
      have := of_decide_eq_false hlt
      omega
    have hend : (allO s.nm l k).getD [] = txA s.nm l := by rw [allO_getD, hkl, List.take_length]
    have p2 := str_abs tb s.nm (allO s.nm l k)
    rw [hend] at p2
    refine aE ?_
    show AWp _ _ _ _ _ _ _
    refine aS (aR ?_)
    (refine nx (aF (gN rfl) rfl rfl rfl rfl rfl rfl rfl rfl rfl) rfl ?_)
    (refine nx (a_callOT hT (gN rfl) rfl rfl rfl rfl rfl (p2) (by repeat (first | exact trivial | refine ⟨rfl, ?_⟩)) (wst_lend _ _) (wsE_leave _ _) (by first | rfl | kernel_rfl) (by first | rfl | kernel_rfl) (hnb_of (by first | rfl | kernel_rfl))) (by kernel_rfl) ?_)
    (refine nx (aA (gN rfl) rfl rfl rfl rfl rfl) rfl ?_)
    show AWp _ _ _ _ _ _ _
    exact aT (And.intro (.inr rfl) rfl)
end Go.Proofs.YtebhbnhijnpmcaaGreatDoor

namespace Go.Proofs.YtebhbnhijnpmcaaGreatDoor
open Go.RowKit
set_option linter.unusedVariables false
set_option linter.unusedSimpArgs false
theorem takeT_lt {t : Tkn} {s : By} (h : (takeT t s).1 = true) (hs : s ≠ []) : (takeT t s).2.len < t.len := by
  unfold takeT at h ⊢
  split
  · rename_i e
    have h1 := mvT_len t.rs
    have h2 : 0 < t.nx.length := by
      rw [e]
      cases s with
      | nil => exact absurd rfl hs
      | cons b l => simp
    show (mvT t.rs).len < t.len
    unfold Tkn.len at *
    omega
  · rename_i e
    rw [if_neg e] at h
    cases h
theorem nameT_ok {t : Tkn} (h : (nameT t).2.1 = true) : (nameT t).1 ≠ [] ∧ (nameT t).1.length ≤ t.len := by
  unfold nameT at h ⊢
  split
  · rename_i e
    refine ⟨fun e2 => ?_, ?_⟩
    · have e2 : t.nx = [] := e2
      unfold isNmL at e
      rw [e2] at e
      simp at e
    · show t.nx.length ≤ _
      unfold Tkn.len
      omega
  · rename_i e
    rw [if_neg e] at h
    cases h
theorem rdX_g : ∀ (n d : Nat) (t : Tkn), t.len ≤ 1000000 → (∀ r, rdX n d t none = some r → r.2.2.1 = true → r.1.ok ∧ r.1.sz + r.2.2.2.len ≤ t.len) ∧ ∀ acc r, rdX n d t (some acc) = some r → r.2.2.1 = true → (∀ p ∈ acc, p.ok) → (∀ p ∈ r.2.1, p.ok) ∧ r.2.1.length + r.2.2.2.len ≤ acc.length + t.len ∧ (r.2.1.map Ph.sz).sum + r.2.2.2.len ≤ (acc.map Ph.sz).sum + t.len
  | 0, d, t, _ => ⟨fun r h => by simp [rdX] at h, fun acc r h => by simp [rdX] at h⟩
  | n + 1, d, t, ht => by
    constructor
    · intro r h hok
      obtain ⟨h1, h2⟩ := nameT_len t
      have h3 := takeT_len (nameT t).2.2 [40]
      rw [rdX] at h
      split at h
      · cases h; cases hok
      · split at h
        · cases h
          have hok : (nameT t).2.1 = true := hok
          have h2 := h2 hok
          obtain ⟨n1, n2⟩ := nameT_ok hok
          refine ⟨(Ph.ok_iff _).2 ⟨⟨n1, by show (nameT t).1.length ≤ _; omega, Nat.zero_le _⟩, fun q hq => by cases hq⟩, ?_⟩
          rw [Ph.sz_eq]
          show 1 + 0 + (nameT t).2.2.len ≤ _
          omega
        · rename_i hk
          have hk : (nameT t).2.1 = true := by
            cases hx : (nameT t).2.1 with
            | true => rfl
            | false => rw [hx] at hk; simp at hk
          have h2 := h2 hk
          obtain ⟨n1, n2⟩ := nameT_ok hk
          split at h
          · rename_i hp
            have h6 := takeT_lt hp (by simp)
            split at h
            · cases h
            · rename_i q hq
              split at h
              · rename_i hq2
                obtain ⟨i1, i2, i3⟩ := (rdX_g n (d + 1) (takeT (nameT t).2.2 [40]).2 (by omega)).2 [] q hq hq2 (fun p hp => by cases hp)
                have h5 := takeT_len q.2.2.2 [41]
                simp only [List.length_nil, List.map_nil, List.sum_nil] at i2 i3
                cases h
                refine ⟨(Ph.ok_iff _).2 ⟨⟨n1, by show (nameT t).1.length ≤ _; omega, by show q.2.1.length ≤ _; omega⟩, i1⟩, ?_⟩
                rw [Ph.sz_eq]
                show 1 + (q.2.1.map Ph.sz).sum + (takeT q.2.2.2 [41]).2.len ≤ _
                omega
              · cases h; cases hok
          · cases h
            refine ⟨(Ph.ok_iff _).2 ⟨⟨n1, by show (nameT t).1.length ≤ _; omega, Nat.zero_le _⟩, fun q hq => by cases hq⟩, ?_⟩
            rw [Ph.sz_eq]
            show 1 + 0 + (takeT (nameT t).2.2 [40]).2.len ≤ _
            omega
    · intro acc r h hok ha
      rw [rdX] at h
      split at h
      · cases h
      · rename_i q hq
        have h3 := takeT_len q.2.2.2 [44]
        split at h
        · rename_i hq2
          obtain ⟨g1, g2⟩ := (rdX_g n d t ht).1 q hq hq2
          have g3 := q.1.sz_pos
          have hacc : ∀ p ∈ acc ++ [q.1], p.ok := fun p hp => by
            rcases List.mem_append.1 hp with hp | hp
            · exact ha p hp
            · rw [List.mem_singleton.1 hp]; exact g1
          split at h
          · obtain ⟨i1, i2, i3⟩ := (rdX_g n d (takeT q.2.2.2 [44]).2 (by omega)).2 _ r h hok hacc
            rw [List.length_append] at i2
            rw [List.map_append, List.sum_append] at i3
            simp only [List.length_cons, List.length_nil, List.map_cons, List.map_nil, List.sum_cons, List.sum_nil] at i2 i3
            exact ⟨i1, by omega, by omega⟩
          · cases h
            refine ⟨hacc, ?_, ?_⟩
            · show (acc ++ [q.1]).length + (takeT q.2.2.2 [44]).2.len ≤ _
              rw [List.length_append]
              simp only [List.length_cons, List.length_nil]
              omega
            · show ((acc ++ [q.1]).map Ph.sz).sum + (takeT q.2.2.2 [44]).2.len ≤ _
              rw [List.map_append, List.sum_append]
              simp only [List.map_cons, List.map_nil, List.sum_cons, List.sum_nil]
              omega
        · cases h; cases hok
theorem rdX_some : ∀ (n d : Nat) (t : Tkn), (2 * t.len + 1 ≤ n → ∃ r, rdX n d t none = some r) ∧ ∀ acc, 2 * t.len + 2 ≤ n → ∃ r, rdX n d t (some acc) = some r
  | 0, d, t => ⟨fun h => by omega, fun acc h => by omega⟩
  | n + 1, d, t => by
    constructor
    · intro hn
      obtain ⟨h1, h2⟩ := nameT_len t
      rw [rdX]
      split
      · exact ⟨_, rfl⟩
      · split
        · exact ⟨_, rfl⟩
        · rename_i hk
          have hk : (nameT t).2.1 = true := by
            cases hx : (nameT t).2.1 with
            | true => rfl
            | false => rw [hx] at hk; simp at hk
          have h2 := h2 hk
          split
          · rename_i hp
            have h6 := takeT_lt hp (by simp)
            obtain ⟨r, hr⟩ := (rdX_some n (d + 1) (takeT (nameT t).2.2 [40]).2).2 [] (by omega)
            rw [hr]
            simp only
            split <;> exact ⟨_, rfl⟩
          · exact ⟨_, rfl⟩
    · intro acc hn
      rw [rdX]
      obtain ⟨r, hr⟩ := (rdX_some n d t).1 (by omega)
      rw [hr]
      simp only
      split
      · rename_i hok
        have h3 := ((rdX_len n d t).1 r hr).2 hok
        split
        · rename_i h4
          have h5 := takeT_lt h4 (by simp)
          exact (rdX_some n d (takeT r.2.2.2 [44]).2).2 _ (by omega)
        · exact ⟨_, rfl⟩
      · exact ⟨_, rfl⟩
theorem rdL_some {n : Nat} {t : Tkn} (h : 2 * t.len + 1 ≤ n) : ∃ r, rdL n t = some r := by
  unfold rdL
  have l1 := takeT_len t [126]
  obtain ⟨r, hr⟩ := (rdX_some n 1 (takeT t [126]).2).1 (by omega)
  have l2 := ((rdX_len n 1 _).1 r hr).1
  have l4 := takeT_len r.2.2.2 [61]
  have l5 := takeT_len (takeT r.2.2.2 [61]).2 unlB
  rw [hr]
  simp only
  split
  · split
    · obtain ⟨q, hq⟩ := (rdX_some n 1 (takeT r.2.2.2 [61]).2).1 (by omega)
      rw [hq]
      exact ⟨_, rfl⟩
    · split
      · obtain ⟨q, hq⟩ := (rdX_some n 1 (takeT (takeT r.2.2.2 [61]).2 unlB).2).1 (by omega)
        rw [hq]
        exact ⟨_, rfl⟩
      · exact ⟨_, rfl⟩
  · exact ⟨_, rfl⟩
theorem Ph.z_sz : Ph.z.sz = 1 := by rw [Ph.sz_eq]; rfl
theorem rdL_g {n : Nat} {t : Tkn} {r : Se × Bool × Tkn} (ht : t.len ≤ 1000000) (h : rdL n t = some r) (hok : r.2.1 = true) : r.1.ok ∧ r.1.sz + 2 * r.2.2.len ≤ 2 * t.len := by
  unfold rdL at h
  have l1 := takeT_len t [126]
  split at h
  · cases h
  · rename_i q hq
    have l4 := takeT_len q.2.2.2 [61]
    have l5 := takeT_len (takeT q.2.2.2 [61]).2 unlB
    split at h
    · rename_i hk
      obtain ⟨g1, g2⟩ := (rdX_g n 1 _ (by omega)).1 q hq hk
      have g3 := q.1.sz_pos
      split at h
      · split at h
        · cases h
        · rename_i q2 hq2
          cases h
          obtain ⟨g4, g5⟩ := (rdX_g n 1 _ (by omega)).1 q2 hq2 hok
          exact ⟨⟨g1, fun _ => g4⟩, by show q.1.sz + q2.1.sz + 2 * q2.2.2.2.len ≤ _; omega⟩
      · split at h
        · split at h
          · cases h
          · rename_i q2 hq2
            cases h
            obtain ⟨g4, g5⟩ := (rdX_g n 1 _ (by omega)).1 q2 hq2 hok
            exact ⟨⟨g1, fun _ => g4⟩, by show q.1.sz + q2.1.sz + 2 * q2.2.2.2.len ≤ _; omega⟩
        · cases h
          exact ⟨⟨g1, fun h => by cases h⟩, by show q.1.sz + Ph.z.sz + 2 * (takeT (takeT q.2.2.2 [61]).2 unlB).2.len ≤ _; rw [Ph.z_sz]; omega⟩
    · cases h
      cases hok
theorem Se.sz_pos (s : Se) : 1 ≤ s.sz := by unfold Se.sz; have := s.a.sz_pos; omega
theorem rdLs_some {n : Nat} : ∀ {m : Nat} {t : Tkn} {acc : List Se}, 2 * t.len + 1 ≤ n → t.len < m → ∃ r, rdLs n m t acc = some r
  | 0, _, _, _, h => by omega
  | m + 1, t, acc, hn, hm => by
    rw [rdLs]
    obtain ⟨r, hr⟩ := rdL_some hn
    rw [hr]
    simp only
    split
    · rename_i hok
      have h1 := (rdL_len hr).2 hok
      have h2 := takeT_len r.2.2 [124]
      split
      · exact rdLs_some (by omega) (by omega)
      · exact ⟨_, rfl⟩
    · exact ⟨_, rfl⟩
theorem rdLs_g {n : Nat} : ∀ {m : Nat} {t : Tkn} {acc : List Se} {r : List Se × Bool × Tkn}, t.len ≤ 1000000 → rdLs n m t acc = some r → r.2.1 = true → (∀ s ∈ acc, s.ok) → (∀ s ∈ r.1, s.ok) ∧ (r.1.map Se.sz).sum + 2 * r.2.2.len ≤ (acc.map Se.sz).sum + 2 * t.len
  | 0, _, _, _, _, h, _, _ => by simp [rdLs] at h
  | m + 1, t, acc, r, ht, h, hok, ha => by
    rw [rdLs] at h
    split at h
    · cases h
    · rename_i q hq
      have l1 := (rdL_len hq).1
      have l2 := takeT_len q.2.2 [124]
      split at h
      · rename_i hk
        obtain ⟨g1, g2⟩ := rdL_g ht hq hk
        have hacc : ∀ p ∈ acc ++ [q.1], p.ok := fun p hp => by
          rcases List.mem_append.1 hp with hp | hp
          · exact ha p hp
          · rw [List.mem_singleton.1 hp]; exact g1
        split at h
        · obtain ⟨i1, i2⟩ := rdLs_g (by omega) h hok hacc
          rw [List.map_append, List.sum_append] at i2
          simp only [List.map_cons, List.map_nil, List.sum_cons, List.sum_nil] at i2
          exact ⟨i1, by omega⟩
        · cases h
          refine ⟨hacc, ?_⟩
          show ((acc ++ [q.1]).map Se.sz).sum + 2 * (takeT q.2.2 [124]).2.len ≤ _
          rw [List.map_append, List.sum_append]
          simp only [List.map_cons, List.map_nil, List.sum_cons, List.sum_nil]
          omega
      · cases h; cases hok
theorem rdC_some {n : Nat} {t : Tkn} (h : 2 * t.len + 1 ≤ n) : ∃ r, rdC n t = some r := by
  unfold rdC
  have l1 := takeT_len t neverB
  split
  · exact ⟨_, rfl⟩
  · exact rdLs_some (by omega) (by omega)
theorem rdC_g {n : Nat} {t : Tkn} {r : List Se × Bool × Tkn} (ht : t.len ≤ 1000000) (h : rdC n t = some r) (hok : r.2.1 = true) : (∀ s ∈ r.1, s.ok) ∧ (r.1.map Se.sz).sum ≤ 2 * t.len := by
  unfold rdC at h
  have l1 := takeT_len t neverB
  split at h
  · cases h; exact ⟨(fun s hs => by cases hs), Nat.zero_le _⟩
  · obtain ⟨i1, i2⟩ := rdLs_g (by omega) h hok (fun s hs => by cases hs)
    simp only [List.map_nil, List.sum_nil] at i2
    exact ⟨i1, by omega⟩
theorem rdF_some {n : Nat} : ∀ {m : Nat} {t : Tkn} {acc : List (List Se)}, 2 * t.len + 1 ≤ n → t.len < m → ∃ r, rdF n m t acc = some r
  | 0, _, _, _, h => by omega
  | m + 1, t, acc, hn, hm => by
    rw [rdF]
    split
    · exact ⟨_, rfl⟩
    · obtain ⟨r, hr⟩ := rdC_some hn
      rw [hr]
      simp only
      have h1 := rdC_len hr
      split
      · split
        · rename_i hp
          have h2 := takeT_lt hp (by simp)
          exact rdF_some (by omega) (by omega)
        · exact ⟨_, rfl⟩
      · exact ⟨_, rfl⟩
theorem rdF_g {n : Nat} : ∀ {m : Nat} {t : Tkn} {acc : List (List Se)} {r : List (List Se) × Bool} {B : Nat}, t.len ≤ 1000000 → 2 * t.len ≤ B → rdF n m t acc = some r → (∀ c ∈ acc, (∀ s ∈ c, s.ok) ∧ (c.map Se.sz).sum ≤ B) → ∀ c ∈ r.1, (∀ s ∈ c, s.ok) ∧ (c.map Se.sz).sum ≤ B
  | 0, _, _, _, _, _, _, h, _ => by simp [rdF] at h
  | m + 1, t, acc, r, B, ht, hB, h, ha => by
    rw [rdF] at h
    split at h
    · cases h; exact ha
    · split at h
      · cases h
      · rename_i q hq
        have l1 := rdC_len hq
        have l2 := takeT_len q.2.2 [46]
        split at h
        · rename_i hok
          obtain ⟨g1, g2⟩ := rdC_g ht hq hok
          split at h
          · refine rdF_g (by omega) (by omega) h (fun c hc => ?_)
            rcases List.mem_append.1 hc with hc | hc
            · exact ha c hc
            · rw [List.mem_singleton.1 hc]; exact ⟨g1, by omega⟩
          · cases h; exact fun c hc => by cases hc
        · cases h; exact fun c hc => by cases hc
theorem len_le_sz (c : List Se) : c.length ≤ (c.map Se.sz).sum := by
  induction c with
  | nil => simp
  | cons s c ih =>
    rw [List.map_cons, List.sum_cons, List.length_cons]
    have := s.sz_pos
    omega
theorem rdAll_g {n : Nat} {src : By} {r : List (List Se) × Bool} (hs : src.length ≤ 32768) (h : rdAll n src = some r) : ∀ c ∈ r.1, (∀ s ∈ c, s.ok) ∧ c.length ≤ 1000000 ∧ (c.map Se.sz).sum ≤ 65536 := by
  intro c hc
  have l0 := mvT_len src
  obtain ⟨g1, g2⟩ := rdF_g (B := 65536) (by omega) (by omega) h (fun c hc => by cases hc) c hc
  have := len_le_sz c
  exact ⟨g1, by omega, g2⟩
theorem rdAll_some {n : Nat} {src : By} (h : 2 * src.length + 1 ≤ n) : ∃ r, rdAll n src = some r := by
  have l0 := mvT_len src
  exact rdF_some (by omega) (by omega)
theorem fold_some {f : Nm → Ph → Option (Tm × Bool × Nm)} : ∀ (ps : List Ph), (∀ p ∈ ps, ∀ st, ∃ r, f st p = some r) → ∀ (st : Nm) (acc : List Tm), ∃ r, foldP f st ps acc = some r
  | [], _, st, acc => ⟨_, rfl⟩
  | p :: ps, h, st, acc => by
    rw [foldP]
    obtain ⟨r, hr⟩ := h p (by simp) st
    rw [hr]
    simp only
    split
    · exact fold_some ps (fun p hp => h p (List.mem_cons_of_mem _ hp)) _ _
    · exact ⟨_, rfl⟩
theorem sz_mem {p : Ph} {ps : List Ph} (h : p ∈ ps) : p.sz ≤ (ps.map Ph.sz).sum := by
  induction ps with
  | nil => cases h
  | cons q ps ih =>
    rw [List.map_cons, List.sum_cons]
    rcases List.mem_cons.1 h with rfl | h
    · omega
    · have := ih h; omega
theorem sym_some {n : Nat} (hf : ∀ st (p : Ph), p.sz ≤ n → ∃ r, tmF n st p = some r) {st : Nm} {p : Ph} {pred : Bool} (h : p.sz ≤ n + 1) : ∃ r, symF (tmF n) st p pred = some r := by
  unfold symF
  have hs := p.sz_eq
  split
  · obtain ⟨r, hr⟩ := fold_some p.parts (fun q hq st => hf st q (by have := sz_mem hq; omega)) (numF st ⟨p.name, p.parts.length, pred⟩).2.2 []
    rw [hr]
    simp only
    split <;> exact ⟨_, rfl⟩
  · exact ⟨_, rfl⟩
theorem tmF_some : ∀ (n : Nat) (st : Nm) (p : Ph), p.sz ≤ n → ∃ r, tmF n st p = some r
  | 0, st, p, h => by have := p.sz_pos; omega
  | n + 1, st, p, h => by
    rw [tmF]
    split
    · exact ⟨_, rfl⟩
    · exact sym_some (tmF_some n) h
theorem litF_some {n : Nat} {st : Nm} {s : Se} (h : s.sz ≤ n) : ∃ r, litF n st s = some r := by
  unfold litF
  unfold Se.sz at h
  split
  · obtain ⟨r, hr⟩ := sym_some (tmF_some n) (st := st) (p := s.a) (pred := true) (by omega)
    rw [hr]
    exact ⟨_, rfl⟩
  · obtain ⟨r, hr⟩ := tmF_some n st s.a (by omega)
    rw [hr]
    simp only
    split
    · obtain ⟨q, hq⟩ := tmF_some n r.2.2 s.b (by omega)
      rw [hq]
      exact ⟨_, rfl⟩
    · exact ⟨_, rfl⟩
theorem litsF_some {n : Nat} : ∀ (ss : List Se), (ss.map Se.sz).sum ≤ n → ∀ (st : Nm) (acc : List Lt), ∃ r, litsF n st ss acc = some r
  | [], _, st, acc => ⟨_, rfl⟩
  | s :: ss, h, st, acc => by
    rw [List.map_cons, List.sum_cons] at h
    rw [litsF]
    obtain ⟨r, hr⟩ := litF_some (st := st) (s := s) (n := n) (by omega)
    rw [hr]
    simp only
    split
    · exact litsF_some ss (by omega) _ _
    · exact ⟨_, rfl⟩
theorem mnF_some {n : Nat} : ∀ (cs : List (List Se)), (∀ c ∈ cs, (c.map Se.sz).sum ≤ n) → ∀ (st : Nm) (acc : List (List Lt)), ∃ r, mnF n st cs acc = some r
  | [], _, st, acc => ⟨_, rfl⟩
  | c :: cs, h, st, acc => by
    rw [mnF]
    obtain ⟨r, hr⟩ := litsF_some c (h c (by simp)) ⟨st.sg, st.sy, []⟩ []
    have hr : clsF n st c = some r := hr
    rw [hr]
    simp only
    split
    · exact mnF_some cs (fun c hc => h c (List.mem_cons_of_mem _ hc)) _ _
    · exact ⟨_, rfl⟩
theorem prF_some (src : By) : ∃ r, prF 65600 src = some r := by
  unfold prF
  split
  · exact ⟨_, rfl⟩
  · rename_i hs
    obtain ⟨r, hr⟩ := rdAll_some (n := 65600) (src := src) (by omega)
    rw [hr]
    simp only
    split
    · obtain ⟨q, hq⟩ := mnF_some (n := 65600) r.1 (fun c hc => by have := (rdAll_g (by omega) hr c hc).2.2; omega) nm0 []
      rw [hq]
      simp only
      split <;> exact ⟨_, rfl⟩
    · exact ⟨_, rfl⟩
end Go.Proofs.YtebhbnhijnpmcaaGreatDoor
namespace Go.Proofs.YtebhbnhijnpmcaaGreatDoor
open Go.RowKit
set_option linter.unusedVariables false
set_option linter.unusedSimpArgs false
set_option maxRecDepth 10000
def lex : Nat → By → List By
  | 0, _ => []
  | n + 1, s => if (mvT s).nx = [] then [] else (mvT s).nx :: lex n (mvT s).rs
theorem mvT_rs {s : By} (h : (mvT s).nx ≠ []) : (mvT s).rs.length < s.length := by
  have h1 := mvT_len s
  unfold Tkn.len at h1
  have : 0 < (mvT s).nx.length := by
    cases hn : (mvT s).nx with
    | nil => exact absurd hn h
    | cons b l => simp
  omega
theorem lex_more : ∀ (n m : Nat) (s : By), s.length < n → s.length < m → lex n s = lex m s
  | 0, _, _, h, _ => by omega
  | _ + 1, 0, _, _, h => by omega
  | n + 1, m + 1, s, h1, h2 => by
    rw [lex, lex]
    split
    · rfl
    · rename_i h
      have := mvT_rs h
      rw [lex_more n m _ (by omega) (by omega)]
def toks (s : By) : List By := lex (s.length + 1) s
theorem toks_eq (s : By) : toks s = if (mvT s).nx = [] then [] else (mvT s).nx :: toks (mvT s).rs := by
  unfold toks
  rw [lex]
  split
  · rfl
  · rename_i h
    have := mvT_rs h
    rw [lex_more _ ((mvT s).rs.length + 1) _ (by omega) (by omega)]
def tl (t : Tkn) : List By := if t.nx = [] then [] else t.nx :: toks t.rs
theorem tl_mv (s : By) : tl (mvT s) = toks s := (toks_eq s).symm
def takeL (L : List By) (s : By) : Bool × List By := match L with
  | [] => (false, [])
  | x :: l => if x = s then (true, l) else (false, x :: l)
def nameL (L : List By) : By × Bool × List By := match L with
  | [] => ([], false, [])
  | x :: l => if isNmL x then (x, true, l) else ([], false, x :: l)
theorem take_tl (t : Tkn) {s : By} (hs : s ≠ []) : (takeT t s).1 = (takeL (tl t) s).1 ∧ tl (takeT t s).2 = (takeL (tl t) s).2 := by
  unfold takeT
  by_cases h : t.nx = s
  · rw [if_pos h]
    have hn : t.nx ≠ [] := fun e => hs (h ▸ e)
    have e : tl t = t.nx :: toks t.rs := if_neg hn
    rw [e]
    unfold takeL
    simp only
    rw [if_pos h]
    exact ⟨rfl, tl_mv _⟩
  · rw [if_neg h]
    by_cases hn : t.nx = []
    · have e : tl t = [] := if_pos hn
      simp only
      rw [e]
      exact ⟨rfl, rfl⟩
    · have e : tl t = t.nx :: toks t.rs := if_neg hn
      simp only
      rw [e]
      unfold takeL
      simp only
      rw [if_neg h]
      exact ⟨rfl, rfl⟩
theorem name_tl (t : Tkn) : (nameT t).1 = (nameL (tl t)).1 ∧ (nameT t).2.1 = (nameL (tl t)).2.1 ∧ tl (nameT t).2.2 = (nameL (tl t)).2.2 := by
  unfold nameT
  by_cases hn : t.nx = []
  · have e : tl t = [] := if_pos hn
    rw [e]
    have : isNmL t.nx = false := by rw [hn]; rfl
    rw [if_neg (by rw [this]; simp)]
    exact ⟨rfl, rfl, e⟩
  · have e : tl t = t.nx :: toks t.rs := if_neg hn
    rw [e]
    unfold nameL
    simp only
    split
    · exact ⟨rfl, rfl, tl_mv _⟩
    · exact ⟨rfl, rfl, e⟩
def rdXL : Nat → Nat → List By → Option (List Ph) → Option (Ph × List Ph × Bool × List By)
  | 0, _, _, _ => none
  | n + 1, d, t, none => if 32 < d then some (⟨[], []⟩, [], false, t) else
      if !(nameL t).2.1 || isGrL (nameL t).1 then some (⟨(nameL t).1, []⟩, [], (nameL t).2.1, (nameL t).2.2) else
      if (takeL (nameL t).2.2 [40]).1 then (match rdXL n (d + 1) (takeL (nameL t).2.2 [40]).2 (some []) with
        | none => none
        | some r => if r.2.2.1 then some (⟨(nameL t).1, r.2.1⟩, [], (takeL r.2.2.2 [41]).1, (takeL r.2.2.2 [41]).2) else some (⟨(nameL t).1, r.2.1⟩, [], false, r.2.2.2))
      else some (⟨(nameL t).1, []⟩, [], (nameL t).2.1, (takeL (nameL t).2.2 [40]).2)
  | n + 1, d, t, some acc => match rdXL n d t none with
    | none => none
    | some r => if r.2.2.1 then (if (takeL r.2.2.2 [44]).1 then rdXL n d (takeL r.2.2.2 [44]).2 (some (acc ++ [r.1])) else some (⟨[], []⟩, acc ++ [r.1], true, (takeL r.2.2.2 [44]).2)) else some (⟨[], []⟩, [], false, r.2.2.2)
def mapX (r : Ph × List Ph × Bool × Tkn) : Ph × List Ph × Bool × List By := (r.1, r.2.1, r.2.2.1, tl r.2.2.2)
theorem rdX_tl : ∀ (n d : Nat) (t : Tkn) (acc : Option (List Ph)), (rdX n d t acc).map mapX = rdXL n d (tl t) acc
  | 0, _, _, _ => by simp [rdX, rdXL]
  | n + 1, d, t, none => by
    rw [rdX, rdXL]
    obtain ⟨n1, n2, n3⟩ := name_tl t
    rw [← n1, ← n2, ← n3]
    split
    · rfl
    · split
      · rfl
      · obtain ⟨k1, k2⟩ := take_tl (nameT t).2.2 (s := [40]) (by simp)
        rw [← k1, ← k2]
        split
        · rw [← rdX_tl n (d + 1) _ (some [])]
          cases rdX n (d + 1) (takeT (nameT t).2.2 [40]).2 (some []) with
          | none => rfl
          | some r =>
            obtain ⟨q1, q2⟩ := take_tl r.2.2.2 (s := [41]) (by simp)
            simp only [Option.map_some, mapX]
            rw [← q1, ← q2]
            split <;> rfl
        · rfl
  | n + 1, d, t, some acc => by
    rw [rdX, rdXL, ← rdX_tl n d t none]
    cases rdX n d t none with
    | none => rfl
    | some r =>
      obtain ⟨q1, q2⟩ := take_tl r.2.2.2 (s := [44]) (by simp)
      simp only [Option.map_some, mapX]
      rw [← q1, ← q2]
      split
      · split
        · rw [← rdX_tl n d _ (some (acc ++ [r.1]))]
        · rfl
      · rfl
def rdLL (n : Nat) (t : List By) : Option (Se × Bool × List By) :=
  match rdXL n 1 (takeL t [126]).2 none with
  | none => none
  | some r => if r.2.2.1 then
      (if (takeL r.2.2.2 [61]).1 then (match rdXL n 1 (takeL r.2.2.2 [61]).2 none with
          | none => none
          | some q => some (⟨(takeL t [126]).1, false, r.1, q.1⟩, q.2.2.1, q.2.2.2))
        else if (takeL (takeL r.2.2.2 [61]).2 unlB).1 then (match rdXL n 1 (takeL (takeL r.2.2.2 [61]).2 unlB).2 none with
          | none => none
          | some q => some (⟨!(takeL t [126]).1, false, r.1, q.1⟩, q.2.2.1, q.2.2.2))
        else some (⟨(takeL t [126]).1, true, r.1, Ph.z⟩, isSmL r.1.name, (takeL (takeL r.2.2.2 [61]).2 unlB).2))
    else some (Se.z, false, r.2.2.2)
def mapS (r : Se × Bool × Tkn) : Se × Bool × List By := (r.1, r.2.1, tl r.2.2)
theorem rdL_tl (n : Nat) (t : Tkn) : (rdL n t).map mapS = rdLL n (tl t) := by
  unfold rdL rdLL
  obtain ⟨a1, a2⟩ := take_tl t (s := [126]) (by simp)
  rw [← a1, ← a2, ← rdX_tl]
  cases rdX n 1 (takeT t [126]).2 none with
  | none => rfl
  | some r =>
    obtain ⟨b1, b2⟩ := take_tl r.2.2.2 (s := [61]) (by simp)
    obtain ⟨c1, c2⟩ := take_tl (takeT r.2.2.2 [61]).2 (s := unlB) (by simp [unlB])
    simp only [Option.map_some, mapX]
    rw [← b1, ← b2, ← c1, ← c2, ← rdX_tl, ← rdX_tl]
    split
    · split
      · cases rdX n 1 (takeT r.2.2.2 [61]).2 none <;> rfl
      · split
        · cases rdX n 1 (takeT (takeT r.2.2.2 [61]).2 unlB).2 none <;> rfl
        · rfl
    · rfl
def rdLsL (n : Nat) : Nat → List By → List Se → Option (List Se × Bool × List By)
  | 0, _, _ => none
  | m + 1, t, acc => match rdLL n t with
    | none => none
    | some r => if r.2.1 then (if (takeL r.2.2 [124]).1 then rdLsL n m (takeL r.2.2 [124]).2 (acc ++ [r.1]) else some (acc ++ [r.1], true, (takeL r.2.2 [124]).2)) else some ([], false, r.2.2)
def mapC (r : List Se × Bool × Tkn) : List Se × Bool × List By := (r.1, r.2.1, tl r.2.2)
theorem rdLs_tl (n : Nat) : ∀ (m : Nat) (t : Tkn) (acc : List Se), (rdLs n m t acc).map mapC = rdLsL n m (tl t) acc
  | 0, _, _ => by simp [rdLs, rdLsL]
  | m + 1, t, acc => by
    rw [rdLs, rdLsL, ← rdL_tl]
    cases rdL n t with
    | none => rfl
    | some r =>
      obtain ⟨q1, q2⟩ := take_tl r.2.2 (s := [124]) (by simp)
      simp only [Option.map_some, mapS]
      rw [← q1, ← q2]
      split
      · split
        · rw [← rdLs_tl n m]
        · rfl
      · rfl
def rdCL (n : Nat) (t : List By) : Option (List Se × Bool × List By) :=
  if (takeL t neverB).1 then some ([], true, (takeL t neverB).2) else rdLsL n n (takeL t neverB).2 []
theorem rdC_tl (n : Nat) (t : Tkn) : (rdC n t).map mapC = rdCL n (tl t) := by
  unfold rdC rdCL
  obtain ⟨q1, q2⟩ := take_tl t (s := neverB) (by simp [neverB])
  rw [← q1, ← q2, ← rdLs_tl]
  split <;> rfl
def rdFL (n : Nat) : Nat → List By → List (List Se) → Option (List (List Se) × Bool)
  | 0, _, _ => none
  | m + 1, t, acc => if t = [] then some (acc, true) else match rdCL n t with
    | none => none
    | some r => if r.2.1 then (if (takeL r.2.2 [46]).1 then rdFL n m (takeL r.2.2 [46]).2 (acc ++ [r.1]) else some ([], false)) else some ([], false)
theorem tl_nil (t : Tkn) : tl t = [] ↔ t.nx = [] := by
  unfold tl
  by_cases h : t.nx = []
  · rw [if_pos h]; simp [h]
  · rw [if_neg h]; simp [h]
theorem rdF_tl (n : Nat) : ∀ (m : Nat) (t : Tkn) (acc : List (List Se)), rdF n m t acc = rdFL n m (tl t) acc
  | 0, _, _ => by simp [rdF, rdFL]
  | m + 1, t, acc => by
    rw [rdF, rdFL]
    by_cases h : t.nx = []
    · rw [if_pos h, if_pos ((tl_nil t).2 h)]
    · rw [if_neg h, if_neg (fun e => h ((tl_nil t).1 e)), ← rdC_tl]
      cases rdC n t with
      | none => rfl
      | some r =>
        obtain ⟨q1, q2⟩ := take_tl r.2.2 (s := [46]) (by simp)
        simp only [Option.map_some, mapC]
        rw [← q1, ← q2, ← rdF_tl n m]
theorem rdAll_tl (n : Nat) (src : By) : rdAll n src = rdFL n n (toks src) [] := by
  unfold rdAll
  rw [rdF_tl, tl_mv]
theorem bh_step (s : By) : bh s = if Lib.hasPrefix (trm s) [37] then bh (behNl (trm s)) else trm s := by
  have h := (bh_eq s).1
  rw [bhN] at h
  split at h
  · rename_i hp
    rw [if_pos hp]
    have h2 := (bh_eq (behNl (trm s))).1
    have hl : (behNl (trm s)).length + 1 ≤ s.length := by
      have ht := trm_len s
      cases hs : trm s with
      | nil => rw [hs] at hp; simp [Lib.hasPrefix] at hp
      | cons b l =>
        have := behNl_lt (b := b) (l := l)
        rw [hs, List.length_cons] at ht
        omega
    have h3 := bhN_mono h2 (m := s.length) (by omega)
    rw [h3] at h
    injection h with h
    exact h.symm
  · rename_i hp
    rw [if_neg hp]
    injection h with h
    exact h.symm
theorem mv_nx (a : By) : (mvT a).nx = [] ↔ bh a = [] := by
  unfold mvT
  constructor
  · intro h
    have h : (bh a).take (tkSz (bh a)) = [] := h
    rcases List.take_eq_nil_iff.1 h with h | h
    · apply Classical.byContradiction
      intro hn
      have := tkSz_pos hn
      omega
    · exact h
  · intro h
    show (bh a).take (tkSz (bh a)) = []
    rw [h]
    simp

def hd (t : List By) : By := t.headD []
def comT (l : List (List By)) : List By := l.flatMap fun x => [44] :: x
theorem comT_cons (x : List By) (l : List (List By)) : comT (x :: l) = [44] :: (x ++ comT l) := by
  unfold comT
  rw [List.flatMap_cons]
  rfl
def bodT : List (List By) → List By
  | [] => []
  | x :: l => [40] :: (x ++ (comT l ++ [[41]]))
def Ph.tk : Ph → List By
  | ⟨n, ps⟩ => n :: bodT (ps.map Ph.tk)
theorem Ph.tk_eq (p : Ph) : p.tk = p.name :: bodT (p.parts.map Ph.tk) := by cases p; rw [Ph.tk]
def Ph.dp : Ph → Nat
  | ⟨n, ps⟩ => 1 + (ps.map Ph.dp).foldr max 0
theorem Ph.dp_eq (p : Ph) : p.dp = 1 + (p.parts.map Ph.dp).foldr max 0 := by cases p; rw [Ph.dp]
def Ph.wf : Ph → Prop
  | ⟨n, ps⟩ => (isNmL n = true ∧ (isGrL n = true → ps = [])) ∧ ∀ q ∈ ps, q.wf
theorem Ph.wf_iff (p : Ph) : p.wf ↔ (isNmL p.name = true ∧ (isGrL p.name = true → p.parts = [])) ∧ ∀ q ∈ p.parts, q.wf := by cases p; rw [Ph.wf]
def Ph.ends (p : Ph) (t : List By) : Prop := p.parts = [] → isGrL p.name = false → hd t ≠ [40]
theorem foldr_max_le {l : List Nat} {k : Nat} : l.foldr max 0 ≤ k ↔ ∀ x ∈ l, x ≤ k := by
  induction l with
  | nil => simp
  | cons x l ih =>
    rw [List.foldr_cons]
    constructor
    · intro h y hy
      rcases List.mem_cons.1 hy with rfl | hy
      · omega
      · exact ih.1 (by omega) y hy
    · intro h
      have h1 := h x (by simp)
      have h2 := ih.2 fun y hy => h y (List.mem_cons_of_mem _ hy)
      omega
theorem Ph.dp_pos (p : Ph) : 1 ≤ p.dp := by rw [p.dp_eq]; omega
theorem Ph.dp_le {p : Ph} {k : Nat} : p.dp ≤ k + 1 ↔ ∀ q ∈ p.parts, q.dp ≤ k := by
  rw [p.dp_eq]
  have : 1 + (p.parts.map Ph.dp).foldr max 0 ≤ k + 1 ↔ (p.parts.map Ph.dp).foldr max 0 ≤ k := by omega
  rw [this, foldr_max_le]
  constructor
  · intro h q hq; exact h _ (List.mem_map_of_mem hq)
  · intro h x hx
    obtain ⟨q, hq, rfl⟩ := List.mem_map.1 hx
    exact h q hq
theorem takeL_hd (t : List By) {s : By} (hs : s ≠ []) : takeL t s = if hd t = s then (true, t.tail) else (false, t) := by
  cases t with
  | nil =>
    have : ¬ hd [] = s := fun e => hs e.symm
    rw [if_neg this]; rfl
  | cons x l => rfl
theorem takeL_cons (s : By) (t : List By) : takeL (s :: t) s = (true, t) := by
  unfold takeL
  simp
theorem nameL_hd (t : List By) : nameL t = if isNmL (hd t) then (hd t, true, t.tail) else ([], false, t) := by
  cases t with
  | nil => rfl
  | cons x l => rfl
theorem takeL_yes {t : List By} {s : By} (hs : s ≠ []) (h : (takeL t s).1 = true) : t = s :: (takeL t s).2 := by
  cases t with
  | nil => cases h
  | cons x l =>
    unfold takeL at h ⊢
    simp only at h ⊢
    split at h
    · rename_i e; rw [if_pos e, e]
    · cases h
theorem takeL_no {t : List By} {s : By} (hs : s ≠ []) (h : (takeL t s).1 = false) : (takeL t s).2 = t ∧ hd t ≠ s := by
  rw [takeL_hd t hs] at h ⊢
  split at h
  · cases h
  · rename_i e; rw [if_neg e]; exact ⟨rfl, e⟩
theorem nameL_yes {t : List By} (h : (nameL t).2.1 = true) : t = (nameL t).1 :: (nameL t).2.2 ∧ isNmL (nameL t).1 = true := by
  cases t with
  | nil => cases h
  | cons x l =>
    unfold nameL at h ⊢
    simp only at h ⊢
    split at h
    · rename_i e; rw [if_pos e]; exact ⟨rfl, e⟩
    · cases h
theorem tk_hd (p : Ph) (t : List By) : hd (p.tk ++ t) = p.name := by rw [p.tk_eq]; rfl
theorem rdXL_tk : ∀ (n : Nat), (∀ (d : Nat) (p : Ph) (t : List By), p.wf → 2 * p.sz ≤ n → d + p.dp ≤ 33 → p.ends t → rdXL n d (p.tk ++ t) none = some (p, [], true, t)) ∧ ∀ (d : Nat) (p : Ph) (ps : List Ph) (acc : List Ph) (t : List By), (∀ q ∈ p :: ps, q.wf ∧ d + q.dp ≤ 33) → 2 * ((p :: ps).map Ph.sz).sum + 1 ≤ n → hd t = [41] → rdXL n d (p.tk ++ (comT (ps.map Ph.tk) ++ t)) (some acc) = some (⟨[], []⟩, acc ++ p :: ps, true, t)
  | 0 => by
    refine ⟨fun d p t _ h => ?_, fun d p ps acc t _ h => by omega⟩
    have := p.sz_pos
    omega
  | n + 1 => by
    obtain ⟨ih1, ih2⟩ := rdXL_tk n
    constructor
    · intro d p t hw hn hd1 he
      obtain ⟨⟨w1, w2⟩, w3⟩ := (Ph.wf_iff p).1 hw
      have hp := p.dp_pos
      obtain ⟨nm, ps⟩ := p
      simp only at w1 w2 w3
      rw [rdXL, if_neg (by omega), Ph.tk_eq]
      have e1 : nameL (nm :: bodT (ps.map Ph.tk) ++ t) = (nm, true, bodT (ps.map Ph.tk) ++ t) := by
        rw [List.cons_append, nameL_hd, if_pos (by exact w1)]; rfl
      show (if !(nameL (nm :: bodT (ps.map Ph.tk) ++ t)).2.1 || isGrL (nameL (nm :: bodT (ps.map Ph.tk) ++ t)).1 then _ else _) = _
      rw [e1]
      simp only [Bool.not_true, Bool.false_or]
      by_cases hg : isGrL nm = true
      · rw [if_pos hg, w2 hg]; rfl
      · rw [if_neg hg]
        cases ps with
        | nil =>
          have h40 := he rfl (by simpa using hg)
          have e2 : takeL (bodT (([] : List Ph).map Ph.tk) ++ t) [40] = (false, t) := by
            show takeL t [40] = _
            rw [takeL_hd t (by simp), if_neg h40]
          rw [e2]
          rfl
        | cons q qs =>
          have e2 : bodT ((q :: qs).map Ph.tk) ++ t = [40] :: (q.tk ++ (comT (qs.map Ph.tk) ++ ([41] :: t))) := by
            rw [List.map_cons, bodT]
            simp
          rw [e2]
          have e3 : takeL ([40] :: (q.tk ++ (comT (qs.map Ph.tk) ++ ([41] :: t)))) [40] = (true, q.tk ++ (comT (qs.map Ph.tk) ++ ([41] :: t))) := by
            exact takeL_cons _ _
          rw [e3]
          simp only [if_true]
          have hsz := Ph.sz_eq ⟨nm, q :: qs⟩
          simp only at hsz
          have hdp := (Ph.dp_le (p := ⟨nm, q :: qs⟩) (k := 32 - d)).1 (by omega)
          rw [ih2 (d + 1) q qs [] ([41] :: t) (fun x hx => ⟨w3 x hx, by have := hdp x hx; have := Ph.dp_pos x; omega⟩) (by omega) rfl]
          simp only [List.nil_append, if_true]
          have e4 : takeL ([41] :: t) [41] = (true, t) := takeL_cons _ _
          rw [e4]
    · intro d p ps acc t hw hn ht
      obtain ⟨w1, w2⟩ := hw p (by simp)
      rw [List.map_cons, List.sum_cons] at hn
      rw [rdXL]
      have hne : hd (comT (ps.map Ph.tk) ++ t) ≠ [40] := by
        cases ps with
        | nil => show hd t ≠ _; rw [ht]; simp
        | cons q qs => rw [List.map_cons, comT_cons]; show ([44] : By) ≠ [40]; simp
      have hpp := p.sz_pos
      rw [ih1 d p _ w1 (by omega) w2 (fun _ _ => hne)]
      simp only [if_true]
      cases ps with
      | nil =>
        have e : takeL (comT (([] : List Ph).map Ph.tk) ++ t) [44] = (false, t) := by
          show takeL t [44] = _
          rw [takeL_hd t (by simp), if_neg (by rw [ht]; simp)]
        rw [e]
        rfl
      | cons q qs =>
        have e : takeL (comT ((q :: qs).map Ph.tk) ++ t) [44] = (true, q.tk ++ (comT (qs.map Ph.tk) ++ t)) := by
          rw [List.map_cons, comT_cons, List.cons_append, takeL_cons, List.append_assoc]
        rw [e]
        simp only [if_true]
        rw [ih2 d q qs (acc ++ [p]) t (fun x hx => hw x (List.mem_cons_of_mem _ hx)) (by have := q.sz_pos; rw [List.map_cons, List.sum_cons] at hn ⊢; omega) ht]
        simp
theorem rdXL_wf : ∀ (n : Nat), (∀ (d : Nat) (t : List By) (r : Ph × List Ph × Bool × List By), rdXL n d t none = some r → r.2.2.1 = true → r.1.wf ∧ t = r.1.tk ++ r.2.2.2 ∧ d + r.1.dp ≤ 33 ∧ r.1.ends r.2.2.2) ∧ ∀ (d : Nat) (t : List By) (acc : List Ph) (r : Ph × List Ph × Bool × List By), rdXL n d t (some acc) = some r → r.2.2.1 = true → ∃ p ps, r.2.1 = acc ++ p :: ps ∧ (∀ q ∈ p :: ps, q.wf ∧ d + q.dp ≤ 33) ∧ t = p.tk ++ (comT (ps.map Ph.tk) ++ r.2.2.2) ∧ hd r.2.2.2 ≠ [44]
  | 0 => ⟨fun d t r h => by simp [rdXL] at h, fun d t acc r h => by simp [rdXL] at h⟩
  | n + 1 => by
    obtain ⟨ih1, ih2⟩ := rdXL_wf n
    constructor
    · intro d t r h hok
      rw [rdXL] at h
      split at h
      · cases h; cases hok
      rename_i hd32
      have leaf : (Ph.mk (nameL t).1 []).dp = 1 := by rw [Ph.dp_eq]; rfl
      split at h
      · rename_i hc
        cases h
        obtain ⟨h1, h2⟩ := nameL_yes (t := t) hok
        have hg : isGrL (nameL t).1 = true := by
          have hok : (nameL t).2.1 = true := hok
          rw [hok] at hc
          simpa using hc
        refine ⟨(Ph.wf_iff _).2 ⟨⟨h2, fun _ => rfl⟩, fun q hq => by cases hq⟩, ?_, by rw [leaf]; omega, fun _ e => ?_⟩
        · rw [Ph.tk_eq]; exact h1
        · have e : isGrL (nameL t).1 = false := e
          rw [hg] at e; cases e
      · rename_i hc
        have hc : (nameL t).2.1 = true ∧ isGrL (nameL t).1 = false := by
          cases h1 : (nameL t).2.1 <;> cases h2 : isGrL (nameL t).1 <;> rw [h1, h2] at hc <;> simp at hc <;> exact ⟨rfl, rfl⟩
        obtain ⟨h1, h2⟩ := nameL_yes hc.1
        split at h
        · rename_i h40
          have e40 := takeL_yes (by simp) h40
          split at h
          · cases h
          · rename_i q hq
            split at h
            · rename_i hqok
              cases h
              have h41 : (takeL q.2.2.2 [41]).1 = true := hok
              have e41 := takeL_yes (by simp) h41
              obtain ⟨p, ps, e1, e2, e3, e4⟩ := ih2 _ _ _ q hq hqok
              rw [List.nil_append] at e1
              refine ⟨(Ph.wf_iff _).2 ⟨⟨h2, fun e => ?_⟩, fun x hx => ?_⟩, ?_, ?_, fun e => ?_⟩
              · have e : isGrL (nameL t).1 = true := e
                rw [hc.2] at e; cases e
              · have hx : x ∈ q.2.1 := hx
                rw [e1] at hx
                exact (e2 x hx).1
              · show t = Ph.tk ⟨(nameL t).1, q.2.1⟩ ++ (takeL q.2.2.2 [41]).2
                rw [Ph.tk_eq]
                show t = (nameL t).1 :: bodT (q.2.1.map Ph.tk) ++ (takeL q.2.2.2 [41]).2
                rw [e1, List.map_cons, bodT]
                have : t = (nameL t).1 :: [40] :: (p.tk ++ (comT (ps.map Ph.tk) ++ [41] :: (takeL q.2.2.2 [41]).2)) := by
                  rw [← e41, ← e3, ← e40]; exact h1
                exact this.trans (by simp)
              · have := (Ph.dp_le (p := ⟨(nameL t).1, q.2.1⟩) (k := 32 - d)).2 (fun x hx => by
                  have hx : x ∈ q.2.1 := hx
                  rw [e1] at hx
                  have := (e2 x hx).2
                  omega)
                show d + (Ph.mk (nameL t).1 q.2.1).dp ≤ 33
                omega
              · have e : q.2.1 = [] := e
                rw [e1] at e; cases e
            · cases h; cases hok
        · rename_i h40
          have h40 : (takeL (nameL t).2.2 [40]).1 = false := by simpa using h40
          obtain ⟨e5, e6⟩ := takeL_no (by simp) h40
          cases h
          refine ⟨(Ph.wf_iff _).2 ⟨⟨h2, fun _ => rfl⟩, fun q hq => by cases hq⟩, ?_, by rw [leaf]; omega, fun _ _ => ?_⟩
          · show t = Ph.tk ⟨(nameL t).1, []⟩ ++ (takeL (nameL t).2.2 [40]).2
            rw [Ph.tk_eq, e5]; exact h1
          · show hd (takeL (nameL t).2.2 [40]).2 ≠ _
            rw [e5]; exact e6
    · intro d t acc r h hok
      rw [rdXL] at h
      split at h
      · cases h
      · rename_i q hq
        split at h
        · rename_i hqok
          obtain ⟨a1, a2, a3, a4⟩ := ih1 _ _ q hq hqok
          split at h
          · rename_i h44
            have e44 := takeL_yes (by simp) h44
            obtain ⟨p, ps, e1, e2, e3, e4⟩ := ih2 _ _ _ r h hok
            refine ⟨q.1, p :: ps, by rw [e1]; simp, fun x hx => ?_, ?_, e4⟩
            · rcases List.mem_cons.1 hx with rfl | hx
              · exact ⟨a1, a3⟩
              · exact e2 x hx
            · rw [List.map_cons, comT_cons]
              have : t = q.1.tk ++ ([44] :: (p.tk ++ (comT (ps.map Ph.tk) ++ r.2.2.2))) := by rw [← e3, ← e44]; exact a2
              exact this.trans (by simp)
          · rename_i h44
            have h44 : (takeL q.2.2.2 [44]).1 = false := by simpa using h44
            obtain ⟨e5, e6⟩ := takeL_no (by simp) h44
            cases h
            refine ⟨q.1, [], rfl, fun x hx => ?_, ?_, ?_⟩
            · rw [List.mem_singleton.1 hx]; exact ⟨a1, a3⟩
            · show t = q.1.tk ++ (takeL q.2.2.2 [44]).2
              rw [e5]; exact a2
            · show hd (takeL q.2.2.2 [44]).2 ≠ _
              rw [e5]; exact e6
        · cases h; cases hok
theorem toks_of_bh {s t : By} (h : bh s = bh t) : toks s = toks t := by
  have : mvT s = mvT t := by unfold mvT; rw [h]
  rw [toks_eq, this, ← toks_eq]
theorem toks_nil : toks [] = [] := by decide
theorem toks_blank {c : UInt8} (hc : blB.contains c = true) (s : By) : toks (c :: s) = toks s := by
  refine toks_of_bh ?_
  have : trm (c :: s) = trm s := by
    unfold trm Lib.trimLeftS
    rw [List.dropWhile_cons_of_pos hc]
  rw [bh_step, bh_step s, this]
theorem trm_cons {c : UInt8} (hc : blB.contains c = false) (s : By) : trm (c :: s) = c :: s := by
  unfold trm Lib.trimLeftS
  rw [List.dropWhile_cons_of_neg (by rw [hc]; simp)]
theorem toks_tok {c : UInt8} {s : By} (hb : blB.contains c = false) (hp : c ≠ 37) : toks (c :: s) = (c :: s).take (tkSz (c :: s)) :: toks ((c :: s).drop (tkSz (c :: s))) := by
  have h1 : bh (c :: s) = c :: s := by
    rw [bh_step, trm_cons hb, if_neg (by simp [Lib.hasPrefix, List.isPrefixOf]; exact fun e => hp e.symm)]
  have hm : mvT (c :: s) = ⟨(c :: s).take (tkSz (c :: s)), (c :: s).drop (tkSz (c :: s))⟩ := by unfold mvT; rw [h1]
  have hn : (mvT (c :: s)).nx ≠ [] := fun e => by
    have := (mv_nx _).1 e
    rw [h1] at this
    cases this
  rw [toks_eq, if_neg hn, hm]
def TokOk (B : Nat) (x : By) : Prop := x.length ≤ B ∧ (isNmL x = true → x.all inB = true)
theorem takeWhile_all (l : By) : (l.takeWhile inB).all inB = true := by
  rw [List.all_eq_true]
  induction l with
  | nil => intro x hx; cases hx
  | cons y l ih =>
    intro x hx
    by_cases h : inB y = true
    · rw [List.takeWhile_cons_of_pos h] at hx
      rcases List.mem_cons.1 hx with rfl | hx
      · exact h
      · exact ih x hx
    · rw [List.takeWhile_cons_of_neg h] at hx; cases hx
theorem mv_tok (s : By) : TokOk s.length (mvT s).nx := by
  have hb := (bh_eq s).2
  have ht := tkSz_le (bh s)
  refine ⟨?_, fun h => ?_⟩
  · show ((bh s).take (tkSz (bh s))).length ≤ _
    rw [List.length_take]
    omega
  · show ((bh s).take (tkSz (bh s))).all inB = true
    have h : isNmL ((bh s).take (tkSz (bh s))) = true := h
    cases hs : bh s with
    | nil => rfl
    | cons y l =>
      rw [hs] at h
      have hp : 0 < tkSz (y :: l) := tkSz_pos (by simp)
      obtain ⟨k, hk⟩ : ∃ k, tkSz (y :: l) = k + 1 := ⟨tkSz (y :: l) - 1, by omega⟩
      rw [hk, List.take_succ_cons] at h
      have hl : (isSmL (y :: l) || isGrL (y :: l)) = true := by
        unfold isNmL at h
        rw [Bool.and_eq_true] at h
        exact h.2
      have e : tkSz (y :: l) = nmSz (y :: l) := by unfold tkSz; rw [if_neg (by simp), if_pos hl]
      rw [e]
      unfold nmSz
      have : (y :: l).take ((y :: l).takeWhile inB).length = (y :: l).takeWhile inB := by
        have h1 := List.takeWhile_prefix (p := inB) (l := y :: l)
        exact (List.prefix_iff_eq_take.1 h1).symm
      rw [this]
      exact takeWhile_all _
theorem toks_ok : ∀ (n : Nat) (s : By), s.length ≤ n → ∀ x ∈ toks s, TokOk s.length x := by
  intro n
  induction n with
  | zero =>
    intro s h x hx
    have : s = [] := List.eq_nil_of_length_eq_zero (by omega)
    subst this
    rw [toks_nil] at hx
    cases hx
  | succ n ih =>
    intro s h x hx
    rw [toks_eq] at hx
    split at hx
    · cases hx
    · rename_i hne
      rcases List.mem_cons.1 hx with rfl | hx
      · exact mv_tok s
      · have hlt := mvT_rs hne
        obtain ⟨h1, h2⟩ := ih _ (by omega) x hx
        exact ⟨by omega, h2⟩
def Ph.nice (B : Nat) : Ph → Prop
  | ⟨n, ps⟩ => (isNmL n = true ∧ n.all inB = true ∧ n.length ≤ B ∧ (isGrL n = true → ps = [])) ∧ ∀ q ∈ ps, q.nice B
theorem Ph.nice_iff (B : Nat) (p : Ph) : p.nice B ↔ (isNmL p.name = true ∧ p.name.all inB = true ∧ p.name.length ≤ B ∧ (isGrL p.name = true → p.parts = [])) ∧ ∀ q ∈ p.parts, q.nice B := by cases p; rw [Ph.nice]
theorem mem_com {x : By} {l : List (List By)} {t : List By} (h : t ∈ l) (hx : x ∈ t) : x ∈ comT l := by
  unfold comT
  exact List.mem_flatMap.2 ⟨t, h, List.mem_cons_of_mem _ hx⟩
theorem mem_bod {x : By} {l : List (List By)} {t : List By} (h : t ∈ l) (hx : x ∈ t) : x ∈ bodT l := by
  cases l with
  | nil => cases h
  | cons y l =>
    rw [bodT]
    refine List.mem_cons_of_mem _ ?_
    rcases List.mem_cons.1 h with rfl | h
    · exact List.mem_append_left _ hx
    · exact List.mem_append_right _ (List.mem_append_left _ (mem_com h hx))
theorem nice_of {B : Nat} : ∀ (n : Nat) (p : Ph), p.sz ≤ n → p.wf → (∀ x ∈ p.tk, TokOk B x) → p.nice B
  | 0, p, h, _, _ => by have := p.sz_pos; omega
  | n + 1, p, h, hw, ht => by
    obtain ⟨⟨w1, w2⟩, w3⟩ := (Ph.wf_iff p).1 hw
    have hn := ht p.name (by rw [p.tk_eq]; simp)
    have hsz := p.sz_eq
    refine (Ph.nice_iff B p).2 ⟨⟨w1, hn.2 w1, hn.1, w2⟩, fun q hq => nice_of n q ?_ (w3 q hq) fun x hx => ht x ?_⟩
    · have := sz_mem hq; omega
    · rw [p.tk_eq]
      exact List.mem_cons_of_mem _ (mem_bod (List.mem_map_of_mem hq) hx)
structure Se.nice (B : Nat) (s : Se) : Prop where
  a : s.a.nice B ∧ s.a.dp ≤ 32
  atom : s.atom = true → isSmL s.a.name = true ∧ s.b = Ph.z
  b : s.atom = false → s.b.nice B ∧ s.b.dp ≤ 32
theorem suf_mem {L : List By} {Q : By → Prop} {u r : List By} (h : ∀ x ∈ L, Q x) (e : L = u ++ r) : (∀ x ∈ u, Q x) ∧ ∀ x ∈ r, Q x := by
  subst e
  exact ⟨fun x hx => h x (List.mem_append_left _ hx), fun x hx => h x (List.mem_append_right _ hx)⟩
theorem takeL_suf (L : List By) (s : By) : ∃ u, L = u ++ (takeL L s).2 := by
  cases L with
  | nil => exact ⟨[], rfl⟩
  | cons x l =>
    unfold takeL
    simp only
    split
    · exact ⟨[x], rfl⟩
    · exact ⟨[], rfl⟩
theorem rdX_nice {B n d : Nat} {t : List By} {r : Ph × List Ph × Bool × List By} (ht : ∀ x ∈ t, TokOk B x) (h : rdXL n d t none = some r) (hok : r.2.2.1 = true) : r.1.nice B ∧ d + r.1.dp ≤ 33 ∧ ∃ u, t = u ++ r.2.2.2 := by
  obtain ⟨h1, h2, h3, _⟩ := (rdXL_wf n).1 d t r h hok
  exact ⟨nice_of _ r.1 (Nat.le_refl _) h1 (suf_mem ht h2).1, h3, _, h2⟩
theorem rdLL_nice {B n : Nat} {t : List By} {r : Se × Bool × List By} (ht : ∀ x ∈ t, TokOk B x) (h : rdLL n t = some r) (hok : r.2.1 = true) : r.1.nice B ∧ ∃ u, t = u ++ r.2.2 := by
  unfold rdLL at h
  obtain ⟨u0, e0⟩ := takeL_suf t [126]
  have ht0 := (suf_mem ht e0).2
  split at h
  · cases h
  · rename_i q hq
    split at h
    · rename_i hqok
      obtain ⟨a1, a2, u1, e1⟩ := rdX_nice ht0 hq hqok
      have ht1 := (suf_mem ht0 e1).2
      obtain ⟨u2, e2⟩ := takeL_suf q.2.2.2 [61]
      have ht2 := (suf_mem ht1 e2).2
      obtain ⟨u3, e3⟩ := takeL_suf (takeL q.2.2.2 [61]).2 unlB
      have ht3 := (suf_mem ht2 e3).2
      split at h
      · split at h
        · cases h
        · rename_i q2 hq2
          cases h
          obtain ⟨b1, b2, u4, e4⟩ := rdX_nice ht2 hq2 hok
          exact ⟨⟨⟨a1, by show q.1.dp ≤ 32; omega⟩, (fun e => by cases e), fun _ => ⟨b1, by show q2.1.dp ≤ 32; omega⟩⟩, u0 ++ (u1 ++ (u2 ++ u4)), by
            rw [List.append_assoc, List.append_assoc, List.append_assoc, ← e4, ← e2, ← e1, ← e0]⟩
      · split at h
        · split at h
          · cases h
          · rename_i q2 hq2
            cases h
            obtain ⟨b1, b2, u4, e4⟩ := rdX_nice ht3 hq2 hok
            exact ⟨⟨⟨a1, by show q.1.dp ≤ 32; omega⟩, (fun e => by cases e), fun _ => ⟨b1, by show q2.1.dp ≤ 32; omega⟩⟩, u0 ++ (u1 ++ (u2 ++ (u3 ++ u4))), by
              rw [List.append_assoc, List.append_assoc, List.append_assoc, List.append_assoc, ← e4, ← e3, ← e2, ← e1, ← e0]⟩
        · cases h
          exact ⟨⟨⟨a1, by show q.1.dp ≤ 32; omega⟩, (fun _ => ⟨hok, rfl⟩), (fun e => by cases e)⟩, u0 ++ (u1 ++ (u2 ++ u3)), by
            rw [List.append_assoc, List.append_assoc, List.append_assoc, ← e3, ← e2, ← e1, ← e0]⟩
    · cases h; cases hok
theorem rdLsL_nice {B n : Nat} : ∀ {m : Nat} {t : List By} {acc : List Se} {r : List Se × Bool × List By}, (∀ x ∈ t, TokOk B x) → rdLsL n m t acc = some r → r.2.1 = true → (∀ s ∈ acc, s.nice B) → (∀ s ∈ r.1, s.nice B) ∧ ∃ u, t = u ++ r.2.2
  | 0, _, _, _, _, h, _, _ => by cases h
  | m + 1, t, acc, r, ht, h, hok, ha => by
    rw [rdLsL] at h
    split at h
    · cases h
    · rename_i q hq
      split at h
      · rename_i hqok
        obtain ⟨a1, u1, e1⟩ := rdLL_nice ht hq hqok
        have ht1 := (suf_mem ht e1).2
        obtain ⟨u2, e2⟩ := takeL_suf q.2.2 [124]
        have hacc : ∀ s ∈ acc ++ [q.1], s.nice B := fun s hs => by
          rcases List.mem_append.1 hs with hs | hs
          · exact ha s hs
          · rw [List.mem_singleton.1 hs]; exact a1
        split at h
        · obtain ⟨b1, u3, e3⟩ := rdLsL_nice (suf_mem ht1 e2).2 h hok hacc
          exact ⟨b1, u1 ++ (u2 ++ u3), by rw [List.append_assoc, List.append_assoc, ← e3, ← e2, ← e1]⟩
        · cases h
          exact ⟨hacc, u1 ++ u2, by rw [List.append_assoc, ← e2, ← e1]⟩
      · cases h; cases hok
theorem rdCL_nice {B n : Nat} {t : List By} {r : List Se × Bool × List By} (ht : ∀ x ∈ t, TokOk B x) (h : rdCL n t = some r) (hok : r.2.1 = true) : (∀ s ∈ r.1, s.nice B) ∧ ∃ u, t = u ++ r.2.2 := by
  unfold rdCL at h
  obtain ⟨u0, e0⟩ := takeL_suf t neverB
  split at h
  · cases h
    exact ⟨(fun s hs => by cases hs), u0, e0⟩
  · obtain ⟨a1, u1, e1⟩ := rdLsL_nice (suf_mem ht e0).2 h hok (fun s hs => by cases hs)
    exact ⟨a1, u0 ++ u1, by rw [List.append_assoc, ← e1, ← e0]⟩
theorem rdFL_nice {B n : Nat} : ∀ {m : Nat} {t : List By} {acc : List (List Se)} {r : List (List Se) × Bool}, (∀ x ∈ t, TokOk B x) → rdFL n m t acc = some r → (∀ c ∈ acc, ∀ s ∈ c, s.nice B) → ∀ c ∈ r.1, ∀ s ∈ c, s.nice B
  | 0, _, _, _, _, h, _ => by cases h
  | m + 1, t, acc, r, ht, h, ha => by
    rw [rdFL] at h
    split at h
    · cases h; exact ha
    · split at h
      · cases h
      · rename_i q hq
        split at h
        · rename_i hqok
          obtain ⟨a1, u1, e1⟩ := rdCL_nice ht hq hqok
          obtain ⟨u2, e2⟩ := takeL_suf q.2.2 [46]
          split at h
          · refine rdFL_nice (suf_mem (suf_mem ht e1).2 e2).2 h fun c hc => ?_
            rcases List.mem_append.1 hc with hc | hc
            · exact ha c hc
            · rw [List.mem_singleton.1 hc]; exact a1
          · cases h; intro c hc; cases hc
        · cases h; intro c hc; cases hc
theorem rdAll_nice {n : Nat} {src : By} {r : List (List Se) × Bool} (h : rdAll n src = some r) : ∀ c ∈ r.1, ∀ s ∈ c, s.nice src.length := by
  rw [rdAll_tl] at h
  exact rdFL_nice (toks_ok _ src (Nat.le_refl _)) h (fun c hc => by cases hc)
end Go.Proofs.YtebhbnhijnpmcaaGreatDoor
namespace Go.Proofs.YtebhbnhijnpmcaaGreatDoor
open Go.RowKit
set_option linter.unusedVariables false
set_option maxRecDepth 100000
noncomputable def Tm.zz (t : Tm) : Nat := Tm.rec (motive_1 := fun _ => Nat) (motive_2 := fun _ => Nat) (fun f _ ih => match decide (f < 0) with | true => 1 | false => 1 + ih) 0 (fun _ _ a b => a + b) t
noncomputable def wtK (c : List Lt) : Nat := (c.map fun l => l.a.zz + l.b.zz).sum
noncomputable def mnK (n : Nat) : Nm → List (List Se) → List (List Lt) → Option (Nm × List (List Lt) × Bool)
  | st, [], acc => some (st, acc, true)
  | st, c :: cs, acc => match clsF n st c with
    | none => none
    | some r => match r.2.1 && Nat.ble (wtK r.1) 60 with
      | true => mnK n r.2.2 cs (acc ++ [r.1])
      | false => some (st, [], false)
noncomputable def prK (n : Nat) (src : By) : Option (Sg × List (List Lt) × Int) :=
  match Nat.blt 32768 src.length with
  | true => some (⟨[], [], []⟩, [], 9)
  | false => match rdAll n src with
    | none => none
    | some r => match r.2 && Nat.ble r.1.length 64 with
      | true => (match mnK n nm0 r.1 [] with
        | none => none
        | some q => match q.2.2 with
          | true => some (q.1.sg, q.2.1, 0)
          | false => some (⟨[], [], []⟩, [], 7))
      | false => some (⟨[], [], []⟩, [], 7)
def repB (b : By) : Nat → By
  | 0 => []
  | k + 1 => repB b k ++ b
def srcD (d : Nat) : By := ((([112, 40] ++ repB [102, 40] d) ++ [97]) ++ repB [41] d) ++ [41, 46]
def srcQ (c : Nat) : By := repB [113, 46, 32] c
noncomputable def ckD (d : Nat) : Bool := match prK 200 (srcD d) with
  | some r => (decide (r.2.2 = 7) == Nat.blt 32 (d + 2)) && (decide (r.2.2 = 0) == Nat.beq r.2.1.length 1) && (decide (r.2.2 = 0) || decide (r.2.2 = 7))
  | none => false
noncomputable def ckQ (c : Nat) : Bool := match prK 200 (srcQ c) with
  | some r => (decide (r.2.2 = 7) == Nat.blt 64 c) && (!decide (r.2.2 = 0) || Nat.beq r.2.1.length c) && (decide (r.2.2 = 0) || decide (r.2.2 = 7))
  | none => false
end Go.Proofs.YtebhbnhijnpmcaaGreatDoor
namespace Go.Proofs.YtebhbnhijnpmcaaGreatDoor
open Go.RowKit
set_option linter.unusedVariables false
set_option linter.unusedSimpArgs false
set_option maxRecDepth 100000
def ClG (c : List Lt) : Prop := c.length ≤ 1000000 ∧ (∀ x ∈ c, x.a.ok ∧ x.b.ok) ∧ okC c ∧ wtL c ≤ 60
theorem mnF_g {n : Nat} : ∀ (cs : List (List Se)) (st : Nm) (acc : List (List Lt)) (q : Nm × List (List Lt) × Bool), (∀ c ∈ cs, (∀ s ∈ c, s.ok) ∧ c.length ≤ 1000000 ∧ (c.map Se.sz).sum ≤ 1000000) → st.ok → (∀ c ∈ acc, ClG c) → mnF n st cs acc = some q → ∀ c ∈ q.2.1, ClG c
  | [], st, acc, q, _, _, ha, e => by
    simp only [mnF, Option.some.injEq] at e
    subst e
    exact ha
  | c :: cs, st, acc, q, hc, hs, ha, e => by
    rw [mnF] at e
    split at e
    · cases e
    · rename_i r hr
      obtain ⟨h1, h2, h3⟩ := hc c (by simp)
      obtain ⟨g1, g2, g3, g4, g5⟩ := clsF_g hs h1 h3 hr
      split at e
      · rename_i hk
        have hk : wtL r.1 ≤ 60 := by
          rw [Bool.and_eq_true, decide_eq_true_eq] at hk
          exact hk.2
        refine mnF_g cs _ _ q (fun c hm => hc c (List.mem_cons_of_mem _ hm)) g1 (fun c hm => ?_) e
        rcases List.mem_append.1 hm with hm | hm
        · exact ha c hm
        · rw [List.mem_singleton.1 hm]; exact ⟨by omega, g5, g2, hk⟩
      · cases e
        exact fun c hm => by cases hm
theorem prF_g {n : Nat} {src : By} {r : Sg × List (List Lt) × Int} (h : prF n src = some r) : ∀ c ∈ r.2.1, ClG c := by
  unfold prF at h
  split at h
  · cases h; exact fun c hm => by cases hm
  · rename_i hl
    split at h
    · cases h
    · rename_i q hq
      have hg := rdAll_g (by omega) hq
      split at h
      · split at h
        · cases h
        · rename_i m hm
          have := mnF_g q.1 nm0 [] m (fun c hc => by have := hg c hc; exact ⟨this.1, this.2.1, by omega⟩) ⟨rfl, rfl, by decide, (fun p hp => by cases hp), List.nodup_nil, ⟨by decide, (fun p hp => by cases hp)⟩, (fun p hp => by cases hp), List.nodup_nil, ⟨by decide, (fun p hp => by cases hp)⟩⟩ (fun c hc => by cases hc) hm
          split at h
          · cases h; exact this
          · cases h; exact fun c hm => by cases hm
      · cases h; exact fun c hm => by cases hm
theorem prF_nil {n : Nat} {src : By} {r : Sg × List (List Lt) × Int} (h : prF n src = some r) (he : r.2.2 ≠ 0) : r.2.1 = [] ∧ r.1 = sgz := by
  unfold prF at h
  split at h
  · cases h; exact ⟨rfl, rfl⟩
  · split at h
    · cases h
    · split at h
      · split at h
        · cases h
        · split at h
          · cases h; exact absurd rfl he
          · cases h; exact ⟨rfl, rfl⟩
      · cases h; exact ⟨rfl, rfl⟩
def sepB : Nat → By
  | 0 => [40]
  | _ + 1 => [44]
def argP : Nat → By
  | 0 => [102, 111, 111]
  | k + 1 => (argP k ++ sepB k) ++ [97]
def argB : Nat → By
  | 0 => argP 0
  | k + 1 => argP (k + 1) ++ [41]
def srcK (n k : Nat) (p : Bool) : By := match p with
  | true => ((argB n ++ [32, 61, 32, 98, 46, 32]) ++ argB k) ++ [46]
  | false => (((argB n ++ [32, 61, 32, 98, 46, 32]) ++ [99, 32, 61, 32]) ++ argB k) ++ [46]
def srcB (n : Nat) : By := argB n ++ [32, 61, 32, 98, 46, 32, 98, 97, 114, 32, 124, 32, 126, 98, 97, 114, 46]
noncomputable def ckK (n k : Nat) (p : Bool) : Bool := match prK 60 (srcK n k p) with
  | some r => match p || !Nat.beq n k with
    | true => decide (r.2.2 = 7)
    | false => decide (r.2.2 = 0) && (Nat.beq r.2.1.length 2 && rcB r.1 (r.2.1.getD 0 []))
  | none => false
noncomputable def ckB (n : Nat) : Bool := match prK 60 (srcB n) with
  | some r => decide (r.2.2 = 0) && Nat.beq r.2.1.length 2
  | none => false
end Go.Proofs.YtebhbnhijnpmcaaGreatDoor
namespace Go.Proofs.YtebhbnhijnpmcaaGreatDoor
open Go.RowKit
set_option linter.unusedVariables false
set_option linter.unusedSimpArgs false
set_option maxRecDepth 10000
theorem nodup_subA {α : Type} [DecidableEq α] : ∀ {l m : List α}, l.Nodup → (∀ x ∈ l, x ∈ m) → l.length ≤ m.length
  | [], _, _, _ => Nat.zero_le _
  | x :: l, m, hn, hs => by
    rw [List.nodup_cons] at hn
    have hx := hs x (by simp)
    have h1 : l.length ≤ (m.erase x).length := nodup_subA hn.2 fun y hy => by
      exact (List.mem_erase_of_ne (a := y) (b := x) (fun e => hn.1 (by rw [← e]; exact hy))).2 (hs y (List.mem_cons_of_mem _ hy))
    rw [List.length_erase_of_mem hx] at h1
    have : 0 < m.length := List.length_pos_of_mem hx
    rw [List.length_cons]
    omega
def trueB : By := [36, 116, 114, 117, 101]
structure Rl (s1 s2 : Nm) : Prop where
  sub : ∀ p ∈ s1.sy, ∃ j, (p.1, j) ∈ s2.sy
  nms : ∀ x ∈ s1.sg.nm, x ∈ s2.sg.nm
  nd : s1.sg.nm.Nodup
  few : s2.sg.nm.length ≤ 201
  one : ∀ p ∈ s2.sy, ∀ q ∈ s2.sy, p.1.1 = q.1.1 → p.1 = q.1
  has : ∀ x ∈ s1.sg.nm, x = trueB ∨ ∃ p ∈ s1.sy, p.1.1 = x
  ins : ∀ p ∈ s2.sy, p.1.1 ∈ s2.sg.nm
  ne : ∀ p ∈ s2.sy, p.1.1 ≠ trueB
  tr : trueB ∈ s2.sg.nm
  vr : s1.vr = s2.vr
theorem Rl.clear {s1 s2 : Nm} (h : Rl s1 s2) : Rl ⟨s1.sg, s1.sy, []⟩ ⟨s2.sg, s2.sy, []⟩ := ⟨h.sub, h.nms, h.nd, h.few, h.one, h.has, h.ins, h.ne, h.tr, rfl⟩
theorem Rl.zero : Rl nm0 nm0 := ⟨(fun p hp => by cases hp), (fun x hx => hx), by simp [nm0, sg0], by decide, (fun p hp => by cases hp), (fun x hx => .inl (by simpa [nm0, sg0, trueB] using hx)), (fun p hp => by cases hp), (fun p hp => by cases hp), by simp [nm0, sg0, trueB], rfl⟩
theorem lkA_mem {α : Type} [DecidableEq α] {l : List (α × Nat)} {k : α} {j : Nat} (h : (k, j) ∈ l) : lkA l k ≠ none := fun e => lkA_none e _ h rfl
theorem numF_rl {s1 s2 : Nm} (h : Rl s1 s2) {k : Kd} (hok : (numF s2 k).2.1 = true) : (numF s1 k).2.1 = true ∧ Rl (numF s1 k).2.2 (numF s2 k).2.2 := by
  unfold numF at hok ⊢
  cases h1 : lkA s1.sy k with
  | some i =>
    obtain ⟨j, hj⟩ := h.sub _ (lkA_some h1)
    cases h2 : lkA s2.sy k with
    | none => exact absurd h2 (lkA_mem hj)
    | some j2 => exact ⟨rfl, h⟩
  | none =>
    cases h2 : lkA s2.sy k with
    | some j =>
      have hm := lkA_some h2
      have hn1 : k.1 ∉ s1.sg.nm := fun hx => by
        rcases h.has _ hx with e | ⟨p, hp, e⟩
        · exact h.ne _ hm e
        · obtain ⟨j', hj'⟩ := h.sub p hp
          have : p.1 = k := h.one _ hj' _ hm e
          exact lkA_none h1 p hp this
      have hl : (k.1 :: s1.sg.nm).length ≤ s2.sg.nm.length := nodup_subA (List.nodup_cons.2 ⟨hn1, h.nd⟩) fun x hx => by
        rcases List.mem_cons.1 hx with rfl | hx
        · exact h.ins _ hm
        · exact h.nms x hx
      rw [List.length_cons] at hl
      have hf := h.few
      have hno : ¬ (200 < s1.sg.nm.length ∨ k.1 ∈ s1.sg.nm) := fun e => by
        rcases e with e | e
        · omega
        · exact hn1 e
      simp only
      rw [if_neg hno]
      refine ⟨rfl, ⟨fun p hp => ?_, fun x hx => ?_, ?_, h.few, h.one, fun x hx => ?_, h.ins, h.ne, h.tr, h.vr⟩⟩
      · rcases List.mem_append.1 hp with hp | hp
        · exact h.sub p hp
        · rw [List.mem_singleton.1 hp]; exact ⟨j, hm⟩
      · rcases List.mem_append.1 hx with hx | hx
        · exact h.nms x hx
        · rw [List.mem_singleton.1 hx]; exact h.ins _ hm
      · show (s1.sg.nm ++ [k.1]).Nodup
        rw [List.nodup_append]
        exact ⟨h.nd, by simp, fun a ha b hb e => hn1 (by rw [List.mem_singleton.1 hb] at e; rw [← e]; exact ha)⟩
      · rcases List.mem_append.1 hx with hx | hx
        · rcases h.has x hx with e | ⟨p, hp, e⟩
          · exact .inl e
          · exact .inr ⟨p, List.mem_append_left _ hp, e⟩
        · exact .inr ⟨(k, s1.sg.nm.length), by simp, (List.mem_singleton.1 hx).symm⟩
    | none =>
      rw [h2] at hok
      simp only at hok
      have hno2 : ¬ (200 < s2.sg.nm.length ∨ k.1 ∈ s2.sg.nm) := fun e => by rw [if_pos e] at hok; cases hok
      have hn2 : k.1 ∉ s2.sg.nm := fun e => hno2 (.inr e)
      have hl2 : s2.sg.nm.length ≤ 200 := by
        rcases Nat.lt_or_ge 200 s2.sg.nm.length with e | e
        · exact absurd (.inl e) hno2
        · exact e
      have hl : s1.sg.nm.length ≤ s2.sg.nm.length := nodup_subA h.nd h.nms
      have hn1 : k.1 ∉ s1.sg.nm := fun e => hn2 (h.nms _ e)
      have hno : ¬ (200 < s1.sg.nm.length ∨ k.1 ∈ s1.sg.nm) := fun e => by
        rcases e with e | e
        · omega
        · exact hn1 e
      simp only
      rw [if_neg hno, if_neg hno2]
      refine ⟨rfl, ⟨fun p hp => ?_, fun x hx => ?_, ?_, ?_, fun p hp q hq e => ?_, fun x hx => ?_, fun p hp => ?_, fun p hp => ?_, List.mem_append_left _ h.tr, h.vr⟩⟩
      · rcases List.mem_append.1 hp with hp | hp
        · obtain ⟨j, hj⟩ := h.sub p hp
          exact ⟨j, List.mem_append_left _ hj⟩
        · rw [List.mem_singleton.1 hp]; exact ⟨s2.sg.nm.length, by simp⟩
      · rcases List.mem_append.1 hx with hx | hx
        · exact List.mem_append_left _ (h.nms x hx)
        · exact List.mem_append_right _ hx
      · show (s1.sg.nm ++ [k.1]).Nodup
        rw [List.nodup_append]
        exact ⟨h.nd, by simp, fun a ha b hb e => hn1 (by rw [List.mem_singleton.1 hb] at e; rw [← e]; exact ha)⟩
      · show (s2.sg.nm ++ [k.1]).length ≤ 201
        rw [List.length_append]
        simp only [List.length_cons, List.length_nil]
        omega
      · rcases List.mem_append.1 hp with hp | hp <;> rcases List.mem_append.1 hq with hq | hq
        · exact h.one p hp q hq e
        · rw [List.mem_singleton.1 hq] at e
          exact absurd (by rw [← e]; exact h.ins p hp) hn2
        · rw [List.mem_singleton.1 hp] at e
          exact absurd (by rw [e]; exact h.ins q hq) hn2
        · rw [List.mem_singleton.1 hp, List.mem_singleton.1 hq]
      · rcases List.mem_append.1 hx with hx | hx
        · rcases h.has x hx with e | ⟨p, hp, e⟩
          · exact .inl e
          · exact .inr ⟨p, List.mem_append_left _ hp, e⟩
        · exact .inr ⟨(k, s1.sg.nm.length), by simp, (List.mem_singleton.1 hx).symm⟩
      · rcases List.mem_append.1 hp with hp | hp
        · exact List.mem_append_left _ (h.ins p hp)
        · rw [List.mem_singleton.1 hp]; simp
      · rcases List.mem_append.1 hp with hp | hp
        · exact h.ne p hp
        · rw [List.mem_singleton.1 hp]
          exact fun e => hn2 (by rw [e]; exact h.tr)
theorem varF_rl {s1 s2 : Nm} (h : Rl s1 s2) (v : By) : (varF s1 v).1 = (varF s2 v).1 ∧ Rl (varF s1 v).2 (varF s2 v).2 := by
  unfold varF
  rw [h.vr]
  split
  · exact ⟨rfl, h⟩
  · exact ⟨rfl, ⟨h.sub, h.nms, h.nd, h.few, h.one, h.has, h.ins, h.ne, h.tr, rfl⟩⟩
def SimF (f : Nm → Ph → Option (Tm × Bool × Nm)) : Prop := ∀ s1 s2 p r2, Rl s1 s2 → f s2 p = some r2 → r2.2.1 = true → ∃ r1, f s1 p = some r1 ∧ r1.2.1 = true ∧ Rl r1.2.2 r2.2.2 ∧ r1.1.size = r2.1.size
theorem fold_rl {f : Nm → Ph → Option (Tm × Bool × Nm)} (hf : SimF f) : ∀ (ps : List Ph) (s1 s2 : Nm) (a1 a2 : List Tm) (r2 : List Tm × Bool × Nm), Rl s1 s2 → (a1.map Tm.size).sum = (a2.map Tm.size).sum → foldP f s2 ps a2 = some r2 → r2.2.1 = true → ∃ r1, foldP f s1 ps a1 = some r1 ∧ r1.2.1 = true ∧ Rl r1.2.2 r2.2.2 ∧ (r1.1.map Tm.size).sum = (r2.1.map Tm.size).sum
  | [], s1, s2, a1, a2, r2, h, ha, e, _ => by
    simp only [foldP, Option.some.injEq] at e
    subst e
    exact ⟨_, rfl, rfl, h, ha⟩
  | p :: ps, s1, s2, a1, a2, r2, h, ha, e, hok => by
    rw [foldP] at e ⊢
    cases hx : f s2 p with
    | none => rw [hx] at e; cases e
    | some q2 =>
      rw [hx] at e
      simp only at e
      split at e
      · rename_i hq
        obtain ⟨q1, k1, k2, k3, k4⟩ := hf s1 s2 p q2 h hx hq
        rw [k1]
        simp only [k2, if_true]
        exact fold_rl hf ps _ _ _ _ r2 k3 (by simp only [List.map_append, List.sum_append, List.map_cons, List.map_nil, List.sum_cons, List.sum_nil]; omega) e hok
      · cases e; cases hok
theorem size_sym (i : Nat) (l : List Tm) : Tm.size ⟨(i : Int), l⟩ = 1 + (l.map Tm.size).sum := by
  rw [Tm.size_eq, show Tm.ps ⟨(i : Int), l⟩ = l by unfold Tm.ps; rw [if_neg (by show ¬ ((_ : Nat) : Int) < 0; omega)], flat_len]
theorem sym_rl {f : Nm → Ph → Option (Tm × Bool × Nm)} (hf : SimF f) {s1 s2 : Nm} {p : Ph} {pred : Bool} {r2 : Tm × Bool × Nm} (h : Rl s1 s2) (e : symF f s2 p pred = some r2) (hok : r2.2.1 = true) : ∃ r1, symF f s1 p pred = some r1 ∧ r1.2.1 = true ∧ Rl r1.2.2 r2.2.2 ∧ r1.1.size = r2.1.size := by
  unfold symF at e ⊢
  split at e
  · rename_i hn
    obtain ⟨n1, n2⟩ := numF_rl h hn
    split at e
    · cases e
    · rename_i q2 hq
      split at e
      · rename_i hq2
        cases e
        obtain ⟨q1, k1, k2, k3, k4⟩ := fold_rl hf p.parts _ _ [] [] q2 n2 rfl hq hq2
        rw [if_pos n1, k1]
        simp only [k2, if_true]
        refine ⟨_, rfl, rfl, k3, ?_⟩
        show Tm.size ⟨_, q1.1⟩ = Tm.size ⟨_, q2.1⟩
        rw [size_sym, size_sym, k4]
      · cases e; cases hok
  · cases e; cases hok
theorem tmF_rl : ∀ n : Nat, SimF (tmF n)
  | 0, _, _, _, _, _, e, _ => by simp [tmF] at e
  | n + 1, s1, s2, p, r2, h, e, hok => by
    rw [tmF] at e ⊢
    split at e
    · rename_i hg
      rw [if_pos hg]
      cases e
      obtain ⟨v1, v2⟩ := varF_rl h p.name
      exact ⟨_, rfl, rfl, v2, by show Tm.size ⟨_, []⟩ = Tm.size ⟨_, []⟩; rw [v1]⟩
    · rename_i hg
      rw [if_neg hg]
      exact sym_rl (tmF_rl n) h e hok
theorem litF_rl {n : Nat} {s1 s2 : Nm} {s : Se} {r2 : Lt × Bool × Nm} (h : Rl s1 s2) (e : litF n s2 s = some r2) (hok : r2.2.1 = true) : ∃ r1, litF n s1 s = some r1 ∧ r1.2.1 = true ∧ Rl r1.2.2 r2.2.2 ∧ r1.1.a.size + r1.1.b.size = r2.1.a.size + r2.1.b.size := by
  unfold litF at e ⊢
  split at e
  · rename_i ha
    rw [if_pos ha]
    split at e
    · cases e
    · rename_i q2 hq
      cases e
      obtain ⟨q1, k1, k2, k3, k4⟩ := sym_rl (tmF_rl n) h hq hok
      rw [k1]
      exact ⟨_, rfl, k2, k3, by show q1.1.size + _ = q2.1.size + _; rw [k4]⟩
  · rename_i ha
    rw [if_neg ha]
    split at e
    · cases e
    · rename_i q2 hq
      split at e
      · rename_i hq2
        obtain ⟨q1, k1, k2, k3, k4⟩ := tmF_rl n s1 s2 s.a q2 h hq hq2
        rw [k1]
        simp only [k2, if_true]
        split at e
        · cases e
        · rename_i u2 hu
          cases e
          obtain ⟨u1, m1, m2, m3, m4⟩ := tmF_rl n _ _ s.b u2 k3 hu hok
          rw [m1]
          exact ⟨_, rfl, m2, m3, by show q1.1.size + u1.1.size = q2.1.size + u2.1.size; rw [k4, m4]⟩
      · cases e; cases hok
theorem litsF_rl {n : Nat} : ∀ (ss : List Se) (s1 s2 : Nm) (a1 a2 : List Lt) (r2 : List Lt × Bool × Nm), Rl s1 s2 → wtL a1 = wtL a2 → litsF n s2 ss a2 = some r2 → r2.2.1 = true → ∃ r1, litsF n s1 ss a1 = some r1 ∧ r1.2.1 = true ∧ Rl r1.2.2 r2.2.2 ∧ wtL r1.1 = wtL r2.1
  | [], s1, s2, a1, a2, r2, h, ha, e, _ => by
    simp only [litsF, Option.some.injEq] at e
    subst e
    exact ⟨_, rfl, rfl, h, ha⟩
  | p :: ps, s1, s2, a1, a2, r2, h, ha, e, hok => by
    rw [litsF] at e ⊢
    cases hx : litF n s2 p with
    | none => rw [hx] at e; cases e
    | some q2 =>
      rw [hx] at e
      simp only at e
      split at e
      · rename_i hq
        obtain ⟨q1, k1, k2, k3, k4⟩ := litF_rl h hx hq
        rw [k1]
        simp only [k2, if_true]
        refine litsF_rl ps _ _ _ _ r2 k3 ?_ e hok
        unfold wtL at ha ⊢
        simp only [List.map_append, List.sum_append, List.map_cons, List.map_nil, List.sum_cons, List.sum_nil]
        omega
      · cases e; cases hok
theorem mnF_rl {n : Nat} : ∀ (cs : List (List Se)) (s1 s2 : Nm) (a1 a2 : List (List Lt)) (q2 : Nm × List (List Lt) × Bool), Rl ⟨s1.sg, s1.sy, []⟩ ⟨s2.sg, s2.sy, []⟩ → mnF n s2 cs a2 = some q2 → q2.2.2 = true → ∃ q1, mnF n s1 cs a1 = some q1 ∧ q1.2.2 = true ∧ Rl ⟨q1.1.sg, q1.1.sy, []⟩ ⟨q2.1.sg, q2.1.sy, []⟩ ∧ q1.2.1.length + a2.length = q2.2.1.length + a1.length
  | [], s1, s2, a1, a2, q2, h, e, _ => by
    simp only [mnF, Option.some.injEq] at e
    subst e
    exact ⟨_, rfl, rfl, h, Nat.add_comm _ _⟩
  | c :: cs, s1, s2, a1, a2, q2, h, e, hok => by
    rw [mnF] at e ⊢
    split at e
    · cases e
    · rename_i r2 hr
      split at e
      · rename_i hk
        rw [Bool.and_eq_true, decide_eq_true_eq] at hk
        obtain ⟨r1, k1, k2, k3, k4⟩ := litsF_rl c ⟨s1.sg, s1.sy, []⟩ ⟨s2.sg, s2.sy, []⟩ [] [] r2 h rfl hr hk.1
        have k1 : clsF n s1 c = some r1 := k1
        rw [k1]
        simp only
        rw [if_pos (by rw [Bool.and_eq_true, decide_eq_true_eq]; exact ⟨k2, by omega⟩)]
        obtain ⟨q1, m1, m2, m3, m4⟩ := mnF_rl cs r1.2.2 r2.2.2 (a1 ++ [r1.1]) (a2 ++ [r2.1]) q2 k3.clear e hok
        refine ⟨q1, m1, m2, m3, ?_⟩
        rw [List.length_append, List.length_append] at m4
        simp only [List.length_cons, List.length_nil] at m4
        omega
      · cases e; cases hok
theorem prF_ok {n : Nat} {src : By} {r : Sg × List (List Lt) × Int} (h : prF n src = some r) (he : r.2.2 = 0) : src.length ≤ 32768 ∧ ∃ cs q, rdAll n src = some (cs, true) ∧ cs.length ≤ 64 ∧ mnF n nm0 cs [] = some q ∧ q.2.2 = true ∧ r.1 = q.1.sg ∧ r.2.1 = q.2.1 := by
  unfold prF at h
  split at h
  · cases h; cases he
  · rename_i hl
    split at h
    · cases h
    · rename_i c hc
      split at h
      · rename_i hk
        rw [Bool.and_eq_true, decide_eq_true_eq] at hk
        split at h
        · cases h
        · rename_i q hq
          split at h
          · rename_i hq2
            cases h
            obtain ⟨cs, b⟩ := c
            have hb : b = true := hk.1
            subst hb
            exact ⟨by omega, cs, q, hc, hk.2, hq, hq2, rfl, rfl⟩
          · cases h; cases he
      · cases h; cases he
theorem prF_of {n : Nat} {src : By} {cs : List (List Se)} {q : Nm × List (List Lt) × Bool} (hl : src.length ≤ 32768) (h1 : rdAll n src = some (cs, true)) (h2 : cs.length ≤ 64) (h3 : mnF n nm0 cs [] = some q) (h4 : q.2.2 = true) : prF n src = some (q.1.sg, q.2.1, 0) := by
  unfold prF
  rw [if_neg (by omega), h1]
  simp only [Bool.true_and, h2, decide_true, if_true]
  rw [h3]
  simp only [h4, if_true]
def dval (l : By) : Nat := l.foldl (fun n c => 10 * n + (c.toNat - 48)) 0
theorem dval_snoc (l : By) (c : UInt8) : dval (l ++ [c]) = 10 * dval l + (c.toNat - 48) := by
  unfold dval
  rw [List.foldl_append]
  rfl
theorem dig_nat {d : Nat} (h : d < 10) : (UInt8.ofNat (48 + d)).toNat = 48 + d := by
  rw [UInt8.toNat_ofNat']
  omega
theorem dval_dec : ∀ (n u : Nat), u ≤ n → dval (Lib.decDigits u) = u
  | 0, u, h => by
    have : u = 0 := by omega
    subst this
    rw [Lib.decDigits]
    rfl
  | n + 1, u, h => by
    rw [Lib.decDigits]
    split
    · rename_i h1
      show 10 * 0 + ((UInt8.ofNat (48 + u)).toNat - 48) = u
      rw [dig_nat h1]; omega
    · rename_i h1
      rw [dval_snoc, dval_dec n (u / 10) (by omega), dig_nat (by omega)]
      omega
theorem dec_inj {a b : Nat} (h : Lib.decDigits a = Lib.decDigits b) : a = b := by
  rw [← dval_dec a a (Nat.le_refl _), ← dval_dec b b (Nat.le_refl _), h]
theorem dec_inB : ∀ (n u : Nat), u ≤ n → (Lib.decDigits u).all inB = true ∧ (Lib.decDigits u).length ≤ u + 1 ∧ Lib.decDigits u ≠ [] := by
  have hd : ∀ d, d < 10 → inB (UInt8.ofNat (48 + d)) = true := fun d h => by
    unfold inB
    rw [dig_nat h]
    simp
    omega
  intro n
  induction n with
  | zero =>
    intro u h
    have : u = 0 := by omega
    subst this
    rw [Lib.decDigits]
    exact ⟨by decide, by decide, by decide⟩
  | succ n ih =>
    intro u h
    rw [Lib.decDigits]
    split
    · rename_i h1
      exact ⟨by rw [List.all_cons, hd u h1]; rfl, by simp, by simp⟩
    · rename_i h1
      obtain ⟨i1, i2, i3⟩ := ih (u / 10) (by omega)
      refine ⟨?_, ?_, by simp⟩
      · rw [List.all_append, i1, List.all_cons, hd (u % 10) (by omega)]
        rfl
      · rw [List.length_append]
        simp
        omega
def xN (i : Nat) : By := 88 :: Lib.decDigits i
theorem xN_inj {i j : Nat} (h : xN i = xN j) : i = j := dec_inj (List.cons.inj h).2
theorem xN_gr (i : Nat) : isGrL (xN i) = true := rfl
theorem xN_nm (i : Nat) : isNmL (xN i) = true := rfl
theorem xN_all (i : Nat) : (xN i).all inB = true := by
  unfold xN
  rw [List.all_cons, (dec_inB i i (Nat.le_refl _)).1]
  rfl
def twV (k : Nat) : List (By × Nat) := (List.range k).map fun i => (xN i, i)
theorem twV_len (k : Nat) : (twV k).length = k := by unfold twV; simp
theorem twV_succ (k : Nat) : twV (k + 1) = twV k ++ [(xN k, k)] := by
  unfold twV
  rw [List.range_succ, List.map_append]
  rfl
theorem twV_look (k j : Nat) : lkA (twV k) (xN j) = if j < k then some j else none := by
  induction k with
  | zero => rfl
  | succ k ih =>
    rw [twV_succ]
    unfold lkA at ih ⊢
    rw [List.find?_append, Option.map_or, ih]
    by_cases h : j < k
    · rw [if_pos h, if_pos (by omega)]
      rfl
    · rw [if_neg h]
      by_cases h2 : j = k
      · subst h2
        rw [if_pos (by omega)]
        simp
      · rw [if_neg (by omega)]
        have : ¬ xN k = xN j := fun e => h2 (xN_inj e).symm
        simp [this]
def tw (st : Nm) : Nm := ⟨st.sg, st.sy, twV st.vr.length⟩
def phT (nm : List By) : Tm → Ph
  | ⟨f, l⟩ => if f < 0 then ⟨xN (-1 - f).toNat, []⟩ else ⟨symX nm f.toNat, l.map (phT nm)⟩
theorem phT_eq (nm : List By) (t : Tm) : phT nm t = if t.f < 0 then ⟨xN (-1 - t.f).toNat, []⟩ else ⟨symX nm t.f.toNat, t.l.map (phT nm)⟩ := by cases t; rw [phT]
def SmN (B : Nat) (x : By) : Prop := isSmL x = true ∧ x.all inB = true ∧ x.length ≤ B
theorem sm_gr {x : By} (h : isSmL x = true) : isGrL x = false ∧ isNmL x = true ∧ x ≠ trueB := by
  cases x with
  | nil => cases h
  | cons b l =>
    have h : smB b = true := h
    refine ⟨?_, ?_, fun e => ?_⟩
    · show grB b = false
      unfold smB at h
      unfold grB
      simp at h ⊢
      omega
    · unfold isNmL
      show (!decide (b :: l = []) && (smB b || grB b)) = true
      rw [h]
      simp
    · unfold trueB at e
      have := (List.cons.inj e).1
      subst this
      revert h
      decide
structure Nx (B : Nat) (st : Nm) : Prop where
  nms : ∀ (i : Nat) (x : By), st.sg.nm[i]? = some x → (i = 0 ∧ x = trueB) ∨ (0 < i ∧ SmN B x)
  one : 0 < st.sg.nm.length
  few : st.sg.nm.length ≤ 201
  vrr : ∀ p ∈ st.vr, p.2 < st.vr.length
  syi : ∀ k i, (k, i) ∈ st.sy → st.sg.nm[i]? = some k.1
theorem pre_at {α : Type} {l m : List α} (h : l <+: m) {i : Nat} {x : α} (hx : l[i]? = some x) : m[i]? = some x := by
  obtain ⟨t, rfl⟩ := h
  rw [List.getElem?_append_left (List.getElem?_eq_some_iff.1 hx).1]
  exact hx
theorem numF_nx {B : Nat} {st : Nm} (h : Nx B st) {k : Kd} (hk : SmN B k.1) (hok : (numF st k).2.1 = true) : Nx B (numF st k).2.2 ∧ st.sg.nm <+: (numF st k).2.2.sg.nm ∧ (numF st k).2.2.vr = st.vr ∧ (numF st k).2.2.sg.nm[(numF st k).1]? = some k.1 ∧ 0 < (numF st k).1 ∧ numF (tw st) k = ((numF st k).1, true, tw (numF st k).2.2) := by
  have hsm := sm_gr hk.1
  unfold numF at hok ⊢
  show _ ∧ _ ∧ _ ∧ _ ∧ _ ∧ (match lkA st.sy k with | some i => (i, true, tw st) | none => if 200 < st.sg.nm.length ∨ k.1 ∈ st.sg.nm then (0, false, tw st) else (st.sg.nm.length, true, ⟨⟨st.sg.nm ++ [k.1], st.sg.ar ++ [k.2.1], st.sg.pr ++ [k.2.2]⟩, st.sy ++ [(k, st.sg.nm.length)], (tw st).vr⟩)) = _
  cases hl : lkA st.sy k with
  | some i =>
    have hi := h.syi k i (lkA_some hl)
    refine ⟨h, List.prefix_refl _, rfl, hi, ?_, rfl⟩
    rcases h.nms i k.1 hi with ⟨_, e⟩ | ⟨e, _⟩
    · exact absurd e hsm.2.2
    · exact e
  | none =>
    rw [hl] at hok
    simp only at hok ⊢
    split at hok
    · cases hok
    · rename_i hb
      rw [if_neg hb]
      have hb1 : ¬ 200 < st.sg.nm.length := fun e => hb (.inl e)
      have hat : (st.sg.nm ++ [k.1])[st.sg.nm.length]? = some k.1 := by simp
      have hone := h.one
      refine ⟨⟨fun i x hx => ?_, ?_, ?_, h.vrr, fun k' i hm => ?_⟩, List.prefix_append _ _, rfl, hat, h.one, by rw [if_neg hb]; rfl⟩
      · have hx : (st.sg.nm ++ [k.1])[i]? = some x := hx
        rcases Nat.lt_or_ge i st.sg.nm.length with hlt | hge
        · rw [List.getElem?_append_left hlt] at hx
          exact h.nms i x hx
        · rw [List.getElem?_append_right hge] at hx
          have hi0 : i - st.sg.nm.length = 0 := by
            have := (List.getElem?_eq_some_iff.1 hx).1
            simp at this
            omega
          rw [hi0] at hx
          have hx : k.1 = x := by simpa using hx
          right
          exact ⟨by omega, hx ▸ hk⟩
      · show 0 < (st.sg.nm ++ [k.1]).length; simp
      · show (st.sg.nm ++ [k.1]).length ≤ 201; simp; omega
      · have hm : (k', i) ∈ st.sy ++ [(k, st.sg.nm.length)] := hm
        show (st.sg.nm ++ [k.1])[i]? = _
        rcases List.mem_append.1 hm with hm | hm
        · have := h.syi k' i hm
          rw [List.getElem?_append_left (List.getElem?_eq_some_iff.1 this).1]
          exact this
        · have := List.mem_singleton.1 hm
          cases this
          exact hat
theorem varF_nx {B : Nat} {st : Nm} (h : Nx B st) (v : By) : Nx B (varF st v).2 ∧ (varF st v).2.sg = st.sg ∧ (varF st v).1 < (varF st v).2.vr.length ∧ st.vr.length ≤ (varF st v).2.vr.length ∧ (varF st v).2.vr.length ≤ st.vr.length + 1 ∧ varF (tw st) (xN (varF st v).1) = ((varF st v).1, tw (varF st v).2) := by
  unfold varF
  cases hl : lkA st.vr v with
  | some i =>
    have hi := h.vrr _ (lkA_some hl)
    refine ⟨h, rfl, hi, Nat.le_refl _, Nat.le_succ _, ?_⟩
    show (match lkA (twV st.vr.length) (xN i) with | some j => (j, tw st) | none => _) = _
    rw [twV_look, if_pos hi]
  | none =>
    refine ⟨⟨h.nms, h.one, h.few, fun p hp => ?_, h.syi⟩, rfl, by simp, by simp, by simp, ?_⟩
    · have hp : p ∈ st.vr ++ [(v, st.vr.length)] := hp
      show p.2 < (st.vr ++ [(v, st.vr.length)]).length
      rw [List.length_append]
      rcases List.mem_append.1 hp with hp | hp
      · have := h.vrr p hp; simp; omega
      · rw [List.mem_singleton.1 hp]; simp
    · show (match lkA (twV st.vr.length) (xN st.vr.length) with | some j => (j, tw st) | none => ((twV st.vr.length).length, (⟨st.sg, st.sy, twV st.vr.length ++ [(xN st.vr.length, (twV st.vr.length).length)]⟩ : Nm))) = _
      rw [twV_look, if_neg (by omega), twV_len, ← twV_succ]
      unfold tw
      simp
def Tm.bd (L V : Nat) : Tm → Prop
  | ⟨f, l⟩ => ((f < 0 → -1 - f < V ∧ l = []) ∧ (0 ≤ f → 0 < f ∧ f < L)) ∧ ∀ s ∈ l, s.bd L V
theorem Tm.bd_iff (L V : Nat) (t : Tm) : t.bd L V ↔ ((t.f < 0 → -1 - t.f < V ∧ t.l = []) ∧ (0 ≤ t.f → 0 < t.f ∧ t.f < L)) ∧ ∀ s ∈ t.l, s.bd L V := by cases t; rw [Tm.bd]
theorem Tm.bd_mono {L V L' V' : Nat} (hL : L ≤ L') (hV : V ≤ V') : ∀ t : Tm, t.bd L V → t.bd L' V' := by
  refine Tm.ind ?_
  intro f l ih h
  obtain ⟨⟨h1, h2⟩, h3⟩ := (Tm.bd_iff L V ⟨f, l⟩).1 h
  refine (Tm.bd_iff L' V' ⟨f, l⟩).2 ⟨⟨fun e => ⟨by have := (h1 e).1; omega, (h1 e).2⟩, fun e => ⟨(h2 e).1, by have := (h2 e).2; omega⟩⟩, fun s hs => ih s hs (h3 s hs)⟩
structure TmR (B n : Nat) (st : Nm) (p : Ph) (t : Tm) (st' : Nm) : Prop where
  nx : Nx B st'
  pre : st.sg.nm <+: st'.sg.nm
  vle : st.vr.length ≤ st'.vr.length ∧ st'.vr.length ≤ st.vr.length + t.size
  bd : t.bd st'.sg.nm.length st'.vr.length
  dp : ∀ nmF, (phT nmF t).dp = p.dp
  twin : ∀ nmF, st'.sg.nm <+: nmF → tmF n (tw st) (phT nmF t) = some (t, true, tw st')
theorem fold_tw {B n : Nat} (hf : ∀ st p r, Nx B st → p.nice B → tmF n st p = some r → r.2.1 = true → TmR B n st p r.1 r.2.2) : ∀ (ps : List Ph) (st : Nm) (acc : List Tm) (r : List Tm × Bool × Nm), Nx B st → (∀ p ∈ ps, p.nice B) → foldP (tmF n) st ps acc = some r → r.2.1 = true → ∃ ts, r.1 = acc ++ ts ∧ ts.length = ps.length ∧ Nx B r.2.2 ∧ st.sg.nm <+: r.2.2.sg.nm ∧ (st.vr.length ≤ r.2.2.vr.length ∧ r.2.2.vr.length ≤ st.vr.length + (ts.map Tm.size).sum) ∧ (∀ t ∈ ts, t.bd r.2.2.sg.nm.length r.2.2.vr.length) ∧ (∀ nmF, (ts.map (phT nmF)).map Ph.dp = ps.map Ph.dp) ∧ ∀ nmF, r.2.2.sg.nm <+: nmF → ∀ acc', foldP (tmF n) (tw st) (ts.map (phT nmF)) acc' = some (acc' ++ ts, true, tw r.2.2)
  | [], st, acc, r, h, _, e, _ => by
    simp only [foldP, Option.some.injEq] at e
    subst e
    exact ⟨[], by simp, rfl, h, List.prefix_refl _, ⟨Nat.le_refl _, by simp⟩, (fun t ht => by cases ht), (fun _ => rfl), fun nmF _ acc' => by simp [foldP]⟩
  | p :: ps, st, acc, r, h, hp, e, hok => by
    rw [foldP] at e
    cases hx : tmF n st p with
    | none => rw [hx] at e; cases e
    | some q =>
      rw [hx] at e
      simp only at e
      split at e
      · rename_i hq
        have h1 := hf st p q h (hp p (by simp)) hx hq
        obtain ⟨ts, a1, a2, a3, a4, a5, a6, a7, a8⟩ := fold_tw hf ps q.2.2 (acc ++ [q.1]) r h1.nx (fun x hm => hp x (List.mem_cons_of_mem _ hm)) e hok
        have hv := h1.vle
        refine ⟨q.1 :: ts, by rw [a1]; simp, by simp [a2], a3, h1.pre.trans a4, ⟨by omega, by rw [List.map_cons, List.sum_cons]; omega⟩, fun t ht => ?_, fun nmF => ?_, fun nmF hF acc' => ?_⟩
        · rcases List.mem_cons.1 ht with rfl | ht
          · exact Tm.bd_mono a4.length_le a5.1 _ h1.bd
          · exact a6 t ht
        · rw [List.map_cons, List.map_cons, List.map_cons, h1.dp nmF, a7 nmF]
        · rw [List.map_cons, foldP, h1.twin nmF (a4.trans hF)]
          simp only [if_true]
          rw [a8 nmF hF]
          simp
      · cases e; cases hok
theorem sym_tw {B n : Nat} (hf : ∀ st p r, Nx B st → p.nice B → tmF n st p = some r → r.2.1 = true → TmR B n st p r.1 r.2.2) {st : Nm} {p : Ph} {pred : Bool} {r : Tm × Bool × Nm} (h : Nx B st) (hp : p.nice B) (hg : isSmL p.name = true) (e : symF (tmF n) st p pred = some r) (hok : r.2.1 = true) : Nx B r.2.2 ∧ st.sg.nm <+: r.2.2.sg.nm ∧ (st.vr.length ≤ r.2.2.vr.length ∧ r.2.2.vr.length ≤ st.vr.length + r.1.size) ∧ r.1.bd r.2.2.sg.nm.length r.2.2.vr.length ∧ 0 < r.1.f ∧ (∀ nmF, (phT nmF r.1).dp = p.dp) ∧ ∀ nmF, r.2.2.sg.nm <+: nmF → isSmL (phT nmF r.1).name = true ∧ (phT nmF r.1).name = p.name ∧ symF (tmF n) (tw st) (phT nmF r.1) pred = some (r.1, true, tw r.2.2) := by
  obtain ⟨⟨p1, p2, p3, p4⟩, p5⟩ := (Ph.nice_iff B p).1 hp
  unfold symF at e
  split at e
  · rename_i hn
    obtain ⟨n1, n2, n3, n4, n5, n6⟩ := numF_nx h (k := ⟨p.name, p.parts.length, pred⟩) ⟨hg, p2, p3⟩ hn
    split at e
    · cases e
    · rename_i q hq
      split at e
      · rename_i hqok
        cases e
        obtain ⟨ts, a1, a2, a3, a4, a5, a6, a7, a8⟩ := fold_tw hf p.parts _ [] q n1 p5 hq hqok
        rw [List.nil_append] at a1
        rw [n3] at a5
        obtain ⟨num, hnum⟩ : ∃ num, num = (numF st ⟨p.name, p.parts.length, pred⟩).1 := ⟨_, rfl⟩
        rw [← hnum] at n4 n5 n6 ⊢
        have hlt : num < q.2.2.sg.nm.length := (List.getElem?_eq_some_iff.1 (pre_at a4 n4)).1
        have hph : ∀ nmF, phT nmF ⟨(num : Int), q.1⟩ = ⟨symX nmF num, ts.map (phT nmF)⟩ := fun nmF => by
          rw [phT_eq, if_neg (by show ¬ (num : Int) < 0; omega), a1]
          rfl
        refine ⟨a3, n2.trans a4, ⟨a5.1, ?_⟩, ?_, ?_, fun nmF => ?_, fun nmF hF => ?_⟩
        · have h1 := size_sym num q.1
          rw [a1] at h1
          have h2 := a5.2
          show q.2.2.vr.length ≤ st.vr.length + Tm.size ⟨(num : Int), q.1⟩
          rw [a1, h1]
          omega
        · refine (Tm.bd_iff _ _ _).2 ⟨⟨fun e => ?_, fun _ => ⟨?_, ?_⟩⟩, fun s hs => a6 s (by rw [← a1]; exact hs)⟩
          · have e : (num : Int) < 0 := e
            omega
          · show (0 : Int) < (num : Int); omega
          · show (num : Int) < (q.2.2.sg.nm.length : Int); omega
        · show (0 : Int) < (num : Int); omega
        · rw [hph, Ph.dp_eq, p.dp_eq]
          show 1 + ((ts.map (phT nmF)).map Ph.dp).foldr max 0 = _
          rw [a7 nmF]
        · have hsx : symX nmF num = p.name := by
            have := pre_at (a4.trans hF) n4
            unfold symX
            rw [this]
          rw [hph, hsx]
          refine ⟨hg, rfl, ?_⟩
          unfold symF
          have hlen : (ts.map (phT nmF)).length = p.parts.length := by rw [List.length_map, a2]
          simp only [hlen]
          rw [n6]
          simp only [if_true]
          rw [a8 nmF hF]
          simp [a1]
      · cases e; cases hok
  · cases e; cases hok
theorem tm_tw {B : Nat} : ∀ (n : Nat) (st : Nm) (p : Ph) (r : Tm × Bool × Nm), Nx B st → p.nice B → tmF n st p = some r → r.2.1 = true → TmR B n st p r.1 r.2.2
  | 0, _, _, _, _, _, e, _ => by cases e
  | n + 1, st, p, r, h, hp, e, hok => by
    obtain ⟨⟨p1, p2, p3, p4⟩, p5⟩ := (Ph.nice_iff B p).1 hp
    rw [tmF] at e
    by_cases hg : isGrL p.name = true
    · rw [if_pos hg] at e
      cases e
      obtain ⟨v1, v2, v3, v4, v5, v6⟩ := varF_nx h p.name
      obtain ⟨i, hi⟩ : ∃ i, i = (varF st p.name).1 := ⟨_, rfl⟩
      rw [← hi] at v3 v6 ⊢
      have hneg : (-1 - (i : Int)) < 0 := by omega
      have hph : ∀ nmF, phT nmF ⟨-1 - (i : Int), []⟩ = ⟨xN i, []⟩ := fun nmF => by
        rw [phT_eq, if_pos hneg]
        show (⟨xN (-1 - (-1 - (i : Int))).toNat, []⟩ : Ph) = _
        rw [show (-1 - (-1 - (i : Int))).toNat = i by omega]
      have hsz : (⟨-1 - (i : Int), []⟩ : Tm).size = 1 := by rw [Tm.size_eq, Tm.ps_of_var hneg]; rfl
      refine ⟨v1, ?_, ⟨v4, ?_⟩, ?_, fun nmF => ?_, fun nmF _ => ?_⟩
      · show st.sg.nm <+: (varF st p.name).2.sg.nm
        rw [v2]; exact List.prefix_refl _
      · show (varF st p.name).2.vr.length ≤ st.vr.length + (⟨-1 - (i : Int), []⟩ : Tm).size
        rw [hsz]; exact v5
      · exact (Tm.bd_iff _ _ _).2 ⟨⟨fun _ => ⟨by show -1 - (-1 - (i : Int)) < ((varF st p.name).2.vr.length : Int); omega, rfl⟩, fun e => by have e : 0 ≤ -1 - (i : Int) := e; omega⟩, fun s hs => by cases hs⟩
      · show (phT nmF ⟨-1 - (i : Int), []⟩).dp = p.dp
        rw [hph, Ph.dp_eq, p.dp_eq, p4 hg]
      · show tmF (n + 1) (tw st) (phT nmF ⟨-1 - (i : Int), []⟩) = _
        rw [hph, tmF]
        show (if isGrL (xN i) then _ else _) = _
        rw [if_pos (xN_gr i)]
        show some ((⟨-1 - ((varF (tw st) (xN i)).1 : Nat), []⟩ : Tm), true, (varF (tw st) (xN i)).2) = _
        rw [v6]
    · rw [if_neg hg] at e
      have hs : isSmL p.name = true := by
        unfold isNmL at p1
        rw [Bool.and_eq_true, Bool.or_eq_true] at p1
        exact p1.2.resolve_right hg
      obtain ⟨a1, a2, a3, a4, a5, a6, a7⟩ := sym_tw (tm_tw n) h hp hs e hok
      refine ⟨a1, a2, a3, a4, a6, fun nmF hF => ?_⟩
      obtain ⟨b1, b2, b3⟩ := a7 nmF hF
      rw [tmF, if_neg (by rw [(sm_gr b1).1]; simp)]
      exact b3
def phL (nm : List By) (l : Lt) : Se := ⟨l.neg, trB l.b, phT nm l.a, if trB l.b then Ph.z else phT nm l.b⟩
structure LtB (L V : Nat) (l : Lt) : Prop where
  a : l.a.bd L V
  t : trB l.b = true → l.b = tz ∧ 0 < l.a.f
  b : trB l.b = false → l.b.bd L V
  da : ∀ nmF, (phT nmF l.a).dp ≤ 32
  db : trB l.b = false → ∀ nmF, (phT nmF l.b).dp ≤ 32
theorem LtB.mono {L V L' V' : Nat} {l : Lt} (h : LtB L V l) (hL : L ≤ L') (hV : V ≤ V') : LtB L' V' l := ⟨Tm.bd_mono hL hV _ h.a, h.t, fun e => Tm.bd_mono hL hV _ (h.b e), h.da, h.db⟩
theorem tr_tz : trB tz = true := by decide
theorem tr_bd {L V : Nat} {t : Tm} (h : t.bd L V) : trB t = false := by
  obtain ⟨⟨h1, h2⟩, _⟩ := (Tm.bd_iff L V t).1 h
  unfold trB
  have : t.f ≠ 0 := fun e => by have := (h2 (by omega)).1; omega
  simp [this]
theorem lit_tw {B n : Nat} {st : Nm} {s : Se} {r : Lt × Bool × Nm} (h : Nx B st) (hs : s.nice B) (e : litF n st s = some r) (hok : r.2.1 = true) : Nx B r.2.2 ∧ st.sg.nm <+: r.2.2.sg.nm ∧ (st.vr.length ≤ r.2.2.vr.length ∧ r.2.2.vr.length ≤ st.vr.length + (r.1.a.size + r.1.b.size)) ∧ LtB r.2.2.sg.nm.length r.2.2.vr.length r.1 ∧ ∀ nmF, r.2.2.sg.nm <+: nmF → litF n (tw st) (phL nmF r.1) = some (r.1, true, tw r.2.2) := by
  unfold litF at e
  split at e
  · rename_i ha
    split at e
    · cases e
    · rename_i q hq
      cases e
      obtain ⟨a1, a2, a3, a4, a5, a6, a7⟩ := sym_tw (tm_tw n) h hs.a.1 (hs.atom ha).1 hq hok
      refine ⟨a1, a2, ⟨a3.1, ?_⟩, ⟨a4, fun _ => ⟨rfl, a5⟩, (fun e => by cases e), fun nmF => by rw [a6 nmF]; exact hs.a.2, (fun e => by cases e)⟩, fun nmF hF => ?_⟩
      · show q.2.2.vr.length ≤ st.vr.length + (q.1.size + tz.size)
        have := a3.2
        omega
      · have e1 : phL nmF ⟨s.neg, q.1, tz⟩ = ⟨s.neg, true, phT nmF q.1, Ph.z⟩ := rfl
        show litF n (tw st) (phL nmF ⟨s.neg, q.1, tz⟩) = _
        rw [e1]
        unfold litF
        simp only [if_true]
        rw [(a7 nmF hF).2.2]
  · rename_i ha
    have ha : s.atom = false := by simpa using ha
    split at e
    · cases e
    · rename_i q hq
      split at e
      · rename_i hqok
        split at e
        · cases e
        · rename_i q2 hq2
          cases e
          have h1 := tm_tw n st s.a q h hs.a.1 hq hqok
          have h2 := tm_tw n q.2.2 s.b q2 h1.nx (hs.b ha).1 hq2 hok
          have v1 := h1.vle
          have v2 := h2.vle
          have htr := tr_bd h2.bd
          refine ⟨h2.nx, h1.pre.trans h2.pre, ⟨by show st.vr.length ≤ q2.2.2.vr.length; omega, by show q2.2.2.vr.length ≤ st.vr.length + (q.1.size + q2.1.size); omega⟩, ⟨Tm.bd_mono h2.pre.length_le v2.1 _ h1.bd, (fun e => by have e : trB q2.1 = true := e; rw [htr] at e; cases e), fun _ => h2.bd, fun nmF => by show (phT nmF q.1).dp ≤ 32; rw [h1.dp nmF]; exact hs.a.2, fun _ nmF => by show (phT nmF q2.1).dp ≤ 32; rw [h2.dp nmF]; exact (hs.b ha).2⟩, fun nmF hF => ?_⟩
          have e1 : phL nmF ⟨s.neg, q.1, q2.1⟩ = ⟨s.neg, false, phT nmF q.1, phT nmF q2.1⟩ := by unfold phL; simp only [htr]; rfl
          show litF n (tw st) (phL nmF ⟨s.neg, q.1, q2.1⟩) = _
          rw [e1]
          unfold litF
          simp only [Bool.false_eq_true, if_false]
          rw [h1.twin nmF (h2.pre.trans hF)]
          simp only [if_true]
          rw [h2.twin nmF hF]
      · cases e; cases hok
theorem lits_tw {B n : Nat} : ∀ (ss : List Se) (st : Nm) (acc : List Lt) (r : List Lt × Bool × Nm), Nx B st → (∀ s ∈ ss, s.nice B) → litsF n st ss acc = some r → r.2.1 = true → ∃ ls, r.1 = acc ++ ls ∧ ls.length = ss.length ∧ Nx B r.2.2 ∧ st.sg.nm <+: r.2.2.sg.nm ∧ (st.vr.length ≤ r.2.2.vr.length ∧ r.2.2.vr.length ≤ st.vr.length + wtL ls) ∧ (∀ l ∈ ls, LtB r.2.2.sg.nm.length r.2.2.vr.length l) ∧ ∀ nmF, r.2.2.sg.nm <+: nmF → ∀ acc', litsF n (tw st) (ls.map (phL nmF)) acc' = some (acc' ++ ls, true, tw r.2.2)
  | [], st, acc, r, h, _, e, _ => by
    simp only [litsF, Option.some.injEq] at e
    subst e
    exact ⟨[], by simp, rfl, h, List.prefix_refl _, ⟨Nat.le_refl _, by simp⟩, (fun t ht => by cases ht), fun nmF _ acc' => by simp [litsF]⟩
  | s :: ss, st, acc, r, h, hp, e, hok => by
    rw [litsF] at e
    cases hx : litF n st s with
    | none => rw [hx] at e; cases e
    | some q =>
      rw [hx] at e
      simp only at e
      split at e
      · rename_i hq
        obtain ⟨b1, b2, b3, b4, b5⟩ := lit_tw h (hp s (by simp)) hx hq
        obtain ⟨ts, a1, a2, a3, a4, a5, a6, a8⟩ := lits_tw ss q.2.2 (acc ++ [q.1]) r b1 (fun x hm => hp x (List.mem_cons_of_mem _ hm)) e hok
        have hw : wtL (q.1 :: ts) = (q.1.a.size + q.1.b.size) + wtL ts := by unfold wtL; simp
        refine ⟨q.1 :: ts, by rw [a1]; simp, by simp [a2], a3, b2.trans a4, ⟨by omega, by rw [hw]; omega⟩, fun t ht => ?_, fun nmF hF acc' => ?_⟩
        · rcases List.mem_cons.1 ht with rfl | ht
          · exact b4.mono a4.length_le a5.1
          · exact a6 t ht
        · rw [List.map_cons, litsF, b5 nmF (a4.trans hF)]
          simp only [if_true]
          rw [a8 nmF hF]
          simp
      · cases e; cases hok
theorem Nx.clear {B : Nat} {st : Nm} (h : Nx B st) : Nx B ⟨st.sg, st.sy, []⟩ := ⟨h.nms, h.one, h.few, (fun p hp => by cases hp), h.syi⟩
theorem tw_clear (st : Nm) : tw ⟨st.sg, st.sy, []⟩ = ⟨st.sg, st.sy, []⟩ := rfl
theorem cls_tw {B n : Nat} {st : Nm} {c : List Se} {r : List Lt × Bool × Nm} (h : Nx B st) (hc : ∀ s ∈ c, s.nice B) (e : clsF n st c = some r) (hok : r.2.1 = true) : r.1.length = c.length ∧ Nx B r.2.2 ∧ st.sg.nm <+: r.2.2.sg.nm ∧ (∀ l ∈ r.1, LtB r.2.2.sg.nm.length (wtL r.1) l) ∧ ∀ nmF, r.2.2.sg.nm <+: nmF → clsF n (tw st) (r.1.map (phL nmF)) = some (r.1, true, tw r.2.2) := by
  unfold clsF at e
  obtain ⟨ls, a1, a2, a3, a4, a5, a6, a7⟩ := lits_tw c _ [] r h.clear hc e hok
  rw [List.nil_append] at a1
  subst a1
  refine ⟨a2, a3, a4, fun l hl => (a6 l hl).mono (Nat.le_refl _) (by simpa using a5.2), fun nmF hF => ?_⟩
  have := a7 nmF hF []
  rw [tw_clear] at this
  show litsF n ⟨st.sg, st.sy, []⟩ _ [] = _
  simpa using this
theorem mn_tw {B n : Nat} : ∀ (cs : List (List Se)) (st : Nm) (acc : List (List Lt)) (q : Nm × List (List Lt) × Bool), Nx B st → (∀ c ∈ cs, ∀ s ∈ c, s.nice B) → mnF n st cs acc = some q → q.2.2 = true → ∃ ds, q.2.1 = acc ++ ds ∧ ds.length = cs.length ∧ Nx B q.1 ∧ st.sg.nm <+: q.1.sg.nm ∧ (∀ d ∈ ds, wtL d ≤ 60 ∧ ∀ l ∈ d, LtB q.1.sg.nm.length 60 l) ∧ ∀ nmF, q.1.sg.nm <+: nmF → ∀ acc', mnF n (tw st) (ds.map fun d => d.map (phL nmF)) acc' = some (tw q.1, acc' ++ ds, true)
  | [], st, acc, q, h, _, e, _ => by
    simp only [mnF, Option.some.injEq] at e
    subst e
    exact ⟨[], by simp, rfl, h, List.prefix_refl _, (fun t ht => by cases ht), fun nmF _ acc' => by simp [mnF]⟩
  | c :: cs, st, acc, q, h, hp, e, hok => by
    rw [mnF] at e
    cases hx : clsF n st c with
    | none => rw [hx] at e; cases e
    | some r =>
      rw [hx] at e
      simp only at e
      split at e
      · rename_i hr
        have hr' := hr
        rw [Bool.and_eq_true, decide_eq_true_eq] at hr'
        obtain ⟨b1, b2, b3, b4, b5⟩ := cls_tw h (hp c (by simp)) hx hr'.1
        obtain ⟨ds, a1, a2, a3, a4, a5, a6⟩ := mn_tw cs r.2.2 (acc ++ [r.1]) q b2 (fun x hm => hp x (List.mem_cons_of_mem _ hm)) e hok
        refine ⟨r.1 :: ds, by rw [a1]; simp, by simp [a2], a3, b3.trans a4, fun d hd => ?_, fun nmF hF acc' => ?_⟩
        · rcases List.mem_cons.1 hd with rfl | hd
          · exact ⟨hr'.2, fun l hl => (b4 l hl).mono a4.length_le hr'.2⟩
          · exact a5 d hd
        · rw [List.map_cons, mnF, b5 nmF (a4.trans hF)]
          simp only [Bool.true_and]
          rw [if_pos (by rw [decide_eq_true_eq]; exact hr'.2), a6 nmF hF]
          simp
      · cases e; cases hok
theorem nm0_nx (B : Nat) : Nx B nm0 := ⟨fun i x hx => by
    left
    have hlt := (List.getElem?_eq_some_iff.1 hx).1
    have : i = 0 := by
      have : i < 1 := hlt
      omega
    subst this
    have hx : some trueB = some x := hx
    cases hx
    exact ⟨rfl, rfl⟩, by decide, by decide, (fun p hp => by cases hp), (fun k i hm => by cases hm)⟩
structure Prs (B n : Nat) (s : Sg) (l : List (List Lt)) : Prop where
  nms : ∀ (i : Nat) (x : By), s.nm[i]? = some x → (i = 0 ∧ x = trueB) ∨ (0 < i ∧ SmN B x)
  few : s.nm.length ≤ 201
  nd : s.nm.Nodup
  len : l.length ≤ 64
  lits : ∀ d ∈ l, wtL d ≤ 60 ∧ ∀ x ∈ d, LtB s.nm.length 60 x
  twin : ∃ q, mnF n nm0 (l.map fun d => d.map (phL s.nm)) [] = some (q, l, true) ∧ q.sg = s
theorem prF_prs {n : Nat} {src : By} {r : Sg × List (List Lt) × Int} (h : prF n src = some r) (he : r.2.2 = 0) : Prs src.length n r.1 r.2.1 := by
  obtain ⟨h1, cs, q, h2, h3, h4, h5, h6, h7⟩ := prF_ok h he
  obtain ⟨ds, a1, a2, a3, a4, a5, a6⟩ := mn_tw cs nm0 [] q (nm0_nx src.length) (rdAll_nice h2) h4 h5
  rw [List.nil_append] at a1
  obtain ⟨q1, m1, m2, m3, _⟩ := mnF_rl cs nm0 nm0 [] [] q Rl.zero h4 h5
  rw [h4] at m1
  cases m1
  rw [h6, h7, a1]
  refine ⟨a3.nms, a3.few, m3.nd, by rw [a2]; exact h3, a5, tw q.1, ?_, rfl⟩
  have := a6 q.1.sg.nm (List.prefix_refl _) []
  rw [List.nil_append] at this
  exact this
theorem Tm.size_le_l {L V : Nat} {t : Tm} (h : t.bd L V) : t.size = 1 + (t.l.map Tm.size).sum := by
  obtain ⟨⟨h1, h2⟩, h3⟩ := (Tm.bd_iff L V t).1 h
  rcases Int.lt_or_le t.f 0 with hf | hf
  · rw [Tm.size_eq, Tm.ps_of_var hf, (h1 hf).2]; rfl
  · obtain ⟨f, l⟩ := t
    obtain ⟨n, rfl⟩ : ∃ n : Nat, f = (n : Int) := ⟨f.toNat, by have : 0 ≤ f := hf; omega⟩
    exact Go.Proofs.YtebhbnhijnpmcaaGreatDoor.size_sym n l
theorem sum_mem_le {t : Tm} {l : List Tm} (h : t ∈ l) : t.size ≤ (l.map Tm.size).sum := by
  induction l with
  | nil => cases h
  | cons x l ih =>
    rw [List.map_cons, List.sum_cons]
    rcases List.mem_cons.1 h with rfl | h
    · omega
    · have := ih h; omega
theorem Tm.size_pos' {L V : Nat} {t : Tm} (h : t.bd L V) : 1 ≤ t.size := by rw [Tm.size_le_l h]; omega
theorem len_sum {L V : Nat} {l : List Tm} (h : ∀ s ∈ l, s.bd L V) : l.length ≤ (l.map Tm.size).sum := by
  induction l with
  | nil => simp
  | cons x l ih =>
    rw [List.map_cons, List.sum_cons, List.length_cons]
    have := ih fun s hs => h s (List.mem_cons_of_mem _ hs)
    have := Tm.size_pos' (h x (by simp))
    omega
theorem bd_nk {L V : Nat} (hV : V ≤ 100) : ∀ t : Tm, t.bd L V → t.size ≤ 1000000 → t.nk 100 L := by
  refine Tm.ind ?_
  intro f l ih h hs
  obtain ⟨⟨h1, h2⟩, h3⟩ := (Tm.bd_iff L V ⟨f, l⟩).1 h
  simp only at h1 h2 h3
  have hz := Tm.size_le_l h
  simp only at hz
  have hl := len_sum h3
  refine (Tm.nk_iff 100 L ⟨f, l⟩).2 ⟨⟨?_, fun e => ?_, fun e => ?_, ?_⟩, fun s hm => ih s hm (h3 s hm) (by have := sum_mem_le (show s ∈ l from hm); omega)⟩
  · show -9223372036854775808 ≤ f
    rcases Int.lt_or_le f 0 with hf | hf
    · have := (h1 hf).1; omega
    · omega
  · have := (h1 e).1
    show -1 - f < _
    omega
  · have e : (L : Int) ≤ f := e
    have := (h2 (by omega)).2
    omega
  · show l.length ≤ 1000000
    omega
def NmsOk (B : Nat) (nm : List By) : Prop := ∀ (i : Nat) (x : By), nm[i]? = some x → (i = 0 ∧ x = trueB) ∨ (0 < i ∧ SmN B x)
theorem symX_ok {B : Nat} {nm : List By} (h : NmsOk B nm) {n : Nat} (h0 : 0 < n) (hn : n < nm.length) : SmN B (symX nm n) := by
  have hx : nm[n]? = some nm[n] := List.getElem?_eq_getElem hn
  unfold symX
  rw [hx]
  rcases h n _ hx with ⟨e, _⟩ | ⟨_, e⟩
  · omega
  · exact e
theorem joinW_len (sep : By) : ∀ l : List By, (joinW sep l).length + sep.length ≤ (l.map fun x => x.length + sep.length).sum + sep.length ∧ (l ≠ [] → (joinW sep l).length + sep.length ≤ (l.map fun x => x.length + sep.length).sum)
  | [] => by simp [joinW]
  | x :: xs => by
    have h : (joinW sep (x :: xs)).length = x.length + (xs.map fun y => y.length + sep.length).sum := by
      show (x ++ xs.flatMap (sep ++ ·)).length = _
      rw [List.length_append, List.length_flatMap]
      congr 2
      apply List.map_congr_left
      intro y _
      show (sep ++ y).length = _
      rw [List.length_append]
      omega
    rw [h, List.map_cons, List.sum_cons]
    exact ⟨by omega, fun _ => by omega⟩
theorem sum_le_mul {l : List Tm} {f : Tm → Nat} {C : Nat} (h : ∀ t ∈ l, f t ≤ t.size * C) : (l.map f).sum ≤ (l.map Tm.size).sum * C := by
  induction l with
  | nil => simp
  | cons x l ih =>
    rw [List.map_cons, List.sum_cons, List.map_cons, List.sum_cons, Nat.add_mul]
    have := h x (by simp)
    have := ih fun t ht => h t (List.mem_cons_of_mem _ ht)
    omega
theorem txT_len {B : Nat} {nm : List By} (hn : NmsOk B nm) : ∀ t : Tm, t.bd nm.length 60 → (txT nm t).length + 1 ≤ t.size * (B + 64) := by
  refine Tm.ind ?_
  intro f l ih h
  obtain ⟨⟨h1, h2⟩, h3⟩ := (Tm.bd_iff nm.length 60 ⟨f, l⟩).1 h
  simp only at h1 h2 h3
  have hz := Tm.size_le_l h
  simp only at hz
  rw [txT_eq, hz]
  simp only
  rcases Int.lt_or_le f 0 with hf | hf
  · rw [if_pos hf, List.length_cons, (h1 hf).2]
    have hv := (h1 hf).1
    have := (dec_inB (-1 - f).toNat _ (Nat.le_refl _)).2.1
    simp
    omega
  · rw [if_neg (by omega), List.length_append]
    obtain ⟨n, rfl⟩ : ∃ n : Nat, f = (n : Int) := ⟨f.toNat, by omega⟩
    rw [Int.toNat_natCast]
    have hb := h2 hf
    have hs := (symX_ok hn (n := n) (by omega) (by omega)).2.2
    by_cases hle : l = []
    · subst hle
      simp [parX]
      omega
    · have hne : l.map (txT nm) ≠ [] := fun e => hle (List.map_eq_nil_iff.1 e)
      rw [parX_ne hne, List.length_cons, List.length_append]
      have hj := (joinW_len [44] (l.map (txT nm))).2 hne
      rw [List.map_map] at hj
      have hsum := sum_le_mul (l := l) (f := (fun x => x.length + ([44] : By).length) ∘ txT nm) (C := B + 64) fun t ht => ih t ht (h3 t ht)
      have hm : (1 + (l.map Tm.size).sum) * (B + 64) = (B + 64) + (l.map Tm.size).sum * (B + 64) := by rw [Nat.add_mul, Nat.one_mul]
      have e1 : ([44] : By).length = 1 := rfl
      have e2 : ([41] : By).length = 1 := rfl
      omega
theorem txL_len {B : Nat} {nm : List By} (hn : NmsOk B nm) {l : Lt} (h : LtB nm.length 60 l) : (txL nm l).length ≤ (l.a.size + l.b.size) * (B + 64) + 4 := by
  have ha := txT_len hn l.a h.a
  unfold txL
  rw [Nat.add_mul]
  cases ht : trB l.b with
  | true =>
    rw [if_pos rfl, List.length_append]
    split
    · have : ([126] : By).length = 1 := rfl
      omega
    · have : ([] : By).length = 0 := rfl
      omega
  | false =>
    rw [if_neg (by simp), List.length_append, List.length_append]
    have hb := txT_len hn l.b (h.b ht)
    split
    · have : ([32, 33, 61, 32] : By).length = 4 := rfl
      omega
    · have : ([32, 61, 32] : By).length = 3 := rfl
      omega
theorem wt_pos {nm : List By} {l : Lt} (h : LtB nm.length 60 l) : 2 ≤ l.a.size + l.b.size := by
  have ha := Tm.size_pos' h.a
  cases ht : trB l.b with
  | true => rw [(h.t ht).1, tz_size]; omega
  | false => have := Tm.size_pos' (h.b ht); omega
theorem txC_len {B : Nat} {nm : List By} (hn : NmsOk B nm) {c : List Lt} (hw : wtL c ≤ 60) (h : ∀ x ∈ c, LtB nm.length 60 x) : (txC nm c).length ≤ 60 * (B + 72) + 6 ∧ c.length ≤ 60 := by
  have key : ∀ d : List Lt, (∀ x ∈ d, LtB nm.length 60 x) → (d.map fun x => (txL nm x).length + 3).sum ≤ wtL d * (B + 72) ∧ d.length ≤ wtL d := by
    intro d
    induction d with
    | nil => intro _; simp [wtL]
    | cons x d ih =>
      intro hd
      obtain ⟨i1, i2⟩ := ih fun y hy => hd y (List.mem_cons_of_mem _ hy)
      have hx := txL_len hn (hd x (by simp))
      have hp := wt_pos (hd x (by simp))
      have e : wtL (x :: d) = (x.a.size + x.b.size) + wtL d := by unfold wtL; simp
      rw [List.map_cons, List.sum_cons, e, Nat.add_mul, List.length_cons]
      have e2 : (x.a.size + x.b.size) * (B + 72) = (x.a.size + x.b.size) * (B + 64) + (x.a.size + x.b.size) * 8 := by rw [← Nat.mul_add]
      omega
  obtain ⟨k1, k2⟩ := key c h
  refine ⟨?_, by omega⟩
  unfold txC
  split
  · have : neverB.length = 6 := rfl
    omega
  · rename_i hc
    have hj := (joinW_len [32, 124, 32] (c.map (txL nm))).1
    rw [List.map_map] at hj
    have e3 : ([32, 124, 32] : By).length = 3 := rfl
    have e4 : (c.map ((fun x => x.length + ([32, 124, 32] : By).length) ∘ txL nm)) = c.map fun x => (txL nm x).length + 3 := rfl
    rw [e4] at hj
    have : wtL c * (B + 72) ≤ 60 * (B + 72) := Nat.mul_le_mul_right _ hw
    omega
theorem txA_len {B : Nat} {nm : List By} (hn : NmsOk B nm) {l : List (List Lt)} (h : ∀ c ∈ l, wtL c ≤ 60 ∧ ∀ x ∈ c, LtB nm.length 60 x) : (txA nm l).length ≤ l.length * (60 * (B + 72) + 8) := by
  induction l with
  | nil => simp [txA]
  | cons c l ih =>
    have e : txA nm (c :: l) = (txC nm c ++ [46, 10]) ++ txA nm l := by unfold txA; rw [List.flatMap_cons]
    have h1 := (txC_len hn (h c (by simp)).1 (h c (by simp)).2).1
    have h2 := ih fun d hd => h d (List.mem_cons_of_mem _ hd)
    have e3 : (c :: l).length = l.length + 1 := rfl
    rw [e, List.length_append, List.length_append, e3, Nat.add_mul]
    have : ([46, 10] : By).length = 2 := rfl
    omega
end Go.Proofs.YtebhbnhijnpmcaaGreatDoor
-- @STR@
namespace Go.Proofs.YtebhbnhijnpmcaaGreatDoor
open Go.RowKit
set_option linter.unusedVariables false
set_option linter.unusedSimpArgs false
set_option maxRecDepth 100000

-- 
set_option maxHeartbeats 4000000 in
theorem parse_abs (W : World) (n : Nat) (src : By) (r : Sg × List (List Lt) × Int) (hl : src.length ≤ 9223372036854775807) (hr : prF n src = some r) : AFun Tryz.prog W 5 [sv src] (.tup [sgv r.1, .lst (r.2.1.map lcv), .sc (.int .u8 r.2.2)]) := by
  unfold prF at hr
  refine afun_of (rs := [sgv r.1, .lst (r.2.1.map lcv), .sc (.int .u8 r.2.2)]) Tryz.func5 Tryz.ntmps5 rfl rfl rfl rfl ?_
  intro w U hW
  refine aS (aR ?_)
  (refine nx (a_alloc (gN rfl) rfl rfl rfl rfl rfl rfl rfl rfl rfl rfl) rfl ?_)
  (refine nx (aA (gN rfl) rfl rfl rfl rfl rfl) rfl ?_)
  (refine nx (aA (gN rfl) rfl rfl rfl rfl rfl) rfl ?_)
  show AWp _ _ _ _ _ _ _
  refine aS (aS (aR ?_))
  (refine nx (aM (gN rfl) rfl rfl rfl rfl rfl) rfl ?_)
  (refine nx (a_slen (gN rfl) rfl rfl rfl rfl rfl rfl rfl) rfl ?_)
  (refine nx (a_gtr (gN rfl) rfl rfl rfl rfl rfl rfl) rfl ?_)
  show AWp _ _ _ _ _ _ _
  refine AWp.wk (wk_sub (s' := [(0, .val (sv src)), (2, .bp 2 0 []), (100002, ⟨5, sgcZ, 1, 0, [0]⟩), (11, .val (.b (decide ((32768 : Int) < (src.length : Int)))))]) ⟨rfl, rfl, rfl, rfl, trivial⟩) ?_
  refine aC rfl (fun hc => ?_) (fun hc => aK ?_)
  · have hgt : 32768 < src.length := by
      have : (32768 : Int) < (src.length : Int) := by simpa using hc
      omega
    rw [if_pos hgt] at hr
    cases hr
    refine aS (aR ?_)
    (refine nx (a_build (gN rfl) rfl rfl rfl rfl rfl rfl rfl rfl rfl rfl rfl) rfl ?_)
    (refine nx (aSt (gN rfl) rfl rfl rfl rfl rfl rfl rfl rfl rfl rfl) rfl ?_)
    (refine nx (aA (gN rfl) rfl rfl rfl rfl rfl) rfl ?_)
    (refine nx (aA (gN rfl) rfl rfl rfl rfl rfl) rfl ?_)
    show AWp _ _ _ _ _ _ _
    exact aT (And.intro (.inr rfl) rfl)
  · have hle : ¬ 32768 < src.length := by
      have : ¬ (32768 : Int) < (src.length : Int) := by simpa using hc
      omega
    rw [if_neg hle] at hr
    cases hra : rdAll n src with
    | none => rw [hra] at hr; cases hr
    | some q =>
    rw [hra] at hr
    simp only at hr
    have hfl := file_abs w n src q (by omega) hra
    have hg := rdAll_g (by omega) hra
    have hqs := scv_size q.1
    show AWp _ _ _ _ _ _ _
    refine aS (aR ?_)
    (refine nx (aM (gN rfl) rfl rfl rfl rfl rfl) rfl ?_)
    (refine nx (a_call (gN rfl) rfl rfl rfl rfl rfl (hfl)) rfl ?_)
    (refine nx (aM (gN rfl) rfl rfl rfl rfl rfl) rfl ?_)
    (refine nx (aX (gN rfl) rfl rfl rfl rfl rfl rfl) rfl ?_)
    (refine nx (aX (gN rfl) rfl rfl rfl rfl rfl rfl) rfl ?_)
    (refine nx (aA (gN rfl) rfl rfl rfl rfl rfl) rfl ?_)
    (refine nx (aA (gN rfl) rfl rfl rfl rfl rfl) rfl ?_)
    show AWp _ _ _ _ _ _ _
    refine AWp.wk (wk_sub (s' := [(2, .bp 2 0 []), (100002, ⟨5, sgcZ, 1, 0, [0]⟩), (5, .val (.lst (q.1.map scv))), (6, .val (.b q.2))]) ⟨rfl, rfl, rfl, rfl, trivial⟩) ?_
    cases hok : q.2 with
    | false =>
      rw [hok] at hr
      simp only [Bool.false_and, Bool.false_eq_true, if_false, Option.some.injEq] at hr
      cases hr
      refine aS (aS (aR ?_))
      (refine nx (aM (gN rfl) rfl rfl rfl rfl rfl) rfl ?_)
      (refine nx (a_not (gN rfl) rfl rfl rfl rfl rfl) rfl ?_)
      (refine nx (aM (gN rfl) rfl rfl rfl rfl rfl) rfl ?_)
      (refine ⟨_, _, _, a_off (go_off rfl rfl rfl rfl (by first | rfl | assumption | (simp; done) | (simp [*]; done))) rfl rfl rfl, rfl, ?_⟩)
      (refine ⟨_, _, _, a_off (go_off rfl rfl rfl rfl (by first | rfl | assumption | (simp; done) | (simp [*]; done))) rfl rfl rfl, rfl, ?_⟩)
      (refine ⟨_, _, _, a_off (go_off rfl rfl rfl rfl (by first | rfl | assumption | (simp; done) | (simp [*]; done))) rfl rfl rfl, rfl, ?_⟩)
      (refine ⟨_, _, _, aPt (gN rfl) rfl rfl rfl rfl rfl ?hb rfl, rfl, ?_⟩; case hb => (first | rfl | assumption | (simp; done)))
      show AWp _ _ _ _ _ _ _
      refine aC rfl (fun hc => ?_) (fun hc => by cases hc)
      refine aS (aR ?_)
      (refine nx (a_build (gN rfl) rfl rfl rfl rfl rfl rfl rfl rfl rfl rfl rfl) rfl ?_)
      (refine nx (aSt (gN rfl) rfl rfl rfl rfl rfl rfl rfl rfl rfl rfl) rfl ?_)
      (refine nx (aA (gN rfl) rfl rfl rfl rfl rfl) rfl ?_)
      (refine nx (aA (gN rfl) rfl rfl rfl rfl rfl) rfl ?_)
      show AWp _ _ _ _ _ _ _
      exact aT (And.intro (.inr rfl) rfl)
    | true =>
      rw [hok] at hr
      refine aS (aS (aR ?_))
      (refine nx (aM (gN rfl) rfl rfl rfl rfl rfl) rfl ?_)
      (refine nx (a_not (gN rfl) rfl rfl rfl rfl rfl) rfl ?_)
      (refine nx (aM (gN rfl) rfl rfl rfl rfl rfl) rfl ?_)
      (refine nx (aM (gd_on rfl rfl rfl rfl (by first | rfl | assumption | (simp; done))) rfl rfl rfl rfl rfl) rfl ?_)
      (refine nx (a_len (gd_on rfl rfl rfl rfl (by first | rfl | assumption | (simp; done))) rfl rfl rfl rfl rfl rfl rfl) rfl ?_)
      (refine nx (a_gtr (gd_on rfl rfl rfl rfl (by first | rfl | assumption | (simp; done))) rfl rfl rfl rfl rfl rfl) rfl ?_)
      (refine ⟨_, _, _, aPf (gN rfl) rfl rfl rfl rfl rfl ?hb rfl, rfl, ?_⟩; case hb => (first | rfl | assumption | (simp; done)))
      show AWp _ _ _ _ _ _ _
      refine aC rfl (fun hc => ?_) (fun hc => aK ?_)
      · have hgt : ¬ q.1.length ≤ 64 := by
          have : (64 : Int) < (q.1.length : Int) := by simpa using hc
          omega
        simp only [Bool.true_and, hgt, decide_false, Bool.false_eq_true, if_false, Option.some.injEq] at hr
        cases hr
        refine aS (aR ?_)
        (refine nx (a_build (gN rfl) rfl rfl rfl rfl rfl rfl rfl rfl rfl rfl rfl) rfl ?_)
        (refine nx (aSt (gN rfl) rfl rfl rfl rfl rfl rfl rfl rfl rfl rfl) rfl ?_)
        (refine nx (aA (gN rfl) rfl rfl rfl rfl rfl) rfl ?_)
        (refine nx (aA (gN rfl) rfl rfl rfl rfl rfl) rfl ?_)
        show AWp _ _ _ _ _ _ _
        exact aT (And.intro (.inr rfl) rfl)
      · have hle2 : q.1.length ≤ 64 := by
          have : ¬ (64 : Int) < (q.1.length : Int) := by simpa using hc
          omega
        simp only [Bool.true_and, hle2, decide_true, if_true] at hr
        cases hmn : mnF n nm0 q.1 [] with
        | none => rw [hmn] at hr; cases hr
        | some m =>
        rw [hmn] at hr
        simp only at hr
        have hma := mean_abs w n q.1 m (fun c hc => by have := hg c hc; exact ⟨this.1, this.2.1, by omega⟩) (by omega) hmn
        show AWp _ _ _ _ _ _ _
        refine aS (aR ?_)
        (refine nx (aM (gN rfl) rfl rfl rfl rfl rfl) rfl ?_)
        (refine nx (a_call (gN rfl) rfl rfl rfl rfl rfl (hma)) rfl ?_)
        (refine nx (aM (gN rfl) rfl rfl rfl rfl rfl) rfl ?_)
        (refine nx (aX (gN rfl) rfl rfl rfl rfl rfl rfl) rfl ?_)
        (refine nx (aX (gN rfl) rfl rfl rfl rfl rfl rfl) rfl ?_)
        (refine nx (aX (gN rfl) rfl rfl rfl rfl rfl rfl) rfl ?_)
        (refine nx (a_alloc (gN rfl) rfl rfl rfl rfl rfl rfl rfl rfl rfl rfl) rfl ?_)
        (refine nx (aSt (gN rfl) rfl rfl rfl rfl rfl rfl rfl rfl rfl rfl) rfl ?_)
        (refine nx (aA (gN rfl) rfl rfl rfl rfl rfl) rfl ?_)
        (refine nx (aA (gN rfl) rfl rfl rfl rfl rfl) rfl ?_)
        show AWp _ _ _ _ _ _ _
        refine AWp.wk (wk_sub (s' := [(2, .bp 2 0 []), (100002, ⟨5, sgcZ, 1, 0, [0]⟩), (7, .bp 7 0 []), (100007, .bx (sgv (bif m.2.2 then m.1.sg else sgz))), (8, .val (.lst (m.2.1.map lcv))), (6, .val (.b m.2.2))]) ⟨rfl, rfl, rfl, rfl, rfl, rfl, trivial⟩) ?_
        cases hok2 : m.2.2 with
        | false =>
          rw [hok2] at hr
          simp only [Bool.false_eq_true, if_false, Option.some.injEq] at hr
          cases hr
          refine aS (aS (aR ?_))
          (refine nx (aM (gN rfl) rfl rfl rfl rfl rfl) rfl ?_)
          (refine nx (a_not (gN rfl) rfl rfl rfl rfl rfl) rfl ?_)
          show AWp _ _ _ _ _ _ _
          refine aC rfl (fun hc => ?_) (fun hc => by cases hc)
          refine aS (aR ?_)
          (refine nx (a_build (gN rfl) rfl rfl rfl rfl rfl rfl rfl rfl rfl rfl rfl) rfl ?_)
          (refine nx (aSt (gN rfl) rfl rfl rfl rfl rfl rfl rfl rfl rfl rfl) rfl ?_)
          (refine nx (aA (gN rfl) rfl rfl rfl rfl rfl) rfl ?_)
          (refine nx (aA (gN rfl) rfl rfl rfl rfl rfl) rfl ?_)
          show AWp _ _ _ _ _ _ _
          exact aT (And.intro (.inr rfl) rfl)
        | true =>
          rw [hok2] at hr
          simp only [if_true, Option.some.injEq] at hr
          cases hr
          refine aS (aS (aR ?_))
          (refine nx (aM (gN rfl) rfl rfl rfl rfl rfl) rfl ?_)
          (refine nx (a_not (gN rfl) rfl rfl rfl rfl rfl) rfl ?_)
          show AWp _ _ _ _ _ _ _
          refine aC rfl (fun hc => by cases hc) (fun hc => aK ?_)
          show AWp _ _ _ _ _ _ _
          refine aS (aR ?_)
          (refine nx (aL (gN rfl) rfl rfl rfl rfl rfl rfl rfl rfl rfl rfl rfl rfl) rfl ?_)
          (refine nx (aM (gN rfl) rfl rfl rfl rfl rfl) rfl ?_)
          (refine nx (aSt (gN rfl) rfl rfl rfl rfl rfl rfl rfl rfl rfl rfl) rfl ?_)
          (refine nx (aA (gN rfl) rfl rfl rfl rfl rfl) rfl ?_)
          (refine nx (aA (gN rfl) rfl rfl rfl rfl rfl) rfl ?_)
          show AWp _ _ _ _ _ _ _
          exact aT (And.intro (.inr rfl) rfl)
end Go.Proofs.YtebhbnhijnpmcaaGreatDoor

-- @STR@
namespace Go.Proofs.YtebhbnhijnpmcaaGreatDoor
open Go.RowKit
set_option linter.unusedVariables false
set_option linter.unusedSimpArgs false
set_option maxRecDepth 100000

def exS12 : Sg := ⟨[[36, 116, 114, 117, 101], [112], [113]], [0, 1, 0], [true, true, true]⟩
def exC12 : List Lt := [⟨false, ⟨1, [⟨-1, []⟩]⟩, tz⟩, ⟨true, ⟨2, []⟩, tz⟩]
end Go.Proofs.YtebhbnhijnpmcaaGreatDoor

-- @STR@
namespace Go.Proofs.YtebhbnhijnpmcaaGreatDoor
open Go.RowKit
set_option linter.unusedVariables false
set_option linter.unusedSimpArgs false
set_option maxRecDepth 100000

end Go.Proofs.YtebhbnhijnpmcaaGreatDoor

-- @STR@
namespace Go.Proofs.YtebhbnhijnpmcaaGreatDoor
open Go.RowKit
set_option linter.unusedVariables false
set_option linter.unusedSimpArgs false
set_option maxRecDepth 100000

-- 
theorem to12_abs (W : World) (s : Sg) : AFun Tryz.prog W 8 [sgv s] (.val (sgv s)) := by
  refine afun_of (rs := [sgv s]) Tryz.func8 Tryz.ntmps8 rfl rfl rfl rfl ?_
  intro w U hW
  refine aS (aR ?_)
  (refine nx (a_box (gN rfl) rfl rfl rfl rfl rfl) rfl ?_)
  (refine nx (a_alloc (gN rfl) rfl rfl rfl rfl rfl rfl rfl rfl rfl rfl) rfl ?_)
  show AWp _ _ _ _ _ _ _
  refine aS (aR ?_)
  (refine nx (aF (gN rfl) rfl rfl rfl rfl rfl rfl rfl rfl rfl) rfl ?_)
  (refine nx (aLb (gN rfl) rfl rfl rfl rfl rfl rfl rfl rfl rfl rfl rfl rfl) rfl ?_)
  (refine nx (aF (gN rfl) rfl rfl rfl rfl rfl rfl rfl rfl rfl) rfl ?_)
  (refine nx (aLb (gN rfl) rfl rfl rfl rfl rfl rfl rfl rfl rfl rfl rfl rfl) rfl ?_)
  (refine nx (aF (gN rfl) rfl rfl rfl rfl rfl rfl rfl rfl rfl) rfl ?_)
  (refine nx (aLb (gN rfl) rfl rfl rfl rfl rfl rfl rfl rfl rfl rfl rfl rfl) rfl ?_)
  (refine nx (a_build (gN rfl) rfl rfl rfl rfl rfl rfl rfl rfl rfl rfl rfl) rfl ?_)
  (refine nx (aSt (gN rfl) rfl rfl rfl rfl rfl rfl rfl rfl rfl rfl) rfl ?_)
  show AWp _ _ _ _ _ _ _
  exact aT (And.intro (.inr rfl) rfl)
noncomputable def ofB (s : Sg) (t : Tm) (p : Bool) : Bool := match p with
  | true => atB s t
  | false => rtB s t
theorem ofB_neg {s : Sg} {f : Int} {l : List Tm} {p : Bool} (h : f < 0) : ofB s ⟨f, l⟩ p = !p := by
  cases p with
  | true =>
    show atB s ⟨f, l⟩ = false
    unfold atB
    rw [show decide (0 < (⟨f, l⟩ : Tm).f) = false from decide_eq_false (by show ¬ 0 < f; omega)]
    rfl
  | false =>
    show rtB s ⟨f, l⟩ = true
    rw [rtB_mk, decide_eq_true h]
    rfl
theorem ofB_no {s : Sg} {f : Int} {l : List Tm} {p : Bool} (h0 : 0 ≤ f) (h : f = 0 ∨ (sgc s : Int) ≤ f) : ofB s ⟨f, l⟩ p = false := by
  have hd : (decide (0 < f) && fitB s ⟨f, l⟩) = false := by
    rcases h with h | h
    · rw [decide_eq_false (by omega)]; rfl
    · unfold fitB
      rw [show decide ((⟨f, l⟩ : Tm).f < (sgc s : Int)) = false from decide_eq_false (by show ¬ f < _; omega)]
      simp
  cases p with
  | true =>
    show atB s ⟨f, l⟩ = false
    unfold atB
    rw [← Bool.and_assoc]
    show ((decide (0 < f) && fitB s ⟨f, l⟩) && _) = false
    rw [hd]
    rfl
  | false =>
    show rtB s ⟨f, l⟩ = false
    rw [rtB_mk, decide_eq_false (by omega), ← Bool.and_assoc, hd]
    rfl
theorem ofB_yes {s : Sg} {j : Nat} {l : List Tm} {p : Bool} (h0 : 0 < j) (h : j < sgc s) {x : Nat} {y : Bool} (hx : s.ar[j]? = some x) (hy : s.pr[j]? = some y) : ofB s ⟨(j : Int), l⟩ p = ((y == p) && (decide (x = l.length) && l.all (rtB s))) := by
  have hf : fitB s ⟨(j : Int), l⟩ = decide (x = l.length) := by
    unfold fitB
    rw [show decide (0 ≤ (⟨(j : Int), l⟩ : Tm).f) = true from decide_eq_true (by show 0 ≤ (j : Int); omega), show decide ((⟨(j : Int), l⟩ : Tm).f < (sgc s : Int)) = true from decide_eq_true (by show (j : Int) < _; omega)]
    show (true && (true && decide (s.ar[((j : Int)).toNat]? = some l.length))) = _
    rw [Int.toNat_natCast, hx]
    simp
  have hg : s.pr.getD ((j : Int)).toNat false = y := by rw [Int.toNat_natCast, List.getD_eq_getElem?_getD, hy]; rfl
  cases p with
  | true =>
    show atB s ⟨(j : Int), l⟩ = _
    unfold atB
    rw [hf, show decide (0 < (⟨(j : Int), l⟩ : Tm).f) = true from decide_eq_true (by show 0 < (j : Int); omega)]
    show (true && (decide (x = l.length) && (s.pr.getD ((j : Int)).toNat false && l.all (rtB s)))) = _
    rw [hg]
    cases y <;> simp
  | false =>
    show rtB s ⟨(j : Int), l⟩ = _
    rw [rtB_mk, hf, hg, decide_eq_false (by omega), decide_eq_true (by omega)]
    cases y <;> simp
noncomputable def drB (s : Sg) (l : Lt) : Bool := match trB l.b with
  | true => atB s l.a
  | false => rtB s l.a && rtB s l.b
end Go.Proofs.YtebhbnhijnpmcaaGreatDoor

namespace Go.Proofs.YtebhbnhijnpmcaaGreatDoor
open Go.RowKit
set_option linter.unusedVariables false
set_option linter.unusedSimpArgs false
structure SgLe (s s' : Sg) : Prop where
  ar : ∀ (i : Nat) (x : Nat), s.ar[i]? = some x → s'.ar[i]? = some x
  pr : ∀ (i : Nat) (x : Bool), s.pr[i]? = some x → s'.pr[i]? = some x
  le : sgc s ≤ sgc s'
theorem SgLe.refl (s : Sg) : SgLe s s := ⟨fun _ _ h => h, fun _ _ h => h, Nat.le_refl _⟩
theorem SgLe.trans {a b c : Sg} (h : SgLe a b) (g : SgLe b c) : SgLe a c := ⟨fun i x e => g.ar i x (h.ar i x e), fun i x e => g.pr i x (h.pr i x e), Nat.le_trans h.le g.le⟩
structure SgP (st : Nm) : Prop where
  la : st.sg.ar.length = st.sg.nm.length
  lp : st.sg.pr.length = st.sg.nm.length
  pos : 0 < st.sg.nm.length
  z0 : st.sg.ar[0]? = some 0
  sy : ∀ q ∈ st.sy, 0 < q.2 ∧ q.2 < st.sg.nm.length ∧ st.sg.ar[q.2]? = some q.1.2.1 ∧ st.sg.pr[q.2]? = some q.1.2.2
theorem SgP.sgc {st : Nm} (h : SgP st) : sgc st.sg = st.sg.nm.length := by
  have := h.la
  have := h.lp
  unfold Go.Proofs.YtebhbnhijnpmcaaGreatDoor.sgc
  omega
theorem nm0_p : SgP nm0 := ⟨rfl, rfl, by decide, rfl, fun q hq => by cases hq⟩
theorem ofB_mono {s s' : Sg} (h : SgLe s s') (t : Tm) (p : Bool) (hT : ∀ q ∈ t.l, rtB s q = true → rtB s' q = true) (e : ofB s t p = true) : ofB s' t p = true := by
  obtain ⟨f, l⟩ := t
  by_cases hf : f < 0
  · rw [ofB_neg hf] at e ⊢; exact e
  · by_cases h0 : f = 0 ∨ (sgc s : Int) ≤ f
    · rw [ofB_no (by omega) h0] at e; cases e
    · obtain ⟨j, rfl⟩ : ∃ j : Nat, f = (j : Int) := ⟨f.toNat, by omega⟩
      have hj : j < sgc s := by omega
      have hle := h.le
      have hj2 := hj
      unfold sgc at hj2
      obtain ⟨x, hx⟩ : ∃ x, s.ar[j]? = some x := ⟨s.ar[j]'(by omega), List.getElem?_eq_getElem _⟩
      obtain ⟨y, hy⟩ : ∃ y, s.pr[j]? = some y := ⟨s.pr[j]'(by omega), List.getElem?_eq_getElem _⟩
      rw [ofB_yes (by omega) hj hx hy] at e
      rw [ofB_yes (by omega) (by omega) (h.ar _ _ hx) (h.pr _ _ hy)]
      simp only [Bool.and_eq_true, List.all_eq_true] at e ⊢
      exact ⟨e.1, e.2.1, fun q hq => hT q hq (e.2.2 q hq)⟩
theorem rt_mono {s s' : Sg} (h : SgLe s s') : ∀ t : Tm, rtB s t = true → rtB s' t = true := Tm.ind fun f l ih e => ofB_mono h ⟨f, l⟩ false ih e
theorem at_mono {s s' : Sg} (h : SgLe s s') {t : Tm} (e : atB s t = true) : atB s' t = true := ofB_mono h t true (fun q _ => rt_mono h q) e
theorem fit_tz {s : Sg} (h0 : 0 < sgc s) (hz : s.ar[0]? = some 0) : fitB s tz = true := by
  unfold fitB
  simp only [Bool.and_eq_true, decide_eq_true_eq]
  exact ⟨Int.le_refl _, by show (0 : Int) < _; omega, hz⟩
theorem rl_mono {s s' : Sg} (h : SgLe s s') {l : Lt} (h0 : 0 < sgc s) (hz : s.ar[0]? = some 0) (e : rlB s l = true) : rlB s' l = true := by
  unfold rlB at e ⊢
  cases ht : trB l.b with
  | false =>
    rw [ht] at e
    simp only [Bool.and_eq_true] at e ⊢
    exact ⟨rt_mono h _ e.1, rt_mono h _ e.2⟩
  | true =>
    rw [ht] at e
    simp only [Bool.and_eq_true] at e ⊢
    refine ⟨at_mono h e.1, ?_⟩
    obtain ⟨hb1, hb2⟩ : l.b.f = 0 ∧ l.b.l.length = 0 := by
      unfold trB at ht
      simpa using ht
    have : l.b = tz := by
      obtain ⟨ng, la, f, ls⟩ := l
      simp only at hb1 hb2
      rw [hb1, List.eq_nil_of_length_eq_zero hb2]; rfl
    rw [this]
    exact fit_tz (by have := h.le; omega) (h.ar _ _ hz)
theorem numF_p {st : Nm} (h : SgP st) {k : Kd} (hok : (numF st k).2.1 = true) : SgP (numF st k).2.2 ∧ SgLe st.sg (numF st k).2.2.sg ∧ 0 < (numF st k).1 ∧ (numF st k).1 < sgc (numF st k).2.2.sg ∧ (numF st k).2.2.sg.ar[(numF st k).1]? = some k.2.1 ∧ (numF st k).2.2.sg.pr[(numF st k).1]? = some k.2.2 := by
  unfold numF at hok ⊢
  split
  · rename_i i hi
    obtain ⟨a, b, c, d⟩ := h.sy _ (lkA_some hi)
    exact ⟨h, SgLe.refl _, a, by rw [h.sgc]; exact b, c, d⟩
  · rename_i hn
    rw [hn] at hok
    split
    · rename_i hb; simp only [hb, if_true] at hok; cases hok
    · have hla := h.la
      have hlp := h.lp
      have hg : sgc ⟨st.sg.nm ++ [k.1], st.sg.ar ++ [k.2.1], st.sg.pr ++ [k.2.2]⟩ = st.sg.nm.length + 1 := by
        unfold sgc
        simp only [List.length_append, List.length_cons, List.length_nil]
        omega
      have hgl : sgc st.sg = st.sg.nm.length := h.sgc
      have ha : ∀ (i x : Nat), st.sg.ar[i]? = some x → (st.sg.ar ++ [k.2.1])[i]? = some x := fun i x e => by
        rw [List.getElem?_append_left]
        · exact e
        · exact (List.getElem?_eq_some_iff.1 e).1
      have hp : ∀ (i : Nat) (x : Bool), st.sg.pr[i]? = some x → (st.sg.pr ++ [k.2.2])[i]? = some x := fun i x e => by
        rw [List.getElem?_append_left]
        · exact e
        · exact (List.getElem?_eq_some_iff.1 e).1
      have na : (st.sg.ar ++ [k.2.1])[st.sg.nm.length]? = some k.2.1 := by rw [← hla]; simp
      have np : (st.sg.pr ++ [k.2.2])[st.sg.nm.length]? = some k.2.2 := by rw [← hlp]; simp
      refine ⟨⟨by simp [hla], by simp [hlp], by simp, ha _ _ h.z0, fun q hq => ?_⟩, ⟨ha, hp, by rw [hg, hgl]; omega⟩, h.pos, by rw [hg]; show st.sg.nm.length < _; omega, na, np⟩
      rcases List.mem_append.1 hq with hq | hq
      · obtain ⟨a, b, c, d⟩ := h.sy q hq
        exact ⟨a, by show q.2 < (st.sg.nm ++ [k.1]).length; simp; omega, ha _ _ c, hp _ _ d⟩
      · rw [List.mem_singleton.1 hq]
        exact ⟨h.pos, by show st.sg.nm.length < (st.sg.nm ++ [k.1]).length; simp, na, np⟩
theorem varF_p {st : Nm} (h : SgP st) (v : By) : SgP (varF st v).2 ∧ SgLe st.sg (varF st v).2.sg := by
  unfold varF
  split
  · exact ⟨h, SgLe.refl _⟩
  · exact ⟨⟨h.la, h.lp, h.pos, h.z0, h.sy⟩, SgLe.refl _⟩
def GoodF (f : Nm → Ph → Option (Tm × Bool × Nm)) : Prop := ∀ st p r, SgP st → f st p = some r → r.2.1 = true → SgP r.2.2 ∧ SgLe st.sg r.2.2.sg ∧ rtB r.2.2.sg r.1 = true ∧ r.1.f ≠ 0
theorem fold_p {f : Nm → Ph → Option (Tm × Bool × Nm)} (hf : GoodF f) : ∀ (ps : List Ph) (st : Nm) (acc : List Tm) (r : List Tm × Bool × Nm), SgP st → (∀ x ∈ acc, rtB st.sg x = true) → foldP f st ps acc = some r → r.2.1 = true → SgP r.2.2 ∧ SgLe st.sg r.2.2.sg ∧ (∀ x ∈ r.1, rtB r.2.2.sg x = true) ∧ r.1.length = acc.length + ps.length
  | [], st, acc, r, h, ha, e, _ => by
    simp only [foldP, Option.some.injEq] at e
    subst e
    exact ⟨h, SgLe.refl _, ha, rfl⟩
  | p :: ps, st, acc, r, h, ha, e, hok => by
    rw [foldP] at e
    cases hx : f st p with
    | none => rw [hx] at e; cases e
    | some q =>
      rw [hx] at e
      simp only at e
      split at e
      · rename_i hq
        obtain ⟨h1, h2, h3, _⟩ := hf st p q h hx hq
        obtain ⟨i1, i2, i3, i4⟩ := fold_p hf ps q.2.2 _ r h1 (fun x hx => by
          rcases List.mem_append.1 hx with hx | hx
          · exact rt_mono h2 x (ha x hx)
          · rw [List.mem_singleton.1 hx]; exact h3) e hok
        refine ⟨i1, h2.trans i2, i3, ?_⟩
        rw [List.length_append] at i4
        simp only [List.length_cons, List.length_nil] at i4 ⊢
        omega
      · cases e; cases hok
theorem sym_p {f : Nm → Ph → Option (Tm × Bool × Nm)} (hf : GoodF f) {st : Nm} {p : Ph} {pred : Bool} {r : Tm × Bool × Nm} (h : SgP st) (e : symF f st p pred = some r) (hok : r.2.1 = true) : SgP r.2.2 ∧ SgLe st.sg r.2.2.sg ∧ ofB r.2.2.sg r.1 pred = true ∧ r.1.f ≠ 0 := by
  unfold symF at e
  split at e
  · rename_i hn
    obtain ⟨n1, n2, n3, n4, n5, n6⟩ := numF_p h hn
    split at e
    · cases e
    · rename_i q hq
      split at e
      · rename_i hq2
        cases e
        obtain ⟨i1, i2, i3, i4⟩ := fold_p hf p.parts _ [] q n1 (fun x hx => by cases hx) hq hq2
        refine ⟨i1, n2.trans i2, ?_, by show ((_ : Nat) : Int) ≠ 0; omega⟩
        show ofB q.2.2.sg ⟨((numF st ⟨p.name, p.parts.length, pred⟩).1 : Nat), q.1⟩ pred = true
        rw [ofB_yes n3 (by have := i2.le; omega) (i2.ar _ _ n5) (i2.pr _ _ n6)]
        simp only [Bool.and_eq_true, decide_eq_true_eq, List.all_eq_true, beq_self_eq_true, true_and]
        refine ⟨?_, i3⟩
        simp only [List.length_nil] at i4
        omega
      · cases e; cases hok
  · cases e; cases hok
theorem tmF_p : ∀ n : Nat, GoodF (tmF n)
  | 0, _, _, _, _, e, _ => by simp [tmF] at e
  | n + 1, st, p, r, h, e, hok => by
    rw [tmF] at e
    split at e
    · cases e
      obtain ⟨v1, v2⟩ := varF_p h p.name
      refine ⟨v1, v2, ?_, by show -1 - ((_ : Nat) : Int) ≠ 0; omega⟩
      show ofB (varF st p.name).2.sg ⟨-1 - ((varF st p.name).1 : Nat), []⟩ false = true
      rw [ofB_neg (by omega)]
      rfl
    · exact sym_p (tmF_p n) h e hok
theorem litF_p {n : Nat} {st : Nm} {s : Se} {r : Lt × Bool × Nm} (h : SgP st) (e : litF n st s = some r) (hok : r.2.1 = true) : SgP r.2.2 ∧ SgLe st.sg r.2.2.sg ∧ rlB r.2.2.sg r.1 = true := by
  unfold litF at e
  split at e
  · split at e
    · cases e
    · rename_i q hq
      cases e
      obtain ⟨i1, i2, i3, i4⟩ := sym_p (tmF_p n) h hq hok
      refine ⟨i1, i2, ?_⟩
      show rlB q.2.2.sg ⟨s.neg, q.1, tz⟩ = true
      unfold rlB
      rw [show trB (⟨s.neg, q.1, tz⟩ : Lt).b = true from rfl]
      simp only [Bool.and_eq_true]
      exact ⟨i3, fit_tz (by rw [i1.sgc]; exact i1.pos) i1.z0⟩
  · split at e
    · cases e
    · rename_i q hq
      split at e
      · rename_i hq2
        obtain ⟨h1, h2, h3, h4⟩ := tmF_p n st s.a q h hq hq2
        split at e
        · cases e
        · rename_i q2 hq3
          cases e
          obtain ⟨k1, k2, k3, k4⟩ := tmF_p n q.2.2 s.b q2 h1 hq3 hok
          refine ⟨k1, h2.trans k2, ?_⟩
          show rlB q2.2.2.sg ⟨s.neg, q.1, q2.1⟩ = true
          unfold rlB
          rw [show trB (⟨s.neg, q.1, q2.1⟩ : Lt).b = false by unfold trB; rw [decide_eq_false k4]; rfl]
          simp only [Bool.and_eq_true]
          exact ⟨rt_mono k2 _ h3, k3⟩
      · cases e; cases hok
theorem litsF_p {n : Nat} : ∀ (ss : List Se) (st : Nm) (acc : List Lt) (r : List Lt × Bool × Nm), SgP st → (∀ x ∈ acc, rlB st.sg x = true) → litsF n st ss acc = some r → r.2.1 = true → SgP r.2.2 ∧ SgLe st.sg r.2.2.sg ∧ rcB r.2.2.sg r.1 = true
  | [], st, acc, r, h, ha, e, _ => by
    simp only [litsF, Option.some.injEq] at e
    subst e
    exact ⟨h, SgLe.refl _, List.all_eq_true.2 ha⟩
  | p :: ps, st, acc, r, h, ha, e, hok => by
    rw [litsF] at e
    cases hx : litF n st p with
    | none => rw [hx] at e; cases e
    | some q =>
      rw [hx] at e
      simp only at e
      split at e
      · rename_i hq
        obtain ⟨h1, h2, h3⟩ := litF_p h hx hq
        obtain ⟨i1, i2, i3⟩ := litsF_p ps q.2.2 _ r h1 (fun x hx => by
          rcases List.mem_append.1 hx with hx | hx
          · exact rl_mono h2 (by rw [h.sgc]; exact h.pos) h.z0 (ha x hx)
          · rw [List.mem_singleton.1 hx]; exact h3) e hok
        exact ⟨i1, h2.trans i2, i3⟩
      · cases e; cases hok
theorem mnF_p {n : Nat} : ∀ (cs : List (List Se)) (st : Nm) (acc : List (List Lt)) (q : Nm × List (List Lt) × Bool), SgP st → (∀ c ∈ acc, rcB st.sg c = true) → mnF n st cs acc = some q → q.2.2 = true → SgP q.1 ∧ ∀ c ∈ q.2.1, rcB q.1.sg c = true
  | [], st, acc, q, h, ha, e, _ => by
    simp only [mnF, Option.some.injEq] at e
    subst e
    exact ⟨h, ha⟩
  | c :: cs, st, acc, q, h, ha, e, hok => by
    rw [mnF] at e
    split at e
    · cases e
    · rename_i r hr
      split at e
      · rename_i hk
        rw [Bool.and_eq_true] at hk
        obtain ⟨i1, i2, i3⟩ := litsF_p c ⟨st.sg, st.sy, []⟩ [] r ⟨h.la, h.lp, h.pos, h.z0, h.sy⟩ (fun x hx => by cases hx) hr hk.1
        refine mnF_p cs r.2.2 _ q i1 (fun c hm => ?_) e hok
        rcases List.mem_append.1 hm with hm | hm
        · have := ha c hm
          unfold rcB at this ⊢
          rw [List.all_eq_true] at this ⊢
          exact fun x hx => rl_mono i2 (by show 0 < sgc st.sg; rw [h.sgc]; exact h.pos) h.z0 (this x hx)
        · rw [List.mem_singleton.1 hm]; exact i3
      · cases e; cases hok
end Go.Proofs.YtebhbnhijnpmcaaGreatDoor
-- @STR@
namespace Go.Proofs.YtebhbnhijnpmcaaGreatDoor
open Go.RowKit
set_option linter.unusedVariables false
set_option linter.unusedSimpArgs false
set_option maxRecDepth 100000

-- 
set_option maxHeartbeats 8000000 in
theorem sameSig_abs (W : World) (s : Sg) (hla : s.ar.length = s.nm.length) (hlp : s.pr.length = s.nm.length) (hs : s.nm.length ≤ 1000000) : AFun Tryz.prog W 7 [sgv s, sgv s] (.val (.b true)) := by
  have z1 := svs_size s.nm
  have z2 := ivs_size s.ar
  have z3 := bvs_size s.pr
  refine afun_of (rs := [.b true]) Tryz.func7 Tryz.ntmps7 rfl rfl rfl rfl ?_
  intro w U hW
  refine aS (aR ?_)
  (refine nx (a_box (gN rfl) rfl rfl rfl rfl rfl) rfl ?_)
  (refine nx (a_box (gN rfl) rfl rfl rfl rfl rfl) rfl ?_)
  (refine nx (aA (gN rfl) rfl rfl rfl rfl rfl) rfl ?_)
  show AWp _ _ _ _ _ _ _
  refine AWp.wk (wk_sub (s' := [(2, .bp 2 0 []), (100002, .bx (sgv s)), (3, .bp 3 0 []), (100003, .bx (sgv s))]) ⟨rfl, rfl, rfl, rfl, trivial⟩) ?_
  have e1 : decide (((s.nm.map sv).length : Int) ≠ ((s.nm.map sv).length : Int)) = false := by simp
  have e2 : decide (((s.ar.map iv).length : Int) ≠ ((s.ar.map iv).length : Int)) = false := by simp
  have e3 : decide (((s.pr.map bv).length : Int) ≠ ((s.pr.map bv).length : Int)) = false := by simp
  refine aS (aS (aR ?_))
  (refine nx (aF (gN rfl) rfl rfl rfl rfl rfl rfl rfl rfl rfl) rfl ?_)
  (refine nx (aLb (gN rfl) rfl rfl rfl rfl rfl rfl rfl rfl rfl rfl rfl rfl) rfl ?_)
  (refine nx (a_len (gN rfl) rfl rfl rfl rfl rfl rfl rfl) rfl ?_)
  (refine nx (aF (gN rfl) rfl rfl rfl rfl rfl rfl rfl rfl rfl) rfl ?_)
  (refine nx (aLb (gN rfl) rfl rfl rfl rfl rfl rfl rfl rfl rfl rfl rfl rfl) rfl ?_)
  (refine nx (a_len (gN rfl) rfl rfl rfl rfl rfl rfl rfl) rfl ?_)
  (refine nx (a_neq (gN rfl) rfl rfl rfl rfl rfl rfl) rfl ?_)
  (refine nx (aM (gN rfl) rfl rfl rfl rfl rfl) rfl ?_)
  (refine nx (aF (gd_on rfl rfl rfl rfl (by first | rfl | assumption | (simp; done))) rfl rfl rfl rfl rfl rfl rfl rfl rfl) rfl ?_)
  (refine nx (aLb (gd_on rfl rfl rfl rfl (by first | rfl | assumption | (simp; done))) rfl rfl rfl rfl rfl rfl rfl rfl rfl rfl rfl rfl) rfl ?_)
  (refine nx (a_len (gd_on rfl rfl rfl rfl (by first | rfl | assumption | (simp; done))) rfl rfl rfl rfl rfl rfl rfl) rfl ?_)
  (refine nx (aF (gd_on rfl rfl rfl rfl (by first | rfl | assumption | (simp; done))) rfl rfl rfl rfl rfl rfl rfl rfl rfl) rfl ?_)
  (refine nx (aLb (gd_on rfl rfl rfl rfl (by first | rfl | assumption | (simp; done))) rfl rfl rfl rfl rfl rfl rfl rfl rfl rfl rfl rfl) rfl ?_)
  (refine nx (a_len (gd_on rfl rfl rfl rfl (by first | rfl | assumption | (simp; done))) rfl rfl rfl rfl rfl rfl rfl) rfl ?_)
  (refine nx (a_neq (gd_on rfl rfl rfl rfl (by first | rfl | assumption | (simp; done))) rfl rfl rfl rfl rfl rfl) rfl ?_)
  (refine ⟨_, _, _, aPf (gN rfl) rfl rfl rfl rfl rfl ?hb rfl, rfl, ?_⟩; case hb => (first | rfl | assumption | (simp; done)))
  (refine nx (aM (gN rfl) rfl rfl rfl rfl rfl) rfl ?_)
  (refine nx (aF (gd_on rfl rfl rfl rfl (by first | rfl | assumption | (simp; done))) rfl rfl rfl rfl rfl rfl rfl rfl rfl) rfl ?_)
  (refine nx (aLb (gd_on rfl rfl rfl rfl (by first | rfl | assumption | (simp; done))) rfl rfl rfl rfl rfl rfl rfl rfl rfl rfl rfl rfl) rfl ?_)
  (refine nx (a_len (gd_on rfl rfl rfl rfl (by first | rfl | assumption | (simp; done))) rfl rfl rfl rfl rfl rfl rfl) rfl ?_)
  (refine nx (aF (gd_on rfl rfl rfl rfl (by first | rfl | assumption | (simp; done))) rfl rfl rfl rfl rfl rfl rfl rfl rfl) rfl ?_)
  (refine nx (aLb (gd_on rfl rfl rfl rfl (by first | rfl | assumption | (simp; done))) rfl rfl rfl rfl rfl rfl rfl rfl rfl rfl rfl rfl) rfl ?_)
  (refine nx (a_len (gd_on rfl rfl rfl rfl (by first | rfl | assumption | (simp; done))) rfl rfl rfl rfl rfl rfl rfl) rfl ?_)
  (refine nx (a_neq (gd_on rfl rfl rfl rfl (by first | rfl | assumption | (simp; done))) rfl rfl rfl rfl rfl rfl) rfl ?_)
  (refine ⟨_, _, _, aPf (gN rfl) rfl rfl rfl rfl rfl ?hb rfl, rfl, ?_⟩; case hb => (first | rfl | assumption | (simp; done)))
  show AWp _ _ _ _ _ _ _
  refine aC rfl (fun hc => by
    have hc : decide (((s.pr.map bv).length : Int) ≠ ((s.pr.map bv).length : Int)) = true := hc
    rw [e3] at hc
    cases hc) (fun hc => aK ?_)
  show AWp _ _ _ _ _ _ _
  refine aS (aS (aR ?_))
  (refine nx (aA (gN rfl) rfl rfl rfl rfl rfl) rfl ?_)
  show AWp _ _ _ _ _ _ _
  refine aB (awp_count s.nm.length (fun k => [(2, .bp 2 0 []), (100002, .bx (sgv s)), (3, .bp 3 0 []), (100003, .bx (sgv s)), (5, .val (.i (k : Int)))]) (wk_sub ⟨rfl, rfl, rfl, rfl, rfl, trivial⟩) ?_)
  intro k hk
  refine aS (aS (aR ?_))
  (refine nx (aM (gN rfl) rfl rfl rfl rfl rfl) rfl ?_)
  (refine nx (aF (gN rfl) rfl rfl rfl rfl rfl rfl rfl rfl rfl) rfl ?_)
  (refine nx (aLb (gN rfl) rfl rfl rfl rfl rfl rfl rfl rfl rfl rfl rfl rfl) rfl ?_)
  (refine nx (a_len (gN rfl) rfl rfl rfl rfl rfl rfl rfl) rfl ?_)
  (refine nx (a_lss (gN rfl) rfl rfl rfl rfl rfl rfl) rfl ?_)
  show AWp _ _ _ _ _ _ _
  refine aC rfl (fun hlt => ?_) (fun hlt => ?_)
  · have hkl : k < s.nm.length := by simpa using hlt
    obtain ⟨x, hx⟩ : ∃ x, s.nm[k]? = some x := ⟨s.nm[k], List.getElem?_eq_getElem hkl⟩
    obtain ⟨y, hy⟩ : ∃ y, s.ar[k]? = some y := ⟨s.ar[k]'(by omega), List.getElem?_eq_getElem _⟩
    obtain ⟨z, hz⟩ : ∃ z, s.pr[k]? = some z := ⟨s.pr[k]'(by omega), List.getElem?_eq_getElem _⟩
    have hx' := sv_at hx
    have hy' : (s.ar.map iv)[k]? = some (iv y) := by rw [List.getElem?_map, hy]; rfl
    have hz' : (s.pr.map bv)[k]? = some (bv z) := by rw [List.getElem?_map, hz]; rfl
    have f1 : decide (x ≠ x) = false := by simp
    have f2 : decide ((y : Int) ≠ (y : Int)) = false := by simp
    refine aK ?_
    show AWp _ _ _ _ _ _ _
    cases z with
    | true =>
      refine aS (aB (aS (aD (by kernel_rfl) (by kernel_rfl) ?_)))
      (refine nx (aF (gN rfl) rfl rfl rfl rfl rfl rfl rfl rfl rfl) rfl ?_)
      (refine nx (aLb (gN rfl) rfl rfl rfl rfl rfl rfl rfl rfl rfl rfl rfl rfl) rfl ?_)
      (refine nx (aM (gN rfl) rfl rfl rfl rfl rfl) rfl ?_)
      (refine nx (a_index (j := k) (gN rfl) rfl rfl rfl rfl rfl rfl rfl rfl rfl (hx') rfl (z1)) rfl ?_)
      (refine nx (a_load_ad (gN rfl) rfl rfl rfl rfl rfl rfl rfl rfl rfl) rfl ?_)
      (refine nx (aF (gN rfl) rfl rfl rfl rfl rfl rfl rfl rfl rfl) rfl ?_)
      (refine nx (aLb (gN rfl) rfl rfl rfl rfl rfl rfl rfl rfl rfl rfl rfl rfl) rfl ?_)
      (refine nx (aM (gN rfl) rfl rfl rfl rfl rfl) rfl ?_)
      (refine nx (a_index (j := k) (gN rfl) rfl rfl rfl rfl rfl rfl rfl rfl rfl (hx') rfl (z1)) rfl ?_)
      (refine nx (a_load_ad (gN rfl) rfl rfl rfl rfl rfl rfl rfl rfl rfl) rfl ?_)
      (refine nx (a_sneq (gN rfl) rfl rfl rfl rfl rfl rfl rfl) rfl ?_)
      (refine nx (aM (gN rfl) rfl rfl rfl rfl rfl) rfl ?_)
      (refine nx (aF (gd_on rfl rfl rfl rfl (by first | rfl | assumption | (simp; done))) rfl rfl rfl rfl rfl rfl rfl rfl rfl) rfl ?_)
      (refine nx (aLb (gd_on rfl rfl rfl rfl (by first | rfl | assumption | (simp; done))) rfl rfl rfl rfl rfl rfl rfl rfl rfl rfl rfl rfl) rfl ?_)
      (refine nx (aM (gd_on rfl rfl rfl rfl (by first | rfl | assumption | (simp; done))) rfl rfl rfl rfl rfl) rfl ?_)
      (refine nx (a_index (j := k) (gd_on rfl rfl rfl rfl (by first | rfl | assumption | (simp; done))) rfl rfl rfl rfl rfl rfl rfl rfl rfl (hy') rfl (z2)) rfl ?_)
      (refine nx (a_load_ad (gd_on rfl rfl rfl rfl (by first | rfl | assumption | (simp; done))) rfl rfl rfl rfl rfl rfl rfl rfl rfl) rfl ?_)
      (refine nx (aF (gd_on rfl rfl rfl rfl (by first | rfl | assumption | (simp; done))) rfl rfl rfl rfl rfl rfl rfl rfl rfl) rfl ?_)
      (refine nx (aLb (gd_on rfl rfl rfl rfl (by first | rfl | assumption | (simp; done))) rfl rfl rfl rfl rfl rfl rfl rfl rfl rfl rfl rfl) rfl ?_)
      (refine nx (aM (gd_on rfl rfl rfl rfl (by first | rfl | assumption | (simp; done))) rfl rfl rfl rfl rfl) rfl ?_)
      (refine nx (a_index (j := k) (gd_on rfl rfl rfl rfl (by first | rfl | assumption | (simp; done))) rfl rfl rfl rfl rfl rfl rfl rfl rfl (hy') rfl (z2)) rfl ?_)
      (refine nx (a_load_ad (gd_on rfl rfl rfl rfl (by first | rfl | assumption | (simp; done))) rfl rfl rfl rfl rfl rfl rfl rfl rfl) rfl ?_)
      (refine nx (a_neq (gd_on rfl rfl rfl rfl (by first | rfl | assumption | (simp; done))) rfl rfl rfl rfl rfl rfl) rfl ?_)
      (refine ⟨_, _, _, aPf (gN rfl) rfl rfl rfl rfl rfl ?hb rfl, rfl, ?_⟩; case hb => (first | rfl | assumption | (simp; done)))
      (refine nx (aM (gN rfl) rfl rfl rfl rfl rfl) rfl ?_)
      (refine nx (aF (gd_on rfl rfl rfl rfl (by first | rfl | assumption | (simp; done))) rfl rfl rfl rfl rfl rfl rfl rfl rfl) rfl ?_)
      (refine nx (aLb (gd_on rfl rfl rfl rfl (by first | rfl | assumption | (simp; done))) rfl rfl rfl rfl rfl rfl rfl rfl rfl rfl rfl rfl) rfl ?_)
      (refine nx (aM (gd_on rfl rfl rfl rfl (by first | rfl | assumption | (simp; done))) rfl rfl rfl rfl rfl) rfl ?_)
      (refine nx (a_index (j := k) (gd_on rfl rfl rfl rfl (by first | rfl | assumption | (simp; done))) rfl rfl rfl rfl rfl rfl rfl rfl rfl (hz') rfl (z3)) rfl ?_)
      (refine nx (a_load_ad (gd_on rfl rfl rfl rfl (by first | rfl | assumption | (simp; done))) rfl rfl rfl rfl rfl rfl rfl rfl rfl) rfl ?_)
      (refine nx (aF (gd_on rfl rfl rfl rfl (by first | rfl | assumption | (simp; done))) rfl rfl rfl rfl rfl rfl rfl rfl rfl) rfl ?_)
      (refine nx (aLb (gd_on rfl rfl rfl rfl (by first | rfl | assumption | (simp; done))) rfl rfl rfl rfl rfl rfl rfl rfl rfl rfl rfl rfl) rfl ?_)
      (refine nx (aM (gd_on rfl rfl rfl rfl (by first | rfl | assumption | (simp; done))) rfl rfl rfl rfl rfl) rfl ?_)
      (refine nx (a_index (j := k) (gd_on rfl rfl rfl rfl (by first | rfl | assumption | (simp; done))) rfl rfl rfl rfl rfl rfl rfl rfl rfl (hz') rfl (z3)) rfl ?_)
      (refine nx (a_load_ad (gd_on rfl rfl rfl rfl (by first | rfl | assumption | (simp; done))) rfl rfl rfl rfl rfl rfl rfl rfl rfl) rfl ?_)
      (refine nx (a_bne (gd_on rfl rfl rfl rfl (by first | rfl | assumption | (simp; done))) rfl rfl rfl rfl rfl rfl rfl) rfl ?_)
      (refine ⟨_, _, _, aPf (gN rfl) rfl rfl rfl rfl rfl ?hb rfl, rfl, ?_⟩; case hb => (first | rfl | assumption | (simp; done)))
      refine ⟨by kernel_rfl, ?_⟩
      show AWp _ _ _ _ _ _ _
      refine aC rfl (fun hc => by cases hc) (fun hc => aK ?_)
      show AWp _ _ _ _ _ _ _
      refine aR ?_
      (refine nx (aM (gN rfl) rfl rfl rfl rfl rfl) rfl ?_)
      (refine nx (a_add (gN rfl) rfl rfl rfl rfl rfl rfl (by first | omega | (simp only [List.length_map, List.length_append, List.length_cons, List.length_nil] <;> omega) | (simp <;> omega))) rfl ?_)
      (refine nx (aA (gN rfl) rfl rfl rfl rfl rfl) rfl ?_)
      refine ⟨hkl, wk_sub ⟨rfl, rfl, rfl, rfl, rfl, trivial⟩⟩
    | false =>
      refine aS (aB (aS (aD (by kernel_rfl) (by kernel_rfl) ?_)))
      (refine nx (aF (gN rfl) rfl rfl rfl rfl rfl rfl rfl rfl rfl) rfl ?_)
      (refine nx (aLb (gN rfl) rfl rfl rfl rfl rfl rfl rfl rfl rfl rfl rfl rfl) rfl ?_)
      (refine nx (aM (gN rfl) rfl rfl rfl rfl rfl) rfl ?_)
      (refine nx (a_index (j := k) (gN rfl) rfl rfl rfl rfl rfl rfl rfl rfl rfl (hx') rfl (z1)) rfl ?_)
      (refine nx (a_load_ad (gN rfl) rfl rfl rfl rfl rfl rfl rfl rfl rfl) rfl ?_)
      (refine nx (aF (gN rfl) rfl rfl rfl rfl rfl rfl rfl rfl rfl) rfl ?_)
      (refine nx (aLb (gN rfl) rfl rfl rfl rfl rfl rfl rfl rfl rfl rfl rfl rfl) rfl ?_)
      (refine nx (aM (gN rfl) rfl rfl rfl rfl rfl) rfl ?_)
      (refine nx (a_index (j := k) (gN rfl) rfl rfl rfl rfl rfl rfl rfl rfl rfl (hx') rfl (z1)) rfl ?_)
      (refine nx (a_load_ad (gN rfl) rfl rfl rfl rfl rfl rfl rfl rfl rfl) rfl ?_)
      (refine nx (a_sneq (gN rfl) rfl rfl rfl rfl rfl rfl rfl) rfl ?_)
      (refine nx (aM (gN rfl) rfl rfl rfl rfl rfl) rfl ?_)
      (refine nx (aF (gd_on rfl rfl rfl rfl (by first | rfl | assumption | (simp; done))) rfl rfl rfl rfl rfl rfl rfl rfl rfl) rfl ?_)
      (refine nx (aLb (gd_on rfl rfl rfl rfl (by first | rfl | assumption | (simp; done))) rfl rfl rfl rfl rfl rfl rfl rfl rfl rfl rfl rfl) rfl ?_)
      (refine nx (aM (gd_on rfl rfl rfl rfl (by first | rfl | assumption | (simp; done))) rfl rfl rfl rfl rfl) rfl ?_)
      (refine nx (a_index (j := k) (gd_on rfl rfl rfl rfl (by first | rfl | assumption | (simp; done))) rfl rfl rfl rfl rfl rfl rfl rfl rfl (hy') rfl (z2)) rfl ?_)
      (refine nx (a_load_ad (gd_on rfl rfl rfl rfl (by first | rfl | assumption | (simp; done))) rfl rfl rfl rfl rfl rfl rfl rfl rfl) rfl ?_)
      (refine nx (aF (gd_on rfl rfl rfl rfl (by first | rfl | assumption | (simp; done))) rfl rfl rfl rfl rfl rfl rfl rfl rfl) rfl ?_)
      (refine nx (aLb (gd_on rfl rfl rfl rfl (by first | rfl | assumption | (simp; done))) rfl rfl rfl rfl rfl rfl rfl rfl rfl rfl rfl rfl) rfl ?_)
      (refine nx (aM (gd_on rfl rfl rfl rfl (by first | rfl | assumption | (simp; done))) rfl rfl rfl rfl rfl) rfl ?_)
      (refine nx (a_index (j := k) (gd_on rfl rfl rfl rfl (by first | rfl | assumption | (simp; done))) rfl rfl rfl rfl rfl rfl rfl rfl rfl (hy') rfl (z2)) rfl ?_)
      (refine nx (a_load_ad (gd_on rfl rfl rfl rfl (by first | rfl | assumption | (simp; done))) rfl rfl rfl rfl rfl rfl rfl rfl rfl) rfl ?_)
      (refine nx (a_neq (gd_on rfl rfl rfl rfl (by first | rfl | assumption | (simp; done))) rfl rfl rfl rfl rfl rfl) rfl ?_)
      (refine ⟨_, _, _, aPf (gN rfl) rfl rfl rfl rfl rfl ?hb rfl, rfl, ?_⟩; case hb => (first | rfl | assumption | (simp; done)))
      (refine nx (aM (gN rfl) rfl rfl rfl rfl rfl) rfl ?_)
      (refine nx (aF (gd_on rfl rfl rfl rfl (by first | rfl | assumption | (simp; done))) rfl rfl rfl rfl rfl rfl rfl rfl rfl) rfl ?_)
      (refine nx (aLb (gd_on rfl rfl rfl rfl (by first | rfl | assumption | (simp; done))) rfl rfl rfl rfl rfl rfl rfl rfl rfl rfl rfl rfl) rfl ?_)
      (refine nx (aM (gd_on rfl rfl rfl rfl (by first | rfl | assumption | (simp; done))) rfl rfl rfl rfl rfl) rfl ?_)
      (refine nx (a_index (j := k) (gd_on rfl rfl rfl rfl (by first | rfl | assumption | (simp; done))) rfl rfl rfl rfl rfl rfl rfl rfl rfl (hz') rfl (z3)) rfl ?_)
      (refine nx (a_load_ad (gd_on rfl rfl rfl rfl (by first | rfl | assumption | (simp; done))) rfl rfl rfl rfl rfl rfl rfl rfl rfl) rfl ?_)
      (refine nx (aF (gd_on rfl rfl rfl rfl (by first | rfl | assumption | (simp; done))) rfl rfl rfl rfl rfl rfl rfl rfl rfl) rfl ?_)
      (refine nx (aLb (gd_on rfl rfl rfl rfl (by first | rfl | assumption | (simp; done))) rfl rfl rfl rfl rfl rfl rfl rfl rfl rfl rfl rfl) rfl ?_)
      (refine nx (aM (gd_on rfl rfl rfl rfl (by first | rfl | assumption | (simp; done))) rfl rfl rfl rfl rfl) rfl ?_)
      (refine nx (a_index (j := k) (gd_on rfl rfl rfl rfl (by first | rfl | assumption | (simp; done))) rfl rfl rfl rfl rfl rfl rfl rfl rfl (hz') rfl (z3)) rfl ?_)
      (refine nx (a_load_ad (gd_on rfl rfl rfl rfl (by first | rfl | assumption | (simp; done))) rfl rfl rfl rfl rfl rfl rfl rfl rfl) rfl ?_)
      (refine nx (a_bne (gd_on rfl rfl rfl rfl (by first | rfl | assumption | (simp; done))) rfl rfl rfl rfl rfl rfl rfl) rfl ?_)
      (refine ⟨_, _, _, aPf (gN rfl) rfl rfl rfl rfl rfl ?hb rfl, rfl, ?_⟩; case hb => (first | rfl | assumption | (simp; done)))
      refine ⟨by kernel_rfl, ?_⟩
      show AWp _ _ _ _ _ _ _
      refine aC rfl (fun hc => by cases hc) (fun hc => aK ?_)
      show AWp _ _ _ _ _ _ _
      refine aR ?_
      (refine nx (aM (gN rfl) rfl rfl rfl rfl rfl) rfl ?_)
      (refine nx (a_add (gN rfl) rfl rfl rfl rfl rfl rfl (by first | omega | (simp only [List.length_map, List.length_append, List.length_cons, List.length_nil] <;> omega) | (simp <;> omega))) rfl ?_)
      (refine nx (aA (gN rfl) rfl rfl rfl rfl rfl) rfl ?_)
      refine ⟨hkl, wk_sub ⟨rfl, rfl, rfl, rfl, rfl, trivial⟩⟩
  · refine aE ?_
    show AWp _ _ _ _ _ _ _
    refine aS (aR ?_)
    (refine nx (aA (gN rfl) rfl rfl rfl rfl rfl) rfl ?_)
    show AWp _ _ _ _ _ _ _
    exact aT (And.intro (.inr rfl) rfl)
end Go.Proofs.YtebhbnhijnpmcaaGreatDoor

namespace Go.Proofs.YtebhbnhijnpmcaaGreatDoor
open Go.RowKit
set_option linter.unusedVariables false
set_option linter.unusedSimpArgs false
set_option maxRecDepth 100000

end Go.Proofs.YtebhbnhijnpmcaaGreatDoor
namespace Go.Proofs.YtebhbnhijnpmcaaGreatDoor
open Go.RowKit
set_option linter.unusedVariables false
set_option linter.unusedSimpArgs false
section
variable {P : Program} {w0 : World} {U0 : UX} {nt : Nat} {ops : Array Oper} {o : Oper} {S : Nat → Option AV} {gs : List Nat} {d : Nat}
variable (hg : Gd w0 U0 nt ops o gs S) (hd : o.dst = some d) (hn : Nat.blt d nt = true) (h5 : Nat.blt d 100000 = true)
include hg hd hn h5
end
end Go.Proofs.YtebhbnhijnpmcaaGreatDoor
namespace Go.Proofs.YtebhbnhijnpmcaaGreatDoor
set_option linter.unusedVariables false
def ub : Nat → Nat → List Int
  | 0, n => [(n : Int)]
  | k + 1, n => if n < 128 then [(n : Int)] else ((128 + n % 128 : Nat) : Int) :: ub k (n / 128)

def ubytes (n : Nat) : List Int := ub 9 n

def lenz (n : Nat) : Nat := if n = 0 then 0 else (ubytes n).length

def zz (n : Int) : Nat := if 0 ≤ n then (2 * n).toNat else (-2 * n - 1).toNat
end Go.Proofs.YtebhbnhijnpmcaaGreatDoor
namespace Go.Proofs.YtebhbnhijnpmcaaGreatDoor
open Go.RowKit
set_option linter.unusedVariables false






def lastAt : List Int → Option Nat
  | [] => none
  | b :: r => if b < 128 then some 0 else (lastAt r).map (· + 1)

def lastInt (l : List Int) : Int := match lastAt l with | none => -1 | some i => (i : Int)

def val : List Int → Nat
  | [] => 0
  | b :: r => (b % 128).toNat + 128 * val r

def okNum (l : List Int) : Bool := decide (l.length ≤ 10 ∧ (l.length = 10 → l.getD (l.length - 1) 0 ≤ 1) ∧ (l.getD (l.length - 1) 0 ≠ 0 ∨ l.length = 1))

def unzz (n : Nat) : Int := if n % 2 = 0 then ((n / 2 : Nat) : Int) else -((n / 2 : Nat) : Int) - 1


def rdU (l : List Int) : Nat × Nat × Nat :=
  match lastAt l with
  | none => (0, 0, 10)
  | some i => if okNum (l.take (i + 1)) then (val (l.take (i + 1)), i + 1, 0) else (0, 0, 7)
def canon : List Int → Prop
  | [] => False
  | b :: r => match r with
    | [] => 0 < b ∧ b < 128
    | _ :: _ => 128 ≤ b ∧ b ≤ 255 ∧ canon r
end Go.Proofs.YtebhbnhijnpmcaaGreatDoor
namespace Go.Proofs.YtebhbnhijnpmcaaGreatDoor
set_option linter.unusedVariables false
set_option linter.unusedSimpArgs false
def wT : Tm → List Int
  | ⟨f, l⟩ => ubytes (zz f) ++ (if f < 0 then [] else ubytes l.length ++ (l.map wT).flatten)
def wL (l : Lt) : List Int := (if l.neg then 1 else 0) :: (wT l.a ++ wT l.b)
def wC (c : List Lt) : List Int := ubytes c.length ++ c.flatMap wL

def rN (most : Nat) (l : List Int) : Except Nat (Nat × Nat) := match rdU l with
  | (v, c, 0) => if v > most then .error 7 else .ok (v, c)
  | (_, _, e + 1) => .error (e + 1)
def rH (l : List Int) : Except Nat (Int × Nat) := match rdU l with
  | (v, c, 0) => if -2147483648 ≤ unzz v ∧ unzz v ≤ 2147483647 then .ok (unzz v, c) else .error 7
  | (_, _, e + 1) => .error (e + 1)
def rMany {α : Type} (g : List Int → Except Nat (α × Nat)) : Nat → List Int → Except Nat (List α × Nat)
  | 0, _ => .ok ([], 0)
  | n + 1, l => match g l with
    | .error e => .error e
    | .ok (x, c) => match rMany g n (l.drop c) with
      | .error e => .error e
      | .ok (xs, c') => .ok (x :: xs, c + c')
def rList {α : Type} (g : List Int → Except Nat (α × Nat)) (l : List Int) : Except Nat (List α × Nat) := match rN 4096 l with
  | .error e => .error e
  | .ok (n, c) => match rMany g n (l.drop c) with
    | .error e => .error e
    | .ok (xs, c') => .ok (xs, c + c')
def rT : Nat → List Int → Except Nat (Tm × Nat)
  | 0, _ => .error 7
  | d + 1, l => match rH l with
    | .error e => .error e
    | .ok (f, c) => if f < 0 then .ok (⟨f, []⟩, c) else match rList (rT d) (l.drop c) with
      | .error e => .error e
      | .ok (xs, c') => .ok (⟨f, xs⟩, c + c')
def rL (l : List Int) : Except Nat (Lt × Nat) := match rN 1 l with
  | .error e => .error e
  | .ok (n, c) => match rT 257 (l.drop c) with
    | .error e => .error e
    | .ok (a, c1) => match rT 257 (l.drop (c + c1)) with
      | .error e => .error e
      | .ok (b, c2) => .ok (⟨decide (n = 1), a, b⟩, c + c1 + c2)
def rC (l : List Int) : Except Nat (List Lt × Nat) := rList rL l

def wfB (l : List Int) : Prop := ∀ z ∈ l, 0 ≤ z ∧ z ≤ 255
theorem wfB.drop {l : List Int} (h : wfB l) (n : Nat) : wfB (l.drop n) := fun z hz => h z (List.mem_of_mem_drop hz)
def Rt {α : Type} (w : α → List Int) (l : List Int) (r : Except Nat (α × Nat)) : Prop := ∀ x c, r = .ok (x, c) → c ≤ l.length ∧ w x = l.take c
def Er {α : Type} (r : Except Nat (α × Nat)) : Prop := ∀ e, r = .error e → e = 7 ∨ e = 10
structure Thru {α : Type} (g : List Int → Except Nat (α × Nat)) (w : List Int) (x : α) : Prop where
  back : ∀ r, g (w ++ r) = .ok (x, w.length)
  cut : ∀ j, j < w.length → g (w.take j) = .error 10
end Go.Proofs.YtebhbnhijnpmcaaGreatDoor
namespace Go.Proofs.YtebhbnhijnpmcaaGreatDoor
open Go.RowKit
set_option linter.unusedVariables false
set_option linter.unusedSimpArgs false
set_option maxRecDepth 100000
abbrev by8 (z : Int) : CV := .sc (.int .u8 z)
def gU (zs : List Int) (p : Int) : Int × Int × Int :=
  if p < 0 ∨ p > zs.length then (0, 0, 1) else match rdU (zs.drop p.toNat) with
    | (v, c, 0) => (v, p + c, 0)
    | (_, _, e + 1) => (0, 0, ((e + 1 : Nat) : Int))
def gI (zs : List Int) (p : Int) : Int × Int × Int :=
  if p < 0 ∨ p > zs.length then (0, 0, 1) else match rdU (zs.drop p.toNat) with
    | (v, c, 0) => (unzz v, p + c, 0)
    | (_, _, e + 1) => (0, 0, ((e + 1 : Nat) : Int))
noncomputable abbrev rB (zs : List Int) : AS := [(300001, .mrow 5 1 (zs.map by8))]
def zT : Tm := ⟨0, []⟩
def zL : Lt := ⟨false, zT, zT⟩
def okP {α : Type} (q : Nat) : Except Nat (α × Nat) → Int
  | .ok (_, c) => ((q + c : Nat) : Int)
  | .error _ => 0
def okE {α : Type} : Except Nat (α × Nat) → Int
  | .ok _ => 0
  | .error e => (e : Int)
def okN : Except Nat (Nat × Nat) → Int
  | .ok (v, _) => (v : Int)
  | .error _ => 0
noncomputable def okT : Except Nat (Tm × Nat) → CV
  | .ok (x, _) => x.cw
  | .error _ => .row [.i 0, .lst []]
noncomputable def okG : Except Nat (Lt × Nat) → CV
  | .ok (x, _) => x.cw
  | .error _ => .row [.b false, .row [.i 0, .lst []], .row [.i 0, .lst []]]
noncomputable def okLT : Except Nat (List Tm × Nat) → List CV
  | .ok (x, _) => x.map Tm.cv
  | .error _ => []
noncomputable def okLG : Except Nat (List Lt × Nat) → List CV
  | .ok (x, _) => x.map Lt.cv
  | .error _ => []
noncomputable abbrev tupN (q : Nat) (r : Except Nat (Nat × Nat)) : List CV := [.sc (.int .u64 (okN r)), .i (okP q r), by8 (okE r)]
noncomputable abbrev tupT (q : Nat) (r : Except Nat (Tm × Nat)) : List CV := [okT r, .i (okP q r), by8 (okE r)]
noncomputable abbrev tupG (q : Nat) (r : Except Nat (Lt × Nat)) : List CV := [okG r, .i (okP q r), by8 (okE r)]
noncomputable abbrev tupLT (q : Nat) (r : Except Nat (List Tm × Nat)) : List CV := [.lst (okLT r), .i (okP q r), by8 (okE r)]
noncomputable abbrev tupLG (q : Nat) (r : Except Nat (List Lt × Nat)) : List CV := [.lst (okLG r), .i (okP q r), by8 (okE r)]
def rHd (l : List Int) : Except Nat (Tm × Nat) := match rH l with
  | .error e => .error e
  | .ok (f, c) => .ok (⟨f, []⟩, c)
def cmb {α : Type} (xs : List α) (q0 q : Nat) : Except Nat (List α × Nat) → Except Nat (List α × Nat)
  | .error e => .error e
  | .ok (ys, c) => .ok (xs ++ ys, q - q0 + c)
def gC (zs : List Int) (p : Int) : Except Nat (List Lt × Nat) := if p < 0 ∨ p > zs.length then .error 1 else rC (zs.drop p.toNat)
def exC : Lt := ⟨false, ⟨3, [⟨-1, []⟩]⟩, ⟨1, []⟩⟩
def finL (size : Int) (l : Lt) : Bool := decide (0 ≤ smallT l.a size 8) && decide (0 ≤ smallT l.b size 8)
def fineC (c : List Lt) (most : Nat) (size : Int) : Bool := decide (c.length ≤ most) && c.all (finL size)
-- 
set_option maxHeartbeats 1000000 in
theorem to11_abs (W : World) (c : List Lt) (hl : c.length ≤ 1000000) (hc : ∀ l ∈ c, l.a.ok ∧ l.b.ok) : AFun Tryz.prog W 12 [.lst (c.map Lt.cv)] (.val (.lst ((c.map Lt.strip).map Lt.cv))) := by
  have hsz := Lt.size_all c
  refine afun_of (rs := [.lst ((c.map Lt.strip).map Lt.cv)]) Tryz.func12 Tryz.ntmps12 rfl rfl rfl rfl ?_
  intro w U hW
  refine aS (aR ?_)
  (refine nx (aA (gN rfl) rfl rfl rfl rfl rfl) rfl ?_)
  show AWp _ _ _ _ _ _ _
  refine aS (aR ?_)
  (refine nx (aA (gN rfl) rfl rfl rfl rfl rfl) rfl ?_)
  show AWp _ _ _ _ _ _ _
  refine aS (aS (aR ?_))
  (refine nx (aA (gN rfl) rfl rfl rfl rfl rfl) rfl ?_)
  show AWp _ _ _ _ _ _ _
  refine aB (awp_count c.length (fun k => [(0, .val (.lst (c.map Lt.cv))), (3, .own (.lst (((c.take k).map Lt.strip).map Lt.cv)) 200031), (200031, .tok 73 5), (4, .val (.i k))]) ((wk_nil 3 200031 73 5 rfl rfl rfl rfl rfl rfl rfl).trans (wk_sub ⟨rfl, rfl, rfl, rfl, trivial⟩)) ?_)
  intro k hk
  have hks := Lt.size_all ((c.take k).map Lt.strip)
  refine aS (aS (aR ?_))
  (refine nx (aM (gN rfl) rfl rfl rfl rfl rfl) rfl ?_)
  (refine nx (aM (gN rfl) rfl rfl rfl rfl rfl) rfl ?_)
  (refine nx (a_len (gN rfl) rfl rfl rfl rfl rfl rfl rfl) rfl ?_)
  (refine nx (a_lss (gN rfl) rfl rfl rfl rfl rfl rfl) rfl ?_)
  show AWp _ _ _ _ _ _ _
  refine aC rfl (fun hlt => ?_) (fun hlt => ?_)
  · have hkl : k < c.length := by simpa using hlt
    obtain ⟨x, hx⟩ : ∃ x, c[k]? = some x := ⟨c[k], List.getElem?_eq_getElem hkl⟩
    have hx' := Lt.map_at hx
    have hxm := List.mem_of_getElem? hx
    have hkn : (((c.take k).map Lt.strip).map Lt.cv).length ≤ 1000000 := by rw [List.length_map, List.length_map, List.length_take]; omega
    refine aK ?_
    show AWp _ _ _ _ _ _ _
    refine aS (aB (aD (by kernel_rfl) (by kernel_rfl) ?_))
    (refine nx (aM (gN rfl) rfl rfl rfl rfl rfl) rfl ?_)
    (refine nx (aM (gN rfl) rfl rfl rfl rfl rfl) rfl ?_)
    (refine nx (aM (gN rfl) rfl rfl rfl rfl rfl) rfl ?_)
    (refine nx (a_index (j := k) (gN rfl) rfl rfl rfl rfl rfl rfl rfl rfl rfl (hx') rfl (hsz)) rfl ?_)
    (refine nx (a_field_ad (gN rfl) rfl rfl rfl rfl rfl rfl rfl rfl rfl rfl rfl) rfl ?_)
    (refine nx (a_load_ad (gN rfl) rfl rfl rfl rfl rfl rfl rfl rfl rfl) rfl ?_)
    (refine nx (aM (gN rfl) rfl rfl rfl rfl rfl) rfl ?_)
    (refine nx (aM (gN rfl) rfl rfl rfl rfl rfl) rfl ?_)
    (refine nx (a_index (j := k) (gN rfl) rfl rfl rfl rfl rfl rfl rfl rfl rfl (hx') rfl (hsz)) rfl ?_)
    (refine nx (a_field_ad (gN rfl) rfl rfl rfl rfl rfl rfl rfl rfl rfl rfl rfl) rfl ?_)
    (refine nx (a_load_ad (gN rfl) rfl rfl rfl rfl rfl rfl rfl rfl rfl) rfl ?_)
    (refine nx (a_call (gN rfl) rfl rfl rfl rfl rfl (to_abs w x.a (hc x hxm).1)) rfl ?_)
    (refine nx (aM (gN rfl) rfl rfl rfl rfl rfl) rfl ?_)
    (refine nx (aM (gN rfl) rfl rfl rfl rfl rfl) rfl ?_)
    (refine nx (a_index (j := k) (gN rfl) rfl rfl rfl rfl rfl rfl rfl rfl rfl (hx') rfl (hsz)) rfl ?_)
    (refine nx (a_field_ad (gN rfl) rfl rfl rfl rfl rfl rfl rfl rfl rfl rfl rfl) rfl ?_)
    (refine nx (a_load_ad (gN rfl) rfl rfl rfl rfl rfl rfl rfl rfl rfl) rfl ?_)
    (refine nx (a_call (gN rfl) rfl rfl rfl rfl rfl (to_abs w x.b (hc x hxm).2)) rfl ?_)
    (refine nx (a_build (gN rfl) rfl rfl rfl rfl rfl rfl rfl rfl rfl rfl rfl) rfl ?_)
    (refine nx (a_bslice (gN rfl) rfl rfl rfl rfl rfl rfl rfl rfl rfl rfl rfl rfl rfl) rfl ?_)
    (refine nx (a_app (gN rfl) rfl rfl rfl rfl rfl rfl rfl rfl rfl rfl rfl rfl rfl rfl rfl (by first | assumption | exact sZ rfl | exact Tm.size_all _ | exact Bd.size_all _ | exact ints_size _ | exact bys_size _ | exact Lt.size_all _) (by first | assumption | exact sZ rfl | exact Tm.size_all _ | exact Bd.size_all _ | exact ints_size _ | exact bys_size _ | exact Lt.size_all _) (by first | omega | (simp only [List.length_map, List.length_append, List.length_cons, List.length_nil] <;> omega) | (simp <;> omega))) rfl ?_)
    (refine nx (aA (gN rfl) rfl rfl rfl rfl rfl) rfl ?_)
    refine ⟨by kernel_rfl, ?_⟩
    show AWp _ _ _ _ _ _ _
    refine aR ?_
    (refine nx (aM (gN rfl) rfl rfl rfl rfl rfl) rfl ?_)
    (first | (refine nx (a_add (gN rfl) rfl rfl rfl rfl rfl rfl (by first | omega | (simp only [List.length_map, List.length_append, List.length_cons, List.length_nil] <;> omega) | (simp <;> omega))) rfl ?_) | (refine nx (a_sadd (gN rfl) rfl rfl rfl rfl rfl rfl (by first | omega | (simp only [List.length_map, List.length_append, List.length_cons, List.length_nil] <;> omega) | (simp <;> omega))) (by first | rfl | kernel_rfl) ?_))
    (refine nx (aA (gN rfl) rfl rfl rfl rfl rfl) rfl ?_)
    refine ⟨hkl, Wk.trans (wk_sub (s' := [(0, .val (.lst (c.map Lt.cv))), (3, .own (.lst (((c.take (k + 1)).map Lt.strip).map Lt.cv)) 300031), (300031, .tok 73 5), (4, .val (.i ((k + 1 : Nat) : Int)))]) ⟨rfl, ?_, rfl, rfl, trivial⟩) (wk_ren 300031 200031 rfl rfl rfl rfl)⟩
    rw [List.take_add_one, hx, List.map_append, List.map_append]
    rfl
  · have hkl : k = c.length := by
      have : ¬ k < c.length := by simpa using hlt
      omega
    subst hkl
    rw [List.take_length]
    refine aE ?_
    show AWp _ _ _ _ _ _ _
    refine aS (aR ?_)
    (refine nx (aM (gN rfl) rfl rfl rfl rfl rfl) rfl ?_)
    (refine nx (aA (gN rfl) rfl rfl rfl rfl rfl) rfl ?_)
    show AWp _ _ _ _ _ _ _
    exact aT (And.intro (.inr rfl) rfl)
def sameL (x y : Lt) : Bool := (x.neg == y.neg) && (sameT x.a y.a && sameT x.b y.b)
def sameC : List Lt → List Lt → Bool
  | [], [] => true
  | x :: l, y :: m => sameL x y && sameC l m
  | _, _ => false
end Go.Proofs.YtebhbnhijnpmcaaGreatDoor
-- @STR@
namespace Go.Proofs.YtebhbnhijnpmcaaGreatDoor
open Go.RowKit
set_option linter.unusedVariables false
set_option linter.unusedSimpArgs false
set_option maxRecDepth 100000

theorem prF_err3 {n : Nat} {src : By} {r : Sg × List (List Lt) × Int} (h : prF n src = some r) : 0 ≤ r.2.2 ∧ r.2.2 ≤ 9 := by
  unfold prF at h
  split at h
  · cases h; exact ⟨by decide, by decide⟩
  · split at h
    · cases h
    · split at h
      · split at h
        · cases h
        · split at h
          · cases h; exact ⟨Int.le_refl _, by show (0 : Int) ≤ 9; decide⟩
          · cases h; exact ⟨by show (0 : Int) ≤ 7; decide, by show (7 : Int) ≤ 9; decide⟩
      · cases h; exact ⟨by decide, by decide⟩
theorem prF_sig {n : Nat} {src : By} {r : Sg × List (List Lt) × Int} (h : prF n src = some r) : r.1.ar.length = r.1.nm.length ∧ r.1.pr.length = r.1.nm.length ∧ r.1.nm.length ≤ 1000000 := by
  by_cases he : r.2.2 = 0
  · obtain ⟨_, cs, q, _, _, h3, h4, h5, _⟩ := prF_ok h he
    obtain ⟨p1, _⟩ := mnF_p cs nm0 [] q nm0_p (fun c hc => by cases hc) h3 h4
    obtain ⟨q', k1, _, k3, _⟩ := mnF_rl cs nm0 nm0 [] [] q Rl.zero h3 h4
    rw [h5]
    exact ⟨p1.la, p1.lp, by have := k3.few; exact Nat.le_trans this (by decide)⟩
  · obtain ⟨_, e⟩ := prF_nil h he
    rw [e]
    exact ⟨rfl, rfl, Nat.zero_le _⟩
end Go.Proofs.YtebhbnhijnpmcaaGreatDoor

-- @STR@
namespace Go.Proofs.YtebhbnhijnpmcaaGreatDoor
open Go.RowKit
set_option linter.unusedVariables false
set_option linter.unusedSimpArgs false
set_option maxRecDepth 100000

theorem itoaS : ItoaN none 100 := fun z hz => by
  refine ⟨ent_of Tryz.func62 rfl rfl, .inl rfl, rfl, fun U w vs _ hv => ?_⟩
  obtain ⟨u, us, rfl, hu, hus⟩ := hv
  have hus : us = [] := hus
  subst hus
  obtain ⟨rfl, _⟩ := vrep_sc.1 hu
  refine (Tryz.strconv_Itoa_small z hz w).mono ?_
  rintro e w' ⟨rfl, rfl⟩
  exact ⟨_, rfl, vrep_sc.2 ⟨rfl, rfl⟩, Below.refl _ _⟩
def ex13S : Sg := ⟨[[36, 116, 114, 117, 101], [99], [102]], [0, 0, 1], [true, false, false]⟩
def ex13C : List Lt := [⟨true, ⟨2, [⟨-1, []⟩]⟩, ⟨1, []⟩⟩]
theorem ex13_tx : txC ex13S.nm ex13C = [102, 40, 88, 48, 41, 32, 33, 61, 32, 99] := by
  have h0 : Lib.decDigits 0 = [48] := by rw [Lib.decDigits_one (by omega)]; rfl
  have h1 : txT ex13S.nm ⟨-1, []⟩ = [88, 48] := by
    rw [txT_eq, if_pos (by decide)]
    show 88 :: Lib.decDigits 0 = _
    rw [h0]
  have h2 : txT ex13S.nm ⟨1, []⟩ = [99] := by
    rw [txT_eq, if_neg (by decide)]; rfl
  have h3 : txT ex13S.nm ⟨2, [⟨-1, []⟩]⟩ = [102, 40, 88, 48, 41] := by
    rw [txT_eq, if_neg (by decide)]
    show symX ex13S.nm 2 ++ parX [txT ex13S.nm ⟨-1, []⟩] = _
    rw [h1]; rfl
  unfold txC
  rw [if_neg (by simp [ex13C])]
  show joinW _ [txL ex13S.nm ⟨true, ⟨2, [⟨-1, []⟩]⟩, ⟨1, []⟩⟩] = _
  unfold txL
  rw [if_neg (by decide)]
  show joinW _ [txT ex13S.nm ⟨2, [⟨-1, []⟩]⟩ ++ ([32, 33, 61, 32] ++ txT ex13S.nm ⟨1, []⟩)] = _
  rw [h3, h2]; rfl
theorem ex13_nk : ∀ l ∈ ex13C, l.nk 100 3 := by
  have v : Tm.nk 100 3 ⟨-1, []⟩ := (Tm.nk_iff _ _ _).2 ⟨by decide, fun s hs => by cases hs⟩
  have c : Tm.nk 100 3 ⟨1, []⟩ := (Tm.nk_iff _ _ _).2 ⟨by decide, fun s hs => by cases hs⟩
  have f : Tm.nk 100 3 ⟨2, [⟨-1, []⟩]⟩ := (Tm.nk_iff _ _ _).2 ⟨by decide, fun s hs => by rw [List.mem_singleton.1 hs]; exact v⟩
  intro l hl
  rw [List.mem_singleton.1 hl]
  exact ⟨f, c⟩
-- 
set_option maxHeartbeats 1000000 in
theorem alive13_abs (W : World) : AFun Tryz.prog W 4 [] (.val (.b true)) := by
  refine afun_of (rs := [.b true]) Tryz.func4 Tryz.ntmps4 rfl rfl rfl rfl ?_
  intro w U hW
  have h1 : AFun Tryz.prog w 13 [sgv ex13S, lcv ex13C] (.val (sv [102, 40, 88, 48, 41, 32, 33, 61, 32, 99])) := by
    rw [← ex13_tx]
    exact (prCls_abs none 100 itoaS ex13S (by decide) ex13C (by decide) ex13_nk (by rw [ex13_tx]; decide)).plain
  have h2 : AFun Tryz.prog w 13 [sgv ex13S, lcv []] (.val (sv [36, 102, 97, 108, 115, 101])) := (prCls_abs none 100 itoaS ex13S (by decide) [] (by decide) (fun l hl => by cases hl) (by decide)).plain
  refine aS (aR ?_)
  (refine nx (aA (gN rfl) rfl rfl rfl rfl rfl) rfl ?_)
  show AWp _ _ _ _ _ _ _
  refine aS (aR ?_)
  (refine nx (a_bslice (gN rfl) rfl rfl rfl rfl rfl rfl rfl rfl rfl rfl rfl rfl rfl) rfl ?_)
  (refine nx (a_bslice (gN rfl) rfl rfl rfl rfl rfl rfl rfl rfl rfl rfl rfl rfl rfl) rfl ?_)
  (refine nx (a_bslice (gN rfl) rfl rfl rfl rfl rfl rfl rfl rfl rfl rfl rfl rfl rfl) rfl ?_)
  (refine nx (a_build (gN rfl) rfl rfl rfl rfl rfl rfl rfl rfl rfl rfl rfl) rfl ?_)
  (refine nx (a_allocT [.lst [], .lst [], .lst []] (gN rfl) rfl rfl rfl rfl rfl rfl rfl) rfl ?_)
  (refine nx (aSt (gN rfl) rfl rfl rfl rfl rfl rfl rfl rfl rfl rfl) rfl ?_)
  show AWp _ _ _ _ _ _ _
  refine AWp.wk (wk_sub (s' := [(1, .bp 1 0 []), (100001, .bx (sgv ex13S))]) ⟨rfl, rfl, trivial⟩) ?_
  refine aS (aR ?_)
  (refine nx (aL (gN rfl) rfl rfl rfl rfl rfl rfl rfl rfl rfl rfl rfl rfl) rfl ?_)
  (refine nx (a_buildP (gN rfl) rfl rfl rfl rfl rfl rfl rfl rfl rfl rfl rfl) rfl ?_)
  (refine nx (a_bslice (gN rfl) rfl rfl rfl rfl rfl rfl rfl rfl rfl rfl rfl rfl rfl) rfl ?_)
  (refine nx (a_buildP (gN rfl) rfl rfl rfl rfl rfl rfl rfl rfl rfl rfl rfl) rfl ?_)
  (refine nx (a_buildP (gN rfl) rfl rfl rfl rfl rfl rfl rfl rfl rfl rfl rfl) rfl ?_)
  (refine nx (a_buildT [.b false, .row [.i 0, .lst []], .row [.i 0, .lst []]] (gN rfl) rfl rfl rfl rfl rfl rfl rfl rfl rfl rfl rfl) rfl ?_)
  (refine nx (a_bslice (gN rfl) rfl rfl rfl rfl rfl rfl rfl rfl rfl rfl rfl rfl rfl) rfl ?_)
  (refine nx (a_call (gN rfl) rfl rfl rfl rfl rfl (h1)) rfl ?_)
  (refine nx (a_seql (gN rfl) rfl rfl rfl rfl rfl rfl rfl) rfl ?_)
  (refine nx (aM (gN rfl) rfl rfl rfl rfl rfl) rfl ?_)
  (refine nx (aL (gd_on rfl rfl rfl rfl (by first | rfl | assumption | (simp; done))) rfl rfl rfl rfl rfl rfl rfl rfl rfl rfl rfl rfl) rfl ?_)
  (refine nx (a_call (gd_on rfl rfl rfl rfl (by first | rfl | assumption | (simp; done))) rfl rfl rfl rfl rfl (h2)) rfl ?_)
  (refine nx (a_seql (gd_on rfl rfl rfl rfl (by first | rfl | assumption | (simp; done))) rfl rfl rfl rfl rfl rfl rfl) rfl ?_)
  (refine ⟨_, _, _, aPt (gN rfl) rfl rfl rfl rfl rfl ?hb rfl, rfl, ?_⟩; case hb => (first | rfl | assumption | (simp; done)))
  (refine nx (aA (gN rfl) rfl rfl rfl rfl rfl) rfl ?_)
  show AWp _ _ _ _ _ _ _
  exact aT (And.intro (.inr rfl) rfl)
theorem wt_mem {x : Lt} : ∀ {c : List Lt}, x ∈ c → x.a.size + x.b.size ≤ wtL c
  | y :: c, h => by
    have e : wtL (y :: c) = (y.a.size + y.b.size) + wtL c := by unfold wtL; simp
    rw [e]
    rcases List.mem_cons.1 h with rfl | h
    · omega
    · have := wt_mem h; omega
theorem prs_nk {B n : Nat} {s : Sg} {l : List (List Lt)} (h : Prs B n s l) : ∀ c ∈ l, c.length ≤ 1000000 ∧ ∀ x ∈ c, x.nk 100 s.nm.length := fun c hc => by
  obtain ⟨h1, h2⟩ := h.lits c hc
  have hl := (txC_len (B := B) h.nms h1 h2).2
  refine ⟨by omega, fun x hx => ?_⟩
  have hw : x.a.size + x.b.size ≤ 60 := by
    have := wt_mem hx
    omega
  have hb := h2 x hx
  refine ⟨bd_nk (by omega) _ hb.a (by omega), ?_⟩
  cases ht : trB x.b with
  | true =>
    rw [(hb.t ht).1]
    exact (Tm.nk_iff _ _ _).2 ⟨⟨by decide, fun e => absurd e (by decide), fun e => by show (0 : Int) < _; omega, by decide⟩, fun s hs => by cases hs⟩
  | false => exact bd_nk (by omega) _ (hb.b ht) (by omega)
theorem prs_all {B n : Nat} {s : Sg} {l : List (List Lt)} (h : Prs B n s l) (hB : B ≤ 2000) (W : World) {m : List (List Lt)} (hm : ∀ c ∈ m, c ∈ l) (hml : m.length ≤ 64) : AFun Tryz.prog W 6 [sgv s, .lst (m.map lcv)] (.val (sv (txA s.nm m))) := by
  have hlen := txA_len (B := B) h.nms fun c hc => h.lits c (hm c hc)
  have : m.length * (60 * (B + 72) + 8) ≤ 64 * (60 * (B + 72) + 8) := Nat.mul_le_mul_right _ hml
  have := h.few
  exact (prAll_abs none 100 itoaS s (by omega) m (by omega) (fun c hc => prs_nk h c (hm c hc)) (by omega)).plain
end Go.Proofs.YtebhbnhijnpmcaaGreatDoor

namespace Go.Proofs.YtebhbnhijnpmcaaGreatDoor
open Go.RowKit
set_option linter.unusedVariables false
set_option linter.unusedSimpArgs false
set_option maxRecDepth 10000
def nb (r : By) : Prop := ∀ b r', r = b :: r' → inB b = false
theorem nb_cons {b : UInt8} {r : By} (h : inB b = false) : nb (b :: r) := fun c r' e => by
  have := (List.cons.inj e).1
  subst this
  exact h
theorem toks_name {x r : By} (hx : isNmL x = true) (ha : x.all inB = true) (hr : nb r) : toks (x ++ r) = x :: toks r := by
  cases x with
  | nil => cases hx
  | cons c x' =>
    have hl : (isSmL (c :: x') || isGrL (c :: x')) = true := by
      unfold isNmL at hx
      rw [Bool.and_eq_true] at hx
      exact hx.2
    have hl2 : (smB c || grB c) = true := hl
    have hc : blB.contains c = false ∧ c ≠ 37 := by
      have key : ∀ b : UInt8, (smB b || grB b) = true → b.toNat ≠ 32 ∧ b.toNat ≠ 9 ∧ b.toNat ≠ 10 ∧ b.toNat ≠ 13 ∧ b.toNat ≠ 37 := fun b hb => by
        unfold smB grB at hb
        simp at hb
        omega
      obtain ⟨k1, k2, k3, k4, k5⟩ := key c hl2
      constructor
      · cases hcb : blB.contains c with
        | false => rfl
        | true =>
          have hm : c ∈ blB := by simpa using hcb
          unfold blB at hm
          simp at hm
          rcases hm with rfl | rfl | rfl | rfl
          · exact absurd rfl k1
          · exact absurd rfl k2
          · exact absurd rfl k3
          · exact absurd rfl k4
      · rintro rfl
        exact k5 rfl
    have htw : (c :: x' ++ r).takeWhile inB = c :: x' := by
      rw [List.takeWhile_append_of_pos fun a h => List.all_eq_true.1 ha a h]
      cases r with
      | nil => simp
      | cons b r' => rw [List.takeWhile_cons_of_neg (by rw [hr b r' rfl]; simp)]; simp
    have hk : tkSz (c :: (x' ++ r)) = (c :: x').length := by
      unfold tkSz
      rw [if_neg (by simp), if_pos (by exact hl)]
      unfold nmSz
      rw [← List.cons_append, htw]
    rw [List.cons_append, toks_tok hc.1 hc.2, hk, ← List.cons_append, List.take_left, List.drop_left]
theorem toks_sign {c : UInt8} (hc : (([40, 41, 44, 124, 126, 61, 46] : By).contains c) = true) (r : By) : toks (c :: r) = [c] :: toks r := by
  have hm : c ∈ ([40, 41, 44, 124, 126, 61, 46] : By) := by simpa using hc
  have h1 : blB.contains c = false ∧ c ≠ 37 ∧ smB c = false ∧ grB c = false ∧ c ≠ 36 ∧ c ≠ 33 := by
    simp at hm
    rcases hm with rfl | rfl | rfl | rfl | rfl | rfl | rfl <;> decide
  obtain ⟨a1, a2, a3, a4, a5, a6⟩ := h1
  have hk : tkSz (c :: r) = 1 := by
    unfold tkSz
    rw [if_neg (by simp), if_neg (by show ¬ (smB c || grB c) = true; rw [a3, a4]; simp), if_neg, if_neg]
    · unfold Lib.hasPrefix unlB
      simp [List.isPrefixOf]
      intro e; exact absurd e.symm a6
    · unfold Lib.hasPrefix neverB
      simp [List.isPrefixOf]
      intro e; exact absurd e.symm a5
  rw [toks_tok a1 a2, hk]
  rfl
theorem toks_unl (r : By) : toks (33 :: 61 :: r) = unlB :: toks r := by
  have hk : tkSz (33 :: 61 :: r) = 2 := by
    unfold tkSz
    rw [if_neg (by simp), if_neg (by show ¬ (smB 33 || grB 33) = true; decide), if_neg (by simp [Lib.hasPrefix, neverB, List.isPrefixOf]), if_pos (by simp [Lib.hasPrefix, unlB, List.isPrefixOf])]
  rw [toks_tok (by decide) (by decide), hk]
  rfl
theorem toks_never (r : By) : toks (neverB ++ r) = neverB :: toks r := by
  have hk : tkSz (neverB ++ r) = 6 := by
    unfold tkSz
    rw [if_neg (by simp [neverB]), if_neg (by show ¬ (smB 36 || grB 36) = true; decide), if_pos (by simp [Lib.hasPrefix, neverB, List.isPrefixOf])]
  show toks (36 :: ([102, 97, 108, 115, 101] ++ r)) = _
  rw [toks_tok (by decide) (by decide)]
  have hk : tkSz (36 :: ([102, 97, 108, 115, 101] ++ r)) = 6 := hk
  rw [hk]
  rfl
theorem toks_b32 (r : By) : toks (32 :: r) = toks r := toks_blank (by decide) r
theorem sm_nm {B : Nat} {x : By} (h : SmN B x) : isNmL x = true := (sm_gr h.1).2.1
theorem toks_parts {nm : List By} (r : By) : ∀ (xs : List Tm), (∀ t ∈ xs, ∀ q, nb q → toks (txT nm t ++ q) = (phT nm t).tk ++ toks q) → toks ((xs.map (txT nm)).flatMap ([44] ++ ·) ++ 41 :: r) = comT ((xs.map (phT nm)).map Ph.tk) ++ [41] :: toks r
  | [], _ => by
    show toks (41 :: r) = _
    rw [toks_sign (by decide)]
    rfl
  | x :: xs, h => by
    have hnb : nb ((xs.map (txT nm)).flatMap ([44] ++ ·) ++ 41 :: r) := by
      cases xs with
      | nil => exact nb_cons (by decide)
      | cons y ys => exact nb_cons (by decide)
    rw [List.map_cons, List.flatMap_cons]
    show toks ((44 :: txT nm x ++ (xs.map (txT nm)).flatMap ([44] ++ ·)) ++ 41 :: r) = _
    rw [List.append_assoc, List.cons_append, toks_sign (by decide), h x (by simp) _ hnb, toks_parts r xs fun t ht => h t (List.mem_cons_of_mem _ ht)]
    rw [List.map_cons, List.map_cons, comT_cons]
    simp
theorem toks_txT {B : Nat} {nm : List By} (hn : NmsOk B nm) : ∀ t : Tm, t.bd nm.length 60 → ∀ r, nb r → toks (txT nm t ++ r) = (phT nm t).tk ++ toks r := by
  refine Tm.ind ?_
  intro f l ih h r hr
  obtain ⟨⟨h1, h2⟩, h3⟩ := (Tm.bd_iff nm.length 60 ⟨f, l⟩).1 h
  simp only at h1 h2 h3
  rw [txT_eq, phT_eq, Ph.tk_eq]
  simp only
  rcases Int.lt_or_le f 0 with hf | hf
  · rw [if_pos hf, if_pos hf]
    exact toks_name (xN_nm _) (xN_all _) hr
  · rw [if_neg (by omega), if_neg (by omega)]
    obtain ⟨n, rfl⟩ : ∃ n : Nat, f = (n : Int) := ⟨f.toNat, by omega⟩
    rw [Int.toNat_natCast]
    have hb := h2 hf
    have hs := symX_ok hn (n := n) (by omega) (by omega)
    cases l with
    | nil =>
      show toks ((symX nm n ++ []) ++ r) = symX nm n :: toks r
      rw [List.append_nil]
      exact toks_name (sm_nm hs) hs.2.1 hr
    | cons x xs =>
      show toks ((symX nm n ++ 40 :: ((txT nm x ++ (xs.map (txT nm)).flatMap ([44] ++ ·)) ++ [41])) ++ r) = _
      have e : (symX nm n ++ 40 :: ((txT nm x ++ (xs.map (txT nm)).flatMap ([44] ++ ·)) ++ [41])) ++ r = symX nm n ++ (40 :: (txT nm x ++ ((xs.map (txT nm)).flatMap ([44] ++ ·) ++ 41 :: r))) := by simp
      have hnb : nb ((xs.map (txT nm)).flatMap ([44] ++ ·) ++ 41 :: r) := by
        cases xs with
        | nil => exact nb_cons (by decide)
        | cons y ys => exact nb_cons (by decide)
      rw [e, toks_name (sm_nm hs) hs.2.1 (nb_cons (by decide)), toks_sign (by decide), ih x (by simp) (h3 x (by simp)) _ hnb, toks_parts r xs fun t ht => ih t (List.mem_cons_of_mem _ ht) (h3 t (List.mem_cons_of_mem _ ht))]
      show symX nm n :: [40] :: _ = symX nm n :: bodT (((x :: xs).map (phT nm)).map Ph.tk) ++ toks r
      rw [List.map_cons, List.map_cons, bodT]
      simp
theorem phT_wf {B : Nat} {nm : List By} (hn : NmsOk B nm) : ∀ t : Tm, t.bd nm.length 60 → (phT nm t).wf ∧ (phT nm t).sz = t.size := by
  refine Tm.ind ?_
  intro f l ih h
  have hz := Tm.size_le_l h
  obtain ⟨⟨h1, h2⟩, h3⟩ := (Tm.bd_iff nm.length 60 ⟨f, l⟩).1 h
  simp only at h1 h2 h3 hz
  rw [phT_eq, hz]
  simp only
  rcases Int.lt_or_le f 0 with hf | hf
  · rw [if_pos hf, (h1 hf).2]
    exact ⟨(Ph.wf_iff _).2 ⟨⟨xN_nm _, fun _ => rfl⟩, fun q hq => by cases hq⟩, by rw [Ph.sz_eq]; rfl⟩
  · rw [if_neg (by omega)]
    obtain ⟨n, rfl⟩ : ∃ n : Nat, f = (n : Int) := ⟨f.toNat, by omega⟩
    rw [Int.toNat_natCast]
    have hb := h2 hf
    have hs := symX_ok hn (n := n) (by omega) (by omega)
    refine ⟨(Ph.wf_iff _).2 ⟨⟨sm_nm hs, fun e => by have e : isGrL (symX nm n) = true := e; rw [(sm_gr hs.1).1] at e; cases e⟩, fun q hq => ?_⟩, ?_⟩
    · obtain ⟨t, ht, rfl⟩ := List.mem_map.1 hq
      exact (ih t ht (h3 t ht)).1
    · rw [Ph.sz_eq]
      show 1 + ((l.map (phT nm)).map Ph.sz).sum = _
      rw [List.map_map]
      congr 2
      exact List.map_congr_left fun t ht => (ih t ht (h3 t ht)).2
def tkL (nm : List By) (l : Lt) : List By := if trB l.b then (if l.neg then [[126]] else []) ++ (phT nm l.a).tk else (phT nm l.a).tk ++ ((if l.neg then unlB else [61]) :: (phT nm l.b).tk)
theorem toks_txL {B : Nat} {nm : List By} (hn : NmsOk B nm) {l : Lt} (h : LtB nm.length 60 l) {r : By} (hr : nb r) : toks (txL nm l ++ r) = tkL nm l ++ toks r := by
  unfold txL tkL
  cases ht : trB l.b with
  | true =>
    simp only [if_true]
    split
    · show toks (126 :: (txT nm l.a ++ r)) = _
      rw [toks_sign (by decide), toks_txT hn l.a h.a r hr]
      rfl
    · exact toks_txT hn l.a h.a r hr
  | false =>
    simp only [Bool.false_eq_true, if_false]
    rw [List.append_assoc, List.append_assoc, toks_txT hn l.a h.a _ (by split <;> exact nb_cons (by decide))]
    split
    · show _ ++ toks (32 :: 33 :: 61 :: 32 :: (txT nm l.b ++ r)) = _
      rw [toks_b32, toks_unl, toks_b32, toks_txT hn l.b (h.b ht) r hr]
      simp
    · show _ ++ toks (32 :: 61 :: 32 :: (txT nm l.b ++ r)) = _
      rw [toks_b32, toks_sign (by decide), toks_b32, toks_txT hn l.b (h.b ht) r hr]
      simp
def tkC (nm : List By) : List Lt → List By
  | [] => [neverB]
  | x :: xs => tkL nm x ++ xs.flatMap fun y => [124] :: tkL nm y
theorem toks_lits {B : Nat} {nm : List By} (hn : NmsOk B nm) (r : By) : ∀ (xs : List Lt), (∀ x ∈ xs, LtB nm.length 60 x) → toks ((xs.map (txL nm)).flatMap ([32, 124, 32] ++ ·) ++ 46 :: r) = (xs.flatMap fun y => [124] :: tkL nm y) ++ [46] :: toks r
  | [], _ => by
    show toks (46 :: r) = _
    rw [toks_sign (by decide)]
    rfl
  | x :: xs, h => by
    have hnb : nb ((xs.map (txL nm)).flatMap ([32, 124, 32] ++ ·) ++ 46 :: r) := by
      cases xs with
      | nil => exact nb_cons (by decide)
      | cons y ys => exact nb_cons (by decide)
    obtain ⟨R, hR⟩ : ∃ R, R = (xs.map (txL nm)).flatMap ([32, 124, 32] ++ ·) := ⟨_, rfl⟩
    have e : ((x :: xs).map (txL nm)).flatMap ([32, 124, 32] ++ ·) ++ 46 :: r = 32 :: 124 :: 32 :: (txL nm x ++ (R ++ 46 :: r)) := by rw [hR, List.map_cons, List.flatMap_cons]; simp
    rw [e]
    rw [← hR] at hnb
    rw [toks_b32, toks_sign (by decide), toks_b32, toks_txL hn (h x (by simp)) hnb, hR, toks_lits hn r xs fun t ht => h t (List.mem_cons_of_mem _ ht)]
    rw [List.flatMap_cons]
    simp
theorem toks_txC {B : Nat} {nm : List By} (hn : NmsOk B nm) {c : List Lt} (h : ∀ x ∈ c, LtB nm.length 60 x) (r : By) : toks (txC nm c ++ 46 :: r) = tkC nm c ++ [46] :: toks r := by
  cases c with
  | nil =>
    show toks (neverB ++ 46 :: r) = _
    rw [toks_never, toks_sign (by decide)]
    rfl
  | cons x xs =>
    have e : txC nm (x :: xs) = txL nm x ++ (xs.map (txL nm)).flatMap ([32, 124, 32] ++ ·) := rfl
    have hnb : nb ((xs.map (txL nm)).flatMap ([32, 124, 32] ++ ·) ++ 46 :: r) := by
      cases xs with
      | nil => exact nb_cons (by decide)
      | cons y ys => exact nb_cons (by decide)
    rw [e, List.append_assoc, toks_txL hn (h x (by simp)) hnb, toks_lits hn r xs fun t ht => h t (List.mem_cons_of_mem _ ht)]
    show _ = (tkL nm x ++ xs.flatMap fun y => [124] :: tkL nm y) ++ _
    rw [List.append_assoc]
theorem toks_txA {B : Nat} {nm : List By} (hn : NmsOk B nm) : ∀ {l : List (List Lt)}, (∀ c ∈ l, ∀ x ∈ c, LtB nm.length 60 x) → toks (txA nm l) = l.flatMap fun c => tkC nm c ++ [[46]]
  | [], _ => toks_nil
  | c :: l, h => by
    have e : txA nm (c :: l) = txC nm c ++ 46 :: 10 :: txA nm l := by unfold txA; rw [List.flatMap_cons]; simp
    rw [e, toks_txC hn (h c (by simp)), toks_blank (by decide), toks_txA hn fun d hd => h d (List.mem_cons_of_mem _ hd), List.flatMap_cons]
    simp
theorem rdLL_tk {B n : Nat} {nm : List By} (hn : NmsOk B nm) {l : Lt} (h : LtB nm.length 60 l) (hf : 2 * (l.a.size + l.b.size) ≤ n) {t : List By} (ht : hd t = [124] ∨ hd t = [46]) : rdLL n (tkL nm l ++ t) = some (phL nm l, true, t) := by
  obtain ⟨wa, sa⟩ := phT_wf hn l.a h.a
  have h61 : hd t ≠ [61] := by rcases ht with e | e <;> rw [e] <;> decide
  have hun : hd t ≠ unlB := by rcases ht with e | e <;> rw [e] <;> decide
  have h40 : hd t ≠ [40] := by rcases ht with e | e <;> rw [e] <;> decide
  have t61 : takeL t [61] = (false, t) := by rw [takeL_hd t (by simp), if_neg h61]
  have tun : takeL t unlB = (false, t) := by rw [takeL_hd t (by decide), if_neg hun]
  have htild : ∀ u, takeL ((phT nm l.a).tk ++ u) [126] = (false, (phT nm l.a).tk ++ u) := fun u => by
    rw [takeL_hd _ (by simp), if_neg]
    rw [tk_hd]
    intro e
    have := ((Ph.wf_iff _).1 wa).1.1
    rw [e] at this
    revert this
    decide
  unfold rdLL tkL phL
  cases htr : trB l.b with
  | true =>
    have hsa : isSmL (phT nm l.a).name = true := by
      have hp := (h.t htr).2
      have hb := (((Tm.bd_iff _ _ _).1 h.a).1.2 (by omega)).2
      rw [phT_eq, if_neg (by omega)]
      exact (symX_ok hn (n := l.a.f.toNat) (by omega) (by omega)).1
    rw [if_pos rfl]
    have hrd : rdXL n 1 ((phT nm l.a).tk ++ t) none = some (phT nm l.a, [], true, t) := (rdXL_tk n).1 1 _ t wa (by rw [sa]; omega) (by have := h.da nm; omega) (fun _ _ => h40)
    cases hng : l.neg with
    | true =>
      rw [if_pos rfl, List.append_assoc]
      have e : takeL ([[126]] ++ ((phT nm l.a).tk ++ t)) [126] = (true, (phT nm l.a).tk ++ t) := takeL_cons _ _
      rw [e]
      simp only
      rw [hrd]
      simp only [if_true]
      rw [t61]
      simp only [Bool.false_eq_true, if_false]
      rw [tun]
      simp only [Bool.false_eq_true, if_false, hsa]
    | false =>
      rw [if_neg (by simp), List.nil_append, htild]
      simp only
      rw [hrd]
      simp only [if_true]
      rw [t61]
      simp only [Bool.false_eq_true, if_false]
      rw [tun]
      simp only [Bool.false_eq_true, if_false, hsa]
  | false =>
    obtain ⟨wb, sb⟩ := phT_wf hn l.b (h.b htr)
    rw [if_neg (by simp), List.append_assoc, htild]
    simp only
    have hrb : rdXL n 1 ((phT nm l.b).tk ++ t) none = some (phT nm l.b, [], true, t) := (rdXL_tk n).1 1 _ t wb (by rw [sb]; omega) (by have := h.db htr nm; omega) (fun _ _ => h40)
    cases hng : l.neg with
    | true =>
      rw [if_pos rfl, List.cons_append]
      have hra : rdXL n 1 ((phT nm l.a).tk ++ (unlB :: ((phT nm l.b).tk ++ t))) none = some (phT nm l.a, [], true, unlB :: ((phT nm l.b).tk ++ t)) := (rdXL_tk n).1 1 _ _ wa (by rw [sa]; omega) (by have := h.da nm; omega) (fun _ _ => by show unlB ≠ [40]; decide)
      rw [hra]
      simp only [if_true]
      have e1 : takeL (unlB :: ((phT nm l.b).tk ++ t)) [61] = (false, unlB :: ((phT nm l.b).tk ++ t)) := by rw [takeL_hd _ (by simp), if_neg (by show unlB ≠ [61]; decide)]
      rw [e1]
      simp only [Bool.false_eq_true, if_false]
      rw [takeL_cons]
      simp only [if_true]
      rw [hrb]
      simp
    | false =>
      rw [if_neg (by simp), List.cons_append]
      have hra : rdXL n 1 ((phT nm l.a).tk ++ ([61] :: ((phT nm l.b).tk ++ t))) none = some (phT nm l.a, [], true, [61] :: ((phT nm l.b).tk ++ t)) := (rdXL_tk n).1 1 _ _ wa (by rw [sa]; omega) (by have := h.da nm; omega) (fun _ _ => by show ([61] : By) ≠ [40]; decide)
      rw [hra]
      simp only [if_true]
      rw [takeL_cons]
      simp only [if_true]
      rw [hrb]
      simp
theorem rdLsL_tk {B n : Nat} {nm : List By} (hn : NmsOk B nm) (hf : 120 ≤ n) {t : List By} (ht : hd t = [46]) : ∀ (m : Nat) (x : Lt) (xs : List Lt) (acc : List Se), (∀ y ∈ x :: xs, LtB nm.length 60 y ∧ y.a.size + y.b.size ≤ 60) → xs.length < m → rdLsL n m (tkL nm x ++ ((xs.flatMap fun y => [124] :: tkL nm y) ++ t)) acc = some (acc ++ (x :: xs).map (phL nm), true, t)
  | 0, _, _, _, _, h => by omega
  | m + 1, x, [], acc, h, _ => by
    rw [rdLsL]
    show (match rdLL n (tkL nm x ++ t) with | none => none | some r => _) = _
    rw [rdLL_tk hn (h x (by simp)).1 (by have := (h x (by simp)).2; omega) (.inr ht)]
    simp only [if_true]
    have e : takeL t [124] = (false, t) := by rw [takeL_hd t (by simp), if_neg (by rw [ht]; decide)]
    rw [e]
    rfl
  | m + 1, x, y :: ys, acc, h, hm => by
    rw [rdLsL, List.flatMap_cons]
    have e0 : tkL nm x ++ (([124] :: tkL nm y ++ ys.flatMap fun y => [124] :: tkL nm y) ++ t) = tkL nm x ++ ([124] :: (tkL nm y ++ ((ys.flatMap fun y => [124] :: tkL nm y) ++ t))) := by simp
    rw [e0, rdLL_tk hn (h x (by simp)).1 (by have := (h x (by simp)).2; omega) (.inl rfl)]
    simp only [if_true]
    rw [takeL_cons]
    simp only [if_true]
    rw [rdLsL_tk hn hf ht m y ys _ (fun z hz => h z (List.mem_cons_of_mem _ hz)) (by simp at hm; omega)]
    simp
theorem rdCL_tk {B n : Nat} {nm : List By} (hn : NmsOk B nm) (hf : 120 ≤ n) {c : List Lt} (hw : wtL c ≤ 60) (h : ∀ x ∈ c, LtB nm.length 60 x) (hc : c.length ≤ n) {t : List By} (ht : hd t = [46]) : rdCL n (tkC nm c ++ t) = some (c.map (phL nm), true, t) := by
  unfold rdCL
  cases c with
  | nil =>
    show (if (takeL (neverB :: t) neverB).1 then _ else _) = _
    rw [takeL_cons]
    rfl
  | cons x xs =>
    have hne : takeL (tkC nm (x :: xs) ++ t) neverB = (false, tkC nm (x :: xs) ++ t) := by
      rw [takeL_hd _ (by decide), if_neg]
      have hname : ∀ u, hd ((phT nm x.a).tk ++ u) ≠ neverB := fun u e => by
        rw [tk_hd] at e
        have := ((Ph.wf_iff _).1 (phT_wf hn x.a (h x (by simp)).a).1).1.1
        rw [e] at this
        revert this
        decide
      show hd ((tkL nm x ++ _) ++ t) ≠ neverB
      unfold tkL
      split
      · split
        · show ([126] : By) ≠ neverB; decide
        · rw [List.nil_append, List.append_assoc]; exact hname _
      · rw [List.append_assoc, List.append_assoc]; exact hname _
    rw [hne]
    simp only [Bool.false_eq_true, if_false]
    show rdLsL n n ((tkL nm x ++ xs.flatMap fun y => [124] :: tkL nm y) ++ t) [] = _
    rw [List.append_assoc, rdLsL_tk hn hf ht n x xs [] (fun y hy => ⟨h y hy, ?_⟩) (by simp at hc; omega)]
    · simp
    · have : ∀ {c : List Lt}, y ∈ c → y.a.size + y.b.size ≤ wtL c := by
        intro c
        induction c with
        | nil => intro h; cases h
        | cons z c ih =>
          intro h
          have e : wtL (z :: c) = (z.a.size + z.b.size) + wtL c := by unfold wtL; simp
          rw [e]
          rcases List.mem_cons.1 h with rfl | h
          · omega
          · have := ih h; omega
      have := this hy
      omega
theorem rdFL_tk {B n : Nat} {nm : List By} (hn : NmsOk B nm) (hf : 120 ≤ n) : ∀ (m : Nat) (l : List (List Lt)) (acc : List (List Se)), (∀ c ∈ l, (wtL c ≤ 60 ∧ ∀ x ∈ c, LtB nm.length 60 x) ∧ c.length ≤ n) → l.length < m → rdFL n m (l.flatMap fun c => tkC nm c ++ [[46]]) acc = some (acc ++ l.map fun c => c.map (phL nm), true)
  | 0, _, _, _, h => by omega
  | m + 1, [], acc, _, _ => by
    rw [rdFL]
    simp
  | m + 1, c :: l, acc, h, hm => by
    obtain ⟨⟨h1, h2⟩, h3⟩ := h c (by simp)
    rw [List.flatMap_cons, List.append_assoc, rdFL, if_neg]
    · rw [rdCL_tk hn hf h1 h2 h3 (by rfl)]
      simp only [if_true]
      obtain ⟨X, hX⟩ : ∃ X, X = l.flatMap fun c => tkC nm c ++ [[46]] := ⟨_, rfl⟩
      rw [← hX]
      have e4 : takeL ([[46]] ++ X) [46] = (true, X) := takeL_cons _ _
      rw [e4]
      simp only [if_true]
      rw [hX, rdFL_tk hn hf m l _ (fun d hd => h d (List.mem_cons_of_mem _ hd)) (by simp at hm; omega)]
      simp
    · intro e
      have := congrArg List.length e
      simp at this
end Go.Proofs.YtebhbnhijnpmcaaGreatDoor
