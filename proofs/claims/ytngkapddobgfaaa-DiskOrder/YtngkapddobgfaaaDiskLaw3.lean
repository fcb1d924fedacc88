/-
  The walk of the law DiskOrder: what is seen behind a crash is what was seen behind as many deeds, but for a part of what the next one appended.
-/
import Derived.Test.YtngkapddobgfaaaDiskOrdMem
namespace Go.Proofs.Ytngkapddobgfaaa
open Go.RowKit Go.Maps
set_option linter.unusedVariables false

set_option maxRecDepth 100000 in
set_option maxHeartbeats 4000000 in
theorem diskOrder_walk (a0 : Option Addr) (n0 c0 : Nat) (r0 : List ARef) (keep torn : Int) (w : World) (h0 : As w a0 n0 c0 r0) (hkp : -9223372036854775808 ≤ keep ∧ keep ≤ 9223372036854775807) (htn : -9223372036854775808 ≤ torn ∧ torn ≤ 9223372036854775807) :
    Calls Try.prog 5 #[.slice a0 n0 c0, .int .i64 keep, .int .i64 torn] w fun e w' => e = .returned (.bool true) ∧ Below w.heap.size w w' := by
  obtain ⟨B, hB⟩ : ∃ B, B = w.heap.size := ⟨_, rfl⟩
  rw [← hB]
  have hBw : B ≤ w.heap.size := by omega
  have hwB : w.heap.size ≤ B := by omega
  have halive := alive_any w
  rw [← hB] at halive
  clear hB
  have hc0 := h0.2.1
  have HA0 : Hid (As w a0 n0 c0 r0) := h0
  have hf0 : ∀ w', Below B w w' → Calls Try.prog 10 #[.slice a0 n0 c0] w' fun e w'' => e = .returned (.bool (farF r0)) ∧ w'' = w' := fun w' hb => far_any a0 n0 c0 r0 w' (h0.below hb hwB)
  cases e0 : farF r0 with
  | true =>
    rw [e0] at hf0
    clear e0 h0
    go_enter Try.func5, Try.ntmps5
    go_wp2_with fail
    refine halive.mono ?_
    rintro e w1 ⟨rfl, hb1⟩
    go_wp2_with fail
    refine (hf0 w1 hb1).mono ?_
    rintro e w2 ⟨rfl, rfl⟩
    go_wp2
    go_ret
    exact ⟨rfl, hb1⟩
  | false =>
  rw [e0] at hf0
  obtain ⟨hn0, hr0⟩ := near_of e0
  have hl0 := h0.1
  have HR0 : Hid (∀ r ∈ r0, r.n ≤ 200 ∧ r.name.size ≤ 60 ∧ r.to.size ≤ 60 ∧ 0 ≤ r.kind ∧ r.kind ≤ 8) := hr0
  have hq0 : n0 ≤ 60 := by omega
  clear e0 h0 hr0 hn0 hl0
  go_enter Try.func5, Try.ntmps5
  go_wp2_with fail
  refine halive.mono ?_
  rintro e w1 ⟨rfl, hb1⟩
  go_wp2_with fail
  refine (hf0 w1 hb1).mono ?_
  rintro e w2 ⟨rfl, rfl⟩
  have hs1 := hb1.size
  have hnew := new_t (Old B) 1048576 w2 (fun i hi => Nat.lt_of_lt_of_le hi (by omega)) (by omega) (by omega)
  rw [show (1048576 : Int).toNat = 1048576 from rfl] at hnew
  clear halive hf0
  go_wp2_with fail
  refine hnew.mono ?_
  rintro e w4 ⟨rfl, hD4, hb4⟩
  have hb4' : Below B w w4 := hb1.trans (hb4.mono (by omega))
  have hs4 := hb4'.size
  obtain ⟨p, hp⟩ : ∃ p, p = w2.heap.size := ⟨_, rfl⟩
  rw [← hp] at hD4 ⊢
  obtain ⟨a5, c5, w5, hrun5, ho5, hk5, hD5⟩ := app_law hD4 (show B ≤ w4.heap.size by omega) 50 45 (.slice none 0 0) 1 24 Try.underlying50 info_strs rfl (by decide) (.slice none 0 0) 0 [] [.slice none 0 0] (World.ownsRow_nil _ _ _ _) (fun g hg => by cases hg) rfl (by simp [Value.oneCell']) (by omega) (by omega)
  have hb5 : Below B w w5 := hb4'.trans (hk5.below (by omega) (fun i e => by cases e))
  have hG5 : Gath B (fun i => (Value.slice a5 (0 + 1) c5).ownBlock = some i) w5 [] (.slice a5 (0 + 1) c5) (.slice none 0 0) 0 [.slice none 0 0] [] :=
    ⟨ho5, World.ownsRow_nil _ _ _ _, rfl, fun k v hv => by
      have : v = .slice none 0 0 := by
        cases k with
        | zero => simpa using hv.symm
        | succ k => simp at hv
      subst this
      exact ⟨by simpa [foldF, strsF] using World.ownsRow_nil w5 B 9 1, (fun g hg => by cases hg)⟩, fun g hg => hg, (fun g hg => by cases hg), fun g hg => (ho5.lt g hg).1⟩
  have HG5 : Hid (Gath B (fun i => (Value.slice a5 (0 + 1) c5).ownBlock = some i) w5 [] (.slice a5 (0 + 1) c5) (.slice none 0 0) 0 [.slice none 0 0] []) := hG5
  have HB5 : Hid (Below B w w5) := hb5
  have HD5 : Hid (DkT (fun i => Old B i ∨ (Value.slice a5 (0 + 1) c5).ownBlock = some i) w5 p (newS 1048576)) := hD5
  have HRUN : Hid (Sem.run Try.prog (Builtin.append_ #[50, 50] 50 #[.slice none 0 0, .slice (some ⟨w4.heap.size, 0, none⟩) 1 1]) (w4.alloc (.cells #[.slice none 0 0] 45)) = .ok (.slice a5 (0 + 1) c5) w5) := hrun5
  clear hnew hb4 hb4' hb1 hp hs1 hrun5 ho5 hk5 hD5 hD4 hG5 hb5
  go_wp2_with (at_builtin; refine wpList_append_run _ rfl _ _ 50 rfl _ _ rfl rfl (.slice a5 (0 + 1) c5) w5 HRUN.out ?_)
  go_loopw [9, 10, 11] (fun av nv iv wr => ∃ (j m : Nat) (nx : List ARef) (st : St) (vals : List Value) (L : Nat → Prop), iv = .int .i64 (j : Int) ∧ j ≤ n0 ∧ m ≤ j ∧ Gath B L wr st.waits av nv m vals nx ∧ (∀ r ∈ nx, r ∈ r0 ∧ r.kind < 5) ∧ Ord 1048576 st nx ∧ DkT (fun i => Old B i ∨ L i) wr p st ∧ Below B w wr) (fun _ _ iv _ => n0 - (intOf iv).toNat)
  case atStart => exact ⟨0, 0, [], newS 1048576, _, _, rfl, Nat.zero_le _, Nat.le_refl _, HG5.out, by simp, ord_new _, HD5.out, HB5.out⟩
  case round =>
    obtain ⟨j, m, nx, st, vals, L, rfl, hj, hmj, hG, hnx, hO, hDj, hbj⟩ := hrel
    have hsj := hbj.size
    have hsd : st.deeds ≤ 60 := by rw [hO.deeds, ← hG.len]; omega
    obtain ⟨aa, ac, rfl, hac, _, _, _⟩ := ownsRow_cs hG.all
    obtain ⟨na, nc, rfl, hnc, _, _, _⟩ := ownsRow_cs hG.next
    by_cases hlt : j < n0
    · obtain ⟨b, off, r, rfl, hr, hinn, hbb, hc⟩ := (HA0.out.below hbj hwB).at hlt
      have d0 : wr.cell? ⟨b, off + j * 6, none⟩ = some (.int .i64 r.kind) := hc 0 (by omega)
      have d1 : wr.cell? ⟨b, off + j * 6 + 1, none⟩ = some (.string r.name) := hc 1 (by omega)
      have d2 : wr.cell? ⟨b, off + j * 6 + 2, none⟩ = some (.string r.to) := hc 2 (by omega)
      have d3 : wr.cell? ⟨b, off + j * 6 + 3, none⟩ = some (.slice r.a r.n r.c) := hc 3 (by omega)
      have d4 : wr.cell? ⟨b, off + j * 6 + 4, none⟩ = some (.int .i64 r.num) := hc 4 (by omega)
      have d5 : wr.cell? ⟨b, off + j * 6 + 5, none⟩ = some (.int .i64 r.torn) := hc 5 (by omega)
      have hrm : r ∈ r0 := List.mem_of_getElem? hr
      obtain ⟨m1, m2, m3, m4, m5⟩ := HR0.out r hrm
      have hin0 := HA0.out.2.2.2.2.2 r hrm
      by_cases hk5 : r.kind < 5
      · have tk : ¬ (4 : Int) < r.kind := by omega
        have hdo := do_t (fun i => Old B i ∨ L i) p st r wr hDj (by omega) hinn m4 m5 (by omega) (fun x hx h0 => .inl (by have := hin0.2.2.2.2.2 x hx h0; unfold Old; omega))
        rcases ord_step hO r hk5 with ⟨hE, hO', htk⟩ | ⟨hE, hS⟩
        · rw [hE] at hdo
          obtain ⟨st6, hst6⟩ : ∃ s, s = playS st r.act := ⟨_, rfl⟩
          rw [← hst6] at hdo hO' htk
          have HC : Hid (∀ w', Below B w w' → w'.cell? ⟨b, off + j * 6, none⟩ = some (.int .i64 r.kind) ∧ w'.cell? ⟨b, off + j * 6 + 1, none⟩ = some (.string r.name) ∧ w'.cell? ⟨b, off + j * 6 + 2, none⟩ = some (.string r.to) ∧ w'.cell? ⟨b, off + j * 6 + 3, none⟩ = some (.slice r.a r.n r.c) ∧ w'.cell? ⟨b, off + j * 6 + 4, none⟩ = some (.int .i64 r.num) ∧ w'.cell? ⟨b, off + j * 6 + 5, none⟩ = some (.int .i64 r.torn)) := by
            intro w' hb'
            obtain ⟨b', off', r', e1, e2, _, _, hc'⟩ := (HA0.out.below hb' hwB).at hlt
            cases e1
            rw [hr] at e2
            cases e2
            exact ⟨hc' 0 (by omega), hc' 1 (by omega), hc' 2 (by omega), hc' 3 (by omega), hc' 4 (by omega), hc' 5 (by omega)⟩
          clear hst6 hin0 hinn hr m1 m2 m3 hc hDj hO
          go_wp2_with fail
          refine hdo.mono ?_
          rintro e w6 ⟨⟨sa, sn, sc⟩, rfl, _, hD6, hk6⟩
          unfold Sl.val
          have hb6 : Below B w w6 := hbj.trans (hk6.oldT (by omega) (fun i hi => .inl hi))
          have hG6 := hG.kp hk6 (fun g hg e => e (.inr hg))
          have hs6 := hb6.size
          have hd6 : st6.deeds ≤ 61 := by rw [hO'.deeds, List.length_append, ← hG.len]; simp; omega
          have hrd := readAll_t _ _ _ _ hD6 (by omega) hO'.idle.1 hO'.good
          rw [hO'.seen, List.length_append, ← hG.len, show m + [r].length = m + 1 from rfl] at hrd
          obtain ⟨Lk, hLk⟩ : ∃ Lk, Lk = foldF [] (st6.waits.take (m + 1)) := ⟨_, rfl⟩
          rw [← hLk] at hrd
          clear hdo hk6 hG hD6
          go_wp2_with fail
          refine hrd.mono ?_
          rintro e w7 ⟨v7, rfl, hrow7, hD7, hk7⟩
          have hb7 : Below B w w7 := hb6.trans (hk7.oldT (by omega) (fun i hi => .inl hi))
          have hs7 := hb7.size
          have hG7 := hG6.kp hk7 (fun g hg e => e (.inr hg))
          have hrow7' := ownsRow_mono hrow7 (show B ≤ w6.heap.size by omega)
          rw [hLk] at hrow7'
          obtain ⟨a8, c8, w8, a9, c9, w9, L', hrun8, hrun9, hG9, hD9, hb8, hb9⟩ := gath_step r hG7 (fun k hk => htk k (by rw [← hG7.len]; exact hk)) hrow7' hD7 (show B ≤ w7.heap.size by omega) (by omega)
          have hb8' : Below B w w8 := hb7.trans hb8
          have hb9' : Below B w w9 := hb7.trans hb9
          obtain ⟨f0, f1, f2, f3, f4, f5⟩ := HC.out w8 hb8'
          obtain ⟨a7, c7, rfl, _⟩ := ownsRow_cs hrow7
          have HR8 : Hid (Sem.run Try.prog (Builtin.append_ #[50, 50] 50 #[.slice aa (m + 1) ac, .slice (some ⟨w7.heap.size, 0, none⟩) 1 1]) (w7.alloc (.cells #[.slice a7 (Lk.length * 2) c7] 45)) = .ok (.slice a8 (m + 1 + 1) c8) w8) := hrun8
          have HR9 : Hid (Sem.run Try.prog (Builtin.append_ #[22, 22] 22 #[.slice na m nc, .slice (some ⟨w8.heap.size, 0, none⟩) 1 1]) (w8.alloc (.cells #[.int .i64 r.kind, .string r.name, .string r.to, .slice r.a r.n r.c, .int .i64 r.num, .int .i64 r.torn] 36)) = .ok (.slice a9 (m + 1) c9) w9) := hrun9
          have HG9 : Hid (Gath B L' w9 st6.waits (.slice a8 (m + 1 + 1) c8) (.slice a9 (m + 1) c9) (m + 1) (vals ++ [.slice a7 (Lk.length * 2) c7]) (nx ++ [r])) := hG9
          have HD9 : Hid (DkT (fun i => Old B i ∨ L' i) w9 p st6) := hD9
          have HO : Hid (Ord 1048576 st6 (nx ++ [r])) := hO'
          have HB9 : Hid (Below B w w9) := hb9'
          have HLK : Hid (Lk = foldF [] (st6.waits.take (m + 1))) := hLk
          clear hrun8 hrun9 hG9 hD9 hb8 hb9 hb8' hb9' hrow7 hrow7' hG7 hG6 hD7 hk7 hb7 hb6 hrd hO' htk hLk
          go_wp2_with (at_builtin; first
            | refine wpList_append_run _ rfl _ _ 50 rfl _ _ rfl rfl (.slice a8 (m + 1 + 1) c8) w8 HR8.out ?_
            | refine wpList_append_run _ rfl _ _ 22 rfl _ _ rfl rfl (.slice a9 (m + 1) c9) w9 HR9.out ?_)
          go_roundw
          case rel => exact ⟨j + 1, m + 1, nx ++ [r], st6, _, L', by go_num, by omega, by omega, HG9.out, fun x hx => (List.mem_append.1 hx).elim (hnx x) (fun h => by rw [List.mem_singleton.1 h]; exact ⟨hrm, hk5⟩), HO.out, HD9.out, HB9.out⟩
          case measure => simp [intOf]; omega
        · rw [hS] at hdo
          obtain ⟨E, hEe⟩ : ∃ E, E = playE st r.act := ⟨_, rfl⟩
          rw [← hEe] at hdo hE
          have tE : (E == 0) = false := by simpa using hE
          have HO : Hid (Ord 1048576 st nx) := hO
          clear hin0 hinn hr m1 m2 m3 hc hDj hS hEe hO
          go_wp2_with fail
          refine hdo.mono ?_
          rintro e w6 ⟨⟨sa, sn, sc⟩, rfl, _, hD6, hk6⟩
          unfold Sl.val
          have hb6 : Below B w w6 := hbj.trans (hk6.oldT (by omega) (fun i hi => .inl hi))
          have hG6 := hG.kp hk6 (fun g hg e => e (.inr hg))
          clear hdo hk6 hG
          go_wp2
          go_roundw
          case rel => exact ⟨j + 1, m, nx, st, vals, L, by go_num, by omega, by omega, hG6, hnx, HO.out, hD6, hb6⟩
          case measure => simp [intOf]; omega
      · have tk : (4 : Int) < r.kind := by omega
        clear hin0 hinn hr m1 m2 m3 hc
        go_wp2
        go_roundw
        case rel => exact ⟨j + 1, m, nx, st, vals, L, by go_num, by omega, by omega, hG, hnx, hO, hDj, hbj⟩
        case measure => simp [intOf]; omega
    · -- from here on by gen-order.py
      have tlt : ¬ (j : Int) < (n0 : Int) := by omega
      have hml : m = nx.length := hG.len
      have hm60 : m ≤ 60 := by omega
      have hwl : st.waits.length = m := by rw [hO.waits, List.length_map, ← hml]
      have hwt := waits_t _ _ _ _ hDj
      rw [hwl] at hwt
      have hdt := deeds_t _ _ _ _ hDj
      rw [hO.deeds, ← hml] at hdt
      have hcr := crash_t _ _ _ _ hDj keep torn (by omega)
      obtain ⟨z2, _, z4, _⟩ := idle_crash hO.idle.2.2 keep torn
      have z5 := good_crash hO.good keep torn
      have HSAME : Hid (∀ (k : Nat), cutZ keep (m : Int) = (k : Int) → (k = m ∨ ∃ r, nx[k]? = some r ∧ (0 ≤ r.kind ∧ r.kind < 5) ∧ (r.kind ≠ 1 ∨ torn ≤ 0)) → seenF (crashF st keep torn) = foldF [] (st.waits.take k)) := fun k h1 h2 => ord_same hO keep torn (by rw [← hml]; exact h1) (by rw [← hml]; exact h2)
      have HTORN : Hid (∀ (k : Nat) (r : ARef), cutZ keep (m : Int) = (k : Int) → nx[k]? = some r → r.kind = 1 → seenF (crashF st keep torn) = (foldF [] (st.waits.take k)).map fun f => if f.1 = r.name.toList then (f.1, f.2 ++ r.zs.take (cutZ torn (r.zs.length : Int)).toNat) else f) := fun k r h1 h2 h3 => ord_torn hO keep torn (by rw [← hml]; exact h1) h2 h3
      obtain ⟨s5, hs5⟩ : ∃ s5, s5 = crashF st keep torn := ⟨_, rfl⟩
      rw [← hs5] at hcr z2 z4 z5 HSAME HTORN
      have hd5 : s5.deeds ≤ 60 := by omega
      obtain ⟨ws, hws⟩ : ∃ ws, ws = st.waits := ⟨_, rfl⟩
      rw [← hws] at hG HSAME HTORN
      have HML : Hid (m = nx.length) := hml
      clear hs5 hO hws z4 hwl hsd hml
      go_wp2_with fail
      refine hwt.mono ?_
      rintro e w5' ⟨rfl, rfl⟩
      go_wp2_with fail
      refine hdt.mono ?_
      rintro e w5'' ⟨rfl, rfl⟩
      have tmm : ((m : Int) != (m : Int)) = false := by simp
      go_wp2_with fail
      refine hcr.mono ?_
      rintro e w5 ⟨rfl, hD5, hk5⟩
      have hb5 : Below B w w5 := hbj.trans (hk5.oldT (by omega) (fun i hi => .inl hi))
      have hs5 := hb5.size
      have hG5 := hG.kp hk5 (fun g hg e => e (.inr hg))
      clear hwt hdt hcr hk5 hG hDj hbj hsj
      have hvl : vals.length = m + 1 := by have := hG5.all.1; omega
      obtain ⟨ba, oa, rfl, hba, hca⟩ : ∃ ba oa, aa = some ⟨ba, oa, none⟩ ∧ ba < w5.heap.size ∧ ∀ k, k ≤ m → w5.cell? ⟨ba, oa + k, none⟩ = vals[k]? := by
        obtain ⟨_, _, e1, _, _, _, hcs⟩ := ownsRow_cs hG5.all
        cases e1
        rcases hcs with e | ⟨ba, oa, h1, h2, h3⟩
        · rw [e] at hvl; simp at hvl
        · exact ⟨ba, oa, h1, h2, fun k hk => h3 k (by omega)⟩
      have HV : Hid (∀ k, k ≤ m → ∃ xa xc, w5.cell? ⟨ba, oa + k, none⟩ = some (.slice xa ((foldF [] (ws.take k)).length * 2) xc) ∧ w5.ownsRow B 9 1 (.slice xa ((foldF [] (ws.take k)).length * 2) xc) ((foldF [] (ws.take k)).length * 2) ((strsF (foldF [] (ws.take k))).map Value.string) ∧ ∀ g, (Value.slice xa ((foldF [] (ws.take k)).length * 2) xc).ownBlock = some g → L g) := by
        intro k hk
        have hkl : k < vals.length := by omega
        obtain ⟨h1, h2⟩ := hG5.rows k _ (List.getElem?_eq_getElem hkl)
        have h3 := hca k hk
        rw [List.getElem?_eq_getElem hkl] at h3
        obtain ⟨xa, xc, e1, _⟩ := ownsRow_cs h1
        rw [e1] at h1 h2 h3
        exact ⟨xa, xc, h3, h1, h2⟩
      have HN : Hid (∀ k r, nx[k]? = some r → ∃ bn on, na = some ⟨bn, on, none⟩ ∧ bn < w5.heap.size ∧ ∀ i, i < 6 → w5.cell? ⟨bn, on + k * 6 + i, none⟩ = r.cells[i]?) := by
        intro k r hr
        obtain ⟨_, _, e1, _, _, _, hcs⟩ := ownsRow_cs hG5.next
        cases e1
        have hkl : k < nx.length := by
          rcases Nat.lt_or_ge k nx.length with h | h
          · exact h
          · rw [List.getElem?_eq_none h] at hr; cases hr
        rcases hcs with e | ⟨bn, on, h1, h2, h3⟩
        · have := congrArg List.length e
          rw [acells_length, List.length_nil] at this
          omega
        · refine ⟨bn, on, h1, h2, fun i hi => ?_⟩
          have h4 := h3 (k * 6 + i) (by rw [acells_length]; omega)
          rw [← Nat.add_assoc] at h4
          rw [h4]
          exact acells_at nx k r hr i hi
      have HRD : Hid (∀ w', Below w5.heap.size w5 w' → Calls Try.prog 21 #[.pointer (some ⟨p, 0, none⟩)] w' fun e w'' => ∃ v, e = .returned v ∧ w''.ownsRow w'.heap.size 9 1 v ((seenF s5).length * 2) ((strsF (seenF s5)).map Value.string) ∧ DkT (fun i => (Old B i ∨ L i) ∨ v.ownBlock = some i) w'' p s5 ∧ Kp (fun i => ¬ (Old B i ∨ L i)) w' w'') := fun w' hb => readAll_t _ _ _ _ (hD5.below hb) (by omega) z2.1 z5
      have HIN : Hid (∀ r ∈ nx, (0 ≤ r.kind ∧ r.kind < 5) ∧ r.n ≤ 200 ∧ ∀ w', Below B w w' → r.inn w') := fun r hr => by
        obtain ⟨h1, h2⟩ := hnx r hr
        obtain ⟨m1, _, _, m4, _⟩ := HR0.out r h1
        exact ⟨⟨m4, h2⟩, m1, fun w' hb => (HA0.out.2.2.2.2.2 r h1).below hb hwB⟩
      have hlen5 : (seenF s5).length ≤ 64 := (hD5.deeds.2.1).2.1
      have hU5 : usedF (seenF s5) ≤ 1073741824 := Nat.le_trans (hD5.deeds.2.1).2.2 hD5.deeds.2.2
      have HLG : Hid (∀ g, L g → B ≤ g ∧ g < w5.heap.size) := fun g hg => ⟨hG5.lb g hg, hD5.1 g (.inr hg)⟩
      have hLba : L ba := hG5.la ba rfl
      have HLN : Hid (∀ g, (Value.slice na m nc).ownBlock = some g → L g) := hG5.ln
      clear hG5 hD5 z2 z5 hnx hca hvl HA0 HR0
      rcases Int.lt_or_le keep 0 with hk0 | hk0
      · have hcK : cutZ keep (m : Int) = ((0 : Nat) : Int) := by unfold cutZ; rw [if_pos hk0]; rfl
        have t1 : keep < 0 := hk0
        have t2 : ¬ (m : Int) < 0 := by omega
        by_cases hm0 : m = 0
        · subst hm0
          have hse := HSAME.out 0 hcK (.inl rfl)
          obtain ⟨xa, xc, hcx, hrx, hLx⟩ := HV.out 0 (by omega)
          rw [Nat.add_zero] at hcx
          rw [← hse] at hcx hrx hLx
          have hrd := HRD.out w5.drew (Below.refl _ _).drew
          obtain ⟨Lk, hLk⟩ : ∃ Lk, Lk = seenF s5 := ⟨_, rfl⟩
          rw [← hLk] at hcx hrx hLx hrd hlen5
          obtain ⟨ln, hln⟩ : ∃ ln, ln = Lk.length * 2 := ⟨_, rfl⟩
          rw [← hln] at hcx hrx hLx hrd
          have HLX : Hid (∀ g, (Value.slice xa ln xc).ownBlock = some g → L g) := hLx
          have hS0 : w5.drew.cell? ⟨ba, oa, none⟩ = some (.slice xa ln xc) := hcx
          have hrx' : w5.drew.ownsRow B 9 1 (.slice xa ln xc) ln ((strsF Lk).map Value.string) := hrx
          have hlnb : ln ≤ 128 := by omega
          have ix1 : (0 : Int) < (0 : Int) + 1 := by omega
          have ix2 : (0 : Int) ≤ (0 : Int) := by omega
          clear hse hLk hln hLx hrx HV HRD HSAME HTORN HN HIN HLN
          go_wp2_with fail
          go_region_held3 (fun w' => w'.cell? ⟨ba, oa, none⟩ = some (.slice xa ln xc)) (first | exact hS0 | exact hS1 | exact hS2)
            (first
              | (go_at_call 21; refine hrd.mono ?_; rintro e w6 ⟨v6, rfl, hrow6, hD6, hk6⟩; have hS1 := hk6.cell hS0 (fun e => e (.inr hLba)); obtain ⟨a6, c6, rfl, _⟩ := ownsRow_cs hrow6; have hrx6 := rowk_kp hrx' hk6 (fun g hg e => e (.inr (HLX.out g hg))); dsimp only)
              | (go_at_call 23; refine (same_rows hrow6 hrx6 (by omega)).mono ?_; rintro e w7 ⟨rfl, hb7⟩; have hS2 := (hb7.cell (p := ⟨ba, oa, none⟩) (Nat.lt_of_lt_of_le hba hk6.size)).trans hS1; dsimp only))
          all_goals have hb6 : Below B w w6 := hb5.drew.trans (hk6.oldT (by show B ≤ w5.heap.size; omega) (fun i hi => .inl hi))
          all_goals have hs6 := hb6.size
          all_goals go_wp2
          all_goals go_ret
          all_goals exact ⟨rfl, hb6.trans (hb7.mono (by omega))⟩
        · have hm0' : 0 < m := by omega
          obtain ⟨r, hr⟩ : ∃ r, nx[0]? = some r := ⟨_, List.getElem?_eq_getElem (by rw [← HML.out]; omega)⟩
          obtain ⟨bn, on, rfl, hbn, hcn⟩ := HN.out 0 r hr
          obtain ⟨⟨rk1, rk2⟩, rn2, rin⟩ := HIN.out r (List.mem_of_getElem? hr)
          have e0 : w5.cell? ⟨bn, on, none⟩ = some (.int .i64 r.kind) := by have h := hcn 0 (by omega); rw [Nat.zero_mul, Nat.add_zero] at h; exact h
          have e1 : w5.cell? ⟨bn, on + 1, none⟩ = some (.string r.name) := by have h := hcn 1 (by omega); rw [Nat.zero_mul, Nat.add_zero] at h; exact h
          have e3 : w5.cell? ⟨bn, on + 3, none⟩ = some (.slice r.a r.n r.c) := by have h := hcn 3 (by omega); rw [Nat.zero_mul, Nat.add_zero] at h; exact h
          have hLbn : L bn := HLN.out bn rfl
          have iy1 : (0 : Int) < (m : Int) := by omega
          have iy2 : ((0 : Int) == (m : Int)) = false := by simp; omega
          have iy3 : ¬ (0 : Int) = (m : Int) := by omega
          clear hcn
          by_cases hk1 : r.kind = 1
          · have v1 : (r.kind != 1) = false := by simp [hk1]
            by_cases ht0 : torn ≤ 0
            · have hse := HSAME.out 0 hcK (.inr ⟨r, hr, ⟨rk1, rk2⟩, .inr ht0⟩)
              obtain ⟨xa, xc, hcx, hrx, hLx⟩ := HV.out 0 (by omega)
              rw [Nat.add_zero] at hcx
              rw [← hse] at hcx hrx hLx
              have hrd := HRD.out w5.drew (Below.refl _ _).drew
              obtain ⟨Lk, hLk⟩ : ∃ Lk, Lk = seenF s5 := ⟨_, rfl⟩
              rw [← hLk] at hcx hrx hLx hrd hlen5
              obtain ⟨ln, hln⟩ : ∃ ln, ln = Lk.length * 2 := ⟨_, rfl⟩
              rw [← hln] at hcx hrx hLx hrd
              have HLX : Hid (∀ g, (Value.slice xa ln xc).ownBlock = some g → L g) := hLx
              have hS0 : w5.drew.cell? ⟨ba, oa, none⟩ = some (.slice xa ln xc) := hcx
              have hrx' : w5.drew.ownsRow B 9 1 (.slice xa ln xc) ln ((strsF Lk).map Value.string) := hrx
              have hlnb : ln ≤ 128 := by omega
              have ix1 : (0 : Int) < (m : Int) + 1 := by omega
              have ix2 : (0 : Int) ≤ (0 : Int) := by omega
              clear hse hLk hln hLx hrx HV HRD HSAME HTORN HN HIN HLN
              go_wp2_with fail
              go_region_held3 (fun w' => w'.cell? ⟨ba, oa, none⟩ = some (.slice xa ln xc)) (first | exact hS0 | exact hS1 | exact hS2)
                (first
                  | (go_at_call 21; refine hrd.mono ?_; rintro e w6 ⟨v6, rfl, hrow6, hD6, hk6⟩; have hS1 := hk6.cell hS0 (fun e => e (.inr hLba)); obtain ⟨a6, c6, rfl, _⟩ := ownsRow_cs hrow6; have hrx6 := rowk_kp hrx' hk6 (fun g hg e => e (.inr (HLX.out g hg))); dsimp only)
                  | (go_at_call 23; refine (same_rows hrow6 hrx6 (by omega)).mono ?_; rintro e w7 ⟨rfl, hb7⟩; have hS2 := (hb7.cell (p := ⟨ba, oa, none⟩) (Nat.lt_of_lt_of_le hba hk6.size)).trans hS1; dsimp only))
              all_goals have hb6 : Below B w w6 := hb5.drew.trans (hk6.oldT (by show B ≤ w5.heap.size; omega) (fun i hi => .inl hi))
              all_goals have hs6 := hb6.size
              all_goals go_wp2
              all_goals go_ret
              all_goals exact ⟨rfl, hb6.trans (hb7.mono (by omega))⟩
            · have hse := HTORN.out 0 r hcK hr hk1
              have v2 : ¬ torn ≤ 0 := ht0
              obtain ⟨xa, xc, hcx, hrx, hLx⟩ := HV.out 0 (by omega)
              rw [Nat.add_zero] at hcx
              have hrd := HRD.out w5.drew (Below.refl _ _).drew
              have hrzl : r.zs.length = r.n := (rin w5 hb5).1.2.2.2.1
              obtain ⟨Lk, hLk⟩ : ∃ Lk, Lk = foldF [] (ws.take 0) := ⟨_, rfl⟩
              rw [← hLk] at hcx hrx hLx hse
              obtain ⟨N, hN⟩ : ∃ N, N = (cutZ torn (r.zs.length : Int)).toNat := ⟨_, rfl⟩
              rw [← hN] at hse
              have hNr : N ≤ r.n ∧ ((r.n : Int) < torn → N = r.n) ∧ (torn ≤ (r.n : Int) → torn = (N : Int)) := by
                rw [hN, hrzl]; unfold cutZ; repeat' split <;> omega
              rw [hse] at hrd hlen5 hU5
              rw [List.length_map] at hlen5
              obtain ⟨ln, hln⟩ : ∃ ln, ln = Lk.length * 2 := ⟨_, rfl⟩
              rw [List.length_map, ← hln] at hrd
              rw [← hln] at hcx hrx hLx
              have HLX : Hid (∀ g, (Value.slice xa ln xc).ownBlock = some g → L g) := hLx
              have hS0 : w5.drew.cell? ⟨ba, oa, none⟩ = some (.slice xa ln xc) := hcx
              have hrx' : w5.drew.ownsRow B 9 1 (.slice xa ln xc) ln ((strsF Lk).map Value.string) := hrx
              have HLN2 : Hid (ln = Lk.length * 2) := hln
              have HRI : Hid (∀ w', Below B w w' → r.inn w') := rin
              have hlnb : ln ≤ 128 := by omega
              have ix1 : (0 : Int) < (m : Int) + 1 := by omega
              have ix2 : (0 : Int) ≤ (0 : Int) := by omega
              clear hse hLk hln hLx hrx HV HRD HSAME HTORN HN HIN HLN hN hr rin hrzl
              go_wp2_with fail
              go_region_held3 (fun w' => w'.cell? ⟨ba, oa, none⟩ = some (.slice xa ln xc)) (first | exact hS0 | exact hS1)
                (first
                  | (go_at_call 21; refine hrd.mono ?_; rintro e w6 ⟨v6, rfl, hrow6, hD6, hk6⟩; have hS1 := hk6.cell hS0 (fun e => e (.inr hLba)); obtain ⟨a6, c6, rfl, _⟩ := ownsRow_cs hrow6; have hrx6 := rowk_kp hrx' hk6 (fun g hg e => e (.inr (HLX.out g hg))); dsimp only))
              have hb6 : Below B w w6 := hb5.drew.trans (hk6.oldT (by show B ≤ w5.heap.size; omega) (fun i hi => .inl hi))
              have hs6 := hb6.size
              have f1 : w6.cell? ⟨bn, on + 1, none⟩ = some (.string r.name) := hk6.cell (a := w5.drew) e1 (fun e => e (.inr hLbn))
              have f3 : w6.cell? ⟨bn, on + 3, none⟩ = some (.slice r.a r.n r.c) := hk6.cell (a := w5.drew) e3 (fun e => e (.inr hLbn))
              have hbn6 : bn < w6.heap.size := Nat.lt_of_lt_of_le hbn hk6.size
              have tln : ((ln : Int) != (ln : Int)) = false := by simp
              have HRX : Hid (w6.ownsRow B 9 1 (.slice xa ln xc) ln ((strsF Lk).map Value.string)) := hrx6
              obtain ⟨gm, hgm⟩ : ∃ gm : FileL → FileL, gm = fun f => if f.1 = r.name.toList then (f.1, f.2 ++ r.zs.take N) else f := ⟨_, rfl⟩
              rw [← hgm] at hrow6 hU5
              have HU5 : Hid (usedF (Lk.map gm) ≤ 1073741824) := hU5
              have HRY : Hid (w6.ownsRow w5.drew.heap.size 9 1 (.slice a6 ln c6) ln ((strsF (Lk.map gm)).map Value.string)) := hrow6
              have HGM : Hid (gm = fun f => if f.1 = r.name.toList then (f.1, f.2 ++ r.zs.take N) else f) := hgm
              obtain ⟨hNr1, hNr2, hNr3⟩ := hNr
              clear hrx6 hrow6 hD6 hk6 hS0 hS1 hrd hrx' hgm e0 e1 e3 hU5
              by_cases htr : (r.n : Int) < torn
              · have hNe := hNr2 htr
                go_wp2_with fail
                go_loopw [18] (fun iv wr => ∃ q : Nat, iv = .int .i64 ((q * 2 : Nat) : Int) ∧ q ≤ Lk.length ∧ Below w6.heap.size w6 wr) (fun iv _ => ln - (intOf iv).toNat)
                case atStart => exact ⟨0, rfl, Nat.zero_le _, Below.refl _ _⟩
                case round =>
                  obtain ⟨q, rfl, hq, hbq⟩ := hrel
                  by_cases hlt : q < Lk.length
                  · obtain ⟨f, hf⟩ : ∃ f, Lk[q]? = some f := ⟨_, List.getElem?_eq_getElem hlt⟩
                    obtain ⟨bx, ox, rfl, hbx, x0, x1⟩ := row_strs HRX.out hf
                    obtain ⟨bz, oz, rfl, hbz, y0, y1⟩ := row_strs HRY.out (q := q) (f := gm f) (by rw [List.getElem?_map, hf]; rfl)
                    replace x0 := (hbq.cell (p := ⟨bx, ox + q * 2, none⟩) hbx).trans x0
                    replace x1 := (hbq.cell (p := ⟨bx, ox + (q * 2 + 1), none⟩) hbx).trans x1
                    replace y0 := (hbq.cell (p := ⟨bz, oz + q * 2, none⟩) hbz).trans y0
                    replace y1 := (hbq.cell (p := ⟨bz, oz + (q * 2 + 1), none⟩) hbz).trans y1
                    have g1 := (hbq.cell (p := ⟨bn, on + 1, none⟩) hbn6).trans f1
                    have g3 := (hbq.cell (p := ⟨bn, on + 3, none⟩) hbn6).trans f3
                    have hg1 : (gm f).1 = f.1 := by rw [HGM.out]; simp only; split <;> rfl
                    rw [hg1] at y0
                    obtain ⟨nm, hnm⟩ : ∃ nm : ByteArray, nm = ⟨f.1.toArray⟩ := ⟨_, rfl⟩
                    rw [← hnm] at x0 y0
                    obtain ⟨sx, hsx⟩ : ∃ sx, sx = strOfNums f.2 := ⟨_, rfl⟩
                    rw [← hsx] at x1
                    have hlnq := HLN2.out
                    have i1 : ((q * 2 : Nat) : Int) < (ln : Int) := by omega
                    have i2 : ((q * 2 : Nat) : Int) + 1 < (ln : Int) := by omega
                    have i3 : (0 : Int) ≤ ((q * 2 : Nat) : Int) := by omega
                    clear hlnq f1 f3 hbx hbz
                    by_cases hn : nm = r.name
                    · have hgf : (gm f).2 = f.2 ++ r.zs.take N := by
                        rw [HGM.out]; simp only; rw [if_pos ((name_eq _ _).1 (hnm.symm.trans hn))]
                      rw [hgf, strs_more, ← hsx] at y1
                      obtain ⟨sp, hsp⟩ : ∃ sp, sp = strOfNums (r.zs.take N) := ⟨_, rfl⟩
                      rw [← hsp] at y1
                      have hrb : Bs wr r.a r.n (r.zs.take N) := by
                        have h := ((HRI.out w6 hb6).1.2.2.2.below hbq (Nat.le_refl _)).take hNr1
                        rw [hNe] at h ⊢
                        exact h
                      have hstr : ∀ k, (convert 32 9 (.slice r.a r.n r.c)).run Try.prog (wr.drewN k) = .ok (.string sp) (wr.drewN k) := fun k => by rw [hsp]; exact run_str (hrb.drewN k) r.c
                      have hnc : (r.n : Int) ≤ (r.c : Int) := by have := (HRI.out w6 hb6).1.2.1; omega
                      have hn0 : (0 : Int) ≤ (r.n : Int) := by omega
                      have hsz : sx.size + sp.size ≤ 1073741824 := by
                        have hfm : (Lk.map gm)[q]? = some (gm f) := by rw [List.getElem?_map, hf]; rfl
                        have h1 := usedF_take_succ _ q _ hfm
                        have h2 := usedF_take_le (Lk.map gm) (q + 1)
                        have h3 := HU5.out
                        rw [hgf, List.length_append] at h1
                        rw [hsx, hsp, strOfNums_size, strOfNums_size]
                        omega
                      have hsI : (sx.size : Int) + (sp.size : Int) ≤ 9223372036854775807 := by omega
                      have hsJ : ¬ 9223372036854775807 < (sx.size : Int) + (sp.size : Int) := by omega
                      subst hn
                      clear hnm hsx hsp hgf hg1 hf hrb
                      go_wp2
                      go_quiet (fail)
                      go_wp2
                      go_quiet (fail)
                      go_wp2
                      go_roundw
                      case rel => exact ⟨q + 1, by first | go_num | (congr 1; omega), hlt, by first | exact below_drewN (below_drewN hbq _) _ | exact below_drewN hbq _⟩
                      case measure => simp [intOf]; omega
                    · have hgf : (gm f).2 = f.2 := by
                        rw [HGM.out]; simp only; rw [if_neg (fun h => hn (hnm.trans ((name_eq _ _).2 h)))]
                      rw [hgf, ← hsx] at y1
                      have hnb : (nm.toList == r.name.toList) = false := by
                        rw [hnm, arr_list]
                        simpa using fun h => hn (hnm.trans ((name_eq _ _).2 h))
                      clear hnm hsx hgf hg1 hf
                      go_wp2
                      go_quiet (fail)
                      go_wp2
                      go_quiet (fail)
                      go_wp2
                      go_roundw
                      case rel => exact ⟨q + 1, by first | go_num | (congr 1; omega), hlt, by first | exact below_drewN (below_drewN hbq _) _ | exact below_drewN hbq _⟩
                      case measure => simp [intOf]; omega
                  · have hlnq := HLN2.out
                    have i1 : ¬ ((q * 2 : Nat) : Int) < (ln : Int) := by omega
                    clear hlnq
                    go_wp2
                    go_ret
                    exact ⟨rfl, hb6.trans (hbq.mono (by omega))⟩
              · have hNe := hNr3 (by omega)
                subst hNe
                go_wp2_with fail
                go_loopw [18] (fun iv wr => ∃ q : Nat, iv = .int .i64 ((q * 2 : Nat) : Int) ∧ q ≤ Lk.length ∧ Below w6.heap.size w6 wr) (fun iv _ => ln - (intOf iv).toNat)
                case atStart => exact ⟨0, rfl, Nat.zero_le _, Below.refl _ _⟩
                case round =>
                  obtain ⟨q, rfl, hq, hbq⟩ := hrel
                  by_cases hlt : q < Lk.length
                  · obtain ⟨f, hf⟩ : ∃ f, Lk[q]? = some f := ⟨_, List.getElem?_eq_getElem hlt⟩
                    obtain ⟨bx, ox, rfl, hbx, x0, x1⟩ := row_strs HRX.out hf
                    obtain ⟨bz, oz, rfl, hbz, y0, y1⟩ := row_strs HRY.out (q := q) (f := gm f) (by rw [List.getElem?_map, hf]; rfl)
                    replace x0 := (hbq.cell (p := ⟨bx, ox + q * 2, none⟩) hbx).trans x0
                    replace x1 := (hbq.cell (p := ⟨bx, ox + (q * 2 + 1), none⟩) hbx).trans x1
                    replace y0 := (hbq.cell (p := ⟨bz, oz + q * 2, none⟩) hbz).trans y0
                    replace y1 := (hbq.cell (p := ⟨bz, oz + (q * 2 + 1), none⟩) hbz).trans y1
                    have g1 := (hbq.cell (p := ⟨bn, on + 1, none⟩) hbn6).trans f1
                    have g3 := (hbq.cell (p := ⟨bn, on + 3, none⟩) hbn6).trans f3
                    have hg1 : (gm f).1 = f.1 := by rw [HGM.out]; simp only; split <;> rfl
                    rw [hg1] at y0
                    obtain ⟨nm, hnm⟩ : ∃ nm : ByteArray, nm = ⟨f.1.toArray⟩ := ⟨_, rfl⟩
                    rw [← hnm] at x0 y0
                    obtain ⟨sx, hsx⟩ : ∃ sx, sx = strOfNums f.2 := ⟨_, rfl⟩
                    rw [← hsx] at x1
                    have hlnq := HLN2.out
                    have i1 : ((q * 2 : Nat) : Int) < (ln : Int) := by omega
                    have i2 : ((q * 2 : Nat) : Int) + 1 < (ln : Int) := by omega
                    have i3 : (0 : Int) ≤ ((q * 2 : Nat) : Int) := by omega
                    clear hlnq f1 f3 hbx hbz
                    by_cases hn : nm = r.name
                    · have hgf : (gm f).2 = f.2 ++ r.zs.take N := by
                        rw [HGM.out]; simp only; rw [if_pos ((name_eq _ _).1 (hnm.symm.trans hn))]
                      rw [hgf, strs_more, ← hsx] at y1
                      obtain ⟨sp, hsp⟩ : ∃ sp, sp = strOfNums (r.zs.take N) := ⟨_, rfl⟩
                      rw [← hsp] at y1
                      have hrb : Bs wr r.a N (r.zs.take N) := by
                        have h := ((HRI.out w6 hb6).1.2.2.2.below hbq (Nat.le_refl _)).take hNr1
                        skip
                        exact h
                      have hstr : ∀ k, (convert 32 9 (.slice r.a N r.c)).run Try.prog (wr.drewN k) = .ok (.string sp) (wr.drewN k) := fun k => by rw [hsp]; exact run_str (hrb.drewN k) r.c
                      have hnc : (N : Int) ≤ (r.c : Int) := by have := (HRI.out w6 hb6).1.2.1; omega
                      have hn0 : (0 : Int) ≤ (N : Int) := by omega
                      have hsz : sx.size + sp.size ≤ 1073741824 := by
                        have hfm : (Lk.map gm)[q]? = some (gm f) := by rw [List.getElem?_map, hf]; rfl
                        have h1 := usedF_take_succ _ q _ hfm
                        have h2 := usedF_take_le (Lk.map gm) (q + 1)
                        have h3 := HU5.out
                        rw [hgf, List.length_append] at h1
                        rw [hsx, hsp, strOfNums_size, strOfNums_size]
                        omega
                      have hsI : (sx.size : Int) + (sp.size : Int) ≤ 9223372036854775807 := by omega
                      have hsJ : ¬ 9223372036854775807 < (sx.size : Int) + (sp.size : Int) := by omega
                      subst hn
                      clear hnm hsx hsp hgf hg1 hf hrb
                      go_wp2
                      go_quiet (fail)
                      go_wp2
                      go_quiet (fail)
                      go_wp2
                      go_roundw
                      case rel => exact ⟨q + 1, by first | go_num | (congr 1; omega), hlt, by first | exact below_drewN (below_drewN hbq _) _ | exact below_drewN hbq _⟩
                      case measure => simp [intOf]; omega
                    · have hgf : (gm f).2 = f.2 := by
                        rw [HGM.out]; simp only; rw [if_neg (fun h => hn (hnm.trans ((name_eq _ _).2 h)))]
                      rw [hgf, ← hsx] at y1
                      have hnb : (nm.toList == r.name.toList) = false := by
                        rw [hnm, arr_list]
                        simpa using fun h => hn (hnm.trans ((name_eq _ _).2 h))
                      clear hnm hsx hgf hg1 hf
                      go_wp2
                      go_quiet (fail)
                      go_wp2
                      go_quiet (fail)
                      go_wp2
                      go_roundw
                      case rel => exact ⟨q + 1, by first | go_num | (congr 1; omega), hlt, by first | exact below_drewN (below_drewN hbq _) _ | exact below_drewN hbq _⟩
                      case measure => simp [intOf]; omega
                  · have hlnq := HLN2.out
                    have i1 : ¬ ((q * 2 : Nat) : Int) < (ln : Int) := by omega
                    clear hlnq
                    go_wp2
                    go_ret
                    exact ⟨rfl, hb6.trans (hbq.mono (by omega))⟩
          · have v1 : (r.kind != 1) = true := by simp [hk1]
            have hse := HSAME.out 0 hcK (.inr ⟨r, hr, ⟨rk1, rk2⟩, .inl hk1⟩)
            obtain ⟨xa, xc, hcx, hrx, hLx⟩ := HV.out 0 (by omega)
            rw [Nat.add_zero] at hcx
            rw [← hse] at hcx hrx hLx
            have hrd := HRD.out w5.drew (Below.refl _ _).drew
            obtain ⟨Lk, hLk⟩ : ∃ Lk, Lk = seenF s5 := ⟨_, rfl⟩
            rw [← hLk] at hcx hrx hLx hrd hlen5
            obtain ⟨ln, hln⟩ : ∃ ln, ln = Lk.length * 2 := ⟨_, rfl⟩
            rw [← hln] at hcx hrx hLx hrd
            have HLX : Hid (∀ g, (Value.slice xa ln xc).ownBlock = some g → L g) := hLx
            have hS0 : w5.drew.cell? ⟨ba, oa, none⟩ = some (.slice xa ln xc) := hcx
            have hrx' : w5.drew.ownsRow B 9 1 (.slice xa ln xc) ln ((strsF Lk).map Value.string) := hrx
            have hlnb : ln ≤ 128 := by omega
            have ix1 : (0 : Int) < (m : Int) + 1 := by omega
            have ix2 : (0 : Int) ≤ (0 : Int) := by omega
            clear hse hLk hln hLx hrx HV HRD HSAME HTORN HN HIN HLN
            go_wp2_with fail
            go_region_held3 (fun w' => w'.cell? ⟨ba, oa, none⟩ = some (.slice xa ln xc)) (first | exact hS0 | exact hS1 | exact hS2)
              (first
                | (go_at_call 21; refine hrd.mono ?_; rintro e w6 ⟨v6, rfl, hrow6, hD6, hk6⟩; have hS1 := hk6.cell hS0 (fun e => e (.inr hLba)); obtain ⟨a6, c6, rfl, _⟩ := ownsRow_cs hrow6; have hrx6 := rowk_kp hrx' hk6 (fun g hg e => e (.inr (HLX.out g hg))); dsimp only)
                | (go_at_call 23; refine (same_rows hrow6 hrx6 (by omega)).mono ?_; rintro e w7 ⟨rfl, hb7⟩; have hS2 := (hb7.cell (p := ⟨ba, oa, none⟩) (Nat.lt_of_lt_of_le hba hk6.size)).trans hS1; dsimp only))
            all_goals have hb6 : Below B w w6 := hb5.drew.trans (hk6.oldT (by show B ≤ w5.heap.size; omega) (fun i hi => .inl hi))
            all_goals have hs6 := hb6.size
            all_goals go_wp2
            all_goals go_ret
            all_goals exact ⟨rfl, hb6.trans (hb7.mono (by omega))⟩
      rcases Int.lt_or_le (m : Int) keep with hkm | hkm
      · have hcK : cutZ keep (m : Int) = (m : Int) := by unfold cutZ; rw [if_neg (by omega), if_pos hkm]
        have hse := HSAME.out m hcK (.inl rfl)
        have t1 : ¬ keep < 0 := by omega
        have t2 : (m : Int) < keep := hkm
        obtain ⟨xa, xc, hcx, hrx, hLx⟩ := HV.out m (by omega)
        skip
        rw [← hse] at hcx hrx hLx
        have hrd := HRD.out w5.drew (Below.refl _ _).drew
        obtain ⟨Lk, hLk⟩ : ∃ Lk, Lk = seenF s5 := ⟨_, rfl⟩
        rw [← hLk] at hcx hrx hLx hrd hlen5
        obtain ⟨ln, hln⟩ : ∃ ln, ln = Lk.length * 2 := ⟨_, rfl⟩
        rw [← hln] at hcx hrx hLx hrd
        have HLX : Hid (∀ g, (Value.slice xa ln xc).ownBlock = some g → L g) := hLx
        have hS0 : w5.drew.cell? ⟨ba, oa + m, none⟩ = some (.slice xa ln xc) := hcx
        have hrx' : w5.drew.ownsRow B 9 1 (.slice xa ln xc) ln ((strsF Lk).map Value.string) := hrx
        have hlnb : ln ≤ 128 := by omega
        have ix1 : (m : Int) < (m : Int) + 1 := by omega
        have ix2 : (0 : Int) ≤ (m : Int) := by omega
        clear hse hLk hln hLx hrx HV HRD HSAME HTORN HN HIN HLN
        go_wp2_with fail
        go_region_held3 (fun w' => w'.cell? ⟨ba, oa + m, none⟩ = some (.slice xa ln xc)) (first | exact hS0 | exact hS1 | exact hS2)
          (first
            | (go_at_call 21; refine hrd.mono ?_; rintro e w6 ⟨v6, rfl, hrow6, hD6, hk6⟩; have hS1 := hk6.cell hS0 (fun e => e (.inr hLba)); obtain ⟨a6, c6, rfl, _⟩ := ownsRow_cs hrow6; have hrx6 := rowk_kp hrx' hk6 (fun g hg e => e (.inr (HLX.out g hg))); dsimp only)
            | (go_at_call 23; refine (same_rows hrow6 hrx6 (by omega)).mono ?_; rintro e w7 ⟨rfl, hb7⟩; have hS2 := (hb7.cell (p := ⟨ba, oa + m, none⟩) (Nat.lt_of_lt_of_le hba hk6.size)).trans hS1; dsimp only))
        all_goals have hb6 : Below B w w6 := hb5.drew.trans (hk6.oldT (by show B ≤ w5.heap.size; omega) (fun i hi => .inl hi))
        all_goals have hs6 := hb6.size
        all_goals go_wp2
        all_goals go_ret
        all_goals exact ⟨rfl, hb6.trans (hb7.mono (by omega))⟩
      · obtain ⟨K, rfl⟩ := Int.eq_ofNat_of_zero_le hk0
        have hcK : cutZ (K : Int) (m : Int) = (K : Int) := by unfold cutZ; rw [if_neg (by omega), if_neg (by omega)]
        have t1 : ¬ (K : Int) < 0 := by omega
        have t2 : ¬ (m : Int) < (K : Int) := by omega
        by_cases hKm : K = m
        · subst hKm
          have hse := HSAME.out K hcK (.inl rfl)
          obtain ⟨xa, xc, hcx, hrx, hLx⟩ := HV.out K (by omega)
          skip
          rw [← hse] at hcx hrx hLx
          have hrd := HRD.out w5.drew (Below.refl _ _).drew
          obtain ⟨Lk, hLk⟩ : ∃ Lk, Lk = seenF s5 := ⟨_, rfl⟩
          rw [← hLk] at hcx hrx hLx hrd hlen5
          obtain ⟨ln, hln⟩ : ∃ ln, ln = Lk.length * 2 := ⟨_, rfl⟩
          rw [← hln] at hcx hrx hLx hrd
          have HLX : Hid (∀ g, (Value.slice xa ln xc).ownBlock = some g → L g) := hLx
          have hS0 : w5.drew.cell? ⟨ba, oa + K, none⟩ = some (.slice xa ln xc) := hcx
          have hrx' : w5.drew.ownsRow B 9 1 (.slice xa ln xc) ln ((strsF Lk).map Value.string) := hrx
          have hlnb : ln ≤ 128 := by omega
          have ix1 : (K : Int) < (K : Int) + 1 := by omega
          have ix2 : (0 : Int) ≤ (K : Int) := by omega
          clear hse hLk hln hLx hrx HV HRD HSAME HTORN HN HIN HLN
          go_wp2_with fail
          go_region_held3 (fun w' => w'.cell? ⟨ba, oa + K, none⟩ = some (.slice xa ln xc)) (first | exact hS0 | exact hS1 | exact hS2)
            (first
              | (go_at_call 21; refine hrd.mono ?_; rintro e w6 ⟨v6, rfl, hrow6, hD6, hk6⟩; have hS1 := hk6.cell hS0 (fun e => e (.inr hLba)); obtain ⟨a6, c6, rfl, _⟩ := ownsRow_cs hrow6; have hrx6 := rowk_kp hrx' hk6 (fun g hg e => e (.inr (HLX.out g hg))); dsimp only)
              | (go_at_call 23; refine (same_rows hrow6 hrx6 (by omega)).mono ?_; rintro e w7 ⟨rfl, hb7⟩; have hS2 := (hb7.cell (p := ⟨ba, oa + K, none⟩) (Nat.lt_of_lt_of_le hba hk6.size)).trans hS1; dsimp only))
          all_goals have hb6 : Below B w w6 := hb5.drew.trans (hk6.oldT (by show B ≤ w5.heap.size; omega) (fun i hi => .inl hi))
          all_goals have hs6 := hb6.size
          all_goals go_wp2
          all_goals go_ret
          all_goals exact ⟨rfl, hb6.trans (hb7.mono (by omega))⟩
        · have hKm' : K < m := by omega
          obtain ⟨r, hr⟩ : ∃ r, nx[K]? = some r := ⟨_, List.getElem?_eq_getElem (by rw [← HML.out]; omega)⟩
          obtain ⟨bn, on, rfl, hbn, hcn⟩ := HN.out K r hr
          obtain ⟨⟨rk1, rk2⟩, rn2, rin⟩ := HIN.out r (List.mem_of_getElem? hr)
          have e0 : w5.cell? ⟨bn, on + K * 6, none⟩ = some (.int .i64 r.kind) := by have h := hcn 0 (by omega); try rw [Nat.add_zero] at h; exact h
          have e1 : w5.cell? ⟨bn, on + K * 6 + 1, none⟩ = some (.string r.name) := by have h := hcn 1 (by omega); try rw [Nat.add_zero] at h; exact h
          have e3 : w5.cell? ⟨bn, on + K * 6 + 3, none⟩ = some (.slice r.a r.n r.c) := by have h := hcn 3 (by omega); try rw [Nat.add_zero] at h; exact h
          have hLbn : L bn := HLN.out bn rfl
          have iy1 : (K : Int) < (m : Int) := by omega
          have iy2 : ((K : Int) == (m : Int)) = false := by simp; omega
          have iy3 : ¬ (K : Int) = (m : Int) := by omega
          clear hcn
          by_cases hk1 : r.kind = 1
          · have v1 : (r.kind != 1) = false := by simp [hk1]
            by_cases ht0 : torn ≤ 0
            · have hse := HSAME.out K hcK (.inr ⟨r, hr, ⟨rk1, rk2⟩, .inr ht0⟩)
              obtain ⟨xa, xc, hcx, hrx, hLx⟩ := HV.out K (by omega)
              skip
              rw [← hse] at hcx hrx hLx
              have hrd := HRD.out w5.drew (Below.refl _ _).drew
              obtain ⟨Lk, hLk⟩ : ∃ Lk, Lk = seenF s5 := ⟨_, rfl⟩
              rw [← hLk] at hcx hrx hLx hrd hlen5
              obtain ⟨ln, hln⟩ : ∃ ln, ln = Lk.length * 2 := ⟨_, rfl⟩
              rw [← hln] at hcx hrx hLx hrd
              have HLX : Hid (∀ g, (Value.slice xa ln xc).ownBlock = some g → L g) := hLx
              have hS0 : w5.drew.cell? ⟨ba, oa + K, none⟩ = some (.slice xa ln xc) := hcx
              have hrx' : w5.drew.ownsRow B 9 1 (.slice xa ln xc) ln ((strsF Lk).map Value.string) := hrx
              have hlnb : ln ≤ 128 := by omega
              have ix1 : (K : Int) < (m : Int) + 1 := by omega
              have ix2 : (0 : Int) ≤ (K : Int) := by omega
              clear hse hLk hln hLx hrx HV HRD HSAME HTORN HN HIN HLN
              go_wp2_with fail
              go_region_held3 (fun w' => w'.cell? ⟨ba, oa + K, none⟩ = some (.slice xa ln xc)) (first | exact hS0 | exact hS1 | exact hS2)
                (first
                  | (go_at_call 21; refine hrd.mono ?_; rintro e w6 ⟨v6, rfl, hrow6, hD6, hk6⟩; have hS1 := hk6.cell hS0 (fun e => e (.inr hLba)); obtain ⟨a6, c6, rfl, _⟩ := ownsRow_cs hrow6; have hrx6 := rowk_kp hrx' hk6 (fun g hg e => e (.inr (HLX.out g hg))); dsimp only)
                  | (go_at_call 23; refine (same_rows hrow6 hrx6 (by omega)).mono ?_; rintro e w7 ⟨rfl, hb7⟩; have hS2 := (hb7.cell (p := ⟨ba, oa + K, none⟩) (Nat.lt_of_lt_of_le hba hk6.size)).trans hS1; dsimp only))
              all_goals have hb6 : Below B w w6 := hb5.drew.trans (hk6.oldT (by show B ≤ w5.heap.size; omega) (fun i hi => .inl hi))
              all_goals have hs6 := hb6.size
              all_goals go_wp2
              all_goals go_ret
              all_goals exact ⟨rfl, hb6.trans (hb7.mono (by omega))⟩
            · have hse := HTORN.out K r hcK hr hk1
              have v2 : ¬ torn ≤ 0 := ht0
              obtain ⟨xa, xc, hcx, hrx, hLx⟩ := HV.out K (by omega)
              skip
              have hrd := HRD.out w5.drew (Below.refl _ _).drew
              have hrzl : r.zs.length = r.n := (rin w5 hb5).1.2.2.2.1
              obtain ⟨Lk, hLk⟩ : ∃ Lk, Lk = foldF [] (ws.take K) := ⟨_, rfl⟩
              rw [← hLk] at hcx hrx hLx hse
              obtain ⟨N, hN⟩ : ∃ N, N = (cutZ torn (r.zs.length : Int)).toNat := ⟨_, rfl⟩
              rw [← hN] at hse
              have hNr : N ≤ r.n ∧ ((r.n : Int) < torn → N = r.n) ∧ (torn ≤ (r.n : Int) → torn = (N : Int)) := by
                rw [hN, hrzl]; unfold cutZ; repeat' split <;> omega
              rw [hse] at hrd hlen5 hU5
              rw [List.length_map] at hlen5
              obtain ⟨ln, hln⟩ : ∃ ln, ln = Lk.length * 2 := ⟨_, rfl⟩
              rw [List.length_map, ← hln] at hrd
              rw [← hln] at hcx hrx hLx
              have HLX : Hid (∀ g, (Value.slice xa ln xc).ownBlock = some g → L g) := hLx
              have hS0 : w5.drew.cell? ⟨ba, oa + K, none⟩ = some (.slice xa ln xc) := hcx
              have hrx' : w5.drew.ownsRow B 9 1 (.slice xa ln xc) ln ((strsF Lk).map Value.string) := hrx
              have HLN2 : Hid (ln = Lk.length * 2) := hln
              have HRI : Hid (∀ w', Below B w w' → r.inn w') := rin
              have hlnb : ln ≤ 128 := by omega
              have ix1 : (K : Int) < (m : Int) + 1 := by omega
              have ix2 : (0 : Int) ≤ (K : Int) := by omega
              clear hse hLk hln hLx hrx HV HRD HSAME HTORN HN HIN HLN hN hr rin hrzl
              go_wp2_with fail
              go_region_held3 (fun w' => w'.cell? ⟨ba, oa + K, none⟩ = some (.slice xa ln xc)) (first | exact hS0 | exact hS1)
                (first
                  | (go_at_call 21; refine hrd.mono ?_; rintro e w6 ⟨v6, rfl, hrow6, hD6, hk6⟩; have hS1 := hk6.cell hS0 (fun e => e (.inr hLba)); obtain ⟨a6, c6, rfl, _⟩ := ownsRow_cs hrow6; have hrx6 := rowk_kp hrx' hk6 (fun g hg e => e (.inr (HLX.out g hg))); dsimp only))
              have hb6 : Below B w w6 := hb5.drew.trans (hk6.oldT (by show B ≤ w5.heap.size; omega) (fun i hi => .inl hi))
              have hs6 := hb6.size
              have f1 : w6.cell? ⟨bn, on + K * 6 + 1, none⟩ = some (.string r.name) := hk6.cell (a := w5.drew) e1 (fun e => e (.inr hLbn))
              have f3 : w6.cell? ⟨bn, on + K * 6 + 3, none⟩ = some (.slice r.a r.n r.c) := hk6.cell (a := w5.drew) e3 (fun e => e (.inr hLbn))
              have hbn6 : bn < w6.heap.size := Nat.lt_of_lt_of_le hbn hk6.size
              have tln : ((ln : Int) != (ln : Int)) = false := by simp
              have HRX : Hid (w6.ownsRow B 9 1 (.slice xa ln xc) ln ((strsF Lk).map Value.string)) := hrx6
              obtain ⟨gm, hgm⟩ : ∃ gm : FileL → FileL, gm = fun f => if f.1 = r.name.toList then (f.1, f.2 ++ r.zs.take N) else f := ⟨_, rfl⟩
              rw [← hgm] at hrow6 hU5
              have HU5 : Hid (usedF (Lk.map gm) ≤ 1073741824) := hU5
              have HRY : Hid (w6.ownsRow w5.drew.heap.size 9 1 (.slice a6 ln c6) ln ((strsF (Lk.map gm)).map Value.string)) := hrow6
              have HGM : Hid (gm = fun f => if f.1 = r.name.toList then (f.1, f.2 ++ r.zs.take N) else f) := hgm
              obtain ⟨hNr1, hNr2, hNr3⟩ := hNr
              clear hrx6 hrow6 hD6 hk6 hS0 hS1 hrd hrx' hgm e0 e1 e3 hU5
              by_cases htr : (r.n : Int) < torn
              · have hNe := hNr2 htr
                go_wp2_with fail
                go_loopw [18] (fun iv wr => ∃ q : Nat, iv = .int .i64 ((q * 2 : Nat) : Int) ∧ q ≤ Lk.length ∧ Below w6.heap.size w6 wr) (fun iv _ => ln - (intOf iv).toNat)
                case atStart => exact ⟨0, rfl, Nat.zero_le _, Below.refl _ _⟩
                case round =>
                  obtain ⟨q, rfl, hq, hbq⟩ := hrel
                  by_cases hlt : q < Lk.length
                  · obtain ⟨f, hf⟩ : ∃ f, Lk[q]? = some f := ⟨_, List.getElem?_eq_getElem hlt⟩
                    obtain ⟨bx, ox, rfl, hbx, x0, x1⟩ := row_strs HRX.out hf
                    obtain ⟨bz, oz, rfl, hbz, y0, y1⟩ := row_strs HRY.out (q := q) (f := gm f) (by rw [List.getElem?_map, hf]; rfl)
                    replace x0 := (hbq.cell (p := ⟨bx, ox + q * 2, none⟩) hbx).trans x0
                    replace x1 := (hbq.cell (p := ⟨bx, ox + (q * 2 + 1), none⟩) hbx).trans x1
                    replace y0 := (hbq.cell (p := ⟨bz, oz + q * 2, none⟩) hbz).trans y0
                    replace y1 := (hbq.cell (p := ⟨bz, oz + (q * 2 + 1), none⟩) hbz).trans y1
                    have g1 := (hbq.cell (p := ⟨bn, on + K * 6 + 1, none⟩) hbn6).trans f1
                    have g3 := (hbq.cell (p := ⟨bn, on + K * 6 + 3, none⟩) hbn6).trans f3
                    have hg1 : (gm f).1 = f.1 := by rw [HGM.out]; simp only; split <;> rfl
                    rw [hg1] at y0
                    obtain ⟨nm, hnm⟩ : ∃ nm : ByteArray, nm = ⟨f.1.toArray⟩ := ⟨_, rfl⟩
                    rw [← hnm] at x0 y0
                    obtain ⟨sx, hsx⟩ : ∃ sx, sx = strOfNums f.2 := ⟨_, rfl⟩
                    rw [← hsx] at x1
                    have hlnq := HLN2.out
                    have i1 : ((q * 2 : Nat) : Int) < (ln : Int) := by omega
                    have i2 : ((q * 2 : Nat) : Int) + 1 < (ln : Int) := by omega
                    have i3 : (0 : Int) ≤ ((q * 2 : Nat) : Int) := by omega
                    clear hlnq f1 f3 hbx hbz
                    by_cases hn : nm = r.name
                    · have hgf : (gm f).2 = f.2 ++ r.zs.take N := by
                        rw [HGM.out]; simp only; rw [if_pos ((name_eq _ _).1 (hnm.symm.trans hn))]
                      rw [hgf, strs_more, ← hsx] at y1
                      obtain ⟨sp, hsp⟩ : ∃ sp, sp = strOfNums (r.zs.take N) := ⟨_, rfl⟩
                      rw [← hsp] at y1
                      have hrb : Bs wr r.a r.n (r.zs.take N) := by
                        have h := ((HRI.out w6 hb6).1.2.2.2.below hbq (Nat.le_refl _)).take hNr1
                        rw [hNe] at h ⊢
                        exact h
                      have hstr : ∀ k, (convert 32 9 (.slice r.a r.n r.c)).run Try.prog (wr.drewN k) = .ok (.string sp) (wr.drewN k) := fun k => by rw [hsp]; exact run_str (hrb.drewN k) r.c
                      have hnc : (r.n : Int) ≤ (r.c : Int) := by have := (HRI.out w6 hb6).1.2.1; omega
                      have hn0 : (0 : Int) ≤ (r.n : Int) := by omega
                      have hsz : sx.size + sp.size ≤ 1073741824 := by
                        have hfm : (Lk.map gm)[q]? = some (gm f) := by rw [List.getElem?_map, hf]; rfl
                        have h1 := usedF_take_succ _ q _ hfm
                        have h2 := usedF_take_le (Lk.map gm) (q + 1)
                        have h3 := HU5.out
                        rw [hgf, List.length_append] at h1
                        rw [hsx, hsp, strOfNums_size, strOfNums_size]
                        omega
                      have hsI : (sx.size : Int) + (sp.size : Int) ≤ 9223372036854775807 := by omega
                      have hsJ : ¬ 9223372036854775807 < (sx.size : Int) + (sp.size : Int) := by omega
                      subst hn
                      clear hnm hsx hsp hgf hg1 hf hrb
                      go_wp2
                      go_quiet (fail)
                      go_wp2
                      go_quiet (fail)
                      go_wp2
                      go_roundw
                      case rel => exact ⟨q + 1, by first | go_num | (congr 1; omega), hlt, by first | exact below_drewN (below_drewN hbq _) _ | exact below_drewN hbq _⟩
                      case measure => simp [intOf]; omega
                    · have hgf : (gm f).2 = f.2 := by
                        rw [HGM.out]; simp only; rw [if_neg (fun h => hn (hnm.trans ((name_eq _ _).2 h)))]
                      rw [hgf, ← hsx] at y1
                      have hnb : (nm.toList == r.name.toList) = false := by
                        rw [hnm, arr_list]
                        simpa using fun h => hn (hnm.trans ((name_eq _ _).2 h))
                      clear hnm hsx hgf hg1 hf
                      go_wp2
                      go_quiet (fail)
                      go_wp2
                      go_quiet (fail)
                      go_wp2
                      go_roundw
                      case rel => exact ⟨q + 1, by first | go_num | (congr 1; omega), hlt, by first | exact below_drewN (below_drewN hbq _) _ | exact below_drewN hbq _⟩
                      case measure => simp [intOf]; omega
                  · have hlnq := HLN2.out
                    have i1 : ¬ ((q * 2 : Nat) : Int) < (ln : Int) := by omega
                    clear hlnq
                    go_wp2
                    go_ret
                    exact ⟨rfl, hb6.trans (hbq.mono (by omega))⟩
              · have hNe := hNr3 (by omega)
                subst hNe
                go_wp2_with fail
                go_loopw [18] (fun iv wr => ∃ q : Nat, iv = .int .i64 ((q * 2 : Nat) : Int) ∧ q ≤ Lk.length ∧ Below w6.heap.size w6 wr) (fun iv _ => ln - (intOf iv).toNat)
                case atStart => exact ⟨0, rfl, Nat.zero_le _, Below.refl _ _⟩
                case round =>
                  obtain ⟨q, rfl, hq, hbq⟩ := hrel
                  by_cases hlt : q < Lk.length
                  · obtain ⟨f, hf⟩ : ∃ f, Lk[q]? = some f := ⟨_, List.getElem?_eq_getElem hlt⟩
                    obtain ⟨bx, ox, rfl, hbx, x0, x1⟩ := row_strs HRX.out hf
                    obtain ⟨bz, oz, rfl, hbz, y0, y1⟩ := row_strs HRY.out (q := q) (f := gm f) (by rw [List.getElem?_map, hf]; rfl)
                    replace x0 := (hbq.cell (p := ⟨bx, ox + q * 2, none⟩) hbx).trans x0
                    replace x1 := (hbq.cell (p := ⟨bx, ox + (q * 2 + 1), none⟩) hbx).trans x1
                    replace y0 := (hbq.cell (p := ⟨bz, oz + q * 2, none⟩) hbz).trans y0
                    replace y1 := (hbq.cell (p := ⟨bz, oz + (q * 2 + 1), none⟩) hbz).trans y1
                    have g1 := (hbq.cell (p := ⟨bn, on + K * 6 + 1, none⟩) hbn6).trans f1
                    have g3 := (hbq.cell (p := ⟨bn, on + K * 6 + 3, none⟩) hbn6).trans f3
                    have hg1 : (gm f).1 = f.1 := by rw [HGM.out]; simp only; split <;> rfl
                    rw [hg1] at y0
                    obtain ⟨nm, hnm⟩ : ∃ nm : ByteArray, nm = ⟨f.1.toArray⟩ := ⟨_, rfl⟩
                    rw [← hnm] at x0 y0
                    obtain ⟨sx, hsx⟩ : ∃ sx, sx = strOfNums f.2 := ⟨_, rfl⟩
                    rw [← hsx] at x1
                    have hlnq := HLN2.out
                    have i1 : ((q * 2 : Nat) : Int) < (ln : Int) := by omega
                    have i2 : ((q * 2 : Nat) : Int) + 1 < (ln : Int) := by omega
                    have i3 : (0 : Int) ≤ ((q * 2 : Nat) : Int) := by omega
                    clear hlnq f1 f3 hbx hbz
                    by_cases hn : nm = r.name
                    · have hgf : (gm f).2 = f.2 ++ r.zs.take N := by
                        rw [HGM.out]; simp only; rw [if_pos ((name_eq _ _).1 (hnm.symm.trans hn))]
                      rw [hgf, strs_more, ← hsx] at y1
                      obtain ⟨sp, hsp⟩ : ∃ sp, sp = strOfNums (r.zs.take N) := ⟨_, rfl⟩
                      rw [← hsp] at y1
                      have hrb : Bs wr r.a N (r.zs.take N) := by
                        have h := ((HRI.out w6 hb6).1.2.2.2.below hbq (Nat.le_refl _)).take hNr1
                        skip
                        exact h
                      have hstr : ∀ k, (convert 32 9 (.slice r.a N r.c)).run Try.prog (wr.drewN k) = .ok (.string sp) (wr.drewN k) := fun k => by rw [hsp]; exact run_str (hrb.drewN k) r.c
                      have hnc : (N : Int) ≤ (r.c : Int) := by have := (HRI.out w6 hb6).1.2.1; omega
                      have hn0 : (0 : Int) ≤ (N : Int) := by omega
                      have hsz : sx.size + sp.size ≤ 1073741824 := by
                        have hfm : (Lk.map gm)[q]? = some (gm f) := by rw [List.getElem?_map, hf]; rfl
                        have h1 := usedF_take_succ _ q _ hfm
                        have h2 := usedF_take_le (Lk.map gm) (q + 1)
                        have h3 := HU5.out
                        rw [hgf, List.length_append] at h1
                        rw [hsx, hsp, strOfNums_size, strOfNums_size]
                        omega
                      have hsI : (sx.size : Int) + (sp.size : Int) ≤ 9223372036854775807 := by omega
                      have hsJ : ¬ 9223372036854775807 < (sx.size : Int) + (sp.size : Int) := by omega
                      subst hn
                      clear hnm hsx hsp hgf hg1 hf hrb
                      go_wp2
                      go_quiet (fail)
                      go_wp2
                      go_quiet (fail)
                      go_wp2
                      go_roundw
                      case rel => exact ⟨q + 1, by first | go_num | (congr 1; omega), hlt, by first | exact below_drewN (below_drewN hbq _) _ | exact below_drewN hbq _⟩
                      case measure => simp [intOf]; omega
                    · have hgf : (gm f).2 = f.2 := by
                        rw [HGM.out]; simp only; rw [if_neg (fun h => hn (hnm.trans ((name_eq _ _).2 h)))]
                      rw [hgf, ← hsx] at y1
                      have hnb : (nm.toList == r.name.toList) = false := by
                        rw [hnm, arr_list]
                        simpa using fun h => hn (hnm.trans ((name_eq _ _).2 h))
                      clear hnm hsx hgf hg1 hf
                      go_wp2
                      go_quiet (fail)
                      go_wp2
                      go_quiet (fail)
                      go_wp2
                      go_roundw
                      case rel => exact ⟨q + 1, by first | go_num | (congr 1; omega), hlt, by first | exact below_drewN (below_drewN hbq _) _ | exact below_drewN hbq _⟩
                      case measure => simp [intOf]; omega
                  · have hlnq := HLN2.out
                    have i1 : ¬ ((q * 2 : Nat) : Int) < (ln : Int) := by omega
                    clear hlnq
                    go_wp2
                    go_ret
                    exact ⟨rfl, hb6.trans (hbq.mono (by omega))⟩
          · have v1 : (r.kind != 1) = true := by simp [hk1]
            have hse := HSAME.out K hcK (.inr ⟨r, hr, ⟨rk1, rk2⟩, .inl hk1⟩)
            obtain ⟨xa, xc, hcx, hrx, hLx⟩ := HV.out K (by omega)
            skip
            rw [← hse] at hcx hrx hLx
            have hrd := HRD.out w5.drew (Below.refl _ _).drew
            obtain ⟨Lk, hLk⟩ : ∃ Lk, Lk = seenF s5 := ⟨_, rfl⟩
            rw [← hLk] at hcx hrx hLx hrd hlen5
            obtain ⟨ln, hln⟩ : ∃ ln, ln = Lk.length * 2 := ⟨_, rfl⟩
            rw [← hln] at hcx hrx hLx hrd
            have HLX : Hid (∀ g, (Value.slice xa ln xc).ownBlock = some g → L g) := hLx
            have hS0 : w5.drew.cell? ⟨ba, oa + K, none⟩ = some (.slice xa ln xc) := hcx
            have hrx' : w5.drew.ownsRow B 9 1 (.slice xa ln xc) ln ((strsF Lk).map Value.string) := hrx
            have hlnb : ln ≤ 128 := by omega
            have ix1 : (K : Int) < (m : Int) + 1 := by omega
            have ix2 : (0 : Int) ≤ (K : Int) := by omega
            clear hse hLk hln hLx hrx HV HRD HSAME HTORN HN HIN HLN
            go_wp2_with fail
            go_region_held3 (fun w' => w'.cell? ⟨ba, oa + K, none⟩ = some (.slice xa ln xc)) (first | exact hS0 | exact hS1 | exact hS2)
              (first
                | (go_at_call 21; refine hrd.mono ?_; rintro e w6 ⟨v6, rfl, hrow6, hD6, hk6⟩; have hS1 := hk6.cell hS0 (fun e => e (.inr hLba)); obtain ⟨a6, c6, rfl, _⟩ := ownsRow_cs hrow6; have hrx6 := rowk_kp hrx' hk6 (fun g hg e => e (.inr (HLX.out g hg))); dsimp only)
                | (go_at_call 23; refine (same_rows hrow6 hrx6 (by omega)).mono ?_; rintro e w7 ⟨rfl, hb7⟩; have hS2 := (hb7.cell (p := ⟨ba, oa + K, none⟩) (Nat.lt_of_lt_of_le hba hk6.size)).trans hS1; dsimp only))
            all_goals have hb6 : Below B w w6 := hb5.drew.trans (hk6.oldT (by show B ≤ w5.heap.size; omega) (fun i hi => .inl hi))
            all_goals have hs6 := hb6.size
            all_goals go_wp2
            all_goals go_ret
            all_goals exact ⟨rfl, hb6.trans (hb7.mono (by omega))⟩
end Go.Proofs.Ytngkapddobgfaaa
