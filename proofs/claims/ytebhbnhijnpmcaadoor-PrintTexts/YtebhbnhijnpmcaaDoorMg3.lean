/-
  PrBld PrStr PrFns PrFns2 PrTop PrRef PrRef2 PrItoa PsRd
-/
import Derived.Test.YtebhbnhijnpmcaaDoorMg2
import Derived.Lib.Builder
import Derived.Lib.UnsafeStr
import Derived.Shelf.Strings.Builder1
import Derived.Test.YtebhbnhijnpmcaaDoorPrShelf
import Derived.Lib.LaidTab
import Derived.Sort.Grow
-- @STR@
namespace Go.Proofs.YtebhbnhijnpmcaaDoor
open Go.RowKit
set_option linter.unusedVariables false
set_option linter.unusedSimpArgs false
set_option maxRecDepth 100000

def pk {α : Type} (o : Option By) (a b : α) : α := match o with | none => a | some _ => b
noncomputable def wK (nm : List By) (o : Option By) : AV := ⟨pk o 23 9, pk o (.lst (nm.map sv)) (.row []), 0, pk o 91 0, []⟩
noncomputable def rK (o : Option By) : AV := ⟨pk o 17 13, .lst ((o.getD []).map u8v), 0, pk o 0 5, pk o [] [1]⟩
noncomputable abbrev wst (nm : List By) (o : Option By) : AS := [(450001, wK nm o), (35500100, .val (.lst (nm.map sv))), (35500101, .bp 350001 1 []), (35500102, .sl 300001 0 (o.getD []).length 1), (300001, rK o)]
theorem wst_lend (nm : List By) (o : Option By) : (wst nm o).all lendB = true := by cases o <;> kernel_rfl
theorem wst_leave (nm : List By) (o : Option By) : (wst nm o).all (leaveB (kO (wst nm o))) = true := by cases o <;> kernel_rfl
theorem look_wst {nm : List By} {o : Option By} {k : Nat} {av : AV} (h : look (wst nm o) k = some av) : (k = 450001 ∧ av = wK nm o) ∨ (k = 35500100 ∧ av = .val (.lst (nm.map sv))) ∨ (k = 35500101 ∧ av = .bp 350001 1 []) ∨ (k = 35500102 ∧ av = .sl 300001 0 (o.getD []).length 1) ∨ (k = 300001 ∧ av = rK o) := by
  rw [look_cons] at h
  split at h
  · rename_i e; cases h; exact .inl ⟨e.symm, rfl⟩
  rw [look_cons] at h
  split at h
  · rename_i e; cases h; exact .inr (.inl ⟨e.symm, rfl⟩)
  rw [look_cons] at h
  split at h
  · rename_i e; cases h; exact .inr (.inr (.inl ⟨e.symm, rfl⟩))
  rw [look_cons] at h
  split at h
  · rename_i e; cases h; exact .inr (.inr (.inr (.inl ⟨e.symm, rfl⟩)))
  rw [look_cons] at h
  split at h
  · rename_i e; cases h; exact .inr (.inr (.inr (.inr ⟨e.symm, rfl⟩)))
  · cases h
structure WrA (U : UX) (w : World) (hv : Nat → Value) (nm : List By) (o : Option By) (g : Nat) (nv pv bv : Value) : Prop where
  box : hv 450001 = .pointer (some ⟨g, 0, none⟩)
  blk : w.heap[g]? = some (.cells #[nv, pv, bv] 91 (0, 0)) ∨ (∃ ty xs, w.heap[g]? = some (.cells xs ty (0, 0)) ∧ o ≠ none)
  c0 : o = none → w.heap[g]? = some (.cells #[nv, .pointer none, .slice none 0 0] 91 (0, 0)) ∧ VRep (Us w U (fun _ _ => False)) w (.lst (nm.map sv)) nv
  c1 : w.cell? ⟨g, 1, none⟩ = some pv
  c2 : w.cell? ⟨g, 2, none⟩ = some bv
  p1 : pv = match o with | none => .pointer none | some _ => .pointer (some ⟨g, 1, none⟩)
  row : w.ownsRow 0 5 1 bv (o.getD []).length (Lib.byteCells (o.getD []))
  lent : U.x g ∧ g < w.heap.size
  bl : ∀ b, bv.ownBlock = some b → (U.x b ∧ b < w.heap.size)
theorem wst_mem {U : UX} {w : World} {hv : Nat → Value} {a0 : Act} {nm : List By} {o : Option By} (h : SimG w U 0 (wst nm o) a0 w (fun _ _ => False) hv) : ∃ g nv pv bv, WrA U w hv nm o g nv pv bv := by
  have hmn : ∀ k av g, look (wst nm o) k = some av → oKey k → av.t ≠ 7 → hb (hv k) = some g → 300000 ≤ k → U.x g ∧ g < w.heap.size := fun k av g h1 h2 h3 h4 h5 => by
    obtain ⟨f1, f2, _⟩ := h.blk k av g h1 h2 h3 h4
    refine ⟨?_, f2⟩
    rcases f1 with f1 | f1
    · omega
    · exact f1.2
  cases o with
  | none =>
    have hO : OX (Us w U (fun _ _ => False)) w (.wrt (.lst (nm.map sv)) 91) (hv 450001) := h.obj 450001 _ rfl ⟨by omega, by omega⟩
    obtain ⟨g, nv, e1, e2, e3⟩ := hO.1.2 rfl
    have e2 : w.heap[g]? = some (.cells #[nv, .pointer none, .slice none 0 0] 91 (0, 0)) := e2
    refine ⟨g, nv, .pointer none, .slice none 0 0, e1, .inl e2, fun _ => ⟨e2, e3⟩, by simp only [World.cell?, e2]; rfl, by simp only [World.cell?, e2]; rfl, rfl, World.ownsRow_nil w 0 _ 1, hmn 450001 _ g rfl ⟨by omega, by omega⟩ (by show (23 : Nat) ≠ 7; omega) (by rw [e1]; rfl) (by omega), fun b hb => by cases hb⟩
  | some bs =>
    obtain ⟨g, xs, ty, e1, e2, e3⟩ := h.obj9 (n := 350001) rfl (.inr ⟨by omega, by omega⟩)
    have e1 : hv 450001 = .pointer (some ⟨g, 0, none⟩) := e1
    have hbk : blkOf (hv (100000 + 350001)) = g := e2
    obtain ⟨v1, f1, f2, f3⟩ := h.fld 350001 1 _ rfl (by omega) rfl (.inr ⟨by omega, by omega⟩)
    obtain ⟨v2, q1, q2, q3⟩ := h.fld 350001 2 _ rfl (by omega) rfl (.inr ⟨by omega, by omega⟩)
    obtain ⟨_, f1⟩ : BN 350001 ∧ v1 = .pointer (some ⟨blkOf (hv (100000 + 350001)), 1, none⟩) := f1
    obtain ⟨_, q1⟩ : RN 300001 ∧ SlV (hv 300001) 0 bs.length 1 v2 := q1
    rw [hbk] at f1 f3 q3
    subst f1
    obtain ⟨ys, r1, r2, r3, r4⟩ := h.mrow (n := 300001) (e := 5) (z := 1) (l := bs.map u8v) rfl ⟨by omega, by omega⟩
    have hys := u8_rep.1 r4
    subst hys
    rw [List.length_map] at r1
    have hv2 : v2 = hv 300001 := by
      obtain ⟨ao, m, cap, ao', a1, a2, a3, a4, _⟩ := q1
      obtain ⟨ao2, cap2, b1, b2, b3⟩ := own_addr r1
      rw [b1] at a1 ⊢
      injection a1 with a5 a6 a7
      subst a5; subst a6; subst a7
      rw [a2, a4 rfl]; rfl
    subst hv2
    have hsl : ∃ ao k c, hv 300001 = .slice ao k c := by
      obtain ⟨ao2, cap2, b1, _⟩ := own_addr r1
      exact ⟨ao2, _, cap2, b1⟩
    obtain ⟨ao, k, c, hsl⟩ := hsl
    refine ⟨g, .nilFunc, .pointer (some ⟨g, 1, none⟩), hv 300001, e1, .inr ⟨ty, xs, e3, by simp⟩, (fun e => by cases e), ?_, ?_, rfl, r1, hmn 450001 _ g rfl ⟨by omega, by omega⟩ (by show (9 : Nat) ≠ 7; omega) (by rw [e1]; rfl) (by omega), fun b hb => ?_⟩
    · have := f3 0 (by show 0 < 1; omega)
      simpa [Value.cells] using this
    · rw [hsl] at q3 ⊢
      have := q3 0 (by show 0 < 1; omega)
      simpa [Value.cells] using this
    · refine hmn 300001 _ b rfl ⟨by omega, by omega⟩ (by show (13 : Nat) ≠ 7; omega) ?_ (by omega)
      rw [hsl] at hb ⊢
      cases ao with
      | none => cases hb
      | some ad => 
        rw [← hsl] at hb
        rcases r1.2 with ⟨z1, z2⟩ | ⟨g2, cap2, cur2, z1, _⟩
        · rw [hsl] at z1; cases z1
        · rw [hsl] at z1
          injection z1 with z1 z2 z3
          rw [z1]
          rw [hsl, z1] at hb
          exact hb
theorem cc_used_any (g : Nat) (w : World) (h1 : w.cell? ⟨g, 1, none⟩ = some (.pointer (some ⟨g, 1, none⟩))) :
    Calls Tryd.prog 67 #[.pointer (some ⟨g, 1, none⟩)] w fun e w' => e = .returned (.tuple #[]) ∧ w' = w := by
  go_enter Tryd.func67, Tryd.ntmps67
  go_wp2
  rw [Lib.run_neq_ptr_same w _ (P := Tryd.prog) (te := 89) (by rfl) (by rfl)]
  go_wp2
  go_end0
  exact ⟨rfl, rfl⟩
theorem cc_fresh_any (g : Nat) (nv : Value) (w : World) (hg : w.heap[g]? = some (.cells #[nv, .pointer none, .slice none 0 0] 91 (0, 0))) :
    Calls Tryd.prog 67 #[.pointer (some ⟨g, 1, none⟩)] w fun e w' => e = .returned (.tuple #[]) ∧ w' = w.setCell ⟨g, 1, none⟩ (.pointer (some ⟨g, 1, none⟩)) := by
  have h1 : w.cell? ⟨g, 1, none⟩ = some (.pointer none) := by simp only [World.cell?, hg]; rfl
  have hsh : w.shape? g = some (91, 3) := by simp [World.shape?, hg]
  have hfz : w.frozen? ⟨g, 1, none⟩ = false := by simp [World.frozen?, hg]
  go_enter Tryd.func67, Tryd.ntmps67
  go_wp2
  rw [Lib.run_to_unsafe (P := Tryd.prog) w ⟨g, 1, none⟩ (src := 86) (dst := 148) (t := 89) (by rfl) (by rfl) (by rfl) (by decide) hsh (by show 1 < 3; decide)]
  simp only [Result.andThen]
  rw [Oper.upon_value]
  go_wp2
  rw [run_callFunc_extern Tryd.func76 (by kernel_rfl) (by kernel_rfl) (by kernel_rfl) (e := Extern.AbiNoEscape.same) (by kernel_rfl)]
  rw [Lib.run_noEscape]
  simp only [Result.andThen]
  rw [Oper.upon_value]
  go_wp2
  rw [Lib.run_from_unsafe (P := Tryd.prog) w ⟨g, 1, none⟩ (src := 148) (dst := 86) (u := 89) (by rfl) (by rfl) (by rfl) hsh (by kernel_rfl)]
  simp only [Result.andThen]
  rw [Oper.upon_value]
  go_wp2
  go_end0
  exact ⟨rfl, rfl⟩
theorem us_same {w w' : World} {U : UX} (hb : BelowX U.x w w') : ∀ b o v, Us w U (fun _ _ => False) b o → w.cell? ⟨b, o, none⟩ = some v → Us w U (fun _ _ => False) b o ∧ w'.cell? ⟨b, o, none⟩ = some v := fun b o v hu hc => by
  refine ⟨hu, ?_⟩
  rcases hu with ⟨h1, h2, h3⟩ | ⟨h1, h2⟩
  · rw [World.cell?_of_block (w := w) (hb.block b h1 h3)]; exact hc
  · exact h2.elim
theorem cc_abs (tb : Option (Nat × Obj)) (nm : List By) (o : Option By) : AFunOT Tryd.prog tb 67 (wst nm o) [.bp 350001 1 []] (.tup []) (wst nm (some (o.getD []))) := by
  refine ⟨ent_of Tryd.func67 rfl rfl, fun U w hv a0 vs hT hU hS hargs => ?_⟩
  obtain ⟨u, us, rfl, hu, hus⟩ := hargs
  have hus : us = [] := hus
  subst hus
  obtain ⟨_, hu⟩ : BN 350001 ∧ u = .pointer (some ⟨blkOf (hv (100000 + 350001)), 1, none⟩) := hu
  obtain ⟨g, nv, pv, bv, hA⟩ := wst_mem hS
  have hbk : blkOf (hv (100000 + 350001)) = g := by rw [show (100000 + 350001 : Nat) = 450001 from rfl, hA.box]; rfl
  rw [hbk] at hu
  subst hu
  cases o with
  | some bs =>
    have hc1 := hA.c1
    rw [hA.p1] at hc1
    refine (cc_used_any g w hc1).mono ?_
    rintro e w' ⟨rfl, rfl⟩
    exact ⟨_, _, hv, a0, rfl, hS, [], rfl, rfl⟩
  | none =>
    obtain ⟨hblk, hnv⟩ := hA.c0 rfl
    refine (cc_fresh_any g nv w hblk).mono ?_
    rintro e w' ⟨rfl, hw'⟩
    have hlt := hA.lent.2
    have hnew : w'.heap[g]? = some (.cells #[nv, .pointer (some ⟨g, 1, none⟩), .slice none 0 0] 91 (0, 0)) := by
      rw [hw', heap_setCell_same w g 1 _ _ _ hblk]
      rfl
    have hoth : ∀ k, k ≠ g → w'.heap[k]? = w.heap[k]? := fun k hk => by rw [hw']; exact heap_setCell_other w _ k _ hk
    have hsz : w'.heap.size = w.heap.size := by rw [hw']; simp
    have hb : BelowX U.x w w' := ⟨by rw [hw']; rfl, by rw [hw']; rfl, by rw [hw']; rfl, Nat.le_of_eq hsz.symm, fun k hk hx => hoth k fun e => hx (e ▸ hA.lent.1)⟩
    obtain ⟨hv', hhv⟩ : ∃ hv' : Nat → Value, hv' = fun k => if k = 300001 then .slice none 0 0 else hv k := ⟨_, rfl⟩
    have hv1 : hv' 450001 = .pointer (some ⟨g, 0, none⟩) := by rw [hhv]; exact hA.box
    have hv2 : hv' 300001 = .slice none 0 0 := by rw [hhv]; rfl
    have hcell : ∀ i, w'.cell? ⟨g, i, none⟩ = (#[nv, .pointer (some ⟨g, 1, none⟩), .slice none 0 0] : Array Value)[i]? := fun i => by
      simp only [World.cell?, hnew]
      simp
    have hnv2 := hnv.keep (us_same hb)
    have hnvc : nv.cells = #[nv] := by
      obtain ⟨ao, k, c, rfl, _⟩ := vrep_lst.1 hnv
      rfl
    refine ⟨_, fun _ _ => False, hv', ⟨#[], []⟩, rfl, ⟨hb, rfl, rfl, fun d av g1 g2 => ?_, fun m q av g1 g2 g3 g4 => ?_, fun m q q' av av' g1 g2 g3 g4 g5 => ?_, fun k av g1 g2 => ?_, fun k av b g1 g2 g3 g4 => ?_, fun k k' av av' b g1 g2 g3 g4 g5 g6 g7 g8 g9 => ?_, fun k v hk => ?_, fun b q hd => hd.elim⟩, [], rfl, rfl⟩
    · rcases look_wst g1 with ⟨e, _⟩ | ⟨e, _⟩ | ⟨e, _⟩ | ⟨e, _⟩ | ⟨e, _⟩ <;> omega
    · have hm : m = 350001 := by
        unfold BN at g4
        rcases look_wst g3 with ⟨e, _⟩ | ⟨e, _⟩ | ⟨e, _⟩ | ⟨e, _⟩ | ⟨e, _⟩ <;> omega
      subst hm
      have hbk2 : blkOf (hv' (100000 + 350001)) = g := by rw [show (100000 + 350001 : Nat) = 450001 from rfl, hv1]; rfl
      rw [hbk2]
      rcases look_wst g1 with ⟨e, _⟩ | ⟨e, rfl⟩ | ⟨e, rfl⟩ | ⟨e, rfl⟩ | ⟨e, _⟩
      · unfold fKey at e; omega
      · have ho : q = 0 := by unfold fKey at e; omega
        subst ho
        refine ⟨nv, avrep_val hnv2, by rw [hnvc]; rfl, fun i hi => ?_⟩
        rw [hnvc] at hi ⊢
        have : i = 0 := by simp at hi; omega
        subst this
        rw [hcell]
        rfl
      · have ho : q = 1 := by unfold fKey at e; omega
        subst ho
        refine ⟨.pointer (some ⟨g, 1, none⟩), ⟨.inr ⟨by show 350000 ≤ 350001; omega, by show 350001 < 400000; omega⟩, by show _ = Value.pointer (some ⟨blkOf (hv' (100000 + 350001)), 1, none⟩); rw [hbk2]⟩, rfl, fun i hi => ?_⟩
        have : i = 0 := by simp [Value.cells] at hi; omega
        subst this
        rw [hcell]
        rfl
      · have ho : q = 2 := by unfold fKey at e; omega
        subst ho
        refine ⟨.slice none 0 0, ⟨⟨by show 200000 ≤ 300001; omega, by show 300001 < 450000; omega⟩, by show SlV (hv' 300001) 0 0 1 _; rw [hv2]; exact slV_all rfl (Nat.le_refl _) (.inl rfl)⟩, rfl, fun i hi => ?_⟩
        have : i = 0 := by simp [Value.cells] at hi; omega
        subst this
        rw [hcell]
        rfl
      · unfold fKey at e; omega
    · have s1 : ∀ {av : AV} {q : Nat}, look (wst nm (some [])) (fKey m q) = some av → q < 100 → av.sz = 1 := fun {av q} h1 h2 => by
        rcases look_wst h1 with ⟨e, _⟩ | ⟨e, rfl⟩ | ⟨e, rfl⟩ | ⟨e, rfl⟩ | ⟨e, _⟩
        · unfold fKey at e; omega
        · rfl
        · rfl
        · rfl
        · unfold fKey at e; omega
      rw [s1 g1 g3]
      omega
    · rcases look_wst g1 with ⟨rfl, rfl⟩ | ⟨e, rfl⟩ | ⟨e, rfl⟩ | ⟨e, rfl⟩ | ⟨rfl, rfl⟩
      · rw [hv1]
        exact ⟨g, _, _, rfl, hnew⟩
      · unfold oKey at g2; omega
      · unfold oKey at g2; omega
      · unfold oKey at g2; omega
      · rw [hv2]
        exact ⟨[], World.ownsRow_nil w' 0 _ 1, Nat.one_pos, (fun c hc => by cases hc), rfl⟩
    · rcases look_wst g1 with ⟨rfl, rfl⟩ | ⟨e, rfl⟩ | ⟨e, rfl⟩ | ⟨e, rfl⟩ | ⟨rfl, rfl⟩
      · rw [hv1] at g4
        have g4 : some g = some b := g4
        cases g4
        exact ⟨.inr ⟨by rw [lcl_row (by omega)]; show (9 : Nat) ≠ 6; omega, hA.lent.1⟩, by rw [hsz]; exact hlt, fun _ _ h => h⟩
      · unfold oKey at g2; omega
      · unfold oKey at g2; omega
      · unfold oKey at g2; omega
      · rw [hv2] at g4; cases g4
    · rcases look_wst g1 with ⟨rfl, rfl⟩ | ⟨e, rfl⟩ | ⟨e, rfl⟩ | ⟨e, rfl⟩ | ⟨rfl, rfl⟩
      · rcases look_wst g2 with ⟨rfl, rfl⟩ | ⟨e, rfl⟩ | ⟨e, rfl⟩ | ⟨e, rfl⟩ | ⟨rfl, rfl⟩
        · exact absurd rfl g7
        · unfold oKey at g4; omega
        · unfold oKey at g4; omega
        · unfold oKey at g4; omega
        · rw [hv2] at g9; cases g9
      · unfold oKey at g3; omega
      · unfold oKey at g3; omega
      · unfold oKey at g3; omega
      · rw [hv2] at g8; cases g8
    · have h1 := U.hf k v hk
      rw [hhv]
      simp only [if_neg (show k ≠ 300001 by omega)]
      exact hS.fix k v hk
-- 
set_option maxHeartbeats 1000000 in
theorem ws_abs (tb : Option (Nat × Obj)) (nm : List By) (o : Option By) (l : By) (hl : (o.getD []).length + l.length ≤ 1000000000) : AFunOT Tryd.prog tb 60 (wst nm o) [.bp 350001 1 [], .val (sv l)] (.tup [.i (l.length : Int), .sc .nilIface]) (wst nm (some (o.getD [] ++ l))) := by
  have h := cc_abs tb nm o
  refine afunOT_of Tryd.func60 Tryd.ntmps60 rfl rfl rfl rfl rfl rfl ?_
  intro w U hU hT
  refine aS (aR ?_)
  (refine nx (aA (gN rfl) rfl rfl rfl rfl rfl) rfl ?_)
  (refine nx (aA (gN rfl) rfl rfl rfl rfl rfl) rfl ?_)
  show AWp _ _ _ _ _ _ _
  refine aS (aR ?_)
  (refine nx (aM (gN rfl) rfl rfl rfl rfl rfl) rfl ?_)
  (refine nx (a_callOT hT (gN rfl) rfl rfl rfl rfl rfl (h) (by repeat (first | exact trivial | refine ⟨rfl, ?_⟩)) (wst_lend _ _) (wst_leave _ _) (by first | rfl | kernel_rfl) (by first | rfl | kernel_rfl) (hnb_of (by first | rfl | kernel_rfl))) (by kernel_rfl) ?_)
  show AWp _ _ _ _ _ _ _
  refine AWp.wk (wk_sub (s' := [(0, .bp 350001 1 []), (1, .val (sv l)), (450001, .obj), (35500100, .val (.lst (nm.map sv))), (35500101, .bp 350001 1 []), (35500102, .sl 300001 0 (o.getD []).length 1), (300001, .mrow 5 1 ((o.getD []).map u8v))]) ⟨rfl, rfl, rfl, rfl, rfl, rfl, rfl, trivial⟩) ?_
  refine aS (aR ?_)
  (refine nx (aM (gN rfl) rfl rfl rfl rfl rfl) rfl ?_)
  (refine nx (aM (gN rfl) rfl rfl rfl rfl rfl) rfl ?_)
  (refine nx (aNc (gN rfl) rfl rfl rfl rfl rfl) rfl ?_)
  (refine nx (aF (gN rfl) rfl rfl rfl rfl rfl rfl rfl rfl rfl) rfl ?_)
  (refine nx (aLf (gN rfl) rfl rfl rfl rfl rfl rfl rfl rfl rfl rfl rfl rfl rfl) rfl ?_)
  (refine nx (aM (gN rfl) rfl rfl rfl rfl rfl) rfl ?_)
  (refine nx (a_appS 300014 (gN rfl) rfl rfl rfl rfl rfl rfl rfl rfl rfl rfl rfl rfl (by first | rfl | omega | (simp only [List.length_set, List.length_map, List.length_append, List.length_cons, List.length_nil] <;> omega) | (simp <;> omega)) (by first | omega | (simp only [List.length_map, List.length_append, List.length_cons, List.length_nil] <;> omega) | (simp <;> omega))) (by kernel_rfl) ?_)
  (refine nx (aNc (gN rfl) rfl rfl rfl rfl rfl) rfl ?_)
  (refine nx (aF (gN rfl) rfl rfl rfl rfl rfl rfl rfl rfl rfl) rfl ?_)
  (refine nx (a_store_fld (gN rfl) rfl rfl rfl rfl rfl rfl rfl rfl rfl rfl rfl rfl) rfl ?_)
  show AWp _ _ _ _ _ _ _
  refine AWp.wk ((wk_sub (s' := [(1, .val (sv l)), (450001, .obj), (35500100, .val (.lst (nm.map sv))), (35500101, .bp 350001 1 []), (35500102, .sl 300014 0 (o.getD [] ++ l).length 1), (300014, .mrow 5 1 ((o.getD [] ++ l).map u8v))]) ⟨rfl, rfl, rfl, rfl, rfl, rfl, trivial⟩).trans (wk_ren 300014 300001 rfl rfl (by kernel_rfl) (by kernel_rfl))) ?_
  refine aS (aR ?_)
  (refine nx (aM (gN rfl) rfl rfl rfl rfl rfl) rfl ?_)
  (refine nx (a_slen (gN rfl) rfl rfl rfl rfl rfl rfl rfl) rfl ?_)
  (refine nx (aA (gN rfl) rfl rfl rfl rfl rfl) rfl ?_)
  (refine nx (aA (gN rfl) rfl rfl rfl rfl rfl) rfl ?_)
  show AWp _ _ _ _ _ _ _
  exact aT ⟨.inr rfl, _, Wk.refl _, rfl, rfl, rfl, rfl, rfl, rfl, trivial⟩
end Go.Proofs.YtebhbnhijnpmcaaDoor

namespace Go.Proofs.YtebhbnhijnpmcaaDoor
open Go.RowKit
set_option linter.unusedVariables false
set_option linter.unusedSimpArgs false
set_option maxRecDepth 100000
def StrW (w w' : World) (bv : Value) : Prop := BelowX (fun b => bv.ownBlock = some b) w w'
theorem strW_drew (w : World) (bv : Value) : StrW w w.drew bv := ⟨rfl, rfl, rfl, Nat.le_refl _, fun _ _ _ => rfl⟩
set_option maxHeartbeats 2000000 in
theorem str_row_any (g g2 cap : Nat) (l : By) (cur : Array Value) (w : World) (h0 : l ≠ []) (c2 : w.cell? ⟨g, 2, none⟩ = some (.slice (some ⟨g2, 0, none⟩) l.length cap)) (hrow : w.ownsRow 0 5 1 (.slice (some ⟨g2, 0, none⟩) l.length cap) l.length (Lib.byteCells l)) :
    Calls Tryd.prog 40 #[.pointer (some ⟨g, 1, none⟩)] w fun e w' => e = .returned (.string ⟨l.toArray⟩) ∧ StrW w w' (.slice (some ⟨g2, 0, none⟩) l.length cap) := by
  have hl0 : l.length ≠ 0 := by simpa using h0
  obtain ⟨cu, hg, hnc, hcm, hcs⟩ : ∃ cu : Array Value, w.heap[g2]? = some (.cells cu 5 (0, 0)) ∧ l.length ≤ cap ∧ cap ≤ maxLen ∧ cu.size = cap := by
    rcases hrow.2 with ⟨e, _⟩ | ⟨g3, cap3, cur3, e, _, h3, h4, h5, h6, _⟩
    · cases e
    · injection e with e1 e2 e3
      injection e1 with e1
      injection e1 with e1
      subst e1; subst e3
      exact ⟨cur3, h3, h4, h5, by simpa using h6⟩
  have c1 : w.drew.cell? ⟨g, 2, none⟩ = some (.slice (some ⟨g2, 0, none⟩) l.length cap) := c2
  have hSD : (Builtin.unsafeSliceData_ #[87] 120 #[.slice (some ⟨g2, 0, none⟩) l.length cap]).run Tryd.prog w.drew = .ok (.pointer (some ⟨g2, 0, none⟩)) w.drew :=
    Lib.run_unsafeSliceData_row _ _ _ _ _ _ (by omega)
  have hUS : (Builtin.unsafeString_ #[120, 3] 9 #[.pointer (some ⟨g2, 0, none⟩), .int .i64 l.length]).run Tryd.prog w.drew = .ok (.string ⟨l.toArray⟩) (w.drew.freeze ⟨g2, 0, none⟩ l.length) := by
    refine Lib.run_unsafeString_row w.drew 120 3 9 5 (by rfl) (by kernel_rfl) g2 cap (by have hg' : w.drew.heap[g2]? = _ := hg; simp [World.shape?, hg', hcs]) l h0 (by omega) (by unfold maxLen at hcm; omega) ?_
    intro j x hx
    exact hrow.cells (g := g2) rfl j (.int .u8 x.toNat) (by simp [Lib.byteCells, hx])
  have hend : StrW w (w.drew.freeze ⟨g2, 0, none⟩ l.length) (.slice (some ⟨g2, 0, none⟩) l.length cap) := by
    unfold World.freeze
    rw [if_neg hl0]
    refine ⟨rfl, rfl, rfl, by simp, fun k hk hx => ?_⟩
    simp only [Array.getElem?_modify]
    rw [if_neg (fun e => hx (by rw [← e]; rfl))]
    rfl
  clear hrow c2
  have mixed : Tryd.prog.follows Departure.mixedOrders = true := by kernel_rfl
  go_enter Tryd.func40, Tryd.ntmps40
  go_wp2
  go_region_o
  all_goals (go_wp2; go_ret; exact ⟨rfl, hend⟩)
set_option maxHeartbeats 2000000 in
theorem str_nil_any (g : Nat) (w : World) (c2 : w.cell? ⟨g, 2, none⟩ = some (.slice none 0 0)) :
    Calls Tryd.prog 40 #[.pointer (some ⟨g, 1, none⟩)] w fun e w' => e = .returned (.string ⟨#[]⟩) ∧ StrW w w' (.slice none 0 0) := by
  have hUS : ∀ (W : World) (q : Option Addr), (Builtin.unsafeString_ #[120, 3] 9 #[.pointer q, .int .i64 0]).run Tryd.prog W = .ok (.string .empty) W := fun W q => Lib.run_unsafeString_none W _ _ _ q
  have c1 : w.drew.cell? ⟨g, 2, none⟩ = some (.slice none 0 0) := c2
  have hSD : (Builtin.unsafeSliceData_ #[87] 120 #[.slice none 0 0]).run Tryd.prog w.drew = .ok (.pointer none) w.drew := rfl
  have mixed : Tryd.prog.follows Departure.mixedOrders = true := by kernel_rfl
  go_enter Tryd.func40, Tryd.ntmps40
  go_wp2
  go_region_o
  all_goals (go_wp2; go_ret; exact ⟨rfl, strW_drew w _⟩)
set_option maxHeartbeats 2000000 in
theorem str_room_any (g g2 cap : Nat) (w : World) (hc : cap ≠ 0) (c2 : w.cell? ⟨g, 2, none⟩ = some (.slice (some ⟨g2, 0, none⟩) 0 cap)) :
    Calls Tryd.prog 40 #[.pointer (some ⟨g, 1, none⟩)] w fun e w' => e = .returned (.string ⟨#[]⟩) ∧ StrW w w' (.slice (some ⟨g2, 0, none⟩) 0 cap) := by
  have hUS : ∀ (W : World) (q : Option Addr), (Builtin.unsafeString_ #[120, 3] 9 #[.pointer q, .int .i64 0]).run Tryd.prog W = .ok (.string .empty) W := fun W q => Lib.run_unsafeString_none W _ _ _ q
  have c1 : w.drew.cell? ⟨g, 2, none⟩ = some (.slice (some ⟨g2, 0, none⟩) 0 cap) := c2
  have hSD : (Builtin.unsafeSliceData_ #[87] 120 #[.slice (some ⟨g2, 0, none⟩) 0 cap]).run Tryd.prog w.drew = .ok (.pointer (some ⟨g2, 0, none⟩)) w.drew := Lib.run_unsafeSliceData_row _ _ _ _ _ _ hc
  clear hc
  have mixed : Tryd.prog.follows Departure.mixedOrders = true := by kernel_rfl
  go_enter Tryd.func40, Tryd.ntmps40
  go_wp2
  go_region_o
  all_goals (go_wp2; go_ret; exact ⟨rfl, strW_drew w _⟩)
set_option maxHeartbeats 2000000 in
theorem str_none_any (g g2 : Nat) (w : World) (hglt : g < w.heap.size) (cur : Array Value) (hg2 : w.heap[g2]? = some (.cells cur 5 (0, 0))) (c2 : w.cell? ⟨g, 2, none⟩ = some (.slice (some ⟨g2, 0, none⟩) 0 0)) :
    Calls Tryd.prog 40 #[.pointer (some ⟨g, 1, none⟩)] w fun e w' => e = .returned (.string ⟨#[]⟩) ∧ StrW w w' (.slice (some ⟨g2, 0, none⟩) 0 0) := by
  have hUS : ∀ (W : World) (q : Option Addr), (Builtin.unsafeString_ #[120, 3] 9 #[.pointer q, .int .i64 0]).run Tryd.prog W = .ok (.string .empty) W := fun W q => Lib.run_unsafeString_none W _ _ _ q
  have c1 : w.drew.cell? ⟨g, 2, none⟩ = some (.slice (some ⟨g2, 0, none⟩) 0 0) := c2
  have hSD : (Builtin.unsafeSliceData_ #[87] 120 #[.slice (some ⟨g2, 0, none⟩) 0 0]).run Tryd.prog w.drew = .ok (.pointer (some ⟨w.drew.heap.size, 0, none⟩)) (w.drew.alloc (.view ⟨g2, 0, none⟩ 5)) :=
    Lib.run_unsafeSliceData_zero w.drew _ _ 5 (by rfl) ⟨g2, 0, none⟩ 0 (5, cur.size) (by have hg' : w.drew.heap[g2]? = _ := hg2; simp [World.shape?, hg'])
  have c4 : (w.drew.alloc (.view ⟨g2, 0, none⟩ 5)).cell? ⟨g, 2, none⟩ = some (.slice (some ⟨g2, 0, none⟩) 0 0) := by
    have hh : (w.drew.alloc (.view ⟨g2, 0, none⟩ 5)).heap[g]? = w.heap[g]? := Lib.alloc_old w.drew _ g hglt
    rw [World.cell?_of_block (w := w) hh]; exact c2
  have c3 : (w.alloc (.view ⟨g2, 0, none⟩ 5)).drew.cell? ⟨g, 2, none⟩ = some (.slice (some ⟨g2, 0, none⟩) 0 0) := c4
  have hend : StrW w (w.drew.alloc (.view ⟨g2, 0, none⟩ 5)) (.slice (some ⟨g2, 0, none⟩) 0 0) := ⟨rfl, rfl, rfl, by simp, fun k hk _ => Lib.alloc_old w.drew _ k hk⟩
  have mixed : Tryd.prog.follows Departure.mixedOrders = true := by kernel_rfl
  go_enter Tryd.func40, Tryd.ntmps40
  go_wp2
  go_region_o
  all_goals (go_wp2; go_ret; exact ⟨rfl, hend⟩)
theorem str_any {g : Nat} {bv : Value} {l : By} {w : World} (hglt : g < w.heap.size) (c2 : w.cell? ⟨g, 2, none⟩ = some bv) (hrow : w.ownsRow 0 5 1 bv l.length (Lib.byteCells l)) :
    Calls Tryd.prog 40 #[.pointer (some ⟨g, 1, none⟩)] w fun e w' => e = .returned (.string ⟨l.toArray⟩) ∧ StrW w w' bv := by
  rcases hrow.2 with ⟨rfl, e⟩ | ⟨g2, cap, cur, rfl, _, h3, h4, h5, h6, _⟩
  · have : l = [] := List.eq_nil_of_length_eq_zero e
    subst this
    exact str_nil_any g w c2
  · by_cases h0 : l = []
    · subst h0
      by_cases hc : cap = 0
      · subst hc
        exact str_none_any g g2 w hglt cur h3 c2
      · exact str_room_any g g2 cap w hc c2
    · exact str_row_any g g2 cap l cur w h0 c2 hrow
noncomputable abbrev wsE (nm : List By) (o : Option By) : AS := [(450001, .no), (35500100, .val (.lst (nm.map sv))), (35500101, .val (.i 0)), (35500102, .val (.i 0)), (300001, .no)]
theorem look_wsE {nm : List By} {o : Option By} {k : Nat} {av : AV} (h : look (wsE nm o) k = some av) : (k = 450001 ∧ av = .no) ∨ (k = 35500100 ∧ av = .val (.lst (nm.map sv))) ∨ (k = 35500101 ∧ av = .val (.i 0)) ∨ (k = 35500102 ∧ av = .val (.i 0)) ∨ (k = 300001 ∧ av = .no) := by
  rw [look_cons] at h
  split at h
  · rename_i e; cases h; exact .inl ⟨e.symm, rfl⟩
  rw [look_cons] at h
  split at h
  · rename_i e; cases h; exact .inr (.inl ⟨e.symm, rfl⟩)
  rw [look_cons] at h
  split at h
  · rename_i e; cases h; exact .inr (.inr (.inl ⟨e.symm, rfl⟩))
  rw [look_cons] at h
  split at h
  · rename_i e; cases h; exact .inr (.inr (.inr (.inl ⟨e.symm, rfl⟩)))
  rw [look_cons] at h
  split at h
  · rename_i e; cases h; exact .inr (.inr (.inr (.inr ⟨e.symm, rfl⟩)))
  · cases h
theorem str_abs (tb : Option (Nat × Obj)) (nm : List By) (o : Option By) : AFunOT Tryd.prog tb 40 (wst nm o) [.bp 350001 1 []] (.val (sv (o.getD []))) (wsE nm o) := by
  refine ⟨ent_of Tryd.func40 rfl rfl, fun U w hv a0 vs hT hU hS hargs => ?_⟩
  obtain ⟨u, us, rfl, hu, hus⟩ := hargs
  have hus : us = [] := hus
  subst hus
  obtain ⟨_, hu⟩ : BN 350001 ∧ u = .pointer (some ⟨blkOf (hv (100000 + 350001)), 1, none⟩) := hu
  obtain ⟨g, nv, pv, bv, hA⟩ := wst_mem hS
  have hbk : blkOf (hv (100000 + 350001)) = g := by rw [show (100000 + 350001 : Nat) = 450001 from rfl, hA.box]; rfl
  rw [hbk] at hu
  subst hu
  refine (str_any hA.lent.2 hA.c2 hA.row).mono ?_
  rintro e w' ⟨rfl, hw⟩
  have hb : BelowX U.x w w' := ⟨hw.os, hw.tape, hw.output, hw.size, fun k hk hx => hw.block k hk fun e => hx (hA.bl k e).1⟩
  refine ⟨_, fun _ _ => False, hv, ⟨#[], []⟩, rfl, ⟨hb, rfl, rfl, fun d av g1 g2 => ?_, fun m q av g1 g2 g3 g4 => ?_, fun m q q' av av' g1 g2 g3 g4 g5 => ?_, fun k av g1 g2 => ?_, fun k av b g1 g2 g3 g4 => ?_, fun k k' av av' b g1 g2 g3 g4 g5 g6 g7 g8 g9 => ?_, hS.fix, fun b q hd => hd.elim⟩, ?_⟩
  · rcases look_wsE g1 with ⟨e, _⟩ | ⟨e, _⟩ | ⟨e, _⟩ | ⟨e, _⟩ | ⟨e, _⟩ <;> omega
  · rcases look_wsE g3 with ⟨e, e2⟩ | ⟨e, e2⟩ | ⟨e, e2⟩ | ⟨e, e2⟩ | ⟨e, e2⟩ <;> cases e2
  · have s1 : ∀ {av : AV} {q : Nat}, look (wsE nm o) (fKey m q) = some av → q < 100 → av.sz = 1 := fun {av q} h1 h2 => by
      rcases look_wsE h1 with ⟨e, _⟩ | ⟨e, rfl⟩ | ⟨e, rfl⟩ | ⟨e, rfl⟩ | ⟨e, _⟩
      · unfold fKey at e; omega
      · rfl
      · rfl
      · rfl
      · unfold fKey at e; omega
    rw [s1 g1 g3]
    omega
  · have h7 : av.t = 7 := by
      unfold oKey at g2
      rcases look_wsE g1 with ⟨e, rfl⟩ | ⟨e, rfl⟩ | ⟨e, rfl⟩ | ⟨e, rfl⟩ | ⟨e, rfl⟩
      · rfl
      · omega
      · omega
      · omega
      · rfl
    exact oc_no h7
  · exfalso
    unfold oKey at g2
    rcases look_wsE g1 with ⟨e, rfl⟩ | ⟨e, rfl⟩ | ⟨e, rfl⟩ | ⟨e, rfl⟩ | ⟨e, rfl⟩
    · exact g3 rfl
    · omega
    · omega
    · omega
    · exact g3 rfl
  · exfalso
    unfold oKey at g3
    rcases look_wsE g1 with ⟨e, rfl⟩ | ⟨e, rfl⟩ | ⟨e, rfl⟩ | ⟨e, rfl⟩ | ⟨e, rfl⟩
    · exact g5 rfl
    · omega
    · omega
    · omega
    · exact g5 rfl
  · exact avrep_sc rfl
end Go.Proofs.YtebhbnhijnpmcaaDoor
-- @STR@
namespace Go.Proofs.YtebhbnhijnpmcaaDoor
open Go.RowKit
set_option linter.unusedVariables false
set_option linter.unusedSimpArgs false
set_option maxRecDepth 100000

-- 
theorem put_abs (tb : Option (Nat × Obj)) (nm : List By) (o : Option By) (l : By) (hl : (o.getD []).length + l.length ≤ 1000000000) : AFunOT Tryd.prog tb 44 (wst nm o) [.bp 350001 0 [], .val (sv l)] (.tup []) (wst nm (some (o.getD [] ++ l))) := by
  have h := ws_abs tb nm o l hl
  refine afunOT_of Tryd.func44 Tryd.ntmps44 rfl rfl rfl rfl rfl rfl ?_
  intro w U hU hT
  refine aR ?_
  (refine nx (aM (gN rfl) rfl rfl rfl rfl rfl) rfl ?_)
  (refine nx (aNc (gN rfl) rfl rfl rfl rfl rfl) rfl ?_)
  (refine nx (aF (gN rfl) rfl rfl rfl rfl rfl rfl rfl rfl rfl) rfl ?_)
  (refine nx (aM (gN rfl) rfl rfl rfl rfl rfl) rfl ?_)
  (refine nx (a_callOT hT (gN rfl) rfl rfl rfl rfl rfl (h) (by repeat (first | exact trivial | refine ⟨rfl, ?_⟩)) (wst_lend _ _) (wst_leave _ _) (by first | rfl | kernel_rfl) (by first | rfl | kernel_rfl) (hnb_of (by first | rfl | kernel_rfl))) (by kernel_rfl) ?_)
  exact ⟨.inl rfl, _, Wk.refl _, rfl, rfl, rfl, rfl, rfl, rfl, trivial⟩
-- 
theorem putB_abs (tb : Option (Nat × Obj)) (nm : List By) (o : Option By) (l : By) (k : Nat) (hl : k ≠ 0 → (o.getD []).length + l.length ≤ 1000000000) : AFunOT Tryd.prog tb 59 (wst nm o) [.bp 350001 0 [], .val (sv l), .val (.i (k : Int))] (.tup []) (wst nm (if k = 0 then o else some (o.getD [] ++ l))) := by
  refine afunOT_of Tryd.func59 Tryd.ntmps59 rfl rfl rfl rfl rfl rfl ?_
  intro w U hU hT
  refine aS (aR ?_)
  (refine nx (aM (gN rfl) rfl rfl rfl rfl rfl) rfl ?_)
  (refine nx (a_gtr (gN rfl) rfl rfl rfl rfl rfl rfl) rfl ?_)
  show AWp _ _ _ _ _ _ _
  refine aC rfl (fun hc => ?_) (fun hc => ?_)
  · have hc : decide ((k : Int) > 0) = true := hc
    have h0 : k ≠ 0 := fun e => by subst e; simp at hc
    rw [if_neg h0]
    have h := put_abs tb nm o l (hl h0)
    refine aR ?_
    (refine nx (aM (gN rfl) rfl rfl rfl rfl rfl) rfl ?_)
    (refine nx (aM (gN rfl) rfl rfl rfl rfl rfl) rfl ?_)
    (refine nx (a_callOT hT (gN rfl) rfl rfl rfl rfl rfl (h) (by repeat (first | exact trivial | refine ⟨rfl, ?_⟩)) (wst_lend _ _) (wst_leave _ _) (by first | rfl | kernel_rfl) (by first | rfl | kernel_rfl) (hnb_of (by first | rfl | kernel_rfl))) (by kernel_rfl) ?_)
    exact ⟨.inl rfl, _, Wk.refl _, rfl, rfl, rfl, rfl, rfl, rfl, trivial⟩
  · have hc : decide ((k : Int) > 0) = false := hc
    have h0 : k = 0 := by
      have := of_decide_eq_false hc
      omega
    rw [if_pos h0]
    refine aK ?_
    exact ⟨.inl rfl, _, Wk.refl _, rfl, rfl, rfl, rfl, rfl, rfl, trivial⟩
def ItoaN (tb : Option (Nat × Obj)) (N : Nat) : Prop := ∀ z : Nat, z < N → AFunT Tryd.prog tb 66 [.i (z : Int)] (.val (sv (Lib.decDigits z)))
-- 
theorem varW_abs (tb : Option (Nat × Obj)) (N : Nat) (hI : ItoaN tb N) (nm : List By) (o : Option By) (f : Int) (hf : f < 0) (h1 : -9223372036854775808 ≤ f) (h2 : -1 - f < N) (hl : (o.getD []).length + (88 :: Lib.decDigits (-1 - f).toNat).length ≤ 1000000000) : AFunOT Tryd.prog tb 57 (wst nm o) [.bp 350001 0 [], .val (.i f)] (.tup []) (wst nm (some (o.getD [] ++ 88 :: Lib.decDigits (-1 - f).toNat))) := by
  obtain ⟨z, hz⟩ : ∃ z : Nat, -1 - f = (z : Int) := ⟨(-1 - f).toNat, by omega⟩
  rw [hz, Int.toNat_natCast] at hl ⊢
  rw [List.length_cons] at hl
  have p1 := put_abs tb nm o [88] (by simp; omega)
  have p2 := put_abs tb nm (some (o.getD [] ++ [88])) (Lib.decDigits z) (by simp; omega)
  have hi := hI z (by omega)
  rw [← hz] at hi
  have e : o.getD [] ++ 88 :: Lib.decDigits z = (some (o.getD [] ++ [88])).getD [] ++ Lib.decDigits z := by simp
  rw [e]
  refine afunOT_of Tryd.func57 Tryd.ntmps57 rfl rfl rfl rfl rfl rfl ?_
  intro w U hU hT
  refine aS (aR ?_)
  (refine nx (aM (gN rfl) rfl rfl rfl rfl rfl) rfl ?_)
  (refine nx (a_callOT hT (gN rfl) rfl rfl rfl rfl rfl (p1) (by repeat (first | exact trivial | refine ⟨rfl, ?_⟩)) (wst_lend _ _) (wst_leave _ _) (by first | rfl | kernel_rfl) (by first | rfl | kernel_rfl) (hnb_of (by first | rfl | kernel_rfl))) (by kernel_rfl) ?_)
  show AWp _ _ _ _ _ _ _
  refine aR ?_
  (refine nx (aM (gN rfl) rfl rfl rfl rfl rfl) rfl ?_)
  (refine nx (aM (gN rfl) rfl rfl rfl rfl rfl) rfl ?_)
  (refine nx (a_sub (gN rfl) rfl rfl rfl rfl rfl rfl (by first | omega | (simp only [List.length_map, List.length_append, List.length_cons, List.length_nil] <;> omega) | (simp <;> omega))) rfl ?_)
  (refine nx (a_callT hT (gN rfl) rfl rfl rfl rfl rfl (hi)) rfl ?_)
  (refine nx (a_callOT hT (gN rfl) rfl rfl rfl rfl rfl (p2) (by repeat (first | exact trivial | refine ⟨rfl, ?_⟩)) (wst_lend _ _) (wst_leave _ _) (by first | rfl | kernel_rfl) (by first | rfl | kernel_rfl) (hnb_of (by first | rfl | kernel_rfl))) (by kernel_rfl) ?_)
  exact ⟨.inl rfl, _, Wk.refl _, rfl, rfl, rfl, rfl, rfl, rfl, trivial⟩
-- 
theorem symW_abs (tb : Option (Nat × Obj)) (N : Nat) (hI : ItoaN tb N) (nm : List By) (o : Option By) (f : Nat) (hN : nm.length ≤ f → f < N) (hnm : nm.length ≤ 1000000) (hl : (o.getD []).length + (symX nm f).length ≤ 1000000000) : AFunOT Tryd.prog tb 58 (wst nm o) [.bp 350001 0 [], .val (.i (f : Int))] (.tup []) (wst nm (some (o.getD [] ++ symX nm f))) := by
  have hz := svs_size nm
  have hln : (nm.map sv).length = nm.length := List.length_map ..
  have p0 := put_abs tb nm o (symX nm f) hl
  refine afunOT_of Tryd.func58 Tryd.ntmps58 rfl rfl rfl rfl rfl rfl ?_
  intro w U hU hT
  cases o with
  | none =>
    refine aS (aS (aR ?_))
    (refine nx (aM (gN rfl) rfl rfl rfl rfl rfl) rfl ?_)
    (refine nx (aM (gN rfl) rfl rfl rfl rfl rfl) rfl ?_)
    (refine nx (aNc (gN rfl) rfl rfl rfl rfl rfl) rfl ?_)
    (refine nx (aF (gN rfl) rfl rfl rfl rfl rfl rfl rfl rfl rfl) rfl ?_)
    (refine nx (a_loadW (gN rfl) rfl rfl rfl rfl rfl rfl rfl rfl rfl) rfl ?_)
    (refine nx (a_len (gN rfl) rfl rfl rfl rfl rfl rfl rfl) rfl ?_)
    (refine nx (a_lss (gN rfl) rfl rfl rfl rfl rfl rfl) rfl ?_)
    show AWp _ _ _ _ _ _ _
    refine aC rfl (fun hc => ?_) (fun hc => ?_)
    · have hc : decide ((f : Int) < ((nm.map sv).length : Int)) = true := hc
      have hf : f < nm.length := by rw [hln] at hc; simpa using hc
      obtain ⟨x, hx⟩ : ∃ x, nm[f]? = some x := ⟨nm[f], List.getElem?_eq_getElem hf⟩
      have hx' := sv_at hx
      have hs : symX nm f = x := by unfold symX; rw [hx]
      rw [hs] at p0 ⊢
      refine aS (aR ?_)
      (refine nx (aM (gN rfl) rfl rfl rfl rfl rfl) rfl ?_)
      (refine nx (aM (gN rfl) rfl rfl rfl rfl rfl) rfl ?_)
      (refine nx (aNc (gN rfl) rfl rfl rfl rfl rfl) rfl ?_)
      (refine nx (aF (gN rfl) rfl rfl rfl rfl rfl rfl rfl rfl rfl) rfl ?_)
      (refine nx (a_loadW (gN rfl) rfl rfl rfl rfl rfl rfl rfl rfl rfl) rfl ?_)
      (refine nx (aM (gN rfl) rfl rfl rfl rfl rfl) rfl ?_)
      (refine nx (a_index (j := f) (gN rfl) rfl rfl rfl rfl rfl rfl rfl rfl rfl (hx') rfl (hz)) rfl ?_)
      (refine nx (a_load_ad (gN rfl) rfl rfl rfl rfl rfl rfl rfl rfl rfl) rfl ?_)
      (refine nx (a_callOT hT (gN rfl) rfl rfl rfl rfl rfl (p0) (by repeat (first | exact trivial | refine ⟨rfl, ?_⟩)) (wst_lend _ _) (wst_leave _ _) (by first | rfl | kernel_rfl) (by first | rfl | kernel_rfl) (hnb_of (by first | rfl | kernel_rfl))) (by kernel_rfl) ?_)
      show AWp _ _ _ _ _ _ _
      exact aT ⟨.inr rfl, _, Wk.refl _, rfl, rfl, rfl, rfl, rfl, rfl, trivial⟩
    · have hc : decide ((f : Int) < ((nm.map sv).length : Int)) = false := hc
      have hf : nm.length ≤ f := by rw [hln] at hc; have := of_decide_eq_false hc; omega
      have hs : symX nm f = 115 :: Lib.decDigits f := by unfold symX; rw [List.getElem?_eq_none hf]
      rw [hs] at hl ⊢
      rw [List.length_cons] at hl
      have p1 := put_abs tb nm none [115] (by simp)
      have p2 := put_abs tb nm (some ((none : Option By).getD [] ++ [115])) (Lib.decDigits f) (by simp at hl ⊢; omega)
      have hi := hI f (hN hf)
      refine aK ?_
      show AWp _ _ _ _ _ _ _
      refine aS (aR ?_)
      (refine nx (aM (gN rfl) rfl rfl rfl rfl rfl) rfl ?_)
      (refine nx (a_callOT hT (gN rfl) rfl rfl rfl rfl rfl (p1) (by repeat (first | exact trivial | refine ⟨rfl, ?_⟩)) (wst_lend _ _) (wst_leave _ _) (by first | rfl | kernel_rfl) (by first | rfl | kernel_rfl) (hnb_of (by first | rfl | kernel_rfl))) (by kernel_rfl) ?_)
      show AWp _ _ _ _ _ _ _
      refine aR ?_
      (refine nx (aM (gN rfl) rfl rfl rfl rfl rfl) rfl ?_)
      (refine nx (aM (gN rfl) rfl rfl rfl rfl rfl) rfl ?_)
      (refine nx (a_callT hT (gN rfl) rfl rfl rfl rfl rfl (hi)) rfl ?_)
      (refine nx (a_callOT hT (gN rfl) rfl rfl rfl rfl rfl (p2) (by repeat (first | exact trivial | refine ⟨rfl, ?_⟩)) (wst_lend _ _) (wst_leave _ _) (by first | rfl | kernel_rfl) (by first | rfl | kernel_rfl) (hnb_of (by first | rfl | kernel_rfl))) (by kernel_rfl) ?_)
      exact ⟨.inl rfl, _, Wk.refl _, rfl, rfl, rfl, rfl, rfl, rfl, trivial⟩
  | some bs =>
    refine aS (aS (aR ?_))
    (refine nx (aM (gN rfl) rfl rfl rfl rfl rfl) rfl ?_)
    (refine nx (aM (gN rfl) rfl rfl rfl rfl rfl) rfl ?_)
    (refine nx (aNc (gN rfl) rfl rfl rfl rfl rfl) rfl ?_)
    (refine nx (aF (gN rfl) rfl rfl rfl rfl rfl rfl rfl rfl rfl) rfl ?_)
    (refine nx (aLf (gN rfl) rfl rfl rfl rfl rfl rfl rfl rfl rfl rfl rfl rfl rfl) rfl ?_)
    (refine nx (a_len (gN rfl) rfl rfl rfl rfl rfl rfl rfl) rfl ?_)
    (refine nx (a_lss (gN rfl) rfl rfl rfl rfl rfl rfl) rfl ?_)
    show AWp _ _ _ _ _ _ _
    refine aC rfl (fun hc => ?_) (fun hc => ?_)
    · have hc : decide ((f : Int) < ((nm.map sv).length : Int)) = true := hc
      have hf : f < nm.length := by rw [hln] at hc; simpa using hc
      obtain ⟨x, hx⟩ : ∃ x, nm[f]? = some x := ⟨nm[f], List.getElem?_eq_getElem hf⟩
      have hx' := sv_at hx
      have hs : symX nm f = x := by unfold symX; rw [hx]
      rw [hs] at p0 ⊢
      refine aS (aR ?_)
      (refine nx (aM (gN rfl) rfl rfl rfl rfl rfl) rfl ?_)
      (refine nx (aM (gN rfl) rfl rfl rfl rfl rfl) rfl ?_)
      (refine nx (aNc (gN rfl) rfl rfl rfl rfl rfl) rfl ?_)
      (refine nx (aF (gN rfl) rfl rfl rfl rfl rfl rfl rfl rfl rfl) rfl ?_)
      (refine nx (aLf (gN rfl) rfl rfl rfl rfl rfl rfl rfl rfl rfl rfl rfl rfl rfl) rfl ?_)
      (refine nx (aM (gN rfl) rfl rfl rfl rfl rfl) rfl ?_)
      (refine nx (a_index (j := f) (gN rfl) rfl rfl rfl rfl rfl rfl rfl rfl rfl (hx') rfl (hz)) rfl ?_)
      (refine nx (a_load_ad (gN rfl) rfl rfl rfl rfl rfl rfl rfl rfl rfl) rfl ?_)
      (refine nx (a_callOT hT (gN rfl) rfl rfl rfl rfl rfl (p0) (by repeat (first | exact trivial | refine ⟨rfl, ?_⟩)) (wst_lend _ _) (wst_leave _ _) (by first | rfl | kernel_rfl) (by first | rfl | kernel_rfl) (hnb_of (by first | rfl | kernel_rfl))) (by kernel_rfl) ?_)
      show AWp _ _ _ _ _ _ _
      exact aT ⟨.inr rfl, _, Wk.refl _, rfl, rfl, rfl, rfl, rfl, rfl, trivial⟩
    · have hc : decide ((f : Int) < ((nm.map sv).length : Int)) = false := hc
      have hf : nm.length ≤ f := by rw [hln] at hc; have := of_decide_eq_false hc; omega
      have hs : symX nm f = 115 :: Lib.decDigits f := by unfold symX; rw [List.getElem?_eq_none hf]
      rw [hs] at hl ⊢
      rw [List.length_cons] at hl
      have hl : bs.length + ((Lib.decDigits f).length + 1) ≤ 1000000000 := hl
      have p1 := put_abs tb nm (some bs) [115] (by simp; omega)
      have p2 := put_abs tb nm (some ((some bs).getD [] ++ [115])) (Lib.decDigits f) (by simp; omega)
      have hi := hI f (hN hf)
      have e : (some bs).getD [] ++ 115 :: Lib.decDigits f = (some ((some bs).getD [] ++ [115])).getD [] ++ Lib.decDigits f := by simp
      rw [e]
      refine aK ?_
      show AWp _ _ _ _ _ _ _
      refine aS (aR ?_)
      (refine nx (aM (gN rfl) rfl rfl rfl rfl rfl) rfl ?_)
      (refine nx (a_callOT hT (gN rfl) rfl rfl rfl rfl rfl (p1) (by repeat (first | exact trivial | refine ⟨rfl, ?_⟩)) (wst_lend _ _) (wst_leave _ _) (by first | rfl | kernel_rfl) (by first | rfl | kernel_rfl) (hnb_of (by first | rfl | kernel_rfl))) (by kernel_rfl) ?_)
      show AWp _ _ _ _ _ _ _
      refine aR ?_
      (refine nx (aM (gN rfl) rfl rfl rfl rfl rfl) rfl ?_)
      (refine nx (aM (gN rfl) rfl rfl rfl rfl rfl) rfl ?_)
      (refine nx (a_callT hT (gN rfl) rfl rfl rfl rfl rfl (hi)) rfl ?_)
      (refine nx (a_callOT hT (gN rfl) rfl rfl rfl rfl rfl (p2) (by repeat (first | exact trivial | refine ⟨rfl, ?_⟩)) (wst_lend _ _) (wst_leave _ _) (by first | rfl | kernel_rfl) (by first | rfl | kernel_rfl) (hnb_of (by first | rfl | kernel_rfl))) (by kernel_rfl) ?_)
      exact ⟨.inl rfl, _, Wk.refl _, rfl, rfl, rfl, rfl, rfl, rfl, trivial⟩
end Go.Proofs.YtebhbnhijnpmcaaDoor

-- @STR@
namespace Go.Proofs.YtebhbnhijnpmcaaDoor
open Go.RowKit
set_option linter.unusedVariables false
set_option linter.unusedSimpArgs false
set_option maxRecDepth 100000

-- 
set_option maxHeartbeats 2000000 in
theorem termW_abs (tb : Option (Nat × Obj)) (N : Nat) (hI : ItoaN tb N) (nm : List By) (hnm : nm.length ≤ 1000000) : ∀ (t : Tm) (o : Option By), t.nk N nm.length → (o.getD []).length + (txT nm t).length ≤ 1000000000 → AFunOT Tryd.prog tb 41 (wst nm o) [.bp 350001 0 [], .val t.cw] (.tup []) (wst nm (some (o.getD [] ++ txT nm t))) := by
  refine Tm.ind ?_
  intro f l ih o hk hl
  obtain ⟨⟨k1, k2, k3, k4⟩, k5⟩ := (Tm.nk_iff N nm.length ⟨f, l⟩).1 hk
  simp only at k1 k2 k3 k4 k5
  rw [txT_eq] at hl ⊢
  simp only at hl ⊢
  by_cases hf : f < 0
  · rw [if_pos hf] at hl ⊢
    have hv := varW_abs tb N hI nm o f hf k1 (k2 hf) hl
    refine afunOT_of Tryd.func41 Tryd.ntmps41 rfl rfl rfl rfl rfl rfl ?_
    intro w U hU hT
    refine aS (aR ?_)
    (refine nx (a_box (gN rfl) rfl rfl rfl rfl rfl) (by kernel_rfl) ?_)
    show AWp _ _ _ _ _ _ _
    refine aS (aS (aR ?_))
    (refine nx (aF (gN rfl) rfl rfl rfl rfl rfl rfl rfl rfl rfl) rfl ?_)
    (refine nx (aLb (gN rfl) rfl rfl rfl rfl rfl rfl rfl rfl rfl rfl rfl rfl) rfl ?_)
    (refine nx (a_lss (gN rfl) rfl rfl rfl rfl rfl rfl) rfl ?_)
    show AWp _ _ _ _ _ _ _
    have g : decide (f < 0) = true := decide_eq_true hf
    refine aC rfl (fun hc => ?_) (fun hc => by rw [g] at hc; cases hc)
    refine aS (aR ?_)
    (refine nx (aM (gN rfl) rfl rfl rfl rfl rfl) rfl ?_)
    (refine nx (aF (gN rfl) rfl rfl rfl rfl rfl rfl rfl rfl rfl) rfl ?_)
    (refine nx (aLb (gN rfl) rfl rfl rfl rfl rfl rfl rfl rfl rfl rfl rfl rfl) rfl ?_)
    (refine nx (a_callOT hT (gN rfl) rfl rfl rfl rfl rfl (hv) (by repeat (first | exact trivial | refine ⟨rfl, ?_⟩)) (wst_lend _ _) (wst_leave _ _) (by first | rfl | kernel_rfl) (by first | rfl | kernel_rfl) (hnb_of (by first | rfl | kernel_rfl))) (by kernel_rfl) ?_)
    show AWp _ _ _ _ _ _ _
    exact aT ⟨.inr rfl, _, Wk.refl _, rfl, rfl, rfl, rfl, rfl, rfl, trivial⟩
  rw [if_neg hf] at hl ⊢
  obtain ⟨n, rfl⟩ : ∃ n : Nat, f = (n : Int) := ⟨f.toNat, by omega⟩
  rw [Int.toNat_natCast, List.length_append] at hl
  rw [Int.toNat_natCast]
  have hs := symW_abs tb N hI nm o n (fun h => by have := k3 (by omega); omega) hnm (by omega)
  have g : decide ((n : Int) < 0) = false := decide_eq_false hf
  have hsz := Tm.size_all l
  have hln : (l.map Tm.cv).length = l.length := List.length_map ..
  refine afunOT_of Tryd.func41 Tryd.ntmps41 rfl rfl rfl rfl rfl rfl ?_
  intro w U hU hT
  refine aS (aR ?_)
  (refine nx (a_box (gN rfl) rfl rfl rfl rfl rfl) (by kernel_rfl) ?_)
  show AWp _ _ _ _ _ _ _
  refine aS (aS (aR ?_))
  (refine nx (aF (gN rfl) rfl rfl rfl rfl rfl rfl rfl rfl rfl) rfl ?_)
  (refine nx (aLb (gN rfl) rfl rfl rfl rfl rfl rfl rfl rfl rfl rfl rfl rfl) rfl ?_)
  (refine nx (a_lss (gN rfl) rfl rfl rfl rfl rfl rfl) rfl ?_)
  show AWp _ _ _ _ _ _ _
  refine aC rfl (fun hc => by rw [g] at hc; cases hc) (fun hc => aK ?_)
  show AWp _ _ _ _ _ _ _
  refine aS (aR ?_)
  (refine nx (aM (gN rfl) rfl rfl rfl rfl rfl) rfl ?_)
  (refine nx (aF (gN rfl) rfl rfl rfl rfl rfl rfl rfl rfl rfl) rfl ?_)
  (refine nx (aLb (gN rfl) rfl rfl rfl rfl rfl rfl rfl rfl rfl rfl rfl rfl) rfl ?_)
  (refine nx (a_callOT hT (gN rfl) rfl rfl rfl rfl rfl (hs) (by repeat (first | exact trivial | refine ⟨rfl, ?_⟩)) (wst_lend _ _) (wst_leave _ _) (by first | rfl | kernel_rfl) (by first | rfl | kernel_rfl) (hnb_of (by first | rfl | kernel_rfl))) (by kernel_rfl) ?_)
  show AWp _ _ _ _ _ _ _
  refine AWp.wk (wk_sub (s' := (0, .bp 350001 0 []) :: (3, .bp 3 0 []) :: (100003, .bx (.row [.i (n : Int), .lst (l.map Tm.cv)])) :: wst nm (some (o.getD [] ++ symX nm n))) ⟨rfl, rfl, rfl, rfl, rfl, rfl, rfl, rfl, trivial⟩) ?_
  refine aS (aS (aR ?_))
  (refine nx (aF (gN rfl) rfl rfl rfl rfl rfl rfl rfl rfl rfl) rfl ?_)
  (refine nx (aLb (gN rfl) rfl rfl rfl rfl rfl rfl rfl rfl rfl rfl rfl rfl) rfl ?_)
  (refine nx (a_len (gN rfl) rfl rfl rfl rfl rfl rfl rfl) rfl ?_)
  (refine nx (a_eql (gN rfl) rfl rfl rfl rfl rfl rfl) rfl ?_)
  show AWp _ _ _ _ _ _ _
  by_cases hle : l = []
  · subst hle
    refine aC rfl (fun hc => ?_) (fun hc => by cases hc)
    have e : o.getD [] ++ (symX nm n ++ parX (([] : List Tm).map (txT nm))) = o.getD [] ++ symX nm n := by simp [parX]
    rw [e]
    exact aT ⟨.inr rfl, _, Wk.refl _, rfl, rfl, rfl, rfl, rfl, rfl, trivial⟩
  have hlpos : 0 < l.length := List.length_pos_iff.2 hle
  have hpar : parX (l.map (txT nm)) = 40 :: (joinW [44] (l.map (txT nm)) ++ [41]) := parX_ne fun e => hle (List.map_eq_nil_iff.1 e)
  have g0 : decide (((l.map Tm.cv).length : Int) = 0) = false := by rw [decide_eq_false_iff_not, hln]; omega
  rw [hpar, List.length_cons, List.length_append] at hl
  obtain ⟨b0, hb0⟩ : ∃ b0, b0 = o.getD [] ++ symX nm n := ⟨_, rfl⟩
  have hb0l : b0.length = (o.getD []).length + (symX nm n).length := by rw [hb0, List.length_append]
  obtain ⟨T, hTt⟩ : ∃ T, T = l.map (txT nm) := ⟨_, rfl⟩
  rw [← hTt] at hl
  have hl : (o.getD []).length + ((symX nm n).length + ((joinW [44] T).length + 1 + 1)) ≤ 1000000000 := hl
  have hfin : o.getD [] ++ (symX nm n ++ parX (l.map (txT nm))) = (some (b0 ++ [40] ++ joinW [44] T)).getD [] ++ [41] := by
    rw [hpar, hb0, hTt]; simp
  rw [hfin, ← hb0]
  have p1 := put_abs tb nm (some b0) [40] (by show b0.length + 1 ≤ _; omega)
  have p3 := put_abs tb nm (some (b0 ++ [40] ++ joinW [44] T)) [41] (by show (b0 ++ [40] ++ joinW [44] T).length + 1 ≤ _; simp; omega)
  refine aC rfl (fun hc => by rw [g0] at hc; cases hc) (fun hc => aK ?_)
  show AWp _ _ _ _ _ _ _
  refine aS (aR ?_)
  (refine nx (aM (gN rfl) rfl rfl rfl rfl rfl) rfl ?_)
  (refine nx (a_callOT hT (gN rfl) rfl rfl rfl rfl rfl (p1) (by repeat (first | exact trivial | refine ⟨rfl, ?_⟩)) (wst_lend _ _) (wst_leave _ _) (by first | rfl | kernel_rfl) (by first | rfl | kernel_rfl) (hnb_of (by first | rfl | kernel_rfl))) (by kernel_rfl) ?_)
  show AWp _ _ _ _ _ _ _
  refine aS (aS (aR ?_))
  (refine nx (aF (gN rfl) rfl rfl rfl rfl rfl rfl rfl rfl rfl) rfl ?_)
  (refine nx (aLb (gN rfl) rfl rfl rfl rfl rfl rfl rfl rfl rfl rfl rfl rfl) rfl ?_)
  (refine nx (a_len (gN rfl) rfl rfl rfl rfl rfl rfl rfl) rfl ?_)
  (refine nx (aM (gN rfl) rfl rfl rfl rfl rfl) rfl ?_)
  show AWp _ _ _ _ _ _ _
  refine aB (awp_count l.length (fun k => (0, .bp 350001 0 []) :: (24, .val (.lst (l.map Tm.cv))) :: (25, .val (.i ((l.map Tm.cv).length : Int))) :: (26, .val (.i (k : Int))) :: wst nm (cstO [44] T (some (b0 ++ [40])) k)) (wk_sub ⟨rfl, rfl, rfl, rfl, rfl, rfl, rfl, rfl, rfl, trivial⟩) ?_)
  intro k hk
  refine aS (aR ?_)
  (refine nx (a_lss (gN rfl) rfl rfl rfl rfl rfl rfl) rfl ?_)
  show AWp _ _ _ _ _ _ _
  refine aS (aC rfl (fun hlt => ?_) (fun hlt => ?_))
  · have hkl : k < l.length := by
      have hlt : decide ((k : Int) < ((l.map Tm.cv).length : Int)) = true := hlt
      rw [hln] at hlt
      simpa using hlt
    obtain ⟨x, hx⟩ : ∃ x, l[k]? = some x := ⟨l[k], List.getElem?_eq_getElem hkl⟩
    have hx' := Tm.map_at hx
    have hxm := List.mem_of_getElem? hx
    have hTx : T[k]? = some (txT nm x) := by rw [hTt, List.getElem?_map, hx]; rfl
    have hstep := cst_step (sep := [44]) (o := some (b0 ++ [40])) hTx
    have hlen := joinW_take_le [44] T (k + 1)
    rw [joinW_take [44] hTx, List.length_append, List.length_append] at hlen
    obtain ⟨c0, hc0⟩ : ∃ c0, c0 = cstO [44] T (some (b0 ++ [40])) k := ⟨_, rfl⟩
    have hc0l : (c0.getD []).length = b0.length + 1 + (joinW [44] (T.take k)).length := by
      rw [hc0, cst_getD, List.length_append]
      show (b0 ++ [40]).length + _ = _
      rw [List.length_append]
      rfl
    rw [← hc0] at hstep ⊢
    have q1 := putB_abs tb nm c0 [44] k (fun _ => by
      show (c0.getD []).length + 1 ≤ _
      have := joinW_take_le [44] T k
      omega)
    obtain ⟨c1, hc1⟩ : ∃ c1, c1 = if k = 0 then c0 else some (c0.getD [] ++ [44]) := ⟨_, rfl⟩
    rw [← hc1] at hstep q1
    have hc1l : (c1.getD []).length + (txT nm x).length ≤ 1000000000 := by
      rw [hc1]
      by_cases h0 : k = 0
      · have h9 : ∀ sep : By, (joinW sep (T.take k)).length = 0 := fun sep => by rw [h0]; rfl
        have h8 := h9 [44]
        have h7 := h9 [32, 124, 32]
        rw [if_pos h0] at hlen ⊢
        have h3 : ([] : By).length = 0 := rfl
        omega
      · rw [if_neg h0] at hlen ⊢
        simp at hlen ⊢
        omega
    have q2 := ih x hxm c1 (k5 x hxm) hc1l
    refine aK ?_
    show AWp _ _ _ _ _ _ _
    refine aS (aB (aS (aR ?_)))
    (refine nx (aM (gN rfl) rfl rfl rfl rfl rfl) rfl ?_)
    (refine nx (a_index (j := k) (gN rfl) rfl rfl rfl rfl rfl rfl rfl rfl rfl (hx') rfl (hsz)) rfl ?_)
    (refine nx (a_load_ad (gN rfl) rfl rfl rfl rfl rfl rfl rfl rfl rfl) rfl ?_)
    (refine nx (a_alloc (gN rfl) rfl rfl rfl rfl rfl rfl rfl rfl rfl rfl) (by kernel_rfl) ?_)
    (refine nx (aA (gN rfl) rfl rfl rfl rfl rfl) rfl ?_)
    (refine nx (aSt (gN rfl) rfl rfl rfl rfl rfl rfl rfl rfl rfl rfl) rfl ?_)
    show AWp _ _ _ _ _ _ _
    refine aS (aR ?_)
    (refine nx (aM (gN rfl) rfl rfl rfl rfl rfl) rfl ?_)
    (refine nx (aM (gN rfl) rfl rfl rfl rfl rfl) rfl ?_)
    (refine nx (a_callOT hT (gN rfl) rfl rfl rfl rfl rfl (q1) (by repeat (first | exact trivial | refine ⟨rfl, ?_⟩)) (wst_lend _ _) (wst_leave _ _) (by first | rfl | kernel_rfl) (by first | rfl | kernel_rfl) (hnb_of (by first | rfl | kernel_rfl))) (by kernel_rfl) ?_)
    show AWp _ _ _ _ _ _ _
    refine aR ?_
    (refine nx (aM (gN rfl) rfl rfl rfl rfl rfl) rfl ?_)
    (refine nx (aL (gN rfl) rfl rfl rfl rfl rfl rfl rfl rfl rfl rfl rfl rfl) rfl ?_)
    (refine nx (a_callOT hT (gN rfl) rfl rfl rfl rfl rfl (q2) (by repeat (first | exact trivial | refine ⟨rfl, ?_⟩)) (wst_lend _ _) (wst_leave _ _) (by first | rfl | kernel_rfl) (by first | rfl | kernel_rfl) (hnb_of (by first | rfl | kernel_rfl))) (by kernel_rfl) ?_)
    show AWp _ _ _ _ _ _ _
    refine aR ?_
    (refine nx (a_add (gN rfl) rfl rfl rfl rfl rfl rfl (by first | omega | (simp only [List.length_map, List.length_append, List.length_cons, List.length_nil] <;> omega) | (simp <;> omega))) rfl ?_)
    (refine nx (aM (gN rfl) rfl rfl rfl rfl rfl) rfl ?_)
    refine ⟨hkl, wk_sub ⟨rfl, rfl, rfl, rfl, ?_, rfl, rfl, ?_, ?_, trivial⟩⟩
    all_goals (rw [hstep]; rfl)
  · have hkl : k = l.length := by
      have hlt : decide ((k : Int) < ((l.map Tm.cv).length : Int)) = false := hlt
      rw [hln] at hlt
      have := of_decide_eq_false hlt
      omega
    have hend : cstO [44] T (some (b0 ++ [40])) k = some (b0 ++ [40] ++ joinW [44] T) := by
      unfold cstO
      rw [if_neg (by omega), hkl, show l.length = T.length by rw [hTt, List.length_map], List.take_length]
      rfl
    rw [hend]
    refine aE ?_
    show AWp _ _ _ _ _ _ _
    refine aR ?_
    (refine nx (aM (gN rfl) rfl rfl rfl rfl rfl) rfl ?_)
    (refine nx (a_callOT hT (gN rfl) rfl rfl rfl rfl rfl (p3) (by repeat (first | exact trivial | refine ⟨rfl, ?_⟩)) (wst_lend _ _) (wst_leave _ _) (by first | rfl | kernel_rfl) (by first | rfl | kernel_rfl) (hnb_of (by first | rfl | kernel_rfl))) (by kernel_rfl) ?_)
    exact ⟨.inl rfl, _, Wk.refl _, rfl, rfl, rfl, rfl, rfl, rfl, trivial⟩
-- 
theorem isTr_abs (W : World) (t : Tm) : AFun Tryd.prog W 55 [t.cw] (.val (.b (trB t))) := by
  have hln : (t.l.map Tm.cv).length = t.l.length := List.length_map ..
  have e : trB t = (decide (t.f = 0) && decide (((t.l.map Tm.cv).length : Int) = 0)) := by
    unfold trB
    congr 1
    rw [decide_eq_decide, hln]
    omega
  rw [e]
  refine afun_of (rs := [.b (decide (t.f = 0) && decide (((t.l.map Tm.cv).length : Int) = 0))]) Tryd.func55 Tryd.ntmps55 rfl rfl rfl rfl ?_
  intro w U hW
  refine aS (aR ?_)
  (refine nx (a_box (gN rfl) rfl rfl rfl rfl rfl) rfl ?_)
  (refine nx (aA (gN rfl) rfl rfl rfl rfl rfl) rfl ?_)
  show AWp _ _ _ _ _ _ _
  cases h : decide (t.f = 0) with
  | true =>
    refine aS (aR ?_)
    (refine nx (aF (gN rfl) rfl rfl rfl rfl rfl rfl rfl rfl rfl) rfl ?_)
    (refine nx (aLb (gN rfl) rfl rfl rfl rfl rfl rfl rfl rfl rfl rfl rfl rfl) rfl ?_)
    (refine nx (a_eql (gN rfl) rfl rfl rfl rfl rfl rfl) rfl ?_)
    (refine nx (aM (gN rfl) rfl rfl rfl rfl rfl) rfl ?_)
    (refine nx (aF (gd_on rfl rfl rfl rfl (by first | rfl | assumption | (simp; done))) rfl rfl rfl rfl rfl rfl rfl rfl rfl) rfl ?_)
    (refine nx (aLb (gd_on rfl rfl rfl rfl (by first | rfl | assumption | (simp; done))) rfl rfl rfl rfl rfl rfl rfl rfl rfl rfl rfl rfl) rfl ?_)
    (refine nx (a_len (gd_on rfl rfl rfl rfl (by first | rfl | assumption | (simp; done))) rfl rfl rfl rfl rfl rfl rfl) rfl ?_)
    (refine nx (a_eql (gd_on rfl rfl rfl rfl (by first | rfl | assumption | (simp; done))) rfl rfl rfl rfl rfl rfl) rfl ?_)
    (refine ⟨_, _, _, aPt (gN rfl) rfl rfl rfl rfl rfl ?hb rfl, rfl, ?_⟩; case hb => (first | rfl | assumption | (simp; done)))
    (refine nx (aA (gN rfl) rfl rfl rfl rfl rfl) rfl ?_)
    show AWp _ _ _ _ _ _ _
    exact aT (And.intro (.inr rfl) rfl)
  | false =>
    refine aS (aR ?_)
    (refine nx (aF (gN rfl) rfl rfl rfl rfl rfl rfl rfl rfl rfl) rfl ?_)
    (refine nx (aLb (gN rfl) rfl rfl rfl rfl rfl rfl rfl rfl rfl rfl rfl rfl) rfl ?_)
    (refine nx (a_eql (gN rfl) rfl rfl rfl rfl rfl rfl) rfl ?_)
    (refine nx (aM (gN rfl) rfl rfl rfl rfl rfl) rfl ?_)
    (refine ⟨_, _, _, a_off (go_off rfl rfl rfl rfl (by first | rfl | assumption | (simp; done) | (simp [*]; done))) rfl rfl rfl, rfl, ?_⟩)
    (refine ⟨_, _, _, a_off (go_off rfl rfl rfl rfl (by first | rfl | assumption | (simp; done) | (simp [*]; done))) rfl rfl rfl, rfl, ?_⟩)
    (refine ⟨_, _, _, a_off (go_off rfl rfl rfl rfl (by first | rfl | assumption | (simp; done) | (simp [*]; done))) rfl rfl rfl, rfl, ?_⟩)
    (refine ⟨_, _, _, a_off (go_off rfl rfl rfl rfl (by first | rfl | assumption | (simp; done) | (simp [*]; done))) rfl rfl rfl, rfl, ?_⟩)
    (refine ⟨_, _, _, aPf (gN rfl) rfl rfl rfl rfl rfl ?hb rfl, rfl, ?_⟩; case hb => (first | rfl | assumption | (simp; done)))
    (refine nx (aA (gN rfl) rfl rfl rfl rfl rfl) rfl ?_)
    show AWp _ _ _ _ _ _ _
    exact aT (And.intro (.inr rfl) rfl)
structure Lt.nk (N L : Nat) (l : Lt) : Prop where
  a : l.a.nk N L
  b : l.b.nk N L
-- 
theorem atomW_abs (tb : Option (Nat × Obj)) (N : Nat) (hI : ItoaN tb N) (nm : List By) (hnm : nm.length ≤ 1000000) (l : Lt) (o : Option By) (hk : l.nk N nm.length) (hl : (o.getD []).length + ((if l.neg then ([126] : By) else []) ++ txT nm l.a).length ≤ 1000000000) : AFunOT Tryd.prog tb 56 (wst nm o) [.bp 350001 0 [], .val l.cw] (.tup []) (wst nm (some (o.getD [] ++ ((if l.neg then ([126] : By) else []) ++ txT nm l.a)))) := by
  obtain ⟨ng, la, lb⟩ := l
  simp only at hl ⊢
  refine afunOT_of Tryd.func56 Tryd.ntmps56 rfl rfl rfl rfl rfl rfl ?_
  intro w U hU hT
  refine aS (aR ?_)
  (refine nx (a_box (gN rfl) rfl rfl rfl rfl rfl) (by kernel_rfl) ?_)
  show AWp _ _ _ _ _ _ _
  refine aS (aS (aR ?_))
  (refine nx (aF (gN rfl) rfl rfl rfl rfl rfl rfl rfl rfl rfl) rfl ?_)
  (refine nx (aLb (gN rfl) rfl rfl rfl rfl rfl rfl rfl rfl rfl rfl rfl rfl) rfl ?_)
  show AWp _ _ _ _ _ _ _
  cases ng with
  | true =>
    have hl : (o.getD []).length + ((txT nm la).length + 1) ≤ 1000000000 := hl
    have p1 := put_abs tb nm o [126] (by show _ + 1 ≤ _; omega)
    have p2 := termW_abs tb N hI nm hnm la (some (o.getD [] ++ [126])) hk.a (by simp; omega)
    have e : o.getD [] ++ ((if true = true then ([126] : By) else []) ++ txT nm la) = (some (o.getD [] ++ [126])).getD [] ++ txT nm la := by simp
    rw [e]
    refine aC rfl (fun hc => ?_) (fun hc => by cases hc)
    refine aR ?_
    (refine nx (aM (gN rfl) rfl rfl rfl rfl rfl) rfl ?_)
    (refine nx (a_callOT hT (gN rfl) rfl rfl rfl rfl rfl (p1) (by repeat (first | exact trivial | refine ⟨rfl, ?_⟩)) (wst_lend _ _) (wst_leave _ _) (by first | rfl | kernel_rfl) (by first | rfl | kernel_rfl) (hnb_of (by first | rfl | kernel_rfl))) (by kernel_rfl) ?_)
    show AWp _ _ _ _ _ _ _
    refine aR ?_
    (refine nx (aM (gN rfl) rfl rfl rfl rfl rfl) rfl ?_)
    (refine nx (aF (gN rfl) rfl rfl rfl rfl rfl rfl rfl rfl rfl) rfl ?_)
    (refine nx (aLb (gN rfl) rfl rfl rfl rfl rfl rfl rfl rfl rfl rfl rfl rfl) rfl ?_)
    (refine nx (a_callOT hT (gN rfl) rfl rfl rfl rfl rfl (p2) (by repeat (first | exact trivial | refine ⟨rfl, ?_⟩)) (wst_lend _ _) (wst_leave _ _) (by first | rfl | kernel_rfl) (by first | rfl | kernel_rfl) (hnb_of (by first | rfl | kernel_rfl))) (by kernel_rfl) ?_)
    exact ⟨.inl rfl, _, Wk.refl _, rfl, rfl, rfl, rfl, rfl, rfl, trivial⟩
  | false =>
    have hl : (o.getD []).length + (txT nm la).length ≤ 1000000000 := hl
    have p2 := termW_abs tb N hI nm hnm la o hk.a hl
    have e : o.getD [] ++ ((if false = true then ([126] : By) else []) ++ txT nm la) = o.getD [] ++ txT nm la := by simp
    rw [e]
    refine aC rfl (fun hc => by cases hc) (fun hc => aK ?_)
    show AWp _ _ _ _ _ _ _
    refine aR ?_
    (refine nx (aM (gN rfl) rfl rfl rfl rfl rfl) rfl ?_)
    (refine nx (aF (gN rfl) rfl rfl rfl rfl rfl rfl rfl rfl rfl) rfl ?_)
    (refine nx (aLb (gN rfl) rfl rfl rfl rfl rfl rfl rfl rfl rfl rfl rfl rfl) rfl ?_)
    (refine nx (a_callOT hT (gN rfl) rfl rfl rfl rfl rfl (p2) (by repeat (first | exact trivial | refine ⟨rfl, ?_⟩)) (wst_lend _ _) (wst_leave _ _) (by first | rfl | kernel_rfl) (by first | rfl | kernel_rfl) (hnb_of (by first | rfl | kernel_rfl))) (by kernel_rfl) ?_)
    exact ⟨.inl rfl, _, Wk.refl _, rfl, rfl, rfl, rfl, rfl, rfl, trivial⟩
-- 
set_option maxHeartbeats 1000000 in
theorem litW_abs (tb : Option (Nat × Obj)) (N : Nat) (hI : ItoaN tb N) (nm : List By) (hnm : nm.length ≤ 1000000) (l : Lt) (o : Option By) (hk : l.nk N nm.length) (hl : (o.getD []).length + (txL nm l).length ≤ 1000000000) : AFunOT Tryd.prog tb 39 (wst nm o) [.bp 350001 0 [], .val l.cw] (.tup []) (wst nm (some (o.getD [] ++ txL nm l))) := by
  unfold txL at hl ⊢
  have ht := fun W => isTr_abs W l.b
  cases htr : trB l.b with
  | true =>
    rw [htr] at ht
    rw [htr, if_pos rfl] at hl
    rw [if_pos rfl]
    have p1 := atomW_abs tb N hI nm hnm l o hk hl
    refine afunOT_of Tryd.func39 Tryd.ntmps39 rfl rfl rfl rfl rfl rfl ?_
    intro w U hU hT
    refine aS (aR ?_)
    (refine nx (a_box (gN rfl) rfl rfl rfl rfl rfl) (by kernel_rfl) ?_)
    show AWp _ _ _ _ _ _ _
    refine aS (aS (aR ?_))
    (refine nx (aF (gN rfl) rfl rfl rfl rfl rfl rfl rfl rfl rfl) rfl ?_)
    (refine nx (aLb (gN rfl) rfl rfl rfl rfl rfl rfl rfl rfl rfl rfl rfl rfl) rfl ?_)
    (refine nx (a_call (gN rfl) rfl rfl rfl rfl rfl (ht w)) rfl ?_)
    show AWp _ _ _ _ _ _ _
    refine aC rfl (fun hc => ?_) (fun hc => by cases hc)
    refine aS (aR ?_)
    (refine nx (aM (gN rfl) rfl rfl rfl rfl rfl) rfl ?_)
    (refine nx (aL (gN rfl) rfl rfl rfl rfl rfl rfl rfl rfl rfl rfl rfl rfl) rfl ?_)
    (refine nx (a_callOT hT (gN rfl) rfl rfl rfl rfl rfl (p1) (by repeat (first | exact trivial | refine ⟨rfl, ?_⟩)) (wst_lend _ _) (wst_leave _ _) (by first | rfl | kernel_rfl) (by first | rfl | kernel_rfl) (hnb_of (by first | rfl | kernel_rfl))) (by kernel_rfl) ?_)
    show AWp _ _ _ _ _ _ _
    exact aT ⟨.inr rfl, _, Wk.refl _, rfl, rfl, rfl, rfl, rfl, rfl, trivial⟩
  | false =>
    rw [htr] at ht
    rw [htr, if_neg (by simp)] at hl
    rw [if_neg (by simp)]
    obtain ⟨ng, la, lb⟩ := l
    simp only at hl ht ⊢
    rw [List.length_append, List.length_append] at hl
    have p1 := termW_abs tb N hI nm hnm la o hk.a (by omega)
    obtain ⟨sg, hsg⟩ : ∃ sg : By, sg = if ng then [32, 33, 61, 32] else [32, 61, 32] := ⟨_, rfl⟩
    rw [← hsg] at hl ⊢
    have p2 := put_abs tb nm (some (o.getD [] ++ txT nm la)) sg (by simp; omega)
    have p3 := termW_abs tb N hI nm hnm lb (some ((some (o.getD [] ++ txT nm la)).getD [] ++ sg)) hk.b (by simp; omega)
    have e : o.getD [] ++ (txT nm la ++ (sg ++ txT nm lb)) = (some ((some (o.getD [] ++ txT nm la)).getD [] ++ sg)).getD [] ++ txT nm lb := by simp
    rw [e]
    refine afunOT_of Tryd.func39 Tryd.ntmps39 rfl rfl rfl rfl rfl rfl ?_
    intro w U hU hT
    refine aS (aR ?_)
    (refine nx (a_box (gN rfl) rfl rfl rfl rfl rfl) (by kernel_rfl) ?_)
    show AWp _ _ _ _ _ _ _
    refine aS (aS (aR ?_))
    (refine nx (aF (gN rfl) rfl rfl rfl rfl rfl rfl rfl rfl rfl) rfl ?_)
    (refine nx (aLb (gN rfl) rfl rfl rfl rfl rfl rfl rfl rfl rfl rfl rfl rfl) rfl ?_)
    (refine nx (a_call (gN rfl) rfl rfl rfl rfl rfl (ht w)) rfl ?_)
    show AWp _ _ _ _ _ _ _
    refine aC rfl (fun hc => by cases hc) (fun hc => aK ?_)
    show AWp _ _ _ _ _ _ _
    refine aS (aR ?_)
    (refine nx (aM (gN rfl) rfl rfl rfl rfl rfl) rfl ?_)
    (refine nx (aF (gN rfl) rfl rfl rfl rfl rfl rfl rfl rfl rfl) rfl ?_)
    (refine nx (aLb (gN rfl) rfl rfl rfl rfl rfl rfl rfl rfl rfl rfl rfl rfl) rfl ?_)
    (refine nx (a_callOT hT (gN rfl) rfl rfl rfl rfl rfl (p1) (by repeat (first | exact trivial | refine ⟨rfl, ?_⟩)) (wst_lend _ _) (wst_leave _ _) (by first | rfl | kernel_rfl) (by first | rfl | kernel_rfl) (hnb_of (by first | rfl | kernel_rfl))) (by kernel_rfl) ?_)
    show AWp _ _ _ _ _ _ _
    refine aS (aS (aR ?_))
    (refine nx (aF (gN rfl) rfl rfl rfl rfl rfl rfl rfl rfl rfl) rfl ?_)
    (refine nx (aLb (gN rfl) rfl rfl rfl rfl rfl rfl rfl rfl rfl rfl rfl rfl) rfl ?_)
    show AWp _ _ _ _ _ _ _
    cases ng with
    | true =>
      subst hsg
      refine aC rfl (fun hc => ?_) (fun hc => by cases hc)
      refine aR ?_
      (refine nx (aM (gN rfl) rfl rfl rfl rfl rfl) rfl ?_)
      (refine nx (a_callOT hT (gN rfl) rfl rfl rfl rfl rfl (p2) (by repeat (first | exact trivial | refine ⟨rfl, ?_⟩)) (wst_lend _ _) (wst_leave _ _) (by first | rfl | kernel_rfl) (by first | rfl | kernel_rfl) (hnb_of (by first | rfl | kernel_rfl))) (by kernel_rfl) ?_)
      show AWp _ _ _ _ _ _ _
      refine aR ?_
      (refine nx (aM (gN rfl) rfl rfl rfl rfl rfl) rfl ?_)
      (refine nx (aF (gN rfl) rfl rfl rfl rfl rfl rfl rfl rfl rfl) rfl ?_)
      (refine nx (aLb (gN rfl) rfl rfl rfl rfl rfl rfl rfl rfl rfl rfl rfl rfl) rfl ?_)
      (refine nx (a_callOT hT (gN rfl) rfl rfl rfl rfl rfl (p3) (by repeat (first | exact trivial | refine ⟨rfl, ?_⟩)) (wst_lend _ _) (wst_leave _ _) (by first | rfl | kernel_rfl) (by first | rfl | kernel_rfl) (hnb_of (by first | rfl | kernel_rfl))) (by kernel_rfl) ?_)
      exact ⟨.inl rfl, _, Wk.refl _, rfl, rfl, rfl, rfl, rfl, rfl, trivial⟩
    | false =>
      subst hsg
      refine aC rfl (fun hc => by cases hc) (fun hc => ?_)
      refine aR ?_
      (refine nx (aM (gN rfl) rfl rfl rfl rfl rfl) rfl ?_)
      (refine nx (a_callOT hT (gN rfl) rfl rfl rfl rfl rfl (p2) (by repeat (first | exact trivial | refine ⟨rfl, ?_⟩)) (wst_lend _ _) (wst_leave _ _) (by first | rfl | kernel_rfl) (by first | rfl | kernel_rfl) (hnb_of (by first | rfl | kernel_rfl))) (by kernel_rfl) ?_)
      show AWp _ _ _ _ _ _ _
      refine aR ?_
      (refine nx (aM (gN rfl) rfl rfl rfl rfl rfl) rfl ?_)
      (refine nx (aF (gN rfl) rfl rfl rfl rfl rfl rfl rfl rfl rfl) rfl ?_)
      (refine nx (aLb (gN rfl) rfl rfl rfl rfl rfl rfl rfl rfl rfl rfl rfl rfl) rfl ?_)
      (refine nx (a_callOT hT (gN rfl) rfl rfl rfl rfl rfl (p3) (by repeat (first | exact trivial | refine ⟨rfl, ?_⟩)) (wst_lend _ _) (wst_leave _ _) (by first | rfl | kernel_rfl) (by first | rfl | kernel_rfl) (hnb_of (by first | rfl | kernel_rfl))) (by kernel_rfl) ?_)
      exact ⟨.inl rfl, _, Wk.refl _, rfl, rfl, rfl, rfl, rfl, rfl, trivial⟩
-- 
set_option maxHeartbeats 1000000 in
theorem clsW_abs (tb : Option (Nat × Obj)) (N : Nat) (hI : ItoaN tb N) (nm : List By) (hnm : nm.length ≤ 1000000) (c : List Lt) (o : Option By) (hcl : c.length ≤ 1000000) (hk : ∀ l ∈ c, l.nk N nm.length) (hl : (o.getD []).length + (txC nm c).length ≤ 1000000000) : AFunOT Tryd.prog tb 43 (wst nm o) [.bp 350001 0 [], .val (lcv c)] (.tup []) (wst nm (some (o.getD [] ++ txC nm c))) := by
  have hsz := Lt.size_all c
  have hln : (c.map Lt.cv).length = c.length := List.length_map ..
  obtain ⟨T, hTt⟩ : ∃ T, T = c.map (txL nm) := ⟨_, rfl⟩
  have hTl : T.length = c.length := by rw [hTt, List.length_map]
  refine afunOT_of Tryd.func43 Tryd.ntmps43 rfl rfl rfl rfl rfl rfl ?_
  intro w U hU hT
  refine aS (aS (aR ?_))
  (refine nx (aM (gN rfl) rfl rfl rfl rfl rfl) rfl ?_)
  (refine nx (a_len (gN rfl) rfl rfl rfl rfl rfl rfl rfl) rfl ?_)
  (refine nx (a_eql (gN rfl) rfl rfl rfl rfl rfl rfl) rfl ?_)
  show AWp _ _ _ _ _ _ _
  by_cases hc0 : c = []
  · subst hc0
    have e : txC nm [] = neverB := rfl
    rw [e] at hl ⊢
    have p1 := put_abs tb nm o neverB hl
    refine aC rfl (fun hc => ?_) (fun hc => by cases hc)
    refine aR ?_
    (refine nx (aM (gN rfl) rfl rfl rfl rfl rfl) rfl ?_)
    (refine nx (a_callOT hT (gN rfl) rfl rfl rfl rfl rfl (p1) (by repeat (first | exact trivial | refine ⟨rfl, ?_⟩)) (wst_lend _ _) (wst_leave _ _) (by first | rfl | kernel_rfl) (by first | rfl | kernel_rfl) (hnb_of (by first | rfl | kernel_rfl))) (by kernel_rfl) ?_)
    show AWp _ _ _ _ _ _ _
    refine aS (aR ?_)
    (refine nx (aM (gN rfl) rfl rfl rfl rfl rfl) rfl ?_)
    (refine nx (a_len (gN rfl) rfl rfl rfl rfl rfl rfl rfl) rfl ?_)
    (refine nx (aM (gN rfl) rfl rfl rfl rfl rfl) rfl ?_)
    show AWp _ _ _ _ _ _ _
    refine aB (awp_count 0 (fun k => (0, .bp 350001 0 []) :: (12, .val (.i 0)) :: (13, .val (.i (k : Int))) :: wst nm (some (o.getD [] ++ neverB))) (wk_sub ⟨rfl, rfl, rfl, rfl, rfl, rfl, rfl, rfl, trivial⟩) ?_)
    intro k hk
    have hk0 : k = 0 := by omega
    subst hk0
    refine aS (aR ?_)
    (refine nx (a_lss (gN rfl) rfl rfl rfl rfl rfl rfl) rfl ?_)
    show AWp _ _ _ _ _ _ _
    refine aS (aC rfl (fun hlt => by cases hlt) (fun hlt => ?_))
    refine aE ?_
    exact ⟨.inl rfl, _, Wk.refl _, rfl, rfl, rfl, rfl, rfl, rfl, trivial⟩
  have hlpos : 0 < c.length := List.length_pos_iff.2 hc0
  have g0 : decide (((c.map Lt.cv).length : Int) = 0) = false := by rw [decide_eq_false_iff_not, hln]; omega
  have e : txC nm c = joinW [32, 124, 32] T := by unfold txC; rw [if_neg hc0, hTt]
  rw [e] at hl ⊢
  refine aC rfl (fun hc => by rw [g0] at hc; cases hc) (fun hc => aK ?_)
  show AWp _ _ _ _ _ _ _
  refine aS (aR ?_)
  (refine nx (aM (gN rfl) rfl rfl rfl rfl rfl) rfl ?_)
  (refine nx (a_len (gN rfl) rfl rfl rfl rfl rfl rfl rfl) rfl ?_)
  (refine nx (aM (gN rfl) rfl rfl rfl rfl rfl) rfl ?_)
  show AWp _ _ _ _ _ _ _
  refine aB (awp_count c.length (fun k => (0, .bp 350001 0 []) :: (11, .val (.lst (c.map Lt.cv))) :: (12, .val (.i ((c.map Lt.cv).length : Int))) :: (13, .val (.i (k : Int))) :: wst nm (cstO [32, 124, 32] T o k)) (wk_sub ⟨rfl, rfl, rfl, rfl, rfl, rfl, rfl, rfl, rfl, trivial⟩) ?_)
  intro k hk1
  refine aS (aR ?_)
  (refine nx (a_lss (gN rfl) rfl rfl rfl rfl rfl rfl) rfl ?_)
  show AWp _ _ _ _ _ _ _
  refine aS (aC rfl (fun hlt => ?_) (fun hlt => ?_))
  · have hkl : k < c.length := by
      have hlt : decide ((k : Int) < ((c.map Lt.cv).length : Int)) = true := hlt
      rw [hln] at hlt
      simpa using hlt
    obtain ⟨x, hx⟩ : ∃ x, c[k]? = some x := ⟨c[k], List.getElem?_eq_getElem hkl⟩
    have hx' := Lt.map_at hx
    have hxm := List.mem_of_getElem? hx
    have hTx : T[k]? = some (txL nm x) := by rw [hTt, List.getElem?_map, hx]; rfl
    have hstep := cst_step (sep := [32, 124, 32]) (o := o) hTx
    have hlen := joinW_take_le [32, 124, 32] T (k + 1)
    rw [joinW_take [32, 124, 32] hTx, List.length_append, List.length_append] at hlen
    obtain ⟨c0, hc0'⟩ : ∃ c0, c0 = cstO [32, 124, 32] T o k := ⟨_, rfl⟩
    have hc0l : (c0.getD []).length = (o.getD []).length + (joinW [32, 124, 32] (T.take k)).length := by rw [hc0', cst_getD, List.length_append]
    rw [← hc0'] at hstep ⊢
    have q1 := putB_abs tb nm c0 [32, 124, 32] k (fun h0 => by
      show (c0.getD []).length + 3 ≤ _
      rw [if_neg h0] at hlen
      have h3 : ([32, 124, 32] : By).length = 3 := rfl
      omega)
    obtain ⟨c1, hc1⟩ : ∃ c1, c1 = if k = 0 then c0 else some (c0.getD [] ++ [32, 124, 32]) := ⟨_, rfl⟩
    rw [← hc1] at hstep q1
    have hc1l : (c1.getD []).length + (txL nm x).length ≤ 1000000000 := by
      rw [hc1]
      by_cases h0 : k = 0
      · have h9 : ∀ sep : By, (joinW sep (T.take k)).length = 0 := fun sep => by rw [h0]; rfl
        have h8 := h9 [44]
        have h7 := h9 [32, 124, 32]
        rw [if_pos h0] at hlen ⊢
        have h3 : ([] : By).length = 0 := rfl
        omega
      · rw [if_neg h0] at hlen ⊢
        simp at hlen ⊢
        omega
    have q2 := litW_abs tb N hI nm hnm x c1 (hk x hxm) hc1l
    refine aK ?_
    show AWp _ _ _ _ _ _ _
    refine aS (aB (aS (aR ?_)))
    (refine nx (aM (gN rfl) rfl rfl rfl rfl rfl) rfl ?_)
    (refine nx (a_index (j := k) (gN rfl) rfl rfl rfl rfl rfl rfl rfl rfl rfl (hx') rfl (hsz)) rfl ?_)
    (refine nx (a_load_ad (gN rfl) rfl rfl rfl rfl rfl rfl rfl rfl rfl) rfl ?_)
    (refine nx (a_allocT [.b false, .row [.i 0, .lst []], .row [.i 0, .lst []]] (gN rfl) rfl rfl rfl rfl rfl rfl rfl) (by kernel_rfl) ?_)
    (refine nx (aA (gN rfl) rfl rfl rfl rfl rfl) rfl ?_)
    (refine nx (aSt (gN rfl) rfl rfl rfl rfl rfl rfl rfl rfl rfl rfl) rfl ?_)
    show AWp _ _ _ _ _ _ _
    refine aS (aR ?_)
    (refine nx (aM (gN rfl) rfl rfl rfl rfl rfl) rfl ?_)
    (refine nx (aM (gN rfl) rfl rfl rfl rfl rfl) rfl ?_)
    (refine nx (a_callOT hT (gN rfl) rfl rfl rfl rfl rfl (q1) (by repeat (first | exact trivial | refine ⟨rfl, ?_⟩)) (wst_lend _ _) (wst_leave _ _) (by first | rfl | kernel_rfl) (by first | rfl | kernel_rfl) (hnb_of (by first | rfl | kernel_rfl))) (by kernel_rfl) ?_)
    show AWp _ _ _ _ _ _ _
    refine aR ?_
    (refine nx (aM (gN rfl) rfl rfl rfl rfl rfl) rfl ?_)
    (refine nx (aL (gN rfl) rfl rfl rfl rfl rfl rfl rfl rfl rfl rfl rfl rfl) rfl ?_)
    (refine nx (a_callOT hT (gN rfl) rfl rfl rfl rfl rfl (q2) (by repeat (first | exact trivial | refine ⟨rfl, ?_⟩)) (wst_lend _ _) (wst_leave _ _) (by first | rfl | kernel_rfl) (by first | rfl | kernel_rfl) (hnb_of (by first | rfl | kernel_rfl))) (by kernel_rfl) ?_)
    show AWp _ _ _ _ _ _ _
    refine aR ?_
    (refine nx (a_add (gN rfl) rfl rfl rfl rfl rfl rfl (by first | omega | (simp only [List.length_map, List.length_append, List.length_cons, List.length_nil] <;> omega) | (simp <;> omega))) rfl ?_)
    (refine nx (aM (gN rfl) rfl rfl rfl rfl rfl) rfl ?_)
    refine ⟨hkl, wk_sub ⟨rfl, rfl, rfl, rfl, ?_, rfl, rfl, ?_, ?_, trivial⟩⟩
    all_goals (rw [hstep]; rfl)
  · have hkl : k = c.length := by
      have hlt : decide ((k : Int) < ((c.map Lt.cv).length : Int)) = false := hlt
      rw [hln] at hlt
      have := of_decide_eq_false hlt
      omega
    have hend : cstO [32, 124, 32] T o k = some (o.getD [] ++ joinW [32, 124, 32] T) := by
      unfold cstO
      rw [if_neg (by omega), hkl, ← hTl, List.take_length]
    rw [hend]
    refine aE ?_
    exact ⟨.inl rfl, _, Wk.refl _, rfl, rfl, rfl, rfl, rfl, rfl, trivial⟩
end Go.Proofs.YtebhbnhijnpmcaaDoor

-- @STR@
namespace Go.Proofs.YtebhbnhijnpmcaaDoor
open Go.RowKit
set_option linter.unusedVariables false
set_option linter.unusedSimpArgs false
set_option maxRecDepth 100000

theorem wsE_leave (nm : List By) (o : Option By) : (wsE nm o).all (leaveB (kO (wsE nm o))) = true := by kernel_rfl
-- 
set_option maxHeartbeats 1000000 in
theorem prTerm_abs (tb : Option (Nat × Obj)) (N : Nat) (hI : ItoaN tb N) (s : Sg) (hnm : s.nm.length ≤ 1000000) (t : Tm) (hk : t.nk N s.nm.length) (hl : (txT s.nm t).length ≤ 1000000000) : AFunT Tryd.prog tb 24 [sgv s, t.cw] (.val (sv (txT s.nm t))) := by
  have p1 := termW_abs tb N hI s.nm hnm t none hk (by simpa using hl)
  have p2 := str_abs tb s.nm (some ((none : Option By).getD [] ++ txT s.nm t))
  refine afunQ_of (rs := [sv (txT s.nm t)]) Tryd.func24 Tryd.ntmps24 rfl rfl rfl rfl ?_
  intro w U hW hq
  have hT := Tb.of hW hq
  refine aS (aR ?_)
  (refine nx (a_box (gN rfl) rfl rfl rfl rfl rfl) rfl ?_)
  (refine nx (a_box (gN rfl) rfl rfl rfl rfl rfl) rfl ?_)
  (refine nx (aA (gN rfl) rfl rfl rfl rfl rfl) rfl ?_)
  show AWp _ _ _ _ _ _ _
  refine aS (aR ?_)
  (refine nx (aF (gN rfl) rfl rfl rfl rfl rfl rfl rfl rfl rfl) rfl ?_)
  (refine nx (aLb (gN rfl) rfl rfl rfl rfl rfl rfl rfl rfl rfl rfl rfl rfl) rfl ?_)
  (refine nx (a_buildW (gN rfl) rfl rfl rfl rfl rfl rfl rfl rfl rfl) rfl ?_)
  (refine nx (a_allocW (gN rfl) rfl rfl rfl rfl rfl rfl (fun v h => by first | (rw [hW.1] at h; cases h) | (have h2 := hU _ v h; cases h2))) rfl ?_)
  (refine nx (a_storeW (gN rfl) rfl rfl rfl rfl rfl rfl rfl rfl) rfl ?_)
  show AWp _ _ _ _ _ _ _
  refine AWp.wk (wk_sub (s' := (5, .bp 350001 0 []) :: (3, .bp 3 0 []) :: (100003, .bx t.cw) :: wst s.nm none) ⟨rfl, rfl, rfl, rfl, rfl, rfl, rfl, rfl, trivial⟩) ?_
  refine aS (aR ?_)
  (refine nx (aL (gN rfl) rfl rfl rfl rfl rfl rfl rfl rfl rfl rfl rfl rfl) rfl ?_)
  (refine nx (a_callOT hT (gN rfl) rfl rfl rfl rfl rfl (p1) (by repeat (first | exact trivial | refine ⟨rfl, ?_⟩)) (wst_lend _ _) (wst_leave _ _) (by first | rfl | kernel_rfl) (by first | rfl | kernel_rfl) (hnb_of (by first | rfl | kernel_rfl))) (by kernel_rfl) ?_)
  show AWp _ _ _ _ _ _ _
  refine aS (aR ?_)
  (refine nx (aF (gN rfl) rfl rfl rfl rfl rfl rfl rfl rfl rfl) rfl ?_)
  (refine nx (a_callOT hT (gN rfl) rfl rfl rfl rfl rfl (p2) (by repeat (first | exact trivial | refine ⟨rfl, ?_⟩)) (wst_lend _ _) (wsE_leave _ _) (by first | rfl | kernel_rfl) (by first | rfl | kernel_rfl) (hnb_of (by first | rfl | kernel_rfl))) (by kernel_rfl) ?_)
  (refine nx (aA (gN rfl) rfl rfl rfl rfl rfl) rfl ?_)
  show AWp _ _ _ _ _ _ _
  exact aT (And.intro (.inr rfl) rfl)
-- 
set_option maxHeartbeats 1000000 in
theorem prLit_abs (tb : Option (Nat × Obj)) (N : Nat) (hI : ItoaN tb N) (s : Sg) (hnm : s.nm.length ≤ 1000000) (t : Lt) (hk : t.nk N s.nm.length) (hl : (txL s.nm t).length ≤ 1000000000) : AFunT Tryd.prog tb 21 [sgv s, t.cw] (.val (sv (txL s.nm t))) := by
  have p1 := litW_abs tb N hI s.nm hnm t none hk (by simpa using hl)
  have p2 := str_abs tb s.nm (some ((none : Option By).getD [] ++ txL s.nm t))
  refine afunQ_of (rs := [sv (txL s.nm t)]) Tryd.func21 Tryd.ntmps21 rfl rfl rfl rfl ?_
  intro w U hW hq
  have hT := Tb.of hW hq
  refine aS (aR ?_)
  (refine nx (a_box (gN rfl) rfl rfl rfl rfl rfl) rfl ?_)
  (refine nx (a_box (gN rfl) rfl rfl rfl rfl rfl) rfl ?_)
  (refine nx (aA (gN rfl) rfl rfl rfl rfl rfl) rfl ?_)
  show AWp _ _ _ _ _ _ _
  refine aS (aR ?_)
  (refine nx (aF (gN rfl) rfl rfl rfl rfl rfl rfl rfl rfl rfl) rfl ?_)
  (refine nx (aLb (gN rfl) rfl rfl rfl rfl rfl rfl rfl rfl rfl rfl rfl rfl) rfl ?_)
  (refine nx (a_buildW (gN rfl) rfl rfl rfl rfl rfl rfl rfl rfl rfl) rfl ?_)
  (refine nx (a_allocW (gN rfl) rfl rfl rfl rfl rfl rfl (fun v h => by first | (rw [hW.1] at h; cases h) | (have h2 := hU _ v h; cases h2))) rfl ?_)
  (refine nx (a_storeW (gN rfl) rfl rfl rfl rfl rfl rfl rfl rfl) rfl ?_)
  show AWp _ _ _ _ _ _ _
  refine AWp.wk (wk_sub (s' := (5, .bp 350001 0 []) :: (3, .bp 3 0 []) :: (100003, .bx t.cw) :: wst s.nm none) ⟨rfl, rfl, rfl, rfl, rfl, rfl, rfl, rfl, trivial⟩) ?_
  refine aS (aR ?_)
  (refine nx (aL (gN rfl) rfl rfl rfl rfl rfl rfl rfl rfl rfl rfl rfl rfl) rfl ?_)
  (refine nx (a_callOT hT (gN rfl) rfl rfl rfl rfl rfl (p1) (by repeat (first | exact trivial | refine ⟨rfl, ?_⟩)) (wst_lend _ _) (wst_leave _ _) (by first | rfl | kernel_rfl) (by first | rfl | kernel_rfl) (hnb_of (by first | rfl | kernel_rfl))) (by kernel_rfl) ?_)
  show AWp _ _ _ _ _ _ _
  refine aS (aR ?_)
  (refine nx (aF (gN rfl) rfl rfl rfl rfl rfl rfl rfl rfl rfl) rfl ?_)
  (refine nx (a_callOT hT (gN rfl) rfl rfl rfl rfl rfl (p2) (by repeat (first | exact trivial | refine ⟨rfl, ?_⟩)) (wst_lend _ _) (wsE_leave _ _) (by first | rfl | kernel_rfl) (by first | rfl | kernel_rfl) (hnb_of (by first | rfl | kernel_rfl))) (by kernel_rfl) ?_)
  (refine nx (aA (gN rfl) rfl rfl rfl rfl rfl) rfl ?_)
  show AWp _ _ _ _ _ _ _
  exact aT (And.intro (.inr rfl) rfl)
-- 
set_option maxHeartbeats 1000000 in
theorem prCls_abs (tb : Option (Nat × Obj)) (N : Nat) (hI : ItoaN tb N) (s : Sg) (hnm : s.nm.length ≤ 1000000) (c : List Lt) (hcl : c.length ≤ 1000000) (hk : ∀ l ∈ c, l.nk N s.nm.length) (hl : (txC s.nm c).length ≤ 1000000000) : AFunT Tryd.prog tb 27 [sgv s, lcv c] (.val (sv (txC s.nm c))) := by
  have p1 := clsW_abs tb N hI s.nm hnm c none hcl hk (by simpa using hl)
  have p2 := str_abs tb s.nm (some ((none : Option By).getD [] ++ txC s.nm c))
  refine afunQ_of (rs := [sv (txC s.nm c)]) Tryd.func27 Tryd.ntmps27 rfl rfl rfl rfl ?_
  intro w U hW hq
  have hT := Tb.of hW hq
  refine aS (aR ?_)
  (refine nx (a_box (gN rfl) rfl rfl rfl rfl rfl) rfl ?_)
  (refine nx (aA (gN rfl) rfl rfl rfl rfl rfl) rfl ?_)
  show AWp _ _ _ _ _ _ _
  refine aS (aR ?_)
  (refine nx (aF (gN rfl) rfl rfl rfl rfl rfl rfl rfl rfl rfl) rfl ?_)
  (refine nx (aLb (gN rfl) rfl rfl rfl rfl rfl rfl rfl rfl rfl rfl rfl rfl) rfl ?_)
  (refine nx (a_buildW (gN rfl) rfl rfl rfl rfl rfl rfl rfl rfl rfl) rfl ?_)
  (refine nx (a_allocW (gN rfl) rfl rfl rfl rfl rfl rfl (fun v h => by first | (rw [hW.1] at h; cases h) | (have h2 := hU _ v h; cases h2))) rfl ?_)
  (refine nx (a_storeW (gN rfl) rfl rfl rfl rfl rfl rfl rfl rfl) rfl ?_)
  show AWp _ _ _ _ _ _ _
  refine AWp.wk (wk_sub (s' := (5, .bp 350001 0 []) :: (1, .val (lcv c)) :: wst s.nm none) ⟨rfl, rfl, rfl, rfl, rfl, rfl, rfl, trivial⟩) ?_
  refine aS (aR ?_)
  (refine nx (aM (gN rfl) rfl rfl rfl rfl rfl) rfl ?_)
  (refine nx (a_callOT hT (gN rfl) rfl rfl rfl rfl rfl (p1) (by repeat (first | exact trivial | refine ⟨rfl, ?_⟩)) (wst_lend _ _) (wst_leave _ _) (by first | rfl | kernel_rfl) (by first | rfl | kernel_rfl) (hnb_of (by first | rfl | kernel_rfl))) (by kernel_rfl) ?_)
  show AWp _ _ _ _ _ _ _
  refine aS (aR ?_)
  (refine nx (aF (gN rfl) rfl rfl rfl rfl rfl rfl rfl rfl rfl) rfl ?_)
  (refine nx (a_callOT hT (gN rfl) rfl rfl rfl rfl rfl (p2) (by repeat (first | exact trivial | refine ⟨rfl, ?_⟩)) (wst_lend _ _) (wsE_leave _ _) (by first | rfl | kernel_rfl) (by first | rfl | kernel_rfl) (hnb_of (by first | rfl | kernel_rfl))) (by kernel_rfl) ?_)
  (refine nx (aA (gN rfl) rfl rfl rfl rfl rfl) rfl ?_)
  show AWp _ _ _ _ _ _ _
  exact aT (And.intro (.inr rfl) rfl)
def allO (nm : List By) (l : List (List Lt)) (k : Nat) : Option By := if k = 0 then none else some (txA nm (l.take k))
theorem allO_getD (nm : List By) (l : List (List Lt)) (k : Nat) : (allO nm l k).getD [] = txA nm (l.take k) := by
  unfold allO
  split
  · rename_i e; subst e; rfl
  · rfl
theorem txA_take {nm : List By} {l : List (List Lt)} {k : Nat} {c : List Lt} (h : l[k]? = some c) : txA nm (l.take (k + 1)) = txA nm (l.take k) ++ txC nm c ++ [46, 10] := by
  unfold txA
  rw [List.take_add_one, h, List.flatMap_append]
  simp
theorem txA_take_le (nm : List By) (l : List (List Lt)) (k : Nat) : (txA nm (l.take k)).length ≤ (txA nm l).length := by
  have h : txA nm l = txA nm (l.take k) ++ txA nm (l.drop k) := by unfold txA; rw [← List.flatMap_append, List.take_append_drop]
  rw [h, List.length_append]
  omega
theorem lcvs_size (l : List (List Lt)) : ∀ c ∈ l.map lcv, c.size = 1 := by
  intro c hc
  obtain ⟨t, _, rfl⟩ := List.mem_map.1 hc
  rfl
theorem lcv_at {l : List (List Lt)} {i : Nat} {t : List Lt} (h : l[i]? = some t) : (l.map lcv)[i]? = some (lcv t) := by rw [List.getElem?_map, h]; rfl
-- 
set_option maxHeartbeats 1000000 in
theorem prAll_abs (tb : Option (Nat × Obj)) (N : Nat) (hI : ItoaN tb N) (s : Sg) (hnm : s.nm.length ≤ 1000000) (l : List (List Lt)) (hll : l.length ≤ 1000000) (hcl : ∀ c ∈ l, c.length ≤ 1000000 ∧ ∀ x ∈ c, x.nk N s.nm.length) (hl : (txA s.nm l).length ≤ 1000000000) : AFunT Tryd.prog tb 28 [sgv s, .lst (l.map lcv)] (.val (sv (txA s.nm l))) := by
  have hsz := lcvs_size l
  have hln : (l.map lcv).length = l.length := List.length_map ..
  refine afunQ_of (rs := [sv (txA s.nm l)]) Tryd.func28 Tryd.ntmps28 rfl rfl rfl rfl ?_
  intro w U hW hq
  have hT := Tb.of hW hq
  refine aS (aR ?_)
  (refine nx (a_box (gN rfl) rfl rfl rfl rfl rfl) rfl ?_)
  (refine nx (aA (gN rfl) rfl rfl rfl rfl rfl) rfl ?_)
  show AWp _ _ _ _ _ _ _
  refine aS (aR ?_)
  (refine nx (aF (gN rfl) rfl rfl rfl rfl rfl rfl rfl rfl rfl) rfl ?_)
  (refine nx (aLb (gN rfl) rfl rfl rfl rfl rfl rfl rfl rfl rfl rfl rfl rfl) rfl ?_)
  (refine nx (a_buildW (gN rfl) rfl rfl rfl rfl rfl rfl rfl rfl rfl) rfl ?_)
  (refine nx (a_allocW (gN rfl) rfl rfl rfl rfl rfl rfl (fun v h => by first | (rw [hW.1] at h; cases h) | (have h2 := hU _ v h; cases h2))) rfl ?_)
  (refine nx (a_storeW (gN rfl) rfl rfl rfl rfl rfl rfl rfl rfl) rfl ?_)
  show AWp _ _ _ _ _ _ _
  refine AWp.wk (wk_sub (s' := (5, .bp 350001 0 []) :: (1, .val (.lst (l.map lcv))) :: wst s.nm none) ⟨rfl, rfl, rfl, rfl, rfl, rfl, rfl, trivial⟩) ?_
  refine aS (aS (aR ?_))
  (refine nx (aM (gN rfl) rfl rfl rfl rfl rfl) rfl ?_)
  (refine nx (a_len (gN rfl) rfl rfl rfl rfl rfl rfl rfl) rfl ?_)
  (refine nx (aM (gN rfl) rfl rfl rfl rfl rfl) rfl ?_)
  show AWp _ _ _ _ _ _ _
  refine aB (awp_count l.length (fun k => (5, .bp 350001 0 []) :: (11, .val (.lst (l.map lcv))) :: (12, .val (.i ((l.map lcv).length : Int))) :: (13, .val (.i (k : Int))) :: wst s.nm (allO s.nm l k)) (wk_sub ⟨rfl, rfl, rfl, rfl, rfl, rfl, rfl, rfl, rfl, trivial⟩) ?_)
  intro k hk1
  refine aS (aR ?_)
  (refine nx (a_lss (gN rfl) rfl rfl rfl rfl rfl rfl) rfl ?_)
  show AWp _ _ _ _ _ _ _
  refine aS (aC rfl (fun hlt => ?_) (fun hlt => ?_))
  · have hkl : k < l.length := by
      have hlt : decide ((k : Int) < ((l.map lcv).length : Int)) = true := hlt
      rw [hln] at hlt
      simpa using hlt
    obtain ⟨x, hx⟩ : ∃ x, l[k]? = some x := ⟨l[k], List.getElem?_eq_getElem hkl⟩
    have hx' := lcv_at hx
    have hxm := List.mem_of_getElem? hx
    have hlen := txA_take_le s.nm l (k + 1)
    have htk := txA_take (nm := s.nm) hx
    rw [htk, List.length_append, List.length_append] at hlen
    have h2 : ([46, 10] : By).length = 2 := rfl
    obtain ⟨c0, hc0⟩ : ∃ c0, c0 = allO s.nm l k := ⟨_, rfl⟩
    have hc0g : c0.getD [] = txA s.nm (l.take k) := by rw [hc0, allO_getD]
    rw [← hc0]
    have q1 := clsW_abs tb N hI s.nm hnm x c0 (hcl x hxm).1 (hcl x hxm).2 (by rw [hc0g]; omega)
    have q2 := put_abs tb s.nm (some (c0.getD [] ++ txC s.nm x)) [46, 10] (by
      show (c0.getD [] ++ txC s.nm x).length + 2 ≤ _
      rw [List.length_append, hc0g]; omega)
    have hstep : allO s.nm l (k + 1) = some ((some (c0.getD [] ++ txC s.nm x)).getD [] ++ [46, 10]) := by
      unfold allO
      rw [if_neg (by omega), htk, hc0g]
      rfl
    refine aK ?_
    show AWp _ _ _ _ _ _ _
    refine aS (aB (aS (aR ?_)))
    (refine nx (a_index (j := k) (gN rfl) rfl rfl rfl rfl rfl rfl rfl rfl rfl (hx') rfl (hsz)) rfl ?_)
    (refine nx (a_load_ad (gN rfl) rfl rfl rfl rfl rfl rfl rfl rfl rfl) rfl ?_)
    (refine nx (aA (gN rfl) rfl rfl rfl rfl rfl) rfl ?_)
    show AWp _ _ _ _ _ _ _
    refine aS (aR ?_)
    (refine nx (aM (gN rfl) rfl rfl rfl rfl rfl) rfl ?_)
    (refine nx (a_callOT hT (gN rfl) rfl rfl rfl rfl rfl (q1) (by repeat (first | exact trivial | refine ⟨rfl, ?_⟩)) (wst_lend _ _) (wst_leave _ _) (by first | rfl | kernel_rfl) (by first | rfl | kernel_rfl) (hnb_of (by first | rfl | kernel_rfl))) (by kernel_rfl) ?_)
    show AWp _ _ _ _ _ _ _
    refine aR ?_
    (refine nx (a_callOT hT (gN rfl) rfl rfl rfl rfl rfl (q2) (by repeat (first | exact trivial | refine ⟨rfl, ?_⟩)) (wst_lend _ _) (wst_leave _ _) (by first | rfl | kernel_rfl) (by first | rfl | kernel_rfl) (hnb_of (by first | rfl | kernel_rfl))) (by kernel_rfl) ?_)
    show AWp _ _ _ _ _ _ _
    refine aR ?_
    (refine nx (a_add (gN rfl) rfl rfl rfl rfl rfl rfl (by first | omega | (simp only [List.length_map, List.length_append, List.length_cons, List.length_nil] <;> omega) | (simp <;> omega))) rfl ?_)
    (refine nx (aM (gN rfl) rfl rfl rfl rfl rfl) rfl ?_)
    refine ⟨hkl, wk_sub ⟨rfl, rfl, rfl, rfl, ?_, rfl, rfl, ?_, ?_, trivial⟩⟩
    all_goals (rw [hstep]; rfl)
  · have hkl : k = l.length := by
      have hlt : decide ((k : Int) < ((l.map lcv).length : Int)) = false := hlt
      rw [hln] at hlt
      have := of_decide_eq_false hlt
      omega
    have hend : (allO s.nm l k).getD [] = txA s.nm l := by rw [allO_getD, hkl, List.take_length]
    have p2 := str_abs tb s.nm (allO s.nm l k)
    rw [hend] at p2
    refine aE ?_
    show AWp _ _ _ _ _ _ _
    refine aS (aR ?_)
    (refine nx (aF (gN rfl) rfl rfl rfl rfl rfl rfl rfl rfl rfl) rfl ?_)
    (refine nx (a_callOT hT (gN rfl) rfl rfl rfl rfl rfl (p2) (by repeat (first | exact trivial | refine ⟨rfl, ?_⟩)) (wst_lend _ _) (wsE_leave _ _) (by first | rfl | kernel_rfl) (by first | rfl | kernel_rfl) (hnb_of (by first | rfl | kernel_rfl))) (by kernel_rfl) ?_)
    (refine nx (aA (gN rfl) rfl rfl rfl rfl rfl) rfl ?_)
    show AWp _ _ _ _ _ _ _
    exact aT (And.intro (.inr rfl) rfl)
end Go.Proofs.YtebhbnhijnpmcaaDoor

-- @STR@
namespace Go.Proofs.YtebhbnhijnpmcaaDoor
open Go.RowKit
set_option linter.unusedVariables false
set_option linter.unusedSimpArgs false
set_option maxRecDepth 100000

theorem dec_le : ∀ (n : Nat), (Lib.decDigits n).length ≤ n + 1 := by
  intro n
  induction n using Nat.strongRecOn with
  | ind n ih =>
    rw [Lib.decDigits]
    split
    · simp
    · rw [List.length_append]
      have := ih (n / 10) (by omega)
      simp
      omega
-- 
set_option maxHeartbeats 1000000 in
theorem digits_abs (W : World) : ∀ (n : Nat), n ≤ 1000000 → AFun Tryd.prog W 42 [.i (n : Int)] (.val (sv (Lib.decDigits n))) := by
  intro n
  induction n using Nat.strongRecOn with
  | ind n ih =>
  intro hn
  by_cases h : n < 10
  · have e : Lib.decDigits n = [UInt8.ofNat ((48 + (n : Int)).toNat)] := by
      rw [Lib.decDigits_one h, show (48 + (n : Int)).toNat = 48 + n by omega]
    rw [e]
    have hw : IntKind.u8.wrap (48 + (n : Int)) = 48 + (n : Int) := by rw [IntKind.wrap_u8]; omega
    refine afun_of (rs := [sv [UInt8.ofNat ((48 + (n : Int)).toNat)]]) Tryd.func42 Tryd.ntmps42 rfl rfl rfl rfl ?_
    intro w U hW
    refine aS (aR ?_)
    (refine nx (aA (gN rfl) rfl rfl rfl rfl rfl) rfl ?_)
    show AWp _ _ _ _ _ _ _
    refine aS (aS (aR ?_))
    (refine nx (aM (gN rfl) rfl rfl rfl rfl rfl) rfl ?_)
    (refine nx (a_gtr (gN rfl) rfl rfl rfl rfl rfl rfl) rfl ?_)
    show AWp _ _ _ _ _ _ _
    refine aC rfl (fun hc => by have hc : decide ((n : Int) > 9) = true := hc; have := of_decide_eq_true hc; omega) (fun hc => aK ?_)
    show AWp _ _ _ _ _ _ _
    refine aS (aR ?_)
    (refine nx (aM (gN rfl) rfl rfl rfl rfl rfl) rfl ?_)
    (refine nx (a_add (gN rfl) rfl rfl rfl rfl rfl rfl (by first | omega | (simp only [List.length_map, List.length_append, List.length_cons, List.length_nil] <;> omega) | (simp <;> omega))) rfl ?_)
    (refine nx (a_conv (gN rfl) rfl rfl rfl rfl rfl rfl rfl (by first | rfl | (rw [IntKind.wrap_i64]; omega) | assumption)) rfl ?_)
    (refine nx (a_bslice (gN rfl) rfl rfl rfl rfl rfl rfl rfl rfl rfl rfl rfl rfl rfl) rfl ?_)
    (refine nx (a_bstr (gN rfl) rfl rfl rfl rfl rfl rfl rfl rfl) rfl ?_)
    (refine nx (aA (gN rfl) rfl rfl rfl rfl rfl) rfl ?_)
    show AWp _ _ _ _ _ _ _
    exact aT (And.intro (.inr rfl) rfl)
  · have e : Lib.decDigits n = Lib.decDigits (n / 10) ++ Lib.decDigits (n % 10) := by
      rw [Lib.decDigits, dif_neg h, Lib.decDigits_one (show n % 10 < 10 by omega)]
    rw [e]
    have e1 : (n : Int).tdiv 10 = ((n / 10 : Nat) : Int) := by rw [Int.tdiv_eq_ediv_of_nonneg (by omega)]; omega
    have e2 : (n : Int).tmod 10 = ((n % 10 : Nat) : Int) := by rw [Int.tmod_eq_emod_of_nonneg (by omega)]; omega
    have p1 := ih (n / 10) (by omega) (by omega)
    have p2 := ih (n % 10) (by omega) (by omega)
    rw [← e1] at p1
    rw [← e2] at p2
    have hw : IntKind.i64.wrap ((n : Int).tdiv 10) = (n : Int).tdiv 10 := by rw [IntKind.wrap_i64, e1]; omega
    have l1 := dec_le (n / 10)
    have l2 := dec_le (n % 10)
    refine afun_of (rs := [sv (Lib.decDigits (n / 10) ++ Lib.decDigits (n % 10))]) Tryd.func42 Tryd.ntmps42 rfl rfl rfl rfl ?_
    intro w U hW
    refine aS (aR ?_)
    (refine nx (aA (gN rfl) rfl rfl rfl rfl rfl) rfl ?_)
    show AWp _ _ _ _ _ _ _
    refine aS (aS (aR ?_))
    (refine nx (aM (gN rfl) rfl rfl rfl rfl rfl) rfl ?_)
    (refine nx (a_gtr (gN rfl) rfl rfl rfl rfl rfl rfl) rfl ?_)
    show AWp _ _ _ _ _ _ _
    refine aC rfl (fun hc => ?_) (fun hc => by have hc : decide ((n : Int) > 9) = false := hc; have := of_decide_eq_false hc; omega)
    refine aS (aR ?_)
    (refine nx (aM (gN rfl) rfl rfl rfl rfl rfl) rfl ?_)
    (refine nx (a_quo (gN rfl) rfl rfl rfl rfl rfl rfl (by first | decide | assumption) (by assumption)) rfl ?_)
    (refine nx (a_call (gN rfl) rfl rfl rfl rfl rfl (p1.up hW)) rfl ?_)
    (refine nx (aM (gN rfl) rfl rfl rfl rfl rfl) rfl ?_)
    (refine nx (a_rem (gN rfl) rfl rfl rfl rfl rfl rfl (by first | decide | assumption)) rfl ?_)
    (refine nx (a_call (gN rfl) rfl rfl rfl rfl rfl (p2.up hW)) rfl ?_)
    (refine nx (a_sadd (gN rfl) rfl rfl rfl rfl rfl rfl (by first | omega | (simp only [List.length_map, List.length_append, List.length_cons, List.length_nil] <;> omega) | (simp <;> omega))) rfl ?_)
    (refine nx (aA (gN rfl) rfl rfl rfl rfl rfl) rfl ?_)
    show AWp _ _ _ _ _ _ _
    exact aT (And.intro (.inr rfl) rfl)

def pX (T : List By) (k : Nat) : By := if k = 0 then [] else 40 :: joinW [44] (T.take k)
theorem pX_step {T : List By} {k : Nat} {y : By} (h : T[k]? = some y) : pX T (k + 1) = pX T k ++ (if k = 0 then [40] else [44]) ++ y := by
  unfold pX
  rw [if_neg (by omega), joinW_take [44] h]
  by_cases h0 : k = 0
  · subst h0; simp [joinW]
  · rw [if_neg h0, if_neg h0, if_neg h0]; simp
theorem pX_end (T : List By) : parX T = pX T T.length ++ (if T = [] then [] else [41]) := by
  by_cases h : T = []
  · subst h; simp [pX, parX]
  · rw [parX_ne h, if_neg h]
    unfold pX
    rw [if_neg (by have := List.length_pos_iff.2 h; omega), List.take_length]
    simp
theorem pX_le (T : List By) {k : Nat} (hk : k ≤ T.length) : (pX T k).length ≤ (pX T T.length).length := by
  unfold pX
  by_cases h0 : k = 0
  · rw [if_pos h0]; simp
  · rw [if_neg h0, if_neg (by omega), List.take_length]
    have := joinW_take_le [44] T k
    simp
    omega
theorem sm_nk {L : Nat} : ∀ t : Tm, t.sm → t.wt ≤ 1000000 → t.nk 1001 L := by
  refine Tm.ind ?_
  intro f l ih h ho
  obtain ⟨h1, h2⟩ := (Tm.sm_iff ⟨f, l⟩).1 h
  rw [Tm.wt_eq] at ho
  have := Tm.wts_len l
  simp only at h1 h2 ho
  refine (Tm.nk_iff 1001 L ⟨f, l⟩).2 ⟨⟨?_, ?_, ?_, ?_⟩, fun s hs => ih s hs (h2 s hs) (by have : s.wt ≤ Tm.wts l := Tm.wts_mem hs; omega)⟩ <;> simp only <;> omega
theorem joinP_len (sep : By) (l : List By) : (joinW sep l).length ≤ (l.map fun x => x.length + sep.length).sum := by
  cases l with
  | nil => simp [joinW]
  | cons x xs =>
    have : ∀ xs : List By, (xs.flatMap (sep ++ ·)).length = (xs.map fun x => x.length + sep.length).sum := fun xs => by
      induction xs with
      | nil => rfl
      | cons y ys ih => rw [List.flatMap_cons, List.length_append, List.length_append, List.map_cons, List.sum_cons, ih]; omega
    rw [List.map_cons, List.sum_cons]
    show (x ++ xs.flatMap (sep ++ ·)).length ≤ _
    rw [List.length_append, this]
    omega
theorem sumP_le {α : Type} {f g : α → Nat} : ∀ {l : List α}, (∀ x ∈ l, f x ≤ g x) → (l.map f).sum ≤ (l.map g).sum
  | [], _ => Nat.le_refl _
  | x :: l, h => by
    rw [List.map_cons, List.map_cons, List.sum_cons, List.sum_cons]
    have h1 := h x (by simp)
    have h2 := sumP_le (l := l) fun y hy => h y (List.mem_cons_of_mem _ hy)
    omega
theorem sumP_mul {α : Type} (k : Nat) (f : α → Nat) : ∀ l : List α, (l.map fun x => k * f x).sum = k * (l.map f).sum
  | [] => rfl
  | x :: l => by rw [List.map_cons, List.map_cons, List.sum_cons, List.sum_cons, sumP_mul k f l, Nat.mul_add]
theorem txT_le {nm : List By} (hn : ∀ x ∈ nm, x.length ≤ 60) : ∀ t : Tm, t.sm → (txT nm t).length + 1 ≤ 1006 * t.wt := by
  refine Tm.ind ?_
  intro f l ih h
  obtain ⟨h1, h2⟩ := (Tm.sm_iff ⟨f, l⟩).1 h
  simp only at h1 h2
  rw [txT_eq, Tm.wt_eq]
  simp only
  split
  · have := dec_le (-1 - f).toNat
    rw [List.length_cons]
    omega
  · have hs : (symX nm f.toNat).length ≤ 1002 := by
      unfold symX
      split
      · rename_i x hx
        have := hn x (List.mem_of_getElem? hx)
        omega
      · have := dec_le f.toNat
        rw [List.length_cons]
        omega
    have hp : (parX (l.map (txT nm))).length ≤ 2 + 1006 * Tm.wts l := by
      by_cases hl : l = []
      · subst hl; simp [parX]
      · rw [parX_ne fun e => hl (List.map_eq_nil_iff.1 e), List.length_cons, List.length_append]
        have h3 := joinP_len [44] (l.map (txT nm))
        rw [List.map_map] at h3
        have h4 := sumP_le (l := l) (f := (fun x : By => x.length + ([44] : By).length) ∘ txT nm) (g := fun t => 1006 * t.wt) fun t ht => ih t ht (h2 t ht)
        rw [sumP_mul] at h4
        have h5 : Tm.wts l = (l.map Tm.wt).sum := rfl
        have h6 : ([41] : By).length = 1 := rfl
        omega
    rw [List.length_append]
    omega

-- 
set_option maxHeartbeats 2000000 in
theorem rfTerm_abs (W : World) (s : Sg) (hnm : s.nm.length ≤ 1000000) : ∀ (t : Tm), t.sm → t.ok → (txT s.nm t).length ≤ 1000000000 → AFun Tryd.prog W 26 [sgv s, t.cw] (.val (sv (txT s.nm t))) := by
  refine Tm.ind ?_
  intro f l ih hk ho hl
  obtain ⟨h1, h2⟩ := (Tm.sm_iff ⟨f, l⟩).1 hk
  obtain ⟨o1, o2⟩ := (Tm.ok_iff ⟨f, l⟩).1 ho
  simp only at h1 h2 o1 o2
  rw [txT_eq] at hl ⊢
  simp only at hl ⊢
  by_cases hf : f < 0
  · rw [if_pos hf] at hl ⊢
    have p1 := digits_abs W (-1 - f).toNat (by omega)
    rw [show (((-1 - f).toNat : Nat) : Int) = -1 - f by omega] at p1
    have l1 := dec_le (-1 - f).toNat
    refine afun_of (rs := [sv (88 :: Lib.decDigits (-1 - f).toNat)]) Tryd.func26 Tryd.ntmps26 rfl rfl rfl rfl ?_
    intro w U hW
    refine aS (aR ?_)
    (refine nx (a_box (gN rfl) rfl rfl rfl rfl rfl) rfl ?_)
    (refine nx (a_box (gN rfl) rfl rfl rfl rfl rfl) rfl ?_)
    (refine nx (aA (gN rfl) rfl rfl rfl rfl rfl) rfl ?_)
    show AWp _ _ _ _ _ _ _
    refine aS (aS (aR ?_))
    (refine nx (aF (gN rfl) rfl rfl rfl rfl rfl rfl rfl rfl rfl) rfl ?_)
    (refine nx (aLb (gN rfl) rfl rfl rfl rfl rfl rfl rfl rfl rfl rfl rfl rfl) rfl ?_)
    (refine nx (a_lss (gN rfl) rfl rfl rfl rfl rfl rfl) rfl ?_)
    show AWp _ _ _ _ _ _ _
    refine aC rfl (fun hc => ?_) (fun hc => by have hc : decide (f < 0) = false := hc; have := of_decide_eq_false hc; omega)
    refine aS (aR ?_)
    (refine nx (aF (gN rfl) rfl rfl rfl rfl rfl rfl rfl rfl rfl) rfl ?_)
    (refine nx (aLb (gN rfl) rfl rfl rfl rfl rfl rfl rfl rfl rfl rfl rfl rfl) rfl ?_)
    (refine nx (a_sub (gN rfl) rfl rfl rfl rfl rfl rfl (by first | omega | (simp only [List.length_map, List.length_append, List.length_cons, List.length_nil] <;> omega) | (simp <;> omega))) rfl ?_)
    (refine nx (a_call (gN rfl) rfl rfl rfl rfl rfl (p1.up hW)) rfl ?_)
    (refine nx (a_sadd (gN rfl) rfl rfl rfl rfl rfl rfl (by first | omega | (simp only [List.length_map, List.length_append, List.length_cons, List.length_nil] <;> omega) | (simp <;> omega))) rfl ?_)
    (refine nx (aA (gN rfl) rfl rfl rfl rfl rfl) rfl ?_)
    show AWp _ _ _ _ _ _ _
    exact aT (And.intro (.inr rfl) rfl)
  rw [if_neg hf] at hl ⊢
  obtain ⟨n, rfl⟩ : ∃ n : Nat, f = (n : Int) := ⟨f.toNat, by omega⟩
  rw [Int.toNat_natCast, List.length_append] at hl
  rw [Int.toNat_natCast]
  have p1 := digits_abs W n (by omega)
  have l1 := dec_le n
  have hsz := Tm.size_all l
  have hsv := svs_size s.nm
  have hln : (l.map Tm.cv).length = l.length := List.length_map ..
  have hnl : (s.nm.map sv).length = s.nm.length := List.length_map ..
  obtain ⟨b0, hb0⟩ : ∃ b0, b0 = symX s.nm n := ⟨_, rfl⟩
  obtain ⟨T, hTt⟩ : ∃ T, T = l.map (txT s.nm) := ⟨_, rfl⟩
  have hTl : T.length = l.length := by rw [hTt, List.length_map]
  rw [← hTt, ← hb0, pX_end, List.length_append] at hl
  rw [← hTt, ← hb0, pX_end]
  refine afun_of (rs := [sv (b0 ++ (pX T T.length ++ if T = [] then [] else [41]))]) Tryd.func26 Tryd.ntmps26 rfl rfl rfl rfl ?_
  intro w U hW
  refine aS (aR ?_)
  (refine nx (a_box (gN rfl) rfl rfl rfl rfl rfl) rfl ?_)
  (refine nx (a_box (gN rfl) rfl rfl rfl rfl rfl) rfl ?_)
  (refine nx (aA (gN rfl) rfl rfl rfl rfl rfl) rfl ?_)
  show AWp _ _ _ _ _ _ _
  refine aS (aS (aR ?_))
  (refine nx (aF (gN rfl) rfl rfl rfl rfl rfl rfl rfl rfl rfl) rfl ?_)
  (refine nx (aLb (gN rfl) rfl rfl rfl rfl rfl rfl rfl rfl rfl rfl rfl rfl) rfl ?_)
  (refine nx (a_lss (gN rfl) rfl rfl rfl rfl rfl rfl) rfl ?_)
  show AWp _ _ _ _ _ _ _
  refine aC rfl (fun hc => by have hc : decide ((n : Int) < 0) = true := hc; have := of_decide_eq_true hc; omega) (fun hc => aK ?_)
  show AWp _ _ _ _ _ _ _
  refine aS (aR ?_)
  (refine nx (aF (gN rfl) rfl rfl rfl rfl rfl rfl rfl rfl rfl) rfl ?_)
  (refine nx (aLb (gN rfl) rfl rfl rfl rfl rfl rfl rfl rfl rfl rfl rfl rfl) rfl ?_)
  (refine nx (a_call (gN rfl) rfl rfl rfl rfl rfl (p1.up hW)) rfl ?_)
  (refine nx (a_sadd (gN rfl) rfl rfl rfl rfl rfl rfl (by first | omega | (simp only [List.length_map, List.length_append, List.length_cons, List.length_nil] <;> omega) | (simp <;> omega))) rfl ?_)
  (refine nx (aA (gN rfl) rfl rfl rfl rfl rfl) rfl ?_)
  show AWp _ _ _ _ _ _ _
  refine awp_mid [(2, .bp 2 0 []), (100002, .bx (sgv s)), (3, .bp 3 0 []), (100003, .bx (.row [.i (n : Int), .lst (l.map Tm.cv)])), (5, .val (sv b0))] ?_ ?_
  · refine aS (aR ?_)
    (refine nx (aF (gN rfl) rfl rfl rfl rfl rfl rfl rfl rfl rfl) rfl ?_)
    (refine nx (aLb (gN rfl) rfl rfl rfl rfl rfl rfl rfl rfl rfl rfl rfl rfl) rfl ?_)
    (refine nx (aF (gN rfl) rfl rfl rfl rfl rfl rfl rfl rfl rfl) rfl ?_)
    (refine nx (aLb (gN rfl) rfl rfl rfl rfl rfl rfl rfl rfl rfl rfl rfl rfl) rfl ?_)
    (refine nx (a_len (gN rfl) rfl rfl rfl rfl rfl rfl rfl) rfl ?_)
    (refine nx (a_lss (gN rfl) rfl rfl rfl rfl rfl rfl) rfl ?_)
    show AWp _ _ _ _ _ _ _
    refine aC rfl (fun hc => ?_) (fun hc => ?_)
    · have hc : decide ((n : Int) < ((s.nm.map sv).length : Int)) = true := hc
      have hf : n < s.nm.length := by rw [hnl] at hc; simpa using hc
      obtain ⟨x, hx⟩ : ∃ x, s.nm[n]? = some x := ⟨s.nm[n], List.getElem?_eq_getElem hf⟩
      have hx' := sv_at hx
      have hs : b0 = x := by rw [hb0]; unfold symX; rw [hx]
      rw [hs]
      refine aR ?_
      (refine nx (aF (gN rfl) rfl rfl rfl rfl rfl rfl rfl rfl rfl) rfl ?_)
      (refine nx (aLb (gN rfl) rfl rfl rfl rfl rfl rfl rfl rfl rfl rfl rfl rfl) rfl ?_)
      (refine nx (aF (gN rfl) rfl rfl rfl rfl rfl rfl rfl rfl rfl) rfl ?_)
      (refine nx (aLb (gN rfl) rfl rfl rfl rfl rfl rfl rfl rfl rfl rfl rfl rfl) rfl ?_)
      (refine nx (a_index (j := n) (gN rfl) rfl rfl rfl rfl rfl rfl rfl rfl rfl (hx') rfl (hsv)) rfl ?_)
      (refine nx (a_load_ad (gN rfl) rfl rfl rfl rfl rfl rfl rfl rfl rfl) rfl ?_)
      (refine nx (aA (gN rfl) rfl rfl rfl rfl rfl) rfl ?_)
      exact wk_sub ⟨rfl, rfl, rfl, rfl, rfl, trivial⟩
    · have hc : decide ((n : Int) < ((s.nm.map sv).length : Int)) = false := hc
      have hf : s.nm.length ≤ n := by rw [hnl] at hc; have := of_decide_eq_false hc; omega
      have hs : b0 = 115 :: Lib.decDigits n := by rw [hb0]; unfold symX; rw [List.getElem?_eq_none hf]
      rw [hs]
      refine aK ?_
      exact wk_sub ⟨rfl, rfl, rfl, rfl, rfl, trivial⟩
  refine aS (aS (aR ?_))
  (refine nx (aA (gN rfl) rfl rfl rfl rfl rfl) rfl ?_)
  show AWp _ _ _ _ _ _ _
  refine aB (awp_count l.length (fun k => [(2, .bp 2 0 []), (100002, .bx (sgv s)), (3, .bp 3 0 []), (100003, .bx (.row [.i (n : Int), .lst (l.map Tm.cv)])), (5, .val (sv (b0 ++ pX T k))), (6, .val (.i (k : Int)))]) (wk_sub ⟨rfl, rfl, rfl, rfl, by show _ = some (AV.val (sv (b0 ++ []))); rw [List.append_nil]; rfl, rfl, trivial⟩) ?_)
  intro k hk
  refine aS (aS (aR ?_))
  (refine nx (aM (gN rfl) rfl rfl rfl rfl rfl) rfl ?_)
  (refine nx (aF (gN rfl) rfl rfl rfl rfl rfl rfl rfl rfl rfl) rfl ?_)
  (refine nx (aLb (gN rfl) rfl rfl rfl rfl rfl rfl rfl rfl rfl rfl rfl rfl) rfl ?_)
  (refine nx (a_len (gN rfl) rfl rfl rfl rfl rfl rfl rfl) rfl ?_)
  (refine nx (a_lss (gN rfl) rfl rfl rfl rfl rfl rfl) rfl ?_)
  show AWp _ _ _ _ _ _ _
  refine aC rfl (fun hlt => ?_) (fun hlt => ?_)
  · have hkl : k < l.length := by
      have hlt : decide ((k : Int) < ((l.map Tm.cv).length : Int)) = true := hlt
      rw [hln] at hlt
      simpa using hlt
    obtain ⟨x, hx⟩ : ∃ x, l[k]? = some x := ⟨l[k], List.getElem?_eq_getElem hkl⟩
    have hx' := Tm.map_at hx
    have hxm := List.mem_of_getElem? hx
    have hTx : T[k]? = some (txT s.nm x) := by rw [hTt, List.getElem?_map, hx]; rfl
    have hstep := pX_step hTx
    have hlen := pX_le T (k := k + 1) (by omega)
    rw [hstep, List.length_append, List.length_append] at hlen
    have q1 : AFun Tryd.prog W 26 [sgv s, x.cw] (.val (sv (txT s.nm x))) := ih x hxm (h2 x hxm) (o2 x hxm) (by omega)
    obtain ⟨c0, hc0⟩ : ∃ c0, c0 = b0 ++ pX T k := ⟨_, rfl⟩
    have hc0l : c0.length = b0.length + (pX T k).length := by rw [hc0, List.length_append]
    rw [← hc0]
    refine aK ?_
    show AWp _ _ _ _ _ _ _
    by_cases h0 : k = 0
    · rw [if_pos h0] at hstep hlen
      have h3 : ([40] : By).length = 1 := rfl
      refine aS (aB (aS (aS (aR ?_))))
      (refine nx (aM (gN rfl) rfl rfl rfl rfl rfl) rfl ?_)
      (refine nx (a_eql (gN rfl) rfl rfl rfl rfl rfl rfl) rfl ?_)
      show AWp _ _ _ _ _ _ _
      refine aC rfl (fun hc => ?_) (fun hc => by have hc : decide ((k : Int) = 0) = false := hc; have := of_decide_eq_false hc; omega)
      refine aR ?_
      (refine nx (aM (gN rfl) rfl rfl rfl rfl rfl) rfl ?_)
      (refine nx (a_sadd (gN rfl) rfl rfl rfl rfl rfl rfl (by first | omega | (simp only [List.length_map, List.length_append, List.length_cons, List.length_nil] <;> omega) | (simp <;> omega))) rfl ?_)
      (refine nx (aA (gN rfl) rfl rfl rfl rfl rfl) rfl ?_)
      show AWp _ _ _ _ _ _ _
      refine aD (by kernel_rfl) (by kernel_rfl) ?_
      (refine nx (aM (gN rfl) rfl rfl rfl rfl rfl) rfl ?_)
      (refine nx (aL (gN rfl) rfl rfl rfl rfl rfl rfl rfl rfl rfl rfl rfl rfl) rfl ?_)
      (refine nx (aF (gN rfl) rfl rfl rfl rfl rfl rfl rfl rfl rfl) rfl ?_)
      (refine nx (aLb (gN rfl) rfl rfl rfl rfl rfl rfl rfl rfl rfl rfl rfl rfl) rfl ?_)
      (refine nx (aM (gN rfl) rfl rfl rfl rfl rfl) rfl ?_)
      (refine nx (a_index (j := k) (gN rfl) rfl rfl rfl rfl rfl rfl rfl rfl rfl (hx') rfl (hsz)) rfl ?_)
      (refine nx (a_load_ad (gN rfl) rfl rfl rfl rfl rfl rfl rfl rfl rfl) rfl ?_)
      (refine nx (a_call (gN rfl) rfl rfl rfl rfl rfl (q1.up hW)) rfl ?_)
      (refine nx (a_sadd (gN rfl) rfl rfl rfl rfl rfl rfl (by first | omega | (simp only [List.length_map, List.length_append, List.length_cons, List.length_nil] <;> omega) | (simp <;> omega))) rfl ?_)
      (refine nx (aA (gN rfl) rfl rfl rfl rfl rfl) rfl ?_)
      refine ⟨by kernel_rfl, ?_⟩
      show AWp _ _ _ _ _ _ _
      refine aR ?_
      (refine nx (aM (gN rfl) rfl rfl rfl rfl rfl) rfl ?_)
      (refine nx (a_add (gN rfl) rfl rfl rfl rfl rfl rfl (by first | omega | (simp only [List.length_map, List.length_append, List.length_cons, List.length_nil] <;> omega) | (simp <;> omega))) rfl ?_)
      (refine nx (aA (gN rfl) rfl rfl rfl rfl rfl) rfl ?_)
      refine ⟨hkl, wk_sub ⟨rfl, rfl, rfl, rfl, ?_, rfl, trivial⟩⟩
      rw [show b0 ++ pX T (k + 1) = c0 ++ [40] ++ txT s.nm x by rw [hstep, hc0]; simp]
      rfl
    · rw [if_neg h0] at hstep hlen
      have h3 : ([44] : By).length = 1 := rfl
      refine aS (aB (aS (aS (aR ?_))))
      (refine nx (aM (gN rfl) rfl rfl rfl rfl rfl) rfl ?_)
      (refine nx (a_eql (gN rfl) rfl rfl rfl rfl rfl rfl) rfl ?_)
      show AWp _ _ _ _ _ _ _
      refine aC rfl (fun hc => by have hc : decide ((k : Int) = 0) = true := hc; have := of_decide_eq_true hc; omega) (fun hc => ?_)
      refine aR ?_
      (refine nx (aM (gN rfl) rfl rfl rfl rfl rfl) rfl ?_)
      (refine nx (a_sadd (gN rfl) rfl rfl rfl rfl rfl rfl (by first | omega | (simp only [List.length_map, List.length_append, List.length_cons, List.length_nil] <;> omega) | (simp <;> omega))) rfl ?_)
      (refine nx (aA (gN rfl) rfl rfl rfl rfl rfl) rfl ?_)
      show AWp _ _ _ _ _ _ _
      refine aD (by kernel_rfl) (by kernel_rfl) ?_
      (refine nx (aM (gN rfl) rfl rfl rfl rfl rfl) rfl ?_)
      (refine nx (aL (gN rfl) rfl rfl rfl rfl rfl rfl rfl rfl rfl rfl rfl rfl) rfl ?_)
      (refine nx (aF (gN rfl) rfl rfl rfl rfl rfl rfl rfl rfl rfl) rfl ?_)
      (refine nx (aLb (gN rfl) rfl rfl rfl rfl rfl rfl rfl rfl rfl rfl rfl rfl) rfl ?_)
      (refine nx (aM (gN rfl) rfl rfl rfl rfl rfl) rfl ?_)
      (refine nx (a_index (j := k) (gN rfl) rfl rfl rfl rfl rfl rfl rfl rfl rfl (hx') rfl (hsz)) rfl ?_)
      (refine nx (a_load_ad (gN rfl) rfl rfl rfl rfl rfl rfl rfl rfl rfl) rfl ?_)
      (refine nx (a_call (gN rfl) rfl rfl rfl rfl rfl (q1.up hW)) rfl ?_)
      (refine nx (a_sadd (gN rfl) rfl rfl rfl rfl rfl rfl (by first | omega | (simp only [List.length_map, List.length_append, List.length_cons, List.length_nil] <;> omega) | (simp <;> omega))) rfl ?_)
      (refine nx (aA (gN rfl) rfl rfl rfl rfl rfl) rfl ?_)
      refine ⟨by kernel_rfl, ?_⟩
      show AWp _ _ _ _ _ _ _
      refine aR ?_
      (refine nx (aM (gN rfl) rfl rfl rfl rfl rfl) rfl ?_)
      (refine nx (a_add (gN rfl) rfl rfl rfl rfl rfl rfl (by first | omega | (simp only [List.length_map, List.length_append, List.length_cons, List.length_nil] <;> omega) | (simp <;> omega))) rfl ?_)
      (refine nx (aA (gN rfl) rfl rfl rfl rfl rfl) rfl ?_)
      refine ⟨hkl, wk_sub ⟨rfl, rfl, rfl, rfl, ?_, rfl, trivial⟩⟩
      rw [show b0 ++ pX T (k + 1) = c0 ++ [44] ++ txT s.nm x by rw [hstep, hc0]; simp]
      rfl
  · have hkl : k = l.length := by
      have hlt : decide ((k : Int) < ((l.map Tm.cv).length : Int)) = false := hlt
      rw [hln] at hlt
      have := of_decide_eq_false hlt
      omega
    rw [← hTl] at hkl
    subst hkl
    refine aE ?_
    show AWp _ _ _ _ _ _ _
    by_cases hle : T = []
    · rw [if_pos hle]
      have hl0 : l.length = 0 := by rw [← hTl, hle]; rfl
      refine aS (aS (aR ?_))
      (refine nx (aF (gN rfl) rfl rfl rfl rfl rfl rfl rfl rfl rfl) rfl ?_)
      (refine nx (aLb (gN rfl) rfl rfl rfl rfl rfl rfl rfl rfl rfl rfl rfl rfl) rfl ?_)
      (refine nx (a_len (gN rfl) rfl rfl rfl rfl rfl rfl rfl) rfl ?_)
      (refine nx (a_gtr (gN rfl) rfl rfl rfl rfl rfl rfl) rfl ?_)
      show AWp _ _ _ _ _ _ _
      refine aC rfl (fun hc => by have hc : decide (((l.map Tm.cv).length : Int) > 0) = true := hc; have := of_decide_eq_true hc; rw [hln] at this; omega) (fun hc => aK ?_)
      show AWp _ _ _ _ _ _ _
      refine aS (aR ?_)
      (refine nx (aM (gN rfl) rfl rfl rfl rfl rfl) rfl ?_)
      (refine nx (aA (gN rfl) rfl rfl rfl rfl rfl) rfl ?_)
      show AWp _ _ _ _ _ _ _
      rw [List.append_nil]
      exact aT (And.intro (.inr rfl) rfl)
    · rw [if_neg hle] at hl ⊢
      have hl0 : 0 < l.length := by rw [← hTl]; exact List.length_pos_iff.2 hle
      have h3 : ([41] : By).length = 1 := rfl
      obtain ⟨c0, hc0⟩ : ∃ c0, c0 = b0 ++ pX T T.length := ⟨_, rfl⟩
      have hc0l : c0.length = b0.length + (pX T T.length).length := by rw [hc0, List.length_append]
      rw [← List.append_assoc, ← hc0]
      refine aS (aS (aR ?_))
      (refine nx (aF (gN rfl) rfl rfl rfl rfl rfl rfl rfl rfl rfl) rfl ?_)
      (refine nx (aLb (gN rfl) rfl rfl rfl rfl rfl rfl rfl rfl rfl rfl rfl rfl) rfl ?_)
      (refine nx (a_len (gN rfl) rfl rfl rfl rfl rfl rfl rfl) rfl ?_)
      (refine nx (a_gtr (gN rfl) rfl rfl rfl rfl rfl rfl) rfl ?_)
      show AWp _ _ _ _ _ _ _
      refine aC rfl (fun hc => ?_) (fun hc => by have hc : decide (((l.map Tm.cv).length : Int) > 0) = false := hc; have := of_decide_eq_false hc; rw [hln] at this; omega)
      refine aR ?_
      (refine nx (aM (gN rfl) rfl rfl rfl rfl rfl) rfl ?_)
      (refine nx (a_sadd (gN rfl) rfl rfl rfl rfl rfl rfl (by first | omega | (simp only [List.length_map, List.length_append, List.length_cons, List.length_nil] <;> omega) | (simp <;> omega))) rfl ?_)
      (refine nx (aA (gN rfl) rfl rfl rfl rfl rfl) rfl ?_)
      show AWp _ _ _ _ _ _ _
      refine aS (aR ?_)
      (refine nx (aM (gN rfl) rfl rfl rfl rfl rfl) rfl ?_)
      (refine nx (aA (gN rfl) rfl rfl rfl rfl rfl) rfl ?_)
      show AWp _ _ _ _ _ _ _
      exact aT (And.intro (.inr rfl) rfl)
end Go.Proofs.YtebhbnhijnpmcaaDoor

-- @STR@
namespace Go.Proofs.YtebhbnhijnpmcaaDoor
open Go.RowKit
set_option linter.unusedVariables false
set_option linter.unusedSimpArgs false
set_option maxRecDepth 100000

-- 
set_option maxHeartbeats 2000000 in
theorem rfLit_abs (W : World) (s : Sg) (l : Lt) (ha : AFun Tryd.prog W 26 [sgv s, l.a.cw] (.val (sv (txT s.nm l.a)))) (hb : AFun Tryd.prog W 26 [sgv s, l.b.cw] (.val (sv (txT s.nm l.b)))) (hla : (txT s.nm l.a).length ≤ 1000000) (hlb : (txT s.nm l.b).length ≤ 1000000) : AFun Tryd.prog W 22 [sgv s, l.cw] (.val (sv (txL s.nm l))) := by
  obtain ⟨A, hA⟩ : ∃ A, A = txT s.nm l.a := ⟨_, rfl⟩
  obtain ⟨B, hB⟩ : ∃ B, B = txT s.nm l.b := ⟨_, rfl⟩
  have hx : txL s.nm l = if trB l.b then (if l.neg then [126] else []) ++ A else A ++ ((if l.neg then [32, 33, 61, 32] else [32, 61, 32]) ++ B) := by rw [hA, hB]; rfl
  have hln : (l.b.l.map Tm.cv).length = l.b.l.length := List.length_map ..
  have e : trB l.b = (decide (l.b.f = 0) && decide (((l.b.l.map Tm.cv).length : Int) = 0)) := by
    unfold trB
    congr 1
    rw [decide_eq_decide, hln]
    omega
  rw [← hA] at ha hla
  rw [← hB] at hb hlb
  obtain ⟨R, hR⟩ : ∃ R, R = txL s.nm l := ⟨_, rfl⟩
  rw [← hR] at hx ⊢
  have h4 : ([32, 33, 61, 32] : By).length = 4 := rfl
  have h3 : ([32, 61, 32] : By).length = 3 := rfl
  have h1 : ([126] : By).length = 1 := rfl
  refine afun_of (rs := [sv R]) Tryd.func22 Tryd.ntmps22 rfl rfl rfl rfl ?_
  intro w U hW
  refine aS (aR ?_)
  (refine nx (a_box (gN rfl) rfl rfl rfl rfl rfl) rfl ?_)
  (refine nx (a_box (gN rfl) rfl rfl rfl rfl rfl) rfl ?_)
  (refine nx (aA (gN rfl) rfl rfl rfl rfl rfl) rfl ?_)
  show AWp _ _ _ _ _ _ _
  cases htr : trB l.b with
  | true =>
    rw [htr] at e hx
    have e := e.symm
    rw [Bool.and_eq_true] at e
    obtain ⟨e1, e2⟩ := e
    rw [if_pos rfl] at hx
    refine aS (aS (aR ?_))
    (refine nx (aF (gN rfl) rfl rfl rfl rfl rfl rfl rfl rfl rfl) rfl ?_)
    (refine nx (aF (gN rfl) rfl rfl rfl rfl rfl rfl rfl rfl rfl) rfl ?_)
    (refine nx (aLb (gN rfl) rfl rfl rfl rfl rfl rfl rfl rfl rfl rfl rfl rfl) rfl ?_)
    (refine nx (a_eql (gN rfl) rfl rfl rfl rfl rfl rfl) rfl ?_)
    (refine nx (aM (gN rfl) rfl rfl rfl rfl rfl) rfl ?_)
    (refine nx (aF (gd_on rfl rfl rfl rfl (by first | rfl | assumption | (simp; done))) rfl rfl rfl rfl rfl rfl rfl rfl rfl) rfl ?_)
    (refine nx (aF (gd_on rfl rfl rfl rfl (by first | rfl | assumption | (simp; done))) rfl rfl rfl rfl rfl rfl rfl rfl rfl) rfl ?_)
    (refine nx (aLb (gd_on rfl rfl rfl rfl (by first | rfl | assumption | (simp; done))) rfl rfl rfl rfl rfl rfl rfl rfl rfl rfl rfl rfl) rfl ?_)
    (refine nx (a_len (gd_on rfl rfl rfl rfl (by first | rfl | assumption | (simp; done))) rfl rfl rfl rfl rfl rfl rfl) rfl ?_)
    (refine nx (a_eql (gd_on rfl rfl rfl rfl (by first | rfl | assumption | (simp; done))) rfl rfl rfl rfl rfl rfl) rfl ?_)
    (refine ⟨_, _, _, aPt (gN rfl) rfl rfl rfl rfl rfl ?hb rfl, rfl, ?_⟩; case hb => (first | rfl | assumption | (simp; done)))
    show AWp _ _ _ _ _ _ _
    refine aC rfl (fun hc => ?_) (fun hc => by have hc : decide (((l.b.l.map Tm.cv).length : Int) = 0) = false := hc; rw [e2] at hc; cases hc)
    refine aS (aS (aR ?_))
    (refine nx (aF (gN rfl) rfl rfl rfl rfl rfl rfl rfl rfl rfl) rfl ?_)
    (refine nx (aLb (gN rfl) rfl rfl rfl rfl rfl rfl rfl rfl rfl rfl rfl rfl) rfl ?_)
    show AWp _ _ _ _ _ _ _
    refine aC rfl (fun hc2 => ?_) (fun hc2 => aK ?_)
    · have hc2 : l.neg = true := hc2
      rw [if_pos hc2] at hx
      rw [hx]
      refine aS (aR ?_)
      (refine nx (aL (gN rfl) rfl rfl rfl rfl rfl rfl rfl rfl rfl rfl rfl rfl) rfl ?_)
      (refine nx (aF (gN rfl) rfl rfl rfl rfl rfl rfl rfl rfl rfl) rfl ?_)
      (refine nx (aLb (gN rfl) rfl rfl rfl rfl rfl rfl rfl rfl rfl rfl rfl rfl) rfl ?_)
      (refine nx (a_call (gN rfl) rfl rfl rfl rfl rfl (ha.up hW)) rfl ?_)
      (refine nx (a_sadd (gN rfl) rfl rfl rfl rfl rfl rfl (by first | omega | (simp only [List.length_map, List.length_append, List.length_cons, List.length_nil] <;> omega) | (simp <;> omega))) rfl ?_)
      (refine nx (aA (gN rfl) rfl rfl rfl rfl rfl) rfl ?_)
      show AWp _ _ _ _ _ _ _
      exact aT (And.intro (.inr rfl) rfl)
    · have hc2 : l.neg = false := hc2
      rw [if_neg (by rw [hc2]; simp), List.nil_append] at hx
      rw [hx]
      show AWp _ _ _ _ _ _ _
      refine aS (aR ?_)
      (refine nx (aL (gN rfl) rfl rfl rfl rfl rfl rfl rfl rfl rfl rfl rfl rfl) rfl ?_)
      (refine nx (aF (gN rfl) rfl rfl rfl rfl rfl rfl rfl rfl rfl) rfl ?_)
      (refine nx (aLb (gN rfl) rfl rfl rfl rfl rfl rfl rfl rfl rfl rfl rfl rfl) rfl ?_)
      (refine nx (a_call (gN rfl) rfl rfl rfl rfl rfl (ha.up hW)) rfl ?_)
      (refine nx (aA (gN rfl) rfl rfl rfl rfl rfl) rfl ?_)
      show AWp _ _ _ _ _ _ _
      exact aT (And.intro (.inr rfl) rfl)
  | false =>
    rw [htr] at e hx
    rw [if_neg (by simp)] at hx
    refine awp_mid [(2, .bp 2 0 []), (100002, .bx (sgv s)), (3, .bp 3 0 []), (100003, .bx l.cw)] ?_ ?_
    · cases h0 : decide (l.b.f = 0) with
      | true =>
        rw [h0, Bool.true_and] at e
        refine aS (aR ?_)
        (refine nx (aF (gN rfl) rfl rfl rfl rfl rfl rfl rfl rfl rfl) rfl ?_)
        (refine nx (aF (gN rfl) rfl rfl rfl rfl rfl rfl rfl rfl rfl) rfl ?_)
        (refine nx (aLb (gN rfl) rfl rfl rfl rfl rfl rfl rfl rfl rfl rfl rfl rfl) rfl ?_)
        (refine nx (a_eql (gN rfl) rfl rfl rfl rfl rfl rfl) rfl ?_)
        (refine nx (aM (gN rfl) rfl rfl rfl rfl rfl) rfl ?_)
        (refine nx (aF (gd_on rfl rfl rfl rfl (by first | rfl | assumption | (simp; done))) rfl rfl rfl rfl rfl rfl rfl rfl rfl) rfl ?_)
        (refine nx (aF (gd_on rfl rfl rfl rfl (by first | rfl | assumption | (simp; done))) rfl rfl rfl rfl rfl rfl rfl rfl rfl) rfl ?_)
        (refine nx (aLb (gd_on rfl rfl rfl rfl (by first | rfl | assumption | (simp; done))) rfl rfl rfl rfl rfl rfl rfl rfl rfl rfl rfl rfl) rfl ?_)
        (refine nx (a_len (gd_on rfl rfl rfl rfl (by first | rfl | assumption | (simp; done))) rfl rfl rfl rfl rfl rfl rfl) rfl ?_)
        (refine nx (a_eql (gd_on rfl rfl rfl rfl (by first | rfl | assumption | (simp; done))) rfl rfl rfl rfl rfl rfl) rfl ?_)
        (refine ⟨_, _, _, aPt (gN rfl) rfl rfl rfl rfl rfl ?hb rfl, rfl, ?_⟩; case hb => (first | rfl | assumption | (simp; done)))
        show AWp _ _ _ _ _ _ _
        refine aC rfl (fun hc => by have hc : decide (((l.b.l.map Tm.cv).length : Int) = 0) = true := hc; rw [← e] at hc; cases hc) (fun hc => aK ?_)
        exact wk_sub ⟨rfl, rfl, rfl, rfl, trivial⟩
      | false =>
        refine aS (aR ?_)
        (refine nx (aF (gN rfl) rfl rfl rfl rfl rfl rfl rfl rfl rfl) rfl ?_)
        (refine nx (aF (gN rfl) rfl rfl rfl rfl rfl rfl rfl rfl rfl) rfl ?_)
        (refine nx (aLb (gN rfl) rfl rfl rfl rfl rfl rfl rfl rfl rfl rfl rfl rfl) rfl ?_)
        (refine nx (a_eql (gN rfl) rfl rfl rfl rfl rfl rfl) rfl ?_)
        (refine nx (aM (gN rfl) rfl rfl rfl rfl rfl) rfl ?_)
        (refine ⟨_, _, _, a_off (go_off rfl rfl rfl rfl (by first | rfl | assumption | (simp; done) | (simp [*]; done))) rfl rfl rfl, rfl, ?_⟩)
        (refine ⟨_, _, _, a_off (go_off rfl rfl rfl rfl (by first | rfl | assumption | (simp; done) | (simp [*]; done))) rfl rfl rfl, rfl, ?_⟩)
        (refine ⟨_, _, _, a_off (go_off rfl rfl rfl rfl (by first | rfl | assumption | (simp; done) | (simp [*]; done))) rfl rfl rfl, rfl, ?_⟩)
        (refine ⟨_, _, _, a_off (go_off rfl rfl rfl rfl (by first | rfl | assumption | (simp; done) | (simp [*]; done))) rfl rfl rfl, rfl, ?_⟩)
        (refine ⟨_, _, _, a_off (go_off rfl rfl rfl rfl (by first | rfl | assumption | (simp; done) | (simp [*]; done))) rfl rfl rfl, rfl, ?_⟩)
        (refine ⟨_, _, _, aPf (gN rfl) rfl rfl rfl rfl rfl ?hb rfl, rfl, ?_⟩; case hb => (first | rfl | assumption | (simp; done)))
        show AWp _ _ _ _ _ _ _
        refine aC rfl (fun hc => by cases hc) (fun hc => aK ?_)
        exact wk_sub ⟨rfl, rfl, rfl, rfl, trivial⟩
    refine aS (aS (aR ?_))
    (refine nx (aF (gN rfl) rfl rfl rfl rfl rfl rfl rfl rfl rfl) rfl ?_)
    (refine nx (aLb (gN rfl) rfl rfl rfl rfl rfl rfl rfl rfl rfl rfl rfl rfl) rfl ?_)
    show AWp _ _ _ _ _ _ _
    refine aC rfl (fun hc2 => ?_) (fun hc2 => aK ?_)
    · have hc2 : l.neg = true := hc2
      rw [if_pos hc2, ← List.append_assoc] at hx
      rw [hx]
      refine aS (aD (by kernel_rfl) (by kernel_rfl) ?_)
      (refine nx (aL (gN rfl) rfl rfl rfl rfl rfl rfl rfl rfl rfl rfl rfl rfl) rfl ?_)
      (refine nx (aF (gN rfl) rfl rfl rfl rfl rfl rfl rfl rfl rfl) rfl ?_)
      (refine nx (aLb (gN rfl) rfl rfl rfl rfl rfl rfl rfl rfl rfl rfl rfl rfl) rfl ?_)
      (refine nx (a_call (gN rfl) rfl rfl rfl rfl rfl (ha.up hW)) rfl ?_)
      (refine nx (a_sadd (gN rfl) rfl rfl rfl rfl rfl rfl (by first | omega | (simp only [List.length_map, List.length_append, List.length_cons, List.length_nil] <;> omega) | (simp <;> omega))) rfl ?_)
      (refine nx (aL (gN rfl) rfl rfl rfl rfl rfl rfl rfl rfl rfl rfl rfl rfl) rfl ?_)
      (refine nx (aF (gN rfl) rfl rfl rfl rfl rfl rfl rfl rfl rfl) rfl ?_)
      (refine nx (aLb (gN rfl) rfl rfl rfl rfl rfl rfl rfl rfl rfl rfl rfl rfl) rfl ?_)
      (refine nx (a_call (gN rfl) rfl rfl rfl rfl rfl (hb.up hW)) rfl ?_)
      (refine nx (a_sadd (gN rfl) rfl rfl rfl rfl rfl rfl (by first | omega | (simp only [List.length_map, List.length_append, List.length_cons, List.length_nil] <;> omega) | (simp <;> omega))) rfl ?_)
      (refine nx (aA (gN rfl) rfl rfl rfl rfl rfl) rfl ?_)
      refine ⟨by kernel_rfl, ?_⟩
      show AWp _ _ _ _ _ _ _
      exact aT (And.intro (.inr rfl) rfl)
    · have hc2 : l.neg = false := hc2
      rw [if_neg (by rw [hc2]; simp), ← List.append_assoc] at hx
      rw [hx]
      show AWp _ _ _ _ _ _ _
      refine aS (aD (by kernel_rfl) (by kernel_rfl) ?_)
      (refine nx (aL (gN rfl) rfl rfl rfl rfl rfl rfl rfl rfl rfl rfl rfl rfl) rfl ?_)
      (refine nx (aF (gN rfl) rfl rfl rfl rfl rfl rfl rfl rfl rfl) rfl ?_)
      (refine nx (aLb (gN rfl) rfl rfl rfl rfl rfl rfl rfl rfl rfl rfl rfl rfl) rfl ?_)
      (refine nx (a_call (gN rfl) rfl rfl rfl rfl rfl (ha.up hW)) rfl ?_)
      (refine nx (a_sadd (gN rfl) rfl rfl rfl rfl rfl rfl (by first | omega | (simp only [List.length_map, List.length_append, List.length_cons, List.length_nil] <;> omega) | (simp <;> omega))) rfl ?_)
      (refine nx (aL (gN rfl) rfl rfl rfl rfl rfl rfl rfl rfl rfl rfl rfl rfl) rfl ?_)
      (refine nx (aF (gN rfl) rfl rfl rfl rfl rfl rfl rfl rfl rfl) rfl ?_)
      (refine nx (aLb (gN rfl) rfl rfl rfl rfl rfl rfl rfl rfl rfl rfl rfl rfl) rfl ?_)
      (refine nx (a_call (gN rfl) rfl rfl rfl rfl rfl (hb.up hW)) rfl ?_)
      (refine nx (a_sadd (gN rfl) rfl rfl rfl rfl rfl rfl (by first | omega | (simp only [List.length_map, List.length_append, List.length_cons, List.length_nil] <;> omega) | (simp <;> omega))) rfl ?_)
      (refine nx (aA (gN rfl) rfl rfl rfl rfl rfl) rfl ?_)
      refine ⟨by kernel_rfl, ?_⟩
      show AWp _ _ _ _ _ _ _
      exact aT (And.intro (.inr rfl) rfl)

-- 
set_option maxHeartbeats 2000000 in
theorem rfCls_abs (W : World) (s : Sg) (c : List Lt) (hcl : c.length ≤ 1000000) (hcs : ∀ l ∈ c, AFun Tryd.prog W 22 [sgv s, l.cw] (.val (sv (txL s.nm l)))) (hl : (txC s.nm c).length ≤ 1000000) : AFun Tryd.prog W 23 [sgv s, .lst (c.map Lt.cv)] (.val (sv (txC s.nm c))) := by
  have hsz := Lt.size_all c
  have hln : (c.map Lt.cv).length = c.length := List.length_map ..
  by_cases hn : c = []
  · subst hn
    refine afun_of (rs := [sv neverB]) Tryd.func23 Tryd.ntmps23 rfl rfl rfl rfl ?_
    intro w U hW
    refine aS (aR ?_)
    (refine nx (a_box (gN rfl) rfl rfl rfl rfl rfl) rfl ?_)
    (refine nx (aA (gN rfl) rfl rfl rfl rfl rfl) rfl ?_)
    show AWp _ _ _ _ _ _ _
    refine aS (aS (aR ?_))
    (refine nx (aM (gN rfl) rfl rfl rfl rfl rfl) rfl ?_)
    (refine nx (a_len (gN rfl) rfl rfl rfl rfl rfl rfl rfl) rfl ?_)
    (refine nx (a_eql (gN rfl) rfl rfl rfl rfl rfl rfl) rfl ?_)
    show AWp _ _ _ _ _ _ _
    refine aC rfl (fun hc => ?_) (fun hc => by cases hc)
    refine aS (aR ?_)
    (refine nx (aA (gN rfl) rfl rfl rfl rfl rfl) rfl ?_)
    show AWp _ _ _ _ _ _ _
    exact aT (And.intro (.inr rfl) rfl)
  obtain ⟨T, hTt⟩ : ∃ T, T = c.map (txL s.nm) := ⟨_, rfl⟩
  have hTl : T.length = c.length := by rw [hTt, List.length_map]
  have hx : txC s.nm c = joinW [32, 124, 32] T := by unfold txC; rw [if_neg hn, hTt]
  rw [hx] at hl ⊢
  have hpos := List.length_pos_iff.2 hn
  have h3 : ([32, 124, 32] : By).length = 3 := rfl
  refine afun_of (rs := [sv (joinW [32, 124, 32] T)]) Tryd.func23 Tryd.ntmps23 rfl rfl rfl rfl ?_
  intro w U hW
  refine aS (aR ?_)
  (refine nx (a_box (gN rfl) rfl rfl rfl rfl rfl) rfl ?_)
  (refine nx (aA (gN rfl) rfl rfl rfl rfl rfl) rfl ?_)
  show AWp _ _ _ _ _ _ _
  refine aS (aS (aR ?_))
  (refine nx (aM (gN rfl) rfl rfl rfl rfl rfl) rfl ?_)
  (refine nx (a_len (gN rfl) rfl rfl rfl rfl rfl rfl rfl) rfl ?_)
  (refine nx (a_eql (gN rfl) rfl rfl rfl rfl rfl rfl) rfl ?_)
  show AWp _ _ _ _ _ _ _
  refine aC rfl (fun hc => by have hc : decide (((c.map Lt.cv).length : Int) = 0) = true := hc; have := of_decide_eq_true hc; rw [hln] at this; omega) (fun hc => aK ?_)
  show AWp _ _ _ _ _ _ _
  refine aS (aR ?_)
  (refine nx (aA (gN rfl) rfl rfl rfl rfl rfl) rfl ?_)
  show AWp _ _ _ _ _ _ _
  refine aS (aS (aR ?_))
  (refine nx (aA (gN rfl) rfl rfl rfl rfl rfl) rfl ?_)
  show AWp _ _ _ _ _ _ _
  refine aB (awp_count c.length (fun k => [(1, .val (.lst (c.map Lt.cv))), (2, .bp 2 0 []), (100002, .bx (sgv s)), (5, .val (sv (joinW [32, 124, 32] (T.take k)))), (6, .val (.i (k : Int)))]) (wk_sub ⟨rfl, rfl, rfl, rfl, rfl, trivial⟩) ?_)
  intro k hk
  refine aS (aS (aR ?_))
  (refine nx (aM (gN rfl) rfl rfl rfl rfl rfl) rfl ?_)
  (refine nx (aM (gN rfl) rfl rfl rfl rfl rfl) rfl ?_)
  (refine nx (a_len (gN rfl) rfl rfl rfl rfl rfl rfl rfl) rfl ?_)
  (refine nx (a_lss (gN rfl) rfl rfl rfl rfl rfl rfl) rfl ?_)
  show AWp _ _ _ _ _ _ _
  refine aC rfl (fun hlt => ?_) (fun hlt => ?_)
  · have hkl : k < c.length := by
      have hlt : decide ((k : Int) < ((c.map Lt.cv).length : Int)) = true := hlt
      rw [hln] at hlt
      simpa using hlt
    obtain ⟨x, hx⟩ : ∃ x, c[k]? = some x := ⟨c[k], List.getElem?_eq_getElem hkl⟩
    have hx' := Lt.map_at hx
    have hxm := List.mem_of_getElem? hx
    have hTx : T[k]? = some (txL s.nm x) := by rw [hTt, List.getElem?_map, hx]; rfl
    have hstep := joinW_take [32, 124, 32] hTx
    have hlen := joinW_take_le [32, 124, 32] T (k + 1)
    rw [hstep, List.length_append, List.length_append] at hlen
    have q1 := hcs x hxm
    obtain ⟨c0, hc0⟩ : ∃ c0, c0 = joinW [32, 124, 32] (T.take k) := ⟨_, rfl⟩
    rw [← hc0] at hlen hstep ⊢
    refine aK ?_
    show AWp _ _ _ _ _ _ _
    by_cases h0 : k = 0
    · rw [if_pos h0] at hstep hlen
      have h9 : ([] : By).length = 0 := rfl
      refine aS (aB (aS (aS (aR ?_))))
      (refine nx (aM (gN rfl) rfl rfl rfl rfl rfl) rfl ?_)
      (refine nx (a_gtr (gN rfl) rfl rfl rfl rfl rfl rfl) rfl ?_)
      show AWp _ _ _ _ _ _ _
      refine aC rfl (fun hc => by have hc : decide ((k : Int) > 0) = true := hc; have := of_decide_eq_true hc; omega) (fun hc => aK ?_)
      show AWp _ _ _ _ _ _ _
      refine aD (by kernel_rfl) (by kernel_rfl) ?_
      (refine nx (aM (gN rfl) rfl rfl rfl rfl rfl) rfl ?_)
      (refine nx (aL (gN rfl) rfl rfl rfl rfl rfl rfl rfl rfl rfl rfl rfl rfl) rfl ?_)
      (refine nx (aM (gN rfl) rfl rfl rfl rfl rfl) rfl ?_)
      (refine nx (aM (gN rfl) rfl rfl rfl rfl rfl) rfl ?_)
      (refine nx (a_index (j := k) (gN rfl) rfl rfl rfl rfl rfl rfl rfl rfl rfl (hx') rfl (hsz)) rfl ?_)
      (refine nx (a_load_ad (gN rfl) rfl rfl rfl rfl rfl rfl rfl rfl rfl) rfl ?_)
      (refine nx (a_call (gN rfl) rfl rfl rfl rfl rfl (q1.up hW)) rfl ?_)
      (refine nx (a_sadd (gN rfl) rfl rfl rfl rfl rfl rfl (by first | omega | (simp only [List.length_map, List.length_append, List.length_cons, List.length_nil] <;> omega) | (simp <;> omega))) rfl ?_)
      (refine nx (aA (gN rfl) rfl rfl rfl rfl rfl) rfl ?_)
      refine ⟨by kernel_rfl, ?_⟩
      show AWp _ _ _ _ _ _ _
      refine aR ?_
      (refine nx (aM (gN rfl) rfl rfl rfl rfl rfl) rfl ?_)
      (refine nx (a_add (gN rfl) rfl rfl rfl rfl rfl rfl (by first | omega | (simp only [List.length_map, List.length_append, List.length_cons, List.length_nil] <;> omega) | (simp <;> omega))) rfl ?_)
      (refine nx (aA (gN rfl) rfl rfl rfl rfl rfl) rfl ?_)
      refine ⟨hkl, wk_sub ⟨rfl, rfl, rfl, ?_, rfl, trivial⟩⟩
      rw [show joinW [32, 124, 32] (T.take (k + 1)) = c0 ++ txL s.nm x by rw [hstep]; simp]
      rfl
    · rw [if_neg h0] at hstep hlen
      refine aS (aB (aS (aS (aR ?_))))
      (refine nx (aM (gN rfl) rfl rfl rfl rfl rfl) rfl ?_)
      (refine nx (a_gtr (gN rfl) rfl rfl rfl rfl rfl rfl) rfl ?_)
      show AWp _ _ _ _ _ _ _
      refine aC rfl (fun hc => ?_) (fun hc => by have hc : decide ((k : Int) > 0) = false := hc; have := of_decide_eq_false hc; omega)
      refine aR ?_
      (refine nx (aM (gN rfl) rfl rfl rfl rfl rfl) rfl ?_)
      (refine nx (a_sadd (gN rfl) rfl rfl rfl rfl rfl rfl (by first | omega | (simp only [List.length_map, List.length_append, List.length_cons, List.length_nil] <;> omega) | (simp <;> omega))) rfl ?_)
      (refine nx (aA (gN rfl) rfl rfl rfl rfl rfl) rfl ?_)
      show AWp _ _ _ _ _ _ _
      refine aD (by kernel_rfl) (by kernel_rfl) ?_
      (refine nx (aM (gN rfl) rfl rfl rfl rfl rfl) rfl ?_)
      (refine nx (aL (gN rfl) rfl rfl rfl rfl rfl rfl rfl rfl rfl rfl rfl rfl) rfl ?_)
      (refine nx (aM (gN rfl) rfl rfl rfl rfl rfl) rfl ?_)
      (refine nx (aM (gN rfl) rfl rfl rfl rfl rfl) rfl ?_)
      (refine nx (a_index (j := k) (gN rfl) rfl rfl rfl rfl rfl rfl rfl rfl rfl (hx') rfl (hsz)) rfl ?_)
      (refine nx (a_load_ad (gN rfl) rfl rfl rfl rfl rfl rfl rfl rfl rfl) rfl ?_)
      (refine nx (a_call (gN rfl) rfl rfl rfl rfl rfl (q1.up hW)) rfl ?_)
      (refine nx (a_sadd (gN rfl) rfl rfl rfl rfl rfl rfl (by first | omega | (simp only [List.length_map, List.length_append, List.length_cons, List.length_nil] <;> omega) | (simp <;> omega))) rfl ?_)
      (refine nx (aA (gN rfl) rfl rfl rfl rfl rfl) rfl ?_)
      refine ⟨by kernel_rfl, ?_⟩
      show AWp _ _ _ _ _ _ _
      refine aR ?_
      (refine nx (aM (gN rfl) rfl rfl rfl rfl rfl) rfl ?_)
      (refine nx (a_add (gN rfl) rfl rfl rfl rfl rfl rfl (by first | omega | (simp only [List.length_map, List.length_append, List.length_cons, List.length_nil] <;> omega) | (simp <;> omega))) rfl ?_)
      (refine nx (aA (gN rfl) rfl rfl rfl rfl rfl) rfl ?_)
      refine ⟨hkl, wk_sub ⟨rfl, rfl, rfl, ?_, rfl, trivial⟩⟩
      rw [show joinW [32, 124, 32] (T.take (k + 1)) = c0 ++ [32, 124, 32] ++ txL s.nm x by rw [hstep]; simp]
      rfl
  · have hkl : k = c.length := by
      have hlt : decide ((k : Int) < ((c.map Lt.cv).length : Int)) = false := hlt
      rw [hln] at hlt
      have := of_decide_eq_false hlt
      omega
    rw [← hTl] at hkl
    subst hkl
    refine aE ?_
    show AWp _ _ _ _ _ _ _
    rw [List.take_length]
    refine aS (aR ?_)
    (refine nx (aM (gN rfl) rfl rfl rfl rfl rfl) rfl ?_)
    (refine nx (aA (gN rfl) rfl rfl rfl rfl rfl) rfl ?_)
    show AWp _ _ _ _ _ _ _
    exact aT (And.intro (.inr rfl) rfl)

theorem txL_le {nm : List By} (hn : ∀ x ∈ nm, x.length ≤ 60) (l : Lt) (ha : l.a.sm) (hb : l.b.sm) (hwa : l.a.wt ≤ 12) (hwb : l.b.wt ≤ 12) : (txT nm l.a).length ≤ 12072 ∧ (txT nm l.b).length ≤ 12072 ∧ (txL nm l).length ≤ 24148 := by
  have h1 := txT_le hn l.a ha
  have h2 := txT_le hn l.b hb
  refine ⟨by omega, by omega, ?_⟩
  unfold txL
  split
  · rw [List.length_append]; split <;> simp <;> omega
  · rw [List.length_append, List.length_append]; split <;> simp <;> omega
theorem txC_le {nm : List By} (hn : ∀ x ∈ nm, x.length ≤ 60) (c : List Lt) (hc : c.length ≤ 6) (h : ∀ l ∈ c, (l.a.sm ∧ l.b.sm) ∧ l.a.wt ≤ 12 ∧ l.b.wt ≤ 12) : (txC nm c).length ≤ 200000 := by
  unfold txC
  split
  · decide
  · have h3 := joinP_len [32, 124, 32] (c.map (txL nm))
    rw [List.map_map] at h3
    have h4 := sumP_le (l := c) (f := (fun x : By => x.length + ([32, 124, 32] : By).length) ∘ txL nm) (g := fun _ => 24151) fun t ht => by
      obtain ⟨⟨h1, h2⟩, h5, h6⟩ := h t ht
      have := (txL_le hn t h1 h2 h5 h6).2.2
      show (txL nm t).length + 3 ≤ _
      omega
    have h5 : (c.map fun _ : Lt => 24151).sum = 24151 * c.length := by rw [List.map_const', List.sum_replicate_nat]; omega
    omega
end Go.Proofs.YtebhbnhijnpmcaaDoor

namespace Go.Proofs.YtebhbnhijnpmcaaDoor
open Go.RowKit
set_option linter.unusedVariables false
set_option linter.unusedSimpArgs false
set_option maxRecDepth 100000
def powT : Array Value := (Lib.pow10Tab.map fun z => Value.int .u64 z).toArray
theorem below_grow (w : World) (k : Nat) (os : Array Obj) : Below w.heap.size w (Go.Sort.grow (w.drewN k) os) := by
  refine ⟨rfl, rfl, rfl, ?_, fun i hi => ?_⟩
  · rw [Go.Sort.size_grow]; exact Nat.le_add_right _ _
  · show (w.heap ++ os)[i]? = _
    rw [Array.getElem?_append_left hi]
theorem tb_of {w : World} (h : Lib.TabIs Tryd.prog w "internal/strconv.uint64pow10" .u64 Lib.pow10Tab) : ∃ tb, Tb tb (fun _ => False) w ∧ ItoaN tb 1001 := by
  have h0 := h
  unfold Lib.TabIs World.var? at h
  obtain ⟨g, hg, h⟩ := Option.bind_eq_some_iff.1 h
  split at h
  · rename_i cs ty fl hc
    obtain rfl := Option.some.inj h
    refine ⟨some (g, .cells (Lib.pow10Tab.map fun z => Value.int .u64 z).toArray ty fl), fun g' x e => ?_, fun z hz => ?_⟩
    · cases e
      exact ⟨id, hc⟩
    · refine ⟨ent_of Tryd.func66 rfl rfl, .inl rfl, rfl, fun U w vs hq hv => ?_⟩
      obtain ⟨u, us, rfl, hu, hus⟩ := hv
      have hus : us = [] := hus
      subst hus
      obtain ⟨rfl, _⟩ := vrep_sc.1 hu
      have htab : Lib.TabIs Tryd.prog w "internal/strconv.uint64pow10" .u64 Lib.pow10Tab := by
        unfold Lib.TabIs World.var?
        rw [hg]
        show (match w.heap[g]? with | some (.cells cs _ _) => some cs | _ => none) = _
        rw [(hq g _ rfl).2]
      refine (Any.strconv_Itoa Tryd.laysM171 (z : Int) (by omega) (by omega) w htab).mono ?_
      rintro e w' ⟨rfl, k, os, rfl⟩
      exact ⟨_, rfl, vrep_sc.2 ⟨by rw [itoa_nat], rfl⟩, below_grow w k os⟩
  · cases h
end Go.Proofs.YtebhbnhijnpmcaaDoor
namespace Go.Proofs.YtebhbnhijnpmcaaDoor
open Go.RowKit
set_option linter.unusedVariables false
set_option linter.unusedSimpArgs false

end Go.Proofs.YtebhbnhijnpmcaaDoor
