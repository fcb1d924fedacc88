/-
  Control: one behind the other, choices, loops, ends; a call of a function as a whole.
-/
import Derived.Test.YtmdhefepaolhcaaAbRegion
namespace Go.Proofs.Ytmdhefepaolhcaa
open Go.RowKit
set_option linter.unusedVariables false
set_option linter.unusedSimpArgs false

section
variable {P : Program} {w0 : World} {U0 : UX} {nt : Nat} {Q : Exit → AS → Prop} {s : AS}

/-- Less is known. -/
def Wk (w0 : World) (U0 : UX) (nt : Nat) (s s' : AS) : Prop := ∀ a w, Sim w0 U0 nt s a w → Sim w0 U0 nt s' a w
theorem Wk.refl (s : AS) : Wk w0 U0 nt s s := fun _ _ h => h
theorem Wk.trans {s s' s'' : AS} (h : Wk w0 U0 nt s s') (h2 : Wk w0 U0 nt s' s'') : Wk w0 U0 nt s s'' := fun a w h3 => h2 a w (h a w h3)
theorem AWp.wk {c : Code} {s s' : AS} (h : Wk w0 U0 nt s s') (h2 : AWp P w0 U0 nt c Q s') : AWp P w0 U0 nt c Q s := fun a w hs => h2 a w (h a w hs)
/-- Each row of s' is told by s. -/
def SubL (s : AS) : AS → Prop
  | [] => True
  | (k, av) :: s' => look s k = some av ∧ SubL s s'
theorem SubL.sub {s : AS} : ∀ {s' : AS}, SubL s s' → Sub s s'
  | [], _, k, av, h => by simp [look] at h
  | (k', av') :: s', ⟨h1, h2⟩, k, av, h => by
    rw [look_cons] at h
    split at h
    · rename_i e; subst e; cases h; exact h1
    · exact SubL.sub h2 k av h
theorem wk_sub {s s' : AS} (h : SubL s s') : Wk w0 U0 nt s s' := fun a w hs => hs.sub h.sub

theorem awp_skip (h : Q .normal s) : AWp P w0 U0 nt .skip Q s := fun a w hs => wp_skip ⟨s, h, hs⟩
theorem awp_ret (h : Q .ret s) : AWp P w0 U0 nt .ret Q s := fun a w hs => wp_ret ⟨s, h, hs⟩
theorem awp_exit {id : Nat} (h : Q (.exit id) s) : AWp P w0 U0 nt (.exit id) Q s := fun a w hs => wp_exit ⟨s, h, hs⟩
/-- y behind x. -/
def thenQ (P : Program) (w0 : World) (U0 : UX) (nt : Nat) (y : Code) (Q : Exit → AS → Prop) : Exit → AS → Prop
  | .normal, s => AWp P w0 U0 nt y Q s
  | e, s => Q e s
theorem awp_seq {x y : Code} (h : AWp P w0 U0 nt x (thenQ P w0 U0 nt y Q) s) : AWp P w0 U0 nt (.seq x y) Q s := fun a w hs =>
  wp_seq (wp_mono (h a w hs) fun e a' w' ⟨s', h1, h2⟩ => by
    cases e with
    | normal => exact h1 a' w' h2
    | _ => exact ⟨s', h1, h2⟩)
def midQ (w0 : World) (U0 : UX) (nt : Nat) (st : AS) (Q : Exit → AS → Prop) : Exit → AS → Prop
  | .normal, s => Wk w0 U0 nt s st
  | e, s => Q e s
/-- y behind x, with this known between them. -/
theorem awp_mid {x y : Code} (st : AS) (hx : AWp P w0 U0 nt x (midQ w0 U0 nt st Q) s) (hy : AWp P w0 U0 nt y Q st) : AWp P w0 U0 nt (.seq x y) Q s :=
  awp_seq fun a w hs => wp_mono (hx a w hs) fun e a' w' ⟨s', h1, h2⟩ => by
    cases e with
    | normal => exact ⟨st, hy, h1 a' w' h2⟩
    | _ => exact ⟨s', h1, h2⟩
def blockQ (id : Nat) (Q : Exit → AS → Prop) : Exit → AS → Prop
  | .exit id', s => match Nat.beq id' id with | true => Q .normal s | false => Q (.exit id') s
  | e, s => Q e s
theorem awp_block {id : Nat} {c : Code} (h : AWp P w0 U0 nt c (blockQ id Q) s) : AWp P w0 U0 nt (.block id c) Q s := fun a w hs =>
  wp_block (wp_mono (h a w hs) fun e a' w' ⟨s', h1, h2⟩ => by
    cases e with
    | exit id' =>
      by_cases e : id' = id
      · subst e
        simp only [blockQ, Nat.beq_refl] at h1
        simp only [Exit.inBlock, if_true]
        exact ⟨s', h1, h2⟩
      · have : Nat.beq id' id = false := by
          cases hb : Nat.beq id' id with
          | false => rfl
          | true => exact absurd (Nat.eq_of_beq_eq_true hb) e
        simp only [blockQ, this] at h1
        simp only [Exit.inBlock, if_neg e]
        exact ⟨s', h1, h2⟩
    | _ => exact ⟨s', h1, h2⟩)
theorem awp_cond {c : Operand} {x y : Code} {b : Bool} {n q p} (hc : ev (look s) c = some ⟨0, .b b, n, q, p⟩) (ht : b = true → AWp P w0 U0 nt x Q s) (hf : b = false → AWp P w0 U0 nt y Q s) : AWp P w0 U0 nt (.cond c x y) Q s := fun a w hs => by
  obtain ⟨D, hv, h⟩ := hs
  have e := ev_sc h (fun k _ => rfl) hc
  cases b with
  | true => exact wp_cond_true e (ht rfl a w ⟨D, hv, h⟩)
  | false => exact wp_cond_false e (hf rfl a w ⟨D, hv, h⟩)

theorem least (p : Nat → Prop) (h : ∃ n, p n) : ∃ n, p n ∧ ∀ m, p m → n ≤ m := by
  obtain ⟨n, hn⟩ := h
  induction n using Nat.strongRecOn with
  | ind n ih =>
    by_cases hx : ∃ m, m < n ∧ p m
    · obtain ⟨m, h1, h2⟩ := hx
      exact ih m h1 h2
    · exact ⟨n, hn, fun m hm => Nat.le_of_not_lt fun hlt => hx ⟨m, hlt, hm⟩⟩

def loopQ (w0 : World) (U0 : UX) (nt : Nat) (J : Nat → AS → Prop) (n : Nat) (Q : Exit → AS → Prop) : Exit → AS → Prop
  | .normal, s => ∃ m s', m < n ∧ J m s' ∧ Wk w0 U0 nt s s'
  | e, s => Q e s
/-- A loop: J n holds at its head, n goes down. -/
theorem awp_loop {c : Code} (J : Nat → AS → Prop) {n : Nat} {s' : AS} (hs0 : Wk w0 U0 nt s s') (h0 : J n s') (hr : ∀ n s, J n s → AWp P w0 U0 nt c (loopQ w0 U0 nt J n Q) s) : AWp P w0 U0 nt (.loop c) Q s := fun a w hs => by
  classical
  let p : Act → World → Nat → Prop := fun a w n => ∃ s, J n s ∧ Sim w0 U0 nt s a w
  let μ : Act → World → Nat := fun a w => if h : ∃ n, p a w n then Classical.choose (least _ h) else 0
  have hμ : ∀ a w n, p a w n → p a w (μ a w) ∧ μ a w ≤ n := fun a w n hn => by
    have h : ∃ n, p a w n := ⟨n, hn⟩
    have := Classical.choose_spec (least _ h)
    simp only [μ, dif_pos h]
    exact ⟨this.1, this.2 n hn⟩
  refine wp_loop (fun a w => ∃ n, p a w n) μ ⟨n, s', h0, hs0 a w hs⟩ ?_
  rintro a w ⟨n, hn⟩
  obtain ⟨⟨s1, h1, h2⟩, _⟩ := hμ a w n hn
  refine wp_mono (hr _ s1 h1 a w h2) ?_
  rintro e a' w' ⟨s2, h3, h4⟩
  cases e with
  | normal =>
    obtain ⟨m, s3, h5, h6, h7⟩ := h3
    have := hμ a' w' m ⟨s3, h6, h7 a' w' h4⟩
    exact ⟨⟨_, this.1⟩, by omega⟩
  | _ => exact ⟨s2, h3, h4⟩

def countQ (w0 : World) (U0 : UX) (nt : Nat) (st : Nat → AS) (N k : Nat) (Q : Exit → AS → Prop) : Exit → AS → Prop
  | .normal, s => k < N ∧ Wk w0 U0 nt s (st (k + 1))
  | e, s => Q e s
/-- A loop that counts up to N at most. -/
theorem awp_count {c : Code} (N : Nat) (st : Nat → AS) (hs0 : Wk w0 U0 nt s (st 0)) (hr : ∀ k, k ≤ N → AWp P w0 U0 nt c (countQ w0 U0 nt st N k Q) (st k)) : AWp P w0 U0 nt (.loop c) Q s := by
  refine awp_loop (fun n s => ∃ k, k ≤ N ∧ n = N - k ∧ s = st k) (n := N) hs0 ⟨0, Nat.zero_le _, rfl, rfl⟩ ?_
  rintro n s ⟨k, hk, rfl, rfl⟩ a w hs
  refine wp_mono (hr k hk a w hs) ?_
  rintro e a' w' ⟨s', h1, h2⟩
  cases e with
  | normal => exact ⟨s', ⟨N - (k + 1), st (k + 1), by have := h1.1; omega, ⟨k + 1, h1.1, rfl, rfl⟩, h1.2⟩, h2⟩
  | _ => exact ⟨s', h1, h2⟩

def countQI (w0 : World) (U0 : UX) (nt : Nat) (I : Nat → Prop) (st : Nat → AS) (N k : Nat) (Q : Exit → AS → Prop) : Exit → AS → Prop
  | .normal, s => k < N ∧ I (k + 1) ∧ Wk w0 U0 nt s (st (k + 1))
  | e, s => Q e s
/-- A loop that counts up to N at most, with something that holds at its head. -/
theorem awp_countI {c : Code} (N : Nat) (I : Nat → Prop) (st : Nat → AS) (hs0 : Wk w0 U0 nt s (st 0)) (hI : I 0) (hr : ∀ k, k ≤ N → I k → AWp P w0 U0 nt c (countQI w0 U0 nt I st N k Q) (st k)) : AWp P w0 U0 nt (.loop c) Q s := by
  refine awp_loop (fun n s => ∃ k, k ≤ N ∧ I k ∧ n = N - k ∧ s = st k) (n := N) hs0 ⟨0, Nat.zero_le _, hI, rfl, rfl⟩ ?_
  rintro n s ⟨k, hk, hI, rfl, rfl⟩ a w hs
  refine wp_mono (hr k hk hI a w hs) ?_
  rintro e a' w' ⟨s', h1, h2⟩
  cases e with
  | normal => exact ⟨s', ⟨N - (k + 1), st (k + 1), by have := h1.1; omega, ⟨k + 1, h1.1, h1.2.1, rfl, rfl⟩, h1.2.2⟩, h2⟩
  | _ => exact ⟨s', h1, h2⟩

/-- The arguments in their slots. -/
def argS : List CV → Nat → AS
  | [], _ => []
  | c :: cs, i => (i, .val c) :: argS cs (i + 1)
theorem look_argS : ∀ {cs : List CV} {i k : Nat} {av : AV}, look (argS cs i) k = some av → i ≤ k ∧ ∃ c, cs[k - i]? = some c ∧ av = .val c
  | [], _, _, _, h => by simp [argS, look] at h
  | c :: cs, i, k, av, h => by
    rw [argS, look_cons] at h
    split at h
    · rename_i e; subst e; cases h; exact ⟨Nat.le_refl _, c, by simp, rfl⟩
    · rename_i e
      obtain ⟨h1, c', h2, h3⟩ := look_argS h
      refine ⟨by omega, c', ?_, h3⟩
      rw [show k - i = (k - (i + 1)) + 1 by omega]
      simpa using h2

/-- What the results are. -/
noncomputable def resO (P : Program) (s : AS) : List ResultVar → Option (List CV)
  | [] => some []
  | .tmp t :: rs => match Nat.blt t 100000, look s t, resO P s rs with
    | true, some ⟨0, c, _, _, _⟩, some cs => some (c :: cs)
    | _, _, _ => none
  | .cell t ty :: rs => match Nat.blt t 100000, look s t, P.underlying ty, P.info? ty, resO P s rs with
    | true, some ⟨2, _, n, 0, []⟩, some ds, some it, some cs => match Nat.blt n 400000, look s (100000 + n) with
      | true, some ⟨5, c, _, _, _⟩ => match Nat.beq c.size it.size, aggB ds, Nat.beq c.k 2 with
        | true, true, true => some (c :: cs)
        | true, false, false => some (c :: cs)
        | _, _, _ => none
      | _, _ => none
    | _, _, _, _, _ => none

def resF (tmps : Array Value) : ResultVar → Sem Value
  | .tmp t => pure (tmps.getD t undef)
  | .cell b t => do loadVar t (← asAddr (tmps.getD b undef))
theorem results_eq (fn : Func) (tmps : Array Value) : results fn tmps = (do let vs ← fn.results.mapM (resF tmps); pure (if h : vs.size = 1 then vs[0] else .tuple vs)) := by
  unfold results
  congr 1
theorem resO_spec {a : Act} {w : World} {D : Nat → Nat → Prop} {hv : Nat → Value} (h : SimG w0 U0 nt s a w D hv) : ∀ {rs : List ResultVar} {cs : List CV}, resO P s rs = some cs → ∃ vs : List Value, VReps (Us w0 U0 D) w cs vs ∧ (rs.mapM (resF a.tmps)).run P w = .ok vs w
  | [], cs, hr => by simp [resO] at hr; subst hr; exact ⟨[], rfl, by simp⟩
  | .tmp t :: rs, cs, hr => by
    unfold resO at hr
    split at hr
    · rename_i c n q p cs' h1 h2 h3
      cases hr
      obtain ⟨vs, h4, h5⟩ := resO_spec h h3
      obtain ⟨v, h6, h7⟩ := h.slot t _ h2 (blt_lt h1)
      refine ⟨v :: vs, ⟨v, vs, rfl, h7.1, h4⟩, ?_⟩
      have : a.tmps.getD t undef = v := by simp [Array.getD_eq_getD_getElem?, h6]
      simp [List.mapM_cons, resF, this, h5]
    · cases hr
  | .cell t ty :: rs, cs, hr => by
    unfold resO at hr
    split at hr
    · rename_i c0 n ds it cs' h1 h2 h3 h4 h5
      split at hr
      · rename_i c n' q p g1 g2
        obtain ⟨vs, h6, h7⟩ := resO_spec h h5
        obtain ⟨v, h8, h9⟩ := h.slot t _ h2 (blt_lt h1)
        obtain ⟨g, xs, tt, hgv, b1, b2, _⟩ := h.box g2 (blt_lt g1)
        have hv1 : v = .pointer (some ⟨blkOf (hv (100000 + n)), 0, none⟩) := h9.2
        have hgb : blkOf (hv (100000 + n)) = g := by rw [hgv]; rfl
        rw [hgb] at hv1
        have hk : aggB ds = Nat.beq c.k 2 ∧ c.size = it.size ∧ cs = c :: cs' := by
          split at hr
          · rename_i e1 e2 e3; cases hr; exact ⟨by rw [e2, e3], Nat.eq_of_beq_eq_true e1, rfl⟩
          · rename_i e1 e2 e3; cases hr; exact ⟨by rw [e2, e3], Nat.eq_of_beq_eq_true e1, rfl⟩
          · cases hr
        obtain ⟨hk1, hk2, rfl⟩ := hk
        obtain ⟨u, l1, l2, _⟩ := run_loadTree (P := P) (w := w) h3 (by rw [h4]; rfl) hk1 hk2 b2 (b := g) (off := 0) (fun i hi => by
          have := box_cells_at (ys := []) (us := []) b1 (by simp) i hi
          simpa using this)
        refine ⟨u :: vs, ⟨u, vs, rfl, l2, h6⟩, ?_⟩
        have : a.tmps.getD t undef = .pointer (some ⟨g, 0, none⟩) := by simp [Array.getD_eq_getD_getElem?, h8, hv1]
        simp [List.mapM_cons, resF, this, asAddr, l1, h7]
      · cases hr
    · cases hr

/-- The result as a whole. -/
def resAV : List CV → AV
  | [c] => .val c
  | cs => .tup cs
theorem res_run {a : Act} {w : World} {D : Nat → Nat → Prop} {hv : Nat → Value} (h : SimG w0 U0 nt s a w D hv) {fn : Func} {cs : List CV} (hr : resO P s fn.results.toList = some cs) : ∃ v, (results fn a.tmps).run P w = .ok v w ∧ RR (Us w0 U0 D) w (resAV cs) v := by
  obtain ⟨vs, h1, h2⟩ := resO_spec h hr
  have hm : (fn.results.mapM (resF a.tmps)).run P w = .ok vs.toArray w := by
    rw [Array.mapM_eq_mapM_toList]
    simp [h2]
  have hlen := h1.len
  refine ⟨if hv : vs.toArray.size = 1 then vs.toArray[0] else .tuple vs.toArray, ?_, ?_⟩
  · rw [results_eq]
    simp [hm]
  · match cs, vs, h1, hlen with
    | [c], vs, ⟨u, us, e, h3, h4⟩, _ =>
      have h4 : us = [] := h4
      subst h4; subst e
      simpa [resAV, RR] using h3
    | [], vs, h1, hlen =>
      have : vs = [] := h1
      subst this
      exact ⟨[], rfl, rfl⟩
    | c1 :: c2 :: cs, vs, h1, hlen =>
      have : vs.toArray.size ≠ 1 := by simp at hlen ⊢; omega
      rw [dif_neg this]
      exact ⟨vs, rfl, h1⟩

/-- A key that no argument has. -/
theorem argS_none {args : List CV} {k : Nat} (hl : args.length ≤ k) : look (argS args 0) k = none := by
  cases h1 : look (argS args 0) k with
  | none => rfl
  | some av =>
    obtain ⟨_, c', h3, _⟩ := look_argS h1
    rw [Nat.sub_zero, List.getElem?_eq_none hl] at h3
    cases h3
/-- A function's contract out of its body. -/
theorem afun_of {W : World} {f : FuncId} {fn : Func} {c : Code} {args rs : List CV} (hf : P.funcs[f]? = some fn) (hn : fn.ntmps = nt) (hname : (fn.name == "runtime.NumGoroutine") = false) (hb : fn.body = some c) (hl : Nat.ble args.length nt = true) (hnt : Nat.blt nt 100000 = true)
    (h : ∀ (w : World) (U : UX), Hw W w U → AWp P w U nt c (fun e s' => (e = .normal ∨ e = .ret) ∧ resO P s' fn.results.toList = some rs) (argS args 0)) : AFun P W f args (resAV rs) := by
  have hr2 : ((resAV rs).t = 0 ∨ (resAV rs).t = 4) ∧ (resAV rs).n = 0 := by
    unfold resAV
    split
    · exact ⟨.inl rfl, rfl⟩
    · exact ⟨.inr rfl, rfl⟩
  refine ⟨ent_of hf hname (by rw [hb]; rfl), hr2.1, hr2.2, fun U w vs hW hargs => ?_⟩
  have hlen := hargs.len
  refine calls_of_wp hf hb ?_
  have hle := Nat.le_of_ble_eq_true hl
  have hnt := blt_lt hnt
  have hno : ∀ {k av}, 100000 ≤ k → look (argS args 0) k = some av → False := fun {k av} h1 h2 => by rw [argS_none (by omega)] at h2; cases h2
  obtain ⟨V, hV⟩ : ∃ V : UX, V = ⟨U, fun _ => False, fun _ => none, fun _ _ h => by cases h⟩ := ⟨_, rfl⟩
  have hs : Sim w V nt (argS args 0) { tmps := vs.toArray ++ Array.replicate (fn.ntmps - vs.toArray.size) undef, defers := [] } w := by
    refine ⟨fun _ _ => False, fun _ => .slice none 0 0, BelowX.refl _ _, rfl, by simp [hn]; omega, fun d av h1 h2 => ?_, fun n o av h1 => (hno (by unfold fKey; omega) h1).elim, fun n o o' av av' h1 => (hno (by unfold fKey; omega) h1).elim, fun k av h1 h2 => (hno h2.1 h1).elim, fun k av g h1 h2 => (hno h2.1 h1).elim, fun k k' av av' g h1 h2 h3 => (hno h3.1 h1).elim, fun n g h1 => (by rw [hV] at h1; cases h1), fun b o hd => hd.elim⟩
    obtain ⟨_, c', h3, rfl⟩ := look_argS h1
    rw [Nat.sub_zero] at h3
    obtain ⟨v, h4, h5⟩ := hargs.at h3
    have hdl : d < vs.length := by
      rcases Nat.lt_or_ge d vs.length with h | h
      · exact h
      · rw [List.getElem?_eq_none h] at h4; cases h4
    refine ⟨v, ?_, avrep_val (h5.keep fun b o v hu hc => ⟨.inl ⟨World.block_lt_of_cell? w _ hc, by rw [hV]; exact ⟨hu, fun h => h⟩⟩, hc⟩)⟩
    rw [Array.getElem?_append_left (by simpa using hdl)]
    simpa using h4
  refine wp_mono (h w V (by rw [hV]; exact ⟨fun _ => rfl, fun _ h => h⟩) _ w hs) ?_
  rintro e a' w' ⟨s', ⟨h1, h2⟩, D, hv, h3⟩
  obtain ⟨v, h4, h5⟩ := res_run h3 h2
  have hR : RR (fun b o => U b o ∨ w.heap.size ≤ b) w' (resAV rs) v := by
    have hk : ∀ b o u, Us w V D b o → w'.cell? ⟨b, o, none⟩ = some u → (U b o ∨ w.heap.size ≤ b) ∧ w'.cell? ⟨b, o, none⟩ = some u := fun b o u hu hc => ⟨hu.imp (fun h => by rw [hV] at h; exact h.2.1) fun h => h.1, hc⟩
    unfold RR at h5 ⊢
    split
    · rename_i ht
      rw [if_pos ht] at h5
      obtain ⟨vs, h6, h7⟩ := h5
      exact ⟨vs, h6, h7.keep hk⟩
    · rename_i ht
      rw [if_neg ht] at h5
      exact h5.keep hk
  have hbw : Below w.heap.size w w' := h3.below.below (by rw [hV]; exact fun _ h => h)
  rcases h1 with rfl | rfl
  · exact ⟨h3.dfr, v, h4, v, rfl, hR, hbw⟩
  · exact ⟨h3.dfr, v, h4, v, rfl, hR, hbw⟩
end
end Go.Proofs.Ytmdhefepaolhcaa
