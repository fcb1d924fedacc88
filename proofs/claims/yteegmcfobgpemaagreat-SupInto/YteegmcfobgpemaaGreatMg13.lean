/-
  AbYield2 AbYield3 SuWalk SuSym SuWays SuMeet SuPut
-/
import Derived.Test.YteegmcfobgpemaaGreatMg12
import Derived.Test.YteegmcfobgpemaaGreatMg7
import Derived.Test.YteegmcfobgpemaaGreatMg11
import Derived.Test.YteegmcfobgpemaaGreatMg9
namespace Go.Proofs.YteegmcfobgpemaaGreat
open Go.RowKit Go.MapKept
set_option linter.unusedVariables false
set_option linter.unusedSimpArgs false
section
variable {P : Program} {w0 : World} {U0 : UX} {nt : Nat} {s : AS}

theorem callsO_of {f : FuncId} {fn : Func} {c : Code} {pre post : AS} {args : List AV} {r : AV} (hf : P.funcs[f]? = some fn) (hn : fn.ntmps = nt) (hb : fn.body = some c) (hl : Nat.ble args.length nt = true) (hnt : Nat.blt nt 100000 = true) (hpre : (kO pre).all (Nat.ble 100000) = true) (hpost : (kO post).all (Nat.ble 100000) = true) {w : World} {U : UX} (hU : ∀ k v, U.f k = some v → hasN (kO pre) k = true)
    (h : AWp P w U nt c (fun e s' => (e = .normal ∨ e = .ret) ∧ EndO P w U nt fn s' r post) (argA args 0 ++ pre)) {hv : Nat → Value} {a0 : Act} {vs : List Value} (hpS : SimG w U 0 pre a0 w (fun _ _ => False) hv) (hargs : AVReps (Us w U (fun _ _ => False)) w hv (LiveN pre) args vs) :
    Calls P f vs.toArray w fun e w' => ∃ v D' hv' a', e = .returned v ∧ SimG w U 0 post a' w' D' hv' ∧ AVRep (Us w U D') w' hv' (LiveN post) r v := by
  have hlen := hargs.len
  refine calls_of_wp hf hb ?_
  have hle := Nat.le_of_ble_eq_true hl
  have hnt := bL hnt
  have hlow : ∀ {k av}, look pre k = some av → 100000 ≤ k := fun {k av} h1 => by
    rw [List.all_eq_true] at hpre
    exact Nat.le_of_ble_eq_true (hpre k (mem_keys h1))
  have hlk : ∀ {k}, 100000 ≤ k → look (argA args 0 ++ pre) k = look pre k := fun {k} h1 => by
    rw [look_append]
    cases h2 : look (argA args 0) k with
    | none => rfl
    | some av =>
      obtain ⟨_, h3⟩ := look_argA h2
      rw [Nat.sub_zero, List.getElem?_eq_none (by omega)] at h3
      cases h3
  have hlive : LiveN (argA args 0 ++ pre) = LiveN pre := by
    funext n
    unfold LiveN Live
    apply propext
    constructor
    · rintro (h1 | ⟨e, h1, h2, h3⟩)
      · exact .inl h1
      · rw [hlk (by omega)] at h1; exact .inr ⟨e, h1, h2, h3⟩
    · rintro (h1 | ⟨e, h1, h2, h3⟩)
      · exact .inl h1
      · exact .inr ⟨e, by rw [hlk (by omega)]; exact h1, h2, h3⟩
  have hs : Sim w U nt (argA args 0 ++ pre) { tmps := vs.toArray ++ Array.replicate (fn.ntmps - vs.toArray.size) undef, defers := [] } w := by
    refine ⟨fun _ _ => False, hv, hpS.below, rfl, by simp [hn]; omega, fun d av h1 h2 => ?_, fun n o av h1 h2 h3 h4 => ?_, fun n o o' av av' h1 h2 => ?_, fun k av h1 h2 => ?_, fun k av g h1 h2 => ?_, fun k k' av av' g h1 h2 h3 h4 => ?_, hpS.fix, fun b o hd => hd.elim⟩
    · rw [look_append] at h1
      cases h3 : look (argA args 0) d with
      | none =>
        rw [h3] at h1
        have := hlow h1
        omega
      | some av' =>
        rw [h3] at h1
        cases h1
        obtain ⟨_, h4⟩ := look_argA h3
        rw [Nat.sub_zero] at h4
        obtain ⟨v, h6, h7⟩ := hargs.at h4
        have hdl : d < vs.length := by
          rcases Nat.lt_or_ge d vs.length with h | h
          · exact h
          · rw [List.getElem?_eq_none h] at h6; cases h6
        rw [hlive]
        refine ⟨v, ?_, h7⟩
        rw [Array.getElem?_append_left (by simpa using hdl)]
        simpa using h6
    · rw [hlk (by unfold fKey; omega)] at h1
      rw [hlk (by omega)] at h3
      rw [hlive]
      exact hpS.fld n o av h1 h2 h3 h4
    · rw [hlk (by unfold fKey; omega)] at h1 h2
      exact hpS.fdis n o o' av av' h1 h2
    · rw [hlk h2.1] at h1; rw [hlive]; exact hpS.obj k av h1 h2
    · rw [hlk h2.1] at h1; exact hpS.blk k av g h1 h2
    · rw [hlk h3.1] at h1; rw [hlk h4.1] at h2; exact hpS.disj k k' av av' g h1 h2 h3 h4
  refine wp_mono ((h ⟨none, []⟩ _ w hs).wp rfl (fun e a w ⟨s, _, h⟩ => h.df)) ?_
  rintro e a' w' ⟨s', ⟨h1, s2, g1, g2, g3⟩, h3⟩
  obtain ⟨D', hv', h4⟩ := g1 a' w' h3
  obtain ⟨v, h5, h6⟩ := resA_run h4 g2
  have hS := h4.sub g3.sub
  have hlow2 : ∀ {k av}, look post k = some av → 100000 ≤ k := fun {k av} h1 => by
    rw [List.all_eq_true] at hpost
    exact Nat.le_of_ble_eq_true (hpost k (mem_keys h1))
  have hS0 : SimG w U 0 post ⟨#[], []⟩ w' D' hv' := ⟨hS.below, rfl, rfl, fun d av h7 h8 => by have := hlow2 h7; omega, hS.fld, hS.fdis, hS.obj, hS.blk, hS.disj, hS.fix, hS.dlt⟩
  rcases h1 with rfl | rfl
  · exact ⟨h4.dfr, v, h5, v, D', hv', _, rfl, hS0, h6.move (fun _ _ _ h1 h2 => ⟨h1, h2⟩) (fun _ h7 => h7.imp id fun ⟨e, he⟩ => ⟨e, g3.sub _ _ he.1, he.2⟩) fun _ => rfl⟩
  · exact ⟨h4.dfr, v, h5, v, D', hv', _, rfl, hS0, h6.move (fun _ _ _ h1 h2 => ⟨h1, h2⟩) (fun _ h7 => h7.imp id fun ⟨e, he⟩ => ⟨e, g3.sub _ _ he.1, he.2⟩) fun _ => rfl⟩
theorem afunY_of {f : FuncId} {fn : Func} {c : Code} {pre post : AS} {args : List AV} {r : AV} {Wb : World} {Ub : UX} (hf : P.funcs[f]? = some fn) (hn : fn.ntmps = nt) (hname : (fn.name == "runtime.NumGoroutine") = false) (hb : fn.body = some c) (hl : Nat.ble args.length nt = true) (hnt : Nat.blt nt 100000 = true) (hpre : (kO pre).all (Nat.ble 100000) = true) (hpost : (kO post).all (Nat.ble 100000) = true)
    (h : ∀ (w : World) (U : UX), On Wb Ub w U → (∀ k v, U.f k = some v → hasN (kO pre) k = true) → AWp P w U nt c (fun e s' => (e = .normal ∨ e = .ret) ∧ EndO P w U nt fn s' r post) (argA args 0 ++ pre)) : AFunY P Wb Ub f pre args r post :=
  ⟨ent_of hf hname (by rw [hb]; rfl), fun U w hv a0 vs hon hU hpS hargs => callsO_of hf hn hb hl hnt hpre hpost hU (h w U hon hU) hpS hargs⟩
theorem afunYM_of {f : FuncId} {fn : Func} {c : Code} {pre post : AS} {args : List AV} {r : AV} {Wb : World} {Ub : UX} (hf : P.funcs[f]? = some fn) (hn : fn.ntmps = nt) (hname : (fn.name == "runtime.NumGoroutine") = false) (hb : fn.body = some c) (hl : Nat.ble args.length nt = true) (hnt : Nat.blt nt 100000 = true) (hpre : (kO pre).all (Nat.ble 100000) = true) (hpost : (kO post).all (Nat.ble 100000) = true)
    (h : ∀ (w : World) (U : UX), On Wb Ub w U → (∀ k v, U.f k = some v → hasN (kO pre) k = true) → AWpM P w U nt c (fun e s' g => (e = .normal ∨ e = .ret) ∧ ∃ s2, Wk w U nt s' ((299999, .ob g 0) :: s2) ∧ resA P s2 fn.results.toList = some r ∧ SubL s2 post ∧ look s2 299999 = none) (argA args 0 ++ pre)) : AFunY P Wb Ub f pre args r post :=
  ⟨ent_of hf hname (by rw [hb]; rfl), fun U w hv a0 vs hon hU hpS hargs => callsM_of hf hn hb hl hnt hpre hpost (h w U hon hU) hpS hargs⟩

def parA : List Tmp → List AV → AS → AS
  | p :: ps, c :: cs, s => parA ps cs ((p, c) :: s)
  | _, _, s => s
theorem SlOk.parA {R : AV → Value → Prop} : ∀ {ps : List Tmp} {cs : List AV} {vs : List Value} {s : AS} {tm : Array Value}, SlOk R s tm → (ps.all fun p => Nat.blt p tm.size) = true → (∀ (i : Nat) (c : AV), cs[i]? = some c → ∃ v, vs[i]? = some v ∧ R c v) → vs.length = cs.length → SlOk R (parA ps cs s) (parT ps vs tm) ∧ (parT ps vs tm).size = tm.size
  | [], cs, vs, s, tm, h, _, _, _ => ⟨by cases cs <;> exact h, rfl⟩
  | p :: ps, [], vs, s, tm, h, _, hv, hl => by
    have : vs = [] := List.eq_nil_of_length_eq_zero hl
    subst this
    exact ⟨h, rfl⟩
  | p :: ps, c :: cs, [], s, tm, h, _, _, hl => by cases hl
  | p :: ps, c :: cs, u :: us, s, tm, h, hl, hv, hvl => by
    rw [List.all_cons, Bool.and_eq_true] at hl
    obtain ⟨v, h1, h2⟩ := hv 0 c rfl
    cases h1
    have := SlOk.parA (ps := ps) (cs := cs) (vs := us) (s := (p, c) :: s) (tm := tm.setIfInBounds p u) (h.set (bL hl.1) h2) (by rw [Array.size_setIfInBounds]; exact hl.2) (fun i c hc => hv (i + 1) c hc) (by simpa using hvl)
    exact ⟨this.1, by show (parT ps us (tm.setIfInBounds p u)).size = _; rw [this.2, Array.size_setIfInBounds]⟩
theorem parA_keys : ∀ (nt : Nat) (ps : List Tmp) (cs : List AV) (sl : AS), (ps.all fun p => Nat.blt p nt && Nat.blt p 100000) = true → (kO sl).all (fun k => Nat.blt k 100000) = true → (kO (parA ps cs sl)).all (fun k => Nat.blt k 100000) = true
  | nt, [], cs, sl, _, h => by cases cs <;> exact h
  | nt, p :: ps, [], sl, h1, h2 => h2
  | nt, p :: ps, c :: cs, sl, h1, h2 => by
    rw [List.all_cons, Bool.and_eq_true] at h1
    have h3 := h1.1
    rw [Bool.and_eq_true] at h3
    refine parA_keys nt ps cs ((p, c) :: sl) h1.2 ?_
    show ((p :: kO sl).all _) = true
    rw [List.all_cons, Bool.and_eq_true]
    exact ⟨h3.2, h2⟩
def SlP : AS → Prop
  | [] => True
  | (_, av) :: s => ((∃ c, av = .val c) ∨ av = .bp 350001 0 []) ∧ SlP s
theorem SlP.at : ∀ {s : AS} {d : Nat} {av : AV}, SlP s → look s d = some av → (∃ c, av = .val c) ∨ av = .bp 350001 0 []
  | [], _, _, _, h => by simp [look] at h
  | (k, x) :: s, d, av, ⟨h1, h2⟩, h => by
    rw [look_cons] at h
    split at h
    · cases h; exact h1
    · exact h2.at h
def HdOk (nt X : Nat) (f : Value → AS) : Prop := (∀ v, f v = []) ∨ ∃ d, (∀ v, f v = [(d, .hdl v X)]) ∧ d < nt ∧ d < 100000 ∧ RN X

theorem yld_round {ps : List Tmp} {assign body : Code} {sl pre post : AS} {L X : Nat} {args : Value → List AV} {hdl : Value → AS} {fn : FuncId} {df : Nat} {tm : Array Value} {W1 : World} {V : UX} {hv0 : Nat → Value}
    (hfn2 : (Fence.wide).fn fn) (h01 : On w0 U0 W1 V) (hL0 : w0.heap.size ≤ L)
    (hW1 : W1.heap[L]? = some (.loop (recOf fn tm ps.toArray assign body df .ready))) (hnL : ¬ V.x L)
    (htm : tm.size = nt) (hps : (ps.all fun p => Nat.blt p nt && Nat.blt p 100000) = true) (hal : ∀ v, (args v).length = ps.length) (hslk : (kO sl).all (fun k => Nat.blt k 100000) = true)
    (hsl : ∀ d av, look sl d = some av → ∃ v, tm[d]? = some v ∧ ((∃ c, av = .val c ∧ VRep (Us W1 V (fun _ _ => False)) W1 c v) ∨ (av = .bp 350001 0 [] ∧ v = .pointer (some ⟨blkOf (hv0 450001), 0, none⟩)))) (hvf : V.f 450001 = some (hv0 450001))
    (hpre : (kO pre).all (Nat.ble 100000) = true) (hpost : (kO post).all (Nat.ble 100000) = true) (hhd : HdOk nt X hdl)
    (hround : ∀ (v : Value) (w : World) (U : UX), (∀ k v, U.f k = some v → hasN (kO pre) k = true) → On w0 U0 w U → AWp P w U nt assign (fun e s1 => e = .normal ∧ ∀ w', On w0 U0 w' U → AWpN P w' U nt body (fun e s' => e = .normal ∧ Wk w' U nt s' post) s1) (parA ps (args v) (hdl v ++ sl) ++ pre)) :
    YldC P W1 V L X pre args post := by
  intro U w hv a0 vs hon hU hS hargs
  have hlt : L < W1.heap.size := (Array.getElem?_eq_some_iff.1 hW1).1
  have hLw : w.heap[L]? = some (.loop (recOf fn tm ps.toArray assign body df .ready)) := (hon.below.block L hlt hnL).trans hW1
  have hltw : L < w.heap.size := (Array.getElem?_eq_some_iff.1 hLw).1
  have hnU : ¬ U.x L := fun h => by
    rcases hon.x L h with h | h
    · exact hnL h
    · omega
  have hloop : ∀ (r : Loop) xs ty fl, Obj.loop r ≠ .cells xs ty fl := fun r xs ty fl e => by cases e
  have hlen : vs.length = ps.length := hargs.len.trans (hal _)
  have hy := run_yield (P := P) (args := vs.toArray) hLw (by show vs.toArray.size = ps.toArray.size; simp [hlen])
  have hk : ∀ b o u, Us W1 V (fun _ _ => False) b o → W1.cell? ⟨b, o, none⟩ = some u → Us w U (fun _ _ => False) b o ∧ w.cell? ⟨b, o, none⟩ = some u := fun b o u hu hc => by
    rcases hu with ⟨g1, g2, g3⟩ | ⟨_, g⟩
    · refine ⟨.inl ⟨Nat.lt_of_lt_of_le g1 hon.below.size, hon.m b o g1 g2 g3, fun h => ?_⟩, ?_⟩
      · rcases hon.x b h with h | h
        · exact g3 h
        · omega
      · rw [World.cell?_of_block (w := W1) (hon.below.block b g1 g3)]; exact hc
    · exact g.elim
  have hslv : SlOk (fun av v => AVRep (Us w U (fun _ _ => False)) w hv (LiveN pre) av v) (hdl (hv X) ++ sl) tm := fun d av h1 => by
    have hsl2 : ∀ d av, look sl d = some av → ∃ v, tm[d]? = some v ∧ AVRep (Us w U (fun _ _ => False)) w hv (LiveN pre) av v := fun d av h1 => by
      obtain ⟨v, h3, h4⟩ := hsl d av h1
      refine ⟨v, h3, ?_⟩
      rcases h4 with ⟨c, rfl, h4⟩ | ⟨rfl, rfl⟩
      · exact avrep_val (h4.keep hk)
      · have e := hS.fix 450001 _ (hon.f _ hvf)
        show BN 350001 ∧ _ = Value.pointer (some ⟨blkOf (hv 450001), 0, none⟩)
        rw [e]
        exact ⟨.inr ⟨by omega, by omega⟩, rfl⟩
    rcases hhd with h2 | ⟨dd, h2, h3, h4, h5⟩
    · rw [h2] at h1; exact hsl2 d av h1
    · rw [h2] at h1
      have h1 : look ((dd, AV.hdl (hv X) X) :: sl) d = some av := h1
      by_cases e : dd = d
      · subst e
        rw [lS] at h1
        injection h1 with h1
        subst h1
        exact ⟨_, Array.getElem?_eq_getElem (by omega), h5, rfl⟩
      · rw [lN e] at h1
        exact hsl2 d av h1
  have hkeys : (kO (hdl (hv X) ++ sl)).all (fun k => Nat.blt k 100000) = true := by
    rcases hhd with h2 | ⟨dd, h2, h3, h4, h5⟩
    · rw [h2]; exact hslk
    · rw [h2]
      show ((dd :: kO sl).all _) = true
      rw [List.all_cons, hslk, Bool.and_true]
      exact Nat.ble_eq_true_of_le (by omega)
  have hpar := hslv.parA (ps := ps) (cs := args (hv X)) (vs := vs) (by
    rw [List.all_eq_true] at hps ⊢
    intro p hp
    have := hps p hp
    rw [Bool.and_eq_true] at this
    rw [htm]; exact this.1) (fun i c hc => hargs.at hc) hargs.len
  have hF := (hS.bare (post := pre) (fun _ _ h => h) hpre).frame (nt := nt) hpre (parA_keys nt ps _ _ hps hkeys) (tmps := parT ps vs tm) (by rw [hpar.2]; exact htm) hpar.1
  have hon1 := h01.trans hon
  refine ⟨fn, _, assign, body, hy, roundIn_of_wpIn hfn2 ?_⟩
  have hzp : (ps.toArray.zip vs.toArray).foldl (fun t (p, v) => t.setIfInBounds p v) tm = parT ps vs tm := zip_par ps vs tm
  show assign.wpIn _ _ _ _ ⟨(ps.toArray.zip vs.toArray).foldl (fun t (p, v) => t.setIfInBounds p v) tm, []⟩ w
  rw [hzp]
  refine wpIn_mono (hround (hv X) w U hU hon1 ⟨some L, []⟩ _ w ⟨_, hv, hF⟩) ?_
  rintro e a' W' ⟨a'', rfl, s1, ⟨rfl, hbd⟩, D1, hv1, h1⟩
  have hr1 : W'.heap[L]? = some (.loop (recOf fn tm ps.toArray assign body df .ready)) := (h1.below.block L hltw hnU).trans hLw
  refine ⟨_, run_beginRound hr1 rfl, ?_⟩
  have h2 := h1.rebase hLw hnU (hloop _) (.loop (recOf fn tm ps.toArray assign body df .busy))
  have hon2 : On w0 U0 (w.putObj L (.loop (recOf fn tm ps.toArray assign body df .busy))) U := ⟨⟨hon1.below.os, hon1.below.tape, hon1.below.output, by rw [World.putObj_size]; exact hon1.below.size, fun k hk hx => (World.putObj_heap_other (by omega)).trans (hon1.below.block k hk hx)⟩, hon1.x, hon1.m, hon1.f⟩
  refine wpIn_mono (hbd _ hon2 ⟨some L, []⟩ a'' _ L _ rfl (World.putObj_heap_same hltw) hnU ⟨_, _, h2⟩) ?_
  rintro e a3 W3 ⟨a4, rfl, s2, ⟨rfl, hw⟩, hs2⟩
  obtain ⟨D3, hv3, h3⟩ := hw a4 W3 hs2
  have h4 := h3.bare (post := post) (fun _ _ h => h) hpost
  have e3 : W3.heap[L]? = some (.loop (recOf fn tm ps.toArray assign body df .busy)) := (h4.below.block L (by rw [World.putObj_size]; exact hltw) hnU).trans (World.putObj_heap_same hltw)
  have hr := run_endRound (P := P) none e3
  have h5 := h4.rebase (l := L) (y := .loop (recOf fn tm ps.toArray assign body df .busy)) (World.putObj_heap_same hltw) hnU (hloop _) (.loop (recOf fn tm ps.toArray assign body df .ready))
  rw [putObj_back hLw] at h5
  exact ⟨_, _, hr, rfl, D3, hv3, _, h5⟩

theorem wp_rangeC {g : Operand} {ps : Array Tmp} {assign body : Code} {Q : Exit → Act → World → Prop} {a : Act} {w : World} {gf : Nat} {lb : Array Value}
    (hg : a.eval g = .func (.func gf) #[] lb) (eg : ∀ args w, (callFunc gf args).run P w = .ok (.enter gf args) w)
    (hcall : ∀ fn, Fence.wide.fn fn → ∀ W1, W1 = (w.alloc (.deferred (some []))).alloc (.loop (recOf fn a.tmps ps assign body w.heap.size .ready)) → CallsIn Fence.wide 2 P gf (#[.func (.yield (w.heap.size + 1)) #[] #[]] ++ lb) W1 (fun e V => (∃ v, e = .returned v) ∧ V.heap[w.heap.size + 1]? = some (.loop (recOf fn a.tmps ps assign body w.heap.size .ready)) ∧ ∀ r : Loop, Q .normal { a with defers := { target := .collected w.heap.size, args := #[] } :: a.defers } (V.putObj (w.heap.size + 1) (.loop r)))) :
    (Code.rangeFunc g ps assign body).wpIn Fence.wide 3 P Q a w := by
  refine wpIn_rangeFunc fun fn hfn => ?_
  obtain ⟨W1, hW1⟩ : ∃ W1, W1 = (w.alloc (.deferred (some []))).alloc (.loop (recOf fn a.tmps ps assign body w.heap.size .ready)) := ⟨_, rfl⟩
  refine ⟨w.heap.size + 1, [{ target := .collected w.heap.size, args := #[] }], W1, { target := .fn (.func gf) lb, args := #[.func (.yield (w.heap.size + 1)) #[] #[]] }, W1, gf, #[.func (.yield (w.heap.size + 1)) #[] #[]] ++ lb, W1, ?_, ?_, fun _ _ => trivial, ?_, (fun _ => by omega), ?_⟩
  · rw [hW1]; exact run_enterLoop_outer _ _ _ _ _
  · simp only [resolve, hg]
    simp [go_sem]
  · simp [invoke, go_sem, eg]
  refine (hcall fn hfn _ hW1).mono ?_
  rintro e V ⟨⟨v, rfl⟩, h2, h3⟩
  exact ⟨none, _, run_endLoop (P := P) h2 (by simp [recOf]), h3 _⟩
theorem wp_rangeCN {g : Operand} {ps : Array Tmp} {assign body : Code} {Q : Exit → Act → World → Prop} {a : Act} {w : World} {gf : Nat} {lb : Array Value} {l₀ : Nat} {r₀ : Loop} (hl₀ : w.heap[l₀]? = some (.loop r₀))
    (hg : a.eval g = .func (.func gf) #[] lb) (eg : ∀ args w, (callFunc gf args).run P w = .ok (.enter gf args) w)
    (hcall : ∀ fn, Fence.wide.fn fn → ∀ W1, W1 = w.alloc (.loop (recOf fn a.tmps ps assign body r₀.defers .ready)) → CallsIn Fence.wide 2 P gf (#[.func (.yield w.heap.size) #[] #[]] ++ lb) W1 (fun e V => (∃ v, e = .returned v) ∧ V.heap[w.heap.size]? = some (.loop (recOf fn a.tmps ps assign body r₀.defers .ready)) ∧ ∀ r : Loop, Q .normal a (V.putObj w.heap.size (.loop r)))) :
    (Code.rangeFunc g ps assign body).wpIn (wideR (some l₀)) 3 P Q a w := by
  refine wpIn_rangeFunc fun fn hfn => ?_
  obtain ⟨W1, hW1⟩ : ∃ W1, W1 = w.alloc (.loop (recOf fn a.tmps ps assign body r₀.defers .ready)) := ⟨_, rfl⟩
  refine ⟨w.heap.size, [], W1, { target := .fn (.func gf) lb, args := #[.func (.yield w.heap.size) #[] #[]] }, W1, gf, #[.func (.yield w.heap.size) #[] #[]] ++ lb, W1, ?_, ?_, fun _ _ => trivial, ?_, (fun _ => by omega), ?_⟩
  · rw [hW1]; exact run_enterLoop_inner hl₀ _ _ _ _ _
  · simp only [resolve, hg]
    simp [go_sem]
  · simp [invoke, go_sem, eg]
  show CallsIn Fence.wide 2 P gf _ _ _
  refine (hcall fn hfn _ hW1).mono ?_
  rintro e V ⟨⟨v, rfl⟩, h2, h3⟩
  exact ⟨none, _, run_endLoop (P := P) h2 (by simp [recOf]), h3 _⟩

theorem vreps_val {U : Nat → Nat → Prop} {w : World} {hv : Nat → Value} {s : AS} : ∀ (cs : List CV) (vs : List Value), VReps U w cs vs → AVReps U w hv (LiveN s) (cs.map AV.val) vs
  | [], vs, h => h
  | a :: cs, vs, ⟨u, us, e, h1, h2⟩ => ⟨u, us, e, avrep_val h1, vreps_val cs us h2⟩
structure LendOk {α : Type} (xs : List α) (ob : Nat → AS) : Prop where
  lend : (ob 0).all lendB = true
  leave : (ob xs.length).all (leaveB (kO (ob xs.length))) = true
  keys : ∀ k, kO (ob k) = kO (ob 0)
  big : ((kO (ob 0)).all fun k => Nat.ble 300000 k) = true
  box : hasN (kO (ob 0)) 450001 = true
  nm : ((newN (kO (ob 0)) (kO (ob 0)) (kO (ob 0))).all fun q => !Nat.beq q.1 0 && (!Nat.beq q.1 100000 && !Nat.beq q.1 1100000)) = true
def HandsY {α : Type} (P : Program) (gf : Nat) (caps : List CV) (Xs : List Nat) (ld : Nat → α → AS) (args : Nat → α → Value → List AV) (xs : List α) (ob : Nat → AS) : Prop :=
  ∀ (Wb : World) (Ub : UX) (l : Nat), (∀ k x, xs[k]? = some x → ∀ X ∈ Xs, YldC P Wb Ub l X (ob k ++ ld X x) (args X x) (ob (k + 1) ++ ld X x)) → AFunY P Wb Ub gf (ob 0) (.val (yldV l) :: caps.map AV.val) (.tup []) (ob xs.length)

theorem awpM_rangeY {α : Type} {g : Operand} {ps : List Tmp} {assign body : Code} {gf : Nat} {caps : List CV} {Xs : List Nat} {ld : Nat → α → AS} {args : Nat → α → Value → List AV} {xs : List α} {n1 q1 p1} (ob : Nat → AS) (sl : AS) (hdl : Nat → Value → AS)
    (hgv : ev (look s) g = some ⟨0, .fn gf 0 caps, n1, q1, p1⟩) (hent : EntF P gf) (hG : HandsY P gf caps Xs ld args xs ob)
    (hps : (ps.all fun p => Nat.blt p nt && Nat.blt p 100000) = true) (hal : ∀ X x v, (args X x v).length = ps.length)
    (hsl : SubL s sl) (hslk : (kO sl).all (fun k => Nat.blt k 100000) = true) (hslP : SlP sl) (hob0 : SubL s (ob 0)) (hob : LendOk xs ob)
    (hpk : ∀ k, ∀ X ∈ Xs, ∀ x, ((kO (ob k ++ ld X x)).all (Nat.ble 100000)) = true) (hhd : ∀ X ∈ Xs, HdOk nt X (hdl X))
    (hnr : noRefB s ((299999, []) :: (299998, []) :: newN (kO (ob 0)) (kO (ob 0)) (kO (ob 0))) = true)
    (hround : ∀ k x, xs[k]? = some x → ∀ X ∈ Xs, ∀ (v : Value) (w : World) (U : UX), (∀ k' v, U.f k' = some v → hasN (kO (ob k ++ ld X x)) k' = true) → On w0 U0 w U → AWp P w U nt assign (fun e s1 => e = .normal ∧ ∀ w', On w0 U0 w' U → AWpN P w' U nt body (fun e s' => e = .normal ∧ Wk w' U nt s' (ob (k + 1) ++ ld X x)) s1) (parA ps (args X x v) (hdl X v ++ sl) ++ (ob k ++ ld X x))) :
    AWpM P w0 U0 nt (.rangeFunc g ps.toArray assign body) (fun e s' m => e = .normal ∧ s' = ob xs.length ++ ((299998, .ob (m + 1) 1) :: (299999, .ob m 0) :: s)) s := by
  rintro a w ⟨D0, hv0, h⟩
  obtain ⟨ys, lb, e1, e2, e3, e4⟩ := vrep_fn.1 (ev_val h (fun k _ => rfl) hgv)
  have hys : ys = [] := List.eq_nil_of_length_eq_zero e2
  subst hys
  have hcaps : VReps (Us w0 U0 D0) w caps lb := sq_vreps e4 (by simpa using e3)
  have hnE := noRefB_spec hnr
  have hlk3 : ∀ {k av k'}, look (ob k) k' = some av → 300000 ≤ k' := fun {k av k'} h1 => by
    have := mem_keys h1
    rw [hob.keys k] at this
    exact Nat.le_of_ble_eq_true (List.all_eq_true.1 hob.big k' this)
  refine wpIn_n (wp_rangeC (gf := gf) (lb := lb.toArray) (by rw [e1]) hent fun fn hfn W1 hW1 => ?_)
  obtain ⟨L, hL⟩ : ∃ L, L = w.heap.size + 1 := ⟨_, rfl⟩
  rw [← hL]
  have below1 : Below w.heap.size w W1 := by rw [hW1]; exact ((Below.refl _ w).alloc (Nat.le_refl _) _).alloc (by simp) _
  have atL : W1.heap[L]? = some (.loop (recOf fn a.tmps ps.toArray assign body w.heap.size .ready)) := by
    have := World.alloc_heap_new (w.alloc (.deferred (some []))) (.loop (recOf fn a.tmps ps.toArray assign body w.heap.size .ready))
    rw [World.size_alloc, ← hL, ← hW1] at this
    exact this
  have hlt1 : L < W1.heap.size := (Array.getElem?_eq_some_iff.1 atL).1
  obtain ⟨lp, hlp⟩ : ∃ lp : AS, lp = (299998, AV.ob L 1) :: (299999, AV.ob w.heap.size 0) :: s := ⟨_, rfl⟩
  obtain ⟨hvL, hS⟩ : ∃ hvL, SimG w0 U0 nt lp a W1 D0 hvL := by
    have h1 := h.newob (n := 299999) (o := 0) (by unfold RW; omega) (hnE (299999, []) (by simp)).nr (x := .deferred (some [])) (fun _ _ _ e => by cases e) (fun _ => rfl)
    have hnr2 : NoRef ((299999, AV.ob w.heap.size 0) :: s) 299998 := fun k av hk => by
      rw [look_cons] at hk
      split at hk
      · rename_i e; subst e; cases hk; exact ⟨by show (0 : Nat) ≠ 299998; decide, by decide, by decide⟩
      · exact (hnE (299998, []) (by simp)).nr k av hk
    have h2 := h1.newob (n := 299998) (o := 1) (by unfold RW; omega) hnr2 (x := .loop (recOf fn a.tmps ps.toArray assign body w.heap.size .ready)) (fun _ _ _ e => by cases e) (fun e => by cases e)
    rw [show (w.alloc (.deferred (some []))).heap.size = L by rw [hL]; simp, ← hlp, ← hW1] at h2
    exact ⟨_, h2⟩
  have hap : ∀ {k k' : Nat}, k' < 300000 → look (ob k ++ lp) k' = look lp k' := fun {k k'} h1 => by
    rw [look_append]
    cases e : look (ob k) k' with
    | none => rfl
    | some av => have := hlk3 e; omega
  have hLl : look lp 299998 = some (.ob L 1) := by rw [hlp, lS]
  have hDl : look lp 299999 = some (.ob w.heap.size 0) := by rw [hlp, lN (by omega), lS]
  have hsub : Sub lp (ob 0) := fun k av h1 => by
    have h3 := hlk3 h1
    rw [hlp, lN (by omega), lN (by omega)]
    exact hob0.sub k av h1
  have hS' : SimG w0 U0 nt (ob 0 ++ lp) a W1 D0 hvL := hS.congr fun k => by
    rw [look_append]
    cases e : look (ob 0) k with
    | none => rfl
    | some av => exact (hsub k av e).symm
  obtain ⟨V, v1, v2, v3, v4, v5, v6⟩ := hS.lend hsub hob.lend
  have h01 := hS.on hsub hob.lend v3 v4 v5 hob.box
  have hnL : ¬ V.x L := ob_off hS' hob.lend hob.big v3 (.inl rfl) (by rw [hap (by omega)]; exact hLl)
  have hcall := hG W1 V L (fun k x hx X hX => yld_round (hv0 := hvL) hfn h01 (by rw [hL]; have := h.below.size; omega) atL hnL hS.size hps (hal X x) hslk (fun d av h1 => by
      have hd5 : d < 100000 := by
        rw [List.all_eq_true] at hslk
        exact bL (hslk d (mem_keys h1))
      obtain ⟨v, g1, g2⟩ := hS.slot d av (by rw [hlp, lN (by omega), lN (by omega)]; exact hsl.sub d av h1) hd5
      refine ⟨v, g1, ?_⟩
      rcases hslP.at h1 with ⟨c, rfl⟩ | rfl
      · exact .inl ⟨c, rfl, g2.1.keep v6⟩
      · exact .inr ⟨rfl, g2.2⟩) (v4 450001 hob.box (by omega) (by omega)) (hpk k X hX x) (hpk (k + 1) X hX x) (hhd X hX) (hround k x hx X hX))
  have hargs : AVReps (Us W1 V (fun _ _ => False)) W1 hvL (LiveN (ob 0)) (.val (yldV L) :: caps.map AV.val) (.func (.yield L) #[] #[] :: lb) :=
    ⟨_, _, rfl, avrep_sc rfl, vreps_val _ _ (hcaps.keep fun b o u hu hc => by
      have hb : b < w.heap.size := World.block_lt_of_cell? w _ hc
      refine v6 b o u hu ?_
      rw [World.cell?_of_block (w := w) (below1.block b hb)]; exact hc)⟩
  have harr : #[Value.func (.yield L) #[] #[]] ++ lb.toArray = (Value.func (.yield L) #[] #[] :: lb).toArray := by simp
  rw [harr]
  refine (callsIn_wide.2 (hcall.2 V W1 hvL ⟨#[], []⟩ _ (On.refl _ _) v1 v2 hargs)).mono ?_
  rintro e V2 ⟨v, D', hv', a', rfl, g1, g2⟩
  have hLV : V2.heap[L]? = some (.loop (recOf fn a.tmps ps.toArray assign body w.heap.size .ready)) := (g1.below.block L hlt1 hnL).trans atL
  refine ⟨⟨v, rfl⟩, hLV, fun r => ?_⟩
  obtain ⟨D2, hv2, b1, _, _⟩ := hS.back hsub hob.lend hob.leave (by rw [hob.keys xs.length, List.all_eq_true]; intro q hq; exact hasN_of hq) (fun q hq => by
    rw [hob.keys xs.length] at hq
    have hq2 := hnE q (by simp only [List.mem_cons]; exact .inr (.inr hq))
    have hn3 := List.all_eq_true.1 hob.nm q hq
    simp only [Bool.and_eq_true, Bool.not_eq_true'] at hn3
    obtain ⟨g1, g2, g3⟩ := hn3
    have n1 : q.1 ≠ 0 := fun e => by rw [e] at g1; cases g1
    have n2 : 100000 ≠ q.1 := fun e => by rw [← e] at g2; cases g2
    have n3 : 100000 + 1000000 ≠ q.1 := fun e => by rw [← e] at g3; cases g3
    intro kk av hkk hex
    rw [hlp, look_cons] at hkk
    split at hkk
    · rename_i e2
      injection hkk with hkk
      rw [← e2, ← hkk]
      exact ⟨fun e => n1 e.symm, n2, n3⟩
    · rw [look_cons] at hkk
      split at hkk
      · rename_i e2
        injection hkk with hkk
        rw [← e2, ← hkk]
        exact ⟨fun e => n1 e.symm, n2, n3⟩
      · exact hq2 kk av hkk hex) (fun k v h1 h2 => by rw [hob.keys xs.length] at h2; exact h2) v3 v4 v5 v2 g1
  obtain ⟨h9, _⟩ := b1.putob (n := 299998) (o := 1) (o' := 1) (by unfold RW; omega) (by rw [hap (by omega)]; exact hLl) (x := .loop r) (fun _ _ _ e => by cases e) (fun e => by cases e)
  have h10 : SimG w0 U0 nt (ob xs.length ++ lp) a (V2.putObj L (.loop r)) D2 hv2 := h9.congr fun k => by
    rw [look_cons]
    split
    · rename_i e; subst e; rw [hap (by omega)]; exact hLl
    · rfl
  refine ⟨_, a, w.heap.size, ⟨rfl, rfl⟩, ⟨D2, hv2, by rw [hlp, hL] at h10; rw [hL]; exact h10⟩, by show _ = wdA a _; unfold wdA; rw [h.dfr], ?_⟩
  have := hap (k := xs.length) (k' := 299999) (by omega)
  rw [hDl, hlp, hL] at this
  exact this

theorem awpN_rangeY {α : Type} {g : Operand} {ps : List Tmp} {assign body : Code} {gf : Nat} {caps : List CV} {Xs : List Nat} {ld : Nat → α → AS} {args : Nat → α → Value → List AV} {xs : List α} {n1 q1 p1} (ob : Nat → AS) (sl : AS) (hdl : Nat → Value → AS)
    (hgv : ev (look s) g = some ⟨0, .fn gf 0 caps, n1, q1, p1⟩) (hent : EntF P gf) (hG : HandsY P gf caps Xs ld args xs ob)
    (hps : (ps.all fun p => Nat.blt p nt && Nat.blt p 100000) = true) (hal : ∀ X x v, (args X x v).length = ps.length)
    (hsl : SubL s sl) (hslk : (kO sl).all (fun k => Nat.blt k 100000) = true) (hslP : SlP sl) (hob0 : SubL s (ob 0)) (hob : LendOk xs ob)
    (hpk : ∀ k, ∀ X ∈ Xs, ∀ x, ((kO (ob k ++ ld X x)).all (Nat.ble 100000)) = true) (hhd : ∀ X ∈ Xs, HdOk nt X (hdl X))
    (hnr : noRefB s ((299998, []) :: newN (kO (ob 0)) (kO (ob 0)) (kO (ob 0))) = true)
    (hround : ∀ k x, xs[k]? = some x → ∀ X ∈ Xs, ∀ (v : Value) (w : World) (U : UX), (∀ k' v, U.f k' = some v → hasN (kO (ob k ++ ld X x)) k' = true) → On w0 U0 w U → AWp P w U nt assign (fun e s1 => e = .normal ∧ ∀ w', On w0 U0 w' U → AWpN P w' U nt body (fun e s' => e = .normal ∧ Wk w' U nt s' (ob (k + 1) ++ ld X x)) s1) (parA ps (args X x v) (hdl X v ++ sl) ++ (ob k ++ ld X x))) :
    AWpN P w0 U0 nt (.rangeFunc g ps.toArray assign body) (fun e s' => e = .normal ∧ ∃ m, s' = ob xs.length ++ ((299998, .ob m 1) :: s)) s := by
  rintro M a w l₀ r₀ hMr hl₀ hnx ⟨D0, hv0, h⟩
  have hw0 : w.heap[l₀]? = some (.loop r₀) := (h.below.block l₀ (Array.getElem?_eq_some_iff.1 hl₀).1 hnx).trans hl₀
  obtain ⟨ys, lb, e1, e2, e3, e4⟩ := vrep_fn.1 (ev_val h (fun k _ => rfl) hgv)
  have hys : ys = [] := List.eq_nil_of_length_eq_zero e2
  subst hys
  have hcaps : VReps (Us w0 U0 D0) w caps lb := sq_vreps e4 (by simpa using e3)
  have hnE := noRefB_spec hnr
  have hlk3 : ∀ {k av k'}, look (ob k) k' = some av → 300000 ≤ k' := fun {k av k'} h1 => by
    have := mem_keys h1
    rw [hob.keys k] at this
    exact Nat.le_of_ble_eq_true (List.all_eq_true.1 hob.big k' this)
  obtain ⟨L, hL⟩ : ∃ L, L = w.heap.size := ⟨_, rfl⟩
  have hgo : (Code.rangeFunc g ps.toArray assign body).wpIn (wideR (some l₀)) 3 P (postW M fun e a' w' => ∃ s', (e = .normal ∧ ∃ m, s' = ob xs.length ++ ((299998, .ob m 1) :: s)) ∧ Sim w0 U0 nt s' a' w') (wdA a M.ds) w := by
    refine wp_rangeCN (gf := gf) (lb := lb.toArray) hw0 (by rw [wd_eval, e1]) hent fun fn hfn W1 hW1 => ?_
    rw [← hL]
    have below1 : Below w.heap.size w W1 := by rw [hW1]; exact (Below.refl _ w).alloc (Nat.le_refl _) _
    have atL : W1.heap[L]? = some (.loop (recOf fn a.tmps ps.toArray assign body r₀.defers .ready)) := by
      have := World.alloc_heap_new w (.loop (recOf fn a.tmps ps.toArray assign body r₀.defers .ready))
      rw [← hL] at this
      rw [hW1]
      exact this
    have hlt1 : L < W1.heap.size := (Array.getElem?_eq_some_iff.1 atL).1
    obtain ⟨lp, hlp⟩ : ∃ lp : AS, lp = (299998, AV.ob L 1) :: s := ⟨_, rfl⟩
    obtain ⟨hvL, hS⟩ : ∃ hvL, SimG w0 U0 nt lp a W1 D0 hvL := by
      have h2 := h.newob (n := 299998) (o := 1) (by unfold RW; omega) (hnE (299998, []) (by simp)).nr (x := .loop (recOf fn a.tmps ps.toArray assign body r₀.defers .ready)) (fun _ _ _ e => by cases e) (fun e => by cases e)
      rw [← hL, ← hlp] at h2
      rw [hW1]
      exact ⟨_, h2⟩
    have hap : ∀ {k k' : Nat}, k' < 300000 → look (ob k ++ lp) k' = look lp k' := fun {k k'} h1 => by
      rw [look_append]
      cases e : look (ob k) k' with
      | none => rfl
      | some av => have := hlk3 e; omega
    have hLl : look lp 299998 = some (.ob L 1) := by rw [hlp, lS]
    have hsub : Sub lp (ob 0) := fun k av h1 => by
      have h3 := hlk3 h1
      rw [hlp, lN (by omega)]
      exact hob0.sub k av h1
    have hS' : SimG w0 U0 nt (ob 0 ++ lp) a W1 D0 hvL := hS.congr fun k => by
      rw [look_append]
      cases e : look (ob 0) k with
      | none => rfl
      | some av => exact (hsub k av e).symm
    obtain ⟨V, v1, v2, v3, v4, v5, v6⟩ := hS.lend hsub hob.lend
    have h01 := hS.on hsub hob.lend v3 v4 v5 hob.box
    have hnL : ¬ V.x L := ob_off hS' hob.lend hob.big v3 (.inl rfl) (by rw [hap (by omega)]; exact hLl)
    have hcall := hG W1 V L (fun k x hx X hX => yld_round (hv0 := hvL) hfn h01 (by rw [hL]; have := h.below.size; omega) atL hnL hS.size hps (hal X x) hslk (fun d av h1 => by
        have hd5 : d < 100000 := by
          rw [List.all_eq_true] at hslk
          exact bL (hslk d (mem_keys h1))
        obtain ⟨v, g1, g2⟩ := hS.slot d av (by rw [hlp, lN (by omega)]; exact hsl.sub d av h1) hd5
        refine ⟨v, g1, ?_⟩
        rcases hslP.at h1 with ⟨c, rfl⟩ | rfl
        · exact .inl ⟨c, rfl, g2.1.keep v6⟩
        · exact .inr ⟨rfl, g2.2⟩) (v4 450001 hob.box (by omega) (by omega)) (hpk k X hX x) (hpk (k + 1) X hX x) (hhd X hX) (hround k x hx X hX))
    have hargs : AVReps (Us W1 V (fun _ _ => False)) W1 hvL (LiveN (ob 0)) (.val (yldV L) :: caps.map AV.val) (.func (.yield L) #[] #[] :: lb) :=
      ⟨_, _, rfl, avrep_sc rfl, vreps_val _ _ (hcaps.keep fun b o u hu hc => by
        have hb : b < w.heap.size := World.block_lt_of_cell? w _ hc
        refine v6 b o u hu ?_
        rw [World.cell?_of_block (w := w) (below1.block b hb)]; exact hc)⟩
    have harr : #[Value.func (.yield L) #[] #[]] ++ lb.toArray = (Value.func (.yield L) #[] #[] :: lb).toArray := by simp
    rw [harr]
    refine (callsIn_wide.2 (hcall.2 V W1 hvL ⟨#[], []⟩ _ (On.refl _ _) v1 v2 hargs)).mono ?_
    rintro e V2 ⟨v, D', hv', a', rfl, g1, g2⟩
    have hLV : V2.heap[L]? = some (.loop (recOf fn a.tmps ps.toArray assign body r₀.defers .ready)) := (g1.below.block L hlt1 hnL).trans atL
    refine ⟨⟨v, rfl⟩, hLV, fun r => ?_⟩
    obtain ⟨D2, hv2, b1, _, _⟩ := hS.back hsub hob.lend hob.leave (by rw [hob.keys xs.length, List.all_eq_true]; intro q hq; exact hasN_of hq) (fun q hq => by
      rw [hob.keys xs.length] at hq
      have hq2 := hnE q (by simp only [List.mem_cons]; exact .inr hq)
      have hn3 := List.all_eq_true.1 hob.nm q hq
      simp only [Bool.and_eq_true, Bool.not_eq_true'] at hn3
      obtain ⟨g1, g2, g3⟩ := hn3
      have n1 : q.1 ≠ 0 := fun e => by rw [e] at g1; cases g1
      have n2 : 100000 ≠ q.1 := fun e => by rw [← e] at g2; cases g2
      have n3 : 100000 + 1000000 ≠ q.1 := fun e => by rw [← e] at g3; cases g3
      intro kk av hkk hex
      rw [hlp, look_cons] at hkk
      split at hkk
      · rename_i e2
        injection hkk with hkk
        rw [← e2, ← hkk]
        exact ⟨fun e => n1 e.symm, n2, n3⟩
      · exact hq2 kk av hkk hex) (fun k v h1 h2 => by rw [hob.keys xs.length] at h2; exact h2) v3 v4 v5 v2 g1
    obtain ⟨h9, _⟩ := b1.putob (n := 299998) (o := 1) (o' := 1) (by unfold RW; omega) (by rw [hap (by omega)]; exact hLl) (x := .loop r) (fun _ _ _ e => by cases e) (fun e => by cases e)
    have h10 : SimG w0 U0 nt (ob xs.length ++ lp) a (V2.putObj L (.loop r)) D2 hv2 := h9.congr fun k => by
      rw [look_cons]
      split
      · rename_i e; subst e; rw [hap (by omega)]; exact hLl
      · rfl
    exact ⟨a, rfl, _, ⟨rfl, L, rfl⟩, ⟨D2, hv2, by rw [hlp] at h10; exact h10⟩⟩
  unfold WP
  rw [hMr]
  exact fun b k cs h1 h2 _ => hgo b k cs h1 h2 (room_wide _)
end
section
variable {P : Program}
theorem afunY_nil (X e z : Nat) {Wb : World} {Ub : UX} {f : FuncId} {pre post : AS} {cs : List CV} {r : AV} (hX : (Nat.ble 400000 X && Nat.blt X 450000) = true) (hXn : hasN (kO pre) X = false) (hr : noRefB pre [(X, [])] = true) (hz : Nat.blt 0 z = true)
    (h : AFunY P Wb Ub f (pre ++ [(X, .mrow e z [])]) (.sl X 0 0 z :: cs.map AV.val) r (post ++ [(X, .mrow e z [])])) : AFunY P Wb Ub f pre (.own (.lst []) 1 :: cs.map AV.val) r post := by
  refine ⟨h.1, fun U w hv a0 vs hon hU hS ha => ?_⟩
  simp only [Bool.and_eq_true] at hX
  have x1 := Nat.le_of_ble_eq_true hX.1
  have x2 := bL hX.2
  have hrn : RN X := ⟨by omega, x2⟩
  obtain ⟨u, us, rfl, h1, h2⟩ := ha
  have hu : u = .slice none 0 0 := by
    obtain ⟨m, c, g1, g2⟩ := h1.2 (.inl rfl)
    obtain ⟨ao, n, cap, e1, _⟩ := vrep_lst.1 h1.1
    rw [e1] at g2 ⊢
    have g3 : m = 0 := by
      rcases m with _ | m
      · rfl
      · simp [Value.cells] at g2
    subst g3
    have g2 : some (Value.slice ao n cap) = some (tokv hv 1) := g2
    injection g2
  subst hu
  have hno : look pre X = none := by
    cases e : look pre X with
    | none => rfl
    | some av => rw [hasN_of (mem_keys e)] at hXn; cases hXn
  have hf : U.f X = none := by
    cases e : U.f X with
    | none => rfl
    | some v => rw [hU X v e] at hXn; cases hXn
  have hS1 := hS.newrowF (avn := .mrow e z []) (X := fun _ => False) (v' := .slice none 0 0) hrn hf (noRefB_spec hr (X, []) (by simp)).nr (fun e => by cases e) (BelowX.refl _ _) (fun b hb => hb.elim) (fun g hg => by cases hg) (fun b o hd => .inl hd) (fun b o hd => hd.elim) (fun b o u h1 h2 => ⟨h1, h2⟩) (fun hv lv => ⟨[], World.ownsRow_nil _ _ _ _, bL hz, (fun c hc => by cases hc), rfl⟩)
  have hS2 := hS1.congr (s' := pre ++ [(X, .mrow e z [])]) fun k => by
    by_cases ek : X = k
    · subst ek; rw [look_append, hno, lS, lS]; rfl
    · rw [lN ek, look_append]
      cases e9 : look pre k with
      | some av => rfl
      | none => show look [(X, AV.mrow e z [])] k = none; rw [lN ek]; rfl
  have hcs : VReps (Us w U (fun _ _ => False)) w cs us := by
    have : ∀ (cs : List CV) (us : List Value), AVReps (Us w U (fun _ _ => False)) w hv (LiveN pre) (cs.map AV.val) us → VReps (Us w U (fun _ _ => False)) w cs us := by
      intro cs
      induction cs with
      | nil => intro us h; exact h
      | cons c cs ih => rintro us ⟨u, us, e, g1, g2⟩; exact ⟨u, us, e, g1.1, ih _ g2⟩
    exact this cs us h2
  refine (h.2 U w _ a0 _ hon (fun k v hk => ?_) hS2 ⟨_, _, rfl, ⟨hrn, ?_⟩, vreps_val _ _ hcs⟩).mono ?_
  · have := hU k v hk
    have hm : k ∈ kO pre := by
      cases e9 : look pre k with
      | some av => exact mem_keys e9
      | none =>
        exfalso
        have := hasN_mem this
        obtain ⟨av, h3⟩ := keys_look this
        rw [e9] at h3; cases h3
    refine hasN_of ?_
    unfold kO at hm ⊢
    rw [List.map_append]
    exact List.mem_append_left _ hm
  · show SlV (if X = X then _ else _) 0 0 z _
    rw [if_pos rfl]
    exact slV_all rfl (Nat.le_refl _) (.inl rfl)
  · rintro e' w' ⟨v, D', hv', a', rfl, g1, g2⟩
    have hs : Sub (post ++ [(X, .mrow e z [])]) post := fun k av hk => by rw [look_append, hk]; rfl
    exact ⟨v, D', hv', a', rfl, g1.sub hs, g2.move (fun _ _ _ h1 h2 => ⟨h1, h2⟩) (fun _ h7 => h7.imp id fun ⟨e, he⟩ => ⟨e, hs _ _ he.1, he.2⟩) fun _ => rfl⟩
end
end Go.Proofs.YteegmcfobgpemaaGreat
namespace Go.Proofs.YteegmcfobgpemaaGreat
open Go.RowKit
set_option linter.unusedVariables false
set_option linter.unusedSimpArgs false
set_option maxRecDepth 100000
noncomputable def sy (t : Tm) : List Int → List (List Int × Tm) :=
  Tm.rec (motive_1 := fun _ => List Int → List (List Int × Tm)) (motive_2 := fun _ => Nat → List Int → List (List Int × Tm))
    (fun f l ih pl => if f < 0 then [] else (pl, ⟨f, l⟩) :: ih 0 pl)
    (fun _ _ => [])
    (fun _ _ ih1 ih2 i pl => ih1 (pl ++ [(i : Int)]) ++ ih2 (i + 1) pl) t
noncomputable def syL (l : List Tm) : Nat → List Int → List (List Int × Tm) :=
  Tm.rec_1 (motive_1 := fun _ => List Int → List (List Int × Tm)) (motive_2 := fun _ => Nat → List Int → List (List Int × Tm))
    (fun f l ih pl => if f < 0 then [] else (pl, ⟨f, l⟩) :: ih 0 pl)
    (fun _ _ => [])
    (fun _ _ ih1 ih2 i pl => ih1 (pl ++ [(i : Int)]) ++ ih2 (i + 1) pl) l
theorem sy_eq (t : Tm) (pl : List Int) : sy t pl = if t.f < 0 then [] else (pl, t) :: syL t.l 0 pl := by cases t; rfl
theorem syL_nil (i : Nat) (pl : List Int) : syL [] i pl = [] := rfl
theorem syL_cons (t : Tm) (l : List Tm) (i : Nat) (pl : List Int) : syL (t :: l) i pl = sy t (pl ++ [(i : Int)]) ++ syL l (i + 1) pl := rfl
theorem syL_app : ∀ (a b : List Tm) (i : Nat) (pl : List Int), syL (a ++ b) i pl = syL a i pl ++ syL b (i + a.length) pl
  | [], b, i, pl => by rw [List.nil_append, syL_nil, List.nil_append]; rfl
  | t :: a, b, i, pl => by rw [List.cons_append, syL_cons, syL_cons, syL_app a b (i + 1) pl, List.append_assoc, List.length_cons]; congr 3; omega
theorem syL_take {l : List Tm} {k : Nat} {x : Tm} (i : Nat) (pl : List Int) (hx : l[k]? = some x) : syL (l.take (k + 1)) i pl = syL (l.take k) i pl ++ sy x (pl ++ [((i + k : Nat) : Int)]) := by
  have hk : k < l.length := by
    rcases Nat.lt_or_ge k l.length with h | h
    · exact h
    · rw [List.getElem?_eq_none h] at hx; cases hx
  rw [List.take_add_one, hx, syL_app]
  rw [show (some x).toList = [x] from rfl, syL_cons, syL_nil, List.append_nil, List.length_take, Nat.min_eq_left (by omega)]
theorem syL_at {f : Int} {l : List Tm} {k : Nat} {x : Tm} (hx : l[k]? = some x) (pl : List Int) {i : Nat} {y : List Int × Tm} (hy : (sy x (pl ++ [(k : Int)]))[i]? = some y) : ((pl, (⟨f, l⟩ : Tm)) :: syL l 0 pl)[1 + (syL (l.take k) 0 pl).length + i]? = some y := by
  rw [show 1 + (syL (l.take k) 0 pl).length + i = ((syL (l.take k) 0 pl).length + i) + 1 by omega, List.getElem?_cons_succ]
  have h1 : syL l 0 pl = syL (l.take (k + 1)) 0 pl ++ syL (l.drop (k + 1)) (0 + (l.take (k + 1)).length) pl := by rw [← syL_app, List.take_append_drop]
  have hi : i < (sy x (pl ++ [(k : Int)])).length := by
    rcases Nat.lt_or_ge i (sy x (pl ++ [(k : Int)])).length with h | h
    · exact h
    · rw [List.getElem?_eq_none h] at hy; cases hy
  rw [h1, syL_take 0 pl hx, Nat.zero_add, List.append_assoc, List.getElem?_append_right (by omega), Nat.add_sub_cancel_left, List.getElem?_append_left hi, hy]
theorem sy_sizes {f : Int} {l : List Tm} (hf : ¬ f < 0) {k : Nat} {x : Tm} (hx : l[k]? = some x) : 1 + ((l.take k).flatMap Tm.flat).length + x.size ≤ (Tm.mk f l).size := by
  have h1 : (Tm.mk f l).size = 1 + (l.flatMap Tm.flat).length := by rw [Tm.size_eq, Tm.ps_of_sym (by show 0 ≤ f; omega)]
  have h2 : (l.flatMap Tm.flat).length = ((l.take k).flatMap Tm.flat).length + ((l.drop k).flatMap Tm.flat).length := by
    conv => lhs; rw [← List.take_append_drop k l]
    rw [List.flatMap_append, List.length_append]
  have h3 : x.flat.length ≤ ((l.drop k).flatMap Tm.flat).length := flatMap_len_mem Tm.flat (List.mem_of_getElem? (i := 0) (by rw [List.getElem?_drop]; simpa using hx))
  have h4 : x.flat.length = x.size := rfl
  omega
theorem sy_kids {f : Int} {l : List Tm} (hf : ¬ f < 0) : l.length < (Tm.mk f l).size := by
  rw [Tm.size_eq, Tm.ps_of_sym (by show 0 ≤ f; omega)]
  have : ∀ l : List Tm, l.length ≤ (l.flatMap Tm.flat).length := by
    intro l
    induction l with
    | nil => exact Nat.le_refl _
    | cons x l ih =>
      rw [List.flatMap_cons, List.length_append, List.length_cons]
      have : 0 < x.flat.length := by rw [Tm.flat_eq]; simp
      omega
  have := this l
  show l.length < 1 + (l.flatMap Tm.flat).length
  omega
theorem hUno9 {U : UX} {pre : List Nat} (hU : ∀ k v, U.f k = some v → hasN pre k = true) {n : Nat} (h : hasN pre n = false) : U.f n = none := by
  cases e : U.f n with
  | none => rfl
  | some v => rw [hU n v e] at h; cases h
noncomputable abbrev rowI (X : Nat) (pl : List Int) : AS := [(X, .mrow 3 1 (pl.map CV.i))]
noncomputable abbrev obX (L : List (List Lt)) (X : Nat) (pl : List Int) : AS := [(450001, .obj), (35500100, .sl 300005 0 L.length 1), (300005, .mrow 26 1 (L.map clC)), (X, .mrow 3 1 (pl.map CV.i))]
-- 
set_option maxHeartbeats 8000000 in
theorem suWalk_abs (Wb : World) (Ub : UX) (l0 : Nat) (Ls : Nat → List (List Lt)) : ∀ t : Tm, ∀ (j : Nat) (pl : List Int), pl.length + t.size ≤ 1000000 → (∀ i x, (sy t pl)[i]? = some x → ∀ X ∈ [400002, 400003], YldC Tryz.prog Wb Ub l0 X (obX (Ls (j + i)) X x.1) (fun _ => [.sl X 0 x.1.length 1, .val x.2.cw]) (obX (Ls (j + i + 1)) X x.1)) → AFunY Tryz.prog Wb Ub 120 (obX (Ls (j)) 400002 (pl)) [.sl 400002 0 (pl).length 1, .val (t).cw, .val (yldV l0)] (.val (.b true)) (obX (Ls (j + (sy t pl).length)) 400002 (pl)) ∧ AFunY Tryz.prog Wb Ub 120 (obX (Ls (j)) 400003 (pl)) [.sl 400003 0 (pl).length 1, .val (t).cw, .val (yldV l0)] (.val (.b true)) (obX (Ls (j + (sy t pl).length)) 400003 (pl)) := by
  intro t
  induction t using Tm.ind with
  | h f l ih =>
  intro j pl hb2 hY
  have hsz := Tm.size_all l
  have hll : f < 0 ∨ l.length < 1000000 := by
    by_cases hf : f < 0
    · exact .inl hf
    · exact .inr (by have := sy_kids hf (l := l); omega)
  constructor
  · refine afunY_of Tryz.func120 Tryz.ntmps120 rfl rfl rfl rfl (by kernel_rfl) (by kernel_rfl) ?_
    intro w U hon hU
    have hfY : U.f 400003 = none := hUno9 hU (by kernel_rfl)
    refine aS (aR ?_)
    (refine nx (a_box (gN rfl) rfl rfl rfl rfl rfl) (by kernel_rfl) ?_)
    (refine nx (aA (gN rfl) rfl rfl rfl rfl rfl) rfl ?_)
    show AWp _ _ _ _ _ _ _
    refine aS (aS (aR ?_))
    (refine nx (aF (gN rfl) rfl rfl rfl rfl rfl rfl rfl rfl rfl) rfl ?_)
    (refine nx (aLb (gN rfl) rfl rfl rfl rfl rfl rfl rfl rfl rfl rfl rfl rfl) rfl ?_)
    (refine nx (a_lss (gN rfl) rfl rfl rfl rfl rfl rfl) rfl ?_)
    show AWp _ _ _ _ _ _ _
    refine aC rfl (fun hc => ?_) (fun hc => ?_)
    · have hf : f < 0 := by simpa using hc
      have e : (sy ⟨f, l⟩ pl).length = 0 := by rw [sy_eq, if_pos hf]; rfl
      rw [e, Nat.add_zero]
      refine aS (aR ?_)
      (refine nx (aA (gN rfl) rfl rfl rfl rfl rfl) rfl ?_)
      show AWp _ _ _ _ _ _ _
      exact aT ⟨.inr rfl, _, Wk.refl _, rfl, rfl, rfl, rfl, rfl, trivial⟩
    have hf : ¬ f < 0 := by simpa using hc
    have hsy := sy_eq ⟨f, l⟩ pl
    rw [if_neg hf] at hsy
    rw [hsy] at hY ⊢
    refine aK ?_
    show AWp _ _ _ _ _ _ _
    refine AWp.wk (wk_sub (s' := (0, AV.sl 400002 0 pl.length 1) :: (2, .val (yldV l0)) :: (4, .bp 4 0 []) :: (100004, .bx (Tm.cw ⟨f, l⟩)) :: (obX (Ls (j)) 400002 pl)) ⟨rfl, rfl, rfl, rfl, rfl, rfl, rfl, rfl, trivial⟩) ?_
    have hY0 := hY 0 (pl, ⟨f, l⟩) rfl 400002 (by simp)
    refine aS (aS (awp_regionY ?_))
    (refine nxY (AOp.y (aM (gN rfl) rfl rfl rfl rfl rfl)) rfl ?_)
    (refine nxY (AOp.y (aM (gN rfl) rfl rfl rfl rfl rfl)) rfl ?_)
    (refine nxY (AOp.y (aL (gN rfl) rfl rfl rfl rfl rfl rfl rfl rfl rfl rfl rfl rfl)) rfl ?_)
    (refine nxY (a_yield (u := .slice none 0 0) 0 (hY0) hon (gN rfl) rfl rfl rfl rfl rfl rfl (.inr fun _ _ => rfl) (by repeat (first | exact trivial | refine ⟨rfl, ?_⟩)) (by first | rfl | kernel_rfl) (by first | rfl | kernel_rfl) (by first | rfl | kernel_rfl) (hnb_of (by first | rfl | kernel_rfl)) rfl) rfl ?_)
    (refine nxY (AOp.y (a_not (gN rfl) rfl rfl rfl rfl rfl)) rfl ?_)
    show AWp _ _ _ _ _ _ _
    refine aC rfl (fun hc => by cases hc) (fun hc => aK ?_)
    show AWp _ _ _ _ _ _ _
    refine AWp.wk (wk_sub (s' := (0, AV.sl 400002 0 pl.length 1) :: (2, .val (yldV l0)) :: (4, .bp 4 0 []) :: (100004, .bx (Tm.cw ⟨f, l⟩)) :: (obX (Ls (j + 1)) 400002 pl)) ⟨rfl, rfl, rfl, rfl, rfl, rfl, rfl, rfl, trivial⟩) ?_
    refine aS (aS (aR ?_))
    (refine nx (aF (gN rfl) rfl rfl rfl rfl rfl rfl rfl rfl rfl) rfl ?_)
    (refine nx (aLb (gN rfl) rfl rfl rfl rfl rfl rfl rfl rfl rfl rfl rfl rfl) rfl ?_)
    (refine nx (a_len (gN rfl) rfl rfl rfl rfl rfl rfl rfl) rfl ?_)
    (refine nx (aM (gN rfl) rfl rfl rfl rfl rfl) rfl ?_)
    show AWp _ _ _ _ _ _ _
    refine aB (awp_count l.length (fun k => (0, AV.sl 400002 0 pl.length 1) :: (2, .val (yldV l0)) :: (18, .val (.lst (l.map Tm.cv))) :: (19, .val (.i (l.map Tm.cv).length)) :: (20, .val (.i (k))) :: (obX (Ls (j + 1 + (syL (l.take k) 0 pl).length)) 400002 pl)) (wk_sub ⟨rfl, rfl, rfl, rfl, rfl, ?_, ?_, ?_, rfl, trivial⟩) ?_)
    · rfl
    · rfl
    · rfl
    intro k hk
    obtain ⟨J, hJ⟩ : ∃ J, J = j + 1 + (syL (l.take k) 0 pl).length := ⟨_, rfl⟩
    refine aS (aR ?_)
    (refine nx (a_lss (gN rfl) rfl rfl rfl rfl rfl rfl) rfl ?_)
    show AWp _ _ _ _ _ _ _
    refine aS (aC rfl (fun hlt => ?_) (fun hlt => ?_))
    · have hkl : k < l.length := by simpa using hlt
      obtain ⟨x, hx⟩ : ∃ x, l[k]? = some x := ⟨l[k], List.getElem?_eq_getElem hkl⟩
      have hx' := Tm.map_at hx
      have hxm := List.mem_of_getElem? hx
      have hszs := sy_sizes hf hx
      have hstep : syL (l.take (k + 1)) 0 pl = syL (l.take k) 0 pl ++ sy x (pl ++ [(k : Int)]) := by rw [syL_take 0 pl hx, Nat.zero_add]
      have hJ2 : j + 1 + (syL (l.take (k + 1)) 0 pl).length = J + (sy x (pl ++ [(k : Int)])).length := by rw [hstep, List.length_append, hJ]; omega
      have hcall := (ih x hxm J (pl ++ [(k : Int)]) (by rw [List.length_append]; simp only [List.length_cons, List.length_nil]; omega) (fun i y hy X hX => by
        have h2 := hY (1 + (syL (l.take k) 0 pl).length + i) y (syL_at hx pl hy) X hX
        have e1 : j + (1 + (syL (l.take k) 0 pl).length + i) = J + i := by omega
        rw [e1] at h2
        exact h2)).2
      have hpe : (pl ++ [(k : Int)]).length = (pl.map CV.i).length + [CV.i (k : Int)].length := by simp
      unfold obX at hcall
      rw [hpe, List.map_append] at hcall
      have hlm : (pl.map CV.i).length = pl.length := List.length_map ..
      rw [← hJ]
      refine aK ?_
      show AWp _ _ _ _ _ _ _
      refine aS (aB (aS (aR ?_)))
      (refine nx (aM (gN rfl) rfl rfl rfl rfl rfl) rfl ?_)
      (refine nx (a_index (j := k) (gN rfl) rfl rfl rfl rfl rfl rfl rfl rfl rfl (hx') rfl (hsz)) rfl ?_)
      (refine nx (a_load_ad (gN rfl) rfl rfl rfl rfl rfl rfl rfl rfl rfl) rfl ?_)
      (refine nx (a_alloc (gN rfl) rfl rfl rfl rfl rfl rfl rfl rfl rfl rfl) (by kernel_rfl) ?_)
      (refine nx (aA (gN rfl) rfl rfl rfl rfl rfl) rfl ?_)
      (refine nx (aSt (gN rfl) rfl rfl rfl rfl rfl rfl rfl rfl rfl rfl) rfl ?_)
      show AWp _ _ _ _ _ _ _
      refine AWp.wk (wk_sub (s' := (7, AV.val (.i (k : Int))) :: (8, .bp 8 0 []) :: (100008, .bx x.cw) :: ((0, AV.sl 400002 0 pl.length 1) :: (2, .val (yldV l0)) :: (18, .val (.lst (l.map Tm.cv))) :: (19, .val (.i (l.map Tm.cv).length)) :: (20, .val (.i (k))) :: (obX (Ls (J)) 400002 pl))) ⟨rfl, rfl, rfl, rfl, rfl, rfl, rfl, rfl, rfl, rfl, rfl, rfl, trivial⟩) ?_
      refine AWp.handle 3 400002 rfl rfl rfl rfl fun ao cap hcap hao => ?_
      rcases Nat.lt_or_ge (pl.map CV.i).length cap with hroom | hroom
      · refine aS (aD (by kernel_rfl) (by kernel_rfl) ?_)
        (refine nx (aM (gN rfl) rfl rfl rfl rfl rfl) rfl ?_)
        (refine nx (aM (gN rfl) rfl rfl rfl rfl rfl) rfl ?_)
        (refine nx (a_bslice (gN rfl) rfl rfl rfl rfl rfl rfl rfl rfl rfl rfl rfl rfl rfl) rfl ?_)
        (refine nx (a_appR 400003 3 5 (gN rfl) rfl rfl rfl rfl rfl rfl rfl rfl rfl rfl rfl rfl rfl (hfY) (by first | rfl | omega | (simp only [List.length_set, List.length_map, List.length_append, List.length_cons, List.length_nil] <;> omega) | (simp <;> omega)) (by first | assumption | exact sZ rfl | exact Tm.size_all _ | exact Bd.size_all _ | exact ints_size _ | exact bys_size _ | exact Lt.size_all _) (by simp) (hroom)) (by kernel_rfl) ?_)
        (refine nx (aL (gN rfl) rfl rfl rfl rfl rfl rfl rfl rfl rfl rfl rfl rfl) rfl ?_)
        (refine nx (aM (gN rfl) rfl rfl rfl rfl rfl) rfl ?_)
        (refine nx (a_callY hon (gN rfl) rfl rfl rfl rfl rfl (hcall) (by repeat (first | exact trivial | refine ⟨rfl, ?_⟩)) (by first | rfl | kernel_rfl) (by first | rfl | kernel_rfl) (by first | rfl | kernel_rfl) (by first | rfl | kernel_rfl) (hnb_of (by first | rfl | kernel_rfl)) rfl) rfl ?_)
        (refine nx (a_not (gN rfl) rfl rfl rfl rfl rfl) rfl ?_)
        refine ⟨by kernel_rfl, ?_⟩
        show AWp _ _ _ _ _ _ _
        refine aC rfl (fun hc => by cases hc) (fun hc => aK ?_)
        show AWp _ _ _ _ _ _ _
        refine AWp.wk (wk_again 400002 400003 3 5 (pl.map CV.i).length rfl rfl rfl rfl rfl rfl rfl (by simp)) ?_
        refine aR ?_
        (refine nx (a_add (gN rfl) rfl rfl rfl rfl rfl rfl (by first | omega | (simp only [List.length_map, List.length_append, List.length_cons, List.length_nil] <;> omega) | (simp <;> omega))) rfl ?_)
        (refine nx (aM (gN rfl) rfl rfl rfl rfl rfl) rfl ?_)
        refine ⟨hkl, ?_⟩
        show Wk _ _ _ _ ((0, AV.sl 400002 0 pl.length 1) :: (2, .val (yldV l0)) :: (18, .val (.lst (l.map Tm.cv))) :: (19, .val (.i (l.map Tm.cv).length)) :: (20, .val (.i (((k + 1 : Nat) : Int)))) :: (obX (Ls (j + 1 + (syL (l.take (k + 1)) 0 pl).length)) 400002 pl))
        rw [hJ2]
        refine wk_sub ⟨rfl, rfl, rfl, rfl, rfl, rfl, rfl, rfl, ?_, trivial⟩
        show some (AV.mrow 3 1 ((pl.map CV.i ++ [CV.i (k : Int)]).take (pl.map CV.i).length)) = _
        rw [List.take_left' rfl]
      · have hce : cap = (pl.map CV.i).length := by omega
        subst hce
        refine aS (aD (by kernel_rfl) (by kernel_rfl) ?_)
        (refine nx (aM (gN rfl) rfl rfl rfl rfl rfl) rfl ?_)
        (refine nx (aM (gN rfl) rfl rfl rfl rfl rfl) rfl ?_)
        (refine nx (a_bslice (gN rfl) rfl rfl rfl rfl rfl rfl rfl rfl rfl rfl rfl rfl rfl) rfl ?_)
        (refine nx (a_appX 400003 3 (gN rfl) rfl rfl rfl rfl rfl rfl rfl rfl rfl rfl rfl rfl rfl rfl (hfY) (by first | rfl | omega | (simp only [List.length_set, List.length_map, List.length_append, List.length_cons, List.length_nil] <;> omega) | (simp <;> omega)) (by first | assumption | exact sZ rfl | exact Tm.size_all _ | exact Bd.size_all _ | exact ints_size _ | exact bys_size _ | exact Lt.size_all _) (by simp) (by first | omega | (simp only [List.length_map, List.length_append, List.length_cons, List.length_nil] <;> omega) | (simp <;> omega))) (by kernel_rfl) ?_)
        (refine nx (aL (gN rfl) rfl rfl rfl rfl rfl rfl rfl rfl rfl rfl rfl rfl) rfl ?_)
        (refine nx (aM (gN rfl) rfl rfl rfl rfl rfl) rfl ?_)
        (refine nx (a_callY hon (gN rfl) rfl rfl rfl rfl rfl (hcall) (by repeat (first | exact trivial | refine ⟨rfl, ?_⟩)) (by first | rfl | kernel_rfl) (by first | rfl | kernel_rfl) (by first | rfl | kernel_rfl) (by first | rfl | kernel_rfl) (hnb_of (by first | rfl | kernel_rfl)) rfl) rfl ?_)
        (refine nx (a_not (gN rfl) rfl rfl rfl rfl rfl) rfl ?_)
        refine ⟨by kernel_rfl, ?_⟩
        show AWp _ _ _ _ _ _ _
        refine aC rfl (fun hc => by cases hc) (fun hc => aK ?_)
        show AWp _ _ _ _ _ _ _
        refine aR ?_
        (refine nx (a_add (gN rfl) rfl rfl rfl rfl rfl rfl (by first | omega | (simp only [List.length_map, List.length_append, List.length_cons, List.length_nil] <;> omega) | (simp <;> omega))) rfl ?_)
        (refine nx (aM (gN rfl) rfl rfl rfl rfl rfl) rfl ?_)
        refine ⟨hkl, ?_⟩
        show Wk _ _ _ _ ((0, AV.sl 400002 0 pl.length 1) :: (2, .val (yldV l0)) :: (18, .val (.lst (l.map Tm.cv))) :: (19, .val (.i (l.map Tm.cv).length)) :: (20, .val (.i (((k + 1 : Nat) : Int)))) :: (obX (Ls (j + 1 + (syL (l.take (k + 1)) 0 pl).length)) 400002 pl))
        rw [hJ2]
        exact wk_sub ⟨rfl, rfl, rfl, rfl, rfl, rfl, rfl, rfl, rfl, trivial⟩
    · have hkl : k = l.length := by
        have : ¬ k < l.length := by simpa using hlt
        omega
      subst hkl
      have hJ3 : j + ((pl, (⟨f, l⟩ : Tm)) :: syL l 0 pl).length = J := by rw [List.take_length] at hJ; rw [hJ, List.length_cons]; omega
      rw [hJ3, ← hJ]
      refine aE ?_
      show AWp _ _ _ _ _ _ _
      refine aS (aR ?_)
      (refine nx (aA (gN rfl) rfl rfl rfl rfl rfl) rfl ?_)
      show AWp _ _ _ _ _ _ _
      exact aT ⟨.inr rfl, _, Wk.refl _, rfl, rfl, rfl, rfl, rfl, trivial⟩
  · refine afunY_of Tryz.func120 Tryz.ntmps120 rfl rfl rfl rfl (by kernel_rfl) (by kernel_rfl) ?_
    intro w U hon hU
    have hfY : U.f 400002 = none := hUno9 hU (by kernel_rfl)
    refine aS (aR ?_)
    (refine nx (a_box (gN rfl) rfl rfl rfl rfl rfl) (by kernel_rfl) ?_)
    (refine nx (aA (gN rfl) rfl rfl rfl rfl rfl) rfl ?_)
    show AWp _ _ _ _ _ _ _
    refine aS (aS (aR ?_))
    (refine nx (aF (gN rfl) rfl rfl rfl rfl rfl rfl rfl rfl rfl) rfl ?_)
    (refine nx (aLb (gN rfl) rfl rfl rfl rfl rfl rfl rfl rfl rfl rfl rfl rfl) rfl ?_)
    (refine nx (a_lss (gN rfl) rfl rfl rfl rfl rfl rfl) rfl ?_)
    show AWp _ _ _ _ _ _ _
    refine aC rfl (fun hc => ?_) (fun hc => ?_)
    · have hf : f < 0 := by simpa using hc
      have e : (sy ⟨f, l⟩ pl).length = 0 := by rw [sy_eq, if_pos hf]; rfl
      rw [e, Nat.add_zero]
      refine aS (aR ?_)
      (refine nx (aA (gN rfl) rfl rfl rfl rfl rfl) rfl ?_)
      show AWp _ _ _ _ _ _ _
      exact aT ⟨.inr rfl, _, Wk.refl _, rfl, rfl, rfl, rfl, rfl, trivial⟩
    have hf : ¬ f < 0 := by simpa using hc
    have hsy := sy_eq ⟨f, l⟩ pl
    rw [if_neg hf] at hsy
    rw [hsy] at hY ⊢
    refine aK ?_
    show AWp _ _ _ _ _ _ _
    refine AWp.wk (wk_sub (s' := (0, AV.sl 400003 0 pl.length 1) :: (2, .val (yldV l0)) :: (4, .bp 4 0 []) :: (100004, .bx (Tm.cw ⟨f, l⟩)) :: (obX (Ls (j)) 400003 pl)) ⟨rfl, rfl, rfl, rfl, rfl, rfl, rfl, rfl, trivial⟩) ?_
    have hY0 := hY 0 (pl, ⟨f, l⟩) rfl 400003 (by simp)
    refine aS (aS (awp_regionY ?_))
    (refine nxY (AOp.y (aM (gN rfl) rfl rfl rfl rfl rfl)) rfl ?_)
    (refine nxY (AOp.y (aM (gN rfl) rfl rfl rfl rfl rfl)) rfl ?_)
    (refine nxY (AOp.y (aL (gN rfl) rfl rfl rfl rfl rfl rfl rfl rfl rfl rfl rfl rfl)) rfl ?_)
    (refine nxY (a_yield (u := .slice none 0 0) 0 (hY0) hon (gN rfl) rfl rfl rfl rfl rfl rfl (.inr fun _ _ => rfl) (by repeat (first | exact trivial | refine ⟨rfl, ?_⟩)) (by first | rfl | kernel_rfl) (by first | rfl | kernel_rfl) (by first | rfl | kernel_rfl) (hnb_of (by first | rfl | kernel_rfl)) rfl) rfl ?_)
    (refine nxY (AOp.y (a_not (gN rfl) rfl rfl rfl rfl rfl)) rfl ?_)
    show AWp _ _ _ _ _ _ _
    refine aC rfl (fun hc => by cases hc) (fun hc => aK ?_)
    show AWp _ _ _ _ _ _ _
    refine AWp.wk (wk_sub (s' := (0, AV.sl 400003 0 pl.length 1) :: (2, .val (yldV l0)) :: (4, .bp 4 0 []) :: (100004, .bx (Tm.cw ⟨f, l⟩)) :: (obX (Ls (j + 1)) 400003 pl)) ⟨rfl, rfl, rfl, rfl, rfl, rfl, rfl, rfl, trivial⟩) ?_
    refine aS (aS (aR ?_))
    (refine nx (aF (gN rfl) rfl rfl rfl rfl rfl rfl rfl rfl rfl) rfl ?_)
    (refine nx (aLb (gN rfl) rfl rfl rfl rfl rfl rfl rfl rfl rfl rfl rfl rfl) rfl ?_)
    (refine nx (a_len (gN rfl) rfl rfl rfl rfl rfl rfl rfl) rfl ?_)
    (refine nx (aM (gN rfl) rfl rfl rfl rfl rfl) rfl ?_)
    show AWp _ _ _ _ _ _ _
    refine aB (awp_count l.length (fun k => (0, AV.sl 400003 0 pl.length 1) :: (2, .val (yldV l0)) :: (18, .val (.lst (l.map Tm.cv))) :: (19, .val (.i (l.map Tm.cv).length)) :: (20, .val (.i (k))) :: (obX (Ls (j + 1 + (syL (l.take k) 0 pl).length)) 400003 pl)) (wk_sub ⟨rfl, rfl, rfl, rfl, rfl, ?_, ?_, ?_, rfl, trivial⟩) ?_)
    · rfl
    · rfl
    · rfl
    intro k hk
    obtain ⟨J, hJ⟩ : ∃ J, J = j + 1 + (syL (l.take k) 0 pl).length := ⟨_, rfl⟩
    refine aS (aR ?_)
    (refine nx (a_lss (gN rfl) rfl rfl rfl rfl rfl rfl) rfl ?_)
    show AWp _ _ _ _ _ _ _
    refine aS (aC rfl (fun hlt => ?_) (fun hlt => ?_))
    · have hkl : k < l.length := by simpa using hlt
      obtain ⟨x, hx⟩ : ∃ x, l[k]? = some x := ⟨l[k], List.getElem?_eq_getElem hkl⟩
      have hx' := Tm.map_at hx
      have hxm := List.mem_of_getElem? hx
      have hszs := sy_sizes hf hx
      have hstep : syL (l.take (k + 1)) 0 pl = syL (l.take k) 0 pl ++ sy x (pl ++ [(k : Int)]) := by rw [syL_take 0 pl hx, Nat.zero_add]
      have hJ2 : j + 1 + (syL (l.take (k + 1)) 0 pl).length = J + (sy x (pl ++ [(k : Int)])).length := by rw [hstep, List.length_append, hJ]; omega
      have hcall := (ih x hxm J (pl ++ [(k : Int)]) (by rw [List.length_append]; simp only [List.length_cons, List.length_nil]; omega) (fun i y hy X hX => by
        have h2 := hY (1 + (syL (l.take k) 0 pl).length + i) y (syL_at hx pl hy) X hX
        have e1 : j + (1 + (syL (l.take k) 0 pl).length + i) = J + i := by omega
        rw [e1] at h2
        exact h2)).1
      have hpe : (pl ++ [(k : Int)]).length = (pl.map CV.i).length + [CV.i (k : Int)].length := by simp
      unfold obX at hcall
      rw [hpe, List.map_append] at hcall
      have hlm : (pl.map CV.i).length = pl.length := List.length_map ..
      rw [← hJ]
      refine aK ?_
      show AWp _ _ _ _ _ _ _
      refine aS (aB (aS (aR ?_)))
      (refine nx (aM (gN rfl) rfl rfl rfl rfl rfl) rfl ?_)
      (refine nx (a_index (j := k) (gN rfl) rfl rfl rfl rfl rfl rfl rfl rfl rfl (hx') rfl (hsz)) rfl ?_)
      (refine nx (a_load_ad (gN rfl) rfl rfl rfl rfl rfl rfl rfl rfl rfl) rfl ?_)
      (refine nx (a_alloc (gN rfl) rfl rfl rfl rfl rfl rfl rfl rfl rfl rfl) (by kernel_rfl) ?_)
      (refine nx (aA (gN rfl) rfl rfl rfl rfl rfl) rfl ?_)
      (refine nx (aSt (gN rfl) rfl rfl rfl rfl rfl rfl rfl rfl rfl rfl) rfl ?_)
      show AWp _ _ _ _ _ _ _
      refine AWp.wk (wk_sub (s' := (7, AV.val (.i (k : Int))) :: (8, .bp 8 0 []) :: (100008, .bx x.cw) :: ((0, AV.sl 400003 0 pl.length 1) :: (2, .val (yldV l0)) :: (18, .val (.lst (l.map Tm.cv))) :: (19, .val (.i (l.map Tm.cv).length)) :: (20, .val (.i (k))) :: (obX (Ls (J)) 400003 pl))) ⟨rfl, rfl, rfl, rfl, rfl, rfl, rfl, rfl, rfl, rfl, rfl, rfl, trivial⟩) ?_
      refine AWp.handle 3 400003 rfl rfl rfl rfl fun ao cap hcap hao => ?_
      rcases Nat.lt_or_ge (pl.map CV.i).length cap with hroom | hroom
      · refine aS (aD (by kernel_rfl) (by kernel_rfl) ?_)
        (refine nx (aM (gN rfl) rfl rfl rfl rfl rfl) rfl ?_)
        (refine nx (aM (gN rfl) rfl rfl rfl rfl rfl) rfl ?_)
        (refine nx (a_bslice (gN rfl) rfl rfl rfl rfl rfl rfl rfl rfl rfl rfl rfl rfl rfl) rfl ?_)
        (refine nx (a_appR 400002 3 5 (gN rfl) rfl rfl rfl rfl rfl rfl rfl rfl rfl rfl rfl rfl rfl (hfY) (by first | rfl | omega | (simp only [List.length_set, List.length_map, List.length_append, List.length_cons, List.length_nil] <;> omega) | (simp <;> omega)) (by first | assumption | exact sZ rfl | exact Tm.size_all _ | exact Bd.size_all _ | exact ints_size _ | exact bys_size _ | exact Lt.size_all _) (by simp) (hroom)) (by kernel_rfl) ?_)
        (refine nx (aL (gN rfl) rfl rfl rfl rfl rfl rfl rfl rfl rfl rfl rfl rfl) rfl ?_)
        (refine nx (aM (gN rfl) rfl rfl rfl rfl rfl) rfl ?_)
        (refine nx (a_callY hon (gN rfl) rfl rfl rfl rfl rfl (hcall) (by repeat (first | exact trivial | refine ⟨rfl, ?_⟩)) (by first | rfl | kernel_rfl) (by first | rfl | kernel_rfl) (by first | rfl | kernel_rfl) (by first | rfl | kernel_rfl) (hnb_of (by first | rfl | kernel_rfl)) rfl) rfl ?_)
        (refine nx (a_not (gN rfl) rfl rfl rfl rfl rfl) rfl ?_)
        refine ⟨by kernel_rfl, ?_⟩
        show AWp _ _ _ _ _ _ _
        refine aC rfl (fun hc => by cases hc) (fun hc => aK ?_)
        show AWp _ _ _ _ _ _ _
        refine AWp.wk (wk_again 400003 400002 3 5 (pl.map CV.i).length rfl rfl rfl rfl rfl rfl rfl (by simp)) ?_
        refine aR ?_
        (refine nx (a_add (gN rfl) rfl rfl rfl rfl rfl rfl (by first | omega | (simp only [List.length_map, List.length_append, List.length_cons, List.length_nil] <;> omega) | (simp <;> omega))) rfl ?_)
        (refine nx (aM (gN rfl) rfl rfl rfl rfl rfl) rfl ?_)
        refine ⟨hkl, ?_⟩
        show Wk _ _ _ _ ((0, AV.sl 400003 0 pl.length 1) :: (2, .val (yldV l0)) :: (18, .val (.lst (l.map Tm.cv))) :: (19, .val (.i (l.map Tm.cv).length)) :: (20, .val (.i (((k + 1 : Nat) : Int)))) :: (obX (Ls (j + 1 + (syL (l.take (k + 1)) 0 pl).length)) 400003 pl))
        rw [hJ2]
        refine wk_sub ⟨rfl, rfl, rfl, rfl, rfl, rfl, rfl, rfl, ?_, trivial⟩
        show some (AV.mrow 3 1 ((pl.map CV.i ++ [CV.i (k : Int)]).take (pl.map CV.i).length)) = _
        rw [List.take_left' rfl]
      · have hce : cap = (pl.map CV.i).length := by omega
        subst hce
        refine aS (aD (by kernel_rfl) (by kernel_rfl) ?_)
        (refine nx (aM (gN rfl) rfl rfl rfl rfl rfl) rfl ?_)
        (refine nx (aM (gN rfl) rfl rfl rfl rfl rfl) rfl ?_)
        (refine nx (a_bslice (gN rfl) rfl rfl rfl rfl rfl rfl rfl rfl rfl rfl rfl rfl rfl) rfl ?_)
        (refine nx (a_appX 400002 3 (gN rfl) rfl rfl rfl rfl rfl rfl rfl rfl rfl rfl rfl rfl rfl rfl (hfY) (by first | rfl | omega | (simp only [List.length_set, List.length_map, List.length_append, List.length_cons, List.length_nil] <;> omega) | (simp <;> omega)) (by first | assumption | exact sZ rfl | exact Tm.size_all _ | exact Bd.size_all _ | exact ints_size _ | exact bys_size _ | exact Lt.size_all _) (by simp) (by first | omega | (simp only [List.length_map, List.length_append, List.length_cons, List.length_nil] <;> omega) | (simp <;> omega))) (by kernel_rfl) ?_)
        (refine nx (aL (gN rfl) rfl rfl rfl rfl rfl rfl rfl rfl rfl rfl rfl rfl) rfl ?_)
        (refine nx (aM (gN rfl) rfl rfl rfl rfl rfl) rfl ?_)
        (refine nx (a_callY hon (gN rfl) rfl rfl rfl rfl rfl (hcall) (by repeat (first | exact trivial | refine ⟨rfl, ?_⟩)) (by first | rfl | kernel_rfl) (by first | rfl | kernel_rfl) (by first | rfl | kernel_rfl) (by first | rfl | kernel_rfl) (hnb_of (by first | rfl | kernel_rfl)) rfl) rfl ?_)
        (refine nx (a_not (gN rfl) rfl rfl rfl rfl rfl) rfl ?_)
        refine ⟨by kernel_rfl, ?_⟩
        show AWp _ _ _ _ _ _ _
        refine aC rfl (fun hc => by cases hc) (fun hc => aK ?_)
        show AWp _ _ _ _ _ _ _
        refine aR ?_
        (refine nx (a_add (gN rfl) rfl rfl rfl rfl rfl rfl (by first | omega | (simp only [List.length_map, List.length_append, List.length_cons, List.length_nil] <;> omega) | (simp <;> omega))) rfl ?_)
        (refine nx (aM (gN rfl) rfl rfl rfl rfl rfl) rfl ?_)
        refine ⟨hkl, ?_⟩
        show Wk _ _ _ _ ((0, AV.sl 400003 0 pl.length 1) :: (2, .val (yldV l0)) :: (18, .val (.lst (l.map Tm.cv))) :: (19, .val (.i (l.map Tm.cv).length)) :: (20, .val (.i (((k + 1 : Nat) : Int)))) :: (obX (Ls (j + 1 + (syL (l.take (k + 1)) 0 pl).length)) 400003 pl))
        rw [hJ2]
        exact wk_sub ⟨rfl, rfl, rfl, rfl, rfl, rfl, rfl, rfl, rfl, trivial⟩
    · have hkl : k = l.length := by
        have : ¬ k < l.length := by simpa using hlt
        omega
      subst hkl
      have hJ3 : j + ((pl, (⟨f, l⟩ : Tm)) :: syL l 0 pl).length = J := by rw [List.take_length] at hJ; rw [hJ, List.length_cons]; omega
      rw [hJ3, ← hJ]
      refine aE ?_
      show AWp _ _ _ _ _ _ _
      refine aS (aR ?_)
      (refine nx (aA (gN rfl) rfl rfl rfl rfl rfl) rfl ?_)
      show AWp _ _ _ _ _ _ _
      exact aT ⟨.inr rfl, _, Wk.refl _, rfl, rfl, rfl, rfl, rfl, trivial⟩
-- 
theorem suSymbols_abs (W : World) (t : Tm) : AFun Tryz.prog W 91 [t.cw] (.val (.fn 119 0 [.ptr t.cw])) := by
  refine afun_of (rs := [.fn 119 0 [.ptr t.cw]]) Tryz.func91 Tryz.ntmps91 rfl rfl rfl rfl ?_
  intro w U hW
  refine aS (aR ?_)
  (refine nx (a_box (gN rfl) rfl rfl rfl rfl rfl) rfl ?_)
  (refine nx (aA (gN rfl) rfl rfl rfl rfl rfl) rfl ?_)
  show AWp _ _ _ _ _ _ _
  refine AWp.wk (wk_freeze 1 rfl rfl rfl (s' := []) trivial rfl rfl rfl) ?_
  refine aS (aR ?_)
  (refine nx (a_mkfunc (gN rfl) rfl rfl rfl rfl rfl rfl) rfl ?_)
  (refine nx (aA (gN rfl) rfl rfl rfl rfl rfl) rfl ?_)
  show AWp _ _ _ _ _ _ _
  exact aT ⟨.inr rfl, rfl⟩
-- 
set_option maxHeartbeats 2000000 in
theorem suSym_hands (t : Tm) (hsz : t.size ≤ 1000000) (Ls : Nat → List (List Lt)) : HandsY Tryz.prog 119 [.ptr t.cw] [400002, 400003] (fun X x => rowI X x.1) (fun X x _ => [.sl X 0 x.1.length 1, .val x.2.cw]) (sy t []) (fun k => obE (Ls k)) := by
  intro Wb Ub l0 hY
  have hw := (suWalk_abs Wb Ub l0 Ls t 0 [] (by simpa using hsz) (fun i x hx X hX => by
    have := hY i x hx X hX
    rw [show 0 + i = i by omega]
    exact this)).1
  rw [Nat.zero_add] at hw
  have hcall : AFunY Tryz.prog Wb Ub 120 (obE (Ls 0)) [.own (.lst []) 1, .val t.cw, .val (yldV l0)] (.val (.b true)) (obE (Ls (sy t []).length)) := afunY_nil 400002 3 1 (cs := [t.cw, yldV l0]) rfl rfl (by kernel_rfl) rfl hw
  refine afunY_of Tryz.func119 Tryz.ntmps119 rfl rfl rfl rfl (by kernel_rfl) (by kernel_rfl) ?_
  intro w U hon hU
  show AWp _ _ _ _ _ _ ((0, AV.val (yldV l0)) :: (1, .val (.ptr t.cw)) :: obE (Ls 0))
  refine aR ?_
  (refine nx (a_load_ptr (gN rfl) rfl rfl rfl rfl rfl rfl rfl rfl rfl) rfl ?_)
  (refine nx (aM (gN rfl) rfl rfl rfl rfl rfl) rfl ?_)
  (refine nx (a_callY hon (gN rfl) rfl rfl rfl rfl rfl (hcall) (by repeat (first | exact trivial | refine ⟨rfl, ?_⟩)) (by first | rfl | kernel_rfl) (by first | rfl | kernel_rfl) (by first | rfl | kernel_rfl) (by first | rfl | kernel_rfl) (hnb_of (by first | rfl | kernel_rfl)) rfl) rfl ?_)
  exact ⟨.inl rfl, _, Wk.refl _, rfl, rfl, rfl, rfl, trivial⟩
-- 
theorem suLeads_abs (W : World) (a b : Tm) (ha : a.rng ∧ a.ok ∧ a.size ≤ 1000000) (hb : b.rng ∧ b.ok ∧ b.size ≤ 1000000) : AFun Tryz.prog W 38 [a.cw, b.cw] (.val (.b (leadB a b))) := by
  have hk := fun w => kCmp_abs w a b ha.1 ha.2.1 (by omega) hb.1 hb.2.1 (by omega)
  obtain ⟨k, hkk⟩ : ∃ k, k = kb a b := ⟨_, rfl⟩
  have he : leadB a b = decide (k = 1 ∨ k = 2) := by rw [hkk]; rfl
  rw [← hkk] at hk
  rw [he]
  refine afun_of (rs := [.b (decide (k = 1 ∨ k = 2))]) Tryz.func38 Tryz.ntmps38 rfl rfl rfl rfl ?_
  intro w U hW
  refine aS (aR ?_)
  (refine nx (a_box (gN rfl) rfl rfl rfl rfl rfl) rfl ?_)
  (refine nx (a_box (gN rfl) rfl rfl rfl rfl rfl) rfl ?_)
  (refine nx (aA (gN rfl) rfl rfl rfl rfl rfl) rfl ?_)
  show AWp _ _ _ _ _ _ _
  refine aS (aR ?_)
  (refine nx (aL (gN rfl) rfl rfl rfl rfl rfl rfl rfl rfl rfl rfl rfl rfl) rfl ?_)
  (refine nx (aL (gN rfl) rfl rfl rfl rfl rfl rfl rfl rfl rfl rfl rfl rfl) rfl ?_)
  (refine nx (a_call (gN rfl) rfl rfl rfl rfl rfl (hk w)) rfl ?_)
  (refine nx (aA (gN rfl) rfl rfl rfl rfl rfl) rfl ?_)
  show AWp _ _ _ _ _ _ _
  by_cases h1 : k = 1
  · have g : decide (k = 1) = true := decide_eq_true h1
    rw [decide_eq_true (Or.inl h1)]
    refine aS (aR ?_)
    (refine nx (aM (gN rfl) rfl rfl rfl rfl rfl) rfl ?_)
    (refine nx (a_eql (gN rfl) rfl rfl rfl rfl rfl rfl) rfl ?_)
    (refine nx (aM (gN rfl) rfl rfl rfl rfl rfl) rfl ?_)
    (refine ⟨_, _, _, a_off (go_off rfl rfl rfl rfl (by first | rfl | assumption | (simp; done) | (simp [*]; done))) rfl rfl rfl, rfl, ?_⟩)
    (refine ⟨_, _, _, a_off (go_off rfl rfl rfl rfl (by first | rfl | assumption | (simp; done) | (simp [*]; done))) rfl rfl rfl, rfl, ?_⟩)
    (refine ⟨_, _, _, aPt (gN rfl) rfl rfl rfl rfl rfl ?hb rfl, rfl, ?_⟩; case hb => (first | rfl | assumption | (simp; done)))
    (refine nx (aA (gN rfl) rfl rfl rfl rfl rfl) rfl ?_)
    show AWp _ _ _ _ _ _ _
    exact aT (And.intro (.inr rfl) rfl)
  · have g : decide (k = 1) = false := decide_eq_false h1
    have e : decide (k = 1 ∨ k = 2) = decide (k = 2) := by simp [h1]
    rw [e]
    refine aS (aR ?_)
    (refine nx (aM (gN rfl) rfl rfl rfl rfl rfl) rfl ?_)
    (refine nx (a_eql (gN rfl) rfl rfl rfl rfl rfl rfl) rfl ?_)
    (refine nx (aM (gN rfl) rfl rfl rfl rfl rfl) rfl ?_)
    (refine nx (aM (gd_on rfl rfl rfl rfl (by first | rfl | assumption | (simp; done))) rfl rfl rfl rfl rfl) rfl ?_)
    (refine nx (a_eql (gd_on rfl rfl rfl rfl (by first | rfl | assumption | (simp; done))) rfl rfl rfl rfl rfl rfl) rfl ?_)
    (refine ⟨_, _, _, aPf (gN rfl) rfl rfl rfl rfl rfl ?hb rfl, rfl, ?_⟩; case hb => (first | rfl | assumption | (simp; done)))
    (refine nx (aA (gN rfl) rfl rfl rfl rfl rfl) rfl ?_)
    show AWp _ _ _ _ _ _ _
    exact aT (And.intro (.inr rfl) rfl)
-- 
theorem suAlways_abs (W : World) (a b : Tm) : AFun Tryz.prog W 42 [a.cw, b.cw] (.val (.b true)) := by
  refine afun_of (rs := [.b true]) Tryz.func42 Tryz.ntmps42 rfl rfl rfl rfl ?_
  intro w U hW
  refine aS (aR ?_)
  (refine nx (a_box (gN rfl) rfl rfl rfl rfl rfl) rfl ?_)
  (refine nx (a_box (gN rfl) rfl rfl rfl rfl rfl) rfl ?_)
  (refine nx (aA (gN rfl) rfl rfl rfl rfl rfl) rfl ?_)
  show AWp _ _ _ _ _ _ _
  refine aS (aR ?_)
  (refine nx (aA (gN rfl) rfl rfl rfl rfl rfl) rfl ?_)
  show AWp _ _ _ _ _ _ _
  exact aT (And.intro (.inr rfl) rfl)
def upL (n : Nat) : List Int := (List.range n).map fun (k : Nat) => (k : Int)
theorem upL_succ (n : Nat) : upL (n + 1) = upL n ++ [(n : Int)] := by
  unfold upL
  rw [List.range_succ, List.map_append]; rfl
theorem upL_len (n : Nat) : (upL n).length = n := by unfold upL; simp
structure Wy where
  n : Int
  a : Tm
  b : Tm
noncomputable def Wy.cv (w : Wy) : CV := .row [.i w.n, .row [.i w.a.f, .lst (w.a.l.map Tm.cv)], .row [.i w.b.f, .lst (w.b.l.map Tm.cv)]]
def wy2 (n : Int) (l : Lt) : List Wy := [⟨n, l.a, l.b⟩, ⟨n, l.b, l.a⟩]
noncomputable def wysN (ld : Tm → Tm → Bool) (c : List Lt) (n : Int) : List Wy := match c[n.toNat]? with
  | some l => (wy2 n l).filter fun w => ld w.a w.b
  | none => []
noncomputable def wysL (ld : Tm → Tm → Bool) (c : List Lt) (L : List Int) : List Wy := L.flatMap (wysN ld c)
theorem wysL_take {ld : Tm → Tm → Bool} {c : List Lt} {L : List Int} {k : Nat} {n : Int} (h : L[k]? = some n) : wysL ld c (L.take (k + 1)) = wysL ld c (L.take k) ++ wysN ld c n := by
  unfold wysL
  rw [List.take_add_one, h, List.flatMap_append]
  simp
theorem wy2_size (n : Int) (l : Lt) : ∀ x ∈ (wy2 n l).map Wy.cv, x.size = 5 := by
  intro x hx
  obtain ⟨w, _, rfl⟩ := List.mem_map.1 hx
  rfl
theorem wys_at {ld : Tm → Tm → Bool} {c : List Lt} {L : List Int} {k : Nat} {n : Int} {l : Lt} (h : L[k]? = some n) (hl : c[n.toNat]? = some l) {j : Nat} {w : Wy} (hj : (wy2 n l)[j]? = some w) (hld : ld w.a w.b = true) : (wysL ld c L)[(wysL ld c (L.take k)).length + (((wy2 n l).take j).filter fun w => ld w.a w.b).length]? = some w := by
  have h1 : wysL ld c L = wysL ld c (L.take (k + 1)) ++ wysL ld c (L.drop (k + 1)) := by
    conv => lhs; rw [← List.take_append_drop (k + 1) L]
    unfold wysL; rw [List.flatMap_append]
  have h2 : wysN ld c n = (wy2 n l).filter fun w => ld w.a w.b := by unfold wysN; rw [hl]
  have h3 : (wy2 n l).filter (fun w => ld w.a w.b) = ((wy2 n l).take j).filter (fun w => ld w.a w.b) ++ (w :: ((wy2 n l).drop (j + 1)).filter fun w => ld w.a w.b) := by
    conv => lhs; rw [← List.take_append_drop j (wy2 n l), drop_at hj]
    rw [List.filter_append, List.filter_cons, if_pos hld]
  rw [h1, wysL_take h, h2, h3, List.append_assoc, List.getElem?_append_right (by omega), Nat.add_sub_cancel_left, List.append_assoc, List.getElem?_append_right (by omega), Nat.sub_self]
  rfl
section
variable {P : Program} {w0 : World} {U0 : UX} {nt : Nat} {s : AS}
variable {ops : Array Oper} {o : Oper} {S : Nat → Option AV} {gs : List Nat} {d : Nat}
theorem a_alloc1V (hg : Gd w0 U0 nt ops o gs S) (hd : o.dst = some d) (hn : Nat.blt d nt = true) (h5 : Nat.blt d 100000 = true) {ty : TypeId} {v : Value} {c : CV} (ho : o.op = .alloc ty) (hi : (P.info? ty).map (·.zero) = some (some v)) (hc : (v = .slice none 0 0 ∧ c = .lst []) ∨ (v.oneCell' = true ∧ c = .sc v)) : AOp P w0 U0 nt ops o gs [(d, [])] S [(d, .bp d 0 []), (100000 + d, .bx c)] := by
  intro s hs hN a w ⟨D, hv, h⟩ Q K hK
  rw [if_pos (hg s hs a w D hv h)]
  obtain ⟨it, hi1, hi2⟩ : ∃ it, P.info? ty = some it ∧ it.zero = some v := by
    cases e : P.info? ty with
    | none => rw [e] at hi; cases hi
    | some it => rw [e] at hi; exact ⟨it, rfl, by simpa using hi⟩
  have hrep : Rep (Us w0 U0 D) w c [v] ∧ v.cells = #[v] := by
    rcases hc with ⟨rfl, rfl⟩ | ⟨h1, rfl⟩
    · exact ⟨rep_lst.2 ⟨none, 0, 0, rfl, rfl, by omega, (by unfold maxLen; omega), (fun _ => ⟨rfl, rfl⟩), [], .inl rfl, rfl⟩, rfl⟩
    · exact ⟨rep_sc.2 ⟨rfl, h1⟩, by cases v <;> first | rfl | simp [Value.oneCell'] at h1⟩
  have he : (execOp a.eval o).run P w = .ok (.value (.pointer (some ⟨w.heap.size, 0, none⟩))) (w.alloc (.cells #[v] ty)) := by
    simp [execOp, ho, Instr.alloc, zeroValue, typeInfo, hi1, hi2, run_newVar, hrep.2]
  unfold Oper.wp
  rw [he, Oper.upon_value, hd]
  exact hK _ _ ⟨_, _, h.newbox (d := d) (av := .bx c) (xs := [v]) (hN (d, []) (by simp)).nr (bL hn) (bL h5) (.inl rfl) ty (fun _ => hrep.1) (fun _ hl => absurd hl not_live0)⟩
theorem wk_ptrad (d : Nat) {c : CV} (h1 : look s d = some (.val (.ptr c))) (hd : Nat.blt d 100000 = true) : Wk w0 U0 nt s ((d, .ad c) :: s) := by
  rintro a w ⟨D, hv, h⟩
  obtain ⟨v, g1, g2⟩ := h.slot d _ h1 (bL hd)
  obtain ⟨b, off, xs, e1, e2, e3⟩ := vrep_ptr.1 g2.1
  exact ⟨D, hv, h.know (bL hd) g1 ⟨b, off, xs, e1, e2, e3⟩⟩
end
noncomputable abbrev ruC (fl fd : Nat) : CV := .row [.fn fl 0 [], .fn fd 0 []]
-- 
theorem suWays_abs (W : World) (fl fd : Nat) (c : List Lt) (L : List Int) (hlk : ∀ w, AFun Tryz.prog w fl [.lst (c.map Lt.cv)] (.val (.lst (L.map CV.i)))) : AFun Tryz.prog W 89 [ruC fl fd, .lst (c.map Lt.cv)] (.val (.fn 118 0 [.ptr (.lst (L.map CV.i)), .ptr (.lst (c.map Lt.cv)), .ptr (ruC fl fd)])) := by
  refine afun_of (rs := [.fn 118 0 [.ptr (.lst (L.map CV.i)), .ptr (.lst (c.map Lt.cv)), .ptr (ruC fl fd)]]) Tryz.func89 Tryz.ntmps89 rfl rfl rfl rfl ?_
  intro w U hW
  have hv : AFunV Tryz.prog w (.fn fl 0 []) [.lst (c.map Lt.cv)] (.val (.lst (L.map CV.i))) := ⟨fl, 0, [], rfl, by simpa using hlk w⟩
  refine aS (aR ?_)
  (refine nx (a_box (gN rfl) rfl rfl rfl rfl rfl) rfl ?_)
  (refine nx (a_box (gN rfl) rfl rfl rfl rfl rfl) rfl ?_)
  (refine nx (aA (gN rfl) rfl rfl rfl rfl rfl) rfl ?_)
  show AWp _ _ _ _ _ _ _
  refine aS (aR ?_)
  (refine nx (aF (gN rfl) rfl rfl rfl rfl rfl rfl rfl rfl rfl) rfl ?_)
  (refine nx (aLb (gN rfl) rfl rfl rfl rfl rfl rfl rfl rfl rfl rfl rfl rfl) rfl ?_)
  (refine nx (aL (gN rfl) rfl rfl rfl rfl rfl rfl rfl rfl rfl rfl rfl rfl) rfl ?_)
  (refine nx (a_callv (gN rfl) rfl rfl rfl rfl rfl rfl (hv)) rfl ?_)
  (refine nx (a_alloc1V (gN rfl) rfl rfl rfl rfl rfl (by first | exact .inl ⟨rfl, rfl⟩ | exact .inr ⟨rfl, rfl⟩)) rfl ?_)
  (refine nx (aSt (gN rfl) rfl rfl rfl rfl rfl rfl rfl rfl rfl rfl) rfl ?_)
  show AWp _ _ _ _ _ _ _
  refine AWp.wk ((wk_freeze 5 rfl rfl rfl (s' := [(2, AV.bp 2 0 []), (100002, .bx (ruC fl fd)), (3, .bp 3 0 []), (100003, .bx (.lst (c.map Lt.cv)))]) ⟨rfl, rfl, rfl, rfl, trivial⟩ rfl rfl rfl).trans ((wk_freeze 3 rfl rfl rfl (s' := [(5, AV.val (.ptr (.lst (L.map CV.i)))), (2, AV.bp 2 0 []), (100002, .bx (ruC fl fd))]) ⟨rfl, rfl, rfl, trivial⟩ rfl rfl rfl).trans (wk_freeze 2 rfl rfl rfl (s' := [(5, AV.val (.ptr (.lst (L.map CV.i)))), (3, .val (.ptr (.lst (c.map Lt.cv))))]) ⟨rfl, rfl, trivial⟩ rfl rfl rfl))) ?_
  refine aS (aR ?_)
  (refine nx (a_mkfunc (gN rfl) rfl rfl rfl rfl rfl rfl) rfl ?_)
  (refine nx (aA (gN rfl) rfl rfl rfl rfl rfl) rfl ?_)
  show AWp _ _ _ _ _ _ _
  exact aT ⟨.inr rfl, rfl⟩
-- 
set_option maxHeartbeats 8000000 in
theorem suWays_hands (fl fd : Nat) (ld : Tm → Tm → Bool) (c : List Lt) (hc : c.length ≤ 1000000) (L : List Int) (hL : ∀ n ∈ L, 0 ≤ n ∧ n < c.length) (hLl : L.length ≤ 1000000) (hd : ∀ w, ∀ l ∈ c, AFun Tryz.prog w fd [l.a.cw, l.b.cw] (.val (.b (ld l.a l.b))) ∧ AFun Tryz.prog w fd [l.b.cw, l.a.cw] (.val (.b (ld l.b l.a)))) (Ls : Nat → List (List Lt)) : HandsY Tryz.prog 118 [.ptr (.lst (L.map CV.i)), .ptr (.lst (c.map Lt.cv)), .ptr (ruC fl fd)] [0] (fun _ _ => []) (fun _ x _ => [.val x.cv]) (wysL ld c L) (fun k => obE (Ls k)) := by
  intro Wb Ub l0 hY
  refine afunY_of Tryz.func118 Tryz.ntmps118 rfl rfl rfl rfl (by kernel_rfl) (by kernel_rfl) ?_
  intro w U hon hU
  show AWp _ _ _ _ _ _ ((0, AV.val (yldV l0)) :: (1, .val (.ptr (.lst (L.map CV.i)))) :: (2, .val (.ptr (.lst (c.map Lt.cv)))) :: (3, .val (.ptr (ruC fl fd))) :: obE (Ls 0))
  have hsc := Lt.size_all c
  refine aS (aR ?_)
  (refine nx (a_load_ptr (gN rfl) rfl rfl rfl rfl rfl rfl rfl rfl rfl) rfl ?_)
  (refine nx (a_len (gN rfl) rfl rfl rfl rfl rfl rfl rfl) rfl ?_)
  (refine nx (aM (gN rfl) rfl rfl rfl rfl rfl) rfl ?_)
  show AWp _ _ _ _ _ _ _
  refine AWp.wk (wk_ptrad 3 rfl rfl) ?_
  refine aB (awp_count L.length (fun k => (0, AV.val (yldV l0)) :: (2, .val (.ptr (.lst (c.map Lt.cv)))) :: (3, .ad (ruC fl fd)) :: (9, .val (.lst (L.map CV.i))) :: (10, .val (.i (L.map CV.i).length)) :: (11, .val (.i (k : Int))) :: obE (Ls (wysL ld c (L.take k)).length)) (wk_sub ⟨rfl, rfl, rfl, rfl, rfl, rfl, rfl, rfl, rfl, trivial⟩) ?_)
  intro k hk
  obtain ⟨J, hJ⟩ : ∃ J, J = (wysL ld c (L.take k)).length := ⟨_, rfl⟩
  refine aS (aR ?_)
  (refine nx (a_lss (gN rfl) rfl rfl rfl rfl rfl rfl) rfl ?_)
  show AWp _ _ _ _ _ _ _
  refine aS (aC rfl (fun hlt => ?_) (fun hlt => ?_))
  · have hkl : k < L.length := by simpa using hlt
    obtain ⟨n, hn⟩ : ∃ n, L[k]? = some n := ⟨L[k], List.getElem?_eq_getElem hkl⟩
    obtain ⟨m, hm⟩ : ∃ m : Nat, n = (m : Int) := ⟨n.toNat, by have := (hL n (List.mem_of_getElem? hn)).1; omega⟩
    subst hm
    have hmc : m < c.length := by have := (hL _ (List.mem_of_getElem? hn)).2; omega
    obtain ⟨l, hl⟩ : ∃ l, c[m]? = some l := ⟨c[m], List.getElem?_eq_getElem hmc⟩
    have hlm := List.mem_of_getElem? hl
    have hl' := Lt.map_at hl
    have hn' : (L.map CV.i)[k]? = some (.i (m : Int)) := by rw [List.getElem?_map, hn]; rfl
    have hsi := ints_size L
    have hwN : wysN ld c (m : Int) = (wy2 m l).filter fun w => ld w.a w.b := by unfold wysN; rw [Int.toNat_natCast, hl]
    have hstep := wysL_take (ld := ld) (c := c) hn
    rw [← hJ]
    refine aK ?_
    show AWp _ _ _ _ _ _ _
    refine aS (aB (aS (aR ?_)))
    (refine nx (a_index (j := k) (gN rfl) rfl rfl rfl rfl rfl rfl rfl rfl rfl (hn') rfl (hsi)) rfl ?_)
    (refine nx (a_load_ad (gN rfl) rfl rfl rfl rfl rfl rfl rfl rfl rfl) rfl ?_)
    (refine nx (aA (gN rfl) rfl rfl rfl rfl rfl) rfl ?_)
    show AWp _ _ _ _ _ _ _
    refine aS (aD (by kernel_rfl) (by kernel_rfl) ?_)
    (refine nx (aM (gN rfl) rfl rfl rfl rfl rfl) rfl ?_)
    (refine nx (a_load_ptr (gN rfl) rfl rfl rfl rfl rfl rfl rfl rfl rfl) rfl ?_)
    (refine nx (aM (gN rfl) rfl rfl rfl rfl rfl) rfl ?_)
    (refine nx (a_index (j := m) (gN rfl) rfl rfl rfl rfl rfl rfl rfl rfl rfl (hl') rfl (hsc)) rfl ?_)
    (refine nx (a_field_ad (gN rfl) rfl rfl rfl rfl rfl rfl rfl rfl rfl rfl rfl) rfl ?_)
    (refine nx (a_load_ad (gN rfl) rfl rfl rfl rfl rfl rfl rfl rfl rfl) rfl ?_)
    (refine nx (a_load_ptr (gN rfl) rfl rfl rfl rfl rfl rfl rfl rfl rfl) rfl ?_)
    (refine nx (aM (gN rfl) rfl rfl rfl rfl rfl) rfl ?_)
    (refine nx (a_index (j := m) (gN rfl) rfl rfl rfl rfl rfl rfl rfl rfl rfl (hl') rfl (hsc)) rfl ?_)
    (refine nx (a_field_ad (gN rfl) rfl rfl rfl rfl rfl rfl rfl rfl rfl rfl rfl) rfl ?_)
    (refine nx (a_load_ad (gN rfl) rfl rfl rfl rfl rfl rfl rfl rfl rfl) rfl ?_)
    (refine nx (a_build (gN rfl) rfl rfl rfl rfl rfl rfl rfl rfl rfl rfl rfl) rfl ?_)
    (refine nx (aM (gN rfl) rfl rfl rfl rfl rfl) rfl ?_)
    (refine nx (a_load_ptr (gN rfl) rfl rfl rfl rfl rfl rfl rfl rfl rfl) rfl ?_)
    (refine nx (aM (gN rfl) rfl rfl rfl rfl rfl) rfl ?_)
    (refine nx (a_index (j := m) (gN rfl) rfl rfl rfl rfl rfl rfl rfl rfl rfl (hl') rfl (hsc)) rfl ?_)
    (refine nx (a_field_ad (gN rfl) rfl rfl rfl rfl rfl rfl rfl rfl rfl rfl rfl) rfl ?_)
    (refine nx (a_load_ad (gN rfl) rfl rfl rfl rfl rfl rfl rfl rfl rfl) rfl ?_)
    (refine nx (a_load_ptr (gN rfl) rfl rfl rfl rfl rfl rfl rfl rfl rfl) rfl ?_)
    (refine nx (aM (gN rfl) rfl rfl rfl rfl rfl) rfl ?_)
    (refine nx (a_index (j := m) (gN rfl) rfl rfl rfl rfl rfl rfl rfl rfl rfl (hl') rfl (hsc)) rfl ?_)
    (refine nx (a_field_ad (gN rfl) rfl rfl rfl rfl rfl rfl rfl rfl rfl rfl rfl) rfl ?_)
    (refine nx (a_load_ad (gN rfl) rfl rfl rfl rfl rfl rfl rfl rfl rfl) rfl ?_)
    (refine nx (a_build (gN rfl) rfl rfl rfl rfl rfl rfl rfl rfl rfl rfl rfl) rfl ?_)
    (refine nx (a_bslice (gN rfl) rfl rfl rfl rfl rfl rfl rfl rfl rfl rfl rfl rfl rfl) rfl ?_)
    (refine nx (a_len (gN rfl) rfl rfl rfl rfl rfl rfl rfl) rfl ?_)
    (refine nx (aM (gN rfl) rfl rfl rfl rfl rfl) rfl ?_)
    refine ⟨by kernel_rfl, ?_⟩
    show AWp _ _ _ _ _ _ _
    have hws := wy2_size m l
    refine aB (awp_count 2 (fun j => (0, AV.val (yldV l0)) :: (3, .ad (ruC fl fd)) :: (2, .val (.ptr (.lst (c.map Lt.cv)))) :: (9, .val (.lst (L.map CV.i))) :: (10, .val (.i (L.map CV.i).length)) :: (11, .val (.i (k : Int))) :: (39, .val (.lst ((wy2 m l).map Wy.cv))) :: (40, .val (.i 2)) :: (41, .val (.i (j : Int))) :: obE (Ls (J + (((wy2 m l).take j).filter fun w => ld w.a w.b).length))) (wk_sub ⟨rfl, rfl, rfl, rfl, rfl, rfl, rfl, rfl, rfl, rfl, rfl, rfl, trivial⟩) ?_)
    intro j hj
    obtain ⟨J2, hJ2⟩ : ∃ J2, J2 = J + (((wy2 m l).take j).filter fun w => ld w.a w.b).length := ⟨_, rfl⟩
    refine aS (aR ?_)
    (refine nx (a_lss (gN rfl) rfl rfl rfl rfl rfl rfl) rfl ?_)
    show AWp _ _ _ _ _ _ _
    refine aS (aC rfl (fun hlt => ?_) (fun hlt => ?_))
    · have hj2 : j < 2 := by have := of_decide_eq_true hlt; omega
      obtain ⟨x, hx⟩ : ∃ x, (wy2 m l)[j]? = some x := ⟨_, List.getElem?_eq_getElem hj2⟩
      have hx' : ((wy2 m l).map Wy.cv)[j]? = some x.cv := by rw [List.getElem?_map, hx]; rfl
      have hcv : x.cv = .row [.i x.n, x.a.cw, x.b.cw] := rfl
      rw [hcv] at hx'
      have hd1 : ∀ w, AFunV Tryz.prog w (.fn fd 0 []) [x.a.cw, x.b.cw] (.val (.b (ld x.a x.b))) := fun w => ⟨fd, 0, [], rfl, by
        have h1 := hd w l hlm
        show AFun _ _ _ ([] ++ ([x.a.cw, x.b.cw] ++ [])) _
        match j, hj2, hx with
        | 0, _, hx => cases hx; exact h1.1
        | 1, _, hx => cases hx; exact h1.2⟩
      have hnx : ((wy2 m l).take (j + 1)).filter (fun w => ld w.a w.b) = ((wy2 m l).take j).filter (fun w => ld w.a w.b) ++ (if ld x.a x.b = true then [x] else []) := by
        rw [List.take_add_one, hx, Option.toList_some, List.filter_append, List.filter_cons, List.filter_nil]
      rw [← hJ2]
      refine aK ?_
      show AWp _ _ _ _ _ _ _
      refine aS (aB (aS (aR ?_)))
      (refine nx (a_index (j := j) (gN rfl) rfl rfl rfl rfl rfl rfl rfl rfl rfl (hx') rfl (hws)) rfl ?_)
      (refine nx (a_load_ad (gN rfl) rfl rfl rfl rfl rfl rfl rfl rfl rfl) rfl ?_)
      (refine nx (a_alloc (gN rfl) rfl rfl rfl rfl rfl rfl rfl rfl rfl rfl) (by kernel_rfl) ?_)
      (refine nx (aSt (gN rfl) rfl rfl rfl rfl rfl rfl rfl rfl rfl rfl) rfl ?_)
      show AWp _ _ _ _ _ _ _
      obtain ⟨b, hb⟩ : ∃ b, b = ld x.a x.b := ⟨_, rfl⟩
      have hd2 := hd1 w
      rw [← hb] at hd2 hnx
      cases b with
      | false =>
        refine aS (aR ?_)
        (refine nx (a_field_ad (gN rfl) rfl rfl rfl rfl rfl rfl rfl rfl rfl rfl rfl) rfl ?_)
        (refine nx (a_load_ad (gN rfl) rfl rfl rfl rfl rfl rfl rfl rfl rfl) rfl ?_)
        (refine nx (aF (gN rfl) rfl rfl rfl rfl rfl rfl rfl rfl rfl) rfl ?_)
        (refine nx (aLb (gN rfl) rfl rfl rfl rfl rfl rfl rfl rfl rfl rfl rfl rfl) rfl ?_)
        (refine nx (aF (gN rfl) rfl rfl rfl rfl rfl rfl rfl rfl rfl) rfl ?_)
        (refine nx (aLb (gN rfl) rfl rfl rfl rfl rfl rfl rfl rfl rfl rfl rfl rfl) rfl ?_)
        (refine nx (a_callv (gN rfl) rfl rfl rfl rfl rfl rfl (hd2)) rfl ?_)
        (refine nx (aM (gN rfl) rfl rfl rfl rfl rfl) rfl ?_)
        (refine ⟨_, _, _, a_off (go_off rfl rfl rfl rfl (by first | rfl | assumption | (simp; done) | (simp [*]; done))) rfl rfl rfl, rfl, ?_⟩)
        (refine ⟨_, _, _, a_off (go_off rfl rfl rfl rfl (by first | rfl | assumption | (simp; done) | (simp [*]; done))) rfl rfl rfl, rfl, ?_⟩)
        (refine ⟨_, _, _, a_off (go_off rfl rfl rfl rfl (by first | rfl | assumption | (simp; done) | (simp [*]; done))) rfl rfl rfl, rfl, ?_⟩)
        (refine ⟨_, _, _, a_off (go_off rfl rfl rfl rfl (by first | rfl | assumption | (simp; done) | (simp [*]; done))) rfl rfl rfl, rfl, ?_⟩)
        (refine ⟨_, _, _, aPf (gN rfl) rfl rfl rfl rfl rfl ?hb rfl, rfl, ?_⟩; case hb => (first | rfl | assumption | (simp; done)))
        show AWp _ _ _ _ _ _ _
        refine aC rfl (fun hc => by cases hc) (fun hc => aK ?_)
        show AWp _ _ _ _ _ _ _
        refine aR ?_
        (refine nx (a_add (gN rfl) rfl rfl rfl rfl rfl rfl (by first | omega | (simp only [List.length_map, List.length_append, List.length_cons, List.length_nil] <;> omega) | (simp <;> omega))) rfl ?_)
        (refine nx (aM (gN rfl) rfl rfl rfl rfl rfl) rfl ?_)
        refine ⟨hj2, ?_⟩
        have e : J + (((wy2 m l).take (j + 1)).filter fun w => ld w.a w.b).length = J2 := by rw [hnx, if_neg (by simp), List.append_nil, hJ2]
        show Wk _ _ _ _ ((0, AV.val (yldV l0)) :: (3, .ad (ruC fl fd)) :: (2, .val (.ptr (.lst (c.map Lt.cv)))) :: (9, .val (.lst (L.map CV.i))) :: (10, .val (.i (L.map CV.i).length)) :: (11, .val (.i (k : Int))) :: (39, .val (.lst ((wy2 m l).map Wy.cv))) :: (40, .val (.i 2)) :: (41, .val (.i ((j + 1 : Nat) : Int))) :: obE (Ls (J + (((wy2 m l).take (j + 1)).filter fun w => ld w.a w.b).length)))
        rw [e]
        exact wk_sub ⟨rfl, rfl, rfl, rfl, rfl, rfl, rfl, rfl, rfl, rfl, rfl, rfl, trivial⟩
      | true =>
        have hY0 := hY J2 x (by rw [hJ2, hJ]; exact wys_at hn (by rw [Int.toNat_natCast]; exact hl) hx hb.symm) 0 (by simp)
        have hY0 : YldC Tryz.prog Wb Ub l0 0 (obE (Ls J2)) (fun _ => [.val (.row [.i x.n, x.a.cw, x.b.cw])]) (obE (Ls (J2 + 1))) := hY0
        refine aS (awp_regionY ?_)
        (refine nxY (AOp.y (a_field_ad (gN rfl) rfl rfl rfl rfl rfl rfl rfl rfl rfl rfl rfl)) rfl ?_)
        (refine nxY (AOp.y (a_load_ad (gN rfl) rfl rfl rfl rfl rfl rfl rfl rfl rfl)) rfl ?_)
        (refine nxY (AOp.y (aF (gN rfl) rfl rfl rfl rfl rfl rfl rfl rfl rfl)) rfl ?_)
        (refine nxY (AOp.y (aLb (gN rfl) rfl rfl rfl rfl rfl rfl rfl rfl rfl rfl rfl rfl)) rfl ?_)
        (refine nxY (AOp.y (aF (gN rfl) rfl rfl rfl rfl rfl rfl rfl rfl rfl)) rfl ?_)
        (refine nxY (AOp.y (aLb (gN rfl) rfl rfl rfl rfl rfl rfl rfl rfl rfl rfl rfl rfl)) rfl ?_)
        (refine nxY (AOp.y (a_callv (gN rfl) rfl rfl rfl rfl rfl rfl (hd2))) rfl ?_)
        (refine nxY (AOp.y (aM (gN rfl) rfl rfl rfl rfl rfl)) rfl ?_)
        (refine nxY (AOp.y (aM (gd_on rfl rfl rfl rfl (by first | rfl | assumption | (simp; done))) rfl rfl rfl rfl rfl)) rfl ?_)
        (refine nxY (AOp.y (aL (gd_on rfl rfl rfl rfl (by first | rfl | assumption | (simp; done))) rfl rfl rfl rfl rfl rfl rfl rfl rfl rfl rfl rfl)) rfl ?_)
        (refine nxY (a_yield (u := .slice none 0 0) 0 (hY0) hon (gd_on rfl rfl rfl rfl (by first | rfl | assumption | (simp; done))) rfl rfl rfl rfl rfl rfl (.inr fun _ _ => rfl) (by repeat (first | exact trivial | refine ⟨rfl, ?_⟩)) (by first | rfl | kernel_rfl) (by first | rfl | kernel_rfl) (by first | rfl | kernel_rfl) (hnb_of (by first | rfl | kernel_rfl)) rfl) rfl ?_)
        (refine nxY (AOp.y (a_not (gd_on rfl rfl rfl rfl (by first | rfl | assumption | (simp; done))) rfl rfl rfl rfl rfl)) rfl ?_)
        (refine ⟨_, _, _, AOp.y (aPt (gN rfl) rfl rfl rfl rfl rfl ?hb rfl), rfl, ?_⟩; case hb => (first | rfl | assumption | (simp; done)))
        show AWp _ _ _ _ _ _ _
        refine aC rfl (fun hc => by cases hc) (fun hc => aK ?_)
        show AWp _ _ _ _ _ _ _
        refine aR ?_
        (refine nx (a_add (gN rfl) rfl rfl rfl rfl rfl rfl (by first | omega | (simp only [List.length_map, List.length_append, List.length_cons, List.length_nil] <;> omega) | (simp <;> omega))) rfl ?_)
        (refine nx (aM (gN rfl) rfl rfl rfl rfl rfl) rfl ?_)
        refine ⟨hj2, ?_⟩
        have e : J + (((wy2 m l).take (j + 1)).filter fun w => ld w.a w.b).length = J2 + 1 := by rw [hnx, if_pos rfl, List.length_append, hJ2]; rfl
        show Wk _ _ _ _ ((0, AV.val (yldV l0)) :: (3, .ad (ruC fl fd)) :: (2, .val (.ptr (.lst (c.map Lt.cv)))) :: (9, .val (.lst (L.map CV.i))) :: (10, .val (.i (L.map CV.i).length)) :: (11, .val (.i (k : Int))) :: (39, .val (.lst ((wy2 m l).map Wy.cv))) :: (40, .val (.i 2)) :: (41, .val (.i ((j + 1 : Nat) : Int))) :: obE (Ls (J + (((wy2 m l).take (j + 1)).filter fun w => ld w.a w.b).length)))
        rw [e]
        exact wk_sub ⟨rfl, rfl, rfl, rfl, rfl, rfl, rfl, rfl, rfl, rfl, rfl, rfl, trivial⟩
    · have hj2 : j = 2 := by
        have : ¬ j < 2 := by have := of_decide_eq_false hlt; omega
        omega
      subst hj2
      rw [← hJ2]
      refine aE ?_
      show AWp _ _ _ _ _ _ _
      refine aR ?_
      (refine nx (a_add (gN rfl) rfl rfl rfl rfl rfl rfl (by first | omega | (simp only [List.length_map, List.length_append, List.length_cons, List.length_nil] <;> omega) | (simp <;> omega))) rfl ?_)
      (refine nx (aM (gN rfl) rfl rfl rfl rfl rfl) rfl ?_)
      refine ⟨hkl, ?_⟩
      have e : (wysL ld c (L.take (k + 1))).length = J2 := by
        rw [hstep, hwN, List.length_append, hJ2, hJ]; rfl
      show Wk _ _ _ _ ((0, AV.val (yldV l0)) :: (2, .val (.ptr (.lst (c.map Lt.cv)))) :: (3, .ad (ruC fl fd)) :: (9, .val (.lst (L.map CV.i))) :: (10, .val (.i (L.map CV.i).length)) :: (11, .val (.i ((k + 1 : Nat) : Int))) :: obE (Ls (wysL ld c (L.take (k + 1))).length))
      rw [e]
      exact wk_sub ⟨rfl, rfl, rfl, rfl, rfl, rfl, rfl, rfl, rfl, trivial⟩
  · have hkl : k = L.length := by
      have : ¬ k < L.length := by simpa using hlt
      omega
    subst hkl
    rw [List.take_length]
    refine aE ?_
    exact ⟨.inl rfl, _, Wk.refl _, rfl, rfl, rfl, rfl, trivial⟩
-- 
theorem suPlaces_abs (W : World) (c : List Lt) (hc : c.length ≤ 1000000) : AFun Tryz.prog W 41 [.lst (c.map Lt.cv)] (.val (.lst ((upL c.length).map CV.i))) := by
  refine afun_of (rs := [.lst ((upL c.length).map CV.i)]) Tryz.func41 Tryz.ntmps41 rfl rfl rfl rfl ?_
  intro w U hW
  refine aS (aR ?_)
  (refine nx (aA (gN rfl) rfl rfl rfl rfl rfl) rfl ?_)
  show AWp _ _ _ _ _ _ _
  refine aS (aR ?_)
  (refine nx (aA (gN rfl) rfl rfl rfl rfl rfl) rfl ?_)
  show AWp _ _ _ _ _ _ _
  refine aS (aS (aR ?_))
  (refine nx (aM (gN rfl) rfl rfl rfl rfl rfl) rfl ?_)
  (refine nx (a_len (gN rfl) rfl rfl rfl rfl rfl rfl rfl) rfl ?_)
  (refine nx (aM (gN rfl) rfl rfl rfl rfl rfl) rfl ?_)
  show AWp _ _ _ _ _ _ _
  refine aB (awp_count c.length (fun k => [(6, AV.val (.i (c.map Lt.cv).length)), (7, .val (.i (k : Int))), (3, .own (.lst ((upL k).map CV.i)) 200013), (200013, .tok 3 1)]) ((wk_nil 3 200013 3 1 rfl rfl rfl rfl rfl rfl rfl).trans (wk_sub ⟨rfl, rfl, rfl, rfl, trivial⟩)) ?_)
  intro k hk
  have hul := upL_len k
  have hlu : ((upL k).map CV.i).length = k := by rw [List.length_map, upL_len]
  have hsi := ints_size (upL k)
  refine aS (aR ?_)
  (refine nx (a_lss (gN rfl) rfl rfl rfl rfl rfl rfl) rfl ?_)
  show AWp _ _ _ _ _ _ _
  refine aS (aC rfl (fun hlt => ?_) (fun hlt => ?_))
  · have hkl : k < c.length := by simpa using hlt
    refine aK ?_
    show AWp _ _ _ _ _ _ _
    refine aS (aB (aS (aR ?_)))
    (refine nx (aM (gN rfl) rfl rfl rfl rfl rfl) rfl ?_)
    (refine nx (aA (gN rfl) rfl rfl rfl rfl rfl) rfl ?_)
    show AWp _ _ _ _ _ _ _
    refine aR ?_
    (refine nx (aM (gN rfl) rfl rfl rfl rfl rfl) rfl ?_)
    (refine nx (aM (gN rfl) rfl rfl rfl rfl rfl) rfl ?_)
    (refine nx (a_bslice (gN rfl) rfl rfl rfl rfl rfl rfl rfl rfl rfl rfl rfl rfl rfl) rfl ?_)
    (refine nx (a_app (gN rfl) rfl rfl rfl rfl rfl rfl rfl rfl rfl rfl rfl rfl rfl rfl rfl (by first | assumption | exact sZ rfl | exact Tm.size_all _ | exact Bd.size_all _ | exact ints_size _ | exact bys_size _ | exact Lt.size_all _) (by first | assumption | exact sZ rfl | exact Tm.size_all _ | exact Bd.size_all _ | exact ints_size _ | exact bys_size _ | exact Lt.size_all _) (by first | omega | (simp only [List.length_map, List.length_append, List.length_cons, List.length_nil] <;> omega) | (simp <;> omega))) rfl ?_)
    (refine nx (aA (gN rfl) rfl rfl rfl rfl rfl) rfl ?_)
    show AWp _ _ _ _ _ _ _
    refine aR ?_
    (refine nx (a_add (gN rfl) rfl rfl rfl rfl rfl rfl (by first | omega | (simp only [List.length_map, List.length_append, List.length_cons, List.length_nil] <;> omega) | (simp <;> omega))) rfl ?_)
    (refine nx (aM (gN rfl) rfl rfl rfl rfl rfl) rfl ?_)
    refine ⟨hkl, ?_⟩
    show Wk _ _ _ _ [(6, AV.val (.i (c.map Lt.cv).length)), (7, .val (.i ((k + 1 : Nat) : Int))), (3, .own (.lst ((upL (k + 1)).map CV.i)) 200013), (200013, .tok 3 1)]
    rw [upL_succ, List.map_append]
    exact (wk_sub (s' := [(6, AV.val (.i (c.map Lt.cv).length)), (7, .val (.i ((k + 1 : Nat) : Int))), (3, .own (.lst ((upL k).map CV.i ++ [CV.i (k : Int)])) 300013), (300013, .tok 3 1)]) ⟨rfl, rfl, rfl, rfl, trivial⟩).trans ((wk_ren 300013 200013 rfl rfl rfl rfl).trans (wk_sub ⟨rfl, rfl, rfl, rfl, trivial⟩))
  · have hkl : k = c.length := by
      have : ¬ k < c.length := by simpa using hlt
      omega
    subst hkl
    refine aE ?_
    show AWp _ _ _ _ _ _ _
    refine aS (aR ?_)
    (refine nx (aM (gN rfl) rfl rfl rfl rfl rfl) rfl ?_)
    (refine nx (aA (gN rfl) rfl rfl rfl rfl rfl) rfl ?_)
    show AWp _ _ _ _ _ _ _
    exact aT (And.intro (.inr rfl) rfl)
structure Mt where
  fr : Wy
  ti : Wy
  pl : List Int
  pt : Tm
noncomputable def Mt.cvH (m : Mt) (v : Value) : CV := .row [m.fr.cv, m.ti.cv, .sc (cutV v m.pl.length), .row [.i m.pt.f, .lst (m.pt.l.map Tm.cv)]]
noncomputable def mtI (f i : Wy) : List Mt := (sy i.a []).map fun q => ⟨f, i, q.1, q.2⟩
noncomputable def mtF (tgt : List Wy) (f : Wy) : List Mt := tgt.flatMap (mtI f)
noncomputable def mtN (neg : Int → Bool) (tgt : List Wy) (f : Wy) : List Mt := if neg f.n = true then [] else mtF tgt f
noncomputable def mtsL (neg : Int → Bool) (src tgt : List Wy) : List Mt := src.flatMap (mtN neg tgt)
theorem flat_take {α β : Type} {g : α → List β} {L : List α} {k : Nat} {x : α} (h : L[k]? = some x) : (L.take (k + 1)).flatMap g = (L.take k).flatMap g ++ g x := by
  rw [List.take_add_one, h, List.flatMap_append]
  simp
theorem flatM_at {α β : Type} {g : α → List β} {L : List α} {k : Nat} {x : α} (h : L[k]? = some x) {i : Nat} {y : β} (hy : (g x)[i]? = some y) : (L.flatMap g)[((L.take k).flatMap g).length + i]? = some y := by
  have h1 : L.flatMap g = (L.take (k + 1)).flatMap g ++ (L.drop (k + 1)).flatMap g := by
    conv => lhs; rw [← List.take_append_drop (k + 1) L]
    rw [List.flatMap_append]
  have hi : i < (g x).length := by
    rcases Nat.lt_or_ge i (g x).length with h2 | h2
    · exact h2
    · rw [List.getElem?_eq_none h2] at hy; cases hy
  rw [h1, flat_take h, List.append_assoc, List.getElem?_append_right (by omega), Nat.add_sub_cancel_left, List.getElem?_append_left hi, hy]
def negAt (c : List Lt) (n : Int) : Bool := match c[n.toNat]? with
  | some l => l.neg
  | none => false
noncomputable abbrev wyZ : CV := .row [.i 0, .row [.i 0, .lst []], .row [.i 0, .lst []]]
noncomputable abbrev mtZ4 : List CV := [wyZ, wyZ, .lst [], .row [.i 0, .lst []]]
-- 
theorem suMeet_abs (W : World) (fl fd : Nat) (c d : List Lt) (L M : List Int) (hlc : ∀ w, AFun Tryz.prog w fl [.lst (c.map Lt.cv)] (.val (.lst (L.map CV.i)))) (hld : ∀ w, AFun Tryz.prog w fl [.lst (d.map Lt.cv)] (.val (.lst (M.map CV.i)))) : AFun Tryz.prog W 64 [ruC fl fd, .lst (c.map Lt.cv), .lst (d.map Lt.cv)] (.val (.fn 90 0 [.ptr (.fn 118 0 [.ptr (.lst (L.map CV.i)), .ptr (.lst (c.map Lt.cv)), .ptr (ruC fl fd)]), .ptr (.lst (c.map Lt.cv)), .ptr (.fn 118 0 [.ptr (.lst (M.map CV.i)), .ptr (.lst (d.map Lt.cv)), .ptr (ruC fl fd)])])) := by
  obtain ⟨S, hS⟩ : ∃ S, S = CV.fn 118 0 [.ptr (.lst (L.map CV.i)), .ptr (.lst (c.map Lt.cv)), .ptr (ruC fl fd)] := ⟨_, rfl⟩
  obtain ⟨T, hT⟩ : ∃ T, T = CV.fn 118 0 [.ptr (.lst (M.map CV.i)), .ptr (.lst (d.map Lt.cv)), .ptr (ruC fl fd)] := ⟨_, rfl⟩
  refine afun_of (rs := [.fn 90 0 [.ptr (.fn 118 0 [.ptr (.lst (L.map CV.i)), .ptr (.lst (c.map Lt.cv)), .ptr (ruC fl fd)]), .ptr (.lst (c.map Lt.cv)), .ptr (.fn 118 0 [.ptr (.lst (M.map CV.i)), .ptr (.lst (d.map Lt.cv)), .ptr (ruC fl fd)])]]) Tryz.func64 Tryz.ntmps64 rfl rfl rfl rfl ?_
  intro w U hW
  have h1 := suWays_abs w fl fd c L hlc
  have h2 := suWays_abs w fl fd d M hld
  refine aS (aR ?_)
  (refine nx (a_box (gN rfl) rfl rfl rfl rfl rfl) rfl ?_)
  (refine nx (a_box (gN rfl) rfl rfl rfl rfl rfl) rfl ?_)
  (refine nx (aA (gN rfl) rfl rfl rfl rfl rfl) rfl ?_)
  show AWp _ _ _ _ _ _ _
  refine aS (aD (by kernel_rfl) (by kernel_rfl) ?_)
  (refine nx (aL (gN rfl) rfl rfl rfl rfl rfl rfl rfl rfl rfl rfl rfl rfl) rfl ?_)
  (refine nx (aL (gN rfl) rfl rfl rfl rfl rfl rfl rfl rfl rfl rfl rfl rfl) rfl ?_)
  (refine nx (a_call (gN rfl) rfl rfl rfl rfl rfl (h1)) rfl ?_)
  (refine nx (aL (gN rfl) rfl rfl rfl rfl rfl rfl rfl rfl rfl rfl rfl rfl) rfl ?_)
  (refine nx (aM (gN rfl) rfl rfl rfl rfl rfl) rfl ?_)
  (refine nx (a_call (gN rfl) rfl rfl rfl rfl rfl (h2)) rfl ?_)
  (refine nx (a_alloc1V (gN rfl) rfl rfl rfl rfl rfl (by first | exact .inl ⟨rfl, rfl⟩ | exact .inr ⟨rfl, rfl⟩)) rfl ?_)
  (refine nx (a_alloc1V (gN rfl) rfl rfl rfl rfl rfl (by first | exact .inl ⟨rfl, rfl⟩ | exact .inr ⟨rfl, rfl⟩)) rfl ?_)
  (refine nx (aSt (gN rfl) rfl rfl rfl rfl rfl rfl rfl rfl rfl rfl) rfl ?_)
  (refine nx (aSt (gN rfl) rfl rfl rfl rfl rfl rfl rfl rfl rfl rfl) rfl ?_)
  refine ⟨by kernel_rfl, ?_⟩
  show AWp _ _ _ _ _ _ _
  refine AWp.wk ((wk_freeze 7 rfl rfl rfl (s' := [(4, AV.bp 4 0 []), (100004, .bx (.lst (c.map Lt.cv))), (8, AV.bp 8 0 []), (100008, .bx (.fn 118 0 [.ptr (.lst (M.map CV.i)), .ptr (.lst (d.map Lt.cv)), .ptr (ruC fl fd)]))]) ⟨rfl, rfl, rfl, rfl, trivial⟩ rfl rfl rfl).trans ((wk_freeze 8 rfl rfl rfl (s' := [(7, AV.val (.ptr (.fn 118 0 [.ptr (.lst (L.map CV.i)), .ptr (.lst (c.map Lt.cv)), .ptr (ruC fl fd)]))), (4, AV.bp 4 0 []), (100004, .bx (.lst (c.map Lt.cv)))]) ⟨rfl, rfl, rfl, trivial⟩ rfl rfl rfl).trans (wk_freeze 4 rfl rfl rfl (s' := [(7, AV.val (.ptr (.fn 118 0 [.ptr (.lst (L.map CV.i)), .ptr (.lst (c.map Lt.cv)), .ptr (ruC fl fd)]))), (8, AV.val (.ptr (.fn 118 0 [.ptr (.lst (M.map CV.i)), .ptr (.lst (d.map Lt.cv)), .ptr (ruC fl fd)])))]) ⟨rfl, rfl, trivial⟩ rfl rfl rfl))) ?_
  refine aS (aR ?_)
  (refine nx (a_mkfunc (gN rfl) rfl rfl rfl rfl rfl rfl) rfl ?_)
  (refine nx (aA (gN rfl) rfl rfl rfl rfl rfl) rfl ?_)
  show AWp _ _ _ _ _ _ _
  exact aT ⟨.inr rfl, rfl⟩
-- 
set_option maxHeartbeats 8000000 in
theorem suMeet_hands (c : List Lt) (gs gt : Nat) (cs ct : List CV) (src tgt : List Wy) (hes : EntF Tryz.prog gs) (het : EntF Tryz.prog gt) (hsrc : ∀ w ∈ src, 0 ≤ w.n ∧ w.n < c.length) (htgt : ∀ w ∈ tgt, w.a.size ≤ 1000000)
    (hs : ∀ Ls : Nat → List (List Lt), HandsY Tryz.prog gs cs [0] (fun _ _ => []) (fun _ x _ => [.val x.cv]) src (fun k => obE (Ls k)))
    (ht : ∀ Ls : Nat → List (List Lt), HandsY Tryz.prog gt ct [0] (fun _ _ => []) (fun _ x _ => [.val x.cv]) tgt (fun k => obE (Ls k)))
    (Ls : Nat → List (List Lt)) : HandsY Tryz.prog 90 [.ptr (.fn gs 0 cs), .ptr (.lst (c.map Lt.cv)), .ptr (.fn gt 0 ct)] [400002, 400003] (fun X x => rowI X x.pl) (fun X x v => [.val (x.cvH v)]) (mtsL (negAt c) src tgt) (fun k => obE (Ls k)) := by
  intro Wb Ub l0 hY
  have hsy : EntF Tryz.prog 119 := ent_of Tryz.func119 rfl rfl
  have hsc := Lt.size_all c
  refine afunYM_of Tryz.func90 Tryz.ntmps90 rfl rfl rfl rfl (by kernel_rfl) (by kernel_rfl) ?_
  intro w U hon hU
  show AWpM _ _ _ _ _ _ ((0, AV.val (yldV l0)) :: (1, .val (.ptr (.fn gs 0 cs))) :: (2, .val (.ptr (.lst (c.map Lt.cv)))) :: (3, .val (.ptr (.fn gt 0 ct))) :: obE (Ls 0))
  refine awpM_pre (aR ?_)
  (refine nx (a_box (gN rfl) rfl rfl rfl rfl rfl) (by kernel_rfl) ?_)
  refine ⟨rfl, ?_⟩
  refine awpM_wk (wk_freeze 4 rfl rfl rfl (s' := (1, AV.val (.ptr (.fn gs 0 cs))) :: (2, .val (.ptr (.lst (c.map Lt.cv)))) :: (3, .val (.ptr (.fn gt 0 ct))) :: obE (Ls 0)) ⟨rfl, rfl, rfl, rfl, rfl, rfl, trivial⟩ rfl rfl (by kernel_rfl)) ?_
  refine awpM_pre (aR ?_)
  (refine nx (a_load_ptr (gN rfl) rfl rfl rfl rfl rfl rfl rfl rfl rfl) rfl ?_)
  refine ⟨rfl, ?_⟩
  refine awpM_block ?_
  refine awpM_wk (wk_sub (s' := (9, AV.val (.fn gs 0 cs)) :: (2, .val (.ptr (.lst (c.map Lt.cv)))) :: (3, .val (.ptr (.fn gt 0 ct))) :: (4, .val (.ptr (yldV l0))) :: obE (Ls 0)) ⟨rfl, rfl, rfl, rfl, rfl, rfl, rfl, trivial⟩) ?_
  refine awpM_mono (awpM_rangeY (ps := [10]) (fun k => obE (Ls (mtsL (negAt c) (src.take k) tgt).length)) [(2, .val (.ptr (.lst (c.map Lt.cv)))), (3, .val (.ptr (.fn gt 0 ct))), (4, .val (.ptr (yldV l0)))] (fun _ _ => []) rfl hes (hs fun k => Ls (mtsL (negAt c) (src.take k) tgt).length) rfl (fun _ _ _ => rfl) ⟨rfl, rfl, rfl, trivial⟩ rfl ⟨.inl ⟨_, rfl⟩, .inl ⟨_, rfl⟩, .inl ⟨_, rfl⟩, trivial⟩ ⟨rfl, rfl, rfl, trivial⟩ ⟨by kernel_rfl, by kernel_rfl, fun k => rfl, rfl, rfl, rfl⟩ (fun k X hX x => rfl) (fun X hX => .inl fun _ => rfl) (by kernel_rfl) ?_) ?_
  · intro k f hf X hX v w U hU hon1
    obtain ⟨n, hn⟩ : ∃ n : Nat, f.n = (n : Int) := ⟨f.n.toNat, by have := (hsrc f (List.mem_of_getElem? hf)).1; omega⟩
    have hnc : n < c.length := by have := (hsrc f (List.mem_of_getElem? hf)).2; omega
    obtain ⟨l, hl⟩ : ∃ l, c[n]? = some l := ⟨c[n], List.getElem?_eq_getElem hnc⟩
    have hl' := Lt.map_at hl
    have hng : negAt c f.n = l.neg := by unfold negAt; rw [hn, Int.toNat_natCast, hl]
    have hcvf : f.cv = .row [.i n, f.a.cw, f.b.cw] := by unfold Wy.cv; rw [hn]
    obtain ⟨o1, ho1⟩ : ∃ o1, o1 = (mtsL (negAt c) (src.take k) tgt).length := ⟨_, rfl⟩
    have hstep : (mtsL (negAt c) (src.take (k + 1)) tgt).length = o1 + (mtN (negAt c) tgt f).length := by
      unfold mtsL at ho1 ⊢
      rw [flat_take hf, List.length_append, ho1]
    have hat1 : ∀ i y, (mtN (negAt c) tgt f)[i]? = some y → (mtsL (negAt c) src tgt)[o1 + i]? = some y := fun i y hy => by rw [ho1]; exact flatM_at hf hy
    show AWp _ _ _ _ _ _ ((10, AV.val f.cv) :: (2, .val (.ptr (.lst (c.map Lt.cv)))) :: (3, .val (.ptr (.fn gt 0 ct))) :: (4, .val (.ptr (yldV l0))) :: obE (Ls (mtsL (negAt c) (src.take k) tgt).length))
    rw [← ho1, hstep, hcvf]
    refine aR ?_
    (refine nx (a_alloc (gN rfl) rfl rfl rfl rfl rfl rfl rfl rfl rfl rfl) (by kernel_rfl) ?_)
    (refine nx (aSt (gN rfl) rfl rfl rfl rfl rfl rfl rfl rfl rfl rfl) rfl ?_)
    refine ⟨rfl, fun w1 hon2 => ?_⟩
    obtain ⟨b, hb⟩ : ∃ b, b = l.neg := ⟨_, rfl⟩
    have hl2 : (c.map Lt.cv)[n]? = some (.row [.b b, l.a.cw, l.b.cw]) := by rw [hl', hb]
    rw [← hb] at hng
    cases b with
    | true =>
      have e : mtN (negAt c) tgt f = [] := by unfold mtN; rw [if_pos hng]
      rw [e]
      refine awpN_of (aB (aS (aS (aR ?_))))
      (refine nx (a_load_ptr (gN rfl) rfl rfl rfl rfl rfl rfl rfl rfl rfl) rfl ?_)
      (refine nx (aF (gN rfl) rfl rfl rfl rfl rfl rfl rfl rfl rfl) rfl ?_)
      (refine nx (aLb (gN rfl) rfl rfl rfl rfl rfl rfl rfl rfl rfl rfl rfl rfl) rfl ?_)
      (refine nx (a_index (j := n) (gN rfl) rfl rfl rfl rfl rfl rfl rfl rfl rfl (hl2) rfl (hsc)) rfl ?_)
      (refine nx (a_field_ad (gN rfl) rfl rfl rfl rfl rfl rfl rfl rfl rfl rfl rfl) rfl ?_)
      (refine nx (a_load_ad (gN rfl) rfl rfl rfl rfl rfl rfl rfl rfl rfl) rfl ?_)
      show AWp _ _ _ _ _ _ _
      refine aC rfl (fun _ => ?_) (fun h => by cases h)
      refine aE ?_
      exact ⟨rfl, wk_sub ⟨rfl, rfl, rfl, trivial⟩⟩
    | false =>
      have e : mtN (negAt c) tgt f = mtF tgt f := by unfold mtN; rw [if_neg (by rw [hng]; simp)]
      rw [e] at hat1 ⊢
      refine awpN_block (awpN_pre (aS (aR ?_)))
      (refine nx (a_load_ptr (gN rfl) rfl rfl rfl rfl rfl rfl rfl rfl rfl) rfl ?_)
      (refine nx (aF (gN rfl) rfl rfl rfl rfl rfl rfl rfl rfl rfl) rfl ?_)
      (refine nx (aLb (gN rfl) rfl rfl rfl rfl rfl rfl rfl rfl rfl rfl rfl rfl) rfl ?_)
      (refine nx (a_index (j := n) (gN rfl) rfl rfl rfl rfl rfl rfl rfl rfl rfl (hl2) rfl (hsc)) rfl ?_)
      (refine nx (a_field_ad (gN rfl) rfl rfl rfl rfl rfl rfl rfl rfl rfl rfl rfl) rfl ?_)
      (refine nx (a_load_ad (gN rfl) rfl rfl rfl rfl rfl rfl rfl rfl rfl) rfl ?_)
      show AWp _ _ _ _ _ _ _
      refine aC rfl (fun h => by cases h) (fun _ => aK ?_)
      refine ⟨rfl, ?_⟩
      refine awpN_wk (wk_freeze 5 rfl rfl rfl (s' := (3, AV.val (.ptr (.fn gt 0 ct))) :: (4, .val (.ptr (yldV l0))) :: obE (Ls o1)) ⟨rfl, rfl, rfl, rfl, rfl, trivial⟩ rfl rfl (by kernel_rfl)) ?_
      refine awpN_pre (aR ?_)
      (refine nx (a_load_ptr (gN rfl) rfl rfl rfl rfl rfl rfl rfl rfl rfl) rfl ?_)
      refine ⟨rfl, ?_⟩
      refine awpN_block ?_
      refine awpN_wk (wk_sub (s' := (17, AV.val (.fn gt 0 ct)) :: (4, .val (.ptr (yldV l0))) :: (5, .val (.ptr (.row [.i n, f.a.cw, f.b.cw]))) :: obE (Ls o1)) ⟨rfl, rfl, rfl, rfl, rfl, rfl, trivial⟩) ?_
      refine awpN_mono (awpN_rangeY (ps := [18]) (fun j => obE (Ls (o1 + ((tgt.take j).flatMap (mtI f)).length))) [(4, .val (.ptr (yldV l0))), (5, .val (.ptr (.row [.i n, f.a.cw, f.b.cw])))] (fun _ _ => []) rfl het (ht fun j => Ls (o1 + ((tgt.take j).flatMap (mtI f)).length)) rfl (fun _ _ _ => rfl) ⟨rfl, rfl, trivial⟩ rfl ⟨.inl ⟨_, rfl⟩, .inl ⟨_, rfl⟩, trivial⟩ ⟨rfl, rfl, rfl, trivial⟩ ⟨by kernel_rfl, by kernel_rfl, fun k => rfl, rfl, rfl, rfl⟩ (fun k X hX x => rfl) (fun X hX => .inl fun _ => rfl) (by kernel_rfl) ?_) ?_
      · intro j i hi X hX v w U hU hon3
        have his := htgt i (List.mem_of_getElem? hi)
        obtain ⟨o2, ho2⟩ : ∃ o2, o2 = o1 + ((tgt.take j).flatMap (mtI f)).length := ⟨_, rfl⟩
        have hstep2 : o1 + ((tgt.take (j + 1)).flatMap (mtI f)).length = o2 + (sy i.a []).length := by
          rw [flat_take hi, List.length_append, ho2]
          unfold mtI
          rw [List.length_map]; omega
        have hat2 : ∀ q y, (sy i.a [])[q]? = some y → (mtsL (negAt c) src tgt)[o2 + q]? = some ⟨f, i, y.1, y.2⟩ := fun q y hy => by
          have := hat1 (((tgt.take j).flatMap (mtI f)).length + q) ⟨f, i, y.1, y.2⟩ (flatM_at hi (by unfold mtI; rw [List.getElem?_map, hy]; rfl))
          rw [ho2, Nat.add_assoc]
          exact this
        show AWp _ _ _ _ _ _ ((18, AV.val (.row [.i i.n, i.a.cw, i.b.cw])) :: (4, .val (.ptr (yldV l0))) :: (5, .val (.ptr (.row [.i n, f.a.cw, f.b.cw]))) :: obE (Ls (o1 + ((tgt.take j).flatMap (mtI f)).length)))
        rw [← ho2, hstep2]
        refine aR ?_
        (refine nx (a_alloc (gN rfl) rfl rfl rfl rfl rfl rfl rfl rfl rfl rfl) (by kernel_rfl) ?_)
        (refine nx (aSt (gN rfl) rfl rfl rfl rfl rfl rfl rfl rfl rfl rfl) rfl ?_)
        refine ⟨rfl, fun w2 hon4 => ?_⟩
        refine awpN_block (awpN_pre (aR ?_))
        (refine nx (aF (gN rfl) rfl rfl rfl rfl rfl rfl rfl rfl rfl) rfl ?_)
        (refine nx (aLb (gN rfl) rfl rfl rfl rfl rfl rfl rfl rfl rfl rfl rfl rfl) rfl ?_)
        (refine nx (a_call (gN rfl) rfl rfl rfl rfl rfl (suSymbols_abs w2 i.a)) rfl ?_)
        refine ⟨rfl, ?_⟩
        refine awpN_wk (wk_freeze 6 rfl rfl rfl (s' := (21, AV.val (.fn 119 0 [.ptr i.a.cw])) :: (4, .val (.ptr (yldV l0))) :: (5, .val (.ptr (.row [.i n, f.a.cw, f.b.cw]))) :: obE (Ls o2)) ⟨rfl, rfl, rfl, rfl, rfl, rfl, trivial⟩ rfl rfl (by kernel_rfl)) ?_
        refine awpN_block ?_
        refine awpN_mono (awpN_rangeY (ps := [22, 23]) (fun q => obE (Ls (o2 + q))) [(4, .val (.ptr (yldV l0))), (5, .val (.ptr (.row [.i n, f.a.cw, f.b.cw]))), (6, .val (.ptr (.row [.i i.n, i.a.cw, i.b.cw])))] (fun X v => [(11, .hdl v X)]) rfl hsy (suSym_hands i.a his fun q => Ls (o2 + q)) rfl (fun _ _ _ => rfl) ⟨rfl, rfl, rfl, trivial⟩ rfl ⟨.inl ⟨_, rfl⟩, .inl ⟨_, rfl⟩, .inl ⟨_, rfl⟩, trivial⟩ ⟨rfl, rfl, rfl, trivial⟩ ⟨by kernel_rfl, by kernel_rfl, fun k => rfl, rfl, rfl, rfl⟩ (fun k X hX x => by
            simp only [List.mem_cons, List.not_mem_nil, or_false] at hX
            rcases hX with rfl | rfl <;> rfl) (fun X hX => .inr ⟨11, fun _ => rfl, by decide, by decide, by
            simp only [List.mem_cons, List.not_mem_nil, or_false] at hX
            unfold RN; omega⟩) (by kernel_rfl) ?_) ?_
        · intro q y hy X hX v w U hU hon5
          have hY0 : YldC Tryz.prog Wb Ub l0 X (obE (Ls (o2 + q)) ++ rowI X y.1) (fun v => [.val (.row [.row [.i (n : Int), f.a.cw, f.b.cw], .row [.i i.n, i.a.cw, i.b.cw], .sc (cutV v y.1.length), y.2.cw])]) (obE (Ls (o2 + q + 1)) ++ rowI X y.1) := by
            rw [← hn]
            exact hY (o2 + q) ⟨f, i, y.1, y.2⟩ (hat2 q y hy) X hX
          simp only [List.mem_cons, List.not_mem_nil, or_false] at hX
          rcases hX with rfl | rfl
          · refine aS (aR ?_)
            (refine nx (aA (gN rfl) rfl rfl rfl rfl rfl) rfl ?_)
            show AWp _ _ _ _ _ _ _
            refine aR ?_
            (refine nx (a_alloc (gN rfl) rfl rfl rfl rfl rfl rfl rfl rfl rfl rfl) (by kernel_rfl) ?_)
            (refine nx (aSt (gN rfl) rfl rfl rfl rfl rfl rfl rfl rfl rfl rfl) rfl ?_)
            refine ⟨rfl, fun w3 hon6 => awpN_of ?_⟩
            have hon := (hon.trans hon2).trans (hon4.trans hon6)
            refine AWp.wk ((wk_sub (s' := (7, AV.sl 400002 0 y.1.length 1) :: (11, .hdl v 400002) :: (8, .bp 8 0 []) :: (100008, .bx y.2.cw) :: (4, .val (.ptr (yldV l0))) :: (5, .val (.ptr (.row [.i n, f.a.cw, f.b.cw]))) :: (6, .val (.ptr (.row [.i i.n, i.a.cw, i.b.cw]))) :: obX (Ls (o2 + q)) 400002 y.1) ⟨rfl, rfl, rfl, rfl, rfl, rfl, rfl, rfl, rfl, rfl, rfl, trivial⟩).trans (wk_slsc 7 400002 11 rfl rfl rfl)) ?_
            refine aB (aS (awp_regionY ?_))
            (refine nxY (AOp.y (a_load_ptr (gN rfl) rfl rfl rfl rfl rfl rfl rfl rfl rfl)) rfl ?_)
            (refine nxY (AOp.y (a_load_ptr (gN rfl) rfl rfl rfl rfl rfl rfl rfl rfl rfl)) rfl ?_)
            (refine nxY (AOp.y (a_load_ptr (gN rfl) rfl rfl rfl rfl rfl rfl rfl rfl rfl)) rfl ?_)
            (refine nxY (AOp.y (aM (gN rfl) rfl rfl rfl rfl rfl)) rfl ?_)
            (refine nxY (AOp.y (aL (gN rfl) rfl rfl rfl rfl rfl rfl rfl rfl rfl rfl rfl rfl)) rfl ?_)
            (refine nxY (AOp.y (a_buildT mtZ4 (gN rfl) rfl rfl rfl rfl rfl rfl rfl rfl rfl rfl rfl)) rfl ?_)
            (refine nxY (a_yield 11 (hY0) hon (gN rfl) rfl rfl rfl rfl rfl rfl (.inl ⟨rfl, rfl⟩) (by repeat (first | exact trivial | refine ⟨rfl, ?_⟩)) (by first | rfl | kernel_rfl) (by first | rfl | kernel_rfl) (by first | rfl | kernel_rfl) (hnb_of (by first | rfl | kernel_rfl)) rfl) rfl ?_)
            (refine nxY (AOp.y (a_not (gN rfl) rfl rfl rfl rfl rfl)) rfl ?_)
            show AWp _ _ _ _ _ _ _
            refine aC rfl (fun hc => by cases hc) (fun hc => aK ?_)
            exact ⟨rfl, wk_sub ⟨rfl, rfl, rfl, rfl, trivial⟩⟩
          · refine aS (aR ?_)
            (refine nx (aA (gN rfl) rfl rfl rfl rfl rfl) rfl ?_)
            show AWp _ _ _ _ _ _ _
            refine aR ?_
            (refine nx (a_alloc (gN rfl) rfl rfl rfl rfl rfl rfl rfl rfl rfl rfl) (by kernel_rfl) ?_)
            (refine nx (aSt (gN rfl) rfl rfl rfl rfl rfl rfl rfl rfl rfl rfl) rfl ?_)
            refine ⟨rfl, fun w3 hon6 => awpN_of ?_⟩
            have hon := (hon.trans hon2).trans (hon4.trans hon6)
            refine AWp.wk ((wk_sub (s' := (7, AV.sl 400003 0 y.1.length 1) :: (11, .hdl v 400003) :: (8, .bp 8 0 []) :: (100008, .bx y.2.cw) :: (4, .val (.ptr (yldV l0))) :: (5, .val (.ptr (.row [.i n, f.a.cw, f.b.cw]))) :: (6, .val (.ptr (.row [.i i.n, i.a.cw, i.b.cw]))) :: obX (Ls (o2 + q)) 400003 y.1) ⟨rfl, rfl, rfl, rfl, rfl, rfl, rfl, rfl, rfl, rfl, rfl, trivial⟩).trans (wk_slsc 7 400003 11 rfl rfl rfl)) ?_
            refine aB (aS (awp_regionY ?_))
            (refine nxY (AOp.y (a_load_ptr (gN rfl) rfl rfl rfl rfl rfl rfl rfl rfl rfl)) rfl ?_)
            (refine nxY (AOp.y (a_load_ptr (gN rfl) rfl rfl rfl rfl rfl rfl rfl rfl rfl)) rfl ?_)
            (refine nxY (AOp.y (a_load_ptr (gN rfl) rfl rfl rfl rfl rfl rfl rfl rfl rfl)) rfl ?_)
            (refine nxY (AOp.y (aM (gN rfl) rfl rfl rfl rfl rfl)) rfl ?_)
            (refine nxY (AOp.y (aL (gN rfl) rfl rfl rfl rfl rfl rfl rfl rfl rfl rfl rfl rfl)) rfl ?_)
            (refine nxY (AOp.y (a_buildT mtZ4 (gN rfl) rfl rfl rfl rfl rfl rfl rfl rfl rfl rfl rfl)) rfl ?_)
            (refine nxY (a_yield 11 (hY0) hon (gN rfl) rfl rfl rfl rfl rfl rfl (.inl ⟨rfl, rfl⟩) (by repeat (first | exact trivial | refine ⟨rfl, ?_⟩)) (by first | rfl | kernel_rfl) (by first | rfl | kernel_rfl) (by first | rfl | kernel_rfl) (hnb_of (by first | rfl | kernel_rfl)) rfl) rfl ?_)
            (refine nxY (AOp.y (a_not (gN rfl) rfl rfl rfl rfl rfl)) rfl ?_)
            show AWp _ _ _ _ _ _ _
            refine aC rfl (fun hc => by cases hc) (fun hc => aK ?_)
            exact ⟨rfl, wk_sub ⟨rfl, rfl, rfl, rfl, trivial⟩⟩
        · rintro e s' ⟨rfl, m, rfl⟩
          refine ⟨rfl, rfl, rfl, ?_⟩
          exact wk_sub ⟨rfl, rfl, rfl, trivial⟩
      · rintro e s' ⟨rfl, m, rfl⟩
        refine ⟨rfl, rfl, rfl, ?_⟩
        rw [List.take_length]
        exact wk_sub ⟨rfl, rfl, rfl, trivial⟩
  · rintro e s' g ⟨rfl, rfl⟩
    refine ⟨rfl, .inl rfl, obE (Ls (mtsL (negAt c) src tgt).length), ?_, rfl, ⟨rfl, rfl, rfl, trivial⟩, rfl⟩
    rw [List.take_length]
    exact wk_sub ⟨rfl, rfl, rfl, rfl, trivial⟩
-- 
set_option maxHeartbeats 2000000 in
theorem put400002_abs (F : List Int) (u : Tm) (hu : u.rng) (hus : u.size ≤ 90000000000) : ∀ (p : List Int) (lo : Nat) (t : Tm), F.drop lo = p → lo + p.length = F.length → F.length ≤ 1000000 → t.rng → t.size ≤ 100000 → AFunO Tryz.prog 94 [(400002, AV.mrow 3 1 (F.map CV.i))] [.val t.cw, .sl 400002 lo p.length 1, .val u.cw] (.tup [((putP u p t).getD ⟨0, []⟩).cw, .b (putP u p t).isSome]) [(400002, AV.mrow 3 1 (F.map CV.i))] := by
  intro p
  induction p with
  | nil =>
    intro lo t hF hFl _ _ _
    refine afunO_of Tryz.func94 Tryz.ntmps94 rfl rfl rfl rfl rfl rfl ?_
    intro w U hU
    refine aS (aR ?_)
    (refine nx (a_box (gN rfl) rfl rfl rfl rfl rfl) rfl ?_)
    (refine nx (a_box (gN rfl) rfl rfl rfl rfl rfl) rfl ?_)
    (refine nx (a_alloc (gN rfl) rfl rfl rfl rfl rfl rfl rfl rfl rfl rfl) rfl ?_)
    (refine nx (aA (gN rfl) rfl rfl rfl rfl rfl) rfl ?_)
    show AWp _ _ _ _ _ _ _
    refine aS (aS (aR ?_))
    (refine nx (aM (gN rfl) rfl rfl rfl rfl rfl) rfl ?_)
    (refine nx (a_lenM (gN rfl) rfl rfl rfl rfl rfl rfl rfl) rfl ?_)
    (refine nx (a_eql (gN rfl) rfl rfl rfl rfl rfl rfl) rfl ?_)
    show AWp _ _ _ _ _ _ _
    refine aC rfl (fun hc => ?_) (fun hc => by cases hc)
    refine aS (aR ?_)
    (refine nx (aL (gN rfl) rfl rfl rfl rfl rfl rfl rfl rfl rfl rfl rfl rfl) rfl ?_)
    (refine nx (a_call (gN rfl) rfl rfl rfl rfl rfl (clone_abs w hu hus)) rfl ?_)
    (refine nx (aSt (gN rfl) rfl rfl rfl rfl rfl rfl rfl rfl rfl rfl) rfl ?_)
    (refine nx (aA (gN rfl) rfl rfl rfl rfl rfl) rfl ?_)
    show AWp _ _ _ _ _ _ _
    exact aT ⟨.inr rfl, _, Wk.refl _, rfl, rfl, trivial⟩
  | cons n p ih =>
    intro lo t hF hFl hp hr hts
    rw [List.length_cons] at hFl
    have hx0 : (F.map CV.i)[lo]? = some (.i n) := by
      rw [List.getElem?_map]
      have : F[lo]? = (F.drop lo)[0]? := by rw [List.getElem?_drop, Nat.add_zero]
      rw [this, hF]; rfl
    have hFm : (F.map CV.i).length = F.length := List.length_map ..
    have hF1 : F.drop (lo + 1) = p := by rw [show lo + 1 = 1 + lo by omega, Nat.add_comm, ← List.drop_drop, hF]; rfl
    have hsp := ints_size (n :: p)
    refine afunO_of Tryz.func94 Tryz.ntmps94 rfl rfl rfl rfl rfl rfl ?_
    intro w U hU
    refine aS (aR ?_)
    (refine nx (a_box (gN rfl) rfl rfl rfl rfl rfl) rfl ?_)
    (refine nx (a_box (gN rfl) rfl rfl rfl rfl rfl) rfl ?_)
    (refine nx (a_alloc (gN rfl) rfl rfl rfl rfl rfl rfl rfl rfl rfl rfl) rfl ?_)
    (refine nx (aA (gN rfl) rfl rfl rfl rfl rfl) rfl ?_)
    show AWp _ _ _ _ _ _ _
    refine aS (aS (aR ?_))
    (refine nx (aM (gN rfl) rfl rfl rfl rfl rfl) rfl ?_)
    (refine nx (a_lenM (gN rfl) rfl rfl rfl rfl rfl rfl rfl) rfl ?_)
    (refine nx (a_eql (gN rfl) rfl rfl rfl rfl rfl rfl) rfl ?_)
    show AWp _ _ _ _ _ _ _
    refine aC rfl (fun hc => ?_) (fun hc => aK ?_)
    · simp at hc
      omega
    clear hc
    show AWp _ _ _ _ _ _ _
    refine aS (aR ?_)
    (refine nx (aM (gN rfl) rfl rfl rfl rfl rfl) rfl ?_)
    (refine nx (aIm (k := lo) (gN rfl) rfl rfl rfl rfl rfl rfl rfl rfl rfl (by first | rfl | omega | (simp only [List.length_set, List.length_map, List.length_append, List.length_cons, List.length_nil] <;> omega) | (simp <;> omega))) rfl ?_)
    (refine nx (a_loadM (gN rfl) rfl rfl rfl rfl rfl rfl rfl rfl (hx0) rfl (by first | rfl | omega | (simp only [List.length_set, List.length_map, List.length_append, List.length_cons, List.length_nil] <;> omega) | (simp <;> omega)) rfl rfl) rfl ?_)
    (refine nx (aA (gN rfl) rfl rfl rfl rfl rfl) rfl ?_)
    show AWp _ _ _ _ _ _ _
    refine aS (aS (aR ?_))
    (refine nx (aL (gN rfl) rfl rfl rfl rfl rfl rfl rfl rfl rfl rfl rfl rfl) rfl ?_)
    (refine nx (aM (gN rfl) rfl rfl rfl rfl rfl) rfl ?_)
    (refine nx (a_call (gN rfl) rfl rfl rfl rfl rfl (hasPart_abs w t n)) rfl ?_)
    (refine nx (a_not (gN rfl) rfl rfl rfl rfl rfl) rfl ?_)
    show AWp _ _ _ _ _ _ _
    refine aC rfl (fun hc => ?_) (fun hc => aK ?_)
    · have hno : t.pa n = none := by simpa using hc
      have e : putP u (n :: p) t = none := by rw [putP, hno]; rfl
      rw [e]
      refine aS (aR ?_)
      (refine nx (a_build (gN rfl) rfl rfl rfl rfl rfl rfl rfl rfl rfl rfl rfl) rfl ?_)
      (refine nx (aSt (gN rfl) rfl rfl rfl rfl rfl rfl rfl rfl rfl rfl) rfl ?_)
      (refine nx (aA (gN rfl) rfl rfl rfl rfl rfl) rfl ?_)
      show AWp _ _ _ _ _ _ _
      exact aT ⟨.inr rfl, _, Wk.refl _, rfl, rfl, trivial⟩
    obtain ⟨s, hs⟩ : ∃ s, t.pa n = some s := Option.isSome_iff_exists.1 (by simpa using hc)
    clear hc
    have hn0 : 0 ≤ n := by
      unfold Tm.pa at hs
      split at hs
      · assumption
      · cases hs
    have hsym := pa_sym hs
    have hl : t.l[n.toNat]? = some s := by
      have hs := hs
      unfold Tm.pa at hs
      rw [if_pos hn0, Tm.ps_of_sym (by omega)] at hs
      exact hs
    have hl' := Tm.map_at hl
    have hsz := Tm.size_all t.l
    obtain ⟨m, hm⟩ : ∃ m : Nat, n = m := ⟨n.toNat, by omega⟩
    subst hm
    rw [Int.toNat_natCast] at hl hl'
    have hml : m < t.l.length := by
      rcases Nat.lt_or_ge m t.l.length with h | h
      · exact h
      · rw [List.getElem?_eq_none h] at hl; cases hl
    have hml' : m < (t.l.map Tm.cv).length := by rw [List.length_map]; exact hml
    have hrs := ((Tm.rng_iff _).1 hr).2
    have hparts : ∀ x ∈ t.l, x.rng ∧ x.size ≤ 100000 := fun x hx => ⟨hrs x hx, by
      have h1 := Tm.size_eq t
      rw [Tm.ps_of_sym (by omega)] at h1
      have := flatMap_len_mem Tm.flat hx
      have h2 : x.size = x.flat.length := rfl
      omega⟩
    have hlen : t.l.length ≤ 100000 := by
      have h1 := Tm.size_eq t
      rw [Tm.ps_of_sym (by omega)] at h1
      have : ∀ l : List Tm, l.length ≤ (l.flatMap Tm.flat).length := by
        intro l
        induction l with
        | nil => exact Nat.le_refl _
        | cons x l ih =>
          rw [List.flatMap_cons, List.length_append, List.length_cons]
          have : 0 < x.flat.length := by rw [Tm.flat_eq]; simp
          omega
      have := this t.l
      omega
    have hsb := hparts s (List.mem_of_getElem? hl)
    have h1l : 1 ≤ (List.map CV.i ((m : Int) :: p)).length := by simp
    show AWp _ _ _ _ _ _ _
    have hP := ih (lo + 1) s hF1 (by omega) hp hsb.1 hsb.2
    refine aS (aD (by kernel_rfl) (by kernel_rfl) ?_)
    (refine nx (aF (gN rfl) rfl rfl rfl rfl rfl rfl rfl rfl rfl) rfl ?_)
    (refine nx (aLb (gN rfl) rfl rfl rfl rfl rfl rfl rfl rfl rfl rfl rfl rfl) rfl ?_)
    (refine nx (aM (gN rfl) rfl rfl rfl rfl rfl) rfl ?_)
    (refine nx (a_index (gN rfl) rfl rfl rfl rfl rfl rfl rfl rfl rfl (by assumption) rfl (by first | assumption | exact sZ rfl | exact Tm.size_all _ | exact Bd.size_all _ | exact ints_size _ | exact bys_size _ | exact Lt.size_all _)) rfl ?_)
    (refine nx (a_load_ad (gN rfl) rfl rfl rfl rfl rfl rfl rfl rfl rfl) rfl ?_)
    (refine nx (aM (gN rfl) rfl rfl rfl rfl rfl) rfl ?_)
    (refine nx (a_fromM (j := 1) (gN rfl) rfl rfl rfl rfl rfl rfl rfl rfl (by first | rfl | omega | (simp only [List.length_set, List.length_map, List.length_append, List.length_cons, List.length_nil] <;> omega) | (simp <;> omega)) (by first | rfl | omega | (simp only [List.length_set, List.length_map, List.length_append, List.length_cons, List.length_nil] <;> omega) | (simp <;> omega))) rfl ?_)
    (refine nx (aL (gN rfl) rfl rfl rfl rfl rfl rfl rfl rfl rfl rfl rfl rfl) rfl ?_)
    (refine nx (a_callO (gN rfl) rfl rfl rfl rfl rfl (hP) (by repeat (first | exact trivial | refine ⟨rfl, ?_⟩)) (by first | rfl | kernel_rfl) (by first | rfl | kernel_rfl) (by first | rfl | kernel_rfl) (by first | rfl | kernel_rfl) (hnb_of (by first | rfl | kernel_rfl))) rfl ?_)
    (refine nx (aM (gN rfl) rfl rfl rfl rfl rfl) rfl ?_)
    (refine nx (aX (gN rfl) rfl rfl rfl rfl rfl rfl) rfl ?_)
    (refine nx (aX (gN rfl) rfl rfl rfl rfl rfl rfl) rfl ?_)
    (refine nx (a_alloc (gN rfl) rfl rfl rfl rfl rfl rfl rfl rfl rfl rfl) rfl ?_)
    (refine nx (aSt (gN rfl) rfl rfl rfl rfl rfl rfl rfl rfl rfl rfl) rfl ?_)
    (refine nx (aA (gN rfl) rfl rfl rfl rfl rfl) rfl ?_)
    refine ⟨by kernel_rfl, ?_⟩
    show AWp _ _ _ _ _ _ _
    refine aS (aS (aR ?_))
    (refine nx (aM (gN rfl) rfl rfl rfl rfl rfl) rfl ?_)
    (refine nx (a_not (gN rfl) rfl rfl rfl rfl rfl) rfl ?_)
    show AWp _ _ _ _ _ _ _
    refine aC rfl (fun hc => ?_) (fun hc => aK ?_)
    · have hno : putP u p s = none := by simpa using hc
      have e : putP u ((m : Int) :: p) t = none := by rw [putP, hs, Option.bind_some, hno]; rfl
      rw [e]
      refine aS (aR ?_)
      (refine nx (a_build (gN rfl) rfl rfl rfl rfl rfl rfl rfl rfl rfl rfl rfl) rfl ?_)
      (refine nx (aSt (gN rfl) rfl rfl rfl rfl rfl rfl rfl rfl rfl rfl) rfl ?_)
      (refine nx (aA (gN rfl) rfl rfl rfl rfl rfl) rfl ?_)
      show AWp _ _ _ _ _ _ _
      exact aT ⟨.inr rfl, _, Wk.refl _, rfl, rfl, trivial⟩
    obtain ⟨v, hv⟩ : ∃ v, putP u p s = some v := Option.isSome_iff_exists.1 (by simpa using hc)
    clear hc
    have e : putP u ((m : Int) :: p) t = some ⟨t.f, (t.l.take m).map Tm.strip ++ v :: (t.l.drop (m + 1)).map Tm.strip⟩ := by rw [putP, hs, Option.bind_some, hv]; rfl
    rw [e, hv]
    have c1 := cloneAll_abs w (t.l.take m) (by rw [List.length_take]; omega) (fun x hx => ⟨(hparts x (List.mem_of_mem_take hx)).1, by have := (hparts x (List.mem_of_mem_take hx)).2; omega⟩)
    have c2 := cloneAll_abs w (t.l.drop (m + 1)) (by rw [List.length_drop]; omega) (fun x hx => ⟨(hparts x (List.mem_of_mem_drop hx)).1, by have := (hparts x (List.mem_of_mem_drop hx)).2; omega⟩)
    rw [show (t.l.take m).map Tm.cv = (t.l.map Tm.cv).take m from List.map_take] at c1
    rw [show (t.l.drop (m + 1)).map Tm.cv = (t.l.map Tm.cv).drop (m + 1) from List.map_drop] at c2
    obtain ⟨A, hA⟩ : ∃ A, A = (t.l.take m).map Tm.strip := ⟨_, rfl⟩
    obtain ⟨B, hB⟩ : ∃ B, B = (t.l.drop (m + 1)).map Tm.strip := ⟨_, rfl⟩
    have hAl : A.length ≤ 100000 := by rw [hA, List.length_map, List.length_take]; omega
    have hBl : B.length ≤ 100000 := by rw [hB, List.length_map, List.length_drop]; omega
    rw [← hA] at c1 ⊢
    rw [← hB] at c2 ⊢
    have c3 : AFun Tryz.prog w 130 [.lst [.lst (A.map Tm.cv), .lst [v.cw], .lst (B.map Tm.cv)]] (.val (.lst ((A ++ v :: B).map Tm.cv))) := by
      have := concat_abs w [A, [v], B] (by simp) (by simp; omega)
      simpa only [List.map_cons, List.map_nil, Tm.cv_eq, List.flatten_cons, List.flatten_nil, List.append_nil, List.cons_append, List.nil_append, List.singleton_append] using this
    show AWp _ _ _ _ _ _ _
    refine AWp.wk (wk_sub (s' := [(3, .bp 3 0 []), (100003, .bx t.cw), (6, .bp 6 0 []), (100006, ⟨5, .row [.i 0, .lst []], 1, 0, [1]⟩), (8, .val (.i m)), (9, .bp 9 0 []), (100009, .bx v.cw), (400002, AV.mrow 3 1 (F.map CV.i))]) ⟨rfl, rfl, rfl, rfl, rfl, rfl, rfl, rfl, trivial⟩) ?_
    refine aS (aD (by kernel_rfl) (by kernel_rfl) ?_)
    (refine nx (aF (gN rfl) rfl rfl rfl rfl rfl rfl rfl rfl rfl) rfl ?_)
    (refine nx (aLb (gN rfl) rfl rfl rfl rfl rfl rfl rfl rfl rfl rfl rfl rfl) rfl ?_)
    (refine nx (aM (gN rfl) rfl rfl rfl rfl rfl) rfl ?_)
    (refine nx (a_upto (gN rfl) rfl rfl rfl rfl rfl rfl rfl rfl rfl (by omega) (by first | assumption | exact sZ rfl | exact Tm.size_all _ | exact Bd.size_all _ | exact ints_size _ | exact bys_size _ | exact Lt.size_all _)) rfl ?_)
    (refine nx (a_call (gN rfl) rfl rfl rfl rfl rfl (c1)) rfl ?_)
    (refine nx (aL (gN rfl) rfl rfl rfl rfl rfl rfl rfl rfl rfl rfl rfl rfl) rfl ?_)
    (refine nx (a_bslice (gN rfl) rfl rfl rfl rfl rfl rfl rfl rfl rfl rfl rfl rfl rfl) rfl ?_)
    (refine nx (aF (gN rfl) rfl rfl rfl rfl rfl rfl rfl rfl rfl) rfl ?_)
    (refine nx (aLb (gN rfl) rfl rfl rfl rfl rfl rfl rfl rfl rfl rfl rfl rfl) rfl ?_)
    (refine nx (aM (gN rfl) rfl rfl rfl rfl rfl) rfl ?_)
    (refine nx (a_add (gN rfl) rfl rfl rfl rfl rfl rfl (by first | omega | (simp only [List.length_map, List.length_append, List.length_cons, List.length_nil] <;> omega) | (simp <;> omega))) rfl ?_)
    (refine nx (a_from (lo := m + 1) (gN rfl) rfl rfl rfl rfl rfl rfl rfl rfl rfl (by omega) (by first | assumption | exact sZ rfl | exact Tm.size_all _ | exact Bd.size_all _ | exact ints_size _ | exact bys_size _ | exact Lt.size_all _)) rfl ?_)
    (refine nx (a_call (gN rfl) rfl rfl rfl rfl rfl (c2)) rfl ?_)
    (refine nx (a_bslice (gN rfl) rfl rfl rfl rfl rfl rfl rfl rfl rfl rfl rfl rfl rfl) rfl ?_)
    (refine nx (a_call (gN rfl) rfl rfl rfl rfl rfl (c3)) rfl ?_)
    (refine nx (aA (gN rfl) rfl rfl rfl rfl rfl) rfl ?_)
    refine ⟨by kernel_rfl, ?_⟩
    show AWp _ _ _ _ _ _ _
    refine aS (aR ?_)
    (refine nx (aF (gN rfl) rfl rfl rfl rfl rfl rfl rfl rfl rfl) rfl ?_)
    (refine nx (aLb (gN rfl) rfl rfl rfl rfl rfl rfl rfl rfl rfl rfl rfl rfl) rfl ?_)
    (refine nx (aM (gN rfl) rfl rfl rfl rfl rfl) rfl ?_)
    (refine nx (a_build (gN rfl) rfl rfl rfl rfl rfl rfl rfl rfl rfl rfl rfl) rfl ?_)
    (refine nx (aSt (gN rfl) rfl rfl rfl rfl rfl rfl rfl rfl rfl rfl) rfl ?_)
    (refine nx (aA (gN rfl) rfl rfl rfl rfl rfl) rfl ?_)
    show AWp _ _ _ _ _ _ _
    exact aT ⟨.inr rfl, _, Wk.refl _, rfl, rfl, trivial⟩
-- 
set_option maxHeartbeats 2000000 in
theorem put400003_abs (F : List Int) (u : Tm) (hu : u.rng) (hus : u.size ≤ 90000000000) : ∀ (p : List Int) (lo : Nat) (t : Tm), F.drop lo = p → lo + p.length = F.length → F.length ≤ 1000000 → t.rng → t.size ≤ 100000 → AFunO Tryz.prog 94 [(400003, AV.mrow 3 1 (F.map CV.i))] [.val t.cw, .sl 400003 lo p.length 1, .val u.cw] (.tup [((putP u p t).getD ⟨0, []⟩).cw, .b (putP u p t).isSome]) [(400003, AV.mrow 3 1 (F.map CV.i))] := by
  intro p
  induction p with
  | nil =>
    intro lo t hF hFl _ _ _
    refine afunO_of Tryz.func94 Tryz.ntmps94 rfl rfl rfl rfl rfl rfl ?_
    intro w U hU
    refine aS (aR ?_)
    (refine nx (a_box (gN rfl) rfl rfl rfl rfl rfl) rfl ?_)
    (refine nx (a_box (gN rfl) rfl rfl rfl rfl rfl) rfl ?_)
    (refine nx (a_alloc (gN rfl) rfl rfl rfl rfl rfl rfl rfl rfl rfl rfl) rfl ?_)
    (refine nx (aA (gN rfl) rfl rfl rfl rfl rfl) rfl ?_)
    show AWp _ _ _ _ _ _ _
    refine aS (aS (aR ?_))
    (refine nx (aM (gN rfl) rfl rfl rfl rfl rfl) rfl ?_)
    (refine nx (a_lenM (gN rfl) rfl rfl rfl rfl rfl rfl rfl) rfl ?_)
    (refine nx (a_eql (gN rfl) rfl rfl rfl rfl rfl rfl) rfl ?_)
    show AWp _ _ _ _ _ _ _
    refine aC rfl (fun hc => ?_) (fun hc => by cases hc)
    refine aS (aR ?_)
    (refine nx (aL (gN rfl) rfl rfl rfl rfl rfl rfl rfl rfl rfl rfl rfl rfl) rfl ?_)
    (refine nx (a_call (gN rfl) rfl rfl rfl rfl rfl (clone_abs w hu hus)) rfl ?_)
    (refine nx (aSt (gN rfl) rfl rfl rfl rfl rfl rfl rfl rfl rfl rfl) rfl ?_)
    (refine nx (aA (gN rfl) rfl rfl rfl rfl rfl) rfl ?_)
    show AWp _ _ _ _ _ _ _
    exact aT ⟨.inr rfl, _, Wk.refl _, rfl, rfl, trivial⟩
  | cons n p ih =>
    intro lo t hF hFl hp hr hts
    rw [List.length_cons] at hFl
    have hx0 : (F.map CV.i)[lo]? = some (.i n) := by
      rw [List.getElem?_map]
      have : F[lo]? = (F.drop lo)[0]? := by rw [List.getElem?_drop, Nat.add_zero]
      rw [this, hF]; rfl
    have hFm : (F.map CV.i).length = F.length := List.length_map ..
    have hF1 : F.drop (lo + 1) = p := by rw [show lo + 1 = 1 + lo by omega, Nat.add_comm, ← List.drop_drop, hF]; rfl
    have hsp := ints_size (n :: p)
    refine afunO_of Tryz.func94 Tryz.ntmps94 rfl rfl rfl rfl rfl rfl ?_
    intro w U hU
    refine aS (aR ?_)
    (refine nx (a_box (gN rfl) rfl rfl rfl rfl rfl) rfl ?_)
    (refine nx (a_box (gN rfl) rfl rfl rfl rfl rfl) rfl ?_)
    (refine nx (a_alloc (gN rfl) rfl rfl rfl rfl rfl rfl rfl rfl rfl rfl) rfl ?_)
    (refine nx (aA (gN rfl) rfl rfl rfl rfl rfl) rfl ?_)
    show AWp _ _ _ _ _ _ _
    refine aS (aS (aR ?_))
    (refine nx (aM (gN rfl) rfl rfl rfl rfl rfl) rfl ?_)
    (refine nx (a_lenM (gN rfl) rfl rfl rfl rfl rfl rfl rfl) rfl ?_)
    (refine nx (a_eql (gN rfl) rfl rfl rfl rfl rfl rfl) rfl ?_)
    show AWp _ _ _ _ _ _ _
    refine aC rfl (fun hc => ?_) (fun hc => aK ?_)
    · simp at hc
      omega
    clear hc
    show AWp _ _ _ _ _ _ _
    refine aS (aR ?_)
    (refine nx (aM (gN rfl) rfl rfl rfl rfl rfl) rfl ?_)
    (refine nx (aIm (k := lo) (gN rfl) rfl rfl rfl rfl rfl rfl rfl rfl rfl (by first | rfl | omega | (simp only [List.length_set, List.length_map, List.length_append, List.length_cons, List.length_nil] <;> omega) | (simp <;> omega))) rfl ?_)
    (refine nx (a_loadM (gN rfl) rfl rfl rfl rfl rfl rfl rfl rfl (hx0) rfl (by first | rfl | omega | (simp only [List.length_set, List.length_map, List.length_append, List.length_cons, List.length_nil] <;> omega) | (simp <;> omega)) rfl rfl) rfl ?_)
    (refine nx (aA (gN rfl) rfl rfl rfl rfl rfl) rfl ?_)
    show AWp _ _ _ _ _ _ _
    refine aS (aS (aR ?_))
    (refine nx (aL (gN rfl) rfl rfl rfl rfl rfl rfl rfl rfl rfl rfl rfl rfl) rfl ?_)
    (refine nx (aM (gN rfl) rfl rfl rfl rfl rfl) rfl ?_)
    (refine nx (a_call (gN rfl) rfl rfl rfl rfl rfl (hasPart_abs w t n)) rfl ?_)
    (refine nx (a_not (gN rfl) rfl rfl rfl rfl rfl) rfl ?_)
    show AWp _ _ _ _ _ _ _
    refine aC rfl (fun hc => ?_) (fun hc => aK ?_)
    · have hno : t.pa n = none := by simpa using hc
      have e : putP u (n :: p) t = none := by rw [putP, hno]; rfl
      rw [e]
      refine aS (aR ?_)
      (refine nx (a_build (gN rfl) rfl rfl rfl rfl rfl rfl rfl rfl rfl rfl rfl) rfl ?_)
      (refine nx (aSt (gN rfl) rfl rfl rfl rfl rfl rfl rfl rfl rfl rfl) rfl ?_)
      (refine nx (aA (gN rfl) rfl rfl rfl rfl rfl) rfl ?_)
      show AWp _ _ _ _ _ _ _
      exact aT ⟨.inr rfl, _, Wk.refl _, rfl, rfl, trivial⟩
    obtain ⟨s, hs⟩ : ∃ s, t.pa n = some s := Option.isSome_iff_exists.1 (by simpa using hc)
    clear hc
    have hn0 : 0 ≤ n := by
      unfold Tm.pa at hs
      split at hs
      · assumption
      · cases hs
    have hsym := pa_sym hs
    have hl : t.l[n.toNat]? = some s := by
      have hs := hs
      unfold Tm.pa at hs
      rw [if_pos hn0, Tm.ps_of_sym (by omega)] at hs
      exact hs
    have hl' := Tm.map_at hl
    have hsz := Tm.size_all t.l
    obtain ⟨m, hm⟩ : ∃ m : Nat, n = m := ⟨n.toNat, by omega⟩
    subst hm
    rw [Int.toNat_natCast] at hl hl'
    have hml : m < t.l.length := by
      rcases Nat.lt_or_ge m t.l.length with h | h
      · exact h
      · rw [List.getElem?_eq_none h] at hl; cases hl
    have hml' : m < (t.l.map Tm.cv).length := by rw [List.length_map]; exact hml
    have hrs := ((Tm.rng_iff _).1 hr).2
    have hparts : ∀ x ∈ t.l, x.rng ∧ x.size ≤ 100000 := fun x hx => ⟨hrs x hx, by
      have h1 := Tm.size_eq t
      rw [Tm.ps_of_sym (by omega)] at h1
      have := flatMap_len_mem Tm.flat hx
      have h2 : x.size = x.flat.length := rfl
      omega⟩
    have hlen : t.l.length ≤ 100000 := by
      have h1 := Tm.size_eq t
      rw [Tm.ps_of_sym (by omega)] at h1
      have : ∀ l : List Tm, l.length ≤ (l.flatMap Tm.flat).length := by
        intro l
        induction l with
        | nil => exact Nat.le_refl _
        | cons x l ih =>
          rw [List.flatMap_cons, List.length_append, List.length_cons]
          have : 0 < x.flat.length := by rw [Tm.flat_eq]; simp
          omega
      have := this t.l
      omega
    have hsb := hparts s (List.mem_of_getElem? hl)
    have h1l : 1 ≤ (List.map CV.i ((m : Int) :: p)).length := by simp
    show AWp _ _ _ _ _ _ _
    have hP := ih (lo + 1) s hF1 (by omega) hp hsb.1 hsb.2
    refine aS (aD (by kernel_rfl) (by kernel_rfl) ?_)
    (refine nx (aF (gN rfl) rfl rfl rfl rfl rfl rfl rfl rfl rfl) rfl ?_)
    (refine nx (aLb (gN rfl) rfl rfl rfl rfl rfl rfl rfl rfl rfl rfl rfl rfl) rfl ?_)
    (refine nx (aM (gN rfl) rfl rfl rfl rfl rfl) rfl ?_)
    (refine nx (a_index (gN rfl) rfl rfl rfl rfl rfl rfl rfl rfl rfl (by assumption) rfl (by first | assumption | exact sZ rfl | exact Tm.size_all _ | exact Bd.size_all _ | exact ints_size _ | exact bys_size _ | exact Lt.size_all _)) rfl ?_)
    (refine nx (a_load_ad (gN rfl) rfl rfl rfl rfl rfl rfl rfl rfl rfl) rfl ?_)
    (refine nx (aM (gN rfl) rfl rfl rfl rfl rfl) rfl ?_)
    (refine nx (a_fromM (j := 1) (gN rfl) rfl rfl rfl rfl rfl rfl rfl rfl (by first | rfl | omega | (simp only [List.length_set, List.length_map, List.length_append, List.length_cons, List.length_nil] <;> omega) | (simp <;> omega)) (by first | rfl | omega | (simp only [List.length_set, List.length_map, List.length_append, List.length_cons, List.length_nil] <;> omega) | (simp <;> omega))) rfl ?_)
    (refine nx (aL (gN rfl) rfl rfl rfl rfl rfl rfl rfl rfl rfl rfl rfl rfl) rfl ?_)
    (refine nx (a_callO (gN rfl) rfl rfl rfl rfl rfl (hP) (by repeat (first | exact trivial | refine ⟨rfl, ?_⟩)) (by first | rfl | kernel_rfl) (by first | rfl | kernel_rfl) (by first | rfl | kernel_rfl) (by first | rfl | kernel_rfl) (hnb_of (by first | rfl | kernel_rfl))) rfl ?_)
    (refine nx (aM (gN rfl) rfl rfl rfl rfl rfl) rfl ?_)
    (refine nx (aX (gN rfl) rfl rfl rfl rfl rfl rfl) rfl ?_)
    (refine nx (aX (gN rfl) rfl rfl rfl rfl rfl rfl) rfl ?_)
    (refine nx (a_alloc (gN rfl) rfl rfl rfl rfl rfl rfl rfl rfl rfl rfl) rfl ?_)
    (refine nx (aSt (gN rfl) rfl rfl rfl rfl rfl rfl rfl rfl rfl rfl) rfl ?_)
    (refine nx (aA (gN rfl) rfl rfl rfl rfl rfl) rfl ?_)
    refine ⟨by kernel_rfl, ?_⟩
    show AWp _ _ _ _ _ _ _
    refine aS (aS (aR ?_))
    (refine nx (aM (gN rfl) rfl rfl rfl rfl rfl) rfl ?_)
    (refine nx (a_not (gN rfl) rfl rfl rfl rfl rfl) rfl ?_)
    show AWp _ _ _ _ _ _ _
    refine aC rfl (fun hc => ?_) (fun hc => aK ?_)
    · have hno : putP u p s = none := by simpa using hc
      have e : putP u ((m : Int) :: p) t = none := by rw [putP, hs, Option.bind_some, hno]; rfl
      rw [e]
      refine aS (aR ?_)
      (refine nx (a_build (gN rfl) rfl rfl rfl rfl rfl rfl rfl rfl rfl rfl rfl) rfl ?_)
      (refine nx (aSt (gN rfl) rfl rfl rfl rfl rfl rfl rfl rfl rfl rfl) rfl ?_)
      (refine nx (aA (gN rfl) rfl rfl rfl rfl rfl) rfl ?_)
      show AWp _ _ _ _ _ _ _
      exact aT ⟨.inr rfl, _, Wk.refl _, rfl, rfl, trivial⟩
    obtain ⟨v, hv⟩ : ∃ v, putP u p s = some v := Option.isSome_iff_exists.1 (by simpa using hc)
    clear hc
    have e : putP u ((m : Int) :: p) t = some ⟨t.f, (t.l.take m).map Tm.strip ++ v :: (t.l.drop (m + 1)).map Tm.strip⟩ := by rw [putP, hs, Option.bind_some, hv]; rfl
    rw [e, hv]
    have c1 := cloneAll_abs w (t.l.take m) (by rw [List.length_take]; omega) (fun x hx => ⟨(hparts x (List.mem_of_mem_take hx)).1, by have := (hparts x (List.mem_of_mem_take hx)).2; omega⟩)
    have c2 := cloneAll_abs w (t.l.drop (m + 1)) (by rw [List.length_drop]; omega) (fun x hx => ⟨(hparts x (List.mem_of_mem_drop hx)).1, by have := (hparts x (List.mem_of_mem_drop hx)).2; omega⟩)
    rw [show (t.l.take m).map Tm.cv = (t.l.map Tm.cv).take m from List.map_take] at c1
    rw [show (t.l.drop (m + 1)).map Tm.cv = (t.l.map Tm.cv).drop (m + 1) from List.map_drop] at c2
    obtain ⟨A, hA⟩ : ∃ A, A = (t.l.take m).map Tm.strip := ⟨_, rfl⟩
    obtain ⟨B, hB⟩ : ∃ B, B = (t.l.drop (m + 1)).map Tm.strip := ⟨_, rfl⟩
    have hAl : A.length ≤ 100000 := by rw [hA, List.length_map, List.length_take]; omega
    have hBl : B.length ≤ 100000 := by rw [hB, List.length_map, List.length_drop]; omega
    rw [← hA] at c1 ⊢
    rw [← hB] at c2 ⊢
    have c3 : AFun Tryz.prog w 130 [.lst [.lst (A.map Tm.cv), .lst [v.cw], .lst (B.map Tm.cv)]] (.val (.lst ((A ++ v :: B).map Tm.cv))) := by
      have := concat_abs w [A, [v], B] (by simp) (by simp; omega)
      simpa only [List.map_cons, List.map_nil, Tm.cv_eq, List.flatten_cons, List.flatten_nil, List.append_nil, List.cons_append, List.nil_append, List.singleton_append] using this
    show AWp _ _ _ _ _ _ _
    refine AWp.wk (wk_sub (s' := [(3, .bp 3 0 []), (100003, .bx t.cw), (6, .bp 6 0 []), (100006, ⟨5, .row [.i 0, .lst []], 1, 0, [1]⟩), (8, .val (.i m)), (9, .bp 9 0 []), (100009, .bx v.cw), (400003, AV.mrow 3 1 (F.map CV.i))]) ⟨rfl, rfl, rfl, rfl, rfl, rfl, rfl, rfl, trivial⟩) ?_
    refine aS (aD (by kernel_rfl) (by kernel_rfl) ?_)
    (refine nx (aF (gN rfl) rfl rfl rfl rfl rfl rfl rfl rfl rfl) rfl ?_)
    (refine nx (aLb (gN rfl) rfl rfl rfl rfl rfl rfl rfl rfl rfl rfl rfl rfl) rfl ?_)
    (refine nx (aM (gN rfl) rfl rfl rfl rfl rfl) rfl ?_)
    (refine nx (a_upto (gN rfl) rfl rfl rfl rfl rfl rfl rfl rfl rfl (by omega) (by first | assumption | exact sZ rfl | exact Tm.size_all _ | exact Bd.size_all _ | exact ints_size _ | exact bys_size _ | exact Lt.size_all _)) rfl ?_)
    (refine nx (a_call (gN rfl) rfl rfl rfl rfl rfl (c1)) rfl ?_)
    (refine nx (aL (gN rfl) rfl rfl rfl rfl rfl rfl rfl rfl rfl rfl rfl rfl) rfl ?_)
    (refine nx (a_bslice (gN rfl) rfl rfl rfl rfl rfl rfl rfl rfl rfl rfl rfl rfl rfl) rfl ?_)
    (refine nx (aF (gN rfl) rfl rfl rfl rfl rfl rfl rfl rfl rfl) rfl ?_)
    (refine nx (aLb (gN rfl) rfl rfl rfl rfl rfl rfl rfl rfl rfl rfl rfl rfl) rfl ?_)
    (refine nx (aM (gN rfl) rfl rfl rfl rfl rfl) rfl ?_)
    (refine nx (a_add (gN rfl) rfl rfl rfl rfl rfl rfl (by first | omega | (simp only [List.length_map, List.length_append, List.length_cons, List.length_nil] <;> omega) | (simp <;> omega))) rfl ?_)
    (refine nx (a_from (lo := m + 1) (gN rfl) rfl rfl rfl rfl rfl rfl rfl rfl rfl (by omega) (by first | assumption | exact sZ rfl | exact Tm.size_all _ | exact Bd.size_all _ | exact ints_size _ | exact bys_size _ | exact Lt.size_all _)) rfl ?_)
    (refine nx (a_call (gN rfl) rfl rfl rfl rfl rfl (c2)) rfl ?_)
    (refine nx (a_bslice (gN rfl) rfl rfl rfl rfl rfl rfl rfl rfl rfl rfl rfl rfl rfl) rfl ?_)
    (refine nx (a_call (gN rfl) rfl rfl rfl rfl rfl (c3)) rfl ?_)
    (refine nx (aA (gN rfl) rfl rfl rfl rfl rfl) rfl ?_)
    refine ⟨by kernel_rfl, ?_⟩
    show AWp _ _ _ _ _ _ _
    refine aS (aR ?_)
    (refine nx (aF (gN rfl) rfl rfl rfl rfl rfl rfl rfl rfl rfl) rfl ?_)
    (refine nx (aLb (gN rfl) rfl rfl rfl rfl rfl rfl rfl rfl rfl rfl rfl rfl) rfl ?_)
    (refine nx (aM (gN rfl) rfl rfl rfl rfl rfl) rfl ?_)
    (refine nx (a_build (gN rfl) rfl rfl rfl rfl rfl rfl rfl rfl rfl rfl rfl) rfl ?_)
    (refine nx (aSt (gN rfl) rfl rfl rfl rfl rfl rfl rfl rfl rfl rfl) rfl ?_)
    (refine nx (aA (gN rfl) rfl rfl rfl rfl rfl) rfl ?_)
    show AWp _ _ _ _ _ _ _
    exact aT ⟨.inr rfl, _, Wk.refl _, rfl, rfl, trivial⟩
end Go.Proofs.YteegmcfobgpemaaGreat
