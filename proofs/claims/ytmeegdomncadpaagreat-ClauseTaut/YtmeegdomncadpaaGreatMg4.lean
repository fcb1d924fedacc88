/-
  AbFull AbArr AbRoom AbBox AbIter AbRange AbMark AbRangeV AbMapR AbMapT AbQ SbQ AbBackB SbImg SbApM ClSides ClWith SrtGen ClNmM AbRowO AbKind CodeMath CodeLen CodePut CodePutMore RefSame CodeRef CodeAlive CodeReadMath CodeRead CodeUint CodeText CodeBackMath ClBy ClCode ClPut
-/
import Derived.Test.YtmeegdomncadpaaGreatMg3
import Derived.Test.YtmeegdomncadpaaGreatMg2
import Derived.Maps.RangeRun
import Derived.WalkKit
import Derived.Test.YtmeegdomncadpaaGreatChecked
import Derived.WalkLawsBesides
import Derived.WalkSpells
import Derived.Test.YtmeegdomncadpaaGreatMg1
import Derived.Laws.BitsAllLaws
import Derived.Deep.QuietTactic
import Derived.BigQuiet
import Derived.Laws.BytesArg
namespace Go.Proofs.YtmeegdomncadpaaGreat
open Go.RowKit
set_option linter.unusedVariables false
set_option linter.unusedSimpArgs false
section
variable {P : Program} {w0 : World} {U0 : UX} {nt : Nat} {ops : Array Oper} {o : Oper} {S : Nat → Option AV} {gs : List Nat} {d : Nat} {s : AS} {a : Act} {w : World} {D : Nat → Nat → Prop} {hv : Nat → Value}

theorem AOp.plain {R : List Nat} {N : List (Nat × List Nat)} {c : CV} {n q : Nat} {p : List Nat} (h5 : Nat.blt d 100000 = true) (h : AOp P w0 U0 nt ops o R N S [(d, ⟨0, c, n, q, p⟩)]) : AOp P w0 U0 nt ops o R N S [(d, .val c)] := by
  intro s hs hN a w hsim Q K hK
  refine h s hs hN a w hsim Q K fun a' w' hs' => hK a' w' ?_
  obtain ⟨D, hv, hg⟩ := hs'
  obtain ⟨v, g1, g2⟩ := hg.slot d _ (lS _ _ _) (bL h5)
  refine ⟨D, hv, (hg.know (bL h5) g1 (avrep_val g2.1)).congr fun k => ?_⟩
  show look ((d, AV.val c) :: s) k = look ((d, AV.val c) :: (d, _) :: s) k
  rw [look_cons, look_cons, look_cons]
  split <;> rfl
theorem a_buildP (hg : Gd w0 U0 nt ops o gs S) (hd : o.dst = some d) (hn : Nat.blt d nt = true) (h5 : Nat.blt d 100000 = true) {t : TypeId} {parts : Array (Nat × Operand)} {fs : Array Field} {it : TypeInfo} {cs : Array Value} {sz : List Nat} {zs r : List CV} {n : Nat} {p : List Nat} (ho : o.op = .build t parts) (hu : P.underlying t = some (.struct fs)) (hi : P.info? t = some it) (hz : it.zero = some (.agg cs)) (hsz : szO P fs.toList 0 = some sz) (h0 : zsO sz cs.toList = some zs) (hr : setsO S parts.toList zs = some r) (hp : nilB zs parts.toList 0 = (n, p)) :
    AOp P w0 U0 nt ops o (gs ++ rds parts.toList) [] S [(d, .val (.row r))] := (a_build hg hd hn h5 ho hu hi hz hsz h0 hr hp).plain h5

end
section
variable {P : Program} {w0 : World} {U0 : UX} {nt : Nat} {ops : Array Oper} {o : Oper} {S : Nat → Option AV} {gs : List Nat} {d : Nat} {s : AS} {a : Act} {w : World} {D : Nat → Nat → Prop} {hv : Nat → Value}
def noMref (s : AS) (n : Nat) : Bool := s.all fun p => !((Nat.beq p.2.t 15 || Nat.beq p.2.t 19) && Nat.beq p.2.n n)
def SameS (S : Nat → Option AV) (ks : List Nat) : AS → Prop
  | [] => True
  | (k, av) :: l => (hasN ks k = true ∨ S k = some av) ∧ SameS S ks l
theorem SameS.look {ks : List Nat} : ∀ {l : AS}, SameS S ks l → ∀ {k av}, look l k = some av → hasN ks k = false → S k = some av
  | [], _, k, av, h, _ => by cases h
  | (k', av') :: l, ⟨h1, h2⟩, k, av, h, hn => by
    rw [look_cons] at h
    split at h
    · rename_i e
      subst e
      cases h
      rcases h1 with h1 | h1
      · rw [h1] at hn; cases hn
      · exact h1
    · exact SameS.look h2 h hn
end
section
variable {P : Program} {w0 : World} {U0 : UX} {nt : Nat} {ops : Array Oper} {o : Oper} {S : Nat → Option AV} {gs : List Nat} {d : Nat} {s : AS} {a : Act} {w : World} {D : Nat → Nat → Prop} {hv : Nat → Value}
def noL (ds : List Nat) : AS := ds.map fun d => (d, AV.no)
end
end Go.Proofs.YtmeegdomncadpaaGreat
namespace Go.Proofs.YtmeegdomncadpaaGreat
open Go.RowKit Go.MapKept
set_option linter.unusedVariables false
set_option linter.unusedSimpArgs false
section
variable {P : Program} {w0 : World} {U0 : UX} {nt : Nat} {ops : Array Oper} {o : Oper} {S : Nat → Option AV} {gs : List Nat} {d : Nat} {s : AS} {a : Act} {w : World} {D : Nat → Nat → Prop} {hv : Nat → Value}
end
def collPostL (L D : Nat) (Kp : World → World → Prop) (I : World → Prop) (W : World) : Exit → Act → World → Prop
  | .normal, _, W' => W'.heap[L]? = W.heap[L]? ∧ W'.heap[D]? = W.heap[D]? ∧ Kp W W' ∧ I W'
  | _, _, _ => False

section
variable {α : Type} {P : Program}
end

section
variable {P : Program} {w0 : World} {U0 : UX} {nt : Nat} {ops : Array Oper} {o : Oper} {S : Nat → Option AV} {gs : List Nat} {d : Nat} {s : AS} {a : Act} {w : World} {D : Nat → Nat → Prop} {hv : Nat → Value}

abbrev AV.ob (g o : Nat) : AV := ⟨20, .sc (.pointer (some ⟨g, 0, none⟩)), 0, o, []⟩
end
def KpX (n0 : Nat) (X : Nat → Prop) (V V' : World) : Prop := ∀ b, b < n0 → ¬ X b → V'.heap[b]? = V.heap[b]?
def Hands {α : Type} (P : Program) (gf : Nat) (caps : List CV) (encC : α → List CV) (xs : List α) : Prop :=
  ∀ (w : World) (lb : List Value) (R : Nat → Nat → Prop), VReps R w caps lb → Gives P gf lb.toArray (fun x => ((encC x).map CV.v).toArray) (fun pre x _ => xs[pre.length]? = some x) (KpX w.heap.size fun b => ¬ ∃ o, R b o) (fun ys => ys = xs) w

def asgL : List Oper → Option (List (Nat × Nat))
  | [] => some []
  | o :: os => match o.dst, o.op, o.guard, asgL os with
    | some d, .assign (.tmp t), none, some r => some ((d, t) :: r)
    | _, _, _, _ => none
def asgT : List (Nat × Nat) → Array Value → Array Value
  | [], tm => tm
  | (d, t) :: r, tm => asgT r (tm.setIfInBounds d (tm.getD t undef))
def asgS : List (Nat × Nat) → AS → AS
  | [], s => s
  | (d, t) :: r, s => asgS r ((d, match look s t with | some av => av | none => .no) :: s)
def parT : List Tmp → List Value → Array Value → Array Value
  | p :: ps, v :: vs, tm => parT ps vs (tm.setIfInBounds p v)
  | _, _, tm => tm
def parS : List Tmp → List CV → AS → AS
  | p :: ps, c :: cs, s => parS ps cs ((p, .val c) :: s)
  | _, _, s => s
def SlOk (R : AV → Value → Prop) (s : AS) (tm : Array Value) : Prop := ∀ d av, look s d = some av → ∃ v, tm[d]? = some v ∧ R av v
section
variable {P : Program} {w0 : World} {U0 : UX} {nt : Nat} {s : AS}
def AWpM (P : Program) (w0 : World) (U0 : UX) (nt : Nat) (c : Code) (Q : Exit → AS → Nat → Prop) (s : AS) : Prop :=
  ∀ a w, Sim w0 U0 nt s a w → c.wpIn Fence.wide 1 P (fun e a' w' => ∃ s' a'' g, Q e s' g ∧ Sim w0 U0 nt s' a'' w' ∧ a' = wdA a'' [⟨.collected g, #[]⟩] ∧ look s' 299999 = some (.ob g 0)) a w
end
section
variable {P : Program} {w0 : World} {U0 : UX} {nt : Nat} {ops : Array Oper} {o : Oper} {S : Nat → Option AV} {gs : List Nat} {d : Nat} {s : AS} {a : Act} {w : World} {D : Nat → Nat → Prop} {hv : Nat → Value}
end
def HandsV {α : Type} (P : Program) (gf : Nat) (caps : List CV) (m : Nat) (encC : α → List CV) (xs : List α) : Prop :=
  ∀ (w : World) (lb : List Value) (R : Nat → Nat → Prop), VReps R w caps lb → ∃ vals : Nat → List Value, (∀ k, (vals k).length = m) ∧ (∀ k x, xs[k]? = some x → VReps R w (encC x) (vals k)) ∧
    Gives P gf lb.toArray (fun k => (vals k).toArray) (fun pre k _ => k = pre.length ∧ k < xs.length) (KpX w.heap.size fun b => ¬ ∃ o, R b o) (fun ys => ys = List.range xs.length) w
section
variable {P : Program} {w0 : World} {U0 : UX} {nt : Nat} {s : AS}
end
end Go.Proofs.YtmeegdomncadpaaGreat
namespace Go.Proofs.YtmeegdomncadpaaGreat
open Go.RowKit Go.MapKept
open Go.ChangeMaps (setBlock)
set_option linter.unusedVariables false
set_option linter.unusedSimpArgs false
section
variable {P : Program} {w0 : World} {U0 : UX} {nt : Nat} {ops : Array Oper} {o : Oper} {S : Nat → Option AV} {gs : List Nat} {d : Nat} {s : AS} {a : Act} {w : World} {D : Nat → Nat → Prop} {hv : Nat → Value}

abbrev AV.stm (l : List CV) (b clock : Nat) (bs : List Nat) : AV := ⟨22, .lst l, 0, 0, b :: clock :: bs⟩
abbrev AV.itr (b since c0 : Nat) (seen : List Nat) : AV := ⟨21, .row [], 0, 0, b :: since :: c0 :: seen⟩

end
end Go.Proofs.YtmeegdomncadpaaGreat
namespace Go.Proofs.YtmeegdomncadpaaGreat
open Go.RowKit Go.MapKept
set_option linter.unusedVariables false
set_option linter.unusedSimpArgs false
set_option maxRecDepth 100000
section
variable {P : Program} {w0 : World} {U0 : UX} {nt : Nat} {ops : Array Oper} {o : Oper} {S : Nat → Option AV} {gs : List Nat} {d : Nat} {s : AS} {a : Act} {w : World} {D : Nat → Nat → Prop} {hv : Nat → Value}
theorem vrep_zT {U : Nat → Nat → Prop} {w : World} {v : Value} {et : TypeId} (hz2 : (P.info? et).map (·.zero) = some (some (.agg #[.int .i64 0, .slice none 0 0]))) (hr : Rep U w (.row [.i 0, .lst []]) v.cells.toList) (hh : ∃ it, P.info? et = some it ∧ it.zero = some v) : VRep U w (.row [.i 0, .lst []]) v := by
  obtain ⟨it, h1, h2⟩ := hh
  rw [h1, Option.map_some, h2] at hz2
  injection hz2 with hz2
  injection hz2 with hz2
  subst hz2
  exact ⟨_, rfl, hr⟩
end
end Go.Proofs.YtmeegdomncadpaaGreat
namespace Go.Proofs.YtmeegdomncadpaaGreat
open Go.RowKit Go.MapKept
set_option linter.unusedVariables false
set_option linter.unusedSimpArgs false
def QUp (q : (Nat → Nat → Prop) → World → Prop) : Prop := ∀ (U V : Nat → Nat → Prop) (w w' : World), q U w → Below w.heap.size w w' → (∀ b o, b < w.heap.size → U b o → V b o) → q V w'
def AFunQ (P : Program) (q : (Nat → Nat → Prop) → World → Prop) (f : FuncId) (args : List CV) (r : AV) : Prop :=
  EntF P f ∧ (r.t = 0 ∨ r.t = 4) ∧ r.n = 0 ∧ ∀ (U : Nat → Nat → Prop) (w : World) (vs : List Value), q U w → VReps U w args vs →
    Calls P f vs.toArray w fun e w' => ∃ v, e = .returned v ∧ RR (fun b o => U b o ∨ w.heap.size ≤ b) w' r v ∧ Below w.heap.size w w'
def AFunVQ (P : Program) (q : (Nat → Nat → Prop) → World → Prop) (fc : CV) (args : List CV) (r : AV) : Prop := ∃ f n l, fc = .fn f n l ∧ AFunQ P q f (l.take n ++ (args ++ l.drop n)) r

section
variable {P : Program} {w0 : World} {U0 : UX} {nt : Nat} {ops : Array Oper} {o : Oper} {S : Nat → Option AV} {gs : List Nat} {d : Nat} {s : AS} {a : Act} {w : World} {D : Nat → Nat → Prop} {hv : Nat → Value} {q : (Nat → Nat → Prop) → World → Prop}

theorem SimG.atQ {W : World} (h : SimG w0 U0 nt s a w D hv) (hQ : QUp q) (hW : Hw W w0 U0) (hq : q U0.m w0) : q (Us w0 U0 D) w :=
  hQ _ _ _ _ hq (h.below.below hW.2) fun b o hb hu => .inl ⟨hb, hu, hW.2 b⟩

theorem a_callQ {W : World} (hQ : QUp q) (hW : Hw W w0 U0) (hq : q U0.m w0) {f : FuncId} {xs : Array Operand} {ts : Array TypeId} {cs : List CV} {r : AV} (hg : Gd w0 U0 nt ops o gs S) (hd : o.dst = some d) (hn : Nat.blt d nt = true) (h5 : Nat.blt d 100000 = true)
    (ho : o.op = .call { callee := .value (.func f), args := xs, argTypes := ts }) (hx : evsO S xs.toList = some cs) (hc : AFunQ P q f cs r) : AOp P w0 U0 nt ops o (gs ++ rdl xs.toList) [] S [(d, r)] := by
  intro s hs _ a w ⟨D, hv, h⟩ Q K hK
  rw [if_pos (hg s (fun k hk => hs k (List.mem_append_left _ hk)) a w D hv h)]
  have hargs := evsO_rep h (fun k hk => hs k (List.mem_append_right _ hk)) hx
  obtain ⟨h1, h2, h3, h4⟩ := hc
  have hcall := h4 _ w _ (h.atQ hQ hW hq) hargs
  have he : (execOp a.eval o).run P w = .ok (.enter f (xs.toList.map a.eval).toArray) w := by
    have hf : a.eval (.func f) = .func (.func f) #[] #[] := rfl
    have hen := h1 (xs.map a.eval) w
    have harr : (xs.toList.map a.eval).toArray = xs.map a.eval := by apply Array.ext'; simp
    rw [harr]
    generalize a.eval = ρ at hf hen ⊢
    simp [execOp, ho, resolve, invoke, Deferred.ofValue, hf, hen]
  unfold Oper.wp
  rw [he, Oper.upon_enter]
  refine hcall.mono ?_
  rintro e w' ⟨v, rfl, h6, h7⟩
  rw [hd]
  refine hK _ _ ⟨Dn D w w', hv, (h.growN h7).put (bL hn) (bL h5) (avrep_rr h2 h3 (us_of_rr rfl h7.size h.below.size h6))⟩

theorem a_callvQ {W : World} (hQ : QUp q) (hW : Hw W w0 U0) (hq : q U0.m w0) {x : Operand} {xs : Array Operand} {ts : Array TypeId} {fc : CV} {cs : List CV} {r : AV} {n q' p} (hg : Gd w0 U0 nt ops o gs S) (hd : o.dst = some d) (hn : Nat.blt d nt = true) (h5 : Nat.blt d 100000 = true)
    (ho : o.op = .call { callee := .value x, args := xs, argTypes := ts }) (hf : ev S x = some ⟨0, fc, n, q', p⟩) (hx : evsO S xs.toList = some cs) (hc : AFunVQ P q fc cs r) : AOp P w0 U0 nt ops o (gs ++ (rd x ++ rdl xs.toList)) [] S [(d, r)] := by
  intro s hs _ a w ⟨D, hv, h⟩ Q K hK
  rw [if_pos (hg s (fun k hk => hs k (List.mem_append_left _ hk)) a w D hv h)]
  have hargs := evsO_rep h (fun k hk => hs k (List.mem_append_right _ (List.mem_append_right _ hk))) hx
  have hfv := ev_val h (fun k hk => hs k (List.mem_append_right _ (List.mem_append_left _ hk))) hf
  obtain ⟨f, m, l, rfl, h1, h2, h3, h4⟩ := hc
  obtain ⟨ys, zs, e1, e2, e3, e4⟩ := vrep_fn.1 hfv
  obtain ⟨s1, s2⟩ := VReps.split (sq_vreps e4 e3)
  rw [e2] at s1 s2
  have hcall := h4 _ w _ (h.atQ hQ hW hq) (s1.append (hargs.append s2))
  have he : (execOp a.eval o).run P w = .ok (.enter f (ys ++ (xs.toList.map a.eval ++ zs)).toArray) w := by
    have hen := h1 (ys.toArray ++ (xs.map a.eval ++ zs.toArray)) w
    have harr : (ys ++ (xs.toList.map a.eval ++ zs)).toArray = ys.toArray ++ (xs.map a.eval ++ zs.toArray) := by apply Array.ext'; simp
    rw [harr]
    generalize a.eval = ρ at e1 hen ⊢
    simp [execOp, ho, resolve, invoke, Deferred.ofValue, e1, hen]
  unfold Oper.wp
  rw [he, Oper.upon_enter]
  refine hcall.mono ?_
  rintro e w' ⟨v, rfl, h6, h7⟩
  rw [hd]
  refine hK _ _ ⟨Dn D w w', hv, (h.growN h7).put (bL hn) (bL h5) (avrep_rr h2 h3 (us_of_rr rfl h7.size h.below.size h6))⟩

def MapQ (b g : Nat) (l : List CV) (U : Nat → Nat → Prop) (w : World) : Prop :=
  w.cell? ⟨b, 0, none⟩ = some (.map (some g)) ∧ ∃ es clock, w.heap[g]? = some (.map es clock) ∧ Ents U w l es.toList
theorem mapQ_up (b g : Nat) (l : List CV) : QUp (MapQ b g l) := by
  rintro U V w w' ⟨h1, es, clock, h2, h3⟩ hb hU
  have hcell : ∀ (b o : Nat) (v : Value), w.cell? ⟨b, o, none⟩ = some v → b < w.heap.size ∧ w'.cell? ⟨b, o, none⟩ = some v := fun b o v hc => by
    have hlt := World.block_lt_of_cell? w _ hc
    refine ⟨hlt, ?_⟩
    have := hb.block b hlt
    simp only [World.cell?] at hc ⊢
    rw [this]
    exact hc
  have hg : g < w.heap.size := by
    rcases Nat.lt_or_ge g w.heap.size with h | h
    · exact h
    · rw [Array.getElem?_eq_none h] at h2; cases h2
  exact ⟨(hcell _ _ _ h1).2, es, clock, by rw [hb.block g hg]; exact h2, h3.keep fun b o v hu hc => ⟨hU b o (hcell b o v hc).1 hu, (hcell b o v hc).2⟩⟩

theorem a_loadQ {W : World} {b g : Nat} {l : List CV} (hW : Hw W w0 U0) (hq : MapQ b g l U0.m w0) (hg : Gd w0 U0 nt ops o gs S) (hd : o.dst = some d) (hn : Nat.blt d nt = true) (h5 : Nat.blt d 100000 = true) {x : Operand} {ty : TypeId} {ds : TypeDesc} {n q p} (ho : o.op = .load ty x) (hu : P.underlying ty = some ds) (hi : (P.info? ty).map (·.size) = some 1) (hx : ev S x = some ⟨0, .sc (.pointer (some ⟨b, 0, none⟩)), n, q, p⟩) (hk : aggB ds = false) : AOp P w0 U0 nt ops o (gs ++ rd x) [] S [(d, .val (.sc (.map (some g))))] :=
  aop_val hg hd hn h5 (fun k hk => List.mem_append_left _ hk) fun s hs a w D hv hm => by
    have h1 := ev_sc hm (fun k hk => hs k (List.mem_append_right _ hk)) hx
    obtain ⟨h2, _⟩ := hm.atQ (mapQ_up b g l) hW hq
    obtain ⟨v, h4, h6, _⟩ := run_loadTree (c := .sc (.map (some g))) (U := Us w0 U0 D) (w := w) (b := b) (off := 0) (xs := [.map (some g)]) hu hi hk rfl (rep_sc.2 ⟨rfl, rfl⟩) (fun i hi => by
      have : i = 0 := by simp at hi; omega
      subst this
      exact h2)
    refine ⟨v, ?_, avrep_val h6⟩
    generalize a.eval = ρ at h1 ⊢
    simp [execOp, ho, Instr.loadAt, Instr.sureAddr, h1, h4]

theorem a_lookupQ {W : World} {b g : Nat} {l : List CV} (hW : Hw W w0 U0) (hq : MapQ b g l U0.m w0) (hg : Gd w0 U0 nt ops o gs S) (hd : o.dst = some d) (hn : Nat.blt d nt = true) (h5 : Nat.blt d 100000 = true) {x y : Operand} {t kt et : TypeId} {k : IntKind} {i : Int} {n0 q0 p0 n' q' p'} (ho : o.op = .lookup t x y true) (hu : P.underlying t = some (.map kt et)) (huk : P.underlying kt = some (.int k)) (hz2 : (P.info? et).map (·.zero) = some (some (.agg #[.int .i64 0, .slice none 0 0]))) (hzc : zeroT P et = some (.row [.i 0, .lst []])) (hx : ev S x = some ⟨0, .sc (.map (some g)), n0, q0, p0⟩) (hy : ev S y = some ⟨0, .sc (.int k i), n', q', p'⟩) (hik : IntKeys k l) {r : Option CV} (hlr : lookR k i l = r) : AOp P w0 U0 nt ops o (gs ++ (rd x ++ rd y)) [] S [(d, .tup [r.getD (.row [.i 0, .lst []]), .b r.isSome])] :=
  aop_val hg hd hn h5 (fun k hk => List.mem_append_left _ hk) fun s hs a w D hv hm => by
    have h1 := ev_sc hm (fun k hk => hs k (List.mem_append_right _ (List.mem_append_left _ hk))) hx
    have e2 := ev_sc hm (fun k hk => hs k (List.mem_append_right _ (List.mem_append_right _ hk))) hy
    subst hlr
    obtain ⟨_, es, clock, g2, g3⟩ := hm.atQ (mapQ_up b g l) hW hq
    obtain ⟨it, zv, i1, i2, i3⟩ := zeroT_spec hzc
    have hck := run_checkKey (P := P) (w := w) huk (k := .int k i) rfl es.isEmpty 9999
    have hge := Go.MapKept.run_getObj_map (P := P) g2
    rcases find_spec 0 g3 hik (i := i) with ⟨f1, f2⟩ | ⟨j, e, c, f1, f2, f3, f4, f5, f6⟩
    · have hfk := run_findKey (P := P) (w := w) huk f1
      have hzv : (zeroValue et).run P w = .ok zv w := by simp [zeroValue, typeInfo, i1, i2]
      refine ⟨.tuple #[zv, .bool false], ?_, ?_⟩
      · generalize a.eval = ρ at h1 e2 ⊢
        simp [execOp, ho, Instr.lookup, run_underlying hu, h1, e2, hge, hck, hfk, hzv]
      · rw [f2]
        have hr := i3 (Us w0 U0 D) w
        exact ⟨[zv, .bool false], rfl, zv, [.bool false], rfl, vrep_zT hz2 hr ⟨it, i1, i2⟩, .bool false, [], rfl, vrep_sc.2 ⟨rfl, rfl⟩, rfl⟩
    · have hfk := run_findKey (P := P) (w := w) huk f1
      refine ⟨.tuple #[e.val, .bool true], ?_, ?_⟩
      · generalize a.eval = ρ at h1 e2 ⊢
        simp [execOp, ho, Instr.lookup, run_underlying hu, h1, e2, hge, hck, hfk]
      · rw [f6]
        exact ⟨[e.val, .bool true], rfl, e.val, [.bool true], rfl, f4, .bool true, [], rfl, vrep_sc.2 ⟨rfl, rfl⟩, rfl⟩

theorem afunQ_of {f : FuncId} {fn : Func} {c : Code} {args rs : List CV} (hf : P.funcs[f]? = some fn) (hn : fn.ntmps = nt) (hname : (fn.name == "runtime.NumGoroutine") = false) (hb : fn.body = some c) (hl : Nat.ble args.length nt = true) (hnt : Nat.blt nt 100000 = true)
    (h : ∀ (w : World) (U : UX), Hw w w U → q U.m w → AWp P w U nt c (fun e s' => (e = .normal ∨ e = .ret) ∧ resO P s' fn.results.toList = some rs) (argS args 0)) : AFunQ P q f args (resAV rs) := by
  have hr2 : ((resAV rs).t = 0 ∨ (resAV rs).t = 4) ∧ (resAV rs).n = 0 := by
    unfold resAV
    split
    · exact ⟨.inl rfl, rfl⟩
    · exact ⟨.inr rfl, rfl⟩
  refine ⟨ent_of hf hname (by rw [hb]; rfl), hr2.1, hr2.2, fun U w vs hq hargs => ?_⟩
  have hlen := hargs.len
  refine calls_of_wp hf hb ?_
  have hle := Nat.le_of_ble_eq_true hl
  have hnt := bL hnt
  have hno : ∀ {k av}, 100000 ≤ k → look (argS args 0) k = some av → False := fun {k av} h1 h2 => by rw [argS_none (by omega)] at h2; cases h2
  obtain ⟨V, hV⟩ : ∃ V : UX, V = ⟨U, fun _ => False, fun _ => none, fun _ _ h => by cases h⟩ := ⟨_, rfl⟩
  have hs : Sim w V nt (argS args 0) { tmps := vs.toArray ++ Array.replicate (fn.ntmps - vs.toArray.size) undef, defers := [] } w := by
    refine ⟨fun _ _ => False, fun _ => .slice none 0 0, BelowX.refl _ _, rfl, by simp [hn]; omega, fun d av h1 h2 => ?_, fun n o av h1 => (hno (by unfold fKey; omega) h1).elim, fun n o o' av av' h1 => (hno (by unfold fKey; omega) h1).elim, fun k av h1 h2 => (hno h2.1 h1).elim, fun k av g h1 h2 => (hno h2.1 h1).elim, fun k k' av av' g h1 h2 h3 => (hno h3.1 h1).elim, fun n g h1 => (by rw [hV] at h1; cases h1), fun b o hd => hd.elim⟩
    obtain ⟨_, c', h3, rfl⟩ := look_argS h1
    rw [Nat.sub_zero] at h3
    obtain ⟨v, h4, h5⟩ := hargs.at h3
    have hdl : d < vs.length := by
      rcases Nat.lt_or_ge d vs.length with h | h
      · exact h
      · rw [List.getElem?_eq_none h] at h4; cases h4
    refine ⟨v, ?_, avrep_val (h5.keep fun b o v hu hc => ⟨.inl ⟨World.block_lt_of_cell? w _ hc, by rw [hV]; exact ⟨hu, fun h => h⟩⟩, hc⟩)⟩
    rw [Array.getElem?_append_left (by simpa using hdl)]
    simpa using h4
  refine wp_mono ((h w V (by rw [hV]; exact ⟨fun _ => rfl, fun _ h => h⟩) (by rw [hV]; exact hq) ⟨none, []⟩ _ w hs).wp rfl (fun e a w ⟨s, _, h⟩ => h.df)) ?_
  rintro e a' w' ⟨s', ⟨h1, h2⟩, D, hv, h3⟩
  obtain ⟨v, h4, h5⟩ := res_run h3 h2
  have hR : RR (fun b o => U b o ∨ w.heap.size ≤ b) w' (resAV rs) v := by
    have hk : ∀ b o u, Us w V D b o → w'.cell? ⟨b, o, none⟩ = some u → (U b o ∨ w.heap.size ≤ b) ∧ w'.cell? ⟨b, o, none⟩ = some u := fun b o u hu hc => ⟨hu.imp (fun h => by rw [hV] at h; exact h.2.1) fun h => h.1, hc⟩
    unfold RR at h5 ⊢
    split
    · rename_i ht
      rw [if_pos ht] at h5
      obtain ⟨vs, h6, h7⟩ := h5
      exact ⟨vs, h6, h7.keep hk⟩
    · rename_i ht
      rw [if_neg ht] at h5
      exact h5.keep hk
  have hbw : Below w.heap.size w w' := h3.below.below (by rw [hV]; exact fun _ h => h)
  rcases h1 with rfl | rfl
  · exact ⟨h3.dfr, v, h4, v, rfl, hR, hbw⟩
  · exact ⟨h3.dfr, v, h4, v, rfl, hR, hbw⟩
end
end Go.Proofs.YtmeegdomncadpaaGreat
namespace Go.Proofs.YtmeegdomncadpaaGreat
open Go.RowKit
set_option linter.unusedVariables false
set_option linter.unusedSimpArgs false
set_option maxRecDepth 100000
noncomputable def imR (b : Bd) : CV := .row [.sc (.int .i64 b.v), b.t.cw]
theorem imR_keys (L : List Bd) : IntKeys .i64 (L.map imR) := fun r hr => by
  obtain ⟨b, _, rfl⟩ := List.mem_map.1 hr
  exact ⟨_, _, rfl⟩
theorem imR_look (v : Int) : ∀ L : List Bd, lookR .i64 v (L.map imR) = (findB L v).map Tm.cw
  | [] => rfl
  | b :: L => by
    rw [List.map_cons]
    unfold imR
    rw [lookR_row, findB]
    by_cases h : b.v = v
    · rw [if_pos h, if_pos h]; rfl
    · rw [if_neg h, if_neg h]; exact imR_look v L

-- 
theorem imgQ_abs (b g : Nat) (L : List Bd) (v : Int) (h1 : 0 ≤ v) (h2 : v ≤ 9223372036854775807) : AFunQ Tryz.prog (MapQ b g (L.map imR)) 110 [.i v, .sc (.pointer (some ⟨b, 0, none⟩))] (.val (imgB L v).cw) := by
  refine afunQ_of (rs := [(imgB L v).cw]) Tryz.func110 Tryz.ntmps110 rfl rfl rfl rfl ?_
  intro w U hW hq
  have hQ := mapQ_up b g (L.map imR)
  have hlk := imR_look v L
  refine aS (aR ?_)
  (refine nx (a_alloc (gN rfl) rfl rfl rfl rfl rfl rfl rfl rfl rfl rfl) rfl ?_)
  show AWp _ _ _ _ _ _ _
  unfold imgB
  cases hf : findB L v with
  | none =>
    rw [hf] at hlk
    refine aS (aS (aR ?_))
    (refine nx (a_loadQ hW hq (gN rfl) rfl rfl rfl rfl rfl rfl rfl rfl) rfl ?_)
    (refine nx (aM (gN rfl) rfl rfl rfl rfl rfl) rfl ?_)
    (refine nx (a_lookupQ hW hq (gN rfl) rfl rfl rfl rfl rfl rfl rfl rfl rfl rfl (imR_keys _) (hlk)) rfl ?_)
    (refine nx (aM (gN rfl) rfl rfl rfl rfl rfl) rfl ?_)
    (refine nx (aX (gN rfl) rfl rfl rfl rfl rfl rfl) rfl ?_)
    (refine nx (aX (gN rfl) rfl rfl rfl rfl rfl rfl) rfl ?_)
    (refine nx (a_alloc (gN rfl) rfl rfl rfl rfl rfl rfl rfl rfl rfl rfl) rfl ?_)
    (refine nx (aSt (gN rfl) rfl rfl rfl rfl rfl rfl rfl rfl rfl rfl) rfl ?_)
    (refine nx (aA (gN rfl) rfl rfl rfl rfl rfl) rfl ?_)
    show AWp _ _ _ _ _ _ _
    refine aS (aR ?_)
    (refine nx (aM (gN rfl) rfl rfl rfl rfl rfl) rfl ?_)
    show AWp _ _ _ _ _ _ _
    refine aC rfl (fun hc => ?_) (fun hc => ?_)
    · cases hc
    · refine aK ?_
      show AWp _ _ _ _ _ _ _
      refine aS (aR ?_)
      (refine nx (aM (gN rfl) rfl rfl rfl rfl rfl) rfl ?_)
      (refine nx (a_call (gN rfl) rfl rfl rfl rfl rfl (sVariable_abs w v h1 h2)) rfl ?_)
      (refine nx (aSt (gN rfl) rfl rfl rfl rfl rfl rfl rfl rfl rfl rfl) rfl ?_)
      show AWp _ _ _ _ _ _ _
      exact aT (And.intro (.inr rfl) rfl)
  | some t =>
    rw [hf] at hlk
    refine aS (aS (aR ?_))
    (refine nx (a_loadQ hW hq (gN rfl) rfl rfl rfl rfl rfl rfl rfl rfl) rfl ?_)
    (refine nx (aM (gN rfl) rfl rfl rfl rfl rfl) rfl ?_)
    (refine nx (a_lookupQ hW hq (gN rfl) rfl rfl rfl rfl rfl rfl rfl rfl rfl rfl (imR_keys _) (hlk)) rfl ?_)
    (refine nx (aM (gN rfl) rfl rfl rfl rfl rfl) rfl ?_)
    (refine nx (aX (gN rfl) rfl rfl rfl rfl rfl rfl) rfl ?_)
    (refine nx (aX (gN rfl) rfl rfl rfl rfl rfl rfl) rfl ?_)
    (refine nx (a_alloc (gN rfl) rfl rfl rfl rfl rfl rfl rfl rfl rfl rfl) rfl ?_)
    (refine nx (aSt (gN rfl) rfl rfl rfl rfl rfl rfl rfl rfl rfl rfl) rfl ?_)
    (refine nx (aA (gN rfl) rfl rfl rfl rfl rfl) rfl ?_)
    show AWp _ _ _ _ _ _ _
    refine aS (aR ?_)
    (refine nx (aM (gN rfl) rfl rfl rfl rfl rfl) rfl ?_)
    show AWp _ _ _ _ _ _ _
    refine aC rfl (fun hc => ?_) (fun hc => ?_)
    · refine aS (aR ?_)
      (refine nx (aL (gN rfl) rfl rfl rfl rfl rfl rfl rfl rfl rfl rfl rfl rfl) rfl ?_)
      (refine nx (aSt (gN rfl) rfl rfl rfl rfl rfl rfl rfl rfl rfl rfl) rfl ?_)
      show AWp _ _ _ _ _ _ _
      exact aT (And.intro (.inr rfl) rfl)
    · cases hc

-- 
theorem replaceQ_abs {q : (Nat → Nat → Prop) → World → Prop} (hQ : QUp q) (fc : CV) (img : Int → Tm) (hI : ∀ v, 0 ≤ v → v ≤ 9223372036854775807 → AFunVQ Tryz.prog q fc [.i v] (.val (img v).cw) ∧ (img v).rng ∧ (img v).size ≤ 90000000000) : ∀ t : Tm, t.rng → t.ok → AFunQ Tryz.prog q 83 [t.cw, fc] (.val (repT img t).cw) := by
  intro t
  induction t using Tm.ind with
  | h f l ih =>
  intro hr hok
  have hok := (Tm.ok_iff _).1 hok
  have hr := (Tm.rng_iff _).1 hr
  simp only at hok hr
  have hsz := Tm.size_all l
  refine afunQ_of (rs := [(repT img ⟨f, l⟩).cw]) Tryz.func83 Tryz.ntmps83 rfl rfl rfl rfl ?_
  intro w U hW hq
  refine aS (aR ?_)
  (refine nx (a_box (gN rfl) rfl rfl rfl rfl rfl) rfl ?_)
  (refine nx (a_alloc (gN rfl) rfl rfl rfl rfl rfl rfl rfl rfl rfl rfl) rfl ?_)
  show AWp _ _ _ _ _ _ _
  refine aS (aS (aR ?_))
  (refine nx (aL (gN rfl) rfl rfl rfl rfl rfl rfl rfl rfl rfl rfl rfl rfl) rfl ?_)
  (refine nx (a_call (gN rfl) rfl rfl rfl rfl rfl (sIsVar_abs w ⟨f, l⟩)) rfl ?_)
  show AWp _ _ _ _ _ _ _
  refine aC rfl (fun hc => ?_) (fun hc => ?_)
  · have hf : f < 0 := by simpa using hc
    rw [repT_var hf]
    obtain ⟨i1, i2, i3⟩ := hI (-1 - f) (by omega) (by omega)
    refine aS (aR ?_)
    (refine nx (aM (gN rfl) rfl rfl rfl rfl rfl) rfl ?_)
    (refine nx (aL (gN rfl) rfl rfl rfl rfl rfl rfl rfl rfl rfl rfl rfl rfl) rfl ?_)
    (refine nx (a_call (gN rfl) rfl rfl rfl rfl rfl (sNumber_abs w ⟨f, l⟩ hr.1.1 hf)) rfl ?_)
    (refine nx (a_callvQ hQ hW hq (gN rfl) rfl rfl rfl rfl rfl rfl (i1)) rfl ?_)
    (refine nx (a_call (gN rfl) rfl rfl rfl rfl rfl (clone_abs w i2 i3)) rfl ?_)
    (refine nx (aSt (gN rfl) rfl rfl rfl rfl rfl rfl rfl rfl rfl rfl) rfl ?_)
    show AWp _ _ _ _ _ _ _
    exact aT (And.intro (.inr rfl) rfl)
  · have hf : ¬ f < 0 := by simpa using hc
    rw [repT_sym hf]
    refine aK ?_
    show AWp _ _ _ _ _ _ _
    refine aS (aR ?_)
    (refine nx (aA (gN rfl) rfl rfl rfl rfl rfl) rfl ?_)
    show AWp _ _ _ _ _ _ _
    refine aS (aS (aR ?_))
    (refine nx (aF (gN rfl) rfl rfl rfl rfl rfl rfl rfl rfl rfl) rfl ?_)
    (refine nx (aLb (gN rfl) rfl rfl rfl rfl rfl rfl rfl rfl rfl rfl rfl rfl) rfl ?_)
    (refine nx (a_len (gN rfl) rfl rfl rfl rfl rfl rfl rfl) rfl ?_)
    (refine nx (aM (gN rfl) rfl rfl rfl rfl rfl) rfl ?_)
    show AWp _ _ _ _ _ _ _
    refine aB (awp_count l.length (fun k => [(1, .val fc), (2, .bp 2 0 []), (100002, .bx (Tm.cw ⟨f, l⟩)), (4, .bp 4 0 []), (100004, ⟨5, .row [.i 0, .lst []], 1, 0, [1]⟩), (5, .own (.lst ((l.take k).map fun t => (repT img t).cv)) 200027), (200027, .tok 61 2), (16, .val (.lst (l.map Tm.cv))), (17, .val (.i (l.map Tm.cv).length)), (18, .val (.i k))])
      ((wk_nil 5 200027 61 2 rfl rfl rfl rfl rfl rfl rfl).trans (wk_sub ⟨rfl, rfl, rfl, rfl, rfl, rfl, rfl, rfl, rfl, rfl, trivial⟩)) ?_)
    intro k hk
    refine aS (aR ?_)
    (refine nx (a_lss (gN rfl) rfl rfl rfl rfl rfl rfl) rfl ?_)
    show AWp _ _ _ _ _ _ _
    refine aS (aC rfl (fun hc => ?_) (fun hc => ?_))
    · have hkl : k < l.length := by
        simp only [List.length_map, decide_eq_true_eq] at hc
        omega
      obtain ⟨t, ht⟩ : ∃ t, l[k]? = some t := ⟨l[k], List.getElem?_eq_getElem hkl⟩
      have ht' := Tm.map_at ht
      have htm := List.mem_of_getElem? ht
      have hsz2 : ∀ c ∈ (l.take k).map fun t => (repT img t).cv, c.size = 2 := by
        intro c hc
        obtain ⟨t, _, rfl⟩ := List.mem_map.1 hc
        exact Tm.size_cv _
      refine aK ?_
      show AWp _ _ _ _ _ _ _
      refine aS (aB (aS (aR ?_)))
      (refine nx (a_index (gN rfl) rfl rfl rfl rfl rfl rfl rfl rfl rfl (by assumption) rfl (by first | assumption | exact sZ rfl | exact Tm.size_all _ | exact Bd.size_all _ | exact ints_size _ | exact bys_size _ | exact Lt.size_all _)) rfl ?_)
      (refine nx (a_load_ad (gN rfl) rfl rfl rfl rfl rfl rfl rfl rfl rfl) rfl ?_)
      (refine nx (a_alloc (gN rfl) rfl rfl rfl rfl rfl rfl rfl rfl rfl rfl) rfl ?_)
      (refine nx (aSt (gN rfl) rfl rfl rfl rfl rfl rfl rfl rfl rfl rfl) rfl ?_)
      show AWp _ _ _ _ _ _ _
      refine aR ?_
      (refine nx (aM (gN rfl) rfl rfl rfl rfl rfl) rfl ?_)
      (refine nx (aL (gN rfl) rfl rfl rfl rfl rfl rfl rfl rfl rfl rfl rfl rfl) rfl ?_)
      (refine nx (aM (gN rfl) rfl rfl rfl rfl rfl) rfl ?_)
      (refine nx (a_callQ hQ hW hq (gN rfl) rfl rfl rfl rfl rfl (ih t htm (hr.2 t htm) (hok.2 t htm))) rfl ?_)
      (refine nx (a_bslice (gN rfl) rfl rfl rfl rfl rfl rfl rfl rfl rfl rfl rfl rfl rfl) rfl ?_)
      (refine nx (a_app (gN rfl) rfl rfl rfl rfl rfl rfl rfl rfl rfl rfl rfl rfl rfl rfl rfl (by first | assumption | exact sZ rfl | exact Tm.size_all _ | exact Bd.size_all _ | exact ints_size _ | exact bys_size _ | exact Lt.size_all _) (by first | assumption | exact sZ rfl | exact Tm.size_all _ | exact Bd.size_all _ | exact ints_size _ | exact bys_size _ | exact Lt.size_all _) (by first | omega | (simp only [List.length_map, List.length_append, List.length_cons, List.length_nil] <;> omega) | (simp <;> omega))) rfl ?_)
      (refine nx (aA (gN rfl) rfl rfl rfl rfl rfl) rfl ?_)
      show AWp _ _ _ _ _ _ _
      refine aR ?_
      (refine nx (a_add (gN rfl) rfl rfl rfl rfl rfl rfl (by first | omega | (simp only [List.length_map, List.length_append, List.length_cons, List.length_nil] <;> omega) | (simp <;> omega))) rfl ?_)
      (refine nx (aM (gN rfl) rfl rfl rfl rfl rfl) rfl ?_)
      refine ⟨hkl, Wk.trans (wk_sub (s' := [(1, .val fc), (2, .bp 2 0 []), (100002, .bx (Tm.cw ⟨f, l⟩)), (4, .bp 4 0 []), (100004, ⟨5, .row [.i 0, .lst []], 1, 0, [1]⟩), (5, .own (.lst ((l.take (k + 1)).map fun t => (repT img t).cv)) 300027), (300027, .tok 61 2), (16, .val (.lst (l.map Tm.cv))), (17, .val (.i (l.map Tm.cv).length)), (18, .val (.i ((k + 1 : Nat) : Int)))]) ⟨rfl, rfl, rfl, rfl, rfl, ?_, rfl, rfl, rfl, rfl, trivial⟩) (wk_ren 300027 200027 rfl rfl rfl rfl)⟩
      rw [List.take_add_one, ht, List.map_append]
      simp only [Option.toList_some, List.map_cons, List.map_nil, Tm.cv_eq]
      rfl
    · have hkl : k = l.length := by
        simp only [List.length_map, decide_eq_false_iff_not] at hc
        omega
      subst hkl
      rw [List.take_length]
      refine aE ?_
      show AWp _ _ _ _ _ _ _
      refine aS (aR ?_)
      (refine nx (aF (gN rfl) rfl rfl rfl rfl rfl rfl rfl rfl rfl) rfl ?_)
      (refine nx (aLb (gN rfl) rfl rfl rfl rfl rfl rfl rfl rfl rfl rfl rfl rfl) rfl ?_)
      (refine nx (aM (gN rfl) rfl rfl rfl rfl rfl) rfl ?_)
      (refine nx (a_build (gN rfl) rfl rfl rfl rfl rfl rfl rfl rfl rfl rfl rfl) rfl ?_)
      (refine nx (aSt (gN rfl) rfl rfl rfl rfl rfl rfl rfl rfl rfl rfl) rfl ?_)
      show AWp _ _ _ _ _ _ _
      refine aT (And.intro (.inr rfl) ?_)
      unfold Tm.cw
      rw [List.map_map]
      rfl
end Go.Proofs.YtmeegdomncadpaaGreat
namespace Go.Proofs.YtmeegdomncadpaaGreat
open Go.RowKit Go.MapKept Go.Shelf
set_option linter.unusedVariables false
set_option linter.unusedSimpArgs false
attribute [local go_sem] Oper.semAt_some

set_option maxRecDepth 100000 in
set_option maxHeartbeats 2000000 in
theorem backB_in (l Bb ob n : Nat) (c0 c1 c2 : Nat → Value) (R : Nat → Nat → Prop) (w : World) (ao : Option Addr) (cap : Nat) (hbox : w.cell? ⟨Bb, ob, none⟩ = some (.slice ao n cap)) (hRb : R Bb ob) (hat : ∀ i, i < n → ∃ b off, ao = some ⟨b, off, none⟩ ∧ (R b (off + i * 3) ∧ w.cell? ⟨b, off + i * 3, none⟩ = some (c0 i)) ∧ (R b (off + i * 3 + 1) ∧ w.cell? ⟨b, off + i * 3 + 1, none⟩ = some (c1 i)) ∧ (R b (off + i * 3 + 2) ∧ w.cell? ⟨b, off + i * 3 + 2, none⟩ = some (c2 i))) (hl : n ≤ 1000000000)
    (J : List Nat → World → Prop) (hJ : ∀ pre A B, J pre A → Below A.heap.size A B → J pre B)
    (hY : ∀ pre (x : Nat) V, J pre V → x = pre.length ∧ x < n → YieldAt Fence.wide 1 Tryz.prog l #[.int .i64 ((n : Int) - 1 - x), .agg #[c0 (n - 1 - x), c1 (n - 1 - x), c2 (n - 1 - x)]] V fun e V' => e = .returned (.bool true) ∧ J (pre ++ [x]) V' ∧ KpX w.heap.size (fun b => ¬ ∃ o, R b o) V V')
    (W : World) (hW : Below w.heap.size w W) (h0 : J [] W) :
    CallsIn Fence.wide 2 Tryz.prog 144 #[.func (.yield l) #[] #[], .pointer (some ⟨Bb, ob, none⟩)] W fun e W' => (∃ v, e = .returned v) ∧ ∃ ys, ys = List.range n ∧ J ys W' := by
  have hcs : ∀ {V : World}, KpX w.heap.size (fun b => ¬ ∃ o, R b o) w V → V.cell? ⟨Bb, ob, none⟩ = some (.slice ao n cap) ∧ ∀ i, i < n → ∃ b off, ao = some ⟨b, off, none⟩ ∧ V.cell? ⟨b, off + i * 3, none⟩ = some (c0 i) ∧ V.cell? ⟨b, off + i * 3 + 1, none⟩ = some (c1 i) ∧ V.cell? ⟨b, off + i * 3 + 2, none⟩ = some (c2 i) := fun {V} hV => by
    have hkeep : ∀ b o u, R b o → w.cell? ⟨b, o, none⟩ = some u → V.cell? ⟨b, o, none⟩ = some u := fun b o u hr hc => by
      have hb : b < w.heap.size := World.block_lt_of_cell? w _ hc
      rw [World.cell?_of_block (w := w) (hV b hb (fun hn => hn ⟨o, hr⟩))]
      exact hc
    refine ⟨hkeep _ _ _ hRb hbox, fun i hi => ?_⟩
    obtain ⟨b, off, h1, ⟨g1, g2⟩, ⟨g3, g4⟩, g5, g6⟩ := hat i hi
    exact ⟨b, off, h1, hkeep _ _ _ g1 g2, hkeep _ _ _ g3 g4, hkeep _ _ _ g5 g6⟩
  have hW0 : KpX w.heap.size (fun b => ¬ ∃ o, R b o) w W := fun b hb _ => hW.block b hb
  have HC : Hid (∀ {V : World}, KpX w.heap.size (fun b => ¬ ∃ o, R b o) w V → V.cell? ⟨Bb, ob, none⟩ = some (.slice ao n cap) ∧ ∀ i, i < n → ∃ b off, ao = some ⟨b, off, none⟩ ∧ V.cell? ⟨b, off + i * 3, none⟩ = some (c0 i) ∧ V.cell? ⟨b, off + i * 3 + 1, none⟩ = some (c1 i) ∧ V.cell? ⟨b, off + i * 3 + 2, none⟩ = some (c2 i)) := fun {V} h => hcs h
  clear hcs hbox hat hRb
  obtain ⟨hb0, _⟩ := HC.out hW0
  refine callsIn_of_wp Tryz.func144 rfl trivial ?_ rfl
  simp only [Tryz.ntmps144, List.size_toArray, List.length_cons, List.length_nil, Nat.reduceAdd, Nat.reduceSub, Array.replicate_succ, Array.replicate_zero, List.push_toArray, List.append_toArray, List.nil_append, List.cons_append]
  gi_wp2
  gi_loopw [3] (fun iv wr => ∃ (z : Int) (k : Nat), iv = .int .i64 z ∧ z = (n : Int) - 1 - k ∧ k ≤ n ∧ J (List.range k) wr ∧ KpX w.heap.size (fun b => ¬ ∃ o, R b o) w wr) (fun iv wr => (intOf iv + 1).toNat)
  case atStart => exact ⟨_, 0, rfl, by omega, by omega, by simpa using h0, hW0⟩
  case round =>
    obtain ⟨z, k, rfl, hz, hk, hJr, hKr⟩ := hrel
    clear hb0 h0 hW0
    obtain ⟨hb1, hc1⟩ := HC.out hKr
    by_cases hkn : k = n
    · have hz1 : z = -1 := by omega
      subst hz1
      gi_wp2
      go_end0
      refine ⟨⟨_, rfl⟩, _, rfl, ?_⟩
      rw [hkn] at hJr
      exact hJr
    · obtain ⟨j, hj⟩ : ∃ j : Nat, j = n - 1 - k := ⟨_, rfl⟩
      have hzj : z = (j : Int) := by omega
      have hjn : j < n := by omega
      subst hzj
      obtain ⟨b, off, rfl, hc2, hc3, hc4⟩ := hc1 j hjn
      obtain ⟨fn, tmps, assign, body, hy, hR⟩ := hY (List.range k) k _ hJr ⟨by simp, by omega⟩
      rw [show (n : Int) - 1 - k = (j : Int) by omega, show n - 1 - k = j from hj.symm] at hy
      obtain ⟨v0, hv0⟩ : ∃ v, v = c0 j := ⟨_, rfl⟩
      obtain ⟨v1, hv1⟩ : ∃ v, v = c1 j := ⟨_, rfl⟩
      obtain ⟨v2, hv2⟩ : ∃ v, v = c2 j := ⟨_, rfl⟩
      rw [← hv0] at hc2 hy
      rw [← hv1] at hc3 hy
      rw [← hv2] at hc4 hy
      clear hc1 hv0 hv1 hv2
      have hy : Sem.run Tryz.prog (Instr.yield l #[.int .i64 (j : Int), .agg #[v0, v1, v2]]) wr = .ok (.round l fn tmps assign body) wr := hy
      have HJ : Hid (j = n - 1 - k ∧ k < n) := ⟨hj, by omega⟩
      clear hj hz hkn hk
      gi_wp2
      refine hR.mono ?_
      rintro e V3 ⟨rfl, hJ3, hk3⟩
      gi_wp2
      go_roundw
      case rel => exact ⟨_, k + 1, rfl, by have := HJ.out; omega, by have := HJ.out; omega, by rw [List.range_succ]; exact hJ3, fun b' hb' hx' => (hk3 b' hb' hx').trans (hKr b' hb' hx')⟩
      case measure => simp [intOf]

theorem sq3 {R : Nat → Nat → Prop} {w : World} : ∀ {L : List Bd} {ys : List Value}, Sq ((L.map Bd.cv).map fun c => Rep R w c) ys → ys.length = 3 * L.length ∧ ∀ i b, L[i]? = some b → Rep R w b.cw [ys.getD (i * 3) undef, ys.getD (i * 3 + 1) undef, ys.getD (i * 3 + 2) undef]
  | [], ys, h => by
    have h : ys = [] := h
    subst h
    exact ⟨rfl, fun i b h => by simp at h⟩
  | x :: L, ys, ⟨us, bs, e, h1, h2⟩ => by
    obtain ⟨ih1, ih2⟩ := sq3 (L := L) h2
    have hlen : us.length = 3 := h1.len
    obtain ⟨u0, u1, u2, rfl⟩ : ∃ u0 u1 u2, us = [u0, u1, u2] := by
      match us, hlen with
      | [u0, u1, u2], _ => exact ⟨u0, u1, u2, rfl⟩
    subst e
    refine ⟨by simp; omega, fun i b hi => ?_⟩
    cases i with
    | zero =>
      simp at hi
      subst hi
      exact h1
    | succ i =>
      have := ih2 i b (by simpa using hi)
      have hg : ∀ k, ([u0, u1, u2] ++ bs).getD (k + 3) undef = bs.getD k undef := fun k => by simp [List.getD_eq_getElem?_getD]
      rw [show (i + 1) * 3 = i * 3 + 3 by omega, show i * 3 + 3 + 1 = i * 3 + 1 + 3 by omega, show i * 3 + 3 + 2 = i * 3 + 2 + 3 by omega, hg, hg, hg]
      exact this

theorem backB_gives {R : Nat → Nat → Prop} {w : World} {L : List Bd} {Bb ob : Nat} {ao : Option Addr} {cap : Nat} (hl : L.length ≤ 1000000000) (hbox : w.cell? ⟨Bb, ob, none⟩ = some (.slice ao L.length cap)) (hRb : R Bb ob) (hv : VRep R w (.lst (L.map Bd.cv)) (.slice ao L.length cap)) :
    ∃ c0 c1 c2 : Nat → Value, (∀ i b, L[i]? = some b → VRep R w b.cw (.agg #[c0 i, c1 i, c2 i])) ∧
      Gives Tryz.prog 144 #[.pointer (some ⟨Bb, ob, none⟩)] (fun x : Nat => #[.int .i64 ((L.length : Int) - 1 - x), .agg #[c0 (L.length - 1 - x), c1 (L.length - 1 - x), c2 (L.length - 1 - x)]]) (fun pre x _ => x = pre.length ∧ x < L.length) (KpX w.heap.size fun b => ¬ ∃ o, R b o) (fun ys => ys = List.range L.length) w := by
  obtain ⟨a', n', c', e0, e1, e2, e3, e4, ys, e5, e6⟩ := vrep_lst.1 hv
  injection e0 with e0 _ _
  subst e0
  obtain ⟨s1, s2⟩ := sq3 e6
  refine ⟨fun i => ys.getD (i * 3) undef, fun i => ys.getD (i * 3 + 1) undef, fun i => ys.getD (i * 3 + 2) undef, fun i b hb => ⟨_, rfl, s2 i b hb⟩, ?_⟩
  intro l J W hW hJ hY h0
  refine backB_in l Bb ob L.length (fun i => ys.getD (i * 3) undef) (fun i => ys.getD (i * 3 + 1) undef) (fun i => ys.getD (i * 3 + 2) undef) R w ao cap hbox hRb (fun i hi => ?_) hl J hJ hY W hW h0
  rcases e5 with h1 | ⟨b, off, h1, h2⟩
  · rw [h1] at s1; simp at s1; omega
  · have hk : ∀ k, k < ys.length → R b (off + k) ∧ w.cell? ⟨b, off + k, none⟩ = some (ys.getD k undef) := fun k hk => by
      obtain ⟨g1, g2⟩ := h2 k hk
      exact ⟨g1, by rw [g2, List.getD_eq_getElem?_getD, List.getElem?_eq_getElem hk]; rfl⟩
    exact ⟨b, off, h1, hk (i * 3) (by omega), hk (i * 3 + 1) (by omega), hk (i * 3 + 2) (by omega)⟩

def putB (b : Bd) : List Bd → List Bd
  | [] => [b]
  | x :: M => if x.v = b.v then b :: M else x :: putB b M
theorem putB_row (b : Bd) : ∀ M : List Bd, putR .i64 b.v b.t.cw (M.map imR) = (putB b M).map imR
  | [] => rfl
  | x :: M => by
    rw [List.map_cons, putB]
    have h1 := putR_row (k := .i64) (i := b.v) (j := x.v) (c := b.t.cw) (c' := x.t.cw) (l := M.map imR)
    by_cases h : x.v = b.v
    · rw [if_pos h] at h1 ⊢; exact h1
    · rw [if_neg h] at h1 ⊢
      rw [putB_row b M] at h1
      exact h1
theorem putB_find (b : Bd) (v : Int) : ∀ M : List Bd, findB (putB b M) v = if b.v = v then some b.t else findB M v
  | [] => rfl
  | x :: M => by
    rw [putB]
    by_cases h : x.v = b.v
    · rw [if_pos h, findB, findB]
      by_cases h2 : b.v = v
      · rw [if_pos h2, if_pos h2]
      · rw [if_neg h2, if_neg h2, if_neg (by omega)]
    · rw [if_neg h, findB, findB, putB_find b v M]
      by_cases h2 : b.v = v
      · rw [if_pos h2, if_pos h2, if_neg (by omega)]
      · rw [if_neg h2, if_neg h2]
def mapB (L : List Bd) (k : Nat) : List Bd := (L.reverse.take k).foldl (fun M b => putB b M) []
theorem mapB_succ {L : List Bd} {k : Nat} {b : Bd} (h : L[L.length - 1 - k]? = some b) (hk : k < L.length) : mapB L (k + 1) = putB b (mapB L k) := by
  unfold mapB
  rw [List.take_add_one, List.getElem?_reverse hk, h, List.foldl_append]
  rfl
theorem mapB_find : ∀ (L : List Bd) (v : Int), findB (mapB L L.length) v = findB L v := by
  intro L v
  have : ∀ L : List Bd, findB (L.reverse.foldl (fun M b => putB b M) []) v = findB L v := by
    intro L
    induction L with
    | nil => rfl
    | cons b L ih =>
      rw [List.reverse_cons, List.foldl_append]
      show findB (putB b _) v = _
      rw [putB_find, ih, findB]
  unfold mapB
  rw [← List.length_reverse, List.take_length]
  exact this L
attribute [local go_sem] Oper.semAt_some

theorem map_put {P : Program} {w : World} {U : Nat → Nat → Prop} {t kt et : TypeId} {k : IntKind} {i : Int} {l : List CV} {g clock : Nat} {es : Array MapEntry} {val : Value} {c : CV} (hu : P.underlying t = some (.map kt et)) (huk : P.underlying kt = some (.int k)) (g2 : w.heap[g]? = some (.map es clock)) (g3 : Ents U w l es.toList) (hik : IntKeys k l) (e3 : VRep U w c val) :
    ∃ es' clock', (Instr.mapUpdate t (.map (some g)) (.int k i) val).run P w = .ok () { w with heap := w.heap.setIfInBounds g (.map es' clock') } ∧ Ents U w (putR k i c l) es'.toList := by
  have hck := run_checkKey (P := P) (w := w) huk (k := .int k i) rfl false 9999
  have hge := Go.MapKept.run_getObj_map (P := P) g2
  obtain ⟨p1, p2'⟩ := putR_spec (i := i) c hik
  rcases find_spec 0 g3 hik (i := i) with ⟨f1, f2⟩ | ⟨j, e, c', f1, f2, f3, f4, f5, f6⟩
  · have hfk := run_findKey (P := P) (w := w) huk f1
    refine ⟨es.push { key := .int k i, val := val, born := clock }, clock + 1, ?_, ?_⟩
    · have hso := run_setObj_map (P := P) (Obj.map (es.push { key := .int k i, val := val, born := clock }) (clock + 1)) g2
      simp [Instr.mapUpdate, run_underlying hu, hge, hck, hfk, hso]
    · rw [p1 f2, Array.toList_push]
      exact ents_snoc g3 ⟨.sc (.int k i), c, rfl, rfl, rfl, e3⟩
  · have hfk := run_findKey (P := P) (w := w) huk f1
    rw [Nat.zero_add] at hfk
    have hjl : j < es.size := by
      have := (List.getElem?_eq_some_iff.1 f2).1
      simpa using this
    have hej : es[j]? = some e := by rw [← Array.getElem?_toList]; exact f2
    have hmod : (es.modify j fun e => { e with key := .int k i, val := val }).toList = es.toList.set j { e with key := .int k i, val := val } := by
      rw [Array.toList_modify]
      apply List.ext_getElem?
      intro q
      rw [List.getElem?_modify, List.getElem?_set]
      by_cases hq : j = q
      · subst hq
        have : es[j] = e := (Array.getElem?_eq_some_iff.1 hej).2
        simp [hjl, this]
      · simp [hq]
    refine ⟨es.modify j fun e => { e with key := .int k i, val := val }, clock, ?_, ?_⟩
    · have hso := run_setObj_map (P := P) (Obj.map (es.modify j fun e => { e with key := .int k i, val := val }) clock) g2
      have hst : (Instr.keyThatStays (.int k i) (.int k i)).run P w = .ok (.int k i) w := by simp [Instr.keyThatStays, Instr.sameBits]
      simp [Instr.mapUpdate, run_underlying hu, hge, hck, hfk, hso, hej, f5, hst]
    · rw [hmod, p2' j c' f3 (find_first 0 (j := j) g3 hik f1)]
      exact ents_set g3 ⟨.sc (.int k i), c, rfl, rfl, rfl, e3⟩

theorem wpListIn_mapRun {F : Fence} {nF : Nat} {P : Program} (w : World) {ops : Array Oper} {rest : List Oper} {o : Oper} {a : Act} {Q : Exit → Act → World → Prop}
    (hg : o.guard = none) (m x v : Operand) (t : TypeId) (hop : o.op = Op.mapUpdate t m x v) {mv key val : Value} (hm : a.eval m = mv) (hx : a.eval x = key) (hv : a.eval v = val) {w' : World} (hrun : (Instr.mapUpdate t mv key val).run P w = .ok () w')
    (hK : wpListIn F nF P ops Q rest (a.put o.dst undef) w') : wpListIn F nF P ops Q (o :: rest) a w := by
  refine wpListIn_plain hg fun K' hK' => ?_
  unfold Oper.wpIn
  refine ⟨by simp [Oper.about, hop], ?_⟩
  rw [Oper.semAt_plain F _ _ (by rw [hop]; intro c hc'; cases hc')]
  simp [execOp, hop, hm, hx, hv, hrun, Result.andThen]
  exact hK' _ _ hK

theorem backB_call (ao : Option Addr) (n c : Nat) (w : World) :
    CallsIn Fence.wide 2 Tryz.prog 109 #[.slice ao n c] w fun e w' => e = .returned (.func (.func 144) #[] #[.pointer (some ⟨w.heap.size, 0, none⟩)]) ∧ w' = w.alloc (.cells #[.slice ao n c] 49) := by
  refine callsIn_of_wp Tryz.func109 rfl trivial ?_ rfl
  simp only [Tryz.ntmps109, List.size_toArray, List.length_cons, List.length_nil, Nat.reduceAdd, Nat.reduceSub, Array.replicate_succ, Array.replicate_zero, List.push_toArray, List.append_toArray, List.nil_append, List.cons_append]
  gi_wp2
  go_ret
  exact ⟨rfl, rfl⟩

theorem vrep_bd {R : Nat → Nat → Prop} {w : World} {b : Bd} {u0 u1 u2 : Value} (h : VRep R w b.cw (.agg #[u0, u1, u2])) : u0 = .int .i64 b.v ∧ VRep R w b.t.cw (.agg #[u1, u2]) := by
  obtain ⟨xs, e, h1⟩ := vrep_row.1 h
  have hxs : xs = [u0, u1, u2] := by
    injection e with e
    have := congrArg Array.toList e
    simpa using this.symm
  subst hxs
  obtain ⟨us, bs, e1, k1, us', bs', e2, k3, k4⟩ := h1
  have hus : us = [.int .i64 b.v] := (rep_sc.1 k1).1
  have hbs : bs' = [] := k4
  subst hus; subst hbs; subst e2
  simp at e1
  obtain ⟨e3, e4⟩ := e1
  subst e4
  exact ⟨e3, _, rfl, k3⟩
theorem vrep_tm2 {R : Nat → Nat → Prop} {w : World} {t : Tm} {u1 u2 : Value} (h : VRep R w t.cw (.agg #[u1, u2])) : u1 = .int .i64 t.f ∧ ∃ a m c, u2 = .slice a m c := by
  obtain ⟨xs, e, h1⟩ := vrep_row.1 h
  have hxs : xs = [u1, u2] := by
    injection e with e
    have := congrArg Array.toList e
    simpa using this.symm
  subst hxs
  obtain ⟨us, bs, e1, k1, us', bs', e2, k3, k4⟩ := h1
  have hus : us = [.int .i64 t.f] := (rep_sc.1 k1).1
  have hbs : bs' = [] := k4
  subst hus; subst hbs; subst e2
  simp at e1
  obtain ⟨e3, e4⟩ := e1
  subst e4
  obtain ⟨a, m, c, e5, _⟩ := rep_lst.1 k3
  simp at e5
  exact ⟨e3, a, m, c, e5⟩
theorem gives_congr {α : Type} {P : Program} {gf : Nat} {lb : Array Value} {encs encs' : α → Array Value} {Ok : List α → α → World → Prop} {Kp : World → World → Prop} {S : List α → Prop} {w : World} (he : ∀ pre x V, Ok pre x V → encs x = encs' x) (h : Gives P gf lb encs Ok Kp S w) : Gives P gf lb encs' Ok Kp S w :=
  fun l J W hW hJ hY h0 => h l J W hW hJ (fun pre x V hj hok => by rw [he pre x V hok]; exact hY pre x V hj hok) h0
theorem backB_plain {R : Nat → Nat → Prop} {w : World} {L : List Bd} {Bb ob n : Nat} {ao : Option Addr} {cap : Nat} (hn : n = L.length) (hl : L.length ≤ 1000000000) (hbox : w.cell? ⟨Bb, ob, none⟩ = some (.slice ao n cap)) (hRb : R Bb ob) (hv : VRep R w (.lst (L.map Bd.cv)) (.slice ao L.length cap)) :
    ∃ (v f : Nat → Int) (a : Nat → Option Addr) (m c : Nat → Nat), (∀ x b, x < n → L[n - 1 - x]? = some b → VRep R w b.cw (.agg #[.int .i64 (v x), .int .i64 (f x), .slice (a x) (m x) (c x)])) ∧
      Gives Tryz.prog 144 #[.pointer (some ⟨Bb, ob, none⟩)] (fun x : Nat => #[.int .i64 ((n : Int) - 1 - x), .agg #[.int .i64 (v x), .int .i64 (f x), .slice (a x) (m x) (c x)]]) (fun pre x _ => x = pre.length ∧ x < n) (KpX w.heap.size fun b => ¬ ∃ o, R b o) (fun ys => ys = List.range n) w := by
  subst hn
  obtain ⟨c0, c1, c2, hc, hG⟩ := backB_gives hl hbox hRb hv
  have hx : ∀ x : Nat, ∃ (q : Int × Int × Option Addr × Nat × Nat), x < L.length → c0 (L.length - 1 - x) = .int .i64 q.1 ∧ c1 (L.length - 1 - x) = .int .i64 q.2.1 ∧ c2 (L.length - 1 - x) = .slice q.2.2.1 q.2.2.2.1 q.2.2.2.2 := fun x => by
    by_cases h : x < L.length
    · obtain ⟨bd, hbd⟩ : ∃ bd, L[L.length - 1 - x]? = some bd := ⟨L[L.length - 1 - x]'(by omega), List.getElem?_eq_getElem _⟩
      obtain ⟨g0, g1⟩ := vrep_bd (hc _ _ hbd)
      obtain ⟨g2, a, m, c, g3⟩ := vrep_tm2 g1
      exact ⟨⟨bd.v, bd.t.f, a, m, c⟩, fun _ => ⟨g0, g2, g3⟩⟩
    · exact ⟨⟨0, 0, none, 0, 0⟩, fun h2 => absurd h2 h⟩
  obtain ⟨q, hq⟩ : ∃ q : Nat → Int × Int × Option Addr × Nat × Nat, ∀ x : Nat, x < L.length → c0 (L.length - 1 - x) = .int .i64 (q x).1 ∧ c1 (L.length - 1 - x) = .int .i64 (q x).2.1 ∧ c2 (L.length - 1 - x) = .slice (q x).2.2.1 (q x).2.2.2.1 (q x).2.2.2.2 := ⟨fun x => (hx x).choose, fun x => (hx x).choose_spec⟩
  clear hx
  refine ⟨fun x => (q x).1, fun x => (q x).2.1, fun x => (q x).2.2.1, fun x => (q x).2.2.2.1, fun x => (q x).2.2.2.2, fun x b hxl hb => ?_, gives_congr (fun pre x V hok => ?_) hG⟩
  · obtain ⟨g1, g2, g3⟩ := hq x hxl
    have := hc _ _ hb
    rw [g1, g2, g3] at this
    exact this
  · obtain ⟨g1, g2, g3⟩ := hq x hok.2
    rw [g1, g2, g3]
def ImR (w : World) (R : Nat → Nat → Prop) (b o : Nat) : Prop := (R b o ∧ b < w.heap.size) ∨ b = w.heap.size + 1 + 1
def ImI (w wl : World) (R : Nat → Nat → Prop) (L : List Bd) (k : Nat) (W : World) : Prop :=
  W.heap[w.heap.size + 1]? = some (.cells #[.map (some w.heap.size)] 139 (0, 0)) ∧ (∃ es clock, W.heap[w.heap.size]? = some (.map es clock) ∧ Ents (ImR w R) W ((mapB L k).map imR) es.toList) ∧ Below w.heap.size w W ∧ w.heap.size + 3 ≤ W.heap.size ∧ KpX (w.heap.size + 3) (fun b => ¬ ∃ o, ImR w R b o) wl W
theorem imR_lt {w : World} {R : Nat → Nat → Prop} {b o : Nat} (h : ImR w R b o) : b < w.heap.size + 3 ∧ b ≠ w.heap.size := by
  rcases h with h | h
  · have := h.2; omega
  · omega
theorem ImI.up {w wl : World} {R : Nat → Nat → Prop} {L : List Bd} {k : Nat} {W W' : World} (h : ImI w wl R L k W) (hb : ∀ b, b < w.heap.size + 3 → W'.heap[b]? = W.heap[b]?) (hB : Below w.heap.size W W') : ImI w wl R L k W' := by
  obtain ⟨h1, ⟨es, clock, h2, h3⟩, h4, h5, h6⟩ := h
  refine ⟨by rw [hb _ (by omega)]; exact h1, ⟨es, clock, by rw [hb _ (by omega)]; exact h2, h3.keep fun b o u hu hc => ⟨hu, ?_⟩⟩, h4.trans hB, Nat.le_trans h5 hB.size, fun b hb' hx => (hb b hb').trans (h6 b hb' hx)⟩
  rw [World.cell?_of_block (w := W) (hb b (imR_lt hu).1)]
  exact hc
theorem ImI.put {w wl : World} {R : Nat → Nat → Prop} {L : List Bd} {k : Nat} {W : World} (h : ImI w wl R L k W) {bd : Bd} (hbd : L[L.length - 1 - k]? = some bd) (hk : k < L.length) {es : Array MapEntry} {clock : Nat} (hE : Ents (ImR w R) W (putR .i64 bd.v bd.t.cw ((mapB L k).map imR)) es.toList) : ImI w wl R L (k + 1) { W with heap := W.heap.setIfInBounds w.heap.size (.map es clock) } := by
  obtain ⟨h1, ⟨es0, clock0, h2, h3⟩, h4, h5, h6⟩ := h
  obtain ⟨q1, q2⟩ := heap_set (o' := Obj.map es clock) h2
  have hE : Ents (ImR w R) W ((mapB L (k + 1)).map imR) es.toList := by rw [mapB_succ hbd hk, ← putB_row]; exact hE
  refine ⟨by rw [q2 _ (by omega)]; exact h1, ⟨es, clock, q1, hE.keep fun b o u hu hc => ⟨hu, ?_⟩⟩, ⟨h4.os, h4.tape, h4.output, by simpa using h4.size, fun b hb => (q2 b (by omega)).trans (h4.block b hb)⟩, by simpa using h5, fun b hb' hx => ?_⟩
  · rw [World.cell?_of_block (w := W) (q2 b (imR_lt hu).2)]
    exact hc
  · obtain ⟨o, ho⟩ := Classical.not_not.1 hx
    exact (q2 b (imR_lt ho).2).trans (h6 b hb' hx)

set_option maxRecDepth 100000 in
set_option maxHeartbeats 4000000 in
theorem images_in (L : List Bd) {R : Nat → Nat → Prop} {w : World} {ao : Option Addr} {n cap : Nat} (hn : n = L.length) (hv : VRep R w (.lst (L.map Bd.cv)) (.slice ao L.length cap)) (h64 : 64 < n) (hl : n ≤ 1000000000) :
    CallsIn Fence.wide 3 Tryz.prog 86 #[.slice ao n cap] w fun e W' => ∃ b g, e = .returned (.func (.func 110) #[] #[.pointer (some ⟨b, 0, none⟩)]) ∧ MapQ b g ((mapB L L.length).map imR) (fun b o => R b o ∨ w.heap.size ≤ b) W' ∧ Below w.heap.size w W' := by
  have hmm : ∀ w : World, Sem.run Tryz.prog (Instr.makeMap 139 (some (.int .i64 (n : Int)))) w = .ok (.map (some w.heap.size)) (w.alloc (.map #[] 0)) := fun w => by
    simp [Instr.makeMap, run_underlying Tryz.underlying139, asInt, asIntOf, run_newObj_alloc]
  have HL := hid hn
  have HV := hid hv
  clear hn hv
  refine callsIn_of_wp_marks Tryz.func86 rfl trivial ?_ rfl
  simp only [Tryz.ntmps86, List.size_toArray, List.length_cons, List.length_nil, Nat.reduceAdd, Nat.reduceSub, Array.replicate_succ, Array.replicate_zero, List.push_toArray, List.append_toArray, List.nil_append, List.cons_append]
  gi_wp2_with (refine ⟨trivial, ?_⟩; gi_at_call 109; refine (backB_call _ _ _ _).mono ?_; rintro e w' ⟨rfl, rfl⟩)
  obtain ⟨w1, hw1⟩ : ∃ w1, w1 = w.alloc (.map #[] 0) := ⟨_, rfl⟩
  obtain ⟨w2, hw2⟩ : ∃ w2, w2 = w1.alloc (.cells #[.map (some w.heap.size)] 139) := ⟨_, rfl⟩
  obtain ⟨wl, hwl⟩ : ∃ wl, wl = w2.alloc (.cells #[.slice ao n cap] 49) := ⟨_, rfl⟩
  have s1 : w1.heap.size = w.heap.size + 1 := by rw [hw1]; simp
  have s2 : w2.heap.size = w.heap.size + 1 + 1 := by rw [hw2]; simp; omega
  have hsz : wl.heap.size = w.heap.size + 3 := by rw [hwl]; simp; omega
  have k1 : Below w.heap.size w w1 := by rw [hw1]; exact bA (bW _) _
  have k2 : Below w1.heap.size w1 w2 := by rw [hw2]; exact bA (bW _) _
  have k3 : Below w2.heap.size w2 wl := by rw [hwl]; exact bA (bW _) _
  have hb0 : Below w.heap.size w wl := bN (bN k1 k2) k3
  have hbx : wl.cell? ⟨w.heap.size + 1 + 1, 0, none⟩ = some (.slice ao n cap) := by
    have : wl.heap[w.heap.size + 1 + 1]? = some (.cells #[.slice ao n cap] 49 (0, 0)) := by rw [hwl, ← s2]; exact World.alloc_heap_new _ _
    simp [World.cell?, this]
  have hI0 : ImI w wl R L 0 wl := by
    refine ⟨?_, ⟨#[], 0, ?_, rfl⟩, hb0, by omega, fun b hb hx => rfl⟩
    · rw [k3.block _ (by omega), hw2, ← s1]; exact World.alloc_heap_new _ _
    · rw [k3.block _ (by omega), k2.block _ (by omega), hw1]; exact World.alloc_heap_new _ _
  have hv' : VRep (ImR w R) wl (.lst (L.map Bd.cv)) (.slice ao L.length cap) := HV.out.keep fun b o u hu hc => by
    have hlt := World.block_lt_of_cell? w _ hc
    refine ⟨.inl ⟨hu, hlt⟩, ?_⟩
    rw [World.cell?_of_block (w := w) (hb0.block b hlt)]
    exact hc
  obtain ⟨zv, zf, za, zm, zc, hc, hG⟩ := backB_plain (R := ImR w R) (w := wl) (L := L) (Bb := w.heap.size + 1 + 1) (ob := 0) HL.out (by have := HL.out; omega) hbx (.inr rfl) hv'
  rw [← hw1, ← hw2, ← hwl]
  clear hwl hw1 hw2 s1 s2 k1 k2 k3 hv' hbx hmm
  refine wp_collectH (gf := 144) (lb := #[.pointer (some ⟨w.heap.size + 1 + 1, 0, none⟩)]) rfl (enters_of Tryz.func144 (by kernel_rfl) rfl)
    hG (fun {A B C} h1 h2 b hb hx => (h2 b hb hx).trans (h1 b hb hx)) (fun W l o o' hl h ho b hb hx => World.putObj_heap_other (by omega)) (fun pre x W l o o' hl hx h ho => hx) (fun x => rfl)
    (fun pre W => ImI w wl R L pre.length W) (fun pre A B h hb => h.up (fun b hb' => hb.block b (by have := h.2.2.2.1; omega)) ⟨hb.os, hb.tape, hb.output, hb.size, fun b hb' => hb.block b (by have := h.2.2.2.1; omega)⟩) (fun pre A l o o' h hl h1 h2 => h.up (fun b hb' => World.putObj_heap_other (by omega)) (kpt_put o' (by omega) h1 h2).1) hI0
    (fun x b => { tmps := #[.slice ao n cap, undef, .nilFunc, .pointer (some ⟨w.heap.size + 1, 0, none⟩), undef, .pointer (some ⟨b, 0, none⟩), .slice ao n cap, .int .i64 n, .bool (decide ((n : Int) ≤ 64)), undef, undef, .slice ao n cap, .int .i64 n, .map (some w.heap.size), .slice ao n cap, .func (.func 144) #[] #[.pointer (some ⟨w.heap.size + 1 + 1, 0, none⟩)], .int .i64 ((n : Int) - 1 - x), .agg #[.int .i64 (zv x), .int .i64 (zf x), .slice (za x) (zm x) (zc x)], undef, undef, undef, undef, undef, undef], defers := [] })
    (fun x => .cells #[.int .i64 (zv x), .int .i64 (zf x), .slice (za x) (zm x) (zc x)] 85 (0, 0)) (fun V x hV b hb hx => (bA (bW V) _).block b (by omega)) (fun pre x V hx => hx) ?assign ?body ?done
  case assign =>
    intro l x W K hK
    gi_wp2
    exact hK
  case body =>
    rintro l pre x W b hb hbx' hI ⟨hx, hxl⟩
    obtain ⟨bd, hbd⟩ : ∃ bd, L[n - 1 - x]? = some bd := ⟨L[n - 1 - x]'(by have := HL.out; omega), List.getElem?_eq_getElem _⟩
    obtain ⟨g0, g1⟩ := vrep_bd (hc _ _ hxl hbd)
    have hvW : VRep (ImR w R) W bd.t.cw (.agg #[.int .i64 (zf x), .slice (za x) (zm x) (zc x)]) := by
      refine g1.keep fun b o u hu hcc => ⟨hu, ?_⟩
      rw [World.cell?_of_block (w := wl) (hI.2.2.2.2 b (imR_lt hu).1 fun hn => hn ⟨o, hu⟩)]
      exact hcc
    rw [g0] at hbx'
    rw [g0]
    have HI := hid hI
    obtain ⟨i1, ⟨es, clock, i2, i3⟩, i4, i5, i6⟩ := hI
    obtain ⟨es', clock', hrun, hE⟩ := map_put (P := Tryz.prog) (t := 139) (k := .i64) (i := bd.v) Tryz.underlying139 Tryz.underlying3 i2 i3 (imR_keys _) hvW
    have e0 : W.cell? ⟨b, 0, none⟩ = some (.int .i64 bd.v) := by simp [World.cell?, hbx']
    have e1 : W.cell? ⟨b, 1, none⟩ = some (.int .i64 (zf x)) := by simp [World.cell?, hbx']
    have e2 : W.cell? ⟨b, 2, none⟩ = some (.slice (za x) (zm x) (zc x)) := by simp [World.cell?, hbx']
    have em : W.cell? ⟨w.heap.size + 1, 0, none⟩ = some (.map (some w.heap.size)) := by simp [World.cell?, i1]
    have HX : Hid (x = pre.length ∧ x < n) := ⟨hx, hxl⟩
    have HB := hid hbd
    have HE := hid hE
    have H2 := hid i2
    clear hx hxl hbd hE i1 i2 i3 i4 i6 hc hG hI0 g0 g1 hvW hbx'
    gi_wp2_with (gi_at_mapUpdate; refine wpListIn_mapRun _ rfl _ _ _ 139 rfl rfl rfl rfl hrun ?_)
    obtain ⟨hx, hxl⟩ := HX.out
    obtain ⟨q1, q2⟩ := heap_set (o' := Obj.map es' clock') H2.out
    refine ⟨⟨by simp, fun g o hg1 hg2 ho => by rw [q2 g (by omega)]; exact hg2⟩, fun b hb hx => ?_, ?_⟩
    · obtain ⟨o, ho⟩ := Classical.not_not.1 hx
      exact q2 b (imR_lt ho).2
    · rw [List.length_append]
      have hB2 := HB.out
      rw [HL.out, hx] at hB2
      exact ImI.put HI.out hB2 (by have := HL.out; omega) HE.out
  case done =>
    rintro D xs W hD hS hI hK
    gi_wp2
    refine ⟨by simp, .inl ⟨_, _, rfl, run_takeDeferred hK, ?_⟩⟩
    have hI2 := hI.up (W' := W.putObj D (.deferred none)) (fun b hb' => World.putObj_heap_other (by omega)) (kpt_put _ (by omega) hK rfl).1
    rw [hS, List.length_range, HL.out] at hI2
    obtain ⟨j1, ⟨es, clock, j2, j3⟩, j4, _, _⟩ := hI2
    refine ⟨_, results_tmp rfl _ _ _, w.heap.size + 1, w.heap.size, rfl, ⟨by simp [World.cell?, j1], es, clock, j2, j3.keep fun b o u hu hc => ⟨?_, hc⟩⟩, j4⟩
    rcases hu with h | h
    · exact .inl h.1
    · exact .inr (by omega)
theorem step_call2 {P : Program} (w : World) {ops : Array Oper} {o : Oper} {a : Act} {K : Act → World → Prop} {Q : Exit → Act → World → Prop} {E : Prop} (hgd : Region.wanted o (yielded ops a.tmps) = true) (f : Nat) (x y : Operand) (ts : Array TypeId)
    (ho : o.op = .call { callee := .value (.func f), args := #[x, y], argTypes := ts }) (eg : ∀ args w, (callFunc f args).run P w = .ok (.enter f args) w) (v u : Value) (hx : a.eval x = v) (hy : a.eval y = u) {R : Ending → World → Prop} (hc : Calls P f #[v, u] w R) (h : ∀ e w', R e w' → ∃ u, e = .returned u ∧ K (a.put o.dst u) w') :
    if Region.wanted o (yielded ops a.tmps) = true then Oper.wp P o a w K Q else E := by
  rw [if_pos hgd]
  unfold Oper.wp
  have he : (execOp a.eval o).run P w = .ok (.enter f #[v, u]) w := by
    have hf : a.eval (.func f) = .func (.func f) #[] #[] := rfl
    generalize a.eval = ρ at hf hx hy ⊢
    simp [execOp, ho, resolve, invoke, Deferred.ofValue, hf, hx, hy, eg]
  rw [he, Oper.upon_enter]
  refine hc.mono ?_
  rintro e w' hr
  obtain ⟨u, rfl, hk⟩ := h e w' hr
  exact hk

theorem results_apM {tmps : Array Value} {w : World} {g : Nat} {x y : Value} (hp : tmps.getD 4 undef = .pointer (some ⟨g, 0, none⟩)) (hg : w.heap[g]? = some (.cells #[x, y] 61 (0, 0))) :
    (results Tryz.f49 tmps).run Tryz.prog w = .ok (.agg #[x, y]) w := by
  have hp' : tmps[4]?.getD undef = .pointer (some ⟨g, 0, none⟩) := by simpa using hp
  simp [results, hp', asAddr, run_loadVar_row w g _ 61 #[x, y] (0, 0) _ hg Tryz.underlying61 rfl info_tm_size]

set_option maxRecDepth 100000 in
set_option maxHeartbeats 4000000 in
theorem applyM_abs (W : World) (L : List Bd) (t : Tm) (hl : 64 < L.length) (hl2 : L.length ≤ 1000000000) (hb : bdsOk L) (hr : t.rng) (hok : t.ok) : AFun Tryz.prog W 49 [.lst (L.map Bd.cv), t.cw] (.val (repT (imgB L) t).cw) := by
  refine ⟨ent_of Tryz.func49 rfl rfl, .inl rfl, rfl, fun U w vs _ hv => ?_⟩
  obtain ⟨sv, vs1, rfl, hv1, tv, vs2, rfl, hv2, hv3⟩ := hv
  have hv3 : vs2 = [] := hv3
  subst hv3
  obtain ⟨ao, n, cap, e1, e2, _⟩ := vrep_lst.1 hv1
  subst e1
  rw [List.length_map] at e2
  obtain ⟨xs, e3, hx3⟩ := vrep_row.1 hv2
  obtain ⟨u1, u2, rfl⟩ : ∃ u1 u2, xs = [u1, u2] := by
    have h3 : xs.length = 2 := (rep_row.2 hx3).len
    match xs, h3 with
    | [u1, u2], _ => exact ⟨u1, u2, rfl⟩
  subst e3
  obtain ⟨g1, ta, tm, tc, g2⟩ := vrep_tm2 hv2
  subst g1; subst g2
  have hv1' : VRep U w (.lst (L.map Bd.cv)) (.slice ao L.length cap) := by rw [← e2]; exact hv1
  have HImg : Hid (∀ V : World, Below w.heap.size w V → w.heap.size + 2 ≤ V.heap.size → Calls Tryz.prog 86 #[.slice ao n cap] V fun e W' => ∃ b g, e = .returned (.func (.func 110) #[] #[.pointer (some ⟨b, 0, none⟩)]) ∧ MapQ b g ((mapB L L.length).map imR) (fun b o => (U b o ∧ b < w.heap.size) ∨ w.heap.size + 2 ≤ b) W' ∧ Below V.heap.size V W') := fun V hV hV2 =>
    Calls.mono (callsIn_wide.1 (images_in (R := fun b o => U b o ∧ b < w.heap.size) L e2 (hv1'.keep fun b o u hu hc => ⟨⟨hu, World.block_lt_of_cell? w _ hc⟩, by
      rw [World.cell?_of_block (w := w) (hV.block b (World.block_lt_of_cell? w _ hc))]; exact hc⟩) (by omega) (by omega))) fun e W' ⟨b, g, k1, ⟨k2, es, ck, k3, k4⟩, k5⟩ => ⟨b, g, k1, ⟨k2, es, ck, k3, k4.keep fun b o u hu hc => ⟨hu.imp id fun h => by omega, hc⟩⟩, k5⟩
  have HRep : Hid (∀ (V : World) (b g : Nat), Below w.heap.size w V → w.heap.size + 2 ≤ V.heap.size → MapQ b g ((mapB L L.length).map imR) (fun b o => (U b o ∧ b < w.heap.size) ∨ w.heap.size + 2 ≤ b) V → Calls Tryz.prog 83 #[.agg #[.int .i64 t.f, .slice ta tm tc], .func (.func 110) #[] #[.pointer (some ⟨b, 0, none⟩)]] V fun e W' => ∃ a m c, e = .returned (.agg #[.int .i64 (repT (imgB L) t).f, .slice a m c]) ∧ VRep (fun b o => (U b o ∧ b < w.heap.size) ∨ w.heap.size + 2 ≤ b) W' (repT (imgB L) t).cw (.agg #[.int .i64 (repT (imgB L) t).f, .slice a m c]) ∧ Below V.heap.size V W') := fun V b g hV hV2 hq => by
    have hI : ∀ v, 0 ≤ v → v ≤ 9223372036854775807 → AFunVQ Tryz.prog (MapQ b g ((mapB L L.length).map imR)) (.fn 110 0 [.sc (.pointer (some ⟨b, 0, none⟩))]) [.i v] (.val (imgB L v).cw) ∧ (imgB L v).rng ∧ (imgB L v).size ≤ 90000000000 := fun v h1 h2 => by
      refine ⟨⟨_, _, _, rfl, ?_⟩, imgB_ok hb h1 h2⟩
      have h3 := imgQ_abs b g (mapB L L.length) v h1 h2
      rw [show imgB (mapB L L.length) v = imgB L v by unfold imgB; rw [mapB_find]] at h3
      exact h3
    have h4 := (replaceQ_abs (mapQ_up b g _) _ (imgB L) hI t hr hok).2.2.2 (fun b o => (U b o ∧ b < w.heap.size) ∨ w.heap.size + 2 ≤ b) V [.agg #[.int .i64 t.f, .slice ta tm tc], .func (.func 110) #[] #[.pointer (some ⟨b, 0, none⟩)]] hq ⟨_, _, rfl, hv2.keep fun b o u hu hc => ⟨.inl ⟨hu, World.block_lt_of_cell? w _ hc⟩, by
      rw [World.cell?_of_block (w := w) (hV.block b (World.block_lt_of_cell? w _ hc))]; exact hc⟩, _, _, rfl, vrep_fn.2 ⟨[], [.pointer (some ⟨b, 0, none⟩)], rfl, rfl, ⟨[_], [], rfl, rep_sc.2 ⟨rfl, rfl⟩, rfl⟩, fun c hc => by simp at hc; subst hc; simp [CV.sc]⟩, rfl⟩
    refine Calls.mono h4 ?_
    rintro e W' ⟨v, rfl, hR, hB⟩
    have hR : VRep (fun b o => ((U b o ∧ b < w.heap.size) ∨ w.heap.size + 2 ≤ b) ∨ V.heap.size ≤ b) W' (repT (imgB L) t).cw v := hR
    have hR := hR.keep (V := fun b o => (U b o ∧ b < w.heap.size) ∨ w.heap.size + 2 ≤ b) (w' := W') fun b o u hu hc => ⟨hu.elim id fun h => .inr (by omega), hc⟩
    obtain ⟨xs, e3, hx3⟩ := vrep_row.1 hR
    obtain ⟨u1, u2, rfl⟩ : ∃ u1 u2, xs = [u1, u2] := by
      have h3 : xs.length = 2 := (rep_row.2 hx3).len
      match xs, h3 with
      | [u1, u2], _ => exact ⟨u1, u2, rfl⟩
    subst e3
    obtain ⟨g1, a, m, c, g2⟩ := vrep_tm2 hR
    subst g1; subst g2
    exact ⟨a, m, c, rfl, hR, hB⟩
  clear hv1 hv1' hv2 hx3 hb hr hok hl hl2 e2
  show Calls Tryz.prog 49 #[.slice ao n cap, .agg #[.int .i64 t.f, .slice ta tm tc]] w _
  refine calls_of_wp Tryz.func49 rfl ?_
  simp only [Tryz.ntmps49, List.size_toArray, List.length_cons, List.length_nil, Nat.reduceAdd, Nat.reduceSub, Array.replicate_succ, Array.replicate_zero, List.push_toArray, List.append_toArray, List.nil_append, List.cons_append]
  go_wp2_with fail
  obtain ⟨w2, hw2⟩ : ∃ w2, w2 = (w.alloc (.cells #[.int .i64 t.f, .slice ta tm tc] 61)).alloc (.cells #[.int .i64 0, .slice none 0 0] 61) := ⟨_, rfl⟩
  have hsz : w2.heap.size = w.heap.size + 2 := by rw [hw2]; simp
  have hb2 : Below w.heap.size w w2 := by rw [hw2]; exact bA (bA (bW _) _) _
  have y1 : w2.heap[w.heap.size]? = some (.cells #[.int .i64 t.f, .slice ta tm tc] 61 (0, 0)) := by
    rw [hw2, Below.heap_alloc _ _ _ (by simp)]; exact World.alloc_heap_new _ _
  have y2 : w2.heap[w.heap.size + 1]? = some (.cells #[.int .i64 0, .slice none 0 0] 61 (0, 0)) := by
    rw [hw2, show w.heap.size + 1 = (w.alloc (.cells #[.int .i64 t.f, .slice ta tm tc] 61)).heap.size by simp]; exact World.alloc_heap_new _ _
  have hs3 : w2.drew.heap.size = w.heap.size + 2 := hsz
  have hb3 : Below w.heap.size w w2.drew := hb2.drew
  have HB3 := hid hb3
  have HY1 := hid (show w2.drew.heap[w.heap.size]? = _ from y1)
  have HY2 := hid (show w2.drew.heap[w.heap.size + 1]? = _ from y2)
  obtain ⟨d1, d2⟩ := cell2 (show w2.drew.heap[w.heap.size]? = _ from y1)
  rw [← hw2]
  clear hw2 hb2 hb3 y1 y2
  go_region_law (first
    | (refine step_call _ rfl 86 _ _ rfl (enters_of Tryz.func86 (by kernel_rfl) rfl) (.slice ao n cap) rfl (HImg.out _ HB3.out (by omega)) ?_; rintro e w5 ⟨b, g, rfl, hq5, hb5⟩; refine ⟨_, rfl, ?_⟩; have hB5 : Below w.heap.size w w5 := HB3.out.trans (hb5.mono (by omega)); have hs5 := hb5.size; have x2 := (hb5.block _ (by omega)).trans HY2.out; obtain ⟨f1, f2⟩ := cell2 ((hb5.block _ (by omega)).trans HY1.out))
    | (refine step_call2 _ rfl 83 _ _ _ rfl (enters_of Tryz.func83 (by kernel_rfl) rfl) (.agg #[.int .i64 t.f, .slice ta tm tc]) (.func (.func 110) #[] #[.pointer (some ⟨b, 0, none⟩)]) rfl rfl (HRep.out _ b g hB5 (by omega) hq5) ?_; rintro e w6 ⟨a6, m6, c6, rfl, hR6, hb6⟩; refine ⟨_, rfl, ?_⟩; have hB6 : Below w.heap.size w w6 := hB5.trans (hb6.mono (by omega)); have z6 := (hb6.block _ (by omega)).trans x2; obtain ⟨f3, f4⟩ := cell2 z6; obtain ⟨f5, f6⟩ := frozen_box z6))
  all_goals go_wp2_with fail
  all_goals refine bodyPost_ret (results_apM (g := w.heap.size + 1) rfl (two_block z6 _ _)) rfl ?_
  all_goals refine ⟨_, rfl, ?_, (hB6.setCell (p := ⟨w.heap.size + 1, 0, none⟩) (by show w.heap.size ≤ w.heap.size + 1; omega) _).setCell (p := ⟨w.heap.size + 1, 1, none⟩) (by show w.heap.size ≤ w.heap.size + 1; omega) _⟩
  all_goals refine VRep.keep (fun b' o u hu hc => ⟨hu.elim (fun h => .inl h.1) (fun h => .inr (by omega)), ?_⟩) hR6
  all_goals have hne : b' ≠ w.heap.size + 1 := by rcases hu with h | h <;> omega
  all_goals rw [World.cell?_of_block (w := w6) (by rw [Below.heap_setCell _ _ _ _ hne, Below.heap_setCell _ _ _ _ hne])]
  all_goals exact hc

theorem applyG_abs (W : World) (L : List Bd) (t : Tm) (hl : L.length ≤ 1000000000) (hb : bdsOk L) (hr : t.rng) (hok : t.ok) : AFun Tryz.prog W 49 [.lst (L.map Bd.cv), t.cw] (.val (repT (imgB L) t).cw) := by
  by_cases h : L.length ≤ 64
  · exact apply_abs W L t h hb hr hok
  · exact applyM_abs W L t (by omega) hl hb hr hok
end Go.Proofs.YtmeegdomncadpaaGreat
namespace Go.Proofs.YtmeegdomncadpaaGreat
open Go.RowKit
set_option linter.unusedVariables false
set_option linter.unusedSimpArgs false
set_option maxRecDepth 100000
def sidL (c : List Lt) : List Tm := c.flatMap fun l => [l.a, l.b]
theorem sidL_snoc (c : List Lt) (l : Lt) : sidL (c ++ [l]) = sidL c ++ [l.a, l.b] := by simp [sidL]
theorem sidL_len (c : List Lt) : (sidL c).length = 2 * c.length := by
  induction c with
  | nil => rfl
  | cons l c ih =>
    have : sidL (l :: c) = l.a :: l.b :: sidL c := rfl
    rw [this]
    simp only [List.length_cons, ih]
    omega
theorem sidL_take (c : List Lt) (k : Nat) : (sidL (c.take k)).length ≤ 2 * c.length := by
  rw [sidL_len, List.length_take]; omega

-- 
theorem cSides_abs (W : World) (c : List Lt) (hn : c.length ≤ 1000000) : AFun Tryz.prog W 48 [.lst (c.map Lt.cv)] (.val (Tm.cw ⟨0, sidL c⟩)) := by
  have hsz := Lt.size_all c
  refine afun_of (rs := [Tm.cw ⟨0, sidL c⟩]) Tryz.func48 Tryz.ntmps48 rfl rfl rfl rfl ?_
  intro w U hW
  refine aS (aR ?_)
  (refine nx (a_alloc (gN rfl) rfl rfl rfl rfl rfl rfl rfl rfl rfl rfl) rfl ?_)
  show AWp _ _ _ _ _ _ _
  refine aS (aR ?_)
  (refine nx (aA (gN rfl) rfl rfl rfl rfl rfl) rfl ?_)
  show AWp _ _ _ _ _ _ _
  refine aS (aS (aR ?_))
  (refine nx (aM (gN rfl) rfl rfl rfl rfl rfl) rfl ?_)
  (refine nx (a_len (gN rfl) rfl rfl rfl rfl rfl rfl rfl) rfl ?_)
  (refine nx (aM (gN rfl) rfl rfl rfl rfl rfl) rfl ?_)
  show AWp _ _ _ _ _ _ _
  refine aB (awp_count c.length (fun k => [(2, .bp 2 0 []), (100002, ⟨5, .row [.i 0, .lst []], 1, 0, [1]⟩), (3, .own (.lst ((sidL (c.take k)).map Tm.cv)) 200018), (200018, .tok 61 2), (6, .val (.lst (c.map Lt.cv))), (7, .val (.i (c.map Lt.cv).length)), (8, .val (.i k))])
    ((wk_nil 3 200018 61 2 rfl rfl rfl rfl rfl rfl rfl).trans (wk_sub ⟨rfl, rfl, rfl, rfl, rfl, rfl, rfl, trivial⟩)) ?_)
  intro k hk
  refine aS (aR ?_)
  (refine nx (a_lss (gN rfl) rfl rfl rfl rfl rfl rfl) rfl ?_)
  show AWp _ _ _ _ _ _ _
  refine aS (aC rfl (fun hlt => ?_) (fun hlt => ?_))
  · have hkl : k < c.length := by simpa using hlt
    obtain ⟨x, hx⟩ : ∃ x, c[k]? = some x := ⟨c[k], List.getElem?_eq_getElem hkl⟩
    have hx' := Lt.map_at hx
    have hlen := sidL_take c k
    have hsz2 : ∀ y ∈ (sidL (c.take k)).map Tm.cv, y.size = 2 := Tm.size_all _
    have hl3 : ((sidL (c.take k)).map Tm.cv).length ≤ 2 * c.length := by rw [List.length_map]; exact hlen
    refine aK ?_
    show AWp _ _ _ _ _ _ _
    refine aS (aB (aS (aR ?_)))
    (refine nx (a_index (j := k) (gN rfl) rfl rfl rfl rfl rfl rfl rfl rfl rfl (hx') rfl (hsz)) rfl ?_)
    (refine nx (a_load_ad (gN rfl) rfl rfl rfl rfl rfl rfl rfl rfl rfl) rfl ?_)
    (refine nx (a_alloc (gN rfl) rfl rfl rfl rfl rfl rfl rfl rfl rfl rfl) rfl ?_)
    (refine nx (aSt (gN rfl) rfl rfl rfl rfl rfl rfl rfl rfl rfl rfl) rfl ?_)
    show AWp _ _ _ _ _ _ _
    refine aR ?_
    (refine nx (aM (gN rfl) rfl rfl rfl rfl rfl) rfl ?_)
    (refine nx (aF (gN rfl) rfl rfl rfl rfl rfl rfl rfl rfl rfl) rfl ?_)
    (refine nx (aLb (gN rfl) rfl rfl rfl rfl rfl rfl rfl rfl rfl rfl rfl rfl) rfl ?_)
    (refine nx (aF (gN rfl) rfl rfl rfl rfl rfl rfl rfl rfl rfl) rfl ?_)
    (refine nx (aLb (gN rfl) rfl rfl rfl rfl rfl rfl rfl rfl rfl rfl rfl rfl) rfl ?_)
    (refine nx (a_bslice (gN rfl) rfl rfl rfl rfl rfl rfl rfl rfl rfl rfl rfl rfl rfl) rfl ?_)
    (refine nx (a_app (gN rfl) rfl rfl rfl rfl rfl rfl rfl rfl rfl rfl rfl rfl rfl rfl rfl (by first | assumption | exact sZ rfl | exact Tm.size_all _ | exact Bd.size_all _ | exact ints_size _ | exact bys_size _ | exact Lt.size_all _) (by first | assumption | exact sZ rfl | exact Tm.size_all _ | exact Bd.size_all _ | exact ints_size _ | exact bys_size _ | exact Lt.size_all _) (by first | omega | (simp only [List.length_map, List.length_append, List.length_cons, List.length_nil] <;> omega) | (simp <;> omega))) rfl ?_)
    (refine nx (aA (gN rfl) rfl rfl rfl rfl rfl) rfl ?_)
    show AWp _ _ _ _ _ _ _
    refine aR ?_
    (refine nx (a_add (gN rfl) rfl rfl rfl rfl rfl rfl (by first | omega | (simp only [List.length_map, List.length_append, List.length_cons, List.length_nil] <;> omega) | (simp <;> omega))) rfl ?_)
    (refine nx (aM (gN rfl) rfl rfl rfl rfl rfl) rfl ?_)
    refine ⟨hkl, Wk.trans (wk_sub (s' := [(2, .bp 2 0 []), (100002, ⟨5, .row [.i 0, .lst []], 1, 0, [1]⟩), (3, .own (.lst ((sidL (c.take (k + 1))).map Tm.cv)) 300018), (300018, .tok 61 2), (6, .val (.lst (c.map Lt.cv))), (7, .val (.i (c.map Lt.cv).length)), (8, .val (.i ((k + 1 : Nat) : Int)))]) ⟨rfl, rfl, ?_, rfl, rfl, rfl, rfl, trivial⟩) (wk_ren 300018 200018 rfl rfl rfl rfl)⟩
    rw [List.take_add_one, hx]
    simp only [Option.toList_some, sidL_snoc, List.map_append, List.map_cons, List.map_nil, Tm.cv_eq]
    rfl
  · have hkl : k = c.length := by
      have : ¬ k < c.length := by simpa using hlt
      omega
    subst hkl
    rw [List.take_length]
    refine aE ?_
    show AWp _ _ _ _ _ _ _
    refine aS (aR ?_)
    (refine nx (aM (gN rfl) rfl rfl rfl rfl rfl) rfl ?_)
    (refine nx (a_build (gN rfl) rfl rfl rfl rfl rfl rfl rfl rfl rfl rfl rfl) rfl ?_)
    (refine nx (aSt (gN rfl) rfl rfl rfl rfl rfl rfl rfl rfl rfl rfl) rfl ?_)
    show AWp _ _ _ _ _ _ _
    exact aT (And.intro (.inr rfl) rfl)
theorem sidL_at : ∀ {c : List Lt} {k : Nat} {l : Lt}, c[k]? = some l → (sidL c)[2 * k]? = some l.a ∧ (sidL c)[2 * k + 1]? = some l.b
  | [], k, l, h => by simp at h
  | x :: c, 0, l, h => by
    simp at h
    subst h
    exact ⟨rfl, rfl⟩
  | x :: c, k + 1, l, h => by
    have := sidL_at (c := c) (k := k) (l := l) (by simpa using h)
    have e : sidL (x :: c) = x.a :: x.b :: sidL c := rfl
    rw [e, show 2 * (k + 1) = 2 * k + 1 + 1 by omega]
    simpa using this

-- 
theorem cWith_abs (W : World) (c d : List Lt) (f : Int) (hn : c.length ≤ 1000000) (hcd : d.map Lt.neg = c.map Lt.neg) : AFun Tryz.prog W 46 [.lst (c.map Lt.cv), Tm.cw ⟨f, sidL d⟩] (.val (.lst (d.map Lt.cv))) := by
  have hsz := Lt.size_all c
  have hszT := Tm.size_all (sidL d)
  have hlen : d.length = c.length := by have := congrArg List.length hcd; simpa using this
  refine afun_of (rs := [.lst (d.map Lt.cv)]) Tryz.func46 Tryz.ntmps46 rfl rfl rfl rfl ?_
  intro w U hW
  refine aS (aR ?_)
  (refine nx (a_box (gN rfl) rfl rfl rfl rfl rfl) rfl ?_)
  (refine nx (aA (gN rfl) rfl rfl rfl rfl rfl) rfl ?_)
  show AWp _ _ _ _ _ _ _
  refine aS (aR ?_)
  (refine nx (aA (gN rfl) rfl rfl rfl rfl rfl) rfl ?_)
  show AWp _ _ _ _ _ _ _
  refine aS (aS (aR ?_))
  (refine nx (aM (gN rfl) rfl rfl rfl rfl rfl) rfl ?_)
  (refine nx (a_len (gN rfl) rfl rfl rfl rfl rfl rfl rfl) rfl ?_)
  (refine nx (aM (gN rfl) rfl rfl rfl rfl rfl) rfl ?_)
  show AWp _ _ _ _ _ _ _
  refine aB (awp_count c.length (fun k => [(3, .bp 3 0 []), (100003, .bx (Tm.cw ⟨f, sidL d⟩)), (5, .own (.lst ((d.take k).map Lt.cv)) 200033), (200033, .tok 63 5), (8, .val (.lst (c.map Lt.cv))), (9, .val (.i (c.map Lt.cv).length)), (10, .val (.i k))])
    ((wk_nil 5 200033 63 5 rfl rfl rfl rfl rfl rfl rfl).trans (wk_sub ⟨rfl, rfl, rfl, rfl, rfl, rfl, rfl, trivial⟩)) ?_)
  intro k hk
  refine aS (aR ?_)
  (refine nx (a_lss (gN rfl) rfl rfl rfl rfl rfl rfl) rfl ?_)
  show AWp _ _ _ _ _ _ _
  refine aS (aC rfl (fun hlt => ?_) (fun hlt => ?_))
  · have hkl : k < c.length := by simpa using hlt
    obtain ⟨x, hx⟩ : ∃ x, c[k]? = some x := ⟨c[k], List.getElem?_eq_getElem hkl⟩
    obtain ⟨y, hy⟩ : ∃ y, d[k]? = some y := ⟨d[k], List.getElem?_eq_getElem (by omega)⟩
    have hneg : x.neg = y.neg := by
      have := congrArg (fun l => l[k]?) hcd
      simp only [List.getElem?_map, hx, hy, Option.map_some] at this
      injection this with this
      exact this.symm
    obtain ⟨n1, a1, b1⟩ := x
    simp only at hneg
    subst hneg
    have hx' := Lt.map_at hx
    obtain ⟨ha, hb⟩ := sidL_at hy
    have ha' := Tm.map_at ha
    have hb' := Tm.map_at hb
    have hsz2 : ∀ z ∈ (d.take k).map Lt.cv, z.size = 5 := Lt.size_all _
    have hl3 : ((d.take k).map Lt.cv).length ≤ 1000000 := by rw [List.length_map, List.length_take]; omega
    refine aK ?_
    show AWp _ _ _ _ _ _ _
    refine aS (aB (aS (aR ?_)))
    (refine nx (aM (gN rfl) rfl rfl rfl rfl rfl) rfl ?_)
    (refine nx (a_index (j := k) (gN rfl) rfl rfl rfl rfl rfl rfl rfl rfl rfl (hx') rfl (hsz)) rfl ?_)
    (refine nx (a_load_ad (gN rfl) rfl rfl rfl rfl rfl rfl rfl rfl rfl) rfl ?_)
    (refine nx (a_alloc (gN rfl) rfl rfl rfl rfl rfl rfl rfl rfl rfl rfl) rfl ?_)
    (refine nx (aA (gN rfl) rfl rfl rfl rfl rfl) rfl ?_)
    (refine nx (aSt (gN rfl) rfl rfl rfl rfl rfl rfl rfl rfl rfl rfl) rfl ?_)
    show AWp _ _ _ _ _ _ _
    refine aD (by kernel_rfl) (by kernel_rfl) ?_
    (refine nx (aM (gN rfl) rfl rfl rfl rfl rfl) rfl ?_)
    (refine nx (aF (gN rfl) rfl rfl rfl rfl rfl rfl rfl rfl rfl) rfl ?_)
    (refine nx (aLb (gN rfl) rfl rfl rfl rfl rfl rfl rfl rfl rfl rfl rfl rfl) rfl ?_)
    (refine nx (aF (gN rfl) rfl rfl rfl rfl rfl rfl rfl rfl rfl) rfl ?_)
    (refine nx (aLb (gN rfl) rfl rfl rfl rfl rfl rfl rfl rfl rfl rfl rfl rfl) rfl ?_)
    (refine nx (aM (gN rfl) rfl rfl rfl rfl rfl) rfl ?_)
    (refine nx (a_mul (gN rfl) rfl rfl rfl rfl rfl rfl (by first | omega | (simp only [List.length_map, List.length_append, List.length_cons, List.length_nil] <;> omega) | (simp <;> omega))) rfl ?_)
    (refine nx (a_index (j := (2 * k)) (gN rfl) rfl rfl rfl rfl rfl rfl rfl rfl rfl (ha') rfl (hszT)) rfl ?_)
    (refine nx (a_load_ad (gN rfl) rfl rfl rfl rfl rfl rfl rfl rfl rfl) rfl ?_)
    (refine nx (aF (gN rfl) rfl rfl rfl rfl rfl rfl rfl rfl rfl) rfl ?_)
    (refine nx (aLb (gN rfl) rfl rfl rfl rfl rfl rfl rfl rfl rfl rfl rfl rfl) rfl ?_)
    (refine nx (aM (gN rfl) rfl rfl rfl rfl rfl) rfl ?_)
    (refine nx (a_mul (gN rfl) rfl rfl rfl rfl rfl rfl (by first | omega | (simp only [List.length_map, List.length_append, List.length_cons, List.length_nil] <;> omega) | (simp <;> omega))) rfl ?_)
    (refine nx (a_add (gN rfl) rfl rfl rfl rfl rfl rfl (by first | omega | (simp only [List.length_map, List.length_append, List.length_cons, List.length_nil] <;> omega) | (simp <;> omega))) rfl ?_)
    (refine nx (a_index (j := (2 * k + 1)) (gN rfl) rfl rfl rfl rfl rfl rfl rfl rfl rfl (hb') rfl (hszT)) rfl ?_)
    (refine nx (a_load_ad (gN rfl) rfl rfl rfl rfl rfl rfl rfl rfl rfl) rfl ?_)
    (refine nx (a_build (gN rfl) rfl rfl rfl rfl rfl rfl rfl rfl rfl rfl rfl) rfl ?_)
    (refine nx (a_bslice (gN rfl) rfl rfl rfl rfl rfl rfl rfl rfl rfl rfl rfl rfl rfl) rfl ?_)
    (refine nx (a_app (gN rfl) rfl rfl rfl rfl rfl rfl rfl rfl rfl rfl rfl rfl rfl rfl rfl (by first | assumption | exact sZ rfl | exact Tm.size_all _ | exact Bd.size_all _ | exact ints_size _ | exact bys_size _ | exact Lt.size_all _) (by first | assumption | exact sZ rfl | exact Tm.size_all _ | exact Bd.size_all _ | exact ints_size _ | exact bys_size _ | exact Lt.size_all _) (by first | omega | (simp only [List.length_map, List.length_append, List.length_cons, List.length_nil] <;> omega) | (simp <;> omega))) rfl ?_)
    (refine nx (aA (gN rfl) rfl rfl rfl rfl rfl) rfl ?_)
    refine ⟨by kernel_rfl, ?_⟩
    show AWp _ _ _ _ _ _ _
    refine aR ?_
    (refine nx (a_add (gN rfl) rfl rfl rfl rfl rfl rfl (by first | omega | (simp only [List.length_map, List.length_append, List.length_cons, List.length_nil] <;> omega) | (simp <;> omega))) rfl ?_)
    (refine nx (aM (gN rfl) rfl rfl rfl rfl rfl) rfl ?_)
    refine ⟨hkl, Wk.trans (wk_sub (s' := [(3, .bp 3 0 []), (100003, .bx (Tm.cw ⟨f, sidL d⟩)), (5, .own (.lst ((d.take (k + 1)).map Lt.cv)) 300033), (300033, .tok 63 5), (8, .val (.lst (c.map Lt.cv))), (9, .val (.i (c.map Lt.cv).length)), (10, .val (.i ((k + 1 : Nat) : Int)))]) ⟨rfl, rfl, ?_, rfl, rfl, rfl, rfl, trivial⟩) (wk_ren 300033 200033 rfl rfl rfl rfl)⟩
    rw [List.take_add_one, hy]
    simp only [Option.toList_some, List.map_append, List.map_cons, List.map_nil]
    rfl
  · have hkl : k = d.length := by
      have : ¬ k < c.length := by simpa using hlt
      omega
    subst hkl
    rw [List.take_length]
    refine aE ?_
    show AWp _ _ _ _ _ _ _
    refine aS (aR ?_)
    (refine nx (aM (gN rfl) rfl rfl rfl rfl rfl) rfl ?_)
    (refine nx (aA (gN rfl) rfl rfl rfl rfl rfl) rfl ?_)
    show AWp _ _ _ _ _ _ _
    exact aT (And.intro (.inr rfl) rfl)

def Lt.rep (img : Int → Tm) (l : Lt) : Lt := ⟨l.neg, repT img l.a, repT img l.b⟩
theorem sidL_rep (img : Int → Tm) : ∀ c : List Lt, (sidL c).map (repT img) = sidL (c.map (Lt.rep img))
  | [] => rfl
  | l :: c => by
    show repT img l.a :: repT img l.b :: (sidL c).map (repT img) = _
    rw [sidL_rep img c]
    rfl
theorem rep_sides (img : Int → Tm) (c : List Lt) : repT img ⟨0, sidL c⟩ = ⟨0, sidL (c.map (Lt.rep img))⟩ := by
  rw [repT_sym (show ¬ (0 : Int) < 0 by decide), sidL_rep]
theorem rep_neg (img : Int → Tm) (c : List Lt) : (c.map (Lt.rep img)).map Lt.neg = c.map Lt.neg := by
  rw [List.map_map]; rfl

-- 
theorem cApply_abs (W : World) (L : List Bd) (c : List Lt) (hn : c.length ≤ 1000000) (hl : L.length ≤ 1000000000) (hb : bdsOk L) (hr : (⟨0, sidL c⟩ : Tm).rng) (hok : (⟨0, sidL c⟩ : Tm).ok) : AFun Tryz.prog W 22 [.lst (L.map Bd.cv), .lst (c.map Lt.cv)] (.val (.lst ((c.map (Lt.rep (imgB L))).map Lt.cv))) := by
  have h2 := fun w => applyG_abs w L ⟨0, sidL c⟩ hl hb hr hok
  rw [rep_sides] at h2
  refine afun_of (rs := [.lst ((c.map (Lt.rep (imgB L))).map Lt.cv)]) Tryz.func22 Tryz.ntmps22 rfl rfl rfl rfl ?_
  intro w U hW
  refine aS (aR ?_)
  (refine nx (aA (gN rfl) rfl rfl rfl rfl rfl) rfl ?_)
  show AWp _ _ _ _ _ _ _
  refine aS (aR ?_)
  (refine nx (aM (gN rfl) rfl rfl rfl rfl rfl) rfl ?_)
  (refine nx (aM (gN rfl) rfl rfl rfl rfl rfl) rfl ?_)
  (refine nx (aM (gN rfl) rfl rfl rfl rfl rfl) rfl ?_)
  (refine nx (a_call (gN rfl) rfl rfl rfl rfl rfl (cSides_abs w c hn)) rfl ?_)
  (refine nx (a_call (gN rfl) rfl rfl rfl rfl rfl (h2 w)) rfl ?_)
  (refine nx (a_call (gN rfl) rfl rfl rfl rfl rfl (cWith_abs w c _ 0 hn (rep_neg _ c))) rfl ?_)
  (refine nx (aA (gN rfl) rfl rfl rfl rfl rfl) rfl ?_)
  show AWp _ _ _ _ _ _ _
  exact aT (And.intro (.inr rfl) rfl)
end Go.Proofs.YtmeegdomncadpaaGreat
namespace Go.Proofs.YtmeegdomncadpaaGreat
open Go.RowKit
set_option linter.unusedVariables false
set_option linter.unusedSimpArgs false
section
variable {α β : Type}
def kDn (p : α → Bool) (l : List α) : Nat → Nat
  | 0 => 0
  | k + 1 => match l[k]? with
    | some y => if p y = true then kDn p l k else k + 1
    | none => k + 1
def insD (lt : α → α → Bool) (l : List α) (x : α) : List α := l.take (kDn (lt x) l l.length) ++ x :: l.drop (kDn (lt x) l l.length)
def srtD (lt : α → α → Bool) (c : List α) : List α := c.foldl (insD lt) []
theorem kDn_le (p : α → Bool) (l : List α) : ∀ k, kDn p l k ≤ k
  | 0 => Nat.le_refl _
  | k + 1 => by
    unfold kDn
    split
    · split
      · have := kDn_le p l k; omega
      · exact Nat.le_refl _
    · exact Nat.le_refl _
theorem kDn_app (p : α → Bool) (l m : List α) : ∀ k, k ≤ l.length → kDn p (l ++ m) k = kDn p l k
  | 0, _ => rfl
  | k + 1, h => by
    unfold kDn
    rw [List.getElem?_append_left (by omega), kDn_app p l m k (by omega)]
theorem kDn_yes {p : α → Bool} {l : List α} {y : α} (h : p y = true) : kDn p (l ++ [y]) (l ++ [y]).length = kDn p l l.length := by
  rw [List.length_append, List.length_singleton]
  show kDn p (l ++ [y]) (l.length + 1) = _
  unfold kDn
  rw [List.getElem?_append_right (Nat.le_refl _), Nat.sub_self]
  simp only [List.getElem?_cons_zero, h, if_true]
  rw [kDn_app p l [y] l.length (Nat.le_refl _)]
  cases l.length <;> rfl
theorem kDn_no {p : α → Bool} {l : List α} {y : α} (h : p y = false) : kDn p (l ++ [y]) (l ++ [y]).length = (l ++ [y]).length := by
  rw [List.length_append, List.length_singleton]
  show kDn p (l ++ [y]) (l.length + 1) = _
  unfold kDn
  rw [List.getElem?_append_right (Nat.le_refl _), Nat.sub_self]
  simp [h]
theorem snoc_all {Q : List α → Prop} (h0 : Q []) (h1 : ∀ l x, Q l → Q (l ++ [x])) : ∀ l, Q l := by
  intro l
  have : ∀ m : List α, Q m.reverse := fun m => by
    induction m with
    | nil => exact h0
    | cons x m ih => rw [List.reverse_cons]; exact h1 _ _ ih
  have := this l.reverse
  rwa [List.reverse_reverse] at this
theorem sink_ins (lt : α → α → Bool) (x : α) : ∀ (A R : List α), sink lt 0 A.length (A ++ x :: R) = insD lt A x ++ R := by
  intro A
  induction A using snoc_all with
  | h0 => intro R; rfl
  | h1 A y ih =>
    intro R
    rw [List.length_append, List.length_singleton]
    have hx : (A ++ [y] ++ x :: R)[A.length + 1]? = some x := by
      rw [List.getElem?_append_right (by simp)]; simp
    have hy : (A ++ [y] ++ x :: R)[A.length]? = some y := by
      rw [List.append_assoc, List.getElem?_append_right (Nat.le_refl _)]; simp
    cases h : lt x y with
    | true =>
      rw [sink_yes lt 0 hx hy (by omega) h]
      have e : ((A ++ [y] ++ x :: R).set (A.length + 1) y).set A.length x = A ++ x :: (y :: R) := by
        rw [List.append_assoc, List.set_append_right _ _ (by omega), List.set_append_right _ _ (Nat.le_refl _)]
        rw [show A.length + 1 - A.length = 1 by omega, Nat.sub_self]
        rfl
      rw [e, ih]
      unfold insD
      rw [kDn_yes h, List.take_append_of_le_length (kDn_le _ _ _), List.drop_append_of_le_length (kDn_le _ _ _)]
      simp
    | false =>
      rw [sink_no lt 0 hx hy h]
      unfold insD
      rw [kDn_no h, List.take_length, List.drop_length]
      simp
theorem insD_len (lt : α → α → Bool) (l : List α) (x : α) : (insD lt l x).length = l.length + 1 := by
  unfold insD
  have := kDn_le (lt x) l l.length
  rw [List.length_append, List.length_cons, List.length_take, List.length_drop]
  omega
theorem isort_ins (lt : α → α → Bool) : ∀ (n : Nat) (A B : List α), n ≤ B.length → isortN lt 0 n A.length (A ++ B) = (B.take n).foldl (insD lt) A ++ B.drop n
  | 0, A, B, _ => by simp [isortN]
  | n + 1, A, x :: B, h => by
    rw [isortN, sink_ins]
    have := isort_ins lt n (insD lt A x) B (by simpa using h)
    rw [insD_len] at this
    rw [this]
    simp
  | n + 1, A, [], h => by simp at h
theorem isort_srt0 (lt : α → α → Bool) (L : List α) : isortN lt 0 (L.length - 1) 1 L = srtD lt L := by
  cases L with
  | nil => rfl
  | cons x L =>
    have := isort_ins lt L.length [x] L (Nat.le_refl _)
    simp only [List.length_singleton, List.singleton_append, List.take_length, List.drop_length, List.append_nil] at this
    rw [List.length_cons, Nat.add_sub_cancel, this]
    rfl
theorem insD_perm (lt : α → α → Bool) (l : List α) (x : α) : (insD lt l x).Perm (x :: l) := by
  unfold insD
  refine List.perm_middle.trans ?_
  rw [List.take_append_drop]
theorem srtD_snoc (lt : α → α → Bool) (c : List α) (x : α) : srtD lt (c ++ [x]) = insD lt (srtD lt c) x := by
  unfold srtD
  rw [List.foldl_append]
  rfl
theorem srtD_perm (lt : α → α → Bool) (c : List α) : (srtD lt c).Perm c := by
  induction c using snoc_all with
  | h0 => exact List.Perm.refl _
  | h1 c x ih =>
    rw [srtD_snoc]
    refine (insD_perm lt _ x).trans ?_
    exact ((List.Perm.cons x ih).trans (List.perm_append_comm (l₁ := [x]) (l₂ := c)))
theorem kDn_map {lt1 : α → Bool} {lt2 : β → Bool} (g : α → β) (l : List α) (h : ∀ y ∈ l, lt1 y = lt2 (g y)) : ∀ k, kDn lt1 l k = kDn lt2 (l.map g) k
  | 0 => rfl
  | k + 1 => by
    unfold kDn
    rw [List.getElem?_map]
    cases hk : l[k]? with
    | none => rfl
    | some y =>
      simp only [Option.map_some]
      rw [h y (List.mem_of_getElem? hk), kDn_map g l h k]
theorem srtD_map {lt1 : α → α → Bool} {lt2 : β → β → Bool} (g : α → β) (c : List α) (h : ∀ x ∈ c, ∀ y ∈ c, lt1 x y = lt2 (g x) (g y)) : (srtD lt1 c).map g = srtD lt2 (c.map g) := by
  induction c using snoc_all with
  | h0 => rfl
  | h1 c x ih =>
    have ih := ih fun x hx y hy => h x (List.mem_append_left _ hx) y (List.mem_append_left _ hy)
    rw [srtD_snoc, List.map_append, List.map_singleton, srtD_snoc, ← ih]
    unfold insD
    have hk := kDn_map (lt1 := lt1 x) (lt2 := lt2 (g x)) g (srtD lt1 c) (fun y hy => h x (by simp) y (List.mem_append_left _ ((srtD_perm lt1 c).mem_iff.1 hy))) (srtD lt1 c).length
    rw [List.length_map, ← hk, List.map_append, List.map_cons, List.map_take, List.map_drop]
theorem kDn_split (p : α → Bool) (l : List α) : (∀ y ∈ l.drop (kDn p l l.length), p y = true) ∧ ∀ y, (l.take (kDn p l l.length)).getLast? = some y → p y = false := by
  induction l using snoc_all with
  | h0 => exact ⟨by simp [kDn], by simp [kDn]⟩
  | h1 l y ih =>
    cases h : p y with
    | true =>
      rw [kDn_yes h, List.drop_append_of_le_length (kDn_le _ _ _), List.take_append_of_le_length (kDn_le _ _ _)]
      refine ⟨fun z hz => ?_, ih.2⟩
      rcases List.mem_append.1 hz with hz | hz
      · exact ih.1 z hz
      · rw [List.mem_singleton.1 hz]; exact h
    | false =>
      rw [kDn_no h, List.take_length, List.drop_length]
      refine ⟨by simp, fun z hz => ?_⟩
      rw [List.getLast?_concat] at hz
      injection hz with hz
      rw [← hz]; exact h
theorem srtD_pairwise {lt : α → α → Bool} {R : α → α → Prop} (c : List α) (hlt : ∀ x y, lt x y = true → R x y) (htr : ∀ x y z, R x y → R y z → R x z) (hin : c.Pairwise fun x y => lt y x = false → R x y) : (srtD lt c).Pairwise R := by
  induction c using snoc_all with
  | h0 => exact List.Pairwise.nil
  | h1 c x ih =>
    rw [List.pairwise_append] at hin
    have ih := ih hin.1
    have hx : ∀ y ∈ srtD lt c, lt x y = false → R y x := fun y hy => hin.2.2 y ((srtD_perm lt c).mem_iff.1 hy) x (by simp)
    rw [srtD_snoc]
    obtain ⟨k1, k2⟩ := kDn_split (lt x) (srtD lt c)
    unfold insD
    generalize kDn (lt x) (srtD lt c) (srtD lt c).length = k at k1 k2
    have hall := ih
    rw [← List.take_append_drop k (srtD lt c), List.pairwise_append] at hall
    obtain ⟨p1, p2, p3⟩ := hall
    have hbe : ∀ y ∈ (srtD lt c).take k, R y x := by
      intro y hy
      cases hl : ((srtD lt c).take k).getLast? with
      | none =>
        rw [List.getLast?_eq_none_iff] at hl
        rw [hl] at hy; cases hy
      | some z =>
        have hz : R z x := hx z (List.mem_of_mem_take (List.mem_of_getLast? hl)) (k2 z hl)
        obtain ⟨ys, e⟩ := List.getLast?_eq_some_iff.1 hl
        rw [e] at hy p1
        rw [List.pairwise_append] at p1
        rcases List.mem_append.1 hy with hy | hy
        · exact htr y z x (p1.2.2 y hy z (by simp)) hz
        · rw [List.mem_singleton.1 hy]; exact hz
    rw [List.pairwise_append]
    refine ⟨p1, ?_, ?_⟩
    · rw [List.pairwise_cons]
      exact ⟨fun y hy => hlt x y (k1 y hy), p2⟩
    · intro a ha b hb
      rcases List.mem_cons.1 hb with rfl | hb
      · exact hbe a ha
      · exact p3 a ha b hb

def cptG (q : α → α → Bool) (L : List α) : Nat → List α
  | 0 => []
  | 1 => L.take 1
  | m + 2 => match L[m + 1]?, L[m]? with
    | some x, some y => if q x y = true then cptG q L (m + 1) else cptG q L (m + 1) ++ [x]
    | _, _ => cptG q L (m + 1)
theorem cptG_yes {q : α → α → Bool} {L : List α} {m : Nat} {x y : α} (hx : L[m + 1]? = some x) (hy : L[m]? = some y) (h : q x y = true) : cptG q L (m + 2) = cptG q L (m + 1) := by
  rw [cptG, hx, hy]; simp [h]
theorem cptG_no {q : α → α → Bool} {L : List α} {m : Nat} {x y : α} (hx : L[m + 1]? = some x) (hy : L[m]? = some y) (h : q x y = false) : cptG q L (m + 2) = cptG q L (m + 1) ++ [x] := by
  rw [cptG, hx, hy]; simp [h]
theorem cptG_one {q : α → α → Bool} {L : List α} : cptG q L 1 = L.take 1 := by rw [cptG]
theorem cptG_sub {q : α → α → Bool} {L : List α} : ∀ m, (cptG q L m).Sublist (L.take m)
  | 0 => by simp [cptG]
  | 1 => by rw [cptG]; exact List.Sublist.refl _
  | m + 2 => by
    have ih := cptG_sub (q := q) (L := L) (m + 1)
    have h2 : (L.take (m + 1)).Sublist (L.take (m + 2)) := List.take_sublist_take_left (by omega)
    rw [cptG]
    split
    · rename_i x y hx hy
      split
      · exact ih.trans h2
      · rw [List.take_add_one (i := m + 1), hx]
        exact ih.append (List.Sublist.refl _)
    · exact ih.trans h2
theorem cptG_mem {q : α → α → Bool} {L : List α} {x : α} : ∀ m, m ≤ L.length → (x ∈ cptG q L m ↔ ∃ i, i < m ∧ L[i]? = some x ∧ (i = 0 ∨ ∃ y, L[i - 1]? = some y ∧ q x y = false))
  | 0, _ => by simp [cptG]
  | 1, h => by
    rw [cptG]
    cases L with
    | nil => simp at h
    | cons z L =>
      simp only [List.take_succ_cons, List.take_zero, List.mem_singleton]
      constructor
      · rintro rfl
        exact ⟨0, by omega, rfl, .inl rfl⟩
      · rintro ⟨i, hi, h1, _⟩
        rw [show i = 0 by omega] at h1
        simpa using h1.symm
  | m + 2, h => by
    have ih := cptG_mem (q := q) (L := L) (x := x) (m + 1) (by omega)
    obtain ⟨a, ha⟩ : ∃ a, L[m + 1]? = some a := ⟨_, List.getElem?_eq_getElem (by omega)⟩
    obtain ⟨b, hb⟩ : ∃ b, L[m]? = some b := ⟨_, List.getElem?_eq_getElem (by omega)⟩
    cases hq : q a b with
    | true =>
      rw [cptG_yes ha hb hq, ih]
      constructor
      · rintro ⟨i, hi, r⟩
        exact ⟨i, by omega, r⟩
      · rintro ⟨i, hi, h1, h2⟩
        rcases Nat.lt_or_ge i (m + 1) with hlt | hge
        · exact ⟨i, hlt, h1, h2⟩
        · have hi : i = m + 1 := by omega
          subst hi
          rw [ha] at h1
          injection h1 with h1
          rcases h2 with h2 | ⟨y, hy, h2⟩
          · omega
          · rw [show m + 1 - 1 = m by omega, hb] at hy
            injection hy with hy
            rw [← h1, ← hy, hq] at h2
            cases h2
    | false =>
      rw [cptG_no ha hb hq, List.mem_append, ih, List.mem_singleton]
      constructor
      · rintro (⟨i, hi, r⟩ | rfl)
        · exact ⟨i, by omega, r⟩
        · exact ⟨m + 1, by omega, ha, .inr ⟨b, hb, hq⟩⟩
      · rintro ⟨i, hi, h1, h2⟩
        rcases Nat.lt_or_ge i (m + 1) with hlt | hge
        · exact .inl ⟨i, hlt, h1, h2⟩
        · have hi : i = m + 1 := by omega
          subst hi
          rw [ha] at h1
          injection h1 with h1
          exact .inr h1.symm
def dedD (q : α → α → Bool) (c : List α) : List α := c.foldl (fun out x => if out.any (fun y => q y x) then out else out ++ [x]) []
theorem dedD_snoc (q : α → α → Bool) (c : List α) (x : α) : dedD q (c ++ [x]) = if (dedD q c).any (fun y => q y x) then dedD q c else dedD q c ++ [x] := by
  unfold dedD
  rw [List.foldl_append]
  rfl
theorem asc_eq : ∀ {A B : List Int}, A.Pairwise (· < ·) → B.Pairwise (· < ·) → (∀ x, x ∈ A ↔ x ∈ B) → A = B
  | [], [], _, _, _ => rfl
  | [], y :: B, _, _, h => by have := (h y).2 (by simp); cases this
  | x :: A, [], _, _, h => by have := (h x).1 (by simp); cases this
  | x :: A, y :: B, hA, hB, h => by
    rw [List.pairwise_cons] at hA hB
    have hxy : x = y := by
      rcases List.mem_cons.1 ((h x).1 (by simp)) with e | e
      · exact e
      · rcases List.mem_cons.1 ((h y).2 (by simp)) with e2 | e2
        · exact e2.symm
        · have := hA.1 y e2; have := hB.1 x e; omega
    subst hxy
    congr 1
    refine asc_eq hA.2 hB.2 fun z => ⟨fun hz => ?_, fun hz => ?_⟩
    · rcases List.mem_cons.1 ((h z).1 (List.mem_cons_of_mem _ hz)) with e | e
      · have := hA.1 z hz; omega
      · exact e
    · rcases List.mem_cons.1 ((h z).2 (List.mem_cons_of_mem _ hz)) with e | e
      · have := hB.1 z hz; omega
      · exact e
end
def sgZ (b : Bool) : Int := if b then 1 else 0
def cmpLt (x y : Lt) : Int := if cmpZ (sgZ x.neg) (sgZ y.neg) ≠ 0 then cmpZ (sgZ x.neg) (sgZ y.neg) else cmpS x y
theorem cmpS_zero (x y : Lt) : cmpS x y = 0 ↔ x.a.strip = y.a.strip ∧ x.b.strip = y.b.strip := by
  unfold cmpS
  by_cases h : cmpT x.a y.a = 0
  · rw [if_neg (by simpa using h), cmpT_zero]
    exact ⟨fun e => ⟨(cmpT_zero _ _).1 h, e⟩, fun e => e.2⟩
  · rw [if_pos h]
    exact ⟨fun e => absurd e h, fun e => absurd ((cmpT_zero _ _).2 e.1) h⟩
theorem cmpS_turn (x y : Lt) : cmpS y x = - cmpS x y := by
  unfold cmpS
  rw [cmpT_turn x.a y.a, cmpT_turn x.b y.b]
  by_cases h : cmpT x.a y.a = 0
  · rw [if_neg (by omega), if_neg (by omega)]
  · rw [if_pos (by omega), if_pos (by omega)]
theorem cmpS_trans (x y z : Lt) : Goon (cmpS x y) (cmpS y z) (cmpS x z) := by
  unfold cmpS
  exact goon_step (cmpT_trans _ _ _) (cmpT_trans _ _ _) (fun e => cmpT_congr ((cmpT_zero _ _).1 e) _)
theorem sg_trans (a b c : Bool) : Goon (cmpZ (sgZ a) (sgZ b)) (cmpZ (sgZ b) (sgZ c)) (cmpZ (sgZ a) (sgZ c)) := by
  unfold Goon
  cases a <;> cases b <;> cases c <;> decide
theorem sg_turn (a b : Bool) : cmpZ (sgZ b) (sgZ a) = - cmpZ (sgZ a) (sgZ b) := by cases a <;> cases b <;> decide
theorem sg_zero (a b : Bool) : cmpZ (sgZ a) (sgZ b) = 0 ↔ a = b := by cases a <;> cases b <;> decide
theorem cmpLt_zero (x y : Lt) : cmpLt x y = 0 ↔ x.strip = y.strip := by
  obtain ⟨n, a, b⟩ := x
  obtain ⟨m, c, d⟩ := y
  unfold cmpLt Lt.strip
  by_cases h : n = m
  · subst h
    rw [if_neg (by simp [sg_zero]), cmpS_zero]
    simp
  · rw [if_pos (by simp only [ne_eq, sg_zero]; exact h)]
    simp only [sg_zero, Lt.mk.injEq]
    exact ⟨fun e => absurd e h, fun e => e.1⟩
theorem cmpLt_turn (x y : Lt) : cmpLt y x = - cmpLt x y := by
  unfold cmpLt
  rw [sg_turn x.neg y.neg, cmpS_turn x y]
  by_cases h : cmpZ (sgZ x.neg) (sgZ y.neg) = 0
  · rw [if_neg (by omega), if_neg (by omega)]
  · rw [if_pos (by omega), if_pos (by omega)]
theorem cmpLt_trans (x y z : Lt) : Goon (cmpLt x y) (cmpLt y z) (cmpLt x z) := by
  unfold cmpLt
  exact goon_step (sg_trans _ _ _) (cmpS_trans _ _ _) (fun e => by rw [(sg_zero _ _).1 e])
def litAt (c : List Lt) (m : Int) : Lt := (c[m.toNat]?).getD ⟨false, ⟨0, []⟩, ⟨0, []⟩⟩
theorem litAt_at {c : List Lt} {k : Nat} {x : Lt} (h : c[k]? = some x) : litAt c k = x := by
  unfold litAt
  rw [Int.toNat_natCast, h]; rfl
def ltI (c : List Lt) (m n : Int) : Bool := decide (cmpLt (litAt c m) (litAt c n) < 0)
def sameI (c : List Lt) (m n : Int) : Bool := decide (cmpLt (litAt c m) (litAt c n) = 0)
def plc1 (c : List Lt) : List Int := srtD (ltI c) (nums c.length)
def plc2 (c : List Lt) : List Int := cptG (sameI c) (plc1 c) (plc1 c).length
def plc3 (c : List Lt) : List Int := srtD (fun m n : Int => decide (m < n)) (plc2 c)
def wdL (c : List Lt) : List Lt := (plc3 c).map (litAt c)
def RI (c : List Lt) (m n : Int) : Prop := cmpLt (litAt c m) (litAt c n) < 0 ∨ (cmpLt (litAt c m) (litAt c n) = 0 ∧ m < n)
theorem RI_trans (c : List Lt) (x y z : Int) (h1 : RI c x y) (h2 : RI c y z) : RI c x z := by
  have g := cmpLt_trans (litAt c x) (litAt c y) (litAt c z)
  unfold RI at *
  unfold Goon at g
  have g := g (by omega) (by omega)
  by_cases e : cmpLt (litAt c x) (litAt c z) = 0
  · have := g.2 e
    right
    omega
  · left; omega
theorem nums_asc (n : Nat) : (nums n).Pairwise (· < ·) := by
  unfold nums
  rw [List.pairwise_map]
  exact List.pairwise_lt_range.imp fun h => by omega
theorem nums_mem {n : Nat} {m : Int} : m ∈ nums n ↔ 0 ≤ m ∧ m < n := by
  unfold nums
  rw [List.mem_map]
  constructor
  · rintro ⟨i, hi, rfl⟩
    have := List.mem_range.1 hi
    omega
  · intro h
    exact ⟨m.toNat, List.mem_range.2 (by omega), by omega⟩
theorem plc1_pw (c : List Lt) : (plc1 c).Pairwise (RI c) := by
  refine srtD_pairwise _ (fun x y h => .inl (by simpa [ltI] using h)) (RI_trans c) ?_
  refine (nums_asc c.length).imp fun {x y} hxy h => ?_
  have h : ¬ cmpLt (litAt c y) (litAt c x) < 0 := by simpa [ltI] using h
  rw [cmpLt_turn (litAt c x) (litAt c y)] at h
  unfold RI
  omega
theorem plc1_mem (c : List Lt) (m : Int) : m ∈ plc1 c ↔ 0 ≤ m ∧ m < c.length := by
  unfold plc1
  rw [(srtD_perm _ _).mem_iff, nums_mem]
def fstI (c : List Lt) (m : Int) : Prop := ∀ k : Int, 0 ≤ k → k < m → cmpLt (litAt c k) (litAt c m) ≠ 0
theorem pw_at {α : Type} {R : α → α → Prop} {l : List α} (h : l.Pairwise R) {i j : Nat} {x y : α} (hx : l[i]? = some x) (hy : l[j]? = some y) (hij : i < j) : R x y := by
  obtain ⟨h1, rfl⟩ := List.getElem?_eq_some_iff.1 hx
  obtain ⟨h2, rfl⟩ := List.getElem?_eq_some_iff.1 hy
  exact List.pairwise_iff_getElem.1 h i j h1 h2 hij
theorem plc2_mem (c : List Lt) (m : Int) : m ∈ plc2 c ↔ (0 ≤ m ∧ m < c.length) ∧ fstI c m := by
  have hpw := plc1_pw c
  unfold plc2
  rw [cptG_mem _ (Nat.le_refl _)]
  constructor
  · rintro ⟨i, hi, h1, h2⟩
    have hm := (plc1_mem c m).1 (List.mem_of_getElem? h1)
    refine ⟨hm, fun k hk0 hkm e => ?_⟩
    obtain ⟨j, hj, ej⟩ := List.mem_iff_getElem.1 ((plc1_mem c k).2 ⟨hk0, by omega⟩)
    have hj' : (plc1 c)[j]? = some k := by rw [List.getElem?_eq_getElem hj, ej]
    have e2 := cmpLt_turn (litAt c k) (litAt c m)
    rcases Nat.lt_trichotomy j i with hlt | heq | hgt
    · rcases h2 with h2 | ⟨y, hy, h2⟩
      · omega
      · have h2 : ¬ cmpLt (litAt c m) (litAt c y) = 0 := by simpa [sameI] using h2
        have e3 := cmpLt_turn (litAt c m) (litAt c y)
        have r1 := pw_at hpw hy h1 (by omega)
        rcases Nat.lt_or_ge j (i - 1) with h3 | h3
        · have r2 := pw_at hpw hj' hy h3
          have g := cmpLt_trans (litAt c k) (litAt c y) (litAt c m)
          unfold Goon at g
          unfold RI at r1 r2
          have g := (g (by omega) (by omega)).2 e
          omega
        · have : j = i - 1 := by omega
          subst this
          rw [hy] at hj'
          injection hj' with hj'
          rw [hj'] at h2
          omega
    · rw [heq, h1] at hj'
      injection hj' with hj'
      omega
    · have r := pw_at hpw h1 hj' hgt
      unfold RI at r
      omega
  · rintro ⟨hm, hf⟩
    obtain ⟨i, hi, ei⟩ := List.mem_iff_getElem.1 ((plc1_mem c m).2 hm)
    have hi' : (plc1 c)[i]? = some m := by rw [List.getElem?_eq_getElem hi, ei]
    refine ⟨i, hi, hi', ?_⟩
    by_cases h0 : i = 0
    · exact .inl h0
    · obtain ⟨y, hy⟩ : ∃ y, (plc1 c)[i - 1]? = some y := ⟨_, List.getElem?_eq_getElem (by omega)⟩
      refine .inr ⟨y, hy, ?_⟩
      have r := pw_at hpw hy hi' (by omega)
      have hym := (plc1_mem c y).1 (List.mem_of_getElem? hy)
      have e3 := cmpLt_turn (litAt c m) (litAt c y)
      unfold sameI
      rw [decide_eq_false_iff_not]
      intro e
      unfold RI at r
      exact hf y hym.1 (by omega) (by omega)
theorem plc2_nodup (c : List Lt) : (plc2 c).Pairwise (· ≠ ·) := by
  have h1 : (plc1 c).Pairwise (· ≠ ·) := (plc1_pw c).imp fun {x y} h e => by
    subst e
    unfold RI at h
    have := (cmpLt_zero (litAt c x) (litAt c x)).2 rfl
    omega
  unfold plc2
  refine List.Pairwise.sublist (cptG_sub _) ?_
  rw [List.take_length]
  exact h1
theorem plc3_asc (c : List Lt) : (plc3 c).Pairwise (· < ·) := by
  refine srtD_pairwise _ (fun x y h => by simpa using h) (fun x y z h1 h2 => by omega) ?_
  exact (plc2_nodup c).imp fun {x y} hne h => by
    have h : ¬ y < x := by simpa using h
    omega
theorem plc3_mem (c : List Lt) (m : Int) : m ∈ plc3 c ↔ (0 ≤ m ∧ m < c.length) ∧ fstI c m := by
  unfold plc3
  rw [(srtD_perm _ _).mem_iff, plc2_mem]
open Classical in
noncomputable def fsts (c : List Lt) (k : Nat) : List Int := (nums k).filter fun m => decide (fstI c m)
open Classical in
theorem plc3_eq (c : List Lt) : plc3 c = fsts c c.length := by
  refine asc_eq (plc3_asc c) ?_ fun m => ?_
  · unfold fsts
    exact (nums_asc _).filter _
  · unfold fsts
    rw [plc3_mem, List.mem_filter, nums_mem, decide_eq_true_iff]
theorem fst_ex (c : List Lt) : ∀ (n : Nat), ∃ i : Nat, i ≤ n ∧ fstI c i ∧ cmpLt (litAt c i) (litAt c n) = 0 := by
  intro n
  induction n using Nat.strongRecOn with
  | ind n ih =>
    by_cases h : fstI c n
    · exact ⟨n, Nat.le_refl _, h, (cmpLt_zero _ _).2 rfl⟩
    · unfold fstI at h
      simp only [Classical.not_forall, ne_eq, Decidable.not_not] at h
      obtain ⟨k, hk0, hkn, e⟩ := h
      obtain ⟨i, hi, hf, e2⟩ := ih k.toNat (by omega)
      rw [Int.toNat_of_nonneg hk0] at e2
      exact ⟨i, by omega, hf, (cmpLt_zero _ _).2 (((cmpLt_zero _ _).1 e2).trans ((cmpLt_zero _ _).1 e))⟩
def smL (x y : Lt) : Bool := decide (cmpLt x y = 0)
theorem nums_succ (k : Nat) : nums (k + 1) = nums k ++ [(k : Int)] := by
  unfold nums
  rw [List.range_succ, List.map_append]; rfl
open Classical in
theorem ded_fsts (c : List Lt) : ∀ k, k ≤ c.length → dedD smL (c.take k) = (fsts c k).map (litAt c)
  | 0, _ => by
    unfold fsts nums
    simp [dedD]
  | k + 1, h => by
    obtain ⟨x, hx⟩ : ∃ x, c[k]? = some x := ⟨_, List.getElem?_eq_getElem (by omega)⟩
    have hl := litAt_at hx
    rw [List.take_add_one, hx, Option.toList_some, dedD_snoc, ded_fsts c k (by omega)]
    have hs : fsts c (k + 1) = fsts c k ++ (if fstI c k then [(k : Int)] else []) := by
      unfold fsts
      rw [nums_succ, List.filter_append]
      congr 1
      by_cases hf : fstI c k <;> simp [List.filter, hf]
    have hany : ((fsts c k).map (litAt c)).any (fun y => smL y x) = true ↔ ¬ fstI c k := by
      rw [List.any_eq_true]
      constructor
      · rintro ⟨y, hy, hq⟩ hf
        obtain ⟨m, hm, rfl⟩ := List.mem_map.1 hy
        unfold fsts at hm
        rw [List.mem_filter, nums_mem] at hm
        refine hf m hm.1.1 hm.1.2 ?_
        rw [hl]
        simpa [smL] using hq
      · intro hf
        unfold fstI at hf
        simp only [Classical.not_forall, ne_eq, Decidable.not_not] at hf
        obtain ⟨j, hj0, hjk, e⟩ := hf
        obtain ⟨i, hi, hfi, e2⟩ := fst_ex c j.toNat
        rw [Int.toNat_of_nonneg hj0] at e2
        refine ⟨litAt c i, List.mem_map.2 ⟨i, ?_, rfl⟩, ?_⟩
        · unfold fsts
          rw [List.mem_filter, nums_mem, decide_eq_true_iff]
          exact ⟨by omega, hfi⟩
        · unfold smL
          rw [decide_eq_true_iff, ← hl]
          exact (cmpLt_zero _ _).2 (((cmpLt_zero _ _).1 e2).trans ((cmpLt_zero _ _).1 e))
    rw [hs, List.map_append]
    by_cases hf : fstI c k
    · rw [if_pos hf, if_neg (by rw [hany]; exact fun g => g hf)]
      simp [hl]
    · rw [if_neg hf, if_pos (hany.2 hf)]
      simp
theorem wd_ded (c : List Lt) : wdL c = dedD smL c := by
  have := ded_fsts c c.length (Nat.le_refl _)
  rw [List.take_length] at this
  rw [this]
  unfold wdL
  rw [plc3_eq]
end Go.Proofs.YtmeegdomncadpaaGreat
namespace Go.Proofs.YtmeegdomncadpaaGreat
open Go.RowKit
set_option linter.unusedVariables false
set_option linter.unusedSimpArgs false
set_option maxRecDepth 100000

end Go.Proofs.YtmeegdomncadpaaGreat
namespace Go.Proofs.YtmeegdomncadpaaGreat
open Go.RowKit
set_option linter.unusedVariables false
set_option linter.unusedSimpArgs false
section
variable {P : Program} {w0 : World} {U0 : UX} {nt : Nat} {ops : Array Oper} {o : Oper} {S : Nat → Option AV} {gs : List Nat} {d : Nat}
variable (hg : Gd w0 U0 nt ops o gs S) (hd : o.dst = some d) (hn : Nat.blt d nt = true) (h5 : Nat.blt d 100000 = true)
include hg hd hn h5
theorem a_addK {x y : Operand} {t1 t2 : TypeId} {k : IntKind} {i j : Int} {n q p n' q' p'} (ho : o.op = .binOp .add t1 x y t2) (hx : ev S x = some ⟨0, .sc (.int k i), n, q, p⟩) (hy : ev S y = some ⟨0, .sc (.int k j), n', q', p'⟩) (hr : k.wrap (i + j) = i + j) : AOp P w0 U0 nt ops o (gs ++ (rd x ++ rd y)) [] S [(d, .val (.sc (.int k (i + j))))] :=
  aop_int2 hg hd hn h5 ho hx hy (fun w => by simp [binOp, Op.intArith, hr, go_sem]) rfl
theorem a_convW {x : Operand} {src dst : TypeId} {k k' : IntKind} {i : Int} {ds : TypeDesc} {n q p} (ho : o.op = .convert src dst x) (hs1 : P.underlying src = some ds) (hu : P.underlying dst = some (.int k')) (hx : ev S x = some ⟨0, .sc (.int k i), n, q, p⟩) : AOp P w0 U0 nt ops o (gs ++ rd x) [] S [(d, .val (.sc (.int k' (k'.wrap i))))] :=
  aop_val hg hd hn h5 (fun k hk => List.mem_append_left _ hk) fun s hs a w D hv hm => by
    have e1 := ev_sc hm (fun k hk => hs k (List.mem_append_right _ hk)) hx
    refine ⟨.int k' (k'.wrap i), ?_, avrep_sc rfl⟩
    generalize a.eval = ρ at e1 ⊢
    simp [execOp, ho, e1, convert, Conv.intToInt, run_underlying hs1, run_underlying hu, go_sem]
end
end Go.Proofs.YtmeegdomncadpaaGreat
namespace Go.Proofs.YtmeegdomncadpaaGreat
set_option linter.unusedVariables false
def ub : Nat → Nat → List Int
  | 0, n => [(n : Int)]
  | k + 1, n => if n < 128 then [(n : Int)] else ((128 + n % 128 : Nat) : Int) :: ub k (n / 128)

def ubytes (n : Nat) : List Int := ub 9 n

def lenz (n : Nat) : Nat := if n = 0 then 0 else (ubytes n).length

def zz (n : Int) : Nat := if 0 ≤ n then (2 * n).toNat else (-2 * n - 1).toNat
end Go.Proofs.YtmeegdomncadpaaGreat
namespace Go.Proofs.YtmeegdomncadpaaGreat
open Go.RowKit
set_option linter.unusedVariables false






def lastAt : List Int → Option Nat
  | [] => none
  | b :: r => if b < 128 then some 0 else (lastAt r).map (· + 1)

def lastInt (l : List Int) : Int := match lastAt l with | none => -1 | some i => (i : Int)

theorem lastAt_none : ∀ {l : List Int}, (∀ i, i < l.length → 128 ≤ l.getD i 0) → lastAt l = none
  | [], _ => rfl
  | b :: r, h => by
    have h0 := h 0 (by simp)
    simp at h0
    rw [lastAt, if_neg (by omega), lastAt_none (fun i hi => by have := h (i + 1) (by simp; omega); simpa using this)]
    rfl
theorem lastAt_some : ∀ {l : List Int} {k : Nat}, k < l.length → (∀ i, i < k → 128 ≤ l.getD i 0) → l.getD k 0 < 128 → lastAt l = some k
  | [], k, hk, _, _ => by simp at hk
  | b :: r, 0, _, _, h => by simp at h; rw [lastAt, if_pos h]
  | b :: r, k + 1, hk, hp, h => by
    have h0 := hp 0 (by omega)
    simp at h0
    rw [lastAt, if_neg (by omega), lastAt_some (k := k) (by simpa using hk) (fun i hi => by have := hp (i + 1) (by omega); simpa using this) (by simpa using h)]
    rfl
theorem lastAt_lt : ∀ {l : List Int} {k : Nat}, lastAt l = some k → k < l.length ∧ (∀ i, i < k → 128 ≤ l.getD i 0) ∧ l.getD k 0 < 128
  | [], k, h => by cases h
  | b :: r, k, h => by
    rw [lastAt] at h
    split at h
    · cases h; exact ⟨by simp, by omega, by simpa⟩
    · rename_i hb
      cases hr : lastAt r with
      | none => rw [hr] at h; cases h
      | some j =>
        rw [hr] at h; cases h
        obtain ⟨h1, h2, h3⟩ := lastAt_lt hr
        refine ⟨by simp; omega, fun i hi => ?_, by simpa using h3⟩
        cases i with
        | zero => simp; omega
        | succ i => have := h2 i (by simp at hi; omega); simpa using this

def val : List Int → Nat
  | [] => 0
  | b :: r => (b % 128).toNat + 128 * val r

theorem val_snoc : ∀ (l : List Int) (b : Int), val (l ++ [b]) = val l + (b % 128).toNat * 128 ^ l.length
  | [], b => by simp [val]
  | c :: r, b => by
    rw [List.cons_append, val, val, val_snoc r b, List.length_cons, Nat.pow_succ, Nat.mul_add, Nat.add_assoc]
    congr 2
    rw [Nat.mul_left_comm, Nat.mul_comm 128]
theorem val_lt : ∀ (l : List Int), val l < 128 ^ l.length
  | [] => by simp [val]
  | c :: r => by
    have := val_lt r
    rw [val, List.length_cons, Nat.pow_succ]
    have h : (c % 128).toNat < 128 := by omega
    omega

def okNum (l : List Int) : Bool := decide (l.length ≤ 10 ∧ (l.length = 10 → l.getD (l.length - 1) 0 ≤ 1) ∧ (l.getD (l.length - 1) 0 ≠ 0 ∨ l.length = 1))

theorem andNot128 (X : Int) (h1 : 0 ≤ X) (h2 : X ≤ 255) : bits .andNot .u8 X 128 = X % 128 := by
  have h : ∀ a : Fin 256, bits .andNot .u8 ((a.val : Nat) : Int) 128 = ((a.val : Nat) : Int) % 128 := by decide +kernel
  have h3 := h ⟨X.toNat, by omega⟩
  simp only [Int.toNat_of_nonneg h1] at h3
  exact h3

theorem pow128 (j : Nat) : (2 : Int) ^ (7 * j) = ((128 ^ j : Nat) : Int) := by
  rw [Int.pow_mul]; simp

theorem join_step (x j : Nat) (X : Int) (hx : x < 128 ^ j) (h1 : 0 ≤ X) (h2 : X ≤ 255) (hj : j ≤ 9) (h9 : j = 9 → X ≤ 1) :
    bits .or .u64 (x : Int) (IntKind.u64.wrap (IntKind.u64.wrap (bits .andNot .u8 X 128) * 2 ^ (7 * j))) = ((x + (X % 128).toNat * 128 ^ j : Nat) : Int) ∧ x + (X % 128).toNat * 128 ^ j < 2 ^ 64 := by
  rw [andNot128 X h1 h2, pow128]
  obtain ⟨c, hc⟩ : ∃ c : Nat, X % 128 = (c : Int) := ⟨(X % 128).toNat, by omega⟩
  have hc7 : c < 128 := by omega
  have hlt : c * 128 ^ j + 128 ^ j ≤ 2 ^ 64 := by
    rcases Nat.lt_or_ge j 9 with hj' | hj'
    · have h8 : 128 ^ j ≤ 128 ^ 8 := Nat.pow_le_pow_right (by decide) (by omega)
      have : c * 128 ^ j ≤ 127 * 128 ^ 8 := Nat.mul_le_mul (by omega) h8
      omega
    · have e : j = 9 := by omega
      subst e
      have := h9 rfl
      have hc1 : c ≤ 1 := by omega
      clear hx
      show c * 9223372036854775808 + 9223372036854775808 ≤ 18446744073709551616
      omega
  have hp : 0 < 128 ^ j := Nat.pow_pos (by decide)
  rw [hc, Int.toNat_natCast]
  simp only [IntKind.wrap_u64]
  have e1 : (c : Int) % 18446744073709551616 = (c : Int) := by omega
  have e2 : ((c : Int) * ((128 ^ j : Nat) : Int)) % 18446744073709551616 = ((c * 128 ^ j : Nat) : Int) := by
    rw [← Int.natCast_mul]; omega
  rw [e1, e2]
  refine ⟨?_, by omega⟩
  rw [u64_or_nat x (c * 128 ^ j) (by omega) (by omega), Nat.or_comm]
  have e3 : 128 ^ j = 2 ^ (7 * j) := by rw [Nat.pow_mul]
  rw [nat_join (7 * j) (c * 128 ^ j) x (by rw [e3]; exact Nat.mul_mod_left _ _) (by rw [← e3]; exact hx), Nat.add_comm]

def unzz (n : Nat) : Int := if n % 2 = 0 then ((n / 2 : Nat) : Int) else -((n / 2 : Nat) : Int) - 1

theorem xor_i64_zero (x : Nat) (h : x < 9223372036854775808) : bits .xor .i64 (x : Int) 0 = (x : Int) := by
  unfold bits
  have e : BitVec.ofInt IntKind.i64.bits 0 = 0#64 := rfl
  have e2 : (BitVec.ofInt 64 (x : Int)).toNat = x := ofInt_u64 x (by omega)
  simp only [e]
  show IntKind.i64.wrap (((BitVec.ofInt 64 (x : Int)) ^^^ 0#64).toNat : Int) = _
  rw [BitVec.xor_zero, e2]
  simp [IntKind.wrap, IntKind.bits, IntKind.signed]
  omega
theorem xor_i64_ones (x : Nat) (h : x < 9223372036854775808) : bits .xor .i64 (x : Int) (-1) = -(x : Int) - 1 := by
  unfold bits
  have e2 : (BitVec.ofInt 64 (x : Int)).toNat = x := ofInt_u64 x (by omega)
  show IntKind.i64.wrap (((BitVec.ofInt 64 (x : Int)) ^^^ (BitVec.ofInt 64 (-1))).toNat : Int) = _
  have e : BitVec.ofInt 64 (-1) = BitVec.allOnes 64 := by decide
  rw [e, BitVec.xor_allOnes, BitVec.toNat_not, e2]
  simp [IntKind.wrap, IntKind.bits, IntKind.signed]
  omega

theorem unfold_eq (n : Nat) (hn : n < 2 ^ 64) : bits .xor .i64 ((n : Int) / 2) (wrap64 (-wrap64 (bits .and .u64 (n : Int) 1))) = unzz n := by
  have e1 : bits .and .u64 (n : Int) 1 = ((n % 2 : Nat) : Int) := by
    have := u64_and_nat n 1 (by omega) (by omega)
    rw [nat_mask1] at this
    exact this
  rw [e1, show (n : Int) / 2 = ((n / 2 : Nat) : Int) by omega]
  unfold unzz wrap64
  rcases Nat.mod_two_eq_zero_or_one n with h | h
  · rw [h, if_pos rfl]
    exact xor_i64_zero _ (by omega)
  · rw [h, if_neg (by decide)]
    exact xor_i64_ones _ (by omega)

theorem zz_unzz (n : Nat) : zz (unzz n) = n := by
  unfold unzz zz
  split <;> split <;> omega
theorem ret_bool {a b : Bool} (h : a = b) : Ending.returned (.bool a) = .returned (.bool b) := by rw [h]
theorem ret_int {k : IntKind} {a b : Int} (h : a = b) : Ending.returned (.int k a) = .returned (.int k b) := by rw [h]

set_option maxRecDepth 100000 in
set_option maxHeartbeats 400000 in
theorem isLast_any (c : Int) (w : World) : Calls Tryz.prog 152 #[.int .u8 c] w fun e w' => e = .returned (.bool (decide (c < 128))) ∧ w' = w := by
  go_enter Tryz.func152, Tryz.ntmps152
  go_wp2
  go_ret
  exact ⟨rfl, rfl⟩

set_option maxRecDepth 100000 in
set_option maxHeartbeats 400000 in
theorem unfold_any (n : Nat) (hn : n < 2 ^ 64) (w : World) :
    Calls Tryz.prog 162 #[.int .u64 (n : Int)] w fun e w' => e = .returned (.int .i64 (unzz n)) ∧ w' = w := by
  have hf : Hid (bits .xor .i64 ((n : Int) / 2) (wrap64 (-wrap64 (bits .and .u64 (n : Int) 1))) = unzz n) := unfold_eq n hn
  go_enter Tryz.func162, Tryz.ntmps162
  go_wp2
  go_ret
  exact ⟨ret_int hf.out, rfl⟩

theorem val_take {zs : List Int} {j : Nat} (h : j < zs.length) : val (zs.take (j + 1)) = val (zs.take j) + (zs.getD j 0 % 128).toNat * 128 ^ j := by
  rw [List.take_succ_eq_append_getElem h, val_snoc, List.length_take, Nat.min_eq_left (by omega)]
  simp [h]

theorem val_take_lt (zs : List Int) (j : Nat) (h : j ≤ zs.length) : val (zs.take j) < 128 ^ j := by
  have := val_lt (zs.take j)
  rwa [List.length_take, Nat.min_eq_left h] at this

set_option maxRecDepth 100000 in
set_option maxHeartbeats 400000 in
theorem join_any (a : Option Addr) (n cap : Nat) (zs : List Int) (w : World) (hb : Bs w a n zs) (hn : n ≤ 10) (h10 : n = 10 → zs.getD 9 0 ≤ 1) :
    Calls Tryz.prog 154 #[.slice a n cap] w fun e w' => e = .returned (.int .u64 (val zs : Int)) ∧ w' = w := by
  have H10 : Hid (n = 10 → zs.getD 9 0 ≤ 1) := h10
  clear h10
  go_enter Tryz.func154, Tryz.ntmps154
  go_wp2
  go_loop [3, 4, 5, 8] (fun v i c k => ∃ (x j : Nat), v = .int .u64 (x : Int) ∧ x < 2 ^ 64 ∧ k = .int .i64 (j : Int) ∧ j ≤ n ∧ x = val (zs.take j)) (fun v i c k => n - (intOf k).toNat)
  case atStart => exact ⟨0, 0, rfl, by decide, rfl, by omega, rfl⟩
  case round =>
    obtain ⟨x, j, rfl, hx, rfl, hj, hv⟩ := hrel
    have HV : Hid (x = val (zs.take j)) := hv
    clear hv
    by_cases hlt : j < n
    · obtain ⟨b1, b2, b3⟩ := hb
      have HL : Hid (zs.length = n) := b1
      clear b1
      rcases b3 with b3 | ⟨b, off, rfl, hb4, hc⟩
      · omega
      obtain ⟨X, hX⟩ : ∃ X, X = zs.getD j 0 := ⟨_, rfl⟩
      have c1 : w.cell? ⟨b, off + j, none⟩ = some (.int .u8 X) := by rw [hX]; exact hc j hlt
      have hXb : 0 ≤ X ∧ X ≤ 255 := by
        rw [hX, List.getD_eq_getElem?_getD, List.getElem?_eq_getElem (by rw [HL.out]; exact hlt)]
        exact b2 _ (List.getElem_mem _)
      have HX : Hid (X = zs.getD j 0) := hX
      clear hc hX b2
      go_wp2
      go_round
      case rel =>
        have hs := join_step x j X (by rw [HV.out]; exact val_take_lt zs j (by rw [HL.out]; omega)) hXb.1 hXb.2 (by omega) (fun h9 => by rw [HX.out, h9]; exact H10.out (by omega))
        exact ⟨_, j + 1, by rw [hs.1], hs.2, by go_num, by omega, by rw [val_take (by rw [HL.out]; exact hlt), ← HV.out, ← HX.out]⟩
      case measure => simp [intOf]; omega
    · have HL : Hid (zs.length = n) := hb.1
      clear hb
      go_wp2
      go_ret
      exact ⟨ret_int (by rw [HV.out, List.take_of_length_le (by rw [HL.out]; omega)]), rfl⟩

set_option maxRecDepth 100000 in
set_option maxHeartbeats 400000 in
theorem indexFunc_any (a : Option Addr) (n cap : Nat) (zs : List Int) (w : World) (hb : Bs w a n zs) (hn : n ≤ 140737488355328) :
    Calls Tryz.prog 151 #[.slice a n cap, .func (.func 152) #[] #[]] w fun e w' => e = .returned (.int .i64 (lastInt zs)) ∧ w' = w := by
  go_enter Tryz.func151, Tryz.ntmps151
  go_wp2
  go_loop [5, 8] (fun i k => ∃ (j : Nat), k = .int .i64 (j : Int) ∧ j ≤ n ∧ ∀ i, i < j → 128 ≤ zs.getD i 0) (fun _ k => n - (intOf k).toNat)
  case atStart => exact ⟨0, rfl, by omega, by omega⟩
  case round =>
    obtain ⟨j, rfl, hj, hv⟩ := hrel
    have HV : Hid (∀ i, i < j → 128 ≤ zs.getD i 0) := hv
    clear hv
    have HL : Hid (zs.length = n) := hb.1
    by_cases hlt : j < n
    · obtain ⟨b1, b2, b3⟩ := hb
      clear b1
      rcases b3 with b3 | ⟨b, off, rfl, hb4, hc⟩
      · omega
      obtain ⟨X, hX⟩ : ∃ X, X = zs.getD j 0 := ⟨_, rfl⟩
      have c1 : w.cell? ⟨b, off + j, none⟩ = some (.int .u8 X) := by rw [hX]; exact hc j hlt
      have HX : Hid (X = zs.getD j 0) := hX
      clear hc hX b2
      by_cases hX : X < 128
      · have hd : decide (X < 128) = true := by simpa using hX
        go_wp2_with fail
        refine (isLast_any X w).mono ?_
        rintro e w' ⟨rfl, rfl⟩
        go_wp2
        go_ret
        exact ⟨ret_int (by rw [lastInt, lastAt_some (by rw [HL.out]; exact hlt) HV.out (by rw [← HX.out]; exact hX)]), rfl⟩
      · have hd : decide (X < 128) = false := by simpa using hX
        go_wp2_with fail
        refine (isLast_any X w).mono ?_
        rintro e w' ⟨rfl, rfl⟩
        go_wp2
        go_round
        case rel => exact ⟨j + 1, by go_num, by omega, fun i hi => by rcases Nat.lt_or_ge i j with h | h; exact HV.out i h; rw [show i = j by omega, ← HX.out]; omega⟩
        case measure => simp [intOf]; omega
    · clear hb
      go_wp2
      go_ret
      exact ⟨ret_int (by rw [lastInt, lastAt_none (fun i hi => HV.out i (by rw [HL.out] at hi; omega))]), rfl⟩

set_option maxRecDepth 100000 in
set_option maxHeartbeats 400000 in
theorem isNumber_any (a : Option Addr) (n cap : Nat) (zs : List Int) (w : World) (hb : Bs w a n zs) (hn : n ≤ 140737488355328) (h0 : 0 < n) :
    Calls Tryz.prog 153 #[.slice a n cap] w fun e w' => e = .returned (.bool (okNum zs)) ∧ w' = w := by
  obtain ⟨b1, b2, b3⟩ := hb
  rcases b3 with b3 | ⟨b, off, rfl, hb4, hc⟩
  · omega
  obtain ⟨X, hX⟩ : ∃ X, X = zs.getD (n - 1) 0 := ⟨_, rfl⟩
  have hok : okNum zs = decide (n ≤ 10 ∧ (n = 10 → X ≤ 1) ∧ (X ≠ 0 ∨ n = 1)) := by rw [okNum, b1, hX]
  obtain ⟨m, rfl⟩ : ∃ m, n = m + 1 := ⟨n - 1, by omega⟩
  have c1 : w.cell? ⟨b, off + m, none⟩ = some (.int .u8 X) := by rw [hX]; exact hc m (by omega)
  have HO : Hid (okNum zs = decide (m + 1 ≤ 10 ∧ (m + 1 = 10 → X ≤ 1) ∧ (X ≠ 0 ∨ m + 1 = 1))) := hok
  clear hc hX hok b1 b2
  go_enter Tryz.func153, Tryz.ntmps153
  go_wp2
  all_goals go_ret
  all_goals refine ⟨ret_bool ?_, rfl⟩
  all_goals rw [HO.out]
  · exact (decide_eq_false (by omega)).symm
  · exact (decide_eq_false (by omega)).symm
  · exact (decide_eq_false (by omega)).symm
  · exact (decide_eq_true (by omega)).symm
  · rw [Bool.eq_iff_iff, beq_iff_eq, decide_eq_true_iff]; omega
  · exact (decide_eq_true (by omega)).symm
set_option maxRecDepth 100000 in
set_option maxHeartbeats 400000 in
theorem uint_end (a : Option Addr) (k cap : Nat) (zs : List Int) (p : Nat) (w : World) (hb : Bs w a k zs) (hk : k ≤ 70368744177664) (hkc : k ≤ cap) (hp : p ≤ k) (he : lastAt (zs.drop p) = none) :
    Calls Tryz.prog 124 #[.slice a k cap, .int .i64 (p : Int)] w fun e w' => e = .returned (.tuple #[.int .u64 0, .int .i64 0, .int .u8 10]) ∧ w' = w := by
  have h1 : decide ((p : Int) < 0) = false := by simp
  have h2 : decide ((k : Int) < (p : Int)) = false := by simp; omega
  have hli : lastInt (zs.drop p) = -1 := by rw [lastInt, he]
  rcases Nat.lt_or_ge p cap with hpc | hpc
  · clear he
    go_enter Tryz.func124, Tryz.ntmps124
    go_wp2_with fail
    refine (indexFunc_any _ _ _ (zs.drop p) w (hb.drop hp) (by omega)).mono ?_
    rintro e w' ⟨rfl, rfl⟩
    rw [hli]
    go_wp2
    go_ret3
    exact ⟨rfl, rfl⟩
  · have e1 : p = k := by omega
    have e2 : cap = k := by omega
    subst e1 e2
    have hd : zs.drop cap = [] := by rw [List.drop_eq_nil_iff, hb.1]; omega
    rw [hd] at hli
    clear he hd
    go_enter Tryz.func124, Tryz.ntmps124
    go_wp2_with fail
    refine (indexFunc_any _ 0 _ [] w (Bs.empty w _) (by omega)).mono ?_
    rintro e w' ⟨rfl, rfl⟩
    rw [hli]
    go_wp2
    go_ret3
    exact ⟨rfl, rfl⟩

theorem lastInt_some {l : List Int} {i : Nat} (h : lastAt l = some i) : lastInt l = (i : Int) := by rw [lastInt, h]

set_option maxRecDepth 100000 in
set_option maxHeartbeats 400000 in
theorem uint_form (a : Option Addr) (k cap : Nat) (zs : List Int) (p i : Nat) (w : World) (hb : Bs w a k zs) (hk : k ≤ 70368744177664) (hkc : k ≤ cap) (hp : p ≤ k) (he : lastAt (zs.drop p) = some i) (hok : okNum ((zs.drop p).take (i + 1)) = false) :
    Calls Tryz.prog 124 #[.slice a k cap, .int .i64 (p : Int)] w fun e w' => e = .returned (.tuple #[.int .u64 0, .int .i64 0, .int .u8 7]) ∧ w' = w := by
  have h1 : decide ((p : Int) < 0) = false := by simp
  have h2 : decide ((k : Int) < (p : Int)) = false := by simp; omega
  have hli := lastInt_some he
  have hlt := (lastAt_lt he).1
  rw [List.length_drop, hb.1] at hlt
  have hpc : p < cap := by omega
  have HK : Hid (okNum ((zs.drop p).take (i + 1)) = false) := hok
  clear he hok
  go_enter Tryz.func124, Tryz.ntmps124
  go_wp2_with fail
  refine (indexFunc_any _ _ _ (zs.drop p) w (hb.drop hp) (by omega)).mono ?_
  rintro e w' ⟨rfl, rfl⟩
  rw [hli]
  have hi0 : decide ((i : Int) < 0) = false := by simp
  clear hli
  go_wp2_with fail
  rw [show p + i + 1 - p = i + 1 from by omega]
  refine (isNumber_any _ (i + 1) _ ((zs.drop p).take (i + 1)) _ ((hb.drop hp).take (by omega)) (by omega) (by omega)).mono ?_
  rintro e w1 ⟨rfl, rfl⟩
  rw [HK.out]
  go_wp2
  go_ret3
  exact ⟨rfl, rfl⟩

set_option maxRecDepth 100000 in
set_option maxHeartbeats 400000 in
theorem uint_ok (a : Option Addr) (k cap : Nat) (zs : List Int) (p i : Nat) (w : World) (hb : Bs w a k zs) (hk : k ≤ 70368744177664) (hkc : k ≤ cap) (hp : p ≤ k) (he : lastAt (zs.drop p) = some i) (hok : okNum ((zs.drop p).take (i + 1)) = true) :
    Calls Tryz.prog 124 #[.slice a k cap, .int .i64 (p : Int)] w fun e w' => e = .returned (.tuple #[.int .u64 (val ((zs.drop p).take (i + 1)) : Int), .int .i64 ((p + i + 1 : Nat) : Int), .int .u8 0]) ∧ w' = w := by
  have h1 : decide ((p : Int) < 0) = false := by simp
  have h2 : decide ((k : Int) < (p : Int)) = false := by simp; omega
  have hli := lastInt_some he
  have hlt := (lastAt_lt he).1
  rw [List.length_drop, hb.1] at hlt
  have hpc : p < cap := by omega
  have HK : Hid (okNum ((zs.drop p).take (i + 1)) = true) := hok
  have hlen : ((zs.drop p).take (i + 1)).length = i + 1 := by rw [List.length_take, List.length_drop, hb.1]; omega
  have h3 : i + 1 ≤ 10 ∧ (i + 1 = 10 → ((zs.drop p).take (i + 1)).getD 9 0 ≤ 1) := by
    have := of_decide_eq_true hok
    rw [hlen] at this
    refine ⟨this.1, fun h => ?_⟩
    have h4 := this.2.1 h
    rwa [show i + 1 - 1 = 9 by omega] at h4
  obtain ⟨h10, h11⟩ := h3
  have H11 : Hid (i + 1 = 10 → ((zs.drop p).take (i + 1)).getD 9 0 ≤ 1) := h11
  clear he hok h11 hlen
  go_enter Tryz.func124, Tryz.ntmps124
  go_wp2_with fail
  refine (indexFunc_any _ _ _ (zs.drop p) w (hb.drop hp) (by omega)).mono ?_
  rintro e w' ⟨rfl, rfl⟩
  rw [hli]
  have hi0 : decide ((i : Int) < 0) = false := by simp
  clear hli
  go_wp2_with fail
  rw [show p + i + 1 - p = i + 1 from by omega]
  refine (isNumber_any _ (i + 1) _ ((zs.drop p).take (i + 1)) _ ((hb.drop hp).take (by omega)) (by omega) (by omega)).mono ?_
  rintro e w1 ⟨rfl, rfl⟩
  rw [HK.out]
  go_wp2_with fail
  rw [show p + i + 1 - p = i + 1 from by omega]
  refine (join_any _ (i + 1) _ ((zs.drop p).take (i + 1)) _ ((hb.drop hp).take (by omega)) (by omega) H11.out).mono ?_
  rintro e w2 ⟨rfl, rfl⟩
  go_wp2
  go_ret3
  exact ⟨rfl, rfl⟩
def rdU (l : List Int) : Nat × Nat × Nat :=
  match lastAt l with
  | none => (0, 0, 10)
  | some i => if okNum (l.take (i + 1)) then (val (l.take (i + 1)), i + 1, 0) else (0, 0, 7)

theorem uint_err (a : Option Addr) (k cap : Nat) (zs : List Int) (p er : Nat) (w : World) (hb : Bs w a k zs) (hk : k ≤ 70368744177664) (hkc : k ≤ cap) (hp : p ≤ k) (he : rdU (zs.drop p) = (0, 0, er)) (h0 : er ≠ 0) :
    Calls Tryz.prog 124 #[.slice a k cap, .int .i64 (p : Int)] w fun e w' => e = .returned (.tuple #[.int .u64 0, .int .i64 0, .int .u8 (er : Int)]) ∧ w' = w := by
  unfold rdU at he
  cases hl : lastAt (zs.drop p) with
  | none => rw [hl] at he; cases he; exact uint_end a k cap zs p w hb hk hkc hp hl
  | some i =>
    rw [hl] at he
    cases ho : okNum ((zs.drop p).take (i + 1)) with
    | true => simp [ho] at he
    | false => simp [ho] at he; subst he; exact uint_form a k cap zs p i w hb hk hkc hp hl ho

theorem uint_read (a : Option Addr) (k cap : Nat) (zs : List Int) (p v c : Nat) (w : World) (hb : Bs w a k zs) (hk : k ≤ 70368744177664) (hkc : k ≤ cap) (hp : p ≤ k) (he : rdU (zs.drop p) = (v, c, 0)) :
    Calls Tryz.prog 124 #[.slice a k cap, .int .i64 (p : Int)] w fun e w' => e = .returned (.tuple #[.int .u64 (v : Int), .int .i64 ((p + c : Nat) : Int), .int .u8 0]) ∧ w' = w := by
  unfold rdU at he
  cases hl : lastAt (zs.drop p) with
  | none => rw [hl] at he; cases he
  | some i =>
    rw [hl] at he
    cases ho : okNum ((zs.drop p).take (i + 1)) with
    | false => simp [ho] at he
    | true => simp [ho] at he; obtain ⟨rfl, rfl⟩ := he; exact uint_ok a k cap zs p i w hb hk hkc hp hl ho

theorem rdU_bounds {l : List Int} {v c : Nat} (hwf : ∀ z ∈ l, 0 ≤ z ∧ z ≤ 255) (h : rdU l = (v, c, 0)) : v < 2 ^ 64 ∧ 1 ≤ c ∧ c ≤ l.length ∧ c ≤ 10 := by
  unfold rdU at h
  cases hl : lastAt l with
  | none => rw [hl] at h; cases h
  | some i =>
    rw [hl] at h
    have h1 := lastAt_lt hl
    cases ho : okNum (l.take (i + 1)) with
    | false => simp [ho] at h
    | true =>
      simp [ho] at h
      obtain ⟨rfl, rfl⟩ := h
      have h2 := of_decide_eq_true ho
      have hlen : (l.take (i + 1)).length = i + 1 := by rw [List.length_take]; omega
      rw [hlen] at h2
      refine ⟨?_, by omega, by omega, by omega⟩
      rcases Nat.lt_or_ge i 9 with h9 | h9
      · have h3 := val_lt (l.take (i + 1))
        rw [hlen] at h3
        have h4 : 128 ^ (i + 1) ≤ 128 ^ 9 := Nat.pow_le_pow_right (by decide) (by omega)
        exact Nat.lt_of_lt_of_le h3 (Nat.le_trans h4 (by decide))
      · have e : i = 9 := by omega
        subst e
        have h5 := h2.2.1 rfl
        have h6 : 9 < l.length := h1.1
        have h7 : l.take (9 + 1) = l.take 9 ++ [l[9]] := List.take_succ_eq_append_getElem h6
        rw [h7, val_snoc]
        have h8 := val_lt (l.take 9)
        have h9 : (l.take 9).length = 9 := by rw [List.length_take]; omega
        rw [h9] at h8 ⊢
        have h10 : (l.take (9 + 1)).getD (9 + 1 - 1) 0 = l[9] := by simp [h6]
        rw [h10] at h5
        have h12 := hwf l[9] (List.getElem_mem h6)
        have h11 : (l[9] % 128).toNat ≤ 1 := by omega
        clear h1 h2 h5 h7 h9 h10 h12 ho hl hlen hwf
        generalize (l[9] % 128).toNat = t at *
        generalize val (l.take 9) = u at *
        have h13 : u < 9223372036854775808 := h8
        show u + t * 9223372036854775808 < 18446744073709551616
        clear h8
        omega

set_option maxRecDepth 100000 in
set_option maxHeartbeats 400000 in
theorem int_err (a : Option Addr) (k cap : Nat) (zs : List Int) (p er : Nat) (w : World) (hb : Bs w a k zs) (hk : k ≤ 70368744177664) (hkc : k ≤ cap) (hp : p ≤ k) (he : rdU (zs.drop p) = (0, 0, er)) (h0 : er ≠ 0) :
    Calls Tryz.prog 155 #[.slice a k cap, .int .i64 (p : Int)] w fun e w' => e = .returned (.tuple #[.int .i64 0, .int .i64 0, .int .u8 (er : Int)]) ∧ w' = w := by
  have hb0 : ((er : Int) != 0) = true := by simp; omega
  have HE : Hid (rdU (zs.drop p) = (0, 0, er)) := he
  clear he
  go_enter Tryz.func155, Tryz.ntmps155
  go_wp2_with fail
  refine (uint_err a k cap zs p er w hb hk hkc hp HE.out h0).mono ?_
  rintro e w1 ⟨rfl, rfl⟩
  go_wp2
  go_ret3
  exact ⟨rfl, rfl⟩

set_option maxRecDepth 100000 in
set_option maxHeartbeats 400000 in
theorem int_read (a : Option Addr) (k cap : Nat) (zs : List Int) (p v c : Nat) (w : World) (hb : Bs w a k zs) (hk : k ≤ 70368744177664) (hkc : k ≤ cap) (hp : p ≤ k) (he : rdU (zs.drop p) = (v, c, 0)) :
    Calls Tryz.prog 155 #[.slice a k cap, .int .i64 (p : Int)] w fun e w' => e = .returned (.tuple #[.int .i64 (unzz v), .int .i64 ((p + c : Nat) : Int), .int .u8 0]) ∧ w' = w := by
  have hv := (rdU_bounds (fun z hz => hb.2.1 z (List.mem_of_mem_drop hz)) he).1
  have HE : Hid (rdU (zs.drop p) = (v, c, 0)) := he
  clear he
  go_enter Tryz.func155, Tryz.ntmps155
  go_wp2_with fail
  refine (uint_read a k cap zs p v c w hb hk hkc hp HE.out).mono ?_
  rintro e w1 ⟨rfl, rfl⟩
  go_wp2_with fail
  refine (unfold_any v hv _).mono ?_
  rintro e w2 ⟨rfl, rfl⟩
  go_wp2
  go_ret3
  exact ⟨rfl, rfl⟩
def canon : List Int → Prop
  | [] => False
  | b :: r => match r with
    | [] => 0 < b ∧ b < 128
    | _ :: _ => 128 ≤ b ∧ b ≤ 255 ∧ canon r

theorem canon_cons {b : Int} {r : List Int} (hb : 128 ≤ b ∧ b ≤ 255) (hr : canon r) : canon (b :: r) := by
  cases r with
  | nil => cases hr
  | cons c t => exact ⟨hb.1, hb.2, hr⟩

theorem ubytes_zero : ubytes 0 = [0] := by decide

theorem canon_val : ∀ (m : List Int), canon m → 0 < val m
  | [], h => by cases h
  | [b], h => by have := h.1; have := h.2; simp [val]; omega
  | b :: c :: t, h => by have := canon_val (c :: t) h.2.2; rw [val]; omega
theorem canon_same : ∀ (k : Nat) (m : List Int), canon m → m.length ≤ k + 1 → ub k (val m) = m
  | _, [], h, _ => by cases h
  | k, [b], h, _ => by
    have h1 := h.1
    have h2 := h.2
    have e : val [b] = b.toNat := by simp [val]; omega
    rw [e]
    cases k with
    | zero => simp [ub]; omega
    | succ k => rw [ub, if_pos (by omega)]; simp; omega
  | 0, b :: c :: t, _, hl => by simp at hl
  | k + 1, b :: c :: t, h, hl => by
    have h1 := h.1
    have h2 := h.2.1
    have hp := canon_val _ h.2.2
    have ih := canon_same k (c :: t) h.2.2 (by simpa using hl)
    have e : val (b :: c :: t) = (b % 128).toNat + 128 * val (c :: t) := rfl
    rw [e, ub, if_neg (by omega)]
    have e1 : ((b % 128).toNat + 128 * val (c :: t)) / 128 = val (c :: t) := by omega
    have e2 : ((128 + ((b % 128).toNat + 128 * val (c :: t)) % 128 : Nat) : Int) = b := by omega
    rw [e1, e2, ih]
theorem canon_of : ∀ (l : List Int) (i : Nat), (∀ z ∈ l, 0 ≤ z ∧ z ≤ 255) → lastAt l = some i → l.getD i 0 ≠ 0 → canon (l.take (i + 1))
  | [], i, _, h, _ => by cases h
  | b :: r, i, hwf, h, h0 => by
    have hb := hwf b (by simp)
    rw [lastAt] at h
    split at h
    · cases h
      simp at h0
      exact ⟨by omega, by assumption⟩
    · cases hr : lastAt r with
      | none => rw [hr] at h; cases h
      | some j =>
        rw [hr] at h; cases h
        rw [List.take_succ_cons]
        exact canon_cons ⟨by omega, hb.2⟩ (canon_of r j (fun z hz => hwf z (by simp [hz])) hr (by simpa using h0))

theorem rdU_same {l : List Int} {v c : Nat} (hwf : ∀ z ∈ l, 0 ≤ z ∧ z ≤ 255) (h : rdU l = (v, c, 0)) : ubytes v = l.take c := by
  unfold rdU at h
  cases hl : lastAt l with
  | none => rw [hl] at h; cases h
  | some i =>
    rw [hl] at h
    have h1 := lastAt_lt hl
    cases ho : okNum (l.take (i + 1)) with
    | false => simp [ho] at h
    | true =>
      simp [ho] at h
      obtain ⟨rfl, rfl⟩ := h
      have h2 := of_decide_eq_true ho
      have hlen : (l.take (i + 1)).length = i + 1 := by rw [List.length_take]; omega
      rw [hlen] at h2
      have e : (l.take (i + 1)).getD (i + 1 - 1) 0 = l.getD i 0 := by simp [List.getD_eq_getElem?_getD]
      rw [e] at h2
      by_cases h0 : l.getD i 0 = 0
      · have hi : i = 0 := by omega
        subst hi
        cases l with
        | nil => simp at h1
        | cons b r => simp at h0; subst h0; simp [val, ubytes_zero]
      · exact canon_same 9 _ (canon_of l i hwf hl h0) (by omega)
end Go.Proofs.YtmeegdomncadpaaGreat
namespace Go.Proofs.YtmeegdomncadpaaGreat
set_option linter.unusedVariables false
set_option linter.unusedSimpArgs false
def wT : Tm → List Int
  | ⟨f, l⟩ => ubytes (zz f) ++ (if f < 0 then [] else ubytes l.length ++ (l.map wT).flatten)
theorem wT_var {t : Tm} (h : t.f < 0) : wT t = ubytes (zz t.f) := by
  cases t with
  | mk f l => rw [wT, if_pos h, List.append_nil]
theorem wT_sym {t : Tm} (h : ¬ t.f < 0) : wT t = ubytes (zz t.f) ++ (ubytes t.l.length ++ t.l.flatMap wT) := by
  cases t with
  | mk f l => rw [wT, if_neg h, List.flatMap_def]
def wL (l : Lt) : List Int := (if l.neg then 1 else 0) :: (wT l.a ++ wT l.b)
def wC (c : List Lt) : List Int := ubytes c.length ++ c.flatMap wL

def rN (most : Nat) (l : List Int) : Except Nat (Nat × Nat) := match rdU l with
  | (v, c, 0) => if v > most then .error 7 else .ok (v, c)
  | (_, _, e + 1) => .error (e + 1)
def rH (l : List Int) : Except Nat (Int × Nat) := match rdU l with
  | (v, c, 0) => if -2147483648 ≤ unzz v ∧ unzz v ≤ 2147483647 then .ok (unzz v, c) else .error 7
  | (_, _, e + 1) => .error (e + 1)
def rMany {α : Type} (g : List Int → Except Nat (α × Nat)) : Nat → List Int → Except Nat (List α × Nat)
  | 0, _ => .ok ([], 0)
  | n + 1, l => match g l with
    | .error e => .error e
    | .ok (x, c) => match rMany g n (l.drop c) with
      | .error e => .error e
      | .ok (xs, c') => .ok (x :: xs, c + c')
def rList {α : Type} (g : List Int → Except Nat (α × Nat)) (l : List Int) : Except Nat (List α × Nat) := match rN 4096 l with
  | .error e => .error e
  | .ok (n, c) => match rMany g n (l.drop c) with
    | .error e => .error e
    | .ok (xs, c') => .ok (xs, c + c')
def rT : Nat → List Int → Except Nat (Tm × Nat)
  | 0, _ => .error 7
  | d + 1, l => match rH l with
    | .error e => .error e
    | .ok (f, c) => if f < 0 then .ok (⟨f, []⟩, c) else match rList (rT d) (l.drop c) with
      | .error e => .error e
      | .ok (xs, c') => .ok (⟨f, xs⟩, c + c')
def rL (l : List Int) : Except Nat (Lt × Nat) := match rN 1 l with
  | .error e => .error e
  | .ok (n, c) => match rT 257 (l.drop c) with
    | .error e => .error e
    | .ok (a, c1) => match rT 257 (l.drop (c + c1)) with
      | .error e => .error e
      | .ok (b, c2) => .ok (⟨decide (n = 1), a, b⟩, c + c1 + c2)
def rC (l : List Int) : Except Nat (List Lt × Nat) := rList rL l

def wfB (l : List Int) : Prop := ∀ z ∈ l, 0 ≤ z ∧ z ≤ 255
theorem wfB.drop {l : List Int} (h : wfB l) (n : Nat) : wfB (l.drop n) := fun z hz => h z (List.mem_of_mem_drop hz)
def Rt {α : Type} (w : α → List Int) (l : List Int) (r : Except Nat (α × Nat)) : Prop := ∀ x c, r = .ok (x, c) → c ≤ l.length ∧ w x = l.take c
theorem rdU_len {l : List Int} {v c : Nat} (h : rdU l = (v, c, 0)) : c ≤ l.length := by
  unfold rdU at h
  cases hl : lastAt l with
  | none => rw [hl] at h; cases h
  | some i =>
    rw [hl] at h
    simp only at h
    split at h
    · cases h; have := (lastAt_lt hl).1; omega
    · cases h
theorem rN_back {most : Nat} {l : List Int} (hw : wfB l) : Rt ubytes l (rN most l) := fun x c h => by
  unfold rN at h
  split at h
  · rename_i v c' hr
    split at h
    · cases h
    · cases h; exact ⟨rdU_len hr, rdU_same hw hr⟩
  · cases h
theorem rH_back {l : List Int} (hw : wfB l) : Rt (fun f => ubytes (zz f)) l (rH l) := fun x c h => by
  unfold rH at h
  split at h
  · rename_i v c' hr
    split at h
    · cases h; exact ⟨rdU_len hr, by show ubytes (zz (unzz v)) = _; rw [zz_unzz]; exact rdU_same hw hr⟩
    · cases h
  · cases h
theorem take_two (l : List Int) (c c' : Nat) : l.take c ++ (l.drop c).take c' = l.take (c + c') := (List.take_add ..).symm
theorem rMany_back {α : Type} {g : List Int → Except Nat (α × Nat)} {w : α → List Int} (hg : ∀ l, wfB l → Rt w l (g l)) : ∀ (n : Nat) (l : List Int), wfB l → ∀ xs c, rMany g n l = .ok (xs, c) → c ≤ l.length ∧ xs.flatMap w = l.take c ∧ xs.length = n
  | 0, l, _, xs, c, h => by cases h; exact ⟨Nat.zero_le _, rfl, rfl⟩
  | n + 1, l, hw, xs, c, h => by
    rw [rMany] at h
    split at h
    · cases h
    · rename_i x c1 h1
      split at h
      · cases h
      · rename_i ys c2 h2
        cases h
        obtain ⟨a1, a2⟩ := hg l hw x c1 h1
        obtain ⟨b1, b2, b3⟩ := rMany_back hg n (l.drop c1) (hw.drop _) ys c2 h2
        rw [List.length_drop] at b1
        exact ⟨by omega, by rw [List.flatMap_cons, a2, b2, take_two], by rw [List.length_cons, b3]⟩
theorem rList_back {α : Type} {g : List Int → Except Nat (α × Nat)} {w : α → List Int} (hg : ∀ l, wfB l → Rt w l (g l)) {l : List Int} (hw : wfB l) : Rt (fun xs => ubytes xs.length ++ xs.flatMap w) l (rList g l) := fun x c h => by
  unfold rList at h
  split at h
  · cases h
  · rename_i n c1 h1
    split at h
    · cases h
    · rename_i ys c2 h2
      cases h
      obtain ⟨a1, a2⟩ := rN_back hw n c1 h1
      obtain ⟨b1, b2, b3⟩ := rMany_back hg n (l.drop c1) (hw.drop _) x c2 h2
      rw [List.length_drop] at b1
      exact ⟨by omega, by show ubytes x.length ++ x.flatMap w = _; rw [b3, a2, b2, take_two]⟩
theorem rT_back : ∀ (d : Nat) (l : List Int), wfB l → Rt wT l (rT d l)
  | 0, l, _ => fun x c h => by cases h
  | d + 1, l, hw => fun x c h => by
    rw [rT] at h
    split at h
    · cases h
    · rename_i f c1 h1
      obtain ⟨a1, a2⟩ := rH_back hw f c1 h1
      have a2 : ubytes (zz f) = l.take c1 := a2
      split at h
      · rename_i hf
        cases h
        exact ⟨a1, by rw [wT_var (t := ⟨f, []⟩) hf]; exact a2⟩
      · rename_i hf
        split at h
        · cases h
        · rename_i xs c2 h2
          cases h
          obtain ⟨b1, b2⟩ := rList_back (rT_back d) (hw.drop c1) xs c2 h2
          have b2 : ubytes xs.length ++ xs.flatMap wT = (l.drop c1).take c2 := b2
          rw [List.length_drop] at b1
          refine ⟨by omega, ?_⟩
          rw [wT_sym (t := ⟨f, xs⟩) hf]
          show ubytes (zz f) ++ (ubytes xs.length ++ xs.flatMap wT) = _
          rw [a2, b2, take_two]
theorem ub_one : ubytes 1 = [1] := by decide
theorem rL_back (l : List Int) (hw : wfB l) : Rt wL l (rL l) := fun x c h => by
  unfold rL at h
  split at h
  · cases h
  · rename_i n c1 h1
    split at h
    · cases h
    · rename_i a c2 h2
      split at h
      · cases h
      · rename_i b c3 h3
        cases h
        obtain ⟨a1, a2⟩ := rN_back hw n c1 h1
        obtain ⟨b1, b2⟩ := rT_back 257 (l.drop c1) (hw.drop _) a c2 h2
        obtain ⟨d1, d2⟩ := rT_back 257 (l.drop (c1 + c2)) (hw.drop _) b c3 h3
        rw [List.length_drop] at b1 d1
        have hn : n ≤ 1 := by
          unfold rN at h1
          split at h1
          · split at h1
            · cases h1
            · cases h1; omega
          · cases h1
        refine ⟨by omega, ?_⟩
        unfold wL
        show (if decide (n = 1) = true then 1 else 0) :: (wT a ++ wT b) = _
        rw [← take_two, ← take_two, ← a2, b2, d2, List.append_assoc]
        have : ubytes n = [if decide (n = 1) = true then 1 else 0] := by
          rcases Nat.lt_or_ge n 1 with h | h
          · obtain rfl : n = 0 := by omega
            exact ubytes_zero
          · obtain rfl : n = 1 := by omega
            exact ub_one
        rw [this]
        rfl
def Er {α : Type} (r : Except Nat (α × Nat)) : Prop := ∀ e, r = .error e → e = 7 ∨ e = 10
theorem rdU_er {l : List Int} {v c e : Nat} (h : rdU l = (v, c, e + 1)) : e + 1 = 7 ∨ e + 1 = 10 := by
  unfold rdU at h
  split at h
  · simp only [Prod.mk.injEq] at h; omega
  · split at h <;> simp only [Prod.mk.injEq] at h <;> omega
theorem rN_er {most : Nat} {l : List Int} : Er (rN most l) := fun e h => by
  unfold rN at h
  split at h
  · split at h
    · cases h; exact .inl rfl
    · cases h
  · rename_i hr; cases h; exact rdU_er hr
theorem rH_er {l : List Int} : Er (rH l) := fun e h => by
  unfold rH at h
  split at h
  · split at h
    · cases h
    · cases h; exact .inl rfl
  · rename_i hr; cases h; exact rdU_er hr
theorem rMany_er {α : Type} {g : List Int → Except Nat (α × Nat)} (hg : ∀ l, Er (g l)) : ∀ (n : Nat) (l : List Int), Er (rMany g n l)
  | 0, _ => fun e h => by cases h
  | n + 1, l => fun e h => by
    rw [rMany] at h
    split at h
    · rename_i h1; cases h; exact hg _ _ h1
    · split at h
      · rename_i h2; cases h; exact rMany_er hg n _ _ h2
      · cases h
theorem rList_er {α : Type} {g : List Int → Except Nat (α × Nat)} (hg : ∀ l, Er (g l)) (l : List Int) : Er (rList g l) := fun e h => by
  unfold rList at h
  split at h
  · rename_i h1; cases h; exact rN_er _ h1
  · split at h
    · rename_i h2; cases h; exact rMany_er hg _ _ _ h2
    · cases h
theorem rT_er : ∀ (d : Nat) (l : List Int), Er (rT d l)
  | 0, _ => fun e h => by cases h; exact .inl rfl
  | d + 1, l => fun e h => by
    rw [rT] at h
    split at h
    · rename_i h1; cases h; exact rH_er _ h1
    · split at h
      · cases h
      · split at h
        · rename_i h2; cases h; exact rList_er (rT_er d) _ _ h2
        · cases h
theorem rL_er (l : List Int) : Er (rL l) := fun e h => by
  unfold rL at h
  split at h
  · rename_i h1; cases h; exact rN_er _ h1
  · split at h
    · rename_i h2; cases h; exact rT_er _ _ _ h2
    · split at h
      · rename_i h3; cases h; exact rT_er _ _ _ h3
      · cases h
structure Thru {α : Type} (g : List Int → Except Nat (α × Nat)) (w : List Int) (x : α) : Prop where
  back : ∀ r, g (w ++ r) = .ok (x, w.length)
  cut : ∀ j, j < w.length → g (w.take j) = .error 10
end Go.Proofs.YtmeegdomncadpaaGreat
namespace Go.Proofs.YtmeegdomncadpaaGreat
open Go.RowKit
set_option linter.unusedVariables false
set_option linter.unusedSimpArgs false
set_option maxRecDepth 100000
abbrev by8 (z : Int) : CV := .sc (.int .u8 z)
theorem bys_sq {U : Nat → Nat → Prop} {w : World} : ∀ (l : List Int) {xs : List Value}, Sq ((l.map by8).map fun c => Rep U w c) xs → xs = cb l
  | [], xs, h => h
  | z :: l, xs, ⟨ys, zs, e, h1, h2⟩ => by
    obtain ⟨rfl, _⟩ := rep_sc.1 h1
    rw [e, bys_sq l h2]
    rfl
theorem bs_of_vrep {U : Nat → Nat → Prop} {w : World} {l : List Int} {v : Value} (hw : wfB l) (h : VRep U w (.lst (l.map by8)) v) : ∃ a n c, v = .slice a n c ∧ n ≤ c ∧ (a = none → n = 0 ∧ c = 0) ∧ Bs w a n l ∧ n = l.length := by
  obtain ⟨a, n, c, rfl, h2, h3, h4, h5, xs, h6, h7⟩ := vrep_lst.1 h
  have e := bys_sq l h7
  subst e
  rw [List.length_map] at h2
  refine ⟨a, n, c, rfl, h3, h5, ⟨h2.symm, hw, ?_⟩, h2⟩
  rcases h6 with h6 | ⟨b, off, h6, h8⟩
  · left
    have : l = [] := by
      cases l with
      | nil => rfl
      | cons z l => cases h6
    rw [h2, this]; rfl
  · by_cases h0 : n = 0
    · exact .inl h0
    · right
      have hlen : (cb l).length = n := by unfold cb; rw [List.length_map]; exact h2.symm
      refine ⟨b, off, h6, ?_, fun i hi => ?_⟩
      · have := (h8 0 (by omega)).2
        rw [List.getElem?_eq_getElem (by omega)] at this
        exact World.block_lt_of_cell? w _ this
      · have := (h8 i (by omega)).2
        rw [this]
        unfold cb
        rw [List.getElem?_map, List.getElem?_eq_getElem (by omega)]
        show some (Value.int .u8 l[i]) = _
        rw [List.getD_eq_getElem?_getD, List.getElem?_eq_getElem (by omega)]
        rfl
def gU (zs : List Int) (p : Int) : Int × Int × Int :=
  if p < 0 ∨ p > zs.length then (0, 0, 1) else match rdU (zs.drop p.toNat) with
    | (v, c, 0) => (v, p + c, 0)
    | (_, _, e + 1) => (0, 0, ((e + 1 : Nat) : Int))
def gI (zs : List Int) (p : Int) : Int × Int × Int :=
  if p < 0 ∨ p > zs.length then (0, 0, 1) else match rdU (zs.drop p.toNat) with
    | (v, c, 0) => (unzz v, p + c, 0)
    | (_, _, e + 1) => (0, 0, ((e + 1 : Nat) : Int))
theorem rdU_zero {l : List Int} {v c e : Nat} (h : rdU l = (v, c, e + 1)) : v = 0 ∧ c = 0 := by
  unfold rdU at h
  split at h
  · simp only [Prod.mk.injEq] at h; omega
  · split at h
    · cases h
    · simp only [Prod.mk.injEq] at h; omega
theorem tup3 {U : Nat → Nat → Prop} {w : World} {x y z : Value} (hx : x.oneCell' = true) (hy : y.oneCell' = true) (hz : z.oneCell' = true) : RR U w (.tup [.sc x, .sc y, .sc z]) (.tuple #[x, y, z]) :=
  ⟨[x, y, z], rfl, ⟨_, _, rfl, vrep_sc.2 ⟨rfl, hx⟩, _, _, rfl, vrep_sc.2 ⟨rfl, hy⟩, _, _, rfl, vrep_sc.2 ⟨rfl, hz⟩, rfl⟩⟩
-- 
theorem cUintA_abs (W : World) (zs : List Int) (hl : zs.length ≤ 1000000) (p : Int) (h : p < 0 ∨ p > zs.length) : AFun Tryz.prog W 124 [.lst (zs.map by8), .i p] (.tup [.sc (.int .u64 0), .i 0, .sc (.int .u8 1)]) := by
  refine afun_of (rs := [.sc (.int .u64 0), .i 0, .sc (.int .u8 1)]) Tryz.func124 Tryz.ntmps124 rfl rfl rfl rfl ?_
  intro w U hW
  refine aS (aR ?_)
  (refine nx (aA (gN rfl) rfl rfl rfl rfl rfl) rfl ?_)
  (refine nx (aA (gN rfl) rfl rfl rfl rfl rfl) rfl ?_)
  (refine nx (aA (gN rfl) rfl rfl rfl rfl rfl) rfl ?_)
  show AWp _ _ _ _ _ _ _
  by_cases h0 : p < 0
  · have g0 : decide (p < 0) = true := by simpa using h0
    refine aS (aS (aR ?_))
    (refine nx (aM (gN rfl) rfl rfl rfl rfl rfl) rfl ?_)
    (refine nx (a_lss (gN rfl) rfl rfl rfl rfl rfl rfl) rfl ?_)
    (refine nx (aM (gN rfl) rfl rfl rfl rfl rfl) rfl ?_)
    (refine ⟨_, _, _, a_off (go_off rfl rfl rfl rfl (by first | rfl | assumption | (simp; done) | (simp [*]; done))) rfl rfl rfl, rfl, ?_⟩)
    (refine ⟨_, _, _, a_off (go_off rfl rfl rfl rfl (by first | rfl | assumption | (simp; done) | (simp [*]; done))) rfl rfl rfl, rfl, ?_⟩)
    (refine ⟨_, _, _, a_off (go_off rfl rfl rfl rfl (by first | rfl | assumption | (simp; done) | (simp [*]; done))) rfl rfl rfl, rfl, ?_⟩)
    (refine ⟨_, _, _, a_off (go_off rfl rfl rfl rfl (by first | rfl | assumption | (simp; done) | (simp [*]; done))) rfl rfl rfl, rfl, ?_⟩)
    (refine ⟨_, _, _, aPt (gN rfl) rfl rfl rfl rfl rfl ?hb rfl, rfl, ?_⟩; case hb => (first | rfl | assumption | (simp; done)))
    show AWp _ _ _ _ _ _ _
    refine aC rfl (fun hc => ?_) (fun hc => by cases hc)
    refine aS (aR ?_)
    (refine nx (aA (gN rfl) rfl rfl rfl rfl rfl) rfl ?_)
    (refine nx (aA (gN rfl) rfl rfl rfl rfl rfl) rfl ?_)
    (refine nx (aA (gN rfl) rfl rfl rfl rfl rfl) rfl ?_)
    show AWp _ _ _ _ _ _ _
    exact aT (And.intro (.inr rfl) rfl)
  · have g0 : decide (p < 0) = false := by simpa using h0
    refine aS (aS (aR ?_))
    (refine nx (aM (gN rfl) rfl rfl rfl rfl rfl) rfl ?_)
    (refine nx (a_lss (gN rfl) rfl rfl rfl rfl rfl rfl) rfl ?_)
    (refine nx (aM (gN rfl) rfl rfl rfl rfl rfl) rfl ?_)
    (refine nx (aM (gd_on rfl rfl rfl rfl (by first | rfl | assumption | (simp; done))) rfl rfl rfl rfl rfl) rfl ?_)
    (refine nx (aM (gd_on rfl rfl rfl rfl (by first | rfl | assumption | (simp; done))) rfl rfl rfl rfl rfl) rfl ?_)
    (refine nx (a_len (gd_on rfl rfl rfl rfl (by first | rfl | assumption | (simp; done))) rfl rfl rfl rfl rfl rfl rfl) rfl ?_)
    (refine nx (a_gtr (gd_on rfl rfl rfl rfl (by first | rfl | assumption | (simp; done))) rfl rfl rfl rfl rfl rfl) rfl ?_)
    (refine ⟨_, _, _, aPf (gN rfl) rfl rfl rfl rfl rfl ?hb rfl, rfl, ?_⟩; case hb => (first | rfl | assumption | (simp; done)))
    show AWp _ _ _ _ _ _ _
    refine aC rfl (fun hc => ?_) (fun hc => ?_)
    · refine aS (aR ?_)
      (refine nx (aA (gN rfl) rfl rfl rfl rfl rfl) rfl ?_)
      (refine nx (aA (gN rfl) rfl rfl rfl rfl rfl) rfl ?_)
      (refine nx (aA (gN rfl) rfl rfl rfl rfl rfl) rfl ?_)
      show AWp _ _ _ _ _ _ _
      exact aT (And.intro (.inr rfl) rfl)
    · exfalso
      have hc := of_decide_eq_false hc
      rw [List.length_map] at hc
      omega
-- 
theorem cIntA_abs (W : World) (zs : List Int) (hl : zs.length ≤ 1000000) (p : Int) (h : p < 0 ∨ p > zs.length) : AFun Tryz.prog W 155 [.lst (zs.map by8), .i p] (.tup [.i 0, .i 0, .sc (.int .u8 1)]) := by
  refine afun_of (rs := [.i 0, .i 0, .sc (.int .u8 1)]) Tryz.func155 Tryz.ntmps155 rfl rfl rfl rfl ?_
  intro w U hW
  refine aS (aR ?_)
  (refine nx (aA (gN rfl) rfl rfl rfl rfl rfl) rfl ?_)
  (refine nx (aA (gN rfl) rfl rfl rfl rfl rfl) rfl ?_)
  (refine nx (aA (gN rfl) rfl rfl rfl rfl rfl) rfl ?_)
  show AWp _ _ _ _ _ _ _
  refine aS (aR ?_)
  (refine nx (aM (gN rfl) rfl rfl rfl rfl rfl) rfl ?_)
  (refine nx (aM (gN rfl) rfl rfl rfl rfl rfl) rfl ?_)
  (refine nx (a_call (gN rfl) rfl rfl rfl rfl rfl (cUintA_abs w zs hl p h)) rfl ?_)
  (refine nx (aM (gN rfl) rfl rfl rfl rfl rfl) rfl ?_)
  (refine nx (aX (gN rfl) rfl rfl rfl rfl rfl rfl) rfl ?_)
  (refine nx (aX (gN rfl) rfl rfl rfl rfl rfl rfl) rfl ?_)
  (refine nx (aX (gN rfl) rfl rfl rfl rfl rfl rfl) rfl ?_)
  (refine nx (aA (gN rfl) rfl rfl rfl rfl rfl) rfl ?_)
  (refine nx (aA (gN rfl) rfl rfl rfl rfl rfl) rfl ?_)
  (refine nx (aA (gN rfl) rfl rfl rfl rfl rfl) rfl ?_)
  show AWp _ _ _ _ _ _ _
  refine aS (aS (aR ?_))
  (refine nx (aM (gN rfl) rfl rfl rfl rfl rfl) rfl ?_)
  (refine nx (a_neq (gN rfl) rfl rfl rfl rfl rfl rfl) rfl ?_)
  show AWp _ _ _ _ _ _ _
  refine aC rfl (fun hc => ?_) (fun hc => by cases hc)
  refine aS (aR ?_)
  (refine nx (aM (gN rfl) rfl rfl rfl rfl rfl) rfl ?_)
  (refine nx (aA (gN rfl) rfl rfl rfl rfl rfl) rfl ?_)
  (refine nx (aA (gN rfl) rfl rfl rfl rfl rfl) rfl ?_)
  (refine nx (aA (gN rfl) rfl rfl rfl rfl rfl) rfl ?_)
  show AWp _ _ _ _ _ _ _
  exact aT (And.intro (.inr rfl) rfl)
theorem cUint_abs (W : World) (zs : List Int) (hw : wfB zs) (hl : zs.length ≤ 1000000) (p : Int) : AFun Tryz.prog W 124 [.lst (zs.map by8), .i p] (.tup [.sc (.int .u64 (gU zs p).1), .i (gU zs p).2.1, .sc (.int .u8 (gU zs p).2.2)]) := by
  by_cases hp : p < 0 ∨ p > zs.length
  · have e : gU zs p = (0, 0, 1) := by unfold gU; rw [if_pos hp]
    rw [e]
    exact cUintA_abs W zs hl p hp
  refine ⟨ent_of Tryz.func124 rfl rfl, .inr rfl, rfl, ?_⟩
  rintro U w vs _ ⟨u1, us1, rfl, g1, u2, us2, rfl, g2, g3⟩
  have g3 : us2 = [] := g3
  subst g3
  obtain ⟨a, n, c, rfl, hc, hnil, hb, hn⟩ := bs_of_vrep hw g1
  obtain ⟨rfl, _⟩ := vrep_sc.1 g2
  obtain ⟨q, rfl⟩ : ∃ q : Nat, p = q := ⟨p.toNat, by omega⟩
  obtain ⟨⟨v, c1, e1⟩, hr⟩ : ∃ r, rdU (zs.drop q) = r := ⟨_, rfl⟩
  have eg : gU zs q = match rdU (zs.drop q) with
    | (v, c, 0) => ((v : Int), ((q : Int) + c), 0)
    | (_, _, e + 1) => (0, 0, ((e + 1 : Nat) : Int)) := by unfold gU; rw [if_neg hp]; rfl
  rw [hr] at eg
  cases e1 with
  | zero =>
    rw [eg]
    refine (uint_read a n c zs q v c1 w hb (by omega) hc (by omega) hr).mono ?_
    rintro e w' ⟨rfl, rfl⟩
    exact ⟨_, rfl, by rw [Int.natCast_add]; exact tup3 rfl rfl rfl, Below.refl _ _⟩
  | succ e1 =>
    rw [eg]
    obtain ⟨rfl, rfl⟩ := rdU_zero hr
    refine (uint_err a n c zs q (e1 + 1) w hb (by omega) hc (by omega) hr (by omega)).mono ?_
    rintro e w' ⟨rfl, rfl⟩
    exact ⟨_, rfl, tup3 rfl rfl rfl, Below.refl _ _⟩
theorem cInt_abs (W : World) (zs : List Int) (hw : wfB zs) (hl : zs.length ≤ 1000000) (p : Int) : AFun Tryz.prog W 155 [.lst (zs.map by8), .i p] (.tup [.i (gI zs p).1, .i (gI zs p).2.1, .sc (.int .u8 (gI zs p).2.2)]) := by
  by_cases hp : p < 0 ∨ p > zs.length
  · have e : gI zs p = (0, 0, 1) := by unfold gI; rw [if_pos hp]
    rw [e]
    exact cIntA_abs W zs hl p hp
  refine ⟨ent_of Tryz.func155 rfl rfl, .inr rfl, rfl, ?_⟩
  rintro U w vs _ ⟨u1, us1, rfl, g1, u2, us2, rfl, g2, g3⟩
  have g3 : us2 = [] := g3
  subst g3
  obtain ⟨a, n, c, rfl, hc, hnil, hb, hn⟩ := bs_of_vrep hw g1
  obtain ⟨rfl, _⟩ := vrep_sc.1 g2
  obtain ⟨q, rfl⟩ : ∃ q : Nat, p = q := ⟨p.toNat, by omega⟩
  obtain ⟨⟨v, c1, e1⟩, hr⟩ : ∃ r, rdU (zs.drop q) = r := ⟨_, rfl⟩
  have eg : gI zs q = match rdU (zs.drop q) with
    | (v, c, 0) => (unzz v, ((q : Int) + c), 0)
    | (_, _, e + 1) => (0, 0, ((e + 1 : Nat) : Int)) := by unfold gI; rw [if_neg hp]; rfl
  rw [hr] at eg
  cases e1 with
  | zero =>
    rw [eg]
    refine (int_read a n c zs q v c1 w hb (by omega) hc (by omega) hr).mono ?_
    rintro e w' ⟨rfl, rfl⟩
    exact ⟨_, rfl, by rw [Int.natCast_add]; exact tup3 rfl rfl rfl, Below.refl _ _⟩
  | succ e1 =>
    rw [eg]
    obtain ⟨rfl, rfl⟩ := rdU_zero hr
    refine (int_err a n c zs q (e1 + 1) w hb (by omega) hc (by omega) hr (by omega)).mono ?_
    rintro e w' ⟨rfl, rfl⟩
    exact ⟨_, rfl, tup3 rfl rfl rfl, Below.refl _ _⟩
noncomputable abbrev rB (zs : List Int) : AS := [(300001, .mrow 5 1 (zs.map by8))]
-- 
theorem cSign_abs (W : World) (l : Lt) : AFun Tryz.prog W 102 [l.cw] (.val (by8 (if l.neg then 1 else 0))) := by
  refine afun_of (rs := [by8 (if l.neg then 1 else 0)]) Tryz.func102 Tryz.ntmps102 rfl rfl rfl rfl ?_
  intro w U hW
  refine aS (aR ?_)
  (refine nx (a_box (gN rfl) rfl rfl rfl rfl rfl) rfl ?_)
  (refine nx (aA (gN rfl) rfl rfl rfl rfl rfl) rfl ?_)
  show AWp _ _ _ _ _ _ _
  refine aS (aS (aR ?_))
  (refine nx (aF (gN rfl) rfl rfl rfl rfl rfl rfl rfl rfl rfl) rfl ?_)
  (refine nx (aLb (gN rfl) rfl rfl rfl rfl rfl rfl rfl rfl rfl rfl rfl rfl) rfl ?_)
  show AWp _ _ _ _ _ _ _
  refine aC rfl (fun hc => ?_) (fun hc => ?_)
  · refine aS (aR ?_)
    (refine nx (aA (gN rfl) rfl rfl rfl rfl rfl) rfl ?_)
    show AWp _ _ _ _ _ _ _
    rw [if_pos hc]
    exact aT (And.intro (.inr rfl) rfl)
  · refine aK ?_
    show AWp _ _ _ _ _ _ _
    refine aS (aR ?_)
    (refine nx (aA (gN rfl) rfl rfl rfl rfl rfl) rfl ?_)
    show AWp _ _ _ _ _ _ _
    rw [if_neg (by rw [hc]; simp)]
    exact aT (And.intro (.inr rfl) rfl)
-- 
theorem cIsVar_abs (W : World) (t : Tm) : AFun Tryz.prog W 126 [t.cw] (.val (.b (decide (t.f < 0)))) := by
  refine afun_of (rs := [.b (decide (t.f < 0))]) Tryz.func126 Tryz.ntmps126 rfl rfl rfl rfl ?_
  intro w U hW
  refine aS (aR ?_)
  (refine nx (a_box (gN rfl) rfl rfl rfl rfl rfl) rfl ?_)
  (refine nx (aA (gN rfl) rfl rfl rfl rfl rfl) rfl ?_)
  show AWp _ _ _ _ _ _ _
  refine aS (aR ?_)
  (refine nx (aF (gN rfl) rfl rfl rfl rfl rfl rfl rfl rfl rfl) rfl ?_)
  (refine nx (aLb (gN rfl) rfl rfl rfl rfl rfl rfl rfl rfl rfl rfl rfl rfl) rfl ?_)
  (refine nx (a_lss (gN rfl) rfl rfl rfl rfl rfl rfl) rfl ?_)
  (refine nx (aA (gN rfl) rfl rfl rfl rfl rfl) rfl ?_)
  show AWp _ _ _ _ _ _ _
  exact aT (And.intro (.inr rfl) rfl)
end Go.Proofs.YtmeegdomncadpaaGreat
