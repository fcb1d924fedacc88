/-
  AbFn AbLit TmMath AbTm TmMem TmSmall TmCmp FrRange TmIter TmCount TmApp TmClone TmConcat TmPlaces TmVars TmOf TmFine AbBr SbMath AbOff AbObj AbCall AbObj2 AbFld AbMap AbFull AbArr AbZero AbStr PrQuo PsMath AbKey PsKey SbFns SbApply SbVars TmSm SbSmall TmOrd RfSame RfLess RfFlat RfVars AbOf SbVnt SbRen ClMath PsNm AbRoom AbBox AbIter AbRange AbMark PsTok AbMapR AbEnds PsNames PsRead PsRead2 AbNew PsRead3 PsTerm PsRead4 PsLit PsMean ClLen SbSort TmAlive TmAb6 SbClone ClTaut PsSz PsMean2 PsRight PrMath AbMapT AbQ AbTab AbWr AbWr2
-/
import Derived.Test.YtebhbnhijnpmcaaDoorMg1
import Derived.Test.YtebhbnhijnpmcaaDoorChecked
import Derived.Deep.QuietTactic
import Derived.BigQuiet
import Derived.Deep.RegionHeld3
import Derived.RangeFuncNested
import Derived.RangeFuncBound
import Derived.RangeFuncCalls
import Derived.RangeFuncLeaves
import Derived.RangeFuncBox
import Derived.Shelf.Abstract
import Derived.Shelf.RegionOpen
import Derived.WalkKit
import Derived.OwnWalkIn
import Derived.TacticsInMore
import Derived.LoopNIn
import Derived.LoopIn
import Derived.RangeFuncWrites
import Derived.Maps.AppendAt
import Derived.Lib.AppendZeros
import Derived.Maps.OwnIn
import Derived.Maps.OwnSet
import Derived.Maps.Views
import Derived.Deep.RegionLaw
import Derived.MapKept
import Derived.Laws.NewFold
import Derived.Laws.Strings
import Derived.Laws.Strings3
import Derived.Laws.Concat
import Derived.Lib.Strings
import Derived.Laws.BytesArg
import Derived.Lib.SlTrimSet
import Derived.Lib.Bytealg
import Derived.DeepKeys3
import Derived.WideKeyMaps
import Derived.Maps.Keyed
import Derived.StringKeys
import Derived.Test.YtebhbnhijnpmcaaDoorProg
import Derived.Test.YtebhbnhijnpmcaaDoorPsShelf
import Derived.Lib.IndexLaws
import Derived.Maps.RangeRun
import Derived.Lib.ItoaNum
import Derived.Lib.AppendStr
namespace Go.Proofs.YtebhbnhijnpmcaaDoor
open Go.RowKit
set_option linter.unusedVariables false
set_option linter.unusedSimpArgs false
section
variable {P : Program} {w0 : World} {U0 : UX} {nt : Nat} {ops : Array Oper} {o : Oper} {S : Nat → Option AV} {gs : List Nat} {d : Nat} {s : AS} {a : Act} {w : World} {D : Nat → Nat → Prop} {hv : Nat → Value}
theorem VReps.split {U : Nat → Nat → Prop} : ∀ {l : List CV} {xs ys : List Value}, VReps U w l (xs ++ ys) → VReps U w (l.take xs.length) xs ∧ VReps U w (l.drop xs.length) ys
  | l, [], ys, h => ⟨rfl, h⟩
  | [], x :: xs, ys, h => by have h : x :: xs ++ ys = [] := h; simp at h
  | c :: cs, x :: xs, ys, ⟨u, us, e, h1, h3⟩ => by
    injection e with e1 e2
    subst e1; subst e2
    obtain ⟨h4, h5⟩ := VReps.split h3
    exact ⟨⟨x, xs, rfl, h1, h4⟩, h5⟩

def noRows : List CV → Bool
  | [] => true
  | c :: cs => match Nat.beq c.k 2 with | true => false | false => noRows cs
def AFunV (P : Program) (W : World) (fc : CV) (args : List CV) (r : AV) : Prop := ∃ f n l, fc = .fn f n l ∧ AFun P W f (l.take n ++ (args ++ l.drop n)) r
section
variable (hg : Gd w0 U0 nt ops o gs S) (hd : o.dst = some d) (hn : Nat.blt d nt = true) (h5 : Nat.blt d 100000 = true)
include hg hd hn h5
end
theorem SimG.know (h : SimG w0 U0 nt s a w D hv) {d : Nat} {av : AV} {v : Value} (h5 : d < 100000) (hv1 : a.tmps[d]? = some v) (hav : AVRep (Us w0 U0 D) w hv (LiveN s) av v) : SimG w0 U0 nt ((d, av) :: s) a w D hv := by
  have hlt : d < nt := by
    rw [← h.size]
    rcases Nat.lt_or_ge d a.tmps.size with h1 | h1
    · exact h1
    · rw [Array.getElem?_eq_none h1] at hv1; cases hv1
  have := h.put hlt h5 hav
  have e : a.put (some d) v = a := by
    have : a.tmps.setIfInBounds d v = a.tmps := by
      apply Array.ext_getElem?
      intro i
      rw [Array.getElem?_setIfInBounds]
      split
      · rename_i e
        subst e
        rw [if_pos (by rw [h.size]; exact hlt), hv1]
      · rfl
    show { a with tmps := a.tmps.setIfInBounds d v } = a
    rw [this]
  rw [e] at this
  exact this

end
section
variable {P : Program} {w0 : World} {U0 : UX} {nt : Nat} {ops : Array Oper} {o : Oper} {S : Nat → Option AV} {gs : List Nat} {d : Nat} {s : AS} {a : Act} {w : World} {D : Nat → Nat → Prop} {hv : Nat → Value}
end
end Go.Proofs.YtebhbnhijnpmcaaDoor
namespace Go.Proofs.YtebhbnhijnpmcaaDoor
set_option linter.unusedVariables false
structure Tm where
  f : Int
  l : List Tm

def Tm.ps (t : Tm) : List Tm := if t.f < 0 then [] else t.l

theorem Tm.ind {P : Tm → Prop} (h : ∀ f l, (∀ t ∈ l, P t) → P (.mk f l)) : ∀ t, P t := by
  intro t
  induction hn : SizeOf.sizeOf t using Nat.strongRecOn generalizing t with
  | ind n ih =>
    cases t with
    | mk f l =>
      refine h f l fun s hs => ih (SizeOf.sizeOf s) ?_ s rfl
      have := List.sizeOf_lt_of_mem hs
      simp at hn
      omega

def Tm.flat : Tm → List Tm
  | ⟨f, l⟩ => ⟨f, l⟩ :: (if f < 0 then [] else (l.map Tm.flat).flatten)

theorem Tm.flat_eq (t : Tm) : t.flat = t :: t.ps.flatMap Tm.flat := by
  cases t with
  | mk f l =>
    rw [Tm.flat, ← List.flatMap_def]
    unfold Tm.ps
    simp only
    by_cases h : f < 0 <;> simp [h]

def Tm.size (t : Tm) : Nat := t.flat.length
theorem Tm.size_eq (t : Tm) : t.size = 1 + (t.ps.flatMap Tm.flat).length := by
  unfold Tm.size
  rw [Tm.flat_eq, List.length_cons]
  omega

def Tm.strip : Tm → Tm
  | ⟨f, l⟩ => ⟨f, if f < 0 then [] else l.map Tm.strip⟩
end Go.Proofs.YtebhbnhijnpmcaaDoor
namespace Go.Proofs.YtebhbnhijnpmcaaDoor
open Go.RowKit
set_option linter.unusedVariables false
noncomputable def Tm.cv (t : Tm) : CV := Tm.rec (motive_1 := fun _ => CV) (motive_2 := fun _ => List CV) (fun f _ ih => .row [.i f, .lst ih]) [] (fun _ _ a b => a :: b) t
noncomputable abbrev Tm.cw (t : Tm) : CV := .row [.i t.f, .lst (t.l.map Tm.cv)]
theorem Tm.cv_eq (t : Tm) : t.cv = t.cw := by
  cases t with
  | mk f l =>
    have hl : ∀ l : List Tm, Tm.rec_1 (motive_1 := fun _ => CV) (motive_2 := fun _ => List CV) (fun f _ ih => .row [.i f, .lst ih]) [] (fun _ _ a b => a :: b) l = l.map Tm.cv := by
      intro l
      induction l with
      | nil => rfl
      | cons c cs ih => rw [List.map_cons, ← ih]; rfl
    show CV.row [.i f, .lst _] = CV.row [.i f, .lst _]
    rw [← hl]
theorem Tm.size_cv (t : Tm) : t.cv.size = 2 := by rw [Tm.cv_eq]; rfl
theorem Tm.size_all (l : List Tm) : ∀ c ∈ l.map Tm.cv, c.size = 2 := by
  intro c hc
  obtain ⟨t, _, rfl⟩ := List.mem_map.1 hc
  exact t.size_cv
theorem Tm.map_at {l : List Tm} {i : Nat} {t : Tm} (h : l[i]? = some t) : (l.map Tm.cv)[i]? = some t.cw := by rw [List.getElem?_map, h, Option.map_some, Tm.cv_eq]
def Tm.ok : Tm → Prop
  | ⟨f, l⟩ => l.length ≤ 10000000000 ∧ ∀ t ∈ l, Tm.ok t
theorem Tm.ok_iff (t : Tm) : t.ok ↔ t.l.length ≤ 10000000000 ∧ ∀ s ∈ t.l, s.ok := by cases t; rw [Tm.ok]
def Cu (U : Nat → Prop) (w : World) (a : Option Addr) (xs : List Value) : Prop :=
  xs = [] ∨ ∃ b off, a = some ⟨b, off, none⟩ ∧ U b ∧ b < w.heap.size ∧ ∀ i, i < xs.length → w.cell? ⟨b, off + i, none⟩ = xs[i]?

theorem Cu.cs {U : Nat → Prop} {w : World} {a : Option Addr} {xs : List Value} (h : Cu U w a xs) : Cs w a xs := by
  rcases h with h | ⟨b, off, h1, _, h2, h3⟩
  · exact .inl h
  · exact .inr ⟨b, off, h1, h2, h3⟩

def EcsW : List (Int × (Option Addr → Nat → Nat → Prop)) → List Value → Prop
  | [], xs => xs = []
  | t :: ts, xs => ∃ a n c ys, xs = .int .i64 t.1 :: .slice a n c :: ys ∧ t.2 a n c ∧ EcsW ts ys
def Tat (U : Nat → Prop) (w : World) : Tm → Option Addr → Nat → Nat → Prop
  | ⟨f, l⟩, a, n, c => (-9223372036854775808 ≤ f ∧ f ≤ 9223372036854775807) ∧ (n = l.length ∧ n ≤ c ∧ c ≤ maxLen ∧ (a = none → n = 0 ∧ c = 0) ∧ ∃ xs, Cu U w a xs ∧ EcsW (l.map fun s => (s.f, fun a n c => Tat U w s a n c)) xs)
def Ecs (U : Nat → Prop) (w : World) (l : List Tm) (xs : List Value) : Prop := EcsW (l.map fun s => (s.f, fun a n c => Tat U w s a n c)) xs

def Las (U : Nat → Prop) (w : World) (l : List Tm) (a : Option Addr) (n c : Nat) : Prop :=
  n = l.length ∧ n ≤ c ∧ c ≤ maxLen ∧ (a = none → n = 0 ∧ c = 0) ∧ ∃ xs, Cu U w a xs ∧ Ecs U w l xs

theorem tat_iff {U : Nat → Prop} {w : World} {t : Tm} {a : Option Addr} {n c : Nat} : Tat U w t a n c ↔ (-9223372036854775808 ≤ t.f ∧ t.f ≤ 9223372036854775807) ∧ Las U w t.l a n c := by
  cases t with
  | mk f l => rw [Tat]; rfl

theorem Ecs.nil_iff {U : Nat → Prop} {w : World} {xs : List Value} : Ecs U w [] xs ↔ xs = [] := Iff.rfl
theorem Ecs.cons_iff {U : Nat → Prop} {w : World} {t : Tm} {ts : List Tm} {xs : List Value} : Ecs U w (t :: ts) xs ↔ ∃ a n c ys, xs = .int .i64 t.f :: .slice a n c :: ys ∧ Tat U w t a n c ∧ Ecs U w ts ys := Iff.rfl

theorem Las.nil (U : Nat → Prop) (w : World) : Las U w [] none 0 0 := ⟨rfl, Nat.le_refl _, by unfold maxLen; omega, fun _ => ⟨rfl, rfl⟩, [], .inl rfl, Ecs.nil_iff.2 rfl⟩

theorem Ecs.length {U : Nat → Prop} {w : World} : ∀ {l : List Tm} {xs : List Value}, Ecs U w l xs → xs.length = l.length * 2
  | [], _, h => by rw [Ecs.nil_iff.1 h]; rfl
  | t :: ts, _, h => by
    obtain ⟨a, n, c, ys, rfl, _, h2⟩ := Ecs.cons_iff.1 h
    have := Ecs.length h2
    simp only [List.length_cons]
    omega

theorem Ecs.at {U : Nat → Prop} {w : World} : ∀ {l : List Tm} {xs : List Value}, Ecs U w l xs → ∀ {i : Nat}, i < l.length → ∃ s a n c, l[i]? = some s ∧ Tat U w s a n c ∧ xs[i * 2]? = some (.int .i64 s.f) ∧ xs[i * 2 + 1]? = some (.slice a n c)
  | [], _, h, i, hi => by simp at hi
  | t :: ts, _, h, i, hi => by
    obtain ⟨a, n, c, ys, rfl, h1, h2⟩ := Ecs.cons_iff.1 h
    cases i with
    | zero => exact ⟨t, a, n, c, rfl, h1, rfl, rfl⟩
    | succ i =>
      obtain ⟨s, a', n', c', e1, e2, e3, e4⟩ := Ecs.at h2 (i := i) (by simpa using hi)
      refine ⟨s, a', n', c', by simpa using e1, e2, ?_, ?_⟩
      · rw [show (i + 1) * 2 = i * 2 + 1 + 1 by omega]; simpa using e3
      · rw [show (i + 1) * 2 + 1 = i * 2 + 1 + 1 + 1 by omega]; simpa using e4

theorem Ecs.take {U : Nat → Prop} {w : World} : ∀ {l : List Tm} {xs : List Value}, Ecs U w l xs → ∀ (k : Nat), Ecs U w (l.take k) (xs.take (k * 2))
  | [], _, h, k => by rw [Ecs.nil_iff.1 h]; simp [Ecs.nil_iff]
  | t :: ts, _, h, 0 => by simp [Ecs.nil_iff]
  | t :: ts, _, h, k + 1 => by
    obtain ⟨a, n, c, zs, rfl, h1, h3⟩ := Ecs.cons_iff.1 h
    rw [show (k + 1) * 2 = k * 2 + 1 + 1 by omega]
    exact Ecs.cons_iff.2 ⟨a, n, c, zs.take (k * 2), rfl, h1, Ecs.take h3 k⟩
theorem Ecs.drop {U : Nat → Prop} {w : World} : ∀ {l : List Tm} {xs : List Value}, Ecs U w l xs → ∀ (k : Nat), Ecs U w (l.drop k) (xs.drop (k * 2))
  | [], _, h, k => by rw [Ecs.nil_iff.1 h]; simp [Ecs.nil_iff]
  | t :: ts, _, h, 0 => by simpa using h
  | t :: ts, _, h, k + 1 => by
    obtain ⟨a, n, c, zs, rfl, h1, h3⟩ := Ecs.cons_iff.1 h
    rw [show (k + 1) * 2 = k * 2 + 1 + 1 by omega]
    exact Ecs.drop h3 k

theorem Las.at {U : Nat → Prop} {w : World} {l : List Tm} {a : Option Addr} {n c : Nat} (h : Las U w l a n c) {i : Nat} (hi : i < n) :
    ∃ b off s a' n' c', a = some ⟨b, off, none⟩ ∧ U b ∧ b < w.heap.size ∧ l[i]? = some s ∧ Tat U w s a' n' c' ∧ w.cell? ⟨b, off + i * 2, none⟩ = some (.int .i64 s.f) ∧ w.cell? ⟨b, off + i * 2 + 1, none⟩ = some (.slice a' n' c') := by
  obtain ⟨h1, _, _, _, xs, h2, h3⟩ := h
  obtain ⟨s, a', n', c', e1, e2, e3, e4⟩ := h3.at (i := i) (by omega)
  have hl := h3.length
  rcases h2 with rfl | ⟨b, off, rfl, hu, hlt, hc⟩
  · simp at e3
  · refine ⟨b, off, s, a', n', c', rfl, hu, hlt, e1, e2, ?_, ?_⟩
    · rw [hc (i * 2) (by omega), e3]
    · rw [Nat.add_assoc, hc (i * 2 + 1) (by omega), e4]

theorem cell_congr {w w' : World} {b o : Nat} (h : w'.heap[b]? = w.heap[b]?) : w'.cell? ⟨b, o, none⟩ = w.cell? ⟨b, o, none⟩ := by simp [World.cell?, h]

theorem Cu.keep {U V : Nat → Prop} {w w' : World} {a : Option Addr} {xs : List Value} (h : Cu U w a xs) (hs : ∀ b, U b → b < w.heap.size → V b ∧ w'.heap[b]? = w.heap[b]?) : Cu V w' a xs := by
  rcases h with h | ⟨b, off, ha, hu, hlt, hc⟩
  · exact .inl h
  · obtain ⟨h1, h2⟩ := hs b hu hlt
    refine .inr ⟨b, off, ha, h1, ?_, fun i hi => ?_⟩
    · rw [Array.getElem?_eq_getElem hlt] at h2
      exact (Array.getElem?_eq_some_iff.1 h2).1
    · rw [cell_congr h2]; exact hc i hi

theorem ecs_keep {U V : Nat → Prop} {w w' : World} : ∀ {l : List Tm} {xs : List Value}, (∀ t ∈ l, ∀ a n c, Tat U w t a n c → Tat V w' t a n c) → Ecs U w l xs → Ecs V w' l xs
  | [], _, _, h => h
  | t :: ts, _, ht, h => by
    obtain ⟨a, n, c, ys, h1, h2, h3⟩ := Ecs.cons_iff.1 h
    exact Ecs.cons_iff.2 ⟨a, n, c, ys, h1, ht t (by simp) a n c h2, ecs_keep (fun s hs => ht s (List.mem_cons_of_mem _ hs)) h3⟩
theorem Tat.keep {U V : Nat → Prop} {w w' : World} (hs : ∀ b, U b → b < w.heap.size → V b ∧ w'.heap[b]? = w.heap[b]?) : ∀ {t : Tm} {a : Option Addr} {n c : Nat}, Tat U w t a n c → Tat V w' t a n c := by
  intro t
  induction t using Tm.ind with
  | h f l ih =>
    intro a n c h
    rw [tat_iff] at h ⊢
    obtain ⟨h1, h2, h3, h4, h5, xs, h6, h7⟩ := h
    exact ⟨h1, h2, h3, h4, h5, xs, h6.keep hs, ecs_keep (fun s hs' a n c => ih s hs') h7⟩
theorem Ecs.keep {U V : Nat → Prop} {w w' : World} (hs : ∀ b, U b → b < w.heap.size → V b ∧ w'.heap[b]? = w.heap[b]?) {l : List Tm} {xs : List Value} (h : Ecs U w l xs) : Ecs V w' l xs := ecs_keep (fun s _ a n c h' => h'.keep hs) h
theorem Las.keep {U V : Nat → Prop} {w w' : World} (hs : ∀ b, U b → b < w.heap.size → V b ∧ w'.heap[b]? = w.heap[b]?) {l : List Tm} {a : Option Addr} {n c : Nat} (h : Las U w l a n c) : Las V w' l a n c := by
  obtain ⟨h2, h3, h4, h5, xs, h6, h7⟩ := h
  exact ⟨h2, h3, h4, h5, xs, h6.keep hs, Ecs.keep hs h7⟩

theorem Las.below {U : Nat → Prop} {B : Nat} {w w' : World} (hb : Below B w w') (hU : ∀ b, U b → b < w.heap.size → b < B) {l : List Tm} {a : Option Addr} {n c : Nat} (h : Las U w l a n c) : Las U w' l a n c :=
  h.keep fun b h1 h2 => ⟨h1, hb.block b (hU b h1 h2)⟩
theorem Tat.las {U : Nat → Prop} {w : World} {t : Tm} {a : Option Addr} {n c : Nat} (h : Tat U w t a n c) : Las U w t.l a n c := (tat_iff.1 h).2
theorem Tat.wf {U : Nat → Prop} {w : World} {t : Tm} {a : Option Addr} {n c : Nat} (h : Tat U w t a n c) : -9223372036854775808 ≤ t.f ∧ t.f ≤ 9223372036854775807 := (tat_iff.1 h).1
theorem Las.len {U : Nat → Prop} {w : World} {l : List Tm} {a : Option Addr} {n c : Nat} (h : Las U w l a n c) : n = l.length ∧ n ≤ c ∧ c ≤ maxLen := ⟨h.1, h.2.1, h.2.2.1⟩
end Go.Proofs.YtebhbnhijnpmcaaDoor
namespace Go.Proofs.YtebhbnhijnpmcaaDoor
open Go.RowKit
set_option linter.unusedVariables false
set_option linter.unusedSimpArgs false
theorem hid {p : Prop} (h : p) : Hid p := h
theorem bW (w : World) : Below w.heap.size w w := Below.refl _ _
theorem bA {w w' : World} (h : Below w.heap.size w w') (o : Obj) : Below w.heap.size w (w'.alloc o) := h.alloc h.size o
theorem bN {w w' w'' : World} (h : Below w.heap.size w w') (h2 : Below w'.heap.size w' w'') : Below w.heap.size w w'' := h.trans (h2.mono h.size)
theorem Las.bw {U : Nat → Prop} {w w' : World} {l : List Tm} {a : Option Addr} {n c : Nat} (h : Las U w l a n c) (hb : Below w.heap.size w w') : Las U w' l a n c := h.below hb fun _ _ h => h

def cmpZ (x y : Int) : Int := if x < y then -1 else if y < x then 1 else 0

def cmpH (x y : Int) : Int := if x < 0 ∧ y < 0 then cmpZ (-1 - x) (-1 - y) else cmpZ x y
def cmpW : List (Tm → Int) → List Tm → Int
  | [], [] => 0
  | [], _ :: _ => -1
  | _ :: _, [] => 1
  | c :: cs, s :: ss => if c s ≠ 0 then c s else cmpW cs ss
def cmpT : Tm → Tm → Int
  | ⟨f, l⟩, b => if f ≠ b.f then cmpH f b.f else if f < 0 then 0 else if l.length ≠ b.l.length then cmpZ l.length b.l.length else cmpW (l.map fun s => fun b => cmpT s b) b.l
def cmpL (l m : List Tm) : Int := cmpW (l.map fun s => fun b => cmpT s b) m
theorem drop_at {α : Type} {l : List α} {k : Nat} {x : α} (h : l[k]? = some x) : l.drop k = x :: l.drop (k + 1) := by
  obtain ⟨hlt, rfl⟩ := List.getElem?_eq_some_iff.1 h
  exact List.drop_eq_getElem_cons hlt

def sameT (t s : Tm) : Bool := cmpT t s == 0
end Go.Proofs.YtebhbnhijnpmcaaDoor
namespace Go.Proofs.YtebhbnhijnpmcaaDoor
open Go.RowKit
set_option linter.unusedVariables false
variable {α : Type} {P : Program}

def Gives (P : Program) (gf : Nat) (lb : Array Value) (encs : α → Array Value) (Ok : List α → α → World → Prop) (Kp : World → World → Prop) (S : List α → Prop) (w : World) : Prop :=
  ∀ (l : Nat) (J : List α → World → Prop) (W : World), Below w.heap.size w W → (∀ pre A B, J pre A → Below A.heap.size A B → J pre B) →
    (∀ pre x V, J pre V → Ok pre x V → YieldAt Fence.wide 1 P l (encs x) V fun e V' => e = .returned (.bool true) ∧ J (pre ++ [x]) V' ∧ Kp V V') →
    J [] W → CallsIn Fence.wide 2 P gf (#[.func (.yield l) #[] #[]] ++ lb) W fun e W' => (∃ v, e = .returned v) ∧ ∃ xs, S xs ∧ J xs W'

def collPost (Kp : World → World → Prop) (I : World → Prop) (W : World) : Exit → Act → World → Prop
  | .normal, _, W' => KeepsOthers W W' ∧ Kp W W' ∧ I W'
  | _, _, _ => False

def recOf (fn : FuncId) (tmps : Array Value) (ps : Array Tmp) (assign body : Code) (D : Nat) (st : LoopState) : Loop :=
  { state := st, pending := none, fn := fn, tmps := tmps, params := ps, assign := assign, body := body, defers := D }
end Go.Proofs.YtebhbnhijnpmcaaDoor
namespace Go.Proofs.YtebhbnhijnpmcaaDoor
open Go.RowKit Go.Shelf
set_option linter.unusedVariables false
attribute [local go_sem] Oper.semAt_some

structure Tr where
  t : Tm
  a : Option Addr
  n : Nat
  c : Nat
def Tr.v (x : Tr) : Value := .agg #[.int .i64 x.t.f, .slice x.a x.n x.c]
def Tr.ok (n₀ : Nat) (x : Tr) (V : World) : Prop := Tat (· < n₀) V x.t x.a x.n x.c

def KpT (n₀ : Nat) (V V' : World) : Prop := Below n₀ V V' ∧ ∀ (g : Nat) cs fl, V.heap[g]? = some (Obj.cells cs 55 fl) → V'.heap[g]? = some (Obj.cells cs 55 fl)

theorem KpT.trans {n₀ : Nat} {A B C : World} (h : KpT n₀ A B) (k : KpT n₀ B C) : KpT n₀ A C := ⟨h.1.trans k.1, fun g cs fl e => k.2 g cs fl (h.2 g cs fl e)⟩
section
variable {α : Type} {P : Program}

def collPostG (B : Nat) (Kp : World → World → Prop) (I : World → Prop) (W : World) : Exit → Act → World → Prop
  | .normal, _, W' => KeepsFrom B W W' ∧ Kp W W' ∧ I W'
  | _, _, _ => False

end
attribute [local go_sem] Oper.semAt_some
def IntI (w : World) (B : Nat) (v : Value) (W : World) : Prop := Boxed W B 3 v ∧ Below w.heap.size w W
def Tr.ob (x : Tr) : Obj := .cells #[.int .i64 x.t.f, .slice x.a x.n x.c] 55 (0, 0)

def cntF (f : Int) (l : List Tm) : Nat := (l.filter fun s => decide (s.f = f)).length
def topF (l : List Tm) : Int := l.foldl (fun m s => if s.f < 0 then max m (-1 - s.f) else m) (-1)
end Go.Proofs.YtebhbnhijnpmcaaDoor
namespace Go.Proofs.YtebhbnhijnpmcaaDoor
open Go.RowKit
set_option linter.unusedVariables false
def OwnT (e : TypeId) (U : Nat → Prop) (w : World) (base : Nat) (v : Value) (l : List Tm) : Prop := ∃ xs, w.ownsRow base e 2 v l.length xs ∧ Ecs (fun b => U b ∧ v.ownBlock ≠ some b) w l xs

theorem OwnT.nil (e : TypeId) (U : Nat → Prop) (w : World) (base : Nat) : OwnT e U w base (.slice none 0 0) [] := ⟨[], World.ownsRow_nil _ _ _ _, Ecs.nil_iff.2 rfl⟩

theorem OwnT.keep {e : TypeId} {U : Nat → Prop} {w w' : World} {base : Nat} {v : Value} {l : List Tm} (h : OwnT e U w base v l) (hU : ∀ b, U b → base ≤ b) (hs : ∀ b, base ≤ b → b < w.heap.size → w'.heap[b]? = w.heap[b]?) : OwnT e U w' base v l := by
  obtain ⟨xs, h1, h2⟩ := h
  refine ⟨xs, ?_, h2.keep fun b hb hlt => ⟨hb, hs b (hU b hb.1) hlt⟩⟩
  refine ⟨h1.1, ?_⟩
  rcases h1.2 with h3 | ⟨g, cap, cur, rfl, hg, hh, r⟩
  · exact .inl h3
  · exact .inr ⟨g, cap, cur, rfl, hg, (hs g hg (Array.getElem?_eq_some_iff.1 hh).1).trans hh, r⟩
end Go.Proofs.YtebhbnhijnpmcaaDoor
namespace Go.Proofs.YtebhbnhijnpmcaaDoor
open Go.RowKit
set_option linter.unusedVariables false
set_option linter.unusedSimpArgs false
def CloneSays (w : World) (t : Tm) (e : Ending) (w' : World) : Prop := ∃ a c, e = .returned (.agg #[.int .i64 t.f, .slice a t.ps.length c]) ∧ OwnT 55 (fun b => w.heap.size ≤ b) w' w.heap.size (.slice a t.ps.length c) (t.ps.map Tm.strip) ∧ Below w.heap.size w w'
end Go.Proofs.YtebhbnhijnpmcaaDoor
namespace Go.Proofs.YtebhbnhijnpmcaaDoor
open Go.RowKit
set_option linter.unusedVariables false
def joinV (R : Nat → List Value) : Nat → List Value
  | 0 => []
  | k + 1 => joinV R k ++ R k
def lenJ (L : Nat → Nat) : Nat → Nat
  | 0 => 0
  | k + 1 => lenJ L k + L k
def Rw (size : Nat) (w : World) (a : Option Addr) (m : Nat) (A : Nat → Option Addr) (L C : Nat → Nat) (R : Nat → List Value) : Prop :=
  (∀ r, r < m → (A r = none → L r = 0 ∧ C r = 0) ∧ Cs w (A r) (R r) ∧ (R r).length = L r * size ∧ (∀ u ∈ R r, u.oneCell' = true)) ∧
  (m = 0 ∨ ∃ b off, a = some ⟨b, off, none⟩ ∧ b < w.heap.size ∧ ∀ r, r < m → w.cell? ⟨b, off + r, none⟩ = some (.slice (A r) (L r) (C r)))
end Go.Proofs.YtebhbnhijnpmcaaDoor
namespace Go.Proofs.YtebhbnhijnpmcaaDoor
open Go.RowKit
set_option linter.unusedVariables false
set_option linter.unusedSimpArgs false
def placesW : List (List (List Int)) → Nat → List (List Int)
  | [], _ => []
  | ps :: rest, k => ps.map (fun p => (k : Int) :: p) ++ placesW rest (k + 1)
def Tm.places : Tm → List (List Int)
  | ⟨f, l⟩ => [] :: (if f < 0 then [] else placesW (l.map Tm.places) 0)
def Tm.placesL (l : List Tm) (k : Nat) : List (List Int) := placesW (l.map Tm.places) k
structure Pr where
  a : Option Addr
  n : Nat
  c : Nat
  p : List Int
def Pr.v (x : Pr) : Value := .slice x.a x.n x.c
def ints (p : List Int) : List Value := p.map fun z => .int .i64 z
def Pr.ok (U : Nat → Prop) (w : World) (x : Pr) : Prop := x.n = x.p.length ∧ x.n ≤ x.c ∧ x.c ≤ maxLen ∧ (x.a = none → x.n = 0 ∧ x.c = 0) ∧ Cu U w x.a (ints x.p)
theorem Pr.ok.keep {U V : Nat → Prop} {w w' : World} {x : Pr} (h : x.ok U w) (hs : ∀ b, U b → b < w.heap.size → V b ∧ w'.heap[b]? = w.heap[b]?) : x.ok V w' := ⟨h.1, h.2.1, h.2.2.1, h.2.2.2.1, h.2.2.2.2.keep hs⟩
def PsT (w : World) (base : Nat) (v : Value) (ps : List (List Int)) : Prop :=
  ∃ xs : List Pr, w.ownsRow base 24 1 v ps.length (xs.map Pr.v) ∧ xs.map Pr.p = ps ∧ ∀ x ∈ xs, x.ok (fun b => base ≤ b ∧ v.ownBlock ≠ some b) w

def Onto (v v' : Value) (w w' : World) : Prop := w.heap.size ≤ w'.heap.size ∧ (∀ b, b < w.heap.size → v.ownBlock ≠ some b → w'.heap[b]? = w.heap[b]?) ∧ ∀ g, v'.ownBlock = some g → v.ownBlock = some g ∨ w.heap.size ≤ g
theorem Onto.trans {v v1 v2 : Value} {w w1 w2 : World} (h : Onto v v1 w w1) (k : Onto v1 v2 w1 w2) : Onto v v2 w w2 := by
  refine ⟨Nat.le_trans h.1 k.1, fun b hb hne => ?_, fun g hg => ?_⟩
  · rw [k.2.1 b (Nat.lt_of_lt_of_le hb h.1) (fun e => ?_), h.2.1 b hb hne]
    rcases h.2.2 b e with e' | e'
    · exact hne e'
    · omega
  · rcases k.2.2 g hg with e | e
    · exact h.2.2 g e
    · have := h.1; exact .inr (by omega)
end Go.Proofs.YtebhbnhijnpmcaaDoor
namespace Go.Proofs.YtebhbnhijnpmcaaDoor
open Go.RowKit Go.Shelf
set_option linter.unusedVariables false
set_option linter.unusedSimpArgs false
attribute [local go_sem] Oper.semAt_some

def varS (acc : List Int) (s : Tm) : List Int := if s.f < 0 then (if (-1 - s.f) ∈ acc then acc else acc ++ [-1 - s.f]) else acc
def varsF (l : List Tm) : List Int := l.foldl varS []
def keysV (acc : List Int) : List Lit := acc.map fun n => .int .i64 n
def Tm.wt : Tm → Nat
  | ⟨_, l⟩ => 1 + (l.map Tm.wt).sum
def Tm.wts (l : List Tm) : Nat := (l.map Tm.wt).sum
theorem wts_nil : Tm.wts [] = 0 := rfl
theorem wts_cons (t : Tm) (ts : List Tm) : Tm.wts (t :: ts) = t.wt + Tm.wts ts := by simp [Tm.wts]
theorem Tm.wt_eq (t : Tm) : t.wt = 1 + Tm.wts t.l := by cases t with | mk f l => rw [Tm.wt]; rfl
theorem Tm.wts_mem {l : List Tm} {s : Tm} (h : s ∈ l) : s.wt ≤ Tm.wts l := by
  induction l with
  | nil => cases h
  | cons y ys ih =>
    rw [wts_cons]
    rcases List.mem_cons.1 h with rfl | h
    · omega
    · have := ih h; omega
theorem Tm.wts_len (l : List Tm) : l.length ≤ Tm.wts l := by
  induction l with
  | nil => simp [wts_nil]
  | cons y ys ih => rw [wts_cons, y.wt_eq, List.length_cons]; omega
theorem Tm.size_wt (t : Tm) : t.size ≤ t.wt := by
  induction t using Tm.ind with
  | h f l ih =>
    rw [Tm.size_eq, Tm.wt_eq]
    have h1 : ∀ l : List Tm, (∀ s ∈ l, s.size ≤ s.wt) → (l.flatMap Tm.flat).length ≤ Tm.wts l := by
      intro l hl
      induction l with
      | nil => simp
      | cons y ys ih2 =>
        have h1 := hl y (by simp)
        unfold Tm.size at h1
        rw [List.flatMap_cons, List.length_append, wts_cons]
        have := ih2 (fun s hs => hl s (List.mem_cons_of_mem _ hs))
        omega
    unfold Tm.ps
    split
    · simp
    · have := h1 l ih; show 1 + (l.flatMap Tm.flat).length ≤ 1 + Tm.wts l; omega

theorem cell2 {w : World} {b : Nat} {x y : Value} {t : TypeId} {fl : Nat × Nat} (h : w.heap[b]? = some (.cells #[x, y] t fl)) : w.cell? ⟨b, 0, none⟩ = some x ∧ w.cell? ⟨b, 1, none⟩ = some y := by
  constructor <;> simp [World.cell?, h]
def OfSays (w : World) (t : Tm) (e : Ending) (w' : World) : Prop := ∃ a n c, e = .returned (.agg #[.int .i64 t.f, .slice a n c]) ∧ Tat (fun b => w.heap.size ≤ b) w' t a n c ∧ Below w.heap.size w w'
end Go.Proofs.YtebhbnhijnpmcaaDoor
namespace Go.Proofs.YtebhbnhijnpmcaaDoor
open Go.RowKit
set_option linter.unusedVariables false
set_option linter.unusedSimpArgs false
def smallW : List (Int → Int → Int) → Int → Int → Int
  | [], most, _ => most
  | c :: cs, most, deep => if most < 0 then most else smallW cs (c most deep) deep
def smallT : Tm → Int → Int → Int
  | ⟨f, l⟩, most, deep => if deep < 0 ∨ f < -1000 ∨ 1000 < f ∨ 20 < l.length then -1 else smallW (l.map fun s => fun m d => smallT s m d) (most - 1) (deep - 1)
def smallL (l : List Tm) (most deep : Int) : Int := smallW (l.map fun s => fun m d => smallT s m d) most deep
theorem smallT_eq (f : Int) (l : List Tm) (most deep : Int) : smallT ⟨f, l⟩ most deep = if deep < 0 ∨ f < -1000 ∨ 1000 < f ∨ 20 < l.length then -1 else smallL l (most - 1) (deep - 1) := by rw [smallT]; rfl
theorem smallL_nil (most deep : Int) : smallL [] most deep = most := rfl
theorem smallL_cons (t : Tm) (ts : List Tm) (most deep : Int) : smallL (t :: ts) most deep = if most < 0 then most else smallL ts (smallT t most deep) deep := rfl
theorem smallL_neg (l : List Tm) {m : Int} (d : Int) (h : m < 0) : smallL l m d = m := by
  cases l with
  | nil => rw [smallL_nil]
  | cons t ts => rw [smallL_cons, if_pos h]

theorem small_bounds (t : Tm) : ∀ most deep, 0 ≤ most → -1 ≤ smallT t most deep ∧ smallT t most deep < most ∧ (0 ≤ smallT t most deep → smallT t most deep + t.wt ≤ most) := by
  induction t using Tm.ind with
  | h f l ih =>
    intro most deep hm
    rw [smallT_eq]
    split
    · exact ⟨by omega, by omega, by omega⟩
    · have : ∀ (l : List Tm) (m d : Int), (∀ t ∈ l, ∀ most deep, 0 ≤ most → -1 ≤ smallT t most deep ∧ smallT t most deep < most ∧ (0 ≤ smallT t most deep → smallT t most deep + t.wt ≤ most)) → -1 ≤ m → -1 ≤ smallL l m d ∧ smallL l m d ≤ m ∧ (0 ≤ smallL l m d → smallL l m d + Tm.wts l ≤ m) := by
        intro l
        induction l with
        | nil => intro m d _ h; rw [smallL_nil, wts_nil]; exact ⟨h, Int.le_refl _, by omega⟩
        | cons y ys ih2 =>
          intro m d hl h
          rw [smallL_cons, wts_cons]
          split
          · exact ⟨by omega, by omega, by omega⟩
          · have h1 := hl y (by simp) m d (by omega)
            have h2 := ih2 (smallT y m d) d (fun s hs => hl s (List.mem_cons_of_mem _ hs)) h1.1
            refine ⟨h2.1, by omega, fun h3 => ?_⟩
            have := h2.2.2 h3
            have := h1.2.2 (by omega)
            omega
      have h1 := this l (most - 1) (deep - 1) ih (by omega)
      refine ⟨h1.1, by omega, fun h2 => ?_⟩
      have := h1.2.2 h2
      rw [Tm.wt_eq]
      show _ + ((1 + Tm.wts l : Nat) : Int) ≤ _
      omega

set_option maxRecDepth 100000 in
set_option maxHeartbeats 1000000 in
theorem small_any : ∀ (t : Tm) (U : Nat → Prop) (a : Option Addr) (n c : Nat) (most deep : Int) (w : World), Tat U w t a n c → 0 ≤ most → most ≤ 60 → -1 ≤ deep → deep ≤ 20 →
    Calls Tryd.prog 38 #[.agg #[.int .i64 t.f, .slice a n c], .int .i64 most, .int .i64 deep] w fun e w' => e = .returned (.int .i64 (smallT t most deep)) ∧ Below w.heap.size w w' := by
  intro t
  induction t using Tm.ind with
  | h f l ih =>
    intro U a n c most deep w ht hm1 hm2 hd1 hd2
    obtain ⟨w1, hw1⟩ : ∃ w1, w1 = w.alloc (.cells #[.int .i64 f, .slice a n c] 48) := ⟨_, rfl⟩
    have b1 : Below w.heap.size w w1 := by rw [hw1]; exact bA (bW _) _
    have x1 : w1.heap[w.heap.size]? = some (.cells #[.int .i64 f, .slice a n c] 48 (0, 0)) := by rw [hw1]; exact World.alloc_heap_new _ _
    have hl : Las U w1 l a n c := ht.las.bw b1
    have HL := hid hl.len
    have hn : n ≤ 9223372036854775807 := by have := HL.out; unfold maxLen at this; omega
    have HX : Hid (∀ V, Below w1.heap.size w1 V → V.cell? ⟨w.heap.size, 0, none⟩ = some (.int .i64 f) ∧ V.cell? ⟨w.heap.size, 1, none⟩ = some (.slice a n c)) := fun V hb => cell2 ((hb.block _ (Array.getElem?_eq_some_iff.1 x1).1).trans x1)
    have HLs : Hid (∀ V, Below w1.heap.size w1 V → Las U V l a n c) := fun V hb => hl.bw hb
    have HI := hid ih
    have HW := hid hw1
    have HD : Hid (smallT (.mk f l) most deep = if deep < 0 ∨ f < -1000 ∨ 1000 < f ∨ 20 < l.length then -1 else smallL l (most - 1) (deep - 1)) := by show _ = _; rw [smallT_eq]
    obtain ⟨z, hz⟩ : ∃ z, z = smallT (.mk f l) most deep := ⟨_, rfl⟩
    rw [← hz] at HD ⊢
    obtain ⟨c1, c2⟩ := HX.out w1 (bW _)
    clear hz hw1 x1 hl ht ih
    simp only
    by_cases hbad : deep < 0 ∨ f < -1000 ∨ 1000 < f ∨ 20 < n
    · have HE : Hid (z = -1) := by show _ = _; rw [HD.out, if_pos (by have := HL.out.1; omega)]
      rw [HE.out]
      have HB0 : Hid (Below w.heap.size w w1) := b1
      by_cases q1 : deep < 0
      · go_enter Tryd.func38, Tryd.ntmps38
        go_wp2
        go_ret
        exact ⟨rfl, bA (bW _) _⟩
      · by_cases q2 : f < -1000
        · go_enter Tryd.func38, Tryd.ntmps38
          go_wp2
          go_ret
          exact ⟨rfl, bA (bW _) _⟩
        · by_cases q3 : 1000 < f
          · go_enter Tryd.func38, Tryd.ntmps38
            go_wp2
            go_ret
            exact ⟨rfl, bA (bW _) _⟩
          · have q4 : 20 < n := by omega
            go_enter Tryd.func38, Tryd.ntmps38
            go_wp2
            go_ret
            exact ⟨rfl, bA (bW _) _⟩
    · have HE : Hid (z = smallL l (most - 1) (deep - 1)) := by show _ = _; rw [HD.out, if_neg (by have := HL.out.1; omega)]
      have q1 : ¬ deep < 0 := by omega
      have q2 : ¬ f < -1000 := by omega
      have q3 : ¬ 1000 < f := by omega
      have q4 : ¬ 20 < n := by omega
      clear hbad HD
      go_enter Tryd.func38, Tryd.ntmps38
      go_wp2_with fail
      rw [← HW.out]
      go_loopw [1, 7] (fun u i wr => ∃ (k : Nat) (m : Int), u = .int .i64 m ∧ i = .int .i64 (k : Int) ∧ k ≤ n ∧ -1 ≤ m ∧ m ≤ 60 ∧ Below w1.heap.size w1 wr ∧ smallL (l.drop k) m (deep - 1) = z) (fun u i _ => n - (intOf i).toNat)
      case atStart => exact ⟨0, most - 1, rfl, rfl, by omega, by omega, by omega, bW _, by rw [HE.out]; simp⟩
      case round =>
        obtain ⟨k, m, rfl, rfl, hk, hm3, hm4, hbr, hsm⟩ := hrel
        have HSM := hid hsm
        obtain ⟨d1, d2⟩ := HX.out wr hbr
        clear hsm c1 c2
        by_cases hlt : k < n
        · by_cases hmn : 0 ≤ m
          · obtain ⟨b, off, s, a', n', c', rfl, hU, hlt', hs, hT, e1, e2⟩ := (HLs.out wr hbr).at hlt
            have HS := hid hs
            have hbd := small_bounds s m (deep - 1) hmn
            have HR : Hid (smallL (l.drop (k + 1)) (smallT s m (deep - 1)) (deep - 1) = z) := by
              show _ = _
              rw [← HSM.out, drop_at HS.out, smallL_cons, if_neg (by omega)]
            have HCall : Hid (Calls Tryd.prog 38 #[.agg #[.int .i64 s.f, .slice a' n' c'], .int .i64 m, .int .i64 (deep - 1)] wr fun e w' => e = .returned (.int .i64 (smallT s m (deep - 1))) ∧ Below wr.heap.size wr w') := HI.out s (List.mem_of_getElem? HS.out) U a' n' c' m (deep - 1) wr hT hmn hm4 (by omega) (by omega)
            obtain ⟨y, hy⟩ : ∃ y, y = smallT s m (deep - 1) := ⟨_, rfl⟩
            rw [← hy] at HR HCall hbd
            clear hs hT hy
            go_wp2_with (go_at_call 38; refine HCall.out.mono ?_; rintro e w2 ⟨rfl, hb2⟩)
            go_roundw
            case rel => exact ⟨k + 1, y, rfl, by go_num, by omega, by omega, by omega, bN hbr hb2, HR.out⟩
            case measure => simp [intOf]; omega
          · have HZ : Hid (z = m) := by show _ = _; rw [← HSM.out, smallL_neg _ _ (by omega)]
            go_wp2
            go_ret
            exact ⟨by rw [HZ.out]; rfl, bN b1 hbr⟩
        · have HZ : Hid (z = m) := by
            show _ = _
            rw [← HSM.out, List.drop_eq_nil_of_le (by have := HL.out.1; omega), smallL_nil]
          go_wp2
          go_ret
          exact ⟨by rw [HZ.out]; rfl, bN b1 hbr⟩
end Go.Proofs.YtebhbnhijnpmcaaDoor
namespace Go.Proofs.YtebhbnhijnpmcaaDoor
open Go.RowKit
set_option linter.unusedVariables false
set_option maxRecDepth 100000
def Tm.rng : Tm → Prop
  | ⟨f, l⟩ => (-9223372036854775808 ≤ f ∧ f ≤ 9223372036854775807) ∧ ∀ t ∈ l, Tm.rng t
theorem Tm.rng_iff (t : Tm) : t.rng ↔ (-9223372036854775808 ≤ t.f ∧ t.f ≤ 9223372036854775807) ∧ ∀ s ∈ t.l, s.rng := by cases t; rw [Tm.rng]

theorem Tat.rng {U : Nat → Prop} {w : World} : ∀ {t : Tm} {a : Option Addr} {n c : Nat}, Tat U w t a n c → t.rng := by
  intro t
  induction t using Tm.ind with
  | h f l ih =>
    intro a n c h
    obtain ⟨h1, h2, h3, h4, h5, xs, h6, h7⟩ := tat_iff.1 h
    rw [Tm.rng_iff]
    refine ⟨h1, fun s hs => ?_⟩
    obtain ⟨i, hi, he⟩ := List.mem_iff_getElem.1 hs
    obtain ⟨s', a', n', c', e1, e2, _⟩ := h7.at (i := i) hi
    have hi' : i < l.length := hi
    rw [List.getElem?_eq_getElem hi'] at e1
    have e1 := Option.some.inj e1
    have he : l[i] = s := he
    rw [← he]
    exact ih _ (List.getElem_mem hi') (by rw [e1]; exact e2)

theorem ecs_of_sq {U : Nat → Nat → Prop} {w : World} : ∀ {l : List Tm} {xs : List Value}, (∀ t ∈ l, ∀ ys, Rep U w t.cv ys → ∃ a n c, ys = [.int .i64 t.f, .slice a n c] ∧ Tat (fun _ => True) w t a n c) → Sq ((l.map Tm.cv).map fun c => Rep U w c) xs → Ecs (fun _ => True) w l xs
  | [], xs, _, h => Ecs.nil_iff.2 h
  | t :: ts, xs, ht, ⟨ys, zs, e, h1, h2⟩ => by
    obtain ⟨a, n, c, e1, h3⟩ := ht t (by simp) ys h1
    exact Ecs.cons_iff.2 ⟨a, n, c, zs, by rw [e, e1]; rfl, h3, ecs_of_sq (fun s hs => ht s (List.mem_cons_of_mem _ hs)) h2⟩
theorem tat_of_rep {U : Nat → Nat → Prop} {w : World} : ∀ {t : Tm} {xs : List Value}, t.rng → Rep U w t.cv xs → ∃ a n c, xs = [.int .i64 t.f, .slice a n c] ∧ Tat (fun _ => True) w t a n c := by
  intro t
  induction t using Tm.ind with
  | h f l ih =>
    intro xs hr h
    rw [Tm.rng_iff] at hr
    rw [Tm.cv_eq] at h
    obtain ⟨y1, y2, e1, h1, y3, y4, e2, h2, h3⟩ := rep_row.1 h
    obtain ⟨rfl, _⟩ := rep_sc.1 h1
    obtain ⟨a, n, c, rfl, g2, g3, g4, g5, zs, g6, g7⟩ := rep_lst.1 h2
    have h3 : y4 = [] := h3
    subst h3
    refine ⟨a, n, c, by rw [e1, e2]; rfl, tat_iff.2 ⟨hr.1, by rw [List.length_map] at g2; exact g2, g3, g4, g5, zs, ?_, ecs_of_sq (fun t ht ys hy => ih t ht (hr.2 t ht) hy) g7⟩⟩
    rcases g6 with g6 | ⟨b, off, g6, g8⟩
    · exact .inl g6
    · by_cases hz : zs = []
      · exact .inl hz
      · refine .inr ⟨b, off, g6, trivial, ?_, fun i hi => (g8 i hi).2⟩
        have hpos : 0 < zs.length := List.length_pos_iff.2 hz
        have := (g8 0 hpos).2
        rw [List.getElem?_eq_getElem hpos] at this
        exact World.block_lt_of_cell? w _ this
theorem tat_of_vrep {U : Nat → Nat → Prop} {w : World} {t : Tm} {v : Value} (hr : t.rng) (h : VRep U w t.cw v) : ∃ a n c, v = .agg #[.int .i64 t.f, .slice a n c] ∧ Tat (fun _ => True) w t a n c := by
  obtain ⟨xs, h1, h2⟩ : ∃ xs : List Value, v = .agg xs.toArray ∧ Rep U w t.cw xs := h
  rw [← Tm.cv_eq] at h2
  obtain ⟨a, n, c, h3, h4⟩ := tat_of_rep hr h2
  exact ⟨a, n, c, by rw [h1, h3], h4⟩

theorem small_abs (W : World) (t : Tm) (most deep : Int) (ht : t.rng) (h0 : 0 ≤ most) (h1 : most ≤ 60) (h2 : -1 ≤ deep) (h3 : deep ≤ 20) : AFun Tryd.prog W 38 [t.cw, .i most, .i deep] (.val (.i (smallT t most deep))) := by
  refine ⟨ent_of Tryd.func38 rfl rfl, .inl rfl, rfl, ?_⟩
  rintro U w vs hW ⟨u1, us1, rfl, g1, u2, us2, rfl, g2, u3, us3, rfl, g3, g4⟩
  have g4 : us3 = [] := g4
  subst g4
  obtain ⟨a, n, c, rfl, h4⟩ := tat_of_vrep ht g1
  obtain ⟨rfl, _⟩ := vrep_sc.1 g2
  obtain ⟨rfl, _⟩ := vrep_sc.1 g3
  refine (small_any t _ a n c most deep w h4 h0 h1 h2 h3).mono ?_
  rintro e w' ⟨rfl, hb⟩
  exact ⟨_, rfl, vrep_sc.2 ⟨rfl, rfl⟩, hb⟩
end Go.Proofs.YtebhbnhijnpmcaaDoor
namespace Go.Proofs.YtebhbnhijnpmcaaDoor
set_option linter.unusedVariables false
structure Bd where
  v : Int
  t : Tm
noncomputable abbrev Bd.cw (b : Bd) : CV := .row [.i b.v, b.t.cw]
noncomputable def Bd.cv (b : Bd) : CV := b.cw
def findB : List Bd → Int → Option Tm
  | [], _ => none
  | b :: l, v => if b.v = v then some b.t else findB l v
def varT (v : Int) : Tm := ⟨-1 - v, []⟩
def imgB (l : List Bd) (v : Int) : Tm := (findB l v).getD (varT v)
def repT (img : Int → Tm) : Tm → Tm
  | ⟨f, l⟩ => if f < 0 then (img (-1 - f)).strip else ⟨f, l.map (repT img)⟩
end Go.Proofs.YtebhbnhijnpmcaaDoor
namespace Go.Proofs.YtebhbnhijnpmcaaDoor
open Go.RowKit
set_option linter.unusedVariables false
section
variable {P : Program} {w0 : World} {U0 : UX} {nt : Nat} {ops : Array Oper} {o : Oper} {S : Nat → Option AV} {gs : List Nat} {d : Nat}
end
end Go.Proofs.YtebhbnhijnpmcaaDoor
namespace Go.Proofs.YtebhbnhijnpmcaaDoor
open Go.RowKit
set_option linter.unusedVariables false
set_option linter.unusedSimpArgs false
theorem add_at (b off j : Nat) : (⟨b, off, none⟩ : Addr).add j = ⟨b, off + j, none⟩ := by unfold Addr.add; split <;> simp_all

section
variable {P : Program} {w0 : World} {U0 : UX} {nt : Nat} {ops : Array Oper} {o : Oper} {S : Nat → Option AV} {gs : List Nat} {d : Nat} {s : AS} {a : Act} {w : World} {D : Nat → Nat → Prop} {hv : Nat → Value}

theorem run_sizeOf {e : TypeId} {z : Nat} (hi : (P.info? e).map (·.size) = some z) : (sizeOf e).run P w = .ok z w := by
  cases hi' : P.info? e with
  | none => rw [hi'] at hi; simp at hi
  | some i => rw [hi'] at hi; simp at hi; simp [sizeOf, typeInfo, hi', hi]

theorem SimG.mrow (h : SimG w0 U0 nt s a w D hv) {n e z : Nat} {l : List CV} (h1 : look s n = some (.mrow e z l)) (hn : RN n) : ∃ xs, w.ownsRow 0 e z (hv n) l.length xs ∧ 0 < z ∧ (∀ c ∈ l, c.size = z) ∧ Sq (l.map fun c => Rep (Us w0 U0 D) w c) xs := by
  have : OC (Us w0 U0 D) w hv (LiveN s) (.mrow e z l) (hv n) := h.obj n _ h1 (by unfold RN at hn; unfold oKey; omega)
  exact this
section
variable (hg : Gd w0 U0 nt ops o gs S) (hd : o.dst = some d) (hn : Nat.blt d nt = true) (h5 : Nat.blt d 100000 = true)
include hg hd hn h5
end
end
def AVReps (U : Nat → Nat → Prop) (w : World) (hv : Nat → Value) (lv : Nat → Prop) : List AV → List Value → Prop
  | [], vs => vs = []
  | c :: cs, vs => ∃ u us, vs = u :: us ∧ AVRep U w hv lv c u ∧ AVReps U w hv lv cs us
theorem AVReps.len {U : Nat → Nat → Prop} {w : World} {hv : Nat → Value} {lv : Nat → Prop} : ∀ {l : List AV} {vs : List Value}, AVReps U w hv lv l vs → vs.length = l.length
  | [], _, h => by have h : _ = [] := h; rw [h]; rfl
  | c :: cs, vs, ⟨u, us, e, h1, h2⟩ => by rw [e, List.length_cons, List.length_cons, AVReps.len h2]
theorem AVReps.at {U : Nat → Nat → Prop} {w : World} {hv : Nat → Value} {lv : Nat → Prop} : ∀ {l : List AV} {vs : List Value}, AVReps U w hv lv l vs → ∀ {i : Nat} {c : AV}, l[i]? = some c → ∃ v, vs[i]? = some v ∧ AVRep U w hv lv c v
  | [], _, _, i, c, hi => by simp at hi
  | c' :: cs, vs, ⟨u, us, e, h1, h2⟩, 0, c, hi => by
    simp only [List.getElem?_cons_zero, Option.some.injEq] at hi
    exact ⟨u, by rw [e]; rfl, hi ▸ h1⟩
  | c' :: cs, vs, ⟨u, us, e, h1, h2⟩, i + 1, c, hi => by
    obtain ⟨v, h3, h4⟩ := AVReps.at h2 (i := i) (c := c) (by simpa using hi)
    exact ⟨v, by rw [e]; simpa using h3, h4⟩
theorem AVReps.imp {U V : Nat → Nat → Prop} {w w' : World} {hv hv' : Nat → Value} {lv lv' : Nat → Prop} : ∀ {l : List AV} {vs : List Value}, (∀ c ∈ l, ∀ v, AVRep U w hv lv c v → AVRep V w' hv' lv' c v) → AVReps U w hv lv l vs → AVReps V w' hv' lv' l vs
  | [], _, _, h => h
  | c :: cs, vs, hc, ⟨u, us, e, h1, h2⟩ => ⟨u, us, e, hc c (by simp) u h1, AVReps.imp (fun x hx => hc x (List.mem_cons_of_mem _ hx)) h2⟩

def AFunO (P : Program) (f : FuncId) (pre : AS) (args : List AV) (r : AV) (post : AS) : Prop :=
  EntF P f ∧ ∀ (U : UX) (w : World) (hv : Nat → Value) (a0 : Act) (vs : List Value), (∀ k v, U.f k = some v → hasN (kO pre) k = true) → SimG w U 0 pre a0 w (fun _ _ => False) hv → AVReps (Us w U (fun _ _ => False)) w hv (LiveN pre) args vs →
    Calls P f vs.toArray w fun e w' => ∃ v D' hv' a', e = .returned v ∧ SimG w U 0 post a' w' D' hv' ∧ AVRep (Us w U D') w' hv' (LiveN post) r v

def evsA (S : Nat → Option AV) : List Operand → Option (List AV)
  | [] => some []
  | x :: xs => match ev S x, evsA S xs with
    | some c, some cs => some (c :: cs)
    | _, _ => none

def SubS (S : Nat → Option AV) : AS → Prop
  | [] => True
  | (k, av) :: s => S k = some av ∧ SubS S s
theorem SubS.look {S : Nat → Option AV} : ∀ {s : AS}, SubS S s → ∀ {k av}, look s k = some av → S k = some av
  | [], _, k, av, h => by simp [Go.Proofs.YtebhbnhijnpmcaaDoor.look] at h
  | (k', av') :: s, ⟨h1, h2⟩, k, av, h => by
    rw [look_cons] at h
    split at h
    · rename_i e; subst e; cases h; exact h1
    · exact SubS.look h2 h

def lendB (p : Nat × AV) : Bool := match Nat.ble 500000 p.1 with
  | true => true
  | false => Nat.ble 300000 p.1 && !Nat.beq p.2.t 6 && !Nat.beq p.2.t 7 && (Nat.blt p.1 450000 || Nat.beq p.2.t 5 || Nat.beq p.2.t 9 || Nat.beq p.2.t 23)
def refB (ks : List Nat) (av : AV) : Bool := match Nat.beq av.t 0 || Nat.beq av.t 5 with
  | true => Nat.ble av.n 1
  | false => match Nat.beq av.t 2 || Nat.beq av.t 11 || Nat.beq av.t 12 || Nat.beq av.t 15 || Nat.beq av.t 19 with
    | true => hasN ks (hk av)
    | false => true
def leaveB (ks : List Nat) (p : Nat × AV) : Bool := Nat.ble 200000 p.1 && !Nat.beq p.2.t 6 && refB ks p.2 && (match Nat.ble 500000 p.1 with | true => Nat.ble 350000 (fnm p.1) && Nat.blt (fnm p.1) 400000 && hasN ks (100000 + fnm p.1) | false => true)
def newN (pre post : List Nat) : List Nat → List (Nat × List Nat)
  | [] => []
  | k :: ks => match Nat.ble 500000 k, Nat.blt k 400000, Nat.blt k 450000, hasN pre k with
    | true, _, _, _ => newN pre post ks
    | false, true, _, _ => (k, pre ++ post) :: newN pre post ks
    | false, false, true, true => newN pre post ks
    | false, false, true, false => (k, pre ++ post) :: newN pre post ks
    | false, false, false, true => (k - 100000 + 1000000, pre ++ post) :: newN pre post ks
    | false, false, false, false => (k - 100000, pre ++ post) :: newN pre post ks

theorem ble_no {a b : Nat} (h : b < a) : Nat.ble a b = false := by
  cases e : Nat.ble a b with
  | false => rfl
  | true => have := Nat.le_of_ble_eq_true e; omega
theorem blt_no {a b : Nat} (h : b ≤ a) : Nat.blt a b = false := by
  cases e : Nat.blt a b with
  | false => rfl
  | true => have := bL e; omega
theorem blt_yes {a b : Nat} (h : a < b) : Nat.blt a b = true := by simp [Nat.blt_eq, h]
theorem newN_tail {pre post : List Nat} {x : Nat} {ks : List Nat} {q : Nat × List Nat} (h : q ∈ newN pre post ks) : q ∈ newN pre post (x :: ks) := by
  unfold newN
  split
  · exact h
  · exact List.mem_cons_of_mem _ h
  · exact h
  · exact List.mem_cons_of_mem _ h
  · exact List.mem_cons_of_mem _ h
  · exact List.mem_cons_of_mem _ h
theorem newN_row {pre post : List Nat} : ∀ {ks : List Nat} {k : Nat}, k ∈ ks → k < 450000 → (k < 400000 ∨ hasN pre k = false) → (k, pre ++ post) ∈ newN pre post ks
  | x :: ks, k, h, hk, hp => by
    rcases List.mem_cons.1 h with rfl | h
    · unfold newN
      rw [ble_no (by omega : k < 500000)]
      by_cases h4 : k < 400000
      · rw [blt_yes h4]; simp
      · rw [blt_no (by omega : 400000 ≤ k), blt_yes hk]
        rcases hp with hp | hp
        · omega
        · rw [hp]; simp
    · exact newN_tail (newN_row h hk hp)
theorem newN_box {pre post : List Nat} : ∀ {ks : List Nat} {k : Nat}, k ∈ ks → 450000 ≤ k → k < 500000 → hasN pre k = false → (k - 100000, pre ++ post) ∈ newN pre post ks
  | x :: ks, k, h, hk, hk2, hp => by
    rcases List.mem_cons.1 h with rfl | h
    · unfold newN
      rw [ble_no (by omega : k < 500000), blt_no (by omega : 400000 ≤ k), blt_no hk, hp]
      simp
    · exact newN_tail (newN_box h hk hk2 hp)
theorem newN_lent {pre post : List Nat} : ∀ {ks : List Nat} {k : Nat}, k ∈ ks → 450000 ≤ k → k < 500000 → hasN pre k = true → (k - 100000 + 1000000, pre ++ post) ∈ newN pre post ks
  | x :: ks, k, h, hk, hk2, hp => by
    rcases List.mem_cons.1 h with rfl | h
    · unfold newN
      rw [ble_no (by omega : k < 500000), blt_no (by omega : 400000 ≤ k), blt_no hk, hp]
      simp
    · exact newN_tail (newN_lent h hk hk2 hp)

theorem mem_keys {s : AS} {k : Nat} {av : AV} (h : look s k = some av) : k ∈ kO s := List.mem_map.2 ⟨_, look_mem h, rfl⟩
theorem keys_look {s : AS} {k : Nat} (h : k ∈ kO s) : ∃ av, look s k = some av := by
  induction s with
  | nil => simp [kO] at h
  | cons p s ih =>
    obtain ⟨d, x⟩ := p
    by_cases e : d = k
    · exact ⟨x, by rw [look_cons, if_pos e]⟩
    · rw [lN e]
      refine ih ?_
      simp only [kO, List.map_cons, List.mem_cons] at h ⊢
      rcases h with h | h
      · exact absurd h.symm e
      · exact h
theorem look_append {e s : AS} {k : Nat} : look (e ++ s) k = (look e k).or (look s k) := by
  induction e with
  | nil => rfl
  | cons p e ih =>
    obtain ⟨d, x⟩ := p
    by_cases h : d = k
    · subst h; rw [List.cons_append, lS, lS]; rfl
    · rw [List.cons_append, lN h, lN h, ih]
theorem look_no {s : AS} {k : Nat} (h : hasN (kO s) k = false) : look s k = none := by
  cases e : look s k with
  | none => rfl
  | some av => rw [hasN_of (mem_keys e)] at h; cases h

theorem all_look {q : Nat × AV → Bool} {s : AS} (h : s.all q = true) {k : Nat} {av : AV} (h1 : look s k = some av) : q (k, av) = true := by
  rw [List.all_eq_true] at h
  exact h _ (look_mem h1)

section
variable {P : Program} {w0 : World} {U0 : UX} {nt : Nat} {ops : Array Oper} {o : Oper} {S : Nat → Option AV} {gs : List Nat} {d : Nat} {s : AS} {a : Act} {w : World} {D : Nat → Nat → Prop} {hv : Nat → Value}

theorem evsA_rep (h : SimG w0 U0 nt s a w D hv) : ∀ {xs : List Operand} {cs : List AV}, (∀ k ∈ rdl xs, look s k = S k) → evsA S xs = some cs → AVReps (Us w0 U0 D) w hv (LiveN s) cs (xs.map a.eval)
  | [], cs, _, he => by simp [evsA] at he; subst he; rfl
  | x :: xs, cs, hs, he => by
    unfold evsA at he
    split at he
    · rename_i c cs' h1 h2
      cases he
      exact ⟨a.eval x, xs.map a.eval, rfl, ev_rep h (fun k hk => hs k (List.mem_append_left _ hk)) h1, evsA_rep h (fun k hk => hs k (List.mem_append_right _ hk)) h2⟩
    · cases he

theorem SimG.lend (h : SimG w0 U0 nt s a w D hv) {pre : AS} (hp : Sub s pre) (hl : pre.all lendB = true) : ∃ V : UX, (∀ k v, V.f k = some v → hasN (kO pre) k = true) ∧ SimG w V 0 pre ⟨#[], []⟩ w (fun _ _ => False) hv ∧ (∀ b, V.x b ↔ ∃ k av, look pre k = some av ∧ oKey k ∧ hb (hv k) = some b) ∧ (∀ k, hasN (kO pre) k = true → 400000 ≤ k → k < 500000 → V.f k = some (hv k)) ∧ (∀ b o, V.m b o ↔ Us w0 U0 D b o) ∧ ∀ b o u, Us w0 U0 D b o → w.cell? ⟨b, o, none⟩ = some u → Us w V (fun _ _ => False) b o ∧ w.cell? ⟨b, o, none⟩ = some u := by
  classical
  have hlk : ∀ {k av}, look pre k = some av → oKey k → 300000 ≤ k ∧ av.t ≠ 6 ∧ av.t ≠ 7 ∧ True := fun {k av} h1 h2 => by
    have h3 := all_look hl h1
    unfold oKey at h2
    unfold lendB at h3
    have h4 : Nat.ble 500000 k = false := by
      cases e : Nat.ble 500000 k with
      | false => rfl
      | true => have := Nat.le_of_ble_eq_true e; omega
    simp only [h4, Bool.and_eq_true, Bool.or_eq_true, Bool.not_eq_true'] at h3
    obtain ⟨⟨⟨h5, h6⟩, h7⟩, h8⟩ := h3
    refine ⟨Nat.le_of_ble_eq_true h5, (fun e => by rw [e] at h6; cases h6), (fun e => by rw [e] at h7; cases h7), trivial⟩
  let isB : Nat → Prop := fun k => 400000 ≤ k ∧ k < 500000 ∧ hasN (kO pre) k = true
  let V : UX := ⟨Us w0 U0 D, fun b => ∃ k av, look pre k = some av ∧ oKey k ∧ hb (hv k) = some b, fun k => if isB k then some (hv k) else none, fun k v (h1 : (if isB k then some (hv k) else none) = some v) => by
    split at h1
    · rename_i h2; exact ⟨h2.1, h2.2.1⟩
    · cases h1⟩
  have hkeep : ∀ b o u, Us w0 U0 D b o → w.cell? ⟨b, o, none⟩ = some u → Us w V (fun _ _ => False) b o ∧ w.cell? ⟨b, o, none⟩ = some u := fun b o u hu hc => by
    refine ⟨.inl ⟨World.block_lt_of_cell? w _ hc, hu, ?_⟩, hc⟩
    rintro ⟨k, av, h1, h2, h3⟩
    obtain ⟨g1, g2, g3, _⟩ := hlk h1 h2
    obtain ⟨f1, f2, f3⟩ := h.blk k av b (hp _ _ h1) h2 g3 h3
    exact us_ne hu f1 (f3 o fun e => absurd e g2) rfl
  have hln : ∀ n, LiveN pre n → LiveN s n := fun n h1 => h1.imp id fun ⟨e, he⟩ => ⟨e, hp _ _ he.1, he.2⟩
  refine ⟨V, fun n g h1 => ?_, ⟨BelowX.refl _ _, rfl, rfl, fun d av h1 h2 => ?_, fun n o av h1 h2 h3 h4 => ?_, fun n o o' av av' h1 h2 => h.fdis n o o' av av' (hp _ _ h1) (hp _ _ h2), fun k av h1 h2 => ?_, fun k av g h1 h2 h3 h4 => ?_, fun k k' av av' g h1 h2 => h.disj k k' av av' g (hp _ _ h1) (hp _ _ h2), fun n g h1 => ?_, fun b o hd => hd.elim⟩, fun b => Iff.rfl, fun k h1 h2 h3 => ?_, fun b o => Iff.rfl, hkeep⟩
  · have h1 : (if isB n then some (hv n) else none) = some g := h1
    split at h1
    · rename_i h2; exact h2.2.2
    · cases h1
  · have h3 := all_look hl h1
    unfold lendB at h3
    have h4 : Nat.ble 500000 d = false := by
      cases e : Nat.ble 500000 d with
      | false => rfl
      | true => have := Nat.le_of_ble_eq_true e; omega
    simp only [h4, Bool.and_eq_true] at h3
    have := Nat.le_of_ble_eq_true h3.1.1.1
    omega
  · obtain ⟨v, h6, h7⟩ := h.fld n o av (hp _ _ h1) h2 (hp _ _ h3) h4
    exact ⟨v, h6.move hkeep (fun _ => hln _) fun _ => rfl, h7⟩
  · exact (h.obj k av (hp _ _ h1) h2).move hkeep (fun _ h3 => ⟨hln _ h3, rfl⟩) fun _ _ => rfl
  · obtain ⟨g1, g2, g3, _⟩ := hlk h1 h2
    obtain ⟨f1, f2, f3⟩ := h.blk k av g (hp _ _ h1) h2 h3 h4
    exact ⟨.inr ⟨by rw [lcl_row g1]; exact g2, k, av, h1, h2, h4⟩, f2, fun _ _ h => h⟩
  · have h1 : (if isB n then some (hv n) else none) = some g := h1
    split at h1
    · cases h1; rfl
    · cases h1
  · show (if isB k then some (hv k) else none) = some (hv k)
    rw [if_pos ⟨h2, h3, h1⟩]

theorem SimG.back (h : SimG w0 U0 nt s a w D hv) {pre post : AS} (hp : Sub s pre) (hl : pre.all lendB = true) (hq : post.all (leaveB (kO post)) = true) (hks : (kO pre).all (hasN (kO post)) = true) (hN : ∀ q ∈ newN (kO pre) (kO post) (kO post), NoRefE s q) (hnb : ∀ k v, U0.f k = some v → hasN (kO post) k = true → hasN (kO pre) k = true)
    {V : UX} (hVx : ∀ b, V.x b ↔ ∃ k av, look pre k = some av ∧ oKey k ∧ hb (hv k) = some b) (hVf : ∀ k, hasN (kO pre) k = true → 400000 ≤ k → k < 500000 → V.f k = some (hv k)) (hVm : ∀ b o, V.m b o ↔ Us w0 U0 D b o) (hpS : SimG w V 0 pre ⟨#[], []⟩ w (fun _ _ => False) hv)
    {w' : World} {D' : Nat → Nat → Prop} {hv' : Nat → Value} {a' : Act} (h' : SimG w V 0 post a' w' D' hv') :
    ∃ D'' hv'', SimG w0 U0 nt (post ++ s) a w' D'' hv'' ∧ (∀ r v, refB (kO post) r = true → AVRep (Us w V D') w' hv' (LiveN post) r v → AVRep (Us w0 U0 D'') w' hv'' (LiveN (post ++ s)) r v) ∧ ∀ b o, D b o → D'' b o := by
  classical
  have hlk : ∀ {k av}, look pre k = some av → oKey k → 300000 ≤ k ∧ av.t ≠ 6 ∧ av.t ≠ 7 ∧ True := fun {k av} h1 h2 => by
    have h3 := all_look hl h1
    unfold oKey at h2
    unfold lendB at h3
    have h4 : Nat.ble 500000 k = false := by
      cases e : Nat.ble 500000 k with
      | false => rfl
      | true => have := Nat.le_of_ble_eq_true e; omega
    simp only [h4, Bool.and_eq_true, Bool.or_eq_true, Bool.not_eq_true'] at h3
    obtain ⟨⟨⟨h5, h6⟩, h7⟩, h8⟩ := h3
    refine ⟨Nat.le_of_ble_eq_true h5, (fun e => by rw [e] at h6; cases h6), (fun e => by rw [e] at h7; cases h7), trivial⟩
  have hqk : ∀ {k av}, look post k = some av → 200000 ≤ k ∧ av.t ≠ 6 ∧ refB (kO post) av = true := fun {k av} h1 => by
    have h3 := all_look hq h1
    unfold leaveB at h3
    simp only [Bool.and_eq_true, Bool.not_eq_true'] at h3
    exact ⟨Nat.le_of_ble_eq_true h3.1.1.1, (fun e => by rw [e] at h3; exact absurd h3.1.1.2 (by decide)), h3.1.2⟩
  have hqf : ∀ {n o av}, look post (fKey n o) = some av → o < 100 → 350000 ≤ n ∧ n < 400000 ∧ hasN (kO post) (100000 + n) = true := fun {n o av} h1 h2 => by
    have h3 := all_look hq h1
    unfold leaveB at h3
    have h4 : Nat.ble 500000 (fKey n o) = true := Nat.ble_eq_true_of_le (by unfold fKey; omega)
    simp only [h4, fnm_key h2, Bool.and_eq_true] at h3
    exact ⟨Nat.le_of_ble_eq_true h3.2.1.1, bL h3.2.1.2, h3.2.2⟩
  have hsub : ∀ {k}, hasN (kO pre) k = true → hasN (kO post) k = true := fun {k} h1 => by
    rw [List.all_eq_true] at hks
    exact hks k (hasN_mem h1)
  obtain ⟨D2, hD2⟩ : ∃ D2 : Nat → Nat → Prop, D2 = fun b o => D b o ∨ (w.heap.size ≤ b ∧ D' b o) := ⟨_, rfl⟩
  obtain ⟨hv2, hhv⟩ : ∃ hv2 : Nat → Value, hv2 = fun k => if hasN (kO post) k = true then hv' k else hv k := ⟨_, rfl⟩
  have hvy : ∀ {k}, hasN (kO post) k = true → hv2 k = hv' k := fun {k} h1 => by rw [hhv]; simp only [h1, if_true]
  have hvn : ∀ {k}, hasN (kO post) k = false → hv2 k = hv k := fun {k} h1 => by rw [hhv]; simp [h1]
  obtain ⟨s2, hs2⟩ : ∃ s2, s2 = post ++ s := ⟨_, rfl⟩
  have hly : ∀ {k av}, look post k = some av → look s2 k = some av := fun {k av} h1 => by rw [hs2, look_append, h1]; rfl
  have hlc : ∀ {k av}, look s2 k = some av → look post k = some av ∨ (hasN (kO post) k = false ∧ look s k = some av) := fun {k av} h1 => by
    cases e : hasN (kO post) k with
    | true =>
      obtain ⟨av', h2⟩ := keys_look (hasN_mem e)
      rw [hly h2] at h1
      cases h1
      exact .inl h2
    | false =>
      rw [hs2, look_append, look_no e] at h1
      exact .inr ⟨rfl, h1⟩
  have hlive : ∀ n e, Live s2 n e → hasN (kO post) n = false ∧ Live s n e := fun n e ⟨h1, h2⟩ => by
    rcases hlc h1 with h3 | ⟨h3, h4⟩
    · exact absurd rfl (hqk h3).2.1
    · exact ⟨h3, h4, h2⟩
  have hln : ∀ n, LiveN s2 n → LiveN s n := fun n h1 => h1.imp id fun ⟨e, he⟩ => ⟨e, (hlive n e he).2⟩
  have hbw := h'.below
  -- blocks that were not lent
  have hold : ∀ b, b < w.heap.size → ¬ V.x b → w'.heap[b]? = w.heap[b]? := hbw.block
  have hk1 : ∀ b o u, Us w0 U0 D b o → w.cell? ⟨b, o, none⟩ = some u → Us w0 U0 D2 b o ∧ w'.cell? ⟨b, o, none⟩ = some u := fun b o u hu hc => by
    refine ⟨hu.imp id fun h1 => ⟨h1.1, by rw [hD2]; exact .inl h1.2⟩, ?_⟩
    have hnx : ¬ V.x b := fun hx => by
      obtain ⟨k, av, h1, h2, h3⟩ := (hVx b).1 hx
      obtain ⟨g1, g2, g3, _⟩ := hlk h1 h2
      obtain ⟨f1, f2, f3⟩ := h.blk k av b (hp _ _ h1) h2 g3 h3
      exact us_ne hu f1 (f3 o fun e => absurd e g2) rfl
    rw [World.cell?_of_block (w := w) (hold b (World.block_lt_of_cell? w _ hc) hnx)]
    exact hc
  have hk2 : ∀ b o u, Us w V D' b o → w'.cell? ⟨b, o, none⟩ = some u → Us w0 U0 D2 b o ∧ w'.cell? ⟨b, o, none⟩ = some u := fun b o u hu hc => by
    refine ⟨?_, hc⟩
    rcases hu with ⟨h1, h2, h3⟩ | ⟨h1, h2⟩
    · exact ((hVm b o).1 h2).imp id fun h4 => ⟨h4.1, by rw [hD2]; exact .inl h4.2⟩
    · exact .inr ⟨Nat.le_trans h.below.size h1, by rw [hD2]; exact .inr ⟨h1, h2⟩⟩
  -- what was lent is where it was
  have hbx : ∀ k, 400000 ≤ k → k < 500000 → hasN (kO pre) k = true → hv' k = hv k := fun k h2 h3 h1 => h'.fix k _ (hVf k h1 h2 h3)
  have hrow : ∀ {k av n}, look s k = some av → hasN (kO post) k = false → RN n → hasN (kO post) n = true → (n < 400000 ∨ hasN (kO pre) n = false) → av.n ≠ n := fun {k av n} h1 h2 h3 h4 h6 => by
    have h5 := hN _ (newN_row (pre := kO pre) (post := kO post) (hasN_mem h4) h3.2 h6)
    refine (h5 k av h1 ?_).1
    cases e : hasN (kO pre ++ kO post) k with
    | false => rfl
    | true =>
      rcases List.mem_append.1 (hasN_mem e) with e | e
      · rw [hsub (hasN_of e)] at h2; cases h2
      · rw [hasN_of e] at h2; cases h2
  have hbox : ∀ {k av n}, look s k = some av → hasN (kO post) k = false → BN n → 350000 ≤ n → hasN (kO post) (100000 + n) = true → hasN (kO pre) (100000 + n) = false → av.n ≠ n ∧ fnm k ≠ n ∧ fnm k + 1000000 ≠ n := fun {k av n} h1 h2 h3 h6 h4 h5 => by
    unfold BN at h3
    have h7 := hN _ (newN_box (pre := kO pre) (post := kO post) (hasN_mem h4) (by omega) (by omega) h5)
    rw [show 100000 + n - 100000 = n by omega] at h7
    refine h7 k av h1 ?_
    cases e : hasN (kO pre ++ kO post) k with
    | false => rfl
    | true =>
      rcases List.mem_append.1 (hasN_mem e) with e | e
      · rw [hsub (hasN_of e)] at h2; cases h2
      · rw [hasN_of e] at h2; cases h2
  have hfno : ∀ {n o av}, look s (fKey n o) = some av → hasN (kO post) (fKey n o) = false → o < 100 → 350000 ≤ n → n < 400000 → hasN (kO post) (100000 + n) = true → False := fun {n o av} h1 h2 h3 h4 h5 h6 => by
    cases e : hasN (kO pre) (100000 + n) with
    | false =>
      have := (hbox h1 h2 (.inr ⟨h4, h5⟩) h4 h6 e).2.1
      rw [fnm_key h3] at this
      exact this rfl
    | true =>
      have h7 := hN _ (newN_lent (pre := kO pre) (post := kO post) (hasN_mem h6) (by omega) (by omega) e)
      have h8 := (h7 (fKey n o) av h1 (by
        cases e : hasN (kO pre ++ kO post) (fKey n o) with
        | false => rfl
        | true =>
          rcases List.mem_append.1 (hasN_mem e) with e | e
          · rw [hsub (hasN_of e)] at h2; cases h2
          · rw [hasN_of e] at h2; cases h2)).2.2
      rw [fnm_key h3] at h8
      apply h8
      show n + 1000000 = 100000 + n - 100000 + 1000000
      omega
  -- what the caller knew
  have hm1 : ∀ {k av v}, look s k = some av → hasN (kO post) k = false → AVRep (Us w0 U0 D) w hv (LiveN s) av v → AVRep (Us w0 U0 D2) w' hv2 (LiveN s2) av v := fun {k av v} h1 h2 h3 =>
    h3.move hk1 (fun _ => hln _) fun hR => by
      cases e : hasN (kO post) (hk av) with
      | false => exact hvn e
      | true =>
        rcases hR with ⟨r1, r2, r3⟩ | ⟨r1, r2⟩ | ⟨r1, r2⟩
        · rw [hk_eq.2 (by omega)] at e
          rcases r2 with r4 | ⟨_, r4⟩
          · exact absurd r4 r3
          · exact absurd rfl (hrow h1 h2 ⟨r4.2.1, Nat.lt_trans r4.2.2 (by omega)⟩ e (.inl r4.2.2))
        · rw [hk_eq.1 r1] at e ⊢
          rw [hvy e]
          cases e2 : hasN (kO pre) (100000 + av.n) with
          | true =>
            obtain ⟨av', h7⟩ := keys_look (hasN_mem e)
            have := (hqk h7).1
            unfold BN at r2
            exact hbx _ (by omega) (by omega) e2
          | false =>
            have h6 : 350000 ≤ av.n := by
              obtain ⟨av', h7⟩ := keys_look (hasN_mem e)
              have := (hqk h7).1
              unfold BN at r2
              omega
            exact absurd rfl (hbox h1 h2 r2 h6 e e2).1
        · rw [hk_eq.2 (by omega)] at e ⊢
          cases e2 : hasN (kO pre) av.n with
          | false => exact absurd rfl (hrow h1 h2 r2 e (.inr e2))
          | true =>
            by_cases h4 : av.n < 400000
            · exact absurd rfl (hrow h1 h2 r2 e (.inl h4))
            · have := r2.2
              rw [hvy e]
              exact hbx _ (by omega) (by omega) e2
  -- what the call left
  have hm2 : ∀ {av v}, refB (kO post) av = true → AVRep (Us w V D') w' hv' (LiveN post) av v → AVRep (Us w0 U0 D2) w' hv2 (LiveN s2) av v := fun {av v} h1 h2 => by
    unfold refB at h1
    refine h2.move hk2 (fun h3 h4 => ?_) fun hR => ?_
    · rw [h3] at h1
      have h1 : Nat.ble av.n 1 = true := h1
      have := Nat.le_of_ble_eq_true h1
      rcases liveN_rn h4 with h5 | h5
      · exact .inl h5
      · unfold RN at h5; omega
    · rcases hR with ⟨r1, r2, r3⟩ | ⟨r1, r2⟩ | ⟨r1, r2⟩
      · rw [r1] at h1
        have h1 : Nat.ble av.n 1 = true := h1
        have := Nat.le_of_ble_eq_true h1
        rcases liveN_rn r2 with h5 | h5
        · exact absurd h5 r3
        · unfold RN at h5; omega
      · rw [r1] at h1
        have h1 : hasN (kO post) (hk av) = true := h1
        exact hvy h1
      · rcases r1 with r1 | r1 | r1 | r1 <;> (rw [r1] at h1; have h1 : hasN (kO post) (hk av) = true := h1; exact hvy h1)
  refine ⟨D2, hv2, ?_, fun r v h1 h2 => by rw [← hs2]; exact hm2 h1 h2, fun b o hd => by rw [hD2]; exact .inl hd⟩
  rw [← hs2]
  -- the block of what was not lent
  have hnotx : ∀ {k av g}, look s k = some av → hasN (kO post) k = false → oKey k → av.t ≠ 7 → hb (hv k) = some g → ¬ V.x g := fun {k av g} h1 h2 h3 h4 h5 hx => by
    obtain ⟨k', av', f1, f2, f3⟩ := (hVx g).1 hx
    refine h.disj k k' av av' g h1 (hp _ _ f1) h3 f2 h4 (hlk f1 f2).2.2.1 (fun e => ?_) h5 f3
    rw [e, hsub (hasN_of (mem_keys f1))] at h2
    cases h2
  have hlent : ∀ {g}, V.x g → ∃ k av, look s k = some av ∧ oKey k ∧ av.t ≠ 7 ∧ av.t ≠ 6 ∧ hasN (kO post) k = true ∧ hb (hv k) = some g := fun {g} hx => by
    obtain ⟨k', av', f1, f2, f3⟩ := (hVx g).1 hx
    obtain ⟨g1, g2, g3, _⟩ := hlk f1 f2
    exact ⟨k', av', hp _ _ f1, f2, g3, g2, hsub (hasN_of (mem_keys f1)), f3⟩
  refine ⟨⟨hbw.os.trans h.below.os, hbw.tape.trans h.below.tape, hbw.output.trans h.below.output, Nat.le_trans h.below.size hbw.size, fun b hb hx => ?_⟩, h.dfr, h.size, fun d av h1 h2 => ?_, fun n o av h1 h2 h3 h4 => ?_, fun n o o' av av' h1 h2 h3 h4 h5 => ?_, fun k av h1 h2 => ?_, fun k av g h1 h2 h3 h4 => ?_, fun k k' av av' g h1 h2 h3 h4 h5 h6 hne => ?_, fun n g h1 => ?_, fun b o hd => ?_⟩
  · rw [hold b (Nat.lt_of_lt_of_le hb h.below.size) fun hv => ?_]
    · exact h.below.block b hb hx
    · obtain ⟨k, av, f1, f2, f3, f4, f5, f6⟩ := hlent hv
      rcases (h.blk k av b f1 f2 f3 f6).1 with f7 | f7
      · omega
      · exact hx f7.2
  · rcases hlc h1 with h3 | ⟨h3, h4⟩
    · have := (hqk h3).1; omega
    · obtain ⟨v, f1, f2⟩ := h.slot d av h4 h2
      exact ⟨v, f1, hm1 h4 h3 f2⟩
  · have hob := hlc h3
    rcases hlc h1 with h5 | ⟨h5, h6⟩
    · rcases hob with h7 | ⟨h7, h8⟩
      · obtain ⟨v, f1, f2, f3⟩ := h'.fld n o av h5 h2 h7 h4
        refine ⟨v, hm2 (hqk h5).2.2 f1, f2, ?_⟩
        rw [hvy (hasN_of (mem_keys h7))]
        exact f3
      · rw [(hqf h5 h2).2.2] at h7; cases h7
    · rcases hob with h7 | ⟨h7, h8⟩
      · have h8 := (hqk h7).1
        have h4' := h4
        unfold BN at h4'
        exact (hfno h6 h5 h2 (by omega) (by omega) (hasN_of (mem_keys h7))).elim
      · obtain ⟨v, f1, f2, f3⟩ := h.fld n o av h6 h2 h8 h4
        refine ⟨v, hm1 h6 h5 f1, f2, fun i hi => ?_⟩
        rw [hvn h7]
        have f4 := f3 i hi
        obtain ⟨g2, ys, ty2, e1, e2, e3⟩ := h.obj9 h8 h4
        rw [e2] at f4 ⊢
        rw [World.cell?_of_block (w := w) (hold g2 (Array.getElem?_eq_some_iff.1 e3).1 (hnotx h8 h7 (bn_okey h4) (by simp) (by rw [e1]; rfl)))]
        exact f4
  · rcases hlc h1 with f1 | ⟨f1, f2⟩
    · rcases hlc h2 with f3 | ⟨f3, f4⟩
      · exact h'.fdis n o o' av av' f1 f3 h3 h4 h5
      · obtain ⟨g1, g2, g3⟩ := hqf f1 h3
        exact (hfno f4 f3 h4 g1 g2 g3).elim
    · rcases hlc h2 with f3 | ⟨f3, f4⟩
      · obtain ⟨g1, g2, g3⟩ := hqf f3 h4
        exact (hfno f2 f1 h3 g1 g2 g3).elim
      · exact h.fdis n o o' av av' f2 f4 h3 h4 h5
  · rcases hlc h1 with h3 | ⟨h3, h4⟩
    · rw [hvy (hasN_of (mem_keys h3))]
      refine (h'.obj k av h3 h2).move hk2 (fun h5 h6 => ?_) fun _ _ => rfl
      have h7 := (hqk h3).2.2
      unfold refB at h7
      rw [h5] at h7
      have h7 : Nat.ble av.n 1 = true := h7
      have := Nat.le_of_ble_eq_true h7
      rcases liveN_rn h6 with h8 | h8
      · exact ⟨.inl h8, by rw [h8]; rfl⟩
      · unfold RN at h8; omega
    · rw [hvn h3]
      by_cases h7 : av.t = 7
      · exact oc_no h7
      · refine (h.obj k av h4 h2).move hk1 (fun h5 h6 => ⟨hln _ h6, ?_⟩) fun g hg => hold g (h.blk k av g h4 h2 h7 hg).2.1 (hnotx h4 h3 h2 h7 hg)
        unfold tokv
        by_cases h8 : av.n = 1
        · rw [if_pos h8, if_pos h8]
        · rw [if_neg h8, if_neg h8]
          rcases h6 with h6 | ⟨e, he⟩
          · exact absurd h6 h8
          · rw [hvn (hlive _ _ he).1]
  · rcases hlc h1 with h5 | ⟨h5, h6⟩
    · rw [hvy (hasN_of (mem_keys h5))] at h4 ⊢
      obtain ⟨f1, f2, f3⟩ := h'.blk k av g h5 h2 h3 h4
      have ht6 := (hqk h5).2.1
      refine ⟨?_, f2, fun o _ hd => ?_⟩
      · rcases f1 with f1 | ⟨f1, f4⟩
        · exact .inl (Nat.le_trans h.below.size f1)
        · obtain ⟨k1, av1, e1, e2, e3, e4, e5, e6⟩ := hlent f4
          rcases (h.blk k1 av1 g e1 e2 e3 e6).1 with e7 | e7
          · exact .inl e7
          · exact .inr ⟨f1, e7.2⟩
      · rw [hD2] at hd
        rcases hd with hd | hd
        · rcases f1 with f1 | ⟨f1, f4⟩
          · have := h.dlt _ _ hd; omega
          · obtain ⟨k1, av1, e1, e2, e3, e4, e5, e6⟩ := hlent f4
            exact (h.blk k1 av1 g e1 e2 e3 e6).2.2 o (fun e => absurd e e4) hd
        · exact f3 o (fun e => absurd e ht6) hd.2
    · rw [hvn h5] at h4 ⊢
      obtain ⟨f1, f2, f3⟩ := h.blk k av g h6 h2 h3 h4
      refine ⟨f1, Nat.lt_of_lt_of_le f2 hbw.size, fun o ho hd => ?_⟩
      rw [hD2] at hd
      rcases hd with hd | hd
      · exact f3 o ho hd
      · omega
  · have hmix : ∀ {k k' av av'}, look post k = some av → oKey k → av.t ≠ 7 → look s k' = some av' → hasN (kO post) k' = false → oKey k' → av'.t ≠ 7 → hb (hv' k) = some g → hb (hv k') ≠ some g := fun {k k' av av'} e1 e2 e3 e4 e5 e6 e7 e8 e9 => by
      rcases (h'.blk k av g e1 e2 e3 e8).1 with f1 | f1
      · have := (h.blk k' av' g e4 e6 e7 e9).2.1; omega
      · exact hnotx e4 e5 e6 e7 e9 f1.2
    rcases hlc h1 with e1 | ⟨e1, e2⟩
    · rw [hvy (hasN_of (mem_keys e1))]
      rcases hlc h2 with e3 | ⟨e3, e4⟩
      · rw [hvy (hasN_of (mem_keys e3))]
        exact h'.disj k k' av av' g e1 e3 h3 h4 h5 h6 hne
      · rw [hvn e3]
        exact hmix e1 h3 h5 e4 e3 h4 h6
    · rw [hvn e1]
      rcases hlc h2 with e3 | ⟨e3, e4⟩
      · rw [hvy (hasN_of (mem_keys e3))]
        exact fun f1 f2 => hmix e3 h4 h6 e2 e1 h3 h5 f2 f1
      · rw [hvn e3]
        exact h.disj k k' av av' g e2 e4 h3 h4 h5 h6 hne
  · cases e : hasN (kO post) n with
    | false => rw [hvn e]; exact h.fix n g h1
    | true =>
      rw [hvy e]
      have h2 := U0.hf n g h1
      rw [hbx n h2.1 h2.2 (hnb n g h1 e)]
      exact h.fix n g h1
  · rw [hD2] at hd
    rcases hd with hd | hd
    · exact Nat.lt_of_lt_of_le (h.dlt b o hd) hbw.size
    · exact h'.dlt b o hd.2

def nbB (pre post : List Nat) : Bool := post.all fun k => match Nat.ble 400000 k && Nat.blt k 500000 with | true => hasN pre k | false => true
theorem hnb_of {pre post : List Nat} (h : nbB pre post = true) : ∀ k v, U0.f k = some v → hasN post k = true → hasN pre k = true := fun k v h1 h2 => by
  have h3 := U0.hf k v h1
  unfold nbB at h
  rw [List.all_eq_true] at h
  have h4 := h _ (hasN_mem h2)
  rw [Nat.ble_eq_true_of_le h3.1, blt_yes h3.2] at h4
  exact h4
def argA : List AV → Nat → AS
  | [], _ => []
  | c :: cs, i => (i, c) :: argA cs (i + 1)
theorem look_argA : ∀ {cs : List AV} {i k : Nat} {av : AV}, look (argA cs i) k = some av → i ≤ k ∧ cs[k - i]? = some av
  | [], _, _, _, h => by simp [argA, look] at h
  | c :: cs, i, k, av, h => by
    rw [argA, look_cons] at h
    split at h
    · rename_i e; subst e; cases h; exact ⟨Nat.le_refl _, by simp⟩
    · rename_i e
      obtain ⟨h1, h2⟩ := look_argA h
      refine ⟨by omega, ?_⟩
      rw [show k - i = (k - (i + 1)) + 1 by omega]
      simpa using h2
noncomputable def resA (P : Program) (s : AS) (rs : List ResultVar) : Option AV := match rs with
  | [.tmp t] => match Nat.blt t 100000, look s t with
    | true, some ⟨0, c, _, _, _⟩ => some (.val c)
    | true, some av => some av
    | _, _ => none
  | rs => match resO P s rs with | some cs => some (resAV cs) | none => none
theorem resA_run (h : SimG w0 U0 nt s a w D hv) {fn : Func} {r : AV} (hr : resA P s fn.results.toList = some r) : ∃ v, (results fn a.tmps).run P w = .ok v w ∧ AVRep (Us w0 U0 D) w hv (LiveN s) r v := by
  unfold resA at hr
  split at hr
  · rename_i t ht
    have hrs : fn.results = #[.tmp t] := by apply Array.ext'; simpa using ht
    have hres : ∀ v, a.tmps[t]? = some v → (results fn a.tmps).run P w = .ok v w := fun v hv => by
      rw [results_eq, hrs]
      simp [resF, Array.getD_eq_getD_getElem?, hv]
    split at hr
    · rename_i c n q p h1 h2
      cases hr
      obtain ⟨v, h3, h4⟩ := h.slot t _ h2 (bL h1)
      exact ⟨v, hres v h3, avrep_val h4.1⟩
    · rename_i av h1 h2
      cases hr
      obtain ⟨v, h3, h4⟩ := h.slot t _ h2 (bL h1)
      exact ⟨v, hres v h3, h4⟩
    · cases hr
  · split at hr
    · rename_i cs h1
      cases hr
      obtain ⟨v, h2, h3⟩ := res_run h h1
      refine ⟨v, h2, avrep_rr ?_ ?_ h3⟩
      · unfold resAV; split
        · exact .inl rfl
        · exact .inr rfl
      · unfold resAV; split <;> rfl
    · cases hr
def EndO (P : Program) (w0 : World) (U0 : UX) (nt : Nat) (fn : Func) (s : AS) (r : AV) (post : AS) : Prop := ∃ s', Wk w0 U0 nt s s' ∧ resA P s' fn.results.toList = some r ∧ SubL s' post

end
def zeroT (P : Program) (e : TypeId) : Option CV := match P.info? e with
  | some it => match it.zero with
    | some (.agg cs) => match P.underlying e with
      | some (.struct fs) => match szO P fs.toList 0 with
        | some sz => match zsO sz cs.toList with | some zs => some (.row zs) | none => none
        | none => none
      | _ => none
    | some v => match plainV v with | true => some (cellCV v) | false => none
    | none => none
  | none => none
section
variable {P : Program} {w0 : World} {U0 : UX} {nt : Nat} {ops : Array Oper} {o : Oper} {S : Nat → Option AV} {gs : List Nat} {d : Nat} {s : AS} {a : Act} {w : World} {D : Nat → Nat → Prop} {hv : Nat → Value}
theorem slV_all {v : Value} {k cap : Nat} {ao : Option Addr} {z : Nat} (h : v = .slice ao k cap) (hk : k ≤ cap) (hg : ao = none ∨ ∃ g, ao = some ⟨g, 0, none⟩) : SlV v 0 k z v := by
  refine ⟨ao, k, cap, ao, h, by rw [h]; rfl, by omega, fun _ => rfl, fun _ g e => by rw [Nat.zero_mul]; exact e, Iff.rfl⟩
theorem own_addr {e z : Nat} {v : Value} {k : Nat} {xs : List Value} (h : w.ownsRow 0 e z v k xs) : ∃ ao cap, v = .slice ao k cap ∧ k ≤ cap ∧ (ao = none ∨ ∃ g, ao = some ⟨g, 0, none⟩) := by
  rcases h.2 with ⟨rfl, rfl⟩ | ⟨g, cap, cur, rfl, _, h3, h4, h5, h6, h7⟩
  · exact ⟨none, 0, rfl, Nat.le_refl _, .inl rfl⟩
  · exact ⟨_, cap, rfl, h4, .inr ⟨g, rfl⟩⟩

def AFunW (P : Program) (W : World) (fc : CV) (args : List CV) (r : AV) : Prop := AFunV P W fc args r ∨ ∃ f, fc = .sc (.func (.func f) #[] #[]) ∧ AFun P W f args r
theorem AWp.nil {c : Code} {Q : Exit → AS → Prop} (d : Nat) {l : List CV} (h5 : Nat.blt d 100000 = true) (hs : look s d = some (.val (.lst l))) (h1 : l = [] → AWp P w0 U0 nt c Q ((d, ⟨0, .lst [], 1, 0, []⟩) :: s)) (h2 : AWp P w0 U0 nt c Q ((d, ⟨16, .lst l, 0, 0, []⟩) :: s)) : AWp P w0 U0 nt c Q s := by
  intro M a w ⟨D, hv, h⟩
  have h5 := bL h5
  obtain ⟨v, g1, g2⟩ := h.slot d _ hs h5
  have g2 : VRep (Us w0 U0 D) w (.lst l) v := g2.1
  cases hn : isNil v with
  | false => exact h2 M a w ⟨D, hv, h.know h5 g1 ⟨g2, hn⟩⟩
  | true =>
    have hv0 := isNil_eq hn
    subst hv0
    obtain ⟨ao, n, cc, e1, e2, _⟩ := vrep_lst.1 g2
    injection e1 with _ e3 _
    have hl : l = [] := List.eq_nil_of_length_eq_zero (by omega)
    subst hl
    exact h1 rfl M a w ⟨D, hv, h.know h5 g1 ⟨g2, fun _ => ⟨0, .lst [], rfl, rfl⟩⟩⟩
end
section
variable {P : Program} {w0 : World} {U0 : UX} {nt : Nat} {ops : Array Oper} {o : Oper} {S : Nat → Option AV} {gs : List Nat} {d : Nat} {s : AS} {a : Act} {w : World} {D : Nat → Nat → Prop} {hv : Nat → Value}

def aggA (av : AV) : Bool := match Nat.beq av.t 0 with | true => Nat.beq av.c.k 2 | false => false
theorem vrep_one {U : Nat → Nat → Prop} {c : CV} {v : Value} (h : VRep U w c v) (hk : c.k ≠ 2) : v.cells = #[v] ∧ v.oneCell' = true := by
  unfold VRep at h
  rw [if_neg hk] at h
  have h1 := h.one v (by simp)
  exact ⟨by cases v <;> first | rfl | simp [Value.oneCell'] at h1, h1⟩

def fldB (av : AV) : Bool := Nat.beq av.t 0 || Nat.beq av.t 2 || Nat.beq av.t 11 || Nat.beq av.t 12 || Nat.beq av.t 15
theorem one_cells {v : Value} (h : v.oneCell' = true) : v.cells = #[v] := by cases v <;> first | rfl | simp [Value.oneCell'] at h
theorem fld_one {U : Nat → Nat → Prop} {lv : Nat → Prop} {av : AV} {v : Value} (h : AVRep U w hv lv av v) (hf : fldB av = true) (ht : av.t ≠ 0) : v.cells = #[v] ∧ v.oneCell' = true := by
  unfold fldB at hf
  simp only [Bool.or_eq_true] at hf
  unfold AVRep at h
  rw [if_neg ht] at h
  rcases hf with (((hf | hf) | hf) | hf) | hf <;> have hf := Nat.eq_of_beq_eq_true hf
  · exact absurd hf ht
  · rw [if_pos hf] at h; rw [h.2]; exact ⟨rfl, rfl⟩
  · rw [if_neg (by omega), if_neg (by omega), if_neg (by omega), if_pos hf] at h; rw [h.2]; exact ⟨rfl, rfl⟩
  · rw [if_neg (by omega), if_neg (by omega), if_neg (by omega), if_neg (by omega), if_pos hf] at h
    obtain ⟨_, ao, m, cap, ao', _, e, _⟩ := h
    rw [e]; exact ⟨rfl, rfl⟩
  · rw [if_neg (by omega), if_neg (by omega), if_neg (by omega), if_neg (by omega), if_neg (by omega), if_pos hf] at h
    exact ⟨one_cells h.2.2, h.2.2⟩
theorem aLf (hg : Gd w0 U0 nt ops o gs S) (hd : o.dst = some d) (hn : Nat.blt d nt = true) (h5 : Nat.blt d 100000 = true) {x : Operand} {ty : TypeId} {ds : TypeDesc} {z n q : Nat} {p : List Nat} {k' v' l'} {av : AV} (ho : o.op = .load ty x) (hu : P.underlying ty = some ds) (hi : (P.info? ty).map (·.size) = some z) (hx : ev S x = some ⟨2, ⟨k', v', l'⟩, n, q, p⟩) (hb : S (100000 + n) = some .obj) (hf : S (fKey n q) = some av) (hq : Nat.blt q 100 = true) (hz : av.sz = z) (hk : aggB ds = aggA av) (ht : fldB av = true) : AOp P w0 U0 nt ops o (gs ++ (rd x ++ [100000 + n, fKey n q])) [] S [(d, av)] :=
  aop_val hg hd hn h5 (fun k hk => List.mem_append_left _ hk) fun s hs a w D hv hm => by
    obtain ⟨hbn, h1⟩ : BN n ∧ a.eval x = .pointer (some ⟨blkOf (hv (100000 + n)), q, none⟩) := ev_rep hm (fun k hk => hs k (List.mem_append_right _ (List.mem_append_left _ hk))) hx
    obtain ⟨v, g1, g2, g3⟩ := hm.fld n q av ((hs (fKey n q) (by simp)).trans hf) (bL hq) ((hs (100000 + n) (by simp)).trans hb) hbn
    have hsz := run_sizeOf (P := P) (w := w) hi
    refine ⟨v, ?_, g1⟩
    have hl : (loadVar ty ⟨blkOf (hv (100000 + n)), q, none⟩).run P w = .ok v w := by
      cases hag : aggA av with
      | true =>
        rw [hag] at hk
        unfold aggA at hag
        split at hag
        · rename_i ht0
          have ht0 := Nat.eq_of_beq_eq_true ht0
          have hk2 := Nat.eq_of_beq_eq_true hag
          unfold AVRep at g1
          rw [if_pos ht0] at g1
          have g4 := g1.1
          unfold VRep at g4
          rw [if_pos hk2] at g4
          obtain ⟨xs, rfl, g5⟩ := g4
          have hxl : xs.length = z := by rw [← hz, ← g2]; simp [Value.cells]
          have := run_loadCells_list (P := P) w ⟨blkOf (hv (100000 + n)), q, none⟩ xs (fun j u hj => by
            have hjl : j < xs.length := by
              rcases Nat.lt_or_ge j xs.length with h | h
              · exact h
              · rw [List.getElem?_eq_none h] at hj; cases hj
            rw [add_at, g3 j (by simpa [Value.cells] using hjl)]
            simpa [Value.cells] using hj)
          rw [hxl] at this
          simp [loadVar, run_isAgg hu, hk, hsz, this]
        · cases hag
      | false =>
        rw [hag] at hk
        have hv1 : v.cells = #[v] := by
          by_cases ht0 : av.t = 0
          · unfold aggA at hag
            rw [ht0] at hag
            have hk2 : av.c.k ≠ 2 := fun e => by rw [e] at hag; cases hag
            unfold AVRep at g1
            rw [if_pos ht0] at g1
            exact (vrep_one g1.1 hk2).1
          · exact (fld_one g1 ht ht0).1
        have := g3 0 (by rw [hv1]; simp)
        rw [hv1] at this
        simp only [Nat.add_zero] at this
        simp [loadVar, run_isAgg hu, hk, run_load, this]
    generalize a.eval = ρ at h1 ⊢
    simp [execOp, ho, Instr.loadAt, Instr.sureAddr, h1, hl]

theorem SimG.storeF (h : SimG w0 U0 nt s a w D hv) {n q : Nat} (hbn : BN n) (hob : look s (100000 + n) = some .obj) (hq : q < 100) {av0 av : AV} (h0 : look s (fKey n q) = some av0) (hsz : av.sz = av0.sz) (hz0 : 0 < av.sz) {v : Value} (hav : AVRep (Us w0 U0 D) w hv (LiveN s) av v) (hvs : v.cells.size = av.sz) :
    ∃ g ys zs us ty, blkOf (hv (100000 + n)) = g ∧ w.heap[g]? = some (.cells (ys ++ zs ++ us).toArray ty (0, 0)) ∧ ys.length = q ∧ zs.length = av.sz ∧ SimG w0 U0 nt ((fKey n q, av) :: s) a (w.setRow g (ys ++ v.cells.toList ++ us).toArray) D hv := by
  obtain ⟨g, xs, ty, e1, e2, e3⟩ := h.obj9 hob hbn
  have hgb : hb (hv (100000 + n)) = some g := by rw [e1]; rfl
  obtain ⟨v0, f1, f2, f3⟩ := h.fld n q av0 h0 hq hob hbn
  obtain ⟨hmn, hlt, hD⟩ := h.blk (100000 + n) _ g hob (bn_okey hbn) (by simp) hgb
  have hD' : ∀ o, ¬ D g o := fun o => hD o fun e => by cases e
  have hqz : q + av.sz ≤ xs.size := by
    have := f3 (av.sz - 1) (by rw [f2, ← hsz]; omega)
    rw [e2] at this
    simp only [World.cell?, e3] at this
    rw [Array.getElem?_eq_getElem (xs := v0.cells) (by rw [f2, ← hsz]; omega)] at this
    have h2 := (Array.getElem?_eq_some_iff.1 (by simpa using this)).1
    omega
  obtain ⟨ys, hys⟩ : ∃ ys, ys = xs.toList.take q := ⟨_, rfl⟩
  obtain ⟨zs, hzs⟩ : ∃ zs, zs = (xs.toList.drop q).take av.sz := ⟨_, rfl⟩
  obtain ⟨us, hus⟩ : ∃ us, us = (xs.toList.drop q).drop av.sz := ⟨_, rfl⟩
  have hxs : xs.toList = ys ++ zs ++ us := by rw [hys, hzs, hus, List.append_assoc, List.take_append_drop, List.take_append_drop]
  have hyl : ys.length = q := by rw [hys]; simp; omega
  have hzl : zs.length = av.sz := by rw [hzs]; simp; omega
  have hvl : v.cells.toList.length = av.sz := by simpa using hvs
  have hx' : w.heap[g]? = some (.cells (ys ++ zs ++ us).toArray ty (0, 0)) := by rw [← hxs, Array.toArray_toList]; exact e3
  refine ⟨g, ys, zs, us, ty, e2, hx', hyl, hzl, ?_⟩
  obtain ⟨w', hw'⟩ : ∃ w', w' = w.setRow g (ys ++ v.cells.toList ++ us).toArray := ⟨_, rfl⟩
  rw [← hw']
  have hoth : ∀ k, k ≠ g → w'.heap[k]? = w.heap[k]? := fun k hk => by rw [hw']; exact setRow_other w g k _ hk
  have hnew : w'.heap[g]? = some (.cells (ys ++ v.cells.toList ++ us).toArray ty (0, 0)) := by rw [hw']; exact setRow_heap w _ _ _ _ _ hx'
  have hkeep : ∀ b o u, Us w0 U0 D b o → w.cell? ⟨b, o, none⟩ = some u → Us w0 U0 D b o ∧ w'.cell? ⟨b, o, none⟩ = some u := fun b o u hu hc => by
    refine ⟨hu, ?_⟩
    rw [hw', cell_setRow_other]
    · exact hc
    · exact us_ne hu hmn (hD' o)
  -- cells of the box outside the field
  have hout : ∀ i, i < q ∨ q + av.sz ≤ i → w'.cell? ⟨g, i, none⟩ = w.cell? ⟨g, i, none⟩ := fun i hi => by
    simp only [World.cell?, hnew, hx']
    simp only [Option.isSome_none, Bool.false_eq_true, if_false, List.getElem?_toArray]
    rcases hi with hi | hi
    · rw [List.append_assoc, List.append_assoc, List.getElem?_append_left (by omega), List.getElem?_append_left (by omega)]
    · rw [List.getElem?_append_right (by simp only [List.length_append]; omega), List.getElem?_append_right (by simp only [List.length_append]; omega)]
      simp only [List.length_append, hvl, hzl]
  have hfk : ∀ {m o : Nat}, o < 100 → fKey m o = fKey n q → m = n ∧ o = q := fun {m o} ho e => by unfold fKey at e; omega
  have hlk : ∀ {k}, k ≠ fKey n q → look ((fKey n q, av) :: s) k = look s k := fun {k} hk => lN (Ne.symm hk)
  have hl : ∀ m e, Live ((fKey n q, av) :: s) m e ↔ Live s m e := fun m e => by
    unfold Live
    constructor
    · rintro ⟨g1, g2⟩; rw [hlk (by unfold fKey; omega)] at g1; exact ⟨g1, g2⟩
    · rintro ⟨g1, g2⟩; exact ⟨by rw [hlk (by unfold fKey; omega)]; exact g1, g2⟩
  have hl2 : LiveN ((fKey n q, av) :: s) = LiveN s := by funext k; simp only [LiveN, hl]
  have hsize : w'.heap.size = w.heap.size := by rw [hw', setRow_size]
  refine ⟨⟨?_, ?_, ?_, by rw [hsize]; exact h.below.size, fun k hk hkx => ?_⟩, h.dfr, h.size, fun d av' g1 g2 => ?_, fun m o av' g1 g2 g3 g4 => ?_, fun m o o' av1 av2 g1 g2 g3 g4 g5 => ?_, fun k av' g1 g2 => ?_, fun k av' g' g1 g2 g3 g4 => ?_, fun k k' av1 av2 g' g1 g2 g3 g4 => ?_, h.fix, fun b o hd => by rw [hsize]; exact h.dlt b o hd⟩
  · rw [hw']; exact h.below.os
  · rw [hw']; exact h.below.tape
  · rw [hw']; exact h.below.output
  · rw [hoth k]
    · exact h.below.block k hk hkx
    · rintro rfl
      rcases hmn with h1 | h1
      · omega
      · exact hkx h1.2
  · rw [hlk (by unfold fKey; omega)] at g1
    rw [hl2]
    obtain ⟨u, g3, g4⟩ := h.slot d av' g1 g2
    exact ⟨u, g3, g4.keep hkeep⟩
  · rw [hlk (by unfold fKey BN at *; omega)] at g3
    rw [hl2]
    by_cases e : fKey m o = fKey n q
    · obtain ⟨rfl, rfl⟩ := hfk g2 e
      rw [lS] at g1
      cases g1
      refine ⟨v, hav.keep hkeep, hvs, fun i hi => ?_⟩
      rw [e2]
      simp only [World.cell?, hnew]
      simp only [Option.isSome_none, Bool.false_eq_true, if_false, List.getElem?_toArray]
      rw [List.append_assoc, List.getElem?_append_right (by omega), hyl, show o + i - o = i by omega, List.getElem?_append_left (by omega)]
      simp
    · rw [hlk e] at g1
      obtain ⟨u, k1, k2, k3⟩ := h.fld m o av' g1 g2 g3 g4
      refine ⟨u, k1.keep hkeep, k2, fun i hi => ?_⟩
      by_cases em : m = n
      · subst em
        have ho : o ≠ q := fun e3 => e (by rw [e3])
        rw [e2]
        have k4 := k3 i hi
        rw [e2] at k4
        rw [hout]
        · exact k4
        · rcases Nat.lt_or_ge o q with h3 | h3
          · have := h.fdis m o q av' av0 g1 h0 g2 hq h3
            rw [k2] at hi
            omega
          · have := h.fdis m q o av0 av' h0 g1 hq g2 (by omega)
            omega
      · obtain ⟨g2', _, _, c1, c2, c3⟩ := h.obj9 g3 g4
        have hne : g2' ≠ g := fun e3 => h.disj (100000 + n) (100000 + m) _ _ g hob g3 (bn_okey hbn) (bn_okey g4) (by simp) (by simp) (by omega) hgb (by rw [c1, e3]; rfl)
        rw [c2]
        have k4 := k3 i hi
        rw [c2] at k4
        rw [World.cell?_of_block (w := w) (hoth g2' hne)]
        exact k4
  · have conv : ∀ {o : Nat} {aq : AV}, o < 100 → look ((fKey n q, av) :: s) (fKey m o) = some aq → ∃ aq', look s (fKey m o) = some aq' ∧ aq'.sz = aq.sz := fun {o aq} ho g6 => by
      by_cases e : fKey m o = fKey n q
      · rw [e, lS] at g6
        cases g6
        exact ⟨av0, by rw [e]; exact h0, hsz.symm⟩
      · rw [hlk e] at g6; exact ⟨aq, g6, rfl⟩
    obtain ⟨b1, c1, c2⟩ := conv g3 g1
    obtain ⟨b2, c3, c4⟩ := conv g4 g2
    rw [← c2]
    exact h.fdis m o o' b1 b2 c1 c3 g3 g4 g5
  · have g2' := g2
    unfold oKey at g2'
    rw [hlk (by unfold fKey; omega)] at g1
    rw [hl2]
    by_cases e : k = 100000 + n
    · subst e
      rw [hob] at g1
      cases g1
      exact ⟨g, _, ty, e1, hnew⟩
    · by_cases h7 : av'.t = 7
      · exact oc_no h7
      · exact (h.obj k av' g1 g2).move hkeep (fun _ hx => ⟨hx, rfl⟩) fun g' hg' => hoth g' fun e3 => h.disj (100000 + n) k _ av' g hob g1 (bn_okey hbn) g2 (by simp) h7 (Ne.symm e) hgb (e3 ▸ hg')
  · have g2' := g2
    unfold oKey at g2'
    rw [hlk (by unfold fKey; omega)] at g1
    rw [hsize]
    exact h.blk k av' g' g1 g2 g3 g4
  · have g3' := g3
    have g4' := g4
    unfold oKey at g3' g4'
    rw [hlk (by unfold fKey; omega)] at g1 g2
    exact h.disj k k' av1 av2 g' g1 g2 g3 g4

theorem a_store_fld (hg : Gd w0 U0 nt ops o gs S) (hd : o.dst = none) {x y : Operand} {ty : TypeId} {z n q : Nat} {p : List Nat} {k' v' l'} {av0 av : AV} (ho : o.op = .store ty x y) (hi : (P.info? ty).map (·.size) = some z) (hx : ev S x = some ⟨2, ⟨k', v', l'⟩, n, q, p⟩) (hb : S (100000 + n) = some .obj) (hf : S (fKey n q) = some av0) (hy : ev S y = some av) (hq : Nat.blt q 100 = true) (hz : av.sz = z) (hz0 : av0.sz = z) (hzp : Nat.blt 0 z = true) (ht : fldB av = true) : AOp P w0 U0 nt ops o (gs ++ (rd x ++ (rd y ++ [100000 + n, fKey n q]))) [] S [(fKey n q, av)] := by
  intro s hs hN a w ⟨D, hv, h⟩ Q K hK
  rw [if_pos (hg s (fun k hk => hs k (List.mem_append_left _ hk)) a w D hv h)]
  obtain ⟨hbn, h1⟩ : BN n ∧ a.eval x = .pointer (some ⟨blkOf (hv (100000 + n)), q, none⟩) := ev_rep h (fun k hk => hs k (List.mem_append_right _ (List.mem_append_left _ hk))) hx
  have h2 := ev_rep h (fun k hk => hs k (List.mem_append_right _ (List.mem_append_right _ (List.mem_append_left _ hk)))) hy
  have hcs : (a.eval y).cells.size = av.sz ∧ ∀ u ∈ (a.eval y).cells.toList, u.oneCell' = true := by
    by_cases ht0 : av.t = 0
    · have h3 := h2
      unfold AVRep at h3
      rw [if_pos ht0] at h3
      refine ⟨?_, h3.1.cells.one⟩
      have := h3.1.cells.len
      unfold AV.sz
      rw [ht0]
      simpa using this
    · obtain ⟨g1, g2⟩ := fld_one h2 ht ht0
      rw [g1]
      refine ⟨?_, by simpa using g2⟩
      unfold AV.sz
      rw [beq_ne ht0]
      rfl
  obtain ⟨g, ys, zs, us, t, e1, e2, e3, e4, e5⟩ := h.storeF hbn ((hs (100000 + n) (by simp)).trans hb) (bL hq) ((hs (fKey n q) (by simp)).trans hf) (hz.trans hz0.symm) (by rw [hz]; exact bL hzp) h2 hcs.1
  rw [e1] at h1
  have hcl : (a.eval y).cells.toList.length = av.sz := by simpa using hcs.1
  have hrun := run_storeTree (P := P) hi e2 e3 (v := a.eval y) rfl (by rw [hcl, e4]) (by rw [hcl, hz]) hcs.2
  have he : (execOp a.eval o).run P w = .ok .skip (w.setRow g (ys ++ (a.eval y).cells.toList ++ us).toArray) := by
    generalize a.eval = ρ at h1 hrun ⊢
    simp [execOp, ho, Instr.storeAt, Instr.sureAddr, h1, hrun]
  unfold Oper.wp
  rw [he, Oper.upon_skip, hd]
  exact hK _ _ ⟨_, _, e5⟩

def zeroAV (c : CV) : AV := ⟨0, c, match isNilC c with | true => 1 | false => 0, 0, []⟩
noncomputable def fldsA (d : Nat) : List CV → Nat → AS
  | [], _ => []
  | c :: cs, o => (fKey d o, zeroAV c) :: fldsA d cs (o + c.size)
end
end Go.Proofs.YtebhbnhijnpmcaaDoor
namespace Go.Proofs.YtebhbnhijnpmcaaDoor
open Go.RowKit Go.MapKept
set_option linter.unusedVariables false
set_option linter.unusedSimpArgs false
section
variable {P : Program} {w0 : World} {U0 : UX} {nt : Nat} {ops : Array Oper} {o : Oper} {S : Nat → Option AV} {gs : List Nat} {d : Nat} {s : AS} {a : Act} {w : World} {D : Nat → Nat → Prop} {hv : Nat → Value}
def IntKeys (k : IntKind) (l : List CV) : Prop := ∀ r ∈ l, ∃ i c, r = .row [.sc (.int k i), c]
def lookR (k : IntKind) (i : Int) : List CV → Option CV
  | [] => none
  | ⟨_, _, [⟨_, .int k' j, _⟩, c]⟩ :: l => if k' = k ∧ j = i then some c else lookR k i l
  | _ :: l => lookR k i l
theorem aNc (hg : Gd w0 U0 nt ops o gs S) (hd : o.dst = some d) (hn : Nat.blt d nt = true) (h5 : Nat.blt d 100000 = true) {x : Operand} {n q : Nat} {p : List Nat} {c : CV} (ho : o.op = .nilCheck x) (hx : ev S x = some ⟨2, c, n, q, p⟩) : AOp P w0 U0 nt ops o (gs ++ rd x) [] S [(d, ⟨2, c, n, q, p⟩)] :=
  aop_val hg hd hn h5 (fun k hk => List.mem_append_left _ hk) fun s hs a w D hv hm => by
    obtain ⟨hbn, h1⟩ : BN n ∧ a.eval x = .pointer (some ⟨blkOf (hv (100000 + n)), q, none⟩) := ev_rep hm (fun k hk => hs k (List.mem_append_right _ hk)) hx
    refine ⟨.pointer (some ⟨blkOf (hv (100000 + n)), q, none⟩), ?_, hbn, rfl⟩
    generalize a.eval = ρ at h1 ⊢
    simp [execOp, ho, h1]

def putR (k : IntKind) (i : Int) (c : CV) : List CV → List CV
  | [] => [.row [.sc (.int k i), c]]
  | r :: l => match r with
    | ⟨_, _, [⟨_, .int k' j, _⟩, _]⟩ => if k' = k ∧ j = i then .row [.sc (.int k i), c] :: l else r :: putR k i c l
    | _ => r :: putR k i c l
end
end Go.Proofs.YtebhbnhijnpmcaaDoor
namespace Go.Proofs.YtebhbnhijnpmcaaDoor
open Go.RowKit
set_option linter.unusedVariables false
set_option linter.unusedSimpArgs false
section
variable {P : Program} {w0 : World} {U0 : UX} {nt : Nat} {ops : Array Oper} {o : Oper} {S : Nat → Option AV} {gs : List Nat} {d : Nat} {s : AS} {a : Act} {w : World} {D : Nat → Nat → Prop} {hv : Nat → Value}

theorem AOp.plain {R : List Nat} {N : List (Nat × List Nat)} {c : CV} {n q : Nat} {p : List Nat} (h5 : Nat.blt d 100000 = true) (h : AOp P w0 U0 nt ops o R N S [(d, ⟨0, c, n, q, p⟩)]) : AOp P w0 U0 nt ops o R N S [(d, .val c)] := by
  intro s hs hN a w hsim Q K hK
  refine h s hs hN a w hsim Q K fun a' w' hs' => hK a' w' ?_
  obtain ⟨D, hv, hg⟩ := hs'
  obtain ⟨v, g1, g2⟩ := hg.slot d _ (lS _ _ _) (bL h5)
  refine ⟨D, hv, (hg.know (bL h5) g1 (avrep_val g2.1)).congr fun k => ?_⟩
  show look ((d, AV.val c) :: s) k = look ((d, AV.val c) :: (d, _) :: s) k
  rw [look_cons, look_cons, look_cons]
  split <;> rfl
theorem a_buildP (hg : Gd w0 U0 nt ops o gs S) (hd : o.dst = some d) (hn : Nat.blt d nt = true) (h5 : Nat.blt d 100000 = true) {t : TypeId} {parts : Array (Nat × Operand)} {fs : Array Field} {it : TypeInfo} {cs : Array Value} {sz : List Nat} {zs r : List CV} {n : Nat} {p : List Nat} (ho : o.op = .build t parts) (hu : P.underlying t = some (.struct fs)) (hi : P.info? t = some it) (hz : it.zero = some (.agg cs)) (hsz : szO P fs.toList 0 = some sz) (h0 : zsO sz cs.toList = some zs) (hr : setsO S parts.toList zs = some r) (hp : nilB zs parts.toList 0 = (n, p)) :
    AOp P w0 U0 nt ops o (gs ++ rds parts.toList) [] S [(d, .val (.row r))] := (a_build hg hd hn h5 ho hu hi hz hsz h0 hr hp).plain h5

end
section
variable {P : Program} {w0 : World} {U0 : UX} {nt : Nat} {ops : Array Oper} {o : Oper} {S : Nat → Option AV} {gs : List Nat} {d : Nat} {s : AS} {a : Act} {w : World} {D : Nat → Nat → Prop} {hv : Nat → Value}
def noMref (s : AS) (n : Nat) : Bool := s.all fun p => !((Nat.beq p.2.t 15 || Nat.beq p.2.t 19) && Nat.beq p.2.n n)
def SameS (S : Nat → Option AV) (ks : List Nat) : AS → Prop
  | [] => True
  | (k, av) :: l => (hasN ks k = true ∨ S k = some av) ∧ SameS S ks l
theorem SameS.look {ks : List Nat} : ∀ {l : AS}, SameS S ks l → ∀ {k av}, look l k = some av → hasN ks k = false → S k = some av
  | [], _, k, av, h, _ => by cases h
  | (k', av') :: l, ⟨h1, h2⟩, k, av, h, hn => by
    rw [look_cons] at h
    split at h
    · rename_i e
      subst e
      cases h
      rcases h1 with h1 | h1
      · rw [h1] at hn; cases hn
      · exact h1
    · exact SameS.look h2 h hn
end
def catO : List (Option (List Value)) → Option (List Value)
  | [] => some []
  | none :: _ => none
  | some x :: r => match catO r with | some y => some (x ++ y) | none => none
def plS (k : Nat) (v : Value) (l : List CV) (r : Option (List Value)) : Option (List Value) := match k, v, l with
  | 0, v, [] => match plainV v, isNil v with | true, false => some [v] | _, _ => none
  | 1, .nilFunc, [] => some [.slice none 0 0]
  | 2, .nilFunc, _ => r
  | _, _, _ => none
def plC : Nat → CV → Option (List Value)
  | 0, _ => none
  | n + 1, ⟨k, v, l⟩ => plS k v l (catO (l.map (plC n)))
theorem catO_spec {U : Nat → Nat → Prop} {w : World} {n : Nat} (ih : ∀ c vs, plC n c = some vs → Rep U w c vs ∧ vs.length = c.size) : ∀ {zs : List CV} {vs : List Value}, catO (zs.map (plC n)) = some vs → ∃ segs : List (List Value), segs.flatten = vs ∧ segs.map List.length = zs.map CV.size ∧ zs.length = segs.length ∧ ∀ (i : Nat) (c : CV), zs[i]? = some c → ∃ seg, segs[i]? = some seg ∧ Rep U w c seg
  | [], vs, h => by
    simp [catO] at h
    subst h
    exact ⟨[], rfl, rfl, rfl, fun i c hi => by simp at hi⟩
  | z :: zs, vs, h => by
    rw [List.map_cons] at h
    cases hz : plC n z with
    | none => rw [hz] at h; simp [catO] at h
    | some x =>
      rw [hz] at h
      unfold catO at h
      split at h
      · rename_i y hy
        cases h
        obtain ⟨segs, a1, a2, a3, a4⟩ := catO_spec ih hy
        obtain ⟨b1, b2⟩ := ih z x hz
        refine ⟨x :: segs, by simp [a1], by simp [a2, b2], by simp [a3], fun i c hi => ?_⟩
        cases i with
        | zero => simp at hi; subst hi; exact ⟨x, rfl, b1⟩
        | succ i => obtain ⟨seg, c1, c2⟩ := a4 i c (by simpa using hi); exact ⟨seg, by simpa using c1, c2⟩
      · cases h
theorem plC_spec {U : Nat → Nat → Prop} {w : World} : ∀ (n : Nat) (c : CV) (vs : List Value), plC n c = some vs → Rep U w c vs ∧ vs.length = c.size
  | 0, c, vs, h => by cases h
  | n + 1, ⟨k, v, l⟩, vs, h => by
    rw [plC] at h
    unfold plS at h
    split at h
    · split at h
      · rename_i h1 h2
        cases h
        exact ⟨(rep_cell h1).2 h2, rfl⟩
      · cases h
    · cases h
      exact ⟨rep_nil U w, rfl⟩
    · obtain ⟨segs, a1, a2, a3, a4⟩ := catO_spec (fun c vs h => plC_spec (U := U) (w := w) n c vs h) h
      refine ⟨?_, ?_⟩
      · show Rep U w (.row l) vs
        rw [rep_row, ← a1]
        exact sq_of_segs a3 a4
      · rw [CV.size_mk, if_pos rfl, ← a1, List.length_flatten, a2]
    · cases h

section
variable {P : Program} {w0 : World} {U0 : UX} {nt : Nat} {ops : Array Oper} {o : Oper} {S : Nat → Option AV} {gs : List Nat} {d : Nat}
theorem a_allocT (zs : List CV) (hg : Gd w0 U0 nt ops o gs S) (hd : o.dst = some d) (hn : Nat.blt d nt = true) (h5 : Nat.blt d 100000 = true) {ty : TypeId} {it : TypeInfo} {cs : Array Value} (ho : o.op = .alloc ty) (hi : P.info? ty = some it) (hz : it.zero = some (.agg cs)) (h0 : plC 6 (.row zs) = some cs.toList) : AOp P w0 U0 nt ops o gs [(d, [])] S [(d, .bp d 0 []), (100000 + d, .bx (.row zs))] := by
  intro s hs hN a w ⟨D, hv, h⟩ Q K hK
  rw [if_pos (hg s hs a w D hv h)]
  have hrep : Rep (Us w0 U0 D) w (.row zs) cs.toList := (plC_spec 6 _ _ h0).1
  have he : (execOp a.eval o).run P w = .ok (.value (.pointer (some ⟨w.heap.size, 0, none⟩))) (w.alloc (.cells cs ty)) := by
    simp [execOp, ho, Instr.alloc, zeroValue, typeInfo, hi, hz, run_newVar, Value.cells]
  unfold Oper.wp
  rw [he, Oper.upon_value, hd]
  have := h.newbox (d := d) (av := .bx (.row zs)) (hN (d, []) (by simp)).nr (bL hn) (bL h5) (.inl rfl) ty (fun _ => hrep) (fun _ hl => absurd hl not_live0)
  rw [Array.toArray_toList] at this
  exact hK _ _ ⟨_, _, this⟩
theorem a_buildT (zs : List CV) (hg : Gd w0 U0 nt ops o gs S) (hd : o.dst = some d) (hn : Nat.blt d nt = true) (h5 : Nat.blt d 100000 = true) {t : TypeId} {parts : Array (Nat × Operand)} {fs : Array Field} {it : TypeInfo} {cs : Array Value} {sz : List Nat} {r : List CV} (ho : o.op = .build t parts) (hu : P.underlying t = some (.struct fs)) (hi : P.info? t = some it) (hz : it.zero = some (.agg cs)) (hsz : szO P fs.toList 0 = some sz) (hzz : zs.map CV.size = sz) (h0 : catO (zs.map (plC 6)) = some cs.toList) (hr : setsO S parts.toList zs = some r) :
    AOp P w0 U0 nt ops o (gs ++ rds parts.toList) [] S [(d, .val (.row r))] :=
  aop_val hg hd hn h5 (fun k hk => List.mem_append_left _ hk) fun s hs a w D hv hm => by
    obtain ⟨segs, e1, e2, e4, e5⟩ := catO_spec (U := Us w0 U0 D) (w := w) (plC_spec 6) h0
    obtain ⟨g1, g2⟩ := setsO_spec (U := Us w0 U0 D) (w := w) (ρ := a.eval) (segs := segs) hr (fun x hx c n q p hev => ev_val hm (fun k hk => hs k (List.mem_append_right _ (mem_rds hx k hk))) hev) e4 e2 e5
    obtain ⟨pl, h1, h2⟩ := szO_spec hsz
    have hfill := fill_segs (place := fun i => pl.toArray[i]?) sz (fun i z hz => by rw [List.getElem?_toArray, h2 i z hz, Nat.zero_add]) (parts.toList.map fun x => (x.1, a.eval x.2)) segs cs e1.symm (by rw [e2, hzz]) (fun x hx => by rw [← hzz]; exact g1 x hx)
    refine ⟨.agg (setAll segs (parts.toList.map fun x => (x.1, a.eval x.2))).flatten.toArray, ?_, avrep_val (vrep_row.2 ⟨_, rfl, g2⟩)⟩
    have hb : P.built t (parts.map fun x => (x.1, a.eval x.2)).toList = some (setAll segs (parts.toList.map fun x => (x.1, a.eval x.2))).flatten.toArray := by
      unfold Program.built
      rw [hi, hu]
      simp only [hz, h1]
      rw [Array.toList_map]
      exact hfill
    have := run_build w t _ _ hb
    generalize a.eval = ρ at this ⊢
    simp [execOp, ho, this]
end
abbrev sv (l : List UInt8) : CV := .sc (.string ⟨l.toArray⟩)
theorem ba_toList (l : List UInt8) : (⟨l.toArray⟩ : ByteArray).toList = l := by
  rw [Go.Lib.toList_data]
theorem ba_size (l : List UInt8) : (⟨l.toArray⟩ : ByteArray).size = l.length := by
  show l.toArray.size = _
  simp
theorem lbeq (l m : List UInt8) : (l == m) = decide (l = m) := by rw [Bool.eq_iff_iff, decide_eq_true_iff, beq_iff_eq]
section
variable {P : Program} {w0 : World} {U0 : UX} {nt : Nat} {ops : Array Oper} {o : Oper} {S : Nat → Option AV} {gs : List Nat} {d : Nat}
theorem a_seql (hg : Gd w0 U0 nt ops o gs S) (hd : o.dst = some d) (hn : Nat.blt d nt = true) (h5 : Nat.blt d 100000 = true) {x y : Operand} {t1 t2 : TypeId} {l m : List UInt8} {n q p n' q' p'} (ho : o.op = .binOp .eql t1 x y t2) (hu : P.underlying t1 = some .string) (hx : ev S x = some ⟨0, sv l, n, q, p⟩) (hy : ev S y = some ⟨0, sv m, n', q', p'⟩) : AOp P w0 U0 nt ops o (gs ++ (rd x ++ rd y)) [] S [(d, .val (.b (decide (l = m))))] :=
  aop_val hg hd hn h5 (fun k hk => List.mem_append_left _ hk) fun s hs a w D hv hm => by
    have e1 := ev_sc hm (fun k hk => hs k (List.mem_append_right _ (List.mem_append_left _ hk))) hx
    have e2 := ev_sc hm (fun k hk => hs k (List.mem_append_right _ (List.mem_append_right _ hk))) hy
    refine ⟨.bool (decide (l = m)), ?_, avrep_sc rfl⟩
    generalize a.eval = ρ at e1 e2 ⊢
    simp [execOp, ho, e1, e2, eqGuard, binOp, Op.stringOp, ba_toList, lbeq]
theorem a_sneq (hg : Gd w0 U0 nt ops o gs S) (hd : o.dst = some d) (hn : Nat.blt d nt = true) (h5 : Nat.blt d 100000 = true) {x y : Operand} {t1 t2 : TypeId} {l m : List UInt8} {n q p n' q' p'} (ho : o.op = .binOp .neq t1 x y t2) (hu : P.underlying t1 = some .string) (hx : ev S x = some ⟨0, sv l, n, q, p⟩) (hy : ev S y = some ⟨0, sv m, n', q', p'⟩) : AOp P w0 U0 nt ops o (gs ++ (rd x ++ rd y)) [] S [(d, .val (.b (!decide (l = m))))] :=
  aop_val hg hd hn h5 (fun k hk => List.mem_append_left _ hk) fun s hs a w D hv hm => by
    have e1 := ev_sc hm (fun k hk => hs k (List.mem_append_right _ (List.mem_append_left _ hk))) hx
    have e2 := ev_sc hm (fun k hk => hs k (List.mem_append_right _ (List.mem_append_right _ hk))) hy
    refine ⟨.bool (!decide (l = m)), ?_, avrep_sc rfl⟩
    generalize a.eval = ρ at e1 e2 ⊢
    simp [execOp, ho, e1, e2, eqGuard, binOp, Op.stringOp, ba_toList, lbeq]
theorem a_slen (hg : Gd w0 U0 nt ops o gs S) (hd : o.dst = some d) (hn : Nat.blt d nt = true) (h5 : Nat.blt d 100000 = true) {x : Operand} {ts : Array TypeId} {t : TypeId} {l : List UInt8} {n q p} (ho : o.op = .call { callee := .builtin .len, args := #[x], argTypes := ts }) (ht : ts[0]? = some t) (hu : P.underlying t = some .string) (hx : ev S x = some ⟨0, sv l, n, q, p⟩) : AOp P w0 U0 nt ops o (gs ++ rd x) [] S [(d, .val (.i l.length))] :=
  aop_val hg hd hn h5 (fun k hk => List.mem_append_left _ hk) fun s hs a w D hv hm => by
    have e1 := ev_sc hm (fun k hk => hs k (List.mem_append_right _ hk)) hx
    refine ⟨.int .i64 l.length, ?_, avrep_sc rfl⟩
    generalize a.eval = ρ at e1 ⊢
    simp [execOp, ho, resolve, invoke, builtin, Builtin.len_, ht, run_underlying hu, e1, ba_size, goInt]
theorem a_sadd (hg : Gd w0 U0 nt ops o gs S) (hd : o.dst = some d) (hn : Nat.blt d nt = true) (h5 : Nat.blt d 100000 = true) {x y : Operand} {t1 t2 : TypeId} {l m : List UInt8} {n q p n' q' p'} (ho : o.op = .binOp .add t1 x y t2) (hx : ev S x = some ⟨0, sv l, n, q, p⟩) (hy : ev S y = some ⟨0, sv m, n', q', p'⟩) (hl : l.length + m.length ≤ 9223372036854775807) : AOp P w0 U0 nt ops o (gs ++ (rd x ++ rd y)) [] S [(d, .val (sv (l ++ m)))] :=
  aop_val hg hd hn h5 (fun k hk => List.mem_append_left _ hk) fun s hs a w D hv hm => by
    have e1 := ev_sc hm (fun k hk => hs k (List.mem_append_right _ (List.mem_append_left _ hk))) hx
    have e2 := ev_sc hm (fun k hk => hs k (List.mem_append_right _ (List.mem_append_right _ hk))) hy
    refine ⟨.string ⟨(l ++ m).toArray⟩, ?_, avrep_sc rfl⟩
    generalize a.eval = ρ at e1 e2 ⊢
    have hr := run_string_add_sum (P := P) w ⟨l.toArray⟩ ⟨m.toArray⟩ (by rw [ba_size, ba_size]; exact hl)
    have hx : (⟨l.toArray⟩ : ByteArray) ++ (⟨m.toArray⟩ : ByteArray) = ⟨(l ++ m).toArray⟩ := by
      apply ByteArray.ext
      simp
    rw [hx] at hr
    simp [execOp, ho, e1, e2, eqGuard, binOp, hr]
end
section
variable {P : Program} {w0 : World} {U0 : UX} {nt : Nat} {ops : Array Oper} {o : Oper} {S : Nat → Option AV} {gs : List Nat} {d : Nat}
theorem a_quo (hg : Gd w0 U0 nt ops o gs S) (hd : o.dst = some d) (hn : Nat.blt d nt = true) (h5 : Nat.blt d 100000 = true) {x y : Operand} {t1 t2 : TypeId} {k : IntKind} {i j : Int} {n q p n' q' p'} (ho : o.op = .binOp .quo t1 x y t2) (hx : ev S x = some ⟨0, .sc (.int k i), n, q, p⟩) (hy : ev S y = some ⟨0, .sc (.int k j), n', q', p'⟩) (hr : j ≠ 0) (hw : k.wrap (i.tdiv j) = i.tdiv j) : AOp P w0 U0 nt ops o (gs ++ (rd x ++ rd y)) [] S [(d, .val (.sc (.int k (i.tdiv j))))] :=
  aop_int2 hg hd hn h5 ho hx hy (fun w => by simp [binOp, Op.intDiv, hr, hw, go_sem]) rfl
theorem a_bstr (hg : Gd w0 U0 nt ops o gs S) (hd : o.dst = some d) (hn : Nat.blt d nt = true) (h5 : Nat.blt d 100000 = true) {x : Operand} {src dst e : TypeId} {b : Int} {n q p} (ho : o.op = .convert src dst x) (hs1 : P.underlying src = some (.slice e)) (he : P.underlying e = some (.int .u8)) (hu : P.underlying dst = some .string) (hx : ev S x = some ⟨0, .lst [.sc (.int .u8 b)], n, q, p⟩) : AOp P w0 U0 nt ops o (gs ++ rd x) [] S [(d, .val (sv [UInt8.ofNat b.toNat]))] :=
  aop_val hg hd hn h5 (fun k hk => List.mem_append_left _ hk) fun s hs a w D hv hm => by
    obtain ⟨c, m, cp, h1, h2, _, _, _, ys, hat, hsq⟩ := vrep_lst.1 (ev_val hm (fun k hk => hs k (List.mem_append_right _ hk)) hx)
    have hy : ys = [.int .u8 b] := (rep_sc.1 (sq_one_iff.1 hsq)).1
    subst hy
    rcases hat with hat | ⟨bb, off, rfl, hat⟩
    · cases hat
    have hr := run_convert_bytes_arg (P := P) w src e hs1 he bb off 1 cp [b] rfl (fun i hi => by
      obtain rfl : i = 0 := by omega
      exact (hat 0 (by simp)).2) dst hu
    refine ⟨.string ⟨[UInt8.ofNat b.toNat].toArray⟩, ?_, avrep_sc rfl⟩
    have h2' : m = 1 := h2
    subst h2'
    generalize a.eval = ρ at h1 ⊢
    simp only [execOp, ho, h1]
    simp [hr, strOfNums]
end
abbrev By := List UInt8
def smB (b : UInt8) : Bool := decide (97 ≤ b.toNat) && decide (b.toNat ≤ 122)
def grB (b : UInt8) : Bool := decide (65 ≤ b.toNat) && decide (b.toNat ≤ 90)
def inB (b : UInt8) : Bool := (smB b || grB b) || ((decide (48 ≤ b.toNat) && decide (b.toNat ≤ 57)) || decide (b.toNat = 95))
def blB : By := [32, 9, 10, 13]
def neverB : By := [36, 102, 97, 108, 115, 101]
def unlB : By := [33, 61]
def nmSz (s : By) : Nat := (s.takeWhile inB).length
def isSmL : By → Bool
  | [] => false
  | b :: _ => smB b
def isGrL : By → Bool
  | [] => false
  | b :: _ => grB b
def behNl : By → By
  | [] => []
  | b :: l => if b = 10 then l else behNl l
def trm (s : By) : By := Lib.trimLeftS s blB
def bhN : Nat → By → Option By
  | 0, _ => none
  | n + 1, s => if Lib.hasPrefix (trm s) [37] then bhN n (behNl (trm s)) else some (trm s)
def bh (s : By) : By := (bhN (s.length + 1) s).getD []
def tkSz (s : By) : Nat := if s = [] then 0 else if isSmL s || isGrL s then nmSz s else if Lib.hasPrefix s neverB then 6 else if Lib.hasPrefix s unlB then 2 else 1
structure Tkn where
  nx : By
  rs : By
def mvT (rs : By) : Tkn := ⟨(bh rs).take (tkSz (bh rs)), (bh rs).drop (tkSz (bh rs))⟩
def Tkn.len (t : Tkn) : Nat := t.nx.length + t.rs.length
def takeT (t : Tkn) (s : By) : Bool × Tkn := if t.nx = s then (true, mvT t.rs) else (false, t)
def isNmL (s : By) : Bool := !decide (s = []) && (isSmL s || isGrL s)
def nameT (t : Tkn) : By × Bool × Tkn := if isNmL t.nx then (t.nx, true, mvT t.rs) else ([], false, t)
structure Ph where
  name : By
  parts : List Ph
noncomputable def Ph.cv (t : Ph) : CV := Ph.rec (motive_1 := fun _ => CV) (motive_2 := fun _ => List CV) (fun n _ ih => .row [sv n, .lst ih]) [] (fun _ _ a b => a :: b) t
noncomputable abbrev Ph.cw (t : Ph) : CV := .row [sv t.name, .lst (t.parts.map Ph.cv)]
theorem Ph.cv_eq (t : Ph) : t.cv = t.cw := by
  have hl : ∀ l : List Ph, Ph.rec_1 (motive_1 := fun _ => CV) (motive_2 := fun _ => List CV) (fun n _ ih => .row [sv n, .lst ih]) [] (fun _ _ a b => a :: b) l = l.map Ph.cv := by
    intro l
    induction l with
    | nil => rfl
    | cons c cs ih => rw [List.map_cons, ← ih]; rfl
  cases t with
  | mk n p =>
    show CV.row [sv n, .lst (Ph.rec_1 (motive_1 := fun _ => CV) (motive_2 := fun _ => List CV) (fun n _ ih => .row [sv n, .lst ih]) [] (fun _ _ a b => a :: b) p)] = _
    rw [hl]
def rdX : Nat → Nat → Tkn → Option (List Ph) → Option (Ph × List Ph × Bool × Tkn)
  | 0, _, _, _ => none
  | n + 1, d, t, none => if 32 < d then some (⟨[], []⟩, [], false, t) else
      if !(nameT t).2.1 || isGrL (nameT t).1 then some (⟨(nameT t).1, []⟩, [], (nameT t).2.1, (nameT t).2.2) else
      if (takeT (nameT t).2.2 [40]).1 then (match rdX n (d + 1) (takeT (nameT t).2.2 [40]).2 (some []) with
        | none => none
        | some r => if r.2.2.1 then some (⟨(nameT t).1, r.2.1⟩, [], (takeT r.2.2.2 [41]).1, (takeT r.2.2.2 [41]).2) else some (⟨(nameT t).1, r.2.1⟩, [], false, r.2.2.2))
      else some (⟨(nameT t).1, []⟩, [], (nameT t).2.1, (takeT (nameT t).2.2 [40]).2)
  | n + 1, d, t, some acc => match rdX n d t none with
    | none => none
    | some r => if r.2.2.1 then (if (takeT r.2.2.2 [44]).1 then rdX n d (takeT r.2.2.2 [44]).2 (some (acc ++ [r.1])) else some (⟨[], []⟩, acc ++ [r.1], true, (takeT r.2.2.2 [44]).2)) else some (⟨[], []⟩, [], false, r.2.2.2)
structure Se where
  neg : Bool
  atom : Bool
  a : Ph
  b : Ph
noncomputable abbrev Se.cw (s : Se) : CV := .row [.b s.neg, .b s.atom, s.a.cw, s.b.cw]
noncomputable def Se.cv (s : Se) : CV := s.cw
def Ph.z : Ph := ⟨[], []⟩
def Se.z : Se := ⟨false, false, Ph.z, Ph.z⟩
def rdL (n : Nat) (t : Tkn) : Option (Se × Bool × Tkn) :=
  match rdX n 1 (takeT t [126]).2 none with
  | none => none
  | some r => if r.2.2.1 then
      (if (takeT r.2.2.2 [61]).1 then (match rdX n 1 (takeT r.2.2.2 [61]).2 none with
          | none => none
          | some q => some (⟨(takeT t [126]).1, false, r.1, q.1⟩, q.2.2.1, q.2.2.2))
        else if (takeT (takeT r.2.2.2 [61]).2 unlB).1 then (match rdX n 1 (takeT (takeT r.2.2.2 [61]).2 unlB).2 none with
          | none => none
          | some q => some (⟨!(takeT t [126]).1, false, r.1, q.1⟩, q.2.2.1, q.2.2.2))
        else some (⟨(takeT t [126]).1, true, r.1, Ph.z⟩, isSmL r.1.name, (takeT (takeT r.2.2.2 [61]).2 unlB).2))
    else some (Se.z, false, r.2.2.2)
def rdLs (n : Nat) : Nat → Tkn → List Se → Option (List Se × Bool × Tkn)
  | 0, _, _ => none
  | m + 1, t, acc => match rdL n t with
    | none => none
    | some r => if r.2.1 then (if (takeT r.2.2 [124]).1 then rdLs n m (takeT r.2.2 [124]).2 (acc ++ [r.1]) else some (acc ++ [r.1], true, (takeT r.2.2 [124]).2)) else some ([], false, r.2.2)
def rdC (n : Nat) (t : Tkn) : Option (List Se × Bool × Tkn) :=
  if (takeT t neverB).1 then some ([], true, (takeT t neverB).2) else rdLs n n (takeT t neverB).2 []
def rdF (n : Nat) : Nat → Tkn → List (List Se) → Option (List (List Se) × Bool)
  | 0, _, _ => none
  | m + 1, t, acc => if t.nx = [] then some (acc, true) else match rdC n t with
    | none => none
    | some r => if r.2.1 then (if (takeT r.2.2 [46]).1 then rdF n m (takeT r.2.2 [46]).2 (acc ++ [r.1]) else some ([], false)) else some ([], false)
def rdAll (n : Nat) (src : By) : Option (List (List Se) × Bool) := rdF n n (mvT src) []
end Go.Proofs.YtebhbnhijnpmcaaDoor
namespace Go.Proofs.YtebhbnhijnpmcaaDoor
open Go.RowKit Go.MapKept
set_option linter.unusedVariables false
set_option linter.unusedSimpArgs false
def GoodK (P : Program) (kt : TypeId) (v : Value) : Prop := ∃ l, keyOf P kt v = some l
def KeysK (P : Program) (kt : TypeId) (l : List CV) : Prop := ∀ r ∈ l, ∃ kv c, r = .row [.sc kv, c] ∧ GoodK P kt kv
section
variable {P : Program} {w0 : World} {U0 : UX} {nt : Nat} {ops : Array Oper} {o : Oper} {S : Nat → Option AV} {gs : List Nat} {d : Nat} {s : AS} {a : Act} {w : World} {D : Nat → Nat → Prop} {hv : Nat → Value}
end
end Go.Proofs.YtebhbnhijnpmcaaDoor
namespace Go.Proofs.YtebhbnhijnpmcaaDoor
open Go.RowKit
set_option linter.unusedVariables false
set_option linter.unusedSimpArgs false
set_option maxRecDepth 100000
abbrev kdV (b : List UInt8) (i : Int) (p : Bool) : Value := .agg #[.string ⟨b.toArray⟩, .int .i64 i, .bool p]

def bdsOk (l : List Bd) : Prop := ∀ b ∈ l, b.t.rng ∧ b.t.size ≤ 90000000000
def upV (by_ v : Int) : Int := v + min by_ (9223372036854775807 - v)
end Go.Proofs.YtebhbnhijnpmcaaDoor
namespace Go.Proofs.YtebhbnhijnpmcaaDoor
set_option linter.unusedVariables false
set_option linter.unusedSimpArgs false
def vsL (l : List Tm) : List Int := (l.filter fun s => decide (s.f < 0)).map fun s => -1 - s.f
def Tm.vs (t : Tm) : List Int := vsL t.flat
def nubS (acc : List Int) (v : Int) : List Int := if v ∈ acc then acc else acc ++ [v]
def nub (l : List Int) : List Int := l.foldl nubS []
end Go.Proofs.YtebhbnhijnpmcaaDoor
namespace Go.Proofs.YtebhbnhijnpmcaaDoor
open Go.RowKit
set_option linter.unusedVariables false
set_option linter.unusedSimpArgs false
def Tm.sm : Tm → Prop
  | ⟨f, l⟩ => (-1000 ≤ f ∧ f ≤ 1000) ∧ ∀ t ∈ l, Tm.sm t
theorem Tm.sm_iff (t : Tm) : t.sm ↔ (-1000 ≤ t.f ∧ t.f ≤ 1000) ∧ ∀ s ∈ t.l, s.sm := by cases t; rw [Tm.sm]
theorem small_sm (t : Tm) : ∀ most deep, 0 ≤ smallT t most deep → t.sm := by
  induction t using Tm.ind with
  | h f l ih =>
    intro most deep h
    rw [smallT_eq] at h
    split at h
    · omega
    · rename_i hc
      refine (Tm.sm_iff _).2 ⟨⟨by show -1000 ≤ f; omega, by show f ≤ 1000; omega⟩, ?_⟩
      have : ∀ (l : List Tm) (m d : Int), (∀ t ∈ l, ∀ most deep, 0 ≤ smallT t most deep → t.sm) → 0 ≤ smallL l m d → ∀ t ∈ l, t.sm := by
        intro l
        induction l with
        | nil => intro m d _ _ t ht; cases ht
        | cons y ys ih2 =>
          intro m d hl h t ht
          rw [smallL_cons] at h
          split at h
          · omega
          · have hy : 0 ≤ smallT y m d := by
              rcases Int.lt_or_le (smallT y m d) 0 with h1 | h1
              · rw [smallL_neg ys d h1] at h; omega
              · exact h1
            rcases List.mem_cons.1 ht with rfl | ht
            · exact hl t (by simp) m d hy
            · exact ih2 (smallT y m d) d (fun s hs => hl s (List.mem_cons_of_mem _ hs)) h t ht
      exact this l _ _ ih h
theorem Tm.sm_rng {t : Tm} (h : t.sm) : t.rng := by
  induction t using Tm.ind with
  | h f l ih =>
    obtain ⟨h1, h2⟩ := (Tm.sm_iff _).1 h
    exact (Tm.rng_iff _).2 ⟨by simp only at h1 ⊢; omega, fun s hs => ih s hs (h2 s hs)⟩
theorem Tm.wt_ok {t : Tm} (h : t.wt ≤ 1000000) : t.ok := by
  induction t using Tm.ind with
  | h f l ih =>
    rw [Tm.wt_eq] at h
    simp only at h
    have := Tm.wts_len l
    exact (Tm.ok_iff _).2 ⟨by simp only; omega, fun s hs => ih s hs (by have : s.wt ≤ Tm.wts l := Tm.wts_mem hs; omega)⟩
end Go.Proofs.YtebhbnhijnpmcaaDoor
namespace Go.Proofs.YtebhbnhijnpmcaaDoor
open Go.RowKit
set_option linter.unusedVariables false
set_option linter.unusedSimpArgs false
set_option maxRecDepth 100000

end Go.Proofs.YtebhbnhijnpmcaaDoor
namespace Go.Proofs.YtebhbnhijnpmcaaDoor
set_option linter.unusedVariables false
set_option linter.unusedSimpArgs false
def rank (x : Int) : Int × Int := if x < 0 then (0, -1 - x) else (1, x)
structure CmpOk (c : Int) : Prop where
  three : c = -1 ∨ c = 0 ∨ c = 1

def Goon (p q r : Int) : Prop := p ≤ 0 → q ≤ 0 → r ≤ 0 ∧ (r = 0 → p = 0 ∧ q = 0)
end Go.Proofs.YtebhbnhijnpmcaaDoor
namespace Go.Proofs.YtebhbnhijnpmcaaDoor
open Go.RowKit
set_option linter.unusedVariables false
set_option linter.unusedSimpArgs false
set_option maxRecDepth 100000




set_option maxHeartbeats 1000000 in
-- 
theorem of_abs (W : World) : ∀ (t : Tm), t.ok → AFun Tryd.prog W 25 [t.cw] (.val t.cw) := by
  intro t
  induction t using Tm.ind with
  | h f l ih =>
  intro hok
  obtain ⟨hl, hok⟩ := (Tm.ok_iff _).1 hok
  simp only at hl hok
  refine afun_of (rs := [Tm.cw ⟨f, l⟩]) Tryd.func25 Tryd.ntmps25 rfl rfl rfl rfl ?_
  intro w U hW
  refine aS (aR ?_)
  (refine nx (a_box (gN rfl) rfl rfl rfl rfl rfl) rfl ?_)
  (refine nx (a_alloc (gN rfl) rfl rfl rfl rfl rfl rfl rfl rfl rfl rfl) rfl ?_)
  show AWp _ _ _ _ _ _ _
  refine aS (aR ?_)
  (refine nx (aF (gN rfl) rfl rfl rfl rfl rfl rfl rfl rfl rfl) rfl ?_)
  (refine nx (aLb (gN rfl) rfl rfl rfl rfl rfl rfl rfl rfl rfl rfl rfl rfl) rfl ?_)
  (refine nx (a_build (gN rfl) rfl rfl rfl rfl rfl rfl rfl rfl rfl rfl rfl) rfl ?_)
  (refine nx (a_alloc (gN rfl) rfl rfl rfl rfl rfl rfl rfl rfl rfl rfl) rfl ?_)
  (refine nx (aSt (gN rfl) rfl rfl rfl rfl rfl rfl rfl rfl rfl rfl) rfl ?_)
  show AWp _ _ _ _ _ _ _
  refine aS (aS (aR ?_))
  (refine nx (aA (gN rfl) rfl rfl rfl rfl rfl) rfl ?_)
  show AWp _ _ _ _ _ _ _
  refine aB (awp_count l.length (fun k => [(1, .bp 1 0 []), (100001, .bx (Tm.cw ⟨f, l⟩)), (2, .bp 2 0 []), (100002, ⟨5, .row [.i 0, .lst []], 1, 0, [1]⟩), (3, .bp 3 0 []), (100003, ⟨5, .row [.i f, .lst ((l.take k).map Tm.cv)], 200024, 0, [1]⟩), (200024, .tok 55 2), (4, .val (.i k))])
    ((wk_nil 100003 200024 55 2 rfl rfl rfl rfl rfl rfl rfl).trans (wk_sub ⟨rfl, rfl, rfl, rfl, rfl, rfl, rfl, rfl, trivial⟩)) ?_)
  intro k hk
  refine aS (aS (aR ?_))
  (refine nx (aM (gN rfl) rfl rfl rfl rfl rfl) rfl ?_)
  (refine nx (aF (gN rfl) rfl rfl rfl rfl rfl rfl rfl rfl rfl) rfl ?_)
  (refine nx (aLb (gN rfl) rfl rfl rfl rfl rfl rfl rfl rfl rfl rfl rfl rfl) rfl ?_)
  (refine nx (a_len (gN rfl) rfl rfl rfl rfl rfl rfl rfl) rfl ?_)
  (refine nx (a_lss (gN rfl) rfl rfl rfl rfl rfl rfl) rfl ?_)
  show AWp _ _ _ _ _ _ _
  refine aC rfl (fun hc => ?_) (fun hc => ?_)
  · simp only [List.length_map, decide_eq_true_eq] at hc
    have hkl : k < l.length := by omega
    obtain ⟨t, ht⟩ : ∃ t, l[k]? = some t := ⟨l[k], List.getElem?_eq_getElem hkl⟩
    refine aK ?_
    show AWp _ _ _ _ _ _ _
    refine aS (aB (aD (by kernel_rfl) (by kernel_rfl) ?_))
    (refine nx (aF (gN rfl) rfl rfl rfl rfl rfl rfl rfl rfl rfl) rfl ?_)
    (refine nx (a_load_tok (gN rfl) rfl rfl rfl rfl rfl rfl rfl rfl rfl rfl rfl rfl rfl) rfl ?_)
    (refine nx (aF (gN rfl) rfl rfl rfl rfl rfl rfl rfl rfl rfl) rfl ?_)
    (refine nx (aLb (gN rfl) rfl rfl rfl rfl rfl rfl rfl rfl rfl rfl rfl rfl) rfl ?_)
    (refine nx (aM (gN rfl) rfl rfl rfl rfl rfl) rfl ?_)
    (refine nx (a_index (j := _) (gN rfl) rfl rfl rfl rfl rfl rfl rfl rfl rfl (Tm.map_at ht) rfl (Tm.size_all l)) rfl ?_)
    (refine nx (a_load_ad (gN rfl) rfl rfl rfl rfl rfl rfl rfl rfl rfl) rfl ?_)
    (refine nx (a_call (gN rfl) rfl rfl rfl rfl rfl ((ih t (List.mem_of_getElem? ht) (hok t (List.mem_of_getElem? ht))).up hW)) rfl ?_)
    (refine nx (a_bslice (gN rfl) rfl rfl rfl rfl rfl rfl rfl rfl rfl rfl rfl rfl rfl) rfl ?_)
    (refine nx (a_app (gN rfl) rfl rfl rfl rfl rfl rfl rfl rfl rfl rfl rfl rfl rfl rfl rfl (by first | assumption | exact sZ rfl | exact Tm.size_all _ | exact Bd.size_all _ | exact ints_size _ | exact bys_size _ | exact Lt.size_all _) (by first | assumption | exact sZ rfl | exact Tm.size_all _ | exact Bd.size_all _ | exact ints_size _ | exact bys_size _ | exact Lt.size_all _) (by first | omega | (simp only [List.length_map, List.length_append, List.length_cons, List.length_nil] <;> omega) | (simp <;> omega))) rfl ?_)
    (refine nx (aF (gN rfl) rfl rfl rfl rfl rfl rfl rfl rfl rfl) rfl ?_)
    (refine nx (a_store (gN rfl) rfl rfl rfl rfl rfl rfl rfl rfl rfl rfl) rfl ?_)
    refine ⟨by kernel_rfl, ?_⟩
    show AWp _ _ _ _ _ _ _
    refine aR ?_
    (refine nx (aM (gN rfl) rfl rfl rfl rfl rfl) rfl ?_)
    (first | (refine nx (a_add (gN rfl) rfl rfl rfl rfl rfl rfl (by first | omega | (simp only [List.length_map, List.length_append, List.length_cons, List.length_nil] <;> omega) | (simp <;> omega))) rfl ?_) | (refine nx (a_sadd (gN rfl) rfl rfl rfl rfl rfl rfl (by first | omega | (simp only [List.length_map, List.length_append, List.length_cons, List.length_nil] <;> omega) | (simp <;> omega))) (by first | rfl | kernel_rfl) ?_))
    (refine nx (aA (gN rfl) rfl rfl rfl rfl rfl) rfl ?_)
    refine ⟨hkl, Wk.trans (wk_sub (s' := [(1, .bp 1 0 []), (100001, .bx (Tm.cw ⟨f, l⟩)), (2, .bp 2 0 []), (100002, ⟨5, .row [.i 0, .lst []], 1, 0, [1]⟩), (3, .bp 3 0 []), (100003, ⟨5, .row [.i f, .lst ((l.take (k + 1)).map Tm.cv)], 300024, 0, [1]⟩), (300024, .tok 55 2), (4, .val (.i ((k + 1 : Nat) : Int)))]) ⟨rfl, rfl, rfl, rfl, rfl, ?_, rfl, rfl, trivial⟩) (wk_ren 300024 200024 rfl rfl rfl rfl)⟩
    rw [List.take_add_one, ht, List.map_append]
    simp only [Option.toList_some, List.map_cons, List.map_nil, Tm.cv_eq]
    rfl
  · refine aE ?_
    show AWp _ _ _ _ _ _ _
    have hkl : k = l.length := by
      simp only [List.length_map, decide_eq_false_iff_not] at hc
      omega
    subst hkl
    rw [List.take_length]
    refine aS (aR ?_)
    (refine nx (aL (gN rfl) rfl rfl rfl rfl rfl rfl rfl rfl rfl rfl rfl rfl) rfl ?_)
    (refine nx (aSt (gN rfl) rfl rfl rfl rfl rfl rfl rfl rfl rfl rfl) rfl ?_)
    show AWp _ _ _ _ _ _ _
    exact aT ⟨.inr rfl, rfl⟩
def fineBd (b : Bd) : Bool := decide (0 ≤ b.v) && (decide (b.v ≤ 1000) && decide (0 ≤ smallT b.t 20 10))
def fine7B (l : List Bd) : Bool := l.all fineBd && decide (l.length ≤ 8)
def appR (l : List Bd) : Tm → Tm
  | ⟨f, ts⟩ => if f < 0 then imgB l (-1 - f) else ⟨f, ts.map (appR l)⟩
end Go.Proofs.YtebhbnhijnpmcaaDoor
namespace Go.Proofs.YtebhbnhijnpmcaaDoor
set_option linter.unusedVariables false
set_option linter.unusedSimpArgs false
def ixOf : List Int → Int → Nat
  | [], _ => 0
  | x :: l, v => if x = v then 0 else ixOf l v + 1
def zipB (a b : List Int) : List Bd := List.zipWith (fun v u => ⟨v, varT u⟩) a b
def nums (n : Nat) : List Int := (List.range n).map fun i : Nat => (i : Int)
def Tm.nv (t : Tm) : List Int := nub t.vs
def canT (t : Tm) : Tm := repT (imgB (zipB t.nv (nums t.nv.length))) t
def vntB (a b : Tm) : Bool := decide (a.nv.length = b.nv.length) && sameT (repT (imgB (zipB a.nv b.nv)) a) b
end Go.Proofs.YtebhbnhijnpmcaaDoor
namespace Go.Proofs.YtebhbnhijnpmcaaDoor
open Go.RowKit
set_option linter.unusedVariables false
structure Lt where
  neg : Bool
  a : Tm
  b : Tm
noncomputable abbrev Lt.cw (l : Lt) : CV := .row [.b l.neg, l.a.cw, l.b.cw]
noncomputable def Lt.cv (l : Lt) : CV := l.cw
theorem Lt.size_all (c : List Lt) : ∀ x ∈ c.map Lt.cv, x.size = 5 := by
  intro x hx
  obtain ⟨l, _, rfl⟩ := List.mem_map.1 hx
  rfl
theorem Lt.map_at {c : List Lt} {i : Nat} {l : Lt} (h : c[i]? = some l) : (c.map Lt.cv)[i]? = some l.cw := by rw [List.getElem?_map, h]; rfl
def Lt.strip (l : Lt) : Lt := ⟨l.neg, l.a.strip, l.b.strip⟩
def Lt.rng (l : Lt) : Prop := l.a.rng ∧ l.b.rng
def Lt.ok (l : Lt) : Prop := l.a.ok ∧ l.b.ok
end Go.Proofs.YtebhbnhijnpmcaaDoor
namespace Go.Proofs.YtebhbnhijnpmcaaDoor
open Go.RowKit
set_option linter.unusedVariables false
set_option linter.unusedSimpArgs false
structure Sg where
  nm : List By
  ar : List Nat
  pr : List Bool
abbrev Kd := By × Nat × Bool
structure Nm where
  sg : Sg
  sy : List (Kd × Nat)
  vr : List (By × Nat)
def lkA {α : Type} [DecidableEq α] (l : List (α × Nat)) (k : α) : Option Nat := (l.find? fun p => decide (p.1 = k)).map Prod.snd
def numF (st : Nm) (k : Kd) : Nat × Bool × Nm :=
  match lkA st.sy k with
  | some i => (i, true, st)
  | none => if 200 < st.sg.nm.length ∨ k.1 ∈ st.sg.nm then (0, false, st) else (st.sg.nm.length, true, ⟨⟨st.sg.nm ++ [k.1], st.sg.ar ++ [k.2.1], st.sg.pr ++ [k.2.2]⟩, st.sy ++ [(k, st.sg.nm.length)], st.vr⟩)
def varF (st : Nm) (v : By) : Nat × Nm :=
  match lkA st.vr v with
  | some i => (i, st)
  | none => (st.vr.length, ⟨st.sg, st.sy, st.vr ++ [(v, st.vr.length)]⟩)
def foldP (f : Nm → Ph → Option (Tm × Bool × Nm)) : Nm → List Ph → List Tm → Option (List Tm × Bool × Nm)
  | st, [], acc => some (acc, true, st)
  | st, p :: ps, acc => match f st p with
    | none => none
    | some r => if r.2.1 then foldP f r.2.2 ps (acc ++ [r.1]) else some ([], false, r.2.2)
def tz : Tm := ⟨0, []⟩
def symF (f : Nm → Ph → Option (Tm × Bool × Nm)) (st : Nm) (p : Ph) (pred : Bool) : Option (Tm × Bool × Nm) :=
  if (numF st ⟨p.name, p.parts.length, pred⟩).2.1 then
    match foldP f (numF st ⟨p.name, p.parts.length, pred⟩).2.2 p.parts [] with
    | none => none
    | some r => if r.2.1 then some (⟨((numF st ⟨p.name, p.parts.length, pred⟩).1 : Nat), r.1⟩, true, r.2.2) else some (tz, false, r.2.2)
  else some (tz, false, (numF st ⟨p.name, p.parts.length, pred⟩).2.2)
def tmF : Nat → Nm → Ph → Option (Tm × Bool × Nm)
  | 0, _, _ => none
  | n + 1, st, p => if isGrL p.name then some (⟨-1 - ((varF st p.name).1 : Nat), []⟩, true, (varF st p.name).2) else symF (tmF n) st p false
def litF (n : Nat) (st : Nm) (s : Se) : Option (Lt × Bool × Nm) :=
  if s.atom then (match symF (tmF n) st s.a true with
    | none => none
    | some r => some (⟨s.neg, r.1, tz⟩, r.2.1, r.2.2))
  else match tmF n st s.a with
    | none => none
    | some r => if r.2.1 then (match tmF n r.2.2 s.b with
        | none => none
        | some q => some (⟨s.neg, r.1, q.1⟩, q.2.1, q.2.2))
      else some (⟨false, tz, tz⟩, false, r.2.2)
def litsF (n : Nat) : Nm → List Se → List Lt → Option (List Lt × Bool × Nm)
  | st, [], acc => some (acc, true, st)
  | st, s :: ss, acc => match litF n st s with
    | none => none
    | some r => if r.2.1 then litsF n r.2.2 ss (acc ++ [r.1]) else some ([], false, r.2.2)
def clsF (n : Nat) (st : Nm) (c : List Se) : Option (List Lt × Bool × Nm) := litsF n ⟨st.sg, st.sy, []⟩ c []
def wtL (c : List Lt) : Nat := (c.map fun l => l.a.size + l.b.size).sum
def mnF (n : Nat) : Nm → List (List Se) → List (List Lt) → Option (Nm × List (List Lt) × Bool)
  | st, [], acc => some (st, acc, true)
  | st, c :: cs, acc => match clsF n st c with
    | none => none
    | some r => if r.2.1 && decide (wtL r.1 ≤ 60) then mnF n r.2.2 cs (acc ++ [r.1]) else some (st, [], false)
def sg0 : Sg := ⟨[[36, 116, 114, 117, 101]], [0], [true]⟩
def nm0 : Nm := ⟨sg0, [], []⟩
def prF (n : Nat) (src : By) : Option (Sg × List (List Lt) × Int) :=
  if 32768 < src.length then some (⟨[], [], []⟩, [], 9) else
  match rdAll n src with
  | none => none
  | some r => if r.2 && decide (r.1.length ≤ 64) then (match mnF n nm0 r.1 [] with
      | none => none
      | some q => if q.2.2 then some (q.1.sg, q.2.1, 0) else some (⟨[], [], []⟩, [], 7))
    else some (⟨[], [], []⟩, [], 7)

noncomputable def syv (p : Kd × Nat) : CV := .row [.sc (kdV p.1.1 p.1.2.1 p.1.2.2), .i (p.2 : Int)]
noncomputable def vrv (p : By × Nat) : CV := .row [.sc (.string ⟨p.1.toArray⟩), .i (p.2 : Int)]
def bv (b : Bool) : CV := .b b
def iv (n : Nat) : CV := .i (n : Int)
noncomputable abbrev nmS (st : Nm) : AS := [(450001, .obj), (35500100, .sl 300001 0 st.sg.nm.length 1), (35500101, .sl 300002 0 st.sg.ar.length 1), (35500102, .sl 300003 0 st.sg.pr.length 1), (35500103, .mref 300004), (35500104, .mref 300005), (300001, .mrow 9 1 (st.sg.nm.map sv)), (300002, .mrow 3 1 (st.sg.ar.map iv)), (300003, .mrow 4 1 (st.sg.pr.map bv)), (300004, .mp (st.sy.map syv)), (300005, .mp (st.vr.map vrv))]
structure Nm.ok (st : Nm) : Prop where
  la : st.sg.ar.length = st.sg.nm.length
  lp : st.sg.pr.length = st.sg.nm.length
  small : st.sg.nm.length ≤ 1000000
  syk : ∀ p ∈ st.sy, p.1.1.length ≤ 1000000 ∧ p.1.2.1 ≤ 1000000
  syn : (st.sy.map Prod.fst).Nodup
  sys : st.sy.length ≤ st.sg.nm.length ∧ ∀ p ∈ st.sy, p.2 ≤ 1000000
  vrk : ∀ p ∈ st.vr, p.1.length ≤ 1000000
  vrn : (st.vr.map Prod.fst).Nodup
  vrs : st.vr.length ≤ 1000000 ∧ ∀ p ∈ st.vr, p.2 ≤ 1000000
theorem svs_size (l : List By) : ∀ c ∈ l.map sv, c.size = 1 := by
  intro c hc
  obtain ⟨t, _, rfl⟩ := List.mem_map.1 hc
  rfl
theorem sv_at {l : List By} {i : Nat} {t : By} (h : l[i]? = some t) : (l.map sv)[i]? = some (sv t) := by rw [List.getElem?_map, h]; rfl
section
variable {P : Program} {w0 : World} {U0 : UX} {nt : Nat} {ops : Array Oper} {o : Oper} {S : Nat → Option AV} {gs : List Nat} {d : Nat} {s : AS} {a : Act} {w : World} {D : Nat → Nat → Prop} {hv : Nat → Value}
def noL (ds : List Nat) : AS := ds.map fun d => (d, AV.no)
end
end Go.Proofs.YtebhbnhijnpmcaaDoor
namespace Go.Proofs.YtebhbnhijnpmcaaDoor
open Go.RowKit Go.MapKept
set_option linter.unusedVariables false
set_option linter.unusedSimpArgs false
section
variable {P : Program} {w0 : World} {U0 : UX} {nt : Nat} {ops : Array Oper} {o : Oper} {S : Nat → Option AV} {gs : List Nat} {d : Nat} {s : AS} {a : Act} {w : World} {D : Nat → Nat → Prop} {hv : Nat → Value}

theorem live_two2 {x y : AV} {k m n : Nat} {e : Nat × Nat} (hk : k < 200000) (hm : m < 200000 ∨ 400000 ≤ m) : Live ((k, x) :: (m, y) :: s) n e ↔ Live s n e := by
  unfold Live
  constructor
  · rintro ⟨h1, h2⟩
    rw [lN (by omega), lN (by omega)] at h1
    exact ⟨h1, h2⟩
  · rintro ⟨h1, h2⟩
    exact ⟨by rw [lN (by omega), lN (by omega)]; exact h1, h2⟩
theorem hk_ne_boxN {lv : Nat → Prop} {a : AV} {d : Nat} (hd : BN d) (hlv : ∀ n, lv n → n = 1 ∨ RN n) (hr : a.n ≠ d) (h : Rn lv a) : hk a ≠ 100000 + d := by
  unfold BN at hd
  rcases h with ⟨h1, h2, h3⟩ | ⟨h1, h2⟩ | ⟨h1, h2⟩
  · rw [hk_eq.2 (by omega)]
    rcases hlv _ h2 with h4 | h4
    · exact absurd h4 h3
    · unfold RN at h4; omega
  · rw [hk_eq.1 h1]; omega
  · rw [hk_eq.2 (by omega)]; unfold RN at h2; omega
theorem SimG.newboxN (h : SimG w0 U0 nt s a w D hv) {nn : Nat} (hbn : BN nn) (hnf : ∀ v, U0.f (100000 + nn) = some v → False) (hr : NoRef s nn) (hd : d < nt) (h5 : d < 100000) {av : AV} (hav : av.t = 5 ∨ av = .obj) {xs : List Value} (ty : TypeId) (hrep : av.t = 5 → Rep (Us w0 U0 D) w av.c xs) (htk : av.t = 5 → Tk hv (LiveN s) av xs) :
    SimG w0 U0 nt ((d, .bp nn 0 []) :: (100000 + nn, av) :: s) (a.put (some d) (.pointer (some ⟨w.heap.size, 0, none⟩))) (w.alloc (.cells xs.toArray ty)) D (fun k => if k = 100000 + nn then .pointer (some ⟨w.heap.size, 0, none⟩) else hv k) := by
  have hbn1 := hbn
  unfold BN at hbn1
  have hb' : Below w.heap.size w (w.alloc (.cells xs.toArray ty)) := (Below.refl _ _).alloc (Nat.le_refl _) _
  have hG := h.grow' hb'
  obtain ⟨s', hs'⟩ : ∃ s', s' = (d, AV.bp nn 0 []) :: (100000 + nn, av) :: s := ⟨_, rfl⟩
  obtain ⟨hv', hhv⟩ : ∃ hv' : Nat → Value, hv' = fun k => if k = 100000 + nn then .pointer (some ⟨w.heap.size, 0, none⟩) else hv k := ⟨_, rfl⟩
  rw [← hs', ← hhv]
  have hl : ∀ n e, Live s' n e ↔ Live s n e := fun n e => by rw [hs']; exact live_two2 (by omega) (by unfold BN at hbn; omega)
  have hl2 : LiveN s' = LiveN s := by funext n; simp only [LiveN, hl]
  have hlk : ∀ k, k ≠ d → k ≠ 100000 + nn → look s' k = look s k := fun k h1 h2 => by rw [hs', lN (Ne.symm h1), lN (Ne.symm h2)]
  have hlb : look s' (100000 + nn) = some av := by rw [hs', lN (by omega), lS]
  have hvn : ∀ k, k ≠ 100000 + nn → hv' k = hv k := fun k hk => by rw [hhv]; simp only [if_neg hk]
  have hvd : hv' (100000 + nn) = .pointer (some ⟨w.heap.size, 0, none⟩) := by rw [hhv]; simp
  have hid : ∀ b o v, Us w0 U0 D b o → (w.alloc (.cells xs.toArray ty)).cell? ⟨b, o, none⟩ = some v → Us w0 U0 D b o ∧ (w.alloc (.cells xs.toArray ty)).cell? ⟨b, o, none⟩ = some v := fun _ _ _ h1 h2 => ⟨h1, h2⟩
  have hmv : ∀ {k av' v}, look s k = some av' → AVRep (Us w0 U0 D) (w.alloc (.cells xs.toArray ty)) hv (LiveN s) av' v → AVRep (Us w0 U0 D) (w.alloc (.cells xs.toArray ty)) hv' (LiveN s) av' v := fun {k av' v} h1 h2 =>
    h2.move hid (fun _ h => h) fun h3 => hvn _ (hk_ne_boxN hbn (fun n => liveN_rn) (hr k av' h1).1 h3)
  refine ⟨hG.below, h.dfr, by simp [Act.put, h.size], fun d' av' h1 h2 => ?_, fun n o av' h1 h2 h3 h10 => ?_, fun n o o' av1 av2 h1 h2 h3 h4 => ?_, fun k av' h1 h2 => ?_, fun k av' g h1 h2 h3 h4 => ?_, fun k k' av1 av2 g h1 h2 h3 h4 h6 h7 hne => ?_, fun n g h1 => ?_, hG.dlt⟩
  · rw [hl2]
    by_cases e : d = d'
    · subst e
      rw [hs', lS] at h1
      cases h1
      refine ⟨.pointer (some ⟨w.heap.size, 0, none⟩), by simp [Act.put, h.size, hd], ?_⟩
      unfold AVRep
      simp only [if_true]
      exact ⟨hbn, by rw [hvd]; rfl⟩
    · rw [hlk d' (Ne.symm e) (by omega)] at h1
      obtain ⟨v', h3, h4⟩ := hG.slot d' av' h1 h2
      exact ⟨v', by simp [Act.put, e, h3], hmv h1 h4⟩
  · rw [hlk _ (by unfold fKey; omega) (by unfold fKey; omega)] at h1
    have hn := (hr _ _ h1).2.1
    rw [fnm_key h2] at hn
    rw [hlk _ (by omega) (by omega)] at h3
    rw [hl2]
    obtain ⟨v, h4, h6, h7⟩ := hG.fld n o av' h1 h2 h3 h10
    refine ⟨v, hmv h1 h4, h6, ?_⟩
    rw [hvn _ (by omega)]
    exact h7
  · rw [hlk _ (by unfold fKey; omega) (by unfold fKey; omega)] at h1 h2
    exact h.fdis n o o' av1 av2 h1 h2 h3 h4
  · rw [hl2]
    by_cases e : k = 100000 + nn
    · subst e
      rw [hlb] at h1
      cases h1
      rw [hvd]
      unfold OC
      rcases hav with hav | rfl
      · rw [if_pos hav]
        refine ⟨w.heap.size, xs, ty, rfl, alloc_new _ _, (hrep hav).keep (us_keep h.dlt hb' fun _ _ h => h), fun hl => ?_⟩
        obtain ⟨m, c, g1, g2⟩ := htk hav hl
        refine ⟨m, c, g1, ?_⟩
        rw [g2]
        unfold tokv
        rcases liveN_rn hl with h6 | h6
        · rw [if_pos h6, if_pos h6]
        · unfold RN at h6
          rw [hvn _ (by omega)]
      · simp only [if_true]
        exact ⟨w.heap.size, xs.toArray, ty, rfl, alloc_new _ _⟩
    · have h2' := h2
      unfold oKey at h2'
      rw [hlk k (by omega) e] at h1
      rw [hvn k e]
      refine (hG.obj k av' h1 h2).move hid (fun _ hl => ⟨hl, ?_⟩) (fun _ _ => rfl)
      unfold tokv
      rcases liveN_rn hl with h6 | h6
      · rw [if_pos h6, if_pos h6]
      · unfold RN at h6
        rw [hvn _ (by omega)]
  · by_cases e : k = 100000 + nn
    · subst e
      rw [hvd] at h4
      have h4 : some w.heap.size = some g := h4
      cases h4
      refine ⟨.inl h.below.size, by simp, fun o _ hd => ?_⟩
      have := h.dlt _ _ hd
      omega
    · have h2' := h2
      unfold oKey at h2'
      rw [hlk k (by omega) e] at h1
      rw [hvn k e] at h4 ⊢
      exact hG.blk k av' g h1 h2 h3 h4
  · have h3' := h3
    have h4' := h4
    unfold oKey at h3' h4'
    by_cases e1 : k = 100000 + nn
    · have e2 : k' ≠ 100000 + nn := fun e => hne (e1.trans e.symm)
      rw [hlk k' (by omega) e2] at h2
      rw [e1, hvd, hvn k' e2]
      intro h8 h9
      have := (h.blk k' av2 g h2 h4 h7 h9).2.1
      have h8 : some w.heap.size = some g := h8
      cases h8
      omega
    · rw [hlk k (by omega) e1] at h1
      by_cases e2 : k' = 100000 + nn
      · rw [e2, hvd, hvn k e1]
        intro h8 h9
        have := (h.blk k av1 g h1 h3 h6 h8).2.1
        have h9 : some w.heap.size = some g := h9
        cases h9
        omega
      · rw [hlk k' (by omega) e2] at h2
        rw [hvn k e1, hvn k' e2]
        exact h.disj k k' av1 av2 g h1 h2 h3 h4 h6 h7 hne
  · have := U0.hf n g h1
    rw [hvn _ (fun e => hnf g (by rw [← e]; exact h1))]
    exact h.fix n g h1

end
def collPostL (L D : Nat) (Kp : World → World → Prop) (I : World → Prop) (W : World) : Exit → Act → World → Prop
  | .normal, _, W' => W'.heap[L]? = W.heap[L]? ∧ W'.heap[D]? = W.heap[D]? ∧ Kp W W' ∧ I W'
  | _, _, _ => False

section
variable {α : Type} {P : Program}
end

section
variable {P : Program} {w0 : World} {U0 : UX} {nt : Nat} {ops : Array Oper} {o : Oper} {S : Nat → Option AV} {gs : List Nat} {d : Nat} {s : AS} {a : Act} {w : World} {D : Nat → Nat → Prop} {hv : Nat → Value}

abbrev AV.ob (g o : Nat) : AV := ⟨20, .sc (.pointer (some ⟨g, 0, none⟩)), 0, o, []⟩
end
def KpX (n0 : Nat) (X : Nat → Prop) (V V' : World) : Prop := ∀ b, b < n0 → ¬ X b → V'.heap[b]? = V.heap[b]?
def Hands {α : Type} (P : Program) (gf : Nat) (caps : List CV) (encC : α → List CV) (xs : List α) : Prop :=
  ∀ (w : World) (lb : List Value) (R : Nat → Nat → Prop), VReps R w caps lb → Gives P gf lb.toArray (fun x => ((encC x).map CV.v).toArray) (fun pre x _ => xs[pre.length]? = some x) (KpX w.heap.size fun b => ¬ ∃ o, R b o) (fun ys => ys = xs) w

def asgL : List Oper → Option (List (Nat × Nat))
  | [] => some []
  | o :: os => match o.dst, o.op, o.guard, asgL os with
    | some d, .assign (.tmp t), none, some r => some ((d, t) :: r)
    | _, _, _, _ => none
def asgT : List (Nat × Nat) → Array Value → Array Value
  | [], tm => tm
  | (d, t) :: r, tm => asgT r (tm.setIfInBounds d (tm.getD t undef))
def asgS : List (Nat × Nat) → AS → AS
  | [], s => s
  | (d, t) :: r, s => asgS r ((d, match look s t with | some av => av | none => .no) :: s)
def parT : List Tmp → List Value → Array Value → Array Value
  | p :: ps, v :: vs, tm => parT ps vs (tm.setIfInBounds p v)
  | _, _, tm => tm
def parS : List Tmp → List CV → AS → AS
  | p :: ps, c :: cs, s => parS ps cs ((p, .val c) :: s)
  | _, _, s => s
def SlOk (R : AV → Value → Prop) (s : AS) (tm : Array Value) : Prop := ∀ d av, look s d = some av → ∃ v, tm[d]? = some v ∧ R av v
section
variable {P : Program} {w0 : World} {U0 : UX} {nt : Nat} {s : AS}
def AWpM (P : Program) (w0 : World) (U0 : UX) (nt : Nat) (c : Code) (Q : Exit → AS → Nat → Prop) (s : AS) : Prop :=
  ∀ a w, Sim w0 U0 nt s a w → c.wpIn Fence.wide 1 P (fun e a' w' => ∃ s' a'' g, Q e s' g ∧ Sim w0 U0 nt s' a'' w' ∧ a' = wdA a'' [⟨.collected g, #[]⟩] ∧ look s' 299999 = some (.ob g 0)) a w
end
section
variable {P : Program} {w0 : World} {U0 : UX} {nt : Nat} {ops : Array Oper} {o : Oper} {S : Nat → Option AV} {gs : List Nat} {d : Nat} {s : AS} {a : Act} {w : World} {D : Nat → Nat → Prop} {hv : Nat → Value}
end
end Go.Proofs.YtebhbnhijnpmcaaDoor
-- @STR@
namespace Go.Proofs.YtebhbnhijnpmcaaDoor
open Go.RowKit
set_option linter.unusedVariables false
set_option linter.unusedSimpArgs false
set_option maxRecDepth 100000

abbrev u8 (b : UInt8) : CV := .sc (.int .u8 (b.toNat : Int))
end Go.Proofs.YtebhbnhijnpmcaaDoor

namespace Go.Proofs.YtebhbnhijnpmcaaDoor
open Go.RowKit Go.MapKept
open Go.ChangeMaps (setBlock)
set_option linter.unusedVariables false
set_option linter.unusedSimpArgs false
section
variable {P : Program} {w0 : World} {U0 : UX} {nt : Nat} {ops : Array Oper} {o : Oper} {S : Nat → Option AV} {gs : List Nat} {d : Nat} {s : AS} {a : Act} {w : World} {D : Nat → Nat → Prop} {hv : Nat → Value}

abbrev AV.stm (l : List CV) (b clock : Nat) (bs : List Nat) : AV := ⟨22, .lst l, 0, 0, b :: clock :: bs⟩
abbrev AV.itr (b since c0 : Nat) (seen : List Nat) : AV := ⟨21, .row [], 0, 0, b :: since :: c0 :: seen⟩

end
end Go.Proofs.YtebhbnhijnpmcaaDoor
namespace Go.Proofs.YtebhbnhijnpmcaaDoor
open Go.RowKit Go.MapKept
set_option linter.unusedVariables false
set_option linter.unusedSimpArgs false
def AFunE {Sg : Type} (P : Program) (f : FuncId) (pre : AS) (args : List AV) (R : Sg → Prop) (r : Sg → AV) (post : Sg → AS) : Prop :=
  EntF P f ∧ ∀ (U : UX) (w : World) (hv : Nat → Value) (a0 : Act) (vs : List Value), (∀ k v, U.f k = some v → hasN (kO pre) k = true) → SimG w U 0 pre a0 w (fun _ _ => False) hv → AVReps (Us w U (fun _ _ => False)) w hv (LiveN pre) args vs →
    Calls P f vs.toArray w fun e w' => ∃ σ, R σ ∧ ∃ v D' hv' a', e = .returned v ∧ SimG w U 0 (post σ) a' w' D' hv' ∧ AVRep (Us w U D') w' hv' (LiveN (post σ)) (r σ) v
section
variable {P : Program} {w0 : World} {U0 : UX} {nt : Nat} {ops : Array Oper} {o : Oper} {S : Nat → Option AV} {gs : List Nat} {d : Nat} {s : AS} {a : Act} {w : World} {D : Nat → Nat → Prop} {hv : Nat → Value}
end
end Go.Proofs.YtebhbnhijnpmcaaDoor
-- @STR@
namespace Go.Proofs.YtebhbnhijnpmcaaDoor
open Go.RowKit
set_option linter.unusedVariables false
set_option linter.unusedSimpArgs false
set_option maxRecDepth 100000

def idxS (l : List By) (s : By) : Int := match l.findIdx? (fun x => decide (s = x)) with | some i => (i : Int) | none => -1
end Go.Proofs.YtebhbnhijnpmcaaDoor

-- @STR@
namespace Go.Proofs.YtebhbnhijnpmcaaDoor
open Go.RowKit
set_option linter.unusedVariables false
set_option linter.unusedSimpArgs false
set_option maxRecDepth 100000
noncomputable abbrev tkS (t : Tkn) : AS := [(450001, .obj), (35500100, .val (sv t.nx)), (35500101, .val (sv t.rs))]
end Go.Proofs.YtebhbnhijnpmcaaDoor

-- @STR@
namespace Go.Proofs.YtebhbnhijnpmcaaDoor
open Go.RowKit
set_option linter.unusedVariables false
set_option linter.unusedSimpArgs false
set_option maxRecDepth 100000

def TermC (n : Nat) : Prop := ∀ (d : Nat) (t : Tkn) (r : Ph × List Ph × Bool × Tkn), d ≤ 40 → t.len ≤ 1000000 → rdX n d t none = some r → AFunO Tryd.prog 70 (tkS t) [.bp 350001 0 [], .val (.i d)] (.tup [r.1.cw, .b r.2.2.1]) (tkS r.2.2.2)
def PartsC (n : Nat) : Prop := ∀ (d : Nat) (t : Tkn) (r : Ph × List Ph × Bool × Tkn), d ≤ 40 → t.len ≤ 1000000 → rdX n d t (some []) = some r → AFunO Tryd.prog 83 (tkS t) [.bp 350001 0 [], .val (.i d)] (.tup [.lst (r.2.1.map Ph.cv), .b r.2.2.1]) (tkS r.2.2.2)
end Go.Proofs.YtebhbnhijnpmcaaDoor

namespace Go.Proofs.YtebhbnhijnpmcaaDoor
open Go.RowKit
set_option linter.unusedVariables false
set_option linter.unusedSimpArgs false
section
variable {P : Program} {w0 : World} {U0 : UX} {nt : Nat} {ops : Array Oper} {o : Oper} {S : Nat → Option AV} {gs : List Nat} {d : Nat}
end
end Go.Proofs.YtebhbnhijnpmcaaDoor
-- @STR@
namespace Go.Proofs.YtebhbnhijnpmcaaDoor
open Go.RowKit
set_option linter.unusedVariables false
set_option linter.unusedSimpArgs false
set_option maxRecDepth 100000

noncomputable abbrev phZ : CV := .row [sv [], .lst []]
end Go.Proofs.YtebhbnhijnpmcaaDoor

-- @STR@
namespace Go.Proofs.YtebhbnhijnpmcaaDoor
open Go.RowKit
set_option linter.unusedVariables false
set_option linter.unusedSimpArgs false
set_option maxRecDepth 100000

def Ph.ok : Ph → Prop
  | ⟨n, ps⟩ => (n ≠ [] ∧ n.length ≤ 1000000 ∧ ps.length ≤ 1000000) ∧ ∀ q ∈ ps, q.ok
def Ph.sz : Ph → Nat
  | ⟨n, ps⟩ => 1 + (ps.map Ph.sz).sum
def StepOk (st st' : Nm) (k : Nat) : Prop := st'.ok ∧ st'.vr.length ≤ st.vr.length + k
def TmC (n : Nat) : Prop := ∀ (st : Nm) (p : Ph) (r : Tm × Bool × Nm), st.ok → p.ok → st.vr.length + p.sz ≤ 1000000 → tmF n st p = some r → AFunO Tryd.prog 73 (nmS st) [.bp 350001 0 [], .val p.cw] (.tup [r.1.cw, .b r.2.1]) (nmS r.2.2)
end Go.Proofs.YtebhbnhijnpmcaaDoor

-- @STR@
namespace Go.Proofs.YtebhbnhijnpmcaaDoor
open Go.RowKit
set_option linter.unusedVariables false
set_option linter.unusedSimpArgs false
set_option maxRecDepth 100000
noncomputable abbrev scv (c : List Se) : CV := .lst (c.map Se.cv)
end Go.Proofs.YtebhbnhijnpmcaaDoor

-- @STR@
namespace Go.Proofs.YtebhbnhijnpmcaaDoor
open Go.RowKit
set_option linter.unusedVariables false
set_option linter.unusedSimpArgs false
set_option maxRecDepth 100000

def Se.ok (s : Se) : Prop := s.a.ok ∧ (s.atom = false → s.b.ok)
def Se.sz (s : Se) : Nat := s.a.sz + s.b.sz
noncomputable abbrev tZ : CV := .row [.i 0, .lst []]
noncomputable abbrev nmI (st : Nm) : AS := [(450001, .obj), (35500100, .sl 300001 0 st.sg.nm.length 1), (35500101, .sl 300002 0 st.sg.ar.length 1), (35500102, .sl 300003 0 st.sg.pr.length 1), (35500103, .mref 300004), (35500104, .val (.sc (.map none))), (300001, .mrow 9 1 (st.sg.nm.map sv)), (300002, .mrow 3 1 (st.sg.ar.map iv)), (300003, .mrow 4 1 (st.sg.pr.map bv)), (300004, .mp (st.sy.map syv))]
end Go.Proofs.YtebhbnhijnpmcaaDoor

namespace Go.Proofs.YtebhbnhijnpmcaaDoor
open Go.RowKit
set_option linter.unusedVariables false
set_option linter.unusedSimpArgs false
set_option maxRecDepth 100000
def trueS : Value := .string ⟨#[36, 116, 114, 117, 101]⟩
section
variable {P : Program} {w0 : World} {U0 : UX} {nt : Nat} {s : AS} {a : Act} {w w' : World} {M : Md} {D : Nat → Nat → Prop} {hv : Nat → Value}
end
def len8 (n : Nat) : Int := if n = 0 then 0 else if n = 1 then 1 else if n < 4 then 2 else if n < 8 then 3 else 4
section
variable {α : Type} (lt : α → α → Bool) (a : Nat)
def sink : Nat → List α → List α
  | 0, L => L
  | j + 1, L => match L[j + 1]?, L[j]? with
    | some x, some y => if a < j + 1 ∧ lt x y = true then sink j ((L.set (j + 1) y).set j x) else L
    | _, _ => L
def isortN : Nat → Nat → List α → List α
  | 0, _, L => L
  | n + 1, i, L => isortN n (i + 1) (sink lt a i L)
end

def ltC (cmp : Bd → Bd → Int) (x y : Bd) : Bool := decide (cmp x y < 0)
end Go.Proofs.YtebhbnhijnpmcaaDoor
namespace Go.Proofs.YtebhbnhijnpmcaaDoor
open Go.RowKit
set_option linter.unusedVariables false
set_option linter.unusedSimpArgs false
def fineB (l : List Tm) : Bool := l.all fun t => decide (0 ≤ smallT t 60 20)

set_option maxRecDepth 100000 in
set_option maxHeartbeats 800000 in
theorem fine_any {U : Nat → Prop} {l : List Tm} {a : Option Addr} {n c : Nat} {w : World} (h : Las U w l a n c) (hn : n ≤ 100) :
    Calls Tryd.prog 18 #[.slice a n c] w fun e w' => e = .returned (.bool (fineB l)) ∧ Below w.heap.size w w' := by
  have HL := hid h.len
  have HA : Hid (∀ V, Below w.heap.size w V → Las U V l a n c) := fun V hb => h.bw hb
  clear h
  go_enter Tryd.func18, Tryd.ntmps18
  go_wp2
  go_loopw [3] (fun i wr => ∃ k : Nat, i = .int .i64 (k : Int) ∧ k ≤ n ∧ Below w.heap.size w wr ∧ fineB (l.take k) = true) (fun i _ => n - (intOf i).toNat)
  case atStart => exact ⟨0, rfl, by omega, bW _, by simp [fineB]⟩
  case round =>
    obtain ⟨k, rfl, hk, hbr, hf⟩ := hrel
    have HF := hid hf
    clear hf
    by_cases hlt : k < n
    · obtain ⟨b, off, s, a', n', c', rfl, hU, hlt', hs, hT, e1, e2⟩ := (HA.out wr hbr).at hlt
      have HS := hid hs
      have HCall : Hid (Calls Tryd.prog 38 #[.agg #[.int .i64 s.f, .slice a' n' c'], .int .i64 60, .int .i64 20] wr fun e w' => e = .returned (.int .i64 (smallT s 60 20)) ∧ Below wr.heap.size wr w') := small_any s U a' n' c' 60 20 wr hT (by decide) (by decide) (by decide) (by decide)
      have HT1 : Hid (fineB (l.take (k + 1)) = (fineB (l.take k) && decide (0 ≤ smallT s 60 20))) := by
        show _ = _
        rw [List.take_add_one, HS.out]
        simp [fineB]
      obtain ⟨y, hy⟩ : ∃ y, y = smallT s 60 20 := ⟨_, rfl⟩
      have HY : Hid (y = smallT s 60 20) := hy
      rw [← hy] at HT1 HCall
      clear hs hT hy
      by_cases hy0 : y < 0
      · go_wp2_with (go_at_call 38; refine HCall.out.mono ?_; rintro e w2 ⟨rfl, hb2⟩)
        go_ret
        refine ⟨?_, bN hbr hb2⟩
        rw [show fineB l = false from ?_]
        · rfl
        · unfold fineB
          rw [Bool.eq_false_iff]
          intro hall
          have := List.all_eq_true.1 hall s (List.mem_of_getElem? HS.out)
          rw [← HY.out] at this
          have := of_decide_eq_true this
          omega
      · have HN : Hid (fineB (l.take (k + 1)) = true) := by
          show _ = _
          rw [HT1.out, HF.out, Bool.true_and]
          exact decide_eq_true (by omega)
        go_wp2_with (go_at_call 38; refine HCall.out.mono ?_; rintro e w2 ⟨rfl, hb2⟩)
        go_roundw
        case rel => exact ⟨k + 1, by go_num, by omega, bN hbr hb2, HN.out⟩
        case measure => simp [intOf]; omega
    · have HE : Hid (fineB l = true) := by
        show _ = _
        rw [← HF.out, List.take_of_length_le (by have := HL.out.1; omega)]
      go_wp2
      go_ret
      exact ⟨by rw [HE.out]; rfl, hbr⟩

theorem PsT.at {w : World} {base : Nat} {a : Option Addr} {n c : Nat} {ps : List (List Int)} (h : PsT w base (.slice a n c) ps) {i : Nat} (hi : i < ps.length) :
    ∃ (b off : Nat) (x : Pr), a = some ⟨b, off, none⟩ ∧ ps[i]? = some x.p ∧ x.ok (fun b => base ≤ b) w ∧ w.cell? ⟨b, off + i, none⟩ = some (.slice x.a x.n x.c) := by
  obtain ⟨xs, h1, h2, h3⟩ := h
  obtain ⟨a', c', e1, e2, e3, e4, e5⟩ := ownsRow_cs h1
  cases e1
  have hxl : xs.length = ps.length := by rw [← h2, List.length_map]
  have hix : i < xs.length := by omega
  rcases e5 with h | ⟨b, off, ha, hlt, hc⟩
  · rw [List.map_eq_nil_iff] at h; rw [h] at hix; simp at hix
  · refine ⟨b, off, xs[i], ha, ?_, (h3 _ (List.getElem_mem hix)).keep fun b h _ => ⟨h.1, rfl⟩, ?_⟩
    · rw [← h2, List.getElem?_map, List.getElem?_eq_getElem hix]; rfl
    · rw [hc i (by rw [List.length_map]; exact hix), List.getElem?_map, List.getElem?_eq_getElem hix]; rfl

theorem Pr.ok.at {U : Nat → Prop} {w : World} {x : Pr} (h : x.ok U w) {i : Nat} (hi : i < x.n) : ∃ b off z, x.a = some ⟨b, off, none⟩ ∧ U b ∧ b < w.heap.size ∧ x.p[i]? = some z ∧ w.cell? ⟨b, off + i, none⟩ = some (.int .i64 z) := by
  obtain ⟨h1, h2, h3, h4, h5⟩ := h
  have hip : i < x.p.length := by omega
  rcases h5 with h | ⟨b, off, ha, hu, hlt, hc⟩
  · unfold ints at h; rw [List.map_eq_nil_iff] at h; rw [h] at hip; simp at hip
  · refine ⟨b, off, x.p[i], ha, hu, hlt, List.getElem?_eq_getElem hip, ?_⟩
    rw [hc i (by unfold ints; rw [List.length_map]; exact hip)]
    unfold ints
    rw [List.getElem?_map, List.getElem?_eq_getElem hip]; rfl

def tm0 : Tm := .mk 1 [.mk (-1) [], .mk 2 []]
end Go.Proofs.YtebhbnhijnpmcaaDoor
namespace Go.Proofs.YtebhbnhijnpmcaaDoor
open Go.RowKit
set_option linter.unusedVariables false
set_option linter.unusedSimpArgs false
set_option maxRecDepth 100000
theorem las_of_vrep {U : Nat → Nat → Prop} {w : World} {l : List Tm} {v : Value} (hr : ∀ t ∈ l, t.rng) (h : VRep U w (.lst (l.map Tm.cv)) v) : ∃ a n c, v = .slice a n c ∧ Las (fun _ => True) w l a n c := by
  obtain ⟨a, n, c, h1, g2, g3, g4, g5, zs, g6, g7⟩ := vrep_lst.1 h
  refine ⟨a, n, c, h1, by rw [List.length_map] at g2; exact g2, g3, g4, g5, zs, ?_, ecs_of_sq (fun t ht ys hy => tat_of_rep (hr t ht) hy) g7⟩
  rcases g6 with g6 | ⟨b, off, g6, g8⟩
  · exact .inl g6
  · by_cases hz : zs = []
    · exact .inl hz
    · refine .inr ⟨b, off, g6, trivial, ?_, fun i hi => (g8 i hi).2⟩
      have hpos : 0 < zs.length := List.length_pos_iff.2 hz
      have := (g8 0 hpos).2
      rw [List.getElem?_eq_getElem hpos] at this
      exact World.block_lt_of_cell? w _ this
theorem fine_abs (W : World) (l : List Tm) (hr : ∀ t ∈ l, t.rng) (hl : l.length ≤ 100) : AFun Tryd.prog W 18 [.lst (l.map Tm.cv)] (.val (.b (fineB l))) := by
  refine ⟨ent_of Tryd.func18 rfl rfl, .inl rfl, rfl, ?_⟩
  rintro U w vs hW ⟨u1, us1, rfl, h1, h3⟩
  have h3 : us1 = [] := h3
  subst h3
  obtain ⟨a, n, c, rfl, h4⟩ := las_of_vrep hr h1
  refine (fine_any h4 (by have := h4.1; omega)).mono ?_
  rintro e w' ⟨rfl, hb⟩
  exact ⟨_, rfl, vrep_sc.2 ⟨rfl, rfl⟩, hb⟩
theorem fine_of {l : List Tm} (h : fineB l = true) {t : Tm} (ht : t ∈ l) : t.sm ∧ t.wt ≤ 60 ∧ t.ok ∧ t.size ≤ 60 := by
  unfold fineB at h
  rw [List.all_eq_true] at h
  have h1 := of_decide_eq_true (h t ht)
  have h2 : t.wt ≤ 60 := by have := (small_bounds t 60 20 (by decide)).2.2 h1; omega
  exact ⟨small_sm t _ _ h1, h2, Tm.wt_ok (by omega), Nat.le_trans t.size_wt h2⟩
def cmpB (x y : Bd) : Int := cmpZ x.v y.v
def idleB (b : Bd) : Bool := decide (b.t.f < 0) && decide (-1 - b.t.f = b.v)
def idxB (q : Bd → Bool) : List Bd → Nat → Int
  | [], _ => -1
  | b :: l, i => if q b then (i : Int) else idxB q l (i + 1)
def ltL (cmp : Lt → Lt → Int) (x y : Lt) : Bool := decide (cmp x y < 0)
def cmpS (x y : Lt) : Int := if cmpT x.a y.a ≠ 0 then cmpT x.a y.a else cmpT x.b y.b
def othL (l : Lt) : Lt := ⟨l.neg, l.b, l.a⟩
def trnL (l : Lt) : Lt := if 0 ≤ cmpT l.a l.b then l else othL l
def holdB (l : Lt) : Bool := !l.neg && sameT l.a l.b
def chkL (L : List Lt) (i : Nat) : Bool := match L[i]?, L[i - 1]? with
  | some x, some y => decide (0 < i) && ((!(x.neg == y.neg)) && decide (cmpS x y = 0))
  | _, _ => false
def adjB (L : List Lt) : Bool := (List.range L.length).any (chkL L)
def srtL (L : List Lt) : List Lt := isortN (ltL cmpS) 0 (L.length - 1) 1 L
def tautP (c : List Lt) : Bool := c.any holdB || adjB (srtL (c.map trnL))
def okC (c : List Lt) : Prop := ∀ l ∈ c, l.a.rng ∧ l.b.rng
def wtC (c : List Lt) : Nat := (c.map fun l => l.a.size + l.b.size).sum
end Go.Proofs.YtebhbnhijnpmcaaDoor
namespace Go.Proofs.YtebhbnhijnpmcaaDoor
open Go.RowKit
set_option linter.unusedVariables false
set_option linter.unusedSimpArgs false
def TmG (t : Tm) (k : Nat) : Prop := t.rng ∧ t.ok ∧ t.size ≤ k
def StepG (f : Nm → Ph → Option (Tm × Bool × Nm)) : Prop := ∀ st p r, st.ok → p.ok → st.vr.length + p.sz ≤ 1000000 → f st p = some r → StepOk st r.2.2 p.sz ∧ TmG r.1 p.sz
def LtG (l : Lt) (k : Nat) : Prop := (l.a.rng ∧ l.a.ok) ∧ (l.b.rng ∧ l.b.ok) ∧ l.a.size + l.b.size ≤ k
end Go.Proofs.YtebhbnhijnpmcaaDoor
-- @STR@
namespace Go.Proofs.YtebhbnhijnpmcaaDoor
open Go.RowKit
set_option linter.unusedVariables false
set_option linter.unusedSimpArgs false
set_option maxRecDepth 100000

noncomputable def sgv (s : Sg) : CV := .row [.lst (s.nm.map sv), .lst (s.ar.map iv), .lst (s.pr.map bv)]
noncomputable def lcv (c : List Lt) : CV := .lst (c.map Lt.cv)
def sgz : Sg := ⟨[], [], []⟩
noncomputable abbrev sgcZ : CV := .row [.lst [], .lst [], .lst []]
end Go.Proofs.YtebhbnhijnpmcaaDoor

-- @STR@
namespace Go.Proofs.YtebhbnhijnpmcaaDoor
open Go.RowKit
set_option linter.unusedVariables false
set_option linter.unusedSimpArgs false
set_option maxRecDepth 100000

section
variable {P : Program} {w0 : World} {U0 : UX} {nt : Nat} {ops : Array Oper} {o : Oper} {gs : List Nat} {S : Nat → Option AV} {d : Nat}
end
def sgc (s : Sg) : Nat := min (min s.nm.length s.ar.length) s.pr.length
def fitB (s : Sg) (t : Tm) : Bool := decide (0 ≤ t.f) && (decide (t.f < (sgc s : Int)) && decide (s.ar[t.f.toNat]? = some t.l.length))
noncomputable def rtB (s : Sg) (t : Tm) : Bool := Tm.rec (motive_1 := fun _ => Bool) (motive_2 := fun _ => Bool) (fun f l ih => decide (f < 0) || (decide (0 < f) && (fitB s ⟨f, l⟩ && (!(s.pr.getD f.toNat false) && ih)))) true (fun _ _ a b => a && b) t
noncomputable def atB (s : Sg) (t : Tm) : Bool := decide (0 < t.f) && (fitB s t && (s.pr.getD t.f.toNat false && t.l.all (rtB s)))
def trB (t : Tm) : Bool := decide (t.f = 0) && decide (t.l.length = 0)
noncomputable def rlB (s : Sg) (l : Lt) : Bool := match trB l.b with
  | false => rtB s l.a && rtB s l.b
  | true => atB s l.a && fitB s l.b
noncomputable def rcB (s : Sg) (c : List Lt) : Bool := c.all (rlB s)
end Go.Proofs.YtebhbnhijnpmcaaDoor

namespace Go.Proofs.YtebhbnhijnpmcaaDoor
open Go.RowKit
set_option linter.unusedVariables false
set_option linter.unusedSimpArgs false
def joinW (sep : By) : List By → By
  | [] => []
  | x :: xs => x ++ xs.flatMap (sep ++ ·)
theorem joinW_snoc (sep : By) (xs : List By) (y : By) : joinW sep (xs ++ [y]) = joinW sep xs ++ ((if xs = [] then [] else sep) ++ y) := by
  cases xs with
  | nil => simp [joinW]
  | cons x xs => simp [joinW]
theorem joinW_take (sep : By) {l : List By} {k : Nat} {y : By} (h : l[k]? = some y) : joinW sep (l.take (k + 1)) = joinW sep (l.take k) ++ ((if k = 0 then [] else sep) ++ y) := by
  rw [List.take_add_one, h]
  show joinW sep (l.take k ++ [y]) = _
  rw [joinW_snoc]
  have hk : k < l.length := (List.getElem?_eq_some_iff.1 h).1
  congr 2
  by_cases h0 : k = 0
  · subst h0; simp
  · rw [if_neg h0, if_neg]
    intro e
    have h1 : (l.take k).length = 0 := by rw [e]; rfl
    rw [List.length_take] at h1
    omega
theorem joinW_take_le (sep : By) (l : List By) (k : Nat) : (joinW sep (l.take k)).length ≤ (joinW sep l).length := by
  cases l with
  | nil => simp
  | cons x xs =>
    cases k with
    | zero => simp [joinW]
    | succ k =>
      simp only [List.take_succ_cons, joinW, List.length_append]
      have h : xs.flatMap (sep ++ ·) = (xs.take k).flatMap (sep ++ ·) ++ (xs.drop k).flatMap (sep ++ ·) := by rw [← List.flatMap_append, List.take_append_drop]
      rw [h, List.length_append]
      omega
def symX (nm : List By) (f : Nat) : By := match nm[f]? with
  | some s => s
  | none => 115 :: Lib.decDigits f
def parX (l : List By) : By := match l with
  | [] => []
  | x :: xs => 40 :: (joinW [44] (x :: xs) ++ [41])
theorem parX_ne {l : List By} (h : l ≠ []) : parX l = 40 :: (joinW [44] l ++ [41]) := by
  cases l with
  | nil => exact absurd rfl h
  | cons x xs => rfl
def txT (nm : List By) : Tm → By
  | ⟨f, l⟩ => if f < 0 then 88 :: Lib.decDigits (-1 - f).toNat else symX nm f.toNat ++ parX (l.map (txT nm))
theorem txT_eq (nm : List By) (t : Tm) : txT nm t = if t.f < 0 then 88 :: Lib.decDigits (-1 - t.f).toNat else symX nm t.f.toNat ++ parX (t.l.map (txT nm)) := by cases t; rw [txT]
def txL (nm : List By) (l : Lt) : By := if trB l.b then (if l.neg then [126] else []) ++ txT nm l.a else txT nm l.a ++ ((if l.neg then [32, 33, 61, 32] else [32, 61, 32]) ++ txT nm l.b)
def txC (nm : List By) (c : List Lt) : By := if c = [] then neverB else joinW [32, 124, 32] (c.map (txL nm))
def txA (nm : List By) (l : List (List Lt)) : By := l.flatMap fun c => txC nm c ++ [46, 10]
def Tm.nk (N L : Nat) : Tm → Prop
  | ⟨f, l⟩ => (-9223372036854775808 ≤ f ∧ (f < 0 → -1 - f < N) ∧ ((L : Int) ≤ f → f < N) ∧ l.length ≤ 1000000) ∧ ∀ s ∈ l, s.nk N L
theorem Tm.nk_iff (N L : Nat) (t : Tm) : t.nk N L ↔ (-9223372036854775808 ≤ t.f ∧ (t.f < 0 → -1 - t.f < N) ∧ ((L : Int) ≤ t.f → t.f < N) ∧ t.l.length ≤ 1000000) ∧ ∀ s ∈ t.l, s.nk N L := by cases t; rw [Tm.nk]
def cstO (sep : By) (l : List By) (o : Option By) (k : Nat) : Option By := if k = 0 then o else some (o.getD [] ++ joinW sep (l.take k))
theorem cst_getD (sep : By) (l : List By) (o : Option By) (k : Nat) : (cstO sep l o k).getD [] = o.getD [] ++ joinW sep (l.take k) := by
  unfold cstO
  split
  · rename_i e; subst e; simp [joinW]
  · rfl
theorem cst_step {sep : By} {l : List By} {o : Option By} {k : Nat} {y : By} (h : l[k]? = some y) : cstO sep l o (k + 1) = some ((if k = 0 then cstO sep l o k else some ((cstO sep l o k).getD [] ++ sep)).getD [] ++ y) := by
  have e : cstO sep l o (k + 1) = some (o.getD [] ++ joinW sep (l.take (k + 1))) := by unfold cstO; rw [if_neg (by omega)]
  rw [e, joinW_take sep h]
  by_cases h0 : k = 0
  · subst h0
    simp [cstO, joinW]
  · rw [if_neg h0, if_neg h0, Option.getD_some, cst_getD]
    simp
theorem itoa_nat (n : Nat) : Lib.itoa (n : Int) = Lib.decDigits n := by
  unfold Lib.itoa
  rw [if_neg (by omega)]
  rfl
end Go.Proofs.YtebhbnhijnpmcaaDoor
namespace Go.Proofs.YtebhbnhijnpmcaaDoor
open Go.RowKit Go.MapKept
set_option linter.unusedVariables false
set_option linter.unusedSimpArgs false
set_option maxRecDepth 100000
section
variable {P : Program} {w0 : World} {U0 : UX} {nt : Nat} {ops : Array Oper} {o : Oper} {S : Nat → Option AV} {gs : List Nat} {d : Nat} {s : AS} {a : Act} {w : World} {D : Nat → Nat → Prop} {hv : Nat → Value}
end
end Go.Proofs.YtebhbnhijnpmcaaDoor
namespace Go.Proofs.YtebhbnhijnpmcaaDoor
open Go.RowKit Go.MapKept
set_option linter.unusedVariables false
set_option linter.unusedSimpArgs false
def QUp (q : (Nat → Nat → Prop) → World → Prop) : Prop := ∀ (U V : Nat → Nat → Prop) (w w' : World), q U w → Below w.heap.size w w' → (∀ b o, b < w.heap.size → U b o → V b o) → q V w'
def AFunQ (P : Program) (q : (Nat → Nat → Prop) → World → Prop) (f : FuncId) (args : List CV) (r : AV) : Prop :=
  EntF P f ∧ (r.t = 0 ∨ r.t = 4) ∧ r.n = 0 ∧ ∀ (U : Nat → Nat → Prop) (w : World) (vs : List Value), q U w → VReps U w args vs →
    Calls P f vs.toArray w fun e w' => ∃ v, e = .returned v ∧ RR (fun b o => U b o ∨ w.heap.size ≤ b) w' r v ∧ Below w.heap.size w w'
def AFunVQ (P : Program) (q : (Nat → Nat → Prop) → World → Prop) (fc : CV) (args : List CV) (r : AV) : Prop := ∃ f n l, fc = .fn f n l ∧ AFunQ P q f (l.take n ++ (args ++ l.drop n)) r

section
variable {P : Program} {w0 : World} {U0 : UX} {nt : Nat} {ops : Array Oper} {o : Oper} {S : Nat → Option AV} {gs : List Nat} {d : Nat} {s : AS} {a : Act} {w : World} {D : Nat → Nat → Prop} {hv : Nat → Value} {q : (Nat → Nat → Prop) → World → Prop}
def MapQ (b g : Nat) (l : List CV) (U : Nat → Nat → Prop) (w : World) : Prop :=
  w.cell? ⟨b, 0, none⟩ = some (.map (some g)) ∧ ∃ es clock, w.heap[g]? = some (.map es clock) ∧ Ents U w l es.toList
theorem afunQ_of {f : FuncId} {fn : Func} {c : Code} {args rs : List CV} (hf : P.funcs[f]? = some fn) (hn : fn.ntmps = nt) (hname : (fn.name == "runtime.NumGoroutine") = false) (hb : fn.body = some c) (hl : Nat.ble args.length nt = true) (hnt : Nat.blt nt 100000 = true)
    (h : ∀ (w : World) (U : UX), Hw w w U → q U.m w → AWp P w U nt c (fun e s' => (e = .normal ∨ e = .ret) ∧ resO P s' fn.results.toList = some rs) (argS args 0)) : AFunQ P q f args (resAV rs) := by
  have hr2 : ((resAV rs).t = 0 ∨ (resAV rs).t = 4) ∧ (resAV rs).n = 0 := by
    unfold resAV
    split
    · exact ⟨.inl rfl, rfl⟩
    · exact ⟨.inr rfl, rfl⟩
  refine ⟨ent_of hf hname (by rw [hb]; rfl), hr2.1, hr2.2, fun U w vs hq hargs => ?_⟩
  have hlen := hargs.len
  refine calls_of_wp hf hb ?_
  have hle := Nat.le_of_ble_eq_true hl
  have hnt := bL hnt
  have hno : ∀ {k av}, 100000 ≤ k → look (argS args 0) k = some av → False := fun {k av} h1 h2 => by rw [argS_none (by omega)] at h2; cases h2
  obtain ⟨V, hV⟩ : ∃ V : UX, V = ⟨U, fun _ => False, fun _ => none, fun _ _ h => by cases h⟩ := ⟨_, rfl⟩
  have hs : Sim w V nt (argS args 0) { tmps := vs.toArray ++ Array.replicate (fn.ntmps - vs.toArray.size) undef, defers := [] } w := by
    refine ⟨fun _ _ => False, fun _ => .slice none 0 0, BelowX.refl _ _, rfl, by simp [hn]; omega, fun d av h1 h2 => ?_, fun n o av h1 => (hno (by unfold fKey; omega) h1).elim, fun n o o' av av' h1 => (hno (by unfold fKey; omega) h1).elim, fun k av h1 h2 => (hno h2.1 h1).elim, fun k av g h1 h2 => (hno h2.1 h1).elim, fun k k' av av' g h1 h2 h3 => (hno h3.1 h1).elim, fun n g h1 => (by rw [hV] at h1; cases h1), fun b o hd => hd.elim⟩
    obtain ⟨_, c', h3, rfl⟩ := look_argS h1
    rw [Nat.sub_zero] at h3
    obtain ⟨v, h4, h5⟩ := hargs.at h3
    have hdl : d < vs.length := by
      rcases Nat.lt_or_ge d vs.length with h | h
      · exact h
      · rw [List.getElem?_eq_none h] at h4; cases h4
    refine ⟨v, ?_, avrep_val (h5.keep fun b o v hu hc => ⟨.inl ⟨World.block_lt_of_cell? w _ hc, by rw [hV]; exact ⟨hu, fun h => h⟩⟩, hc⟩)⟩
    rw [Array.getElem?_append_left (by simpa using hdl)]
    simpa using h4
  refine wp_mono ((h w V (by rw [hV]; exact ⟨fun _ => rfl, fun _ h => h⟩) (by rw [hV]; exact hq) ⟨none, []⟩ _ w hs).wp rfl (fun e a w ⟨s, _, h⟩ => h.df)) ?_
  rintro e a' w' ⟨s', ⟨h1, h2⟩, D, hv, h3⟩
  obtain ⟨v, h4, h5⟩ := res_run h3 h2
  have hR : RR (fun b o => U b o ∨ w.heap.size ≤ b) w' (resAV rs) v := by
    have hk : ∀ b o u, Us w V D b o → w'.cell? ⟨b, o, none⟩ = some u → (U b o ∨ w.heap.size ≤ b) ∧ w'.cell? ⟨b, o, none⟩ = some u := fun b o u hu hc => ⟨hu.imp (fun h => by rw [hV] at h; exact h.2.1) fun h => h.1, hc⟩
    unfold RR at h5 ⊢
    split
    · rename_i ht
      rw [if_pos ht] at h5
      obtain ⟨vs, h6, h7⟩ := h5
      exact ⟨vs, h6, h7.keep hk⟩
    · rename_i ht
      rw [if_neg ht] at h5
      exact h5.keep hk
  have hbw : Below w.heap.size w w' := h3.below.below (by rw [hV]; exact fun _ h => h)
  rcases h1 with rfl | rfl
  · exact ⟨h3.dfr, v, h4, v, rfl, hR, hbw⟩
  · exact ⟨h3.dfr, v, h4, v, rfl, hR, hbw⟩
end
end Go.Proofs.YtebhbnhijnpmcaaDoor
namespace Go.Proofs.YtebhbnhijnpmcaaDoor
open Go.RowKit
set_option linter.unusedVariables false
set_option linter.unusedSimpArgs false
def Tb (tb : Option (Nat × Obj)) (X : Nat → Prop) (w : World) : Prop := ∀ g x, tb = some (g, x) → ¬ X g ∧ w.heap[g]? = some x
theorem Tb.none {X : Nat → Prop} {w : World} : Tb none X w := fun g x h => by cases h
theorem Tb.lt {tb : Option (Nat × Obj)} {X : Nat → Prop} {w : World} (h : Tb tb X w) {g : Nat} {x : Obj} (e : tb = some (g, x)) : g < w.heap.size := by
  have := (h g x e).2
  rcases Nat.lt_or_ge g w.heap.size with h1 | h1
  · exact h1
  · rw [Array.getElem?_eq_none h1] at this; cases this
abbrev AFunT (P : Program) (tb : Option (Nat × Obj)) (f : FuncId) (args : List CV) (r : AV) : Prop := AFunQ P (fun _ w => Tb tb (fun _ => False) w) f args r
theorem AFunT.plain {P : Program} {W : World} {f : FuncId} {args : List CV} {r : AV} (h : AFunT P none f args r) : AFun P W f args r := ⟨h.1, h.2.1, h.2.2.1, fun U w vs _ hv => h.2.2.2 U w vs Tb.none hv⟩
def AFunOT (P : Program) (tb : Option (Nat × Obj)) (f : FuncId) (pre : AS) (args : List AV) (r : AV) (post : AS) : Prop :=
  EntF P f ∧ ∀ (U : UX) (w : World) (hv : Nat → Value) (a0 : Act) (vs : List Value), Tb tb U.x w → (∀ k v, U.f k = some v → hasN (kO pre) k = true) → SimG w U 0 pre a0 w (fun _ _ => False) hv → AVReps (Us w U (fun _ _ => False)) w hv (LiveN pre) args vs →
    Calls P f vs.toArray w fun e w' => ∃ v D' hv' a', e = .returned v ∧ SimG w U 0 post a' w' D' hv' ∧ AVRep (Us w U D') w' hv' (LiveN post) r v

section
variable {P : Program} {tb : Option (Nat × Obj)} {w0 : World} {U0 : UX} {nt : Nat} {ops : Array Oper} {o : Oper} {S : Nat → Option AV} {gs : List Nat} {d : Nat} {s : AS} {a : Act} {w : World} {D : Nat → Nat → Prop} {hv : Nat → Value}
theorem Tb.on (hT : Tb tb U0.x w0) (h : SimG w0 U0 nt s a w D hv) : Tb tb (fun _ => False) w := fun g x e => by
  obtain ⟨h1, h2⟩ := hT g x e
  exact ⟨id, by rw [h.below.block g (hT.lt e) h1]; exact h2⟩
theorem Tb.lend (hT : Tb tb U0.x w0) (h : SimG w0 U0 nt s a w D hv) {pre : AS} (hp : Sub s pre) (hl : pre.all lendB = true) {V : UX} (hVx : ∀ b, V.x b ↔ ∃ k av, look pre k = some av ∧ oKey k ∧ hb (hv k) = some b) : Tb tb V.x w := fun g x e => by
  refine ⟨fun hx => ?_, (hT.on h g x e).2⟩
  obtain ⟨k, av, h1, h2, h3⟩ := (hVx g).1 hx
  have h4 := all_look hl h1
  have ht7 : av.t ≠ 7 := fun e7 => by
    unfold oKey at h2
    unfold lendB at h4
    have h5 : Nat.ble 500000 k = false := by
      cases e : Nat.ble 500000 k with
      | false => rfl
      | true => have := Nat.le_of_ble_eq_true e; omega
    simp only [h5, e7, Bool.and_eq_true, Bool.not_eq_true'] at h4
    exact absurd h4.1.2 (by decide)
  obtain ⟨f1, _⟩ := h.blk k av g (hp _ _ h1) h2 ht7 h3
  have hlt := hT.lt e
  rcases f1 with f1 | f1
  · omega
  · exact (hT g x e).1 f1.2
theorem Tb.of {W : World} (hW : Hw W w0 U0) (hq : Tb tb (fun _ => False) w0) : Tb tb U0.x w0 := fun g x e => ⟨hW.2 g, (hq g x e).2⟩
theorem a_callT (hT : Tb tb U0.x w0) {f : FuncId} {xs : Array Operand} {ts : Array TypeId} {cs : List CV} {r : AV} (hg : Gd w0 U0 nt ops o gs S) (hd : o.dst = some d) (hn : Nat.blt d nt = true) (h5 : Nat.blt d 100000 = true)
    (ho : o.op = .call { callee := .value (.func f), args := xs, argTypes := ts }) (hx : evsO S xs.toList = some cs) (hc : AFunT P tb f cs r) : AOp P w0 U0 nt ops o (gs ++ rdl xs.toList) [] S [(d, r)] := by
  intro s hs _ a w ⟨D, hv, h⟩ Q K hK
  rw [if_pos (hg s (fun k hk => hs k (List.mem_append_left _ hk)) a w D hv h)]
  have hargs := evsO_rep h (fun k hk => hs k (List.mem_append_right _ hk)) hx
  obtain ⟨h1, h2, h3, h4⟩ := hc
  have hcall := h4 _ w _ (hT.on h) hargs
  have he : (execOp a.eval o).run P w = .ok (.enter f (xs.toList.map a.eval).toArray) w := by
    have hf : a.eval (.func f) = .func (.func f) #[] #[] := rfl
    have hen := h1 (xs.map a.eval) w
    have harr : (xs.toList.map a.eval).toArray = xs.map a.eval := by apply Array.ext'; simp
    rw [harr]
    generalize a.eval = ρ at hf hen ⊢
    simp [execOp, ho, resolve, invoke, Deferred.ofValue, hf, hen]
  unfold Oper.wp
  rw [he, Oper.upon_enter]
  refine hcall.mono ?_
  rintro e w' ⟨v, rfl, h6, h7⟩
  rw [hd]
  refine hK _ _ ⟨Dn D w w', hv, (h.growN h7).put (bL hn) (bL h5) (avrep_rr h2 h3 (us_of_rr rfl h7.size h.below.size h6))⟩
theorem a_callOT (hT : Tb tb U0.x w0) {f : FuncId} {xs : Array Operand} {ts : Array TypeId} {avs : List AV} {r : AV} {pre post : AS} (hg : Gd w0 U0 nt ops o gs S) (hd : o.dst = some d) (hn : Nat.blt d nt = true) (h5 : Nat.blt d 100000 = true)
    (ho : o.op = .call { callee := .value (.func f), args := xs, argTypes := ts }) (hx : evsA S xs.toList = some avs) (hc : AFunOT P tb f pre avs r post) (hp : SubS S pre) (hl : pre.all lendB = true) (hq : post.all (leaveB (kO post)) = true) (hks : (kO pre).all (hasN (kO post)) = true) (hr : refB (kO post) r = true) (hnb : ∀ k v, U0.f k = some v → hasN (kO post) k = true → hasN (kO pre) k = true) :
    AOp P w0 U0 nt ops o (gs ++ (rdl xs.toList ++ kO pre)) (newN (kO pre) (kO post) (kO post)) S ((d, r) :: post) := by
  intro s hs hN a w ⟨D, hv, h⟩ Q K hK
  rw [if_pos (hg s (fun k hk => hs k (List.mem_append_left _ hk)) a w D hv h)]
  have hargs := evsA_rep h (fun k hk => hs k (List.mem_append_right _ (List.mem_append_left _ hk))) hx
  have hsub : Sub s pre := fun k av h1 => (hs k (List.mem_append_right _ (List.mem_append_right _ (mem_keys h1)))).trans (hp.look h1)
  obtain ⟨V, v1, v2, v3, v4, v5, v6⟩ := h.lend hsub hl
  obtain ⟨h1, h2⟩ := hc
  have hcall := h2 V w hv ⟨#[], []⟩ _ (hT.lend h hsub hl v3) v1 v2 (hargs.imp fun c _ v hcv => hcv.move v6 (fun _ h3 => h3.imp id fun ⟨e, he⟩ => ⟨e, hsub _ _ he.1, he.2⟩) fun _ => rfl)
  have he : (execOp a.eval o).run P w = .ok (.enter f (xs.toList.map a.eval).toArray) w := by
    have hf : a.eval (.func f) = .func (.func f) #[] #[] := rfl
    have hen := h1 (xs.map a.eval) w
    have harr : (xs.toList.map a.eval).toArray = xs.map a.eval := by apply Array.ext'; simp
    rw [harr]
    generalize a.eval = ρ at hf hen ⊢
    simp [execOp, ho, resolve, invoke, Deferred.ofValue, hf, hen]
  unfold Oper.wp
  rw [he, Oper.upon_enter]
  refine hcall.mono ?_
  rintro e w' ⟨v, D', hv', a', rfl, h6, h7⟩
  rw [hd]
  obtain ⟨D2, hv2, h8, h9⟩ := h.back hsub hl hq hks hN hnb v3 v4 v5 v2 h6
  exact hK _ _ ⟨D2, hv2, h8.put (bL hn) (bL h5) (h9.1 r v hr h7)⟩

theorem afunOT_of {f : FuncId} {fn : Func} {c : Code} {pre post : AS} {args : List AV} {r : AV} (hf : P.funcs[f]? = some fn) (hn : fn.ntmps = nt) (hname : (fn.name == "runtime.NumGoroutine") = false) (hb : fn.body = some c) (hl : Nat.ble args.length nt = true) (hnt : Nat.blt nt 100000 = true) (hpre : (kO pre).all (Nat.ble 100000) = true) (hpost : (kO post).all (Nat.ble 100000) = true)
    (h : ∀ (w : World) (U : UX), (∀ k v, U.f k = some v → hasN (kO pre) k = true) → Tb tb U.x w → AWp P w U nt c (fun e s' => (e = .normal ∨ e = .ret) ∧ EndO P w U nt fn s' r post) (argA args 0 ++ pre)) : AFunOT P tb f pre args r post := by
  refine ⟨ent_of hf hname (by rw [hb]; rfl), fun U w hv a0 vs hT hU hpS hargs => ?_⟩
  have hlen := hargs.len
  refine calls_of_wp hf hb ?_
  have hle := Nat.le_of_ble_eq_true hl
  have hnt := bL hnt
  have hlow : ∀ {k av}, look pre k = some av → 100000 ≤ k := fun {k av} h1 => by
    rw [List.all_eq_true] at hpre
    exact Nat.le_of_ble_eq_true (hpre k (mem_keys h1))
  have hlk : ∀ {k}, 100000 ≤ k → look (argA args 0 ++ pre) k = look pre k := fun {k} h1 => by
    rw [look_append]
    cases h2 : look (argA args 0) k with
    | none => rfl
    | some av =>
      obtain ⟨_, h3⟩ := look_argA h2
      rw [Nat.sub_zero, List.getElem?_eq_none (by omega)] at h3
      cases h3
  have hlive : LiveN (argA args 0 ++ pre) = LiveN pre := by
    funext n
    unfold LiveN Live
    apply propext
    constructor
    · rintro (h1 | ⟨e, h1, h2, h3⟩)
      · exact .inl h1
      · rw [hlk (by omega)] at h1; exact .inr ⟨e, h1, h2, h3⟩
    · rintro (h1 | ⟨e, h1, h2, h3⟩)
      · exact .inl h1
      · exact .inr ⟨e, by rw [hlk (by omega)]; exact h1, h2, h3⟩
  have hs : Sim w U nt (argA args 0 ++ pre) { tmps := vs.toArray ++ Array.replicate (fn.ntmps - vs.toArray.size) undef, defers := [] } w := by
    refine ⟨fun _ _ => False, hv, hpS.below, rfl, by simp [hn]; omega, fun d av h1 h2 => ?_, fun n o av h1 h2 h3 h4 => ?_, fun n o o' av av' h1 h2 => ?_, fun k av h1 h2 => ?_, fun k av g h1 h2 => ?_, fun k k' av av' g h1 h2 h3 h4 => ?_, hpS.fix, fun b o hd => hd.elim⟩
    · rw [look_append] at h1
      cases h3 : look (argA args 0) d with
      | none =>
        rw [h3] at h1
        have := hlow h1
        omega
      | some av' =>
        rw [h3] at h1
        cases h1
        obtain ⟨_, h4⟩ := look_argA h3
        rw [Nat.sub_zero] at h4
        obtain ⟨v, h6, h7⟩ := hargs.at h4
        have hdl : d < vs.length := by
          rcases Nat.lt_or_ge d vs.length with h | h
          · exact h
          · rw [List.getElem?_eq_none h] at h6; cases h6
        rw [hlive]
        refine ⟨v, ?_, h7⟩
        rw [Array.getElem?_append_left (by simpa using hdl)]
        simpa using h6
    · rw [hlk (by unfold fKey; omega)] at h1
      rw [hlk (by omega)] at h3
      rw [hlive]
      exact hpS.fld n o av h1 h2 h3 h4
    · rw [hlk (by unfold fKey; omega)] at h1 h2
      exact hpS.fdis n o o' av av' h1 h2
    · rw [hlk h2.1] at h1; rw [hlive]; exact hpS.obj k av h1 h2
    · rw [hlk h2.1] at h1; exact hpS.blk k av g h1 h2
    · rw [hlk h3.1] at h1; rw [hlk h4.1] at h2; exact hpS.disj k k' av av' g h1 h2 h3 h4
  refine wp_mono ((h w U hU hT ⟨none, []⟩ _ w hs).wp rfl (fun e a w ⟨s, _, h⟩ => h.df)) ?_
  rintro e a' w' ⟨s', ⟨h1, s2, g1, g2, g3⟩, h3⟩
  obtain ⟨D', hv', h4⟩ := g1 a' w' h3
  obtain ⟨v, h5, h6⟩ := resA_run h4 g2
  have hS := h4.sub g3.sub
  have hlow2 : ∀ {k av}, look post k = some av → 100000 ≤ k := fun {k av} h1 => by
    rw [List.all_eq_true] at hpost
    exact Nat.le_of_ble_eq_true (hpost k (mem_keys h1))
  have hS0 : SimG w U 0 post ⟨#[], []⟩ w' D' hv' := ⟨hS.below, rfl, rfl, fun d av h7 h8 => by have := hlow2 h7; omega, hS.fld, hS.fdis, hS.obj, hS.blk, hS.disj, hS.fix, hS.dlt⟩
  rcases h1 with rfl | rfl
  · exact ⟨h4.dfr, v, h5, v, D', hv', _, rfl, hS0, h6.move (fun _ _ _ h1 h2 => ⟨h1, h2⟩) (fun _ h7 => h7.imp id fun ⟨e, he⟩ => ⟨e, g3.sub _ _ he.1, he.2⟩) fun _ => rfl⟩
  · exact ⟨h4.dfr, v, h5, v, D', hv', _, rfl, hS0, h6.move (fun _ _ _ h1 h2 => ⟨h1, h2⟩) (fun _ h7 => h7.imp id fun ⟨e, he⟩ => ⟨e, g3.sub _ _ he.1, he.2⟩) fun _ => rfl⟩
end
section
variable {P : Program} {w0 : World} {U0 : UX} {nt : Nat} {ops : Array Oper} {o : Oper} {S : Nat → Option AV} {gs : List Nat} {d : Nat} {s : AS} {a : Act} {w : World} {D : Nat → Nat → Prop} {hv : Nat → Value}

theorem SimG.turn (h : SimG w0 U0 nt s a w D hv) {k0 : Nat} (h5 : oKey k0) {av0 av : AV} (h0 : look s k0 = some av0) (ht0 : av0.t ≠ 7) (hk3 : 300000 ≤ k0) (hne9 : av ≠ .obj) (ht6' : av0.t ≠ 6) (ht6 : av.t ≠ 6) {g : Nat} (hg : hb (hv k0) = some g) {w' : World} (hos : w'.os = w.os) (htp : w'.tape = w.tape) (hou : w'.output = w.output) (hsize : w'.heap.size = w.heap.size) (hoth : ∀ k, k ≠ g → w'.heap[k]? = w.heap[k]?) (hoc : (∀ b o v, Us w0 U0 D b o → w.cell? ⟨b, o, none⟩ = some v → Us w0 U0 D b o ∧ w'.cell? ⟨b, o, none⟩ = some v) → OC (Us w0 U0 D) w' hv (LiveN s) av (hv k0)) :
    SimG w0 U0 nt ((k0, av) :: s) a w' D hv := by
  obtain ⟨hbase, hlt0, hD⟩ := h.blk k0 av0 g h0 h5 ht0 hg
  have h5' := h5
  unfold oKey at h5'
  have hD' : ∀ o, ¬ D g o := fun o => hD o fun e => absurd e ht6'
  have hl : ∀ n e, Live ((k0, av) :: s) n e ↔ Live s n e := fun n e => by
    unfold Live
    by_cases e1 : k0 = n
    · subst e1
      rw [lS, h0]
      constructor
      · rintro ⟨h1, _⟩; cases h1; exact absurd rfl ht6
      · rintro ⟨h1, _⟩; cases h1; exact absurd rfl ht6'
    · rw [lN e1]
  have hl2 : LiveN ((k0, av) :: s) = LiveN s := by funext k; simp only [LiveN, hl]
  have hkeep : ∀ b o v, Us w0 U0 D b o → w.cell? ⟨b, o, none⟩ = some v → Us w0 U0 D b o ∧ w'.cell? ⟨b, o, none⟩ = some v := fun b o v hu hc => by
    refine ⟨hu, ?_⟩
    rw [World.cell?_of_block (w := w) (hoth b (us_ne hu hbase (hD' o)))]
    exact hc
  refine ⟨⟨hos.trans h.below.os, htp.trans h.below.tape, hou.trans h.below.output, by rw [hsize]; exact h.below.size, fun k hk hkx => ?_⟩, h.dfr, h.size, fun d av' h1 h2 => ?_, fun n o av' h1 h2 h3 h10 => ?_, fun n o o' av1 av2 h1 h2 => ?_, fun k av' h1 h2 => ?_, fun k av' g' h1 h2 h3 h4 => ?_, fun k k' av1 av2 g' h1 h2 h3 h4 h6 h7 hne => ?_, h.fix, fun b o hd => ?_⟩
  · rw [hoth k]
    · exact h.below.block k hk hkx
    · rintro rfl
      rcases hbase with h1 | h1
      · omega
      · exact hkx h1.2
  · rw [lN (by omega)] at h1
    rw [hl2]
    obtain ⟨v, h3, h4⟩ := h.slot d av' h1 h2
    exact ⟨v, h3, h4.keep hkeep⟩
  · rw [lN (by unfold fKey; omega)] at h1
    have hne : k0 ≠ 100000 + n := fun e => by subst e; rw [lS] at h3; cases h3; exact hne9 rfl
    rw [lN hne] at h3
    rw [hl2]
    obtain ⟨v, h4, h6, h7⟩ := h.fld n o av' h1 h2 h3 h10
    refine ⟨v, h4.keep hkeep, h6, fun i hi => ?_⟩
    have hng : blkOf (hv (100000 + n)) ≠ g := by
      rintro e
      obtain ⟨g2, ys, ty2, e1, e2, e3⟩ := h.obj9 h3 h10
      have : hb (hv (100000 + n)) = some g := by rw [e1]; rw [e2] at e; rw [← e]; rfl
      exact h.disj k0 (100000 + n) av0 _ g h0 h3 h5 (bn_okey h10) ht0 (by simp) hne hg this
    rw [World.cell?_of_block (w := w) (hoth _ hng)]
    exact h7 i hi
  · rw [lN (by unfold fKey; omega)] at h1 h2
    exact h.fdis n o o' av1 av2 h1 h2
  · rw [hl2]
    by_cases e : k0 = k
    · subst e
      rw [lS] at h1
      cases h1
      exact hoc hkeep
    · rw [lN e] at h1
      by_cases h7 : av'.t = 7
      · exact oc_no h7
      · exact (h.obj k av' h1 h2).move hkeep (fun _ hl => ⟨hl, rfl⟩) fun g' hg' => hoth g' fun e2 => h.disj k0 k av0 av' g h0 h1 h5 h2 ht0 h7 e hg (e2 ▸ hg')
  · rw [hsize]
    by_cases e : k0 = k
    · subst e
      rw [lS] at h1
      cases h1
      obtain ⟨g1, g2, g3⟩ := h.blk k0 av0 g' h0 h5 ht0 h4
      rw [lcl_row hk3] at g1 ⊢
      exact ⟨g1.imp id fun e => ⟨ht6, e.2⟩, g2, fun o _ => g3 o fun e => absurd e ht6'⟩
    · rw [lN e] at h1
      exact h.blk k av' g' h1 h2 h3 h4
  · have conv : ∀ q (aq : AV), look ((k0, av) :: s) q = some aq → aq.t ≠ 7 → ∃ aq', look s q = some aq' ∧ aq'.t ≠ 7 := fun q aq h8 h9 => by
      by_cases e : k0 = q
      · exact ⟨av0, by rw [← e]; exact h0, ht0⟩
      · rw [lN e] at h8; exact ⟨aq, h8, h9⟩
    obtain ⟨a1, b1, c1⟩ := conv k av1 h1 h6
    obtain ⟨a2, b2, c2⟩ := conv k' av2 h2 h7
    exact h.disj k k' a1 a2 g' b1 b2 h3 h4 c1 c2 hne
  · rw [hsize]; exact h.dlt b o hd
theorem SimG.addV (h : SimG w0 U0 nt s a w D hv) {n q : Nat} (hbn : BN n) (hob : look s (100000 + n) ≠ some .obj) (hq : q < 100) {av : AV} (ho : ∀ o av', look s (fKey n o) = some av' → o < 100 → (q < o → q + av.sz ≤ o) ∧ (o < q → o + av'.sz ≤ q)) : SimG w0 U0 nt ((fKey n q, av) :: s) a w D hv := by
  have hfk : ∀ {m o : Nat}, o < 100 → fKey m o = fKey n q → m = n ∧ o = q := fun {m o} ho e => by unfold fKey at e; omega
  have hlk : ∀ {k}, k ≠ fKey n q → look ((fKey n q, av) :: s) k = look s k := fun {k} hk => lN (Ne.symm hk)
  have hl : ∀ m e, Live ((fKey n q, av) :: s) m e ↔ Live s m e := fun m e => by
    unfold Live
    constructor
    · rintro ⟨g1, g2⟩; rw [hlk (by unfold fKey; omega)] at g1; exact ⟨g1, g2⟩
    · rintro ⟨g1, g2⟩; exact ⟨by rw [hlk (by unfold fKey; omega)]; exact g1, g2⟩
  have hl2 : LiveN ((fKey n q, av) :: s) = LiveN s := by funext k; simp only [LiveN, hl]
  refine ⟨h.below, h.dfr, h.size, fun d av' g1 g2 => ?_, fun m o av' g1 g2 g3 g4 => ?_, fun m o o' av1 av2 g1 g2 g3 g4 g5 => ?_, fun k av' g1 g2 => ?_, fun k av' g' g1 g2 g3 g4 => ?_, fun k k' av1 av2 g' g1 g2 g3 g4 => ?_, h.fix, h.dlt⟩
  · rw [hlk (by unfold fKey; omega)] at g1
    rw [hl2]
    exact h.slot d av' g1 g2
  · rw [hlk (by unfold fKey BN at *; omega)] at g3
    rw [hl2]
    by_cases e : fKey m o = fKey n q
    · obtain ⟨rfl, rfl⟩ := hfk g2 e
      rw [lS] at g1
      cases g1
      exact absurd g3 hob
    · rw [hlk e] at g1
      exact h.fld m o av' g1 g2 g3 g4
  · by_cases e1 : fKey m o = fKey n q
    · obtain ⟨rfl, rfl⟩ := hfk g3 e1
      rw [lS] at g1
      cases g1
      rw [hlk (by unfold fKey; omega)] at g2
      exact (ho o' av2 g2 g4).1 g5
    · rw [hlk e1] at g1
      by_cases e2 : fKey m o' = fKey n q
      · obtain ⟨rfl, rfl⟩ := hfk g4 e2
        exact (ho o av1 g1 g3).2 g5
      · rw [hlk e2] at g2
        exact h.fdis m o o' av1 av2 g1 g2 g3 g4 g5
  · have g2' := g2
    unfold oKey at g2'
    rw [hlk (by unfold fKey; omega)] at g1
    rw [hl2]
    exact h.obj k av' g1 g2
  · have g2' := g2
    unfold oKey at g2'
    rw [hlk (by unfold fKey; omega)] at g1
    exact h.blk k av' g' g1 g2 g3 g4
  · have g3' := g3
    have g4' := g4
    unfold oKey at g3' g4'
    rw [hlk (by unfold fKey; omega)] at g1 g2
    exact h.disj k k' av1 av2 g' g1 g2 g3 g4

abbrev u8v (b : UInt8) : CV := .sc (.int .u8 (b.toNat : Int))
theorem u8_rep {U : Nat → Nat → Prop} {w : World} : ∀ {l : List UInt8} {xs : List Value}, Sq ((l.map u8v).map fun c => Rep U w c) xs ↔ xs = Lib.byteCells l
  | [], xs => Iff.rfl
  | b :: l, xs => by
    constructor
    · rintro ⟨x, y, rfl, h1, h2⟩
      rw [u8_rep.1 h2]
      obtain ⟨rfl, _⟩ := rep_sc.1 h1
      rfl
    · rintro rfl
      exact ⟨[.int .u8 (b.toNat : Int)], Lib.byteCells l, rfl, rep_sc.2 ⟨rfl, rfl⟩, u8_rep.2 rfl⟩
theorem run_appS {t u ty e : TypeId} (ht : P.underlying t = some (.slice e)) (hu : P.underlying u = some .string) (hi : (P.info? e).map (fun i => (i.zero, i.size, i.bytes)) = some (some (.int .u8 0), 1, 1)) {v : Value} {n : Nat} {xs : List Value} (hown : w.ownsRow 0 e 1 v n xs) (sb : ByteArray) (hb : n + sb.size ≤ 140737488355328) :
    ∃ v' w', Sem.run P (Builtin.append_ #[t, u] ty #[v, .string sb]) w = .ok v' w' ∧ w'.ownsRow 0 e 1 v' (n + sb.size) (xs ++ Lib.strCells sb) ∧ w.grownBy w' v.ownBlock ∧ (v'.ownBlock = v.ownBlock ∨ (w.grownBy w' none ∧ ∀ g, v'.ownBlock = some g → w.heap.size ≤ g)) := by
  obtain ⟨i, i1, i2, i3, i4⟩ := info_parts hi
  have h63 : n + sb.size ≤ maxLen := by unfold maxLen; omega
  obtain ⟨v', w', r1, r2, r3, _⟩ := Lib.run_append_own_string (P := P) w 0 t u ty e i ht hu i1 i2 i3 i4 v n xs hown sb h63 hb (Nat.zero_le _)
  refine ⟨v', w', r1, r2, r3, ?_⟩
  rcases hown.2 with ⟨rfl, rfl⟩ | ⟨g, cap, cur, rfl, hbg, hg, hnc, hcm, hcs, htake⟩
  · have hx0 : xs = [] := List.eq_nil_of_length_eq_zero (by simpa using hown.1)
    subst hx0
    obtain ⟨v2, w2, q1, q2, q3, _⟩ := Lib.run_append_own_string (P := P) w w.heap.size t u ty e i ht hu i1 i2 i3 i4 (.slice none 0 0) 0 [] (World.ownsRow_nil w _ e 1) sb h63 hb (Nat.le_refl _)
    rw [r1] at q1
    injection q1 with q1 q1'
    subst q1
    subst q1'
    refine .inr ⟨r3, fun g hg => ?_⟩
    exact (q2.lt g hg).1
  · by_cases hroom : n + sb.size ≤ cap
    · have hcs' : cur.size = cap := by simpa using hcs
      have hr := Lib.run_append_room_string (P := P) w t u ty e i ht hu i1 i3 g n cap cur hg sb hroom (by omega)
      rw [r1] at hr
      injection hr with hr hr'
      subst hr
      exact .inl rfl
    · have hxl : xs.length = n := by simpa using hown.1
      have holds : ∀ j u, xs[j]? = some u → w.cell? ((⟨g, 0, none⟩ : Addr).add j) = some u := hown.cells (g := g) rfl
      have hr := Lib.run_append_grow_string (P := P) w t u ty e i (.int .u8 0) ht hu i1 i2 ⟨g, 0, none⟩ n cap xs (by rw [i3]; simpa using hxl) holds sb (by omega) (by omega) (by rw [i4]; exact growslice_fits (by omega) (by omega))
      rw [r1] at hr
      injection hr with hr hr'
      subst hr
      subst hr'
      exact .inr ⟨⟨rfl, rfl, rfl, by simp, fun k hk _ => heap_alloc_old w.drew _ hk⟩, fun g' hg' => by cases hg'; exact Nat.le_refl _⟩
theorem a_appS (nn : Nat) (hg : Gd w0 U0 nt ops o gs S) (hd : o.dst = some d) (hn : Nat.blt d nt = true) (h5 : Nat.blt d 100000 = true) {x y : Operand} {t u e : Nat} {l l2 : List UInt8} {n len n2 q2 p2} (ho : o.op = .call { callee := .builtin .append, args := #[x, y], argTypes := #[t, u] }) (ht : P.underlying t = some (.slice e)) (hu : P.underlying u = some .string) (hi : (P.info? e).map (fun i => (i.zero, i.size, i.bytes)) = some (some (.int .u8 0), 1, 1))
    (hx : ev S x = some (.sl n 0 len 1)) (hy : ev S y = some ⟨0, sv l2, n2, q2, p2⟩) (hn2 : (Nat.ble 200000 nn && Nat.blt nn 400000) = true) (hne : (!Nat.beq n nn && (Nat.blt n 300000 || Nat.ble 300000 nn)) = true) (hlv : S n = some (.mrow e 1 (l.map u8v))) (hlen : len = l.length) (hbd : l.length + l2.length ≤ 100000000000) :
    AOp P w0 U0 nt ops o (gs ++ (rd x ++ (rd y ++ [n]))) [(nn, [])] S [(d, .sl nn 0 (l ++ l2).length 1), (nn, .mrow e 1 ((l ++ l2).map u8v)), (n, .no)] := by
  intro s hs hN a w ⟨D, hv, h⟩ Q K hK
  rw [if_pos (hg s (fun k hk => hs k (List.mem_append_left _ hk)) a w D hv h)]
  obtain ⟨hrn, hsl⟩ : RN n ∧ SlV (hv n) 0 len 1 (a.eval x) := ev_rep h (fun k hk => hs k (List.mem_append_right _ (List.mem_append_left _ hk))) hx
  have hyv := ev_sc h (fun k hk => hs k (List.mem_append_right _ (List.mem_append_right _ (List.mem_append_left _ hk)))) hy
  have hrn2 := rnB hn2
  have hrn' := hrn
  unfold RN at hrn'
  have hok : oKey n := ⟨by omega, by omega⟩
  have hlk := (hs n (by simp)).trans hlv
  obtain ⟨xs, g1, g2, g3, g4⟩ := h.mrow hlk hrn
  have hxs : xs = Lib.byteCells l := u8_rep.1 g4
  subst hxs
  rw [List.length_map] at g1
  have hval : a.eval x = hv n := by
    obtain ⟨ao, m, cap, ao', e1, e2, e3, e4, _⟩ := hsl
    obtain ⟨ao2, cap2, f1, f2, f3⟩ := own_addr g1
    rw [f1] at e1 ⊢
    injection e1 with e5 e6 e7
    subst e5; subst e6; subst e7
    rw [e2, e4 rfl, hlen]; rfl
  have hvs : hb (hv n) = (hv n).ownBlock := by
    rcases g1.2 with ⟨e1, e2⟩ | ⟨g, cap, cur, e1, _⟩
    · rw [e1]; rfl
    · rw [e1]; rfl
  rw [Bool.and_eq_true, Bool.or_eq_true] at hne
  have hne' : n ≠ nn := fun e => by rw [e, Nat.beq_refl] at hne; exact absurd hne.1 (by decide)
  have hroom : ∀ g, (hv n).ownBlock = some g → Mn w0 U0 (lcl nn (.mrow e 1 ((l ++ l2).map u8v))) g ∧ (∀ o, ¬ D g o) ∧ ∀ q av, look ((n, AV.no) :: s) q = some av → oKey q → av.t ≠ 7 → q ≠ nn → hb (hv q) ≠ some g := fun g hg => by
    rw [← hvs] at hg
    obtain ⟨f1, f2, f3⟩ := h.blk n _ g hlk hok (by simp) hg
    refine ⟨?_, fun o => f3 o (fun e => by cases e), fun q av h6 h7 h8 h9 => ?_⟩
    · rcases f1 with f1 | f1
      · exact .inl f1
      · rcases hne.2 with h6 | h6
        · rw [lcl_own (bL h6)] at f1; exact absurd rfl f1.1
        · exact .inr ⟨by rw [lcl_row (Nat.le_of_ble_eq_true h6)]; simp, f1.2⟩
    · have hq : n ≠ q := fun e => by subst e; rw [lS] at h6; cases h6; exact h8 rfl
      rw [lN hq] at h6
      exact h.disj n q _ av g hlk h6 hok h7 (by simp) h8 hq hg
  have hK2 := h.kill hok
  have hr : NoRef ((n, AV.no) :: s) nn := fun k av hk => by
    by_cases e : n = k
    · subst e
      rw [lS] at hk
      cases hk
      refine ⟨by show 0 ≠ _; omega, ?_⟩
      have hfn : fnm n = 100000 := by
        unfold fnm
        have : Nat.ble 500000 n = false := by
          cases hb : Nat.ble 500000 n with
          | false => rfl
          | true => have := Nat.le_of_ble_eq_true hb; omega
        rw [this]
      rw [hfn]
      omega
    · rw [lN e] at hk; exact (hN (nn, []) (by simp)).nr k av hk
  obtain ⟨v', w', r1, r2, r3, r4⟩ := run_appS (P := P) (ty := o.type) ht hu hi g1 ⟨l2.toArray⟩ (by rw [ba_size]; omega)
  have hsc : Lib.byteCells l ++ Lib.strCells ⟨l2.toArray⟩ = Lib.byteCells (l ++ l2) := by simp [Lib.byteCells, Lib.strCells]
  rw [hsc, ba_size, ← List.length_append] at r2
  have hb2 : hb v' = v'.ownBlock := by
    rcases r2.2 with ⟨rfl, _⟩ | ⟨g, cap, cur, rfl, _⟩ <;> rfl
  have hkp : ∀ b o u, Us w0 U0 D b o → w.cell? ⟨b, o, none⟩ = some u → Us w0 U0 D b o ∧ w'.cell? ⟨b, o, none⟩ = some u := fun b o u hu hc => by
    refine ⟨hu, ?_⟩
    have hlt : b < w.heap.size := World.block_lt_of_cell? w _ hc
    have hnb : some b ≠ (hv n).ownBlock := fun e => by
      obtain ⟨f1, f2, _⟩ := hroom b e.symm
      exact us_ne hu f1 (f2 o) rfl
    rw [World.cell?_of_block (w := w) (r3.block b hlt hnb)]
    exact hc
  have hG := hK2.newrow (avn := .mrow e 1 ((l ++ l2).map u8v)) (v' := v') (D' := D) (X := fun b => (hv n).ownBlock = some b) hrn2 hr (by simp) ⟨r3.os, r3.tape, r3.output, r3.size, fun b hb hx => r3.block b hb fun e => hx e.symm⟩ (fun b hb => ⟨(hroom b hb).1, (hroom b hb).2.2⟩) (fun g hg => by
      rw [hb2] at hg
      refine ⟨?_, (r2.lt g hg).2, fun o _ hd => ?_⟩
      · rcases r4 with r4 | ⟨_, r4⟩
        · exact .inl (r4 ▸ hg)
        · exact .inr (r4 g hg)
      · rcases r4 with r4 | ⟨_, r4⟩
        · exact (hroom g (r4 ▸ hg)).2.1 o hd
        · have := r4 g hg
          have := h.dlt _ _ hd
          omega) (fun b o hd => .inl hd) (fun b o hd => Nat.lt_of_lt_of_le (h.dlt _ _ hd) r3.size) hkp (fun hv lv => by
      refine ⟨Lib.byteCells (l ++ l2), ?_, Nat.one_pos, fun c hc => ?_, u8_rep.2 rfl⟩
      · show w'.ownsRow 0 e 1 v' ((l ++ l2).map u8v).length _
        rw [List.length_map]
        exact r2
      · obtain ⟨b, _, rfl⟩ := List.mem_map.1 hc
        rfl)
  have he : (execOp a.eval o).run P w = .ok (.value v') w' := by
    rw [← hval] at r1
    generalize a.eval = ρ at r1 hyv ⊢
    simp [execOp, ho, resolve, invoke, builtin, hyv, r1, Result.andThen]
  unfold Oper.wp
  rw [he, Oper.upon_value, hd]
  refine hK _ _ ⟨_, _, hG.put (bL hn) (bL h5) ?_⟩
  refine ⟨RW.rn hrn2, ?_⟩
  obtain ⟨a1, c1, e1, e2, e3⟩ := own_addr r2
  have := slV_all (z := 1) e1 e2 e3
  show SlV ((fun x => if x = nn then v' else hv x) nn) 0 (l ++ l2).length 1 v'
  simp only [if_true]
  exact this
end
section
variable {P : Program} {w0 : World} {U0 : UX} {nt : Nat} {ops : Array Oper} {o : Oper} {S : Nat → Option AV} {gs : List Nat} {d : Nat} {s : AS} {a : Act} {w : World} {D : Nat → Nat → Prop} {hv : Nat → Value}

theorem a_buildW (hg : Gd w0 U0 nt ops o gs S) (hd : o.dst = some d) (hn : Nat.blt d nt = true) (h5 : Nat.blt d 100000 = true) {t : TypeId} {x : Operand} {fs : Array Field} {it : TypeInfo} {l : List CV} {n0 q0 : Nat} {p0 : List Nat} (ho : o.op = .build t #[(0, x)]) (hu : P.underlying t = some (.struct fs)) (hi : P.info? t = some it) (hz : it.zero = some (.agg #[.slice none 0 0, .pointer none, .slice none 0 0])) (hsz : szO P fs.toList 0 = some [1, 2]) (hx : ev S x = some ⟨0, .lst l, n0, q0, p0⟩) :
    AOp P w0 U0 nt ops o (gs ++ rd x) [] S [(d, ⟨0, .row [.lst l, .row [.sc (.pointer none), .lst []]], 1, 0, [1, 1]⟩)] :=
  aop_val hg hd hn h5 (fun k hk => List.mem_append_left _ hk) fun s hs a w D hv hm => by
    have h1 := ev_val hm (fun k hk => hs k (List.mem_append_right _ hk)) hx
    obtain ⟨ao, k, c, e1, e2, e3⟩ := vrep_lst.1 h1
    obtain ⟨pl, q1, q2⟩ := szO_spec hsz
    obtain ⟨segs, hsegs⟩ : ∃ segs : List (List Value), segs = [[.slice none 0 0], [.pointer none, .slice none 0 0]] := ⟨_, rfl⟩
    have hcells : (a.eval x).cells.toList = [a.eval x] := by rw [e1]; rfl
    have hfill := fill_segs (place := fun i => pl.toArray[i]?) [1, 2] (fun i z hz => by rw [List.getElem?_toArray, q2 i z hz, Nat.zero_add]) [(0, a.eval x)] segs #[.slice none 0 0, .pointer none, .slice none 0 0] (by rw [hsegs]; rfl) (by rw [hsegs]; rfl) (fun y hy => by
      rw [List.mem_singleton.1 hy]
      show ([1, 2] : List Nat)[0]? = some (a.eval x).cells.size
      rw [e1]; rfl)
    have hset : (setAll segs [(0, a.eval x)]).flatten = [a.eval x, .pointer none, .slice none 0 0] := by
      rw [hsegs]
      show ((setAll _ _).flatten) = _
      simp [setAll, hcells]
    rw [hset] at hfill
    refine ⟨.agg [a.eval x, .pointer none, .slice none 0 0].toArray, ?_, ?_⟩
    · have hb : P.built t [(0, a.eval x)] = some [a.eval x, .pointer none, .slice none 0 0].toArray := by
        unfold Program.built
        rw [hi, hu]
        simp only [hz, q1]
        exact hfill
      have := run_build w t _ _ hb
      generalize a.eval = ρ at this ⊢
      simp [execOp, ho, this]
    · refine ⟨vrep_row.2 ⟨_, rfl, [a.eval x], [.pointer none, .slice none 0 0], rfl, ?_, [.pointer none, .slice none 0 0], [], rfl, ?_, rfl⟩, fun _ => ⟨2, .lst [], rfl, rfl⟩⟩
      · exact rep_lst.2 ⟨ao, k, c, by rw [e1], e2, e3⟩
      · refine rep_row.2 ?_
        exact ⟨[.pointer none], [.slice none 0 0], rfl, rep_sc.2 ⟨rfl, rfl⟩, [.slice none 0 0], [], rfl, rep_nil _ _, rfl⟩
theorem fnm_low {k : Nat} (h : k < 500000) : fnm k = 100000 := by
  unfold fnm
  have : Nat.ble 500000 k = false := by
    cases hb : Nat.ble 500000 k with
    | false => rfl
    | true => have := Nat.le_of_ble_eq_true hb; omega
  rw [this]
theorem a_allocW (hg : Gd w0 U0 nt ops o gs S) (hd : o.dst = some d) (hn : Nat.blt d nt = true) (h5 : Nat.blt d 100000 = true) {ty : TypeId} {it : TypeInfo} (ho : o.op = .alloc ty) (hi : P.info? ty = some it) (hz : it.zero = some (.agg #[.slice none 0 0, .pointer none, .slice none 0 0])) (hnf : ∀ v, U0.f 450001 = some v → False) : AOp P w0 U0 nt ops o gs [(350001, []), (300001, [])] S [(35500100, .val (.lst [])), (35500101, .bp 350001 1 []), (35500102, .sl 300001 0 0 1), (300001, .nmap), (450001, .wrt (.lst []) ty), (d, .bp 350001 0 []), (450001, .obj)] := by
  intro s hs hN a w ⟨D, hv, h⟩ Q K hK
  rw [if_pos (hg s hs a w D hv h)]
  have hd5 := bL h5
  have hbn : BN 350001 := .inr ⟨by omega, by omega⟩
  have he : (execOp a.eval o).run P w = .ok (.value (.pointer (some ⟨w.heap.size, 0, none⟩))) (w.alloc (.cells #[.slice none 0 0, .pointer none, .slice none 0 0] ty)) := by
    simp [execOp, ho, Instr.alloc, zeroValue, typeInfo, hi, hz, run_newVar, Value.cells]
  unfold Oper.wp
  rw [he, Oper.upon_value, hd]
  have hr := (hN (350001, []) (by simp)).nr
  have hr2 := (hN (300001, []) (by simp)).nr
  have hG := h.newboxN (d := d) (av := .obj) hbn hnf hr (bL hn) hd5 (.inr rfl) (xs := [.slice none 0 0, .pointer none, .slice none 0 0]) ty (fun e => by cases e) (fun e => by cases e)
  obtain ⟨hv1, hhv1⟩ : ∃ hv1 : Nat → Value, hv1 = fun k => if k = 100000 + 350001 then .pointer (some ⟨w.heap.size, 0, none⟩) else hv k := ⟨_, rfl⟩
  rw [← hhv1] at hG
  have hv450 : hv1 450001 = .pointer (some ⟨w.heap.size, 0, none⟩) := by rw [hhv1]; rfl
  have hG2 := hG.turn (k0 := 450001) (av := .wrt (.lst []) ty) (av0 := .obj) ⟨by omega, by omega⟩ (by rw [lN (by omega)]; exact lS _ _ _) (by simp) (by omega) (fun e => by cases e) (by simp) (by simp) (g := w.heap.size) (by rw [hv450]; rfl) rfl rfl rfl rfl (fun _ _ => rfl) (fun _ => by
    rw [hv450]
    exact ⟨⟨(fun e => by cases e), fun _ => ⟨w.heap.size, .slice none 0 0, rfl, alloc_new _ _, vrep_lst.2 ⟨none, 0, 0, rfl, rfl, Nat.le_refl _, by decide, fun _ => ⟨rfl, rfl⟩, [], .inl rfl, rfl⟩⟩⟩, (fun e => by cases e), (fun e => by cases e), (fun e => by cases e)⟩)
  have hnr : NoRef ((450001, AV.wrt (.lst []) ty) :: (d, AV.bp 350001 0 []) :: (100000 + 350001, AV.obj) :: s) 300001 := fun k av hk => by
    rw [look_cons] at hk
    split at hk
    · rename_i e; cases hk; subst e; rw [fnm_low (by omega)]; exact ⟨by simp, by omega, by omega⟩
    · rw [look_cons] at hk
      split at hk
      · rename_i e; cases hk; subst e; rw [fnm_low (by omega)]; exact ⟨by simp, by omega, by omega⟩
      · rw [look_cons] at hk
        split at hk
        · rename_i e; cases hk; subst e; rw [fnm_low (by omega)]; exact ⟨by simp, by omega, by omega⟩
        · exact hr2 k av hk
  have hG3 := hG2.newrow (n := 300001) (avn := .nmap) (v' := .map none) (D' := D) (X := fun _ => False) ⟨by omega, by omega⟩ hnr (fun e => by cases e) (BelowX.refl _ _) (fun b hb => hb.elim) (fun g hg => by cases hg) (fun b o hd => .inl hd) hG2.dlt (fun _ _ _ h1 h2 => ⟨h1, h2⟩) (fun hv lv => ⟨⟨fun _ => rfl, (fun e => by cases e)⟩, (fun e => by cases e), (fun e => by cases e), (fun e => by cases e)⟩)
  have hno : ∀ q av, q < 100 → look ((300001, AV.nmap) :: (450001, AV.wrt (.lst []) ty) :: (d, AV.bp 350001 0 []) :: (100000 + 350001, AV.obj) :: s) (fKey 350001 q) = some av → False := fun q av hq hk => by
    rw [lN (by unfold fKey; omega), lN (by unfold fKey; omega), lN (by unfold fKey; omega), lN (by unfold fKey; omega)] at hk
    have := (hr _ _ hk).2.1
    rw [fnm_key hq] at this
    exact this rfl
  have hnob : ∀ {t : AS}, look ((300001, AV.nmap) :: (450001, AV.wrt (.lst []) ty) :: t) (100000 + 350001) ≠ some .obj := fun {t} e => by
    rw [lN (by omega), lS] at e
    cases e
  have hG4 := hG3.addV (n := 350001) (q := 2) (av := .sl 300001 0 0 1) hbn hnob (by omega) (fun o av' h1 h2 => (hno o av' h2 h1).elim)
  have hG5 := hG4.addV (n := 350001) (q := 1) (av := .bp 350001 1 []) hbn (by rw [lN (by unfold fKey; omega)]; exact hnob) (by omega) (fun o av' h1 h2 => by
    rw [look_cons] at h1
    split at h1
    · rename_i e
      cases h1
      have : o = 2 := by unfold fKey at e; omega
      subst this
      exact ⟨fun _ => by show 1 + 1 ≤ 2; omega, fun h => by omega⟩
    · exact (hno o av' h2 h1).elim)
  have hG6 := hG5.addV (n := 350001) (q := 0) (av := .val (.lst [])) hbn (by rw [lN (by unfold fKey; omega), lN (by unfold fKey; omega)]; exact hnob) (by omega) (fun o av' h1 h2 => by
    rw [look_cons] at h1
    split at h1
    · rename_i e
      cases h1
      have : o = 1 := by unfold fKey at e; omega
      subst this
      exact ⟨fun _ => by show 0 + 1 ≤ 1; omega, fun h => by omega⟩
    · rw [look_cons] at h1
      split at h1
      · rename_i e
        cases h1
        have : o = 2 := by unfold fKey at e; omega
        subst this
        exact ⟨fun _ => by show 0 + 1 ≤ 2; omega, fun h => by omega⟩
      · exact (hno o av' h2 h1).elim)
  exact hK _ _ ⟨D, _, hG6⟩
theorem a_storeW (hg : Gd w0 U0 nt ops o gs S) (hd : o.dst = none) {x y : Operand} {ty : TypeId} {k' v' l'} {c0 : CV} {p : List Nat} {ty2 : TypeId} {l : List CV} (ho : o.op = .store ty x y) (hi : (P.info? ty).map (·.size) = some 3) (hx : ev S x = some ⟨2, ⟨k', v', l'⟩, 350001, 0, p⟩) (hb : S 450001 = some (.wrt c0 ty2)) (hf : S 35500100 = some (.val c0)) (hc0 : c0.size = 1) (hy : ev S y = some ⟨0, .row [.lst l, .row [.sc (.pointer none), .lst []]], 1, 0, [1, 1]⟩) : AOp P w0 U0 nt ops o (gs ++ (rd x ++ (rd y ++ [450001, 35500100]))) [] S [(35500100, .val (.lst l)), (450001, .wrt (.lst l) ty2)] := by
  intro s hs hN a w ⟨D, hv, h⟩ Q K hK
  rw [if_pos (hg s (fun k hk => hs k (List.mem_append_left _ hk)) a w D hv h)]
  obtain ⟨hbn, h1⟩ : BN 350001 ∧ a.eval x = .pointer (some ⟨blkOf (hv (100000 + 350001)), 0, none⟩) := ev_rep h (fun k hk => hs k (List.mem_append_right _ (List.mem_append_left _ hk))) hx
  obtain ⟨h2, h3⟩ : VRep (Us w0 U0 D) w (.row [.lst l, .row [.sc (.pointer none), .lst []]]) (a.eval y) ∧ Tk hv (LiveN s) ⟨0, .row [.lst l, .row [.sc (.pointer none), .lst []]], 1, 0, [1, 1]⟩ (a.eval y).cells.toList := ev_rep h (fun k hk => hs k (List.mem_append_right _ (List.mem_append_right _ (List.mem_append_left _ hk)))) hy
  have hlk := (hs 450001 (by simp)).trans hb
  have hO : OX (Us w0 U0 D) w (.wrt c0 ty2) (hv 450001) := h.obj 450001 _ hlk ⟨by omega, by omega⟩
  obtain ⟨g, nv, e1, e2, e3⟩ := hO.1.2 rfl
  obtain ⟨xs, f1, f2⟩ := vrep_row.1 h2
  obtain ⟨x1, r1, rfl, g1, x2, r2, rfl, g2, g3⟩ := f2
  have g3 : r2 = [] := g3
  subst g3
  obtain ⟨ao, k, c, rfl, q2⟩ := rep_lst.1 g1
  obtain ⟨y1, y2, rfl, g4, y3, y4, rfl, g5, g6⟩ := rep_row.1 g2
  have g6 : y4 = [] := g6
  subst g6
  obtain ⟨rfl, _⟩ := rep_sc.1 g4
  obtain ⟨ao2, k2, c2, rfl, _⟩ := rep_lst.1 g5
  have hnil : Value.slice ao2 k2 c2 = .slice none 0 0 := by
    obtain ⟨m, cc, a1, a2⟩ := h3 (.inl rfl)
    have a1 : some (2, CV.lst []) = some (m, cc) := a1
    cases a1
    rw [f1] at a2
    have a2 : some (Value.slice ao2 k2 c2) = some (tokv hv 1) := a2
    injection a2
  rw [hnil] at f1
  have hrun := run_storeTree (P := P) (w := w) (g := g) (q := 0) (ys := []) (zs := [nv, .pointer none, .slice none 0 0]) (us := []) hi e2 rfl (v := a.eval y) (vs := [.slice ao k c, .pointer none, .slice none 0 0]) (by rw [f1]; rfl) rfl rfl (by intro u hu; simp at hu; rcases hu with rfl | rfl | rfl <;> rfl)
  have hbk : blkOf (hv (100000 + 350001)) = g := by rw [show (100000 + 350001 : Nat) = 450001 from rfl, e1]; rfl
  rw [hbk] at h1
  have he : (execOp a.eval o).run P w = .ok .skip (w.setRow g #[.slice ao k c, .pointer none, .slice none 0 0]) := by
    generalize a.eval = ρ at h1 hrun ⊢
    simp [execOp, ho, Instr.storeAt, Instr.sureAddr, h1, hrun]
  unfold Oper.wp
  rw [he, Oper.upon_skip, hd]
  have hG := h.turn (k0 := 450001) (av := .wrt (.lst l) ty2) (av0 := .wrt c0 ty2) (w' := w.setRow g #[.slice ao k c, .pointer none, .slice none 0 0]) ⟨by omega, by omega⟩ hlk (by simp) (by omega) (fun e => by cases e) (by simp) (by simp) (g := g) (by rw [e1]; rfl) rfl rfl rfl (by simp) (fun k hk => setRow_other w g k _ hk) (fun hkp => by
    rw [e1]
    refine ⟨⟨(fun e => by cases e), fun _ => ⟨g, .slice ao k c, rfl, setRow_heap w _ _ _ _ _ e2, ?_⟩⟩, (fun e => by cases e), (fun e => by cases e), (fun e => by cases e)⟩
    exact (vrep_lst.2 ⟨ao, k, c, rfl, q2⟩ : VRep (Us w0 U0 D) w (.lst l) (.slice ao k c)).keep hkp)
  have hf' := (hs 35500100 (by simp)).trans hf
  refine hK _ _ ⟨D, hv, hG.addV (n := 350001) (q := 0) (av := .val (.lst l)) hbn (by rw [lS]; exact fun e => by cases e) (by omega) (fun o av' g1 g2 => ?_)⟩
  rw [lN (by unfold fKey; omega)] at g1
  refine ⟨fun hlt => ?_, fun hlt => by omega⟩
  have := h.fdis 350001 0 o _ av' hf' g1 (by omega) g2 hlt
  have hz : (AV.val c0).sz = 1 := hc0
  rw [hz] at this
  exact this
theorem a_loadW (hg : Gd w0 U0 nt ops o gs S) (hd : o.dst = some d) (hn : Nat.blt d nt = true) (h5 : Nat.blt d 100000 = true) {x : Operand} {ty : TypeId} {ds : TypeDesc} {k' v' l'} {p : List Nat} {ty2 : TypeId} {l : List CV} (ho : o.op = .load ty x) (hu : P.underlying ty = some ds) (hi : (P.info? ty).map (·.size) = some 1) (hx : ev S x = some ⟨2, ⟨k', v', l'⟩, 350001, 0, p⟩) (hb : S 450001 = some (.wrt (.lst l) ty2)) (hk : aggB ds = false) : AOp P w0 U0 nt ops o (gs ++ (rd x ++ [450001])) [] S [(d, .val (.lst l))] :=
  aop_val hg hd hn h5 (fun k hk => List.mem_append_left _ hk) fun s hs a w D hv hm => by
    obtain ⟨hbn, h1⟩ : BN 350001 ∧ a.eval x = .pointer (some ⟨blkOf (hv (100000 + 350001)), 0, none⟩) := ev_rep hm (fun k hk => hs k (List.mem_append_right _ (List.mem_append_left _ hk))) hx
    have hO : OX (Us w0 U0 D) w (.wrt (.lst l) ty2) (hv 450001) := hm.obj 450001 _ ((hs 450001 (by simp)).trans hb) ⟨by omega, by omega⟩
    obtain ⟨g, nv, e1, e2, e3⟩ := hO.1.2 rfl
    have hbk : blkOf (hv (100000 + 350001)) = g := by rw [show (100000 + 350001 : Nat) = 450001 from rfl, e1]; rfl
    rw [hbk] at h1
    obtain ⟨ao, k, c, rfl, q2⟩ := vrep_lst.1 e3
    obtain ⟨v, h4, h6, _⟩ := run_loadTree (P := P) (c := .lst l) (U := Us w0 U0 D) (w := w) (b := g) (off := 0) (xs := [.slice ao k c]) hu hi hk rfl (rep_lst.2 ⟨ao, k, c, rfl, q2⟩) (fun i hi => by
      have : i = 0 := by simp at hi; omega
      subst this
      simp only [World.cell?, e2]
      rfl)
    refine ⟨v, ?_, avrep_val h6⟩
    generalize a.eval = ρ at h1 ⊢
    simp [execOp, ho, Instr.loadAt, Instr.sureAddr, h1, h4]
end
end Go.Proofs.YtebhbnhijnpmcaaDoor
