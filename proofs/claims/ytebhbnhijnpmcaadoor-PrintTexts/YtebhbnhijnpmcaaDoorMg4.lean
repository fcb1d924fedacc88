/-
  PsLex PsLex2 PsApp PsGr PsLex3 PsWf PsCk PsOk PsTwo PrTw PrTw2 PrTx PsParse PsAlive PsRight2 PsRefR PsGood PsSame AbRowO AbKind CodeMath CodeLen CodePut CodePutMore RefSame CodeRef CodeAlive CodeReadMath CodeRead CodeUint CodeText CodeBackMath ClBy ClCode ClPut ClGet ClGet2 ClA ClB PsLaw3 PrCom
-/
import Derived.Test.YtebhbnhijnpmcaaDoorMg3
import Derived.Test.YtebhbnhijnpmcaaDoorMg2
import Derived.WalkKit
import Derived.Test.YtebhbnhijnpmcaaDoorChecked
import Derived.WalkLawsBesides
import Derived.WalkSpells
import Derived.Test.YtebhbnhijnpmcaaDoorMg1
import Derived.Laws.BitsAllLaws
import Derived.Deep.QuietTactic
import Derived.BigQuiet
import Derived.Laws.BytesArg
import Derived.Test.YtebhbnhijnpmcaaDoorPrShelf
namespace Go.Proofs.YtebhbnhijnpmcaaDoor
open Go.RowKit
set_option linter.unusedVariables false
set_option linter.unusedSimpArgs false
set_option maxRecDepth 10000
def lex : Nat → By → List By
  | 0, _ => []
  | n + 1, s => if (mvT s).nx = [] then [] else (mvT s).nx :: lex n (mvT s).rs
def toks (s : By) : List By := lex (s.length + 1) s
def tl (t : Tkn) : List By := if t.nx = [] then [] else t.nx :: toks t.rs
def takeL (L : List By) (s : By) : Bool × List By := match L with
  | [] => (false, [])
  | x :: l => if x = s then (true, l) else (false, x :: l)
def nameL (L : List By) : By × Bool × List By := match L with
  | [] => ([], false, [])
  | x :: l => if isNmL x then (x, true, l) else ([], false, x :: l)
def rdXL : Nat → Nat → List By → Option (List Ph) → Option (Ph × List Ph × Bool × List By)
  | 0, _, _, _ => none
  | n + 1, d, t, none => if 32 < d then some (⟨[], []⟩, [], false, t) else
      if !(nameL t).2.1 || isGrL (nameL t).1 then some (⟨(nameL t).1, []⟩, [], (nameL t).2.1, (nameL t).2.2) else
      if (takeL (nameL t).2.2 [40]).1 then (match rdXL n (d + 1) (takeL (nameL t).2.2 [40]).2 (some []) with
        | none => none
        | some r => if r.2.2.1 then some (⟨(nameL t).1, r.2.1⟩, [], (takeL r.2.2.2 [41]).1, (takeL r.2.2.2 [41]).2) else some (⟨(nameL t).1, r.2.1⟩, [], false, r.2.2.2))
      else some (⟨(nameL t).1, []⟩, [], (nameL t).2.1, (takeL (nameL t).2.2 [40]).2)
  | n + 1, d, t, some acc => match rdXL n d t none with
    | none => none
    | some r => if r.2.2.1 then (if (takeL r.2.2.2 [44]).1 then rdXL n d (takeL r.2.2.2 [44]).2 (some (acc ++ [r.1])) else some (⟨[], []⟩, acc ++ [r.1], true, (takeL r.2.2.2 [44]).2)) else some (⟨[], []⟩, [], false, r.2.2.2)
def mapX (r : Ph × List Ph × Bool × Tkn) : Ph × List Ph × Bool × List By := (r.1, r.2.1, r.2.2.1, tl r.2.2.2)
def rdLL (n : Nat) (t : List By) : Option (Se × Bool × List By) :=
  match rdXL n 1 (takeL t [126]).2 none with
  | none => none
  | some r => if r.2.2.1 then
      (if (takeL r.2.2.2 [61]).1 then (match rdXL n 1 (takeL r.2.2.2 [61]).2 none with
          | none => none
          | some q => some (⟨(takeL t [126]).1, false, r.1, q.1⟩, q.2.2.1, q.2.2.2))
        else if (takeL (takeL r.2.2.2 [61]).2 unlB).1 then (match rdXL n 1 (takeL (takeL r.2.2.2 [61]).2 unlB).2 none with
          | none => none
          | some q => some (⟨!(takeL t [126]).1, false, r.1, q.1⟩, q.2.2.1, q.2.2.2))
        else some (⟨(takeL t [126]).1, true, r.1, Ph.z⟩, isSmL r.1.name, (takeL (takeL r.2.2.2 [61]).2 unlB).2))
    else some (Se.z, false, r.2.2.2)
def mapS (r : Se × Bool × Tkn) : Se × Bool × List By := (r.1, r.2.1, tl r.2.2)
def rdLsL (n : Nat) : Nat → List By → List Se → Option (List Se × Bool × List By)
  | 0, _, _ => none
  | m + 1, t, acc => match rdLL n t with
    | none => none
    | some r => if r.2.1 then (if (takeL r.2.2 [124]).1 then rdLsL n m (takeL r.2.2 [124]).2 (acc ++ [r.1]) else some (acc ++ [r.1], true, (takeL r.2.2 [124]).2)) else some ([], false, r.2.2)
def mapC (r : List Se × Bool × Tkn) : List Se × Bool × List By := (r.1, r.2.1, tl r.2.2)
def rdCL (n : Nat) (t : List By) : Option (List Se × Bool × List By) :=
  if (takeL t neverB).1 then some ([], true, (takeL t neverB).2) else rdLsL n n (takeL t neverB).2 []
def rdFL (n : Nat) : Nat → List By → List (List Se) → Option (List (List Se) × Bool)
  | 0, _, _ => none
  | m + 1, t, acc => if t = [] then some (acc, true) else match rdCL n t with
    | none => none
    | some r => if r.2.1 then (if (takeL r.2.2 [46]).1 then rdFL n m (takeL r.2.2 [46]).2 (acc ++ [r.1]) else some ([], false)) else some ([], false)


def hd (t : List By) : By := t.headD []
def comT (l : List (List By)) : List By := l.flatMap fun x => [44] :: x
def bodT : List (List By) → List By
  | [] => []
  | x :: l => [40] :: (x ++ (comT l ++ [[41]]))
def Ph.tk : Ph → List By
  | ⟨n, ps⟩ => n :: bodT (ps.map Ph.tk)
def Ph.dp : Ph → Nat
  | ⟨n, ps⟩ => 1 + (ps.map Ph.dp).foldr max 0
def Ph.wf : Ph → Prop
  | ⟨n, ps⟩ => (isNmL n = true ∧ (isGrL n = true → ps = [])) ∧ ∀ q ∈ ps, q.wf
def Ph.ends (p : Ph) (t : List By) : Prop := p.parts = [] → isGrL p.name = false → hd t ≠ [40]

def TokOk (B : Nat) (x : By) : Prop := x.length ≤ B ∧ (isNmL x = true → x.all inB = true)
def Ph.nice (B : Nat) : Ph → Prop
  | ⟨n, ps⟩ => (isNmL n = true ∧ n.all inB = true ∧ n.length ≤ B ∧ (isGrL n = true → ps = [])) ∧ ∀ q ∈ ps, q.nice B
structure Se.nice (B : Nat) (s : Se) : Prop where
  a : s.a.nice B ∧ s.a.dp ≤ 32
  atom : s.atom = true → isSmL s.a.name = true ∧ s.b = Ph.z
  b : s.atom = false → s.b.nice B ∧ s.b.dp ≤ 32
end Go.Proofs.YtebhbnhijnpmcaaDoor
namespace Go.Proofs.YtebhbnhijnpmcaaDoor
open Go.RowKit
set_option linter.unusedVariables false
set_option maxRecDepth 100000
noncomputable def Tm.zz (t : Tm) : Nat := Tm.rec (motive_1 := fun _ => Nat) (motive_2 := fun _ => Nat) (fun f _ ih => match decide (f < 0) with | true => 1 | false => 1 + ih) 0 (fun _ _ a b => a + b) t
noncomputable def wtK (c : List Lt) : Nat := (c.map fun l => l.a.zz + l.b.zz).sum
noncomputable def mnK (n : Nat) : Nm → List (List Se) → List (List Lt) → Option (Nm × List (List Lt) × Bool)
  | st, [], acc => some (st, acc, true)
  | st, c :: cs, acc => match clsF n st c with
    | none => none
    | some r => match r.2.1 && Nat.ble (wtK r.1) 60 with
      | true => mnK n r.2.2 cs (acc ++ [r.1])
      | false => some (st, [], false)
noncomputable def prK (n : Nat) (src : By) : Option (Sg × List (List Lt) × Int) :=
  match Nat.blt 32768 src.length with
  | true => some (⟨[], [], []⟩, [], 9)
  | false => match rdAll n src with
    | none => none
    | some r => match r.2 && Nat.ble r.1.length 64 with
      | true => (match mnK n nm0 r.1 [] with
        | none => none
        | some q => match q.2.2 with
          | true => some (q.1.sg, q.2.1, 0)
          | false => some (⟨[], [], []⟩, [], 7))
      | false => some (⟨[], [], []⟩, [], 7)
def repB (b : By) : Nat → By
  | 0 => []
  | k + 1 => repB b k ++ b
def srcD (d : Nat) : By := ((([112, 40] ++ repB [102, 40] d) ++ [97]) ++ repB [41] d) ++ [41, 46]
def srcQ (c : Nat) : By := repB [113, 46, 32] c
noncomputable def ckD (d : Nat) : Bool := match prK 200 (srcD d) with
  | some r => (decide (r.2.2 = 7) == Nat.blt 32 (d + 2)) && (decide (r.2.2 = 0) == Nat.beq r.2.1.length 1) && (decide (r.2.2 = 0) || decide (r.2.2 = 7))
  | none => false
noncomputable def ckQ (c : Nat) : Bool := match prK 200 (srcQ c) with
  | some r => (decide (r.2.2 = 7) == Nat.blt 64 c) && (!decide (r.2.2 = 0) || Nat.beq r.2.1.length c) && (decide (r.2.2 = 0) || decide (r.2.2 = 7))
  | none => false
end Go.Proofs.YtebhbnhijnpmcaaDoor
namespace Go.Proofs.YtebhbnhijnpmcaaDoor
open Go.RowKit
set_option linter.unusedVariables false
set_option linter.unusedSimpArgs false
set_option maxRecDepth 100000
def ClG (c : List Lt) : Prop := c.length ≤ 1000000 ∧ (∀ x ∈ c, x.a.ok ∧ x.b.ok) ∧ okC c ∧ wtL c ≤ 60
def sepB : Nat → By
  | 0 => [40]
  | _ + 1 => [44]
def argP : Nat → By
  | 0 => [102, 111, 111]
  | k + 1 => (argP k ++ sepB k) ++ [97]
def argB : Nat → By
  | 0 => argP 0
  | k + 1 => argP (k + 1) ++ [41]
def srcK (n k : Nat) (p : Bool) : By := match p with
  | true => ((argB n ++ [32, 61, 32, 98, 46, 32]) ++ argB k) ++ [46]
  | false => (((argB n ++ [32, 61, 32, 98, 46, 32]) ++ [99, 32, 61, 32]) ++ argB k) ++ [46]
def srcB (n : Nat) : By := argB n ++ [32, 61, 32, 98, 46, 32, 98, 97, 114, 32, 124, 32, 126, 98, 97, 114, 46]
noncomputable def ckK (n k : Nat) (p : Bool) : Bool := match prK 60 (srcK n k p) with
  | some r => match p || !Nat.beq n k with
    | true => decide (r.2.2 = 7)
    | false => decide (r.2.2 = 0) && (Nat.beq r.2.1.length 2 && rcB r.1 (r.2.1.getD 0 []))
  | none => false
noncomputable def ckB (n : Nat) : Bool := match prK 60 (srcB n) with
  | some r => decide (r.2.2 = 0) && Nat.beq r.2.1.length 2
  | none => false
end Go.Proofs.YtebhbnhijnpmcaaDoor
namespace Go.Proofs.YtebhbnhijnpmcaaDoor
open Go.RowKit
set_option linter.unusedVariables false
set_option linter.unusedSimpArgs false
set_option maxRecDepth 10000
def trueB : By := [36, 116, 114, 117, 101]
structure Rl (s1 s2 : Nm) : Prop where
  sub : ∀ p ∈ s1.sy, ∃ j, (p.1, j) ∈ s2.sy
  nms : ∀ x ∈ s1.sg.nm, x ∈ s2.sg.nm
  nd : s1.sg.nm.Nodup
  few : s2.sg.nm.length ≤ 201
  one : ∀ p ∈ s2.sy, ∀ q ∈ s2.sy, p.1.1 = q.1.1 → p.1 = q.1
  has : ∀ x ∈ s1.sg.nm, x = trueB ∨ ∃ p ∈ s1.sy, p.1.1 = x
  ins : ∀ p ∈ s2.sy, p.1.1 ∈ s2.sg.nm
  ne : ∀ p ∈ s2.sy, p.1.1 ≠ trueB
  tr : trueB ∈ s2.sg.nm
  vr : s1.vr = s2.vr
theorem Rl.zero : Rl nm0 nm0 := ⟨(fun p hp => by cases hp), (fun x hx => hx), by simp [nm0, sg0], by decide, (fun p hp => by cases hp), (fun x hx => .inl (by simpa [nm0, sg0, trueB] using hx)), (fun p hp => by cases hp), (fun p hp => by cases hp), by simp [nm0, sg0, trueB], rfl⟩
def SimF (f : Nm → Ph → Option (Tm × Bool × Nm)) : Prop := ∀ s1 s2 p r2, Rl s1 s2 → f s2 p = some r2 → r2.2.1 = true → ∃ r1, f s1 p = some r1 ∧ r1.2.1 = true ∧ Rl r1.2.2 r2.2.2 ∧ r1.1.size = r2.1.size
def dval (l : By) : Nat := l.foldl (fun n c => 10 * n + (c.toNat - 48)) 0
def xN (i : Nat) : By := 88 :: Lib.decDigits i
def twV (k : Nat) : List (By × Nat) := (List.range k).map fun i => (xN i, i)
def tw (st : Nm) : Nm := ⟨st.sg, st.sy, twV st.vr.length⟩
def phT (nm : List By) : Tm → Ph
  | ⟨f, l⟩ => if f < 0 then ⟨xN (-1 - f).toNat, []⟩ else ⟨symX nm f.toNat, l.map (phT nm)⟩
def SmN (B : Nat) (x : By) : Prop := isSmL x = true ∧ x.all inB = true ∧ x.length ≤ B
structure Nx (B : Nat) (st : Nm) : Prop where
  nms : ∀ (i : Nat) (x : By), st.sg.nm[i]? = some x → (i = 0 ∧ x = trueB) ∨ (0 < i ∧ SmN B x)
  one : 0 < st.sg.nm.length
  few : st.sg.nm.length ≤ 201
  vrr : ∀ p ∈ st.vr, p.2 < st.vr.length
  syi : ∀ k i, (k, i) ∈ st.sy → st.sg.nm[i]? = some k.1
def Tm.bd (L V : Nat) : Tm → Prop
  | ⟨f, l⟩ => ((f < 0 → -1 - f < V ∧ l = []) ∧ (0 ≤ f → 0 < f ∧ f < L)) ∧ ∀ s ∈ l, s.bd L V
structure TmR (B n : Nat) (st : Nm) (p : Ph) (t : Tm) (st' : Nm) : Prop where
  nx : Nx B st'
  pre : st.sg.nm <+: st'.sg.nm
  vle : st.vr.length ≤ st'.vr.length ∧ st'.vr.length ≤ st.vr.length + t.size
  bd : t.bd st'.sg.nm.length st'.vr.length
  dp : ∀ nmF, (phT nmF t).dp = p.dp
  twin : ∀ nmF, st'.sg.nm <+: nmF → tmF n (tw st) (phT nmF t) = some (t, true, tw st')
def phL (nm : List By) (l : Lt) : Se := ⟨l.neg, trB l.b, phT nm l.a, if trB l.b then Ph.z else phT nm l.b⟩
structure LtB (L V : Nat) (l : Lt) : Prop where
  a : l.a.bd L V
  t : trB l.b = true → l.b = tz ∧ 0 < l.a.f
  b : trB l.b = false → l.b.bd L V
  da : ∀ nmF, (phT nmF l.a).dp ≤ 32
  db : trB l.b = false → ∀ nmF, (phT nmF l.b).dp ≤ 32
structure Prs (B n : Nat) (s : Sg) (l : List (List Lt)) : Prop where
  nms : ∀ (i : Nat) (x : By), s.nm[i]? = some x → (i = 0 ∧ x = trueB) ∨ (0 < i ∧ SmN B x)
  few : s.nm.length ≤ 201
  nd : s.nm.Nodup
  len : l.length ≤ 64
  lits : ∀ d ∈ l, wtL d ≤ 60 ∧ ∀ x ∈ d, LtB s.nm.length 60 x
  twin : ∃ q, mnF n nm0 (l.map fun d => d.map (phL s.nm)) [] = some (q, l, true) ∧ q.sg = s
def NmsOk (B : Nat) (nm : List By) : Prop := ∀ (i : Nat) (x : By), nm[i]? = some x → (i = 0 ∧ x = trueB) ∨ (0 < i ∧ SmN B x)
end Go.Proofs.YtebhbnhijnpmcaaDoor
-- @STR@
namespace Go.Proofs.YtebhbnhijnpmcaaDoor
open Go.RowKit
set_option linter.unusedVariables false
set_option linter.unusedSimpArgs false
set_option maxRecDepth 100000
end Go.Proofs.YtebhbnhijnpmcaaDoor

-- @STR@
namespace Go.Proofs.YtebhbnhijnpmcaaDoor
open Go.RowKit
set_option linter.unusedVariables false
set_option linter.unusedSimpArgs false
set_option maxRecDepth 100000

def exS12 : Sg := ⟨[[36, 116, 114, 117, 101], [112], [113]], [0, 1, 0], [true, true, true]⟩
def exC12 : List Lt := [⟨false, ⟨1, [⟨-1, []⟩]⟩, tz⟩, ⟨true, ⟨2, []⟩, tz⟩]
end Go.Proofs.YtebhbnhijnpmcaaDoor

-- @STR@
namespace Go.Proofs.YtebhbnhijnpmcaaDoor
open Go.RowKit
set_option linter.unusedVariables false
set_option linter.unusedSimpArgs false
set_option maxRecDepth 100000

end Go.Proofs.YtebhbnhijnpmcaaDoor

-- @STR@
namespace Go.Proofs.YtebhbnhijnpmcaaDoor
open Go.RowKit
set_option linter.unusedVariables false
set_option linter.unusedSimpArgs false
set_option maxRecDepth 100000
noncomputable def ofB (s : Sg) (t : Tm) (p : Bool) : Bool := match p with
  | true => atB s t
  | false => rtB s t
noncomputable def drB (s : Sg) (l : Lt) : Bool := match trB l.b with
  | true => atB s l.a
  | false => rtB s l.a && rtB s l.b
end Go.Proofs.YtebhbnhijnpmcaaDoor

namespace Go.Proofs.YtebhbnhijnpmcaaDoor
open Go.RowKit
set_option linter.unusedVariables false
set_option linter.unusedSimpArgs false
structure SgLe (s s' : Sg) : Prop where
  ar : ∀ (i : Nat) (x : Nat), s.ar[i]? = some x → s'.ar[i]? = some x
  pr : ∀ (i : Nat) (x : Bool), s.pr[i]? = some x → s'.pr[i]? = some x
  le : sgc s ≤ sgc s'
theorem SgLe.trans {a b c : Sg} (h : SgLe a b) (g : SgLe b c) : SgLe a c := ⟨fun i x e => g.ar i x (h.ar i x e), fun i x e => g.pr i x (h.pr i x e), Nat.le_trans h.le g.le⟩
structure SgP (st : Nm) : Prop where
  la : st.sg.ar.length = st.sg.nm.length
  lp : st.sg.pr.length = st.sg.nm.length
  pos : 0 < st.sg.nm.length
  z0 : st.sg.ar[0]? = some 0
  sy : ∀ q ∈ st.sy, 0 < q.2 ∧ q.2 < st.sg.nm.length ∧ st.sg.ar[q.2]? = some q.1.2.1 ∧ st.sg.pr[q.2]? = some q.1.2.2
def GoodF (f : Nm → Ph → Option (Tm × Bool × Nm)) : Prop := ∀ st p r, SgP st → f st p = some r → r.2.1 = true → SgP r.2.2 ∧ SgLe st.sg r.2.2.sg ∧ rtB r.2.2.sg r.1 = true ∧ r.1.f ≠ 0
end Go.Proofs.YtebhbnhijnpmcaaDoor
-- @STR@
namespace Go.Proofs.YtebhbnhijnpmcaaDoor
open Go.RowKit
set_option linter.unusedVariables false
set_option linter.unusedSimpArgs false
set_option maxRecDepth 100000
end Go.Proofs.YtebhbnhijnpmcaaDoor

namespace Go.Proofs.YtebhbnhijnpmcaaDoor
open Go.RowKit
set_option linter.unusedVariables false
set_option linter.unusedSimpArgs false
set_option maxRecDepth 100000

end Go.Proofs.YtebhbnhijnpmcaaDoor
namespace Go.Proofs.YtebhbnhijnpmcaaDoor
open Go.RowKit
set_option linter.unusedVariables false
set_option linter.unusedSimpArgs false
section
variable {P : Program} {w0 : World} {U0 : UX} {nt : Nat} {ops : Array Oper} {o : Oper} {S : Nat → Option AV} {gs : List Nat} {d : Nat}
variable (hg : Gd w0 U0 nt ops o gs S) (hd : o.dst = some d) (hn : Nat.blt d nt = true) (h5 : Nat.blt d 100000 = true)
include hg hd hn h5
end
end Go.Proofs.YtebhbnhijnpmcaaDoor
namespace Go.Proofs.YtebhbnhijnpmcaaDoor
set_option linter.unusedVariables false
def ub : Nat → Nat → List Int
  | 0, n => [(n : Int)]
  | k + 1, n => if n < 128 then [(n : Int)] else ((128 + n % 128 : Nat) : Int) :: ub k (n / 128)

def ubytes (n : Nat) : List Int := ub 9 n

def lenz (n : Nat) : Nat := if n = 0 then 0 else (ubytes n).length

def zz (n : Int) : Nat := if 0 ≤ n then (2 * n).toNat else (-2 * n - 1).toNat
end Go.Proofs.YtebhbnhijnpmcaaDoor
namespace Go.Proofs.YtebhbnhijnpmcaaDoor
open Go.RowKit
set_option linter.unusedVariables false






def lastAt : List Int → Option Nat
  | [] => none
  | b :: r => if b < 128 then some 0 else (lastAt r).map (· + 1)

def lastInt (l : List Int) : Int := match lastAt l with | none => -1 | some i => (i : Int)

def val : List Int → Nat
  | [] => 0
  | b :: r => (b % 128).toNat + 128 * val r

def okNum (l : List Int) : Bool := decide (l.length ≤ 10 ∧ (l.length = 10 → l.getD (l.length - 1) 0 ≤ 1) ∧ (l.getD (l.length - 1) 0 ≠ 0 ∨ l.length = 1))

def unzz (n : Nat) : Int := if n % 2 = 0 then ((n / 2 : Nat) : Int) else -((n / 2 : Nat) : Int) - 1


def rdU (l : List Int) : Nat × Nat × Nat :=
  match lastAt l with
  | none => (0, 0, 10)
  | some i => if okNum (l.take (i + 1)) then (val (l.take (i + 1)), i + 1, 0) else (0, 0, 7)
def canon : List Int → Prop
  | [] => False
  | b :: r => match r with
    | [] => 0 < b ∧ b < 128
    | _ :: _ => 128 ≤ b ∧ b ≤ 255 ∧ canon r
end Go.Proofs.YtebhbnhijnpmcaaDoor
namespace Go.Proofs.YtebhbnhijnpmcaaDoor
set_option linter.unusedVariables false
set_option linter.unusedSimpArgs false
def wT : Tm → List Int
  | ⟨f, l⟩ => ubytes (zz f) ++ (if f < 0 then [] else ubytes l.length ++ (l.map wT).flatten)
def wL (l : Lt) : List Int := (if l.neg then 1 else 0) :: (wT l.a ++ wT l.b)
def wC (c : List Lt) : List Int := ubytes c.length ++ c.flatMap wL

def rN (most : Nat) (l : List Int) : Except Nat (Nat × Nat) := match rdU l with
  | (v, c, 0) => if v > most then .error 7 else .ok (v, c)
  | (_, _, e + 1) => .error (e + 1)
def rH (l : List Int) : Except Nat (Int × Nat) := match rdU l with
  | (v, c, 0) => if -2147483648 ≤ unzz v ∧ unzz v ≤ 2147483647 then .ok (unzz v, c) else .error 7
  | (_, _, e + 1) => .error (e + 1)
def rMany {α : Type} (g : List Int → Except Nat (α × Nat)) : Nat → List Int → Except Nat (List α × Nat)
  | 0, _ => .ok ([], 0)
  | n + 1, l => match g l with
    | .error e => .error e
    | .ok (x, c) => match rMany g n (l.drop c) with
      | .error e => .error e
      | .ok (xs, c') => .ok (x :: xs, c + c')
def rList {α : Type} (g : List Int → Except Nat (α × Nat)) (l : List Int) : Except Nat (List α × Nat) := match rN 4096 l with
  | .error e => .error e
  | .ok (n, c) => match rMany g n (l.drop c) with
    | .error e => .error e
    | .ok (xs, c') => .ok (xs, c + c')
def rT : Nat → List Int → Except Nat (Tm × Nat)
  | 0, _ => .error 7
  | d + 1, l => match rH l with
    | .error e => .error e
    | .ok (f, c) => if f < 0 then .ok (⟨f, []⟩, c) else match rList (rT d) (l.drop c) with
      | .error e => .error e
      | .ok (xs, c') => .ok (⟨f, xs⟩, c + c')
def rL (l : List Int) : Except Nat (Lt × Nat) := match rN 1 l with
  | .error e => .error e
  | .ok (n, c) => match rT 257 (l.drop c) with
    | .error e => .error e
    | .ok (a, c1) => match rT 257 (l.drop (c + c1)) with
      | .error e => .error e
      | .ok (b, c2) => .ok (⟨decide (n = 1), a, b⟩, c + c1 + c2)
def rC (l : List Int) : Except Nat (List Lt × Nat) := rList rL l

def wfB (l : List Int) : Prop := ∀ z ∈ l, 0 ≤ z ∧ z ≤ 255
theorem wfB.drop {l : List Int} (h : wfB l) (n : Nat) : wfB (l.drop n) := fun z hz => h z (List.mem_of_mem_drop hz)
def Rt {α : Type} (w : α → List Int) (l : List Int) (r : Except Nat (α × Nat)) : Prop := ∀ x c, r = .ok (x, c) → c ≤ l.length ∧ w x = l.take c
def Er {α : Type} (r : Except Nat (α × Nat)) : Prop := ∀ e, r = .error e → e = 7 ∨ e = 10
structure Thru {α : Type} (g : List Int → Except Nat (α × Nat)) (w : List Int) (x : α) : Prop where
  back : ∀ r, g (w ++ r) = .ok (x, w.length)
  cut : ∀ j, j < w.length → g (w.take j) = .error 10
end Go.Proofs.YtebhbnhijnpmcaaDoor
namespace Go.Proofs.YtebhbnhijnpmcaaDoor
open Go.RowKit
set_option linter.unusedVariables false
set_option linter.unusedSimpArgs false
set_option maxRecDepth 100000
abbrev by8 (z : Int) : CV := .sc (.int .u8 z)
def gU (zs : List Int) (p : Int) : Int × Int × Int :=
  if p < 0 ∨ p > zs.length then (0, 0, 1) else match rdU (zs.drop p.toNat) with
    | (v, c, 0) => (v, p + c, 0)
    | (_, _, e + 1) => (0, 0, ((e + 1 : Nat) : Int))
def gI (zs : List Int) (p : Int) : Int × Int × Int :=
  if p < 0 ∨ p > zs.length then (0, 0, 1) else match rdU (zs.drop p.toNat) with
    | (v, c, 0) => (unzz v, p + c, 0)
    | (_, _, e + 1) => (0, 0, ((e + 1 : Nat) : Int))
noncomputable abbrev rB (zs : List Int) : AS := [(300001, .mrow 5 1 (zs.map by8))]
def zT : Tm := ⟨0, []⟩
def zL : Lt := ⟨false, zT, zT⟩
def okP {α : Type} (q : Nat) : Except Nat (α × Nat) → Int
  | .ok (_, c) => ((q + c : Nat) : Int)
  | .error _ => 0
def okE {α : Type} : Except Nat (α × Nat) → Int
  | .ok _ => 0
  | .error e => (e : Int)
def okN : Except Nat (Nat × Nat) → Int
  | .ok (v, _) => (v : Int)
  | .error _ => 0
noncomputable def okT : Except Nat (Tm × Nat) → CV
  | .ok (x, _) => x.cw
  | .error _ => .row [.i 0, .lst []]
noncomputable def okG : Except Nat (Lt × Nat) → CV
  | .ok (x, _) => x.cw
  | .error _ => .row [.b false, .row [.i 0, .lst []], .row [.i 0, .lst []]]
noncomputable def okLT : Except Nat (List Tm × Nat) → List CV
  | .ok (x, _) => x.map Tm.cv
  | .error _ => []
noncomputable def okLG : Except Nat (List Lt × Nat) → List CV
  | .ok (x, _) => x.map Lt.cv
  | .error _ => []
noncomputable abbrev tupN (q : Nat) (r : Except Nat (Nat × Nat)) : List CV := [.sc (.int .u64 (okN r)), .i (okP q r), by8 (okE r)]
noncomputable abbrev tupT (q : Nat) (r : Except Nat (Tm × Nat)) : List CV := [okT r, .i (okP q r), by8 (okE r)]
noncomputable abbrev tupG (q : Nat) (r : Except Nat (Lt × Nat)) : List CV := [okG r, .i (okP q r), by8 (okE r)]
noncomputable abbrev tupLT (q : Nat) (r : Except Nat (List Tm × Nat)) : List CV := [.lst (okLT r), .i (okP q r), by8 (okE r)]
noncomputable abbrev tupLG (q : Nat) (r : Except Nat (List Lt × Nat)) : List CV := [.lst (okLG r), .i (okP q r), by8 (okE r)]
def rHd (l : List Int) : Except Nat (Tm × Nat) := match rH l with
  | .error e => .error e
  | .ok (f, c) => .ok (⟨f, []⟩, c)
def cmb {α : Type} (xs : List α) (q0 q : Nat) : Except Nat (List α × Nat) → Except Nat (List α × Nat)
  | .error e => .error e
  | .ok (ys, c) => .ok (xs ++ ys, q - q0 + c)
def gC (zs : List Int) (p : Int) : Except Nat (List Lt × Nat) := if p < 0 ∨ p > zs.length then .error 1 else rC (zs.drop p.toNat)
def exC : Lt := ⟨false, ⟨3, [⟨-1, []⟩]⟩, ⟨1, []⟩⟩
def finL (size : Int) (l : Lt) : Bool := decide (0 ≤ smallT l.a size 8) && decide (0 ≤ smallT l.b size 8)
def fineC (c : List Lt) (most : Nat) (size : Int) : Bool := decide (c.length ≤ most) && c.all (finL size)
-- 
set_option maxHeartbeats 1000000 in
theorem fine11_abs (W : World) (c : List Lt) (most : Nat) (size : Int) (hm : most ≤ 1000) (h0 : 0 ≤ size) (h1 : size ≤ 60) (hr : okC c) : AFun Tryd.prog W 19 [.lst (c.map Lt.cv), .i (most : Int), .i size] (.val (.b (fineC c most size))) := by
  have hsz := Lt.size_all c
  refine afun_of (rs := [.b (fineC c most size)]) Tryd.func19 Tryd.ntmps19 rfl rfl rfl rfl ?_
  intro w U hW
  refine aS (aR ?_)
  (refine nx (aA (gN rfl) rfl rfl rfl rfl rfl) rfl ?_)
  show AWp _ _ _ _ _ _ _
  refine aS (aS (aR ?_))
  (refine nx (aM (gN rfl) rfl rfl rfl rfl rfl) rfl ?_)
  (refine nx (a_len (gN rfl) rfl rfl rfl rfl rfl rfl rfl) rfl ?_)
  (refine nx (aM (gN rfl) rfl rfl rfl rfl rfl) rfl ?_)
  (refine nx (a_gtr (gN rfl) rfl rfl rfl rfl rfl rfl) rfl ?_)
  show AWp _ _ _ _ _ _ _
  refine aC rfl (fun hc => ?_) (fun hc => ?_)
  · have hno : fineC c most size = false := by
      have := of_decide_eq_true hc
      rw [List.length_map] at this
      unfold fineC
      rw [show decide (c.length ≤ most) = false by rw [decide_eq_false_iff_not]; omega]
      rfl
    rw [hno]
    refine aS (aR ?_)
    (refine nx (aA (gN rfl) rfl rfl rfl rfl rfl) rfl ?_)
    show AWp _ _ _ _ _ _ _
    exact aT (And.intro (.inr rfl) rfl)
  have hl : c.length ≤ most := by
    have := of_decide_eq_false hc
    rw [List.length_map] at this
    omega
  refine aK ?_
  show AWp _ _ _ _ _ _ _
  refine aS (aS (aR ?_))
  (refine nx (aA (gN rfl) rfl rfl rfl rfl rfl) rfl ?_)
  show AWp _ _ _ _ _ _ _
  refine aB (awp_countI c.length (fun k => ∀ l ∈ c.take k, finL size l = true) (fun k => [(0, .val (.lst (c.map Lt.cv))), (2, .val (.i size)), (7, .val (.i k))]) (wk_sub ⟨rfl, rfl, rfl, trivial⟩) (by simp) ?_)
  intro k hk hI
  refine aS (aS (aR ?_))
  (refine nx (aM (gN rfl) rfl rfl rfl rfl rfl) rfl ?_)
  (refine nx (aM (gN rfl) rfl rfl rfl rfl rfl) rfl ?_)
  (refine nx (a_len (gN rfl) rfl rfl rfl rfl rfl rfl rfl) rfl ?_)
  (refine nx (a_lss (gN rfl) rfl rfl rfl rfl rfl rfl) rfl ?_)
  show AWp _ _ _ _ _ _ _
  refine aC rfl (fun hlt => ?_) (fun hlt => ?_)
  · have hkl : k < c.length := by simpa using hlt
    obtain ⟨x, hx⟩ : ∃ x, c[k]? = some x := ⟨c[k], List.getElem?_eq_getElem hkl⟩
    have hx' := Lt.map_at hx
    have hxm := List.mem_of_getElem? hx
    have sa := small_abs w x.a size 8 (hr x hxm).1 h0 h1 (by decide) (by decide)
    have sb := small_abs w x.b size 8 (hr x hxm).2 h0 h1 (by decide) (by decide)
    have hno : finL size x = false → fineC c most size = false := fun h => by
      unfold fineC
      rw [show c.all (finL size) = false from List.all_eq_false.2 ⟨x, hxm, by rw [h]; simp⟩, Bool.and_false]
    refine aK ?_
    show AWp _ _ _ _ _ _ _
    by_cases ha : smallT x.a size 8 < 0
    · have ga : decide (smallT x.a size 8 < 0) = true := by simpa using ha
      rw [hno (by unfold finL; rw [show decide (0 ≤ smallT x.a size 8) = false by rw [decide_eq_false_iff_not]; omega]; rfl)]
      refine aS (aB (aS (aR ?_)))
      (refine nx (aM (gN rfl) rfl rfl rfl rfl rfl) rfl ?_)
      (refine nx (aM (gN rfl) rfl rfl rfl rfl rfl) rfl ?_)
      (refine nx (a_index (j := k) (gN rfl) rfl rfl rfl rfl rfl rfl rfl rfl rfl (hx') rfl (hsz)) rfl ?_)
      (refine nx (a_field_ad (gN rfl) rfl rfl rfl rfl rfl rfl rfl rfl rfl rfl rfl) rfl ?_)
      (refine nx (a_load_ad (gN rfl) rfl rfl rfl rfl rfl rfl rfl rfl rfl) rfl ?_)
      (refine nx (aM (gN rfl) rfl rfl rfl rfl rfl) rfl ?_)
      (refine nx (a_call (gN rfl) rfl rfl rfl rfl rfl (sa)) rfl ?_)
      (refine nx (a_lss (gN rfl) rfl rfl rfl rfl rfl rfl) rfl ?_)
      (refine nx (aM (gN rfl) rfl rfl rfl rfl rfl) rfl ?_)
      (refine ⟨_, _, _, a_off (go_off rfl rfl rfl rfl (by first | rfl | assumption | (simp; done) | (simp [*]; done))) rfl rfl rfl, rfl, ?_⟩)
      (refine ⟨_, _, _, a_off (go_off rfl rfl rfl rfl (by first | rfl | assumption | (simp; done) | (simp [*]; done))) rfl rfl rfl, rfl, ?_⟩)
      (refine ⟨_, _, _, a_off (go_off rfl rfl rfl rfl (by first | rfl | assumption | (simp; done) | (simp [*]; done))) rfl rfl rfl, rfl, ?_⟩)
      (refine ⟨_, _, _, a_off (go_off rfl rfl rfl rfl (by first | rfl | assumption | (simp; done) | (simp [*]; done))) rfl rfl rfl, rfl, ?_⟩)
      (refine ⟨_, _, _, a_off (go_off rfl rfl rfl rfl (by first | rfl | assumption | (simp; done) | (simp [*]; done))) rfl rfl rfl, rfl, ?_⟩)
      (refine ⟨_, _, _, a_off (go_off rfl rfl rfl rfl (by first | rfl | assumption | (simp; done) | (simp [*]; done))) rfl rfl rfl, rfl, ?_⟩)
      (refine ⟨_, _, _, a_off (go_off rfl rfl rfl rfl (by first | rfl | assumption | (simp; done) | (simp [*]; done))) rfl rfl rfl, rfl, ?_⟩)
      (refine ⟨_, _, _, a_off (go_off rfl rfl rfl rfl (by first | rfl | assumption | (simp; done) | (simp [*]; done))) rfl rfl rfl, rfl, ?_⟩)
      (refine ⟨_, _, _, aPt (gN rfl) rfl rfl rfl rfl rfl ?hb rfl, rfl, ?_⟩; case hb => (first | rfl | assumption | (simp; done)))
      show AWp _ _ _ _ _ _ _
      refine aC rfl (fun hc2 => ?_) (fun hc2 => by cases hc2)
      refine aS (aR ?_)
      (refine nx (aA (gN rfl) rfl rfl rfl rfl rfl) rfl ?_)
      show AWp _ _ _ _ _ _ _
      exact aT (And.intro (.inr rfl) rfl)
    · have ga : decide (smallT x.a size 8 < 0) = false := by simpa using ha
      refine aS (aB (aS (aR ?_)))
      (refine nx (aM (gN rfl) rfl rfl rfl rfl rfl) rfl ?_)
      (refine nx (aM (gN rfl) rfl rfl rfl rfl rfl) rfl ?_)
      (refine nx (a_index (j := k) (gN rfl) rfl rfl rfl rfl rfl rfl rfl rfl rfl (hx') rfl (hsz)) rfl ?_)
      (refine nx (a_field_ad (gN rfl) rfl rfl rfl rfl rfl rfl rfl rfl rfl rfl rfl) rfl ?_)
      (refine nx (a_load_ad (gN rfl) rfl rfl rfl rfl rfl rfl rfl rfl rfl) rfl ?_)
      (refine nx (aM (gN rfl) rfl rfl rfl rfl rfl) rfl ?_)
      (refine nx (a_call (gN rfl) rfl rfl rfl rfl rfl (sa)) rfl ?_)
      (refine nx (a_lss (gN rfl) rfl rfl rfl rfl rfl rfl) rfl ?_)
      (refine nx (aM (gN rfl) rfl rfl rfl rfl rfl) rfl ?_)
      (refine nx (aM (gd_on rfl rfl rfl rfl (by first | rfl | assumption | (simp; done))) rfl rfl rfl rfl rfl) rfl ?_)
      (refine nx (aM (gd_on rfl rfl rfl rfl (by first | rfl | assumption | (simp; done))) rfl rfl rfl rfl rfl) rfl ?_)
      (refine nx (a_index (j := k) (gd_on rfl rfl rfl rfl (by first | rfl | assumption | (simp; done))) rfl rfl rfl rfl rfl rfl rfl rfl rfl (hx') rfl (hsz)) rfl ?_)
      (refine nx (a_field_ad (gd_on rfl rfl rfl rfl (by first | rfl | assumption | (simp; done))) rfl rfl rfl rfl rfl rfl rfl rfl rfl rfl rfl) rfl ?_)
      (refine nx (a_load_ad (gd_on rfl rfl rfl rfl (by first | rfl | assumption | (simp; done))) rfl rfl rfl rfl rfl rfl rfl rfl rfl) rfl ?_)
      (refine nx (aM (gd_on rfl rfl rfl rfl (by first | rfl | assumption | (simp; done))) rfl rfl rfl rfl rfl) rfl ?_)
      (refine nx (a_call (gd_on rfl rfl rfl rfl (by first | rfl | assumption | (simp; done))) rfl rfl rfl rfl rfl (sb)) rfl ?_)
      (refine nx (a_lss (gd_on rfl rfl rfl rfl (by first | rfl | assumption | (simp; done))) rfl rfl rfl rfl rfl rfl) rfl ?_)
      (refine ⟨_, _, _, aPf (gN rfl) rfl rfl rfl rfl rfl ?hb rfl, rfl, ?_⟩; case hb => (first | rfl | assumption | (simp; done)))
      show AWp _ _ _ _ _ _ _
      refine aC rfl (fun hc2 => ?_) (fun hc2 => ?_)
      · have hb := of_decide_eq_true hc2
        rw [hno (by unfold finL; rw [show decide (0 ≤ smallT x.b size 8) = false by rw [decide_eq_false_iff_not]; omega]; simp)]
        refine aS (aR ?_)
        (refine nx (aA (gN rfl) rfl rfl rfl rfl rfl) rfl ?_)
        show AWp _ _ _ _ _ _ _
        exact aT (And.intro (.inr rfl) rfl)
      · have hb := of_decide_eq_false hc2
        refine aK ?_
        show AWp _ _ _ _ _ _ _
        refine aR ?_
        (refine nx (aM (gN rfl) rfl rfl rfl rfl rfl) rfl ?_)
        (first | (refine nx (a_add (gN rfl) rfl rfl rfl rfl rfl rfl (by first | omega | (simp only [List.length_map, List.length_append, List.length_cons, List.length_nil] <;> omega) | (simp <;> omega))) rfl ?_) | (refine nx (a_sadd (gN rfl) rfl rfl rfl rfl rfl rfl (by first | omega | (simp only [List.length_map, List.length_append, List.length_cons, List.length_nil] <;> omega) | (simp <;> omega))) (by first | rfl | kernel_rfl) ?_))
        (refine nx (aA (gN rfl) rfl rfl rfl rfl rfl) rfl ?_)
        refine ⟨hkl, ?_, wk_sub ⟨rfl, rfl, rfl, trivial⟩⟩
        intro y hy
        rw [List.take_add_one, hx, List.mem_append] at hy
        rcases hy with hy | hy
        · exact hI y hy
        · simp at hy
          rw [hy]
          unfold finL
          rw [show decide (0 ≤ smallT x.a size 8) = true by rw [decide_eq_true_eq]; omega, show decide (0 ≤ smallT x.b size 8) = true by rw [decide_eq_true_eq]; omega]
          rfl
  · have hkl : k = c.length := by
      have : ¬ k < c.length := by simpa using hlt
      omega
    subst hkl
    rw [List.take_length] at hI
    have hyes : fineC c most size = true := by
      unfold fineC
      rw [show decide (c.length ≤ most) = true by simpa using hl, Bool.true_and]
      exact List.all_eq_true.2 hI
    rw [hyes]
    refine aE ?_
    show AWp _ _ _ _ _ _ _
    refine aS (aR ?_)
    (refine nx (aA (gN rfl) rfl rfl rfl rfl rfl) rfl ?_)
    show AWp _ _ _ _ _ _ _
    exact aT (And.intro (.inr rfl) rfl)
theorem fineC_facts {c : List Lt} {most : Nat} {size : Int} (h0 : 0 ≤ size) (h1 : size ≤ 60) (h : fineC c most size = true) : c.length ≤ most ∧ ∀ l ∈ c, ((l.a.sm ∧ l.a.rng ∧ l.a.ok) ∧ (l.a.wt : Int) ≤ size ∧ (l.a.size : Int) ≤ size) ∧ ((l.b.sm ∧ l.b.rng ∧ l.b.ok) ∧ (l.b.wt : Int) ≤ size ∧ (l.b.size : Int) ≤ size) := by
  unfold fineC at h
  rw [Bool.and_eq_true, decide_eq_true_eq] at h
  refine ⟨h.1, fun l hl => ?_⟩
  have hf := List.all_eq_true.1 h.2 l hl
  unfold finL at hf
  rw [Bool.and_eq_true, decide_eq_true_eq, decide_eq_true_eq] at hf
  have key : ∀ t : Tm, 0 ≤ smallT t size 8 → (t.sm ∧ t.rng ∧ t.ok) ∧ (t.wt : Int) ≤ size ∧ (t.size : Int) ≤ size := fun t ht => by
    have hsm := small_sm t _ _ ht
    have hwt : (t.wt : Int) ≤ size := by have := (small_bounds t size 8 h0).2.2 ht; omega
    have := t.size_wt
    exact ⟨⟨hsm, Tm.sm_rng hsm, Tm.wt_ok (t := t) (by omega)⟩, hwt, by omega⟩
  exact ⟨key _ hf.1, key _ hf.2⟩
-- 
set_option maxHeartbeats 1000000 in
theorem of11I_abs (W : World) (c : List Lt) (hl : c.length ≤ 1000000) (hc : ∀ l ∈ c, l.a.ok ∧ l.b.ok) : AFun Tryd.prog W 20 [.lst (c.map Lt.cv)] (.val (.lst ((c.map id).map Lt.cv))) := by
  have hsz := Lt.size_all c
  refine afun_of (rs := [.lst ((c.map id).map Lt.cv)]) Tryd.func20 Tryd.ntmps20 rfl rfl rfl rfl ?_
  intro w U hW
  refine aS (aR ?_)
  (refine nx (aA (gN rfl) rfl rfl rfl rfl rfl) rfl ?_)
  show AWp _ _ _ _ _ _ _
  refine aS (aR ?_)
  (refine nx (aA (gN rfl) rfl rfl rfl rfl rfl) rfl ?_)
  show AWp _ _ _ _ _ _ _
  refine aS (aS (aR ?_))
  (refine nx (aA (gN rfl) rfl rfl rfl rfl rfl) rfl ?_)
  show AWp _ _ _ _ _ _ _
  refine aB (awp_count c.length (fun k => [(0, .val (.lst (c.map Lt.cv))), (3, .own (.lst (((c.take k).map id).map Lt.cv)) 200031), (200031, .tok 57 5), (4, .val (.i k))]) ((wk_nil 3 200031 57 5 rfl rfl rfl rfl rfl rfl rfl).trans (wk_sub ⟨rfl, rfl, rfl, rfl, trivial⟩)) ?_)
  intro k hk
  have hks := Lt.size_all ((c.take k).map id)
  refine aS (aS (aR ?_))
  (refine nx (aM (gN rfl) rfl rfl rfl rfl rfl) rfl ?_)
  (refine nx (aM (gN rfl) rfl rfl rfl rfl rfl) rfl ?_)
  (refine nx (a_len (gN rfl) rfl rfl rfl rfl rfl rfl rfl) rfl ?_)
  (refine nx (a_lss (gN rfl) rfl rfl rfl rfl rfl rfl) rfl ?_)
  show AWp _ _ _ _ _ _ _
  refine aC rfl (fun hlt => ?_) (fun hlt => ?_)
  · have hkl : k < c.length := by simpa using hlt
    obtain ⟨x, hx⟩ : ∃ x, c[k]? = some x := ⟨c[k], List.getElem?_eq_getElem hkl⟩
    have hx' := Lt.map_at hx
    have hxm := List.mem_of_getElem? hx
    have hkn : (((c.take k).map id).map Lt.cv).length ≤ 1000000 := by rw [List.length_map, List.length_map, List.length_take]; omega
    refine aK ?_
    show AWp _ _ _ _ _ _ _
    refine aS (aB (aD (by kernel_rfl) (by kernel_rfl) ?_))
    (refine nx (aM (gN rfl) rfl rfl rfl rfl rfl) rfl ?_)
    (refine nx (aM (gN rfl) rfl rfl rfl rfl rfl) rfl ?_)
    (refine nx (aM (gN rfl) rfl rfl rfl rfl rfl) rfl ?_)
    (refine nx (a_index (j := k) (gN rfl) rfl rfl rfl rfl rfl rfl rfl rfl rfl (hx') rfl (hsz)) rfl ?_)
    (refine nx (a_field_ad (gN rfl) rfl rfl rfl rfl rfl rfl rfl rfl rfl rfl rfl) rfl ?_)
    (refine nx (a_load_ad (gN rfl) rfl rfl rfl rfl rfl rfl rfl rfl rfl) rfl ?_)
    (refine nx (aM (gN rfl) rfl rfl rfl rfl rfl) rfl ?_)
    (refine nx (aM (gN rfl) rfl rfl rfl rfl rfl) rfl ?_)
    (refine nx (a_index (j := k) (gN rfl) rfl rfl rfl rfl rfl rfl rfl rfl rfl (hx') rfl (hsz)) rfl ?_)
    (refine nx (a_field_ad (gN rfl) rfl rfl rfl rfl rfl rfl rfl rfl rfl rfl rfl) rfl ?_)
    (refine nx (a_load_ad (gN rfl) rfl rfl rfl rfl rfl rfl rfl rfl rfl) rfl ?_)
    (refine nx (a_call (gN rfl) rfl rfl rfl rfl rfl (of_abs w x.a (hc x hxm).1)) rfl ?_)
    (refine nx (aM (gN rfl) rfl rfl rfl rfl rfl) rfl ?_)
    (refine nx (aM (gN rfl) rfl rfl rfl rfl rfl) rfl ?_)
    (refine nx (a_index (j := k) (gN rfl) rfl rfl rfl rfl rfl rfl rfl rfl rfl (hx') rfl (hsz)) rfl ?_)
    (refine nx (a_field_ad (gN rfl) rfl rfl rfl rfl rfl rfl rfl rfl rfl rfl rfl) rfl ?_)
    (refine nx (a_load_ad (gN rfl) rfl rfl rfl rfl rfl rfl rfl rfl rfl) rfl ?_)
    (refine nx (a_call (gN rfl) rfl rfl rfl rfl rfl (of_abs w x.b (hc x hxm).2)) rfl ?_)
    (refine nx (a_build (gN rfl) rfl rfl rfl rfl rfl rfl rfl rfl rfl rfl rfl) rfl ?_)
    (refine nx (a_bslice (gN rfl) rfl rfl rfl rfl rfl rfl rfl rfl rfl rfl rfl rfl rfl) rfl ?_)
    (refine nx (a_app (gN rfl) rfl rfl rfl rfl rfl rfl rfl rfl rfl rfl rfl rfl rfl rfl rfl (by first | assumption | exact sZ rfl | exact Tm.size_all _ | exact Bd.size_all _ | exact ints_size _ | exact bys_size _ | exact Lt.size_all _) (by first | assumption | exact sZ rfl | exact Tm.size_all _ | exact Bd.size_all _ | exact ints_size _ | exact bys_size _ | exact Lt.size_all _) (by first | omega | (simp only [List.length_map, List.length_append, List.length_cons, List.length_nil] <;> omega) | (simp <;> omega))) rfl ?_)
    (refine nx (aA (gN rfl) rfl rfl rfl rfl rfl) rfl ?_)
    refine ⟨by kernel_rfl, ?_⟩
    show AWp _ _ _ _ _ _ _
    refine aR ?_
    (refine nx (aM (gN rfl) rfl rfl rfl rfl rfl) rfl ?_)
    (first | (refine nx (a_add (gN rfl) rfl rfl rfl rfl rfl rfl (by first | omega | (simp only [List.length_map, List.length_append, List.length_cons, List.length_nil] <;> omega) | (simp <;> omega))) rfl ?_) | (refine nx (a_sadd (gN rfl) rfl rfl rfl rfl rfl rfl (by first | omega | (simp only [List.length_map, List.length_append, List.length_cons, List.length_nil] <;> omega) | (simp <;> omega))) (by first | rfl | kernel_rfl) ?_))
    (refine nx (aA (gN rfl) rfl rfl rfl rfl rfl) rfl ?_)
    refine ⟨hkl, Wk.trans (wk_sub (s' := [(0, .val (.lst (c.map Lt.cv))), (3, .own (.lst (((c.take (k + 1)).map id).map Lt.cv)) 300031), (300031, .tok 57 5), (4, .val (.i ((k + 1 : Nat) : Int)))]) ⟨rfl, ?_, rfl, rfl, trivial⟩) (wk_ren 300031 200031 rfl rfl rfl rfl)⟩
    rw [List.take_add_one, hx, List.map_append, List.map_append]
    rfl
  · have hkl : k = c.length := by
      have : ¬ k < c.length := by simpa using hlt
      omega
    subst hkl
    rw [List.take_length]
    refine aE ?_
    show AWp _ _ _ _ _ _ _
    refine aS (aR ?_)
    (refine nx (aM (gN rfl) rfl rfl rfl rfl rfl) rfl ?_)
    (refine nx (aA (gN rfl) rfl rfl rfl rfl rfl) rfl ?_)
    show AWp _ _ _ _ _ _ _
    exact aT (And.intro (.inr rfl) rfl)
theorem of11_abs (W : World) (c : List Lt) (hl : c.length ≤ 1000000) (hc : ∀ l ∈ c, l.a.ok ∧ l.b.ok) : AFun Tryd.prog W 20 [.lst (c.map Lt.cv)] (.val (.lst (c.map Lt.cv))) := by
  have := of11I_abs W c hl hc
  rw [List.map_id] at this
  exact this
def sameL (x y : Lt) : Bool := (x.neg == y.neg) && (sameT x.a y.a && sameT x.b y.b)
def sameC : List Lt → List Lt → Bool
  | [], [] => true
  | x :: l, y :: m => sameL x y && sameC l m
  | _, _ => false
end Go.Proofs.YtebhbnhijnpmcaaDoor
-- @STR@
namespace Go.Proofs.YtebhbnhijnpmcaaDoor
open Go.RowKit
set_option linter.unusedVariables false
set_option linter.unusedSimpArgs false
set_option maxRecDepth 100000
end Go.Proofs.YtebhbnhijnpmcaaDoor

-- @STR@
namespace Go.Proofs.YtebhbnhijnpmcaaDoor
open Go.RowKit
set_option linter.unusedVariables false
set_option linter.unusedSimpArgs false
set_option maxRecDepth 100000

theorem itoaS : ItoaN none 100 := fun z hz => by
  refine ⟨ent_of Tryd.func66 rfl rfl, .inl rfl, rfl, fun U w vs _ hv => ?_⟩
  obtain ⟨u, us, rfl, hu, hus⟩ := hv
  have hus : us = [] := hus
  subst hus
  obtain ⟨rfl, _⟩ := vrep_sc.1 hu
  refine (Tryd.strconv_Itoa_small z hz w).mono ?_
  rintro e w' ⟨rfl, rfl⟩
  exact ⟨_, rfl, vrep_sc.2 ⟨rfl, rfl⟩, Below.refl _ _⟩
def ex13S : Sg := ⟨[[36, 116, 114, 117, 101], [99], [102]], [0, 0, 1], [true, false, false]⟩
def ex13C : List Lt := [⟨true, ⟨2, [⟨-1, []⟩]⟩, ⟨1, []⟩⟩]
theorem ex13_tx : txC ex13S.nm ex13C = [102, 40, 88, 48, 41, 32, 33, 61, 32, 99] := by
  have h0 : Lib.decDigits 0 = [48] := by rw [Lib.decDigits_one (by omega)]; rfl
  have h1 : txT ex13S.nm ⟨-1, []⟩ = [88, 48] := by
    rw [txT_eq, if_pos (by decide)]
    show 88 :: Lib.decDigits 0 = _
    rw [h0]
  have h2 : txT ex13S.nm ⟨1, []⟩ = [99] := by
    rw [txT_eq, if_neg (by decide)]; rfl
  have h3 : txT ex13S.nm ⟨2, [⟨-1, []⟩]⟩ = [102, 40, 88, 48, 41] := by
    rw [txT_eq, if_neg (by decide)]
    show symX ex13S.nm 2 ++ parX [txT ex13S.nm ⟨-1, []⟩] = _
    rw [h1]; rfl
  unfold txC
  rw [if_neg (by simp [ex13C])]
  show joinW _ [txL ex13S.nm ⟨true, ⟨2, [⟨-1, []⟩]⟩, ⟨1, []⟩⟩] = _
  unfold txL
  rw [if_neg (by decide)]
  show joinW _ [txT ex13S.nm ⟨2, [⟨-1, []⟩]⟩ ++ ([32, 33, 61, 32] ++ txT ex13S.nm ⟨1, []⟩)] = _
  rw [h3, h2]; rfl
theorem ex13_nk : ∀ l ∈ ex13C, l.nk 100 3 := by
  have v : Tm.nk 100 3 ⟨-1, []⟩ := (Tm.nk_iff _ _ _).2 ⟨by decide, fun s hs => by cases hs⟩
  have c : Tm.nk 100 3 ⟨1, []⟩ := (Tm.nk_iff _ _ _).2 ⟨by decide, fun s hs => by cases hs⟩
  have f : Tm.nk 100 3 ⟨2, [⟨-1, []⟩]⟩ := (Tm.nk_iff _ _ _).2 ⟨by decide, fun s hs => by rw [List.mem_singleton.1 hs]; exact v⟩
  intro l hl
  rw [List.mem_singleton.1 hl]
  exact ⟨f, c⟩
-- 
set_option maxHeartbeats 1000000 in
theorem alive13_abs (W : World) : AFun Tryd.prog W 17 [] (.val (.b true)) := by
  refine afun_of (rs := [.b true]) Tryd.func17 Tryd.ntmps17 rfl rfl rfl rfl ?_
  intro w U hW
  have h1 : AFun Tryd.prog w 27 [sgv ex13S, lcv ex13C] (.val (sv [102, 40, 88, 48, 41, 32, 33, 61, 32, 99])) := by
    rw [← ex13_tx]
    exact (prCls_abs none 100 itoaS ex13S (by decide) ex13C (by decide) ex13_nk (by rw [ex13_tx]; decide)).plain
  have h2 : AFun Tryd.prog w 27 [sgv ex13S, lcv []] (.val (sv [36, 102, 97, 108, 115, 101])) := (prCls_abs none 100 itoaS ex13S (by decide) [] (by decide) (fun l hl => by cases hl) (by decide)).plain
  refine aS (aR ?_)
  (refine nx (aA (gN rfl) rfl rfl rfl rfl rfl) rfl ?_)
  show AWp _ _ _ _ _ _ _
  refine aS (aR ?_)
  (refine nx (a_bslice (gN rfl) rfl rfl rfl rfl rfl rfl rfl rfl rfl rfl rfl rfl rfl) rfl ?_)
  (refine nx (a_bslice (gN rfl) rfl rfl rfl rfl rfl rfl rfl rfl rfl rfl rfl rfl rfl) rfl ?_)
  (refine nx (a_bslice (gN rfl) rfl rfl rfl rfl rfl rfl rfl rfl rfl rfl rfl rfl rfl) rfl ?_)
  (refine nx (a_build (gN rfl) rfl rfl rfl rfl rfl rfl rfl rfl rfl rfl rfl) rfl ?_)
  (refine nx (a_allocT [.lst [], .lst [], .lst []] (gN rfl) rfl rfl rfl rfl rfl rfl rfl) rfl ?_)
  (refine nx (aSt (gN rfl) rfl rfl rfl rfl rfl rfl rfl rfl rfl rfl) rfl ?_)
  show AWp _ _ _ _ _ _ _
  refine AWp.wk (wk_sub (s' := [(1, .bp 1 0 []), (100001, .bx (sgv ex13S))]) ⟨rfl, rfl, trivial⟩) ?_
  refine aS (aR ?_)
  (refine nx (aL (gN rfl) rfl rfl rfl rfl rfl rfl rfl rfl rfl rfl rfl rfl) rfl ?_)
  (refine nx (a_buildP (gN rfl) rfl rfl rfl rfl rfl rfl rfl rfl rfl rfl rfl) rfl ?_)
  (refine nx (a_bslice (gN rfl) rfl rfl rfl rfl rfl rfl rfl rfl rfl rfl rfl rfl rfl) rfl ?_)
  (refine nx (a_buildP (gN rfl) rfl rfl rfl rfl rfl rfl rfl rfl rfl rfl rfl) rfl ?_)
  (refine nx (a_buildP (gN rfl) rfl rfl rfl rfl rfl rfl rfl rfl rfl rfl rfl) rfl ?_)
  (refine nx (a_buildT [.b false, .row [.i 0, .lst []], .row [.i 0, .lst []]] (gN rfl) rfl rfl rfl rfl rfl rfl rfl rfl rfl rfl rfl) rfl ?_)
  (refine nx (a_bslice (gN rfl) rfl rfl rfl rfl rfl rfl rfl rfl rfl rfl rfl rfl rfl) rfl ?_)
  (refine nx (a_call (gN rfl) rfl rfl rfl rfl rfl (h1)) rfl ?_)
  (refine nx (a_seql (gN rfl) rfl rfl rfl rfl rfl rfl rfl) rfl ?_)
  (refine nx (aM (gN rfl) rfl rfl rfl rfl rfl) rfl ?_)
  (refine nx (aL (gd_on rfl rfl rfl rfl (by first | rfl | assumption | (simp; done))) rfl rfl rfl rfl rfl rfl rfl rfl rfl rfl rfl rfl) rfl ?_)
  (refine nx (a_call (gd_on rfl rfl rfl rfl (by first | rfl | assumption | (simp; done))) rfl rfl rfl rfl rfl (h2)) rfl ?_)
  (refine nx (a_seql (gd_on rfl rfl rfl rfl (by first | rfl | assumption | (simp; done))) rfl rfl rfl rfl rfl rfl rfl) rfl ?_)
  (refine ⟨_, _, _, aPt (gN rfl) rfl rfl rfl rfl rfl ?hb rfl, rfl, ?_⟩; case hb => (first | rfl | assumption | (simp; done)))
  (refine nx (aA (gN rfl) rfl rfl rfl rfl rfl) rfl ?_)
  show AWp _ _ _ _ _ _ _
  exact aT (And.intro (.inr rfl) rfl)
end Go.Proofs.YtebhbnhijnpmcaaDoor

