/-
  PsRight PsRight2 PsRefR PsOk PsGood AbRowO AbKind CodeMath CodeLen CodePut CodePutMore RefSame CodeRef CodeAlive CodeReadMath CodeRead CodeUint CodeText CodeBackMath ClBy ClCode ClPut ClGet ClGet2 ClA ClB
-/
import Derived.Test.YtgpnomjjjlomhaaDoorMg4
import Derived.Test.YtgpnomjjjlomhaaDoorMg2
import Derived.WalkKit
import Derived.Test.YtgpnomjjjlomhaaDoorChecked
import Derived.WalkLawsBesides
import Derived.WalkSpells
import Derived.Test.YtgpnomjjjlomhaaDoorMg1
import Derived.Laws.BitsAllLaws
import Derived.Deep.QuietTactic
import Derived.BigQuiet
import Derived.Laws.BytesArg
-- @STR@
namespace Go.Proofs.YtgpnomjjjlomhaaDoor
open Go.RowKit
set_option linter.unusedVariables false
set_option linter.unusedSimpArgs false
set_option maxRecDepth 100000

section
variable {P : Program} {w0 : World} {U0 : UX} {nt : Nat} {ops : Array Oper} {o : Oper} {gs : List Nat} {S : Nat → Option AV} {d : Nat}
theorem a_min3 (hg : Gd w0 U0 nt ops o gs S) (hd : o.dst = some d) (hn : Nat.blt d nt = true) (h5 : Nat.blt d 100000 = true) {x y z : Operand} {ts : Array TypeId} {k : IntKind} {i j m : Int} {n q p n' q' p' n2 q2 p2} (ho : o.op = .call { callee := .builtin .min, args := #[x, y, z], argTypes := ts }) (hx : ev S x = some ⟨0, .sc (.int k i), n, q, p⟩) (hy : ev S y = some ⟨0, .sc (.int k j), n', q', p'⟩) (hz : ev S z = some ⟨0, .sc (.int k m), n2, q2, p2⟩) : AOp P w0 U0 nt ops o (gs ++ (rd x ++ (rd y ++ rd z))) [] S [(d, .val (.sc (.int k (min (min i j) m))))] :=
  aop_val hg hd hn h5 (fun k hk => List.mem_append_left _ hk) fun s hs a w D hv hm => by
    have e1 := ev_sc hm (fun k hk => hs k (List.mem_append_right _ (List.mem_append_left _ hk))) hx
    have e2 := ev_sc hm (fun k hk => hs k (List.mem_append_right _ (List.mem_append_right _ (List.mem_append_left _ hk)))) hy
    have e4 := ev_sc hm (fun k hk => hs k (List.mem_append_right _ (List.mem_append_right _ (List.mem_append_right _ hk)))) hz
    refine ⟨.int k (min (min i j) m), ?_, avrep_sc rfl⟩
    have e3 : (if j < i then j else i) = min i j := by split <;> omega
    have e5 : (if m < min i j then m else min i j) = min (min i j) m := by split <;> omega
    generalize a.eval = ρ at e1 e2 e4 ⊢
    simp [execOp, ho, resolve, invoke, builtin, Builtin.min_, Builtin.min2, e1, e2, e4, e3, e5]
end
def sgc (s : Sg) : Nat := min (min s.nm.length s.ar.length) s.pr.length
def fitB (s : Sg) (t : Tm) : Bool := decide (0 ≤ t.f) && (decide (t.f < (sgc s : Int)) && decide (s.ar[t.f.toNat]? = some t.l.length))
noncomputable def rtB (s : Sg) (t : Tm) : Bool := Tm.rec (motive_1 := fun _ => Bool) (motive_2 := fun _ => Bool) (fun f l ih => decide (f < 0) || (decide (0 < f) && (fitB s ⟨f, l⟩ && (!(s.pr.getD f.toNat false) && ih)))) true (fun _ _ a b => a && b) t
theorem rtB_mk (s : Sg) (f : Int) (l : List Tm) : rtB s ⟨f, l⟩ = (decide (f < 0) || (decide (0 < f) && (fitB s ⟨f, l⟩ && (!(s.pr.getD f.toNat false) && l.all (rtB s))))) := by
  have hl : ∀ l : List Tm, Tm.rec_1 (motive_1 := fun _ => Bool) (motive_2 := fun _ => Bool) (fun f l ih => decide (f < 0) || (decide (0 < f) && (fitB s ⟨f, l⟩ && (!(s.pr.getD f.toNat false) && ih)))) true (fun _ _ a b => a && b) l = l.all (rtB s) := by
    intro l
    induction l with
    | nil => rfl
    | cons c cs ih => rw [List.all_cons, ← ih]; rfl
  rw [← hl]
  rfl
noncomputable def atB (s : Sg) (t : Tm) : Bool := decide (0 < t.f) && (fitB s t && (s.pr.getD t.f.toNat false && t.l.all (rtB s)))
def trB (t : Tm) : Bool := decide (t.f = 0) && decide (t.l.length = 0)
noncomputable def rlB (s : Sg) (l : Lt) : Bool := match trB l.b with
  | false => rtB s l.a && rtB s l.b
  | true => atB s l.a && fitB s l.b
noncomputable def rcB (s : Sg) (c : List Lt) : Bool := c.all (rlB s)
-- 
theorem truth_abs (W : World) (t : Tm) : AFun Tryd.prog W 45 [t.cw] (.val (.b (trB t))) := by
  refine afun_of (rs := [.b (trB t)]) Tryd.func45 Tryd.ntmps45 rfl rfl rfl rfl ?_
  intro w U hW
  unfold trB
  refine aS (aR ?_)
  (refine nx (a_box (gN rfl) rfl rfl rfl rfl rfl) rfl ?_)
  (refine nx (aA (gN rfl) rfl rfl rfl rfl rfl) rfl ?_)
  show AWp _ _ _ _ _ _ _
  cases hf : decide (t.f = 0) with
  | true =>
    refine aS (aR ?_)
    (refine nx (aF (gN rfl) rfl rfl rfl rfl rfl rfl rfl rfl rfl) rfl ?_)
    (refine nx (aLb (gN rfl) rfl rfl rfl rfl rfl rfl rfl rfl rfl rfl rfl rfl) rfl ?_)
    (refine nx (a_eql (gN rfl) rfl rfl rfl rfl rfl rfl) rfl ?_)
    (refine nx (aM (gN rfl) rfl rfl rfl rfl rfl) rfl ?_)
    (refine nx (aF (gd_on rfl rfl rfl rfl (by first | rfl | assumption | (simp; done))) rfl rfl rfl rfl rfl rfl rfl rfl rfl) rfl ?_)
    (refine nx (aLb (gd_on rfl rfl rfl rfl (by first | rfl | assumption | (simp; done))) rfl rfl rfl rfl rfl rfl rfl rfl rfl rfl rfl rfl) rfl ?_)
    (refine nx (a_len (gd_on rfl rfl rfl rfl (by first | rfl | assumption | (simp; done))) rfl rfl rfl rfl rfl rfl rfl) rfl ?_)
    (refine nx (a_eql (gd_on rfl rfl rfl rfl (by first | rfl | assumption | (simp; done))) rfl rfl rfl rfl rfl rfl) rfl ?_)
    (refine ⟨_, _, _, aPt (gN rfl) rfl rfl rfl rfl rfl ?hb rfl, rfl, ?_⟩; case hb => (first | rfl | assumption | (simp; done)))
    (refine nx (aA (gN rfl) rfl rfl rfl rfl rfl) rfl ?_)
    show AWp _ _ _ _ _ _ _
    refine aT (And.intro (.inr rfl) ?_)
    show some [CV.b (decide (((t.l.map Tm.cv).length : Int) = 0))] = some [CV.b (true && decide (t.l.length = 0))]
    rw [List.length_map, Bool.true_and]
    congr 3
    exact decide_eq_decide.2 (by omega)
  | false =>
    refine aS (aR ?_)
    (refine nx (aF (gN rfl) rfl rfl rfl rfl rfl rfl rfl rfl rfl) rfl ?_)
    (refine nx (aLb (gN rfl) rfl rfl rfl rfl rfl rfl rfl rfl rfl rfl rfl rfl) rfl ?_)
    (refine nx (a_eql (gN rfl) rfl rfl rfl rfl rfl rfl) rfl ?_)
    (refine nx (aM (gN rfl) rfl rfl rfl rfl rfl) rfl ?_)
    (refine ⟨_, _, _, a_off (go_off rfl rfl rfl rfl (by first | rfl | assumption | (simp; done) | (simp [*]; done))) rfl rfl rfl, rfl, ?_⟩)
    (refine ⟨_, _, _, a_off (go_off rfl rfl rfl rfl (by first | rfl | assumption | (simp; done) | (simp [*]; done))) rfl rfl rfl, rfl, ?_⟩)
    (refine ⟨_, _, _, a_off (go_off rfl rfl rfl rfl (by first | rfl | assumption | (simp; done) | (simp [*]; done))) rfl rfl rfl, rfl, ?_⟩)
    (refine ⟨_, _, _, a_off (go_off rfl rfl rfl rfl (by first | rfl | assumption | (simp; done) | (simp [*]; done))) rfl rfl rfl, rfl, ?_⟩)
    (refine ⟨_, _, _, aPf (gN rfl) rfl rfl rfl rfl rfl ?hb rfl, rfl, ?_⟩; case hb => (first | rfl | assumption | (simp; done)))
    (refine nx (aA (gN rfl) rfl rfl rfl rfl rfl) rfl ?_)
    show AWp _ _ _ _ _ _ _
    exact aT (And.intro (.inr rfl) rfl)
-- 
set_option maxHeartbeats 2000000 in
theorem fits_abs (W : World) (s : Sg) (t : Tm) : AFun Tryd.prog W 48 [sgv s, t.cw] (.val (.b (fitB s t))) := by
  have hz := ivs_size s.ar
  refine afun_of (rs := [.b (fitB s t)]) Tryd.func48 Tryd.ntmps48 rfl rfl rfl rfl ?_
  intro w U hW
  refine aS (aR ?_)
  (refine nx (a_box (gN rfl) rfl rfl rfl rfl rfl) rfl ?_)
  (refine nx (a_box (gN rfl) rfl rfl rfl rfl rfl) rfl ?_)
  (refine nx (aA (gN rfl) rfl rfl rfl rfl rfl) rfl ?_)
  show AWp _ _ _ _ _ _ _
  refine aS (aR ?_)
  (refine nx (aF (gN rfl) rfl rfl rfl rfl rfl rfl rfl rfl rfl) rfl ?_)
  (refine nx (aLb (gN rfl) rfl rfl rfl rfl rfl rfl rfl rfl rfl rfl rfl rfl) rfl ?_)
  (refine nx (a_len (gN rfl) rfl rfl rfl rfl rfl rfl rfl) rfl ?_)
  (refine nx (aF (gN rfl) rfl rfl rfl rfl rfl rfl rfl rfl rfl) rfl ?_)
  (refine nx (aLb (gN rfl) rfl rfl rfl rfl rfl rfl rfl rfl rfl rfl rfl rfl) rfl ?_)
  (refine nx (a_len (gN rfl) rfl rfl rfl rfl rfl rfl rfl) rfl ?_)
  (refine nx (aF (gN rfl) rfl rfl rfl rfl rfl rfl rfl rfl rfl) rfl ?_)
  (refine nx (aLb (gN rfl) rfl rfl rfl rfl rfl rfl rfl rfl rfl rfl rfl rfl) rfl ?_)
  (refine nx (a_len (gN rfl) rfl rfl rfl rfl rfl rfl rfl) rfl ?_)
  (refine nx (a_min3 (gN rfl) rfl rfl rfl rfl rfl rfl rfl) rfl ?_)
  (refine nx (aA (gN rfl) rfl rfl rfl rfl rfl) rfl ?_)
  show AWp _ _ _ _ _ _ _
  have hmin : min (min (((s.nm.map sv).length : Nat) : Int) (((s.ar.map iv).length : Nat) : Int)) (((s.pr.map bv).length : Nat) : Int) = (sgc s : Int) := by
    simp only [List.length_map]
    unfold sgc
    omega
  refine AWp.wk (wk_sub (s' := [(2, .bp 2 0 []), (100002, .bx (sgv s)), (3, .bp 3 0 []), (100003, .bx t.cw), (5, .val (.i (sgc s : Int)))]) ⟨rfl, rfl, rfl, rfl, by rw [← hmin]; rfl, trivial⟩) ?_
  unfold fitB
  cases h1 : decide (0 ≤ t.f) with
  | false =>
    refine aS (aD (by kernel_rfl) (by kernel_rfl) ?_)
    (refine nx (aF (gN rfl) rfl rfl rfl rfl rfl rfl rfl rfl rfl) rfl ?_)
    (refine nx (aLb (gN rfl) rfl rfl rfl rfl rfl rfl rfl rfl rfl rfl rfl rfl) rfl ?_)
    (refine nx (a_leq (gN rfl) rfl rfl rfl rfl rfl rfl) rfl ?_)
    (refine nx (aM (gN rfl) rfl rfl rfl rfl rfl) rfl ?_)
    (refine ⟨_, _, _, a_off (go_off rfl rfl rfl rfl (by first | rfl | assumption | (simp; done) | (simp [*]; done))) rfl rfl rfl, rfl, ?_⟩)
    (refine ⟨_, _, _, a_off (go_off rfl rfl rfl rfl (by first | rfl | assumption | (simp; done) | (simp [*]; done))) rfl rfl rfl, rfl, ?_⟩)
    (refine ⟨_, _, _, a_off (go_off rfl rfl rfl rfl (by first | rfl | assumption | (simp; done) | (simp [*]; done))) rfl rfl rfl, rfl, ?_⟩)
    (refine ⟨_, _, _, a_off (go_off rfl rfl rfl rfl (by first | rfl | assumption | (simp; done) | (simp [*]; done))) rfl rfl rfl, rfl, ?_⟩)
    (refine ⟨_, _, _, aPf (gN rfl) rfl rfl rfl rfl rfl ?hb rfl, rfl, ?_⟩; case hb => (first | rfl | assumption | (simp; done)))
    (refine nx (aM (gN rfl) rfl rfl rfl rfl rfl) rfl ?_)
    (refine ⟨_, _, _, a_off (go_off rfl rfl rfl rfl (by first | rfl | assumption | (simp; done) | (simp [*]; done))) rfl rfl rfl, rfl, ?_⟩)
    (refine ⟨_, _, _, a_off (go_off rfl rfl rfl rfl (by first | rfl | assumption | (simp; done) | (simp [*]; done))) rfl rfl rfl, rfl, ?_⟩)
    (refine ⟨_, _, _, a_off (go_off rfl rfl rfl rfl (by first | rfl | assumption | (simp; done) | (simp [*]; done))) rfl rfl rfl, rfl, ?_⟩)
    (refine ⟨_, _, _, a_off (go_off rfl rfl rfl rfl (by first | rfl | assumption | (simp; done) | (simp [*]; done))) rfl rfl rfl, rfl, ?_⟩)
    (refine ⟨_, _, _, a_off (go_off rfl rfl rfl rfl (by first | rfl | assumption | (simp; done) | (simp [*]; done))) rfl rfl rfl, rfl, ?_⟩)
    (refine ⟨_, _, _, a_off (go_off rfl rfl rfl rfl (by first | rfl | assumption | (simp; done) | (simp [*]; done))) rfl rfl rfl, rfl, ?_⟩)
    (refine ⟨_, _, _, a_off (go_off rfl rfl rfl rfl (by first | rfl | assumption | (simp; done) | (simp [*]; done))) rfl rfl rfl, rfl, ?_⟩)
    (refine ⟨_, _, _, a_off (go_off rfl rfl rfl rfl (by first | rfl | assumption | (simp; done) | (simp [*]; done))) rfl rfl rfl, rfl, ?_⟩)
    (refine ⟨_, _, _, a_off (go_off rfl rfl rfl rfl (by first | rfl | assumption | (simp; done) | (simp [*]; done))) rfl rfl rfl, rfl, ?_⟩)
    (refine ⟨_, _, _, a_off (go_off rfl rfl rfl rfl (by first | rfl | assumption | (simp; done) | (simp [*]; done))) rfl rfl rfl, rfl, ?_⟩)
    (refine ⟨_, _, _, aPf (gN rfl) rfl rfl rfl rfl rfl ?hb rfl, rfl, ?_⟩; case hb => (first | rfl | assumption | (simp; done)))
    (refine nx (aA (gN rfl) rfl rfl rfl rfl rfl) rfl ?_)
    refine ⟨by kernel_rfl, ?_⟩
    show AWp _ _ _ _ _ _ _
    exact aT (And.intro (.inr rfl) rfl)
  | true =>
    cases h2 : decide (t.f < (sgc s : Int)) with
    | false =>
      refine aS (aD (by kernel_rfl) (by kernel_rfl) ?_)
      (refine nx (aF (gN rfl) rfl rfl rfl rfl rfl rfl rfl rfl rfl) rfl ?_)
      (refine nx (aLb (gN rfl) rfl rfl rfl rfl rfl rfl rfl rfl rfl rfl rfl rfl) rfl ?_)
      (refine nx (a_leq (gN rfl) rfl rfl rfl rfl rfl rfl) rfl ?_)
      (refine nx (aM (gN rfl) rfl rfl rfl rfl rfl) rfl ?_)
      (refine nx (aF (gd_on rfl rfl rfl rfl (by first | rfl | assumption | (simp; done))) rfl rfl rfl rfl rfl rfl rfl rfl rfl) rfl ?_)
      (refine nx (aLb (gd_on rfl rfl rfl rfl (by first | rfl | assumption | (simp; done))) rfl rfl rfl rfl rfl rfl rfl rfl rfl rfl rfl rfl) rfl ?_)
      (refine nx (aM (gd_on rfl rfl rfl rfl (by first | rfl | assumption | (simp; done))) rfl rfl rfl rfl rfl) rfl ?_)
      (refine nx (a_lss (gd_on rfl rfl rfl rfl (by first | rfl | assumption | (simp; done))) rfl rfl rfl rfl rfl rfl) rfl ?_)
      (refine ⟨_, _, _, aPt (gN rfl) rfl rfl rfl rfl rfl ?hb rfl, rfl, ?_⟩; case hb => (first | rfl | assumption | (simp; done)))
      (refine nx (aM (gN rfl) rfl rfl rfl rfl rfl) rfl ?_)
      (refine ⟨_, _, _, a_off (go_off rfl rfl rfl rfl (by first | rfl | assumption | (simp; done) | (simp [*]; done))) rfl rfl rfl, rfl, ?_⟩)
      (refine ⟨_, _, _, a_off (go_off rfl rfl rfl rfl (by first | rfl | assumption | (simp; done) | (simp [*]; done))) rfl rfl rfl, rfl, ?_⟩)
      (refine ⟨_, _, _, a_off (go_off rfl rfl rfl rfl (by first | rfl | assumption | (simp; done) | (simp [*]; done))) rfl rfl rfl, rfl, ?_⟩)
      (refine ⟨_, _, _, a_off (go_off rfl rfl rfl rfl (by first | rfl | assumption | (simp; done) | (simp [*]; done))) rfl rfl rfl, rfl, ?_⟩)
      (refine ⟨_, _, _, a_off (go_off rfl rfl rfl rfl (by first | rfl | assumption | (simp; done) | (simp [*]; done))) rfl rfl rfl, rfl, ?_⟩)
      (refine ⟨_, _, _, a_off (go_off rfl rfl rfl rfl (by first | rfl | assumption | (simp; done) | (simp [*]; done))) rfl rfl rfl, rfl, ?_⟩)
      (refine ⟨_, _, _, a_off (go_off rfl rfl rfl rfl (by first | rfl | assumption | (simp; done) | (simp [*]; done))) rfl rfl rfl, rfl, ?_⟩)
      (refine ⟨_, _, _, a_off (go_off rfl rfl rfl rfl (by first | rfl | assumption | (simp; done) | (simp [*]; done))) rfl rfl rfl, rfl, ?_⟩)
      (refine ⟨_, _, _, a_off (go_off rfl rfl rfl rfl (by first | rfl | assumption | (simp; done) | (simp [*]; done))) rfl rfl rfl, rfl, ?_⟩)
      (refine ⟨_, _, _, a_off (go_off rfl rfl rfl rfl (by first | rfl | assumption | (simp; done) | (simp [*]; done))) rfl rfl rfl, rfl, ?_⟩)
      (refine ⟨_, _, _, aPf (gN rfl) rfl rfl rfl rfl rfl ?hb rfl, rfl, ?_⟩; case hb => (first | rfl | assumption | (simp; done)))
      (refine nx (aA (gN rfl) rfl rfl rfl rfl rfl) rfl ?_)
      refine ⟨by kernel_rfl, ?_⟩
      show AWp _ _ _ _ _ _ _
      exact aT (And.intro (.inr rfl) rfl)
    | true =>
      obtain ⟨f, l⟩ := t
      have h1' : 0 ≤ f := by simpa using h1
      obtain ⟨j, rfl⟩ : ∃ j : Nat, f = (j : Int) := ⟨f.toNat, by omega⟩
      have h2' : j < sgc s := by
        have : (j : Int) < (sgc s : Int) := by simpa using h2
        omega
      have hja : j < s.ar.length := by unfold sgc at h2'; omega
      obtain ⟨x, hx⟩ : ∃ x, s.ar[j]? = some x := ⟨s.ar[j], List.getElem?_eq_getElem hja⟩
      have hx' : (s.ar.map iv)[j]? = some (iv x) := by rw [List.getElem?_map, hx]; rfl
      refine aS (aD (by kernel_rfl) (by kernel_rfl) ?_)
      (refine nx (aF (gN rfl) rfl rfl rfl rfl rfl rfl rfl rfl rfl) rfl ?_)
      (refine nx (aLb (gN rfl) rfl rfl rfl rfl rfl rfl rfl rfl rfl rfl rfl rfl) rfl ?_)
      (refine nx (a_leq (gN rfl) rfl rfl rfl rfl rfl rfl) rfl ?_)
      (refine nx (aM (gN rfl) rfl rfl rfl rfl rfl) rfl ?_)
      (refine nx (aF (gd_on rfl rfl rfl rfl (by first | rfl | assumption | (simp; done))) rfl rfl rfl rfl rfl rfl rfl rfl rfl) rfl ?_)
      (refine nx (aLb (gd_on rfl rfl rfl rfl (by first | rfl | assumption | (simp; done))) rfl rfl rfl rfl rfl rfl rfl rfl rfl rfl rfl rfl) rfl ?_)
      (refine nx (aM (gd_on rfl rfl rfl rfl (by first | rfl | assumption | (simp; done))) rfl rfl rfl rfl rfl) rfl ?_)
      (refine nx (a_lss (gd_on rfl rfl rfl rfl (by first | rfl | assumption | (simp; done))) rfl rfl rfl rfl rfl rfl) rfl ?_)
      (refine ⟨_, _, _, aPt (gN rfl) rfl rfl rfl rfl rfl ?hb rfl, rfl, ?_⟩; case hb => (first | rfl | assumption | (simp; done)))
      (refine nx (aM (gN rfl) rfl rfl rfl rfl rfl) rfl ?_)
      (refine nx (aF (gd_on rfl rfl rfl rfl (by first | rfl | assumption | (simp; done))) rfl rfl rfl rfl rfl rfl rfl rfl rfl) rfl ?_)
      (refine nx (aLb (gd_on rfl rfl rfl rfl (by first | rfl | assumption | (simp; done))) rfl rfl rfl rfl rfl rfl rfl rfl rfl rfl rfl rfl) rfl ?_)
      (refine nx (a_len (gd_on rfl rfl rfl rfl (by first | rfl | assumption | (simp; done))) rfl rfl rfl rfl rfl rfl rfl) rfl ?_)
      (refine nx (aF (gd_on rfl rfl rfl rfl (by first | rfl | assumption | (simp; done))) rfl rfl rfl rfl rfl rfl rfl rfl rfl) rfl ?_)
      (refine nx (aLb (gd_on rfl rfl rfl rfl (by first | rfl | assumption | (simp; done))) rfl rfl rfl rfl rfl rfl rfl rfl rfl rfl rfl rfl) rfl ?_)
      (refine nx (aF (gd_on rfl rfl rfl rfl (by first | rfl | assumption | (simp; done))) rfl rfl rfl rfl rfl rfl rfl rfl rfl) rfl ?_)
      (refine nx (aLb (gd_on rfl rfl rfl rfl (by first | rfl | assumption | (simp; done))) rfl rfl rfl rfl rfl rfl rfl rfl rfl rfl rfl rfl) rfl ?_)
      (refine nx (a_index (j := j) (gd_on rfl rfl rfl rfl (by first | rfl | assumption | (simp; done))) rfl rfl rfl rfl rfl rfl rfl rfl rfl (hx') rfl (hz)) rfl ?_)
      (refine nx (a_load_ad (gd_on rfl rfl rfl rfl (by first | rfl | assumption | (simp; done))) rfl rfl rfl rfl rfl rfl rfl rfl rfl) rfl ?_)
      (refine nx (a_eql (gd_on rfl rfl rfl rfl (by first | rfl | assumption | (simp; done))) rfl rfl rfl rfl rfl rfl) rfl ?_)
      (refine ⟨_, _, _, aPt (gN rfl) rfl rfl rfl rfl rfl ?hb rfl, rfl, ?_⟩; case hb => (first | rfl | assumption | (simp; done)))
      (refine nx (aA (gN rfl) rfl rfl rfl rfl rfl) rfl ?_)
      refine ⟨by kernel_rfl, ?_⟩
      show AWp _ _ _ _ _ _ _
      refine aT (And.intro (.inr rfl) ?_)
      show some [CV.b (decide (((l.map Tm.cv).length : Int) = (x : Int)))] = some [CV.b (true && (true && decide (s.ar[((j : Int)).toNat]? = some l.length)))]
      rw [List.length_map, Bool.true_and, Bool.true_and, Int.toNat_natCast, hx]
      congr 3
      exact decide_eq_decide.2 ⟨fun h => by congr 1; omega, fun h => by injection h with h; omega⟩
end Go.Proofs.YtgpnomjjjlomhaaDoor

-- @STR@
namespace Go.Proofs.YtgpnomjjjlomhaaDoor
open Go.RowKit
set_option linter.unusedVariables false
set_option linter.unusedSimpArgs false
set_option maxRecDepth 100000

def RtC (s : Sg) (t : Tm) : Prop := ∀ W : World, AFun Tryd.prog W 46 [sgv s, t.cw] (.val (.b (rtB s t)))
-- 
set_option maxHeartbeats 2000000 in
theorem terms_of (W : World) (s : Sg) (l : List Tm) (hl : l.length ≤ 10000000000) (hT : ∀ t ∈ l, RtC s t) : AFun Tryd.prog W 54 [sgv s, .lst (l.map Tm.cv)] (.val (.b (l.all (rtB s)))) := by
  have hz := Tm.size_all l
  refine afun_of (rs := [.b (l.all (rtB s))]) Tryd.func54 Tryd.ntmps54 rfl rfl rfl rfl ?_
  intro w U hW
  refine aS (aR ?_)
  (refine nx (a_box (gN rfl) rfl rfl rfl rfl rfl) rfl ?_)
  (refine nx (aA (gN rfl) rfl rfl rfl rfl rfl) rfl ?_)
  show AWp _ _ _ _ _ _ _
  refine aS (aS (aR ?_))
  (refine nx (aM (gN rfl) rfl rfl rfl rfl rfl) rfl ?_)
  (refine nx (a_len (gN rfl) rfl rfl rfl rfl rfl rfl rfl) rfl ?_)
  (refine nx (aM (gN rfl) rfl rfl rfl rfl rfl) rfl ?_)
  show AWp _ _ _ _ _ _ _
  refine aB (awp_countI l.length (fun k => (l.take k).all (rtB s) = true) (fun k => [(2, .bp 2 0 []), (100002, .bx (sgv s)), (7, .val (.lst (l.map Tm.cv))), (8, .val (.i (l.map Tm.cv).length)), (9, .val (.i (k : Int)))]) (wk_sub ⟨rfl, rfl, rfl, rfl, rfl, trivial⟩) rfl ?_)
  intro k hk hI
  refine aS (aR ?_)
  (refine nx (a_lss (gN rfl) rfl rfl rfl rfl rfl rfl) rfl ?_)
  show AWp _ _ _ _ _ _ _
  refine aS (aC rfl (fun hlt => ?_) (fun hlt => ?_))
  · have hkl : k < l.length := by simpa using hlt
    obtain ⟨x, hx⟩ : ∃ x, l[k]? = some x := ⟨l[k], List.getElem?_eq_getElem hkl⟩
    have hx' := Tm.map_at hx
    have hxm := List.mem_of_getElem? hx
    have hc := hT x hxm w
    have h1 : (l.take (k + 1)).all (rtB s) = ((l.take k).all (rtB s) && rtB s x) := by rw [List.take_add_one, hx, List.all_append]; simp
    refine aK ?_
    show AWp _ _ _ _ _ _ _
    refine aS (aB (aS (aR ?_)))
    (refine nx (a_index (j := k) (gN rfl) rfl rfl rfl rfl rfl rfl rfl rfl rfl (hx') rfl (hz)) rfl ?_)
    (refine nx (a_load_ad (gN rfl) rfl rfl rfl rfl rfl rfl rfl rfl rfl) rfl ?_)
    (refine nx (a_alloc (gN rfl) rfl rfl rfl rfl rfl rfl rfl rfl rfl rfl) rfl ?_)
    (refine nx (aSt (gN rfl) rfl rfl rfl rfl rfl rfl rfl rfl rfl rfl) rfl ?_)
    show AWp _ _ _ _ _ _ _
    cases hb : rtB s x with
    | false =>
      rw [hb] at hc
      refine aS (aR ?_)
      (refine nx (aL (gN rfl) rfl rfl rfl rfl rfl rfl rfl rfl rfl rfl rfl rfl) rfl ?_)
      (refine nx (aL (gN rfl) rfl rfl rfl rfl rfl rfl rfl rfl rfl rfl rfl rfl) rfl ?_)
      (refine nx (a_call (gN rfl) rfl rfl rfl rfl rfl (hc)) rfl ?_)
      (refine nx (a_not (gN rfl) rfl rfl rfl rfl rfl) rfl ?_)
      show AWp _ _ _ _ _ _ _
      refine aC rfl (fun hc => ?_) (fun hc => by cases hc)
      refine aS (aR ?_)
      (refine nx (aA (gN rfl) rfl rfl rfl rfl rfl) rfl ?_)
      show AWp _ _ _ _ _ _ _
      refine aT (And.intro (.inr rfl) ?_)
      have : l.all (rtB s) = false := by
        rw [List.all_eq_false]
        exact ⟨x, hxm, by rw [hb]; simp⟩
      rw [this]
      rfl
    | true =>
      rw [hb] at hc h1
      refine aS (aR ?_)
      (refine nx (aL (gN rfl) rfl rfl rfl rfl rfl rfl rfl rfl rfl rfl rfl rfl) rfl ?_)
      (refine nx (aL (gN rfl) rfl rfl rfl rfl rfl rfl rfl rfl rfl rfl rfl rfl) rfl ?_)
      (refine nx (a_call (gN rfl) rfl rfl rfl rfl rfl (hc)) rfl ?_)
      (refine nx (a_not (gN rfl) rfl rfl rfl rfl rfl) rfl ?_)
      show AWp _ _ _ _ _ _ _
      refine aC rfl (fun hc => by cases hc) (fun hc => aK ?_)
      show AWp _ _ _ _ _ _ _
      refine aR ?_
      (refine nx (a_add (gN rfl) rfl rfl rfl rfl rfl rfl (by first | omega | (simp only [List.length_map, List.length_append, List.length_cons, List.length_nil] <;> omega) | (simp <;> omega))) rfl ?_)
      (refine nx (aM (gN rfl) rfl rfl rfl rfl rfl) rfl ?_)
      refine ⟨hkl, by show (l.take (k + 1)).all (rtB s) = true; rw [h1, hI]; rfl, wk_sub ⟨rfl, rfl, rfl, rfl, rfl, trivial⟩⟩
  · have hkl : k = l.length := by
      have : ¬ k < l.length := by simpa using hlt
      omega
    subst hkl
    rw [List.take_length] at hI
    refine aE ?_
    show AWp _ _ _ _ _ _ _
    refine aS (aR ?_)
    (refine nx (aA (gN rfl) rfl rfl rfl rfl rfl) rfl ?_)
    show AWp _ _ _ _ _ _ _
    refine aT (And.intro (.inr rfl) ?_)
    rw [hI]
    rfl
-- 
set_option maxHeartbeats 4000000 in
theorem rightT_of (s : Sg) (t : Tm) (hl : t.l.length ≤ 10000000000) (hT : ∀ q ∈ t.l, RtC s q) : RtC s t := by
  intro W
  have hz := bvs_size s.pr
  obtain ⟨f, l⟩ := t
  rw [rtB_mk]
  refine afun_of (rs := [.b (decide (f < 0) || (decide (0 < f) && (fitB s ⟨f, l⟩ && (!(s.pr.getD f.toNat false) && l.all (rtB s)))))]) Tryd.func46 Tryd.ntmps46 rfl rfl rfl rfl ?_
  intro w U hW
  have hft := fits_abs w s ⟨f, l⟩
  have htt := terms_of w s l hl hT
  refine aS (aR ?_)
  (refine nx (a_box (gN rfl) rfl rfl rfl rfl rfl) rfl ?_)
  (refine nx (a_box (gN rfl) rfl rfl rfl rfl rfl) rfl ?_)
  (refine nx (aA (gN rfl) rfl rfl rfl rfl rfl) rfl ?_)
  show AWp _ _ _ _ _ _ _
  refine AWp.wk (wk_sub (s' := [(2, .bp 2 0 []), (100002, .bx (sgv s)), (3, .bp 3 0 []), (100003, .bx (Tm.cw ⟨f, l⟩))]) ⟨rfl, rfl, rfl, rfl, trivial⟩) ?_
  refine aS (aS (aR ?_))
  (refine nx (aF (gN rfl) rfl rfl rfl rfl rfl rfl rfl rfl rfl) rfl ?_)
  (refine nx (aLb (gN rfl) rfl rfl rfl rfl rfl rfl rfl rfl rfl rfl rfl rfl) rfl ?_)
  (refine nx (a_lss (gN rfl) rfl rfl rfl rfl rfl rfl) rfl ?_)
  show AWp _ _ _ _ _ _ _
  refine aC rfl (fun hc => ?_) (fun hc => aK ?_)
  · refine aS (aR ?_)
    (refine nx (aA (gN rfl) rfl rfl rfl rfl rfl) rfl ?_)
    show AWp _ _ _ _ _ _ _
    refine aT (And.intro (.inr rfl) ?_)
    have hc : decide (f < 0) = true := hc
    rw [hc]
    rfl
  · have hc : decide (f < 0) = false := hc
    have hc' : ¬ f < 0 := by simpa using hc
    rw [hc]
    show AWp _ _ _ _ _ _ _
    cases h1 : decide (0 < f) with
    | false =>
      refine aS (aR ?_)
      (refine nx (aF (gN rfl) rfl rfl rfl rfl rfl rfl rfl rfl rfl) rfl ?_)
      (refine nx (aLb (gN rfl) rfl rfl rfl rfl rfl rfl rfl rfl rfl rfl rfl rfl) rfl ?_)
      (refine nx (a_gtr (gN rfl) rfl rfl rfl rfl rfl rfl) rfl ?_)
      (refine nx (aM (gN rfl) rfl rfl rfl rfl rfl) rfl ?_)
      (refine ⟨_, _, _, a_off (go_off rfl rfl rfl rfl (by first | rfl | assumption | (simp; done) | (simp [*]; done))) rfl rfl rfl, rfl, ?_⟩)
      (refine ⟨_, _, _, a_off (go_off rfl rfl rfl rfl (by first | rfl | assumption | (simp; done) | (simp [*]; done))) rfl rfl rfl, rfl, ?_⟩)
      (refine ⟨_, _, _, a_off (go_off rfl rfl rfl rfl (by first | rfl | assumption | (simp; done) | (simp [*]; done))) rfl rfl rfl, rfl, ?_⟩)
      (refine ⟨_, _, _, aPf (gN rfl) rfl rfl rfl rfl rfl ?hb rfl, rfl, ?_⟩; case hb => (first | rfl | assumption | (simp; done)))
      (refine nx (aM (gN rfl) rfl rfl rfl rfl rfl) rfl ?_)
      (refine ⟨_, _, _, a_off (go_off rfl rfl rfl rfl (by first | rfl | assumption | (simp; done) | (simp [*]; done))) rfl rfl rfl, rfl, ?_⟩)
      (refine ⟨_, _, _, a_off (go_off rfl rfl rfl rfl (by first | rfl | assumption | (simp; done) | (simp [*]; done))) rfl rfl rfl, rfl, ?_⟩)
      (refine ⟨_, _, _, a_off (go_off rfl rfl rfl rfl (by first | rfl | assumption | (simp; done) | (simp [*]; done))) rfl rfl rfl, rfl, ?_⟩)
      (refine ⟨_, _, _, a_off (go_off rfl rfl rfl rfl (by first | rfl | assumption | (simp; done) | (simp [*]; done))) rfl rfl rfl, rfl, ?_⟩)
      (refine ⟨_, _, _, a_off (go_off rfl rfl rfl rfl (by first | rfl | assumption | (simp; done) | (simp [*]; done))) rfl rfl rfl, rfl, ?_⟩)
      (refine ⟨_, _, _, a_off (go_off rfl rfl rfl rfl (by first | rfl | assumption | (simp; done) | (simp [*]; done))) rfl rfl rfl, rfl, ?_⟩)
      (refine ⟨_, _, _, a_off (go_off rfl rfl rfl rfl (by first | rfl | assumption | (simp; done) | (simp [*]; done))) rfl rfl rfl, rfl, ?_⟩)
      (refine ⟨_, _, _, aPf (gN rfl) rfl rfl rfl rfl rfl ?hb rfl, rfl, ?_⟩; case hb => (first | rfl | assumption | (simp; done)))
      (refine nx (aM (gN rfl) rfl rfl rfl rfl rfl) rfl ?_)
      (refine ⟨_, _, _, a_off (go_off rfl rfl rfl rfl (by first | rfl | assumption | (simp; done) | (simp [*]; done))) rfl rfl rfl, rfl, ?_⟩)
      (refine ⟨_, _, _, a_off (go_off rfl rfl rfl rfl (by first | rfl | assumption | (simp; done) | (simp [*]; done))) rfl rfl rfl, rfl, ?_⟩)
      (refine ⟨_, _, _, a_off (go_off rfl rfl rfl rfl (by first | rfl | assumption | (simp; done) | (simp [*]; done))) rfl rfl rfl, rfl, ?_⟩)
      (refine ⟨_, _, _, a_off (go_off rfl rfl rfl rfl (by first | rfl | assumption | (simp; done) | (simp [*]; done))) rfl rfl rfl, rfl, ?_⟩)
      (refine ⟨_, _, _, aPf (gN rfl) rfl rfl rfl rfl rfl ?hb rfl, rfl, ?_⟩; case hb => (first | rfl | assumption | (simp; done)))
      (refine nx (aA (gN rfl) rfl rfl rfl rfl rfl) rfl ?_)
      show AWp _ _ _ _ _ _ _
      exact aT (And.intro (.inr rfl) rfl)
    | true =>
      cases h2 : fitB s ⟨f, l⟩ with
      | false =>
        rw [h2] at hft
        refine aS (aR ?_)
        (refine nx (aF (gN rfl) rfl rfl rfl rfl rfl rfl rfl rfl rfl) rfl ?_)
        (refine nx (aLb (gN rfl) rfl rfl rfl rfl rfl rfl rfl rfl rfl rfl rfl rfl) rfl ?_)
        (refine nx (a_gtr (gN rfl) rfl rfl rfl rfl rfl rfl) rfl ?_)
        (refine nx (aM (gN rfl) rfl rfl rfl rfl rfl) rfl ?_)
        (refine nx (aL (gd_on rfl rfl rfl rfl (by first | rfl | assumption | (simp; done))) rfl rfl rfl rfl rfl rfl rfl rfl rfl rfl rfl rfl) rfl ?_)
        (refine nx (aL (gd_on rfl rfl rfl rfl (by first | rfl | assumption | (simp; done))) rfl rfl rfl rfl rfl rfl rfl rfl rfl rfl rfl rfl) rfl ?_)
        (refine nx (a_call (gd_on rfl rfl rfl rfl (by first | rfl | assumption | (simp; done))) rfl rfl rfl rfl rfl (hft)) rfl ?_)
        (refine ⟨_, _, _, aPt (gN rfl) rfl rfl rfl rfl rfl ?hb rfl, rfl, ?_⟩; case hb => (first | rfl | assumption | (simp; done)))
        (refine nx (aM (gN rfl) rfl rfl rfl rfl rfl) rfl ?_)
        (refine ⟨_, _, _, a_off (go_off rfl rfl rfl rfl (by first | rfl | assumption | (simp; done) | (simp [*]; done))) rfl rfl rfl, rfl, ?_⟩)
        (refine ⟨_, _, _, a_off (go_off rfl rfl rfl rfl (by first | rfl | assumption | (simp; done) | (simp [*]; done))) rfl rfl rfl, rfl, ?_⟩)
        (refine ⟨_, _, _, a_off (go_off rfl rfl rfl rfl (by first | rfl | assumption | (simp; done) | (simp [*]; done))) rfl rfl rfl, rfl, ?_⟩)
        (refine ⟨_, _, _, a_off (go_off rfl rfl rfl rfl (by first | rfl | assumption | (simp; done) | (simp [*]; done))) rfl rfl rfl, rfl, ?_⟩)
        (refine ⟨_, _, _, a_off (go_off rfl rfl rfl rfl (by first | rfl | assumption | (simp; done) | (simp [*]; done))) rfl rfl rfl, rfl, ?_⟩)
        (refine ⟨_, _, _, a_off (go_off rfl rfl rfl rfl (by first | rfl | assumption | (simp; done) | (simp [*]; done))) rfl rfl rfl, rfl, ?_⟩)
        (refine ⟨_, _, _, a_off (go_off rfl rfl rfl rfl (by first | rfl | assumption | (simp; done) | (simp [*]; done))) rfl rfl rfl, rfl, ?_⟩)
        (refine ⟨_, _, _, aPf (gN rfl) rfl rfl rfl rfl rfl ?hb rfl, rfl, ?_⟩; case hb => (first | rfl | assumption | (simp; done)))
        (refine nx (aM (gN rfl) rfl rfl rfl rfl rfl) rfl ?_)
        (refine ⟨_, _, _, a_off (go_off rfl rfl rfl rfl (by first | rfl | assumption | (simp; done) | (simp [*]; done))) rfl rfl rfl, rfl, ?_⟩)
        (refine ⟨_, _, _, a_off (go_off rfl rfl rfl rfl (by first | rfl | assumption | (simp; done) | (simp [*]; done))) rfl rfl rfl, rfl, ?_⟩)
        (refine ⟨_, _, _, a_off (go_off rfl rfl rfl rfl (by first | rfl | assumption | (simp; done) | (simp [*]; done))) rfl rfl rfl, rfl, ?_⟩)
        (refine ⟨_, _, _, a_off (go_off rfl rfl rfl rfl (by first | rfl | assumption | (simp; done) | (simp [*]; done))) rfl rfl rfl, rfl, ?_⟩)
        (refine ⟨_, _, _, aPf (gN rfl) rfl rfl rfl rfl rfl ?hb rfl, rfl, ?_⟩; case hb => (first | rfl | assumption | (simp; done)))
        (refine nx (aA (gN rfl) rfl rfl rfl rfl rfl) rfl ?_)
        show AWp _ _ _ _ _ _ _
        exact aT (And.intro (.inr rfl) rfl)
      | true =>
        rw [h2] at hft
        obtain ⟨j, rfl⟩ : ∃ j : Nat, f = (j : Int) := ⟨f.toNat, by omega⟩
        have hjp : j < s.pr.length := by
          unfold fitB at h2
          simp only [Bool.and_eq_true, decide_eq_true_eq] at h2
          have := h2.2.1
          unfold sgc at this
          omega
        obtain ⟨x, hx⟩ : ∃ x, s.pr[j]? = some x := ⟨s.pr[j], List.getElem?_eq_getElem hjp⟩
        have hx' : (s.pr.map bv)[j]? = some (bv x) := by rw [List.getElem?_map, hx]; rfl
        have hg : s.pr.getD ((j : Int)).toNat false = x := by rw [Int.toNat_natCast, List.getD_eq_getElem?_getD, hx]; rfl
        rw [hg]
        cases x with
        | true =>
          refine aS (aR ?_)
          (refine nx (aF (gN rfl) rfl rfl rfl rfl rfl rfl rfl rfl rfl) rfl ?_)
          (refine nx (aLb (gN rfl) rfl rfl rfl rfl rfl rfl rfl rfl rfl rfl rfl rfl) rfl ?_)
          (refine nx (a_gtr (gN rfl) rfl rfl rfl rfl rfl rfl) rfl ?_)
          (refine nx (aM (gN rfl) rfl rfl rfl rfl rfl) rfl ?_)
          (refine nx (aL (gd_on rfl rfl rfl rfl (by first | rfl | assumption | (simp; done))) rfl rfl rfl rfl rfl rfl rfl rfl rfl rfl rfl rfl) rfl ?_)
          (refine nx (aL (gd_on rfl rfl rfl rfl (by first | rfl | assumption | (simp; done))) rfl rfl rfl rfl rfl rfl rfl rfl rfl rfl rfl rfl) rfl ?_)
          (refine nx (a_call (gd_on rfl rfl rfl rfl (by first | rfl | assumption | (simp; done))) rfl rfl rfl rfl rfl (hft)) rfl ?_)
          (refine ⟨_, _, _, aPt (gN rfl) rfl rfl rfl rfl rfl ?hb rfl, rfl, ?_⟩; case hb => (first | rfl | assumption | (simp; done)))
          (refine nx (aM (gN rfl) rfl rfl rfl rfl rfl) rfl ?_)
          (refine nx (aF (gd_on rfl rfl rfl rfl (by first | rfl | assumption | (simp; done))) rfl rfl rfl rfl rfl rfl rfl rfl rfl) rfl ?_)
          (refine nx (aLb (gd_on rfl rfl rfl rfl (by first | rfl | assumption | (simp; done))) rfl rfl rfl rfl rfl rfl rfl rfl rfl rfl rfl rfl) rfl ?_)
          (refine nx (aF (gd_on rfl rfl rfl rfl (by first | rfl | assumption | (simp; done))) rfl rfl rfl rfl rfl rfl rfl rfl rfl) rfl ?_)
          (refine nx (aLb (gd_on rfl rfl rfl rfl (by first | rfl | assumption | (simp; done))) rfl rfl rfl rfl rfl rfl rfl rfl rfl rfl rfl rfl) rfl ?_)
          (refine nx (a_index (j := j) (gd_on rfl rfl rfl rfl (by first | rfl | assumption | (simp; done))) rfl rfl rfl rfl rfl rfl rfl rfl rfl (hx') rfl (hz)) rfl ?_)
          (refine nx (a_load_ad (gd_on rfl rfl rfl rfl (by first | rfl | assumption | (simp; done))) rfl rfl rfl rfl rfl rfl rfl rfl rfl) rfl ?_)
          (refine nx (a_not (gd_on rfl rfl rfl rfl (by first | rfl | assumption | (simp; done))) rfl rfl rfl rfl rfl) rfl ?_)
          (refine ⟨_, _, _, aPt (gN rfl) rfl rfl rfl rfl rfl ?hb rfl, rfl, ?_⟩; case hb => (first | rfl | assumption | (simp; done)))
          (refine nx (aM (gN rfl) rfl rfl rfl rfl rfl) rfl ?_)
          (refine ⟨_, _, _, a_off (go_off rfl rfl rfl rfl (by first | rfl | assumption | (simp; done) | (simp [*]; done))) rfl rfl rfl, rfl, ?_⟩)
          (refine ⟨_, _, _, a_off (go_off rfl rfl rfl rfl (by first | rfl | assumption | (simp; done) | (simp [*]; done))) rfl rfl rfl, rfl, ?_⟩)
          (refine ⟨_, _, _, a_off (go_off rfl rfl rfl rfl (by first | rfl | assumption | (simp; done) | (simp [*]; done))) rfl rfl rfl, rfl, ?_⟩)
          (refine ⟨_, _, _, a_off (go_off rfl rfl rfl rfl (by first | rfl | assumption | (simp; done) | (simp [*]; done))) rfl rfl rfl, rfl, ?_⟩)
          (refine ⟨_, _, _, aPf (gN rfl) rfl rfl rfl rfl rfl ?hb rfl, rfl, ?_⟩; case hb => (first | rfl | assumption | (simp; done)))
          (refine nx (aA (gN rfl) rfl rfl rfl rfl rfl) rfl ?_)
          show AWp _ _ _ _ _ _ _
          exact aT (And.intro (.inr rfl) rfl)
        | false =>
          refine aS (aR ?_)
          (refine nx (aF (gN rfl) rfl rfl rfl rfl rfl rfl rfl rfl rfl) rfl ?_)
          (refine nx (aLb (gN rfl) rfl rfl rfl rfl rfl rfl rfl rfl rfl rfl rfl rfl) rfl ?_)
          (refine nx (a_gtr (gN rfl) rfl rfl rfl rfl rfl rfl) rfl ?_)
          (refine nx (aM (gN rfl) rfl rfl rfl rfl rfl) rfl ?_)
          (refine nx (aL (gd_on rfl rfl rfl rfl (by first | rfl | assumption | (simp; done))) rfl rfl rfl rfl rfl rfl rfl rfl rfl rfl rfl rfl) rfl ?_)
          (refine nx (aL (gd_on rfl rfl rfl rfl (by first | rfl | assumption | (simp; done))) rfl rfl rfl rfl rfl rfl rfl rfl rfl rfl rfl rfl) rfl ?_)
          (refine nx (a_call (gd_on rfl rfl rfl rfl (by first | rfl | assumption | (simp; done))) rfl rfl rfl rfl rfl (hft)) rfl ?_)
          (refine ⟨_, _, _, aPt (gN rfl) rfl rfl rfl rfl rfl ?hb rfl, rfl, ?_⟩; case hb => (first | rfl | assumption | (simp; done)))
          (refine nx (aM (gN rfl) rfl rfl rfl rfl rfl) rfl ?_)
          (refine nx (aF (gd_on rfl rfl rfl rfl (by first | rfl | assumption | (simp; done))) rfl rfl rfl rfl rfl rfl rfl rfl rfl) rfl ?_)
          (refine nx (aLb (gd_on rfl rfl rfl rfl (by first | rfl | assumption | (simp; done))) rfl rfl rfl rfl rfl rfl rfl rfl rfl rfl rfl rfl) rfl ?_)
          (refine nx (aF (gd_on rfl rfl rfl rfl (by first | rfl | assumption | (simp; done))) rfl rfl rfl rfl rfl rfl rfl rfl rfl) rfl ?_)
          (refine nx (aLb (gd_on rfl rfl rfl rfl (by first | rfl | assumption | (simp; done))) rfl rfl rfl rfl rfl rfl rfl rfl rfl rfl rfl rfl) rfl ?_)
          (refine nx (a_index (j := j) (gd_on rfl rfl rfl rfl (by first | rfl | assumption | (simp; done))) rfl rfl rfl rfl rfl rfl rfl rfl rfl (hx') rfl (hz)) rfl ?_)
          (refine nx (a_load_ad (gd_on rfl rfl rfl rfl (by first | rfl | assumption | (simp; done))) rfl rfl rfl rfl rfl rfl rfl rfl rfl) rfl ?_)
          (refine nx (a_not (gd_on rfl rfl rfl rfl (by first | rfl | assumption | (simp; done))) rfl rfl rfl rfl rfl) rfl ?_)
          (refine ⟨_, _, _, aPt (gN rfl) rfl rfl rfl rfl rfl ?hb rfl, rfl, ?_⟩; case hb => (first | rfl | assumption | (simp; done)))
          (refine nx (aM (gN rfl) rfl rfl rfl rfl rfl) rfl ?_)
          (refine nx (aL (gd_on rfl rfl rfl rfl (by first | rfl | assumption | (simp; done))) rfl rfl rfl rfl rfl rfl rfl rfl rfl rfl rfl rfl) rfl ?_)
          (refine nx (aF (gd_on rfl rfl rfl rfl (by first | rfl | assumption | (simp; done))) rfl rfl rfl rfl rfl rfl rfl rfl rfl) rfl ?_)
          (refine nx (aLb (gd_on rfl rfl rfl rfl (by first | rfl | assumption | (simp; done))) rfl rfl rfl rfl rfl rfl rfl rfl rfl rfl rfl rfl) rfl ?_)
          (refine nx (a_call (gd_on rfl rfl rfl rfl (by first | rfl | assumption | (simp; done))) rfl rfl rfl rfl rfl (htt)) rfl ?_)
          (refine ⟨_, _, _, aPt (gN rfl) rfl rfl rfl rfl rfl ?hb rfl, rfl, ?_⟩; case hb => (first | rfl | assumption | (simp; done)))
          (refine nx (aA (gN rfl) rfl rfl rfl rfl rfl) rfl ?_)
          show AWp _ _ _ _ _ _ _
          refine aT (And.intro (.inr rfl) ?_)
          show some [CV.b (l.all (rtB s))] = some [CV.b (false || (true && (true && (!false && l.all (rtB s)))))]
          simp
theorem rightT_abs (s : Sg) : ∀ t : Tm, t.ok → RtC s t := Tm.ind fun f l ih ho => by
  obtain ⟨h1, h2⟩ := (Tm.ok_iff _).1 ho
  exact rightT_of s _ h1 fun q hq => ih q hq (h2 q hq)
-- 
set_option maxHeartbeats 4000000 in
theorem rightA_abs (W : World) (s : Sg) (t : Tm) (ho : t.ok) : AFun Tryd.prog W 47 [sgv s, t.cw] (.val (.b (atB s t))) := by
  have hz := bvs_size s.pr
  obtain ⟨hl, ho2⟩ := (Tm.ok_iff _).1 ho
  unfold atB
  obtain ⟨f, l⟩ := t
  refine afun_of (rs := [.b (decide (0 < f) && (fitB s ⟨f, l⟩ && (s.pr.getD f.toNat false && l.all (rtB s))))]) Tryd.func47 Tryd.ntmps47 rfl rfl rfl rfl ?_
  intro w U hW
  have hft := fits_abs w s ⟨f, l⟩
  have htt := terms_of w s l hl (fun q hq => rightT_abs s q (ho2 q hq))
  refine aS (aR ?_)
  (refine nx (a_box (gN rfl) rfl rfl rfl rfl rfl) rfl ?_)
  (refine nx (a_box (gN rfl) rfl rfl rfl rfl rfl) rfl ?_)
  (refine nx (aA (gN rfl) rfl rfl rfl rfl rfl) rfl ?_)
  show AWp _ _ _ _ _ _ _
  refine AWp.wk (wk_sub (s' := [(2, .bp 2 0 []), (100002, .bx (sgv s)), (3, .bp 3 0 []), (100003, .bx (Tm.cw ⟨f, l⟩))]) ⟨rfl, rfl, rfl, rfl, trivial⟩) ?_
  cases h1 : decide (0 < f) with
  | false =>
    refine aS (aR ?_)
    (refine nx (aF (gN rfl) rfl rfl rfl rfl rfl rfl rfl rfl rfl) rfl ?_)
    (refine nx (aLb (gN rfl) rfl rfl rfl rfl rfl rfl rfl rfl rfl rfl rfl rfl) rfl ?_)
    (refine nx (a_gtr (gN rfl) rfl rfl rfl rfl rfl rfl) rfl ?_)
    (refine nx (aM (gN rfl) rfl rfl rfl rfl rfl) rfl ?_)
    (refine ⟨_, _, _, a_off (go_off rfl rfl rfl rfl (by first | rfl | assumption | (simp; done) | (simp [*]; done))) rfl rfl rfl, rfl, ?_⟩)
    (refine ⟨_, _, _, a_off (go_off rfl rfl rfl rfl (by first | rfl | assumption | (simp; done) | (simp [*]; done))) rfl rfl rfl, rfl, ?_⟩)
    (refine ⟨_, _, _, a_off (go_off rfl rfl rfl rfl (by first | rfl | assumption | (simp; done) | (simp [*]; done))) rfl rfl rfl, rfl, ?_⟩)
    (refine ⟨_, _, _, aPf (gN rfl) rfl rfl rfl rfl rfl ?hb rfl, rfl, ?_⟩; case hb => (first | rfl | assumption | (simp; done)))
    (refine nx (aM (gN rfl) rfl rfl rfl rfl rfl) rfl ?_)
    (refine ⟨_, _, _, a_off (go_off rfl rfl rfl rfl (by first | rfl | assumption | (simp; done) | (simp [*]; done))) rfl rfl rfl, rfl, ?_⟩)
    (refine ⟨_, _, _, a_off (go_off rfl rfl rfl rfl (by first | rfl | assumption | (simp; done) | (simp [*]; done))) rfl rfl rfl, rfl, ?_⟩)
    (refine ⟨_, _, _, a_off (go_off rfl rfl rfl rfl (by first | rfl | assumption | (simp; done) | (simp [*]; done))) rfl rfl rfl, rfl, ?_⟩)
    (refine ⟨_, _, _, a_off (go_off rfl rfl rfl rfl (by first | rfl | assumption | (simp; done) | (simp [*]; done))) rfl rfl rfl, rfl, ?_⟩)
    (refine ⟨_, _, _, a_off (go_off rfl rfl rfl rfl (by first | rfl | assumption | (simp; done) | (simp [*]; done))) rfl rfl rfl, rfl, ?_⟩)
    (refine ⟨_, _, _, a_off (go_off rfl rfl rfl rfl (by first | rfl | assumption | (simp; done) | (simp [*]; done))) rfl rfl rfl, rfl, ?_⟩)
    (refine ⟨_, _, _, aPf (gN rfl) rfl rfl rfl rfl rfl ?hb rfl, rfl, ?_⟩; case hb => (first | rfl | assumption | (simp; done)))
    (refine nx (aM (gN rfl) rfl rfl rfl rfl rfl) rfl ?_)
    (refine ⟨_, _, _, a_off (go_off rfl rfl rfl rfl (by first | rfl | assumption | (simp; done) | (simp [*]; done))) rfl rfl rfl, rfl, ?_⟩)
    (refine ⟨_, _, _, a_off (go_off rfl rfl rfl rfl (by first | rfl | assumption | (simp; done) | (simp [*]; done))) rfl rfl rfl, rfl, ?_⟩)
    (refine ⟨_, _, _, a_off (go_off rfl rfl rfl rfl (by first | rfl | assumption | (simp; done) | (simp [*]; done))) rfl rfl rfl, rfl, ?_⟩)
    (refine ⟨_, _, _, a_off (go_off rfl rfl rfl rfl (by first | rfl | assumption | (simp; done) | (simp [*]; done))) rfl rfl rfl, rfl, ?_⟩)
    (refine ⟨_, _, _, aPf (gN rfl) rfl rfl rfl rfl rfl ?hb rfl, rfl, ?_⟩; case hb => (first | rfl | assumption | (simp; done)))
    (refine nx (aA (gN rfl) rfl rfl rfl rfl rfl) rfl ?_)
    show AWp _ _ _ _ _ _ _
    exact aT (And.intro (.inr rfl) rfl)
  | true =>
    have h1' : 0 < f := by simpa using h1
    cases h2 : fitB s ⟨f, l⟩ with
    | false =>
      rw [h2] at hft
      refine aS (aR ?_)
      (refine nx (aF (gN rfl) rfl rfl rfl rfl rfl rfl rfl rfl rfl) rfl ?_)
      (refine nx (aLb (gN rfl) rfl rfl rfl rfl rfl rfl rfl rfl rfl rfl rfl rfl) rfl ?_)
      (refine nx (a_gtr (gN rfl) rfl rfl rfl rfl rfl rfl) rfl ?_)
      (refine nx (aM (gN rfl) rfl rfl rfl rfl rfl) rfl ?_)
      (refine nx (aL (gd_on rfl rfl rfl rfl (by first | rfl | assumption | (simp; done))) rfl rfl rfl rfl rfl rfl rfl rfl rfl rfl rfl rfl) rfl ?_)
      (refine nx (aL (gd_on rfl rfl rfl rfl (by first | rfl | assumption | (simp; done))) rfl rfl rfl rfl rfl rfl rfl rfl rfl rfl rfl rfl) rfl ?_)
      (refine nx (a_call (gd_on rfl rfl rfl rfl (by first | rfl | assumption | (simp; done))) rfl rfl rfl rfl rfl (hft)) rfl ?_)
      (refine ⟨_, _, _, aPt (gN rfl) rfl rfl rfl rfl rfl ?hb rfl, rfl, ?_⟩; case hb => (first | rfl | assumption | (simp; done)))
      (refine nx (aM (gN rfl) rfl rfl rfl rfl rfl) rfl ?_)
      (refine ⟨_, _, _, a_off (go_off rfl rfl rfl rfl (by first | rfl | assumption | (simp; done) | (simp [*]; done))) rfl rfl rfl, rfl, ?_⟩)
      (refine ⟨_, _, _, a_off (go_off rfl rfl rfl rfl (by first | rfl | assumption | (simp; done) | (simp [*]; done))) rfl rfl rfl, rfl, ?_⟩)
      (refine ⟨_, _, _, a_off (go_off rfl rfl rfl rfl (by first | rfl | assumption | (simp; done) | (simp [*]; done))) rfl rfl rfl, rfl, ?_⟩)
      (refine ⟨_, _, _, a_off (go_off rfl rfl rfl rfl (by first | rfl | assumption | (simp; done) | (simp [*]; done))) rfl rfl rfl, rfl, ?_⟩)
      (refine ⟨_, _, _, a_off (go_off rfl rfl rfl rfl (by first | rfl | assumption | (simp; done) | (simp [*]; done))) rfl rfl rfl, rfl, ?_⟩)
      (refine ⟨_, _, _, a_off (go_off rfl rfl rfl rfl (by first | rfl | assumption | (simp; done) | (simp [*]; done))) rfl rfl rfl, rfl, ?_⟩)
      (refine ⟨_, _, _, aPf (gN rfl) rfl rfl rfl rfl rfl ?hb rfl, rfl, ?_⟩; case hb => (first | rfl | assumption | (simp; done)))
      (refine nx (aM (gN rfl) rfl rfl rfl rfl rfl) rfl ?_)
      (refine ⟨_, _, _, a_off (go_off rfl rfl rfl rfl (by first | rfl | assumption | (simp; done) | (simp [*]; done))) rfl rfl rfl, rfl, ?_⟩)
      (refine ⟨_, _, _, a_off (go_off rfl rfl rfl rfl (by first | rfl | assumption | (simp; done) | (simp [*]; done))) rfl rfl rfl, rfl, ?_⟩)
      (refine ⟨_, _, _, a_off (go_off rfl rfl rfl rfl (by first | rfl | assumption | (simp; done) | (simp [*]; done))) rfl rfl rfl, rfl, ?_⟩)
      (refine ⟨_, _, _, a_off (go_off rfl rfl rfl rfl (by first | rfl | assumption | (simp; done) | (simp [*]; done))) rfl rfl rfl, rfl, ?_⟩)
      (refine ⟨_, _, _, aPf (gN rfl) rfl rfl rfl rfl rfl ?hb rfl, rfl, ?_⟩; case hb => (first | rfl | assumption | (simp; done)))
      (refine nx (aA (gN rfl) rfl rfl rfl rfl rfl) rfl ?_)
      show AWp _ _ _ _ _ _ _
      exact aT (And.intro (.inr rfl) rfl)
    | true =>
      rw [h2] at hft
      obtain ⟨j, rfl⟩ : ∃ j : Nat, f = (j : Int) := ⟨f.toNat, by omega⟩
      have hjp : j < s.pr.length := by
        unfold fitB at h2
        simp only [Bool.and_eq_true, decide_eq_true_eq] at h2
        have := h2.2.1
        unfold sgc at this
        omega
      obtain ⟨x, hx⟩ : ∃ x, s.pr[j]? = some x := ⟨s.pr[j], List.getElem?_eq_getElem hjp⟩
      have hx' : (s.pr.map bv)[j]? = some (bv x) := by rw [List.getElem?_map, hx]; rfl
      have hg : s.pr.getD ((j : Int)).toNat false = x := by rw [Int.toNat_natCast, List.getD_eq_getElem?_getD, hx]; rfl
      rw [hg]
      cases x with
      | false =>
        refine aS (aR ?_)
        (refine nx (aF (gN rfl) rfl rfl rfl rfl rfl rfl rfl rfl rfl) rfl ?_)
        (refine nx (aLb (gN rfl) rfl rfl rfl rfl rfl rfl rfl rfl rfl rfl rfl rfl) rfl ?_)
        (refine nx (a_gtr (gN rfl) rfl rfl rfl rfl rfl rfl) rfl ?_)
        (refine nx (aM (gN rfl) rfl rfl rfl rfl rfl) rfl ?_)
        (refine nx (aL (gd_on rfl rfl rfl rfl (by first | rfl | assumption | (simp; done))) rfl rfl rfl rfl rfl rfl rfl rfl rfl rfl rfl rfl) rfl ?_)
        (refine nx (aL (gd_on rfl rfl rfl rfl (by first | rfl | assumption | (simp; done))) rfl rfl rfl rfl rfl rfl rfl rfl rfl rfl rfl rfl) rfl ?_)
        (refine nx (a_call (gd_on rfl rfl rfl rfl (by first | rfl | assumption | (simp; done))) rfl rfl rfl rfl rfl (hft)) rfl ?_)
        (refine ⟨_, _, _, aPt (gN rfl) rfl rfl rfl rfl rfl ?hb rfl, rfl, ?_⟩; case hb => (first | rfl | assumption | (simp; done)))
        (refine nx (aM (gN rfl) rfl rfl rfl rfl rfl) rfl ?_)
        (refine nx (aF (gd_on rfl rfl rfl rfl (by first | rfl | assumption | (simp; done))) rfl rfl rfl rfl rfl rfl rfl rfl rfl) rfl ?_)
        (refine nx (aLb (gd_on rfl rfl rfl rfl (by first | rfl | assumption | (simp; done))) rfl rfl rfl rfl rfl rfl rfl rfl rfl rfl rfl rfl) rfl ?_)
        (refine nx (aF (gd_on rfl rfl rfl rfl (by first | rfl | assumption | (simp; done))) rfl rfl rfl rfl rfl rfl rfl rfl rfl) rfl ?_)
        (refine nx (aLb (gd_on rfl rfl rfl rfl (by first | rfl | assumption | (simp; done))) rfl rfl rfl rfl rfl rfl rfl rfl rfl rfl rfl rfl) rfl ?_)
        (refine nx (a_index (j := j) (gd_on rfl rfl rfl rfl (by first | rfl | assumption | (simp; done))) rfl rfl rfl rfl rfl rfl rfl rfl rfl (hx') rfl (hz)) rfl ?_)
        (refine nx (a_load_ad (gd_on rfl rfl rfl rfl (by first | rfl | assumption | (simp; done))) rfl rfl rfl rfl rfl rfl rfl rfl rfl) rfl ?_)
        (refine ⟨_, _, _, aPt (gN rfl) rfl rfl rfl rfl rfl ?hb rfl, rfl, ?_⟩; case hb => (first | rfl | assumption | (simp; done)))
        (refine nx (aM (gN rfl) rfl rfl rfl rfl rfl) rfl ?_)
        (refine ⟨_, _, _, a_off (go_off rfl rfl rfl rfl (by first | rfl | assumption | (simp; done) | (simp [*]; done))) rfl rfl rfl, rfl, ?_⟩)
        (refine ⟨_, _, _, a_off (go_off rfl rfl rfl rfl (by first | rfl | assumption | (simp; done) | (simp [*]; done))) rfl rfl rfl, rfl, ?_⟩)
        (refine ⟨_, _, _, a_off (go_off rfl rfl rfl rfl (by first | rfl | assumption | (simp; done) | (simp [*]; done))) rfl rfl rfl, rfl, ?_⟩)
        (refine ⟨_, _, _, a_off (go_off rfl rfl rfl rfl (by first | rfl | assumption | (simp; done) | (simp [*]; done))) rfl rfl rfl, rfl, ?_⟩)
        (refine ⟨_, _, _, aPf (gN rfl) rfl rfl rfl rfl rfl ?hb rfl, rfl, ?_⟩; case hb => (first | rfl | assumption | (simp; done)))
        (refine nx (aA (gN rfl) rfl rfl rfl rfl rfl) rfl ?_)
        show AWp _ _ _ _ _ _ _
        exact aT (And.intro (.inr rfl) rfl)
      | true =>
        refine aS (aR ?_)
        (refine nx (aF (gN rfl) rfl rfl rfl rfl rfl rfl rfl rfl rfl) rfl ?_)
        (refine nx (aLb (gN rfl) rfl rfl rfl rfl rfl rfl rfl rfl rfl rfl rfl rfl) rfl ?_)
        (refine nx (a_gtr (gN rfl) rfl rfl rfl rfl rfl rfl) rfl ?_)
        (refine nx (aM (gN rfl) rfl rfl rfl rfl rfl) rfl ?_)
        (refine nx (aL (gd_on rfl rfl rfl rfl (by first | rfl | assumption | (simp; done))) rfl rfl rfl rfl rfl rfl rfl rfl rfl rfl rfl rfl) rfl ?_)
        (refine nx (aL (gd_on rfl rfl rfl rfl (by first | rfl | assumption | (simp; done))) rfl rfl rfl rfl rfl rfl rfl rfl rfl rfl rfl rfl) rfl ?_)
        (refine nx (a_call (gd_on rfl rfl rfl rfl (by first | rfl | assumption | (simp; done))) rfl rfl rfl rfl rfl (hft)) rfl ?_)
        (refine ⟨_, _, _, aPt (gN rfl) rfl rfl rfl rfl rfl ?hb rfl, rfl, ?_⟩; case hb => (first | rfl | assumption | (simp; done)))
        (refine nx (aM (gN rfl) rfl rfl rfl rfl rfl) rfl ?_)
        (refine nx (aF (gd_on rfl rfl rfl rfl (by first | rfl | assumption | (simp; done))) rfl rfl rfl rfl rfl rfl rfl rfl rfl) rfl ?_)
        (refine nx (aLb (gd_on rfl rfl rfl rfl (by first | rfl | assumption | (simp; done))) rfl rfl rfl rfl rfl rfl rfl rfl rfl rfl rfl rfl) rfl ?_)
        (refine nx (aF (gd_on rfl rfl rfl rfl (by first | rfl | assumption | (simp; done))) rfl rfl rfl rfl rfl rfl rfl rfl rfl) rfl ?_)
        (refine nx (aLb (gd_on rfl rfl rfl rfl (by first | rfl | assumption | (simp; done))) rfl rfl rfl rfl rfl rfl rfl rfl rfl rfl rfl rfl) rfl ?_)
        (refine nx (a_index (j := j) (gd_on rfl rfl rfl rfl (by first | rfl | assumption | (simp; done))) rfl rfl rfl rfl rfl rfl rfl rfl rfl (hx') rfl (hz)) rfl ?_)
        (refine nx (a_load_ad (gd_on rfl rfl rfl rfl (by first | rfl | assumption | (simp; done))) rfl rfl rfl rfl rfl rfl rfl rfl rfl) rfl ?_)
        (refine ⟨_, _, _, aPt (gN rfl) rfl rfl rfl rfl rfl ?hb rfl, rfl, ?_⟩; case hb => (first | rfl | assumption | (simp; done)))
        (refine nx (aM (gN rfl) rfl rfl rfl rfl rfl) rfl ?_)
        (refine nx (aL (gd_on rfl rfl rfl rfl (by first | rfl | assumption | (simp; done))) rfl rfl rfl rfl rfl rfl rfl rfl rfl rfl rfl rfl) rfl ?_)
        (refine nx (aF (gd_on rfl rfl rfl rfl (by first | rfl | assumption | (simp; done))) rfl rfl rfl rfl rfl rfl rfl rfl rfl) rfl ?_)
        (refine nx (aLb (gd_on rfl rfl rfl rfl (by first | rfl | assumption | (simp; done))) rfl rfl rfl rfl rfl rfl rfl rfl rfl rfl rfl rfl) rfl ?_)
        (refine nx (a_call (gd_on rfl rfl rfl rfl (by first | rfl | assumption | (simp; done))) rfl rfl rfl rfl rfl (htt)) rfl ?_)
        (refine ⟨_, _, _, aPt (gN rfl) rfl rfl rfl rfl rfl ?hb rfl, rfl, ?_⟩; case hb => (first | rfl | assumption | (simp; done)))
        (refine nx (aA (gN rfl) rfl rfl rfl rfl rfl) rfl ?_)
        show AWp _ _ _ _ _ _ _
        refine aT (And.intro (.inr rfl) ?_)
        show some [CV.b (l.all (rtB s))] = some [CV.b (true && (true && (true && l.all (rtB s))))]
        simp
-- 
set_option maxHeartbeats 4000000 in
theorem rightL_abs (W : World) (s : Sg) (l : Lt) (ha : l.a.ok) (hb : l.b.ok) : AFun Tryd.prog W 32 [sgv s, l.cw] (.val (.b (rlB s l))) := by
  refine afun_of (rs := [.b (rlB s l)]) Tryd.func32 Tryd.ntmps32 rfl rfl rfl rfl ?_
  intro w U hW
  have ht := truth_abs w l.b
  have r1 := rightT_abs s l.a ha w
  have r2 := rightT_abs s l.b hb w
  have r3 := rightA_abs w s l.a ha
  have r4 := fits_abs w s l.b
  refine aS (aR ?_)
  (refine nx (a_box (gN rfl) rfl rfl rfl rfl rfl) rfl ?_)
  (refine nx (a_box (gN rfl) rfl rfl rfl rfl rfl) rfl ?_)
  (refine nx (aA (gN rfl) rfl rfl rfl rfl rfl) rfl ?_)
  show AWp _ _ _ _ _ _ _
  refine AWp.wk (wk_sub (s' := [(2, .bp 2 0 []), (100002, .bx (sgv s)), (3, .bp 3 0 []), (100003, .bx l.cw)]) ⟨rfl, rfl, rfl, rfl, trivial⟩) ?_
  unfold rlB
  cases h1 : trB l.b with
  | false =>
    rw [h1] at ht
    refine aS (aS (aR ?_))
    (refine nx (aF (gN rfl) rfl rfl rfl rfl rfl rfl rfl rfl rfl) rfl ?_)
    (refine nx (aLb (gN rfl) rfl rfl rfl rfl rfl rfl rfl rfl rfl rfl rfl rfl) rfl ?_)
    (refine nx (a_call (gN rfl) rfl rfl rfl rfl rfl (ht)) rfl ?_)
    (refine nx (a_not (gN rfl) rfl rfl rfl rfl rfl) rfl ?_)
    show AWp _ _ _ _ _ _ _
    refine aC rfl (fun hc => ?_) (fun hc => by cases hc)
    cases h2 : rtB s l.a with
    | false =>
      rw [h2] at r1
      refine aS (aR ?_)
      (refine nx (aL (gN rfl) rfl rfl rfl rfl rfl rfl rfl rfl rfl rfl rfl rfl) rfl ?_)
      (refine nx (aF (gN rfl) rfl rfl rfl rfl rfl rfl rfl rfl rfl) rfl ?_)
      (refine nx (aLb (gN rfl) rfl rfl rfl rfl rfl rfl rfl rfl rfl rfl rfl rfl) rfl ?_)
      (refine nx (a_call (gN rfl) rfl rfl rfl rfl rfl (r1)) rfl ?_)
      (refine nx (aM (gN rfl) rfl rfl rfl rfl rfl) rfl ?_)
      (refine ⟨_, _, _, a_off (go_off rfl rfl rfl rfl (by first | rfl | assumption | (simp; done) | (simp [*]; done))) rfl rfl rfl, rfl, ?_⟩)
      (refine ⟨_, _, _, a_off (go_off rfl rfl rfl rfl (by first | rfl | assumption | (simp; done) | (simp [*]; done))) rfl rfl rfl, rfl, ?_⟩)
      (refine ⟨_, _, _, a_off (go_off rfl rfl rfl rfl (by first | rfl | assumption | (simp; done) | (simp [*]; done))) rfl rfl rfl, rfl, ?_⟩)
      (refine ⟨_, _, _, a_off (go_off rfl rfl rfl rfl (by first | rfl | assumption | (simp; done) | (simp [*]; done))) rfl rfl rfl, rfl, ?_⟩)
      (refine ⟨_, _, _, aPf (gN rfl) rfl rfl rfl rfl rfl ?hb rfl, rfl, ?_⟩; case hb => (first | rfl | assumption | (simp; done)))
      (refine nx (aA (gN rfl) rfl rfl rfl rfl rfl) rfl ?_)
      show AWp _ _ _ _ _ _ _
      exact aT (And.intro (.inr rfl) rfl)
    | true =>
      rw [h2] at r1
      refine aS (aR ?_)
      (refine nx (aL (gN rfl) rfl rfl rfl rfl rfl rfl rfl rfl rfl rfl rfl rfl) rfl ?_)
      (refine nx (aF (gN rfl) rfl rfl rfl rfl rfl rfl rfl rfl rfl) rfl ?_)
      (refine nx (aLb (gN rfl) rfl rfl rfl rfl rfl rfl rfl rfl rfl rfl rfl rfl) rfl ?_)
      (refine nx (a_call (gN rfl) rfl rfl rfl rfl rfl (r1)) rfl ?_)
      (refine nx (aM (gN rfl) rfl rfl rfl rfl rfl) rfl ?_)
      (refine nx (aL (gd_on rfl rfl rfl rfl (by first | rfl | assumption | (simp; done))) rfl rfl rfl rfl rfl rfl rfl rfl rfl rfl rfl rfl) rfl ?_)
      (refine nx (aF (gd_on rfl rfl rfl rfl (by first | rfl | assumption | (simp; done))) rfl rfl rfl rfl rfl rfl rfl rfl rfl) rfl ?_)
      (refine nx (aLb (gd_on rfl rfl rfl rfl (by first | rfl | assumption | (simp; done))) rfl rfl rfl rfl rfl rfl rfl rfl rfl rfl rfl rfl) rfl ?_)
      (refine nx (a_call (gd_on rfl rfl rfl rfl (by first | rfl | assumption | (simp; done))) rfl rfl rfl rfl rfl (r2)) rfl ?_)
      (refine ⟨_, _, _, aPt (gN rfl) rfl rfl rfl rfl rfl ?hb rfl, rfl, ?_⟩; case hb => (first | rfl | assumption | (simp; done)))
      (refine nx (aA (gN rfl) rfl rfl rfl rfl rfl) rfl ?_)
      show AWp _ _ _ _ _ _ _
      refine aT (And.intro (.inr rfl) ?_)
      show some [CV.b (rtB s l.b)] = some [CV.b (true && rtB s l.b)]
      simp
  | true =>
    rw [h1] at ht
    refine aS (aS (aR ?_))
    (refine nx (aF (gN rfl) rfl rfl rfl rfl rfl rfl rfl rfl rfl) rfl ?_)
    (refine nx (aLb (gN rfl) rfl rfl rfl rfl rfl rfl rfl rfl rfl rfl rfl rfl) rfl ?_)
    (refine nx (a_call (gN rfl) rfl rfl rfl rfl rfl (ht)) rfl ?_)
    (refine nx (a_not (gN rfl) rfl rfl rfl rfl rfl) rfl ?_)
    show AWp _ _ _ _ _ _ _
    refine aC rfl (fun hc => by cases hc) (fun hc => aK ?_)
    show AWp _ _ _ _ _ _ _
    cases h2 : atB s l.a with
    | false =>
      rw [h2] at r3
      refine aS (aR ?_)
      (refine nx (aL (gN rfl) rfl rfl rfl rfl rfl rfl rfl rfl rfl rfl rfl rfl) rfl ?_)
      (refine nx (aF (gN rfl) rfl rfl rfl rfl rfl rfl rfl rfl rfl) rfl ?_)
      (refine nx (aLb (gN rfl) rfl rfl rfl rfl rfl rfl rfl rfl rfl rfl rfl rfl) rfl ?_)
      (refine nx (a_call (gN rfl) rfl rfl rfl rfl rfl (r3)) rfl ?_)
      (refine nx (aM (gN rfl) rfl rfl rfl rfl rfl) rfl ?_)
      (refine ⟨_, _, _, a_off (go_off rfl rfl rfl rfl (by first | rfl | assumption | (simp; done) | (simp [*]; done))) rfl rfl rfl, rfl, ?_⟩)
      (refine ⟨_, _, _, a_off (go_off rfl rfl rfl rfl (by first | rfl | assumption | (simp; done) | (simp [*]; done))) rfl rfl rfl, rfl, ?_⟩)
      (refine ⟨_, _, _, a_off (go_off rfl rfl rfl rfl (by first | rfl | assumption | (simp; done) | (simp [*]; done))) rfl rfl rfl, rfl, ?_⟩)
      (refine ⟨_, _, _, a_off (go_off rfl rfl rfl rfl (by first | rfl | assumption | (simp; done) | (simp [*]; done))) rfl rfl rfl, rfl, ?_⟩)
      (refine ⟨_, _, _, aPf (gN rfl) rfl rfl rfl rfl rfl ?hb rfl, rfl, ?_⟩; case hb => (first | rfl | assumption | (simp; done)))
      (refine nx (aA (gN rfl) rfl rfl rfl rfl rfl) rfl ?_)
      show AWp _ _ _ _ _ _ _
      exact aT (And.intro (.inr rfl) rfl)
    | true =>
      rw [h2] at r3
      refine aS (aR ?_)
      (refine nx (aL (gN rfl) rfl rfl rfl rfl rfl rfl rfl rfl rfl rfl rfl rfl) rfl ?_)
      (refine nx (aF (gN rfl) rfl rfl rfl rfl rfl rfl rfl rfl rfl) rfl ?_)
      (refine nx (aLb (gN rfl) rfl rfl rfl rfl rfl rfl rfl rfl rfl rfl rfl rfl) rfl ?_)
      (refine nx (a_call (gN rfl) rfl rfl rfl rfl rfl (r3)) rfl ?_)
      (refine nx (aM (gN rfl) rfl rfl rfl rfl rfl) rfl ?_)
      (refine nx (aL (gd_on rfl rfl rfl rfl (by first | rfl | assumption | (simp; done))) rfl rfl rfl rfl rfl rfl rfl rfl rfl rfl rfl rfl) rfl ?_)
      (refine nx (aF (gd_on rfl rfl rfl rfl (by first | rfl | assumption | (simp; done))) rfl rfl rfl rfl rfl rfl rfl rfl rfl) rfl ?_)
      (refine nx (aLb (gd_on rfl rfl rfl rfl (by first | rfl | assumption | (simp; done))) rfl rfl rfl rfl rfl rfl rfl rfl rfl rfl rfl rfl) rfl ?_)
      (refine nx (a_call (gd_on rfl rfl rfl rfl (by first | rfl | assumption | (simp; done))) rfl rfl rfl rfl rfl (r4)) rfl ?_)
      (refine ⟨_, _, _, aPt (gN rfl) rfl rfl rfl rfl rfl ?hb rfl, rfl, ?_⟩; case hb => (first | rfl | assumption | (simp; done)))
      (refine nx (aA (gN rfl) rfl rfl rfl rfl rfl) rfl ?_)
      show AWp _ _ _ _ _ _ _
      refine aT (And.intro (.inr rfl) ?_)
      show some [CV.b (fitB s l.b)] = some [CV.b (true && fitB s l.b)]
      simp
-- 
set_option maxHeartbeats 2000000 in
theorem right_abs (W : World) (s : Sg) (l : List Lt) (hl : l.length ≤ 10000000000) (ho : ∀ x ∈ l, x.a.ok ∧ x.b.ok) : AFun Tryd.prog W 18 [sgv s, .lst (l.map Lt.cv)] (.val (.b (rcB s l))) := by
  have hz := Lt.size_all l
  refine afun_of (rs := [.b (rcB s l)]) Tryd.func18 Tryd.ntmps18 rfl rfl rfl rfl ?_
  intro w U hW
  unfold rcB
  refine aS (aR ?_)
  (refine nx (a_box (gN rfl) rfl rfl rfl rfl rfl) rfl ?_)
  (refine nx (aA (gN rfl) rfl rfl rfl rfl rfl) rfl ?_)
  show AWp _ _ _ _ _ _ _
  refine aS (aS (aR ?_))
  (refine nx (aM (gN rfl) rfl rfl rfl rfl rfl) rfl ?_)
  (refine nx (a_len (gN rfl) rfl rfl rfl rfl rfl rfl rfl) rfl ?_)
  (refine nx (aM (gN rfl) rfl rfl rfl rfl rfl) rfl ?_)
  show AWp _ _ _ _ _ _ _
  refine aB (awp_countI l.length (fun k => (l.take k).all (rlB s) = true) (fun k => [(2, .bp 2 0 []), (100002, .bx (sgv s)), (7, .val (.lst (l.map Lt.cv))), (8, .val (.i (l.map Lt.cv).length)), (9, .val (.i (k : Int)))]) (wk_sub ⟨rfl, rfl, rfl, rfl, rfl, trivial⟩) rfl ?_)
  intro k hk hI
  refine aS (aR ?_)
  (refine nx (a_lss (gN rfl) rfl rfl rfl rfl rfl rfl) rfl ?_)
  show AWp _ _ _ _ _ _ _
  refine aS (aC rfl (fun hlt => ?_) (fun hlt => ?_))
  · have hkl : k < l.length := by simpa using hlt
    obtain ⟨x, hx⟩ : ∃ x, l[k]? = some x := ⟨l[k], List.getElem?_eq_getElem hkl⟩
    have hx' := Lt.map_at hx
    have hxm := List.mem_of_getElem? hx
    have hc := rightL_abs w s x (ho x hxm).1 (ho x hxm).2
    have h1 : (l.take (k + 1)).all (rlB s) = ((l.take k).all (rlB s) && rlB s x) := by rw [List.take_add_one, hx, List.all_append]; simp
    refine aK ?_
    show AWp _ _ _ _ _ _ _
    refine aS (aB (aS (aR ?_)))
    (refine nx (a_index (j := k) (gN rfl) rfl rfl rfl rfl rfl rfl rfl rfl rfl (hx') rfl (hz)) rfl ?_)
    (refine nx (a_load_ad (gN rfl) rfl rfl rfl rfl rfl rfl rfl rfl rfl) rfl ?_)
    (refine nx (a_alloc (gN rfl) rfl rfl rfl rfl rfl rfl rfl rfl rfl rfl) rfl ?_)
    (refine nx (aSt (gN rfl) rfl rfl rfl rfl rfl rfl rfl rfl rfl rfl) rfl ?_)
    show AWp _ _ _ _ _ _ _
    cases hb : rlB s x with
    | false =>
      rw [hb] at hc
      refine aS (aR ?_)
      (refine nx (aL (gN rfl) rfl rfl rfl rfl rfl rfl rfl rfl rfl rfl rfl rfl) rfl ?_)
      (refine nx (aL (gN rfl) rfl rfl rfl rfl rfl rfl rfl rfl rfl rfl rfl rfl) rfl ?_)
      (refine nx (a_call (gN rfl) rfl rfl rfl rfl rfl (hc)) rfl ?_)
      (refine nx (a_not (gN rfl) rfl rfl rfl rfl rfl) rfl ?_)
      show AWp _ _ _ _ _ _ _
      refine aC rfl (fun hc => ?_) (fun hc => by cases hc)
      refine aS (aR ?_)
      (refine nx (aA (gN rfl) rfl rfl rfl rfl rfl) rfl ?_)
      show AWp _ _ _ _ _ _ _
      refine aT (And.intro (.inr rfl) ?_)
      have : l.all (rlB s) = false := by
        rw [List.all_eq_false]
        exact ⟨x, hxm, by rw [hb]; simp⟩
      rw [this]
      rfl
    | true =>
      rw [hb] at hc h1
      refine aS (aR ?_)
      (refine nx (aL (gN rfl) rfl rfl rfl rfl rfl rfl rfl rfl rfl rfl rfl rfl) rfl ?_)
      (refine nx (aL (gN rfl) rfl rfl rfl rfl rfl rfl rfl rfl rfl rfl rfl rfl) rfl ?_)
      (refine nx (a_call (gN rfl) rfl rfl rfl rfl rfl (hc)) rfl ?_)
      (refine nx (a_not (gN rfl) rfl rfl rfl rfl rfl) rfl ?_)
      show AWp _ _ _ _ _ _ _
      refine aC rfl (fun hc => by cases hc) (fun hc => aK ?_)
      show AWp _ _ _ _ _ _ _
      refine aR ?_
      (refine nx (a_add (gN rfl) rfl rfl rfl rfl rfl rfl (by first | omega | (simp only [List.length_map, List.length_append, List.length_cons, List.length_nil] <;> omega) | (simp <;> omega))) rfl ?_)
      (refine nx (aM (gN rfl) rfl rfl rfl rfl rfl) rfl ?_)
      refine ⟨hkl, by show (l.take (k + 1)).all (rlB s) = true; rw [h1, hI]; rfl, wk_sub ⟨rfl, rfl, rfl, rfl, rfl, trivial⟩⟩
  · have hkl : k = l.length := by
      have : ¬ k < l.length := by simpa using hlt
      omega
    subst hkl
    rw [List.take_length] at hI
    refine aE ?_
    show AWp _ _ _ _ _ _ _
    refine aS (aR ?_)
    (refine nx (aA (gN rfl) rfl rfl rfl rfl rfl) rfl ?_)
    show AWp _ _ _ _ _ _ _
    refine aT (And.intro (.inr rfl) ?_)
    rw [hI]
    rfl
end Go.Proofs.YtgpnomjjjlomhaaDoor

-- @STR@
namespace Go.Proofs.YtgpnomjjjlomhaaDoor
open Go.RowKit
set_option linter.unusedVariables false
set_option linter.unusedSimpArgs false
set_option maxRecDepth 100000

-- 
theorem to12_abs (W : World) (s : Sg) : AFun Tryd.prog W 12 [sgv s] (.val (sgv s)) := by
  refine afun_of (rs := [sgv s]) Tryd.func12 Tryd.ntmps12 rfl rfl rfl rfl ?_
  intro w U hW
  refine aS (aR ?_)
  (refine nx (a_box (gN rfl) rfl rfl rfl rfl rfl) rfl ?_)
  (refine nx (a_alloc (gN rfl) rfl rfl rfl rfl rfl rfl rfl rfl rfl rfl) rfl ?_)
  show AWp _ _ _ _ _ _ _
  refine aS (aR ?_)
  (refine nx (aF (gN rfl) rfl rfl rfl rfl rfl rfl rfl rfl rfl) rfl ?_)
  (refine nx (aLb (gN rfl) rfl rfl rfl rfl rfl rfl rfl rfl rfl rfl rfl rfl) rfl ?_)
  (refine nx (aF (gN rfl) rfl rfl rfl rfl rfl rfl rfl rfl rfl) rfl ?_)
  (refine nx (aLb (gN rfl) rfl rfl rfl rfl rfl rfl rfl rfl rfl rfl rfl rfl) rfl ?_)
  (refine nx (aF (gN rfl) rfl rfl rfl rfl rfl rfl rfl rfl rfl) rfl ?_)
  (refine nx (aLb (gN rfl) rfl rfl rfl rfl rfl rfl rfl rfl rfl rfl rfl rfl) rfl ?_)
  (refine nx (a_build (gN rfl) rfl rfl rfl rfl rfl rfl rfl rfl rfl rfl rfl) rfl ?_)
  (refine nx (aSt (gN rfl) rfl rfl rfl rfl rfl rfl rfl rfl rfl rfl) rfl ?_)
  show AWp _ _ _ _ _ _ _
  exact aT (And.intro (.inr rfl) rfl)
noncomputable def ofB (s : Sg) (t : Tm) (p : Bool) : Bool := match p with
  | true => atB s t
  | false => rtB s t
theorem ofB_neg {s : Sg} {f : Int} {l : List Tm} {p : Bool} (h : f < 0) : ofB s ⟨f, l⟩ p = !p := by
  cases p with
  | true =>
    show atB s ⟨f, l⟩ = false
    unfold atB
    rw [show decide (0 < (⟨f, l⟩ : Tm).f) = false from decide_eq_false (by show ¬ 0 < f; omega)]
    rfl
  | false =>
    show rtB s ⟨f, l⟩ = true
    rw [rtB_mk, decide_eq_true h]
    rfl
theorem ofB_no {s : Sg} {f : Int} {l : List Tm} {p : Bool} (h0 : 0 ≤ f) (h : f = 0 ∨ (sgc s : Int) ≤ f) : ofB s ⟨f, l⟩ p = false := by
  have hd : (decide (0 < f) && fitB s ⟨f, l⟩) = false := by
    rcases h with h | h
    · rw [decide_eq_false (by omega)]; rfl
    · unfold fitB
      rw [show decide ((⟨f, l⟩ : Tm).f < (sgc s : Int)) = false from decide_eq_false (by show ¬ f < _; omega)]
      simp
  cases p with
  | true =>
    show atB s ⟨f, l⟩ = false
    unfold atB
    rw [← Bool.and_assoc]
    show ((decide (0 < f) && fitB s ⟨f, l⟩) && _) = false
    rw [hd]
    rfl
  | false =>
    show rtB s ⟨f, l⟩ = false
    rw [rtB_mk, decide_eq_false (by omega), ← Bool.and_assoc, hd]
    rfl
theorem ofB_yes {s : Sg} {j : Nat} {l : List Tm} {p : Bool} (h0 : 0 < j) (h : j < sgc s) {x : Nat} {y : Bool} (hx : s.ar[j]? = some x) (hy : s.pr[j]? = some y) : ofB s ⟨(j : Int), l⟩ p = ((y == p) && (decide (x = l.length) && l.all (rtB s))) := by
  have hf : fitB s ⟨(j : Int), l⟩ = decide (x = l.length) := by
    unfold fitB
    rw [show decide (0 ≤ (⟨(j : Int), l⟩ : Tm).f) = true from decide_eq_true (by show 0 ≤ (j : Int); omega), show decide ((⟨(j : Int), l⟩ : Tm).f < (sgc s : Int)) = true from decide_eq_true (by show (j : Int) < _; omega)]
    show (true && (true && decide (s.ar[((j : Int)).toNat]? = some l.length))) = _
    rw [Int.toNat_natCast, hx]
    simp
  have hg : s.pr.getD ((j : Int)).toNat false = y := by rw [Int.toNat_natCast, List.getD_eq_getElem?_getD, hy]; rfl
  cases p with
  | true =>
    show atB s ⟨(j : Int), l⟩ = _
    unfold atB
    rw [hf, show decide (0 < (⟨(j : Int), l⟩ : Tm).f) = true from decide_eq_true (by show 0 < (j : Int); omega)]
    show (true && (decide (x = l.length) && (s.pr.getD ((j : Int)).toNat false && l.all (rtB s)))) = _
    rw [hg]
    cases y <;> simp
  | false =>
    show rtB s ⟨(j : Int), l⟩ = _
    rw [rtB_mk, hf, hg, decide_eq_false (by omega), decide_eq_true (by omega)]
    cases y <;> simp
-- 
set_option maxHeartbeats 8000000 in
theorem of_of (W : World) (s : Sg) (t : Tm) (p : Bool) (hl : t.l.length ≤ 10000000000) (hT : ∀ q ∈ t.l, ∀ W : World, AFun Tryd.prog W 34 [sgv s, q.cw, .b false] (.val (.b (rtB s q)))) : AFun Tryd.prog W 34 [sgv s, t.cw, .b p] (.val (.b (ofB s t p))) := by
  have hz := bvs_size s.pr
  have hz2 := ivs_size s.ar
  obtain ⟨f, l⟩ := t
  have hz3 := Tm.size_all l
  have hl : l.length ≤ 10000000000 := hl
  refine afun_of (rs := [.b (ofB s ⟨f, l⟩ p)]) Tryd.func34 Tryd.ntmps34 rfl rfl rfl rfl ?_
  intro w U hW
  refine aS (aR ?_)
  (refine nx (a_box (gN rfl) rfl rfl rfl rfl rfl) rfl ?_)
  (refine nx (a_box (gN rfl) rfl rfl rfl rfl rfl) rfl ?_)
  (refine nx (aA (gN rfl) rfl rfl rfl rfl rfl) rfl ?_)
  show AWp _ _ _ _ _ _ _
  refine AWp.wk (wk_sub (s' := [(2, .val (.b p)), (3, .bp 3 0 []), (100003, .bx (sgv s)), (4, .bp 4 0 []), (100004, .bx (Tm.cw ⟨f, l⟩))]) ⟨rfl, rfl, rfl, rfl, rfl, trivial⟩) ?_
  refine aS (aS (aR ?_))
  (refine nx (aF (gN rfl) rfl rfl rfl rfl rfl rfl rfl rfl rfl) rfl ?_)
  (refine nx (aLb (gN rfl) rfl rfl rfl rfl rfl rfl rfl rfl rfl rfl rfl rfl) rfl ?_)
  (refine nx (a_lss (gN rfl) rfl rfl rfl rfl rfl rfl) rfl ?_)
  show AWp _ _ _ _ _ _ _
  refine AWp.wk (wk_sub (s' := [(2, .val (.b p)), (3, .bp 3 0 []), (100003, .bx (sgv s)), (4, .bp 4 0 []), (100004, .bx (Tm.cw ⟨f, l⟩)), (10, .val (.b (decide (f < 0))))]) ⟨rfl, rfl, rfl, rfl, rfl, rfl, trivial⟩) ?_
  refine aC rfl (fun hc => ?_) (fun hc => aK ?_)
  · have hc : f < 0 := by simpa using hc
    rw [ofB_neg hc]
    refine aS (aR ?_)
    (refine nx (aM (gN rfl) rfl rfl rfl rfl rfl) rfl ?_)
    (refine nx (a_not (gN rfl) rfl rfl rfl rfl rfl) rfl ?_)
    (refine nx (aA (gN rfl) rfl rfl rfl rfl rfl) rfl ?_)
    show AWp _ _ _ _ _ _ _
    exact aT (And.intro (.inr rfl) rfl)
  · have hc : ¬ f < 0 := by simpa using hc
    have n1 : (s.nm.map sv).length = s.nm.length := List.length_map _
    have n2 : (s.ar.map iv).length = s.ar.length := List.length_map _
    have n3 : (s.pr.map bv).length = s.pr.length := List.length_map _
    have hsg : sgc s = min (min s.nm.length s.ar.length) s.pr.length := rfl
    refine aS (awp_mid [(2, .val (.b p)), (3, .bp 3 0 []), (100003, .bx (sgv s)), (4, .bp 4 0 []), (100004, .bx (Tm.cw ⟨f, l⟩)), (39, .val (.b (decide (f = 0 ∨ (sgc s : Int) ≤ f))))] ?_ ?_)
    · by_cases h0 : f = 0
      · have g0 : decide (f = 0) = true := decide_eq_true h0
        have e9 : decide (f = 0 ∨ (sgc s : Int) ≤ f) = true := decide_eq_true (.inl h0)
        refine aR ?_
        (refine nx (aF (gN rfl) rfl rfl rfl rfl rfl rfl rfl rfl rfl) rfl ?_)
        (refine nx (aLb (gN rfl) rfl rfl rfl rfl rfl rfl rfl rfl rfl rfl rfl rfl) rfl ?_)
        (refine nx (a_eql (gN rfl) rfl rfl rfl rfl rfl rfl) rfl ?_)
        (refine nx (aM (gN rfl) rfl rfl rfl rfl rfl) rfl ?_)
        (refine ⟨_, _, _, a_off (go_off rfl rfl rfl rfl (by first | rfl | assumption | (simp; done) | (simp [*]; done))) rfl rfl rfl, rfl, ?_⟩)
        (refine ⟨_, _, _, a_off (go_off rfl rfl rfl rfl (by first | rfl | assumption | (simp; done) | (simp [*]; done))) rfl rfl rfl, rfl, ?_⟩)
        (refine ⟨_, _, _, a_off (go_off rfl rfl rfl rfl (by first | rfl | assumption | (simp; done) | (simp [*]; done))) rfl rfl rfl, rfl, ?_⟩)
        (refine ⟨_, _, _, a_off (go_off rfl rfl rfl rfl (by first | rfl | assumption | (simp; done) | (simp [*]; done))) rfl rfl rfl, rfl, ?_⟩)
        (refine ⟨_, _, _, a_off (go_off rfl rfl rfl rfl (by first | rfl | assumption | (simp; done) | (simp [*]; done))) rfl rfl rfl, rfl, ?_⟩)
        (refine ⟨_, _, _, a_off (go_off rfl rfl rfl rfl (by first | rfl | assumption | (simp; done) | (simp [*]; done))) rfl rfl rfl, rfl, ?_⟩)
        (refine ⟨_, _, _, aPt (gN rfl) rfl rfl rfl rfl rfl ?hb rfl, rfl, ?_⟩; case hb => (first | rfl | assumption | (simp; done)))
        (refine nx (aM (gN rfl) rfl rfl rfl rfl rfl) rfl ?_)
        (refine ⟨_, _, _, a_off (go_off rfl rfl rfl rfl (by first | rfl | assumption | (simp; done) | (simp [*]; done))) rfl rfl rfl, rfl, ?_⟩)
        (refine ⟨_, _, _, a_off (go_off rfl rfl rfl rfl (by first | rfl | assumption | (simp; done) | (simp [*]; done))) rfl rfl rfl, rfl, ?_⟩)
        (refine ⟨_, _, _, a_off (go_off rfl rfl rfl rfl (by first | rfl | assumption | (simp; done) | (simp [*]; done))) rfl rfl rfl, rfl, ?_⟩)
        (refine ⟨_, _, _, a_off (go_off rfl rfl rfl rfl (by first | rfl | assumption | (simp; done) | (simp [*]; done))) rfl rfl rfl, rfl, ?_⟩)
        (refine ⟨_, _, _, a_off (go_off rfl rfl rfl rfl (by first | rfl | assumption | (simp; done) | (simp [*]; done))) rfl rfl rfl, rfl, ?_⟩)
        (refine ⟨_, _, _, a_off (go_off rfl rfl rfl rfl (by first | rfl | assumption | (simp; done) | (simp [*]; done))) rfl rfl rfl, rfl, ?_⟩)
        (refine ⟨_, _, _, aPt (gN rfl) rfl rfl rfl rfl rfl ?hb rfl, rfl, ?_⟩; case hb => (first | rfl | assumption | (simp; done)))
        (refine nx (aM (gN rfl) rfl rfl rfl rfl rfl) rfl ?_)
        (refine ⟨_, _, _, a_off (go_off rfl rfl rfl rfl (by first | rfl | assumption | (simp; done) | (simp [*]; done))) rfl rfl rfl, rfl, ?_⟩)
        (refine ⟨_, _, _, a_off (go_off rfl rfl rfl rfl (by first | rfl | assumption | (simp; done) | (simp [*]; done))) rfl rfl rfl, rfl, ?_⟩)
        (refine ⟨_, _, _, a_off (go_off rfl rfl rfl rfl (by first | rfl | assumption | (simp; done) | (simp [*]; done))) rfl rfl rfl, rfl, ?_⟩)
        (refine ⟨_, _, _, a_off (go_off rfl rfl rfl rfl (by first | rfl | assumption | (simp; done) | (simp [*]; done))) rfl rfl rfl, rfl, ?_⟩)
        (refine ⟨_, _, _, a_off (go_off rfl rfl rfl rfl (by first | rfl | assumption | (simp; done) | (simp [*]; done))) rfl rfl rfl, rfl, ?_⟩)
        (refine ⟨_, _, _, a_off (go_off rfl rfl rfl rfl (by first | rfl | assumption | (simp; done) | (simp [*]; done))) rfl rfl rfl, rfl, ?_⟩)
        (refine ⟨_, _, _, aPt (gN rfl) rfl rfl rfl rfl rfl ?hb rfl, rfl, ?_⟩; case hb => (first | rfl | assumption | (simp; done)))
        exact wk_sub ⟨rfl, rfl, rfl, rfl, rfl, by rw [e9]; rfl, trivial⟩
      · have g0 : decide (f = 0) = false := decide_eq_false h0
        by_cases h1 : ((s.nm.map sv).length : Int) ≤ f
        · have g1 : decide (f ≥ ((s.nm.map sv).length : Int)) = true := decide_eq_true h1
          have e9 : decide (f = 0 ∨ (sgc s : Int) ≤ f) = true := decide_eq_true (.inr (by omega))
          refine aR ?_
          (refine nx (aF (gN rfl) rfl rfl rfl rfl rfl rfl rfl rfl rfl) rfl ?_)
          (refine nx (aLb (gN rfl) rfl rfl rfl rfl rfl rfl rfl rfl rfl rfl rfl rfl) rfl ?_)
          (refine nx (a_eql (gN rfl) rfl rfl rfl rfl rfl rfl) rfl ?_)
          (refine nx (aM (gN rfl) rfl rfl rfl rfl rfl) rfl ?_)
          (refine nx (aF (gd_on rfl rfl rfl rfl (by first | rfl | assumption | (simp; done))) rfl rfl rfl rfl rfl rfl rfl rfl rfl) rfl ?_)
          (refine nx (aLb (gd_on rfl rfl rfl rfl (by first | rfl | assumption | (simp; done))) rfl rfl rfl rfl rfl rfl rfl rfl rfl rfl rfl rfl) rfl ?_)
          (refine nx (aF (gd_on rfl rfl rfl rfl (by first | rfl | assumption | (simp; done))) rfl rfl rfl rfl rfl rfl rfl rfl rfl) rfl ?_)
          (refine nx (aLb (gd_on rfl rfl rfl rfl (by first | rfl | assumption | (simp; done))) rfl rfl rfl rfl rfl rfl rfl rfl rfl rfl rfl rfl) rfl ?_)
          (refine nx (a_len (gd_on rfl rfl rfl rfl (by first | rfl | assumption | (simp; done))) rfl rfl rfl rfl rfl rfl rfl) rfl ?_)
          (refine nx (a_geq (gd_on rfl rfl rfl rfl (by first | rfl | assumption | (simp; done))) rfl rfl rfl rfl rfl rfl) rfl ?_)
          (refine ⟨_, _, _, aPf (gN rfl) rfl rfl rfl rfl rfl ?hb rfl, rfl, ?_⟩; case hb => (first | rfl | assumption | (simp; done)))
          (refine nx (aM (gN rfl) rfl rfl rfl rfl rfl) rfl ?_)
          (refine ⟨_, _, _, a_off (go_off rfl rfl rfl rfl (by first | rfl | assumption | (simp; done) | (simp [*]; done))) rfl rfl rfl, rfl, ?_⟩)
          (refine ⟨_, _, _, a_off (go_off rfl rfl rfl rfl (by first | rfl | assumption | (simp; done) | (simp [*]; done))) rfl rfl rfl, rfl, ?_⟩)
          (refine ⟨_, _, _, a_off (go_off rfl rfl rfl rfl (by first | rfl | assumption | (simp; done) | (simp [*]; done))) rfl rfl rfl, rfl, ?_⟩)
          (refine ⟨_, _, _, a_off (go_off rfl rfl rfl rfl (by first | rfl | assumption | (simp; done) | (simp [*]; done))) rfl rfl rfl, rfl, ?_⟩)
          (refine ⟨_, _, _, a_off (go_off rfl rfl rfl rfl (by first | rfl | assumption | (simp; done) | (simp [*]; done))) rfl rfl rfl, rfl, ?_⟩)
          (refine ⟨_, _, _, a_off (go_off rfl rfl rfl rfl (by first | rfl | assumption | (simp; done) | (simp [*]; done))) rfl rfl rfl, rfl, ?_⟩)
          (refine ⟨_, _, _, aPt (gN rfl) rfl rfl rfl rfl rfl ?hb rfl, rfl, ?_⟩; case hb => (first | rfl | assumption | (simp; done)))
          (refine nx (aM (gN rfl) rfl rfl rfl rfl rfl) rfl ?_)
          (refine ⟨_, _, _, a_off (go_off rfl rfl rfl rfl (by first | rfl | assumption | (simp; done) | (simp [*]; done))) rfl rfl rfl, rfl, ?_⟩)
          (refine ⟨_, _, _, a_off (go_off rfl rfl rfl rfl (by first | rfl | assumption | (simp; done) | (simp [*]; done))) rfl rfl rfl, rfl, ?_⟩)
          (refine ⟨_, _, _, a_off (go_off rfl rfl rfl rfl (by first | rfl | assumption | (simp; done) | (simp [*]; done))) rfl rfl rfl, rfl, ?_⟩)
          (refine ⟨_, _, _, a_off (go_off rfl rfl rfl rfl (by first | rfl | assumption | (simp; done) | (simp [*]; done))) rfl rfl rfl, rfl, ?_⟩)
          (refine ⟨_, _, _, a_off (go_off rfl rfl rfl rfl (by first | rfl | assumption | (simp; done) | (simp [*]; done))) rfl rfl rfl, rfl, ?_⟩)
          (refine ⟨_, _, _, a_off (go_off rfl rfl rfl rfl (by first | rfl | assumption | (simp; done) | (simp [*]; done))) rfl rfl rfl, rfl, ?_⟩)
          (refine ⟨_, _, _, aPt (gN rfl) rfl rfl rfl rfl rfl ?hb rfl, rfl, ?_⟩; case hb => (first | rfl | assumption | (simp; done)))
          exact wk_sub ⟨rfl, rfl, rfl, rfl, rfl, by rw [e9]; rfl, trivial⟩
        · have g1 : decide (f ≥ ((s.nm.map sv).length : Int)) = false := decide_eq_false h1
          by_cases h2 : ((s.ar.map iv).length : Int) ≤ f
          · have g2 : decide (f ≥ ((s.ar.map iv).length : Int)) = true := decide_eq_true h2
            have e9 : decide (f = 0 ∨ (sgc s : Int) ≤ f) = true := decide_eq_true (.inr (by omega))
            refine aR ?_
            (refine nx (aF (gN rfl) rfl rfl rfl rfl rfl rfl rfl rfl rfl) rfl ?_)
            (refine nx (aLb (gN rfl) rfl rfl rfl rfl rfl rfl rfl rfl rfl rfl rfl rfl) rfl ?_)
            (refine nx (a_eql (gN rfl) rfl rfl rfl rfl rfl rfl) rfl ?_)
            (refine nx (aM (gN rfl) rfl rfl rfl rfl rfl) rfl ?_)
            (refine nx (aF (gd_on rfl rfl rfl rfl (by first | rfl | assumption | (simp; done))) rfl rfl rfl rfl rfl rfl rfl rfl rfl) rfl ?_)
            (refine nx (aLb (gd_on rfl rfl rfl rfl (by first | rfl | assumption | (simp; done))) rfl rfl rfl rfl rfl rfl rfl rfl rfl rfl rfl rfl) rfl ?_)
            (refine nx (aF (gd_on rfl rfl rfl rfl (by first | rfl | assumption | (simp; done))) rfl rfl rfl rfl rfl rfl rfl rfl rfl) rfl ?_)
            (refine nx (aLb (gd_on rfl rfl rfl rfl (by first | rfl | assumption | (simp; done))) rfl rfl rfl rfl rfl rfl rfl rfl rfl rfl rfl rfl) rfl ?_)
            (refine nx (a_len (gd_on rfl rfl rfl rfl (by first | rfl | assumption | (simp; done))) rfl rfl rfl rfl rfl rfl rfl) rfl ?_)
            (refine nx (a_geq (gd_on rfl rfl rfl rfl (by first | rfl | assumption | (simp; done))) rfl rfl rfl rfl rfl rfl) rfl ?_)
            (refine ⟨_, _, _, aPf (gN rfl) rfl rfl rfl rfl rfl ?hb rfl, rfl, ?_⟩; case hb => (first | rfl | assumption | (simp; done)))
            (refine nx (aM (gN rfl) rfl rfl rfl rfl rfl) rfl ?_)
            (refine nx (aF (gd_on rfl rfl rfl rfl (by first | rfl | assumption | (simp; done))) rfl rfl rfl rfl rfl rfl rfl rfl rfl) rfl ?_)
            (refine nx (aLb (gd_on rfl rfl rfl rfl (by first | rfl | assumption | (simp; done))) rfl rfl rfl rfl rfl rfl rfl rfl rfl rfl rfl rfl) rfl ?_)
            (refine nx (aF (gd_on rfl rfl rfl rfl (by first | rfl | assumption | (simp; done))) rfl rfl rfl rfl rfl rfl rfl rfl rfl) rfl ?_)
            (refine nx (aLb (gd_on rfl rfl rfl rfl (by first | rfl | assumption | (simp; done))) rfl rfl rfl rfl rfl rfl rfl rfl rfl rfl rfl rfl) rfl ?_)
            (refine nx (a_len (gd_on rfl rfl rfl rfl (by first | rfl | assumption | (simp; done))) rfl rfl rfl rfl rfl rfl rfl) rfl ?_)
            (refine nx (a_geq (gd_on rfl rfl rfl rfl (by first | rfl | assumption | (simp; done))) rfl rfl rfl rfl rfl rfl) rfl ?_)
            (refine ⟨_, _, _, aPf (gN rfl) rfl rfl rfl rfl rfl ?hb rfl, rfl, ?_⟩; case hb => (first | rfl | assumption | (simp; done)))
            (refine nx (aM (gN rfl) rfl rfl rfl rfl rfl) rfl ?_)
            (refine ⟨_, _, _, a_off (go_off rfl rfl rfl rfl (by first | rfl | assumption | (simp; done) | (simp [*]; done))) rfl rfl rfl, rfl, ?_⟩)
            (refine ⟨_, _, _, a_off (go_off rfl rfl rfl rfl (by first | rfl | assumption | (simp; done) | (simp [*]; done))) rfl rfl rfl, rfl, ?_⟩)
            (refine ⟨_, _, _, a_off (go_off rfl rfl rfl rfl (by first | rfl | assumption | (simp; done) | (simp [*]; done))) rfl rfl rfl, rfl, ?_⟩)
            (refine ⟨_, _, _, a_off (go_off rfl rfl rfl rfl (by first | rfl | assumption | (simp; done) | (simp [*]; done))) rfl rfl rfl, rfl, ?_⟩)
            (refine ⟨_, _, _, a_off (go_off rfl rfl rfl rfl (by first | rfl | assumption | (simp; done) | (simp [*]; done))) rfl rfl rfl, rfl, ?_⟩)
            (refine ⟨_, _, _, a_off (go_off rfl rfl rfl rfl (by first | rfl | assumption | (simp; done) | (simp [*]; done))) rfl rfl rfl, rfl, ?_⟩)
            (refine ⟨_, _, _, aPt (gN rfl) rfl rfl rfl rfl rfl ?hb rfl, rfl, ?_⟩; case hb => (first | rfl | assumption | (simp; done)))
            exact wk_sub ⟨rfl, rfl, rfl, rfl, rfl, by rw [e9]; rfl, trivial⟩
          · have g2 : decide (f ≥ ((s.ar.map iv).length : Int)) = false := decide_eq_false h2
            have g3 : decide (f = 0 ∨ (sgc s : Int) ≤ f) = decide (f ≥ ((s.pr.map bv).length : Int)) := decide_eq_decide.2 ⟨fun h => by omega, fun h => by omega⟩
            refine aR ?_
            (refine nx (aF (gN rfl) rfl rfl rfl rfl rfl rfl rfl rfl rfl) rfl ?_)
            (refine nx (aLb (gN rfl) rfl rfl rfl rfl rfl rfl rfl rfl rfl rfl rfl rfl) rfl ?_)
            (refine nx (a_eql (gN rfl) rfl rfl rfl rfl rfl rfl) rfl ?_)
            (refine nx (aM (gN rfl) rfl rfl rfl rfl rfl) rfl ?_)
            (refine nx (aF (gd_on rfl rfl rfl rfl (by first | rfl | assumption | (simp; done))) rfl rfl rfl rfl rfl rfl rfl rfl rfl) rfl ?_)
            (refine nx (aLb (gd_on rfl rfl rfl rfl (by first | rfl | assumption | (simp; done))) rfl rfl rfl rfl rfl rfl rfl rfl rfl rfl rfl rfl) rfl ?_)
            (refine nx (aF (gd_on rfl rfl rfl rfl (by first | rfl | assumption | (simp; done))) rfl rfl rfl rfl rfl rfl rfl rfl rfl) rfl ?_)
            (refine nx (aLb (gd_on rfl rfl rfl rfl (by first | rfl | assumption | (simp; done))) rfl rfl rfl rfl rfl rfl rfl rfl rfl rfl rfl rfl) rfl ?_)
            (refine nx (a_len (gd_on rfl rfl rfl rfl (by first | rfl | assumption | (simp; done))) rfl rfl rfl rfl rfl rfl rfl) rfl ?_)
            (refine nx (a_geq (gd_on rfl rfl rfl rfl (by first | rfl | assumption | (simp; done))) rfl rfl rfl rfl rfl rfl) rfl ?_)
            (refine ⟨_, _, _, aPf (gN rfl) rfl rfl rfl rfl rfl ?hb rfl, rfl, ?_⟩; case hb => (first | rfl | assumption | (simp; done)))
            (refine nx (aM (gN rfl) rfl rfl rfl rfl rfl) rfl ?_)
            (refine nx (aF (gd_on rfl rfl rfl rfl (by first | rfl | assumption | (simp; done))) rfl rfl rfl rfl rfl rfl rfl rfl rfl) rfl ?_)
            (refine nx (aLb (gd_on rfl rfl rfl rfl (by first | rfl | assumption | (simp; done))) rfl rfl rfl rfl rfl rfl rfl rfl rfl rfl rfl rfl) rfl ?_)
            (refine nx (aF (gd_on rfl rfl rfl rfl (by first | rfl | assumption | (simp; done))) rfl rfl rfl rfl rfl rfl rfl rfl rfl) rfl ?_)
            (refine nx (aLb (gd_on rfl rfl rfl rfl (by first | rfl | assumption | (simp; done))) rfl rfl rfl rfl rfl rfl rfl rfl rfl rfl rfl rfl) rfl ?_)
            (refine nx (a_len (gd_on rfl rfl rfl rfl (by first | rfl | assumption | (simp; done))) rfl rfl rfl rfl rfl rfl rfl) rfl ?_)
            (refine nx (a_geq (gd_on rfl rfl rfl rfl (by first | rfl | assumption | (simp; done))) rfl rfl rfl rfl rfl rfl) rfl ?_)
            (refine ⟨_, _, _, aPf (gN rfl) rfl rfl rfl rfl rfl ?hb rfl, rfl, ?_⟩; case hb => (first | rfl | assumption | (simp; done)))
            (refine nx (aM (gN rfl) rfl rfl rfl rfl rfl) rfl ?_)
            (refine nx (aF (gd_on rfl rfl rfl rfl (by first | rfl | assumption | (simp; done))) rfl rfl rfl rfl rfl rfl rfl rfl rfl) rfl ?_)
            (refine nx (aLb (gd_on rfl rfl rfl rfl (by first | rfl | assumption | (simp; done))) rfl rfl rfl rfl rfl rfl rfl rfl rfl rfl rfl rfl) rfl ?_)
            (refine nx (aF (gd_on rfl rfl rfl rfl (by first | rfl | assumption | (simp; done))) rfl rfl rfl rfl rfl rfl rfl rfl rfl) rfl ?_)
            (refine nx (aLb (gd_on rfl rfl rfl rfl (by first | rfl | assumption | (simp; done))) rfl rfl rfl rfl rfl rfl rfl rfl rfl rfl rfl rfl) rfl ?_)
            (refine nx (a_len (gd_on rfl rfl rfl rfl (by first | rfl | assumption | (simp; done))) rfl rfl rfl rfl rfl rfl rfl) rfl ?_)
            (refine nx (a_geq (gd_on rfl rfl rfl rfl (by first | rfl | assumption | (simp; done))) rfl rfl rfl rfl rfl rfl) rfl ?_)
            (refine ⟨_, _, _, aPf (gN rfl) rfl rfl rfl rfl rfl ?hb rfl, rfl, ?_⟩; case hb => (first | rfl | assumption | (simp; done)))
            exact wk_sub ⟨rfl, rfl, rfl, rfl, rfl, by rw [g3]; rfl, trivial⟩
    · refine aC rfl (fun hc => ?_) (fun hc => aK ?_)
      · have hc : f = 0 ∨ (sgc s : Int) ≤ f := by simpa using hc
        rw [ofB_no (by omega) hc]
        refine aS (aR ?_)
        (refine nx (aA (gN rfl) rfl rfl rfl rfl rfl) rfl ?_)
        show AWp _ _ _ _ _ _ _
        exact aT (And.intro (.inr rfl) rfl)
      · have hc : ¬ (f = 0 ∨ (sgc s : Int) ≤ f) := by simpa using hc
        obtain ⟨j, rfl⟩ : ∃ j : Nat, f = (j : Int) := ⟨f.toNat, by omega⟩
        have hj0 : 0 < j := by omega
        have hjs : j < sgc s := by omega
        obtain ⟨x, hx⟩ : ∃ x, s.ar[j]? = some x := ⟨s.ar[j]'(by omega), List.getElem?_eq_getElem _⟩
        obtain ⟨y, hy⟩ : ∃ y, s.pr[j]? = some y := ⟨s.pr[j]'(by omega), List.getElem?_eq_getElem _⟩
        have hx' : (s.ar.map iv)[j]? = some (iv x) := by rw [List.getElem?_map, hx]; rfl
        have hy' : (s.pr.map bv)[j]? = some (bv y) := by rw [List.getElem?_map, hy]; rfl
        have nl : (l.map Tm.cv).length = l.length := List.length_map _
        rw [ofB_yes hj0 hjs hx hy]
        show AWp _ _ _ _ _ _ _
        refine aS (awp_mid [(3, .bp 3 0 []), (100003, .bx (sgv s)), (4, .bp 4 0 []), (100004, .bx (Tm.cw ⟨(j : Int), l⟩)), (59, .val (.b (!((y == p) && decide (x = l.length)))))] ?_ ?_)
        · cases hyp : (y == p) with
          | false =>
            have g : (y != p) = true := by cases y <;> cases p <;> simp_all
            refine aD (by kernel_rfl) (by kernel_rfl) ?_
            (refine nx (aF (gN rfl) rfl rfl rfl rfl rfl rfl rfl rfl rfl) rfl ?_)
            (refine nx (aLb (gN rfl) rfl rfl rfl rfl rfl rfl rfl rfl rfl rfl rfl rfl) rfl ?_)
            (refine nx (aF (gN rfl) rfl rfl rfl rfl rfl rfl rfl rfl rfl) rfl ?_)
            (refine nx (aLb (gN rfl) rfl rfl rfl rfl rfl rfl rfl rfl rfl rfl rfl rfl) rfl ?_)
            (refine nx (a_index (j := j) (gN rfl) rfl rfl rfl rfl rfl rfl rfl rfl rfl (hy') rfl (hz)) rfl ?_)
            (refine nx (a_load_ad (gN rfl) rfl rfl rfl rfl rfl rfl rfl rfl rfl) rfl ?_)
            (refine nx (aM (gN rfl) rfl rfl rfl rfl rfl) rfl ?_)
            (refine nx (a_bne (gN rfl) rfl rfl rfl rfl rfl rfl rfl) rfl ?_)
            (refine nx (aM (gN rfl) rfl rfl rfl rfl rfl) rfl ?_)
            (refine ⟨_, _, _, a_off (go_off rfl rfl rfl rfl (by first | rfl | assumption | (simp; done) | (simp [*]; done))) rfl rfl rfl, rfl, ?_⟩)
            (refine ⟨_, _, _, a_off (go_off rfl rfl rfl rfl (by first | rfl | assumption | (simp; done) | (simp [*]; done))) rfl rfl rfl, rfl, ?_⟩)
            (refine ⟨_, _, _, a_off (go_off rfl rfl rfl rfl (by first | rfl | assumption | (simp; done) | (simp [*]; done))) rfl rfl rfl, rfl, ?_⟩)
            (refine ⟨_, _, _, a_off (go_off rfl rfl rfl rfl (by first | rfl | assumption | (simp; done) | (simp [*]; done))) rfl rfl rfl, rfl, ?_⟩)
            (refine ⟨_, _, _, a_off (go_off rfl rfl rfl rfl (by first | rfl | assumption | (simp; done) | (simp [*]; done))) rfl rfl rfl, rfl, ?_⟩)
            (refine ⟨_, _, _, a_off (go_off rfl rfl rfl rfl (by first | rfl | assumption | (simp; done) | (simp [*]; done))) rfl rfl rfl, rfl, ?_⟩)
            (refine ⟨_, _, _, a_off (go_off rfl rfl rfl rfl (by first | rfl | assumption | (simp; done) | (simp [*]; done))) rfl rfl rfl, rfl, ?_⟩)
            (refine ⟨_, _, _, a_off (go_off rfl rfl rfl rfl (by first | rfl | assumption | (simp; done) | (simp [*]; done))) rfl rfl rfl, rfl, ?_⟩)
            (refine ⟨_, _, _, a_off (go_off rfl rfl rfl rfl (by first | rfl | assumption | (simp; done) | (simp [*]; done))) rfl rfl rfl, rfl, ?_⟩)
            (refine ⟨_, _, _, a_off (go_off rfl rfl rfl rfl (by first | rfl | assumption | (simp; done) | (simp [*]; done))) rfl rfl rfl, rfl, ?_⟩)
            (refine ⟨_, _, _, aPt (gN rfl) rfl rfl rfl rfl rfl ?hb rfl, rfl, ?_⟩; case hb => (first | rfl | assumption | (simp; done)))
            refine ⟨by kernel_rfl, ?_⟩
            exact wk_sub ⟨rfl, rfl, rfl, rfl, rfl, trivial⟩
          | true =>
            have g : (y != p) = false := by cases y <;> cases p <;> simp_all
            have g3 : (!(true && decide (x = l.length))) = decide ((x : Int) ≠ ((l.map Tm.cv).length : Int)) := by
              rw [nl, Bool.true_and, ← decide_not]
              exact decide_eq_decide.2 ⟨fun h => by omega, fun h => by omega⟩
            refine aD (by kernel_rfl) (by kernel_rfl) ?_
            (refine nx (aF (gN rfl) rfl rfl rfl rfl rfl rfl rfl rfl rfl) rfl ?_)
            (refine nx (aLb (gN rfl) rfl rfl rfl rfl rfl rfl rfl rfl rfl rfl rfl rfl) rfl ?_)
            (refine nx (aF (gN rfl) rfl rfl rfl rfl rfl rfl rfl rfl rfl) rfl ?_)
            (refine nx (aLb (gN rfl) rfl rfl rfl rfl rfl rfl rfl rfl rfl rfl rfl rfl) rfl ?_)
            (refine nx (a_index (j := j) (gN rfl) rfl rfl rfl rfl rfl rfl rfl rfl rfl (hy') rfl (hz)) rfl ?_)
            (refine nx (a_load_ad (gN rfl) rfl rfl rfl rfl rfl rfl rfl rfl rfl) rfl ?_)
            (refine nx (aM (gN rfl) rfl rfl rfl rfl rfl) rfl ?_)
            (refine nx (a_bne (gN rfl) rfl rfl rfl rfl rfl rfl rfl) rfl ?_)
            (refine nx (aM (gN rfl) rfl rfl rfl rfl rfl) rfl ?_)
            (refine nx (aF (gd_on rfl rfl rfl rfl (by first | rfl | assumption | (simp; done))) rfl rfl rfl rfl rfl rfl rfl rfl rfl) rfl ?_)
            (refine nx (aLb (gd_on rfl rfl rfl rfl (by first | rfl | assumption | (simp; done))) rfl rfl rfl rfl rfl rfl rfl rfl rfl rfl rfl rfl) rfl ?_)
            (refine nx (aF (gd_on rfl rfl rfl rfl (by first | rfl | assumption | (simp; done))) rfl rfl rfl rfl rfl rfl rfl rfl rfl) rfl ?_)
            (refine nx (aLb (gd_on rfl rfl rfl rfl (by first | rfl | assumption | (simp; done))) rfl rfl rfl rfl rfl rfl rfl rfl rfl rfl rfl rfl) rfl ?_)
            (refine nx (a_index (j := j) (gd_on rfl rfl rfl rfl (by first | rfl | assumption | (simp; done))) rfl rfl rfl rfl rfl rfl rfl rfl rfl (hx') rfl (hz2)) rfl ?_)
            (refine nx (a_load_ad (gd_on rfl rfl rfl rfl (by first | rfl | assumption | (simp; done))) rfl rfl rfl rfl rfl rfl rfl rfl rfl) rfl ?_)
            (refine nx (aF (gd_on rfl rfl rfl rfl (by first | rfl | assumption | (simp; done))) rfl rfl rfl rfl rfl rfl rfl rfl rfl) rfl ?_)
            (refine nx (aLb (gd_on rfl rfl rfl rfl (by first | rfl | assumption | (simp; done))) rfl rfl rfl rfl rfl rfl rfl rfl rfl rfl rfl rfl) rfl ?_)
            (refine nx (a_len (gd_on rfl rfl rfl rfl (by first | rfl | assumption | (simp; done))) rfl rfl rfl rfl rfl rfl rfl) rfl ?_)
            (refine nx (a_neq (gd_on rfl rfl rfl rfl (by first | rfl | assumption | (simp; done))) rfl rfl rfl rfl rfl rfl) rfl ?_)
            (refine ⟨_, _, _, aPf (gN rfl) rfl rfl rfl rfl rfl ?hb rfl, rfl, ?_⟩; case hb => (first | rfl | assumption | (simp; done)))
            refine ⟨by kernel_rfl, ?_⟩
            exact wk_sub ⟨rfl, rfl, rfl, rfl, by rw [g3]; rfl, trivial⟩
        · refine aC rfl (fun hc => ?_) (fun hc => aK ?_)
          · have hc : ((y == p) && decide (x = l.length)) = false := by
              have hc : (!((y == p) && decide (x = l.length))) = true := hc
              cases h : ((y == p) && decide (x = l.length)) with
              | false => rfl
              | true => rw [h] at hc; cases hc
            rw [← Bool.and_assoc, hc]
            refine aS (aR ?_)
            (refine nx (aA (gN rfl) rfl rfl rfl rfl rfl) rfl ?_)
            show AWp _ _ _ _ _ _ _
            exact aT (And.intro (.inr rfl) rfl)
          · have hc : ((y == p) && decide (x = l.length)) = true := by
              have hc : (!((y == p) && decide (x = l.length))) = false := hc
              cases h : ((y == p) && decide (x = l.length)) with
              | true => rfl
              | false => rw [h] at hc; cases hc
            rw [← Bool.and_assoc, hc, Bool.true_and]
            show AWp _ _ _ _ _ _ _
            refine aS (aS (aR ?_))
            (refine nx (aA (gN rfl) rfl rfl rfl rfl rfl) rfl ?_)
            show AWp _ _ _ _ _ _ _
            refine aB (awp_countI l.length (fun k => (l.take k).all (rtB s) = true) (fun k => [(3, .bp 3 0 []), (100003, .bx (sgv s)), (4, .bp 4 0 []), (100004, .bx (Tm.cw ⟨(j : Int), l⟩)), (7, .val (.i (k : Int)))]) (wk_sub ⟨rfl, rfl, rfl, rfl, rfl, trivial⟩) rfl ?_)
            intro k hk hI
            refine aS (aS (aR ?_))
            (refine nx (aM (gN rfl) rfl rfl rfl rfl rfl) rfl ?_)
            (refine nx (aF (gN rfl) rfl rfl rfl rfl rfl rfl rfl rfl rfl) rfl ?_)
            (refine nx (aLb (gN rfl) rfl rfl rfl rfl rfl rfl rfl rfl rfl rfl rfl rfl) rfl ?_)
            (refine nx (a_len (gN rfl) rfl rfl rfl rfl rfl rfl rfl) rfl ?_)
            (refine nx (a_lss (gN rfl) rfl rfl rfl rfl rfl rfl) rfl ?_)
            show AWp _ _ _ _ _ _ _
            refine aC rfl (fun hlt => ?_) (fun hlt => ?_)
            · have hkl : k < l.length := by simpa using hlt
              obtain ⟨z, hzk⟩ : ∃ z, l[k]? = some z := ⟨l[k], List.getElem?_eq_getElem hkl⟩
              have hz' := Tm.map_at hzk
              have hxm := List.mem_of_getElem? hzk
              have hct := hT z hxm w
              have h1 : (l.take (k + 1)).all (rtB s) = ((l.take k).all (rtB s) && rtB s z) := by rw [List.take_add_one, hzk, List.all_append]; simp
              refine aK ?_
              show AWp _ _ _ _ _ _ _
              cases hb : rtB s z with
              | false =>
                rw [hb] at hct
                refine aS (aB (aS (aD (by kernel_rfl) (by kernel_rfl) ?_)))
                (refine nx (aL (gN rfl) rfl rfl rfl rfl rfl rfl rfl rfl rfl rfl rfl rfl) rfl ?_)
                (refine nx (aF (gN rfl) rfl rfl rfl rfl rfl rfl rfl rfl rfl) rfl ?_)
                (refine nx (aLb (gN rfl) rfl rfl rfl rfl rfl rfl rfl rfl rfl rfl rfl rfl) rfl ?_)
                (refine nx (aM (gN rfl) rfl rfl rfl rfl rfl) rfl ?_)
                (refine nx (a_index (j := k) (gN rfl) rfl rfl rfl rfl rfl rfl rfl rfl rfl (hz') rfl (hz3)) rfl ?_)
                (refine nx (a_load_ad (gN rfl) rfl rfl rfl rfl rfl rfl rfl rfl rfl) rfl ?_)
                (refine nx (a_call (gN rfl) rfl rfl rfl rfl rfl (hct)) rfl ?_)
                (refine nx (a_not (gN rfl) rfl rfl rfl rfl rfl) rfl ?_)
                refine ⟨by kernel_rfl, ?_⟩
                show AWp _ _ _ _ _ _ _
                refine aC rfl (fun hc => ?_) (fun hc => by cases hc)
                refine aS (aR ?_)
                (refine nx (aA (gN rfl) rfl rfl rfl rfl rfl) rfl ?_)
                show AWp _ _ _ _ _ _ _
                refine aT (And.intro (.inr rfl) ?_)
                have : l.all (rtB s) = false := by
                  rw [List.all_eq_false]
                  exact ⟨z, hxm, by rw [hb]; simp⟩
                rw [this]
                rfl
              | true =>
                rw [hb] at hct h1
                refine aS (aB (aS (aD (by kernel_rfl) (by kernel_rfl) ?_)))
                (refine nx (aL (gN rfl) rfl rfl rfl rfl rfl rfl rfl rfl rfl rfl rfl rfl) rfl ?_)
                (refine nx (aF (gN rfl) rfl rfl rfl rfl rfl rfl rfl rfl rfl) rfl ?_)
                (refine nx (aLb (gN rfl) rfl rfl rfl rfl rfl rfl rfl rfl rfl rfl rfl rfl) rfl ?_)
                (refine nx (aM (gN rfl) rfl rfl rfl rfl rfl) rfl ?_)
                (refine nx (a_index (j := k) (gN rfl) rfl rfl rfl rfl rfl rfl rfl rfl rfl (hz') rfl (hz3)) rfl ?_)
                (refine nx (a_load_ad (gN rfl) rfl rfl rfl rfl rfl rfl rfl rfl rfl) rfl ?_)
                (refine nx (a_call (gN rfl) rfl rfl rfl rfl rfl (hct)) rfl ?_)
                (refine nx (a_not (gN rfl) rfl rfl rfl rfl rfl) rfl ?_)
                refine ⟨by kernel_rfl, ?_⟩
                show AWp _ _ _ _ _ _ _
                refine aC rfl (fun hc => by cases hc) (fun hc => aK ?_)
                show AWp _ _ _ _ _ _ _
                refine aR ?_
                (refine nx (aM (gN rfl) rfl rfl rfl rfl rfl) rfl ?_)
                (refine nx (a_add (gN rfl) rfl rfl rfl rfl rfl rfl (by first | omega | (simp only [List.length_map, List.length_append, List.length_cons, List.length_nil] <;> omega) | (simp <;> omega))) rfl ?_)
                (refine nx (aA (gN rfl) rfl rfl rfl rfl rfl) rfl ?_)
                refine ⟨hkl, by show (l.take (k + 1)).all (rtB s) = true; rw [h1, hI]; rfl, wk_sub ⟨rfl, rfl, rfl, rfl, rfl, trivial⟩⟩
            · have hkl : k = l.length := by
                have : ¬ k < l.length := by simpa using hlt
                omega
              subst hkl
              rw [List.take_length] at hI
              refine aE ?_
              show AWp _ _ _ _ _ _ _
              refine aS (aR ?_)
              (refine nx (aA (gN rfl) rfl rfl rfl rfl rfl) rfl ?_)
              show AWp _ _ _ _ _ _ _
              refine aT (And.intro (.inr rfl) ?_)
              rw [hI]
              rfl
theorem ofT_abs (s : Sg) : ∀ t : Tm, t.ok → ∀ W : World, AFun Tryd.prog W 34 [sgv s, t.cw, .b false] (.val (.b (rtB s t))) := Tm.ind fun f l ih ho W => by
  obtain ⟨h1, h2⟩ := (Tm.ok_iff _).1 ho
  exact of_of W s ⟨f, l⟩ false h1 fun q hq W => ih q hq (h2 q hq) W
theorem ofA_abs (W : World) (s : Sg) (t : Tm) (ho : t.ok) : AFun Tryd.prog W 34 [sgv s, t.cw, .b true] (.val (.b (atB s t))) := by
  obtain ⟨h1, h2⟩ := (Tm.ok_iff _).1 ho
  exact of_of W s t true h1 fun q hq W => ofT_abs s q (h2 q hq) W
noncomputable def drB (s : Sg) (l : Lt) : Bool := match trB l.b with
  | true => atB s l.a
  | false => rtB s l.a && rtB s l.b
-- 
set_option maxHeartbeats 8000000 in
theorem right12_abs (W : World) (s : Sg) (c : List Lt) (hl : c.length ≤ 10000000000) (ho : ∀ x ∈ c, x.a.ok ∧ x.b.ok) : AFun Tryd.prog W 20 [sgv s, .lst (c.map Lt.cv)] (.val (.b (c.all (drB s)))) := by
  have hz := Lt.size_all c
  refine afun_of (rs := [.b (c.all (drB s))]) Tryd.func20 Tryd.ntmps20 rfl rfl rfl rfl ?_
  intro w U hW
  refine aS (aR ?_)
  (refine nx (a_box (gN rfl) rfl rfl rfl rfl rfl) rfl ?_)
  (refine nx (aA (gN rfl) rfl rfl rfl rfl rfl) rfl ?_)
  show AWp _ _ _ _ _ _ _
  refine aS (aS (aR ?_))
  (refine nx (aA (gN rfl) rfl rfl rfl rfl rfl) rfl ?_)
  show AWp _ _ _ _ _ _ _
  refine aB (awp_countI c.length (fun k => (c.take k).all (drB s) = true) (fun k => [(1, .val (.lst (c.map Lt.cv))), (2, .bp 2 0 []), (100002, .bx (sgv s)), (5, .val (.i (k : Int)))]) (wk_sub ⟨rfl, rfl, rfl, rfl, trivial⟩) rfl ?_)
  intro k hk hI
  refine aS (aS (aR ?_))
  (refine nx (aM (gN rfl) rfl rfl rfl rfl rfl) rfl ?_)
  (refine nx (aM (gN rfl) rfl rfl rfl rfl rfl) rfl ?_)
  (refine nx (a_len (gN rfl) rfl rfl rfl rfl rfl rfl rfl) rfl ?_)
  (refine nx (a_lss (gN rfl) rfl rfl rfl rfl rfl rfl) rfl ?_)
  show AWp _ _ _ _ _ _ _
  refine aC rfl (fun hlt => ?_) (fun hlt => ?_)
  · have hkl : k < c.length := by simpa using hlt
    obtain ⟨x, hx⟩ : ∃ x, c[k]? = some x := ⟨c[k], List.getElem?_eq_getElem hkl⟩
    have hx' := Lt.map_at hx
    have hxm := List.mem_of_getElem? hx
    have oa := (ho x hxm).1
    have ob := (ho x hxm).2
    have h1 : (c.take (k + 1)).all (drB s) = ((c.take k).all (drB s) && drB s x) := by rw [List.take_add_one, hx, List.all_append]; simp
    have hbad : drB s x = false → c.all (drB s) = false := fun hb => by
      rw [List.all_eq_false]
      exact ⟨x, hxm, by rw [hb]; simp⟩
    have nl : (x.b.l.map Tm.cv).length = x.b.l.length := List.length_map _
    refine aK ?_
    show AWp _ _ _ _ _ _ _
    refine AWp.wk (wk_sub (s' := [(1, .val (.lst (c.map Lt.cv))), (2, .bp 2 0 []), (100002, .bx (sgv s)), (5, .val (.i (k : Int)))]) ⟨rfl, rfl, rfl, rfl, trivial⟩) ?_
    · refine aS (aB (aS (awp_mid [(1, .val (.lst (c.map Lt.cv))), (2, .bp 2 0 []), (100002, .bx (sgv s)), (5, .val (.i (k : Int))), (28, .val (.b (trB x.b)))] ?_ ?_)))
      · cases hf : decide (x.b.f = 0) with
        | true =>
          have e9 : trB x.b = decide (((x.b.l.map Tm.cv).length : Int) = 0) := by
            unfold trB
            rw [hf, nl, Bool.true_and]
            exact decide_eq_decide.2 ⟨fun h => by omega, fun h => by omega⟩
          refine aR ?_
          (refine nx (aM (gN rfl) rfl rfl rfl rfl rfl) rfl ?_)
          (refine nx (aM (gN rfl) rfl rfl rfl rfl rfl) rfl ?_)
          (refine nx (a_index (j := k) (gN rfl) rfl rfl rfl rfl rfl rfl rfl rfl rfl (hx') rfl (hz)) rfl ?_)
          (refine nx (a_field_ad (gN rfl) rfl rfl rfl rfl rfl rfl rfl rfl rfl rfl rfl) rfl ?_)
          (refine nx (a_field_ad (gN rfl) rfl rfl rfl rfl rfl rfl rfl rfl rfl rfl rfl) rfl ?_)
          (refine nx (a_load_ad (gN rfl) rfl rfl rfl rfl rfl rfl rfl rfl rfl) rfl ?_)
          (refine nx (a_eql (gN rfl) rfl rfl rfl rfl rfl rfl) rfl ?_)
          (refine nx (aM (gN rfl) rfl rfl rfl rfl rfl) rfl ?_)
          (refine nx (aM (gd_on rfl rfl rfl rfl (by first | rfl | assumption | (simp; done))) rfl rfl rfl rfl rfl) rfl ?_)
          (refine nx (aM (gd_on rfl rfl rfl rfl (by first | rfl | assumption | (simp; done))) rfl rfl rfl rfl rfl) rfl ?_)
          (refine nx (a_index (j := k) (gd_on rfl rfl rfl rfl (by first | rfl | assumption | (simp; done))) rfl rfl rfl rfl rfl rfl rfl rfl rfl (hx') rfl (hz)) rfl ?_)
          (refine nx (a_field_ad (gd_on rfl rfl rfl rfl (by first | rfl | assumption | (simp; done))) rfl rfl rfl rfl rfl rfl rfl rfl rfl rfl rfl) rfl ?_)
          (refine nx (a_field_ad (gd_on rfl rfl rfl rfl (by first | rfl | assumption | (simp; done))) rfl rfl rfl rfl rfl rfl rfl rfl rfl rfl rfl) rfl ?_)
          (refine nx (a_load_ad (gd_on rfl rfl rfl rfl (by first | rfl | assumption | (simp; done))) rfl rfl rfl rfl rfl rfl rfl rfl rfl) rfl ?_)
          (refine nx (a_len (gd_on rfl rfl rfl rfl (by first | rfl | assumption | (simp; done))) rfl rfl rfl rfl rfl rfl rfl) rfl ?_)
          (refine nx (a_eql (gd_on rfl rfl rfl rfl (by first | rfl | assumption | (simp; done))) rfl rfl rfl rfl rfl rfl) rfl ?_)
          (refine ⟨_, _, _, aPt (gN rfl) rfl rfl rfl rfl rfl ?hb rfl, rfl, ?_⟩; case hb => (first | rfl | assumption | (simp; done)))
          exact wk_sub ⟨rfl, rfl, rfl, rfl, by rw [e9]; rfl, trivial⟩
        | false =>
          have e9 : trB x.b = false := by
            unfold trB
            rw [hf]
            rfl
          refine aR ?_
          (refine nx (aM (gN rfl) rfl rfl rfl rfl rfl) rfl ?_)
          (refine nx (aM (gN rfl) rfl rfl rfl rfl rfl) rfl ?_)
          (refine nx (a_index (j := k) (gN rfl) rfl rfl rfl rfl rfl rfl rfl rfl rfl (hx') rfl (hz)) rfl ?_)
          (refine nx (a_field_ad (gN rfl) rfl rfl rfl rfl rfl rfl rfl rfl rfl rfl rfl) rfl ?_)
          (refine nx (a_field_ad (gN rfl) rfl rfl rfl rfl rfl rfl rfl rfl rfl rfl rfl) rfl ?_)
          (refine nx (a_load_ad (gN rfl) rfl rfl rfl rfl rfl rfl rfl rfl rfl) rfl ?_)
          (refine nx (a_eql (gN rfl) rfl rfl rfl rfl rfl rfl) rfl ?_)
          (refine nx (aM (gN rfl) rfl rfl rfl rfl rfl) rfl ?_)
          (refine ⟨_, _, _, a_off (go_off rfl rfl rfl rfl (by first | rfl | assumption | (simp; done) | (simp [*]; done))) rfl rfl rfl, rfl, ?_⟩)
          (refine ⟨_, _, _, a_off (go_off rfl rfl rfl rfl (by first | rfl | assumption | (simp; done) | (simp [*]; done))) rfl rfl rfl, rfl, ?_⟩)
          (refine ⟨_, _, _, a_off (go_off rfl rfl rfl rfl (by first | rfl | assumption | (simp; done) | (simp [*]; done))) rfl rfl rfl, rfl, ?_⟩)
          (refine ⟨_, _, _, a_off (go_off rfl rfl rfl rfl (by first | rfl | assumption | (simp; done) | (simp [*]; done))) rfl rfl rfl, rfl, ?_⟩)
          (refine ⟨_, _, _, a_off (go_off rfl rfl rfl rfl (by first | rfl | assumption | (simp; done) | (simp [*]; done))) rfl rfl rfl, rfl, ?_⟩)
          (refine ⟨_, _, _, a_off (go_off rfl rfl rfl rfl (by first | rfl | assumption | (simp; done) | (simp [*]; done))) rfl rfl rfl, rfl, ?_⟩)
          (refine ⟨_, _, _, a_off (go_off rfl rfl rfl rfl (by first | rfl | assumption | (simp; done) | (simp [*]; done))) rfl rfl rfl, rfl, ?_⟩)
          (refine ⟨_, _, _, a_off (go_off rfl rfl rfl rfl (by first | rfl | assumption | (simp; done) | (simp [*]; done))) rfl rfl rfl, rfl, ?_⟩)
          (refine ⟨_, _, _, aPf (gN rfl) rfl rfl rfl rfl rfl ?hb rfl, rfl, ?_⟩; case hb => (first | rfl | assumption | (simp; done)))
          exact wk_sub ⟨rfl, rfl, rfl, rfl, by rw [e9]; rfl, trivial⟩
      · refine aC rfl (fun hc => ?_) (fun hc => aK ?_)
        · have hc : trB x.b = true := hc
          have hd : drB s x = atB s x.a := by unfold drB; rw [hc]
          have hct := ofA_abs w s x.a oa
          cases hb : atB s x.a with
          | false =>
            rw [hb] at hct hd
            refine aS (aS (aD (by kernel_rfl) (by kernel_rfl) ?_))
            (refine nx (aL (gN rfl) rfl rfl rfl rfl rfl rfl rfl rfl rfl rfl rfl rfl) rfl ?_)
            (refine nx (aM (gN rfl) rfl rfl rfl rfl rfl) rfl ?_)
            (refine nx (aM (gN rfl) rfl rfl rfl rfl rfl) rfl ?_)
            (refine nx (a_index (j := k) (gN rfl) rfl rfl rfl rfl rfl rfl rfl rfl rfl (hx') rfl (hz)) rfl ?_)
            (refine nx (a_field_ad (gN rfl) rfl rfl rfl rfl rfl rfl rfl rfl rfl rfl rfl) rfl ?_)
            (refine nx (a_load_ad (gN rfl) rfl rfl rfl rfl rfl rfl rfl rfl rfl) rfl ?_)
            (refine nx (a_call (gN rfl) rfl rfl rfl rfl rfl (hct)) rfl ?_)
            (refine nx (a_not (gN rfl) rfl rfl rfl rfl rfl) rfl ?_)
            refine ⟨by kernel_rfl, ?_⟩
            show AWp _ _ _ _ _ _ _
            refine aC rfl (fun hc => ?_) (fun hc => by cases hc)
            refine aS (aR ?_)
            (refine nx (aA (gN rfl) rfl rfl rfl rfl rfl) rfl ?_)
            show AWp _ _ _ _ _ _ _
            refine aT (And.intro (.inr rfl) ?_)
            rw [hbad hd]
            rfl
          | true =>
            rw [hb] at hct hd
            refine aS (aS (aD (by kernel_rfl) (by kernel_rfl) ?_))
            (refine nx (aL (gN rfl) rfl rfl rfl rfl rfl rfl rfl rfl rfl rfl rfl rfl) rfl ?_)
            (refine nx (aM (gN rfl) rfl rfl rfl rfl rfl) rfl ?_)
            (refine nx (aM (gN rfl) rfl rfl rfl rfl rfl) rfl ?_)
            (refine nx (a_index (j := k) (gN rfl) rfl rfl rfl rfl rfl rfl rfl rfl rfl (hx') rfl (hz)) rfl ?_)
            (refine nx (a_field_ad (gN rfl) rfl rfl rfl rfl rfl rfl rfl rfl rfl rfl rfl) rfl ?_)
            (refine nx (a_load_ad (gN rfl) rfl rfl rfl rfl rfl rfl rfl rfl rfl) rfl ?_)
            (refine nx (a_call (gN rfl) rfl rfl rfl rfl rfl (hct)) rfl ?_)
            (refine nx (a_not (gN rfl) rfl rfl rfl rfl rfl) rfl ?_)
            refine ⟨by kernel_rfl, ?_⟩
            show AWp _ _ _ _ _ _ _
            refine aC rfl (fun hc => by cases hc) (fun hc => aK ?_)
            show AWp _ _ _ _ _ _ _
            refine aE ?_
            show AWp _ _ _ _ _ _ _
            refine aR ?_
            (refine nx (aM (gN rfl) rfl rfl rfl rfl rfl) rfl ?_)
            (refine nx (a_add (gN rfl) rfl rfl rfl rfl rfl rfl (by first | omega | (simp only [List.length_map, List.length_append, List.length_cons, List.length_nil] <;> omega) | (simp <;> omega))) rfl ?_)
            (refine nx (aA (gN rfl) rfl rfl rfl rfl rfl) rfl ?_)
            refine ⟨hkl, by show (c.take (k + 1)).all (drB s) = true; rw [h1, hI, hd]; rfl, wk_sub ⟨rfl, rfl, rfl, rfl, trivial⟩⟩
        · have hc : trB x.b = false := hc
          have hd : drB s x = (rtB s x.a && rtB s x.b) := by unfold drB; rw [hc]
          have hca := ofT_abs s x.a oa w
          have hcb := ofT_abs s x.b ob w
          show AWp _ _ _ _ _ _ _
          cases hb : rtB s x.a with
          | false =>
            rw [hb] at hca hd
            refine aS (aD (by kernel_rfl) (by kernel_rfl) ?_)
            (refine nx (aL (gN rfl) rfl rfl rfl rfl rfl rfl rfl rfl rfl rfl rfl rfl) rfl ?_)
            (refine nx (aM (gN rfl) rfl rfl rfl rfl rfl) rfl ?_)
            (refine nx (aM (gN rfl) rfl rfl rfl rfl rfl) rfl ?_)
            (refine nx (a_index (j := k) (gN rfl) rfl rfl rfl rfl rfl rfl rfl rfl rfl (hx') rfl (hz)) rfl ?_)
            (refine nx (a_field_ad (gN rfl) rfl rfl rfl rfl rfl rfl rfl rfl rfl rfl rfl) rfl ?_)
            (refine nx (a_load_ad (gN rfl) rfl rfl rfl rfl rfl rfl rfl rfl rfl) rfl ?_)
            (refine nx (a_call (gN rfl) rfl rfl rfl rfl rfl (hca)) rfl ?_)
            (refine nx (a_not (gN rfl) rfl rfl rfl rfl rfl) rfl ?_)
            (refine nx (aM (gN rfl) rfl rfl rfl rfl rfl) rfl ?_)
            (refine ⟨_, _, _, a_off (go_off rfl rfl rfl rfl (by first | rfl | assumption | (simp; done) | (simp [*]; done))) rfl rfl rfl, rfl, ?_⟩)
            (refine ⟨_, _, _, a_off (go_off rfl rfl rfl rfl (by first | rfl | assumption | (simp; done) | (simp [*]; done))) rfl rfl rfl, rfl, ?_⟩)
            (refine ⟨_, _, _, a_off (go_off rfl rfl rfl rfl (by first | rfl | assumption | (simp; done) | (simp [*]; done))) rfl rfl rfl, rfl, ?_⟩)
            (refine ⟨_, _, _, a_off (go_off rfl rfl rfl rfl (by first | rfl | assumption | (simp; done) | (simp [*]; done))) rfl rfl rfl, rfl, ?_⟩)
            (refine ⟨_, _, _, a_off (go_off rfl rfl rfl rfl (by first | rfl | assumption | (simp; done) | (simp [*]; done))) rfl rfl rfl, rfl, ?_⟩)
            (refine ⟨_, _, _, a_off (go_off rfl rfl rfl rfl (by first | rfl | assumption | (simp; done) | (simp [*]; done))) rfl rfl rfl, rfl, ?_⟩)
            (refine ⟨_, _, _, a_off (go_off rfl rfl rfl rfl (by first | rfl | assumption | (simp; done) | (simp [*]; done))) rfl rfl rfl, rfl, ?_⟩)
            (refine ⟨_, _, _, a_off (go_off rfl rfl rfl rfl (by first | rfl | assumption | (simp; done) | (simp [*]; done))) rfl rfl rfl, rfl, ?_⟩)
            (refine ⟨_, _, _, aPt (gN rfl) rfl rfl rfl rfl rfl ?hb rfl, rfl, ?_⟩; case hb => (first | rfl | assumption | (simp; done)))
            refine ⟨by kernel_rfl, ?_⟩
            show AWp _ _ _ _ _ _ _
            refine aC rfl (fun hc => ?_) (fun hc => by cases hc)
            refine aS (aR ?_)
            (refine nx (aA (gN rfl) rfl rfl rfl rfl rfl) rfl ?_)
            show AWp _ _ _ _ _ _ _
            refine aT (And.intro (.inr rfl) ?_)
            rw [hbad hd]
            rfl
          | true =>
            rw [hb] at hca hd
            cases hb2 : rtB s x.b with
            | false =>
              rw [hb2] at hcb hd
              refine aS (aD (by kernel_rfl) (by kernel_rfl) ?_)
              (refine nx (aL (gN rfl) rfl rfl rfl rfl rfl rfl rfl rfl rfl rfl rfl rfl) rfl ?_)
              (refine nx (aM (gN rfl) rfl rfl rfl rfl rfl) rfl ?_)
              (refine nx (aM (gN rfl) rfl rfl rfl rfl rfl) rfl ?_)
              (refine nx (a_index (j := k) (gN rfl) rfl rfl rfl rfl rfl rfl rfl rfl rfl (hx') rfl (hz)) rfl ?_)
              (refine nx (a_field_ad (gN rfl) rfl rfl rfl rfl rfl rfl rfl rfl rfl rfl rfl) rfl ?_)
              (refine nx (a_load_ad (gN rfl) rfl rfl rfl rfl rfl rfl rfl rfl rfl) rfl ?_)
              (refine nx (a_call (gN rfl) rfl rfl rfl rfl rfl (hca)) rfl ?_)
              (refine nx (a_not (gN rfl) rfl rfl rfl rfl rfl) rfl ?_)
              (refine nx (aM (gN rfl) rfl rfl rfl rfl rfl) rfl ?_)
              (refine nx (aL (gd_on rfl rfl rfl rfl (by first | rfl | assumption | (simp; done))) rfl rfl rfl rfl rfl rfl rfl rfl rfl rfl rfl rfl) rfl ?_)
              (refine nx (aM (gd_on rfl rfl rfl rfl (by first | rfl | assumption | (simp; done))) rfl rfl rfl rfl rfl) rfl ?_)
              (refine nx (aM (gd_on rfl rfl rfl rfl (by first | rfl | assumption | (simp; done))) rfl rfl rfl rfl rfl) rfl ?_)
              (refine nx (a_index (j := k) (gd_on rfl rfl rfl rfl (by first | rfl | assumption | (simp; done))) rfl rfl rfl rfl rfl rfl rfl rfl rfl (hx') rfl (hz)) rfl ?_)
              (refine nx (a_field_ad (gd_on rfl rfl rfl rfl (by first | rfl | assumption | (simp; done))) rfl rfl rfl rfl rfl rfl rfl rfl rfl rfl rfl) rfl ?_)
              (refine nx (a_load_ad (gd_on rfl rfl rfl rfl (by first | rfl | assumption | (simp; done))) rfl rfl rfl rfl rfl rfl rfl rfl rfl) rfl ?_)
              (refine nx (a_call (gd_on rfl rfl rfl rfl (by first | rfl | assumption | (simp; done))) rfl rfl rfl rfl rfl (hcb)) rfl ?_)
              (refine nx (a_not (gd_on rfl rfl rfl rfl (by first | rfl | assumption | (simp; done))) rfl rfl rfl rfl rfl) rfl ?_)
              (refine ⟨_, _, _, aPf (gN rfl) rfl rfl rfl rfl rfl ?hb rfl, rfl, ?_⟩; case hb => (first | rfl | assumption | (simp; done)))
              refine ⟨by kernel_rfl, ?_⟩
              show AWp _ _ _ _ _ _ _
              refine aC rfl (fun hc => ?_) (fun hc => by cases hc)
              refine aS (aR ?_)
              (refine nx (aA (gN rfl) rfl rfl rfl rfl rfl) rfl ?_)
              show AWp _ _ _ _ _ _ _
              refine aT (And.intro (.inr rfl) ?_)
              rw [hbad hd]
              rfl
            | true =>
              rw [hb2] at hcb hd
              refine aS (aD (by kernel_rfl) (by kernel_rfl) ?_)
              (refine nx (aL (gN rfl) rfl rfl rfl rfl rfl rfl rfl rfl rfl rfl rfl rfl) rfl ?_)
              (refine nx (aM (gN rfl) rfl rfl rfl rfl rfl) rfl ?_)
              (refine nx (aM (gN rfl) rfl rfl rfl rfl rfl) rfl ?_)
              (refine nx (a_index (j := k) (gN rfl) rfl rfl rfl rfl rfl rfl rfl rfl rfl (hx') rfl (hz)) rfl ?_)
              (refine nx (a_field_ad (gN rfl) rfl rfl rfl rfl rfl rfl rfl rfl rfl rfl rfl) rfl ?_)
              (refine nx (a_load_ad (gN rfl) rfl rfl rfl rfl rfl rfl rfl rfl rfl) rfl ?_)
              (refine nx (a_call (gN rfl) rfl rfl rfl rfl rfl (hca)) rfl ?_)
              (refine nx (a_not (gN rfl) rfl rfl rfl rfl rfl) rfl ?_)
              (refine nx (aM (gN rfl) rfl rfl rfl rfl rfl) rfl ?_)
              (refine nx (aL (gd_on rfl rfl rfl rfl (by first | rfl | assumption | (simp; done))) rfl rfl rfl rfl rfl rfl rfl rfl rfl rfl rfl rfl) rfl ?_)
              (refine nx (aM (gd_on rfl rfl rfl rfl (by first | rfl | assumption | (simp; done))) rfl rfl rfl rfl rfl) rfl ?_)
              (refine nx (aM (gd_on rfl rfl rfl rfl (by first | rfl | assumption | (simp; done))) rfl rfl rfl rfl rfl) rfl ?_)
              (refine nx (a_index (j := k) (gd_on rfl rfl rfl rfl (by first | rfl | assumption | (simp; done))) rfl rfl rfl rfl rfl rfl rfl rfl rfl (hx') rfl (hz)) rfl ?_)
              (refine nx (a_field_ad (gd_on rfl rfl rfl rfl (by first | rfl | assumption | (simp; done))) rfl rfl rfl rfl rfl rfl rfl rfl rfl rfl rfl) rfl ?_)
              (refine nx (a_load_ad (gd_on rfl rfl rfl rfl (by first | rfl | assumption | (simp; done))) rfl rfl rfl rfl rfl rfl rfl rfl rfl) rfl ?_)
              (refine nx (a_call (gd_on rfl rfl rfl rfl (by first | rfl | assumption | (simp; done))) rfl rfl rfl rfl rfl (hcb)) rfl ?_)
              (refine nx (a_not (gd_on rfl rfl rfl rfl (by first | rfl | assumption | (simp; done))) rfl rfl rfl rfl rfl) rfl ?_)
              (refine ⟨_, _, _, aPf (gN rfl) rfl rfl rfl rfl rfl ?hb rfl, rfl, ?_⟩; case hb => (first | rfl | assumption | (simp; done)))
              refine ⟨by kernel_rfl, ?_⟩
              show AWp _ _ _ _ _ _ _
              refine aC rfl (fun hc => by cases hc) (fun hc => aK ?_)
              show AWp _ _ _ _ _ _ _
              refine aR ?_
              (refine nx (aM (gN rfl) rfl rfl rfl rfl rfl) rfl ?_)
              (refine nx (a_add (gN rfl) rfl rfl rfl rfl rfl rfl (by first | omega | (simp only [List.length_map, List.length_append, List.length_cons, List.length_nil] <;> omega) | (simp <;> omega))) rfl ?_)
              (refine nx (aA (gN rfl) rfl rfl rfl rfl rfl) rfl ?_)
              refine ⟨hkl, by show (c.take (k + 1)).all (drB s) = true; rw [h1, hI, hd]; rfl, wk_sub ⟨rfl, rfl, rfl, rfl, trivial⟩⟩
  · have hkl : k = c.length := by
      have : ¬ k < c.length := by simpa using hlt
      omega
    subst hkl
    rw [List.take_length] at hI
    refine aE ?_
    show AWp _ _ _ _ _ _ _
    refine aS (aR ?_)
    (refine nx (aA (gN rfl) rfl rfl rfl rfl rfl) rfl ?_)
    show AWp _ _ _ _ _ _ _
    refine aT (And.intro (.inr rfl) ?_)
    rw [hI]
    rfl
end Go.Proofs.YtgpnomjjjlomhaaDoor

namespace Go.Proofs.YtgpnomjjjlomhaaDoor
open Go.RowKit
set_option linter.unusedVariables false
set_option linter.unusedSimpArgs false
set_option maxRecDepth 100000
def ClG (c : List Lt) : Prop := c.length ≤ 1000000 ∧ (∀ x ∈ c, x.a.ok ∧ x.b.ok) ∧ okC c ∧ wtL c ≤ 60
theorem mnF_g {n : Nat} : ∀ (cs : List (List Se)) (st : Nm) (acc : List (List Lt)) (q : Nm × List (List Lt) × Bool), (∀ c ∈ cs, (∀ s ∈ c, s.ok) ∧ c.length ≤ 1000000 ∧ (c.map Se.sz).sum ≤ 1000000) → st.ok → (∀ c ∈ acc, ClG c) → mnF n st cs acc = some q → ∀ c ∈ q.2.1, ClG c
  | [], st, acc, q, _, _, ha, e => by
    simp only [mnF, Option.some.injEq] at e
    subst e
    exact ha
  | c :: cs, st, acc, q, hc, hs, ha, e => by
    rw [mnF] at e
    split at e
    · cases e
    · rename_i r hr
      obtain ⟨h1, h2, h3⟩ := hc c (by simp)
      obtain ⟨g1, g2, g3, g4, g5⟩ := clsF_g hs h1 h3 hr
      split at e
      · rename_i hk
        have hk : wtL r.1 ≤ 60 := by
          rw [Bool.and_eq_true, decide_eq_true_eq] at hk
          exact hk.2
        refine mnF_g cs _ _ q (fun c hm => hc c (List.mem_cons_of_mem _ hm)) g1 (fun c hm => ?_) e
        rcases List.mem_append.1 hm with hm | hm
        · exact ha c hm
        · rw [List.mem_singleton.1 hm]; exact ⟨by omega, g5, g2, hk⟩
      · cases e
        exact fun c hm => by cases hm
theorem prF_g {n : Nat} {src : By} {r : Sg × List (List Lt) × Int} (h : prF n src = some r) : ∀ c ∈ r.2.1, ClG c := by
  unfold prF at h
  split at h
  · cases h; exact fun c hm => by cases hm
  · rename_i hl
    split at h
    · cases h
    · rename_i q hq
      have hg := rdAll_g (by omega) hq
      split at h
      · split at h
        · cases h
        · rename_i m hm
          have := mnF_g q.1 nm0 [] m (fun c hc => by have := hg c hc; exact ⟨this.1, this.2.1, by omega⟩) ⟨rfl, rfl, by decide, (fun p hp => by cases hp), List.nodup_nil, ⟨by decide, (fun p hp => by cases hp)⟩, (fun p hp => by cases hp), List.nodup_nil, ⟨by decide, (fun p hp => by cases hp)⟩⟩ (fun c hc => by cases hc) hm
          split at h
          · cases h; exact this
          · cases h; exact fun c hm => by cases hm
      · cases h; exact fun c hm => by cases hm
theorem prF_nil {n : Nat} {src : By} {r : Sg × List (List Lt) × Int} (h : prF n src = some r) (he : r.2.2 ≠ 0) : r.2.1 = [] ∧ r.1 = sgz := by
  unfold prF at h
  split at h
  · cases h; exact ⟨rfl, rfl⟩
  · split at h
    · cases h
    · split at h
      · split at h
        · cases h
        · split at h
          · cases h; exact absurd rfl he
          · cases h; exact ⟨rfl, rfl⟩
      · cases h; exact ⟨rfl, rfl⟩
def sepB : Nat → By
  | 0 => [40]
  | _ + 1 => [44]
def argP : Nat → By
  | 0 => [102, 111, 111]
  | k + 1 => (argP k ++ sepB k) ++ [97]
def argB : Nat → By
  | 0 => argP 0
  | k + 1 => argP (k + 1) ++ [41]
def srcK (n k : Nat) (p : Bool) : By := match p with
  | true => ((argB n ++ [32, 61, 32, 98, 46, 32]) ++ argB k) ++ [46]
  | false => (((argB n ++ [32, 61, 32, 98, 46, 32]) ++ [99, 32, 61, 32]) ++ argB k) ++ [46]
def srcB (n : Nat) : By := argB n ++ [32, 61, 32, 98, 46, 32, 98, 97, 114, 32, 124, 32, 126, 98, 97, 114, 46]
noncomputable def ckK (n k : Nat) (p : Bool) : Bool := match prK 60 (srcK n k p) with
  | some r => match p || !Nat.beq n k with
    | true => decide (r.2.2 = 7)
    | false => decide (r.2.2 = 0) && (Nat.beq r.2.1.length 2 && rcB r.1 (r.2.1.getD 0 []))
  | none => false
noncomputable def ckB (n : Nat) : Bool := match prK 60 (srcB n) with
  | some r => decide (r.2.2 = 0) && Nat.beq r.2.1.length 2
  | none => false
end Go.Proofs.YtgpnomjjjlomhaaDoor
namespace Go.Proofs.YtgpnomjjjlomhaaDoor
open Go.RowKit
set_option linter.unusedVariables false
set_option linter.unusedSimpArgs false
structure SgLe (s s' : Sg) : Prop where
  ar : ∀ (i : Nat) (x : Nat), s.ar[i]? = some x → s'.ar[i]? = some x
  pr : ∀ (i : Nat) (x : Bool), s.pr[i]? = some x → s'.pr[i]? = some x
  le : sgc s ≤ sgc s'
theorem SgLe.refl (s : Sg) : SgLe s s := ⟨fun _ _ h => h, fun _ _ h => h, Nat.le_refl _⟩
theorem SgLe.trans {a b c : Sg} (h : SgLe a b) (g : SgLe b c) : SgLe a c := ⟨fun i x e => g.ar i x (h.ar i x e), fun i x e => g.pr i x (h.pr i x e), Nat.le_trans h.le g.le⟩
structure SgP (st : Nm) : Prop where
  la : st.sg.ar.length = st.sg.nm.length
  lp : st.sg.pr.length = st.sg.nm.length
  pos : 0 < st.sg.nm.length
  z0 : st.sg.ar[0]? = some 0
  sy : ∀ q ∈ st.sy, 0 < q.2 ∧ q.2 < st.sg.nm.length ∧ st.sg.ar[q.2]? = some q.1.2.1 ∧ st.sg.pr[q.2]? = some q.1.2.2
theorem SgP.sgc {st : Nm} (h : SgP st) : sgc st.sg = st.sg.nm.length := by
  have := h.la
  have := h.lp
  unfold Go.Proofs.YtgpnomjjjlomhaaDoor.sgc
  omega
theorem nm0_p : SgP nm0 := ⟨rfl, rfl, by decide, rfl, fun q hq => by cases hq⟩
theorem ofB_mono {s s' : Sg} (h : SgLe s s') (t : Tm) (p : Bool) (hT : ∀ q ∈ t.l, rtB s q = true → rtB s' q = true) (e : ofB s t p = true) : ofB s' t p = true := by
  obtain ⟨f, l⟩ := t
  by_cases hf : f < 0
  · rw [ofB_neg hf] at e ⊢; exact e
  · by_cases h0 : f = 0 ∨ (sgc s : Int) ≤ f
    · rw [ofB_no (by omega) h0] at e; cases e
    · obtain ⟨j, rfl⟩ : ∃ j : Nat, f = (j : Int) := ⟨f.toNat, by omega⟩
      have hj : j < sgc s := by omega
      have hle := h.le
      have hj2 := hj
      unfold sgc at hj2
      obtain ⟨x, hx⟩ : ∃ x, s.ar[j]? = some x := ⟨s.ar[j]'(by omega), List.getElem?_eq_getElem _⟩
      obtain ⟨y, hy⟩ : ∃ y, s.pr[j]? = some y := ⟨s.pr[j]'(by omega), List.getElem?_eq_getElem _⟩
      rw [ofB_yes (by omega) hj hx hy] at e
      rw [ofB_yes (by omega) (by omega) (h.ar _ _ hx) (h.pr _ _ hy)]
      simp only [Bool.and_eq_true, List.all_eq_true] at e ⊢
      exact ⟨e.1, e.2.1, fun q hq => hT q hq (e.2.2 q hq)⟩
theorem rt_mono {s s' : Sg} (h : SgLe s s') : ∀ t : Tm, rtB s t = true → rtB s' t = true := Tm.ind fun f l ih e => ofB_mono h ⟨f, l⟩ false ih e
theorem at_mono {s s' : Sg} (h : SgLe s s') {t : Tm} (e : atB s t = true) : atB s' t = true := ofB_mono h t true (fun q _ => rt_mono h q) e
theorem fit_tz {s : Sg} (h0 : 0 < sgc s) (hz : s.ar[0]? = some 0) : fitB s tz = true := by
  unfold fitB
  simp only [Bool.and_eq_true, decide_eq_true_eq]
  exact ⟨Int.le_refl _, by show (0 : Int) < _; omega, hz⟩
theorem rl_mono {s s' : Sg} (h : SgLe s s') {l : Lt} (h0 : 0 < sgc s) (hz : s.ar[0]? = some 0) (e : rlB s l = true) : rlB s' l = true := by
  unfold rlB at e ⊢
  cases ht : trB l.b with
  | false =>
    rw [ht] at e
    simp only [Bool.and_eq_true] at e ⊢
    exact ⟨rt_mono h _ e.1, rt_mono h _ e.2⟩
  | true =>
    rw [ht] at e
    simp only [Bool.and_eq_true] at e ⊢
    refine ⟨at_mono h e.1, ?_⟩
    obtain ⟨hb1, hb2⟩ : l.b.f = 0 ∧ l.b.l.length = 0 := by
      unfold trB at ht
      simpa using ht
    have : l.b = tz := by
      obtain ⟨ng, la, f, ls⟩ := l
      simp only at hb1 hb2
      rw [hb1, List.eq_nil_of_length_eq_zero hb2]; rfl
    rw [this]
    exact fit_tz (by have := h.le; omega) (h.ar _ _ hz)
theorem numF_p {st : Nm} (h : SgP st) {k : Kd} (hok : (numF st k).2.1 = true) : SgP (numF st k).2.2 ∧ SgLe st.sg (numF st k).2.2.sg ∧ 0 < (numF st k).1 ∧ (numF st k).1 < sgc (numF st k).2.2.sg ∧ (numF st k).2.2.sg.ar[(numF st k).1]? = some k.2.1 ∧ (numF st k).2.2.sg.pr[(numF st k).1]? = some k.2.2 := by
  unfold numF at hok ⊢
  split
  · rename_i i hi
    obtain ⟨a, b, c, d⟩ := h.sy _ (lkA_some hi)
    exact ⟨h, SgLe.refl _, a, by rw [h.sgc]; exact b, c, d⟩
  · rename_i hn
    rw [hn] at hok
    split
    · rename_i hb; simp only [hb, if_true] at hok; cases hok
    · have hla := h.la
      have hlp := h.lp
      have hg : sgc ⟨st.sg.nm ++ [k.1], st.sg.ar ++ [k.2.1], st.sg.pr ++ [k.2.2]⟩ = st.sg.nm.length + 1 := by
        unfold sgc
        simp only [List.length_append, List.length_cons, List.length_nil]
        omega
      have hgl : sgc st.sg = st.sg.nm.length := h.sgc
      have ha : ∀ (i x : Nat), st.sg.ar[i]? = some x → (st.sg.ar ++ [k.2.1])[i]? = some x := fun i x e => by
        rw [List.getElem?_append_left]
        · exact e
        · exact (List.getElem?_eq_some_iff.1 e).1
      have hp : ∀ (i : Nat) (x : Bool), st.sg.pr[i]? = some x → (st.sg.pr ++ [k.2.2])[i]? = some x := fun i x e => by
        rw [List.getElem?_append_left]
        · exact e
        · exact (List.getElem?_eq_some_iff.1 e).1
      have na : (st.sg.ar ++ [k.2.1])[st.sg.nm.length]? = some k.2.1 := by rw [← hla]; simp
      have np : (st.sg.pr ++ [k.2.2])[st.sg.nm.length]? = some k.2.2 := by rw [← hlp]; simp
      refine ⟨⟨by simp [hla], by simp [hlp], by simp, ha _ _ h.z0, fun q hq => ?_⟩, ⟨ha, hp, by rw [hg, hgl]; omega⟩, h.pos, by rw [hg]; show st.sg.nm.length < _; omega, na, np⟩
      rcases List.mem_append.1 hq with hq | hq
      · obtain ⟨a, b, c, d⟩ := h.sy q hq
        exact ⟨a, by show q.2 < (st.sg.nm ++ [k.1]).length; simp; omega, ha _ _ c, hp _ _ d⟩
      · rw [List.mem_singleton.1 hq]
        exact ⟨h.pos, by show st.sg.nm.length < (st.sg.nm ++ [k.1]).length; simp, na, np⟩
theorem varF_p {st : Nm} (h : SgP st) (v : By) : SgP (varF st v).2 ∧ SgLe st.sg (varF st v).2.sg := by
  unfold varF
  split
  · exact ⟨h, SgLe.refl _⟩
  · exact ⟨⟨h.la, h.lp, h.pos, h.z0, h.sy⟩, SgLe.refl _⟩
def GoodF (f : Nm → Ph → Option (Tm × Bool × Nm)) : Prop := ∀ st p r, SgP st → f st p = some r → r.2.1 = true → SgP r.2.2 ∧ SgLe st.sg r.2.2.sg ∧ rtB r.2.2.sg r.1 = true ∧ r.1.f ≠ 0
theorem fold_p {f : Nm → Ph → Option (Tm × Bool × Nm)} (hf : GoodF f) : ∀ (ps : List Ph) (st : Nm) (acc : List Tm) (r : List Tm × Bool × Nm), SgP st → (∀ x ∈ acc, rtB st.sg x = true) → foldP f st ps acc = some r → r.2.1 = true → SgP r.2.2 ∧ SgLe st.sg r.2.2.sg ∧ (∀ x ∈ r.1, rtB r.2.2.sg x = true) ∧ r.1.length = acc.length + ps.length
  | [], st, acc, r, h, ha, e, _ => by
    simp only [foldP, Option.some.injEq] at e
    subst e
    exact ⟨h, SgLe.refl _, ha, rfl⟩
  | p :: ps, st, acc, r, h, ha, e, hok => by
    rw [foldP] at e
    cases hx : f st p with
    | none => rw [hx] at e; cases e
    | some q =>
      rw [hx] at e
      simp only at e
      split at e
      · rename_i hq
        obtain ⟨h1, h2, h3, _⟩ := hf st p q h hx hq
        obtain ⟨i1, i2, i3, i4⟩ := fold_p hf ps q.2.2 _ r h1 (fun x hx => by
          rcases List.mem_append.1 hx with hx | hx
          · exact rt_mono h2 x (ha x hx)
          · rw [List.mem_singleton.1 hx]; exact h3) e hok
        refine ⟨i1, h2.trans i2, i3, ?_⟩
        rw [List.length_append] at i4
        simp only [List.length_cons, List.length_nil] at i4 ⊢
        omega
      · cases e; cases hok
theorem sym_p {f : Nm → Ph → Option (Tm × Bool × Nm)} (hf : GoodF f) {st : Nm} {p : Ph} {pred : Bool} {r : Tm × Bool × Nm} (h : SgP st) (e : symF f st p pred = some r) (hok : r.2.1 = true) : SgP r.2.2 ∧ SgLe st.sg r.2.2.sg ∧ ofB r.2.2.sg r.1 pred = true ∧ r.1.f ≠ 0 := by
  unfold symF at e
  split at e
  · rename_i hn
    obtain ⟨n1, n2, n3, n4, n5, n6⟩ := numF_p h hn
    split at e
    · cases e
    · rename_i q hq
      split at e
      · rename_i hq2
        cases e
        obtain ⟨i1, i2, i3, i4⟩ := fold_p hf p.parts _ [] q n1 (fun x hx => by cases hx) hq hq2
        refine ⟨i1, n2.trans i2, ?_, by show ((_ : Nat) : Int) ≠ 0; omega⟩
        show ofB q.2.2.sg ⟨((numF st ⟨p.name, p.parts.length, pred⟩).1 : Nat), q.1⟩ pred = true
        rw [ofB_yes n3 (by have := i2.le; omega) (i2.ar _ _ n5) (i2.pr _ _ n6)]
        simp only [Bool.and_eq_true, decide_eq_true_eq, List.all_eq_true, beq_self_eq_true, true_and]
        refine ⟨?_, i3⟩
        simp only [List.length_nil] at i4
        omega
      · cases e; cases hok
  · cases e; cases hok
theorem tmF_p : ∀ n : Nat, GoodF (tmF n)
  | 0, _, _, _, _, e, _ => by simp [tmF] at e
  | n + 1, st, p, r, h, e, hok => by
    rw [tmF] at e
    split at e
    · cases e
      obtain ⟨v1, v2⟩ := varF_p h p.name
      refine ⟨v1, v2, ?_, by show -1 - ((_ : Nat) : Int) ≠ 0; omega⟩
      show ofB (varF st p.name).2.sg ⟨-1 - ((varF st p.name).1 : Nat), []⟩ false = true
      rw [ofB_neg (by omega)]
      rfl
    · exact sym_p (tmF_p n) h e hok
theorem litF_p {n : Nat} {st : Nm} {s : Se} {r : Lt × Bool × Nm} (h : SgP st) (e : litF n st s = some r) (hok : r.2.1 = true) : SgP r.2.2 ∧ SgLe st.sg r.2.2.sg ∧ rlB r.2.2.sg r.1 = true := by
  unfold litF at e
  split at e
  · split at e
    · cases e
    · rename_i q hq
      cases e
      obtain ⟨i1, i2, i3, i4⟩ := sym_p (tmF_p n) h hq hok
      refine ⟨i1, i2, ?_⟩
      show rlB q.2.2.sg ⟨s.neg, q.1, tz⟩ = true
      unfold rlB
      rw [show trB (⟨s.neg, q.1, tz⟩ : Lt).b = true from rfl]
      simp only [Bool.and_eq_true]
      exact ⟨i3, fit_tz (by rw [i1.sgc]; exact i1.pos) i1.z0⟩
  · split at e
    · cases e
    · rename_i q hq
      split at e
      · rename_i hq2
        obtain ⟨h1, h2, h3, h4⟩ := tmF_p n st s.a q h hq hq2
        split at e
        · cases e
        · rename_i q2 hq3
          cases e
          obtain ⟨k1, k2, k3, k4⟩ := tmF_p n q.2.2 s.b q2 h1 hq3 hok
          refine ⟨k1, h2.trans k2, ?_⟩
          show rlB q2.2.2.sg ⟨s.neg, q.1, q2.1⟩ = true
          unfold rlB
          rw [show trB (⟨s.neg, q.1, q2.1⟩ : Lt).b = false by unfold trB; rw [decide_eq_false k4]; rfl]
          simp only [Bool.and_eq_true]
          exact ⟨rt_mono k2 _ h3, k3⟩
      · cases e; cases hok
theorem litsF_p {n : Nat} : ∀ (ss : List Se) (st : Nm) (acc : List Lt) (r : List Lt × Bool × Nm), SgP st → (∀ x ∈ acc, rlB st.sg x = true) → litsF n st ss acc = some r → r.2.1 = true → SgP r.2.2 ∧ SgLe st.sg r.2.2.sg ∧ rcB r.2.2.sg r.1 = true
  | [], st, acc, r, h, ha, e, _ => by
    simp only [litsF, Option.some.injEq] at e
    subst e
    exact ⟨h, SgLe.refl _, List.all_eq_true.2 ha⟩
  | p :: ps, st, acc, r, h, ha, e, hok => by
    rw [litsF] at e
    cases hx : litF n st p with
    | none => rw [hx] at e; cases e
    | some q =>
      rw [hx] at e
      simp only at e
      split at e
      · rename_i hq
        obtain ⟨h1, h2, h3⟩ := litF_p h hx hq
        obtain ⟨i1, i2, i3⟩ := litsF_p ps q.2.2 _ r h1 (fun x hx => by
          rcases List.mem_append.1 hx with hx | hx
          · exact rl_mono h2 (by rw [h.sgc]; exact h.pos) h.z0 (ha x hx)
          · rw [List.mem_singleton.1 hx]; exact h3) e hok
        exact ⟨i1, h2.trans i2, i3⟩
      · cases e; cases hok
theorem mnF_p {n : Nat} : ∀ (cs : List (List Se)) (st : Nm) (acc : List (List Lt)) (q : Nm × List (List Lt) × Bool), SgP st → (∀ c ∈ acc, rcB st.sg c = true) → mnF n st cs acc = some q → q.2.2 = true → SgP q.1 ∧ ∀ c ∈ q.2.1, rcB q.1.sg c = true
  | [], st, acc, q, h, ha, e, _ => by
    simp only [mnF, Option.some.injEq] at e
    subst e
    exact ⟨h, ha⟩
  | c :: cs, st, acc, q, h, ha, e, hok => by
    rw [mnF] at e
    split at e
    · cases e
    · rename_i r hr
      split at e
      · rename_i hk
        rw [Bool.and_eq_true] at hk
        obtain ⟨i1, i2, i3⟩ := litsF_p c ⟨st.sg, st.sy, []⟩ [] r ⟨h.la, h.lp, h.pos, h.z0, h.sy⟩ (fun x hx => by cases hx) hr hk.1
        refine mnF_p cs r.2.2 _ q i1 (fun c hm => ?_) e hok
        rcases List.mem_append.1 hm with hm | hm
        · have := ha c hm
          unfold rcB at this ⊢
          rw [List.all_eq_true] at this ⊢
          exact fun x hx => rl_mono i2 (by show 0 < sgc st.sg; rw [h.sgc]; exact h.pos) h.z0 (this x hx)
        · rw [List.mem_singleton.1 hm]; exact i3
      · cases e; cases hok
theorem prF_right {n : Nat} {src : By} {r : Sg × List (List Lt) × Int} (h : prF n src = some r) (he : r.2.2 = 0) : (∀ c ∈ r.2.1, rcB r.1 c = true) ∧ fitB r.1 tz = true := by
  unfold prF at h
  split at h
  · cases h; cases he
  · split at h
    · cases h
    · split at h
      · split at h
        · cases h
        · rename_i m hm
          split at h
          · rename_i hk
            cases h
            obtain ⟨h1, h2⟩ := mnF_p _ nm0 [] m nm0_p (fun c hc => by cases hc) hm hk
            exact ⟨h2, fit_tz (by rw [h1.sgc]; exact h1.pos) h1.z0⟩
          · cases h; cases he
      · cases h; cases he
theorem rc_dr {s : Sg} (h : fitB s tz = true) (c : List Lt) : rcB s c = c.all (drB s) := by
  unfold rcB
  congr 1
  funext l
  unfold rlB drB
  cases ht : trB l.b with
  | false => rfl
  | true =>
    obtain ⟨hb1, hb2⟩ : l.b.f = 0 ∧ l.b.l.length = 0 := by
      unfold trB at ht
      simpa using ht
    have : l.b = tz := by
      obtain ⟨ng, la, f, ls⟩ := l
      simp only at hb1 hb2
      rw [hb1, List.eq_nil_of_length_eq_zero hb2]; rfl
    rw [this, h]
    simp
end Go.Proofs.YtgpnomjjjlomhaaDoor
namespace Go.Proofs.YtgpnomjjjlomhaaDoor
open Go.RowKit
set_option linter.unusedVariables false
set_option linter.unusedSimpArgs false
set_option maxRecDepth 100000

end Go.Proofs.YtgpnomjjjlomhaaDoor
namespace Go.Proofs.YtgpnomjjjlomhaaDoor
open Go.RowKit
set_option linter.unusedVariables false
set_option linter.unusedSimpArgs false
section
variable {P : Program} {w0 : World} {U0 : UX} {nt : Nat} {ops : Array Oper} {o : Oper} {S : Nat → Option AV} {gs : List Nat} {d : Nat}
variable (hg : Gd w0 U0 nt ops o gs S) (hd : o.dst = some d) (hn : Nat.blt d nt = true) (h5 : Nat.blt d 100000 = true)
include hg hd hn h5
end
end Go.Proofs.YtgpnomjjjlomhaaDoor
namespace Go.Proofs.YtgpnomjjjlomhaaDoor
set_option linter.unusedVariables false
def ub : Nat → Nat → List Int
  | 0, n => [(n : Int)]
  | k + 1, n => if n < 128 then [(n : Int)] else ((128 + n % 128 : Nat) : Int) :: ub k (n / 128)

def ubytes (n : Nat) : List Int := ub 9 n

def lenz (n : Nat) : Nat := if n = 0 then 0 else (ubytes n).length

def zz (n : Int) : Nat := if 0 ≤ n then (2 * n).toNat else (-2 * n - 1).toNat
end Go.Proofs.YtgpnomjjjlomhaaDoor
namespace Go.Proofs.YtgpnomjjjlomhaaDoor
open Go.RowKit
set_option linter.unusedVariables false






def lastAt : List Int → Option Nat
  | [] => none
  | b :: r => if b < 128 then some 0 else (lastAt r).map (· + 1)

def lastInt (l : List Int) : Int := match lastAt l with | none => -1 | some i => (i : Int)

def val : List Int → Nat
  | [] => 0
  | b :: r => (b % 128).toNat + 128 * val r

def okNum (l : List Int) : Bool := decide (l.length ≤ 10 ∧ (l.length = 10 → l.getD (l.length - 1) 0 ≤ 1) ∧ (l.getD (l.length - 1) 0 ≠ 0 ∨ l.length = 1))

def unzz (n : Nat) : Int := if n % 2 = 0 then ((n / 2 : Nat) : Int) else -((n / 2 : Nat) : Int) - 1


def rdU (l : List Int) : Nat × Nat × Nat :=
  match lastAt l with
  | none => (0, 0, 10)
  | some i => if okNum (l.take (i + 1)) then (val (l.take (i + 1)), i + 1, 0) else (0, 0, 7)
def canon : List Int → Prop
  | [] => False
  | b :: r => match r with
    | [] => 0 < b ∧ b < 128
    | _ :: _ => 128 ≤ b ∧ b ≤ 255 ∧ canon r
end Go.Proofs.YtgpnomjjjlomhaaDoor
namespace Go.Proofs.YtgpnomjjjlomhaaDoor
set_option linter.unusedVariables false
set_option linter.unusedSimpArgs false
def wT : Tm → List Int
  | ⟨f, l⟩ => ubytes (zz f) ++ (if f < 0 then [] else ubytes l.length ++ (l.map wT).flatten)
def wL (l : Lt) : List Int := (if l.neg then 1 else 0) :: (wT l.a ++ wT l.b)
def wC (c : List Lt) : List Int := ubytes c.length ++ c.flatMap wL

def rN (most : Nat) (l : List Int) : Except Nat (Nat × Nat) := match rdU l with
  | (v, c, 0) => if v > most then .error 7 else .ok (v, c)
  | (_, _, e + 1) => .error (e + 1)
def rH (l : List Int) : Except Nat (Int × Nat) := match rdU l with
  | (v, c, 0) => if -2147483648 ≤ unzz v ∧ unzz v ≤ 2147483647 then .ok (unzz v, c) else .error 7
  | (_, _, e + 1) => .error (e + 1)
def rMany {α : Type} (g : List Int → Except Nat (α × Nat)) : Nat → List Int → Except Nat (List α × Nat)
  | 0, _ => .ok ([], 0)
  | n + 1, l => match g l with
    | .error e => .error e
    | .ok (x, c) => match rMany g n (l.drop c) with
      | .error e => .error e
      | .ok (xs, c') => .ok (x :: xs, c + c')
def rList {α : Type} (g : List Int → Except Nat (α × Nat)) (l : List Int) : Except Nat (List α × Nat) := match rN 4096 l with
  | .error e => .error e
  | .ok (n, c) => match rMany g n (l.drop c) with
    | .error e => .error e
    | .ok (xs, c') => .ok (xs, c + c')
def rT : Nat → List Int → Except Nat (Tm × Nat)
  | 0, _ => .error 7
  | d + 1, l => match rH l with
    | .error e => .error e
    | .ok (f, c) => if f < 0 then .ok (⟨f, []⟩, c) else match rList (rT d) (l.drop c) with
      | .error e => .error e
      | .ok (xs, c') => .ok (⟨f, xs⟩, c + c')
def rL (l : List Int) : Except Nat (Lt × Nat) := match rN 1 l with
  | .error e => .error e
  | .ok (n, c) => match rT 257 (l.drop c) with
    | .error e => .error e
    | .ok (a, c1) => match rT 257 (l.drop (c + c1)) with
      | .error e => .error e
      | .ok (b, c2) => .ok (⟨decide (n = 1), a, b⟩, c + c1 + c2)
def rC (l : List Int) : Except Nat (List Lt × Nat) := rList rL l

def wfB (l : List Int) : Prop := ∀ z ∈ l, 0 ≤ z ∧ z ≤ 255
theorem wfB.drop {l : List Int} (h : wfB l) (n : Nat) : wfB (l.drop n) := fun z hz => h z (List.mem_of_mem_drop hz)
def Rt {α : Type} (w : α → List Int) (l : List Int) (r : Except Nat (α × Nat)) : Prop := ∀ x c, r = .ok (x, c) → c ≤ l.length ∧ w x = l.take c
def Er {α : Type} (r : Except Nat (α × Nat)) : Prop := ∀ e, r = .error e → e = 7 ∨ e = 10
structure Thru {α : Type} (g : List Int → Except Nat (α × Nat)) (w : List Int) (x : α) : Prop where
  back : ∀ r, g (w ++ r) = .ok (x, w.length)
  cut : ∀ j, j < w.length → g (w.take j) = .error 10
end Go.Proofs.YtgpnomjjjlomhaaDoor
namespace Go.Proofs.YtgpnomjjjlomhaaDoor
open Go.RowKit
set_option linter.unusedVariables false
set_option linter.unusedSimpArgs false
set_option maxRecDepth 100000
abbrev by8 (z : Int) : CV := .sc (.int .u8 z)
def gU (zs : List Int) (p : Int) : Int × Int × Int :=
  if p < 0 ∨ p > zs.length then (0, 0, 1) else match rdU (zs.drop p.toNat) with
    | (v, c, 0) => (v, p + c, 0)
    | (_, _, e + 1) => (0, 0, ((e + 1 : Nat) : Int))
def gI (zs : List Int) (p : Int) : Int × Int × Int :=
  if p < 0 ∨ p > zs.length then (0, 0, 1) else match rdU (zs.drop p.toNat) with
    | (v, c, 0) => (unzz v, p + c, 0)
    | (_, _, e + 1) => (0, 0, ((e + 1 : Nat) : Int))
noncomputable abbrev rB (zs : List Int) : AS := [(300001, .mrow 5 1 (zs.map by8))]
def zT : Tm := ⟨0, []⟩
def zL : Lt := ⟨false, zT, zT⟩
def okP {α : Type} (q : Nat) : Except Nat (α × Nat) → Int
  | .ok (_, c) => ((q + c : Nat) : Int)
  | .error _ => 0
def okE {α : Type} : Except Nat (α × Nat) → Int
  | .ok _ => 0
  | .error e => (e : Int)
def okN : Except Nat (Nat × Nat) → Int
  | .ok (v, _) => (v : Int)
  | .error _ => 0
noncomputable def okT : Except Nat (Tm × Nat) → CV
  | .ok (x, _) => x.cw
  | .error _ => .row [.i 0, .lst []]
noncomputable def okG : Except Nat (Lt × Nat) → CV
  | .ok (x, _) => x.cw
  | .error _ => .row [.b false, .row [.i 0, .lst []], .row [.i 0, .lst []]]
noncomputable def okLT : Except Nat (List Tm × Nat) → List CV
  | .ok (x, _) => x.map Tm.cv
  | .error _ => []
noncomputable def okLG : Except Nat (List Lt × Nat) → List CV
  | .ok (x, _) => x.map Lt.cv
  | .error _ => []
noncomputable abbrev tupN (q : Nat) (r : Except Nat (Nat × Nat)) : List CV := [.sc (.int .u64 (okN r)), .i (okP q r), by8 (okE r)]
noncomputable abbrev tupT (q : Nat) (r : Except Nat (Tm × Nat)) : List CV := [okT r, .i (okP q r), by8 (okE r)]
noncomputable abbrev tupG (q : Nat) (r : Except Nat (Lt × Nat)) : List CV := [okG r, .i (okP q r), by8 (okE r)]
noncomputable abbrev tupLT (q : Nat) (r : Except Nat (List Tm × Nat)) : List CV := [.lst (okLT r), .i (okP q r), by8 (okE r)]
noncomputable abbrev tupLG (q : Nat) (r : Except Nat (List Lt × Nat)) : List CV := [.lst (okLG r), .i (okP q r), by8 (okE r)]
def rHd (l : List Int) : Except Nat (Tm × Nat) := match rH l with
  | .error e => .error e
  | .ok (f, c) => .ok (⟨f, []⟩, c)
def cmb {α : Type} (xs : List α) (q0 q : Nat) : Except Nat (List α × Nat) → Except Nat (List α × Nat)
  | .error e => .error e
  | .ok (ys, c) => .ok (xs ++ ys, q - q0 + c)
def gC (zs : List Int) (p : Int) : Except Nat (List Lt × Nat) := if p < 0 ∨ p > zs.length then .error 1 else rC (zs.drop p.toNat)
def exC : Lt := ⟨false, ⟨3, [⟨-1, []⟩]⟩, ⟨1, []⟩⟩
def finL (size : Int) (l : Lt) : Bool := decide (0 ≤ smallT l.a size 8) && decide (0 ≤ smallT l.b size 8)
def fineC (c : List Lt) (most : Nat) (size : Int) : Bool := decide (c.length ≤ most) && c.all (finL size)
-- 
set_option maxHeartbeats 1000000 in
theorem fine11_abs (W : World) (c : List Lt) (most : Nat) (size : Int) (hm : most ≤ 1000) (h0 : 0 ≤ size) (h1 : size ≤ 60) (hr : okC c) : AFun Tryd.prog W 17 [.lst (c.map Lt.cv), .i (most : Int), .i size] (.val (.b (fineC c most size))) := by
  have hsz := Lt.size_all c
  refine afun_of (rs := [.b (fineC c most size)]) Tryd.func17 Tryd.ntmps17 rfl rfl rfl rfl ?_
  intro w U hW
  refine aS (aR ?_)
  (refine nx (aA (gN rfl) rfl rfl rfl rfl rfl) rfl ?_)
  show AWp _ _ _ _ _ _ _
  refine aS (aS (aR ?_))
  (refine nx (aM (gN rfl) rfl rfl rfl rfl rfl) rfl ?_)
  (refine nx (a_len (gN rfl) rfl rfl rfl rfl rfl rfl rfl) rfl ?_)
  (refine nx (aM (gN rfl) rfl rfl rfl rfl rfl) rfl ?_)
  (refine nx (a_gtr (gN rfl) rfl rfl rfl rfl rfl rfl) rfl ?_)
  show AWp _ _ _ _ _ _ _
  refine aC rfl (fun hc => ?_) (fun hc => ?_)
  · have hno : fineC c most size = false := by
      have := of_decide_eq_true hc
      rw [List.length_map] at this
      unfold fineC
      rw [show decide (c.length ≤ most) = false by rw [decide_eq_false_iff_not]; omega]
      rfl
    rw [hno]
    refine aS (aR ?_)
    (refine nx (aA (gN rfl) rfl rfl rfl rfl rfl) rfl ?_)
    show AWp _ _ _ _ _ _ _
    exact aT (And.intro (.inr rfl) rfl)
  have hl : c.length ≤ most := by
    have := of_decide_eq_false hc
    rw [List.length_map] at this
    omega
  refine aK ?_
  show AWp _ _ _ _ _ _ _
  refine aS (aS (aR ?_))
  (refine nx (aA (gN rfl) rfl rfl rfl rfl rfl) rfl ?_)
  show AWp _ _ _ _ _ _ _
  refine aB (awp_countI c.length (fun k => ∀ l ∈ c.take k, finL size l = true) (fun k => [(0, .val (.lst (c.map Lt.cv))), (2, .val (.i size)), (7, .val (.i k))]) (wk_sub ⟨rfl, rfl, rfl, trivial⟩) (by simp) ?_)
  intro k hk hI
  refine aS (aS (aR ?_))
  (refine nx (aM (gN rfl) rfl rfl rfl rfl rfl) rfl ?_)
  (refine nx (aM (gN rfl) rfl rfl rfl rfl rfl) rfl ?_)
  (refine nx (a_len (gN rfl) rfl rfl rfl rfl rfl rfl rfl) rfl ?_)
  (refine nx (a_lss (gN rfl) rfl rfl rfl rfl rfl rfl) rfl ?_)
  show AWp _ _ _ _ _ _ _
  refine aC rfl (fun hlt => ?_) (fun hlt => ?_)
  · have hkl : k < c.length := by simpa using hlt
    obtain ⟨x, hx⟩ : ∃ x, c[k]? = some x := ⟨c[k], List.getElem?_eq_getElem hkl⟩
    have hx' := Lt.map_at hx
    have hxm := List.mem_of_getElem? hx
    have sa := small_abs w x.a size 8 (hr x hxm).1 h0 h1 (by decide) (by decide)
    have sb := small_abs w x.b size 8 (hr x hxm).2 h0 h1 (by decide) (by decide)
    have hno : finL size x = false → fineC c most size = false := fun h => by
      unfold fineC
      rw [show c.all (finL size) = false from List.all_eq_false.2 ⟨x, hxm, by rw [h]; simp⟩, Bool.and_false]
    refine aK ?_
    show AWp _ _ _ _ _ _ _
    by_cases ha : smallT x.a size 8 < 0
    · have ga : decide (smallT x.a size 8 < 0) = true := by simpa using ha
      rw [hno (by unfold finL; rw [show decide (0 ≤ smallT x.a size 8) = false by rw [decide_eq_false_iff_not]; omega]; rfl)]
      refine aS (aB (aS (aR ?_)))
      (refine nx (aM (gN rfl) rfl rfl rfl rfl rfl) rfl ?_)
      (refine nx (aM (gN rfl) rfl rfl rfl rfl rfl) rfl ?_)
      (refine nx (a_index (j := k) (gN rfl) rfl rfl rfl rfl rfl rfl rfl rfl rfl (hx') rfl (hsz)) rfl ?_)
      (refine nx (a_field_ad (gN rfl) rfl rfl rfl rfl rfl rfl rfl rfl rfl rfl rfl) rfl ?_)
      (refine nx (a_load_ad (gN rfl) rfl rfl rfl rfl rfl rfl rfl rfl rfl) rfl ?_)
      (refine nx (aM (gN rfl) rfl rfl rfl rfl rfl) rfl ?_)
      (refine nx (a_call (gN rfl) rfl rfl rfl rfl rfl (sa)) rfl ?_)
      (refine nx (a_lss (gN rfl) rfl rfl rfl rfl rfl rfl) rfl ?_)
      (refine nx (aM (gN rfl) rfl rfl rfl rfl rfl) rfl ?_)
      (refine ⟨_, _, _, a_off (go_off rfl rfl rfl rfl (by first | rfl | assumption | (simp; done) | (simp [*]; done))) rfl rfl rfl, rfl, ?_⟩)
      (refine ⟨_, _, _, a_off (go_off rfl rfl rfl rfl (by first | rfl | assumption | (simp; done) | (simp [*]; done))) rfl rfl rfl, rfl, ?_⟩)
      (refine ⟨_, _, _, a_off (go_off rfl rfl rfl rfl (by first | rfl | assumption | (simp; done) | (simp [*]; done))) rfl rfl rfl, rfl, ?_⟩)
      (refine ⟨_, _, _, a_off (go_off rfl rfl rfl rfl (by first | rfl | assumption | (simp; done) | (simp [*]; done))) rfl rfl rfl, rfl, ?_⟩)
      (refine ⟨_, _, _, a_off (go_off rfl rfl rfl rfl (by first | rfl | assumption | (simp; done) | (simp [*]; done))) rfl rfl rfl, rfl, ?_⟩)
      (refine ⟨_, _, _, a_off (go_off rfl rfl rfl rfl (by first | rfl | assumption | (simp; done) | (simp [*]; done))) rfl rfl rfl, rfl, ?_⟩)
      (refine ⟨_, _, _, a_off (go_off rfl rfl rfl rfl (by first | rfl | assumption | (simp; done) | (simp [*]; done))) rfl rfl rfl, rfl, ?_⟩)
      (refine ⟨_, _, _, a_off (go_off rfl rfl rfl rfl (by first | rfl | assumption | (simp; done) | (simp [*]; done))) rfl rfl rfl, rfl, ?_⟩)
      (refine ⟨_, _, _, aPt (gN rfl) rfl rfl rfl rfl rfl ?hb rfl, rfl, ?_⟩; case hb => (first | rfl | assumption | (simp; done)))
      show AWp _ _ _ _ _ _ _
      refine aC rfl (fun hc2 => ?_) (fun hc2 => by cases hc2)
      refine aS (aR ?_)
      (refine nx (aA (gN rfl) rfl rfl rfl rfl rfl) rfl ?_)
      show AWp _ _ _ _ _ _ _
      exact aT (And.intro (.inr rfl) rfl)
    · have ga : decide (smallT x.a size 8 < 0) = false := by simpa using ha
      refine aS (aB (aS (aR ?_)))
      (refine nx (aM (gN rfl) rfl rfl rfl rfl rfl) rfl ?_)
      (refine nx (aM (gN rfl) rfl rfl rfl rfl rfl) rfl ?_)
      (refine nx (a_index (j := k) (gN rfl) rfl rfl rfl rfl rfl rfl rfl rfl rfl (hx') rfl (hsz)) rfl ?_)
      (refine nx (a_field_ad (gN rfl) rfl rfl rfl rfl rfl rfl rfl rfl rfl rfl rfl) rfl ?_)
      (refine nx (a_load_ad (gN rfl) rfl rfl rfl rfl rfl rfl rfl rfl rfl) rfl ?_)
      (refine nx (aM (gN rfl) rfl rfl rfl rfl rfl) rfl ?_)
      (refine nx (a_call (gN rfl) rfl rfl rfl rfl rfl (sa)) rfl ?_)
      (refine nx (a_lss (gN rfl) rfl rfl rfl rfl rfl rfl) rfl ?_)
      (refine nx (aM (gN rfl) rfl rfl rfl rfl rfl) rfl ?_)
      (refine nx (aM (gd_on rfl rfl rfl rfl (by first | rfl | assumption | (simp; done))) rfl rfl rfl rfl rfl) rfl ?_)
      (refine nx (aM (gd_on rfl rfl rfl rfl (by first | rfl | assumption | (simp; done))) rfl rfl rfl rfl rfl) rfl ?_)
      (refine nx (a_index (j := k) (gd_on rfl rfl rfl rfl (by first | rfl | assumption | (simp; done))) rfl rfl rfl rfl rfl rfl rfl rfl rfl (hx') rfl (hsz)) rfl ?_)
      (refine nx (a_field_ad (gd_on rfl rfl rfl rfl (by first | rfl | assumption | (simp; done))) rfl rfl rfl rfl rfl rfl rfl rfl rfl rfl rfl) rfl ?_)
      (refine nx (a_load_ad (gd_on rfl rfl rfl rfl (by first | rfl | assumption | (simp; done))) rfl rfl rfl rfl rfl rfl rfl rfl rfl) rfl ?_)
      (refine nx (aM (gd_on rfl rfl rfl rfl (by first | rfl | assumption | (simp; done))) rfl rfl rfl rfl rfl) rfl ?_)
      (refine nx (a_call (gd_on rfl rfl rfl rfl (by first | rfl | assumption | (simp; done))) rfl rfl rfl rfl rfl (sb)) rfl ?_)
      (refine nx (a_lss (gd_on rfl rfl rfl rfl (by first | rfl | assumption | (simp; done))) rfl rfl rfl rfl rfl rfl) rfl ?_)
      (refine ⟨_, _, _, aPf (gN rfl) rfl rfl rfl rfl rfl ?hb rfl, rfl, ?_⟩; case hb => (first | rfl | assumption | (simp; done)))
      show AWp _ _ _ _ _ _ _
      refine aC rfl (fun hc2 => ?_) (fun hc2 => ?_)
      · have hb := of_decide_eq_true hc2
        rw [hno (by unfold finL; rw [show decide (0 ≤ smallT x.b size 8) = false by rw [decide_eq_false_iff_not]; omega]; simp)]
        refine aS (aR ?_)
        (refine nx (aA (gN rfl) rfl rfl rfl rfl rfl) rfl ?_)
        show AWp _ _ _ _ _ _ _
        exact aT (And.intro (.inr rfl) rfl)
      · have hb := of_decide_eq_false hc2
        refine aK ?_
        show AWp _ _ _ _ _ _ _
        refine aR ?_
        (refine nx (aM (gN rfl) rfl rfl rfl rfl rfl) rfl ?_)
        (first | (refine nx (a_add (gN rfl) rfl rfl rfl rfl rfl rfl (by first | omega | (simp only [List.length_map, List.length_append, List.length_cons, List.length_nil] <;> omega) | (simp <;> omega))) rfl ?_) | (refine nx (a_sadd (gN rfl) rfl rfl rfl rfl rfl rfl (by first | omega | (simp only [List.length_map, List.length_append, List.length_cons, List.length_nil] <;> omega) | (simp <;> omega))) (by first | rfl | kernel_rfl) ?_))
        (refine nx (aA (gN rfl) rfl rfl rfl rfl rfl) rfl ?_)
        refine ⟨hkl, ?_, wk_sub ⟨rfl, rfl, rfl, trivial⟩⟩
        intro y hy
        rw [List.take_add_one, hx, List.mem_append] at hy
        rcases hy with hy | hy
        · exact hI y hy
        · simp at hy
          rw [hy]
          unfold finL
          rw [show decide (0 ≤ smallT x.a size 8) = true by rw [decide_eq_true_eq]; omega, show decide (0 ≤ smallT x.b size 8) = true by rw [decide_eq_true_eq]; omega]
          rfl
  · have hkl : k = c.length := by
      have : ¬ k < c.length := by simpa using hlt
      omega
    subst hkl
    rw [List.take_length] at hI
    have hyes : fineC c most size = true := by
      unfold fineC
      rw [show decide (c.length ≤ most) = true by simpa using hl, Bool.true_and]
      exact List.all_eq_true.2 hI
    rw [hyes]
    refine aE ?_
    show AWp _ _ _ _ _ _ _
    refine aS (aR ?_)
    (refine nx (aA (gN rfl) rfl rfl rfl rfl rfl) rfl ?_)
    show AWp _ _ _ _ _ _ _
    exact aT (And.intro (.inr rfl) rfl)
theorem fineC_facts {c : List Lt} {most : Nat} {size : Int} (h0 : 0 ≤ size) (h1 : size ≤ 60) (h : fineC c most size = true) : c.length ≤ most ∧ ∀ l ∈ c, ((l.a.sm ∧ l.a.rng ∧ l.a.ok) ∧ (l.a.wt : Int) ≤ size ∧ (l.a.size : Int) ≤ size) ∧ ((l.b.sm ∧ l.b.rng ∧ l.b.ok) ∧ (l.b.wt : Int) ≤ size ∧ (l.b.size : Int) ≤ size) := by
  unfold fineC at h
  rw [Bool.and_eq_true, decide_eq_true_eq] at h
  refine ⟨h.1, fun l hl => ?_⟩
  have hf := List.all_eq_true.1 h.2 l hl
  unfold finL at hf
  rw [Bool.and_eq_true, decide_eq_true_eq, decide_eq_true_eq] at hf
  have key : ∀ t : Tm, 0 ≤ smallT t size 8 → (t.sm ∧ t.rng ∧ t.ok) ∧ (t.wt : Int) ≤ size ∧ (t.size : Int) ≤ size := fun t ht => by
    have hsm := small_sm t _ _ ht
    have hwt : (t.wt : Int) ≤ size := by have := (small_bounds t size 8 h0).2.2 ht; omega
    have := t.size_wt
    exact ⟨⟨hsm, Tm.sm_rng hsm, Tm.wt_ok (t := t) (by omega)⟩, hwt, by omega⟩
  exact ⟨key _ hf.1, key _ hf.2⟩
-- 
set_option maxHeartbeats 1000000 in
theorem of11I_abs (W : World) (c : List Lt) (hl : c.length ≤ 1000000) (hc : ∀ l ∈ c, l.a.ok ∧ l.b.ok) : AFun Tryd.prog W 19 [.lst (c.map Lt.cv)] (.val (.lst ((c.map id).map Lt.cv))) := by
  have hsz := Lt.size_all c
  refine afun_of (rs := [.lst ((c.map id).map Lt.cv)]) Tryd.func19 Tryd.ntmps19 rfl rfl rfl rfl ?_
  intro w U hW
  refine aS (aR ?_)
  (refine nx (aA (gN rfl) rfl rfl rfl rfl rfl) rfl ?_)
  show AWp _ _ _ _ _ _ _
  refine aS (aR ?_)
  (refine nx (aA (gN rfl) rfl rfl rfl rfl rfl) rfl ?_)
  show AWp _ _ _ _ _ _ _
  refine aS (aS (aR ?_))
  (refine nx (aA (gN rfl) rfl rfl rfl rfl rfl) rfl ?_)
  show AWp _ _ _ _ _ _ _
  refine aB (awp_count c.length (fun k => [(0, .val (.lst (c.map Lt.cv))), (3, .own (.lst (((c.take k).map id).map Lt.cv)) 200031), (200031, .tok 52 5), (4, .val (.i k))]) ((wk_nil 3 200031 52 5 rfl rfl rfl rfl rfl rfl rfl).trans (wk_sub ⟨rfl, rfl, rfl, rfl, trivial⟩)) ?_)
  intro k hk
  have hks := Lt.size_all ((c.take k).map id)
  refine aS (aS (aR ?_))
  (refine nx (aM (gN rfl) rfl rfl rfl rfl rfl) rfl ?_)
  (refine nx (aM (gN rfl) rfl rfl rfl rfl rfl) rfl ?_)
  (refine nx (a_len (gN rfl) rfl rfl rfl rfl rfl rfl rfl) rfl ?_)
  (refine nx (a_lss (gN rfl) rfl rfl rfl rfl rfl rfl) rfl ?_)
  show AWp _ _ _ _ _ _ _
  refine aC rfl (fun hlt => ?_) (fun hlt => ?_)
  · have hkl : k < c.length := by simpa using hlt
    obtain ⟨x, hx⟩ : ∃ x, c[k]? = some x := ⟨c[k], List.getElem?_eq_getElem hkl⟩
    have hx' := Lt.map_at hx
    have hxm := List.mem_of_getElem? hx
    have hkn : (((c.take k).map id).map Lt.cv).length ≤ 1000000 := by rw [List.length_map, List.length_map, List.length_take]; omega
    refine aK ?_
    show AWp _ _ _ _ _ _ _
    refine aS (aB (aD (by kernel_rfl) (by kernel_rfl) ?_))
    (refine nx (aM (gN rfl) rfl rfl rfl rfl rfl) rfl ?_)
    (refine nx (aM (gN rfl) rfl rfl rfl rfl rfl) rfl ?_)
    (refine nx (aM (gN rfl) rfl rfl rfl rfl rfl) rfl ?_)
    (refine nx (a_index (j := k) (gN rfl) rfl rfl rfl rfl rfl rfl rfl rfl rfl (hx') rfl (hsz)) rfl ?_)
    (refine nx (a_field_ad (gN rfl) rfl rfl rfl rfl rfl rfl rfl rfl rfl rfl rfl) rfl ?_)
    (refine nx (a_load_ad (gN rfl) rfl rfl rfl rfl rfl rfl rfl rfl rfl) rfl ?_)
    (refine nx (aM (gN rfl) rfl rfl rfl rfl rfl) rfl ?_)
    (refine nx (aM (gN rfl) rfl rfl rfl rfl rfl) rfl ?_)
    (refine nx (a_index (j := k) (gN rfl) rfl rfl rfl rfl rfl rfl rfl rfl rfl (hx') rfl (hsz)) rfl ?_)
    (refine nx (a_field_ad (gN rfl) rfl rfl rfl rfl rfl rfl rfl rfl rfl rfl rfl) rfl ?_)
    (refine nx (a_load_ad (gN rfl) rfl rfl rfl rfl rfl rfl rfl rfl rfl) rfl ?_)
    (refine nx (a_call (gN rfl) rfl rfl rfl rfl rfl (of_abs w x.a (hc x hxm).1)) rfl ?_)
    (refine nx (aM (gN rfl) rfl rfl rfl rfl rfl) rfl ?_)
    (refine nx (aM (gN rfl) rfl rfl rfl rfl rfl) rfl ?_)
    (refine nx (a_index (j := k) (gN rfl) rfl rfl rfl rfl rfl rfl rfl rfl rfl (hx') rfl (hsz)) rfl ?_)
    (refine nx (a_field_ad (gN rfl) rfl rfl rfl rfl rfl rfl rfl rfl rfl rfl rfl) rfl ?_)
    (refine nx (a_load_ad (gN rfl) rfl rfl rfl rfl rfl rfl rfl rfl rfl) rfl ?_)
    (refine nx (a_call (gN rfl) rfl rfl rfl rfl rfl (of_abs w x.b (hc x hxm).2)) rfl ?_)
    (refine nx (a_build (gN rfl) rfl rfl rfl rfl rfl rfl rfl rfl rfl rfl rfl) rfl ?_)
    (refine nx (a_bslice (gN rfl) rfl rfl rfl rfl rfl rfl rfl rfl rfl rfl rfl rfl rfl) rfl ?_)
    (refine nx (a_app (gN rfl) rfl rfl rfl rfl rfl rfl rfl rfl rfl rfl rfl rfl rfl rfl rfl (by first | assumption | exact sZ rfl | exact Tm.size_all _ | exact Bd.size_all _ | exact ints_size _ | exact bys_size _ | exact Lt.size_all _) (by first | assumption | exact sZ rfl | exact Tm.size_all _ | exact Bd.size_all _ | exact ints_size _ | exact bys_size _ | exact Lt.size_all _) (by first | omega | (simp only [List.length_map, List.length_append, List.length_cons, List.length_nil] <;> omega) | (simp <;> omega))) rfl ?_)
    (refine nx (aA (gN rfl) rfl rfl rfl rfl rfl) rfl ?_)
    refine ⟨by kernel_rfl, ?_⟩
    show AWp _ _ _ _ _ _ _
    refine aR ?_
    (refine nx (aM (gN rfl) rfl rfl rfl rfl rfl) rfl ?_)
    (first | (refine nx (a_add (gN rfl) rfl rfl rfl rfl rfl rfl (by first | omega | (simp only [List.length_map, List.length_append, List.length_cons, List.length_nil] <;> omega) | (simp <;> omega))) rfl ?_) | (refine nx (a_sadd (gN rfl) rfl rfl rfl rfl rfl rfl (by first | omega | (simp only [List.length_map, List.length_append, List.length_cons, List.length_nil] <;> omega) | (simp <;> omega))) (by first | rfl | kernel_rfl) ?_))
    (refine nx (aA (gN rfl) rfl rfl rfl rfl rfl) rfl ?_)
    refine ⟨hkl, Wk.trans (wk_sub (s' := [(0, .val (.lst (c.map Lt.cv))), (3, .own (.lst (((c.take (k + 1)).map id).map Lt.cv)) 300031), (300031, .tok 52 5), (4, .val (.i ((k + 1 : Nat) : Int)))]) ⟨rfl, ?_, rfl, rfl, trivial⟩) (wk_ren 300031 200031 rfl rfl rfl rfl)⟩
    rw [List.take_add_one, hx, List.map_append, List.map_append]
    rfl
  · have hkl : k = c.length := by
      have : ¬ k < c.length := by simpa using hlt
      omega
    subst hkl
    rw [List.take_length]
    refine aE ?_
    show AWp _ _ _ _ _ _ _
    refine aS (aR ?_)
    (refine nx (aM (gN rfl) rfl rfl rfl rfl rfl) rfl ?_)
    (refine nx (aA (gN rfl) rfl rfl rfl rfl rfl) rfl ?_)
    show AWp _ _ _ _ _ _ _
    exact aT (And.intro (.inr rfl) rfl)
theorem of11_abs (W : World) (c : List Lt) (hl : c.length ≤ 1000000) (hc : ∀ l ∈ c, l.a.ok ∧ l.b.ok) : AFun Tryd.prog W 19 [.lst (c.map Lt.cv)] (.val (.lst (c.map Lt.cv))) := by
  have := of11I_abs W c hl hc
  rw [List.map_id] at this
  exact this
def sameL (x y : Lt) : Bool := (x.neg == y.neg) && (sameT x.a y.a && sameT x.b y.b)
def sameC : List Lt → List Lt → Bool
  | [], [] => true
  | x :: l, y :: m => sameL x y && sameC l m
  | _, _ => false
end Go.Proofs.YtgpnomjjjlomhaaDoor
