/-
  The bytes of all files of a map, and a copy of a map.
-/
import Derived.Test.YtngkapddobgfaaaDiskDo
import Derived.Sort.KeysCollected
namespace Go.Proofs.Ytngkapddobgfaaa
open Go.RowKit Go.Maps
set_option linter.unusedVariables false

section
variable {β : Type}
/-- In order of names, none twice. -/
def SortedG (fs : List (List UInt8 × β)) : Prop := fs.Pairwise (fun x y => Op.bytesLess x.1 y.1 = true)
theorem SortedG.drop {fs : List (List UInt8 × β)} (h : SortedG fs) (k : List UInt8) : SortedG (dropG fs k) := List.Pairwise.filter _ h
theorem while_prop {fs : List (List UInt8 × β)} {p : List UInt8 × β → Bool} : (∀ x ∈ fs.takeWhile p, p x = true) := fun x hx => by
  induction fs with
  | nil => simp at hx
  | cons y r ih =>
    rw [List.takeWhile_cons] at hx
    split at hx
    · rcases List.mem_cons.1 hx with rfl | h
      · assumption
      · exact ih h
    · simp at hx
theorem SortedG.put {fs : List (List UInt8 × β)} (h : SortedG fs) (f : List UInt8 × β) : SortedG (putG fs f) := by
  have hd := h.drop f.1
  unfold putG
  have hne : ∀ x ∈ dropG fs f.1, x.1 ≠ f.1 := fun x hx => (mem_dropG.1 hx).2
  generalize dropG fs f.1 = l at hd hne
  have key : ∀ l : List (List UInt8 × β), SortedG l → (∀ x ∈ l, x.1 ≠ f.1) → SortedG (l.takeWhile (fun g => Op.bytesLess g.1 f.1) ++ f :: l.dropWhile (fun g => Op.bytesLess g.1 f.1)) := by
    intro l
    induction l with
    | nil => intro _ _; exact List.pairwise_cons.2 ⟨by simp, List.Pairwise.nil⟩
    | cons y r ih =>
      intro hs hn
      obtain ⟨h1, h2⟩ := List.pairwise_cons.1 hs
      rw [List.takeWhile_cons, List.dropWhile_cons]
      cases hy : Op.bytesLess y.1 f.1
      · simp only [Bool.false_eq_true, if_false, List.nil_append]
        have hfy : Op.bytesLess f.1 y.1 = true := by
          rcases less_total (hn y (by simp)) with h | h
          · rw [hy] at h; cases h
          · exact h
        refine List.pairwise_cons.2 ⟨fun x hx => ?_, hs⟩
        rcases List.mem_cons.1 hx with rfl | hx
        · exact hfy
        · exact less_trans hfy (h1 x hx)
      · simp only [if_true, List.cons_append]
        refine List.pairwise_cons.2 ⟨fun x hx => ?_, ih h2 (fun x hx => hn x (by simp [hx]))⟩
        rcases List.mem_append.1 hx with hx | hx
        · exact h1 x ((List.takeWhile_sublist _).subset hx)
        · rcases List.mem_cons.1 hx with rfl | hx
          · exact hy
          · exact h1 x ((List.dropWhile_sublist _).subset hx)
  exact key l hd hne
theorem sorted_ext {a b : List (List UInt8 × β)} (ha : SortedG a) (hb : SortedG b) (h : ∀ x, x ∈ a ↔ x ∈ b) : a = b := by
  induction a generalizing b with
  | nil =>
    cases b with
    | nil => rfl
    | cons y r => have := (h y).2 (by simp); simp at this
  | cons x r ih =>
    cases b with
    | nil => have := (h x).1 (by simp); simp at this
    | cons y s =>
      obtain ⟨a1, a2⟩ := List.pairwise_cons.1 ha
      obtain ⟨b1, b2⟩ := List.pairwise_cons.1 hb
      have hxy : x = y := by
        rcases List.mem_cons.1 ((h x).1 (by simp)) with e | e
        · exact e
        · rcases List.mem_cons.1 ((h y).2 (by simp)) with e' | e'
          · exact e'.symm
          · have h1 := less_asymm (a1 y e')
            rw [b1 x e] at h1
            cases h1
      subst hxy
      congr 1
      refine ih a2 b2 (fun z => ?_)
      have hz := h z
      simp only [List.mem_cons] at hz
      constructor
      · intro hz1
        rcases hz.1 (.inr hz1) with rfl | h2
        · have := a1 z hz1; rw [less_irrefl] at this; cases this
        · exact h2
      · intro hz1
        rcases hz.2 (.inr hz1) with rfl | h2
        · have := b1 z hz1; rw [less_irrefl] at this; cases this
        · exact h2
theorem SortedG.names {fs : List (List UInt8 × β)} (h : SortedG fs) : fs.Pairwise (fun x y => x.1 ≠ y.1) := h.imp fun hl e => by rw [e, less_irrefl] at hl; cases hl
theorem get_of_mem {fs : List (List UInt8 × β)} (h : fs.Pairwise (fun x y => x.1 ≠ y.1)) {k : List UInt8} {b : β} (hm : (k, b) ∈ fs) : getG fs k = some b := by
  induction fs with
  | nil => simp at hm
  | cons y r ih =>
    obtain ⟨h1, h2⟩ := List.pairwise_cons.1 h
    unfold getG
    rw [List.find?_cons]
    rcases List.mem_cons.1 hm with rfl | hm
    · simp
    · have : (y.1 == k) = false := by simpa using h1 _ hm
      rw [this]
      exact ih h2 hm
end
theorem SortedG.files {E : Ents} (h : SortedG E) : SortedG (filesOf E) := List.pairwise_map.2 h
theorem SortedG.ents {E : Ents} (h : SortedG (filesOf E)) : SortedG E := List.pairwise_map.1 h

/-- The bytes of those files that are still to come. -/
def lsum (left : Lit → Bool) : Ents → Nat
  | [] => 0
  | e :: r => (if left (.string e.1) then e.2.1.n else 0) + lsum left r

theorem lsum_congr {l l' : Lit → Bool} : ∀ {E : Ents}, (∀ e ∈ E, l (.string e.1) = l' (.string e.1)) → lsum l E = lsum l' E
  | [], _ => rfl
  | e :: r, h => by rw [lsum, lsum, h e (by simp), lsum_congr (fun x hx => h x (by simp [hx]))]
theorem lsum_strike {left : Lit → Bool} : ∀ {E : Ents}, E.Pairwise (fun x y => x.1 ≠ y.1) → ∀ {k : List UInt8} {e : Ent}, (k, e) ∈ E → left (.string k) = true →
    lsum left E = lsum (fun z => left z && !z.sameKey (.string k)) E + e.1.n
  | [], _, _, _, hm, _ => by simp at hm
  | y :: r, hp, k, e, hm, hl => by
    obtain ⟨h1, h2⟩ := List.pairwise_cons.1 hp
    rcases List.mem_cons.1 hm with rfl | hm
    · have : lsum left r = lsum (fun z => left z && !z.sameKey (.string k)) r := lsum_congr (fun x hx => by
        have := h1 x hx
        have e1 : (Lit.string x.1).sameKey (.string k) = false := by simpa [Lit.sameKey] using fun e => this e.symm
        rw [e1]; simp)
      have e2 : (Lit.string k).sameKey (.string k) = true := by simp [Lit.sameKey]
      rw [lsum, lsum, this, hl, e2]
      simp
      omega
    · have := lsum_strike h2 hm hl
      have e1 : (Lit.string y.1).sameKey (.string k) = false := by simpa [Lit.sameKey] using h1 _ hm
      rw [lsum, lsum, this, e1]
      simp
      omega
theorem lsum_none {left : Lit → Bool} (h : ∀ z, left z = false) : ∀ E : Ents, lsum left E = 0
  | [] => rfl
  | e :: r => by rw [lsum, h, lsum_none h r]; rfl
theorem lsum_all {left : Lit → Bool} : ∀ {E : Ents}, (∀ e ∈ E, left (.string e.1) = true) → (∀ e ∈ E, e.2.2.length = e.2.1.n) → lsum left E = usedF (filesOf E)
  | [], _, _ => rfl
  | e :: r, h, hl => by
    rw [lsum, h e (by simp), lsum_all (fun x hx => h x (by simp [hx])) (fun x hx => hl x (by simp [hx]))]
    show (if true = true then _ else _) + _ = e.2.2.length + usedF (filesOf r)
    rw [hl e (by simp)]
    rfl
theorem lsum_le {left : Lit → Bool} : ∀ {E : Ents}, (∀ e ∈ E, e.2.2.length = e.2.1.n) → lsum left E ≤ usedF (filesOf E)
  | [], _ => Nat.le_refl _
  | e :: r, hl => by
    have ih := lsum_le (left := left) (fun x hx => hl x (by simp [hx]) : ∀ x ∈ r, _)
    show _ ≤ e.2.2.length + usedF (filesOf r)
    rw [lsum, hl e (by simp)]
    split <;> omega

theorem strOf_key {x : ByteArray} {kl : Lit} (h : keyOf Try.prog 9 (.string x) = some kl) : kl = .string x.toList ∧ x.size ≤ maxLen := by
  rw [ByteArray.toList_eq]
  simp only [keyOf, Try.underlying9, mapKey] at h
  split at h
  · cases h; exact ⟨rfl, by assumption⟩
  · cases h

section
variable (w : World) {ops : Array Oper} {rest : List Oper} {o : Oper} {a : Act} {Q : Exit → Act → World → Prop}
/-- A range loop's step over a map of files. -/
theorem wpList_next_sl (hg : o.guard = none) (it : Operand) (hop : o.op = Op.next it false) (b r n : Nat) (E : Ents) (left : Lit → Bool) (cnt : Nat) (hit : a.eval it = .pointer (some ⟨r, 0, none⟩)) (h : w.ranges Try.prog 9 slR b r n (dOf E) left cnt)
    (hDone : cnt = 0 → (∀ kl, left kl = false) → wpList Try.prog ops Q rest (a.put o.dst (.tuple #[.bool false])) w)
    (hMore : ∀ (x : ByteArray) (sa : Option Addr) (sn sc : Nat) (zs : List Int) (w' : World) (cnt' : Nat), (x.toList, ((⟨sa, sn, sc⟩, zs) : Ent)) ∈ E → x.size ≤ maxLen → left (.string x.toList) = true → w'.ranges Try.prog 9 slR b r n (dOf E) (fun z => left z && !z.sameKey (.string x.toList)) cnt' → cnt' < cnt →
      w.grownBy w' (some r) → w'.heap.size = w.heap.size → (Instr.entry (.pointer (some ⟨r, 0, none⟩))).run Try.prog w' = .ok (.tuple #[.string x, .slice sa sn sc]) w' → wpList Try.prog ops Q rest (a.put o.dst (.tuple #[.bool true, .string x, .slice sa sn sc])) w') :
    wpList Try.prog ops Q (o :: rest) a w := by
  refine wpList_next_ranges w hg it hop 9 keyedS slR (Value.string) Sl.val (fun key kl hk => ?_) (fun v y hv => ?_) b r n (dOf E) left cnt hit h hDone ?_
  · obtain ⟨x, e, _⟩ := Maps.keyOf_str Try.underlying9 hk
    exact ⟨_, e⟩
  · obtain ⟨s, e, _⟩ := slR_inv hv
    exact ⟨s, e⟩
  · intro x c kl y w' cnt' hkey hlk hv hat hrg hlt hgr hsz hen
    obtain ⟨rfl, hx⟩ := strOf_key hkey
    obtain ⟨s, e1, e2⟩ := slR_inv hv
    have hcs : c = s := by cases c; cases s; simpa [Sl.val] using e1
    subst hcs
    subst e2
    have hhas := has_true_of_atKey hat
    rw [dOf_has] at hhas
    obtain ⟨en, hen2⟩ := Option.isSome_iff_exists.1 hhas
    have h3 := hat (.held ⟨none, 0, 0⟩)
    rw [dOf_at, slAt, hen2] at h3
    simp only at h3
    cases h3
    obtain ⟨⟨sa, sn, sc⟩, zs⟩ := en
    exact hMore x sa sn sc zs w' cnt' (getG_mem hen2) hx hlk hrg hlt hgr hsz hen
end

set_option maxRecDepth 100000 in
set_option maxHeartbeats 400000 in
theorem size_any (m : Nat) (E : Ents) (w : World) (h : Mp w m E) (hu : usedF (filesOf E) ≤ 4611686018427387904) :
    Calls Try.prog 42 #[.map (some m)] w fun e w' => e = .returned (.int .i64 ((usedF (filesOf E) : Nat) : Int)) ∧ Below w.heap.size w w' := by
  have hp := h.names keyedS
  have hl : ∀ e ∈ E, e.2.2.length = e.2.1.n := fun e he => (h.2.1 e he).1
  obtain ⟨T, hT⟩ : ∃ T, T = usedF (filesOf E) := ⟨_, rfl⟩
  rw [← hT] at hu ⊢
  have HT : Hid (T = usedF (filesOf E)) := hT
  clear hT
  go_enter Try.func42, Try.ntmps42
  go_wp2_with (first | (at_range; refine wpList_range_own _ rfl _ 63 rfl 9 32 keyedS Try.underlying63 slR m E.length (dOf E) rfl h.1 ?_; intro w0 hrg0 hg0 hs0) | go_in)
  go_frame
  go_loopw [3] (fun sv wr => ∃ (left : Lit → Bool) (cnt u : Nat), wr.ranges Try.prog 9 slR m w.heap.size E.length (dOf E) left cnt ∧ sv = .int .i64 (u : Int) ∧ u + lsum left E = T ∧ Below w.heap.size w wr) (fun _ wr => wr.rangeLeft m w.heap.size)
  case atStart =>
    refine ⟨_, _, 0, hrg0, rfl, ?_, (Below.refl _ _).grown hg0 (Nat.le_refl _) (fun k hk => by cases hk)⟩
    rw [HT.out, Nat.zero_add]
    refine lsum_all (fun e he => ?_) hl
    rw [dOf_has, get_of_mem hp (k := e.1) (b := e.2) he]
    rfl
  case round =>
    obtain ⟨left, cnt, u, hrg, rfl, hsum, hbr⟩ := hrel
    have hle : u ≤ 4611686018427387904 := by omega
    go_wp2_with (first | (at_next; refine wpList_next_sl _ rfl _ rfl m w.heap.size E.length E left cnt rfl hrg ?_ ?_) | go_in)
    · intro hc0 hl0
      have e : u = T := by rw [lsum_none hl0] at hsum; omega
      have HX : Hid (u = T) := e
      clear e hsum
      go_wp2
      go_ret
      exact ⟨by rw [← HX.out]; rfl, hbr⟩
    · intro x sa sn sc zs w1 cnt1 hm hx hlx hrg1 hlt hg1 hs1 hen
      have e := lsum_strike hp hm hlx
      simp only at e
      have e2 : (u + sn) + lsum (fun z => left z && !z.sameKey (.string x.toList)) E = T := by omega
      have hle2 : u + sn ≤ 4611686018427387904 := by omega
      have HX : Hid ((u + sn) + lsum (fun z => left z && !z.sameKey (.string x.toList)) E = T) := e2
      have hb1 : Below w.heap.size w w1 := hbr.grown hg1 hbr.size (fun k hk => by cases hk; exact Nat.le_refl _)
      clear e e2 hsum hp hl hm
      go_wp2
      go_roundw
      case rel => exact ⟨_, cnt1, u + sn, hrg1, by go_num, HX.out, hb1⟩
      case measure => rw [hrg1.left_eq, hrg.left_eq]; omega

theorem Kp.grown {a w : World} {m : Nat} (h : Kp (fun i => i = m) a w) : a.grownBy w (some m) := ⟨h.os, h.tape, h.output, h.size, fun i hi hn => h.block i hi (fun e => hn (by rw [e]))⟩

set_option maxRecDepth 100000 in
set_option maxHeartbeats 400000 in
theorem copy_any (m b : Nat) (E : Ents) (w : World) (h : w.ownsMap Try.prog 9 slR b E.length (dOf E)) (hs : SortedG E) (hm : w.ownsMap Try.prog 9 slR m 0 (dOf [])) (hE : E.length < maxLen) (hne : m ≠ b) :
    Calls Try.prog 50 #[.map (some m), .map (some b)] w fun e w' => e = .returned (.tuple #[]) ∧ w'.ownsMap Try.prog 9 slR m E.length (dOf E) ∧ Kp (fun i => i = m) w w' := by
  go_enter Try.func50, Try.ntmps50
  go_wp2_with (first | (at_range; refine wpList_range_own _ rfl _ 63 rfl 9 32 keyedS Try.underlying63 slR b E.length (dOf E) rfl h ?_; intro w0 hrg0 hg0 hs0) | go_in)
  go_frame
  have hmlt := hm.lt
  have hp := hs.names
  have hg0' : Kp (fun i => i = m) w w0 := (Kp.of_grown hg0).mono (fun i _ e => by cases e)
  have hm0 := hm.kept hg0 (by simp)
  go_loopw [] (fun wr => ∃ (left : Lit → Bool) (cnt : Nat) (F : Ents), wr.ranges Try.prog 9 slR b w.heap.size E.length (dOf E) left cnt ∧ wr.ownsMap Try.prog 9 slR m F.length (dOf F) ∧ SortedG F ∧ (∀ x, x ∈ F ↔ x ∈ E ∧ left (.string x.1) = false) ∧ Kp (fun i => i = m) w wr) (fun wr => wr.rangeLeft b w.heap.size)
  case atStart =>
    refine ⟨_, _, [], hrg0, hm0, List.Pairwise.nil, fun x => ⟨fun hx => by simp at hx, fun hx => ?_⟩, hg0'⟩
    obtain ⟨h1, h2⟩ := hx
    rw [dOf_has, get_of_mem hp (k := x.1) (b := x.2) h1] at h2
    cases h2
  case round =>
    obtain ⟨left, cnt, F, hrg, hom, hsF, hF, hbr⟩ := hrel
    go_wp2_with (first | (at_next; refine wpList_next_sl _ rfl _ rfl b w.heap.size E.length E left cnt rfl hrg ?_ ?_) | go_in)
    · intro hc0 hl0
      have e : F = E := sorted_ext hsF hs (fun x => by rw [hF x]; simp [hl0])
      subst e
      clear hF
      go_wp2
      go_end0
      exact ⟨rfl, hom, hbr⟩
    · intro x sa sn sc zs w1 cnt1 hmem hx hlx hrg1 hlt hg1 hs1 hen
      have hFl : F.length < maxLen := by
        have e : F = E.filter (fun x => !left (.string x.1)) := sorted_ext hsF (List.Pairwise.filter _ hs) (fun x => by rw [hF x]; simp)
        rw [e]
        exact Nat.lt_of_le_of_lt (List.length_filter_le _ _) hE
      have hom1 := hom.kept hg1 (by simp; omega)
      have hb1 : Kp (fun i => i = m) w w1 := hbr.trans (Kp.of_grown hg1) (fun i hi e => by cases e; omega)
      have HF : Hid (∀ x, x ∈ F ↔ x ∈ E ∧ left (.string x.1) = false) := hF
      clear hF hom hs1
      go_wp2_with (first | (at_mapUpdate; refine wpList_put_sl _ rfl _ _ _ rfl m F rfl hom1 hFl x rfl hx ⟨sa, sn, sc⟩ rfl ?_; intro w2 ho2 hk2) | go_in)
      rw [dOf_put F x.toList ⟨sa, sn, sc⟩ zs] at ho2
      have ho3 := own_size ho2
      have hrg2 := hrg1.kept hk2.grown (by simp; omega) (by simp; omega)
      have hb2 := hb1.trans hk2 (fun i hi e => e)
      clear ho2 hk2
      go_frame
      go_roundw
      case rel =>
        refine ⟨_, cnt1, _, hrg2, ho3, hsF.put _, fun z => ?_, hb2⟩
        rw [mem_putG, HF.out z]
        constructor
        · rintro (rfl | ⟨⟨h1, h2⟩, h3⟩)
          · exact ⟨hmem, by simp [Lit.sameKey]⟩
          · exact ⟨h1, by rw [h2]; rfl⟩
        · rintro ⟨h1, h2⟩
          by_cases hz : z.1 = x.toList
          · left
            have e1 := get_of_mem hp (k := z.1) (b := z.2) h1
            have e2 := get_of_mem hp hmem
            rw [hz, e2] at e1
            obtain ⟨zk, ze⟩ := z
            simp only at hz e1
            cases e1
            rw [hz]
          · right
            refine ⟨⟨h1, ?_⟩, hz⟩
            have : (Lit.string z.1).sameKey (.string x.toList) = false := by simpa [Lit.sameKey] using hz
            rw [this] at h2
            simpa using h2
      case measure => rw [hrg2.left_eq, hrg.left_eq]; omega

set_option maxRecDepth 100000 in
set_option maxHeartbeats 400000 in
theorem copy_nil (m : Option Nat) (w : World) : Calls Try.prog 50 #[.map m, .map none] w fun e w' => e = .returned (.tuple #[]) ∧ Below w.heap.size w w' := by
  have hr := run_range_nilMap (P := Try.prog) w 63 9 32 Try.underlying63
  go_enter Try.func50, Try.ntmps50
  have hnx := fun ty => run_next_nilMap (P := Try.prog) w ty 0 0 #[]
  go_wp2
  go_loopw [] (fun wr => wr = w.alloc (.mapIter none 0 #[] 0)) (fun _ => 0)
  case atStart => rfl
  case round =>
    obtain rfl := hrel
    go_wp2
    go_end0
    exact ⟨rfl, (Below.refl _ _).alloc (Nat.le_refl _) _⟩

set_option maxRecDepth 100000 in
set_option maxHeartbeats 400000 in
theorem size_nil (w : World) : Calls Try.prog 42 #[.map none] w fun e w' => e = .returned (.int .i64 0) ∧ Below w.heap.size w w' := by
  have hr := run_range_nilMap (P := Try.prog) w 63 9 32 Try.underlying63
  go_enter Try.func42, Try.ntmps42
  have hnx := fun ty => run_next_nilMap (P := Try.prog) w ty 0 0 #[]
  go_wp2
  go_loopw [3] (fun sv wr => sv = .int .i64 0 ∧ wr = w.alloc (.mapIter none 0 #[] 0)) (fun _ _ => 0)
  case atStart => exact ⟨rfl, rfl⟩
  case round =>
    obtain ⟨rfl, rfl⟩ := hrel
    go_wp2
    go_ret
    exact ⟨rfl, (Below.refl _ _).alloc (Nat.le_refl _) _⟩
end Go.Proofs.Ytngkapddobgfaaa
