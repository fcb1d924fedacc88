/-
  A law's own rows beside a disk: what an append to one of them leaves.
-/
import Derived.Test.YtngkapddobgfaaaDiskOrdMath
namespace Go.Proofs.Ytngkapddobgfaaa
open Go.RowKit Go.Maps
set_option linter.unusedVariables false

theorem info_strs : (Try.prog.info? 45).map (fun i => (i.zero, i.size, i.bytes)) = some (some (.slice none 0 0), 1, 24) := by kernel_rfl
theorem info_act : (Try.prog.info? 36).map (fun i => (i.zero, i.size, i.bytes)) = some (some (.agg #[.int .i64 0, .string ByteArray.empty, .string ByteArray.empty, .slice none 0 0, .int .i64 0, .int .i64 0]), 6, 80) := by kernel_rfl

/-- One more behind a row of the law's own; the disk is where it was. -/
theorem app_law {T : Nat → Prop} {w : World} {p B : Nat} {st : St} (hD : DkT T w p st) (hB : B ≤ w.heap.size) (t e : TypeId) (z : Value) (size bytes : Nat) (ht : Try.prog.underlying t = some (.slice e)) (hi : (Try.prog.info? e).map (fun i => (i.zero, i.size, i.bytes)) = some (some z, size, bytes)) (hzs : z.cells.size = size) (hsz : 0 < size)
    (v : Value) (n : Nat) (xs ys : List Value) (hrow : w.ownsRow B e size v n xs) (hvT : ∀ g, v.ownBlock = some g → T g) (hl : ys.length = size) (h1 : ∀ u ∈ ys, u.oneCell' = true) (hn : n ≤ 1000) (hbt : bytes ≤ 1000) :
    ∃ a' c' w', Sem.run Try.prog (Builtin.append_ #[t, t] t #[v, .slice (some ⟨w.heap.size, 0, none⟩) 1 1]) (w.alloc (.cells ys.toArray e)) = .ok (.slice a' (n + 1) c') w' ∧ w'.ownsRow B e size (.slice a' (n + 1) c') (n + 1) (xs ++ ys) ∧ Kp (fun i => v.ownBlock = some i) w w' ∧
      DkT (fun i => T i ∨ (Value.slice a' (n + 1) c').ownBlock = some i) w' p st := by
  have hmul : (n + 1) * bytes ≤ 1001 * 1000 := Nat.mul_le_mul (by omega) hbt
  have hrow1 : (w.alloc (.cells ys.toArray e)).ownsRow 0 e size v n xs := ownsRow_mono (hrow.alloc _) (Nat.zero_le _)
  obtain ⟨v', w', hrun, ho, hg, hv⟩ := run_append_row (P := Try.prog) (w.alloc (.cells ys.toArray e)) t t e z size bytes ht hi hzs hsz v n xs hrow1 ⟨w.heap.size, 0, none⟩ 1 1 ys (Cs.new _ _ _) (by rw [hl, Nat.one_mul]) h1 (by unfold maxLen; omega) (by omega)
  obtain ⟨a', c', rfl, _⟩ := ownsRow_cs ho
  have hk : Kp (fun i => v.ownBlock = some i) w w' := ((Kp.refl (fun i => v.ownBlock = some i) w).alloc _).trans (Kp.of_grown hg) (fun i _ e => e)
  have hv' : ∀ g, (Value.slice a' (n + 1) c').ownBlock = some g → v.ownBlock = some g ∨ w.heap.size ≤ g := fun g hg' => by
    rcases hv with e | e
    · left; rw [← e]; exact hg'
    · right; have := e g hg'; rw [World.size_alloc] at this; omega
  refine ⟨a', c', w', hrun, row_base ho (fun g hg' => ?_), hk, ?_⟩
  · rcases hv' g hg' with e | e
    · exact (hrow.lt g e).1
    · omega
  · refine DkT.turn hD (hk.mono (fun i _ e => hvT i e)) (fun i hi' => ?_) (fun i hi' => ?_)
    · rcases hi' with e | e
      · exact Nat.lt_of_lt_of_le (hD.1 i e) hk.size
      · exact (ho.lt i e).2
    · rcases hi' with e | e
      · exact .inl e
      · rcases hv' i e with e' | e'
        · exact .inl (hvT i e')
        · exact .inr e'

/-- Rows of different kinds lie in different blocks. -/
theorem rows_apart {w : World} {b1 b2 : Nat} {e1 e2 : TypeId} {s1 s2 : Nat} {v1 v2 : Value} {n1 n2 : Nat} {x1 x2 : List Value} (h1 : w.ownsRow b1 e1 s1 v1 n1 x1) (h2 : w.ownsRow b2 e2 s2 v2 n2 x2) (he : e1 ≠ e2) (g : Nat) (hg : v1.ownBlock = some g) : ¬ v2.ownBlock = some g := by
  intro hg2
  rcases h1.2 with ⟨rfl, _⟩ | ⟨g1, c1, u1, rfl, _, hh1, _⟩
  · simp [Value.ownBlock] at hg
  rcases h2.2 with ⟨rfl, _⟩ | ⟨g2, c2, u2, rfl, _, hh2, _⟩
  · simp [Value.ownBlock] at hg2
  have a1 : g1 = g := by simpa [Value.ownBlock] using hg
  have a2 : g2 = g := by simpa [Value.ownBlock] using hg2
  rw [a1] at hh1
  rw [a2, hh1] at hh2
  cases hh2
  exact he rfl

theorem rowk_kp {S : Nat → Prop} {w w' : World} {base : Nat} {e : TypeId} {size : Nat} {v : Value} {n : Nat} {xs : List Value} (h : w.ownsRow base e size v n xs) (hk : Kp S w w') (hn : ∀ g, v.ownBlock = some g → ¬ S g) : w'.ownsRow base e size v n xs := by
  obtain ⟨h1, h2⟩ := h
  refine ⟨h1, ?_⟩
  rcases h2 with h2 | ⟨g, cap, cur, rfl, hg, hh, r⟩
  · exact .inl h2
  · exact .inr ⟨g, cap, cur, rfl, hg, (hk.block g (Array.getElem?_eq_some_iff.1 hh).1 (hn g rfl)).trans hh, r⟩

theorem strs_at {L : List FileL} {q : Nat} {f : FileL} (h : L[q]? = some f) : (strsF L)[q * 2]? = some ⟨f.1.toArray⟩ ∧ (strsF L)[q * 2 + 1]? = some (strOfNums f.2) := by
  induction L generalizing q with
  | nil => simp at h
  | cons x L ih =>
    cases q with
    | zero =>
      have : x = f := by simpa using h
      subst this
      exact ⟨rfl, rfl⟩
    | succ q =>
      have := ih (q := q) (by simpa using h)
      rw [show (q + 1) * 2 = q * 2 + 1 + 1 by omega]
      exact this

theorem row_strs {w : World} {b : Nat} {a : Option Addr} {n c : Nat} {L : List FileL} (h : w.ownsRow b 9 1 (.slice a n c) n ((strsF L).map Value.string)) {q : Nat} {f : FileL} (hf : L[q]? = some f) :
    ∃ bx ox, a = some ⟨bx, ox, none⟩ ∧ bx < w.heap.size ∧ w.cell? ⟨bx, ox + q * 2, none⟩ = some (.string ⟨f.1.toArray⟩) ∧ w.cell? ⟨bx, ox + (q * 2 + 1), none⟩ = some (.string (strOfNums f.2)) := by
  obtain ⟨h1, h2⟩ := strs_at hf
  have hl : q < L.length := (List.getElem?_eq_some_iff.1 hf).1
  obtain ⟨_, _, e1, _, _, _, hcs⟩ := ownsRow_cs h
  cases e1
  rcases hcs with e | ⟨bx, ox, ha, hb, hc⟩
  · have := congrArg List.length e
    rw [List.length_map, strs_length, List.length_nil] at this
    omega
  · have hsl := strs_length L
    refine ⟨bx, ox, ha, hb, ?_, ?_⟩
    · rw [hc (q * 2) (by rw [List.length_map]; omega), List.getElem?_map, h1]; rfl
    · rw [hc (q * 2 + 1) (by rw [List.length_map]; omega), List.getElem?_map, h2]; rfl

theorem name_eq (l : List UInt8) (s : ByteArray) : ((⟨l.toArray⟩ : ByteArray) = s) ↔ l = s.toList := by
  rw [ByteArray.toList_eq]
  constructor
  · intro h; rw [← h]
  · intro h; rw [h]

theorem strs_more (a b : List Int) : strOfNums (a ++ b) = strOfNums a ++ strOfNums b := by
  unfold strOfNums
  rw [List.map_append]
  apply ByteArray.ext
  rw [ByteArray.data_append]
  simp

/-- What the law DiskOrder has gathered: behind k deeds these files were read. -/
structure Gath (B : Nat) (L : Nat → Prop) (w : World) (al : List ActL) (av nv : Value) (m : Nat) (vals : List Value) (nx : List ARef) : Prop where
  all : w.ownsRow B 45 1 av (m + 1) vals
  next : w.ownsRow B 36 6 nv m (acells nx)
  len : m = nx.length
  rows : ∀ k v, vals[k]? = some v → w.ownsRow B 9 1 v ((foldF [] (al.take k)).length * 2) ((strsF (foldF [] (al.take k))).map Value.string) ∧ ∀ g, v.ownBlock = some g → L g
  la : ∀ g, av.ownBlock = some g → L g
  ln : ∀ g, nv.ownBlock = some g → L g
  lb : ∀ g, L g → B ≤ g

theorem Gath.kp {B : Nat} {L S : Nat → Prop} {w w' : World} {al : List ActL} {av nv : Value} {m : Nat} {vals : List Value} {nx : List ARef} (h : Gath B L w al av nv m vals nx) (hk : Kp S w w') (hS : ∀ g, L g → ¬ S g) : Gath B L w' al av nv m vals nx :=
  ⟨rowk_kp h.all hk (fun g hg => hS g (h.la g hg)), rowk_kp h.next hk (fun g hg => hS g (h.ln g hg)), h.len, fun k v hv => ⟨rowk_kp (h.rows k v hv).1 hk (fun g hg => hS g ((h.rows k v hv).2 g hg)), (h.rows k v hv).2⟩, h.la, h.ln, h.lb⟩

theorem acells_snoc (nx : List ARef) (r : ARef) : acells (nx ++ [r]) = acells nx ++ r.cells := by simp [acells]
theorem cells_one (r : ARef) : ∀ u ∈ r.cells, u.oneCell' = true := by
  intro u hu
  simp only [ARef.cells, List.mem_cons, List.not_mem_nil, or_false] at hu
  rcases hu with rfl | rfl | rfl | rfl | rfl | rfl <;> rfl

/-- One more deed: what was read behind it, and the call itself, are gathered. -/
theorem gath_step {B : Nat} {L : Nat → Prop} {w : World} {al al' : List ActL} {av nv v : Value} {m p : Nat} {st : St} {vals : List Value} {nx : List ARef} (r : ARef) (hG : Gath B L w al av nv m vals nx) (hal : ∀ k, k ≤ m → al'.take k = al.take k)
    (hv : w.ownsRow B 9 1 v ((foldF [] (al'.take (m + 1))).length * 2) ((strsF (foldF [] (al'.take (m + 1)))).map Value.string)) (hD : DkT (fun i => (Old B i ∨ L i) ∨ v.ownBlock = some i) w p st) (hB : B ≤ w.heap.size) (hm : m ≤ 100) :
    ∃ a1 c1 w1 a2 c2 w2 L', Sem.run Try.prog (Builtin.append_ #[50, 50] 50 #[av, .slice (some ⟨w.heap.size, 0, none⟩) 1 1]) (w.alloc (.cells #[v] 45)) = .ok (.slice a1 (m + 1 + 1) c1) w1 ∧
      Sem.run Try.prog (Builtin.append_ #[22, 22] 22 #[nv, .slice (some ⟨w1.heap.size, 0, none⟩) 1 1]) (w1.alloc (.cells r.cells.toArray 36)) = .ok (.slice a2 (m + 1) c2) w2 ∧
      Gath B L' w2 al' (.slice a1 (m + 1 + 1) c1) (.slice a2 (m + 1) c2) (m + 1) (vals ++ [v]) (nx ++ [r]) ∧ DkT (fun i => Old B i ∨ L' i) w2 p st ∧ Below B w w1 ∧ Below B w w2 := by
  have hone : ∀ u ∈ [v], u.oneCell' = true := by
    intro u hu
    rw [List.mem_singleton.1 hu]
    obtain ⟨a, c, rfl, _⟩ := ownsRow_cs hv
    rfl
  obtain ⟨a1, c1, w1, hr1, ho1, hk1, hD1⟩ := app_law hD hB 50 45 (.slice none 0 0) 1 24 Try.underlying50 info_strs rfl (by decide) av (m + 1) vals [v] hG.all (fun g hg => .inl (.inr (hG.la g hg))) rfl hone (by omega) (by omega)
  have hb1 : Below B w w1 := hk1.below hB (fun i e => hG.lb i (hG.la i e))
  have hn1 := rowk_kp hG.next hk1 (fun g hg e => rows_apart hG.next hG.all (by decide) g hg e)
  obtain ⟨a2, c2, w2, hr2, ho2, hk2, hD2⟩ := app_law hD1 (Nat.le_trans hB hb1.size) 22 36 _ 6 80 Try.underlying22 info_act rfl (by decide) nv m (acells nx) r.cells hn1 (fun g hg => .inl (.inl (.inr (hG.ln g hg)))) rfl (cells_one r) (by omega) (by omega)
  have hb2 : Below B w w2 := hb1.trans (hk2.below (Nat.le_trans hB hb1.size) (fun i e => hG.lb i (hG.ln i e)))
  have hLb : ∀ g, (L g ∨ v.ownBlock = some g ∨ (Value.slice a1 (m + 1 + 1) c1).ownBlock = some g ∨ (Value.slice a2 (m + 1) c2).ownBlock = some g) → B ≤ g := by
    rintro g (e | e | e | e)
    · exact hG.lb g e
    · exact (hv.lt g e).1
    · exact (ho1.lt g e).1
    · exact (ho2.lt g e).1
  have hstr : ∀ u n xs, w.ownsRow B 9 1 u n xs → w2.ownsRow B 9 1 u n xs := fun u n xs hu => by
    have h1 := rowk_kp hu hk1 (fun g hg e => rows_apart hu hG.all (by decide) g hg e)
    exact rowk_kp h1 hk2 (fun g hg e => rows_apart h1 hn1 (by decide) g hg e)
  have hlen : vals.length = m + 1 := by have := hG.all.1; omega
  refine ⟨a1, c1, w1, a2, c2, w2, _, hr1, hr2, ⟨rowk_kp ho1 hk2 (fun g hg e => rows_apart ho1 hn1 (by decide) g hg e), by rw [acells_snoc]; exact ho2, by rw [List.length_append, ← hG.len]; rfl, ?_, fun g hg => .inr (.inr (.inl hg)), fun g hg => .inr (.inr (.inr hg)), hLb⟩, ?_, hb1, hb2⟩
  · intro k u hu
    rcases Nat.lt_or_ge k vals.length with hk | hk
    · rw [List.getElem?_append_left hk] at hu
      rw [hal k (by omega)]
      exact ⟨hstr _ _ _ (hG.rows k u hu).1, fun g hg => .inl ((hG.rows k u hu).2 g hg)⟩
    · have hke : k = m + 1 := by
        rcases Nat.lt_or_ge (m + 1) k with h' | h'
        · rw [List.getElem?_eq_none (by simp; omega)] at hu; cases hu
        · omega
      rw [hke, List.getElem?_append_right (by omega), hlen, Nat.sub_self] at hu
      have hue : u = v := by simpa using hu.symm
      rw [hke, hue]
      exact ⟨hstr _ _ _ hv, fun g hg => .inr (.inl hg)⟩
  · refine DkT.more hD2 (fun i hi => ?_) (fun i hi => ?_)
    · have hs := hb2.size
      rcases hi with e | e | e | e | e
      · unfold Old at e; omega
      · exact Nat.lt_of_lt_of_le (hD.1 i (.inl (.inr e))) hs
      · exact Nat.lt_of_lt_of_le (hv.lt i e).2 hs
      · exact Nat.lt_of_lt_of_le (ho1.lt i e).2 hk2.size
      · exact (ho2.lt i e).2
    · rcases hi with e | e | e | e | e
      · exact .inl (.inl (.inl (.inl e)))
      · exact .inl (.inl (.inl (.inr e)))
      · exact .inl (.inl (.inr e))
      · exact .inl (.inr e)
      · exact .inr e
end Go.Proofs.Ytngkapddobgfaaa
