/-
  The document's Do beside ours: the same error, the same bytes, and the two disks stay twins.
-/
import Derived.Test.YtngkapddobgfaaaDiskRefDo8
import Derived.Test.YtngkapddobgfaaaDiskRefDo7
import Derived.Test.YtngkapddobgfaaaDiskRefDo5
import Derived.Test.YtngkapddobgfaaaDiskRefSame
namespace Go.Proofs.Ytngkapddobgfaaa
open Go.RowKit Go.Maps
set_option linter.unusedVariables false

/-- Where a row of calls and their bytes lie. -/
def AIn (T : Nat → Prop) (wa : Option Addr) (wn : Nat) (ws : List ARef) : Prop := (∀ x, wa = some x → 0 < wn → T x.block) ∧ ∀ r ∈ ws, ∀ x, r.a = some x → 0 < r.n → T x.block

theorem ARef.inn.kp {S : Nat → Prop} {w w' : World} {r : ARef} (h : r.inn w) (hk : Kp S w w') (hn : ∀ x, r.a = some x → 0 < r.n → ¬ S x.block) : r.inn w' := by
  obtain ⟨⟨h1, h2, h3, h4⟩, h5, h6, h7, h8, h9⟩ := h
  exact ⟨⟨h1, h2, h3, bs_kp h4 hk hn⟩, h5, h6, h7, h8, fun x hx h0 => Nat.lt_of_lt_of_le (h9 x hx h0) hk.size⟩
theorem As.kp {S : Nat → Prop} {w w' : World} {a : Option Addr} {n c : Nat} {rs : List ARef} (h : As w a n c rs) (hk : Kp S w w') (hn : AIn (fun i => ¬ S i) a n rs) : As w' a n c rs := by
  obtain ⟨h1, h2, h3, h4, h5, h6⟩ := h
  refine ⟨h1, h2, h3, h4, cs_kp h5 hk (fun x hx h0 => hn.1 x hx ?_), fun r hr => (h6 r hr).kp hk (hn.2 r hr)⟩
  rcases Nat.eq_zero_or_pos n with e | e
  · exfalso
    apply h0
    have : rs = [] := List.eq_nil_of_length_eq_zero (by omega)
    rw [this]; rfl
  · exact e
theorem AIn.mono {T T' : Nat → Prop} {a : Option Addr} {n : Nat} {rs : List ARef} (h : AIn T a n rs) (ht : ∀ i, T i → T' i) : AIn T' a n rs := ⟨fun x hx h0 => ht _ (h.1 x hx h0), fun r hr x hx h0 => ht _ (h.2 r hr x hx h0)⟩
theorem FIn.mono {T T' : Nat → Prop} {a : Option Addr} {n : Nat} {rs : List FRef} (h : FIn T a n rs) (ht : ∀ i, T i → T' i) : FIn T' a n rs := ⟨fun x hx h0 => ht _ (h.1 x hx h0), fun r hr x hx h0 => ht _ (h.2 r hr x hx h0)⟩

/-- The document's disk beside ours, behind j calls, in memory. -/
structure Doc (T : Nat → Prop) (w : World) (j : Nat) (st : St) (la : Option Addr) (ln lc : Nat) (rs : List FRef) (wa : Option Addr) (wn wc : Nat) (ws : List ARef) (armed : Int) (down : Bool) (deeds : Int) : Prop where
  fs : Fs w la ln lc rs
  acts : As w wa wn wc ws
  files : rs.map FRef.file = st.last
  twin : Twin j st (ws.map ARef.act) armed down deeds
  fin : FIn T la ln rs
  ain : AIn T wa wn ws
  few : wn ≤ j ∧ st.deeds ≤ j

theorem DkT.run {T : Nat → Prop} {w : World} {p : Nat} {st : St} (h : DkT T w p st) : okRun st.room st.last st.waits := by
  obtain ⟨_, S, ⟨lm, E, v, rs, hD, _⟩, _⟩ := h
  exact hD.run
theorem crash_ok {st : St} (h : okRun st.room st.last st.waits) (hr : st.room ≤ 1073741824) (keep torn : Int) : usedF (crashF st keep torn).last ≤ 4294967296 ∧ (crashF st keep torn).last.length ≤ 64 := by
  have hk : okFiles st.room (crashF st keep torn).last := by
    show okFiles st.room (foldF st.last (crashW st keep torn))
    unfold crashW
    split
    · rename_i a ha
      split
      · rename_i h1
        exact (h.torn ha h1 torn).fold
      · exact (h.take _).fold
    · exact (h.take _).fold
  obtain ⟨_, h2, h3⟩ := hk
  exact ⟨by omega, h2⟩

/-- What Do returns. -/
def DoEnd (T : Nat → Prop) (j : Nat) (st : St) (a : ActL) (w : World) (e : Ending) (w' : World) : Prop :=
  ∃ la ln lc rs wa wn wc ws armed down deeds b bn bc, e = .returned (.tuple #[refDisk (st.room : Int) la ln lc wa wn wc armed down deeds, .int .i64 (playE st a), .slice b bn bc]) ∧ Bs w' b bn (playB st a) ∧ (∀ x, b = some x → 0 < bn → T x.block ∨ w.heap.size ≤ x.block) ∧
    Doc (fun i => T i ∨ (w.heap.size ≤ i ∧ i < w'.heap.size)) w' (j + 1) (playS st a) la ln lc rs wa wn wc ws armed down deeds ∧ Below w.heap.size w w'

theorem drew_drewN (w : World) (m : Nat) : w.drew.drewN m = w.drewN (1 + m) := drewN_add w 1 m
theorem bs_none (w : World) : Bs w none 0 [] := ⟨rfl, by simp, .inl rfl⟩

theorem refDo_twin (T : Nat → Prop) (j : Nat) (st : St) (la : Option Addr) (ln lc : Nat) (rs : List FRef) (wa : Option Addr) (wn wc : Nat) (ws : List ARef) (armed : Int) (down : Bool) (deeds : Int) (r : ARef) (w : World) (h : Doc T w j st la ln lc rs wa wn wc ws armed down deeds) (hj : j ≤ 1000)
    (hok : okRun st.room st.last st.waits) (hroom : st.room ≤ 1073741824) (hr : r.inn w) (hrT : ∀ x, r.a = some x → 0 < r.n → T x.block) (k0 : 0 ≤ r.kind) (k8 : r.kind ≤ 8) (hrn : r.n ≤ 1000) :
    Calls Try.prog 12 #[refDisk (st.room : Int) la ln lc wa wn wc armed down deeds, r.val] w (DoEnd T j st r.act w) := by
  obtain ⟨hfs, has, hfl, htw, hfin, hain, hfew⟩ := h
  have hseen := htw.seen
  have hrun : canRun (rs.map FRef.file) (ws.map ARef.act) := by rw [hfl]; exact htw.run
  have hfold : foldF (rs.map FRef.file) (ws.map ARef.act) = seenF st := by rw [hfl, hseen]
  have hokF : okFiles st.room (seenF st) := hok.fold
  have hus : usedF (seenF st) ≤ 4294967296 := by have := hokF.2.2; omega
  have hln : (seenF st).length ≤ 64 := hokF.2.1
  have hwn : wn ≤ 1000 := by omega
  have hrz : r.zs.length = r.n := hr.1.2.2.2.1
  have hlow := htw.low
  have hmono : ∀ (w' : World) (i : Nat), T i → T i ∨ (w.heap.size ≤ i ∧ i < w'.heap.size) := fun _ _ => .inl
  -- nothing of the disk's files and calls has changed
  have stay : ∀ (w' : World) (st' : St) (armed' : Int) (down' : Bool) (deeds' : Int), Below w.heap.size w w' → st'.last = st.last → Twin (j + 1) st' (ws.map ARef.act) armed' down' deeds' → st'.deeds ≤ j + 1 → Doc (fun i => T i ∨ (w.heap.size ≤ i ∧ i < w'.heap.size)) w' (j + 1) st' la ln lc rs wa wn wc ws armed' down' deeds' := by
    intro w' st' armed' down' deeds' hb hl ht hd
    exact ⟨hfs.below hb (Nat.le_refl _), has.below hb (Nat.le_refl _), by rw [hl]; exact hfl, ht, hfin.mono (hmono w'), hain.mono (hmono w'), ⟨by omega, hd⟩⟩
  -- new files, no calls
  have fresh : ∀ (w' : World) (st' : St) (a : Option Addr) (n c : Nat) (rs' : List FRef) (armed' : Int) (down' : Bool) (deeds' : Int), Below w.heap.size w w' → Fs w' a n c rs' → rs'.map FRef.file = st'.last → From w rs rs' → ((a = la ∧ n = ln) ∨ ∃ x, a = some x ∧ w.heap.size ≤ x.block ∨ a = none) → Twin (j + 1) st' [] armed' down' deeds' → st'.deeds ≤ j + 1 → Doc (fun i => T i ∨ (w.heap.size ≤ i ∧ i < w'.heap.size)) w' (j + 1) st' a n c rs' none 0 0 [] armed' down' deeds' := by
    intro w' st' a n c rs' armed' down' deeds' hb hf hm hfr hal ht hd
    refine ⟨hf, ⟨rfl, Nat.le_refl _, by omega, fun _ => ⟨rfl, rfl⟩, .inl rfl, by simp⟩, hm, ht, hfin.from hfr hal hf (fun i => .inl) (fun i h1 h2 => .inr ⟨h1, h2⟩), ⟨fun x hx => (by cases hx), by simp⟩, ⟨by omega, hd⟩⟩
  have nob : ∀ x : Addr, (none : Option Addr) = some x → 0 < 0 → T x.block ∨ w.heap.size ≤ x.block := fun x hx => (by cases hx)
  by_cases k6 : r.kind = 6
  · refine (refDo_arm st.room la ln lc rs wa wn wc ws armed down deeds r w hfs has hrun hwn k6).mono ?_
    rintro e w' ⟨rfl, hb⟩
    have e1 : playE st r.act = 0 := by simp [playE, ARef.act, k6]
    have e2 : playB st r.act = [] := by simp [playB, ARef.act, k6]
    have e3 : playS st r.act = armF st r.num := by simp [playS, ARef.act, k6]
    unfold DoEnd
    rw [e1, e2, e3]
    exact ⟨_, _, _, rs, _, _, _, ws, _, _, _, none, 0, 0, rfl, bs_none _, nob, stay w' (armF st r.num) _ _ _ hb rfl (htw.arm r.num) (by show st.deeds ≤ _; omega), hb⟩
  by_cases k7 : r.kind = 7
  · have e1 : playE st r.act = 0 := by simp [playE, ARef.act, k7]
    have e2 : playB st r.act = [] := by simp [playB, ARef.act, k7]
    have e3 : playS st r.act = crashF st r.num r.torn := by simp [playS, ARef.act, k7]
    obtain ⟨hc1, hc2⟩ := htw.crash r.num r.torn (crash_ok hok hroom r.num r.torn)
    have hend : ∀ e w', (∃ a n c rs', e = .returned (.tuple #[refDisk (st.room : Int) a n c none 0 0 0 false deeds, .int .i64 0, .slice none 0 0]) ∧ Fs w' a n c rs' ∧ rs'.map FRef.file = foldF (rs.map FRef.file) (crashA (ws.map ARef.act) r.num r.torn) ∧ From w rs rs' ∧ ((a = la ∧ n = ln) ∨ ∃ x, a = some x ∧ w.heap.size ≤ x.block ∨ a = none) ∧ Below w.heap.size w w') → DoEnd T j st r.act w e w' := by
      rintro e w' ⟨a, n, c, rs', rfl, hf, hm, hfr, hal, hb⟩
      unfold DoEnd
      rw [e1, e2, e3]
      rw [hfl, ← hc1] at hm
      exact ⟨_, _, _, rs', _, _, _, [], _, _, _, none, 0, 0, rfl, bs_none _, nob, fresh w' _ a n c rs' _ _ _ hb hf hm hfr hal hc2 (by show st.deeds ≤ _; omega), hb⟩
    by_cases hq : ∃ q, ws[(cutZ r.num (wn : Int)).toNat]? = some q ∧ q.kind = 1
    · obtain ⟨q, hq1, hq2⟩ := hq
      exact (refDo_crash_torn st.room la ln lc rs wa wn wc ws armed down deeds r w hfs has hrun hwn k7 q hq1 hq2).mono hend
    · exact (refDo_crash_keep st.room la ln lc rs wa wn wc ws armed down deeds r w hfs has hrun hwn k7 (fun q h1 h2 => hq ⟨q, h1, h2⟩)).mono hend
  have hkk : 0 ≤ r.kind ∧ r.kind ≤ 8 ∧ r.kind ≠ 6 ∧ r.kind ≠ 7 := ⟨k0, k8, k6, k7⟩
  obtain ⟨W, hW⟩ : ∃ W, W = wrongR st.room down (seenF st) r.act := ⟨_, rfl⟩
  have hdn := htw.down_
  have hWr := hW
  rw [← hfold] at hW hus hln
  -- an error, and nothing has changed
  have hwrong : W ≠ 0 → playE st r.act = W → playB st r.act = [] → playS st r.act = st → Calls Try.prog 12 #[refDisk (st.room : Int) la ln lc wa wn wc armed down deeds, r.val] w (DoEnd T j st r.act w) := by
    intro h0 e1 e2 e3
    refine (refDo_wrong st.room la ln lc rs wa wn wc ws armed down deeds r w hfs has hrun hwn hkk hroom hrn hrz W hW hus hln h0).mono ?_
    rintro e w' ⟨rfl, hb⟩
    unfold DoEnd
    rw [e1, e2, e3]
    exact ⟨_, _, _, rs, _, _, _, ws, _, _, _, none, 0, 0, rfl, bs_none _, nob, stay w' st _ _ _ hb rfl htw.more (by omega), hb⟩
  -- it goes down
  have hdown : W = 0 → r.kind ≠ 8 → armed = 1 → playE st r.act = 3 → playB st r.act = [] → playS st r.act = { st with armed := 0, down := true } → Calls Try.prog 12 #[refDisk (st.room : Int) la ln lc wa wn wc armed down deeds, r.val] w (DoEnd T j st r.act w) := by
    intro h0 h8 h1 e1 e2 e3
    refine (refDo_down st.room la ln lc rs wa wn wc ws armed down deeds r w hfs has hrun hwn hkk hroom hrn hrz W hW hus hln h0 h8 h1).mono ?_
    rintro e w' ⟨rfl, hb⟩
    unfold DoEnd
    rw [e1, e2, e3]
    exact ⟨_, _, _, rs, _, _, _, ws, _, _, _, none, 0, 0, rfl, bs_none _, nob, stay w' { st with armed := 0, down := true } _ _ _ hb rfl htw.goDown (by show st.deeds ≤ _; omega), hb⟩
  have hdd : 0 ≤ deeds ∧ deeds ≤ 1000000 := by have := htw.count; omega
  have hau : armed ≤ 9223372036854775807 := by omega
  by_cases k5 : r.kind = 5
  · have e2 : playB st r.act = [] := by simp [playB, ARef.act, k5]
    have e1 : playE st r.act = syncE st := by simp [playE, ARef.act, k5]
    have e3 : playS st r.act = syncS st := by simp [playS, ARef.act, k5]
    cases hd : st.down with
    | true =>
      have hW3 : W = 3 := by rw [hWr, hdn, hd]; rfl
      exact hwrong (by omega) (by rw [e1, hW3]; simp [syncE, hd]) e2 (by rw [e3]; simp [syncS, hd])
    | false =>
      have hW0 : W = 0 := by rw [hWr, hdn, hd]; simp [wrongR, ARef.act, k5]
      have hone := htw.one hj hd
      by_cases ha : armed = 1
      · have hs1 := hone.1 ha
        exact hdown hW0 (by omega) ha (by rw [e1]; simp [syncE, hd, countE, hs1]) e2 (by rw [e3]; simp [syncS, hd, hs1, countF])
      · have hs1 : st.armed ≠ 1 := fun e => ha (hone.2 e)
        have f1 : playE st r.act = 0 := by rw [e1]; simp [syncE, hd, countE, hs1]
        have f3 : playS st r.act = settleF { st with armed := st.armed - 1, deeds := st.deeds + 1 } := by rw [e3]; simp [syncS, hd, hs1, countF]
        have ht := htw.sync hj hd ha
        rcases Int.lt_or_le 1 armed with h1 | h1
        · have hl : lessZ armed = armed - 1 := by unfold lessZ; rw [if_pos h1]
          rw [hl] at ht
          refine (refDo_sync_a st.room la ln lc rs wa wn wc ws armed down deeds r w hfs has hrun hwn hkk hroom hrn hrz W hW hus hln hW0 k5 h1 hau hdd).mono ?_
          rintro e w' ⟨a, n, c, rs', rfl, hf, hm, hfr, hal, hb⟩
          unfold DoEnd
          rw [f1, e2, f3]
          rw [hfold] at hm
          exact ⟨_, _, _, rs', _, _, _, [], _, _, _, none, 0, 0, rfl, bs_none _, nob, fresh w' _ a n c rs' _ _ _ hb hf hm hfr hal ht (by show st.deeds + 1 ≤ _; omega), hb⟩
        · have hl : lessZ armed = armed := by unfold lessZ; rw [if_neg (by omega)]
          rw [hl] at ht
          refine (refDo_sync_z st.room la ln lc rs wa wn wc ws armed down deeds r w hfs has hrun hwn hkk hroom hrn hrz W hW hus hln hW0 k5 (by omega) hau hdd).mono ?_
          rintro e w' ⟨a, n, c, rs', rfl, hf, hm, hfr, hal, hb⟩
          unfold DoEnd
          rw [f1, e2, f3]
          rw [hfold] at hm
          exact ⟨_, _, _, rs', _, _, _, [], _, _, _, none, 0, 0, rfl, bs_none _, nob, fresh w' _ a n c rs' _ _ _ hb hf hm hfr hal ht (by show st.deeds + 1 ≤ _; omega), hb⟩
  by_cases kk8 : r.kind = 8
  · have e1 : playE st r.act = readE st r.name.toList := by simp [playE, ARef.act, kk8]
    have e3 : playS st r.act = st := by simp [playS, ARef.act, kk8]
    have e2 : playB st r.act = readB st r.name.toList := by simp [playB, ARef.act, kk8]
    have hWE : W = readE st r.name.toList := by
      rw [hWr, hdn]
      unfold wrongR readE wrongL
      simp only [ARef.act, kk8]
      cases st.down <;> cases hb : badN r.name.toList <;> cases hg : (getG (seenF st) r.name.toList).isSome <;> simp
    by_cases h0 : W = 0
    · have hg : (getG (seenF st) r.name.toList).isSome = true := by
        rw [hWE] at h0
        unfold readE at h0
        cases hg : (getG (seenF st) r.name.toList).isSome with
        | true => rfl
        | false =>
          rw [hg] at h0
          split at h0
          · omega
          · split at h0
            · omega
            · simp at h0
      have hfd : (findF (foldF (rs.map FRef.file) (ws.map ARef.act)) r.name.toList).isSome = true := by rw [hfold, find_get]; exact hg
      refine (refDo_read st.room la ln lc rs wa wn wc ws armed down deeds r w hfs has hrun hwn hkk hroom hrn hrz W hW hus hln h0 kk8 hfd).mono ?_
      rintro e w' ⟨a, n, c, rfl, hbs, hb, hwh⟩
      unfold DoEnd
      have f2 : readB st r.name.toList = bytesF (seenF st) r.name.toList := by unfold readB; rw [← hWE, if_pos h0]
      rw [e1, ← hWE, h0, e2, f2, e3]
      rw [hfold] at hbs
      refine ⟨_, _, _, rs, _, _, _, ws, _, _, _, a, n, c, rfl, hbs, fun x hx hn => ?_, stay w' st _ _ _ hb rfl htw.more (by omega), hb⟩
      rcases hwh with ⟨q, hq, h1, h2⟩ | h1 | ⟨y, h1, h2⟩
      · exact .inl (hfin.2 q hq x (by rw [← h1]; exact hx) (by omega))
      · rw [hx] at h1; cases h1
      · rw [hx] at h1; cases h1; exact .inr h2
    · exact hwrong h0 (by rw [e1, hWE]) (by rw [e2]; unfold readB; rw [← hWE, if_neg h0]) e3
  have k4 : r.kind < 5 := by omega
  have hdeed : IsDeed r.act := ⟨k0, by show r.kind ≤ 4; omega⟩
  have e2 : playB st r.act = [] := by unfold playB; rw [if_neg (by show ¬ r.kind = 8; omega)]
  have e1 : playE st r.act = doE st (deedA r.act) := by unfold playE; rw [if_pos (by show r.kind < 5; omega)]
  have e3 : playS st r.act = doS st (deedA r.act) := by unfold playS; rw [if_pos (by show r.kind < 5; omega)]
  have hWF : wrongF st (deedA r.act) = W := by
    cases hd : st.down with
    | true => rw [hWr, hdn, hd]; unfold wrongF wrongR; rw [hd]; rfl
    | false =>
      rw [wrong_up hd, wrong_deed hdeed, hWr, hdn, hd]
      unfold wrongR
      rw [if_neg (by simp), if_neg (by show ¬ r.kind = 5; omega)]
  by_cases h0 : W = 0
  · have hd : st.down = false := by
      cases hd : st.down with
      | false => rfl
      | true =>
        rw [hWr, hdn, hd] at h0
        unfold wrongR at h0
        simp at h0
    have hone := htw.one hj hd
    have hdoE : doE st (deedA r.act) = countE st := by unfold doE; rw [if_pos (by rw [hWF]; exact h0)]
    have hdoS : doS st (deedA r.act) = waitF st (deedA r.act) := by unfold doS; rw [if_pos (by rw [hWF]; exact h0)]
    by_cases ha : armed = 1
    · have hs1 := hone.1 ha
      exact hdown h0 kk8 ha (by rw [e1, hdoE]; simp [countE, hs1]) e2 (by rw [e3, hdoS]; unfold waitF; rw [if_pos hs1])
    · have hs1 : st.armed ≠ 1 := fun e => ha (hone.2 e)
      have f1 : playE st r.act = 0 := by rw [e1, hdoE]; simp [countE, hs1]
      have f3 : playS st r.act = { st with armed := st.armed - 1, deeds := st.deeds + 1, waits := st.waits ++ [deedA r.act] } := by rw [e3, hdoS]; unfold waitF; rw [if_neg hs1]
      have hwl : wrongL st.room (seenF st) r.act = 0 := by
        have := hWF
        rw [wrong_up hd, wrong_deed hdeed, h0] at this
        exact this
      have hto : (deedA r.act).kind = 3 ∨ (deedA r.act).to = [] := by
        rcases deed_cases hdeed with e | e | e | e | e <;> simp [deedA, e]
      obtain ⟨_, hok2⟩ := ok_of_right hokF hroom (a := deedA r.act) (by rw [kind_deed hdeed]; exact hdeed.1) (by rw [kind_deed hdeed]; exact hdeed.2) hto (by rw [hWF]; exact h0)
      rw [done_deed hdeed] at hok2
      have ht := htw.deed hj hd ha hdeed hwl (by show r.zs.length ≤ _; omega) ⟨by have := hok2.2.2; omega, hok2.2.1⟩
      have hend : ∀ (armed' : Int), armed' = lessZ armed → ∀ e w', (∃ a c, e = .returned (.tuple #[refDisk (st.room : Int) la ln lc a (wn + 1) c armed' down (deeds + 1), .int .i64 0, .slice none 0 0]) ∧ As w' a (wn + 1) c (ws ++ [r]) ∧ (∀ x, a = some x → w.heap.size ≤ x.block) ∧ Below w.heap.size w w') → DoEnd T j st r.act w e w' := by
        rintro armed' harm e w' ⟨a, c, rfl, hA, hx, hb⟩
        unfold DoEnd
        rw [f1, e2, f3, harm]
        refine ⟨_, _, _, rs, _, _, _, ws ++ [r], _, _, _, none, 0, 0, rfl, bs_none _, nob, ⟨hfs.below hb (Nat.le_refl _), hA, hfl, ?_, hfin.mono (hmono w'), ⟨fun x e hn => .inr ⟨hx x e, ?_⟩, fun q hq x e hn => ?_⟩, ⟨by omega, by show st.deeds + 1 ≤ _; omega⟩⟩, hb⟩
        · rw [List.map_append]; exact ht
        · rcases hA.2.2.2.2.1 with h5 | ⟨b, off, h5, h6, _⟩
          · exfalso
            have h6 := congrArg List.length h5
            rw [acells_length] at h6
            simp at h6
          · rw [e] at h5; cases h5; exact h6
        · rcases List.mem_append.1 hq with h5 | h5
          · exact .inl (hain.2 q h5 x e hn)
          · have h6 : q = r := by simpa using h5
            rw [h6] at e hn
            exact .inl (hrT x e hn)
      rcases Int.lt_or_le 1 armed with h1 | h1
      · exact (refDo_deed_a st.room la ln lc rs wa wn wc ws armed down deeds r w hfs has hrun hwn hkk hroom hrn hrz W hW hus hln h0 k4 hr h1 hau hdd).mono (hend (armed - 1) (by unfold lessZ; rw [if_pos h1]))
      · exact (refDo_deed_z st.room la ln lc rs wa wn wc ws armed down deeds r w hfs has hrun hwn hkk hroom hrn hrz W hW hus hln h0 k4 hr (by omega) hau hdd).mono (hend armed (by unfold lessZ; rw [if_neg (by omega)]))
  · exact hwrong h0 (by rw [e1]; unfold doE; rw [hWF, if_neg h0]) e2 (by rw [e3]; unfold doS; rw [hWF, if_neg h0])

theorem play_room (st : St) (a : ActL) : (playS st a).room = st.room := by
  unfold playS doS waitF syncS settleF countF armF crashF
  repeat' split
  all_goals rfl
theorem good_play {st : St} (h : Good st) (a : ActL) : Good (playS st a) := by
  unfold playS
  split
  · exact good_do h _
  · split
    · exact good_sync h
    · split
      · exact h
      · split
        · exact good_crash h _ _
        · exact h

/-- What the call of Do leaves where its results were put: the new disk in a box, the error, the bytes. -/
def DoB (rm E : Int) (T : Nat → Prop) (j : Nat) (st : St) (a : ActL) (w : World) (x y z : Value) (wz : World) : Prop :=
  ∃ g la ln lc rs wa wn wc ws armed down deeds b bn bc, x = .pointer (some ⟨g, 0, none⟩) ∧ w.heap.size ≤ g ∧ g < wz.heap.size ∧ wz.heap[g]? = some (.cells #[.int .i64 rm, .slice la ln lc, .slice wa wn wc, .int .i64 armed, .bool down, .int .i64 deeds] 31 (0, 0)) ∧
    y = .int .i64 E ∧ z = .slice b bn bc ∧ Bs wz b bn (playB st a) ∧ (∀ x, b = some x → 0 < bn → T x.block ∨ (w.heap.size ≤ x.block ∧ x.block < wz.heap.size)) ∧
    Doc (fun i => T i ∨ (w.heap.size ≤ i ∧ i < wz.heap.size)) wz (j + 1) (playS st a) la ln lc rs wa wn wc ws armed down deeds ∧ Below w.heap.size w wz

theorem bs_lt {w : World} {a : Option Addr} {n : Nat} {zs : List Int} (h : Bs w a n zs) {x : Addr} (hx : a = some x) (hn : 0 < n) : x.block < w.heap.size := by
  rcases h.2.2 with e | ⟨b, off, ha, hl, _⟩
  · omega
  · rw [hx] at ha; cases ha; exact hl
theorem Doc.mono {T T' : Nat → Prop} {w : World} {j : Nat} {st : St} {la : Option Addr} {ln lc : Nat} {rs : List FRef} {wa : Option Addr} {wn wc : Nat} {ws : List ARef} {armed : Int} {down : Bool} {deeds : Int} (h : Doc T w j st la ln lc rs wa wn wc ws armed down deeds) (ht : ∀ i, T i → T' i) : Doc T' w j st la ln lc rs wa wn wc ws armed down deeds :=
  ⟨h.fs, h.acts, h.files, h.twin, h.fin.mono ht, h.ain.mono ht, h.few⟩
theorem Doc.below {T : Nat → Prop} {w w' : World} {j : Nat} {st : St} {la : Option Addr} {ln lc : Nat} {rs : List FRef} {wa : Option Addr} {wn wc : Nat} {ws : List ARef} {armed : Int} {down : Bool} {deeds : Int} (h : Doc T w j st la ln lc rs wa wn wc ws armed down deeds) (hb : Below w.heap.size w w') : Doc T w' j st la ln lc rs wa wn wc ws armed down deeds :=
  ⟨h.fs.below hb (Nat.le_refl _), h.acts.below hb (Nat.le_refl _), h.files, h.twin, h.fin, h.ain, h.few⟩
theorem Doc.kp {T S : Nat → Prop} {w w' : World} {j : Nat} {st : St} {la : Option Addr} {ln lc : Nat} {rs : List FRef} {wa : Option Addr} {wn wc : Nat} {ws : List ARef} {armed : Int} {down : Bool} {deeds : Int} (h : Doc T w j st la ln lc rs wa wn wc ws armed down deeds) (hk : Kp S w w') (hn : ∀ i, T i → ¬ S i) : Doc T w' j st la ln lc rs wa wn wc ws armed down deeds :=
  ⟨h.fs.kp hk (h.fin.mono hn), h.acts.kp hk (h.ain.mono hn), h.files, h.twin, h.fin, h.ain, h.few⟩

/-- The box was made behind the call. -/
theorem dob_one {rm E : Int} {T : Nat → Prop} {j : Nat} {st : St} {a : ActL} {w w5 : World} {la : Option Addr} {ln lc : Nat} {rs : List FRef} {wa : Option Addr} {wn wc : Nat} {ws : List ARef} {armed : Int} {down : Bool} {deeds : Int} {b : Option Addr} {bn bc : Nat} (hbs : Bs w5 b bn (playB st a)) (hbt : ∀ x, b = some x → 0 < bn → T x.block ∨ w.heap.size ≤ x.block)
    (hD : Doc (fun i => T i ∨ (w.heap.size ≤ i ∧ i < w5.heap.size)) w5 (j + 1) (playS st a) la ln lc rs wa wn wc ws armed down deeds) (hb : Below w.heap.size w w5) :
    DoB rm E T j st a w (.pointer (some ⟨w5.heap.size, 0, none⟩)) (.int .i64 E) (.slice b bn bc) (w5.alloc (.cells #[.int .i64 rm, .slice la ln lc, .slice wa wn wc, .int .i64 armed, .bool down, .int .i64 deeds] 31)) := by
  obtain ⟨o, ho⟩ : ∃ o : Obj, o = .cells #[.int .i64 rm, .slice la ln lc, .slice wa wn wc, .int .i64 armed, .bool down, .int .i64 deeds] 31 := ⟨_, rfl⟩
  have h1 : Below w5.heap.size w5 (w5.alloc o) := (Below.refl _ _).alloc (Nat.le_refl _) o
  have h2 : (w5.alloc o).heap.size = w5.heap.size + 1 := by simp
  have hsz := hb.size
  rw [← ho]
  refine ⟨w5.heap.size, la, ln, lc, rs, wa, wn, wc, ws, armed, down, deeds, b, bn, bc, rfl, hsz, by omega, by rw [ho]; exact World.alloc_heap_new _ _, rfl, rfl, hbs.below h1 (Nat.le_refl _), fun x hx hn => ?_, (hD.below h1).mono (fun i hi => ?_), hb.trans (h1.mono hsz)⟩
  · have := bs_lt hbs hx hn
    rcases hbt x hx hn with e | e
    · exact .inl e
    · exact .inr ⟨e, by omega⟩
  · rcases hi with e | e
    · exact .inl e
    · exact .inr (by omega)
/-- The box was made ahead of the call. -/
theorem dob_two {rm E : Int} {T : Nat → Prop} {j : Nat} {st : St} {a : ActL} {w w5 : World} {la : Option Addr} {ln lc : Nat} {rs : List FRef} {wa : Option Addr} {wn wc : Nat} {ws : List ARef} {armed : Int} {down : Bool} {deeds : Int} {b : Option Addr} {bn bc : Nat} {Z : Obj} (hT : ∀ i, T i → i < w.heap.size) (hbs : Bs w5 b bn (playB st a)) (hbt : ∀ x, b = some x → 0 < bn → T x.block ∨ (w.alloc Z).drew.heap.size ≤ x.block)
    (hD : Doc (fun i => T i ∨ ((w.alloc Z).drew.heap.size ≤ i ∧ i < w5.heap.size)) w5 (j + 1) (playS st a) la ln lc rs wa wn wc ws armed down deeds) (hb : Below (w.alloc Z).drew.heap.size (w.alloc Z).drew w5)
    {a0 b0 c0 d0 e0 f0 : Value} (hg : w5.heap[w.heap.size]? = some (.cells #[a0, b0, c0, d0, e0, f0] 31 (0, 0))) :
    DoB rm E T j st a w (.pointer (some ⟨w.heap.size, 0, none⟩)) (.int .i64 E) (.slice b bn bc) ((((((w5.setCell ⟨w.heap.size, 0, none⟩ (.int .i64 rm)).setCell ⟨w.heap.size, 1, none⟩ (.slice la ln lc)).setCell ⟨w.heap.size, 2, none⟩ (.slice wa wn wc)).setCell ⟨w.heap.size, 3, none⟩ (.int .i64 armed)).setCell ⟨w.heap.size, 4, none⟩ (.bool down)).setCell ⟨w.heap.size, 5, none⟩ (.int .i64 deeds)) := by
  obtain ⟨wp, hwp⟩ : ∃ wp, wp = put6 w5 w.heap.size (.int .i64 rm) (.slice la ln lc) (.slice wa wn wc) (.int .i64 armed) (.bool down) (.int .i64 deeds) := ⟨_, rfl⟩
  have h1 := six_block hg (.int .i64 rm) (.slice la ln lc) (.slice wa wn wc) (.int .i64 armed) (.bool down) (.int .i64 deeds)
  have h2 := six_kp (Kp.refl (fun i => i = w.heap.size) w5) rfl (.int .i64 rm) (.slice la ln lc) (.slice wa wn wc) (.int .i64 armed) (.bool down) (.int .i64 deeds)
  have hs1 : (w.alloc Z).drew.heap.size = w.heap.size + 1 := by show (w.alloc Z).heap.size = _; simp
  have hbw : Below w.heap.size w (w.alloc Z).drew := ((Below.refl _ _).alloc (Nat.le_refl _) Z).drew
  have h3 := six_below (hbw.trans (hb.mono (by omega))) (Nat.le_refl w.heap.size) (.int .i64 rm) (.slice la ln lc) (.slice wa wn wc) (.int .i64 armed) (.bool down) (.int .i64 deeds)
  have hsz := hb.size
  rw [← hwp] at h1 h2 h3
  have hs2 := h2.size
  show DoB rm E T j st a w _ _ _ (put6 w5 w.heap.size _ _ _ _ _ _)
  rw [← hwp]
  have hap : ∀ i, (T i ∨ ((w.alloc Z).drew.heap.size ≤ i ∧ i < w5.heap.size)) → ¬ i = w.heap.size := fun i hi e => by
    rcases hi with h | h
    · have := hT i h; omega
    · omega
  refine ⟨w.heap.size, la, ln, lc, rs, wa, wn, wc, ws, armed, down, deeds, b, bn, bc, rfl, Nat.le_refl _, by omega, h1, rfl, rfl, bs_kp hbs h2 (fun x hx hn e => ?_), fun x hx hn => ?_, (hD.kp h2 hap).mono (fun i hi => ?_), h3⟩
  · rcases hbt x hx hn with h | h
    · have := hT _ h; omega
    · omega
  · have := bs_lt hbs hx hn
    rcases hbt x hx hn with h | h
    · exact .inl h
    · exact .inr (by omega)
  · rcases hi with h | h
    · exact .inl h
    · exact .inr (by omega)
end Go.Proofs.Ytngkapddobgfaaa
