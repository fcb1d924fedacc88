/-
  What the document's Done returns: a deed on files.
-/
import Derived.Test.YtngkapddobgfaaaDiskPut
import Derived.Test.YtngkapddobgfaaaLawRows
import Derived.Test.YtngkapddobgfaaaRegionBytes
namespace Go.Proofs.Ytngkapddobgfaaa
open Go.RowKit
set_option linter.unusedVariables false

/-- A call as it lies in memory. -/
structure ARef where
  kind : Int
  name : ByteArray
  to : ByteArray
  a : Option Addr
  n : Nat
  c : Nat
  zs : List Int
  num : Int
  torn : Int

/-- A call. -/
structure ActL where
  kind : Int
  name : List UInt8
  to : List UInt8
  b : List Int
  num : Int
  torn : Int

def ARef.act (r : ARef) : ActL := ⟨r.kind, r.name.toList, r.to.toList, r.zs, r.num, r.torn⟩
def ARef.cells (r : ARef) : List Value := [.int .i64 r.kind, .string r.name, .string r.to, .slice r.a r.n r.c, .int .i64 r.num, .int .i64 r.torn]
def ARef.ok (w : World) (r : ARef) : Prop := (r.a = none → r.n = 0 ∧ r.c = 0) ∧ r.n ≤ r.c ∧ r.c ≤ maxLen ∧ Bs w r.a r.n r.zs
theorem ARef.ok.below {B : Nat} {w w' : World} {r : ARef} (h : r.ok w) (hb : Below B w w') (hB : w.heap.size ≤ B) : r.ok w' :=
  ⟨h.1, h.2.1, h.2.2.1, h.2.2.2.below hb hB⟩

/-- The bytes of a file's name; none where there is no such file. -/
def bytesF (fs : List FileL) (name : List UInt8) : List Int := match findF fs name with | some i => (fs.getD i ([], [])).2 | none => []

/-- A deed on files. -/
def doneF (fs : List FileL) (a : ActL) : List FileL :=
  if a.kind = 0 then putF fs (a.name, [])
  else if a.kind = 1 then putF fs (a.name, bytesF fs a.name ++ a.b)
  else if a.kind = 2 then putF fs (a.name, (bytesF fs a.name).take a.num.toNat)
  else if a.kind = 3 then putF (dropF fs a.name) (a.to, bytesF fs a.name)
  else dropF fs a.name

/-- A deed that can be done. -/
def canF (fs : List FileL) (a : ActL) : Prop :=
  (a.kind = 1 ∨ a.kind = 2 ∨ a.kind = 3 → (findF fs a.name).isSome = true) ∧ (a.kind = 2 → 0 ≤ a.num ∧ a.num ≤ (bytesF fs a.name).length)

theorem findZ_some {fs : List FileL} {name : List UInt8} (h : (findF fs name).isSome = true) : ∃ i, findF fs name = some i ∧ findZ fs name = (i : Int) ∧ i < fs.length := by
  obtain ⟨i, hi⟩ := Option.isSome_iff_exists.1 h
  refine ⟨i, hi, by simp [findZ, hi], ?_⟩
  unfold findF at hi
  rw [List.findIdx?_eq_some_iff_getElem] at hi
  exact hi.1

theorem OwnF.len {w : World} {base : Nat} {v : Value} {rs : List FRef} (h : OwnF w base v rs) (m : Nat) (hm : rs.length ≤ m) : rs.length ≤ m := hm

/-- What is held while a deed's statement is carried out, in whatever order. -/
def HeldD (w w1 : World) (bb o : Nat) (r : ARef) (num : Int) (g : FRef) (w' : World) : Prop :=
  w'.cell? ⟨w.heap.size, 1, none⟩ = some (.string r.name) ∧ w'.cell? ⟨w.heap.size, 2, none⟩ = some (.string r.to) ∧ w'.cell? ⟨w.heap.size, 3, none⟩ = some (.slice r.a r.n r.c) ∧ w'.cell? ⟨w.heap.size, 4, none⟩ = some (.int .i64 num) ∧ w'.cell? ⟨bb, o, none⟩ = some (.slice g.a g.n g.c) ∧ Below w1.heap.size w1 w'

theorem HeldD.of {w w1 w' : World} {bb o : Nat} {r : ARef} {num : Int} {g : FRef} (h : HeldD w w1 bb o r num g w1) (h1 : w.heap.size < w1.heap.size) (h2 : bb < w1.heap.size) (hb : Below w1.heap.size w1 w') : HeldD w w1 bb o r num g w' :=
  ⟨by rw [hb.cell h1]; exact h.1, by rw [hb.cell h1]; exact h.2.1, by rw [hb.cell h1]; exact h.2.2.1, by rw [hb.cell h1]; exact h.2.2.2.1, by rw [hb.cell h2]; exact h.2.2.2.2.1, hb⟩

theorem Own.bsAny {w : World} {base : Nat} {a : Option Addr} {n c : Nat} {zs : List Int} (h : Own w base (.slice a n c) zs) (hn : n = zs.length) : Bs w a n zs := by
  subst hn
  obtain ⟨a', c', e1, e2, e3, e4⟩ := h.slice
  cases e1
  exact e4

/-- Where the files' bytes come from. -/
def From (w : World) (rs rs' : List FRef) : Prop := ∀ r' ∈ rs', (∃ q ∈ rs, r'.a = q.a ∧ r'.n ≤ q.n) ∨ r'.a = none ∨ ∃ x, r'.a = some x ∧ w.heap.size ≤ x.block
theorem From.sub (w : World) {rs rs' : List FRef} (h : ∀ r' ∈ rs', r' ∈ rs) : From w rs rs' := fun r' hr => .inl ⟨r', h r' hr, rfl, Nat.le_refl _⟩

theorem info_u8d : (Try.prog.info? 5).map (fun i => (i.zero, i.size, i.bytes)) = some (some (.int .u8 0), 1, 1) := by kernel_rfl

set_option maxRecDepth 100000 in
set_option maxHeartbeats 2000000 in
theorem refDone_any (a : Option Addr) (n c : Nat) (rs : List FRef) (r : ARef) (w : World) (h : Fs w a n c rs) (hr : r.ok w) (hn : n ≤ 800) (hcan : canF (rs.map FRef.file) r.act) (hu : usedF (rs.map FRef.file) ≤ 4294967296) (hb : r.n ≤ 4294967296) :
    Calls Try.prog 34 #[.slice a n c, .agg #[.int .i64 r.kind, .string r.name, .string r.to, .slice r.a r.n r.c, .int .i64 r.num, .int .i64 r.torn]] w fun e w' => ∃ v rs', e = .returned v ∧ OwnF w' w.heap.size v rs' ∧ rs'.map FRef.file = doneF (rs.map FRef.file) r.act ∧ rs'.length ≤ n + 1 ∧ Below w.heap.size w w' ∧ From w rs rs' := by
  have hb0 : Below w.heap.size w (w.alloc (.cells r.cells.toArray 36)) := (Below.refl _ _).alloc (Nat.le_refl _) _
  obtain ⟨w0, hw0⟩ : ∃ w0, w0 = w.alloc (.cells r.cells.toArray 36) := ⟨_, rfl⟩
  rw [← hw0] at hb0
  have hsz0 : w.heap.size < w0.heap.size := by rw [hw0]; simp
  have b0 : w0.cell? ⟨w.heap.size, 0, none⟩ = some (.int .i64 r.kind) := by rw [hw0]; simp [ARef.cells]
  have b1 : w0.cell? ⟨w.heap.size, 1, none⟩ = some (.string r.name) := by rw [hw0]; simp [ARef.cells]
  have b2 : w0.cell? ⟨w.heap.size, 2, none⟩ = some (.string r.to) := by rw [hw0]; simp [ARef.cells]
  have b3 : w0.cell? ⟨w.heap.size, 3, none⟩ = some (.slice r.a r.n r.c) := by rw [hw0]; simp [ARef.cells]
  have b4 : w0.cell? ⟨w.heap.size, 4, none⟩ = some (.int .i64 r.num) := by rw [hw0]; simp [ARef.cells]
  have fs0 := h.below hb0 (Nat.le_refl _)
  have hr0 := hr.below hb0 (Nat.le_refl _)
  go_enter Try.func34, Try.ntmps34
  have hw0' : w.alloc (.cells #[.int .i64 r.kind, .string r.name, .string r.to, .slice r.a r.n r.c, .int .i64 r.num, .int .i64 r.torn] 36) = w0 := hw0.symm
  clear hw0
  go_wp2_with fail
  refine (refFind_any a n c rs r.name w0 fs0 (by omega)).mono ?_
  rintro e w1 ⟨rfl, rfl⟩
  have HN : Hid (n = rs.length) := h.1
  by_cases k0 : r.kind = 0
  · have q0 : (r.kind == 0) = true := by simpa using k0
    obtain ⟨f, hf⟩ : ∃ f : FRef, f = ⟨r.name, none, 0, 0, []⟩ := ⟨_, rfl⟩
    have okf : f.ok w1 := by rw [hf]; exact ⟨fun _ => ⟨rfl, rfl⟩, Nat.le_refl _, by simp, Bs.empty _ _⟩
    have hput := refPut_any a n c rs f w1 fs0 okf (by omega)
    rw [hf] at hput
    have HE : Hid (doneF (rs.map FRef.file) r.act = putF (rs.map FRef.file) (r.name.toList, [])) := by
      unfold doneF; rw [if_pos (show r.act.kind = 0 from k0)]; exact rfl
    have HP := hput
    clear hput hf okf
    go_wp2_with fail
    refine HP.mono ?_
    rintro e w2 ⟨v, rs', rfl, ho, hm, hl, hb2, hpv⟩
    go_wp2
    go_ret
    exact ⟨_, rs', rfl, ho.mono (by omega), by rw [HE.out]; exact hm, hl, hb0.trans (hb2.mono hb0.size), fun r' hr' => by
      rcases hpv r' hr' with h1 | h1
      · exact .inl ⟨r', h1, rfl, Nat.le_refl _⟩
      · rw [h1]; exact .inr (.inl rfl)⟩
  have q0 : (r.kind == 0) = false := by simpa using k0
  by_cases k123 : r.kind = 1 ∨ r.kind = 2 ∨ r.kind = 3
  · obtain ⟨i, hi, hz, hil⟩ := findZ_some (hcan.1 k123)
    rw [List.length_map, ← h.1] at hil
    obtain ⟨bb, off, g, rfl, hg, hgo, d1, d2⟩ := fs0.at hil
    have hblk : bb < w1.heap.size := World.block_lt_of_cell? w1 _ d1
    have hbytes : bytesF (rs.map FRef.file) r.name.toList = g.zs := by
      unfold bytesF
      rw [show findF (rs.map FRef.file) r.name.toList = some i from hi]
      simp [List.getD_eq_getElem?_getD, List.getElem?_map, hg, FRef.file]
    have hgn : g.n ≤ 4294967296 := by
      have e := usedF_take_succ (rs.map FRef.file) i g.file (by rw [List.getElem?_map, hg]; rfl)
      have e2 := usedF_take_le (rs.map FRef.file) (i + 1)
      have e3 := hgo.2.2.2.1
      have e4 : g.file.2.length = g.n := e3
      omega
    rw [show findZ (rs.map FRef.file) r.name.toList = (i : Int) from hz]
    have HG : Hid (bytesF (rs.map FRef.file) r.name.toList = g.zs) := hbytes
    have k1 : (i : Int) < (n : Int) := by omega
    have HGM : Hid (g ∈ rs) := List.mem_of_getElem? hg
    clear hi hz hg hbytes
    by_cases kk1 : r.kind = 1
    · have q1 : (r.kind == 1) = true := by simpa using kk1
      have HE : Hid (doneF (rs.map FRef.file) r.act = putF (rs.map FRef.file) (r.name.toList, g.zs ++ r.zs)) := by
        unfold doneF; rw [if_neg (show ¬ r.act.kind = 0 from k0), if_pos (show r.act.kind = 1 from kk1), ← HG.out]; exact rfl
      have ho1 : Own (w1.alloc (.cells #[] 5)).drew w1.heap.size (.slice (some ⟨w1.heap.size, 0, none⟩) 0 0) [] := (own_new0 w1 w1.heap.size (Nat.le_refl _)).drewN 1
      have hbn : Below w1.heap.size w1 (w1.alloc (.cells #[] 5)).drew := ((Below.refl _ _).alloc (Nat.le_refl _) _).drew
      have bsg := hgo.2.2.2.below hbn (Nat.le_refl _)
      have hgz : g.zs.length = g.n := hgo.2.2.2.1
      have hrz : r.zs.length = r.n := hr0.2.2.2.1
      have HG2 : Hid (g.zs.length = g.n ∧ r.zs.length = r.n) := ⟨hgz, hrz⟩
      have hkeep : Hid (∀ w', Below w1.heap.size w1 w' → HeldD w w1 bb (off + i * 2 + 1) r r.num g w') := fun w' h => HeldD.of ⟨b1, b2, b3, b4, d2, Below.refl _ _⟩ hsz0 hblk h
      have hS0 : HeldD w w1 bb (off + i * 2 + 1) r r.num g w1.drew := hkeep.out _ (Below.refl _ _).drew
      have hSa : HeldD w w1 bb (off + i * 2 + 1) r r.num g (w1.alloc (.cells #[] 5)).drew := hkeep.out _ hbn
      have q63 : g.zs.length + r.n ≤ 140737488355328 := by omega
      have q62 : ([] : List Int).length + g.n ≤ 140737488355328 := by simp; omega
      have HB : Hid (∀ w', Below w1.heap.size w1 w' → Bs w' r.a r.n r.zs) := fun w' h => hr0.2.2.2.below h (Nat.le_refl _)
      obtain ⟨G, hG⟩ : ∃ G, g.zs ++ r.zs = G := ⟨_, rfl⟩
      obtain ⟨M, hM⟩ : ∃ M, G.length = M := ⟨_, rfl⟩
      have HE2 : Hid (doneF (rs.map FRef.file) r.act = putF (rs.map FRef.file) (r.name.toList, G)) := by rw [← hG]; exact HE.out
      have HGG : Hid (g.zs ++ r.zs = G ∧ G.length = M) := ⟨hG, hM⟩
      have HPut : Hid (∀ a3 c3 w3, (a3 = none → M = 0 ∧ c3 = 0) → M ≤ c3 → c3 ≤ maxLen → Bs w3 a3 M G → Below w1.heap.size w1 w3 → Calls Try.prog 48 #[.slice (some ⟨bb, off, none⟩) n c, .agg #[.string r.name, .slice a3 M c3]] w3 fun e w' => ∃ v rs', e = .returned v ∧ OwnF w' w3.heap.size v rs' ∧ rs'.map FRef.file = putF (rs.map FRef.file) (r.name.toList, G) ∧ rs'.length ≤ n + 1 ∧ Below w3.heap.size w3 w' ∧ ∀ r' ∈ rs', r' ∈ rs ∨ r' = ⟨r.name, a3, M, c3, G⟩) := fun a3 c3 w3 x3 x1 x2 bs3 hb3 =>
        refPut_any (some ⟨bb, off, none⟩) n c rs ⟨r.name, a3, M, c3, G⟩ w3 (fs0.below hb3 (Nat.le_refl _)) ⟨x3, x1, x2, bs3⟩ (by omega)
      clear hG hM HE
      clear hgz hrz
      go_wp2_with fail
      go_region_held3 (fun w' => w'.cell? ⟨w.heap.size, 1, none⟩ = some (.string r.name) ∧ w'.cell? ⟨w.heap.size, 2, none⟩ = some (.string r.to) ∧ w'.cell? ⟨w.heap.size, 3, none⟩ = some (.slice r.a r.n r.c) ∧ w'.cell? ⟨w.heap.size, 4, none⟩ = some (.int .i64 r.num) ∧ w'.cell? ⟨bb, off + i * 2 + 1, none⟩ = some (.slice g.a g.n g.c) ∧ Below w1.heap.size w1 w') (first | exact hS0 | exact hSa | exact hS1 | exact hS2 | exact hS3)
        (first
          | (refine step_append_bytes _ rfl _ _ rfl w1.heap.size Try.underlying32 info_u8d _ [] rfl ho1 g.a g.n g.c g.zs rfl hgo.1 bsg q62 hbn.size ?_; intro v2 w2 ho2' hg2; have ho2 : Own w2 w1.heap.size v2 g.zs := (by simpa using ho2'); have hb2 : Below w1.heap.size w1 w2 := hbn.trans (Below.of_grown ho1 hg2 hbn.size); have hS1 : HeldD w w1 bb (off + i * 2 + 1) r r.num g w2 := hkeep.out _ hb2; dsimp only)
          | (refine step_append_bytes _ rfl _ _ rfl w1.heap.size Try.underlying32 info_u8d _ g.zs rfl ho2 r.a r.n r.c r.zs rfl hr0.1 (HB.out _ hb2) q63 hb2.size ?_; intro v3 w3 ho3 hg3; have hb3 : Below w1.heap.size w1 w3 := hb2.trans (Below.of_grown ho2 hg3 hb2.size); have hS2 : HeldD w w1 bb (off + i * 2 + 1) r r.num g w3 := hkeep.out _ hb3; rw [HGG.out.1] at ho3; have ho3c := ho3.1; rw [HGG.out.2] at ho3c; obtain ⟨a3, c3, rfl, x1, x2, x3, x4⟩ := ownsRow_cs ho3c; have bs3 := ho3.bsAny HGG.out.2.symm; dsimp only)
          | (go_at_call 48; refine (HPut.out a3 c3 w3 x3 x1 x2 bs3 hb3).mono ?_; rintro e w4 ⟨v, rs', rfl, ho, hm, hl, hb4, hpv⟩; have hb4' : Below w1.heap.size w1 w4 := hb3.trans (hb4.mono hb3.size); have hS3 : HeldD w w1 bb (off + i * 2 + 1) r r.num g w4 := hkeep.out _ hb4'; dsimp only))
      all_goals go_wp2
      all_goals go_ret
      all_goals exact ⟨_, rs', rfl, ho.mono (Nat.le_trans hb0.size hb3.size), by rw [HE2.out]; exact hm, hl, hb0.trans (hb4'.mono hb0.size), fun r' hr' => by
        rcases hpv r' hr' with h1 | h1
        · exact .inl ⟨r', h1, rfl, Nat.le_refl _⟩
        · rw [h1]
          cases a3 with
          | none => exact .inr (.inl rfl)
          | some x => exact .inr (.inr ⟨x, rfl, Nat.le_trans hb0.size (ho3c.lt x.block rfl).1⟩)⟩
    have q1 : (r.kind == 1) = false := by simpa using kk1
    by_cases kk2 : r.kind = 2
    · have q2 : (r.kind == 2) = true := by simpa using kk2
      obtain ⟨l1, l2⟩ := hcan.2 kk2
      rw [show bytesF (rs.map FRef.file) r.act.name = g.zs from HG.out, show r.act.num = r.num from rfl, hgo.2.2.2.1] at l2
      rw [show r.act.num = r.num from rfl] at l1
      obtain ⟨N, hN⟩ := Int.eq_ofNat_of_zero_le l1
      have HE : Hid (doneF (rs.map FRef.file) r.act = putF (rs.map FRef.file) (r.name.toList, g.zs.take N)) := by
        unfold doneF; rw [if_neg (show ¬ r.act.kind = 0 from k0), if_neg (show ¬ r.act.kind = 1 from kk1), if_pos (show r.act.kind = 2 from kk2), show r.act.num = r.num from rfl, hN, ← HG.out]; exact rfl
      rw [hN] at b4
      have hNg : N ≤ g.n := by omega
      have hgc := hgo.2.1
      obtain ⟨f, hf⟩ : ∃ f : FRef, f = ⟨r.name, g.a, N, g.c, g.zs.take N⟩ := ⟨_, rfl⟩
      have okf : f.ok w1 := by rw [hf]; exact ⟨fun e => ⟨by have := (hgo.1 e).1; simp only at this ⊢; omega, (hgo.1 e).2⟩, by simp only; omega, hgo.2.2.1, hgo.2.2.2.take hNg⟩
      have hput := refPut_any (some ⟨bb, off, none⟩) n c rs f w1 fs0 okf (by omega)
      rw [hf] at hput
      have z1 : (N : Int) ≤ (g.c : Int) := by omega
      clear hf okf hN
      have HP := hput
      have hput' : Calls Try.prog 48 #[.slice (some ⟨bb, off, none⟩) n c, .agg #[.string r.name, .slice g.a N g.c]] w1.drew fun e w' => ∃ v rs', e = .returned v ∧ OwnF w' w1.heap.size v rs' ∧ rs'.map FRef.file = putF (rs.map FRef.file) (r.name.toList, g.zs.take N) ∧ rs'.length ≤ n + 1 ∧ Below w1.heap.size w1.drew w' ∧ ∀ r' ∈ rs', r' ∈ rs ∨ r' = ⟨r.name, g.a, N, g.c, g.zs.take N⟩ :=
        refPut_any (some ⟨bb, off, none⟩) n c rs ⟨r.name, g.a, N, g.c, g.zs.take N⟩ w1.drew (fs0.below (Below.refl _ _).drew (Nat.le_refl w1.heap.size)) ⟨fun e => ⟨by have := (hgo.1 e).1; simp only at this ⊢; omega, (hgo.1 e).2⟩, by simp only; omega, hgo.2.2.1, hgo.2.2.2.take hNg⟩ (by omega)
      have hkeep : Hid (∀ w', Below w1.heap.size w1 w' → HeldD w w1 bb (off + i * 2 + 1) r (N : Int) g w') := fun w' h => HeldD.of ⟨b1, b2, b3, b4, d2, Below.refl _ _⟩ hsz0 hblk h
      have hS0 : HeldD w w1 bb (off + i * 2 + 1) r (N : Int) g w1.drew := hkeep.out _ (Below.refl _ _).drew
      clear HP hput
      go_wp2_with fail
      go_region_held3 (fun w' => w'.cell? ⟨w.heap.size, 1, none⟩ = some (.string r.name) ∧ w'.cell? ⟨w.heap.size, 2, none⟩ = some (.string r.to) ∧ w'.cell? ⟨w.heap.size, 3, none⟩ = some (.slice r.a r.n r.c) ∧ w'.cell? ⟨w.heap.size, 4, none⟩ = some (.int .i64 (N : Int)) ∧ w'.cell? ⟨bb, off + i * 2 + 1, none⟩ = some (.slice g.a g.n g.c) ∧ Below w1.heap.size w1 w') (first | exact hS0 | exact hS1)
        (first
          | (go_at_call 48; refine hput'.mono ?_; rintro e w4 ⟨v, rs', rfl, ho, hm, hl, hb4, hpv⟩; have hS1 : HeldD w w1 bb (off + i * 2 + 1) r (N : Int) g w4 := hkeep.out _ ((Below.refl _ _).drew.trans hb4); dsimp only))
      all_goals go_wp2
      all_goals go_ret
      all_goals exact ⟨_, rs', rfl, ho.mono hb0.size, by rw [HE.out]; exact hm, hl, hb0.trans (((Below.refl _ _).drew.trans hb4).mono hb0.size), fun r' hr' => by
        rcases hpv r' hr' with h1 | h1
        · exact .inl ⟨r', h1, rfl, Nat.le_refl _⟩
        · rw [h1]; exact .inl ⟨g, HGM.out, rfl, hNg⟩⟩
    have q2 : (r.kind == 2) = false := by simpa using kk2
    have kk3 : r.kind = 3 := by omega
    have q3 : (r.kind == 3) = true := by simpa using kk3
    have HE : Hid (doneF (rs.map FRef.file) r.act = putF (dropF (rs.map FRef.file) r.name.toList) (r.to.toList, g.zs)) := by
      unfold doneF; rw [if_neg (show ¬ r.act.kind = 0 from k0), if_neg (show ¬ r.act.kind = 1 from kk1), if_neg (show ¬ r.act.kind = 2 from kk2), if_pos (show r.act.kind = 3 from kk3), ← HG.out]; exact rfl
    have hkeep : Hid (∀ w', Below w1.heap.size w1 w' → HeldD w w1 bb (off + i * 2 + 1) r r.num g w') := fun w' h => HeldD.of ⟨b1, b2, b3, b4, d2, Below.refl _ _⟩ hsz0 hblk h
    have hS0 : HeldD w w1 bb (off + i * 2 + 1) r r.num g w1.drew := hkeep.out _ (Below.refl _ _).drew
    have hDm := map_drop rs r.name
    obtain ⟨D, hD⟩ : ∃ D, D = rs.filter fun x => decide (x.name.toList ≠ r.name.toList) := ⟨_, rfl⟩
    have hDl : D.length ≤ n := by rw [hD, h.1]; exact List.length_filter_le _ _
    have HDrop : Hid (Calls Try.prog 49 #[.slice (some ⟨bb, off, none⟩) n c, .string r.name] w1.drew fun e w' => ∃ v, e = .returned v ∧ OwnF w' w1.heap.size v D ∧ Below w1.heap.size w1.drew w') := by
      rw [hD]; exact refDrop_any (some ⟨bb, off, none⟩) n c rs r.name w1.drew (fs0.below (Below.refl _ _).drew (Nat.le_refl w1.heap.size)) (by omega)
    rw [← hD] at hDm
    have HDm : Hid (D.map FRef.file = dropF (rs.map FRef.file) r.name.toList) := hDm
    have HPut : Hid (∀ a2 c2 w2, Fs w2 a2 D.length c2 D → Below w1.heap.size w1 w2 → Calls Try.prog 48 #[.slice a2 D.length c2, .agg #[.string r.to, .slice g.a g.n g.c]] w2 fun e w' => ∃ v rs', e = .returned v ∧ OwnF w' w2.heap.size v rs' ∧ rs'.map FRef.file = putF (D.map FRef.file) (r.to.toList, g.zs) ∧ rs'.length ≤ D.length + 1 ∧ Below w2.heap.size w2 w' ∧ ∀ r' ∈ rs', r' ∈ D ∨ r' = ⟨r.to, g.a, g.n, g.c, g.zs⟩) := fun a2 c2 w2 h1 h2 =>
      refPut_any a2 D.length c2 D ⟨r.to, g.a, g.n, g.c, g.zs⟩ w2 h1 ((show FRef.ok w1 ⟨r.to, g.a, g.n, g.c, g.zs⟩ from hgo).below h2 (Nat.le_refl _)) (by omega)
    have HDs : Hid (∀ x ∈ D, x ∈ rs) := fun x hx => by rw [hD] at hx; exact (List.mem_filter.1 hx).1
    clear hD hDm
    go_wp2_with fail
    go_region_held3 (fun w' => w'.cell? ⟨w.heap.size, 1, none⟩ = some (.string r.name) ∧ w'.cell? ⟨w.heap.size, 2, none⟩ = some (.string r.to) ∧ w'.cell? ⟨w.heap.size, 3, none⟩ = some (.slice r.a r.n r.c) ∧ w'.cell? ⟨w.heap.size, 4, none⟩ = some (.int .i64 r.num) ∧ w'.cell? ⟨bb, off + i * 2 + 1, none⟩ = some (.slice g.a g.n g.c) ∧ Below w1.heap.size w1 w') (first | exact hS0 | exact hS1 | exact hS2)
      (first
        | (go_at_call 49; refine HDrop.out.mono ?_; rintro e w2 ⟨v2, rfl, ho2, hb2'⟩; have hb2 : Below w1.heap.size w1 w2 := (Below.refl _ _).drew.trans hb2'; have hS1 : HeldD w w1 bb (off + i * 2 + 1) r r.num g w2 := hkeep.out _ hb2; obtain ⟨a2, c2, rfl, fs2⟩ := ho2.fs; dsimp only)
        | (go_at_call 48; refine (HPut.out a2 c2 w2 fs2 hb2).mono ?_; rintro e w4 ⟨v, rs', rfl, ho, hm, hl, hb4, hpv⟩; have hb4' : Below w1.heap.size w1 w4 := hb2.trans (hb4.mono hb2.size); have hS2 : HeldD w w1 bb (off + i * 2 + 1) r r.num g w4 := hkeep.out _ hb4'; dsimp only))
    all_goals go_wp2
    all_goals go_ret
    all_goals exact ⟨_, rs', rfl, ho.mono (Nat.le_trans hb0.size hb2.size), by rw [HE.out, ← HDm.out]; exact hm, by omega, hb0.trans (hb4'.mono hb0.size), fun r' hr' => by
      rcases hpv r' hr' with h1 | h1
      · exact .inl ⟨r', HDs.out r' h1, rfl, Nat.le_refl _⟩
      · rw [h1]; exact .inl ⟨g, HGM.out, rfl, Nat.le_refl _⟩⟩
  · have q1 : (r.kind == 1) = false := by simp; omega
    have q2 : (r.kind == 2) = false := by simp; omega
    have q3 : (r.kind == 3) = false := by simp; omega
    have HE : Hid (doneF (rs.map FRef.file) r.act = dropF (rs.map FRef.file) r.name.toList) := by
      unfold doneF; rw [if_neg (show ¬ r.act.kind = 0 from k0), if_neg (show ¬ r.act.kind = 1 from fun e => k123 (.inl e)), if_neg (show ¬ r.act.kind = 2 from fun e => k123 (.inr (.inl e))), if_neg (show ¬ r.act.kind = 3 from fun e => k123 (.inr (.inr e)))]; exact rfl
    have hDl : (rs.filter fun x => decide (x.name.toList ≠ r.name.toList)).length ≤ n + 1 := by
      have := List.length_filter_le (fun x : FRef => decide (x.name.toList ≠ r.name.toList)) rs
      have := h.1
      omega
    have HDl : Hid ((rs.filter fun x => decide (x.name.toList ≠ r.name.toList)).length ≤ n + 1) := hDl
    clear hDl
    go_wp2_with fail
    refine (refDrop_any a n c rs r.name w1 fs0 (by omega)).mono ?_
    rintro e w2 ⟨v2, rfl, ho2, hb2⟩
    go_wp2
    go_ret
    exact ⟨_, _, rfl, ho2.mono hb0.size, by rw [HE.out]; exact map_drop rs r.name, HDl.out, hb0.trans (hb2.mono hb0.size), From.sub w (fun r' hr' => (List.mem_filter.1 hr').1)⟩
end Go.Proofs.Ytngkapddobgfaaa
