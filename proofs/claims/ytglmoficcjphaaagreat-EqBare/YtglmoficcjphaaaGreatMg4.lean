/-
 SbFns SbApply SbVars TmSm SbSmall TmOrd RfSame RfLess RfFlat RfVars AbOf SbVnt SbRen SbSort SbClone SbNorm SbNorm2 SbSortM SbLaw3 SbThen UnMath UnCls
-/
import Derived.Test.YtglmoficcjphaaaGreatMg3
import Derived.Test.YtglmoficcjphaaaGreatMg2
namespace Go.Proofs.YtglmoficcjphaaaGreat
open Go.RowKit
set_option linter.unusedVariables false
set_option linter.unusedSimpArgs false
set_option maxRecDepth 100000
theorem Q7 (W:World) (t:Tm):AFun Tryz.prog W 85 [t.cw] (.val (.b (decide (t.f<0)))):=by
 refine f0 (rs:=[.b (decide (t.f<0))]) Tryz.func85 Tryz.ntmps85 rfl rfl rfl rfl ?_
 intro w U hW
 refine aS (aR ?_)
 refine nc zd (nc ze ?_)
 refine aS (aR ?_)
 refine nc zg (nc zh (nc zi (nc ze ?_)))
 exact aT ⟨.inr rfl,rfl⟩
theorem T4 (W:World) (t:Tm) (h1 : -9223372036854775808≤t.f) (h2:t.f<0):AFun Tryz.prog W 87 [t.cw] (.val (.i (-1-t.f))):=by
 refine f0 (rs:=[.i (-1-t.f)]) Tryz.func87 Tryz.ntmps87 rfl rfl rfl rfl ?_
 intro w U hW
 refine aS (aR ?_)
 refine nc zd (nc ze ?_)
 refine aS (aR ?_)
 refine nc zg (nc zh (nc zj (nc ze ?_)))
 exact aT ⟨.inr rfl,rfl⟩
theorem Y1 (W:World) (v:Int) (h1:0≤v) (h2:v≤9223372036854775807):AFun Tryz.prog W 61 [.i v] (.val (p8 v).cw):=by
 refine f0 (rs:=[(p8 v).cw]) Tryz.func61 Tryz.ntmps61 rfl rfl rfl rfl ?_
 intro w U hW
 refine aS (aR ?_)
 refine nc zk ?_
 refine aS (aR ?_)
 refine nc zl (nc zj (nc zn (nc zo ?_)))
 exact aT ⟨.inr rfl,rfl⟩
theorem b4X (W:World) (l:List Bd) (v:Int) (hl:l.length≤90000000000):AFun Tryz.prog W 137 [.lst (l.map Bd.cv),.i v] (.tup [((b6 l v).getD ⟨0,[]⟩).cw,.b (b6 l v).isSome]):=by
 have hsz:=Bd.size_all l
 refine f0 (rs:=[((b6 l v).getD ⟨0,[]⟩).cw,.b (b6 l v).isSome]) Tryz.func137 Tryz.ntmps137 rfl rfl rfl rfl ?_
 intro w U hW
 refine aS (aR ?_)
 refine nc zk (nc ze ?_)
 refine aS (aS (aR ?_))
 refine nc zl (nc zp (nc zl ?_))
 refine aB (A9 l.length (fun k=>∀ i c,i<k→l[i]?=some c→c.v≠v) (fun k=>[(1,.val (.i v)),(4,.bp 4 0 []),(100004,⟨5,.row [.i 0,.lst []],1,0,[1]⟩),(8,.val (.lst (l.map Bd.cv))),(9,.val (.i (l.map Bd.cv).length)),(10,.val (.i k))]) (a7 ⟨rfl,rfl,rfl,rfl,rfl,rfl,trivial⟩) (by omega) ?_)
 intro k hk hI
 refine aS (aR ?_)
 refine nc zi ?_
 refine aS (aC rfl (fun hc=>?_) (fun hc=>?_))
 ·simp only [List.length_map,decide_eq_true_eq] at hc
  have hkl:k<l.length:=by omega
  obtain ⟨b,hb⟩:∃ t,l[k]?=some t:=⟨l[k],List.getElem?_eq_getElem hkl⟩
  have hb':=Bd.map_at hb
  refine aK ?_
  refine aS (aB (aS (aR ?_)))
  refine nc (zq (H:=by assumption) (hz:=by first | assumption | exact sZ rfl | exact Tm.size_all _ | exact Bd.size_all _ | exact t8 _ | exact bys_size _ | exact Lt.size_all _)) (nc zr (nc zk (nc zo ?_)))
  refine aS (aR ?_)
  refine nc zg (nc zh (nc zl (nc zt ?_)))
  refine aC rfl (fun hc2=>?_) (fun hc2=>?_)
  ·simp only [decide_eq_true_eq] at hc2
   have hf:=b3R hb hc2 hI
   rw [hf]
   refine aS (aR ?_)
   refine nc zg (nc zh (nc zo (nc ze ?_)))
   exact aT (And.intro (.inr rfl) rfl)
  ·simp only [decide_eq_false_iff_not] at hc2
   refine aK ?_
   refine aR ?_
   refine nc zu (nc zl ?_)
   refine ⟨hkl,fun i c hi hcc=>?_,a7 ⟨rfl,rfl,rfl,rfl,rfl,rfl,trivial⟩⟩
   rcases Nat.lt_or_ge i k with h | h
   ·exact hI i c h hcc
   ·obtain rfl:i=k:=by omega
    rw [hb] at hcc
    cases hcc
    exact hc2
 ·simp only [List.length_map,decide_eq_false_iff_not] at hc
  have hkl:k=l.length:=by omega
  have hf:b6 l v=none:=B2 fun b hb=>by
   obtain ⟨i,hi,he⟩:=List.mem_iff_getElem.1 hb
   exact hI i b (by omega) (by rw [List.getElem?_eq_getElem hi,he])
  rw [hf]
  refine aE ?_
  refine aS (aR ?_)
  refine nc zn (nc zo (nc ze ?_))
  exact aT (And.intro (.inr rfl) rfl)
theorem b2B (W:World) (l:List Bd) (v:Int) (hl:l.length≤90000000000) (h1:0≤v) (h2:v≤9223372036854775807):AFun Tryz.prog W 110 [.lst (l.map Bd.cv),.i v] (.val (b7 l v).cw):=by
 refine f0 (rs:=[(b7 l v).cw]) Tryz.func110 Tryz.ntmps110 rfl rfl rfl rfl ?_
 intro w U hW
 refine aS (aR ?_)
 refine nc zk ?_
 refine aS (aS (aR ?_))
 refine nc zl (nc zl (nc (zw (z:=b4X w l v hl)) (nc zl (nc zx (nc zx (nc zk (nc zo (nc ze ?_))))))))
 refine aS (aR ?_)
 refine nc zl ?_
 unfold b7
 refine aC rfl (fun hc=>?_) (fun hc=>?_)
 ·obtain ⟨t,ht⟩:=Option.isSome_iff_exists.1 hc
  rw [ht]
  refine aS (aR ?_)
  refine nc zy (nc zo ?_)
  exact aT (And.intro (.inr rfl) rfl)
 ·have ht:b6 l v=none:=by simpa using hc
  rw [ht]
  refine aK ?_
  refine aS (aR ?_)
  refine nc zl (nc (zw (z:=Y1 w v h1 h2)) (nc zo ?_))
  exact aT (And.intro (.inr rfl) rfl)
theorem a9K (W:World) (l:List Bd) (hl:l.length≤64):AFun Tryz.prog W 75 [.lst (l.map Bd.cv)] (.val (.fn 110 1 [.lst (l.map Bd.cv)])):=by
 refine f0 (rs:=[.fn 110 1 [.lst (l.map Bd.cv)]]) Tryz.func75 Tryz.ntmps75 rfl rfl rfl rfl ?_
 intro w U hW
 refine aS (aR ?_)
 refine nc ze ?_
 refine aS (aS (aR ?_))
 refine nc zl (nc zp (nc zA ?_))
 refine aC rfl (fun hc=>?_) (fun hc=>?_)
 ·refine aS (aR ?_)
  refine nc zl (nc zB (nc ze ?_))
  exact aT (And.intro (.inr rfl) rfl)
 ·simp only [List.length_map,decide_eq_false_iff_not] at hc
  omega
theorem a7e (W:World) (fc:CV) (img:Int→Tm) (hI:∀ v,0≤v→v≤9223372036854775807→AFunV Tryz.prog W fc [.i v] (.val (img v).cw)∧(img v).rng∧(img v).size≤90000000000):∀ t:Tm,t.rng→t.ok→AFun Tryz.prog W 59 [t.cw,fc] (.val (b5 img t).cw):=by
 intro t
 induction t using Tm.ind with
 | h f l ih =>
 intro hr hok
 have hok:=(Tm.ok_iff _).1 hok
 have hr:=(Tm.rng_iff _).1 hr
 simp only at hok hr
 have hsz:=Tm.size_all l
 refine f0 (rs:=[(b5 img ⟨f,l⟩).cw]) Tryz.func59 Tryz.ntmps59 rfl rfl rfl rfl ?_
 intro w U hW
 refine aS (aR ?_)
 refine nc zd (nc zk ?_)
 refine aS (aS (aR ?_))
 refine nc zy ?_
 refine nc (zw (z:=Q7 w ⟨f,l⟩)) ?_
 refine aC rfl (fun hc=>?_) (fun hc=>?_)
 ·have hf:f<0:=by simpa using hc
  rw [i9 hf]
  obtain ⟨i1,i2,i3⟩:=hI (-1-f) (by omega) (by omega)
  refine aS (aR ?_)
  refine nc zl (nc zy ?_)
  refine nc (zw (z:=T4 w ⟨f,l⟩ hr.1.1 hf)) ?_
  refine nc (zC (E:=i1.up hW)) (nc (zw (z:=a1x w i2 i3)) (nc zo ?_))
  exact aT (And.intro (.inr rfl) rfl)
 ·have hf:¬ f<0:=by simpa using hc
  rw [c9 hf]
  refine aK ?_
  refine aS (aR ?_)
  refine nc ze ?_
  refine aS (aS (aR ?_))
  refine nc zg (nc zh (nc zp (nc zl ?_)))
  refine aB (p7 l.length (fun k=>[(1,.val fc),(2,.bp 2 0 []),(100002,.bx (Tm.cw ⟨f,l⟩)),(4,.bp 4 0 []),(100004,⟨5,.row [.i 0,.lst []],1,0,[1]⟩),(5,.own (.lst ((l.take k).map fun t=>(b5 img t).cv)) 200027),(200027,.tok 42 2),(16,.val (.lst (l.map Tm.cv))),(17,.val (.i (l.map Tm.cv).length)),(18,.val (.i k))])
   ((M4 5 200027 42 2 rfl rfl rfl rfl rfl rfl rfl).trans (a7 ⟨rfl,rfl,rfl,rfl,rfl,rfl,rfl,rfl,rfl,rfl,trivial⟩)) ?_)
  intro k hk
  refine aS (aR ?_)
  refine nc zi ?_
  refine aS (aC rfl (fun hc=>?_) (fun hc=>?_))
  ·have hkl:k<l.length:=by
    simp only [List.length_map,decide_eq_true_eq] at hc
    omega
   obtain ⟨t,ht⟩:∃ t,l[k]?=some t:=⟨l[k],List.getElem?_eq_getElem hkl⟩
   have ht':=Tm.map_at ht
   have htm:=List.mem_of_getElem? ht
   have hsz2:∀ c∈(l.take k).map fun t=>(b5 img t).cv,c.size=2:=by
    intro c hc
    obtain ⟨t,_,rfl⟩:=List.mem_map.1 hc
    exact Tm.size_cv _
   refine aK ?_
   refine aS (aB (aS (aR ?_)))
   refine nc (zq (H:=by assumption) (hz:=by first | assumption | exact sZ rfl | exact Tm.size_all _ | exact Bd.size_all _ | exact t8 _ | exact bys_size _ | exact Lt.size_all _)) (nc zr (nc zk (nc zo ?_)))
   refine aR ?_
   refine nc zl (nc zy (nc zl (nc (zw (z:=(ih t htm (hr.2 t htm) (hok.2 t htm)).up hW)) (nc zD (nc zE (nc ze ?_))))))
   refine aR ?_
   refine nc zu (nc zl ?_)
   refine ⟨hkl,Wk.trans (a7 (s':=[(1,.val fc),(2,.bp 2 0 []),(100002,.bx (Tm.cw ⟨f,l⟩)),(4,.bp 4 0 []),(100004,⟨5,.row [.i 0,.lst []],1,0,[1]⟩),(5,.own (.lst ((l.take (k+1)).map fun t=>(b5 img t).cv)) 300027),(300027,.tok 42 2),(16,.val (.lst (l.map Tm.cv))),(17,.val (.i (l.map Tm.cv).length)),(18,.val (.i ((k+1:Nat):Int)))]) ⟨rfl,rfl,rfl,rfl,rfl,?_,rfl,rfl,rfl,rfl,trivial⟩) (A8 300027 200027 rfl rfl rfl rfl)⟩
   rw [List.take_add_one,ht,List.map_append]
   simp only [Option.toList_some,List.map_cons,List.map_nil,Tm.cv_eq]
   rfl
  ·have hkl:k=l.length:=by
    simp only [List.length_map,decide_eq_false_iff_not] at hc
    omega
   subst hkl
   rw [List.take_length]
   refine aE ?_
   refine aS (aR ?_)
   refine nc zg (nc zh (nc zl (nc zn (nc zo ?_))))
   refine aT (And.intro (.inr rfl) ?_)
   unfold Tm.cw
   rw [List.map_map]
   rfl
theorem a7H {v:Int} (h1:0≤v) (h2:v≤9223372036854775807):(p8 v).rng:=(Tm.rng_iff _).2 ⟨by show _ ≤ -1-v ∧ -1-v≤_;omega,fun s hs=>by cases hs⟩
theorem V9 (v:Int):(p8 v).size=1:=by
 rw [Tm.size_eq]
 have:(p8 v).ps=[]:=by unfold Tm.ps p8;simp
 rw [this];rfl
theorem H9:∀ {l:List Bd} {v:Int} {t:Tm},b6 l v=some t→∃ b∈l,b.t=t∧b.v=v
 | [],v,t,h=>by cases h
 | b::l,v,t,h=>by
  rw [b6] at h
  split at h
  ·rename_i e;cases h;exact ⟨b,by simp,rfl,e⟩
  ·obtain ⟨c,h1,h2⟩:=H9 h
   exact ⟨c,List.mem_cons_of_mem _ h1,h2⟩
def bdsOk (l:List Bd):Prop:=∀ b∈l,b.t.rng∧b.t.size≤90000000000
theorem a2t {l:List Bd} (h:bdsOk l) {v:Int} (h1:0≤v) (h2:v≤9223372036854775807):(b7 l v).rng∧(b7 l v).size≤90000000000:=by
 unfold b7
 cases hf:b6 l v with
 | none=>exact ⟨a7H h1 h2,by show (p8 v).size≤_;rw [V9];omega⟩
 | some t =>
  obtain ⟨b,hb,e,_⟩:=H9 hf
  show t.rng∧t.size≤_
  rw [←e]
  exact h b hb
theorem b2s (W:World) (l:List Bd) (t:Tm) (hl:l.length≤64) (hb:bdsOk l) (hr:t.rng) (hok:t.ok):AFun Tryz.prog W 50 [.lst (l.map Bd.cv),t.cw] (.val (b5 (b7 l) t).cw):=by
 refine f0 (rs:=[(b5 (b7 l) t).cw]) Tryz.func50 Tryz.ntmps50 rfl rfl rfl rfl ?_
 intro w U hW
 refine aS (aR ?_)
 refine nc zd (nc zk ?_)
 refine aS (aD (by kernel_rfl) (by kernel_rfl) ?_)
 refine nc zy (nc zl (nc (zw (z:=a9K w l hl)) ?_))
 refine nc (zw (z:=a7e w _ (b7 l) (fun v h1 h2=>⟨⟨_,_,_,rfl,b2B w l v (by omega) h1 h2⟩,a2t hb h1 h2⟩) t hr hok)) ?_
 refine nc zo ?_
 refine ⟨by kernel_rfl,?_⟩
 exact aT (And.intro (.inr rfl) rfl)
def upV (by_ v:Int):Int:=v+min by_ (9223372036854775807-v)
end Go.Proofs.YtglmoficcjphaaaGreat
namespace Go.Proofs.YtglmoficcjphaaaGreat
set_option linter.unusedVariables false
set_option linter.unusedSimpArgs false
def vsL (l:List Tm):List Int:=(l.filter fun s=>decide (s.f<0)).map fun s => -1-s.f
def Tm.vs (t:Tm):List Int:=vsL t.flat
theorem a3x (l m:List Tm):vsL (l++m)=vsL l++vsL m:=by simp [vsL]
theorem T3 (l:List Tm):vsL (l.flatMap Tm.flat)=l.flatMap Tm.vs:=by
 induction l with
 | nil=>rfl
 | cons t l ih=>rw [List.flatMap_cons,a3x,ih,List.flatMap_cons];rfl
theorem Tm.vs_var {t:Tm} (h:t.f<0):t.vs=[-1-t.f]:=by
 unfold Tm.vs
 rw [Tm.flat_eq,Tm.ps_of_var h]
 simp [vsL,h]
theorem Tm.vs_sym {t:Tm} (h:¬ t.f<0):t.vs=t.l.flatMap Tm.vs:=by
 unfold Tm.vs
 rw [Tm.flat_eq,Tm.ps_of_sym (by omega),show t::t.l.flatMap Tm.flat=[t]++t.l.flatMap Tm.flat from rfl,a3x,T3]
 simp [vsL,h]
 rfl
theorem Tm.strip_vs (t:Tm):t.strip.vs=t.vs:=by
 induction t using Tm.indp with
 | h t ih =>
  by_cases h:t.f<0
  ·rw [Tm.vs_var h,Tm.vs_var (by rw [Tm.strip_f];exact h),Tm.strip_f]
  ·rw [Tm.vs_sym h,Tm.vs_sym (by rw [Tm.strip_f];exact h),Tm.strip_l]
   rw [Tm.ps_of_sym (by omega)] at ih ⊢
   rw [List.flatMap_def,List.flatMap_def,List.map_map]
   congr 1
   exact List.map_congr_left fun s hs=>ih s hs
theorem a6k (img:Int→Tm) (t:Tm):(b5 img t).vs=t.vs.flatMap fun v=>(img v).vs:=by
 induction t using Tm.indp with
 | h t ih =>
  by_cases h:t.f<0
  ·rw [i9 h,Tm.vs_var h,Tm.strip_vs];simp
  ·rw [c9 h,Tm.vs_sym h,Tm.vs_sym (t:=⟨t.f,_⟩) h]
   rw [Tm.ps_of_sym (by omega)] at ih
   simp only
   rw [List.flatMap_assoc,List.flatMap_def,List.map_map,List.flatMap_def]
   congr 1
   exact List.map_congr_left fun s hs=>ih s hs
theorem Tm.size_sym {t:Tm} (h:¬ t.f<0):t.size=1+(t.l.map Tm.size).sum:=by
 rw [Tm.size_eq,Tm.ps_of_sym (by omega),List.length_flatMap]
 rfl
theorem Tm.size_var {t:Tm} (h:t.f<0):t.size=1:=by
 rw [Tm.size_eq,Tm.ps_of_var h];rfl
theorem a4r {l:List Tm} {f g:Tm→Int} (h:∀ s∈l,f s=g s):(l.map f).sum=(l.map g).sum:=by
 rw [List.map_congr_left h]
theorem a2c (l:List Tm) (g:Int→Int):((l.flatMap Tm.vs).map g).sum=(l.map fun s=>(s.vs.map g).sum).sum:=by
 induction l with
 | nil=>rfl
 | cons t l ih=>rw [List.flatMap_cons,List.map_append,List.sum_append_int,ih,List.map_cons,List.sum_cons]
theorem a8A (l:List Nat):((l.sum:Nat):Int)=(l.map fun n:Nat=>(n:Int)).sum:=by
 induction l with
 | nil=>rfl
 | cons n l ih=>rw [List.sum_cons,List.map_cons,List.sum_cons,←ih];omega
theorem b7S (l:List Tm) (f g:Tm→Int):(l.map fun s=>f s+g s).sum=(l.map f).sum+(l.map g).sum:=by
 induction l with
 | nil=>rfl
 | cons t l ih=>simp only [List.map_cons,List.sum_cons,ih];omega
theorem b2y (img:Int→Tm) (t:Tm):((b5 img t).size:Int)=t.size+(t.vs.map fun v=>((img v).size:Int)-1).sum:=by
 induction t using Tm.indp with
 | h t ih =>
  by_cases h:t.f<0
  ·rw [i9 h,Tm.vs_var h,Tm.strip_size,Tm.size_var h];simp;omega
  ·rw [c9 h,Tm.vs_sym h,Tm.size_sym h,Tm.size_sym (t:=⟨t.f,_⟩) h,a2c]
   rw [Tm.ps_of_sym (by omega)] at ih
   simp only
   rw [Int.natCast_add,Int.natCast_add,a8A,a8A,List.map_map,List.map_map,List.map_map,Int.add_assoc,←b7S]
   congr 1
   exact a4r fun s hs=>ih s hs
def c2c (acc:List Int) (v:Int):List Int:=if v∈acc then acc else acc++[v]
def nub (l:List Int):List Int:=l.foldl c2c []
theorem r9 (t:Tm):∀ v∈t.vs,0≤v:=by
 intro v hv
 obtain ⟨s,hs,rfl⟩:=List.mem_map.1 hv
 have:=(List.mem_filter.1 hs).2
 simp at this
 omega
end Go.Proofs.YtglmoficcjphaaaGreat
namespace Go.Proofs.YtglmoficcjphaaaGreat
open Go.RowKit
set_option linter.unusedVariables false
set_option linter.unusedSimpArgs false
def Tm.sm:Tm→Prop
 | ⟨f,l⟩=>(-1000≤f∧f≤1000)∧∀ t∈l,Tm.sm t
theorem Tm.sm_iff (t:Tm):t.sm↔(-1000≤t.f∧t.f≤1000)∧∀ s∈t.l,s.sm:=by cases t;rw [Tm.sm]
theorem b4W (t:Tm):∀ most deep,0≤n4 t most deep→t.sm:=by
 induction t using Tm.ind with
 | h f l ih =>
  intro most deep h
  rw [a1A] at h
  split at h
  ·omega
  ·rename_i hc
   refine (Tm.sm_iff _).2 ⟨⟨by show -1000≤f;omega,by show f≤1000;omega⟩,?_⟩
   have:∀ (l:List Tm) (m d:Int),(∀ t∈l,∀ most deep,0≤n4 t most deep→t.sm)→0≤H6 l m d→∀ t∈l,t.sm:=by
    intro l
    induction l with
    | nil=>intro m d _ _ t ht;cases ht
    | cons y ys ih2 =>
     intro m d hl h t ht
     rw [L8] at h
     split at h
     ·omega
     ·have hy:0≤n4 y m d:=by
       rcases Int.lt_or_le (n4 y m d) 0 with h1 | h1
       ·rw [a3k ys d h1] at h;omega
       ·exact h1
      rcases List.mem_cons.1 ht with rfl | ht
      ·exact hl t (by simp) m d hy
      ·exact ih2 (n4 y m d) d (fun s hs=>hl s (List.mem_cons_of_mem _ hs)) h t ht
   exact this l _ _ ih h
theorem Tm.sm_rng {t:Tm} (h:t.sm):t.rng:=by
 induction t using Tm.ind with
 | h f l ih =>
  obtain ⟨h1,h2⟩:=(Tm.sm_iff _).1 h
  exact (Tm.rng_iff _).2 ⟨by simp only at h1 ⊢;omega,fun s hs=>ih s hs (h2 s hs)⟩
theorem Tm.wt_ok {t:Tm} (h:t.wt≤1000000):t.ok:=by
 induction t using Tm.ind with
 | h f l ih =>
  rw [Tm.wt_eq] at h
  simp only at h
  have:=Tm.wts_len l
  exact (Tm.ok_iff _).2 ⟨by simp only;omega,fun s hs=>ih s hs (by have:s.wt≤Tm.wts l:=Tm.wts_mem hs;omega)⟩
theorem Tm.strip_rng {t:Tm} (h:t.rng):t.strip.rng:=by
 induction t using Tm.indp with
 | h t ih =>
  obtain ⟨h1,h2⟩:=(Tm.rng_iff _).1 h
  refine (Tm.rng_iff _).2 ⟨by rw [Tm.strip_f];exact h1,fun s hs=>?_⟩
  rw [Tm.strip_l] at hs
  obtain ⟨u,hu,rfl⟩:=List.mem_map.1 hs
  exact ih u hu (h2 u (Tm.ps_mem hu).1)
theorem Tm.strip_ok {t:Tm} (h:t.ok):t.strip.ok:=by
 induction t using Tm.indp with
 | h t ih =>
  obtain ⟨h1,h2⟩:=(Tm.ok_iff _).1 h
  refine (Tm.ok_iff _).2 ⟨?_,fun s hs=>?_⟩
  ·rw [Tm.strip_l,List.length_map]
   unfold Tm.ps
   split
   ·simp
   ·exact h1
  ·rw [Tm.strip_l] at hs
   obtain ⟨u,hu,rfl⟩:=List.mem_map.1 hs
   exact ih u hu (h2 u (Tm.ps_mem hu).1)
theorem a7Z {f:Int} (h1 : -9223372036854775808≤f) (h2:f≤9223372036854775807):(Tm.mk f []).rng:=(Tm.rng_iff _).2 ⟨⟨h1,h2⟩,fun s hs=>by cases hs⟩
theorem b7g (f:Int):(Tm.mk f []).ok:=(Tm.ok_iff _).2 ⟨by show 0≤_;omega,fun s hs=>by cases hs⟩
theorem b2W (f:Int):(Tm.mk f []).size=1:=by
 rw [Tm.size_eq]
 have:(Tm.mk f []).ps=[]:=by unfold Tm.ps;simp
 rw [this];rfl
end Go.Proofs.YtglmoficcjphaaaGreat
namespace Go.Proofs.YtglmoficcjphaaaGreat
open Go.RowKit
set_option linter.unusedVariables false
set_option linter.unusedSimpArgs false
set_option maxRecDepth 100000
theorem a8I {img:Int→Tm} {t:Tm} (h:t.rng) (hi:∀ v,0≤v→v≤9223372036854775807→(img v).rng):(b5 img t).rng:=by
 induction t using Tm.ind with
 | h f l ih =>
  obtain ⟨h1,h2⟩:=(Tm.rng_iff _).1 h
  simp only at h1 h2
  by_cases hf:f<0
  ·rw [i9 hf];exact Tm.strip_rng (hi _ (by simp only;omega) (by simp only;omega))
  ·rw [c9 hf]
   refine (Tm.rng_iff _).2 ⟨h1,fun s hs=>?_⟩
   obtain ⟨u,hu,rfl⟩:=List.mem_map.1 hs
   exact ih u hu (h2 u hu)
theorem b1g {img:Int→Tm} {t:Tm} (h:t.ok) (hi:∀ v,(img v).ok):(b5 img t).ok:=by
 induction t using Tm.ind with
 | h f l ih =>
  obtain ⟨h1,h2⟩:=(Tm.ok_iff _).1 h
  simp only at h1 h2
  by_cases hf:f<0
  ·rw [i9 hf];exact Tm.strip_ok (hi _)
  ·rw [c9 hf]
   refine (Tm.ok_iff _).2 ⟨by simpa using h1,fun s hs=>?_⟩
   obtain ⟨u,hu,rfl⟩:=List.mem_map.1 hs
   exact ih u hu (h2 u hu)
theorem b1F (v:Int):(p8 v).ok:=(Tm.ok_iff _).2 ⟨by show 0≤_;omega,fun s hs=>by cases hs⟩
theorem a7U {l:List Bd} (h:∀ b∈l,b.t.ok) (v:Int):(b7 l v).ok:=by
 unfold b7
 cases hf:b6 l v with
 | none=>exact b1F v
 | some t =>
  obtain ⟨b,hb,e,_⟩:=H9 hf
  show t.ok
  rw [←e]
  exact h b hb
theorem b7e (f:Int) (h:0≤f):(Tm.mk f []).vs=[]:=by rw [Tm.vs_sym (by show ¬ f<0;omega)];rfl
end Go.Proofs.YtglmoficcjphaaaGreat
namespace Go.Proofs.YtglmoficcjphaaaGreat
set_option linter.unusedVariables false
set_option linter.unusedSimpArgs false
theorem o6 (x y:Int):(I7 x y = -1∧x<y)∨(I7 x y=0∧x=y)∨(I7 x y=1∧y<x):=by
 unfold I7
 split
 ·exact .inl ⟨rfl,by assumption⟩
 ·split
  ·exact .inr (.inr ⟨rfl,by assumption⟩)
  ·exact .inr (.inl ⟨rfl,by omega⟩)
def rank (x:Int):Int×Int:=if x<0 then (0,-1-x) else (1,x)
theorem a9H (x y:Int):(a6q x y = -1∧((x<0∧y<0∧y<x)∨(¬ (x<0∧y<0)∧x<y)))∨(a6q x y=0∧x=y)∨(a6q x y=1∧((x<0∧y<0∧x<y)∨(¬ (x<0∧y<0)∧y<x))):=by
 unfold a6q
 split
 ·have:=o6 (-1-x) (-1-y)
  omega
 ·have:=o6 x y
  omega
structure c2z (c:Int):Prop where
 three:c = -1∨c=0∨c=1
theorem b2U (a:Tm):∀ b,P9 a b=0↔a.strip=b.strip:=by
 induction a using Tm.indp with
 | h a ih =>
  intro b
  rw [b1C,Tm.strip_eq a,Tm.strip_eq b]
  have hL:∀ (l m:List Tm),(∀ s∈l,∀ b,P9 s b=0↔s.strip=b.strip)→(U9 l m=0↔l.map Tm.strip=m.map Tm.strip):=by
   intro l
   induction l with
   | nil=>intro m _;cases m<;>simp [a0T,a6b,a6F]
   | cons y ys ih2 =>
    intro m hl
    cases m with
    | nil=>simp [a0T,a6b,a6F]
    | cons z zs =>
     rw [a4X,List.map_cons,List.map_cons,List.cons.injEq,←hl y (by simp) z,←ih2 zs (fun s hs=>hl s (List.mem_cons_of_mem _ hs))]
     by_cases h:P9 y z=0<;>simp [h]
  rw [Tm.mk.injEq]
  by_cases h1:a.f=b.f
  ·rw [if_neg (by simp [h1])]
   by_cases h2:a.ps.length=b.ps.length
   ·rw [if_neg (by simp [h2]),hL _ _ ih]
    simp [h1]
   ·rw [if_pos h2]
    constructor
    ·intro h3
     have:=o6 a.ps.length b.ps.length
     omega
    ·rintro ⟨_,h3⟩
     exact absurd (by simpa using congrArg List.length h3) h2
  ·rw [if_pos h1]
   constructor
   ·intro h3
    have:=a9H a.f b.f
    omega
   ·rintro ⟨h3,_⟩
    exact absurd h3 h1
def c3d (p q r:Int):Prop:=p≤0→q≤0→r≤0∧(r=0→p=0∧q=0)
theorem x7 (a b:Tm):v8 a b=true↔a.strip=b.strip:=by
 unfold v8
 rw [beq_iff_eq]
 exact b2U a b
end Go.Proofs.YtglmoficcjphaaaGreat
namespace Go.Proofs.YtglmoficcjphaaaGreat
open Go.RowKit
set_option linter.unusedVariables false
set_option linter.unusedSimpArgs false
set_option maxRecDepth 100000
set_option maxHeartbeats 1000000 in
theorem b6e (W:World):∀ (t:Tm),t.ok→AFun Tryz.prog W 25 [t.cw] (.val t.cw):=by
 intro t
 induction t using Tm.ind with
 | h f l ih =>
 intro hok
 obtain ⟨hl,hok⟩:=(Tm.ok_iff _).1 hok
 simp only at hl hok
 refine f0 (rs:=[Tm.cw ⟨f,l⟩]) Tryz.func25 Tryz.ntmps25 rfl rfl rfl rfl ?_
 intro w U hW
 refine aS (aR ?_)
 refine nc zd (nc zk ?_)
 refine aS (aR ?_)
 refine nc zg (nc zh (nc zn (nc zk (nc zo ?_))))
 refine aS (aS (aR ?_))
 refine nc ze ?_
 refine aB (p7 l.length (fun k=>[(1,.bp 1 0 []),(100001,.bx (Tm.cw ⟨f,l⟩)),(2,.bp 2 0 []),(100002,⟨5,.row [.i 0,.lst []],1,0,[1]⟩),(3,.bp 3 0 []),(100003,⟨5,.row [.i f,.lst ((l.take k).map Tm.cv)],200024,0,[1]⟩),(200024,.tok 42 2),(4,.val (.i k))])
  ((M4 100003 200024 42 2 rfl rfl rfl rfl rfl rfl rfl).trans (a7 ⟨rfl,rfl,rfl,rfl,rfl,rfl,rfl,rfl,trivial⟩)) ?_)
 intro k hk
 refine aS (aS (aR ?_))
 refine nc zl (nc zg (nc zh (nc zp (nc zi ?_))))
 refine aC rfl (fun hc=>?_) (fun hc=>?_)
 ·simp only [List.length_map,decide_eq_true_eq] at hc
  have hkl:k<l.length:=by omega
  obtain ⟨t,ht⟩:∃ t,l[k]?=some t:=⟨l[k],List.getElem?_eq_getElem hkl⟩
  refine aK ?_
  refine aS (aB (aD (by kernel_rfl) (by kernel_rfl) ?_))
  refine nc zg (nc zF (nc zg (nc zh (nc zl (nc (zq (j:=_) (H:=Tm.map_at ht) (hz:=Tm.size_all l)) (nc zr (nc (zw (z:=(ih t (List.mem_of_getElem? ht) (hok t (List.mem_of_getElem? ht))).up hW)) (nc zD (nc zE (nc zg (nc zG ?_)))))))))))
  refine ⟨by kernel_rfl,?_⟩
  refine aR ?_
  refine nc zl (nc zu (nc ze ?_))
  refine ⟨hkl,Wk.trans (a7 (s':=[(1,.bp 1 0 []),(100001,.bx (Tm.cw ⟨f,l⟩)),(2,.bp 2 0 []),(100002,⟨5,.row [.i 0,.lst []],1,0,[1]⟩),(3,.bp 3 0 []),(100003,⟨5,.row [.i f,.lst ((l.take (k+1)).map Tm.cv)],300024,0,[1]⟩),(300024,.tok 42 2),(4,.val (.i ((k+1:Nat):Int)))]) ⟨rfl,rfl,rfl,rfl,rfl,?_,rfl,rfl,trivial⟩) (A8 300024 200024 rfl rfl rfl rfl)⟩
  rw [List.take_add_one,ht,List.map_append]
  simp only [Option.toList_some,List.map_cons,List.map_nil,Tm.cv_eq]
  rfl
 ·refine aE ?_
  have hkl:k=l.length:=by
   simp only [List.length_map,decide_eq_false_iff_not] at hc
   omega
  subst hkl
  rw [List.take_length]
  refine aS (aR ?_)
  refine nc zy (nc zo ?_)
  exact aT ⟨.inr rfl,rfl⟩
def b9C (b:Bd):Bool:=decide (0≤b.v)&&(decide (b.v≤1000)&&decide (0≤n4 b.t 20 10))
def c1E (l:List Bd):Bool:=l.all b9C&&decide (l.length≤8)
def l7 (l:List Bd):Tm→Tm
 | ⟨f,ts⟩=>if f<0 then b7 l (-1-f) else ⟨f,ts.map (l7 l)⟩
theorem a3R {l:List Bd} {t:Tm} (h:t.f<0):l7 l t=b7 l (-1-t.f):=by cases t;rw [l7,if_pos h]
theorem a4b {l:List Bd} {t:Tm} (h:¬ t.f<0):l7 l t=⟨t.f,t.l.map (l7 l)⟩:=by cases t;rw [l7,if_neg h]
theorem a6v {l:List Bd} {t:Tm} (h:t.ok) (hi:∀ b∈l,b.t.ok):(l7 l t).ok:=by
 induction t using Tm.ind with
 | h f ts ih =>
  obtain ⟨h1,h2⟩:=(Tm.ok_iff _).1 h
  simp only at h1 h2
  by_cases hf:f<0
  ·rw [a3R hf];exact a7U hi _
  ·rw [a4b hf]
   refine (Tm.ok_iff _).2 ⟨by simpa using h1,fun s hs=>?_⟩
   obtain ⟨u,hu,rfl⟩:=List.mem_map.1 hs
   exact ih u hu (h2 u hu)
end Go.Proofs.YtglmoficcjphaaaGreat
namespace Go.Proofs.YtglmoficcjphaaaGreat
set_option linter.unusedVariables false
set_option linter.unusedSimpArgs false
theorem W6 {f g:Int→Tm} {t:Tm} (h:∀ v∈t.vs,f v=g v):b5 f t=b5 g t:=by
 induction t using Tm.indp with
 | h t ih =>
  by_cases hf:t.f<0
  ·rw [Tm.vs_var hf] at h
   rw [i9 hf,i9 hf,h _ (by simp)]
  ·rw [Tm.vs_sym hf] at h
   rw [Tm.ps_of_sym (by omega)] at ih
   rw [c9 hf,c9 hf]
   congr 1
   exact List.map_congr_left fun s hs=>ih s hs fun v hv=>h v (List.mem_flatMap.2 ⟨s,hs,hv⟩)
theorem y8 (v:Int):(p8 v).strip=p8 v:=by
 rw [Tm.strip_eq]
 have:(p8 v).ps=[]:=by unfold Tm.ps p8;simp
 rw [this];rfl
theorem b6d (t:Tm):b5 p8 t=t.strip:=by
 induction t using Tm.indp with
 | h t ih =>
  by_cases hf:t.f<0
  ·rw [i9 hf,y8,Tm.strip_eq,Tm.ps_of_var hf]
   unfold p8
   rw [show -1-(-1-t.f)=t.f by omega];rfl
  ·rw [Tm.ps_of_sym (by omega)] at ih
   rw [c9 hf,Tm.strip_eq,Tm.ps_of_sym (by omega)]
   congr 1
   exact List.map_congr_left fun s hs=>ih s hs
theorem a1B (img:Int→Tm) (t:Tm):b5 img t.strip=b5 img t:=by
 induction t using Tm.indp with
 | h t ih =>
  by_cases hf:t.f<0
  ·rw [i9 hf,i9 (by rw [Tm.strip_f];exact hf),Tm.strip_f]
  ·rw [Tm.ps_of_sym (by omega)] at ih
   rw [c9 hf,c9 (by rw [Tm.strip_f];exact hf),Tm.strip_f,Tm.strip_l,Tm.ps_of_sym (by omega),List.map_map]
   congr 1
   exact List.map_congr_left fun s hs=>ih s hs
theorem y6 (img:Int→Tm) (t:Tm):(b5 img t).strip=b5 img t:=by
 induction t using Tm.indp with
 | h t ih =>
  by_cases hf:t.f<0
  ·rw [i9 hf,Tm.strip_strip]
  ·rw [Tm.ps_of_sym (by omega)] at ih
   rw [c9 hf,Tm.strip_eq,Tm.ps_of_sym (t:=⟨t.f,_⟩) (by show 0≤t.f;omega)]
   simp only [List.map_map]
   congr 1
   exact List.map_congr_left fun s hs=>ih s hs
def c2m:List Int→Int→Nat
 | [],_=>0
 | x::l,v=>if x=v then 0 else c2m l v+1
def b6u (a b:List Int):List Bd:=List.zipWith (fun v u=>⟨v,p8 u⟩) a b
def b5B (n:Nat):List Int:=(List.range n).map fun i:Nat=>(i:Int)
def Tm.nv (t:Tm):List Int:=nub t.vs
def c3i (t:Tm):Tm:=b5 (b7 (b6u t.nv (b5B t.nv.length))) t
def c2g (a b:Tm):Bool:=decide (a.nv.length=b.nv.length)&&v8 (b5 (b7 (b6u a.nv b.nv)) a) b
end Go.Proofs.YtglmoficcjphaaaGreat
namespace Go.Proofs.YtglmoficcjphaaaGreat
open Go.RowKit
set_option linter.unusedVariables false
set_option linter.unusedSimpArgs false
set_option maxRecDepth 100000
section
variable {α:Type} (lt:α→α→Bool) (a:Nat)
def U2:Nat→List α→List α
 | 0,L=>L
 | j+1,L=>match L[j+1]?,L[j]? with
  | some x,some y=>if a<j+1∧lt x y=true then U2 j ((L.set (j+1) y).set j x) else L
  | _,_=>L
def x9:Nat→Nat→List α→List α
 | 0,_,L=>L
 | n+1,i,L=>x9 n (i+1) (U2 lt a i L)
theorem a3H:∀ (j:Nat) (L:List α),(U2 lt a j L).length=L.length
 | 0,L=>rfl
 | j+1,L=>by
  unfold U2
  split
  ·split
   ·rw [a3H j];simp
   ·rfl
  ·rfl
theorem a5o {j:Nat} {L:List α} (h:¬ a<j):U2 lt a j L=L:=by
 cases j with
 | zero=>rfl
 | succ j=>unfold U2;split<;>simp [h]
theorem a5Z {j:Nat} {L:List α} {x y:α} (hx:L[j+1]?=some x) (hy:L[j]?=some y) (h:lt x y=false):U2 lt a (j+1) L=L:=by
 unfold U2;rw [hx,hy];simp [h]
theorem a3G {j:Nat} {L:List α} {x y:α} (hx:L[j+1]?=some x) (hy:L[j]?=some y) (ha:a<j+1) (h:lt x y=true):U2 lt a (j+1) L=U2 lt a j ((L.set (j+1) y).set j x):=by
 conv=>lhs;unfold U2
 rw [hx,hy];simp [h,ha]
theorem a3y:∀ (n i:Nat) (L:List α),(x9 lt a n i L).length=L.length
 | 0,_,L=>rfl
 | n+1,i,L=>by rw [x9,a3y n,a3H]
end
def ltC (cmp:Bd→Bd→Int) (x y:Bd):Bool:=decide (cmp x y<0)
theorem t9 (l:List Bd) (j:Nat) (b:Bd):(l.map Bd.cv).set j b.cw=(l.set j b).map Bd.cv:=by rw [List.map_set];rfl
theorem a1Q (cmp:Bd→Bd→Int) (fc:CV) (L0:List Bd) (a b:Nat) (ha:a≤L0.length) (hb:b≤L0.length) (hn:L0.length≤1000000000) (hc:∀ W x y,N5 Tryz.prog W fc [x.cw,y.cw] (.val (.i (cmp x y)))) :
  p9 Tryz.prog 159 [(400000,.mrow 99 3 (L0.map Bd.cv))] [.sl 400000 0 L0.length 3,.val (.i a),.val (.i b),.val fc] (.tup []) [(400000,.mrow 99 3 ((x9 (ltC cmp) a (b-(a+1)) (a+1) L0).map Bd.cv))]:=by
 refine k9 Tryz.func159 Tryz.ntmps159 rfl rfl rfl rfl rfl rfl ?_
 intro w U hU
 obtain ⟨T,hT⟩:∃ T,T=x9 (ltC cmp) a (b-(a+1)) (a+1) L0:=⟨_,rfl⟩
 rw [←hT]
 refine aS (aR ?_)
 refine nc zl (nc zu (nc ze ?_))
 let st:Nat→List Bd→AS:=fun i L=>[(0,.sl 400000 0 L0.length 3),(1,.val (.i a)),(2,.val (.i b)),(3,.val fc),(8,.val (.i i)),(400000,.mrow 99 3 (L.map Bd.cv))]
 refine aB (l6 (fun m s=>∃ i L,m=(b+1)-i∧L.length=L0.length∧a+1≤i∧x9 (ltC cmp) a (b-i) i L=T∧s=st i L) (s':=st (a+1) L0) (a7 ⟨rfl,rfl,rfl,rfl,rfl,rfl,trivial⟩) ⟨a+1,L0,rfl,rfl,Nat.le_refl _,hT.symm,rfl⟩ ?_)
 rintro m s ⟨i,L,rfl,hL,hi,hI,rfl⟩
 refine aS (aS (aR ?_))
 refine nc zl (nc zl (nc zi ?_))
 refine aC rfl (fun hlt=>?_) (fun hlt=>?_)
 ·have hib:i<b:=by simpa using hlt
  refine aK ?_
  refine aS (aB (aS (aR ?_)))
  refine nc zl (nc ze ?_)
  let st2:Nat→List Bd→AS:=fun j L=>[(0,.sl 400000 0 L0.length 3),(1,.val (.i a)),(2,.val (.i b)),(3,.val fc),(8,.val (.i i)),(9,.val (.i j)),(400000,.mrow 99 3 (L.map Bd.cv))]
  refine aB (l6 (fun m s=>∃ j L',m=j∧L'.length=L0.length∧j≤i∧U2 (ltC cmp) a j L'=U2 (ltC cmp) a i L∧s=st2 j L') (s':=st2 i L) (a7 ⟨rfl,rfl,rfl,rfl,rfl,rfl,rfl,trivial⟩) ⟨i,L,rfl,hL,Nat.le_refl _,rfl,rfl⟩ ?_)
  rintro m s ⟨j,L',hmj,hL',hji,hJ,rfl⟩
  by_cases hja:a<j
  ·obtain ⟨j,rfl⟩:∃ k,j=k+1:=⟨j-1,by omega⟩
   obtain ⟨x,hx⟩:∃ x,L'[j+1]?=some x:=⟨L'[j+1]'(by omega),List.getElem?_eq_getElem (by omega)⟩
   obtain ⟨y,hy⟩:∃ y,L'[j]?=some y:=⟨L'[j]'(by omega),List.getElem?_eq_getElem (by omega)⟩
   have hx':=Bd.map_at hx
   have hy':=Bd.map_at hy
   have g:decide (((j+1:Nat):Int)>(a:Int))=true:=by simp;omega
   refine aS (aS (aD (by kernel_rfl) (by kernel_rfl) ?_))
   refine nc zl (nc zl (nc zH (nc zl (nc (zl (p:=gb)) (nc (zl (p:=gb)) (nc (zl (p:=gb)) (nc (zI (k:=j+1) (p:=gb)) (nc (zJ (r:=gb) (G:=hx')) (nc (zl (p:=gb)) (nc (zl (p:=gb)) (nc (zj (r:=gb)) (nc (zI (k:=j) (p:=gb)) (nc (zJ (r:=gb) (G:=hy')) (nc (zK (t:=gb) (E:=hc _ x y)) (nc (zi (r:=gb)) (nc zM ?_))))))))))))))))
   refine ⟨by kernel_rfl,?_⟩
   refine aC rfl (fun hc1=>?_) (fun hc1=>?_)
   ·have hlt2:ltC cmp x y=true:=hc1
    refine aK ?_
    refine AWp.wk (a7 (s':=st2 (j+1) L') ⟨rfl,rfl,rfl,rfl,rfl,rfl,rfl,trivial⟩) ?_
    refine aS (aB (aD (by kernel_rfl) (by kernel_rfl) ?_))
    refine nc zl (nc zl (nc zl (nc zl (nc zj (nc zl (nc zl (nc zj (nc (zI (k:=j)) (nc (zJ (G:=hy')) (nc zl (nc zl (nc (zI (k:=j+1)) (nc (zJ (G:=hx')) (nc (zI (k:=j+1)) (nc (zN (F:=hx')) (nc (zI (k:=j)) ?_))))))))))))))))
    refine nc (zN (F:=(by rw [List.getElem?_set_ne (by omega)];exact hy'))) ?_
    refine ⟨by kernel_rfl,?_⟩
    refine aR ?_
    refine nc zl (nc zj (nc ze ?_))
    refine ⟨j,st2 j ((L'.set (j+1) y).set j x),by omega,⟨j,_,rfl,by simp [hL'],by omega,?_,rfl⟩,a7 ⟨rfl,rfl,rfl,rfl,rfl,?_,?_,trivial⟩⟩
    ·rw [←hJ,a3G _ _ hx hy hja hlt2]
    ·show some (AV.val (.i _))=some (AV.val (.i _))
     congr 3;omega
    ·show some (AV.mrow _ _ _)=some (AV.mrow _ _ _)
     rw [t9,t9]
   ·have hlt2:ltC cmp x y=false:=hc1
    refine aE ?_
    refine AWp.wk (a7 (s':=st2 (j+1) L') ⟨rfl,rfl,rfl,rfl,rfl,rfl,rfl,trivial⟩) ?_
    refine aR ?_
    refine nc zl (nc zu (nc ze ?_))
    refine ⟨(b+1)-(i+1),st (i+1) L',by omega,⟨i+1,L',rfl,hL',by omega,?_,rfl⟩,a7 ⟨rfl,rfl,rfl,rfl,rfl,rfl,trivial⟩⟩
    have hs:L'=U2 (ltC cmp) a i L:=by rw [←hJ,a5Z _ _ hx hy hlt2]
    rw [←hI,show b-i=(b-(i+1))+1 by omega,x9,hs]
  ·have g:decide ((j:Int)>(a:Int))=false:=by simp;omega
   refine aS (aS (aD (by kernel_rfl) (by kernel_rfl) ?_))
   refine nc zl (nc zl (nc zH (nc zl (nc zO (nc zO (nc zO (nc zO (nc zO (nc zO (nc zO (nc zO (nc zO (nc zO (nc zO (nc zO (nc zP ?_))))))))))))))))
   refine ⟨by kernel_rfl,?_⟩
   refine aC rfl (fun hc1=>?_) (fun hc1=>?_)
   ·cases hc1
   ·refine aE ?_
    refine AWp.wk (a7 (s':=st2 (j) L') ⟨rfl,rfl,rfl,rfl,rfl,rfl,rfl,trivial⟩) ?_
    refine aR ?_
    refine nc zl (nc zu (nc ze ?_))
    refine ⟨(b+1)-(i+1),st (i+1) L',by omega,⟨i+1,L',rfl,hL',by omega,?_,rfl⟩,a7 ⟨rfl,rfl,rfl,rfl,rfl,rfl,trivial⟩⟩
    have hs:L'=U2 (ltC cmp) a i L:=by rw [←hJ,a5o _ _ hja]
    rw [←hI,show b-i=(b-(i+1))+1 by omega,x9,hs]
 ·have hib:¬ i<b:=by simpa using hlt
  refine aE ?_
  refine ⟨.inl rfl,_,Wk.refl _,rfl,?_,trivial⟩
  show some (AV.mrow _ _ _)=some (AV.mrow _ _ _)
  rw [show b-i=0 by omega] at hI
  rw [←hI]
  rfl
theorem a2R (W:World) (x y:Int):AFun Tryz.prog W 120 [.i x,.i y] (.val (.i (I7 x y))):=by
 refine ⟨C6 Tryz.func120 rfl rfl,.inl rfl,rfl,?_⟩
 rintro U w vs hW ⟨u1,us1,rfl,h1,u2,us2,rfl,h2,h3⟩
 have h3:us2=[]:=h3
 subst h3
 obtain ⟨rfl,_⟩:=n9.1 h1
 obtain ⟨rfl,_⟩:=n9.1 h2
 refine (K7 x y w).mono ?_
 rintro e w' ⟨rfl,hb⟩
 exact ⟨_,rfl,n9.2 ⟨rfl,rfl⟩,hb⟩
def a8M (x y:Bd):Int:=I7 x.v y.v
theorem b5n (W:World) (x y:Bd):AFun Tryz.prog W 134 [x.cw,y.cw] (.val (.i (a8M x y))):=by
 refine f0 (rs:=[.i (a8M x y)]) Tryz.func134 Tryz.ntmps134 rfl rfl rfl rfl ?_
 intro w U hW
 refine aS (aR ?_)
 refine nc zd (nc zd (nc ze ?_))
 refine aS (aR ?_)
 refine nc zg (nc zh (nc zg (nc zh (nc (zw (z:=a2R _ x.v y.v)) (nc ze ?_)))))
 exact aT ⟨.inr rfl,rfl⟩
theorem b2u (W:World) (x y:Bd):AFun Tryz.prog W 136 [x.cw,y.cw] (.val (.b (decide (x.v=y.v)))):=by
 refine f0 (rs:=[.b (decide (x.v=y.v))]) Tryz.func136 Tryz.ntmps136 rfl rfl rfl rfl ?_
 intro w U hW
 refine aS (aR ?_)
 refine nc zd (nc zd (nc ze ?_))
 refine aS (aR ?_)
 refine nc zg (nc zh (nc zg (nc zh (nc zt (nc ze ?_)))))
 exact aT ⟨.inr rfl,rfl⟩
def R5 (b:Bd):Bool:=decide (b.t.f<0)&&decide (-1-b.t.f=b.v)
theorem b4Q (W:World) (b:Bd) (h1 : -9223372036854775808≤b.t.f):AFun Tryz.prog W 109 [b.cw] (.val (.b (R5 b))):=by
 refine f0 (rs:=[.b (R5 b)]) Tryz.func109 Tryz.ntmps109 rfl rfl rfl rfl ?_
 intro w U hW
 refine aS (aR ?_)
 refine nc zd (nc ze ?_)
 unfold R5
 by_cases hf:b.t.f<0
 ·have g:decide (b.t.f<0)=true:=by simpa using hf
  refine aS (aD (by kernel_rfl) (by kernel_rfl) ?_)
  refine nc zg (nc zh (nc (zw (z:=Q7 _ b.t)) (nc zl (nc (zg (r:=gb)) (nc (zh (r:=gb)) (nc (zw (p:=gb) (z:=T4 _ b.t h1 hf)) (nc (zg (r:=gb)) (nc (zh (r:=gb)) (nc (zt (r:=gb)) (nc zM (nc ze ?_)))))))))))
  refine ⟨by kernel_rfl,?_⟩
  refine aT ⟨.inr rfl,?_⟩
  rw [g];rfl
 ·have g:decide (b.t.f<0)=false:=by simpa using hf
  refine aS (aD (by kernel_rfl) (by kernel_rfl) ?_)
  refine nc zg (nc zh (nc (zw (z:=Q7 _ b.t)) (nc zl (nc zO (nc zO (nc zO (nc zO (nc zO (nc zO (nc zP (nc ze ?_)))))))))))
  refine ⟨by kernel_rfl,?_⟩
  refine aT ⟨.inr rfl,?_⟩
  rw [g];rfl
theorem a9f (L:List Bd) (hn:L.length≤1000000000) :
  p9 Tryz.prog 132 [] [.val (.lst (L.map Bd.cv))] (.sl 250007 0 L.length 3) [(250007,.mrow 99 3 (L.map Bd.cv))]:=by
 have hsz:=Bd.size_all L
 refine k9 Tryz.func132 Tryz.ntmps132 rfl rfl rfl rfl rfl rfl ?_
 intro w U hU
 refine AWp.nil 0 rfl rfl (fun hl=>?_) ?_
 ·have hL:L=[]:=by simpa using hl
  subst hL
  refine aS (aR ?_)
  refine nc ze ?_
  refine aS (aS (aR ?_))
  refine nc zl (nc zQ ?_)
  refine aC rfl (fun _=>?_) (fun h=>by cases h)
  refine aS (aR ?_)
  refine nc ze ?_
  exact aT ⟨.inr rfl,_,b7Z 2 250007 99 3 rfl rfl rfl rfl rfl,rfl,rfl,trivial⟩
 ·refine aS (aR ?_)
  refine nc ze ?_
  refine aS (aS (aR ?_))
  refine nc zl (nc zR ?_)
  refine aC rfl (fun h=>by cases h) (fun _=>?_)
  refine aK ?_
  refine AWp.wk ((b9n 0 rfl rfl).trans (a7 (s':=[(0,.val (.lst (L.map Bd.cv)))]) ⟨rfl,trivial⟩)) ?_
  refine aS (aR ?_)
  refine nc zS (nc zl (nc (zU 250007) (nc ze ?_)))
  refine aT ⟨.inr rfl,_,Wk.refl _,?_,rfl,trivial⟩
  show some (AV.sl _ _ _ _)=some (AV.sl _ _ _ _)
  rw [List.length_map]
  rfl
def a6i (q:Bd→Bool):List Bd→Nat→Int
 | [],_ => -1
 | b::l,i=>if q b then (i:Int) else a6i q l (i+1)
theorem a1j {q:Bd→Bool}:∀ {l:List Bd} {i:Nat},(∀ b∈l,q b=false)→a6i q l i = -1
 | [],_,_=>rfl
 | b::l,i,h=>by rw [a6i,h b (by simp),if_neg (by simp)];exact a1j fun c hc=>h c (List.mem_cons_of_mem _ hc)
theorem a6B {q:Bd→Bool}:∀ {l:List Bd} {i k:Nat} {b:Bd},l[k]?=some b→q b=true→(∀ j c,j<k→l[j]?=some c→q c=false)→a6i q l i=((i+k:Nat):Int)
 | [],_,_,_,h,_,_=>by simp at h
 | x::l,i,0,b,h,hq,_=>by simp at h;subst h;rw [a6i,if_pos hq];rfl
 | x::l,i,k+1,b,h,hq,hf=>by
  rw [a6i,hf 0 x (by omega) rfl,if_neg (by simp),a6B (k:=k) (by simpa using h) hq fun j c hj hc=>hf (j+1) c (by omega) (by simpa using hc)]
  congr 1;omega
theorem a9U (q:Bd→Bool) (fc:CV) (L:List Bd) (n:Nat) (hnl:n≤L.length) (hn:L.length≤1000000000) (hc:∀ W x,x∈L.take n→N5 Tryz.prog W fc [x.cw] (.val (.b (q x)))) :
  p9 Tryz.prog 131 [(400000,.mrow 99 3 (L.map Bd.cv))] [.sl 400000 0 n 3,.val fc] (.val (.i (a6i q (L.take n) 0))) [(400000,.mrow 99 3 (L.map Bd.cv))]:=by
 refine k9 Tryz.func131 Tryz.ntmps131 rfl rfl rfl rfl rfl rfl ?_
 intro w U hU
 refine aS (aR ?_)
 refine nc ze ?_
 refine aS (aS (aR ?_))
 refine nc zl (nc zV (nc zl ?_))
 refine aB (A9 n (fun k=>∀ j c,j<k→(L.take n)[j]?=some c→q c=false) (fun k=>[(0,.sl 400000 0 n 3),(1,.val fc),(7,.val (.i n)),(8,.val (.i k)),(400000,.mrow 99 3 (L.map Bd.cv))]) (a7 ⟨rfl,rfl,rfl,rfl,rfl,trivial⟩) (fun j c hj=>by omega) ?_)
 intro k hk hI
 refine aS (aR ?_)
 refine nc zi ?_
 refine aS (aC rfl (fun hlt=>?_) (fun hlt=>?_))
 ·have hkl:k<n:=by simpa using hlt
  obtain ⟨x,hx0⟩:∃ x,L[k]?=some x:=⟨L[k]'(by omega),List.getElem?_eq_getElem (by omega)⟩
  have hx:(L.take n)[k]?=some x:=by rw [List.getElem?_take,if_pos hkl];exact hx0
  have hx':=Bd.map_at hx0
  refine aK ?_
  refine aS (aB (aS (aR ?_)))
  refine nc zl (nc ze ?_)
  refine aS (aR ?_)
  refine nc zl (nc zl (nc zl (nc (zI (k:=k)) (nc (zJ (G:=hx')) (nc (zK (E:=hc _ x (List.mem_of_getElem? hx))) ?_)))))
  refine aC rfl (fun hq=>?_) (fun hq=>?_)
  ·refine aS (aR ?_)
   refine nc zl (nc ze ?_)
   refine aT ⟨.inr rfl,_,Wk.refl _,?_,rfl,trivial⟩
   rw [a6B hx hq hI,Nat.zero_add]
   rfl
  ·refine aK ?_
   refine aR ?_
   refine nc zu (nc zl ?_)
   refine ⟨hkl,fun j c hj hc=>?_,a7 ⟨rfl,rfl,rfl,rfl,rfl,trivial⟩⟩
   rcases Nat.lt_or_ge j k with h | h
   ·exact hI j c h hc
   ·have:j=k:=by omega
    subst this
    rw [hx] at hc
    cases hc
    exact hq
 ·have hkl:¬ k<n:=by simpa using hlt
  refine aE ?_
  refine aS (aR ?_)
  refine nc ze ?_
  refine aT ⟨.inr rfl,_,Wk.refl _,?_,rfl,trivial⟩
  rw [a1j fun b hb=>?_]
  ·rfl
  ·obtain ⟨j,hj⟩:=List.getElem?_of_mem hb
   have hjl:j<n:=by
    rw [List.getElem?_take] at hj
    split at hj
    ·assumption
    ·cases hj
   exact hI j b (by omega) hj
def Bd.zero:Bd:=⟨0,⟨0,[]⟩⟩
def F0 (q:Bd→Bd→Bool) (L:List Bd):Nat→List Bd
 | 0=>[]
 | m+1=>match L[m]?,(match m with | 0=>none | k+1=>L[k]?) with
  | some x,some y=>if q x y then F0 q L m else F0 q L m++[x]
  | some x,none=>F0 q L m++[x]
  | none,_=>F0 q L m
theorem a0K {q:Bd→Bd→Bool} {L:List Bd} {m:Nat} {x y:Bd} (hx:L[m+1]?=some x) (hy:L[m]?=some y) (h:q x y=true):F0 q L (m+2)=F0 q L (m+1):=by
 rw [F0];simp only [hx,hy,h,if_true]
theorem a3w {q:Bd→Bd→Bool} {L:List Bd} {m:Nat} {x y:Bd} (hx:L[m+1]?=some x) (hy:L[m]?=some y) (h:q x y=false):F0 q L (m+2)=F0 q L (m+1)++[x]:=by
 rw [F0];simp [hx,hy,h]
theorem a7P {q:Bd→Bd→Bool} {L:List Bd}:F0 q L 1=L.take 1:=by
 rw [F0]
 cases L with
 | nil=>rfl
 | cons x l=>simp [F0]
theorem H8 {α:Type} {l:List α} {k:Nat} {x:α} (h:l[k]?=some x):l.take (k+1)=l.take k++[x]:=by
 rw [List.take_add_one,h];rfl
theorem a8c {α:Type} {l:List α} {k:Nat} {x:α} (h:k<l.length):(l.set k x).take (k+1)=l.take k++[x]:=by
 rw [H8 (x:=x) (by simp [h]),List.take_set_of_le (Nat.le_refl _)]
theorem a7A (q:Bd→Bd→Bool) (fc:CV) (L:List Bd) (hn:L.length≤1000000000) (hc:∀ W x y,N5 Tryz.prog W fc [x.cw,y.cw] (.val (.b (q x y)))) :
  p9 Tryz.prog 135 [(400000,.mrow 99 3 (L.map Bd.cv))] [.sl 400000 0 L.length 3,.val fc] (.sl 400000 0 (F0 q L L.length).length 3) [(400000,.mrow 99 3 ((F0 q L L.length++List.replicate (L.length-(F0 q L L.length).length) Bd.zero).map Bd.cv))]:=by
 refine k9 Tryz.func135 Tryz.ntmps135 rfl rfl rfl rfl rfl rfl ?_
 intro w U hU
 have hwhole:F0 q L L.length=L→(F0 q L L.length).length=L.length∧(F0 q L L.length++List.replicate (L.length-(F0 q L L.length).length) Bd.zero)=L:=fun h=>by rw [h];simp
 refine aS (aR ?_)
 refine nc ze ?_
 refine aS (aS (aR ?_))
 refine nc zl (nc zV (nc zi ?_))
 refine aC rfl (fun h2=>?_) (fun h2=>?_)
 ·have h2:L.length<2:=by have h2:decide ((L.length:Int)<2)=true:=h2;simp at h2;omega
  have hw:=hwhole (by
   match L,h2 with
   | [],_=>rfl
   | [x],_=>rfl)
  refine aS (aR ?_)
  refine nc zl (nc ze ?_)
  refine aT ⟨.inr rfl,_,Wk.refl _,?_,?_,trivial⟩
  ·rw [hw.1];rfl
  ·rw [hw.2];rfl
 ·have h2:2≤L.length:=by have h2:decide ((L.length:Int)<2)=false:=h2;simp at h2;omega
  refine aK ?_
  refine aS (aS (aR ?_))
  refine nc ze ?_
  let st:Nat→AS:=fun k=>[(0,.sl 400000 0 L.length 3),(1,.val fc),(5,.val (.i ((k+1:Nat):Int))),(400000,.mrow 99 3 (L.map Bd.cv))]
  refine aB (A9 L.length (fun k=>k+1≤L.length∧F0 q L (k+1)=L.take (k+1)) st (a7 ⟨rfl,rfl,rfl,rfl,trivial⟩) ⟨by omega,a7P⟩ ?_)
  rintro k hk ⟨hk1,hI⟩
  refine aS (aS (aR ?_))
  refine nc zl (nc zl (nc zV (nc zi ?_)))
  refine aC rfl (fun hlt=>?_) (fun hlt=>?_)
  ·have hkl:k+1<L.length:=by have h3:decide ((((k+1:Nat):Int))<(L.length:Int))=true:=hlt;simp at h3;omega
   obtain ⟨x,hx⟩:∃ x,L[k+1]?=some x:=⟨L[k+1],List.getElem?_eq_getElem hkl⟩
   obtain ⟨y,hy⟩:∃ y,L[k]?=some y:=⟨L[k]'(by omega),List.getElem?_eq_getElem (by omega)⟩
   have hx':=Bd.map_at hx
   have hy':=Bd.map_at hy
   refine aK ?_
   refine aS (aB (aS (aD (by kernel_rfl) (by kernel_rfl) ?_)))
   refine nc zl (nc zl (nc zl (nc (zI (k:=k+1)) (nc (zJ (G:=hx')) (nc zl (nc zl (nc zj (nc (zI (k:=k)) (nc (zJ (G:=hy')) (nc (zK (E:=hc _ x y)) ?_))))))))))
   refine ⟨by kernel_rfl,?_⟩
   refine aC rfl (fun hq=>?_) (fun hq=>?_)
   ·have hq:q x y=true:=hq
    refine AWp.wk (a7 (s':=st k) ⟨rfl,rfl,rfl,rfl,trivial⟩) ?_
    refine aS (aR ?_)
    refine nc zl (nc zl (nc (zW (j:=k+1)) (nc ze ?_)))
    refine aS (aS (aR ?_))
    refine nc ze ?_
    let st2:Nat→Nat→List Bd→AS:=fun j kk C=>[(0,.sl 400000 0 L.length 3),(1,.val fc),(5,.val (.i kk)),(6,.sl 400000 (0+(k+1)) (L.length-(k+1)) 3),(7,.val (.i ((j+1:Nat):Int))),(400000,.mrow 99 3 (C.map Bd.cv))]
    have h0:F0 q L (k+2)=L.take (k+1):=by rw [a0K hx hy hq,hI]
    refine aB (l6 (fun m s=>∃ j kk C,m=L.length-j∧k+1+(j+1)≤L.length∧kk≤k+1+j∧C.length=L.length∧C.take kk=F0 q L (k+1+(j+1))∧(∀ i,k+1+j≤i→C[i]?=L[i]?)∧s=st2 j kk C) (s':=st2 0 (k+1) L) (a7 ⟨rfl,rfl,rfl,rfl,rfl,rfl,trivial⟩) ⟨0,k+1,L,rfl,by omega,by omega,rfl,h0.symm,fun _ _=>rfl,rfl⟩ ?_)
    rintro m s ⟨j,kk,C,hm,hj1,hj2,hC,hI1,hI2,rfl⟩
    refine aS (aS (aR ?_))
    refine nc zl (nc zl (nc zV (nc zi ?_)))
    refine aC rfl (fun hlt2=>?_) (fun hlt2=>?_)
    ·have hjl:k+1+(j+1)<L.length:=by have h3:decide ((((j+1:Nat):Int))<((L.length-(k+1):Nat):Int))=true:=hlt2;simp at h3;omega
     obtain ⟨x2,hx2⟩:∃ x,L[k+1+(j+1)]?=some x:=⟨L[k+1+(j+1)],List.getElem?_eq_getElem hjl⟩
     obtain ⟨y2,hy2⟩:∃ y,L[k+1+j]?=some y:=⟨L[k+1+j]'(by omega),List.getElem?_eq_getElem (by omega)⟩
     have hx2':=Bd.map_at ((hI2 _ (by omega)).trans hx2)
     have hy2':=Bd.map_at ((hI2 _ (by omega)).trans hy2)
     refine aK ?_
     refine aS (aB (aS (aD (by kernel_rfl) (by kernel_rfl) ?_)))
     refine nc zl (nc zl (nc zl (nc (zI (k:=k+1+(j+1))) (nc (zJ (G:=hx2')) (nc zl (nc zl (nc zj (nc (zI (k:=k+1+j)) (nc (zJ (G:=hy2')) (nc (zK (E:=hc _ x2 y2)) (nc zX ?_)))))))))))
     refine ⟨by kernel_rfl,?_⟩
     refine aC rfl (fun hq2=>?_) (fun hq2=>?_)
     ·have hq2:q x2 y2=false:=by simpa using hq2
      refine AWp.wk (a7 (s':=st2 j kk C) ⟨rfl,rfl,rfl,rfl,rfl,rfl,trivial⟩) ?_
      obtain ⟨z2,hz2⟩:∃ z,C[kk]?=some z:=⟨C[kk]'(by omega),List.getElem?_eq_getElem (by omega)⟩
      have hz2':=Bd.map_at hz2
      refine aS (aR ?_)
      refine nc zl (nc zl (nc zl (nc zl (nc (zI (k:=k+1+(j+1))) (nc (zJ (G:=hx2')) (nc (zI (k:=kk)) (nc (zN (F:=hz2')) ?_)))))))
      refine aR ?_
      refine nc zl (nc zu (nc ze ?_))
      refine aR ?_
      refine nc zl (nc zu (nc ze ?_))
      refine ⟨L.length-(j+1),st2 (j+1) (kk+1) (C.set kk x2),by omega,⟨j+1,kk+1,C.set kk x2,rfl,by omega,by omega,by simp [hC],?_,fun i hi=>?_,rfl⟩,a7 ⟨rfl,rfl,rfl,rfl,rfl,?_,trivial⟩⟩
      ·rw [a8c (by omega),hI1,show k+1+(j+1+1)=(k+1+j)+2 by omega,a3w (m:=k+1+j) hx2 hy2 hq2];rfl
      ·rw [List.getElem?_set_ne (by omega)];exact hI2 i (by omega)
      ·show some (AV.mrow _ _ _)=some (AV.mrow _ _ _)
       rw [t9]
     ·have hq2:q x2 y2=true:=by simpa using hq2
      refine aK ?_
      refine AWp.wk (a7 (s':=st2 j kk C) ⟨rfl,rfl,rfl,rfl,rfl,rfl,trivial⟩) ?_
      refine aR ?_
      refine nc zl (nc zu (nc ze ?_))
      refine ⟨L.length-(j+1),st2 (j+1) kk C,by omega,⟨j+1,kk,C,rfl,by omega,by omega,hC,?_,fun i hi=>hI2 i (by omega),rfl⟩,a7 ⟨rfl,rfl,rfl,rfl,rfl,rfl,trivial⟩⟩
      rw [hI1,show k+1+(j+1+1)=(k+1+j)+2 by omega,a0K (m:=k+1+j) hx2 hy2 hq2];rfl
    ·have hjl:k+1+(j+1)=L.length:=by have h3:decide ((((j+1:Nat):Int))<((L.length-(k+1):Nat):Int))=false:=hlt2;simp at h3;omega
     refine aE ?_
     refine AWp.wk (a7 (s':=st2 j kk C) ⟨rfl,rfl,rfl,rfl,rfl,rfl,trivial⟩) ?_
     refine aS (aR ?_)
     refine nc zl (nc zl (nc (zW (j:=kk)) (nc zY ?_)))
     refine aS (aR ?_)
     refine nc zl (nc zl (nc (zZ (j:=kk)) (nc ze ?_)))
     rw [hjl] at hI1
     have hkk:kk=(F0 q L L.length).length:=by rw [←hI1];simp;omega
     refine aT ⟨.inr rfl,_,Wk.refl _,?_,?_,trivial⟩
     ·rw [←hkk];rfl
     ·show some (AV.mrow _ _ _)=some (AV.mrow _ _ _)
      rw [←hkk,←hI1,List.map_append,←List.map_take,List.map_replicate]
      simp only [Nat.zero_add]
      rw [show kk+(L.length-kk)=(C.map Bd.cv).length by simp;omega,List.drop_length,List.append_nil]
      rfl
   ·have hq:q x y=false:=hq
    refine aK ?_
    refine AWp.wk (a7 (s':=st k) ⟨rfl,rfl,rfl,rfl,trivial⟩) ?_
    refine aR ?_
    refine nc zl (nc zu (nc ze ?_))
    refine ⟨by omega,⟨by omega,?_⟩,a7 ⟨rfl,rfl,rfl,rfl,trivial⟩⟩
    rw [a3w hx hy hq,hI,H8 hx]
  ·have hkl:k+1=L.length:=by have h3:decide ((((k+1:Nat):Int))<(L.length:Int))=false:=hlt;simp at h3;omega
   refine aE ?_
   rw [hkl,List.take_length] at hI
   have hw:=hwhole hI
   refine aS (aR ?_)
   refine nc zl (nc ze ?_)
   refine aT ⟨.inr rfl,_,Wk.refl _,?_,?_,trivial⟩
   ·rw [hw.1];rfl
   ·rw [hw.2];rfl
theorem b0a (q:Bd→Bool) (L:List Bd):(a6i q L 0 = -1∧L.filter (fun b=>!q b)=L)∨∃ (i:Nat) (b:Bd),a6i q L 0=(i:Int)∧L[i]?=some b∧q b=true∧(L.take (i+1)).filter (fun b=>!q b)=L.take i:=by
 by_cases h:∃ b∈L,q b=true
 ·right
  obtain ⟨k,hk,hmin⟩:=b6k (fun k=>∃ b,L[k]?=some b∧q b=true) (by
   obtain ⟨b,hb,hq⟩:=h
   obtain ⟨j,hj⟩:=List.getElem?_of_mem hb
   exact ⟨j,b,hj,hq⟩)
  obtain ⟨b,hb,hq⟩:=hk
  have hf:∀ j c,j<k→L[j]?=some c→q c=false:=fun j c hj hc=>by
   cases hqc:q c with
   | false=>rfl
   | true=>have:=hmin j ⟨c,hc,hqc⟩;omega
  refine ⟨k,b,by rw [a6B hb hq hf,Nat.zero_add],hb,hq,?_⟩
  rw [H8 hb,List.filter_append]
  have e1:(L.take k).filter (fun b=>!q b)=L.take k:=by
   rw [List.filter_eq_self]
   intro c hc
   obtain ⟨j,hj⟩:=List.getElem?_of_mem hc
   rw [List.getElem?_take] at hj
   split at hj
   ·rename_i hjk
    rw [hf j c hjk hj];rfl
   ·cases hj
  rw [e1]
  simp [hq]
 ·left
  have hf:∀ b∈L,q b=false:=fun b hb=>by
   cases hqc:q b with
   | false=>rfl
   | true=>exact absurd ⟨b,hb,hqc⟩ h
  refine ⟨a1j hf,?_⟩
  rw [List.filter_eq_self]
  intro c hc
  rw [hf c hc];rfl
theorem a9w (q:Bd→Bool) (fc:CV) (L:List Bd) (n:Nat) (hnl:n≤L.length) (hn:L.length≤1000000000) (hc:∀ W x,x∈L.take n→N5 Tryz.prog W fc [x.cw] (.val (.b (q x)))) :
  p9 Tryz.prog 107 [(400000,.mrow 99 3 (L.map Bd.cv))] [.sl 400000 0 n 3,.val fc] (.sl 400000 0 ((L.take n).filter (fun b=>!q b)).length 3) [(400000,.mrow 99 3 (((L.take n).filter (fun b=>!q b)++(List.replicate (n-((L.take n).filter (fun b=>!q b)).length) Bd.zero++L.drop n)).map Bd.cv))]:=by
 refine k9 Tryz.func107 Tryz.ntmps107 rfl rfl rfl rfl rfl rfl ?_
 intro w U hU
 obtain ⟨R,hR⟩:∃ R,R=(L.take n).filter (fun b=>!q b):=⟨_,rfl⟩
 rw [←hR]
 have hidx:=a9U q fc L n hnl hn hc
 refine aS (aR ?_)
 refine nc ze ?_
 refine aS (aR ?_)
 refine nc zl (nc zl (nc (z0 (z:=hidx) (G:=i7 (by first | rfl | kernel_rfl))) (nc ze ?_)))
 refine aS (aS (aR ?_))
 refine nc zl (nc zt ?_)
 rcases b0a q (L.take n) with ⟨hi,hf⟩ | ⟨i,b,hi,hb,hqb,hf⟩
 ·rw [←hR] at hf
  have hl:R.length=n:=by rw [hf];simp;omega
  refine aC rfl (fun _=>?_) (fun h=>?_)
  ·refine aS (aR ?_)
   refine nc zl (nc ze ?_)
   refine aT ⟨.inr rfl,_,Wk.refl _,?_,?_,trivial⟩
   ·rw [hl];rfl
   ·rw [hl,Nat.sub_self,List.replicate_zero,List.nil_append,hf,List.take_append_drop];rfl
  ·have h:decide (a6i q (L.take n) 0 = -1)=false:=h
   rw [hi] at h
   cases h
 ·have hin:i<n:=by
   rw [List.getElem?_take] at hb
   split at hb
   ·assumption
   ·cases hb
  rw [List.take_take,Nat.min_eq_left (by omega),List.take_take,Nat.min_eq_left (by omega)] at hf
  refine aC rfl (fun h=>?_) (fun _=>?_)
  ·have h:decide (a6i q (L.take n) 0 = -1)=true:=h
   rw [hi] at h
   simp at h
  refine aK ?_
  refine AWp.wk (a7 (s':=[(0,.sl 400000 0 n 3),(1,.val fc),(5,.val (.i i)),(400000,.mrow 99 3 (L.map Bd.cv))]) ⟨rfl,rfl,by rw [←hi];rfl,rfl,trivial⟩) ?_
  refine aS (aS (aR ?_))
  refine nc zl (nc zu (nc ze ?_))
  let st:Nat→Nat→List Bd→AS:=fun j ii C=>[(0,.sl 400000 0 n 3),(1,.val fc),(5,.val (.i ii)),(6,.val (.i ((j+1:Nat):Int))),(400000,.mrow 99 3 (C.map Bd.cv))]
  refine aB (l6 (fun m s=>∃ j ii C,m=n-j∧j+1≤n∧ii≤j∧C.length=L.length∧C.take ii=(L.take (j+1)).filter (fun b=>!q b)∧(∀ p,j+1≤p→C[p]?=L[p]?)∧s=st j ii C) (s':=st i i L) (a7 ⟨rfl,rfl,rfl,rfl,rfl,trivial⟩) ⟨i,i,L,rfl,by omega,Nat.le_refl _,rfl,hf.symm,fun _ _=>rfl,rfl⟩ ?_)
  rintro m s ⟨j,ii,C,hm,hj1,hj2,hC,hI1,hI2,rfl⟩
  refine aS (aS (aR ?_))
  refine nc zl (nc zl (nc zV (nc zi ?_)))
  refine aC rfl (fun hlt=>?_) (fun hlt=>?_)
  ·have hjl:j+1<n:=by have h3:decide ((((j+1:Nat):Int))<(n:Int))=true:=hlt;simp at h3;omega
   obtain ⟨x,hx⟩:∃ x,L[j+1]?=some x:=⟨L[j+1]'(by omega),List.getElem?_eq_getElem (by omega)⟩
   have hx':=Bd.map_at ((hI2 _ (by omega)).trans hx)
   have hxm:x∈L.take n:=List.mem_of_getElem? (i:=j+1) (by rw [List.getElem?_take,if_pos hjl];exact hx)
   refine aK ?_
   refine aS (aB (aS (aR ?_)))
   refine nc zl (nc zl (nc (zI (k:=j+1)) (nc (zJ (G:=hx')) (nc zk (nc zo ?_)))))
   refine aS (aR ?_)
   refine nc zl (nc zy (nc (zK (E:=hc _ x hxm)) (nc zX ?_)))
   refine aC rfl (fun hq=>?_) (fun hq=>?_)
   ·have hq:q x=false:=by simpa using hq
    obtain ⟨z,hz⟩:∃ z,C[ii]?=some z:=⟨C[ii]'(by omega),List.getElem?_eq_getElem (by omega)⟩
    have hz':=Bd.map_at hz
    refine aS (aR ?_)
    refine nc zl (nc zl (nc zy (nc (zI (k:=ii)) (nc (zN (F:=hz')) ?_))))
    refine aR ?_
    refine nc zl (nc zu (nc ze ?_))
    refine aR ?_
    refine nc zl (nc zu (nc ze ?_))
    refine ⟨n-(j+1),st (j+1) (ii+1) (C.set ii x),by omega,⟨j+1,ii+1,C.set ii x,rfl,by omega,by omega,by simp [hC],?_,fun p hp=>?_,rfl⟩,a7 ⟨rfl,rfl,rfl,rfl,?_,trivial⟩⟩
    ·rw [a8c (by omega),hI1,H8 (k:=j+1) hx,List.filter_append]
     simp [hq]
    ·rw [List.getElem?_set_ne (by omega)];exact hI2 p (by omega)
    ·show some (AV.mrow _ _ _)=some (AV.mrow _ _ _)
     rw [t9]
   ·have hq:q x=true:=by simpa using hq
    refine aK ?_
    refine AWp.wk (a7 (s':=st j ii C) ⟨rfl,rfl,rfl,rfl,rfl,trivial⟩) ?_
    refine aR ?_
    refine nc zl (nc zu (nc ze ?_))
    refine ⟨n-(j+1),st (j+1) ii C,by omega,⟨j+1,ii,C,rfl,by omega,by omega,hC,?_,fun p hp=>hI2 p (by omega),rfl⟩,a7 ⟨rfl,rfl,rfl,rfl,rfl,trivial⟩⟩
    rw [hI1,H8 (k:=j+1) hx,List.filter_append]
    simp [hq]
  ·have hjl:j+1=n:=by have h3:decide ((((j+1:Nat):Int))<(n:Int))=false:=hlt;simp at h3;omega
   refine aE ?_
   refine AWp.wk (a7 (s':=st j ii C) ⟨rfl,rfl,rfl,rfl,rfl,trivial⟩) ?_
   refine aS (aR ?_)
   refine nc zl (nc zl (nc (zW (j:=ii)) (nc zY ?_)))
   refine aS (aR ?_)
   refine nc zl (nc zl (nc (zZ (j:=ii)) (nc ze ?_)))
   rw [hjl,←hR] at hI1
   have hkk:ii=R.length:=by rw [←hI1];simp;omega
   have hdrop:C.drop n=L.drop n:=by
    apply List.ext_getElem?
    intro p
    rw [List.getElem?_drop,List.getElem?_drop]
    exact hI2 _ (by omega)
   refine aT ⟨.inr rfl,_,Wk.refl _,?_,?_,trivial⟩
   ·rw [←hkk];rfl
   ·show some (AV.mrow _ _ _)=some (AV.mrow _ _ _)
    rw [←hkk,←hI1,←hdrop,List.map_append,←List.map_take,List.map_append,List.map_replicate]
    simp only [Nat.zero_add]
    rw [show ii+(n-ii)=n by omega,List.map_drop]
    rfl
def a2d (x y:Bd):Bool:=decide (x.v=y.v)
def M1 (L:List Bd):List Bd:=x9 (ltC a8M) 0 (L.length-1) 1 L
def q9 (L:List Bd):List Bd:=F0 a2d (M1 L) (M1 L).length
def Bd.strip (b:Bd):Bd:=⟨b.v,b.t.strip⟩
def x0 (L:List Bd):List Bd:=((q9 L).filter fun b=>!R5 b).map Bd.strip
theorem J2 (L:List Bd):(M1 L).length=L.length:=a3y _ _ _ _ _
theorem a5z {q:Bd→Bd→Bool} {L:List Bd} (n:Nat):F0 q L (n+1)=F0 q L n∨∃ x,L[n]?=some x∧F0 q L (n+1)=F0 q L n++[x]:=by
 cases n with
 | zero =>
  cases L with
  | nil=>left;rfl
  | cons x l=>right;exact ⟨x,rfl,rfl⟩
 | succ m =>
  cases hx:L[m+1]? with
  | none=>left;rw [F0];simp only [hx]
  | some x =>
   cases hy:L[m]? with
   | none=>right;exact ⟨x,rfl,by rw [F0];simp only [hx,hy]⟩
   | some y =>
    cases hq:q x y with
    | true=>left;exact a0K hx hy hq
    | false=>right;exact ⟨x,rfl,a3w hx hy hq⟩
theorem a3W {q:Bd→Bd→Bool} {L:List Bd}:∀ {n:Nat} {x:Bd},x∈F0 q L n→x∈L
 | 0,x,h=>by simp [F0] at h
 | n+1,x,h=>by
  rcases a5z (q:=q) (L:=L) n with e | ⟨y,h1,e⟩
  ·rw [e] at h;exact a3W h
  ·rw [e] at h
   rcases List.mem_append.1 h with h | h
   ·exact a3W h
   ·rw [List.mem_singleton.1 h];exact List.mem_of_getElem? h1
theorem a8F {q:Bd→Bd→Bool} {L:List Bd}:∀ {n:Nat},(F0 q L n).length≤n
 | 0=>Nat.le_refl _
 | n+1=>by
  have ih:=a8F (q:=q) (L:=L) (n:=n)
  rcases a5z (q:=q) (L:=L) n with e | ⟨y,h1,e⟩
  ·rw [e];omega
  ·rw [e];simp;omega
theorem a8O {lt:Bd→Bd→Bool} {a:Nat}:∀ {j:Nat} {L:List Bd} {z:Bd},z∈U2 lt a j L↔z∈L
 | 0,L,z=>Iff.rfl
 | j+1,L,z=>by
  rw [U2]
  split
  ·rename_i x y hx hy
   split
   ·rw [a8O]
    have hj:j+1<L.length:=by
     rcases Nat.lt_or_ge (j+1) L.length with h | h
     ·exact h
     ·rw [List.getElem?_eq_none h] at hx;cases hx
    have hxe:L[j+1]=x:=by rw [List.getElem?_eq_getElem hj] at hx;exact Option.some.inj hx
    have hye:L[j]'(by omega)=y:=by rw [List.getElem?_eq_getElem (by omega)] at hy;exact Option.some.inj hy
    constructor
    ·intro h
     rcases Z5 h with h | rfl
     ·rcases Z5 h with h | rfl
      ·exact h
      ·exact List.mem_of_getElem? hy
     ·exact List.mem_of_getElem? hx
    ·intro h
     obtain ⟨i,hi⟩:=List.getElem?_of_mem h
     by_cases e1:i=j
     ·subst e1
      rw [hy] at hi
      cases hi
      exact List.mem_of_getElem? (i:=i+1) (by rw [List.getElem?_set_ne (by omega),List.getElem?_set_self hj])
     ·by_cases e2:i=j+1
      ·subst e2
       rw [hx] at hi
       cases hi
       exact List.mem_of_getElem? (i:=j) (by rw [List.getElem?_set_self (by simp;omega)])
      ·exact List.mem_of_getElem? (i:=i) (by rw [List.getElem?_set_ne (Ne.symm e1),List.getElem?_set_ne (Ne.symm e2)];exact hi)
   ·exact Iff.rfl
  ·exact Iff.rfl
theorem a2J {lt:Bd→Bd→Bool} {a:Nat}:∀ {n i:Nat} {L:List Bd} {z:Bd},z∈x9 lt a n i L↔z∈L
 | 0,_,_,_=>Iff.rfl
 | n+1,i,L,z=>by rw [x9,a2J,a8O]
theorem T7 {L:List Bd} {x:Bd} (h:x∈q9 L):x∈L:=a2J.1 (a3W h)
theorem L9 (L:List Bd):(q9 L).length≤L.length:=by
 have:=a8F (q:=a2d) (L:=M1 L) (n:=(M1 L).length)
 rw [J2] at this
 unfold q9
 rw [J2]
 exact this
theorem a7r (L:List Bd) (hn:L.length≤1000000) (hso:p9 Tryz.prog 133 [(400000,.mrow 99 3 (L.map Bd.cv))] [.sl 400000 0 L.length 3,.val (.sc (.func (.func 134) #[] #[]))] (.tup []) [(400000,.mrow 99 3 ((M1 L).map Bd.cv))]) :
  p9 Tryz.prog 108 [] [.val (.lst (L.map Bd.cv))] (.sl 400000 0 (q9 L).length 3) [(400000,.mrow 99 3 ((q9 L++List.replicate (L.length-(q9 L).length) Bd.zero).map Bd.cv))]:=by
 refine k9 Tryz.func108 Tryz.ntmps108 rfl rfl rfl rfl rfl rfl ?_
 intro w U hU
 have hUf:U.f 400000=none:=by
  cases h:U.f 400000 with
  | none=>rfl
  | some v=>have:=hU _ _ h;cases this
 have hcl:=a9f L (by omega)
 have hco:=a7A a2d (.sc (.func (.func 136) #[] #[])) (M1 L) (by rw [J2];omega) (fun W x y => .inr ⟨_,rfl,b2u W x y⟩)
 refine aS (aR ?_)
 refine nc ze ?_
 refine aS (aR ?_)
 refine nc zl (nc (z0 (z:=hcl) (G:=i7 (by first | rfl | kernel_rfl))) (nc ze ?_))
 refine AWp.wk ((a7 (s':=[(3,.sl 250007 0 L.length 3),(250007,.mrow 99 3 (L.map Bd.cv))]) ⟨rfl,rfl,trivial⟩).trans (v7 250007 400000 rfl rfl hUf rfl rfl rfl)) ?_
 refine aS (aR ?_)
 refine nc zl (nc (z0 (z:=hso) (G:=i7 (by first | rfl | kernel_rfl))) ?_)
 refine AWp.wk (a7 (s':=[(3,.sl 400000 0 (M1 L).length 3),(400000,.mrow 99 3 ((M1 L).map Bd.cv))]) ⟨by rw [J2];rfl,rfl,trivial⟩) ?_
 refine aS (aR ?_)
 refine nc zl (nc (z0 (z:=hco) (G:=i7 (by first | rfl | kernel_rfl))) (nc ze ?_))
 refine aT ⟨.inr rfl,_,Wk.refl _,rfl,?_,trivial⟩
 show some (AV.mrow _ _ _)=some (AV.mrow _ _ _)
 rw [J2]
 unfold q9
 rw [J2]
theorem b2w (W:World) (L:List Bd) (hn:L.length≤1000000) (hb:bdsOk L) (hfi:p9 Tryz.prog 108 [] [.val (.lst (L.map Bd.cv))] (.sl 400000 0 (q9 L).length 3) [(400000,.mrow 99 3 ((q9 L++List.replicate (L.length-(q9 L).length) Bd.zero).map Bd.cv))]):AFun Tryz.prog W 74 [.lst (L.map Bd.cv)] (.val (.lst ((x0 L).map Bd.cv))):=by
 refine f0 (rs:=[.lst ((x0 L).map Bd.cv)]) Tryz.func74 Tryz.ntmps74 rfl rfl rfl rfl ?_
 intro w U hW
 obtain ⟨F,hF⟩:∃ F,F=q9 L++List.replicate (L.length-(q9 L).length) Bd.zero:=⟨_,rfl⟩
 rw [←hF] at hfi
 have hFl:F.length=L.length:=by rw [hF];have:=L9 L;simp;omega
 have hFt:F.take (q9 L).length=q9 L:=by rw [hF];simp
 have hde:=a9w R5 (.sc (.func (.func 109) #[] #[])) F (q9 L).length (by rw [hFl];exact L9 L) (by omega) (fun W x hx => .inr ⟨_,rfl,b4Q W x (by rw [hFt] at hx;exact ((Tm.rng_iff _).1 (hb x (T7 hx)).1).1.1)⟩)
 rw [hFt] at hde
 obtain ⟨R,hR⟩:∃ R,R=(q9 L).filter fun b=>!R5 b:=⟨_,rfl⟩
 rw [←hR] at hde
 obtain ⟨Z,hZ⟩:∃ Z,Z=List.replicate ((q9 L).length-R.length) Bd.zero++F.drop (q9 L).length:=⟨_,rfl⟩
 rw [←hZ] at hde
 have hRm:∀ x∈R,x∈L:=fun x hx=>by rw [hR] at hx;exact T7 (List.mem_filter.1 hx).1
 have hRl:R.length≤L.length:=by rw [hR];exact Nat.le_trans (List.length_filter_le _ _) (L9 L)
 refine aS (aR ?_)
 refine nc ze ?_
 refine aS (aR ?_)
 refine nc zl ?_
 refine nc (z0 (z:=hfi) (G:=fun k v h=>by first | (rw [hW.1] at h;cases h) | (have h2:=hU k v h;cases h2))) ?_
 refine nc (z0 (z:=hde) (G:=i7 (by first | rfl | kernel_rfl))) (nc ze ?_)
 refine aS (aS (aR ?_))
 refine nc zl (nc zV (nc zl ?_))
 let C:Nat→List Bd:=fun k=>(R.take k).map Bd.strip++(R.drop k++Z)
 refine aB (p7 R.length (fun k=>[(3,.sl 400000 0 R.length 3),(9,.sl 400000 0 R.length 3),(10,.val (.i R.length)),(11,.val (.i k)),(400000,.mrow 99 3 ((C k).map Bd.cv))]) (a7 ⟨rfl,rfl,rfl,rfl,rfl,trivial⟩) ?_)
 intro k hk
 have hCl:(C k).length=R.length+Z.length:=by simp [C];omega
 refine aS (aR ?_)
 refine nc zi ?_
 refine aS (aC rfl (fun hlt=>?_) (fun hlt=>?_))
 ·have hkl:k<R.length:=by simpa using hlt
  obtain ⟨x,hx⟩:∃ x,R[k]?=some x:=⟨R[k],List.getElem?_eq_getElem hkl⟩
  have hxC:(C k)[k]?=some x:=by
   show ((R.take k).map Bd.strip++(R.drop k++Z))[k]?=some x
   rw [List.getElem?_append_right (by simp;omega),List.getElem?_append_left (by simp;omega),List.getElem?_drop]
   simp only [List.length_map,List.length_take,Nat.min_eq_left (Nat.le_of_lt hkl),Nat.sub_self,Nat.add_zero]
   exact hx
  have hx':=Bd.map_at hxC
  have hxo:=hb x (hRm x (List.mem_of_getElem? hx))
  refine aK ?_
  refine aS (aB (aS (aR ?_)))
  refine nc zl (nc (zI (k:=k)) (nc (zJ (G:=hx')) (nc zk (nc ze (nc zo ?_)))))
  refine aR ?_
  refine nc zl (nc zl (nc zg (nc zh (nc (zw (z:=a1x _ hxo.1 hxo.2)) (nc (zI (k:=k)) (nc z3 (nc (zN (F:=hx')) ?_)))))))
  refine aR ?_
  refine nc zu (nc zl ?_)
  refine ⟨hkl,a7 ⟨rfl,rfl,rfl,rfl,?_,trivial⟩⟩
  show some (AV.mrow _ _ _)=some (AV.mrow _ _ _)
  have e1:((C k).map Bd.cv).set k (Bd.strip x).cw=(C (k+1)).map Bd.cv:=by
   rw [t9]
   congr 1
   show ((R.take k).map Bd.strip++(R.drop k++Z)).set k (Bd.strip x)=(R.take (k+1)).map Bd.strip++(R.drop (k+1)++Z)
   rw [List.set_append_right _ _ (by simp;omega)]
   simp only [List.length_map,List.length_take,Nat.min_eq_left (Nat.le_of_lt hkl),Nat.sub_self]
   have e2:R.drop k=x::R.drop (k+1):=by
    rw [List.getElem?_eq_getElem hkl] at hx
    rw [←Option.some.inj hx,List.getElem_cons_drop]
   rw [e2,H8 hx,List.map_append]
   simp
  rw [←e1]
  rfl
 ·have hkl:k=R.length:=by
   have:¬ k<R.length:=by simpa using hlt
   omega
  subst hkl
  refine aE ?_
  refine aS (aR ?_)
  refine nc zl (nc ze ?_)
  refine AWp.wk (a6Y 2 400000 rfl rfl rfl (.inl hW.2) (by rw [List.length_map,hCl];omega) (s':=[]) trivial rfl) ?_
  refine aT ⟨.inr rfl,?_⟩
  show some [CV.lst _]=some [CV.lst _]
  congr 3
  show (((C R.length).map Bd.cv).drop 0).take R.length=(x0 L).map Bd.cv
  rw [List.drop_zero,←List.map_take]
  congr 1
  show (((R.take R.length).map Bd.strip++(R.drop R.length++Z))).take R.length=x0 L
  rw [List.take_length,List.take_append_of_le_length (by simp),List.take_of_length_le (by simp),hR]
  rfl
end Go.Proofs.YtglmoficcjphaaaGreat
namespace Go.Proofs.YtglmoficcjphaaaGreat
open Go.RowKit
set_option linter.unusedVariables false
set_option linter.unusedSimpArgs false
theorem ltB (x y:Bd):ltC a8M x y=decide (x.v<y.v):=by
 unfold ltC a8M I7
 by_cases h:x.v<y.v
 ·simp [h]
 ·by_cases h2:x.v>y.v
  ·simp [h,h2]
  ·simp [h,h2]
theorem b1y {α:Type} (A:List α) (x:α) (B:List α):(A++x::B)[A.length]?=some x:=by simp
theorem b2X (lt:Bd→Bd→Bool) (x:Bd) (B:List Bd):∀ (n:Nat) (A:List Bd),A.length=n→∃ A1 A2,A=A1++A2∧U2 lt 0 A.length (A++x::B)=A1++x::(A2++B)∧(∀ y∈A2,lt x y=true)∧∀ y,A1.getLast?=some y→lt x y=false:=by
 intro n
 induction n generalizing x B with
 | zero =>
  intro A hA
  have:A=[]:=List.eq_nil_of_length_eq_zero hA
  subst this
  exact ⟨[],[],rfl,rfl,by simp,by simp⟩
 | succ n ih =>
  intro A hA
  obtain ⟨A',y,rfl⟩:∃ A' y,A=A'++[y]:=⟨A.dropLast,A.getLast (by intro h;rw [h] at hA;simp at hA),(List.dropLast_concat_getLast _).symm⟩
  have hl:A'.length=n:=by simp at hA;omega
  have hx:(A'++[y]++x::B)[A'.length+1]?=some x:=by
   have:=b1y (A'++[y]) x B
   rwa [List.length_append,List.length_singleton] at this
  have hy:(A'++[y]++x::B)[A'.length]?=some y:=by
   rw [List.append_assoc];exact b1y A' y (x::B)
  rw [List.length_append,List.length_singleton]
  cases h:lt x y with
  | false =>
   refine ⟨A'++[y],[],by simp,?_,by simp,fun z hz=>?_⟩
   ·rw [a5Z lt 0 hx hy h];simp
   ·rw [List.getLast?_append] at hz
    simp at hz
    subst hz;exact h
  | true =>
   rw [a3G lt 0 hx hy (by omega) h]
   have hsw:((A'++[y]++x::B).set (A'.length+1) y).set A'.length x=A'++x::(y::B):=by
    rw [List.append_assoc,List.set_append_right _ _ (by omega),show A'.length+1-A'.length=1 by omega,List.set_append_right _ _ (by simp)]
    simp
   rw [hsw]
   obtain ⟨A1,A2,e1,e2,e3,e4⟩:=ih x (y::B) A' hl
   refine ⟨A1,A2++[y],by rw [e1];simp,by rw [e2];simp,fun z hz=>?_,e4⟩
   rcases List.mem_append.1 hz with hz | hz
   ·exact e3 z hz
   ·rw [List.mem_singleton.1 hz];exact h
def b0W (l:List Bd):Prop:=l.Pairwise fun x y=>x.v≤y.v
theorem b7n {A1 A2:List Bd} {x:Bd} (h:b0W (A1++A2)) (h2:∀ y∈A2,x.v<y.v) (h1:∀ y,A1.getLast?=some y→¬ x.v<y.v):b0W (A1++x::A2):=by
 unfold b0W at h ⊢
 rw [List.pairwise_append] at h ⊢
 refine ⟨h.1,List.pairwise_cons.2 ⟨fun y hy=>Int.le_of_lt (h2 y hy),h.2.1⟩,fun a ha b hb=>?_⟩
 rcases List.mem_cons.1 hb with rfl | hb
 ·
  obtain ⟨A',z,rfl⟩:∃ A' z,A1=A'++[z]:=⟨A1.dropLast,A1.getLast (List.ne_nil_of_mem ha),(List.dropLast_concat_getLast _).symm⟩
  have hz:=h1 z (by simp)
  rcases List.mem_append.1 ha with ha | ha
  ·have:=(List.pairwise_append.1 h.1).2.2 a ha z (by simp)
   omega
  ·rw [List.mem_singleton.1 ha];omega
 ·exact h.2.2 a ha b hb
theorem b5o {A1 A2:List Bd} {x:Bd} (h2:∀ y∈A2,x.v<y.v) (v:Int):(A1++x::A2).filter (fun b=>decide (b.v=v))=(A1++A2++[x]).filter (fun b=>decide (b.v=v)):=by
 simp only [List.filter_append,List.filter_cons,List.filter_nil,List.append_assoc]
 by_cases h:x.v=v
 ·have:A2.filter (fun b=>decide (b.v=v))=[]:=by
   rw [List.filter_eq_nil_iff]
   intro y hy hv
   have:=h2 y hy
   simp at hv
   omega
  rw [this];simp [h]
 ·simp [h]
theorem a1L:∀ (n:Nat) (A B:List Bd),b0W A→n≤B.length→∃ A',x9 (ltC a8M) 0 n A.length (A++B)=A'++B.drop n∧b0W A'∧A'.length=A.length+n∧∀ v,A'.filter (fun b=>decide (b.v=v))=(A++B.take n).filter (fun b=>decide (b.v=v))
 | 0,A,B,hA,_=>⟨A,by simp [x9],hA,rfl,fun v=>by simp⟩
 | n+1,A,[],hA,hn=>by simp at hn
 | n+1,A,x::B,hA,hn=>by
  obtain ⟨A1,A2,e1,e2,e3,e4⟩:=b2X (ltC a8M) x B A.length A rfl
  have h2:∀ y∈A2,x.v<y.v:=fun y hy=>by have:=e3 y hy;rw [ltB] at this;simpa using this
  have h1:∀ y,A1.getLast?=some y→¬ x.v<y.v:=fun y hy=>by have:=e4 y hy;rw [ltB] at this;simpa using this
  have hs:b0W (A1++x::A2):=b7n (by rw [←e1];exact hA) h2 h1
  obtain ⟨A',f1,f2,f3,f4⟩:=a1L n (A1++x::A2) B hs (by simpa using hn)
  have hl:(A1++x::A2).length=A.length+1:=by rw [e1];simp;omega
  refine ⟨A',?_,f2,by rw [f3,hl];omega,fun v=>?_⟩
  ·rw [x9,e2,show A1++x::(A2++B)=(A1++x::A2)++B by simp,←hl,f1];rfl
  ·rw [f4 v,List.filter_append,b5o h2 v,←e1,List.take_succ_cons,←List.filter_append,List.append_assoc]
   rfl
theorem a2E (L:List Bd):b0W (M1 L)∧∀ v,(M1 L).filter (fun b=>decide (b.v=v))=L.filter (fun b=>decide (b.v=v)):=by
 cases L with
 | nil=>exact ⟨List.Pairwise.nil,fun v=>rfl⟩
 | cons x l =>
  obtain ⟨A',f1,f2,f3,f4⟩:=a1L l.length [x] l (List.pairwise_singleton _ _) (Nat.le_refl _)
  have e:M1 (x::l)=A':=by
   unfold M1
   rw [List.length_cons,Nat.add_sub_cancel]
   have:=f1
   rw [List.drop_length,List.append_nil] at this
   exact this
  rw [e]
  exact ⟨f2,fun v=>by rw [f4 v,List.take_length];rfl⟩
theorem P8:∀ (L:List Bd) (v:Int),b6 L v=(L.filter (fun b=>decide (b.v=v))).head?.map Bd.t
 | [],_=>rfl
 | b::L,v=>by
  rw [b6]
  by_cases h:b.v=v
  ·simp [h]
  ·rw [if_neg h,P8 L v];simp [h]
theorem b0e (L:List Bd) (v:Int):b6 (M1 L) v=b6 L v:=by rw [P8,P8,(a2E L).2]
theorem a0h (L:List Bd) (x:Bd) (v:Int):b6 (L++[x]) v=(b6 L v).or (if x.v=v then some x.t else none):=by
 induction L with
 | nil=>simp only [List.nil_append,b6];split<;>rfl
 | cons b L ih =>
  rw [List.cons_append,b6,b6]
  split
  ·rfl
  ·exact ih
theorem a0l {L:List Bd} {x:Bd} (h:x∈L):∃ t,b6 L x.v=some t:=by
 induction L with
 | nil=>cases h
 | cons b L ih =>
  rw [b6]
  split
  ·exact ⟨_,rfl⟩
  ·rename_i hne
   rcases List.mem_cons.1 h with rfl | h
   ·exact absurd rfl hne
   ·exact ih h
theorem a8h {S:List Bd} (hS:b0W S):∀ (m:Nat),m≤S.length→(∀ v,b6 (F0 a2d S m) v=b6 (S.take m) v)∧(F0 a2d S m).Pairwise (fun x y=>x.v<y.v)∧∀ (k:Nat) (y:Bd),m=k+1→S[k]?=some y→∀ x∈F0 a2d S m,x.v≤y.v
 | 0,_=>⟨fun v=>rfl,List.Pairwise.nil,fun k y h=>by omega⟩
 | 1,h=>by
  cases S with
  | nil=>simp at h
  | cons x l =>
   rw [a7P]
   exact ⟨fun v=>rfl,List.pairwise_singleton _ _,fun k y hk hy z hz=>by
    have:k=0:=by omega
    subst this
    simp at hy hz
    subst hy;subst hz;exact Int.le_refl _⟩
 | m+2,h=>by
  obtain ⟨ih1,ih2,ih3⟩:=a8h hS (m+1) (by omega)
  obtain ⟨x,hx⟩:∃ x,S[m+1]?=some x:=⟨S[m+1],List.getElem?_eq_getElem (by omega)⟩
  obtain ⟨y,hy⟩:∃ y,S[m]?=some y:=⟨S[m]'(by omega),List.getElem?_eq_getElem (by omega)⟩
  have hle:y.v≤x.v:=by
   have:=List.pairwise_iff_getElem.1 hS m (m+1) (by omega) (by omega) (by omega)
   rw [List.getElem?_eq_getElem (by omega)] at hx hy
   rw [←Option.some.inj hx,←Option.some.inj hy]
   exact this
  have htk:=H8 hx
  cases hq:a2d x y with
  | true =>
   have hv:x.v=y.v:=by simpa [a2d] using hq
   rw [a0K hx hy hq]
   refine ⟨fun v=>?_,ih2,fun k z hk hz w hw=>?_⟩
   ·rw [ih1 v,htk,a0h]
    by_cases e:x.v=v
    ·obtain ⟨t,ht⟩:=a0l (L:=S.take (m+1)) (x:=y) (List.mem_of_getElem? (i:=m) (by rw [List.getElem?_take,if_pos (by omega)];exact hy))
     rw [←e,hv,ht];rfl
    ·rw [if_neg e];simp
   ·have:k=m+1:=by omega
    subst this
    rw [hx] at hz
    cases hz
    rw [hv]
    exact ih3 m y rfl hy w hw
  | false =>
   have hv:x.v≠y.v:=by simpa [a2d] using hq
   rw [a3w hx hy hq]
   refine ⟨fun v=>by rw [a0h,ih1 v,htk,a0h],?_,fun k z hk hz w hw=>?_⟩
   ·rw [List.pairwise_append]
    refine ⟨ih2,List.pairwise_singleton _ _,fun a ha b hb=>?_⟩
    rw [List.mem_singleton.1 hb]
    have:=ih3 m y rfl hy a ha
    omega
   ·have:k=m+1:=by omega
    subst this
    rw [hx] at hz
    cases hz
    rcases List.mem_append.1 hw with hw | hw
    ·have:=ih3 m y rfl hy w hw;omega
    ·rw [List.mem_singleton.1 hw];exact Int.le_refl _
theorem P6 (L:List Bd):(∀ v,b6 (q9 L) v=b6 L v)∧(q9 L).Pairwise (fun x y=>x.v<y.v):=by
 obtain ⟨h1,h2,_⟩:=a8h (a2E L).1 (M1 L).length (Nat.le_refl _)
 refine ⟨fun v=>?_,h2⟩
 have:=h1 v
 rw [List.take_length,b0e] at this
 exact this
theorem b1N {L:List Bd} (v:Int):b6 (L.map Bd.strip) v=(b6 L v).map Tm.strip:=by
 induction L with
 | nil=>rfl
 | cons b L ih =>
  rw [List.map_cons,b6,b6]
  show (if b.v=v then _ else _)=_
  split
  ·rfl
  ·exact ih
theorem a9E {L:List Bd} (h:L.Pairwise (fun x y=>x.v<y.v)) (v:Int):b6 (L.filter fun b=>!R5 b) v=match b6 L v with | some t=>if R5 ⟨v,t⟩ then none else some t | none=>none:=by
 induction L with
 | nil=>rfl
 | cons b L ih =>
  rw [List.pairwise_cons] at h
  rw [List.filter_cons]
  by_cases hv:b.v=v
  ·have hno:∀ c∈L,c.v≠v:=fun c hc=>by have:=h.1 c hc;omega
   have hb:(⟨v,b.t⟩:Bd)=b:=by rw [←hv]
   rw [b6,if_pos hv]
   simp only
   rw [hb]
   cases hi:R5 b with
   | true =>
    simp only [Bool.not_true,Bool.false_eq_true,if_false,if_true]
    exact B2 fun c hc=>hno c (List.mem_filter.1 hc).1
   | false =>
    simp only [Bool.not_false,if_true,Bool.false_eq_true,if_false]
    rw [b6,if_pos hv]
  ·rw [b6,if_neg hv]
   split
   ·rw [b6,if_neg hv];exact ih h.2
   ·exact ih h.2
theorem a0j (L:List Bd) (v:Int):b6 (x0 L) v=match b6 L v with | some t=>if R5 ⟨v,t⟩ then none else some t.strip | none=>none:=by
 unfold x0
 rw [b1N,a9E (P6 L).2,(P6 L).1]
 cases b6 L v with
 | none=>rfl
 | some t=>simp only;split<;>rfl
theorem X6 (L:List Bd):(x0 L).Pairwise (fun x y=>x.v<y.v):=by
 unfold x0
 rw [List.pairwise_map]
 exact ((P6 L).2.filter _).imp (fun h=>h)
theorem a0u {t:Tm} (h:t.f<0):t.strip=⟨t.f,[]⟩:=by
 rw [Tm.strip_eq]
 have:t.ps=[]:=by unfold Tm.ps;rw [if_pos h]
 rw [this];rfl
end Go.Proofs.YtglmoficcjphaaaGreat
namespace Go.Proofs.YtglmoficcjphaaaGreat
open Go.RowKit
set_option linter.unusedVariables false
set_option linter.unusedSimpArgs false
set_option maxRecDepth 100000
def c2j (M:List Bd) (b:Bd):Bd:=⟨b.v,b5 (b7 M) b.t⟩
def c2u (L M:List Bd):List Bd:=x0 ((q9 L).map (c2j M)++M)
theorem a9p (A M:List Bd) (v:Int):b6 (A++M) v=(b6 A v).or (b6 M v):=by
 induction A with
 | nil=>rfl
 | cons b A ih =>
  rw [List.cons_append,b6,b6]
  split
  ·rfl
  ·exact ih
theorem a2S (f g:Int→Tm) (t:Tm):b5 g (b5 f t)=b5 (fun v=>b5 g (f v)) t:=by
 induction t using Tm.indp with
 | h t ih =>
  by_cases hf:t.f<0
  ·rw [i9 hf,i9 hf,a1B,y6]
  ·rw [Tm.ps_of_sym (by omega)] at ih
   rw [c9 hf,c9 (t:=⟨t.f,_⟩) hf,c9 hf]
   simp only [List.map_map]
   congr 1
   exact List.map_congr_left fun s hs=>ih s hs
def Bnd (n:Nat) (L:List Bd):Prop:=∀ b∈L,b.t.rng∧b.t.ok∧b.t.size≤n
theorem Bnd.ok {n:Nat} {L:List Bd} (h:Bnd n L) (hn:n≤90000000000):bdsOk L:=fun b hb=>⟨(h b hb).1,Nat.le_trans (h b hb).2.2 hn⟩
theorem Bnd.img {n:Nat} {L:List Bd} (h:Bnd n L) (hn:1≤n) (v:Int):(b7 L v).ok∧(b7 L v).size≤n:=by
 unfold b7
 cases e:b6 L v with
 | none=>exact ⟨b7g _,by show (p8 v).size≤n;rw [V9];exact hn⟩
 | some t =>
  obtain ⟨b,hb,rfl,_⟩:=H9 e
  exact (h b hb).2
theorem b1S (L:List Bd):(x0 L).length≤L.length:=by
 unfold x0
 rw [List.length_map]
 exact Nat.le_trans (List.length_filter_le _ _) (L9 L)
end Go.Proofs.YtglmoficcjphaaaGreat
namespace Go.Proofs.YtglmoficcjphaaaGreat
set_option linter.unusedVariables false
set_option linter.unusedSimpArgs false
def uni (τ:Int→Tm) (E:List (Tm×Tm)):Prop:=∀ p∈E,b5 τ p.1=b5 τ p.2
theorem B4 {τ:Int→Tm} {E F:List (Tm×Tm)}:uni τ (E++F)↔uni τ E∧uni τ F:=by
 unfold uni
 constructor
 ·intro h;exact ⟨fun p hp=>h p (List.mem_append_left _ hp),fun p hp=>h p (List.mem_append_right _ hp)⟩
 ·rintro ⟨h1,h2⟩ p hp
  rcases List.mem_append.1 hp with hp | hp
  ·exact h1 p hp
  ·exact h2 p hp
theorem C8 {τ:Int→Tm} {a b:Tm}:uni τ [(a,b)]↔b5 τ a=b5 τ b:=by
 unfold uni
 constructor
 ·intro h;exact h (a,b) (by simp)
 ·intro h p hp
  simp only [List.mem_singleton] at hp
  rw [hp];exact h
structure Mgu (σ:Int→Tm) (E:List (Tm×Tm)):Prop where
 uni:uni σ E
 bare:∀ v,0≤v→(σ v).strip=σ v
 idem:∀ v,0≤v→∀ u∈(σ v).vs,σ u=p8 u
 most:∀ τ,Go.Proofs.YtglmoficcjphaaaGreat.uni τ E→∀ v,0≤v→b5 τ (σ v)=(τ v).strip
 low:∀ v,0≤v→(σ v).f<0 → -1-(σ v).f≤v
theorem r6 (v:Int):(p8 v).f = -1-v:=rfl
theorem D6 {τ:Int→Tm} {v:Int} (hv:0≤v):b5 τ (p8 v)=(τ v).strip:=by
 rw [i9 (by rw [r6];omega),r6,show -1-(-1-v)=v by omega]
theorem c0o {τ:Int→Tm} {t:Tm} (h:¬ t.f<0):(b5 τ t).f=t.f:=by rw [c9 h]
theorem Z4 {τ:Int→Tm} {t:Tm} (h:(b5 τ t).f<0):t.f<0:=by
 rcases Decidable.em (t.f<0) with h1 | h1
 ·exact h1
 ·rw [c0o h1] at h;exact h
theorem a0J {t:Tm} (hb:t.strip=t) (h:t.f<0):t=p8 (-1-t.f):=by
 rw [←hb,a0u h]
 unfold p8
 rw [show -1-(-1-t.f)=t.f by omega]
theorem a3Y {σ:Int→Tm} {t:Tm} (h:∀ u∈t.vs,σ u=p8 u):b5 σ t=t.strip:=by
 rw [W6 (g:=p8) h,b6d]
theorem Mgu.stays {σ σ':Int→Tm} {E:List (Tm×Tm)} (h:Mgu σ E) (h':Mgu σ' E) {v:Int} (hv:0≤v) (e:σ v=p8 v):σ' v=p8 v:=by
 have h1:=h'.most σ h.uni v hv
 rw [h.bare v hv,e] at h1
 have h2:(σ' v).f<0:=Z4 (τ:=σ) (by rw [h1,r6];omega)
 obtain ⟨u,hu⟩:∃ u,u = -1-(σ' v).f:=⟨_,rfl⟩
 have hu0:0≤u:=by omega
 have h3:σ' v=p8 u:=by rw [hu];exact a0J (h'.bare v hv) h2
 have h4:u≤v:=by rw [hu];exact h'.low v hv h2
 rw [h3,D6 hu0,h.bare u hu0] at h1
 have h5:=h.low u hu0 (by rw [h1,r6];omega)
 rw [h1,r6] at h5
 have:u=v:=by omega
 rw [h3,this]
theorem Mgu.one {σ σ':Int→Tm} {E:List (Tm×Tm)} (h:Mgu σ E) (h':Mgu σ' E) {v:Int} (hv:0≤v):σ' v=σ v:=by
 have h1:=h.most σ' h'.uni v hv
 rw [h'.bare v hv,a3Y (fun u hu=>h.stays h' (r9 _ u hu) (h.idem v hv u hu)),h.bare v hv] at h1
 exact h1.symm
theorem Mgu.eqv {σ:Int→Tm} {E F:List (Tm×Tm)} (h:Mgu σ E) (he:∀ τ,Go.Proofs.YtglmoficcjphaaaGreat.uni τ E↔Go.Proofs.YtglmoficcjphaaaGreat.uni τ F):Mgu σ F:=
 ⟨(he σ).1 h.uni,h.bare,h.idem,fun τ ht=>h.most τ ((he τ).2 ht),h.low⟩
theorem Mgu.rep {σ τ:Int→Tm} {E:List (Tm×Tm)} (h:Mgu σ E) (ht:Go.Proofs.YtglmoficcjphaaaGreat.uni τ E) (t:Tm):b5 τ (b5 σ t)=b5 τ t:=by
 rw [a2S]
 revert t
 refine Tm.ind fun f l ih=>?_
 rcases Decidable.em (f<0) with hf | hf
 ·rw [i9 (t:=⟨f,l⟩) hf,i9 (t:=⟨f,l⟩) hf,h.most τ ht _ (by show 0 ≤ -1-f;omega),Tm.strip_strip]
 ·rw [c9 (t:=⟨f,l⟩) (by show ¬ f<0;omega),c9 (t:=⟨f,l⟩) (by show ¬ f<0;omega)]
  show (⟨f,l.map _⟩:Tm)=⟨f,l.map _⟩
  congr 1
  exact List.map_congr_left ih
theorem Mgu.rep_vs {σ:Int→Tm} {E:List (Tm×Tm)} (h:Mgu σ E) {t:Tm} {u:Int} (hu:u∈(b5 σ t).vs):σ u=p8 u:=by
 rw [a6k,List.mem_flatMap] at hu
 obtain ⟨v,hv,hu⟩:=hu
 exact h.idem v (r9 _ v hv) u hu
theorem Mgu.nil:Mgu p8 []:=
 ⟨fun p hp=>(by cases hp),fun v hv=>y8 v,fun v hv u hu=>rfl,fun τ ht v hv=>D6 hv,fun v hv hf=>by rw [r6];omega⟩
theorem Mgu.same {σ:Int→Tm} {E:List (Tm×Tm)} (h:Mgu σ E) {a b:Tm} (e:b5 σ a=b5 σ b):Mgu σ (E++[(a,b)]):=
 h.eqv fun τ=>by
  rw [B4,C8]
  constructor
  ·intro ht
   refine ⟨ht,?_⟩
   rw [←h.rep ht a,e,h.rep ht b]
  ·exact fun ht=>ht.1
def T1 (x:Int) (b:Tm) (v:Int):Tm:=if v=x then b else p8 v
theorem b0I {x:Int} {b t:Tm} (h:x∉t.vs):b5 (T1 x b) t=t.strip:=
 a3Y fun u hu=>if_neg fun (e:u=x)=>h (e▸hu)
theorem Mgu.bind {σ:Int→Tm} {E:List (Tm×Tm)} (h:Mgu σ E) {a b:Tm} {x:Int} (hx:0≤x) (ha:b5 σ a=p8 x) (hb:x∉(b5 σ b).vs) (hlow:(b5 σ b).f<0 → -1-(b5 σ b).f≤x) {σ2:Int→Tm} (h2:∀ v,0≤v→σ2 v=b5 (T1 x (b5 σ b)) (σ v)):Mgu σ2 (E++[(a,b)]):=by
 obtain ⟨B,hB⟩:∃ B,B=b5 σ b:=⟨_,rfl⟩
 rw [←hB] at hb hlow h2
 have hBs:B.strip=B:=by rw [hB,y6]
 have hr:∀ t,b5 σ2 t=b5 (T1 x B) (b5 σ t):=fun t=>by
  rw [a2S]
  exact W6 fun v hv=>h2 v (r9 _ v hv)
 have hxx:T1 x B x=B:=if_pos rfl
 refine ⟨?_,fun v hv=>by rw [h2 v hv,y6],fun v hv u hu=>?_,fun τ ht v hv=>?_,fun v hv hf=>?_⟩
 ·rw [B4,C8]
  refine ⟨fun p hp=>by rw [hr,hr,h.uni p hp],?_⟩
  rw [hr,hr,ha,D6 hx,hxx,←hB,b0I hb]
 ·rw [h2 v hv,a6k,List.mem_flatMap] at hu
  obtain ⟨w,hw,hu⟩:=hu
  have hw0:=r9 _ w hw
  have:σ u=p8 u∧u≠x:=by
   by_cases e:w=x
   ·rw [e,hxx] at hu
    refine ⟨h.rep_vs (t:=b) (by rw [←hB];exact hu),fun e=>hb (e▸hu)⟩
   ·unfold T1 at hu
    rw [if_neg e,Tm.vs_var (by rw [r6];omega),r6,List.mem_singleton] at hu
    have:u=w:=by omega
    rw [this]
    exact ⟨h.idem v hv w hw,e⟩
  have hu0:0≤u:=r9 _ u hu
  rw [h2 u hu0,this.1,D6 hu0]
  unfold T1
  rw [if_neg this.2,y8]
 ·rw [B4,C8] at ht
  rw [h2 v hv,a2S,←h.most τ ht.1 v hv]
  have:∀ w∈(σ v).vs,b5 τ (T1 x B w)=(τ w).strip:=fun w hw=>by
   have hw0:=r9 _ w hw
   by_cases e:w=x
   ·rw [e,hxx,hB,h.rep ht.1,←ht.2,←h.rep ht.1,ha,D6 hx]
   ·unfold T1
    rw [if_neg e,D6 hw0]
  have h3:∀ t:Tm,(∀ w∈t.vs,b5 τ (T1 x B w)=(τ w).strip)→b5 (fun v=>b5 τ (T1 x B v)) t=b5 τ t:=by
   refine Tm.ind fun f l ih hw=>?_
   rcases Decidable.em (f<0) with hf | hf
   ·rw [i9 (t:=⟨f,l⟩) hf,i9 (t:=⟨f,l⟩) hf,hw _ (by rw [Tm.vs_var (t:=⟨f,l⟩) hf];simp),Tm.strip_strip]
   ·have hf':¬ (⟨f,l⟩:Tm).f<0:=by show ¬ f<0;omega
    rw [c9 hf',c9 hf']
    rw [Tm.vs_sym hf'] at hw
    congr 1
    exact List.map_congr_left fun t ht=>ih t ht fun w hw'=>hw w (List.mem_flatMap.2 ⟨t,ht,hw'⟩)
  exact h3 _ this
 ·rw [h2 v hv] at hf ⊢
  have h4:=Z4 hf
  have h5:=h.low v hv h4
  rw [i9 h4] at hf ⊢
  obtain ⟨w,hw⟩:∃ w,w = -1-(σ v).f:=⟨_,rfl⟩
  rw [←hw] at hf h5 ⊢
  by_cases e:w=x
  ·rw [e,hxx,hBs] at hf ⊢
   have:=hlow hf
   omega
  ·unfold T1
   rw [if_neg e,y8,r6]
   omega
theorem b2L {τ:Int→Tm} {x:Int} {t:Tm} (hx:x∈t.vs) (ht:¬ t.f<0):b5 τ (p8 x)≠b5 τ t:=by
 have hx0:=r9 _ x hx
 have key:∀ t:Tm,x∈t.vs→(b5 τ (p8 x)).size≤(b5 τ t).size∧(¬ t.f<0→(b5 τ (p8 x)).size<(b5 τ t).size):=by
  refine Tm.ind fun f l ih hx=>?_
  rcases Decidable.em (f<0) with hf | hf
  ·rw [Tm.vs_var (t:=⟨f,l⟩) hf,List.mem_singleton] at hx
   refine ⟨?_,fun h=>absurd hf h⟩
   rw [D6 hx0,i9 (t:=⟨f,l⟩) hf,←hx]
   exact Nat.le_refl _
  ·have hf':¬ (⟨f,l⟩:Tm).f<0:=by show ¬ f<0;omega
   rw [Tm.vs_sym hf',List.mem_flatMap] at hx
   obtain ⟨s,hs,hxs⟩:=hx
   have h1:=(ih s hs hxs).1
   have h2:(b5 τ s).size<(b5 τ ⟨f,l⟩).size:=by
    refine Tm.size_part ?_
    rw [c9 hf',Tm.ps_of_sym (by show 0≤f;omega)]
    exact List.mem_map.2 ⟨s,hs,rfl⟩
   exact ⟨by omega,fun _=>by omega⟩
 intro e
 have:=(key t hx).2 ht
 rw [e] at this
 exact Nat.lt_irrefl _ this
structure Joined (N:Nat) (T:Nat→Tm) (H K:Nat→Nat) (E:List (Tm×Tm)):Prop where
 hd:∀ n,n<N→H n<N∧H (H n)=H n
 low:∀ n,n<N→(T n).f≤(T (H n)).f
 kid:∀ n,n<N→¬ (T n).f<0→∀ i p,(T n).l[i]?=some p→K n+i<N∧T (K n+i)=p
 cls:∀ n,n<N→¬ (T n).f<0→(T (H n)).f=(T n).f∧(T (H n)).l.length=(T n).l.length∧∀ i,i<(T n).l.length→H (K n+i)=H (K (H n)+i)
 var:∀ n m,n<N→m<N→(T n).f<0→(T n).f=(T m).f→H n=H m
 pair:∀ p∈E,∃ n m,n<N∧m<N∧T n=p.1∧T m=p.2∧H n=H m
 sound:∀ τ,uni τ E→∀ n,n<N→b5 τ (T n)=b5 τ (T (H n))
section
variable {N:Nat} {T:Nat→Tm} {H K:Nat→Nat} {E:List (Tm×Tm)}
def a3d (N:Nat) (T:Nat→Tm) (H K:Nat→Nat) (out:Nat→Tm):Prop:=∀ h,h<N→H h=h→out h=⟨(T h).f,if (T h).f<0 then [] else (List.range (T h).l.length).map fun i=>out (H (K h+i))⟩
def a2i (N:Nat) (T:Nat→Tm) (H K:Nat→Nat) (ρ:Nat→Nat):Prop:=∀ h,h<N→H h=h→¬ (T h).f<0→∀ i,i<(T h).l.length→ρ (H (K h+i))<ρ h
theorem Joined.part (j:Joined N T H K E) {h:Nat} (hN:h<N) (hf:¬ (T h).f<0) {i:Nat} (hi:i<(T h).l.length):K h+i<N∧T (K h+i)=(T h).l[i]∧H (K h+i)<N∧H (H (K h+i))=H (K h+i):=by
 obtain ⟨h1,h2⟩:=j.kid h hN hf i _ (List.getElem?_eq_getElem hi)
 exact ⟨h1,h2,j.hd _ h1⟩
theorem Joined.ind (j:Joined N T H K E) {ρ:Nat→Nat} (hr:a2i N T H K ρ) {Q:Nat→Prop} (hQ:∀ h,h<N→H h=h→(¬ (T h).f<0→∀ i,i<(T h).l.length→Q (H (K h+i)))→Q h):∀ h,h<N→H h=h→Q h:=by
 intro h
 induction e:ρ h using Nat.strongRecOn generalizing h with
 | ind k ih =>
  intro hN hh
  refine hQ h hN hh fun hf i hi=>?_
  obtain ⟨_,_,h3,h4⟩:=j.part hN hf hi
  exact ih _ (by rw [←e];exact hr h hN hh hf i hi) _ rfl h3 h4
theorem a5X {out:Nat→Tm} (ho:a3d N T H K out) {h:Nat} (hN:h<N) (hh:H h=h) (hf:(T h).f<0):out h=⟨(T h).f,[]⟩:=by rw [ho h hN hh,if_pos hf]
theorem a3h {out:Nat→Tm} (ho:a3d N T H K out) {h:Nat} (hN:h<N) (hh:H h=h) (hf:¬ (T h).f<0):out h=⟨(T h).f,(List.range (T h).l.length).map fun i=>out (H (K h+i))⟩:=by rw [ho h hN hh,if_neg hf]
theorem c0w {out:Nat→Tm} (ho:a3d N T H K out) {h:Nat} (hN:h<N) (hh:H h=h):(out h).f=(T h).f:=by rw [ho h hN hh]
theorem a4V {l:List Tm} {g g':Tm→Tm} {q:Nat→Tm} (h:∀ i (hi:i<l.length),g l[i]=g' (q i)):l.map g=((List.range l.length).map q).map g':=by
 apply List.ext_getElem
 ·simp
 ·intro i h1 h2
  simp only [List.getElem_map,List.getElem_range]
  exact h i (by simpa using h1)
theorem Joined.out_bare (j:Joined N T H K E) {ρ:Nat→Nat} (hr:a2i N T H K ρ) {out:Nat→Tm} (ho:a3d N T H K out):∀ h,h<N→H h=h→(out h).strip=out h:=
 j.ind hr fun h hN hh ih=>by
  by_cases hf:(T h).f<0
  ·rw [a5X ho hN hh hf,a0u (t:=⟨(T h).f,[]⟩) hf]
  ·rw [a3h ho hN hh hf,Tm.strip_eq,Tm.ps_of_sym (t:=⟨(T h).f,_⟩) (by show 0≤(T h).f;omega)]
   congr 1
   rw [List.map_map]
   exact List.map_congr_left fun i hi=>ih hf i (List.mem_range.1 hi)
structure b9W (N:Nat) (T:Nat→Tm) (H:Nat→Nat) (out:Nat→Tm) (σ:Int→Tm):Prop where
 at_:∀ n,n<N→(T n).f<0→σ (-1-(T n).f)=out (H n)
 off:∀ v,0≤v→(∀ n,n<N→(T n).f ≠ -1-v)→σ v=p8 v
theorem Joined.rep (j:Joined N T H K E) {ρ:Nat→Nat} (hr:a2i N T H K ρ) {out:Nat→Tm} (ho:a3d N T H K out) {σ:Int→Tm} (hs:b9W N T H out σ):∀ (t:Tm) (n:Nat),n<N→T n=t→b5 σ t=out (H n):=by
 refine Tm.ind fun f l ih n hN e=>?_
 obtain ⟨hH,hHH⟩:=j.hd n hN
 by_cases hf:f<0
 ·have:=hs.at_ n hN (by rw [e];exact hf)
  rw [e] at this
  rw [i9 (t:=⟨f,l⟩) hf,this,j.out_bare hr ho _ hH hHH]
 ·have hfn:¬ (T n).f<0:=by rw [e];exact hf
  obtain ⟨c1,c2,c3⟩:=j.cls n hN hfn
  rw [c9 (t:=⟨f,l⟩) hf,a3h ho hH hHH (by rw [c1];exact hfn),c1,c2,e]
  congr 1
  have:=a4V (l:=l) (g:=b5 σ) (g':=id) (q:=fun i=>out (H (K (H n)+i))) fun i hi=>by
   have hi':i<(T n).l.length:=by rw [e];exact hi
   obtain ⟨p1,p2,_⟩:=j.part hN hfn hi'
   have p3:(T n).l[i]=l[i]:=by simp only [e]
   rw [ih l[i] (List.getElem_mem hi) (K n+i) p1 (by rw [p2,p3]),c3 i hi']
   rfl
  rw [this,List.map_id]
theorem Joined.most (j:Joined N T H K E) {ρ:Nat→Nat} (hr:a2i N T H K ρ) {out:Nat→Tm} (ho:a3d N T H K out) {τ:Int→Tm} (ht:uni τ E):∀ h,h<N→H h=h→b5 τ (out h)=b5 τ (T h):=
 j.ind hr fun h hN hh ih=>by
  by_cases hf:(T h).f<0
  ·rw [a5X ho hN hh hf,i9 (t:=⟨(T h).f,[]⟩) hf,i9 hf]
  ·rw [a3h ho hN hh hf,c9 (t:=⟨(T h).f,_⟩) hf,c9 hf]
   congr 1
   refine (a4V fun i hi=>?_).symm
   obtain ⟨p1,p2,_⟩:=j.part hN hf hi
   rw [ih hf i hi,←j.sound τ ht _ p1,p2]
theorem Joined.idem (j:Joined N T H K E) {ρ:Nat→Nat} (hr:a2i N T H K ρ) {out:Nat→Tm} (ho:a3d N T H K out) {σ:Int→Tm} (hs:b9W N T H out σ):∀ h,h<N→H h=h→∀ u∈(out h).vs,σ u=p8 u:=
 j.ind hr fun h hN hh ih u hu=>by
  by_cases hf:(T h).f<0
  ·have h1:=a5X ho hN hh hf
   rw [h1,Tm.vs_var (t:=⟨(T h).f,[]⟩) hf,List.mem_singleton] at hu
   have h2:=hs.at_ h hN hf
   rw [hh,h1] at h2
   have hu:u = -1-(T h).f:=hu
   rw [hu,h2]
   unfold p8
   rw [show -1-(-1-(T h).f)=(T h).f by omega]
  ·rw [a3h ho hN hh hf,Tm.vs_sym (t:=⟨(T h).f,_⟩) hf,List.mem_flatMap] at hu
   obtain ⟨t,ht,hu⟩:=hu
   obtain ⟨i,hi,rfl⟩:=List.mem_map.1 ht
   exact ih hf i (List.mem_range.1 hi) u hu
theorem Joined.mgu (j:Joined N T H K E) {ρ:Nat→Nat} (hr:a2i N T H K ρ) {out:Nat→Tm} (ho:a3d N T H K out) {σ:Int→Tm} (hs:b9W N T H out σ):Mgu σ E:=by
 have two:∀ v,0≤v→(∃ n,n<N∧(T n).f = -1-v∧σ v=out (H n))∨σ v=p8 v:=fun v hv=>by
  by_cases h:∃ n,n<N∧(T n).f = -1-v
  ·obtain ⟨n,h1,h2⟩:=h
   have:=hs.at_ n h1 (by omega)
   rw [h2,show -1-(-1-v)=v by omega] at this
   exact .inl ⟨n,h1,h2,this⟩
  ·exact .inr (hs.off v hv fun n h1 h2=>h ⟨n,h1,h2⟩)
 refine ⟨fun p hp=>?_,fun v hv=>?_,fun v hv u hu=>?_,fun τ ht v hv=>?_,fun v hv hf=>?_⟩
 ·obtain ⟨n,m,h1,h2,h3,h4,h5⟩:=j.pair p hp
  rw [j.rep hr ho hs p.1 n h1 h3,j.rep hr ho hs p.2 m h2 h4,h5]
 ·rcases two v hv with ⟨n,h1,h2,h3⟩ | h3
  ·rw [h3,j.out_bare hr ho _ (j.hd n h1).1 (j.hd n h1).2]
  ·rw [h3,y8]
 ·rcases two v hv with ⟨n,h1,h2,h3⟩ | h3
  ·rw [h3] at hu
   exact j.idem hr ho hs _ (j.hd n h1).1 (j.hd n h1).2 u hu
  ·rw [h3,Tm.vs_var (by rw [r6];omega),r6,List.mem_singleton] at hu
   rw [show u=v by omega];exact h3
 ·rcases two v hv with ⟨n,h1,h2,h3⟩ | h3
  ·rw [h3,j.most hr ho ht _ (j.hd n h1).1 (j.hd n h1).2,←j.sound τ ht n h1,i9 (by omega),h2,show -1-(-1-v)=v by omega]
  ·rw [h3,D6 hv]
 ·rcases two v hv with ⟨n,h1,h2,h3⟩ | h3
  ·have:=j.low n h1
   rw [h3,c0w ho (j.hd n h1).1 (j.hd n h1).2]
   omega
  ·rw [h3,r6];omega
theorem Joined.no (j:Joined N T H K E) {O:Nat→Prop} (hO:∀ h,h<N→H h=h→¬ O h→∃ g,g<N∧H g=g∧¬ O g∧¬ (T g).f<0∧∃ i,i<(T g).l.length∧H (K g+i)=h) {h0:Nat} (hN0:h0<N) (hh0:H h0=h0) (hn0:¬ O h0) (τ:Int→Tm):¬ uni τ E:=by
 intro ht
 have up:∀ k:Nat,∃ h,h<N∧H h=h∧¬ O h∧k≤(b5 τ (T h)).size:=fun k=>by
  induction k with
  | zero=>exact ⟨h0,hN0,hh0,hn0,Nat.zero_le _⟩
  | succ k ih =>
   obtain ⟨h,h1,h2,h3,h4⟩:=ih
   obtain ⟨g,g1,g2,g3,g4,i,g5,g6⟩:=hO h h1 h2 h3
   refine ⟨g,g1,g2,g3,?_⟩
   obtain ⟨p1,p2,_⟩:=j.part g1 g4 g5
   have h5:b5 τ (T h)=b5 τ (T g).l[i]:=by rw [←g6,←j.sound τ ht _ p1,p2]
   have h6:(b5 τ (T g).l[i]).size<(b5 τ (T g)).size:=by
    refine Tm.size_part ?_
    rw [c9 g4,Tm.ps_of_sym (t:=⟨(T g).f,_⟩) (by show 0≤(T g).f;omega)]
    exact List.mem_map.2 ⟨_,List.getElem_mem g5,rfl⟩
   rw [h5] at h4
   omega
 have top:∀ M:Nat,∃ B,∀ n,n<M→(b5 τ (T n)).size≤B:=fun M=>by
  induction M with
  | zero=>exact ⟨0,fun n hn=>by omega⟩
  | succ M ih =>
   obtain ⟨B,hB⟩:=ih
   refine ⟨max B (b5 τ (T M)).size,fun n hn=>?_⟩
   rcases Nat.lt_or_ge n M with h | h
   ·exact Nat.le_trans (hB n h) (Nat.le_max_left _ _)
   ·rw [show n=M by omega];exact Nat.le_max_right _ _
 obtain ⟨B,hB⟩:=top N
 obtain ⟨h,h1,_,_,h4⟩:=up (B+1)
 have:=hB h h1
 omega
end
end Go.Proofs.YtglmoficcjphaaaGreat
