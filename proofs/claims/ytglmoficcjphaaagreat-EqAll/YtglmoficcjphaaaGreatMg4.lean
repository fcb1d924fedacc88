/-
 SbFns SbApply SbVars TmSm SbSmall TmOrd RfSame RfLess RfFlat RfVars AbOf SbVnt SbRen SbSort SbClone
-/
import Derived.Test.YtglmoficcjphaaaGreatMg3
import Derived.Test.YtglmoficcjphaaaGreatMg2
namespace Go.Proofs.YtglmoficcjphaaaGreat
open List (flatMap_cons flatMap_def getElem?_eq_getElem length_append length_cons length_map length_nil map_append map_congr_left map_cons map_map map_nil mem_append mem_cons_of_mem mem_map mem_of_getElem? take_add_one take_length)
open Go.RowKit
set_option linter.unusedVariables false
set_option linter.unusedSimpArgs false
set_option maxRecDepth 100000
theorem S0 (W:World) (t:Tm):AFun Tryz.prog W 85 [t.cw] (.val (.b (decide (t.f<0)))):=by
 refine a9 (rs:=[.b (decide (t.f<0))]) Tryz.func85 Tryz.ntmps85 rfl rfl rfl rfl ?_;intro w U hW;refine aS (aR ?_);refine nc zd (nc ze ?_);refine aS (aR ?_);refine nc zg (nc zh (nc zi (nc ze ?_)));exact aT ⟨.inr rfl,rfl⟩
theorem W5 (W:World) (t:Tm) (h1 : -9223372036854775808<=t.f) (h2:t.f<0):AFun Tryz.prog W 87 [t.cw] (.val (.i (-1-t.f))):=by
 refine a9 (rs:=[.i (-1-t.f)]) Tryz.func87 Tryz.ntmps87 rfl rfl rfl rfl ?_;intro w U hW;refine aS (aR ?_);refine nc zd (nc ze ?_);refine aS (aR ?_);refine nc zg (nc zh (nc zj (nc ze ?_)));exact aT ⟨.inr rfl,rfl⟩
theorem a0p (W:World) (v:Int) (h1:0<=v) (h2:v<=9223372036854775807):AFun Tryz.prog W 61 [.i v] (.val (s8 v).cw):=by
 refine a9 (rs:=[(s8 v).cw]) Tryz.func61 Tryz.ntmps61 rfl rfl rfl rfl ?_;intro w U hW;refine aS (aR ?_);refine nc zk ?_;refine aS (aR ?_);refine nc zl (nc zj (nc zn (nc zo ?_)));exact aT ⟨.inr rfl,rfl⟩
theorem b6A (W:World) (l:List Bd) (v:Int) (hl:l.length<=90000000000):AFun Tryz.prog W 137 [.lst (l.map Bd.cv),.i v] (.tup [((b6 l v).getD ⟨0,[]⟩).cw,.b (b6 l v).isSome]):=by
 have kD:=Bd.size_all l;refine a9 (rs:=[((b6 l v).getD ⟨0,[]⟩).cw,.b (b6 l v).isSome]) Tryz.func137 Tryz.ntmps137 rfl rfl rfl rfl ?_;intro w U hW;refine aS (aR ?_);refine nc zk (nc ze ?_);refine aS (aS (aR ?_));refine nc zl (nc zp (nc zl ?_));refine aB (l7 l.length (fun k=>∀ i c,i<k->l[i]?=some c->c.v≠v) (fun k=>[(1,.val (.i v)),(4,.bp 4 0 []),(100004,⟨5,.row [.i 0,.lst []],1,0,[1]⟩),(8,.val (.lst (l.map Bd.cv))),(9,.val (.i (l.map Bd.cv).length)),(10,.val (.i k))]) (a7 ⟨rfl,rfl,rfl,rfl,rfl,rfl,trivial⟩) (by omega) ?_);intro k hk hI;refine aS (aR ?_);refine nc zi ?_;refine aS (aC rfl (fun hc=>?_) (fun hc=>?_))
 ·simp only [length_map,decide_eq_true_eq] at hc;have kB:k<l.length:=by omega
  obtain ⟨b,hb⟩:∃ t,l[k]?=some t:=⟨l[k],getElem?_eq_getElem kB⟩
  have hb':=Bd.map_at hb;refine aK ?_;refine aS (aB (aS (aR ?_)));refine nc (zq (H:=by assumption) (hz:=by first | assumption | exact sZ rfl | exact Tm.size_all _ | exact Bd.size_all _ | exact b8 _ | exact bys_size _ | exact Lt.size_all _)) (nc zr (nc zk (nc zo ?_)));refine aS (aR ?_);refine nc zg (nc zh (nc zl (nc zt ?_)));refine aC rfl (fun gA=>?_) (fun gA=>?_)
  ·simp only [decide_eq_true_eq] at gA;have hf:=a9Y hb gA hI;rw [hf];refine aS (aR ?_);refine nc zg (nc zh (nc zo (nc ze ?_)));exact aT (And.intro (.inr rfl) rfl)
  ·simp only [decide_eq_false_iff_not] at gA;refine aK ?_;refine aR ?_;refine nc zu (nc zl ?_);refine ⟨kB,fun i c hi pW=>?_,a7 ⟨rfl,rfl,rfl,rfl,rfl,rfl,trivial⟩⟩;rcases Nat.lt_or_ge i k with h | h
   ·exact hI i c h pW
   ·obtain rfl:i=k:=by omega
    rw [hb] at pW;cases pW;exact gA
 ·simp only [length_map,decide_eq_false_iff_not] at hc;have kB:k=l.length:=by omega
  have hf:b6 l v=none:=t8 fun b hb=>by obtain ⟨i,hi,he⟩:=List.mem_iff_getElem.1 hb;exact hI i b (by omega) (by rw [getElem?_eq_getElem hi,he])
  rw [hf];refine aE ?_;refine aS (aR ?_);refine nc zn (nc zo (nc ze ?_));exact aT (And.intro (.inr rfl) rfl)
theorem b4r (W:World) (l:List Bd) (v:Int) (hl:l.length<=90000000000) (h1:0<=v) (h2:v<=9223372036854775807):AFun Tryz.prog W 110 [.lst (l.map Bd.cv),.i v] (.val (c9 l v).cw):=by
 refine a9 (rs:=[(c9 l v).cw]) Tryz.func110 Tryz.ntmps110 rfl rfl rfl rfl ?_;intro w U hW;refine aS (aR ?_);refine nc zk ?_;refine aS (aS (aR ?_));refine nc zl (nc zl (nc (zw (z:=b6A w l v hl)) (nc zl (nc zx (nc zx (nc zk (nc zo (nc ze ?_))))))));refine aS (aR ?_);refine nc zl ?_;unfold c9;refine aC rfl (fun hc=>?_) (fun hc=>?_)
 ·obtain ⟨t,ht⟩:=Option.isSome_iff_exists.1 hc;rw [ht];refine aS (aR ?_);refine nc zy (nc zo ?_);exact aT (And.intro (.inr rfl) rfl)
 ·have ht:b6 l v=none:=by simpa using hc
  rw [ht];refine aK ?_;refine aS (aR ?_);refine nc zl (nc (zw (z:=a0p w v h1 h2)) (nc zo ?_));exact aT (And.intro (.inr rfl) rfl)
theorem b1i (W:World) (l:List Bd) (hl:l.length<=64):AFun Tryz.prog W 75 [.lst (l.map Bd.cv)] (.val (.fn 110 1 [.lst (l.map Bd.cv)])):=by
 refine a9 (rs:=[.fn 110 1 [.lst (l.map Bd.cv)]]) Tryz.func75 Tryz.ntmps75 rfl rfl rfl rfl ?_;intro w U hW;refine aS (aR ?_);refine nc ze ?_;refine aS (aS (aR ?_));refine nc zl (nc zp (nc zz ?_));refine aC rfl (fun hc=>?_) (fun hc=>?_)
 ·refine aS (aR ?_);refine nc zl (nc zA (nc ze ?_));exact aT (And.intro (.inr rfl) rfl)
 ·simp only [length_map,decide_eq_false_iff_not] at hc;omega
theorem a8F (W:World) (fc:CV) (img:Int->Tm) (hI:∀ v,0<=v->v<=9223372036854775807->AFunV Tryz.prog W fc [.i v] (.val (img v).cw)/\(img v).rng/\(img v).size<=90000000000):∀ t:Tm,t.rng->t.ok->AFun Tryz.prog W 59 [t.cw,fc] (.val (b7 img t).cw):=by
 intro t
 induction t using Tm.ind with
 | h f l ih =>
 intro hr kG;have kG:=(Tm.ok_iff _).1 kG;have hr:=(Tm.rng_iff _).1 hr;simp only at kG hr;have kD:=Tm.size_all l;refine a9 (rs:=[(b7 img ⟨f,l⟩).cw]) Tryz.func59 Tryz.ntmps59 rfl rfl rfl rfl ?_;intro w U hW;refine aS (aR ?_);refine nc zd (nc zk ?_);refine aS (aS (aR ?_));refine nc zy ?_;refine nc (zw (z:=S0 w ⟨f,l⟩)) ?_;refine aC rfl (fun hc=>?_) (fun hc=>?_)
 ·have hf:f<0:=by simpa using hc
  rw [j5 hf];obtain ⟨i1,i2,i3⟩:=hI (-1-f) (by omega) (by omega);refine aS (aR ?_);refine nc zl (nc zy ?_);refine nc (zw (z:=W5 w ⟨f,l⟩ hr.1.1 hf)) ?_;refine nc (zB (E:=i1.up hW)) (nc (zw (z:=a2q w i2 i3)) (nc zo ?_));exact aT (And.intro (.inr rfl) rfl)
 ·have hf:¬ f<0:=by simpa using hc
  rw [i8 hf];refine aK ?_;refine aS (aR ?_);refine nc ze ?_;refine aS (aS (aR ?_));refine nc zg (nc zh (nc zp (nc zl ?_)));refine aB (b9 l.length (fun k=>[(1,.val fc),(2,.bp 2 0 []),(100002,.bx (Tm.cw ⟨f,l⟩)),(4,.bp 4 0 []),(100004,⟨5,.row [.i 0,.lst []],1,0,[1]⟩),(5,.own (.lst ((l.take k).map fun t=>(b7 img t).cv)) 200027),(200027,.tok 42 2),(16,.val (.lst (l.map Tm.cv))),(17,.val (.i (l.map Tm.cv).length)),(18,.val (.i k))])
   ((v9 5 200027 42 2 rfl rfl rfl rfl rfl rfl rfl).trans (a7 ⟨rfl,rfl,rfl,rfl,rfl,rfl,rfl,rfl,rfl,rfl,trivial⟩)) ?_)
  intro k hk;refine aS (aR ?_);refine nc zi ?_;refine aS (aC rfl (fun hc=>?_) (fun hc=>?_))
  ·have kB:k<l.length:=by simp only [length_map,decide_eq_true_eq] at hc;omega
   obtain ⟨t,ht⟩:∃ t,l[k]?=some t:=⟨l[k],getElem?_eq_getElem kB⟩
   have mH:=Tm.map_at ht;have iB:=mem_of_getElem? ht;have cR:∀ c∈(l.take k).map fun t=>(b7 img t).cv,c.size=2:=by intro c hc;obtain ⟨t,_,rfl⟩:=mem_map.1 hc;exact Tm.size_cv _
   refine aK ?_;refine aS (aB (aS (aR ?_)));refine nc (zq (H:=by assumption) (hz:=by first | assumption | exact sZ rfl | exact Tm.size_all _ | exact Bd.size_all _ | exact b8 _ | exact bys_size _ | exact Lt.size_all _)) (nc zr (nc zk (nc zo ?_)));refine aR ?_;refine nc zl (nc zy (nc zl (nc (zw (z:=(ih t iB (hr.2 t iB) (kG.2 t iB)).up hW)) (nc zC (nc zD (nc ze ?_))))));refine aR ?_;refine nc zu (nc zl ?_);refine ⟨kB,Wk.trans (a7 (s':=[(1,.val fc),(2,.bp 2 0 []),(100002,.bx (Tm.cw ⟨f,l⟩)),(4,.bp 4 0 []),(100004,⟨5,.row [.i 0,.lst []],1,0,[1]⟩),(5,.own (.lst ((l.take (k+1)).map fun t=>(b7 img t).cv)) 300027),(300027,.tok 42 2),(16,.val (.lst (l.map Tm.cv))),(17,.val (.i (l.map Tm.cv).length)),(18,.val (.i ((k+1:Nat):Int)))]) ⟨rfl,rfl,rfl,rfl,rfl,?_,rfl,rfl,rfl,rfl,trivial⟩) (o8 300027 200027 rfl rfl rfl rfl)⟩;rw [take_add_one,ht,map_append];simp only [Option.toList_some,map_cons,map_nil,Tm.cv_eq];rfl
  ·have kB:k=l.length:=by simp only [length_map,decide_eq_false_iff_not] at hc;omega
   subst kB;rw [take_length];refine aE ?_;refine aS (aR ?_);refine nc zg (nc zh (nc zl (nc zn (nc zo ?_))));refine aT (And.intro (.inr rfl) ?_);unfold Tm.cw;rw [map_map];rfl
theorem b6p {v:Int} (h1:0<=v) (h2:v<=9223372036854775807):(s8 v).rng:=(Tm.rng_iff _).2 ⟨by show _ <= -1-v /\ -1-v<=_;omega,fun s hs=>by cases hs⟩
theorem b4y (v:Int):(s8 v).size=1:=by
 rw [Tm.size_eq];have:(s8 v).ps=[]:=by unfold Tm.ps s8;simp
 rw [this];rfl
theorem J1:∀ {l:List Bd} {v:Int} {t:Tm},b6 l v=some t->∃ b∈l,b.t=t/\b.v=v
 | [],v,t,h=>by cases h
 | b::l,v,t,h=>by
  rw [b6] at h;split at h
  ·rename_i e;cases h;exact ⟨b,by simp,rfl,e⟩
  ·obtain ⟨c,h1,h2⟩:=J1 h;exact ⟨c,mem_cons_of_mem _ h1,h2⟩
def bdsOk (l:List Bd):Prop:=∀ b∈l,b.t.rng/\b.t.size<=90000000000
theorem a7L {l:List Bd} (h:bdsOk l) {v:Int} (h1:0<=v) (h2:v<=9223372036854775807):(c9 l v).rng/\(c9 l v).size<=90000000000:=by
 unfold c9;cases hf:b6 l v with
 | none=>exact ⟨b6p h1 h2,by show (s8 v).size<=_;rw [b4y];omega⟩
 | some t =>
  obtain ⟨b,hb,e,_⟩:=J1 hf;show t.rng/\t.size<=_;rw [<-e];exact h b hb
theorem b4G (W:World) (l:List Bd) (t:Tm) (hl:l.length<=64) (hb:bdsOk l) (hr:t.rng) (kG:t.ok):AFun Tryz.prog W 50 [.lst (l.map Bd.cv),t.cw] (.val (b7 (c9 l) t).cw):=by
 refine a9 (rs:=[(b7 (c9 l) t).cw]) Tryz.func50 Tryz.ntmps50 rfl rfl rfl rfl ?_;intro w U hW;refine aS (aR ?_);refine nc zd (nc zk ?_);refine aS (aD (by kernel_rfl) (by kernel_rfl) ?_);refine nc zy (nc zl (nc (zw (z:=b1i w l hl)) ?_));refine nc (zw (z:=a8F w _ (c9 l) (fun v h1 h2=>⟨⟨_,_,_,rfl,b4r w l v (by omega) h1 h2⟩,a7L hb h1 h2⟩) t hr kG)) ?_;refine nc zo ?_;refine ⟨by kernel_rfl,?_⟩;exact aT (And.intro (.inr rfl) rfl)
def vsL (l:List Tm):List Int:=(l.filter fun s=>decide (s.f<0)).map fun s => -1-s.f
def Tm.vs (t:Tm):List Int:=vsL t.flat
theorem a3Y (l m:List Tm):vsL (l++m)=vsL l++vsL m:=by simp [vsL]
theorem V7 (l:List Tm):vsL (l.flatMap Tm.flat)=l.flatMap Tm.vs:=by
 induction l with
 | nil=>rfl
 | cons t l ih=>rw [flatMap_cons,a3Y,ih,flatMap_cons];rfl
theorem Tm.vs_var {t:Tm} (h:t.f<0):t.vs=[-1-t.f]:=by
 unfold Tm.vs;rw [Tm.flat_eq,Tm.ps_of_var h];simp [vsL,h]
theorem Tm.vs_sym {t:Tm} (h:¬ t.f<0):t.vs=t.l.flatMap Tm.vs:=by
 unfold Tm.vs;rw [Tm.flat_eq,Tm.ps_of_sym (by omega),show t::t.l.flatMap Tm.flat=[t]++t.l.flatMap Tm.flat from rfl,a3Y,V7];simp [vsL,h];rfl
theorem Tm.strip_vs (t:Tm):t.strip.vs=t.vs:=by
 induction t using Tm.indp with
 | h t ih =>
  by_cases h:t.f<0
  ·rw [Tm.vs_var h,Tm.vs_var (by rw [Tm.strip_f];exact h),Tm.strip_f]
  ·rw [Tm.vs_sym h,Tm.vs_sym (by rw [Tm.strip_f];exact h),Tm.strip_l];rw [Tm.ps_of_sym (by omega)] at ih |-;rw [flatMap_def,flatMap_def,map_map];congr 1;exact map_congr_left fun s hs=>ih s hs
theorem a7n (img:Int->Tm) (t:Tm):(b7 img t).vs=t.vs.flatMap fun v=>(img v).vs:=by
 induction t using Tm.indp with
 | h t ih =>
  by_cases h:t.f<0
  ·rw [j5 h,Tm.vs_var h,Tm.strip_vs];simp
  ·rw [i8 h,Tm.vs_sym h,Tm.vs_sym (t:=⟨t.f,_⟩) h];rw [Tm.ps_of_sym (by omega)] at ih;simp only;rw [List.flatMap_assoc,flatMap_def,map_map,flatMap_def];congr 1;exact map_congr_left fun s hs=>ih s hs
theorem Tm.size_sym {t:Tm} (h:¬ t.f<0):t.size=1+(t.l.map Tm.size).sum:=by
 rw [Tm.size_eq,Tm.ps_of_sym (by omega),List.length_flatMap];rfl
theorem Tm.size_var {t:Tm} (h:t.f<0):t.size=1:=by
 rw [Tm.size_eq,Tm.ps_of_var h];rfl
def c1H (acc:List Int) (v:Int):List Int:=if v∈acc then acc else acc++[v]
def nub (l:List Int):List Int:=l.foldl c1H []
theorem a9L (l:List Int) (v:Int):nub (l++[v])=if v∈nub l then nub l else nub l++[v]:=by
 unfold nub;rw [List.foldl_append];rfl
theorem a9q {α:Type} {Q:List α->Prop} (h0:Q []) (h1:∀ l x,Q l->Q (l++[x])):∀ l,Q l:=by
 intro l;have:∀ n (l:List α),l.length=n->Q l:=by
  intro n
  induction n with
  | zero=>intro l hl;rw [List.eq_nil_of_length_eq_zero hl];exact h0
  | succ n ih =>
   intro l hl;have kE:l≠[]:=fun e=>by rw [e] at hl;simp at hl
   rw [<-List.dropLast_concat_getLast kE];exact h1 _ _ (ih _ (by simp [hl]))
 exact this _ l rfl
theorem a7F (l:List Int):∀ v,v∈nub l↔v∈l:=by
 induction l using a9q with
 | h0=>intro v;rfl
 | h1 l x ih =>
  intro v;rw [a9L,mem_append,<-ih];split
  ·rename_i hx;simp only [List.mem_singleton];exact ⟨fun h => .inl h,fun h=>h.elim id fun e=>e▸hx⟩
  ·rw [mem_append]
theorem b4z (l:List Tm):S5 l=nub (vsL l):=by
 have:∀ (l:List Tm) (acc:List Int),l.foldl a6G acc=(vsL l).foldl c1H acc:=by
  intro l
  induction l with
  | nil=>intro acc;rfl
  | cons t l ih =>
   intro acc;rw [List.foldl_cons,ih];by_cases h:t.f<0
   ·have:vsL (t::l)=(-1-t.f)::vsL l:=by simp [vsL,h]
    rw [this,List.foldl_cons];congr 1;unfold a6G c1H;rw [if_pos h]
   ·have:vsL (t::l)=vsL l:=by simp [vsL,h]
    rw [this];congr 1;unfold a6G;rw [if_neg h]
 exact this l []
theorem s6 (t:Tm):∀ v∈t.vs,0<=v:=by
 intro v hv;obtain ⟨s,hs,rfl⟩:=mem_map.1 hv;have:=(List.mem_filter.1 hs).2;simp at this;omega
def Tm.sm:Tm->Prop
 | ⟨f,l⟩=>(-1000<=f/\f<=1000)/\∀ t∈l,Tm.sm t
theorem Tm.sm_iff (t:Tm):t.sm↔(-1000<=t.f/\t.f<=1000)/\∀ s∈t.l,s.sm:=by cases t;rw [Tm.sm]
theorem b6E (t:Tm):∀ most deep,0<=o5 t most deep->t.sm:=by
 induction t using Tm.ind with
 | h f l ih =>
  intro most deep h;rw [a2i] at h;split at h
  ·omega
  ·rename_i hc;refine (Tm.sm_iff _).2 ⟨⟨by show -1000<=f;omega,by show f<=1000;omega⟩,?_⟩;have:∀ (l:List Tm) (m d:Int),(∀ t∈l,∀ most deep,0<=o5 t most deep->t.sm)->0<=H7 l m d->∀ t∈l,t.sm:=by
    intro l
    induction l with
    | nil=>intro m d _ _ t ht;cases ht
    | cons y ys ih2 =>
     intro m d hl h t ht;rw [M5] at h;split at h
     ·omega
     ·have hy:0<=o5 y m d:=by
       rcases Int.lt_or_le (o5 y m d) 0 with h1 | h1
       ·rw [a4h ys d h1] at h;omega
       ·exact h1
      rcases List.mem_cons.1 ht with rfl | ht
      ·exact hl t (by simp) m d hy
      ·exact ih2 (o5 y m d) d (fun s hs=>hl s (mem_cons_of_mem _ hs)) h t ht
   exact this l _ _ ih h
theorem Tm.sm_rng {t:Tm} (h:t.sm):t.rng:=by
 induction t using Tm.ind with
 | h f l ih =>
  obtain ⟨h1,h2⟩:=(Tm.sm_iff _).1 h;exact (Tm.rng_iff _).2 ⟨by simp only at h1 |-;omega,fun s hs=>ih s hs (h2 s hs)⟩
theorem Tm.wt_ok {t:Tm} (h:t.wt<=1000000):t.ok:=by
 induction t using Tm.ind with
 | h f l ih =>
  rw [Tm.wt_eq] at h;simp only at h;have:=Tm.wts_len l;exact (Tm.ok_iff _).2 ⟨by simp only;omega,fun s hs=>ih s hs (by have:s.wt<=Tm.wts l:=Tm.wts_mem hs;omega)⟩
theorem Tm.strip_rng {t:Tm} (h:t.rng):t.strip.rng:=by
 induction t using Tm.indp with
 | h t ih =>
  obtain ⟨h1,h2⟩:=(Tm.rng_iff _).1 h;refine (Tm.rng_iff _).2 ⟨by rw [Tm.strip_f];exact h1,fun s hs=>?_⟩;rw [Tm.strip_l] at hs;obtain ⟨u,hu,rfl⟩:=mem_map.1 hs;exact ih u hu (h2 u (Tm.ps_mem hu).1)
theorem Tm.strip_ok {t:Tm} (h:t.ok):t.strip.ok:=by
 induction t using Tm.indp with
 | h t ih =>
  obtain ⟨h1,h2⟩:=(Tm.ok_iff _).1 h;refine (Tm.ok_iff _).2 ⟨?_,fun s hs=>?_⟩
  ·rw [Tm.strip_l,length_map];unfold Tm.ps;split
   ·simp
   ·exact h1
  ·rw [Tm.strip_l] at hs;obtain ⟨u,hu,rfl⟩:=mem_map.1 hs;exact ih u hu (h2 u (Tm.ps_mem hu).1)
theorem b0a {f:Int} (h1 : -9223372036854775808<=f) (h2:f<=9223372036854775807):(Tm.mk f []).rng:=(Tm.rng_iff _).2 ⟨⟨h1,h2⟩,fun s hs=>by cases hs⟩
theorem b6Z {img:Int->Tm} {t:Tm} (h:t.rng) (hi:∀ v,0<=v->v<=9223372036854775807->(img v).rng):(b7 img t).rng:=by
 induction t using Tm.ind with
 | h f l ih =>
  obtain ⟨h1,h2⟩:=(Tm.rng_iff _).1 h;simp only at h1 h2;by_cases hf:f<0
  ·rw [j5 hf];exact Tm.strip_rng (hi _ (by simp only;omega) (by simp only;omega))
  ·rw [i8 hf];refine (Tm.rng_iff _).2 ⟨h1,fun s hs=>?_⟩;obtain ⟨u,hu,rfl⟩:=mem_map.1 hs;exact ih u hu (h2 u hu)
theorem b8j {img:Int->Tm} {t:Tm} (h:t.ok) (hi:∀ v,(img v).ok):(b7 img t).ok:=by
 induction t using Tm.ind with
 | h f l ih =>
  obtain ⟨h1,h2⟩:=(Tm.ok_iff _).1 h;simp only at h1 h2;by_cases hf:f<0
  ·rw [j5 hf];exact Tm.strip_ok (hi _)
  ·rw [i8 hf];refine (Tm.ok_iff _).2 ⟨by simpa using h1,fun s hs=>?_⟩;obtain ⟨u,hu,rfl⟩:=mem_map.1 hs;exact ih u hu (h2 u hu)
theorem b8I (v:Int):(s8 v).ok:=(Tm.ok_iff _).2 ⟨by show 0<=_;omega,fun s hs=>by cases hs⟩
theorem a9B {l:List Bd} (h:∀ b∈l,b.t.ok) (v:Int):(c9 l v).ok:=by
 unfold c9;cases hf:b6 l v with
 | none=>exact b8I v
 | some t =>
  obtain ⟨b,hb,e,_⟩:=J1 hf;show t.ok;rw [<-e];exact h b hb
theorem n8 (x y:Int):(M3 x y = -1/\x<y)\/(M3 x y=0/\x=y)\/(M3 x y=1/\y<x):=by
 unfold M3;split
 ·exact .inl ⟨rfl,by assumption⟩
 ·split
  ·exact .inr (.inr ⟨rfl,by assumption⟩)
  ·exact .inr (.inl ⟨rfl,by omega⟩)
theorem b0E (x y:Int):(a7y x y = -1/\((x<0/\y<0/\y<x)\/(¬ (x<0/\y<0)/\x<y)))\/(a7y x y=0/\x=y)\/(a7y x y=1/\((x<0/\y<0/\x<y)\/(¬ (x<0/\y<0)/\y<x))):=by
 unfold a7y;split
 ·have:=n8 (-1-x) (-1-y);omega
 ·have:=n8 x y;omega
theorem b3u (a:Tm):∀ b,a0W a b=0↔a.strip=b.strip:=by
 induction a using Tm.indp with
 | h a ih =>
  intro b;rw [b3a,Tm.strip_eq a,Tm.strip_eq b];have hL:∀ (l m:List Tm),(∀ s∈l,∀ b,a0W s b=0↔s.strip=b.strip)->(X0 l m=0↔l.map Tm.strip=m.map Tm.strip):=by
   intro l
   induction l with
   | nil=>intro m _;cases m<;>simp [a1v,a7M,a7x]
   | cons y ys ih2 =>
    intro m hl;cases m with
    | nil=>simp [a1v,a7M,a7x]
    | cons z zs =>
     rw [a6t,map_cons,map_cons,List.cons.injEq,<-hl y (by simp) z,<-ih2 zs (fun s hs=>hl s (mem_cons_of_mem _ hs))];by_cases h:a0W y z=0<;>simp [h]
  rw [Tm.mk.injEq];by_cases h1:a.f=b.f
  ·rw [if_neg (by simp [h1])];by_cases h2:a.ps.length=b.ps.length
   ·rw [if_neg (by simp [h2]),hL _ _ ih];simp [h1]
   ·rw [if_pos h2];constructor
    ·intro h3;have:=n8 a.ps.length b.ps.length;omega
    ·rintro ⟨_,h3⟩;exact absurd (by simpa using congrArg List.length h3) h2
  ·rw [if_pos h1];constructor
   ·intro h3;have:=b0E a.f b.f;omega
   ·rintro ⟨h3,_⟩;exact absurd h3 h1
theorem k8 (a b:Tm):l8 a b=true↔a.strip=b.strip:=by
 unfold l8;rw [beq_iff_eq];exact b3u a b
theorem b1N {a b:Tm} (h:l8 a b=true):a.f=b.f:=by
 have:=(k8 a b).1 h;rw [<-Tm.strip_f,this,Tm.strip_f]
theorem b5v {a b:Tm} (h:a.f≠b.f):l8 a b=false:=by
 cases hs:l8 a b with
 | false=>rfl
 | true=>exact absurd (b1N hs) h
theorem b7a {a b:Tm} (h:a.f=b.f) (hf:a.f<0):l8 a b=true:=by
 rw [k8,Tm.strip_eq,Tm.strip_eq,Tm.ps_of_var hf,Tm.ps_of_var (by omega),h]
theorem a5h {a b:Tm} (h:a.f=b.f) (hf:¬ a.f<0):l8 a b=true↔a.l.map Tm.strip=b.l.map Tm.strip:=by
 rw [k8,Tm.strip_eq,Tm.strip_eq,Tm.ps_of_sym (by omega),Tm.ps_of_sym (by omega),h];simp
theorem b6q {a b:Tm} (hf:¬ a.f<0) (hl:a.l.length≠b.l.length):l8 a b=false:=by
 cases hs:l8 a b with
 | false=>rfl
 | true =>
  have:=congrArg List.length ((a5h (b1N hs) hf).1 hs);simp at this;exact absurd this hl
theorem b8q {a b:Tm} (hf:¬ a.f<0) {i:Nat} {x y:Tm} (hx:a.l[i]?=some x) (hy:b.l[i]?=some y) (h:l8 x y=false):l8 a b=false:=by
 cases hs:l8 a b with
 | false=>rfl
 | true =>
  have:=congrArg (fun l=>l[i]?) ((a5h (b1N hs) hf).1 hs);simp only [List.getElem?_map,hx,hy,Option.map_some,Option.some.injEq] at this;rw [(k8 x y).2 this] at h;cases h
theorem b5N {a b:Tm} (h:a.f=b.f) (hf:¬ a.f<0) (hl:a.l.length=b.l.length) (hi:∀ i x y,i<a.l.length->a.l[i]?=some x->b.l[i]?=some y->l8 x y=true):l8 a b=true:=by
 rw [a5h h hf];apply List.ext_getElem?;intro i;rw [List.getElem?_map,List.getElem?_map];by_cases kY:i<a.l.length
 ·have hx:=getElem?_eq_getElem kY;have hy:=getElem?_eq_getElem (l:=b.l) (i:=i) (by omega);rw [hx,hy];exact congrArg some ((k8 _ _).1 (hi i _ _ kY hx hy))
 ·rw [List.getElem?_eq_none (by omega),List.getElem?_eq_none (by omega)]
set_option maxHeartbeats 1000000 in
theorem A7 (W:World):∀ (a b:Tm),a.ok->b.ok->AFun Tryz.prog W 57 [a.cw,b.cw] (.val (.b (l8 a b))):=by
 intro a
 induction a using Tm.ind with
 | h f l ih =>
 intro b sQ fI;obtain ⟨tZ,sQ⟩:=(Tm.ok_iff _).1 sQ;obtain ⟨tT,fI⟩:=(Tm.ok_iff _).1 fI;simp only at tZ sQ;have kD:=Tm.size_all l;have cR:=Tm.size_all b.l;refine a9 (rs:=[.b (l8 ⟨f,l⟩ b)]) Tryz.func57 Tryz.ntmps57 rfl rfl rfl rfl ?_;intro w U hW;refine aS (aR ?_);refine nc zd (nc zd (nc ze ?_));refine aS (aS (aR ?_));refine nc zg (nc zh (nc zg (nc zh (nc zE ?_))));refine aC rfl (fun hc=>?_) (fun hc=>aK ?_)
 ·have kE:f≠b.f:=by simpa using hc
  rw [b5v (a:=⟨f,l⟩) kE];refine aS (aR ?_);refine nc ze ?_;exact aT (And.intro (.inr rfl) rfl)
 have yB:f=b.f:=by simpa using hc
 clear hc;refine aS (aS (aR ?_));refine nc zg (nc zh (nc zi ?_));refine aC rfl (fun hc=>?_) (fun hc=>aK ?_)
 ·have pX:f<0:=by simpa using hc
  rw [b7a (a:=⟨f,l⟩) yB pX];refine aS (aR ?_);refine nc ze ?_;exact aT (And.intro (.inr rfl) rfl)
 have eT:¬ f<0:=by simpa using hc
 clear hc;refine aS (aS (aR ?_));refine nc zg (nc zh (nc zp (nc zg (nc zh (nc zp (nc zE ?_))))));refine aC rfl (fun hc=>?_) (fun hc=>aK ?_)
 ·have kE:l.length≠b.l.length:=by simp only [length_map,decide_eq_true_eq] at hc;omega
  rw [b6q (a:=⟨f,l⟩) eT kE];refine aS (aR ?_);refine nc ze ?_;exact aT (And.intro (.inr rfl) rfl)
 have cV:l.length=b.l.length:=by simp only [length_map,decide_eq_false_iff_not,ne_eq,Decidable.not_not] at hc;omega
 clear hc;refine aS (aS (aR ?_));refine nc ze ?_;refine aB (l7 l.length (fun k=>∀ i x y,i<k->l[i]?=some x->b.l[i]?=some y->l8 x y=true) (fun k=>[(2,.bp 2 0 []),(100002,.bx (Tm.cw ⟨f,l⟩)),(3,.bp 3 0 []),(100003,.bx b.cw),(5,.val (.i k))]) (a7 ⟨rfl,rfl,rfl,rfl,rfl,trivial⟩) (by omega) ?_);intro k hk hI;refine aS (aS (aR ?_));refine nc zl (nc zg (nc zh (nc zp (nc zi ?_))));refine aC rfl (fun hc=>aK ?_) (fun hc=>aE ?_)
 ·have kB:k<l.length:=by simp only [length_map,decide_eq_true_eq] at hc;omega
  clear hc;obtain ⟨x,hx⟩:∃ x,l[k]?=some x:=⟨l[k],getElem?_eq_getElem kB⟩
  obtain ⟨y,hy⟩:∃ y,b.l[k]?=some y:=⟨b.l[k]'(by omega),getElem?_eq_getElem (by omega)⟩
  have kI:=Tm.map_at hx;have gO:=Tm.map_at hy;have cD:=mem_of_getElem? hx;have mW:=mem_of_getElem? hy;refine aS (aB (aS (aD (by kernel_rfl) (by kernel_rfl) ?_)));refine nc zg (nc zh (nc zl (nc (zq (H:=by assumption) (hz:=by first | assumption | exact sZ rfl | exact Tm.size_all _ | exact Bd.size_all _ | exact b8 _ | exact bys_size _ | exact Lt.size_all _)) (nc zr (nc zg (nc zh (nc zl (nc (zq (H:=by assumption) (hz:=by first | assumption | exact sZ rfl | exact Tm.size_all _ | exact Bd.size_all _ | exact b8 _ | exact bys_size _ | exact Lt.size_all _)) (nc zr (nc (zw (z:=(ih x cD y (sQ x cD) (fI y mW)).up hW)) (nc zF ?_)))))))))));refine ⟨by kernel_rfl,?_⟩;refine aC rfl (fun hc=>?_) (fun hc=>aK ?_)
  ·have hs:l8 x y=false:=by simpa using hc
   rw [b8q (a:=⟨f,l⟩) eT hx hy hs];refine aS (aR ?_);refine nc ze ?_;exact aT (And.intro (.inr rfl) rfl)
  have hs:l8 x y=true:=by simpa using hc
  clear hc;refine aR ?_;refine nc zl (nc zu (nc ze ?_));refine ⟨kB,fun i x' y' hi h1 h2=>?_,a7 ⟨rfl,rfl,rfl,rfl,rfl,trivial⟩⟩;rcases Nat.lt_or_ge i k with h | h
  ·exact hI i x' y' h h1 h2
  ·obtain rfl:i=k:=by omega
   rw [hx] at h1;rw [hy] at h2;cases h1;cases h2;exact hs
 ·have kB:k=l.length:=by simp only [length_map,decide_eq_false_iff_not] at hc;omega
  subst kB;rw [b5N (a:=⟨f,l⟩) yB eT cV hI];refine aS (aR ?_);refine nc ze ?_;exact aT (And.intro (.inr rfl) rfl)
set_option maxHeartbeats 1000000 in
theorem b7H (W:World):∀ (t:Tm),t.ok->AFun Tryz.prog W 38 [t.cw] (.val t.strip.cw):=by
 intro t
 induction t using Tm.ind with
 | h f l ih =>
 intro kG;obtain ⟨hl,kG⟩:=(Tm.ok_iff _).1 kG;simp only at hl kG;have kD:=Tm.size_all l;refine a9 (rs:=[(Tm.strip ⟨f,l⟩).cw]) Tryz.func38 Tryz.ntmps38 rfl rfl rfl rfl ?_;intro w U hW;refine aS (aR ?_);refine nc zd (nc zk ?_);refine aS (aR ?_);refine nc zg (nc zh (nc zn (nc zk (nc zo ?_))));refine aS (aS (aR ?_));refine nc ze ?_;by_cases hf:f<0
 ·have hg:decide (f>=0)=false:=by simpa using hf
  rw [show (Tm.strip ⟨f,l⟩)=⟨f,[]⟩ by rw [Tm.strip_eq,Tm.ps_of_var (t:=⟨f,l⟩) hf];rfl];refine aB (b9 0 (fun k=>[(1,.bp 1 0 []),(100001,.bx (Tm.cw ⟨f,l⟩)),(2,.bp 2 0 []),(100002,⟨5,.row [.i 0,.lst []],1,0,[1]⟩),(3,.bp 3 0 []),(100003,⟨5,.row [.i f,.lst []],1,0,[1]⟩),(4,.val (.i k))]) (a7 ⟨rfl,rfl,rfl,rfl,rfl,rfl,rfl,trivial⟩) ?_);intro k hk;refine aS (aS (aR ?_));refine nc zg (nc zh (nc zG (nc zl (nc zH (nc zH (nc zH (nc zH (nc zH (nc zI ?_)))))))));refine aC rfl (fun hc=>by cases hc) (fun hc=>aE ?_);refine aS (aR ?_);refine nc zy (nc zo ?_);exact aT (And.intro (.inr rfl) rfl)
 have hg:decide (f>=0)=true:=by simp only [decide_eq_true_eq];omega
 rw [show (Tm.strip ⟨f,l⟩)=⟨f,l.map Tm.strip⟩ by rw [Tm.strip_eq,Tm.ps_of_sym (t:=⟨f,l⟩) (by show 0<=f;omega)]];refine aB (b9 l.length (fun k=>[(1,.bp 1 0 []),(100001,.bx (Tm.cw ⟨f,l⟩)),(2,.bp 2 0 []),(100002,⟨5,.row [.i 0,.lst []],1,0,[1]⟩),(3,.bp 3 0 []),(100003,⟨5,.row [.i f,.lst (((l.take k).map Tm.strip).map Tm.cv)],200029,0,[1]⟩),(200029,.tok 51 2),(4,.val (.i k))])
  ((v9 100003 200029 51 2 rfl rfl rfl rfl rfl rfl rfl).trans (a7 ⟨rfl,rfl,rfl,rfl,rfl,rfl,rfl,rfl,trivial⟩)) ?_)
 intro k hk;refine aS (aS (aR ?_));refine nc zg (nc zh (nc zG (nc zl (nc (zl (p:=gb)) (nc (zg (r:=gb)) (nc (zh (r:=gb)) (nc (zp (r:=gb)) (nc (zi (r:=gb)) (nc zJ ?_)))))))));refine aC rfl (fun hc=>aK ?_) (fun hc=>aE ?_)
 ·have kB:k<l.length:=by simp only [length_map,decide_eq_true_eq] at hc;omega
  clear hc;obtain ⟨t,ht⟩:∃ t,l[k]?=some t:=⟨l[k],getElem?_eq_getElem kB⟩
  have mH:=Tm.map_at ht;have iB:=mem_of_getElem? ht;refine aS (aB (aD (by kernel_rfl) (by kernel_rfl) ?_));refine nc zg (nc zK (nc zg (nc zh (nc zl (nc (zq (H:=by assumption) (hz:=by first | assumption | exact sZ rfl | exact Tm.size_all _ | exact Bd.size_all _ | exact b8 _ | exact bys_size _ | exact Lt.size_all _)) (nc zr (nc (zw (z:=(ih t iB (kG t iB)).up hW)) (nc zC (nc zD (nc zg (nc zL ?_)))))))))));refine ⟨by kernel_rfl,?_⟩;refine aR ?_;refine nc zl (nc zu (nc ze ?_));refine ⟨kB,Wk.trans (a7 (s':=[(1,.bp 1 0 []),(100001,.bx (Tm.cw ⟨f,l⟩)),(2,.bp 2 0 []),(100002,⟨5,.row [.i 0,.lst []],1,0,[1]⟩),(3,.bp 3 0 []),(100003,⟨5,.row [.i f,.lst (((l.take (k+1)).map Tm.strip).map Tm.cv)],300029,0,[1]⟩),(300029,.tok 51 2),(4,.val (.i ((k+1:Nat):Int)))]) ⟨rfl,rfl,rfl,rfl,rfl,?_,rfl,rfl,trivial⟩) (o8 300029 200029 rfl rfl rfl rfl)⟩;rw [take_add_one,ht,map_append,map_append];simp only [Option.toList_some,map_cons,map_nil,Tm.cv_eq];rfl
 ·have kB:k=l.length:=by simp only [length_map,decide_eq_false_iff_not] at hc;omega
  subst kB;rw [take_length];refine aS (aR ?_);refine nc zy (nc zo ?_);exact aT (And.intro (.inr rfl) rfl)
theorem a0r (l:List Tm) (k:Nat):((l.take k).flatMap Tm.flat).length<=(l.flatMap Tm.flat).length:=by
 conv=>rhs;rw [<-List.take_append_drop k l,List.flatMap_append,length_append]
 omega
set_option maxHeartbeats 1000000 in
theorem E5 (W:World):∀ (t:Tm),t.ok->t.size<=90000000000->AFun Tryz.prog W 84 [t.cw] (.val (.lst (t.flat.map Tm.cv))):=by
 intro t
 induction t using Tm.ind with
 | h f l ih =>
 intro kG lP;obtain ⟨hl,kG⟩:=(Tm.ok_iff _).1 kG;simp only at hl kG;have kD:=Tm.size_all l;refine a9 (rs:=[.lst ((Tm.flat ⟨f,l⟩).map Tm.cv)]) Tryz.func84 Tryz.ntmps84 rfl rfl rfl rfl ?_;intro w U hW;refine aS (aR ?_);refine nc zd (nc ze ?_);refine aS (aR ?_);refine nc zy (nc zM (nc ze ?_));refine aS (aS (aR ?_));refine nc ze ?_;have e0:look [(3,AV.own (.lst [Tm.cw ⟨f,l⟩]) 300006)] 3=some (.own (.lst ([Tm.mk f l].map Tm.cv)) 300006):=by simp only [map_cons,map_nil,Tm.cv_eq];rfl
 by_cases hf:f<0
 ·have hg:decide (f>=0)=false:=by simpa using hf
  rw [show Tm.flat ⟨f,l⟩=[⟨f,l⟩] by rw [Tm.flat_eq,Tm.ps_of_var (t:=⟨f,l⟩) hf];rfl];refine aB (b9 0 (fun k=>[(1,.bp 1 0 []),(100001,.bx (Tm.cw ⟨f,l⟩)),(3,.val (.lst ([Tm.mk f l].map Tm.cv))),(4,.val (.i k))]) (Wk.trans (a7 (s':=[(1,.bp 1 0 []),(100001,.bx (Tm.cw ⟨f,l⟩)),(3,.own (.lst ([Tm.mk f l].map Tm.cv)) 300006),(4,.val (.i (0:Nat)))]) ⟨rfl,rfl,e0,rfl,trivial⟩) (a1l 3 rfl)) ?_);intro k hk;refine aS (aS (aR ?_));refine nc zg (nc zh (nc zG (nc zl (nc zH (nc zH (nc zH (nc zH (nc zH (nc zI ?_)))))))));refine aC rfl (fun hc=>by cases hc) (fun hc=>aE ?_);refine aS (aR ?_);refine nc zl (nc ze ?_);exact aT (And.intro (.inr rfl) rfl)
 have hg:decide (f>=0)=true:=by simp only [decide_eq_true_eq];omega
 have vS:Tm.flat ⟨f,l⟩=⟨f,l⟩::l.flatMap Tm.flat:=by rw [Tm.flat_eq,Tm.ps_of_sym (t:=⟨f,l⟩) (by show 0<=f;omega)]
 unfold Tm.size at lP;rw [vS] at lP |-;rw [length_cons] at lP;refine aB (b9 l.length (fun k=>[(1,.bp 1 0 []),(100001,.bx (Tm.cw ⟨f,l⟩)),(3,.own (.lst ((Tm.mk f l::(l.take k).flatMap Tm.flat).map Tm.cv)) 200026),(200026,.tok 51 2),(4,.val (.i k))])
  (Wk.trans (a7 (s':=[(1,.bp 1 0 []),(100001,.bx (Tm.cw ⟨f,l⟩)),(3,.own (.lst ([Tm.mk f l].map Tm.cv)) 300006),(300006,.tok 51 2),(4,.val (.i (0:Nat)))]) ⟨rfl,rfl,e0,rfl,rfl,trivial⟩) (o8 300006 200026 rfl rfl rfl rfl)) ?_)
 intro k hk;refine aS (aS (aR ?_));refine nc zg (nc zh (nc zG (nc zl (nc (zl (p:=gb)) (nc (zg (r:=gb)) (nc (zh (r:=gb)) (nc (zp (r:=gb)) (nc (zi (r:=gb)) (nc zJ ?_)))))))));refine aC rfl (fun hc=>aK ?_) (fun hc=>aE ?_)
 ·have kB:k<l.length:=by simp only [length_map,decide_eq_true_eq] at hc;omega
  clear hc;obtain ⟨t,ht⟩:∃ t,l[k]?=some t:=⟨l[k],getElem?_eq_getElem kB⟩
  have mH:=Tm.map_at ht;have iB:=mem_of_getElem? ht;have gC:=a0r l k;have kZ:=I2 Tm.flat iB;have dJ:=a0r l (k+1);rw [take_add_one,ht,List.flatMap_append,length_append] at dJ;simp only [Option.toList_some,flatMap_cons,List.flatMap_nil,List.append_nil] at dJ;refine aS (aB (aR ?_));refine nc zl (nc zg (nc zh (nc zl (nc (zq (H:=by assumption) (hz:=by first | assumption | exact sZ rfl | exact Tm.size_all _ | exact Bd.size_all _ | exact b8 _ | exact bys_size _ | exact Lt.size_all _)) (nc zr (nc (zw (z:=(ih t iB (kG t iB) (by unfold Tm.size;omega)).up hW)) (nc zD (nc ze ?_))))))));refine aR ?_;refine nc zl (nc zu (nc ze ?_));refine ⟨kB,Wk.trans (a7 (s':=[(1,.bp 1 0 []),(100001,.bx (Tm.cw ⟨f,l⟩)),(3,.own (.lst ((Tm.mk f l::(l.take (k+1)).flatMap Tm.flat).map Tm.cv)) 300026),(300026,.tok 51 2),(4,.val (.i ((k+1:Nat):Int)))]) ⟨rfl,rfl,?_,rfl,rfl,trivial⟩) (o8 300026 200026 rfl rfl rfl rfl)⟩;rw [take_add_one,ht,List.flatMap_append,<-List.cons_append,map_append];simp only [Option.toList_some,flatMap_cons,List.flatMap_nil,List.append_nil];rfl
 ·have kB:k=l.length:=by simp only [length_map,decide_eq_false_iff_not] at hc;omega
  subst kB;rw [take_length];refine aS (aR ?_);refine nc zl (nc ze ?_);exact aT (And.intro (.inr rfl) rfl)
theorem Tm.rng_flat {t:Tm} (h:t.rng):∀ s∈t.flat,-9223372036854775808<=s.f/\s.f<=9223372036854775807:=by
 induction t using Tm.indp with
 | h t ih =>
  intro s hs;rw [Tm.flat_eq] at hs;rcases List.mem_cons.1 hs with rfl | hs
  ·exact ((Tm.rng_iff _).1 h).1
  ·obtain ⟨u,hu,hs⟩:=List.mem_flatMap.1 hs;exact ih u hu (((Tm.rng_iff _).1 h).2 u (Tm.ps_mem hu).1) s hs
theorem a0o {l:List Int} {k:Nat} {x n:Int} (h:l[k]?=some x):n∈l.take (k+1)↔n∈l.take k\/x=n:=by
 rw [take_add_one,h,mem_append];simp [eq_comm]
set_option maxHeartbeats 2000000 in
theorem a2J (W:World) (t:Tm) (hr:t.rng) (kG:t.ok) (lP:t.size<=90000000000):AFun Tryz.prog W 113 [t.cw] (.val (.lst ((S5 t.flat).map CV.i))):=by
 refine a9 (rs:=[.lst ((S5 t.flat).map CV.i)]) Tryz.func113 Tryz.ntmps113 rfl rfl rfl rfl ?_;intro w U hW;refine aS (aR ?_);refine nc zd (nc ze ?_);refine aS (aR ?_);refine nc zy (nc (zw (z:=E5 w t kG lP)) (nc ze ?_));have hrf:=Tm.rng_flat hr;unfold Tm.size at lP;obtain ⟨l,hl⟩:∃ l,l=t.flat:=⟨_,rfl⟩
 rw [<-hl] at hrf lP |-;have kD:=Tm.size_all l;refine aS (aR ?_);refine nc ze ?_;refine aS (aS (aR ?_));refine nc ze ?_;refine aB (b9 l.length (fun i=>[(3,.val (.lst (l.map Tm.cv))),(4,.own (.lst ((S5 (l.take i)).map CV.i)) 200049),(200049,.tok 3 1),(5,.val (.i i))])
  ((v9 4 200049 3 1 rfl rfl rfl rfl rfl rfl rfl).trans (a7 ⟨rfl,rfl,rfl,rfl,trivial⟩)) ?_)
 intro i hi;refine aS (aS (aR ?_));refine nc zl (nc zl (nc zp (nc zi ?_)));refine aC rfl (fun hc=>aK ?_) (fun hc=>aE ?_)
 ·have kY:i<l.length:=by simp only [length_map,decide_eq_true_eq] at hc;omega
  clear hc;obtain ⟨s,hs⟩:∃ s,l[i]?=some s:=⟨l[i],getElem?_eq_getElem kY⟩
  have gL:=Tm.map_at hs;have hsr:=hrf s (mem_of_getElem? hs);have cE:l.take (i+1)=l.take i++[s]:=by rw [take_add_one,hs];rfl
  have bQ:=a6k (l.take i);rw [List.length_take] at bQ;refine aS (aB (aS (aS (aR ?_))));refine nc zl (nc zl (nc (zq (H:=by assumption) (hz:=by first | assumption | exact sZ rfl | exact Tm.size_all _ | exact Bd.size_all _ | exact b8 _ | exact bys_size _ | exact Lt.size_all _)) (nc zN (nc zr (nc zG ?_)))));refine aC rfl (fun hc=>aE ?_) (fun hc=>aK ?_)
  ·have qW:¬ s.f<0:=by simp only [decide_eq_true_eq] at hc;omega
   refine aR ?_;refine nc zl (nc zu (nc ze ?_));refine ⟨kY,a7 ⟨rfl,?_,rfl,rfl,trivial⟩⟩;rw [cE,a0w];unfold a6G;rw [if_neg qW];rfl
  have qW:s.f<0:=by simp only [decide_eq_false_iff_not] at hc;omega
  clear hc;refine aS (aR ?_);refine nc zl (nc zl (nc (zq (H:=by assumption) (hz:=by first | assumption | exact sZ rfl | exact Tm.size_all _ | exact Bd.size_all _ | exact b8 _ | exact bys_size _ | exact Lt.size_all _)) (nc zN (nc zr (nc zj (nc ze ?_))))));refine aS (aR ?_);refine nc ze ?_;obtain ⟨n,hn⟩:∃ n,n = -1-s.f:=⟨_,rfl⟩
  obtain ⟨out,ho⟩:∃ out,out=S5 (l.take i):=⟨_,rfl⟩
  rw [<-ho] at bQ |-;have aQ:=b8 out;refine aS (aS (aR ?_));refine nc ze ?_;refine aB (b9 out.length (fun k=>[(3,.val (.lst (l.map Tm.cv))),(4,.own (.lst (out.map CV.i)) 200049),(200049,.tok 3 1),(5,.val (.i i)),(6,.val (.i n)),(7,.val (.b (decide (n∈out.take k)))),(8,.val (.i k))]) (a7 ⟨rfl,rfl,rfl,rfl,by rw [hn];rfl,rfl,rfl,trivial⟩) ?_);intro k hk;refine aS (aS (aR ?_));refine nc zl (nc zl (nc zp (nc zi ?_)));refine aC rfl (fun hc=>aK ?_) (fun hc=>aE ?_)
  ·have kB:k<out.length:=by simp only [length_map,decide_eq_true_eq] at hc;omega
   clear hc;obtain ⟨x,hx⟩:∃ x,out[k]?=some x:=⟨out[k],getElem?_eq_getElem kB⟩
   have kI:=a7z hx;by_cases hm:n∈out.take k
   ·have hg:decide (n∈out.take k)=true:=by simpa using hm
    refine aS (aB (aR ?_));refine nc zl (nc zl (nc zH (nc zH (nc zH (nc zH (nc zH (nc zH (nc zJ (nc ze ?_)))))))));refine aR ?_;refine nc zl (nc zu (nc ze ?_));refine ⟨kB,a7 ⟨rfl,rfl,rfl,rfl,rfl,?_,rfl,trivial⟩⟩;have:decide (n∈out.take (k+1))=true:=by rw [decide_eq_true_eq,a0o hx];exact .inl hm
    rw [this];rfl
   ·have hg:decide (n∈out.take k)=false:=by simpa using hm
    refine aS (aB (aR ?_));refine nc zl (nc zl (nc (zl (p:=gb)) (nc (zl (p:=gb)) (nc (zq (r:=gb) (H:=by assumption) (hz:=by first | assumption | exact sZ rfl | exact Tm.size_all _ | exact Bd.size_all _ | exact b8 _ | exact bys_size _ | exact Lt.size_all _)) (nc (zr (r:=gb)) (nc (zl (p:=gb)) (nc (zt (r:=gb)) (nc zI (nc ze ?_)))))))));refine aR ?_;refine nc zl (nc zu (nc ze ?_));refine ⟨kB,a7 ⟨rfl,rfl,rfl,rfl,rfl,?_,rfl,trivial⟩⟩;have:decide (n∈out.take (k+1))=decide (x=n):=by rw [decide_eq_decide,a0o hx];simp [hm]
    rw [this];rfl
  ·have kB:k=out.length:=by simp only [length_map,decide_eq_false_iff_not] at hc;omega
   subst kB;rw [take_length];refine aS (aR ?_);refine nc zl (nc zF ?_);refine aC rfl (fun hc=>?_) (fun hc=>aK ?_)
   ·have hm:n∉out:=by simpa using hc
    refine aR ?_;refine nc zl (nc zl (nc zC (nc zD (nc ze ?_))));refine aR ?_;refine nc zl (nc zu (nc ze ?_));refine ⟨kY,Wk.trans (a7 (s':=[(3,.val (.lst (l.map Tm.cv))),(4,.own (.lst ((S5 (l.take (i+1))).map CV.i)) 300049),(300049,.tok 3 1),(5,.val (.i ((i+1:Nat):Int)))]) ⟨rfl,?_,rfl,rfl,trivial⟩) (o8 300049 200049 rfl rfl rfl rfl)⟩;have:S5 (l.take (i+1))=out++[n]:=by rw [cE,a0w,<-ho];unfold a6G;rw [if_pos qW,<-hn,if_neg hm]
    rw [this,map_append];rfl
   ·have hm:n∈out:=by simpa using hc
    refine aR ?_;refine nc zl (nc zu (nc ze ?_));refine ⟨kY,a7 ⟨rfl,?_,rfl,rfl,trivial⟩⟩;have:S5 (l.take (i+1))=out:=by rw [cE,a0w,<-ho];unfold a6G;rw [if_pos qW,<-hn,if_pos hm]
    rw [this];rfl
 ·have kY:i=l.length:=by simp only [length_map,decide_eq_false_iff_not] at hc;omega
  subst kY;rw [take_length];refine aS (aR ?_);refine nc zl (nc ze ?_);exact aT (And.intro (.inr rfl) rfl)
set_option maxHeartbeats 1000000 in
theorem b7N (W:World):∀ (t:Tm),t.ok->AFun Tryz.prog W 25 [t.cw] (.val t.cw):=by
 intro t
 induction t using Tm.ind with
 | h f l ih =>
 intro kG;obtain ⟨hl,kG⟩:=(Tm.ok_iff _).1 kG;simp only at hl kG;refine a9 (rs:=[Tm.cw ⟨f,l⟩]) Tryz.func25 Tryz.ntmps25 rfl rfl rfl rfl ?_;intro w U hW;refine aS (aR ?_);refine nc zd (nc zk ?_);refine aS (aR ?_);refine nc zg (nc zh (nc zn (nc zk (nc zo ?_))));refine aS (aS (aR ?_));refine nc ze ?_;refine aB (b9 l.length (fun k=>[(1,.bp 1 0 []),(100001,.bx (Tm.cw ⟨f,l⟩)),(2,.bp 2 0 []),(100002,⟨5,.row [.i 0,.lst []],1,0,[1]⟩),(3,.bp 3 0 []),(100003,⟨5,.row [.i f,.lst ((l.take k).map Tm.cv)],200024,0,[1]⟩),(200024,.tok 42 2),(4,.val (.i k))])
  ((v9 100003 200024 42 2 rfl rfl rfl rfl rfl rfl rfl).trans (a7 ⟨rfl,rfl,rfl,rfl,rfl,rfl,rfl,rfl,trivial⟩)) ?_)
 intro k hk;refine aS (aS (aR ?_));refine nc zl (nc zg (nc zh (nc zp (nc zi ?_))));refine aC rfl (fun hc=>?_) (fun hc=>?_)
 ·simp only [length_map,decide_eq_true_eq] at hc;have kB:k<l.length:=by omega
  obtain ⟨t,ht⟩:∃ t,l[k]?=some t:=⟨l[k],getElem?_eq_getElem kB⟩
  refine aK ?_;refine aS (aB (aD (by kernel_rfl) (by kernel_rfl) ?_));refine nc zg (nc zK (nc zg (nc zh (nc zl (nc (zq (j:=_) (H:=Tm.map_at ht) (hz:=Tm.size_all l)) (nc zr (nc (zw (z:=(ih t (mem_of_getElem? ht) (kG t (mem_of_getElem? ht))).up hW)) (nc zC (nc zD (nc zg (nc zL ?_)))))))))));refine ⟨by kernel_rfl,?_⟩;refine aR ?_;refine nc zl (nc zu (nc ze ?_));refine ⟨kB,Wk.trans (a7 (s':=[(1,.bp 1 0 []),(100001,.bx (Tm.cw ⟨f,l⟩)),(2,.bp 2 0 []),(100002,⟨5,.row [.i 0,.lst []],1,0,[1]⟩),(3,.bp 3 0 []),(100003,⟨5,.row [.i f,.lst ((l.take (k+1)).map Tm.cv)],300024,0,[1]⟩),(300024,.tok 42 2),(4,.val (.i ((k+1:Nat):Int)))]) ⟨rfl,rfl,rfl,rfl,rfl,?_,rfl,rfl,trivial⟩) (o8 300024 200024 rfl rfl rfl rfl)⟩;rw [take_add_one,ht,map_append];simp only [Option.toList_some,map_cons,map_nil,Tm.cv_eq];rfl
 ·refine aE ?_;have kB:k=l.length:=by simp only [length_map,decide_eq_false_iff_not] at hc;omega
  subst kB;rw [take_length];refine aS (aR ?_);refine nc zy (nc zo ?_);exact aT ⟨.inr rfl,rfl⟩
def j9 (l:List Bd):Tm->Tm
 | ⟨f,ts⟩=>if f<0 then c9 l (-1-f) else ⟨f,ts.map (j9 l)⟩
theorem W6 {l:List Bd} {t:Tm} (h:t.f<0):j9 l t=c9 l (-1-t.f):=by cases t;rw [j9,if_pos h]
theorem W8 {l:List Bd} {t:Tm} (h:¬ t.f<0):j9 l t=⟨t.f,t.l.map (j9 l)⟩:=by cases t;rw [j9,if_neg h]
theorem a3U (l:List Bd) (t:Tm):(j9 l t).strip=(b7 (c9 l) t).strip:=by
 induction t using Tm.indp with
 | h t ih =>
  by_cases h:t.f<0
  ·rw [W6 h,j5 h,Tm.strip_strip]
  ·rw [W8 h,i8 h,Tm.strip_eq,Tm.strip_eq,Tm.ps_of_sym (t:=⟨t.f,_⟩) (by show 0<=t.f;omega),Tm.ps_of_sym (t:=⟨t.f,_⟩) (by show 0<=t.f;omega)];rw [Tm.ps_of_sym (by omega)] at ih;simp only [map_map];congr 1;exact map_congr_left fun s hs=>ih s hs
theorem a0l {l:List Bd} {t:Tm} (h:t.ok) (hi:∀ b∈l,b.t.ok):(j9 l t).ok:=by
 induction t using Tm.ind with
 | h f ts ih =>
  obtain ⟨h1,h2⟩:=(Tm.ok_iff _).1 h;simp only at h1 h2;by_cases hf:f<0
  ·rw [W6 hf];exact a9B hi _
  ·rw [W8 hf];refine (Tm.ok_iff _).2 ⟨by simpa using h1,fun s hs=>?_⟩;obtain ⟨u,hu,rfl⟩:=mem_map.1 hs;exact ih u hu (h2 u hu)
set_option maxHeartbeats 2000000 in
theorem y9 (W:World) (l:List Bd) (hl:l.length<=1000000):∀ (t:Tm),t.rng->t.ok->AFun Tryz.prog W 36 [.lst (l.map Bd.cv),t.cw] (.val (j9 l t).cw):=by
 have kD:=Bd.size_all l;intro t
 induction t using Tm.ind with
 | h f ts ih =>
 intro hr kG;obtain ⟨kA,kG⟩:=(Tm.ok_iff _).1 kG;have hr:=(Tm.rng_iff _).1 hr;simp only at kA kG hr;have hszt:=Tm.size_all ts;refine a9 (rs:=[(j9 l ⟨f,ts⟩).cw]) Tryz.func36 Tryz.ntmps36 rfl rfl rfl rfl ?_;intro w U hW;refine aS (aR ?_);refine nc zd (nc zk ?_);refine aS (aS (aR ?_));refine nc zg (nc zh (nc zi ?_));refine aC rfl (fun hc=>?_) (fun hc=>aK ?_)
 ·have hf:f<0:=by simpa using hc
  rw [W6 hf];refine aS (aS (aR ?_));refine nc ze ?_;refine aB (l7 l.length (fun k=>∀ i c,i<k->l[i]?=some c->c.v ≠ -1-f) (fun k=>[(0,.val (.lst (l.map Bd.cv))),(3,.bp 3 0 []),(100003,.bx (Tm.cw ⟨f,ts⟩)),(4,.bp 4 0 []),(100004,⟨5,.row [.i 0,.lst []],1,0,[1]⟩),(5,.val (.i k))]) (a7 ⟨rfl,rfl,rfl,rfl,rfl,rfl,trivial⟩) (by omega) ?_);intro k hk hI;refine aS (aS (aR ?_));refine nc zl (nc zl (nc zp (nc zi ?_)));refine aC rfl (fun hc=>aK ?_) (fun hc=>aE ?_)
  ·have kB:k<l.length:=by simp only [length_map,decide_eq_true_eq] at hc;omega
   clear hc;obtain ⟨b,hb⟩:∃ b,l[k]?=some b:=⟨l[k],getElem?_eq_getElem kB⟩
   have hb':=Bd.map_at hb;refine aS (aB (aS (aD (by kernel_rfl) (by kernel_rfl) ?_)));refine nc zl (nc zl (nc (zq (H:=by assumption) (hz:=by first | assumption | exact sZ rfl | exact Tm.size_all _ | exact Bd.size_all _ | exact b8 _ | exact bys_size _ | exact Lt.size_all _)) (nc zN (nc zr (nc zg (nc zh (nc zj (nc zt ?_))))))));refine ⟨by kernel_rfl,?_⟩;refine aC rfl (fun hc=>?_) (fun hc=>aK ?_)
   ·have hv:b.v = -1-f:=by simpa using hc
    have e:c9 l (-1-f)=b.t:=by unfold c9;rw [a9Y hb hv hI];rfl
    rw [e];refine aS (aR ?_);refine nc zl (nc zl (nc (zq (H:=by assumption) (hz:=by first | assumption | exact sZ rfl | exact Tm.size_all _ | exact Bd.size_all _ | exact b8 _ | exact bys_size _ | exact Lt.size_all _)) (nc zN (nc zr (nc zo ?_)))));exact aT (And.intro (.inr rfl) rfl)
   have hv:¬ b.v = -1-f:=by simpa using hc
   clear hc;refine aR ?_;refine nc zl (nc zu (nc ze ?_));refine ⟨kB,fun i c hi pW=>?_,a7 ⟨rfl,rfl,rfl,rfl,rfl,rfl,trivial⟩⟩;rcases Nat.lt_or_ge i k with h | h
   ·exact hI i c h pW
   ·obtain rfl:i=k:=by omega
    rw [hb] at pW;cases pW;exact hv
  ·have kB:k=l.length:=by simp only [length_map,decide_eq_false_iff_not] at hc;omega
   have e:c9 l (-1-f)=⟨f,[]⟩:=by
    unfold c9;rw [t8 fun b hb=>by obtain ⟨i,hi,he⟩:=List.mem_iff_getElem.1 hb;exact hI i b (by omega) (by rw [getElem?_eq_getElem hi,he])]
    show s8 (-1-f)=_;unfold s8;rw [show -1-(-1-f)=f by omega]
   rw [e];refine aS (aR ?_);refine nc zg (nc zh (nc zn (nc zo ?_)));exact aT (And.intro (.inr rfl) rfl)
 have hf:¬ f<0:=by simpa using hc
 clear hc;rw [W8 hf];refine aS (aR ?_);refine nc zg (nc zh (nc zn (nc zk (nc zo ?_))));refine aS (aS (aR ?_));refine nc ze ?_;refine aB (b9 ts.length (fun k=>[(0,.val (.lst (l.map Bd.cv))),(3,.bp 3 0 []),(100003,.bx (Tm.cw ⟨f,ts⟩)),(4,.bp 4 0 []),(100004,⟨5,.row [.i 0,.lst []],1,0,[1]⟩),(6,.bp 6 0 []),(100006,⟨5,.row [.i f,.lst (((ts.take k).map (j9 l)).map Tm.cv)],200054,0,[1]⟩),(200054,.tok 51 2),(7,.val (.i k))])
  ((v9 100006 200054 51 2 rfl rfl rfl rfl rfl rfl rfl).trans (a7 ⟨rfl,rfl,rfl,rfl,rfl,rfl,rfl,rfl,rfl,trivial⟩)) ?_)
 intro k hk;refine aS (aS (aR ?_));refine nc zl (nc zg (nc zh (nc zp (nc zi ?_))));refine aC rfl (fun hc=>aK ?_) (fun hc=>aE ?_)
 ·have kB:k<ts.length:=by simp only [length_map,decide_eq_true_eq] at hc;omega
  clear hc;obtain ⟨t,ht⟩:∃ t,ts[k]?=some t:=⟨ts[k],getElem?_eq_getElem kB⟩
  have mH:=Tm.map_at ht;have iB:=mem_of_getElem? ht;refine aS (aB (aD (by kernel_rfl) (by kernel_rfl) ?_));refine nc zg (nc zK (nc zl (nc zg (nc zh (nc zl (nc (zq (H:=by assumption) (hz:=by first | assumption | exact sZ rfl | exact Tm.size_all _ | exact Bd.size_all _ | exact b8 _ | exact bys_size _ | exact Lt.size_all _)) (nc zr (nc (zw (z:=(ih t iB (hr.2 t iB) (kG t iB)).up hW)) (nc zC (nc zD (nc zg (nc zL ?_))))))))))));refine ⟨by kernel_rfl,?_⟩;refine aR ?_;refine nc zl (nc zu (nc ze ?_));refine ⟨kB,Wk.trans (a7 (s':=[(0,.val (.lst (l.map Bd.cv))),(3,.bp 3 0 []),(100003,.bx (Tm.cw ⟨f,ts⟩)),(4,.bp 4 0 []),(100004,⟨5,.row [.i 0,.lst []],1,0,[1]⟩),(6,.bp 6 0 []),(100006,⟨5,.row [.i f,.lst (((ts.take (k+1)).map (j9 l)).map Tm.cv)],300054,0,[1]⟩),(300054,.tok 51 2),(7,.val (.i ((k+1:Nat):Int)))]) ⟨rfl,rfl,rfl,rfl,rfl,rfl,?_,rfl,rfl,trivial⟩) (o8 300054 200054 rfl rfl rfl rfl)⟩;rw [take_add_one,ht,map_append,map_append];simp only [Option.toList_some,map_cons,map_nil,Tm.cv_eq];rfl
 ·have kB:k=ts.length:=by simp only [length_map,decide_eq_false_iff_not] at hc;omega
  subst kB;rw [take_length];refine aS (aR ?_);refine nc zy (nc zo ?_);exact aT (And.intro (.inr rfl) rfl)
theorem Y8 {f g:Int->Tm} {t:Tm} (h:∀ v∈t.vs,f v=g v):b7 f t=b7 g t:=by
 induction t using Tm.indp with
 | h t ih =>
  by_cases hf:t.f<0
  ·rw [Tm.vs_var hf] at h;rw [j5 hf,j5 hf,h _ (by simp)]
  ·rw [Tm.vs_sym hf] at h;rw [Tm.ps_of_sym (by omega)] at ih;rw [i8 hf,i8 hf];congr 1;exact map_congr_left fun s hs=>ih s hs fun v hv=>h v (List.mem_flatMap.2 ⟨s,hs,hv⟩)
theorem w9 (v:Int):(s8 v).strip=s8 v:=by
 rw [Tm.strip_eq];have:(s8 v).ps=[]:=by unfold Tm.ps s8;simp
 rw [this];rfl
theorem b1C (t:Tm):b7 s8 t=t.strip:=by
 induction t using Tm.indp with
 | h t ih =>
  by_cases hf:t.f<0
  ·rw [j5 hf,w9,Tm.strip_eq,Tm.ps_of_var hf];unfold s8;rw [show -1-(-1-t.f)=t.f by omega];rfl
  ·rw [Tm.ps_of_sym (by omega)] at ih;rw [i8 hf,Tm.strip_eq,Tm.ps_of_sym (by omega)];congr 1;exact map_congr_left fun s hs=>ih s hs
theorem b3s (img:Int->Tm) (t:Tm):b7 img t.strip=b7 img t:=by
 induction t using Tm.indp with
 | h t ih =>
  by_cases hf:t.f<0
  ·rw [j5 hf,j5 (by rw [Tm.strip_f];exact hf),Tm.strip_f]
  ·rw [Tm.ps_of_sym (by omega)] at ih;rw [i8 hf,i8 (by rw [Tm.strip_f];exact hf),Tm.strip_f,Tm.strip_l,Tm.ps_of_sym (by omega),map_map];congr 1;exact map_congr_left fun s hs=>ih s hs
theorem x9 (img:Int->Tm) (t:Tm):(b7 img t).strip=b7 img t:=by
 induction t using Tm.indp with
 | h t ih =>
  by_cases hf:t.f<0
  ·rw [j5 hf,Tm.strip_strip]
  ·rw [Tm.ps_of_sym (by omega)] at ih;rw [i8 hf,Tm.strip_eq,Tm.ps_of_sym (t:=⟨t.f,_⟩) (by show 0<=t.f;omega)];simp only [map_map];congr 1;exact map_congr_left fun s hs=>ih s hs
def Tm.nv (t:Tm):List Int:=nub t.vs
theorem b2h (t:Tm):S5 t.flat=t.nv:=b4z _
section
variable {α:Type} (lt:α->α->Bool) (a:Nat)
def a0S:Nat->List α->List α
 | 0,L=>L
 | j+1,L=>match L[j+1]?,L[j]? with
  | some x,some y=>if a<j+1/\lt x y=true then a0S j ((L.set (j+1) y).set j x) else L
  | _,_=>L
def C8:Nat->Nat->List α->List α
 | 0,_,L=>L
 | n+1,i,L=>C8 n (i+1) (a0S lt a i L)
theorem a8R:∀ (j:Nat) (L:List α),(a0S lt a j L).length=L.length
 | 0,L=>rfl
 | j+1,L=>by
  unfold a0S;split
  ·split
   ·rw [a8R j];simp
   ·rfl
  ·rfl
theorem b3E {j:Nat} {L:List α} (h:¬ a<j):a0S lt a j L=L:=by
 cases j with
 | zero=>rfl
 | succ j=>unfold a0S;split<;>simp [h]
theorem b2G {j:Nat} {L:List α} {x y:α} (hx:L[j+1]?=some x) (hy:L[j]?=some y) (h:lt x y=false):a0S lt a (j+1) L=L:=by
 unfold a0S;rw [hx,hy];simp [h]
theorem b0f {j:Nat} {L:List α} {x y:α} (hx:L[j+1]?=some x) (hy:L[j]?=some y) (ha:a<j+1) (h:lt x y=true):a0S lt a (j+1) L=a0S lt a j ((L.set (j+1) y).set j x):=by
 conv=>lhs;unfold a0S
 rw [hx,hy];simp [h,ha]
theorem a3q:∀ (n i:Nat) (L:List α),(C8 lt a n i L).length=L.length
 | 0,_,L=>rfl
 | n+1,i,L=>by rw [C8,a3q n,a8R]
end
def ltC (cmp:Bd->Bd->Int) (x y:Bd):Bool:=decide (cmp x y<0)
theorem K1 (l:List Bd) (j:Nat) (b:Bd):(l.map Bd.cv).set j b.cw=(l.set j b).map Bd.cv:=by rw [List.map_set];rfl
theorem a8i (cmp:Bd->Bd->Int) (fc:CV) (L0:List Bd) (a b:Nat) (ha:a<=L0.length) (hb:b<=L0.length) (hn:L0.length<=1000000000) (hc:∀ W x y,Y5 Tryz.prog W fc [x.cw,y.cw] (.val (.i (cmp x y)))) :
  p9 Tryz.prog 159 [(400000,.mrow 99 3 (L0.map Bd.cv))] [.sl 400000 0 L0.length 3,.val (.i a),.val (.i b),.val fc] (.tup []) [(400000,.mrow 99 3 ((C8 (ltC cmp) a (b-(a+1)) (a+1) L0).map Bd.cv))]:=by
 refine k6 Tryz.func159 Tryz.ntmps159 rfl rfl rfl rfl rfl rfl ?_;intro w U hU;obtain ⟨T,hT⟩:∃ T,T=C8 (ltC cmp) a (b-(a+1)) (a+1) L0:=⟨_,rfl⟩
 rw [<-hT];refine aS (aR ?_);refine nc zl (nc zu (nc ze ?_))
 let st:Nat->List Bd->AS:=fun i L=>[(0,.sl 400000 0 L0.length 3),(1,.val (.i a)),(2,.val (.i b)),(3,.val fc),(8,.val (.i i)),(400000,.mrow 99 3 (L.map Bd.cv))]
 refine aB (p8 (fun m s=>∃ i L,m=(b+1)-i/\L.length=L0.length/\a+1<=i/\C8 (ltC cmp) a (b-i) i L=T/\s=st i L) (s':=st (a+1) L0) (a7 ⟨rfl,rfl,rfl,rfl,rfl,rfl,trivial⟩) ⟨a+1,L0,rfl,rfl,Nat.le_refl _,hT.symm,rfl⟩ ?_);rintro m s ⟨i,L,rfl,hL,hi,hI,rfl⟩;refine aS (aS (aR ?_));refine nc zl (nc zl (nc zi ?_));refine aC rfl (fun kA=>?_) (fun kA=>?_)
 ·have hib:i<b:=by simpa using kA
  refine aK ?_;refine aS (aB (aS (aR ?_)));refine nc zl (nc ze ?_)
  let st2:Nat->List Bd->AS:=fun j L=>[(0,.sl 400000 0 L0.length 3),(1,.val (.i a)),(2,.val (.i b)),(3,.val fc),(8,.val (.i i)),(9,.val (.i j)),(400000,.mrow 99 3 (L.map Bd.cv))]
  refine aB (p8 (fun m s=>∃ j L',m=j/\L'.length=L0.length/\j<=i/\a0S (ltC cmp) a j L'=a0S (ltC cmp) a i L/\s=st2 j L') (s':=st2 i L) (a7 ⟨rfl,rfl,rfl,rfl,rfl,rfl,rfl,trivial⟩) ⟨i,L,rfl,hL,Nat.le_refl _,rfl,rfl⟩ ?_);rintro m s ⟨j,L',hmj,hL',mQ,hJ,rfl⟩;by_cases yC:a<j
  ·obtain ⟨j,rfl⟩:∃ k,j=k+1:=⟨j-1,by omega⟩
   obtain ⟨x,hx⟩:∃ x,L'[j+1]?=some x:=⟨L'[j+1]'(by omega),getElem?_eq_getElem (by omega)⟩
   obtain ⟨y,hy⟩:∃ y,L'[j]?=some y:=⟨L'[j]'(by omega),getElem?_eq_getElem (by omega)⟩
   have kI:=Bd.map_at hx;have gO:=Bd.map_at hy;have g:decide (((j+1:Nat):Int)>(a:Int))=true:=by simp;omega
   refine aS (aS (aD (by kernel_rfl) (by kernel_rfl) ?_));refine nc zl (nc zl (nc zO (nc zl (nc (zl (p:=gb)) (nc (zl (p:=gb)) (nc (zl (p:=gb)) (nc (zP (k:=j+1) (p:=gb)) (nc (zQ (r:=gb) (G:=kI)) (nc (zl (p:=gb)) (nc (zl (p:=gb)) (nc (zj (r:=gb)) (nc (zP (k:=j) (p:=gb)) (nc (zQ (r:=gb) (G:=gO)) (nc (zR (t:=gb) (E:=hc _ x y)) (nc (zi (r:=gb)) (nc zJ ?_))))))))))))))));refine ⟨by kernel_rfl,?_⟩;refine aC rfl (fun gM=>?_) (fun gM=>?_)
   ·have gE:ltC cmp x y=true:=gM;refine aK ?_;refine AWp.wk (a7 (s':=st2 (j+1) L') ⟨rfl,rfl,rfl,rfl,rfl,rfl,rfl,trivial⟩) ?_;refine aS (aB (aD (by kernel_rfl) (by kernel_rfl) ?_));refine nc zl (nc zl (nc zl (nc zl (nc zj (nc zl (nc zl (nc zj (nc (zP (k:=j)) (nc (zQ (G:=gO)) (nc zl (nc zl (nc (zP (k:=j+1)) (nc (zQ (G:=kI)) (nc (zP (k:=j+1)) (nc (zS (F:=kI)) (nc (zP (k:=j)) ?_))))))))))))))));refine nc (zS (F:=(by rw [List.getElem?_set_ne (by omega)];exact gO))) ?_;refine ⟨by kernel_rfl,?_⟩;refine aR ?_;refine nc zl (nc zj (nc ze ?_));refine ⟨j,st2 j ((L'.set (j+1) y).set j x),by omega,⟨j,_,rfl,by simp [hL'],by omega,?_,rfl⟩,a7 ⟨rfl,rfl,rfl,rfl,rfl,?_,?_,trivial⟩⟩
    ·rw [<-hJ,b0f _ _ hx hy yC gE]
    ·show some (AV.val (.i _))=some (AV.val (.i _));congr 3;omega
    ·show some (AV.mrow _ _ _)=some (AV.mrow _ _ _);rw [K1,K1]
   ·have gE:ltC cmp x y=false:=gM;refine aE ?_;refine AWp.wk (a7 (s':=st2 (j+1) L') ⟨rfl,rfl,rfl,rfl,rfl,rfl,rfl,trivial⟩) ?_;refine aR ?_;refine nc zl (nc zu (nc ze ?_));refine ⟨(b+1)-(i+1),st (i+1) L',by omega,⟨i+1,L',rfl,hL',by omega,?_,rfl⟩,a7 ⟨rfl,rfl,rfl,rfl,rfl,rfl,trivial⟩⟩;have hs:L'=a0S (ltC cmp) a i L:=by rw [<-hJ,b2G _ _ hx hy gE]
    rw [<-hI,show b-i=(b-(i+1))+1 by omega,C8,hs]
  ·have g:decide ((j:Int)>(a:Int))=false:=by simp;omega
   refine aS (aS (aD (by kernel_rfl) (by kernel_rfl) ?_));refine nc zl (nc zl (nc zO (nc zl (nc zH (nc zH (nc zH (nc zH (nc zH (nc zH (nc zH (nc zH (nc zH (nc zH (nc zH (nc zH (nc zI ?_))))))))))))))));refine ⟨by kernel_rfl,?_⟩;refine aC rfl (fun gM=>?_) (fun gM=>?_)
   ·cases gM
   ·refine aE ?_;refine AWp.wk (a7 (s':=st2 (j) L') ⟨rfl,rfl,rfl,rfl,rfl,rfl,rfl,trivial⟩) ?_;refine aR ?_;refine nc zl (nc zu (nc ze ?_));refine ⟨(b+1)-(i+1),st (i+1) L',by omega,⟨i+1,L',rfl,hL',by omega,?_,rfl⟩,a7 ⟨rfl,rfl,rfl,rfl,rfl,rfl,trivial⟩⟩;have hs:L'=a0S (ltC cmp) a i L:=by rw [<-hJ,b3E _ _ yC]
    rw [<-hI,show b-i=(b-(i+1))+1 by omega,C8,hs]
 ·have hib:¬ i<b:=by simpa using kA
  refine aE ?_;refine ⟨.inl rfl,_,Wk.refl _,rfl,?_,trivial⟩;show some (AV.mrow _ _ _)=some (AV.mrow _ _ _);rw [show b-i=0 by omega] at hI;rw [<-hI];rfl
theorem a4e (W:World) (x y:Int):AFun Tryz.prog W 120 [.i x,.i y] (.val (.i (M3 x y))):=by
 refine ⟨C7 Tryz.func120 rfl rfl,.inl rfl,rfl,?_⟩;rintro U w vs hW ⟨u1,us1,rfl,h1,u2,us2,rfl,h2,h3⟩;have h3:us2=[]:=h3;subst h3;obtain ⟨rfl,_⟩:=n7.1 h1;obtain ⟨rfl,_⟩:=n7.1 h2;refine (K7 x y w).mono ?_;rintro e w' ⟨rfl,hb⟩;exact ⟨_,rfl,n7.2 ⟨rfl,rfl⟩,hb⟩
def b2m (x y:Bd):Int:=M3 x.v y.v
theorem b5G (W:World) (x y:Bd):AFun Tryz.prog W 134 [x.cw,y.cw] (.val (.i (b2m x y))):=by
 refine a9 (rs:=[.i (b2m x y)]) Tryz.func134 Tryz.ntmps134 rfl rfl rfl rfl ?_;intro w U hW;refine aS (aR ?_);refine nc zd (nc zd (nc ze ?_));refine aS (aR ?_);refine nc zg (nc zh (nc zg (nc zh (nc (zw (z:=a4e _ x.v y.v)) (nc ze ?_)))));exact aT ⟨.inr rfl,rfl⟩
theorem b3P (W:World) (x y:Bd):AFun Tryz.prog W 136 [x.cw,y.cw] (.val (.b (decide (x.v=y.v)))):=by
 refine a9 (rs:=[.b (decide (x.v=y.v))]) Tryz.func136 Tryz.ntmps136 rfl rfl rfl rfl ?_;intro w U hW;refine aS (aR ?_);refine nc zd (nc zd (nc ze ?_));refine aS (aR ?_);refine nc zg (nc zh (nc zg (nc zh (nc zt (nc ze ?_)))));exact aT ⟨.inr rfl,rfl⟩
def F3 (b:Bd):Bool:=decide (b.t.f<0)&&decide (-1-b.t.f=b.v)
theorem b6d (W:World) (b:Bd) (h1 : -9223372036854775808<=b.t.f):AFun Tryz.prog W 109 [b.cw] (.val (.b (F3 b))):=by
 refine a9 (rs:=[.b (F3 b)]) Tryz.func109 Tryz.ntmps109 rfl rfl rfl rfl ?_;intro w U hW;refine aS (aR ?_);refine nc zd (nc ze ?_);unfold F3;by_cases hf:b.t.f<0
 ·have g:decide (b.t.f<0)=true:=by simpa using hf
  refine aS (aD (by kernel_rfl) (by kernel_rfl) ?_);refine nc zg (nc zh (nc (zw (z:=S0 _ b.t)) (nc zl (nc (zg (r:=gb)) (nc (zh (r:=gb)) (nc (zw (p:=gb) (z:=W5 _ b.t h1 hf)) (nc (zg (r:=gb)) (nc (zh (r:=gb)) (nc (zt (r:=gb)) (nc zJ (nc ze ?_)))))))))));refine ⟨by kernel_rfl,?_⟩;refine aT ⟨.inr rfl,?_⟩;rw [g];rfl
 ·have g:decide (b.t.f<0)=false:=by simpa using hf
  refine aS (aD (by kernel_rfl) (by kernel_rfl) ?_);refine nc zg (nc zh (nc (zw (z:=S0 _ b.t)) (nc zl (nc zH (nc zH (nc zH (nc zH (nc zH (nc zH (nc zI (nc ze ?_)))))))))));refine ⟨by kernel_rfl,?_⟩;refine aT ⟨.inr rfl,?_⟩;rw [g];rfl
theorem b1r (L:List Bd) (hn:L.length<=1000000000) :
  p9 Tryz.prog 132 [] [.val (.lst (L.map Bd.cv))] (.sl 250007 0 L.length 3) [(250007,.mrow 99 3 (L.map Bd.cv))]:=by
 have kD:=Bd.size_all L;refine k6 Tryz.func132 Tryz.ntmps132 rfl rfl rfl rfl rfl rfl ?_;intro w U hU;refine AWp.nil 0 rfl rfl (fun hl=>?_) ?_
 ·have hL:L=[]:=by simpa using hl
  subst hL;refine aS (aR ?_);refine nc ze ?_;refine aS (aS (aR ?_));refine nc zl (nc zT ?_);refine aC rfl (fun _=>?_) (fun h=>by cases h);refine aS (aR ?_);refine nc ze ?_;exact aT ⟨.inr rfl,_,b2d 2 250007 99 3 rfl rfl rfl rfl rfl,rfl,rfl,trivial⟩
 ·refine aS (aR ?_);refine nc ze ?_;refine aS (aS (aR ?_));refine nc zl (nc zU ?_);refine aC rfl (fun h=>by cases h) (fun _=>?_);refine aK ?_;refine AWp.wk ((c0J 0 rfl rfl).trans (a7 (s':=[(0,.val (.lst (L.map Bd.cv)))]) ⟨rfl,trivial⟩)) ?_;refine aS (aR ?_);refine nc zV (nc zl (nc (zW 250007) (nc ze ?_)));refine aT ⟨.inr rfl,_,Wk.refl _,?_,rfl,trivial⟩;show some (AV.sl _ _ _ _)=some (AV.sl _ _ _ _);rw [length_map];rfl
theorem b0F (cmp:Bd->Bd->Int) (fc:CV) (L:List Bd) (hn:L.length<20) (hc:∀ W x y,Y5 Tryz.prog W fc [x.cw,y.cw] (.val (.i (cmp x y)))) :
  p9 Tryz.prog 153 [(400000,.mrow 99 3 (L.map Bd.cv))] [.sl 400000 0 L.length 3,.val (.i L.length),.val fc] (.tup []) [(400000,.mrow 99 3 ((C8 (ltC cmp) 0 (L.length-1) 1 L).map Bd.cv))]:=by
 refine k6 Tryz.func153 Tryz.ntmps153 rfl rfl rfl rfl rfl rfl ?_;intro w U hU;refine aS (aR ?_);refine nc ze ?_;refine aS (aR ?_);refine nc zl (nc ze (nc ze ?_))
 let st:AS:=[(0,.sl 400000 0 L.length 3),(1,.val (.i L.length)),(2,.val fc),(6,.val (.i 20)),(7,.val (.i 0)),(8,.val (.i 20)),(400000,.mrow 99 3 (L.map Bd.cv))]
 refine aS (aB (b9 0 (fun k=>st) (a7 ⟨rfl,rfl,rfl,rfl,rfl,rfl,rfl,trivial⟩) ?_));intro k hk;refine aS (aS (aR ?_));refine nc zl (nc zl (nc zz ?_));refine aC rfl (fun h=>?_) (fun _=>?_)
 ·exfalso;have h:decide ((20:Int)<=(L.length:Int))=true:=h;simp at h;omega
 refine aE ?_;refine AWp.wk (a7 (s':=st) ⟨rfl,rfl,rfl,rfl,rfl,rfl,rfl,trivial⟩) ?_;have pY:=a8i cmp fc L 0 L.length (by omega) (Nat.le_refl _) (by omega) hc;rw [Nat.zero_add] at pY;refine aS (aR ?_);refine nc zl (nc zl (nc zl (nc zl (nc (zX (z:=pY) (G:=j8 (by first | rfl | kernel_rfl))) ?_))));refine aB (b9 0 (fun k=>[(1,.val (.i L.length)),(6,.val (.i 20)),(400000,.mrow 99 3 ((C8 (ltC cmp) 0 (L.length-1) 1 L).map Bd.cv))]) (a7 ⟨rfl,rfl,rfl,trivial⟩) ?_);intro k hk;refine aS (aS (aR ?_));refine nc zl (nc zl (nc zi ?_));refine aC rfl (fun h=>?_) (fun _=>?_)
 ·exfalso;have h:decide ((20:Int)<(L.length:Int))=true:=h;simp at h;omega
 refine aE ?_;exact ⟨.inl rfl,_,Wk.refl _,rfl,rfl,trivial⟩
theorem a3j (cmp:Bd->Bd->Int) (fc:CV) (L:List Bd) (hn:L.length<20) (hc:∀ W x y,Y5 Tryz.prog W fc [x.cw,y.cw] (.val (.i (cmp x y)))) :
  p9 Tryz.prog 133 [(400000,.mrow 99 3 (L.map Bd.cv))] [.sl 400000 0 L.length 3,.val fc] (.tup []) [(400000,.mrow 99 3 ((C8 (ltC cmp) 0 (L.length-1) 1 L).map Bd.cv))]:=by
 refine k6 Tryz.func133 Tryz.ntmps133 rfl rfl rfl rfl rfl rfl ?_;intro w U hU;have dN:=b0F cmp fc L hn hc;refine aR ?_;refine nc zl (nc zl (nc zY (nc zl (nc (zX (z:=dN) (G:=j8 (by first | rfl | kernel_rfl))) ?_))));exact ⟨.inl rfl,_,Wk.refl _,rfl,rfl,trivial⟩
def a7I (q:Bd->Bool):List Bd->Nat->Int
 | [],_ => -1
 | b::l,i=>if q b then (i:Int) else a7I q l (i+1)
theorem a2m {q:Bd->Bool}:∀ {l:List Bd} {i:Nat},(∀ b∈l,q b=false)->a7I q l i = -1
 | [],_,_=>rfl
 | b::l,i,h=>by rw [a7I,h b (by simp),if_neg (by simp)];exact a2m fun c hc=>h c (mem_cons_of_mem _ hc)
theorem a7J {q:Bd->Bool}:∀ {l:List Bd} {i k:Nat} {b:Bd},l[k]?=some b->q b=true->(∀ j c,j<k->l[j]?=some c->q c=false)->a7I q l i=((i+k:Nat):Int)
 | [],_,_,_,h,_,_=>by simp at h
 | x::l,i,0,b,h,hq,_=>by simp at h;subst h;rw [a7I,if_pos hq];rfl
 | x::l,i,k+1,b,h,hq,hf=>by
  rw [a7I,hf 0 x (by omega) rfl,if_neg (by simp),a7J (k:=k) (by simpa using h) hq fun j c hj hc=>hf (j+1) c (by omega) (by simpa using hc)];congr 1;omega
theorem b0A (q:Bd->Bool) (fc:CV) (L:List Bd) (n:Nat) (sK:n<=L.length) (hn:L.length<=1000000000) (hc:∀ W x,x∈L.take n->Y5 Tryz.prog W fc [x.cw] (.val (.b (q x)))) :
  p9 Tryz.prog 131 [(400000,.mrow 99 3 (L.map Bd.cv))] [.sl 400000 0 n 3,.val fc] (.val (.i (a7I q (L.take n) 0))) [(400000,.mrow 99 3 (L.map Bd.cv))]:=by
 refine k6 Tryz.func131 Tryz.ntmps131 rfl rfl rfl rfl rfl rfl ?_;intro w U hU;refine aS (aR ?_);refine nc ze ?_;refine aS (aS (aR ?_));refine nc zl (nc zY (nc zl ?_));refine aB (l7 n (fun k=>∀ j c,j<k->(L.take n)[j]?=some c->q c=false) (fun k=>[(0,.sl 400000 0 n 3),(1,.val fc),(7,.val (.i n)),(8,.val (.i k)),(400000,.mrow 99 3 (L.map Bd.cv))]) (a7 ⟨rfl,rfl,rfl,rfl,rfl,trivial⟩) (fun j c hj=>by omega) ?_);intro k hk hI;refine aS (aR ?_);refine nc zi ?_;refine aS (aC rfl (fun kA=>?_) (fun kA=>?_))
 ·have kB:k<n:=by simpa using kA
  obtain ⟨x,nZ⟩:∃ x,L[k]?=some x:=⟨L[k]'(by omega),getElem?_eq_getElem (by omega)⟩
  have hx:(L.take n)[k]?=some x:=by rw [List.getElem?_take,if_pos kB];exact nZ
  have kI:=Bd.map_at nZ;refine aK ?_;refine aS (aB (aS (aR ?_)));refine nc zl (nc ze ?_);refine aS (aR ?_);refine nc zl (nc zl (nc zl (nc (zP (k:=k)) (nc (zQ (G:=kI)) (nc (zR (E:=hc _ x (mem_of_getElem? hx))) ?_)))));refine aC rfl (fun hq=>?_) (fun hq=>?_)
  ·refine aS (aR ?_);refine nc zl (nc ze ?_);refine aT ⟨.inr rfl,_,Wk.refl _,?_,rfl,trivial⟩;rw [a7J hx hq hI,Nat.zero_add];rfl
  ·refine aK ?_;refine aR ?_;refine nc zu (nc zl ?_);refine ⟨kB,fun j c hj hc=>?_,a7 ⟨rfl,rfl,rfl,rfl,rfl,trivial⟩⟩;rcases Nat.lt_or_ge j k with h | h
   ·exact hI j c h hc
   ·have:j=k:=by omega
    subst this;rw [hx] at hc;cases hc;exact hq
 ·have kB:¬ k<n:=by simpa using kA
  refine aE ?_;refine aS (aR ?_);refine nc ze ?_;refine aT ⟨.inr rfl,_,Wk.refl _,?_,rfl,trivial⟩;rw [a2m fun b hb=>?_]
  ·rfl
  ·obtain ⟨j,hj⟩:=List.getElem?_of_mem hb;have gK:j<n:=by
    rw [List.getElem?_take] at hj;split at hj
    ·assumption
    ·cases hj
   exact hI j b (by omega) hj
end Go.Proofs.YtglmoficcjphaaaGreat
