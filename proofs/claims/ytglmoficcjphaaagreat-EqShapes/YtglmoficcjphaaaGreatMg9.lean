/-
 UnMid SbRef7 SbRef7N UnRefW UnMidW SbVnt2 Un8A AbRowO Un8B SbNormEq AbDel AbHdl TmPlA TmPlB TmPlC TmPlD KbMath KbMath2 KbMath3 OrMath KbSc KbFns KbFns2 KbFns3 KbFns4
-/
import Derived.Test.YtglmoficcjphaaaGreatMg8
import Derived.Test.YtglmoficcjphaaaGreatMg5
import Derived.Test.YtglmoficcjphaaaGreatMg4
import Derived.Test.YtglmoficcjphaaaGreatMg2
import Derived.Test.YtglmoficcjphaaaGreatMg3
namespace Go.Proofs.YtglmoficcjphaaaGreat
open List (all_eq_true any_eq_true countP_cons countP_map flatMap_append flatMap_cons foldl_cons getElem?_eq_getElem getElem?_eq_none length_append length_cons length_drop length_map length_nil length_set length_take map_append map_cons map_map mem_append mem_append_left mem_append_right mem_cons mem_cons_of_mem mem_cons_self mem_flatMap mem_map mem_of_getElem? mem_of_mem_drop mem_of_mem_take nodup_cons sum_cons take_append_drop zip_cons_cons)
open Go.RowKit
set_option linter.unusedVariables false
set_option linter.unusedSimpArgs false
set_option maxRecDepth 100000
def b9u (S:List Tm):Prop:=∀ s∈S,∀ p∈s.ps,p∈S
def Hits (S:List Tm) (σ:Int->Tm) (t:Tm):Prop:=∃ s∈S,a8 σ t=a8 σ s
def Orig (S:List Tm) (σ:Int->Tm):Prop:=∀ v,0<=v->¬ (σ v).f<0->∃ s∈S,¬ s.f<0/\a8 σ s=σ v
theorem Hits.sym {S:List Tm} {σ:Int->Tm} {t:Tm} (h:Hits S σ t) (ho:Orig S σ) (hb:∀ v,0<=v->(σ v).strip=σ v) (hf:¬ (a8 σ t).f<0):∃ s∈S,¬ s.f<0/\a8 σ t=a8 σ s:=by
 obtain ⟨s,hs,e⟩:=h;by_cases hs0:s.f<0
 ·have h0:0 <= -1-s.f:=by omega
  have e2:a8 σ s=σ (-1-s.f):=by rw [i8 hs0,hb _ h0]
  rw [e,e2] at hf;obtain ⟨q,hq,hq0,e3⟩:=ho _ h0 hf;exact ⟨q,hq,hq0,by rw [e,e2,e3]⟩
 ·exact ⟨s,hs,hs0,e⟩
theorem a0o {S:List Tm} {f g:Tm->Nat} (h:∀ x∈S,f x<=g x):(S.map f).sum<=(S.map g).sum:=by
 induction S with
 | nil=>exact Nat.le_refl _
 | cons a S ih =>
  rw [map_cons,map_cons,sum_cons,sum_cons];have h1:=h a (by simp);have h2:=ih fun x hx=>h x (mem_cons_of_mem _ hx);omega
theorem a8G {S:List Tm} {f g:Tm->Nat} {c:Nat} {s:Tm} (hs:s∈S) (hc:f s+c<=g s) (h:∀ x∈S,f x<=g x):(S.map f).sum+c<=(S.map g).sum:=by
 induction S with
 | nil=>cases hs
 | cons a S ih =>
  rw [map_cons,map_cons,sum_cons,sum_cons];have h1:=h a (by simp);rcases mem_cons.1 hs with rfl | hs
  ·have:=a0o (S:=S) fun x hx=>h x (mem_cons_of_mem _ hx);omega
  ·have:=ih hs fun x hx=>h x (mem_cons_of_mem _ hx);omega
def arN (S:List Tm) (σ:Int->Tm) (n:Nat):Nat:=(S.map fun s=>if (a8 σ s).size<=n then s.ps.length else 0).sum
theorem b4Z {S:List Tm} {σ:Int->Tm} {n m:Nat} (h:n<=m):arN S σ n<=arN S σ m:=a0o fun x _=>by
 split
 ·rw [if_pos (by omega)];exact Nat.le_refl _
 ·exact Nat.zero_le _
theorem Big.one (E:Nat):Big E 1:=by
 unfold Big;have:=a2e E;omega
theorem b8h {S:List Tm} {σ:Int->Tm} (hc:b9u S) (ho:Orig S σ) (hb:∀ v,0<=v->(σ v).strip=σ v):∀ (n:Nat),∀ s∈S,¬ s.f<0->(a8 σ s).size<=n->Big (arN S σ n) (a8 σ s).size:=by
 intro n
 induction n with
 | zero=>intro s _ _ h;have:=Tm.size_pos (a8 σ s);omega
 | succ n ih =>
  intro s hs hf hn;by_cases hle:(a8 σ s).size<=n
  ·exact (ih s hs hf hle).up (b4Z (by omega))
  have hsz:(a8 σ s).size=n+1:=by omega
  have hps:s.ps=s.l:=Tm.ps_of_sym (by omega);have he:a8 σ s=⟨s.f,s.l.map (a8 σ)⟩:=b8 hf;have h1:(a8 σ s).size=1+((s.l.map (a8 σ)).map Tm.size).sum:=by rw [he];exact Tm.size_sym (t:=⟨s.f,s.l.map (a8 σ)⟩) hf
  have hparts:∀ x∈(s.l.map (a8 σ)).map Tm.size,Big (arN S σ n) x:=by
   intro x hx;rw [map_map] at hx;obtain ⟨p,hp,rfl⟩:=mem_map.1 hx;show Big _ (a8 σ p).size;have hpS:p∈S:=hc s hs p (by rw [hps];exact hp);have hlt:(a8 σ p).size<(a8 σ s).size:=Tm.size_part (by rw [he,Tm.ps_of_sym (by show 0<=s.f;omega)];exact mem_map.2 ⟨p,hp,rfl⟩);by_cases hv:(a8 σ p).f<0
   ·rw [Tm.size_var hv];exact Big.one _
   ·obtain ⟨q,hq,hq0,e⟩:=Hits.sym ⟨p,hpS,rfl⟩ ho hb hv;rw [e] at hlt |-;exact ih q hq hq0 (by omega)
  have h2:=Big.node _ hparts;rw [<-h1] at h2;refine h2.up ?_;rw [length_map,length_map];refine a8G hs ?_ fun x _=>?_
  ·rw [if_neg (by omega),if_pos (by omega),hps];omega
  ·split
   ·rw [if_pos (by omega)];exact Nat.le_refl _
   ·exact Nat.zero_le _
def arA (S:List Tm):Nat:=(S.map fun s=>s.ps.length).sum
theorem a1n {S:List Tm} {σ:Int->Tm} (hc:b9u S) (ho:Orig S σ) (hb:∀ v,0<=v->(σ v).strip=σ v) {t:Tm} (h:Hits S σ t):Big (arA S) (a8 σ t).size:=by
 by_cases hv:(a8 σ t).f<0
 ·rw [Tm.size_var hv];exact Big.one _
 ·obtain ⟨q,hq,hq0,e⟩:=h.sym ho hb hv;rw [e];refine (b8h hc ho hb _ q hq hq0 (Nat.le_refl _)).up (a0o fun x _=>?_);split
  ·exact Nat.le_refl _
  ·exact Nat.zero_le _
theorem a3I (S T:List Tm):arA (S++T)=arA S+arA T:=by unfold arA;rw [map_append,List.sum_append]
theorem a0S (t:Tm):arA t.flat+1=t.size:=by
 induction t using Tm.indp with
 | h t ih =>
  have:∀ l:List Tm,(∀ s∈l,arA s.flat+1=s.size)->arA (l.flatMap Tm.flat)+l.length=(l.flatMap Tm.flat).length:=by
   intro l
   induction l with
   | nil=>intro _;rfl
   | cons a l ih2 =>
    intro h;have h1:=h a (by simp);have h2:=ih2 fun s hs=>h s (mem_cons_of_mem _ hs);unfold Tm.size at h1;rw [flatMap_cons,a3I,length_append,length_cons];omega
  have h3:=this t.ps ih;rw [Tm.size_eq,Tm.flat_eq];show ((t::t.ps.flatMap Tm.flat).map fun s:Tm=>s.ps.length).sum+1=_;rw [map_cons,sum_cons];have h4:arA (t.ps.flatMap Tm.flat)=((t.ps.flatMap Tm.flat).map fun s:Tm=>s.ps.length).sum:=rfl;omega
theorem a6m (t:Tm):b9u t.flat:=by
 induction t using Tm.indp with
 | h t ih =>
  intro s hs p hp;rw [Tm.flat_eq] at hs |-;rcases mem_cons.1 hs with rfl | hs
  ·refine mem_cons_of_mem _ (mem_flatMap.2 ⟨p,hp,?_⟩);rw [Tm.flat_eq];simp
  ·obtain ⟨q,hq,hs⟩:=mem_flatMap.1 hs;exact mem_cons_of_mem _ (mem_flatMap.2 ⟨q,hq,ih q hq s hs p hp⟩)
def J8 (l:List (Tm×Tm)):List Tm:=l.flatMap fun p=>p.1.flat++p.2.flat
theorem Z0 (l:List (Tm×Tm)):b9u (J8 l):=by
 intro s hs p hp;obtain ⟨q,hq,hs⟩:=mem_flatMap.1 hs;refine mem_flatMap.2 ⟨q,hq,?_⟩;rcases mem_append.1 hs with hs | hs
 ·exact mem_append_left _ (a6m _ s hs p hp)
 ·exact mem_append_right _ (a6m _ s hs p hp)
theorem a9u {l:List (Tm×Tm)} {p:Tm×Tm} (h:p∈l):p.1∈J8 l/\p.2∈J8 l:=by
 refine ⟨mem_flatMap.2 ⟨p,h,mem_append_left _ ?_⟩,mem_flatMap.2 ⟨p,h,mem_append_right _ ?_⟩⟩<;>(rw [Tm.flat_eq];simp)
theorem a7i:∀ l:List (Tm×Tm),(∀ p∈l,p.1.size<=16/\p.2.size<=16)->arA (J8 l)<=30*l.length
 | [],_=>Nat.le_refl _
 | p::l,h=>by
  have h1:=h p (by simp);have h2:=a7i l fun q hq=>h q (mem_cons_of_mem _ hq);have e:J8 (p::l)=(p.1.flat++p.2.flat)++J8 l:=flatMap_cons;have h3:=a0S p.1;have h4:=a0S p.2;rw [e,a3I,a3I,length_cons];omega
theorem b1C {s E:Nat} (hE:E<=60) (h:Big E s):s<=90000000000:=by
 have h:=h.up hE;unfold Big at h;have e1:(2:Nat) ^ 60=1152921504606846976:=by decide
 have e2:(3:Nat) ^ 60=42391158275216203514294433201:=by decide
 rw [e1,e2] at h;omega
structure a7x (V:List Int) (S:List Tm) (K:Nat) (s:List Bd) (E:List (Tm×Tm)):Prop where
 mgu:Mgu (c9 s) E
 bare:M4 s
 inV:inV V s
 orig:Orig S (c9 s)
 len:s.length+frN V s<=K
 num:∀ b∈s,b.v∈V
theorem b8r {V:List Int} (hV:∀ v∈V,0<=v) {n:Nat} {s:List Bd} {a b:Tm} {E:List (Tm×Tm)} {r} (e:rU n s a b=some r) (hm:Mgu (c9 s) E) (hb:M4 s) (hi:inV V s) (ha:∀ u∈a.vs,u∈V) (hbv:∀ u∈b.vs,u∈V):RSpec V E [(a,b)] s r:=by
 obtain ⟨m,r',e',h⟩:=b2j hV _ _ s a b E rfl rfl hm hb hi ha hbv;have h1:=a7V (Nat.le_max_left n m) _ _ _ _ e;have h2:=a7V (Nat.le_max_right n m) _ _ _ _ e';rw [h1] at h2;cases h2;exact h
theorem b8O (s:List Bd) (x:Int) (t:Tm):(a4U s x t).length=s.length+1:=by unfold a4U;simp
theorem Orig.bnd {S:List Tm} {s:List Bd} (ho:Orig S (c9 s)) (hb:M4 s) {x:Int} {b:Tm} (hin:x∉(a8 (c9 s) b).vs) (hh:Hits S (c9 s) b):Orig S (c9 (a4U s x (a8 (c9 s) b))):=by
 have hB:(a8 (c9 s) b).strip=a8 (c9 s) b:=v8 _ _;have hr:∀ t,a8 (c9 (a4U s x (a8 (c9 s) b))) t=a8 (U7 x (a8 (c9 s) b)) (a8 (c9 s) t):=fun t=>by
  rw [a1F];exact F5 fun v hv=>a1C hB (n9 _ v hv)
 intro v hv hf;rw [a1C hB hv] at hf |-;by_cases h1:(c9 s v).f<0
 ·obtain ⟨w,hw⟩:∃ w,w = -1-(c9 s v).f:=⟨_,rfl⟩
  have e1:a8 (U7 x (a8 (c9 s) b)) (c9 s v)=(U7 x (a8 (c9 s) b) w).strip:=by rw [i8 h1,hw]
  rw [e1] at hf |-;unfold U7 at hf |-;by_cases hx:w=x
  ·rw [if_pos hx,hB] at hf |-;obtain ⟨q,hq,hq0,e⟩:=hh.sym ho (fun v hv=>M7 hb v) hf;refine ⟨q,hq,hq0,?_⟩;rw [hr,<-e,b2e hin,hB]
  ·rw [if_neg hx,r9,r8] at hf;omega
 ·obtain ⟨q,hq,hq0,e⟩:=ho v hv h1;exact ⟨q,hq,hq0,by rw [hr,e]⟩
structure Way (V:List Int) (S:List Tm) (s:List Bd) (a:Tm):Prop where
 vs:∀ u∈a.vs,u∈V
 hits:Hits S (c9 s) a
theorem b8Y {V:List Int} {s:List Bd} {x:Int} {t:Tm} (h:∀ b∈s,b.v∈V) (hx:x∈V):∀ b∈a4U s x t,b.v∈V:=fun b hb=>by
 rcases mem_append.1 hb with hb | hb
 ·obtain ⟨c,hc,rfl⟩:=mem_map.1 hb;exact h c hc
 ·rw [List.mem_singleton] at hb;rw [hb];exact hx
theorem b4V {V:List Int} (hV:∀ v∈V,0<=v) {S:List Tm} {K n:Nat} {s:List Bd} {E:List (Tm×Tm)} (h:a7x V S K s E) {a b a1 b1:Tm} (ha1:a1=a8 (c9 s) a) (hb1:b1=a8 (c9 s) b) (ha:Way V S s a) (hb:Way V S s b) (hf:a1.f<0) {s':List Bd} (hr:a2w (rU n) s a1 b1=some (some s')):Orig S (c9 s')/\s'.length=s.length+1/\∀ b∈s',b.v∈V:=by
 unfold a2w at hr;rw [if_pos hf] at hr;split at hr
 ·cases hr
 ·rename_i hin;cases hr;have hx : -1-a1.f∈V:=T7 h.inV ha.vs _ (by rw [<-ha1,Tm.vs_var hf];simp);rw [hb1] at hin |-;exact ⟨h.orig.bnd h.bare hin hb.hits,b8O _ _ _,b8Y h.num hx⟩
def c2g:List Bd->List Bd->Bool
 | [],[]=>true
 | a::l,b::m=>decide (a.v=b.v)&&(s8 a.t b.t&&c2g l m)
 | _,_=>false
def b7L (v:Int):List Bd->Nat
 | []=>0
 | b::l=>if b.v<v then b7L v l+1 else 0
def c3Q (b:Bd) (l:List Bd):List Bd:=l.take (b7L b.v l)++[b]++l.drop (b7L b.v l)
def c0K (L:List Bd) (i:Nat) (v:Int):Bool:=(L.take i).any fun c=>decide (c.v=v)
def c1S (L:List Bd):Nat->List Bd
 | 0=>[]
 | i+1=>match L[i]? with
  | none=>c1S L i
  | some b=>if c0K L i b.v||R5 b then c1S L i else c3Q b (c1S L i)
theorem a4p {l:List Bd} {t:Tm} (h:t.rng) (hi:∀ b∈l,b.t.rng):(n5 l t).rng:=by
 induction t using Tm.ind with
 | h f k ih =>
  obtain ⟨h1,h2⟩:=(Tm.rng_iff _).1 h;simp only at h1 h2;by_cases hf:f<0
  ·rw [a4A hf];unfold c9;cases hb:b7 l (-1-(Tm.mk f k).f) with
   | none =>
    show (l9 (-1-f)).rng;exact a9V (by omega) (by omega)
   | some t =>
    obtain ⟨b,hbm,e,_⟩:=I7 hb;show t.rng;rw [<-e];exact hi b hbm
  ·rw [a4I hf];refine (Tm.rng_iff _).2 ⟨h1,fun s hs=>?_⟩;obtain ⟨u,hu,rfl⟩:=mem_map.1 hs;exact ih u hu (h2 u hu)
def b4O (g:List Bd->Tm->Tm->Option (Option (List Bd))) (C:List Bd->Tm->Tm->Prop):List (Tm×Tm)->List Bd->Prop
 | [],_=>True
 | p::ps,s=>C s p.1 p.2/\∀ s',g s p.1 p.2=some (some s')->b4O g C ps s'
def Cnd:Nat->List Bd->Tm->Tm->Prop
 | 0,_,_,_=>True
 | n+1,s,a,b=>(s.length<=100000/\∀ x∈s,x.t.rng/\x.t.ok)/\(a.rng/\a.ok/\b.rng/\b.ok)/\((n5 s a).size<=90000000000/\(n5 s b).size<=90000000000)/\∀ a2 b2:Tm,a2=(if swC (n5 s a) (n5 s b) then n5 s b else n5 s a)->b2=(if swC (n5 s a) (n5 s b) then n5 s a else n5 s b)->¬ a2.f<0->a2.f=b2.f->a2.l.length=b2.l.length->b4O (rU n) (Cnd n) (a2.l.zip b2.l) s
def U2 (s:List Bd):Prop:=∀ x∈s,x.t.rng/\x.t.ok
theorem c0Z {s:List Bd} {x:Int} {t:Tm} (h:U2 s) (ht:t.rng/\t.ok):U2 (a4U s x t):=fun y hy=>by
 have h1:U2 [⟨x,t⟩]:=fun b hb=>by rw [List.mem_singleton] at hb;rw [hb];exact ht
 rcases mem_append.1 hy with hy | hy
 ·obtain ⟨c,hc,rfl⟩:=mem_map.1 hy;exact ⟨a4p (h c hc).1 fun b hb=>(h1 b hb).1,a7l (h c hc).2 fun b hb=>(h1 b hb).2⟩
 ·exact h1 y hy
theorem c1i {V:List Int} {K:Nat} {s s':List Bd} (h:s.length+frN V s<=K) (hl:s'.length=s.length+1) (hd:s'=s\/frN V s'<frN V s):s'.length+frN V s'<=K:=by
 rcases hd with rfl | hd
 ·omega
 ·omega
section
variable {V:List Int} {S:List Tm} {K:Nat}
theorem a4h (hV:∀ v∈V,0<=v) {n:Nat} {E:List (Tm×Tm)} (ih:∀ (s:List Bd) (a b:Tm) (E:List (Tm×Tm)),a7x V S K s E->U2 s->Way V S s a->Way V S s b->(a.rng/\a.ok)->(b.rng/\b.ok)->Cnd n s a b/\∀ s',rU n s a b=some (some s')->a7x V S K s' (E++[(a,b)])/\U2 s'):∀ (ps:List (Tm×Tm)) (s:List Bd) (F:List (Tm×Tm)),a7x V S K s (E++F)->U2 s->(∀ p∈ps,(∀ (s1:List Bd) F1,Mgu (c9 s1) (E++F1)->Way V S s1 p.1/\Way V S s1 p.2)/\(p.1.rng/\p.1.ok)/\(p.2.rng/\p.2.ok))->b4O (rU n) (Cnd n) ps s/\∀ s',rUs (rU n) ps s=some (some s')->a7x V S K s' (E++F++ps)/\U2 s'
 | [],s,F,hm,hr,_=>⟨trivial,fun s' e=>by cases e;rw [List.append_nil];exact ⟨hm,hr⟩⟩
 | p::ps,s,F,hm,hr,hp=>by
  obtain ⟨h1,h2,h3⟩:=hp p (by simp);obtain ⟨w1,w2⟩:=h1 s F hm.mgu;obtain ⟨c1,c2⟩:=ih s p.1 p.2 (E++F) hm hr w1 w2 h2 h3;have next:∀ s1,rU n s p.1 p.2=some (some s1)->b4O (rU n) (Cnd n) ps s1/\∀ s',rUs (rU n) ps s1=some (some s')->a7x V S K s' (E++F++p::ps)/\U2 s':=fun s1 e=>by
   obtain ⟨m1,m2⟩:=c2 s1 e;have e3:E++F++[(p.1,p.2)]=E++(F++[p]):=by rw [List.append_assoc]
   rw [e3] at m1;have:=a4h hV ih ps s1 (F++[p]) m1 m2 fun q hq=>hp q (mem_cons_of_mem _ hq);rw [show E++(F++[p])++ps=E++F++p::ps by simp] at this;exact this
  refine ⟨⟨c1,fun s1 e=>(next s1 e).1⟩,fun s' e=>?_⟩;rw [rUs] at e;cases hg:rU n s p.1 p.2 with
  | none=>rw [hg] at e;cases e
  | some q =>
   rw [hg] at e;cases q with
   | none=>cases e
   | some s1=>exact (next s1 hg).2 s' e
theorem b6W (hV:∀ v∈V,0<=v) (hc:b9u S) (hK:K<=100000) (hE:arA S<=60):∀ (n:Nat) (s:List Bd) (a b:Tm) (E:List (Tm×Tm)),a7x V S K s E->U2 s->Way V S s a->Way V S s b->(a.rng/\a.ok)->(b.rng/\b.ok)->Cnd n s a b/\∀ s',rU n s a b=some (some s')->a7x V S K s' (E++[(a,b)])/\U2 s':=by
 intro n
 induction n with
 | zero=>intro s a b E _ _ _ _ _ _;exact ⟨trivial,fun s' e=>by cases e⟩
 | succ n ih =>
  intro s a b E hm hr wa wb ha hb;have ea:n5 s a=a8 (c9 s) a:=o0 hm.bare a;have eb:n5 s b=a8 (c9 s) b:=o0 hm.bare b;have hbare:∀ v,0<=v->(c9 s v).strip=c9 s v:=fun v _=>M7 hm.bare v;have za:(n5 s a).size<=90000000000:=by rw [ea];exact b1C hE (a1n hc hm.orig hbare wa.hits)
  have zb:(n5 s b).size<=90000000000:=by rw [eb];exact b1C hE (a1n hc hm.orig hbare wb.hits)
  have ra:(n5 s a).rng/\(n5 s a).ok:=⟨a4p ha.1 fun x hx=>(hr x hx).1,a7l ha.2 fun x hx=>(hr x hx).2⟩
  have rb:(n5 s b).rng/\(n5 s b).ok:=⟨a4p hb.1 fun x hx=>(hr x hx).1,a7l hb.2 fun x hx=>(hr x hx).2⟩
  have part:∀ c:Tm,Way V S s c->(n5 s c).rng/\(n5 s c).ok->¬ (n5 s c).f<0->∀ p∈(n5 s c).l,(∀ (s1:List Bd) F1,Mgu (c9 s1) (E++F1)->Way V S s1 p)/\p.rng/\p.ok:=by
   intro c wc hcr hcf p hp;have ec:n5 s c=a8 (c9 s) c:=o0 hm.bare c;refine ⟨fun s1 F1 h1=>?_,((Tm.rng_iff _).1 hcr.1).2 p hp,((Tm.ok_iff _).1 hcr.2).2 p hp⟩;have hu:uni (c9 s1) E:=(B6.1 h1.uni).1;refine ⟨fun u hu=>T7 hm.inV wc.vs u ?_,?_⟩
   ·rw [<-ec,Tm.vs_sym hcf];exact mem_flatMap.2 ⟨p,hp,hu⟩
   ·rw [ec] at hcf hp;obtain ⟨q,hq,hq0,e⟩:=wc.hits.sym hm.orig hbare hcf;rw [e,b8 hq0] at hp;obtain ⟨q2,hq2,rfl⟩:=mem_map.1 hp;exact ⟨q2,hc q hq q2 (by rw [Tm.ps_of_sym (by omega)];exact hq2),hm.mgu.rep hu q2⟩
  have list:∀ c d:Tm,Way V S s c->Way V S s d->(n5 s c).rng/\(n5 s c).ok->(n5 s d).rng/\(n5 s d).ok->¬ (n5 s c).f<0->(n5 s c).f=(n5 s d).f->b4O (rU n) (Cnd n) ((n5 s c).l.zip (n5 s d).l) s/\∀ s',rUs (rU n) ((n5 s c).l.zip (n5 s d).l) s=some (some s')->a7x V S K s' (E++[]++(n5 s c).l.zip (n5 s d).l)/\U2 s':=by
   intro c d wc wd hcr hdr hcf hfe;refine a4h hV ih _ s [] (by rw [List.append_nil];exact hm) hr fun p hp=>?_;obtain ⟨p1,p2⟩:=List.of_mem_zip (a:=p.1) (b:=p.2) hp;obtain ⟨a1,a2⟩:=part c wc hcr hcf _ p1;obtain ⟨b1,b2⟩:=part d wd hdr (by rw [<-hfe];exact hcf) _ p2;exact ⟨fun s1 F1 h1=>⟨a1 s1 F1 h1,b1 s1 F1 h1⟩,a2,b2⟩
  refine ⟨⟨⟨by have:=hm.len;omega,hr⟩,⟨ha.1,ha.2,hb.1,hb.2⟩,⟨za,zb⟩,?_⟩,fun s' e=>?_⟩
  ·intro a2 b2 e1 e2 hf hff hll;split at e1
   ·rename_i hs;rw [if_pos hs] at e2;subst e1 e2;exact (list b a wb wa rb ra hf hff).1
   ·rename_i hs;rw [if_neg hs] at e2;subst e1 e2;exact (list a b wa wb ra rb hf hff).1
  ·have hsp:=b8r hV e hm.mgu hm.bare hm.inV wa.vs wb.vs;obtain ⟨q1,q2,q3,q4⟩:=hsp;have go:∀ c d:Tm,Way V S s c->Way V S s d->(n5 s c).rng/\(n5 s c).ok->(n5 s d).rng/\(n5 s d).ok->a2w (rU n) s (n5 s c) (n5 s d)=some (some s')->(Orig S (c9 s')/\s'.length+frN V s'<=K/\∀ b∈s',b.v∈V)/\U2 s':=by
    intro c d wc wd hcr hdr e;by_cases hf:(n5 s c).f<0
    ·obtain ⟨o1,o2,o3⟩:=b4V hV hm (o0 hm.bare c) (o0 hm.bare d) wc wd hf e;refine ⟨⟨o1,c1i hm.len o2 q4,o3⟩,?_⟩;unfold a2w at e;rw [if_pos hf] at e;split at e
     ·cases e
     ·cases e;exact c0Z hr hdr
    ·unfold a2w at e;rw [if_neg hf] at e;split at e
     ·cases e
     ·rename_i hne;obtain ⟨m1,m2⟩:=(list c d wc wd hcr hdr hf (Decidable.byContradiction fun h=>hne (.inl h))).2 s' e;exact ⟨⟨m1.orig,m1.len,m1.num⟩,m2⟩
   rw [rU] at e;split at e
   ·cases e;exact ⟨⟨q1,q2,q3,hm.orig,hm.len,hm.num⟩,hr⟩
   ·split at e
    ·obtain ⟨⟨o1,o2,o4⟩,o3⟩:=go b a wb wa rb ra e;exact ⟨⟨q1,q2,q3,o1,o2,o4⟩,o3⟩
    ·obtain ⟨⟨o1,o2,o4⟩,o3⟩:=go a b wa wb ra rb e;exact ⟨⟨q1,q2,q3,o1,o2,o4⟩,o3⟩
end
def a7S (l:List (Tm×Tm)):Prop:=∀ p∈l,((p.1.rng/\p.1.ok)/\p.1.size<=16)/\((p.2.rng/\p.2.ok)/\p.2.size<=16)
def G9 (l:List (Tm×Tm)):List Int:=l.flatMap fun p=>p.1.vs++p.2.vs
theorem a8R {V:List Int} (p:Int->Bool):(V.filter p).length<=V.length:=List.length_filter_le _ _
theorem b2V (t:Tm):t.vs.length<=t.size:=by
 unfold Tm.vs Tm.size vsL;rw [length_map];exact List.length_filter_le _ _
theorem a1N:∀ l:List (Tm×Tm),a7S l->(G9 l).length<=32*l.length
 | [],_=>Nat.le_refl _
 | p::l,h=>by
  have h1:=h p (by simp);have h2:=a1N l fun q hq=>h q (mem_cons_of_mem _ hq);have e:G9 (p::l)=(p.1.vs++p.2.vs)++G9 l:=flatMap_cons;have h3:=b2V p.1;have h4:=b2V p.2;rw [e,length_append,length_append,length_cons];omega
theorem b8N (l:List (Tm×Tm)) (hl:l.length<=2) (ht:a7S l):∃ n r,rUs (rU n) l []=some r/\b4O (rU n) (Cnd n) l []/\(r=none->∀ τ,¬ uni τ l)/\∀ s,r=some s->Mgu (c9 s) l/\M4 s/\inV (G9 l) s/\U2 s/\(∀ b∈s,0<=b.v)/\s.length<=64/\(∀ b∈s,b.v∈G9 l)/\(∀ t,(∃ q∈J8 l,t=q)->(a8 (c9 s) t).size<=90000000000)/\∀ v,0<=v->c9 s v=l9 v\/((c9 s v).rng/\(c9 s v).size<=90000000000):=by
 have hV:∀ v∈G9 l,0<=v:=fun v hv=>by
  obtain ⟨p,_,hv⟩:=mem_flatMap.1 hv;rcases mem_append.1 hv with hv | hv<;>exact n9 _ v hv
 have hsub:∀ p∈l,(∀ u∈p.1.vs,u∈G9 l)/\∀ u∈p.2.vs,u∈G9 l:=fun p hp=>⟨fun u hu=>mem_flatMap.2 ⟨p,hp,mem_append_left _ hu⟩,fun u hu=>mem_flatMap.2 ⟨p,hp,mem_append_right _ hu⟩⟩
 have h0:Mgu (c9 []) []:=Mgu.nil;obtain ⟨n,r,e,g1,g2⟩:=a1O hV l [] [] h0 (fun b hb=>by cases hb) (fun b hb=>by cases hb) hsub;rw [List.nil_append] at g1 g2;have hE:arA (J8 l)<=60:=by
  have:=a7i l fun p hp=>⟨(ht p hp).1.2,(ht p hp).2.2⟩
  omega
 have hvl:=a1N l ht;have hmid0:a7x (G9 l) (J8 l) 64 [] ([]++[]):=⟨h0,(fun b hb=>by cases hb),(fun b hb=>by cases hb),(fun v hv hf=>by exfalso;apply hf;show (l9 v).f<0;rw [r8];omega),by
  have:frN (G9 l) []<=(G9 l).length:=a8R _;show 0+_<=64;omega,fun b hb=>by cases hb⟩
 obtain ⟨c1,c2⟩:=a4h (V:=G9 l) (S:=J8 l) (K:=64) (E:=[]) hV (b6W hV (Z0 l) (by decide) hE n) l [] [] hmid0 (fun b hb=>by cases hb) fun p hp=>by
  obtain ⟨s1,s2⟩:=a9u hp;exact ⟨fun s1' F1 h1=>⟨⟨(hsub p hp).1,p.1,s1,rfl⟩,⟨(hsub p hp).2,p.2,s2,rfl⟩⟩,(ht p hp).1.1,(ht p hp).2.1⟩
 refine ⟨n,r,e,c1,g1,fun s hs=>?_⟩;obtain ⟨k1,k2,k3⟩:=g2 s hs;rw [hs] at e;obtain ⟨m1,m2⟩:=c2 s e;have hbare:∀ v,0<=v->(c9 s v).strip=c9 s v:=fun v _=>M7 k2 v;have hbig:∀ q∈J8 l,(a8 (c9 s) q).size<=90000000000:=fun q hq=>b1C hE (a1n (Z0 l) m1.orig hbare ⟨q,hq,rfl⟩);refine ⟨k1,k2,k3,m2,a7h (b7x n) l [] s e (fun b hb=>by cases hb),by have:=m1.len;omega,m1.num,fun t ⟨q,hq,e⟩=>by rw [e];exact hbig q hq,fun v hv=>?_⟩;by_cases hf:(c9 s v).f<0
 ·unfold c9 at hf |-;cases hfd:b7 s v with
  | none=>exact .inl rfl
  | some t =>
   right;rw [hfd] at hf;obtain ⟨b,hbm,e1,_⟩:=I7 hfd;refine ⟨by show t.rng;rw [<-e1];exact (m2 b hbm).1,?_⟩;show t.size<=_;rw [Tm.size_var (show t.f<0 from hf)];decide
 ·right;obtain ⟨q,hq,hq0,e1⟩:=m1.orig v hv hf;refine ⟨?_,by rw [<-e1];exact hbig q hq⟩;unfold c9 at hf |-;cases hfd:b7 s v with
  | none=>rw [hfd] at hf;exact absurd (show (l9 v).f<0 by rw [r8];omega) hf
  | some t =>
   obtain ⟨b,hbm,e2,_⟩:=I7 hfd;show t.rng;rw [<-e2];exact (m2 b hbm).1
theorem b1E (t:Tm):t.nv.length<=t.size:=by
 have h:∀ l:List Int,(nub l).length<=l.length:=by
  intro l
  induction l using a4v with
  | h0=>exact Nat.le_refl _
  | h1 l x ih=>rw [a1u];split<;>simp<;>omega
 refine Nat.le_trans (h t.vs) ?_;unfold Tm.vs vsL Tm.size;rw [length_map];exact List.length_filter_le _ _
theorem c1u {t:Tm} (h:t.rng):∀ v∈t.nv,0<=v/\v<=9223372036854775807:=by
 intro v hv;have hv:=(a6T _ _).1 hv;have h1:=n9 t v hv;have h2:=c0x (t:=t) (B:=9223372036854775808) (fun s hs=>(Tm.rng_flat h s hs).1) v hv;omega
theorem c0X {a b:List Int} {k:Nat} {v u:Int} (h1:a[k]?=some v) (h2:b[k]?=some u):(a3Y a b)[k]?=some ⟨v,l9 u⟩:=by
 unfold a3Y;rw [List.getElem?_zipWith,h1,h2]
theorem b7Y {a b:List Int} (h:a.length=b.length):(a3Y a b).length=a.length:=by
 unfold a3Y;rw [List.length_zipWith];omega
theorem b8I {a b:List Int} {x:Bd} (h:x∈a3Y a b):∃ u∈b,x.t=l9 u:=by
 unfold a3Y at h;obtain ⟨i,hi,e⟩:=List.mem_iff_getElem.1 h;rw [List.getElem_zipWith] at e;exact ⟨_,List.getElem_mem _,by rw [<-e]⟩
def c3C (p q:List Bd) (l:List Int):Bool:=l.all fun v=>s8 (c9 p v) (c9 q v)
theorem Z4 {σ σ':Int->Tm} (h:∀ v,0<=v->σ' v=σ v) (t:Tm):a8 σ' t=a8 σ t:=F5 fun v hv=>h v (n9 _ v hv)
theorem Mgu.congr {σ σ':Int->Tm} {E:List (Tm×Tm)} (hm:Mgu σ E) (h:∀ v,0<=v->σ' v=σ v):Mgu σ' E:=
 ⟨fun p hp=>by rw [Z4 h,Z4 h];exact hm.uni p hp,fun v hv=>by rw [h v hv];exact hm.bare v hv,fun v hv u hu=>by
  rw [h v hv] at hu;rw [h u (n9 _ u hu)];exact hm.idem v hv u hu,fun τ ht v hv=>by rw [h v hv];exact hm.most τ ht v hv,fun v hv hf=>by
  rw [h v hv] at hf |-;exact hm.low v hv hf⟩
theorem b4f {s:List Bd} (hb:M4 s) {v:Int} (hv:0<=v):c9 (x7 s) v=c9 s v:=by
 have h1:=b4L s hv;have h2:c9 (x7 s) v=(b7 (x7 s) v).getD (l9 v):=rfl;rw [h2,h1];split
 ·rename_i hi;have hi:(decide ((c9 s v).f<0)&&decide (-1-(c9 s v).f=v))=true:=hi;rw [Bool.and_eq_true,decide_eq_true_eq,decide_eq_true_eq] at hi;show l9 v=_;rw [a1f (M7 hb v) hi.1,hi.2]
 ·exact M7 hb v
structure Tells8 (l:List (Tm×Tm)) (r:List Bd×Bool):Prop where
 told:ToldU l r
 yes:r.2=true->Mgu (c9 r.1) l
 no:r.2=false->r.1=[]/\∀ τ,¬ uni τ l
 len:r.1.length<=64
 ok:∀ b∈r.1,(b.t.rng/\b.t.size<=90000000000)/\b.t.ok
 bare:M4 r.1
 inV:∀ b∈r.1,b.v∈G9 l/\∀ u∈b.t.vs,u∈G9 l
 srt:r.1.Pairwise (fun x y=>x.v<y.v)
 free:∀ t u,u∈(a8 (c9 r.1) t).vs->b7 r.1 u=none
 big:∀ q∈J8 l,(a8 (c9 r.1) q).size<=90000000000
theorem b4q {l:List (Tm×Tm)} (ht:a7S l):∀ q∈J8 l,q.size<=16:=fun q hq=>by
 have key:∀ t:Tm,∀ q∈t.flat,q.size<=t.size:=by
  intro t
  induction t using Tm.indp with
  | h t ih =>
   intro q hq;rw [Tm.flat_eq] at hq;rcases mem_cons.1 hq with rfl | hq
   ·exact Nat.le_refl _
   ·obtain ⟨p,hp,hq⟩:=mem_flatMap.1 hq;have:=ih p hp q hq;have:=Tm.size_part hp;omega
 obtain ⟨p,hp,hq⟩:=mem_flatMap.1 hq;rcases mem_append.1 hq with hq | hq
 ·exact Nat.le_trans (key _ q hq) (ht p hp).1.2
 ·exact Nat.le_trans (key _ q hq) (ht p hp).2.2
theorem b9e {l:List (Tm×Tm)} (hl:l.length<=2) (ht:a7S l):∃ n r,rUs (rU n) l []=some r/\b4O (rU n) (Cnd n) l []/\(∀ s,r=some s->s.length<=1000/\∀ b∈s,b.t.rng/\b.t.ok)/\Tells8 l ((r.map x7).getD [],r.isSome):=by
 obtain ⟨n,r,e,hC,h1,h2⟩:=b8N l hl ht;refine ⟨n,r,e,hC,fun s hs=>?_,?_⟩
 ·obtain ⟨_,_,_,m4,_,m6,_⟩:=h2 s hs;exact ⟨by omega,m4⟩
 cases r with
 | none =>
  have hn:=h1 rfl;have hid:∀ t:Tm,a8 (c9 []) t=t.strip:=fun t=>a7Y t;exact ⟨.inl ⟨rfl,rfl,hn⟩,(fun h=>by cases h),fun _=>⟨rfl,hn⟩,Nat.zero_le _,(fun b hb=>by cases hb),(fun b hb=>by cases hb),(fun b hb=>by cases hb),List.Pairwise.nil,fun t u hu=>rfl,fun q hq=>by
   show (a8 (c9 []) q).size<=_;rw [hid,Tm.strip_size];have:=b4q ht q hq;omega⟩
 | some s =>
  obtain ⟨m1,m2,m3,m4,m5,m6,m7,m8,m9⟩:=h2 s rfl;have hi:∀ v,0<=v->c9 (x7 s) v=c9 s v:=fun v hv=>b4f m2 hv;have hbs:∀ b∈x7 s,∃ c∈s,b.v=c.v/\b.t=c.t:=fun b hb=>by
   unfold x7 at hb;obtain ⟨c,hc,rfl⟩:=mem_map.1 hb;have hcs:=V2 (List.mem_filter.1 hc).1;exact ⟨c,hcs,rfl,m2 c hcs⟩
  have hin:∀ b∈x7 s,b7 (x7 s) b.v=some b.t:=fun b hb=>by
   have key:∀ L:List Bd,L.Pairwise (fun x y=>x.v<y.v)->∀ b∈L,b7 L b.v=some b.t:=fun L=>by
    induction L with
    | nil=>intro _ b hb;cases hb
    | cons a L ih =>
     intro hp b hb;obtain ⟨p1,p2⟩:=List.pairwise_cons.1 hp;rw [b7];rcases mem_cons.1 hb with rfl | hb
     ·rw [if_pos rfl]
     ·rw [if_neg (by have:=p1 b hb;omega)];exact ih p2 b hb
   exact key _ (Z2 s) b hb
  refine ⟨.inr ⟨rfl,s,m1,m5,m9,rfl⟩,fun _=>m1.congr hi,(fun h=>by cases h),Nat.le_trans (b3l s) m6,fun b hb=>?_,fun b hb=>?_,fun b hb=>?_,Z2 s,fun t u hu=>?_,fun q hq=>?_⟩
  ·obtain ⟨c,hc,e1,e2⟩:=hbs b hb;have h0:0<=b.v:=by rw [e1];exact m5 c hc
   have hf:=hin b hb;have him:c9 s b.v=b.t:=by rw [<-hi _ h0];unfold c9;rw [hf];rfl
   refine ⟨⟨by rw [e2];exact (m4 c hc).1,?_⟩,by rw [e2];exact (m4 c hc).2⟩;rcases m9 b.v h0 with h | h
   ·rw [<-him,h,Tm.size_var (by rw [r8];omega)];decide
   ·rw [<-him];exact h.2
  ·obtain ⟨c,hc,_,e2⟩:=hbs b hb;show b.t.strip=b.t;rw [e2];exact m2 c hc
  ·obtain ⟨c,hc,e1,e2⟩:=hbs b hb;rw [e1,e2];exact ⟨m7 c hc,m3 c hc⟩
  ·have hu:u∈(a8 (c9 (x7 s)) t).vs:=hu;rw [Z4 hi] at hu;exact b3a m1 hu
  ·show (a8 (c9 (x7 s)) q).size<=_;rw [Z4 hi];exact m8 q ⟨q,hq,rfl⟩
theorem Tells8.bdsOk {l:List (Tm×Tm)} {r:List Bd×Bool} (h:Tells8 l r):bdsOk r.1:=fun b hb=>(h.ok b hb).1
def c4r (l:List Tm):Bool:=l.all fun t=>decide (0<=n8 t 16 8)
def exX:Tm:=⟨4,[⟨-1,[]⟩,⟨1,[]⟩]⟩
def exY:Tm:=⟨4,[⟨3,[⟨-2,[]⟩]⟩,⟨-2,[]⟩]⟩
def exU:List Bd:=[⟨0,⟨3,[⟨1,[]⟩]⟩⟩,⟨1,⟨1,[]⟩⟩]
theorem b9r {s:List Bd} (hs:bdsOk s) {t:Tm} (h:t.rng):(a8 (c9 s) t).rng:=a1q h fun v h1 h2=>(a1H hs h1 h2).1
abbrev c5o (l:List Bd):Prop:=l.Pairwise fun x y=>x.v<y.v
def fnI (o:Option Tm) (v:Int):Option Tm:=match o with | some t=>if R5 ⟨v,t⟩ then none else some t | none=>none
section
variable {P:Program} {w0:World} {U0:UX} {nt:Nat} {ops:Array Oper} {o:Oper} {S:Nat->Option AV} {gs:List Nat} {d:Nat} {s:AS} {a:Act} {w:World} {D:Nat->Nat->Prop} {hv:Nat->Value}
theorem c0P (i1 i2 i3:Nat) (hg:Gd w0 U0 nt ops o gs S) (hd:o.dst=some d) (hn:Nat.blt d nt=true) (h5:Nat.blt d 100000=true) {x y y2 y3:Operand} {t e:TypeId} {z:Nat} {k k2 k3:IntKind} {j1 j2 j3:Int} {n lo len n1 q1 p1 n2 q2 p2 n3 q3 p3} (ho:o.op = .slice t x (some y) (some y2) (some y3)) (hu:P.underlying t=some (.slice e)) (hi:(P.info? e).map (·.size)=some z) (hx:ev S x=some (.sl n lo len z)) (hy:ev S y=some ⟨0,.sc (.int k j1),n1,q1,p1⟩) (hy2:ev S y2=some ⟨0,.sc (.int k2 j2),n2,q2,p2⟩) (hy3:ev S y3=some ⟨0,.sc (.int k3 j3),n3,q3,p3⟩) (e1:j1=(i1:Int)) (e2:j2=(i2:Int)) (e3:j3=(i3:Int)) (h12:i1<=i2) (h23:i2<=i3) (h3:i3<=len) :
  AOp P w0 U0 nt ops o (gs++(rd x++(rd y++(rd y2++rd y3)))) [] S [(d,.no)]:=
 j8 hg hd hn h5 (fun k hk=>mem_append_left _ hk) fun s hs a w D hv hm=>by
  obtain ⟨hrn,ao,m,cap,ao',h1,h2,h3',h4,h6,h7⟩:RN n/\SlV (hv n) lo len z (a.eval x):=l6 hm (fun k hk=>hs k (mem_append_right _ (mem_append_left _ hk))) hx;have f1:=v9 hm (fun k hk=>hs k (mem_append_right _ (mem_append_right _ (mem_append_left _ hk)))) hy;have f2:=v9 hm (fun k hk=>hs k (mem_append_right _ (mem_append_right _ (mem_append_right _ (mem_append_left _ hk))))) hy2;have f3:=v9 hm (fun k hk=>hs k (mem_append_right _ (mem_append_right _ (mem_append_right _ (mem_append_right _ hk))))) hy3;have hsz:=B4 (P:=P) (w:=w) hi;have b3:=C3 (P:=P) (w:=w) (k:=k3) (j:=i3) (y:=cap-lo) (code := .slice3Acap) (by omega);have b2:=C3 (P:=P) (w:=w) (k:=k2) (j:=i2) (y:=i3) (code := .slice3B) h23;have b1:=C3 (P:=P) (w:=w) (k:=k) (j:=i1) (y:=i2) (code := .slice3C) h12;subst e1 e2 e3;refine ⟨.slice (if i3=i1 then ao' else ao'.map (·.add (i1*z))) (i2-i1) (i3-i1),?_,trivial⟩;generalize a.eval=ρ at h2 f1 f2 f3 |-;simp [execOp,ho,Instr.sliceAt,Instr.slice,run_underlying hu,h2,f1,f2,f3,Instr.sliceBounds,b1,b2,b3,hsz]
theorem zbC {P:Program} {w0:World} {U0:UX} {nt:Nat} {ops:Array Oper} {o:Oper} {S:Nat->Option AV} {gs:List Nat} {d:Nat} {x:Operand} {y:Operand} {y2:Operand} {y3:Operand} {t:TypeId} {e:TypeId} {z:Nat} {k:IntKind} {k2:IntKind} {k3:IntKind} {j1:Int} {j2:Int} {j3:Int} {n} {lo} {len} {n1} {q1} {p1} {n2} {q2} {p2} {n3} {q3} {p3} (i1:Nat) (i2:Nat) (i3:Nat) (p:Gd w0 U0 nt ops o gs S:=by exact gN rfl) (q:o.dst=some d:=by exact rfl) (r:Nat.blt d nt=true:=by exact rfl) (u:Nat.blt d 100000=true:=by exact rfl) (v:o.op = .slice t x (some y) (some y2) (some y3):=by exact rfl) (A:P.underlying t=some (.slice e):=by exact rfl) (B:(P.info? e).map (·.size)=some z:=by exact rfl) (C:ev S x=some (.sl n lo len z):=by exact rfl) (E:ev S y=some ⟨0,.sc (.int k j1),n1,q1,p1⟩:=by exact rfl) (F:ev S y2=some ⟨0,.sc (.int k2 j2),n2,q2,p2⟩:=by exact rfl) (G:ev S y3=some ⟨0,.sc (.int k3 j3),n3,q3,p3⟩:=by exact rfl) (H:j1=(i1:Int):=by first | rfl | omega | (simp only [length_set,length_map,length_append,length_cons,length_nil]<;>omega) | (simp<;>omega)) (e2:j2=(i2:Int):=by first | rfl | omega | (simp only [length_set,length_map,length_append,length_cons,length_nil]<;>omega) | (simp<;>omega)) (e3:j3=(i3:Int):=by first | rfl | omega | (simp only [length_set,length_map,length_append,length_cons,length_nil]<;>omega) | (simp<;>omega)) (h12:i1<=i2:=by first | rfl | omega | (simp only [length_set,length_map,length_append,length_cons,length_nil]<;>omega) | (simp<;>omega)) (h23:i2<=i3:=by first | rfl | omega | (simp only [length_set,length_map,length_append,length_cons,length_nil]<;>omega) | (simp<;>omega)) (h3:i3<=len:=by first | rfl | omega | (simp only [length_set,length_map,length_append,length_cons,length_nil]<;>omega) | (simp<;>omega)):AOp P w0 U0 nt ops o (gs++(rd x++(rd y++(rd y2++rd y3)))) [] S [(d,.no)]:=c0P i1 i2 i3 p q r u v A B C E F G H e2 e3 h12 h23 h3
theorem c0L (i1 i2:Nat) (hg:Gd w0 U0 nt ops o gs S) (hd:o.dst=some d) (hn:Nat.blt d nt=true) (h5:Nat.blt d 100000=true) {x y y2:Operand} {t e e':TypeId} {z:Nat} {l:List CV} {k k2:IntKind} {j1 j2:Int} {n len n1 q1 p1 n2 q2 p2} (ho:o.op = .slice t x (some y) (some y2) none) (hu:P.underlying t=some (.slice e)) (hi:(P.info? e).map (·.size)=some z) (hx:ev S x=some (.sl n 0 len z)) (hy:ev S y=some ⟨0,.sc (.int k j1),n1,q1,p1⟩) (hy2:ev S y2=some ⟨0,.sc (.int k2 j2),n2,q2,p2⟩) (hm':S n=some (.mrow e' z l)) (e1:j1=(i1:Int)) (e2:j2=(i2:Int)) (h12:i1<=i2) (h3:i2<=l.length) :
  AOp P w0 U0 nt ops o (gs++(rd x++(rd y++(rd y2++[n])))) [] S [(d,.sl n i1 (i2-i1) z)]:=
 j8 hg hd hn h5 (fun k hk=>mem_append_left _ hk) fun s hs a w D hv hm=>by
  obtain ⟨hrn,ao,m,cap,ao',h1,h2,h3',h4,h6,h7⟩:RN n/\SlV (hv n) 0 len z (a.eval x):=l6 hm (fun k hk=>hs k (mem_append_right _ (mem_append_left _ hk))) hx;have f1:=v9 hm (fun k hk=>hs k (mem_append_right _ (mem_append_right _ (mem_append_left _ hk)))) hy;have f2:=v9 hm (fun k hk=>hs k (mem_append_right _ (mem_append_right _ (mem_append_right _ (mem_append_left _ hk))))) hy2;obtain ⟨xs,g1,g2,g3,g4⟩:=hm.mrow ((hs n (by simp)).trans hm') hrn;obtain ⟨ao2,cap2,c1,c2,_⟩:=Y0 g1;have hcap:l.length<=cap:=by rw [h1] at c1;injection c1 with _ _ c3;omega
  have hsz:=B4 (P:=P) (w:=w) hi;have b2:=C3 (P:=P) (w:=w) (k:=k2) (j:=i2) (y:=cap) (code := .sliceAcap) (by omega);have b1:=C3 (P:=P) (w:=w) (k:=k) (j:=i1) (y:=i2) (code := .sliceB) h12;subst e1 e2;have h2:a.eval x = .slice ao len cap:=by rw [h2,h4 rfl];rfl
  refine ⟨.slice (if cap=i1 then ao else ao.map (·.add (i1*z))) (i2-i1) (cap-i1),?_,hrn,ao,m,cap,_,h1,rfl,by show i1+(i2-i1)<=cap;omega,fun h8=>?_,fun h8=>?_,?_⟩
  ·generalize a.eval=ρ at h2 f1 f2 |-;simp [execOp,ho,Instr.sliceAt,Instr.slice,run_underlying hu,h2,f1,f2,Instr.sliceBounds,b1,b2,hsz]
  ·have h8:i1=0:=h8;subst h8;split
   ·rfl
   ·cases ao with
    | none=>rfl
    | some ad=>simp [Addr.add]
  ·have h8:i1<cap:=h8;intro g hg';rw [if_neg (by omega),hg'];show some ((⟨g,0,none⟩:Addr).add (i1*z))=some ⟨g,i1*z,none⟩;rw [a0R,Nat.zero_add]
  ·split
   ·exact Iff.rfl
   ·rw [Option.map_eq_none_iff]
theorem zbE {P:Program} {w0:World} {U0:UX} {nt:Nat} {ops:Array Oper} {o:Oper} {S:Nat->Option AV} {gs:List Nat} {d:Nat} {x:Operand} {y:Operand} {y2:Operand} {t:TypeId} {e:TypeId} {e':TypeId} {z:Nat} {l:List CV} {k:IntKind} {k2:IntKind} {j1:Int} {j2:Int} {n} {len} {n1} {q1} {p1} {n2} {q2} {p2} (i1:Nat) (i2:Nat) (p:Gd w0 U0 nt ops o gs S:=by exact gN rfl) (q:o.dst=some d:=by exact rfl) (r:Nat.blt d nt=true:=by exact rfl) (u:Nat.blt d 100000=true:=by exact rfl) (v:o.op = .slice t x (some y) (some y2) none:=by exact rfl) (A:P.underlying t=some (.slice e):=by exact rfl) (B:(P.info? e).map (·.size)=some z:=by exact rfl) (C:ev S x=some (.sl n 0 len z):=by exact rfl) (E:ev S y=some ⟨0,.sc (.int k j1),n1,q1,p1⟩:=by exact rfl) (F:ev S y2=some ⟨0,.sc (.int k2 j2),n2,q2,p2⟩:=by exact rfl) (G:S n=some (.mrow e' z l):=by exact rfl) (H:j1=(i1:Int):=by first | rfl | omega | (simp only [length_set,length_map,length_append,length_cons,length_nil]<;>omega) | (simp<;>omega)) (e2:j2=(i2:Int):=by first | rfl | omega | (simp only [length_set,length_map,length_append,length_cons,length_nil]<;>omega) | (simp<;>omega)) (h12:i1<=i2:=by first | rfl | omega | (simp only [length_set,length_map,length_append,length_cons,length_nil]<;>omega) | (simp<;>omega)) (h3:i2<=l.length:=by first | rfl | omega | (simp only [length_set,length_map,length_append,length_cons,length_nil]<;>omega) | (simp<;>omega)):AOp P w0 U0 nt ops o (gs++(rd x++(rd y++(rd y2++[n])))) [] S [(d,.sl n i1 (i2-i1) z)]:=c0L i1 i2 p q r u v A B C E F G H e2 h12 h3
theorem c0I (hg:Gd w0 U0 nt ops o gs S) (hd:o.dst=some d) (hn:Nat.blt d nt=true) (h5:Nat.blt d 100000=true) {x y:Operand} {t e size bytes:Nat} {zv:Value} {l:List CV} {n len lo2 len2} (ho:o.op = .call { callee := .builtin .append,args := #[x,y],argTypes := #[t,t] }) (ht:P.underlying t=some (.slice e)) (hi:(P.info? e).map (fun i=>(i.zero,i.size,i.bytes))=some (some zv,size,bytes))
  (hx:ev S x=some (.sl n 0 len size)) (hy:ev S y=some (.sl n lo2 len2 size)) (hm':S n=some (.mrow e size l)) (hl:len+len2<=l.length) (hl2:lo2+len2<=l.length) :
  AOp P w0 U0 nt ops o (gs++(rd x++(rd y++[n]))) [] S [(d,.sl n 0 (len+len2) size),(n,.mrow e size (l.take len++((l.drop lo2).take len2++l.drop (len+len2))))]:=by
 intro s hs hN a w ⟨D,hv,h⟩ Q K hK;rw [if_pos (hg s (fun k hk=>hs k (mem_append_left _ hk)) a w D hv h)];obtain ⟨hrn,ao,m,cap,ao',h1,h2,h3,h4,h6,h7⟩:RN n/\SlV (hv n) 0 len size (a.eval x):=l6 h (fun k hk=>hs k (mem_append_right _ (mem_append_left _ hk))) hx;obtain ⟨_,ao2,m2,cap2,ao2',j1,j2,j3,j4,j6,j7⟩:RN n/\SlV (hv n) lo2 len2 size (a.eval y):=l6 h (fun k hk=>hs k (mem_append_right _ (mem_append_right _ (mem_append_left _ hk)))) hy;have h2:a.eval x = .slice ao len cap:=by rw [h2,h4 rfl];rfl
 obtain ⟨i,hi1,hi2,hi3,hi4⟩:=info_parts hi;have hok:j9 n:=by unfold RN at hrn;unfold j9;omega
 have hm:=(hs n (by simp)).trans hm';obtain ⟨xs,g1,g2,g3,g4⟩:=h.mrow hm hrn;obtain ⟨ao3,cap3,c1,c2,_⟩:=Y0 g1;have hcl:l.length<=cap:=by rw [h1] at c1;injection c1 with _ _ c3;omega
 have hv2:SlV (hv n) 0 (len+len2) size (.slice ao (len+len2) cap):=⟨ao,m,cap,ao,h1,rfl,by omega,fun _=>rfl,fun _ g hg'=>by rw [hg',Nat.zero_mul],Iff.rfl⟩
 by_cases hz:len2=0
 ·subst hz;have he:(execOp a.eval o).run P w = .ok (.value (.slice ao len cap)) w:=by
   have hle:len<=cap:=by omega
   generalize a.eval=ρ at h2 j2 |-;cases ao<;>cases ao2'<;>simp [execOp,ho,resolve,invoke,builtin,h2,j2,Builtin.append_,run_underlying ht,sizeOf,typeInfo,hi1,Builtin.lenOf,Builtin.firstCells,loadCells,loadCellsFrom,storeCells,hle,Result.andThen]
  unfold Oper.wp;rw [he,Oper.upon_value,hd];have hl':l.take len++((l.drop lo2).take 0++l.drop (len+0))=l:=by simp
  refine hK _ _ ⟨D,hv,?_⟩;rw [hl'];have hP:=h.put (d:=d) (av := .sl n 0 (len+0) size) (v := .slice ao len cap) (bL hn) (bL h5) ⟨hrn,by rw [Nat.add_zero] at hv2 |-;exact hv2⟩;refine hP.congr fun k=>?_;show look ((d,_)::(n,AV.mrow e size l)::s) k=look ((d,_)::s) k;rw [d8,d8,d8];split
  ·rfl
  ·split
   ·rename_i e;rw [<-e];exact hm.symm
   ·rfl
 obtain ⟨g,cap',cur,f1,f2,f3,f4,f6,f7,f8,f9⟩:=X3 g1 (by omega);obtain rfl:cap=cap':=by rw [f1] at h1;injection h1 with k1 k2 k3;exact k3.symm
 obtain rfl:ao=some ⟨g,0,none⟩:=by rw [f1] at h1;injection h1 with k1 k2 k3;exact k1.symm
 obtain rfl:cap=cap2:=by rw [f1] at j1;injection j1 with k1 k2 k3
 obtain rfl:ao2=some ⟨g,0,none⟩:=by rw [f1] at j1;injection j1 with k1 k2 k3;exact k1.symm
 have ha:ao2'=some ⟨g,lo2*size,none⟩:=j6 (by omega) g rfl;subst ha
 have hsplit2:l=l.take lo2++((l.drop lo2).take len2++(l.drop lo2).drop len2):=by rw [take_append_drop,take_append_drop]
 have q4:=g4;rw [hsplit2,map_append,map_append] at q4;obtain ⟨x1,x4,ex1,t1,t2⟩:=x0 q4;obtain ⟨zs,x3,ex2,t3,t4⟩:=x0 t2;have hx1:x1.length=lo2*size:=by rw [C8 (n:=CV.size) (fun c _ xs h=>h.len) t1,t7 (fun c hc=>g3 c (mem_of_mem_take hc)),length_take,Nat.min_eq_left (by omega)]
 have hzsl:zs.length=len2*size:=by rw [C8 (n:=CV.size) (fun c _ xs h=>h.len) t3,t7 (fun c hc=>g3 c (mem_of_mem_drop (mem_of_mem_take hc))),length_take,length_drop,Nat.min_eq_left (by omega)]
 have hone:∀ v∈zs,v.oneCell'=true:=S3 t3;have hxl:xs.length=l.length*size:=g1.1;have hcl2:len*size+len2*size<=l.length*size:=by rw [<-Nat.add_mul];exact Nat.mul_le_mul_right _ hl
 have hcl3:lo2*size+len2*size<=l.length*size:=by rw [<-Nat.add_mul];exact Nat.mul_le_mul_right _ hl2
 have hcap:l.length*size<=cap*size:=Nat.mul_le_mul_right _ f3;have f7:cur.toList.take (l.length*size)=xs:=f7;have f6:cur.size=cap*size:=f6;have hnews:∀ j u,zs[j]?=some u->w.cell? ((⟨g,lo2*size,none⟩:Addr).add j)=some u:=fun j u hj=>by
  have hjl:j<zs.length:=by
   rcases Nat.lt_or_ge j zs.length with h | h
   ·exact h
   ·rw [getElem?_eq_none h] at hj;cases hj
  rw [a0R];have hc:xs[lo2*size+j]?=some u:=by rw [ex1,ex2,<-hx1,List.getElem?_append_right (by omega),Nat.add_sub_cancel_left,List.getElem?_append_left hjl];exact hj
  have hown:w.ownsRow 0 e size (.slice (some ⟨g,0,none⟩) l.length cap) l.length xs:=by rw [<-f1];exact g1
  rw [hown.cellAt _ (by omega)];exact hc
 have hr:=run_append_room (P:=P) w t o.type e i ht hi1 g len cap cur f2 ⟨g,lo2*size,none⟩ len2 (cap-lo2) zs (by rw [hi3];exact hzsl) hnews hone (by omega) (by rw [hi3,hzsl,f6];omega);rw [hi3] at hr;have he:(execOp a.eval o).run P w = .ok (.value (.slice (some ⟨g,0,none⟩) (len+len2) cap)) (w.setRow g (cur.toList.take (len*size)++zs++cur.toList.drop (len*size+zs.length)).toArray):=by
  generalize a.eval=ρ at h2 j2 |-;simp [execOp,ho,resolve,invoke,builtin,h2,j2,hr,Result.andThen]
 unfold Oper.wp;rw [he,Oper.upon_value,hd];obtain ⟨l',hl'⟩:∃ l',l'=l.take len++((l.drop lo2).take len2++l.drop (len+len2)):=⟨_,rfl⟩
 have hll:l'.length=l.length:=by rw [hl'];simp;omega
 refine hK _ _ ?_;rw [<-hl']
 suffices hG:SimG w0 U0 nt ((n,.mrow e size l')::s) a (w.setRow g (cur.toList.take (len*size)++zs++cur.toList.drop (len*size+zs.length)).toArray) D hv from ⟨_,_,hG.put (bL hn) (bL h5) ⟨hrn,hv2⟩⟩
 refine h.store (av := .mrow e size l') hok hm (by simp) (by simp) rfl (fun g' hn o _=>hn o (by simp)) (by simp) f9 f2 fun w' hw hkp=>?_;have hsplit:l=l.take len++((l.drop len).take len2++(l.drop len).drop len2):=by rw [take_append_drop,take_append_drop]
 have g4':=g4;rw [hsplit,map_append,map_append] at g4';obtain ⟨y1,r1,e1,s1,s2⟩:=x0 g4';obtain ⟨y2,y3,e2,s3,s4⟩:=x0 s2;have hy1:y1.length=len*size:=by rw [C8 (n:=CV.size) (fun c _ xs h=>h.len) s1,t7 (fun c hc=>g3 c (mem_of_mem_take hc)),length_take,Nat.min_eq_left (by omega)]
 have hy2:y2.length=len2*size:=by rw [C8 (n:=CV.size) (fun c _ xs h=>h.len) s3,t7 (fun c hc=>g3 c (mem_of_mem_drop (mem_of_mem_take hc))),length_take,length_drop,Nat.min_eq_left (by omega)]
 have hy3:y1.length+(y2.length+y3.length)=l.length*size:=by have:=hxl;rw [e1,e2] at this;simpa using this
 have hcur:cur.toList=y1++(y2++(y3++cur.toList.drop (l.length*size))):=by
  conv=>lhs;rw [<-take_append_drop (l.length*size) cur.toList,f7,e1,e2]
  simp
 have hnew:cur.toList.take (len*size)++zs++cur.toList.drop (len*size+zs.length)=(y1++(zs++y3))++cur.toList.drop (l.length*size):=by
  have t1:cur.toList.take (len*size)=y1:=by rw [hcur,<-hy1];simp
  have t2:cur.toList.drop (len*size+zs.length)=y3++cur.toList.drop (l.length*size):=by
   rw [hzsl,<-hy1,<-hy2]
   conv=>lhs;rw [hcur]
   rw [<-List.append_assoc,List.drop_append_of_le_length (by simp)];simp
  rw [t1,t2];simp
 rw [hnew] at hw;refine ⟨y1++(zs++y3),⟨?_,.inr ⟨g,cap,_,?_,Nat.zero_le _,hw,?_,f4,?_,?_⟩⟩,g2,fun x hx=>?_,?_⟩
 ·show _=l'.length*size;rw [hll];simp only [length_append,hzsl];omega
 ·show hv n = .slice _ l'.length cap;rw [hll];exact f1
 ·show l'.length<=cap;rw [hll];exact f3
 ·have:=congrArg List.length hcur;rw [Array.length_toList,f6] at this;simp only [List.size_toArray,length_append,hzsl] at this |-;show _=cap*size;omega
 ·show List.take (l'.length*size) _=_;rw [hll,List.take_append_of_le_length (by simp only [length_append,hzsl];omega),List.take_of_length_le (by simp only [length_append,hzsl];omega)]
 ·have hx:x∈l':=hx;rw [hl',mem_append,mem_append] at hx;rcases hx with hx | hx | hx
  ·exact g3 x (mem_of_mem_take hx)
  ·exact g3 x (mem_of_mem_drop (mem_of_mem_take hx))
  ·exact g3 x (mem_of_mem_drop hx)
 ·show Sq (l'.map fun c=>Rep (Us w0 U0 D) w' c) _;rw [hl',map_append,map_append];refine C0 (Sq.keep hkp s1) (C0 (Sq.keep hkp t3) ?_);rw [<-List.drop_drop];exact Sq.keep hkp s4
theorem zbD {P:Program} {w0:World} {U0:UX} {nt:Nat} {ops:Array Oper} {o:Oper} {S:Nat->Option AV} {gs:List Nat} {d:Nat} {x:Operand} {y:Operand} {t:Nat} {e:Nat} {size:Nat} {bytes:Nat} {zv:Value} {l:List CV} {n} {len} {lo2} {len2} (p:Gd w0 U0 nt ops o gs S:=by exact gN rfl) (q:o.dst=some d:=by exact rfl) (r:Nat.blt d nt=true:=by exact rfl) (z:Nat.blt d 100000=true:=by exact rfl) (A:o.op = .call { callee := .builtin .append,args := #[x,y],argTypes := #[t,t] }:=by exact rfl) (B:P.underlying t=some (.slice e):=by exact rfl) (C:(P.info? e).map (fun i=>(i.zero,i.size,i.bytes))=some (some zv,size,bytes):=by exact rfl) (E:ev S x=some (.sl n 0 len size):=by exact rfl) (F:ev S y=some (.sl n lo2 len2 size):=by exact rfl) (G:S n=some (.mrow e size l):=by exact rfl) (H:len+len2<=l.length:=by first | rfl | omega | (simp only [length_set,length_map,length_append,length_cons,length_nil]<;>omega) | (simp<;>omega)) (hl2:lo2+len2<=l.length:=by first | rfl | omega | (simp only [length_set,length_map,length_append,length_cons,length_nil]<;>omega) | (simp<;>omega)):AOp P w0 U0 nt ops o (gs++(rd x++(rd y++[n]))) [] S [(d,.sl n 0 (len+len2) size),(n,.mrow e size (l.take len++((l.drop lo2).take len2++l.drop (len+len2))))]:=c0I p q r z A B C E F G H hl2
end
def a4X:Value->Nat->Value
 | .slice ao _ cap,len => .slice ao len cap
 | v,_=>v
def b4G (P:Program) (f:FuncId) (pre:AS) (n1 n2:Nat) (args:Value->Value->List AV) (r:Value->Value->AV) (post:AS):Prop:=
 a9W P f/\∀ (U:UX) (w:World) (hv:Nat->Value) (a0:Act) (vs:List Value),(∀ k v,U.f k=some v->n6 (kO pre) k=true)->SimG w U 0 pre a0 w (fun _ _=>False) hv->AVReps (Us w U (fun _ _=>False)) w hv (a9 pre) (args (hv n1) (hv n2)) vs ->
  Calls P f vs.toArray w fun e w'=>∃ v D' hv' a',e = .returned v/\SimG w U 0 post a' w' D' hv'/\AVRep (Us w U D') w' hv' (a9 post) (r (hv n1) (hv n2)) v
section
variable {P:Program} {w0:World} {U0:UX} {nt:Nat} {ops:Array Oper} {o:Oper} {S:Nat->Option AV} {gs:List Nat} {d:Nat} {s:AS} {a:Act} {w:World} {D:Nat->Nat->Prop} {hv:Nat->Value}
theorem b5P (d1 n1 d2 n2 : Nat) {f : FuncId} {fn : Func} {c : Code} {pre post : AS} {args : Value → Value → List AV} {r : Value → Value → AV} (hf : P.funcs[f]? = some fn) (hn : fn.ntmps = nt) (hname : (fn.name == "runtime.NumGoroutine") = false) (hb : fn.body = some c) (hl : ∀ v1 v2, Nat.ble (args v1 v2).length nt = true) (hdd : (Nat.blt d1 nt && Nat.blt d2 nt) = true) (hnn : (Nat.ble 200000 n1 && Nat.blt n1 450000 && (Nat.ble 200000 n2 && Nat.blt n2 450000)) = true) (hnt : Nat.blt nt 100000 = true) (hpre : (kO pre).all (Nat.ble 100000) = true) (hpost : (kO post).all (Nat.ble 100000) = true)
  (h:∀ (v1 v2:Value) (w:World) (U:UX),(∀ k v,U.f k=some v->n6 (kO pre) k=true)->AWp P w U nt c (fun e s'=>(e = .normal\/e = .ret)/\c1K P w U nt fn s' (r v1 v2) post) ((d1,.hdl v1 n1)::(d2,.hdl v2 n2)::(G1 (args v1 v2) 0++pre))):b4G P f pre n1 n2 args r post:=by
 refine ⟨B8 hf hname (by rw [hb];rfl),fun U w hv a0 vs hU hpS hargs=>?_⟩;have hlen:=hargs.len;refine calls_of_wp hf hb ?_;have hle:=Nat.le_of_ble_eq_true (hl (hv n1) (hv n2));have hnt:=bL hnt;have hlow:∀ {k av},look pre k=some av->100000<=k:=fun {k av} h1=>by
  rw [all_eq_true] at hpre;exact Nat.le_of_ble_eq_true (hpre k (f0 h1))
 have hlk:∀ {k},100000<=k->look (G1 (args (hv n1) (hv n2)) 0++pre) k=look pre k:=fun {k} h1=>by
  rw [b6];cases h2:look (G1 (args (hv n1) (hv n2)) 0) k with
  | none=>rfl
  | some av =>
   obtain ⟨_,h3⟩:=y0 h2;rw [Nat.sub_zero,getElem?_eq_none (by omega)] at h3;cases h3
 have hlive:a9 (G1 (args (hv n1) (hv n2)) 0++pre)=a9 pre:=by
  funext n;unfold a9 t9;apply propext;constructor
  ·rintro (h1 | ⟨e,h1,h2,h3⟩)
   ·exact .inl h1
   ·rw [hlk (by omega)] at h1;exact .inr ⟨e,h1,h2,h3⟩
  ·rintro (h1 | ⟨e,h1,h2,h3⟩)
   ·exact .inl h1
   ·exact .inr ⟨e,by rw [hlk (by omega)];exact h1,h2,h3⟩
 have hs0:SimG w U nt (G1 (args (hv n1) (hv n2)) 0++pre) { tmps:=vs.toArray++Array.replicate (fn.ntmps-vs.toArray.size) undef,defers:=[] } w (fun _ _=>False) hv:=by
  refine ⟨hpS.below,rfl,by simp [hn];omega,fun d av h1 h2=>?_,fun n o av h1 h2 h3 h4=>?_,fun n o o' av av' h1 h2=>?_,fun k av h1 h2=>?_,fun k av g h1 h2=>?_,fun k k' av av' g h1 h2 h3 h4=>?_,hpS.fix,fun b o hd=>hd.elim⟩
  ·rw [b6] at h1;cases h3:look (G1 (args (hv n1) (hv n2)) 0) d with
   | none =>
    rw [h3] at h1;have:=hlow h1;omega
   | some av' =>
    rw [h3] at h1;cases h1;obtain ⟨_,h4⟩:=y0 h3;rw [Nat.sub_zero] at h4;obtain ⟨v,h6,h7⟩:=hargs.at h4;have hdl:d<vs.length:=by
     rcases Nat.lt_or_ge d vs.length with h | h
     ·exact h
     ·rw [getElem?_eq_none h] at h6;cases h6
    rw [hlive];refine ⟨v,?_,h7⟩;rw [Array.getElem?_append_left (by simpa using hdl)];simpa using h6
  ·rw [hlk (by unfold d9;omega)] at h1;rw [hlk (by omega)] at h3;rw [hlive];exact hpS.fld n o av h1 h2 h3 h4
  ·rw [hlk (by unfold d9;omega)] at h1 h2;exact hpS.fdis n o o' av av' h1 h2
  ·rw [hlk h2.1] at h1;rw [hlive];exact hpS.obj k av h1 h2
  ·rw [hlk h2.1] at h1;exact hpS.blk k av g h1 h2
  ·rw [hlk h3.1] at h1;rw [hlk h4.1] at h2;exact hpS.disj k k' av av' g h1 h2 h3 h4
 simp only [Bool.and_eq_true] at hdd hnn;have hk1:d1<nt:=bL hdd.1;have hk2:d2<nt:=bL hdd.2;have hr1:RN n1:=⟨Nat.le_of_ble_eq_true hnn.1.1,bL hnn.1.2⟩
 have hr2:RN n2:=⟨Nat.le_of_ble_eq_true hnn.2.1,bL hnn.2.2⟩
 have hs1:=hs0.know (d:=d2) (av := .hdl (hv n2) n2) (by omega) (Array.getElem?_eq_getElem (by rw [hs0.size];exact hk2)) ⟨hr2,rfl⟩;have hs2:=hs1.know (d:=d1) (av := .hdl (hv n1) n1) (by omega) (Array.getElem?_eq_getElem (by rw [hs0.size];exact hk1)) ⟨hr1,rfl⟩;have hs:Sim w U nt ((d1,.hdl (hv n1) n1)::(d2,.hdl (hv n2) n2)::(G1 (args (hv n1) (hv n2)) 0++pre)) { tmps:=vs.toArray++Array.replicate (fn.ntmps-vs.toArray.size) undef,defers:=[] } w:=⟨_,_,hs2⟩
 refine wp_mono ((h (hv n1) (hv n2) w U hU ⟨none,[]⟩ _ w hs).wp rfl (fun e a w ⟨s,_,h⟩=>h.df)) ?_;rintro e a' w' ⟨s',⟨h1,s2,g1,g2,g3⟩,h3⟩;obtain ⟨D',hv',h4⟩:=g1 a' w' h3;obtain ⟨v,h5,h6⟩:=X0 h4 g2;have hS:=h4.sub g3.sub;have hlow2:∀ {k av},look post k=some av->100000<=k:=fun {k av} h1=>by
  rw [all_eq_true] at hpost;exact Nat.le_of_ble_eq_true (hpost k (f0 h1))
 have hS0:SimG w U 0 post ⟨#[],[]⟩ w' D' hv':=⟨hS.below,rfl,rfl,fun d av h7 h8=>by have:=hlow2 h7;omega,hS.fld,hS.fdis,hS.obj,hS.blk,hS.disj,hS.fix,hS.dlt⟩
 rcases h1 with rfl | rfl
 ·exact ⟨h4.dfr,v,h5,v,D',hv',_,rfl,hS0,h6.move (fun _ _ _ h1 h2=>⟨h1,h2⟩) (fun _ h7=>h7.imp id fun ⟨e,he⟩=>⟨e,g3.sub _ _ he.1,he.2⟩) fun _=>rfl⟩
 ·exact ⟨h4.dfr,v,h5,v,D',hv',_,rfl,hS0,h6.move (fun _ _ _ h1 h2=>⟨h1,h2⟩) (fun _ h7=>h7.imp id fun ⟨e,he⟩=>⟨e,g3.sub _ _ he.1,he.2⟩) fun _=>rfl⟩
theorem b8z (dh1 dh2:Nat) {f:FuncId} {xs:Array Operand} {ts:Array TypeId} {ar:Value->Value->List AV} {rr:Value->Value->AV} {pre post:AS} {n1 n2:Nat} {u1 u2:Value} (hg:Gd w0 U0 nt ops o gs S) (hd:o.dst=some d) (hn:Nat.blt d nt=true) (h5:Nat.blt d 100000=true)
  (ho:o.op = .call { callee := .value (.func f),args:=xs,argTypes:=ts }) (hc:b4G P f pre n1 n2 ar rr post) (hh1:S dh1=some (.hdl u1 n1)) (hh2:S dh2=some (.hdl u2 n2)) (hdh:(Nat.blt dh1 100000&&Nat.blt dh2 100000)=true) (hx:a7D S xs.toList=some (ar u1 u2)) (hp:SubS S pre) (hl:pre.all E6=true) (hq:post.all (F9 (kO post))=true) (hks:(kO pre).all (n6 (kO post))=true) (hr:a5i (kO post) (rr u1 u2)=true) (hnb:∀ k v,U0.f k=some v->n6 (kO post) k=true->n6 (kO pre) k=true) :
  AOp P w0 U0 nt ops o (gs++(rdl xs.toList++(kO pre++[dh1,dh2]))) (E5 (kO pre) (kO post) (kO post)) S ((d,rr u1 u2)::post):=by
 intro s hs hN a w ⟨D,hv,h⟩ Q K hK;rw [if_pos (hg s (fun k hk=>hs k (mem_append_left _ hk)) a w D hv h)];have hargs:=a1e h (fun k hk=>hs k (mem_append_right _ (mem_append_left _ hk))) hx;have hsub:Sub s pre:=fun k av h1=>(hs k (mem_append_right _ (mem_append_right _ (mem_append_left _ (f0 h1))))).trans (hp.look h1);obtain ⟨V,v1,v2,v3,v4,v5,v6⟩:=h.lend hsub hl;obtain ⟨h1,h2⟩:=hc;rw [Bool.and_eq_true] at hdh;obtain ⟨_,_,hx1⟩:∃ v,a.tmps[dh1]?=some v/\RN n1/\hv n1=u1:=h.slot dh1 _ ((hs dh1 (by simp)).trans hh1) (bL hdh.1);obtain ⟨_,_,hx2⟩:∃ v,a.tmps[dh2]?=some v/\RN n2/\hv n2=u2:=h.slot dh2 _ ((hs dh2 (by simp)).trans hh2) (bL hdh.2);have h2:=fun V a0 vs q1 q2 q3=>h2 V w hv a0 vs q1 q2 q3;rw [hx1.2,hx2.2] at h2;have hcall:=h2 V ⟨#[],[]⟩ _ v1 v2 (hargs.imp fun c _ v hcv=>hcv.move v6 (fun _ h3=>h3.imp id fun ⟨e,he⟩=>⟨e,hsub _ _ he.1,he.2⟩) fun _=>rfl);have he:(execOp a.eval o).run P w = .ok (.enter f (xs.toList.map a.eval).toArray) w:=by
  have hf:a.eval (.func f) = .func (.func f) #[] #[]:=rfl;have hen:=h1 (xs.map a.eval) w;have harr:(xs.toList.map a.eval).toArray=xs.map a.eval:=by apply Array.ext';simp
  rw [harr];generalize a.eval=ρ at hf hen |-;simp [execOp,ho,resolve,invoke,Deferred.ofValue,hf,hen]
 unfold Oper.wp;rw [he,Oper.upon_enter];refine hcall.mono ?_;rintro e w' ⟨v,D',hv',a',rfl,h6,h7⟩;rw [hd];obtain ⟨D2,hv2,h8,h9⟩:=h.back hsub hl hq hks hN hnb v3 v4 v5 v2 h6;exact hK _ _ ⟨D2,hv2,h8.put (bL hn) (bL h5) (h9.1 (rr u1 u2) v hr h7)⟩
theorem zbF {P:Program} {w0:World} {U0:UX} {nt:Nat} {ops:Array Oper} {o:Oper} {S:Nat->Option AV} {gs:List Nat} {d:Nat} {f:FuncId} {xs:Array Operand} {ts:Array TypeId} {ar:Value->Value->List AV} {rr:Value->Value->AV} {pre:AS} {post:AS} {n1:Nat} {n2:Nat} {u1:Value} {u2:Value} (dh1:Nat) (dh2:Nat) (p:Gd w0 U0 nt ops o gs S:=by exact gN rfl) (q:o.dst=some d:=by exact rfl) (r:Nat.blt d nt=true:=by exact rfl) (t:Nat.blt d 100000=true:=by exact rfl) (u:o.op = .call { callee := .value (.func f),args:=xs,argTypes:=ts }:=by exact rfl) (x:b4G P f pre n1 n2 ar rr post) (y:S dh1=some (.hdl u1 n1):=by exact rfl) (z:S dh2=some (.hdl u2 n2):=by exact rfl) (A:(Nat.blt dh1 100000&&Nat.blt dh2 100000)=true:=by exact rfl) (B:a7D S xs.toList=some (ar u1 u2):=by exact rfl) (C:SubS S pre:=by repeat (first | exact trivial | refine ⟨rfl,?_⟩)) (E:pre.all E6=true:=by first | rfl | kernel_rfl) (F:post.all (F9 (kO post))=true:=by first | rfl | kernel_rfl) (G:(kO pre).all (n6 (kO post))=true:=by first | rfl | kernel_rfl) (H:a5i (kO post) (rr u1 u2)=true:=by first | rfl | kernel_rfl) (hnb:∀ k v,U0.f k=some v->n6 (kO post) k=true->n6 (kO pre) k=true):AOp P w0 U0 nt ops o (gs++(rdl xs.toList++(kO pre++[dh1,dh2]))) (E5 (kO pre) (kO post) (kO post)) S ((d,rr u1 u2)::post):=b8z dh1 dh2 p q r t u x y z A B C E F G H hnb
theorem b4p (nn:Nat) (hg:Gd w0 U0 nt ops o gs S) (hd:o.dst=some d) (hn:Nat.blt d nt=true) (h5:Nat.blt d 100000=true) {t e:TypeId} {len:Nat} {parts:Array (Nat×Operand)} {ie:TypeInfo} {z:Value} {cs:List CV} {sz:Nat} (ho:o.op = .buildSlice t len parts) (hu:P.underlying t=some (.slice e)) (hi:P.info? e=some ie) (hsz0:ie.size=sz) (hz:ie.zero=some z) (hdn:a5o parts.toList 0=true) (hx:Z7 S (parts.toList.map (·.2))=some cs) (hl:Nat.beq cs.length len=true) (hsz:a5p cs sz=true) (hp:Nat.blt 0 (len*sz)=true) (h24:Nat.ble (len*sz) 16777216=true) (hn2:(Nat.ble 200000 nn&&Nat.blt nn 400000)=true) :
  AOp P w0 U0 nt ops o (gs++rdl (parts.toList.map (·.2))) [(nn,[])] S [(d,.sl nn 0 len sz),(nn,.mrow e sz cs)]:=by
 subst hsz0;intro s hs hN a w ⟨D,hv,h⟩ Q K hK;rw [if_pos (hg s (fun k hk=>hs k (mem_append_left _ hk)) a w D hv h)];have hvv:=G2 h (fun k hk=>hs k (mem_append_right _ hk)) hx;rw [map_map] at hvv;have hlen:cs.length=len:=Nat.eq_of_beq_eq_true hl;have hvl:=hvv.len;have hpos:=bL hp;have hs0:0<ie.size:=Nat.pos_of_ne_zero fun e=>by rw [e] at hpos;simp at hpos
 have hsizes:=a0v hvv (sZ hsz);obtain ⟨vs,hvs⟩:∃ vs,vs=parts.toList.map (a.eval∘(·.2)):=⟨_,rfl⟩
 rw [<-hvs] at hvv hvl hsizes;obtain ⟨r,hf,hrs,hrk⟩:=Great.fill_dense hs0 vs 0 ((Array.range (len*ie.size)).map (z.cells[·% z.cells.size]!)) hsizes (by simp;rw [hvl,hlen];exact Nat.le_refl _);have hr:r.toList=(vs.map fun v=>v.cells.toList).flatten:=by
  apply List.ext_getElem?;intro k;rw [K9 hs0 _ (by intro v hv';rw [mem_map] at hv';obtain ⟨u,hu,rfl⟩:=hv';simpa using hsizes u hu)];have:=hrk k;rw [<-Array.getElem?_toList] at this;simp only [Nat.zero_mul,Nat.zero_le,true_and,Nat.zero_add] at this;rw [this];by_cases hk:k<vs.length*ie.size
  ·rw [if_pos hk];simp only [Nat.sub_zero,List.getElem?_map];cases vs[k / ie.size]?<;>simp
  ·rw [if_neg hk,Array.getElem?_eq_none (by simp;rw [<-hlen,<-hvl];omega)];rw [List.getElem?_map,getElem?_eq_none (by rw [Nat.le_div_iff_mul_le hs0];omega)];rfl
 have he:(execOp a.eval o).run P w = .ok (.value (.slice (some ⟨w.heap.size,0,none⟩) len len)) (w.alloc (.cells r e)):=by
  have h24':=Nat.le_of_ble_eq_true h24;have hparts:(parts.map fun x=>(x.1,a.eval x.2)).toList=(vs.zipIdx 0).map fun x=>(x.2,x.1):=by
   rw [Array.toList_map,a0C hdn a.eval,hvs];rfl
  have:=run_buildSlice (P:=P) w t e len (parts.map fun x=>(x.1,a.eval x.2)) r ie z hu hi hz (by omega) (by omega) (by rw [hparts];exact hf);generalize a.eval=ρ at this |-;simp [execOp,ho,this]
 unfold Oper.wp;rw [he,Oper.upon_value,hd];have hrs':r.size=len*ie.size:=by rw [hrs];simp
 have hlm:len<=maxLen:=by
  have:=Nat.le_of_ble_eq_true h24;have:len<=len*ie.size:=Nat.le_mul_of_pos_right _ hs0;unfold maxLen;omega
 have hrn2:=rnB hn2;have hown:=World.ownsRow_lit (e:=e) (size:=ie.size) (base:=w.heap.size) w r len (Nat.le_refl _) hlm hrs';have hkp:∀ b o u,Us w0 U0 D b o->w.cell? ⟨b,o,none⟩=some u->Us w0 U0 D b o/\(w.alloc (.cells r e)).cell? ⟨b,o,none⟩=some u:=fun b o u hu hc=>by
  refine ⟨hu,?_⟩;have hlt:b<w.heap.size:=World.block_lt_of_cell? w _ hc;rw [World.cell?_of_block (w:=w) ((bA (Below.refl w.heap.size w) (.cells r e)).block b hlt)];exact hc
 have hG:=h.newrow (avn := .mrow e ie.size cs) (v' := .slice (some ⟨w.heap.size,0,none⟩) len len) (D':=D) (X:=fun _=>False) (n:=nn) hrn2 (hN (nn,[]) (by simp)).nr (by simp) ⟨(bA (Below.refl w.heap.size w) (.cells r e)).os,(bA (Below.refl w.heap.size w) (.cells r e)).tape,(bA (Below.refl w.heap.size w) (.cells r e)).output,(bA (Below.refl w.heap.size w) (.cells r e)).size,fun b hb hx=>(bA (Below.refl w.heap.size w) (.cells r e)).block b hb⟩ (fun b hb=>hb.elim) (fun g hg=>by
   have hg:(Value.slice (some ⟨w.heap.size,0,none⟩) len len).ownBlock=some g:=hg;refine ⟨.inr (hown.lt g hg).1,(hown.lt g hg).2,fun o _ hd=>?_⟩;have:=(hown.lt g hg).1;have:=h.dlt _ _ hd;omega) (fun b o hd => .inl hd) (fun b o hd=>Nat.lt_of_lt_of_le (h.dlt _ _ hd) (bA (Below.refl w.heap.size w) (.cells r e)).size) hkp (fun hv lv=>by
   refine ⟨r.toList,?_,hs0,sZ hsz,?_⟩
   ·show (w.alloc (.cells r e)).ownsRow 0 e ie.size _ cs.length _;rw [hlen];exact s5 hown (Nat.zero_le _)
   ·rw [hr];exact Sq.keep hkp (V5 hvv))
 refine hK _ _ ⟨_,_,hG.put (bL hn) (bL h5) ⟨RW.rn hrn2,?_⟩⟩;show SlV ((fun x=>if x=nn then Value.slice (some ⟨w.heap.size,0,none⟩) len len else hv x) nn) 0 len ie.size _;simp only [if_true];exact O1 rfl (Nat.le_refl _) (.inr ⟨_,rfl⟩)
theorem zbG {P:Program} {w0:World} {U0:UX} {nt:Nat} {ops:Array Oper} {o:Oper} {S:Nat->Option AV} {gs:List Nat} {d:Nat} {t:TypeId} {e:TypeId} {len:Nat} {parts:Array (Nat×Operand)} {ie:TypeInfo} {z:Value} {cs:List CV} {sz:Nat} (nn:Nat) (p:Gd w0 U0 nt ops o gs S:=by exact gN rfl) (q:o.dst=some d:=by exact rfl) (y:Nat.blt d nt=true:=by exact rfl) (A:Nat.blt d 100000=true:=by exact rfl) (B:o.op = .buildSlice t len parts:=by exact rfl) (C:P.underlying t=some (.slice e):=by exact rfl) (E:P.info? e=some ie:=by exact rfl) (F:ie.size=sz:=by exact rfl) (G:ie.zero=some z:=by exact rfl) (H:a5o parts.toList 0=true:=by exact rfl) (hx:Z7 S (parts.toList.map (·.2))=some cs:=by exact rfl) (hl:Nat.beq cs.length len=true:=by exact rfl) (hsz:a5p cs sz=true:=by exact rfl) (hp:Nat.blt 0 (len*sz)=true:=by exact rfl) (h24:Nat.ble (len*sz) 16777216=true:=by exact rfl) (hn2:(Nat.ble 200000 nn&&Nat.blt nn 400000)=true:=by exact rfl):AOp P w0 U0 nt ops o (gs++rdl (parts.toList.map (·.2))) [(nn,[])] S [(d,.sl nn 0 len sz),(nn,.mrow e sz cs)]:=b4p nn p q y A B C E F G H hx hl hsz hp h24 hn2
theorem AWp.hdl {c:Code} {Q:Exit->AS->Prop} (d n:Nat) (hd:Nat.blt d nt=true) (h5:Nat.blt d 100000=true) (hn:(Nat.ble 200000 n&&Nat.blt n 450000)=true) (h:∀ v,AWp P w0 U0 nt c Q ((d,.hdl v n)::s)):AWp P w0 U0 nt c Q s:=by
 intro M a w ⟨D,hv,hs⟩;have hdn:d<a.tmps.size:=by rw [hs.size];exact bL hd
 exact h (hv n) M a w ⟨D,hv,hs.know (bL h5) (Array.getElem?_eq_getElem hdn) ⟨rnF hn,rfl⟩⟩
theorem a4a (d n dh:Nat) {len z:Nat} {v:Value} (h1:look s d=some (.sl n 0 len z)) (h2:look s dh=some (.hdl v n)) (hd:(Nat.blt d 100000&&Nat.blt dh 100000)=true):Wk w0 U0 nt s ((d,.val (.sc (a4X v len)))::s):=by
 rintro a w ⟨D,hv,h⟩;rw [Bool.and_eq_true] at hd;obtain ⟨u,g1,hrn,ao,m,cap,ao',e1,e2,e3,e4,e5,e6⟩:∃ u,a.tmps[d]?=some u/\RN n/\SlV (hv n) 0 len z u:=h.slot d _ h1 (bL hd.1);obtain ⟨_,_,_,hx⟩:∃ u,a.tmps[dh]?=some u/\RN n/\hv n=v:=h.slot dh _ h2 (bL hd.2);have e2:u = .slice ao len cap:=by rw [e2,e4 rfl];rfl
 refine ⟨D,hv,h.know (bL hd.1) g1 ?_⟩;rw [<-hx,e1];show AVRep _ _ _ _ (.val (.sc (.slice ao len cap))) u;rw [e2];exact r5 rfl
theorem b2P (d n dh len:Nat) {e z:Nat} {l:List CV} {v:Value} (h1:look s d=some (.val (.sc (a4X v len)))) (h2:look s dh=some (.hdl v n)) (hm:look s n=some (.mrow e z l)) (hd:(Nat.blt d 100000&&Nat.blt dh 100000)=true) (hl:len<=l.length):Wk w0 U0 nt s ((d,.sl n 0 len z)::s):=by
 rintro a w ⟨D,hv,h⟩;rw [Bool.and_eq_true] at hd;obtain ⟨u,g1,g2⟩:=h.slot d _ h1 (bL hd.1);obtain ⟨_,_,hrn,hx⟩:∃ u,a.tmps[dh]?=some u/\RN n/\hv n=v:=h.slot dh _ h2 (bL hd.2);obtain ⟨xs,f1,_⟩:=h.mrow hm hrn;obtain ⟨ao,cap,e1,e2,_⟩:=Y0 f1;have hu:u=a4X v len:=(o6.1 g2.1).1;refine ⟨D,hv,h.know (bL hd.1) g1 ⟨hrn,?_⟩⟩;show SlV (hv n) 0 len z u;rw [hu,<-hx,e1];exact ⟨ao,l.length,cap,ao,rfl,rfl,by omega,fun _=>rfl,fun _ g hg'=>by rw [hg',Nat.zero_mul],Iff.rfl⟩
def c1V:UX:=⟨fun _ _=>True,fun _=>False,fun _=>none,fun _ _ h=>by cases h⟩
theorem SimG.view (h:SimG w0 U0 nt s a w D hv) {n e z len:Nat} {l:List CV} (hm:look s n=some (.mrow e z l)) (hrn:RN n) (hl:len<=l.length):VRep (fun _ _=>True) w (.lst (l.take len)) (a4X (hv n) len):=by
 obtain ⟨xs,ho,hz,hsz,hsq⟩:=h.mrow hm hrn;obtain ⟨va,vc,ev,e2,e3,e4,e5⟩:=E3 ho;rw [ev];have hsplit:l=l.take len++l.drop len:=(take_append_drop _ _).symm;have q:=hsq;rw [hsplit,map_append] at q;obtain ⟨y1,y2,ey,s1,s2⟩:=x0 q;refine k8.2 ⟨va,len,vc,rfl,by rw [length_take,Nat.min_eq_left hl],by omega,e3,(fun h=>⟨by have:=(e4 h).1;omega,(e4 h).2⟩),y1,?_,s1.keep fun b o v _ hc=>⟨trivial,hc⟩⟩;rcases e5 with h0 | ⟨b,off,ha,hlt,hc⟩
 ·left;have:=congrArg List.length ey;rw [h0,length_append] at this;exact List.eq_nil_of_length_eq_zero (by simp at this;omega)
 ·refine .inr ⟨b,off,ha,fun i hi=>⟨trivial,?_⟩⟩;rw [hc i (by rw [ey,length_append];omega),ey,List.getElem?_append_left hi]
theorem SimG.viewBox (h:SimG w0 U0 nt s a w D hv) (n:Nat) {v:Value} {k q p k1 k2 k3} {c:CV} (hb:look s (100000+n)=some ⟨5,.sc v,k,q,p⟩) (hs:look s n=some ⟨2,⟨k1,k2,k3⟩,n,0,[]⟩) (hn:n<100000) (hc:c.k≠2) (hv2:VRep (fun _ _=>True) w c v):∃ u,a.tmps[n]?=some u/\VRep (fun _ _=>True) w (.ptr c) u:=by
 obtain ⟨g,xs,ty,g0,g1,g2,g5⟩:=h.box hb (by omega);obtain ⟨v',g6,g7⟩:=h.slot n _ hs hn;have g7:v' = .pointer (some ⟨p7 (hv (100000+n)),0,none⟩):=g7.2;have hgb2:p7 (hv (100000+n))=g:=by rw [g0];rfl
 rw [hgb2] at g7;obtain rfl:xs=[v]:=(N7.1 g2).1;refine ⟨v',g6,?_⟩;rw [g7];refine W8.2 ⟨g,0,[v],rfl,?_,fun i hi=>⟨trivial,?_⟩⟩
 ·unfold VRep at hv2;rw [if_neg hc] at hv2;exact hv2
 have:=F6 (ys:=[]) (us:=[]) g1 (by simp) i hi;simpa using this
theorem b4S {c:Code} {Q:Exit->AS->Prop} {R:Exit->Prop} (vs:List (Nat×CV)) (dr:Nat) (x:Value) (objs:AS)
  (hview:∀ a w D hv,SimG w0 U0 nt s a w D hv->∀ q∈vs,∃ v,a.tmps[q.1]?=some v/\VRep (fun _ _=>True) w q.2 v)
  (h:∀ w,AWp P w c1V nt c (fun e s'=>R e/\look s' dr=some (.val (.sc x))) (vs.map fun q=>(q.1,.val q.2)))
  (hsub:SubL s objs) (hk:(kO objs).all (Nat.ble 100000)=true) (hvk:(vs.all fun q=>Nat.blt q.1 100000)=true) (hdr:Nat.blt dr 100000=true) (hQ:∀ e,R e->Q e ((dr,.val (.sc x))::objs)):AWp P w0 U0 nt c Q s:=by
 intro M a w ⟨D,hv,hs⟩;have hlow:∀ {k av},look (vs.map fun q=>(q.1,AV.val q.2)) k=some av->∃ q∈vs,k=q.1/\av = .val q.2:=fun {k av} h1=>by
  obtain ⟨q,hq,he⟩:=mem_map.1 (B9 h1);injection he with e1 e2;exact ⟨q,hq,e1.symm,e2.symm⟩
 rw [all_eq_true] at hvk hk;have hlt:∀ {k av},look (vs.map fun q=>(q.1,AV.val q.2)) k=some av->k<100000:=fun {k av} h1=>by
  obtain ⟨q,hq,rfl,_⟩:=hlow h1;exact bL (hvk q hq)
 have hS:Sim w c1V nt (vs.map fun q=>(q.1,AV.val q.2)) a w:=by
  refine ⟨fun _ _=>False,hv,BelowX.refl _ _,hs.dfr,hs.size,fun d av h1 h2=>?_,fun n o av h1 h2 h3 h4=>?_,fun n o o' av av' h1 h2=>?_,fun k av h1 h2=>?_,fun k av g h1 h2=>?_,fun k k' av av' g h1 h2 h3 h4=>?_,fun k v h1=>(by cases h1),fun b o hd=>hd.elim⟩
  ·obtain ⟨q,hq,rfl,rfl⟩:=hlow h1;obtain ⟨v,g1,g2⟩:=hview a w D hv hs q hq;exact ⟨v,g1,l7 (g2.keep fun b o v _ hc=>⟨.inl ⟨World.block_lt_of_cell? w _ hc,trivial,fun h=>h⟩,hc⟩)⟩
  ·have:=hlt h1;unfold d9 at this;omega
  ·have:=hlt h1;unfold d9 at this;omega
  ·have:=hlt h1;have:=h2.1;omega
  ·have:=hlt h1;have:=h2.1;omega
  ·have:=hlt h1;have:=h3.1;omega
 refine H4 (h w M a w hS) ?_;rintro e a' w' ⟨s',⟨hR,hx⟩,D',hv',g⟩;refine ⟨_,hQ e hR,D,hv,?_⟩;have hB:Below w.heap.size w w':=g.below.below fun k hk=>hk;have h1:=(hs.sub hsub.sub).grow' hB;have hlow2:∀ {k av},look objs k=some av->100000<=k:=fun {k av} h1=>Nat.le_of_ble_eq_true (hk k (f0 h1));have h2:SimG w0 U0 nt objs a' w' D hv:=⟨h1.below,g.dfr,g.size,fun d av h7 h8=>by have:=hlow2 h7;omega,h1.fld,h1.fdis,h1.obj,h1.blk,h1.disj,h1.fix,h1.dlt⟩
 obtain ⟨v,k1,k2⟩:=g.slot dr _ hx (bL hdr);obtain ⟨rfl,k3⟩:=o6.1 k2.1;exact h2.know (bL hdr) k1 (r5 k3)
theorem b1n {W:World} {f:FuncId} {x:Value} {c2:CV} {e z nm N:Nat} {l:List CV} (h1:300000<=nm) (h2:nm<450000) (hN:N<=l.length) (h:AFun P W f [.lst (l.take N),c2] (.val (.sc x))):r7 P f [(nm,.mrow e z l)] [.sl nm 0 N z,.val c2] (.val (.sc x)) [(nm,.mrow e z l)]:=by
 refine ⟨h.1,fun U w hv a0 vs hU hp ha=>?_⟩;obtain ⟨u1,us1,rfl,a1,u2,us2,rfl,a2,a4⟩:=ha;have a4:us2=[]:=a4;subst a4;have hrn:RN nm:=⟨by omega,by omega⟩
 have hlk:look [(nm,AV.mrow e z l)] nm=some (.mrow e z l):=by rw [d8];simp
 have hvw:=hp.view hlk hrn hN;have a1:RN nm/\SlV (hv nm) 0 N z u1:=a1;obtain ⟨_,ao,m,cap,ao',s1,s2,s3,s4,_⟩:=a1;have e9:u1=a4X (hv nm) N:=by rw [s1,s2,s4 rfl];rfl
 refine (h.2.2.2 (fun _ _=>True) w _ trivial ⟨_,_,rfl,by rw [e9];exact hvw,_,_,rfl,a2.1.mono fun b o _=>trivial,rfl⟩).mono ?_;rintro e' w' ⟨v,rfl,hr,hB⟩;obtain ⟨rfl,h9⟩:=o6.1 hr;exact ⟨_,_,hv,a0,rfl,hp.grow' hB,r5 h9⟩
end
def Tm.pa (t:Tm) (n:Int):Option Tm:=if 0<=n then t.ps[n.toNat]? else none
def c5z (p q:List Int):Bool:=decide (q=p.take q.length)
def atP:List Int->Tm->Option Tm
 | [],t=>some t
 | k::ks,t=>(t.pa k).bind (atP ks)
def c4y (p:List Int) (t:Tm) (k:Nat):Tm:=(atP (p.take k) t).getD ⟨0,[]⟩
theorem a8Y {U:Nat->Nat->Prop} {w:World} {a:Option Addr} {xs:List Value} (h:At U w a xs):Cs w a xs:=by
 rcases h with h | ⟨b,off,ha,hc⟩
 ·exact .inl h
 ·by_cases hz:xs=[]
  ·exact .inl hz
  ·refine .inr ⟨b,off,ha,?_,fun i hi=>(hc i hi).2⟩;have hpos:0<xs.length:=List.length_pos_iff.2 hz;have:=(hc 0 hpos).2;rw [getElem?_eq_getElem hpos] at this;exact World.block_lt_of_cell? w _ this
theorem b0q {w:World} {base:Nat} {e:TypeId} {size:Nat} {v:Value} {n:Nat} {xs:List Value} (h:w.ownsRow base e size v n xs) :
  ∃ a c,v = .slice a n c/\n<=c/\c<=maxLen/\(a=none->n=0/\c=0)/\At (fun b _=>base<=b) w a xs:=by
 have ho:=h;obtain ⟨h1,h2⟩:=h;rcases h2 with ⟨rfl,rfl⟩ | ⟨g,cap,cur,rfl,hb,hh,hn,hm,hs,ht⟩
 ·exact ⟨none,0,rfl,by omega,by simp,fun _=>⟨rfl,rfl⟩,.inl (List.eq_nil_of_length_eq_zero (by omega))⟩
 ·refine ⟨_,cap,rfl,hn,hm,(fun h=>by cases h),.inr ⟨g,0,rfl,fun i hi=>⟨hb,?_⟩⟩⟩;rw [show 0+i=i by omega];exact ho.cellAt i (by omega)
def c4g (u:Tm):List Int->Tm->Option Tm
 | [],t=>some u.strip
 | k::ks,t=>(t.pa k).bind fun s=>(c4g u ks s).map fun v=>⟨t.f,(t.l.take k.toNat).map Tm.strip++v::(t.l.drop (k.toNat+1)).map Tm.strip⟩
theorem b5o {l:List Tm} {m:Nat} {s:Tm} (h:l[m]?=some s):l=l.take m++s::l.drop (m+1)/\m<l.length:=by
 have hm:m<l.length:=by
  rcases Nat.lt_or_ge m l.length with h1 | h1
  ·exact h1
  ·rw [getElem?_eq_none h1] at h;cases h
 refine ⟨?_,hm⟩;have e:l[m]=s:=by rw [getElem?_eq_getElem hm] at h;exact Option.some.inj h
 rw [<-e,<-List.drop_eq_getElem_cons hm,take_append_drop]
def cov (a b:Tm):Prop:=∀ v,b.vs.count v<=a.vs.count v
def b2d (z w:Int):Int:=if 0<z then 1 else if z<0 then -1 else w
noncomputable def b7S (o:Int) (c d:Prop):Int:=
 haveI:=Classical.propDecidable
 if (o=1/\¬ c)\/(o = -1/\¬ d) then 2 else o
noncomputable def a0L (z:Int) (c d:Prop) (w:Int):Int:=if w=0 then 0 else b7S (b2d z w) c d
def hdK (a b:Tm):Int:=if a.f<0\/b.f<0 then 2 else if a.f≠b.f then J5 a.f b.f else J5 a.l.length b.l.length
noncomputable def N8 (k:Int) (r:Int):Int:=if k≠0 then k else r
noncomputable def szD (a b:Tm):Int:=(a.size:Int)-b.size
noncomputable def kb (p:Tm):Tm->Int:=
 Tm.rec (motive_1:=fun _=>Tm->Int) (motive_2:=fun _=>List Tm->Int)
  (fun f l ih t=>a0L (szD ⟨f,l⟩ t) (cov ⟨f,l⟩ t) (cov t ⟨f,l⟩) (if f≠t.f\/(Tm.mk f l).ps.length≠t.ps.length then hdK ⟨f,l⟩ t else if f<0 then 0 else ih t.l))
  (fun _=>0)
  (fun _ _ ih1 ih2 ts=>match ts with | []=>0 | t::ts=>N8 (ih1 t) (ih2 ts)) p
noncomputable def kbs (ps:List Tm):List Tm->Int:=
 Tm.rec_1 (motive_1:=fun _=>Tm->Int) (motive_2:=fun _=>List Tm->Int)
  (fun f l ih t=>a0L (szD ⟨f,l⟩ t) (cov ⟨f,l⟩ t) (cov t ⟨f,l⟩) (if f≠t.f\/(Tm.mk f l).ps.length≠t.ps.length then hdK ⟨f,l⟩ t else if f<0 then 0 else ih t.l))
  (fun _=>0)
  (fun _ _ ih1 ih2 ts=>match ts with | []=>0 | t::ts=>N8 (ih1 t) (ih2 ts)) ps
noncomputable def wi (a b:Tm):Int:=if a.f≠b.f\/a.ps.length≠b.ps.length then hdK a b else kbs a.ps b.ps
theorem a0c (ts:List Tm):kbs [] ts=0:=rfl
theorem A5 (p:Tm) (ps:List Tm) (t:Tm) (ts:List Tm):kbs (p::ps) (t::ts)=N8 (kb p t) (kbs ps ts):=rfl
theorem N3 (a b:Tm):kb a b=a0L (szD a b) (cov a b) (cov b a) (wi a b):=by
 cases a with
 | mk f l =>
  show a0L _ _ _ _=_;congr 1;unfold wi;simp only;split
  ·rfl
  ·rename_i h;by_cases hf:f<0
   ·rw [if_pos hf,Tm.ps_of_var (t:=⟨f,l⟩) hf,a0c]
   ·rw [if_neg hf,Tm.ps_of_sym (t:=⟨f,l⟩) (by show 0<=f;omega),Tm.ps_of_sym (t:=b) (by have:=Classical.not_not.1 (fun e=>h (.inl e));omega)];rfl
theorem S1 (z:Int) (c d:Prop) (w:Int):(w=0/\a0L z c d w=0)\/(w≠0/\∃ o,((0<z/\o=1)\/(z<0/\o = -1)\/(z=0/\o=w))/\((a0L z c d w=2/\((o=1/\¬ c)\/(o = -1/\¬ d)))\/(a0L z c d w=o/\¬ ((o=1/\¬ c)\/(o = -1/\¬ d))))):=by
 unfold a0L;by_cases h0:w=0
 ·left;exact ⟨h0,if_pos h0⟩
 ·right;refine ⟨h0,b2d z w,?_,?_⟩
  ·unfold b2d;by_cases h1:0<z
   ·rw [if_pos h1];exact .inl ⟨h1,rfl⟩
   ·rw [if_neg h1];by_cases h2:z<0
    ·rw [if_pos h2];exact .inr (.inl ⟨h2,rfl⟩)
    ·rw [if_neg h2];exact .inr (.inr ⟨by omega,rfl⟩)
  ·rw [if_neg h0];generalize b2d z w=o;unfold b7S;by_cases h3:(o=1/\¬ c)\/(o = -1/\¬ d)
   ·left;exact ⟨if_pos h3,h3⟩
   ·right;exact ⟨if_neg h3,h3⟩
theorem A6 {z:Int} {c d:Prop} {w:Int}:a0L z c d w=0↔w=0:=by
 rcases S1 z c d w with ⟨h1,h2⟩ | ⟨h1,o,h2,⟨h3,h4⟩ | ⟨h3,h4⟩⟩
 ·exact ⟨fun _=>h1,fun _=>h2⟩
 ·omega
 ·omega
theorem a4w {z:Int} {c d:Prop} {w:Int}:a0L z c d w=1↔w≠0/\c/\(0<z\/(z=0/\w=1)):=by
 rcases S1 z c d w with ⟨h1,h2⟩ | ⟨h1,o,h2,⟨h3,h4⟩ | ⟨h3,h4⟩⟩
 ·constructor
  ·intro h;omega
  ·rintro ⟨h,_⟩;exact absurd h1 h
 ·constructor
  ·intro h;omega
  ·rintro ⟨_,hc,h⟩;have:o=1:=by omega
   rcases h4 with h4 | h4
   ·exact absurd hc h4.2
   ·omega
 ·constructor
  ·intro h;have ho:o=1:=by omega
   exact ⟨h1,Classical.not_not.1 fun hc=>h4 (.inl ⟨ho,hc⟩),by omega⟩
  ·rintro ⟨_,hc,h⟩;omega
theorem a5L {z:Int} {c d:Prop} {w:Int}:a0L z c d w = -1↔w≠0/\d/\(z<0\/(z=0/\w = -1)):=by
 rcases S1 z c d w with ⟨h1,h2⟩ | ⟨h1,o,h2,⟨h3,h4⟩ | ⟨h3,h4⟩⟩
 ·constructor
  ·intro h;omega
  ·rintro ⟨h,_⟩;exact absurd h1 h
 ·constructor
  ·intro h;omega
  ·rintro ⟨_,hc,h⟩;have:o = -1:=by omega
   rcases h4 with h4 | h4
   ·omega
   ·exact absurd hc h4.2
 ·constructor
  ·intro h;have ho:o = -1:=by omega
   exact ⟨h1,Classical.not_not.1 fun hc=>h4 (.inr ⟨ho,hc⟩),by omega⟩
  ·rintro ⟨_,hc,h⟩;omega
def K4 (k:Int):Prop:=k=0\/k=1\/k = -1\/k=2
theorem a2d {z:Int} {c d:Prop} {w:Int} (h:K4 w):K4 (a0L z c d w):=by
 unfold K4 at *;rcases S1 z c d w with ⟨h1,h2⟩ | ⟨h1,o,h2,⟨h3,h4⟩ | ⟨h3,h4⟩⟩<;>omega
theorem b2q (a b:Tm):K4 (hdK a b):=by
 unfold hdK K4;split
 ·omega
 ·split
  ·rcases o5 a.f b.f with h | h | h<;>omega
  ·rcases o5 a.l.length b.l.length with h | h | h<;>omega
theorem b4J {a b:Tm} (h:a.f≠b.f\/a.ps.length≠b.ps.length):hdK a b≠0:=by
 unfold hdK;split
 ·omega
 ·rename_i h1;rw [Tm.ps_of_sym (t:=a) (by omega),Tm.ps_of_sym (t:=b) (by omega)] at h;split
  ·rcases o5 a.f b.f with h2 | h2 | h2<;>omega
  ·rcases o5 a.l.length b.l.length with h2 | h2 | h2<;>omega
theorem a4n:∀ {l m:List Tm},(∀ s∈l,∀ t,K4 (kb s t))->K4 (kbs l m)
 | [],m,_ => .inl rfl
 | _::_,[],_ => .inl rfl
 | x::l,y::m,h=>by
  rw [A5];unfold N8;split
  ·exact h x (by simp) y
  ·exact a4n fun s hs=>h s (mem_cons_of_mem _ hs)
theorem a7E (a:Tm):∀ b,K4 (kb a b):=by
 induction a using Tm.indp with
 | h a ih =>
  intro b;rw [N3];refine a2d ?_;unfold wi;split
  ·exact b2q a b
  ·exact a4n ih
theorem a9G:∀ {l m:List Tm},l.length=m.length->(∀ s∈l,∀ t,kb s t=0↔s.strip=t.strip)->(kbs l m=0↔l.map Tm.strip=m.map Tm.strip)
 | [],[],_,_=>by simp [a0c]
 | [],_::_,h,_=>by simp at h
 | _::_,[],h,_=>by simp at h
 | x::l,y::m,h,ih=>by
  rw [A5,map_cons,map_cons,List.cons.injEq,<-ih x (by simp) y,<-a9G (by simpa using h) fun s hs=>ih s (mem_cons_of_mem _ hs)];unfold N8;split
  ·rename_i h1;constructor
   ·intro h2;exact absurd h2 h1
   ·rintro ⟨h2,_⟩;exact h2
  ·rename_i h1;exact ⟨fun h2=>⟨Classical.not_not.1 h1,h2⟩,fun h2=>h2.2⟩
theorem a6H (a b:Tm):a.strip=b.strip↔a.f=b.f/\a.ps.map Tm.strip=b.ps.map Tm.strip:=by
 rw [Tm.strip_eq,Tm.strip_eq b,Tm.mk.injEq]
theorem H3 (a:Tm):∀ b,kb a b=0↔a.strip=b.strip:=by
 induction a using Tm.indp with
 | h a ih =>
  intro b;rw [N3,A6,a6H];unfold wi;split
  ·rename_i h;constructor
   ·intro h1;exact absurd h1 (b4J h)
   ·rintro ⟨h1,h2⟩;have:=congrArg List.length h2;rw [length_map,length_map] at this;omega
  ·rename_i h;have hf:a.f=b.f:=by omega
   rw [a9G (by omega) ih];exact ⟨fun h1=>⟨hf,h1⟩,fun h1=>h1.2⟩
theorem cov_strip {a b:Tm}:cov a.strip b↔cov a b:=by unfold cov;rw [Tm.strip_vs]
theorem a3f {a b:Tm}:cov a b.strip↔cov a b:=by unfold cov;rw [Tm.strip_vs]
theorem b3c {a b c:Tm} (h:cov a b) (h2:cov b c):cov a c:=fun v=>Nat.le_trans (h2 v) (h v)
theorem b5q (a b:Tm):hdK a.strip b.strip=hdK a b:=by
 unfold hdK;rw [Tm.strip_f,Tm.strip_f];split
 ·rfl
 ·rename_i h;split
  ·rfl
  ·rw [Tm.strip_l,Tm.strip_l,length_map,length_map,Tm.ps_of_sym (t:=a) (by omega),Tm.ps_of_sym (t:=b) (by omega)]
theorem a5W:∀ {l m:List Tm},(∀ s∈l,∀ t,kb s.strip t.strip=kb s t)->kbs (l.map Tm.strip) (m.map Tm.strip)=kbs l m
 | [],m,_=>rfl
 | _::_,[],_=>rfl
 | x::l,y::m,h=>by
  rw [map_cons,map_cons,A5,A5,h x (by simp) y,a5W fun s hs=>h s (mem_cons_of_mem _ hs)]
theorem a9a (a:Tm):∀ b,kb a.strip b.strip=kb a b:=by
 induction a using Tm.indp with
 | h a ih =>
  intro b;rw [N3,N3 a];have h1:wi a.strip b.strip=wi a b:=by
   unfold wi;rw [Tm.strip_f,Tm.strip_f,Tm.strip_ps,Tm.strip_ps,length_map,length_map,b5q,a5W ih]
  have h2:szD a.strip b.strip=szD a b:=by unfold szD;rw [Tm.strip_size,Tm.strip_size]
  have h3:cov a.strip b.strip=cov a b:=propext (cov_strip.trans a3f);have h4:cov b.strip a.strip=cov b a:=propext (cov_strip.trans a3f);rw [h1,h2,h3,h4]
theorem a4t {a a' b b':Tm} (h:a.strip=a'.strip) (h2:b.strip=b'.strip):kb a b=kb a' b':=by rw [<-a9a a,h,h2,a9a]
theorem b1I (a b:Tm):kb a b=1↔cov a b/\(b.size<a.size\/(a.size=b.size/\wi a b=1)):=by
 rw [N3,a4w];unfold szD;constructor
 ·rintro ⟨h1,h2,h3⟩;exact ⟨h2,by omega⟩
 ·rintro ⟨h1,h2⟩;refine ⟨fun e=>?_,h1,by omega⟩;have h3:kb a b=0:=by rw [N3,A6];exact e
  have h4:=(H3 a b).1 h3;have h5:a.size=b.size:=by rw [<-Tm.strip_size,h4,Tm.strip_size]
  omega
theorem b7W (a b:Tm) (h:hdK a b≠2):hdK b a = - hdK a b:=by
 unfold hdK at *;by_cases h1:a.f<0\/b.f<0
 ·rw [if_pos h1] at h;exact absurd rfl h
 ·rw [if_neg h1,if_neg (by omega)];by_cases h2:a.f=b.f
  ·rw [if_neg (by omega),if_neg (by omega)];rcases o5 a.l.length b.l.length with h3 | h3 | h3<;>rcases o5 b.l.length a.l.length with h4 | h4 | h4<;>omega
  ·rw [if_pos (by omega),if_pos h2];rcases o5 a.f b.f with h3 | h3 | h3<;>rcases o5 b.f a.f with h4 | h4 | h4<;>omega
theorem b6C (a b:Tm) (h:hdK a b=2):hdK b a=2:=by
 unfold hdK at *;by_cases h1:a.f<0\/b.f<0
 ·rw [if_pos (by omega)]
 ·rw [if_neg h1] at h;exfalso;split at h
  ·rcases o5 a.f b.f with h3 | h3 | h3<;>omega
  ·rcases o5 a.l.length b.l.length with h3 | h3 | h3<;>omega
def trn (k:Int):Int:=if k=2 then 2 else-k
theorem a4l {k:Int} (h:K4 k):(trn k=0↔k=0)/\(trn k=1↔k = -1)/\(trn k = -1↔k=1)/\K4 (trn k):=by
 unfold trn K4 at *;split<;>omega
theorem b3E {z:Int} {c d:Prop} {w:Int} (h:K4 w):a0L (-z) d c (trn w)=trn (a0L z c d w):=by
 have h1:=a2d (z:=z) (c:=c) (d:=d) h;have t0:=a4l h;have h2:=a2d (z := -z) (c:=d) (d:=c) t0.2.2.2;have t1:=a4l h1;have a0:=@A6 z c d w;have a1:=@a4w z c d w;have a2:=@a5L z c d w;have b0:=@A6 (-z) d c (trn w);have b1:=@a4w (-z) d c (trn w);have b2:=@a5L (-z) d c (trn w);generalize a0L (-z) d c (trn w)=y at *;generalize a0L z c d w=x at *;have e0:y=0↔x=0:=by rw [b0,a0];exact t0.1
 have e1:y=1↔x = -1:=by
  rw [b1,a2];constructor
  ·rintro ⟨g1,g2,g3⟩;exact ⟨fun e=>g1 (t0.1.2 e),g2,by rcases g3 with g3 | ⟨g3,g4⟩;omega;exact .inr ⟨by omega,t0.2.1.1 g4⟩⟩
  ·rintro ⟨g1,g2,g3⟩;exact ⟨fun e=>g1 (t0.1.1 e),g2,by rcases g3 with g3 | ⟨g3,g4⟩;omega;exact .inr ⟨by omega,t0.2.1.2 g4⟩⟩
 have e2:y = -1↔x=1:=by
  rw [b2,a1];constructor
  ·rintro ⟨g1,g2,g3⟩;exact ⟨fun e=>g1 (t0.1.2 e),g2,by rcases g3 with g3 | ⟨g3,g4⟩;omega;exact .inr ⟨by omega,t0.2.2.1.1 g4⟩⟩
  ·rintro ⟨g1,g2,g3⟩;exact ⟨fun e=>g1 (t0.1.1 e),g2,by rcases g3 with g3 | ⟨g3,g4⟩;omega;exact .inr ⟨by omega,t0.2.2.1.2 g4⟩⟩
 unfold trn;unfold K4 at h1 h2;split<;>omega
theorem a9w:∀ {l m:List Tm},l.length=m.length->(∀ s∈l,∀ t,kb t s=trn (kb s t))->kbs m l=trn (kbs l m)
 | [],[],_,_=>by rw [a0c];rfl
 | [],_::_,h,_=>by simp at h
 | _::_,[],h,_=>by simp at h
 | x::l,y::m,h,ih=>by
  rw [A5,A5,ih x (by simp) y,a9w (by simpa using h) fun s hs=>ih s (mem_cons_of_mem _ hs)];have:=(a4l (a7E x y)).1;unfold N8;by_cases h1:kb x y=0
  ·rw [if_neg (fun e=>e (this.2 h1)),if_neg (by omega)]
  ·rw [if_pos (fun e=>h1 (this.1 e)),if_pos h1]
theorem b2H (a:Tm):∀ b,kb b a=trn (kb a b):=by
 induction a using Tm.indp with
 | h a ih =>
  intro b;rw [N3,N3 a];have h1:szD b a = - szD a b:=by unfold szD;omega
  have h4:K4 (wi a b):=by
   unfold wi;split
   ·exact b2q a b
   ·exact a4n fun s _ t=>a7E s t
  rw [h1,<-b3E h4];congr 1;unfold wi;by_cases h:a.f≠b.f\/a.ps.length≠b.ps.length
  ·rw [if_pos h,if_pos (by omega)];unfold trn;split
   ·rename_i h2;exact b6C a b h2
   ·rename_i h2;exact b7W a b h2
  ·rw [if_neg h,if_neg (by omega)];exact a9w (by omega) ih
theorem a7J (a:Tm):kb a a=0:=(H3 a a).2 rfl
theorem c0Y {a b:Tm}:hdK a b=1↔¬ a.f<0/\¬ b.f<0/\(b.f<a.f\/(a.f=b.f/\b.l.length<a.l.length)):=by
 unfold hdK;split
 ·constructor
  ·intro h;omega
  ·rintro ⟨h1,h2,_⟩;omega
 ·rename_i h;split
  ·rename_i h2;rcases o5 a.f b.f with h3 | h3 | h3
   ·constructor
    ·intro h4;omega
    ·rintro ⟨_,_,h4⟩;omega
   ·constructor
    ·intro h4;omega
    ·rintro ⟨_,_,h4⟩;omega
   ·exact ⟨fun _=>⟨by omega,by omega,by omega⟩,fun _=>h3.1⟩
  ·rename_i h2;rcases o5 a.l.length b.l.length with h3 | h3 | h3
   ·constructor
    ·intro h4;omega
    ·rintro ⟨_,_,h4⟩;omega
   ·constructor
    ·intro h4;omega
    ·rintro ⟨_,_,h4⟩;omega
   ·exact ⟨fun _=>⟨by omega,by omega,by omega⟩,fun _=>h3.1⟩
theorem b6X {a b:Tm}:wi a b=1↔¬ a.f<0/\¬ b.f<0/\(b.f<a.f\/(a.f=b.f/\(b.l.length<a.l.length\/(a.l.length=b.l.length/\kbs a.l b.l=1)))):=by
 unfold wi;split
 ·rename_i h;rw [c0Y];constructor
  ·rintro ⟨h1,h2,h3⟩;exact ⟨h1,h2,by omega⟩
  ·rintro ⟨h1,h2,h3⟩;rw [Tm.ps_of_sym (t:=a) (by omega),Tm.ps_of_sym (t:=b) (by omega)] at h;exact ⟨h1,h2,by omega⟩
 ·rename_i h;by_cases hf:a.f<0
  ·rw [Tm.ps_of_var hf,a0c];constructor
   ·intro h;omega
   ·rintro ⟨h1,_⟩;omega
  ·rw [Tm.ps_of_sym (t:=a) (by omega),Tm.ps_of_sym (t:=b) (by omega)] at h |-;constructor
   ·intro h1;exact ⟨hf,by omega,.inr ⟨by omega,.inr ⟨by omega,h1⟩⟩⟩
   ·rintro ⟨h1,h2,h3 | ⟨h3,h4 | ⟨h4,h5⟩⟩⟩
    ·omega
    ·omega
    ·exact h5
theorem a0l {k r:Int}:N8 k r=1↔k=1\/(k=0/\r=1):=by
 unfold N8;split<;>omega
theorem a5Q:∀ {l m n:List Tm},l.length=m.length->m.length=n.length->(∀ s∈l,∀ t u,kb s t=1->kb t u=1->kb s u=1)->kbs l m=1->kbs m n=1->kbs l n=1
 | [],_,_,_,_,_,h,_=>by rw [a0c] at h;omega
 | _::_,[],_,h,_,_,_,_=>by simp at h
 | _::_,_::_,[],_,h,_,_,_=>by simp at h
 | x::l,y::m,z::n,h1,h2,ih,h3,h4=>by
  rw [A5,a0l] at h3 h4 |-;rcases h3 with h3 | ⟨h3,h3'⟩<;>rcases h4 with h4 | ⟨h4,h4'⟩
  ·exact .inl (ih x (by simp) y z h3 h4)
  ·left;rw [a4t rfl ((H3 y z).1 h4).symm];exact h3
  ·left;rw [a4t ((H3 x y).1 h3) rfl];exact h4
  ·right;exact ⟨(H3 x z).2 (((H3 x y).1 h3).trans ((H3 y z).1 h4)),a5Q (by simpa using h1) (by simpa using h2) (fun s hs=>ih s (mem_cons_of_mem _ hs)) h3' h4'⟩
theorem a9y (a:Tm):∀ b c,kb a b=1->kb b c=1->kb a c=1:=by
 induction a using Tm.ind with
 | h f l ih =>
  intro b c h1 h2;rw [b1I] at h1 h2 |-;obtain ⟨c1,h1⟩:=h1;obtain ⟨c2,h2⟩:=h2;refine ⟨b3c c1 c2,?_⟩;rcases h1 with h1 | ⟨h1,g1⟩
  ·left;omega
  rcases h2 with h2 | ⟨h2,g2⟩
  ·left;omega
  right;refine ⟨h1.trans h2,?_⟩;rw [b6X] at g1 g2 |-;obtain ⟨a1,a2,a3⟩:=g1;obtain ⟨b1,b2,b3⟩:=g2;refine ⟨a1,b2,?_⟩;rcases a3 with a3 | ⟨a3,a4⟩
  ·left;omega
  rcases b3 with b3 | ⟨b3,b4⟩
  ·left;omega
  right;refine ⟨a3.trans b3,?_⟩;rcases a4 with a4 | ⟨a4,a5⟩
  ·left;omega
  rcases b4 with b4 | ⟨b4,b5⟩
  ·left;omega
  right;exact ⟨a4.trans b4,a5Q a4 b4 ih a5 b5⟩
theorem b8L {a b:Tm} (h:kb a b=1):kb b a = -1:=by rw [b2H,h];rfl
theorem a0g:∀ {b a:List Int},(∀ v,b.count v<=a.count v)->∃ r,a.Perm (b++r)
 | [],a,_=>⟨a,by simp⟩
 | x::b,a,h=>by
  have hx:x∈a:=by
   have:=h x;rw [List.count_cons_self] at this;exact List.count_pos_iff.1 (by omega)
  have hp:=List.perm_cons_erase hx;obtain ⟨r,hr⟩:=a0g (b:=b) (a:=a.erase x) (fun v=>by
   have h1:=h v;have h2:=hp.count_eq v;rw [List.count_cons] at h1 h2;omega)
  exact ⟨r,hp.trans (by rw [List.cons_append];exact hr.cons x)⟩
theorem a0h (l:List Int) (g:Int->List Int) (v:Int):(l.flatMap g).count v=(l.map fun x=>(g x).count v).sum:=by
 induction l with
 | nil=>rfl
 | cons x l ih=>rw [flatMap_cons,List.count_append,ih,map_cons,sum_cons]
theorem a6I {l m:List Nat} (h:l.Perm m):l.sum=m.sum:=by
 induction h with
 | nil=>rfl
 | cons x _ ih=>rw [sum_cons,sum_cons,ih]
 | swap x y l=>simp only [sum_cons];omega
 | trans _ _ ih1 ih2=>exact ih1.trans ih2
theorem a6x {l m:List Int} (h:l.Perm m):l.sum=m.sum:=by
 induction h with
 | nil=>rfl
 | cons x _ ih=>rw [sum_cons,sum_cons,ih]
 | swap x y l=>simp only [sum_cons];omega
 | trans _ _ ih1 ih2=>exact ih1.trans ih2
theorem b1m {l:List Int} (h:∀ x∈l,0<=x):0<=l.sum:=by
 induction l with
 | nil=>simp
 | cons x l ih =>
  rw [sum_cons];have:=h x (by simp);have:=ih fun y hy=>h y (mem_cons_of_mem _ hy);omega
theorem b9T (img:Int->Tm) {a b:Tm} (h:cov a b):cov (a8 img a) (a8 img b)/\szD a b<=szD (a8 img a) (a8 img b):=by
 obtain ⟨r,hr⟩:=a0g h;constructor
 ·intro v;rw [Z5,Z5,a0h,a0h,a6I (hr.map _),map_append,List.sum_append_nat];omega
 ·unfold szD;rw [a1Q,a1Q,a6x (hr.map _),map_append,List.sum_append_int];have:0<=(r.map fun v=>((img v).size:Int)-1).sum:=by
   refine b1m fun x hx=>?_;obtain ⟨v,_,rfl⟩:=mem_map.1 hx;have:=(img v).size_pos;omega
  omega
theorem b2W (img:Int->Tm):∀ {l m:List Tm},(∀ s∈l,∀ t,kb s t=1->kb (a8 img s) (a8 img t)=1)->kbs l m=1->kbs (l.map (a8 img)) (m.map (a8 img))=1
 | [],_,_,h=>by rw [a0c] at h;omega
 | _::_,[],_,h=>by cases h
 | x::l,y::m,ih,h=>by
  rw [A5,a0l] at h;rw [map_cons,map_cons,A5,a0l];rcases h with h | ⟨h,h'⟩
  ·exact .inl (ih x (by simp) y h)
  ·right;refine ⟨?_,b2W img (fun s hs=>ih s (mem_cons_of_mem _ hs)) h'⟩;rw [<-C1 img x,(H3 x y).1 h,C1];exact a7J _
theorem a6Z (img:Int->Tm) (a:Tm):∀ b,kb a b=1->kb (a8 img a) (a8 img b)=1:=by
 induction a using Tm.ind with
 | h f l ih =>
  intro b h;rw [b1I] at h;obtain ⟨h1,h2⟩:=h;obtain ⟨c1,c2⟩:=b9T img h1;unfold szD at c2;rw [b1I];refine ⟨c1,?_⟩;rcases h2 with h2 | ⟨h2,h3⟩
  ·left;omega
  ·rcases Nat.lt_or_ge (a8 img b).size (a8 img ⟨f,l⟩).size with h4 | h4
   ·exact .inl h4
   ·right;refine ⟨by omega,?_⟩;rw [b6X] at h3 |-;obtain ⟨h5,h6,h7⟩:=h3;rw [b8 h5,b8 h6];refine ⟨h5,h6,?_⟩;simp only [length_map];rcases h7 with h7 | ⟨h7,h8 | ⟨h8,h9⟩⟩
    ·exact .inl h7
    ·exact .inr ⟨h7,.inl h8⟩
    ·exact .inr ⟨h7,.inr ⟨h8,b2W img ih h9⟩⟩
theorem b7a (img:Int->Tm) {a b:Tm} (h:kb a b≠2):kb (a8 img a) (a8 img b)=kb a b:=by
 rcases a7E a b with h1 | h1 | h1 | h1
 ·rw [h1,H3,<-C1 img a,(H3 a b).1 h1,C1]
 ·rw [h1];exact a6Z img a b h1
 ·have h2:kb b a=1:=by rw [b2H a b,h1];rfl
  rw [h1];exact b8L (a6Z img b a h2)
 ·exact absurd h1 h
def cn (s:Tm) (l:List Tm):Nat:=l.countP (fun t=>s8 s t)
theorem b1H (s:Tm):cn s []=0:=rfl
theorem O5 (s t:Tm) (l:List Tm):cn s (t::l)=cn s l+(if s8 s t=true then 1 else 0):=by unfold cn;exact countP_cons
theorem a5c (s:Tm) (l m:List Tm):cn s (l++m)=cn s l+cn s m:=by unfold cn;exact List.countP_append
theorem b8e (s:Tm) {l m:List Tm} (h:l.Perm m):cn s l=cn s m:=h.countP_eq _
theorem E2 (s:Tm):s8 s s=true:=(k9 _ _).2 rfl
theorem b5d {s t:Tm} (h:s8 s t=true) (l:List Tm):cn s l=cn t l:=by
 unfold cn;refine List.countP_congr fun x _=>?_;rw [k9,k9,(k9 _ _).1 h]
theorem a0Q {s:Tm} {l:List Tm}:0<cn s l↔∃ t∈l,s8 s t=true:=by unfold cn;exact List.countP_pos_iff
theorem a7U {t:Tm} {l:List Tm} (h:t∈l):0<cn t l:=a0Q.2 ⟨t,h,E2 t⟩
theorem a1A {a a' b b':Tm} (h:s8 a a'=true) (h2:s8 b b'=true):kb a b=kb a' b':=a4t ((k9 _ _).1 h) ((k9 _ _).1 h2)
def a5a (A B:List Tm):Prop:=(∃ s,cn s B<cn s A)/\∀ s,cn s A<cn s B->∃ t,cn t B<cn t A/\kb t s=1
theorem b7r (P:Tm->Prop):∀ (l:List Tm),(∃ t∈l,P t)->∃ t∈l,P t/\∀ u∈l,P u->kb u t≠1
 | [],h=>by obtain ⟨t,h,_⟩:=h;exact absurd h List.not_mem_nil
 | x::l,h=>by
  by_cases hl:∃ t∈l,P t
  ·obtain ⟨t,ht,hp,hm⟩:=b7r P l hl;by_cases hx:P x/\kb x t=1
   ·refine ⟨x,mem_cons_self,hx.1,fun u hu hpu e=>?_⟩;rcases mem_cons.1 hu with rfl | hu
    ·rw [a7J] at e;omega
    ·exact hm u hu hpu (a9y u x t e hx.2)
   ·refine ⟨t,mem_cons_of_mem _ ht,hp,fun u hu hpu e=>?_⟩;rcases mem_cons.1 hu with rfl | hu
    ·exact hx ⟨hpu,e⟩
    ·exact hm u hu hpu e
  ·obtain ⟨t,ht,hp⟩:=h;rcases mem_cons.1 ht with rfl | ht
   ·refine ⟨t,mem_cons_self,hp,fun u hu hpu e=>?_⟩;rcases mem_cons.1 hu with rfl | hu
    ·rw [a7J] at e;omega
    ·exact hl ⟨u,hu,hpu⟩
   ·exact absurd ⟨t,ht,hp⟩ hl
theorem a5N {A A' B B':List Tm} (h:∀ s,cn s A=cn s A') (h2:∀ s,cn s B=cn s B'):a5a A B↔a5a A' B':=by
 unfold a5a;simp only [h,h2]
theorem b4W (A B C:List Tm):a5a (A++C) (B++C)↔a5a A B:=by
 unfold a5a;simp only [a5c,Nat.add_lt_add_iff_right]
theorem mul_one (A:List Tm) (z:Tm):a5a (A++[z]) A:=by
 refine ⟨⟨z,?_⟩,fun s hs=>?_⟩
 ·rw [a5c,O5,b1H,E2];simp
 ·rw [a5c] at hs;omega
theorem b3p {X Y C:List Tm} (hx:X≠[]) (hy:∀ y∈Y,∃ x∈X,kb x y=1):a5a (X++C) (Y++C):=by
 rw [b4W];have step:∀ R:Tm->Prop,(∀ s t,s8 s t=true->R s->R t)->(∀ s t,R s->kb t s=1->R t)->(∃ s∈X,R s)->∃ s,R s/\cn s Y<cn s X:=by
  intro R hR hu hs;obtain ⟨x,hxm,hr,hm⟩:=b7r R X hs;refine ⟨x,hr,?_⟩;have hpx:=a7U hxm;by_cases hc:0<cn x Y
  ·obtain ⟨y,hym,he⟩:=a0Q.1 hc;obtain ⟨x2,hx2,hk⟩:=hy y hym;have hk2:kb x2 x=1:=by rw [a1A (E2 x2) he];exact hk
   exact absurd hk2 (hm x2 hx2 (hu x x2 hr hk2))
  ·omega
 refine ⟨?_,fun s hs=>?_⟩
 ·cases X with
  | nil=>exact absurd rfl hx
  | cons x X=>obtain ⟨s,_,h⟩:=step (fun _=>True) (fun _ _ _ _=>trivial) (fun _ _ _ _=>trivial) ⟨x,mem_cons_self,trivial⟩;exact ⟨s,h⟩
 ·obtain ⟨y,hym,he⟩:=a0Q.1 (show 0<cn s Y by omega);obtain ⟨x,hxm,hk⟩:=hy y hym;obtain ⟨t,hk2,ht⟩:=step (fun t=>kb t s=1) (fun a b e h=>by rw [<-a1A e (E2 s)];exact h) (fun a b h e=>a9y b a s e h) ⟨x,hxm,by rw [a1A (E2 x) he];exact hk⟩;exact ⟨t,ht,hk2⟩
def C7:Nat->List Tm->List Tm->List Tm×List Tm
 | 0,a,b=>(a,b)
 | n+1,a,b=>match a[n]? with
  | none=>C7 n a b
  | some t=>match b.findIdx? (s8 t) with
   | none=>C7 n a b
   | some k=>C7 n (a.eraseIdx n) (b.eraseIdx k)
theorem a1t (s:Tm):∀ {l:List Tm} {k:Nat} {t:Tm},l[k]?=some t->cn s (l.eraseIdx k)+(if s8 s t=true then 1 else 0)=cn s l
 | [],k,t,h=>by simp at h
 | x::l,0,t,h=>by
  have e:x=t:=by simpa using h
  subst e;rw [List.eraseIdx_cons_zero,O5]
 | x::l,k+1,t,h=>by
  have e:=a1t s (l:=l) (k:=k) (t:=t) (by simpa using h);rw [List.eraseIdx_cons_succ,O5,O5,<-e];omega
theorem a8b:∀ (n:Nat) (a b:List Tm) (s:Tm),cn s (C7 n a b).1+cn s b=cn s (C7 n a b).2+cn s a
 | 0,a,b,s=>by unfold C7;exact Nat.add_comm _ _
 | n+1,a,b,s=>by
  unfold C7;split
  ·exact a8b n a b s
  ·rename_i t ht;split
   ·exact a8b n a b s
   ·rename_i k hk;obtain ⟨hkl,hp,_⟩:=List.findIdx?_eq_some_iff_getElem.1 hk;have h1:=a8b n (a.eraseIdx n) (b.eraseIdx k) s;have h2:=a1t s ht;have h3:=a1t s (getElem?_eq_getElem hkl);have h4:s8 s t=s8 s b[k]:=by rw [Bool.eq_iff_iff,k9,k9,(k9 _ _).1 hp]
    rw [h4] at h2;omega
theorem b6q {a:List Tm} {n:Nat} {t:Tm} (h:a[n]?=some t):a.drop n=t::a.drop (n+1):=by
 obtain ⟨hl,he⟩:=List.getElem?_eq_some_iff.1 h;rw [List.drop_eq_getElem_cons hl,he]
theorem b1q {a:List Tm} {n:Nat} (h:n<a.length):(a.eraseIdx n).drop n=a.drop (n+1):=by
 rw [List.eraseIdx_eq_take_drop_succ,List.drop_append];rw [length_take,Nat.min_eq_left (by omega)];simp
theorem a1W:∀ (n:Nat) (a b:List Tm),n<=a.length->(∀ t∈a.drop n,cn t b=0)->∀ t∈(C7 n a b).1,cn t (C7 n a b).2=0
 | 0,a,b,_,h=>by unfold C7;simpa using h
 | n+1,a,b,hn,h=>by
  unfold C7;split
  ·rename_i ht;rw [List.getElem?_eq_none_iff] at ht;omega
  ·rename_i t ht;split
   ·rename_i hk;refine a1W n a b (by omega) fun u hu=>?_;rw [b6q ht] at hu;rcases mem_cons.1 hu with rfl | hu
    ·rw [List.findIdx?_eq_none_iff] at hk;refine Nat.eq_zero_of_not_pos fun hc=>?_;obtain ⟨v,hv,he⟩:=a0Q.1 hc;have:=hk v hv;rw [he] at this;cases this
    ·exact h u hu
   ·rename_i k hk;obtain ⟨hkl,hp,_⟩:=List.findIdx?_eq_some_iff_getElem.1 hk;refine a1W n _ _ (by rw [List.length_eraseIdx_of_lt (by omega)];omega) fun u hu=>?_;rw [b1q (by omega)] at hu;have h1:=h u hu;have h2:=a1t u (getElem?_eq_getElem hkl);omega
noncomputable def a9t (X Y:List Tm):Bool:=decide (0<X.length)&&!(Y.any fun y=>!(X.any fun x=>decide (kb x y=1)))
theorem a9m (X Y:List Tm):a9t X Y=true↔X≠[]/\∀ y∈Y,∃ x∈X,kb x y=1:=by
 unfold a9t;rw [Bool.and_eq_true,decide_eq_true_iff,Bool.not_eq_true',<-Bool.not_eq_true,any_eq_true,List.length_pos_iff];refine and_congr_right fun _=>⟨fun h y hy=>?_,fun h hc=>?_⟩
 ·by_cases hx:(X.any fun x=>decide (kb x y=1))=true
  ·obtain ⟨x,hx,he⟩:=any_eq_true.1 hx;exact ⟨x,hx,of_decide_eq_true he⟩
  ·exact absurd ⟨y,hy,by simpa using hx⟩ h
 ·obtain ⟨y,hy,he⟩:=hc;obtain ⟨x,hx,hk⟩:=h y hy;have:(X.any fun x=>decide (kb x y=1))=true:=any_eq_true.2 ⟨x,hx,decide_eq_true hk⟩;rw [this] at he;cases he
theorem b2X {X Y A B:List Tm} (h1:∀ s,cn s X=cn s A-cn s B) (h2:∀ s,cn s Y=cn s B-cn s A):a9t X Y=true↔a5a A B:=by
 rw [a9m];unfold a5a;constructor
 ·rintro ⟨h3,h4⟩;refine ⟨?_,fun s hs=>?_⟩
  ·cases X with
   | nil=>exact absurd rfl h3
   | cons x X =>
    have h5:=a7U (l:=x::X) mem_cons_self;have h6:=h1 x;exact ⟨x,by omega⟩
  ·have h5:=h2 s;obtain ⟨y,hy,he⟩:=a0Q.1 (show 0<cn s Y by omega);obtain ⟨x,hx,hk⟩:=h4 y hy;have h6:=a7U hx;have h7:=h1 x;exact ⟨x,by omega,by rw [a1A (E2 x) he];exact hk⟩
 ·rintro ⟨⟨s,hs⟩,h4⟩;refine ⟨?_,fun y hy=>?_⟩
  ·rintro rfl;have h5:=h1 s;rw [b1H] at h5;omega
  ·have h5:=a7U hy;have h6:=h2 y;obtain ⟨t,ht,hk⟩:=h4 y (by omega);have h7:=h1 t;obtain ⟨x,hx,he⟩:=a0Q.1 (show 0<cn t X by omega);exact ⟨x,hx,by rw [<-a1A he (E2 y)];exact hk⟩
noncomputable def a4S (a b:List Tm):Bool:=a9t (C7 a.length a b).1 (C7 a.length a b).2
theorem a9X (a b:List Tm):a4S a b=true↔a5a a b:=by
 have h1:=a8b a.length a b;have h2:=a1W a.length a b (Nat.le_refl _) (by simp);have h3:∀ s,cn s (C7 a.length a b).1=0\/cn s (C7 a.length a b).2=0:=by
  intro s;by_cases hc:0<cn s (C7 a.length a b).1
  ·obtain ⟨t,ht,he⟩:=a0Q.1 hc;right;rw [b5d he];exact h2 t ht
  ·left;omega
 refine b2X (fun s=>?_) (fun s=>?_)
 ·have:=h1 s;have:=h3 s;omega
 ·have:=h1 s;have:=h3 s;omega
def c1P (b:List Tm) (u:List Bool) (t:Tm):Option Nat:=(b.zip u).findIdx? (fun p=>!p.2&&s8 t p.1)
def lsD:List Tm->List Tm->List Bool->List Tm
 | [],b,u=>[]
 | t::a,b,u=>match c1P b u t with
  | none=>t::lsD a b u
  | some k=>lsD a b (u.set k true)
def rm (s:Tm) (b:List Tm) (u:List Bool):Nat:=(b.zip u).countP (fun p=>!p.2&&s8 s p.1)
theorem b7E (s:Tm):∀ {b:List Tm} {u:List Bool} {k:Nat} {t:Tm},(b.zip u)[k]?=some (t,false)->rm s b (u.set k true)+(if s8 s t=true then 1 else 0)=rm s b u
 | [],u,k,t,h=>by simp at h
 | x::b,[],k,t,h=>by simp at h
 | x::b,y::u,0,t,h=>by
  have e:x=t/\y=false:=by simpa using h
  obtain ⟨rfl,rfl⟩:=e;unfold rm;rw [List.set_cons_zero,zip_cons_cons,zip_cons_cons,countP_cons,countP_cons];simp
 | x::b,y::u,k+1,t,h=>by
  have e:=b7E s (b:=b) (u:=u) (k:=k) (t:=t) (by simpa using h);unfold rm at e |-;rw [List.set_cons_succ,zip_cons_cons,zip_cons_cons,countP_cons,countP_cons,<-e];omega
theorem b7M (s:Tm):∀ (a b:List Tm) (u:List Bool),cn s (lsD a b u)=cn s a-rm s b u
 | [],b,u=>by unfold lsD;rw [b1H];omega
 | t::a,b,u=>by
  unfold lsD;split
  ·rename_i hh;rw [O5,O5,b7M s a b u];unfold c1P at hh;rw [List.findIdx?_eq_none_iff] at hh;by_cases hs:s8 s t=true
   ·have h0:rm s b u=0:=by
     unfold rm;rw [List.countP_eq_zero];intro p hp hc;have:=hh p hp;rw [Bool.and_eq_true,k9,(k9 _ _).1 hs,<-k9,<-Bool.and_eq_true] at hc;rw [hc] at this;cases this
    rw [h0,if_pos hs];omega
   ·rw [if_neg hs];omega
  ·rename_i k hk;unfold c1P at hk;obtain ⟨hl,hp,_⟩:=List.findIdx?_eq_some_iff_getElem.1 hk;rw [Bool.and_eq_true,Bool.not_eq_true'] at hp;have he:(b.zip u)[k]?=some ((b.zip u)[k].1,false):=by rw [getElem?_eq_getElem hl,<-hp.1]
   have h1:=b7E s he;have h4:s8 s t=s8 s (b.zip u)[k].1:=by rw [Bool.eq_iff_iff,k9,k9,(k9 _ _).1 hp.2]
   rw [<-h4] at h1;rw [b7M s a b _,O5];by_cases hs:s8 s t=true
   ·rw [if_pos hs] at h1 |-;omega
   ·rw [if_neg hs] at h1 |-;omega
theorem b6N (s:Tm):∀ (b:List Tm),rm s b (List.replicate b.length false)=cn s b
 | []=>rfl
 | x::b=>by
  have e:=b6N s b;unfold rm at e |-;rw [length_cons,List.replicate_succ,zip_cons_cons,countP_cons,e,O5];simp
def a3z (a b:List Tm):List Tm:=lsD a b (List.replicate b.length false)
theorem O6 (s:Tm) (a b:List Tm):cn s (a3z a b)=cn s a-cn s b:=by unfold a3z;rw [b7M,b6N]
theorem b7u (img:Int->Tm) {l m:List Tm} (h:∀ s,cn s l=cn s m) (s:Tm):cn s (l.map (a8 img))=cn s (m.map (a8 img)):=by
 have hp:(l.map Tm.strip).Perm (m.map Tm.strip):=by
  haveI:DecidableEq Tm:=fun _ _=>Classical.propDecidable _
  rw [List.perm_iff_count];intro x;have hc:∀ k:List Tm,(∀ y,x=Tm.strip y->(k.map Tm.strip).count x=cn y k):=by
   intro k y hy;rw [List.count,countP_map];unfold cn;refine List.countP_congr fun z _=>?_;rw [Function.comp_apply,beq_iff_eq,k9,hy];exact ⟨Eq.symm,Eq.symm⟩
  by_cases hx:∃ y,x=Tm.strip y
  ·obtain ⟨y,hy⟩:=hx;rw [hc l y hy,hc m y hy,h]
  ·have hz:∀ k:List Tm,(k.map Tm.strip).count x=0:=by
    intro k;rw [List.count_eq_zero];intro hm;obtain ⟨y,_,hy⟩:=mem_map.1 hm;exact hx ⟨y,hy.symm⟩
   rw [hz,hz]
 have hq:∀ k:List Tm,cn s (k.map (a8 img))=cn s ((k.map Tm.strip).map (a8 img)):=by
  intro k;unfold cn;rw [map_map,countP_map,countP_map];refine List.countP_congr fun z _=>?_;rw [Function.comp_apply,Function.comp_apply,Function.comp_apply,k9,k9,C1]
 rw [hq l,hq m];exact b8e s (hp.map _)
theorem b2Z (img:Int->Tm) {A B:List Tm} (h:a5a A B):a5a (A.map (a8 img)) (B.map (a8 img)):=by
 obtain ⟨h1,h2⟩:=(a9m _ _).1 ((b2X (fun s=>O6 s A B) (fun s=>O6 s B A)).2 h);have hA:∀ s,cn s A=cn s (a3z A B++a3z A (a3z A B)):=fun s=>by rw [a5c,O6,O6,O6];omega
 have hB:∀ s,cn s B=cn s (a3z B A++a3z A (a3z A B)):=fun s=>by rw [a5c,O6,O6,O6];omega
 rw [a5N (b7u img hA) (b7u img hB),map_append,map_append];refine b3p (fun e=>h1 (List.map_eq_nil_iff.1 e)) fun y hy=>?_;obtain ⟨z,hz,rfl⟩:=mem_map.1 hy;obtain ⟨x,hx,hk⟩:=h2 z hz;exact ⟨a8 img x,List.mem_map_of_mem hx,a6Z img x z hk⟩
structure Sc where
 sz:Int
 mp:List (Int×Int)
 sp:Int
 lk:Int
def B5:List (Int×Int)->Int->Option Int
 | [],_=>none
 | (k,x)::l,v=>if k=v then some x else B5 l v
def C6 (l:List (Int×Int)) (v:Int):Int:=(B5 l v).getD 0
def T5:List (Int×Int)->Int->Int->List (Int×Int)
 | [],v,y=>[(v,y)]
 | (k,x)::l,v,y=>if k=v then (v,y)::l else (k,x)::T5 l v y
theorem b8S (l:List (Int×Int)) (v y:Int):T5 l v y≠[]:=by
 cases l with
 | nil=>simp [T5]
 | cons p l =>
  obtain ⟨k,x⟩:=p;rw [T5];split<;>simp
theorem b3A (l:List (Int×Int)) (v y u:Int):B5 (T5 l v y) u=if v=u then some y else B5 l u:=by
 induction l with
 | nil=>rfl
 | cons p l ih =>
  obtain ⟨k,x⟩:=p;rw [T5];by_cases h:k=v
  ·rw [if_pos h,B5,B5];by_cases h2:v=u
   ·rw [if_pos h2,if_pos h2]
   ·rw [if_neg h2,if_neg h2,if_neg (by omega)]
  ·rw [if_neg h,B5,B5];by_cases h2:k=u
   ·rw [if_pos h2,if_pos h2,if_neg (by omega)]
   ·rw [if_neg h2,if_neg h2,ih]
theorem a9U (l:List (Int×Int)) (v y u:Int):C6 (T5 l v y) u=if v=u then y else C6 l u:=by
 unfold C6;rw [b3A];split<;>rfl
def C4 (s:Sc) (v σ:Int):Sc:=⟨s.sz,T5 s.mp v (C6 s.mp v+σ),s.sp+(max (C6 s.mp v+σ) 0-max (C6 s.mp v) 0),s.lk+(max (-(C6 s.mp v+σ)) 0-max (-(C6 s.mp v)) 0)⟩
def a7w (σ:Int) (s:Sc) (t:Tm):Sc:=if t.f<0 then C4 ⟨s.sz+σ,s.mp,s.sp,s.lk⟩ (-1-t.f) σ else ⟨s.sz+σ,s.mp,s.sp,s.lk⟩
def addT (σ:Int) (s:Sc) (t:Tm):Sc:=t.flat.foldl (a7w σ) s
def addL (σ:Int) (s:Sc) (l:List Tm):Sc:=(l.flatMap Tm.flat).foldl (a7w σ) s
theorem b5p {σ:Int} {s:Sc} {t:Tm} (h:t.f<0):addT σ s t=C4 ⟨s.sz+σ,s.mp,s.sp,s.lk⟩ (-1-t.f) σ:=by
 unfold addT;rw [Tm.flat_eq,Tm.ps_of_var h];show a7w σ s t=_;unfold a7w;rw [if_pos h]
theorem b5Q {σ:Int} {s:Sc} {t:Tm} (h:¬ t.f<0):addT σ s t=addL σ ⟨s.sz+σ,s.mp,s.sp,s.lk⟩ t.l:=by
 unfold addT addL;rw [Tm.flat_eq,Tm.ps_of_sym (by omega),foldl_cons];congr 1;unfold a7w;rw [if_neg h]
theorem b3L {σ:Int} {s:Sc} {l:List Tm} {k:Nat} {t:Tm} (h:l[k]?=some t):addL σ s (l.take (k+1))=addT σ (addL σ s (l.take k)) t:=by
 unfold addL addT;rw [List.take_add_one,h,flatMap_append,List.foldl_append];simp
def upS (l:List (Int×Int)):Int:=(l.map fun p=>max p.2 0).sum
def dnS (l:List (Int×Int)):Int:=(l.map fun p=>max (-p.2) 0).sum
def ndk (l:List (Int×Int)):Prop:=(l.map (·.1)).Nodup
theorem a3R {l:List (Int×Int)} {v:Int} (h:v∉l.map (·.1)):B5 l v=none:=by
 induction l with
 | nil=>rfl
 | cons p l ih =>
  obtain ⟨k,x⟩:=p;rw [map_cons,mem_cons,not_or] at h;rw [B5,if_neg (fun e=>h.1 e.symm),ih h.2]
theorem b4Y {l:List (Int×Int)} {v y u:Int} (h:u∈(T5 l v y).map (·.1)):u=v\/u∈l.map (·.1):=by
 induction l with
 | nil=>simp [T5] at h;exact .inl h
 | cons p l ih =>
  obtain ⟨k,x⟩:=p;rw [T5] at h;split at h
  ·rename_i e;rw [map_cons,mem_cons] at h |-;rcases h with h | h
   ·exact .inl h
   ·exact .inr (.inr h)
  ·rw [map_cons,mem_cons] at h |-;rcases h with h | h
   ·exact .inr (.inl h)
   ·rcases ih h with h | h
    ·exact .inl h
    ·exact .inr (.inr h)
theorem b8i {l:List (Int×Int)} (h:ndk l) (v y:Int):ndk (T5 l v y)/\upS (T5 l v y)=upS l+(max y 0-max (C6 l v) 0)/\dnS (T5 l v y)=dnS l+(max (-y) 0-max (-(C6 l v)) 0):=by
 induction l with
 | nil=>exact ⟨by simp [T5,ndk],by simp [T5,upS,C6,B5],by simp [T5,dnS,C6,B5]⟩
 | cons p l ih =>
  obtain ⟨k,x⟩:=p;unfold ndk at h;rw [map_cons,nodup_cons] at h;rw [T5];by_cases e:k=v
  ·rw [if_pos e];have hg:C6 ((k,x)::l) v=x:=by unfold C6 B5;rw [if_pos e];rfl
   rw [hg];refine ⟨by unfold ndk;rw [map_cons,nodup_cons];exact e▸h,?_,?_⟩
   ·simp only [upS,map_cons,sum_cons];omega
   ·simp only [dnS,map_cons,sum_cons];omega
  ·rw [if_neg e];have hg:C6 ((k,x)::l) v=C6 l v:=by unfold C6;rw [B5,if_neg e]
   obtain ⟨h1,h2,h3⟩:=ih h.2;rw [hg];refine ⟨?_,?_,?_⟩
   ·unfold ndk;rw [map_cons,nodup_cons];refine ⟨fun hm=>?_,h1⟩;rcases b4Y hm with hm | hm
    ·exact e hm
    ·exact h.1 hm
   ·unfold upS at h2 |-;rw [map_cons,sum_cons,h2,map_cons,sum_cons];omega
   ·unfold dnS at h3 |-;rw [map_cons,sum_cons,h3,map_cons,sum_cons];omega
theorem b6D {l:List (Int×Int)} (h:ndk l):0<=upS l/\(upS l=0↔∀ v,C6 l v<=0):=by
 induction l with
 | nil=>exact ⟨by simp [upS],by simp [upS,C6,B5]⟩
 | cons p l ih =>
  obtain ⟨k,x⟩:=p;unfold ndk at h;rw [map_cons,nodup_cons] at h;obtain ⟨h1,h2⟩:=ih h.2;have e:upS ((k,x)::l)=max x 0+upS l:=by simp [upS]
  rw [e];refine ⟨by omega,?_⟩;constructor
  ·intro h3 v;have h4:=h2.1 (by omega) v;unfold C6 at h4 |-;rw [B5];split
   ·show x<=0;omega
   ·exact h4
  ·intro h3;have hx:=h3 k;unfold C6 at hx;rw [B5,if_pos rfl] at hx;have hx:x<=0:=hx;have:=h2.2 fun v=>by
    by_cases hv:k=v
    ·subst hv;unfold C6;rw [a3R h.1];exact Int.le_refl 0
    ·have:=h3 v;unfold C6 at this |-;rw [B5,if_neg hv] at this;exact this
   omega
theorem b5k {l:List (Int×Int)} (h:ndk l):0<=dnS l/\(dnS l=0↔∀ v,0<=C6 l v):=by
 induction l with
 | nil=>exact ⟨by simp [dnS],by simp [dnS,C6,B5]⟩
 | cons p l ih =>
  obtain ⟨k,x⟩:=p;unfold ndk at h;rw [map_cons,nodup_cons] at h;obtain ⟨h1,h2⟩:=ih h.2;have e:dnS ((k,x)::l)=max (-x) 0+dnS l:=by simp [dnS]
  rw [e];refine ⟨by omega,?_⟩;constructor
  ·intro h3 v;have h4:=h2.1 (by omega) v;unfold C6 at h4 |-;rw [B5];split
   ·show 0<=x;omega
   ·exact h4
  ·intro h3;have hx:=h3 k;unfold C6 at hx;rw [B5,if_pos rfl] at hx;have hx:0<=x:=hx;have:=h2.2 fun v=>by
    by_cases hv:k=v
    ·subst hv;unfold C6;rw [a3R h.1];exact Int.le_refl 0
    ·have:=h3 v;unfold C6 at this |-;rw [B5,if_neg hv] at this;exact this
   omega
structure Ss (s:Sc) (z:Int) (D:Int->Int):Prop where
 sz:s.sz=z
 nd:ndk s.mp
 sp:s.sp=upS s.mp
 lk:s.lk=dnS s.mp
 at_:∀ v,C6 s.mp v=D v
theorem Ss.addV {s:Sc} {z:Int} {D:Int->Int} (h:Ss s z D) (v σ:Int):Ss (C4 s v σ) z (fun u=>D u+if v=u then σ else 0):=by
 obtain ⟨h1,h2,h3⟩:=b8i h.nd v (C6 s.mp v+σ);refine ⟨h.sz,h1,?_,?_,fun u=>?_⟩
 ·show s.sp+_=upS (T5 _ _ _);rw [h2,h.sp]
 ·show s.lk+_=dnS (T5 _ _ _);rw [h3,h.lk]
 ·show C6 (T5 _ _ _) u=_;rw [a9U];split
  ·rename_i e;subst e;rw [h.at_]
  ·rw [h.at_];omega
theorem b6f {σ:Int} {s:Sc} {t:Tm} (h:t.f<0):a7w σ s t=C4 ⟨s.sz+σ,s.mp,s.sp,s.lk⟩ (-1-t.f) σ:=if_pos h
theorem b5m {σ:Int} {s:Sc} {t:Tm} (h:¬ t.f<0):a7w σ s t=⟨s.sz+σ,s.mp,s.sp,s.lk⟩:=if_neg h
theorem Ss.fold {σ:Int}:∀ {l:List Tm} {s:Sc} {z:Int} {D:Int->Int},Ss s z D->Ss (l.foldl (a7w σ) s) (z+σ*l.length) (fun v=>D v+σ*((vsL l).count v:Int))
 | [],s,z,D,h=>by
  refine ⟨by show s.sz=_;rw [h.sz];simp,h.nd,h.sp,h.lk,fun v=>?_⟩;show C6 s.mp v=_;rw [h.at_];simp [vsL]
 | t::l,s,z,D,h=>by
  rw [foldl_cons];have h0:Ss ⟨s.sz+σ,s.mp,s.sp,s.lk⟩ (z+σ) D:=⟨by show s.sz+σ=_;rw [h.sz],h.nd,h.sp,h.lk,h.at_⟩
  have e1:σ*((t::l).length:Int)=σ+σ*(l.length:Int):=by
   rw [length_cons];push_cast;rw [Int.mul_add];omega
  by_cases hf:t.f<0
  ·have h1:=(h0.addV (-1-t.f) σ).fold (σ:=σ) (l:=l);rw [b6f hf];refine ⟨?_,h1.nd,h1.sp,h1.lk,fun v=>?_⟩
   ·rw [h1.sz,e1];omega
   ·rw [h1.at_];have e2:(vsL (t::l)).count v=(if -1-t.f=v then 1 else 0)+(vsL l).count v:=by
     unfold vsL;rw [List.filter_cons,if_pos (by simpa using hf),map_cons,List.count_cons];simp only [beq_iff_eq];omega
    rw [e2];split
    ·push_cast;rw [Int.mul_add];omega
    ·push_cast;rw [Int.mul_add];omega
  ·have h1:=h0.fold (σ:=σ) (l:=l);rw [b5m hf];refine ⟨?_,h1.nd,h1.sp,h1.lk,fun v=>?_⟩
   ·rw [h1.sz,e1];omega
   ·rw [h1.at_];have e2:vsL (t::l)=vsL l:=by
     unfold vsL;rw [List.filter_cons,if_neg (by simpa using hf)]
    rw [e2]
noncomputable def mrv (p:Int×Int):CV := .row [.i p.1,.i p.2]
theorem a1b (l:List (Int×Int)):x8 .i64 (l.map mrv):=fun r hr=>by
 obtain ⟨p,_,rfl⟩:=mem_map.1 hr;exact ⟨p.1,.i p.2,rfl⟩
theorem b8y (l:List (Int×Int)) (v:Int):E4 .i64 v (l.map mrv)=(B5 l v).map CV.i:=by
 induction l with
 | nil=>rfl
 | cons p l ih =>
  obtain ⟨k,x⟩:=p;rw [map_cons,mrv,P8,B5];split
  ·rfl
  ·exact ih
theorem c0Q (l:List (Int×Int)) (v:Int):(E4 .i64 v (l.map mrv)).getD (.sc (.int .i64 0)) = .i (C6 l v):=by
 rw [b8y];unfold C6;cases B5 l v<;>rfl
theorem b7C (l:List (Int×Int)) (v y:Int):a2l .i64 v (.i y) (l.map mrv)=(T5 l v y).map mrv:=by
 induction l with
 | nil=>rfl
 | cons p l ih =>
  obtain ⟨k,x⟩:=p;rw [map_cons,mrv,a4H,T5];split
  ·rfl
  ·rw [map_cons,ih];rfl
noncomputable def mB (l:List (Int×Int)):AV:=⟨if l=[] then 17 else 14,.lst (l.map mrv),0,0,[]⟩
noncomputable abbrev sst (s:Sc):AS:=[(450001,.obj),(35500100,.val (.i s.sz)),(35500101,.mref 300001),(35500102,.val (.i s.sp)),(35500103,.val (.i s.lk)),(300001,mB s.mp)]
noncomputable abbrev c1Y (z p k:Int):AS:=[(450001,.obj),(35500100,.val (.i z)),(35500101,.mref 300001),(35500102,.val (.i p)),(35500103,.val (.i k)),(300001,.nmap)]
noncomputable abbrev b9V (z:Int) (l:List (Int×Int)) (p k:Int):AS:=[(450001,.obj),(35500100,.val (.i z)),(35500101,.mref 300001),(35500102,.val (.i p)),(35500103,.val (.i k)),(300001,.mp (l.map mrv))]
theorem b4M {s:Sc} (h:s.mp=[]):sst s=c1Y s.sz s.sp s.lk:=by simp only [sst,mB,h,if_true];rfl
theorem b4K {s:Sc} (h:s.mp≠[]):sst s=b9V s.sz s.mp s.sp s.lk:=by simp only [sst,mB,if_neg h]
theorem y7 (s:Sc):(sst s).all E6=true:=by
 by_cases h:s.mp=[]
 ·rw [b4M h];kernel_rfl
 ·rw [b4K h];kernel_rfl
theorem t8 (s:Sc):(sst s).all (F9 (kO (sst s)))=true:=by
 by_cases h:s.mp=[]
 ·rw [b4M h];kernel_rfl
 ·rw [b4K h];kernel_rfl
structure Bds (s:Sc) (n:Nat):Prop where
 sz : -(n:Int)<=s.sz/\s.sz<=n
 sp : -(n:Int)<=s.sp/\s.sp<=n
 lk : -(n:Int)<=s.lk/\s.lk<=n
 at_:∀ v,-(n:Int)<=C6 s.mp v/\C6 s.mp v<=n
theorem Bds.node {s:Sc} {n:Nat} {σ:Int} (h:Bds s n) (hσ:σ=1\/σ = -1) (t:Tm):Bds (a7w σ s t) (n+1):=by
 obtain ⟨h1,h2,h3,h4⟩:=h;unfold a7w;split
 ·unfold C4;have:=h4 (-1-t.f);refine ⟨by show _<=s.sz+σ/\s.sz+σ<=_;omega,by simp only;omega,by simp only;omega,fun v=>?_⟩;simp only;rw [a9U];have:=h4 v;split<;>omega
 ·exact ⟨by show _<=s.sz+σ/\s.sz+σ<=_;omega,by simp only;omega,by simp only;omega,fun v=>by have:=h4 v;simp only;omega⟩
theorem Bds.fold {σ:Int} (hσ:σ=1\/σ = -1):∀ {l:List Tm} {s:Sc} {n:Nat},Bds s n->Bds (l.foldl (a7w σ) s) (n+l.length)
 | [],s,n,h=>h
 | t::l,s,n,h=>by
  rw [foldl_cons,length_cons,show n+(l.length+1)=n+1+l.length by omega];exact (h.node hσ t).fold hσ
theorem Bds.addL {σ:Int} (hσ:σ=1\/σ = -1) {l:List Tm} {s:Sc} {n:Nat} (h:Bds s n):Bds (addL σ s l) (n+(l.flatMap Tm.flat).length):=h.fold hσ
theorem Bds.addT {σ:Int} (hσ:σ=1\/σ = -1) {t:Tm} {s:Sc} {n:Nat} (h:Bds s n):Bds (addT σ s t) (n+t.size):=h.fold hσ
theorem L9 (W:World) (t:Tm):AFun Tryz.prog W 155 [t.cw] (.val (.b (decide (t.f<0)))):=by
 refine b9 (rs:=[.b (decide (t.f<0))]) Tryz.func155 Tryz.ntmps155 rfl rfl rfl rfl ?_;intro w U hW;refine aS (aR ?_);refine nc zd (nc ze ?_);refine aS (aR ?_);refine nc zg (nc zh (nc zi (nc ze ?_)));exact aT ⟨.inr rfl,rfl⟩
theorem a8I (W:World) (t:Tm) (h1 : -9223372036854775808<=t.f) (h2:t.f<0):AFun Tryz.prog W 157 [t.cw] (.val (.i (-1-t.f))):=by
 refine b9 (rs:=[.i (-1-t.f)]) Tryz.func157 Tryz.ntmps157 rfl rfl rfl rfl ?_;intro w U hW;refine aS (aR ?_);refine nc zd (nc ze ?_);refine aS (aR ?_);refine nc zg (nc zh (nc zj (nc ze ?_)));exact aT ⟨.inr rfl,rfl⟩
theorem a3M (W:World) (t:Tm):AFun Tryz.prog W 141 [t.cw] (.val (.lst (t.ps.map Tm.cv))):=by
 refine b9 (rs:=[.lst (t.ps.map Tm.cv)]) Tryz.func141 Tryz.ntmps141 rfl rfl rfl rfl ?_;intro w U hW;refine aS (aR ?_);refine nc zd (nc ze ?_);refine aS (aS (aR ?_));refine nc zy (nc (zw (z:=L9 w t)) ?_);refine aC rfl (fun hc=>?_) (fun hc=>?_)
 ·have hf:t.f<0:=by simpa using hc
  rw [Tm.ps_of_var hf];refine aS (aR ?_);refine nc ze ?_;exact aT ⟨.inr rfl,rfl⟩
 ·have hf:¬ t.f<0:=by simpa using hc
  rw [Tm.ps_of_sym (by omega)];refine aK ?_;refine aS (aR ?_);refine nc zg (nc zh (nc ze ?_));exact aT ⟨.inr rfl,rfl⟩
theorem a6N (s:Sc) (n:Nat) (hb:Bds s n) (hn:n<=1000000000000) (v σ:Int) (hσ:σ=1\/σ = -1) (hm:s.mp=[]):r7 Tryz.prog 156 (c1Y s.sz s.sp s.lk) [.bp 350001 0 [],.val (.i v),.val (.i σ)] (.tup []) (b9V s.sz (C4 s v σ).mp (C4 s v σ).sp (C4 s v σ).lk):=by
 have hb2:=hb.sp;have hb3:=hb.lk;have hb4:=hb.at_ v;have hg:C6 [] v=C6 s.mp v:=by rw [hm]
 obtain ⟨was,hwas⟩:∃ was,was=C6 s.mp v:=⟨_,rfl⟩
 rw [<-hwas] at hb4;refine l8 Tryz.func156 Tryz.ntmps156 rfl rfl rfl rfl rfl rfl ?_;intro w U hU;refine aS (aS (aR ?_));refine nc zl (nc z8 (nc zg (nc z9 (nc zbu ?_))));refine aC rfl (fun hc=>?_) (fun hc=>by cases hc);refine aR ?_;refine nc zl (ne (zbv 300002) (nc z8 (nc zg (nc zbd ?_))));refine aS (aR ?_);refine ne zl (ne z8 ?_)
 (first | (refine nx (aF (gN rfl) rfl rfl rfl rfl rfl rfl rfl rfl rfl) (by first | rfl | kernel_rfl) ?_) | (refine nx (L5 (gN rfl) rfl rfl rfl rfl rfl rfl rfl rfl rfl rfl rfl) (by first | rfl | kernel_rfl) ?_) | (refine nx (W0 (gN rfl) rfl rfl rfl rfl rfl rfl rfl rfl rfl) (by first | rfl | kernel_rfl) ?_))
 (first | (refine nx (aL (gN rfl) rfl rfl rfl rfl rfl rfl rfl rfl rfl rfl rfl rfl) (by first | rfl | kernel_rfl) ?_) | (refine nx (L8 (gN rfl) rfl rfl rfl rfl rfl rfl rfl rfl rfl rfl rfl rfl rfl) (by first | rfl | kernel_rfl) ?_) | (refine nx (aLb (gN rfl) rfl rfl rfl rfl rfl rfl rfl rfl rfl rfl rfl rfl) (by first | rfl | kernel_rfl) ?_) | (refine nx (P0 (gN rfl) rfl rfl rfl rfl rfl rfl rfl rfl rfl) (by first | rfl | kernel_rfl) ?_) | (refine nx (L3 (gN rfl) rfl rfl rfl rfl rfl rfl rfl rfl rfl) (by first | rfl | kernel_rfl) ?_) | (refine nx (aLf (gN rfl) rfl rfl rfl rfl rfl rfl rfl rfl rfl rfl rfl rfl rfl) (by first | rfl | kernel_rfl) ?_) | (refine nx (a_load_fullv (gN rfl) rfl rfl rfl rfl rfl rfl rfl rfl rfl) (by first | rfl | kernel_rfl) ?_))
 refine ne zl (ne (zbw (H :=  a1b [])) (ne ze ?_));refine AWp.wk (a7 (s':=[(0,AV.bp 350001 0 []),(1,.val (.i v)),(2,.val (.i σ)),(6,.val (.i was)),(450001,.obj),(35500100,.val (.i s.sz)),(35500101,.mref 300002),(35500102,.val (.i s.sp)),(35500103,.val (.i s.lk)),(300002,.mp (([]:List (Int×Int)).map mrv))]) ⟨rfl,rfl,rfl,?_,rfl,rfl,rfl,rfl,rfl,rfl,trivial⟩) ?_
 ·rw [hwas,<-hg];rfl
 refine aS (aR ?_);refine nc zl (nc zl (nc zu (nc ze ?_)));refine aS (aR ?_);refine ne zl (ne z8 ?_)
 (first | (refine nx (aF (gN rfl) rfl rfl rfl rfl rfl rfl rfl rfl rfl) (by first | rfl | kernel_rfl) ?_) | (refine nx (L5 (gN rfl) rfl rfl rfl rfl rfl rfl rfl rfl rfl rfl rfl) (by first | rfl | kernel_rfl) ?_) | (refine nx (W0 (gN rfl) rfl rfl rfl rfl rfl rfl rfl rfl rfl) (by first | rfl | kernel_rfl) ?_))
 (first | (refine nx (aL (gN rfl) rfl rfl rfl rfl rfl rfl rfl rfl rfl rfl rfl rfl) (by first | rfl | kernel_rfl) ?_) | (refine nx (L8 (gN rfl) rfl rfl rfl rfl rfl rfl rfl rfl rfl rfl rfl rfl rfl) (by first | rfl | kernel_rfl) ?_) | (refine nx (aLb (gN rfl) rfl rfl rfl rfl rfl rfl rfl rfl rfl rfl rfl rfl) (by first | rfl | kernel_rfl) ?_) | (refine nx (P0 (gN rfl) rfl rfl rfl rfl rfl rfl rfl rfl rfl) (by first | rfl | kernel_rfl) ?_) | (refine nx (L3 (gN rfl) rfl rfl rfl rfl rfl rfl rfl rfl rfl) (by first | rfl | kernel_rfl) ?_) | (refine nx (aLf (gN rfl) rfl rfl rfl rfl rfl rfl rfl rfl rfl rfl rfl rfl rfl) (by first | rfl | kernel_rfl) ?_) | (refine nx (a_load_fullv (gN rfl) rfl rfl rfl rfl rfl rfl rfl rfl rfl) (by first | rfl | kernel_rfl) ?_))
 refine ne zl (ne zl (ne (zbh (G:=a1b [])) ?_));refine aS (aR ?_);refine nc zl (nc z8 (nc zg (nc z9 (nc zl (nc zH (nc zl (nc zH (nc zj (nc zu (nc z8 (nc zg (nc zbd ?_))))))))))));refine aR ?_;refine nc zl (nc z8 (nc zg (nc z9 (nc zl (nc zbx (nc zH (nc zl (nc zbx (nc zH (nc zj (nc zu (nc z8 (nc zg (nc zbd ?_))))))))))))));refine ⟨.inl rfl,_,(a7 (s':=[(450001,.obj),(35500100,.val (.i s.sz)),(35500101,.mref 300002),(35500102,.val (.i (C4 s v σ).sp)),(35500103,.val (.i (C4 s v σ).lk)),(300002,.mp ((C4 s v σ).mp.map mrv))]) ⟨rfl,rfl,rfl,?_,?_,?_,trivial⟩).trans (A3 300002 300001 rfl rfl (by kernel_rfl) (by kernel_rfl)),rfl,rfl,rfl,rfl,rfl,rfl,rfl,trivial⟩
 ·unfold C4;rw [<-hwas];rfl
 ·unfold C4;rw [<-hwas];rfl
 ·unfold C4;simp only;rw [<-hwas,hm,<-b7C];rfl
theorem a6A (s:Sc) (n:Nat) (hb:Bds s n) (hn:n<=1000000000000) (v σ:Int) (hσ:σ=1\/σ = -1):r7 Tryz.prog 156 (b9V s.sz s.mp s.sp s.lk) [.bp 350001 0 [],.val (.i v),.val (.i σ)] (.tup []) (b9V s.sz (C4 s v σ).mp (C4 s v σ).sp (C4 s v σ).lk):=by
 have hb2:=hb.sp;have hb3:=hb.lk;have hb4:=hb.at_ v;obtain ⟨was,hwas⟩:∃ was,was=C6 s.mp v:=⟨_,rfl⟩
 rw [<-hwas] at hb4;refine l8 Tryz.func156 Tryz.ntmps156 rfl rfl rfl rfl rfl rfl ?_;intro w U hU;refine aS (aS (aR ?_));refine nc zl (nc z8 (nc zg (nc z9 (nc zby ?_))));refine aC rfl (fun hc=>by cases hc) (fun hc=>?_);refine aK ?_;refine aS (aR ?_);refine ne zl (ne z8 ?_)
 (first | (refine nx (aF (gN rfl) rfl rfl rfl rfl rfl rfl rfl rfl rfl) (by first | rfl | kernel_rfl) ?_) | (refine nx (L5 (gN rfl) rfl rfl rfl rfl rfl rfl rfl rfl rfl rfl rfl) (by first | rfl | kernel_rfl) ?_) | (refine nx (W0 (gN rfl) rfl rfl rfl rfl rfl rfl rfl rfl rfl) (by first | rfl | kernel_rfl) ?_))
 (first | (refine nx (aL (gN rfl) rfl rfl rfl rfl rfl rfl rfl rfl rfl rfl rfl rfl) (by first | rfl | kernel_rfl) ?_) | (refine nx (L8 (gN rfl) rfl rfl rfl rfl rfl rfl rfl rfl rfl rfl rfl rfl rfl) (by first | rfl | kernel_rfl) ?_) | (refine nx (aLb (gN rfl) rfl rfl rfl rfl rfl rfl rfl rfl rfl rfl rfl rfl) (by first | rfl | kernel_rfl) ?_) | (refine nx (P0 (gN rfl) rfl rfl rfl rfl rfl rfl rfl rfl rfl) (by first | rfl | kernel_rfl) ?_) | (refine nx (L3 (gN rfl) rfl rfl rfl rfl rfl rfl rfl rfl rfl) (by first | rfl | kernel_rfl) ?_) | (refine nx (aLf (gN rfl) rfl rfl rfl rfl rfl rfl rfl rfl rfl rfl rfl rfl rfl) (by first | rfl | kernel_rfl) ?_) | (refine nx (a_load_fullv (gN rfl) rfl rfl rfl rfl rfl rfl rfl rfl rfl) (by first | rfl | kernel_rfl) ?_))
 refine ne zl (ne (zbw (H :=  a1b _)) (ne ze ?_));refine AWp.wk (a7 (s':=[(0,AV.bp 350001 0 []),(1,.val (.i v)),(2,.val (.i σ)),(6,.val (.i was)),(450001,.obj),(35500100,.val (.i s.sz)),(35500101,.mref 300001),(35500102,.val (.i s.sp)),(35500103,.val (.i s.lk)),(300001,.mp (s.mp.map mrv))]) ⟨rfl,rfl,rfl,?_,rfl,rfl,rfl,rfl,rfl,rfl,trivial⟩) ?_
 ·rw [hwas,<-c0Q];rfl
 refine aS (aR ?_);refine nc zl (nc zl (nc zu (nc ze ?_)));refine aS (aR ?_);refine ne zl (ne z8 ?_)
 (first | (refine nx (aF (gN rfl) rfl rfl rfl rfl rfl rfl rfl rfl rfl) (by first | rfl | kernel_rfl) ?_) | (refine nx (L5 (gN rfl) rfl rfl rfl rfl rfl rfl rfl rfl rfl rfl rfl) (by first | rfl | kernel_rfl) ?_) | (refine nx (W0 (gN rfl) rfl rfl rfl rfl rfl rfl rfl rfl rfl) (by first | rfl | kernel_rfl) ?_))
 (first | (refine nx (aL (gN rfl) rfl rfl rfl rfl rfl rfl rfl rfl rfl rfl rfl rfl) (by first | rfl | kernel_rfl) ?_) | (refine nx (L8 (gN rfl) rfl rfl rfl rfl rfl rfl rfl rfl rfl rfl rfl rfl rfl) (by first | rfl | kernel_rfl) ?_) | (refine nx (aLb (gN rfl) rfl rfl rfl rfl rfl rfl rfl rfl rfl rfl rfl rfl) (by first | rfl | kernel_rfl) ?_) | (refine nx (P0 (gN rfl) rfl rfl rfl rfl rfl rfl rfl rfl rfl) (by first | rfl | kernel_rfl) ?_) | (refine nx (L3 (gN rfl) rfl rfl rfl rfl rfl rfl rfl rfl rfl) (by first | rfl | kernel_rfl) ?_) | (refine nx (aLf (gN rfl) rfl rfl rfl rfl rfl rfl rfl rfl rfl rfl rfl rfl rfl) (by first | rfl | kernel_rfl) ?_) | (refine nx (a_load_fullv (gN rfl) rfl rfl rfl rfl rfl rfl rfl rfl rfl) (by first | rfl | kernel_rfl) ?_))
 refine ne zl (ne zl (ne (zbh (G:=a1b _)) ?_));refine aS (aR ?_);refine nc zl (nc z8 (nc zg (nc z9 (nc zl (nc zH (nc zl (nc zH (nc zj (nc zu (nc z8 (nc zg (nc zbd ?_))))))))))));refine aR ?_;refine nc zl (nc z8 (nc zg (nc z9 (nc zl (nc zbx (nc zH (nc zl (nc zbx (nc zH (nc zj (nc zu (nc z8 (nc zg (nc zbd ?_))))))))))))));refine ⟨.inl rfl,_,(a7 (s':=b9V s.sz (C4 s v σ).mp (C4 s v σ).sp (C4 s v σ).lk) ⟨rfl,rfl,rfl,?_,?_,?_,trivial⟩),rfl,rfl,rfl,rfl,rfl,rfl,rfl,trivial⟩
 ·unfold C4;rw [<-hwas];rfl
 ·unfold C4;rw [<-hwas];rfl
 ·unfold C4;simp only;rw [<-hwas,<-b7C];rfl
theorem a8q (s:Sc) (n:Nat) (hb:Bds s n) (hn:n<=1000000000000) (v σ:Int) (hσ:σ=1\/σ = -1):r7 Tryz.prog 156 (sst s) [.bp 350001 0 [],.val (.i v),.val (.i σ)] (.tup []) (sst (C4 s v σ)):=by
 rw [b4K (s:=C4 s v σ) (b8S _ _ _)];by_cases h:s.mp=[]
 ·rw [b4M h];exact a6N s n hb hn v σ hσ h
 ·rw [b4K h];exact a6A s n hb hn v σ hσ
def c3g (σ:Int) (t:Tm):Prop:=∀ (s:Sc) (n:Nat),Bds s n->n+t.size<=1000000000000->r7 Tryz.prog 142 (sst s) [.bp 350001 0 [],.val t.cw,.val (.i σ)] (.tup []) (sst (addT σ s t))
theorem a3Z (σ:Int) (hσ:σ=1\/σ = -1) (l:List Tm) (hl:l.length<=1000000000000) (ih:∀ t∈l,c3g σ t) (s:Sc) (n:Nat) (hb:Bds s n) (hn:n+(l.flatMap Tm.flat).length<=1000000000000):r7 Tryz.prog 145 (sst s) [.bp 350001 0 [],.val (.lst (l.map Tm.cv)),.val (.i σ)] (.tup []) (sst (addL σ s l)):=by
 have hsz:=Tm.size_all l;refine l8 Tryz.func145 Tryz.ntmps145 rfl rfl rfl rfl rfl rfl ?_;intro w U hU;refine aS (aR ?_);refine nc zl (nc zp (nc zl ?_));refine aB (p6 l.length (fun k=>(0,.bp 350001 0 [])::(2,.val (.i σ))::(8,.val (.lst (l.map Tm.cv)))::(9,.val (.i (l.map Tm.cv).length))::(10,.val (.i k))::sst (addL σ s (l.take k))) (a7 ⟨rfl,rfl,rfl,rfl,rfl,rfl,rfl,rfl,rfl,rfl,rfl,trivial⟩) ?_);intro k hk;refine aS (aR ?_);refine nc zi ?_;refine aS (aC rfl (fun hlt=>?_) (fun hlt=>?_))
 ·have hkl:k<l.length:=by simpa using hlt
  obtain ⟨x,hx⟩:∃ x,l[k]?=some x:=⟨l[k],getElem?_eq_getElem hkl⟩
  have hx':=Tm.map_at hx;have hxm:=mem_of_getElem? hx;obtain ⟨sk,hsk⟩:∃ sk,sk=addL σ s (l.take k):=⟨_,rfl⟩
  have hbk:Bds sk (n+((l.take k).flatMap Tm.flat).length):=by rw [hsk];exact hb.addL hσ
  have hnk:n+((l.take k).flatMap Tm.flat).length+x.size<=1000000000000:=by
   have h2:(l.flatMap Tm.flat).length=((l.take k).flatMap Tm.flat).length+((l.drop k).flatMap Tm.flat).length:=by
    conv=>lhs;rw [<-take_append_drop k l]
    rw [flatMap_append,length_append]
   have h3:x.flat.length<=((l.drop k).flatMap Tm.flat).length:=R8 Tm.flat (mem_of_getElem? (i:=0) (by rw [List.getElem?_drop];simpa using hx));unfold Tm.size;omega
  have hstep:=b3L (σ:=σ) (s:=s) hx;rw [<-hsk] at hstep;rw [<-hsk];refine aK ?_;refine aS (aB (aS (aR ?_)));refine nc (zq (j:=k) (H:=hx') (hz:=hsz)) (nc zr (ne zk (nc zo ?_)));refine aR ?_;refine nc zl (nc zy (nc zl (nc (z5 (z:=ih x hxm sk _ hbk hnk) (B:=y7 _) (C:=t8 _) (G:=j5 (by first | rfl | kernel_rfl))) ?_)));refine aR ?_;refine nc zu (nc zl ?_);refine ⟨hkl,a7 ⟨rfl,rfl,rfl,rfl,rfl,rfl,?_,rfl,?_,?_,?_,trivial⟩⟩
  all_goals (rw [hstep];rfl)
 ·have hkl:k=l.length:=by
   have:¬ k<l.length:=by simpa using hlt
   omega
  subst hkl;rw [List.take_length];refine aE ?_;exact ⟨.inl rfl,_,Wk.refl _,rfl,rfl,rfl,rfl,rfl,rfl,rfl,trivial⟩
theorem X5 (σ:Int) (hσ:σ=1\/σ = -1):∀ t:Tm,t.rng->t.ok->c3g σ t:=by
 intro t
 induction t using Tm.ind with
 | h f l ih =>
 intro hr hok s n hb hn;have hok:=(Tm.ok_iff _).1 hok;have hr:=(Tm.rng_iff _).1 hr;simp only at hok hr;have hb1:=hb.sz;have hsp:=Tm.size_pos ⟨f,l⟩;refine l8 Tryz.func142 Tryz.ntmps142 rfl rfl rfl rfl rfl rfl ?_;intro w U hU;refine aS (aR ?_);refine ne zd ?_;refine aS (aR ?_);refine nc zl (nc z8 (nc zg (nc z9 (nc zl (nc zu (nc z8 (nc zg (nc zbd ?_))))))));obtain ⟨s1,hs1⟩:∃ s1:Sc,s1=⟨s.sz+σ,s.mp,s.sp,s.lk⟩:=⟨_,rfl⟩
 have hb':Bds s1 (n+1):=by
  obtain ⟨b1,b2,b3,b4⟩:=hb;rw [hs1];exact ⟨by show _<=s.sz+σ/\s.sz+σ<=_;omega,by simp only;omega,by simp only;omega,fun v=>by have:=b4 v;simp only;omega⟩
 refine AWp.wk (a7 (s':=(0,AV.bp 350001 0 [])::(2,.val (.i σ))::(4,.bp 4 0 [])::(100004,.bx (Tm.cw ⟨f,l⟩))::sst s1) ⟨rfl,rfl,rfl,rfl,rfl,?_,rfl,?_,?_,?_,trivial⟩) ?_
 ·rw [hs1];rfl
 ·rw [hs1];rfl
 ·rw [hs1];rfl
 ·rw [hs1];rfl
 refine aS (aS (aR ?_));refine nc zy ?_;refine nc (zw (z:=L9 w ⟨f,l⟩)) ?_;refine aC rfl (fun hc=>?_) (fun hc=>?_)
 ·have hf:f<0:=by simpa using hc
  rw [b5p (t:=⟨f,l⟩) hf,<-hs1];refine aS (aR ?_);refine nc zl (nc zy ?_);refine nc (zw (z:=a8I w ⟨f,l⟩ hr.1.1 hf)) ?_;refine nc zl (nc (z5 (z:=a8q s1 (n+1) hb' (by omega) (-1-f) σ hσ) (B:=y7 _) (C:=t8 _) (G:=j5 (by first | rfl | kernel_rfl))) ?_);exact aT ⟨.inr rfl,_,Wk.refl _,rfl,rfl,rfl,rfl,rfl,rfl,rfl,trivial⟩
 ·have hf:¬ f<0:=by simpa using hc
  rw [b5Q (t:=⟨f,l⟩) hf,<-hs1];have hse:=Tm.size_eq ⟨f,l⟩;rw [Tm.ps_of_sym (t:=⟨f,l⟩) (by show 0<=f;omega)] at hse;simp only at hse;have hlen:=Tm.len_ps ⟨f,l⟩;rw [Tm.ps_of_sym (t:=⟨f,l⟩) (by show 0<=f;omega)] at hlen;simp only at hlen;refine aK ?_;refine aR ?_;refine nc zl (nc zg (nc zh (nc zl ?_)));refine nc (z5 (z:=a3Z σ hσ l (by omega) (fun t ht=>ih t ht (hr.2 t ht) (hok.2 t ht)) s1 (n+1) hb' (by omega)) (B:=y7 _) (C:=t8 _) (G:=j5 (by first | rfl | kernel_rfl))) ?_;exact ⟨.inl rfl,_,Wk.refl _,rfl,rfl,rfl,rfl,rfl,rfl,rfl,trivial⟩
theorem a2n (σ:Int) (hσ:σ=1\/σ = -1) (l:List Tm) (hl:l.length<=1000000000000) (hr:∀ t∈l,t.rng/\t.ok) (s:Sc) (n:Nat) (hb:Bds s n) (hn:n+(l.flatMap Tm.flat).length<=1000000000000):r7 Tryz.prog 145 (sst s) [.bp 350001 0 [],.val (.lst (l.map Tm.cv)),.val (.i σ)] (.tup []) (sst (addL σ s l)):=
 a3Z σ hσ l hl (fun t ht=>X5 σ hσ t (hr t ht).1 (hr t ht).2) s n hb hn
def b4Q (s:Sc) (w:Int):Int:=if s.sz≠0 then J5 s.sz 0 else w
def vdS (s:Sc) (w:Int):Int:=if (b4Q s w=1/\0<s.lk)\/(b4Q s w = -1/\0<s.sp) then 2 else b4Q s w
theorem R2 (s:Sc) (x:Int):r7 Tryz.prog 143 (sst s) [.bp 350001 0 [],.val (.i x)] (.val (.i (vdS s x))) (sst s):=by
 refine l8 Tryz.func143 Tryz.ntmps143 rfl rfl rfl rfl rfl rfl ?_;intro w U hU;refine aS (aR ?_);refine nc ze ?_;refine aS (aR ?_);refine nc zl (nc ze ?_);refine a3u ((0,AV.bp 350001 0 [])::(5,.val (.i (b4Q s x)))::sst s) ?_ ?_
 ·unfold b4Q;refine aS (aR ?_);refine nc zl (nc z8 (nc zg (nc z9 (nc zba ?_))));refine aC rfl (fun hc=>?_) (fun hc=>?_)
  ·have h:s.sz≠0:=by simpa using hc
   rw [if_pos h];refine aR ?_;refine nc zl (nc z8 (nc zg (nc z9 (nc (zw (z:=a3V w s.sz 0)) (nc ze ?_)))));exact a7 ⟨rfl,rfl,rfl,rfl,rfl,rfl,rfl,rfl,trivial⟩
  ·have h:¬ s.sz≠0:=by simpa using hc
   rw [if_neg h];refine aK ?_;exact a7 ⟨rfl,rfl,rfl,rfl,rfl,rfl,rfl,rfl,trivial⟩
 unfold vdS;generalize b4Q s x=o;by_cases h1:o=1
 ·subst h1;by_cases h2:0<s.lk
  ·have g:decide (s.lk>0)=true:=by simpa using h2
   rw [if_pos (.inl ⟨rfl,h2⟩)];refine aS (aS (aR ?_));refine nc zl (nc zt (nc zl (nc (zl (p:=gb)) (nc (z8 (r:=gb)) (nc (zg (r:=gb)) (nc (z9 (r:=gb)) (nc (zK (r:=gb)) (nc zP (nc zl (nc zbz (nc zbz (nc zbz (nc (zbz (p:=X6 rfl rfl rfl rfl)) (nc (zbz (p:=X6 rfl rfl rfl rfl)) (nc (zbz (p:=X6 rfl rfl rfl rfl)) (nc (zbz (p:=X6 rfl rfl rfl rfl)) (nc (zbz (p:=X6 rfl rfl rfl rfl)) (nc zbz (nc zP ?_)))))))))))))))))));refine aC rfl (fun hc=>?_) (fun hc=>by cases hc);refine aS (aR ?_);refine nc ze ?_;exact aT ⟨.inr rfl,_,Wk.refl _,rfl,rfl,rfl,rfl,rfl,rfl,rfl,trivial⟩
  ·have g:decide (s.lk>0)=false:=by simpa using h2
   rw [if_neg (by omega)];refine aS (aS (aR ?_));refine nc zl (nc zt (nc zl (nc (zl (p:=gb)) (nc (z8 (r:=gb)) (nc (zg (r:=gb)) (nc (z9 (r:=gb)) (nc (zK (r:=gb)) (nc zP (nc zl (nc (zl (p:=gb)) (nc (zt (r:=gb)) (nc (zl (p:=gb)) (nc zbz (nc zbz (nc zbz (nc zbz (nc zbz (nc (zS (r:=gb)) (nc zS ?_)))))))))))))))))));refine aC rfl (fun hc=>by cases hc) (fun hc=>aK ?_);refine aS (aR ?_);refine nc zl (nc ze ?_);exact aT ⟨.inr rfl,_,Wk.refl _,rfl,rfl,rfl,rfl,rfl,rfl,rfl,trivial⟩
 ·have g1:decide (o=1)=false:=by simpa using h1
  by_cases h2:o = -1
  ·subst h2;by_cases h3:0<s.sp
   ·have g:decide (s.sp>0)=true:=by simpa using h3
    rw [if_pos (.inr ⟨rfl,h3⟩)];refine aS (aS (aR ?_));refine nc zl (nc zt (nc zl (nc zbz (nc zbz (nc zbz (nc zbz (nc zbz (nc zS (nc zl (nc (zl (p:=gb)) (nc (zt (r:=gb)) (nc (zl (p:=gb)) (nc (zl (p:=gb)) (nc (z8 (r:=gb)) (nc (zg (r:=gb)) (nc (z9 (r:=gb)) (nc (zK (r:=gb)) (nc (zP (r:=gb)) (nc zS ?_)))))))))))))))))));refine aC rfl (fun hc=>?_) (fun hc=>by rw [g] at hc;cases hc);refine aS (aR ?_);refine nc ze ?_;exact aT ⟨.inr rfl,_,Wk.refl _,rfl,rfl,rfl,rfl,rfl,rfl,rfl,trivial⟩
   ·have g:decide (s.sp>0)=false:=by simpa using h3
    rw [if_neg (by omega)];refine aS (aS (aR ?_));refine nc zl (nc zt (nc zl (nc zbz (nc zbz (nc zbz (nc zbz (nc zbz (nc zS (nc zl (nc (zl (p:=gb)) (nc (zt (r:=gb)) (nc (zl (p:=gb)) (nc (zl (p:=gb)) (nc (z8 (r:=gb)) (nc (zg (r:=gb)) (nc (z9 (r:=gb)) (nc (zK (r:=gb)) (nc (zP (r:=gb)) (nc zS ?_)))))))))))))))))));refine aC rfl (fun hc=>by rw [g] at hc;cases hc) (fun hc=>aK ?_);refine aS (aR ?_);refine nc zl (nc ze ?_);exact aT ⟨.inr rfl,_,Wk.refl _,rfl,rfl,rfl,rfl,rfl,rfl,rfl,trivial⟩
  ·have g2:decide (o = -1)=false:=by simpa using h2
   rw [if_neg (by omega)];refine aS (aS (aR ?_));refine nc zl (nc zt (nc zl (nc zbz (nc zbz (nc zbz (nc zbz (nc zbz (nc zS (nc zl (nc (zl (p:=gb)) (nc (zt (r:=gb)) (nc (zl (p:=gb)) (nc zbz (nc zbz (nc zbz (nc zbz (nc zbz (nc (zS (r:=gb)) (nc zS ?_)))))))))))))))))));refine aC rfl (fun hc=>by cases hc) (fun hc=>aK ?_);refine aS (aR ?_);refine nc zl (nc ze ?_);exact aT ⟨.inr rfl,_,Wk.refl _,rfl,rfl,rfl,rfl,rfl,rfl,rfl,trivial⟩
def orL:List Int->Int
 | []=>0
 | x::l=>if x≠0 then x else orL l
theorem b7n:∀ {l:List Int} {k:Nat} {x:Int},l[k]?=some x->x≠0->(∀ j y,j<k->l[j]?=some y->y=0)->orL l=x
 | [],k,x,h,_,_=>by simp at h
 | y::l,0,x,h,hx,_=>by
  simp at h;subst h;rw [orL,if_pos hx]
 | y::l,k+1,x,h,hx,hi=>by
  rw [orL,if_neg (by have:=hi 0 y (by omega) rfl;omega)];exact b7n (by simpa using h) hx fun j z hj hz=>hi (j+1) z (by omega) (by simpa using hz)
theorem b0b:∀ {l:List Int},(∀ x∈l,x=0)->orL l=0
 | [],_=>rfl
 | x::l,h=>by
  rw [orL,if_neg (by have:=h x (by simp);omega)];exact b0b fun y hy=>h y (mem_cons_of_mem _ hy)
theorem b9I (W:World) (l:List Int) (hl:l.length<=1000000000):AFun Tryz.prog W 158 [.lst (l.map CV.i)] (.val (.i (orL l))):=by
 have hsz:=q9 l;refine b9 (rs:=[.i (orL l)]) Tryz.func158 Tryz.ntmps158 rfl rfl rfl rfl ?_;intro w U hW;refine aS (aR ?_);refine nc ze ?_;refine aS (aR ?_);refine nc ze ?_;refine aS (aS (aR ?_));refine nc zl (nc zp (nc zl ?_));refine aB (y9 l.length (fun k=>∀ j y,j<k->l[j]?=some y->y=0) (fun k=>[(3,.val (.i 0)),(6,.val (.lst (l.map CV.i))),(7,.val (.i (l.map CV.i).length)),(8,.val (.i k))]) (a7 ⟨rfl,rfl,rfl,rfl,trivial⟩) (fun j c hj=>by omega) ?_);intro k hk hI;refine aS (aR ?_);refine nc zi ?_;refine aS (aC rfl (fun hlt=>?_) (fun hlt=>?_))
 ·have hkl:k<l.length:=by simpa using hlt
  obtain ⟨x,hx⟩:∃ x,l[k]?=some x:=⟨l[k],getElem?_eq_getElem hkl⟩
  have hx':(l.map CV.i)[k]?=some (CV.i x):=by rw [List.getElem?_map,hx];rfl
  refine aK ?_;refine aS (aB (aS (aR ?_)));refine nc (zq (j:=k) (H:=hx') (hz:=hsz)) (nc zr (nc ze ?_));refine aS (aR ?_);refine nc zl (nc zl (nc zba ?_));refine aC rfl (fun hq=>?_) (fun hq=>?_)
  ·have hq:x≠0:=by simpa using hq
   refine aS (aR ?_);refine nc zl (nc ze ?_);rw [b7n hx hq hI];exact aT ⟨.inr rfl,rfl⟩
  ·have hq:x=0:=by simpa using hq
   refine aK ?_;refine aR ?_;refine nc zu (nc zl ?_);refine ⟨hkl,fun j c hj hc=>?_,a7 ⟨rfl,rfl,rfl,rfl,trivial⟩⟩;rcases Nat.lt_or_ge j k with h | h
   ·exact hI j c h hc
   ·have:j=k:=by omega
    subst this;rw [hx] at hc;cases hc;exact hq
 ·have hkl:¬ k<l.length:=by simpa using hlt
  rw [b0b (l:=l) fun x hx=>?_]
  ·refine aE ?_;refine aS (aR ?_);refine nc zl (nc ze ?_);exact aT ⟨.inr rfl,rfl⟩
  ·obtain ⟨j,hj⟩:=List.getElem?_of_mem hx;have hjl:j<l.length:=by
    rcases Nat.lt_or_ge j l.length with h | h
    ·exact h
    ·rw [getElem?_eq_none h] at hj;cases hj
   exact hI j x (by omega) hj
theorem c2q {a b:Tm} (h:¬ (a.f<0\/b.f<0)):hdK a b=orL [J5 a.f b.f,J5 a.l.length b.l.length]:=by
 unfold hdK;rw [if_neg h];simp only [orL];rcases o5 a.f b.f with h1 | h1 | h1
 ·rw [if_pos (by omega),if_pos (by omega)]
 ·rw [if_neg (by omega),if_neg (by omega)];split
  ·rfl
  ·omega
 ·rw [if_pos (by omega),if_pos (by omega)]
theorem a3q (W:World) (a b:Tm):AFun Tryz.prog W 144 [a.cw,b.cw] (.val (.i (hdK a b))):=by
 refine b9 (rs:=[.i (hdK a b)]) Tryz.func144 Tryz.ntmps144 rfl rfl rfl rfl ?_;intro w U hW;refine aS (aR ?_);refine nc zd (nc zd (nc ze ?_));by_cases ha:a.f<0
 ·have g:decide (a.f<0)=true:=by simpa using ha
  refine aS (aS (aR ?_));refine nc zy (nc (zw (z:=L9 w a)) (nc zl (nc zR (nc zR (nc zP ?_)))));refine aC rfl (fun hc=>?_) (fun hc=>by cases hc);unfold hdK;rw [if_pos (.inl ha)];refine aS (aR ?_);refine nc ze ?_;exact aT ⟨.inr rfl,rfl⟩
 have g:decide (a.f<0)=false:=by simpa using ha
 refine aS (aS (aR ?_));refine nc zy (nc (zw (z:=L9 w a)) (nc zl (nc (zy (p:=gb)) (nc (zw (p:=gb) (z:=L9 w b)) (nc zS ?_)))));refine aC rfl (fun hc=>?_) (fun hc=>?_)
 ·have hb:b.f<0:=by simpa using hc
  unfold hdK;rw [if_pos (.inr hb)];refine aS (aR ?_);refine nc ze ?_;exact aT ⟨.inr rfl,rfl⟩
 ·have hb:¬ b.f<0:=by simpa using hc
  rw [c2q (by omega)];have e1:(a.l.map Tm.cv).length=a.l.length:=length_map ..;have e2:(b.l.map Tm.cv).length=b.l.length:=length_map ..;refine aK ?_;refine aS (aD (by kernel_rfl) (by kernel_rfl) ?_);refine nc zg (nc zh (nc zg (nc zh (nc (zw (z:=a3V w a.f b.f)) (nc zg (nc zh (nc zp (nc zg (nc zh (nc zp (nc (zw (z:=a3V w _ _)) (nc zD (nc (zw (z:=b9I w [_,_] (by simp))) (nc ze ?_))))))))))))));refine ⟨by kernel_rfl,?_⟩;rw [e1,e2];exact aT ⟨.inr rfl,rfl⟩
def emp:Sc:=⟨0,[],0,0⟩
noncomputable def a8h (c:Int) (s:Sc) (l m:List Tm) (r:Sc):Sc:=if c≠0 then addL (-1) (addL 1 s l) m else r
noncomputable def scS (p:Tm):Tm->Sc:=
 Tm.rec (motive_1:=fun _=>Tm->Sc) (motive_2:=fun _=>List Tm->Sc)
  (fun f l ih t=>if f≠t.f\/(Tm.mk f l).ps.length≠t.ps.length then addT (-1) (addT 1 emp ⟨f,l⟩) t else if f<0 then emp else ih t.l)
  (fun _=>emp)
  (fun x l ih1 ih2 ts=>match ts with | []=>emp | t::ts=>a8h (kb x t) (ih1 t) l ts (ih2 ts)) p
noncomputable def scs (ps:List Tm):List Tm->Sc:=
 Tm.rec_1 (motive_1:=fun _=>Tm->Sc) (motive_2:=fun _=>List Tm->Sc)
  (fun f l ih t=>if f≠t.f\/(Tm.mk f l).ps.length≠t.ps.length then addT (-1) (addT 1 emp ⟨f,l⟩) t else if f<0 then emp else ih t.l)
  (fun _=>emp)
  (fun x l ih1 ih2 ts=>match ts with | []=>emp | t::ts=>a8h (kb x t) (ih1 t) l ts (ih2 ts)) ps
theorem b8C (m:List Tm):scs [] m=emp:=rfl
theorem a4o (x:Tm) (l:List Tm) (y:Tm) (m:List Tm):scs (x::l) (y::m)=a8h (kb x y) (scS x y) l m (scs l m):=rfl
theorem b1t {a b:Tm} (h:a.f≠b.f\/a.ps.length≠b.ps.length):scS a b=addT (-1) (addT 1 emp a) b:=by
 cases a;show (if _ then _ else _)=_;rw [if_pos h]
theorem b1u {a b:Tm} (h:¬ (a.f≠b.f\/a.ps.length≠b.ps.length)):scS a b=scs a.ps b.ps:=by
 cases a with
 | mk f l =>
  show (if _ then _ else _)=_;rw [if_neg h];by_cases hf:f<0
  ·rw [if_pos hf,Tm.ps_of_var (t:=⟨f,l⟩) hf,b8C]
  ·rw [if_neg hf,Tm.ps_of_sym (t:=⟨f,l⟩) (by show 0<=f;omega),Tm.ps_of_sym (t:=b) (by have:=Classical.not_not.1 (fun e=>h (.inl e));simp only at this;omega)];rfl
theorem b1D:∀ {l m:List Tm} {k:Nat} {x y:Tm},l[k]?=some x->m[k]?=some y->kb x y≠0->(∀ j u v,j<k->l[j]?=some u->m[j]?=some v->kb u v=0)->scs l m=addL (-1) (addL 1 (scS x y) (l.drop (k+1))) (m.drop (k+1))/\kbs l m=kb x y
 | [],_,k,x,y,h,_,_,_=>by simp at h
 | _::_,[],k,x,y,_,h,_,_=>by simp at h
 | u::l,v::m,0,x,y,h1,h2,hne,_=>by
  simp at h1 h2;subst h1;subst h2;rw [a4o,A5];unfold a8h N8;rw [if_pos hne,if_pos hne];exact ⟨rfl,rfl⟩
 | u::l,v::m,k+1,x,y,h1,h2,hne,hi=>by
  have h0:=hi 0 u v (by omega) rfl rfl;rw [a4o,A5];unfold a8h N8;rw [if_neg (by omega),if_neg (by omega)];exact b1D (by simpa using h1) (by simpa using h2) hne fun j u v hj hu hv=>hi (j+1) u v (by omega) (by simpa using hu) (by simpa using hv)
theorem a4u:∀ {l m:List Tm},(∀ (j:Nat) u v,l[j]?=some u->m[j]?=some v->kb u v=0)->scs l m=emp/\kbs l m=0
 | [],_,_=>⟨rfl,rfl⟩
 | _::_,[],_=>⟨rfl,rfl⟩
 | u::l,v::m,hi=>by
  have h0:=hi 0 u v rfl rfl;rw [a4o,A5];unfold a8h N8;rw [if_neg (by omega),if_neg (by omega)];exact a4u fun j u v hu hv=>hi (j+1) u v (by simpa using hu) (by simpa using hv)
theorem emp_ss:Ss emp 0 fun _=>0:=⟨rfl,by simp [ndk,emp],rfl,rfl,fun _=>rfl⟩
theorem emp_bds:Bds emp 0:=⟨by simp [emp],by simp [emp],by simp [emp],fun _=>by simp [emp,C6,B5]⟩
def vD (a b:Tm) (v:Int):Int:=(a.vs.count v:Int)-b.vs.count v
theorem b0e:∀ (l m:List Tm),l.length=m.length->(∃ (k:Nat) (x y:Tm),l[k]?=some x/\m[k]?=some y/\kb x y≠0/\∀ (j:Nat) u v,j<k->l[j]?=some u->m[j]?=some v->kb u v=0)\/∀ (j:Nat) u v,l[j]?=some u->m[j]?=some v->kb u v=0
 | [],_,_ => .inr fun j u v h=>by simp at h
 | _::_,[],h=>by simp at h
 | u::l,v::m,h=>by
  by_cases h0:kb u v=0
  ·rcases b0e l m (by simpa using h) with ⟨k,x,y,h1,h2,h3,h4⟩ | h1
   ·left;refine ⟨k+1,x,y,by simpa using h1,by simpa using h2,h3,fun j u' v' hj hu hv=>?_⟩;cases j with
    | zero=>simp at hu hv;subst hu;subst hv;exact h0
    | succ j=>exact h4 j u' v' (by omega) (by simpa using hu) (by simpa using hv)
   ·right;intro j u' v' hu hv;cases j with
    | zero=>simp at hu hv;subst hu;subst hv;exact h0
    | succ j=>exact h1 j u' v' (by simpa using hu) (by simpa using hv)
  ·left;exact ⟨0,u,v,rfl,rfl,h0,fun j u v hj=>by omega⟩
theorem a0N:∀ {l m:List Tm} {k:Nat},k<=l.length->l.length=m.length->(∀ j u v,j<k->l[j]?=some u->m[j]?=some v->kb u v=0)->((l.take k).flatMap Tm.flat).length=((m.take k).flatMap Tm.flat).length/\(l.take k).flatMap Tm.vs=(m.take k).flatMap Tm.vs
 | _,_,0,_,_,_=>by simp
 | [],_,k+1,h,_,_=>by simp at h
 | _::_,[],k+1,_,h,_=>by simp at h
 | u::l,v::m,k+1,h,hl,hi=>by
  have h0:=(H3 u v).1 (hi 0 u v (by omega) rfl rfl);obtain ⟨h1,h2⟩:=a0N (l:=l) (m:=m) (k:=k) (by simpa using h) (by simpa using hl) fun j u v hj hu hv=>hi (j+1) u v (by omega) (by simpa using hu) (by simpa using hv);have h3:u.flat.length=v.flat.length:=by have:=congrArg Tm.size h0;rw [Tm.strip_size,Tm.strip_size] at this;exact this
  have h4:u.vs=v.vs:=by have:=congrArg Tm.vs h0;rw [Tm.strip_vs,Tm.strip_vs] at this;exact this
  rw [List.take_succ_cons,List.take_succ_cons,flatMap_cons,flatMap_cons,flatMap_cons,flatMap_cons,length_append,length_append,h1,h2,h3,h4];exact ⟨rfl,rfl⟩
theorem Y3 {l:List Tm} {k:Nat} {x:Tm} (h:l[k]?=some x):(l.flatMap Tm.flat).length=((l.take k).flatMap Tm.flat).length+(x.size+((l.drop (k+1)).flatMap Tm.flat).length)/\∀ v,(l.flatMap Tm.vs).count v=((l.take k).flatMap Tm.vs).count v+(x.vs.count v+((l.drop (k+1)).flatMap Tm.vs).count v):=by
 obtain ⟨h1,_⟩:=b5o h;constructor
 ·conv=>lhs;rw [h1]
  rw [flatMap_append,flatMap_cons,length_append,length_append];rfl
 ·intro v
  conv=>lhs;rw [h1]
  rw [flatMap_append,flatMap_cons,List.count_append,List.count_append]
theorem a9d (a:Tm):∀ b,Bds (scS a b) (a.size+b.size)/\(kb a b=0->scS a b=emp)/\(kb a b≠0->Ss (scS a b) (szD a b) (vD a b)):=by
 induction a using Tm.indp with
 | h a ih =>
  intro b;by_cases h:a.f≠b.f\/a.ps.length≠b.ps.length
  ·rw [b1t h];have h1:Bds (addT (-1) (addT 1 emp a) b) (0+a.size+b.size):=(emp_bds.addT (.inl rfl)).addT (.inr rfl);refine ⟨by rw [Nat.zero_add] at h1;exact h1,fun h2=>?_,fun _=>?_⟩
   ·rw [N3,A6] at h2;unfold wi at h2;rw [if_pos h] at h2;exact absurd h2 (b4J h)
   ·have h2:=(emp_ss.fold (σ:=1) (l:=a.flat)).fold (σ := -1) (l:=b.flat);refine ⟨?_,h2.nd,h2.sp,h2.lk,fun v=>?_⟩
    ·refine h2.sz.trans ?_;unfold szD Tm.size;omega
    ·refine (h2.at_ v).trans ?_;unfold vD Tm.vs;omega
  ·rw [b1u h];have hw:wi a b=kbs a.ps b.ps:=by unfold wi;rw [if_neg h]
   have hll:a.ps.length=b.ps.length:=by omega
   rcases b0e a.ps b.ps hll with ⟨k,x,y,h1,h2,h3,h4⟩ | h1
   ·obtain ⟨e1,e2⟩:=b1D h1 h2 h3 h4;obtain ⟨b1,b2,b3⟩:=ih x (mem_of_getElem? h1) y;have hk:k<a.ps.length:=by
     rcases Nat.lt_or_ge k a.ps.length with h | h
     ·exact h
     ·rw [getElem?_eq_none h] at h1;cases h1
    obtain ⟨v1,v2⟩:=a0N (Nat.le_of_lt hk) hll h4;obtain ⟨l1,l2⟩:=Y3 h1;obtain ⟨m1,m2⟩:=Y3 h2;have sa:=a.size_eq;have sb:=b.size_eq;rw [e1];refine ⟨?_,fun h5=>?_,fun h5=>?_⟩
    ·have hB:=((b1.addL (.inl rfl) (l:=a.ps.drop (k+1))).addL (.inr rfl) (l:=b.ps.drop (k+1)))
     obtain ⟨q1,q2,q3,q4⟩:=hB;exact ⟨by omega,by omega,by omega,fun v=>by have:=q4 v;omega⟩
    ·rw [N3,A6,hw,e2] at h5;exact absurd h5 h3
    ·have h6:=((b3 h3).fold (σ:=1) (l:=(a.ps.drop (k+1)).flatMap Tm.flat)).fold (σ := -1) (l:=(b.ps.drop (k+1)).flatMap Tm.flat);refine ⟨?_,h6.nd,h6.sp,h6.lk,fun v=>?_⟩
     ·refine h6.sz.trans ?_;unfold szD;omega
     ·refine (h6.at_ v).trans ?_;rw [V7,V7];have p1:=l2 v;have p2:=m2 v;rw [<-v2] at p2;have hf:a.f=b.f:=by omega
      have ha:a.vs=a.ps.flatMap Tm.vs:=by
       by_cases hv:a.f<0
       ·rw [Tm.ps_of_var hv] at hk;simp at hk
       ·rw [Tm.vs_sym hv,Tm.ps_of_sym (by omega)]
      have hb:b.vs=b.ps.flatMap Tm.vs:=by
       by_cases hv:b.f<0
       ·rw [Tm.ps_of_var (t:=a) (by omega)] at hk;simp at hk
       ·rw [Tm.vs_sym hv,Tm.ps_of_sym (by omega)]
      unfold vD;rw [ha,hb];omega
   ·obtain ⟨e1,e2⟩:=a4u h1;rw [e1];refine ⟨?_,fun _=>rfl,fun h5=>?_⟩
    ·obtain ⟨q1,q2,q3,q4⟩:=emp_bds;exact ⟨by omega,by omega,by omega,fun v=>by have:=q4 v;omega⟩
    ·exfalso;apply h5;rw [N3,A6,hw,e2]
theorem b5S (z w:Int):(if z≠0 then J5 z 0 else w)=b2d z w:=by
 unfold b2d;rcases o5 z 0 with h | h | h
 ·rw [if_pos (by omega),if_neg (by omega),if_pos (by omega),h.1]
 ·rw [if_neg (by omega),if_neg (by omega),if_neg (by omega)]
 ·rw [if_pos (by omega),if_pos (by omega),h.1]
theorem b2I {s:Sc} {a b:Tm} (h:Ss s (szD a b) (vD a b)) {w:Int} (hw:w≠0):vdS s w=a0L (szD a b) (cov a b) (cov b a) w:=by
 have h1:0<s.lk↔¬ cov a b:=by
  obtain ⟨d1,d2⟩:=b5k h.nd;rw [h.lk];have:dnS s.mp=0↔cov a b:=by
   rw [d2];unfold cov;constructor
   ·intro h2 v;have:=h2 v;rw [h.at_] at this;unfold vD at this;omega
   ·intro h2 v;have:=h2 v;rw [h.at_];unfold vD;omega
  rw [<-this];omega
 have h2:0<s.sp↔¬ cov b a:=by
  obtain ⟨d1,d2⟩:=b6D h.nd;rw [h.sp];have:upS s.mp=0↔cov b a:=by
   rw [d2];unfold cov;constructor
   ·intro h2 v;have:=h2 v;rw [h.at_] at this;unfold vD at this;omega
   ·intro h2 v;have:=h2 v;rw [h.at_];unfold vD;omega
  rw [<-this];omega
 unfold vdS a0L b7S b4Q;rw [if_neg hw,h.sz,b5S];by_cases h3:(b2d (szD a b) w=1/\¬ cov a b)\/(b2d (szD a b) w = -1/\¬ cov b a)
 ·rw [if_pos h3,if_pos (by rw [h1,h2];exact h3)]
 ·rw [if_neg h3,if_neg (by rw [h1,h2];exact h3)]
set_option maxHeartbeats 1000000 in
theorem a6O:∀ a:Tm,a.rng->a.ok->a.size<=100000000000->∀ b:Tm,b.rng->b.ok->b.size<=100000000000->r7 Tryz.prog 115 (sst emp) [.bp 350001 0 [],.val a.cw,.val b.cw] (.val (.i (kb a b))) (sst (scS a b)):=by
 intro a
 induction a using Tm.indp with
 | h a ih =>
 intro hr hok has b hbr hbok hbs;have hok':=(Tm.ok_iff _).1 hok;have hr':=(Tm.rng_iff _).1 hr;have hbok':=(Tm.ok_iff _).1 hbok;have hbr':=(Tm.rng_iff _).1 hbr;have hsz:=Tm.size_all a.ps;have hsz2:=Tm.size_all b.ps;have el:(a.ps.map Tm.cv).length=a.ps.length:=length_map ..;have el2:(b.ps.map Tm.cv).length=b.ps.length:=length_map ..;have hla:=a.len_ps;have hlb:=b.len_ps;obtain ⟨S,hS⟩:∃ S,S=scS a b:=⟨_,rfl⟩
 obtain ⟨sp1,sp2,sp3⟩:=a9d a b;refine l8 Tryz.func115 Tryz.ntmps115 rfl rfl rfl rfl rfl rfl ?_;intro w U hU;refine aS (aR ?_);refine nc zd (nc zd (nc ze ?_));refine aS (aD (by kernel_rfl) (by kernel_rfl) ?_);refine nc zy (nc (zw (z:=a3M w a)) (nc zy (nc (zw (z:=a3M w b)) (nc ze (nc ze ?_)))));refine ⟨by kernel_rfl,?_⟩;refine AWp.wk (a7 (s':=(0,AV.bp 350001 0 [])::(4,.bp 4 0 [])::(100004,.bx a.cw)::(5,.bp 5 0 [])::(100005,.bx b.cw)::(7,.val (.lst (a.ps.map Tm.cv)))::(8,.val (.lst (b.ps.map Tm.cv)))::sst emp) ⟨rfl,rfl,rfl,rfl,rfl,rfl,rfl,rfl,rfl,rfl,rfl,rfl,rfl,trivial⟩) ?_;by_cases h:a.f≠b.f\/a.ps.length≠b.ps.length
 case pos =>
  have hw:wi a b=hdK a b:=by unfold wi;rw [if_pos h]
  have hk0:kb a b≠0:=by rw [N3,ne_eq,A6,hw];exact b4J h
  have hres:vdS (addT (-1) (addT 1 emp a) b) (hdK a b)=kb a b:=by
   have:=b2I (w:=hdK a b) (by have:=sp3 hk0;rw [b1t h] at this;exact this) (b4J h);rw [this,N3,hw]
  rw [b1t h];by_cases hf:a.f≠b.f
  ·have g:decide (a.f≠b.f)=true:=by simpa using hf
   refine aS (aS (aR ?_));refine nc zg (nc zh (nc zg (nc zh (nc zba (nc zl (nc zR (nc zR (nc zR (nc zR (nc zR (nc zP ?_)))))))))));refine aC rfl (fun hc=>?_) (fun hc=>by cases hc);refine aS (aR ?_);refine nc zl (nc zy (nc (z5 (z:=X5 1 (.inl rfl) a hr hok emp 0 emp_bds (by omega)) (B:=y7 _) (C:=t8 _) (G:=j5 (by first | rfl | kernel_rfl))) ?_));refine aS (aR ?_);refine nc zl (nc zy (nc (z5 (z:=X5 (-1) (.inr rfl) b hbr hbok (addT 1 emp a) (0+a.size) (emp_bds.addT (.inl rfl)) (by omega)) (B:=y7 _) (C:=t8 _) (G:=j5 (by first | rfl | kernel_rfl))) ?_));refine aS (aR ?_);refine nc zl (nc zy (nc zy (nc (zw (z:=a3q w a b)) (nc (z5 (z:=R2 (addT (-1) (addT 1 emp a) b) (hdK a b)) (B:=y7 _) (C:=t8 _) (G:=j5 (by first | rfl | kernel_rfl))) (nc ze ?_)))));rw [hres];exact aT ⟨.inr rfl,_,Wk.refl _,rfl,rfl,rfl,rfl,rfl,rfl,rfl,trivial⟩
  ·have g:decide (a.f≠b.f)=false:=by simpa using hf
   refine aS (aS (aR ?_));refine nc zg (nc zh (nc zg (nc zh (nc zba (nc zl (nc (zl (p:=gb)) (nc (zp (r:=gb)) (nc (zl (p:=gb)) (nc (zp (r:=gb)) (nc (zba (r:=gb)) (nc zS ?_)))))))))));refine aC rfl (fun hc=>?_) (fun hc=>?_)
   case refine_2 =>
    exfalso;have hc:=of_decide_eq_false hc;simp only [length_map,ne_eq,Decidable.not_not] at hc;omega
   refine aS (aR ?_);refine nc zl (nc zy (nc (z5 (z:=X5 1 (.inl rfl) a hr hok emp 0 emp_bds (by omega)) (B:=y7 _) (C:=t8 _) (G:=j5 (by first | rfl | kernel_rfl))) ?_));refine aS (aR ?_);refine nc zl (nc zy (nc (z5 (z:=X5 (-1) (.inr rfl) b hbr hbok (addT 1 emp a) (0+a.size) (emp_bds.addT (.inl rfl)) (by omega)) (B:=y7 _) (C:=t8 _) (G:=j5 (by first | rfl | kernel_rfl))) ?_));refine aS (aR ?_);refine nc zl (nc zy (nc zy (nc (zw (z:=a3q w a b)) (nc (z5 (z:=R2 (addT (-1) (addT 1 emp a) b) (hdK a b)) (B:=y7 _) (C:=t8 _) (G:=j5 (by first | rfl | kernel_rfl))) (nc ze ?_)))));rw [hres];exact aT ⟨.inr rfl,_,Wk.refl _,rfl,rfl,rfl,rfl,rfl,rfl,rfl,trivial⟩
 case neg =>
  have hf:a.f=b.f:=by omega
  have hll:a.ps.length=b.ps.length:=by omega
  have hw:wi a b=kbs a.ps b.ps:=by unfold wi;rw [if_neg h]
  have g:decide (a.f≠b.f)=false:=by simpa using hf
  refine aS (aS (aR ?_));refine nc zg (nc zh (nc zg (nc zh (nc zba (nc zl (nc (zl (p:=gb)) (nc (zp (r:=gb)) (nc (zl (p:=gb)) (nc (zp (r:=gb)) (nc (zba (r:=gb)) (nc zS ?_)))))))))));refine aC rfl (fun hc=>?_) (fun hc=>?_)
  ·exfalso;have hc:=of_decide_eq_true hc;simp only [length_map,ne_eq] at hc;omega
  refine aK ?_;refine aS (aS (aR ?_));refine nc zl (nc zp (nc zl ?_));refine aB (y9 a.ps.length (fun k=>∀ (j:Nat) u v,j<k->a.ps[j]?=some u->b.ps[j]?=some v->kb u v=0) (fun k=>(0,.bp 350001 0 [])::(7,.val (.lst (a.ps.map Tm.cv)))::(8,.val (.lst (b.ps.map Tm.cv)))::(39,.val (.i (a.ps.map Tm.cv).length))::(40,.val (.i k))::sst emp) (a7 ⟨rfl,rfl,rfl,rfl,rfl,rfl,rfl,rfl,rfl,rfl,rfl,trivial⟩) (fun j u v hj=>by omega) ?_);intro k hk hI;refine aS (aR ?_);refine nc zi ?_;refine aS (aC rfl (fun hlt=>?_) (fun hlt=>?_))
  ·have hkl:k<a.ps.length:=by simpa using hlt
   obtain ⟨x,hx⟩:∃ x,a.ps[k]?=some x:=⟨a.ps[k],getElem?_eq_getElem hkl⟩
   obtain ⟨y,hy⟩:∃ y,b.ps[k]?=some y:=⟨b.ps[k]'(by omega),getElem?_eq_getElem (by omega)⟩
   have hx':=Tm.map_at hx;have hy':=Tm.map_at hy;have hxm:=mem_of_getElem? hx;have hym:=mem_of_getElem? hy;have hxs:=Tm.size_part hxm;have hys:=Tm.size_part hym;have hrec:=ih x hxm (hr'.2 x (Tm.ps_mem hxm).1) (hok'.2 x (Tm.ps_mem hxm).1) (by omega) y (hbr'.2 y (Tm.ps_mem hym).1) (hbok'.2 y (Tm.ps_mem hym).1) (by omega);obtain ⟨q1,q2,q3⟩:=a9d x y;refine aK ?_;refine aS (aB (aS (aR ?_)));refine nc zl (nc ze ?_);refine aS (aD (by kernel_rfl) (by kernel_rfl) ?_);refine nc zl (nc zl (nc zl (nc (zq (j:=k) (H:=hx') (hz:=hsz)) (nc zr (nc zl (nc zl (nc (zq (j:=k) (H:=hy') (hz:=hsz2)) (nc zr (nc (z5 (z:=hrec) (B:=y7 _) (C:=t8 _) (G:=j5 (by first | rfl | kernel_rfl))) (nc ze ?_))))))))));refine ⟨by kernel_rfl,?_⟩;refine aS (aR ?_);refine nc zl (nc zba ?_);refine aC rfl (fun hc=>?_) (fun hc=>?_)
   ·have hne:kb x y≠0:=by simpa using hc
    obtain ⟨e1,e2⟩:=b1D hx hy hne hI;have hk0:kb a b≠0:=by rw [N3,ne_eq,A6,hw,e2];exact hne
    obtain ⟨l1,l2⟩:=Y3 hx;obtain ⟨m1,m2⟩:=Y3 hy;have sa:=a.size_eq;have sb:=b.size_eq;have hA:∀ t∈a.ps.drop (k+1),t.rng/\t.ok:=fun t ht=>⟨hr'.2 t (Tm.ps_mem (mem_of_mem_drop ht)).1,hok'.2 t (Tm.ps_mem (mem_of_mem_drop ht)).1⟩
    have hB:∀ t∈b.ps.drop (k+1),t.rng/\t.ok:=fun t ht=>⟨hbr'.2 t (Tm.ps_mem (mem_of_mem_drop ht)).1,hbok'.2 t (Tm.ps_mem (mem_of_mem_drop ht)).1⟩
    have c1:=a2n 1 (.inl rfl) (a.ps.drop (k+1)) (by rw [length_drop];omega) hA (scS x y) (x.size+y.size) q1 (by omega);have b1:=q1.addL (σ:=1) (.inl rfl) (l:=a.ps.drop (k+1));have c2:=a2n (-1) (.inr rfl) (b.ps.drop (k+1)) (by rw [length_drop];omega) hB _ _ b1 (by omega);rw [List.map_drop] at c1 c2;have hres:vdS (addL (-1) (addL 1 (scS x y) (a.ps.drop (k+1))) (b.ps.drop (k+1))) (kb x y)=kb a b:=by
     have:=b2I (w:=kb x y) (by have:=sp3 hk0;rw [b1u h,e1] at this;exact this) hne;rw [this,N3 a b,hw,e2]
    refine aS (aR ?_);refine nc zl (nc zl (nc zl (nc zu (nc (zbA (lo:=k+1)) (nc (z5 (z:=c1) (B:=y7 _) (C:=t8 _) (G:=j5 (by first | rfl | kernel_rfl))) ?_)))));refine aS (aR ?_);refine nc zl (nc zl (nc zl (nc zu (nc (zbA (lo:=k+1)) (nc (z5 (z:=c2) (B:=y7 _) (C:=t8 _) (G:=j5 (by first | rfl | kernel_rfl))) ?_)))));refine aS (aR ?_);refine nc zl (nc zl (nc (z5 (z:=R2 _ (kb x y)) (B:=y7 _) (C:=t8 _) (G:=j5 (by first | rfl | kernel_rfl))) (nc ze ?_)));rw [hres,b1u h,e1];exact aT ⟨.inr rfl,_,Wk.refl _,rfl,rfl,rfl,rfl,rfl,rfl,rfl,trivial⟩
   ·have h0:kb x y=0:=by simpa using hc
    rw [q2 h0];refine aK ?_;refine aR ?_;refine nc zu (nc zl ?_);refine ⟨hkl,fun j u v hj hu hv=>?_,a7 ⟨rfl,rfl,rfl,rfl,rfl,rfl,rfl,rfl,rfl,rfl,rfl,trivial⟩⟩;rcases Nat.lt_or_ge j k with h | h
    ·exact hI j u v h hu hv
    ·have:j=k:=by omega
     subst this;rw [hx] at hu;rw [hy] at hv;cases hu;cases hv;exact h0
  ·have hkl:k=a.ps.length:=by
    have:¬ k<a.ps.length:=by simpa using hlt
    omega
   subst hkl;obtain ⟨e1,e2⟩:=a4u (l:=a.ps) (m:=b.ps) fun j u v hu hv=>hI j u v (by
    rcases Nat.lt_or_ge j a.ps.length with h | h
    ·exact h
    ·rw [getElem?_eq_none h] at hu;cases hu) hu hv
   have h0:kb a b=0:=by rw [N3,A6,hw,e2]
   rw [h0,sp2 h0];refine aE ?_;refine aS (aR ?_);refine nc ze ?_;exact aT ⟨.inr rfl,_,Wk.refl _,rfl,rfl,rfl,rfl,rfl,rfl,rfl,trivial⟩
theorem c1e:sst emp=c1Y 0 0 0:=b4M rfl
theorem a9J (W:World) (a b:Tm) (hr:a.rng) (hok:a.ok) (hs:a.size<=100000000000) (hbr:b.rng) (hbok:b.ok) (hbs:b.size<=100000000000):AFun Tryz.prog W 82 [a.cw,b.cw] (.val (.i (kb a b))):=by
 have hc:=a6O a hr hok hs b hbr hbok hbs;rw [c1e] at hc;refine b9 (rs:=[.i (kb a b)]) Tryz.func82 Tryz.ntmps82 rfl rfl rfl rfl ?_;intro w U hW;refine aS (aR ?_);refine nc zd (nc zd (nc ze ?_));refine aS (aR ?_);refine nc (zbB 350001 (hnf:=fun v h=>by first | (rw [hW.1] at h;cases h) | (have h2:=hU _ v h;cases h2))) ?_;refine AWp.wk ((a7 (s':=[(2,AV.bp 2 0 []),(100002,.bx a.cw),(3,.bp 3 0 []),(100003,.bx b.cw),(5,.bp 350001 0 []),(450001,.obj),(35500100,.val (.i 0)),(35500101,.val (.sc (.map none))),(35500102,.val (.i 0)),(35500103,.val (.i 0))]) ⟨rfl,rfl,rfl,rfl,rfl,by kernel_rfl,by kernel_rfl,by kernel_rfl,by kernel_rfl,by kernel_rfl,trivial⟩).trans (b8P 35500101 300001 rfl rfl rfl (by kernel_rfl) (by kernel_rfl))) ?_;refine aS (aR ?_);refine nc zy (nc zy (nc (z5 (z:=hc) (B:=by kernel_rfl) (C:=t8 _) (G:=j5 (by first | rfl | kernel_rfl))) (nc ze ?_)));exact aT ⟨.inr rfl,rfl⟩
theorem a6C (W:World) (a b:Tm) (hr:a.rng) (hok:a.ok) (hs:a.size<=100000000000) (hbr:b.rng) (hbok:b.ok) (hbs:b.size<=100000000000):AFun Tryz.prog W 151 [a.cw,b.cw] (.val (.b (decide (kb a b=1)))):=by
 refine b9 (rs:=[.b (decide (kb a b=1))]) Tryz.func151 Tryz.ntmps151 rfl rfl rfl rfl ?_;intro w U hW;refine aS (aR ?_);refine nc zd (nc zd (nc ze ?_));refine aS (aR ?_);refine nc zy (nc zy (nc (zw (z:=a9J w a b hr hok hs hbr hbok hbs)) (nc zt (nc ze ?_))));exact aT ⟨.inr rfl,rfl⟩
noncomputable def c5d (a b:Tm):Bool:=haveI:=Classical.propDecidable;decide (cov a b)
end Go.Proofs.YtglmoficcjphaaaGreat
