/-
 UnRef UnAll UnFns1 UnFns2 UnVr UnSize UnFns3 UnFns4 UnFns5
-/
import Derived.Test.YteegmcfobgpemaaGreatMg5
import Derived.Test.YteegmcfobgpemaaGreatMg4
import Derived.Test.YteegmcfobgpemaaGreatMg3
import Derived.Test.YteegmcfobgpemaaGreatMg2
namespace Go.Proofs.YteegmcfobgpemaaGreat
open List (append_nil filter_cons getD_eq_getElem?_getD getElem?_map length_append length_cons length_map length_nil map_append map_cons map_set mem_append mem_cons mem_cons_of_mem mem_flatMap mem_map mem_of_getElem? mem_singleton sum_cons)
open Go.RowKit
set_option linter.unusedVariables false
set_option linter.unusedSimpArgs false
set_option maxRecDepth 100000
def a5z (s:List Bd) (x:Int) (t:Tm):List Bd:=(s.map fun b=>⟨b.v,n6 [⟨x,t⟩] b.t⟩)++[⟨x,t⟩]
def swC (a b:Tm):Bool:=(decide (0<=a.f)&&decide (b.f<0))||((decide (a.f<0)&&decide (b.f<0))&&decide (b.f<a.f))
def rUs (g:List Bd->Tm->Tm->Option (Option (List Bd))):List (Tm×Tm)->List Bd->Option (Option (List Bd))
 | [],s=>some (some s)
 | p::ps,s=>match g s p.1 p.2 with
  | none=>none
  | some none=>some none
  | some (some s')=>rUs g ps s'
def a2o (g:List Bd->Tm->Tm->Option (Option (List Bd))) (s:List Bd) (a b:Tm):Option (Option (List Bd)):=
 if a.f<0 then (if -1-a.f∈b.vs then some none else some (some (a5z s (-1-a.f) b)))
 else if a.f≠b.f\/a.l.length≠b.l.length then some none
 else rUs g (a.l.zip b.l) s
def rU:Nat->List Bd->Tm->Tm->Option (Option (List Bd))
 | 0,_,_,_=>none
 | n+1,s,a,b =>
  if E5 (n6 s a) (n6 s b) then some (some s)
  else if swC (n6 s a) (n6 s b) then a2o (rU n) s (n6 s b) (n6 s a)
  else a2o (rU n) s (n6 s a) (n6 s b)
theorem a1s {g g':List Bd->Tm->Tm->Option (Option (List Bd))} (h:∀ s a b r,g s a b=some r->g' s a b=some r):∀ (ps:List (Tm×Tm)) (s:List Bd) (r),rUs g ps s=some r->rUs g' ps s=some r
 | [],s,r,e=>e
 | p::ps,s,r,e=>by
  rw [rUs] at e |-;cases hg:g s p.1 p.2 with
  | none=>rw [hg] at e;cases e
  | some q =>
   rw [hg] at e;rw [h _ _ _ _ hg];cases q with
   | none=>exact e
   | some s'=>exact a1s h ps s' r e
theorem a6L {g g':List Bd->Tm->Tm->Option (Option (List Bd))} (h:∀ s a b r,g s a b=some r->g' s a b=some r) (s:List Bd) (a b:Tm) (r) (e:a2o g s a b=some r):a2o g' s a b=some r:=by
 unfold a2o at e |-;split
 ·rename_i h1;rw [if_pos h1] at e;exact e
 ·rename_i h1;rw [if_neg h1] at e;split
  ·rename_i h2;rw [if_pos h2] at e;exact e
  ·rename_i h2;rw [if_neg h2] at e;exact a1s h _ _ _ e
theorem a7t:∀ (n:Nat) (s:List Bd) (a b:Tm) (r),rU n s a b=some r->rU (n+1) s a b=some r
 | 0,s,a,b,r,e=>by cases e
 | n+1,s,a,b,r,e=>by
  rw [rU] at e |-;split
  ·rename_i h1;rw [if_pos h1] at e;exact e
  ·rename_i h1;rw [if_neg h1] at e;split
   ·rename_i h2;rw [if_pos h2] at e;exact a6L (a7t n) _ _ _ _ e
   ·rename_i h2;rw [if_neg h2] at e;exact a6L (a7t n) _ _ _ _ e
theorem a8r {n m:Nat} (h:n<=m):∀ (s:List Bd) (a b:Tm) (r),rU n s a b=some r->rU m s a b=some r:=by
 induction h with
 | refl=>exact fun _ _ _ _ e=>e
 | step _ ih=>exact fun s a b r e=>a7t _ s a b r (ih s a b r e)
def L7 (s:List Bd):Prop:=∀ b∈s,b.t.strip=b.t
theorem N3 {s:List Bd} (h:L7 s) (v:Int):(i7 s v).strip=i7 s v:=by
 unfold i7;cases hf:d9 s v with
 | none=>exact w9 v
 | some t =>
  have:∃ b∈s,b.t=t:=by
   clear h
   induction s with
   | nil=>cases hf
   | cons b s ih =>
    rw [d9] at hf;split at hf
    ·cases hf;exact ⟨b,by simp,rfl⟩
    ·obtain ⟨c,hc,e⟩:=ih hf;exact ⟨c,mem_cons_of_mem _ hc,e⟩
  obtain ⟨b,hb,rfl⟩:=this;exact h b hb
theorem o0 {s:List Bd} (h:L7 s) (t:Tm):n6 s t=a8 (i7 s) t:=by
 induction t using Tm.ind with
 | h f l ih =>
  by_cases hf:f<0
  ·rw [a5c hf,l4 hf,N3 h]
  ·rw [a5d hf,d8 hf];congr 1;exact List.map_congr_left ih
theorem b2q (x:Int) (t:Tm):i7 [⟨x,t⟩]=W5 x t:=by
 funext v;unfold i7 W5;rw [d9,d9];show (if x=v then some t else none).getD (q7 v)=_;by_cases h:x=v
 ·rw [if_pos h,if_pos h.symm];rfl
 ·rw [if_neg h,if_neg (Ne.symm h)];rfl
theorem a1a {x:Int} {t:Tm} (h:t.strip=t):L7 [⟨x,t⟩]:=fun b hb=>by
 rw [mem_singleton] at hb;rw [hb];exact h
theorem b5i {s:List Bd} {x:Int} {t:Tm} (ht:t.strip=t):L7 (a5z s x t):=fun b hb=>by
 rcases mem_append.1 hb with hb | hb
 ·obtain ⟨c,hc,rfl⟩:=mem_map.1 hb;show (n6 _ _).strip=_;rw [o0 (a1a ht),A6]
 ·exact a1a ht b hb
theorem a3q (M:List Bd):∀ (L:List Bd) (v:Int),d9 (L.map fun b=>⟨b.v,n6 M b.t⟩) v=(d9 L v).map (n6 M)
 | [],_=>rfl
 | b::L,v=>by
  rw [map_cons,d9,d9];show (if b.v=v then _ else _)=_;split
  ·rfl
  ·exact a3q M L v
theorem a1y {s:List Bd} {x:Int} {t:Tm} (ht:t.strip=t) {v:Int} (hv:0<=v):i7 (a5z s x t) v=a8 (W5 x t) (i7 s v):=by
 unfold a5z i7;rw [b0T,a3q];cases hf:d9 s v with
 | some u =>
  show n6 _ u=a8 _ u;rw [o0 (a1a ht),b2q]
 | none =>
  show (d9 [⟨x,t⟩] v).getD (q7 v)=a8 _ (q7 v);rw [F3 hv];have:=congrFun (b2q x t) v;unfold i7 at this;rw [this];unfold W5;split
  ·exact ht.symm
  ·exact (w9 v).symm
def frN (V:List Int) (s:List Bd):Nat:=(V.filter fun v=>decide ((i7 s v).f = -1-v)).length
theorem b8w {V:List Int} {p q:Int->Bool} (h:∀ v∈V,q v=true->p v=true) {x:Int} (hx:x∈V) (hp:p x=true) (hq:q x=false):(V.filter q).length<(V.filter p).length:=by
 have le:∀ W:List Int,(∀ v∈W,q v=true->p v=true)->(W.filter q).length<=(W.filter p).length:=fun W=>by
  induction W with
  | nil=>exact fun _=>Nat.le_refl _
  | cons a W ih =>
   intro h;have h1:=ih fun v hv=>h v (mem_cons_of_mem _ hv);have h2:=h a (by simp);rw [filter_cons,filter_cons];cases hqa:q a with
   | true=>rw [if_pos rfl,if_pos (h2 hqa)];simp only [length_cons];omega
   | false =>
    rw [if_neg (by simp)];split
    ·simp only [length_cons];omega
    ·exact h1
 induction V with
 | nil=>cases hx
 | cons a V ih =>
  have h1:∀ v∈V,q v=true->p v=true:=fun v hv=>h v (mem_cons_of_mem _ hv);have h2:=h a (by simp);rw [filter_cons,filter_cons];by_cases e:x=a
  ·subst e;rw [hq,hp,if_neg (by simp),if_pos rfl,length_cons];have:=le V h1;omega
  ·have hxV:x∈V:=by
    rcases mem_cons.1 hx with h | h
    ·exact absurd h e
    ·exact h
   have h3:=ih h1 hxV;cases hqa:q a with
   | true=>rw [if_pos rfl,if_pos (h2 hqa)];simp only [length_cons];omega
   | false =>
    rw [if_neg (by simp)];split
    ·simp only [length_cons];omega
    ·exact h3
theorem c1C {V:List Int} (hV:∀ v∈V,0<=v) {s:List Bd} {E:List (Tm×Tm)} (hm:Mgu (i7 s) E) {x:Int} (hx:x∈V) (hsx:i7 s x=q7 x) {b:Tm} (hb:x∉(a8 (i7 s) b).vs):frN V (a5z s x (a8 (i7 s) b))<frN V s:=by
 have vQ:(a8 (i7 s) b).strip=a8 (i7 s) b:=A6 _ _;refine b8w (fun v hv hq=>?_) hx ?_ ?_
 ·have hv0:=hV v hv;have hq:=of_decide_eq_true hq;rw [a1y vQ hv0] at hq;refine decide_eq_true ?_;have h1:(i7 s v).f<0:=a0x (by rw [hq];omega);rw [l4 h1] at hq;obtain ⟨w,hw⟩:∃ w,w = -1-(i7 s v).f:=⟨_,rfl⟩
  rw [<-hw] at hq;by_cases e:w=x
  ·unfold W5 at hq;rw [if_pos e,Tm.strip_f] at hq;have:i7 s v=q7 v:=hm.rep_vs (t:=b) (by rw [Tm.vs_var (by rw [hq];omega),hq,mem_singleton];omega);rw [this,s7]
  ·unfold W5 at hq;rw [if_neg e,w9,s7] at hq;omega
 ·exact decide_eq_true (by rw [hsx,s7])
 ·have jQ:=hV x hx;refine decide_eq_false fun e=>?_;rw [a1y vQ jQ,hsx,F3 jQ] at e;unfold W5 at e;rw [if_pos rfl,vQ] at e;exact hb (by rw [Tm.vs_var (by rw [e];omega),e,mem_singleton];omega)
def inV (V:List Int) (s:List Bd):Prop:=∀ b∈s,∀ u∈b.t.vs,u∈V
theorem b8k {V:List Int} {s:List Bd} (h:inV V s) {v:Int} (hv:v∈V) (hv0:0<=v):∀ u∈(i7 s v).vs,u∈V:=by
 intro u hu;unfold i7 at hu;cases hf:d9 s v with
 | none =>
  rw [hf] at hu;rw [show (none:Option Tm).getD (q7 v)=q7 v from rfl,Tm.vs_var (by rw [s7];omega),s7,mem_singleton] at hu;rw [show u=v by omega];exact hv
 | some t =>
  rw [hf] at hu;have:∃ b∈s,b.t=t:=by
   clear h hu
   induction s with
   | nil=>cases hf
   | cons b s ih =>
    rw [d9] at hf;split at hf
    ·cases hf;exact ⟨b,by simp,rfl⟩
    ·obtain ⟨c,hc,e⟩:=ih hf;exact ⟨c,mem_cons_of_mem _ hc,e⟩
  obtain ⟨b,hb,rfl⟩:=this;exact h b hb u hu
theorem T8 {V:List Int} {s:List Bd} (h:inV V s) {t:Tm} (ht:∀ u∈t.vs,u∈V):∀ u∈(a8 (i7 s) t).vs,u∈V:=by
 intro u hu;rw [a1C,mem_flatMap] at hu;obtain ⟨v,hv,hu⟩:=hu;exact b8k h (ht v hv) (o5 _ v hv) u hu
theorem b9B {V:List Int} {s:List Bd} (h:inV V s) {x:Int} {t:Tm} (hb:t.strip=t) (ht:∀ u∈t.vs,u∈V):inV V (a5z s x t):=by
 have h1:inV V [⟨x,t⟩]:=fun b hb'=>by rw [mem_singleton] at hb';rw [hb'];exact ht
 intro b hb' u hu;rcases mem_append.1 hb' with hb' | hb'
 ·obtain ⟨c,hc,rfl⟩:=mem_map.1 hb';have hu:u∈(n6 [⟨x,t⟩] c.t).vs:=hu;rw [o0 (a1a hb)] at hu;exact T8 h1 (h c hc) u hu
 ·exact h1 b hb' u hu
def RSpec (V:List Int) (E F:List (Tm×Tm)) (s:List Bd) (r:Option (List Bd)):Prop:=match r with
 | none=>∀ τ,¬ uni τ (E++F)
 | some s'=>Mgu (i7 s') (E++F)/\L7 s'/\inV V s'/\(s'=s\/frN V s'<frN V s)
theorem RSpec.eqv {V:List Int} {E F G:List (Tm×Tm)} {s:List Bd} {r:Option (List Bd)} (h:RSpec V E F s r) (he:∀ τ,uni τ (E++F)↔uni τ (E++G)):RSpec V E G s r:=by
 cases r with
 | none=>exact fun τ ht=>h τ ((he τ).2 ht)
 | some s'=>exact ⟨h.1.eqv he,h.2⟩
theorem a2u (g:Tm->Tm):∀ {l m:List Tm},l.length=m.length->(l.map g=m.map g↔∀ p∈l.zip m,g p.1=g p.2)
 | [],[],_=>by simp
 | [],_::_,h=>by simp at h
 | _::_,[],h=>by simp at h
 | a::l,b::m,h=>by
  rw [map_cons,map_cons,List.zip_cons_cons];simp only [List.cons.injEq,mem_cons,forall_eq_or_imp];rw [a2u g (by simpa using h)]
theorem b7P {V:List Int} (hV:∀ v∈V,0<=v) {s:List Bd} {E:List (Tm×Tm)} (hm:Mgu (i7 s) E) (hb:L7 s) (hi:inV V s) {a b:Tm} (ha:∀ u∈a.vs,u∈V) (sN:∀ u∈b.vs,u∈V) (hf:(n6 s a).f<0) (kE:n6 s a≠n6 s b) (kV:(n6 s b).f<0->(n6 s a).f<=(n6 s b).f) (g):∃ r,a2o g s (n6 s a) (n6 s b)=some r/\RSpec V E [(a,b)] s r:=by
 rw [o0 hb,o0 hb] at *;obtain ⟨x,hx⟩:∃ x,x = -1-(a8 (i7 s) a).f:=⟨_,rfl⟩
 have jQ:0<=x:=by omega
 have hA:a8 (i7 s) a=q7 x:=by rw [hx];exact a1k (A6 _ _) hf
 unfold a2o;rw [if_pos hf,<-hx];by_cases fY:x∈(a8 (i7 s) b).vs
 ·rw [if_pos fY];refine ⟨_,rfl,fun τ ht=>?_⟩;rw [B9,B4] at ht;by_cases hbf:(a8 (i7 s) b).f<0
  ·rw [Tm.vs_var hbf,mem_singleton] at fY;apply kE;rw [hA,a1k (A6 _ _) hbf,<-fY]
  ·apply b3w (τ:=τ) fY hbf;rw [<-hA,hm.rep ht.1,hm.rep ht.1,ht.2]
 ·rw [if_neg fY];have eV:x∈(a8 (i7 s) a).vs:=by rw [hA,Tm.vs_var (by rw [s7];omega),s7,mem_singleton];omega
  refine ⟨_,rfl,hm.bind jQ hA fY (fun h=>by have:=kV h;omega) fun v hv=>a1y (A6 _ _) hv,b5i (A6 _ _),b9B hi (A6 _ _) (T8 hi sN),.inr ?_⟩;exact c1C hV hm (T8 hi ha x eV) (hm.rep_vs eV) fY
theorem b2K {V:List Int} (hV:∀ v∈V,0<=v):∀ (N k:Nat) (s:List Bd) (a b:Tm) (E:List (Tm×Tm)),frN V s=N->(n6 s a).size=k->Mgu (i7 s) E->L7 s->inV V s->(∀ u∈a.vs,u∈V)->(∀ u∈b.vs,u∈V)->∃ n r,rU n s a b=some r/\RSpec V E [(a,b)] s r:=by
 intro N
 induction N using Nat.strongRecOn with
 | ind N ihN =>
 intro k
 induction k using Nat.strongRecOn with
 | ind k ihk =>
 intro s a b E hN hk hm hb hi ha sN;cases hs:E5 (n6 s a) (n6 s b) with
 | true =>
  refine ⟨1,some s,by rw [rU,if_pos hs],?_⟩;rw [A0,o0 hb,o0 hb,A6,A6] at hs;exact ⟨hm.same hs,hb,hi,.inl rfl⟩
 | false =>
 have kE:n6 s a≠n6 s b:=fun e=>by rw [e,(A0 _ _).2 rfl] at hs;cases hs
 cases hw:swC (n6 s a) (n6 s b) with
 | true =>
  have eP:=hw;unfold swC at eP;simp only [Bool.or_eq_true,Bool.and_eq_true,decide_eq_true_eq] at eP;obtain ⟨r,h1,h2⟩:=b7P hV hm hb hi sN ha (by omega) kE.symm (by omega) (rU 0);refine ⟨1,r,by rw [rU,hs,if_neg (by simp),if_pos hw,h1],h2.eqv fun τ=>?_⟩;rw [B9,B9,B4,B4,eq_comm (a:=a8 τ b)]
 | false =>
 have eP:=hw;unfold swC at eP;simp only [Bool.or_eq_false_iff,Bool.and_eq_false_iff,decide_eq_false_iff_not] at eP;by_cases hf:(n6 s a).f<0
 ·obtain ⟨r,h1,h2⟩:=b7P hV hm hb hi ha sN hf kE (by omega) (rU 0);exact ⟨1,r,by rw [rU,hs,if_neg (by simp),hw,if_neg (by simp),h1],h2⟩
 have pN:¬ (n6 s b).f<0:=by omega
 by_cases hc:(n6 s a).f≠(n6 s b).f\/(n6 s a).l.length≠(n6 s b).l.length
 ·refine ⟨1,none,by rw [rU,hs,if_neg (by simp),hw,if_neg (by simp)];unfold a2o;rw [if_neg hf,if_pos hc],fun τ ht=>?_⟩;rw [B9,B4,] at ht;have h3:=ht.2;rw [<-hm.rep ht.1 a,<-hm.rep ht.1 b,<-o0 hb,<-o0 hb,d8 hf,d8 pN] at h3;have h4:=congrArg Tm.f h3;have h5:=congrArg (fun t=>t.l.length) h3;simp only [length_map] at h4 h5;rcases hc with hc | hc
  ·exact hc h4
  ·exact hc h5
 have lQ:(n6 s a).f=(n6 s b).f:=Decidable.byContradiction fun h=>hc (.inl h);have dI:(n6 s a).l.length=(n6 s b).l.length:=Decidable.byContradiction fun h=>hc (.inr h);have loop:∀ (ps:List (Tm×Tm)) (s1:List Bd) (E1:List (Tm×Tm)),(∀ p∈ps,p.1∈(n6 s a).l/\p.2∈(n6 s b).l)->Mgu (i7 s1) E1->L7 s1->inV V s1->(s1=s\/frN V s1<frN V s)->∃ n r,rUs (rU n) ps s1=some r/\RSpec V E1 ps s1 r/\(∀ s',r=some s'->s'=s\/frN V s'<frN V s):=by
  intro ps
  induction ps with
  | nil =>
   intro s1 E1 _ cD kW bT hd;refine ⟨0,some s1,rfl,⟨by rw [append_nil];exact cD,kW,bT,.inl rfl⟩,fun s' e=>?_⟩;cases e;exact hd
  | cons p ps ihp =>
   intro s1 E1 bE cD kW bT hd;obtain ⟨fX,dZ⟩:=bE p (by simp);have yE:∀ u∈p.1.vs,u∈(n6 s a).vs:=fun u hu=>by rw [Tm.vs_sym hf];exact mem_flatMap.2 ⟨_,fX,hu⟩
   have qT:∀ u∈p.2.vs,u∈(n6 s b).vs:=fun u hu=>by rw [Tm.vs_sym pN];exact mem_flatMap.2 ⟨_,dZ,hu⟩
   have vW:∀ u∈p.1.vs,u∈V:=fun u hu=>by have:=yE u hu;rw [o0 hb] at this;exact T8 hi ha u this
   have vX:∀ u∈p.2.vs,u∈V:=fun u hu=>by have:=qT u hu;rw [o0 hb] at this;exact T8 hi sN u this
   obtain ⟨n1,r1,e1,g1⟩:∃ n r,rU n s1 p.1 p.2=some r/\RSpec V E1 [(p.1,p.2)] s1 r:=by
    rcases hd with hd | hd
    ·subst hd;refine ihk _ ?_ s1 p.1 p.2 E1 hN rfl cD kW bT vW vX;rw [<-hk];have h6:n6 s1 p.1=p.1.strip:=by rw [o0 kW];exact a4Q fun u hu=>hm.rep_vs (t:=a) (by rw [<-o0 kW];exact yE u hu)
     rw [h6,Tm.strip_size];exact Tm.size_part (by rw [Tm.ps_of_sym (by omega)];exact fX)
    ·exact ihN (frN V s1) (by omega) _ s1 p.1 p.2 E1 rfl rfl cD kW bT vW vX
   cases r1 with
   | none =>
    refine ⟨n1,none,by rw [rUs,e1],fun τ ht=>?_,fun s' e=>by cases e⟩;refine g1 τ ?_;rw [B9] at ht |-;exact ⟨ht.1,fun q hq=>ht.2 q (by rw [mem_singleton] at hq;rw [hq];simp)⟩
   | some s2 =>
    obtain ⟨lM,gV,cO,bZ⟩:=g1;have hd3:s2=s\/frN V s2<frN V s:=by
     rcases bZ with rfl | h7
     ·exact hd
     ·rcases hd with rfl | h8
      ·exact .inr h7
      ·exact .inr (by omega)
    obtain ⟨n2,r2,e2,g2,g3⟩:=ihp s2 (E1++[(p.1,p.2)]) (fun q hq=>bE q (mem_cons_of_mem _ hq)) lM gV cO hd3;refine ⟨max n1 n2,r2,?_,?_,g3⟩
    ·rw [rUs,a8r (Nat.le_max_left n1 n2) _ _ _ _ e1];exact a1s (a8r (Nat.le_max_right n1 n2)) _ _ _ e2
    ·have e3:E1++[(p.1,p.2)]++ps=E1++p::ps:=by rw [List.append_assoc];rfl
     cases r2 with
     | none=>intro τ ht;exact g2 τ (by rw [e3];exact ht)
     | some s3 =>
      obtain ⟨c1,c2,c3,c4⟩:=g2;refine ⟨by rw [<-e3];exact c1,c2,c3,?_⟩;rcases c4 with rfl | c4
      ·exact bZ
      ·rcases bZ with rfl | h8
       ·exact .inr c4
       ·exact .inr (by omega)
 obtain ⟨n,r,e,g1,_⟩:=loop ((n6 s a).l.zip (n6 s b).l) s E (fun p hp=>⟨(List.of_mem_zip (a:=p.1) (b:=p.2) hp).1,(List.of_mem_zip (a:=p.1) (b:=p.2) hp).2⟩) hm hb hi (.inl rfl);refine ⟨n+1,r,by rw [rU,hs,if_neg (by simp),hw,if_neg (by simp)];unfold a2o;rw [if_neg hf,if_neg hc,e],g1.eqv fun τ=>?_⟩;rw [B9,B9,B4];refine and_congr_right fun ht=>?_;rw [<-hm.rep ht a,<-hm.rep ht b,<-o0 hb,<-o0 hb,d8 hf,d8 pN];unfold uni;rw [<-a2u (a8 τ) dI];rw [lQ];simp
theorem b4W (L:List Bd) {v:Int} (hv:0<=v):d9 (y9 L) v=if Y7 ⟨v,i7 L v⟩ then none else some (i7 L v).strip:=by
 rw [a0z];unfold i7;cases d9 L v with
 | none =>
  have:Y7 ⟨v,(none:Option Tm).getD (q7 v)⟩=true:=by show (decide ((q7 v).f<0)&&decide (-1-(q7 v).f=v))=true;rw [s7,decide_eq_true (by omega),decide_eq_true (by omega)];rfl
  rw [this,if_pos rfl]
 | some t=>rfl
theorem b2H:∀ {A B:List Bd},A.Pairwise (fun x y=>x.v<y.v)->B.Pairwise (fun x y=>x.v<y.v)->(∀ v,d9 A v=d9 B v)->A=B
 | [],[],_,_,_=>rfl
 | [],b::B,_,_,h=>by have:=h b.v;rw [d9,d9,if_pos rfl] at this;cases this
 | a::A,[],_,_,h=>by
  have:=h a.v;rw [show d9 (a::A) a.v=some a.t by rw [d9,if_pos rfl]] at this;cases this
 | a::A,b::B,hA,hB,h=>by
  obtain ⟨a1,a2⟩:=List.pairwise_cons.1 hA;obtain ⟨b1,b2⟩:=List.pairwise_cons.1 hB;have e:a.v=b.v:=by
   rcases Int.lt_trichotomy a.v b.v with h1 | h1 | h1
   ·have:=h a.v;rw [d9,if_pos rfl,B6 (l:=b::B) fun c hc=>by
     rcases mem_cons.1 hc with rfl | hc
     ·omega
     ·have:=b1 c hc;omega] at this
    cases this
   ·exact h1
   ·have:=h b.v;rw [B6 (l:=a::A) fun c hc=>by
     rcases mem_cons.1 hc with rfl | hc
     ·omega
     ·have:=a1 c hc;omega] at this
    rw [d9,if_pos rfl] at this;cases this
  have et:a.t=b.t:=by have:=h a.v;rw [d9,if_pos rfl,d9,if_pos e.symm] at this;exact Option.some.inj this
  have:A=B:=b2H a2 b2 fun v=>by
   by_cases ev:a.v=v
   ·rw [B6 fun c hc=>by have:=a1 c hc;omega,B6 fun c hc=>by have:=b1 c hc;omega]
   ·have:=h v;rw [d9,if_neg ev,d9,if_neg (by rw [<-e];exact ev)] at this;exact this
  rw [this];congr 1;cases a;cases b;simp only at e et;rw [e,et]
theorem b6F {L M:List Bd} (hL:∀ b∈L,0<=b.v) (hM:∀ b∈M,0<=b.v) (h:∀ v,0<=v->i7 L v=i7 M v):y9 L=y9 M:=by
 refine b2H (Z3 L) (Z3 M) fun v=>?_;rcases Decidable.em (0<=v) with hv | hv
 ·rw [b4W L hv,b4W M hv,h v hv]
 ·rw [a0z,a0z,B6 fun b hb=>by have:=hL b hb;omega,B6 fun b hb=>by have:=hM b hb;omega]
theorem b5S {L M:List Bd} {E} (hL:∀ b∈L,0<=b.v) (hM:∀ b∈M,0<=b.v) (h1:Mgu (i7 L) E) (h2:Mgu (i7 M) E):y9 L=y9 M:=
 b6F hL hM fun v hv=>h2.one h1 hv
theorem a2c {V:List Int} (hV:∀ v∈V,0<=v):∀ (l:List (Tm×Tm)) (s:List Bd) (E:List (Tm×Tm)),Mgu (i7 s) E->L7 s->inV V s->(∀ p∈l,(∀ u∈p.1.vs,u∈V)/\∀ u∈p.2.vs,u∈V)->∃ n r,rUs (rU n) l s=some r/\(r=none->∀ τ,¬ uni τ (E++l))/\∀ s',r=some s'->Mgu (i7 s') (E++l)/\L7 s'/\inV V s'
 | [],s,E,hm,hb,hi,_=>⟨0,some s,rfl,fun e=>(by cases e),fun s' e=>by cases e;exact ⟨by rw [append_nil];exact hm,hb,hi⟩⟩
 | p::l,s,E,hm,hb,hi,hl=>by
  obtain ⟨v1,v2⟩:=hl p (by simp);obtain ⟨n1,r1,e1,g1⟩:=b2K hV _ _ s p.1 p.2 E rfl rfl hm hb hi v1 v2;have e3:E++[(p.1,p.2)]++l=E++p::l:=by rw [List.append_assoc];rfl
  cases r1 with
  | none =>
   refine ⟨n1,none,by rw [rUs,e1],fun _ τ ht=>?_,fun s' e=>(by cases e)⟩;rw [<-e3,B9] at ht;exact g1 τ ht.1
  | some s1 =>
   obtain ⟨cD,kW,bT,_⟩:=g1;obtain ⟨n2,r2,e2,g2,g3⟩:=a2c hV l s1 (E++[(p.1,p.2)]) cD kW bT fun q hq=>hl q (mem_cons_of_mem _ hq);refine ⟨max n1 n2,r2,?_,by rw [<-e3];exact g2,by rw [<-e3];exact g3⟩;rw [rUs,a8r (Nat.le_max_left n1 n2) _ _ _ _ e1];exact a1s (a8r (Nat.le_max_right n1 n2)) _ _ _ e2
theorem b8j {s:List Bd} {x:Int} {t:Tm} (hs:∀ b∈s,0<=b.v) (hx:0<=x):∀ b∈a5z s x t,0<=b.v:=fun b hb=>by
 rcases mem_append.1 hb with hb | hb
 ·obtain ⟨c,hc,rfl⟩:=mem_map.1 hb;exact hs c hc
 ·rw [mem_singleton] at hb;rw [hb];exact hx
theorem a7R {g:List Bd->Tm->Tm->Option (Option (List Bd))} (hg:∀ s a b s',g s a b=some (some s')->(∀ b∈s,0<=b.v)->∀ b∈s',0<=b.v):∀ (l:List (Tm×Tm)) (s s':List Bd),rUs g l s=some (some s')->(∀ b∈s,0<=b.v)->∀ b∈s',0<=b.v
 | [],s,s',e,h=>by cases e;exact h
 | p::l,s,s',e,h=>by
  rw [rUs] at e;cases h1:g s p.1 p.2 with
  | none=>rw [h1] at e;cases e
  | some q =>
   rw [h1] at e;cases q with
   | none=>cases e
   | some s1=>exact a7R hg l s1 s' e (hg _ _ _ _ h1 h)
theorem b7c:∀ (n:Nat) (s:List Bd) (a b:Tm) (s':List Bd),rU n s a b=some (some s')->(∀ b∈s,0<=b.v)->∀ b∈s',0<=b.v
 | 0,_,_,_,_,e,_=>by cases e
 | n+1,s,a,b,s',e,h=>by
  have go:∀ x y,a2o (rU n) s x y=some (some s')->∀ b∈s',0<=b.v:=fun x y e=>by
   unfold a2o at e;split at e
   ·rename_i hf;split at e
    ·cases e
    ·cases e;exact b8j h (by omega)
   ·split at e
    ·cases e
    ·exact a7R (b7c n) _ _ _ e h
  rw [rU] at e;split at e
  ·cases e;exact h
  ·split at e
   ·exact go _ _ e
   ·exact go _ _ e
theorem CI.zero {c:Cl} {H:Nat->Nat} (h:∀ x,nS c.ns x=0):CI c H 0 []:=⟨Nat.zero_le _,rfl,fun m hm=>by omega,fun x=>by rw [h];rfl⟩
theorem CI.made {c:Cl} {H:Nat->Nat} {hs:List Nat} (h:CI c H c.ns.length hs):a9p c.ns H:=h.kid
theorem b1l (l:List (Tm×Tm)):∃ k0 j,(∀ k,k0<=k->s6 k l ⟨[],[],[]⟩=some j)/\(j.2=false->∀ τ,¬ uni τ l)/\(j.2=true->∃ cn od H r,(∀ k,k0<=k->E0 k k 0 j.1 []=some cn/\a2n k k 0 cn.1 (cn.2.filter fun n=>decide (nS cn.1.ns n=0))=some od)/\ClsC od.1 H r l/\od.1.ps=[]/\a9p od.1.ns H/\KI od.1.ns.length (fun m=>decide (H m=m)) (egC od.1.ns H) od.2.length [] (nS od.1.ns) od.2/\cn.2=(List.range od.1.ns.length).filter (fun m=>decide (H m=m))/\(od.2.length≠cn.2.length->∀ τ,¬ uni τ l)/\(od.2.length=cn.2.length->∃ k1 tm,(∀ k,k1<=k->B3 k od.2.reverse od.1 (List.replicate od.1.ns.length tm0)=some tm)/\ClsC tm.1 H r l/\tm.1.vr=od.1.vr/\tm.1.ns.length=od.1.ns.length/\∀ s:List Bd,(∀ v,d9 s v=(o7 od.1.vr v).map fun m=>tm.2.getD (H m) tm0)->Mgu (i7 s) l)):=by
 obtain ⟨k1,j,e1,t1,t2⟩:=a0n l ⟨[],[],[]⟩ (H:=id) (r:=id) (E:=[]) rfl Cls.nil;rw [List.nil_append] at t1 t2;cases hj:j.2 with
 | false=>exact ⟨k1,j,fun k hk=>O2 hk e1,fun _=>t1 hj,fun e=>by rw [hj] at e;cases e⟩
 | true =>
  obtain ⟨hp,H0,r0,g0⟩:=t2 hj;have hz:∀ x,nS j.1.ns x=0:=fun x=>by rw [b1K e1];rfl
  obtain ⟨k2,cn,H,r,e2,g1,i1,p1⟩:=a9b _ 0 j.1 [] rfl g0 (CI.zero hz);obtain ⟨k3,od,e3,g2,l2,tt2,kk2,vv2,pp2,ki⟩:=b3F (fun _=>rfl) _ 0 cn.1 _ rfl rfl g1 i1.made (fun _ _=>rfl) (Nat.zero_le _) i1.start;have hm:a9p od.1.ns H:=fun m cD=>by rw [tt2,kk2];exact i1.made m (by rw [<-l2];exact cD)
  have sM:egC od.1.ns H=egC cn.1.ns H:=by funext g;unfold egC;rw [tt2,kk2]
  have ki':KI od.1.ns.length (fun m=>decide (H m=m)) (egC od.1.ns H) od.2.length [] (nS od.1.ns) od.2:=by rw [l2,sM];exact ki
  have bE:od.1.ps=[]:=by rw [pp2,p1];exact hp
  have hcn:cn.2=(List.range od.1.ns.length).filter (fun m=>decide (H m=m)):=by rw [l2];exact i1.lst
  have dN:=b4S ki';rw [<-hcn] at dN;refine ⟨max k1 (max k2 k3),j,fun k hk=>O2 (by omega) e1,fun e=>(by rw [hj] at e;cases e),fun _=>⟨cn,od,H,r,fun k hk=>⟨e2 k k (by omega) (by omega),e3 k k (by omega) (by omega)⟩,g2,bE,hm,ki',hcn,fun kE τ=>?_,fun he=>?_⟩⟩
  ·have:¬ ∀ x,x<od.1.ns.length->H x=x->x∈od.2:=fun h=>kE (dN.2 h);apply Classical.byContradiction;intro hu;refine this fun x hx mQ=>?_;apply Classical.byContradiction;intro iQ;exact c1c g2 bE hm ki' hx mQ iQ τ (Classical.byContradiction hu)
  ·have ha:=dN.1 he;have j2:=Cls.made g2 bE hm;have fY:∀ g∈od.2,∀ x∈egC od.1.ns H g,x∈od.2:=fun g hg x hx=>by
    obtain ⟨q1,q2⟩:=ki'.hd g hg;unfold egC at hx;split at hx
    ·cases hx
    ·rename_i hf;obtain ⟨i,hi,e⟩:=mem_map.1 hx;obtain ⟨_,_,q3,q4⟩:=j2.part q1 hf (List.mem_range.1 hi);rw [<-e];exact ha _ q3 q4
   obtain ⟨k4,tm,e4,c1,c2,c3,c4,c5,c6,c7,c8⟩:=a2B (eg:=egC od.1.ns H) (T:=nT od.1.ns) od.2.reverse [] od.1 (List.replicate od.1.ns.length tm0) g2 hm (fun _ _=>rfl) (fun _ _=>rfl) (fun n hn=>by obtain ⟨q1,q2⟩:=ki'.hd n (List.mem_reverse.1 hn);exact ⟨q1,of_decide_eq_true q2⟩) (by unfold List.Nodup;rw [List.pairwise_reverse];exact ki'.nd.imp Ne.symm) (fun n _ hn=>by cases hn) (b1i ki' fY) (by simp) (fun h hh=>by cases hh)
   refine ⟨k4,tm,e4,c1,c5,c2,fun s hs=>b9c g2 bE hm ki' ha ?_ hs⟩;rw [List.reverse_reverse,append_nil] at c8;exact c8
noncomputable abbrev Nd.cw (n:Nd):CV := .row [n.t.cw,.i (n.fi:Int),.i (n.up:Int),.i n.us]
noncomputable def Nd.cv (n:Nd):CV:=n.cw
theorem Nd.map_at {l:List Nd} {i:Nat} {n:Nd} (h:l[i]?=some n):(l.map Nd.cv)[i]?=some n.cw:=by rw [getElem?_map,h];rfl
theorem Nd.size_all (l:List Nd):∀ c∈l.map Nd.cv,c.size=5:=by
 intro c hc;obtain ⟨b,_,rfl⟩:=mem_map.1 hc;rfl
noncomputable abbrev psw (p:Nat×Nat):CV := .row [.i (p.1:Int),.i (p.2:Int)]
noncomputable def psv (p:Nat×Nat):CV:=psw p
theorem c2V {l:List (Nat×Nat)} {i:Nat} {n:Nat×Nat} (h:l[i]?=some n):(l.map psv)[i]?=some (psw n):=by rw [getElem?_map,h];rfl
theorem b9a (l:List (Nat×Nat)):∀ c∈l.map psv,c.size=2:=by
 intro c hc;obtain ⟨b,_,rfl⟩:=mem_map.1 hc;rfl
noncomputable def vrv (p:Int×Nat):CV := .row [.i p.1,.i (p.2:Int)]
theorem a3d (l:List (Int×Nat)):y6 .i64 (l.map vrv):=fun r hr=>by
 obtain ⟨p,_,rfl⟩:=mem_map.1 hr;exact ⟨p.1,.i p.2,rfl⟩
theorem b3n (l:List (Int×Nat)) (v:Int):F4 .i64 v (l.map vrv)=(o7 l v).map fun n:Nat=>CV.i (n:Int):=by
 induction l with
 | nil=>rfl
 | cons p l ih =>
  rw [map_cons,vrv,Q7,o7];split
  ·rfl
  ·exact ih
theorem c0W {l:List (Int×Nat)} {v:Int} {n:Nat} (h:o7 l v=none):a2s .i64 v (.i (n:Int)) (l.map vrv)=(l++[(v,n)]).map vrv:=by
 have h1:F4 .i64 v (l.map vrv)=none:=by rw [b3n,h];rfl
 rw [(Z5 (.i (n:Int)) (a3d l)).1 h1,map_append];rfl
noncomputable abbrev s9 (c:Cl):AS:=[(450001,.obj),(35500100,.sl 300001 0 c.ns.length 5),(35500101,.mref 300003),(35500102,.sl 300002 0 c.ps.length 2),(300001,.mrow 194 5 (c.ns.map Nd.cv)),(300003,.mp (c.vr.map vrv)),(300002,.mrow 207 2 (c.ps.map psv))]
noncomputable abbrev O5 (c:Cl):AS:=[(450001,.obj),(35500100,.sl 400001 0 c.ns.length 5),(35500101,.mref 300003),(35500102,.sl 300002 0 c.ps.length 2),(400001,.mrow 194 5 (c.ns.map Nd.cv)),(300003,.mp (c.vr.map vrv)),(300002,.mrow 207 2 (c.ps.map psv))]
theorem r7 {l:List Nd} {n:Nat} {x:Nd} (h:l[n]?=some x):l.getD n ndD=x:=by rw [getD_eq_getElem?_getD,h];rfl
theorem Q5 {ns:List Nd} {n k:Nat} {x:Nd} (h:ns[n]?=some x):(setUp ns n k).map Nd.cv=(ns.map Nd.cv).set n (Nd.cw { x with up:=k }):=by
 unfold setUp;rw [map_set,r7 h];rfl
theorem b4f {ns:List Nd} {n k:Nat} {x:Nd} (h:ns[n]?=some x):(setFi ns n k).map Nd.cv=(ns.map Nd.cv).set n (Nd.cw { x with fi:=k }):=by
 unfold setFi;rw [map_set,r7 h];rfl
theorem a6w {ns:List Nd} {n:Nat} {k:Int} {x:Nd} (h:ns[n]?=some x):(setUs ns n k).map Nd.cv=(ns.map Nd.cv).set n (Nd.cw { x with us:=k }):=by
 unfold setUs;rw [map_set,r7 h];rfl
theorem P6 {ns:List Nd} {n:Nat} (h:n<ns.length):∃ x,ns[n]?=some x:=⟨ns[n],List.getElem?_eq_getElem h⟩
theorem b0f {ns:List Nd} {n k:Nat} {x:Nd} (h:ns[n]?=some x):(setUp ns n k)[n]?=some { x with up:=k }:=by
 unfold setUp;have hl:n<ns.length:=(List.getElem?_eq_some_iff.1 h).1;rw [List.getElem?_set_self hl,r7 h]
theorem H4 (ns:List Nd) (n k:Nat):(setUp ns n k).length=ns.length:=by unfold setUp;simp
def upOk (ns:List Nd):Prop:=∀ m,m<ns.length->nU ns m<ns.length
theorem upOk.set {ns:List Nd} (h:upOk ns) {n k:Nat} (hk:k<ns.length):upOk (setUp ns n k):=fun m hm=>by
 rw [H4] at hm |-;unfold nU setUp;rw [getD_eq_getElem?_getD,List.getElem?_set];split
 ·split
  ·exact hk
  ·exact Nat.lt_of_le_of_lt (Nat.zero_le _) hm
 ·rw [<-getD_eq_getElem?_getD];exact h m hm
set_option maxHeartbeats 2000000 in
theorem K7 (vr:List (Int×Nat)) (ps:List (Nat×Nat)) (k:Nat) (ns:List Nd) (n:Nat) (r:List Nd×Nat) (hc:n9 k ns n=some r) (cS:upOk ns) (hn:n<ns.length) (hl:ns.length<=1000000):r5 Tryz.prog 156 (O5 ⟨ns,vr,ps⟩) [.bp 350001 0 [],.val (.i (n:Int))] (.val (.i (r.2:Int))) (O5 ⟨r.1,vr,ps⟩):=by
 refine l6 Tryz.func156 Tryz.ntmps156 rfl rfl rfl rfl rfl rfl ?_;intro w U hU;refine aS (aR ?_);refine nc ze ?_;refine aS (aB (t9 (fun j s=>∃ ns n,n9 j ns n=some r/\upOk ns/\n<ns.length/\ns.length<=1000000/\s=(0,AV.bp 350001 0 [])::(1,.val (.i (n:Int)))::O5 ⟨ns,vr,ps⟩) (n:=k) (s':=(0,AV.bp 350001 0 [])::(1,.val (.i (n:Int)))::O5 ⟨ns,vr,ps⟩) (a7 ⟨rfl,rfl,rfl,rfl,rfl,rfl,rfl,rfl,rfl,trivial⟩) ⟨ns,n,hc,cS,hn,hl,rfl⟩ ?_));rintro j s ⟨ns,n,hc,cS,hn,hl,rfl⟩;cases j with
 | zero=>cases hc
 | succ j =>
 rw [n9] at hc;obtain ⟨x,hx⟩:=P6 hn;have kS:=Nd.map_at hx;have oK:nU ns n=x.up:=by unfold nU;rw [r7 hx]
 have fZ:(ns.map Nd.cv).length=ns.length:=length_map ..;refine aS (aS (aR ?_));refine nc zl (nc z7 (nc zg (nc z8 (nc zl (nc (zO (k:=n)) (nc z5 (nc (zP (G:=kS)) (nc zl (nc z9 ?_)))))))));refine aC rfl (fun kE=>?_) (fun kE=>?_)
 ·have kE:x.up≠n:=by intro e;rw [e] at kE;simp at kE
  rw [if_neg (by rw [oK];exact kE)] at hc;have nL:x.up<ns.length:=by rw [<-oK];exact cS n hn
  obtain ⟨y,hy⟩:=P6 nL;have eM:=Nd.map_at hy;have vY:nU ns (nU ns n)=y.up:=by rw [oK];unfold nU;rw [r7 hy]
  rw [vY] at hc;have iW:y.up<ns.length:=by rw [<-vY];exact cS _ (by rw [oK];exact nL)
  refine aK ?_;refine aB (aS (aD (by kernel_rfl) (by kernel_rfl) ?_));refine nc zl (nc z7 (nc zg (nc z8 (nc zl (nc zl (nc z7 (nc zg (nc z8 (nc zl (nc z7 (nc zg (nc z8 (nc zl (nc (zO (k:=n)) (nc z5 (nc (zP (G:=kS)) (nc (zO (k:=x.up)) (nc z5 (nc (zP (G:=eM)) (nc (zO (k:=n)) (nc z5 (nc (zR (F:=kS)) ?_))))))))))))))))))))));refine ⟨by kernel_rfl,?_⟩;obtain ⟨ns1,h1⟩:∃ ns1,ns1=setUp ns n y.up:=⟨_,rfl⟩
  have cD:ns1.map Nd.cv=(ns.map Nd.cv).set n (Nd.cw { x with up:=y.up }):=by rw [h1];exact Q5 hx
  have eI:ns1.length=ns.length:=by rw [h1,H4]
  have iK:ns1[n]?=some { x with up:=y.up }:=by rw [h1];exact b0f hx
  have sO:=Nd.map_at iK;have sP:nU ns1 n=y.up:=by unfold nU;rw [r7 iK]
  rw [<-h1,sP] at hc;have vZ:(ns1.map Nd.cv).length=ns1.length:=length_map ..;refine AWp.wk (a7 (s':=(0,AV.bp 350001 0 [])::(1,.val (.i (n:Int)))::O5 ⟨ns1,vr,ps⟩) ⟨rfl,rfl,rfl,?_,rfl,rfl,?_,rfl,rfl,trivial⟩) ?_
  ·show _=some (AV.sl 400001 0 ns1.length 5);rw [eI];rfl
  ·show _=some (AV.mrow 194 5 (ns1.map Nd.cv));rw [cD];rfl
  refine aR ?_;refine nc zl (nc z7 (nc zg (nc z8 (nc zl (nc (zO (k:=n)) (nc z5 (nc (zP (G:=sO)) (nc ze ?_))))))));exact ⟨j,(0,AV.bp 350001 0 [])::(1,.val (.i (y.up:Int)))::O5 ⟨ns1,vr,ps⟩,by omega,⟨ns1,y.up,hc,by rw [h1];exact cS.set iW,by rw [eI];exact iW,by rw [eI];exact hl,rfl⟩,a7 ⟨rfl,rfl,rfl,rfl,rfl,rfl,rfl,rfl,rfl,trivial⟩⟩
 ·have kE:x.up=n:=by have:=of_decide_eq_false kE;simp only [ne_eq,Decidable.not_not] at this;omega
  rw [if_pos (by rw [oK];exact kE)] at hc;cases hc;refine aE ?_;refine aS (aR ?_);refine nc zl (nc ze ?_);exact aT ⟨.inr rfl,_,Wk.refl _,rfl,rfl,rfl,rfl,rfl,rfl,rfl,rfl,trivial⟩
theorem a5Z (c:Cl) (x y:Nat) (hl:c.ps.length<=100000000):r5 Tryz.prog 150 (s9 c) [.bp 350001 0 [],.val (.i (x:Int)),.val (.i (y:Int))] (.tup []) (s9 ⟨c.ns,c.vr,c.ps++[(x,y)]⟩):=by
 have kC:=b9a c.ps;have fZ:(c.ps.map psv).length=c.ps.length:=length_map ..;refine l6 Tryz.func150 Tryz.ntmps150 rfl rfl rfl rfl rfl rfl ?_;intro w U hU;refine aR ?_;refine nc zl (nc zl (nc z7 (nc zg (nc z8 (nc zl (nc zl (nc (zba [1,1]) (nc zy (ne (zbb 300015) (nc z7 (nc zg (nc zbc ?_))))))))))));refine ⟨.inl rfl,_,(a7 (s':=[(450001,.obj),(35500100,.sl 300001 0 c.ns.length 5),(35500101,.mref 300003),(35500102,.sl 300015 0 (c.ps++[(x,y)]).length 2),(300001,.mrow 194 5 (c.ns.map Nd.cv)),(300003,.mp (c.vr.map vrv)),(300015,.mrow 207 2 ((c.ps++[(x,y)]).map psv))]) ⟨rfl,rfl,rfl,?_,rfl,rfl,?_,trivial⟩).trans (B2 300015 300002 rfl rfl (by kernel_rfl) (by kernel_rfl)),rfl,rfl,rfl,rfl,rfl,rfl,rfl,rfl,trivial⟩
 ·rw [length_append,<-length_map (f:=psv)];rfl
 ·rw [map_append];rfl
set_option maxHeartbeats 1000000 in
theorem b6l (c:Cl) (p:Nat×Nat) (hp:c.ps.getLast?=some p) (hl:c.ps.length<=100000000):r5 Tryz.prog 153 (s9 c) [.bp 350001 0 []] (.tup [.i (p.1:Int),.i (p.2:Int)]) (s9 ⟨c.ns,c.vr,c.ps.dropLast⟩):=by
 have gM:0<c.ps.length:=by
  cases h:c.ps with
  | nil=>rw [h] at hp;cases hp
  | cons a l=>simp
 have wA:c.ps[c.ps.length-1]?=some p:=by rw [<-List.getLast?_eq_getElem?];exact hp
 have kS:=c2V wA;have fZ:(c.ps.map psv).length=c.ps.length:=length_map ..;have wB:((c.ps.length:Nat):Int)-1=((c.ps.length-1:Nat):Int):=by omega
 refine l6 Tryz.func153 Tryz.ntmps153 rfl rfl rfl rfl rfl rfl ?_;intro w U hU;refine aS (aR ?_);refine nc ze (nc ze ?_);refine aS (aR ?_);refine nc zl (nc z7 (nc zg (nc z8 (nc zX (nc zB (nc ze ?_))))));refine AWp.wk (a7 (s':=(0,AV.bp 350001 0 [])::(4,.val (.i ((c.ps.length-1:Nat):Int)))::s9 c) ⟨rfl,?_,rfl,rfl,rfl,rfl,rfl,rfl,rfl,trivial⟩) ?_
 ·rw [<-wB];rfl
 refine aS (aR ?_);refine nc zl (nc z7 (nc zg (nc z8 (nc zl (nc (zO (k:=(c.ps.length-1))) (nc (zP (G:=kS)) (ne (zbd [1,1]) (nc zx ?_))))))));refine aS (aR ?_);refine nc zl (nc zl (nc z7 (nc zg (nc z8 (nc zl (nc (z4 (j:=(c.ps.length-1))) (nc z7 (nc zg (nc zbc ?_)))))))));refine AWp.wk ((a7 (s':=[(5,AV.bp 5 0 []),(100005,.bx (psw p)),(450001,.obj),(35500100,.sl 300001 0 c.ns.length 5),(35500101,.mref 300003),(35500102,.sl 300002 0 (c.ps.length-1) 2),(300001,.mrow 194 5 (c.ns.map Nd.cv)),(300003,.mp (c.vr.map vrv)),(300002,.mrow 207 2 (c.ps.map psv))]) ⟨rfl,rfl,rfl,rfl,rfl,rfl,rfl,rfl,rfl,trivial⟩).trans (c1n 300002 (c.ps.length-1) rfl rfl (by rw [length_map];omega) (by kernel_rfl))) ?_;refine aS (aD (by kernel_rfl) (by kernel_rfl) ?_);refine nc (zbe 0) (nc zh (nc (zbe 1) (nc zh (nc ze (nc ze ?_)))));refine ⟨by kernel_rfl,?_⟩;refine aT ⟨.inr rfl,_,Wk.refl _,rfl,rfl,rfl,rfl,?_,rfl,rfl,?_,trivial⟩
 ·show _=some (AV.sl 300002 0 c.ps.dropLast.length 2);rw [List.length_dropLast];rfl
 ·show _=some (AV.mrow 207 2 (c.ps.dropLast.map psv));rw [List.dropLast_eq_take,List.map_take];rfl
theorem a0y (W:World) (t:Tm):AFun Tryz.prog W 171 [t.cw] (.val (.b (decide (t.f<0)))):=by
 refine c9 (rs:=[.b (decide (t.f<0))]) Tryz.func171 Tryz.ntmps171 rfl rfl rfl rfl ?_;intro w U hW;refine aS (aR ?_);refine nc zd (nc ze ?_);refine aS (aR ?_);refine nc zg (nc zh (nc zi (nc ze ?_)));exact aT ⟨.inr rfl,rfl⟩
theorem a2t (W:World) (t:Tm) (h1 : -9223372036854775808<=t.f) (h2:t.f<0):AFun Tryz.prog W 172 [t.cw] (.val (.i (-1-t.f))):=by
 refine c9 (rs:=[.i (-1-t.f)]) Tryz.func172 Tryz.ntmps172 rfl rfl rfl rfl ?_;intro w U hW;refine aS (aR ?_);refine nc zd (nc ze ?_);refine aS (aR ?_);refine nc zg (nc zh (nc zB (nc ze ?_)));exact aT ⟨.inr rfl,rfl⟩
theorem b8e (l:List Nd) (x:Nd):(l++[x])[l.length]?=some x:=by simp
set_option maxHeartbeats 2000000 in
theorem a4x (c:Cl) (t:Tm) (ht:t.rng) (hl:c.ns.length<=1000000):r5 Tryz.prog 151 (s9 c) [.bp 350001 0 [],.val t.cw] (.val (.i (c.ns.length:Int))) (s9 (q9 c t)):=by
 have tS:=(Tm.rng_iff _).1 ht;have kC:=Nd.size_all c.ns;have fZ:(c.ns.map Nd.cv).length=c.ns.length:=length_map ..;refine l6 Tryz.func151 Tryz.ntmps151 rfl rfl rfl rfl rfl rfl ?_;intro w U hU;refine aS (aR ?_);refine ne zd (nc ze ?_);refine aS (aR ?_);refine nc zl (nc z7 (nc zg (nc z8 (nc zX (nc ze ?_)))));refine aS (aD (by kernel_rfl) (by kernel_rfl) ?_);refine nc zl (nc zl (nc z7 (nc zg (nc z8 (nc zj (nc zl (nc zC (nc zy (ne (zbb 300022) (nc z7 (nc zg (nc zbc ?_))))))))))));refine ⟨by kernel_rfl,?_⟩;obtain ⟨c1,gO⟩:∃ c1:Cl,c1=⟨c.ns++[⟨t,0,c.ns.length,0⟩],c.vr,c.ps⟩:=⟨_,rfl⟩
 have bS:c1.ns=c.ns++[⟨t,0,c.ns.length,0⟩]:=by rw [gO]
 have eI:c1.ns.length=c.ns.length+1:=by rw [bS,length_append];rfl
 refine AWp.wk ((a7 (s':=[(0,AV.bp 350001 0 []),(3,.bp 3 0 []),(100003,.bx t.cw),(5,.val (.i (c.ns.length:Int))),(450001,.obj),(35500100,.sl 300022 0 c1.ns.length 5),(35500101,.mref 300003),(35500102,.sl 300002 0 c1.ps.length 2),(300022,.mrow 194 5 (c1.ns.map Nd.cv)),(300003,.mp (c1.vr.map vrv)),(300002,.mrow 207 2 (c1.ps.map psv))]) ⟨rfl,rfl,rfl,rfl,rfl,?_,rfl,?_,?_,?_,?_,trivial⟩).trans (B2 300022 300001 rfl rfl (by kernel_rfl) (by kernel_rfl))) ?_
 ·rw [eI,<-fZ];rfl
 ·rw [gO];rfl
 ·rw [bS,map_append];rfl
 ·rw [gO];rfl
 ·rw [gO];rfl
 refine aS (aS (aR ?_));refine nc zj (nc (zk (z:=a0y w t)) (nc zZ ?_));by_cases hf:t.f<0
 case neg =>
  have hg:decide (t.f<0)=false:=by simpa using hf
  have bM:q9 c t=c1:=by unfold q9 W6 addV;rw [if_neg hf,if_neg hf,gO]
  rw [hg,bM];refine aC rfl (fun hc=>?_) (fun hc=>by cases hc);refine aS (aR ?_);refine nc zl (nc ze ?_);exact aT ⟨.inr rfl,_,Wk.refl _,rfl,rfl,rfl,rfl,rfl,rfl,rfl,rfl,trivial⟩
 have hg:decide (t.f<0)=true:=by simpa using hf
 rw [hg];refine aC rfl (fun hc=>by cases hc) (fun hc=>aK ?_);refine aS (aS (aD (by kernel_rfl) (by kernel_rfl) ?_));refine nc zl (nc z7 (nc zg (nc z8 (nc zj (nc (zk (z:=a2t w t tS.1.1 hf)) (nc (zbf (hik:=a3d _)) (nc zl (nc zE (nc zE (nc ze (nc ze ?_)))))))))));refine ⟨by kernel_rfl,?_⟩;rw [b3n];have fM:c1.vr=c.vr:=by rw [gO]
 rw [fM];refine aS (aR ?_);refine nc zl ?_;have hx:c1.ns[c.ns.length]?=some ⟨t,0,c.ns.length,0⟩:=by rw [bS];exact b8e _ _
 have kS:=Nd.map_at hx;have vZ:(c1.ns.map Nd.cv).length=c1.ns.length:=length_map ..;cases kB:o7 c.vr (-1-t.f) with
 | some m =>
  have bM:q9 c t=⟨setUp c1.ns c.ns.length m,c.vr,c1.ps⟩:=by
   unfold q9 W6 addV;rw [if_pos hf,if_pos hf,kB];have:setUp c1.ns c.ns.length m=c.ns++[⟨t,0,m,0⟩]:=by unfold setUp;rw [r7 hx,bS,List.set_append_right _ _ (Nat.le_refl _)];simp
   rw [this,gO];rfl
  have cD:(setUp c1.ns c.ns.length m).map Nd.cv=(c1.ns.map Nd.cv).set c.ns.length (Nd.cw ⟨t,0,m,0⟩):=Q5 hx;refine aC rfl (fun hc=>?_) (fun hc=>by cases hc);refine aR ?_;refine nc zl (nc z7 (nc zg (nc z8 (nc zl (nc zl (nc (zO (k:=c.ns.length)) (nc z5 (nc (zR (F:=kS)) ?_))))))));rw [bM];refine AWp.wk (a7 (s':=(5,AV.val (.i (c.ns.length:Int)))::s9 ⟨setUp c1.ns c.ns.length m,c.vr,c1.ps⟩) ⟨rfl,rfl,?_,rfl,rfl,?_,rfl,rfl,trivial⟩) ?_
  ·show _=some (AV.sl 300001 0 (setUp c1.ns c.ns.length m).length 5);rw [H4];rfl
  ·show _=some (AV.mrow 194 5 ((setUp c1.ns c.ns.length m).map Nd.cv));rw [cD];rfl
  refine aS (aR ?_);refine nc zl (nc ze ?_);exact aT ⟨.inr rfl,_,Wk.refl _,rfl,rfl,rfl,rfl,rfl,rfl,rfl,rfl,trivial⟩
 | none =>
  have bM:q9 c t=⟨c1.ns,c.vr++[(-1-t.f,c.ns.length)],c1.ps⟩:=by unfold q9 W6 addV;rw [if_pos hf,if_pos hf,kB,gO];rfl
  have hput:=c0W (n:=c.ns.length) kB;refine aC rfl (fun hc=>by cases hc) (fun hc=>?_);refine aD (by kernel_rfl) (by kernel_rfl) ?_;refine nc zl (nc z7 (nc zg (nc z8 (nc zj (nc (zk (z:=a2t w t tS.1.1 hf)) (nc zl (nc (zbg (G:=a3d _)) ?_)))))));refine ⟨by kernel_rfl,?_⟩;rw [bM];refine AWp.wk (a7 (s':=(5,AV.val (.i (c.ns.length:Int)))::s9 ⟨c1.ns,c.vr++[(-1-t.f,c.ns.length)],c1.ps⟩) ⟨rfl,rfl,rfl,rfl,rfl,rfl,?_,rfl,trivial⟩) ?_
  ·show _=some (AV.mp ((c.vr++[(-1-t.f,c.ns.length)]).map vrv));rw [<-hput];rfl
  refine aS (aR ?_);refine nc zl (nc ze ?_);exact aT ⟨.inr rfl,_,Wk.refl _,rfl,rfl,rfl,rfl,rfl,rfl,rfl,rfl,trivial⟩
def trmOk (ns:List Nd):Prop:=∀ x∈ns,x.t.rng/\x.t.ok
theorem trmOk.add {c:Cl} (h:trmOk c.ns) {t:Tm} (h1:t.rng) (h2:t.ok):trmOk (q9 c t).ns:=fun x hx=>by
 rcases mem_append.1 hx with hx | hx
 ·exact h x hx
 ·rw [mem_singleton] at hx;rw [hx];exact ⟨h1,h2⟩
theorem trmOk.all {l:List Tm} (hl:∀ t∈l,t.rng/\t.ok):∀ {c:Cl},trmOk c.ns->trmOk (addAll c l).ns:=by
 induction l with
 | nil=>exact fun h=>h
 | cons t l ih =>
  intro c h;exact ih (fun s hs=>hl s (mem_cons_of_mem _ hs)) (h.add (hl t (by simp)).1 (hl t (by simp)).2)
theorem a8U {c:Cl} {l:List Tm} {k:Nat} {t:Tm} (h:l[k]?=some t):addAll c (l.take (k+1))=q9 (addAll c (l.take k)) t:=by
 unfold addAll;rw [List.take_add_one,h,List.foldl_append];rfl
theorem a3e (l:List Tm):∀ c:Cl,∃ N,(addAll c l).ns=c.ns++N/\N.length=l.length:=by
 induction l with
 | nil=>exact fun c=>⟨[],by simp [addAll],rfl⟩
 | cons t l ih =>
  intro c;obtain ⟨N,h,h2⟩:=ih (q9 c t);exact ⟨⟨t,0,W6 c t,0⟩::N,by
   show (addAll (q9 c t) l).ns=_;rw [h];show (c.ns++[⟨t,0,W6 c t,0⟩])++N=_;simp,by simp [h2]⟩
theorem G0 (c:Cl) (l:List Tm):(addAll c l).ns.length=c.ns.length+l.length:=by
 obtain ⟨N,h,h2⟩:=a3e l c;rw [h,length_append,h2]
set_option maxHeartbeats 4000000 in
theorem M6 (c:Cl) (n:Nat) (hn:n<c.ns.length) (hT:trmOk c.ns) (hl:(pC c n).1.ns.length<=1000000) (mF:(nT c.ns n).l.length≠0->nK c.ns n<=1000000):r5 Tryz.prog 155 (s9 c) [.bp 350001 0 [],.val (.i (n:Int))] (.tup [.i ((pC c n).2.1:Int),.i ((pC c n).2.2:Int)]) (s9 (pC c n).1):=by
 obtain ⟨x,hx⟩:=P6 hn;have kS:=Nd.map_at hx;have fZ:(c.ns.map Nd.cv).length=c.ns.length:=length_map ..;obtain ⟨tS,iR⟩:=hT x (mem_of_getElem? hx);have htr':=(Tm.rng_iff _).1 tS;have hto':=(Tm.ok_iff _).1 iR;have hnT:nT c.ns n=x.t:=by unfold nT;rw [r7 hx]
 have hnK:nK c.ns n=x.fi:=by unfold nK;rw [r7 hx]
 have kC:=Tm.size_all x.t.l;unfold pC at hl |-;rw [hnT,hnK] at hl |-;rw [hnK,hnT] at mF;refine l6 Tryz.func155 Tryz.ntmps155 rfl rfl rfl rfl rfl rfl ?_;intro w U hU;refine aS (aR ?_);refine nc ze (nc ze ?_);refine aS (aR ?_);refine nc zl (nc z7 (nc zg (nc z8 (nc zl (nc (zO (k:=n)) (nc z5 (nc (zP (G:=kS)) (ne zw (nc zx ?_)))))))));refine AWp.wk (a7 (s':=(0,AV.bp 350001 0 [])::(1,.val (.i (n:Int)))::(6,.bp 6 0 [])::(100006,.bx x.t.cw)::s9 c) ⟨rfl,rfl,rfl,rfl,rfl,rfl,rfl,rfl,rfl,rfl,rfl,trivial⟩) ?_;have pG:=a0y w x.t;by_cases hf:x.t.f<0
 case pos =>
  rw [show decide (x.t.f<0)=true by simpa using hf] at pG;rw [if_pos (.inl hf)];refine aS (aS (aR ?_));refine nc zj (nc (zk (z:=pG)) (nc zl (nc zq (nc zq (nc zq (nc zq (nc zp ?_)))))));refine aC rfl (fun hc=>?_) (fun hc=>by cases hc);refine aS (aR ?_);refine nc ze (nc ze ?_);exact aT ⟨.inr rfl,_,Wk.refl _,rfl,rfl,rfl,rfl,rfl,rfl,rfl,rfl,trivial⟩
 rw [show decide (x.t.f<0)=false by simpa using hf] at pG;by_cases h0:x.t.l.length=0
 case pos =>
  have g0:decide (((x.t.l.map Tm.cv).length:Int)=0)=true:=by rw [length_map];simpa using h0
  rw [if_pos (.inr h0)];refine aS (aS (aR ?_));refine nc zj (nc (zk (z:=pG)) (nc zl (nc (zg (r:=gb)) (nc (zh (r:=gb)) (nc (zo (r:=gb)) (nc (zD (r:=gb)) (nc zr ?_)))))));refine aC rfl (fun hc=>?_) (fun hc=>by rw [g0] at hc;cases hc);refine aS (aR ?_);refine nc ze (nc ze ?_);exact aT ⟨.inr rfl,_,Wk.refl _,rfl,rfl,rfl,rfl,rfl,rfl,rfl,rfl,trivial⟩
 have g0:decide (((x.t.l.map Tm.cv).length:Int)=0)=false:=by rw [length_map];simpa using h0
 have gA:¬ (x.t.f<0\/x.t.l.length=0):=by omega
 rw [if_neg gA] at hl |-;refine aS (aS (aR ?_));refine nc zj (nc (zk (z:=pG)) (nc zl (nc (zg (r:=gb)) (nc (zh (r:=gb)) (nc (zo (r:=gb)) (nc (zD (r:=gb)) (nc zr ?_)))))));refine aC rfl (fun hc=>by rw [g0] at hc;cases hc) (fun hc=>aK ?_);refine AWp.wk (a7 (s':=(0,AV.bp 350001 0 [])::(1,.val (.i (n:Int)))::(6,.bp 6 0 [])::(100006,.bx x.t.cw)::s9 c) ⟨rfl,rfl,rfl,rfl,rfl,rfl,rfl,rfl,rfl,rfl,rfl,trivial⟩) ?_;by_cases oU:x.fi=0
 case neg =>
  have mF:=mF h0;rw [if_neg oU];refine aS (aS (aR ?_));refine nc zl (nc z7 (nc zg (nc z8 (nc zl (nc (zO (k:=n)) (nc z5 (nc (zP (G:=kS)) (nc zD ?_))))))));refine aC rfl (fun hc=>?_) (fun hc=>aK ?_)
  ·have:(x.fi:Int)=0:=by simpa using hc
   omega
  refine aS (aR ?_);refine nc zl (nc z7 (nc zg (nc z8 (nc zl (nc (zO (k:=n)) (nc z5 (nc (zP (G:=kS)) (nc ze ?_))))))));refine aS (aD (by kernel_rfl) (by kernel_rfl) ?_);refine nc zl (nc zl (nc zg (nc zh (nc zo (nc zA (nc ze (nc ze ?_)))))));refine ⟨by kernel_rfl,?_⟩;refine aT ⟨.inr rfl,_,Wk.refl _,?_,rfl,rfl,rfl,rfl,rfl,rfl,rfl,trivial⟩;show some (AV.tup [.i (x.fi:Int),.i ((x.fi:Int)+((x.t.l.map Tm.cv).length:Nat))])=some (AV.tup [.i (x.fi:Int),.i ((x.fi+x.t.l.length:Nat):Int)]);rw [length_map];congr 5
 rw [if_pos oU] at hl |-;obtain ⟨c1,gO⟩:∃ c1,c1=c.setFi n c.ns.length:=⟨_,rfl⟩
 rw [<-gO] at hl |-;have bS:c1.ns=setFi c.ns n c.ns.length:=by rw [gO];rfl
 have cD:c1.ns.map Nd.cv=(c.ns.map Nd.cv).set n (Nd.cw { x with fi:=c.ns.length }):=by rw [bS];exact b4f hx
 have eI:c1.ns.length=c.ns.length:=by rw [bS];unfold setFi;simp
 have iK:c1.ns[n]?=some { x with fi:=c.ns.length }:=by rw [bS];unfold setFi;rw [List.getElem?_set_self hn,r7 hx]
 rw [G0,eI] at hl;refine aS (aS (aR ?_));refine nc zl (nc z7 (nc zg (nc z8 (nc zl (nc (zO (k:=n)) (nc z5 (nc (zP (G:=kS)) (nc zD ?_))))))));refine aC rfl (fun hc=>?_) (fun hc=>?_)
 case refine_2 =>
  have:¬ (x.fi:Int)=0:=by simpa using hc
  omega
 refine aS (aD (by kernel_rfl) (by kernel_rfl) ?_);refine nc zl (nc z7 (nc zg (nc z8 (nc zl (nc zl (nc z7 (nc zg (nc z8 (nc zX (nc (zO (k:=n)) (nc z5 (nc (zR (F:=kS)) ?_))))))))))));refine ⟨by kernel_rfl,?_⟩;refine AWp.wk (a7 (s':=(0,AV.bp 350001 0 [])::(1,.val (.i (n:Int)))::(6,.bp 6 0 [])::(100006,.bx x.t.cw)::s9 c1) ⟨rfl,rfl,rfl,rfl,rfl,?_,?_,?_,?_,?_,?_,trivial⟩) ?_
 ·show _=some (AV.sl 300001 0 c1.ns.length 5);rw [eI];rfl
 ·rfl
 ·rw [gO];rfl
 ·show _=some (AV.mrow 194 5 (c1.ns.map Nd.cv));rw [cD];rfl
 ·rw [gO];rfl
 ·rw [gO];rfl
 refine aS (aR ?_);refine nc zg (nc zh (nc zo (nc zl ?_)));refine aB (n5 x.t.l.length (fun k=>(0,AV.bp 350001 0 [])::(1,.val (.i (n:Int)))::(6,.bp 6 0 [])::(100006,.bx x.t.cw)::(48,.val (.lst (x.t.l.map Tm.cv)))::(49,.val (.i (x.t.l.map Tm.cv).length))::(50,.val (.i k))::s9 (addAll c1 (x.t.l.take k))) (a7 ⟨rfl,rfl,rfl,rfl,rfl,rfl,rfl,rfl,rfl,rfl,rfl,rfl,rfl,rfl,trivial⟩) ?_);intro k hk;refine aS (aR ?_);refine nc zi ?_;refine aS (aC rfl (fun kA=>?_) (fun kA=>?_))
 ·have kF:k<x.t.l.length:=by simpa using kA
  obtain ⟨y,hy⟩:∃ y,x.t.l[k]?=some y:=⟨x.t.l[k],List.getElem?_eq_getElem kF⟩
  have eM:=Tm.map_at hy;have wC:=mem_of_getElem? hy;have dO:(addAll c1 (x.t.l.take k)).ns.length<=1000000:=by rw [G0,eI,List.length_take];omega
  obtain ⟨ck,gW⟩:∃ ck,ck=addAll c1 (x.t.l.take k):=⟨_,rfl⟩
  have kP:=a8U (c:=c1) hy;rw [<-gW] at kP dO |-;refine aK ?_;refine aS (aB (aS (aR ?_)));refine nc (zt (j:=k) (H:=eM) (hz:=kC)) (nc zu (ne zw (nc zx ?_)));refine aR ?_;refine nc zl (nc zj (nc (zW (z:=a4x ck y (htr'.2 y wC) dO) (G:=i0 (by first | rfl | kernel_rfl))) ?_));refine aR ?_;refine nc zA (nc zl ?_);refine ⟨kF,?_⟩;show Wk _ _ _ _ (_::_::_::_::_::_::_::s9 (addAll c1 (x.t.l.take (k+1))));rw [kP];exact a7 ⟨rfl,rfl,rfl,rfl,rfl,rfl,rfl,rfl,rfl,rfl,rfl,rfl,rfl,rfl,trivial⟩
 ·have kF:k=x.t.l.length:=by
   have:¬ k<x.t.l.length:=by simpa using kA
   omega
  subst kF;rw [List.take_length];obtain ⟨N,hN,_⟩:=a3e x.t.l c1;have jA:(addAll c1 x.t.l).ns[n]?=some { x with fi:=c.ns.length }:=by rw [hN,List.getElem?_append_left (by rw [eI];exact hn)];exact iK
  have oH:=Nd.map_at jA;obtain ⟨c2,gY⟩:∃ c2,c2=addAll c1 x.t.l:=⟨_,rfl⟩
  have kL:c2.ns.length=c.ns.length+x.t.l.length:=by rw [gY,G0,eI]
  have hlm2:(c2.ns.map Nd.cv).length=c2.ns.length:=length_map ..;rw [<-gY] at oH |-;refine aE ?_;refine AWp.wk (a7 (s':=(0,AV.bp 350001 0 [])::(1,.val (.i (n:Int)))::(6,.bp 6 0 [])::(100006,.bx x.t.cw)::s9 c2) ⟨rfl,rfl,rfl,rfl,rfl,rfl,rfl,rfl,rfl,rfl,rfl,trivial⟩) ?_;refine aS (aR ?_);refine nc zl (nc z7 (nc zg (nc z8 (nc zl (nc (zO (k:=n)) (nc z5 (nc (zP (G:=oH)) (nc ze ?_))))))));refine aS (aD (by kernel_rfl) (by kernel_rfl) ?_);refine nc zl (nc zl (nc zg (nc zh (nc zo (nc zA (nc ze (nc ze ?_)))))));refine ⟨by kernel_rfl,?_⟩;refine aT ⟨.inr rfl,_,Wk.refl _,?_,rfl,rfl,rfl,rfl,rfl,rfl,rfl,trivial⟩;show some (AV.tup [.i (c.ns.length:Int),.i ((c.ns.length:Int)+((x.t.l.map Tm.cv).length:Nat))])=some (AV.tup [.i (c.ns.length:Int),.i ((c.ns.length+x.t.l.length:Nat):Int)]);rw [length_map];congr 5
def Q3 (l:List (Int×Nat)):Prop:=(l.map Prod.fst).Nodup/\∀ p∈l,0<=p.1
theorem b0M {l:List (Int×Nat)} {v:Int} (h:o7 l v=none):v∉l.map Prod.fst:=by
 induction l with
 | nil=>simp
 | cons p l ih =>
  rw [o7] at h;split at h
  ·cases h
  ·rename_i kE;rw [map_cons,mem_cons];exact fun e=>e.elim (fun e=>kE e.symm) (ih h)
theorem Q6 {l:List (Int×Nat)} (hn:(l.map Prod.fst).Nodup) {v:Int} {m:Nat}:o7 l v=some m↔(v,m)∈l:=by
 induction l with
 | nil=>simp [o7]
 | cons p l ih =>
  rw [map_cons] at hn;obtain ⟨h1,h2⟩:=List.nodup_cons.1 hn;rw [o7,mem_cons];by_cases e:p.1=v
  ·rw [if_pos e];constructor
   ·intro h;left;rw [<-e,<-Option.some.inj h]
   ·rintro (h | h)
    ·rw [<-h]
    ·exact absurd (mem_map.2 ⟨(v,m),h,rfl⟩) (by rw [<-e];exact h1)
  ·rw [if_neg e,ih h2];exact ⟨.inr,fun h=>h.resolve_left fun h=>e (by rw [<-h])⟩
theorem b1c {l l':List (Int×Nat)} (hn:(l.map Prod.fst).Nodup) (hp:l'.Perm l) (v:Int):o7 l' v=o7 l v:=by
 have gP:(l'.map Prod.fst).Nodup:=(hp.map _).nodup_iff.2 hn;cases h:o7 l v with
 | some m=>rw [Q6 gP,hp.mem_iff];exact (Q6 hn).1 h
 | none =>
  cases h':o7 l' v with
  | none=>rfl
  | some m =>
   have:=(Q6 gP).1 h';rw [hp.mem_iff,<-Q6 hn,h] at this;cases this
theorem a4q {l l':List (Int×Nat)} (hn:(l.map Prod.fst).Nodup) (hp:l'.Perm l) (g:Nat->Tm) (v:Int):d9 (l'.map fun p=>(⟨p.1,g p.2⟩:Bd)) v=(o7 l v).map g:=by
 rw [<-b1c hn hp v];clear hn hp
 induction l' with
 | nil=>rfl
 | cons p l' ih =>
  rw [map_cons,d9,o7];show (if p.1=v then _ else _)=_;split
  ·rfl
  ·exact ih
theorem b1M (c:Cl) (t:Tm) (h:Q3 c.vr):Q3 (q9 c t).vr:=by
 show Q3 (addV c t);unfold addV;split
 ·rename_i hf;cases hl:o7 c.vr (-1-t.f) with
  | some m=>exact h
  | none =>
   refine ⟨?_,fun p hp=>?_⟩
   ·rw [map_append,List.nodup_append];refine ⟨h.1,by simp,fun a ha b hb=>?_⟩;rw [map_cons,List.map_nil,mem_singleton] at hb;exact fun e=>b0M hl (by rw [e,hb] at ha;exact ha)
   ·rcases mem_append.1 hp with hp | hp
    ·exact h.2 p hp
    ·rw [mem_singleton] at hp;rw [hp];show 0 <= -1-t.f;omega
 ·exact h
theorem b3v (l:List Tm):∀ c:Cl,Q3 c.vr->Q3 (addAll c l).vr:=by
 induction l with
 | nil=>exact fun c h=>h
 | cons t l ih=>exact fun c h=>ih _ (b1M c t h)
theorem a1b (c:Cl) (n:Nat) (h:Q3 c.vr):Q3 (pC c n).1.vr:=by
 unfold pC;split
 ·exact h
 ·split
  ·exact b3v _ _ h
  ·exact h
theorem a6l (c:Cl) (a b:Nat) (h:Q3 c.vr):Q3 (joinTo c a b).1.vr:=by
 unfold joinTo;split
 ·exact h
 ·split
  ·exact h
  ·exact a1b _ _ (a1b _ _ h)
theorem b3e {k:Nat} {c:Cl} {x y:Nat} {q} (e:D6 k c x y=some q) (h:Q3 c.vr):Q3 q.1.vr:=by
 unfold D6 at e;cases h1:n9 k c.ns x with
 | none=>rw [h1] at e;cases e
 | some q1 =>
  rw [h1] at e;simp only at e;cases h2:n9 k q1.1 y with
  | none=>rw [h2] at e;cases e
  | some q2 =>
   rw [h2] at e;simp only at e;split at e
   ·cases e;exact h
   ·split at e
    ·cases e;exact a6l _ _ _ h
    ·cases e;exact a6l _ _ _ h
theorem b7a:∀ (k:Nat) {c:Cl} {q},O7 k c=some q->Q3 c.vr->Q3 q.1.vr
 | 0,_,_,e,_=>by cases e
 | k+1,c,q,e,h=>by
  rw [O7] at e;cases h1:c.ps.getLast? with
  | none=>rw [h1] at e;cases e;exact h
  | some p =>
   rw [h1] at e;simp only at e;cases h2:D6 k ⟨c.ns,c.vr,c.ps.dropLast⟩ p.1 p.2 with
   | none=>rw [h2] at e;cases e
   | some q1 =>
    rw [h2] at e;simp only at e;split at e
    ·exact b7a k e (b3e h2 h)
    ·cases e;exact b3e h2 h
theorem b7f:∀ {k:Nat} {l:List (Tm×Tm)} {c:Cl} {q},s6 k l c=some q->Q3 c.vr->Q3 q.1.vr
 | k,[],c,q,e,h=>by cases e;exact h
 | k,p::l,c,q,e,h=>by
  rw [s6] at e;cases h2:O7 k (openC c p) with
  | none=>rw [h2] at e;cases e
  | some q1 =>
   rw [h2] at e;simp only at e;have h3:Q3 q1.1.vr:=b7a k h2 (b1M _ _ (b1M _ _ h));split at e
   ·exact b7f e h3
   ·cases e;exact h3
theorem a4N {k:Nat}:∀ (j n:Nat) {c:Cl} {hs:List Nat} {q},E0 k j n c hs=some q->Q3 c.vr->Q3 q.1.vr
 | 0,_,_,_,_,e,_=>by cases e
 | j+1,n,c,hs,q,e,h=>by
  rw [E0] at e;split at e
  ·cases h1:n9 k c.ns n with
   | none=>rw [h1] at e;cases e
   | some q1 =>
    rw [h1] at e;simp only at e;split at e
    ·exact a4N j _ e h
    ·cases h2:a3B k (List.range' (pC ⟨q1.1,c.vr,c.ps⟩ n).2.1 ((pC ⟨q1.1,c.vr,c.ps⟩ n).2.2-(pC ⟨q1.1,c.vr,c.ps⟩ n).2.1)) (pC ⟨q1.1,c.vr,c.ps⟩ n).1.ns with
     | none=>rw [h2] at e;cases e
     | some ns =>
      rw [h2] at e;simp only at e;exact a4N j _ e (a1b ⟨q1.1,c.vr,c.ps⟩ n h)
  ·cases e;exact h
theorem b7O {k:Nat}:∀ (j i:Nat) {c:Cl} {o:List Nat} {q},a2n k j i c o=some q->Q3 c.vr->Q3 q.1.vr
 | 0,_,_,_,_,e,_=>by cases e
 | j+1,i,c,o,q,e,h=>by
  rw [a2n] at e;split at e
  ·cases e;exact h
  ·rename_i g hg;split at e
   ·cases e
   ·exact b7O j _ e (a1b c g h)
theorem G5 {l:List (Int×Nat)} (hn:(l.map Prod.fst).Nodup) {p:Int×Nat} (hp:p∈l):o7 l p.1=some p.2:=by
 induction l with
 | nil=>cases hp
 | cons a l ih =>
  rw [map_cons,List.nodup_cons] at hn;rw [o7];rcases mem_cons.1 hp with e | e
  ·rw [<-e,if_pos rfl]
  ·rw [if_neg (fun e2=>hn.1 (by rw [e2];exact List.mem_map_of_mem e)),ih hn.2 e]
def pw (ns:List Nd):Nat:=i9 (gw ns 0) ns.length
theorem gw0 (ns:List Nd) (m:Nat):gw ns 0 m=if nK ns m=0 then (nT ns m).size else 1:=by
 unfold gw;rw [if_neg (Nat.not_lt_zero m)]
theorem C4 (ns:List Nd):ns.length<=pw ns:=by
 have:∀ N,N<=i9 (gw ns 0) N:=fun N=>by
  induction N with
  | zero=>exact Nat.le_refl _
  | succ N ih =>
   rw [i9];have:1<=gw ns 0 N:=by
    rw [gw0];split
    ·exact Tm.size_pos _
    ·exact Nat.le_refl _
   omega
 exact this _
theorem a3k {ns ns':List Nd} (hl:ns'.length=ns.length) (ht:∀ m,nT ns' m=nT ns m) (hk:∀ m,nK ns' m=nK ns m):pw ns'=pw ns:=a7W hl ht hk
theorem a8o {ns:List Nd} {n k:Nat}:(∀ m,nT (setUp ns n k) m=nT ns m)/\∀ m,nK (setUp ns n k) m=nK ns m:=by
 rcases Nat.lt_or_ge n ns.length with h | h
 ·exact ⟨fun m=>R4 h,fun m=>R3 h⟩
 ·have:setUp ns n k=ns:=List.set_eq_of_length_le h;rw [this];exact ⟨fun _=>rfl,fun _=>rfl⟩
theorem b1y {ns:List Nd} {n:Nat} {x:Int}:(∀ m,nT (setUs ns n x) m=nT ns m)/\∀ m,nK (setUs ns n x) m=nK ns m:=by
 rcases Nat.lt_or_ge n ns.length with h | h
 ·exact ⟨fun m=>a1p h,fun m=>a1g h⟩
 ·have:setUs ns n x=ns:=List.set_eq_of_length_le h;rw [this];exact ⟨fun _=>rfl,fun _=>rfl⟩
theorem b7Q {ns:List Nd} {n k:Nat}:pw (setUp ns n k)=pw ns:=a3k G4 a8o.1 a8o.2
theorem b7T {ns:List Nd} {n:Nat} {x:Int}:pw (setUs ns n x)=pw ns:=a3k Q1 b1y.1 b1y.2
theorem U6:∀ (k:Nat) {ns:List Nd} {n:Nat} {q},n9 k ns n=some q->pw q.1=pw ns
 | 0,_,_,_,e=>by cases e
 | k+1,ns,n,q,e=>by
  rw [n9] at e;split at e
  ·cases e;rfl
  ·rw [U6 k e,b7Q]
theorem a5p (c:Cl) (t:Tm):pw (q9 c t).ns=pw c.ns+t.size:=by
 unfold pw;rw [y5,i9];have h1:i9 (gw (q9 c t).ns 0) c.ns.length=i9 (gw c.ns 0) c.ns.length:=r6 fun m hm=>by rw [gw0,gw0];unfold nK nT;rw [a1w c t hm]
 have h2:gw (q9 c t).ns 0 c.ns.length=t.size:=by rw [gw0];unfold nK nT q9;rw [G9];exact if_pos rfl
 rw [h1,h2]
theorem b4n (l:List Tm):∀ c:Cl,pw (addAll c l).ns=pw c.ns+(l.map Tm.size).sum:=by
 induction l with
 | nil=>exact fun c=>rfl
 | cons t l ih=>intro c;rw [show addAll c (t::l)=addAll (q9 c t) l from rfl,ih,a5p,map_cons,sum_cons];omega
theorem J6 (c:Cl) (n:Nat):pw (pC c n).1.ns=pw c.ns:=by
 unfold pC;split
 ·rfl
 ·rename_i hv;split
  ·rename_i hk;have hn:n<c.ns.length:=by
    rcases Nat.lt_or_ge n c.ns.length with h | h
    ·exact h
    ·exact absurd (.inr (by unfold nT;rw [a4X h];rfl)) hv
   rw [K1 _ c hn];obtain ⟨l,hl⟩:∃ l,l=(nT c.ns n).l:=⟨_,rfl⟩
   rw [<-hl];have kD:=T4 l c;have gP:n<(addAll c l).ns.length:=by omega
   have h1:=b4n l c;show pw (setFi (addAll c l).ns n c.ns.length)=_;unfold pw at h1 |-;rw [P9];have h2:i9 (gw (setFi (addAll c l).ns n c.ns.length) 0) (addAll c l).ns.length=i9 (upd (gw (addAll c l).ns 0) n 1) (addAll c l).ns.length:=r6 fun m hm=>by
    rw [gw0];by_cases e:m=n
    ·subst e;rw [j5,H7 gP,j5,if_neg (by omega)]
    ·rw [p5 e,gw0,H7 gP,p5 e,N4 gP]
   have h3:=L1 (f:=gw (addAll c l).ns 0) (x:=1) gP;have h4:gw (addAll c l).ns 0 n=(nT c.ns n).size:=by rw [gw0,show nK (addAll c l).ns n=0 by unfold nK at hk |-;rw [D4 l c hn];exact hk,if_pos rfl];unfold nT;rw [D4 l c hn]
   have h6:=Tm.size_sym (t:=nT c.ns n) (fun e=>hv (.inl e));rw [<-hl] at h6;rw [h2];omega
  ·rfl
theorem a6o (c:Cl) (a b:Nat):pw (joinTo c a b).1.ns=pw c.ns:=by
 unfold joinTo;split
 ·exact b7Q
 ·split
  ·rfl
  ·show pw (setUp _ _ _)=_;rw [b7Q];show pw (pC (pC c a).1 b).1.ns=_;rw [J6,J6]
theorem a4e {k:Nat} {c:Cl} {x y:Nat} {q} (e:D6 k c x y=some q):pw q.1.ns=pw c.ns:=by
 unfold D6 at e;cases h1:n9 k c.ns x with
 | none=>rw [h1] at e;cases e
 | some q1 =>
  rw [h1] at e;simp only at e;cases h2:n9 k q1.1 y with
  | none=>rw [h2] at e;cases e
  | some q2 =>
   rw [h2] at e;simp only at e;have h3:pw q2.1=pw c.ns:=by rw [U6 k h2,U6 k h1]
   split at e
   ·cases e;exact h3
   ·split at e
    ·cases e;rw [a6o];exact h3
    ·cases e;rw [a6o];exact h3
theorem b2e:∀ (k:Nat) {c:Cl} {q},O7 k c=some q->pw q.1.ns=pw c.ns
 | 0,_,_,e=>by cases e
 | k+1,c,q,e=>by
  rw [O7] at e;cases h1:c.ps.getLast? with
  | none=>rw [h1] at e;cases e;rfl
  | some p =>
   rw [h1] at e;simp only at e;cases h2:D6 k ⟨c.ns,c.vr,c.ps.dropLast⟩ p.1 p.2 with
   | none=>rw [h2] at e;cases e
   | some q1 =>
    rw [h2] at e;simp only at e;split at e
    ·rw [b2e k e,a4e h2]
    ·cases e;rw [a4e h2]
def plc (l:List (Tm×Tm)):Nat:=(l.map fun p=>p.1.size+p.2.size).sum
theorem b7h:∀ {k:Nat} {l:List (Tm×Tm)} {c:Cl} {q},s6 k l c=some q->pw q.1.ns<=pw c.ns+plc l
 | k,[],c,q,e=>by cases e;exact Nat.le_refl _
 | k,p::l,c,q,e=>by
  rw [s6] at e;have hp:plc (p::l)=p.1.size+p.2.size+plc l:=by unfold plc;rw [map_cons,sum_cons]
  cases h2:O7 k (openC c p) with
  | none=>rw [h2] at e;cases e
  | some q1 =>
   rw [h2] at e;simp only at e;have h3:pw q1.1.ns=pw c.ns+p.1.size+p.2.size:=by rw [b2e k h2];show pw (q9 (q9 c p.1) p.2).ns=_;rw [a5p,a5p]
   split at e
   ·have:=b7h e;omega
   ·cases e;omega
theorem b7l {k:Nat}:∀ (l:List Nat) {ns ns':List Nd},a3B k l ns=some ns'->pw ns'=pw ns
 | [],ns,ns',e=>by cases e;rfl
 | p::l,ns,ns',e=>by
  rw [a3B] at e;cases h1:n9 k ns p with
  | none=>rw [h1] at e;cases e
  | some q =>
   rw [h1] at e;simp only at e;rw [b7l l e,b7T,U6 k h1]
theorem a4U {k:Nat}:∀ (j n:Nat) {c:Cl} {hs:List Nat} {q},E0 k j n c hs=some q->pw q.1.ns=pw c.ns
 | 0,_,_,_,_,e=>by cases e
 | j+1,n,c,hs,q,e=>by
  rw [E0] at e;split at e
  ·cases h1:n9 k c.ns n with
   | none=>rw [h1] at e;cases e
   | some q1 =>
    rw [h1] at e;simp only at e;split at e
    ·rw [a4U j _ e];exact U6 k h1
    ·cases h2:a3B k (List.range' (pC ⟨q1.1,c.vr,c.ps⟩ n).2.1 ((pC ⟨q1.1,c.vr,c.ps⟩ n).2.2-(pC ⟨q1.1,c.vr,c.ps⟩ n).2.1)) (pC ⟨q1.1,c.vr,c.ps⟩ n).1.ns with
     | none=>rw [h2] at e;cases e
     | some ns =>
      rw [h2] at e;simp only at e;rw [a4U j _ e];show pw ns=_;rw [b7l _ h2,J6];exact U6 k h1
  ·cases e;rfl
theorem Y6 (ns:List Nd):trmOk ns↔∀ m,m<ns.length->(nT ns m).rng/\(nT ns m).ok:=by
 constructor
 ·intro h m hm;obtain ⟨x,hx⟩:=P6 hm;unfold nT;rw [r7 hx];exact h x (mem_of_getElem? hx)
 ·intro h x hx;obtain ⟨m,hm⟩:=List.getElem?_of_mem hx;have:=h m (List.getElem?_eq_some_iff.1 hm).1;unfold nT at this;rw [r7 hm] at this;exact this
theorem trmOk.same {ns ns':List Nd} (h:trmOk ns) (hl:ns'.length=ns.length) (ht:∀ m,nT ns' m=nT ns m):trmOk ns':=(Y6 _).2 fun m hm=>by
 rw [ht];exact (Y6 _).1 h m (by omega)
theorem trmOk.parts {c:Cl} (h:trmOk c.ns) {n:Nat} (hn:n<c.ns.length):trmOk (pC c n).1.ns:=by
 have h0:=(Y6 _).1 h n hn;unfold pC;split
 ·exact h
 ·split
  ·refine trmOk.all (fun t ht=>⟨((Tm.rng_iff _).1 h0.1).2 t ht,((Tm.ok_iff _).1 h0.2).2 t ht⟩) ?_;refine h.same (by unfold Cl.setFi setFi;simp) fun m=>?_;unfold Cl.setFi setFi nT;simp only;rw [getD_eq_getElem?_getD,List.getElem?_set];split
   ·rename_i e;subst e
    first | rfl | (rw [if_pos hn];rfl)
   ·rw [<-getD_eq_getElem?_getD]
  ·exact h
theorem I7:∀ (k:Nat) {ns:List Nd} {n:Nat} {r},n9 k ns n=some r->upOk ns->n<ns.length->upOk r.1/\r.1.length=ns.length/\r.2<ns.length/\(∀ m,nT r.1 m=nT ns m)/\∀ m,nK r.1 m=nK ns m
 | 0,_,_,_,e,_,_=>by cases e
 | k+1,ns,n,r,e,hu,hn=>by
  rw [n9] at e;split at e
  ·cases e;exact ⟨hu,rfl,hn,fun _=>rfl,fun _=>rfl⟩
  ·have h1:nU ns (nU ns n)<ns.length:=hu _ (hu n hn);have hl:(setUp ns n (nU ns (nU ns n))).length=ns.length:=H4 _ _ _;have dS:=hu.set (n:=n) h1;obtain ⟨a1,a2,a3,a4,a5⟩:=I7 k e dS (dS n (by rw [hl];exact hn));exact ⟨a1,a2.trans hl,by rw [hl] at a3;exact a3,fun m=>(a4 m).trans (a8o.1 m),fun m=>(a5 m).trans (a8o.2 m)⟩
theorem ClsC.ups {c:Cl} {H r:Nat->Nat} {E} (h:ClsC c H r E):upOk c.ns:=fun m hm=>(h.up m hm).1
theorem b1h (l:List Tm):∀ c:Cl,(addAll c l).ps=c.ps:=by
 induction l with
 | nil=>exact fun c=>rfl
 | cons t l ih=>exact fun c=>ih (q9 c t)
theorem a6F (c:Cl) (n:Nat):(pC c n).1.ps=c.ps:=by
 unfold pC;split
 ·rfl
 ·split
  ·rw [b1h];rfl
  ·rfl
def kidOk (ns:List Nd):Prop:=∀ n,n<ns.length->nK ns n≠0->∀ i,i<(nT ns n).l.length->nK ns n+i<ns.length
theorem kidOk.fi {ns:List Nd} (h:kidOk ns) {n:Nat} (hn:n<ns.length) (hl:ns.length<=1000000):(nT ns n).l.length≠0->nK ns n<=1000000:=fun h0=>by
 by_cases hk:nK ns n=0
 ·omega
 ·have:=h n hn hk 0 (by omega);omega
theorem Q2 {c:Cl} {n:Nat}:(pC c n).2.1<=(pC c n).2.2/\(pC c n).2.2-(pC c n).2.1<=(nT c.ns n).l.length:=by
 unfold pC;split
 ·simp
 ·split<;>simp
theorem b4x (l:List Tm):∀ c:Cl,∃ N,(addAll c l).ns=c.ns++N/\N.length=l.length/\∀ x∈N,x.fi=0:=by
 induction l with
 | nil=>exact fun c=>⟨[],by simp [addAll],rfl,fun x hx=>by cases hx⟩
 | cons t l ih =>
  intro c;obtain ⟨N,h,h2,h3⟩:=ih (q9 c t);refine ⟨⟨t,0,W6 c t,0⟩::N,?_,by simp [h2],fun x hx=>?_⟩
  ·show (addAll (q9 c t) l).ns=_;rw [h];show (c.ns++[⟨t,0,W6 c t,0⟩])++N=_;simp
  ·rcases mem_cons.1 hx with rfl | hx
   ·rfl
   ·exact h3 x hx
theorem kidOk.parts {c:Cl} (h:kidOk c.ns) {n:Nat} (hn:n<c.ns.length):kidOk (pC c n).1.ns:=by
 unfold pC;split
 ·exact h
 ·split
  ·obtain ⟨N,e1,e2,e3⟩:=b4x (nT c.ns n).l (c.setFi n c.ns.length);have dH:(c.setFi n c.ns.length).ns.length=c.ns.length:=by unfold Cl.setFi setFi;simp
   intro m hm hk i hi;have kD:(addAll (c.setFi n c.ns.length) (nT c.ns n).l).ns.length=c.ns.length+(nT c.ns n).l.length:=by rw [G0,dH]
   simp only at hm hk hi |-;rw [kD] at hm |-;rcases Nat.lt_or_ge m c.ns.length with hml | hml
   ·have hg:(addAll (c.setFi n c.ns.length) (nT c.ns n).l).ns.getD m ndD=(setFi c.ns n c.ns.length).getD m ndD:=by rw [e1,getD_eq_getElem?_getD,List.getElem?_append_left (by rw [dH];exact hml),<-getD_eq_getElem?_getD];rfl
    have hs:(setFi c.ns n c.ns.length).getD m ndD=if n=m then { c.ns.getD n ndD with fi:=c.ns.length } else c.ns.getD m ndD:=by
     unfold setFi;rw [getD_eq_getElem?_getD,List.getElem?_set];by_cases e:n=m
     ·rw [if_pos e,if_pos e,if_pos hn];rfl
     ·rw [if_neg e,if_neg e,<-getD_eq_getElem?_getD]
    have hi:i<((addAll (c.setFi n c.ns.length) (nT c.ns n).l).ns.getD m ndD).t.l.length:=hi;have hk:((addAll (c.setFi n c.ns.length) (nT c.ns n).l).ns.getD m ndD).fi≠0:=hk;show ((addAll (c.setFi n c.ns.length) (nT c.ns n).l).ns.getD m ndD).fi+i<_;rw [hg,hs] at hk hi |-;by_cases e:n=m
    ·subst e;rw [if_pos rfl] at hi |-;have hi:i<(c.ns.getD n ndD).t.l.length:=hi;show c.ns.length+i<_;unfold nT;omega
    ·rw [if_neg e] at hk hi |-;have:=h m hml hk i hi;unfold nK at this;omega
   ·exfalso;apply hk;unfold nK;rw [e1,getD_eq_getElem?_getD,List.getElem?_append_right (by rw [dH];exact hml)];cases hN:N[m-(c.setFi n c.ns.length).ns.length]? with
    | none=>rfl
    | some x=>exact e3 x (mem_of_getElem? hN)
  ·exact h
theorem b7s {c:Cl} (h:kidOk c.ns) {n:Nat} (hn:n<c.ns.length) (hl:c.ns.length<=1000000):(pC c n).2.1<=1000000:=by
 unfold pC;split
 ·exact Nat.zero_le _
 ·rename_i h0;split
  ·exact hl
  ·exact h.fi hn hl (by omega)
theorem a0p {c:Cl} (h:kidOk c.ns) {n:Nat} (hn:n<c.ns.length):(pC c n).2.2<=(pC c n).1.ns.length:=by
 unfold pC;split
 ·exact Nat.zero_le _
 ·rename_i h0;split
  ·rw [G0];show c.ns.length+_<=(setFi c.ns n c.ns.length).length+_;unfold setFi;rw [List.length_set];exact Nat.le_refl _
  ·rename_i hk;have:=h n hn hk ((nT c.ns n).l.length-1) (by omega);show nK c.ns n+(nT c.ns n).l.length<=c.ns.length;omega
theorem c1F {m k:Nat} (h:k<m) (f:Nat->Nat×Nat):((List.range m).reverse.map f)[k]?=some (f (m-1-k)):=by
 rw [getElem?_map,List.getElem?_reverse (by simpa using h),List.length_range,List.getElem?_range (by omega)];rfl
set_option maxHeartbeats 2000000 in
theorem a3b (c:Cl) (a b:Nat) (ha:a<c.ns.length) (hb:b<c.ns.length) (hT:trmOk c.ns) (hp:pw c.ns<=1000000) (bE:c.ps.length<=50000000) (hfa:(nT c.ns a).l.length≠0->nK c.ns a<=1000000) (qB:(nT (pC c a).1.ns b).l.length≠0->nK (pC c a).1.ns b<=1000000) (kW:b<(pC c a).1.ns.length) (hto1:(pC c a).2.2<=1000000) (xS:(pC c a).2.1<=1000000) (pN:(pC (pC c a).1 b).2.1<=1000000):r5 Tryz.prog 173 (s9 c) [.bp 350001 0 [],.val (.i (a:Int)),.val (.i (b:Int))] (.tup []) (s9 (a5L c a b)):=by
 have fX:pw (pC c a).1.ns<=1000000:=by rw [J6];exact hp
 have dZ:pw (pC (pC c a).1 b).1.ns<=1000000:=by rw [J6];exact fX
 have hT1:=hT.parts ha;have q1:=M6 c a ha hT (Nat.le_trans (C4 _) fX) hfa;have q2:=M6 (pC c a).1 b kW hT1 (Nat.le_trans (C4 _) dZ) qB;have hpp:=Q2 (c:=c) (n:=a);have qC:(pC (pC c a).1 b).1.ps=c.ps:=by rw [a6F,a6F]
 obtain ⟨c2,gY⟩:∃ c2,c2=(pC (pC c a).1 b).1:=⟨_,rfl⟩
 obtain ⟨fr,jD⟩:∃ x,x=(pC c a).2.1:=⟨_,rfl⟩
 obtain ⟨to,iR⟩:∃ x,x=(pC c a).2.2:=⟨_,rfl⟩
 obtain ⟨ot,hot⟩:∃ x,x=(pC (pC c a).1 b).2.1:=⟨_,rfl⟩
 obtain ⟨m,hm⟩:∃ m,m=to-fr:=⟨_,rfl⟩
 rw [<-jD,<-iR] at q1 hpp;rw [<-gY,<-hot] at q2;rw [<-gY] at qC;rw [<-jD] at xS;rw [<-iR] at hto1;rw [<-hot] at pN;have hP:a5L c a b=⟨c2.ns,c2.vr,c2.ps++(List.range m).reverse.map fun i=>(fr+i,ot+i)⟩:=by unfold a5L;rw [<-gY,<-jD,<-iR,<-hot,<-hm]
 obtain ⟨R,hR⟩:∃ R,R=(List.range m).reverse.map fun i=>(fr+i,ot+i):=⟨_,rfl⟩
 have oW:R.length=m:=by rw [hR];simp
 rw [hP,<-hR];refine l6 Tryz.func173 Tryz.ntmps173 rfl rfl rfl rfl rfl rfl ?_;intro w U hU;refine aS (aR ?_);refine nc zl (nc zl (nc (zW (z:=q1) (G:=i0 (by first | rfl | kernel_rfl))) (nc zl (nc zE (nc zE (nc ze (nc ze ?_)))))));refine aS (aR ?_);refine nc zl (nc zl (nc (zW (z:=q2) (G:=i0 (by first | rfl | kernel_rfl))) (nc zl (nc zE (nc zE (nc ze (nc ze ?_)))))));refine aS (aR ?_);refine nc zl (nc zl (nc zB (nc zB (nc ze ?_))));refine aB (n5 m (fun k=>(0,AV.bp 350001 0 [])::(6,.val (.i (fr:Int)))::(8,.val (.i (ot:Int)))::(10,.val (.i ((m:Int)-1-k)))::s9 ⟨c2.ns,c2.vr,c2.ps++R.take k⟩) (a7 ⟨rfl,rfl,rfl,?_,rfl,rfl,rfl,?_,rfl,rfl,?_,trivial⟩) ?_)
 ·show some (AV.val (.i ((to:Int)-fr-1)))=some (AV.val (.i ((m:Int)-1-(0:Nat))));have e:(to:Int)-fr-1=(m:Int)-1-((0:Nat):Int):=by omega
  rw [e]
 ·show some (AV.sl 300002 0 c2.ps.length 2)=some (AV.sl 300002 0 (c2.ps++[]).length 2);rw [append_nil]
 ·show some (AV.mrow 207 2 (c2.ps.map psv))=some (AV.mrow 207 2 ((c2.ps++[]).map psv));rw [append_nil]
 intro k hk;refine aS (aS (aR ?_));refine nc zl (nc zn ?_);refine aC rfl (fun hc=>?_) (fun hc=>?_)
 ·have kF:k<m:=by
   have:((m:Int)-1-k)>=0:=by simpa using hc
   omega
  have iL:R[k]?=some (fr+(m-1-k),ot+(m-1-k)):=by rw [hR];exact c1F kF _
  have kB:(c2.ps++R.take k).length<=100000000:=by rw [length_append,List.length_take,qC];omega
  have lH:=a5Z ⟨c2.ns,c2.vr,c2.ps++R.take k⟩ (fr+(m-1-k)) (ot+(m-1-k)) kB;have e1:(((fr+(m-1-k):Nat)):Int)=(fr:Int)+((m:Int)-1-k):=by omega
  have e2:(((ot+(m-1-k):Nat)):Int)=(ot:Int)+((m:Int)-1-k):=by omega
  rw [e1,e2] at lH;refine aK ?_;refine aS (aB (aR ?_));refine nc zl (nc zl (nc zl (nc zA (nc zl (nc zl (nc zA (nc (zW (z:=lH) (G:=i0 (by first | rfl | kernel_rfl))) ?_)))))));refine aR ?_;refine nc zl (nc zB (nc ze ?_));refine ⟨kF,?_⟩;show Wk _ _ _ _ (_::_::_::(10,.val (.i ((m:Int)-1-((k+1:Nat):Int))))::s9 ⟨c2.ns,c2.vr,c2.ps++R.take (k+1)⟩);have hps3:c2.ps++R.take (k+1)=c2.ps++R.take k++[(fr+(m-1-k),ot+(m-1-k))]:=by rw [List.take_add_one,iL,<-List.append_assoc];rfl
  rw [hps3,show (m:Int)-1-((k+1:Nat):Int)=(m:Int)-1-k-1 by omega];exact a7 ⟨rfl,rfl,rfl,rfl,rfl,rfl,rfl,rfl,rfl,rfl,rfl,trivial⟩
 ·have kF:k=m:=by
   have:¬ ((m:Int)-1-k)>=0:=by simpa using hc
   omega
  subst kF;rw [show R.take k=R by rw [<-oW,List.take_length]];exact aE ⟨.inl rfl,_,Wk.refl _,rfl,rfl,rfl,rfl,rfl,rfl,rfl,rfl,trivial⟩
theorem b7G {U:UX} {pre:List Nat} (hU:∀ k v,U.f k=some v->l7 pre k=true) {n:Nat} (h:l7 pre n=false):U.f n=none:=by
 cases e:U.f n with
 | none=>rfl
 | some v=>rw [hU n v e] at h;cases h
theorem a5I (U:UX) {n:Nat} (h:n<400000):U.f n=none:=by
 cases e:U.f n with
 | none=>rfl
 | some v=>have:=(U.hf n v e).1;omega
structure Fit (c:Cl):Prop where
 up:upOk c.ns
 kid:kidOk c.ns
 trm:trmOk c.ns
 big:pw c.ns<=1000000
theorem B1 {c:Cl} {n:Nat}:c.ns.length<=(pC c n).1.ns.length:=by
 unfold pC;split
 ·exact Nat.le_refl _
 ·split
  ·rw [G0];show _<=(setFi c.ns n c.ns.length).length+_;unfold setFi;rw [List.length_set];omega
  ·exact Nat.le_refl _
set_option maxHeartbeats 8000000 in
theorem b4m (k:Nat) (c:Cl) (x y:Nat) (q:Cl×Bool) (hj:D6 k c x y=some q) (hx:x<c.ns.length) (hy:y<c.ns.length) (hF:Fit c) (bE:c.ps.length<=50000000):r5 Tryz.prog 152 (s9 c) [.bp 350001 0 [],.val (.i (x:Int)),.val (.i (y:Int))] (.val (.b q.2)) (s9 q.1):=by
 have hl:c.ns.length<=1000000:=Nat.le_trans (C4 _) hF.big;unfold D6 at hj;cases h1:n9 k c.ns x with
 | none=>rw [h1] at hj;cases hj
 | some q1 =>
 rw [h1] at hj;simp only at hj;cases h2:n9 k q1.1 y with
 | none=>rw [h2] at hj;cases hj
 | some q2 =>
 rw [h2] at hj;simp only at hj;obtain ⟨u1,l1,x1,t1,k1⟩:=I7 k h1 hF.up hx;obtain ⟨u2,l2,y2,t2,k2⟩:=I7 k h2 u1 (by rw [l1];exact hy);have dG:=K7 c.vr c.ps k c.ns x q1 h1 hF.up hx hl;have bZ:=K7 c.vr c.ps k q1.1 y q2 h2 u1 (by rw [l1];exact hy) (by omega);obtain ⟨c3,tT⟩:∃ c3:Cl,c3=⟨q2.1,c.vr,c.ps⟩:=⟨_,rfl⟩
 have fS:c3.ns=q2.1:=by rw [tT]
 have iC:c3.ns.length=c.ns.length:=by rw [fS];omega
 have ht3:∀ m,nT c3.ns m=nT c.ns m:=fun m=>by rw [fS,t2,t1]
 have qP:∀ m,nK c3.ns m=nK c.ns m:=fun m=>by rw [fS,k2,k1]
 have hT3:trmOk c3.ns:=hF.trm.same iC ht3;have hlm3:(c3.ns.map Nd.cv).length=c3.ns.length:=length_map ..;rw [<-tT,<-fS] at hj;refine l6 Tryz.func152 Tryz.ntmps152 rfl rfl rfl rfl rfl rfl ?_;intro w U hU;refine aS (aR ?_);refine nc ze ?_;refine AWp.wk (x7 300001 400001 rfl rfl (b7G hU (by kernel_rfl)) (by kernel_rfl) (by kernel_rfl) (by kernel_rfl)) ?_;refine aS (aR ?_);refine nc zl (nc zl (nc (zW (z:=dG) (G:=i0 (by first | rfl | kernel_rfl))) (nc zl (nc zl (nc (zW (z:=bZ) (G:=i0 (by first | rfl | kernel_rfl))) (nc ze (nc ze ?_)))))));refine AWp.wk ((a7 (s':=(0,AV.bp 350001 0 [])::(1,.val (.i (q1.2:Int)))::(2,.val (.i (q2.2:Int)))::O5 ⟨q2.1,c.vr,c.ps⟩) ⟨rfl,rfl,rfl,rfl,rfl,rfl,rfl,rfl,rfl,rfl,trivial⟩).trans (x7 400001 300001 rfl rfl (a5I U (by decide)) (by kernel_rfl) (by kernel_rfl) (by kernel_rfl))) ?_;show AWp _ _ _ _ _ _ ((0,AV.bp 350001 0 [])::(1,.val (.i (q1.2:Int)))::(2,.val (.i (q2.2:Int)))::s9 ⟨q2.1,c.vr,c.ps⟩);rw [<-tT];refine aS (aS (aR ?_));refine nc zl (nc zl (nc zD ?_));by_cases he:q1.2=q2.2
 case pos =>
  rw [if_pos he] at hj;cases hj;refine aC rfl (fun hc=>?_) (fun hc=>?_)
  case refine_2=>rw [he] at hc;simp at hc
  refine aS (aR ?_);refine nc ze ?_;exact aT ⟨.inr rfl,_,Wk.refl _,rfl,rfl,rfl,rfl,rfl,rfl,rfl,rfl,trivial⟩
 rw [if_neg he] at hj;refine aC rfl (fun hc=>?_) (fun hc=>aK ?_)
 ·have:(q1.2:Int)=q2.2:=by simpa using hc
  omega
 refine AWp.wk (a7 (s':=(0,AV.bp 350001 0 [])::(1,.val (.i (q1.2:Int)))::(2,.val (.i (q2.2:Int)))::s9 c3) ⟨rfl,rfl,rfl,rfl,rfl,rfl,rfl,rfl,rfl,rfl,trivial⟩) ?_;have ha3:q1.2<c3.ns.length:=by omega
 have dV:q2.2<c3.ns.length:=by omega
 obtain ⟨na,hna⟩:=P6 ha3;obtain ⟨nb,hnb⟩:=P6 dV;have wD:=Nd.map_at hna;have wE:=Nd.map_at hnb;have mR:nT c3.ns q1.2=na.t:=by unfold nT;rw [r7 hna]
 have yF:nT c3.ns q2.2=nb.t:=by unfold nT;rw [r7 hnb]
 obtain ⟨a,ha⟩:∃ a,a=if nb.t.f<na.t.f then q2.2 else q1.2:=⟨_,rfl⟩
 obtain ⟨b,hb⟩:∃ b,b=if nb.t.f<na.t.f then q1.2 else q2.2:=⟨_,rfl⟩
 have hj:joinTo c3 a b=q:=by
  rw [mR,yF] at hj;split at hj
  ·rename_i h;rw [if_pos h] at ha hb;rw [ha,hb];exact Option.some.inj hj
  ·rename_i h;rw [if_neg h] at ha hb;rw [ha,hb];exact Option.some.inj hj
 have fJ:a<c3.ns.length:=by rw [ha];split<;>assumption
 have lT:b<c3.ns.length:=by rw [hb];split<;>assumption
 refine b3r ((0,AV.bp 350001 0 [])::(1,.val (.i (a:Int)))::(2,.val (.i (b:Int)))::s9 c3) (aS (aD (by kernel_rfl) (by kernel_rfl) ?_)) ?_
 ·skip
  refine nc zl (nc z7 (nc zg (nc z8 (nc zl (nc (zO (k:=q1.2)) (nc z5 (nc z5 (nc (zP (G:=wD)) (nc zl (nc z7 (nc zg (nc z8 (nc zl (nc (zO (k:=q2.2)) (nc z5 (nc z5 (nc (zP (G:=wE)) (nc zN ?_))))))))))))))))));refine ⟨by kernel_rfl,?_⟩;refine aC rfl (fun hc=>?_) (fun hc=>aK ?_)
  ·have hg:nb.t.f<na.t.f:=by simpa using hc
   rw [if_pos hg] at ha hb;refine aR ?_;refine nc zl (nc zl (nc ze (nc ze ?_)));rw [ha,hb];exact a7 ⟨rfl,rfl,rfl,rfl,rfl,rfl,rfl,rfl,rfl,rfl,trivial⟩
  ·have hg:¬ nb.t.f<na.t.f:=by simpa using hc
   rw [if_neg hg] at ha hb;rw [ha,hb];exact a7 ⟨rfl,rfl,rfl,rfl,rfl,rfl,rfl,rfl,rfl,rfl,trivial⟩
 clear hna hnb wD wE mR yF ha hb he dG bZ;obtain ⟨xa,yG⟩:=P6 fJ;obtain ⟨xb,hxb⟩:=P6 lT;have hxa':=Nd.map_at yG;have hxb':=Nd.map_at hxb;have mR:nT c3.ns a=xa.t:=by unfold nT;rw [r7 yG]
 have yF:nT c3.ns b=xb.t:=by unfold nT;rw [r7 hxb]
 unfold joinTo at hj;rw [mR,yF] at hj;refine aS (aD (by kernel_rfl) (by kernel_rfl) ?_);refine nc zl (nc z7 (nc zg (nc z8 (nc zl (nc (zO (k:=a)) (nc z5 (nc (zP (G:=hxa')) (nc zl (nc z7 (nc zg (nc z8 (nc zl (nc (zO (k:=b)) (nc z5 (nc (zP (G:=hxb')) (ne zw (ne zw (nc zx (nc zx ?_)))))))))))))))))));refine ⟨by kernel_rfl,?_⟩;refine AWp.wk (a7 (s':=(0,AV.bp 350001 0 [])::(1,.val (.i (a:Int)))::(2,.val (.i (b:Int)))::(7,.bp 7 0 [])::(100007,.bx xa.t.cw)::(8,.bp 8 0 [])::(100008,.bx xb.t.cw)::s9 c3) ⟨rfl,rfl,rfl,rfl,rfl,rfl,rfl,rfl,rfl,rfl,rfl,rfl,rfl,rfl,trivial⟩) ?_;have pG:=a0y w xa.t;by_cases hv:xa.t.f<0
 case pos =>
  rw [show decide (xa.t.f<0)=true by simpa using hv] at pG;rw [if_pos hv] at hj;subst hj;obtain ⟨c4,sQ⟩:∃ c4,c4=c3:=⟨_,rfl⟩
  rw [<-sQ] at yG hlm3 |-;have wF:=yG;have sR:=Nd.map_at wF;have mS:a<c4.ns.length:=by rw [sQ];exact fJ
  refine aS (aS (aR ?_));refine nc zj (nc (zk (z:=pG)) (nc zZ ?_));refine aC rfl (fun hc=>by cases hc) (fun hc=>aK ?_);refine aS (aR ?_);refine nc zl (nc z7 (nc zg (nc z8 (nc zl (nc zl (nc (zO (k:=a)) (nc z5 (nc (zR (F:=sR)) ?_))))))));refine AWp.wk (a7 (s':=s9 (c4.setUp a b)) ⟨rfl,?_,rfl,rfl,?_,rfl,rfl,trivial⟩) ?_
  ·show _=some (AV.sl 300001 0 (setUp c4.ns a b).length 5);rw [H4];rfl
  ·show _=some (AV.mrow 194 5 ((setUp c4.ns a b).map Nd.cv));rw [Q5 wF];rfl
  refine aS (aR ?_);refine nc ze ?_;exact aT ⟨.inr rfl,_,Wk.refl _,rfl,rfl,rfl,rfl,rfl,rfl,rfl,rfl,trivial⟩
 rw [show decide (xa.t.f<0)=false by simpa using hv] at pG;rw [if_neg hv] at hj;refine aS (aS (aR ?_));refine nc zj (nc (zk (z:=pG)) (nc zZ ?_));refine aC rfl (fun hc=>?_) (fun hc=>by cases hc);by_cases sS:xa.t.f=xb.t.f
 case neg =>
  have g:decide (xa.t.f≠xb.t.f)=true:=by simpa using sS
  rw [if_pos (.inl sS)] at hj;subst hj;refine aS (aS (aR ?_));refine nc zg (nc zh (nc zg (nc zh (nc z9 (nc zl (nc zq (nc zq (nc zq (nc zq (nc zq (nc zq (nc zq (nc zp ?_)))))))))))));refine aC rfl (fun hc=>?_) (fun hc=>by cases hc);refine aS (aR ?_);refine nc ze ?_;exact aT ⟨.inr rfl,_,Wk.refl _,rfl,rfl,rfl,rfl,rfl,rfl,rfl,rfl,trivial⟩
 have g:decide (xa.t.f≠xb.t.f)=false:=by simpa using sS
 refine aS (aS (aR ?_));refine nc zg (nc zh (nc zg (nc zh (nc z9 (nc zl (nc (zg (r:=gb)) (nc (zh (r:=gb)) (nc (zo (r:=gb)) (nc (zg (r:=gb)) (nc (zh (r:=gb)) (nc (zo (r:=gb)) (nc (z9 (r:=gb)) (nc zr ?_)))))))))))));by_cases dI:xa.t.l.length=xb.t.l.length
 case neg =>
  rw [if_pos (.inr dI)] at hj;subst hj;refine aC rfl (fun hc=>?_) (fun hc=>?_)
  case refine_2 =>
   have hc:=of_decide_eq_false hc;simp only [length_map,ne_eq,Decidable.not_not] at hc;omega
  refine aS (aR ?_);refine nc ze ?_;exact aT ⟨.inr rfl,_,Wk.refl _,rfl,rfl,rfl,rfl,rfl,rfl,rfl,rfl,trivial⟩
 rw [if_neg (by omega)] at hj;subst hj;refine aC rfl (fun hc=>?_) (fun hc=>aK ?_)
 ·exfalso;rw [length_map,length_map,dI] at hc;simp at hc
 refine AWp.wk (a7 (s':=(0,AV.bp 350001 0 [])::(1,.val (.i (a:Int)))::(2,.val (.i (b:Int)))::s9 c3) ⟨rfl,rfl,rfl,rfl,rfl,rfl,rfl,rfl,rfl,rfl,trivial⟩) ?_;have hp3:pw c3.ns<=1000000:=by rw [a3k iC ht3 qP];exact hF.big
 have jE:Fit c3:=⟨by rw [fS];exact u2,fun n hn hk i hi=>by rw [iC] at hn |-;rw [qP] at hk |-;rw [ht3] at hi;exact hF.kid n hn hk i hi,hT3,hp3⟩
 have g1:=jE.kid.parts fJ;have eU:b<(pC c3 a).1.ns.length:=Nat.lt_of_lt_of_le lT B1;have mS:(pC c3 a).1.ns.length<=1000000:=Nat.le_trans (C4 _) (by rw [J6];exact hp3);have mG:c3.ps=c.ps:=by rw [tT]
 have hpp:=a3b c3 a b fJ lT hT3 hp3 (by rw [mG];exact bE) (jE.kid.fi fJ (by omega)) (kidOk.fi g1 eU mS) eU (Nat.le_trans (a0p jE.kid fJ) mS) (b7s jE.kid fJ (by omega)) (b7s g1 eU mS);refine aR ?_;refine nc zl (nc zl (nc zl (nc (zW (z:=hpp) (G:=i0 (by first | rfl | kernel_rfl))) ?_)));obtain ⟨c4,sQ⟩:∃ c4,c4=a5L c3 a b:=⟨_,rfl⟩
 rw [<-sQ];have hlen4:c3.ns.length<=c4.ns.length:=by rw [sQ];exact Nat.le_trans B1 B1
 obtain ⟨ya,wF⟩:=P6 (ns:=c4.ns) (n:=a) (by omega);have sR:=Nd.map_at wF;have hlm4:(c4.ns.map Nd.cv).length=c4.ns.length:=length_map ..;refine aS (aR ?_);refine nc zl (nc z7 (nc zg (nc z8 (nc zl (nc zl (nc (zO (k:=a)) (nc z5 (nc (zR (F:=sR)) ?_))))))));refine AWp.wk (a7 (s':=s9 (c4.setUp a b)) ⟨rfl,?_,rfl,rfl,?_,rfl,rfl,trivial⟩) ?_
 ·show _=some (AV.sl 300001 0 (setUp c4.ns a b).length 5);rw [H4];rfl
 ·show _=some (AV.mrow 194 5 ((setUp c4.ns a b).map Nd.cv));rw [Q5 wF];rfl
 refine aS (aR ?_);refine nc ze ?_;exact aT ⟨.inr rfl,_,Wk.refl _,rfl,rfl,rfl,rfl,rfl,rfl,rfl,rfl,trivial⟩
theorem a2Z (w:World) :
  Calls Tryz.prog 121 #[] w fun e w'=>e = .returned (.pointer (some ⟨w.heap.size+1,0,none⟩))/\w'=(w.alloc (.map #[] 0)).alloc (.cells #[.slice none 0 0,.map (some w.heap.size),.slice none 0 0] 188):=by
 go_enter Tryz.func121,Tryz.ntmps121
 go_wp2
 rw [show (Instr.makeMap 123 none).run Tryz.prog w = .ok (.map (some w.heap.size)) (w.alloc (.map #[] 0)) by simp [Instr.makeMap,run_newObj_alloc]];simp only [Result.andThen];rw [Oper.upon_value]
 go_wp2
 go_ret
 have kC:(w.alloc (.map #[] 0)).heap.size=w.heap.size+1:=by simp
 exact ⟨by rw [<-kC];rfl,rfl⟩
theorem U7 {k:Nat} {av:AV} (h:look (s9 ⟨[],[],[]⟩) k=some av):(k=450001/\av = .obj)\/(k=35500100/\av = .sl 300001 0 0 5)\/(k=35500101/\av = .mref 300003)\/(k=35500102/\av = .sl 300002 0 0 2)\/(k=300001/\av = .mrow 194 5 [])\/(k=300003/\av = .mp [])\/(k=300002/\av = .mrow 207 2 []):=by
 rw [j8] at h;split at h
 ·rename_i e;cases h;exact .inl ⟨e.symm,rfl⟩
 rw [j8] at h;split at h
 ·rename_i e;cases h;exact .inr (.inl ⟨e.symm,rfl⟩)
 rw [j8] at h;split at h
 ·rename_i e;cases h;exact .inr (.inr (.inl ⟨e.symm,rfl⟩))
 rw [j8] at h;split at h
 ·rename_i e;cases h;exact .inr (.inr (.inr (.inl ⟨e.symm,rfl⟩)))
 rw [j8] at h;split at h
 ·rename_i e;cases h;exact .inr (.inr (.inr (.inr (.inl ⟨e.symm,rfl⟩))))
 rw [j8] at h;split at h
 ·rename_i e;cases h;exact .inr (.inr (.inr (.inr (.inr (.inl ⟨e.symm,rfl⟩)))))
 rw [j8] at h;split at h
 ·rename_i e;cases h;exact .inr (.inr (.inr (.inr (.inr (.inr ⟨e.symm,rfl⟩)))))
 ·cases h
theorem b5s:r5 Tryz.prog 121 [] [] (.bp 350001 0 []) (s9 ⟨[],[],[]⟩):=by
 refine ⟨x9 Tryz.func121 rfl rfl,fun U w hv a0 vs hU gE hargs=>?_⟩;have cX:vs=[]:=hargs;subst cX;refine (a2Z w).mono ?_;rintro e w' ⟨rfl,eP⟩;have hB:Below w.heap.size w w':=by rw [eP];exact ((Below.refl _ _).alloc (Nat.le_refl _) _).alloc (by simp) _
 have dT:(w.alloc (.map #[] 0)).heap.size=w.heap.size+1:=by simp
 have bU:w'.heap[w.heap.size+1]?=some (.cells #[.slice none 0 0,.map (some w.heap.size),.slice none 0 0] 188 (0,0)):=by rw [eP,<-dT];exact w7 _ _
 have hmap:w'.heap[w.heap.size]?=some (.map #[] 0):=by rw [eP,Below.heap_alloc _ _ _ (by rw [dT];omega)];exact w7 _ _
 have kA:w.heap.size+1<w'.heap.size:=by
  rcases Nat.lt_or_ge (w.heap.size+1) w'.heap.size with h | h
  ·exact h
  ·rw [Array.getElem?_eq_none h] at bU;cases bU
 have kX:∀ i,i<3->w'.cell? ⟨w.heap.size+1,i,none⟩=(#[.slice none 0 0,.map (some w.heap.size),.slice none 0 0]:Array Value)[i]?:=fun i hi=>by simp only [World.cell?,bU];simp
 obtain ⟨kG,gK⟩:∃ kG:Nat->Value,kG=fun k=>if k=450001 then .pointer (some ⟨w.heap.size+1,0,none⟩) else if k=300003 then .map (some w.heap.size) else .slice none 0 0:=⟨_,rfl⟩
 have gB:kG 450001 = .pointer (some ⟨w.heap.size+1,0,none⟩):=by rw [gK];simp
 have mO:kG 300003 = .map (some w.heap.size):=by rw [gK];simp
 have yH:kG 300001 = .slice none 0 0:=by rw [gK];simp
 have yI:kG 300002 = .slice none 0 0:=by rw [gK];simp
 refine ⟨_,fun _ _=>False,kG,⟨#[],[]⟩,rfl,⟨⟨hB.os,hB.tape,hB.output,hB.size,fun k hk _=>hB.block k hk⟩,rfl,rfl,fun d av g1 g2=>?_,fun m o av g1 g2 g3 g4=>?_,fun m o o' av av' g1 g2 g3 g4 g5=>?_,fun k av g1 g2=>?_,fun k av g g1 g2 g3 g4=>?_,fun k k' av av' g g1 g2 g3 g4 g5 g6 g7 g8 g9=>?_,fun k v hk=>?_,fun b o hd=>hd.elim⟩,?_⟩
 ·rcases U7 g1 with ⟨e,_⟩ | ⟨e,_⟩ | ⟨e,_⟩ | ⟨e,_⟩ | ⟨e,_⟩ | ⟨e,_⟩ | ⟨e,_⟩<;>omega
 ·have hm:m=350001:=by
   unfold BN at g4;rcases U7 g3 with ⟨e,_⟩ | ⟨e,e2⟩ | ⟨e,e2⟩ | ⟨e,e2⟩ | ⟨e,e2⟩ | ⟨e,e2⟩ | ⟨e,e2⟩
   ·omega
   all_goals cases e2
  subst hm;have fI:p7 (kG (100000+350001))=w.heap.size+1:=by rw [show 100000+350001=450001 from rfl,gB];rfl
  rw [fI];rcases U7 g1 with ⟨e,_⟩ | ⟨e,rfl⟩ | ⟨e,rfl⟩ | ⟨e,rfl⟩ | ⟨e,_⟩ | ⟨e,_⟩ | ⟨e,_⟩
  ·unfold f0 at e;omega
  ·have ho:o=0:=by unfold f0 at e;omega
   subst ho;refine ⟨.slice none 0 0,⟨⟨by decide,by decide⟩,?_⟩,rfl,fun i hi=>?_⟩
   ·show SlV (kG 300001) 0 0 5 _;rw [yH];exact I3 rfl (Nat.le_refl _) (.inl rfl)
   ·have hi:i<1:=hi;obtain rfl:i=0:=by omega
    rw [kX _ (by omega)];rfl
  ·have ho:o=1:=by unfold f0 at e;omega
   subst ho;refine ⟨.map (some w.heap.size),⟨⟨by decide,by decide⟩,mO.symm,rfl⟩,rfl,fun i hi=>?_⟩;have hi:i<1:=hi;obtain rfl:i=0:=by omega
   rw [kX _ (by omega)];rfl
  ·have ho:o=2:=by unfold f0 at e;omega
   subst ho;refine ⟨.slice none 0 0,⟨⟨by decide,by decide⟩,?_⟩,rfl,fun i hi=>?_⟩
   ·show SlV (kG 300002) 0 0 2 _;rw [yI];exact I3 rfl (Nat.le_refl _) (.inl rfl)
   ·have hi:i<1:=hi;obtain rfl:i=0:=by omega
    rw [kX _ (by omega)];rfl
  ·unfold f0 at e;omega
  ·unfold f0 at e;omega
  ·unfold f0 at e;omega
 ·rcases U7 g1 with ⟨e,_⟩ | ⟨e,rfl⟩ | ⟨e,rfl⟩ | ⟨e,rfl⟩ | ⟨e,_⟩ | ⟨e,_⟩ | ⟨e,_⟩
  ·unfold f0 at e;omega
  ·show o+1<=o';omega
  ·show o+1<=o';omega
  ·show o+1<=o';omega
  ·unfold f0 at e;omega
  ·unfold f0 at e;omega
  ·unfold f0 at e;omega
 ·unfold l8 at g2;rcases U7 g1 with ⟨rfl,rfl⟩ | ⟨e,_⟩ | ⟨e,_⟩ | ⟨e,_⟩ | ⟨rfl,rfl⟩ | ⟨rfl,rfl⟩ | ⟨rfl,rfl⟩
  ·exact ⟨w.heap.size+1,_,_,gB,bU⟩
  ·omega
  ·omega
  ·omega
  ·rw [yH];exact ⟨[],World.ownsRow_nil _ _ _ _,by decide,(fun c hc=>by cases hc),rfl⟩
  ·exact ⟨w.heap.size,#[],0,mO,hmap,rfl,(fun e he=>by simp at he),by simp⟩
  ·rw [yI];exact ⟨[],World.ownsRow_nil _ _ _ _,by decide,(fun c hc=>by cases hc),rfl⟩
 ·unfold l8 at g2;rcases U7 g1 with ⟨rfl,rfl⟩ | ⟨e,_⟩ | ⟨e,_⟩ | ⟨e,_⟩ | ⟨rfl,rfl⟩ | ⟨rfl,rfl⟩ | ⟨rfl,rfl⟩
  ·rw [gB] at g4;have g4:some (w.heap.size+1)=some g:=g4;cases g4;exact ⟨.inl (by omega),kA,fun o _ h=>h⟩
  ·omega
  ·omega
  ·omega
  ·rw [yH] at g4;cases g4
  ·rw [mO] at g4;have g4:some w.heap.size=some g:=g4;cases g4;exact ⟨.inl (Nat.le_refl _),by omega,fun o _ h=>h⟩
  ·rw [yI] at g4;cases g4
 ·unfold l8 at g3 g4;have hk:∀ {k av},look (s9 ⟨[],[],[]⟩) k=some av->100000<=k/\k<500000->(k=450001/\hb (kG k)=some (w.heap.size+1))\/(k=300003/\hb (kG k)=some w.heap.size)\/hb (kG k)=none:=fun {k av} f1 f2=>by
   rcases U7 f1 with ⟨rfl,rfl⟩ | ⟨e,_⟩ | ⟨e,_⟩ | ⟨e,_⟩ | ⟨rfl,rfl⟩ | ⟨rfl,rfl⟩ | ⟨rfl,rfl⟩
   ·exact .inl ⟨rfl,by rw [gB];rfl⟩
   ·omega
   ·omega
   ·omega
   ·right;right;rw [yH];rfl
   ·right;left;exact ⟨rfl,by rw [mO];rfl⟩
   ·right;right;rw [yI];rfl
  rcases hk g1 g3 with ⟨e1,e2⟩ | ⟨e1,e2⟩ | e1
  ·rcases hk g2 g4 with ⟨e3,e4⟩ | ⟨e3,e4⟩ | e3
   ·omega
   ·rw [e2] at g8;rw [e4] at g9;cases g8;injection g9 with g9;omega
   ·rw [e3] at g9;cases g9
  ·rcases hk g2 g4 with ⟨e3,e4⟩ | ⟨e3,e4⟩ | e3
   ·rw [e2] at g8;rw [e4] at g9;cases g8;injection g9 with g9;omega
   ·omega
   ·rw [e3] at g9;cases g9
  ·rw [e1] at g8;cases g8
 ·have:=hU k v hk;cases this
 ·refine ⟨.inr ⟨by decide,by decide⟩,?_⟩;show _=Value.pointer (some ⟨p7 (kG (100000+350001)),0,none⟩);rw [show 100000+350001=450001 from rfl,gB];rfl
theorem a9Y {f:Nat->Nat}:∀ {N m:Nat},m<N->f m<=i9 f N
 | 0,m,h=>by omega
 | N+1,m,h=>by
  rw [i9];rcases Nat.lt_or_ge m N with h1 | h1
  ·have:=a9Y (f:=f) h1;omega
  ·have:m=N:=by omega
   rw [this];omega
theorem a9g {f:Nat->Nat} {B:Nat}:∀ {N:Nat},(∀ m,m<N->f m<=B)->i9 f N<=N*B
 | 0,_=>by simp [i9]
 | N+1,h=>by
  rw [i9];have h1:=a9g (N:=N) fun m hm=>h m (by omega);have h2:=h N (by omega);rw [Nat.add_mul];omega
theorem c0Z {c:Cl} {H:Nat->Nat} (hk:kidOk c.ns) (hp:pw c.ns<=1000):mea c H<=c.ps.length+2000000:=by
 have hN:c.ns.length<=1000:=Nat.le_trans (C4 _) hp;have h1:i9 (hw c.ns H) c.ns.length<=c.ns.length*2000:=a9g fun m hm=>by
  unfold hw wgt;split
  ·split
   ·rename_i h0;rcases Nat.eq_zero_or_pos (nT c.ns m).l.length with h2 | h2
    ·omega
    ·have:=hk m hm h0 ((nT c.ns m).l.length-1) (by omega);omega
   ·rename_i h0;have h3:=a9Y (f:=gw c.ns 0) hm;rw [gw0,if_pos (by omega)] at h3;have:i9 (gw c.ns 0) c.ns.length=pw c.ns:=rfl;omega
  ·omega
 have h2:c.ns.length*2000<=1000*2000:=Nat.mul_le_mul_right _ hN;unfold mea;omega
theorem trmOk.joinTo {c:Cl} (h:trmOk c.ns) {a b:Nat} (ha:a<c.ns.length) (hb:b<c.ns.length):trmOk (joinTo c a b).1.ns:=by
 unfold Go.Proofs.YteegmcfobgpemaaGreat.joinTo;split
 ·exact h.same (H4 _ _ _) fun m=>a8o.1 m
 ·split
  ·exact h
  ·refine trmOk.same ?_ (H4 _ _ _) fun m=>a8o.1 m;exact (h.parts ha).parts (Nat.lt_of_lt_of_le hb B1)
theorem trmOk.join {k:Nat} {c:Cl} {x y:Nat} {q:Cl×Bool} (h:trmOk c.ns) (hu:upOk c.ns) (hx:x<c.ns.length) (hy:y<c.ns.length) (hj:D6 k c x y=some q):trmOk q.1.ns:=by
 unfold D6 at hj;cases h1:n9 k c.ns x with
 | none=>rw [h1] at hj;cases hj
 | some q1 =>
 rw [h1] at hj;simp only at hj;cases h2:n9 k q1.1 y with
 | none=>rw [h2] at hj;cases hj
 | some q2 =>
 rw [h2] at hj;simp only at hj;obtain ⟨u1,l1,x1,t1,k1⟩:=I7 k h1 hu hx;obtain ⟨u2,l2,y2,t2,k2⟩:=I7 k h2 u1 (by rw [l1];exact hy);have hT:trmOk q2.1:=h.same (by omega) fun m=>by rw [t2,t1]
 split at hj
 ·cases hj;exact hT
 ·split at hj
  ·cases hj;exact trmOk.joinTo (c:=⟨q2.1,c.vr,c.ps⟩) hT (by show q2.2<q2.1.length;omega) (by show q1.2<q2.1.length;omega)
  ·cases hj;exact trmOk.joinTo (c:=⟨q2.1,c.vr,c.ps⟩) hT (by show q1.2<q2.1.length;omega) (by show q2.2<q2.1.length;omega)
structure Inv (c:Cl) (E:List (Tm×Tm)) (M:Nat):Prop where
 cls:∃ H r,ClsC c H r E/\mea c H<=M
 trm:trmOk c.ns
 big:pw c.ns<=1000
theorem Inv.fit {c:Cl} {E} {M:Nat} (h:Inv c E M):Fit c:=by
 obtain ⟨H,r,h1,_⟩:=h.cls;exact ⟨h1.ups,fun n hn hk i hi=>((h1.kid n hn hk).2 i hi).1,h.trm,by have:=h.big;omega⟩
theorem Inv.ps {c:Cl} {E} {M:Nat} (h:Inv c E M):c.ps.length<=M:=by
 obtain ⟨H,r,_,h2⟩:=h.cls;unfold mea at h2;omega
theorem b4h {k k':Nat} {c:Cl} {x y:Nat} {q q'} (h:D6 k c x y=some q) (h':D6 k' c x y=some q'):q=q':=by
 have h1:=a1o (Nat.le_max_left k k') h;have h2:=a1o (Nat.le_max_right k k') h';rw [h1] at h2;exact Option.some.inj h2
theorem Inv.join {c:Cl} {E} {M k:Nat} {p:Nat×Nat} {q:Cl×Bool} (h:Inv c E M) (hp:c.ps.getLast?=some p) (hj:D6 k ⟨c.ns,c.vr,c.ps.dropLast⟩ p.1 p.2=some q):(p.1<c.ns.length/\p.2<c.ns.length)/\(q.2=true->Inv q.1 E M):=by
 obtain ⟨H,r,h1,h2⟩:=h.cls;have bE:c.ps=c.ps.dropLast++[p]:=by
  have kE:c.ps≠[]:=fun e=>by rw [e] at hp;cases hp
  have h8:c.ps.getLast kE=p:=by have:=List.getLast?_eq_some_getLast kE;rw [hp] at this;exact (Option.some.inj this).symm
  rw [<-h8,List.dropLast_concat_getLast kE]
 have hc:c=⟨c.ns,c.vr,c.ps.dropLast++[(p.1,p.2)]⟩:=by conv=>lhs;rw [show c=⟨c.ns,c.vr,c.ps⟩ from rfl,bE]
 have hpm:p∈c.ps:=by rw [bE];simp
 have kA:=h1.pss p hpm;refine ⟨kA,fun hq=>?_⟩;rw [hc] at h1;obtain ⟨k',q',e1,l1,l2⟩:=a4b h1;have:=b4h hj e1;subst this;obtain ⟨H',r',g1,g2⟩:=l2 hq;rw [<-hc] at g2;refine ⟨⟨H',r',g1,by omega⟩,?_,?_⟩
 ·exact trmOk.join (c:=⟨c.ns,c.vr,c.ps.dropLast⟩) h.trm h.fit.up kA.1 kA.2 hj
 ·rw [a4e hj];exact h.big
noncomputable abbrev prw (p:Tm×Tm):CV := .row [p.1.cw,p.2.cw]
noncomputable def prv (p:Tm×Tm):CV:=prw p
theorem c2t {l:List (Tm×Tm)} {i:Nat} {n:Tm×Tm} (h:l[i]?=some n):(l.map prv)[i]?=some (prw n):=by rw [getElem?_map,h];rfl
theorem b9g (l:List (Tm×Tm)):∀ c∈l.map prv,c.size=4:=by
 intro c hc;obtain ⟨b,_,rfl⟩:=mem_map.1 hc;rfl
theorem a7p (c:Cl) (p:Tm×Tm):pw (openC c p).ns=pw c.ns+p.1.size+p.2.size:=by
 show pw (q9 (q9 c p.1) p.2).ns=_;rw [a5p,a5p]
theorem Inv.opn {c:Cl} {E} {M:Nat} (h:Inv c E M) (hp:c.ps=[]) {p:Tm×Tm} (h1:p.1.rng/\p.1.ok) (h2:p.2.rng/\p.2.ok) (hb:pw c.ns+p.1.size+p.2.size<=1000):Inv (openC c p) (E++[p]) 2000001:=by
 obtain ⟨H,r,g1,_⟩:=h.cls;obtain ⟨H',r',g2⟩:=g1.openC p;have hk:kidOk (openC c p).ns:=fun n hn hk i hi=>((g2.kid n hn hk).2 i hi).1;have hpw:pw (openC c p).ns<=1000:=by rw [a7p];exact hb
 have hm:=c0Z (H:=H') hk hpw;have mI:(openC c p).ps.length=1:=by show (c.ps++_).length=1;rw [hp];rfl
 exact ⟨⟨H',r',g2,by omega⟩,(h.trm.add h1.1 h1.2).add h2.1 h2.2,hpw⟩
def b1k (l:List (Tm×Tm)):Nat:=(l.map fun p=>p.1.size+p.2.size).sum
set_option maxHeartbeats 8000000 in
theorem a7c (k:Nat) (l:List (Tm×Tm)) (q:Cl×Bool) (hq:s6 k l ⟨[],[],[]⟩=some q) (hl:∀ p∈l,(p.1.rng/\p.1.ok)/\(p.2.rng/\p.2.ok)) (hb:b1k l<=1000):r5 Tryz.prog 122 (s9 ⟨[],[],[]⟩) [.bp 350001 0 [],.val (.lst (l.map prv))] (.val (.b q.2)) (s9 q.1):=by
 have kC:=b9g l;have dI:l.length<=1000:=by
  refine Nat.le_trans ?_ hb;unfold b1k;clear hq hl hb kC
  induction l with
  | nil=>simp
  | cons p l ih=>simp only [map_cons,sum_cons,length_cons];have:=p.1.size_pos;omega
 refine l6 Tryz.func122 Tryz.ntmps122 rfl rfl rfl rfl rfl rfl ?_;intro w U hU;refine aS (aR ?_);refine nc ze ?_;refine aS (aS (aR ?_));refine nc zl (nc zo (nc zl ?_));refine aB (t9 (fun m s=>∃ i c E,m=l.length-i/\i<=l.length/\s6 k (l.drop i) c=some q/\c.ps=[]/\Inv c E 2000001/\pw c.ns+b1k (l.drop i)<=1000/\s=(0,AV.bp 350001 0 [])::(7,.val (.lst (l.map prv)))::(8,.val (.i (l.map prv).length))::(9,.val (.i (i:Int)))::s9 c) (n:=l.length) (s':=(0,AV.bp 350001 0 [])::(7,.val (.lst (l.map prv)))::(8,.val (.i (l.map prv).length))::(9,.val (.i ((0:Nat):Int)))::s9 ⟨[],[],[]⟩) (a7 ⟨rfl,rfl,rfl,rfl,rfl,rfl,rfl,rfl,rfl,rfl,rfl,trivial⟩) ⟨0,⟨[],[],[]⟩,[],by omega,by omega,hq,rfl,⟨⟨id,id,Cls.nil,by show 0+i9 _ 0<=_;simp [i9]⟩,(fun x hx=>by cases hx),by show i9 _ 0<=_;simp [i9]⟩,by show i9 _ 0+_<=_;simpa [i9] using hb,rfl⟩ ?_);rintro m s ⟨i,c,E,hm,hi,hq,bE,hI,wG,rfl⟩;refine aS (aR ?_);refine nc zi ?_;refine aS (aC rfl (fun kA=>?_) (fun kA=>?_))
 case refine_2 =>
  have dJ:i=l.length:=by
   have:¬ i<l.length:=by simpa using kA
   omega
  rw [dJ,List.drop_length] at hq;cases hq;refine aE ?_;refine aS (aR ?_);refine nc ze ?_;exact aT ⟨.inr rfl,_,Wk.refl _,rfl,rfl,rfl,rfl,rfl,rfl,rfl,rfl,trivial⟩
 have dJ:i<l.length:=by simpa using kA
 obtain ⟨p,hp⟩:∃ p,l[i]?=some p:=⟨l[i],List.getElem?_eq_getElem dJ⟩
 have oV:=c2t hp;have hpm:=mem_of_getElem? hp;have pD:l.drop i=p::l.drop (i+1):=by obtain ⟨hk,e⟩:=List.getElem?_eq_some_iff.1 hp;rw [List.drop_eq_getElem_cons hk,e]
 rw [pD,s6] at hq;rw [pD] at wG;have wG:pw c.ns+(p.1.size+p.2.size+b1k (l.drop (i+1)))<=1000:=wG;obtain ⟨⟨r1,o1⟩,r2,o2⟩:=hl p hpm;have uW:c.ns.length<=1000:=Nat.le_trans (C4 _) (by omega);have a1:=a4x c p.1 r1 (by omega);have a2:=a4x (q9 c p.1) p.2 r2 (by rw [y5];omega);have a3:=a5Z (q9 (q9 c p.1) p.2) c.ns.length (c.ns.length+1) (by show c.ps.length<=_;rw [bE];decide);rw [y5] at a2;have rL:(⟨(q9 (q9 c p.1) p.2).ns,(q9 (q9 c p.1) p.2).vr,(q9 (q9 c p.1) p.2).ps++[(c.ns.length,c.ns.length+1)]⟩:Cl)=openC c p:=rfl;rw [rL] at a3;have hIo:=hI.opn bE ⟨r1,o1⟩ ⟨r2,o2⟩ (by omega);refine aK ?_;refine aS (aB (aS (aR ?_)));refine nc (zt (j:=i) (H:=oV) (hz:=kC)) (nc zu (ne (zbd [2,2]) (nc zx ?_)));refine aS (aD (by kernel_rfl) (by kernel_rfl) ?_);refine nc zl (nc zl (nc (zbe 0) (nc zh (nc (zW (z:=a1) (G:=i0 (by first | rfl | kernel_rfl))) (nc zl (nc (zbe 1) (nc zh (nc (zW (z:=a2) (G:=i0 (by first | rfl | kernel_rfl))) (nc (zW (z:=a3) (G:=i0 (by first | rfl | kernel_rfl))) ?_)))))))));refine ⟨by kernel_rfl,?_⟩;cases kZ:O7 k (openC c p) with
 | none=>rw [kZ] at hq;cases hq
 | some qr =>
 rw [kZ] at hq;simp only at hq;refine aB (t9 (fun j s=>∃ d,O7 j d=some qr/\Inv d (E++[p]) 2000001/\pw d.ns=pw (openC c p).ns/\s=(0,AV.bp 350001 0 [])::(7,.val (.lst (l.map prv)))::(8,.val (.i (l.map prv).length))::(9,.val (.i (i:Int)))::s9 d) (n:=k) (s':=(0,AV.bp 350001 0 [])::(7,.val (.lst (l.map prv)))::(8,.val (.i (l.map prv).length))::(9,.val (.i (i:Int)))::s9 (openC c p)) (a7 ⟨rfl,rfl,rfl,rfl,rfl,rfl,rfl,rfl,rfl,rfl,rfl,trivial⟩) ⟨openC c p,kZ,hIo,rfl,rfl⟩ ?_);rintro j s ⟨d,hd,yJ,hpd,rfl⟩;cases j with
 | zero=>cases hd
 | succ j =>
 rw [O7] at hd;have hdp:=yJ.ps;refine aS (aS (aR ?_));refine nc zl (nc z7 (nc zg (nc z8 (nc zX (nc zN ?_)))));cases hg:d.ps.getLast? with
 | none =>
  rw [hg] at hd;simp only at hd;cases hd;have eB:d.ps=[]:=List.getLast?_eq_none_iff.1 hg;refine aC rfl (fun hc=>?_) (fun hc=>?_)
  ·exfalso;rw [eB] at hc;simp at hc
  rw [if_pos rfl] at hq;refine aE ?_;refine aR ?_;refine nc zA (nc zl ?_);have hpw:pw d.ns=pw c.ns+p.1.size+p.2.size:=by rw [hpd,a7p]
  refine ⟨l.length-(i+1),(0,AV.bp 350001 0 [])::(7,.val (.lst (l.map prv)))::(8,.val (.i (l.map prv).length))::(9,.val (.i ((i+1:Nat):Int)))::s9 d,by omega,⟨i+1,d,E++[p],rfl,by omega,hq,eB,yJ,by omega,rfl⟩,a7 ⟨rfl,rfl,rfl,rfl,rfl,rfl,rfl,rfl,rfl,rfl,rfl,trivial⟩⟩
 | some pp =>
  rw [hg] at hd;simp only at hd;cases hj:D6 j ⟨d.ns,d.vr,d.ps.dropLast⟩ pp.1 pp.2 with
  | none=>rw [hj] at hd;cases hd
  | some qj =>
  rw [hj] at hd;simp only at hd;obtain ⟨⟨x1,x2⟩,hInv⟩:=yJ.join hg hj;have gM:0<d.ps.length:=by
   cases h:d.ps with
   | nil=>rw [h] at hg;cases hg
   | cons a l=>simp
  have b1:=b6l d pp hg (by omega);have yK:=yJ.fit;have b2:=b4m j ⟨d.ns,d.vr,d.ps.dropLast⟩ pp.1 pp.2 qj hj x1 x2 ⟨yK.up,yK.kid,yK.trm,yK.big⟩ (by show d.ps.dropLast.length<=_;rw [List.length_dropLast];omega);refine aC rfl (fun hc=>?_) (fun hc=>?_)
  case refine_2 =>
   have:¬ ((d.ps.length:Int)>0):=by simpa using hc
   omega
  refine aK ?_;refine AWp.wk (a7 (s':=(0,AV.bp 350001 0 [])::(7,.val (.lst (l.map prv)))::(8,.val (.i (l.map prv).length))::(9,.val (.i (i:Int)))::s9 d) ⟨rfl,rfl,rfl,rfl,rfl,rfl,rfl,rfl,rfl,rfl,rfl,trivial⟩) ?_;refine aB (aS (aR ?_));refine nc zl (nc zl (nc (zW (z:=b1) (G:=i0 (by first | rfl | kernel_rfl))) (nc zE (nc zE (nc (zW (z:=b2) (G:=i0 (by first | rfl | kernel_rfl))) (nc zZ ?_))))));cases wI:qj.2 with
  | false =>
   rw [wI,if_neg (by simp)] at hd;have hd:=Option.some.inj hd;subst hd;rw [wI,if_neg (by simp)] at hq;have hq:=Option.some.inj hq;subst hq;refine aC rfl (fun hc=>?_) (fun hc=>by cases hc);refine aS (aR ?_);refine nc ze ?_;rw [wI];exact aT ⟨.inr rfl,_,Wk.refl _,rfl,rfl,rfl,rfl,rfl,rfl,rfl,rfl,trivial⟩
  | true =>
   rw [wI,if_pos rfl] at hd;refine aC rfl (fun hc=>by cases hc) (fun hc=>aK ?_);exact ⟨j,_,by omega,⟨qj.1,hd,hInv wI,by rw [a4e hj];exact hpd,rfl⟩,a7 ⟨rfl,rfl,rfl,rfl,rfl,rfl,rfl,rfl,rfl,rfl,rfl,trivial⟩⟩
end Go.Proofs.YteegmcfobgpemaaGreat
