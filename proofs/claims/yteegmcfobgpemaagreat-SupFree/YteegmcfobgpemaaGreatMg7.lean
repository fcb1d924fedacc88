/-
 UnFns5 UnFns6 UnFns7 UnFns8 AbBack
-/
import Derived.Test.YteegmcfobgpemaaGreatMg6
import Derived.Test.YteegmcfobgpemaaGreatMg4
import Derived.Test.YteegmcfobgpemaaGreatMg2
namespace Go.Proofs.YteegmcfobgpemaaGreat
open List (getD_eq_getElem?_getD getElem?_eq_none getElem?_map getElem?_set length_append length_cons length_map length_nil map_append mem_append mem_of_getElem?)
open Go.RowKit
set_option linter.unusedVariables false
set_option linter.unusedSimpArgs false
set_option maxRecDepth 100000
theorem b0D{f:Nat->Nat}:∀{N m:Nat},m<N->f m<=j8 f N
 | 0,m,h=>by omega
 | N+1,m,h=>by
  rw[j8];rcases Nat.lt_or_ge m N with h1 | h1
  ·have:=b0D (f:=f) h1;omega
  ·have:m=N:=by omega
   rw[this];omega
theorem b1f{f:Nat->Nat}{B:Nat}:∀{N:Nat},(∀m,m<N->f m<=B)->j8 f N<=N*B
 | 0,_=>by simp[j8]
 | N+1,h=>by
  rw[j8];have h1:=b1f (N:=N) λm hm=>h m (by omega);have h2:=h N (by omega);rw[Nat.add_mul];omega
theorem c3q{c:Cl}{H:Nat->Nat}(hk:kidOk c.ns)(hp:pw c.ns<=1000):mea c H<=c.ps.length+2000000:=by
 have hN:c.ns.length<=1000:=Nat.le_trans (D8 _) hp;have h1:j8 (hw c.ns H) c.ns.length<=c.ns.length*2000:=b1f λm hm=>by
  unfold hw wgt;split
  ·split
   ·rename_i h0;rcases Nat.eq_zero_or_pos (nT c.ns m).l.length with h2 | h2
    ·omega
    ·have:=hk m hm h0 ((nT c.ns m).l.length-1) (by omega);omega
   ·rename_i h0;have h3:=b0D (f:=gw c.ns 0) hm;rw[gw0,if_pos (by omega)]at h3;have:j8 (gw c.ns 0) c.ns.length=pw c.ns:=rfl;omega
  ·omega
 have h2:c.ns.length*2000<=1000*2000:=Nat.mul_le_mul_right _ hN;unfold mea;omega
theorem trmOk.joinTo{c:Cl}(h:trmOk c.ns){a b:Nat}(ha:a<c.ns.length)(hb:b<c.ns.length):trmOk (joinTo c a b).1.ns:=by
 unfold Go.Proofs.YteegmcfobgpemaaGreat.joinTo;split
 ·exact h.same (I7 _ _ _) λm=>a9s.1 m
 ·split
  ·exact h
  ·refine trmOk.same ?_ (I7 _ _ _) λm=>a9s.1 m;exact(h.parts ha).parts (Nat.lt_of_lt_of_le hb C0)
theorem trmOk.join{k:Nat}{c:Cl}{x y:Nat}{q:Cl×Bool}(h:trmOk c.ns)(hu:upOk c.ns)(hx:x<c.ns.length)(hy:y<c.ns.length)(hj:E7 k c x y=some q):trmOk q.1.ns:=by
 unfold E7 at hj;cases h1:o8 k c.ns x with
 | none=>rw[h1]at hj;cases hj
 | some q1 =>
 rw[h1]at hj;simp only at hj;cases h2:o8 k q1.1 y with
 | none=>rw[h2]at hj;cases hj
 | some q2 =>
 rw[h2]at hj;simp only at hj;obtain⟨u1,l1,x1,t1,k1⟩:=K2 k h1 hu hx;obtain⟨u2,l2,y2,t2,k2⟩:=K2 k h2 u1 (by rw[l1];exact hy);have hT:trmOk q2.1:=h.same (by omega) λm=>by rw[t2,t1]
 split at hj
 ·cases hj;exact hT
 ·split at hj
  ·cases hj;exact trmOk.joinTo (c:=⟨q2.1,c.vr,c.ps⟩) hT (by show q2.2<q2.1.length;omega) (by show q1.2<q2.1.length;omega)
  ·cases hj;exact trmOk.joinTo (c:=⟨q2.1,c.vr,c.ps⟩) hT (by show q1.2<q2.1.length;omega) (by show q2.2<q2.1.length;omega)
structure Inv(c:Cl)(E:List (Tm×Tm))(M:Nat):Prop where
 cls:∃H r,ClsC c H r E/\mea c H<=M
 trm:trmOk c.ns
 big:pw c.ns<=1000
theorem Inv.fit{c:Cl}{E}{M:Nat}(h:Inv c E M):Fit c:=by
 obtain⟨H,r,h1,_⟩:=h.cls;exact⟨h1.ups,λn hn hk i hi=>((h1.kid n hn hk).2 i hi).1,h.trm,by have:=h.big;omega⟩
theorem Inv.ps{c:Cl}{E}{M:Nat}(h:Inv c E M):c.ps.length<=M:=by
 obtain⟨H,r,_,h2⟩:=h.cls;unfold mea at h2;omega
theorem b5M{k k':Nat}{c:Cl}{x y:Nat}{q q'}(h:E7 k c x y=some q)(h':E7 k' c x y=some q'):q=q':=by
 have h1:=a1D (Nat.le_max_left k k') h;have h2:=a1D (Nat.le_max_right k k') h';rw[h1]at h2;exact Option.some.inj h2
theorem Inv.join{c:Cl}{E}{M k:Nat}{p:Nat×Nat}{q:Cl×Bool}(h:Inv c E M)(hp:c.ps.getLast?=some p)(hj:E7 k ⟨c.ns,c.vr,c.ps.dropLast⟩ p.1 p.2=some q):(p.1<c.ns.length/\p.2<c.ns.length)/\(q.2=true->Inv q.1 E M):=by
 obtain⟨H,r,h1,h2⟩:=h.cls;have gR:c.ps=c.ps.dropLast++[p]:=by
  have kF:c.ps≠[]:=λe=>by rw[e]at hp;cases hp
  have h8:c.ps.getLast kF=p:=by have:=List.getLast?_eq_some_getLast kF;rw[hp]at this;exact(Option.some.inj this).symm
  rw[<-h8,List.dropLast_concat_getLast kF]
 have hc:c=⟨c.ns,c.vr,c.ps.dropLast++[(p.1,p.2)]⟩:=by conv=>lhs;rw[show c=⟨c.ns,c.vr,c.ps⟩from rfl,gR]
 have aH:p∈c.ps:=by rw[gR];simp
 have kA:=h1.pss p aH;refine⟨kA,λhq=>?_⟩;rw[hc]at h1;obtain⟨k',q',e1,l1,l2⟩:=a5a h1;have:=b5M hj e1;subst this;obtain⟨H',r',g1,g2⟩:=l2 hq;rw[<-hc]at g2;refine⟨⟨H',r',g1,by omega⟩,?_,?_⟩
 ·exact trmOk.join (c:=⟨c.ns,c.vr,c.ps.dropLast⟩) h.trm h.fit.up kA.1 kA.2 hj
 ·rw[a5e hj];exact h.big
noncomputable abbrev prw(p:Tm×Tm):CV:=.row [p.1.cw,p.2.cw]
noncomputable def prv(p:Tm×Tm):CV:=prw p
theorem c4K{l:List (Tm×Tm)}{i:Nat}{n:Tm×Tm}(h:l[i]?=some n):(l.map prv)[i]?=some (prw n):=by rw[getElem?_map,h];rfl
theorem c1M(l:List (Tm×Tm)):∀c∈l.map prv,c.size=4:=by
 intro c hc;obtain⟨b,_,rfl⟩:=List.mem_map.1 hc;rfl
theorem a8r(c:Cl)(p:Tm×Tm):pw (openC c p).ns=pw c.ns+p.1.size+p.2.size:=by
 show pw (r7 (r7 c p.1) p.2).ns=_;rw[a6k,a6k]
theorem Inv.opn{c:Cl}{E}{M:Nat}(h:Inv c E M)(hp:c.ps=[]){p:Tm×Tm}(h1:p.1.rng/\p.1.ok)(h2:p.2.rng/\p.2.ok)(hb:pw c.ns+p.1.size+p.2.size<=1000):Inv (openC c p) (E++[p]) 2000001:=by
 obtain⟨H,r,g1,_⟩:=h.cls;obtain⟨H',r',g2⟩:=g1.openC p;have hk:kidOk (openC c p).ns:=λn hn hk i hi=>((g2.kid n hn hk).2 i hi).1;have hpw:pw (openC c p).ns<=1000:=by rw[a8r];exact hb
 have hm:=c3q (H:=H') hk hpw;have mN:(openC c p).ps.length=1:=by show(c.ps++_).length=1;rw[hp];rfl
 exact⟨⟨H',r',g2,by omega⟩,(h.trm.add h1.1 h1.2).add h2.1 h2.2,hpw⟩
def b2r(l:List (Tm×Tm)):Nat:=(l.map λp=>p.1.size+p.2.size).sum
set_option maxHeartbeats 8000000 in
theorem a7P(k:Nat)(l:List (Tm×Tm))(q:Cl×Bool)(hq:s9 k l ⟨[],[],[]⟩=some q)(hl:∀p∈l,(p.1.rng/\p.1.ok)/\(p.2.rng/\p.2.ok))(hb:b2r l<=1000):r8 Tryz.prog 122 (v7 ⟨[],[],[]⟩) [.bp 350001 0 [],.val (.lst (l.map prv))] (.val (.b q.2)) (v7 q.1):=by
 have kC:=c1M l;have cZ:l.length<=1000:=by
  refine Nat.le_trans ?_ hb;unfold b2r;clear hq hl hb kC
  induction l with
  | nil=>simp
  | cons p l ih=>simp only[List.map_cons,List.sum_cons,length_cons];have:=p.1.size_pos;omega
 refine l6 Tryz.func122 Tryz.ntmps122 rfl rfl rfl rfl rfl rfl ?_;intro w U hU;refine qz<|nc ze ?_;refine aS<|qz<|nc zl<|nc zo<|nc zl ?_;refine aB (w8 (λm s=>∃i c E,m=l.length-i/\i<=l.length/\s9 k (l.drop i) c=some q/\c.ps=[]/\Inv c E 2000001/\pw c.ns+b2r (l.drop i)<=1000/\s=(0,AV.bp 350001 0 [])::(7,.val (.lst (l.map prv)))::(8,.val (.i (l.map prv).length))::(9,.val (.i (i:Int)))::v7 c) (n:=l.length) (s':=(0,AV.bp 350001 0 [])::(7,.val (.lst (l.map prv)))::(8,.val (.i (l.map prv).length))::(9,.val (.i ((0:Nat):Int)))::v7 ⟨[],[],[]⟩) (a7 ⟨rfl,rfl,rfl,rfl,rfl,rfl,rfl,rfl,rfl,rfl,rfl,trivial⟩) ⟨0,⟨[],[],[]⟩,[],by omega,by omega,hq,rfl,⟨⟨id,id,Cls.nil,by show 0+j8 _ 0<=_;simp[j8]⟩,(λx hx=>by cases hx),by show j8 _ 0<=_;simp[j8]⟩,by show j8 _ 0+_<=_;simpa[j8]using hb,rfl⟩ ?_);rintro m s ⟨i,c,E,hm,hi,hq,gR,hI,wZ,rfl⟩;refine qz<|nc zi ?_;refine aS<|aC rfl (λkA=>?_) (λkA=>?_)
 case refine_2 =>
  have eO:i=l.length:=by
   have:¬ i<l.length:=by simpa using kA
   omega
  rw[eO,List.drop_length]at hq;cases hq;refine aE<|qz<|nc ze ?_;exact aT ⟨.inr rfl,_,Wk.refl _,rfl,rfl,rfl,rfl,rfl,rfl,rfl,rfl,trivial⟩
 have eO:i<l.length:=by simpa using kA
 obtain⟨p,hp⟩:∃p,l[i]?=some p:=⟨l[i],List.getElem?_eq_getElem eO⟩
 have lH:=c4K hp;have aH:=mem_of_getElem? hp;have pK:l.drop i=p::l.drop (i+1):=by obtain⟨hk,e⟩:=List.getElem?_eq_some_iff.1 hp;rw[List.drop_eq_getElem_cons hk,e]
 rw[pK,s9]at hq;rw[pK]at wZ;have wZ:pw c.ns+(p.1.size+p.2.size+b2r (l.drop (i+1)))<=1000:=wZ;obtain⟨⟨r1,o1⟩,r2,o2⟩:=hl p aH;have vR:c.ns.length<=1000:=Nat.le_trans (D8 _) (by omega);have a1:=a5m c p.1 r1 (by omega);have a2:=a5m (r7 c p.1) p.2 r2 (by rw[A3];omega);have a3:=a6X (r7 (r7 c p.1) p.2) c.ns.length (c.ns.length+1) (by show c.ps.length<=_;rw[gR];decide);rw[A3]at a2;have oY:(⟨(r7 (r7 c p.1) p.2).ns,(r7 (r7 c p.1) p.2).vr,(r7 (r7 c p.1) p.2).ps++[(c.ns.length,c.ns.length+1)]⟩:Cl)=openC c p:=rfl;rw[oY]at a3;have hIo:=hI.opn gR ⟨r1,o1⟩ ⟨r2,o2⟩ (by omega);refine aK<|aS<|aB<|qz<|nc (zt (j:=i) (H:=lH) (hz:=kC))<|nc zu<|ne (zbc [2,2])<|nc zx ?_;refine aS<|aD (by kernel_rfl) (by kernel_rfl) ?_;refine nc zl<|nc zl<|nc (zbd 0)<|nc zh<|nc (zW (z:=a1) (G:=i8 (by first | rfl | kernel_rfl)))<|nc zl<|nc (zbd 1)<|nc zh<|nc (zW (z:=a2) (G:=i8 (by first | rfl | kernel_rfl)))<|nc (zW (z:=a3) (G:=i8 (by first | rfl | kernel_rfl))) ?_;refine⟨by kernel_rfl,?_⟩;cases kY:P9 k (openC c p)with
 | none=>rw[kY]at hq;cases hq
 | some qr =>
 rw[kY]at hq;simp only at hq;refine aB (w8 (λj s=>∃d,P9 j d=some qr/\Inv d (E++[p]) 2000001/\pw d.ns=pw (openC c p).ns/\s=(0,AV.bp 350001 0 [])::(7,.val (.lst (l.map prv)))::(8,.val (.i (l.map prv).length))::(9,.val (.i (i:Int)))::v7 d) (n:=k) (s':=(0,AV.bp 350001 0 [])::(7,.val (.lst (l.map prv)))::(8,.val (.i (l.map prv).length))::(9,.val (.i (i:Int)))::v7 (openC c p)) (a7 ⟨rfl,rfl,rfl,rfl,rfl,rfl,rfl,rfl,rfl,rfl,rfl,trivial⟩) ⟨openC c p,kY,hIo,rfl,rfl⟩ ?_);rintro j s ⟨d,hd,aI,hpd,rfl⟩;cases j with
 | zero=>cases hd
 | succ j =>
 rw[P9]at hd;have hdp:=aI.ps;refine aS<|qz<|nc zl<|nc z5<|nc zg<|nc z7<|nc zX<|nc zN ?_;cases hg:d.ps.getLast? with
 | none =>
  rw[hg]at hd;simp only at hd;cases hd;have eD:d.ps=[]:=List.getLast?_eq_none_iff.1 hg;refine aC rfl (λhc=>?_) (λhc=>?_)
  ·exfalso;rw[eD]at hc;simp at hc
  rw[if_pos rfl]at hq;refine aE<|aR<|nc zA<|nc zl ?_;have hpw:pw d.ns=pw c.ns+p.1.size+p.2.size:=by rw[hpd,a8r]
  refine⟨l.length-(i+1),(0,AV.bp 350001 0 [])::(7,.val (.lst (l.map prv)))::(8,.val (.i (l.map prv).length))::(9,.val (.i ((i+1:Nat):Int)))::v7 d,by omega,⟨i+1,d,E++[p],rfl,by omega,hq,eD,aI,by omega,rfl⟩,a7 ⟨rfl,rfl,rfl,rfl,rfl,rfl,rfl,rfl,rfl,rfl,rfl,trivial⟩⟩
 | some pp =>
  rw[hg]at hd;simp only at hd;cases hj:E7 j ⟨d.ns,d.vr,d.ps.dropLast⟩ pp.1 pp.2 with
  | none=>rw[hj]at hd;cases hd
  | some qj =>
  rw[hj]at hd;simp only at hd;obtain⟨⟨x1,x2⟩,hInv⟩:=aI.join hg hj;have gO:0<d.ps.length:=by
   cases h:d.ps with
   | nil=>rw[h]at hg;cases hg
   | cons a l=>simp
  have b1:=b6Q d pp hg (by omega);have aJ:=aI.fit;have b2:=b4Y j ⟨d.ns,d.vr,d.ps.dropLast⟩ pp.1 pp.2 qj hj x1 x2 ⟨aJ.up,aJ.kid,aJ.trm,aJ.big⟩ (by show d.ps.dropLast.length<=_;rw[List.length_dropLast];omega);refine aC rfl (λhc=>?_) (λhc=>?_)
  case refine_2 =>
   have:¬ ((d.ps.length:Int)>0):=by simpa using hc
   omega
  refine aK ?_;refine AWp.wk (a7 (s':=(0,AV.bp 350001 0 [])::(7,.val (.lst (l.map prv)))::(8,.val (.i (l.map prv).length))::(9,.val (.i (i:Int)))::v7 d) ⟨rfl,rfl,rfl,rfl,rfl,rfl,rfl,rfl,rfl,rfl,rfl,trivial⟩) ?_;refine aB<|qz<|nc zl<|nc zl<|nc (zW (z:=b1) (G:=i8 (by first | rfl | kernel_rfl)))<|nc zE<|nc zE<|nc (zW (z:=b2) (G:=i8 (by first | rfl | kernel_rfl)))<|nc zZ ?_;cases xA:qj.2 with
  | false =>
   rw[xA,if_neg (by simp)]at hd;have hd:=Option.some.inj hd;subst hd;rw[xA,if_neg (by simp)]at hq;have hq:=Option.some.inj hq;subst hq;refine aC rfl (λhc=>?_) (λhc=>by cases hc);refine qz<|nc ze ?_;rw[xA];exact aT ⟨.inr rfl,_,Wk.refl _,rfl,rfl,rfl,rfl,rfl,rfl,rfl,rfl,trivial⟩
  | true =>
   rw[xA,if_pos rfl]at hd;refine aC rfl (λhc=>by cases hc) (λhc=>aK ?_);exact⟨j,_,by omega,⟨qj.1,hd,hInv xA,by rw[a5e hj];exact hpd,rfl⟩,a7 ⟨rfl,rfl,rfl,rfl,rfl,rfl,rfl,rfl,rfl,rfl,rfl,trivial⟩⟩
structure FitU(c:Cl):Prop where
 up:upOk c.ns
 kid:kidOk c.ns
 trm:trmOk c.ns
 big:pw c.ns<=1000
 vrb:∀v m,p8 c.vr v=some m->m<c.ns.length
theorem Inv.fitU{c:Cl}{E}{M:Nat}(h:Inv c E M):FitU c:=by
 have hf:=h.fit;obtain⟨H,r,h1,_⟩:=h.cls;exact⟨hf.up,hf.kid,hf.trm,h.big,λv m hm=>(h1.vrt v m hm).1⟩
def upB(c:Cl):Prop:=upOk c.ns/\∀v m,p8 c.vr v=some m->m<c.ns.length
theorem upB.add{c:Cl}(h:upB c)(t:Tm):upB (r7 c t):=by
 have hl:(r7 c t).ns.length=c.ns.length+1:=A3 c t;have hu:Y7 c t<=c.ns.length:=by
  unfold Y7;split
  ·cases e:p8 c.vr (-1-t.f)with
   | none=>exact Nat.le_refl _
   | some m=>exact Nat.le_of_lt (h.2 _ m e)
  ·exact Nat.le_refl _
 refine⟨λm hm=>?_,λv m hm=>?_⟩
 ·rw[hl]at hm |-;unfold nU r7;rcases Nat.lt_or_ge m c.ns.length with h1 | h1
  ·simp only;rw[getD_eq_getElem?_getD,List.getElem?_append_left h1,<-getD_eq_getElem?_getD];have:=h.1 m h1;unfold nU at this;omega
  ·have:m=c.ns.length:=by omega
   subst this;simp only;rw[I9];show Y7 c t<_;omega
 ·rw[hl];have hm:p8 (addV c t) v=some m:=hm;unfold addV at hm;split at hm
  ·split at hm
   ·have:=h.2 v m hm;omega
   ·rw[V8]at hm;cases e:p8 c.vr v with
    | some m'=>rw[e]at hm;cases hm;have:=h.2 v _ e;omega
    | none =>
     rw[e,Option.none_or]at hm;split at hm
     ·cases hm;omega
     ·cases hm
  ·have:=h.2 v m hm;omega
theorem upB.all(l:List Tm):∀{c:Cl},upB c->upB (addAll c l):=by
 induction l with
 | nil=>exact λh=>h
 | cons t l ih=>exact λh=>ih (h.add t)
theorem upB.parts{c:Cl}(h:upB c)(n:Nat):upB (pC c n).1:=by
 unfold pC;split
 ·exact h
 ·split
  ·refine upB.all _ ⟨λm hm=>?_,λv m hm=>?_⟩
   ·have hl:(c.setFi n c.ns.length).ns.length=c.ns.length:=by unfold Cl.setFi setFi;simp
    rw[hl]at hm |-;have hU:nU (c.setFi n c.ns.length).ns m=nU c.ns m:=by
     unfold Cl.setFi setFi nU;simp only;rw[getD_eq_getElem?_getD,getElem?_set];split
     ·rename_i e;subst e;split
      ·rfl
      ·rename_i h9;exact absurd hm h9
     ·rw[<-getD_eq_getElem?_getD]
    rw[hU];exact h.1 m hm
   ·have:=h.2 v m hm;show m<(setFi c.ns n c.ns.length).length;unfold setFi;rw[List.length_set];exact this
  ·exact h
theorem FitU.parts{c:Cl}(h:FitU c){n:Nat}(hn:n<c.ns.length):FitU (pC c n).1:=by
 obtain⟨h1,h2⟩:=upB.parts ⟨h.up,h.vrb⟩ n;exact⟨h1,h.kid.parts hn,h.trm.parts hn,by rw[L1];exact h.big,h2⟩
theorem kidOk.same{ns ns':List Nd}(h:kidOk ns)(hl:ns'.length=ns.length)(ht:∀m,nT ns' m=nT ns m)(hk:∀m,nK ns' m=nK ns m):kidOk ns':=λn hn oK i hi=>by
 rw[hl]at hn |-;rw[hk]at oK |-;rw[ht]at hi;exact h n hn oK i hi
theorem FitU.head{k:Nat}{ns:List Nd}{vr ps}{n:Nat}{r}(h:FitU ⟨ns,vr,ps⟩)(hn:n<ns.length)(hd:o8 k ns n=some r):FitU ⟨r.1,vr,ps⟩/\r.1.length=ns.length/\r.2<ns.length:=by
 obtain⟨a1,a2,a3,a4,a5⟩:=K2 k hd h.up hn;exact⟨⟨a1,h.kid.same a2 a4 a5,h.trm.same a2 a4,by show pw r.1<=1000;rw[a4U a2 a4 a5];exact h.big,λv m hm=>by show m<r.1.length;rw[a2];exact h.vrb v m hm⟩,a2,a3⟩
theorem c4P{ns:List Nd}{n:Nat}{x:Int}(m:Nat):nU (setUs ns n x) m=nU ns m:=by
 unfold nU setUs;rw[getD_eq_getElem?_getD,getElem?_set];split
 ·rename_i e;subst e;split
  ·rfl
  ·rename_i h9;rw[getD_eq_getElem?_getD,getElem?_eq_none (by omega)]
 ·rw[<-getD_eq_getElem?_getD]
theorem F9(ns:List Nd)(n:Nat)(x:Int):(setUs ns n x).length=ns.length:=by unfold setUs;simp
theorem FitU.us{ns:List Nd}{vr ps}(h:FitU ⟨ns,vr,ps⟩)(n:Nat)(x:Int):FitU ⟨setUs ns n x,vr,ps⟩:=by
 have hl:=F9 ns n x;exact⟨λm hm=>by show nU (setUs ns n x) m<(setUs ns n x).length;rw[c4P,hl];exact h.up m (by have:m<(setUs ns n x).length:=hm;rw[hl]at this;exact this),h.kid.same hl b2d.1 b2d.2,h.trm.same hl b2d.1,by show pw (setUs ns n x)<=1000;rw[b9R];exact h.big,λv m hm=>by show m<(setUs ns n x).length;rw[hl];exact h.vrb v m hm⟩
def usB(ns:List Nd)(B:Int):Prop:=∀m,-B<=nS ns m/\nS ns m<=B
theorem c3d{ns:List Nd}{n k:Nat}(m:Nat):nS (setUp ns n k) m=nS ns m:=by
 unfold nS setUp;rw[getD_eq_getElem?_getD,getElem?_set];split
 ·rename_i e;subst e;split
  ·rfl
  ·rename_i h9;rw[getD_eq_getElem?_getD,getElem?_eq_none (by omega)]
 ·rw[<-getD_eq_getElem?_getD]
theorem b1F:∀(k:Nat) {ns:List Nd} {n:Nat} {r},o8 k ns n=some r->∀m,nS r.1 m=nS ns m
 | 0,_,_,_,e=>by cases e
 | k+1,ns,n,r,e=>λm=>by
  rw[o8]at e;split at e
  ·cases e;rfl
  ·rw[b1F k e m,c3d]
theorem usB.head{k:Nat}{ns:List Nd}{n:Nat}{r}{B:Int}(h:usB ns B)(hd:o8 k ns n=some r):usB r.1 B:=λm=>by rw[b1F k hd];exact h m
theorem usB.set{ns:List Nd}{B:Int}(h:usB ns B){n:Nat}{x:Int}(hx : -(B+1)<=x/\x<=B+1):usB (setUs ns n x) (B+1):=λm=>by
 have h1:=h m;unfold nS setUs at *;rw[getD_eq_getElem?_getD,getElem?_set];split
 ·split
  ·exact hx
  ·show _<=(0:Int)/\(0:Int)<=_;omega
 ·rw[<-getD_eq_getElem?_getD];omega
theorem usB.mono{ns:List Nd}{B B':Int}(h:usB ns B)(hb:B<=B'):usB ns B':=λm=>by have:=h m;omega
theorem c0P{c:Cl}{t:Tm}{B:Int}(h:usB c.ns B)(hB:0<=B):usB (r7 c t).ns B:=λm=>by
 unfold nS r7;simp only;rw[getD_eq_getElem?_getD];rcases Nat.lt_trichotomy m c.ns.length with h1 | h1 | h1
 ·rw[List.getElem?_append_left h1,<-getD_eq_getElem?_getD];exact h m
 ·subst h1;rw[List.getElem?_append_right (Nat.le_refl _),Nat.sub_self];show _<=(0:Int)/\(0:Int)<=_;omega
 ·rw[getElem?_eq_none (by simp;omega)];show _<=(0:Int)/\(0:Int)<=_;omega
theorem usB.parts{c:Cl}{B:Int}(h:usB c.ns B)(hB:0<=B)(n:Nat):usB (pC c n).1.ns B:=by
 have dR:∀(l:List Tm) (c:Cl),usB c.ns B->usB (addAll c l).ns B:=by
  intro l
  induction l with
  | nil=>exact λc h=>h
  | cons t l ih=>exact λc h=>ih _ (c0P h hB)
 unfold pC;split
 ·exact h
 ·split
  ·refine dR _ _ λm=>?_;have:nS (c.setFi n c.ns.length).ns m=nS c.ns m:=by
    unfold Cl.setFi setFi nS;simp only;rw[getD_eq_getElem?_getD,getElem?_set];split
    ·rename_i e;subst e;split
     ·rfl
     ·rename_i h9;rw[getD_eq_getElem?_getD,getElem?_eq_none (by omega)]
    ·rw[<-getD_eq_getElem?_getD]
   rw[this];exact h m
  ·exact h
theorem b7i{ns:List Nd}{n:Nat}{k:Int}{x:Nd}(h:ns[n]?=some x):(setUs ns n k)[n]?=some { x with us:=k }:=by
 unfold setUs;have hl:n<ns.length:=(List.getElem?_eq_some_iff.1 h).1;rw[List.getElem?_set_self hl,s6 h]
noncomputable abbrev o7(l:List Nat):CV:=.lst (l.map λn:Nat=>CV.i (n:Int))
theorem R2(l:List Nat):∀c∈l.map (λn:Nat=>CV.i (n:Int)),c.size=1:=λc hc=>by
 obtain⟨n,_,rfl⟩:=List.mem_map.1 hc;rfl
set_option maxHeartbeats 8000000 in
theorem b2S(k j0:Nat)(c0:Cl)(q:Cl×List Nat)(hq:F0 k j0 0 c0 []=some q)(aN:FitU c0)(eR:usB c0.ns 0):r8 Tryz.prog 154 (v7 c0) [.bp 350001 0 []] (.val (o7 q.2)) (v7 q.1):=by
 refine l6 Tryz.func154 Tryz.ntmps154 rfl rfl rfl rfl rfl rfl ?_;intro w U hU;refine qz<|nc ze ?_;refine qz<|nc ze ?_;refine aS<|qz<|nc ze ?_;refine aB (w8 (λj s=>∃n c hs,F0 k j n c hs=some q/\FitU c/\usB c.ns ((n:Int)*1000)/\n<=1000/\hs.length<=n/\s=(0,AV.bp 350001 0 [])::(3,.own (o7 hs) 200025)::(200025,.tok 3 1)::(4,.val (.i (n:Int)))::v7 c) (n:=j0) (s':=(0,AV.bp 350001 0 [])::(3,.own (o7 []) 200025)::(200025,.tok 3 1)::(4,.val (.i ((0:Nat):Int)))::v7 c0) ((M9 3 200025 3 1 rfl rfl rfl rfl rfl rfl (by kernel_rfl)).trans (a7 ⟨rfl,rfl,rfl,rfl,rfl,rfl,rfl,rfl,rfl,rfl,rfl,trivial⟩)) ⟨0,c0,[],hq,aN,by simpa using eR,by omega,Nat.le_refl _,rfl⟩ ?_);rintro j s ⟨n,c,hs,hq,hF,hu,hn,dN,rfl⟩;cases j with
 | zero=>cases hq
 | succ j =>
 rw[F0]at hq;have hl:c.ns.length<=1000:=Nat.le_trans (D8 _) hF.big;refine aS<|qz<|nc zl<|nc zl<|nc z5<|nc zg<|nc z7<|nc zX<|nc zi ?_;by_cases kA:n<c.ns.length
 case neg =>
  rw[if_neg kA]at hq;have hq:=Option.some.inj hq;subst hq;refine aC rfl (λhc=>?_) (λhc=>?_)
  ·exfalso;have:(n:Int)<c.ns.length:=by simpa using hc
   omega
  refine aE<|qz<|nc zl<|nc ze ?_;exact aT ⟨.inr rfl,_,Wk.refl _,rfl,rfl,rfl,rfl,rfl,rfl,rfl,rfl,trivial⟩
 rw[if_pos kA]at hq;refine aC rfl (λhc=>?_) (λhc=>?_)
 case refine_2 =>
  have:¬ (n:Int)<c.ns.length:=by simpa using hc
  omega
 refine aK ?_;cases hd:o8 k c.ns n with
 | none=>rw[hd]at hq;cases hq
 | some r =>
 rw[hd]at hq;simp only at hq;have hdc:=M5 c.vr c.ps k c.ns n r hd hF.up kA (by omega);obtain⟨fL,fA,iP⟩:=FitU.head (vr:=c.vr) (ps:=c.ps) hF kA hd;have dX:=hu.head hd;refine AWp.wk ((a7 (s':=(0,AV.bp 350001 0 [])::(3,.own (o7 hs) 200025)::(200025,.tok 3 1)::(4,.val (.i (n:Int)))::v7 c) ⟨rfl,rfl,rfl,rfl,rfl,rfl,rfl,rfl,rfl,rfl,rfl,trivial⟩).trans (y6 300001 400001 rfl rfl (b8P hU (by kernel_rfl)) (by kernel_rfl) (by kernel_rfl) (by kernel_rfl))) ?_;refine aS<|aB<|aS<|qz<|nc zl<|nc zl<|nc (zW (z:=hdc) (G:=i8 (by first | rfl | kernel_rfl)))<|nc zl<|nc z8 ?_;obtain⟨c1,gP⟩:∃c1:Cl,c1=⟨r.1,c.vr,c.ps⟩:=⟨_,rfl⟩
 rw[<-gP]at hq fL |-;have hl1':c1.ns.length=c.ns.length:=by rw[gP];exact fA
 have dX:usB c1.ns ((n:Int)*1000):=by rw[gP];exact dX
 by_cases he:r.2=n
 case neg =>
  rw[if_pos he]at hq;refine aC rfl (λhc=>?_) (λhc=>?_)
  case refine_2 =>
   have hc:=of_decide_eq_false hc;simp only[ne_eq,Decidable.not_not]at hc;omega
  refine aE<|aR<|nc zl<|nc zA<|nc ze ?_;refine⟨j,(0,AV.bp 350001 0 [])::(3,.own (o7 hs) 200025)::(200025,.tok 3 1)::(4,.val (.i ((n+1:Nat):Int)))::v7 c1,by omega,⟨n+1,c1,hs,hq,fL,dX.mono (by omega),by omega,by omega,rfl⟩,(a7 (s':=(0,AV.bp 350001 0 [])::(3,.own (o7 hs) 200025)::(200025,.tok 3 1)::(4,.val (.i ((n+1:Nat):Int)))::Q3 c1) ⟨rfl,rfl,rfl,rfl,rfl,rfl,rfl,rfl,rfl,rfl,rfl,trivial⟩).trans (y6 400001 300001 rfl rfl (a6A U (by decide)) (by kernel_rfl) (by kernel_rfl) (by kernel_rfl))⟩
 rw[if_neg (by simpa using he)]at hq;refine aC rfl (λhc=>?_) (λhc=>aK ?_)
 ·exfalso;rw[he]at hc;simp at hc
 have bI:n<c1.ns.length:=by omega
 have jX:=fL.parts bI;have cX:=dX.parts (by omega) n;have cK:(pC c1 n).1.ns.length<=1000:=Nat.le_trans (D8 _) jX.big;have mK:=O2 c1 n bI fL.trm (by omega) (fL.kid.fi bI (by omega));obtain⟨c2,gV⟩:∃c2,c2=(pC c1 n).1:=⟨_,rfl⟩
 obtain⟨fr,mJ⟩:∃x,x=(pC c1 n).2.1:=⟨_,rfl⟩
 obtain⟨to,iW⟩:∃x,x=(pC c1 n).2.2:=⟨_,rfl⟩
 have qP:fr<=to:=by rw[mJ,iW];exact S0.1
 have xB:to<=c2.ns.length:=by rw[iW,gV];exact a0O fL.kid bI
 rw[<-gV]at hq jX cX cK mK;rw[<-mJ,<-iW]at hq mK;refine AWp.wk ((a7 (s':=(0,AV.bp 350001 0 [])::(3,.own (o7 hs) 200025)::(200025,.tok 3 1)::(4,.val (.i (n:Int)))::Q3 c1) ⟨rfl,rfl,rfl,rfl,rfl,rfl,rfl,rfl,rfl,rfl,rfl,trivial⟩).trans (y6 400001 300001 rfl rfl (a6A U (by decide)) (by kernel_rfl) (by kernel_rfl) (by kernel_rfl))) ?_;have yS:=R2 hs;refine qz<|nc zl<|nc zl<|nc zy<|ne zz<|nc ze ?_;refine AWp.wk ((a7 (s':=(0,AV.bp 350001 0 [])::(3,.own (o7 (hs++[n])) 300025)::(300025,.tok 3 1)::(4,.val (.i (n:Int)))::v7 c1) ⟨rfl,?_,rfl,rfl,rfl,rfl,rfl,rfl,rfl,rfl,rfl,trivial⟩).trans (B1 300025 200025 rfl rfl (by kernel_rfl) (by kernel_rfl))) ?_
 ·show _=some (AV.own (.lst ((hs++[n]).map λn:Nat=>CV.i (n:Int))) 300025);rw[map_append];rfl
 refine qz<|nc zl<|nc zl<|nc (zW (z:=mK) (G:=i8 (by first | rfl | kernel_rfl)))<|nc zl<|nc zE<|nc zE<|nc ze<|nc ze ?_;refine qz<|nc zl<|nc ze ?_;cases fW:a4E k (List.range' fr (to-fr)) c2.ns with
 | none=>rw[fW]at hq;cases hq
 | some ns =>
 rw[fW]at hq;simp only at hq;refine aB (w8 (λm s=>∃i ns1,i+m=to-fr/\a4E k (List.range' (fr+i) m) ns1=some ns/\FitU ⟨ns1,c2.vr,c2.ps⟩/\ns1.length=c2.ns.length/\usB ns1 ((n:Int)*1000+i)/\s=(0,AV.bp 350001 0 [])::(3,.own (o7 (hs++[n])) 200025)::(200025,.tok 3 1)::(4,.val (.i (n:Int)))::(6,.val (.i (to:Int)))::(7,.val (.i ((fr+i:Nat):Int)))::Q3 ⟨ns1,c2.vr,c2.ps⟩) (n:=to-fr) (s':=(0,AV.bp 350001 0 [])::(3,.own (o7 (hs++[n])) 200025)::(200025,.tok 3 1)::(4,.val (.i (n:Int)))::(6,.val (.i (to:Int)))::(7,.val (.i ((fr+0:Nat):Int)))::Q3 ⟨c2.ns,c2.vr,c2.ps⟩) ((a7 (s':=(0,AV.bp 350001 0 [])::(3,.own (o7 (hs++[n])) 200025)::(200025,.tok 3 1)::(4,.val (.i (n:Int)))::(6,.val (.i (to:Int)))::(7,.val (.i ((fr+0:Nat):Int)))::v7 c2) ⟨rfl,rfl,rfl,rfl,rfl,rfl,rfl,rfl,rfl,rfl,rfl,rfl,rfl,trivial⟩).trans (y6 300001 400001 rfl rfl (b8P hU (by kernel_rfl)) (by kernel_rfl) (by kernel_rfl) (by kernel_rfl))) ⟨0,c2.ns,by omega,fW,jX,rfl,cX.mono (by omega),rfl⟩ ?_);rintro m s ⟨i,ns1,uC,dX,jG,iD,dY,rfl⟩;refine aS<|qz<|nc zl<|nc zl<|nc zi ?_;cases m with
 | zero =>
  have tG:some ns1=some ns:=dX;have tG:=Option.some.inj tG;subst tG;refine aC rfl (λhc=>?_) (λhc=>?_)
  ·exfalso;have:((fr+i:Nat):Int)<to:=by simpa using hc
   omega
  refine aE<|aR<|nc zl<|nc zA<|nc ze ?_;refine⟨j,(0,AV.bp 350001 0 [])::(3,.own (o7 (hs++[n])) 200025)::(200025,.tok 3 1)::(4,.val (.i ((n+1:Nat):Int)))::v7 ⟨ns1,c2.vr,c2.ps⟩,by omega,⟨n+1,⟨ns1,c2.vr,c2.ps⟩,hs++[n],hq,jG,dY.mono (by omega),by omega,by rw[length_append];simp only[length_cons,length_nil];omega,rfl⟩,(a7 (s':=(0,AV.bp 350001 0 [])::(3,.own (o7 (hs++[n])) 200025)::(200025,.tok 3 1)::(4,.val (.i ((n+1:Nat):Int)))::Q3 ⟨ns1,c2.vr,c2.ps⟩) ⟨rfl,rfl,rfl,rfl,rfl,rfl,rfl,rfl,rfl,rfl,rfl,trivial⟩).trans (y6 400001 300001 rfl rfl (a6A U (by decide)) (by kernel_rfl) (by kernel_rfl) (by kernel_rfl))⟩
 | succ m =>
  have fY:fr+i<ns1.length:=by omega
  rw[List.range'_succ,a4E]at dX;cases bY:o8 k ns1 (fr+i)with
  | none=>rw[bY]at dX;cases dX
  | some r2 =>
  rw[bY]at dX;simp only at dX;obtain⟨xC,mX,hr4⟩:=FitU.head jG fY bY;have eT:=dY.head bY;have jY:=M5 c2.vr c2.ps k ns1 (fr+i) r2 bY jG.up fY (by omega);have tH:Q3 ⟨r2.1,c2.vr,c2.ps⟩=[(450001,.obj),(35500100,.sl 400001 0 ns1.length 5),(35500101,.mref 300003),(35500102,.sl 300002 0 c2.ps.length 2),(400001,.mrow 194 5 (r2.1.map Nd.cv)),(300003,.mp (c2.vr.map vrv)),(300002,.mrow 207 2 (c2.ps.map psv))]:=by simp only[Q3,mX]
  rw[tH]at jY;obtain⟨y,hy⟩:=Q9 (ns:=r2.1) (n:=r2.2) (by omega);have dW:=Nd.map_at hy;have fZ:(r2.1.map Nd.cv).length=r2.1.length:=length_map ..;have fS:nS r2.1 r2.2=y.us:=by unfold nS;rw[s6 hy]
  have mC:=eT r2.2;rw[fS]at mC dX;refine aC rfl (λhc=>?_) (λhc=>?_)
  case refine_2 =>
   have:¬ ((fr+i:Nat):Int)<to:=by simpa using hc
   omega
  refine aK<|aS<|aB<|aD (by kernel_rfl) (by kernel_rfl) ?_;refine nc zl<|nc z5<|nc zg<|nc z7<|nc zl<|nc zl<|nc (zbg ([(400001,.mrow 194 5 (r2.1.map Nd.cv))]) (C:=jY) (hnb:=i8 (by first | rfl | kernel_rfl)))<|nc (zO (k:=r2.2))<|nc z4<|nc (zP (G:=dW))<|nc zA<|nc (zO (k:=r2.2))<|nc z4<|nc (zR (F:=dW)) ?_;refine⟨by kernel_rfl,?_⟩;refine aR<|nc zl<|nc zA<|nc ze ?_;refine⟨m,(0,AV.bp 350001 0 [])::(3,.own (o7 (hs++[n])) 200025)::(200025,.tok 3 1)::(4,.val (.i (n:Int)))::(6,.val (.i (to:Int)))::(7,.val (.i ((fr+(i+1):Nat):Int)))::Q3 ⟨setUs r2.1 r2.2 (y.us+1),c2.vr,c2.ps⟩,by omega,⟨i+1,setUs r2.1 r2.2 (y.us+1),by omega,by rw[<-Nat.add_assoc];exact dX,xC.us _ _,by rw[F9];omega,(eT.set (by omega)).mono (by omega),rfl⟩,a7 ⟨rfl,rfl,rfl,rfl,rfl,rfl,rfl,?_,rfl,rfl,?_,rfl,rfl,trivial⟩⟩
  ·show _=some (AV.sl 400001 0 (setUs r2.1 r2.2 (y.us+1)).length 5);rw[F9,mX];rfl
  ·show _=some (AV.mrow 194 5 ((setUs r2.1 r2.2 (y.us+1)).map Nd.cv));rw[a7b hy];rfl
theorem a6Z{k:Nat}{vr ps}:∀(l:List Nat) {ns ns':List Nd} {B:Int},a4E k l ns=some ns'->FitU ⟨ns,vr,ps⟩->(∀p∈l,p<ns.length)->usB ns B->FitU ⟨ns',vr,ps⟩/\ns'.length=ns.length/\usB ns' (B+l.length)
 | [],ns,ns',B,e,h,_,hb=>by cases e;exact⟨h,rfl,hb.mono (by simp)⟩
 | p::l,ns,ns',B,e,h,hl,hb=>by
  rw[a4E]at e;cases hd:o8 k ns p with
  | none=>rw[hd]at e;cases e
  | some r =>
   rw[hd]at e;simp only at e;obtain⟨h1,h2,h3⟩:=h.head (hl p (by simp)) hd;have kP:=hb.head hd;have gL:=kP r.2;obtain⟨g1,g2,g3⟩:=a6Z l e (h1.us _ _) (λq hq=>by rw[F9,h2];exact hl q (List.mem_cons_of_mem _ hq)) (kP.set (by omega));exact⟨g1,by rw[g2,F9,h2],g3.mono (by simp only[length_cons];omega)⟩
theorem P3{k:Nat}:∀(j n:Nat) {c:Cl} {hs:List Nat} {q},F0 k j n c hs=some q->FitU c->usB c.ns ((n:Int)*1000)->n<=1000->(∀h∈hs,h<c.ns.length)->hs.length<=n->FitU q.1/\usB q.1.ns 1000000/\(∀h∈q.2,h<q.1.ns.length)/\q.2.length<=1000
 | 0,_,_,_,_,e,_,_,_,_,_=>by cases e
 | j+1,n,c,hs,q,e,hF,hu,hn,hh,hl=>by
  have vR:c.ns.length<=1000:=Nat.le_trans (D8 _) hF.big;rw[F0]at e;split at e
  ·rename_i kA;cases hd:o8 k c.ns n with
   | none=>rw[hd]at e;cases e
   | some r =>
    rw[hd]at e;simp only at e;obtain⟨h1,h2,h3⟩:=FitU.head (vr:=c.vr) (ps:=c.ps) hF kA hd;have dX:=hu.head hd;split at e
    ·exact P3 j (n+1) e h1 (dX.mono (by omega)) (by omega) (λh hm=>by show h<r.1.length;rw[h2];exact hh h hm) (by omega)
    ·have bI:n<r.1.length:=by omega
     obtain⟨c1,gP⟩:∃c1:Cl,c1=⟨r.1,c.vr,c.ps⟩:=⟨_,rfl⟩
     rw[<-gP]at e h1;have bI:n<c1.ns.length:=by rw[gP];exact bI
     have hp:=h1.parts bI;have hu2:usB c1.ns ((n:Int)*1000):=by rw[gP];exact dX
     have cX:=hu2.parts (by omega) n;have cK:(pC c1 n).1.ns.length<=1000:=Nat.le_trans (D8 _) hp.big;have aO:=a0O h1.kid bI;cases fW:a4E k (List.range' (pC c1 n).2.1 ((pC c1 n).2.2-(pC c1 n).2.1)) (pC c1 n).1.ns with
     | none=>rw[fW]at e;cases e
     | some ns =>
      rw[fW]at e;simp only at e;obtain⟨g1,g2,g3⟩:=a6Z (vr:=(pC c1 n).1.vr) (ps:=(pC c1 n).1.ps) _ fW hp (λp eA=>by rw[List.mem_range'_1]at eA;omega) cX;rw[List.length_range']at g3;have dD:c1.ns.length<=(pC c1 n).1.ns.length:=C0;refine P3 j (n+1) e g1 (g3.mono (by omega)) (by omega) (λh hm=>?_) (by rw[length_append];simp only[length_cons,length_nil];omega);show h<ns.length;rw[g2];have:c1.ns.length=c.ns.length:=by rw[gP];exact h2
      rcases mem_append.1 hm with hm | hm
      ·have:=hh h hm;omega
      ·rw[List.mem_singleton]at hm;omega
  ·cases e;exact⟨hF,hu.mono (by omega),hh,by show hs.length<=1000;omega⟩
theorem O0{k:Nat}{vr ps}:∀(l:List Nat) {ns:List Nd} {o:List Nat} {q} {B:Int},Y6 k l ns o=some q->FitU ⟨ns,vr,ps⟩->(∀p∈l,p<ns.length)->usB ns B->(∀h∈o,h<ns.length)->FitU ⟨q.1,vr,ps⟩/\q.1.length=ns.length/\usB q.1 (B+l.length)/\o.length<=q.2.length/\∀h∈q.2,h<ns.length
 | [],ns,o,q,B,e,h,_,hb,ho=>by cases e;exact⟨h,rfl,hb.mono (by simp),Nat.le_refl _,ho⟩
 | p::l,ns,o,q,B,e,h,hl,hb,ho=>by
  rw[Y6]at e;cases hd:o8 k ns p with
  | none=>rw[hd]at e;cases e
  | some r =>
   rw[hd]at e;simp only at e;obtain⟨h1,h2,h3⟩:=h.head (hl p (by simp)) hd;have kP:=hb.head hd;have gL:=kP r.2;obtain⟨g1,g2,g3,g4,g5⟩:=O0 l e (h1.us _ _) (λq hq=>by rw[F9,h2];exact hl q (List.mem_cons_of_mem _ hq)) (kP.set (by omega)) (λx hx=>by
    rw[F9,h2];split at hx
    ·rcases mem_append.1 hx with hx | hx
     ·exact ho x hx
     ·rw[List.mem_singleton]at hx;omega
    ·exact ho x hx)
   refine⟨g1,by rw[g2,F9,h2],g3.mono (by simp only[length_cons];omega),?_,λx hx=>by have:=g5 x hx;rw[F9,h2]at this;exact this⟩;split at g4
   ·rw[length_append]at g4;omega
   ·exact g4
theorem a2M{k:Nat}:∀(j i:Nat) {c:Cl} {o:List Nat} {q},a2V k j i c o=some q->FitU c->(∀h∈o,h<c.ns.length)->∀{B:Int},0<=B->usB c.ns B->o.length<=q.2.length
 | 0,_,_,_,_,e,_,_,_,_,_=>by cases e
 | j+1,i,c,o,q,e,hF,ho,B,hB,hu=>by
  rw[a2V]at e;cases hi:o[i]? with
  | none=>rw[hi]at e;cases e;exact Nat.le_refl _
  | some g =>
   rw[hi]at e;simp only at e;have hg:=ho g (mem_of_getElem? hi);have hp:=hF.parts hg;have aO:=a0O hF.kid hg;cases hd:Y6 k (List.range' (pC c g).2.1 ((pC c g).2.2-(pC c g).2.1)) (pC c g).1.ns o with
   | none=>rw[hd]at e;cases e
   | some qd =>
    rw[hd]at e;simp only at e;have dD:c.ns.length<=(pC c g).1.ns.length:=C0;obtain⟨g1,g2,g3,g4,g5⟩:=O0 (vr:=(pC c g).1.vr) (ps:=(pC c g).1.ps) _ hd hp (λp eA=>by rw[List.mem_range'_1]at eA;omega) (hu.parts hB g) (λx hx=>by have:=ho x hx;omega);have:=a2M j (i+1) e g1 (λx hx=>by show x<qd.1.length;rw[g2];exact g5 x hx) (by omega) g3;omega
theorem b3U{l:List Nat}{i n:Nat}(h:l[i]?=some n):(l.map λn:Nat=>CV.i (n:Int))[i]?=some (.i (n:Int)):=by rw[getElem?_map,h];rfl
abbrev us0(ns:List Nd)(n:Nat):Bool:=decide (nS ns n=0)
set_option maxHeartbeats 16000000 in
theorem b8E(k:Nat)(c0:Cl)(cn od:Cl×List Nat)(hq:F0 k k 0 c0 []=some cn)(ho:a2V k k 0 cn.1 (cn.2.filter λn=>decide (nS cn.1.ns n=0))=some od)(aN:FitU c0)(eR:usB c0.ns 0)(tI:od.2.length<=1000):r8 Tryz.prog 123 (v7 c0) [.bp 350001 0 []] (.tup [o7 od.2,.b (decide ((od.2.length:Int)=cn.2.length))]) (v7 od.1):=by
 obtain⟨fL,dX,qM,hhl⟩:=P3 k 0 hq aN (by simpa using eR) (by omega) (λh hm=>by cases hm) (Nat.le_refl _);have qQ:=b2S k k c0 cn hq aN eR;obtain⟨c,hc⟩:∃c,c=cn.1:=⟨_,rfl⟩
 obtain⟨hs,wO⟩:∃hs,hs=cn.2:=⟨_,rfl⟩
 rw[<-hc]at ho fL dX qM qQ;rw[<-wO]at ho qM hhl qQ |-;have hl:c.ns.length<=1000:=Nat.le_trans (D8 _) fL.big;have fZ:(c.ns.map Nd.cv).length=c.ns.length:=length_map ..;have yS:=R2 hs;refine l6 Tryz.func123 Tryz.ntmps123 rfl rfl rfl rfl rfl rfl ?_;intro w U hU;refine qz<|nc ze<|nc ze ?_;refine qz<|nc zl<|nc (zW (z:=qQ) (G:=i8 (by first | rfl | kernel_rfl)))<|nc ze ?_;refine qz<|nc ze ?_;refine aS<|qz<|nc zl<|nc zo<|nc zl ?_;refine aB (n6 hs.length (λi=>(0,AV.bp 350001 0 [])::(4,.val (o7 hs))::(5,.own (o7 ((hs.take i).filter (us0 c.ns))) 200033)::(200033,.tok 3 1)::(15,.val (o7 hs))::(16,.val (.i (hs.map λn:Nat=>CV.i (n:Int)).length))::(17,.val (.i i))::v7 c) ((M9 5 200033 3 1 rfl rfl rfl rfl rfl rfl (by kernel_rfl)).trans (a7 ⟨rfl,rfl,rfl,rfl,rfl,rfl,rfl,rfl,rfl,rfl,rfl,rfl,rfl,rfl,trivial⟩)) ?_);intro i hi;refine qz<|nc zi ?_;refine aS<|aC rfl (λkA=>?_) (λkA=>?_)
 ·have eO:i<hs.length:=by simpa using kA
  obtain⟨n,hn⟩:∃n,hs[i]?=some n:=⟨hs[i],List.getElem?_eq_getElem eO⟩
  have gQ:=b3U hn;have qK:=qM n (mem_of_getElem? hn);obtain⟨x,hx⟩:=Q9 qK;have kT:=Nd.map_at hx;have eV:nS c.ns n=x.us:=by unfold nS;rw[s6 hx]
  have eB:(hs.take (i+1)).filter (us0 c.ns)=(hs.take i).filter (us0 c.ns)++(if nS c.ns n=0 then[n] else[]):=by
   rw[List.take_add_one,hn,List.filter_append];congr 1;show List.filter (us0 c.ns) [n]=_;unfold us0;by_cases h0:nS c.ns n=0
   ·simp[h0]
   ·simp[h0]
  have yT:=R2 ((hs.take i).filter (us0 c.ns));have hfl:((hs.take i).filter (us0 c.ns)).length<=1000:=Nat.le_trans (List.length_filter_le _ _) (by rw[List.length_take];omega);refine aK<|aS<|aB<|qz<|nc (zt (j:=i) (H:=gQ) (hz:=yS))<|nc zu<|nc ze ?_;refine qz<|nc zl<|nc z5<|nc zg<|nc z7<|nc zl<|nc (zO (k:=n))<|nc z4<|nc (zP (G:=kT))<|nc zD ?_;refine AWp.wk (a7 (s':=(0,AV.bp 350001 0 [])::(4,.val (o7 hs))::(5,.own (o7 ((hs.take i).filter (us0 c.ns))) 200033)::(200033,.tok 3 1)::(7,.val (.i (n:Int)))::(29,.val (.b (decide (x.us=0))))::(15,.val (o7 hs))::(16,.val (.i (hs.map λn:Nat=>CV.i (n:Int)).length))::(17,.val (.i i))::v7 c) ⟨rfl,rfl,rfl,rfl,rfl,rfl,rfl,rfl,rfl,rfl,rfl,rfl,rfl,rfl,rfl,rfl,trivial⟩) ?_;refine aC rfl (λh0=>?_) (λh0=>?_)
  ·have h0:x.us=0:=by simpa using h0
   rw[eV,if_pos h0]at eB;refine aR<|nc zl<|nc zl<|nc zy<|ne zz<|nc ze ?_;refine aR<|nc zA<|nc zl ?_;refine⟨eO,Wk.trans (a7 (s':=(0,AV.bp 350001 0 [])::(4,.val (o7 hs))::(5,.own (o7 ((hs.take (i+1)).filter (us0 c.ns))) 300033)::(300033,.tok 3 1)::(15,.val (o7 hs))::(16,.val (.i (hs.map λn:Nat=>CV.i (n:Int)).length))::(17,.val (.i ((i+1:Nat):Int)))::v7 c) ⟨rfl,rfl,?_,rfl,rfl,rfl,rfl,rfl,rfl,rfl,rfl,rfl,rfl,rfl,trivial⟩) (B1 300033 200033 rfl rfl (by kernel_rfl) (by kernel_rfl))⟩;rw[eB];show _=some (AV.own (.lst (((hs.take i).filter (us0 c.ns)++[n]).map λn:Nat=>CV.i (n:Int))) 300033);rw[map_append];rfl
  ·have h0:¬ x.us=0:=by simpa using h0
   rw[eV,if_neg h0,List.append_nil]at eB;refine aK<|aR<|nc zA<|nc zl ?_;refine⟨eO,?_⟩;show Wk _ _ _ _ (_::_::(5,.own (o7 ((hs.take (i+1)).filter (us0 c.ns))) 200033)::_::_::_::_::v7 c);rw[eB];exact a7 ⟨rfl,rfl,rfl,rfl,rfl,rfl,rfl,rfl,rfl,rfl,rfl,rfl,rfl,rfl,trivial⟩
 have eO:i=hs.length:=by
  have:¬ i<hs.length:=by simpa using kA
  omega
 subst eO;rw[List.take_length];refine aE<|aS<|qz<|nc ze ?_;have jF:∀h∈hs.filter (us0 c.ns),h<c.ns.length:=λh hm=>qM h (List.mem_filter.1 hm).1;refine aB (w8 (λj s=>∃i c o,a2V k j i c o=some od/\FitU c/\usB c.ns (1000000+(i:Int)*1000)/\(∀h∈o,h<c.ns.length)/\i<=o.length/\s=(0,AV.bp 350001 0 [])::(4,.val (o7 hs))::(5,.own (o7 o) 200082)::(200082,.tok 3 1)::(8,.val (.i (i:Int)))::v7 c) (n:=k) (s':=(0,AV.bp 350001 0 [])::(4,.val (o7 hs))::(5,.own (o7 (hs.filter (us0 c.ns))) 200082)::(200082,.tok 3 1)::(8,.val (.i ((0:Nat):Int)))::v7 c) ((a7 (s':=(0,AV.bp 350001 0 [])::(4,.val (o7 hs))::(5,.own (o7 (hs.filter (us0 c.ns))) 200033)::(200033,.tok 3 1)::(8,.val (.i ((0:Nat):Int)))::v7 c) ⟨rfl,rfl,rfl,rfl,rfl,rfl,rfl,rfl,rfl,rfl,rfl,rfl,trivial⟩).trans (B1 200033 200082 rfl rfl (by kernel_rfl) (by kernel_rfl))) ⟨0,c,hs.filter (us0 c.ns),ho,fL,dX.mono (by omega),jF,Nat.zero_le _,rfl⟩ ?_);clear ho jF fZ hl qQ fL dX qM;rintro j s ⟨i,c,o,ho,hF,hu,hh,hio,rfl⟩;have hl:c.ns.length<=1000:=Nat.le_trans (D8 _) hF.big;have hol1:o.length<=od.2.length:=a2M j i ho hF hh (by omega) hu;have hos:=R2 o;cases j with
 | zero=>cases ho
 | succ j =>
 rw[a2V]at ho;refine aS<|qz<|nc zl<|nc zl<|nc zo<|nc zi ?_;cases uL:o[i]? with
 | none =>
  rw[uL]at ho;simp only at ho;have ho:=Option.some.inj ho;subst ho;have eO:o.length<=i:=List.getElem?_eq_none_iff.1 uL;refine aC rfl (λhc=>?_) (λhc=>?_)
  ·exfalso;have:i<o.length:=by simpa using hc
   omega
  refine aE<|qz<|nc zl<|nc zl<|nc zo<|nc zl<|nc zo<|nc zD<|nc ze<|nc ze ?_;refine aT ⟨.inr rfl,_,Wk.refl _,?_,rfl,rfl,rfl,rfl,rfl,rfl,rfl,trivial⟩;show some (AV.tup [o7 o,.b (decide (((o.map λn:Nat=>CV.i (n:Int)).length:Int)=((hs.map λn:Nat=>CV.i (n:Int)).length:Nat)))])=_;rw[length_map,length_map]
 | some g =>
 rw[uL]at ho;simp only at ho;have hoi':=b3U uL;have eO:i<o.length:=(List.getElem?_eq_some_iff.1 uL).1;have uA:=hh g (mem_of_getElem? uL);refine aC rfl (λhc=>?_) (λhc=>?_)
 case refine_2 =>
  have:¬ i<o.length:=by simpa using hc
  omega
 refine aK ?_;have jX:=hF.parts uA;have cX:=hu.parts (by omega) g;have cK:(pC c g).1.ns.length<=1000:=Nat.le_trans (D8 _) jX.big;have mK:=O2 c g uA hF.trm (by omega) (hF.kid.fi uA (by omega));obtain⟨c2,gV⟩:∃c2,c2=(pC c g).1:=⟨_,rfl⟩
 obtain⟨fr,mJ⟩:∃x,x=(pC c g).2.1:=⟨_,rfl⟩
 obtain⟨to,iW⟩:∃x,x=(pC c g).2.2:=⟨_,rfl⟩
 have qP:fr<=to:=by rw[mJ,iW];exact S0.1
 have xB:to<=c2.ns.length:=by rw[iW,gV];exact a0O hF.kid uA
 have dD:c.ns.length<=c2.ns.length:=by rw[gV];exact C0
 rw[<-gV]at ho jX cX cK mK;rw[<-mJ,<-iW]at ho mK;refine aS<|aB<|qz<|nc zl<|nc zl<|nc zl<|nc (zt (j:=i) (H:=hoi') (hz:=hos))<|nc zu<|nc (zW (z:=mK) (G:=i8 (by first | rfl | kernel_rfl)))<|nc zl<|nc zE<|nc zE<|nc ze<|nc ze ?_;refine qz<|nc zl<|nc ze ?_;cases eD:Y6 k (List.range' fr (to-fr)) c2.ns o with
 | none=>rw[eD]at ho;cases ho
 | some qd =>
 rw[eD]at ho;simp only at ho;have hqd:qd.2.length<=od.2.length:=by obtain⟨g1,g2,g3,g4,g5⟩:=O0 (vr:=c2.vr) (ps:=c2.ps) _ eD jX (λp eA=>by rw[List.mem_range'_1]at eA;omega) cX (λx hx=>by have:=hh x hx;omega);exact a2M j (i+1) ho g1 (λx hx=>by show x<qd.1.length;rw[g2];exact g5 x hx) (by omega) g3
 refine aB (w8 (λm s=>∃e ns1 o1,e+m=to-fr/\Y6 k (List.range' (fr+e) m) ns1 o1=some qd/\FitU ⟨ns1,c2.vr,c2.ps⟩/\ns1.length=c2.ns.length/\usB ns1 (1000000+(i:Int)*1000+e)/\(∀h∈o1,h<c2.ns.length)/\i+1<=o1.length/\s=(0,AV.bp 350001 0 [])::(4,.val (o7 hs))::(5,.own (o7 o1) 200082)::(200082,.tok 3 1)::(8,.val (.i (i:Int)))::(10,.val (.i (to:Int)))::(11,.val (.i ((fr+e:Nat):Int)))::Q3 ⟨ns1,c2.vr,c2.ps⟩) (n:=to-fr) (s':=(0,AV.bp 350001 0 [])::(4,.val (o7 hs))::(5,.own (o7 o) 200082)::(200082,.tok 3 1)::(8,.val (.i (i:Int)))::(10,.val (.i (to:Int)))::(11,.val (.i ((fr+0:Nat):Int)))::Q3 ⟨c2.ns,c2.vr,c2.ps⟩) ((a7 (s':=(0,AV.bp 350001 0 [])::(4,.val (o7 hs))::(5,.own (o7 o) 200082)::(200082,.tok 3 1)::(8,.val (.i (i:Int)))::(10,.val (.i (to:Int)))::(11,.val (.i ((fr+0:Nat):Int)))::v7 c2) ⟨rfl,rfl,rfl,rfl,rfl,rfl,rfl,rfl,rfl,rfl,rfl,rfl,rfl,rfl,trivial⟩).trans (y6 300001 400001 rfl rfl (b8P hU (by kernel_rfl)) (by kernel_rfl) (by kernel_rfl) (by kernel_rfl))) ⟨0,c2.ns,o,by omega,eD,jX,rfl,cX.mono (by omega),λh hm=>by have:=hh h hm;omega,by omega,rfl⟩ ?_);rintro m s ⟨e,ns1,o1,hem,dM,jG,iD,dY,tY,cA,rfl⟩;have ho1l:o1.length<=qd.2.length:=(O0 _ dM jG (λp eA=>by rw[List.mem_range'_1]at eA;omega) dY (λx hx=>by rw[iD];exact tY x hx)).2.2.2.1;have ho1s:=R2 o1;refine aS<|qz<|nc zl<|nc zl<|nc zi ?_;cases m with
 | zero =>
  have bY:some (ns1,o1)=some qd:=dM;have bY:=Option.some.inj bY;subst bY;refine aC rfl (λhc=>?_) (λhc=>?_)
  ·exfalso;have:((fr+e:Nat):Int)<to:=by simpa using hc
   omega
  refine aE<|aR<|nc zl<|nc zA<|nc ze ?_;refine⟨j,(0,AV.bp 350001 0 [])::(4,.val (o7 hs))::(5,.own (o7 o1) 200082)::(200082,.tok 3 1)::(8,.val (.i ((i+1:Nat):Int)))::v7 ⟨ns1,c2.vr,c2.ps⟩,by omega,⟨i+1,⟨ns1,c2.vr,c2.ps⟩,o1,ho,jG,dY.mono (by omega),λh hm=>by show h<ns1.length;rw[iD];exact tY h hm,cA,rfl⟩,(a7 (s':=(0,AV.bp 350001 0 [])::(4,.val (o7 hs))::(5,.own (o7 o1) 200082)::(200082,.tok 3 1)::(8,.val (.i ((i+1:Nat):Int)))::Q3 ⟨ns1,c2.vr,c2.ps⟩) ⟨rfl,rfl,rfl,rfl,rfl,rfl,rfl,rfl,rfl,rfl,rfl,rfl,trivial⟩).trans (y6 400001 300001 rfl rfl (a6A U (by decide)) (by kernel_rfl) (by kernel_rfl) (by kernel_rfl))⟩
 | succ m =>
  have fY:fr+e<ns1.length:=by omega
  rw[List.range'_succ,Y6]at dM;cases bY:o8 k ns1 (fr+e)with
  | none=>rw[bY]at dM;cases dM
  | some r2 =>
  rw[bY]at dM;simp only at dM;obtain⟨xC,mX,hr4⟩:=FitU.head jG fY bY;have eT:=dY.head bY;have jY:=M5 c2.vr c2.ps k ns1 (fr+e) r2 bY jG.up fY (by omega);obtain⟨y,hy⟩:=Q9 (ns:=r2.1) (n:=r2.2) (by omega);have dW:=Nd.map_at hy;have fZ:(r2.1.map Nd.cv).length=r2.1.length:=length_map ..;have fS:nS r2.1 r2.2=y.us:=by unfold nS;rw[s6 hy]
  have mC:=eT r2.2;rw[fS]at mC dM;refine aC rfl (λhc=>?_) (λhc=>?_)
  case refine_2 =>
   have:¬ ((fr+e:Nat):Int)<to:=by simpa using hc
   omega
  refine aK<|aS<|aB<|qz<|nc zl<|nc zl<|nc (zW (z:=jY) (G:=i8 (by first | rfl | kernel_rfl)))<|nc ze ?_;refine qz<|nc zl<|nc z5<|nc zg<|nc z7<|nc zl<|nc (zO (k:=r2.2))<|nc z4<|nc (zP (G:=dW))<|nc zB<|nc (zO (k:=r2.2))<|nc z4<|nc (zR (F:=dW)) ?_;obtain⟨ns2,bH⟩:∃ns2,ns2=setUs r2.1 r2.2 (y.us-1):=⟨_,rfl⟩
  have lQ:ns2.map Nd.cv=(r2.1.map Nd.cv).set r2.2 (Nd.cw { y with us:=y.us-1 }):=by rw[bH];exact a7b hy
  have kM:ns2.length=r2.1.length:=by rw[bH,F9]
  have iG:ns2[r2.2]?=some { y with us:=y.us-1 }:=by rw[bH];exact b7i hy
  have sW:=Nd.map_at iG;have hlm2:(ns2.map Nd.cv).length=ns2.length:=length_map ..;have hF5:FitU ⟨ns2,c2.vr,c2.ps⟩:=by rw[bH];exact xC.us _ _
  have tJ:usB ns2 (1000000+(i:Int)*1000+e+1):=by rw[bH];exact eT.set (by omega)
  rw[<-bH]at dM;refine AWp.wk (a7 (s':=(0,AV.bp 350001 0 [])::(4,.val (o7 hs))::(5,.own (o7 o1) 200082)::(200082,.tok 3 1)::(8,.val (.i (i:Int)))::(10,.val (.i (to:Int)))::(11,.val (.i ((fr+e:Nat):Int)))::(12,.val (.i (r2.2:Int)))::Q3 ⟨ns2,c2.vr,c2.ps⟩) ⟨rfl,rfl,rfl,rfl,rfl,rfl,rfl,rfl,rfl,?_,rfl,rfl,?_,rfl,rfl,trivial⟩) ?_
  ·show _=some (AV.sl 400001 0 ns2.length 5);rw[kM];rfl
  ·show _=some (AV.mrow 194 5 (ns2.map Nd.cv));rw[lQ];rfl
  refine qz<|nc zl<|nc z5<|nc zg<|nc z7<|nc zl<|nc (zO (k:=r2.2))<|nc z4<|nc (zP (G:=sW))<|nc zD ?_;refine AWp.wk (a7 (s':=(0,AV.bp 350001 0 [])::(4,.val (o7 hs))::(5,.own (o7 o1) 200082)::(200082,.tok 3 1)::(8,.val (.i (i:Int)))::(10,.val (.i (to:Int)))::(11,.val (.i ((fr+e:Nat):Int)))::(12,.val (.i (r2.2:Int)))::(78,.val (.b (decide (y.us-1=0))))::Q3 ⟨ns2,c2.vr,c2.ps⟩) ⟨rfl,rfl,rfl,rfl,rfl,rfl,rfl,rfl,rfl,rfl,rfl,rfl,rfl,rfl,rfl,rfl,trivial⟩) ?_;refine aC rfl (λh0=>?_) (λh0=>?_)
  ·have h0:y.us-1=0:=by simpa using h0
   rw[if_pos h0]at dM;refine aR<|nc zl<|nc zl<|nc zy<|ne zz<|nc ze ?_;refine aR<|nc zl<|nc zA<|nc ze ?_;refine⟨m,(0,AV.bp 350001 0 [])::(4,.val (o7 hs))::(5,.own (o7 (o1++[r2.2])) 200082)::(200082,.tok 3 1)::(8,.val (.i (i:Int)))::(10,.val (.i (to:Int)))::(11,.val (.i ((fr+(e+1):Nat):Int)))::Q3 ⟨ns2,c2.vr,c2.ps⟩,by omega,⟨e+1,ns2,o1++[r2.2],by omega,by rw[<-Nat.add_assoc];exact dM,hF5,by omega,tJ.mono (by omega),λh hm=>by
    rcases mem_append.1 hm with hm | hm
    ·exact tY h hm
    ·rw[List.mem_singleton]at hm;omega,by rw[length_append];omega,rfl⟩,(a7 (s':=(0,AV.bp 350001 0 [])::(4,.val (o7 hs))::(5,.own (o7 (o1++[r2.2])) 300082)::(300082,.tok 3 1)::(8,.val (.i (i:Int)))::(10,.val (.i (to:Int)))::(11,.val (.i ((fr+(e+1):Nat):Int)))::Q3 ⟨ns2,c2.vr,c2.ps⟩) ⟨rfl,rfl,?_,rfl,rfl,rfl,rfl,rfl,rfl,rfl,rfl,rfl,rfl,rfl,trivial⟩).trans (B1 300082 200082 rfl rfl (by kernel_rfl) (by kernel_rfl))⟩
   show _=some (AV.own (.lst ((o1++[r2.2]).map λn:Nat=>CV.i (n:Int))) 300082);rw[map_append];rfl
  ·have h0:¬ y.us-1=0:=by simpa using h0
   rw[if_neg h0]at dM;refine aK<|aR<|nc zl<|nc zA<|nc ze ?_;exact⟨m,(0,AV.bp 350001 0 [])::(4,.val (o7 hs))::(5,.own (o7 o1) 200082)::(200082,.tok 3 1)::(8,.val (.i (i:Int)))::(10,.val (.i (to:Int)))::(11,.val (.i ((fr+(e+1):Nat):Int)))::Q3 ⟨ns2,c2.vr,c2.ps⟩,by omega,⟨e+1,ns2,o1,by omega,by rw[<-Nat.add_assoc];exact dM,hF5,by omega,tJ.mono (by omega),tY,cA,rfl⟩,a7 ⟨rfl,rfl,rfl,rfl,rfl,rfl,rfl,rfl,rfl,rfl,rfl,rfl,rfl,rfl,trivial⟩⟩
theorem a1M:∀(N:Nat) {l:List Nat},l.Nodup->(∀x∈l,x<N)->l.length<=N
 | 0,l,_,h=>by
  cases l with
  | nil=>simp
  | cons a l=>exact absurd (h a (by simp)) (by omega)
 | N+1,l,hn,h=>by
  have h1:(l.filter λx=>decide (x≠N)).length<=N:=a1M N (List.Pairwise.filter _ hn) λx hx=>by
   obtain⟨h2,h3⟩:=List.mem_filter.1 hx;have:=h x h2;have:x≠N:=by simpa using h3
   omega
  have h2:l.length<=(l.filter λx=>decide (x≠N)).length+1:=by
   clear h h1
   induction l with
   | nil=>simp
   | cons a l ih =>
    rw[List.nodup_cons]at hn;by_cases e:a=N
    ·subst e;rw[List.filter_cons,if_neg (by simp),length_cons];have:l.filter (λx=>decide (x≠a))=l:=List.filter_eq_self.2 λx hx=>by simp only[ne_eq,decide_eq_true_eq];exact λe=>hn.1 (e▸hx)
     rw[this];omega
    ·rw[List.filter_cons,if_pos (by simpa using e),length_cons,length_cons];have:=ih hn.2;omega
  omega
theorem b0K:∀(k:Nat) {c:Cl} {q} {E} {M:Nat},P9 k c=some q->Inv c E M->q.2=true->Inv q.1 E M/\q.1.ps=[]
 | 0,_,_,_,_,e,_,_=>by cases e
 | k+1,c,q,E,M,e,h,hq=>by
  rw[P9]at e;cases hg:c.ps.getLast? with
  | none=>rw[hg]at e;cases e;exact⟨h,List.getLast?_eq_none_iff.1 hg⟩
  | some p =>
   rw[hg]at e;simp only at e;cases hj:E7 k ⟨c.ns,c.vr,c.ps.dropLast⟩ p.1 p.2 with
   | none=>rw[hj]at e;cases e
   | some qq =>
    rw[hj]at e;simp only at e;split at e
    ·rename_i h2;exact b0K k e ((h.join hg hj).2 h2) hq
    ·rename_i h2;cases e;exact absurd hq h2
theorem a1q{k:Nat}:∀(l:List (Tm×Tm)) {c:Cl} {q} {E},s9 k l c=some q->Inv c E 2000001->c.ps=[]->(∀p∈l,(p.1.rng/\p.1.ok)/\(p.2.rng/\p.2.ok))->pw c.ns+b2r l<=1000->q.2=true->∃E',Inv q.1 E' 2000001
 | [],c,q,E,e,h,_,_,_,_=>by cases e;exact⟨E,h⟩
 | p::l,c,q,E,e,h,gR,hl,hb,hq=>by
  have hb:pw c.ns+(p.1.size+p.2.size+b2r l)<=1000:=hb;rw[s9]at e;cases hr:P9 k (openC c p)with
  | none=>rw[hr]at e;cases e
  | some qr =>
   rw[hr]at e;simp only at e;obtain⟨h1,h2⟩:=hl p (by simp);have hI:=h.opn gR h1 h2 (by omega);split at e
   ·rename_i h3;obtain⟨g1,g2⟩:=b0K k hr hI h3;have hp:=b3t k hr;rw[a8r]at hp;exact a1q l e g1 g2 (λx hx=>hl x (List.mem_cons_of_mem _ hx)) (by omega) hq
   ·rename_i h3;cases e;exact absurd hq h3
theorem b1b{k:Nat}:∀(j i:Nat) {c:Cl} {o:List Nat} {q},a2V k j i c o=some q->FitU c->(∀h∈o,h<c.ns.length)->∀{B:Int},0<=B->usB c.ns B->FitU q.1
 | 0,_,_,_,_,e,_,_,_,_,_=>by cases e
 | j+1,i,c,o,q,e,hF,ho,B,hB,hu=>by
  rw[a2V]at e;cases hi:o[i]? with
  | none=>rw[hi]at e;cases e;exact hF
  | some g =>
   rw[hi]at e;simp only at e;have hg:=ho g (mem_of_getElem? hi);have hp:=hF.parts hg;have aO:=a0O hF.kid hg;cases hd:Y6 k (List.range' (pC c g).2.1 ((pC c g).2.2-(pC c g).2.1)) (pC c g).1.ns o with
   | none=>rw[hd]at e;cases e
   | some qd =>
    rw[hd]at e;simp only at e;have dD:c.ns.length<=(pC c g).1.ns.length:=C0;obtain⟨g1,g2,g3,g4,g5⟩:=O0 (vr:=(pC c g).1.vr) (ps:=(pC c g).1.ps) _ hd hp (λp eA=>by rw[List.mem_range'_1]at eA;omega) (hu.parts hB g) (λx hx=>by have:=ho x hx;omega);exact b1b j (i+1) e g1 (λx hx=>by show x<qd.1.length;rw[g2];exact g5 x hx) (by omega) g3
section
open Go.RowKit Go.MapKept Go.Shelf
attribute [local go_sem] Oper.semAt_some
def c5k(x:Nat×Int):List CV:=[.i (x.1:Int),.i x.2]
def P6(L:List Int):List (Nat×Int):=(List.range L.length).reverse.map λi=>(i,L.getD i 0)
theorem a2A(L:List Int):(P6 L).length=L.length:=by simp[P6]
theorem a5H{L:List Int}{k:Nat}(h:k<L.length):(P6 L)[k]?=some (L.length-1-k,L.getD (L.length-1-k) 0):=by
 unfold P6;rw[getElem?_map,List.getElem?_reverse (by simpa using h)];simp only[List.length_range];rw[List.getElem?_range (by omega)];rfl
set_option maxRecDepth 100000 in
set_option maxHeartbeats 2000000 in
theorem c0c(l Bb ob:Nat)(L:List Int)(R:Nat->Nat->Prop)(w:World)(ao:Option Addr)(cap:Nat)(dU:w.cell? ⟨Bb,ob,none⟩=some (.slice ao L.length cap))(qR:R Bb ob)(cJ:At R w ao (L.map (Value.int .i64)))(hl:L.length<=1000000000)
  (J:List (Nat×Int)->World->Prop) (hJ:∀pre A B,J pre A->Below A.heap.size A B->J pre B)
  (hY:∀pre (x:Nat×Int) V,J pre V->(P6 L)[pre.length]?=some x->YieldAt Fence.wide 1 Tryz.prog l #[.int .i64 (x.1:Int),.int .i64 x.2] V λe V'=>e=.returned (.bool true)/\J (pre++[x]) V'/\KpX w.heap.size (λb=>¬ ∃o,R b o) V V')
  (W:World) (hW:Below w.heap.size w W) (h0:J [] W) :
  CallsIn Fence.wide 2 Tryz.prog 181 #[.func (.yield l) #[] #[],.pointer (some ⟨Bb,ob,none⟩)] W λe W'=>(∃v,e=.returned v)/\∃ys,ys=P6 L/\J ys W':=by
 have eP:∀{V:World},KpX w.heap.size (λb=>¬ ∃o,R b o) w V->V.cell? ⟨Bb,ob,none⟩=some (.slice ao L.length cap)/\∀i,i<L.length->∃b off,ao=some ⟨b,off,none⟩/\V.cell? ⟨b,off+i,none⟩=some (.int .i64 (L.getD i 0)):=fun{V} hV=>by
  have kL:∀b o u,R b o->w.cell? ⟨b,o,none⟩=some u->V.cell? ⟨b,o,none⟩=some u:=λb o u hr hc=>by have hb:b<w.heap.size:=World.block_lt_of_cell? w _ hc;rw[World.cell?_of_block (w:=w) (hV b hb (λhn=>hn ⟨o,hr⟩))];exact hc
  refine⟨kL _ _ _ qR dU,λi hi=>?_⟩;rcases cJ with h1 | ⟨b,off,h1,h2⟩
  ·have:=congrArg List.length h1;rw[length_map]at this;simp at this;subst this;simp at hi
  ·obtain⟨h3,h4⟩:=h2 i (by simpa using hi);refine⟨b,off,h1,kL _ _ _ h3 ?_⟩;rw[h4,getElem?_map,List.getElem?_eq_getElem hi,getD_eq_getElem?_getD,List.getElem?_eq_getElem hi];rfl
 have tK:KpX w.heap.size (λb=>¬ ∃o,R b o) w W:=λb hb _=>hW.block b hb;obtain⟨n,hn⟩:∃n,n=L.length:=⟨_,rfl⟩
 have HN:Hid (n=L.length):=hn;have HC:Hid (∀{V:World},KpX w.heap.size (λb=>¬ ∃o,R b o) w V->V.cell? ⟨Bb,ob,none⟩=some (.slice ao n cap)/\∀i,i<n->∃b off,ao=some ⟨b,off,none⟩/\V.cell? ⟨b,off+i,none⟩=some (.int .i64 (L.getD i 0))):=by rw[hn];exact fun{V} h=>eP h
 have cB:n<=1000000000:=by omega
 clear eP dU cJ hn hl qR;obtain⟨jD,_⟩:=HC.out tK;refine callsIn_of_wp Tryz.func181 rfl trivial ?_ rfl;simp only[Tryz.ntmps181,List.size_toArray,length_cons,length_nil,Nat.reduceAdd,Nat.reduceSub,Array.replicate_succ,Array.replicate_zero,List.push_toArray,List.append_toArray,List.nil_append,List.cons_append]
 gi_wp2
 gi_loopw [3] (λiv wr=>∃(z:Int) (k:Nat),iv=.int .i64 z/\z=(n:Int)-1-k/\k<=n/\J ((P6 L).take k) wr/\KpX w.heap.size (λb=>¬ ∃o,R b o) w wr) (λiv wr=>(intOf iv+1).toNat)
 case atStart=>exact⟨_,0,rfl,by omega,by omega,by simpa using h0,tK⟩
 case round =>
  obtain⟨z,k,rfl,hz,hk,pA,xD⟩:=hrel;clear jD h0 tK;obtain⟨kP,gP⟩:=HC.out xD;by_cases oK:k=n
  ·have iJ:z = -1:=by omega
   subst iJ
   gi_wp2
   go_end0
   refine⟨⟨_,rfl⟩,_,rfl,?_⟩;rw[oK,HN.out,<-a2A,List.take_length]at pA;exact pA
  ·obtain⟨j,hj⟩:∃j:Nat,j=n-1-k:=⟨_,rfl⟩
   have hzj:z=(j:Int):=by omega
   have uM:j<n:=by omega
   subst hzj;obtain⟨b,off,rfl,gV⟩:=gP j uM;have hx:(P6 L)[((P6 L).take k).length]?=some (j,L.getD j 0):=by
    have kE:k<L.length:=by have:=HN.out;omega
    rw[List.length_take,a2A,Nat.min_eq_left (by omega),a5H kE,<-HN.out,<-hj]
   obtain⟨fn,tmps,assign,body,hy,hR⟩:=hY _ _ _ pA hx;have HX:Hid (((P6 L).take k)++[(j,L.getD j 0)]=(P6 L).take (k+1)):=by
    have kE:k<L.length:=by have:=HN.out;omega
    show _=_;rw[List.take_add_one,a5H kE,<-HN.out,<-hj];rfl
   obtain⟨v,hv⟩:∃v,v=L.getD j 0:=⟨_,rfl⟩
   rw[<-hv]at gV hR;have HX2:=HX.out;rw[<-hv]at HX2;have HX3:Hid (((P6 L).take k)++[(j,v)]=(P6 L).take (k+1)):=HX2;clear HX HX2 hx gP;have hy:Sem.run Tryz.prog (Instr.yield l #[.int .i64 (j:Int),.int .i64 v]) wr=.ok (.round l fn tmps assign body) wr:=by rw[hv];exact hy
   clear hv;have HJ:Hid (j=n-1-k/\k<n):=⟨hj,by omega⟩
   clear hj hz oK hk
   gi_wp2
   refine hR.mono ?_;rintro e V3 ⟨rfl,pZ,rD⟩
   gi_wp2
   go_roundw
   case rel=>exact⟨_,k+1,rfl,by have:=HJ.out;omega,by have:=HJ.out;omega,by have:=pZ;rw[HX3.out]at this;exact this,λb' hb' kT=>(rD b' hb' kT).trans (xD b' hb' kT)⟩
   case measure=>simp[intOf]
theorem b2V(L:List Int)(hl:L.length<=1000000000):c2y Tryz.prog 181 [.ptr (.lst (L.map CV.i))] c5k (P6 L):=by
 rintro w lb R ⟨u,us,rfl,h1,h2⟩;have h2:us=[]:=h2;subst h2;obtain⟨b,off,xs,rfl,h3,h4⟩:=a0g.1 h1;obtain⟨v,g1,g2⟩:=Z5 h3;obtain⟨ao,n,cap,rfl,e1,e2,e3,e4,ys,e5,e6⟩:=l5.1 g1;rw[length_map]at e1;subst e1;have eV:xs=[.slice ao L.length cap]:=by rw[<-g2];rfl
 subst eV;obtain⟨h5,h6⟩:=h4 0 (by simp);have fS:ys=L.map (Value.int .i64):=by
  have:∀(l:List Int) (zs:List Value),Sq ((l.map CV.i).map λc=>Rep R w c) zs->zs=l.map (Value.int .i64):=by
   intro l
   induction l with
   | nil=>intro zs h;exact h
   | cons x l ih =>
    intro zs h;obtain⟨us,bs,rfl,k1,k2⟩:=h;rw[List.map_cons,ih bs k2];have k3:us=[.int .i64 x]:=by obtain⟨v,j1,j2⟩:=Z5 k1;obtain⟨j3,_⟩:=o0.1 j1;subst j3;rw[<-j2];rfl
    rw[k3];rfl
  exact this L ys e6
 subst fS;intro l J W hW hJ hY h0;exact c0c l b off L R w ao cap (by simpa using h6) (by simpa using h5) e5 hl J hJ hY W hW h0
theorem b7m(W:World)(L:List Int):AFun Tryz.prog W 174 [.lst (L.map CV.i)] (.val (.fn 181 0 [.ptr (.lst (L.map CV.i))])):=by
 refine b9 (rs:=[.fn 181 0 [.ptr (.lst (L.map CV.i))]]) Tryz.func174 Tryz.ntmps174 rfl rfl rfl rfl ?_;intro w U hW;refine qz<|nc zd<|nc ze ?_;refine AWp.wk (q7 1 rfl rfl rfl (s':=[]) trivial rfl rfl rfl) ?_;refine qz<|nc zG<|nc ze ?_;exact aT ⟨.inr rfl,rfl⟩
end
end Go.Proofs.YteegmcfobgpemaaGreat
