/-
 UnCount UnOrd UnEnd UnRef UnAll UnFns1 UnFns2 UnVr UnSize UnFns3 UnFns4
-/
import Derived.Test.YteegmcfobgpemaaGreatMg5
import Derived.Test.YteegmcfobgpemaaGreatMg4
import Derived.Test.YteegmcfobgpemaaGreatMg3
import Derived.Test.YteegmcfobgpemaaGreatMg2
namespace Go.Proofs.YteegmcfobgpemaaGreat
open List (append_assoc append_nil filter_cons getD_eq_getElem?_getD getElem?_set length_append length_cons length_map length_nil length_set map_append map_congr_left map_cons map_map map_nil map_set mem_append mem_cons mem_cons_of_mem mem_filter mem_flatMap mem_map mem_of_getElem? mem_range mem_singleton nodup_cons sum_cons)
open Go.RowKit
set_option linter.unusedVariables false
set_option linter.unusedSimpArgs false
set_option maxRecDepth 100000
structure CI(c:Cl)(H:Nat->Nat)(n:Nat)(hs:List Nat):Prop where
 le:n<=c.ns.length
 lst:hs=(List.range n).filter λm=>decide (H m=m)
 kid:∀m,m<n->H m=m->¬ (nT c.ns m).f<0->(nT c.ns m).l.length≠0->nK c.ns m≠0
 us:∀h,nS c.ns h=((hs.flatMap (egC c.ns H)).count h:Nat)
theorem CI.mem{c:Cl}{H:Nat->Nat}{n:Nat}{hs:List Nat}(h:CI c H n hs){g:Nat}(hg:g∈hs):g<n/\H g=g:=by
 rw[h.lst,mem_filter]at hg;exact⟨mem_range.1 hg.1,of_decide_eq_true hg.2⟩
theorem CI.grow{c c':Cl}{H H' r:Nat->Nat}{E}(hc:ClsC c H r E){n:Nat}{hs:List Nat}(h:CI c H n hs)(hg:Grew c c' H H')(hS:∀m,nS c'.ns m=nS c.ns m):CI c' H' n hs:=by
 have hl:=hg.len;have cS:=h.le;refine⟨by omega,?_,λm hm e hf hz=>?_,λx=>?_⟩
 ·rw[h.lst];apply List.filter_congr;intro m hm;rw[hg.hd m (by have:=mem_range.1 hm;omega)]
 ·have bS:m<c.ns.length:=by omega
  rw[hg.tm m bS]at hf hz;rw[hg.hd m bS]at e;have:=h.kid m hm e hf hz;rw[hg.kd m bS this];exact this
 ·rw[hS,h.us x];have:hs.flatMap (egC c'.ns H')=hs.flatMap (egC c.ns H):=by
   have:∀g∈hs,egC c'.ns H' g=egC c.ns H g:=λg hgm=>by
    obtain⟨g1,g2⟩:=h.mem hgm;have bS:g<c.ns.length:=by omega
    unfold egC;rw[hg.tm g bS];split
    ·rfl
    ·rename_i hf;apply map_congr_left;intro i hi;have hi:=mem_range.1 hi;have hk:=h.kid g g1 g2 hf (by omega);rw[hg.kd g bS hk,hg.hd _ ((hc.kid g bS hk).2 i hi).1]
   rw[List.flatMap_def,List.flatMap_def,map_congr_left this]
  rw[this]
theorem Grew.of{c c':Cl}{H:Nat->Nat}(hl:c'.ns.length=c.ns.length)(ht:∀m,nT c'.ns m=nT c.ns m)(hk:∀m,nK c'.ns m=nK c.ns m)(hs:∀m,nS c'.ns m=nS c.ns m)(hp:c'.ps=c.ps):Grew c c' H H:=⟨by omega,λm _=>ht m,λm _ _=>hk m,λm _=>hs m,λ_ _=>rfl,hp⟩
theorem a8H{ns ns':List Nd}{n:Nat}(hl:ns'.length=ns.length)(ht:∀m,nT ns' m=nT ns m)(hk:∀m,nK ns' m=nK ns m):j8 (gw ns' n) ns'.length=j8 (gw ns n) ns.length:=by
 rw[hl];exact r9 λm _=>by unfold gw;rw[ht,hk]
theorem a4Q(H:Nat->Nat)(n:Nat):(List.range (n+1)).filter (λm=>decide (H m=m))=(List.range n).filter (λm=>decide (H m=m))++if H n=n then[n] else[]:=by
 rw[List.range_succ,List.filter_append];congr 1;rw[filter_cons,List.filter_nil];by_cases e:H n=n
 ·rw[if_pos e,decide_eq_true e];rfl
 ·rw[if_neg e,decide_eq_false e];rfl
theorem a9P:∀(M n:Nat) (c:Cl) (hs:List Nat) {H r:Nat->Nat} {E},j8 (gw c.ns n) c.ns.length=M->ClsC c H r E->CI c H n hs->∃k0 q H' r',(∀k j,k0<=k->k0<=j->F0 k j n c hs=some q)/\ClsC q.1 H' r' E/\CI q.1 H' q.1.ns.length q.2/\q.1.ps=c.ps:=by
 intro M
 induction M using Nat.strongRecOn with
 | ind M ih =>
  intro n c hs H r E hM h hi;have cS:=hi.le;by_cases hn:n<c.ns.length
  ·obtain⟨ns1,e1,g1,l1,t1,k1,s1⟩:=ClsC.head (vr:=c.vr) (ps:=c.ps) (r n+1) h hn (by omega);have i1:CI ⟨ns1,c.vr,c.ps⟩ H n hs:=hi.grow h (Grew.of l1 t1 k1 s1 rfl) s1;have w1:j8 (gw ns1 n) ns1.length=M:=by rw[a8H l1 t1 k1];exact hM
   have bI:n<ns1.length:=by omega
   by_cases hh:H n=n
   ·
    obtain⟨H2,r2,g2,g3,g4,g5⟩:=ClsC.parts g1 (n:=n) bI;obtain⟨c1,gP⟩:∃c1:Cl,c1=⟨ns1,c.vr,c.ps⟩:=⟨_,rfl⟩
    rw[<-gP]at g1 g2 g3 g4 g5 i1;have bI:n<c1.ns.length:=by rw[gP];exact bI
    have w1:j8 (gw c1.ns n) c1.ns.length=M:=by rw[gP];exact w1
    obtain⟨c2,gV⟩:∃c2,c2=(pC c1 n).1:=⟨_,rfl⟩
    have w2:=b7E c1 bI;have sp:=a5O c1 n;rw[<-gV]at g2 g3 g5 w2 sp;have i2:CI c2 H2 n hs:=i1.grow g1 g3 sp;have l2:c1.ns.length<=c2.ns.length:=g3.len;have bH:n<c2.ns.length:=by omega
    have tn:nT c2.ns n=nT c1.ns n:=g3.tm n bI;have hh2:H2 n=n:=by rw[g3.hd n bI];exact hh
    have uJ:(List.range' (pC c1 n).2.1 ((pC c1 n).2.2-(pC c1 n).2.1)).map H2=egC c2.ns H2 n/\∀p∈List.range' (pC c1 n).2.1 ((pC c1 n).2.2-(pC c1 n).2.1),p<c2.ns.length:=by
     by_cases hv:(nT c1.ns n).f<0\/(nT c1.ns n).l.length=0
     ·rw[g4 hv];refine⟨?_,λp hp=>by simp at hp⟩;unfold egC;rw[tn];split
      ·rfl
      ·rename_i hf;rw[hv.resolve_left hf];rfl
     ·obtain⟨q1,q2⟩:=g5 hv;have hf:¬ (nT c1.ns n).f<0:=λe=>hv (.inl e);rw[q2];simp only;rw[show nK c2.ns n+(nT c1.ns n).l.length-nK c2.ns n=(nT c1.ns n).l.length by omega];refine⟨?_,λp hp=>?_⟩
      ·unfold egC;rw[tn,if_neg hf,List.range'_eq_map_range,map_map];rfl
      ·rw[List.mem_range'_1]at hp;have:=((g2.kid n bH q1).2 (p-nK c2.ns n) (by rw[tn];omega)).1;omega
    obtain⟨k0,ns3,e3,g6,l3,t3,k3,s3⟩:=a7u (vr:=c2.vr) (ps:=c2.ps) _ g2 uJ.2;rw[uJ.1]at s3;have i3:CI ⟨ns3,c2.vr,c2.ps⟩ H2 (n+1) (hs++[n]):=by
     have ee:∀g,egC ns3 H2 g=egC c2.ns H2 g:=λg=>by unfold egC;rw[t3,k3]
     refine⟨by show n+1<=ns3.length;omega,?_,λm hm e hf hz=>?_,λx=>?_⟩
     ·rw[a4Q,if_pos hh2,i2.lst]
     ·show nK ns3 m≠0;rw[show nT (Cl.mk ns3 c2.vr c2.ps).ns m=nT c2.ns m from t3 m]at hf hz;rw[k3];by_cases em:m=n
      ·subst em;rw[tn]at hf hz;exact(g5 λe=>e.elim hf hz).1
      ·exact i2.kid m (by omega) e hf hz
     ·show nS ns3 x=((hs++[n]).flatMap (egC ns3 H2)).count x;rw[s3,i2.us x,List.flatMap_append,List.count_append,List.flatMap_cons,List.flatMap_nil,append_nil,show egC ns3 H2=egC c2.ns H2 from funext ee];omega
    have w3:j8 (gw ns3 (n+1)) ns3.length<M:=by rw[a8H l3 t3 k3];omega
    obtain⟨k4,q,H',r',e4,g7,i4,p4⟩:=ih _ w3 (n+1) ⟨ns3,c2.vr,c2.ps⟩ (hs++[n]) rfl g6 i3;refine⟨max (max (r n+1) k0) k4+1,q,H',r',λk j hk hj=>?_,g7,i4,by rw[p4];exact g3.ps.trans (by rw[gP])⟩;obtain⟨j',rfl⟩:∃j',j=j'+1:=⟨j-1,by omega⟩
    rw[F0,if_pos hn,O7 (show r n+1<=k by omega) e1];simp only;rw[if_neg (by rw[hh];simp),<-gP,<-gV,e3 k (by omega)];exact e4 k j' (by omega) (by omega)
   ·have i2:CI ⟨ns1,c.vr,c.ps⟩ H (n+1) hs:=by
     refine⟨by show n+1<=ns1.length;omega,?_,λm hm e=>?_,i1.us⟩
     ·rw[a4Q,if_neg hh,append_nil];exact i1.lst
     ·have:m≠n:=λem=>hh (by rw[em]at e;exact e);exact i1.kid m (by omega) e
    have w2:j8 (gw ns1 (n+1)) ns1.length<M:=by
     have:=b3Y bI;have gO:1<=(if nK ns1 n=0 then(nT ns1 n).size else 1):=by
      split
      ·exact Tm.size_pos _
      ·exact Nat.le_refl _
     omega
    obtain⟨k4,q,H',r',e4,g7,i4,p4⟩:=ih _ w2 (n+1) ⟨ns1,c.vr,c.ps⟩ hs rfl g1 i2;refine⟨max (r n+1) k4+1,q,H',r',λk j hk hj=>?_,g7,i4,p4⟩;obtain⟨j',rfl⟩:∃j',j=j'+1:=⟨j-1,by omega⟩
    rw[F0,if_pos hn,O7 (show r n+1<=k by omega) e1];simp only;rw[if_pos hh];exact e4 k j' (by omega) (by omega)
  ·have gQ:n=c.ns.length:=by omega
   refine⟨1,(c,hs),H,r,λk j _ hj=>?_,h,gQ▸hi,rfl⟩;obtain⟨j',rfl⟩:∃j',j=j'+1:=⟨j-1,by omega⟩
   rw[F0,if_neg hn]
def Y6(k:Nat):List Nat->List Nd->List Nat->Option (List Nd×List Nat)
 | [],ns,o=>some (ns,o)
 | p::l,ns,o=>match o8 k ns p with
  | none=>none
  | some q=>Y6 k l (setUs q.1 q.2 (nS q.1 q.2-1)) (if nS q.1 q.2-1=0 then o++[q.2]else o)
def a2V(k:Nat):Nat->Nat->Cl->List Nat->Option (Cl×List Nat)
 | 0,_,_,_=>none
 | j+1,i,c,o=>match o[i]? with
  | none=>some (c,o)
  | some g=>match Y6 k (List.range' (pC c g).2.1 ((pC c g).2.2-(pC c g).2.1)) (pC c g).1.ns o with
   | none=>none
   | some q=>a2V k j (i+1) ⟨q.1,(pC c g).1.vr,(pC c g).1.ps⟩ q.2
def b1G(ns:List Nd)(H:Nat->Nat):Prop:=∀m,m<ns.length->H m=m->¬ (nT ns m).f<0->(nT ns m).l.length≠0->nK ns m≠0
theorem a3Q{c:Cl}{H r:Nat->Nat}{E}(hc:ClsC c H r E)(hm:b1G c.ns H){g:Nat}(hg:g<c.ns.length)(hh:H g=g):(pC c g).1=c/\(List.range' (pC c g).2.1 ((pC c g).2.2-(pC c g).2.1)).map H=egC c.ns H g/\∀p∈List.range' (pC c g).2.1 ((pC c g).2.2-(pC c g).2.1),p<c.ns.length:=by
 unfold pC;by_cases hv:(nT c.ns g).f<0\/(nT c.ns g).l.length=0
 ·rw[if_pos hv];refine⟨rfl,?_,λp hp=>by simp at hp⟩;unfold egC;split
  ·rfl
  ·rename_i hf;rw[hv.resolve_left hf];rfl
 ·have hf:¬ (nT c.ns g).f<0:=λe=>hv (.inl e);have hk:=hm g hg hh hf λe=>hv (.inr e);rw[if_neg hv,if_neg hk];simp only;rw[show nK c.ns g+(nT c.ns g).l.length-nK c.ns g=(nT c.ns g).l.length by omega];refine⟨trivial,?_,λp hp=>?_⟩
  ·unfold egC;rw[if_neg hf,List.range'_eq_map_range,map_map];rfl
  ·rw[List.mem_range'_1]at hp;have:=((hc.kid g hg hk).2 (p-nK c.ns g) (by omega)).1;omega
theorem a4J{vr ps}{H r:Nat->Nat}{E}{N:Nat}{hp:Nat->Bool}{eg:Nat->List Nat}(wN:∀m,hp m=decide (H m=m)){i g:Nat}:∀(l:List Nat) {pre:List Nat} {ns:List Nd} {o:List Nat},ns.length=N->ClsC ⟨ns,vr,ps⟩ H r E->(∀p∈l,p<N)->o[i]?=some g->eg g=pre++l.map H->KI N hp eg i pre (nS ns) o->∃k0 q,(∀k,k0<=k->Y6 k l ns o=some q)/\ClsC ⟨q.1,vr,ps⟩ H r E/\q.1.length=N/\(∀m,nT q.1 m=nT ns m)/\(∀m,nK q.1 m=nK ns m)/\q.2[i]?=some g/\KI N hp eg i (eg g) (nS q.1) q.2
 | [],pre,ns,o,hN,h,_,ho,he,hk=>⟨0,(ns,o),λ_ _=>rfl,h,hN,λ_=>rfl,λ_=>rfl,ho,by rw[he,map_nil,append_nil];exact hk⟩
 | p::l,pre,ns,o,hN,h,hl,ho,he,hk=>by
  have hp0:p<ns.length:=by rw[hN];exact hl p (by simp)
  obtain⟨ns1,e1,g1,l1,t1,k1,s1⟩:=ClsC.head (r p+1) h hp0 (by omega);have hd:=h.hd p hp0;have hH:H p<ns1.length:=by rw[l1];exact hd.1
  have hs:=hk.step ho (by rw[he];rfl) (x:=H p) ⟨by rw[<-hN];exact hd.1,by rw[wN];exact decide_eq_true hd.2⟩;have es:nS (setUs ns1 (H p) (nS ns1 (H p)-1))=upd (nS ns) (H p) (nS ns (H p)-1):=by funext m;rw[b0P hH,s1,show nS ns1=nS ns from funext s1]
  obtain⟨k0,q,e2,g2,l2,t2,k2,o2,i2⟩:=a4J (eg:=eg) wN l (pre:=pre++[H p]) (ns:=setUs ns1 (H p) (nS ns1 (H p)-1)) (o:=if nS ns1 (H p)-1=0 then o++[H p]else o) (by rw[R7,l1,hN]) (g1.setUs hH _) (λq hq=>hl q (mem_cons_of_mem _ hq))
   (by
    split
    ·rw[List.getElem?_append_left (a3F ho)];exact ho
    ·exact ho)
   (by rw[he,map_cons,append_assoc];rfl) (by rw[es,s1];exact hs)
  refine⟨max (r p+1) k0,q,λk hk=>?_,g2,l2,λm=>by rw[t2,a1O hH,t1],λm=>by rw[k2,a1Q hH,k1],o2,i2⟩;rw[Y6,O7 (show r p+1<=k by omega) e1];exact e2 k (by omega)
theorem a7N:∀N:Nat,j8 (λ_=>1) N=N
 | 0=>rfl
 | N+1=>by rw[j8,a7N N]
theorem KI.len{N:Nat}{hp:Nat->Bool}{eg:Nat->List Nat}{i:Nat}{pre:List Nat}{u:Nat->Int}{o:List Nat}(h:KI N hp eg i pre u o):o.length<=N:=by
 have:=(C8 (N:=N) o (λ_=>1) h.nd λg hg=>(h.hd g hg).1).1;rw[a7N]at this;have e:(o.map λ_=>1).sum=o.length:=by
  clear this h
  induction o with
  | nil=>rfl
  | cons a o ih=>rw[map_cons,sum_cons,ih,length_cons];omega
 omega
theorem b6r{H r:Nat->Nat}{E}{N:Nat}{hp:Nat->Bool}{eg:Nat->List Nat}(wN:∀m,hp m=decide (H m=m)):∀(M i:Nat) (c:Cl) (o:List Nat),N-i=M->c.ns.length=N->ClsC c H r E->b1G c.ns H->(∀g,g<N->egC c.ns H g=eg g)->i<=o.length->KI N hp eg i [] (nS c.ns) o->∃k0 q,(∀k j,k0<=k->k0<=j->a2V k j i c o=some q)/\ClsC q.1 H r E/\q.1.ns.length=N/\(∀m,nT q.1.ns m=nT c.ns m)/\(∀m,nK q.1.ns m=nK c.ns m)/\q.1.vr=c.vr/\q.1.ps=c.ps/\KI N hp eg q.2.length [] (nS q.1.ns) q.2:=by
 intro M
 induction M using Nat.strongRecOn with
 | ind M ih =>
  intro i c o hM hN h hm tB hio hk;cases ho:o[i]? with
  | none =>
   have hi:i=o.length:=by have:=List.getElem?_eq_none_iff.1 ho;omega
   refine⟨1,(c,o),λk j _ hj=>?_,h,hN,λ_=>rfl,λ_=>rfl,rfl,rfl,hi▸hk⟩;obtain⟨j',rfl⟩:∃j',j=j'+1:=⟨j-1,by omega⟩
   rw[a2V,ho]
  | some g =>
   have hl:=a3F ho;have kD:=hk.len;obtain⟨g1,g2⟩:=hk.hd g (mem_of_getElem? ho);have hh:H g=g:=by rw[wN]at g2;exact of_decide_eq_true g2
   obtain⟨p1,p2,p3⟩:=a3Q h hm (by omega) hh;obtain⟨k0,q,e1,c1,c2,c3,c4,c5,c6⟩:=a4J (vr:=c.vr) (ps:=c.ps) wN (List.range' (pC c g).2.1 ((pC c g).2.2-(pC c g).2.1)) (pre:=[]) hN h (by rw[<-hN];exact p3) ho (by rw[p2,tB g g1];rfl) hk;have bS:b1G q.1 H:=λm cF=>by rw[c3,c4];exact hm m (by rw[hN,<-c2];exact cF)
   obtain⟨k1,q1,e2,d1,d2,d3,d4,d5,d6,d7⟩:=ih (N-(i+1)) (by omega) (i+1) ⟨q.1,c.vr,c.ps⟩ q.2 rfl c2 c1 bS (λg hg=>by rw[<-tB g hg];unfold egC;rw[show nT (Cl.mk q.1 c.vr c.ps).ns g=nT c.ns g from c3 g,show nK (Cl.mk q.1 c.vr c.ps).ns g=nK c.ns g from c4 g]) (a3F c5) (c6.next c5 rfl);refine⟨max k0 k1+1,q1,λk j hk hj=>?_,d1,d2,λm=>by rw[d3];exact c3 m,λm=>by rw[d4];exact c4 m,d5,d6,d7⟩;obtain⟨j',rfl⟩:∃j',j=j'+1:=⟨j-1,by omega⟩
   rw[a2V,ho];simp only;rw[p1,e1 k (by omega)];exact e2 k j' (by omega) (by omega)
theorem CI.start{c:Cl}{H:Nat->Nat}{hs:List Nat}(h:CI c H c.ns.length hs):KI c.ns.length (λm=>decide (H m=m)) (egC c.ns H) 0 [] (nS c.ns) (hs.filter λn=>decide (nS c.ns n=0)):=by
 have hn:hs.Nodup:=by rw[h.lst];exact List.nodup_range.filter _
 have hd:∀x,nS c.ns x=(deg c.ns.length (λm=>decide (H m=m)) (egC c.ns H) x:Int):=λx=>by
  rw[h.us x,a1X];have h1:=(C8 (N:=c.ns.length) hs (a8Z (λm=>decide (H m=m)) (egC c.ns H) x) hn λg hg=>(h.mem hg).1).2 λg hg mH=>by unfold a8Z;rw[if_neg];intro e;exact mH (by rw[h.lst,mem_filter];exact⟨mem_range.2 hg,e⟩)
  unfold deg;rw[h1];congr 1;exact K5 λs gC=>by unfold a8Z;rw[if_pos (decide_eq_true (h.mem gC).2)]
 have e:nS c.ns=λx=>(deg c.ns.length (λm=>decide (H m=m)) (egC c.ns H) x:Int):=funext hd;have h2:=KI.start (N:=c.ns.length) (hp:=λm=>decide (H m=m)) (eg:=egC c.ns H) (o:=hs.filter λn=>decide (nS c.ns n=0)) (hn.filter _) λx=>by
  rw[mem_filter,h.lst,mem_filter,mem_range,hd x];simp only[decide_eq_true_eq];constructor
  ·rintro⟨⟨a,b⟩,d⟩;exact⟨a,b,by omega⟩
  ·rintro⟨a,b,d⟩;exact⟨⟨a,b⟩,by omega⟩
 rw[<-e]at h2;exact h2
def tm0:Tm:=⟨0,[]⟩
def a0j(k:Nat)(out:List Tm):List Nat->List Nd->List Tm->Option (List Nd×List Tm)
 | [],ns,l=>some (ns,l)
 | p::ps,ns,l=>match o8 k ns p with
  | none=>none
  | some q=>a0j k out ps q.1 (l++[out.getD q.2 tm0])
def C2(k:Nat):List Nat->Cl->List Tm->Option (Cl×List Tm)
 | [],c,out=>some (c,out)
 | n::o,c,out=>match a0j k out (List.range' (pC c n).2.1 ((pC c n).2.2-(pC c n).2.1)) (pC c n).1.ns []with
  | none=>none
  | some q=>C2 k o ⟨q.1,(pC c n).1.vr,(pC c n).1.ps⟩ (out.set n ⟨(nT q.1 n).f,q.2⟩)
theorem a3Y{vr ps}{H r:Nat->Nat}{E}(out:List Tm):∀(l:List Nat) {ns:List Nd} (ts:List Tm),ClsC ⟨ns,vr,ps⟩ H r E->(∀p∈l,p<ns.length)->∃k0 ns',(∀k,k0<=k->a0j k out l ns ts=some (ns',ts++(l.map H).map λh=>out.getD h tm0))/\ClsC ⟨ns',vr,ps⟩ H r E/\ns'.length=ns.length/\(∀m,nT ns' m=nT ns m)/\∀m,nK ns' m=nK ns m
 | [],ns,ts,h,_=>⟨0,ns,λ_ _=>by rw[a0j,map_nil,map_nil,append_nil],h,rfl,λ_=>rfl,λ_=>rfl⟩
 | p::l,ns,ts,h,hl=>by
  have hp:=hl p (by simp);obtain⟨ns1,e1,g1,l1,t1,k1,_⟩:=ClsC.head (r p+1) h hp (by omega);obtain⟨k0,ns2,e2,g2,l2,t2,k2⟩:=a3Y out l (ts++[out.getD (H p) tm0]) g1 λq hq=>by rw[l1];exact hl q (mem_cons_of_mem _ hq)
  refine⟨max (r p+1) k0,ns2,λk hk=>?_,g2,by rw[l2,l1],λm=>by rw[t2,t1],λm=>by rw[k2,k1]⟩;rw[a0j,O7 (show r p+1<=k by omega) e1];simp only;rw[e2 k (by omega),map_cons,map_cons,append_assoc];rfl
def OutD(eg:Nat->List Nat)(T:Nat->Tm)(D:List Nat)(out:List Tm):Prop:=∀h∈D,out.getD h tm0=⟨(T h).f,(eg h).map λx=>out.getD x tm0⟩/\∀x∈eg h,x∈D
theorem b4g{out:List Tm}{n m:Nat}{t:Tm}(h:n<out.length):(out.set n t).getD m tm0=if m=n then t else out.getD m tm0:=by
 rw[getD_eq_getElem?_getD,getElem?_set];by_cases e:m=n
 ·subst e;rw[if_pos rfl,if_pos h,if_pos rfl];rfl
 ·rw[if_neg (Ne.symm e),if_neg e,getD_eq_getElem?_getD]
theorem OutD.step{eg:Nat->List Nat}{T:Nat->Tm}{D:List Nat}{out:List Tm}(h:OutD eg T D out){n:Nat}(hn:n<out.length)(hD:n∉D)(he:∀x∈eg n,x∈D):OutD eg T (n::D) (out.set n ⟨(T n).f,(eg n).map λx=>out.getD x tm0⟩):=by
 have keep:∀{x},x∈D->(out.set n ⟨(T n).f,(eg n).map λx=>out.getD x tm0⟩).getD x tm0=out.getD x tm0:=fun{x} hx=>by rw[b4g hn,if_neg (λ(e:x=n)=>hD (e▸hx))]
 intro h' hh;rcases mem_cons.1 hh with rfl | hh
 ·refine⟨?_,λx hx=>mem_cons_of_mem _ (he x hx)⟩;rw[b4g hn,if_pos rfl];congr 1;exact map_congr_left λx hx=>(keep (he x hx)).symm
 ·obtain⟨h1,h2⟩:=h h' hh;refine⟨?_,λx hx=>mem_cons_of_mem _ (h2 x hx)⟩;rw[keep hh,h1];congr 1;exact map_congr_left λx hx=>(keep (h2 x hx)).symm
theorem a3e{H r:Nat->Nat}{E}{eg:Nat->List Nat}{T:Nat->Tm}:∀(R:List Nat) (D:List Nat) (c:Cl) (out:List Tm),ClsC c H r E->b1G c.ns H->(∀m,m<c.ns.length->nT c.ns m=T m)->(∀g,g<c.ns.length->egC c.ns H g=eg g)->(∀n∈R,n<c.ns.length/\H n=n)->R.Nodup->(∀n∈R,n∉D)->(∀pre n post,R=pre++n::post->∀x∈eg n,x∈D\/x∈pre)->out.length=c.ns.length->OutD eg T D out->∃k0 q,(∀k,k0<=k->C2 k R c out=some q)/\ClsC q.1 H r E/\q.1.ns.length=c.ns.length/\(∀m,nT q.1.ns m=nT c.ns m)/\(∀m,nK q.1.ns m=nK c.ns m)/\q.1.vr=c.vr/\q.1.ps=c.ps/\q.2.length=out.length/\OutD eg T (R.reverse++D) q.2
 | [],D,c,out,h,_,_,_,_,_,_,_,hl,ho=>⟨0,(c,out),λ_ _=>rfl,h,rfl,λ_=>rfl,λ_=>rfl,rfl,rfl,rfl,ho⟩
 | n::R,D,c,out,h,hm,hT,tB,hR,hn,hD,hb,hl,ho=>by
  obtain⟨n1,n2⟩:=hR n (by simp);obtain⟨d1,d2⟩:=nodup_cons.1 hn;obtain⟨p1,p2,p3⟩:=a3Q h hm n1 n2;obtain⟨k0,ns1,e1,g1,l1,t1,k1⟩:=a3Y (vr:=c.vr) (ps:=c.ps) out _ [] h p3;rw[p2,tB n n1]at e1;have hnD:=hD n (by simp);have cW:∀x∈eg n,x∈D:=λx hx=>(hb [] n R rfl x hx).resolve_right (by simp);have jF:=ho.step (n:=n) (by omega) hnD cW;obtain⟨k2,q,e2,c1,c2,c3,c4,c5,c6,c7,c8⟩:=a3e R (n::D) ⟨ns1,c.vr,c.ps⟩ (out.set n ⟨(T n).f,(eg n).map λx=>out.getD x tm0⟩) g1
   (λm cF=>by rw[show nT (Cl.mk ns1 c.vr c.ps).ns m=nT c.ns m from t1 m,show nK (Cl.mk ns1 c.vr c.ps).ns m=nK c.ns m from k1 m];exact hm m (by rw[<-l1];exact cF))
   (λm cF=>by rw[show nT (Cl.mk ns1 c.vr c.ps).ns m=nT c.ns m from t1 m];exact hT m (by rw[<-l1];exact cF))
   (λg hg=>by rw[<-tB g (by rw[<-l1];exact hg)];unfold egC;rw[show nT (Cl.mk ns1 c.vr c.ps).ns g=nT c.ns g from t1 g,show nK (Cl.mk ns1 c.vr c.ps).ns g=nK c.ns g from k1 g])
   (λm cF=>by have:=hR m (mem_cons_of_mem _ cF);exact⟨by show m<ns1.length;rw[l1];exact this.1,this.2⟩)
   d2
   (λm cF lQ=>(mem_cons.1 lQ).elim (λe=>d1 (e▸cF)) (hD m (mem_cons_of_mem _ cF)))
   (λpre m post e x hx=>by
    rcases hb (n::pre) m post (by rw[e];rfl) x hx with h1 | h1
    ·exact .inl (mem_cons_of_mem _ h1)
    ·rcases mem_cons.1 h1 with rfl | h1
     ·exact .inl (by simp)
     ·exact .inr h1)
   (by rw[length_set,hl];exact l1.symm) jF
  refine⟨max k0 k2,q,λk hk=>?_,c1,by rw[c2];exact l1,λm=>by rw[c3];exact t1 m,λm=>by rw[c4];exact k1 m,c5,c6,by rw[c7,length_set],?_⟩
  ·rw[C2,p1,e1 k (by omega)];simp only;rw[t1,hT n n1];exact e2 k (by omega)
  ·rw[List.reverse_cons,append_assoc];exact c8
theorem Cls.made{c:Cl}{H r:Nat->Nat}{E}(h:ClsC c H r E)(hp:c.ps=[])(hm:b1G c.ns H):Joined c.ns.length (nT c.ns) H (nK c.ns) E:=by
 have h':Cls c.ns.length (nT c.ns) (nK c.ns) (nU c.ns) H r c.vr [] E:=by rw[<-hp];exact h
 refine Cls.joined h' λn hn hf hz=>?_;by_cases e:H n=n
 ·exact hm n hn e hf hz
 ·exact((h.cls n hn hf e).2.2.1 hz).1
theorem c3B{c:Cl}{H r:Nat->Nat}{E}(h:ClsC c H r E)(hp:c.ps=[])(hm:b1G c.ns H){u:Nat->Int}{o:List Nat}(hk:KI c.ns.length (λm=>decide (H m=m)) (egC c.ns H) o.length [] u o){x:Nat}(hx:x<c.ns.length)(mV:H x=x)(iV:x∉o)(τ:Int->Tm):¬ uni τ E:=by
 refine(Cls.made h hp hm).no (O:=λy=>y∈o) (λy hy hyy hyo=>?_) hx mV iV τ;obtain⟨g,g1,g2,g3,g4⟩:=hk.over hy (decide_eq_true hyy) hyo;refine⟨g,g1,of_decide_eq_true g2,g3,?_⟩;unfold egC at g4;split at g4
 ·cases g4
 ·rename_i hf;obtain⟨i,hi,e⟩:=mem_map.1 g4;exact⟨hf,i,mem_range.1 hi,e⟩
theorem c0R{c:Cl}{H r:Nat->Nat}{E}(h:ClsC c H r E)(hp:c.ps=[])(hm:b1G c.ns H){u:Nat->Int}{o:List Nat}(hk:KI c.ns.length (λm=>decide (H m=m)) (egC c.ns H) o.length [] u o)(ha:∀x,x<c.ns.length->H x=x->x∈o){out:List Tm}(ho:OutD (egC c.ns H) (nT c.ns) o out){s:List Bd}(hs:∀v,d9 s v=(p8 c.vr v).map λm=>out.getD (H m) tm0):Mgu (f0 s) E:=by
 have j:=Cls.made h hp hm;obtain⟨ρ,hρ⟩:=hk.rank λx hx mV=>ha x hx (of_decide_eq_true mV);refine j.mgu (ρ:=ρ) (out:=λx=>out.getD x tm0) (λg hg sL hf i hi=>?_) (λg hg sL=>?_) ⟨λn hn hf=>?_,λv hv kZ=>?_⟩
 ·obtain⟨_,_,q3,q4⟩:=j.part hg hf hi;refine hρ g hg (decide_eq_true sL) _ ?_ q3 (decide_eq_true q4);unfold egC;rw[if_neg hf];exact mem_map.2 ⟨i,mem_range.2 hi,rfl⟩
 ·show out.getD g tm0=_;rw[(ho g (ha g hg sL)).1];congr 1;unfold egC;split
  ·rfl
  ·rw[map_map];rfl
 ·obtain⟨m,h1,h2⟩:=h.vrs n hn hf;unfold f0;rw[hs,h1,h2];rfl
 ·unfold f0;rw[hs];cases hl:p8 c.vr v with
  | none=>rfl
  | some m =>
   obtain⟨h1,h2⟩:=h.vrt v m hl;exact absurd h2 (kZ m h1)
theorem b5f{N:Nat}{H:Nat->Nat}{eg:Nat->List Nat}{u:Nat->Int}{o:List Nat}(hk:KI N (λm=>decide (H m=m)) eg o.length [] u o):(o.length=((List.range N).filter λm=>decide (H m=m)).length)↔∀x,x<N->H x=x->x∈o:=by
 obtain⟨hs,wO⟩:∃hs,hs=(List.range N).filter λm=>decide (H m=m):=⟨_,rfl⟩
 rw[<-wO];have hn:hs.Nodup:=by rw[wO];exact List.nodup_range.filter _
 have jW:∀x,x∈hs↔x<N/\H x=x:=λx=>by rw[wO,mem_filter,mem_range,decide_eq_true_eq]
 have one:∀(L:List Nat),(∀x∈L,H x=x)->(L.map λx=>if H x=x then 1 else 0).sum=L.length:=λL=>by
  induction L with
  | nil=>exact λ_=>rfl
  | cons a L ih=>intro h;rw[map_cons,sum_cons,ih λx hx=>h x (mem_cons_of_mem _ hx),if_pos (h a (by simp)),length_cons];omega
 have s1:=(C8 (N:=N) hs (λx=>if H x=x then 1 else 0) hn λg hg=>((jW g).1 hg).1).2 λg hg mH=>if_neg λe=>mH ((jW g).2 ⟨hg,e⟩);rw[one hs λx hx=>((jW x).1 hx).2]at s1;have oh:∀x∈o,x<N/\H x=x:=λx hx=>⟨(hk.hd x hx).1,of_decide_eq_true (hk.hd x hx).2⟩
 constructor
 ·intro e x hx mV;apply Classical.byContradiction;intro iV;have s2:=(C8 (N:=N) (x::o) (λx=>if H x=x then 1 else 0) (nodup_cons.2 ⟨iV,hk.nd⟩) λg hg=>(mem_cons.1 hg).elim (λe=>e▸hx) λhg=>(oh g hg).1).1;rw[one (x::o) λy hy=>(mem_cons.1 hy).elim (λe=>e▸mV) λhy=>(oh y hy).2,length_cons]at s2;omega
 ·intro h;have s2:=(C8 (N:=N) o (λx=>if H x=x then 1 else 0) hk.nd λg hg=>(oh g hg).1).2 λg hg mH=>if_neg λe=>mH (h g hg e);rw[one o λy hy=>(oh y hy).2]at s2;omega
theorem b2s{N:Nat}{H:Nat->Nat}{eg:Nat->List Nat}{u:Nat->Int}{o:List Nat}(hk:KI N (λm=>decide (H m=m)) eg o.length [] u o)(ho:∀g∈o,∀x∈eg g,x∈o):∀pre n post,o.reverse=pre++n::post->∀x∈eg n,x∈([]:List Nat)\/x∈pre:=by
 intro pre n post e x hx;have e2:o=post.reverse++n::pre.reverse:=by have:=congrArg List.reverse e;rw[List.reverse_reverse,List.reverse_append,List.reverse_cons,append_assoc]at this;exact this
 have hp:o[post.length]?=some n:=by rw[e2,List.getElem?_append_right (by simp)];simp
 have iV:x∈o:=ho n (mem_of_getElem? hp) x hx;obtain⟨q,hq⟩:=List.getElem?_of_mem iV;have h1:=hk.ord _ n (a3F hp) hp x hx q hq;rw[e2,List.getElem?_append_right (by simp;omega)]at hq;simp only[List.length_reverse]at hq;rw[show q-post.length=(q-post.length-1)+1 by omega,List.getElem?_cons_succ]at hq;exact .inr (List.mem_reverse.1 (mem_of_getElem? hq))
def a6f(s:List Bd)(x:Int)(t:Tm):List Bd:=(s.map λb=>⟨b.v,o5 [⟨x,t⟩] b.t⟩)++[⟨x,t⟩]
def swC(a b:Tm):Bool:=(decide (0<=a.f)&&decide (b.f<0))||((decide (a.f<0)&&decide (b.f<0))&&decide (b.f<a.f))
def rUs(g:List Bd->Tm->Tm->Option (Option (List Bd))):List (Tm×Tm)->List Bd->Option (Option (List Bd))
 | [],s=>some (some s)
 | p::ps,s=>match g s p.1 p.2 with
  | none=>none
  | some none=>some none
  | some (some s')=>rUs g ps s'
def a2T(g:List Bd->Tm->Tm->Option (Option (List Bd)))(s:List Bd)(a b:Tm):Option (Option (List Bd)):=
 if a.f<0 then(if -1-a.f∈b.vs then some none else some (some (a6f s (-1-a.f) b)))
 else if a.f≠b.f\/a.l.length≠b.l.length then some none
 else rUs g (a.l.zip b.l) s
def rU:Nat->List Bd->Tm->Tm->Option (Option (List Bd))
 | 0,_,_,_=>none
 | n+1,s,a,b =>
  if y0 (o5 s a) (o5 s b)then some (some s)
  else if swC (o5 s a) (o5 s b)then a2T (rU n) s (o5 s b) (o5 s a)
  else a2T (rU n) s (o5 s a) (o5 s b)
theorem a1R{g g':List Bd->Tm->Tm->Option (Option (List Bd))}(h:∀s a b r,g s a b=some r->g' s a b=some r):∀(ps:List (Tm×Tm)) (s:List Bd) (r),rUs g ps s=some r->rUs g' ps s=some r
 | [],s,r,e=>e
 | p::ps,s,r,e=>by
  rw[rUs]at e |-;cases hg:g s p.1 p.2 with
  | none=>rw[hg]at e;cases e
  | some q =>
   rw[hg]at e;rw[h _ _ _ _ hg];cases q with
   | none=>exact e
   | some s'=>exact a1R h ps s' r e
theorem a6V{g g':List Bd->Tm->Tm->Option (Option (List Bd))}(h:∀s a b r,g s a b=some r->g' s a b=some r)(s:List Bd)(a b:Tm)(r)(e:a2T g s a b=some r):a2T g' s a b=some r:=by
 unfold a2T at e |-;split
 ·rename_i h1;rw[if_pos h1]at e;exact e
 ·rename_i h1;rw[if_neg h1]at e;split
  ·rename_i h2;rw[if_pos h2]at e;exact e
  ·rename_i h2;rw[if_neg h2]at e;exact a1R h _ _ _ e
theorem a8j:∀(n:Nat) (s:List Bd) (a b:Tm) (r),rU n s a b=some r->rU (n+1) s a b=some r
 | 0,s,a,b,r,e=>by cases e
 | n+1,s,a,b,r,e=>by
  rw[rU]at e |-;split
  ·rename_i h1;rw[if_pos h1]at e;exact e
  ·rename_i h1;rw[if_neg h1]at e;split
   ·rename_i h2;rw[if_pos h2]at e;exact a6V (a8j n) _ _ _ _ e
   ·rename_i h2;rw[if_neg h2]at e;exact a6V (a8j n) _ _ _ _ e
theorem a9q{n m:Nat}(h:n<=m):∀(s:List Bd) (a b:Tm) (r),rU n s a b=some r->rU m s a b=some r:=by
 induction h with
 | refl=>exact λ_ _ _ _ e=>e
 | step _ ih=>exact λs a b r e=>a8j _ s a b r (ih s a b r e)
def O3(s:List Bd):Prop:=∀b∈s,b.t.strip=b.t
theorem L2{s:List Bd}(h:O3 s)(v:Int):(f0 s v).strip=f0 s v:=by
 unfold f0;cases hf:d9 s v with
 | none=>exact t9 v
 | some t =>
  have:∃b∈s,b.t=t:=by
   clear h
   induction s with
   | nil=>cases hf
   | cons b s ih =>
    rw[d9]at hf;split at hf
    ·cases hf;exact⟨b,by simp,rfl⟩
    ·obtain⟨c,hc,e⟩:=ih hf;exact⟨c,mem_cons_of_mem _ hc,e⟩
  obtain⟨b,hb,rfl⟩:=this;exact h b hb
theorem p6{s:List Bd}(h:O3 s)(t:Tm):o5 s t=a8 (f0 s) t:=by
 induction t using Tm.ind with
 | h f l ih =>
  by_cases hf:f<0
  ·rw[a5w hf,i9 hf,L2 h]
  ·rw[a5x hf,c9 hf];congr 1;exact map_congr_left ih
theorem b4n(x:Int)(t:Tm):f0 [⟨x,t⟩]=Y8 x t:=by
 funext v;unfold f0 Y8;rw[d9,d9];show(if x=v then some t else none).getD (n7 v)=_;by_cases h:x=v
 ·rw[if_pos h,if_pos h.symm];rfl
 ·rw[if_neg h,if_neg (Ne.symm h)];rfl
theorem a1T{x:Int}{t:Tm}(h:t.strip=t):O3 [⟨x,t⟩]:=λb hb=>by
 rw[mem_singleton]at hb;rw[hb];exact h
theorem b7l{s:List Bd}{x:Int}{t:Tm}(ht:t.strip=t):O3 (a6f s x t):=λb hb=>by
 rcases mem_append.1 hb with hb | hb
 ·obtain⟨c,hc,rfl⟩:=mem_map.1 hb;show(o5 _ _).strip=_;rw[p6 (a1T ht),t7]
 ·exact a1T ht b hb
theorem a4a(M:List Bd):∀(L:List Bd) (v:Int),d9 (L.map λb=>⟨b.v,o5 M b.t⟩) v=(d9 L v).map (o5 M)
 | [],_=>rfl
 | b::L,v=>by
  rw[map_cons,d9,d9];show(if b.v=v then _ else _)=_;split
  ·rfl
  ·exact a4a M L v
theorem a2o{s:List Bd}{x:Int}{t:Tm}(ht:t.strip=t){v:Int}(hv:0<=v):f0 (a6f s x t) v=a8 (Y8 x t) (f0 s v):=by
 unfold a6f f0;rw[b2a,a4a];cases hf:d9 s v with
 | some u =>
  show o5 _ u=a8 _ u;rw[p6 (a1T ht),b4n]
 | none =>
  show(d9 [⟨x,t⟩] v).getD (n7 v)=a8 _ (n7 v);rw[G0 hv];have:=congrFun (b4n x t) v;unfold f0 at this;rw[this];unfold Y8;split
  ·exact ht.symm
  ·exact(t9 v).symm
def frN(V:List Int)(s:List Bd):Nat:=(V.filter λv=>decide ((f0 s v).f = -1-v)).length
theorem c0I{V:List Int}{p q:Int->Bool}(h:∀v∈V,q v=true->p v=true){x:Int}(hx:x∈V)(hp:p x=true)(hq:q x=false):(V.filter q).length<(V.filter p).length:=by
 have le:∀W:List Int,(∀v∈W,q v=true->p v=true)->(W.filter q).length<=(W.filter p).length:=λW=>by
  induction W with
  | nil=>exact λ_=>Nat.le_refl _
  | cons a W ih =>
   intro h;have h1:=ih λv hv=>h v (mem_cons_of_mem _ hv);have h2:=h a (by simp);rw[filter_cons,filter_cons];cases hqa:q a with
   | true=>rw[if_pos rfl,if_pos (h2 hqa)];simp only[length_cons];omega
   | false =>
    rw[if_neg (by simp)];split
    ·simp only[length_cons];omega
    ·exact h1
 induction V with
 | nil=>cases hx
 | cons a V ih =>
  have h1:∀v∈V,q v=true->p v=true:=λv hv=>h v (mem_cons_of_mem _ hv);have h2:=h a (by simp);rw[filter_cons,filter_cons];by_cases e:x=a
  ·subst e;rw[hq,hp,if_neg (by simp),if_pos rfl,length_cons];have:=le V h1;omega
  ·have hxV:x∈V:=by
    rcases mem_cons.1 hx with h | h
    ·exact absurd h e
    ·exact h
   have h3:=ih h1 hxV;cases hqa:q a with
   | true=>rw[if_pos rfl,if_pos (h2 hqa)];simp only[length_cons];omega
   | false =>
    rw[if_neg (by simp)];split
    ·simp only[length_cons];omega
    ·exact h3
theorem c2N{V:List Int}(hV:∀v∈V,0<=v){s:List Bd}{E:List (Tm×Tm)}(hm:Mgu (f0 s) E){x:Int}(hx:x∈V)(hsx:f0 s x=n7 x){b:Tm}(hb:x∉(a8 (f0 s) b).vs):frN V (a6f s x (a8 (f0 s) b))<frN V s:=by
 have wK:(a8 (f0 s) b).strip=a8 (f0 s) b:=t7 _ _;refine c0I (λv hv hq=>?_) hx ?_ ?_
 ·have hv0:=hV v hv;have hq:=of_decide_eq_true hq;rw[a2o wK hv0]at hq;refine decide_eq_true ?_;have h1:(f0 s v).f<0:=a0V (by rw[hq];omega);rw[i9 h1]at hq;obtain⟨w,hw⟩:∃w,w = -1-(f0 s v).f:=⟨_,rfl⟩
  rw[<-hw]at hq;by_cases e:w=x
  ·unfold Y8 at hq;rw[if_pos e,Tm.strip_f]at hq;have:f0 s v=n7 v:=hm.rep_vs (t:=b) (by rw[Tm.vs_var (by rw[hq];omega),hq,mem_singleton];omega);rw[this,s7]
  ·unfold Y8 at hq;rw[if_neg e,t9,s7]at hq;omega
 ·exact decide_eq_true (by rw[hsx,s7])
 ·have jT:=hV x hx;refine decide_eq_false λe=>?_;rw[a2o wK jT,hsx,G0 jT]at e;unfold Y8 at e;rw[if_pos rfl,wK]at e;exact hb (by rw[Tm.vs_var (by rw[e];omega),e,mem_singleton];omega)
def inV(V:List Int)(s:List Bd):Prop:=∀b∈s,∀u∈b.t.vs,u∈V
theorem c0V{V:List Int}{s:List Bd}(h:inV V s){v:Int}(hv:v∈V)(hv0:0<=v):∀u∈(f0 s v).vs,u∈V:=by
 intro u hu;unfold f0 at hu;cases hf:d9 s v with
 | none =>
  rw[hf]at hu;rw[show(none:Option Tm).getD (n7 v)=n7 v from rfl,Tm.vs_var (by rw[s7];omega),s7,mem_singleton]at hu;rw[show u=v by omega];exact hv
 | some t =>
  rw[hf]at hu;have:∃b∈s,b.t=t:=by
   clear h hu
   induction s with
   | nil=>cases hf
   | cons b s ih =>
    rw[d9]at hf;split at hf
    ·cases hf;exact⟨b,by simp,rfl⟩
    ·obtain⟨c,hc,e⟩:=ih hf;exact⟨c,mem_cons_of_mem _ hc,e⟩
  obtain⟨b,hb,rfl⟩:=this;exact h b hb u hu
theorem W9{V:List Int}{s:List Bd}(h:inV V s){t:Tm}(ht:∀u∈t.vs,u∈V):∀u∈(a8 (f0 s) t).vs,u∈V:=by
 intro u hu;rw[a0H,mem_flatMap]at hu;obtain⟨v,hv,hu⟩:=hu;exact c0V h (ht v hv) (l9 _ v hv) u hu
theorem c0N{V:List Int}{s:List Bd}(h:inV V s){x:Int}{t:Tm}(hb:t.strip=t)(ht:∀u∈t.vs,u∈V):inV V (a6f s x t):=by
 have h1:inV V [⟨x,t⟩]:=λb hb'=>by rw[mem_singleton]at hb';rw[hb'];exact ht
 intro b hb' u hu;rcases mem_append.1 hb' with hb' | hb'
 ·obtain⟨c,hc,rfl⟩:=mem_map.1 hb';have hu:u∈(o5 [⟨x,t⟩] c.t).vs:=hu;rw[p6 (a1T hb)]at hu;exact W9 h1 (h c hc) u hu
 ·exact h1 b hb' u hu
def RSpec(V:List Int)(E F:List (Tm×Tm))(s:List Bd)(r:Option (List Bd)):Prop:=match r with
 | none=>∀ τ,¬ uni τ (E++F)
 | some s'=>Mgu (f0 s') (E++F)/\O3 s'/\inV V s'/\(s'=s\/frN V s'<frN V s)
theorem RSpec.eqv{V:List Int}{E F G:List (Tm×Tm)}{s:List Bd}{r:Option (List Bd)}(h:RSpec V E F s r)(he:∀ τ,uni τ (E++F)↔uni τ (E++G)):RSpec V E G s r:=by
 cases r with
 | none=>exact fun τ ht=>h τ ((he τ).2 ht)
 | some s'=>exact⟨h.1.eqv he,h.2⟩
theorem a3k(g:Tm->Tm):∀{l m:List Tm},l.length=m.length->(l.map g=m.map g↔∀p∈l.zip m,g p.1=g p.2)
 | [],[],_=>by simp
 | [],_::_,h=>by simp at h
 | _::_,[],h=>by simp at h
 | a::l,b::m,h=>by
  rw[map_cons,map_cons,List.zip_cons_cons];simp only[List.cons.injEq,mem_cons,forall_eq_or_imp];rw[a3k g (by simpa using h)]
theorem b8N{V:List Int}(hV:∀v∈V,0<=v){s:List Bd}{E:List (Tm×Tm)}(hm:Mgu (f0 s) E)(hb:O3 s)(hi:inV V s){a b:Tm}(ha:∀u∈a.vs,u∈V)(tC:∀u∈b.vs,u∈V)(hf:(o5 s a).f<0)(kF:o5 s a≠o5 s b)(kV:(o5 s b).f<0->(o5 s a).f<=(o5 s b).f)(g):∃r,a2T g s (o5 s a) (o5 s b)=some r/\RSpec V E [(a,b)] s r:=by
 rw[p6 hb,p6 hb]at *;obtain⟨x,hx⟩:∃x,x = -1-(a8 (f0 s) a).f:=⟨_,rfl⟩
 have jT:0<=x:=by omega
 have hA:a8 (f0 s) a=n7 x:=by rw[hx];exact a1A (t7 _ _) hf
 unfold a2T;rw[if_pos hf,<-hx];by_cases dZ:x∈(a8 (f0 s) b).vs
 ·rw[if_pos dZ];refine⟨_,rfl,fun τ ht=>?_⟩;rw[C5,C9]at ht;by_cases hbf:(a8 (f0 s) b).f<0
  ·rw[Tm.vs_var hbf,mem_singleton]at dZ;apply kF;rw[hA,a1A (t7 _ _) hbf,<-dZ]
  ·apply b5O (τ:=τ) dZ hbf;rw[<-hA,hm.rep ht.1,hm.rep ht.1,ht.2]
 ·rw[if_neg dZ];have eV:x∈(a8 (f0 s) a).vs:=by rw[hA,Tm.vs_var (by rw[s7];omega),s7,mem_singleton];omega
  refine⟨_,rfl,hm.bind jT hA dZ (λh=>by have:=kV h;omega) λv hv=>a2o (t7 _ _) hv,b7l (t7 _ _),c0N hi (t7 _ _) (W9 hi tC),.inr ?_⟩;exact c2N hV hm (W9 hi ha x eV) (hm.rep_vs eV) dZ
theorem b4x{V:List Int}(hV:∀v∈V,0<=v):∀(N k:Nat) (s:List Bd) (a b:Tm) (E:List (Tm×Tm)),frN V s=N->(o5 s a).size=k->Mgu (f0 s) E->O3 s->inV V s->(∀u∈a.vs,u∈V)->(∀u∈b.vs,u∈V)->∃n r,rU n s a b=some r/\RSpec V E [(a,b)] s r:=by
 intro N
 induction N using Nat.strongRecOn with
 | ind N ihN =>
 intro k
 induction k using Nat.strongRecOn with
 | ind k ihk =>
 intro s a b E hN hk hm hb hi ha tC;cases hs:y0 (o5 s a) (o5 s b)with
 | true =>
  refine⟨1,some s,by rw[rU,if_pos hs],?_⟩;rw[l8,p6 hb,p6 hb,t7,t7]at hs;exact⟨hm.same hs,hb,hi,.inl rfl⟩
 | false =>
 have kF:o5 s a≠o5 s b:=λe=>by rw[e,(l8 _ _).2 rfl]at hs;cases hs
 cases hw:swC (o5 s a) (o5 s b)with
 | true =>
  have eQ:=hw;unfold swC at eQ;simp only[Bool.or_eq_true,Bool.and_eq_true,decide_eq_true_eq]at eQ;obtain⟨r,h1,h2⟩:=b8N hV hm hb hi tC ha (by omega) kF.symm (by omega) (rU 0);refine⟨1,r,by rw[rU,hs,if_neg (by simp),if_pos hw,h1],h2.eqv fun τ=>?_⟩;rw[C5,C5,C9,C9,eq_comm (a:=a8 τ b)]
 | false =>
 have eQ:=hw;unfold swC at eQ;simp only[Bool.or_eq_false_iff,Bool.and_eq_false_iff,decide_eq_false_iff_not]at eQ;by_cases hf:(o5 s a).f<0
 ·obtain⟨r,h1,h2⟩:=b8N hV hm hb hi ha tC hf kF (by omega) (rU 0);exact⟨1,r,by rw[rU,hs,if_neg (by simp),hw,if_neg (by simp),h1],h2⟩
 have pY:¬ (o5 s b).f<0:=by omega
 by_cases hc:(o5 s a).f≠(o5 s b).f\/(o5 s a).l.length≠(o5 s b).l.length
 ·refine⟨1,none,by rw[rU,hs,if_neg (by simp),hw,if_neg (by simp)];unfold a2T;rw[if_neg hf,if_pos hc],fun τ ht=>?_⟩;rw[C5,C9,]at ht;have h3:=ht.2;rw[<-hm.rep ht.1 a,<-hm.rep ht.1 b,<-p6 hb,<-p6 hb,c9 hf,c9 pY]at h3;have h4:=congrArg Tm.f h3;have h5:=congrArg (λt=>t.l.length) h3;simp only[length_map]at h4 h5;rcases hc with hc | hc
  ·exact hc h4
  ·exact hc h5
 have lU:(o5 s a).f=(o5 s b).f:=Decidable.byContradiction λh=>hc (.inl h);have cZ:(o5 s a).l.length=(o5 s b).l.length:=Decidable.byContradiction λh=>hc (.inr h);have loop:∀(ps:List (Tm×Tm)) (s1:List Bd) (E1:List (Tm×Tm)),(∀p∈ps,p.1∈(o5 s a).l/\p.2∈(o5 s b).l)->Mgu (f0 s1) E1->O3 s1->inV V s1->(s1=s\/frN V s1<frN V s)->∃n r,rUs (rU n) ps s1=some r/\RSpec V E1 ps s1 r/\(∀s',r=some s'->s'=s\/frN V s'<frN V s):=by
  intro ps
  induction ps with
  | nil =>
   intro s1 E1 _ cF kP bF hd;refine⟨0,some s1,rfl,⟨by rw[append_nil];exact cF,kP,bF,.inl rfl⟩,λs' e=>?_⟩;cases e;exact hd
  | cons p ps ihp =>
   intro s1 E1 gR cF kP bF hd;obtain⟨fY,eA⟩:=gR p (by simp);have hva:∀u∈p.1.vs,u∈(o5 s a).vs:=λu hu=>by rw[Tm.vs_sym hf];exact mem_flatMap.2 ⟨_,fY,hu⟩
   have rJ:∀u∈p.2.vs,u∈(o5 s b).vs:=λu hu=>by rw[Tm.vs_sym pY];exact mem_flatMap.2 ⟨_,eA,hu⟩
   have wP:∀u∈p.1.vs,u∈V:=λu hu=>by have:=hva u hu;rw[p6 hb]at this;exact W9 hi ha u this
   have wQ:∀u∈p.2.vs,u∈V:=λu hu=>by have:=rJ u hu;rw[p6 hb]at this;exact W9 hi tC u this
   obtain⟨n1,r1,e1,g1⟩:∃n r,rU n s1 p.1 p.2=some r/\RSpec V E1 [(p.1,p.2)] s1 r:=by
    rcases hd with hd | hd
    ·subst hd;refine ihk _ ?_ s1 p.1 p.2 E1 hN rfl cF kP bF wP wQ;rw[<-hk];have h6:o5 s1 p.1=p.1.strip:=by rw[p6 kP];exact a5h λu hu=>hm.rep_vs (t:=a) (by rw[<-p6 kP];exact hva u hu)
     rw[h6,Tm.strip_size];exact Tm.size_part (by rw[Tm.ps_of_sym (by omega)];exact fY)
    ·exact ihN (frN V s1) (by omega) _ s1 p.1 p.2 E1 rfl rfl cF kP bF wP wQ
   cases r1 with
   | none =>
    refine⟨n1,none,by rw[rUs,e1],fun τ ht=>?_,λs' e=>by cases e⟩;refine g1 τ ?_;rw[C5]at ht |-;exact⟨ht.1,λq hq=>ht.2 q (by rw[mem_singleton]at hq;rw[hq];simp)⟩
   | some s2 =>
    obtain⟨lQ,gL,bZ,bY⟩:=g1;have hd3:s2=s\/frN V s2<frN V s:=by
     rcases bY with rfl | h7
     ·exact hd
     ·rcases hd with rfl | h8
      ·exact .inr h7
      ·exact .inr (by omega)
    obtain⟨n2,r2,e2,g2,g3⟩:=ihp s2 (E1++[(p.1,p.2)]) (λq hq=>gR q (mem_cons_of_mem _ hq)) lQ gL bZ hd3;refine⟨max n1 n2,r2,?_,?_,g3⟩
    ·rw[rUs,a9q (Nat.le_max_left n1 n2) _ _ _ _ e1];exact a1R (a9q (Nat.le_max_right n1 n2)) _ _ _ e2
    ·have e3:E1++[(p.1,p.2)]++ps=E1++p::ps:=by rw[append_assoc];rfl
     cases r2 with
     | none=>intro τ ht;exact g2 τ (by rw[e3];exact ht)
     | some s3 =>
      obtain⟨c1,c2,c3,c4⟩:=g2;refine⟨by rw[<-e3];exact c1,c2,c3,?_⟩;rcases c4 with rfl | c4
      ·exact bY
      ·rcases bY with rfl | h8
       ·exact .inr c4
       ·exact .inr (by omega)
 obtain⟨n,r,e,g1,_⟩:=loop ((o5 s a).l.zip (o5 s b).l) s E (λp hp=>⟨(List.of_mem_zip (a:=p.1) (b:=p.2) hp).1,(List.of_mem_zip (a:=p.1) (b:=p.2) hp).2⟩) hm hb hi (.inl rfl);refine⟨n+1,r,by rw[rU,hs,if_neg (by simp),hw,if_neg (by simp)];unfold a2T;rw[if_neg hf,if_neg hc,e],g1.eqv fun τ=>?_⟩;rw[C5,C5,C9];refine and_congr_right λht=>?_;rw[<-hm.rep ht a,<-hm.rep ht b,<-p6 hb,<-p6 hb,c9 hf,c9 pY];unfold uni;rw[<-a3k (a8 τ) cZ];rw[lU];simp
theorem b6D(L:List Bd){v:Int}(hv:0<=v):d9 (A8 L) v=if a0o ⟨v,f0 L v⟩then none else some (f0 L v).strip:=by
 rw[a1e];unfold f0;cases d9 L v with
 | none =>
  have:a0o ⟨v,(none:Option Tm).getD (n7 v)⟩=true:=by show(decide ((n7 v).f<0)&&decide (-1-(n7 v).f=v))=true;rw[s7,decide_eq_true (by omega),decide_eq_true (by omega)];rfl
  rw[this,if_pos rfl]
 | some t=>rfl
theorem b4K:∀{A B:List Bd},A.Pairwise (λx y=>x.v<y.v)->B.Pairwise (λx y=>x.v<y.v)->(∀v,d9 A v=d9 B v)->A=B
 | [],[],_,_,_=>rfl
 | [],b::B,_,_,h=>by have:=h b.v;rw[d9,d9,if_pos rfl]at this;cases this
 | a::A,[],_,_,h=>by
  have:=h a.v;rw[show d9 (a::A) a.v=some a.t by rw[d9,if_pos rfl]]at this;cases this
 | a::A,b::B,hA,hB,h=>by
  obtain⟨a1,a2⟩:=List.pairwise_cons.1 hA;obtain⟨b1,b2⟩:=List.pairwise_cons.1 hB;have e:a.v=b.v:=by
   rcases Int.lt_trichotomy a.v b.v with h1 | h1 | h1
   ·have:=h a.v;rw[d9,if_pos rfl,C6 (l:=b::B) λc hc=>by
     rcases mem_cons.1 hc with rfl | hc
     ·omega
     ·have:=b1 c hc;omega]at this
    cases this
   ·exact h1
   ·have:=h b.v;rw[C6 (l:=a::A) λc hc=>by
     rcases mem_cons.1 hc with rfl | hc
     ·omega
     ·have:=a1 c hc;omega]at this
    rw[d9,if_pos rfl]at this;cases this
  have et:a.t=b.t:=by have:=h a.v;rw[d9,if_pos rfl,d9,if_pos e.symm]at this;exact Option.some.inj this
  have:A=B:=b4K a2 b2 λv=>by
   by_cases ev:a.v=v
   ·rw[C6 λc hc=>by have:=a1 c hc;omega,C6 λc hc=>by have:=b1 c hc;omega]
   ·have:=h v;rw[d9,if_neg ev,d9,if_neg (by rw[<-e];exact ev)]at this;exact this
  rw[this];congr 1;cases a;cases b;simp only at e et;rw[e,et]
theorem b7Z{L M:List Bd}(hL:∀b∈L,0<=b.v)(hM:∀b∈M,0<=b.v)(h:∀v,0<=v->f0 L v=f0 M v):A8 L=A8 M:=by
 refine b4K (a0r L) (a0r M) λv=>?_;rcases Decidable.em (0<=v)with hv | hv
 ·rw[b6D L hv,b6D M hv,h v hv]
 ·rw[a1e,a1e,C6 λb hb=>by have:=hL b hb;omega,C6 λb hb=>by have:=hM b hb;omega]
theorem b7N{L M:List Bd}{E}(hL:∀b∈L,0<=b.v)(hM:∀b∈M,0<=b.v)(h1:Mgu (f0 L) E)(h2:Mgu (f0 M) E):A8 L=A8 M:=
 b7Z hL hM λv hv=>h2.one h1 hv
theorem a2p{V:List Int}(hV:∀v∈V,0<=v):∀(l:List (Tm×Tm)) (s:List Bd) (E:List (Tm×Tm)),Mgu (f0 s) E->O3 s->inV V s->(∀p∈l,(∀u∈p.1.vs,u∈V)/\∀u∈p.2.vs,u∈V)->∃n r,rUs (rU n) l s=some r/\(r=none->∀ τ,¬ uni τ (E++l))/\∀s',r=some s'->Mgu (f0 s') (E++l)/\O3 s'/\inV V s'
 | [],s,E,hm,hb,hi,_=>⟨0,some s,rfl,λe=>(by cases e),λs' e=>by cases e;exact⟨by rw[append_nil];exact hm,hb,hi⟩⟩
 | p::l,s,E,hm,hb,hi,hl=>by
  obtain⟨v1,v2⟩:=hl p (by simp);obtain⟨n1,r1,e1,g1⟩:=b4x hV _ _ s p.1 p.2 E rfl rfl hm hb hi v1 v2;have e3:E++[(p.1,p.2)]++l=E++p::l:=by rw[append_assoc];rfl
  cases r1 with
  | none =>
   refine⟨n1,none,by rw[rUs,e1],λ_ τ ht=>?_,λs' e=>(by cases e)⟩;rw[<-e3,C5]at ht;exact g1 τ ht.1
  | some s1 =>
   obtain⟨cF,kP,bF,_⟩:=g1;obtain⟨n2,r2,e2,g2,g3⟩:=a2p hV l s1 (E++[(p.1,p.2)]) cF kP bF λq hq=>hl q (mem_cons_of_mem _ hq);refine⟨max n1 n2,r2,?_,by rw[<-e3];exact g2,by rw[<-e3];exact g3⟩;rw[rUs,a9q (Nat.le_max_left n1 n2) _ _ _ _ e1];exact a1R (a9q (Nat.le_max_right n1 n2)) _ _ _ e2
theorem c1J{s:List Bd}{x:Int}{t:Tm}(hs:∀b∈s,0<=b.v)(hx:0<=x):∀b∈a6f s x t,0<=b.v:=λb hb=>by
 rcases mem_append.1 hb with hb | hb
 ·obtain⟨c,hc,rfl⟩:=mem_map.1 hb;exact hs c hc
 ·rw[mem_singleton]at hb;rw[hb];exact hx
theorem a8M{g:List Bd->Tm->Tm->Option (Option (List Bd))}(hg:∀s a b s',g s a b=some (some s')->(∀b∈s,0<=b.v)->∀b∈s',0<=b.v):∀(l:List (Tm×Tm)) (s s':List Bd),rUs g l s=some (some s')->(∀b∈s,0<=b.v)->∀b∈s',0<=b.v
 | [],s,s',e,h=>by cases e;exact h
 | p::l,s,s',e,h=>by
  rw[rUs]at e;cases h1:g s p.1 p.2 with
  | none=>rw[h1]at e;cases e
  | some q =>
   rw[h1]at e;cases q with
   | none=>cases e
   | some s1=>exact a8M hg l s1 s' e (hg _ _ _ _ h1 h)
theorem b9u:∀(n:Nat) (s:List Bd) (a b:Tm) (s':List Bd),rU n s a b=some (some s')->(∀b∈s,0<=b.v)->∀b∈s',0<=b.v
 | 0,_,_,_,_,e,_=>by cases e
 | n+1,s,a,b,s',e,h=>by
  have go:∀x y,a2T (rU n) s x y=some (some s')->∀b∈s',0<=b.v:=λx y e=>by
   unfold a2T at e;split at e
   ·rename_i hf;split at e
    ·cases e
    ·cases e;exact c1J h (by omega)
   ·split at e
    ·cases e
    ·exact a8M (b9u n) _ _ _ e h
  rw[rU]at e;split at e
  ·cases e;exact h
  ·split at e
   ·exact go _ _ e
   ·exact go _ _ e
theorem CI.zero{c:Cl}{H:Nat->Nat}(h:∀x,nS c.ns x=0):CI c H 0 []:=⟨Nat.zero_le _,rfl,λm hm=>by omega,λx=>by rw[h];rfl⟩
theorem CI.made{c:Cl}{H:Nat->Nat}{hs:List Nat}(h:CI c H c.ns.length hs):b1G c.ns H:=h.kid
theorem b2I(l:List (Tm×Tm)):∃k0 j,(∀k,k0<=k->s9 k l ⟨[],[],[]⟩=some j)/\(j.2=false->∀ τ,¬ uni τ l)/\(j.2=true->∃cn od H r,(∀k,k0<=k->F0 k k 0 j.1 []=some cn/\a2V k k 0 cn.1 (cn.2.filter λn=>decide (nS cn.1.ns n=0))=some od)/\ClsC od.1 H r l/\od.1.ps=[]/\b1G od.1.ns H/\KI od.1.ns.length (λm=>decide (H m=m)) (egC od.1.ns H) od.2.length [] (nS od.1.ns) od.2/\cn.2=(List.range od.1.ns.length).filter (λm=>decide (H m=m))/\(od.2.length≠cn.2.length->∀ τ,¬ uni τ l)/\(od.2.length=cn.2.length->∃k1 tm,(∀k,k1<=k->C2 k od.2.reverse od.1 (List.replicate od.1.ns.length tm0)=some tm)/\ClsC tm.1 H r l/\tm.1.vr=od.1.vr/\tm.1.ns.length=od.1.ns.length/\∀s:List Bd,(∀v,d9 s v=(p8 od.1.vr v).map λm=>tm.2.getD (H m) tm0)->Mgu (f0 s) l)):=by
 obtain⟨k1,j,e1,t1,t2⟩:=a0E l ⟨[],[],[]⟩ (H:=id) (r:=id) (E:=[]) rfl Cls.nil;rw[List.nil_append]at t1 t2;cases hj:j.2 with
 | false=>exact⟨k1,j,λk hk=>P7 hk e1,λ_=>t1 hj,λe=>by rw[hj]at e;cases e⟩
 | true =>
  obtain⟨hp,H0,r0,g0⟩:=t2 hj;have hz:∀x,nS j.1.ns x=0:=λx=>by rw[b3k e1];rfl
  obtain⟨k2,cn,H,r,e2,g1,i1,p1⟩:=a9P _ 0 j.1 [] rfl g0 (CI.zero hz);obtain⟨k3,od,e3,g2,l2,tt2,kk2,vv2,pp2,ki⟩:=b6r (λ_=>rfl) _ 0 cn.1 _ rfl rfl g1 i1.made (λ_ _=>rfl) (Nat.zero_le _) i1.start;have hm:b1G od.1.ns H:=λm cF=>by rw[tt2,kk2];exact i1.made m (by rw[<-l2];exact cF)
  have tB:egC od.1.ns H=egC cn.1.ns H:=by funext g;unfold egC;rw[tt2,kk2]
  have ki':KI od.1.ns.length (λm=>decide (H m=m)) (egC od.1.ns H) od.2.length [] (nS od.1.ns) od.2:=by rw[l2,tB];exact ki
  have gR:od.1.ps=[]:=by rw[pp2,p1];exact hp
  have hcn:cn.2=(List.range od.1.ns.length).filter (λm=>decide (H m=m)):=by rw[l2];exact i1.lst
  have dR:=b5f ki';rw[<-hcn]at dR;refine⟨max k1 (max k2 k3),j,λk hk=>P7 (by omega) e1,λe=>(by rw[hj]at e;cases e),λ_=>⟨cn,od,H,r,λk hk=>⟨e2 k k (by omega) (by omega),e3 k k (by omega) (by omega)⟩,g2,gR,hm,ki',hcn,λkF τ=>?_,λhe=>?_⟩⟩
  ·have:¬ ∀x,x<od.1.ns.length->H x=x->x∈od.2:=λh=>kF (dR.2 h);apply Classical.byContradiction;intro hu;refine this λx hx mV=>?_;apply Classical.byContradiction;intro iV;exact c3B g2 gR hm ki' hx mV iV τ (Classical.byContradiction hu)
  ·have ha:=dR.1 he;have j2:=Cls.made g2 gR hm;have dZ:∀g∈od.2,∀x∈egC od.1.ns H g,x∈od.2:=λg hg x hx=>by
    obtain⟨q1,q2⟩:=ki'.hd g hg;unfold egC at hx;split at hx
    ·cases hx
    ·rename_i hf;obtain⟨i,hi,e⟩:=mem_map.1 hx;obtain⟨_,_,q3,q4⟩:=j2.part q1 hf (mem_range.1 hi);rw[<-e];exact ha _ q3 q4
   obtain⟨k4,tm,e4,c1,c2,c3,c4,c5,c6,c7,c8⟩:=a3e (eg:=egC od.1.ns H) (T:=nT od.1.ns) od.2.reverse [] od.1 (List.replicate od.1.ns.length tm0) g2 hm (λ_ _=>rfl) (λ_ _=>rfl) (λn hn=>by obtain⟨q1,q2⟩:=ki'.hd n (List.mem_reverse.1 hn);exact⟨q1,of_decide_eq_true q2⟩) (by unfold List.Nodup;rw[List.pairwise_reverse];exact ki'.nd.imp Ne.symm) (λn _ hn=>by cases hn) (b2s ki' dZ) (by simp) (λh hh=>by cases hh)
   refine⟨k4,tm,e4,c1,c5,c2,λs hs=>c0R g2 gR hm ki' ha ?_ hs⟩;rw[List.reverse_reverse,append_nil]at c8;exact c8
noncomputable abbrev Nd.cw(n:Nd):CV:=.row [n.t.cw,.i (n.fi:Int),.i (n.up:Int),.i n.us]
noncomputable def Nd.cv(n:Nd):CV:=n.cw
theorem Nd.map_at{l:List Nd}{i:Nat}{n:Nd}(h:l[i]?=some n):(l.map Nd.cv)[i]?=some n.cw:=by rw[List.getElem?_map,h];rfl
theorem Nd.size_all(l:List Nd):∀c∈l.map Nd.cv,c.size=5:=by
 intro c hc;obtain⟨b,_,rfl⟩:=mem_map.1 hc;rfl
noncomputable abbrev psw(p:Nat×Nat):CV:=.row [.i (p.1:Int),.i (p.2:Int)]
noncomputable def psv(p:Nat×Nat):CV:=psw p
theorem c4A{l:List (Nat×Nat)}{i:Nat}{n:Nat×Nat}(h:l[i]?=some n):(l.map psv)[i]?=some (psw n):=by rw[List.getElem?_map,h];rfl
theorem c0h(l:List (Nat×Nat)):∀c∈l.map psv,c.size=2:=by
 intro c hc;obtain⟨b,_,rfl⟩:=mem_map.1 hc;rfl
noncomputable def vrv(p:Int×Nat):CV:=.row [.i p.1,.i (p.2:Int)]
theorem a3U(l:List (Int×Nat)):A5 .i64 (l.map vrv):=λr hr=>by
 obtain⟨p,_,rfl⟩:=mem_map.1 hr;exact⟨p.1,.i p.2,rfl⟩
theorem b4u(l:List (Int×Nat))(v:Int):G4 .i64 v (l.map vrv)=(p8 l v).map λn:Nat=>CV.i (n:Int):=by
 induction l with
 | nil=>rfl
 | cons p l ih =>
  rw[map_cons,vrv,R9,p8];split
  ·rfl
  ·exact ih
theorem c3W{l:List (Int×Nat)}{v:Int}{n:Nat}(h:p8 l v=none):a3p .i64 v (.i (n:Int)) (l.map vrv)=(l++[(v,n)]).map vrv:=by
 have h1:G4 .i64 v (l.map vrv)=none:=by rw[b4u,h];rfl
 rw[(a0k (.i (n:Int)) (a3U l)).1 h1,map_append];rfl
noncomputable abbrev v7(c:Cl):AS:=[(450001,.obj),(35500100,.sl 300001 0 c.ns.length 5),(35500101,.mref 300003),(35500102,.sl 300002 0 c.ps.length 2),(300001,.mrow 194 5 (c.ns.map Nd.cv)),(300003,.mp (c.vr.map vrv)),(300002,.mrow 207 2 (c.ps.map psv))]
noncomputable abbrev Q3(c:Cl):AS:=[(450001,.obj),(35500100,.sl 400001 0 c.ns.length 5),(35500101,.mref 300003),(35500102,.sl 300002 0 c.ps.length 2),(400001,.mrow 194 5 (c.ns.map Nd.cv)),(300003,.mp (c.vr.map vrv)),(300002,.mrow 207 2 (c.ps.map psv))]
theorem s6{l:List Nd}{n:Nat}{x:Nd}(h:l[n]?=some x):l.getD n ndD=x:=by rw[getD_eq_getElem?_getD,h];rfl
theorem R3{ns:List Nd}{n k:Nat}{x:Nd}(h:ns[n]?=some x):(setUp ns n k).map Nd.cv=(ns.map Nd.cv).set n (Nd.cw { x with up:=k }):=by
 unfold setUp;rw[map_set,s6 h];rfl
theorem b5o{ns:List Nd}{n k:Nat}{x:Nd}(h:ns[n]?=some x):(setFi ns n k).map Nd.cv=(ns.map Nd.cv).set n (Nd.cw { x with fi:=k }):=by
 unfold setFi;rw[map_set,s6 h];rfl
theorem a7b{ns:List Nd}{n:Nat}{k:Int}{x:Nd}(h:ns[n]?=some x):(setUs ns n k).map Nd.cv=(ns.map Nd.cv).set n (Nd.cw { x with us:=k }):=by
 unfold setUs;rw[map_set,s6 h];rfl
theorem Q9{ns:List Nd}{n:Nat}(h:n<ns.length):∃x,ns[n]?=some x:=⟨ns[n],List.getElem?_eq_getElem h⟩
theorem b1n{ns:List Nd}{n k:Nat}{x:Nd}(h:ns[n]?=some x):(setUp ns n k)[n]?=some { x with up:=k }:=by
 unfold setUp;have hl:n<ns.length:=(List.getElem?_eq_some_iff.1 h).1;rw[List.getElem?_set_self hl,s6 h]
theorem I7(ns:List Nd)(n k:Nat):(setUp ns n k).length=ns.length:=by unfold setUp;simp
def upOk(ns:List Nd):Prop:=∀m,m<ns.length->nU ns m<ns.length
theorem upOk.set{ns:List Nd}(h:upOk ns){n k:Nat}(hk:k<ns.length):upOk (setUp ns n k):=λm hm=>by
 rw[I7]at hm |-;unfold nU setUp;rw[getD_eq_getElem?_getD,getElem?_set];split
 ·split
  ·exact hk
  ·exact Nat.lt_of_le_of_lt (Nat.zero_le _) hm
 ·rw[<-getD_eq_getElem?_getD];exact h m hm
set_option maxHeartbeats 2000000 in
theorem M5(vr:List (Int×Nat))(ps:List (Nat×Nat))(k:Nat)(ns:List Nd)(n:Nat)(r:List Nd×Nat)(hc:o8 k ns n=some r)(cX:upOk ns)(hn:n<ns.length)(hl:ns.length<=1000000):r8 Tryz.prog 156 (Q3 ⟨ns,vr,ps⟩) [.bp 350001 0 [],.val (.i (n:Int))] (.val (.i (r.2:Int))) (Q3 ⟨r.1,vr,ps⟩):=by
 refine l6 Tryz.func156 Tryz.ntmps156 rfl rfl rfl rfl rfl rfl ?_;intro w U hU;refine qz<|nc ze ?_;refine aS<|aB (w8 (λj s=>∃ns n,o8 j ns n=some r/\upOk ns/\n<ns.length/\ns.length<=1000000/\s=(0,AV.bp 350001 0 [])::(1,.val (.i (n:Int)))::Q3 ⟨ns,vr,ps⟩) (n:=k) (s':=(0,AV.bp 350001 0 [])::(1,.val (.i (n:Int)))::Q3 ⟨ns,vr,ps⟩) (a7 ⟨rfl,rfl,rfl,rfl,rfl,rfl,rfl,rfl,rfl,trivial⟩) ⟨ns,n,hc,cX,hn,hl,rfl⟩ ?_);rintro j s ⟨ns,n,hc,cX,hn,hl,rfl⟩;cases j with
 | zero=>cases hc
 | succ j =>
 rw[o8]at hc;obtain⟨x,hx⟩:=Q9 hn;have kT:=Nd.map_at hx;have oP:nU ns n=x.up:=by unfold nU;rw[s6 hx]
 have fZ:(ns.map Nd.cv).length=ns.length:=length_map ..;refine aS<|qz<|nc zl<|nc z5<|nc zg<|nc z7<|nc zl<|nc (zO (k:=n))<|nc z4<|nc (zP (G:=kT))<|nc zl<|nc z8 ?_;refine aC rfl (λkF=>?_) (λkF=>?_)
 ·have kF:x.up≠n:=by intro e;rw[e]at kF;simp at kF
  rw[if_neg (by rw[oP];exact kF)]at hc;have nV:x.up<ns.length:=by rw[<-oP];exact cX n hn
  obtain⟨y,hy⟩:=Q9 nV;have dW:=Nd.map_at hy;have wR:nU ns (nU ns n)=y.up:=by rw[oP];unfold nU;rw[s6 hy]
  rw[wR]at hc;have jA:y.up<ns.length:=by rw[<-wR];exact cX _ (by rw[oP];exact nV)
  refine aK<|aB<|aS<|aD (by kernel_rfl) (by kernel_rfl) ?_;refine nc zl<|nc z5<|nc zg<|nc z7<|nc zl<|nc zl<|nc z5<|nc zg<|nc z7<|nc zl<|nc z5<|nc zg<|nc z7<|nc zl<|nc (zO (k:=n))<|nc z4<|nc (zP (G:=kT))<|nc (zO (k:=x.up))<|nc z4<|nc (zP (G:=dW))<|nc (zO (k:=n))<|nc z4<|nc (zR (F:=kT)) ?_;refine⟨by kernel_rfl,?_⟩;obtain⟨ns1,h1⟩:∃ns1,ns1=setUp ns n y.up:=⟨_,rfl⟩
  have cF:ns1.map Nd.cv=(ns.map Nd.cv).set n (Nd.cw { x with up:=y.up }):=by rw[h1];exact R3 hx
  have fA:ns1.length=ns.length:=by rw[h1,I7]
  have fE:ns1[n]?=some { x with up:=y.up }:=by rw[h1];exact b1n hx
  have tD:=Nd.map_at fE;have tE:nU ns1 n=y.up:=by unfold nU;rw[s6 fE]
  rw[<-h1,tE]at hc;have wS:(ns1.map Nd.cv).length=ns1.length:=length_map ..;refine AWp.wk (a7 (s':=(0,AV.bp 350001 0 [])::(1,.val (.i (n:Int)))::Q3 ⟨ns1,vr,ps⟩) ⟨rfl,rfl,rfl,?_,rfl,rfl,?_,rfl,rfl,trivial⟩) ?_
  ·show _=some (AV.sl 400001 0 ns1.length 5);rw[fA];rfl
  ·show _=some (AV.mrow 194 5 (ns1.map Nd.cv));rw[cF];rfl
  refine aR<|nc zl<|nc z5<|nc zg<|nc z7<|nc zl<|nc (zO (k:=n))<|nc z4<|nc (zP (G:=tD))<|nc ze ?_;exact⟨j,(0,AV.bp 350001 0 [])::(1,.val (.i (y.up:Int)))::Q3 ⟨ns1,vr,ps⟩,by omega,⟨ns1,y.up,hc,by rw[h1];exact cX.set jA,by rw[fA];exact jA,by rw[fA];exact hl,rfl⟩,a7 ⟨rfl,rfl,rfl,rfl,rfl,rfl,rfl,rfl,rfl,trivial⟩⟩
 ·have kF:x.up=n:=by have:=of_decide_eq_false kF;simp only[ne_eq,Decidable.not_not]at this;omega
  rw[if_pos (by rw[oP];exact kF)]at hc;cases hc;refine aE<|qz<|nc zl<|nc ze ?_;exact aT ⟨.inr rfl,_,Wk.refl _,rfl,rfl,rfl,rfl,rfl,rfl,rfl,rfl,trivial⟩
theorem a6X(c:Cl)(x y:Nat)(hl:c.ps.length<=100000000):r8 Tryz.prog 150 (v7 c) [.bp 350001 0 [],.val (.i (x:Int)),.val (.i (y:Int))] (.tup []) (v7 ⟨c.ns,c.vr,c.ps++[(x,y)]⟩):=by
 have kC:=c0h c.ps;have fZ:(c.ps.map psv).length=c.ps.length:=length_map ..;refine l6 Tryz.func150 Tryz.ntmps150 rfl rfl rfl rfl rfl rfl ?_;intro w U hU;refine aR<|nc zl<|nc zl<|nc z5<|nc zg<|nc z7<|nc zl<|nc zl<|nc (z9 [1,1])<|nc zy<|ne (zba 300015)<|nc z5<|nc zg<|nc zbb ?_;refine⟨.inl rfl,_,(a7 (s':=[(450001,.obj),(35500100,.sl 300001 0 c.ns.length 5),(35500101,.mref 300003),(35500102,.sl 300015 0 (c.ps++[(x,y)]).length 2),(300001,.mrow 194 5 (c.ns.map Nd.cv)),(300003,.mp (c.vr.map vrv)),(300015,.mrow 207 2 ((c.ps++[(x,y)]).map psv))]) ⟨rfl,rfl,rfl,?_,rfl,rfl,?_,trivial⟩).trans (B1 300015 300002 rfl rfl (by kernel_rfl) (by kernel_rfl)),rfl,rfl,rfl,rfl,rfl,rfl,rfl,rfl,trivial⟩
 ·rw[length_append,<-length_map (f:=psv)];rfl
 ·rw[map_append];rfl
set_option maxHeartbeats 1000000 in
theorem b6Q(c:Cl)(p:Nat×Nat)(hp:c.ps.getLast?=some p)(hl:c.ps.length<=100000000):r8 Tryz.prog 153 (v7 c) [.bp 350001 0 []] (.tup [.i (p.1:Int),.i (p.2:Int)]) (v7 ⟨c.ns,c.vr,c.ps.dropLast⟩):=by
 have gO:0<c.ps.length:=by
  cases h:c.ps with
  | nil=>rw[h]at hp;cases hp
  | cons a l=>simp
 have wT:c.ps[c.ps.length-1]?=some p:=by rw[<-List.getLast?_eq_getElem?];exact hp
 have kT:=c4A wT;have fZ:(c.ps.map psv).length=c.ps.length:=length_map ..;have wU:((c.ps.length:Nat):Int)-1=((c.ps.length-1:Nat):Int):=by omega
 refine l6 Tryz.func153 Tryz.ntmps153 rfl rfl rfl rfl rfl rfl ?_;intro w U hU;refine qz<|nc ze<|nc ze ?_;refine qz<|nc zl<|nc z5<|nc zg<|nc z7<|nc zX<|nc zB<|nc ze ?_;refine AWp.wk (a7 (s':=(0,AV.bp 350001 0 [])::(4,.val (.i ((c.ps.length-1:Nat):Int)))::v7 c) ⟨rfl,?_,rfl,rfl,rfl,rfl,rfl,rfl,rfl,trivial⟩) ?_
 ·rw[<-wU];rfl
 refine qz<|nc zl<|nc z5<|nc zg<|nc z7<|nc zl<|nc (zO (k:=(c.ps.length-1)))<|nc (zP (G:=kT))<|ne (zbc [1,1])<|nc zx ?_;refine qz<|nc zl<|nc zl<|nc z5<|nc zg<|nc z7<|nc zl<|nc (z3 (j:=(c.ps.length-1)))<|nc z5<|nc zg<|nc zbb ?_;refine AWp.wk ((a7 (s':=[(5,AV.bp 5 0 []),(100005,.bx (psw p)),(450001,.obj),(35500100,.sl 300001 0 c.ns.length 5),(35500101,.mref 300003),(35500102,.sl 300002 0 (c.ps.length-1) 2),(300001,.mrow 194 5 (c.ns.map Nd.cv)),(300003,.mp (c.vr.map vrv)),(300002,.mrow 207 2 (c.ps.map psv))]) ⟨rfl,rfl,rfl,rfl,rfl,rfl,rfl,rfl,rfl,trivial⟩).trans (c2I 300002 (c.ps.length-1) rfl rfl (by rw[length_map];omega) (by kernel_rfl))) ?_;refine aS<|aD (by kernel_rfl) (by kernel_rfl) ?_;refine nc (zbd 0)<|nc zh<|nc (zbd 1)<|nc zh<|nc ze<|nc ze ?_;refine⟨by kernel_rfl,?_⟩;refine aT ⟨.inr rfl,_,Wk.refl _,rfl,rfl,rfl,rfl,?_,rfl,rfl,?_,trivial⟩
 ·show _=some (AV.sl 300002 0 c.ps.dropLast.length 2);rw[List.length_dropLast];rfl
 ·show _=some (AV.mrow 207 2 (c.ps.dropLast.map psv));rw[List.dropLast_eq_take,List.map_take];rfl
theorem a0R(W:World)(t:Tm):AFun Tryz.prog W 171 [t.cw] (.val (.b (decide (t.f<0)))):=by
 refine b9 (rs:=[.b (decide (t.f<0))]) Tryz.func171 Tryz.ntmps171 rfl rfl rfl rfl ?_;intro w U hW;refine qz<|nc zd<|nc ze ?_;refine qz<|nc zg<|nc zh<|nc zi<|nc ze ?_;exact aT ⟨.inr rfl,rfl⟩
theorem a2X(W:World)(t:Tm)(h1 : -9223372036854775808<=t.f)(h2:t.f<0):AFun Tryz.prog W 172 [t.cw] (.val (.i (-1-t.f))):=by
 refine b9 (rs:=[.i (-1-t.f)]) Tryz.func172 Tryz.ntmps172 rfl rfl rfl rfl ?_;intro w U hW;refine qz<|nc zd<|nc ze ?_;refine qz<|nc zg<|nc zh<|nc zB<|nc ze ?_;exact aT ⟨.inr rfl,rfl⟩
theorem c1c(l:List Nd)(x:Nd):(l++[x])[l.length]?=some x:=by simp
set_option maxHeartbeats 2000000 in
theorem a5m(c:Cl)(t:Tm)(ht:t.rng)(hl:c.ns.length<=1000000):r8 Tryz.prog 151 (v7 c) [.bp 350001 0 [],.val t.cw] (.val (.i (c.ns.length:Int))) (v7 (r7 c t)):=by
 have uK:=(Tm.rng_iff _).1 ht;have kC:=Nd.size_all c.ns;have fZ:(c.ns.map Nd.cv).length=c.ns.length:=length_map ..;refine l6 Tryz.func151 Tryz.ntmps151 rfl rfl rfl rfl rfl rfl ?_;intro w U hU;refine qz<|ne zd<|nc ze ?_;refine qz<|nc zl<|nc z5<|nc zg<|nc z7<|nc zX<|nc ze ?_;refine aS<|aD (by kernel_rfl) (by kernel_rfl) ?_;refine nc zl<|nc zl<|nc z5<|nc zg<|nc z7<|nc zj<|nc zl<|nc zC<|nc zy<|ne (zba 300022)<|nc z5<|nc zg<|nc zbb ?_;refine⟨by kernel_rfl,?_⟩;obtain⟨c1,gP⟩:∃c1:Cl,c1=⟨c.ns++[⟨t,0,c.ns.length,0⟩],c.vr,c.ps⟩:=⟨_,rfl⟩
 have bI:c1.ns=c.ns++[⟨t,0,c.ns.length,0⟩]:=by rw[gP]
 have fA:c1.ns.length=c.ns.length+1:=by rw[bI,length_append];rfl
 refine AWp.wk ((a7 (s':=[(0,AV.bp 350001 0 []),(3,.bp 3 0 []),(100003,.bx t.cw),(5,.val (.i (c.ns.length:Int))),(450001,.obj),(35500100,.sl 300022 0 c1.ns.length 5),(35500101,.mref 300003),(35500102,.sl 300002 0 c1.ps.length 2),(300022,.mrow 194 5 (c1.ns.map Nd.cv)),(300003,.mp (c1.vr.map vrv)),(300002,.mrow 207 2 (c1.ps.map psv))]) ⟨rfl,rfl,rfl,rfl,rfl,?_,rfl,?_,?_,?_,?_,trivial⟩).trans (B1 300022 300001 rfl rfl (by kernel_rfl) (by kernel_rfl))) ?_
 ·rw[fA,<-fZ];rfl
 ·rw[gP];rfl
 ·rw[bI,map_append];rfl
 ·rw[gP];rfl
 ·rw[gP];rfl
 refine aS<|qz<|nc zj<|nc (zk (z:=a0R w t))<|nc zZ ?_;by_cases hf:t.f<0
 case neg =>
  have hg:decide (t.f<0)=false:=by simpa using hf
  have bQ:r7 c t=c1:=by unfold r7 Y7 addV;rw[if_neg hf,if_neg hf,gP]
  rw[hg,bQ];refine aC rfl (λhc=>?_) (λhc=>by cases hc);refine qz<|nc zl<|nc ze ?_;exact aT ⟨.inr rfl,_,Wk.refl _,rfl,rfl,rfl,rfl,rfl,rfl,rfl,rfl,trivial⟩
 have hg:decide (t.f<0)=true:=by simpa using hf
 rw[hg];refine aC rfl (λhc=>by cases hc) (λhc=>aK ?_);refine aS<|aS<|aD (by kernel_rfl) (by kernel_rfl) ?_;refine nc zl<|nc z5<|nc zg<|nc z7<|nc zj<|nc (zk (z:=a2X w t uK.1.1 hf))<|nc (zbe (hik:=a3U _))<|nc zl<|nc zE<|nc zE<|nc ze<|nc ze ?_;refine⟨by kernel_rfl,?_⟩;rw[b4u];have fN:c1.vr=c.vr:=by rw[gP]
 rw[fN];refine qz<|nc zl ?_;have hx:c1.ns[c.ns.length]?=some ⟨t,0,c.ns.length,0⟩:=by rw[bI];exact c1c _ _
 have kT:=Nd.map_at hx;have wS:(c1.ns.map Nd.cv).length=c1.ns.length:=length_map ..;cases kB:p8 c.vr (-1-t.f)with
 | some m =>
  have bQ:r7 c t=⟨setUp c1.ns c.ns.length m,c.vr,c1.ps⟩:=by
   unfold r7 Y7 addV;rw[if_pos hf,if_pos hf,kB];have:setUp c1.ns c.ns.length m=c.ns++[⟨t,0,m,0⟩]:=by unfold setUp;rw[s6 hx,bI,List.set_append_right _ _ (Nat.le_refl _)];simp
   rw[this,gP];rfl
  have cF:(setUp c1.ns c.ns.length m).map Nd.cv=(c1.ns.map Nd.cv).set c.ns.length (Nd.cw ⟨t,0,m,0⟩):=R3 hx;refine aC rfl (λhc=>?_) (λhc=>by cases hc);refine aR<|nc zl<|nc z5<|nc zg<|nc z7<|nc zl<|nc zl<|nc (zO (k:=c.ns.length))<|nc z4<|nc (zR (F:=kT)) ?_;rw[bQ];refine AWp.wk (a7 (s':=(5,AV.val (.i (c.ns.length:Int)))::v7 ⟨setUp c1.ns c.ns.length m,c.vr,c1.ps⟩) ⟨rfl,rfl,?_,rfl,rfl,?_,rfl,rfl,trivial⟩) ?_
  ·show _=some (AV.sl 300001 0 (setUp c1.ns c.ns.length m).length 5);rw[I7];rfl
  ·show _=some (AV.mrow 194 5 ((setUp c1.ns c.ns.length m).map Nd.cv));rw[cF];rfl
  refine qz<|nc zl<|nc ze ?_;exact aT ⟨.inr rfl,_,Wk.refl _,rfl,rfl,rfl,rfl,rfl,rfl,rfl,rfl,trivial⟩
 | none =>
  have bQ:r7 c t=⟨c1.ns,c.vr++[(-1-t.f,c.ns.length)],c1.ps⟩:=by unfold r7 Y7 addV;rw[if_pos hf,if_pos hf,kB,gP];rfl
  have hput:=c3W (n:=c.ns.length) kB;refine aC rfl (λhc=>by cases hc) (λhc=>?_);refine aD (by kernel_rfl) (by kernel_rfl) ?_;refine nc zl<|nc z5<|nc zg<|nc z7<|nc zj<|nc (zk (z:=a2X w t uK.1.1 hf))<|nc zl<|nc (zbf (G:=a3U _)) ?_;refine⟨by kernel_rfl,?_⟩;rw[bQ];refine AWp.wk (a7 (s':=(5,AV.val (.i (c.ns.length:Int)))::v7 ⟨c1.ns,c.vr++[(-1-t.f,c.ns.length)],c1.ps⟩) ⟨rfl,rfl,rfl,rfl,rfl,rfl,?_,rfl,trivial⟩) ?_
  ·show _=some (AV.mp ((c.vr++[(-1-t.f,c.ns.length)]).map vrv));rw[<-hput];rfl
  refine qz<|nc zl<|nc ze ?_;exact aT ⟨.inr rfl,_,Wk.refl _,rfl,rfl,rfl,rfl,rfl,rfl,rfl,rfl,trivial⟩
def trmOk(ns:List Nd):Prop:=∀x∈ns,x.t.rng/\x.t.ok
theorem trmOk.add{c:Cl}(h:trmOk c.ns){t:Tm}(h1:t.rng)(h2:t.ok):trmOk (r7 c t).ns:=λx hx=>by
 rcases mem_append.1 hx with hx | hx
 ·exact h x hx
 ·rw[mem_singleton]at hx;rw[hx];exact⟨h1,h2⟩
theorem trmOk.all{l:List Tm}(hl:∀t∈l,t.rng/\t.ok):∀{c:Cl},trmOk c.ns->trmOk (addAll c l).ns:=by
 induction l with
 | nil=>exact λh=>h
 | cons t l ih =>
  intro c h;exact ih (λs hs=>hl s (mem_cons_of_mem _ hs)) (h.add (hl t (by simp)).1 (hl t (by simp)).2)
theorem b0i{c:Cl}{l:List Tm}{k:Nat}{t:Tm}(h:l[k]?=some t):addAll c (l.take (k+1))=r7 (addAll c (l.take k)) t:=by
 unfold addAll;rw[List.take_add_one,h,List.foldl_append];rfl
theorem a4c(l:List Tm):∀c:Cl,∃N,(addAll c l).ns=c.ns++N/\N.length=l.length:=by
 induction l with
 | nil=>exact λc=>⟨[],by simp[addAll],rfl⟩
 | cons t l ih =>
  intro c;obtain⟨N,h,h2⟩:=ih (r7 c t);exact⟨⟨t,0,Y7 c t,0⟩::N,by
   show(addAll (r7 c t) l).ns=_;rw[h];show(c.ns++[⟨t,0,Y7 c t,0⟩])++N=_;simp,by simp[h2]⟩
theorem G8(c:Cl)(l:List Tm):(addAll c l).ns.length=c.ns.length+l.length:=by
 obtain⟨N,h,h2⟩:=a4c l c;rw[h,length_append,h2]
set_option maxHeartbeats 4000000 in
theorem O2(c:Cl)(n:Nat)(hn:n<c.ns.length)(hT:trmOk c.ns)(hl:(pC c n).1.ns.length<=1000000)(mI:(nT c.ns n).l.length≠0->nK c.ns n<=1000000):r8 Tryz.prog 155 (v7 c) [.bp 350001 0 [],.val (.i (n:Int))] (.tup [.i ((pC c n).2.1:Int),.i ((pC c n).2.2:Int)]) (v7 (pC c n).1):=by
 obtain⟨x,hx⟩:=Q9 hn;have kT:=Nd.map_at hx;have fZ:(c.ns.map Nd.cv).length=c.ns.length:=length_map ..;obtain⟨uK,iW⟩:=hT x (mem_of_getElem? hx);have htr':=(Tm.rng_iff _).1 uK;have hto':=(Tm.ok_iff _).1 iW;have hnT:nT c.ns n=x.t:=by unfold nT;rw[s6 hx]
 have hnK:nK c.ns n=x.fi:=by unfold nK;rw[s6 hx]
 have kC:=Tm.size_all x.t.l;unfold pC at hl |-;rw[hnT,hnK]at hl |-;rw[hnK,hnT]at mI;refine l6 Tryz.func155 Tryz.ntmps155 rfl rfl rfl rfl rfl rfl ?_;intro w U hU;refine qz<|nc ze<|nc ze ?_;refine qz<|nc zl<|nc z5<|nc zg<|nc z7<|nc zl<|nc (zO (k:=n))<|nc z4<|nc (zP (G:=kT))<|ne zw<|nc zx ?_;refine AWp.wk (a7 (s':=(0,AV.bp 350001 0 [])::(1,.val (.i (n:Int)))::(6,.bp 6 0 [])::(100006,.bx x.t.cw)::v7 c) ⟨rfl,rfl,rfl,rfl,rfl,rfl,rfl,rfl,rfl,rfl,rfl,trivial⟩) ?_;have pO:=a0R w x.t;by_cases hf:x.t.f<0
 case pos =>
  rw[show decide (x.t.f<0)=true by simpa using hf]at pO;rw[if_pos (.inl hf)];refine aS<|qz<|nc zj<|nc (zk (z:=pO))<|nc zl<|nc zq<|nc zq<|nc zq<|nc zq<|nc zp ?_;refine aC rfl (λhc=>?_) (λhc=>by cases hc);refine qz<|nc ze<|nc ze ?_;exact aT ⟨.inr rfl,_,Wk.refl _,rfl,rfl,rfl,rfl,rfl,rfl,rfl,rfl,trivial⟩
 rw[show decide (x.t.f<0)=false by simpa using hf]at pO;by_cases h0:x.t.l.length=0
 case pos =>
  have g0:decide (((x.t.l.map Tm.cv).length:Int)=0)=true:=by rw[length_map];simpa using h0
  rw[if_pos (.inr h0)];refine aS<|qz<|nc zj<|nc (zk (z:=pO))<|nc zl<|nc (zg (r:=gb))<|nc (zh (r:=gb))<|nc (zo (r:=gb))<|nc (zD (r:=gb))<|nc zr ?_;refine aC rfl (λhc=>?_) (λhc=>by rw[g0]at hc;cases hc);refine qz<|nc ze<|nc ze ?_;exact aT ⟨.inr rfl,_,Wk.refl _,rfl,rfl,rfl,rfl,rfl,rfl,rfl,rfl,trivial⟩
 have g0:decide (((x.t.l.map Tm.cv).length:Int)=0)=false:=by rw[length_map];simpa using h0
 have kZ:¬ (x.t.f<0\/x.t.l.length=0):=by omega
 rw[if_neg kZ]at hl |-;refine aS<|qz<|nc zj<|nc (zk (z:=pO))<|nc zl<|nc (zg (r:=gb))<|nc (zh (r:=gb))<|nc (zo (r:=gb))<|nc (zD (r:=gb))<|nc zr ?_;refine aC rfl (λhc=>by rw[g0]at hc;cases hc) (λhc=>aK ?_);refine AWp.wk (a7 (s':=(0,AV.bp 350001 0 [])::(1,.val (.i (n:Int)))::(6,.bp 6 0 [])::(100006,.bx x.t.cw)::v7 c) ⟨rfl,rfl,rfl,rfl,rfl,rfl,rfl,rfl,rfl,rfl,rfl,trivial⟩) ?_;by_cases pB:x.fi=0
 case neg =>
  have mI:=mI h0;rw[if_neg pB];refine aS<|qz<|nc zl<|nc z5<|nc zg<|nc z7<|nc zl<|nc (zO (k:=n))<|nc z4<|nc (zP (G:=kT))<|nc zD ?_;refine aC rfl (λhc=>?_) (λhc=>aK ?_)
  ·have:(x.fi:Int)=0:=by simpa using hc
   omega
  refine qz<|nc zl<|nc z5<|nc zg<|nc z7<|nc zl<|nc (zO (k:=n))<|nc z4<|nc (zP (G:=kT))<|nc ze ?_;refine aS<|aD (by kernel_rfl) (by kernel_rfl) ?_;refine nc zl<|nc zl<|nc zg<|nc zh<|nc zo<|nc zA<|nc ze<|nc ze ?_;refine⟨by kernel_rfl,?_⟩;refine aT ⟨.inr rfl,_,Wk.refl _,?_,rfl,rfl,rfl,rfl,rfl,rfl,rfl,trivial⟩;show some (AV.tup [.i (x.fi:Int),.i ((x.fi:Int)+((x.t.l.map Tm.cv).length:Nat))])=some (AV.tup [.i (x.fi:Int),.i ((x.fi+x.t.l.length:Nat):Int)]);rw[length_map];congr 5
 rw[if_pos pB]at hl |-;obtain⟨c1,gP⟩:∃c1,c1=c.setFi n c.ns.length:=⟨_,rfl⟩
 rw[<-gP]at hl |-;have bI:c1.ns=setFi c.ns n c.ns.length:=by rw[gP];rfl
 have cF:c1.ns.map Nd.cv=(c.ns.map Nd.cv).set n (Nd.cw { x with fi:=c.ns.length }):=by rw[bI];exact b5o hx
 have fA:c1.ns.length=c.ns.length:=by rw[bI];unfold setFi;simp
 have fE:c1.ns[n]?=some { x with fi:=c.ns.length }:=by rw[bI];unfold setFi;rw[List.getElem?_set_self hn,s6 hx]
 rw[G8,fA]at hl;refine aS<|qz<|nc zl<|nc z5<|nc zg<|nc z7<|nc zl<|nc (zO (k:=n))<|nc z4<|nc (zP (G:=kT))<|nc zD ?_;refine aC rfl (λhc=>?_) (λhc=>?_)
 case refine_2 =>
  have:¬ (x.fi:Int)=0:=by simpa using hc
  omega
 refine aS<|aD (by kernel_rfl) (by kernel_rfl) ?_;refine nc zl<|nc z5<|nc zg<|nc z7<|nc zl<|nc zl<|nc z5<|nc zg<|nc z7<|nc zX<|nc (zO (k:=n))<|nc z4<|nc (zR (F:=kT)) ?_;refine⟨by kernel_rfl,?_⟩;refine AWp.wk (a7 (s':=(0,AV.bp 350001 0 [])::(1,.val (.i (n:Int)))::(6,.bp 6 0 [])::(100006,.bx x.t.cw)::v7 c1) ⟨rfl,rfl,rfl,rfl,rfl,?_,?_,?_,?_,?_,?_,trivial⟩) ?_
 ·show _=some (AV.sl 300001 0 c1.ns.length 5);rw[fA];rfl
 ·rfl
 ·rw[gP];rfl
 ·show _=some (AV.mrow 194 5 (c1.ns.map Nd.cv));rw[cF];rfl
 ·rw[gP];rfl
 ·rw[gP];rfl
 refine qz<|nc zg<|nc zh<|nc zo<|nc zl ?_;refine aB (n6 x.t.l.length (λk=>(0,AV.bp 350001 0 [])::(1,.val (.i (n:Int)))::(6,.bp 6 0 [])::(100006,.bx x.t.cw)::(48,.val (.lst (x.t.l.map Tm.cv)))::(49,.val (.i (x.t.l.map Tm.cv).length))::(50,.val (.i k))::v7 (addAll c1 (x.t.l.take k))) (a7 ⟨rfl,rfl,rfl,rfl,rfl,rfl,rfl,rfl,rfl,rfl,rfl,rfl,rfl,rfl,trivial⟩) ?_);intro k hk;refine qz<|nc zi ?_;refine aS<|aC rfl (λkA=>?_) (λkA=>?_)
 ·have kE:k<x.t.l.length:=by simpa using kA
  obtain⟨y,hy⟩:∃y,x.t.l[k]?=some y:=⟨x.t.l[k],List.getElem?_eq_getElem kE⟩
  have dW:=Tm.map_at hy;have oQ:=mem_of_getElem? hy;have dS:(addAll c1 (x.t.l.take k)).ns.length<=1000000:=by rw[G8,fA,List.length_take];omega
  obtain⟨ck,gY⟩:∃ck,ck=addAll c1 (x.t.l.take k):=⟨_,rfl⟩
  have kQ:=b0i (c:=c1) hy;rw[<-gY]at kQ dS |-;refine aK<|aS<|aB<|qz<|nc (zt (j:=k) (H:=dW) (hz:=kC))<|nc zu<|ne zw<|nc zx ?_;refine aR<|nc zl<|nc zj<|nc (zW (z:=a5m ck y (htr'.2 y oQ) dS) (G:=i8 (by first | rfl | kernel_rfl))) ?_;refine aR<|nc zA<|nc zl ?_;refine⟨kE,?_⟩;show Wk _ _ _ _ (_::_::_::_::_::_::_::v7 (addAll c1 (x.t.l.take (k+1))));rw[kQ];exact a7 ⟨rfl,rfl,rfl,rfl,rfl,rfl,rfl,rfl,rfl,rfl,rfl,rfl,rfl,rfl,trivial⟩
 ·have kE:k=x.t.l.length:=by
   have:¬ k<x.t.l.length:=by simpa using kA
   omega
  subst kE;rw[List.take_length];obtain⟨N,hN,_⟩:=a4c x.t.l c1;have jN:(addAll c1 x.t.l).ns[n]?=some { x with fi:=c.ns.length }:=by rw[hN,List.getElem?_append_left (by rw[fA];exact hn)];exact fE
  have oN:=Nd.map_at jN;obtain⟨c2,gV⟩:∃c2,c2=addAll c1 x.t.l:=⟨_,rfl⟩
  have kM:c2.ns.length=c.ns.length+x.t.l.length:=by rw[gV,G8,fA]
  have hlm2:(c2.ns.map Nd.cv).length=c2.ns.length:=length_map ..;rw[<-gV]at oN |-;refine aE ?_;refine AWp.wk (a7 (s':=(0,AV.bp 350001 0 [])::(1,.val (.i (n:Int)))::(6,.bp 6 0 [])::(100006,.bx x.t.cw)::v7 c2) ⟨rfl,rfl,rfl,rfl,rfl,rfl,rfl,rfl,rfl,rfl,rfl,trivial⟩) ?_;refine qz<|nc zl<|nc z5<|nc zg<|nc z7<|nc zl<|nc (zO (k:=n))<|nc z4<|nc (zP (G:=oN))<|nc ze ?_;refine aS<|aD (by kernel_rfl) (by kernel_rfl) ?_;refine nc zl<|nc zl<|nc zg<|nc zh<|nc zo<|nc zA<|nc ze<|nc ze ?_;refine⟨by kernel_rfl,?_⟩;refine aT ⟨.inr rfl,_,Wk.refl _,?_,rfl,rfl,rfl,rfl,rfl,rfl,rfl,trivial⟩;show some (AV.tup [.i (c.ns.length:Int),.i ((c.ns.length:Int)+((x.t.l.map Tm.cv).length:Nat))])=some (AV.tup [.i (c.ns.length:Int),.i ((c.ns.length+x.t.l.length:Nat):Int)]);rw[length_map];congr 5
def R1(l:List (Int×Nat)):Prop:=(l.map Prod.fst).Nodup/\∀p∈l,0<=p.1
theorem b2q{l:List (Int×Nat)}{v:Int}(h:p8 l v=none):v∉l.map Prod.fst:=by
 induction l with
 | nil=>simp
 | cons p l ih =>
  rw[p8]at h;split at h
  ·cases h
  ·rename_i kF;rw[map_cons,mem_cons];exact λe=>e.elim (λe=>kF e.symm) (ih h)
theorem R4{l:List (Int×Nat)}(hn:(l.map Prod.fst).Nodup){v:Int}{m:Nat}:p8 l v=some m↔(v,m)∈l:=by
 induction l with
 | nil=>simp[p8]
 | cons p l ih =>
  rw[map_cons]at hn;obtain⟨h1,h2⟩:=nodup_cons.1 hn;rw[p8,mem_cons];by_cases e:p.1=v
  ·rw[if_pos e];constructor
   ·intro h;left;rw[<-e,<-Option.some.inj h]
   ·rintro(h | h)
    ·rw[<-h]
    ·exact absurd (mem_map.2 ⟨(v,m),h,rfl⟩) (by rw[<-e];exact h1)
  ·rw[if_neg e,ih h2];exact⟨.inr,λh=>h.resolve_left λh=>e (by rw[<-h])⟩
theorem b2G{l l':List (Int×Nat)}(hn:(l.map Prod.fst).Nodup)(hp:l'.Perm l)(v:Int):p8 l' v=p8 l v:=by
 have gQ:(l'.map Prod.fst).Nodup:=(hp.map _).nodup_iff.2 hn;cases h:p8 l v with
 | some m=>rw[R4 gQ,hp.mem_iff];exact(R4 hn).1 h
 | none =>
  cases h':p8 l' v with
  | none=>rfl
  | some m =>
   have:=(R4 gQ).1 h';rw[hp.mem_iff,<-R4 hn,h]at this;cases this
theorem a3N{l l':List (Int×Nat)}(hn:(l.map Prod.fst).Nodup)(hp:l'.Perm l)(g:Nat->Tm)(v:Int):d9 (l'.map λp=>(⟨p.1,g p.2⟩:Bd)) v=(p8 l v).map g:=by
 rw[<-b2G hn hp v];clear hn hp
 induction l' with
 | nil=>rfl
 | cons p l' ih =>
  rw[map_cons,d9,p8];show(if p.1=v then _ else _)=_;split
  ·rfl
  ·exact ih
theorem b3s(c:Cl)(t:Tm)(h:R1 c.vr):R1 (r7 c t).vr:=by
 show R1 (addV c t);unfold addV;split
 ·rename_i hf;cases hl:p8 c.vr (-1-t.f)with
  | some m=>exact h
  | none =>
   refine⟨?_,λp hp=>?_⟩
   ·rw[map_append,List.nodup_append];refine⟨h.1,by simp,λa ha b hb=>?_⟩;rw[map_cons,map_nil,mem_singleton]at hb;exact λe=>b2q hl (by rw[e,hb]at ha;exact ha)
   ·rcases mem_append.1 hp with hp | hp
    ·exact h.2 p hp
    ·rw[mem_singleton]at hp;rw[hp];show 0 <= -1-t.f;omega
 ·exact h
theorem b5A(l:List Tm):∀c:Cl,R1 c.vr->R1 (addAll c l).vr:=by
 induction l with
 | nil=>exact λc h=>h
 | cons t l ih=>exact λc h=>ih _ (b3s c t h)
theorem a1L(c:Cl)(n:Nat)(h:R1 c.vr):R1 (pC c n).1.vr:=by
 unfold pC;split
 ·exact h
 ·split
  ·exact b5A _ _ h
  ·exact h
theorem a6S(c:Cl)(a b:Nat)(h:R1 c.vr):R1 (joinTo c a b).1.vr:=by
 unfold joinTo;split
 ·exact h
 ·split
  ·exact h
  ·exact a1L _ _ (a1L _ _ h)
theorem b3K{k:Nat}{c:Cl}{x y:Nat}{q}(e:E7 k c x y=some q)(h:R1 c.vr):R1 q.1.vr:=by
 unfold E7 at e;cases h1:o8 k c.ns x with
 | none=>rw[h1]at e;cases e
 | some q1 =>
  rw[h1]at e;simp only at e;cases h2:o8 k q1.1 y with
  | none=>rw[h2]at e;cases e
  | some q2 =>
   rw[h2]at e;simp only at e;split at e
   ·cases e;exact h
   ·split at e
    ·cases e;exact a6S _ _ _ h
    ·cases e;exact a6S _ _ _ h
theorem b9n:∀(k:Nat) {c:Cl} {q},P9 k c=some q->R1 c.vr->R1 q.1.vr
 | 0,_,_,e,_=>by cases e
 | k+1,c,q,e,h=>by
  rw[P9]at e;cases h1:c.ps.getLast? with
  | none=>rw[h1]at e;cases e;exact h
  | some p =>
   rw[h1]at e;simp only at e;cases h2:E7 k ⟨c.ns,c.vr,c.ps.dropLast⟩ p.1 p.2 with
   | none=>rw[h2]at e;cases e
   | some q1 =>
    rw[h2]at e;simp only at e;split at e
    ·exact b9n k e (b3K h2 h)
    ·cases e;exact b3K h2 h
theorem b9c:∀{k:Nat} {l:List (Tm×Tm)} {c:Cl} {q},s9 k l c=some q->R1 c.vr->R1 q.1.vr
 | k,[],c,q,e,h=>by cases e;exact h
 | k,p::l,c,q,e,h=>by
  rw[s9]at e;cases h2:P9 k (openC c p)with
  | none=>rw[h2]at e;cases e
  | some q1 =>
   rw[h2]at e;simp only at e;have h3:R1 q1.1.vr:=b9n k h2 (b3s _ _ (b3s _ _ h));split at e
   ·exact b9c e h3
   ·cases e;exact h3
theorem a5T{k:Nat}:∀(j n:Nat) {c:Cl} {hs:List Nat} {q},F0 k j n c hs=some q->R1 c.vr->R1 q.1.vr
 | 0,_,_,_,_,e,_=>by cases e
 | j+1,n,c,hs,q,e,h=>by
  rw[F0]at e;split at e
  ·cases h1:o8 k c.ns n with
   | none=>rw[h1]at e;cases e
   | some q1 =>
    rw[h1]at e;simp only at e;split at e
    ·exact a5T j _ e h
    ·cases h2:a4E k (List.range' (pC ⟨q1.1,c.vr,c.ps⟩ n).2.1 ((pC ⟨q1.1,c.vr,c.ps⟩ n).2.2-(pC ⟨q1.1,c.vr,c.ps⟩ n).2.1)) (pC ⟨q1.1,c.vr,c.ps⟩ n).1.ns with
     | none=>rw[h2]at e;cases e
     | some ns =>
      rw[h2]at e;simp only at e;exact a5T j _ e (a1L ⟨q1.1,c.vr,c.ps⟩ n h)
  ·cases e;exact h
theorem b9a{k:Nat}:∀(j i:Nat) {c:Cl} {o:List Nat} {q},a2V k j i c o=some q->R1 c.vr->R1 q.1.vr
 | 0,_,_,_,_,e,_=>by cases e
 | j+1,i,c,o,q,e,h=>by
  rw[a2V]at e;split at e
  ·cases e;exact h
  ·rename_i g hg;split at e
   ·cases e
   ·exact b9a j _ e (a1L c g h)
theorem H3{l:List (Int×Nat)}(hn:(l.map Prod.fst).Nodup){p:Int×Nat}(hp:p∈l):p8 l p.1=some p.2:=by
 induction l with
 | nil=>cases hp
 | cons a l ih =>
  rw[map_cons,nodup_cons]at hn;rw[p8];rcases mem_cons.1 hp with e | e
  ·rw[<-e,if_pos rfl]
  ·rw[if_neg (λe2=>hn.1 (by rw[e2];exact List.mem_map_of_mem e)),ih hn.2 e]
def pw(ns:List Nd):Nat:=j8 (gw ns 0) ns.length
theorem gw0(ns:List Nd)(m:Nat):gw ns 0 m=if nK ns m=0 then(nT ns m).size else 1:=by
 unfold gw;rw[if_neg (Nat.not_lt_zero m)]
theorem D8(ns:List Nd):ns.length<=pw ns:=by
 have:∀N,N<=j8 (gw ns 0) N:=λN=>by
  induction N with
  | zero=>exact Nat.le_refl _
  | succ N ih =>
   rw[j8];have:1<=gw ns 0 N:=by
    rw[gw0];split
    ·exact Tm.size_pos _
    ·exact Nat.le_refl _
   omega
 exact this _
theorem a4U{ns ns':List Nd}(hl:ns'.length=ns.length)(ht:∀m,nT ns' m=nT ns m)(hk:∀m,nK ns' m=nK ns m):pw ns'=pw ns:=a8H hl ht hk
theorem a9s{ns:List Nd}{n k:Nat}:(∀m,nT (setUp ns n k) m=nT ns m)/\∀m,nK (setUp ns n k) m=nK ns m:=by
 rcases Nat.lt_or_ge n ns.length with h | h
 ·exact⟨λm=>S6 h,λm=>T2 h⟩
 ·have:setUp ns n k=ns:=List.set_eq_of_length_le h;rw[this];exact⟨λ_=>rfl,λ_=>rfl⟩
theorem b2d{ns:List Nd}{n:Nat}{x:Int}:(∀m,nT (setUs ns n x) m=nT ns m)/\∀m,nK (setUs ns n x) m=nK ns m:=by
 rcases Nat.lt_or_ge n ns.length with h | h
 ·exact⟨λm=>a1O h,λm=>a1Q h⟩
 ·have:setUs ns n x=ns:=List.set_eq_of_length_le h;rw[this];exact⟨λ_=>rfl,λ_=>rfl⟩
theorem b9N{ns:List Nd}{n k:Nat}:pw (setUp ns n k)=pw ns:=a4U G9 a9s.1 a9s.2
theorem b9R{ns:List Nd}{n:Nat}{x:Int}:pw (setUs ns n x)=pw ns:=a4U R7 b2d.1 b2d.2
theorem X4:∀(k:Nat) {ns:List Nd} {n:Nat} {q},o8 k ns n=some q->pw q.1=pw ns
 | 0,_,_,_,e=>by cases e
 | k+1,ns,n,q,e=>by
  rw[o8]at e;split at e
  ·cases e;rfl
  ·rw[X4 k e,b9N]
theorem a6k(c:Cl)(t:Tm):pw (r7 c t).ns=pw c.ns+t.size:=by
 unfold pw;rw[A3,j8];have h1:j8 (gw (r7 c t).ns 0) c.ns.length=j8 (gw c.ns 0) c.ns.length:=r9 λm hm=>by rw[gw0,gw0];unfold nK nT;rw[a2a c t hm]
 have h2:gw (r7 c t).ns 0 c.ns.length=t.size:=by rw[gw0];unfold nK nT r7;rw[I9];exact if_pos rfl
 rw[h1,h2]
theorem b6c(l:List Tm):∀c:Cl,pw (addAll c l).ns=pw c.ns+(l.map Tm.size).sum:=by
 induction l with
 | nil=>exact λc=>rfl
 | cons t l ih=>intro c;rw[show addAll c (t::l)=addAll (r7 c t) l from rfl,ih,a6k,map_cons,sum_cons];omega
theorem L1(c:Cl)(n:Nat):pw (pC c n).1.ns=pw c.ns:=by
 unfold pC;split
 ·rfl
 ·rename_i hv;split
  ·rename_i hk;have hn:n<c.ns.length:=by
    rcases Nat.lt_or_ge n c.ns.length with h | h
    ·exact h
    ·exact absurd (.inr (by unfold nT;rw[a5s h];rfl)) hv
   rw[L9 _ c hn];obtain⟨l,hl⟩:∃l,l=(nT c.ns n).l:=⟨_,rfl⟩
   rw[<-hl];have kD:=V5 l c;have gQ:n<(addAll c l).ns.length:=by omega
   have h1:=b6c l c;show pw (setFi (addAll c l).ns n c.ns.length)=_;unfold pw at h1 |-;rw[R8];have h2:j8 (gw (setFi (addAll c l).ns n c.ns.length) 0) (addAll c l).ns.length=j8 (upd (gw (addAll c l).ns 0) n 1) (addAll c l).ns.length:=r9 λm hm=>by
    rw[gw0];by_cases e:m=n
    ·subst e;rw[j9,I1 gQ,j9,if_neg (by omega)]
    ·rw[q5 e,gw0,I1 gQ,q5 e,O9 gQ]
   have h3:=M8 (f:=gw (addAll c l).ns 0) (x:=1) gQ;have h4:gw (addAll c l).ns 0 n=(nT c.ns n).size:=by rw[gw0,show nK (addAll c l).ns n=0 by unfold nK at hk |-;rw[E8 l c hn];exact hk,if_pos rfl];unfold nT;rw[E8 l c hn]
   have h6:=Tm.size_sym (t:=nT c.ns n) (λe=>hv (.inl e));rw[<-hl]at h6;rw[h2];omega
  ·rfl
theorem a7J(c:Cl)(a b:Nat):pw (joinTo c a b).1.ns=pw c.ns:=by
 unfold joinTo;split
 ·exact b9N
 ·split
  ·rfl
  ·show pw (setUp _ _ _)=_;rw[b9N];show pw (pC (pC c a).1 b).1.ns=_;rw[L1,L1]
theorem a5e{k:Nat}{c:Cl}{x y:Nat}{q}(e:E7 k c x y=some q):pw q.1.ns=pw c.ns:=by
 unfold E7 at e;cases h1:o8 k c.ns x with
 | none=>rw[h1]at e;cases e
 | some q1 =>
  rw[h1]at e;simp only at e;cases h2:o8 k q1.1 y with
  | none=>rw[h2]at e;cases e
  | some q2 =>
   rw[h2]at e;simp only at e;have h3:pw q2.1=pw c.ns:=by rw[X4 k h2,X4 k h1]
   split at e
   ·cases e;exact h3
   ·split at e
    ·cases e;rw[a7J];exact h3
    ·cases e;rw[a7J];exact h3
theorem b3t:∀(k:Nat) {c:Cl} {q},P9 k c=some q->pw q.1.ns=pw c.ns
 | 0,_,_,e=>by cases e
 | k+1,c,q,e=>by
  rw[P9]at e;cases h1:c.ps.getLast? with
  | none=>rw[h1]at e;cases e;rfl
  | some p =>
   rw[h1]at e;simp only at e;cases h2:E7 k ⟨c.ns,c.vr,c.ps.dropLast⟩ p.1 p.2 with
   | none=>rw[h2]at e;cases e
   | some q1 =>
    rw[h2]at e;simp only at e;split at e
    ·rw[b3t k e,a5e h2]
    ·cases e;rw[a5e h2]
def plc(l:List (Tm×Tm)):Nat:=(l.map λp=>p.1.size+p.2.size).sum
theorem b8Z:∀{k:Nat} {l:List (Tm×Tm)} {c:Cl} {q},s9 k l c=some q->pw q.1.ns<=pw c.ns+plc l
 | k,[],c,q,e=>by cases e;exact Nat.le_refl _
 | k,p::l,c,q,e=>by
  rw[s9]at e;have hp:plc (p::l)=p.1.size+p.2.size+plc l:=by unfold plc;rw[map_cons,sum_cons]
  cases h2:P9 k (openC c p)with
  | none=>rw[h2]at e;cases e
  | some q1 =>
   rw[h2]at e;simp only at e;have h3:pw q1.1.ns=pw c.ns+p.1.size+p.2.size:=by rw[b3t k h2];show pw (r7 (r7 c p.1) p.2).ns=_;rw[a6k,a6k]
   split at e
   ·have:=b8Z e;omega
   ·cases e;omega
theorem b9M{k:Nat}:∀(l:List Nat) {ns ns':List Nd},a4E k l ns=some ns'->pw ns'=pw ns
 | [],ns,ns',e=>by cases e;rfl
 | p::l,ns,ns',e=>by
  rw[a4E]at e;cases h1:o8 k ns p with
  | none=>rw[h1]at e;cases e
  | some q =>
   rw[h1]at e;simp only at e;rw[b9M l e,b9R,X4 k h1]
theorem a5S{k:Nat}:∀(j n:Nat) {c:Cl} {hs:List Nat} {q},F0 k j n c hs=some q->pw q.1.ns=pw c.ns
 | 0,_,_,_,_,e=>by cases e
 | j+1,n,c,hs,q,e=>by
  rw[F0]at e;split at e
  ·cases h1:o8 k c.ns n with
   | none=>rw[h1]at e;cases e
   | some q1 =>
    rw[h1]at e;simp only at e;split at e
    ·rw[a5S j _ e];exact X4 k h1
    ·cases h2:a4E k (List.range' (pC ⟨q1.1,c.vr,c.ps⟩ n).2.1 ((pC ⟨q1.1,c.vr,c.ps⟩ n).2.2-(pC ⟨q1.1,c.vr,c.ps⟩ n).2.1)) (pC ⟨q1.1,c.vr,c.ps⟩ n).1.ns with
     | none=>rw[h2]at e;cases e
     | some ns =>
      rw[h2]at e;simp only at e;rw[a5S j _ e];show pw ns=_;rw[b9M _ h2,L1];exact X4 k h1
  ·cases e;rfl
theorem a0q(ns:List Nd):trmOk ns↔∀m,m<ns.length->(nT ns m).rng/\(nT ns m).ok:=by
 constructor
 ·intro h m hm;obtain⟨x,hx⟩:=Q9 hm;unfold nT;rw[s6 hx];exact h x (mem_of_getElem? hx)
 ·intro h x hx;obtain⟨m,hm⟩:=List.getElem?_of_mem hx;have:=h m (List.getElem?_eq_some_iff.1 hm).1;unfold nT at this;rw[s6 hm]at this;exact this
theorem trmOk.same{ns ns':List Nd}(h:trmOk ns)(hl:ns'.length=ns.length)(ht:∀m,nT ns' m=nT ns m):trmOk ns':=(a0q _).2 λm hm=>by
 rw[ht];exact(a0q _).1 h m (by omega)
theorem trmOk.parts{c:Cl}(h:trmOk c.ns){n:Nat}(hn:n<c.ns.length):trmOk (pC c n).1.ns:=by
 have h0:=(a0q _).1 h n hn;unfold pC;split
 ·exact h
 ·split
  ·refine trmOk.all (λt ht=>⟨((Tm.rng_iff _).1 h0.1).2 t ht,((Tm.ok_iff _).1 h0.2).2 t ht⟩) ?_;refine h.same (by unfold Cl.setFi setFi;simp) λm=>?_;unfold Cl.setFi setFi nT;simp only;rw[getD_eq_getElem?_getD,getElem?_set];split
   ·rename_i e;subst e
    first | rfl | (rw[if_pos hn];rfl)
   ·rw[<-getD_eq_getElem?_getD]
  ·exact h
theorem K2:∀(k:Nat) {ns:List Nd} {n:Nat} {r},o8 k ns n=some r->upOk ns->n<ns.length->upOk r.1/\r.1.length=ns.length/\r.2<ns.length/\(∀m,nT r.1 m=nT ns m)/\∀m,nK r.1 m=nK ns m
 | 0,_,_,_,e,_,_=>by cases e
 | k+1,ns,n,r,e,hu,hn=>by
  rw[o8]at e;split at e
  ·cases e;exact⟨hu,rfl,hn,λ_=>rfl,λ_=>rfl⟩
  ·have h1:nU ns (nU ns n)<ns.length:=hu _ (hu n hn);have hl:(setUp ns n (nU ns (nU ns n))).length=ns.length:=I7 _ _ _;have dX:=hu.set (n:=n) h1;obtain⟨a1,a2,a3,a4,a5⟩:=K2 k e dX (dX n (by rw[hl];exact hn));exact⟨a1,a2.trans hl,by rw[hl]at a3;exact a3,λm=>(a4 m).trans (a9s.1 m),λm=>(a5 m).trans (a9s.2 m)⟩
theorem ClsC.ups{c:Cl}{H r:Nat->Nat}{E}(h:ClsC c H r E):upOk c.ns:=λm hm=>(h.up m hm).1
theorem b2i(l:List Tm):∀c:Cl,(addAll c l).ps=c.ps:=by
 induction l with
 | nil=>exact λc=>rfl
 | cons t l ih=>exact λc=>ih (r7 c t)
theorem a7c(c:Cl)(n:Nat):(pC c n).1.ps=c.ps:=by
 unfold pC;split
 ·rfl
 ·split
  ·rw[b2i];rfl
  ·rfl
def kidOk(ns:List Nd):Prop:=∀n,n<ns.length->nK ns n≠0->∀i,i<(nT ns n).l.length->nK ns n+i<ns.length
theorem kidOk.fi{ns:List Nd}(h:kidOk ns){n:Nat}(hn:n<ns.length)(hl:ns.length<=1000000):(nT ns n).l.length≠0->nK ns n<=1000000:=λh0=>by
 by_cases hk:nK ns n=0
 ·omega
 ·have:=h n hn hk 0 (by omega);omega
theorem S0{c:Cl}{n:Nat}:(pC c n).2.1<=(pC c n).2.2/\(pC c n).2.2-(pC c n).2.1<=(nT c.ns n).l.length:=by
 unfold pC;split
 ·simp
 ·split<;>simp
theorem b5t(l:List Tm):∀c:Cl,∃N,(addAll c l).ns=c.ns++N/\N.length=l.length/\∀x∈N,x.fi=0:=by
 induction l with
 | nil=>exact λc=>⟨[],by simp[addAll],rfl,λx hx=>by cases hx⟩
 | cons t l ih =>
  intro c;obtain⟨N,h,h2,h3⟩:=ih (r7 c t);refine⟨⟨t,0,Y7 c t,0⟩::N,?_,by simp[h2],λx hx=>?_⟩
  ·show(addAll (r7 c t) l).ns=_;rw[h];show(c.ns++[⟨t,0,Y7 c t,0⟩])++N=_;simp
  ·rcases mem_cons.1 hx with rfl | hx
   ·rfl
   ·exact h3 x hx
theorem kidOk.parts{c:Cl}(h:kidOk c.ns){n:Nat}(hn:n<c.ns.length):kidOk (pC c n).1.ns:=by
 unfold pC;split
 ·exact h
 ·split
  ·obtain⟨N,e1,e2,e3⟩:=b5t (nT c.ns n).l (c.setFi n c.ns.length);have dN:(c.setFi n c.ns.length).ns.length=c.ns.length:=by unfold Cl.setFi setFi;simp
   intro m hm hk i hi;have kD:(addAll (c.setFi n c.ns.length) (nT c.ns n).l).ns.length=c.ns.length+(nT c.ns n).l.length:=by rw[G8,dN]
   simp only at hm hk hi |-;rw[kD]at hm |-;rcases Nat.lt_or_ge m c.ns.length with hml | hml
   ·have hg:(addAll (c.setFi n c.ns.length) (nT c.ns n).l).ns.getD m ndD=(setFi c.ns n c.ns.length).getD m ndD:=by rw[e1,getD_eq_getElem?_getD,List.getElem?_append_left (by rw[dN];exact hml),<-getD_eq_getElem?_getD];rfl
    have hs:(setFi c.ns n c.ns.length).getD m ndD=if n=m then{ c.ns.getD n ndD with fi:=c.ns.length }else c.ns.getD m ndD:=by
     unfold setFi;rw[getD_eq_getElem?_getD,getElem?_set];by_cases e:n=m
     ·rw[if_pos e,if_pos e,if_pos hn];rfl
     ·rw[if_neg e,if_neg e,<-getD_eq_getElem?_getD]
    have hi:i<((addAll (c.setFi n c.ns.length) (nT c.ns n).l).ns.getD m ndD).t.l.length:=hi;have hk:((addAll (c.setFi n c.ns.length) (nT c.ns n).l).ns.getD m ndD).fi≠0:=hk;show((addAll (c.setFi n c.ns.length) (nT c.ns n).l).ns.getD m ndD).fi+i<_;rw[hg,hs]at hk hi |-;by_cases e:n=m
    ·subst e;rw[if_pos rfl]at hi |-;have hi:i<(c.ns.getD n ndD).t.l.length:=hi;show c.ns.length+i<_;unfold nT;omega
    ·rw[if_neg e]at hk hi |-;have:=h m hml hk i hi;unfold nK at this;omega
   ·exfalso;apply hk;unfold nK;rw[e1,getD_eq_getElem?_getD,List.getElem?_append_right (by rw[dN];exact hml)];cases hN:N[m-(c.setFi n c.ns.length).ns.length]? with
    | none=>rfl
    | some x=>exact e3 x (mem_of_getElem? hN)
  ·exact h
theorem b9p{c:Cl}(h:kidOk c.ns){n:Nat}(hn:n<c.ns.length)(hl:c.ns.length<=1000000):(pC c n).2.1<=1000000:=by
 unfold pC;split
 ·exact Nat.zero_le _
 ·rename_i h0;split
  ·exact hl
  ·exact h.fi hn hl (by omega)
theorem a0O{c:Cl}(h:kidOk c.ns){n:Nat}(hn:n<c.ns.length):(pC c n).2.2<=(pC c n).1.ns.length:=by
 unfold pC;split
 ·exact Nat.zero_le _
 ·rename_i h0;split
  ·rw[G8];show c.ns.length+_<=(setFi c.ns n c.ns.length).length+_;unfold setFi;rw[length_set];exact Nat.le_refl _
  ·rename_i hk;have:=h n hn hk ((nT c.ns n).l.length-1) (by omega);show nK c.ns n+(nT c.ns n).l.length<=c.ns.length;omega
theorem c3E{m k:Nat}(h:k<m)(f:Nat->Nat×Nat):((List.range m).reverse.map f)[k]?=some (f (m-1-k)):=by
 rw[List.getElem?_map,List.getElem?_reverse (by simpa using h),List.length_range,List.getElem?_range (by omega)];rfl
set_option maxHeartbeats 2000000 in
theorem a3L(c:Cl)(a b:Nat)(ha:a<c.ns.length)(hb:b<c.ns.length)(hT:trmOk c.ns)(hp:pw c.ns<=1000000)(gR:c.ps.length<=50000000)(hfa:(nT c.ns a).l.length≠0->nK c.ns a<=1000000)(qN:(nT (pC c a).1.ns b).l.length≠0->nK (pC c a).1.ns b<=1000000)(kP:b<(pC c a).1.ns.length)(hto1:(pC c a).2.2<=1000000)(yJ:(pC c a).2.1<=1000000)(pY:(pC (pC c a).1 b).2.1<=1000000):r8 Tryz.prog 173 (v7 c) [.bp 350001 0 [],.val (.i (a:Int)),.val (.i (b:Int))] (.tup []) (v7 (a6B c a b)):=by
 have fY:pw (pC c a).1.ns<=1000000:=by rw[L1];exact hp
 have eA:pw (pC (pC c a).1 b).1.ns<=1000000:=by rw[L1];exact fY
 have hT1:=hT.parts ha;have q1:=O2 c a ha hT (Nat.le_trans (D8 _) fY) hfa;have q2:=O2 (pC c a).1 b kP hT1 (Nat.le_trans (D8 _) eA) qN;have wV:=S0 (c:=c) (n:=a);have qO:(pC (pC c a).1 b).1.ps=c.ps:=by rw[a7c,a7c]
 obtain⟨c2,gV⟩:∃c2,c2=(pC (pC c a).1 b).1:=⟨_,rfl⟩
 obtain⟨fr,mJ⟩:∃x,x=(pC c a).2.1:=⟨_,rfl⟩
 obtain⟨to,iW⟩:∃x,x=(pC c a).2.2:=⟨_,rfl⟩
 obtain⟨ot,hot⟩:∃x,x=(pC (pC c a).1 b).2.1:=⟨_,rfl⟩
 obtain⟨m,hm⟩:∃m,m=to-fr:=⟨_,rfl⟩
 rw[<-mJ,<-iW]at q1 wV;rw[<-gV,<-hot]at q2;rw[<-gV]at qO;rw[<-mJ]at yJ;rw[<-iW]at hto1;rw[<-hot]at pY;have hP:a6B c a b=⟨c2.ns,c2.vr,c2.ps++(List.range m).reverse.map λi=>(fr+i,ot+i)⟩:=by unfold a6B;rw[<-gV,<-mJ,<-iW,<-hot,<-hm]
 obtain⟨R,hR⟩:∃R,R=(List.range m).reverse.map λi=>(fr+i,ot+i):=⟨_,rfl⟩
 have pE:R.length=m:=by rw[hR];simp
 rw[hP,<-hR];refine l6 Tryz.func173 Tryz.ntmps173 rfl rfl rfl rfl rfl rfl ?_;intro w U hU;refine qz<|nc zl<|nc zl<|nc (zW (z:=q1) (G:=i8 (by first | rfl | kernel_rfl)))<|nc zl<|nc zE<|nc zE<|nc ze<|nc ze ?_;refine qz<|nc zl<|nc zl<|nc (zW (z:=q2) (G:=i8 (by first | rfl | kernel_rfl)))<|nc zl<|nc zE<|nc zE<|nc ze<|nc ze ?_;refine qz<|nc zl<|nc zl<|nc zB<|nc zB<|nc ze ?_;refine aB (n6 m (λk=>(0,AV.bp 350001 0 [])::(6,.val (.i (fr:Int)))::(8,.val (.i (ot:Int)))::(10,.val (.i ((m:Int)-1-k)))::v7 ⟨c2.ns,c2.vr,c2.ps++R.take k⟩) (a7 ⟨rfl,rfl,rfl,?_,rfl,rfl,rfl,?_,rfl,rfl,?_,trivial⟩) ?_)
 ·show some (AV.val (.i ((to:Int)-fr-1)))=some (AV.val (.i ((m:Int)-1-(0:Nat))));have e:(to:Int)-fr-1=(m:Int)-1-((0:Nat):Int):=by omega
  rw[e]
 ·show some (AV.sl 300002 0 c2.ps.length 2)=some (AV.sl 300002 0 (c2.ps++[]).length 2);rw[append_nil]
 ·show some (AV.mrow 207 2 (c2.ps.map psv))=some (AV.mrow 207 2 ((c2.ps++[]).map psv));rw[append_nil]
 intro k hk;refine aS<|qz<|nc zl<|nc zn ?_;refine aC rfl (λhc=>?_) (λhc=>?_)
 ·have kE:k<m:=by
   have:((m:Int)-1-k)>=0:=by simpa using hc
   omega
  have iN:R[k]?=some (fr+(m-1-k),ot+(m-1-k)):=by rw[hR];exact c3E kE _
  have kB:(c2.ps++R.take k).length<=100000000:=by rw[length_append,List.length_take,qO];omega
  have lK:=a6X ⟨c2.ns,c2.vr,c2.ps++R.take k⟩ (fr+(m-1-k)) (ot+(m-1-k)) kB;have e1:(((fr+(m-1-k):Nat)):Int)=(fr:Int)+((m:Int)-1-k):=by omega
  have e2:(((ot+(m-1-k):Nat)):Int)=(ot:Int)+((m:Int)-1-k):=by omega
  rw[e1,e2]at lK;refine aK<|aS<|aB<|aR<|nc zl<|nc zl<|nc zl<|nc zA<|nc zl<|nc zl<|nc zA<|nc (zW (z:=lK) (G:=i8 (by first | rfl | kernel_rfl))) ?_;refine aR<|nc zl<|nc zB<|nc ze ?_;refine⟨kE,?_⟩;show Wk _ _ _ _ (_::_::_::(10,.val (.i ((m:Int)-1-((k+1:Nat):Int))))::v7 ⟨c2.ns,c2.vr,c2.ps++R.take (k+1)⟩);have hps3:c2.ps++R.take (k+1)=c2.ps++R.take k++[(fr+(m-1-k),ot+(m-1-k))]:=by rw[List.take_add_one,iN,<-append_assoc];rfl
  rw[hps3,show(m:Int)-1-((k+1:Nat):Int)=(m:Int)-1-k-1 by omega];exact a7 ⟨rfl,rfl,rfl,rfl,rfl,rfl,rfl,rfl,rfl,rfl,rfl,trivial⟩
 ·have kE:k=m:=by
   have:¬ ((m:Int)-1-k)>=0:=by simpa using hc
   omega
  subst kE;rw[show R.take k=R by rw[<-pE,List.take_length]];exact aE ⟨.inl rfl,_,Wk.refl _,rfl,rfl,rfl,rfl,rfl,rfl,rfl,rfl,trivial⟩
theorem b8P{U:UX}{pre:List Nat}(hU:∀k v,U.f k=some v->l7 pre k=true){n:Nat}(h:l7 pre n=false):U.f n=none:=by
 cases e:U.f n with
 | none=>rfl
 | some v=>rw[hU n v e]at h;cases h
theorem a6A(U:UX){n:Nat}(h:n<400000):U.f n=none:=by
 cases e:U.f n with
 | none=>rfl
 | some v=>have:=(U.hf n v e).1;omega
structure Fit(c:Cl):Prop where
 up:upOk c.ns
 kid:kidOk c.ns
 trm:trmOk c.ns
 big:pw c.ns<=1000000
theorem C0{c:Cl}{n:Nat}:c.ns.length<=(pC c n).1.ns.length:=by
 unfold pC;split
 ·exact Nat.le_refl _
 ·split
  ·rw[G8];show _<=(setFi c.ns n c.ns.length).length+_;unfold setFi;rw[length_set];omega
  ·exact Nat.le_refl _
set_option maxHeartbeats 8000000 in
theorem b4Y(k:Nat)(c:Cl)(x y:Nat)(q:Cl×Bool)(hj:E7 k c x y=some q)(hx:x<c.ns.length)(hy:y<c.ns.length)(hF:Fit c)(gR:c.ps.length<=50000000):r8 Tryz.prog 152 (v7 c) [.bp 350001 0 [],.val (.i (x:Int)),.val (.i (y:Int))] (.val (.b q.2)) (v7 q.1):=by
 have hl:c.ns.length<=1000000:=Nat.le_trans (D8 _) hF.big;unfold E7 at hj;cases h1:o8 k c.ns x with
 | none=>rw[h1]at hj;cases hj
 | some q1 =>
 rw[h1]at hj;simp only at hj;cases h2:o8 k q1.1 y with
 | none=>rw[h2]at hj;cases hj
 | some q2 =>
 rw[h2]at hj;simp only at hj;obtain⟨u1,l1,x1,t1,k1⟩:=K2 k h1 hF.up hx;obtain⟨u2,l2,y2,t2,k2⟩:=K2 k h2 u1 (by rw[l1];exact hy);have dM:=M5 c.vr c.ps k c.ns x q1 h1 hF.up hx hl;have bY:=M5 c.vr c.ps k q1.1 y q2 h2 u1 (by rw[l1];exact hy) (by omega);obtain⟨c3,rE⟩:∃c3:Cl,c3=⟨q2.1,c.vr,c.ps⟩:=⟨_,rfl⟩
 have fR:c3.ns=q2.1:=by rw[rE]
 have iD:c3.ns.length=c.ns.length:=by rw[fR];omega
 have ht3:∀m,nT c3.ns m=nT c.ns m:=λm=>by rw[fR,t2,t1]
 have rD:∀m,nK c3.ns m=nK c.ns m:=λm=>by rw[fR,k2,k1]
 have hT3:trmOk c3.ns:=hF.trm.same iD ht3;have hlm3:(c3.ns.map Nd.cv).length=c3.ns.length:=length_map ..;rw[<-rE,<-fR]at hj;refine l6 Tryz.func152 Tryz.ntmps152 rfl rfl rfl rfl rfl rfl ?_;intro w U hU;refine qz<|nc ze ?_;refine AWp.wk (y6 300001 400001 rfl rfl (b8P hU (by kernel_rfl)) (by kernel_rfl) (by kernel_rfl) (by kernel_rfl)) ?_;refine qz<|nc zl<|nc zl<|nc (zW (z:=dM) (G:=i8 (by first | rfl | kernel_rfl)))<|nc zl<|nc zl<|nc (zW (z:=bY) (G:=i8 (by first | rfl | kernel_rfl)))<|nc ze<|nc ze ?_;refine AWp.wk ((a7 (s':=(0,AV.bp 350001 0 [])::(1,.val (.i (q1.2:Int)))::(2,.val (.i (q2.2:Int)))::Q3 ⟨q2.1,c.vr,c.ps⟩) ⟨rfl,rfl,rfl,rfl,rfl,rfl,rfl,rfl,rfl,rfl,trivial⟩).trans (y6 400001 300001 rfl rfl (a6A U (by decide)) (by kernel_rfl) (by kernel_rfl) (by kernel_rfl))) ?_;show AWp _ _ _ _ _ _ ((0,AV.bp 350001 0 [])::(1,.val (.i (q1.2:Int)))::(2,.val (.i (q2.2:Int)))::v7 ⟨q2.1,c.vr,c.ps⟩);rw[<-rE];refine aS<|qz<|nc zl<|nc zl<|nc zD ?_;by_cases he:q1.2=q2.2
 case pos =>
  rw[if_pos he]at hj;cases hj;refine aC rfl (λhc=>?_) (λhc=>?_)
  case refine_2=>rw[he]at hc;simp at hc
  refine qz<|nc ze ?_;exact aT ⟨.inr rfl,_,Wk.refl _,rfl,rfl,rfl,rfl,rfl,rfl,rfl,rfl,trivial⟩
 rw[if_neg he]at hj;refine aC rfl (λhc=>?_) (λhc=>aK ?_)
 ·have:(q1.2:Int)=q2.2:=by simpa using hc
  omega
 refine AWp.wk (a7 (s':=(0,AV.bp 350001 0 [])::(1,.val (.i (q1.2:Int)))::(2,.val (.i (q2.2:Int)))::v7 c3) ⟨rfl,rfl,rfl,rfl,rfl,rfl,rfl,rfl,rfl,rfl,trivial⟩) ?_;have ha3:q1.2<c3.ns.length:=by omega
 have dY:q2.2<c3.ns.length:=by omega
 obtain⟨na,hna⟩:=Q9 ha3;obtain⟨nb,hnb⟩:=Q9 dY;have wW:=Nd.map_at hna;have wX:=Nd.map_at hnb;have mW:nT c3.ns q1.2=na.t:=by unfold nT;rw[s6 hna]
 have yX:nT c3.ns q2.2=nb.t:=by unfold nT;rw[s6 hnb]
 obtain⟨a,ha⟩:∃a,a=if nb.t.f<na.t.f then q2.2 else q1.2:=⟨_,rfl⟩
 obtain⟨b,hb⟩:∃b,b=if nb.t.f<na.t.f then q1.2 else q2.2:=⟨_,rfl⟩
 have hj:joinTo c3 a b=q:=by
  rw[mW,yX]at hj;split at hj
  ·rename_i h;rw[if_pos h]at ha hb;rw[ha,hb];exact Option.some.inj hj
  ·rename_i h;rw[if_neg h]at ha hb;rw[ha,hb];exact Option.some.inj hj
 have fJ:a<c3.ns.length:=by rw[ha];split<;>assumption
 have jE:b<c3.ns.length:=by rw[hb];split<;>assumption
 refine b3H ((0,AV.bp 350001 0 [])::(1,.val (.i (a:Int)))::(2,.val (.i (b:Int)))::v7 c3) (aS<|aD (by kernel_rfl) (by kernel_rfl) ?_) ?_
 ·skip
  refine nc zl<|nc z5<|nc zg<|nc z7<|nc zl<|nc (zO (k:=q1.2))<|nc z4<|nc z4<|nc (zP (G:=wW))<|nc zl<|nc z5<|nc zg<|nc z7<|nc zl<|nc (zO (k:=q2.2))<|nc z4<|nc z4<|nc (zP (G:=wX))<|nc zN ?_;refine⟨by kernel_rfl,?_⟩;refine aC rfl (λhc=>?_) (λhc=>aK ?_)
  ·have hg:nb.t.f<na.t.f:=by simpa using hc
   rw[if_pos hg]at ha hb;refine aR<|nc zl<|nc zl<|nc ze<|nc ze ?_;rw[ha,hb];exact a7 ⟨rfl,rfl,rfl,rfl,rfl,rfl,rfl,rfl,rfl,rfl,trivial⟩
  ·have hg:¬ nb.t.f<na.t.f:=by simpa using hc
   rw[if_neg hg]at ha hb;rw[ha,hb];exact a7 ⟨rfl,rfl,rfl,rfl,rfl,rfl,rfl,rfl,rfl,rfl,trivial⟩
 clear hna hnb wW wX mW yX ha hb he dM bY;obtain⟨xa,yY⟩:=Q9 fJ;obtain⟨xb,hxb⟩:=Q9 jE;have hxa':=Nd.map_at yY;have hxb':=Nd.map_at hxb;have mW:nT c3.ns a=xa.t:=by unfold nT;rw[s6 yY]
 have yX:nT c3.ns b=xb.t:=by unfold nT;rw[s6 hxb]
 unfold joinTo at hj;rw[mW,yX]at hj;refine aS<|aD (by kernel_rfl) (by kernel_rfl) ?_;refine nc zl<|nc z5<|nc zg<|nc z7<|nc zl<|nc (zO (k:=a))<|nc z4<|nc (zP (G:=hxa'))<|nc zl<|nc z5<|nc zg<|nc z7<|nc zl<|nc (zO (k:=b))<|nc z4<|nc (zP (G:=hxb'))<|ne zw<|ne zw<|nc zx<|nc zx ?_;refine⟨by kernel_rfl,?_⟩;refine AWp.wk (a7 (s':=(0,AV.bp 350001 0 [])::(1,.val (.i (a:Int)))::(2,.val (.i (b:Int)))::(7,.bp 7 0 [])::(100007,.bx xa.t.cw)::(8,.bp 8 0 [])::(100008,.bx xb.t.cw)::v7 c3) ⟨rfl,rfl,rfl,rfl,rfl,rfl,rfl,rfl,rfl,rfl,rfl,rfl,rfl,rfl,trivial⟩) ?_;have pO:=a0R w xa.t;by_cases hv:xa.t.f<0
 case pos =>
  rw[show decide (xa.t.f<0)=true by simpa using hv]at pO;rw[if_pos hv]at hj;subst hj;obtain⟨c4,rF⟩:∃c4,c4=c3:=⟨_,rfl⟩
  rw[<-rF]at yY hlm3 |-;have wY:=yY;have tF:=Nd.map_at wY;have mX:a<c4.ns.length:=by rw[rF];exact fJ
  refine aS<|qz<|nc zj<|nc (zk (z:=pO))<|nc zZ ?_;refine aC rfl (λhc=>by cases hc) (λhc=>aK ?_);refine qz<|nc zl<|nc z5<|nc zg<|nc z7<|nc zl<|nc zl<|nc (zO (k:=a))<|nc z4<|nc (zR (F:=tF)) ?_;refine AWp.wk (a7 (s':=v7 (c4.setUp a b)) ⟨rfl,?_,rfl,rfl,?_,rfl,rfl,trivial⟩) ?_
  ·show _=some (AV.sl 300001 0 (setUp c4.ns a b).length 5);rw[I7];rfl
  ·show _=some (AV.mrow 194 5 ((setUp c4.ns a b).map Nd.cv));rw[R3 wY];rfl
  refine qz<|nc ze ?_;exact aT ⟨.inr rfl,_,Wk.refl _,rfl,rfl,rfl,rfl,rfl,rfl,rfl,rfl,trivial⟩
 rw[show decide (xa.t.f<0)=false by simpa using hv]at pO;rw[if_neg hv]at hj;refine aS<|qz<|nc zj<|nc (zk (z:=pO))<|nc zZ ?_;refine aC rfl (λhc=>?_) (λhc=>by cases hc);by_cases qP:xa.t.f=xb.t.f
 case neg =>
  have g:decide (xa.t.f≠xb.t.f)=true:=by simpa using qP
  rw[if_pos (.inl qP)]at hj;subst hj;refine aS<|qz<|nc zg<|nc zh<|nc zg<|nc zh<|nc z8<|nc zl<|nc zq<|nc zq<|nc zq<|nc zq<|nc zq<|nc zq<|nc zq<|nc zp ?_;refine aC rfl (λhc=>?_) (λhc=>by cases hc);refine qz<|nc ze ?_;exact aT ⟨.inr rfl,_,Wk.refl _,rfl,rfl,rfl,rfl,rfl,rfl,rfl,rfl,trivial⟩
 have g:decide (xa.t.f≠xb.t.f)=false:=by simpa using qP
 refine aS<|qz<|nc zg<|nc zh<|nc zg<|nc zh<|nc z8<|nc zl<|nc (zg (r:=gb))<|nc (zh (r:=gb))<|nc (zo (r:=gb))<|nc (zg (r:=gb))<|nc (zh (r:=gb))<|nc (zo (r:=gb))<|nc (z8 (r:=gb))<|nc zr ?_;by_cases cZ:xa.t.l.length=xb.t.l.length
 case neg =>
  rw[if_pos (.inr cZ)]at hj;subst hj;refine aC rfl (λhc=>?_) (λhc=>?_)
  case refine_2 =>
   have hc:=of_decide_eq_false hc;simp only[length_map,ne_eq,Decidable.not_not]at hc;omega
  refine qz<|nc ze ?_;exact aT ⟨.inr rfl,_,Wk.refl _,rfl,rfl,rfl,rfl,rfl,rfl,rfl,rfl,trivial⟩
 rw[if_neg (by omega)]at hj;subst hj;refine aC rfl (λhc=>?_) (λhc=>aK ?_)
 ·exfalso;rw[length_map,length_map,cZ]at hc;simp at hc
 refine AWp.wk (a7 (s':=(0,AV.bp 350001 0 [])::(1,.val (.i (a:Int)))::(2,.val (.i (b:Int)))::v7 c3) ⟨rfl,rfl,rfl,rfl,rfl,rfl,rfl,rfl,rfl,rfl,trivial⟩) ?_;have hp3:pw c3.ns<=1000000:=by rw[a4U iD ht3 rD];exact hF.big
 have jG:Fit c3:=⟨by rw[fR];exact u2,λn hn hk i hi=>by rw[iD]at hn |-;rw[rD]at hk |-;rw[ht3]at hi;exact hF.kid n hn hk i hi,hT3,hp3⟩
 have g1:=jG.kid.parts fJ;have eT:b<(pC c3 a).1.ns.length:=Nat.lt_of_lt_of_le jE C0;have mX:(pC c3 a).1.ns.length<=1000000:=Nat.le_trans (D8 _) (by rw[L1];exact hp3);have mK:c3.ps=c.ps:=by rw[rE]
 have wV:=a3L c3 a b fJ jE hT3 hp3 (by rw[mK];exact gR) (jG.kid.fi fJ (by omega)) (kidOk.fi g1 eT mX) eT (Nat.le_trans (a0O jG.kid fJ) mX) (b9p jG.kid fJ (by omega)) (b9p g1 eT mX);refine aR<|nc zl<|nc zl<|nc zl<|nc (zW (z:=wV) (G:=i8 (by first | rfl | kernel_rfl))) ?_;obtain⟨c4,rF⟩:∃c4,c4=a6B c3 a b:=⟨_,rfl⟩
 rw[<-rF];have hlen4:c3.ns.length<=c4.ns.length:=by rw[rF];exact Nat.le_trans C0 C0
 obtain⟨ya,wY⟩:=Q9 (ns:=c4.ns) (n:=a) (by omega);have tF:=Nd.map_at wY;have hlm4:(c4.ns.map Nd.cv).length=c4.ns.length:=length_map ..;refine qz<|nc zl<|nc z5<|nc zg<|nc z7<|nc zl<|nc zl<|nc (zO (k:=a))<|nc z4<|nc (zR (F:=tF)) ?_;refine AWp.wk (a7 (s':=v7 (c4.setUp a b)) ⟨rfl,?_,rfl,rfl,?_,rfl,rfl,trivial⟩) ?_
 ·show _=some (AV.sl 300001 0 (setUp c4.ns a b).length 5);rw[I7];rfl
 ·show _=some (AV.mrow 194 5 ((setUp c4.ns a b).map Nd.cv));rw[R3 wY];rfl
 refine qz<|nc ze ?_;exact aT ⟨.inr rfl,_,Wk.refl _,rfl,rfl,rfl,rfl,rfl,rfl,rfl,rfl,trivial⟩
theorem a3J(w:World) :
  Calls Tryz.prog 121 #[] w λe w'=>e=.returned (.pointer (some ⟨w.heap.size+1,0,none⟩))/\w'=(w.alloc (.map #[] 0)).alloc (.cells #[.slice none 0 0,.map (some w.heap.size),.slice none 0 0] 188):=by
 go_enter Tryz.func121,Tryz.ntmps121
 go_wp2
 rw[show(Instr.makeMap 123 none).run Tryz.prog w=.ok (.map (some w.heap.size)) (w.alloc (.map #[] 0)) by simp[Instr.makeMap,run_newObj_alloc]];simp only[Result.andThen];rw[Oper.upon_value]
 go_wp2
 go_ret
 have kC:(w.alloc (.map #[] 0)).heap.size=w.heap.size+1:=by simp
 exact⟨by rw[<-kC];rfl,rfl⟩
theorem W8{k:Nat}{av:AV}(h:look (v7 ⟨[],[],[]⟩) k=some av):(k=450001/\av=.obj)\/(k=35500100/\av=.sl 300001 0 0 5)\/(k=35500101/\av=.mref 300003)\/(k=35500102/\av=.sl 300002 0 0 2)\/(k=300001/\av=.mrow 194 5 [])\/(k=300003/\av=.mp [])\/(k=300002/\av=.mrow 207 2 []):=by
 rw[k9]at h;split at h
 ·rename_i e;cases h;exact .inl ⟨e.symm,rfl⟩
 rw[k9]at h;split at h
 ·rename_i e;cases h;exact .inr (.inl ⟨e.symm,rfl⟩)
 rw[k9]at h;split at h
 ·rename_i e;cases h;exact .inr (.inr (.inl ⟨e.symm,rfl⟩))
 rw[k9]at h;split at h
 ·rename_i e;cases h;exact .inr (.inr (.inr (.inl ⟨e.symm,rfl⟩)))
 rw[k9]at h;split at h
 ·rename_i e;cases h;exact .inr (.inr (.inr (.inr (.inl ⟨e.symm,rfl⟩))))
 rw[k9]at h;split at h
 ·rename_i e;cases h;exact .inr (.inr (.inr (.inr (.inr (.inl ⟨e.symm,rfl⟩)))))
 rw[k9]at h;split at h
 ·rename_i e;cases h;exact .inr (.inr (.inr (.inr (.inr (.inr ⟨e.symm,rfl⟩)))))
 ·cases h
theorem b8y:r8 Tryz.prog 121 [] [] (.bp 350001 0 []) (v7 ⟨[],[],[]⟩):=by
 refine⟨x0 Tryz.func121 rfl rfl,λU w hv a0 vs hU gE hargs=>?_⟩;have cR:vs=[]:=hargs;subst cR;refine(a3J w).mono ?_;rintro e w' ⟨rfl,eQ⟩;have hB:Below w.heap.size w w':=by rw[eQ];exact((Below.refl _ _).alloc (Nat.le_refl _) _).alloc (by simp) _
 have dG:(w.alloc (.map #[] 0)).heap.size=w.heap.size+1:=by simp
 have bT:w'.heap[w.heap.size+1]?=some (.cells #[.slice none 0 0,.map (some w.heap.size),.slice none 0 0] 188 (0,0)):=by rw[eQ,<-dG];exact x8 _ _
 have hmap:w'.heap[w.heap.size]?=some (.map #[] 0):=by rw[eQ,Below.heap_alloc _ _ _ (by rw[dG];omega)];exact x8 _ _
 have kA:w.heap.size+1<w'.heap.size:=by
  rcases Nat.lt_or_ge (w.heap.size+1) w'.heap.size with h | h
  ·exact h
  ·rw[Array.getElem?_eq_none h]at bT;cases bT
 have kW:∀i,i<3->w'.cell? ⟨w.heap.size+1,i,none⟩=(#[.slice none 0 0,.map (some w.heap.size),.slice none 0 0]:Array Value)[i]?:=λi hi=>by simp only[World.cell?,bT];simp
 obtain⟨kG,gJ⟩:∃kG:Nat->Value,kG=λk=>if k=450001 then .pointer (some ⟨w.heap.size+1,0,none⟩)else if k=300003 then .map (some w.heap.size)else .slice none 0 0:=⟨_,rfl⟩
 have gA:kG 450001=.pointer (some ⟨w.heap.size+1,0,none⟩):=by rw[gJ];simp
 have mU:kG 300003=.map (some w.heap.size):=by rw[gJ];simp
 have yZ:kG 300001=.slice none 0 0:=by rw[gJ];simp
 have aG:kG 300002=.slice none 0 0:=by rw[gJ];simp
 refine⟨_,λ_ _=>False,kG,⟨#[],[]⟩,rfl,⟨⟨hB.os,hB.tape,hB.output,hB.size,λk hk _=>hB.block k hk⟩,rfl,rfl,λd av g1 g2=>?_,λm o av g1 g2 g3 g4=>?_,λm o o' av av' g1 g2 g3 g4 g5=>?_,λk av g1 g2=>?_,λk av g g1 g2 g3 g4=>?_,λk k' av av' g g1 g2 g3 g4 g5 g6 g7 g8 g9=>?_,λk v hk=>?_,λb o hd=>hd.elim⟩,?_⟩
 ·rcases W8 g1 with⟨e,_⟩ | ⟨e,_⟩ | ⟨e,_⟩ | ⟨e,_⟩ | ⟨e,_⟩ | ⟨e,_⟩ | ⟨e,_⟩<;>omega
 ·have hm:m=350001:=by
   unfold BN at g4;rcases W8 g3 with⟨e,_⟩ | ⟨e,e2⟩ | ⟨e,e2⟩ | ⟨e,e2⟩ | ⟨e,e2⟩ | ⟨e,e2⟩ | ⟨e,e2⟩
   ·omega
   all_goals cases e2
  subst hm;have fG:q6 (kG (100000+350001))=w.heap.size+1:=by rw[show 100000+350001=450001 from rfl,gA];rfl
  rw[fG];rcases W8 g1 with⟨e,_⟩ | ⟨e,rfl⟩ | ⟨e,rfl⟩ | ⟨e,rfl⟩ | ⟨e,_⟩ | ⟨e,_⟩ | ⟨e,_⟩
  ·unfold i7 at e;omega
  ·have ho:o=0:=by unfold i7 at e;omega
   subst ho;refine⟨.slice none 0 0,⟨⟨by decide,by decide⟩,?_⟩,rfl,λi hi=>?_⟩
   ·show SlV (kG 300001) 0 0 5 _;rw[yZ];exact J4 rfl (Nat.le_refl _) (.inl rfl)
   ·have hi:i<1:=hi;obtain rfl:i=0:=by omega
    rw[kW _ (by omega)];rfl
  ·have ho:o=1:=by unfold i7 at e;omega
   subst ho;refine⟨.map (some w.heap.size),⟨⟨by decide,by decide⟩,mU.symm,rfl⟩,rfl,λi hi=>?_⟩;have hi:i<1:=hi;obtain rfl:i=0:=by omega
   rw[kW _ (by omega)];rfl
  ·have ho:o=2:=by unfold i7 at e;omega
   subst ho;refine⟨.slice none 0 0,⟨⟨by decide,by decide⟩,?_⟩,rfl,λi hi=>?_⟩
   ·show SlV (kG 300002) 0 0 2 _;rw[aG];exact J4 rfl (Nat.le_refl _) (.inl rfl)
   ·have hi:i<1:=hi;obtain rfl:i=0:=by omega
    rw[kW _ (by omega)];rfl
  ·unfold i7 at e;omega
  ·unfold i7 at e;omega
  ·unfold i7 at e;omega
 ·rcases W8 g1 with⟨e,_⟩ | ⟨e,rfl⟩ | ⟨e,rfl⟩ | ⟨e,rfl⟩ | ⟨e,_⟩ | ⟨e,_⟩ | ⟨e,_⟩
  ·unfold i7 at e;omega
  ·show o+1<=o';omega
  ·show o+1<=o';omega
  ·show o+1<=o';omega
  ·unfold i7 at e;omega
  ·unfold i7 at e;omega
  ·unfold i7 at e;omega
 ·unfold n4 at g2;rcases W8 g1 with⟨rfl,rfl⟩ | ⟨e,_⟩ | ⟨e,_⟩ | ⟨e,_⟩ | ⟨rfl,rfl⟩ | ⟨rfl,rfl⟩ | ⟨rfl,rfl⟩
  ·exact⟨w.heap.size+1,_,_,gA,bT⟩
  ·omega
  ·omega
  ·omega
  ·rw[yZ];exact⟨[],World.ownsRow_nil _ _ _ _,by decide,(λc hc=>by cases hc),rfl⟩
  ·exact⟨w.heap.size,#[],0,mU,hmap,rfl,(λe he=>by simp at he),by simp⟩
  ·rw[aG];exact⟨[],World.ownsRow_nil _ _ _ _,by decide,(λc hc=>by cases hc),rfl⟩
 ·unfold n4 at g2;rcases W8 g1 with⟨rfl,rfl⟩ | ⟨e,_⟩ | ⟨e,_⟩ | ⟨e,_⟩ | ⟨rfl,rfl⟩ | ⟨rfl,rfl⟩ | ⟨rfl,rfl⟩
  ·rw[gA]at g4;have g4:some (w.heap.size+1)=some g:=g4;cases g4;exact⟨.inl (by omega),kA,λo _ h=>h⟩
  ·omega
  ·omega
  ·omega
  ·rw[yZ]at g4;cases g4
  ·rw[mU]at g4;have g4:some w.heap.size=some g:=g4;cases g4;exact⟨.inl (Nat.le_refl _),by omega,λo _ h=>h⟩
  ·rw[aG]at g4;cases g4
 ·unfold n4 at g3 g4;have hk:∀{k av},look (v7 ⟨[],[],[]⟩) k=some av->100000<=k/\k<500000->(k=450001/\hb (kG k)=some (w.heap.size+1))\/(k=300003/\hb (kG k)=some w.heap.size)\/hb (kG k)=none:=fun{k av} f1 f2=>by
   rcases W8 f1 with⟨rfl,rfl⟩ | ⟨e,_⟩ | ⟨e,_⟩ | ⟨e,_⟩ | ⟨rfl,rfl⟩ | ⟨rfl,rfl⟩ | ⟨rfl,rfl⟩
   ·exact .inl ⟨rfl,by rw[gA];rfl⟩
   ·omega
   ·omega
   ·omega
   ·right;right;rw[yZ];rfl
   ·right;left;exact⟨rfl,by rw[mU];rfl⟩
   ·right;right;rw[aG];rfl
  rcases hk g1 g3 with⟨e1,e2⟩ | ⟨e1,e2⟩ | e1
  ·rcases hk g2 g4 with⟨e3,e4⟩ | ⟨e3,e4⟩ | e3
   ·omega
   ·rw[e2]at g8;rw[e4]at g9;cases g8;injection g9 with g9;omega
   ·rw[e3]at g9;cases g9
  ·rcases hk g2 g4 with⟨e3,e4⟩ | ⟨e3,e4⟩ | e3
   ·rw[e2]at g8;rw[e4]at g9;cases g8;injection g9 with g9;omega
   ·omega
   ·rw[e3]at g9;cases g9
  ·rw[e1]at g8;cases g8
 ·have:=hU k v hk;cases this
 ·refine⟨.inr ⟨by decide,by decide⟩,?_⟩;show _=Value.pointer (some ⟨q6 (kG (100000+350001)),0,none⟩);rw[show 100000+350001=450001 from rfl,gA];rfl
end Go.Proofs.YteegmcfobgpemaaGreat
