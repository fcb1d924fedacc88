/-
 UnFns9 AbMapR AbEnds UnFns10 SmFns SmMath SmSym SmSym2 SmSym3 SmStab SmNorm UnPairs UnBig UnLaws UnMid SbRef7 SbRef7N UnRefW UnMidW SbVnt2 Un8A Un8B SbNormEq TmPlD KbMath KbMath2 KbMath3 OrMath KbSc
-/
import Derived.Test.YteegmcfobgpemaaGreatMg7
import Derived.Test.YteegmcfobgpemaaGreatMg6
import Derived.Test.YteegmcfobgpemaaGreatMg4
import Derived.Maps.RangeRun
import Derived.Test.YteegmcfobgpemaaGreatMg5
import Derived.Test.YteegmcfobgpemaaGreatMg2
namespace Go.Proofs.YteegmcfobgpemaaGreat
open List (any_eq_true cons_append countP_cons countP_map flatMap_cons getD_eq_getElem?_getD getElem?_eq_getElem getElem?_eq_none getElem?_map length_append length_cons length_filter_le length_map length_nil map_append map_cons map_map map_singleton mem_append mem_append_left mem_append_right mem_cons mem_cons_of_mem mem_cons_self mem_flatMap mem_map mem_of_getElem? mem_reverse mem_singleton nodup_cons sum_cons zip_cons_cons)
open Go.RowKit
set_option linter.unusedVariables false
set_option linter.unusedSimpArgs false
set_option maxRecDepth 100000
def Y1(k:Nat)(t:Cl×List Tm)(n:Nat):Option (Cl×List Tm):=match a0j k t.2 (List.range' (pC t.1 n).2.1 ((pC t.1 n).2.2-(pC t.1 n).2.1)) (pC t.1 n).1.ns []with
 | none=>none
 | some q=>some (⟨q.1,(pC t.1 n).1.vr,(pC t.1 n).1.ps⟩,t.2.set n ⟨(nT q.1 n).f,q.2⟩)
theorem B3(k n:Nat)(o:List Nat)(c:Cl)(out:List Tm):C2 k (n::o) c out=(Y1 k (c,out) n).bind λt=>C2 k o t.1 t.2:=by
 rw[C2,Y1];simp only;cases a0j k out (List.range' (pC c n).2.1 ((pC c n).2.2-(pC c n).2.1)) (pC c n).1.ns []<;>rfl
theorem a3o(k:Nat):∀(o:List Nat) (n:Nat) (c:Cl) (out:List Tm),C2 k (o++[n]) c out=(C2 k o c out).bind λt=>Y1 k t n
 | [],n,c,out=>by
  rw[List.nil_append,B3];show _=Y1 k (c,out) n;cases Y1 k (c,out) n<;>rfl
 | m::o,n,c,out=>by
  rw[cons_append,B3,B3];cases Y1 k (c,out) m with
  | none=>rfl
  | some t=>exact a3o k o n t.1 t.2
theorem Z1{k:Nat}:∀{o:List Nat} {c:Cl} {out:List Tm} {q},C2 k o c out=some q->∀j,∃t,C2 k (o.take j) c out=some t
 | [],c,out,q,h,j=>⟨(c,out),by rw[List.take_nil];rfl⟩
 | n::o,c,out,q,h,0=>⟨(c,out),rfl⟩
 | n::o,c,out,q,h,j+1=>by
  rw[B3]at h;rw[List.take_succ_cons,B3];cases e:Y1 k (c,out) n with
  | none=>rw[e]at h;cases h
  | some t=>rw[e]at h;exact Z1 (o:=o) h j
structure TI(N:Nat)(t:Cl×List Tm):Prop where
 fit:FitU t.1
 out:t.2.length=N
 len:N<=t.1.ns.length
theorem a1i{k:Nat}{vr ps}{out:List Tm}:∀(l:List Nat) {ns:List Nd} {ts:List Tm} {q},a0j k out l ns ts=some q->FitU ⟨ns,vr,ps⟩->(∀p∈l,p<ns.length)->FitU ⟨q.1,vr,ps⟩/\q.1.length=ns.length/\q.2.length=ts.length+l.length
 | [],ns,ts,q,h,hF,_=>by
  have h:some (ns,ts)=some q:=h;cases h;exact⟨hF,rfl,rfl⟩
 | p::l,ns,ts,q,h,hF,hl=>by
  rw[a0j]at h;cases hd:o8 k ns p with
  | none=>rw[hd]at h;cases h
  | some r =>
   rw[hd]at h;obtain⟨h1,h2,h3⟩:=FitU.head hF (hl p (by simp)) hd;obtain⟨g1,g2,g3⟩:=a1i l h h1 λp' lH=>by rw[h2];exact hl p' (mem_cons_of_mem _ lH)
   exact⟨g1,by rw[g2,h2],by rw[g3];simp;omega⟩
theorem TI.step{k N:Nat}{t t':Cl×List Tm}{n:Nat}(h:TI N t)(hn:n<t.1.ns.length)(hs:Y1 k t n=some t'):TI N t'/\t.1.ns.length<=t'.1.ns.length:=by
 unfold Y1 at hs;have jX:=h.fit.parts hn;have xB:(pC t.1 n).2.2<=(pC t.1 n).1.ns.length:=a0O h.fit.kid hn;have mJ:(pC t.1 n).2.1<=(pC t.1 n).2.2:=S0.1;have rN:t.1.ns.length<=(pC t.1 n).1.ns.length:=C0;split at hs
 ·cases hs
 ·rename_i q hq;cases hs;obtain⟨g1,g2,g3⟩:=a1i (vr:=(pC t.1 n).1.vr) (ps:=(pC t.1 n).1.ps) _ hq jX λp hp=>by rw[List.mem_range']at hp;obtain⟨i,hi,rfl⟩:=hp;omega
  refine⟨⟨g1,by simp only[List.length_set];exact h.out,?_⟩,?_⟩
  ·show N<=q.1.length;rw[g2];exact Nat.le_trans h.len rN
  ·show _<=q.1.length;rw[g2];exact rN
theorem TI.all{k N:Nat}:∀{o:List Nat} {t q:Cl×List Tm},TI N t->(∀n∈o,n<N)->C2 k o t.1 t.2=some q->TI N q/\t.1.ns.length<=q.1.ns.length
 | [],t,q,h,_,hq=>by
  have hq:some (t.1,t.2)=some q:=hq;cases hq;exact⟨h,Nat.le_refl _⟩
 | n::o,t,q,h,ho,hq=>by
  rw[B3]at hq;cases e:Y1 k (t.1,t.2) n with
  | none=>rw[e]at hq;cases hq
  | some t' =>
   rw[e]at hq;obtain⟨h1,h2⟩:=h.step (t':=t') (n:=n) (Nat.lt_of_lt_of_le (ho n (by simp)) h.len) e;obtain⟨h3,h4⟩:=TI.all h1 (λm hm=>ho m (mem_cons_of_mem _ hm)) hq;exact⟨h3,Nat.le_trans h2 h4⟩
noncomputable abbrev obT(N:Nat)(t:Cl×List Tm):AS:=(450002,AV.obj)::(35500200,.bp 350001 0 [])::(450003,.obj)::(35500300,.sl 300005 0 N 2)::(300005,.mrow 41 2 (t.2.map Tm.cv))::v7 t.1
theorem b7h{out:List Tm}{n:Nat}{x:Tm}:(out.set n x).map Tm.cv=(out.map Tm.cv).set n x.cw:=by rw[List.map_set,Tm.cv_eq]
noncomputable abbrev obF(N:Nat)(c:Cl)(out:List Tm):AS:=(450002,AV.obj)::(35500200,.bp 350001 0 [])::(450003,.obj)::(35500300,.sl 300005 0 N 2)::(300005,.mrow 41 2 (out.map Tm.cv))::Q3 c
set_option maxHeartbeats 8000000 in
theorem b2O(fu:Nat)(c0:Cl)(od:List Nat)(q:Cl×List Tm)(hq:C2 fu od.reverse c0 (List.replicate c0.ns.length tm0)=some q)(hF:FitU c0)(mY:q.1.ns.length=c0.ns.length)(oR:∀n∈od,n<c0.ns.length)(tI:od.length<=1000):r8 Tryz.prog 157 (v7 c0) [.bp 350001 0 [],.val (o7 od)] (.sl 300005 0 c0.ns.length 2) ((300005,.mrow 41 2 (q.2.map Tm.cv))::v7 q.1):=by
 obtain⟨N,hN⟩:∃N,N=c0.ns.length:=⟨_,rfl⟩
 have hl:N<=1000:=by rw[hN];exact Nat.le_trans (D8 _) hF.big
 obtain⟨out0,eY⟩:∃out0,out0=List.replicate N tm0:=⟨_,rfl⟩
 obtain⟨tk,eB⟩:∃tk:Nat->Cl×List Tm,∀k,C2 fu (od.reverse.take k) c0 out0=some (tk k):=by rw[<-hN,<-eY]at hq;exact⟨λk=>Classical.choose (Z1 hq k),λk=>Classical.choose_spec (Z1 hq k)⟩
 rw[<-hN]at hq mY oR |-;rw[<-eY]at hq;have pD:TI N (c0,out0):=⟨hF,by rw[eY,List.length_replicate],by show N<=c0.ns.length;omega⟩
 have hIk:∀k,TI N (tk k)/\(tk k).1.ns.length=N:=λk=>by
  have ho:∀n∈od.reverse.take k,n<N:=λn hn=>oR n (mem_reverse.1 (List.mem_of_mem_take hn));obtain⟨h1,h2⟩:=TI.all (t:=(c0,out0)) pD ho (eB k);refine⟨h1,?_⟩;have oS:∃q',C2 fu (od.reverse.drop k) (tk k).1 (tk k).2=some q'/\q'=q:=by
   have happ:∀(a b:List Nat) (c:Cl) (o:List Tm),C2 fu (a++b) c o=(C2 fu a c o).bind λt=>C2 fu b t.1 t.2:=by
    intro a
    induction a with
    | nil=>intro b c o;rfl
    | cons x a ih =>
     intro b c o;rw[cons_append,B3,B3];cases Y1 fu (c,o) x with
     | none=>rfl
     | some t=>exact ih b t.1 t.2
   have:=happ (od.reverse.take k) (od.reverse.drop k) c0 out0;rw[List.take_append_drop,hq,eB k]at this;exact⟨q,this.symm,rfl⟩
  obtain⟨q',h3,rfl⟩:=oS;obtain⟨_,h4⟩:=TI.all h1 (λn hn=>oR n (mem_reverse.1 (List.mem_of_mem_drop hn))) h3;have:=h1.len;omega
 have tL:tk od.length=q:=by have:=eB od.length;rw[List.take_of_length_le (by simp),hq]at this;injection this with this;exact this.symm
 have dF:tk 0=(c0,out0):=by have:=eB 0;have h2:some (c0,out0)=some (tk 0):=this;injection h2 with h2;exact h2.symm
 have xE:(o7 od)=.lst ((od.map λn:Nat=>(n:Int)).map CV.i):=by unfold o7;rw[map_map];rfl
 have xF:(P6 (od.map λn:Nat=>(n:Int))).length=od.length:=by rw[a2A,length_map]
 have fG:∀W,AFun Tryz.prog W 174 [o7 od] (.val (.fn 181 0 [.ptr (.lst ((od.map λn:Nat=>(n:Int)).map CV.i))])):=λW=>by rw[xE];exact b7m W _
 refine b6d Tryz.func157 Tryz.ntmps157 rfl rfl rfl rfl rfl rfl ?_;intro w U hU;refine I4<|aR ?_;refine ne (zbh 350002 (F:=λv h=>by first | (rw[hW.1]at h;cases h) | (have h2:=hU _ v h;cases h2))) ?_;refine nc ze ?_;refine⟨rfl,?_⟩;refine I4<|aR ?_;refine nc z7<|nc z5<|nc zg<|nc z7<|nc zX<|ne (zbi (k:=N) 300005) ?_;refine ne (zbj 350003 (C:=λv h=>by first | (rw[hW.1]at h;cases h) | (have h2:=hU _ v h;cases h2))) ?_;refine nc zbb ?_;refine⟨rfl,?_⟩;refine a7w (I4<|aR ?_);refine nc zl<|nc (zk (z:=fG w)) ?_;refine⟨rfl,?_⟩;refine a1d ?_;refine a2k (a7 (s':=(2,AV.bp 350002 0 [])::(5,.bp 350003 0 [])::(19,.val (.fn 181 0 [.ptr (.lst ((od.map λn:Nat=>(n:Int)).map CV.i))]))::obT N (tk 0)) ⟨rfl,rfl,rfl,by kernel_rfl,by kernel_rfl,by kernel_rfl,by kernel_rfl,?_,rfl,?_,rfl,?_,?_,?_,?_,trivial⟩) ?_
 ·rw[dF,eY,List.map_replicate];rfl
 ·rw[dF];rfl
 ·rw[dF];rfl
 ·rw[dF];rfl
 ·rw[dF];rfl
 ·rw[dF];rfl
 refine a2P (b2w (α:=Nat×Int) (encC:=c5k) (xs:=P6 (od.map λn:Nat=>(n:Int))) (al:=[(7,21)]) (λk=>obT N (tk k)) [(2,AV.bp 350002 0 []),(5,.bp 350003 0 [])] rfl (x0 Tryz.func181 rfl rfl) (b2V _ (by rw[length_map];omega)) rfl rfl rfl (λx _ c hc=>?_) (λx=>rfl) ⟨rfl,rfl,trivial⟩ rfl ⟨rfl,rfl,rfl,rfl,rfl,rfl,rfl,rfl,rfl,rfl,rfl,rfl,trivial⟩ (λk=>by kernel_rfl) (λk=>by kernel_rfl) (λk=>rfl) rfl (by kernel_rfl) (by kernel_rfl) ?_) ?_
 ·rcases mem_cons.1 hc with rfl | hc
  ·exact⟨_,rfl,rfl⟩
  ·rw[mem_singleton]at hc;subst hc;exact⟨_,rfl,rfl⟩
 ·intro k x hx w U hU;have kE:k<od.length:=by
   rcases Nat.lt_or_ge k od.length with h | h
   ·exact h
   ·rw[getElem?_eq_none (by omega)]at hx;cases hx
  obtain⟨n,hn⟩:∃n,od.reverse[k]?=some n:=⟨od.reverse[k]'(by simpa using kE),getElem?_eq_getElem (by simpa using kE)⟩
  have hnN:n<N:=oR n (mem_reverse.1 (mem_of_getElem? hn));obtain⟨i,hxe⟩:∃i:Nat,x=(i,(n:Int)):=by rw[a5H (by rw[length_map];exact kE)]at hx;injection hx with hx;refine⟨(od.map λn:Nat=>(n:Int)).length-1-k,?_⟩;rw[<-hx];congr 1;rw[length_map,getD_eq_getElem?_getD,getElem?_map];rw[List.getElem?_reverse kE]at hn;rw[hn];rfl
  rw[hxe];clear hx hxe;obtain⟨hI,hIl⟩:=hIk k;have kQ:Y1 fu (tk k) n=some (tk (k+1)):=by have:=eB (k+1);rw[List.take_add_one,hn]at this;have:=(a3o fu (od.reverse.take k) n c0 out0).symm.trans this;rw[eB k]at this;exact this
  obtain⟨iE,xG⟩:=hIk (k+1);obtain⟨t,ht⟩:∃t,t=tk k:=⟨_,rfl⟩
  obtain⟨t',rG⟩:∃t',t'=tk (k+1):=⟨_,rfl⟩
  rw[<-ht]at hI hIl kQ hU |-;rw[<-rG]at kQ iE xG |-;clear ht rG;obtain⟨c,out⟩:=t;have aP:FitU c:=hI.fit;have hol':out.length=N:=hI.out;have eF:c.ns.length=N:=hIl;have mP:n<c.ns.length:=by omega
  have jX:=aP.parts mP;have cK:(pC c n).1.ns.length<=1000:=Nat.le_trans (D8 _) jX.big;have mK:=O2 c n mP aP.trm (by omega) (aP.kid.fi mP (by omega));have qP:(pC c n).2.1<=(pC c n).2.2:=S0.1;have xB:(pC c n).2.2<=(pC c n).1.ns.length:=a0O aP.kid mP;have cY:c.ns.length<=(pC c n).1.ns.length:=C0;unfold Y1 at kQ;simp only at kQ;obtain⟨c2,gV⟩:∃c2,c2=(pC c n).1:=⟨_,rfl⟩
  obtain⟨fr,mJ⟩:∃x,x=(pC c n).2.1:=⟨_,rfl⟩
  obtain⟨to,iW⟩:∃x,x=(pC c n).2.2:=⟨_,rfl⟩
  rw[<-gV]at jX cK mK xB cY kQ;rw[<-mJ,<-iW]at mK qP kQ;rw[<-iW]at xB;clear mJ iW gV;cases mY:a0j fu out (List.range' fr (to-fr)) c2.ns []with
  | none=>rw[mY]at kQ;cases kQ
  | some lq =>
  rw[mY]at kQ;simp only at kQ;have kQ:=Option.some.inj kQ;subst kQ;have hc2N:c2.ns.length=N:=by
   have h1:lq.1.length=N:=xG;obtain⟨_,h2,_⟩:=a1i (vr:=c2.vr) (ps:=c2.ps) _ mY jX λp hp=>by rw[List.mem_range']at hp;obtain⟨i,hi,rfl⟩:=hp;omega
   omega
  refine AWp.wk (a7 (s':=(7,AV.val (.i (n:Int)))::(2,.bp 350002 0 [])::(5,.bp 350003 0 [])::obT N (c,out)) ⟨rfl,rfl,rfl,rfl,rfl,rfl,rfl,rfl,rfl,rfl,rfl,rfl,rfl,rfl,rfl,trivial⟩) ?_;refine aB<|qz<|nc z7<|nc zl<|ne (zW (z:=mK) (G:=i8 (by first | rfl | kernel_rfl)))<|nc zl<|nc zE<|nc zE<|nc ze<|nc ze ?_;refine qz<|nc zl<|nc zl<|nc zB<|ne (zbk (k:=(to-fr)) 200031)<|nc ze ?_;refine aS<|qz<|nc zl<|nc ze ?_;refine AWp.wk ((a7 (s':=(7,AV.val (.i (n:Int)))::(2,.bp 350002 0 [])::(5,.bp 350003 0 [])::(9,.val (.i (to:Int)))::(10,.sl 200031 0 0 2)::(11,.val (.i (fr:Int)))::(200031,.mrow 41 2 [])::obT N (c2,out)) ⟨rfl,rfl,rfl,rfl,rfl,rfl,rfl,rfl,rfl,rfl,rfl,rfl,rfl,rfl,rfl,rfl,rfl,rfl,rfl,trivial⟩).trans (y6 300001 400001 rfl rfl (b8P hU (by kernel_rfl)) (by kernel_rfl) (by kernel_rfl) (by kernel_rfl))) ?_;obtain⟨st,dJ⟩:∃st:Nat->List Nd->List Tm->AS,st=λi ns1 ts=>(7,AV.val (.i (n:Int)))::(2,.bp 350002 0 [])::(5,.bp 350003 0 [])::(9,.val (.i (to:Int)))::(10,.sl 200031 0 ts.length 2)::(11,.val (.i ((fr+i:Nat):Int)))::(200031,.mrow 41 2 (ts.map Tm.cv))::obF N ⟨ns1,c2.vr,c2.ps⟩ out:=⟨_,rfl⟩
  refine aB (w8 (λm s=>∃i ns1 ts,i+m=to-fr/\a0j fu out (List.range' (fr+i) m) ns1 ts=some lq/\FitU ⟨ns1,c2.vr,c2.ps⟩/\ns1.length=N/\ts.length=i/\s=st i ns1 ts) (n:=to-fr) (s':=st 0 c2.ns []) (by rw[dJ];exact a7 ⟨rfl,rfl,rfl,rfl,rfl,rfl,rfl,rfl,rfl,rfl,rfl,rfl,rfl,rfl,rfl,rfl,rfl,rfl,rfl,trivial⟩) ⟨0,c2.ns,[],by omega,mY,jX,hc2N,rfl,rfl⟩ ?_);rintro m s ⟨i2,ns1,ts,uC,cN,jG,iD,aQ,rfl⟩;rw[dJ];refine aS<|qz<|nc zl<|nc zl<|nc zi ?_;cases m with
  | zero =>
   have cN:some (ns1,ts)=some lq:=cN;have cN:=Option.some.inj cN;subst cN;refine aC rfl (λhc=>?_) (λhc=>?_)
   ·exfalso;have:((fr+i2:Nat):Int)<to:=by simpa using hc
    omega
   refine aE ?_;obtain⟨y,hy⟩:=Q9 (ns:=ns1) (n:=n) (by omega);have dW:=Nd.map_at hy;have fZ:(ns1.map Nd.cv).length=ns1.length:=length_map ..;have fQ:(out.map Tm.cv).length=out.length:=length_map ..;obtain⟨z,hz⟩:∃z,out[n]?=some z:=⟨out[n]'(by omega),getElem?_eq_getElem (by omega)⟩
   have iR:=Tm.map_at hz;have hyf:(nT ns1 n).f=y.t.f:=by unfold nT;rw[s6 hy]
   have qS:(ts.map Tm.cv).length=ts.length:=length_map ..;refine AWp.wk (a9w 10 200031 rfl rfl rfl (.inr (by decide)) (by rw[qS];omega) (s':=(7,AV.val (.i (n:Int)))::(2,.bp 350002 0 [])::(5,.bp 350003 0 [])::obF N ⟨ns1,c2.vr,c2.ps⟩ out) ⟨rfl,rfl,rfl,rfl,rfl,rfl,rfl,rfl,rfl,rfl,rfl,rfl,rfl,rfl,rfl,trivial⟩ (by kernel_rfl)) ?_;rw[List.drop_zero,List.take_of_length_le (by rw[qS];omega)];refine aD (by kernel_rfl) (by kernel_rfl) ?_;refine nc z7<|nc zl<|nc z7<|nc z5<|nc zg<|nc z7<|nc zl<|nc (zO (k:=n))<|nc z4<|nc z4<|nc (zP (G:=dW))<|nc zl<|nc zC<|nc (zO (k:=n))<|nc (zR (F:=iR)) ?_;refine⟨by kernel_rfl,rfl,?_⟩;refine(a7 (s':=obF N ⟨ns1,c2.vr,c2.ps⟩ (out.set n ⟨(nT ns1 n).f,ts⟩)) ⟨rfl,rfl,rfl,rfl,?_,rfl,rfl,rfl,rfl,rfl,rfl,rfl,trivial⟩).trans (y6 400001 300001 rfl rfl (a6A U (by decide)) (by kernel_rfl) (by kernel_rfl) (by kernel_rfl));rw[b7h,hyf];rfl
  | succ m =>
   have fY:fr+i2<ns1.length:=by omega
   rw[List.range'_succ,a0j]at cN;cases bY:o8 fu ns1 (fr+i2)with
   | none=>rw[bY]at cN;cases cN
   | some r2 =>
   rw[bY]at cN;simp only at cN;obtain⟨xC,mX,hr4⟩:=FitU.head jG fY bY;have jY:=M5 c2.vr c2.ps fu ns1 (fr+i2) r2 bY jG.up fY (by omega);have tH:Q3 ⟨r2.1,c2.vr,c2.ps⟩=[(450001,.obj),(35500100,.sl 400001 0 ns1.length 5),(35500101,.mref 300003),(35500102,.sl 300002 0 c2.ps.length 2),(400001,.mrow 194 5 (r2.1.map Nd.cv)),(300003,.mp (c2.vr.map vrv)),(300002,.mrow 207 2 (c2.ps.map psv))]:=by simp only[Q3,mX]
   rw[tH]at jY;obtain⟨z,hz⟩:∃z,out[r2.2]?=some z:=⟨out[r2.2]'(by omega),getElem?_eq_getElem (by omega)⟩
   have iR:=Tm.map_at hz;have fQ:(out.map Tm.cv).length=out.length:=length_map ..;have qS:(ts.map Tm.cv).length=ts.length:=length_map ..;have htz:=Tm.size_all ts;have nA:out.getD r2.2 tm0=z:=by rw[getD_eq_getElem?_getD,hz];rfl
   rw[nA]at cN;refine aC rfl (λhc=>?_) (λhc=>?_)
   case refine_2 =>
    have:¬ ((fr+i2:Nat):Int)<to:=by simpa using hc
    omega
   refine aK<|aS<|aB<|aD (by kernel_rfl) (by kernel_rfl) ?_;refine nc zl<|nc z7<|nc z7<|nc zl<|ne (zbg ([(400001,.mrow 194 5 (r2.1.map Nd.cv))]) (C:=jY) (hnb:=i8 (by first | rfl | kernel_rfl)))<|nc (zO (k:=r2.2))<|nc (zP (G:=iR))<|nc zy<|ne (zba 200046)<|nc ze ?_;refine⟨by kernel_rfl,?_⟩;refine aR<|nc zl<|nc zA<|nc ze ?_;refine⟨m,st (i2+1) r2.1 (ts++[z]),by omega,⟨i2+1,r2.1,ts++[z],by omega,by rw[show fr+(i2+1)=fr+i2+1 by omega];exact cN,xC,by omega,by rw[length_append];simp;omega,by rw[dJ]⟩,?_⟩;rw[dJ];refine(a7 (s':=(7,AV.val (.i (n:Int)))::(2,.bp 350002 0 [])::(5,.bp 350003 0 [])::(9,.val (.i (to:Int)))::(10,.sl 200046 0 (ts++[z]).length 2)::(11,.val (.i ((fr+(i2+1):Nat):Int)))::(200046,.mrow 41 2 ((ts++[z]).map Tm.cv))::obF N ⟨r2.1,c2.vr,c2.ps⟩ out) ⟨rfl,rfl,rfl,rfl,?_,rfl,?_,rfl,rfl,rfl,rfl,rfl,rfl,?_,rfl,rfl,rfl,rfl,rfl,trivial⟩).trans (B1 200046 200031 rfl rfl (by kernel_rfl) (by kernel_rfl))
   ·rw[length_append,<-qS];rfl
   ·rw[map_append,map_singleton,Tm.cv_eq];rfl
   ·show _=some (AV.sl 400001 0 r2.1.length 5);rw[mX];rfl
 ·rintro e s' g ⟨rfl,rfl⟩;rw[xF,tL];refine⟨rfl,rfl,?_⟩;refine qz<|nc z7<|nc ze ?_;refine aT ⟨⟨.inr rfl,[(4,AV.sl 300005 0 N 2),(300005,.mrow 41 2 (q.2.map Tm.cv))]++v7 q.1,?_,rfl,⟨rfl,rfl,rfl,rfl,rfl,rfl,rfl,rfl,trivial⟩,rfl⟩,rfl⟩;exact a7 ⟨rfl,rfl,rfl,rfl,rfl,rfl,rfl,rfl,rfl,rfl,trivial⟩
section
open Go.RowKit Go.MapKept
open Go.ChangeMaps (setBlock)
section
variable{P:Program}{w0:World}{U0:UX}{nt:Nat}{ops:Array Oper}{o:Oper}{S:Nat->Option AV}{gs:List Nat}{d:Nat}{s:AS}{a:Act}{w:World}{D:Nat->Nat->Prop}{hv:Nat->Value}
abbrev AV.stm(l:List CV)(b clock:Nat)(bs:List Nat):AV:=⟨22,.lst l,0,0,b::clock::bs⟩
abbrev AV.itr(b since c0:Nat)(seen:List Nat):AV:=⟨21,.row [],0,0,b::since::c0::seen⟩
theorem SimG.retag(h:SimG w0 U0 nt s a w D hv){n:Nat}(kH:n4 n){av0 av:AV}(hs:look s n=some av0)(h6:av0.t≠6)(h7:av0.t≠7)(h9:av0.t≠9)(g6:av.t≠6)(g7:av.t≠7)(g9:av.t≠9)(pS:OC (Us w0 U0 D) w hv (a9 s) av (hv n)):SimG w0 U0 nt ((n,av)::s) a w D hv:=by
 have qT:=kH;unfold n4 at qT;have kB:∀{k},k≠n->look ((n,av)::s) k=look s k:=fun{k} hk=>lN (Ne.symm hk);have hl:∀m e,v8 ((n,av)::s) m e↔v8 s m e:=λm e=>by
  unfold v8;by_cases e1:m=n
  ·subst e1;rw[lS,hs];constructor
   ·rintro⟨h1,_⟩;injection h1 with h1;rw[h1]at g6;exact absurd rfl g6
   ·rintro⟨h1,_⟩;injection h1 with h1;rw[h1]at h6;exact absurd rfl h6
  ·rw[kB e1]
 have kM:a9 ((n,av)::s)=a9 s:=by funext k;simp only[a9,hl]
 refine⟨h.below,h.dfr,h.size,λd' av' h1 h2=>?_,λm o' av' h1 h2 h3 h4=>?_,λm o1 o2 av1 av2 h1 h2=>?_,λk av' h1 h2=>?_,λk av' g h1 h2 h3 h4=>?_,λk k' av1 av2 g h1 h2 h3 h4 h5 h8 dH=>?_,h.fix,h.dlt⟩
 ·rw[kB (by omega)]at h1;rw[kM];exact h.slot d' av' h1 h2
 ·rw[kB (by unfold i7;omega)]at h1;have kF:100000+m≠n:=λe=>by rw[e,lS]at h3;injection h3 with h3;rw[h3]at g9;exact absurd rfl g9
  rw[kB kF]at h3;rw[kM];exact h.fld m o' av' h1 h2 h3 h4
 ·rw[kB (by unfold i7;omega)]at h1 h2;exact h.fdis m o1 o2 av1 av2 h1 h2
 ·rw[kM];by_cases e1:k=n
  ·subst e1;rw[lS]at h1;cases h1;exact pS
  ·rw[kB e1]at h1;exact h.obj k av' h1 h2
 ·by_cases e1:k=n
  ·subst e1;rw[lS]at h1;cases h1;obtain⟨f1,f2,f3⟩:=h.blk k av0 g hs h2 h7 h4;refine⟨?_,f2,λo ho hd=>f3 o (λe=>absurd e h6) hd⟩;unfold Mn lcl at f1 |-;rcases f1 with f1 | ⟨f1,f1'⟩
   ·exact .inl f1
   ·refine .inr ⟨?_,f1'⟩;cases e2:Nat.blt k 300000 with
    | true=>rw[e2]at f1;exact absurd rfl f1
    | false=>exact g6
  ·rw[kB e1]at h1;exact h.blk k av' g h1 h2 h3 h4
 ·have conv:∀q (aq:AV),look ((n,av)::s) q=some aq->aq.t≠7->∃aq',look s q=some aq'/\aq'.t≠7:=λq aq f1 f2=>by
   by_cases e1:q=n
   ·subst e1;exact⟨av0,hs,h7⟩
   ·rw[kB e1]at f1;exact⟨aq,f1,f2⟩
  obtain⟨a1,b1,c1⟩:=conv k av1 h1 h5
  obtain⟨a2,b2,c2⟩:=conv k' av2 h2 h8
  exact h.disj k k' a1 a2 g b1 b2 h3 h4 c1 c2 dH
theorem AWp.stamps{c:Code}{Q:Exit->AS->Prop}(n:Nat){l:List CV}(hn:(Nat.ble 200000 n&&Nat.blt n 450000)=true)(hm:look s n=some (.mp l))(h:∀b clock bs,bs.length=l.length->bs.Nodup->(∀x∈bs,x<clock)->AWp P w0 U0 nt c Q ((n,.stm l b clock bs)::s)):AWp P w0 U0 nt c Q s:=by
 intro M a w ⟨D,hv,hS⟩;have kN:=rnF hn;have kH:n4 n:=by unfold RN at kN;unfold n4;omega
 obtain⟨g,es,clock,g1,g2,g3,g4,g5⟩:∃g es clock,hv n=.map (some g)/\w.heap[g]?=some (.map es clock)/\Ents (Us w0 U0 D) w l es.toList/\(∀e∈es,e.born<clock)/\(es.toList.map (λe:MapEntry=>e.born)).Nodup:=hS.obj n _ hm kH;refine h g clock (es.toList.map (λe:MapEntry=>e.born)) (by rw[length_map,a1W g3]) g5 (λx hx=>?_) M a w ⟨D,hv,hS.retag kH hm (λe=>by cases e) (λe=>by cases e) (λe=>by cases e) (λe=>by cases e) (λe=>by cases e) (λe=>by cases e) ?_⟩
 ·obtain⟨e,he,rfl⟩:=mem_map.1 hx;exact g4 e (by simpa using he)
 ·exact⟨⟨(λe=>by cases e),(λe=>by cases e)⟩,(λe=>by cases e),(λe=>by cases e),λ_=>⟨g,clock,es,g1,rfl,g2,g3,g4,g5⟩⟩
theorem b8a(n:Nat){l:List CV}{b clock:Nat}{bs:List Nat}(hn:(Nat.ble 200000 n&&Nat.blt n 450000)=true)(hm:look s n=some (.stm l b clock bs)):Wk w0 U0 nt s ((n,.mp l)::s):=by
 rintro a w ⟨D,hv,hS⟩;have kN:=rnF hn;have kH:n4 n:=by unfold RN at kN;unfold n4;omega
 obtain⟨g,ck,es,g1,g2,g3,g4,g5,g6⟩:=(show OX _ _ _ _ from hS.obj n _ hm kH).2.2.2 rfl;exact⟨D,hv,hS.retag kH hm (λe=>by cases e) (λe=>by cases e) (λe=>by cases e) (λe=>by cases e) (λe=>by cases e) (λe=>by cases e) ⟨g,es,ck,g1,g3,g4,g5,g6⟩⟩
theorem b7L(nn:Nat)(hg:Gd w0 U0 nt ops o gs S)(hd:o.dst=some d)(hn:Nat.blt d nt=true)(h5:Nat.blt d 100000=true){x:Operand}{t kt et:TypeId}{n b clock:Nat}{l:List CV}{bs:List Nat}(ho:o.op=.range t x)(hu:P.underlying t=some (.map kt et))(hx:ev S x=some (.mref n))(bS:S n=some (.stm l b clock bs))(bH:(Nat.ble 200000 nn&&Nat.blt nn 400000)=true):AOp P w0 U0 nt ops o (gs++(rd x++[n])) [(nn,[])] S [(d,.mref nn),(nn,.itr b clock clock [])]:=by
 intro s hs hN a w ⟨D,hv,h⟩ Q K hK;rw[if_pos (hg s (λk hk=>hs k (mem_append_left _ hk)) a w D hv h)];have kN:=rnB bH;obtain⟨uN,h1,_⟩:RN n/\a.eval x=hv n/\(a.eval x).oneCell'=true:=n5 h (λk hk=>hs k (mem_append_right _ (mem_append_left _ hk))) hx;have kH:n4 n:=by unfold RN at uN;unfold n4;omega
 obtain⟨g,ck,es,g1,g2,g3,g4,g5,g6⟩:=(show OX _ _ _ _ from h.obj n _ ((hs n (by simp)).trans bS) kH).2.2.2 rfl;have sR:b=g/\clock=ck:=by have g2:b::clock::bs=g::ck::es.toList.map (·.born):=g2;injection g2 with g2 g2';injection g2' with g2';exact⟨g2,g2'⟩
 obtain⟨rfl,rfl⟩:=sR;rw[g1]at h1;have he:(execOp a.eval o).run P w=.ok (.value (.pointer (some ⟨w.heap.size,0,none⟩))) (w.alloc (.mapIter (some b) clock #[] clock)):=by have dD:=Go.MapKept.run_getObj_map (P:=P) g3;generalize a.eval=ρ at h1 |-;simp[execOp,ho,Instr.range,run_underlying hu,h1,dD,run_newObj_alloc]
 unfold Oper.wp;rw[he,Oper.upon_value,hd];have hb':Below w.heap.size w (w.alloc (.mapIter (some b) clock #[] clock)):=(Below.refl _ _).alloc (Nat.le_refl _) _;have hG:=h.newrow (X:=λ_=>False) (avn:=.itr b clock clock []) (v':=.pointer (some ⟨w.heap.size,0,none⟩)) (D':=D) kN (hN (nn,[]) (by simp)).nr (λe=>by cases e) ((BelowX.refl _ w).step hb') (λb hb=>hb.elim) (λg hg=>by have hg:some w.heap.size=some g:=hg;cases hg;refine⟨.inr (Nat.le_refl _),by simp,λo _ hd=>?_⟩;have:=h.dlt _ _ hd;omega) (λb o hd => .inl hd) (λb o hd=>Nat.lt_of_lt_of_le (h.dlt _ _ hd) hb'.size) (Q6 h.dlt hb' λ_ _ h=>h) (λhv lv=>⟨⟨(λe=>by cases e),(λe=>by cases e)⟩,(λe=>by cases e),λ_=>⟨w.heap.size,b,clock,clock,[],rfl,rfl,x8 _ _⟩,(λe=>by cases e)⟩)
 refine hK _ _ ⟨_,_,hG.put (bL hn) (bL h5) ⟨RW.rn kN,?_,rfl⟩⟩;simp
theorem zbm{P:Program}{w0:World}{U0:UX}{nt:Nat}{ops:Array Oper}{o:Oper}{S:Nat->Option AV}{gs:List Nat}{d:Nat}{x:Operand}{t:TypeId}{kt:TypeId}{et:TypeId}{n:Nat}{b:Nat}{clock:Nat}{l:List CV}{bs:List Nat}(nn:Nat)(p:Gd w0 U0 nt ops o gs S:=by exact gN rfl)(q:o.dst=some d:=by exact rfl)(r:Nat.blt d nt=true:=by exact rfl)(u:Nat.blt d 100000=true:=by exact rfl)(v:o.op=.range t x:=by exact rfl)(y:P.underlying t=some (.map kt et):=by exact rfl)(z:ev S x=some (.mref n):=by exact rfl)(A:S n=some (.stm l b clock bs):=by exact rfl)(B:(Nat.ble 200000 nn&&Nat.blt nn 400000)=true:=by exact rfl):AOp P w0 U0 nt ops o (gs++(rd x++[n])) [(nn,[])] S [(d,.mref nn),(nn,.itr b clock clock [])]:=b7L nn p q r u v y z A B
theorem b7y(hg:Gd w0 U0 nt ops o gs S)(hd:o.dst=some d)(hn:Nat.blt d nt=true)(h5:Nat.blt d 100000=true){x:Operand}{n nn b since clock j z:Nat}{k:IntKind}{i:Int}{vc:CV}{l:List CV}{bs seen:List Nat}(ho:o.op=.entry x)(hx:ev S x=some (.mref nn))(hI:S nn=some (.itr b since clock (seen++[z])))(bS:S n=some (.stm l b clock bs))(kN:(Nat.ble 200000 n&&Nat.blt n 450000)=true)(hz:bs[j]?=some z)(hl:l[j]?=some (.row [.sc (.int k i),vc])):AOp P w0 U0 nt ops o (gs++(rd x++[nn,n])) [] S [(d,.tup [.sc (.int k i),vc])]:=
 l4 hg hd hn h5 (λk hk=>mem_append_left _ hk) λs hs a w D hv hm=>by
  obtain⟨uN,h1,_⟩:RN nn/\a.eval x=hv nn/\(a.eval x).oneCell'=true:=n5 hm (λk hk=>hs k (mem_append_right _ (mem_append_left _ hk))) hx;have kH:n4 nn:=by unfold RN at uN;unfold n4;omega
  have kN:=rnF kN;have tM:n4 n:=by unfold RN at kN;unfold n4;omega
  obtain⟨r,b1,s1,c1,seen1,f1,f2,f3⟩:=(show OX _ _ _ _ from hm.obj nn _ ((hs nn (by simp)).trans hI) kH).2.2.1 rfl;obtain⟨g,ck,es,g1,g2,g3,g4,g5,g6⟩:=(show OX _ _ _ _ from hm.obj n _ ((hs n (by simp)).trans bS) tM).2.2.2 rfl;have f2:b::since::clock::(seen++[z])=b1::s1::c1::seen1:=f2;injection f2 with f2 f2';injection f2' with f2' f2'';injection f2'' with f2'' f2''';subst f2;subst f2';subst f2'';subst f2''';have g2:b::clock::bs=g::ck::es.toList.map (·.born):=g2;injection g2 with g2 g2';injection g2' with g2' g2'';subst g2;subst g2';subst g2'';obtain⟨e,e1,e2⟩:=a8X g4 hl;have hez:e.born=z:=by rw[getElem?_map,e1]at hz;injection hz
  have hr:w.heap[r]?=some (.mapIter (some b) since (seen.toArray.push e.born) clock):=by rw[f3,hez];simp
  have kY:=run_entry_at (P:=P) w r b since seen.toArray es clock e hr g3 (mem_of_getElem? e1) g6;rw[f1]at h1;obtain⟨kc,vc',j1,j2,j3,j4⟩:=e2;injection j1 with _ _ j1;injection j1 with j1 j1';injection j1' with j1';subst j1;subst j1';refine⟨.tuple #[e.key,e.val],?_,[e.key,e.val],rfl,e.key,[e.val],rfl,?_,e.val,[],rfl,j4,rfl⟩
  ·generalize a.eval=ρ at h1 |-;simp[execOp,ho,h1,kY]
  ·rw[j3];exact o0.2 ⟨rfl,rfl⟩
theorem zbn{P:Program}{w0:World}{U0:UX}{nt:Nat}{ops:Array Oper}{o:Oper}{S:Nat->Option AV}{gs:List Nat}{d:Nat}{x:Operand}{n:Nat}{nn:Nat}{b:Nat}{since:Nat}{clock:Nat}{j:Nat}{z:Nat}{k:IntKind}{i:Int}{vc:CV}{l:List CV}{bs:List Nat}{seen:List Nat}(p:Gd w0 U0 nt ops o gs S:=by exact gN rfl)(q:o.dst=some d:=by exact rfl)(t:Nat.blt d nt=true:=by exact rfl)(u:Nat.blt d 100000=true:=by exact rfl)(v:o.op=.entry x:=by exact rfl)(y:ev S x=some (.mref nn):=by exact rfl)(A:S nn=some (.itr b since clock (seen++[z])):=by exact rfl)(B:S n=some (.stm l b clock bs):=by exact rfl)(C:(Nat.ble 200000 n&&Nat.blt n 450000)=true:=by exact rfl)(E:bs[j]?=some z)(F:l[j]?=some (.row [.sc (.int k i),vc])):AOp P w0 U0 nt ops o (gs++(rd x++[nn,n])) [] S [(d,.tup [.sc (.int k i),vc])]:=b7y p q t u v y A B C E F
theorem b6i{id d1:Nat}{o1:Oper}{l2:List Oper}{Q:Exit->AS->Prop}{it:Operand}{n nn b since c0 clock:Nat}{l:List CV}{bs seen:List Nat}{k:IntKind}(dM:o1.dst=some d1)(lG:o1.op=.next it false)(xH:o1.guard=none)(bI:Nat.blt d1 nt=true)(h51:Nat.blt d1 100000=true)(hit:ev (look s) it=some (.mref nn))(hI:look s nn=some (.itr b since c0 seen))(hM:look s n=some (.stm l b clock bs))(kN:(Nat.ble 200000 n&&Nat.blt n 450000)=true)(hik:A5 k l)(tN:∀x∈bs,x<since)(oH:since<=c0)
  (tL:(∀x∈bs,x∈seen)->Run P w0 U0 nt (o1::l2).toArray l2 ((d1,.tup [.b false])::s) [] λs' _=>Q .normal s')
  (mH:∀(j x:Nat) (i:Int) (vc:CV),bs[j]?=some x->l[j]?=some (.row [.sc (.int k i),vc])->x∉seen->Run P w0 U0 nt (o1::l2).toArray l2 ((d1,.tup [.b true,.sc (.int k i),vc])::(nn,.itr b since clock (seen++[x]))::s) [] λs' _=>Q .normal s') :
  AWp P w0 U0 nt (.region id (o1::l2).toArray false) Q s:=by
 intro M a w ⟨D,hv,h⟩;refine wpIn_region_lit ?_;have kN:=rnF kN;have tM:n4 n:=by unfold RN at kN;unfold n4;omega
 obtain⟨uN,h1,_⟩:RN nn/\a.eval it=hv nn/\(a.eval it).oneCell'=true:=n5 h (λk _=>rfl) hit;have kH:n4 nn:=by unfold RN at uN;unfold n4;omega
 obtain⟨r,b1,s1,c1,seen1,f1,f2,f3⟩:=(show OX _ _ _ _ from h.obj nn _ hI kH).2.2.1 rfl;obtain⟨g,ck,es,g1,g2,g3,g4,g5,g6⟩:=(show OX _ _ _ _ from h.obj n _ hM tM).2.2.2 rfl;have f2:b::since::c0::seen=b1::s1::c1::seen1:=f2;injection f2 with f2 f2';injection f2' with f2' f2'';injection f2'' with f2'' f2''';subst f2;subst f2';subst f2'';subst f2''';have g2:b::clock::bs=g::ck::es.toList.map (·.born):=g2;injection g2 with g2 g2';injection g2' with g2' g2'';subst g2;subst g2';subst g2'';rw[f1]at h1;unfold wpListIn;rw[if_pos (by simp[Region.wanted,xH])];refine⟨λ_ _=>trivial,?_⟩;rw[X7,Oper.semAt_eq _ _ _ (λc hc=>by rw[lG]at hc;cases hc)];have lY:∀x∈es.toList,x.born<since:=λx hx=>tN _ (mem_map.2 ⟨x,hx,rfl⟩);rcases run_next_at (P:=P) w o1.type r b since c0 seen.toArray es clock f3 g3 lY oH with⟨e0,e1⟩ | ⟨e,he,w1,dC,e1⟩
 ·have kY:(execOp a.eval o1).run P w=.ok (.value (.tuple #[.bool false])) w:=by generalize a.eval=ρ at h1 |-;simp[execOp,lG,h1,e1]
  rw[kY];show wpListIn _ _ _ _ _ _ _ _;rw[dM,<-a0F];refine a0f (tL λx hx=>?_) (λs' t' a w h1 h2=>⟨a,rfl,s',h1,h2⟩) _ _ ⟨D,hv,h.put (bL bI) (bL h51) ⟨[.bool false],rfl,.bool false,[],rfl,o0.2 ⟨rfl,rfl⟩,rfl⟩⟩;obtain⟨e,he,rfl⟩:=mem_map.1 hx;apply Classical.byContradiction;intro hns;have jW:e∈leftOf es seen.toArray:=by unfold leftOf;simp;exact⟨by simpa using he,hns⟩
  have:=Array.size_pos_of_mem jW;omega
 ·have kY:(execOp a.eval o1).run P w=.ok (.value (.tuple #[.bool true,e.key,e.val])) (setBlock w1 r (.mapIter (some b) since (seen.toArray.push e.born) clock)):=by generalize a.eval=ρ at h1 |-;simp[execOp,lG,h1,e1]
  rw[kY];show wpListIn _ _ _ _ _ _ _ _;rw[dM,<-a0F];have he2:e∈es.toList/\e.born∉seen:=by unfold leftOf at he;simp at he;exact⟨by simpa using he.1,he.2⟩
  obtain⟨j,hj⟩:=List.getElem?_of_mem he2.1;have hlj:∃c,l[j]?=some c/\Ent (Us w0 U0 D) w c e:=by
   have kD:=a1W g4;have gI:j<l.length:=by
    rcases Nat.lt_or_ge j es.toList.length with h | h
    ·rw[<-kD];exact h
    ·rw[getElem?_eq_none h]at hj;cases hj
   obtain⟨e',k1,k2⟩:=a8X g4 (getElem?_eq_getElem gI);rw[hj]at k1;cases k1;exact⟨_,getElem?_eq_getElem gI,k2⟩
  obtain⟨c,hc,xI⟩:=hlj;obtain⟨i,vc,rfl⟩:=hik c (mem_of_getElem? hc);obtain⟨kc,vc',j1,j2,j3,j4⟩:=xI;injection j1 with _ _ j1;injection j1 with j1 j1';injection j1' with j1';subst j1;subst j1';have h2:SimG w0 U0 nt s a w1 D hv:=by
   rcases dC with rfl | rfl
   ·exact h
   ·exact h.grow' (Below.drew (Below.refl _ _))
  have rO:w1.heap=w.heap:=by rcases dC with rfl | rfl<;>rfl
  have hrlt:r<w1.heap.size:=by rw[rO];exact(Array.getElem?_eq_some_iff.1 f3).1
  have h3:=h2.upd (av:=.itr b since clock (seen++[e.born])) (w':=setBlock w1 r (.mapIter (some b) since (seen.toArray.push e.born) clock)) kH hI (λe=>by cases e) (λe=>by cases e) rfl (λg hh o ho=>hh o λe=>by cases e) (λe=>by cases e) (g:=r) (by rw[f1];rfl) rfl rfl rfl (by simp[setBlock]) (λq hq=>by simp[setBlock,Array.getElem?_setIfInBounds_ne (Ne.symm hq)]) λbC=>⟨⟨(λe=>by cases e),(λe=>by cases e)⟩,(λe=>by cases e),λ_=>⟨r,b,since,clock,seen++[e.born],f1,rfl,by simp[setBlock,hrlt]⟩,(λe=>by cases e)⟩
  have hval:VRep (Us w0 U0 D) (setBlock w1 r (.mapIter (some b) since (seen.toArray.push e.born) clock)) vc e.val:=by
   refine j4.keep λb' o' u hu kW=>⟨hu,?_⟩
   have kF:b'≠r:=λe=>by subst e;simp[World.cell?,f3]at kW
   rw[World.cell?_of_block (w:=w) (w':=setBlock w1 r _) (by simp[setBlock,Array.getElem?_setIfInBounds_ne (Ne.symm kF),rO])];exact kW
  refine a0f (mH j e.born i vc (by rw[getElem?_map,hj];rfl) hc he2.2) (λs' t' a w h1 h2=>⟨a,rfl,s',h1,h2⟩) _ _ ⟨D,hv,h3.put (bL bI) (bL h51) ⟨[.bool true,e.key,e.val],rfl,.bool true,_,rfl,o0.2 ⟨rfl,rfl⟩,e.key,_,rfl,?_,e.val,[],rfl,hval,rfl⟩⟩;rw[j3];exact o0.2 ⟨rfl,rfl⟩
end
end
section
open Go.RowKit Go.MapKept
def b9Q{Sg:Type}(P:Program)(f:FuncId)(pre:AS)(args:List AV)(R:Sg->Prop)(r:Sg->AV)(post:Sg->AS):Prop:=
 a3H P f/\∀(U:UX) (w:World) (hv:Nat->Value) (a0:Act) (vs:List Value),(∀k v,U.f k=some v->l7 (kO pre) k=true)->SimG w U 0 pre a0 w (λ_ _=>False) hv->AVReps (Us w U (λ_ _=>False)) w hv (a9 pre) args vs ->
  Calls P f vs.toArray w λe w'=>∃ σ,R σ/\∃v D' kG a',e=.returned v/\SimG w U 0 (post σ) a' w' D' kG/\AVRep (Us w U D') w' kG (a9 (post σ)) (r σ) v
section
variable{P:Program}{w0:World}{U0:UX}{nt:Nat}{ops:Array Oper}{o:Oper}{S:Nat->Option AV}{gs:List Nat}{d:Nat}{s:AS}{a:Act}{w:World}{D:Nat->Nat->Prop}{hv:Nat->Value}
theorem b6U {Sg : Type} {R : Sg → Prop} {r : Sg → AV} {post : Sg → AS} {f : FuncId} {fn : Func} {c : Code} {pre : AS} {args : List AV} (hf : P.funcs[f]? = some fn) (hn : fn.ntmps = nt) (gM : (fn.name == "runtime.NumGoroutine") = false) (hb : fn.body = some c) (hl : Nat.ble args.length nt = true) (cG : Nat.blt nt 100000 = true) (gB : (kO pre).all (Nat.ble 100000) = true) (kS : ∀ σ, (kO (post σ)).all (Nat.ble 100000) = true)
  (h:∀(w:World) (U:UX),(∀k v,U.f k=some v->l7 (kO pre) k=true)->AWp P w U nt c (λe s'=>(e=.normal\/e=.ret)/\∃ σ,R σ/\c1I P w U nt fn s' (r σ) (post σ)) (D7 args 0++pre)):b9Q P f pre args R r post:=by
 refine⟨x0 hf gM (by rw[hb];rfl),λU w hv a0 vs hU gE hargs=>?_⟩;have kD:=hargs.len;refine calls_of_wp hf hb ?_;have cS:=Nat.le_of_ble_eq_true hl;have cG:=bL cG;have kV:∀{k av},look pre k=some av->100000<=k:=fun{k av} h1=>by rw[List.all_eq_true]at gB;exact Nat.le_of_ble_eq_true (gB k (j5 h1))
 have kB:∀{k},100000<=k->look (D7 args 0++pre) k=look pre k:=fun{k} h1=>by
  rw[d8];cases h2:look (D7 args 0) k with
  | none=>rfl
  | some av =>
   obtain⟨_,h3⟩:=x9 h2;rw[Nat.sub_zero,getElem?_eq_none (by omega)]at h3;cases h3
 have kI:a9 (D7 args 0++pre)=a9 pre:=by
  funext n;unfold a9 v8;apply propext;constructor
  ·rintro(h1 | ⟨e,h1,h2,h3⟩)
   ·exact .inl h1
   ·rw[kB (by omega)]at h1;exact .inr ⟨e,h1,h2,h3⟩
  ·rintro(h1 | ⟨e,h1,h2,h3⟩)
   ·exact .inl h1
   ·exact .inr ⟨e,by rw[kB (by omega)];exact h1,h2,h3⟩
 have hs:Sim w U nt (D7 args 0++pre) { tmps:=vs.toArray++Array.replicate (fn.ntmps-vs.toArray.size) undef,defers:=[] } w:=by
  refine⟨λ_ _=>False,hv,gE.below,rfl,by simp[hn];omega,λd av h1 h2=>?_,λn o av h1 h2 h3 h4=>?_,λn o o' av av' h1 h2=>?_,λk av h1 h2=>?_,λk av g h1 h2=>?_,λk k' av av' g h1 h2 h3 h4=>?_,gE.fix,λb o hd=>hd.elim⟩
  ·rw[d8]at h1;cases h3:look (D7 args 0) d with
   | none =>
    rw[h3]at h1;have:=kV h1;omega
   | some av' =>
    rw[h3]at h1;cases h1;obtain⟨_,h4⟩:=x9 h3;rw[Nat.sub_zero]at h4;obtain⟨v,h6,h7⟩:=hargs.at h4;have hdl:d<vs.length:=by
     rcases Nat.lt_or_ge d vs.length with h | h
     ·exact h
     ·rw[getElem?_eq_none h]at h6;cases h6
    rw[kI];refine⟨v,?_,h7⟩;rw[Array.getElem?_append_left (by simpa using hdl)];simpa using h6
  ·rw[kB (by unfold i7;omega)]at h1;rw[kB (by omega)]at h3;rw[kI];exact gE.fld n o av h1 h2 h3 h4
  ·rw[kB (by unfold i7;omega)]at h1 h2;exact gE.fdis n o o' av av' h1 h2
  ·rw[kB h2.1]at h1;rw[kI];exact gE.obj k av h1 h2
  ·rw[kB h2.1]at h1;exact gE.blk k av g h1 h2
  ·rw[kB h3.1]at h1;rw[kB h4.1]at h2;exact gE.disj k k' av av' g h1 h2 h3 h4
 refine wp_mono ((h w U hU ⟨none,[]⟩ _ w hs).wp rfl (λe a w ⟨s,_,h⟩=>h.df)) ?_;rintro e a' w' ⟨s',⟨h1,σ,hσ,s2,g1,g2,g3⟩,h3⟩;obtain⟨D',kG,h4⟩:=g1 a' w' h3;obtain⟨v,h5,h6⟩:=S3 h4 g2;have hS:=h4.sub g3.sub;have kS:=kS σ;have gW:∀{k av},look (post σ) k=some av->100000<=k:=fun{k av} h1=>by rw[List.all_eq_true]at kS;exact Nat.le_of_ble_eq_true (kS k (j5 h1))
 have jS:SimG w U 0 (post σ) ⟨#[],[]⟩ w' D' kG:=⟨hS.below,rfl,rfl,λd av h7 h8=>by have:=gW h7;omega,hS.fld,hS.fdis,hS.obj,hS.blk,hS.disj,hS.fix,hS.dlt⟩
 rcases h1 with rfl | rfl
 ·exact⟨h4.dfr,v,h5,σ,hσ,v,D',kG,_,rfl,jS,h6.move (λ_ _ _ h1 h2=>⟨h1,h2⟩) (λ_ h7=>h7.imp id λ⟨e,he⟩=>⟨e,g3.sub _ _ he.1,he.2⟩) λ_=>rfl⟩
 ·exact⟨h4.dfr,v,h5,σ,hσ,v,D',kG,_,rfl,jS,h6.move (λ_ _ _ h1 h2=>⟨h1,h2⟩) (λ_ h7=>h7.imp id λ⟨e,he⟩=>⟨e,g3.sub _ _ he.1,he.2⟩) λ_=>rfl⟩
theorem c1l(hg:Gd w0 U0 nt ops o gs S)(hd:o.dst=some d)(hn:Nat.blt d nt=true)(h5:Nat.blt d 100000=true){x:Operand}{ts:Array TypeId}{t kt et:TypeId}{n:Nat}{l:List CV}(ho:o.op=.call { callee:=.builtin .len,args := #[x],argTypes:=ts })(ht:ts[0]?=some t)(hu:P.underlying t=some (.map kt et))(hx:ev S x=some (.mref n))(bS:S n=some (.mp l)):AOp P w0 U0 nt ops o (gs++(rd x++[n])) [] S [(d,.val (.i l.length))]:=
 l4 hg hd hn h5 (λk hk=>mem_append_left _ hk) λs hs a w D hv hm=>by
  obtain⟨kN,h1,_⟩:RN n/\a.eval x=hv n/\(a.eval x).oneCell'=true:=n5 hm (λk hk=>hs k (mem_append_right _ (mem_append_left _ hk))) hx;have kH:n4 n:=by unfold RN at kN;unfold n4;omega
  obtain⟨g,es,clock,g1,g2,g3,g4,g5⟩:∃g es clock,hv n=.map (some g)/\w.heap[g]?=some (.map es clock)/\Ents (Us w0 U0 D) w l es.toList/\(∀e∈es,e.born<clock)/\(es.toList.map (λe:MapEntry=>e.born)).Nodup:=hm.obj n _ ((hs n (by simp)).trans bS) kH;rw[g1]at h1;have dD:=Go.MapKept.run_getObj_map (P:=P) g2;have kD:es.size=l.length:=by have:=a1W g3;simpa using this
  refine⟨.int .i64 (l.length:Int),?_,o9 rfl⟩;generalize a.eval=ρ at h1 |-;simp[execOp,ho,resolve,invoke,builtin,Builtin.len_,ht,h1,dD,kD,goInt,run_underlying hu,go_sem]
theorem zbl{P:Program}{w0:World}{U0:UX}{nt:Nat}{ops:Array Oper}{o:Oper}{S:Nat->Option AV}{gs:List Nat}{d:Nat}{x:Operand}{ts:Array TypeId}{t:TypeId}{kt:TypeId}{et:TypeId}{n:Nat}{l:List CV}(p:Gd w0 U0 nt ops o gs S:=by exact gN rfl)(q:o.dst=some d:=by exact rfl)(r:Nat.blt d nt=true:=by exact rfl)(u:Nat.blt d 100000=true:=by exact rfl)(v:o.op=.call { callee:=.builtin .len,args := #[x],argTypes:=ts }:=by exact rfl)(y:ts[0]?=some t:=by exact rfl)(z:P.underlying t=some (.map kt et):=by exact rfl)(A:ev S x=some (.mref n):=by exact rfl)(B:S n=some (.mp l):=by exact rfl):AOp P w0 U0 nt ops o (gs++(rd x++[n])) [] S [(d,.val (.i l.length))]:=c1l p q r u v y z A B
theorem b0t{M:Md}{ops:Array Oper}{Q:Exit->Act->World->Prop}{l2:List Oper}:∀{l:List Oper} {s:AS} {acc:List (List Nat×List (Nat×List Nat)×AS)} {K:AS->List (List Nat×List (Nat×List Nat)×AS)->Prop},Run P w0 U0 nt ops l s acc K->(∀s' t' a w,K s' t'->Sim w0 U0 nt s' a w->wpListIn (B5 M.r) 1 P ops Q l2 (wdA a M.ds) w)->∀a w,Sim w0 U0 nt s a w->wpListIn (B5 M.r) 1 P ops Q (l++l2) (wdA a M.ds) w
 | [],s,acc,K,h,hK,a,w,hs=>hK s acc a w h hs
 | o::os,s,acc,K,⟨R,N,e,h1,h2,h3⟩,hK,a,w,hs=>by
  rw[cons_append];unfold wpListIn;exact a9i (h1 s (λ_ _=>rfl) (q9 h2)) hs (λa' w' gC=>b0t h3 hK a' w' gC)
theorem a9M{Sg:Type}{R:Sg->Prop}{r:Sg->AV}{post:Sg->AS}{id:Nat}{l:List Oper}{Q:Exit->AS->Prop}(j:Nat){f:FuncId}{xs:Array Operand}{ts:Array TypeId}{pre:AS}{args:List AV}{dd:Nat}{oo:Oper}(hj:l[j]?=some oo)(mH:oo.guard=none)(hdo:oo.dst=some dd)(hnd:Nat.blt dd nt=true)(h5d:Nat.blt dd 100000=true)
  (hoo:oo.op=.call { callee:=.value (.func f),args:=xs,argTypes:=ts }) (hc:b9Q P f pre args R r post) (hl:pre.all F5=true) (hq:∀ σ,(post σ).all (G7 (kO (post σ)))=true) (jQ:∀ σ,(kO pre).all (l7 (kO (post σ)))=true) (hr:∀ σ,a3G (kO (post σ)) (r σ)=true) (hnb:∀ σ k v,U0.f k=some v->l7 (kO (post σ)) k=true->l7 (kO pre) k=true)
  (h:Run P w0 U0 nt l.toArray (l.take j) s [] λs1 _=>a4m (look s1) xs.toList=some args/\SubL s1 pre/\∀ σ,R σ->A6 s1 (J6 (kO pre) (kO (post σ)) (kO (post σ)))=true/\Run P w0 U0 nt l.toArray (l.drop (j+1)) ((dd,r σ)::(post σ++s1)) [] λs' _=>Q .normal s'):AWp P w0 U0 nt (.region id l.toArray false) Q s:=by
 intro M a w hs;refine wpIn_region_lit ?_;have gU:l=l.take j++oo::l.drop (j+1):=by
  have gI:j<l.length:=by
   rcases Nat.lt_or_ge j l.length with h | h
   ·exact h
   ·rw[getElem?_eq_none h]at hj;cases hj
  conv=>lhs;rw[<-List.take_append_drop j l]
  congr 1;rw[List.drop_eq_getElem_cons gI];rw[getElem?_eq_getElem gI]at hj;injection hj with hj;rw[hj]
 have key:wpListIn (B5 M.r) 1 P l.toArray (a9j M λe a' w'=>∃s',Q e s'/\Sim w0 U0 nt s' a' w') (l.take j++oo::l.drop (j+1)) (wdA a M.ds) w:=by
  refine b0t h ?_ a w hs;rintro s1 _ a w ⟨hx,hp,oS⟩ ⟨D,hv,h⟩;have hargs:=S9 h (λk _=>rfl) hx;have kJ:Sub s1 pre:=hp.sub;obtain⟨V,v1,v2,v3,v4,v5,v6⟩:=h.lend kJ hl;obtain⟨h1,h2⟩:=hc;have kK:=h2 V w hv ⟨#[],[]⟩ _ v1 v2 (hargs.imp λc _ v fU=>fU.move v6 (λ_ h3=>h3.imp (λh=>h) λ⟨e,he⟩=>⟨e,kJ _ _ he.1,he.2⟩) λ_=>rfl);have he:(execOp a.eval oo).run P w=.ok (.enter f (xs.toList.map a.eval).toArray) w:=by
   have hf:a.eval (.func f)=.func (.func f) #[] #[]:=rfl;have cW:=h1 (xs.map a.eval) w;have gT:(xs.toList.map a.eval).toArray=xs.map a.eval:=by apply Array.ext';simp
   rw[gT];generalize a.eval=ρ at hf cW |-;simp[execOp,hoo,resolve,invoke,Deferred.ofValue,hf,cW]
  unfold wpListIn;rw[if_pos (by simp[Region.wanted,mH])];refine⟨λ_ _=>trivial,?_⟩;rw[X7,Oper.semAt_eq _ _ _ (λc hc=>by rw[hoo]at hc;cases hc),he];refine⟨(λhh=>by cases hh),a7x (kK.mono ?_)⟩;rintro e w' ⟨σ,hσ,v,D',kG,a',rfl,h6,h7⟩;obtain⟨jL,kY⟩:=oS σ hσ;show wpListIn _ _ _ _ _ _ _ _;rw[hdo,<-a0F];obtain⟨D2,gD,h8,h9,_⟩:=h.back kJ hl (hq σ) (jQ σ) (q9 jL) (hnb σ) v3 v4 v5 v2 h6;exact a0f kY (λs' t' a w h1 h2=>⟨a,rfl,s',h1,h2⟩) _ _ ⟨D2,gD,h8.put (bL hnd) (bL h5d) (h9 (r σ) v (hr σ) h7)⟩
 rw[<-gU]at key;exact key
end
end
noncomputable abbrev b1y(b ck:Nat)(bs:List Nat)(c:Cl):AS:=[(450001,.obj),(35500100,.sl 400001 0 c.ns.length 5),(35500101,.mref 300003),(35500102,.sl 300002 0 c.ps.length 2),(400001,.mrow 194 5 (c.ns.map Nd.cv)),(300003,.stm (c.vr.map vrv) b ck bs),(300002,.mrow 207 2 (c.ps.map psv))]
set_option maxHeartbeats 2000000 in
theorem b2n(b ck:Nat)(bs:List Nat)(vr:List (Int×Nat))(ps:List (Nat×Nat))(k:Nat)(ns:List Nd)(n:Nat)(r:List Nd×Nat)(hc:o8 k ns n=some r)(cX:upOk ns)(hn:n<ns.length)(hl:ns.length<=1000000):r8 Tryz.prog 156 (b1y b ck bs ⟨ns,vr,ps⟩) [.bp 350001 0 [],.val (.i (n:Int))] (.val (.i (r.2:Int))) (b1y b ck bs ⟨r.1,vr,ps⟩):=by
 refine l6 Tryz.func156 Tryz.ntmps156 rfl rfl rfl rfl rfl rfl ?_;intro w U hU;refine qz<|nc ze ?_;refine aS<|aB (w8 (λj s=>∃ns n,o8 j ns n=some r/\upOk ns/\n<ns.length/\ns.length<=1000000/\s=(0,AV.bp 350001 0 [])::(1,.val (.i (n:Int)))::b1y b ck bs ⟨ns,vr,ps⟩) (n:=k) (s':=(0,AV.bp 350001 0 [])::(1,.val (.i (n:Int)))::b1y b ck bs ⟨ns,vr,ps⟩) (a7 ⟨rfl,rfl,rfl,rfl,rfl,rfl,rfl,rfl,rfl,trivial⟩) ⟨ns,n,hc,cX,hn,hl,rfl⟩ ?_);rintro j s ⟨ns,n,hc,cX,hn,hl,rfl⟩;cases j with
 | zero=>cases hc
 | succ j =>
 rw[o8]at hc;obtain⟨x,hx⟩:=Q9 hn;have kT:=Nd.map_at hx;have oP:nU ns n=x.up:=by unfold nU;rw[s6 hx]
 have fZ:(ns.map Nd.cv).length=ns.length:=length_map ..;refine aS<|qz<|nc zl<|nc z5<|nc zg<|nc z7<|nc zl<|nc (zO (k:=n))<|nc z4<|nc (zP (G:=kT))<|nc zl<|nc z8 ?_;refine aC rfl (λkF=>?_) (λkF=>?_)
 ·have kF:x.up≠n:=by intro e;rw[e]at kF;simp at kF
  rw[if_neg (by rw[oP];exact kF)]at hc;have nV:x.up<ns.length:=by rw[<-oP];exact cX n hn
  obtain⟨y,hy⟩:=Q9 nV;have dW:=Nd.map_at hy;have wR:nU ns (nU ns n)=y.up:=by rw[oP];unfold nU;rw[s6 hy]
  rw[wR]at hc;have jA:y.up<ns.length:=by rw[<-wR];exact cX _ (by rw[oP];exact nV)
  refine aK<|aB<|aS<|aD (by kernel_rfl) (by kernel_rfl) ?_;refine nc zl<|nc z5<|nc zg<|nc z7<|nc zl<|nc zl<|nc z5<|nc zg<|nc z7<|nc zl<|nc z5<|nc zg<|nc z7<|nc zl<|nc (zO (k:=n))<|nc z4<|nc (zP (G:=kT))<|nc (zO (k:=x.up))<|nc z4<|nc (zP (G:=dW))<|nc (zO (k:=n))<|nc z4<|nc (zR (F:=kT)) ?_;refine⟨by kernel_rfl,?_⟩;obtain⟨ns1,h1⟩:∃ns1,ns1=setUp ns n y.up:=⟨_,rfl⟩
  have cF:ns1.map Nd.cv=(ns.map Nd.cv).set n (Nd.cw { x with up:=y.up }):=by rw[h1];exact R3 hx
  have fA:ns1.length=ns.length:=by rw[h1,I7]
  have fE:ns1[n]?=some { x with up:=y.up }:=by rw[h1];exact b1n hx
  have tD:=Nd.map_at fE;have tE:nU ns1 n=y.up:=by unfold nU;rw[s6 fE]
  rw[<-h1,tE]at hc;have wS:(ns1.map Nd.cv).length=ns1.length:=length_map ..;refine AWp.wk (a7 (s':=(0,AV.bp 350001 0 [])::(1,.val (.i (n:Int)))::b1y b ck bs ⟨ns1,vr,ps⟩) ⟨rfl,rfl,rfl,?_,rfl,rfl,?_,rfl,rfl,trivial⟩) ?_
  ·show _=some (AV.sl 400001 0 ns1.length 5);rw[fA];rfl
  ·show _=some (AV.mrow 194 5 (ns1.map Nd.cv));rw[cF];rfl
  refine aR<|nc zl<|nc z5<|nc zg<|nc z7<|nc zl<|nc (zO (k:=n))<|nc z4<|nc (zP (G:=tD))<|nc ze ?_;exact⟨j,(0,AV.bp 350001 0 [])::(1,.val (.i (y.up:Int)))::b1y b ck bs ⟨ns1,vr,ps⟩,by omega,⟨ns1,y.up,hc,by rw[h1];exact cX.set jA,by rw[fA];exact jA,by rw[fA];exact hl,rfl⟩,a7 ⟨rfl,rfl,rfl,rfl,rfl,rfl,rfl,rfl,rfl,trivial⟩⟩
 ·have kF:x.up=n:=by have:=of_decide_eq_false kF;simp only[ne_eq,Decidable.not_not]at this;omega
  rw[if_pos (by rw[oP];exact kF)]at hc;cases hc;refine aE<|qz<|nc zl<|nc ze ?_;exact aT ⟨.inr rfl,_,Wk.refl _,rfl,rfl,rfl,rfl,rfl,rfl,rfl,rfl,trivial⟩
def N2(vr:List (Int×Nat))(g:Nat->Tm)(js:List Nat):List Bd:=js.map λj=>⟨(vr.getD j (0,0)).1,g (vr.getD j (0,0)).2⟩
theorem b6P{l:List Nat}(h:l.Nodup):∀{i j x:Nat},l[i]?=some x->l[j]?=some x->i=j:=by
 induction l with
 | nil=>intro i j x h1;simp at h1
 | cons y l ih =>
  intro i j x h1 h2;rw[nodup_cons]at h;cases i with
  | zero =>
   cases j with
   | zero=>rfl
   | succ j =>
    simp at h1 h2;subst h1;exact absurd (mem_of_getElem? h2) h.1
  | succ i =>
   cases j with
   | zero =>
    simp at h1 h2;subst h2;exact absurd (mem_of_getElem? h1) h.1
   | succ j =>
    simp at h1 h2;rw[ih h.2 h1 h2]
theorem b2J{n:Nat}{js:List Nat}(hn:js.Nodup)(hl:∀j∈js,j<n)(ha:∀j,j<n->j∈js):js.Perm (List.range n):=
 (List.perm_ext_iff_of_nodup hn List.nodup_range).2 λj=>by rw[List.mem_range];exact⟨hl j,ha j⟩
theorem a7j{n:Nat}{l:List Nat}(hn:l.Nodup)(hl:∀j∈l,j<n):l.length<=n:=by
 have h:l.Perm ((List.range n).filter λx=>decide (x∈l)):=(List.perm_ext_iff_of_nodup hn (List.nodup_range.filter _)).2 λx=>by rw[List.mem_filter,List.mem_range,decide_eq_true_eq];exact⟨λh=>⟨hl x h,h⟩,λh=>h.2⟩
 have h2:=length_filter_le (λx=>decide (x∈l)) (List.range n);rw[h.length_eq];rw[List.length_range]at h2;exact h2
theorem b2c{vr:List (Int×Nat)}{g:Nat->Tm}{js:List Nat}(h:js.Perm (List.range vr.length)):∃vr':List (Int×Nat),vr'.Perm vr/\N2 vr g js=vr'.map λp=>(⟨p.1,g p.2⟩:Bd):=by
 refine⟨js.map λj=>vr.getD j (0,0),?_,by unfold N2;rw[map_map];rfl⟩;refine(h.map _).trans ?_;have:(List.range vr.length).map (λj=>vr.getD j (0,0))=vr:=by
  apply List.ext_getElem?;intro i;rw[getElem?_map];rcases Nat.lt_or_ge i vr.length with hi | hi
  ·rw[List.getElem?_range hi,Option.map_some,getD_eq_getElem?_getD,getElem?_eq_getElem hi];rfl
  ·rw[getElem?_eq_none (by simpa using hi),getElem?_eq_none hi];rfl
 rw[this]
set_option maxHeartbeats 8000000 in
theorem b5C(fu:Nat)(c0:Cl)(od:List Nat)(q:Cl×List Tm)(hq:C2 fu od.reverse c0 (List.replicate c0.ns.length tm0)=some q)(hF:FitU c0)(mY:q.1.ns.length=c0.ns.length)(oR:∀n∈od,n<c0.ns.length)(tI:od.length<=1000){H r:Nat->Nat}{E}(hC:ClsC q.1 H r E)(xJ:FitU q.1)(fN:R1 q.1.vr)(dK:q.1.vr.length<=100000) :
  b9Q (Sg:=List Bd×Cl) Tryz.prog 124 (v7 c0) [.bp 350001 0 [],.val (o7 od)] (fun σ=>∃vr':List (Int×Nat),vr'.Perm q.1.vr/\σ.1=vr'.map λp=>(⟨p.1,q.2.getD (H p.2) tm0⟩:Bd)) (fun σ => .val (.lst (σ.1.map Bd.cv))) (fun σ=>v7 σ.2):=by
 have iA:=b2O fu c0 od q hq hF mY oR tI;have eY:q.2.length=c0.ns.length:=(TI.all (t:=(c0,List.replicate c0.ns.length tm0)) (N:=c0.ns.length) ⟨hF,by simp,Nat.le_refl _⟩ (λn hn=>oR n (mem_reverse.1 hn)) hq).1.out;obtain⟨N,hN⟩:∃N,N=c0.ns.length:=⟨_,rfl⟩
 have hNl:N<=1000:=by rw[hN];exact Nat.le_trans (D8 _) hF.big
 rw[<-hN]at iA mY eY;obtain⟨c,out⟩:=q;simp only at hC xJ fN dK mY eY iA |-;obtain⟨ns0,vr,ps⟩:=c;simp only at hC xJ fN dK mY eY iA |-;have hvm:∀(j:Nat) (p:Int×Nat),vr[j]?=some p->p.2<N:=λj p hp=>by have:=(R4 fN.1 (v:=p.1) (m:=p.2)).2 (mem_of_getElem? hp);have:=(hC.vrt p.1 p.2 this).1;simp only at this;omega
 have bU:(vr.map vrv).length=vr.length:=length_map ..;refine b6U Tryz.func124 Tryz.ntmps124 rfl rfl rfl rfl rfl (fun σ=>rfl) ?_;intro w U hU;refine qz<|nc ze ?_;refine qz<|nc zl<|nc zl<|nc (zW (z:=iA) (G:=i8 (by first | rfl | kernel_rfl)))<|nc ze ?_;refine qz<|nc zl<|nc z5<|nc zg<|nc z7<|nc zbl<|ne (zbk (k:=(vr.map vrv).length) 200017)<|nc ze ?_;refine AWp.wk ((a7 (s':=(0,AV.bp 350001 0 [])::(5,.sl 300005 0 N 2)::(6,.sl 200017 0 0 3)::(200017,.mrow 112 3 [])::(300005,.mrow 41 2 (out.map Tm.cv))::v7 ⟨ns0,vr,ps⟩) ⟨rfl,rfl,rfl,rfl,rfl,rfl,rfl,rfl,rfl,rfl,rfl,rfl,trivial⟩).trans (y6 300001 400001 rfl rfl (b8P hU (by kernel_rfl)) (by kernel_rfl) (by kernel_rfl) (by kernel_rfl))) ?_;refine AWp.stamps 300003 (l:=vr.map vrv) rfl rfl λb ck bs jE bK hbc=>?_;rw[bU]at jE;refine aS<|qz<|nc zl<|nc z5<|nc zg<|nc z7<|ne (zbm 300022) ?_;obtain⟨g,hg⟩:∃g:Nat->Tm,g=λm=>out.getD (H m) tm0:=⟨_,rfl⟩
 obtain⟨st,dJ⟩:∃st:List Nat->List Nd->AS,st=λjs ns1=>(0,AV.bp 350001 0 [])::(5,.sl 300005 0 N 2)::(6,.sl 200017 0 js.length 3)::(22,.mref 300022)::(300022,.itr b ck ck (js.map λj=>bs.getD j 0))::(200017,.mrow 112 3 ((N2 vr g js).map Bd.cv))::(300005,.mrow 41 2 (out.map Tm.cv))::b1y b ck bs ⟨ns1,vr,ps⟩:=⟨_,rfl⟩
 refine aB (w8 (λm s=>∃js ns1,m+js.length=vr.length/\js.Nodup/\(∀j∈js,j<vr.length)/\ClsC ⟨ns1,vr,ps⟩ H r E/\FitU ⟨ns1,vr,ps⟩/\ns1.length=N/\s=st js ns1) (n:=vr.length) (s':=st [] ns0) (by rw[dJ];exact a7 ⟨rfl,rfl,rfl,rfl,rfl,rfl,rfl,rfl,rfl,rfl,rfl,rfl,rfl,rfl,trivial⟩) ⟨[],ns0,rfl,List.nodup_nil,(λj hj=>by cases hj),hC,xJ,mY,rfl⟩ ?_);rintro m s ⟨js,ns1,hm,uM,gI,hC1,fL,fA,rfl⟩;rw[dJ];refine aS (b6i (n:=300003) (k:=.i64) rfl rfl rfl rfl rfl rfl rfl rfl rfl (a3U vr) hbc (Nat.le_refl _) (λdR=>?_) (λj x i vc hj hl hx=>?_))
 ·refine⟨_,_,_,aX (gN rfl) rfl rfl rfl rfl rfl rfl,(by first | rfl | kernel_rfl),?_⟩;refine aS<|aC rfl (λhc=>by cases hc) (λ_=>aE ?_);have hcov:∀j,j<vr.length->j∈js:=λj hj=>by
   have hjb:j<bs.length:=by omega
   have h1:=dR (bs[j]) (List.getElem_mem hjb);obtain⟨j',h2,h3⟩:=mem_map.1 h1;have hj':=gI j' h2;have xK:j'<bs.length:=by omega
   rw[getD_eq_getElem?_getD,getElem?_eq_getElem xK]at h3;have h3:bs[j']=bs[j]:=h3;have:=b6P bK (getElem?_eq_getElem xK) (by rw[h3];exact getElem?_eq_getElem hjb);rw[<-this];exact h2
  obtain⟨vr',hp,hb⟩:=b2c (g:=g) (b2J uM gI hcov);have qU:((N2 vr g js).map Bd.cv).length=js.length:=by rw[length_map];unfold N2;rw[length_map]
  refine AWp.wk (a9w 6 200017 rfl rfl rfl (.inr (by decide)) (by rw[qU];omega) (s':=b1y b ck bs ⟨ns1,vr,ps⟩) ⟨rfl,rfl,rfl,rfl,rfl,rfl,rfl,trivial⟩ (by kernel_rfl)) ?_;rw[List.drop_zero,List.take_of_length_le (by rw[qU];omega)];refine qz<|nc zl<|nc ze ?_;refine aT ⟨.inr rfl,(N2 vr g js,⟨ns1,vr,ps⟩),⟨vr',hp,by rw[hb,hg]⟩,_,((a7 (s':=(4,AV.val (.lst ((N2 vr g js).map Bd.cv)))::b1y b ck bs ⟨ns1,vr,ps⟩) ⟨rfl,rfl,rfl,rfl,rfl,rfl,rfl,rfl,trivial⟩).trans (b8a 300003 rfl rfl)).trans ((a7 (s':=(4,AV.val (.lst ((N2 vr g js).map Bd.cv)))::Q3 ⟨ns1,vr,ps⟩) ⟨rfl,rfl,rfl,rfl,rfl,rfl,rfl,rfl,trivial⟩).trans (y6 400001 300001 rfl rfl (a6A U (by decide)) (by kernel_rfl) (by kernel_rfl) (by kernel_rfl))),rfl,rfl,rfl,rfl,rfl,rfl,rfl,rfl,trivial⟩
 ·refine⟨_,_,_,aX (gN rfl) rfl rfl rfl rfl rfl rfl,(by first | rfl | kernel_rfl),?_⟩;refine aS<|aC rfl (λ_=>aK ?_) (λhc=>by cases hc);have hjl2:j<vr.length:=by
   rcases Nat.lt_or_ge j bs.length with h | h
   ·omega
   ·rw[getElem?_eq_none h]at hj;cases hj
  obtain⟨p,hp⟩:∃p,vr[j]?=some p:=⟨vr[j],getElem?_eq_getElem hjl2⟩
  have hpi:i=p.1/\vc=.i (p.2:Int):=by rw[getElem?_map,hp]at hl;have hl:some (CV.row [.i p.1,.i (p.2:Int)])=some (.row [.sc (.int .i64 i),vc]):=hl;injection hl with hl;injection hl with _ _ hl;injection hl with hl cB;injection cB with cB;injection hl with _ hl;injection hl with _ hl;exact⟨hl.symm,cB.symm⟩
  obtain⟨rfl,rfl⟩:=hpi;have hpN:=hvm j p hp;obtain⟨ns2,hd,hC2,kM,_⟩:=ClsC.head (r p.2+1) hC1 (n:=p.2) (by omega) (by omega);obtain⟨uO,_,jC⟩:=FitU.head fL (by omega) hd;have hHN:H p.2<N:=by have:H p.2<ns1.length:=jC;omega
  have hdc:=b2n b ck bs vr ps (r p.2+1) ns1 p.2 (ns2,H p.2) hd fL.up (by omega) (by omega);obtain⟨z,hz⟩:∃z,out[H p.2]?=some z:=⟨out[H p.2]'(by omega),getElem?_eq_getElem (by omega)⟩
  have iR:=Tm.map_at hz;have fQ:(out.map Tm.cv).length=out.length:=length_map ..;have hgz:g p.2=z:=by rw[hg];show out.getD (H p.2) tm0=z;rw[getD_eq_getElem?_getD,hz];rfl
  have qU:((N2 vr g js).map Bd.cv).length=js.length:=by rw[length_map];unfold N2;rw[length_map]
  have hbl3:(N2 vr g js).length=js.length:=by unfold N2;rw[length_map]
  have hbz:=Bd.size_all (N2 vr g js);have hjs:js.length<=100000:=by omega
  have tO:j∉js:=λjW=>hx (mem_map.2 ⟨j,jW,by rw[getD_eq_getElem?_getD,hj];rfl⟩);have xL:N2 vr g (js++[j])=N2 vr g js++[⟨p.1,z⟩]:=by unfold N2;rw[map_append,map_singleton,getD_eq_getElem?_getD,hp];show _++[(⟨p.1,g p.2⟩:Bd)]=_;rw[hgz]
  have hnd:(js++[j]).Nodup:=by rw[List.nodup_append];exact⟨uM,by simp,λa ha b hb=>by rw[mem_singleton]at hb;subst hb;exact λe=>tO (e▸ha)⟩
  have kA:∀x∈js++[j],x<vr.length:=λx hx=>by
   rcases mem_append.1 hx with h | h
   ·exact gI x h
   ·rw[mem_singleton]at h;omega
  refine aB<|qz<|nc (zbn (n:=300003) (E:=hj) (F:=hl))<|nc zE<|nc zE<|nc ze<|nc ze ?_;refine aR<|nc zl<|nc zl<|nc zl<|nc zl<|nc zl<|nc (zW (z:=hdc) (G:=i8 (by first | rfl | kernel_rfl)))<|nc (zO (k:=H p.2))<|nc (zP (G:=iR))<|nc zC<|nc zy<|ne (zba 200038)<|nc ze ?_;refine⟨m-1,st (js++[j]) ns2,?_,⟨js++[j],ns2,?_,?_,?_,hC2,uO,by omega,by rw[dJ]⟩,?_⟩
  ·have h2:=a7j hnd kA;rw[length_append]at h2;simp at h2;omega
  ·have h2:=a7j hnd kA;rw[length_append]at h2 |-;simp at h2 |-;omega
  ·exact hnd
  ·exact kA
  ·rw[dJ];refine(a7 (s':=(0,AV.bp 350001 0 [])::(5,.sl 300005 0 N 2)::(6,.sl 200038 0 (js++[j]).length 3)::(22,.mref 300022)::(300022,.itr b ck ck ((js++[j]).map λj=>bs.getD j 0))::(200038,.mrow 112 3 ((N2 vr g (js++[j])).map Bd.cv))::(300005,.mrow 41 2 (out.map Tm.cv))::b1y b ck bs ⟨ns2,vr,ps⟩) ⟨rfl,rfl,?_,rfl,?_,?_,rfl,rfl,rfl,rfl,rfl,rfl,rfl,rfl,trivial⟩).trans (B1 200038 200017 rfl rfl (by kernel_rfl) (by kernel_rfl))
   ·rw[length_append,<-qU];rfl
   ·rw[map_append,map_singleton,getD_eq_getElem?_getD,hj];rfl
   ·rw[xL,map_append,map_singleton];rfl
section
variable{P:Program}{w0:World}{U0:UX}{nt:Nat}{Q:Exit->AS->Prop}{s:AS}
variable{ops:Array Oper}{o:Oper}{gs:List Nat}{S:Nat->Option AV}{d:Nat}
end
theorem c2U{c:Cl}{H r:Nat->Nat}{E}(h:ClsC c H r E)(hv:R1 c.vr):c.vr.length<=c.ns.length:=by
 have hn:(c.vr.map Prod.snd).Nodup:=by have h1:c.vr.Pairwise (λa b=>a.1≠b.1):=List.pairwise_map.1 hv.1;refine List.pairwise_map.2 (List.Pairwise.imp_of_mem (fun{a b} ha hb oO e=>oO ?_) h1);have e1:=(h.vrt a.1 a.2 (H3 hv.1 ha)).2;have e2:=(h.vrt b.1 b.2 (H3 hv.1 hb)).2;rw[e]at e1;omega
 have:=a1M c.ns.length hn (λx hx=>by obtain⟨p,hp,rfl⟩:=mem_map.1 hx;exact(h.vrt p.1 p.2 (H3 hv.1 hp)).1)
 simpa using this
def ToldU(l:List (Tm×Tm))(r:List Bd×Bool):Prop:=(r.2=false/\r.1=[]/\∀ τ,¬ uni τ l)\/(r.2=true/\∃s:List Bd,Mgu (f0 s) l/\(∀b∈s,0<=b.v)/\(∀v,0<=v->f0 s v=n7 v\/((f0 s v).rng/\(f0 s v).size<=90000000000))/\r.1=A8 s)
theorem ToldU.no{l:List (Tm×Tm)}{r:List Bd×Bool}(h:ToldU l r)(hn:∀ τ,¬ uni τ l):r=([],false):=by
 rcases h with⟨h1,h2,_⟩ | ⟨_,s,hs,_⟩
 ·cases r;simp_all
 ·exact absurd hs.uni (hn _)
theorem ToldU.yes{l:List (Tm×Tm)}{r:List Bd×Bool}(h:ToldU l r){u:List Bd}(hu:Mgu (f0 u) l)(eR:∀b∈u,0<=b.v):r=(A8 u,true)/\∀v,0<=v->f0 u v=n7 v\/((f0 u v).rng/\(f0 u v).size<=90000000000):=by
 rcases h with⟨_,_,h3⟩ | ⟨h1,s,hs,h0,hb,h2⟩
 ·exact absurd hu.uni (h3 _)
 ·refine⟨?_,λv hv=>by rw[hs.one hu hv];exact hb v hv⟩;rw[<-b7N h0 eR hs hu,<-h2,<-h1]
theorem b4X{l:List (Tm×Tm)}{r:List Bd×Bool}(h:ToldU l r){vr vr':List (Int×Nat)}(hv:R1 vr)(rJ:∀p∈vr,p.1<=9223372036854775807)(hp:vr'.Perm vr){g:Nat->Tm}{u:List Bd}(hu:u=vr'.map λp=>(⟨p.1,g p.2⟩:Bd))(hm:∀s:List Bd,(∀v,d9 s v=(p8 vr v).map g)->Mgu (f0 s) l):r=(A8 u,true)/\(u.map Bd.v).Nodup/\bdsOk u:=by
 have hf:∀v,d9 u v=(p8 vr v).map g:=λv=>by rw[hu];exact a3N hv.1 hp g v
 have eR:∀b∈u,0<=b.v:=λb hb=>by rw[hu]at hb;obtain⟨p,eA,rfl⟩:=mem_map.1 hb;exact hv.2 p (hp.mem_iff.1 eA)
 obtain⟨h1,h2⟩:=h.yes (hm u hf) eR;refine⟨h1,?_,λb hb=>?_⟩
 ·rw[hu,map_map];exact(hp.map Prod.fst).nodup_iff.2 hv.1
 ·have h3:=h2 b.v (eR b hb);have e:f0 u b.v=b.t:=by unfold f0;rw[hf];rw[hu]at hb;obtain⟨p,eA,rfl⟩:=mem_map.1 hb;show((p8 vr p.1).map g).getD _=_;rw[H3 hv.1 (hp.mem_iff.1 eA)];rfl
  rw[e]at h3;rcases h3 with h3 | h3
  ·rw[h3];have kP:b.v<=9223372036854775807:=by rw[hu]at hb;obtain⟨p,eA,rfl⟩:=mem_map.1 hb;exact rJ p (hp.mem_iff.1 eA)
   have jD:=eR b hb;exact⟨b0F (by omega) (by omega),by rw[Tm.size_var (by rw[s7];omega)];decide⟩
  ·exact h3
theorem a2t:∀E:Nat,2 ^ E<=3 ^ E
 | 0=>Nat.le_refl _
 | E+1=>by
  have:=a2t E;rw[Nat.pow_succ,Nat.pow_succ];omega
theorem a3b:∀k:Nat,k*2 ^ k<=3 ^ k
 | 0=>by decide
 | 1=>by decide
 | 2=>by decide
 | k+3=>by
  have h:=a3b (k+2);have e1:(k+3)*2 ^ (k+3)=(2*(k+3))*2 ^ (k+2):=by rw[Nat.pow_succ 2 (k+2),Nat.mul_comm (2 ^ (k+2)) 2,<-Nat.mul_assoc,Nat.mul_comm (k+3) 2]
  have e2:3 ^ (k+3)=3*3 ^ (k+2):=by rw[Nat.pow_succ 3 (k+2),Nat.mul_comm]
  rw[e1,e2];have h2:(2*(k+3))*2 ^ (k+2)<=(3*(k+2))*2 ^ (k+2):=Nat.mul_le_mul_right _ (by omega);rw[Nat.mul_assoc 3]at h2;omega
def Big(E s:Nat):Prop:=2 ^ E*(s+1)<=2*3 ^ E
theorem Big.succ{E s:Nat}(h:Big E s):Big (E+1) s:=by
 unfold Big at *;rw[Nat.pow_succ,Nat.pow_succ,Nat.mul_assoc,Nat.mul_left_comm];omega
theorem Big.up{E F s:Nat}(h:Big E s)(hf:E<=F):Big F s:=by
 induction hf with
 | refl=>exact h
 | step _ ih=>exact ih.succ
theorem Big.sum{E:Nat}:∀(l:List Nat),(∀s∈l,Big E s)->2 ^ E*(l.sum+l.length)<=2*l.length*3 ^ E
 | [],_=>by simp
 | s::l,h=>by
  have h1:2 ^ E*(s+1)<=2*3 ^ E:=h s (by simp);have h2:=Big.sum l λx hx=>h x (mem_cons_of_mem _ hx);rw[sum_cons,length_cons,show s+l.sum+(l.length+1)=(s+1)+(l.sum+l.length) by omega,Nat.mul_add,show 2*(l.length+1)*3 ^ E=2*3 ^ E+2*l.length*3 ^ E by rw[Nat.mul_add,Nat.add_mul,Nat.add_comm]];omega
theorem Big.node{E:Nat}(l:List Nat)(h:∀s∈l,Big E s):Big (E+l.length) (1+l.sum):=by
 have h1:=Big.sum l h;have vZ:=a2t E;have hk:=a3b l.length;unfold Big;rw[Nat.pow_add,Nat.pow_add];obtain⟨A,hA⟩:∃A,A=2 ^ E:=⟨_,rfl⟩
 obtain⟨B,hB⟩:∃B,B=3 ^ E:=⟨_,rfl⟩
 rw[<-hA,<-hB]at h1 vZ |-
 match l,h1,hk with
 | [],h1,hk=>simp;omega
 | [s],h1,hk =>
  simp only[sum_cons,List.sum_nil,length_cons,length_nil,Nat.add_zero,Nat.zero_add,Nat.pow_one,Nat.mul_one]at h1 |-;rw[Nat.mul_comm A 2,Nat.mul_assoc,show A*(1+s+1)=A*(s+1)+A by rw[show 1+s+1=(s+1)+1 by omega,Nat.mul_add,Nat.mul_one]];omega
 | s::t::l,h1,hk =>
  obtain⟨m,hm⟩:∃m,m=s::t::l:=⟨_,rfl⟩
  have kD:2<=m.length:=by rw[hm];simp
  rw[<-hm]at h1 hk |-;obtain⟨P,hP⟩:∃P,P=2 ^ m.length:=⟨_,rfl⟩
  obtain⟨Q,hQ⟩:∃Q,Q=3 ^ m.length:=⟨_,rfl⟩
  rw[<-hP,<-hQ]at hk;rw[<-hP,<-hQ];have h2:A*(1+m.sum+1)<=A*(m.sum+m.length):=Nat.mul_le_mul_left _ (by omega);have h3:A*(1+m.sum+1)<=2*m.length*B:=Nat.le_trans h2 h1;have h4:P*(A*(1+m.sum+1))<=P*(2*m.length*B):=Nat.mul_le_mul_left _ h3;have h5:P*(2*m.length*B)=2*(m.length*P*B):=by rw[Nat.mul_assoc 2,Nat.mul_left_comm P 2,<-Nat.mul_assoc P,Nat.mul_comm P m.length]
  have h6:m.length*P*B<=Q*B:=Nat.mul_le_mul_right _ hk;rw[show A*P*(1+m.sum+1)=P*(A*(1+m.sum+1)) by rw[Nat.mul_comm A P,Nat.mul_assoc],Nat.mul_comm B Q];omega
theorem b0N{g:Int->Int}{t:Tm}(hg:∀v∈t.vs,0<=g v):(a8 (λv=>n7 (g v)) t).size=t.size:=by
 induction t using Tm.ind with
 | h f l ih =>
  by_cases hf:f<0
  ·have h1:=hg (-1-f) (by rw[Tm.vs_var (t:=⟨f,l⟩) hf];simp);rw[i9 (t:=⟨f,l⟩) hf,t9,Tm.size_var (t:=⟨f,l⟩) hf];exact Tm.size_var (by rw[s7];show -1-g (-1-f)<0;omega)
  ·rw[Tm.vs_sym (t:=⟨f,l⟩) hf]at hg;rw[c9 (t:=⟨f,l⟩) hf,Tm.size_sym (t:=⟨f,l⟩) hf,Tm.size_sym (t:=⟨f,_⟩) hf,map_map];congr 2;exact List.map_congr_left λt ht=>ih t ht λv hv=>hg v (mem_flatMap.2 ⟨t,ht,hv⟩)
theorem b5r{s:List Bd}{E:List (Tm×Tm)}(h:Mgu (f0 s) E){t:Tm}{u:Int}(hu:u∈(a8 (f0 s) t).vs):d9 (A8 s) u=none:=by
 have eR:=l9 _ u hu;rw[b6D s eR,h.rep_vs hu,if_pos];show(decide ((n7 u).f<0)&&decide (-1-(n7 u).f=u))=true;rw[s7,decide_eq_true (by omega),decide_eq_true (by omega)];rfl
def c1G(S:List Tm):Prop:=∀s∈S,∀p∈s.ps,p∈S
def Hits(S:List Tm)(σ:Int->Tm)(t:Tm):Prop:=∃s∈S,a8 σ t=a8 σ s
def Orig(S:List Tm)(σ:Int->Tm):Prop:=∀v,0<=v->¬ (σ v).f<0->∃s∈S,¬ s.f<0/\a8 σ s=σ v
theorem Hits.sym{S:List Tm}{σ:Int->Tm}{t:Tm}(h:Hits S σ t)(ho:Orig S σ)(hb:∀v,0<=v->(σ v).strip=σ v)(hf:¬ (a8 σ t).f<0):∃s∈S,¬ s.f<0/\a8 σ t=a8 σ s:=by
 obtain⟨s,hs,e⟩:=h;by_cases eE:s.f<0
 ·have h0:0 <= -1-s.f:=by omega
  have e2:a8 σ s=σ (-1-s.f):=by rw[i9 eE,hb _ h0]
  rw[e,e2]at hf;obtain⟨q,hq,mZ,e3⟩:=ho _ h0 hf;exact⟨q,hq,mZ,by rw[e,e2,e3]⟩
 ·exact⟨s,hs,eE,e⟩
theorem a0W{S:List Tm}{f g:Tm->Nat}(h:∀x∈S,f x<=g x):(S.map f).sum<=(S.map g).sum:=by
 induction S with
 | nil=>exact Nat.le_refl _
 | cons a S ih =>
  rw[map_cons,map_cons,sum_cons,sum_cons];have h1:=h a (by simp);have h2:=ih λx hx=>h x (mem_cons_of_mem _ hx);omega
theorem b0g{S:List Tm}{f g:Tm->Nat}{c:Nat}{s:Tm}(hs:s∈S)(hc:f s+c<=g s)(h:∀x∈S,f x<=g x):(S.map f).sum+c<=(S.map g).sum:=by
 induction S with
 | nil=>cases hs
 | cons a S ih =>
  rw[map_cons,map_cons,sum_cons,sum_cons];have h1:=h a (by simp);rcases mem_cons.1 hs with rfl | hs
  ·have:=a0W (S:=S) λx hx=>h x (mem_cons_of_mem _ hx);omega
  ·have:=ih hs λx hx=>h x (mem_cons_of_mem _ hx);omega
def arN(S:List Tm)(σ:Int->Tm)(n:Nat):Nat:=(S.map λs=>if(a8 σ s).size<=n then s.ps.length else 0).sum
theorem b7e{S:List Tm}{σ:Int->Tm}{n m:Nat}(h:n<=m):arN S σ n<=arN S σ m:=a0W λx _=>by
 split
 ·rw[if_pos (by omega)];exact Nat.le_refl _
 ·exact Nat.zero_le _
theorem Big.one(E:Nat):Big E 1:=by
 unfold Big;have:=a2t E;omega
theorem c0m{S:List Tm}{σ:Int->Tm}(hc:c1G S)(ho:Orig S σ)(hb:∀v,0<=v->(σ v).strip=σ v):∀(n:Nat),∀s∈S,¬ s.f<0->(a8 σ s).size<=n->Big (arN S σ n) (a8 σ s).size:=by
 intro n
 induction n with
 | zero=>intro s _ _ h;have:=Tm.size_pos (a8 σ s);omega
 | succ n ih =>
  intro s hs hf hn;by_cases cS:(a8 σ s).size<=n
  ·exact(ih s hs hf cS).up (b7e (by omega))
  have kC:(a8 σ s).size=n+1:=by omega
  have gR:s.ps=s.l:=Tm.ps_of_sym (by omega);have he:a8 σ s=⟨s.f,s.l.map (a8 σ)⟩:=c9 hf;have h1:(a8 σ s).size=1+((s.l.map (a8 σ)).map Tm.size).sum:=by rw[he];exact Tm.size_sym (t:=⟨s.f,s.l.map (a8 σ)⟩) hf
  have kX:∀x∈(s.l.map (a8 σ)).map Tm.size,Big (arN S σ n) x:=by
   intro x hx;rw[map_map]at hx;obtain⟨p,hp,rfl⟩:=mem_map.1 hx;show Big _ (a8 σ p).size;have gE:p∈S:=hc s hs p (by rw[gR];exact hp);have kA:(a8 σ p).size<(a8 σ s).size:=Tm.size_part (by rw[he,Tm.ps_of_sym (by show 0<=s.f;omega)];exact mem_map.2 ⟨p,hp,rfl⟩);by_cases hv:(a8 σ p).f<0
   ·rw[Tm.size_var hv];exact Big.one _
   ·obtain⟨q,hq,mZ,e⟩:=Hits.sym ⟨p,gE,rfl⟩ ho hb hv;rw[e]at kA |-;exact ih q hq mZ (by omega)
  have h2:=Big.node _ kX;rw[<-h1]at h2;refine h2.up ?_;rw[length_map,length_map];refine b0g hs ?_ λx _=>?_
  ·rw[if_neg (by omega),if_pos (by omega),gR];omega
  ·split
   ·rw[if_pos (by omega)];exact Nat.le_refl _
   ·exact Nat.zero_le _
def arA(S:List Tm):Nat:=(S.map λs=>s.ps.length).sum
theorem a0a{S:List Tm}{σ:Int->Tm}(hc:c1G S)(ho:Orig S σ)(hb:∀v,0<=v->(σ v).strip=σ v){t:Tm}(h:Hits S σ t):Big (arA S) (a8 σ t).size:=by
 by_cases hv:(a8 σ t).f<0
 ·rw[Tm.size_var hv];exact Big.one _
 ·obtain⟨q,hq,mZ,e⟩:=h.sym ho hb hv;rw[e];refine(c0m hc ho hb _ q hq mZ (Nat.le_refl _)).up (a0W λx _=>?_);split
  ·exact Nat.le_refl _
  ·exact Nat.zero_le _
theorem a2i(S T:List Tm):arA (S++T)=arA S+arA T:=by unfold arA;rw[map_append,List.sum_append]
theorem T4(t:Tm):arA t.flat+1=t.size:=by
 induction t using Tm.indp with
 | h t ih =>
  have:∀l:List Tm,(∀s∈l,arA s.flat+1=s.size)->arA (l.flatMap Tm.flat)+l.length=(l.flatMap Tm.flat).length:=by
   intro l
   induction l with
   | nil=>intro _;rfl
   | cons a l ih2 =>
    intro h;have h1:=h a (by simp);have h2:=ih2 λs hs=>h s (mem_cons_of_mem _ hs);unfold Tm.size at h1;rw[flatMap_cons,a2i,length_append,length_cons];omega
  have h3:=this t.ps ih;rw[Tm.size_eq,Tm.flat_eq];show((t::t.ps.flatMap Tm.flat).map λs:Tm=>s.ps.length).sum+1=_;rw[map_cons,sum_cons];have h4:arA (t.ps.flatMap Tm.flat)=((t.ps.flatMap Tm.flat).map λs:Tm=>s.ps.length).sum:=rfl;omega
theorem a7e(t:Tm):c1G t.flat:=by
 induction t using Tm.indp with
 | h t ih =>
  intro s hs p hp;rw[Tm.flat_eq]at hs |-;rcases mem_cons.1 hs with rfl | hs
  ·refine mem_cons_of_mem _ (mem_flatMap.2 ⟨p,hp,?_⟩);rw[Tm.flat_eq];simp
  ·obtain⟨q,hq,hs⟩:=mem_flatMap.1 hs;exact mem_cons_of_mem _ (mem_flatMap.2 ⟨q,hq,ih q hq s hs p hp⟩)
def K9(l:List (Tm×Tm)):List Tm:=l.flatMap λp=>p.1.flat++p.2.flat
theorem R6(l:List (Tm×Tm)):c1G (K9 l):=by
 intro s hs p hp;obtain⟨q,hq,hs⟩:=mem_flatMap.1 hs;refine mem_flatMap.2 ⟨q,hq,?_⟩;rcases mem_append.1 hs with hs | hs
 ·exact mem_append_left _ (a7e _ s hs p hp)
 ·exact mem_append_right _ (a7e _ s hs p hp)
theorem b0m{l:List (Tm×Tm)}{p:Tm×Tm}(h:p∈l):p.1∈K9 l/\p.2∈K9 l:=by
 refine⟨mem_flatMap.2 ⟨p,h,mem_append_left _ ?_⟩,mem_flatMap.2 ⟨p,h,mem_append_right _ ?_⟩⟩<;>(rw[Tm.flat_eq];simp)
theorem a8N:∀l:List (Tm×Tm),(∀p∈l,p.1.size<=16/\p.2.size<=16)->arA (K9 l)<=30*l.length
 | [],_=>Nat.le_refl _
 | p::l,h=>by
  have h1:=h p (by simp);have h2:=a8N l λq hq=>h q (mem_cons_of_mem _ hq);have e:K9 (p::l)=(p.1.flat++p.2.flat)++K9 l:=flatMap_cons;have h3:=T4 p.1;have h4:=T4 p.2;rw[e,a2i,a2i,length_cons];omega
theorem b3d{s E:Nat}(hE:E<=60)(h:Big E s):s<=90000000000:=by
 have h:=h.up hE;unfold Big at h;have e1:(2:Nat) ^ 60=1152921504606846976:=by decide
 have e2:(3:Nat) ^ 60=42391158275216203514294433201:=by decide
 rw[e1,e2]at h;omega
structure a9a(V:List Int)(S:List Tm)(K:Nat)(s:List Bd)(E:List (Tm×Tm)):Prop where
 mgu:Mgu (f0 s) E
 bare:O3 s
 inV:inV V s
 orig:Orig S (f0 s)
 len:s.length+frN V s<=K
 num:∀b∈s,b.v∈V
theorem c0d{V:List Int}(hV:∀v∈V,0<=v){n:Nat}{s:List Bd}{a b:Tm}{E:List (Tm×Tm)}{r}(e:rU n s a b=some r)(hm:Mgu (f0 s) E)(hb:O3 s)(hi:inV V s)(ha:∀u∈a.vs,u∈V)(tC:∀u∈b.vs,u∈V):RSpec V E [(a,b)] s r:=by
 obtain⟨m,r',e',h⟩:=b4x hV _ _ s a b E rfl rfl hm hb hi ha tC;have h1:=a9q (Nat.le_max_left n m) _ _ _ _ e;have h2:=a9q (Nat.le_max_right n m) _ _ _ _ e';rw[h1]at h2;cases h2;exact h
theorem c1q(s:List Bd)(x:Int)(t:Tm):(a6f s x t).length=s.length+1:=by unfold a6f;simp
theorem Orig.bnd{S:List Tm}{s:List Bd}(ho:Orig S (f0 s))(hb:O3 s){x:Int}{b:Tm}(dZ:x∉(a8 (f0 s) b).vs)(hh:Hits S (f0 s) b):Orig S (f0 (a6f s x (a8 (f0 s) b))):=by
 have hB:(a8 (f0 s) b).strip=a8 (f0 s) b:=t7 _ _;have hr:∀t,a8 (f0 (a6f s x (a8 (f0 s) b))) t=a8 (Y8 x (a8 (f0 s) b)) (a8 (f0 s) t):=λt=>by rw[a2f];exact y9 λv hv=>a2o hB (l9 _ v hv)
 intro v hv hf;rw[a2o hB hv]at hf |-;by_cases h1:(f0 s v).f<0
 ·obtain⟨w,hw⟩:∃w,w = -1-(f0 s v).f:=⟨_,rfl⟩
  have e1:a8 (Y8 x (a8 (f0 s) b)) (f0 s v)=(Y8 x (a8 (f0 s) b) w).strip:=by rw[i9 h1,hw]
  rw[e1]at hf |-;unfold Y8 at hf |-;by_cases hx:w=x
  ·rw[if_pos hx,hB]at hf |-;obtain⟨q,hq,mZ,e⟩:=hh.sym ho (λv hv=>L2 hb v) hf;refine⟨q,hq,mZ,?_⟩;rw[hr,<-e,b3y dZ,hB]
  ·rw[if_neg hx,t9,s7]at hf;omega
 ·obtain⟨q,hq,mZ,e⟩:=ho v hv h1;exact⟨q,hq,mZ,by rw[hr,e]⟩
structure Way(V:List Int)(S:List Tm)(s:List Bd)(a:Tm):Prop where
 vs:∀u∈a.vs,u∈V
 hits:Hits S (f0 s) a
theorem c0e{V:List Int}{s:List Bd}{x:Int}{t:Tm}(h:∀b∈s,b.v∈V)(hx:x∈V):∀b∈a6f s x t,b.v∈V:=λb hb=>by
 rcases mem_append.1 hb with hb | hb
 ·obtain⟨c,hc,rfl⟩:=mem_map.1 hb;exact h c hc
 ·rw[mem_singleton]at hb;rw[hb];exact hx
theorem b8r{V:List Int}(hV:∀v∈V,0<=v){S:List Tm}{K n:Nat}{s:List Bd}{E:List (Tm×Tm)}(h:a9a V S K s E){a b a1 b1:Tm}(ha1:a1=a8 (f0 s) a)(kP:b1=a8 (f0 s) b)(ha:Way V S s a)(hb:Way V S s b)(hf:a1.f<0){s':List Bd}(hr:a2T (rU n) s a1 b1=some (some s')):Orig S (f0 s')/\s'.length=s.length+1/\∀b∈s',b.v∈V:=by
 unfold a2T at hr;rw[if_pos hf]at hr;split at hr
 ·cases hr
 ·rename_i dZ;cases hr;have hx : -1-a1.f∈V:=W9 h.inV ha.vs _ (by rw[<-ha1,Tm.vs_var hf];simp);rw[kP]at dZ |-;exact⟨h.orig.bnd h.bare dZ hb.hits,c1q _ _ _,c0e h.num hx⟩
theorem a5k{l:List Bd}{t:Tm}(h:t.rng)(hi:∀b∈l,b.t.rng):(o5 l t).rng:=by
 induction t using Tm.ind with
 | h f k ih =>
  obtain⟨h1,h2⟩:=(Tm.rng_iff _).1 h;simp only at h1 h2;by_cases hf:f<0
  ·rw[a5w hf];unfold f0;cases hb:d9 l (-1-(Tm.mk f k).f)with
   | none =>
    show(n7 (-1-f)).rng;exact b0F (by omega) (by omega)
   | some t =>
    obtain⟨b,xM,e,_⟩:=M4 hb;show t.rng;rw[<-e];exact hi b xM
  ·rw[a5x hf];refine(Tm.rng_iff _).2 ⟨h1,λs hs=>?_⟩;obtain⟨u,hu,rfl⟩:=mem_map.1 hs;exact ih u hu (h2 u hu)
def b6N(g:List Bd->Tm->Tm->Option (Option (List Bd)))(C:List Bd->Tm->Tm->Prop):List (Tm×Tm)->List Bd->Prop
 | [],_=>True
 | p::ps,s=>C s p.1 p.2/\∀s',g s p.1 p.2=some (some s')->b6N g C ps s'
def Cnd:Nat->List Bd->Tm->Tm->Prop
 | 0,_,_,_=>True
 | n+1,s,a,b=>(s.length<=100000/\∀x∈s,x.t.rng/\x.t.ok)/\(a.rng/\a.ok/\b.rng/\b.ok)/\((o5 s a).size<=90000000000/\(o5 s b).size<=90000000000)/\∀a2 b2:Tm,a2=(if swC (o5 s a) (o5 s b)then o5 s b else o5 s a)->b2=(if swC (o5 s a) (o5 s b)then o5 s a else o5 s b)->¬ a2.f<0->a2.f=b2.f->a2.l.length=b2.l.length->b6N (rU n) (Cnd n) (a2.l.zip b2.l) s
def Y4(s:List Bd):Prop:=∀x∈s,x.t.rng/\x.t.ok
theorem c3J{s:List Bd}{x:Int}{t:Tm}(h:Y4 s)(ht:t.rng/\t.ok):Y4 (a6f s x t):=λy hy=>by
 have h1:Y4 [⟨x,t⟩]:=λb hb=>by rw[mem_singleton]at hb;rw[hb];exact ht
 rcases mem_append.1 hy with hy | hy
 ·obtain⟨c,hc,rfl⟩:=mem_map.1 hy;exact⟨a5k (h c hc).1 λb hb=>(h1 b hb).1,a8L (h c hc).2 λb hb=>(h1 b hb).2⟩
 ·exact h1 y hy
theorem c3f{V:List Int}{K:Nat}{s s':List Bd}(h:s.length+frN V s<=K)(hl:s'.length=s.length+1)(hd:s'=s\/frN V s'<frN V s):s'.length+frN V s'<=K:=by
 rcases hd with rfl | hd
 ·omega
 ·omega
section
variable{V:List Int}{S:List Tm}{K:Nat}
theorem a4w(hV:∀v∈V,0<=v){n:Nat}{E:List (Tm×Tm)}(ih:∀(s:List Bd) (a b:Tm) (E:List (Tm×Tm)),a9a V S K s E->Y4 s->Way V S s a->Way V S s b->(a.rng/\a.ok)->(b.rng/\b.ok)->Cnd n s a b/\∀s',rU n s a b=some (some s')->a9a V S K s' (E++[(a,b)])/\Y4 s'):∀(ps:List (Tm×Tm)) (s:List Bd) (F:List (Tm×Tm)),a9a V S K s (E++F)->Y4 s->(∀p∈ps,(∀(s1:List Bd) F1,Mgu (f0 s1) (E++F1)->Way V S s1 p.1/\Way V S s1 p.2)/\(p.1.rng/\p.1.ok)/\(p.2.rng/\p.2.ok))->b6N (rU n) (Cnd n) ps s/\∀s',rUs (rU n) ps s=some (some s')->a9a V S K s' (E++F++ps)/\Y4 s'
 | [],s,F,hm,hr,_=>⟨trivial,λs' e=>by cases e;rw[List.append_nil];exact⟨hm,hr⟩⟩
 | p::ps,s,F,hm,hr,hp=>by
  obtain⟨h1,h2,h3⟩:=hp p (by simp);obtain⟨w1,w2⟩:=h1 s F hm.mgu;obtain⟨c1,c2⟩:=ih s p.1 p.2 (E++F) hm hr w1 w2 h2 h3;have next:∀s1,rU n s p.1 p.2=some (some s1)->b6N (rU n) (Cnd n) ps s1/\∀s',rUs (rU n) ps s1=some (some s')->a9a V S K s' (E++F++p::ps)/\Y4 s':=λs1 e=>by
   obtain⟨m1,m2⟩:=c2 s1 e;have e3:E++F++[(p.1,p.2)]=E++(F++[p]):=by rw[List.append_assoc]
   rw[e3]at m1;have:=a4w hV ih ps s1 (F++[p]) m1 m2 λq hq=>hp q (mem_cons_of_mem _ hq);rw[show E++(F++[p])++ps=E++F++p::ps by simp]at this;exact this
  refine⟨⟨c1,λs1 e=>(next s1 e).1⟩,λs' e=>?_⟩;rw[rUs]at e;cases hg:rU n s p.1 p.2 with
  | none=>rw[hg]at e;cases e
  | some q =>
   rw[hg]at e;cases q with
   | none=>cases e
   | some s1=>exact(next s1 hg).2 s' e
theorem b8V(hV:∀v∈V,0<=v)(hc:c1G S)(hK:K<=100000)(hE:arA S<=60):∀(n:Nat) (s:List Bd) (a b:Tm) (E:List (Tm×Tm)),a9a V S K s E->Y4 s->Way V S s a->Way V S s b->(a.rng/\a.ok)->(b.rng/\b.ok)->Cnd n s a b/\∀s',rU n s a b=some (some s')->a9a V S K s' (E++[(a,b)])/\Y4 s':=by
 intro n
 induction n with
 | zero=>intro s a b E _ _ _ _ _ _;exact⟨trivial,λs' e=>by cases e⟩
 | succ n ih =>
  intro s a b E hm hr wa wb ha hb;have ea:o5 s a=a8 (f0 s) a:=p6 hm.bare a;have eb:o5 s b=a8 (f0 s) b:=p6 hm.bare b;have iX:∀v,0<=v->(f0 s v).strip=f0 s v:=λv _=>L2 hm.bare v;have za:(o5 s a).size<=90000000000:=by rw[ea];exact b3d hE (a0a hc hm.orig iX wa.hits)
  have zb:(o5 s b).size<=90000000000:=by rw[eb];exact b3d hE (a0a hc hm.orig iX wb.hits)
  have ra:(o5 s a).rng/\(o5 s a).ok:=⟨a5k ha.1 λx hx=>(hr x hx).1,a8L ha.2 λx hx=>(hr x hx).2⟩
  have rb:(o5 s b).rng/\(o5 s b).ok:=⟨a5k hb.1 λx hx=>(hr x hx).1,a8L hb.2 λx hx=>(hr x hx).2⟩
  have part:∀c:Tm,Way V S s c->(o5 s c).rng/\(o5 s c).ok->¬ (o5 s c).f<0->∀p∈(o5 s c).l,(∀(s1:List Bd) F1,Mgu (f0 s1) (E++F1)->Way V S s1 p)/\p.rng/\p.ok:=by
   intro c wc uP uQ p hp;have ec:o5 s c=a8 (f0 s) c:=p6 hm.bare c;refine⟨λs1 F1 h1=>?_,((Tm.rng_iff _).1 uP.1).2 p hp,((Tm.ok_iff _).1 uP.2).2 p hp⟩;have hu:uni (f0 s1) E:=(C5.1 h1.uni).1;refine⟨λu hu=>W9 hm.inV wc.vs u ?_,?_⟩
   ·rw[<-ec,Tm.vs_sym uQ];exact mem_flatMap.2 ⟨p,hp,hu⟩
   ·rw[ec]at uQ hp;obtain⟨q,hq,mZ,e⟩:=wc.hits.sym hm.orig iX uQ;rw[e,c9 mZ]at hp;obtain⟨q2,fF,rfl⟩:=mem_map.1 hp;exact⟨q2,hc q hq q2 (by rw[Tm.ps_of_sym (by omega)];exact fF),hm.mgu.rep hu q2⟩
  have list:∀c d:Tm,Way V S s c->Way V S s d->(o5 s c).rng/\(o5 s c).ok->(o5 s d).rng/\(o5 s d).ok->¬ (o5 s c).f<0->(o5 s c).f=(o5 s d).f->b6N (rU n) (Cnd n) ((o5 s c).l.zip (o5 s d).l) s/\∀s',rUs (rU n) ((o5 s c).l.zip (o5 s d).l) s=some (some s')->a9a V S K s' (E++[]++(o5 s c).l.zip (o5 s d).l)/\Y4 s':=by intro c d wc wd uP pK uQ hfe;refine a4w hV ih _ s [] (by rw[List.append_nil];exact hm) hr λp hp=>?_;obtain⟨p1,p2⟩:=List.of_mem_zip (a:=p.1) (b:=p.2) hp;obtain⟨a1,a2⟩:=part c wc uP uQ _ p1;obtain⟨b1,b2⟩:=part d wd pK (by rw[<-hfe];exact uQ) _ p2;exact⟨λs1 F1 h1=>⟨a1 s1 F1 h1,b1 s1 F1 h1⟩,a2,b2⟩
  refine⟨⟨⟨by have:=hm.len;omega,hr⟩,⟨ha.1,ha.2,hb.1,hb.2⟩,⟨za,zb⟩,?_⟩,λs' e=>?_⟩
  ·intro a2 b2 e1 e2 hf lU cZ;split at e1
   ·rename_i hs;rw[if_pos hs]at e2;subst e1 e2;exact(list b a wb wa rb ra hf lU).1
   ·rename_i hs;rw[if_neg hs]at e2;subst e1 e2;exact(list a b wa wb ra rb hf lU).1
  ·have tP:=c0d hV e hm.mgu hm.bare hm.inV wa.vs wb.vs;obtain⟨q1,q2,q3,q4⟩:=tP;have go:∀c d:Tm,Way V S s c->Way V S s d->(o5 s c).rng/\(o5 s c).ok->(o5 s d).rng/\(o5 s d).ok->a2T (rU n) s (o5 s c) (o5 s d)=some (some s')->(Orig S (f0 s')/\s'.length+frN V s'<=K/\∀b∈s',b.v∈V)/\Y4 s':=by
    intro c d wc wd uP pK e;by_cases hf:(o5 s c).f<0
    ·obtain⟨o1,o2,o3⟩:=b8r hV hm (p6 hm.bare c) (p6 hm.bare d) wc wd hf e;refine⟨⟨o1,c3f hm.len o2 q4,o3⟩,?_⟩;unfold a2T at e;rw[if_pos hf]at e;split at e
     ·cases e
     ·cases e;exact c3J hr pK
    ·unfold a2T at e;rw[if_neg hf]at e;split at e
     ·cases e
     ·rename_i kF;obtain⟨m1,m2⟩:=(list c d wc wd uP pK hf (Decidable.byContradiction λh=>kF (.inl h))).2 s' e;exact⟨⟨m1.orig,m1.len,m1.num⟩,m2⟩
   rw[rU]at e;split at e
   ·cases e;exact⟨⟨q1,q2,q3,hm.orig,hm.len,hm.num⟩,hr⟩
   ·split at e
    ·obtain⟨⟨o1,o2,o4⟩,o3⟩:=go b a wb wa rb ra e;exact⟨⟨q1,q2,q3,o1,o2,o4⟩,o3⟩
    ·obtain⟨⟨o1,o2,o4⟩,o3⟩:=go a b wa wb ra rb e;exact⟨⟨q1,q2,q3,o1,o2,o4⟩,o3⟩
end
def a6y(l:List (Tm×Tm)):Prop:=∀p∈l,((p.1.rng/\p.1.ok)/\p.1.size<=16)/\((p.2.rng/\p.2.ok)/\p.2.size<=16)
def I3(l:List (Tm×Tm)):List Int:=l.flatMap λp=>p.1.vs++p.2.vs
theorem b0q{V:List Int}(p:Int->Bool):(V.filter p).length<=V.length:=length_filter_le _ _
theorem b3O(t:Tm):t.vs.length<=t.size:=by
 unfold Tm.vs Tm.size vsL;rw[length_map];exact length_filter_le _ _
theorem a2J:∀l:List (Tm×Tm),a6y l->(I3 l).length<=32*l.length
 | [],_=>Nat.le_refl _
 | p::l,h=>by
  have h1:=h p (by simp);have h2:=a2J l λq hq=>h q (mem_cons_of_mem _ hq);have e:I3 (p::l)=(p.1.vs++p.2.vs)++I3 l:=flatMap_cons;have h3:=b3O p.1;have h4:=b3O p.2;rw[e,length_append,length_append,length_cons];omega
theorem c1w(l:List (Tm×Tm))(hl:l.length<=2)(ht:a6y l):∃n r,rUs (rU n) l []=some r/\b6N (rU n) (Cnd n) l []/\(r=none->∀ τ,¬ uni τ l)/\∀s,r=some s->Mgu (f0 s) l/\O3 s/\inV (I3 l) s/\Y4 s/\(∀b∈s,0<=b.v)/\s.length<=64/\(∀b∈s,b.v∈I3 l)/\(∀t,(∃q∈K9 l,t=q)->(a8 (f0 s) t).size<=90000000000)/\∀v,0<=v->f0 s v=n7 v\/((f0 s v).rng/\(f0 s v).size<=90000000000):=by
 have hV:∀v∈I3 l,0<=v:=λv hv=>by obtain⟨p,_,hv⟩:=mem_flatMap.1 hv;rcases mem_append.1 hv with hv | hv<;>exact l9 _ v hv
 have kJ:∀p∈l,(∀u∈p.1.vs,u∈I3 l)/\∀u∈p.2.vs,u∈I3 l:=λp hp=>⟨λu hu=>mem_flatMap.2 ⟨p,hp,mem_append_left _ hu⟩,λu hu=>mem_flatMap.2 ⟨p,hp,mem_append_right _ hu⟩⟩
 have h0:Mgu (f0 []) []:=Mgu.nil;obtain⟨n,r,e,g1,g2⟩:=a2p hV l [] [] h0 (λb hb=>by cases hb) (λb hb=>by cases hb) kJ;rw[List.nil_append]at g1 g2;have hE:arA (K9 l)<=60:=by
  have:=a8N l λp hp=>⟨(ht p hp).1.2,(ht p hp).2.2⟩
  omega
 have dK:=a2J l ht;have oT:a9a (I3 l) (K9 l) 64 [] ([]++[]):=⟨h0,(λb hb=>by cases hb),(λb hb=>by cases hb),(λv hv hf=>by exfalso;apply hf;show(n7 v).f<0;rw[s7];omega),by
  have:frN (I3 l) []<=(I3 l).length:=b0q _;show 0+_<=64;omega,λb hb=>by cases hb⟩
 obtain⟨c1,c2⟩:=a4w (V:=I3 l) (S:=K9 l) (K:=64) (E:=[]) hV (b8V hV (R6 l) (by decide) hE n) l [] [] oT (λb hb=>by cases hb) λp hp=>by obtain⟨s1,s2⟩:=b0m hp;exact⟨λs1' F1 h1=>⟨⟨(kJ p hp).1,p.1,s1,rfl⟩,⟨(kJ p hp).2,p.2,s2,rfl⟩⟩,(ht p hp).1.1,(ht p hp).2.1⟩
 refine⟨n,r,e,c1,g1,λs hs=>?_⟩;obtain⟨k1,k2,k3⟩:=g2 s hs;rw[hs]at e;obtain⟨m1,m2⟩:=c2 s e;have iX:∀v,0<=v->(f0 s v).strip=f0 s v:=λv _=>L2 k2 v;have iT:∀q∈K9 l,(a8 (f0 s) q).size<=90000000000:=λq hq=>b3d hE (a0a (R6 l) m1.orig iX ⟨q,hq,rfl⟩);refine⟨k1,k2,k3,m2,a8M (b9u n) l [] s e (λb hb=>by cases hb),by have:=m1.len;omega,m1.num,λt ⟨q,hq,e⟩=>by rw[e];exact iT q hq,λv hv=>?_⟩;by_cases hf:(f0 s v).f<0
 ·unfold f0 at hf |-;cases lL:d9 s v with
  | none=>exact .inl rfl
  | some t =>
   right;rw[lL]at hf;obtain⟨b,xM,e1,_⟩:=M4 lL;refine⟨by show t.rng;rw[<-e1];exact(m2 b xM).1,?_⟩;show t.size<=_;rw[Tm.size_var (show t.f<0 from hf)];decide
 ·right;obtain⟨q,hq,mZ,e1⟩:=m1.orig v hv hf;refine⟨?_,by rw[<-e1];exact iT q hq⟩;unfold f0 at hf |-;cases lL:d9 s v with
  | none=>rw[lL]at hf;exact absurd (show(n7 v).f<0 by rw[s7];omega) hf
  | some t =>
   obtain⟨b,xM,e2,_⟩:=M4 lL;show t.rng;rw[<-e2];exact(m2 b xM).1
theorem b9E(t:Tm):t.nv.length<=t.size:=by
 have h:∀l:List Int,(nub l).length<=l.length:=by
  intro l
  induction l using a5i with
  | h0=>exact Nat.le_refl _
  | h1 l x ih=>rw[a1P];split<;>simp<;>omega
 refine Nat.le_trans (h t.vs) ?_;unfold Tm.vs vsL Tm.size;rw[length_map];exact length_filter_le _ _
theorem c3A{t:Tm}(h:t.rng):∀v∈t.nv,0<=v/\v<=9223372036854775807:=by
 intro v hv;have hv:=(a8q _ _).1 hv;have h1:=l9 t v hv;have h2:=c2k (t:=t) (B:=9223372036854775808) (λs hs=>(Tm.rng_flat h s hs).1) v hv;omega
theorem c3x{a b:List Int}{k:Nat}{v u:Int}(h1:a[k]?=some v)(h2:b[k]?=some u):(b1H a b)[k]?=some ⟨v,n7 u⟩:=by
 unfold b1H;rw[List.getElem?_zipWith,h1,h2]
theorem c0K{a b:List Int}(h:a.length=b.length):(b1H a b).length=a.length:=by
 unfold b1H;rw[List.length_zipWith];omega
theorem c1r{a b:List Int}{x:Bd}(h:x∈b1H a b):∃u∈b,x.t=n7 u:=by
 unfold b1H at h;obtain⟨i,hi,e⟩:=List.mem_iff_getElem.1 h;rw[List.getElem_zipWith]at e;exact⟨_,List.getElem_mem _,by rw[<-e]⟩
theorem a0l{σ σ':Int->Tm}(h:∀v,0<=v->σ' v=σ v)(t:Tm):a8 σ' t=a8 σ t:=y9 λv hv=>h v (l9 _ v hv)
theorem Mgu.congr{σ σ':Int->Tm}{E:List (Tm×Tm)}(hm:Mgu σ E)(h:∀v,0<=v->σ' v=σ v):Mgu σ' E:=
 ⟨λp hp=>by rw[a0l h,a0l h];exact hm.uni p hp,λv hv=>by rw[h v hv];exact hm.bare v hv,λv hv u hu=>by
  rw[h v hv]at hu;rw[h u (l9 _ u hu)];exact hm.idem v hv u hu,fun τ ht v hv=>by rw[h v hv];exact hm.most τ ht v hv,λv hv hf=>by
  rw[h v hv]at hf |-;exact hm.low v hv hf⟩
theorem b4Z{s:List Bd}(hb:O3 s){v:Int}(hv:0<=v):f0 (A8 s) v=f0 s v:=by
 have h1:=b6D s hv;have h2:f0 (A8 s) v=(d9 (A8 s) v).getD (n7 v):=rfl;rw[h2,h1];split
 ·rename_i hi;have hi:(decide ((f0 s v).f<0)&&decide (-1-(f0 s v).f=v))=true:=hi;rw[Bool.and_eq_true,decide_eq_true_eq,decide_eq_true_eq]at hi;show n7 v=_;rw[a1A (L2 hb v) hi.1,hi.2]
 ·exact L2 hb v
structure Tells8(l:List (Tm×Tm))(r:List Bd×Bool):Prop where
 told:ToldU l r
 yes:r.2=true->Mgu (f0 r.1) l
 no:r.2=false->r.1=[]/\∀ τ,¬ uni τ l
 len:r.1.length<=64
 ok:∀b∈r.1,(b.t.rng/\b.t.size<=90000000000)/\b.t.ok
 bare:O3 r.1
 inV:∀b∈r.1,b.v∈I3 l/\∀u∈b.t.vs,u∈I3 l
 srt:r.1.Pairwise (λx y=>x.v<y.v)
 free:∀t u,u∈(a8 (f0 r.1) t).vs->d9 r.1 u=none
 big:∀q∈K9 l,(a8 (f0 r.1) q).size<=90000000000
theorem b6o{l:List (Tm×Tm)}(ht:a6y l):∀q∈K9 l,q.size<=16:=λq hq=>by
 have key:∀t:Tm,∀q∈t.flat,q.size<=t.size:=by
  intro t
  induction t using Tm.indp with
  | h t ih =>
   intro q hq;rw[Tm.flat_eq]at hq;rcases mem_cons.1 hq with rfl | hq
   ·exact Nat.le_refl _
   ·obtain⟨p,hp,hq⟩:=mem_flatMap.1 hq;have:=ih p hp q hq;have:=Tm.size_part hp;omega
 obtain⟨p,hp,hq⟩:=mem_flatMap.1 hq;rcases mem_append.1 hq with hq | hq
 ·exact Nat.le_trans (key _ q hq) (ht p hp).1.2
 ·exact Nat.le_trans (key _ q hq) (ht p hp).2.2
theorem b4j{l:List (Tm×Tm)}(hl:l.length<=2)(ht:a6y l):∃n r,rUs (rU n) l []=some r/\b6N (rU n) (Cnd n) l []/\(∀s,r=some s->s.length<=1000/\∀b∈s,b.t.rng/\b.t.ok)/\Tells8 l ((r.map A8).getD [],r.isSome):=by
 obtain⟨n,r,e,hC,h1,h2⟩:=c1w l hl ht;refine⟨n,r,e,hC,λs hs=>?_,?_⟩
 ·obtain⟨_,_,_,m4,_,m6,_⟩:=h2 s hs;exact⟨by omega,m4⟩
 cases r with
 | none =>
  have hn:=h1 rfl;have hid:∀t:Tm,a8 (f0 []) t=t.strip:=λt=>a3D t;exact⟨.inl ⟨rfl,rfl,hn⟩,(λh=>by cases h),λ_=>⟨rfl,hn⟩,Nat.zero_le _,(λb hb=>by cases hb),(λb hb=>by cases hb),(λb hb=>by cases hb),List.Pairwise.nil,λt u hu=>rfl,λq hq=>by show(a8 (f0 []) q).size<=_;rw[hid,Tm.strip_size];have:=b6o ht q hq;omega⟩
 | some s =>
  obtain⟨m1,m2,m3,m4,m5,m6,m7,m8,m9⟩:=h2 s rfl;have hi:∀v,0<=v->f0 (A8 s) v=f0 s v:=λv hv=>b4Z m2 hv;have eG:∀b∈A8 s,∃c∈s,b.v=c.v/\b.t=c.t:=λb hb=>by unfold A8 at hb;obtain⟨c,hc,rfl⟩:=mem_map.1 hb;have eP:=Z6 (List.mem_filter.1 hc).1;exact⟨c,eP,rfl,m2 c eP⟩
  have dZ:∀b∈A8 s,d9 (A8 s) b.v=some b.t:=λb hb=>by
   have key:∀L:List Bd,L.Pairwise (λx y=>x.v<y.v)->∀b∈L,d9 L b.v=some b.t:=λL=>by
    induction L with
    | nil=>intro _ b hb;cases hb
    | cons a L ih =>
     intro hp b hb;obtain⟨p1,p2⟩:=List.pairwise_cons.1 hp;rw[d9];rcases mem_cons.1 hb with rfl | hb
     ·rw[if_pos rfl]
     ·rw[if_neg (by have:=p1 b hb;omega)];exact ih p2 b hb
   exact key _ (a0r s) b hb
  refine⟨.inr ⟨rfl,s,m1,m5,m9,rfl⟩,λ_=>m1.congr hi,(λh=>by cases h),Nat.le_trans (b5E s) m6,λb hb=>?_,λb hb=>?_,λb hb=>?_,a0r s,λt u hu=>?_,λq hq=>?_⟩
  ·obtain⟨c,hc,e1,e2⟩:=eG b hb;have h0:0<=b.v:=by rw[e1];exact m5 c hc
   have hf:=dZ b hb;have uC:f0 s b.v=b.t:=by rw[<-hi _ h0];unfold f0;rw[hf];rfl
   refine⟨⟨by rw[e2];exact(m4 c hc).1,?_⟩,by rw[e2];exact(m4 c hc).2⟩;rcases m9 b.v h0 with h | h
   ·rw[<-uC,h,Tm.size_var (by rw[s7];omega)];decide
   ·rw[<-uC];exact h.2
  ·obtain⟨c,hc,_,e2⟩:=eG b hb;show b.t.strip=b.t;rw[e2];exact m2 c hc
  ·obtain⟨c,hc,e1,e2⟩:=eG b hb;rw[e1,e2];exact⟨m7 c hc,m3 c hc⟩
  ·have hu:u∈(a8 (f0 (A8 s)) t).vs:=hu;rw[a0l hi]at hu;exact b5r m1 hu
  ·show(a8 (f0 (A8 s)) q).size<=_;rw[a0l hi];exact m8 q ⟨q,hq,rfl⟩
theorem Tells8.bdsOk{l:List (Tm×Tm)}{r:List Bd×Bool}(h:Tells8 l r):bdsOk r.1:=λb hb=>(h.ok b hb).1
theorem c0y{s:List Bd}(hs:bdsOk s){t:Tm}(h:t.rng):(a8 (f0 s) t).rng:=a5G h λv h1 h2=>(a4K hs h1 h2).1
theorem a4W{t:Tm}(h:¬ t.f<0):t.size=1+(t.l.map Tm.size).sum:=by
 rw[Tm.size_eq,Tm.ps_of_sym (by omega),List.length_flatMap];rfl
theorem b9D{t s:Tm}{n:Int}(h:t.pa n=some s):∃m:Nat,n=m/\t.l[m]?=some s/\¬ t.f<0:=by
 have hf:=a6j h;unfold Tm.pa at h;split at h
 ·rename_i h0;rw[Tm.ps_of_sym (by omega)]at h;exact⟨n.toNat,by omega,h,hf⟩
 ·cases h
theorem b1C{l:List Tm}{m:Nat}{s:Tm}(h:l[m]?=some s):l=l.take m++s::l.drop (m+1)/\m<l.length:=by
 have hm:m<l.length:=by
  rcases Nat.lt_or_ge m l.length with h1 | h1
  ·exact h1
  ·rw[getElem?_eq_none h1]at h;cases h
 refine⟨?_,hm⟩;have e:l[m]=s:=by rw[getElem?_eq_getElem hm]at h;exact Option.some.inj h
 rw[<-e,<-List.drop_eq_getElem_cons hm,List.take_append_drop]
theorem T9(l:List Tm):(l.map Tm.strip).map Tm.strip=l.map Tm.strip:=by
 rw[map_map];exact List.map_congr_left λs _=>Tm.strip_strip s
theorem a4Y(u:Tm)(hu:u.rng):∀(p:List Int) (t s:Tm),t.rng->atP p t=some s->∃z,E3 u p t=some z/\z.rng/\atP p z=some u.strip/\E3 s.strip p z=some t.strip/\z.size+s.size=t.size+u.size
 | [],t,s,hr,h=>by
  cases h;exact⟨u.strip,rfl,Tm.strip_rng hu,rfl,by rw[E3,Tm.strip_strip],by rw[Tm.strip_size];omega⟩
 | k::ks,t,s,hr,h=>by
  rw[atP]at h;cases hp:t.pa k with
  | none=>rw[hp]at h;cases h
  | some x =>
   rw[hp,Option.bind_some]at h;obtain⟨m,rfl,hx,hf⟩:=b9D hp;obtain⟨tP,hm⟩:=b1C hx;have uR:=(Tm.rng_iff _).1 hr;obtain⟨v,h1,h2,h3,h4,h5⟩:=a4Y u hu ks x s (uR.2 x (mem_of_getElem? hx)) h;obtain⟨A,hA⟩:∃A,A=(t.l.take m).map Tm.strip:=⟨_,rfl⟩
   obtain⟨B,hB⟩:∃B,B=(t.l.drop (m+1)).map Tm.strip:=⟨_,rfl⟩
   have tQ:A.length=m:=by rw[hA,length_map,List.length_take];omega
   have hpz:(Tm.mk t.f (A++v::B)).pa (m:Int)=some v:=by unfold Tm.pa;rw[if_pos (by omega),Int.toNat_natCast,Tm.ps_of_sym (t:=⟨t.f,_⟩) (by show 0<=t.f;omega)];show(A++v::B)[m]?=some v;rw[List.getElem?_append_right (by omega),tQ,Nat.sub_self];rfl
   refine⟨⟨t.f,A++v::B⟩,?_,?_,?_,?_,?_⟩
   ·rw[E3,hp,Option.bind_some,h1,Int.toNat_natCast,<-hA,<-hB];rfl
   ·refine(Tm.rng_iff _).2 ⟨uR.1,λy hy=>?_⟩;rcases mem_append.1 hy with hy | hy
    ·rw[hA]at hy;obtain⟨z,hz,rfl⟩:=mem_map.1 hy;exact Tm.strip_rng (uR.2 z (List.mem_of_mem_take hz))
    ·rcases mem_cons.1 hy with rfl | hy
     ·exact h2
     ·rw[hB]at hy;obtain⟨z,hz,rfl⟩:=mem_map.1 hy;exact Tm.strip_rng (uR.2 z (List.mem_of_mem_drop hz))
   ·rw[atP,hpz,Option.bind_some,h3]
   ·rw[E3,hpz,Option.bind_some,h4,Int.toNat_natCast,Option.map_some];show some (Tm.mk t.f (((A++v::B).take m).map Tm.strip++x.strip::((A++v::B).drop (m+1)).map Tm.strip))=_;have e1:(A++v::B).take m=A:=by rw[<-tQ,List.take_left]
    have e2:(A++v::B).drop (m+1)=B:=by rw[<-tQ,show A++v::B=(A++[v])++B by simp,show A.length+1=(A++[v]).length by simp,List.drop_left]
    rw[e1,e2,Tm.strip_eq t,Tm.ps_of_sym (by omega)];congr 2
    conv=>rhs;rw[tP]
    rw[map_append,map_cons,hA,hB,T9,T9]
   ·have s1:=a4W (t:=⟨t.f,A++v::B⟩) hf;have s2:=a4W (t:=t) hf;simp only at s1;have s3:(t.l.map Tm.size).sum=((t.l.take m).map Tm.size).sum+(x.size+((t.l.drop (m+1)).map Tm.size).sum):=by
     conv=>lhs;rw[tP]
     rw[map_append,map_cons,List.sum_append_nat,sum_cons]
    rw[map_append,map_cons,List.sum_append_nat,sum_cons]at s1;have s4:∀l:List Tm,(l.map Tm.strip).map Tm.size=l.map Tm.size:=λl=>by rw[map_map];exact List.map_congr_left λs _=>Tm.strip_size s
    have sA:(A.map Tm.size).sum=((t.l.take m).map Tm.size).sum:=by rw[hA,s4]
    have sB:(B.map Tm.size).sum=((t.l.drop (m+1)).map Tm.size).sum:=by rw[hB,s4]
    omega
def cov(a b:Tm):Prop:=∀v,b.vs.count v<=a.vs.count v
def b4C(z w:Int):Int:=if 0<z then 1 else if z<0 then -1 else w
noncomputable def b9P(o:Int)(c d:Prop):Int:=
 haveI:=Classical.propDecidable
 if(o=1/\¬ c)\/(o = -1/\¬ d)then 2 else o
noncomputable def a1o(z:Int)(c d:Prop)(w:Int):Int:=if w=0 then 0 else b9P (b4C z w) c d
def hdK(a b:Tm):Int:=if a.f<0\/b.f<0 then 2 else if a.f≠b.f then G2 a.f b.f else G2 a.l.length b.l.length
noncomputable def Q0(k:Int)(r:Int):Int:=if k≠0 then k else r
noncomputable def szD(a b:Tm):Int:=(a.size:Int)-b.size
noncomputable def kb(p:Tm):Tm->Int:=
 Tm.rec (motive_1:=λ_=>Tm->Int) (motive_2:=λ_=>List Tm->Int)
  (λf l ih t=>a1o (szD ⟨f,l⟩ t) (cov ⟨f,l⟩ t) (cov t ⟨f,l⟩) (if f≠t.f\/(Tm.mk f l).ps.length≠t.ps.length then hdK ⟨f,l⟩ t else if f<0 then 0 else ih t.l))
  (λ_=>0)
  (λ_ _ ih1 ih2 ts=>match ts with | []=>0 | t::ts=>Q0 (ih1 t) (ih2 ts)) p
noncomputable def kbs(ps:List Tm):List Tm->Int:=
 Tm.rec_1 (motive_1:=λ_=>Tm->Int) (motive_2:=λ_=>List Tm->Int)
  (λf l ih t=>a1o (szD ⟨f,l⟩ t) (cov ⟨f,l⟩ t) (cov t ⟨f,l⟩) (if f≠t.f\/(Tm.mk f l).ps.length≠t.ps.length then hdK ⟨f,l⟩ t else if f<0 then 0 else ih t.l))
  (λ_=>0)
  (λ_ _ ih1 ih2 ts=>match ts with | []=>0 | t::ts=>Q0 (ih1 t) (ih2 ts)) ps
noncomputable def wi(a b:Tm):Int:=if a.f≠b.f\/a.ps.length≠b.ps.length then hdK a b else kbs a.ps b.ps
theorem a0B(ts:List Tm):kbs [] ts=0:=rfl
theorem B9(p:Tm)(ps:List Tm)(t:Tm)(ts:List Tm):kbs (p::ps) (t::ts)=Q0 (kb p t) (kbs ps ts):=rfl
theorem P8(a b:Tm):kb a b=a1o (szD a b) (cov a b) (cov b a) (wi a b):=by
 cases a with
 | mk f l =>
  show a1o _ _ _ _=_;congr 1;unfold wi;simp only;split
  ·rfl
  ·rename_i h;by_cases hf:f<0
   ·rw[if_pos hf,Tm.ps_of_var (t:=⟨f,l⟩) hf,a0B]
   ·rw[if_neg hf,Tm.ps_of_sym (t:=⟨f,l⟩) (by show 0<=f;omega),Tm.ps_of_sym (t:=b) (by have:=Classical.not_not.1 (λe=>h (.inl e));omega)];rfl
theorem V7(z:Int)(c d:Prop)(w:Int):(w=0/\a1o z c d w=0)\/(w≠0/\∃o,((0<z/\o=1)\/(z<0/\o = -1)\/(z=0/\o=w))/\((a1o z c d w=2/\((o=1/\¬ c)\/(o = -1/\¬ d)))\/(a1o z c d w=o/\¬ ((o=1/\¬ c)\/(o = -1/\¬ d))))):=by
 unfold a1o;by_cases h0:w=0
 ·left;exact⟨h0,if_pos h0⟩
 ·right;refine⟨h0,b4C z w,?_,?_⟩
  ·unfold b4C;by_cases h1:0<z
   ·rw[if_pos h1];exact .inl ⟨h1,rfl⟩
   ·rw[if_neg h1];by_cases h2:z<0
    ·rw[if_pos h2];exact .inr (.inl ⟨h2,rfl⟩)
    ·rw[if_neg h2];exact .inr (.inr ⟨by omega,rfl⟩)
  ·rw[if_neg h0];generalize b4C z w=o;unfold b9P;by_cases h3:(o=1/\¬ c)\/(o = -1/\¬ d)
   ·left;exact⟨if_pos h3,h3⟩
   ·right;exact⟨if_neg h3,h3⟩
theorem B7{z:Int}{c d:Prop}{w:Int}:a1o z c d w=0↔w=0:=by
 rcases V7 z c d w with⟨h1,h2⟩ | ⟨h1,o,h2,⟨h3,h4⟩ | ⟨h3,h4⟩⟩
 ·exact⟨λ_=>h1,λ_=>h2⟩
 ·omega
 ·omega
theorem a5I{z:Int}{c d:Prop}{w:Int}:a1o z c d w=1↔w≠0/\c/\(0<z\/(z=0/\w=1)):=by
 rcases V7 z c d w with⟨h1,h2⟩ | ⟨h1,o,h2,⟨h3,h4⟩ | ⟨h3,h4⟩⟩
 ·constructor
  ·intro h;omega
  ·rintro⟨h,_⟩;exact absurd h1 h
 ·constructor
  ·intro h;omega
  ·rintro⟨_,hc,h⟩;have:o=1:=by omega
   rcases h4 with h4 | h4
   ·exact absurd hc h4.2
   ·omega
 ·constructor
  ·intro h;have ho:o=1:=by omega
   exact⟨h1,Classical.not_not.1 λhc=>h4 (.inl ⟨ho,hc⟩),by omega⟩
  ·rintro⟨_,hc,h⟩;omega
theorem a7o{z:Int}{c d:Prop}{w:Int}:a1o z c d w = -1↔w≠0/\d/\(z<0\/(z=0/\w = -1)):=by
 rcases V7 z c d w with⟨h1,h2⟩ | ⟨h1,o,h2,⟨h3,h4⟩ | ⟨h3,h4⟩⟩
 ·constructor
  ·intro h;omega
  ·rintro⟨h,_⟩;exact absurd h1 h
 ·constructor
  ·intro h;omega
  ·rintro⟨_,hc,h⟩;have:o = -1:=by omega
   rcases h4 with h4 | h4
   ·omega
   ·exact absurd hc h4.2
 ·constructor
  ·intro h;have ho:o = -1:=by omega
   exact⟨h1,Classical.not_not.1 λhc=>h4 (.inr ⟨ho,hc⟩),by omega⟩
  ·rintro⟨_,hc,h⟩;omega
def K4(k:Int):Prop:=k=0\/k=1\/k = -1\/k=2
theorem a2E{z:Int}{c d:Prop}{w:Int}(h:K4 w):K4 (a1o z c d w):=by
 unfold K4 at *;rcases V7 z c d w with⟨h1,h2⟩ | ⟨h1,o,h2,⟨h3,h4⟩ | ⟨h3,h4⟩⟩<;>omega
theorem b4k(a b:Tm):K4 (hdK a b):=by
 unfold hdK K4;split
 ·omega
 ·split
  ·rcases p7 a.f b.f with h | h | h<;>omega
  ·rcases p7 a.l.length b.l.length with h | h | h<;>omega
theorem b6G{a b:Tm}(h:a.f≠b.f\/a.ps.length≠b.ps.length):hdK a b≠0:=by
 unfold hdK;split
 ·omega
 ·rename_i h1;rw[Tm.ps_of_sym (t:=a) (by omega),Tm.ps_of_sym (t:=b) (by omega)]at h;split
  ·rcases p7 a.f b.f with h2 | h2 | h2<;>omega
  ·rcases p7 a.l.length b.l.length with h2 | h2 | h2<;>omega
theorem a5K:∀{l m:List Tm},(∀s∈l,∀t,K4 (kb s t))->K4 (kbs l m)
 | [],m,_ => .inl rfl
 | _::_,[],_ => .inl rfl
 | x::l,y::m,h=>by
  rw[B9];unfold Q0;split
  ·exact h x (by simp) y
  ·exact a5K λs hs=>h s (mem_cons_of_mem _ hs)
theorem a8p(a:Tm):∀b,K4 (kb a b):=by
 induction a using Tm.indp with
 | h a ih =>
  intro b;rw[P8];refine a2E ?_;unfold wi;split
  ·exact b4k a b
  ·exact a5K ih
theorem b0I:∀{l m:List Tm},l.length=m.length->(∀s∈l,∀t,kb s t=0↔s.strip=t.strip)->(kbs l m=0↔l.map Tm.strip=m.map Tm.strip)
 | [],[],_,_=>by simp[a0B]
 | [],_::_,h,_=>by simp at h
 | _::_,[],h,_=>by simp at h
 | x::l,y::m,h,ih=>by
  rw[B9,map_cons,map_cons,List.cons.injEq,<-ih x (by simp) y,<-b0I (by simpa using h) λs hs=>ih s (mem_cons_of_mem _ hs)];unfold Q0;split
  ·rename_i h1;constructor
   ·intro h2;exact absurd h2 h1
   ·rintro⟨h2,_⟩;exact h2
  ·rename_i h1;exact⟨λh2=>⟨Classical.not_not.1 h1,h2⟩,λh2=>h2.2⟩
theorem a7T(a b:Tm):a.strip=b.strip↔a.f=b.f/\a.ps.map Tm.strip=b.ps.map Tm.strip:=by
 rw[Tm.strip_eq,Tm.strip_eq b,Tm.mk.injEq]
theorem J3(a:Tm):∀b,kb a b=0↔a.strip=b.strip:=by
 induction a using Tm.indp with
 | h a ih =>
  intro b;rw[P8,B7,a7T];unfold wi;split
  ·rename_i h;constructor
   ·intro h1;exact absurd h1 (b6G h)
   ·rintro⟨h1,h2⟩;have:=congrArg List.length h2;rw[length_map,length_map]at this;omega
  ·rename_i h;have hf:a.f=b.f:=by omega
   rw[b0I (by omega) ih];exact⟨λh1=>⟨hf,h1⟩,λh1=>h1.2⟩
theorem cov_strip{a b:Tm}:cov a.strip b↔cov a b:=by unfold cov;rw[Tm.strip_vs]
theorem a3S{a b:Tm}:cov a b.strip↔cov a b:=by unfold cov;rw[Tm.strip_vs]
theorem b8k(a:Tm):cov a a:=λ_=>Nat.le_refl _
theorem a6O{a b c:Tm}(h:cov a b)(h2:cov b c):cov a c:=λv=>Nat.le_trans (h2 v) (h v)
theorem b8n(a b:Tm):hdK a.strip b.strip=hdK a b:=by
 unfold hdK;rw[Tm.strip_f,Tm.strip_f];split
 ·rfl
 ·rename_i h;split
  ·rfl
  ·rw[Tm.strip_l,Tm.strip_l,length_map,length_map,Tm.ps_of_sym (t:=a) (by omega),Tm.ps_of_sym (t:=b) (by omega)]
theorem a7m:∀{l m:List Tm},(∀s∈l,∀t,kb s.strip t.strip=kb s t)->kbs (l.map Tm.strip) (m.map Tm.strip)=kbs l m
 | [],m,_=>rfl
 | _::_,[],_=>rfl
 | x::l,y::m,h=>by
  rw[map_cons,map_cons,B9,B9,h x (by simp) y,a7m λs hs=>h s (mem_cons_of_mem _ hs)]
theorem a5l(a:Tm):∀b,kb a.strip b.strip=kb a b:=by
 induction a using Tm.indp with
 | h a ih =>
  intro b;rw[P8,P8 a];have h1:wi a.strip b.strip=wi a b:=by unfold wi;rw[Tm.strip_f,Tm.strip_f,Tm.strip_ps,Tm.strip_ps,length_map,length_map,b8n,a7m ih]
  have h2:szD a.strip b.strip=szD a b:=by unfold szD;rw[Tm.strip_size,Tm.strip_size]
  have h3:cov a.strip b.strip=cov a b:=propext (cov_strip.trans a3S);have h4:cov b.strip a.strip=cov b a:=propext (cov_strip.trans a3S);rw[h1,h2,h3,h4]
theorem a5C{a a' b b':Tm}(h:a.strip=a'.strip)(h2:b.strip=b'.strip):kb a b=kb a' b':=by rw[<-a5l a,h,h2,a5l]
theorem a5Y(a b:Tm):kb a b=1↔cov a b/\(b.size<a.size\/(a.size=b.size/\wi a b=1)):=by
 rw[P8,a5I];unfold szD;constructor
 ·rintro⟨h1,h2,h3⟩;exact⟨h2,by omega⟩
 ·rintro⟨h1,h2⟩;refine⟨λe=>?_,h1,by omega⟩;have h3:kb a b=0:=by rw[P8,B7];exact e
  have h4:=(J3 a b).1 h3;have h5:a.size=b.size:=by rw[<-Tm.strip_size,h4,Tm.strip_size]
  omega
theorem c1E(a b:Tm)(h:hdK a b≠2):hdK b a = - hdK a b:=by
 unfold hdK at *;by_cases h1:a.f<0\/b.f<0
 ·rw[if_pos h1]at h;exact absurd rfl h
 ·rw[if_neg h1,if_neg (by omega)];by_cases h2:a.f=b.f
  ·rw[if_neg (by omega),if_neg (by omega)];rcases p7 a.l.length b.l.length with h3 | h3 | h3<;>rcases p7 b.l.length a.l.length with h4 | h4 | h4<;>omega
  ·rw[if_pos (by omega),if_pos h2];rcases p7 a.f b.f with h3 | h3 | h3<;>rcases p7 b.f a.f with h4 | h4 | h4<;>omega
theorem b8m(a b:Tm)(h:hdK a b=2):hdK b a=2:=by
 unfold hdK at *;by_cases h1:a.f<0\/b.f<0
 ·rw[if_pos (by omega)]
 ·rw[if_neg h1]at h;exfalso;split at h
  ·rcases p7 a.f b.f with h3 | h3 | h3<;>omega
  ·rcases p7 a.l.length b.l.length with h3 | h3 | h3<;>omega
def trn(k:Int):Int:=if k=2 then 2 else-k
theorem a5y{k:Int}(h:K4 k):(trn k=0↔k=0)/\(trn k=1↔k = -1)/\(trn k = -1↔k=1)/\K4 (trn k):=by
 unfold trn K4 at *;split<;>omega
theorem b6w{z:Int}{c d:Prop}{w:Int}(h:K4 w):a1o (-z) d c (trn w)=trn (a1o z c d w):=by
 have h1:=a2E (z:=z) (c:=c) (d:=d) h;have t0:=a5y h;have h2:=a2E (z := -z) (c:=d) (d:=c) t0.2.2.2;have t1:=a5y h1;have a0:=@B7 z c d w;have a1:=@a5I z c d w;have a2:=@a7o z c d w;have b0:=@B7 (-z) d c (trn w);have b1:=@a5I (-z) d c (trn w);have b2:=@a7o (-z) d c (trn w);generalize a1o (-z) d c (trn w)=y at *;generalize a1o z c d w=x at *;have e0:y=0↔x=0:=by rw[b0,a0];exact t0.1
 have e1:y=1↔x = -1:=by
  rw[b1,a2];constructor
  ·rintro⟨g1,g2,g3⟩;exact⟨λe=>g1 (t0.1.2 e),g2,by rcases g3 with g3 | ⟨g3,g4⟩;omega;exact .inr ⟨by omega,t0.2.1.1 g4⟩⟩
  ·rintro⟨g1,g2,g3⟩;exact⟨λe=>g1 (t0.1.1 e),g2,by rcases g3 with g3 | ⟨g3,g4⟩;omega;exact .inr ⟨by omega,t0.2.1.2 g4⟩⟩
 have e2:y = -1↔x=1:=by
  rw[b2,a1];constructor
  ·rintro⟨g1,g2,g3⟩;exact⟨λe=>g1 (t0.1.2 e),g2,by rcases g3 with g3 | ⟨g3,g4⟩;omega;exact .inr ⟨by omega,t0.2.2.1.1 g4⟩⟩
  ·rintro⟨g1,g2,g3⟩;exact⟨λe=>g1 (t0.1.1 e),g2,by rcases g3 with g3 | ⟨g3,g4⟩;omega;exact .inr ⟨by omega,t0.2.2.1.2 g4⟩⟩
 unfold trn;unfold K4 at h1 h2;split<;>omega
theorem b1B:∀{l m:List Tm},l.length=m.length->(∀s∈l,∀t,kb t s=trn (kb s t))->kbs m l=trn (kbs l m)
 | [],[],_,_=>by rw[a0B];rfl
 | [],_::_,h,_=>by simp at h
 | _::_,[],h,_=>by simp at h
 | x::l,y::m,h,ih=>by
  rw[B9,B9,ih x (by simp) y,b1B (by simpa using h) λs hs=>ih s (mem_cons_of_mem _ hs)];have:=(a5y (a8p x y)).1;unfold Q0;by_cases h1:kb x y=0
  ·rw[if_neg (λe=>e (this.2 h1)),if_neg (by omega)]
  ·rw[if_pos (λe=>h1 (this.1 e)),if_pos h1]
theorem a8A(a:Tm):∀b,kb b a=trn (kb a b):=by
 induction a using Tm.indp with
 | h a ih =>
  intro b;rw[P8,P8 a];have h1:szD b a = - szD a b:=by unfold szD;omega
  have h4:K4 (wi a b):=by
   unfold wi;split
   ·exact b4k a b
   ·exact a5K λs _ t=>a8p s t
  rw[h1,<-b6w h4];congr 1;unfold wi;by_cases h:a.f≠b.f\/a.ps.length≠b.ps.length
  ·rw[if_pos h,if_pos (by omega)];unfold trn;split
   ·rename_i h2;exact b8m a b h2
   ·rename_i h2;exact c1E a b h2
  ·rw[if_neg h,if_neg (by omega)];exact b1B (by omega) ih
theorem a8z(a:Tm):kb a a=0:=(J3 a a).2 rfl
theorem c3r{a b:Tm}:hdK a b=1↔¬ a.f<0/\¬ b.f<0/\(b.f<a.f\/(a.f=b.f/\b.l.length<a.l.length)):=by
 unfold hdK;split
 ·constructor
  ·intro h;omega
  ·rintro⟨h1,h2,_⟩;omega
 ·rename_i h;split
  ·rename_i h2;rcases p7 a.f b.f with h3 | h3 | h3
   ·constructor
    ·intro h4;omega
    ·rintro⟨_,_,h4⟩;omega
   ·constructor
    ·intro h4;omega
    ·rintro⟨_,_,h4⟩;omega
   ·exact⟨λ_=>⟨by omega,by omega,by omega⟩,λ_=>h3.1⟩
  ·rename_i h2;rcases p7 a.l.length b.l.length with h3 | h3 | h3
   ·constructor
    ·intro h4;omega
    ·rintro⟨_,_,h4⟩;omega
   ·constructor
    ·intro h4;omega
    ·rintro⟨_,_,h4⟩;omega
   ·exact⟨λ_=>⟨by omega,by omega,by omega⟩,λ_=>h3.1⟩
theorem b8W{a b:Tm}:wi a b=1↔¬ a.f<0/\¬ b.f<0/\(b.f<a.f\/(a.f=b.f/\(b.l.length<a.l.length\/(a.l.length=b.l.length/\kbs a.l b.l=1)))):=by
 unfold wi;split
 ·rename_i h;rw[c3r];constructor
  ·rintro⟨h1,h2,h3⟩;exact⟨h1,h2,by omega⟩
  ·rintro⟨h1,h2,h3⟩;rw[Tm.ps_of_sym (t:=a) (by omega),Tm.ps_of_sym (t:=b) (by omega)]at h;exact⟨h1,h2,by omega⟩
 ·rename_i h;by_cases hf:a.f<0
  ·rw[Tm.ps_of_var hf,a0B];constructor
   ·intro h;omega
   ·rintro⟨h1,_⟩;omega
  ·rw[Tm.ps_of_sym (t:=a) (by omega),Tm.ps_of_sym (t:=b) (by omega)]at h |-;constructor
   ·intro h1;exact⟨hf,by omega,.inr ⟨by omega,.inr ⟨by omega,h1⟩⟩⟩
   ·rintro⟨h1,h2,h3 | ⟨h3,h4 | ⟨h4,h5⟩⟩⟩
    ·omega
    ·omega
    ·exact h5
theorem a1g{k r:Int}:Q0 k r=1↔k=1\/(k=0/\r=1):=by
 unfold Q0;split<;>omega
theorem a6H:∀{l m n:List Tm},l.length=m.length->m.length=n.length->(∀s∈l,∀t u,kb s t=1->kb t u=1->kb s u=1)->kbs l m=1->kbs m n=1->kbs l n=1
 | [],_,_,_,_,_,h,_=>by rw[a0B]at h;omega
 | _::_,[],_,h,_,_,_,_=>by simp at h
 | _::_,_::_,[],_,h,_,_,_=>by simp at h
 | x::l,y::m,z::n,h1,h2,ih,h3,h4=>by
  rw[B9,a1g]at h3 h4 |-;rcases h3 with h3 | ⟨h3,rR⟩<;>rcases h4 with h4 | ⟨h4,pR⟩
  ·exact .inl (ih x (by simp) y z h3 h4)
  ·left;rw[a5C rfl ((J3 y z).1 h4).symm];exact h3
  ·left;rw[a5C ((J3 x y).1 h3) rfl];exact h4
  ·right;exact⟨(J3 x z).2 (((J3 x y).1 h3).trans ((J3 y z).1 h4)),a6H (by simpa using h1) (by simpa using h2) (λs hs=>ih s (mem_cons_of_mem _ hs)) rR pR⟩
theorem b0O(a:Tm):∀b c,kb a b=1->kb b c=1->kb a c=1:=by
 induction a using Tm.ind with
 | h f l ih =>
  intro b c h1 h2;rw[a5Y]at h1 h2 |-;obtain⟨c1,h1⟩:=h1;obtain⟨c2,h2⟩:=h2;refine⟨a6O c1 c2,?_⟩;rcases h1 with h1 | ⟨h1,g1⟩
  ·left;omega
  rcases h2 with h2 | ⟨h2,g2⟩
  ·left;omega
  right;refine⟨h1.trans h2,?_⟩;rw[b8W]at g1 g2 |-;obtain⟨a1,a2,a3⟩:=g1;obtain⟨b1,b2,b3⟩:=g2;refine⟨a1,b2,?_⟩;rcases a3 with a3 | ⟨a3,a4⟩
  ·left;omega
  rcases b3 with b3 | ⟨b3,b4⟩
  ·left;omega
  right;refine⟨a3.trans b3,?_⟩;rcases a4 with a4 | ⟨a4,a5⟩
  ·left;omega
  rcases b4 with b4 | ⟨b4,b5⟩
  ·left;omega
  right;exact⟨a4.trans b4,a6H a4 b4 ih a5 b5⟩
theorem c0x{a b:Tm}(h:kb a b=1):kb b a = -1:=by rw[a8A,h];rfl
theorem a2h{l:List Tm}{s:Tm}(h:s∈l)(v:Int):s.vs.count v<=(l.flatMap Tm.vs).count v:=by
 induction l with
 | nil=>cases h
 | cons x l ih =>
  rw[flatMap_cons,List.count_append];rcases mem_cons.1 h with rfl | h
  ·omega
  ·have:=ih h;omega
theorem b8C{t s:Tm}(h:s∈t.ps):cov t s:=by
 obtain⟨h1,h2⟩:=Tm.ps_mem h;intro v;rw[Tm.vs_sym (t:=t) (by omega)];exact a2h h1 v
theorem c3M{a b:Tm}(h:cov a b)(h2:b.size<a.size):kb a b=1:=(a5Y a b).2 ⟨h,.inl h2⟩
theorem b3m:∀{p:List Int} {t s:Tm},atP p t=some s->cov t s/\(p≠[]->s.size<t.size)/\s.size<=t.size
 | [],t,s,h=>by
  have h:some t=some s:=h;cases h;exact⟨b8k _,λh=>absurd rfl h,Nat.le_refl _⟩
 | n::p,t,s,h=>by
  rw[show n::p=[n]++p from rfl,b2F]at h;cases h1:atP [n] t with
  | none=>rw[h1]at h;cases h
  | some u =>
   rw[h1]at h;have h1:(t.pa n).bind (atP [])=some u:=h1;cases h2:t.pa n with
   | none=>rw[h2]at h1;cases h1
   | some u' =>
    rw[h2]at h1;have h1:some u'=some u:=h1;cases h1;have hm:=a6q h2;have hs:=Tm.size_part hm;obtain⟨g1,g2,g3⟩:=b3m (p:=p) (t:=u) (s:=s) h;exact⟨a6O (b8C hm) g1,λ_=>by omega,by omega⟩
theorem c2v{p:List Int}{t s:Tm}(h:atP p t=some s)(hp:p≠[]):kb t s=1:=c3M (b3m h).1 ((b3m h).2.1 hp)
theorem a0C:∀{b a:List Int},(∀v,b.count v<=a.count v)->∃r,a.Perm (b++r)
 | [],a,_=>⟨a,by simp⟩
 | x::b,a,h=>by
  have hx:x∈a:=by have:=h x;rw[List.count_cons_self]at this;exact List.count_pos_iff.1 (by omega)
  have hp:=List.perm_cons_erase hx;obtain⟨r,hr⟩:=a0C (b:=b) (a:=a.erase x) (λv=>by have h1:=h v;have h2:=hp.count_eq v;rw[List.count_cons]at h1 h2;omega)
  exact⟨r,hp.trans (by rw[cons_append];exact hr.cons x)⟩
theorem a0A(l:List Int)(g:Int->List Int)(v:Int):(l.flatMap g).count v=(l.map λx=>(g x).count v).sum:=by
 induction l with
 | nil=>rfl
 | cons x l ih=>rw[flatMap_cons,List.count_append,ih,map_cons,sum_cons]
theorem a7U{l m:List Nat}(h:l.Perm m):l.sum=m.sum:=by
 induction h with
 | nil=>rfl
 | cons x _ ih=>rw[sum_cons,sum_cons,ih]
 | swap x y l=>simp only[sum_cons];omega
 | trans _ _ ih1 ih2=>exact ih1.trans ih2
theorem a7X{l m:List Int}(h:l.Perm m):l.sum=m.sum:=by
 induction h with
 | nil=>rfl
 | cons x _ ih=>rw[sum_cons,sum_cons,ih]
 | swap x y l=>simp only[sum_cons];omega
 | trans _ _ ih1 ih2=>exact ih1.trans ih2
theorem b2m{l:List Int}(h:∀x∈l,0<=x):0<=l.sum:=by
 induction l with
 | nil=>simp
 | cons x l ih =>
  rw[sum_cons];have:=h x (by simp);have:=ih λy hy=>h y (mem_cons_of_mem _ hy);omega
theorem c0F(img:Int->Tm){a b:Tm}(h:cov a b):cov (a8 img a) (a8 img b)/\szD a b<=szD (a8 img a) (a8 img b):=by
 obtain⟨r,hr⟩:=a0C h;constructor
 ·intro v;rw[a0H,a0H,a0A,a0A,a7U (hr.map _),map_append,List.sum_append_nat];omega
 ·unfold szD;rw[a6P,a6P,a7X (hr.map _),map_append,List.sum_append_int];have:0<=(r.map λv=>((img v).size:Int)-1).sum:=by refine b2m λx hx=>?_;obtain⟨v,_,rfl⟩:=mem_map.1 hx;have:=(img v).size_pos;omega
  omega
theorem b4z(img:Int->Tm):∀{l m:List Tm},(∀s∈l,∀t,kb s t=1->kb (a8 img s) (a8 img t)=1)->kbs l m=1->kbs (l.map (a8 img)) (m.map (a8 img))=1
 | [],_,_,h=>by rw[a0B]at h;omega
 | _::_,[],_,h=>by cases h
 | x::l,y::m,ih,h=>by
  rw[B9,a1g]at h;rw[map_cons,map_cons,B9,a1g];rcases h with h | ⟨h,h'⟩
  ·exact .inl (ih x (by simp) y h)
  ·right;refine⟨?_,b4z img (λs hs=>ih s (mem_cons_of_mem _ hs)) h'⟩;rw[<-B8 img x,(J3 x y).1 h,B8];exact a8z _
theorem a8O(img:Int->Tm)(a:Tm):∀b,kb a b=1->kb (a8 img a) (a8 img b)=1:=by
 induction a using Tm.ind with
 | h f l ih =>
  intro b h;rw[a5Y]at h;obtain⟨h1,h2⟩:=h;obtain⟨c1,c2⟩:=c0F img h1;unfold szD at c2;rw[a5Y];refine⟨c1,?_⟩;rcases h2 with h2 | ⟨h2,h3⟩
  ·left;omega
  ·rcases Nat.lt_or_ge (a8 img b).size (a8 img ⟨f,l⟩).size with h4 | h4
   ·exact .inl h4
   ·right;refine⟨by omega,?_⟩;rw[b8W]at h3 |-;obtain⟨h5,h6,h7⟩:=h3;rw[c9 h5,c9 h6];refine⟨h5,h6,?_⟩;simp only[length_map];rcases h7 with h7 | ⟨h7,h8 | ⟨h8,h9⟩⟩
    ·exact .inl h7
    ·exact .inr ⟨h7,.inl h8⟩
    ·exact .inr ⟨h7,.inr ⟨h8,b4z img ih h9⟩⟩
theorem a9t(img:Int->Tm){a b:Tm}(h:kb a b≠2):kb (a8 img a) (a8 img b)=kb a b:=by
 rcases a8p a b with h1 | h1 | h1 | h1
 ·rw[h1,J3,<-B8 img a,(J3 a b).1 h1,B8]
 ·rw[h1];exact a8O img a b h1
 ·have h2:kb b a=1:=by rw[a8A a b,h1];rfl
  rw[h1];exact c0x (a8O img b a h2)
 ·exact absurd h1 h
def cn(s:Tm)(l:List Tm):Nat:=l.countP (λt=>y0 s t)
theorem b9F(s:Tm):cn s []=0:=rfl
theorem X3(s t:Tm)(l:List Tm):cn s (t::l)=cn s l+(if y0 s t=true then 1 else 0):=by unfold cn;exact countP_cons
theorem b3f(s:Tm)(l m:List Tm):cn s (l++m)=cn s l+cn s m:=by unfold cn;exact List.countP_append
theorem c0j(s:Tm){l m:List Tm}(h:l.Perm m):cn s l=cn s m:=h.countP_eq _
theorem K1(s:Tm):y0 s s=true:=(l8 _ _).2 rfl
theorem b7q{s t:Tm}(h:y0 s t=true)(l:List Tm):cn s l=cn t l:=by
 unfold cn;refine List.countP_congr λx _=>?_;rw[l8,l8,(l8 _ _).1 h]
theorem a1x{s:Tm}{l:List Tm}:0<cn s l↔∃t∈l,y0 s t=true:=by unfold cn;exact List.countP_pos_iff
theorem a9u{t:Tm}{l:List Tm}(h:t∈l):0<cn t l:=a1x.2 ⟨t,h,K1 t⟩
theorem a2n{a a' b b':Tm}(h:y0 a a'=true)(h2:y0 b b'=true):kb a b=kb a' b':=a5C ((l8 _ _).1 h) ((l8 _ _).1 h2)
def a3R(A B:List Tm):Prop:=(∃s,cn s B<cn s A)/\∀s,cn s A<cn s B->∃t,cn t B<cn t A/\kb t s=1
theorem b9z(P:Tm->Prop):∀(l:List Tm),(∃t∈l,P t)->∃t∈l,P t/\∀u∈l,P u->kb u t≠1
 | [],h=>by obtain⟨t,h,_⟩:=h;exact absurd h List.not_mem_nil
 | x::l,h=>by
  by_cases hl:∃t∈l,P t
  ·obtain⟨t,ht,hp,hm⟩:=b9z P l hl;by_cases hx:P x/\kb x t=1
   ·refine⟨x,mem_cons_self,hx.1,λu hu uS e=>?_⟩;rcases mem_cons.1 hu with rfl | hu
    ·rw[a8z]at e;omega
    ·exact hm u hu uS (b0O u x t e hx.2)
   ·refine⟨t,mem_cons_of_mem _ ht,hp,λu hu uS e=>?_⟩;rcases mem_cons.1 hu with rfl | hu
    ·exact hx ⟨uS,e⟩
    ·exact hm u hu uS e
  ·obtain⟨t,ht,hp⟩:=h;rcases mem_cons.1 ht with rfl | ht
   ·refine⟨t,mem_cons_self,hp,λu hu uS e=>?_⟩;rcases mem_cons.1 hu with rfl | hu
    ·rw[a8z]at e;omega
    ·exact hl ⟨u,hu,uS⟩
   ·exact absurd ⟨t,ht,hp⟩ hl
theorem c0G(A:List Tm):¬ a3R A A:=λh=>by obtain⟨s,h⟩:=h.1;omega
theorem a7t{A A' B B':List Tm}(h:∀s,cn s A=cn s A')(h2:∀s,cn s B=cn s B'):a3R A B↔a3R A' B':=by
 unfold a3R;simp only[h,h2]
theorem b7c(A B C:List Tm):a3R (A++C) (B++C)↔a3R A B:=by
 unfold a3R;simp only[b3f,Nat.add_lt_add_iff_right]
theorem b5m{X Y C:List Tm}(hx:X≠[])(hy:∀y∈Y,∃x∈X,kb x y=1):a3R (X++C) (Y++C):=by
 rw[b7c];have step:∀R:Tm->Prop,(∀s t,y0 s t=true->R s->R t)->(∀s t,R s->kb t s=1->R t)->(∃s∈X,R s)->∃s,R s/\cn s Y<cn s X:=by
  intro R hR hu hs;obtain⟨x,cQ,hr,hm⟩:=b9z R X hs;refine⟨x,hr,?_⟩;have yW:=a9u cQ;by_cases hc:0<cn x Y
  ·obtain⟨y,oQ,he⟩:=a1x.1 hc;obtain⟨x2,jN,hk⟩:=hy y oQ;have gY:kb x2 x=1:=by rw[a2n (K1 x2) he];exact hk
   exact absurd gY (hm x2 jN (hu x x2 hr gY))
  ·omega
 refine⟨?_,λs hs=>?_⟩
 ·cases X with
  | nil=>exact absurd rfl hx
  | cons x X=>obtain⟨s,_,h⟩:=step (λ_=>True) (λ_ _ _ _=>trivial) (λ_ _ _ _=>trivial) ⟨x,mem_cons_self,trivial⟩;exact⟨s,h⟩
 ·obtain⟨y,oQ,he⟩:=a1x.1 (show 0<cn s Y by omega);obtain⟨x,cQ,hk⟩:=hy y oQ;obtain⟨t,gY,ht⟩:=step (λt=>kb t s=1) (λa b e h=>by rw[<-a2n e (K1 s)];exact h) (λa b h e=>b0O b a s e h) ⟨x,cQ,by rw[a2n (K1 x) he];exact hk⟩;exact⟨t,ht,gY⟩
def F4:Nat->List Tm->List Tm->List Tm×List Tm
 | 0,a,b=>(a,b)
 | n+1,a,b=>match a[n]? with
  | none=>F4 n a b
  | some t=>match b.findIdx? (y0 t)with
   | none=>F4 n a b
   | some k=>F4 n (a.eraseIdx n) (b.eraseIdx k)
theorem a1I(s:Tm):∀{l:List Tm} {k:Nat} {t:Tm},l[k]?=some t->cn s (l.eraseIdx k)+(if y0 s t=true then 1 else 0)=cn s l
 | [],k,t,h=>by simp at h
 | x::l,0,t,h=>by
  have e:x=t:=by simpa using h
  subst e;rw[List.eraseIdx_cons_zero,X3]
 | x::l,k+1,t,h=>by
  have e:=a1I s (l:=l) (k:=k) (t:=t) (by simpa using h);rw[List.eraseIdx_cons_succ,X3,X3,<-e];omega
theorem a9n:∀(n:Nat) (a b:List Tm) (s:Tm),cn s (F4 n a b).1+cn s b=cn s (F4 n a b).2+cn s a
 | 0,a,b,s=>by unfold F4;exact Nat.add_comm _ _
 | n+1,a,b,s=>by
  unfold F4;split
  ·exact a9n n a b s
  ·rename_i t ht;split
   ·exact a9n n a b s
   ·rename_i k hk;obtain⟨kE,hp,_⟩:=List.findIdx?_eq_some_iff_getElem.1 hk;have h1:=a9n n (a.eraseIdx n) (b.eraseIdx k) s;have h2:=a1I s ht;have h3:=a1I s (getElem?_eq_getElem kE);have h4:y0 s t=y0 s b[k]:=by rw[Bool.eq_iff_iff,l8,l8,(l8 _ _).1 hp]
    rw[h4]at h2;omega
theorem b7n{a:List Tm}{n:Nat}{t:Tm}(h:a[n]?=some t):a.drop n=t::a.drop (n+1):=by
 obtain⟨hl,he⟩:=List.getElem?_eq_some_iff.1 h;rw[List.drop_eq_getElem_cons hl,he]
theorem b2U{a:List Tm}{n:Nat}(h:n<a.length):(a.eraseIdx n).drop n=a.drop (n+1):=by
 rw[List.eraseIdx_eq_take_drop_succ,List.drop_append];rw[List.length_take,Nat.min_eq_left (by omega)];simp
theorem a2O:∀(n:Nat) (a b:List Tm),n<=a.length->(∀t∈a.drop n,cn t b=0)->∀t∈(F4 n a b).1,cn t (F4 n a b).2=0
 | 0,a,b,_,h=>by unfold F4;simpa using h
 | n+1,a,b,hn,h=>by
  unfold F4;split
  ·rename_i ht;rw[List.getElem?_eq_none_iff]at ht;omega
  ·rename_i t ht;split
   ·rename_i hk;refine a2O n a b (by omega) λu hu=>?_;rw[b7n ht]at hu;rcases mem_cons.1 hu with rfl | hu
    ·rw[List.findIdx?_eq_none_iff]at hk;refine Nat.eq_zero_of_not_pos λhc=>?_;obtain⟨v,hv,he⟩:=a1x.1 hc;have:=hk v hv;rw[he]at this;cases this
    ·exact h u hu
   ·rename_i k hk;obtain⟨kE,hp,_⟩:=List.findIdx?_eq_some_iff_getElem.1 hk;refine a2O n _ _ (by rw[List.length_eraseIdx_of_lt (by omega)];omega) λu hu=>?_;rw[b2U (by omega)]at hu;have h1:=h u hu;have h2:=a1I u (getElem?_eq_getElem kE);omega
noncomputable def b1v(X Y:List Tm):Bool:=decide (0<X.length)&&!(Y.any λy=>!(X.any λx=>decide (kb x y=1)))
theorem b1m(X Y:List Tm):b1v X Y=true↔X≠[]/\∀y∈Y,∃x∈X,kb x y=1:=by
 unfold b1v;rw[Bool.and_eq_true,decide_eq_true_iff,Bool.not_eq_true',<-Bool.not_eq_true,any_eq_true,List.length_pos_iff];refine and_congr_right λ_=>⟨λh y hy=>?_,λh hc=>?_⟩
 ·by_cases hx:(X.any λx=>decide (kb x y=1))=true
  ·obtain⟨x,hx,he⟩:=any_eq_true.1 hx;exact⟨x,hx,of_decide_eq_true he⟩
  ·exact absurd ⟨y,hy,by simpa using hx⟩ h
 ·obtain⟨y,hy,he⟩:=hc;obtain⟨x,hx,hk⟩:=h y hy;have:(X.any λx=>decide (kb x y=1))=true:=any_eq_true.2 ⟨x,hx,decide_eq_true hk⟩;rw[this]at he;cases he
theorem b4H{X Y A B:List Tm}(h1:∀s,cn s X=cn s A-cn s B)(h2:∀s,cn s Y=cn s B-cn s A):b1v X Y=true↔a3R A B:=by
 rw[b1m];unfold a3R;constructor
 ·rintro⟨h3,h4⟩;refine⟨?_,λs hs=>?_⟩
  ·cases X with
   | nil=>exact absurd rfl h3
   | cons x X =>
    have h5:=a9u (l:=x::X) mem_cons_self;have h6:=h1 x;exact⟨x,by omega⟩
  ·have h5:=h2 s;obtain⟨y,hy,he⟩:=a1x.1 (show 0<cn s Y by omega);obtain⟨x,hx,hk⟩:=h4 y hy;have h6:=a9u hx;have h7:=h1 x;exact⟨x,by omega,by rw[a2n (K1 x) he];exact hk⟩
 ·rintro⟨⟨s,hs⟩,h4⟩;refine⟨?_,λy hy=>?_⟩
  ·rintro rfl;have h5:=h1 s;rw[b9F]at h5;omega
  ·have h5:=a9u hy;have h6:=h2 y;obtain⟨t,ht,hk⟩:=h4 y (by omega);have h7:=h1 t;obtain⟨x,hx,he⟩:=a1x.1 (show 0<cn t X by omega);exact⟨x,hx,by rw[<-a2n he (K1 y)];exact hk⟩
noncomputable def a4C(a b:List Tm):Bool:=b1v (F4 a.length a b).1 (F4 a.length a b).2
theorem a5R(a b:List Tm):a4C a b=true↔a3R a b:=by
 have h1:=a9n a.length a b;have h2:=a2O a.length a b (Nat.le_refl _) (by simp);have h3:∀s,cn s (F4 a.length a b).1=0\/cn s (F4 a.length a b).2=0:=by
  intro s;by_cases hc:0<cn s (F4 a.length a b).1
  ·obtain⟨t,ht,he⟩:=a1x.1 hc;right;rw[b7q he];exact h2 t ht
  ·left;omega
 refine b4H (λs=>?_) (λs=>?_)
 ·have:=h1 s;have:=h3 s;omega
 ·have:=h1 s;have:=h3 s;omega
def c4g(b:List Tm)(u:List Bool)(t:Tm):Option Nat:=(b.zip u).findIdx? (λp=>!p.2&&y0 t p.1)
def lsD:List Tm->List Tm->List Bool->List Tm
 | [],b,u=>[]
 | t::a,b,u=>match c4g b u t with
  | none=>t::lsD a b u
  | some k=>lsD a b (u.set k true)
def rm(s:Tm)(b:List Tm)(u:List Bool):Nat:=(b.zip u).countP (λp=>!p.2&&y0 s p.1)
theorem b9e(s:Tm):∀{b:List Tm} {u:List Bool} {k:Nat} {t:Tm},(b.zip u)[k]?=some (t,false)->rm s b (u.set k true)+(if y0 s t=true then 1 else 0)=rm s b u
 | [],u,k,t,h=>by simp at h
 | x::b,[],k,t,h=>by simp at h
 | x::b,y::u,0,t,h=>by
  have e:x=t/\y=false:=by simpa using h
  obtain⟨rfl,rfl⟩:=e;unfold rm;rw[List.set_cons_zero,zip_cons_cons,zip_cons_cons,countP_cons,countP_cons];simp
 | x::b,y::u,k+1,t,h=>by
  have e:=b9e s (b:=b) (u:=u) (k:=k) (t:=t) (by simpa using h);unfold rm at e |-;rw[List.set_cons_succ,zip_cons_cons,zip_cons_cons,countP_cons,countP_cons,<-e];omega
theorem b9T(s:Tm):∀(a b:List Tm) (u:List Bool),cn s (lsD a b u)=cn s a-rm s b u
 | [],b,u=>by unfold lsD;rw[b9F];omega
 | t::a,b,u=>by
  unfold lsD;split
  ·rename_i hh;rw[X3,X3,b9T s a b u];unfold c4g at hh;rw[List.findIdx?_eq_none_iff]at hh;by_cases hs:y0 s t=true
   ·have h0:rm s b u=0:=by unfold rm;rw[List.countP_eq_zero];intro p hp hc;have:=hh p hp;rw[Bool.and_eq_true,l8,(l8 _ _).1 hs,<-l8,<-Bool.and_eq_true]at hc;rw[hc]at this;cases this
    rw[h0,if_pos hs];omega
   ·rw[if_neg hs];omega
  ·rename_i k hk;unfold c4g at hk;obtain⟨hl,hp,_⟩:=List.findIdx?_eq_some_iff_getElem.1 hk;rw[Bool.and_eq_true,Bool.not_eq_true']at hp;have he:(b.zip u)[k]?=some ((b.zip u)[k].1,false):=by rw[getElem?_eq_getElem hl,<-hp.1]
   have h1:=b9e s he;have h4:y0 s t=y0 s (b.zip u)[k].1:=by rw[Bool.eq_iff_iff,l8,l8,(l8 _ _).1 hp.2]
   rw[<-h4]at h1;rw[b9T s a b _,X3];by_cases hs:y0 s t=true
   ·rw[if_pos hs]at h1 |-;omega
   ·rw[if_neg hs]at h1 |-;omega
theorem b8K(s:Tm):∀(b:List Tm),rm s b (List.replicate b.length false)=cn s b
 | []=>rfl
 | x::b=>by
  have e:=b8K s b;unfold rm at e |-;rw[length_cons,List.replicate_succ,zip_cons_cons,countP_cons,e,X3];simp
def a4R(a b:List Tm):List Tm:=lsD a b (List.replicate b.length false)
theorem Q7(s:Tm)(a b:List Tm):cn s (a4R a b)=cn s a-cn s b:=by unfold a4R;rw[b9T,b8K]
theorem b8S(img:Int->Tm){l m:List Tm}(h:∀s,cn s l=cn s m)(s:Tm):cn s (l.map (a8 img))=cn s (m.map (a8 img)):=by
 have hp:(l.map Tm.strip).Perm (m.map Tm.strip):=by
  haveI:DecidableEq Tm:=λ_ _=>Classical.propDecidable _
  rw[List.perm_iff_count];intro x;have hc:∀k:List Tm,(∀y,x=Tm.strip y->(k.map Tm.strip).count x=cn y k):=by intro k y hy;rw[List.count,countP_map];unfold cn;refine List.countP_congr λz _=>?_;rw[Function.comp_apply,beq_iff_eq,l8,hy];exact⟨Eq.symm,Eq.symm⟩
  by_cases hx:∃y,x=Tm.strip y
  ·obtain⟨y,hy⟩:=hx;rw[hc l y hy,hc m y hy,h]
  ·have hz:∀k:List Tm,(k.map Tm.strip).count x=0:=by intro k;rw[List.count_eq_zero];intro hm;obtain⟨y,_,hy⟩:=mem_map.1 hm;exact hx ⟨y,hy.symm⟩
   rw[hz,hz]
 have hq:∀k:List Tm,cn s (k.map (a8 img))=cn s ((k.map Tm.strip).map (a8 img)):=by intro k;unfold cn;rw[map_map,countP_map,countP_map];refine List.countP_congr λz _=>?_;rw[Function.comp_apply,Function.comp_apply,Function.comp_apply,l8,l8,B8]
 rw[hq l,hq m];exact c0j s (hp.map _)
theorem b3D(img:Int->Tm){A B:List Tm}(h:a3R A B):a3R (A.map (a8 img)) (B.map (a8 img)):=by
 obtain⟨h1,h2⟩:=(b1m _ _).1 ((b4H (λs=>Q7 s A B) (λs=>Q7 s B A)).2 h);have hA:∀s,cn s A=cn s (a4R A B++a4R A (a4R A B)):=λs=>by rw[b3f,Q7,Q7,Q7];omega
 have hB:∀s,cn s B=cn s (a4R B A++a4R A (a4R A B)):=λs=>by rw[b3f,Q7,Q7,Q7];omega
 rw[a7t (b8S img hA) (b8S img hB),map_append,map_append];refine b5m (λe=>h1 (List.map_eq_nil_iff.1 e)) λy hy=>?_;obtain⟨z,hz,rfl⟩:=mem_map.1 hy;obtain⟨x,hx,hk⟩:=h2 z hz;exact⟨a8 img x,List.mem_map_of_mem hx,a8O img x z hk⟩
structure Sc where
 sz:Int
 mp:List (Int×Int)
 sp:Int
 lk:Int
def C4:List (Int×Int)->Int->Option Int
 | [],_=>none
 | (k,x)::l,v=>if k=v then some x else C4 l v
def E9(l:List (Int×Int))(v:Int):Int:=(C4 l v).getD 0
def X6:List (Int×Int)->Int->Int->List (Int×Int)
 | [],v,y=>[(v,y)]
 | (k,x)::l,v,y=>if k=v then(v,y)::l else(k,x)::X6 l v y
theorem c0o(l:List (Int×Int))(v y:Int):X6 l v y≠[]:=by
 cases l with
 | nil=>simp[X6]
 | cons p l =>
  obtain⟨k,x⟩:=p;rw[X6];split<;>simp
theorem b5V(l:List (Int×Int))(v y u:Int):C4 (X6 l v y) u=if v=u then some y else C4 l u:=by
 induction l with
 | nil=>rfl
 | cons p l ih =>
  obtain⟨k,x⟩:=p;rw[X6];by_cases h:k=v
  ·rw[if_pos h,C4,C4];by_cases h2:v=u
   ·rw[if_pos h2,if_pos h2]
   ·rw[if_neg h2,if_neg h2,if_neg (by omega)]
  ·rw[if_neg h,C4,C4];by_cases h2:k=u
   ·rw[if_pos h2,if_pos h2,if_neg (by omega)]
   ·rw[if_neg h2,if_neg h2,ih]
theorem b0T(l:List (Int×Int))(v y u:Int):E9 (X6 l v y) u=if v=u then y else E9 l u:=by
 unfold E9;rw[b5V];split<;>rfl
def E5(s:Sc)(v σ:Int):Sc:=⟨s.sz,X6 s.mp v (E9 s.mp v+σ),s.sp+(max (E9 s.mp v+σ) 0-max (E9 s.mp v) 0),s.lk+(max (-(E9 s.mp v+σ)) 0-max (-(E9 s.mp v)) 0)⟩
def a8o(σ:Int)(s:Sc)(t:Tm):Sc:=if t.f<0 then E5 ⟨s.sz+σ,s.mp,s.sp,s.lk⟩ (-1-t.f) σ else⟨s.sz+σ,s.mp,s.sp,s.lk⟩
def addT(σ:Int)(s:Sc)(t:Tm):Sc:=t.flat.foldl (a8o σ) s
def addL(σ:Int)(s:Sc)(l:List Tm):Sc:=(l.flatMap Tm.flat).foldl (a8o σ) s
theorem b7O{σ:Int}{s:Sc}{t:Tm}(h:t.f<0):addT σ s t=E5 ⟨s.sz+σ,s.mp,s.sp,s.lk⟩ (-1-t.f) σ:=by
 unfold addT;rw[Tm.flat_eq,Tm.ps_of_var h];show a8o σ s t=_;unfold a8o;rw[if_pos h]
theorem b7z{σ:Int}{s:Sc}{t:Tm}(h:¬ t.f<0):addT σ s t=addL σ ⟨s.sz+σ,s.mp,s.sp,s.lk⟩ t.l:=by
 unfold addT addL;rw[Tm.flat_eq,Tm.ps_of_sym (by omega),List.foldl_cons];congr 1;unfold a8o;rw[if_neg h]
theorem b6e{σ:Int}{s:Sc}{l:List Tm}{k:Nat}{t:Tm}(h:l[k]?=some t):addL σ s (l.take (k+1))=addT σ (addL σ s (l.take k)) t:=by
 unfold addL addT;rw[List.take_add_one,h,List.flatMap_append,List.foldl_append];simp
def upS(l:List (Int×Int)):Int:=(l.map λp=>max p.2 0).sum
def dnS(l:List (Int×Int)):Int:=(l.map λp=>max (-p.2) 0).sum
def ndk(l:List (Int×Int)):Prop:=(l.map (·.1)).Nodup
theorem a4h{l:List (Int×Int)}{v:Int}(h:v∉l.map (·.1)):C4 l v=none:=by
 induction l with
 | nil=>rfl
 | cons p l ih =>
  obtain⟨k,x⟩:=p;rw[map_cons,mem_cons,not_or]at h;rw[C4,if_neg (λe=>h.1 e.symm),ih h.2]
theorem b6R{l:List (Int×Int)}{v y u:Int}(h:u∈(X6 l v y).map (·.1)):u=v\/u∈l.map (·.1):=by
 induction l with
 | nil=>simp[X6]at h;exact .inl h
 | cons p l ih =>
  obtain⟨k,x⟩:=p;rw[X6]at h;split at h
  ·rename_i e;rw[map_cons,mem_cons]at h |-;rcases h with h | h
   ·exact .inl h
   ·exact .inr (.inr h)
  ·rw[map_cons,mem_cons]at h |-;rcases h with h | h
   ·exact .inr (.inl h)
   ·rcases ih h with h | h
    ·exact .inl h
    ·exact .inr (.inr h)
theorem c0X{l:List (Int×Int)}(h:ndk l)(v y:Int):ndk (X6 l v y)/\upS (X6 l v y)=upS l+(max y 0-max (E9 l v) 0)/\dnS (X6 l v y)=dnS l+(max (-y) 0-max (-(E9 l v)) 0):=by
 induction l with
 | nil=>exact⟨by simp[X6,ndk],by simp[X6,upS,E9,C4],by simp[X6,dnS,E9,C4]⟩
 | cons p l ih =>
  obtain⟨k,x⟩:=p;unfold ndk at h;rw[map_cons,nodup_cons]at h;rw[X6];by_cases e:k=v
  ·rw[if_pos e];have hg:E9 ((k,x)::l) v=x:=by unfold E9 C4;rw[if_pos e];rfl
   rw[hg];refine⟨by unfold ndk;rw[map_cons,nodup_cons];exact e▸h,?_,?_⟩
   ·simp only[upS,map_cons,sum_cons];omega
   ·simp only[dnS,map_cons,sum_cons];omega
  ·rw[if_neg e];have hg:E9 ((k,x)::l) v=E9 l v:=by unfold E9;rw[C4,if_neg e]
   obtain⟨h1,h2,h3⟩:=ih h.2;rw[hg];refine⟨?_,?_,?_⟩
   ·unfold ndk;rw[map_cons,nodup_cons];refine⟨λhm=>?_,h1⟩;rcases b6R hm with hm | hm
    ·exact e hm
    ·exact h.1 hm
   ·unfold upS at h2 |-;rw[map_cons,sum_cons,h2,map_cons,sum_cons];omega
   ·unfold dnS at h3 |-;rw[map_cons,sum_cons,h3,map_cons,sum_cons];omega
theorem b7X{l:List (Int×Int)}(h:ndk l):0<=upS l/\(upS l=0↔∀v,E9 l v<=0):=by
 induction l with
 | nil=>exact⟨by simp[upS],by simp[upS,E9,C4]⟩
 | cons p l ih =>
  obtain⟨k,x⟩:=p;unfold ndk at h;rw[map_cons,nodup_cons]at h;obtain⟨h1,h2⟩:=ih h.2;have e:upS ((k,x)::l)=max x 0+upS l:=by simp[upS]
  rw[e];refine⟨by omega,?_⟩;constructor
  ·intro h3 v;have h4:=h2.1 (by omega) v;unfold E9 at h4 |-;rw[C4];split
   ·show x<=0;omega
   ·exact h4
  ·intro h3;have hx:=h3 k;unfold E9 at hx;rw[C4,if_pos rfl]at hx;have hx:x<=0:=hx;have:=h2.2 λv=>by
    by_cases hv:k=v
    ·subst hv;unfold E9;rw[a4h h.1];exact Int.le_refl 0
    ·have:=h3 v;unfold E9 at this |-;rw[C4,if_neg hv]at this;exact this
   omega
theorem b7o{l:List (Int×Int)}(h:ndk l):0<=dnS l/\(dnS l=0↔∀v,0<=E9 l v):=by
 induction l with
 | nil=>exact⟨by simp[dnS],by simp[dnS,E9,C4]⟩
 | cons p l ih =>
  obtain⟨k,x⟩:=p;unfold ndk at h;rw[map_cons,nodup_cons]at h;obtain⟨h1,h2⟩:=ih h.2;have e:dnS ((k,x)::l)=max (-x) 0+dnS l:=by simp[dnS]
  rw[e];refine⟨by omega,?_⟩;constructor
  ·intro h3 v;have h4:=h2.1 (by omega) v;unfold E9 at h4 |-;rw[C4];split
   ·show 0<=x;omega
   ·exact h4
  ·intro h3;have hx:=h3 k;unfold E9 at hx;rw[C4,if_pos rfl]at hx;have hx:0<=x:=hx;have:=h2.2 λv=>by
    by_cases hv:k=v
    ·subst hv;unfold E9;rw[a4h h.1];exact Int.le_refl 0
    ·have:=h3 v;unfold E9 at this |-;rw[C4,if_neg hv]at this;exact this
   omega
structure Ss(s:Sc)(z:Int)(D:Int->Int):Prop where
 sz:s.sz=z
 nd:ndk s.mp
 sp:s.sp=upS s.mp
 lk:s.lk=dnS s.mp
 at_:∀v,E9 s.mp v=D v
theorem Ss.addV{s:Sc}{z:Int}{D:Int->Int}(h:Ss s z D)(v σ:Int):Ss (E5 s v σ) z (λu=>D u+if v=u then σ else 0):=by
 obtain⟨h1,h2,h3⟩:=c0X h.nd v (E9 s.mp v+σ);refine⟨h.sz,h1,?_,?_,λu=>?_⟩
 ·show s.sp+_=upS (X6 _ _ _);rw[h2,h.sp]
 ·show s.lk+_=dnS (X6 _ _ _);rw[h3,h.lk]
 ·show E9 (X6 _ _ _) u=_;rw[b0T];split
  ·rename_i e;subst e;rw[h.at_]
  ·rw[h.at_];omega
theorem b8g{σ:Int}{s:Sc}{t:Tm}(h:t.f<0):a8o σ s t=E5 ⟨s.sz+σ,s.mp,s.sp,s.lk⟩ (-1-t.f) σ:=if_pos h
theorem b7x{σ:Int}{s:Sc}{t:Tm}(h:¬ t.f<0):a8o σ s t=⟨s.sz+σ,s.mp,s.sp,s.lk⟩:=if_neg h
theorem Ss.fold{σ:Int}:∀{l:List Tm} {s:Sc} {z:Int} {D:Int->Int},Ss s z D->Ss (l.foldl (a8o σ) s) (z+σ*l.length) (λv=>D v+σ*((vsL l).count v:Int))
 | [],s,z,D,h=>by
  refine⟨by show s.sz=_;rw[h.sz];simp,h.nd,h.sp,h.lk,λv=>?_⟩;show E9 s.mp v=_;rw[h.at_];simp[vsL]
 | t::l,s,z,D,h=>by
  rw[List.foldl_cons];have h0:Ss ⟨s.sz+σ,s.mp,s.sp,s.lk⟩ (z+σ) D:=⟨by show s.sz+σ=_;rw[h.sz],h.nd,h.sp,h.lk,h.at_⟩
  have e1:σ*((t::l).length:Int)=σ+σ*(l.length:Int):=by rw[length_cons];push_cast;rw[Int.mul_add];omega
  by_cases hf:t.f<0
  ·have h1:=(h0.addV (-1-t.f) σ).fold (σ:=σ) (l:=l);rw[b8g hf];refine⟨?_,h1.nd,h1.sp,h1.lk,λv=>?_⟩
   ·rw[h1.sz,e1];omega
   ·rw[h1.at_];have e2:(vsL (t::l)).count v=(if -1-t.f=v then 1 else 0)+(vsL l).count v:=by unfold vsL;rw[List.filter_cons,if_pos (by simpa using hf),map_cons,List.count_cons];simp only[beq_iff_eq];omega
    rw[e2];split
    ·push_cast;rw[Int.mul_add];omega
    ·push_cast;rw[Int.mul_add];omega
  ·have h1:=h0.fold (σ:=σ) (l:=l);rw[b7x hf];refine⟨?_,h1.nd,h1.sp,h1.lk,λv=>?_⟩
   ·rw[h1.sz,e1];omega
   ·rw[h1.at_];have e2:vsL (t::l)=vsL l:=by unfold vsL;rw[List.filter_cons,if_neg (by simpa using hf)]
    rw[e2]
end Go.Proofs.YteegmcfobgpemaaGreat
