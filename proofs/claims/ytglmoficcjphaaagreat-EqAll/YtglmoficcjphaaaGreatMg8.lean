/-
 UnFns10 SmFns SmMath SmSym SmSym2 SmSym3 SmStab SmNorm UnPairs UnBig UnLaws UnMid SbRef7 SbRef7N UnRefW UnMidW SbVnt2 Un8A AbRowO Un8B SbNormEq AbDel AbHdl TmPlA
-/
import Derived.Test.YtglmoficcjphaaaGreatMg7
import Derived.Test.YtglmoficcjphaaaGreatMg6
import Derived.Test.YtglmoficcjphaaaGreatMg4
import Derived.Test.YtglmoficcjphaaaGreatMg5
import Derived.Test.YtglmoficcjphaaaGreatMg2
import Derived.Test.YtglmoficcjphaaaGreatMg3
namespace Go.Proofs.YtglmoficcjphaaaGreat
open List (all_eq_true getD_eq_getElem?_getD getElem?_eq_getElem getElem?_eq_none getElem?_map length_append length_cons length_filter_le length_map length_nil length_set length_take map_append map_cons map_map mem_append mem_append_left mem_append_right mem_cons mem_cons_of_mem mem_flatMap mem_map mem_of_getElem? mem_of_mem_drop mem_of_mem_take mem_singleton pairwise_cons sum_cons take_append_drop take_length)
open Go.RowKit
set_option linter.unusedVariables false
set_option linter.unusedSimpArgs false
set_option maxRecDepth 100000
noncomputable abbrev a9o (b ck:Nat) (bs:List Nat) (c:Cl):AS:=[(450001,.obj),(35500100,.sl 400001 0 c.ns.length 5),(35500101,.mref 300003),(35500102,.sl 300002 0 c.ps.length 2),(400001,.mrow 140 5 (c.ns.map Nd.cv)),(300003,.stm (c.vr.map vrv) b ck bs),(300002,.mrow 164 2 (c.ps.map psv))]
set_option maxHeartbeats 2000000 in
theorem b1a (b ck:Nat) (bs:List Nat) (vr:List (Int×Nat)) (ps:List (Nat×Nat)) (k:Nat) (ns:List Nd) (n:Nat) (r:List Nd×Nat) (hc:n5 k ns n=some r) (dE:upOk ns) (hn:n<ns.length) (hl:ns.length<=1000000):p9 Tryz.prog 105 (a9o b ck bs ⟨ns,vr,ps⟩) [.bp 350001 0 [],.val (.i (n:Int))] (.val (.i (r.2:Int))) (a9o b ck bs ⟨r.1,vr,ps⟩):=by
 refine k6 Tryz.func105 Tryz.ntmps105 rfl rfl rfl rfl rfl rfl ?_;intro w U hU;refine aS (aR ?_);refine nc ze ?_;refine aS (aB (p8 (fun j s=>∃ ns n,n5 j ns n=some r/\upOk ns/\n<ns.length/\ns.length<=1000000/\s=(0,AV.bp 350001 0 [])::(1,.val (.i (n:Int)))::a9o b ck bs ⟨ns,vr,ps⟩) (n:=k) (s':=(0,AV.bp 350001 0 [])::(1,.val (.i (n:Int)))::a9o b ck bs ⟨ns,vr,ps⟩) (a7 ⟨rfl,rfl,rfl,rfl,rfl,rfl,rfl,rfl,rfl,trivial⟩) ⟨ns,n,hc,dE,hn,hl,rfl⟩ ?_));rintro j s ⟨ns,n,hc,dE,hn,hl,rfl⟩;cases j with
 | zero=>cases hc
 | succ j =>
 rw [n5] at hc;obtain ⟨x,hx⟩:=O1 hn;have kI:=Nd.map_at hx;have oO:nU ns n=x.up:=by unfold nU;rw [p7 hx]
 have jX:(ns.map Nd.cv).length=ns.length:=length_map ..;refine aS (aS (aR ?_));refine nc zl (nc z8 (nc zg (nc z9 (nc zl (nc (zP (k:=n)) (nc z7 (nc (zQ (G:=kI)) (nc zl (nc zE ?_)))))))));refine aC rfl (fun kE=>?_) (fun kE=>?_)
 ·have kE:x.up≠n:=by intro e;rw [e] at kE;simp at kE
  rw [if_neg (by rw [oO];exact kE)] at hc;have rA:x.up<ns.length:=by rw [<-oO];exact dE n hn
  obtain ⟨y,hy⟩:=O1 rA;have gO:=Nd.map_at hy;have wF:nU ns (nU ns n)=y.up:=by rw [oO];unfold nU;rw [p7 hy]
  rw [wF] at hc;have lY:y.up<ns.length:=by rw [<-wF];exact dE _ (by rw [oO];exact rA)
  refine aK ?_;refine aB (aS (aD (by kernel_rfl) (by kernel_rfl) ?_));refine nc zl (nc z8 (nc zg (nc z9 (nc zl (nc zl (nc z8 (nc zg (nc z9 (nc zl (nc z8 (nc zg (nc z9 (nc zl (nc (zP (k:=n)) (nc z7 (nc (zQ (G:=kI)) (nc (zP (k:=x.up)) (nc z7 (nc (zQ (G:=gO)) (nc (zP (k:=n)) (nc z7 (nc (zS (F:=kI)) ?_))))))))))))))))))))));refine ⟨by kernel_rfl,?_⟩;obtain ⟨ns1,h1⟩:∃ ns1,ns1=setUp ns n y.up:=⟨_,rfl⟩
  have cA:ns1.map Nd.cv=(ns.map Nd.cv).set n (Nd.cw { x with up:=y.up }):=by rw [h1];exact P5 hx
  have eP:ns1.length=ns.length:=by rw [h1,G2]
  have lT:ns1[n]?=some { x with up:=y.up }:=by rw [h1];exact a9i hx
  have sW:=Nd.map_at lT;have sX:nU ns1 n=y.up:=by unfold nU;rw [p7 lT]
  rw [<-h1,sX] at hc;have wG:(ns1.map Nd.cv).length=ns1.length:=length_map ..;refine AWp.wk (a7 (s':=(0,AV.bp 350001 0 [])::(1,.val (.i (n:Int)))::a9o b ck bs ⟨ns1,vr,ps⟩) ⟨rfl,rfl,rfl,?_,rfl,rfl,?_,rfl,rfl,trivial⟩) ?_
  ·show _=some (AV.sl 400001 0 ns1.length 5);rw [eP];rfl
  ·show _=some (AV.mrow 140 5 (ns1.map Nd.cv));rw [cA];rfl
  refine aR ?_;refine nc zl (nc z8 (nc zg (nc z9 (nc zl (nc (zP (k:=n)) (nc z7 (nc (zQ (G:=sW)) (nc ze ?_))))))));exact ⟨j,(0,AV.bp 350001 0 [])::(1,.val (.i (y.up:Int)))::a9o b ck bs ⟨ns1,vr,ps⟩,by omega,⟨ns1,y.up,hc,by rw [h1];exact dE.set lY,by rw [eP];exact lY,by rw [eP];exact hl,rfl⟩,a7 ⟨rfl,rfl,rfl,rfl,rfl,rfl,rfl,rfl,rfl,trivial⟩⟩
 ·have kE:x.up=n:=by have:=of_decide_eq_false kE;simp only [ne_eq,Decidable.not_not] at this;omega
  rw [if_pos (by rw [oO];exact kE)] at hc;cases hc;refine aE ?_;refine aS (aR ?_);refine nc zl (nc ze ?_);exact aT ⟨.inr rfl,_,Wk.refl _,rfl,rfl,rfl,rfl,rfl,rfl,rfl,rfl,trivial⟩
def K3 (vr:List (Int×Nat)) (g:Nat->Tm) (js:List Nat):List Bd:=js.map fun j=>⟨(vr.getD j (0,0)).1,g (vr.getD j (0,0)).2⟩
theorem b5W {l:List Nat} (h:l.Nodup):∀ {i j x:Nat},l[i]?=some x->l[j]?=some x->i=j:=by
 induction l with
 | nil=>intro i j x h1;simp at h1
 | cons y l ih =>
  intro i j x h1 h2;rw [List.nodup_cons] at h;cases i with
  | zero =>
   cases j with
   | zero=>rfl
   | succ j =>
    simp at h1 h2;subst h1;exact absurd (mem_of_getElem? h2) h.1
  | succ i =>
   cases j with
   | zero =>
    simp at h1 h2;subst h2;exact absurd (mem_of_getElem? h1) h.1
   | succ j =>
    simp at h1 h2;rw [ih h.2 h1 h2]
theorem b0M {n:Nat} {js:List Nat} (hn:js.Nodup) (hl:∀ j∈js,j<n) (ha:∀ j,j<n->j∈js):js.Perm (List.range n):=
 (List.perm_ext_iff_of_nodup hn List.nodup_range).2 fun j=>by rw [List.mem_range];exact ⟨hl j,ha j⟩
theorem a5O {n:Nat} {l:List Nat} (hn:l.Nodup) (hl:∀ j∈l,j<n):l.length<=n:=by
 have h:l.Perm ((List.range n).filter fun x=>decide (x∈l)):=(List.perm_ext_iff_of_nodup hn (List.nodup_range.filter _)).2 fun x=>by rw [List.mem_filter,List.mem_range,decide_eq_true_eq];exact ⟨fun h=>⟨hl x h,h⟩,fun h=>h.2⟩
 have h2:=length_filter_le (fun x=>decide (x∈l)) (List.range n);rw [h.length_eq];rw [List.length_range] at h2;exact h2
theorem b1q {vr:List (Int×Nat)} {g:Nat->Tm} {js:List Nat} (h:js.Perm (List.range vr.length)):∃ vr':List (Int×Nat),vr'.Perm vr/\K3 vr g js=vr'.map fun p=>(⟨p.1,g p.2⟩:Bd):=by
 refine ⟨js.map fun j=>vr.getD j (0,0),?_,by unfold K3;rw [map_map];rfl⟩;refine (h.map _).trans ?_;have:(List.range vr.length).map (fun j=>vr.getD j (0,0))=vr:=by
  apply List.ext_getElem?;intro i;rw [getElem?_map];rcases Nat.lt_or_ge i vr.length with hi | hi
  ·rw [List.getElem?_range hi,Option.map_some,getD_eq_getElem?_getD,getElem?_eq_getElem hi];rfl
  ·rw [getElem?_eq_none (by simpa using hi),getElem?_eq_none hi];rfl
 rw [this]
set_option maxHeartbeats 8000000 in
theorem b4c (fu:Nat) (c0:Cl) (od:List Nat) (q:Cl×List Tm) (hq:A5 fu od.reverse c0 (List.replicate c0.ns.length tm0)=some q) (hF:FitU c0) (nB:q.1.ns.length=c0.ns.length) (oQ:∀ n∈od,n<c0.ns.length) (lU:od.length<=1000) {H r:Nat->Nat} {E} (hC:ClsC q.1 H r E) (wX:FitU q.1) (cW:O6 q.1.vr) (bQ:q.1.vr.length<=100000) :
  b7Z (Sg:=List Bd×Cl) Tryz.prog 73 (r5 c0) [.bp 350001 0 [],.val (n4 od)] (fun σ=>∃ vr':List (Int×Nat),vr'.Perm q.1.vr/\σ.1=vr'.map fun p=>(⟨p.1,q.2.getD (H p.2) tm0⟩:Bd)) (fun σ => .val (.lst (σ.1.map Bd.cv))) (fun σ=>r5 σ.2):=by
 have fW:=b0X fu c0 od q hq hF nB oQ lU;have dA:q.2.length=c0.ns.length:=(TI.all (t:=(c0,List.replicate c0.ns.length tm0)) (N:=c0.ns.length) ⟨hF,by simp,Nat.le_refl _⟩ (fun n hn=>oQ n (List.mem_reverse.1 hn)) hq).1.out;obtain ⟨N,hN⟩:∃ N,N=c0.ns.length:=⟨_,rfl⟩
 have hNl:N<=1000:=by rw [hN];exact Nat.le_trans (B5 _) hF.big
 rw [<-hN] at fW nB dA;obtain ⟨c,out⟩:=q;simp only at hC wX cW bQ nB dA fW |-;obtain ⟨ns0,vr,ps⟩:=c;simp only at hC wX cW bQ nB dA fW |-;have wY:∀ (j:Nat) (p:Int×Nat),vr[j]?=some p->p.2<N:=fun j p hp=>by have:=(O5 cW.1 (v:=p.1) (m:=p.2)).2 (mem_of_getElem? hp);have:=(hC.vrt p.1 p.2 this).1;simp only at this;omega
 have dD:(vr.map vrv).length=vr.length:=length_map ..;refine b6Q Tryz.func73 Tryz.ntmps73 rfl rfl rfl rfl rfl (fun σ=>rfl) ?_;intro w U hU;refine aS (aR ?_);refine nc ze ?_;refine aS (aR ?_);refine nc zl (nc zl (nc (zX (z:=fW) (G:=j8 (by first | rfl | kernel_rfl))) (nc ze ?_)));refine aS (aR ?_);refine nc zl (nc z8 (nc zg (nc z9 (nc zbm (ne (zbl (k:=(vr.map vrv).length) 200017) (nc ze ?_))))));refine AWp.wk ((a7 (s':=(0,AV.bp 350001 0 [])::(5,.sl 300005 0 N 2)::(6,.sl 200017 0 0 3)::(200017,.mrow 99 3 [])::(300005,.mrow 42 2 (out.map Tm.cv))::r5 ⟨ns0,vr,ps⟩) ⟨rfl,rfl,rfl,rfl,rfl,rfl,rfl,rfl,rfl,rfl,rfl,rfl,trivial⟩).trans (t9 300001 400001 rfl rfl (b7m hU (by kernel_rfl)) (by kernel_rfl) (by kernel_rfl) (by kernel_rfl))) ?_;refine AWp.stamps 300003 (l:=vr.map vrv) rfl rfl fun b ck bs mJ bH aI=>?_;rw [dD] at mJ;refine aS (aS (aR ?_));refine nc zl (nc z8 (nc zg (nc z9 (ne (zbn 300022) ?_))));obtain ⟨g,hg⟩:∃ g:Nat->Tm,g=fun m=>out.getD (H m) tm0:=⟨_,rfl⟩
 obtain ⟨st,dN⟩:∃ st:List Nat->List Nd->AS,st=fun js ns1=>(0,AV.bp 350001 0 [])::(5,.sl 300005 0 N 2)::(6,.sl 200017 0 js.length 3)::(22,.mref 300022)::(300022,.itr b ck ck (js.map fun j=>bs.getD j 0))::(200017,.mrow 99 3 ((K3 vr g js).map Bd.cv))::(300005,.mrow 42 2 (out.map Tm.cv))::a9o b ck bs ⟨ns1,vr,ps⟩:=⟨_,rfl⟩
 refine aB (p8 (fun m s=>∃ js ns1,m+js.length=vr.length/\js.Nodup/\(∀ j∈js,j<vr.length)/\ClsC ⟨ns1,vr,ps⟩ H r E/\FitU ⟨ns1,vr,ps⟩/\ns1.length=N/\s=st js ns1) (n:=vr.length) (s':=st [] ns0) (by rw [dN];exact a7 ⟨rfl,rfl,rfl,rfl,rfl,rfl,rfl,rfl,rfl,rfl,rfl,rfl,rfl,rfl,trivial⟩) ⟨[],ns0,rfl,List.nodup_nil,(fun j hj=>by cases hj),hC,wX,nB,rfl⟩ ?_);rintro m s ⟨js,ns1,hm,uH,gK,wZ,jK,eP,rfl⟩;rw [dN];refine aS (b3Z (n:=300003) (k := .i64) rfl rfl rfl rfl rfl rfl rfl rfl rfl (a3E vr) aI (Nat.le_refl _) (fun dU=>?_) (fun j x i vc hj hl hx=>?_))
 ·refine ⟨_,_,_,aX (gN rfl) rfl rfl rfl rfl rfl rfl,(by first | rfl | kernel_rfl),?_⟩;refine aS (aC rfl (fun hc=>by cases hc) (fun _=>aE ?_));have tH:∀ j,j<vr.length->j∈js:=fun j hj=>by
   have hjb:j<bs.length:=by omega
   have h1:=dU (bs[j]) (List.getElem_mem hjb);obtain ⟨j',h2,h3⟩:=mem_map.1 h1;have hj':=gK j' h2;have xA:j'<bs.length:=by omega
   rw [getD_eq_getElem?_getD,getElem?_eq_getElem xA] at h3;have h3:bs[j']=bs[j]:=h3;have:=b5W bH (getElem?_eq_getElem xA) (by rw [h3];exact getElem?_eq_getElem hjb);rw [<-this];exact h2
  obtain ⟨vr',hp,hb⟩:=b1q (g:=g) (b0M uH gK tH);have qG:((K3 vr g js).map Bd.cv).length=js.length:=by rw [length_map];unfold K3;rw [length_map]
  refine AWp.wk (a5n 6 200017 rfl rfl rfl (.inr (by decide)) (by rw [qG];omega) (s':=a9o b ck bs ⟨ns1,vr,ps⟩) ⟨rfl,rfl,rfl,rfl,rfl,rfl,rfl,trivial⟩ (by kernel_rfl)) ?_;rw [List.drop_zero,List.take_of_length_le (by rw [qG];omega)];refine aS (aR ?_);refine nc zl (nc ze ?_);refine aT ⟨.inr rfl,(K3 vr g js,⟨ns1,vr,ps⟩),⟨vr',hp,by rw [hb,hg]⟩,_,((a7 (s':=(4,AV.val (.lst ((K3 vr g js).map Bd.cv)))::a9o b ck bs ⟨ns1,vr,ps⟩) ⟨rfl,rfl,rfl,rfl,rfl,rfl,rfl,rfl,trivial⟩).trans (b6J 300003 rfl rfl)).trans ((a7 (s':=(4,AV.val (.lst ((K3 vr g js).map Bd.cv)))::N3 ⟨ns1,vr,ps⟩) ⟨rfl,rfl,rfl,rfl,rfl,rfl,rfl,rfl,trivial⟩).trans (t9 400001 300001 rfl rfl (a5H U (by decide)) (by kernel_rfl) (by kernel_rfl) (by kernel_rfl))),rfl,rfl,rfl,rfl,rfl,rfl,rfl,rfl,trivial⟩
 ·refine ⟨_,_,_,aX (gN rfl) rfl rfl rfl rfl rfl rfl,(by first | rfl | kernel_rfl),?_⟩;refine aS (aC rfl (fun _=>aK ?_) (fun hc=>by cases hc));have hjl2:j<vr.length:=by
   rcases Nat.lt_or_ge j bs.length with h | h
   ·omega
   ·rw [getElem?_eq_none h] at hj;cases hj
  obtain ⟨p,hp⟩:∃ p,vr[j]?=some p:=⟨vr[j],getElem?_eq_getElem hjl2⟩
  have hpi:i=p.1/\vc = .i (p.2:Int):=by rw [getElem?_map,hp] at hl;have hl:some (CV.row [.i p.1,.i (p.2:Int)])=some (.row [.sc (.int .i64 i),vc]):=hl;injection hl with hl;injection hl with _ _ hl;injection hl with hl eQ;injection eQ with eQ;injection hl with _ hl;injection hl with _ hl;exact ⟨hl.symm,eQ.symm⟩
  obtain ⟨rfl,rfl⟩:=hpi;have hpN:=wY j p hp;obtain ⟨ns2,hd,xB,kL,_⟩:=ClsC.head (r p.2+1) wZ (n:=p.2) (by omega) (by omega);obtain ⟨uI,_,jB⟩:=FitU.head jK (by omega) hd;have hHN:H p.2<N:=by have:H p.2<ns1.length:=jB;omega
  have hdc:=b1a b ck bs vr ps (r p.2+1) ns1 p.2 (ns2,H p.2) hd jK.up (by omega) (by omega);obtain ⟨z,hz⟩:∃ z,out[H p.2]?=some z:=⟨out[H p.2]'(by omega),getElem?_eq_getElem (by omega)⟩
  have iQ:=Tm.map_at hz;have pE:(out.map Tm.cv).length=out.length:=length_map ..;have hgz:g p.2=z:=by rw [hg];show out.getD (H p.2) tm0=z;rw [getD_eq_getElem?_getD,hz];rfl
  have qG:((K3 vr g js).map Bd.cv).length=js.length:=by rw [length_map];unfold K3;rw [length_map]
  have hbl3:(K3 vr g js).length=js.length:=by unfold K3;rw [length_map]
  have hbz:=Bd.size_all (K3 vr g js);have hjs:js.length<=100000:=by omega
  have tI:j∉js:=fun fD=>hx (mem_map.2 ⟨j,fD,by rw [getD_eq_getElem?_getD,hj];rfl⟩);have xC:K3 vr g (js++[j])=K3 vr g js++[⟨p.1,z⟩]:=by unfold K3;rw [map_append,List.map_singleton,getD_eq_getElem?_getD,hp];show _++[(⟨p.1,g p.2⟩:Bd)]=_;rw [hgz]
  have hnd:(js++[j]).Nodup:=by rw [List.nodup_append];exact ⟨uH,by simp,fun a ha b hb=>by rw [mem_singleton] at hb;subst hb;exact fun e=>tI (e▸ha)⟩
  have kA:∀ x∈js++[j],x<vr.length:=fun x hx=>by
   rcases mem_append.1 hx with h | h
   ·exact gK x h
   ·rw [mem_singleton] at h;omega
  refine aB (aS (aR ?_));refine nc (zbo (n:=300003) (E:=hj) (F:=hl)) (nc zx (nc zx (nc ze (nc ze ?_))));refine aR ?_;refine nc zl (nc zl (nc zl (nc zl (nc zl (nc (zX (z:=hdc) (G:=j8 (by first | rfl | kernel_rfl))) (nc (zP (k:=H p.2)) (nc (zQ (G:=iQ)) (nc zn (nc zC (ne (zbb 200038) (nc ze ?_)))))))))));refine ⟨m-1,st (js++[j]) ns2,?_,⟨js++[j],ns2,?_,?_,?_,xB,uI,by omega,by rw [dN]⟩,?_⟩
  ·have h2:=a5O hnd kA;rw [length_append] at h2;simp at h2;omega
  ·have h2:=a5O hnd kA;rw [length_append] at h2 |-;simp at h2 |-;omega
  ·exact hnd
  ·exact kA
  ·rw [dN];refine (a7 (s':=(0,AV.bp 350001 0 [])::(5,.sl 300005 0 N 2)::(6,.sl 200038 0 (js++[j]).length 3)::(22,.mref 300022)::(300022,.itr b ck ck ((js++[j]).map fun j=>bs.getD j 0))::(200038,.mrow 99 3 ((K3 vr g (js++[j])).map Bd.cv))::(300005,.mrow 42 2 (out.map Tm.cv))::a9o b ck bs ⟨ns2,vr,ps⟩) ⟨rfl,rfl,?_,rfl,?_,?_,rfl,rfl,rfl,rfl,rfl,rfl,rfl,rfl,trivial⟩).trans (o8 200038 200017 rfl rfl (by kernel_rfl) (by kernel_rfl))
   ·rw [length_append,<-qG];rfl
   ·rw [map_append,List.map_singleton,getD_eq_getElem?_getD,hj];rfl
   ·rw [xC,map_append,List.map_singleton];rfl
section
variable {P:Program} {w0:World} {U0:UX} {nt:Nat} {Q:Exit->AS->Prop} {s:AS}
variable {ops:Array Oper} {o:Oper} {gs:List Nat} {S:Nat->Option AV} {d:Nat}
end
theorem c0S {c:Cl} {H r:Nat->Nat} {E} (h:ClsC c H r E) (hv:O6 c.vr):c.vr.length<=c.ns.length:=by
 have hn:(c.vr.map Prod.snd).Nodup:=by have h1:c.vr.Pairwise (fun a b=>a.1≠b.1):=List.pairwise_map.1 hv.1;refine List.pairwise_map.2 (List.Pairwise.imp_of_mem (fun {a b} ha hb mY e=>mY ?_) h1);have e1:=(h.vrt a.1 a.2 (F2 hv.1 ha)).2;have e2:=(h.vrt b.1 b.2 (F2 hv.1 hb)).2;rw [e] at e1;omega
 have:=a1A c.ns.length hn (fun x hx=>by obtain ⟨p,hp,rfl⟩:=mem_map.1 hx;exact (h.vrt p.1 p.2 (F2 hv.1 hp)).1)
 simpa using this
def ToldU (l:List (Tm×Tm)) (r:List Bd×Bool):Prop:=(r.2=false/\r.1=[]/\∀ τ,¬ uni τ l)\/(r.2=true/\∃ s:List Bd,Mgu (c9 s) l/\(∀ b∈s,0<=b.v)/\(∀ v,0<=v->c9 s v=s8 v\/((c9 s v).rng/\(c9 s v).size<=90000000000))/\r.1=x0 s)
theorem ToldU.no {l:List (Tm×Tm)} {r:List Bd×Bool} (h:ToldU l r) (hn:∀ τ,¬ uni τ l):r=([],false):=by
 rcases h with ⟨h1,h2,_⟩ | ⟨_,s,hs,_⟩
 ·cases r;simp_all
 ·exact absurd hs.uni (hn _)
theorem ToldU.yes {l:List (Tm×Tm)} {r:List Bd×Bool} (h:ToldU l r) {u:List Bd} (hu:Mgu (c9 u) l) (eO:∀ b∈u,0<=b.v):r=(x0 u,true)/\∀ v,0<=v->c9 u v=s8 v\/((c9 u v).rng/\(c9 u v).size<=90000000000):=by
 rcases h with ⟨_,_,h3⟩ | ⟨h1,s,hs,h0,hb,h2⟩
 ·exact absurd hu.uni (h3 _)
 ·refine ⟨?_,fun v hv=>by rw [hs.one hu hv];exact hb v hv⟩;rw [<-b6s h0 eO hs hu,<-h2,<-h1]
theorem b4F {l:List (Tm×Tm)} {r:List Bd×Bool} (h:ToldU l r) {vr vr':List (Int×Nat)} (hv:O6 vr) (wC:∀ p∈vr,p.1<=9223372036854775807) (hp:vr'.Perm vr) {g:Nat->Tm} {u:List Bd} (hu:u=vr'.map fun p=>(⟨p.1,g p.2⟩:Bd)) (hm:∀ s:List Bd,(∀ v,b6 s v=(n9 vr v).map g)->Mgu (c9 s) l):r=(x0 u,true)/\(u.map Bd.v).Nodup/\bdsOk u:=by
 have hf:∀ v,b6 u v=(n9 vr v).map g:=fun v=>by rw [hu];exact b0K hv.1 hp g v
 have eO:∀ b∈u,0<=b.v:=fun b hb=>by rw [hu] at hb;obtain ⟨p,dX,rfl⟩:=mem_map.1 hb;exact hv.2 p (hp.mem_iff.1 dX)
 obtain ⟨h1,h2⟩:=h.yes (hm u hf) eO;refine ⟨h1,?_,fun b hb=>?_⟩
 ·rw [hu,map_map];exact (hp.map Prod.fst).nodup_iff.2 hv.1
 ·have h3:=h2 b.v (eO b hb);have e:c9 u b.v=b.t:=by unfold c9;rw [hf];rw [hu] at hb;obtain ⟨p,dX,rfl⟩:=mem_map.1 hb;show ((n9 vr p.1).map g).getD _=_;rw [F2 hv.1 (hp.mem_iff.1 dX)];rfl
  rw [e] at h3;rcases h3 with h3 | h3
  ·rw [h3];have gC:b.v<=9223372036854775807:=by rw [hu] at hb;obtain ⟨p,dX,rfl⟩:=mem_map.1 hb;exact wC p (hp.mem_iff.1 dX)
   have pH:=eO b hb;exact ⟨b0a (by omega) (by omega),by rw [Tm.size_var (by rw [r6];omega)];decide⟩
  ·exact h3
theorem a1Z:∀ E:Nat,2 ^ E<=3 ^ E
 | 0=>Nat.le_refl _
 | E+1=>by
  have:=a1Z E;rw [Nat.pow_succ,Nat.pow_succ];omega
theorem a2y:∀ k:Nat,k*2 ^ k<=3 ^ k
 | 0=>by decide
 | 1=>by decide
 | 2=>by decide
 | k+3=>by
  have h:=a2y (k+2);have e1:(k+3)*2 ^ (k+3)=(2*(k+3))*2 ^ (k+2):=by rw [Nat.pow_succ 2 (k+2),Nat.mul_comm (2 ^ (k+2)) 2,<-Nat.mul_assoc,Nat.mul_comm (k+3) 2]
  have e2:3 ^ (k+3)=3*3 ^ (k+2):=by rw [Nat.pow_succ 3 (k+2),Nat.mul_comm]
  rw [e1,e2];have h2:(2*(k+3))*2 ^ (k+2)<=(3*(k+2))*2 ^ (k+2):=Nat.mul_le_mul_right _ (by omega);rw [Nat.mul_assoc 3] at h2;omega
def Big (E s:Nat):Prop:=2 ^ E*(s+1)<=2*3 ^ E
theorem Big.succ {E s:Nat} (h:Big E s):Big (E+1) s:=by
 unfold Big at *;rw [Nat.pow_succ,Nat.pow_succ,Nat.mul_assoc,Nat.mul_left_comm];omega
theorem Big.up {E F s:Nat} (h:Big E s) (hf:E<=F):Big F s:=by
 induction hf with
 | refl=>exact h
 | step _ ih=>exact ih.succ
theorem Big.sum {E:Nat}:∀ (l:List Nat),(∀ s∈l,Big E s)->2 ^ E*(l.sum+l.length)<=2*l.length*3 ^ E
 | [],_=>by simp
 | s::l,h=>by
  have h1:2 ^ E*(s+1)<=2*3 ^ E:=h s (by simp);have h2:=Big.sum l fun x hx=>h x (mem_cons_of_mem _ hx);rw [sum_cons,length_cons,show s+l.sum+(l.length+1)=(s+1)+(l.sum+l.length) by omega,Nat.mul_add,show 2*(l.length+1)*3 ^ E=2*3 ^ E+2*l.length*3 ^ E by rw [Nat.mul_add,Nat.add_mul,Nat.add_comm]];omega
theorem Big.node {E:Nat} (l:List Nat) (h:∀ s∈l,Big E s):Big (E+l.length) (1+l.sum):=by
 have h1:=Big.sum l h;have xD:=a1Z E;have hk:=a2y l.length;unfold Big;rw [Nat.pow_add,Nat.pow_add];obtain ⟨A,hA⟩:∃ A,A=2 ^ E:=⟨_,rfl⟩
 obtain ⟨B,hB⟩:∃ B,B=3 ^ E:=⟨_,rfl⟩
 rw [<-hA,<-hB] at h1 xD |-
 match l,h1,hk with
 | [],h1,hk=>simp;omega
 | [s],h1,hk =>
  simp only [sum_cons,List.sum_nil,length_cons,length_nil,Nat.add_zero,Nat.zero_add,Nat.pow_one,Nat.mul_one] at h1 |-;rw [Nat.mul_comm A 2,Nat.mul_assoc,show A*(1+s+1)=A*(s+1)+A by rw [show 1+s+1=(s+1)+1 by omega,Nat.mul_add,Nat.mul_one]];omega
 | s::t::l,h1,hk =>
  obtain ⟨m,hm⟩:∃ m,m=s::t::l:=⟨_,rfl⟩
  have kF:2<=m.length:=by rw [hm];simp
  rw [<-hm] at h1 hk |-;obtain ⟨P,hP⟩:∃ P,P=2 ^ m.length:=⟨_,rfl⟩
  obtain ⟨Q,hQ⟩:∃ Q,Q=3 ^ m.length:=⟨_,rfl⟩
  rw [<-hP,<-hQ] at hk;rw [<-hP,<-hQ];have h2:A*(1+m.sum+1)<=A*(m.sum+m.length):=Nat.mul_le_mul_left _ (by omega);have h3:A*(1+m.sum+1)<=2*m.length*B:=Nat.le_trans h2 h1;have h4:P*(A*(1+m.sum+1))<=P*(2*m.length*B):=Nat.mul_le_mul_left _ h3;have h5:P*(2*m.length*B)=2*(m.length*P*B):=by rw [Nat.mul_assoc 2,Nat.mul_left_comm P 2,<-Nat.mul_assoc P,Nat.mul_comm P m.length]
  have h6:m.length*P*B<=Q*B:=Nat.mul_le_mul_right _ hk;rw [show A*P*(1+m.sum+1)=P*(A*(1+m.sum+1)) by rw [Nat.mul_comm A P,Nat.mul_assoc],Nat.mul_comm B Q];omega
theorem b3C {s:List Bd} {E:List (Tm×Tm)} (h:Mgu (c9 s) E) {t:Tm} {u:Int} (hu:u∈(b7 (c9 s) t).vs):b6 (x0 s) u=none:=by
 have eO:=s6 _ u hu;rw [b4V s eO,h.rep_vs hu,if_pos];show (decide ((s8 u).f<0)&&decide (-1-(s8 u).f=u))=true;rw [r6,decide_eq_true (by omega),decide_eq_true (by omega)];rfl
def b9G (S:List Tm):Prop:=∀ s∈S,∀ p∈s.ps,p∈S
def Hits (S:List Tm) (σ:Int->Tm) (t:Tm):Prop:=∃ s∈S,b7 σ t=b7 σ s
def Orig (S:List Tm) (σ:Int->Tm):Prop:=∀ v,0<=v->¬ (σ v).f<0->∃ s∈S,¬ s.f<0/\b7 σ s=σ v
theorem Hits.sym {S:List Tm} {σ:Int->Tm} {t:Tm} (h:Hits S σ t) (ho:Orig S σ) (hb:∀ v,0<=v->(σ v).strip=σ v) (hf:¬ (b7 σ t).f<0):∃ s∈S,¬ s.f<0/\b7 σ t=b7 σ s:=by
 obtain ⟨s,hs,e⟩:=h;by_cases cX:s.f<0
 ·have h0:0 <= -1-s.f:=by omega
  have e2:b7 σ s=σ (-1-s.f):=by rw [j5 cX,hb _ h0]
  rw [e,e2] at hf;obtain ⟨q,hq,nC,e3⟩:=ho _ h0 hf;exact ⟨q,hq,nC,by rw [e,e2,e3]⟩
 ·exact ⟨s,hs,cX,e⟩
theorem a0v {S:List Tm} {f g:Tm->Nat} (h:∀ x∈S,f x<=g x):(S.map f).sum<=(S.map g).sum:=by
 induction S with
 | nil=>exact Nat.le_refl _
 | cons a S ih =>
  rw [map_cons,map_cons,sum_cons,sum_cons];have h1:=h a (by simp);have h2:=ih fun x hx=>h x (mem_cons_of_mem _ hx);omega
theorem a8A {S:List Tm} {f g:Tm->Nat} {c:Nat} {s:Tm} (hs:s∈S) (hc:f s+c<=g s) (h:∀ x∈S,f x<=g x):(S.map f).sum+c<=(S.map g).sum:=by
 induction S with
 | nil=>cases hs
 | cons a S ih =>
  rw [map_cons,map_cons,sum_cons,sum_cons];have h1:=h a (by simp);rcases mem_cons.1 hs with rfl | hs
  ·have:=a0v (S:=S) fun x hx=>h x (mem_cons_of_mem _ hx);omega
  ·have:=ih hs fun x hx=>h x (mem_cons_of_mem _ hx);omega
def arN (S:List Tm) (σ:Int->Tm) (n:Nat):Nat:=(S.map fun s=>if (b7 σ s).size<=n then s.ps.length else 0).sum
theorem b6N {S:List Tm} {σ:Int->Tm} {n m:Nat} (h:n<=m):arN S σ n<=arN S σ m:=a0v fun x _=>by
 split
 ·rw [if_pos (by omega)];exact Nat.le_refl _
 ·exact Nat.zero_le _
theorem Big.one (E:Nat):Big E 1:=by
 unfold Big;have:=a1Z E;omega
theorem b8r {S:List Tm} {σ:Int->Tm} (hc:b9G S) (ho:Orig S σ) (hb:∀ v,0<=v->(σ v).strip=σ v):∀ (n:Nat),∀ s∈S,¬ s.f<0->(b7 σ s).size<=n->Big (arN S σ n) (b7 σ s).size:=by
 intro n
 induction n with
 | zero=>intro s _ _ h;have:=Tm.size_pos (b7 σ s);omega
 | succ n ih =>
  intro s hs hf hn;by_cases cV:(b7 σ s).size<=n
  ·exact (ih s hs hf cV).up (b6N (by omega))
  have kD:(b7 σ s).size=n+1:=by omega
  have gW:s.ps=s.l:=Tm.ps_of_sym (by omega);have he:b7 σ s=⟨s.f,s.l.map (b7 σ)⟩:=i8 hf;have h1:(b7 σ s).size=1+((s.l.map (b7 σ)).map Tm.size).sum:=by rw [he];exact Tm.size_sym (t:=⟨s.f,s.l.map (b7 σ)⟩) hf
  have cN:∀ x∈(s.l.map (b7 σ)).map Tm.size,Big (arN S σ n) x:=by
   intro x hx;rw [map_map] at hx;obtain ⟨p,hp,rfl⟩:=mem_map.1 hx;show Big _ (b7 σ p).size;have gZ:p∈S:=hc s hs p (by rw [gW];exact hp);have kA:(b7 σ p).size<(b7 σ s).size:=Tm.size_part (by rw [he,Tm.ps_of_sym (by show 0<=s.f;omega)];exact mem_map.2 ⟨p,hp,rfl⟩);by_cases hv:(b7 σ p).f<0
   ·rw [Tm.size_var hv];exact Big.one _
   ·obtain ⟨q,hq,nC,e⟩:=Hits.sym ⟨p,gZ,rfl⟩ ho hb hv;rw [e] at kA |-;exact ih q hq nC (by omega)
  have h2:=Big.node _ cN;rw [<-h1] at h2;refine h2.up ?_;rw [length_map,length_map];refine a8A hs ?_ fun x _=>?_
  ·rw [if_neg (by omega),if_pos (by omega),gW];omega
  ·split
   ·rw [if_pos (by omega)];exact Nat.le_refl _
   ·exact Nat.zero_le _
def arA (S:List Tm):Nat:=(S.map fun s=>s.ps.length).sum
theorem a1G {S:List Tm} {σ:Int->Tm} (hc:b9G S) (ho:Orig S σ) (hb:∀ v,0<=v->(σ v).strip=σ v) {t:Tm} (h:Hits S σ t):Big (arA S) (b7 σ t).size:=by
 by_cases hv:(b7 σ t).f<0
 ·rw [Tm.size_var hv];exact Big.one _
 ·obtain ⟨q,hq,nC,e⟩:=h.sym ho hb hv;rw [e];refine (b8r hc ho hb _ q hq nC (Nat.le_refl _)).up (a0v fun x _=>?_);split
  ·exact Nat.le_refl _
  ·exact Nat.zero_le _
theorem a3R (S T:List Tm):arA (S++T)=arA S+arA T:=by unfold arA;rw [map_append,List.sum_append]
theorem a1w (t:Tm):arA t.flat+1=t.size:=by
 induction t using Tm.indp with
 | h t ih =>
  have:∀ l:List Tm,(∀ s∈l,arA s.flat+1=s.size)->arA (l.flatMap Tm.flat)+l.length=(l.flatMap Tm.flat).length:=by
   intro l
   induction l with
   | nil=>intro _;rfl
   | cons a l ih2 =>
    intro h;have h1:=h a (by simp);have h2:=ih2 fun s hs=>h s (mem_cons_of_mem _ hs);unfold Tm.size at h1;rw [List.flatMap_cons,a3R,length_append,length_cons];omega
  have h3:=this t.ps ih;rw [Tm.size_eq,Tm.flat_eq];show ((t::t.ps.flatMap Tm.flat).map fun s:Tm=>s.ps.length).sum+1=_;rw [map_cons,sum_cons];have h4:arA (t.ps.flatMap Tm.flat)=((t.ps.flatMap Tm.flat).map fun s:Tm=>s.ps.length).sum:=rfl;omega
theorem a6K (t:Tm):b9G t.flat:=by
 induction t using Tm.indp with
 | h t ih =>
  intro s hs p hp;rw [Tm.flat_eq] at hs |-;rcases mem_cons.1 hs with rfl | hs
  ·refine mem_cons_of_mem _ (mem_flatMap.2 ⟨p,hp,?_⟩);rw [Tm.flat_eq];simp
  ·obtain ⟨q,hq,hs⟩:=mem_flatMap.1 hs;exact mem_cons_of_mem _ (mem_flatMap.2 ⟨q,hq,ih q hq s hs p hp⟩)
def I9 (l:List (Tm×Tm)):List Tm:=l.flatMap fun p=>p.1.flat++p.2.flat
theorem Z5 (l:List (Tm×Tm)):b9G (I9 l):=by
 intro s hs p hp;obtain ⟨q,hq,hs⟩:=mem_flatMap.1 hs;refine mem_flatMap.2 ⟨q,hq,?_⟩;rcases mem_append.1 hs with hs | hs
 ·exact mem_append_left _ (a6K _ s hs p hp)
 ·exact mem_append_right _ (a6K _ s hs p hp)
theorem a9u {l:List (Tm×Tm)} {p:Tm×Tm} (h:p∈l):p.1∈I9 l/\p.2∈I9 l:=by
 refine ⟨mem_flatMap.2 ⟨p,h,mem_append_left _ ?_⟩,mem_flatMap.2 ⟨p,h,mem_append_right _ ?_⟩⟩<;>(rw [Tm.flat_eq];simp)
theorem a7D:∀ l:List (Tm×Tm),(∀ p∈l,p.1.size<=16/\p.2.size<=16)->arA (I9 l)<=30*l.length
 | [],_=>Nat.le_refl _
 | p::l,h=>by
  have h1:=h p (by simp);have h2:=a7D l fun q hq=>h q (mem_cons_of_mem _ hq);have e:I9 (p::l)=(p.1.flat++p.2.flat)++I9 l:=List.flatMap_cons;have h3:=a1w p.1;have h4:=a1w p.2;rw [e,a3R,a3R,length_cons];omega
theorem b1Q {s E:Nat} (hE:E<=60) (h:Big E s):s<=90000000000:=by
 have h:=h.up hE;unfold Big at h;have e1:(2:Nat) ^ 60=1152921504606846976:=by decide
 have e2:(3:Nat) ^ 60=42391158275216203514294433201:=by decide
 rw [e1,e2] at h;omega
structure a7g (V:List Int) (S:List Tm) (K:Nat) (s:List Bd) (E:List (Tm×Tm)):Prop where
 mgu:Mgu (c9 s) E
 bare:L4 s
 inV:inV V s
 orig:Orig S (c9 s)
 len:s.length+frN V s<=K
 num:∀ b∈s,b.v∈V
theorem b8k {V:List Int} (hV:∀ v∈V,0<=v) {n:Nat} {s:List Bd} {a b:Tm} {E:List (Tm×Tm)} {r} (e:rU n s a b=some r) (hm:Mgu (c9 s) E) (hb:L4 s) (hi:inV V s) (ha:∀ u∈a.vs,u∈V) (sV:∀ u∈b.vs,u∈V):RSpec V E [(a,b)] s r:=by
 obtain ⟨m,r',e',h⟩:=b2c hV _ _ s a b E rfl rfl hm hb hi ha sV;have h1:=a7S (Nat.le_max_left n m) _ _ _ _ e;have h2:=a7S (Nat.le_max_right n m) _ _ _ _ e';rw [h1] at h2;cases h2;exact h
theorem b9h (s:List Bd) (x:Int) (t:Tm):(a2G s x t).length=s.length+1:=by unfold a2G;simp
theorem Orig.bnd {S:List Tm} {s:List Bd} (ho:Orig S (c9 s)) (hb:L4 s) {x:Int} {b:Tm} (eI:x∉(b7 (c9 s) b).vs) (hh:Hits S (c9 s) b):Orig S (c9 (a2G s x (b7 (c9 s) b))):=by
 have hB:(b7 (c9 s) b).strip=b7 (c9 s) b:=x9 _ _;have hr:∀ t,b7 (c9 (a2G s x (b7 (c9 s) b))) t=b7 (U8 x (b7 (c9 s) b)) (b7 (c9 s) t):=fun t=>by rw [a4a];exact Y8 fun v hv=>a1S hB (s6 _ v hv)
 intro v hv hf;rw [a1S hB hv] at hf |-;by_cases h1:(c9 s v).f<0
 ·obtain ⟨w,hw⟩:∃ w,w = -1-(c9 s v).f:=⟨_,rfl⟩
  have e1:b7 (U8 x (b7 (c9 s) b)) (c9 s v)=(U8 x (b7 (c9 s) b) w).strip:=by rw [j5 h1,hw]
  rw [e1] at hf |-;unfold U8 at hf |-;by_cases hx:w=x
  ·rw [if_pos hx,hB] at hf |-;obtain ⟨q,hq,nC,e⟩:=hh.sym ho (fun v hv=>L8 hb v) hf;refine ⟨q,hq,nC,?_⟩;rw [hr,<-e,b2R eI,hB]
  ·rw [if_neg hx,w9,r6] at hf;omega
 ·obtain ⟨q,hq,nC,e⟩:=ho v hv h1;exact ⟨q,hq,nC,by rw [hr,e]⟩
structure Way (V:List Int) (S:List Tm) (s:List Bd) (a:Tm):Prop where
 vs:∀ u∈a.vs,u∈V
 hits:Hits S (c9 s) a
theorem b8z {V:List Int} {s:List Bd} {x:Int} {t:Tm} (h:∀ b∈s,b.v∈V) (hx:x∈V):∀ b∈a2G s x t,b.v∈V:=fun b hb=>by
 rcases mem_append.1 hb with hb | hb
 ·obtain ⟨c,hc,rfl⟩:=mem_map.1 hb;exact h c hc
 ·rw [mem_singleton] at hb;rw [hb];exact hx
theorem b5H {V:List Int} (hV:∀ v∈V,0<=v) {S:List Tm} {K n:Nat} {s:List Bd} {E:List (Tm×Tm)} (h:a7g V S K s E) {a b a1 b1:Tm} (ha1:a1=b7 (c9 s) a) (gC:b1=b7 (c9 s) b) (ha:Way V S s a) (hb:Way V S s b) (hf:a1.f<0) {s':List Bd} (hr:a0Y (rU n) s a1 b1=some (some s')):Orig S (c9 s')/\s'.length=s.length+1/\∀ b∈s',b.v∈V:=by
 unfold a0Y at hr;rw [if_pos hf] at hr;split at hr
 ·cases hr
 ·rename_i eI;cases hr;have hx : -1-a1.f∈V:=T3 h.inV ha.vs _ (by rw [<-ha1,Tm.vs_var hf];simp);rw [gC] at eI |-;exact ⟨h.orig.bnd h.bare eI hb.hits,b9h _ _ _,b8z h.num hx⟩
def G0 (v:Int):List Bd->Nat
 | []=>0
 | b::l=>if b.v<v then G0 v l+1 else 0
def b0b (b:Bd) (l:List Bd):List Bd:=l.take (G0 b.v l)++[b]++l.drop (G0 b.v l)
def J4 (L:List Bd) (i:Nat) (v:Int):Bool:=(L.take i).any fun c=>decide (c.v=v)
def N4 (L:List Bd):Nat->List Bd
 | 0=>[]
 | i+1=>match L[i]? with
  | none=>N4 L i
  | some b=>if J4 L i b.v||F3 b then N4 L i else b0b b (N4 L i)
theorem a5i (v:Int):∀ l:List Bd,G0 v l<=l.length
 | []=>Nat.le_refl _
 | b::l=>by rw [G0];split<;>simp;exact a5i v l
theorem a5d {v:Int}:∀ {l:List Bd} {k:Nat},(∀ i c,i<k->l[i]?=some c->c.v<v)->(∀ c,l[k]?=some c->¬ c.v<v)->k<=l.length->G0 v l=k
 | [],k,_,_,h=>by simp at h;subst h;rfl
 | b::l,0,_,h,_=>by rw [G0,if_neg (h b rfl)]
 | b::l,k+1,h1,h2,h3=>by
  rw [G0,if_pos (h1 0 b (by omega) rfl),a5d (k:=k) (fun i c hi hc=>h1 (i+1) c (by omega) (by simpa using hc)) (fun c hc=>h2 c (by simpa using hc)) (by simpa using h3)]
theorem a4K (L:List Bd):∀ i,(N4 L i).length<=i
 | 0=>Nat.le_refl _
 | i+1=>by
  have ih:=a4K L i;rw [N4];split
  ·omega
  ·split
   ·omega
   ·rename_i b _ _;have:=a5i b.v (N4 L i);unfold b0b;simp;omega
set_option maxHeartbeats 4000000 in
theorem a6X (W:World) (L:List Bd) (hl:L.length<=1000) (hr:∀ b∈L,b.t.rng):AFun Tryz.prog W 53 [.lst (L.map Bd.cv)] (.val (.lst ((N4 L L.length).map Bd.cv))):=by
 have kD:=Bd.size_all L;refine a9 (rs:=[.lst ((N4 L L.length).map Bd.cv)]) Tryz.func53 Tryz.ntmps53 rfl rfl rfl rfl ?_;intro w U hW;refine aS (aR ?_);refine nc ze ?_;refine aS (aR ?_);refine nc ze ?_;refine aS (aS (aR ?_));refine nc ze ?_
 let st:Nat->AS:=fun i=>[(0,.val (.lst (L.map Bd.cv))),(3,.val (.lst ((N4 L i).map Bd.cv))),(4,.val (.i i))]
 refine aB (b9 L.length st ((a7 (s':=[(0,.val (.lst (L.map Bd.cv))),(3,⟨0,.lst [],1,0,[]⟩),(4,.val (.i (0:Nat)))]) ⟨rfl,rfl,rfl,trivial⟩).trans (a1l 3 rfl)) ?_);intro i hi;obtain ⟨O,hO⟩:∃ O,O=N4 L i:=⟨_,rfl⟩
 have hOl:O.length<=i:=by rw [hO];exact a4K L i
 have hOs:=Bd.size_all O;refine AWp.wk (a7 (s':=[(0,.val (.lst (L.map Bd.cv))),(3,.val (.lst (O.map Bd.cv))),(4,.val (.i i))]) ⟨rfl,by rw [hO];rfl,rfl,trivial⟩) ?_;refine aS (aS (aR ?_));refine nc zl (nc zl (nc zp (nc zi ?_)));refine aC rfl (fun kA=>?_) (fun kA=>?_)
 ·have kY:i<L.length:=by have h:decide ((i:Int)<((L.map Bd.cv).length:Int))=true:=kA;simp at h;omega
  obtain ⟨x,hx⟩:∃ x,L[i]?=some x:=⟨L[i],getElem?_eq_getElem kY⟩
  have kI:=Bd.map_at hx;have lD : -9223372036854775808<=x.t.f:=((Tm.rng_iff _).1 (hr x (mem_of_getElem? hx))).1.1;refine aK ?_;refine aS (aB (aS (aR ?_)));refine nc ze ?_;refine aS (aS (aR ?_));refine nc ze ?_
  let st2:Nat->AS:=fun k=>[(0,.val (.lst (L.map Bd.cv))),(3,.val (.lst (O.map Bd.cv))),(4,.val (.i i)),(5,.val (.b (J4 L k x.v))),(6,.val (.i k))]
  refine aB (b9 i st2 (a7 ⟨rfl,rfl,rfl,rfl,rfl,trivial⟩) ?_);intro k hk;refine aS (aS (aR ?_));refine nc zl (nc zl (nc zi ?_));refine aC rfl (fun gE=>?_) (fun gE=>?_)
  ·have yO:k<i:=by simpa using gE
   obtain ⟨y,hy⟩:∃ y,L[k]?=some y:=⟨L[k]'(by omega),getElem?_eq_getElem (by omega)⟩
   have gO:=Bd.map_at hy;have fA:J4 L (k+1) x.v=(J4 L k x.v||decide (y.v=x.v)):=by unfold J4;rw [C3 hy,List.any_append];simp
   refine aK ?_;cases kS:J4 L k x.v with
   | true =>
    refine AWp.wk (a7 (s':=[(0,.val (.lst (L.map Bd.cv))),(3,.val (.lst (O.map Bd.cv))),(4,.val (.i i)),(5,.val (.b true)),(6,.val (.i k))]) ⟨rfl,rfl,rfl,by rw [<-kS];rfl,rfl,trivial⟩) ?_;refine aS (aB (aD (by kernel_rfl) (by kernel_rfl) ?_));refine nc zl (nc zl (nc zH (nc zH (nc zH (nc zH (nc zH (nc zH (nc zH (nc zH (nc zH (nc zH (nc zH (nc zJ (nc ze ?_))))))))))))));refine ⟨by kernel_rfl,?_⟩;refine aR ?_;refine nc zl (nc zu (nc ze ?_));exact ⟨yO,a7 ⟨rfl,rfl,rfl,by rw [fA,kS];rfl,rfl,trivial⟩⟩
   | false =>
    refine AWp.wk (a7 (s':=[(0,.val (.lst (L.map Bd.cv))),(3,.val (.lst (O.map Bd.cv))),(4,.val (.i i)),(5,.val (.b false)),(6,.val (.i k))]) ⟨rfl,rfl,rfl,by rw [<-kS];rfl,rfl,trivial⟩) ?_;refine aS (aB (aD (by kernel_rfl) (by kernel_rfl) ?_));refine nc zl (nc zl (nc (zl (p:=gb)) (nc (zl (p:=gb)) (nc (zq (r:=gb) (H:=by assumption) (hz:=by first | assumption | exact sZ rfl | exact Tm.size_all _ | exact Bd.size_all _ | exact b8 _ | exact bys_size _ | exact Lt.size_all _)) (nc (zN (r:=gb)) (nc (zr (r:=gb)) (nc (zl (p:=gb)) (nc (zl (p:=gb)) (nc (zq (r:=gb) (H:=by assumption) (hz:=by first | assumption | exact sZ rfl | exact Tm.size_all _ | exact Bd.size_all _ | exact b8 _ | exact bys_size _ | exact Lt.size_all _)) (nc (zN (r:=gb)) (nc (zr (r:=gb)) (nc (zt (r:=gb)) (nc zI (nc ze ?_))))))))))))));refine ⟨by kernel_rfl,?_⟩;refine aR ?_;refine nc zl (nc zu (nc ze ?_));exact ⟨yO,a7 ⟨rfl,rfl,rfl,by rw [fA,kS];rfl,rfl,trivial⟩⟩
  have yO:k=i:=by
   have:¬ k<i:=by simpa using gE
   omega
  subst yO;refine aE ?_;have kN:N4 L (k+1)=if J4 L k x.v||F3 x then O else b0b x O:=by rw [N4,hx,hO]
  have cJ:(J4 L k x.v||F3 x)=true->N4 L (k+1)=O:=fun h=>by rw [kN,if_pos h]
  let sb:Bool->AS:=fun q=>[(0,.val (.lst (L.map Bd.cv))),(3,.val (.lst (O.map Bd.cv))),(4,.val (.i k)),(5,.val (.b q))]
  let sc:AS:=[(0,.val (.lst (L.map Bd.cv))),(3,.val (.lst (O.map Bd.cv))),(4,.val (.i k))]
  cases kS:J4 L k x.v with
  | true =>
   refine AWp.wk (a7 (s':=sb true) ⟨rfl,rfl,rfl,by rw [<-kS];rfl,trivial⟩) ?_;refine aS (aS (aD (by kernel_rfl) (by kernel_rfl) ?_));refine nc zl (nc zl (nc U1 (nc U1 (nc U1 (nc U1 (nc U1 (nc U1 (nc U1 (nc U1 (nc (U1 (p:=l9 rfl rfl rfl rfl)) (nc (U1 (p:=l9 rfl rfl rfl rfl)) (nc (U1 (p:=l9 rfl rfl rfl rfl)) (nc (U1 (p:=l9 rfl rfl rfl rfl)) (nc (U1 (p:=l9 rfl rfl rfl rfl)) (nc (U1 (p:=l9 rfl rfl rfl rfl)) (nc (U1 (p:=l9 rfl rfl rfl rfl)) (nc (U1 (p:=l9 rfl rfl rfl rfl)) (nc (U1 (p:=l9 rfl rfl rfl rfl)) (nc (U1 (p:=l9 rfl rfl rfl rfl)) (nc (U1 (p:=l9 rfl rfl rfl rfl)) (nc (U1 (p:=l9 rfl rfl rfl rfl)) (nc (U1 (p:=l9 rfl rfl rfl rfl)) (nc U1 ?_)))))))))))))))))))))));refine nc zJ ?_;refine ⟨by kernel_rfl,?_⟩;refine aC rfl (fun _=>?_) (fun h=>by cases h);refine aE ?_;refine aR ?_;refine nc zl (nc zu (nc ze ?_));exact ⟨kY,a7 ⟨rfl,by rw [cJ (by rw [kS];rfl)];rfl,rfl,trivial⟩⟩
  | false =>
  refine AWp.wk (a7 (s':=sb false) ⟨rfl,rfl,rfl,by rw [<-kS];rfl,trivial⟩) ?_;cases hid:F3 x with
  | true =>
   have tJ:=hid;unfold F3 at tJ;rw [Bool.and_eq_true] at tJ;obtain ⟨g,g2⟩:=tJ;refine aS (aS (aD (by kernel_rfl) (by kernel_rfl) ?_));have hf:x.t.f<0:=by simpa using g
   refine nc zl (nc zl (nc (zl (p:=gb)) (nc (zl (p:=gb)) (nc (zq (r:=gb) (H:=by assumption) (hz:=by first | assumption | exact sZ rfl | exact Tm.size_all _ | exact Bd.size_all _ | exact b8 _ | exact bys_size _ | exact Lt.size_all _)) (nc (zN (r:=gb)) (nc (zN (r:=gb)) (nc (zr (r:=gb)) (nc (zi (r:=gb)) (nc (zl (p:=gb)) (nc (zl (p:=gb)) (nc (zl (p:=gb)) (nc (zq (r:=gb) (H:=by assumption) (hz:=by first | assumption | exact sZ rfl | exact Tm.size_all _ | exact Bd.size_all _ | exact b8 _ | exact bys_size _ | exact Lt.size_all _)) (nc (zN (r:=gb)) (nc (zN (r:=gb)) (nc (zr (r:=gb)) (nc (zj (r:=gb)) (nc (zl (p:=gb)) (nc (zl (p:=gb)) (nc (zq (r:=gb) (H:=by assumption) (hz:=by first | assumption | exact sZ rfl | exact Tm.size_all _ | exact Bd.size_all _ | exact b8 _ | exact bys_size _ | exact Lt.size_all _)) (nc (zN (r:=gb)) (nc (zr (r:=gb)) (nc (zt (r:=gb)) (nc (zJ (r:=gb)) ?_)))))))))))))))))))))));refine nc zI ?_;refine ⟨by kernel_rfl,?_⟩;refine aC rfl (fun hc=>?_) (fun hc=>?_)
   ·refine aE ?_;refine aR ?_;refine nc zl (nc zu (nc ze ?_));exact ⟨kY,a7 ⟨rfl,by rw [cJ (by rw [hid];simp)];rfl,rfl,trivial⟩⟩
   ·exact absurd (g2.symm.trans hc) (by decide)
  | false =>
  have pY:N4 L (k+1)=b0b x O:=by rw [kN,kS,hid];rfl
  refine T8 sc ?_ ?_
  ·by_cases hf:x.t.f<0
   ·have g:decide (x.t.f<0)=true:=by simpa using hf
    refine aS (aD (by kernel_rfl) (by kernel_rfl) ?_);refine nc zl (nc zl (nc (zl (p:=gb)) (nc (zl (p:=gb)) (nc (zq (r:=gb) (H:=by assumption) (hz:=by first | assumption | exact sZ rfl | exact Tm.size_all _ | exact Bd.size_all _ | exact b8 _ | exact bys_size _ | exact Lt.size_all _)) (nc (zN (r:=gb)) (nc (zN (r:=gb)) (nc (zr (r:=gb)) (nc (zi (r:=gb)) (nc (zl (p:=gb)) (nc (zl (p:=gb)) (nc (zl (p:=gb)) (nc (zq (r:=gb) (H:=by assumption) (hz:=by first | assumption | exact sZ rfl | exact Tm.size_all _ | exact Bd.size_all _ | exact b8 _ | exact bys_size _ | exact Lt.size_all _)) (nc (zN (r:=gb)) (nc (zN (r:=gb)) (nc (zr (r:=gb)) (nc (zj (r:=gb)) (nc (zl (p:=gb)) (nc (zl (p:=gb)) (nc (zq (r:=gb) (H:=by assumption) (hz:=by first | assumption | exact sZ rfl | exact Tm.size_all _ | exact Bd.size_all _ | exact b8 _ | exact bys_size _ | exact Lt.size_all _)) (nc (zN (r:=gb)) (nc (zr (r:=gb)) (nc (zt (r:=gb)) (nc (zJ (r:=gb)) ?_)))))))))))))))))))))));refine nc zI ?_;refine ⟨by kernel_rfl,?_⟩;refine aC rfl (fun hc=>?_) (fun hc=>aK ?_)
    ·exfalso;unfold F3 at hid;rw [g] at hid;exact absurd (hid.symm.trans hc) (by decide)
    ·exact a7 ⟨rfl,rfl,rfl,trivial⟩
   ·have g:decide (x.t.f<0)=false:=by simpa using hf
    refine aS (aD (by kernel_rfl) (by kernel_rfl) ?_);refine nc zl (nc zl (nc (zl (p:=gb)) (nc (zl (p:=gb)) (nc (zq (r:=gb) (H:=by assumption) (hz:=by first | assumption | exact sZ rfl | exact Tm.size_all _ | exact Bd.size_all _ | exact b8 _ | exact bys_size _ | exact Lt.size_all _)) (nc (zN (r:=gb)) (nc (zN (r:=gb)) (nc (zr (r:=gb)) (nc (zi (r:=gb)) (nc (zl (p:=gb)) (nc zH (nc zH (nc zH (nc zH (nc zH (nc zH (nc zH (nc zH (nc zH (nc zH (nc zH (nc zH (nc zH (nc (zI (r:=gb)) ?_)))))))))))))))))))))));refine nc zI ?_;refine ⟨by kernel_rfl,?_⟩;refine aC rfl (fun hc=>by cases hc) (fun hc=>aK ?_);exact a7 ⟨rfl,rfl,rfl,trivial⟩
  ·refine aS (aR ?_);refine nc ze ?_;refine T8 [(0,.val (.lst (L.map Bd.cv))),(3,.val (.lst (O.map Bd.cv))),(4,.val (.i k)),(7,.val (.i (G0 x.v O)))] (aB (l7 O.length (fun j=>∀ i c,i<j->O[i]?=some c->c.v<x.v) (fun j=>[(0,.val (.lst (L.map Bd.cv))),(3,.val (.lst (O.map Bd.cv))),(4,.val (.i k)),(7,.val (.i j))]) (a7 ⟨rfl,rfl,rfl,rfl,trivial⟩) (fun i c hi=>by omega) ?_)) ?_
   ·intro j hj hI;by_cases gK:j<O.length
    ·obtain ⟨z,hz⟩:∃ z,O[j]?=some z:=⟨O[j],getElem?_eq_getElem gK⟩
     have iQ:=Bd.map_at hz;have g:decide ((j:Int)<((O.map Bd.cv).length:Int))=true:=by simp;omega
     refine aS (aS (aD (by kernel_rfl) (by kernel_rfl) ?_));refine nc zl (nc zl (nc zp (nc zi (nc zl (nc (zl (p:=gb)) (nc (zl (p:=gb)) (nc (zq (r:=gb) (H:=by assumption) (hz:=by first | assumption | exact sZ rfl | exact Tm.size_all _ | exact Bd.size_all _ | exact b8 _ | exact bys_size _ | exact Lt.size_all _)) (nc (zN (r:=gb)) (nc (zr (r:=gb)) (nc (zl (p:=gb)) (nc (zl (p:=gb)) (nc (zq (r:=gb) (H:=by assumption) (hz:=by first | assumption | exact sZ rfl | exact Tm.size_all _ | exact Bd.size_all _ | exact b8 _ | exact bys_size _ | exact Lt.size_all _)) (nc (zN (r:=gb)) (nc (zr (r:=gb)) (nc (zi (r:=gb)) (nc zJ ?_))))))))))))))));refine ⟨by kernel_rfl,?_⟩;refine aC rfl (fun hc=>?_) (fun hc=>?_)
     ·have hc:z.v<x.v:=by simpa using hc
      refine aK ?_;refine aB (aR ?_);refine nc zl (nc zu (nc ze ?_));refine ⟨gK,fun i c hi gA=>?_,a7 ⟨rfl,rfl,rfl,rfl,trivial⟩⟩;rcases Nat.lt_or_ge i j with h | h
      ·exact hI i c h gA
      ·have:i=j:=by omega
       subst this;rw [hz] at gA;cases gA;exact hc
     ·have hc:¬ z.v<x.v:=by simpa using hc
      have cV:G0 x.v O=j:=a5d hI (fun c gA=>by rw [hz] at gA;cases gA;exact hc) hj;refine aE ?_;exact a7 ⟨rfl,rfl,rfl,by rw [cV];rfl,trivial⟩
    ·have gK:j=O.length:=by omega
     have g:decide ((j:Int)<((O.map Bd.cv).length:Int))=false:=by simp;omega
     refine aS (aS (aD (by kernel_rfl) (by kernel_rfl) ?_));refine nc zl (nc zl (nc zp (nc zi (nc zl (nc zH (nc zH (nc zH (nc zH (nc zH (nc zH (nc zH (nc zH (nc zH (nc zH (nc zH (nc zI ?_))))))))))))))));refine ⟨by kernel_rfl,?_⟩;refine aC rfl (fun hc=>by cases hc) (fun _=>?_);have cV:G0 x.v O=j:=a5d hI (fun c gA=>by rw [getElem?_eq_none (by omega)] at gA;cases gA) hj;refine aE ?_;exact a7 ⟨rfl,rfl,rfl,by rw [cV];rfl,trivial⟩
   ·obtain ⟨m,hm⟩:∃ m,m=G0 x.v O:=⟨_,rfl⟩
    have hml:m<=O.length:=by rw [hm];exact a5i _ _
    have hml2:m<=(O.map Bd.cv).length:=by rw [length_map];exact hml
    have z1:∀ c∈(O.map Bd.cv).take m,c.size=3:=fun c hc=>hOs c (mem_of_mem_take hc);have z2:∀ c∈(O.map Bd.cv).drop m,c.size=3:=fun c hc=>hOs c (mem_of_mem_drop hc);have z3:∀ c∈[]++(O.map Bd.cv).take m,c.size=3:=fun c hc=>z1 c (by simpa using hc);have z4:∀ c∈([]++(O.map Bd.cv).take m)++[x.cw],c.size=3:=fun c hc=>by
     rcases mem_append.1 hc with hc | hc
     ·exact z3 c hc
     ·rw [mem_singleton.1 hc];rfl
    have l1:((O.map Bd.cv).take m).length<=1000:=by simp;omega
    have l2:((O.map Bd.cv).drop m).length<=1000:=by simp;omega
    refine AWp.wk (a7 (s':=[(0,.val (.lst (L.map Bd.cv))),(3,.val (.lst (O.map Bd.cv))),(4,.val (.i k)),(7,.val (.i m))]) ⟨rfl,rfl,rfl,by rw [hm];rfl,trivial⟩) ?_;refine aS (aR ?_);refine nc zV (nc zl (nc zl (nc zbq (nc zD (nc ze ?_)))));refine aS (aR ?_);refine nc zl (nc zl (nc zl (nc (zq (H:=by assumption) (hz:=by first | assumption | exact sZ rfl | exact Tm.size_all _ | exact Bd.size_all _ | exact b8 _ | exact bys_size _ | exact Lt.size_all _)) (nc zr (nc zC (nc zD (nc ze ?_)))))));refine aR ?_;refine nc zl (nc zl (nc zl (nc zbr (nc zD (nc ze ?_)))));refine aR ?_;refine nc zl (nc zu (nc ze ?_));refine ⟨kY,(a7 (s':=[(0,.val (.lst (L.map Bd.cv))),(3,.own (.lst ((N4 L (k+1)).map Bd.cv)) 300094),(4,.val (.i ((k+1:Nat):Int)))]) ⟨rfl,?_,rfl,trivial⟩).trans (a1l 3 rfl)⟩;show some (AV.own (.lst _) _)=some (AV.own (.lst _) _);rw [pY];unfold b0b;rw [<-hm,map_append,map_append,List.map_take,List.map_drop];rfl
 ·have kY:i=L.length:=by have h:decide ((i:Int)<((L.map Bd.cv).length:Int))=false:=kA;simp at h;omega
  subst kY;refine aE ?_;refine aS (aR ?_);refine nc zl (nc ze ?_);refine aT ⟨.inr rfl,?_⟩;rw [<-hO];rfl
theorem c2d:∀ l:List Int,(nub l).length<=l.length:=by
 refine a9q (by simp [nub]) fun l x ih=>?_;rw [a9L,length_append];split
 ·simp only [length_cons,length_nil];omega
 ·rw [length_append];simp only [length_cons,length_nil];omega
theorem c3f (t:Tm):t.vs.length<=t.size:=by
 unfold Tm.vs Tm.size vsL;rw [length_map];exact length_filter_le _ _
theorem b3B (W:World) (v:Int) (t:Tm) (hr:t.rng) (kG:t.ok) (hs:t.size<=90000000000):AFun Tryz.prog W 77 [.i v,t.cw] (.val (.b (decide (v∈t.vs)))):=by
 obtain ⟨V,hV⟩:∃ V,V=t.nv:=⟨_,rfl⟩
 have mM:=a2J W t hr kG hs;rw [b2h,<-hV] at mM;have hVl:V.length<=90000000000:=by rw [hV];have h1:(nub t.vs).length<=t.vs.length:=c2d t.vs;have h2:=c3f t;show (nub t.vs).length<=_;omega
 have hVs:=b8 V;have fD:v∈t.vs↔v∈V:=by rw [hV];exact (a7F _ _).symm
 refine a9 (rs:=[.b (decide (v∈t.vs))]) Tryz.func77 Tryz.ntmps77 rfl rfl rfl rfl ?_;intro w U hW;refine aS (aR ?_);refine nc zd (nc ze ?_);refine aS (aR ?_);refine nc zy (nc (zw (z:=mM.up hW)) (nc ze ?_));refine aS (aS (aR ?_));refine nc ze ?_;refine aB (l7 V.length (fun k=>v∉V.take k) (fun k=>[(0,.val (.i v)),(5,.val (.lst (V.map CV.i))),(6,.val (.i k))]) (a7 ⟨rfl,rfl,rfl,trivial⟩) (by simp) ?_);intro k hk hI;refine aS (aS (aR ?_));refine nc zl (nc zl (nc zp (nc zi ?_)));refine aC rfl (fun kA=>?_) (fun kA=>?_)
 ·have kB:k<V.length:=by simpa using kA
  obtain ⟨u,hu⟩:∃ u,V[k]?=some u:=⟨V[k],getElem?_eq_getElem kB⟩
  have sT:=a7z hu;refine aK ?_;refine aS (aB (aS (aR ?_)));refine nc zl (nc zl (nc (zq (j:=k) (H:=sT) (hz:=hVs)) (nc zr (nc zl (nc zt ?_)))));refine aC rfl (fun hc=>?_) (fun hc=>?_)
  ·have hc:u=v:=by simpa using hc
   have oT:decide (v∈t.vs)=true:=by rw [decide_eq_true_eq,fD,<-hc];exact mem_of_getElem? hu
   rw [oT];refine aS (aR ?_);refine nc ze ?_;exact aT (And.intro (.inr rfl) rfl)
  ·have hc:¬ u=v:=by simpa using hc
   refine aK ?_;refine aR ?_;refine nc zl (nc zu (nc ze ?_));refine ⟨kB,?_,a7 ⟨rfl,rfl,rfl,trivial⟩⟩;show v∉V.take (k+1);rw [List.take_add_one,hu,mem_append];rintro (h | h)
   ·exact hI h
   ·simp at h;exact hc h.symm
 ·have kB:k=V.length:=by
   have:¬ k<V.length:=by simpa using kA
   omega
  subst kB;rw [take_length] at hI;have gB:decide (v∈t.vs)=false:=by rw [decide_eq_false_iff_not,fD];exact hI
  rw [gB];refine aE ?_;refine aS (aR ?_);refine nc ze ?_;exact aT (And.intro (.inr rfl) rfl)
set_option maxHeartbeats 1000000 in
theorem a6L (W:World) (s:List Bd) (v:Int) (t:Tm) (hl:s.length<=1000000) (hs:∀ b∈s,b.t.rng/\b.t.ok):AFun Tryz.prog W 78 [.lst (s.map Bd.cv),.i v,t.cw] (.val (.lst ((a2G s v t).map Bd.cv))):=by
 have kD:=Bd.size_all s;obtain ⟨g,hg⟩:∃ g:Bd->Bd,g=fun b=>⟨b.v,j9 [⟨v,t⟩] b.t⟩:=⟨_,rfl⟩
 have hB:a2G s v t=s.map g++[⟨v,t⟩]:=by unfold a2G;rw [hg]
 rw [hB];refine a9 (rs:=[.lst ((s.map g++[(⟨v,t⟩:Bd)]).map Bd.cv)]) Tryz.func78 Tryz.ntmps78 rfl rfl rfl rfl ?_;intro w U hW;refine aS (aR ?_);refine nc zd (nc ze ?_);refine aS (aR ?_);refine nc zl (nc zy (nc zn (nc zC (nc ze ?_))));refine aS (aR ?_);refine nc ze ?_;refine aS (aS (aR ?_));refine nc ze ?_;refine aB (b9 s.length (fun k=>[(0,.val (.lst (s.map Bd.cv))),(7,.val (.lst [Bd.cw ⟨v,t⟩])),(8,.own (.lst (((s.take k).map g).map Bd.cv)) 200035),(200035,.tok 94 3),(9,.val (.i k))]) ((v9 8 200035 94 3 rfl rfl rfl rfl rfl rfl rfl).trans (a7 ⟨rfl,rfl,rfl,rfl,rfl,trivial⟩)) ?_);intro k hk;have iN:=Bd.size_all ((s.take k).map g);refine aS (aS (aR ?_));refine nc zl (nc zl (nc zp (nc zi ?_)));refine aC rfl (fun kA=>?_) (fun kA=>?_)
 ·have kB:k<s.length:=by simpa using kA
  obtain ⟨b,hb⟩:∃ b,s[k]?=some b:=⟨s[k],getElem?_eq_getElem kB⟩
  have hb':=Bd.map_at hb;obtain ⟨b1,b2⟩:=hs b (mem_of_getElem? hb);have dL:=y9 w [⟨v,t⟩] (by simp) b.t b1 b2;have fA:((s.take k).map g).length<=1000000:=by rw [length_map,length_take];omega
  refine aK ?_;refine aS (aB (aD (by kernel_rfl) (by kernel_rfl) ?_));refine nc zl (nc zl (nc zl (nc (zq (j:=k) (H:=hb') (hz:=kD)) (nc zN (nc zr (nc zl (nc zl (nc zl (nc (zq (j:=k) (H:=hb') (hz:=kD)) (nc zN (nc zr (nc (zw (z:=dL)) (nc zn (nc zC (nc zD (nc ze ?_))))))))))))))));refine ⟨by kernel_rfl,?_⟩;refine aR ?_;refine nc zl (nc zu (nc ze ?_));refine ⟨kB,Wk.trans (a7 (s':=[(0,.val (.lst (s.map Bd.cv))),(7,.val (.lst [Bd.cw ⟨v,t⟩])),(8,.own (.lst (((s.take (k+1)).map g).map Bd.cv)) 300035),(300035,.tok 94 3),(9,.val (.i ((k+1:Nat):Int)))]) ⟨rfl,rfl,?_,rfl,rfl,trivial⟩) (o8 300035 200035 rfl rfl rfl rfl)⟩;rw [List.take_add_one,hb,map_append,map_append,hg];rfl
 ·have kB:k=s.length:=by
   have:¬ k<s.length:=by simpa using kA
   omega
  subst kB;rw [take_length] at iN |-;have fA:(s.map g).length<=1000000:=by rw [length_map];omega
  refine aE ?_;refine aS (aR ?_);refine nc zl (nc zl (nc zD (nc ze ?_)));refine aT (And.intro (.inr rfl) ?_);rw [map_append];rfl
theorem Q3 {l:List Bd} {t:Tm} (h:t.rng) (hi:∀ b∈l,b.t.rng):(j9 l t).rng:=by
 induction t using Tm.ind with
 | h f k ih =>
  obtain ⟨h1,h2⟩:=(Tm.rng_iff _).1 h;simp only at h1 h2;by_cases hf:f<0
  ·rw [W6 hf];unfold c9;cases hb:b6 l (-1-(Tm.mk f k).f) with
   | none =>
    show (s8 (-1-f)).rng;exact b0a (by omega) (by omega)
   | some t =>
    obtain ⟨b,xE,e,_⟩:=J1 hb;show t.rng;rw [<-e];exact hi b xE
  ·rw [W8 hf];refine (Tm.rng_iff _).2 ⟨h1,fun s hs=>?_⟩;obtain ⟨u,hu,rfl⟩:=mem_map.1 hs;exact ih u hu (h2 u hu)
def a9H (g:List Bd->Tm->Tm->Option (Option (List Bd))) (C:List Bd->Tm->Tm->Prop):List (Tm×Tm)->List Bd->Prop
 | [],_=>True
 | p::ps,s=>C s p.1 p.2/\∀ s',g s p.1 p.2=some (some s')->a9H g C ps s'
def Cnd:Nat->List Bd->Tm->Tm->Prop
 | 0,_,_,_=>True
 | n+1,s,a,b=>(s.length<=100000/\∀ x∈s,x.t.rng/\x.t.ok)/\(a.rng/\a.ok/\b.rng/\b.ok)/\((j9 s a).size<=90000000000/\(j9 s b).size<=90000000000)/\∀ a2 b2:Tm,a2=(if swC (j9 s a) (j9 s b) then j9 s b else j9 s a)->b2=(if swC (j9 s a) (j9 s b) then j9 s a else j9 s b)->¬ a2.f<0->a2.f=b2.f->a2.l.length=b2.l.length->a9H (rU n) (Cnd n) (a2.l.zip b2.l) s
set_option maxHeartbeats 8000000 in
theorem a6P:∀ (n:Nat) (W:World) (s:List Bd) (a b:Tm) (r:Option (List Bd)),rU n s a b=some r->Cnd n s a b->AFun Tryz.prog W 52 [.lst (s.map Bd.cv),a.cw,b.cw] (.tup [.lst ((r.getD []).map Bd.cv),.b r.isSome]):=by
 intro n
 induction n with
 | zero=>intro W s a b r e;cases e
 | succ n ih =>
 intro W s a b r hr hC;obtain ⟨⟨dQ,fS⟩,⟨ha,jG,hb,iI⟩,⟨hza,hzb⟩,mN⟩:=hC;refine a9 (rs:=[.lst ((r.getD []).map Bd.cv),.b r.isSome]) Tryz.func52 Tryz.ntmps52 rfl rfl rfl rfl ?_;intro w U hW;have p1:=y9 w s (by omega) a ha jG;have p2:=y9 w s (by omega) b hb iI;have hra:=Q3 ha fun x hx=>(fS x hx).1;have hrb:=Q3 hb fun x hx=>(fS x hx).1;have sQ:=a0l jG fun x hx=>(fS x hx).2;have fI:=a0l iI fun x hx=>(fS x hx).2;have p3:=A7 w _ _ sQ fI;rw [rU] at hr;obtain ⟨a1,e1⟩:∃ a1,a1=j9 s a:=⟨_,rfl⟩
 obtain ⟨b1,e2⟩:∃ b1,b1=j9 s b:=⟨_,rfl⟩
 rw [<-e1,<-e2] at hr mN p3;rw [<-e1] at p1 hra sQ hza;rw [<-e2] at p2 hrb fI hzb;refine aS (aR ?_);refine nc zd (nc zd (nc ze (nc ze ?_)));refine aS (aR ?_);refine nc zl (nc zy (nc (zw (z:=p1)) (nc zo ?_)));refine aS (aR ?_);refine nc zl (nc zy (nc (zw (z:=p2)) (nc zo ?_)));refine aS (aS (aR ?_));refine nc zy (nc zy (nc (zw (z:=p3)) ?_));cases fG:l8 a1 b1 with
 | true =>
  rw [fG,if_pos rfl] at hr;cases hr;refine aC rfl (fun hc=>?_) (fun hc=>by cases hc);refine aS (aR ?_);refine nc zl (nc ze (nc ze ?_));exact aT (And.intro (.inr rfl) rfl)
 | false =>
 rw [fG,if_neg (by simp)] at hr;refine aC rfl (fun hc=>by cases hc) (fun hc=>aK ?_);refine AWp.wk (a7 (s':=[(0,.val (.lst (s.map Bd.cv))),(4,.bp 4 0 []),(100004,.bx a1.cw),(5,.bp 5 0 []),(100005,.bx b1.cw)]) ⟨rfl,rfl,rfl,rfl,rfl,trivial⟩) ?_;obtain ⟨a2,fC⟩:∃ a2,a2=(if swC a1 b1 then b1 else a1):=⟨_,rfl⟩
 obtain ⟨b2,kZ⟩:∃ b2,b2=(if swC a1 b1 then a1 else b1):=⟨_,rfl⟩
 have mN:=mN a2 b2 fC kZ;have hr:a0Y (rU n) s a2 b2=some r:=by
  rw [fC,kZ];split at hr
  ·rename_i h;rw [if_pos h,if_pos h];exact hr
  ·rename_i h;rw [if_neg h,if_neg h];exact hr
 have xF:a2.rng/\a2.ok/\a2.size<=90000000000:=by rw [fC];split<;>exact ⟨by assumption,by assumption,by assumption⟩
 have tK:b2.rng/\b2.ok/\b2.size<=90000000000:=by rw [kZ];split<;>exact ⟨by assumption,by assumption,by assumption⟩
 refine T8 [(0,.val (.lst (s.map Bd.cv))),(4,.bp 4 0 []),(100004,.bx a2.cw),(5,.bp 5 0 []),(100005,.bx b2.cw)] ?_ ?_
 ·by_cases fa:a1.f>=0
  ·have g1:decide (a1.f>=0)=true:=by simpa using fa
   have g3:decide (a1.f<0)=false:=by simpa using fa
   by_cases fb:b1.f<0
   ·have g2:decide (b1.f<0)=true:=by simpa using fb
    have qA:swC a1 b1=true:=by unfold swC;simp [fa,fb]
    rw [qA,if_pos rfl] at fC kZ;refine aS (aR ?_);refine nc zg (nc zh (nc zG (nc zl (nc (zg (r:=gb)) (nc (zh (r:=gb)) (nc (zi (r:=gb)) (nc zJ (nc zl (nc U1 (nc U1 (nc U1 (nc U1 (nc (U1 (p:=l9 rfl rfl rfl rfl)) (nc (U1 (p:=l9 rfl rfl rfl rfl)) (nc (U1 (p:=l9 rfl rfl rfl rfl)) (nc U1 (nc U1 (nc (U1 (p:=l9 rfl rfl rfl rfl)) (nc (U1 (p:=l9 rfl rfl rfl rfl)) (nc (U1 (p:=l9 rfl rfl rfl rfl)) (nc (U1 (p:=l9 rfl rfl rfl rfl)) (nc (U1 (p:=l9 rfl rfl rfl rfl)) (nc U1 ?_)))))))))))))))))))))));refine nc zJ ?_;refine aC rfl (fun hc=>?_) (fun hc=>by cases hc);refine aS (aR ?_);refine nc zy (nc zk (nc zo ?_));refine aS (aR ?_);refine nc zy (nc zo ?_);refine aR ?_;refine nc zy (nc zo ?_);rw [fC,kZ];exact a7 ⟨rfl,rfl,rfl,rfl,rfl,trivial⟩
   ·have g2:decide (b1.f<0)=false:=by simpa using fb
    have qA:swC a1 b1=false:=by unfold swC;simp [fb]
    rw [qA,if_neg (by simp)] at fC kZ;refine aS (aR ?_);refine nc zg (nc zh (nc zG (nc zl (nc (zg (r:=gb)) (nc (zh (r:=gb)) (nc (zi (r:=gb)) (nc zJ (nc zl (nc (zg (r:=gb)) (nc (zh (r:=gb)) (nc (zi (r:=gb)) (nc (zl (p:=gb)) (nc zH (nc zH (nc zH (nc (zI (r:=gb)) (nc (zl (p:=gb)) (nc zH (nc zH (nc zH (nc zH (nc zH (nc (zI (r:=gb)) ?_)))))))))))))))))))))));refine nc zI ?_;refine aC rfl (fun hc=>by cases hc) (fun hc=>aK ?_);rw [fC,kZ];exact a7 ⟨rfl,rfl,rfl,rfl,rfl,trivial⟩
  ·have g1:decide (a1.f>=0)=false:=by simpa using fa
   have fa2:a1.f<0:=by omega
   have g3:decide (a1.f<0)=true:=by simpa using fa2
   by_cases fb:b1.f<0
   ·have g2:decide (b1.f<0)=true:=by simpa using fb
    have qA:swC a1 b1=decide (b1.f<a1.f):=by
     unfold swC;have:decide (0<=a1.f)=false:=by simpa using fa
     rw [this,g2,g3];simp
    rw [qA] at fC kZ;refine aS (aR ?_);refine nc zg (nc zh (nc zG (nc zl (nc zH (nc zH (nc zH (nc zI (nc zl (nc (zg (r:=gb)) (nc (zh (r:=gb)) (nc (zi (r:=gb)) (nc (zl (p:=gb)) (nc (zg (r:=gb)) (nc (zh (r:=gb)) (nc (zi (r:=gb)) (nc (zJ (r:=gb)) (nc (zl (p:=gb)) (nc (zg (r:=gb)) (nc (zh (r:=gb)) (nc (zg (r:=gb)) (nc (zh (r:=gb)) (nc (zi (r:=gb)) (nc (zJ (r:=gb)) ?_)))))))))))))))))))))));refine nc zI ?_;refine aC rfl (fun hc=>?_) (fun hc=>?_)
    ·have hc:b1.f<a1.f:=by simpa using hc
     rw [if_pos (by simpa using hc)] at fC kZ;refine aS (aR ?_);refine nc zy (nc zk (nc zo ?_));refine aS (aR ?_);refine nc zy (nc zo ?_);refine aR ?_;refine nc zy (nc zo ?_);rw [fC,kZ];exact a7 ⟨rfl,rfl,rfl,rfl,rfl,trivial⟩
    ·have hc:¬ b1.f<a1.f:=by simpa using hc
     rw [if_neg (by simpa using hc)] at fC kZ;refine aK ?_;rw [fC,kZ];exact a7 ⟨rfl,rfl,rfl,rfl,rfl,trivial⟩
   ·have g2:decide (b1.f<0)=false:=by simpa using fb
    have qA:swC a1 b1=false:=by
     unfold swC;have:decide (0<=a1.f)=false:=by simpa using fa
     rw [this,g2];simp
    rw [qA,if_neg (by simp)] at fC kZ;refine aS (aR ?_);refine nc zg (nc zh (nc zG (nc zl (nc zH (nc zH (nc zH (nc zI (nc zl (nc (zg (r:=gb)) (nc (zh (r:=gb)) (nc (zi (r:=gb)) (nc (zl (p:=gb)) (nc (zg (r:=gb)) (nc (zh (r:=gb)) (nc (zi (r:=gb)) (nc (zJ (r:=gb)) (nc (zl (p:=gb)) (nc zH (nc zH (nc zH (nc zH (nc zH (nc (zI (r:=gb)) ?_)))))))))))))))))))))));refine nc zI ?_;refine aC rfl (fun hc=>by cases hc) (fun hc=>aK ?_);rw [fC,kZ];exact a7 ⟨rfl,rfl,rfl,rfl,rfl,trivial⟩
 clear fC kZ p1 p2 p3 fG;unfold a0Y at hr;have hra3:=(Tm.rng_iff _).1 xF.1;refine aS (aS (aR ?_));refine nc zg (nc zh (nc zi ?_));by_cases fa:a2.f<0
 case pos =>
  rw [if_pos fa] at hr;have eI:=b3B w (-1-a2.f) b2 tK.1 tK.2.1 tK.2.2;refine aC rfl (fun hc=>?_) (fun hc=>?_)
  case refine_2 =>
   have:¬ a2.f<0:=by simpa using hc
   omega
  refine aS (aS (aR ?_));refine nc zg (nc zh (nc zj (nc zy (nc (zw (z:=eI)) ?_))));by_cases hm : -1-a2.f∈b2.vs
  ·rw [if_pos hm] at hr;cases hr;refine aC rfl (fun hc=>?_) (fun hc=>?_)
   case refine_2 =>
    have : -1-a2.f∉b2.vs:=by simpa using hc
    exact absurd hm this
   refine aS (aR ?_);refine nc ze (nc ze ?_);exact aT (And.intro (.inr rfl) rfl)
  ·rw [if_neg hm] at hr;cases hr;refine aC rfl (fun hc=>?_) (fun hc=>aK ?_)
   ·have : -1-a2.f∈b2.vs:=by simpa using hc
    exact absurd this hm
   refine aS (aR ?_);refine nc zl (nc zg (nc zh (nc zj (nc zy (nc (zw (z:=a6L w s (-1-a2.f) b2 (by omega) fS)) (nc ze (nc ze ?_)))))));exact aT (And.intro (.inr rfl) rfl)
 rw [if_neg fa] at hr;refine aC rfl (fun hc=>?_) (fun hc=>aK ?_)
 ·have:a2.f<0:=by simpa using hc
  exact absurd this fa
 by_cases nA:a2.f=b2.f
 case neg =>
  have g:decide (a2.f≠b2.f)=true:=by simpa using nA
  rw [if_pos (.inl nA)] at hr;cases hr;refine aS (aS (aR ?_));refine nc zg (nc zh (nc zg (nc zh (nc zE (nc zl (nc zH (nc zH (nc zH (nc zH (nc zH (nc zH (nc zH (nc zJ ?_)))))))))))));refine aC rfl (fun hc=>?_) (fun hc=>by cases hc);refine aS (aR ?_);refine nc ze (nc ze ?_);exact aT (And.intro (.inr rfl) rfl)
 have g:decide (a2.f≠b2.f)=false:=by simpa using nA
 refine aS (aS (aR ?_));refine nc zg (nc zh (nc zg (nc zh (nc zE (nc zl (nc (zg (r:=gb)) (nc (zh (r:=gb)) (nc (zp (r:=gb)) (nc (zg (r:=gb)) (nc (zh (r:=gb)) (nc (zp (r:=gb)) (nc (zE (r:=gb)) (nc zI ?_)))))))))))));by_cases cI:a2.l.length=b2.l.length
 case neg =>
  rw [if_pos (.inr cI)] at hr;cases hr;refine aC rfl (fun hc=>?_) (fun hc=>?_)
  case refine_2 =>
   have hc:=of_decide_eq_false hc;simp only [length_map,ne_eq,Decidable.not_not] at hc;omega
  refine aS (aR ?_);refine nc ze (nc ze ?_);exact aT (And.intro (.inr rfl) rfl)
 rw [if_neg (by omega)] at hr;refine aC rfl (fun hc=>?_) (fun hc=>aK ?_)
 ·exfalso;rw [length_map,length_map,cI] at hc;simp at hc
 have mN:=mN fa nA cI;have hoka:=(Tm.ok_iff _).1 xF.2.1;have tL:=Tm.size_all a2.l;have cR:=Tm.size_all b2.l;refine aS (aS (aR ?_));refine nc ze ?_;refine aB (p8 (fun m st=>∃ i s,i+m=a2.l.length/\rUs (rU n) ((a2.l.drop i).zip (b2.l.drop i)) s=some r/\a9H (rU n) (Cnd n) ((a2.l.drop i).zip (b2.l.drop i)) s/\st=[(0,AV.val (.lst (s.map Bd.cv))),(4,.bp 4 0 []),(100004,.bx a2.cw),(5,.bp 5 0 []),(100005,.bx b2.cw),(9,.val (.i ((i:Nat):Int)))]) (n:=a2.l.length) (s':=[(0,AV.val (.lst (s.map Bd.cv))),(4,.bp 4 0 []),(100004,.bx a2.cw),(5,.bp 5 0 []),(100005,.bx b2.cw),(9,.val (.i ((0:Nat):Int)))]) (a7 ⟨rfl,rfl,rfl,rfl,rfl,rfl,trivial⟩) ⟨0,s,by omega,hr,mN,rfl⟩ ?_);clear mN hr fS dQ;rintro m st ⟨i,s,qT,hr,mN,rfl⟩;refine aS (aS (aR ?_));refine nc zl (nc zg (nc zh (nc zp (nc zi ?_))));cases m with
 | zero =>
  have hd:a2.l.drop i=[]:=List.drop_eq_nil_of_le (by omega);rw [hd,List.zip_nil_left,rUs] at hr;cases hr;refine aC rfl (fun hc=>?_) (fun hc=>?_)
  ·exfalso;have:i<a2.l.length:=by simpa using hc
   omega
  refine aE ?_;refine aS (aR ?_);refine nc zl (nc ze (nc ze ?_));exact aT (And.intro (.inr rfl) rfl)
 | succ m =>
  have kY:i<a2.l.length:=by omega
  obtain ⟨x,hx⟩:∃ x,a2.l[i]?=some x:=⟨a2.l[i],getElem?_eq_getElem kY⟩
  obtain ⟨y,hy⟩:∃ y,b2.l[i]?=some y:=⟨b2.l[i]'(by omega),getElem?_eq_getElem (by omega)⟩
  have kI:=Tm.map_at hx;have gO:=Tm.map_at hy;have qY:a2.l.drop i=x::a2.l.drop (i+1):=by obtain ⟨hk,e⟩:=List.getElem?_eq_some_iff.1 hx;rw [List.drop_eq_getElem_cons hk,e]
  have qZ:b2.l.drop i=y::b2.l.drop (i+1):=by obtain ⟨hk,e⟩:=List.getElem?_eq_some_iff.1 hy;rw [List.drop_eq_getElem_cons hk,e]
  rw [qY,qZ,List.zip_cons_cons] at hr mN;rw [rUs] at hr;obtain ⟨wZ,xB⟩:=mN;refine aC rfl (fun hc=>?_) (fun hc=>?_)
  case refine_2 =>
   have:¬ i<a2.l.length:=by simpa using hc
   omega
  refine aK ?_;cases hg:rU n s x y with
  | none=>rw [hg] at hr;cases hr
  | some r1 =>
  rw [hg] at hr;have gD:=ih w s x y r1 hg wZ;refine aS (aB (aS (aD (by kernel_rfl) (by kernel_rfl) ?_)));refine nc zl (nc zg (nc zh (nc zl (nc (zq (j:=i) (H:=kI) (hz:=tL)) (nc zr (nc zg (nc zh (nc zl (nc (zq (j:=i) (H:=gO) (hz:=cR)) (nc zr (nc (zw (z:=gD)) (nc zl (nc zx (nc zx (nc ze (nc ze ?_))))))))))))))));refine ⟨by kernel_rfl,?_⟩;refine aS (aS (aR ?_));refine nc zl (nc zF ?_);cases r1 with
  | none =>
   simp only at hr;cases hr;refine aC rfl (fun hc=>?_) (fun hc=>by cases hc);refine aS (aR ?_);refine nc ze (nc ze ?_);exact aT (And.intro (.inr rfl) rfl)
  | some s1 =>
   simp only at hr;refine aC rfl (fun hc=>by cases hc) (fun hc=>aK ?_);refine aR ?_;refine nc zl (nc ze ?_);refine aR ?_;refine nc zl (nc zu (nc ze ?_));exact ⟨m,[(0,AV.val (.lst (s1.map Bd.cv))),(4,.bp 4 0 []),(100004,.bx a2.cw),(5,.bp 5 0 []),(100005,.bx b2.cw),(9,.val (.i ((i+1:Nat):Int)))],by omega,⟨i+1,s1,by omega,hr,xB s1 hg,rfl⟩,a7 ⟨rfl,rfl,rfl,rfl,rfl,rfl,trivial⟩⟩
set_option maxHeartbeats 2000000 in
theorem b0O (W:World) (n:Nat) (la lb:List Tm) (r:Option (List Bd)) (mY:la.length=lb.length) (cI:la.length<=1000) (hr:rUs (rU n) (la.zip lb) []=some r) (hC:a9H (rU n) (Cnd n) (la.zip lb) []) (hl:∀ s,r=some s->s.length<=1000/\∀ b∈s,b.t.rng):AFun Tryz.prog W 30 [.lst (la.map Tm.cv),.lst (lb.map Tm.cv)] (.tup [.lst (((r.map fun s=>N4 s s.length).getD []).map Bd.cv),.b r.isSome]):=by
 have tL:=Tm.size_all la;have cR:=Tm.size_all lb;refine a9 (rs:=[.lst (((r.map fun s=>N4 s s.length).getD []).map Bd.cv),.b r.isSome]) Tryz.func30 Tryz.ntmps30 rfl rfl rfl rfl ?_;intro w U hW;refine aS (aR ?_);refine nc ze (nc ze ?_);refine aS (aR ?_);refine nc ze ?_;refine aS (aS (aR ?_));refine nc ze ?_;refine aB (p8 (fun m st=>∃ i s,i+m=la.length/\rUs (rU n) ((la.drop i).zip (lb.drop i)) s=some r/\a9H (rU n) (Cnd n) ((la.drop i).zip (lb.drop i)) s/\st=[(0,AV.val (.lst (la.map Tm.cv))),(1,.val (.lst (lb.map Tm.cv))),(6,.val (.lst (s.map Bd.cv))),(7,.val (.i ((i:Nat):Int)))]) (n:=la.length) (s':=[(0,AV.val (.lst (la.map Tm.cv))),(1,.val (.lst (lb.map Tm.cv))),(6,.val (.lst (([]:List Bd).map Bd.cv))),(7,.val (.i ((0:Nat):Int)))]) ((a1l 6 rfl).trans (a7 ⟨rfl,rfl,rfl,rfl,trivial⟩)) ⟨0,[],by omega,hr,hC,rfl⟩ ?_);clear hC hr;rintro m st ⟨i,s,qT,hr,mN,rfl⟩;refine aS (aS (aR ?_));refine nc zl (nc zl (nc zp (nc zi ?_)));cases m with
 | zero =>
  have hd:la.drop i=[]:=List.drop_eq_nil_of_le (by omega);rw [hd,List.zip_nil_left,rUs] at hr;cases hr;obtain ⟨eP,kL⟩:=hl s rfl;refine aC rfl (fun hc=>?_) (fun hc=>?_)
  ·exfalso;have:i<la.length:=by simpa using hc
   omega
  refine aE ?_;refine aS (aR ?_);refine nc zl (nc (zw (z:=a6X w s eP kL)) (nc ze (nc ze ?_)));exact aT (And.intro (.inr rfl) rfl)
 | succ m =>
  have kY:i<la.length:=by omega
  obtain ⟨x,hx⟩:∃ x,la[i]?=some x:=⟨la[i],getElem?_eq_getElem kY⟩
  obtain ⟨y,hy⟩:∃ y,lb[i]?=some y:=⟨lb[i]'(by omega),getElem?_eq_getElem (by omega)⟩
  have kI:=Tm.map_at hx;have gO:=Tm.map_at hy;have qY:la.drop i=x::la.drop (i+1):=by obtain ⟨hk,e⟩:=List.getElem?_eq_some_iff.1 hx;rw [List.drop_eq_getElem_cons hk,e]
  have qZ:lb.drop i=y::lb.drop (i+1):=by obtain ⟨hk,e⟩:=List.getElem?_eq_some_iff.1 hy;rw [List.drop_eq_getElem_cons hk,e]
  rw [qY,qZ,List.zip_cons_cons] at hr mN;rw [rUs] at hr;obtain ⟨wZ,xB⟩:=mN;refine aC rfl (fun hc=>?_) (fun hc=>?_)
  case refine_2 =>
   have:¬ i<la.length:=by simpa using hc
   omega
  refine aK ?_;cases hg:rU n s x y with
  | none=>rw [hg] at hr;cases hr
  | some r1 =>
  rw [hg] at hr;have gD:=a6P n w s x y r1 hg wZ;refine aS (aB (aS (aD (by kernel_rfl) (by kernel_rfl) ?_)));refine nc zl (nc zl (nc zl (nc (zq (j:=i) (H:=kI) (hz:=tL)) (nc zr (nc zl (nc zl (nc (zq (j:=i) (H:=gO) (hz:=cR)) (nc zr (nc (zw (z:=gD)) (nc zl (nc zx (nc zx (nc ze (nc ze ?_))))))))))))));refine ⟨by kernel_rfl,?_⟩;refine aS (aS (aR ?_));refine nc zl (nc zF ?_);cases r1 with
  | none =>
   simp only at hr;cases hr;refine aC rfl (fun hc=>?_) (fun hc=>by cases hc);refine aS (aR ?_);refine nc ze (nc ze ?_);exact aT (And.intro (.inr rfl) rfl)
  | some s1 =>
   simp only at hr;refine aC rfl (fun hc=>by cases hc) (fun hc=>aK ?_);refine aR ?_;refine nc zl (nc ze ?_);refine aR ?_;refine nc zl (nc zu (nc ze ?_));exact ⟨m,[(0,AV.val (.lst (la.map Tm.cv))),(1,.val (.lst (lb.map Tm.cv))),(6,.val (.lst (s1.map Bd.cv))),(7,.val (.i ((i+1:Nat):Int)))],by omega,⟨i+1,s1,by omega,hr,xB s1 hg,rfl⟩,a7 ⟨rfl,rfl,rfl,rfl,trivial⟩⟩
def U6 (s:List Bd):Prop:=∀ x∈s,x.t.rng/\x.t.ok
theorem c1h {s:List Bd} {x:Int} {t:Tm} (h:U6 s) (ht:t.rng/\t.ok):U6 (a2G s x t):=fun y hy=>by
 have h1:U6 [⟨x,t⟩]:=fun b hb=>by rw [mem_singleton] at hb;rw [hb];exact ht
 rcases mem_append.1 hy with hy | hy
 ·obtain ⟨c,hc,rfl⟩:=mem_map.1 hy;exact ⟨Q3 (h c hc).1 fun b hb=>(h1 b hb).1,a0l (h c hc).2 fun b hb=>(h1 b hb).2⟩
 ·exact h1 y hy
theorem c0X {V:List Int} {K:Nat} {s s':List Bd} (h:s.length+frN V s<=K) (hl:s'.length=s.length+1) (hd:s'=s\/frN V s'<frN V s):s'.length+frN V s'<=K:=by
 rcases hd with rfl | hd
 ·omega
 ·omega
section
variable {V:List Int} {S:List Tm} {K:Nat}
theorem a3T (hV:∀ v∈V,0<=v) {n:Nat} {E:List (Tm×Tm)} (ih:∀ (s:List Bd) (a b:Tm) (E:List (Tm×Tm)),a7g V S K s E->U6 s->Way V S s a->Way V S s b->(a.rng/\a.ok)->(b.rng/\b.ok)->Cnd n s a b/\∀ s',rU n s a b=some (some s')->a7g V S K s' (E++[(a,b)])/\U6 s'):∀ (ps:List (Tm×Tm)) (s:List Bd) (F:List (Tm×Tm)),a7g V S K s (E++F)->U6 s->(∀ p∈ps,(∀ (s1:List Bd) F1,Mgu (c9 s1) (E++F1)->Way V S s1 p.1/\Way V S s1 p.2)/\(p.1.rng/\p.1.ok)/\(p.2.rng/\p.2.ok))->a9H (rU n) (Cnd n) ps s/\∀ s',rUs (rU n) ps s=some (some s')->a7g V S K s' (E++F++ps)/\U6 s'
 | [],s,F,hm,hr,_=>⟨trivial,fun s' e=>by cases e;rw [List.append_nil];exact ⟨hm,hr⟩⟩
 | p::ps,s,F,hm,hr,hp=>by
  obtain ⟨h1,h2,h3⟩:=hp p (by simp);obtain ⟨w1,w2⟩:=h1 s F hm.mgu;obtain ⟨c1,c2⟩:=ih s p.1 p.2 (E++F) hm hr w1 w2 h2 h3;have next:∀ s1,rU n s p.1 p.2=some (some s1)->a9H (rU n) (Cnd n) ps s1/\∀ s',rUs (rU n) ps s1=some (some s')->a7g V S K s' (E++F++p::ps)/\U6 s':=fun s1 e=>by
   obtain ⟨m1,m2⟩:=c2 s1 e;have e3:E++F++[(p.1,p.2)]=E++(F++[p]):=by rw [List.append_assoc]
   rw [e3] at m1;have:=a3T hV ih ps s1 (F++[p]) m1 m2 fun q hq=>hp q (mem_cons_of_mem _ hq);rw [show E++(F++[p])++ps=E++F++p::ps by simp] at this;exact this
  refine ⟨⟨c1,fun s1 e=>(next s1 e).1⟩,fun s' e=>?_⟩;rw [rUs] at e;cases hg:rU n s p.1 p.2 with
  | none=>rw [hg] at e;cases e
  | some q =>
   rw [hg] at e;cases q with
   | none=>cases e
   | some s1=>exact (next s1 hg).2 s' e
theorem b7g (hV:∀ v∈V,0<=v) (hc:b9G S) (hK:K<=100000) (hE:arA S<=60):∀ (n:Nat) (s:List Bd) (a b:Tm) (E:List (Tm×Tm)),a7g V S K s E->U6 s->Way V S s a->Way V S s b->(a.rng/\a.ok)->(b.rng/\b.ok)->Cnd n s a b/\∀ s',rU n s a b=some (some s')->a7g V S K s' (E++[(a,b)])/\U6 s':=by
 intro n
 induction n with
 | zero=>intro s a b E _ _ _ _ _ _;exact ⟨trivial,fun s' e=>by cases e⟩
 | succ n ih =>
  intro s a b E hm hr wa wb ha hb;have ea:j9 s a=b7 (c9 s) a:=n6 hm.bare a;have eb:j9 s b=b7 (c9 s) b:=n6 hm.bare b;have iZ:∀ v,0<=v->(c9 s v).strip=c9 s v:=fun v _=>L8 hm.bare v;have za:(j9 s a).size<=90000000000:=by rw [ea];exact b1Q hE (a1G hc hm.orig iZ wa.hits)
  have zb:(j9 s b).size<=90000000000:=by rw [eb];exact b1Q hE (a1G hc hm.orig iZ wb.hits)
  have ra:(j9 s a).rng/\(j9 s a).ok:=⟨Q3 ha.1 fun x hx=>(hr x hx).1,a0l ha.2 fun x hx=>(hr x hx).2⟩
  have rb:(j9 s b).rng/\(j9 s b).ok:=⟨Q3 hb.1 fun x hx=>(hr x hx).1,a0l hb.2 fun x hx=>(hr x hx).2⟩
  have part:∀ c:Tm,Way V S s c->(j9 s c).rng/\(j9 s c).ok->¬ (j9 s c).f<0->∀ p∈(j9 s c).l,(∀ (s1:List Bd) F1,Mgu (c9 s1) (E++F1)->Way V S s1 p)/\p.rng/\p.ok:=by
   intro c wc uJ pP p hp;have ec:j9 s c=b7 (c9 s) c:=n6 hm.bare c;refine ⟨fun s1 F1 h1=>?_,((Tm.rng_iff _).1 uJ.1).2 p hp,((Tm.ok_iff _).1 uJ.2).2 p hp⟩;have hu:uni (c9 s1) E:=(B1.1 h1.uni).1;refine ⟨fun u hu=>T3 hm.inV wc.vs u ?_,?_⟩
   ·rw [<-ec,Tm.vs_sym pP];exact mem_flatMap.2 ⟨p,hp,hu⟩
   ·rw [ec] at pP hp;obtain ⟨q,hq,nC,e⟩:=wc.hits.sym hm.orig iZ pP;rw [e,i8 nC] at hp;obtain ⟨q2,eB,rfl⟩:=mem_map.1 hp;exact ⟨q2,hc q hq q2 (by rw [Tm.ps_of_sym (by omega)];exact eB),hm.mgu.rep hu q2⟩
  have list:∀ c d:Tm,Way V S s c->Way V S s d->(j9 s c).rng/\(j9 s c).ok->(j9 s d).rng/\(j9 s d).ok->¬ (j9 s c).f<0->(j9 s c).f=(j9 s d).f->a9H (rU n) (Cnd n) ((j9 s c).l.zip (j9 s d).l) s/\∀ s',rUs (rU n) ((j9 s c).l.zip (j9 s d).l) s=some (some s')->a7g V S K s' (E++[]++(j9 s c).l.zip (j9 s d).l)/\U6 s':=by intro c d wc wd uJ jY pP yB;refine a3T hV ih _ s [] (by rw [List.append_nil];exact hm) hr fun p hp=>?_;obtain ⟨p1,p2⟩:=List.of_mem_zip (a:=p.1) (b:=p.2) hp;obtain ⟨a1,a2⟩:=part c wc uJ pP _ p1;obtain ⟨b1,b2⟩:=part d wd jY (by rw [<-yB];exact pP) _ p2;exact ⟨fun s1 F1 h1=>⟨a1 s1 F1 h1,b1 s1 F1 h1⟩,a2,b2⟩
  refine ⟨⟨⟨by have:=hm.len;omega,hr⟩,⟨ha.1,ha.2,hb.1,hb.2⟩,⟨za,zb⟩,?_⟩,fun s' e=>?_⟩
  ·intro a2 b2 e1 e2 hf lL cI;split at e1
   ·rename_i hs;rw [if_pos hs] at e2;subst e1 e2;exact (list b a wb wa rb ra hf lL).1
   ·rename_i hs;rw [if_neg hs] at e2;subst e1 e2;exact (list a b wa wb ra rb hf lL).1
  ·have hsp:=b8k hV e hm.mgu hm.bare hm.inV wa.vs wb.vs;obtain ⟨q1,q2,q3,q4⟩:=hsp;have go:∀ c d:Tm,Way V S s c->Way V S s d->(j9 s c).rng/\(j9 s c).ok->(j9 s d).rng/\(j9 s d).ok->a0Y (rU n) s (j9 s c) (j9 s d)=some (some s')->(Orig S (c9 s')/\s'.length+frN V s'<=K/\∀ b∈s',b.v∈V)/\U6 s':=by
    intro c d wc wd uJ jY e;by_cases hf:(j9 s c).f<0
    ·obtain ⟨o1,o2,o3⟩:=b5H hV hm (n6 hm.bare c) (n6 hm.bare d) wc wd hf e;refine ⟨⟨o1,c0X hm.len o2 q4,o3⟩,?_⟩;unfold a0Y at e;rw [if_pos hf] at e;split at e
     ·cases e
     ·cases e;exact c1h hr jY
    ·unfold a0Y at e;rw [if_neg hf] at e;split at e
     ·cases e
     ·rename_i kE;obtain ⟨m1,m2⟩:=(list c d wc wd uJ jY hf (Decidable.byContradiction fun h=>kE (.inl h))).2 s' e;exact ⟨⟨m1.orig,m1.len,m1.num⟩,m2⟩
   rw [rU] at e;split at e
   ·cases e;exact ⟨⟨q1,q2,q3,hm.orig,hm.len,hm.num⟩,hr⟩
   ·split at e
    ·obtain ⟨⟨o1,o2,o4⟩,o3⟩:=go b a wb wa rb ra e;exact ⟨⟨q1,q2,q3,o1,o2,o4⟩,o3⟩
    ·obtain ⟨⟨o1,o2,o4⟩,o3⟩:=go a b wa wb ra rb e;exact ⟨⟨q1,q2,q3,o1,o2,o4⟩,o3⟩
end
def a7V (l:List (Tm×Tm)):Prop:=∀ p∈l,((p.1.rng/\p.1.ok)/\p.1.size<=16)/\((p.2.rng/\p.2.ok)/\p.2.size<=16)
def F8 (l:List (Tm×Tm)):List Int:=l.flatMap fun p=>p.1.vs++p.2.vs
theorem a8V {V:List Int} (p:Int->Bool):(V.filter p).length<=V.length:=length_filter_le _ _
theorem b2I (t:Tm):t.vs.length<=t.size:=by
 unfold Tm.vs Tm.size vsL;rw [length_map];exact length_filter_le _ _
theorem a2k:∀ l:List (Tm×Tm),a7V l->(F8 l).length<=32*l.length
 | [],_=>Nat.le_refl _
 | p::l,h=>by
  have h1:=h p (by simp);have h2:=a2k l fun q hq=>h q (mem_cons_of_mem _ hq);have e:F8 (p::l)=(p.1.vs++p.2.vs)++F8 l:=List.flatMap_cons;have h3:=b2I p.1;have h4:=b2I p.2;rw [e,length_append,length_append,length_cons];omega
theorem b8m (l:List (Tm×Tm)) (hl:l.length<=2) (ht:a7V l):∃ n r,rUs (rU n) l []=some r/\a9H (rU n) (Cnd n) l []/\(r=none->∀ τ,¬ uni τ l)/\∀ s,r=some s->Mgu (c9 s) l/\L4 s/\inV (F8 l) s/\U6 s/\(∀ b∈s,0<=b.v)/\s.length<=64/\(∀ b∈s,b.v∈F8 l)/\(∀ t,(∃ q∈I9 l,t=q)->(b7 (c9 s) t).size<=90000000000)/\∀ v,0<=v->c9 s v=s8 v\/((c9 s v).rng/\(c9 s v).size<=90000000000):=by
 have hV:∀ v∈F8 l,0<=v:=fun v hv=>by obtain ⟨p,_,hv⟩:=mem_flatMap.1 hv;rcases mem_append.1 hv with hv | hv<;>exact s6 _ v hv
 have kQ:∀ p∈l,(∀ u∈p.1.vs,u∈F8 l)/\∀ u∈p.2.vs,u∈F8 l:=fun p hp=>⟨fun u hu=>mem_flatMap.2 ⟨p,hp,mem_append_left _ hu⟩,fun u hu=>mem_flatMap.2 ⟨p,hp,mem_append_right _ hu⟩⟩
 have h0:Mgu (c9 []) []:=Mgu.nil;obtain ⟨n,r,e,g1,g2⟩:=a2c hV l [] [] h0 (fun b hb=>by cases hb) (fun b hb=>by cases hb) kQ;rw [List.nil_append] at g1 g2;have hE:arA (I9 l)<=60:=by
  have:=a7D l fun p hp=>⟨(ht p hp).1.2,(ht p hp).2.2⟩
  omega
 have bQ:=a2k l ht;have oU:a7g (F8 l) (I9 l) 64 [] ([]++[]):=⟨h0,(fun b hb=>by cases hb),(fun b hb=>by cases hb),(fun v hv hf=>by exfalso;apply hf;show (s8 v).f<0;rw [r6];omega),by
  have:frN (F8 l) []<=(F8 l).length:=a8V _;show 0+_<=64;omega,fun b hb=>by cases hb⟩
 obtain ⟨c1,c2⟩:=a3T (V:=F8 l) (S:=I9 l) (K:=64) (E:=[]) hV (b7g hV (Z5 l) (by decide) hE n) l [] [] oU (fun b hb=>by cases hb) fun p hp=>by obtain ⟨s1,s2⟩:=a9u hp;exact ⟨fun s1' F1 h1=>⟨⟨(kQ p hp).1,p.1,s1,rfl⟩,⟨(kQ p hp).2,p.2,s2,rfl⟩⟩,(ht p hp).1.1,(ht p hp).2.1⟩
 refine ⟨n,r,e,c1,g1,fun s hs=>?_⟩;obtain ⟨k1,k2,k3⟩:=g2 s hs;rw [hs] at e;obtain ⟨m1,m2⟩:=c2 s e;have iZ:∀ v,0<=v->(c9 s v).strip=c9 s v:=fun v _=>L8 k2 v;have iT:∀ q∈I9 l,(b7 (c9 s) q).size<=90000000000:=fun q hq=>b1Q hE (a1G (Z5 l) m1.orig iZ ⟨q,hq,rfl⟩);refine ⟨k1,k2,k3,m2,a7h (b7I n) l [] s e (fun b hb=>by cases hb),by have:=m1.len;omega,m1.num,fun t ⟨q,hq,e⟩=>by rw [e];exact iT q hq,fun v hv=>?_⟩;by_cases hf:(c9 s v).f<0
 ·unfold c9 at hf |-;cases xG:b6 s v with
  | none=>exact .inl rfl
  | some t =>
   right;rw [xG] at hf;obtain ⟨b,xE,e1,_⟩:=J1 xG;refine ⟨by show t.rng;rw [<-e1];exact (m2 b xE).1,?_⟩;show t.size<=_;rw [Tm.size_var (show t.f<0 from hf)];decide
 ·right;obtain ⟨q,hq,nC,e1⟩:=m1.orig v hv hf;refine ⟨?_,by rw [<-e1];exact iT q hq⟩;unfold c9 at hf |-;cases xG:b6 s v with
  | none=>rw [xG] at hf;exact absurd (show (s8 v).f<0 by rw [r6];omega) hf
  | some t =>
   obtain ⟨b,xE,e2,_⟩:=J1 xG;show t.rng;rw [<-e2];exact (m2 b xE).1
theorem Y1 {σ σ':Int->Tm} (h:∀ v,0<=v->σ' v=σ v) (t:Tm):b7 σ' t=b7 σ t:=Y8 fun v hv=>h v (s6 _ v hv)
theorem Mgu.congr {σ σ':Int->Tm} {E:List (Tm×Tm)} (hm:Mgu σ E) (h:∀ v,0<=v->σ' v=σ v):Mgu σ' E:=
 ⟨fun p hp=>by rw [Y1 h,Y1 h];exact hm.uni p hp,fun v hv=>by rw [h v hv];exact hm.bare v hv,fun v hv u hu=>by
  rw [h v hv] at hu;rw [h u (s6 _ u hu)];exact hm.idem v hv u hu,fun τ ht v hv=>by rw [h v hv];exact hm.most τ ht v hv,fun v hv hf=>by
  rw [h v hv] at hf |-;exact hm.low v hv hf⟩
theorem b3I {s:List Bd} (hb:L4 s) {v:Int} (hv:0<=v):c9 (x0 s) v=c9 s v:=by
 have h1:=b4V s hv;have h2:c9 (x0 s) v=(b6 (x0 s) v).getD (s8 v):=rfl;rw [h2,h1];split
 ·rename_i hi;have hi:(decide ((c9 s v).f<0)&&decide (-1-(c9 s v).f=v))=true:=hi;rw [Bool.and_eq_true,decide_eq_true_eq,decide_eq_true_eq] at hi;show s8 v=_;rw [a1H (L8 hb v) hi.1,hi.2]
 ·exact L8 hb v
structure Tells8 (l:List (Tm×Tm)) (r:List Bd×Bool):Prop where
 told:ToldU l r
 yes:r.2=true->Mgu (c9 r.1) l
 no:r.2=false->r.1=[]/\∀ τ,¬ uni τ l
 len:r.1.length<=64
 ok:∀ b∈r.1,(b.t.rng/\b.t.size<=90000000000)/\b.t.ok
 bare:L4 r.1
 inV:∀ b∈r.1,b.v∈F8 l/\∀ u∈b.t.vs,u∈F8 l
 srt:r.1.Pairwise (fun x y=>x.v<y.v)
 free:∀ t u,u∈(b7 (c9 r.1) t).vs->b6 r.1 u=none
 big:∀ q∈I9 l,(b7 (c9 r.1) q).size<=90000000000
theorem b4R {l:List (Tm×Tm)} (ht:a7V l):∀ q∈I9 l,q.size<=16:=fun q hq=>by
 have key:∀ t:Tm,∀ q∈t.flat,q.size<=t.size:=by
  intro t
  induction t using Tm.indp with
  | h t ih =>
   intro q hq;rw [Tm.flat_eq] at hq;rcases mem_cons.1 hq with rfl | hq
   ·exact Nat.le_refl _
   ·obtain ⟨p,hp,hq⟩:=mem_flatMap.1 hq;have:=ih p hp q hq;have:=Tm.size_part hp;omega
 obtain ⟨p,hp,hq⟩:=mem_flatMap.1 hq;rcases mem_append.1 hq with hq | hq
 ·exact Nat.le_trans (key _ q hq) (ht p hp).1.2
 ·exact Nat.le_trans (key _ q hq) (ht p hp).2.2
theorem b2U {l:List (Tm×Tm)} (hl:l.length<=2) (ht:a7V l):∃ n r,rUs (rU n) l []=some r/\a9H (rU n) (Cnd n) l []/\(∀ s,r=some s->s.length<=1000/\∀ b∈s,b.t.rng/\b.t.ok)/\Tells8 l ((r.map x0).getD [],r.isSome):=by
 obtain ⟨n,r,e,hC,h1,h2⟩:=b8m l hl ht;refine ⟨n,r,e,hC,fun s hs=>?_,?_⟩
 ·obtain ⟨_,_,_,m4,_,m6,_⟩:=h2 s hs;exact ⟨by omega,m4⟩
 cases r with
 | none =>
  have hn:=h1 rfl;have hid:∀ t:Tm,b7 (c9 []) t=t.strip:=fun t=>b1C t;exact ⟨.inl ⟨rfl,rfl,hn⟩,(fun h=>by cases h),fun _=>⟨rfl,hn⟩,Nat.zero_le _,(fun b hb=>by cases hb),(fun b hb=>by cases hb),(fun b hb=>by cases hb),List.Pairwise.nil,fun t u hu=>rfl,fun q hq=>by show (b7 (c9 []) q).size<=_;rw [hid,Tm.strip_size];have:=b4R ht q hq;omega⟩
 | some s =>
  obtain ⟨m1,m2,m3,m4,m5,m6,m7,m8,m9⟩:=h2 s rfl;have hi:∀ v,0<=v->c9 (x0 s) v=c9 s v:=fun v hv=>b3I m2 hv;have dG:∀ b∈x0 s,∃ c∈s,b.v=c.v/\b.t=c.t:=fun b hb=>by unfold x0 at hb;obtain ⟨c,hc,rfl⟩:=mem_map.1 hb;have fF:=V2 (List.mem_filter.1 hc).1;exact ⟨c,fF,rfl,m2 c fF⟩
  have eI:∀ b∈x0 s,b6 (x0 s) b.v=some b.t:=fun b hb=>by
   have key:∀ L:List Bd,L.Pairwise (fun x y=>x.v<y.v)->∀ b∈L,b6 L b.v=some b.t:=fun L=>by
    induction L with
    | nil=>intro _ b hb;cases hb
    | cons a L ih =>
     intro hp b hb;obtain ⟨p1,p2⟩:=pairwise_cons.1 hp;rw [b6];rcases mem_cons.1 hb with rfl | hb
     ·rw [if_pos rfl]
     ·rw [if_neg (by have:=p1 b hb;omega)];exact ih p2 b hb
   exact key _ (P4 s) b hb
  refine ⟨.inr ⟨rfl,s,m1,m5,m9,rfl⟩,fun _=>m1.congr hi,(fun h=>by cases h),Nat.le_trans (b4t s) m6,fun b hb=>?_,fun b hb=>?_,fun b hb=>?_,P4 s,fun t u hu=>?_,fun q hq=>?_⟩
  ·obtain ⟨c,hc,e1,e2⟩:=dG b hb;have h0:0<=b.v:=by rw [e1];exact m5 c hc
   have hf:=eI b hb;have qT:c9 s b.v=b.t:=by rw [<-hi _ h0];unfold c9;rw [hf];rfl
   refine ⟨⟨by rw [e2];exact (m4 c hc).1,?_⟩,by rw [e2];exact (m4 c hc).2⟩;rcases m9 b.v h0 with h | h
   ·rw [<-qT,h,Tm.size_var (by rw [r6];omega)];decide
   ·rw [<-qT];exact h.2
  ·obtain ⟨c,hc,_,e2⟩:=dG b hb;show b.t.strip=b.t;rw [e2];exact m2 c hc
  ·obtain ⟨c,hc,e1,e2⟩:=dG b hb;rw [e1,e2];exact ⟨m7 c hc,m3 c hc⟩
  ·have hu:u∈(b7 (c9 (x0 s)) t).vs:=hu;rw [Y1 hi] at hu;exact b3C m1 hu
  ·show (b7 (c9 (x0 s)) q).size<=_;rw [Y1 hi];exact m8 q ⟨q,hq,rfl⟩
theorem Tells8.bdsOk {l:List (Tm×Tm)} {r:List Bd×Bool} (h:Tells8 l r):bdsOk r.1:=fun b hb=>(h.ok b hb).1
theorem b9a {s:List Bd} (hs:bdsOk s) {t:Tm} (h:t.rng):(b7 (c9 s) t).rng:=b6Z h fun v h1 h2=>(a7L hs h1 h2).1
abbrev b2N (l:List Bd):Prop:=l.Pairwise fun x y=>x.v<y.v
def fnI (o:Option Tm) (v:Int):Option Tm:=match o with | some t=>if F3 ⟨v,t⟩ then none else some t | none=>none
theorem a1f {l:List Bd} {v:Int} (h:∀ c∈l,v<c.v):b6 l v=none:=t8 fun b hb=>by have:=h b hb;omega
theorem b7T:∀ {A B:List Bd},b2N A->b2N B->(∀ v,(b6 A v).map Tm.strip=(b6 B v).map Tm.strip)->A.map Bd.strip=B.map Bd.strip
 | [],[],_,_,_=>rfl
 | [],b::B,_,_,h=>by have:=h b.v;rw [b6,b6,if_pos rfl] at this;cases this
 | a::A,[],_,_,h=>by have:=h a.v;rw [b6,b6,if_pos rfl] at this;cases this
 | a::A,b::B,hA,hB,h=>by
  have hA:=pairwise_cons.1 hA;have hB:=pairwise_cons.1 hB;have hv:a.v=b.v:=by
   rcases Int.lt_trichotomy a.v b.v with h1 | h1 | h1
   ·have h2:=h a.v;rw [b6,if_pos rfl,a1f (l:=b::B) (fun c hc=>by
     rcases mem_cons.1 hc with rfl | hc
     ·exact h1
     ·have:=hB.1 c hc;omega)] at h2
    cases h2
   ·exact h1
   ·have h2:=h b.v;rw [a1f (l:=a::A) (fun c hc=>by
     rcases mem_cons.1 hc with rfl | hc
     ·exact h1
     ·have:=hA.1 c hc;omega),b6,if_pos rfl] at h2
    cases h2
  have ht:a.t.strip=b.t.strip:=by have h2:=h a.v;rw [b6,if_pos rfl,b6,if_pos hv.symm] at h2;exact Option.some.inj h2
  rw [map_cons,map_cons,b7T hA.2 hB.2 fun v=>?_]
  ·congr 1;unfold Bd.strip;rw [hv,ht]
  ·by_cases e:v=a.v
   ·subst e;rw [a1f hA.1,a1f (l:=B) (fun c hc=>by have:=hB.1 c hc;omega)]
   ·have h2:=h v;rw [b6,if_neg (fun h=>e h.symm),b6,if_neg (fun h=>e (by omega))] at h2;exact h2
theorem a3G (v:Int):∀ (l:List Bd),∀ c∈l.take (G0 v l),c.v<v
 | [],c,h=>by simp at h
 | b::l,c,h=>by
  rw [G0] at h;split at h
  ·rename_i hb;rw [List.take_succ_cons] at h;rcases mem_cons.1 h with rfl | h
   ·exact hb
   ·exact a3G v l c h
  ·simp at h
theorem a3y {v:Int}:∀ {l:List Bd},b2N l->(∀ c∈l,c.v≠v)->∀ c∈l.drop (G0 v l),v<c.v
 | [],_,_,c,h=>by simp at h
 | b::l,hs,hn,c,h=>by
  have hs:=pairwise_cons.1 hs;rw [G0] at h;split at h
  ·rw [List.drop_succ_cons] at h;exact a3y hs.2 (fun x hx=>hn x (mem_cons_of_mem _ hx)) c h
  ·rename_i hb;have:=hn b (by simp);rw [List.drop_zero] at h;rcases mem_cons.1 h with rfl | h
   ·omega
   ·have:=hs.1 c h;omega
theorem b6H {b:Bd} {l:List Bd} (hs:b2N l) (hn:∀ c∈l,c.v≠b.v):b2N (b0b b l):=by
 have h1:=a3G b.v l;have h2:=a3y hs hn;have fP:b2N (l.take (G0 b.v l)++l.drop (G0 b.v l)):=by rw [take_append_drop];exact hs
 unfold b0b;rw [List.append_assoc];unfold b2N at fP |-;rw [List.pairwise_append] at fP |-;refine ⟨fP.1,?_,fun x hx y hy=>?_⟩
 ·rw [List.singleton_append,pairwise_cons];exact ⟨h2,fP.2.1⟩
 ·rw [List.singleton_append] at hy;rcases mem_cons.1 hy with rfl | hy
  ·exact h1 x hx
  ·exact fP.2.2 x hx y hy
theorem a0e {l:List Bd} {v:Int} (h:b6 l v=none):∀ c∈l,c.v≠v:=fun c hc e=>by
 obtain ⟨t,ht⟩:=M1 hc;rw [e,h] at ht;cases ht
theorem b4v {b:Bd} {l:List Bd} (hn:b6 l b.v=none) (v:Int):b6 (b0b b l) v=if b.v=v then some b.t else b6 l v:=by
 unfold b0b;rw [S1,S1];have hl:b6 l v=(b6 (l.take (G0 b.v l)) v).or (b6 (l.drop (G0 b.v l)) v):=by rw [<-S1,take_append_drop]
 have h1:b6 [b] v=if b.v=v then some b.t else none:=by simp only [b6]
 rw [h1];by_cases e:b.v=v
 ·subst e;rw [if_pos rfl,if_pos rfl];have:b6 (l.take (G0 b.v l)) b.v=none:=t8 fun c hc=>a0e hn c (mem_of_mem_take hc);rw [this];rfl
 ·rw [if_neg e,if_neg e,hl];simp
theorem a6i (L:List Bd) (i:Nat) (v:Int):J4 L i v=(b6 (L.take i) v).isSome:=by
 unfold J4;generalize L.take i=l
 induction l with
 | nil=>rfl
 | cons b l ih =>
  rw [List.any_cons,b6,ih];by_cases h:b.v=v
  ·simp [h]
  ·simp [h]
theorem a9n (L:List Bd):∀ i,b2N (N4 L i)/\∀ v,b6 (N4 L i) v=fnI (b6 (L.take i) v) v
 | 0=>⟨List.Pairwise.nil,fun v=>rfl⟩
 | i+1=>by
  obtain ⟨ih1,ih2⟩:=a9n L i;cases hx:L[i]? with
  | none =>
   have:L.take (i+1)=L.take i:=by rw [List.take_add_one,hx];simp
   rw [N4,hx,this];exact ⟨ih1,ih2⟩
  | some b =>
   have cE:=C3 hx;have kR:∀ v,b6 (L.take (i+1)) v=(b6 (L.take i) v).or (if b.v=v then some b.t else none):=fun v=>by rw [cE,S7]
   rw [N4,hx];simp only;cases hk:J4 L i b.v with
   | true =>
    rw [a6i] at hk;simp only [Bool.true_or,if_true];refine ⟨ih1,fun v=>?_⟩;rw [ih2 v,kR v];by_cases e:b.v=v
    ·subst e;cases h:b6 (L.take i) b.v with
     | none=>rw [h] at hk;cases hk
     | some t=>rfl
    ·rw [if_neg e];simp
   | false =>
    rw [a6i] at hk;have fJ:b6 (L.take i) b.v=none:=by
     cases h:b6 (L.take i) b.v with
     | none=>rfl
     | some t=>rw [h] at hk;cases hk
    have hOn:b6 (N4 L i) b.v=none:=by rw [ih2,fJ];rfl
    cases hid:F3 b with
    | true =>
     simp only [Bool.or_true,if_true];refine ⟨ih1,fun v=>?_⟩;rw [ih2 v,kR v];by_cases e:b.v=v
     ·subst e;rw [fJ,if_pos rfl];show none=fnI (some b.t) b.v;have h3:F3 ⟨b.v,b.t⟩=true:=hid;simp only [fnI,h3,if_true]
     ·rw [if_neg e];simp
    | false =>
     simp only [Bool.or_false,Bool.false_eq_true,if_false];refine ⟨b6H ih1 (a0e hOn),fun v=>?_⟩;rw [b4v hOn v,kR v];by_cases e:b.v=v
     ·subst e;rw [fJ,if_pos rfl,if_pos rfl];show some b.t=fnI (some b.t) b.v;have h3:F3 ⟨b.v,b.t⟩=false:=hid;simp only [fnI,h3,Bool.false_eq_true,if_false]
     ·rw [if_neg e,if_neg e,ih2 v];simp
theorem b5K (L:List Bd):(x0 L).map Bd.strip=(N4 L L.length).map Bd.strip:=by
 obtain ⟨h1,h2⟩:=a9n L L.length;refine b7T (P4 L) h1 fun v=>?_;rw [S6,h2,take_length];unfold fnI;cases b6 L v with
 | none=>rfl
 | some t =>
  simp only;split
  ·rfl
  ·show some t.strip.strip=some t.strip;rw [Tm.strip_strip]
theorem X9 (L:List Bd):∀ (i:Nat) (b:Bd),b∈N4 L i->b∈L
 | 0,b,h=>by cases h
 | i+1,b,h=>by
  rw [N4] at h;split at h
  ·exact X9 L i b h
  ·rename_i c hc;split at h
   ·exact X9 L i b h
   ·unfold b0b at h;rcases mem_append.1 h with h | h
    ·rcases mem_append.1 h with h | h
     ·exact X9 L i b (mem_of_mem_take h)
     ·rw [mem_singleton.1 h];exact mem_of_getElem? hc
    ·exact X9 L i b (mem_of_mem_drop h)
section
variable {P:Program} {w0:World} {U0:UX} {nt:Nat} {ops:Array Oper} {o:Oper} {S:Nat->Option AV} {gs:List Nat} {d:Nat} {s:AS} {a:Act} {w:World} {D:Nat->Nat->Prop} {hv:Nat->Value}
theorem c0R (i1 i2 i3:Nat) (hg:Gd w0 U0 nt ops o gs S) (hd:o.dst=some d) (hn:Nat.blt d nt=true) (h5:Nat.blt d 100000=true) {x y y2 y3:Operand} {t e:TypeId} {z:Nat} {k k2 k3:IntKind} {j1 j2 j3:Int} {n lo len n1 q1 p1 n2 q2 p2 n3 q3 p3} (ho:o.op = .slice t x (some y) (some y2) (some y3)) (hu:P.underlying t=some (.slice e)) (hi:(P.info? e).map (·.size)=some z) (hx:ev S x=some (.sl n lo len z)) (hy:ev S y=some ⟨0,.sc (.int k j1),n1,q1,p1⟩) (jF:ev S y2=some ⟨0,.sc (.int k2 j2),n2,q2,p2⟩) (hy3:ev S y3=some ⟨0,.sc (.int k3 j3),n3,q3,p3⟩) (e1:j1=(i1:Int)) (e2:j2=(i2:Int)) (e3:j3=(i3:Int)) (lW:i1<=i2) (xD:i2<=i3) (h3:i3<=len) :
  AOp P w0 U0 nt ops o (gs++(rd x++(rd y++(rd y2++rd y3)))) [] S [(d,.no)]:=
 i9 hg hd hn h5 (fun k hk=>mem_append_left _ hk) fun s hs a w D hv hm=>by obtain ⟨kN,ao,m,cap,ao',h1,h2,uQ,h4,h6,h7⟩:RN n/\SlV (hv n) lo len z (a.eval x):=k9 hm (fun k hk=>hs k (mem_append_right _ (mem_append_left _ hk))) hx;have f1:=v7 hm (fun k hk=>hs k (mem_append_right _ (mem_append_right _ (mem_append_left _ hk)))) hy;have f2:=v7 hm (fun k hk=>hs k (mem_append_right _ (mem_append_right _ (mem_append_right _ (mem_append_left _ hk))))) jF;have f3:=v7 hm (fun k hk=>hs k (mem_append_right _ (mem_append_right _ (mem_append_right _ (mem_append_right _ hk))))) hy3;have kD:=B3 (P:=P) (w:=w) hi;have b3:=B8 (P:=P) (w:=w) (k:=k3) (j:=i3) (y:=cap-lo) (code := .slice3Acap) (by omega);have b2:=B8 (P:=P) (w:=w) (k:=k2) (j:=i2) (y:=i3) (code := .slice3B) xD;have b1:=B8 (P:=P) (w:=w) (k:=k) (j:=i1) (y:=i2) (code := .slice3C) lW;subst e1 e2 e3;refine ⟨.slice (if i3=i1 then ao' else ao'.map (·.add (i1*z))) (i2-i1) (i3-i1),?_,trivial⟩;generalize a.eval=ρ at h2 f1 f2 f3 |-;simp [execOp,ho,Instr.sliceAt,Instr.slice,run_underlying hu,h2,f1,f2,f3,Instr.sliceBounds,b1,b2,b3,kD]
theorem zbz {P:Program} {w0:World} {U0:UX} {nt:Nat} {ops:Array Oper} {o:Oper} {S:Nat->Option AV} {gs:List Nat} {d:Nat} {x:Operand} {y:Operand} {y2:Operand} {y3:Operand} {t:TypeId} {e:TypeId} {z:Nat} {k:IntKind} {k2:IntKind} {k3:IntKind} {j1:Int} {j2:Int} {j3:Int} {n} {lo} {len} {n1} {q1} {p1} {n2} {q2} {p2} {n3} {q3} {p3} (i1:Nat) (i2:Nat) (i3:Nat) (p:Gd w0 U0 nt ops o gs S:=by exact gN rfl) (q:o.dst=some d:=by exact rfl) (r:Nat.blt d nt=true:=by exact rfl) (u:Nat.blt d 100000=true:=by exact rfl) (v:o.op = .slice t x (some y) (some y2) (some y3):=by exact rfl) (A:P.underlying t=some (.slice e):=by exact rfl) (B:(P.info? e).map (·.size)=some z:=by exact rfl) (C:ev S x=some (.sl n lo len z):=by exact rfl) (E:ev S y=some ⟨0,.sc (.int k j1),n1,q1,p1⟩:=by exact rfl) (F:ev S y2=some ⟨0,.sc (.int k2 j2),n2,q2,p2⟩:=by exact rfl) (G:ev S y3=some ⟨0,.sc (.int k3 j3),n3,q3,p3⟩:=by exact rfl) (H:j1=(i1:Int):=by first | rfl | omega | (simp only [length_set,length_map,length_append,length_cons,length_nil]<;>omega) | (simp<;>omega)) (e2:j2=(i2:Int):=by first | rfl | omega | (simp only [length_set,length_map,length_append,length_cons,length_nil]<;>omega) | (simp<;>omega)) (e3:j3=(i3:Int):=by first | rfl | omega | (simp only [length_set,length_map,length_append,length_cons,length_nil]<;>omega) | (simp<;>omega)) (lW:i1<=i2:=by first | rfl | omega | (simp only [length_set,length_map,length_append,length_cons,length_nil]<;>omega) | (simp<;>omega)) (xD:i2<=i3:=by first | rfl | omega | (simp only [length_set,length_map,length_append,length_cons,length_nil]<;>omega) | (simp<;>omega)) (h3:i3<=len:=by first | rfl | omega | (simp only [length_set,length_map,length_append,length_cons,length_nil]<;>omega) | (simp<;>omega)):AOp P w0 U0 nt ops o (gs++(rd x++(rd y++(rd y2++rd y3)))) [] S [(d,.no)]:=c0R i1 i2 i3 p q r u v A B C E F G H e2 e3 lW xD h3
theorem c1d (i1 i2:Nat) (hg:Gd w0 U0 nt ops o gs S) (hd:o.dst=some d) (hn:Nat.blt d nt=true) (h5:Nat.blt d 100000=true) {x y y2:Operand} {t e e':TypeId} {z:Nat} {l:List CV} {k k2:IntKind} {j1 j2:Int} {n len n1 q1 p1 n2 q2 p2} (ho:o.op = .slice t x (some y) (some y2) none) (hu:P.underlying t=some (.slice e)) (hi:(P.info? e).map (·.size)=some z) (hx:ev S x=some (.sl n 0 len z)) (hy:ev S y=some ⟨0,.sc (.int k j1),n1,q1,p1⟩) (jF:ev S y2=some ⟨0,.sc (.int k2 j2),n2,q2,p2⟩) (bP:S n=some (.mrow e' z l)) (e1:j1=(i1:Int)) (e2:j2=(i2:Int)) (lW:i1<=i2) (h3:i2<=l.length) :
  AOp P w0 U0 nt ops o (gs++(rd x++(rd y++(rd y2++[n])))) [] S [(d,.sl n i1 (i2-i1) z)]:=
 i9 hg hd hn h5 (fun k hk=>mem_append_left _ hk) fun s hs a w D hv hm=>by
  obtain ⟨kN,ao,m,cap,ao',h1,h2,uQ,h4,h6,h7⟩:RN n/\SlV (hv n) 0 len z (a.eval x):=k9 hm (fun k hk=>hs k (mem_append_right _ (mem_append_left _ hk))) hx;have f1:=v7 hm (fun k hk=>hs k (mem_append_right _ (mem_append_right _ (mem_append_left _ hk)))) hy;have f2:=v7 hm (fun k hk=>hs k (mem_append_right _ (mem_append_right _ (mem_append_right _ (mem_append_left _ hk))))) jF;obtain ⟨xs,g1,g2,g3,g4⟩:=hm.mrow ((hs n (by simp)).trans bP) kN;obtain ⟨ao2,cap2,c1,c2,_⟩:=Y0 g1;have vL:l.length<=cap:=by rw [h1] at c1;injection c1 with _ _ c3;omega
  have kD:=B3 (P:=P) (w:=w) hi;have b2:=B8 (P:=P) (w:=w) (k:=k2) (j:=i2) (y:=cap) (code := .sliceAcap) (by omega);have b1:=B8 (P:=P) (w:=w) (k:=k) (j:=i1) (y:=i2) (code := .sliceB) lW;subst e1 e2;have h2:a.eval x = .slice ao len cap:=by rw [h2,h4 rfl];rfl
  refine ⟨.slice (if cap=i1 then ao else ao.map (·.add (i1*z))) (i2-i1) (cap-i1),?_,kN,ao,m,cap,_,h1,rfl,by show i1+(i2-i1)<=cap;omega,fun h8=>?_,fun h8=>?_,?_⟩
  ·generalize a.eval=ρ at h2 f1 f2 |-;simp [execOp,ho,Instr.sliceAt,Instr.slice,run_underlying hu,h2,f1,f2,Instr.sliceBounds,b1,b2,kD]
  ·have h8:i1=0:=h8;subst h8;split
   ·rfl
   ·cases ao with
    | none=>rfl
    | some ad=>simp [Addr.add]
  ·have h8:i1<cap:=h8;intro g fE;rw [if_neg (by omega),fE];show some ((⟨g,0,none⟩:Addr).add (i1*z))=some ⟨g,i1*z,none⟩;rw [a1d,Nat.zero_add]
  ·split
   ·exact Iff.rfl
   ·rw [Option.map_eq_none_iff]
theorem zbB {P:Program} {w0:World} {U0:UX} {nt:Nat} {ops:Array Oper} {o:Oper} {S:Nat->Option AV} {gs:List Nat} {d:Nat} {x:Operand} {y:Operand} {y2:Operand} {t:TypeId} {e:TypeId} {e':TypeId} {z:Nat} {l:List CV} {k:IntKind} {k2:IntKind} {j1:Int} {j2:Int} {n} {len} {n1} {q1} {p1} {n2} {q2} {p2} (i1:Nat) (i2:Nat) (p:Gd w0 U0 nt ops o gs S:=by exact gN rfl) (q:o.dst=some d:=by exact rfl) (r:Nat.blt d nt=true:=by exact rfl) (u:Nat.blt d 100000=true:=by exact rfl) (v:o.op = .slice t x (some y) (some y2) none:=by exact rfl) (A:P.underlying t=some (.slice e):=by exact rfl) (B:(P.info? e).map (·.size)=some z:=by exact rfl) (C:ev S x=some (.sl n 0 len z):=by exact rfl) (E:ev S y=some ⟨0,.sc (.int k j1),n1,q1,p1⟩:=by exact rfl) (F:ev S y2=some ⟨0,.sc (.int k2 j2),n2,q2,p2⟩:=by exact rfl) (G:S n=some (.mrow e' z l):=by exact rfl) (H:j1=(i1:Int):=by first | rfl | omega | (simp only [length_set,length_map,length_append,length_cons,length_nil]<;>omega) | (simp<;>omega)) (e2:j2=(i2:Int):=by first | rfl | omega | (simp only [length_set,length_map,length_append,length_cons,length_nil]<;>omega) | (simp<;>omega)) (lW:i1<=i2:=by first | rfl | omega | (simp only [length_set,length_map,length_append,length_cons,length_nil]<;>omega) | (simp<;>omega)) (h3:i2<=l.length:=by first | rfl | omega | (simp only [length_set,length_map,length_append,length_cons,length_nil]<;>omega) | (simp<;>omega)):AOp P w0 U0 nt ops o (gs++(rd x++(rd y++(rd y2++[n])))) [] S [(d,.sl n i1 (i2-i1) z)]:=c1d i1 i2 p q r u v A B C E F G H e2 lW h3
theorem c1g (hg:Gd w0 U0 nt ops o gs S) (hd:o.dst=some d) (hn:Nat.blt d nt=true) (h5:Nat.blt d 100000=true) {x y:Operand} {t e size bytes:Nat} {zv:Value} {l:List CV} {n len lo2 len2} (ho:o.op = .call { callee := .builtin .append,args := #[x,y],argTypes := #[t,t] }) (ht:P.underlying t=some (.slice e)) (hi:(P.info? e).map (fun i=>(i.zero,i.size,i.bytes))=some (some zv,size,bytes))
  (hx:ev S x=some (.sl n 0 len size)) (hy:ev S y=some (.sl n lo2 len2 size)) (bP:S n=some (.mrow e size l)) (hl:len+len2<=l.length) (kL:lo2+len2<=l.length) :
  AOp P w0 U0 nt ops o (gs++(rd x++(rd y++[n]))) [] S [(d,.sl n 0 (len+len2) size),(n,.mrow e size (l.take len++((l.drop lo2).take len2++l.drop (len+len2))))]:=by
 intro s hs hN a w ⟨D,hv,h⟩ Q K hK;rw [if_pos (hg s (fun k hk=>hs k (mem_append_left _ hk)) a w D hv h)];obtain ⟨kN,ao,m,cap,ao',h1,h2,h3,h4,h6,h7⟩:RN n/\SlV (hv n) 0 len size (a.eval x):=k9 h (fun k hk=>hs k (mem_append_right _ (mem_append_left _ hk))) hx;obtain ⟨_,ao2,m2,cap2,ao2',j1,j2,j3,j4,j6,j7⟩:RN n/\SlV (hv n) lo2 len2 size (a.eval y):=k9 h (fun k hk=>hs k (mem_append_right _ (mem_append_right _ (mem_append_left _ hk)))) hy;have h2:a.eval x = .slice ao len cap:=by rw [h2,h4 rfl];rfl
 obtain ⟨i,dC,iE,eL,lG⟩:=info_parts hi;have kG:k7 n:=by unfold RN at kN;unfold k7;omega
 have hm:=(hs n (by simp)).trans bP;obtain ⟨xs,g1,g2,g3,g4⟩:=h.mrow hm kN;obtain ⟨ao3,cap3,c1,c2,_⟩:=Y0 g1;have jP:l.length<=cap:=by rw [h1] at c1;injection c1 with _ _ c3;omega
 have gU:SlV (hv n) 0 (len+len2) size (.slice ao (len+len2) cap):=⟨ao,m,cap,ao,h1,rfl,by omega,fun _=>rfl,fun _ g fE=>by rw [fE,Nat.zero_mul],Iff.rfl⟩
 by_cases hz:len2=0
 ·subst hz;have he:(execOp a.eval o).run P w = .ok (.value (.slice ao len cap)) w:=by
   have cV:len<=cap:=by omega
   generalize a.eval=ρ at h2 j2 |-;cases ao<;>cases ao2'<;>simp [execOp,ho,resolve,invoke,builtin,h2,j2,Builtin.append_,run_underlying ht,sizeOf,typeInfo,dC,Builtin.lenOf,Builtin.firstCells,loadCells,loadCellsFrom,storeCells,cV,Result.andThen]
  unfold Oper.wp;rw [he,Oper.upon_value,hd];have eQ:l.take len++((l.drop lo2).take 0++l.drop (len+0))=l:=by simp
  refine hK _ _ ⟨D,hv,?_⟩;rw [eQ];have hP:=h.put (d:=d) (av := .sl n 0 (len+0) size) (v := .slice ao len cap) (bL hn) (bL h5) ⟨kN,by rw [Nat.add_zero] at gU |-;exact gU⟩;refine hP.congr fun k=>?_;show look ((d,_)::(n,AV.mrow e size l)::s) k=look ((d,_)::s) k;rw [d8,d8,d8];split
  ·rfl
  ·split
   ·rename_i e;rw [<-e];exact hm.symm
   ·rfl
 obtain ⟨g,cap',cur,f1,f2,f3,f4,f6,f7,f8,f9⟩:=X2 g1 (by omega);obtain rfl:cap=cap':=by rw [f1] at h1;injection h1 with k1 k2 k3;exact k3.symm
 obtain rfl:ao=some ⟨g,0,none⟩:=by rw [f1] at h1;injection h1 with k1 k2 k3;exact k1.symm
 obtain rfl:cap=cap2:=by rw [f1] at j1;injection j1 with k1 k2 k3
 obtain rfl:ao2=some ⟨g,0,none⟩:=by rw [f1] at j1;injection j1 with k1 k2 k3;exact k1.symm
 have ha:ao2'=some ⟨g,lo2*size,none⟩:=j6 (by omega) g rfl;subst ha
 have qH:l=l.take lo2++((l.drop lo2).take len2++(l.drop lo2).drop len2):=by rw [take_append_drop,take_append_drop]
 have q4:=g4;rw [qH,map_append,map_append] at q4;obtain ⟨x1,x4,ex1,t1,t2⟩:=w8 q4;obtain ⟨zs,x3,ex2,t3,t4⟩:=w8 t2;have lT:x1.length=lo2*size:=by rw [C9 (n:=CV.size) (fun c _ xs h=>h.len) t1,s5 (fun c hc=>g3 c (mem_of_mem_take hc)),length_take,Nat.min_eq_left (by omega)]
 have cZ:zs.length=len2*size:=by rw [C9 (n:=CV.size) (fun c _ xs h=>h.len) t3,s5 (fun c hc=>g3 c (mem_of_mem_drop (mem_of_mem_take hc))),length_take,List.length_drop,Nat.min_eq_left (by omega)]
 have fR:∀ v∈zs,v.oneCell'=true:=R4 t3;have jN:xs.length=l.length*size:=g1.1;have hcl2:len*size+len2*size<=l.length*size:=by rw [<-Nat.add_mul];exact Nat.mul_le_mul_right _ hl
 have hcl3:lo2*size+len2*size<=l.length*size:=by rw [<-Nat.add_mul];exact Nat.mul_le_mul_right _ kL
 have vL:l.length*size<=cap*size:=Nat.mul_le_mul_right _ f3;have f7:cur.toList.take (l.length*size)=xs:=f7;have f6:cur.size=cap*size:=f6;have cY:∀ j u,zs[j]?=some u->w.cell? ((⟨g,lo2*size,none⟩:Addr).add j)=some u:=fun j u hj=>by
  have gK:j<zs.length:=by
   rcases Nat.lt_or_ge j zs.length with h | h
   ·exact h
   ·rw [getElem?_eq_none h] at hj;cases hj
  rw [a1d];have hc:xs[lo2*size+j]?=some u:=by rw [ex1,ex2,<-lT,List.getElem?_append_right (by omega),Nat.add_sub_cancel_left,List.getElem?_append_left gK];exact hj
  have kT:w.ownsRow 0 e size (.slice (some ⟨g,0,none⟩) l.length cap) l.length xs:=by rw [<-f1];exact g1
  rw [kT.cellAt _ (by omega)];exact hc
 have hr:=run_append_room (P:=P) w t o.type e i ht dC g len cap cur f2 ⟨g,lo2*size,none⟩ len2 (cap-lo2) zs (by rw [eL];exact cZ) cY fR (by omega) (by rw [eL,cZ,f6];omega);rw [eL] at hr;have he:(execOp a.eval o).run P w = .ok (.value (.slice (some ⟨g,0,none⟩) (len+len2) cap)) (w.setRow g (cur.toList.take (len*size)++zs++cur.toList.drop (len*size+zs.length)).toArray):=by generalize a.eval=ρ at h2 j2 |-;simp [execOp,ho,resolve,invoke,builtin,h2,j2,hr,Result.andThen]
 unfold Oper.wp;rw [he,Oper.upon_value,hd];obtain ⟨l',eQ⟩:∃ l',l'=l.take len++((l.drop lo2).take len2++l.drop (len+len2)):=⟨_,rfl⟩
 have cI:l'.length=l.length:=by rw [eQ];simp;omega
 refine hK _ _ ?_;rw [<-eQ]
 suffices hG:SimG w0 U0 nt ((n,.mrow e size l')::s) a (w.setRow g (cur.toList.take (len*size)++zs++cur.toList.drop (len*size+zs.length)).toArray) D hv from ⟨_,_,hG.put (bL hn) (bL h5) ⟨kN,gU⟩⟩
 refine h.store (av := .mrow e size l') kG hm (by simp) (by simp) rfl (fun g' hn o _=>hn o (by simp)) (by simp) f9 f2 fun w' hw bC=>?_;have gV:l=l.take len++((l.drop len).take len2++(l.drop len).drop len2):=by rw [take_append_drop,take_append_drop]
 have g4':=g4;rw [gV,map_append,map_append] at g4';obtain ⟨y1,r1,e1,s1,s2⟩:=w8 g4';obtain ⟨y2,y3,e2,s3,s4⟩:=w8 s2;have nO:y1.length=len*size:=by rw [C9 (n:=CV.size) (fun c _ xs h=>h.len) s1,s5 (fun c hc=>g3 c (mem_of_mem_take hc)),length_take,Nat.min_eq_left (by omega)]
 have jF:y2.length=len2*size:=by rw [C9 (n:=CV.size) (fun c _ xs h=>h.len) s3,s5 (fun c hc=>g3 c (mem_of_mem_drop (mem_of_mem_take hc))),length_take,List.length_drop,Nat.min_eq_left (by omega)]
 have hy3:y1.length+(y2.length+y3.length)=l.length*size:=by have:=jN;rw [e1,e2] at this;simpa using this
 have eW:cur.toList=y1++(y2++(y3++cur.toList.drop (l.length*size))):=by
  conv=>lhs;rw [<-take_append_drop (l.length*size) cur.toList,f7,e1,e2]
  simp
 have cQ:cur.toList.take (len*size)++zs++cur.toList.drop (len*size+zs.length)=(y1++(zs++y3))++cur.toList.drop (l.length*size):=by
  have t1:cur.toList.take (len*size)=y1:=by rw [eW,<-nO];simp
  have t2:cur.toList.drop (len*size+zs.length)=y3++cur.toList.drop (l.length*size):=by
   rw [cZ,<-nO,<-jF]
   conv=>lhs;rw [eW]
   rw [<-List.append_assoc,List.drop_append_of_le_length (by simp)];simp
  rw [t1,t2];simp
 rw [cQ] at hw;refine ⟨y1++(zs++y3),⟨?_,.inr ⟨g,cap,_,?_,Nat.zero_le _,hw,?_,f4,?_,?_⟩⟩,g2,fun x hx=>?_,?_⟩
 ·show _=l'.length*size;rw [cI];simp only [length_append,cZ];omega
 ·show hv n = .slice _ l'.length cap;rw [cI];exact f1
 ·show l'.length<=cap;rw [cI];exact f3
 ·have:=congrArg List.length eW;rw [Array.length_toList,f6] at this;simp only [List.size_toArray,length_append,cZ] at this |-;show _=cap*size;omega
 ·show List.take (l'.length*size) _=_;rw [cI,List.take_append_of_le_length (by simp only [length_append,cZ];omega),List.take_of_length_le (by simp only [length_append,cZ];omega)]
 ·have hx:x∈l':=hx;rw [eQ,mem_append,mem_append] at hx;rcases hx with hx | hx | hx
  ·exact g3 x (mem_of_mem_take hx)
  ·exact g3 x (mem_of_mem_drop (mem_of_mem_take hx))
  ·exact g3 x (mem_of_mem_drop hx)
 ·show Sq (l'.map fun c=>Rep (Us w0 U0 D) w' c) _;rw [eQ,map_append,map_append];refine B9 (Sq.keep bC s1) (B9 (Sq.keep bC t3) ?_);rw [<-List.drop_drop];exact Sq.keep bC s4
theorem zbA {P:Program} {w0:World} {U0:UX} {nt:Nat} {ops:Array Oper} {o:Oper} {S:Nat->Option AV} {gs:List Nat} {d:Nat} {x:Operand} {y:Operand} {t:Nat} {e:Nat} {size:Nat} {bytes:Nat} {zv:Value} {l:List CV} {n} {len} {lo2} {len2} (p:Gd w0 U0 nt ops o gs S:=by exact gN rfl) (q:o.dst=some d:=by exact rfl) (r:Nat.blt d nt=true:=by exact rfl) (z:Nat.blt d 100000=true:=by exact rfl) (A:o.op = .call { callee := .builtin .append,args := #[x,y],argTypes := #[t,t] }:=by exact rfl) (B:P.underlying t=some (.slice e):=by exact rfl) (C:(P.info? e).map (fun i=>(i.zero,i.size,i.bytes))=some (some zv,size,bytes):=by exact rfl) (E:ev S x=some (.sl n 0 len size):=by exact rfl) (F:ev S y=some (.sl n lo2 len2 size):=by exact rfl) (G:S n=some (.mrow e size l):=by exact rfl) (H:len+len2<=l.length:=by first | rfl | omega | (simp only [length_set,length_map,length_append,length_cons,length_nil]<;>omega) | (simp<;>omega)) (kL:lo2+len2<=l.length:=by first | rfl | omega | (simp only [length_set,length_map,length_append,length_cons,length_nil]<;>omega) | (simp<;>omega)):AOp P w0 U0 nt ops o (gs++(rd x++(rd y++[n]))) [] S [(d,.sl n 0 (len+len2) size),(n,.mrow e size (l.take len++((l.drop lo2).take len2++l.drop (len+len2))))]:=c1g p q r z A B C E F G H kL
end
def a5l:Value->Nat->Value
 | .slice ao _ cap,len => .slice ao len cap
 | v,_=>v
def b4W (P:Program) (f:FuncId) (pre:AS) (n1 n2:Nat) (args:Value->Value->List AV) (r:Value->Value->AV) (post:AS):Prop:=
 a9T P f/\∀ (U:UX) (w:World) (hv:Nat->Value) (a0:Act) (vs:List Value),(∀ k v,U.f k=some v->l6 (kO pre) k=true)->SimG w U 0 pre a0 w (fun _ _=>False) hv->AVReps (Us w U (fun _ _=>False)) w hv (a8 pre) (args (hv n1) (hv n2)) vs ->
  Calls P f vs.toArray w fun e w'=>∃ v D' kH a',e = .returned v/\SimG w U 0 post a' w' D' kH/\AVRep (Us w U D') w' kH (a8 post) (r (hv n1) (hv n2)) v
section
variable {P:Program} {w0:World} {U0:UX} {nt:Nat} {ops:Array Oper} {o:Oper} {S:Nat->Option AV} {gs:List Nat} {d:Nat} {s:AS} {a:Act} {w:World} {D:Nat->Nat->Prop} {hv:Nat->Value}
theorem b6V (d1 n1 d2 n2 : Nat) {f : FuncId} {fn : Func} {c : Code} {pre post : AS} {args : Value → Value → List AV} {r : Value → Value → AV} (hf : P.funcs[f]? = some fn) (hn : fn.ntmps = nt) (bF : (fn.name == "runtime.NumGoroutine") = false) (hb : fn.body = some c) (hl : ∀ v1 v2, Nat.ble (args v1 v2).length nt = true) (lM : (Nat.blt d1 nt && Nat.blt d2 nt) = true) (eT : (Nat.ble 200000 n1 && Nat.blt n1 450000 && (Nat.ble 200000 n2 && Nat.blt n2 450000)) = true) (dO : Nat.blt nt 100000 = true) (bM : (kO pre).all (Nat.ble 100000) = true) (gF : (kO post).all (Nat.ble 100000) = true)
  (h:∀ (v1 v2:Value) (w:World) (U:UX),(∀ k v,U.f k=some v->l6 (kO pre) k=true)->AWp P w U nt c (fun e s'=>(e = .normal\/e = .ret)/\c1y P w U nt fn s' (r v1 v2) post) ((d1,.hdl v1 n1)::(d2,.hdl v2 n2)::(F7 (args v1 v2) 0++pre))):b4W P f pre n1 n2 args r post:=by
 refine ⟨C7 hf bF (by rw [hb];rfl),fun U w hv a0 vs hU gZ hargs=>?_⟩;have kF:=hargs.len;refine calls_of_wp hf hb ?_;have cV:=Nat.le_of_ble_eq_true (hl (hv n1) (hv n2));have dO:=bL dO;have kV:∀ {k av},look pre k=some av->100000<=k:=fun {k av} h1=>by rw [all_eq_true] at bM;exact Nat.le_of_ble_eq_true (bM k (f0 h1))
 have kC:∀ {k},100000<=k->look (F7 (args (hv n1) (hv n2)) 0++pre) k=look pre k:=fun {k} h1=>by
  rw [b5];cases h2:look (F7 (args (hv n1) (hv n2)) 0) k with
  | none=>rfl
  | some av =>
   obtain ⟨_,h3⟩:=x7 h2;rw [Nat.sub_zero,getElem?_eq_none (by omega)] at h3;cases h3
 have kK:a8 (F7 (args (hv n1) (hv n2)) 0++pre)=a8 pre:=by
  funext n;unfold a8 r7;apply propext;constructor
  ·rintro (h1 | ⟨e,h1,h2,h3⟩)
   ·exact .inl h1
   ·rw [kC (by omega)] at h1;exact .inr ⟨e,h1,h2,h3⟩
  ·rintro (h1 | ⟨e,h1,h2,h3⟩)
   ·exact .inl h1
   ·exact .inr ⟨e,by rw [kC (by omega)];exact h1,h2,h3⟩
 have cX:SimG w U nt (F7 (args (hv n1) (hv n2)) 0++pre) { tmps:=vs.toArray++Array.replicate (fn.ntmps-vs.toArray.size) undef,defers:=[] } w (fun _ _=>False) hv:=by
  refine ⟨gZ.below,rfl,by simp [hn];omega,fun d av h1 h2=>?_,fun n o av h1 h2 h3 h4=>?_,fun n o o' av av' h1 h2=>?_,fun k av h1 h2=>?_,fun k av g h1 h2=>?_,fun k k' av av' g h1 h2 h3 h4=>?_,gZ.fix,fun b o hd=>hd.elim⟩
  ·rw [b5] at h1;cases h3:look (F7 (args (hv n1) (hv n2)) 0) d with
   | none =>
    rw [h3] at h1;have:=kV h1;omega
   | some av' =>
    rw [h3] at h1;cases h1;obtain ⟨_,h4⟩:=x7 h3;rw [Nat.sub_zero] at h4;obtain ⟨v,h6,h7⟩:=hargs.at h4;have hdl:d<vs.length:=by
     rcases Nat.lt_or_ge d vs.length with h | h
     ·exact h
     ·rw [getElem?_eq_none h] at h6;cases h6
    rw [kK];refine ⟨v,?_,h7⟩;rw [Array.getElem?_append_left (by simpa using hdl)];simpa using h6
  ·rw [kC (by unfold d9;omega)] at h1;rw [kC (by omega)] at h3;rw [kK];exact gZ.fld n o av h1 h2 h3 h4
  ·rw [kC (by unfold d9;omega)] at h1 h2;exact gZ.fdis n o o' av av' h1 h2
  ·rw [kC h2.1] at h1;rw [kK];exact gZ.obj k av h1 h2
  ·rw [kC h2.1] at h1;exact gZ.blk k av g h1 h2
  ·rw [kC h3.1] at h1;rw [kC h4.1] at h2;exact gZ.disj k k' av av' g h1 h2 h3 h4
 simp only [Bool.and_eq_true] at lM eT;have fY:d1<nt:=bL lM.1;have bB:d2<nt:=bL lM.2;have jU:RN n1:=⟨Nat.le_of_ble_eq_true eT.1.1,bL eT.1.2⟩
 have jB:RN n2:=⟨Nat.le_of_ble_eq_true eT.2.1,bL eT.2.2⟩
 have dZ:=cX.know (d:=d2) (av := .hdl (hv n2) n2) (by omega) (Array.getElem?_eq_getElem (by rw [cX.size];exact bB)) ⟨jB,rfl⟩;have fP:=dZ.know (d:=d1) (av := .hdl (hv n1) n1) (by omega) (Array.getElem?_eq_getElem (by rw [cX.size];exact fY)) ⟨jU,rfl⟩;have hs:Sim w U nt ((d1,.hdl (hv n1) n1)::(d2,.hdl (hv n2) n2)::(F7 (args (hv n1) (hv n2)) 0++pre)) { tmps:=vs.toArray++Array.replicate (fn.ntmps-vs.toArray.size) undef,defers:=[] } w:=⟨_,_,fP⟩
 refine wp_mono ((h (hv n1) (hv n2) w U hU ⟨none,[]⟩ _ w hs).wp rfl (fun e a w ⟨s,_,h⟩=>h.df)) ?_;rintro e a' w' ⟨s',⟨h1,s2,g1,g2,g3⟩,h3⟩;obtain ⟨D',kH,h4⟩:=g1 a' w' h3;obtain ⟨v,h5,h6⟩:=X5 h4 g2;have hS:=h4.sub g3.sub;have bG:∀ {k av},look post k=some av->100000<=k:=fun {k av} h1=>by rw [all_eq_true] at gF;exact Nat.le_of_ble_eq_true (gF k (f0 h1))
 have mT:SimG w U 0 post ⟨#[],[]⟩ w' D' kH:=⟨hS.below,rfl,rfl,fun d av h7 h8=>by have:=bG h7;omega,hS.fld,hS.fdis,hS.obj,hS.blk,hS.disj,hS.fix,hS.dlt⟩
 rcases h1 with rfl | rfl
 ·exact ⟨h4.dfr,v,h5,v,D',kH,_,rfl,mT,h6.move (fun _ _ _ h1 h2=>⟨h1,h2⟩) (fun _ h7=>h7.imp id fun ⟨e,he⟩=>⟨e,g3.sub _ _ he.1,he.2⟩) fun _=>rfl⟩
 ·exact ⟨h4.dfr,v,h5,v,D',kH,_,rfl,mT,h6.move (fun _ _ _ h1 h2=>⟨h1,h2⟩) (fun _ h7=>h7.imp id fun ⟨e,he⟩=>⟨e,g3.sub _ _ he.1,he.2⟩) fun _=>rfl⟩
theorem b9P (dh1 dh2:Nat) {f:FuncId} {xs:Array Operand} {ts:Array TypeId} {ar:Value->Value->List AV} {rr:Value->Value->AV} {pre post:AS} {n1 n2:Nat} {u1 u2:Value} (hg:Gd w0 U0 nt ops o gs S) (hd:o.dst=some d) (hn:Nat.blt d nt=true) (h5:Nat.blt d 100000=true)
  (ho:o.op = .call { callee := .value (.func f),args:=xs,argTypes:=ts }) (hc:b4W P f pre n1 n2 ar rr post) (qC:S dh1=some (.hdl u1 n1)) (hh2:S dh2=some (.hdl u2 n2)) (hdh:(Nat.blt dh1 100000&&Nat.blt dh2 100000)=true) (hx:a7r S xs.toList=some (ar u1 u2)) (hp:SubS S pre) (hl:pre.all E2=true) (hq:post.all (F6 (kO post))=true) (iN:(kO pre).all (l6 (kO post))=true) (hr:a5w (kO post) (rr u1 u2)=true) (hnb:∀ k v,U0.f k=some v->l6 (kO post) k=true->l6 (kO pre) k=true) :
  AOp P w0 U0 nt ops o (gs++(rdl xs.toList++(kO pre++[dh1,dh2]))) (E4 (kO pre) (kO post) (kO post)) S ((d,rr u1 u2)::post):=by
 intro s hs hN a w ⟨D,hv,h⟩ Q K hK;rw [if_pos (hg s (fun k hk=>hs k (mem_append_left _ hk)) a w D hv h)];have hargs:=a1x h (fun k hk=>hs k (mem_append_right _ (mem_append_left _ hk))) hx;have kQ:Sub s pre:=fun k av h1=>(hs k (mem_append_right _ (mem_append_right _ (mem_append_left _ (f0 h1))))).trans (hp.look h1);obtain ⟨V,v1,v2,v3,v4,v5,v6⟩:=h.lend kQ hl;obtain ⟨h1,h2⟩:=hc;rw [Bool.and_eq_true] at hdh;obtain ⟨_,_,lT⟩:∃ v,a.tmps[dh1]?=some v/\RN n1/\hv n1=u1:=h.slot dh1 _ ((hs dh1 (by simp)).trans qC) (bL hdh.1);obtain ⟨_,_,oM⟩:∃ v,a.tmps[dh2]?=some v/\RN n2/\hv n2=u2:=h.slot dh2 _ ((hs dh2 (by simp)).trans hh2) (bL hdh.2);have h2:=fun V a0 vs q1 q2 q3=>h2 V w hv a0 vs q1 q2 q3;rw [lT.2,oM.2] at h2;have gD:=h2 V ⟨#[],[]⟩ _ v1 v2 (hargs.imp fun c _ v jE=>jE.move v6 (fun _ h3=>h3.imp id fun ⟨e,he⟩=>⟨e,kQ _ _ he.1,he.2⟩) fun _=>rfl);have he:(execOp a.eval o).run P w = .ok (.enter f (xs.toList.map a.eval).toArray) w:=by
  have hf:a.eval (.func f) = .func (.func f) #[] #[]:=rfl;have dR:=h1 (xs.map a.eval) w;have cL:(xs.toList.map a.eval).toArray=xs.map a.eval:=by apply Array.ext';simp
  rw [cL];generalize a.eval=ρ at hf dR |-;simp [execOp,ho,resolve,invoke,Deferred.ofValue,hf,dR]
 unfold Oper.wp;rw [he,Oper.upon_enter];refine gD.mono ?_;rintro e w' ⟨v,D',kH,a',rfl,h6,h7⟩;rw [hd];obtain ⟨D2,gU,h8,h9⟩:=h.back kQ hl hq iN hN hnb v3 v4 v5 v2 h6;exact hK _ _ ⟨D2,gU,h8.put (bL hn) (bL h5) (h9.1 (rr u1 u2) v hr h7)⟩
theorem zbD {P:Program} {w0:World} {U0:UX} {nt:Nat} {ops:Array Oper} {o:Oper} {S:Nat->Option AV} {gs:List Nat} {d:Nat} {f:FuncId} {xs:Array Operand} {ts:Array TypeId} {ar:Value->Value->List AV} {rr:Value->Value->AV} {pre:AS} {post:AS} {n1:Nat} {n2:Nat} {u1:Value} {u2:Value} (dh1:Nat) (dh2:Nat) (p:Gd w0 U0 nt ops o gs S:=by exact gN rfl) (q:o.dst=some d:=by exact rfl) (r:Nat.blt d nt=true:=by exact rfl) (t:Nat.blt d 100000=true:=by exact rfl) (u:o.op = .call { callee := .value (.func f),args:=xs,argTypes:=ts }:=by exact rfl) (x:b4W P f pre n1 n2 ar rr post) (y:S dh1=some (.hdl u1 n1):=by exact rfl) (z:S dh2=some (.hdl u2 n2):=by exact rfl) (A:(Nat.blt dh1 100000&&Nat.blt dh2 100000)=true:=by exact rfl) (B:a7r S xs.toList=some (ar u1 u2):=by exact rfl) (C:SubS S pre:=by repeat (first | exact trivial | refine ⟨rfl,?_⟩)) (E:pre.all E2=true:=by first | rfl | kernel_rfl) (F:post.all (F6 (kO post))=true:=by first | rfl | kernel_rfl) (G:(kO pre).all (l6 (kO post))=true:=by first | rfl | kernel_rfl) (H:a5w (kO post) (rr u1 u2)=true:=by first | rfl | kernel_rfl) (hnb:∀ k v,U0.f k=some v->l6 (kO post) k=true->l6 (kO pre) k=true):AOp P w0 U0 nt ops o (gs++(rdl xs.toList++(kO pre++[dh1,dh2]))) (E4 (kO pre) (kO post) (kO post)) S ((d,rr u1 u2)::post):=b9P dh1 dh2 p q r t u x y z A B C E F G H hnb
theorem b4m (nn:Nat) (hg:Gd w0 U0 nt ops o gs S) (hd:o.dst=some d) (hn:Nat.blt d nt=true) (h5:Nat.blt d 100000=true) {t e:TypeId} {len:Nat} {parts:Array (Nat×Operand)} {ie:TypeInfo} {z:Value} {cs:List CV} {sz:Nat} (ho:o.op = .buildSlice t len parts) (hu:P.underlying t=some (.slice e)) (hi:P.info? e=some ie) (nQ:ie.size=sz) (hz:ie.zero=some z) (eS:a2X parts.toList 0=true) (hx:V1 S (parts.toList.map (·.2))=some cs) (hl:Nat.beq cs.length len=true) (kD:a2W cs sz=true) (hp:Nat.blt 0 (len*sz)=true) (lJ:Nat.ble (len*sz) 16777216=true) (bR:(Nat.ble 200000 nn&&Nat.blt nn 400000)=true) :
  AOp P w0 U0 nt ops o (gs++rdl (parts.toList.map (·.2))) [(nn,[])] S [(d,.sl nn 0 len sz),(nn,.mrow e sz cs)]:=by
 subst nQ;intro s hs hN a w ⟨D,hv,h⟩ Q K hK;rw [if_pos (hg s (fun k hk=>hs k (mem_append_left _ hk)) a w D hv h)];have mM:=D7 h (fun k hk=>hs k (mem_append_right _ hk)) hx;rw [map_map] at mM;have kF:cs.length=len:=Nat.eq_of_beq_eq_true hl;have bQ:=mM.len;have gY:=bL hp;have cX:0<ie.size:=Nat.pos_of_ne_zero fun e=>by rw [e] at gY;simp at gY
 have gT:=S3 mM (sZ kD);obtain ⟨vs,cF⟩:∃ vs,vs=parts.toList.map (a.eval∘(·.2)):=⟨_,rfl⟩
 rw [<-cF] at mM bQ gT;obtain ⟨r,hf,lH,uT⟩:=Great.fill_dense cX vs 0 ((Array.range (len*ie.size)).map (z.cells[·% z.cells.size]!)) gT (by simp;rw [bQ,kF];exact Nat.le_refl _);have hr:r.toList=(vs.map fun v=>v.cells.toList).flatten:=by
  apply List.ext_getElem?;intro k;rw [H4 cX _ (by intro v kH;rw [mem_map] at kH;obtain ⟨u,hu,rfl⟩:=kH;simpa using gT u hu)];have:=uT k;rw [<-Array.getElem?_toList] at this;simp only [Nat.zero_mul,Nat.zero_le,true_and,Nat.zero_add] at this;rw [this];by_cases hk:k<vs.length*ie.size
  ·rw [if_pos hk];simp only [Nat.sub_zero,getElem?_map];cases vs[k / ie.size]?<;>simp
  ·rw [if_neg hk,Array.getElem?_eq_none (by simp;rw [<-kF,<-bQ];omega)];rw [getElem?_map,getElem?_eq_none (by rw [Nat.le_div_iff_mul_le cX];omega)];rfl
 have he:(execOp a.eval o).run P w = .ok (.value (.slice (some ⟨w.heap.size,0,none⟩) len len)) (w.alloc (.cells r e)):=by
  have uV:=Nat.le_of_ble_eq_true lJ;have cN:(parts.map fun x=>(x.1,a.eval x.2)).toList=(vs.zipIdx 0).map fun x=>(x.2,x.1):=by rw [Array.toList_map,R9 eS a.eval,cF];rfl
  have:=run_buildSlice (P:=P) w t e len (parts.map fun x=>(x.1,a.eval x.2)) r ie z hu hi hz (by omega) (by omega) (by rw [cN];exact hf);generalize a.eval=ρ at this |-;simp [execOp,ho,this]
 unfold Oper.wp;rw [he,Oper.upon_value,hd];have rY:r.size=len*ie.size:=by rw [lH];simp
 have jX:len<=maxLen:=by have:=Nat.le_of_ble_eq_true lJ;have:len<=len*ie.size:=Nat.le_mul_of_pos_right _ cX;unfold maxLen;omega
 have dW:=rnB bR;have kT:=World.ownsRow_lit (e:=e) (size:=ie.size) (base:=w.heap.size) w r len (Nat.le_refl _) jX rY;have bC:∀ b o u,Us w0 U0 D b o->w.cell? ⟨b,o,none⟩=some u->Us w0 U0 D b o/\(w.alloc (.cells r e)).cell? ⟨b,o,none⟩=some u:=fun b o u hu hc=>by refine ⟨hu,?_⟩;have kA:b<w.heap.size:=World.block_lt_of_cell? w _ hc;rw [World.cell?_of_block (w:=w) ((bA (Below.refl w.heap.size w) (.cells r e)).block b kA)];exact hc
 have hG:=h.newrow (avn := .mrow e ie.size cs) (v' := .slice (some ⟨w.heap.size,0,none⟩) len len) (D':=D) (X:=fun _=>False) (n:=nn) dW (hN (nn,[]) (by simp)).nr (by simp) ⟨(bA (Below.refl w.heap.size w) (.cells r e)).os,(bA (Below.refl w.heap.size w) (.cells r e)).tape,(bA (Below.refl w.heap.size w) (.cells r e)).output,(bA (Below.refl w.heap.size w) (.cells r e)).size,fun b hb hx=>(bA (Below.refl w.heap.size w) (.cells r e)).block b hb⟩ (fun b hb=>hb.elim) (fun g hg=>by
   have hg:(Value.slice (some ⟨w.heap.size,0,none⟩) len len).ownBlock=some g:=hg;refine ⟨.inr (kT.lt g hg).1,(kT.lt g hg).2,fun o _ hd=>?_⟩;have:=(kT.lt g hg).1;have:=h.dlt _ _ hd;omega) (fun b o hd => .inl hd) (fun b o hd=>Nat.lt_of_lt_of_le (h.dlt _ _ hd) (bA (Below.refl w.heap.size w) (.cells r e)).size) bC (fun hv lv=>by
   refine ⟨r.toList,?_,cX,sZ kD,?_⟩
   ·show (w.alloc (.cells r e)).ownsRow 0 e ie.size _ cs.length _;rw [kF];exact s7 kT (Nat.zero_le _)
   ·rw [hr];exact Sq.keep bC (M8 mM))
 refine hK _ _ ⟨_,_,hG.put (bL hn) (bL h5) ⟨RW.rn dW,?_⟩⟩;show SlV ((fun x=>if x=nn then Value.slice (some ⟨w.heap.size,0,none⟩) len len else hv x) nn) 0 len ie.size _;simp only [if_true];exact N7 rfl (Nat.le_refl _) (.inr ⟨_,rfl⟩)
theorem zbE {P:Program} {w0:World} {U0:UX} {nt:Nat} {ops:Array Oper} {o:Oper} {S:Nat->Option AV} {gs:List Nat} {d:Nat} {t:TypeId} {e:TypeId} {len:Nat} {parts:Array (Nat×Operand)} {ie:TypeInfo} {z:Value} {cs:List CV} {sz:Nat} (nn:Nat) (p:Gd w0 U0 nt ops o gs S:=by exact gN rfl) (q:o.dst=some d:=by exact rfl) (y:Nat.blt d nt=true:=by exact rfl) (A:Nat.blt d 100000=true:=by exact rfl) (B:o.op = .buildSlice t len parts:=by exact rfl) (C:P.underlying t=some (.slice e):=by exact rfl) (E:P.info? e=some ie:=by exact rfl) (F:ie.size=sz:=by exact rfl) (G:ie.zero=some z:=by exact rfl) (H:a2X parts.toList 0=true:=by exact rfl) (hx:V1 S (parts.toList.map (·.2))=some cs:=by exact rfl) (hl:Nat.beq cs.length len=true:=by exact rfl) (kD:a2W cs sz=true:=by exact rfl) (hp:Nat.blt 0 (len*sz)=true:=by exact rfl) (lJ:Nat.ble (len*sz) 16777216=true:=by exact rfl) (bR:(Nat.ble 200000 nn&&Nat.blt nn 400000)=true:=by exact rfl):AOp P w0 U0 nt ops o (gs++rdl (parts.toList.map (·.2))) [(nn,[])] S [(d,.sl nn 0 len sz),(nn,.mrow e sz cs)]:=b4m nn p q y A B C E F G H hx hl kD hp lJ bR
theorem AWp.hdl {c:Code} {Q:Exit->AS->Prop} (d n:Nat) (hd:Nat.blt d nt=true) (h5:Nat.blt d 100000=true) (hn:(Nat.ble 200000 n&&Nat.blt n 450000)=true) (h:∀ v,AWp P w0 U0 nt c Q ((d,.hdl v n)::s)):AWp P w0 U0 nt c Q s:=by
 intro M a w ⟨D,hv,hs⟩;have eS:d<a.tmps.size:=by rw [hs.size];exact bL hd
 exact h (hv n) M a w ⟨D,hv,hs.know (bL h5) (Array.getElem?_eq_getElem eS) ⟨rnF hn,rfl⟩⟩
theorem a4c (d n dh:Nat) {len z:Nat} {v:Value} (h1:look s d=some (.sl n 0 len z)) (h2:look s dh=some (.hdl v n)) (hd:(Nat.blt d 100000&&Nat.blt dh 100000)=true):Wk w0 U0 nt s ((d,.val (.sc (a5l v len)))::s):=by
 rintro a w ⟨D,hv,h⟩;rw [Bool.and_eq_true] at hd;obtain ⟨u,g1,kN,ao,m,cap,ao',e1,e2,e3,e4,e5,e6⟩:∃ u,a.tmps[d]?=some u/\RN n/\SlV (hv n) 0 len z u:=h.slot d _ h1 (bL hd.1);obtain ⟨_,_,_,hx⟩:∃ u,a.tmps[dh]?=some u/\RN n/\hv n=v:=h.slot dh _ h2 (bL hd.2);have e2:u = .slice ao len cap:=by rw [e2,e4 rfl];rfl
 refine ⟨D,hv,h.know (bL hd.1) g1 ?_⟩;rw [<-hx,e1];show AVRep _ _ _ _ (.val (.sc (.slice ao len cap))) u;rw [e2];exact q9 rfl
theorem b2E (d n dh len:Nat) {e z:Nat} {l:List CV} {v:Value} (h1:look s d=some (.val (.sc (a5l v len)))) (h2:look s dh=some (.hdl v n)) (hm:look s n=some (.mrow e z l)) (hd:(Nat.blt d 100000&&Nat.blt dh 100000)=true) (hl:len<=l.length):Wk w0 U0 nt s ((d,.sl n 0 len z)::s):=by
 rintro a w ⟨D,hv,h⟩;rw [Bool.and_eq_true] at hd;obtain ⟨u,g1,g2⟩:=h.slot d _ h1 (bL hd.1);obtain ⟨_,_,kN,hx⟩:∃ u,a.tmps[dh]?=some u/\RN n/\hv n=v:=h.slot dh _ h2 (bL hd.2);obtain ⟨xs,f1,_⟩:=h.mrow hm kN;obtain ⟨ao,cap,e1,e2,_⟩:=Y0 f1;have hu:u=a5l v len:=(n7.1 g2.1).1;refine ⟨D,hv,h.know (bL hd.1) g1 ⟨kN,?_⟩⟩;show SlV (hv n) 0 len z u;rw [hu,<-hx,e1];exact ⟨ao,l.length,cap,ao,rfl,rfl,by omega,fun _=>rfl,fun _ g fE=>by rw [fE,Nat.zero_mul],Iff.rfl⟩
def c1B:UX:=⟨fun _ _=>True,fun _=>False,fun _=>none,fun _ _ h=>by cases h⟩
theorem SimG.view (h:SimG w0 U0 nt s a w D hv) {n e z len:Nat} {l:List CV} (hm:look s n=some (.mrow e z l)) (kN:RN n) (hl:len<=l.length):VRep (fun _ _=>True) w (.lst (l.take len)) (a5l (hv n) len):=by
 obtain ⟨xs,ho,hz,kD,rX⟩:=h.mrow hm kN;obtain ⟨va,vc,ev,e2,e3,e4,e5⟩:=K0 ho;rw [ev];have gV:l=l.take len++l.drop len:=(take_append_drop _ _).symm;have q:=rX;rw [gV,map_append] at q;obtain ⟨y1,y2,ey,s1,s2⟩:=w8 q;refine l4.2 ⟨va,len,vc,rfl,by rw [length_take,Nat.min_eq_left hl],by omega,e3,(fun h=>⟨by have:=(e4 h).1;omega,(e4 h).2⟩),y1,?_,s1.keep fun b o v _ hc=>⟨trivial,hc⟩⟩;rcases e5 with h0 | ⟨b,off,ha,kA,hc⟩
 ·left;have:=congrArg List.length ey;rw [h0,length_append] at this;exact List.eq_nil_of_length_eq_zero (by simp at this;omega)
 ·refine .inr ⟨b,off,ha,fun i hi=>⟨trivial,?_⟩⟩;rw [hc i (by rw [ey,length_append];omega),ey,List.getElem?_append_left hi]
theorem SimG.viewBox (h:SimG w0 U0 nt s a w D hv) (n:Nat) {v:Value} {k q p k1 k2 k3} {c:CV} (hb:look s (100000+n)=some ⟨5,.sc v,k,q,p⟩) (hs:look s n=some ⟨2,⟨k1,k2,k3⟩,n,0,[]⟩) (hn:n<100000) (hc:c.k≠2) (gU:VRep (fun _ _=>True) w c v):∃ u,a.tmps[n]?=some u/\VRep (fun _ _=>True) w (.ptr c) u:=by
 obtain ⟨g,xs,ty,g0,g1,g2,g5⟩:=h.box hb (by omega);obtain ⟨v',g6,g7⟩:=h.slot n _ hs hn;have g7:v' = .pointer (some ⟨o6 (hv (100000+n)),0,none⟩):=g7.2;have rW:o6 (hv (100000+n))=g:=by rw [g0];rfl
 rw [rW] at g7;obtain rfl:xs=[v]:=(N0.1 g2).1;refine ⟨v',g6,?_⟩;rw [g7];refine X7.2 ⟨g,0,[v],rfl,?_,fun i hi=>⟨trivial,?_⟩⟩
 ·unfold VRep at gU;rw [if_neg hc] at gU;exact gU
 have:=F4 (ys:=[]) (us:=[]) g1 (by simp) i hi;simpa using this
theorem b5e {c:Code} {Q:Exit->AS->Prop} {R:Exit->Prop} (vs:List (Nat×CV)) (dr:Nat) (x:Value) (objs:AS)
  (xH:∀ a w D hv,SimG w0 U0 nt s a w D hv->∀ q∈vs,∃ v,a.tmps[q.1]?=some v/\VRep (fun _ _=>True) w q.2 v)
  (h:∀ w,AWp P w c1B nt c (fun e s'=>R e/\look s' dr=some (.val (.sc x))) (vs.map fun q=>(q.1,.val q.2)))
  (kQ:SubL s objs) (hk:(kO objs).all (Nat.ble 100000)=true) (hvk:(vs.all fun q=>Nat.blt q.1 100000)=true) (jY:Nat.blt dr 100000=true) (hQ:∀ e,R e->Q e ((dr,.val (.sc x))::objs)):AWp P w0 U0 nt c Q s:=by
 intro M a w ⟨D,hv,hs⟩;have kV:∀ {k av},look (vs.map fun q=>(q.1,AV.val q.2)) k=some av->∃ q∈vs,k=q.1/\av = .val q.2:=fun {k av} h1=>by obtain ⟨q,hq,he⟩:=mem_map.1 (B7 h1);injection he with e1 e2;exact ⟨q,hq,e1.symm,e2.symm⟩
 rw [all_eq_true] at hvk hk;have kA:∀ {k av},look (vs.map fun q=>(q.1,AV.val q.2)) k=some av->k<100000:=fun {k av} h1=>by obtain ⟨q,hq,rfl,_⟩:=kV h1;exact bL (hvk q hq)
 have hS:Sim w c1B nt (vs.map fun q=>(q.1,AV.val q.2)) a w:=by
  refine ⟨fun _ _=>False,hv,BelowX.refl _ _,hs.dfr,hs.size,fun d av h1 h2=>?_,fun n o av h1 h2 h3 h4=>?_,fun n o o' av av' h1 h2=>?_,fun k av h1 h2=>?_,fun k av g h1 h2=>?_,fun k k' av av' g h1 h2 h3 h4=>?_,fun k v h1=>(by cases h1),fun b o hd=>hd.elim⟩
  ·obtain ⟨q,hq,rfl,rfl⟩:=kV h1;obtain ⟨v,g1,g2⟩:=xH a w D hv hs q hq;exact ⟨v,g1,l5 (g2.keep fun b o v _ hc=>⟨.inl ⟨World.block_lt_of_cell? w _ hc,trivial,fun h=>h⟩,hc⟩)⟩
  ·have:=kA h1;unfold d9 at this;omega
  ·have:=kA h1;unfold d9 at this;omega
  ·have:=kA h1;have:=h2.1;omega
  ·have:=kA h1;have:=h2.1;omega
  ·have:=kA h1;have:=h3.1;omega
 refine I3 (h w M a w hS) ?_;rintro e a' w' ⟨s',⟨hR,hx⟩,D',kH,g⟩;refine ⟨_,hQ e hR,D,hv,?_⟩;have hB:Below w.heap.size w w':=g.below.below fun k hk=>hk;have h1:=(hs.sub kQ.sub).grow' hB;have bG:∀ {k av},look objs k=some av->100000<=k:=fun {k av} h1=>Nat.le_of_ble_eq_true (hk k (f0 h1));have h2:SimG w0 U0 nt objs a' w' D hv:=⟨h1.below,g.dfr,g.size,fun d av h7 h8=>by have:=bG h7;omega,h1.fld,h1.fdis,h1.obj,h1.blk,h1.disj,h1.fix,h1.dlt⟩
 obtain ⟨v,k1,k2⟩:=g.slot dr _ hx (bL jY);obtain ⟨rfl,k3⟩:=n7.1 k2.1;exact h2.know (bL jY) k1 (q9 k3)
theorem b1u {W:World} {f:FuncId} {x:Value} {c2:CV} {e z nm N:Nat} {l:List CV} (h1:300000<=nm) (h2:nm<450000) (hN:N<=l.length) (h:AFun P W f [.lst (l.take N),c2] (.val (.sc x))):p9 P f [(nm,.mrow e z l)] [.sl nm 0 N z,.val c2] (.val (.sc x)) [(nm,.mrow e z l)]:=by
 refine ⟨h.1,fun U w hv a0 vs hU hp ha=>?_⟩;obtain ⟨u1,us1,rfl,a1,u2,us2,rfl,a2,a4⟩:=ha;have a4:us2=[]:=a4;subst a4;have kN:RN nm:=⟨by omega,by omega⟩
 have kC:look [(nm,AV.mrow e z l)] nm=some (.mrow e z l):=by rw [d8];simp
 have hvw:=hp.view kC kN hN;have a1:RN nm/\SlV (hv nm) 0 N z u1:=a1;obtain ⟨_,ao,m,cap,ao',s1,s2,s3,s4,_⟩:=a1;have e9:u1=a5l (hv nm) N:=by rw [s1,s2,s4 rfl];rfl
 refine (h.2.2.2 (fun _ _=>True) w _ trivial ⟨_,_,rfl,by rw [e9];exact hvw,_,_,rfl,a2.1.mono fun b o _=>trivial,rfl⟩).mono ?_;rintro e' w' ⟨v,rfl,hr,hB⟩;obtain ⟨rfl,h9⟩:=n7.1 hr;exact ⟨_,_,hv,a0,rfl,hp.grow' hB,q9 h9⟩
end
end Go.Proofs.YtglmoficcjphaaaGreat
