/-
 UnFns10 SmFns SmMath SmSym SmSym2 SmSym3 SmStab SmNorm UnPairs UnBig UnLaws UnMid SbRef7 SbRef7N UnRefW UnMidW SbVnt2 Un8A Un8B SbNormEq TmPlD KbMath KbMath2 KbMath3 OrMath KbSc KbFns KbFns2 KbFns3
-/
import Derived.Test.YteegmcfobgpemaaGreatMg7
import Derived.Test.YteegmcfobgpemaaGreatMg6
import Derived.Test.YteegmcfobgpemaaGreatMg4
import Derived.Test.YteegmcfobgpemaaGreatMg5
import Derived.Test.YteegmcfobgpemaaGreatMg2
import Derived.Test.YteegmcfobgpemaaGreatMg3
namespace Go.Proofs.YteegmcfobgpemaaGreat
open List (any_eq_true count_append flatMap_append flatMap_cons foldl_cons getD_eq_getElem?_getD getElem?_eq_getElem getElem?_eq_none length_append length_cons length_map length_nil map_append map_cons map_map mem_append mem_cons mem_cons_of_mem mem_flatMap mem_map mem_of_getElem? mem_singleton nodup_cons sum_cons)
open Go.RowKit
set_option linter.unusedVariables false
set_option linter.unusedSimpArgs false
set_option maxRecDepth 100000
noncomputable abbrev a9U (b ck:Nat) (bs:List Nat) (c:Cl):AS:=[(450001,.obj),(35500100,.sl 400001 0 c.ns.length 5),(35500101,.mref 300003),(35500102,.sl 300002 0 c.ps.length 2),(400001,.mrow 194 5 (c.ns.map Nd.cv)),(300003,.stm (c.vr.map vrv) b ck bs),(300002,.mrow 207 2 (c.ps.map psv))]
set_option maxHeartbeats 2000000 in
theorem b0S (b ck:Nat) (bs:List Nat) (vr:List (Int×Nat)) (ps:List (Nat×Nat)) (k:Nat) (ns:List Nd) (n:Nat) (r:List Nd×Nat) (hc:n9 k ns n=some r) (cS:upOk ns) (hn:n<ns.length) (hl:ns.length<=1000000):r5 Tryz.prog 156 (a9U b ck bs ⟨ns,vr,ps⟩) [.bp 350001 0 [],.val (.i (n:Int))] (.val (.i (r.2:Int))) (a9U b ck bs ⟨r.1,vr,ps⟩):=by
 refine l6 Tryz.func156 Tryz.ntmps156 rfl rfl rfl rfl rfl rfl ?_;intro w U hU;refine aS (aR ?_);refine nc ze ?_;refine aS (aB (t9 (fun j s=>∃ ns n,n9 j ns n=some r/\upOk ns/\n<ns.length/\ns.length<=1000000/\s=(0,AV.bp 350001 0 [])::(1,.val (.i (n:Int)))::a9U b ck bs ⟨ns,vr,ps⟩) (n:=k) (s':=(0,AV.bp 350001 0 [])::(1,.val (.i (n:Int)))::a9U b ck bs ⟨ns,vr,ps⟩) (a7 ⟨rfl,rfl,rfl,rfl,rfl,rfl,rfl,rfl,rfl,trivial⟩) ⟨ns,n,hc,cS,hn,hl,rfl⟩ ?_));rintro j s ⟨ns,n,hc,cS,hn,hl,rfl⟩;cases j with
 | zero=>cases hc
 | succ j =>
 rw [n9] at hc;obtain ⟨x,hx⟩:=P6 hn;have kS:=Nd.map_at hx;have oK:nU ns n=x.up:=by unfold nU;rw [r7 hx]
 have fZ:(ns.map Nd.cv).length=ns.length:=length_map ..;refine aS (aS (aR ?_));refine nc zl (nc z7 (nc zg (nc z8 (nc zl (nc (zO (k:=n)) (nc z5 (nc (zP (G:=kS)) (nc zl (nc z9 ?_)))))))));refine aC rfl (fun kE=>?_) (fun kE=>?_)
 ·have kE:x.up≠n:=by intro e;rw [e] at kE;simp at kE
  rw [if_neg (by rw [oK];exact kE)] at hc;have nL:x.up<ns.length:=by rw [<-oK];exact cS n hn
  obtain ⟨y,hy⟩:=P6 nL;have eM:=Nd.map_at hy;have vY:nU ns (nU ns n)=y.up:=by rw [oK];unfold nU;rw [r7 hy]
  rw [vY] at hc;have iW:y.up<ns.length:=by rw [<-vY];exact cS _ (by rw [oK];exact nL)
  refine aK ?_;refine aB (aS (aD (by kernel_rfl) (by kernel_rfl) ?_));refine nc zl (nc z7 (nc zg (nc z8 (nc zl (nc zl (nc z7 (nc zg (nc z8 (nc zl (nc z7 (nc zg (nc z8 (nc zl (nc (zO (k:=n)) (nc z5 (nc (zP (G:=kS)) (nc (zO (k:=x.up)) (nc z5 (nc (zP (G:=eM)) (nc (zO (k:=n)) (nc z5 (nc (zR (F:=kS)) ?_))))))))))))))))))))));refine ⟨by kernel_rfl,?_⟩;obtain ⟨ns1,h1⟩:∃ ns1,ns1=setUp ns n y.up:=⟨_,rfl⟩
  have cD:ns1.map Nd.cv=(ns.map Nd.cv).set n (Nd.cw { x with up:=y.up }):=by rw [h1];exact Q5 hx
  have eI:ns1.length=ns.length:=by rw [h1,H4]
  have iK:ns1[n]?=some { x with up:=y.up }:=by rw [h1];exact b0f hx
  have sO:=Nd.map_at iK;have sP:nU ns1 n=y.up:=by unfold nU;rw [r7 iK]
  rw [<-h1,sP] at hc;have vZ:(ns1.map Nd.cv).length=ns1.length:=length_map ..;refine AWp.wk (a7 (s':=(0,AV.bp 350001 0 [])::(1,.val (.i (n:Int)))::a9U b ck bs ⟨ns1,vr,ps⟩) ⟨rfl,rfl,rfl,?_,rfl,rfl,?_,rfl,rfl,trivial⟩) ?_
  ·show _=some (AV.sl 400001 0 ns1.length 5);rw [eI];rfl
  ·show _=some (AV.mrow 194 5 (ns1.map Nd.cv));rw [cD];rfl
  refine aR ?_;refine nc zl (nc z7 (nc zg (nc z8 (nc zl (nc (zO (k:=n)) (nc z5 (nc (zP (G:=sO)) (nc ze ?_))))))));exact ⟨j,(0,AV.bp 350001 0 [])::(1,.val (.i (y.up:Int)))::a9U b ck bs ⟨ns1,vr,ps⟩,by omega,⟨ns1,y.up,hc,by rw [h1];exact cS.set iW,by rw [eI];exact iW,by rw [eI];exact hl,rfl⟩,a7 ⟨rfl,rfl,rfl,rfl,rfl,rfl,rfl,rfl,rfl,trivial⟩⟩
 ·have kE:x.up=n:=by have:=of_decide_eq_false kE;simp only [ne_eq,Decidable.not_not] at this;omega
  rw [if_pos (by rw [oK];exact kE)] at hc;cases hc;refine aE ?_;refine aS (aR ?_);refine nc zl (nc ze ?_);exact aT ⟨.inr rfl,_,Wk.refl _,rfl,rfl,rfl,rfl,rfl,rfl,rfl,rfl,trivial⟩
def M2 (vr:List (Int×Nat)) (g:Nat->Tm) (js:List Nat):List Bd:=js.map fun j=>⟨(vr.getD j (0,0)).1,g (vr.getD j (0,0)).2⟩
theorem b5t {l:List Nat} (h:l.Nodup):∀ {i j x:Nat},l[i]?=some x->l[j]?=some x->i=j:=by
 induction l with
 | nil=>intro i j x h1;simp at h1
 | cons y l ih =>
  intro i j x h1 h2;rw [nodup_cons] at h;cases i with
  | zero =>
   cases j with
   | zero=>rfl
   | succ j =>
    simp at h1 h2;subst h1;exact absurd (mem_of_getElem? h2) h.1
  | succ i =>
   cases j with
   | zero =>
    simp at h1 h2;subst h2;exact absurd (mem_of_getElem? h1) h.1
   | succ j =>
    simp at h1 h2;rw [ih h.2 h1 h2]
theorem b0D {n:Nat} {js:List Nat} (hn:js.Nodup) (hl:∀ j∈js,j<n) (ha:∀ j,j<n->j∈js):js.Perm (List.range n):=
 (List.perm_ext_iff_of_nodup hn List.nodup_range).2 fun j=>by rw [List.mem_range];exact ⟨hl j,ha j⟩
theorem a6j {n:Nat} {l:List Nat} (hn:l.Nodup) (hl:∀ j∈l,j<n):l.length<=n:=by
 have h:l.Perm ((List.range n).filter fun x=>decide (x∈l)):=(List.perm_ext_iff_of_nodup hn (List.nodup_range.filter _)).2 fun x=>by rw [List.mem_filter,List.mem_range,decide_eq_true_eq];exact ⟨fun h=>⟨hl x h,h⟩,fun h=>h.2⟩
 have h2:=List.length_filter_le (fun x=>decide (x∈l)) (List.range n);rw [h.length_eq];rw [List.length_range] at h2;exact h2
theorem b0Z {vr:List (Int×Nat)} {g:Nat->Tm} {js:List Nat} (h:js.Perm (List.range vr.length)):∃ vr':List (Int×Nat),vr'.Perm vr/\M2 vr g js=vr'.map fun p=>(⟨p.1,g p.2⟩:Bd):=by
 refine ⟨js.map fun j=>vr.getD j (0,0),?_,by unfold M2;rw [map_map];rfl⟩;refine (h.map _).trans ?_;have:(List.range vr.length).map (fun j=>vr.getD j (0,0))=vr:=by
  apply List.ext_getElem?;intro i;rw [List.getElem?_map];rcases Nat.lt_or_ge i vr.length with hi | hi
  ·rw [List.getElem?_range hi,Option.map_some,getD_eq_getElem?_getD,getElem?_eq_getElem hi];rfl
  ·rw [getElem?_eq_none (by simpa using hi),getElem?_eq_none hi];rfl
 rw [this]
set_option maxHeartbeats 8000000 in
theorem b4z (fu:Nat) (c0:Cl) (od:List Nat) (q:Cl×List Tm) (hq:B3 fu od.reverse c0 (List.replicate c0.ns.length tm0)=some q) (hF:FitU c0) (mT:q.1.ns.length=c0.ns.length) (oL:∀ n∈od,n<c0.ns.length) (sV:od.length<=1000) {H r:Nat->Nat} {E} (hC:ClsC q.1 H r E) (wS:FitU q.1) (fM:Q3 q.1.vr) (dE:q.1.vr.length<=100000) :
  b7Y (Sg:=List Bd×Cl) Tryz.prog 124 (s9 c0) [.bp 350001 0 [],.val (n7 od)] (fun σ=>∃ vr':List (Int×Nat),vr'.Perm q.1.vr/\σ.1=vr'.map fun p=>(⟨p.1,q.2.getD (H p.2) tm0⟩:Bd)) (fun σ => .val (.lst (σ.1.map Bd.cv))) (fun σ=>s9 σ.2):=by
 have iA:=b1F fu c0 od q hq hF mT oL sV;have fA:q.2.length=c0.ns.length:=(TI.all (t:=(c0,List.replicate c0.ns.length tm0)) (N:=c0.ns.length) ⟨hF,by simp,Nat.le_refl _⟩ (fun n hn=>oL n (List.mem_reverse.1 hn)) hq).1.out;obtain ⟨N,hN⟩:∃ N,N=c0.ns.length:=⟨_,rfl⟩
 have hNl:N<=1000:=by rw [hN];exact Nat.le_trans (C4 _) hF.big
 rw [<-hN] at iA mT fA;obtain ⟨c,out⟩:=q;simp only at hC wS fM dE mT fA iA |-;obtain ⟨ns0,vr,ps⟩:=c;simp only at hC wS fM dE mT fA iA |-;have hvm:∀ (j:Nat) (p:Int×Nat),vr[j]?=some p->p.2<N:=fun j p hp=>by have:=(Q6 fM.1 (v:=p.1) (m:=p.2)).2 (mem_of_getElem? hp);have:=(hC.vrt p.1 p.2 this).1;simp only at this;omega
 have bX:(vr.map vrv).length=vr.length:=length_map ..;refine b6M Tryz.func124 Tryz.ntmps124 rfl rfl rfl rfl rfl (fun σ=>rfl) ?_;intro w U hU;refine aS (aR ?_);refine nc ze ?_;refine aS (aR ?_);refine nc zl (nc zl (nc (zW (z:=iA) (G:=i0 (by first | rfl | kernel_rfl))) (nc ze ?_)));refine aS (aR ?_);refine nc zl (nc z7 (nc zg (nc z8 (nc zbm (ne (zbl (k:=(vr.map vrv).length) 200017) (nc ze ?_))))));refine AWp.wk ((a7 (s':=(0,AV.bp 350001 0 [])::(5,.sl 300005 0 N 2)::(6,.sl 200017 0 0 3)::(200017,.mrow 112 3 [])::(300005,.mrow 41 2 (out.map Tm.cv))::s9 ⟨ns0,vr,ps⟩) ⟨rfl,rfl,rfl,rfl,rfl,rfl,rfl,rfl,rfl,rfl,rfl,rfl,trivial⟩).trans (x7 300001 400001 rfl rfl (b7G hU (by kernel_rfl)) (by kernel_rfl) (by kernel_rfl) (by kernel_rfl))) ?_;refine AWp.stamps 300003 (l:=vr.map vrv) rfl rfl fun b ck bs lT bJ yV=>?_;rw [bX] at lT;refine aS (aS (aR ?_));refine nc zl (nc z7 (nc zg (nc z8 (ne (zbn 300022) ?_))));obtain ⟨g,hg⟩:∃ g:Nat->Tm,g=fun m=>out.getD (H m) tm0:=⟨_,rfl⟩
 obtain ⟨st,dD⟩:∃ st:List Nat->List Nd->AS,st=fun js ns1=>(0,AV.bp 350001 0 [])::(5,.sl 300005 0 N 2)::(6,.sl 200017 0 js.length 3)::(22,.mref 300022)::(300022,.itr b ck ck (js.map fun j=>bs.getD j 0))::(200017,.mrow 112 3 ((M2 vr g js).map Bd.cv))::(300005,.mrow 41 2 (out.map Tm.cv))::a9U b ck bs ⟨ns1,vr,ps⟩:=⟨_,rfl⟩
 refine aB (t9 (fun m s=>∃ js ns1,m+js.length=vr.length/\js.Nodup/\(∀ j∈js,j<vr.length)/\ClsC ⟨ns1,vr,ps⟩ H r E/\FitU ⟨ns1,vr,ps⟩/\ns1.length=N/\s=st js ns1) (n:=vr.length) (s':=st [] ns0) (by rw [dD];exact a7 ⟨rfl,rfl,rfl,rfl,rfl,rfl,rfl,rfl,rfl,rfl,rfl,rfl,rfl,rfl,trivial⟩) ⟨[],ns0,rfl,List.nodup_nil,(fun j hj=>by cases hj),hC,wS,mT,rfl⟩ ?_);rintro m s ⟨js,ns1,hm,tV,gJ,hC1,fL,eI,rfl⟩;rw [dD];refine aS (b3B (n:=300003) (k := .i64) rfl rfl rfl rfl rfl rfl rfl rfl rfl (a3d vr) yV (Nat.le_refl _) (fun dN=>?_) (fun j x i vc hj hl hx=>?_))
 ·refine ⟨_,_,_,aX (gN rfl) rfl rfl rfl rfl rfl rfl,(by first | rfl | kernel_rfl),?_⟩;refine aS (aC rfl (fun hc=>by cases hc) (fun _=>aE ?_));have hcov:∀ j,j<vr.length->j∈js:=fun j hj=>by
   have hjb:j<bs.length:=by omega
   have h1:=dN (bs[j]) (List.getElem_mem hjb);obtain ⟨j',h2,h3⟩:=mem_map.1 h1;have hj':=gJ j' h2;have wT:j'<bs.length:=by omega
   rw [getD_eq_getElem?_getD,getElem?_eq_getElem wT] at h3;have h3:bs[j']=bs[j]:=h3;have:=b5t bJ (getElem?_eq_getElem wT) (by rw [h3];exact getElem?_eq_getElem hjb);rw [<-this];exact h2
  obtain ⟨vr',hp,hb⟩:=b0Z (g:=g) (b0D tV gJ hcov);have qG:((M2 vr g js).map Bd.cv).length=js.length:=by rw [length_map];unfold M2;rw [length_map]
  refine AWp.wk (a8s 6 200017 rfl rfl rfl (.inr (by decide)) (by rw [qG];omega) (s':=a9U b ck bs ⟨ns1,vr,ps⟩) ⟨rfl,rfl,rfl,rfl,rfl,rfl,rfl,trivial⟩ (by kernel_rfl)) ?_;rw [List.drop_zero,List.take_of_length_le (by rw [qG];omega)];refine aS (aR ?_);refine nc zl (nc ze ?_);refine aT ⟨.inr rfl,(M2 vr g js,⟨ns1,vr,ps⟩),⟨vr',hp,by rw [hb,hg]⟩,_,((a7 (s':=(4,AV.val (.lst ((M2 vr g js).map Bd.cv)))::a9U b ck bs ⟨ns1,vr,ps⟩) ⟨rfl,rfl,rfl,rfl,rfl,rfl,rfl,rfl,trivial⟩).trans (b5H 300003 rfl rfl)).trans ((a7 (s':=(4,AV.val (.lst ((M2 vr g js).map Bd.cv)))::O5 ⟨ns1,vr,ps⟩) ⟨rfl,rfl,rfl,rfl,rfl,rfl,rfl,rfl,trivial⟩).trans (x7 400001 300001 rfl rfl (a5I U (by decide)) (by kernel_rfl) (by kernel_rfl) (by kernel_rfl))),rfl,rfl,rfl,rfl,rfl,rfl,rfl,rfl,trivial⟩
 ·refine ⟨_,_,_,aX (gN rfl) rfl rfl rfl rfl rfl rfl,(by first | rfl | kernel_rfl),?_⟩;refine aS (aC rfl (fun _=>aK ?_) (fun hc=>by cases hc));have hjl2:j<vr.length:=by
   rcases Nat.lt_or_ge j bs.length with h | h
   ·omega
   ·rw [getElem?_eq_none h] at hj;cases hj
  obtain ⟨p,hp⟩:∃ p,vr[j]?=some p:=⟨vr[j],getElem?_eq_getElem hjl2⟩
  have hpi:i=p.1/\vc = .i (p.2:Int):=by rw [List.getElem?_map,hp] at hl;have hl:some (CV.row [.i p.1,.i (p.2:Int)])=some (.row [.sc (.int .i64 i),vc]):=hl;injection hl with hl;injection hl with _ _ hl;injection hl with hl cA;injection cA with cA;injection hl with _ hl;injection hl with _ hl;exact ⟨hl.symm,cA.symm⟩
  obtain ⟨rfl,rfl⟩:=hpi;have hpN:=hvm j p hp;obtain ⟨ns2,hd,hC2,kL,_⟩:=ClsC.head (r p.2+1) hC1 (n:=p.2) (by omega) (by omega);obtain ⟨tW,_,iY⟩:=FitU.head fL (by omega) hd;have hHN:H p.2<N:=by have:H p.2<ns1.length:=iY;omega
  have hdc:=b0S b ck bs vr ps (r p.2+1) ns1 p.2 (ns2,H p.2) hd fL.up (by omega) (by omega);obtain ⟨z,hz⟩:∃ z,out[H p.2]?=some z:=⟨out[H p.2]'(by omega),getElem?_eq_getElem (by omega)⟩
  have jC:=Tm.map_at hz;have fQ:(out.map Tm.cv).length=out.length:=length_map ..;have hgz:g p.2=z:=by rw [hg];show out.getD (H p.2) tm0=z;rw [getD_eq_getElem?_getD,hz];rfl
  have qG:((M2 vr g js).map Bd.cv).length=js.length:=by rw [length_map];unfold M2;rw [length_map]
  have hbl3:(M2 vr g js).length=js.length:=by unfold M2;rw [length_map]
  have hbz:=Bd.size_all (M2 vr g js);have hjs:js.length<=100000:=by omega
  have tC:j∉js:=fun jT=>hx (mem_map.2 ⟨j,jT,by rw [getD_eq_getElem?_getD,hj];rfl⟩);have wU:M2 vr g (js++[j])=M2 vr g js++[⟨p.1,z⟩]:=by unfold M2;rw [map_append,List.map_singleton,getD_eq_getElem?_getD,hp];show _++[(⟨p.1,g p.2⟩:Bd)]=_;rw [hgz]
  have hnd:(js++[j]).Nodup:=by rw [List.nodup_append];exact ⟨tV,by simp,fun a ha b hb=>by rw [mem_singleton] at hb;subst hb;exact fun e=>tC (e▸ha)⟩
  have kA:∀ x∈js++[j],x<vr.length:=fun x hx=>by
   rcases mem_append.1 hx with h | h
   ·exact gJ x h
   ·rw [mem_singleton] at h;omega
  refine aB (aS (aR ?_));refine nc (zbo (n:=300003) (E:=hj) (F:=hl)) (nc zE (nc zE (nc ze (nc ze ?_))));refine aR ?_;refine nc zl (nc zl (nc zl (nc zl (nc zl (nc (zW (z:=hdc) (G:=i0 (by first | rfl | kernel_rfl))) (nc (zO (k:=H p.2)) (nc (zP (G:=jC)) (nc zC (nc zy (ne (zbb 200038) (nc ze ?_)))))))))));refine ⟨m-1,st (js++[j]) ns2,?_,⟨js++[j],ns2,?_,?_,?_,hC2,tW,by omega,by rw [dD]⟩,?_⟩
  ·have h2:=a6j hnd kA;rw [length_append] at h2;simp at h2;omega
  ·have h2:=a6j hnd kA;rw [length_append] at h2 |-;simp at h2 |-;omega
  ·exact hnd
  ·exact kA
  ·rw [dD];refine (a7 (s':=(0,AV.bp 350001 0 [])::(5,.sl 300005 0 N 2)::(6,.sl 200038 0 (js++[j]).length 3)::(22,.mref 300022)::(300022,.itr b ck ck ((js++[j]).map fun j=>bs.getD j 0))::(200038,.mrow 112 3 ((M2 vr g (js++[j])).map Bd.cv))::(300005,.mrow 41 2 (out.map Tm.cv))::a9U b ck bs ⟨ns2,vr,ps⟩) ⟨rfl,rfl,?_,rfl,?_,?_,rfl,rfl,rfl,rfl,rfl,rfl,rfl,rfl,trivial⟩).trans (B2 200038 200017 rfl rfl (by kernel_rfl) (by kernel_rfl))
   ·rw [length_append,<-qG];rfl
   ·rw [map_append,List.map_singleton,getD_eq_getElem?_getD,hj];rfl
   ·rw [wU,map_append,List.map_singleton];rfl
section
variable {P:Program} {w0:World} {U0:UX} {nt:Nat} {Q:Exit->AS->Prop} {s:AS}
variable {ops:Array Oper} {o:Oper} {gs:List Nat} {S:Nat->Option AV} {d:Nat}
end
theorem c1q {c:Cl} {H r:Nat->Nat} {E} (h:ClsC c H r E) (hv:Q3 c.vr):c.vr.length<=c.ns.length:=by
 have hn:(c.vr.map Prod.snd).Nodup:=by have h1:c.vr.Pairwise (fun a b=>a.1≠b.1):=List.pairwise_map.1 hv.1;refine List.pairwise_map.2 (List.Pairwise.imp_of_mem (fun {a b} ha hb oI e=>oI ?_) h1);have e1:=(h.vrt a.1 a.2 (G5 hv.1 ha)).2;have e2:=(h.vrt b.1 b.2 (G5 hv.1 hb)).2;rw [e] at e1;omega
 have:=a1t c.ns.length hn (fun x hx=>by obtain ⟨p,hp,rfl⟩:=mem_map.1 hx;exact (h.vrt p.1 p.2 (G5 hv.1 hp)).1)
 simpa using this
def ToldU (l:List (Tm×Tm)) (r:List Bd×Bool):Prop:=(r.2=false/\r.1=[]/\∀ τ,¬ uni τ l)\/(r.2=true/\∃ s:List Bd,Mgu (i7 s) l/\(∀ b∈s,0<=b.v)/\(∀ v,0<=v->i7 s v=q7 v\/((i7 s v).rng/\(i7 s v).size<=90000000000))/\r.1=y9 s)
theorem ToldU.no {l:List (Tm×Tm)} {r:List Bd×Bool} (h:ToldU l r) (hn:∀ τ,¬ uni τ l):r=([],false):=by
 rcases h with ⟨h1,h2,_⟩ | ⟨_,s,hs,_⟩
 ·cases r;simp_all
 ·exact absurd hs.uni (hn _)
theorem ToldU.yes {l:List (Tm×Tm)} {r:List Bd×Bool} (h:ToldU l r) {u:List Bd} (hu:Mgu (i7 u) l) (eS:∀ b∈u,0<=b.v):r=(y9 u,true)/\∀ v,0<=v->i7 u v=q7 v\/((i7 u v).rng/\(i7 u v).size<=90000000000):=by
 rcases h with ⟨_,_,h3⟩ | ⟨h1,s,hs,h0,hb,h2⟩
 ·exact absurd hu.uni (h3 _)
 ·refine ⟨?_,fun v hv=>by rw [hs.one hu hv];exact hb v hv⟩;rw [<-b5S h0 eS hs hu,<-h2,<-h1]
theorem b4R {l:List (Tm×Tm)} {r:List Bd×Bool} (h:ToldU l r) {vr vr':List (Int×Nat)} (hv:Q3 vr) (qT:∀ p∈vr,p.1<=9223372036854775807) (hp:vr'.Perm vr) {g:Nat->Tm} {u:List Bd} (hu:u=vr'.map fun p=>(⟨p.1,g p.2⟩:Bd)) (hm:∀ s:List Bd,(∀ v,d9 s v=(o7 vr v).map g)->Mgu (i7 s) l):r=(y9 u,true)/\(u.map Bd.v).Nodup/\bdsOk u:=by
 have hf:∀ v,d9 u v=(o7 vr v).map g:=fun v=>by rw [hu];exact a4q hv.1 hp g v
 have eS:∀ b∈u,0<=b.v:=fun b hb=>by rw [hu] at hb;obtain ⟨p,dZ,rfl⟩:=mem_map.1 hb;exact hv.2 p (hp.mem_iff.1 dZ)
 obtain ⟨h1,h2⟩:=h.yes (hm u hf) eS;refine ⟨h1,?_,fun b hb=>?_⟩
 ·rw [hu,map_map];exact (hp.map Prod.fst).nodup_iff.2 hv.1
 ·have h3:=h2 b.v (eS b hb);have e:i7 u b.v=b.t:=by unfold i7;rw [hf];rw [hu] at hb;obtain ⟨p,dZ,rfl⟩:=mem_map.1 hb;show ((o7 vr p.1).map g).getD _=_;rw [G5 hv.1 (hp.mem_iff.1 dZ)];rfl
  rw [e] at h3;rcases h3 with h3 | h3
  ·rw [h3];have kW:b.v<=9223372036854775807:=by rw [hu] at hb;obtain ⟨p,dZ,rfl⟩:=mem_map.1 hb;exact qT p (hp.mem_iff.1 dZ)
   have lR:=eS b hb;exact ⟨b0q (by omega) (by omega),by rw [Tm.size_var (by rw [s7];omega)];decide⟩
  ·exact h3
theorem a1T:∀ E:Nat,2 ^ E<=3 ^ E
 | 0=>Nat.le_refl _
 | E+1=>by
  have:=a1T E;rw [Nat.pow_succ,Nat.pow_succ];omega
theorem a2C:∀ k:Nat,k*2 ^ k<=3 ^ k
 | 0=>by decide
 | 1=>by decide
 | 2=>by decide
 | k+3=>by
  have h:=a2C (k+2);have e1:(k+3)*2 ^ (k+3)=(2*(k+3))*2 ^ (k+2):=by rw [Nat.pow_succ 2 (k+2),Nat.mul_comm (2 ^ (k+2)) 2,<-Nat.mul_assoc,Nat.mul_comm (k+3) 2]
  have e2:3 ^ (k+3)=3*3 ^ (k+2):=by rw [Nat.pow_succ 3 (k+2),Nat.mul_comm]
  rw [e1,e2];have h2:(2*(k+3))*2 ^ (k+2)<=(3*(k+2))*2 ^ (k+2):=Nat.mul_le_mul_right _ (by omega);rw [Nat.mul_assoc 3] at h2;omega
def Big (E s:Nat):Prop:=2 ^ E*(s+1)<=2*3 ^ E
theorem Big.succ {E s:Nat} (h:Big E s):Big (E+1) s:=by
 unfold Big at *;rw [Nat.pow_succ,Nat.pow_succ,Nat.mul_assoc,Nat.mul_left_comm];omega
theorem Big.up {E F s:Nat} (h:Big E s) (hf:E<=F):Big F s:=by
 induction hf with
 | refl=>exact h
 | step _ ih=>exact ih.succ
theorem Big.sum {E:Nat}:∀ (l:List Nat),(∀ s∈l,Big E s)->2 ^ E*(l.sum+l.length)<=2*l.length*3 ^ E
 | [],_=>by simp
 | s::l,h=>by
  have h1:2 ^ E*(s+1)<=2*3 ^ E:=h s (by simp);have h2:=Big.sum l fun x hx=>h x (mem_cons_of_mem _ hx);rw [sum_cons,length_cons,show s+l.sum+(l.length+1)=(s+1)+(l.sum+l.length) by omega,Nat.mul_add,show 2*(l.length+1)*3 ^ E=2*3 ^ E+2*l.length*3 ^ E by rw [Nat.mul_add,Nat.add_mul,Nat.add_comm]];omega
theorem Big.node {E:Nat} (l:List Nat) (h:∀ s∈l,Big E s):Big (E+l.length) (1+l.sum):=by
 have h1:=Big.sum l h;have vG:=a1T E;have hk:=a2C l.length;unfold Big;rw [Nat.pow_add,Nat.pow_add];obtain ⟨A,hA⟩:∃ A,A=2 ^ E:=⟨_,rfl⟩
 obtain ⟨B,hB⟩:∃ B,B=3 ^ E:=⟨_,rfl⟩
 rw [<-hA,<-hB] at h1 vG |-
 match l,h1,hk with
 | [],h1,hk=>simp;omega
 | [s],h1,hk =>
  simp only [sum_cons,List.sum_nil,length_cons,length_nil,Nat.add_zero,Nat.zero_add,Nat.pow_one,Nat.mul_one] at h1 |-;rw [Nat.mul_comm A 2,Nat.mul_assoc,show A*(1+s+1)=A*(s+1)+A by rw [show 1+s+1=(s+1)+1 by omega,Nat.mul_add,Nat.mul_one]];omega
 | s::t::l,h1,hk =>
  obtain ⟨m,hm⟩:∃ m,m=s::t::l:=⟨_,rfl⟩
  have kD:2<=m.length:=by rw [hm];simp
  rw [<-hm] at h1 hk |-;obtain ⟨P,hP⟩:∃ P,P=2 ^ m.length:=⟨_,rfl⟩
  obtain ⟨Q,hQ⟩:∃ Q,Q=3 ^ m.length:=⟨_,rfl⟩
  rw [<-hP,<-hQ] at hk;rw [<-hP,<-hQ];have h2:A*(1+m.sum+1)<=A*(m.sum+m.length):=Nat.mul_le_mul_left _ (by omega);have h3:A*(1+m.sum+1)<=2*m.length*B:=Nat.le_trans h2 h1;have h4:P*(A*(1+m.sum+1))<=P*(2*m.length*B):=Nat.mul_le_mul_left _ h3;have h5:P*(2*m.length*B)=2*(m.length*P*B):=by rw [Nat.mul_assoc 2,Nat.mul_left_comm P 2,<-Nat.mul_assoc P,Nat.mul_comm P m.length]
  have h6:m.length*P*B<=Q*B:=Nat.mul_le_mul_right _ hk;rw [show A*P*(1+m.sum+1)=P*(A*(1+m.sum+1)) by rw [Nat.mul_comm A P,Nat.mul_assoc],Nat.mul_comm B Q];omega
theorem b5k {g:Int->Int} {t:Tm} (hg:∀ v∈t.vs,0<=g v):(a8 (fun v=>q7 (g v)) t).size=t.size:=by
 induction t using Tm.ind with
 | h f l ih =>
  by_cases hf:f<0
  ·have h1:=hg (-1-f) (by rw [Tm.vs_var (t:=⟨f,l⟩) hf];simp);rw [l4 (t:=⟨f,l⟩) hf,w9,Tm.size_var (t:=⟨f,l⟩) hf];exact Tm.size_var (by rw [s7];show -1-g (-1-f)<0;omega)
  ·rw [Tm.vs_sym (t:=⟨f,l⟩) hf] at hg;rw [d8 (t:=⟨f,l⟩) hf,Tm.size_sym (t:=⟨f,l⟩) hf,Tm.size_sym (t:=⟨f,_⟩) hf,map_map];congr 2;exact List.map_congr_left fun t ht=>ih t ht fun v hv=>hg v (mem_flatMap.2 ⟨t,ht,hv⟩)
theorem b4P {s:List Bd} {E:List (Tm×Tm)} (h:Mgu (i7 s) E) {t:Tm} {u:Int} (hu:u∈(a8 (i7 s) t).vs):d9 (y9 s) u=none:=by
 have eS:=o5 _ u hu;rw [b4W s eS,h.rep_vs hu,if_pos];show (decide ((q7 u).f<0)&&decide (-1-(q7 u).f=u))=true;rw [s7,decide_eq_true (by omega),decide_eq_true (by omega)];rfl
def b8H (S:List Tm):Prop:=∀ s∈S,∀ p∈s.ps,p∈S
def Hits (S:List Tm) (σ:Int->Tm) (t:Tm):Prop:=∃ s∈S,a8 σ t=a8 σ s
def Orig (S:List Tm) (σ:Int->Tm):Prop:=∀ v,0<=v->¬ (σ v).f<0->∃ s∈S,¬ s.f<0/\a8 σ s=σ v
theorem Hits.sym {S:List Tm} {σ:Int->Tm} {t:Tm} (h:Hits S σ t) (ho:Orig S σ) (hb:∀ v,0<=v->(σ v).strip=σ v) (hf:¬ (a8 σ t).f<0):∃ s∈S,¬ s.f<0/\a8 σ t=a8 σ s:=by
 obtain ⟨s,hs,e⟩:=h;by_cases eE:s.f<0
 ·have h0:0 <= -1-s.f:=by omega
  have e2:a8 σ s=σ (-1-s.f):=by rw [l4 eE,hb _ h0]
  rw [e,e2] at hf;obtain ⟨q,hq,mU,e3⟩:=ho _ h0 hf;exact ⟨q,hq,mU,by rw [e,e2,e3]⟩
 ·exact ⟨s,hs,eE,e⟩
theorem a0H {S:List Tm} {f g:Tm->Nat} (h:∀ x∈S,f x<=g x):(S.map f).sum<=(S.map g).sum:=by
 induction S with
 | nil=>exact Nat.le_refl _
 | cons a S ih =>
  rw [map_cons,map_cons,sum_cons,sum_cons];have h1:=h a (by simp);have h2:=ih fun x hx=>h x (mem_cons_of_mem _ hx);omega
theorem a8L {S:List Tm} {f g:Tm->Nat} {c:Nat} {s:Tm} (hs:s∈S) (hc:f s+c<=g s) (h:∀ x∈S,f x<=g x):(S.map f).sum+c<=(S.map g).sum:=by
 induction S with
 | nil=>cases hs
 | cons a S ih =>
  rw [map_cons,map_cons,sum_cons,sum_cons];have h1:=h a (by simp);rcases mem_cons.1 hs with rfl | hs
  ·have:=a0H (S:=S) fun x hx=>h x (mem_cons_of_mem _ hx);omega
  ·have:=ih hs fun x hx=>h x (mem_cons_of_mem _ hx);omega
def arN (S:List Tm) (σ:Int->Tm) (n:Nat):Nat:=(S.map fun s=>if (a8 σ s).size<=n then s.ps.length else 0).sum
theorem b5w {S:List Tm} {σ:Int->Tm} {n m:Nat} (h:n<=m):arN S σ n<=arN S σ m:=a0H fun x _=>by
 split
 ·rw [if_pos (by omega)];exact Nat.le_refl _
 ·exact Nat.zero_le _
theorem Big.one (E:Nat):Big E 1:=by
 unfold Big;have:=a1T E;omega
theorem b8t {S:List Tm} {σ:Int->Tm} (hc:b8H S) (ho:Orig S σ) (hb:∀ v,0<=v->(σ v).strip=σ v):∀ (n:Nat),∀ s∈S,¬ s.f<0->(a8 σ s).size<=n->Big (arN S σ n) (a8 σ s).size:=by
 intro n
 induction n with
 | zero=>intro s _ _ h;have:=Tm.size_pos (a8 σ s);omega
 | succ n ih =>
  intro s hs hf hn;by_cases cY:(a8 σ s).size<=n
  ·exact (ih s hs hf cY).up (b5w (by omega))
  have kC:(a8 σ s).size=n+1:=by omega
  have bE:s.ps=s.l:=Tm.ps_of_sym (by omega);have he:a8 σ s=⟨s.f,s.l.map (a8 σ)⟩:=d8 hf;have h1:(a8 σ s).size=1+((s.l.map (a8 σ)).map Tm.size).sum:=by rw [he];exact Tm.size_sym (t:=⟨s.f,s.l.map (a8 σ)⟩) hf
  have kY:∀ x∈(s.l.map (a8 σ)).map Tm.size,Big (arN S σ n) x:=by
   intro x hx;rw [map_map] at hx;obtain ⟨p,hp,rfl⟩:=mem_map.1 hx;show Big _ (a8 σ p).size;have gE:p∈S:=hc s hs p (by rw [bE];exact hp);have kA:(a8 σ p).size<(a8 σ s).size:=Tm.size_part (by rw [he,Tm.ps_of_sym (by show 0<=s.f;omega)];exact mem_map.2 ⟨p,hp,rfl⟩);by_cases hv:(a8 σ p).f<0
   ·rw [Tm.size_var hv];exact Big.one _
   ·obtain ⟨q,hq,mU,e⟩:=Hits.sym ⟨p,gE,rfl⟩ ho hb hv;rw [e] at kA |-;exact ih q hq mU (by omega)
  have h2:=Big.node _ kY;rw [<-h1] at h2;refine h2.up ?_;rw [length_map,length_map];refine a8L hs ?_ fun x _=>?_
  ·rw [if_neg (by omega),if_pos (by omega),bE];omega
  ·split
   ·rw [if_pos (by omega)];exact Nat.le_refl _
   ·exact Nat.zero_le _
def arA (S:List Tm):Nat:=(S.map fun s=>s.ps.length).sum
theorem a1h {S:List Tm} {σ:Int->Tm} (hc:b8H S) (ho:Orig S σ) (hb:∀ v,0<=v->(σ v).strip=σ v) {t:Tm} (h:Hits S σ t):Big (arA S) (a8 σ t).size:=by
 by_cases hv:(a8 σ t).f<0
 ·rw [Tm.size_var hv];exact Big.one _
 ·obtain ⟨q,hq,mU,e⟩:=h.sym ho hb hv;rw [e];refine (b8t hc ho hb _ q hq mU (Nat.le_refl _)).up (a0H fun x _=>?_);split
  ·exact Nat.le_refl _
  ·exact Nat.zero_le _
theorem a4d (S T:List Tm):arA (S++T)=arA S+arA T:=by unfold arA;rw [map_append,List.sum_append]
theorem a1m (t:Tm):arA t.flat+1=t.size:=by
 induction t using Tm.indp with
 | h t ih =>
  have:∀ l:List Tm,(∀ s∈l,arA s.flat+1=s.size)->arA (l.flatMap Tm.flat)+l.length=(l.flatMap Tm.flat).length:=by
   intro l
   induction l with
   | nil=>intro _;rfl
   | cons a l ih2 =>
    intro h;have h1:=h a (by simp);have h2:=ih2 fun s hs=>h s (mem_cons_of_mem _ hs);unfold Tm.size at h1;rw [flatMap_cons,a4d,length_append,length_cons];omega
  have h3:=this t.ps ih;rw [Tm.size_eq,Tm.flat_eq];show ((t::t.ps.flatMap Tm.flat).map fun s:Tm=>s.ps.length).sum+1=_;rw [map_cons,sum_cons];have h4:arA (t.ps.flatMap Tm.flat)=((t.ps.flatMap Tm.flat).map fun s:Tm=>s.ps.length).sum:=rfl;omega
theorem a6d (t:Tm):b8H t.flat:=by
 induction t using Tm.indp with
 | h t ih =>
  intro s hs p hp;rw [Tm.flat_eq] at hs |-;rcases mem_cons.1 hs with rfl | hs
  ·refine mem_cons_of_mem _ (mem_flatMap.2 ⟨p,hp,?_⟩);rw [Tm.flat_eq];simp
  ·obtain ⟨q,hq,hs⟩:=mem_flatMap.1 hs;exact mem_cons_of_mem _ (mem_flatMap.2 ⟨q,hq,ih q hq s hs p hp⟩)
def K6 (l:List (Tm×Tm)):List Tm:=l.flatMap fun p=>p.1.flat++p.2.flat
theorem Y9 (l:List (Tm×Tm)):b8H (K6 l):=by
 intro s hs p hp;obtain ⟨q,hq,hs⟩:=mem_flatMap.1 hs;refine mem_flatMap.2 ⟨q,hq,?_⟩;rcases mem_append.1 hs with hs | hs
 ·exact List.mem_append_left _ (a6d _ s hs p hp)
 ·exact List.mem_append_right _ (a6d _ s hs p hp)
theorem a9Q {l:List (Tm×Tm)} {p:Tm×Tm} (h:p∈l):p.1∈K6 l/\p.2∈K6 l:=by
 refine ⟨mem_flatMap.2 ⟨p,h,List.mem_append_left _ ?_⟩,mem_flatMap.2 ⟨p,h,List.mem_append_right _ ?_⟩⟩<;>(rw [Tm.flat_eq];simp)
theorem a7N:∀ l:List (Tm×Tm),(∀ p∈l,p.1.size<=16/\p.2.size<=16)->arA (K6 l)<=30*l.length
 | [],_=>Nat.le_refl _
 | p::l,h=>by
  have h1:=h p (by simp);have h2:=a7N l fun q hq=>h q (mem_cons_of_mem _ hq);have e:K6 (p::l)=(p.1.flat++p.2.flat)++K6 l:=flatMap_cons;have h3:=a1m p.1;have h4:=a1m p.2;rw [e,a4d,a4d,length_cons];omega
theorem b1P {s E:Nat} (hE:E<=60) (h:Big E s):s<=90000000000:=by
 have h:=h.up hE;unfold Big at h;have e1:(2:Nat) ^ 60=1152921504606846976:=by decide
 have e2:(3:Nat) ^ 60=42391158275216203514294433201:=by decide
 rw [e1,e2] at h;omega
structure a7K (V:List Int) (S:List Tm) (K:Nat) (s:List Bd) (E:List (Tm×Tm)):Prop where
 mgu:Mgu (i7 s) E
 bare:L7 s
 inV:inV V s
 orig:Orig S (i7 s)
 len:s.length+frN V s<=K
 num:∀ b∈s,b.v∈V
theorem b8p {V:List Int} (hV:∀ v∈V,0<=v) {n:Nat} {s:List Bd} {a b:Tm} {E:List (Tm×Tm)} {r} (e:rU n s a b=some r) (hm:Mgu (i7 s) E) (hb:L7 s) (hi:inV V s) (ha:∀ u∈a.vs,u∈V) (sN:∀ u∈b.vs,u∈V):RSpec V E [(a,b)] s r:=by
 obtain ⟨m,r',e',h⟩:=b2K hV _ _ s a b E rfl rfl hm hb hi ha sN;have h1:=a8r (Nat.le_max_left n m) _ _ _ _ e;have h2:=a8r (Nat.le_max_right n m) _ _ _ _ e';rw [h1] at h2;cases h2;exact h
theorem b8r (s:List Bd) (x:Int) (t:Tm):(a5z s x t).length=s.length+1:=by unfold a5z;simp
theorem Orig.bnd {S:List Tm} {s:List Bd} (ho:Orig S (i7 s)) (hb:L7 s) {x:Int} {b:Tm} (fY:x∉(a8 (i7 s) b).vs) (hh:Hits S (i7 s) b):Orig S (i7 (a5z s x (a8 (i7 s) b))):=by
 have hB:(a8 (i7 s) b).strip=a8 (i7 s) b:=A6 _ _;have hr:∀ t,a8 (i7 (a5z s x (a8 (i7 s) b))) t=a8 (W5 x (a8 (i7 s) b)) (a8 (i7 s) t):=fun t=>by rw [a3X];exact D7 fun v hv=>a1y hB (o5 _ v hv)
 intro v hv hf;rw [a1y hB hv] at hf |-;by_cases h1:(i7 s v).f<0
 ·obtain ⟨w,hw⟩:∃ w,w = -1-(i7 s v).f:=⟨_,rfl⟩
  have e1:a8 (W5 x (a8 (i7 s) b)) (i7 s v)=(W5 x (a8 (i7 s) b) w).strip:=by rw [l4 h1,hw]
  rw [e1] at hf |-;unfold W5 at hf |-;by_cases hx:w=x
  ·rw [if_pos hx,hB] at hf |-;obtain ⟨q,hq,mU,e⟩:=hh.sym ho (fun v hv=>N3 hb v) hf;refine ⟨q,hq,mU,?_⟩;rw [hr,<-e,b2j fY,hB]
  ·rw [if_neg hx,w9,s7] at hf;omega
 ·obtain ⟨q,hq,mU,e⟩:=ho v hv h1;exact ⟨q,hq,mU,by rw [hr,e]⟩
structure Way (V:List Int) (S:List Tm) (s:List Bd) (a:Tm):Prop where
 vs:∀ u∈a.vs,u∈V
 hits:Hits S (i7 s) a
theorem b8A {V:List Int} {s:List Bd} {x:Int} {t:Tm} (h:∀ b∈s,b.v∈V) (hx:x∈V):∀ b∈a5z s x t,b.v∈V:=fun b hb=>by
 rcases mem_append.1 hb with hb | hb
 ·obtain ⟨c,hc,rfl⟩:=mem_map.1 hb;exact h c hc
 ·rw [mem_singleton] at hb;rw [hb];exact hx
theorem b5P {V:List Int} (hV:∀ v∈V,0<=v) {S:List Tm} {K n:Nat} {s:List Bd} {E:List (Tm×Tm)} (h:a7K V S K s E) {a b a1 b1:Tm} (ha1:a1=a8 (i7 s) a) (kW:b1=a8 (i7 s) b) (ha:Way V S s a) (hb:Way V S s b) (hf:a1.f<0) {s':List Bd} (hr:a2o (rU n) s a1 b1=some (some s')):Orig S (i7 s')/\s'.length=s.length+1/\∀ b∈s',b.v∈V:=by
 unfold a2o at hr;rw [if_pos hf] at hr;split at hr
 ·cases hr
 ·rename_i fY;cases hr;have hx : -1-a1.f∈V:=T8 h.inV ha.vs _ (by rw [<-ha1,Tm.vs_var hf];simp);rw [kW] at fY |-;exact ⟨h.orig.bnd h.bare fY hb.hits,b8r _ _ _,b8A h.num hx⟩
theorem a4S {l:List Bd} {t:Tm} (h:t.rng) (hi:∀ b∈l,b.t.rng):(n6 l t).rng:=by
 induction t using Tm.ind with
 | h f k ih =>
  obtain ⟨h1,h2⟩:=(Tm.rng_iff _).1 h;simp only at h1 h2;by_cases hf:f<0
  ·rw [a5c hf];unfold i7;cases hb:d9 l (-1-(Tm.mk f k).f) with
   | none =>
    show (q7 (-1-f)).rng;exact b0q (by omega) (by omega)
   | some t =>
    obtain ⟨b,wV,e,_⟩:=K9 hb;show t.rng;rw [<-e];exact hi b wV
  ·rw [a5d hf];refine (Tm.rng_iff _).2 ⟨h1,fun s hs=>?_⟩;obtain ⟨u,hu,rfl⟩:=mem_map.1 hs;exact ih u hu (h2 u hu)
def b5c (g:List Bd->Tm->Tm->Option (Option (List Bd))) (C:List Bd->Tm->Tm->Prop):List (Tm×Tm)->List Bd->Prop
 | [],_=>True
 | p::ps,s=>C s p.1 p.2/\∀ s',g s p.1 p.2=some (some s')->b5c g C ps s'
def Cnd:Nat->List Bd->Tm->Tm->Prop
 | 0,_,_,_=>True
 | n+1,s,a,b=>(s.length<=100000/\∀ x∈s,x.t.rng/\x.t.ok)/\(a.rng/\a.ok/\b.rng/\b.ok)/\((n6 s a).size<=90000000000/\(n6 s b).size<=90000000000)/\∀ a2 b2:Tm,a2=(if swC (n6 s a) (n6 s b) then n6 s b else n6 s a)->b2=(if swC (n6 s a) (n6 s b) then n6 s a else n6 s b)->¬ a2.f<0->a2.f=b2.f->a2.l.length=b2.l.length->b5c (rU n) (Cnd n) (a2.l.zip b2.l) s
def V6 (s:List Bd):Prop:=∀ x∈s,x.t.rng/\x.t.ok
theorem c0X {s:List Bd} {x:Int} {t:Tm} (h:V6 s) (ht:t.rng/\t.ok):V6 (a5z s x t):=fun y hy=>by
 have h1:V6 [⟨x,t⟩]:=fun b hb=>by rw [mem_singleton] at hb;rw [hb];exact ht
 rcases mem_append.1 hy with hy | hy
 ·obtain ⟨c,hc,rfl⟩:=mem_map.1 hy;exact ⟨a4S (h c hc).1 fun b hb=>(h1 b hb).1,a7L (h c hc).2 fun b hb=>(h1 b hb).2⟩
 ·exact h1 y hy
theorem c0M {V:List Int} {K:Nat} {s s':List Bd} (h:s.length+frN V s<=K) (hl:s'.length=s.length+1) (hd:s'=s\/frN V s'<frN V s):s'.length+frN V s'<=K:=by
 rcases hd with rfl | hd
 ·omega
 ·omega
section
variable {V:List Int} {S:List Tm} {K:Nat}
theorem a3R (hV:∀ v∈V,0<=v) {n:Nat} {E:List (Tm×Tm)} (ih:∀ (s:List Bd) (a b:Tm) (E:List (Tm×Tm)),a7K V S K s E->V6 s->Way V S s a->Way V S s b->(a.rng/\a.ok)->(b.rng/\b.ok)->Cnd n s a b/\∀ s',rU n s a b=some (some s')->a7K V S K s' (E++[(a,b)])/\V6 s'):∀ (ps:List (Tm×Tm)) (s:List Bd) (F:List (Tm×Tm)),a7K V S K s (E++F)->V6 s->(∀ p∈ps,(∀ (s1:List Bd) F1,Mgu (i7 s1) (E++F1)->Way V S s1 p.1/\Way V S s1 p.2)/\(p.1.rng/\p.1.ok)/\(p.2.rng/\p.2.ok))->b5c (rU n) (Cnd n) ps s/\∀ s',rUs (rU n) ps s=some (some s')->a7K V S K s' (E++F++ps)/\V6 s'
 | [],s,F,hm,hr,_=>⟨trivial,fun s' e=>by cases e;rw [List.append_nil];exact ⟨hm,hr⟩⟩
 | p::ps,s,F,hm,hr,hp=>by
  obtain ⟨h1,h2,h3⟩:=hp p (by simp);obtain ⟨w1,w2⟩:=h1 s F hm.mgu;obtain ⟨c1,c2⟩:=ih s p.1 p.2 (E++F) hm hr w1 w2 h2 h3;have next:∀ s1,rU n s p.1 p.2=some (some s1)->b5c (rU n) (Cnd n) ps s1/\∀ s',rUs (rU n) ps s1=some (some s')->a7K V S K s' (E++F++p::ps)/\V6 s':=fun s1 e=>by
   obtain ⟨m1,m2⟩:=c2 s1 e;have e3:E++F++[(p.1,p.2)]=E++(F++[p]):=by rw [List.append_assoc]
   rw [e3] at m1;have:=a3R hV ih ps s1 (F++[p]) m1 m2 fun q hq=>hp q (mem_cons_of_mem _ hq);rw [show E++(F++[p])++ps=E++F++p::ps by simp] at this;exact this
  refine ⟨⟨c1,fun s1 e=>(next s1 e).1⟩,fun s' e=>?_⟩;rw [rUs] at e;cases hg:rU n s p.1 p.2 with
  | none=>rw [hg] at e;cases e
  | some q =>
   rw [hg] at e;cases q with
   | none=>cases e
   | some s1=>exact (next s1 hg).2 s' e
theorem b7n (hV:∀ v∈V,0<=v) (hc:b8H S) (hK:K<=100000) (hE:arA S<=60):∀ (n:Nat) (s:List Bd) (a b:Tm) (E:List (Tm×Tm)),a7K V S K s E->V6 s->Way V S s a->Way V S s b->(a.rng/\a.ok)->(b.rng/\b.ok)->Cnd n s a b/\∀ s',rU n s a b=some (some s')->a7K V S K s' (E++[(a,b)])/\V6 s':=by
 intro n
 induction n with
 | zero=>intro s a b E _ _ _ _ _ _;exact ⟨trivial,fun s' e=>by cases e⟩
 | succ n ih =>
  intro s a b E hm hr wa wb ha hb;have ea:n6 s a=a8 (i7 s) a:=o0 hm.bare a;have eb:n6 s b=a8 (i7 s) b:=o0 hm.bare b;have iS:∀ v,0<=v->(i7 s v).strip=i7 s v:=fun v _=>N3 hm.bare v;have za:(n6 s a).size<=90000000000:=by rw [ea];exact b1P hE (a1h hc hm.orig iS wa.hits)
  have zb:(n6 s b).size<=90000000000:=by rw [eb];exact b1P hE (a1h hc hm.orig iS wb.hits)
  have ra:(n6 s a).rng/\(n6 s a).ok:=⟨a4S ha.1 fun x hx=>(hr x hx).1,a7L ha.2 fun x hx=>(hr x hx).2⟩
  have rb:(n6 s b).rng/\(n6 s b).ok:=⟨a4S hb.1 fun x hx=>(hr x hx).1,a7L hb.2 fun x hx=>(hr x hx).2⟩
  have part:∀ c:Tm,Way V S s c->(n6 s c).rng/\(n6 s c).ok->¬ (n6 s c).f<0->∀ p∈(n6 s c).l,(∀ (s1:List Bd) F1,Mgu (i7 s1) (E++F1)->Way V S s1 p)/\p.rng/\p.ok:=by
   intro c wc tX tY p hp;have ec:n6 s c=a8 (i7 s) c:=o0 hm.bare c;refine ⟨fun s1 F1 h1=>?_,((Tm.rng_iff _).1 tX.1).2 p hp,((Tm.ok_iff _).1 tX.2).2 p hp⟩;have hu:uni (i7 s1) E:=(B9.1 h1.uni).1;refine ⟨fun u hu=>T8 hm.inV wc.vs u ?_,?_⟩
   ·rw [<-ec,Tm.vs_sym tY];exact mem_flatMap.2 ⟨p,hp,hu⟩
   ·rw [ec] at tY hp;obtain ⟨q,hq,mU,e⟩:=wc.hits.sym hm.orig iS tY;rw [e,d8 mU] at hp;obtain ⟨q2,fH,rfl⟩:=mem_map.1 hp;exact ⟨q2,hc q hq q2 (by rw [Tm.ps_of_sym (by omega)];exact fH),hm.mgu.rep hu q2⟩
  have list:∀ c d:Tm,Way V S s c->Way V S s d->(n6 s c).rng/\(n6 s c).ok->(n6 s d).rng/\(n6 s d).ok->¬ (n6 s c).f<0->(n6 s c).f=(n6 s d).f->b5c (rU n) (Cnd n) ((n6 s c).l.zip (n6 s d).l) s/\∀ s',rUs (rU n) ((n6 s c).l.zip (n6 s d).l) s=some (some s')->a7K V S K s' (E++[]++(n6 s c).l.zip (n6 s d).l)/\V6 s':=by intro c d wc wd tX pD tY hfe;refine a3R hV ih _ s [] (by rw [List.append_nil];exact hm) hr fun p hp=>?_;obtain ⟨p1,p2⟩:=List.of_mem_zip (a:=p.1) (b:=p.2) hp;obtain ⟨a1,a2⟩:=part c wc tX tY _ p1;obtain ⟨b1,b2⟩:=part d wd pD (by rw [<-hfe];exact tY) _ p2;exact ⟨fun s1 F1 h1=>⟨a1 s1 F1 h1,b1 s1 F1 h1⟩,a2,b2⟩
  refine ⟨⟨⟨by have:=hm.len;omega,hr⟩,⟨ha.1,ha.2,hb.1,hb.2⟩,⟨za,zb⟩,?_⟩,fun s' e=>?_⟩
  ·intro a2 b2 e1 e2 hf lQ dI;split at e1
   ·rename_i hs;rw [if_pos hs] at e2;subst e1 e2;exact (list b a wb wa rb ra hf lQ).1
   ·rename_i hs;rw [if_neg hs] at e2;subst e1 e2;exact (list a b wa wb ra rb hf lQ).1
  ·have tD:=b8p hV e hm.mgu hm.bare hm.inV wa.vs wb.vs;obtain ⟨q1,q2,q3,q4⟩:=tD;have go:∀ c d:Tm,Way V S s c->Way V S s d->(n6 s c).rng/\(n6 s c).ok->(n6 s d).rng/\(n6 s d).ok->a2o (rU n) s (n6 s c) (n6 s d)=some (some s')->(Orig S (i7 s')/\s'.length+frN V s'<=K/\∀ b∈s',b.v∈V)/\V6 s':=by
    intro c d wc wd tX pD e;by_cases hf:(n6 s c).f<0
    ·obtain ⟨o1,o2,o3⟩:=b5P hV hm (o0 hm.bare c) (o0 hm.bare d) wc wd hf e;refine ⟨⟨o1,c0M hm.len o2 q4,o3⟩,?_⟩;unfold a2o at e;rw [if_pos hf] at e;split at e
     ·cases e
     ·cases e;exact c0X hr pD
    ·unfold a2o at e;rw [if_neg hf] at e;split at e
     ·cases e
     ·rename_i kE;obtain ⟨m1,m2⟩:=(list c d wc wd tX pD hf (Decidable.byContradiction fun h=>kE (.inl h))).2 s' e;exact ⟨⟨m1.orig,m1.len,m1.num⟩,m2⟩
   rw [rU] at e;split at e
   ·cases e;exact ⟨⟨q1,q2,q3,hm.orig,hm.len,hm.num⟩,hr⟩
   ·split at e
    ·obtain ⟨⟨o1,o2,o4⟩,o3⟩:=go b a wb wa rb ra e;exact ⟨⟨q1,q2,q3,o1,o2,o4⟩,o3⟩
    ·obtain ⟨⟨o1,o2,o4⟩,o3⟩:=go a b wa wb ra rb e;exact ⟨⟨q1,q2,q3,o1,o2,o4⟩,o3⟩
end
def a5M (l:List (Tm×Tm)):Prop:=∀ p∈l,((p.1.rng/\p.1.ok)/\p.1.size<=16)/\((p.2.rng/\p.2.ok)/\p.2.size<=16)
def I1 (l:List (Tm×Tm)):List Int:=l.flatMap fun p=>p.1.vs++p.2.vs
theorem b0r {V:List Int} (p:Int->Bool):(V.filter p).length<=V.length:=List.length_filter_le _ _
theorem b2m (t:Tm):t.vs.length<=t.size:=by
 unfold Tm.vs Tm.size vsL;rw [length_map];exact List.length_filter_le _ _
theorem a2a:∀ l:List (Tm×Tm),a5M l->(I1 l).length<=32*l.length
 | [],_=>Nat.le_refl _
 | p::l,h=>by
  have h1:=h p (by simp);have h2:=a2a l fun q hq=>h q (mem_cons_of_mem _ hq);have e:I1 (p::l)=(p.1.vs++p.2.vs)++I1 l:=flatMap_cons;have h3:=b2m p.1;have h4:=b2m p.2;rw [e,length_append,length_append,length_cons];omega
theorem b8W (l:List (Tm×Tm)) (hl:l.length<=2) (ht:a5M l):∃ n r,rUs (rU n) l []=some r/\b5c (rU n) (Cnd n) l []/\(r=none->∀ τ,¬ uni τ l)/\∀ s,r=some s->Mgu (i7 s) l/\L7 s/\inV (I1 l) s/\V6 s/\(∀ b∈s,0<=b.v)/\s.length<=64/\(∀ b∈s,b.v∈I1 l)/\(∀ t,(∃ q∈K6 l,t=q)->(a8 (i7 s) t).size<=90000000000)/\∀ v,0<=v->i7 s v=q7 v\/((i7 s v).rng/\(i7 s v).size<=90000000000):=by
 have hV:∀ v∈I1 l,0<=v:=fun v hv=>by obtain ⟨p,_,hv⟩:=mem_flatMap.1 hv;rcases mem_append.1 hv with hv | hv<;>exact o5 _ v hv
 have kJ:∀ p∈l,(∀ u∈p.1.vs,u∈I1 l)/\∀ u∈p.2.vs,u∈I1 l:=fun p hp=>⟨fun u hu=>mem_flatMap.2 ⟨p,hp,List.mem_append_left _ hu⟩,fun u hu=>mem_flatMap.2 ⟨p,hp,List.mem_append_right _ hu⟩⟩
 have h0:Mgu (i7 []) []:=Mgu.nil;obtain ⟨n,r,e,g1,g2⟩:=a2c hV l [] [] h0 (fun b hb=>by cases hb) (fun b hb=>by cases hb) kJ;rw [List.nil_append] at g1 g2;have hE:arA (K6 l)<=60:=by
  have:=a7N l fun p hp=>⟨(ht p hp).1.2,(ht p hp).2.2⟩
  omega
 have dE:=a2a l ht;have oN:a7K (I1 l) (K6 l) 64 [] ([]++[]):=⟨h0,(fun b hb=>by cases hb),(fun b hb=>by cases hb),(fun v hv hf=>by exfalso;apply hf;show (q7 v).f<0;rw [s7];omega),by
  have:frN (I1 l) []<=(I1 l).length:=b0r _;show 0+_<=64;omega,fun b hb=>by cases hb⟩
 obtain ⟨c1,c2⟩:=a3R (V:=I1 l) (S:=K6 l) (K:=64) (E:=[]) hV (b7n hV (Y9 l) (by decide) hE n) l [] [] oN (fun b hb=>by cases hb) fun p hp=>by obtain ⟨s1,s2⟩:=a9Q hp;exact ⟨fun s1' F1 h1=>⟨⟨(kJ p hp).1,p.1,s1,rfl⟩,⟨(kJ p hp).2,p.2,s2,rfl⟩⟩,(ht p hp).1.1,(ht p hp).2.1⟩
 refine ⟨n,r,e,c1,g1,fun s hs=>?_⟩;obtain ⟨k1,k2,k3⟩:=g2 s hs;rw [hs] at e;obtain ⟨m1,m2⟩:=c2 s e;have iS:∀ v,0<=v->(i7 s v).strip=i7 s v:=fun v _=>N3 k2 v;have oC:∀ q∈K6 l,(a8 (i7 s) q).size<=90000000000:=fun q hq=>b1P hE (a1h (Y9 l) m1.orig iS ⟨q,hq,rfl⟩);refine ⟨k1,k2,k3,m2,a7R (b7c n) l [] s e (fun b hb=>by cases hb),by have:=m1.len;omega,m1.num,fun t ⟨q,hq,e⟩=>by rw [e];exact oC q hq,fun v hv=>?_⟩;by_cases hf:(i7 s v).f<0
 ·unfold i7 at hf |-;cases qH:d9 s v with
  | none=>exact .inl rfl
  | some t =>
   right;rw [qH] at hf;obtain ⟨b,wV,e1,_⟩:=K9 qH;refine ⟨by show t.rng;rw [<-e1];exact (m2 b wV).1,?_⟩;show t.size<=_;rw [Tm.size_var (show t.f<0 from hf)];decide
 ·right;obtain ⟨q,hq,mU,e1⟩:=m1.orig v hv hf;refine ⟨?_,by rw [<-e1];exact oC q hq⟩;unfold i7 at hf |-;cases qH:d9 s v with
  | none=>rw [qH] at hf;exact absurd (show (q7 v).f<0 by rw [s7];omega) hf
  | some t =>
   obtain ⟨b,wV,e2,_⟩:=K9 qH;show t.rng;rw [<-e2];exact (m2 b wV).1
theorem a0d {σ σ':Int->Tm} (h:∀ v,0<=v->σ' v=σ v) (t:Tm):a8 σ' t=a8 σ t:=D7 fun v hv=>h v (o5 _ v hv)
theorem Mgu.congr {σ σ':Int->Tm} {E:List (Tm×Tm)} (hm:Mgu σ E) (h:∀ v,0<=v->σ' v=σ v):Mgu σ' E:=
 ⟨fun p hp=>by rw [a0d h,a0d h];exact hm.uni p hp,fun v hv=>by rw [h v hv];exact hm.bare v hv,fun v hv u hu=>by
  rw [h v hv] at hu;rw [h u (o5 _ u hu)];exact hm.idem v hv u hu,fun τ ht v hv=>by rw [h v hv];exact hm.most τ ht v hv,fun v hv hf=>by
  rw [h v hv] at hf |-;exact hm.low v hv hf⟩
theorem b4K {s:List Bd} (hb:L7 s) {v:Int} (hv:0<=v):i7 (y9 s) v=i7 s v:=by
 have h1:=b4W s hv;have h2:i7 (y9 s) v=(d9 (y9 s) v).getD (q7 v):=rfl;rw [h2,h1];split
 ·rename_i hi;have hi:(decide ((i7 s v).f<0)&&decide (-1-(i7 s v).f=v))=true:=hi;rw [Bool.and_eq_true,decide_eq_true_eq,decide_eq_true_eq] at hi;show q7 v=_;rw [a1k (N3 hb v) hi.1,hi.2]
 ·exact N3 hb v
structure Tells8 (l:List (Tm×Tm)) (r:List Bd×Bool):Prop where
 told:ToldU l r
 yes:r.2=true->Mgu (i7 r.1) l
 no:r.2=false->r.1=[]/\∀ τ,¬ uni τ l
 len:r.1.length<=64
 ok:∀ b∈r.1,(b.t.rng/\b.t.size<=90000000000)/\b.t.ok
 bare:L7 r.1
 inV:∀ b∈r.1,b.v∈I1 l/\∀ u∈b.t.vs,u∈I1 l
 srt:r.1.Pairwise (fun x y=>x.v<y.v)
 free:∀ t u,u∈(a8 (i7 r.1) t).vs->d9 r.1 u=none
 big:∀ q∈K6 l,(a8 (i7 r.1) q).size<=90000000000
theorem b3R {l:List (Tm×Tm)} (ht:a5M l):∀ q∈K6 l,q.size<=16:=fun q hq=>by
 have key:∀ t:Tm,∀ q∈t.flat,q.size<=t.size:=by
  intro t
  induction t using Tm.indp with
  | h t ih =>
   intro q hq;rw [Tm.flat_eq] at hq;rcases mem_cons.1 hq with rfl | hq
   ·exact Nat.le_refl _
   ·obtain ⟨p,hp,hq⟩:=mem_flatMap.1 hq;have:=ih p hp q hq;have:=Tm.size_part hp;omega
 obtain ⟨p,hp,hq⟩:=mem_flatMap.1 hq;rcases mem_append.1 hq with hq | hq
 ·exact Nat.le_trans (key _ q hq) (ht p hp).1.2
 ·exact Nat.le_trans (key _ q hq) (ht p hp).2.2
theorem b2U {l:List (Tm×Tm)} (hl:l.length<=2) (ht:a5M l):∃ n r,rUs (rU n) l []=some r/\b5c (rU n) (Cnd n) l []/\(∀ s,r=some s->s.length<=1000/\∀ b∈s,b.t.rng/\b.t.ok)/\Tells8 l ((r.map y9).getD [],r.isSome):=by
 obtain ⟨n,r,e,hC,h1,h2⟩:=b8W l hl ht;refine ⟨n,r,e,hC,fun s hs=>?_,?_⟩
 ·obtain ⟨_,_,_,m4,_,m6,_⟩:=h2 s hs;exact ⟨by omega,m4⟩
 cases r with
 | none =>
  have hn:=h1 rfl;have hid:∀ t:Tm,a8 (i7 []) t=t.strip:=fun t=>a2R t;exact ⟨.inl ⟨rfl,rfl,hn⟩,(fun h=>by cases h),fun _=>⟨rfl,hn⟩,Nat.zero_le _,(fun b hb=>by cases hb),(fun b hb=>by cases hb),(fun b hb=>by cases hb),List.Pairwise.nil,fun t u hu=>rfl,fun q hq=>by show (a8 (i7 []) q).size<=_;rw [hid,Tm.strip_size];have:=b3R ht q hq;omega⟩
 | some s =>
  obtain ⟨m1,m2,m3,m4,m5,m6,m7,m8,m9⟩:=h2 s rfl;have hi:∀ v,0<=v->i7 (y9 s) v=i7 s v:=fun v hv=>b4K m2 hv;have eR:∀ b∈y9 s,∃ c∈s,b.v=c.v/\b.t=c.t:=fun b hb=>by unfold y9 at hb;obtain ⟨c,hc,rfl⟩:=mem_map.1 hb;have fN:=W9 (List.mem_filter.1 hc).1;exact ⟨c,fN,rfl,m2 c fN⟩
  have fY:∀ b∈y9 s,d9 (y9 s) b.v=some b.t:=fun b hb=>by
   have key:∀ L:List Bd,L.Pairwise (fun x y=>x.v<y.v)->∀ b∈L,d9 L b.v=some b.t:=fun L=>by
    induction L with
    | nil=>intro _ b hb;cases hb
    | cons a L ih =>
     intro hp b hb;obtain ⟨p1,p2⟩:=List.pairwise_cons.1 hp;rw [d9];rcases mem_cons.1 hb with rfl | hb
     ·rw [if_pos rfl]
     ·rw [if_neg (by have:=p1 b hb;omega)];exact ih p2 b hb
   exact key _ (Z3 s) b hb
  refine ⟨.inr ⟨rfl,s,m1,m5,m9,rfl⟩,fun _=>m1.congr hi,(fun h=>by cases h),Nat.le_trans (b4o s) m6,fun b hb=>?_,fun b hb=>?_,fun b hb=>?_,Z3 s,fun t u hu=>?_,fun q hq=>?_⟩
  ·obtain ⟨c,hc,e1,e2⟩:=eR b hb;have h0:0<=b.v:=by rw [e1];exact m5 c hc
   have hf:=fY b hb;have tM:i7 s b.v=b.t:=by rw [<-hi _ h0];unfold i7;rw [hf];rfl
   refine ⟨⟨by rw [e2];exact (m4 c hc).1,?_⟩,by rw [e2];exact (m4 c hc).2⟩;rcases m9 b.v h0 with h | h
   ·rw [<-tM,h,Tm.size_var (by rw [s7];omega)];decide
   ·rw [<-tM];exact h.2
  ·obtain ⟨c,hc,_,e2⟩:=eR b hb;show b.t.strip=b.t;rw [e2];exact m2 c hc
  ·obtain ⟨c,hc,e1,e2⟩:=eR b hb;rw [e1,e2];exact ⟨m7 c hc,m3 c hc⟩
  ·have hu:u∈(a8 (i7 (y9 s)) t).vs:=hu;rw [a0d hi] at hu;exact b4P m1 hu
  ·show (a8 (i7 (y9 s)) q).size<=_;rw [a0d hi];exact m8 q ⟨q,hq,rfl⟩
theorem Tells8.bdsOk {l:List (Tm×Tm)} {r:List Bd×Bool} (h:Tells8 l r):bdsOk r.1:=fun b hb=>(h.ok b hb).1
theorem b8V {s:List Bd} (hs:bdsOk s) {t:Tm} (h:t.rng):(a8 (i7 s) t).rng:=a9K h fun v h1 h2=>(a7Y hs h1 h2).1
theorem a3F {t:Tm} (h:¬ t.f<0):t.size=1+(t.l.map Tm.size).sum:=by
 rw [Tm.size_eq,Tm.ps_of_sym (by omega),List.length_flatMap];rfl
theorem b7b {t s:Tm} {n:Int} (h:t.pa n=some s):∃ m:Nat,n=m/\t.l[m]?=some s/\¬ t.f<0:=by
 have hf:=a8p h;unfold Tm.pa at h;split at h
 ·rename_i h0;rw [Tm.ps_of_sym (by omega)] at h;exact ⟨n.toNat,by omega,h,hf⟩
 ·cases h
theorem b0s {l:List Tm} {m:Nat} {s:Tm} (h:l[m]?=some s):l=l.take m++s::l.drop (m+1)/\m<l.length:=by
 have hm:m<l.length:=by
  rcases Nat.lt_or_ge m l.length with h1 | h1
  ·exact h1
  ·rw [getElem?_eq_none h1] at h;cases h
 refine ⟨?_,hm⟩;have e:l[m]=s:=by rw [getElem?_eq_getElem hm] at h;exact Option.some.inj h
 rw [<-e,<-List.drop_eq_getElem_cons hm,List.take_append_drop]
theorem S4 (l:List Tm):(l.map Tm.strip).map Tm.strip=l.map Tm.strip:=by
 rw [map_map];exact List.map_congr_left fun s _=>Tm.strip_strip s
theorem a3J (u:Tm) (hu:u.rng):∀ (p:List Int) (t s:Tm),t.rng->atP p t=some s->∃ z,C8 u p t=some z/\z.rng/\atP p z=some u.strip/\C8 s.strip p z=some t.strip/\z.size+s.size=t.size+u.size
 | [],t,s,hr,h=>by
  cases h;exact ⟨u.strip,rfl,Tm.strip_rng hu,rfl,by rw [C8,Tm.strip_strip],by rw [Tm.strip_size];omega⟩
 | k::ks,t,s,hr,h=>by
  rw [atP] at h;cases hp:t.pa k with
  | none=>rw [hp] at h;cases h
  | some x =>
   rw [hp,Option.bind_some] at h;obtain ⟨m,rfl,hx,hf⟩:=b7b hp;obtain ⟨tD,hm⟩:=b0s hx;have tZ:=(Tm.rng_iff _).1 hr;obtain ⟨v,h1,h2,h3,h4,h5⟩:=a3J u hu ks x s (tZ.2 x (mem_of_getElem? hx)) h;obtain ⟨A,hA⟩:∃ A,A=(t.l.take m).map Tm.strip:=⟨_,rfl⟩
   obtain ⟨B,hB⟩:∃ B,B=(t.l.drop (m+1)).map Tm.strip:=⟨_,rfl⟩
   have tE:A.length=m:=by rw [hA,length_map,List.length_take];omega
   have hpz:(Tm.mk t.f (A++v::B)).pa (m:Int)=some v:=by unfold Tm.pa;rw [if_pos (by omega),Int.toNat_natCast,Tm.ps_of_sym (t:=⟨t.f,_⟩) (by show 0<=t.f;omega)];show (A++v::B)[m]?=some v;rw [List.getElem?_append_right (by omega),tE,Nat.sub_self];rfl
   refine ⟨⟨t.f,A++v::B⟩,?_,?_,?_,?_,?_⟩
   ·rw [C8,hp,Option.bind_some,h1,Int.toNat_natCast,<-hA,<-hB];rfl
   ·refine (Tm.rng_iff _).2 ⟨tZ.1,fun y hy=>?_⟩;rcases mem_append.1 hy with hy | hy
    ·rw [hA] at hy;obtain ⟨z,hz,rfl⟩:=mem_map.1 hy;exact Tm.strip_rng (tZ.2 z (List.mem_of_mem_take hz))
    ·rcases mem_cons.1 hy with rfl | hy
     ·exact h2
     ·rw [hB] at hy;obtain ⟨z,hz,rfl⟩:=mem_map.1 hy;exact Tm.strip_rng (tZ.2 z (List.mem_of_mem_drop hz))
   ·rw [atP,hpz,Option.bind_some,h3]
   ·rw [C8,hpz,Option.bind_some,h4,Int.toNat_natCast,Option.map_some];show some (Tm.mk t.f (((A++v::B).take m).map Tm.strip++x.strip::((A++v::B).drop (m+1)).map Tm.strip))=_;have e1:(A++v::B).take m=A:=by rw [<-tE,List.take_left]
    have e2:(A++v::B).drop (m+1)=B:=by rw [<-tE,show A++v::B=(A++[v])++B by simp,show A.length+1=(A++[v]).length by simp,List.drop_left]
    rw [e1,e2,Tm.strip_eq t,Tm.ps_of_sym (by omega)];congr 2
    conv=>rhs;rw [tD]
    rw [map_append,map_cons,hA,hB,S4,S4]
   ·have s1:=a3F (t:=⟨t.f,A++v::B⟩) hf;have s2:=a3F (t:=t) hf;simp only at s1;have s3:(t.l.map Tm.size).sum=((t.l.take m).map Tm.size).sum+(x.size+((t.l.drop (m+1)).map Tm.size).sum):=by
     conv=>lhs;rw [tD]
     rw [map_append,map_cons,List.sum_append_nat,sum_cons]
    rw [map_append,map_cons,List.sum_append_nat,sum_cons] at s1;have s4:∀ l:List Tm,(l.map Tm.strip).map Tm.size=l.map Tm.size:=fun l=>by rw [map_map];exact List.map_congr_left fun s _=>Tm.strip_size s
    have sA:(A.map Tm.size).sum=((t.l.take m).map Tm.size).sum:=by rw [hA,s4]
    have sB:(B.map Tm.size).sum=((t.l.drop (m+1)).map Tm.size).sum:=by rw [hB,s4]
    omega
def cov (a b:Tm):Prop:=∀ v,b.vs.count v<=a.vs.count v
def b3k (z w:Int):Int:=if 0<z then 1 else if z<0 then -1 else w
noncomputable def b7W (o:Int) (c d:Prop):Int:=
 haveI:=Classical.propDecidable
 if (o=1/\¬ c)\/(o = -1/\¬ d) then 2 else o
noncomputable def a0L (z:Int) (c d:Prop) (w:Int):Int:=if w=0 then 0 else b7W (b3k z w) c d
def hdK (a b:Tm):Int:=if a.f<0\/b.f<0 then 2 else if a.f≠b.f then N7 a.f b.f else N7 a.l.length b.l.length
noncomputable def O4 (k:Int) (r:Int):Int:=if k≠0 then k else r
noncomputable def szD (a b:Tm):Int:=(a.size:Int)-b.size
noncomputable def kb (p:Tm):Tm->Int:=
 Tm.rec (motive_1:=fun _=>Tm->Int) (motive_2:=fun _=>List Tm->Int)
  (fun f l ih t=>a0L (szD ⟨f,l⟩ t) (cov ⟨f,l⟩ t) (cov t ⟨f,l⟩) (if f≠t.f\/(Tm.mk f l).ps.length≠t.ps.length then hdK ⟨f,l⟩ t else if f<0 then 0 else ih t.l))
  (fun _=>0)
  (fun _ _ ih1 ih2 ts=>match ts with | []=>0 | t::ts=>O4 (ih1 t) (ih2 ts)) p
noncomputable def kbs (ps:List Tm):List Tm->Int:=
 Tm.rec_1 (motive_1:=fun _=>Tm->Int) (motive_2:=fun _=>List Tm->Int)
  (fun f l ih t=>a0L (szD ⟨f,l⟩ t) (cov ⟨f,l⟩ t) (cov t ⟨f,l⟩) (if f≠t.f\/(Tm.mk f l).ps.length≠t.ps.length then hdK ⟨f,l⟩ t else if f<0 then 0 else ih t.l))
  (fun _=>0)
  (fun _ _ ih1 ih2 ts=>match ts with | []=>0 | t::ts=>O4 (ih1 t) (ih2 ts)) ps
noncomputable def wi (a b:Tm):Int:=if a.f≠b.f\/a.ps.length≠b.ps.length then hdK a b else kbs a.ps b.ps
theorem a1I (ts:List Tm):kbs [] ts=0:=rfl
theorem C6 (p:Tm) (ps:List Tm) (t:Tm) (ts:List Tm):kbs (p::ps) (t::ts)=O4 (kb p t) (kbs ps ts):=rfl
theorem N8 (a b:Tm):kb a b=a0L (szD a b) (cov a b) (cov b a) (wi a b):=by
 cases a with
 | mk f l =>
  show a0L _ _ _ _=_;congr 1;unfold wi;simp only;split
  ·rfl
  ·rename_i h;by_cases hf:f<0
   ·rw [if_pos hf,Tm.ps_of_var (t:=⟨f,l⟩) hf,a1I]
   ·rw [if_neg hf,Tm.ps_of_sym (t:=⟨f,l⟩) (by show 0<=f;omega),Tm.ps_of_sym (t:=b) (by have:=Classical.not_not.1 (fun e=>h (.inl e));omega)];rfl
theorem S9 (z:Int) (c d:Prop) (w:Int):(w=0/\a0L z c d w=0)\/(w≠0/\∃ o,((0<z/\o=1)\/(z<0/\o = -1)\/(z=0/\o=w))/\((a0L z c d w=2/\((o=1/\¬ c)\/(o = -1/\¬ d)))\/(a0L z c d w=o/\¬ ((o=1/\¬ c)\/(o = -1/\¬ d))))):=by
 unfold a0L;by_cases h0:w=0
 ·left;exact ⟨h0,if_pos h0⟩
 ·right;refine ⟨h0,b3k z w,?_,?_⟩
  ·unfold b3k;by_cases h1:0<z
   ·rw [if_pos h1];exact .inl ⟨h1,rfl⟩
   ·rw [if_neg h1];by_cases h2:z<0
    ·rw [if_pos h2];exact .inr (.inl ⟨h2,rfl⟩)
    ·rw [if_neg h2];exact .inr (.inr ⟨by omega,rfl⟩)
  ·rw [if_neg h0];generalize b3k z w=o;unfold b7W;by_cases h3:(o=1/\¬ c)\/(o = -1/\¬ d)
   ·left;exact ⟨if_pos h3,h3⟩
   ·right;exact ⟨if_neg h3,h3⟩
theorem A9 {z:Int} {c d:Prop} {w:Int}:a0L z c d w=0↔w=0:=by
 rcases S9 z c d w with ⟨h1,h2⟩ | ⟨h1,o,h2,⟨h3,h4⟩ | ⟨h3,h4⟩⟩
 ·exact ⟨fun _=>h1,fun _=>h2⟩
 ·omega
 ·omega
theorem a4B {z:Int} {c d:Prop} {w:Int}:a0L z c d w=1↔w≠0/\c/\(0<z\/(z=0/\w=1)):=by
 rcases S9 z c d w with ⟨h1,h2⟩ | ⟨h1,o,h2,⟨h3,h4⟩ | ⟨h3,h4⟩⟩
 ·constructor
  ·intro h;omega
  ·rintro ⟨h,_⟩;exact absurd h1 h
 ·constructor
  ·intro h;omega
  ·rintro ⟨_,hc,h⟩;have:o=1:=by omega
   rcases h4 with h4 | h4
   ·exact absurd hc h4.2
   ·omega
 ·constructor
  ·intro h;have ho:o=1:=by omega
   exact ⟨h1,Classical.not_not.1 fun hc=>h4 (.inl ⟨ho,hc⟩),by omega⟩
  ·rintro ⟨_,hc,h⟩;omega
theorem a6s {z:Int} {c d:Prop} {w:Int}:a0L z c d w = -1↔w≠0/\d/\(z<0\/(z=0/\w = -1)):=by
 rcases S9 z c d w with ⟨h1,h2⟩ | ⟨h1,o,h2,⟨h3,h4⟩ | ⟨h3,h4⟩⟩
 ·constructor
  ·intro h;omega
  ·rintro ⟨h,_⟩;exact absurd h1 h
 ·constructor
  ·intro h;omega
  ·rintro ⟨_,hc,h⟩;have:o = -1:=by omega
   rcases h4 with h4 | h4
   ·omega
   ·exact absurd hc h4.2
 ·constructor
  ·intro h;have ho:o = -1:=by omega
   exact ⟨h1,Classical.not_not.1 fun hc=>h4 (.inr ⟨ho,hc⟩),by omega⟩
  ·rintro ⟨_,hc,h⟩;omega
def K4 (k:Int):Prop:=k=0\/k=1\/k = -1\/k=2
theorem a1X {z:Int} {c d:Prop} {w:Int} (h:K4 w):K4 (a0L z c d w):=by
 unfold K4 at *;rcases S9 z c d w with ⟨h1,h2⟩ | ⟨h1,o,h2,⟨h3,h4⟩ | ⟨h3,h4⟩⟩<;>omega
theorem b2L (a b:Tm):K4 (hdK a b):=by
 unfold hdK K4;split
 ·omega
 ·split
  ·rcases o9 a.f b.f with h | h | h<;>omega
  ·rcases o9 a.l.length b.l.length with h | h | h<;>omega
theorem b5a {a b:Tm} (h:a.f≠b.f\/a.ps.length≠b.ps.length):hdK a b≠0:=by
 unfold hdK;split
 ·omega
 ·rename_i h1;rw [Tm.ps_of_sym (t:=a) (by omega),Tm.ps_of_sym (t:=b) (by omega)] at h;split
  ·rcases o9 a.f b.f with h2 | h2 | h2<;>omega
  ·rcases o9 a.l.length b.l.length with h2 | h2 | h2<;>omega
theorem a4V:∀ {l m:List Tm},(∀ s∈l,∀ t,K4 (kb s t))->K4 (kbs l m)
 | [],m,_ => .inl rfl
 | _::_,[],_ => .inl rfl
 | x::l,y::m,h=>by
  rw [C6];unfold O4;split
  ·exact h x (by simp) y
  ·exact a4V fun s hs=>h s (mem_cons_of_mem _ hs)
theorem a7o (a:Tm):∀ b,K4 (kb a b):=by
 induction a using Tm.indp with
 | h a ih =>
  intro b;rw [N8];refine a1X ?_;unfold wi;split
  ·exact b2L a b
  ·exact a4V ih
theorem a9u:∀ {l m:List Tm},l.length=m.length->(∀ s∈l,∀ t,kb s t=0↔s.strip=t.strip)->(kbs l m=0↔l.map Tm.strip=m.map Tm.strip)
 | [],[],_,_=>by simp [a1I]
 | [],_::_,h,_=>by simp at h
 | _::_,[],h,_=>by simp at h
 | x::l,y::m,h,ih=>by
  rw [C6,map_cons,map_cons,List.cons.injEq,<-ih x (by simp) y,<-a9u (by simpa using h) fun s hs=>ih s (mem_cons_of_mem _ hs)];unfold O4;split
  ·rename_i h1;constructor
   ·intro h2;exact absurd h2 h1
   ·rintro ⟨h2,_⟩;exact h2
  ·rename_i h1;exact ⟨fun h2=>⟨Classical.not_not.1 h1,h2⟩,fun h2=>h2.2⟩
theorem a6T (a b:Tm):a.strip=b.strip↔a.f=b.f/\a.ps.map Tm.strip=b.ps.map Tm.strip:=by
 rw [Tm.strip_eq,Tm.strip_eq b,Tm.mk.injEq]
theorem a0i (a:Tm):∀ b,kb a b=0↔a.strip=b.strip:=by
 induction a using Tm.indp with
 | h a ih =>
  intro b;rw [N8,A9,a6T];unfold wi;split
  ·rename_i h;constructor
   ·intro h1;exact absurd h1 (b5a h)
   ·rintro ⟨h1,h2⟩;have:=congrArg List.length h2;rw [length_map,length_map] at this;omega
  ·rename_i h;have hf:a.f=b.f:=by omega
   rw [a9u (by omega) ih];exact ⟨fun h1=>⟨hf,h1⟩,fun h1=>h1.2⟩
theorem cov_strip {a b:Tm}:cov a.strip b↔cov a b:=by unfold cov;rw [Tm.strip_vs]
theorem a3u {a b:Tm}:cov a b.strip↔cov a b:=by unfold cov;rw [Tm.strip_vs]
theorem b5v (a:Tm):cov a a:=fun _=>Nat.le_refl _
theorem b3x {a b c:Tm} (h:cov a b) (h2:cov b c):cov a c:=fun v=>Nat.le_trans (h2 v) (h v)
theorem b6t (a b:Tm):hdK a.strip b.strip=hdK a b:=by
 unfold hdK;rw [Tm.strip_f,Tm.strip_f];split
 ·rfl
 ·rename_i h;split
  ·rfl
  ·rw [Tm.strip_l,Tm.strip_l,length_map,length_map,Tm.ps_of_sym (t:=a) (by omega),Tm.ps_of_sym (t:=b) (by omega)]
theorem a6p:∀ {l m:List Tm},(∀ s∈l,∀ t,kb s.strip t.strip=kb s t)->kbs (l.map Tm.strip) (m.map Tm.strip)=kbs l m
 | [],m,_=>rfl
 | _::_,[],_=>rfl
 | x::l,y::m,h=>by
  rw [map_cons,map_cons,C6,C6,h x (by simp) y,a6p fun s hs=>h s (mem_cons_of_mem _ hs)]
theorem a9H (a:Tm):∀ b,kb a.strip b.strip=kb a b:=by
 induction a using Tm.indp with
 | h a ih =>
  intro b;rw [N8,N8 a];have h1:wi a.strip b.strip=wi a b:=by unfold wi;rw [Tm.strip_f,Tm.strip_f,Tm.strip_ps,Tm.strip_ps,length_map,length_map,b6t,a6p ih]
  have h2:szD a.strip b.strip=szD a b:=by unfold szD;rw [Tm.strip_size,Tm.strip_size]
  have h3:cov a.strip b.strip=cov a b:=propext (cov_strip.trans a3u);have h4:cov b.strip a.strip=cov b a:=propext (cov_strip.trans a3u);rw [h1,h2,h3,h4]
theorem b5J {a a' b b':Tm} (h:a.strip=a'.strip) (h2:b.strip=b'.strip):kb a b=kb a' b':=by rw [<-a9H a,h,h2,a9H]
theorem a5A (a b:Tm):kb a b=1↔cov a b/\(b.size<a.size\/(a.size=b.size/\wi a b=1)):=by
 rw [N8,a4B];unfold szD;constructor
 ·rintro ⟨h1,h2,h3⟩;exact ⟨h2,by omega⟩
 ·rintro ⟨h1,h2⟩;refine ⟨fun e=>?_,h1,by omega⟩;have h3:kb a b=0:=by rw [N8,A9];exact e
  have h4:=(a0i a b).1 h3;have h5:a.size=b.size:=by rw [<-Tm.strip_size,h4,Tm.strip_size]
  omega
theorem b9r (a b:Tm) (h:hdK a b≠2):hdK b a = - hdK a b:=by
 unfold hdK at *;by_cases h1:a.f<0\/b.f<0
 ·rw [if_pos h1] at h;exact absurd rfl h
 ·rw [if_neg h1,if_neg (by omega)];by_cases h2:a.f=b.f
  ·rw [if_neg (by omega),if_neg (by omega)];rcases o9 a.l.length b.l.length with h3 | h3 | h3<;>rcases o9 b.l.length a.l.length with h4 | h4 | h4<;>omega
  ·rw [if_pos (by omega),if_pos h2];rcases o9 a.f b.f with h3 | h3 | h3<;>rcases o9 b.f a.f with h4 | h4 | h4<;>omega
theorem b6i (a b:Tm) (h:hdK a b=2):hdK b a=2:=by
 unfold hdK at *;by_cases h1:a.f<0\/b.f<0
 ·rw [if_pos (by omega)]
 ·rw [if_neg h1] at h;exfalso;split at h
  ·rcases o9 a.f b.f with h3 | h3 | h3<;>omega
  ·rcases o9 a.l.length b.l.length with h3 | h3 | h3<;>omega
def trn (k:Int):Int:=if k=2 then 2 else-k
theorem a4P {k:Int} (h:K4 k):(trn k=0↔k=0)/\(trn k=1↔k = -1)/\(trn k = -1↔k=1)/\K4 (trn k):=by
 unfold trn K4 at *;split<;>omega
theorem b4v {z:Int} {c d:Prop} {w:Int} (h:K4 w):a0L (-z) d c (trn w)=trn (a0L z c d w):=by
 have h1:=a1X (z:=z) (c:=c) (d:=d) h;have t0:=a4P h;have h2:=a1X (z := -z) (c:=d) (d:=c) t0.2.2.2;have t1:=a4P h1;have a0:=@A9 z c d w;have a1:=@a4B z c d w;have a2:=@a6s z c d w;have b0:=@A9 (-z) d c (trn w);have b1:=@a4B (-z) d c (trn w);have b2:=@a6s (-z) d c (trn w);generalize a0L (-z) d c (trn w)=y at *;generalize a0L z c d w=x at *;have e0:y=0↔x=0:=by rw [b0,a0];exact t0.1
 have e1:y=1↔x = -1:=by
  rw [b1,a2];constructor
  ·rintro ⟨g1,g2,g3⟩;exact ⟨fun e=>g1 (t0.1.2 e),g2,by rcases g3 with g3 | ⟨g3,g4⟩;omega;exact .inr ⟨by omega,t0.2.1.1 g4⟩⟩
  ·rintro ⟨g1,g2,g3⟩;exact ⟨fun e=>g1 (t0.1.1 e),g2,by rcases g3 with g3 | ⟨g3,g4⟩;omega;exact .inr ⟨by omega,t0.2.1.2 g4⟩⟩
 have e2:y = -1↔x=1:=by
  rw [b2,a1];constructor
  ·rintro ⟨g1,g2,g3⟩;exact ⟨fun e=>g1 (t0.1.2 e),g2,by rcases g3 with g3 | ⟨g3,g4⟩;omega;exact .inr ⟨by omega,t0.2.2.1.1 g4⟩⟩
  ·rintro ⟨g1,g2,g3⟩;exact ⟨fun e=>g1 (t0.1.1 e),g2,by rcases g3 with g3 | ⟨g3,g4⟩;omega;exact .inr ⟨by omega,t0.2.2.1.2 g4⟩⟩
 unfold trn;unfold K4 at h1 h2;split<;>omega
theorem a9J:∀ {l m:List Tm},l.length=m.length->(∀ s∈l,∀ t,kb t s=trn (kb s t))->kbs m l=trn (kbs l m)
 | [],[],_,_=>by rw [a1I];rfl
 | [],_::_,h,_=>by simp at h
 | _::_,[],h,_=>by simp at h
 | x::l,y::m,h,ih=>by
  rw [C6,C6,ih x (by simp) y,a9J (by simpa using h) fun s hs=>ih s (mem_cons_of_mem _ hs)];have:=(a4P (a7o x y)).1;unfold O4;by_cases h1:kb x y=0
  ·rw [if_neg (fun e=>e (this.2 h1)),if_neg (by omega)]
  ·rw [if_pos (fun e=>h1 (this.1 e)),if_pos h1]
theorem a7X (a:Tm):∀ b,kb b a=trn (kb a b):=by
 induction a using Tm.indp with
 | h a ih =>
  intro b;rw [N8,N8 a];have h1:szD b a = - szD a b:=by unfold szD;omega
  have h4:K4 (wi a b):=by
   unfold wi;split
   ·exact b2L a b
   ·exact a4V fun s _ t=>a7o s t
  rw [h1,<-b4v h4];congr 1;unfold wi;by_cases h:a.f≠b.f\/a.ps.length≠b.ps.length
  ·rw [if_pos h,if_pos (by omega)];unfold trn;split
   ·rename_i h2;exact b6i a b h2
   ·rename_i h2;exact b9r a b h2
  ·rw [if_neg h,if_neg (by omega)];exact a9J (by omega) ih
theorem b9p (a:Tm):kb a a=0:=(a0i a a).2 rfl
theorem c1K {a b:Tm}:hdK a b=1↔¬ a.f<0/\¬ b.f<0/\(b.f<a.f\/(a.f=b.f/\b.l.length<a.l.length)):=by
 unfold hdK;split
 ·constructor
  ·intro h;omega
  ·rintro ⟨h1,h2,_⟩;omega
 ·rename_i h;split
  ·rename_i h2;rcases o9 a.f b.f with h3 | h3 | h3
   ·constructor
    ·intro h4;omega
    ·rintro ⟨_,_,h4⟩;omega
   ·constructor
    ·intro h4;omega
    ·rintro ⟨_,_,h4⟩;omega
   ·exact ⟨fun _=>⟨by omega,by omega,by omega⟩,fun _=>h3.1⟩
  ·rename_i h2;rcases o9 a.l.length b.l.length with h3 | h3 | h3
   ·constructor
    ·intro h4;omega
    ·rintro ⟨_,_,h4⟩;omega
   ·constructor
    ·intro h4;omega
    ·rintro ⟨_,_,h4⟩;omega
   ·exact ⟨fun _=>⟨by omega,by omega,by omega⟩,fun _=>h3.1⟩
theorem c1M {a b:Tm}:wi a b=1↔¬ a.f<0/\¬ b.f<0/\(b.f<a.f\/(a.f=b.f/\(b.l.length<a.l.length\/(a.l.length=b.l.length/\kbs a.l b.l=1)))):=by
 unfold wi;split
 ·rename_i h;rw [c1K];constructor
  ·rintro ⟨h1,h2,h3⟩;exact ⟨h1,h2,by omega⟩
  ·rintro ⟨h1,h2,h3⟩;rw [Tm.ps_of_sym (t:=a) (by omega),Tm.ps_of_sym (t:=b) (by omega)] at h;exact ⟨h1,h2,by omega⟩
 ·rename_i h;by_cases hf:a.f<0
  ·rw [Tm.ps_of_var hf,a1I];constructor
   ·intro h;omega
   ·rintro ⟨h1,_⟩;omega
  ·rw [Tm.ps_of_sym (t:=a) (by omega),Tm.ps_of_sym (t:=b) (by omega)] at h |-;constructor
   ·intro h1;exact ⟨hf,by omega,.inr ⟨by omega,.inr ⟨by omega,h1⟩⟩⟩
   ·rintro ⟨h1,h2,h3 | ⟨h3,h4 | ⟨h4,h5⟩⟩⟩
    ·omega
    ·omega
    ·exact h5
theorem a3h {k r:Int}:O4 k r=1↔k=1\/(k=0/\r=1):=by
 unfold O4;split<;>omega
theorem b9l {a b:Tm} (h:kb a b=1):kb b a = -1:=by rw [a7X,h];rfl
theorem a1E {l:List Tm} {s:Tm} (h:s∈l) (v:Int):s.vs.count v<=(l.flatMap Tm.vs).count v:=by
 induction l with
 | nil=>cases h
 | cons x l ih =>
  rw [flatMap_cons,count_append];rcases mem_cons.1 h with rfl | h
  ·omega
  ·have:=ih h;omega
theorem b6u {t s:Tm} (h:s∈t.ps):cov t s:=by
 obtain ⟨h1,h2⟩:=Tm.ps_mem h;intro v;rw [Tm.vs_sym (t:=t) (by omega)];exact a1E h1 v
theorem c1A {a b:Tm} (h:cov a b) (h2:b.size<a.size):kb a b=1:=(a5A a b).2 ⟨h,.inl h2⟩
theorem b1Z:∀ {p:List Int} {t s:Tm},atP p t=some s->cov t s/\(p≠[]->s.size<t.size)/\s.size<=t.size
 | [],t,s,h=>by
  have h:some t=some s:=h;cases h;exact ⟨b5v _,fun h=>absurd rfl h,Nat.le_refl _⟩
 | n::p,t,s,h=>by
  rw [show n::p=[n]++p from rfl,b0I] at h;cases h1:atP [n] t with
  | none=>rw [h1] at h;cases h
  | some u =>
   rw [h1] at h;have h1:(t.pa n).bind (atP [])=some u:=h1;cases h2:t.pa n with
   | none=>rw [h2] at h1;cases h1
   | some u' =>
    rw [h2] at h1;have h1:some u'=some u:=h1;cases h1;have hm:=a5w h2;have hs:=Tm.size_part hm;obtain ⟨g1,g2,g3⟩:=b1Z (p:=p) (t:=u) (s:=s) h;exact ⟨b3x (b6u hm) g1,fun _=>by omega,by omega⟩
theorem b7R {p:List Int} {t s:Tm} (h:atP p t=some s) (hp:p≠[]):kb t s=1:=c1A (b1Z h).1 ((b1Z h).2.1 hp)
theorem a0f:∀ {b a:List Int},(∀ v,b.count v<=a.count v)->∃ r,a.Perm (b++r)
 | [],a,_=>⟨a,by simp⟩
 | x::b,a,h=>by
  have hx:x∈a:=by have:=h x;rw [List.count_cons_self] at this;exact List.count_pos_iff.1 (by omega)
  have hp:=List.perm_cons_erase hx;obtain ⟨r,hr⟩:=a0f (b:=b) (a:=a.erase x) (fun v=>by have h1:=h v;have h2:=hp.count_eq v;rw [List.count_cons] at h1 h2;omega)
  exact ⟨r,hp.trans (by rw [List.cons_append];exact hr.cons x)⟩
theorem a0k (l:List Int) (g:Int->List Int) (v:Int):(l.flatMap g).count v=(l.map fun x=>(g x).count v).sum:=by
 induction l with
 | nil=>rfl
 | cons x l ih=>rw [flatMap_cons,count_append,ih,map_cons,sum_cons]
theorem a7e {l m:List Nat} (h:l.Perm m):l.sum=m.sum:=by
 induction h with
 | nil=>rfl
 | cons x _ ih=>rw [sum_cons,sum_cons,ih]
 | swap x y l=>simp only [sum_cons];omega
 | trans _ _ ih1 ih2=>exact ih1.trans ih2
theorem a7a {l m:List Int} (h:l.Perm m):l.sum=m.sum:=by
 induction h with
 | nil=>rfl
 | cons x _ ih=>rw [sum_cons,sum_cons,ih]
 | swap x y l=>simp only [sum_cons];omega
 | trans _ _ ih1 ih2=>exact ih1.trans ih2
theorem b0P {l:List Int} (h:∀ x∈l,0<=x):0<=l.sum:=by
 induction l with
 | nil=>simp
 | cons x l ih =>
  rw [sum_cons];have:=h x (by simp);have:=ih fun y hy=>h y (mem_cons_of_mem _ hy);omega
theorem b8o (img:Int->Tm) {a b:Tm} (h:cov a b):cov (a8 img a) (a8 img b)/\szD a b<=szD (a8 img a) (a8 img b):=by
 obtain ⟨r,hr⟩:=a0f h;constructor
 ·intro v;rw [a1C,a1C,a0k,a0k,a7e (hr.map _),map_append,List.sum_append_nat];omega
 ·unfold szD;rw [a6e,a6e,a7a (hr.map _),map_append,List.sum_append_int];have:0<=(r.map fun v=>((img v).size:Int)-1).sum:=by refine b0P fun x hx=>?_;obtain ⟨v,_,rfl⟩:=mem_map.1 hx;have:=(img v).size_pos;omega
  omega
theorem b2x (img:Int->Tm):∀ {l m:List Tm},(∀ s∈l,∀ t,kb s t=1->kb (a8 img s) (a8 img t)=1)->kbs l m=1->kbs (l.map (a8 img)) (m.map (a8 img))=1
 | [],_,_,h=>by rw [a1I] at h;omega
 | _::_,[],_,h=>by cases h
 | x::l,y::m,ih,h=>by
  rw [C6,a3h] at h;rw [map_cons,map_cons,C6,a3h];rcases h with h | ⟨h,h'⟩
  ·exact .inl (ih x (by simp) y h)
  ·right;refine ⟨?_,b2x img (fun s hs=>ih s (mem_cons_of_mem _ hs)) h'⟩;rw [<-L4 img x,(a0i x y).1 h,L4];exact b9p _
theorem b2X (img:Int->Tm) (a:Tm):∀ b,kb a b=1->kb (a8 img a) (a8 img b)=1:=by
 induction a using Tm.ind with
 | h f l ih =>
  intro b h;rw [a5A] at h;obtain ⟨h1,h2⟩:=h;obtain ⟨c1,c2⟩:=b8o img h1;unfold szD at c2;rw [a5A];refine ⟨c1,?_⟩;rcases h2 with h2 | ⟨h2,h3⟩
  ·left;omega
  ·rcases Nat.lt_or_ge (a8 img b).size (a8 img ⟨f,l⟩).size with h4 | h4
   ·exact .inl h4
   ·right;refine ⟨by omega,?_⟩;rw [c1M] at h3 |-;obtain ⟨h5,h6,h7⟩:=h3;rw [d8 h5,d8 h6];refine ⟨h5,h6,?_⟩;simp only [length_map];rcases h7 with h7 | ⟨h7,h8 | ⟨h8,h9⟩⟩
    ·exact .inl h7
    ·exact .inr ⟨h7,.inl h8⟩
    ·exact .inr ⟨h7,.inr ⟨h8,b2x img ih h9⟩⟩
theorem b7I (img:Int->Tm) {a b:Tm} (h:kb a b≠2):kb (a8 img a) (a8 img b)=kb a b:=by
 rcases a7o a b with h1 | h1 | h1 | h1
 ·rw [h1,a0i,<-L4 img a,(a0i a b).1 h1,L4]
 ·rw [h1];exact b2X img a b h1
 ·have h2:kb b a=1:=by rw [a7X a b,h1];rfl
  rw [h1];exact b9l (b2X img b a h2)
 ·exact absurd h1 h
def cn (s:Tm) (l:List Tm):Nat:=l.countP (fun t=>E5 s t)
theorem c0Q (s:Tm):cn s []=0:=rfl
theorem a8a (s t:Tm) (l:List Tm):cn s (t::l)=cn s l+(if E5 s t=true then 1 else 0):=by unfold cn;exact List.countP_cons
theorem a0s (s:Tm):E5 s s=true:=(A0 _ _).2 rfl
theorem b6O {s t:Tm} (h:E5 s t=true) (l:List Tm):cn s l=cn t l:=by
 unfold cn;refine List.countP_congr fun x _=>?_;rw [A0,A0,(A0 _ _).1 h]
theorem a5C {s:Tm} {l:List Tm}:0<cn s l↔∃ t∈l,E5 s t=true:=by unfold cn;exact List.countP_pos_iff
theorem b2d {t:Tm} {l:List Tm} (h:t∈l):0<cn t l:=a5C.2 ⟨t,h,a0s t⟩
theorem b2k {a a' b b':Tm} (h:E5 a a'=true) (h2:E5 b b'=true):kb a b=kb a' b':=b5J ((A0 _ _).1 h) ((A0 _ _).1 h2)
def b8M (A B:List Tm):Prop:=(∃ s,cn s B<cn s A)/\∀ s,cn s A<cn s B->∃ t,cn t B<cn t A/\kb t s=1
theorem b8u (A:List Tm):¬ b8M A A:=fun h=>by obtain ⟨s,h⟩:=h.1;omega
def E3:Nat->List Tm->List Tm->List Tm×List Tm
 | 0,a,b=>(a,b)
 | n+1,a,b=>match a[n]? with
  | none=>E3 n a b
  | some t=>match b.findIdx? (E5 t) with
   | none=>E3 n a b
   | some k=>E3 n (a.eraseIdx n) (b.eraseIdx k)
theorem a1c (s:Tm):∀ {l:List Tm} {k:Nat} {t:Tm},l[k]?=some t->cn s (l.eraseIdx k)+(if E5 s t=true then 1 else 0)=cn s l
 | [],k,t,h=>by simp at h
 | x::l,0,t,h=>by
  have e:x=t:=by simpa using h
  subst e;rw [List.eraseIdx_cons_zero,a8a]
 | x::l,k+1,t,h=>by
  have e:=a1c s (l:=l) (k:=k) (t:=t) (by simpa using h);rw [List.eraseIdx_cons_succ,a8a,a8a,<-e];omega
theorem a8n:∀ (n:Nat) (a b:List Tm) (s:Tm),cn s (E3 n a b).1+cn s b=cn s (E3 n a b).2+cn s a
 | 0,a,b,s=>by unfold E3;exact Nat.add_comm _ _
 | n+1,a,b,s=>by
  unfold E3;split
  ·exact a8n n a b s
  ·rename_i t ht;split
   ·exact a8n n a b s
   ·rename_i k hk;obtain ⟨kF,hp,_⟩:=List.findIdx?_eq_some_iff_getElem.1 hk;have h1:=a8n n (a.eraseIdx n) (b.eraseIdx k) s;have h2:=a1c s ht;have h3:=a1c s (getElem?_eq_getElem kF);have h4:E5 s t=E5 s b[k]:=by rw [Bool.eq_iff_iff,A0,A0,(A0 _ _).1 hp]
    rw [h4] at h2;omega
theorem b6K {a:List Tm} {n:Nat} {t:Tm} (h:a[n]?=some t):a.drop n=t::a.drop (n+1):=by
 obtain ⟨hl,he⟩:=List.getElem?_eq_some_iff.1 h;rw [List.drop_eq_getElem_cons hl,he]
theorem b1n {a:List Tm} {n:Nat} (h:n<a.length):(a.eraseIdx n).drop n=a.drop (n+1):=by
 rw [List.eraseIdx_eq_take_drop_succ,List.drop_append];rw [List.length_take,Nat.min_eq_left (by omega)];simp
theorem a1Z:∀ (n:Nat) (a b:List Tm),n<=a.length->(∀ t∈a.drop n,cn t b=0)->∀ t∈(E3 n a b).1,cn t (E3 n a b).2=0
 | 0,a,b,_,h=>by unfold E3;simpa using h
 | n+1,a,b,hn,h=>by
  unfold E3;split
  ·rename_i ht;rw [List.getElem?_eq_none_iff] at ht;omega
  ·rename_i t ht;split
   ·rename_i hk;refine a1Z n a b (by omega) fun u hu=>?_;rw [b6K ht] at hu;rcases mem_cons.1 hu with rfl | hu
    ·rw [List.findIdx?_eq_none_iff] at hk;refine Nat.eq_zero_of_not_pos fun hc=>?_;obtain ⟨v,hv,he⟩:=a5C.1 hc;have:=hk v hv;rw [he] at this;cases this
    ·exact h u hu
   ·rename_i k hk;obtain ⟨kF,hp,_⟩:=List.findIdx?_eq_some_iff_getElem.1 hk;refine a1Z n _ _ (by rw [List.length_eraseIdx_of_lt (by omega)];omega) fun u hu=>?_;rw [b1n (by omega)] at hu;have h1:=h u hu;have h2:=a1c u (getElem?_eq_getElem kF);omega
noncomputable def a9V (X Y:List Tm):Bool:=decide (0<X.length)&&!(Y.any fun y=>!(X.any fun x=>decide (kb x y=1)))
theorem b6e (X Y:List Tm):a9V X Y=true↔X≠[]/\∀ y∈Y,∃ x∈X,kb x y=1:=by
 unfold a9V;rw [Bool.and_eq_true,decide_eq_true_iff,Bool.not_eq_true',<-Bool.not_eq_true,any_eq_true,List.length_pos_iff];refine and_congr_right fun _=>⟨fun h y hy=>?_,fun h hc=>?_⟩
 ·by_cases hx:(X.any fun x=>decide (kb x y=1))=true
  ·obtain ⟨x,hx,he⟩:=any_eq_true.1 hx;exact ⟨x,hx,of_decide_eq_true he⟩
  ·exact absurd ⟨y,hy,by simpa using hx⟩ h
 ·obtain ⟨y,hy,he⟩:=hc;obtain ⟨x,hx,hk⟩:=h y hy;have:(X.any fun x=>decide (kb x y=1))=true:=any_eq_true.2 ⟨x,hx,decide_eq_true hk⟩;rw [this] at he;cases he
theorem b8U {X Y A B:List Tm} (h1:∀ s,cn s X=cn s A-cn s B) (h2:∀ s,cn s Y=cn s B-cn s A):a9V X Y=true↔b8M A B:=by
 rw [b6e];unfold b8M;constructor
 ·rintro ⟨h3,h4⟩;refine ⟨?_,fun s hs=>?_⟩
  ·cases X with
   | nil=>exact absurd rfl h3
   | cons x X =>
    have h5:=b2d (l:=x::X) List.mem_cons_self;have h6:=h1 x;exact ⟨x,by omega⟩
  ·have h5:=h2 s;obtain ⟨y,hy,he⟩:=a5C.1 (show 0<cn s Y by omega);obtain ⟨x,hx,hk⟩:=h4 y hy;have h6:=b2d hx;have h7:=h1 x;exact ⟨x,by omega,by rw [b2k (a0s x) he];exact hk⟩
 ·rintro ⟨⟨s,hs⟩,h4⟩;refine ⟨?_,fun y hy=>?_⟩
  ·rintro rfl;have h5:=h1 s;rw [c0Q] at h5;omega
  ·have h5:=b2d hy;have h6:=h2 y;obtain ⟨t,ht,hk⟩:=h4 y (by omega);have h7:=h1 t;obtain ⟨x,hx,he⟩:=a5C.1 (show 0<cn t X by omega);exact ⟨x,hx,by rw [<-b2k he (a0s y)];exact hk⟩
noncomputable def a7y (a b:List Tm):Bool:=a9V (E3 a.length a b).1 (E3 a.length a b).2
theorem b6P (a b:List Tm):a7y a b=true↔b8M a b:=by
 have h1:=a8n a.length a b;have h2:=a1Z a.length a b (Nat.le_refl _) (by simp);have h3:∀ s,cn s (E3 a.length a b).1=0\/cn s (E3 a.length a b).2=0:=by
  intro s;by_cases hc:0<cn s (E3 a.length a b).1
  ·obtain ⟨t,ht,he⟩:=a5C.1 hc;right;rw [b6O he];exact h2 t ht
  ·left;omega
 refine b8U (fun s=>?_) (fun s=>?_)
 ·have:=h1 s;have:=h3 s;omega
 ·have:=h1 s;have:=h3 s;omega
structure Sc where
 sz:Int
 mp:List (Int×Int)
 sp:Int
 lk:Int
def B5:List (Int×Int)->Int->Option Int
 | [],_=>none
 | (k,x)::l,v=>if k=v then some x else B5 l v
def D9 (l:List (Int×Int)) (v:Int):Int:=(B5 l v).getD 0
def U8:List (Int×Int)->Int->Int->List (Int×Int)
 | [],v,y=>[(v,y)]
 | (k,x)::l,v,y=>if k=v then (v,y)::l else (k,x)::U8 l v y
theorem b8P (l:List (Int×Int)) (v y:Int):U8 l v y≠[]:=by
 cases l with
 | nil=>simp [U8]
 | cons p l =>
  obtain ⟨k,x⟩:=p;rw [U8];split<;>simp
theorem b4w (l:List (Int×Int)) (v y u:Int):B5 (U8 l v y) u=if v=u then some y else B5 l u:=by
 induction l with
 | nil=>rfl
 | cons p l ih =>
  obtain ⟨k,x⟩:=p;rw [U8];by_cases h:k=v
  ·rw [if_pos h,B5,B5];by_cases h2:v=u
   ·rw [if_pos h2,if_pos h2]
   ·rw [if_neg h2,if_neg h2,if_neg (by omega)]
  ·rw [if_neg h,B5,B5];by_cases h2:k=u
   ·rw [if_pos h2,if_pos h2,if_neg (by omega)]
   ·rw [if_neg h2,if_neg h2,ih]
theorem a9l (l:List (Int×Int)) (v y u:Int):D9 (U8 l v y) u=if v=u then y else D9 l u:=by
 unfold D9;rw [b4w];split<;>rfl
def D8 (s:Sc) (v σ:Int):Sc:=⟨s.sz,U8 s.mp v (D9 s.mp v+σ),s.sp+(max (D9 s.mp v+σ) 0-max (D9 s.mp v) 0),s.lk+(max (-(D9 s.mp v+σ)) 0-max (-(D9 s.mp v)) 0)⟩
def a7i (σ:Int) (s:Sc) (t:Tm):Sc:=if t.f<0 then D8 ⟨s.sz+σ,s.mp,s.sp,s.lk⟩ (-1-t.f) σ else ⟨s.sz+σ,s.mp,s.sp,s.lk⟩
def addT (σ:Int) (s:Sc) (t:Tm):Sc:=t.flat.foldl (a7i σ) s
def addL (σ:Int) (s:Sc) (l:List Tm):Sc:=(l.flatMap Tm.flat).foldl (a7i σ) s
theorem b5D {σ:Int} {s:Sc} {t:Tm} (h:t.f<0):addT σ s t=D8 ⟨s.sz+σ,s.mp,s.sp,s.lk⟩ (-1-t.f) σ:=by
 unfold addT;rw [Tm.flat_eq,Tm.ps_of_var h];show a7i σ s t=_;unfold a7i;rw [if_pos h]
theorem b6k {σ:Int} {s:Sc} {t:Tm} (h:¬ t.f<0):addT σ s t=addL σ ⟨s.sz+σ,s.mp,s.sp,s.lk⟩ t.l:=by
 unfold addT addL;rw [Tm.flat_eq,Tm.ps_of_sym (by omega),foldl_cons];congr 1;unfold a7i;rw [if_neg h]
theorem b4a {σ:Int} {s:Sc} {l:List Tm} {k:Nat} {t:Tm} (h:l[k]?=some t):addL σ s (l.take (k+1))=addT σ (addL σ s (l.take k)) t:=by
 unfold addL addT;rw [List.take_add_one,h,flatMap_append,List.foldl_append];simp
def upS (l:List (Int×Int)):Int:=(l.map fun p=>max p.2 0).sum
def dnS (l:List (Int×Int)):Int:=(l.map fun p=>max (-p.2) 0).sum
def ndk (l:List (Int×Int)):Prop:=(l.map (·.1)).Nodup
theorem a3c {l:List (Int×Int)} {v:Int} (h:v∉l.map (·.1)):B5 l v=none:=by
 induction l with
 | nil=>rfl
 | cons p l ih =>
  obtain ⟨k,x⟩:=p;rw [map_cons,mem_cons,not_or] at h;rw [B5,if_neg (fun e=>h.1 e.symm),ih h.2]
theorem b6B {l:List (Int×Int)} {v y u:Int} (h:u∈(U8 l v y).map (·.1)):u=v\/u∈l.map (·.1):=by
 induction l with
 | nil=>simp [U8] at h;exact .inl h
 | cons p l ih =>
  obtain ⟨k,x⟩:=p;rw [U8] at h;split at h
  ·rename_i e;rw [map_cons,mem_cons] at h |-;rcases h with h | h
   ·exact .inl h
   ·exact .inr (.inr h)
  ·rw [map_cons,mem_cons] at h |-;rcases h with h | h
   ·exact .inr (.inl h)
   ·rcases ih h with h | h
    ·exact .inl h
    ·exact .inr (.inr h)
theorem b8v {l:List (Int×Int)} (h:ndk l) (v y:Int):ndk (U8 l v y)/\upS (U8 l v y)=upS l+(max y 0-max (D9 l v) 0)/\dnS (U8 l v y)=dnS l+(max (-y) 0-max (-(D9 l v)) 0):=by
 induction l with
 | nil=>exact ⟨by simp [U8,ndk],by simp [U8,upS,D9,B5],by simp [U8,dnS,D9,B5]⟩
 | cons p l ih =>
  obtain ⟨k,x⟩:=p;unfold ndk at h;rw [map_cons,nodup_cons] at h;rw [U8];by_cases e:k=v
  ·rw [if_pos e];have hg:D9 ((k,x)::l) v=x:=by unfold D9 B5;rw [if_pos e];rfl
   rw [hg];refine ⟨by unfold ndk;rw [map_cons,nodup_cons];exact e▸h,?_,?_⟩
   ·simp only [upS,map_cons,sum_cons];omega
   ·simp only [dnS,map_cons,sum_cons];omega
  ·rw [if_neg e];have hg:D9 ((k,x)::l) v=D9 l v:=by unfold D9;rw [B5,if_neg e]
   obtain ⟨h1,h2,h3⟩:=ih h.2;rw [hg];refine ⟨?_,?_,?_⟩
   ·unfold ndk;rw [map_cons,nodup_cons];refine ⟨fun hm=>?_,h1⟩;rcases b6B hm with hm | hm
    ·exact e hm
    ·exact h.1 hm
   ·unfold upS at h2 |-;rw [map_cons,sum_cons,h2,map_cons,sum_cons];omega
   ·unfold dnS at h3 |-;rw [map_cons,sum_cons,h3,map_cons,sum_cons];omega
theorem b6X {l:List (Int×Int)} (h:ndk l):0<=upS l/\(upS l=0↔∀ v,D9 l v<=0):=by
 induction l with
 | nil=>exact ⟨by simp [upS],by simp [upS,D9,B5]⟩
 | cons p l ih =>
  obtain ⟨k,x⟩:=p;unfold ndk at h;rw [map_cons,nodup_cons] at h;obtain ⟨h1,h2⟩:=ih h.2;have e:upS ((k,x)::l)=max x 0+upS l:=by simp [upS]
  rw [e];refine ⟨by omega,?_⟩;constructor
  ·intro h3 v;have h4:=h2.1 (by omega) v;unfold D9 at h4 |-;rw [B5];split
   ·show x<=0;omega
   ·exact h4
  ·intro h3;have hx:=h3 k;unfold D9 at hx;rw [B5,if_pos rfl] at hx;have hx:x<=0:=hx;have:=h2.2 fun v=>by
    by_cases hv:k=v
    ·subst hv;unfold D9;rw [a3c h.1];exact Int.le_refl 0
    ·have:=h3 v;unfold D9 at this |-;rw [B5,if_neg hv] at this;exact this
   omega
theorem b6W {l:List (Int×Int)} (h:ndk l):0<=dnS l/\(dnS l=0↔∀ v,0<=D9 l v):=by
 induction l with
 | nil=>exact ⟨by simp [dnS],by simp [dnS,D9,B5]⟩
 | cons p l ih =>
  obtain ⟨k,x⟩:=p;unfold ndk at h;rw [map_cons,nodup_cons] at h;obtain ⟨h1,h2⟩:=ih h.2;have e:dnS ((k,x)::l)=max (-x) 0+dnS l:=by simp [dnS]
  rw [e];refine ⟨by omega,?_⟩;constructor
  ·intro h3 v;have h4:=h2.1 (by omega) v;unfold D9 at h4 |-;rw [B5];split
   ·show 0<=x;omega
   ·exact h4
  ·intro h3;have hx:=h3 k;unfold D9 at hx;rw [B5,if_pos rfl] at hx;have hx:0<=x:=hx;have:=h2.2 fun v=>by
    by_cases hv:k=v
    ·subst hv;unfold D9;rw [a3c h.1];exact Int.le_refl 0
    ·have:=h3 v;unfold D9 at this |-;rw [B5,if_neg hv] at this;exact this
   omega
structure Ss (s:Sc) (z:Int) (D:Int->Int):Prop where
 sz:s.sz=z
 nd:ndk s.mp
 sp:s.sp=upS s.mp
 lk:s.lk=dnS s.mp
 at_:∀ v,D9 s.mp v=D v
theorem Ss.addV {s:Sc} {z:Int} {D:Int->Int} (h:Ss s z D) (v σ:Int):Ss (D8 s v σ) z (fun u=>D u+if v=u then σ else 0):=by
 obtain ⟨h1,h2,h3⟩:=b8v h.nd v (D9 s.mp v+σ);refine ⟨h.sz,h1,?_,?_,fun u=>?_⟩
 ·show s.sp+_=upS (U8 _ _ _);rw [h2,h.sp]
 ·show s.lk+_=dnS (U8 _ _ _);rw [h3,h.lk]
 ·show D9 (U8 _ _ _) u=_;rw [a9l];split
  ·rename_i e;subst e;rw [h.at_]
  ·rw [h.at_];omega
theorem b6T {σ:Int} {s:Sc} {t:Tm} (h:t.f<0):a7i σ s t=D8 ⟨s.sz+σ,s.mp,s.sp,s.lk⟩ (-1-t.f) σ:=if_pos h
theorem b6d {σ:Int} {s:Sc} {t:Tm} (h:¬ t.f<0):a7i σ s t=⟨s.sz+σ,s.mp,s.sp,s.lk⟩:=if_neg h
theorem Ss.fold {σ:Int}:∀ {l:List Tm} {s:Sc} {z:Int} {D:Int->Int},Ss s z D->Ss (l.foldl (a7i σ) s) (z+σ*l.length) (fun v=>D v+σ*((vsL l).count v:Int))
 | [],s,z,D,h=>by
  refine ⟨by show s.sz=_;rw [h.sz];simp,h.nd,h.sp,h.lk,fun v=>?_⟩;show D9 s.mp v=_;rw [h.at_];simp [vsL]
 | t::l,s,z,D,h=>by
  rw [foldl_cons];have h0:Ss ⟨s.sz+σ,s.mp,s.sp,s.lk⟩ (z+σ) D:=⟨by show s.sz+σ=_;rw [h.sz],h.nd,h.sp,h.lk,h.at_⟩
  have e1:σ*((t::l).length:Int)=σ+σ*(l.length:Int):=by rw [length_cons];push_cast;rw [Int.mul_add];omega
  by_cases hf:t.f<0
  ·have h1:=(h0.addV (-1-t.f) σ).fold (σ:=σ) (l:=l);rw [b6T hf];refine ⟨?_,h1.nd,h1.sp,h1.lk,fun v=>?_⟩
   ·rw [h1.sz,e1];omega
   ·rw [h1.at_];have e2:(vsL (t::l)).count v=(if -1-t.f=v then 1 else 0)+(vsL l).count v:=by unfold vsL;rw [List.filter_cons,if_pos (by simpa using hf),map_cons,List.count_cons];simp only [beq_iff_eq];omega
    rw [e2];split
    ·push_cast;rw [Int.mul_add];omega
    ·push_cast;rw [Int.mul_add];omega
  ·have h1:=h0.fold (σ:=σ) (l:=l);rw [b6d hf];refine ⟨?_,h1.nd,h1.sp,h1.lk,fun v=>?_⟩
   ·rw [h1.sz,e1];omega
   ·rw [h1.at_];have e2:vsL (t::l)=vsL l:=by unfold vsL;rw [List.filter_cons,if_neg (by simpa using hf)]
    rw [e2]
noncomputable def mrv (p:Int×Int):CV := .row [.i p.1,.i p.2]
theorem a1e (l:List (Int×Int)):y6 .i64 (l.map mrv):=fun r hr=>by
 obtain ⟨p,_,rfl⟩:=mem_map.1 hr;exact ⟨p.1,.i p.2,rfl⟩
theorem b8z (l:List (Int×Int)) (v:Int):F4 .i64 v (l.map mrv)=(B5 l v).map CV.i:=by
 induction l with
 | nil=>rfl
 | cons p l ih =>
  obtain ⟨k,x⟩:=p;rw [map_cons,mrv,Q7,B5];split
  ·rfl
  ·exact ih
theorem c1D (l:List (Int×Int)) (v:Int):(F4 .i64 v (l.map mrv)).getD (.sc (.int .i64 0)) = .i (D9 l v):=by
 rw [b8z];unfold D9;cases B5 l v<;>rfl
theorem b7F (l:List (Int×Int)) (v y:Int):a2s .i64 v (.i y) (l.map mrv)=(U8 l v y).map mrv:=by
 induction l with
 | nil=>rfl
 | cons p l ih =>
  obtain ⟨k,x⟩:=p;rw [map_cons,mrv,a4A,U8];split
  ·rfl
  ·rw [map_cons,ih];rfl
noncomputable def mB (l:List (Int×Int)):AV:=⟨if l=[] then 17 else 14,.lst (l.map mrv),0,0,[]⟩
noncomputable abbrev sst (s:Sc):AS:=[(450001,.obj),(35500100,.val (.i s.sz)),(35500101,.mref 300001),(35500102,.val (.i s.sp)),(35500103,.val (.i s.lk)),(300001,mB s.mp)]
noncomputable abbrev c1U (z p k:Int):AS:=[(450001,.obj),(35500100,.val (.i z)),(35500101,.mref 300001),(35500102,.val (.i p)),(35500103,.val (.i k)),(300001,.nmap)]
noncomputable abbrev b8Z (z:Int) (l:List (Int×Int)) (p k:Int):AS:=[(450001,.obj),(35500100,.val (.i z)),(35500101,.mref 300001),(35500102,.val (.i p)),(35500103,.val (.i k)),(300001,.mp (l.map mrv))]
theorem b4V {s:Sc} (h:s.mp=[]):sst s=c1U s.sz s.sp s.lk:=by simp only [sst,mB,h,if_true];rfl
theorem b4Y {s:Sc} (h:s.mp≠[]):sst s=b8Z s.sz s.mp s.sp s.lk:=by simp only [sst,mB,if_neg h]
theorem A4 (s:Sc):(sst s).all E4=true:=by
 by_cases h:s.mp=[]
 ·rw [b4V h];kernel_rfl
 ·rw [b4Y h];kernel_rfl
theorem v8 (s:Sc):(sst s).all (G1 (kO (sst s)))=true:=by
 by_cases h:s.mp=[]
 ·rw [b4V h];kernel_rfl
 ·rw [b4Y h];kernel_rfl
structure Bds (s:Sc) (n:Nat):Prop where
 sz : -(n:Int)<=s.sz/\s.sz<=n
 sp : -(n:Int)<=s.sp/\s.sp<=n
 lk : -(n:Int)<=s.lk/\s.lk<=n
 at_:∀ v,-(n:Int)<=D9 s.mp v/\D9 s.mp v<=n
theorem Bds.node {s:Sc} {n:Nat} {σ:Int} (h:Bds s n) (hσ:σ=1\/σ = -1) (t:Tm):Bds (a7i σ s t) (n+1):=by
 obtain ⟨h1,h2,h3,h4⟩:=h;unfold a7i;split
 ·unfold D8;have:=h4 (-1-t.f);refine ⟨by show _<=s.sz+σ/\s.sz+σ<=_;omega,by simp only;omega,by simp only;omega,fun v=>?_⟩;simp only;rw [a9l];have:=h4 v;split<;>omega
 ·exact ⟨by show _<=s.sz+σ/\s.sz+σ<=_;omega,by simp only;omega,by simp only;omega,fun v=>by have:=h4 v;simp only;omega⟩
theorem Bds.fold {σ:Int} (hσ:σ=1\/σ = -1):∀ {l:List Tm} {s:Sc} {n:Nat},Bds s n->Bds (l.foldl (a7i σ) s) (n+l.length)
 | [],s,n,h=>h
 | t::l,s,n,h=>by
  rw [foldl_cons,length_cons,show n+(l.length+1)=n+1+l.length by omega];exact (h.node hσ t).fold hσ
theorem Bds.addL {σ:Int} (hσ:σ=1\/σ = -1) {l:List Tm} {s:Sc} {n:Nat} (h:Bds s n):Bds (addL σ s l) (n+(l.flatMap Tm.flat).length):=h.fold hσ
theorem Bds.addT {σ:Int} (hσ:σ=1\/σ = -1) {t:Tm} {s:Sc} {n:Nat} (h:Bds s n):Bds (addT σ s t) (n+t.size):=h.fold hσ
theorem M4 (W:World) (t:Tm):AFun Tryz.prog W 146 [t.cw] (.val (.b (decide (t.f<0)))):=by
 refine c9 (rs:=[.b (decide (t.f<0))]) Tryz.func146 Tryz.ntmps146 rfl rfl rfl rfl ?_;intro w U hW;refine aS (aR ?_);refine nc zd (nc ze ?_);refine aS (aR ?_);refine nc zg (nc zh (nc zi (nc ze ?_)));exact aT ⟨.inr rfl,rfl⟩
theorem a9f (W:World) (t:Tm) (h1 : -9223372036854775808<=t.f) (h2:t.f<0):AFun Tryz.prog W 148 [t.cw] (.val (.i (-1-t.f))):=by
 refine c9 (rs:=[.i (-1-t.f)]) Tryz.func148 Tryz.ntmps148 rfl rfl rfl rfl ?_;intro w U hW;refine aS (aR ?_);refine nc zd (nc ze ?_);refine aS (aR ?_);refine nc zg (nc zh (nc zB (nc ze ?_)));exact aT ⟨.inr rfl,rfl⟩
theorem a3j (W:World) (t:Tm):AFun Tryz.prog W 113 [t.cw] (.val (.lst (t.ps.map Tm.cv))):=by
 refine c9 (rs:=[.lst (t.ps.map Tm.cv)]) Tryz.func113 Tryz.ntmps113 rfl rfl rfl rfl ?_;intro w U hW;refine aS (aR ?_);refine nc zd (nc ze ?_);refine aS (aS (aR ?_));refine nc zj (nc (zk (z:=M4 w t)) ?_);refine aC rfl (fun hc=>?_) (fun hc=>?_)
 ·have hf:t.f<0:=by simpa using hc
  rw [Tm.ps_of_var hf];refine aS (aR ?_);refine nc ze ?_;exact aT ⟨.inr rfl,rfl⟩
 ·have hf:¬ t.f<0:=by simpa using hc
  rw [Tm.ps_of_sym (by omega)];refine aK ?_;refine aS (aR ?_);refine nc zg (nc zh (nc ze ?_));exact aT ⟨.inr rfl,rfl⟩
theorem a6U (s:Sc) (n:Nat) (hb:Bds s n) (hn:n<=1000000000000) (v σ:Int) (hσ:σ=1\/σ = -1) (hm:s.mp=[]):r5 Tryz.prog 147 (c1U s.sz s.sp s.lk) [.bp 350001 0 [],.val (.i v),.val (.i σ)] (.tup []) (b8Z s.sz (D8 s v σ).mp (D8 s v σ).sp (D8 s v σ).lk):=by
 have gV:=hb.sp;have dV:=hb.lk;have eU:=hb.at_ v;have hg:D9 [] v=D9 s.mp v:=by rw [hm]
 obtain ⟨was,eO⟩:∃ was,was=D9 s.mp v:=⟨_,rfl⟩
 rw [<-eO] at eU;refine l6 Tryz.func147 Tryz.ntmps147 rfl rfl rfl rfl rfl rfl ?_;intro w U hU;refine aS (aS (aR ?_));refine nc zl (nc z7 (nc zg (nc z8 (nc zbp ?_))));refine aC rfl (fun hc=>?_) (fun hc=>by cases hc);refine aR ?_;refine nc zl (ne (zbq 300002) (nc z7 (nc zg (nc zbc ?_))));refine aS (aR ?_);refine nc zl (nc z7 (nc zg (nc z8 (nc zl (nc (zbr (H :=  a1e [])) (nc ze ?_))))));refine AWp.wk (a7 (s':=[(0,AV.bp 350001 0 []),(1,.val (.i v)),(2,.val (.i σ)),(6,.val (.i was)),(450001,.obj),(35500100,.val (.i s.sz)),(35500101,.mref 300002),(35500102,.val (.i s.sp)),(35500103,.val (.i s.lk)),(300002,.mp (([]:List (Int×Int)).map mrv))]) ⟨rfl,rfl,rfl,?_,rfl,rfl,rfl,rfl,rfl,rfl,trivial⟩) ?_
 ·rw [eO,<-hg];rfl
 refine aS (aR ?_);refine nc zl (nc zl (nc zA (nc ze ?_)));refine aS (aR ?_);refine nc zl (nc z7 (nc zg (nc z8 (nc zl (nc zl (nc (zbg (G:=a1e [])) ?_))))));refine aS (aR ?_);refine nc zl (nc z7 (nc zg (nc z8 (nc zl (nc zK (nc zl (nc zK (nc zB (nc zA (nc z7 (nc zg (nc zbc ?_))))))))))));refine aR ?_;refine nc zl (nc z7 (nc zg (nc z8 (nc zl (nc zbs (nc zK (nc zl (nc zbs (nc zK (nc zB (nc zA (nc z7 (nc zg (nc zbc ?_))))))))))))));refine ⟨.inl rfl,_,(a7 (s':=[(450001,.obj),(35500100,.val (.i s.sz)),(35500101,.mref 300002),(35500102,.val (.i (D8 s v σ).sp)),(35500103,.val (.i (D8 s v σ).lk)),(300002,.mp ((D8 s v σ).mp.map mrv))]) ⟨rfl,rfl,rfl,?_,?_,?_,trivial⟩).trans (B2 300002 300001 rfl rfl (by kernel_rfl) (by kernel_rfl)),rfl,rfl,rfl,rfl,rfl,rfl,rfl,trivial⟩
 ·unfold D8;rw [<-eO];rfl
 ·unfold D8;rw [<-eO];rfl
 ·unfold D8;simp only;rw [<-eO,hm,<-b7F];rfl
theorem a6R (s:Sc) (n:Nat) (hb:Bds s n) (hn:n<=1000000000000) (v σ:Int) (hσ:σ=1\/σ = -1):r5 Tryz.prog 147 (b8Z s.sz s.mp s.sp s.lk) [.bp 350001 0 [],.val (.i v),.val (.i σ)] (.tup []) (b8Z s.sz (D8 s v σ).mp (D8 s v σ).sp (D8 s v σ).lk):=by
 have gV:=hb.sp;have dV:=hb.lk;have eU:=hb.at_ v;obtain ⟨was,eO⟩:∃ was,was=D9 s.mp v:=⟨_,rfl⟩
 rw [<-eO] at eU;refine l6 Tryz.func147 Tryz.ntmps147 rfl rfl rfl rfl rfl rfl ?_;intro w U hU;refine aS (aS (aR ?_));refine nc zl (nc z7 (nc zg (nc z8 (nc zbt ?_))));refine aC rfl (fun hc=>by cases hc) (fun hc=>?_);refine aK ?_;refine aS (aR ?_);refine nc zl (nc z7 (nc zg (nc z8 (nc zl (nc (zbr (H :=  a1e _)) (nc ze ?_))))));refine AWp.wk (a7 (s':=[(0,AV.bp 350001 0 []),(1,.val (.i v)),(2,.val (.i σ)),(6,.val (.i was)),(450001,.obj),(35500100,.val (.i s.sz)),(35500101,.mref 300001),(35500102,.val (.i s.sp)),(35500103,.val (.i s.lk)),(300001,.mp (s.mp.map mrv))]) ⟨rfl,rfl,rfl,?_,rfl,rfl,rfl,rfl,rfl,rfl,trivial⟩) ?_
 ·rw [eO,<-c1D];rfl
 refine aS (aR ?_);refine nc zl (nc zl (nc zA (nc ze ?_)));refine aS (aR ?_);refine nc zl (nc z7 (nc zg (nc z8 (nc zl (nc zl (nc (zbg (G:=a1e _)) ?_))))));refine aS (aR ?_);refine nc zl (nc z7 (nc zg (nc z8 (nc zl (nc zK (nc zl (nc zK (nc zB (nc zA (nc z7 (nc zg (nc zbc ?_))))))))))));refine aR ?_;refine nc zl (nc z7 (nc zg (nc z8 (nc zl (nc zbs (nc zK (nc zl (nc zbs (nc zK (nc zB (nc zA (nc z7 (nc zg (nc zbc ?_))))))))))))));refine ⟨.inl rfl,_,(a7 (s':=b8Z s.sz (D8 s v σ).mp (D8 s v σ).sp (D8 s v σ).lk) ⟨rfl,rfl,rfl,?_,?_,?_,trivial⟩),rfl,rfl,rfl,rfl,rfl,rfl,rfl,trivial⟩
 ·unfold D8;rw [<-eO];rfl
 ·unfold D8;rw [<-eO];rfl
 ·unfold D8;simp only;rw [<-eO,<-b7F];rfl
theorem a8I (s:Sc) (n:Nat) (hb:Bds s n) (hn:n<=1000000000000) (v σ:Int) (hσ:σ=1\/σ = -1):r5 Tryz.prog 147 (sst s) [.bp 350001 0 [],.val (.i v),.val (.i σ)] (.tup []) (sst (D8 s v σ)):=by
 rw [b4Y (s:=D8 s v σ) (b8P _ _ _)];by_cases h:s.mp=[]
 ·rw [b4V h];exact a6U s n hb hn v σ hσ h
 ·rw [b4Y h];exact a6R s n hb hn v σ hσ
def c2X (σ:Int) (t:Tm):Prop:=∀ (s:Sc) (n:Nat),Bds s n->n+t.size<=1000000000000->r5 Tryz.prog 114 (sst s) [.bp 350001 0 [],.val t.cw,.val (.i σ)] (.tup []) (sst (addT σ s t))
theorem a3f (σ:Int) (hσ:σ=1\/σ = -1) (l:List Tm) (hl:l.length<=1000000000000) (ih:∀ t∈l,c2X σ t) (s:Sc) (n:Nat) (hb:Bds s n) (hn:n+(l.flatMap Tm.flat).length<=1000000000000):r5 Tryz.prog 117 (sst s) [.bp 350001 0 [],.val (.lst (l.map Tm.cv)),.val (.i σ)] (.tup []) (sst (addL σ s l)):=by
 have kC:=Tm.size_all l;refine l6 Tryz.func117 Tryz.ntmps117 rfl rfl rfl rfl rfl rfl ?_;intro w U hU;refine aS (aR ?_);refine nc zl (nc zo (nc zl ?_));refine aB (n5 l.length (fun k=>(0,.bp 350001 0 [])::(2,.val (.i σ))::(8,.val (.lst (l.map Tm.cv)))::(9,.val (.i (l.map Tm.cv).length))::(10,.val (.i k))::sst (addL σ s (l.take k))) (a7 ⟨rfl,rfl,rfl,rfl,rfl,rfl,rfl,rfl,rfl,rfl,rfl,trivial⟩) ?_);intro k hk;refine aS (aR ?_);refine nc zi ?_;refine aS (aC rfl (fun kA=>?_) (fun kA=>?_))
 ·have kF:k<l.length:=by simpa using kA
  obtain ⟨x,hx⟩:∃ x,l[k]?=some x:=⟨l[k],getElem?_eq_getElem kF⟩
  have kS:=Tm.map_at hx;have cH:=mem_of_getElem? hx;obtain ⟨sk,xU⟩:∃ sk,sk=addL σ s (l.take k):=⟨_,rfl⟩
  have fI:Bds sk (n+((l.take k).flatMap Tm.flat).length):=by rw [xU];exact hb.addL hσ
  have nR:n+((l.take k).flatMap Tm.flat).length+x.size<=1000000000000:=by
   have h2:(l.flatMap Tm.flat).length=((l.take k).flatMap Tm.flat).length+((l.drop k).flatMap Tm.flat).length:=by
    conv=>lhs;rw [<-List.take_append_drop k l]
    rw [flatMap_append,length_append]
   have h3:x.flat.length<=((l.drop k).flatMap Tm.flat).length:=t8 Tm.flat (mem_of_getElem? (i:=0) (by rw [List.getElem?_drop];simpa using hx));unfold Tm.size;omega
  have kP:=b4a (σ:=σ) (s:=s) hx;rw [<-xU] at kP;rw [<-xU];refine aK ?_;refine aS (aB (aS (aR ?_)));refine nc (zt (j:=k) (H:=kS) (hz:=kC)) (nc zu (ne zw (nc zx ?_)));refine aR ?_;refine nc zl (nc zj (nc zl (nc (zW (z:=ih x cH sk _ fI nR) (B:=A4 _) (C:=v8 _) (G:=i0 (by first | rfl | kernel_rfl))) ?_)));refine aR ?_;refine nc zA (nc zl ?_);refine ⟨kF,a7 ⟨rfl,rfl,rfl,rfl,rfl,rfl,?_,rfl,?_,?_,?_,trivial⟩⟩
  all_goals (rw [kP];rfl)
 ·have kF:k=l.length:=by
   have:¬ k<l.length:=by simpa using kA
   omega
  subst kF;rw [List.take_length];refine aE ?_;exact ⟨.inl rfl,_,Wk.refl _,rfl,rfl,rfl,rfl,rfl,rfl,rfl,trivial⟩
theorem Y0 (σ:Int) (hσ:σ=1\/σ = -1):∀ t:Tm,t.rng->t.ok->c2X σ t:=by
 intro t
 induction t using Tm.ind with
 | h f l ih =>
 intro hr kH s n hb hn;have kH:=(Tm.ok_iff _).1 kH;have hr:=(Tm.rng_iff _).1 hr;simp only at kH hr;have kW:=hb.sz;have tD:=Tm.size_pos ⟨f,l⟩;refine l6 Tryz.func114 Tryz.ntmps114 rfl rfl rfl rfl rfl rfl ?_;intro w U hU;refine aS (aR ?_);refine ne zd ?_;refine aS (aR ?_);refine nc zl (nc z7 (nc zg (nc z8 (nc zl (nc zA (nc z7 (nc zg (nc zbc ?_))))))));obtain ⟨s1,dT⟩:∃ s1:Sc,s1=⟨s.sz+σ,s.mp,s.sp,s.lk⟩:=⟨_,rfl⟩
 have hb':Bds s1 (n+1):=by obtain ⟨b1,b2,b3,b4⟩:=hb;rw [dT];exact ⟨by show _<=s.sz+σ/\s.sz+σ<=_;omega,by simp only;omega,by simp only;omega,fun v=>by have:=b4 v;simp only;omega⟩
 refine AWp.wk (a7 (s':=(0,AV.bp 350001 0 [])::(2,.val (.i σ))::(4,.bp 4 0 [])::(100004,.bx (Tm.cw ⟨f,l⟩))::sst s1) ⟨rfl,rfl,rfl,rfl,rfl,?_,rfl,?_,?_,?_,trivial⟩) ?_
 ·rw [dT];rfl
 ·rw [dT];rfl
 ·rw [dT];rfl
 ·rw [dT];rfl
 refine aS (aS (aR ?_));refine nc zj ?_;refine nc (zk (z:=M4 w ⟨f,l⟩)) ?_;refine aC rfl (fun hc=>?_) (fun hc=>?_)
 ·have hf:f<0:=by simpa using hc
  rw [b5D (t:=⟨f,l⟩) hf,<-dT];refine aS (aR ?_);refine nc zl (nc zj ?_);refine nc (zk (z:=a9f w ⟨f,l⟩ hr.1.1 hf)) ?_;refine nc zl (nc (zW (z:=a8I s1 (n+1) hb' (by omega) (-1-f) σ hσ) (B:=A4 _) (C:=v8 _) (G:=i0 (by first | rfl | kernel_rfl))) ?_);exact aT ⟨.inr rfl,_,Wk.refl _,rfl,rfl,rfl,rfl,rfl,rfl,rfl,trivial⟩
 ·have hf:¬ f<0:=by simpa using hc
  rw [b6k (t:=⟨f,l⟩) hf,<-dT];have hse:=Tm.size_eq ⟨f,l⟩;rw [Tm.ps_of_sym (t:=⟨f,l⟩) (by show 0<=f;omega)] at hse;simp only at hse;have kD:=Tm.len_ps ⟨f,l⟩;rw [Tm.ps_of_sym (t:=⟨f,l⟩) (by show 0<=f;omega)] at kD;simp only at kD;refine aK ?_;refine aR ?_;refine nc zl (nc zg (nc zh (nc zl ?_)));refine nc (zW (z:=a3f σ hσ l (by omega) (fun t ht=>ih t ht (hr.2 t ht) (kH.2 t ht)) s1 (n+1) hb' (by omega)) (B:=A4 _) (C:=v8 _) (G:=i0 (by first | rfl | kernel_rfl))) ?_;exact ⟨.inl rfl,_,Wk.refl _,rfl,rfl,rfl,rfl,rfl,rfl,rfl,trivial⟩
theorem a2F (σ:Int) (hσ:σ=1\/σ = -1) (l:List Tm) (hl:l.length<=1000000000000) (hr:∀ t∈l,t.rng/\t.ok) (s:Sc) (n:Nat) (hb:Bds s n) (hn:n+(l.flatMap Tm.flat).length<=1000000000000):r5 Tryz.prog 117 (sst s) [.bp 350001 0 [],.val (.lst (l.map Tm.cv)),.val (.i σ)] (.tup []) (sst (addL σ s l)):=
 a3f σ hσ l hl (fun t ht=>Y0 σ hσ t (hr t ht).1 (hr t ht).2) s n hb hn
def b5e (s:Sc) (w:Int):Int:=if s.sz≠0 then N7 s.sz 0 else w
def vdS (s:Sc) (w:Int):Int:=if (b5e s w=1/\0<s.lk)\/(b5e s w = -1/\0<s.sp) then 2 else b5e s w
theorem S1 (s:Sc) (x:Int):r5 Tryz.prog 115 (sst s) [.bp 350001 0 [],.val (.i x)] (.val (.i (vdS s x))) (sst s):=by
 refine l6 Tryz.func115 Tryz.ntmps115 rfl rfl rfl rfl rfl rfl ?_;intro w U hU;refine aS (aR ?_);refine nc ze ?_;refine aS (aR ?_);refine nc zl (nc ze ?_);refine b3r ((0,AV.bp 350001 0 [])::(5,.val (.i (b5e s x)))::sst s) ?_ ?_
 ·unfold b5e;refine aS (aR ?_);refine nc zl (nc z7 (nc zg (nc z8 (nc z9 ?_))));refine aC rfl (fun hc=>?_) (fun hc=>?_)
  ·have h:s.sz≠0:=by simpa using hc
   rw [if_pos h];refine aR ?_;refine nc zl (nc z7 (nc zg (nc z8 (nc (zk (z:=a4h w s.sz 0)) (nc ze ?_)))));exact a7 ⟨rfl,rfl,rfl,rfl,rfl,rfl,rfl,rfl,trivial⟩
  ·have h:¬ s.sz≠0:=by simpa using hc
   rw [if_neg h];refine aK ?_;exact a7 ⟨rfl,rfl,rfl,rfl,rfl,rfl,rfl,rfl,trivial⟩
 unfold vdS;generalize b5e s x=o;by_cases h1:o=1
 ·subst h1;by_cases h2:0<s.lk
  ·have g:decide (s.lk>0)=true:=by simpa using h2
   rw [if_pos (.inl ⟨rfl,h2⟩)];refine aS (aS (aR ?_));refine nc zl (nc zD (nc zl (nc (zl (p:=gb)) (nc (z7 (r:=gb)) (nc (zg (r:=gb)) (nc (z8 (r:=gb)) (nc (zN (r:=gb)) (nc zp (nc zl (nc zbu (nc zbu (nc zbu (nc (zbu (p:=X7 rfl rfl rfl rfl)) (nc (zbu (p:=X7 rfl rfl rfl rfl)) (nc (zbu (p:=X7 rfl rfl rfl rfl)) (nc (zbu (p:=X7 rfl rfl rfl rfl)) (nc (zbu (p:=X7 rfl rfl rfl rfl)) (nc zbu (nc zp ?_)))))))))))))))))));refine aC rfl (fun hc=>?_) (fun hc=>by cases hc);refine aS (aR ?_);refine nc ze ?_;exact aT ⟨.inr rfl,_,Wk.refl _,rfl,rfl,rfl,rfl,rfl,rfl,rfl,trivial⟩
  ·have g:decide (s.lk>0)=false:=by simpa using h2
   rw [if_neg (by omega)];refine aS (aS (aR ?_));refine nc zl (nc zD (nc zl (nc (zl (p:=gb)) (nc (z7 (r:=gb)) (nc (zg (r:=gb)) (nc (z8 (r:=gb)) (nc (zN (r:=gb)) (nc zp (nc zl (nc (zl (p:=gb)) (nc (zD (r:=gb)) (nc (zl (p:=gb)) (nc zbu (nc zbu (nc zbu (nc zbu (nc zbu (nc (zr (r:=gb)) (nc zr ?_)))))))))))))))))));refine aC rfl (fun hc=>by cases hc) (fun hc=>aK ?_);refine aS (aR ?_);refine nc zl (nc ze ?_);exact aT ⟨.inr rfl,_,Wk.refl _,rfl,rfl,rfl,rfl,rfl,rfl,rfl,trivial⟩
 ·have g1:decide (o=1)=false:=by simpa using h1
  by_cases h2:o = -1
  ·subst h2;by_cases h3:0<s.sp
   ·have g:decide (s.sp>0)=true:=by simpa using h3
    rw [if_pos (.inr ⟨rfl,h3⟩)];refine aS (aS (aR ?_));refine nc zl (nc zD (nc zl (nc zbu (nc zbu (nc zbu (nc zbu (nc zbu (nc zr (nc zl (nc (zl (p:=gb)) (nc (zD (r:=gb)) (nc (zl (p:=gb)) (nc (zl (p:=gb)) (nc (z7 (r:=gb)) (nc (zg (r:=gb)) (nc (z8 (r:=gb)) (nc (zN (r:=gb)) (nc (zp (r:=gb)) (nc zr ?_)))))))))))))))))));refine aC rfl (fun hc=>?_) (fun hc=>by rw [g] at hc;cases hc);refine aS (aR ?_);refine nc ze ?_;exact aT ⟨.inr rfl,_,Wk.refl _,rfl,rfl,rfl,rfl,rfl,rfl,rfl,trivial⟩
   ·have g:decide (s.sp>0)=false:=by simpa using h3
    rw [if_neg (by omega)];refine aS (aS (aR ?_));refine nc zl (nc zD (nc zl (nc zbu (nc zbu (nc zbu (nc zbu (nc zbu (nc zr (nc zl (nc (zl (p:=gb)) (nc (zD (r:=gb)) (nc (zl (p:=gb)) (nc (zl (p:=gb)) (nc (z7 (r:=gb)) (nc (zg (r:=gb)) (nc (z8 (r:=gb)) (nc (zN (r:=gb)) (nc (zp (r:=gb)) (nc zr ?_)))))))))))))))))));refine aC rfl (fun hc=>by rw [g] at hc;cases hc) (fun hc=>aK ?_);refine aS (aR ?_);refine nc zl (nc ze ?_);exact aT ⟨.inr rfl,_,Wk.refl _,rfl,rfl,rfl,rfl,rfl,rfl,rfl,trivial⟩
  ·have g2:decide (o = -1)=false:=by simpa using h2
   rw [if_neg (by omega)];refine aS (aS (aR ?_));refine nc zl (nc zD (nc zl (nc zbu (nc zbu (nc zbu (nc zbu (nc zbu (nc zr (nc zl (nc (zl (p:=gb)) (nc (zD (r:=gb)) (nc (zl (p:=gb)) (nc zbu (nc zbu (nc zbu (nc zbu (nc zbu (nc (zr (r:=gb)) (nc zr ?_)))))))))))))))))));refine aC rfl (fun hc=>by cases hc) (fun hc=>aK ?_);refine aS (aR ?_);refine nc zl (nc ze ?_);exact aT ⟨.inr rfl,_,Wk.refl _,rfl,rfl,rfl,rfl,rfl,rfl,rfl,trivial⟩
def orL:List Int->Int
 | []=>0
 | x::l=>if x≠0 then x else orL l
theorem b7A:∀ {l:List Int} {k:Nat} {x:Int},l[k]?=some x->x≠0->(∀ j y,j<k->l[j]?=some y->y=0)->orL l=x
 | [],k,x,h,_,_=>by simp at h
 | y::l,0,x,h,hx,_=>by
  simp at h;subst h;rw [orL,if_pos hx]
 | y::l,k+1,x,h,hx,hi=>by
  rw [orL,if_neg (by have:=hi 0 y (by omega) rfl;omega)];exact b7A (by simpa using h) hx fun j z hj hz=>hi (j+1) z (by omega) (by simpa using hz)
theorem b0h:∀ {l:List Int},(∀ x∈l,x=0)->orL l=0
 | [],_=>rfl
 | x::l,h=>by
  rw [orL,if_neg (by have:=h x (by simp);omega)];exact b0h fun y hy=>h y (mem_cons_of_mem _ hy)
theorem b9G (W:World) (l:List Int) (hl:l.length<=1000000000):AFun Tryz.prog W 149 [.lst (l.map CV.i)] (.val (.i (orL l))):=by
 have kC:=p8 l;refine c9 (rs:=[.i (orL l)]) Tryz.func149 Tryz.ntmps149 rfl rfl rfl rfl ?_;intro w U hW;refine aS (aR ?_);refine nc ze ?_;refine aS (aR ?_);refine nc ze ?_;refine aS (aS (aR ?_));refine nc zl (nc zo (nc zl ?_));refine aB (C0 l.length (fun k=>∀ j y,j<k->l[j]?=some y->y=0) (fun k=>[(3,.val (.i 0)),(6,.val (.lst (l.map CV.i))),(7,.val (.i (l.map CV.i).length)),(8,.val (.i k))]) (a7 ⟨rfl,rfl,rfl,rfl,trivial⟩) (fun j c hj=>by omega) ?_);intro k hk hI;refine aS (aR ?_);refine nc zi ?_;refine aS (aC rfl (fun kA=>?_) (fun kA=>?_))
 ·have kF:k<l.length:=by simpa using kA
  obtain ⟨x,hx⟩:∃ x,l[k]?=some x:=⟨l[k],getElem?_eq_getElem kF⟩
  have kS:(l.map CV.i)[k]?=some (CV.i x):=by rw [List.getElem?_map,hx];rfl
  refine aK ?_;refine aS (aB (aS (aR ?_)));refine nc (zt (j:=k) (H:=kS) (hz:=kC)) (nc zu (nc ze ?_));refine aS (aR ?_);refine nc zl (nc zl (nc z9 ?_));refine aC rfl (fun hq=>?_) (fun hq=>?_)
  ·have hq:x≠0:=by simpa using hq
   refine aS (aR ?_);refine nc zl (nc ze ?_);rw [b7A hx hq hI];exact aT ⟨.inr rfl,rfl⟩
  ·have hq:x=0:=by simpa using hq
   refine aK ?_;refine aR ?_;refine nc zA (nc zl ?_);refine ⟨kF,fun j c hj hc=>?_,a7 ⟨rfl,rfl,rfl,rfl,trivial⟩⟩;rcases Nat.lt_or_ge j k with h | h
   ·exact hI j c h hc
   ·have:j=k:=by omega
    subst this;rw [hx] at hc;cases hc;exact hq
 ·have kF:¬ k<l.length:=by simpa using kA
  rw [b0h (l:=l) fun x hx=>?_]
  ·refine aE ?_;refine aS (aR ?_);refine nc zl (nc ze ?_);exact aT ⟨.inr rfl,rfl⟩
  ·obtain ⟨j,hj⟩:=List.getElem?_of_mem hx;have gJ:j<l.length:=by
    rcases Nat.lt_or_ge j l.length with h | h
    ·exact h
    ·rw [getElem?_eq_none h] at hj;cases hj
   exact hI j x (by omega) hj
theorem c2r {a b:Tm} (h:¬ (a.f<0\/b.f<0)):hdK a b=orL [N7 a.f b.f,N7 a.l.length b.l.length]:=by
 unfold hdK;rw [if_neg h];simp only [orL];rcases o9 a.f b.f with h1 | h1 | h1
 ·rw [if_pos (by omega),if_pos (by omega)]
 ·rw [if_neg (by omega),if_neg (by omega)];split
  ·rfl
  ·omega
 ·rw [if_pos (by omega),if_pos (by omega)]
theorem a4a (W:World) (a b:Tm):AFun Tryz.prog W 116 [a.cw,b.cw] (.val (.i (hdK a b))):=by
 refine c9 (rs:=[.i (hdK a b)]) Tryz.func116 Tryz.ntmps116 rfl rfl rfl rfl ?_;intro w U hW;refine aS (aR ?_);refine nc zd (nc zd (nc ze ?_));by_cases ha:a.f<0
 ·have g:decide (a.f<0)=true:=by simpa using ha
  refine aS (aS (aR ?_));refine nc zj (nc (zk (z:=M4 w a)) (nc zl (nc zq (nc zq (nc zp ?_)))));refine aC rfl (fun hc=>?_) (fun hc=>by cases hc);unfold hdK;rw [if_pos (.inl ha)];refine aS (aR ?_);refine nc ze ?_;exact aT ⟨.inr rfl,rfl⟩
 have g:decide (a.f<0)=false:=by simpa using ha
 refine aS (aS (aR ?_));refine nc zj (nc (zk (z:=M4 w a)) (nc zl (nc (zj (p:=gb)) (nc (zk (p:=gb) (z:=M4 w b)) (nc zr ?_)))));refine aC rfl (fun hc=>?_) (fun hc=>?_)
 ·have hb:b.f<0:=by simpa using hc
  unfold hdK;rw [if_pos (.inr hb)];refine aS (aR ?_);refine nc ze ?_;exact aT ⟨.inr rfl,rfl⟩
 ·have hb:¬ b.f<0:=by simpa using hc
  rw [c2r (by omega)];have e1:(a.l.map Tm.cv).length=a.l.length:=length_map ..;have e2:(b.l.map Tm.cv).length=b.l.length:=length_map ..;refine aK ?_;refine aS (aD (by kernel_rfl) (by kernel_rfl) ?_);refine nc zg (nc zh (nc zg (nc zh (nc (zk (z:=a4h w a.f b.f)) (nc zg (nc zh (nc zo (nc zg (nc zh (nc zo (nc (zk (z:=a4h w _ _)) (nc zy (nc (zk (z:=b9G w [_,_] (by simp))) (nc ze ?_))))))))))))));refine ⟨by kernel_rfl,?_⟩;rw [e1,e2];exact aT ⟨.inr rfl,rfl⟩
def emp:Sc:=⟨0,[],0,0⟩
noncomputable def a8g (c:Int) (s:Sc) (l m:List Tm) (r:Sc):Sc:=if c≠0 then addL (-1) (addL 1 s l) m else r
noncomputable def scS (p:Tm):Tm->Sc:=
 Tm.rec (motive_1:=fun _=>Tm->Sc) (motive_2:=fun _=>List Tm->Sc)
  (fun f l ih t=>if f≠t.f\/(Tm.mk f l).ps.length≠t.ps.length then addT (-1) (addT 1 emp ⟨f,l⟩) t else if f<0 then emp else ih t.l)
  (fun _=>emp)
  (fun x l ih1 ih2 ts=>match ts with | []=>emp | t::ts=>a8g (kb x t) (ih1 t) l ts (ih2 ts)) p
noncomputable def scs (ps:List Tm):List Tm->Sc:=
 Tm.rec_1 (motive_1:=fun _=>Tm->Sc) (motive_2:=fun _=>List Tm->Sc)
  (fun f l ih t=>if f≠t.f\/(Tm.mk f l).ps.length≠t.ps.length then addT (-1) (addT 1 emp ⟨f,l⟩) t else if f<0 then emp else ih t.l)
  (fun _=>emp)
  (fun x l ih1 ih2 ts=>match ts with | []=>emp | t::ts=>a8g (kb x t) (ih1 t) l ts (ih2 ts)) ps
theorem b8J (m:List Tm):scs [] m=emp:=rfl
theorem a4z (x:Tm) (l:List Tm) (y:Tm) (m:List Tm):scs (x::l) (y::m)=a8g (kb x y) (scS x y) l m (scs l m):=rfl
theorem b2b {a b:Tm} (h:a.f≠b.f\/a.ps.length≠b.ps.length):scS a b=addT (-1) (addT 1 emp a) b:=by
 cases a;show (if _ then _ else _)=_;rw [if_pos h]
theorem b1V {a b:Tm} (h:¬ (a.f≠b.f\/a.ps.length≠b.ps.length)):scS a b=scs a.ps b.ps:=by
 cases a with
 | mk f l =>
  show (if _ then _ else _)=_;rw [if_neg h];by_cases hf:f<0
  ·rw [if_pos hf,Tm.ps_of_var (t:=⟨f,l⟩) hf,b8J]
  ·rw [if_neg hf,Tm.ps_of_sym (t:=⟨f,l⟩) (by show 0<=f;omega),Tm.ps_of_sym (t:=b) (by have:=Classical.not_not.1 (fun e=>h (.inl e));simp only at this;omega)];rfl
theorem b1W:∀ {l m:List Tm} {k:Nat} {x y:Tm},l[k]?=some x->m[k]?=some y->kb x y≠0->(∀ j u v,j<k->l[j]?=some u->m[j]?=some v->kb u v=0)->scs l m=addL (-1) (addL 1 (scS x y) (l.drop (k+1))) (m.drop (k+1))/\kbs l m=kb x y
 | [],_,k,x,y,h,_,_,_=>by simp at h
 | _::_,[],k,x,y,_,h,_,_=>by simp at h
 | u::l,v::m,0,x,y,h1,h2,kE,_=>by
  simp at h1 h2;subst h1;subst h2;rw [a4z,C6];unfold a8g O4;rw [if_pos kE,if_pos kE];exact ⟨rfl,rfl⟩
 | u::l,v::m,k+1,x,y,h1,h2,kE,hi=>by
  have h0:=hi 0 u v (by omega) rfl rfl;rw [a4z,C6];unfold a8g O4;rw [if_neg (by omega),if_neg (by omega)];exact b1W (by simpa using h1) (by simpa using h2) kE fun j u v hj hu hv=>hi (j+1) u v (by omega) (by simpa using hu) (by simpa using hv)
theorem a4K:∀ {l m:List Tm},(∀ (j:Nat) u v,l[j]?=some u->m[j]?=some v->kb u v=0)->scs l m=emp/\kbs l m=0
 | [],_,_=>⟨rfl,rfl⟩
 | _::_,[],_=>⟨rfl,rfl⟩
 | u::l,v::m,hi=>by
  have h0:=hi 0 u v rfl rfl;rw [a4z,C6];unfold a8g O4;rw [if_neg (by omega),if_neg (by omega)];exact a4K fun j u v hu hv=>hi (j+1) u v (by simpa using hu) (by simpa using hv)
theorem emp_ss:Ss emp 0 fun _=>0:=⟨rfl,by simp [ndk,emp],rfl,rfl,fun _=>rfl⟩
theorem emp_bds:Bds emp 0:=⟨by simp [emp],by simp [emp],by simp [emp],fun _=>by simp [emp,D9,B5]⟩
def vD (a b:Tm) (v:Int):Int:=(a.vs.count v:Int)-b.vs.count v
theorem a9z:∀ (l m:List Tm),l.length=m.length->(∃ (k:Nat) (x y:Tm),l[k]?=some x/\m[k]?=some y/\kb x y≠0/\∀ (j:Nat) u v,j<k->l[j]?=some u->m[j]?=some v->kb u v=0)\/∀ (j:Nat) u v,l[j]?=some u->m[j]?=some v->kb u v=0
 | [],_,_ => .inr fun j u v h=>by simp at h
 | _::_,[],h=>by simp at h
 | u::l,v::m,h=>by
  by_cases h0:kb u v=0
  ·rcases a9z l m (by simpa using h) with ⟨k,x,y,h1,h2,h3,h4⟩ | h1
   ·left;refine ⟨k+1,x,y,by simpa using h1,by simpa using h2,h3,fun j u' v' hj hu hv=>?_⟩;cases j with
    | zero=>simp at hu hv;subst hu;subst hv;exact h0
    | succ j=>exact h4 j u' v' (by omega) (by simpa using hu) (by simpa using hv)
   ·right;intro j u' v' hu hv;cases j with
    | zero=>simp at hu hv;subst hu;subst hv;exact h0
    | succ j=>exact h1 j u' v' (by simpa using hu) (by simpa using hv)
  ·left;exact ⟨0,u,v,rfl,rfl,h0,fun j u v hj=>by omega⟩
theorem a0O:∀ {l m:List Tm} {k:Nat},k<=l.length->l.length=m.length->(∀ j u v,j<k->l[j]?=some u->m[j]?=some v->kb u v=0)->((l.take k).flatMap Tm.flat).length=((m.take k).flatMap Tm.flat).length/\(l.take k).flatMap Tm.vs=(m.take k).flatMap Tm.vs
 | _,_,0,_,_,_=>by simp
 | [],_,k+1,h,_,_=>by simp at h
 | _::_,[],k+1,_,h,_=>by simp at h
 | u::l,v::m,k+1,h,hl,hi=>by
  have h0:=(a0i u v).1 (hi 0 u v (by omega) rfl rfl);obtain ⟨h1,h2⟩:=a0O (l:=l) (m:=m) (k:=k) (by simpa using h) (by simpa using hl) fun j u v hj hu hv=>hi (j+1) u v (by omega) (by simpa using hu) (by simpa using hv);have h3:u.flat.length=v.flat.length:=by have:=congrArg Tm.size h0;rw [Tm.strip_size,Tm.strip_size] at this;exact this
  have h4:u.vs=v.vs:=by have:=congrArg Tm.vs h0;rw [Tm.strip_vs,Tm.strip_vs] at this;exact this
  rw [List.take_succ_cons,List.take_succ_cons,flatMap_cons,flatMap_cons,flatMap_cons,flatMap_cons,length_append,length_append,h1,h2,h3,h4];exact ⟨rfl,rfl⟩
theorem Z2 {l:List Tm} {k:Nat} {x:Tm} (h:l[k]?=some x):(l.flatMap Tm.flat).length=((l.take k).flatMap Tm.flat).length+(x.size+((l.drop (k+1)).flatMap Tm.flat).length)/\∀ v,(l.flatMap Tm.vs).count v=((l.take k).flatMap Tm.vs).count v+(x.vs.count v+((l.drop (k+1)).flatMap Tm.vs).count v):=by
 obtain ⟨h1,_⟩:=b0s h;constructor
 ·conv=>lhs;rw [h1]
  rw [flatMap_append,flatMap_cons,length_append,length_append];rfl
 ·intro v
  conv=>lhs;rw [h1]
  rw [flatMap_append,flatMap_cons,count_append,count_append]
theorem a9v (a:Tm):∀ b,Bds (scS a b) (a.size+b.size)/\(kb a b=0->scS a b=emp)/\(kb a b≠0->Ss (scS a b) (szD a b) (vD a b)):=by
 induction a using Tm.indp with
 | h a ih =>
  intro b;by_cases h:a.f≠b.f\/a.ps.length≠b.ps.length
  ·rw [b2b h];have h1:Bds (addT (-1) (addT 1 emp a) b) (0+a.size+b.size):=(emp_bds.addT (.inl rfl)).addT (.inr rfl);refine ⟨by rw [Nat.zero_add] at h1;exact h1,fun h2=>?_,fun _=>?_⟩
   ·rw [N8,A9] at h2;unfold wi at h2;rw [if_pos h] at h2;exact absurd h2 (b5a h)
   ·have h2:=(emp_ss.fold (σ:=1) (l:=a.flat)).fold (σ := -1) (l:=b.flat);refine ⟨?_,h2.nd,h2.sp,h2.lk,fun v=>?_⟩
    ·refine h2.sz.trans ?_;unfold szD Tm.size;omega
    ·refine (h2.at_ v).trans ?_;unfold vD Tm.vs;omega
  ·rw [b1V h];have hw:wi a b=kbs a.ps b.ps:=by unfold wi;rw [if_neg h]
   have dI:a.ps.length=b.ps.length:=by omega
   rcases a9z a.ps b.ps dI with ⟨k,x,y,h1,h2,h3,h4⟩ | h1
   ·obtain ⟨e1,e2⟩:=b1W h1 h2 h3 h4;obtain ⟨b1,b2,b3⟩:=ih x (mem_of_getElem? h1) y;have hk:k<a.ps.length:=by
     rcases Nat.lt_or_ge k a.ps.length with h | h
     ·exact h
     ·rw [getElem?_eq_none h] at h1;cases h1
    obtain ⟨v1,v2⟩:=a0O (Nat.le_of_lt hk) dI h4;obtain ⟨l1,l2⟩:=Z2 h1;obtain ⟨m1,m2⟩:=Z2 h2;have sa:=a.size_eq;have sb:=b.size_eq;rw [e1];refine ⟨?_,fun h5=>?_,fun h5=>?_⟩
    ·have hB:=((b1.addL (.inl rfl) (l:=a.ps.drop (k+1))).addL (.inr rfl) (l:=b.ps.drop (k+1)))
     obtain ⟨q1,q2,q3,q4⟩:=hB;exact ⟨by omega,by omega,by omega,fun v=>by have:=q4 v;omega⟩
    ·rw [N8,A9,hw,e2] at h5;exact absurd h5 h3
    ·have h6:=((b3 h3).fold (σ:=1) (l:=(a.ps.drop (k+1)).flatMap Tm.flat)).fold (σ := -1) (l:=(b.ps.drop (k+1)).flatMap Tm.flat);refine ⟨?_,h6.nd,h6.sp,h6.lk,fun v=>?_⟩
     ·refine h6.sz.trans ?_;unfold szD;omega
     ·refine (h6.at_ v).trans ?_;rw [X2,X2];have p1:=l2 v;have p2:=m2 v;rw [<-v2] at p2;have hf:a.f=b.f:=by omega
      have ha:a.vs=a.ps.flatMap Tm.vs:=by
       by_cases hv:a.f<0
       ·rw [Tm.ps_of_var hv] at hk;simp at hk
       ·rw [Tm.vs_sym hv,Tm.ps_of_sym (by omega)]
      have hb:b.vs=b.ps.flatMap Tm.vs:=by
       by_cases hv:b.f<0
       ·rw [Tm.ps_of_var (t:=a) (by omega)] at hk;simp at hk
       ·rw [Tm.vs_sym hv,Tm.ps_of_sym (by omega)]
      unfold vD;rw [ha,hb];omega
   ·obtain ⟨e1,e2⟩:=a4K h1;rw [e1];refine ⟨?_,fun _=>rfl,fun h5=>?_⟩
    ·obtain ⟨q1,q2,q3,q4⟩:=emp_bds;exact ⟨by omega,by omega,by omega,fun v=>by have:=q4 v;omega⟩
    ·exfalso;apply h5;rw [N8,A9,hw,e2]
theorem b6b (z w:Int):(if z≠0 then N7 z 0 else w)=b3k z w:=by
 unfold b3k;rcases o9 z 0 with h | h | h
 ·rw [if_pos (by omega),if_neg (by omega),if_pos (by omega),h.1]
 ·rw [if_neg (by omega),if_neg (by omega),if_neg (by omega)]
 ·rw [if_pos (by omega),if_pos (by omega),h.1]
theorem b2Z {s:Sc} {a b:Tm} (h:Ss s (szD a b) (vD a b)) {w:Int} (hw:w≠0):vdS s w=a0L (szD a b) (cov a b) (cov b a) w:=by
 have h1:0<s.lk↔¬ cov a b:=by
  obtain ⟨d1,d2⟩:=b6W h.nd;rw [h.lk];have:dnS s.mp=0↔cov a b:=by
   rw [d2];unfold cov;constructor
   ·intro h2 v;have:=h2 v;rw [h.at_] at this;unfold vD at this;omega
   ·intro h2 v;have:=h2 v;rw [h.at_];unfold vD;omega
  rw [<-this];omega
 have h2:0<s.sp↔¬ cov b a:=by
  obtain ⟨d1,d2⟩:=b6X h.nd;rw [h.sp];have:upS s.mp=0↔cov b a:=by
   rw [d2];unfold cov;constructor
   ·intro h2 v;have:=h2 v;rw [h.at_] at this;unfold vD at this;omega
   ·intro h2 v;have:=h2 v;rw [h.at_];unfold vD;omega
  rw [<-this];omega
 unfold vdS a0L b7W b5e;rw [if_neg hw,h.sz,b6b];by_cases h3:(b3k (szD a b) w=1/\¬ cov a b)\/(b3k (szD a b) w = -1/\¬ cov b a)
 ·rw [if_pos h3,if_pos (by rw [h1,h2];exact h3)]
 ·rw [if_neg h3,if_neg (by rw [h1,h2];exact h3)]
end Go.Proofs.YteegmcfobgpemaaGreat
