/-
 UnFns10 SmFns SmMath SmSym SmSym2 SmSym3 SmStab SmNorm UnPairs UnBig UnLaws UnMid SbRef7 SbRef7N UnRefW UnMidW SbVnt2 Un8A Un8B SbNormEq TmPlD KbMath KbMath2 KbMath3 OrMath KbSc KbFns KbFns2 KbFns3
-/
import Derived.Test.YteegmcfobgpemaaGreatMg7
import Derived.Test.YteegmcfobgpemaaGreatMg6
import Derived.Test.YteegmcfobgpemaaGreatMg4
import Derived.Test.YteegmcfobgpemaaGreatMg5
import Derived.Test.YteegmcfobgpemaaGreatMg2
import Derived.Test.YteegmcfobgpemaaGreatMg3
namespace Go.Proofs.YteegmcfobgpemaaGreat
open List (any_eq_true flatMap_append flatMap_cons foldl_cons getD_eq_getElem?_getD getElem?_eq_getElem getElem?_eq_none length_append length_cons length_map length_nil map_append map_cons map_map mem_append mem_cons mem_cons_of_mem mem_flatMap mem_map mem_of_getElem? mem_singleton nodup_cons sum_cons)
open Go.RowKit
set_option linter.unusedVariables false
set_option linter.unusedSimpArgs false
set_option maxRecDepth 100000
noncomputable abbrev a9K (b ck:Nat) (bs:List Nat) (c:Cl):AS:=[(450001,.obj),(35500100,.sl 400001 0 c.ns.length 5),(35500101,.mref 300003),(35500102,.sl 300002 0 c.ps.length 2),(400001,.mrow 194 5 (c.ns.map Nd.cv)),(300003,.stm (c.vr.map vrv) b ck bs),(300002,.mrow 207 2 (c.ps.map psv))]
set_option maxHeartbeats 2000000 in
theorem b0J (b ck:Nat) (bs:List Nat) (vr:List (Int×Nat)) (ps:List (Nat×Nat)) (k:Nat) (ns:List Nd) (n:Nat) (r:List Nd×Nat) (hc:n7 k ns n=some r) (cQ:upOk ns) (hn:n<ns.length) (hl:ns.length<=1000000):q6 Tryz.prog 156 (a9K b ck bs ⟨ns,vr,ps⟩) [.bp 350001 0 [],.val (.i (n:Int))] (.val (.i (r.2:Int))) (a9K b ck bs ⟨r.1,vr,ps⟩):=by
 refine k9 Tryz.func156 Tryz.ntmps156 rfl rfl rfl rfl rfl rfl ?_;intro w U hU;refine aS (aR ?_);refine nc ze ?_;refine aS (aB (t8 (fun j s=>∃ ns n,n7 j ns n=some r/\upOk ns/\n<ns.length/\ns.length<=1000000/\s=(0,AV.bp 350001 0 [])::(1,.val (.i (n:Int)))::a9K b ck bs ⟨ns,vr,ps⟩) (n:=k) (s':=(0,AV.bp 350001 0 [])::(1,.val (.i (n:Int)))::a9K b ck bs ⟨ns,vr,ps⟩) (a7 ⟨rfl,rfl,rfl,rfl,rfl,rfl,rfl,rfl,rfl,trivial⟩) ⟨ns,n,hc,cQ,hn,hl,rfl⟩ ?_));rintro j s ⟨ns,n,hc,cQ,hn,hl,rfl⟩;cases j with
 | zero=>cases hc
 | succ j =>
 rw [n7] at hc;obtain ⟨x,hx⟩:=O9 hn;have kU:=Nd.map_at hx;have oE:nU ns n=x.up:=by unfold nU;rw [r7 hx]
 have fU:(ns.map Nd.cv).length=ns.length:=length_map ..;refine aS (aS (aR ?_));refine nc zl (nc z5 (nc zg (nc z7 (nc zl (nc (zO (k:=n)) (nc z4 (nc (zP (G:=kU)) (nc zl (nc z8 ?_)))))))));refine aC rfl (fun kF=>?_) (fun kF=>?_)
 ·have kF:x.up≠n:=by intro e;rw [e] at kF;simp at kF
  rw [if_neg (by rw [oE];exact kF)] at hc;have nC:x.up<ns.length:=by rw [<-oE];exact cQ n hn
  obtain ⟨y,hy⟩:=O9 nC;have eU:=Nd.map_at hy;have vN:nU ns (nU ns n)=y.up:=by rw [oE];unfold nU;rw [r7 hy]
  rw [vN] at hc;have iR:y.up<ns.length:=by rw [<-vN];exact cQ _ (by rw [oE];exact nC)
  refine aK ?_;refine aB (aS (aD (by kernel_rfl) (by kernel_rfl) ?_));refine nc zl (nc z5 (nc zg (nc z7 (nc zl (nc zl (nc z5 (nc zg (nc z7 (nc zl (nc z5 (nc zg (nc z7 (nc zl (nc (zO (k:=n)) (nc z4 (nc (zP (G:=kU)) (nc (zO (k:=x.up)) (nc z4 (nc (zP (G:=eU)) (nc (zO (k:=n)) (nc z4 (nc (zR (F:=kU)) ?_))))))))))))))))))))));refine ⟨by kernel_rfl,?_⟩;obtain ⟨ns1,h1⟩:∃ ns1,ns1=setUp ns n y.up:=⟨_,rfl⟩
  have cB:ns1.map Nd.cv=(ns.map Nd.cv).set n (Nd.cw { x with up:=y.up }):=by rw [h1];exact P0 hx
  have eT:ns1.length=ns.length:=by rw [h1,G9]
  have fN:ns1[n]?=some { x with up:=y.up }:=by rw [h1];exact a8S hx
  have sD:=Nd.map_at fN;have sE:nU ns1 n=y.up:=by unfold nU;rw [r7 fN]
  rw [<-h1,sE] at hc;have vO:(ns1.map Nd.cv).length=ns1.length:=length_map ..;refine AWp.wk (a7 (s':=(0,AV.bp 350001 0 [])::(1,.val (.i (n:Int)))::a9K b ck bs ⟨ns1,vr,ps⟩) ⟨rfl,rfl,rfl,?_,rfl,rfl,?_,rfl,rfl,trivial⟩) ?_
  ·show _=some (AV.sl 400001 0 ns1.length 5);rw [eT];rfl
  ·show _=some (AV.mrow 194 5 (ns1.map Nd.cv));rw [cB];rfl
  refine aR ?_;refine nc zl (nc z5 (nc zg (nc z7 (nc zl (nc (zO (k:=n)) (nc z4 (nc (zP (G:=sD)) (nc ze ?_))))))));exact ⟨j,(0,AV.bp 350001 0 [])::(1,.val (.i (y.up:Int)))::a9K b ck bs ⟨ns1,vr,ps⟩,by omega,⟨ns1,y.up,hc,by rw [h1];exact cQ.set iR,by rw [eT];exact iR,by rw [eT];exact hl,rfl⟩,a7 ⟨rfl,rfl,rfl,rfl,rfl,rfl,rfl,rfl,rfl,trivial⟩⟩
 ·have kF:x.up=n:=by have:=of_decide_eq_false kF;simp only [ne_eq,Decidable.not_not] at this;omega
  rw [if_pos (by rw [oE];exact kF)] at hc;cases hc;refine aE ?_;refine aS (aR ?_);refine nc zl (nc ze ?_);exact aT ⟨.inr rfl,_,Wk.refl _,rfl,rfl,rfl,rfl,rfl,rfl,rfl,rfl,trivial⟩
def L4 (vr:List (Int×Nat)) (g:Nat->Tm) (js:List Nat):List Bd:=js.map fun j=>⟨(vr.getD j (0,0)).1,g (vr.getD j (0,0)).2⟩
theorem b4X {l:List Nat} (h:l.Nodup):∀ {i j x:Nat},l[i]?=some x->l[j]?=some x->i=j:=by
 induction l with
 | nil=>intro i j x h1;simp at h1
 | cons y l ih =>
  intro i j x h1 h2;rw [nodup_cons] at h;cases i with
  | zero =>
   cases j with
   | zero=>rfl
   | succ j =>
    simp at h1 h2;subst h1;exact absurd (mem_of_getElem? h2) h.1
  | succ i =>
   cases j with
   | zero =>
    simp at h1 h2;subst h2;exact absurd (mem_of_getElem? h1) h.1
   | succ j =>
    simp at h1 h2;rw [ih h.2 h1 h2]
theorem b0N {n:Nat} {js:List Nat} (hn:js.Nodup) (hl:∀ j∈js,j<n) (ha:∀ j,j<n->j∈js):js.Perm (List.range n):=
 (List.perm_ext_iff_of_nodup hn List.nodup_range).2 fun j=>by rw [List.mem_range];exact ⟨hl j,ha j⟩
theorem a5H {n:Nat} {l:List Nat} (hn:l.Nodup) (hl:∀ j∈l,j<n):l.length<=n:=by
 have h:l.Perm ((List.range n).filter fun x=>decide (x∈l)):=(List.perm_ext_iff_of_nodup hn (List.nodup_range.filter _)).2 fun x=>by rw [List.mem_filter,List.mem_range,decide_eq_true_eq];exact ⟨fun h=>⟨hl x h,h⟩,fun h=>h.2⟩
 have h2:=List.length_filter_le (fun x=>decide (x∈l)) (List.range n);rw [h.length_eq];rw [List.length_range] at h2;exact h2
theorem b0I {vr:List (Int×Nat)} {g:Nat->Tm} {js:List Nat} (h:js.Perm (List.range vr.length)):∃ vr':List (Int×Nat),vr'.Perm vr/\L4 vr g js=vr'.map fun p=>(⟨p.1,g p.2⟩:Bd):=by
 refine ⟨js.map fun j=>vr.getD j (0,0),?_,by unfold L4;rw [map_map];rfl⟩;refine (h.map _).trans ?_;have:(List.range vr.length).map (fun j=>vr.getD j (0,0))=vr:=by
  apply List.ext_getElem?;intro i;rw [List.getElem?_map];rcases Nat.lt_or_ge i vr.length with hi | hi
  ·rw [List.getElem?_range hi,Option.map_some,getD_eq_getElem?_getD,getElem?_eq_getElem hi];rfl
  ·rw [getElem?_eq_none (by simpa using hi),getElem?_eq_none hi];rfl
 rw [this]
set_option maxHeartbeats 8000000 in
theorem b3R (fu:Nat) (c0:Cl) (od:List Nat) (q:Cl×List Tm) (hq:B2 fu od.reverse c0 (List.replicate c0.ns.length tm0)=some q) (hF:FitU c0) (mM:q.1.ns.length=c0.ns.length) (oF:∀ n∈od,n<c0.ns.length) (sK:od.length<=1000) {H r:Nat->Nat} {E} (hC:ClsC q.1 H r E) (wF:FitU q.1) (fG:P4 q.1.vr) (dA:q.1.vr.length<=100000) :
  b7D (Sg:=List Bd×Cl) Tryz.prog 124 (s9 c0) [.bp 350001 0 [],.val (n6 od)] (fun σ=>∃ vr':List (Int×Nat),vr'.Perm q.1.vr/\σ.1=vr'.map fun p=>(⟨p.1,q.2.getD (H p.2) tm0⟩:Bd)) (fun σ => .val (.lst (σ.1.map Bd.cv))) (fun σ=>s9 σ.2):=by
 have fV:=b0V fu c0 od q hq hF mM oF sK;have eR:q.2.length=c0.ns.length:=(TI.all (t:=(c0,List.replicate c0.ns.length tm0)) (N:=c0.ns.length) ⟨hF,by simp,Nat.le_refl _⟩ (fun n hn=>oF n (List.mem_reverse.1 hn)) hq).1.out;obtain ⟨N,hN⟩:∃ N,N=c0.ns.length:=⟨_,rfl⟩
 have hNl:N<=1000:=by rw [hN];exact Nat.le_trans (C2 _) hF.big
 rw [<-hN] at fV mM eR;obtain ⟨c,out⟩:=q;simp only at hC wF fG dA mM eR fV |-;obtain ⟨ns0,vr,ps⟩:=c;simp only at hC wF fG dA mM eR fV |-;have hvm:∀ (j:Nat) (p:Int×Nat),vr[j]?=some p->p.2<N:=fun j p hp=>by have:=(Q0 fG.1 (v:=p.1) (m:=p.2)).2 (mem_of_getElem? hp);have:=(hC.vrt p.1 p.2 this).1;simp only at this;omega
 have bT:(vr.map vrv).length=vr.length:=length_map ..;refine b5a Tryz.func124 Tryz.ntmps124 rfl rfl rfl rfl rfl (fun σ=>rfl) ?_;intro w U hU;refine aS (aR ?_);refine nc ze ?_;refine aS (aR ?_);refine nc zl (nc zl (nc (zW (z:=fV) (G:=i0 (by first | rfl | kernel_rfl))) (nc ze ?_)));refine aS (aR ?_);refine nc zl (nc z5 (nc zg (nc z7 (nc zbl (ne (zbk (k:=(vr.map vrv).length) 200017) (nc ze ?_))))));refine AWp.wk ((a7 (s':=(0,AV.bp 350001 0 [])::(5,.sl 300005 0 N 2)::(6,.sl 200017 0 0 3)::(200017,.mrow 112 3 [])::(300005,.mrow 41 2 (out.map Tm.cv))::s9 ⟨ns0,vr,ps⟩) ⟨rfl,rfl,rfl,rfl,rfl,rfl,rfl,rfl,rfl,rfl,rfl,rfl,trivial⟩).trans (w8 300001 400001 rfl rfl (b7j hU (by kernel_rfl)) (by kernel_rfl) (by kernel_rfl) (by kernel_rfl))) ?_;refine AWp.stamps 300003 (l:=vr.map vrv) rfl rfl fun b ck bs lJ bH yH=>?_;rw [bT] at lJ;refine aS (aS (aR ?_));refine nc zl (nc z5 (nc zg (nc z7 (ne (zbm 300022) ?_))));obtain ⟨g,hg⟩:∃ g:Nat->Tm,g=fun m=>out.getD (H m) tm0:=⟨_,rfl⟩
 obtain ⟨st,cZ⟩:∃ st:List Nat->List Nd->AS,st=fun js ns1=>(0,AV.bp 350001 0 [])::(5,.sl 300005 0 N 2)::(6,.sl 200017 0 js.length 3)::(22,.mref 300022)::(300022,.itr b ck ck (js.map fun j=>bs.getD j 0))::(200017,.mrow 112 3 ((L4 vr g js).map Bd.cv))::(300005,.mrow 41 2 (out.map Tm.cv))::a9K b ck bs ⟨ns1,vr,ps⟩:=⟨_,rfl⟩
 refine aB (t8 (fun m s=>∃ js ns1,m+js.length=vr.length/\js.Nodup/\(∀ j∈js,j<vr.length)/\ClsC ⟨ns1,vr,ps⟩ H r E/\FitU ⟨ns1,vr,ps⟩/\ns1.length=N/\s=st js ns1) (n:=vr.length) (s':=st [] ns0) (by rw [cZ];exact a7 ⟨rfl,rfl,rfl,rfl,rfl,rfl,rfl,rfl,rfl,rfl,rfl,rfl,rfl,rfl,trivial⟩) ⟨[],ns0,rfl,List.nodup_nil,(fun j hj=>by cases hj),hC,wF,mM,rfl⟩ ?_);rintro m s ⟨js,ns1,hm,tK,gF,hC1,fE,eT,rfl⟩;rw [cZ];refine aS (b4j (n:=300003) (k := .i64) rfl rfl rfl rfl rfl rfl rfl rfl rfl (a3n vr) yH (Nat.le_refl _) (fun dJ=>?_) (fun j x i vc hj hl hx=>?_))
 ·refine ⟨_,_,_,aX (gN rfl) rfl rfl rfl rfl rfl rfl,(by first | rfl | kernel_rfl),?_⟩;refine aS (aC rfl (fun hc=>by cases hc) (fun _=>aE ?_));have hcov:∀ j,j<vr.length->j∈js:=fun j hj=>by
   have hjb:j<bs.length:=by omega
   have h1:=dJ (bs[j]) (List.getElem_mem hjb);obtain ⟨j',h2,h3⟩:=mem_map.1 h1;have hj':=gF j' h2;have wG:j'<bs.length:=by omega
   rw [getD_eq_getElem?_getD,getElem?_eq_getElem wG] at h3;have h3:bs[j']=bs[j]:=h3;have:=b4X bH (getElem?_eq_getElem wG) (by rw [h3];exact getElem?_eq_getElem hjb);rw [<-this];exact h2
  obtain ⟨vr',hp,hb⟩:=b0I (g:=g) (b0N tK gF hcov);have pW:((L4 vr g js).map Bd.cv).length=js.length:=by rw [length_map];unfold L4;rw [length_map]
  refine AWp.wk (a7S 6 200017 rfl rfl rfl (.inr (by decide)) (by rw [pW];omega) (s':=a9K b ck bs ⟨ns1,vr,ps⟩) ⟨rfl,rfl,rfl,rfl,rfl,rfl,rfl,trivial⟩ (by kernel_rfl)) ?_;rw [List.drop_zero,List.take_of_length_le (by rw [pW];omega)];refine aS (aR ?_);refine nc zl (nc ze ?_);refine aT ⟨.inr rfl,(L4 vr g js,⟨ns1,vr,ps⟩),⟨vr',hp,by rw [hb,hg]⟩,_,((a7 (s':=(4,AV.val (.lst ((L4 vr g js).map Bd.cv)))::a9K b ck bs ⟨ns1,vr,ps⟩) ⟨rfl,rfl,rfl,rfl,rfl,rfl,rfl,rfl,trivial⟩).trans (b4O 300003 rfl rfl)).trans ((a7 (s':=(4,AV.val (.lst ((L4 vr g js).map Bd.cv)))::O3 ⟨ns1,vr,ps⟩) ⟨rfl,rfl,rfl,rfl,rfl,rfl,rfl,rfl,trivial⟩).trans (w8 400001 300001 rfl rfl (a5q U (by decide)) (by kernel_rfl) (by kernel_rfl) (by kernel_rfl))),rfl,rfl,rfl,rfl,rfl,rfl,rfl,rfl,trivial⟩
 ·refine ⟨_,_,_,aX (gN rfl) rfl rfl rfl rfl rfl rfl,(by first | rfl | kernel_rfl),?_⟩;refine aS (aC rfl (fun _=>aK ?_) (fun hc=>by cases hc));have hjl2:j<vr.length:=by
   rcases Nat.lt_or_ge j bs.length with h | h
   ·omega
   ·rw [getElem?_eq_none h] at hj;cases hj
  obtain ⟨p,hp⟩:∃ p,vr[j]?=some p:=⟨vr[j],getElem?_eq_getElem hjl2⟩
  have hpi:i=p.1/\vc = .i (p.2:Int):=by rw [List.getElem?_map,hp] at hl;have hl:some (CV.row [.i p.1,.i (p.2:Int)])=some (.row [.sc (.int .i64 i),vc]):=hl;injection hl with hl;injection hl with _ _ hl;injection hl with hl bU;injection bU with bU;injection hl with _ hl;injection hl with _ hl;exact ⟨hl.symm,bU.symm⟩
  obtain ⟨rfl,rfl⟩:=hpi;have hpN:=hvm j p hp;obtain ⟨ns2,hd,hC2,kL,_⟩:=ClsC.head (r p.2+1) hC1 (n:=p.2) (by omega) (by omega);obtain ⟨tM,_,iS⟩:=FitU.head fE (by omega) hd;have hHN:H p.2<N:=by have:H p.2<ns1.length:=iS;omega
  have hdc:=b0J b ck bs vr ps (r p.2+1) ns1 p.2 (ns2,H p.2) hd fE.up (by omega) (by omega);obtain ⟨z,hz⟩:∃ z,out[H p.2]?=some z:=⟨out[H p.2]'(by omega),getElem?_eq_getElem (by omega)⟩
  have jI:=Tm.map_at hz;have fJ:(out.map Tm.cv).length=out.length:=length_map ..;have hgz:g p.2=z:=by rw [hg];show out.getD (H p.2) tm0=z;rw [getD_eq_getElem?_getD,hz];rfl
  have pW:((L4 vr g js).map Bd.cv).length=js.length:=by rw [length_map];unfold L4;rw [length_map]
  have hbl3:(L4 vr g js).length=js.length:=by unfold L4;rw [length_map]
  have hbz:=Bd.size_all (L4 vr g js);have hjs:js.length<=100000:=by omega
  have sQ:j∉js:=fun jL=>hx (mem_map.2 ⟨j,jL,by rw [getD_eq_getElem?_getD,hj];rfl⟩);have wI:L4 vr g (js++[j])=L4 vr g js++[⟨p.1,z⟩]:=by unfold L4;rw [map_append,List.map_singleton,getD_eq_getElem?_getD,hp];show _++[(⟨p.1,g p.2⟩:Bd)]=_;rw [hgz]
  have hnd:(js++[j]).Nodup:=by rw [List.nodup_append];exact ⟨tK,by simp,fun a ha b hb=>by rw [mem_singleton] at hb;subst hb;exact fun e=>sQ (e▸ha)⟩
  have kA:∀ x∈js++[j],x<vr.length:=fun x hx=>by
   rcases mem_append.1 hx with h | h
   ·exact gF x h
   ·rw [mem_singleton] at h;omega
  refine aB (aS (aR ?_));refine nc (zbn (n:=300003) (E:=hj) (F:=hl)) (nc zE (nc zE (nc ze (nc ze ?_))));refine aR ?_;refine nc zl (nc zl (nc zl (nc zl (nc zl (nc (zW (z:=hdc) (G:=i0 (by first | rfl | kernel_rfl))) (nc (zO (k:=H p.2)) (nc (zP (G:=jI)) (nc zC (nc zy (ne (zba 200038) (nc ze ?_)))))))))));refine ⟨m-1,st (js++[j]) ns2,?_,⟨js++[j],ns2,?_,?_,?_,hC2,tM,by omega,by rw [cZ]⟩,?_⟩
  ·have h2:=a5H hnd kA;rw [length_append] at h2;simp at h2;omega
  ·have h2:=a5H hnd kA;rw [length_append] at h2 |-;simp at h2 |-;omega
  ·exact hnd
  ·exact kA
  ·rw [cZ];refine (a7 (s':=(0,AV.bp 350001 0 [])::(5,.sl 300005 0 N 2)::(6,.sl 200038 0 (js++[j]).length 3)::(22,.mref 300022)::(300022,.itr b ck ck ((js++[j]).map fun j=>bs.getD j 0))::(200038,.mrow 112 3 ((L4 vr g (js++[j])).map Bd.cv))::(300005,.mrow 41 2 (out.map Tm.cv))::a9K b ck bs ⟨ns2,vr,ps⟩) ⟨rfl,rfl,?_,rfl,?_,?_,rfl,rfl,rfl,rfl,rfl,rfl,rfl,rfl,trivial⟩).trans (A8 200038 200017 rfl rfl (by kernel_rfl) (by kernel_rfl))
   ·rw [length_append,<-pW];rfl
   ·rw [map_append,List.map_singleton,getD_eq_getElem?_getD,hj];rfl
   ·rw [wI,map_append,List.map_singleton];rfl
section
variable {P:Program} {w0:World} {U0:UX} {nt:Nat} {Q:Exit->AS->Prop} {s:AS}
variable {ops:Array Oper} {o:Oper} {gs:List Nat} {S:Nat->Option AV} {d:Nat}
end
theorem c0M {c:Cl} {H r:Nat->Nat} {E} (h:ClsC c H r E) (hv:P4 c.vr):c.vr.length<=c.ns.length:=by
 have hn:(c.vr.map Prod.snd).Nodup:=by have h1:c.vr.Pairwise (fun a b=>a.1≠b.1):=List.pairwise_map.1 hv.1;refine List.pairwise_map.2 (List.Pairwise.imp_of_mem (fun {a b} ha hb oD e=>oD ?_) h1);have e1:=(h.vrt a.1 a.2 (F8 hv.1 ha)).2;have e2:=(h.vrt b.1 b.2 (F8 hv.1 hb)).2;rw [e] at e1;omega
 have:=a1f c.ns.length hn (fun x hx=>by obtain ⟨p,hp,rfl⟩:=mem_map.1 hx;exact (h.vrt p.1 p.2 (F8 hv.1 hp)).1)
 simpa using this
def ToldU (l:List (Tm×Tm)) (r:List Bd×Bool):Prop:=(r.2=false/\r.1=[]/\∀ τ,¬ uni τ l)\/(r.2=true/\∃ s:List Bd,Mgu (f0 s) l/\(∀ b∈s,0<=b.v)/\(∀ v,0<=v->f0 s v=r5 v\/((f0 s v).rng/\(f0 s v).size<=90000000000))/\r.1=y8 s)
theorem ToldU.no {l:List (Tm×Tm)} {r:List Bd×Bool} (h:ToldU l r) (hn:∀ τ,¬ uni τ l):r=([],false):=by
 rcases h with ⟨h1,h2,_⟩ | ⟨_,s,hs,_⟩
 ·cases r;simp_all
 ·exact absurd hs.uni (hn _)
theorem ToldU.yes {l:List (Tm×Tm)} {r:List Bd×Bool} (h:ToldU l r) {u:List Bd} (hu:Mgu (f0 u) l) (eK:∀ b∈u,0<=b.v):r=(y8 u,true)/\∀ v,0<=v->f0 u v=r5 v\/((f0 u v).rng/\(f0 u v).size<=90000000000):=by
 rcases h with ⟨_,_,h3⟩ | ⟨h1,s,hs,h0,hb,h2⟩
 ·exact absurd hu.uni (h3 _)
 ·refine ⟨?_,fun v hv=>by rw [hs.one hu hv];exact hb v hv⟩;rw [<-b6d h0 eK hs hu,<-h2,<-h1]
theorem b4r {l:List (Tm×Tm)} {r:List Bd×Bool} (h:ToldU l r) {vr vr':List (Int×Nat)} (hv:P4 vr) (qJ:∀ p∈vr,p.1<=9223372036854775807) (hp:vr'.Perm vr) {g:Nat->Tm} {u:List Bd} (hu:u=vr'.map fun p=>(⟨p.1,g p.2⟩:Bd)) (hm:∀ s:List Bd,(∀ v,d8 s v=(o5 vr v).map g)->Mgu (f0 s) l):r=(y8 u,true)/\(u.map Bd.v).Nodup/\bdsOk u:=by
 have hf:∀ v,d8 u v=(o5 vr v).map g:=fun v=>by rw [hu];exact a3f hv.1 hp g v
 have eK:∀ b∈u,0<=b.v:=fun b hb=>by rw [hu] at hb;obtain ⟨p,dU,rfl⟩:=mem_map.1 hb;exact hv.2 p (hp.mem_iff.1 dU)
 obtain ⟨h1,h2⟩:=h.yes (hm u hf) eK;refine ⟨h1,?_,fun b hb=>?_⟩
 ·rw [hu,map_map];exact (hp.map Prod.fst).nodup_iff.2 hv.1
 ·have h3:=h2 b.v (eK b hb);have e:f0 u b.v=b.t:=by unfold f0;rw [hf];rw [hu] at hb;obtain ⟨p,dU,rfl⟩:=mem_map.1 hb;show ((o5 vr p.1).map g).getD _=_;rw [F8 hv.1 (hp.mem_iff.1 dU)];rfl
  rw [e] at h3;rcases h3 with h3 | h3
  ·rw [h3];have kV:b.v<=9223372036854775807:=by rw [hu] at hb;obtain ⟨p,dU,rfl⟩:=mem_map.1 hb;exact qJ p (hp.mem_iff.1 dU)
   have lI:=eK b hb;exact ⟨a8Q (by omega) (by omega),by rw [Tm.size_var (by rw [s6];omega)];decide⟩
  ·exact h3
theorem a1N:∀ E:Nat,2 ^ E<=3 ^ E
 | 0=>Nat.le_refl _
 | E+1=>by
  have:=a1N E;rw [Nat.pow_succ,Nat.pow_succ];omega
theorem a2h:∀ k:Nat,k*2 ^ k<=3 ^ k
 | 0=>by decide
 | 1=>by decide
 | 2=>by decide
 | k+3=>by
  have h:=a2h (k+2);have e1:(k+3)*2 ^ (k+3)=(2*(k+3))*2 ^ (k+2):=by rw [Nat.pow_succ 2 (k+2),Nat.mul_comm (2 ^ (k+2)) 2,<-Nat.mul_assoc,Nat.mul_comm (k+3) 2]
  have e2:3 ^ (k+3)=3*3 ^ (k+2):=by rw [Nat.pow_succ 3 (k+2),Nat.mul_comm]
  rw [e1,e2];have h2:(2*(k+3))*2 ^ (k+2)<=(3*(k+2))*2 ^ (k+2):=Nat.mul_le_mul_right _ (by omega);rw [Nat.mul_assoc 3] at h2;omega
def Big (E s:Nat):Prop:=2 ^ E*(s+1)<=2*3 ^ E
theorem Big.succ {E s:Nat} (h:Big E s):Big (E+1) s:=by
 unfold Big at *;rw [Nat.pow_succ,Nat.pow_succ,Nat.mul_assoc,Nat.mul_left_comm];omega
theorem Big.up {E F s:Nat} (h:Big E s) (hf:E<=F):Big F s:=by
 induction hf with
 | refl=>exact h
 | step _ ih=>exact ih.succ
theorem Big.sum {E:Nat}:∀ (l:List Nat),(∀ s∈l,Big E s)->2 ^ E*(l.sum+l.length)<=2*l.length*3 ^ E
 | [],_=>by simp
 | s::l,h=>by
  have h1:2 ^ E*(s+1)<=2*3 ^ E:=h s (by simp);have h2:=Big.sum l fun x hx=>h x (mem_cons_of_mem _ hx);rw [sum_cons,length_cons,show s+l.sum+(l.length+1)=(s+1)+(l.sum+l.length) by omega,Nat.mul_add,show 2*(l.length+1)*3 ^ E=2*3 ^ E+2*l.length*3 ^ E by rw [Nat.mul_add,Nat.add_mul,Nat.add_comm]];omega
theorem Big.node {E:Nat} (l:List Nat) (h:∀ s∈l,Big E s):Big (E+l.length) (1+l.sum):=by
 have h1:=Big.sum l h;have uU:=a1N E;have hk:=a2h l.length;unfold Big;rw [Nat.pow_add,Nat.pow_add];obtain ⟨A,hA⟩:∃ A,A=2 ^ E:=⟨_,rfl⟩
 obtain ⟨B,hB⟩:∃ B,B=3 ^ E:=⟨_,rfl⟩
 rw [<-hA,<-hB] at h1 uU |-
 match l,h1,hk with
 | [],h1,hk=>simp;omega
 | [s],h1,hk =>
  simp only [sum_cons,List.sum_nil,length_cons,length_nil,Nat.add_zero,Nat.zero_add,Nat.pow_one,Nat.mul_one] at h1 |-;rw [Nat.mul_comm A 2,Nat.mul_assoc,show A*(1+s+1)=A*(s+1)+A by rw [show 1+s+1=(s+1)+1 by omega,Nat.mul_add,Nat.mul_one]];omega
 | s::t::l,h1,hk =>
  obtain ⟨m,hm⟩:∃ m,m=s::t::l:=⟨_,rfl⟩
  have kD:2<=m.length:=by rw [hm];simp
  rw [<-hm] at h1 hk |-;obtain ⟨P,hP⟩:∃ P,P=2 ^ m.length:=⟨_,rfl⟩
  obtain ⟨Q,hQ⟩:∃ Q,Q=3 ^ m.length:=⟨_,rfl⟩
  rw [<-hP,<-hQ] at hk;rw [<-hP,<-hQ];have h2:A*(1+m.sum+1)<=A*(m.sum+m.length):=Nat.mul_le_mul_left _ (by omega);have h3:A*(1+m.sum+1)<=2*m.length*B:=Nat.le_trans h2 h1;have h4:P*(A*(1+m.sum+1))<=P*(2*m.length*B):=Nat.mul_le_mul_left _ h3;have h5:P*(2*m.length*B)=2*(m.length*P*B):=by rw [Nat.mul_assoc 2,Nat.mul_left_comm P 2,<-Nat.mul_assoc P,Nat.mul_comm P m.length]
  have h6:m.length*P*B<=Q*B:=Nat.mul_le_mul_right _ hk;rw [show A*P*(1+m.sum+1)=P*(A*(1+m.sum+1)) by rw [Nat.mul_comm A P,Nat.mul_assoc],Nat.mul_comm B Q];omega
theorem b5r {g:Int->Int} {t:Tm} (hg:∀ v∈t.vs,0<=g v):(a9 (fun v=>r5 (g v)) t).size=t.size:=by
 induction t using Tm.ind with
 | h f l ih =>
  by_cases hf:f<0
  ·have h1:=hg (-1-f) (by rw [Tm.vs_var (t:=⟨f,l⟩) hf];simp);rw [l6 (t:=⟨f,l⟩) hf,y0,Tm.size_var (t:=⟨f,l⟩) hf];exact Tm.size_var (by rw [s6];show -1-g (-1-f)<0;omega)
  ·rw [Tm.vs_sym (t:=⟨f,l⟩) hf] at hg;rw [j5 (t:=⟨f,l⟩) hf,Tm.size_sym (t:=⟨f,l⟩) hf,Tm.size_sym (t:=⟨f,_⟩) hf,map_map];congr 2;exact List.map_congr_left fun t ht=>ih t ht fun v hv=>hg v (mem_flatMap.2 ⟨t,ht,hv⟩)
theorem b4i {s:List Bd} {E:List (Tm×Tm)} (h:Mgu (f0 s) E) {t:Tm} {u:Int} (hu:u∈(a9 (f0 s) t).vs):d8 (y8 s) u=none:=by
 have eK:=p9 _ u hu;rw [b4G s eK,h.rep_vs hu,if_pos];show (decide ((r5 u).f<0)&&decide (-1-(r5 u).f=u))=true;rw [s6,decide_eq_true (by omega),decide_eq_true (by omega)];rfl
def b8Z (S:List Tm):Prop:=∀ s∈S,∀ p∈s.ps,p∈S
def Hits (S:List Tm) (σ:Int->Tm) (t:Tm):Prop:=∃ s∈S,a9 σ t=a9 σ s
def Orig (S:List Tm) (σ:Int->Tm):Prop:=∀ v,0<=v->¬ (σ v).f<0->∃ s∈S,¬ s.f<0/\a9 σ s=σ v
theorem Hits.sym {S:List Tm} {σ:Int->Tm} {t:Tm} (h:Hits S σ t) (ho:Orig S σ) (hb:∀ v,0<=v->(σ v).strip=σ v) (hf:¬ (a9 σ t).f<0):∃ s∈S,¬ s.f<0/\a9 σ t=a9 σ s:=by
 obtain ⟨s,hs,e⟩:=h;by_cases dX:s.f<0
 ·have h0:0 <= -1-s.f:=by omega
  have e2:a9 σ s=σ (-1-s.f):=by rw [l6 dX,hb _ h0]
  rw [e,e2] at hf;obtain ⟨q,hq,mN,e3⟩:=ho _ h0 hf;exact ⟨q,hq,mN,by rw [e,e2,e3]⟩
 ·exact ⟨s,hs,dX,e⟩
theorem a0y {S:List Tm} {f g:Tm->Nat} (h:∀ x∈S,f x<=g x):(S.map f).sum<=(S.map g).sum:=by
 induction S with
 | nil=>exact Nat.le_refl _
 | cons a S ih =>
  rw [map_cons,map_cons,sum_cons,sum_cons];have h1:=h a (by simp);have h2:=ih fun x hx=>h x (mem_cons_of_mem _ hx);omega
theorem a8I {S:List Tm} {f g:Tm->Nat} {c:Nat} {s:Tm} (hs:s∈S) (hc:f s+c<=g s) (h:∀ x∈S,f x<=g x):(S.map f).sum+c<=(S.map g).sum:=by
 induction S with
 | nil=>cases hs
 | cons a S ih =>
  rw [map_cons,map_cons,sum_cons,sum_cons];have h1:=h a (by simp);rcases mem_cons.1 hs with rfl | hs
  ·have:=a0y (S:=S) fun x hx=>h x (mem_cons_of_mem _ hx);omega
  ·have:=ih hs fun x hx=>h x (mem_cons_of_mem _ hx);omega
def arN (S:List Tm) (σ:Int->Tm) (n:Nat):Nat:=(S.map fun s=>if (a9 σ s).size<=n then s.ps.length else 0).sum
theorem b5R {S:List Tm} {σ:Int->Tm} {n m:Nat} (h:n<=m):arN S σ n<=arN S σ m:=a0y fun x _=>by
 split
 ·rw [if_pos (by omega)];exact Nat.le_refl _
 ·exact Nat.zero_le _
theorem Big.one (E:Nat):Big E 1:=by
 unfold Big;have:=a1N E;omega
theorem b8I {S:List Tm} {σ:Int->Tm} (hc:b8Z S) (ho:Orig S σ) (hb:∀ v,0<=v->(σ v).strip=σ v):∀ (n:Nat),∀ s∈S,¬ s.f<0->(a9 σ s).size<=n->Big (arN S σ n) (a9 σ s).size:=by
 intro n
 induction n with
 | zero=>intro s _ _ h;have:=Tm.size_pos (a9 σ s);omega
 | succ n ih =>
  intro s hs hf hn;by_cases dC:(a9 σ s).size<=n
  ·exact (ih s hs hf dC).up (b5R (by omega))
  have kC:(a9 σ s).size=n+1:=by omega
  have gZ:s.ps=s.l:=Tm.ps_of_sym (by omega);have he:a9 σ s=⟨s.f,s.l.map (a9 σ)⟩:=j5 hf;have h1:(a9 σ s).size=1+((s.l.map (a9 σ)).map Tm.size).sum:=by rw [he];exact Tm.size_sym (t:=⟨s.f,s.l.map (a9 σ)⟩) hf
  have kX:∀ x∈(s.l.map (a9 σ)).map Tm.size,Big (arN S σ n) x:=by
   intro x hx;rw [map_map] at hx;obtain ⟨p,hp,rfl⟩:=mem_map.1 hx;show Big _ (a9 σ p).size;have gD:p∈S:=hc s hs p (by rw [gZ];exact hp);have kA:(a9 σ p).size<(a9 σ s).size:=Tm.size_part (by rw [he,Tm.ps_of_sym (by show 0<=s.f;omega)];exact mem_map.2 ⟨p,hp,rfl⟩);by_cases hv:(a9 σ p).f<0
   ·rw [Tm.size_var hv];exact Big.one _
   ·obtain ⟨q,hq,mN,e⟩:=Hits.sym ⟨p,gD,rfl⟩ ho hb hv;rw [e] at kA |-;exact ih q hq mN (by omega)
  have h2:=Big.node _ kX;rw [<-h1] at h2;refine h2.up ?_;rw [length_map,length_map];refine a8I hs ?_ fun x _=>?_
  ·rw [if_neg (by omega),if_pos (by omega),gZ];omega
  ·split
   ·rw [if_pos (by omega)];exact Nat.le_refl _
   ·exact Nat.zero_le _
def arA (S:List Tm):Nat:=(S.map fun s=>s.ps.length).sum
theorem a1l {S:List Tm} {σ:Int->Tm} (hc:b8Z S) (ho:Orig S σ) (hb:∀ v,0<=v->(σ v).strip=σ v) {t:Tm} (h:Hits S σ t):Big (arA S) (a9 σ t).size:=by
 by_cases hv:(a9 σ t).f<0
 ·rw [Tm.size_var hv];exact Big.one _
 ·obtain ⟨q,hq,mN,e⟩:=h.sym ho hb hv;rw [e];refine (b8I hc ho hb _ q hq mN (Nat.le_refl _)).up (a0y fun x _=>?_);split
  ·exact Nat.le_refl _
  ·exact Nat.zero_le _
theorem a2T (S T:List Tm):arA (S++T)=arA S+arA T:=by unfold arA;rw [map_append,List.sum_append]
theorem a1g (t:Tm):arA t.flat+1=t.size:=by
 induction t using Tm.indp with
 | h t ih =>
  have:∀ l:List Tm,(∀ s∈l,arA s.flat+1=s.size)->arA (l.flatMap Tm.flat)+l.length=(l.flatMap Tm.flat).length:=by
   intro l
   induction l with
   | nil=>intro _;rfl
   | cons a l ih2 =>
    intro h;have h1:=h a (by simp);have h2:=ih2 fun s hs=>h s (mem_cons_of_mem _ hs);unfold Tm.size at h1;rw [flatMap_cons,a2T,length_append,length_cons];omega
  have h3:=this t.ps ih;rw [Tm.size_eq,Tm.flat_eq];show ((t::t.ps.flatMap Tm.flat).map fun s:Tm=>s.ps.length).sum+1=_;rw [map_cons,sum_cons];have h4:arA (t.ps.flatMap Tm.flat)=((t.ps.flatMap Tm.flat).map fun s:Tm=>s.ps.length).sum:=rfl;omega
theorem a5Y (t:Tm):b8Z t.flat:=by
 induction t using Tm.indp with
 | h t ih =>
  intro s hs p hp;rw [Tm.flat_eq] at hs |-;rcases mem_cons.1 hs with rfl | hs
  ·refine mem_cons_of_mem _ (mem_flatMap.2 ⟨p,hp,?_⟩);rw [Tm.flat_eq];simp
  ·obtain ⟨q,hq,hs⟩:=mem_flatMap.1 hs;exact mem_cons_of_mem _ (mem_flatMap.2 ⟨q,hq,ih q hq s hs p hp⟩)
def K0 (l:List (Tm×Tm)):List Tm:=l.flatMap fun p=>p.1.flat++p.2.flat
theorem Y3 (l:List (Tm×Tm)):b8Z (K0 l):=by
 intro s hs p hp;obtain ⟨q,hq,hs⟩:=mem_flatMap.1 hs;refine mem_flatMap.2 ⟨q,hq,?_⟩;rcases mem_append.1 hs with hs | hs
 ·exact List.mem_append_left _ (a5Y _ s hs p hp)
 ·exact List.mem_append_right _ (a5Y _ s hs p hp)
theorem a8P {l:List (Tm×Tm)} {p:Tm×Tm} (h:p∈l):p.1∈K0 l/\p.2∈K0 l:=by
 refine ⟨mem_flatMap.2 ⟨p,h,List.mem_append_left _ ?_⟩,mem_flatMap.2 ⟨p,h,List.mem_append_right _ ?_⟩⟩<;>(rw [Tm.flat_eq];simp)
theorem a7g:∀ l:List (Tm×Tm),(∀ p∈l,p.1.size<=16/\p.2.size<=16)->arA (K0 l)<=30*l.length
 | [],_=>Nat.le_refl _
 | p::l,h=>by
  have h1:=h p (by simp);have h2:=a7g l fun q hq=>h q (mem_cons_of_mem _ hq);have e:K0 (p::l)=(p.1.flat++p.2.flat)++K0 l:=flatMap_cons;have h3:=a1g p.1;have h4:=a1g p.2;rw [e,a2T,a2T,length_cons];omega
theorem b1q {s E:Nat} (hE:E<=60) (h:Big E s):s<=90000000000:=by
 have h:=h.up hE;unfold Big at h;have e1:(2:Nat) ^ 60=1152921504606846976:=by decide
 have e2:(3:Nat) ^ 60=42391158275216203514294433201:=by decide
 rw [e1,e2] at h;omega
structure a7t (V:List Int) (S:List Tm) (K:Nat) (s:List Bd) (E:List (Tm×Tm)):Prop where
 mgu:Mgu (f0 s) E
 bare:L7 s
 inV:inV V s
 orig:Orig S (f0 s)
 len:s.length+frN V s<=K
 num:∀ b∈s,b.v∈V
theorem b8p {V:List Int} (hV:∀ v∈V,0<=v) {n:Nat} {s:List Bd} {a b:Tm} {E:List (Tm×Tm)} {r} (e:rU n s a b=some r) (hm:Mgu (f0 s) E) (hb:L7 s) (hi:inV V s) (ha:∀ u∈a.vs,u∈V) (sC:∀ u∈b.vs,u∈V):RSpec V E [(a,b)] s r:=by
 obtain ⟨m,r',e',h⟩:=b2G hV _ _ s a b E rfl rfl hm hb hi ha sC;have h1:=a7N (Nat.le_max_left n m) _ _ _ _ e;have h2:=a7N (Nat.le_max_right n m) _ _ _ _ e';rw [h1] at h2;cases h2;exact h
theorem b7Z (s:List Bd) (x:Int) (t:Tm):(a5k s x t).length=s.length+1:=by unfold a5k;simp
theorem Orig.bnd {S:List Tm} {s:List Bd} (ho:Orig S (f0 s)) (hb:L7 s) {x:Int} {b:Tm} (fT:x∉(a9 (f0 s) b).vs) (hh:Hits S (f0 s) b):Orig S (f0 (a5k s x (a9 (f0 s) b))):=by
 have hB:(a9 (f0 s) b).strip=a9 (f0 s) b:=A4 _ _;have hr:∀ t,a9 (f0 (a5k s x (a9 (f0 s) b))) t=a9 (V5 x (a9 (f0 s) b)) (a9 (f0 s) t):=fun t=>by rw [a3H];exact I8 fun v hv=>a1m hB (p9 _ v hv)
 intro v hv hf;rw [a1m hB hv] at hf |-;by_cases h1:(f0 s v).f<0
 ·obtain ⟨w,hw⟩:∃ w,w = -1-(f0 s v).f:=⟨_,rfl⟩
  have e1:a9 (V5 x (a9 (f0 s) b)) (f0 s v)=(V5 x (a9 (f0 s) b) w).strip:=by rw [l6 h1,hw]
  rw [e1] at hf |-;unfold V5 at hf |-;by_cases hx:w=x
  ·rw [if_pos hx,hB] at hf |-;obtain ⟨q,hq,mN,e⟩:=hh.sym ho (fun v hv=>N0 hb v) hf;refine ⟨q,hq,mN,?_⟩;rw [hr,<-e,b1Z fT,hB]
  ·rw [if_neg hx,y0,s6] at hf;omega
 ·obtain ⟨q,hq,mN,e⟩:=ho v hv h1;exact ⟨q,hq,mN,by rw [hr,e]⟩
structure Way (V:List Int) (S:List Tm) (s:List Bd) (a:Tm):Prop where
 vs:∀ u∈a.vs,u∈V
 hits:Hits S (f0 s) a
theorem b8f {V:List Int} {s:List Bd} {x:Int} {t:Tm} (h:∀ b∈s,b.v∈V) (hx:x∈V):∀ b∈a5k s x t,b.v∈V:=fun b hb=>by
 rcases mem_append.1 hb with hb | hb
 ·obtain ⟨c,hc,rfl⟩:=mem_map.1 hb;exact h c hc
 ·rw [mem_singleton] at hb;rw [hb];exact hx
theorem b6l {V:List Int} (hV:∀ v∈V,0<=v) {S:List Tm} {K n:Nat} {s:List Bd} {E:List (Tm×Tm)} (h:a7t V S K s E) {a b a1 b1:Tm} (ha1:a1=a9 (f0 s) a) (kV:b1=a9 (f0 s) b) (ha:Way V S s a) (hb:Way V S s b) (hf:a1.f<0) {s':List Bd} (hr:a1Z (rU n) s a1 b1=some (some s')):Orig S (f0 s')/\s'.length=s.length+1/\∀ b∈s',b.v∈V:=by
 unfold a1Z at hr;rw [if_pos hf] at hr;split at hr
 ·cases hr
 ·rename_i fT;cases hr;have hx : -1-a1.f∈V:=S9 h.inV ha.vs _ (by rw [<-ha1,Tm.vs_var hf];simp);rw [kV] at fT |-;exact ⟨h.orig.bnd h.bare fT hb.hits,b7Z _ _ _,b8f h.num hx⟩
theorem a4F {l:List Bd} {t:Tm} (h:t.rng) (hi:∀ b∈l,b.t.rng):(n5 l t).rng:=by
 induction t using Tm.ind with
 | h f k ih =>
  obtain ⟨h1,h2⟩:=(Tm.rng_iff _).1 h;simp only at h1 h2;by_cases hf:f<0
  ·rw [a4L hf];unfold f0;cases hb:d8 l (-1-(Tm.mk f k).f) with
   | none =>
    show (r5 (-1-f)).rng;exact a8Q (by omega) (by omega)
   | some t =>
    obtain ⟨b,wJ,e,_⟩:=K5 hb;show t.rng;rw [<-e];exact hi b wJ
  ·rw [a4l hf];refine (Tm.rng_iff _).2 ⟨h1,fun s hs=>?_⟩;obtain ⟨u,hu,rfl⟩:=mem_map.1 hs;exact ih u hu (h2 u hu)
def b4I (g:List Bd->Tm->Tm->Option (Option (List Bd))) (C:List Bd->Tm->Tm->Prop):List (Tm×Tm)->List Bd->Prop
 | [],_=>True
 | p::ps,s=>C s p.1 p.2/\∀ s',g s p.1 p.2=some (some s')->b4I g C ps s'
def Cnd:Nat->List Bd->Tm->Tm->Prop
 | 0,_,_,_=>True
 | n+1,s,a,b=>(s.length<=100000/\∀ x∈s,x.t.rng/\x.t.ok)/\(a.rng/\a.ok/\b.rng/\b.ok)/\((n5 s a).size<=90000000000/\(n5 s b).size<=90000000000)/\∀ a2 b2:Tm,a2=(if swC (n5 s a) (n5 s b) then n5 s b else n5 s a)->b2=(if swC (n5 s a) (n5 s b) then n5 s a else n5 s b)->¬ a2.f<0->a2.f=b2.f->a2.l.length=b2.l.length->b4I (rU n) (Cnd n) (a2.l.zip b2.l) s
def V4 (s:List Bd):Prop:=∀ x∈s,x.t.rng/\x.t.ok
theorem c0Y {s:List Bd} {x:Int} {t:Tm} (h:V4 s) (ht:t.rng/\t.ok):V4 (a5k s x t):=fun y hy=>by
 have h1:V4 [⟨x,t⟩]:=fun b hb=>by rw [mem_singleton] at hb;rw [hb];exact ht
 rcases mem_append.1 hy with hy | hy
 ·obtain ⟨c,hc,rfl⟩:=mem_map.1 hy;exact ⟨a4F (h c hc).1 fun b hb=>(h1 b hb).1,a7s (h c hc).2 fun b hb=>(h1 b hb).2⟩
 ·exact h1 y hy
theorem c0l {V:List Int} {K:Nat} {s s':List Bd} (h:s.length+frN V s<=K) (hl:s'.length=s.length+1) (hd:s'=s\/frN V s'<frN V s):s'.length+frN V s'<=K:=by
 rcases hd with rfl | hd
 ·omega
 ·omega
section
variable {V:List Int} {S:List Tm} {K:Nat}
theorem a3C (hV:∀ v∈V,0<=v) {n:Nat} {E:List (Tm×Tm)} (ih:∀ (s:List Bd) (a b:Tm) (E:List (Tm×Tm)),a7t V S K s E->V4 s->Way V S s a->Way V S s b->(a.rng/\a.ok)->(b.rng/\b.ok)->Cnd n s a b/\∀ s',rU n s a b=some (some s')->a7t V S K s' (E++[(a,b)])/\V4 s'):∀ (ps:List (Tm×Tm)) (s:List Bd) (F:List (Tm×Tm)),a7t V S K s (E++F)->V4 s->(∀ p∈ps,(∀ (s1:List Bd) F1,Mgu (f0 s1) (E++F1)->Way V S s1 p.1/\Way V S s1 p.2)/\(p.1.rng/\p.1.ok)/\(p.2.rng/\p.2.ok))->b4I (rU n) (Cnd n) ps s/\∀ s',rUs (rU n) ps s=some (some s')->a7t V S K s' (E++F++ps)/\V4 s'
 | [],s,F,hm,hr,_=>⟨trivial,fun s' e=>by cases e;rw [List.append_nil];exact ⟨hm,hr⟩⟩
 | p::ps,s,F,hm,hr,hp=>by
  obtain ⟨h1,h2,h3⟩:=hp p (by simp);obtain ⟨w1,w2⟩:=h1 s F hm.mgu;obtain ⟨c1,c2⟩:=ih s p.1 p.2 (E++F) hm hr w1 w2 h2 h3;have next:∀ s1,rU n s p.1 p.2=some (some s1)->b4I (rU n) (Cnd n) ps s1/\∀ s',rUs (rU n) ps s1=some (some s')->a7t V S K s' (E++F++p::ps)/\V4 s':=fun s1 e=>by
   obtain ⟨m1,m2⟩:=c2 s1 e;have e3:E++F++[(p.1,p.2)]=E++(F++[p]):=by rw [List.append_assoc]
   rw [e3] at m1;have:=a3C hV ih ps s1 (F++[p]) m1 m2 fun q hq=>hp q (mem_cons_of_mem _ hq);rw [show E++(F++[p])++ps=E++F++p::ps by simp] at this;exact this
  refine ⟨⟨c1,fun s1 e=>(next s1 e).1⟩,fun s' e=>?_⟩;rw [rUs] at e;cases hg:rU n s p.1 p.2 with
  | none=>rw [hg] at e;cases e
  | some q =>
   rw [hg] at e;cases q with
   | none=>cases e
   | some s1=>exact (next s1 hg).2 s' e
theorem b7g (hV:∀ v∈V,0<=v) (hc:b8Z S) (hK:K<=100000) (hE:arA S<=60):∀ (n:Nat) (s:List Bd) (a b:Tm) (E:List (Tm×Tm)),a7t V S K s E->V4 s->Way V S s a->Way V S s b->(a.rng/\a.ok)->(b.rng/\b.ok)->Cnd n s a b/\∀ s',rU n s a b=some (some s')->a7t V S K s' (E++[(a,b)])/\V4 s':=by
 intro n
 induction n with
 | zero=>intro s a b E _ _ _ _ _ _;exact ⟨trivial,fun s' e=>by cases e⟩
 | succ n ih =>
  intro s a b E hm hr wa wb ha hb;have ea:n5 s a=a9 (f0 s) a:=o0 hm.bare a;have eb:n5 s b=a9 (f0 s) b:=o0 hm.bare b;have iN:∀ v,0<=v->(f0 s v).strip=f0 s v:=fun v _=>N0 hm.bare v;have za:(n5 s a).size<=90000000000:=by rw [ea];exact b1q hE (a1l hc hm.orig iN wa.hits)
  have zb:(n5 s b).size<=90000000000:=by rw [eb];exact b1q hE (a1l hc hm.orig iN wb.hits)
  have ra:(n5 s a).rng/\(n5 s a).ok:=⟨a4F ha.1 fun x hx=>(hr x hx).1,a7s ha.2 fun x hx=>(hr x hx).2⟩
  have rb:(n5 s b).rng/\(n5 s b).ok:=⟨a4F hb.1 fun x hx=>(hr x hx).1,a7s hb.2 fun x hx=>(hr x hx).2⟩
  have part:∀ c:Tm,Way V S s c->(n5 s c).rng/\(n5 s c).ok->¬ (n5 s c).f<0->∀ p∈(n5 s c).l,(∀ (s1:List Bd) F1,Mgu (f0 s1) (E++F1)->Way V S s1 p)/\p.rng/\p.ok:=by
   intro c wc tN tO p hp;have ec:n5 s c=a9 (f0 s) c:=o0 hm.bare c;refine ⟨fun s1 F1 h1=>?_,((Tm.rng_iff _).1 tN.1).2 p hp,((Tm.ok_iff _).1 tN.2).2 p hp⟩;have hu:uni (f0 s1) E:=(B8.1 h1.uni).1;refine ⟨fun u hu=>S9 hm.inV wc.vs u ?_,?_⟩
   ·rw [<-ec,Tm.vs_sym tO];exact mem_flatMap.2 ⟨p,hp,hu⟩
   ·rw [ec] at tO hp;obtain ⟨q,hq,mN,e⟩:=wc.hits.sym hm.orig iN tO;rw [e,j5 mN] at hp;obtain ⟨q2,fA,rfl⟩:=mem_map.1 hp;exact ⟨q2,hc q hq q2 (by rw [Tm.ps_of_sym (by omega)];exact fA),hm.mgu.rep hu q2⟩
  have list:∀ c d:Tm,Way V S s c->Way V S s d->(n5 s c).rng/\(n5 s c).ok->(n5 s d).rng/\(n5 s d).ok->¬ (n5 s c).f<0->(n5 s c).f=(n5 s d).f->b4I (rU n) (Cnd n) ((n5 s c).l.zip (n5 s d).l) s/\∀ s',rUs (rU n) ((n5 s c).l.zip (n5 s d).l) s=some (some s')->a7t V S K s' (E++[]++(n5 s c).l.zip (n5 s d).l)/\V4 s':=by intro c d wc wd tN oU tO hfe;refine a3C hV ih _ s [] (by rw [List.append_nil];exact hm) hr fun p hp=>?_;obtain ⟨p1,p2⟩:=List.of_mem_zip (a:=p.1) (b:=p.2) hp;obtain ⟨a1,a2⟩:=part c wc tN tO _ p1;obtain ⟨b1,b2⟩:=part d wd oU (by rw [<-hfe];exact tO) _ p2;exact ⟨fun s1 F1 h1=>⟨a1 s1 F1 h1,b1 s1 F1 h1⟩,a2,b2⟩
  refine ⟨⟨⟨by have:=hm.len;omega,hr⟩,⟨ha.1,ha.2,hb.1,hb.2⟩,⟨za,zb⟩,?_⟩,fun s' e=>?_⟩
  ·intro a2 b2 e1 e2 hf lH dF;split at e1
   ·rename_i hs;rw [if_pos hs] at e2;subst e1 e2;exact (list b a wb wa rb ra hf lH).1
   ·rename_i hs;rw [if_neg hs] at e2;subst e1 e2;exact (list a b wa wb ra rb hf lH).1
  ·have sR:=b8p hV e hm.mgu hm.bare hm.inV wa.vs wb.vs;obtain ⟨q1,q2,q3,q4⟩:=sR;have go:∀ c d:Tm,Way V S s c->Way V S s d->(n5 s c).rng/\(n5 s c).ok->(n5 s d).rng/\(n5 s d).ok->a1Z (rU n) s (n5 s c) (n5 s d)=some (some s')->(Orig S (f0 s')/\s'.length+frN V s'<=K/\∀ b∈s',b.v∈V)/\V4 s':=by
    intro c d wc wd tN oU e;by_cases hf:(n5 s c).f<0
    ·obtain ⟨o1,o2,o3⟩:=b6l hV hm (o0 hm.bare c) (o0 hm.bare d) wc wd hf e;refine ⟨⟨o1,c0l hm.len o2 q4,o3⟩,?_⟩;unfold a1Z at e;rw [if_pos hf] at e;split at e
     ·cases e
     ·cases e;exact c0Y hr oU
    ·unfold a1Z at e;rw [if_neg hf] at e;split at e
     ·cases e
     ·rename_i kF;obtain ⟨m1,m2⟩:=(list c d wc wd tN oU hf (Decidable.byContradiction fun h=>kF (.inl h))).2 s' e;exact ⟨⟨m1.orig,m1.len,m1.num⟩,m2⟩
   rw [rU] at e;split at e
   ·cases e;exact ⟨⟨q1,q2,q3,hm.orig,hm.len,hm.num⟩,hr⟩
   ·split at e
    ·obtain ⟨⟨o1,o2,o4⟩,o3⟩:=go b a wb wa rb ra e;exact ⟨⟨q1,q2,q3,o1,o2,o4⟩,o3⟩
    ·obtain ⟨⟨o1,o2,o4⟩,o3⟩:=go a b wa wb ra rb e;exact ⟨⟨q1,q2,q3,o1,o2,o4⟩,o3⟩
end
def a5o (l:List (Tm×Tm)):Prop:=∀ p∈l,((p.1.rng/\p.1.ok)/\p.1.size<=16)/\((p.2.rng/\p.2.ok)/\p.2.size<=16)
def H4 (l:List (Tm×Tm)):List Int:=l.flatMap fun p=>p.1.vs++p.2.vs
theorem a9h {V:List Int} (p:Int->Bool):(V.filter p).length<=V.length:=List.length_filter_le _ _
theorem b1N (t:Tm):t.vs.length<=t.size:=by
 unfold Tm.vs Tm.size vsL;rw [length_map];exact List.length_filter_le _ _
theorem a1G:∀ l:List (Tm×Tm),a5o l->(H4 l).length<=32*l.length
 | [],_=>Nat.le_refl _
 | p::l,h=>by
  have h1:=h p (by simp);have h2:=a1G l fun q hq=>h q (mem_cons_of_mem _ hq);have e:H4 (p::l)=(p.1.vs++p.2.vs)++H4 l:=flatMap_cons;have h3:=b1N p.1;have h4:=b1N p.2;rw [e,length_append,length_append,length_cons];omega
theorem b8E (l:List (Tm×Tm)) (hl:l.length<=2) (ht:a5o l):∃ n r,rUs (rU n) l []=some r/\b4I (rU n) (Cnd n) l []/\(r=none->∀ τ,¬ uni τ l)/\∀ s,r=some s->Mgu (f0 s) l/\L7 s/\inV (H4 l) s/\V4 s/\(∀ b∈s,0<=b.v)/\s.length<=64/\(∀ b∈s,b.v∈H4 l)/\(∀ t,(∃ q∈K0 l,t=q)->(a9 (f0 s) t).size<=90000000000)/\∀ v,0<=v->f0 s v=r5 v\/((f0 s v).rng/\(f0 s v).size<=90000000000):=by
 have hV:∀ v∈H4 l,0<=v:=fun v hv=>by obtain ⟨p,_,hv⟩:=mem_flatMap.1 hv;rcases mem_append.1 hv with hv | hv<;>exact p9 _ v hv
 have kJ:∀ p∈l,(∀ u∈p.1.vs,u∈H4 l)/\∀ u∈p.2.vs,u∈H4 l:=fun p hp=>⟨fun u hu=>mem_flatMap.2 ⟨p,hp,List.mem_append_left _ hu⟩,fun u hu=>mem_flatMap.2 ⟨p,hp,List.mem_append_right _ hu⟩⟩
 have h0:Mgu (f0 []) []:=Mgu.nil;obtain ⟨n,r,e,g1,g2⟩:=a1L hV l [] [] h0 (fun b hb=>by cases hb) (fun b hb=>by cases hb) kJ;rw [List.nil_append] at g1 g2;have hE:arA (K0 l)<=60:=by
  have:=a7g l fun p hp=>⟨(ht p hp).1.2,(ht p hp).2.2⟩
  omega
 have dA:=a1G l ht;have oH:a7t (H4 l) (K0 l) 64 [] ([]++[]):=⟨h0,(fun b hb=>by cases hb),(fun b hb=>by cases hb),(fun v hv hf=>by exfalso;apply hf;show (r5 v).f<0;rw [s6];omega),by
  have:frN (H4 l) []<=(H4 l).length:=a9h _;show 0+_<=64;omega,fun b hb=>by cases hb⟩
 obtain ⟨c1,c2⟩:=a3C (V:=H4 l) (S:=K0 l) (K:=64) (E:=[]) hV (b7g hV (Y3 l) (by decide) hE n) l [] [] oH (fun b hb=>by cases hb) fun p hp=>by obtain ⟨s1,s2⟩:=a8P hp;exact ⟨fun s1' F1 h1=>⟨⟨(kJ p hp).1,p.1,s1,rfl⟩,⟨(kJ p hp).2,p.2,s2,rfl⟩⟩,(ht p hp).1.1,(ht p hp).2.1⟩
 refine ⟨n,r,e,c1,g1,fun s hs=>?_⟩;obtain ⟨k1,k2,k3⟩:=g2 s hs;rw [hs] at e;obtain ⟨m1,m2⟩:=c2 s e;have iN:∀ v,0<=v->(f0 s v).strip=f0 s v:=fun v _=>N0 k2 v;have nX:∀ q∈K0 l,(a9 (f0 s) q).size<=90000000000:=fun q hq=>b1q hE (a1l (Y3 l) m1.orig iN ⟨q,hq,rfl⟩);refine ⟨k1,k2,k3,m2,a6Z (b7r n) l [] s e (fun b hb=>by cases hb),by have:=m1.len;omega,m1.num,fun t ⟨q,hq,e⟩=>by rw [e];exact nX q hq,fun v hv=>?_⟩;by_cases hf:(f0 s v).f<0
 ·unfold f0 at hf |-;cases jX:d8 s v with
  | none=>exact .inl rfl
  | some t =>
   right;rw [jX] at hf;obtain ⟨b,wJ,e1,_⟩:=K5 jX;refine ⟨by show t.rng;rw [<-e1];exact (m2 b wJ).1,?_⟩;show t.size<=_;rw [Tm.size_var (show t.f<0 from hf)];decide
 ·right;obtain ⟨q,hq,mN,e1⟩:=m1.orig v hv hf;refine ⟨?_,by rw [<-e1];exact nX q hq⟩;unfold f0 at hf |-;cases jX:d8 s v with
  | none=>rw [jX] at hf;exact absurd (show (r5 v).f<0 by rw [s6];omega) hf
  | some t =>
   obtain ⟨b,wJ,e2,_⟩:=K5 jX;show t.rng;rw [<-e2];exact (m2 b wJ).1
theorem Y4 {σ σ':Int->Tm} (h:∀ v,0<=v->σ' v=σ v) (t:Tm):a9 σ' t=a9 σ t:=I8 fun v hv=>h v (p9 _ v hv)
theorem Mgu.congr {σ σ':Int->Tm} {E:List (Tm×Tm)} (hm:Mgu σ E) (h:∀ v,0<=v->σ' v=σ v):Mgu σ' E:=
 ⟨fun p hp=>by rw [Y4 h,Y4 h];exact hm.uni p hp,fun v hv=>by rw [h v hv];exact hm.bare v hv,fun v hv u hu=>by
  rw [h v hv] at hu;rw [h u (p9 _ u hu)];exact hm.idem v hv u hu,fun τ ht v hv=>by rw [h v hv];exact hm.most τ ht v hv,fun v hv hf=>by
  rw [h v hv] at hf |-;exact hm.low v hv hf⟩
theorem b3u {s:List Bd} (hb:L7 s) {v:Int} (hv:0<=v):f0 (y8 s) v=f0 s v:=by
 have h1:=b4G s hv;have h2:f0 (y8 s) v=(d8 (y8 s) v).getD (r5 v):=rfl;rw [h2,h1];split
 ·rename_i hi;have hi:(decide ((f0 s v).f<0)&&decide (-1-(f0 s v).f=v))=true:=hi;rw [Bool.and_eq_true,decide_eq_true_eq,decide_eq_true_eq] at hi;show r5 v=_;rw [a0Q (N0 hb v) hi.1,hi.2]
 ·exact N0 hb v
structure Tells8 (l:List (Tm×Tm)) (r:List Bd×Bool):Prop where
 told:ToldU l r
 yes:r.2=true->Mgu (f0 r.1) l
 no:r.2=false->r.1=[]/\∀ τ,¬ uni τ l
 len:r.1.length<=64
 ok:∀ b∈r.1,(b.t.rng/\b.t.size<=90000000000)/\b.t.ok
 bare:L7 r.1
 inV:∀ b∈r.1,b.v∈H4 l/\∀ u∈b.t.vs,u∈H4 l
 srt:r.1.Pairwise (fun x y=>x.v<y.v)
 free:∀ t u,u∈(a9 (f0 r.1) t).vs->d8 r.1 u=none
 big:∀ q∈K0 l,(a9 (f0 r.1) q).size<=90000000000
theorem b3k {l:List (Tm×Tm)} (ht:a5o l):∀ q∈K0 l,q.size<=16:=fun q hq=>by
 have key:∀ t:Tm,∀ q∈t.flat,q.size<=t.size:=by
  intro t
  induction t using Tm.indp with
  | h t ih =>
   intro q hq;rw [Tm.flat_eq] at hq;rcases mem_cons.1 hq with rfl | hq
   ·exact Nat.le_refl _
   ·obtain ⟨p,hp,hq⟩:=mem_flatMap.1 hq;have:=ih p hp q hq;have:=Tm.size_part hp;omega
 obtain ⟨p,hp,hq⟩:=mem_flatMap.1 hq;rcases mem_append.1 hq with hq | hq
 ·exact Nat.le_trans (key _ q hq) (ht p hp).1.2
 ·exact Nat.le_trans (key _ q hq) (ht p hp).2.2
theorem b2g {l:List (Tm×Tm)} (hl:l.length<=2) (ht:a5o l):∃ n r,rUs (rU n) l []=some r/\b4I (rU n) (Cnd n) l []/\(∀ s,r=some s->s.length<=1000/\∀ b∈s,b.t.rng/\b.t.ok)/\Tells8 l ((r.map y8).getD [],r.isSome):=by
 obtain ⟨n,r,e,hC,h1,h2⟩:=b8E l hl ht;refine ⟨n,r,e,hC,fun s hs=>?_,?_⟩
 ·obtain ⟨_,_,_,m4,_,m6,_⟩:=h2 s hs;exact ⟨by omega,m4⟩
 cases r with
 | none =>
  have hn:=h1 rfl;have hid:∀ t:Tm,a9 (f0 []) t=t.strip:=fun t=>a7M t;exact ⟨.inl ⟨rfl,rfl,hn⟩,(fun h=>by cases h),fun _=>⟨rfl,hn⟩,Nat.zero_le _,(fun b hb=>by cases hb),(fun b hb=>by cases hb),(fun b hb=>by cases hb),List.Pairwise.nil,fun t u hu=>rfl,fun q hq=>by show (a9 (f0 []) q).size<=_;rw [hid,Tm.strip_size];have:=b3k ht q hq;omega⟩
 | some s =>
  obtain ⟨m1,m2,m3,m4,m5,m6,m7,m8,m9⟩:=h2 s rfl;have hi:∀ v,0<=v->f0 (y8 s) v=f0 s v:=fun v hv=>b3u m2 hv;have eJ:∀ b∈y8 s,∃ c∈s,b.v=c.v/\b.t=c.t:=fun b hb=>by unfold y8 at hb;obtain ⟨c,hc,rfl⟩:=mem_map.1 hb;have eL:=V8 (List.mem_filter.1 hc).1;exact ⟨c,eL,rfl,m2 c eL⟩
  have fT:∀ b∈y8 s,d8 (y8 s) b.v=some b.t:=fun b hb=>by
   have key:∀ L:List Bd,L.Pairwise (fun x y=>x.v<y.v)->∀ b∈L,d8 L b.v=some b.t:=fun L=>by
    induction L with
    | nil=>intro _ b hb;cases hb
    | cons a L ih =>
     intro hp b hb;obtain ⟨p1,p2⟩:=List.pairwise_cons.1 hp;rw [d8];rcases mem_cons.1 hb with rfl | hb
     ·rw [if_pos rfl]
     ·rw [if_neg (by have:=p1 b hb;omega)];exact ih p2 b hb
   exact key _ (Z0 s) b hb
  refine ⟨.inr ⟨rfl,s,m1,m5,m9,rfl⟩,fun _=>m1.congr hi,(fun h=>by cases h),Nat.le_trans (b4m s) m6,fun b hb=>?_,fun b hb=>?_,fun b hb=>?_,Z0 s,fun t u hu=>?_,fun q hq=>?_⟩
  ·obtain ⟨c,hc,e1,e2⟩:=eJ b hb;have h0:0<=b.v:=by rw [e1];exact m5 c hc
   have hf:=fT b hb;have tB:f0 s b.v=b.t:=by rw [<-hi _ h0];unfold f0;rw [hf];rfl
   refine ⟨⟨by rw [e2];exact (m4 c hc).1,?_⟩,by rw [e2];exact (m4 c hc).2⟩;rcases m9 b.v h0 with h | h
   ·rw [<-tB,h,Tm.size_var (by rw [s6];omega)];decide
   ·rw [<-tB];exact h.2
  ·obtain ⟨c,hc,_,e2⟩:=eJ b hb;show b.t.strip=b.t;rw [e2];exact m2 c hc
  ·obtain ⟨c,hc,e1,e2⟩:=eJ b hb;rw [e1,e2];exact ⟨m7 c hc,m3 c hc⟩
  ·have hu:u∈(a9 (f0 (y8 s)) t).vs:=hu;rw [Y4 hi] at hu;exact b4i m1 hu
  ·show (a9 (f0 (y8 s)) q).size<=_;rw [Y4 hi];exact m8 q ⟨q,hq,rfl⟩
theorem Tells8.bdsOk {l:List (Tm×Tm)} {r:List Bd×Bool} (h:Tells8 l r):bdsOk r.1:=fun b hb=>(h.ok b hb).1
theorem b8D {s:List Bd} (hs:bdsOk s) {t:Tm} (h:t.rng):(a9 (f0 s) t).rng:=a8U h fun v h1 h2=>(a7l hs h1 h2).1
theorem a3a {t:Tm} (h:¬ t.f<0):t.size=1+(t.l.map Tm.size).sum:=by
 rw [Tm.size_eq,Tm.ps_of_sym (by omega),List.length_flatMap];rfl
theorem c0h {t s:Tm} {n:Int} (h:t.pa n=some s):∃ m:Nat,n=m/\t.l[m]?=some s/\¬ t.f<0:=by
 have hf:=a7O h;unfold Tm.pa at h;split at h
 ·rename_i h0;rw [Tm.ps_of_sym (by omega)] at h;exact ⟨n.toNat,by omega,h,hf⟩
 ·cases h
theorem a9E {l:List Tm} {m:Nat} {s:Tm} (h:l[m]?=some s):l=l.take m++s::l.drop (m+1)/\m<l.length:=by
 have hm:m<l.length:=by
  rcases Nat.lt_or_ge m l.length with h1 | h1
  ·exact h1
  ·rw [getElem?_eq_none h1] at h;cases h
 refine ⟨?_,hm⟩;have e:l[m]=s:=by rw [getElem?_eq_getElem hm] at h;exact Option.some.inj h
 rw [<-e,<-List.drop_eq_getElem_cons hm,List.take_append_drop]
theorem S3 (l:List Tm):(l.map Tm.strip).map Tm.strip=l.map Tm.strip:=by
 rw [map_map];exact List.map_congr_left fun s _=>Tm.strip_strip s
theorem a4a (u:Tm) (hu:u.rng):∀ (p:List Int) (t s:Tm),t.rng->atP p t=some s->∃ z,F9 u p t=some z/\z.rng/\atP p z=some u.strip/\F9 s.strip p z=some t.strip/\z.size+s.size=t.size+u.size
 | [],t,s,hr,h=>by
  cases h;exact ⟨u.strip,rfl,Tm.strip_rng hu,rfl,by rw [F9,Tm.strip_strip],by rw [Tm.strip_size];omega⟩
 | k::ks,t,s,hr,h=>by
  rw [atP] at h;cases hp:t.pa k with
  | none=>rw [hp] at h;cases h
  | some x =>
   rw [hp,Option.bind_some] at h;obtain ⟨m,rfl,hx,hf⟩:=c0h hp;obtain ⟨sR,hm⟩:=a9E hx;have tP:=(Tm.rng_iff _).1 hr;obtain ⟨v,h1,h2,h3,h4,h5⟩:=a4a u hu ks x s (tP.2 x (mem_of_getElem? hx)) h;obtain ⟨A,hA⟩:∃ A,A=(t.l.take m).map Tm.strip:=⟨_,rfl⟩
   obtain ⟨B,hB⟩:∃ B,B=(t.l.drop (m+1)).map Tm.strip:=⟨_,rfl⟩
   have sS:A.length=m:=by rw [hA,length_map,List.length_take];omega
   have hpz:(Tm.mk t.f (A++v::B)).pa (m:Int)=some v:=by unfold Tm.pa;rw [if_pos (by omega),Int.toNat_natCast,Tm.ps_of_sym (t:=⟨t.f,_⟩) (by show 0<=t.f;omega)];show (A++v::B)[m]?=some v;rw [List.getElem?_append_right (by omega),sS,Nat.sub_self];rfl
   refine ⟨⟨t.f,A++v::B⟩,?_,?_,?_,?_,?_⟩
   ·rw [F9,hp,Option.bind_some,h1,Int.toNat_natCast,<-hA,<-hB];rfl
   ·refine (Tm.rng_iff _).2 ⟨tP.1,fun y hy=>?_⟩;rcases mem_append.1 hy with hy | hy
    ·rw [hA] at hy;obtain ⟨z,hz,rfl⟩:=mem_map.1 hy;exact Tm.strip_rng (tP.2 z (List.mem_of_mem_take hz))
    ·rcases mem_cons.1 hy with rfl | hy
     ·exact h2
     ·rw [hB] at hy;obtain ⟨z,hz,rfl⟩:=mem_map.1 hy;exact Tm.strip_rng (tP.2 z (List.mem_of_mem_drop hz))
   ·rw [atP,hpz,Option.bind_some,h3]
   ·rw [F9,hpz,Option.bind_some,h4,Int.toNat_natCast,Option.map_some];show some (Tm.mk t.f (((A++v::B).take m).map Tm.strip++x.strip::((A++v::B).drop (m+1)).map Tm.strip))=_;have e1:(A++v::B).take m=A:=by rw [<-sS,List.take_left]
    have e2:(A++v::B).drop (m+1)=B:=by rw [<-sS,show A++v::B=(A++[v])++B by simp,show A.length+1=(A++[v]).length by simp,List.drop_left]
    rw [e1,e2,Tm.strip_eq t,Tm.ps_of_sym (by omega)];congr 2
    conv=>rhs;rw [sR]
    rw [map_append,map_cons,hA,hB,S3,S3]
   ·have s1:=a3a (t:=⟨t.f,A++v::B⟩) hf;have s2:=a3a (t:=t) hf;simp only at s1;have s3:(t.l.map Tm.size).sum=((t.l.take m).map Tm.size).sum+(x.size+((t.l.drop (m+1)).map Tm.size).sum):=by
     conv=>lhs;rw [sR]
     rw [map_append,map_cons,List.sum_append_nat,sum_cons]
    rw [map_append,map_cons,List.sum_append_nat,sum_cons] at s1;have s4:∀ l:List Tm,(l.map Tm.strip).map Tm.size=l.map Tm.size:=fun l=>by rw [map_map];exact List.map_congr_left fun s _=>Tm.strip_size s
    have sA:(A.map Tm.size).sum=((t.l.take m).map Tm.size).sum:=by rw [hA,s4]
    have sB:(B.map Tm.size).sum=((t.l.drop (m+1)).map Tm.size).sum:=by rw [hB,s4]
    omega
def cov (a b:Tm):Prop:=∀ v,b.vs.count v<=a.vs.count v
def b2Z (z w:Int):Int:=if 0<z then 1 else if z<0 then -1 else w
noncomputable def b7x (o:Int) (c d:Prop):Int:=
 haveI:=Classical.propDecidable
 if (o=1/\¬ c)\/(o = -1/\¬ d) then 2 else o
noncomputable def a0D (z:Int) (c d:Prop) (w:Int):Int:=if w=0 then 0 else b7x (b2Z z w) c d
def hdK (a b:Tm):Int:=if a.f<0\/b.f<0 then 2 else if a.f≠b.f then N2 a.f b.f else N2 a.l.length b.l.length
noncomputable def U8 (k:Int) (r:Int):Int:=if k≠0 then k else r
noncomputable def szD (a b:Tm):Int:=(a.size:Int)-b.size
noncomputable def kb (p:Tm):Tm->Int:=
 Tm.rec (motive_1:=fun _=>Tm->Int) (motive_2:=fun _=>List Tm->Int)
  (fun f l ih t=>a0D (szD ⟨f,l⟩ t) (cov ⟨f,l⟩ t) (cov t ⟨f,l⟩) (if f≠t.f\/(Tm.mk f l).ps.length≠t.ps.length then hdK ⟨f,l⟩ t else if f<0 then 0 else ih t.l))
  (fun _=>0)
  (fun _ _ ih1 ih2 ts=>match ts with | []=>0 | t::ts=>U8 (ih1 t) (ih2 ts)) p
noncomputable def kbs (ps:List Tm):List Tm->Int:=
 Tm.rec_1 (motive_1:=fun _=>Tm->Int) (motive_2:=fun _=>List Tm->Int)
  (fun f l ih t=>a0D (szD ⟨f,l⟩ t) (cov ⟨f,l⟩ t) (cov t ⟨f,l⟩) (if f≠t.f\/(Tm.mk f l).ps.length≠t.ps.length then hdK ⟨f,l⟩ t else if f<0 then 0 else ih t.l))
  (fun _=>0)
  (fun _ _ ih1 ih2 ts=>match ts with | []=>0 | t::ts=>U8 (ih1 t) (ih2 ts)) ps
noncomputable def wi (a b:Tm):Int:=if a.f≠b.f\/a.ps.length≠b.ps.length then hdK a b else kbs a.ps b.ps
theorem a7y (ts:List Tm):kbs [] ts=0:=rfl
theorem H6 (p:Tm) (ps:List Tm) (t:Tm) (ts:List Tm):kbs (p::ps) (t::ts)=U8 (kb p t) (kbs ps ts):=rfl
theorem N5 (a b:Tm):kb a b=a0D (szD a b) (cov a b) (cov b a) (wi a b):=by
 cases a with
 | mk f l =>
  show a0D _ _ _ _=_;congr 1;unfold wi;simp only;split
  ·rfl
  ·rename_i h;by_cases hf:f<0
   ·rw [if_pos hf,Tm.ps_of_var (t:=⟨f,l⟩) hf,a7y]
   ·rw [if_neg hf,Tm.ps_of_sym (t:=⟨f,l⟩) (by show 0<=f;omega),Tm.ps_of_sym (t:=b) (by have:=Classical.not_not.1 (fun e=>h (.inl e));omega)];rfl
theorem R6 (z:Int) (c d:Prop) (w:Int):(w=0/\a0D z c d w=0)\/(w≠0/\∃ o,((0<z/\o=1)\/(z<0/\o = -1)\/(z=0/\o=w))/\((a0D z c d w=2/\((o=1/\¬ c)\/(o = -1/\¬ d)))\/(a0D z c d w=o/\¬ ((o=1/\¬ c)\/(o = -1/\¬ d))))):=by
 unfold a0D;by_cases h0:w=0
 ·left;exact ⟨h0,if_pos h0⟩
 ·right;refine ⟨h0,b2Z z w,?_,?_⟩
  ·unfold b2Z;by_cases h1:0<z
   ·rw [if_pos h1];exact .inl ⟨h1,rfl⟩
   ·rw [if_neg h1];by_cases h2:z<0
    ·rw [if_pos h2];exact .inr (.inl ⟨h2,rfl⟩)
    ·rw [if_neg h2];exact .inr (.inr ⟨by omega,rfl⟩)
  ·rw [if_neg h0];generalize b2Z z w=o;unfold b7x;by_cases h3:(o=1/\¬ c)\/(o = -1/\¬ d)
   ·left;exact ⟨if_pos h3,h3⟩
   ·right;exact ⟨if_neg h3,h3⟩
theorem B0 {z:Int} {c d:Prop} {w:Int}:a0D z c d w=0↔w=0:=by
 rcases R6 z c d w with ⟨h1,h2⟩ | ⟨h1,o,h2,⟨h3,h4⟩ | ⟨h3,h4⟩⟩
 ·exact ⟨fun _=>h1,fun _=>h2⟩
 ·omega
 ·omega
theorem a4K {z:Int} {c d:Prop} {w:Int}:a0D z c d w=1↔w≠0/\c/\(0<z\/(z=0/\w=1)):=by
 rcases R6 z c d w with ⟨h1,h2⟩ | ⟨h1,o,h2,⟨h3,h4⟩ | ⟨h3,h4⟩⟩
 ·constructor
  ·intro h;omega
  ·rintro ⟨h,_⟩;exact absurd h1 h
 ·constructor
  ·intro h;omega
  ·rintro ⟨_,hc,h⟩;have:o=1:=by omega
   rcases h4 with h4 | h4
   ·exact absurd hc h4.2
   ·omega
 ·constructor
  ·intro h;have ho:o=1:=by omega
   exact ⟨h1,Classical.not_not.1 fun hc=>h4 (.inl ⟨ho,hc⟩),by omega⟩
  ·rintro ⟨_,hc,h⟩;omega
theorem a5W {z:Int} {c d:Prop} {w:Int}:a0D z c d w = -1↔w≠0/\d/\(z<0\/(z=0/\w = -1)):=by
 rcases R6 z c d w with ⟨h1,h2⟩ | ⟨h1,o,h2,⟨h3,h4⟩ | ⟨h3,h4⟩⟩
 ·constructor
  ·intro h;omega
  ·rintro ⟨h,_⟩;exact absurd h1 h
 ·constructor
  ·intro h;omega
  ·rintro ⟨_,hc,h⟩;have:o = -1:=by omega
   rcases h4 with h4 | h4
   ·omega
   ·exact absurd hc h4.2
 ·constructor
  ·intro h;have ho:o = -1:=by omega
   exact ⟨h1,Classical.not_not.1 fun hc=>h4 (.inr ⟨ho,hc⟩),by omega⟩
  ·rintro ⟨_,hc,h⟩;omega
def K4 (k:Int):Prop:=k=0\/k=1\/k = -1\/k=2
theorem a1D {z:Int} {c d:Prop} {w:Int} (h:K4 w):K4 (a0D z c d w):=by
 unfold K4 at *;rcases R6 z c d w with ⟨h1,h2⟩ | ⟨h1,o,h2,⟨h3,h4⟩ | ⟨h3,h4⟩⟩<;>omega
theorem b2P (a b:Tm):K4 (hdK a b):=by
 unfold hdK K4;split
 ·omega
 ·split
  ·rcases q8 a.f b.f with h | h | h<;>omega
  ·rcases q8 a.l.length b.l.length with h | h | h<;>omega
theorem b4D {a b:Tm} (h:a.f≠b.f\/a.ps.length≠b.ps.length):hdK a b≠0:=by
 unfold hdK;split
 ·omega
 ·rename_i h1;rw [Tm.ps_of_sym (t:=a) (by omega),Tm.ps_of_sym (t:=b) (by omega)] at h;split
  ·rcases q8 a.f b.f with h2 | h2 | h2<;>omega
  ·rcases q8 a.l.length b.l.length with h2 | h2 | h2<;>omega
theorem a4G:∀ {l m:List Tm},(∀ s∈l,∀ t,K4 (kb s t))->K4 (kbs l m)
 | [],m,_ => .inl rfl
 | _::_,[],_ => .inl rfl
 | x::l,y::m,h=>by
  rw [H6];unfold U8;split
  ·exact h x (by simp) y
  ·exact a4G fun s hs=>h s (mem_cons_of_mem _ hs)
theorem b1J (a:Tm):∀ b,K4 (kb a b):=by
 induction a using Tm.indp with
 | h a ih =>
  intro b;rw [N5];refine a1D ?_;unfold wi;split
  ·exact b2P a b
  ·exact a4G ih
theorem a9F:∀ {l m:List Tm},l.length=m.length->(∀ s∈l,∀ t,kb s t=0↔s.strip=t.strip)->(kbs l m=0↔l.map Tm.strip=m.map Tm.strip)
 | [],[],_,_=>by simp [a7y]
 | [],_::_,h,_=>by simp at h
 | _::_,[],h,_=>by simp at h
 | x::l,y::m,h,ih=>by
  rw [H6,map_cons,map_cons,List.cons.injEq,<-ih x (by simp) y,<-a9F (by simpa using h) fun s hs=>ih s (mem_cons_of_mem _ hs)];unfold U8;split
  ·rename_i h1;constructor
   ·intro h2;exact absurd h2 h1
   ·rintro ⟨h2,_⟩;exact h2
  ·rename_i h1;exact ⟨fun h2=>⟨Classical.not_not.1 h1,h2⟩,fun h2=>h2.2⟩
theorem a6D (a b:Tm):a.strip=b.strip↔a.f=b.f/\a.ps.map Tm.strip=b.ps.map Tm.strip:=by
 rw [Tm.strip_eq,Tm.strip_eq b,Tm.mk.injEq]
theorem b2s (a:Tm):∀ b,kb a b=0↔a.strip=b.strip:=by
 induction a using Tm.indp with
 | h a ih =>
  intro b;rw [N5,B0,a6D];unfold wi;split
  ·rename_i h;constructor
   ·intro h1;exact absurd h1 (b4D h)
   ·rintro ⟨h1,h2⟩;have:=congrArg List.length h2;rw [length_map,length_map] at this;omega
  ·rename_i h;have hf:a.f=b.f:=by omega
   rw [a9F (by omega) ih];exact ⟨fun h1=>⟨hf,h1⟩,fun h1=>h1.2⟩
theorem cov_strip {a b:Tm}:cov a.strip b↔cov a b:=by unfold cov;rw [Tm.strip_vs]
theorem a3M {a b:Tm}:cov a b.strip↔cov a b:=by unfold cov;rw [Tm.strip_vs]
theorem b4Y (a:Tm):cov a a:=fun _=>Nat.le_refl _
theorem b3I {a b c:Tm} (h:cov a b) (h2:cov b c):cov a c:=fun v=>Nat.le_trans (h2 v) (h v)
theorem b6b (a b:Tm):hdK a.strip b.strip=hdK a b:=by
 unfold hdK;rw [Tm.strip_f,Tm.strip_f];split
 ·rfl
 ·rename_i h;split
  ·rfl
  ·rw [Tm.strip_l,Tm.strip_l,length_map,length_map,Tm.ps_of_sym (t:=a) (by omega),Tm.ps_of_sym (t:=b) (by omega)]
theorem a5G:∀ {l m:List Tm},(∀ s∈l,∀ t,kb s.strip t.strip=kb s t)->kbs (l.map Tm.strip) (m.map Tm.strip)=kbs l m
 | [],m,_=>rfl
 | _::_,[],_=>rfl
 | x::l,y::m,h=>by
  rw [map_cons,map_cons,H6,H6,h x (by simp) y,a5G fun s hs=>h s (mem_cons_of_mem _ hs)]
theorem a9m (a:Tm):∀ b,kb a.strip b.strip=kb a b:=by
 induction a using Tm.indp with
 | h a ih =>
  intro b;rw [N5,N5 a];have h1:wi a.strip b.strip=wi a b:=by unfold wi;rw [Tm.strip_f,Tm.strip_f,Tm.strip_ps,Tm.strip_ps,length_map,length_map,b6b,a5G ih]
  have h2:szD a.strip b.strip=szD a b:=by unfold szD;rw [Tm.strip_size,Tm.strip_size]
  have h3:cov a.strip b.strip=cov a b:=propext (cov_strip.trans a3M);have h4:cov b.strip a.strip=cov b a:=propext (cov_strip.trans a3M);rw [h1,h2,h3,h4]
theorem b5V {a a' b b':Tm} (h:a.strip=a'.strip) (h2:b.strip=b'.strip):kb a b=kb a' b':=by rw [<-a9m a,h,h2,a9m]
theorem b6N (a b:Tm):kb a b=1↔cov a b/\(b.size<a.size\/(a.size=b.size/\wi a b=1)):=by
 rw [N5,a4K];unfold szD;constructor
 ·rintro ⟨h1,h2,h3⟩;exact ⟨h2,by omega⟩
 ·rintro ⟨h1,h2⟩;refine ⟨fun e=>?_,h1,by omega⟩;have h3:kb a b=0:=by rw [N5,B0];exact e
  have h4:=(b2s a b).1 h3;have h5:a.size=b.size:=by rw [<-Tm.strip_size,h4,Tm.strip_size]
  omega
theorem b8z (a b:Tm) (h:hdK a b≠2):hdK b a = - hdK a b:=by
 unfold hdK at *;by_cases h1:a.f<0\/b.f<0
 ·rw [if_pos h1] at h;exact absurd rfl h
 ·rw [if_neg h1,if_neg (by omega)];by_cases h2:a.f=b.f
  ·rw [if_neg (by omega),if_neg (by omega)];rcases q8 a.l.length b.l.length with h3 | h3 | h3<;>rcases q8 b.l.length a.l.length with h4 | h4 | h4<;>omega
  ·rw [if_pos (by omega),if_pos h2];rcases q8 a.f b.f with h3 | h3 | h3<;>rcases q8 b.f a.f with h4 | h4 | h4<;>omega
theorem b5X (a b:Tm) (h:hdK a b=2):hdK b a=2:=by
 unfold hdK at *;by_cases h1:a.f<0\/b.f<0
 ·rw [if_pos (by omega)]
 ·rw [if_neg h1] at h;exfalso;split at h
  ·rcases q8 a.f b.f with h3 | h3 | h3<;>omega
  ·rcases q8 a.l.length b.l.length with h3 | h3 | h3<;>omega
def trn (k:Int):Int:=if k=2 then 2 else-k
theorem a4e {k:Int} (h:K4 k):(trn k=0↔k=0)/\(trn k=1↔k = -1)/\(trn k = -1↔k=1)/\K4 (trn k):=by
 unfold trn K4 at *;split<;>omega
theorem b3K {z:Int} {c d:Prop} {w:Int} (h:K4 w):a0D (-z) d c (trn w)=trn (a0D z c d w):=by
 have h1:=a1D (z:=z) (c:=c) (d:=d) h;have t0:=a4e h;have h2:=a1D (z := -z) (c:=d) (d:=c) t0.2.2.2;have t1:=a4e h1;have a0:=@B0 z c d w;have a1:=@a4K z c d w;have a2:=@a5W z c d w;have b0:=@B0 (-z) d c (trn w);have b1:=@a4K (-z) d c (trn w);have b2:=@a5W (-z) d c (trn w);generalize a0D (-z) d c (trn w)=y at *;generalize a0D z c d w=x at *;have e0:y=0↔x=0:=by rw [b0,a0];exact t0.1
 have e1:y=1↔x = -1:=by
  rw [b1,a2];constructor
  ·rintro ⟨g1,g2,g3⟩;exact ⟨fun e=>g1 (t0.1.2 e),g2,by rcases g3 with g3 | ⟨g3,g4⟩;omega;exact .inr ⟨by omega,t0.2.1.1 g4⟩⟩
  ·rintro ⟨g1,g2,g3⟩;exact ⟨fun e=>g1 (t0.1.1 e),g2,by rcases g3 with g3 | ⟨g3,g4⟩;omega;exact .inr ⟨by omega,t0.2.1.2 g4⟩⟩
 have e2:y = -1↔x=1:=by
  rw [b2,a1];constructor
  ·rintro ⟨g1,g2,g3⟩;exact ⟨fun e=>g1 (t0.1.2 e),g2,by rcases g3 with g3 | ⟨g3,g4⟩;omega;exact .inr ⟨by omega,t0.2.2.1.1 g4⟩⟩
  ·rintro ⟨g1,g2,g3⟩;exact ⟨fun e=>g1 (t0.1.1 e),g2,by rcases g3 with g3 | ⟨g3,g4⟩;omega;exact .inr ⟨by omega,t0.2.2.1.2 g4⟩⟩
 unfold trn;unfold K4 at h1 h2;split<;>omega
theorem a8X:∀ {l m:List Tm},l.length=m.length->(∀ s∈l,∀ t,kb t s=trn (kb s t))->kbs m l=trn (kbs l m)
 | [],[],_,_=>by rw [a7y];rfl
 | [],_::_,h,_=>by simp at h
 | _::_,[],h,_=>by simp at h
 | x::l,y::m,h,ih=>by
  rw [H6,H6,ih x (by simp) y,a8X (by simpa using h) fun s hs=>ih s (mem_cons_of_mem _ hs)];have:=(a4e (b1J x y)).1;unfold U8;by_cases h1:kb x y=0
  ·rw [if_neg (fun e=>e (this.2 h1)),if_neg (by omega)]
  ·rw [if_pos (fun e=>h1 (this.1 e)),if_pos h1]
theorem b8T (a:Tm):∀ b,kb b a=trn (kb a b):=by
 induction a using Tm.indp with
 | h a ih =>
  intro b;rw [N5,N5 a];have h1:szD b a = - szD a b:=by unfold szD;omega
  have h4:K4 (wi a b):=by
   unfold wi;split
   ·exact b2P a b
   ·exact a4G fun s _ t=>b1J s t
  rw [h1,<-b3K h4];congr 1;unfold wi;by_cases h:a.f≠b.f\/a.ps.length≠b.ps.length
  ·rw [if_pos h,if_pos (by omega)];unfold trn;split
   ·rename_i h2;exact b5X a b h2
   ·rename_i h2;exact b8z a b h2
  ·rw [if_neg h,if_neg (by omega)];exact a8X (by omega) ih
theorem a1p {l:List Tm} {s:Tm} (h:s∈l) (v:Int):s.vs.count v<=(l.flatMap Tm.vs).count v:=by
 induction l with
 | nil=>cases h
 | cons x l ih =>
  rw [flatMap_cons,List.count_append];rcases mem_cons.1 h with rfl | h
  ·omega
  ·have:=ih h;omega
theorem b5B {t s:Tm} (h:s∈t.ps):cov t s:=by
 obtain ⟨h1,h2⟩:=Tm.ps_mem h;intro v;rw [Tm.vs_sym (t:=t) (by omega)];exact a1p h1 v
theorem c0n {a b:Tm} (h:cov a b) (h2:b.size<a.size):kb a b=1:=(b6N a b).2 ⟨h,.inl h2⟩
theorem b1E:∀ {p:List Int} {t s:Tm},atP p t=some s->cov t s/\(p≠[]->s.size<t.size)/\s.size<=t.size
 | [],t,s,h=>by
  have h:some t=some s:=h;cases h;exact ⟨b4Y _,fun h=>absurd rfl h,Nat.le_refl _⟩
 | n::p,t,s,h=>by
  rw [show n::p=[n]++p from rfl,b0s] at h;cases h1:atP [n] t with
  | none=>rw [h1] at h;cases h
  | some u =>
   rw [h1] at h;have h1:(t.pa n).bind (atP [])=some u:=h1;cases h2:t.pa n with
   | none=>rw [h2] at h1;cases h1
   | some u' =>
    rw [h2] at h1;have h1:some u'=some u:=h1;cases h1;have hm:=a4O h2;have hs:=Tm.size_part hm;obtain ⟨g1,g2,g3⟩:=b1E (p:=p) (t:=u) (s:=s) h;exact ⟨b3I (b5B hm) g1,fun _=>by omega,by omega⟩
theorem b9R {p:List Int} {t s:Tm} (h:atP p t=some s) (hp:p≠[]):kb t s=1:=c0n (b1E h).1 ((b1E h).2.1 hp)
def cn (s:Tm) (l:List Tm):Nat:=l.countP (fun t=>D7 s t)
theorem c1d (s:Tm):cn s []=0:=rfl
theorem a6T (s t:Tm) (l:List Tm):cn s (t::l)=cn s l+(if D7 s t=true then 1 else 0):=by unfold cn;exact List.countP_cons
theorem a0v (s:Tm):D7 s s=true:=(y9 _ _).2 rfl
theorem b5n {s t:Tm} (h:D7 s t=true) (l:List Tm):cn s l=cn t l:=by
 unfold cn;refine List.countP_congr fun x _=>?_;rw [y9,y9,(y9 _ _).1 h]
theorem a4Y {s:Tm} {l:List Tm}:0<cn s l↔∃ t∈l,D7 s t=true:=by unfold cn;exact List.countP_pos_iff
theorem b1s {t:Tm} {l:List Tm} (h:t∈l):0<cn t l:=a4Y.2 ⟨t,h,a0v t⟩
theorem b1H {a a' b b':Tm} (h:D7 a a'=true) (h2:D7 b b'=true):kb a b=kb a' b':=b5V ((y9 _ _).1 h) ((y9 _ _).1 h2)
def b7P (A B:List Tm):Prop:=(∃ s,cn s B<cn s A)/\∀ s,cn s A<cn s B->∃ t,cn t B<cn t A/\kb t s=1
theorem b9g (A:List Tm):¬ b7P A A:=fun h=>by obtain ⟨s,h⟩:=h.1;omega
def D4:Nat->List Tm->List Tm->List Tm×List Tm
 | 0,a,b=>(a,b)
 | n+1,a,b=>match a[n]? with
  | none=>D4 n a b
  | some t=>match b.findIdx? (D7 t) with
   | none=>D4 n a b
   | some k=>D4 n (a.eraseIdx n) (b.eraseIdx k)
theorem a0N (s:Tm):∀ {l:List Tm} {k:Nat} {t:Tm},l[k]?=some t->cn s (l.eraseIdx k)+(if D7 s t=true then 1 else 0)=cn s l
 | [],k,t,h=>by simp at h
 | x::l,0,t,h=>by
  have e:x=t:=by simpa using h
  subst e;rw [List.eraseIdx_cons_zero,a6T]
 | x::l,k+1,t,h=>by
  have e:=a0N s (l:=l) (k:=k) (t:=t) (by simpa using h);rw [List.eraseIdx_cons_succ,a6T,a6T,<-e];omega
theorem a7V:∀ (n:Nat) (a b:List Tm) (s:Tm),cn s (D4 n a b).1+cn s b=cn s (D4 n a b).2+cn s a
 | 0,a,b,s=>by unfold D4;exact Nat.add_comm _ _
 | n+1,a,b,s=>by
  unfold D4;split
  ·exact a7V n a b s
  ·rename_i t ht;split
   ·exact a7V n a b s
   ·rename_i k hk;obtain ⟨kE,hp,_⟩:=List.findIdx?_eq_some_iff_getElem.1 hk;have h1:=a7V n (a.eraseIdx n) (b.eraseIdx k) s;have h2:=a0N s ht;have h3:=a0N s (getElem?_eq_getElem kE);have h4:D7 s t=D7 s b[k]:=by rw [Bool.eq_iff_iff,y9,y9,(y9 _ _).1 hp]
    rw [h4] at h2;omega
theorem b5Q {a:List Tm} {n:Nat} {t:Tm} (h:a[n]?=some t):a.drop n=t::a.drop (n+1):=by
 obtain ⟨hl,he⟩:=List.getElem?_eq_some_iff.1 h;rw [List.drop_eq_getElem_cons hl,he]
theorem b0C {a:List Tm} {n:Nat} (h:n<a.length):(a.eraseIdx n).drop n=a.drop (n+1):=by
 rw [List.eraseIdx_eq_take_drop_succ,List.drop_append];rw [List.length_take,Nat.min_eq_left (by omega)];simp
theorem a1H:∀ (n:Nat) (a b:List Tm),n<=a.length->(∀ t∈a.drop n,cn t b=0)->∀ t∈(D4 n a b).1,cn t (D4 n a b).2=0
 | 0,a,b,_,h=>by unfold D4;simpa using h
 | n+1,a,b,hn,h=>by
  unfold D4;split
  ·rename_i ht;rw [List.getElem?_eq_none_iff] at ht;omega
  ·rename_i t ht;split
   ·rename_i hk;refine a1H n a b (by omega) fun u hu=>?_;rw [b5Q ht] at hu;rcases mem_cons.1 hu with rfl | hu
    ·rw [List.findIdx?_eq_none_iff] at hk;refine Nat.eq_zero_of_not_pos fun hc=>?_;obtain ⟨v,hv,he⟩:=a4Y.1 hc;have:=hk v hv;rw [he] at this;cases this
    ·exact h u hu
   ·rename_i k hk;obtain ⟨kE,hp,_⟩:=List.findIdx?_eq_some_iff_getElem.1 hk;refine a1H n _ _ (by rw [List.length_eraseIdx_of_lt (by omega)];omega) fun u hu=>?_;rw [b0C (by omega)] at hu;have h1:=h u hu;have h2:=a0N u (getElem?_eq_getElem kE);omega
noncomputable def a9z (X Y:List Tm):Bool:=decide (0<X.length)&&!(Y.any fun y=>!(X.any fun x=>decide (kb x y=1)))
theorem b4W (X Y:List Tm):a9z X Y=true↔X≠[]/\∀ y∈Y,∃ x∈X,kb x y=1:=by
 unfold a9z;rw [Bool.and_eq_true,decide_eq_true_iff,Bool.not_eq_true',<-Bool.not_eq_true,any_eq_true,List.length_pos_iff];refine and_congr_right fun _=>⟨fun h y hy=>?_,fun h hc=>?_⟩
 ·by_cases hx:(X.any fun x=>decide (kb x y=1))=true
  ·obtain ⟨x,hx,he⟩:=any_eq_true.1 hx;exact ⟨x,hx,of_decide_eq_true he⟩
  ·exact absurd ⟨y,hy,by simpa using hx⟩ h
 ·obtain ⟨y,hy,he⟩:=hc;obtain ⟨x,hx,hk⟩:=h y hy;have:(X.any fun x=>decide (kb x y=1))=true:=any_eq_true.2 ⟨x,hx,decide_eq_true hk⟩;rw [this] at he;cases he
theorem b7U {X Y A B:List Tm} (h1:∀ s,cn s X=cn s A-cn s B) (h2:∀ s,cn s Y=cn s B-cn s A):a9z X Y=true↔b7P A B:=by
 rw [b4W];unfold b7P;constructor
 ·rintro ⟨h3,h4⟩;refine ⟨?_,fun s hs=>?_⟩
  ·cases X with
   | nil=>exact absurd rfl h3
   | cons x X =>
    have h5:=b1s (l:=x::X) List.mem_cons_self;have h6:=h1 x;exact ⟨x,by omega⟩
  ·have h5:=h2 s;obtain ⟨y,hy,he⟩:=a4Y.1 (show 0<cn s Y by omega);obtain ⟨x,hx,hk⟩:=h4 y hy;have h6:=b1s hx;have h7:=h1 x;exact ⟨x,by omega,by rw [b1H (a0v x) he];exact hk⟩
 ·rintro ⟨⟨s,hs⟩,h4⟩;refine ⟨?_,fun y hy=>?_⟩
  ·rintro rfl;have h5:=h1 s;rw [c1d] at h5;omega
  ·have h5:=b1s hy;have h6:=h2 y;obtain ⟨t,ht,hk⟩:=h4 y (by omega);have h7:=h1 t;obtain ⟨x,hx,he⟩:=a4Y.1 (show 0<cn t X by omega);exact ⟨x,hx,by rw [<-b1H he (a0v y)];exact hk⟩
noncomputable def a7z (a b:List Tm):Bool:=a9z (D4 a.length a b).1 (D4 a.length a b).2
theorem b6v (a b:List Tm):a7z a b=true↔b7P a b:=by
 have h1:=a7V a.length a b;have h2:=a1H a.length a b (Nat.le_refl _) (by simp);have h3:∀ s,cn s (D4 a.length a b).1=0\/cn s (D4 a.length a b).2=0:=by
  intro s;by_cases hc:0<cn s (D4 a.length a b).1
  ·obtain ⟨t,ht,he⟩:=a4Y.1 hc;right;rw [b5n he];exact h2 t ht
  ·left;omega
 refine b7U (fun s=>?_) (fun s=>?_)
 ·have:=h1 s;have:=h3 s;omega
 ·have:=h1 s;have:=h3 s;omega
structure Sc where
 sz:Int
 mp:List (Int×Int)
 sp:Int
 lk:Int
def B9:List (Int×Int)->Int->Option Int
 | [],_=>none
 | (k,x)::l,v=>if k=v then some x else B9 l v
def C8 (l:List (Int×Int)) (v:Int):Int:=(B9 l v).getD 0
def T2:List (Int×Int)->Int->Int->List (Int×Int)
 | [],v,y=>[(v,y)]
 | (k,x)::l,v,y=>if k=v then (v,y)::l else (k,x)::T2 l v y
theorem b8L (l:List (Int×Int)) (v y:Int):T2 l v y≠[]:=by
 cases l with
 | nil=>simp [T2]
 | cons p l =>
  obtain ⟨k,x⟩:=p;rw [T2];split<;>simp
theorem b3X (l:List (Int×Int)) (v y u:Int):B9 (T2 l v y) u=if v=u then some y else B9 l u:=by
 induction l with
 | nil=>rfl
 | cons p l ih =>
  obtain ⟨k,x⟩:=p;rw [T2];by_cases h:k=v
  ·rw [if_pos h,B9,B9];by_cases h2:v=u
   ·rw [if_pos h2,if_pos h2]
   ·rw [if_neg h2,if_neg h2,if_neg (by omega)]
  ·rw [if_neg h,B9,B9];by_cases h2:k=u
   ·rw [if_pos h2,if_pos h2,if_neg (by omega)]
   ·rw [if_neg h2,if_neg h2,ih]
theorem a8Y (l:List (Int×Int)) (v y u:Int):C8 (T2 l v y) u=if v=u then y else C8 l u:=by
 unfold C8;rw [b3X];split<;>rfl
def C6 (s:Sc) (v σ:Int):Sc:=⟨s.sz,T2 s.mp v (C8 s.mp v+σ),s.sp+(max (C8 s.mp v+σ) 0-max (C8 s.mp v) 0),s.lk+(max (-(C8 s.mp v+σ)) 0-max (-(C8 s.mp v)) 0)⟩
def a7j (σ:Int) (s:Sc) (t:Tm):Sc:=if t.f<0 then C6 ⟨s.sz+σ,s.mp,s.sp,s.lk⟩ (-1-t.f) σ else ⟨s.sz+σ,s.mp,s.sp,s.lk⟩
def addT (σ:Int) (s:Sc) (t:Tm):Sc:=t.flat.foldl (a7j σ) s
def addL (σ:Int) (s:Sc) (l:List Tm):Sc:=(l.flatMap Tm.flat).foldl (a7j σ) s
theorem b5O {σ:Int} {s:Sc} {t:Tm} (h:t.f<0):addT σ s t=C6 ⟨s.sz+σ,s.mp,s.sp,s.lk⟩ (-1-t.f) σ:=by
 unfold addT;rw [Tm.flat_eq,Tm.ps_of_var h];show a7j σ s t=_;unfold a7j;rw [if_pos h]
theorem b5M {σ:Int} {s:Sc} {t:Tm} (h:¬ t.f<0):addT σ s t=addL σ ⟨s.sz+σ,s.mp,s.sp,s.lk⟩ t.l:=by
 unfold addT addL;rw [Tm.flat_eq,Tm.ps_of_sym (by omega),foldl_cons];congr 1;unfold a7j;rw [if_neg h]
theorem b4g {σ:Int} {s:Sc} {l:List Tm} {k:Nat} {t:Tm} (h:l[k]?=some t):addL σ s (l.take (k+1))=addT σ (addL σ s (l.take k)) t:=by
 unfold addL addT;rw [List.take_add_one,h,flatMap_append,List.foldl_append];simp
def upS (l:List (Int×Int)):Int:=(l.map fun p=>max p.2 0).sum
def dnS (l:List (Int×Int)):Int:=(l.map fun p=>max (-p.2) 0).sum
def ndk (l:List (Int×Int)):Prop:=(l.map (·.1)).Nodup
theorem a2Q {l:List (Int×Int)} {v:Int} (h:v∉l.map (·.1)):B9 l v=none:=by
 induction l with
 | nil=>rfl
 | cons p l ih =>
  obtain ⟨k,x⟩:=p;rw [map_cons,mem_cons,not_or] at h;rw [B9,if_neg (fun e=>h.1 e.symm),ih h.2]
theorem b4P {l:List (Int×Int)} {v y u:Int} (h:u∈(T2 l v y).map (·.1)):u=v\/u∈l.map (·.1):=by
 induction l with
 | nil=>simp [T2] at h;exact .inl h
 | cons p l ih =>
  obtain ⟨k,x⟩:=p;rw [T2] at h;split at h
  ·rename_i e;rw [map_cons,mem_cons] at h |-;rcases h with h | h
   ·exact .inl h
   ·exact .inr (.inr h)
  ·rw [map_cons,mem_cons] at h |-;rcases h with h | h
   ·exact .inr (.inl h)
   ·rcases ih h with h | h
    ·exact .inl h
    ·exact .inr (.inr h)
theorem b8C {l:List (Int×Int)} (h:ndk l) (v y:Int):ndk (T2 l v y)/\upS (T2 l v y)=upS l+(max y 0-max (C8 l v) 0)/\dnS (T2 l v y)=dnS l+(max (-y) 0-max (-(C8 l v)) 0):=by
 induction l with
 | nil=>exact ⟨by simp [T2,ndk],by simp [T2,upS,C8,B9],by simp [T2,dnS,C8,B9]⟩
 | cons p l ih =>
  obtain ⟨k,x⟩:=p;unfold ndk at h;rw [map_cons,nodup_cons] at h;rw [T2];by_cases e:k=v
  ·rw [if_pos e];have hg:C8 ((k,x)::l) v=x:=by unfold C8 B9;rw [if_pos e];rfl
   rw [hg];refine ⟨by unfold ndk;rw [map_cons,nodup_cons];exact e▸h,?_,?_⟩
   ·simp only [upS,map_cons,sum_cons];omega
   ·simp only [dnS,map_cons,sum_cons];omega
  ·rw [if_neg e];have hg:C8 ((k,x)::l) v=C8 l v:=by unfold C8;rw [B9,if_neg e]
   obtain ⟨h1,h2,h3⟩:=ih h.2;rw [hg];refine ⟨?_,?_,?_⟩
   ·unfold ndk;rw [map_cons,nodup_cons];refine ⟨fun hm=>?_,h1⟩;rcases b4P hm with hm | hm
    ·exact e hm
    ·exact h.1 hm
   ·unfold upS at h2 |-;rw [map_cons,sum_cons,h2,map_cons,sum_cons];omega
   ·unfold dnS at h3 |-;rw [map_cons,sum_cons,h3,map_cons,sum_cons];omega
theorem b5v {l:List (Int×Int)} (h:ndk l):0<=upS l/\(upS l=0↔∀ v,C8 l v<=0):=by
 induction l with
 | nil=>exact ⟨by simp [upS],by simp [upS,C8,B9]⟩
 | cons p l ih =>
  obtain ⟨k,x⟩:=p;unfold ndk at h;rw [map_cons,nodup_cons] at h;obtain ⟨h1,h2⟩:=ih h.2;have e:upS ((k,x)::l)=max x 0+upS l:=by simp [upS]
  rw [e];refine ⟨by omega,?_⟩;constructor
  ·intro h3 v;have h4:=h2.1 (by omega) v;unfold C8 at h4 |-;rw [B9];split
   ·show x<=0;omega
   ·exact h4
  ·intro h3;have hx:=h3 k;unfold C8 at hx;rw [B9,if_pos rfl] at hx;have hx:x<=0:=hx;have:=h2.2 fun v=>by
    by_cases hv:k=v
    ·subst hv;unfold C8;rw [a2Q h.1];exact Int.le_refl 0
    ·have:=h3 v;unfold C8 at this |-;rw [B9,if_neg hv] at this;exact this
   omega
theorem b6B {l:List (Int×Int)} (h:ndk l):0<=dnS l/\(dnS l=0↔∀ v,0<=C8 l v):=by
 induction l with
 | nil=>exact ⟨by simp [dnS],by simp [dnS,C8,B9]⟩
 | cons p l ih =>
  obtain ⟨k,x⟩:=p;unfold ndk at h;rw [map_cons,nodup_cons] at h;obtain ⟨h1,h2⟩:=ih h.2;have e:dnS ((k,x)::l)=max (-x) 0+dnS l:=by simp [dnS]
  rw [e];refine ⟨by omega,?_⟩;constructor
  ·intro h3 v;have h4:=h2.1 (by omega) v;unfold C8 at h4 |-;rw [B9];split
   ·show 0<=x;omega
   ·exact h4
  ·intro h3;have hx:=h3 k;unfold C8 at hx;rw [B9,if_pos rfl] at hx;have hx:0<=x:=hx;have:=h2.2 fun v=>by
    by_cases hv:k=v
    ·subst hv;unfold C8;rw [a2Q h.1];exact Int.le_refl 0
    ·have:=h3 v;unfold C8 at this |-;rw [B9,if_neg hv] at this;exact this
   omega
structure Ss (s:Sc) (z:Int) (D:Int->Int):Prop where
 sz:s.sz=z
 nd:ndk s.mp
 sp:s.sp=upS s.mp
 lk:s.lk=dnS s.mp
 at_:∀ v,C8 s.mp v=D v
theorem Ss.addV {s:Sc} {z:Int} {D:Int->Int} (h:Ss s z D) (v σ:Int):Ss (C6 s v σ) z (fun u=>D u+if v=u then σ else 0):=by
 obtain ⟨h1,h2,h3⟩:=b8C h.nd v (C8 s.mp v+σ);refine ⟨h.sz,h1,?_,?_,fun u=>?_⟩
 ·show s.sp+_=upS (T2 _ _ _);rw [h2,h.sp]
 ·show s.lk+_=dnS (T2 _ _ _);rw [h3,h.lk]
 ·show C8 (T2 _ _ _) u=_;rw [a8Y];split
  ·rename_i e;subst e;rw [h.at_]
  ·rw [h.at_];omega
theorem b5i {σ:Int} {s:Sc} {t:Tm} (h:t.f<0):a7j σ s t=C6 ⟨s.sz+σ,s.mp,s.sp,s.lk⟩ (-1-t.f) σ:=if_pos h
theorem b5w {σ:Int} {s:Sc} {t:Tm} (h:¬ t.f<0):a7j σ s t=⟨s.sz+σ,s.mp,s.sp,s.lk⟩:=if_neg h
theorem Ss.fold {σ:Int}:∀ {l:List Tm} {s:Sc} {z:Int} {D:Int->Int},Ss s z D->Ss (l.foldl (a7j σ) s) (z+σ*l.length) (fun v=>D v+σ*((vsL l).count v:Int))
 | [],s,z,D,h=>by
  refine ⟨by show s.sz=_;rw [h.sz];simp,h.nd,h.sp,h.lk,fun v=>?_⟩;show C8 s.mp v=_;rw [h.at_];simp [vsL]
 | t::l,s,z,D,h=>by
  rw [foldl_cons];have h0:Ss ⟨s.sz+σ,s.mp,s.sp,s.lk⟩ (z+σ) D:=⟨by show s.sz+σ=_;rw [h.sz],h.nd,h.sp,h.lk,h.at_⟩
  have e1:σ*((t::l).length:Int)=σ+σ*(l.length:Int):=by rw [length_cons];push_cast;rw [Int.mul_add];omega
  by_cases hf:t.f<0
  ·have h1:=(h0.addV (-1-t.f) σ).fold (σ:=σ) (l:=l);rw [b5i hf];refine ⟨?_,h1.nd,h1.sp,h1.lk,fun v=>?_⟩
   ·rw [h1.sz,e1];omega
   ·rw [h1.at_];have e2:(vsL (t::l)).count v=(if -1-t.f=v then 1 else 0)+(vsL l).count v:=by unfold vsL;rw [List.filter_cons,if_pos (by simpa using hf),map_cons,List.count_cons];simp only [beq_iff_eq];omega
    rw [e2];split
    ·push_cast;rw [Int.mul_add];omega
    ·push_cast;rw [Int.mul_add];omega
  ·have h1:=h0.fold (σ:=σ) (l:=l);rw [b5w hf];refine ⟨?_,h1.nd,h1.sp,h1.lk,fun v=>?_⟩
   ·rw [h1.sz,e1];omega
   ·rw [h1.at_];have e2:vsL (t::l)=vsL l:=by unfold vsL;rw [List.filter_cons,if_neg (by simpa using hf)]
    rw [e2]
noncomputable def mrv (p:Int×Int):CV := .row [.i p.1,.i p.2]
theorem a0P (l:List (Int×Int)):y5 .i64 (l.map mrv):=fun r hr=>by
 obtain ⟨p,_,rfl⟩:=mem_map.1 hr;exact ⟨p.1,.i p.2,rfl⟩
theorem b8V (l:List (Int×Int)) (v:Int):E6 .i64 v (l.map mrv)=(B9 l v).map CV.i:=by
 induction l with
 | nil=>rfl
 | cons p l ih =>
  obtain ⟨k,x⟩:=p;rw [map_cons,mrv,P5,B9];split
  ·rfl
  ·exact ih
theorem b9Y (l:List (Int×Int)) (v:Int):(E6 .i64 v (l.map mrv)).getD (.sc (.int .i64 0)) = .i (C8 l v):=by
 rw [b8V];unfold C8;cases B9 l v<;>rfl
theorem b6Y (l:List (Int×Int)) (v y:Int):a2s .i64 v (.i y) (l.map mrv)=(T2 l v y).map mrv:=by
 induction l with
 | nil=>rfl
 | cons p l ih =>
  obtain ⟨k,x⟩:=p;rw [map_cons,mrv,a4x,T2];split
  ·rfl
  ·rw [map_cons,ih];rfl
noncomputable def mB (l:List (Int×Int)):AV:=⟨if l=[] then 17 else 14,.lst (l.map mrv),0,0,[]⟩
noncomputable abbrev sst (s:Sc):AS:=[(450001,.obj),(35500100,.val (.i s.sz)),(35500101,.mref 300001),(35500102,.val (.i s.sp)),(35500103,.val (.i s.lk)),(300001,mB s.mp)]
noncomputable abbrev c1u (z p k:Int):AS:=[(450001,.obj),(35500100,.val (.i z)),(35500101,.mref 300001),(35500102,.val (.i p)),(35500103,.val (.i k)),(300001,.nmap)]
noncomputable abbrev b7I (z:Int) (l:List (Int×Int)) (p k:Int):AS:=[(450001,.obj),(35500100,.val (.i z)),(35500101,.mref 300001),(35500102,.val (.i p)),(35500103,.val (.i k)),(300001,.mp (l.map mrv))]
theorem b4C {s:Sc} (h:s.mp=[]):sst s=c1u s.sz s.sp s.lk:=by simp only [sst,mB,h,if_true];rfl
theorem b4E {s:Sc} (h:s.mp≠[]):sst s=b7I s.sz s.mp s.sp s.lk:=by simp only [sst,mB,if_neg h]
theorem A5 (s:Sc):(sst s).all D6=true:=by
 by_cases h:s.mp=[]
 ·rw [b4C h];kernel_rfl
 ·rw [b4E h];kernel_rfl
theorem t9 (s:Sc):(sst s).all (F0 (kO (sst s)))=true:=by
 by_cases h:s.mp=[]
 ·rw [b4C h];kernel_rfl
 ·rw [b4E h];kernel_rfl
structure Bds (s:Sc) (n:Nat):Prop where
 sz : -(n:Int)<=s.sz/\s.sz<=n
 sp : -(n:Int)<=s.sp/\s.sp<=n
 lk : -(n:Int)<=s.lk/\s.lk<=n
 at_:∀ v,-(n:Int)<=C8 s.mp v/\C8 s.mp v<=n
theorem Bds.node {s:Sc} {n:Nat} {σ:Int} (h:Bds s n) (hσ:σ=1\/σ = -1) (t:Tm):Bds (a7j σ s t) (n+1):=by
 obtain ⟨h1,h2,h3,h4⟩:=h;unfold a7j;split
 ·unfold C6;have:=h4 (-1-t.f);refine ⟨by show _<=s.sz+σ/\s.sz+σ<=_;omega,by simp only;omega,by simp only;omega,fun v=>?_⟩;simp only;rw [a8Y];have:=h4 v;split<;>omega
 ·exact ⟨by show _<=s.sz+σ/\s.sz+σ<=_;omega,by simp only;omega,by simp only;omega,fun v=>by have:=h4 v;simp only;omega⟩
theorem Bds.fold {σ:Int} (hσ:σ=1\/σ = -1):∀ {l:List Tm} {s:Sc} {n:Nat},Bds s n->Bds (l.foldl (a7j σ) s) (n+l.length)
 | [],s,n,h=>h
 | t::l,s,n,h=>by
  rw [foldl_cons,length_cons,show n+(l.length+1)=n+1+l.length by omega];exact (h.node hσ t).fold hσ
theorem Bds.addL {σ:Int} (hσ:σ=1\/σ = -1) {l:List Tm} {s:Sc} {n:Nat} (h:Bds s n):Bds (addL σ s l) (n+(l.flatMap Tm.flat).length):=h.fold hσ
theorem Bds.addT {σ:Int} (hσ:σ=1\/σ = -1) {t:Tm} {s:Sc} {n:Nat} (h:Bds s n):Bds (addT σ s t) (n+t.size):=h.fold hσ
theorem L8 (W:World) (t:Tm):AFun Tryz.prog W 146 [t.cw] (.val (.b (decide (t.f<0)))):=by
 refine b9 (rs:=[.b (decide (t.f<0))]) Tryz.func146 Tryz.ntmps146 rfl rfl rfl rfl ?_;intro w U hW;refine aS (aR ?_);refine nc zd (nc ze ?_);refine aS (aR ?_);refine nc zg (nc zh (nc zi (nc ze ?_)));exact aT ⟨.inr rfl,rfl⟩
theorem a8z (W:World) (t:Tm) (h1 : -9223372036854775808<=t.f) (h2:t.f<0):AFun Tryz.prog W 148 [t.cw] (.val (.i (-1-t.f))):=by
 refine b9 (rs:=[.i (-1-t.f)]) Tryz.func148 Tryz.ntmps148 rfl rfl rfl rfl ?_;intro w U hW;refine aS (aR ?_);refine nc zd (nc ze ?_);refine aS (aR ?_);refine nc zg (nc zh (nc zB (nc ze ?_)));exact aT ⟨.inr rfl,rfl⟩
theorem a3e (W:World) (t:Tm):AFun Tryz.prog W 113 [t.cw] (.val (.lst (t.ps.map Tm.cv))):=by
 refine b9 (rs:=[.lst (t.ps.map Tm.cv)]) Tryz.func113 Tryz.ntmps113 rfl rfl rfl rfl ?_;intro w U hW;refine aS (aR ?_);refine nc zd (nc ze ?_);refine aS (aS (aR ?_));refine nc zj (nc (zk (z:=L8 w t)) ?_);refine aC rfl (fun hc=>?_) (fun hc=>?_)
 ·have hf:t.f<0:=by simpa using hc
  rw [Tm.ps_of_var hf];refine aS (aR ?_);refine nc ze ?_;exact aT ⟨.inr rfl,rfl⟩
 ·have hf:¬ t.f<0:=by simpa using hc
  rw [Tm.ps_of_sym (by omega)];refine aK ?_;refine aS (aR ?_);refine nc zg (nc zh (nc ze ?_));exact aT ⟨.inr rfl,rfl⟩
theorem a6C (s:Sc) (n:Nat) (hb:Bds s n) (hn:n<=1000000000000) (v σ:Int) (hσ:σ=1\/σ = -1) (hm:s.mp=[]):q6 Tryz.prog 147 (c1u s.sz s.sp s.lk) [.bp 350001 0 [],.val (.i v),.val (.i σ)] (.tup []) (b7I s.sz (C6 s v σ).mp (C6 s v σ).sp (C6 s v σ).lk):=by
 have gV:=hb.sp;have dR:=hb.lk;have eN:=hb.at_ v;have hg:C8 [] v=C8 s.mp v:=by rw [hm]
 obtain ⟨was,eE⟩:∃ was,was=C8 s.mp v:=⟨_,rfl⟩
 rw [<-eE] at eN;refine k9 Tryz.func147 Tryz.ntmps147 rfl rfl rfl rfl rfl rfl ?_;intro w U hU;refine aS (aS (aR ?_));refine nc zl (nc z5 (nc zg (nc z7 (nc zbo ?_))));refine aC rfl (fun hc=>?_) (fun hc=>by cases hc);refine aR ?_;refine nc zl (ne (zbp 300002) (nc z5 (nc zg (nc zbb ?_))));refine aS (aR ?_);refine nc zl (nc z5 (nc zg (nc z7 (nc zl (nc (zbq (H :=  a0P [])) (nc ze ?_))))));refine AWp.wk (a7 (s':=[(0,AV.bp 350001 0 []),(1,.val (.i v)),(2,.val (.i σ)),(6,.val (.i was)),(450001,.obj),(35500100,.val (.i s.sz)),(35500101,.mref 300002),(35500102,.val (.i s.sp)),(35500103,.val (.i s.lk)),(300002,.mp (([]:List (Int×Int)).map mrv))]) ⟨rfl,rfl,rfl,?_,rfl,rfl,rfl,rfl,rfl,rfl,trivial⟩) ?_
 ·rw [eE,<-hg];rfl
 refine aS (aR ?_);refine nc zl (nc zl (nc zA (nc ze ?_)));refine aS (aR ?_);refine nc zl (nc z5 (nc zg (nc z7 (nc zl (nc zl (nc (zbf (G:=a0P [])) ?_))))));refine aS (aR ?_);refine nc zl (nc z5 (nc zg (nc z7 (nc zl (nc zK (nc zl (nc zK (nc zB (nc zA (nc z5 (nc zg (nc zbb ?_))))))))))));refine aR ?_;refine nc zl (nc z5 (nc zg (nc z7 (nc zl (nc zbr (nc zK (nc zl (nc zbr (nc zK (nc zB (nc zA (nc z5 (nc zg (nc zbb ?_))))))))))))));refine ⟨.inl rfl,_,(a7 (s':=[(450001,.obj),(35500100,.val (.i s.sz)),(35500101,.mref 300002),(35500102,.val (.i (C6 s v σ).sp)),(35500103,.val (.i (C6 s v σ).lk)),(300002,.mp ((C6 s v σ).mp.map mrv))]) ⟨rfl,rfl,rfl,?_,?_,?_,trivial⟩).trans (A8 300002 300001 rfl rfl (by kernel_rfl) (by kernel_rfl)),rfl,rfl,rfl,rfl,rfl,rfl,rfl,trivial⟩
 ·unfold C6;rw [<-eE];rfl
 ·unfold C6;rw [<-eE];rfl
 ·unfold C6;simp only;rw [<-eE,hm,<-b6Y];rfl
theorem a6H (s:Sc) (n:Nat) (hb:Bds s n) (hn:n<=1000000000000) (v σ:Int) (hσ:σ=1\/σ = -1):q6 Tryz.prog 147 (b7I s.sz s.mp s.sp s.lk) [.bp 350001 0 [],.val (.i v),.val (.i σ)] (.tup []) (b7I s.sz (C6 s v σ).mp (C6 s v σ).sp (C6 s v σ).lk):=by
 have gV:=hb.sp;have dR:=hb.lk;have eN:=hb.at_ v;obtain ⟨was,eE⟩:∃ was,was=C8 s.mp v:=⟨_,rfl⟩
 rw [<-eE] at eN;refine k9 Tryz.func147 Tryz.ntmps147 rfl rfl rfl rfl rfl rfl ?_;intro w U hU;refine aS (aS (aR ?_));refine nc zl (nc z5 (nc zg (nc z7 (nc zbs ?_))));refine aC rfl (fun hc=>by cases hc) (fun hc=>?_);refine aK ?_;refine aS (aR ?_);refine nc zl (nc z5 (nc zg (nc z7 (nc zl (nc (zbq (H :=  a0P _)) (nc ze ?_))))));refine AWp.wk (a7 (s':=[(0,AV.bp 350001 0 []),(1,.val (.i v)),(2,.val (.i σ)),(6,.val (.i was)),(450001,.obj),(35500100,.val (.i s.sz)),(35500101,.mref 300001),(35500102,.val (.i s.sp)),(35500103,.val (.i s.lk)),(300001,.mp (s.mp.map mrv))]) ⟨rfl,rfl,rfl,?_,rfl,rfl,rfl,rfl,rfl,rfl,trivial⟩) ?_
 ·rw [eE,<-b9Y];rfl
 refine aS (aR ?_);refine nc zl (nc zl (nc zA (nc ze ?_)));refine aS (aR ?_);refine nc zl (nc z5 (nc zg (nc z7 (nc zl (nc zl (nc (zbf (G:=a0P _)) ?_))))));refine aS (aR ?_);refine nc zl (nc z5 (nc zg (nc z7 (nc zl (nc zK (nc zl (nc zK (nc zB (nc zA (nc z5 (nc zg (nc zbb ?_))))))))))));refine aR ?_;refine nc zl (nc z5 (nc zg (nc z7 (nc zl (nc zbr (nc zK (nc zl (nc zbr (nc zK (nc zB (nc zA (nc z5 (nc zg (nc zbb ?_))))))))))))));refine ⟨.inl rfl,_,(a7 (s':=b7I s.sz (C6 s v σ).mp (C6 s v σ).sp (C6 s v σ).lk) ⟨rfl,rfl,rfl,?_,?_,?_,trivial⟩),rfl,rfl,rfl,rfl,rfl,rfl,rfl,trivial⟩
 ·unfold C6;rw [<-eE];rfl
 ·unfold C6;rw [<-eE];rfl
 ·unfold C6;simp only;rw [<-eE,<-b6Y];rfl
theorem a8J (s:Sc) (n:Nat) (hb:Bds s n) (hn:n<=1000000000000) (v σ:Int) (hσ:σ=1\/σ = -1):q6 Tryz.prog 147 (sst s) [.bp 350001 0 [],.val (.i v),.val (.i σ)] (.tup []) (sst (C6 s v σ)):=by
 rw [b4E (s:=C6 s v σ) (b8L _ _ _)];by_cases h:s.mp=[]
 ·rw [b4C h];exact a6C s n hb hn v σ hσ h
 ·rw [b4E h];exact a6H s n hb hn v σ hσ
def c2i (σ:Int) (t:Tm):Prop:=∀ (s:Sc) (n:Nat),Bds s n->n+t.size<=1000000000000->q6 Tryz.prog 114 (sst s) [.bp 350001 0 [],.val t.cw,.val (.i σ)] (.tup []) (sst (addT σ s t))
theorem a3m (σ:Int) (hσ:σ=1\/σ = -1) (l:List Tm) (hl:l.length<=1000000000000) (ih:∀ t∈l,c2i σ t) (s:Sc) (n:Nat) (hb:Bds s n) (hn:n+(l.flatMap Tm.flat).length<=1000000000000):q6 Tryz.prog 117 (sst s) [.bp 350001 0 [],.val (.lst (l.map Tm.cv)),.val (.i σ)] (.tup []) (sst (addL σ s l)):=by
 have kC:=Tm.size_all l;refine k9 Tryz.func117 Tryz.ntmps117 rfl rfl rfl rfl rfl rfl ?_;intro w U hU;refine aS (aR ?_);refine nc zl (nc zo (nc zl ?_));refine aB (l9 l.length (fun k=>(0,.bp 350001 0 [])::(2,.val (.i σ))::(8,.val (.lst (l.map Tm.cv)))::(9,.val (.i (l.map Tm.cv).length))::(10,.val (.i k))::sst (addL σ s (l.take k))) (a7 ⟨rfl,rfl,rfl,rfl,rfl,rfl,rfl,rfl,rfl,rfl,rfl,trivial⟩) ?_);intro k hk;refine aS (aR ?_);refine nc zi ?_;refine aS (aC rfl (fun kA=>?_) (fun kA=>?_))
 ·have kE:k<l.length:=by simpa using kA
  obtain ⟨x,hx⟩:∃ x,l[k]?=some x:=⟨l[k],getElem?_eq_getElem kE⟩
  have kU:=Tm.map_at hx;have dG:=mem_of_getElem? hx;obtain ⟨sk,xG⟩:∃ sk,sk=addL σ s (l.take k):=⟨_,rfl⟩
  have fB:Bds sk (n+((l.take k).flatMap Tm.flat).length):=by rw [xG];exact hb.addL hσ
  have nL:n+((l.take k).flatMap Tm.flat).length+x.size<=1000000000000:=by
   have h2:(l.flatMap Tm.flat).length=((l.take k).flatMap Tm.flat).length+((l.drop k).flatMap Tm.flat).length:=by
    conv=>lhs;rw [<-List.take_append_drop k l]
    rw [flatMap_append,length_append]
   have h3:x.flat.length<=((l.drop k).flatMap Tm.flat).length:=t7 Tm.flat (mem_of_getElem? (i:=0) (by rw [List.getElem?_drop];simpa using hx));unfold Tm.size;omega
  have kP:=b4g (σ:=σ) (s:=s) hx;rw [<-xG] at kP;rw [<-xG];refine aK ?_;refine aS (aB (aS (aR ?_)));refine nc (zt (j:=k) (H:=kU) (hz:=kC)) (nc zu (ne zw (nc zx ?_)));refine aR ?_;refine nc zl (nc zj (nc zl (nc (zW (z:=ih x dG sk _ fB nL) (B:=A5 _) (C:=t9 _) (G:=i0 (by first | rfl | kernel_rfl))) ?_)));refine aR ?_;refine nc zA (nc zl ?_);refine ⟨kE,a7 ⟨rfl,rfl,rfl,rfl,rfl,rfl,?_,rfl,?_,?_,?_,trivial⟩⟩
  all_goals (rw [kP];rfl)
 ·have kE:k=l.length:=by
   have:¬ k<l.length:=by simpa using kA
   omega
  subst kE;rw [List.take_length];refine aE ?_;exact ⟨.inl rfl,_,Wk.refl _,rfl,rfl,rfl,rfl,rfl,rfl,rfl,trivial⟩
theorem X5 (σ:Int) (hσ:σ=1\/σ = -1):∀ t:Tm,t.rng->t.ok->c2i σ t:=by
 intro t
 induction t using Tm.ind with
 | h f l ih =>
 intro hr kH s n hb hn;have kH:=(Tm.ok_iff _).1 kH;have hr:=(Tm.rng_iff _).1 hr;simp only at kH hr;have kV:=hb.sz;have sR:=Tm.size_pos ⟨f,l⟩;refine k9 Tryz.func114 Tryz.ntmps114 rfl rfl rfl rfl rfl rfl ?_;intro w U hU;refine aS (aR ?_);refine ne zd ?_;refine aS (aR ?_);refine nc zl (nc z5 (nc zg (nc z7 (nc zl (nc zA (nc z5 (nc zg (nc zbb ?_))))))));obtain ⟨s1,eG⟩:∃ s1:Sc,s1=⟨s.sz+σ,s.mp,s.sp,s.lk⟩:=⟨_,rfl⟩
 have hb':Bds s1 (n+1):=by obtain ⟨b1,b2,b3,b4⟩:=hb;rw [eG];exact ⟨by show _<=s.sz+σ/\s.sz+σ<=_;omega,by simp only;omega,by simp only;omega,fun v=>by have:=b4 v;simp only;omega⟩
 refine AWp.wk (a7 (s':=(0,AV.bp 350001 0 [])::(2,.val (.i σ))::(4,.bp 4 0 [])::(100004,.bx (Tm.cw ⟨f,l⟩))::sst s1) ⟨rfl,rfl,rfl,rfl,rfl,?_,rfl,?_,?_,?_,trivial⟩) ?_
 ·rw [eG];rfl
 ·rw [eG];rfl
 ·rw [eG];rfl
 ·rw [eG];rfl
 refine aS (aS (aR ?_));refine nc zj ?_;refine nc (zk (z:=L8 w ⟨f,l⟩)) ?_;refine aC rfl (fun hc=>?_) (fun hc=>?_)
 ·have hf:f<0:=by simpa using hc
  rw [b5O (t:=⟨f,l⟩) hf,<-eG];refine aS (aR ?_);refine nc zl (nc zj ?_);refine nc (zk (z:=a8z w ⟨f,l⟩ hr.1.1 hf)) ?_;refine nc zl (nc (zW (z:=a8J s1 (n+1) hb' (by omega) (-1-f) σ hσ) (B:=A5 _) (C:=t9 _) (G:=i0 (by first | rfl | kernel_rfl))) ?_);exact aT ⟨.inr rfl,_,Wk.refl _,rfl,rfl,rfl,rfl,rfl,rfl,rfl,trivial⟩
 ·have hf:¬ f<0:=by simpa using hc
  rw [b5M (t:=⟨f,l⟩) hf,<-eG];have hse:=Tm.size_eq ⟨f,l⟩;rw [Tm.ps_of_sym (t:=⟨f,l⟩) (by show 0<=f;omega)] at hse;simp only at hse;have kD:=Tm.len_ps ⟨f,l⟩;rw [Tm.ps_of_sym (t:=⟨f,l⟩) (by show 0<=f;omega)] at kD;simp only at kD;refine aK ?_;refine aR ?_;refine nc zl (nc zg (nc zh (nc zl ?_)));refine nc (zW (z:=a3m σ hσ l (by omega) (fun t ht=>ih t ht (hr.2 t ht) (kH.2 t ht)) s1 (n+1) hb' (by omega)) (B:=A5 _) (C:=t9 _) (G:=i0 (by first | rfl | kernel_rfl))) ?_;exact ⟨.inl rfl,_,Wk.refl _,rfl,rfl,rfl,rfl,rfl,rfl,rfl,trivial⟩
theorem a2q (σ:Int) (hσ:σ=1\/σ = -1) (l:List Tm) (hl:l.length<=1000000000000) (hr:∀ t∈l,t.rng/\t.ok) (s:Sc) (n:Nat) (hb:Bds s n) (hn:n+(l.flatMap Tm.flat).length<=1000000000000):q6 Tryz.prog 117 (sst s) [.bp 350001 0 [],.val (.lst (l.map Tm.cv)),.val (.i σ)] (.tup []) (sst (addL σ s l)):=
 a3m σ hσ l hl (fun t ht=>X5 σ hσ t (hr t ht).1 (hr t ht).2) s n hb hn
def b4J (s:Sc) (w:Int):Int:=if s.sz≠0 then N2 s.sz 0 else w
def vdS (s:Sc) (w:Int):Int:=if (b4J s w=1/\0<s.lk)\/(b4J s w = -1/\0<s.sp) then 2 else b4J s w
theorem R4 (s:Sc) (x:Int):q6 Tryz.prog 115 (sst s) [.bp 350001 0 [],.val (.i x)] (.val (.i (vdS s x))) (sst s):=by
 refine k9 Tryz.func115 Tryz.ntmps115 rfl rfl rfl rfl rfl rfl ?_;intro w U hU;refine aS (aR ?_);refine nc ze ?_;refine aS (aR ?_);refine nc zl (nc ze ?_);refine b2e ((0,AV.bp 350001 0 [])::(5,.val (.i (b4J s x)))::sst s) ?_ ?_
 ·unfold b4J;refine aS (aR ?_);refine nc zl (nc z5 (nc zg (nc z7 (nc z8 ?_))));refine aC rfl (fun hc=>?_) (fun hc=>?_)
  ·have h:s.sz≠0:=by simpa using hc
   rw [if_pos h];refine aR ?_;refine nc zl (nc z5 (nc zg (nc z7 (nc (zk (z:=a3c w s.sz 0)) (nc ze ?_)))));exact a7 ⟨rfl,rfl,rfl,rfl,rfl,rfl,rfl,rfl,trivial⟩
  ·have h:¬ s.sz≠0:=by simpa using hc
   rw [if_neg h];refine aK ?_;exact a7 ⟨rfl,rfl,rfl,rfl,rfl,rfl,rfl,rfl,trivial⟩
 unfold vdS;generalize b4J s x=o;by_cases h1:o=1
 ·subst h1;by_cases h2:0<s.lk
  ·have g:decide (s.lk>0)=true:=by simpa using h2
   rw [if_pos (.inl ⟨rfl,h2⟩)];refine aS (aS (aR ?_));refine nc zl (nc zD (nc zl (nc (zl (p:=gb)) (nc (z5 (r:=gb)) (nc (zg (r:=gb)) (nc (z7 (r:=gb)) (nc (zN (r:=gb)) (nc zp (nc zl (nc zbt (nc zbt (nc zbt (nc (zbt (p:=X3 rfl rfl rfl rfl)) (nc (zbt (p:=X3 rfl rfl rfl rfl)) (nc (zbt (p:=X3 rfl rfl rfl rfl)) (nc (zbt (p:=X3 rfl rfl rfl rfl)) (nc (zbt (p:=X3 rfl rfl rfl rfl)) (nc zbt (nc zp ?_)))))))))))))))))));refine aC rfl (fun hc=>?_) (fun hc=>by cases hc);refine aS (aR ?_);refine nc ze ?_;exact aT ⟨.inr rfl,_,Wk.refl _,rfl,rfl,rfl,rfl,rfl,rfl,rfl,trivial⟩
  ·have g:decide (s.lk>0)=false:=by simpa using h2
   rw [if_neg (by omega)];refine aS (aS (aR ?_));refine nc zl (nc zD (nc zl (nc (zl (p:=gb)) (nc (z5 (r:=gb)) (nc (zg (r:=gb)) (nc (z7 (r:=gb)) (nc (zN (r:=gb)) (nc zp (nc zl (nc (zl (p:=gb)) (nc (zD (r:=gb)) (nc (zl (p:=gb)) (nc zbt (nc zbt (nc zbt (nc zbt (nc zbt (nc (zr (r:=gb)) (nc zr ?_)))))))))))))))))));refine aC rfl (fun hc=>by cases hc) (fun hc=>aK ?_);refine aS (aR ?_);refine nc zl (nc ze ?_);exact aT ⟨.inr rfl,_,Wk.refl _,rfl,rfl,rfl,rfl,rfl,rfl,rfl,trivial⟩
 ·have g1:decide (o=1)=false:=by simpa using h1
  by_cases h2:o = -1
  ·subst h2;by_cases h3:0<s.sp
   ·have g:decide (s.sp>0)=true:=by simpa using h3
    rw [if_pos (.inr ⟨rfl,h3⟩)];refine aS (aS (aR ?_));refine nc zl (nc zD (nc zl (nc zbt (nc zbt (nc zbt (nc zbt (nc zbt (nc zr (nc zl (nc (zl (p:=gb)) (nc (zD (r:=gb)) (nc (zl (p:=gb)) (nc (zl (p:=gb)) (nc (z5 (r:=gb)) (nc (zg (r:=gb)) (nc (z7 (r:=gb)) (nc (zN (r:=gb)) (nc (zp (r:=gb)) (nc zr ?_)))))))))))))))))));refine aC rfl (fun hc=>?_) (fun hc=>by rw [g] at hc;cases hc);refine aS (aR ?_);refine nc ze ?_;exact aT ⟨.inr rfl,_,Wk.refl _,rfl,rfl,rfl,rfl,rfl,rfl,rfl,trivial⟩
   ·have g:decide (s.sp>0)=false:=by simpa using h3
    rw [if_neg (by omega)];refine aS (aS (aR ?_));refine nc zl (nc zD (nc zl (nc zbt (nc zbt (nc zbt (nc zbt (nc zbt (nc zr (nc zl (nc (zl (p:=gb)) (nc (zD (r:=gb)) (nc (zl (p:=gb)) (nc (zl (p:=gb)) (nc (z5 (r:=gb)) (nc (zg (r:=gb)) (nc (z7 (r:=gb)) (nc (zN (r:=gb)) (nc (zp (r:=gb)) (nc zr ?_)))))))))))))))))));refine aC rfl (fun hc=>by rw [g] at hc;cases hc) (fun hc=>aK ?_);refine aS (aR ?_);refine nc zl (nc ze ?_);exact aT ⟨.inr rfl,_,Wk.refl _,rfl,rfl,rfl,rfl,rfl,rfl,rfl,trivial⟩
  ·have g2:decide (o = -1)=false:=by simpa using h2
   rw [if_neg (by omega)];refine aS (aS (aR ?_));refine nc zl (nc zD (nc zl (nc zbt (nc zbt (nc zbt (nc zbt (nc zbt (nc zr (nc zl (nc (zl (p:=gb)) (nc (zD (r:=gb)) (nc (zl (p:=gb)) (nc zbt (nc zbt (nc zbt (nc zbt (nc zbt (nc (zr (r:=gb)) (nc zr ?_)))))))))))))))))));refine aC rfl (fun hc=>by cases hc) (fun hc=>aK ?_);refine aS (aR ?_);refine nc zl (nc ze ?_);exact aT ⟨.inr rfl,_,Wk.refl _,rfl,rfl,rfl,rfl,rfl,rfl,rfl,trivial⟩
def orL:List Int->Int
 | []=>0
 | x::l=>if x≠0 then x else orL l
theorem b7n:∀ {l:List Int} {k:Nat} {x:Int},l[k]?=some x->x≠0->(∀ j y,j<k->l[j]?=some y->y=0)->orL l=x
 | [],k,x,h,_,_=>by simp at h
 | y::l,0,x,h,hx,_=>by
  simp at h;subst h;rw [orL,if_pos hx]
 | y::l,k+1,x,h,hx,hi=>by
  rw [orL,if_neg (by have:=hi 0 y (by omega) rfl;omega)];exact b7n (by simpa using h) hx fun j z hj hz=>hi (j+1) z (by omega) (by simpa using hz)
theorem a8N:∀ {l:List Int},(∀ x∈l,x=0)->orL l=0
 | [],_=>rfl
 | x::l,h=>by
  rw [orL,if_neg (by have:=h x (by simp);omega)];exact a8N fun y hy=>h y (mem_cons_of_mem _ hy)
theorem b7Y (W:World) (l:List Int) (hl:l.length<=1000000000):AFun Tryz.prog W 149 [.lst (l.map CV.i)] (.val (.i (orL l))):=by
 have kC:=n9 l;refine b9 (rs:=[.i (orL l)]) Tryz.func149 Tryz.ntmps149 rfl rfl rfl rfl ?_;intro w U hW;refine aS (aR ?_);refine nc ze ?_;refine aS (aR ?_);refine nc ze ?_;refine aS (aS (aR ?_));refine nc zl (nc zo (nc zl ?_));refine aB (B7 l.length (fun k=>∀ j y,j<k->l[j]?=some y->y=0) (fun k=>[(3,.val (.i 0)),(6,.val (.lst (l.map CV.i))),(7,.val (.i (l.map CV.i).length)),(8,.val (.i k))]) (a7 ⟨rfl,rfl,rfl,rfl,trivial⟩) (fun j c hj=>by omega) ?_);intro k hk hI;refine aS (aR ?_);refine nc zi ?_;refine aS (aC rfl (fun kA=>?_) (fun kA=>?_))
 ·have kE:k<l.length:=by simpa using kA
  obtain ⟨x,hx⟩:∃ x,l[k]?=some x:=⟨l[k],getElem?_eq_getElem kE⟩
  have kU:(l.map CV.i)[k]?=some (CV.i x):=by rw [List.getElem?_map,hx];rfl
  refine aK ?_;refine aS (aB (aS (aR ?_)));refine nc (zt (j:=k) (H:=kU) (hz:=kC)) (nc zu (nc ze ?_));refine aS (aR ?_);refine nc zl (nc zl (nc z8 ?_));refine aC rfl (fun hq=>?_) (fun hq=>?_)
  ·have hq:x≠0:=by simpa using hq
   refine aS (aR ?_);refine nc zl (nc ze ?_);rw [b7n hx hq hI];exact aT ⟨.inr rfl,rfl⟩
  ·have hq:x=0:=by simpa using hq
   refine aK ?_;refine aR ?_;refine nc zA (nc zl ?_);refine ⟨kE,fun j c hj hc=>?_,a7 ⟨rfl,rfl,rfl,rfl,trivial⟩⟩;rcases Nat.lt_or_ge j k with h | h
   ·exact hI j c h hc
   ·have:j=k:=by omega
    subst this;rw [hx] at hc;cases hc;exact hq
 ·have kE:¬ k<l.length:=by simpa using kA
  rw [a8N (l:=l) fun x hx=>?_]
  ·refine aE ?_;refine aS (aR ?_);refine nc zl (nc ze ?_);exact aT ⟨.inr rfl,rfl⟩
  ·obtain ⟨j,hj⟩:=List.getElem?_of_mem hx;have gF:j<l.length:=by
    rcases Nat.lt_or_ge j l.length with h | h
    ·exact h
    ·rw [getElem?_eq_none h] at hj;cases hj
   exact hI j x (by omega) hj
theorem c2b {a b:Tm} (h:¬ (a.f<0\/b.f<0)):hdK a b=orL [N2 a.f b.f,N2 a.l.length b.l.length]:=by
 unfold hdK;rw [if_neg h];simp only [orL];rcases q8 a.f b.f with h1 | h1 | h1
 ·rw [if_pos (by omega),if_pos (by omega)]
 ·rw [if_neg (by omega),if_neg (by omega)];split
  ·rfl
  ·omega
 ·rw [if_pos (by omega),if_pos (by omega)]
theorem a3p (W:World) (a b:Tm):AFun Tryz.prog W 116 [a.cw,b.cw] (.val (.i (hdK a b))):=by
 refine b9 (rs:=[.i (hdK a b)]) Tryz.func116 Tryz.ntmps116 rfl rfl rfl rfl ?_;intro w U hW;refine aS (aR ?_);refine nc zd (nc zd (nc ze ?_));by_cases ha:a.f<0
 ·have g:decide (a.f<0)=true:=by simpa using ha
  refine aS (aS (aR ?_));refine nc zj (nc (zk (z:=L8 w a)) (nc zl (nc zq (nc zq (nc zp ?_)))));refine aC rfl (fun hc=>?_) (fun hc=>by cases hc);unfold hdK;rw [if_pos (.inl ha)];refine aS (aR ?_);refine nc ze ?_;exact aT ⟨.inr rfl,rfl⟩
 have g:decide (a.f<0)=false:=by simpa using ha
 refine aS (aS (aR ?_));refine nc zj (nc (zk (z:=L8 w a)) (nc zl (nc (zj (p:=gb)) (nc (zk (p:=gb) (z:=L8 w b)) (nc zr ?_)))));refine aC rfl (fun hc=>?_) (fun hc=>?_)
 ·have hb:b.f<0:=by simpa using hc
  unfold hdK;rw [if_pos (.inr hb)];refine aS (aR ?_);refine nc ze ?_;exact aT ⟨.inr rfl,rfl⟩
 ·have hb:¬ b.f<0:=by simpa using hc
  rw [c2b (by omega)];have e1:(a.l.map Tm.cv).length=a.l.length:=length_map ..;have e2:(b.l.map Tm.cv).length=b.l.length:=length_map ..;refine aK ?_;refine aS (aD (by kernel_rfl) (by kernel_rfl) ?_);refine nc zg (nc zh (nc zg (nc zh (nc (zk (z:=a3c w a.f b.f)) (nc zg (nc zh (nc zo (nc zg (nc zh (nc zo (nc (zk (z:=a3c w _ _)) (nc zy (nc (zk (z:=b7Y w [_,_] (by simp))) (nc ze ?_))))))))))))));refine ⟨by kernel_rfl,?_⟩;rw [e1,e2];exact aT ⟨.inr rfl,rfl⟩
def emp:Sc:=⟨0,[],0,0⟩
noncomputable def a7X (c:Int) (s:Sc) (l m:List Tm) (r:Sc):Sc:=if c≠0 then addL (-1) (addL 1 s l) m else r
noncomputable def scS (p:Tm):Tm->Sc:=
 Tm.rec (motive_1:=fun _=>Tm->Sc) (motive_2:=fun _=>List Tm->Sc)
  (fun f l ih t=>if f≠t.f\/(Tm.mk f l).ps.length≠t.ps.length then addT (-1) (addT 1 emp ⟨f,l⟩) t else if f<0 then emp else ih t.l)
  (fun _=>emp)
  (fun x l ih1 ih2 ts=>match ts with | []=>emp | t::ts=>a7X (kb x t) (ih1 t) l ts (ih2 ts)) p
noncomputable def scs (ps:List Tm):List Tm->Sc:=
 Tm.rec_1 (motive_1:=fun _=>Tm->Sc) (motive_2:=fun _=>List Tm->Sc)
  (fun f l ih t=>if f≠t.f\/(Tm.mk f l).ps.length≠t.ps.length then addT (-1) (addT 1 emp ⟨f,l⟩) t else if f<0 then emp else ih t.l)
  (fun _=>emp)
  (fun x l ih1 ih2 ts=>match ts with | []=>emp | t::ts=>a7X (kb x t) (ih1 t) l ts (ih2 ts)) ps
theorem b8s (m:List Tm):scs [] m=emp:=rfl
theorem a4i (x:Tm) (l:List Tm) (y:Tm) (m:List Tm):scs (x::l) (y::m)=a7X (kb x y) (scS x y) l m (scs l m):=rfl
theorem b1w {a b:Tm} (h:a.f≠b.f\/a.ps.length≠b.ps.length):scS a b=addT (-1) (addT 1 emp a) b:=by
 cases a;show (if _ then _ else _)=_;rw [if_pos h]
theorem b1A {a b:Tm} (h:¬ (a.f≠b.f\/a.ps.length≠b.ps.length)):scS a b=scs a.ps b.ps:=by
 cases a with
 | mk f l =>
  show (if _ then _ else _)=_;rw [if_neg h];by_cases hf:f<0
  ·rw [if_pos hf,Tm.ps_of_var (t:=⟨f,l⟩) hf,b8s]
  ·rw [if_neg hf,Tm.ps_of_sym (t:=⟨f,l⟩) (by show 0<=f;omega),Tm.ps_of_sym (t:=b) (by have:=Classical.not_not.1 (fun e=>h (.inl e));simp only at this;omega)];rfl
theorem b1y:∀ {l m:List Tm} {k:Nat} {x y:Tm},l[k]?=some x->m[k]?=some y->kb x y≠0->(∀ j u v,j<k->l[j]?=some u->m[j]?=some v->kb u v=0)->scs l m=addL (-1) (addL 1 (scS x y) (l.drop (k+1))) (m.drop (k+1))/\kbs l m=kb x y
 | [],_,k,x,y,h,_,_,_=>by simp at h
 | _::_,[],k,x,y,_,h,_,_=>by simp at h
 | u::l,v::m,0,x,y,h1,h2,kF,_=>by
  simp at h1 h2;subst h1;subst h2;rw [a4i,H6];unfold a7X U8;rw [if_pos kF,if_pos kF];exact ⟨rfl,rfl⟩
 | u::l,v::m,k+1,x,y,h1,h2,kF,hi=>by
  have h0:=hi 0 u v (by omega) rfl rfl;rw [a4i,H6];unfold a7X U8;rw [if_neg (by omega),if_neg (by omega)];exact b1y (by simpa using h1) (by simpa using h2) kF fun j u v hj hu hv=>hi (j+1) u v (by omega) (by simpa using hu) (by simpa using hv)
theorem a4d:∀ {l m:List Tm},(∀ (j:Nat) u v,l[j]?=some u->m[j]?=some v->kb u v=0)->scs l m=emp/\kbs l m=0
 | [],_,_=>⟨rfl,rfl⟩
 | _::_,[],_=>⟨rfl,rfl⟩
 | u::l,v::m,hi=>by
  have h0:=hi 0 u v rfl rfl;rw [a4i,H6];unfold a7X U8;rw [if_neg (by omega),if_neg (by omega)];exact a4d fun j u v hu hv=>hi (j+1) u v (by simpa using hu) (by simpa using hv)
theorem emp_ss:Ss emp 0 fun _=>0:=⟨rfl,by simp [ndk,emp],rfl,rfl,fun _=>rfl⟩
theorem emp_bds:Bds emp 0:=⟨by simp [emp],by simp [emp],by simp [emp],fun _=>by simp [emp,C8,B9]⟩
def vD (a b:Tm) (v:Int):Int:=(a.vs.count v:Int)-b.vs.count v
theorem a9T:∀ (l m:List Tm),l.length=m.length->(∃ (k:Nat) (x y:Tm),l[k]?=some x/\m[k]?=some y/\kb x y≠0/\∀ (j:Nat) u v,j<k->l[j]?=some u->m[j]?=some v->kb u v=0)\/∀ (j:Nat) u v,l[j]?=some u->m[j]?=some v->kb u v=0
 | [],_,_ => .inr fun j u v h=>by simp at h
 | _::_,[],h=>by simp at h
 | u::l,v::m,h=>by
  by_cases h0:kb u v=0
  ·rcases a9T l m (by simpa using h) with ⟨k,x,y,h1,h2,h3,h4⟩ | h1
   ·left;refine ⟨k+1,x,y,by simpa using h1,by simpa using h2,h3,fun j u' v' hj hu hv=>?_⟩;cases j with
    | zero=>simp at hu hv;subst hu;subst hv;exact h0
    | succ j=>exact h4 j u' v' (by omega) (by simpa using hu) (by simpa using hv)
   ·right;intro j u' v' hu hv;cases j with
    | zero=>simp at hu hv;subst hu;subst hv;exact h0
    | succ j=>exact h1 j u' v' (by simpa using hu) (by simpa using hv)
  ·left;exact ⟨0,u,v,rfl,rfl,h0,fun j u v hj=>by omega⟩
theorem a0F:∀ {l m:List Tm} {k:Nat},k<=l.length->l.length=m.length->(∀ j u v,j<k->l[j]?=some u->m[j]?=some v->kb u v=0)->((l.take k).flatMap Tm.flat).length=((m.take k).flatMap Tm.flat).length/\(l.take k).flatMap Tm.vs=(m.take k).flatMap Tm.vs
 | _,_,0,_,_,_=>by simp
 | [],_,k+1,h,_,_=>by simp at h
 | _::_,[],k+1,_,h,_=>by simp at h
 | u::l,v::m,k+1,h,hl,hi=>by
  have h0:=(b2s u v).1 (hi 0 u v (by omega) rfl rfl);obtain ⟨h1,h2⟩:=a0F (l:=l) (m:=m) (k:=k) (by simpa using h) (by simpa using hl) fun j u v hj hu hv=>hi (j+1) u v (by omega) (by simpa using hu) (by simpa using hv);have h3:u.flat.length=v.flat.length:=by have:=congrArg Tm.size h0;rw [Tm.strip_size,Tm.strip_size] at this;exact this
  have h4:u.vs=v.vs:=by have:=congrArg Tm.vs h0;rw [Tm.strip_vs,Tm.strip_vs] at this;exact this
  rw [List.take_succ_cons,List.take_succ_cons,flatMap_cons,flatMap_cons,flatMap_cons,flatMap_cons,length_append,length_append,h1,h2,h3,h4];exact ⟨rfl,rfl⟩
theorem Z3 {l:List Tm} {k:Nat} {x:Tm} (h:l[k]?=some x):(l.flatMap Tm.flat).length=((l.take k).flatMap Tm.flat).length+(x.size+((l.drop (k+1)).flatMap Tm.flat).length)/\∀ v,(l.flatMap Tm.vs).count v=((l.take k).flatMap Tm.vs).count v+(x.vs.count v+((l.drop (k+1)).flatMap Tm.vs).count v):=by
 obtain ⟨h1,_⟩:=a9E h;constructor
 ·conv=>lhs;rw [h1]
  rw [flatMap_append,flatMap_cons,length_append,length_append];rfl
 ·intro v
  conv=>lhs;rw [h1]
  rw [flatMap_append,flatMap_cons,List.count_append,List.count_append]
theorem a9H (a:Tm):∀ b,Bds (scS a b) (a.size+b.size)/\(kb a b=0->scS a b=emp)/\(kb a b≠0->Ss (scS a b) (szD a b) (vD a b)):=by
 induction a using Tm.indp with
 | h a ih =>
  intro b;by_cases h:a.f≠b.f\/a.ps.length≠b.ps.length
  ·rw [b1w h];have h1:Bds (addT (-1) (addT 1 emp a) b) (0+a.size+b.size):=(emp_bds.addT (.inl rfl)).addT (.inr rfl);refine ⟨by rw [Nat.zero_add] at h1;exact h1,fun h2=>?_,fun _=>?_⟩
   ·rw [N5,B0] at h2;unfold wi at h2;rw [if_pos h] at h2;exact absurd h2 (b4D h)
   ·have h2:=(emp_ss.fold (σ:=1) (l:=a.flat)).fold (σ := -1) (l:=b.flat);refine ⟨?_,h2.nd,h2.sp,h2.lk,fun v=>?_⟩
    ·refine h2.sz.trans ?_;unfold szD Tm.size;omega
    ·refine (h2.at_ v).trans ?_;unfold vD Tm.vs;omega
  ·rw [b1A h];have hw:wi a b=kbs a.ps b.ps:=by unfold wi;rw [if_neg h]
   have dF:a.ps.length=b.ps.length:=by omega
   rcases a9T a.ps b.ps dF with ⟨k,x,y,h1,h2,h3,h4⟩ | h1
   ·obtain ⟨e1,e2⟩:=b1y h1 h2 h3 h4;obtain ⟨b1,b2,b3⟩:=ih x (mem_of_getElem? h1) y;have hk:k<a.ps.length:=by
     rcases Nat.lt_or_ge k a.ps.length with h | h
     ·exact h
     ·rw [getElem?_eq_none h] at h1;cases h1
    obtain ⟨v1,v2⟩:=a0F (Nat.le_of_lt hk) dF h4;obtain ⟨l1,l2⟩:=Z3 h1;obtain ⟨m1,m2⟩:=Z3 h2;have sa:=a.size_eq;have sb:=b.size_eq;rw [e1];refine ⟨?_,fun h5=>?_,fun h5=>?_⟩
    ·have hB:=((b1.addL (.inl rfl) (l:=a.ps.drop (k+1))).addL (.inr rfl) (l:=b.ps.drop (k+1)))
     obtain ⟨q1,q2,q3,q4⟩:=hB;exact ⟨by omega,by omega,by omega,fun v=>by have:=q4 v;omega⟩
    ·rw [N5,B0,hw,e2] at h5;exact absurd h5 h3
    ·have h6:=((b3 h3).fold (σ:=1) (l:=(a.ps.drop (k+1)).flatMap Tm.flat)).fold (σ := -1) (l:=(b.ps.drop (k+1)).flatMap Tm.flat);refine ⟨?_,h6.nd,h6.sp,h6.lk,fun v=>?_⟩
     ·refine h6.sz.trans ?_;unfold szD;omega
     ·refine (h6.at_ v).trans ?_;rw [W7,W7];have p1:=l2 v;have p2:=m2 v;rw [<-v2] at p2;have hf:a.f=b.f:=by omega
      have ha:a.vs=a.ps.flatMap Tm.vs:=by
       by_cases hv:a.f<0
       ·rw [Tm.ps_of_var hv] at hk;simp at hk
       ·rw [Tm.vs_sym hv,Tm.ps_of_sym (by omega)]
      have hb:b.vs=b.ps.flatMap Tm.vs:=by
       by_cases hv:b.f<0
       ·rw [Tm.ps_of_var (t:=a) (by omega)] at hk;simp at hk
       ·rw [Tm.vs_sym hv,Tm.ps_of_sym (by omega)]
      unfold vD;rw [ha,hb];omega
   ·obtain ⟨e1,e2⟩:=a4d h1;rw [e1];refine ⟨?_,fun _=>rfl,fun h5=>?_⟩
    ·obtain ⟨q1,q2,q3,q4⟩:=emp_bds;exact ⟨by omega,by omega,by omega,fun v=>by have:=q4 v;omega⟩
    ·exfalso;apply h5;rw [N5,B0,hw,e2]
theorem b6D (z w:Int):(if z≠0 then N2 z 0 else w)=b2Z z w:=by
 unfold b2Z;rcases q8 z 0 with h | h | h
 ·rw [if_pos (by omega),if_neg (by omega),if_pos (by omega),h.1]
 ·rw [if_neg (by omega),if_neg (by omega),if_neg (by omega)]
 ·rw [if_pos (by omega),if_pos (by omega),h.1]
theorem b2D {s:Sc} {a b:Tm} (h:Ss s (szD a b) (vD a b)) {w:Int} (hw:w≠0):vdS s w=a0D (szD a b) (cov a b) (cov b a) w:=by
 have h1:0<s.lk↔¬ cov a b:=by
  obtain ⟨d1,d2⟩:=b6B h.nd;rw [h.lk];have:dnS s.mp=0↔cov a b:=by
   rw [d2];unfold cov;constructor
   ·intro h2 v;have:=h2 v;rw [h.at_] at this;unfold vD at this;omega
   ·intro h2 v;have:=h2 v;rw [h.at_];unfold vD;omega
  rw [<-this];omega
 have h2:0<s.sp↔¬ cov b a:=by
  obtain ⟨d1,d2⟩:=b5v h.nd;rw [h.sp];have:upS s.mp=0↔cov b a:=by
   rw [d2];unfold cov;constructor
   ·intro h2 v;have:=h2 v;rw [h.at_] at this;unfold vD at this;omega
   ·intro h2 v;have:=h2 v;rw [h.at_];unfold vD;omega
  rw [<-this];omega
 unfold vdS a0D b7x b4J;rw [if_neg hw,h.sz,b6D];by_cases h3:(b2Z (szD a b) w=1/\¬ cov a b)\/(b2Z (szD a b) w = -1/\¬ cov b a)
 ·rw [if_pos h3,if_pos (by rw [h1,h2];exact h3)]
 ·rw [if_neg h3,if_neg (by rw [h1,h2];exact h3)]
end Go.Proofs.YteegmcfobgpemaaGreat
