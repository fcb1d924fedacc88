/-
 UnFns6 UnFns7 UnFns8 AbBack UnFns9 AbMapR AbEnds
-/
import Derived.Test.YteegmcfobgpemaaGreatMg6
import Derived.Test.YteegmcfobgpemaaGreatMg3
import Derived.Test.YteegmcfobgpemaaGreatMg2
import Derived.Maps.RangeRun
namespace Go.Proofs.YteegmcfobgpemaaGreat
open List (cons_append getD_eq_getElem?_getD getElem?_eq_getElem getElem?_eq_none getElem?_map getElem?_set length_append length_cons length_map length_nil map_append mem_append mem_append_left mem_cons_of_mem mem_map mem_of_getElem? mem_reverse mem_singleton)
open Go.RowKit
set_option linter.unusedVariables false
set_option linter.unusedSimpArgs false
set_option maxRecDepth 100000
structure FitU (c:Cl):Prop where
 up:upOk c.ns
 kid:kidOk c.ns
 trm:trmOk c.ns
 big:pw c.ns<=1000
 vrb:∀ v m,o7 c.vr v=some m->m<c.ns.length
theorem Inv.fitU {c:Cl} {E} {M:Nat} (h:Inv c E M):FitU c:=by
 have hf:=h.fit;obtain ⟨H,r,h1,_⟩:=h.cls;exact ⟨hf.up,hf.kid,hf.trm,h.big,fun v m hm=>(h1.vrt v m hm).1⟩
def upB (c:Cl):Prop:=upOk c.ns/\∀ v m,o7 c.vr v=some m->m<c.ns.length
theorem upB.add {c:Cl} (h:upB c) (t:Tm):upB (q9 c t):=by
 have hl:(q9 c t).ns.length=c.ns.length+1:=y5 c t;have hu:W6 c t<=c.ns.length:=by
  unfold W6;split
  ·cases e:o7 c.vr (-1-t.f) with
   | none=>exact Nat.le_refl _
   | some m=>exact Nat.le_of_lt (h.2 _ m e)
  ·exact Nat.le_refl _
 refine ⟨fun m hm=>?_,fun v m hm=>?_⟩
 ·rw [hl] at hm |-;unfold nU q9;rcases Nat.lt_or_ge m c.ns.length with h1 | h1
  ·simp only;rw [getD_eq_getElem?_getD,List.getElem?_append_left h1,<-getD_eq_getElem?_getD];have:=h.1 m h1;unfold nU at this;omega
  ·have:m=c.ns.length:=by omega
   subst this;simp only;rw [G9];show W6 c t<_;omega
 ·rw [hl];have hm:o7 (addV c t) v=some m:=hm;unfold addV at hm;split at hm
  ·split at hm
   ·have:=h.2 v m hm;omega
   ·rw [T3] at hm;cases e:o7 c.vr v with
    | some m'=>rw [e] at hm;cases hm;have:=h.2 v _ e;omega
    | none =>
     rw [e,Option.none_or] at hm;split at hm
     ·cases hm;omega
     ·cases hm
  ·have:=h.2 v m hm;omega
theorem upB.all (l:List Tm):∀ {c:Cl},upB c->upB (addAll c l):=by
 induction l with
 | nil=>exact fun h=>h
 | cons t l ih=>exact fun h=>ih (h.add t)
theorem upB.parts {c:Cl} (h:upB c) (n:Nat):upB (pC c n).1:=by
 unfold pC;split
 ·exact h
 ·split
  ·refine upB.all _ ⟨fun m hm=>?_,fun v m hm=>?_⟩
   ·have hl:(c.setFi n c.ns.length).ns.length=c.ns.length:=by unfold Cl.setFi setFi;simp
    rw [hl] at hm |-;have hU:nU (c.setFi n c.ns.length).ns m=nU c.ns m:=by
     unfold Cl.setFi setFi nU;simp only;rw [getD_eq_getElem?_getD,getElem?_set];split
     ·rename_i e;subst e;split
      ·rfl
      ·rename_i h9;exact absurd hm h9
     ·rw [<-getD_eq_getElem?_getD]
    rw [hU];exact h.1 m hm
   ·have:=h.2 v m hm;show m<(setFi c.ns n c.ns.length).length;unfold setFi;rw [List.length_set];exact this
  ·exact h
theorem FitU.parts {c:Cl} (h:FitU c) {n:Nat} (hn:n<c.ns.length):FitU (pC c n).1:=by
 obtain ⟨h1,h2⟩:=upB.parts ⟨h.up,h.vrb⟩ n;exact ⟨h1,h.kid.parts hn,h.trm.parts hn,by rw [J6];exact h.big,h2⟩
theorem kidOk.same {ns ns':List Nd} (h:kidOk ns) (hl:ns'.length=ns.length) (ht:∀ m,nT ns' m=nT ns m) (hk:∀ m,nK ns' m=nK ns m):kidOk ns':=fun n hn oE i hi=>by
 rw [hl] at hn |-;rw [hk] at oE |-;rw [ht] at hi;exact h n hn oE i hi
theorem FitU.head {k:Nat} {ns:List Nd} {vr ps} {n:Nat} {r} (h:FitU ⟨ns,vr,ps⟩) (hn:n<ns.length) (hd:n9 k ns n=some r):FitU ⟨r.1,vr,ps⟩/\r.1.length=ns.length/\r.2<ns.length:=by
 obtain ⟨a1,a2,a3,a4,a5⟩:=I7 k hd h.up hn;exact ⟨⟨a1,h.kid.same a2 a4 a5,h.trm.same a2 a4,by show pw r.1<=1000;rw [a3k a2 a4 a5];exact h.big,fun v m hm=>by show m<r.1.length;rw [a2];exact h.vrb v m hm⟩,a2,a3⟩
theorem c2R {ns:List Nd} {n:Nat} {x:Int} (m:Nat):nU (setUs ns n x) m=nU ns m:=by
 unfold nU setUs;rw [getD_eq_getElem?_getD,getElem?_set];split
 ·rename_i e;subst e;split
  ·rfl
  ·rename_i h9;rw [getD_eq_getElem?_getD,getElem?_eq_none (by omega)]
 ·rw [<-getD_eq_getElem?_getD]
theorem F2 (ns:List Nd) (n:Nat) (x:Int):(setUs ns n x).length=ns.length:=by unfold setUs;simp
theorem FitU.us {ns:List Nd} {vr ps} (h:FitU ⟨ns,vr,ps⟩) (n:Nat) (x:Int):FitU ⟨setUs ns n x,vr,ps⟩:=by
 have hl:=F2 ns n x;exact ⟨fun m hm=>by show nU (setUs ns n x) m<(setUs ns n x).length;rw [c2R,hl];exact h.up m (by have:m<(setUs ns n x).length:=hm;rw [hl] at this;exact this),h.kid.same hl b1y.1 b1y.2,h.trm.same hl b1y.1,by show pw (setUs ns n x)<=1000;rw [b7T];exact h.big,fun v m hm=>by show m<(setUs ns n x).length;rw [hl];exact h.vrb v m hm⟩
def usB (ns:List Nd) (B:Int):Prop:=∀ m,-B<=nS ns m/\nS ns m<=B
theorem c1J {ns:List Nd} {n k:Nat} (m:Nat):nS (setUp ns n k) m=nS ns m:=by
 unfold nS setUp;rw [getD_eq_getElem?_getD,getElem?_set];split
 ·rename_i e;subst e;split
  ·rfl
  ·rename_i h9;rw [getD_eq_getElem?_getD,getElem?_eq_none (by omega)]
 ·rw [<-getD_eq_getElem?_getD]
theorem a9I:∀ (k:Nat) {ns:List Nd} {n:Nat} {r},n9 k ns n=some r->∀ m,nS r.1 m=nS ns m
 | 0,_,_,_,e=>by cases e
 | k+1,ns,n,r,e=>fun m=>by
  rw [n9] at e;split at e
  ·cases e;rfl
  ·rw [a9I k e m,c1J]
theorem usB.head {k:Nat} {ns:List Nd} {n:Nat} {r} {B:Int} (h:usB ns B) (hd:n9 k ns n=some r):usB r.1 B:=fun m=>by rw [a9I k hd];exact h m
theorem usB.set {ns:List Nd} {B:Int} (h:usB ns B) {n:Nat} {x:Int} (hx : -(B+1)<=x/\x<=B+1):usB (setUs ns n x) (B+1):=fun m=>by
 have h1:=h m;unfold nS setUs at *;rw [getD_eq_getElem?_getD,getElem?_set];split
 ·split
  ·exact hx
  ·show _<=(0:Int)/\(0:Int)<=_;omega
 ·rw [<-getD_eq_getElem?_getD];omega
theorem usB.mono {ns:List Nd} {B B':Int} (h:usB ns B) (hb:B<=B'):usB ns B':=fun m=>by have:=h m;omega
theorem b9i {c:Cl} {t:Tm} {B:Int} (h:usB c.ns B) (hB:0<=B):usB (q9 c t).ns B:=fun m=>by
 unfold nS q9;simp only;rw [getD_eq_getElem?_getD];rcases Nat.lt_trichotomy m c.ns.length with h1 | h1 | h1
 ·rw [List.getElem?_append_left h1,<-getD_eq_getElem?_getD];exact h m
 ·subst h1;rw [List.getElem?_append_right (Nat.le_refl _),Nat.sub_self];show _<=(0:Int)/\(0:Int)<=_;omega
 ·rw [getElem?_eq_none (by simp;omega)];show _<=(0:Int)/\(0:Int)<=_;omega
theorem usB.parts {c:Cl} {B:Int} (h:usB c.ns B) (hB:0<=B) (n:Nat):usB (pC c n).1.ns B:=by
 have dN:∀ (l:List Tm) (c:Cl),usB c.ns B->usB (addAll c l).ns B:=by
  intro l
  induction l with
  | nil=>exact fun c h=>h
  | cons t l ih=>exact fun c h=>ih _ (b9i h hB)
 unfold pC;split
 ·exact h
 ·split
  ·refine dN _ _ fun m=>?_;have:nS (c.setFi n c.ns.length).ns m=nS c.ns m:=by
    unfold Cl.setFi setFi nS;simp only;rw [getD_eq_getElem?_getD,getElem?_set];split
    ·rename_i e;subst e;split
     ·rfl
     ·rename_i h9;rw [getD_eq_getElem?_getD,getElem?_eq_none (by omega)]
    ·rw [<-getD_eq_getElem?_getD]
   rw [this];exact h m
  ·exact h
theorem b6n {ns:List Nd} {n:Nat} {k:Int} {x:Nd} (h:ns[n]?=some x):(setUs ns n k)[n]?=some { x with us:=k }:=by
 unfold setUs;have hl:n<ns.length:=(List.getElem?_eq_some_iff.1 h).1;rw [List.getElem?_set_self hl,r7 h]
noncomputable abbrev n7 (l:List Nat):CV := .lst (l.map fun n:Nat=>CV.i (n:Int))
theorem Q4 (l:List Nat):∀ c∈l.map (fun n:Nat=>CV.i (n:Int)),c.size=1:=fun c hc=>by
 obtain ⟨n,_,rfl⟩:=mem_map.1 hc;rfl
set_option maxHeartbeats 8000000 in
theorem b1z (k j0:Nat) (c0:Cl) (q:Cl×List Nat) (hq:E0 k j0 0 c0 []=some q) (yL:FitU c0) (eS:usB c0.ns 0):r5 Tryz.prog 154 (s9 c0) [.bp 350001 0 []] (.val (n7 q.2)) (s9 q.1):=by
 refine l6 Tryz.func154 Tryz.ntmps154 rfl rfl rfl rfl rfl rfl ?_;intro w U hU;refine aS (aR ?_);refine nc ze ?_;refine aS (aR ?_);refine nc ze ?_;refine aS (aS (aR ?_));refine nc ze ?_;refine aB (t9 (fun j s=>∃ n c hs,E0 k j n c hs=some q/\FitU c/\usB c.ns ((n:Int)*1000)/\n<=1000/\hs.length<=n/\s=(0,AV.bp 350001 0 [])::(3,.own (n7 hs) 200025)::(200025,.tok 3 1)::(4,.val (.i (n:Int)))::s9 c) (n:=j0) (s':=(0,AV.bp 350001 0 [])::(3,.own (n7 []) 200025)::(200025,.tok 3 1)::(4,.val (.i ((0:Nat):Int)))::s9 c0) ((R7 3 200025 3 1 rfl rfl rfl rfl rfl rfl (by kernel_rfl)).trans (a7 ⟨rfl,rfl,rfl,rfl,rfl,rfl,rfl,rfl,rfl,rfl,rfl,trivial⟩)) ⟨0,c0,[],hq,yL,by simpa using eS,by omega,Nat.le_refl _,rfl⟩ ?_);rintro j s ⟨n,c,hs,hq,hF,hu,hn,dH,rfl⟩;cases j with
 | zero=>cases hq
 | succ j =>
 rw [E0] at hq;have hl:c.ns.length<=1000:=Nat.le_trans (C4 _) hF.big;refine aS (aS (aR ?_));refine nc zl (nc zl (nc z7 (nc zg (nc z8 (nc zX (nc zi ?_))))));by_cases kA:n<c.ns.length
 case neg =>
  rw [if_neg kA] at hq;have hq:=Option.some.inj hq;subst hq;refine aC rfl (fun hc=>?_) (fun hc=>?_)
  ·exfalso;have:(n:Int)<c.ns.length:=by simpa using hc
   omega
  refine aE ?_;refine aS (aR ?_);refine nc zl (nc ze ?_);exact aT ⟨.inr rfl,_,Wk.refl _,rfl,rfl,rfl,rfl,rfl,rfl,rfl,rfl,trivial⟩
 rw [if_pos kA] at hq;refine aC rfl (fun hc=>?_) (fun hc=>?_)
 case refine_2 =>
  have:¬ (n:Int)<c.ns.length:=by simpa using hc
  omega
 refine aK ?_;cases hd:n9 k c.ns n with
 | none=>rw [hd] at hq;cases hq
 | some r =>
 rw [hd] at hq;simp only at hq;have hdc:=K7 c.vr c.ps k c.ns n r hd hF.up kA (by omega);obtain ⟨fL,eI,iM⟩:=FitU.head (vr:=c.vr) (ps:=c.ps) hF kA hd;have dS:=hu.head hd;refine AWp.wk ((a7 (s':=(0,AV.bp 350001 0 [])::(3,.own (n7 hs) 200025)::(200025,.tok 3 1)::(4,.val (.i (n:Int)))::s9 c) ⟨rfl,rfl,rfl,rfl,rfl,rfl,rfl,rfl,rfl,rfl,rfl,trivial⟩).trans (x7 300001 400001 rfl rfl (b7G hU (by kernel_rfl)) (by kernel_rfl) (by kernel_rfl) (by kernel_rfl))) ?_;refine aS (aB (aS (aS (aR ?_))));refine nc zl (nc zl (nc (zW (z:=hdc) (G:=i0 (by first | rfl | kernel_rfl))) (nc zl (nc z9 ?_))));obtain ⟨c1,gO⟩:∃ c1:Cl,c1=⟨r.1,c.vr,c.ps⟩:=⟨_,rfl⟩
 rw [<-gO] at hq fL |-;have hl1':c1.ns.length=c.ns.length:=by rw [gO];exact eI
 have dS:usB c1.ns ((n:Int)*1000):=by rw [gO];exact dS
 by_cases he:r.2=n
 case neg =>
  rw [if_pos he] at hq;refine aC rfl (fun hc=>?_) (fun hc=>?_)
  case refine_2 =>
   have hc:=of_decide_eq_false hc;simp only [ne_eq,Decidable.not_not] at hc;omega
  refine aE ?_;refine aR ?_;refine nc zl (nc zA (nc ze ?_));refine ⟨j,(0,AV.bp 350001 0 [])::(3,.own (n7 hs) 200025)::(200025,.tok 3 1)::(4,.val (.i ((n+1:Nat):Int)))::s9 c1,by omega,⟨n+1,c1,hs,hq,fL,dS.mono (by omega),by omega,by omega,rfl⟩,(a7 (s':=(0,AV.bp 350001 0 [])::(3,.own (n7 hs) 200025)::(200025,.tok 3 1)::(4,.val (.i ((n+1:Nat):Int)))::O5 c1) ⟨rfl,rfl,rfl,rfl,rfl,rfl,rfl,rfl,rfl,rfl,rfl,trivial⟩).trans (x7 400001 300001 rfl rfl (a5I U (by decide)) (by kernel_rfl) (by kernel_rfl) (by kernel_rfl))⟩
 rw [if_neg (by simpa using he)] at hq;refine aC rfl (fun hc=>?_) (fun hc=>aK ?_)
 ·exfalso;rw [he] at hc;simp at hc
 have bS:n<c1.ns.length:=by omega
 have jU:=fL.parts bS;have cS:=dS.parts (by omega) n;have cG:(pC c1 n).1.ns.length<=1000:=Nat.le_trans (C4 _) jU.big;have mG:=M6 c1 n bS fL.trm (by omega) (fL.kid.fi bS (by omega));obtain ⟨c2,gY⟩:∃ c2,c2=(pC c1 n).1:=⟨_,rfl⟩
 obtain ⟨fr,jD⟩:∃ x,x=(pC c1 n).2.1:=⟨_,rfl⟩
 obtain ⟨to,iR⟩:∃ x,x=(pC c1 n).2.2:=⟨_,rfl⟩
 have sS:fr<=to:=by rw [jD,iR];exact Q2.1
 have wJ:to<=c2.ns.length:=by rw [iR,gY];exact a0p fL.kid bS
 rw [<-gY] at hq jU cS cG mG;rw [<-jD,<-iR] at hq mG;refine AWp.wk ((a7 (s':=(0,AV.bp 350001 0 [])::(3,.own (n7 hs) 200025)::(200025,.tok 3 1)::(4,.val (.i (n:Int)))::O5 c1) ⟨rfl,rfl,rfl,rfl,rfl,rfl,rfl,rfl,rfl,rfl,rfl,trivial⟩).trans (x7 400001 300001 rfl rfl (a5I U (by decide)) (by kernel_rfl) (by kernel_rfl) (by kernel_rfl))) ?_;have yA:=Q4 hs;refine aS (aR ?_);refine nc zl (nc zl (nc zy (ne zz (nc ze ?_))));refine AWp.wk ((a7 (s':=(0,AV.bp 350001 0 [])::(3,.own (n7 (hs++[n])) 300025)::(300025,.tok 3 1)::(4,.val (.i (n:Int)))::s9 c1) ⟨rfl,?_,rfl,rfl,rfl,rfl,rfl,rfl,rfl,rfl,rfl,trivial⟩).trans (B2 300025 200025 rfl rfl (by kernel_rfl) (by kernel_rfl))) ?_
 ·show _=some (AV.own (.lst ((hs++[n]).map fun n:Nat=>CV.i (n:Int))) 300025);rw [map_append];rfl
 refine aS (aR ?_);refine nc zl (nc zl (nc (zW (z:=mG) (G:=i0 (by first | rfl | kernel_rfl))) (nc zl (nc zE (nc zE (nc ze (nc ze ?_)))))));refine aS (aR ?_);refine nc zl (nc ze ?_);cases fV:a3B k (List.range' fr (to-fr)) c2.ns with
 | none=>rw [fV] at hq;cases hq
 | some ns =>
 rw [fV] at hq;simp only at hq;refine aB (t9 (fun m s=>∃ i ns1,i+m=to-fr/\a3B k (List.range' (fr+i) m) ns1=some ns/\FitU ⟨ns1,c2.vr,c2.ps⟩/\ns1.length=c2.ns.length/\usB ns1 ((n:Int)*1000+i)/\s=(0,AV.bp 350001 0 [])::(3,.own (n7 (hs++[n])) 200025)::(200025,.tok 3 1)::(4,.val (.i (n:Int)))::(6,.val (.i (to:Int)))::(7,.val (.i ((fr+i:Nat):Int)))::O5 ⟨ns1,c2.vr,c2.ps⟩) (n:=to-fr) (s':=(0,AV.bp 350001 0 [])::(3,.own (n7 (hs++[n])) 200025)::(200025,.tok 3 1)::(4,.val (.i (n:Int)))::(6,.val (.i (to:Int)))::(7,.val (.i ((fr+0:Nat):Int)))::O5 ⟨c2.ns,c2.vr,c2.ps⟩) ((a7 (s':=(0,AV.bp 350001 0 [])::(3,.own (n7 (hs++[n])) 200025)::(200025,.tok 3 1)::(4,.val (.i (n:Int)))::(6,.val (.i (to:Int)))::(7,.val (.i ((fr+0:Nat):Int)))::s9 c2) ⟨rfl,rfl,rfl,rfl,rfl,rfl,rfl,rfl,rfl,rfl,rfl,rfl,rfl,trivial⟩).trans (x7 300001 400001 rfl rfl (b7G hU (by kernel_rfl)) (by kernel_rfl) (by kernel_rfl) (by kernel_rfl))) ⟨0,c2.ns,by omega,fV,jU,rfl,cS.mono (by omega),rfl⟩ ?_);rintro m s ⟨i,ns1,tM,dS,jE,iC,dV,rfl⟩;refine aS (aS (aR ?_));refine nc zl (nc zl (nc zi ?_));cases m with
 | zero =>
  have sT:some ns1=some ns:=dS;have sT:=Option.some.inj sT;subst sT;refine aC rfl (fun hc=>?_) (fun hc=>?_)
  ·exfalso;have:((fr+i:Nat):Int)<to:=by simpa using hc
   omega
  refine aE ?_;refine aR ?_;refine nc zl (nc zA (nc ze ?_));refine ⟨j,(0,AV.bp 350001 0 [])::(3,.own (n7 (hs++[n])) 200025)::(200025,.tok 3 1)::(4,.val (.i ((n+1:Nat):Int)))::s9 ⟨ns1,c2.vr,c2.ps⟩,by omega,⟨n+1,⟨ns1,c2.vr,c2.ps⟩,hs++[n],hq,jE,dV.mono (by omega),by omega,by rw [length_append];simp only [length_cons,length_nil];omega,rfl⟩,(a7 (s':=(0,AV.bp 350001 0 [])::(3,.own (n7 (hs++[n])) 200025)::(200025,.tok 3 1)::(4,.val (.i ((n+1:Nat):Int)))::O5 ⟨ns1,c2.vr,c2.ps⟩) ⟨rfl,rfl,rfl,rfl,rfl,rfl,rfl,rfl,rfl,rfl,rfl,trivial⟩).trans (x7 400001 300001 rfl rfl (a5I U (by decide)) (by kernel_rfl) (by kernel_rfl) (by kernel_rfl))⟩
 | succ m =>
  have fX:fr+i<ns1.length:=by omega
  rw [List.range'_succ,a3B] at dS;cases bZ:n9 k ns1 (fr+i) with
  | none=>rw [bZ] at dS;cases dS
  | some r2 =>
  rw [bZ] at dS;simp only at dS;obtain ⟨wK,mS,hr4⟩:=FitU.head jE fX bZ;have eU:=dV.head bZ;have jV:=K7 c2.vr c2.ps k ns1 (fr+i) r2 bZ jE.up fX (by omega);have sU:O5 ⟨r2.1,c2.vr,c2.ps⟩=[(450001,.obj),(35500100,.sl 400001 0 ns1.length 5),(35500101,.mref 300003),(35500102,.sl 300002 0 c2.ps.length 2),(400001,.mrow 194 5 (r2.1.map Nd.cv)),(300003,.mp (c2.vr.map vrv)),(300002,.mrow 207 2 (c2.ps.map psv))]:=by simp only [O5,mS]
  rw [sU] at jV;obtain ⟨y,hy⟩:=P6 (ns:=r2.1) (n:=r2.2) (by omega);have eM:=Nd.map_at hy;have fZ:(r2.1.map Nd.cv).length=r2.1.length:=length_map ..;have eX:nS r2.1 r2.2=y.us:=by unfold nS;rw [r7 hy]
  have lY:=eU r2.2;rw [eX] at lY dS;refine aC rfl (fun hc=>?_) (fun hc=>?_)
  case refine_2 =>
   have:¬ ((fr+i:Nat):Int)<to:=by simpa using hc
   omega
  refine aK ?_;refine aS (aB (aD (by kernel_rfl) (by kernel_rfl) ?_));refine nc zl (nc z7 (nc zg (nc z8 (nc zl (nc zl (nc (zbh ([(400001,.mrow 194 5 (r2.1.map Nd.cv))]) (C:=jV) (hnb:=i0 (by first | rfl | kernel_rfl))) (nc (zO (k:=r2.2)) (nc z5 (nc (zP (G:=eM)) (nc zA (nc (zO (k:=r2.2)) (nc z5 (nc (zR (F:=eM)) ?_)))))))))))));refine ⟨by kernel_rfl,?_⟩;refine aR ?_;refine nc zl (nc zA (nc ze ?_));refine ⟨m,(0,AV.bp 350001 0 [])::(3,.own (n7 (hs++[n])) 200025)::(200025,.tok 3 1)::(4,.val (.i (n:Int)))::(6,.val (.i (to:Int)))::(7,.val (.i ((fr+(i+1):Nat):Int)))::O5 ⟨setUs r2.1 r2.2 (y.us+1),c2.vr,c2.ps⟩,by omega,⟨i+1,setUs r2.1 r2.2 (y.us+1),by omega,by rw [<-Nat.add_assoc];exact dS,wK.us _ _,by rw [F2];omega,(eU.set (by omega)).mono (by omega),rfl⟩,a7 ⟨rfl,rfl,rfl,rfl,rfl,rfl,rfl,?_,rfl,rfl,?_,rfl,rfl,trivial⟩⟩
  ·show _=some (AV.sl 400001 0 (setUs r2.1 r2.2 (y.us+1)).length 5);rw [F2,mS];rfl
  ·show _=some (AV.mrow 194 5 ((setUs r2.1 r2.2 (y.us+1)).map Nd.cv));rw [a6w hy];rfl
theorem a6g {k:Nat} {vr ps}:∀ (l:List Nat) {ns ns':List Nd} {B:Int},a3B k l ns=some ns'->FitU ⟨ns,vr,ps⟩->(∀ p∈l,p<ns.length)->usB ns B->FitU ⟨ns',vr,ps⟩/\ns'.length=ns.length/\usB ns' (B+l.length)
 | [],ns,ns',B,e,h,_,hb=>by cases e;exact ⟨h,rfl,hb.mono (by simp)⟩
 | p::l,ns,ns',B,e,h,hl,hb=>by
  rw [a3B] at e;cases hd:n9 k ns p with
  | none=>rw [hd] at e;cases e
  | some r =>
   rw [hd] at e;simp only at e;obtain ⟨h1,h2,h3⟩:=h.head (hl p (by simp)) hd;have kW:=hb.head hd;have gV:=kW r.2;obtain ⟨g1,g2,g3⟩:=a6g l e (h1.us _ _) (fun q hq=>by rw [F2,h2];exact hl q (mem_cons_of_mem _ hq)) (kW.set (by omega));exact ⟨g1,by rw [g2,F2,h2],g3.mono (by simp only [length_cons];omega)⟩
theorem O0 {k:Nat}:∀ (j n:Nat) {c:Cl} {hs:List Nat} {q},E0 k j n c hs=some q->FitU c->usB c.ns ((n:Int)*1000)->n<=1000->(∀ h∈hs,h<c.ns.length)->hs.length<=n->FitU q.1/\usB q.1.ns 1000000/\(∀ h∈q.2,h<q.1.ns.length)/\q.2.length<=1000
 | 0,_,_,_,_,e,_,_,_,_,_=>by cases e
 | j+1,n,c,hs,q,e,hF,hu,hn,hh,hl=>by
  have uW:c.ns.length<=1000:=Nat.le_trans (C4 _) hF.big;rw [E0] at e;split at e
  ·rename_i kA;cases hd:n9 k c.ns n with
   | none=>rw [hd] at e;cases e
   | some r =>
    rw [hd] at e;simp only at e;obtain ⟨h1,h2,h3⟩:=FitU.head (vr:=c.vr) (ps:=c.ps) hF kA hd;have dS:=hu.head hd;split at e
    ·exact O0 j (n+1) e h1 (dS.mono (by omega)) (by omega) (fun h hm=>by show h<r.1.length;rw [h2];exact hh h hm) (by omega)
    ·have bS:n<r.1.length:=by omega
     obtain ⟨c1,gO⟩:∃ c1:Cl,c1=⟨r.1,c.vr,c.ps⟩:=⟨_,rfl⟩
     rw [<-gO] at e h1;have bS:n<c1.ns.length:=by rw [gO];exact bS
     have hp:=h1.parts bS;have hu2:usB c1.ns ((n:Int)*1000):=by rw [gO];exact dS
     have cS:=hu2.parts (by omega) n;have cG:(pC c1 n).1.ns.length<=1000:=Nat.le_trans (C4 _) hp.big;have yM:=a0p h1.kid bS;cases fV:a3B k (List.range' (pC c1 n).2.1 ((pC c1 n).2.2-(pC c1 n).2.1)) (pC c1 n).1.ns with
     | none=>rw [fV] at e;cases e
     | some ns =>
      rw [fV] at e;simp only at e;obtain ⟨g1,g2,g3⟩:=a6g (vr:=(pC c1 n).1.vr) (ps:=(pC c1 n).1.ps) _ fV hp (fun p dZ=>by rw [List.mem_range'_1] at dZ;omega) cS;rw [List.length_range'] at g3;have dX:c1.ns.length<=(pC c1 n).1.ns.length:=B1;refine O0 j (n+1) e g1 (g3.mono (by omega)) (by omega) (fun h hm=>?_) (by rw [length_append];simp only [length_cons,length_nil];omega);show h<ns.length;rw [g2];have:c1.ns.length=c.ns.length:=by rw [gO];exact h2
      rcases mem_append.1 hm with hm | hm
      ·have:=hh h hm;omega
      ·rw [mem_singleton] at hm;omega
  ·cases e;exact ⟨hF,hu.mono (by omega),hh,by show hs.length<=1000;omega⟩
theorem N2 {k:Nat} {vr ps}:∀ (l:List Nat) {ns:List Nd} {o:List Nat} {q} {B:Int},V4 k l ns o=some q->FitU ⟨ns,vr,ps⟩->(∀ p∈l,p<ns.length)->usB ns B->(∀ h∈o,h<ns.length)->FitU ⟨q.1,vr,ps⟩/\q.1.length=ns.length/\usB q.1 (B+l.length)/\o.length<=q.2.length/\∀ h∈q.2,h<ns.length
 | [],ns,o,q,B,e,h,_,hb,ho=>by cases e;exact ⟨h,rfl,hb.mono (by simp),Nat.le_refl _,ho⟩
 | p::l,ns,o,q,B,e,h,hl,hb,ho=>by
  rw [V4] at e;cases hd:n9 k ns p with
  | none=>rw [hd] at e;cases e
  | some r =>
   rw [hd] at e;simp only at e;obtain ⟨h1,h2,h3⟩:=h.head (hl p (by simp)) hd;have kW:=hb.head hd;have gV:=kW r.2;obtain ⟨g1,g2,g3,g4,g5⟩:=N2 l e (h1.us _ _) (fun q hq=>by rw [F2,h2];exact hl q (mem_cons_of_mem _ hq)) (kW.set (by omega)) (fun x hx=>by
    rw [F2,h2];split at hx
    ·rcases mem_append.1 hx with hx | hx
     ·exact ho x hx
     ·rw [mem_singleton] at hx;omega
    ·exact ho x hx)
   refine ⟨g1,by rw [g2,F2,h2],g3.mono (by simp only [length_cons];omega),?_,fun x hx=>by have:=g5 x hx;rw [F2,h2] at this;exact this⟩;split at g4
   ·rw [length_append] at g4;omega
   ·exact g4
theorem a1K {k:Nat}:∀ (j i:Nat) {c:Cl} {o:List Nat} {q},a2n k j i c o=some q->FitU c->(∀ h∈o,h<c.ns.length)->∀ {B:Int},0<=B->usB c.ns B->o.length<=q.2.length
 | 0,_,_,_,_,e,_,_,_,_,_=>by cases e
 | j+1,i,c,o,q,e,hF,ho,B,hB,hu=>by
  rw [a2n] at e;cases hi:o[i]? with
  | none=>rw [hi] at e;cases e;exact Nat.le_refl _
  | some g =>
   rw [hi] at e;simp only at e;have hg:=ho g (mem_of_getElem? hi);have hp:=hF.parts hg;have yM:=a0p hF.kid hg;cases hd:V4 k (List.range' (pC c g).2.1 ((pC c g).2.2-(pC c g).2.1)) (pC c g).1.ns o with
   | none=>rw [hd] at e;cases e
   | some qd =>
    rw [hd] at e;simp only at e;have dX:c.ns.length<=(pC c g).1.ns.length:=B1;obtain ⟨g1,g2,g3,g4,g5⟩:=N2 (vr:=(pC c g).1.vr) (ps:=(pC c g).1.ps) _ hd hp (fun p dZ=>by rw [List.mem_range'_1] at dZ;omega) (hu.parts hB g) (fun x hx=>by have:=ho x hx;omega);have:=a1K j (i+1) e g1 (fun x hx=>by show x<qd.1.length;rw [g2];exact g5 x hx) (by omega) g3;omega
theorem b3b {l:List Nat} {i n:Nat} (h:l[i]?=some n):(l.map fun n:Nat=>CV.i (n:Int))[i]?=some (.i (n:Int)):=by rw [getElem?_map,h];rfl
abbrev us0 (ns:List Nd) (n:Nat):Bool:=decide (nS ns n=0)
set_option maxHeartbeats 16000000 in
theorem b6o (k:Nat) (c0:Cl) (cn od:Cl×List Nat) (hq:E0 k k 0 c0 []=some cn) (ho:a2n k k 0 cn.1 (cn.2.filter fun n=>decide (nS cn.1.ns n=0))=some od) (yL:FitU c0) (eS:usB c0.ns 0) (sV:od.2.length<=1000):r5 Tryz.prog 123 (s9 c0) [.bp 350001 0 []] (.tup [n7 od.2,.b (decide ((od.2.length:Int)=cn.2.length))]) (s9 od.1):=by
 obtain ⟨fL,dS,qA,hhl⟩:=O0 k 0 hq yL (by simpa using eS) (by omega) (fun h hm=>by cases hm) (Nat.le_refl _);have jW:=b1z k k c0 cn hq yL eS;obtain ⟨c,hc⟩:∃ c,c=cn.1:=⟨_,rfl⟩
 obtain ⟨hs,vV⟩:∃ hs,hs=cn.2:=⟨_,rfl⟩
 rw [<-hc] at ho fL dS qA jW;rw [<-vV] at ho qA hhl jW |-;have hl:c.ns.length<=1000:=Nat.le_trans (C4 _) fL.big;have fZ:(c.ns.map Nd.cv).length=c.ns.length:=length_map ..;have yA:=Q4 hs;refine l6 Tryz.func123 Tryz.ntmps123 rfl rfl rfl rfl rfl rfl ?_;intro w U hU;refine aS (aR ?_);refine nc ze (nc ze ?_);refine aS (aR ?_);refine nc zl (nc (zW (z:=jW) (G:=i0 (by first | rfl | kernel_rfl))) (nc ze ?_));refine aS (aR ?_);refine nc ze ?_;refine aS (aS (aR ?_));refine nc zl (nc zo (nc zl ?_));refine aB (n5 hs.length (fun i=>(0,AV.bp 350001 0 [])::(4,.val (n7 hs))::(5,.own (n7 ((hs.take i).filter (us0 c.ns))) 200033)::(200033,.tok 3 1)::(15,.val (n7 hs))::(16,.val (.i (hs.map fun n:Nat=>CV.i (n:Int)).length))::(17,.val (.i i))::s9 c) ((R7 5 200033 3 1 rfl rfl rfl rfl rfl rfl (by kernel_rfl)).trans (a7 ⟨rfl,rfl,rfl,rfl,rfl,rfl,rfl,rfl,rfl,rfl,rfl,rfl,rfl,rfl,trivial⟩)) ?_);intro i hi;refine aS (aR ?_);refine nc zi ?_;refine aS (aC rfl (fun kA=>?_) (fun kA=>?_))
 ·have dJ:i<hs.length:=by simpa using kA
  obtain ⟨n,hn⟩:∃ n,hs[i]?=some n:=⟨hs[i],getElem?_eq_getElem dJ⟩
  have gP:=b3b hn;have sD:=qA n (mem_of_getElem? hn);obtain ⟨x,hx⟩:=P6 sD;have kS:=Nd.map_at hx;have eV:nS c.ns n=x.us:=by unfold nS;rw [r7 hx]
  have dK:(hs.take (i+1)).filter (us0 c.ns)=(hs.take i).filter (us0 c.ns)++(if nS c.ns n=0 then [n] else []):=by
   rw [List.take_add_one,hn,List.filter_append];congr 1;show List.filter (us0 c.ns) [n]=_;unfold us0;by_cases h0:nS c.ns n=0
   ·simp [h0]
   ·simp [h0]
  have yB:=Q4 ((hs.take i).filter (us0 c.ns));have hfl:((hs.take i).filter (us0 c.ns)).length<=1000:=Nat.le_trans (List.length_filter_le _ _) (by rw [List.length_take];omega);refine aK ?_;refine aS (aB (aS (aR ?_)));refine nc (zt (j:=i) (H:=gP) (hz:=yA)) (nc zu (nc ze ?_));refine aS (aR ?_);refine nc zl (nc z7 (nc zg (nc z8 (nc zl (nc (zO (k:=n)) (nc z5 (nc (zP (G:=kS)) (nc zD ?_))))))));refine AWp.wk (a7 (s':=(0,AV.bp 350001 0 [])::(4,.val (n7 hs))::(5,.own (n7 ((hs.take i).filter (us0 c.ns))) 200033)::(200033,.tok 3 1)::(7,.val (.i (n:Int)))::(29,.val (.b (decide (x.us=0))))::(15,.val (n7 hs))::(16,.val (.i (hs.map fun n:Nat=>CV.i (n:Int)).length))::(17,.val (.i i))::s9 c) ⟨rfl,rfl,rfl,rfl,rfl,rfl,rfl,rfl,rfl,rfl,rfl,rfl,rfl,rfl,rfl,rfl,trivial⟩) ?_;refine aC rfl (fun h0=>?_) (fun h0=>?_)
  ·have h0:x.us=0:=by simpa using h0
   rw [eV,if_pos h0] at dK;refine aR ?_;refine nc zl (nc zl (nc zy (ne zz (nc ze ?_))));refine aR ?_;refine nc zA (nc zl ?_);refine ⟨dJ,Wk.trans (a7 (s':=(0,AV.bp 350001 0 [])::(4,.val (n7 hs))::(5,.own (n7 ((hs.take (i+1)).filter (us0 c.ns))) 300033)::(300033,.tok 3 1)::(15,.val (n7 hs))::(16,.val (.i (hs.map fun n:Nat=>CV.i (n:Int)).length))::(17,.val (.i ((i+1:Nat):Int)))::s9 c) ⟨rfl,rfl,?_,rfl,rfl,rfl,rfl,rfl,rfl,rfl,rfl,rfl,rfl,rfl,trivial⟩) (B2 300033 200033 rfl rfl (by kernel_rfl) (by kernel_rfl))⟩;rw [dK];show _=some (AV.own (.lst (((hs.take i).filter (us0 c.ns)++[n]).map fun n:Nat=>CV.i (n:Int))) 300033);rw [map_append];rfl
  ·have h0:¬ x.us=0:=by simpa using h0
   rw [eV,if_neg h0,List.append_nil] at dK;refine aK ?_;refine aR ?_;refine nc zA (nc zl ?_);refine ⟨dJ,?_⟩;show Wk _ _ _ _ (_::_::(5,.own (n7 ((hs.take (i+1)).filter (us0 c.ns))) 200033)::_::_::_::_::s9 c);rw [dK];exact a7 ⟨rfl,rfl,rfl,rfl,rfl,rfl,rfl,rfl,rfl,rfl,rfl,rfl,rfl,rfl,trivial⟩
 have dJ:i=hs.length:=by
  have:¬ i<hs.length:=by simpa using kA
  omega
 subst dJ;rw [List.take_length];refine aE ?_;refine aS (aS (aR ?_));refine nc ze ?_;have iZ:∀ h∈hs.filter (us0 c.ns),h<c.ns.length:=fun h hm=>qA h (List.mem_filter.1 hm).1;refine aB (t9 (fun j s=>∃ i c o,a2n k j i c o=some od/\FitU c/\usB c.ns (1000000+(i:Int)*1000)/\(∀ h∈o,h<c.ns.length)/\i<=o.length/\s=(0,AV.bp 350001 0 [])::(4,.val (n7 hs))::(5,.own (n7 o) 200082)::(200082,.tok 3 1)::(8,.val (.i (i:Int)))::s9 c) (n:=k) (s':=(0,AV.bp 350001 0 [])::(4,.val (n7 hs))::(5,.own (n7 (hs.filter (us0 c.ns))) 200082)::(200082,.tok 3 1)::(8,.val (.i ((0:Nat):Int)))::s9 c) ((a7 (s':=(0,AV.bp 350001 0 [])::(4,.val (n7 hs))::(5,.own (n7 (hs.filter (us0 c.ns))) 200033)::(200033,.tok 3 1)::(8,.val (.i ((0:Nat):Int)))::s9 c) ⟨rfl,rfl,rfl,rfl,rfl,rfl,rfl,rfl,rfl,rfl,rfl,rfl,trivial⟩).trans (B2 200033 200082 rfl rfl (by kernel_rfl) (by kernel_rfl))) ⟨0,c,hs.filter (us0 c.ns),ho,fL,dS.mono (by omega),iZ,Nat.zero_le _,rfl⟩ ?_);clear ho iZ fZ hl jW fL dS qA;rintro j s ⟨i,c,o,ho,hF,hu,hh,hio,rfl⟩;have hl:c.ns.length<=1000:=Nat.le_trans (C4 _) hF.big;have hol1:o.length<=od.2.length:=a1K j i ho hF hh (by omega) hu;have hos:=Q4 o;cases j with
 | zero=>cases ho
 | succ j =>
 rw [a2n] at ho;refine aS (aS (aR ?_));refine nc zl (nc zl (nc zo (nc zi ?_)));cases tU:o[i]? with
 | none =>
  rw [tU] at ho;simp only at ho;have ho:=Option.some.inj ho;subst ho;have dJ:o.length<=i:=List.getElem?_eq_none_iff.1 tU;refine aC rfl (fun hc=>?_) (fun hc=>?_)
  ·exfalso;have:i<o.length:=by simpa using hc
   omega
  refine aE ?_;refine aS (aR ?_);refine nc zl (nc zl (nc zo (nc zl (nc zo (nc zD (nc ze (nc ze ?_)))))));refine aT ⟨.inr rfl,_,Wk.refl _,?_,rfl,rfl,rfl,rfl,rfl,rfl,rfl,trivial⟩;show some (AV.tup [n7 o,.b (decide (((o.map fun n:Nat=>CV.i (n:Int)).length:Int)=((hs.map fun n:Nat=>CV.i (n:Int)).length:Nat)))])=_;rw [length_map,length_map]
 | some g =>
 rw [tU] at ho;simp only at ho;have hoi':=b3b tU;have dJ:i<o.length:=(List.getElem?_eq_some_iff.1 tU).1;have yN:=hh g (mem_of_getElem? tU);refine aC rfl (fun hc=>?_) (fun hc=>?_)
 case refine_2 =>
  have:¬ i<o.length:=by simpa using hc
  omega
 refine aK ?_;have jU:=hF.parts yN;have cS:=hu.parts (by omega) g;have cG:(pC c g).1.ns.length<=1000:=Nat.le_trans (C4 _) jU.big;have mG:=M6 c g yN hF.trm (by omega) (hF.kid.fi yN (by omega));obtain ⟨c2,gY⟩:∃ c2,c2=(pC c g).1:=⟨_,rfl⟩
 obtain ⟨fr,jD⟩:∃ x,x=(pC c g).2.1:=⟨_,rfl⟩
 obtain ⟨to,iR⟩:∃ x,x=(pC c g).2.2:=⟨_,rfl⟩
 have sS:fr<=to:=by rw [jD,iR];exact Q2.1
 have wJ:to<=c2.ns.length:=by rw [iR,gY];exact a0p hF.kid yN
 have dX:c.ns.length<=c2.ns.length:=by rw [gY];exact B1
 rw [<-gY] at ho jU cS cG mG;rw [<-jD,<-iR] at ho mG;refine aS (aB (aS (aR ?_)));refine nc zl (nc zl (nc zl (nc (zt (j:=i) (H:=hoi') (hz:=hos)) (nc zu (nc (zW (z:=mG) (G:=i0 (by first | rfl | kernel_rfl))) (nc zl (nc zE (nc zE (nc ze (nc ze ?_))))))))));refine aS (aR ?_);refine nc zl (nc ze ?_);cases eB:V4 k (List.range' fr (to-fr)) c2.ns o with
 | none=>rw [eB] at ho;cases ho
 | some qd =>
 rw [eB] at ho;simp only at ho;have hqd:qd.2.length<=od.2.length:=by obtain ⟨g1,g2,g3,g4,g5⟩:=N2 (vr:=c2.vr) (ps:=c2.ps) _ eB jU (fun p dZ=>by rw [List.mem_range'_1] at dZ;omega) cS (fun x hx=>by have:=hh x hx;omega);exact a1K j (i+1) ho g1 (fun x hx=>by show x<qd.1.length;rw [g2];exact g5 x hx) (by omega) g3
 refine aB (t9 (fun m s=>∃ e ns1 o1,e+m=to-fr/\V4 k (List.range' (fr+e) m) ns1 o1=some qd/\FitU ⟨ns1,c2.vr,c2.ps⟩/\ns1.length=c2.ns.length/\usB ns1 (1000000+(i:Int)*1000+e)/\(∀ h∈o1,h<c2.ns.length)/\i+1<=o1.length/\s=(0,AV.bp 350001 0 [])::(4,.val (n7 hs))::(5,.own (n7 o1) 200082)::(200082,.tok 3 1)::(8,.val (.i (i:Int)))::(10,.val (.i (to:Int)))::(11,.val (.i ((fr+e:Nat):Int)))::O5 ⟨ns1,c2.vr,c2.ps⟩) (n:=to-fr) (s':=(0,AV.bp 350001 0 [])::(4,.val (n7 hs))::(5,.own (n7 o) 200082)::(200082,.tok 3 1)::(8,.val (.i (i:Int)))::(10,.val (.i (to:Int)))::(11,.val (.i ((fr+0:Nat):Int)))::O5 ⟨c2.ns,c2.vr,c2.ps⟩) ((a7 (s':=(0,AV.bp 350001 0 [])::(4,.val (n7 hs))::(5,.own (n7 o) 200082)::(200082,.tok 3 1)::(8,.val (.i (i:Int)))::(10,.val (.i (to:Int)))::(11,.val (.i ((fr+0:Nat):Int)))::s9 c2) ⟨rfl,rfl,rfl,rfl,rfl,rfl,rfl,rfl,rfl,rfl,rfl,rfl,rfl,rfl,trivial⟩).trans (x7 300001 400001 rfl rfl (b7G hU (by kernel_rfl)) (by kernel_rfl) (by kernel_rfl) (by kernel_rfl))) ⟨0,c2.ns,o,by omega,eB,jU,rfl,cS.mono (by omega),fun h hm=>by have:=hh h hm;omega,by omega,rfl⟩ ?_);rintro m s ⟨e,ns1,o1,hem,dG,jE,iC,dV,tL,cN,rfl⟩;have ho1l:o1.length<=qd.2.length:=(N2 _ dG jE (fun p dZ=>by rw [List.mem_range'_1] at dZ;omega) dV (fun x hx=>by rw [iC];exact tL x hx)).2.2.2.1;have ho1s:=Q4 o1;refine aS (aS (aR ?_));refine nc zl (nc zl (nc zi ?_));cases m with
 | zero =>
  have bZ:some (ns1,o1)=some qd:=dG;have bZ:=Option.some.inj bZ;subst bZ;refine aC rfl (fun hc=>?_) (fun hc=>?_)
  ·exfalso;have:((fr+e:Nat):Int)<to:=by simpa using hc
   omega
  refine aE ?_;refine aR ?_;refine nc zl (nc zA (nc ze ?_));refine ⟨j,(0,AV.bp 350001 0 [])::(4,.val (n7 hs))::(5,.own (n7 o1) 200082)::(200082,.tok 3 1)::(8,.val (.i ((i+1:Nat):Int)))::s9 ⟨ns1,c2.vr,c2.ps⟩,by omega,⟨i+1,⟨ns1,c2.vr,c2.ps⟩,o1,ho,jE,dV.mono (by omega),fun h hm=>by show h<ns1.length;rw [iC];exact tL h hm,cN,rfl⟩,(a7 (s':=(0,AV.bp 350001 0 [])::(4,.val (n7 hs))::(5,.own (n7 o1) 200082)::(200082,.tok 3 1)::(8,.val (.i ((i+1:Nat):Int)))::O5 ⟨ns1,c2.vr,c2.ps⟩) ⟨rfl,rfl,rfl,rfl,rfl,rfl,rfl,rfl,rfl,rfl,rfl,rfl,trivial⟩).trans (x7 400001 300001 rfl rfl (a5I U (by decide)) (by kernel_rfl) (by kernel_rfl) (by kernel_rfl))⟩
 | succ m =>
  have fX:fr+e<ns1.length:=by omega
  rw [List.range'_succ,V4] at dG;cases bZ:n9 k ns1 (fr+e) with
  | none=>rw [bZ] at dG;cases dG
  | some r2 =>
  rw [bZ] at dG;simp only at dG;obtain ⟨wK,mS,hr4⟩:=FitU.head jE fX bZ;have eU:=dV.head bZ;have jV:=K7 c2.vr c2.ps k ns1 (fr+e) r2 bZ jE.up fX (by omega);obtain ⟨y,hy⟩:=P6 (ns:=r2.1) (n:=r2.2) (by omega);have eM:=Nd.map_at hy;have fZ:(r2.1.map Nd.cv).length=r2.1.length:=length_map ..;have eX:nS r2.1 r2.2=y.us:=by unfold nS;rw [r7 hy]
  have lY:=eU r2.2;rw [eX] at lY dG;refine aC rfl (fun hc=>?_) (fun hc=>?_)
  case refine_2 =>
   have:¬ ((fr+e:Nat):Int)<to:=by simpa using hc
   omega
  refine aK ?_;refine aS (aB (aS (aR ?_)));refine nc zl (nc zl (nc (zW (z:=jV) (G:=i0 (by first | rfl | kernel_rfl))) (nc ze ?_)));refine aS (aR ?_);refine nc zl (nc z7 (nc zg (nc z8 (nc zl (nc (zO (k:=r2.2)) (nc z5 (nc (zP (G:=eM)) (nc zB (nc (zO (k:=r2.2)) (nc z5 (nc (zR (F:=eM)) ?_)))))))))));obtain ⟨ns2,bR⟩:∃ ns2,ns2=setUs r2.1 r2.2 (y.us-1):=⟨_,rfl⟩
  have lM:ns2.map Nd.cv=(r2.1.map Nd.cv).set r2.2 (Nd.cw { y with us:=y.us-1 }):=by rw [bR];exact a6w hy
  have kL:ns2.length=r2.1.length:=by rw [bR,F2]
  have iE:ns2[r2.2]?=some { y with us:=y.us-1 }:=by rw [bR];exact b6n hy
  have sJ:=Nd.map_at iE;have hlm2:(ns2.map Nd.cv).length=ns2.length:=length_map ..;have hF5:FitU ⟨ns2,c2.vr,c2.ps⟩:=by rw [bR];exact wK.us _ _
  have sW:usB ns2 (1000000+(i:Int)*1000+e+1):=by rw [bR];exact eU.set (by omega)
  rw [<-bR] at dG;refine AWp.wk (a7 (s':=(0,AV.bp 350001 0 [])::(4,.val (n7 hs))::(5,.own (n7 o1) 200082)::(200082,.tok 3 1)::(8,.val (.i (i:Int)))::(10,.val (.i (to:Int)))::(11,.val (.i ((fr+e:Nat):Int)))::(12,.val (.i (r2.2:Int)))::O5 ⟨ns2,c2.vr,c2.ps⟩) ⟨rfl,rfl,rfl,rfl,rfl,rfl,rfl,rfl,rfl,?_,rfl,rfl,?_,rfl,rfl,trivial⟩) ?_
  ·show _=some (AV.sl 400001 0 ns2.length 5);rw [kL];rfl
  ·show _=some (AV.mrow 194 5 (ns2.map Nd.cv));rw [lM];rfl
  refine aS (aR ?_);refine nc zl (nc z7 (nc zg (nc z8 (nc zl (nc (zO (k:=r2.2)) (nc z5 (nc (zP (G:=sJ)) (nc zD ?_))))))));refine AWp.wk (a7 (s':=(0,AV.bp 350001 0 [])::(4,.val (n7 hs))::(5,.own (n7 o1) 200082)::(200082,.tok 3 1)::(8,.val (.i (i:Int)))::(10,.val (.i (to:Int)))::(11,.val (.i ((fr+e:Nat):Int)))::(12,.val (.i (r2.2:Int)))::(78,.val (.b (decide (y.us-1=0))))::O5 ⟨ns2,c2.vr,c2.ps⟩) ⟨rfl,rfl,rfl,rfl,rfl,rfl,rfl,rfl,rfl,rfl,rfl,rfl,rfl,rfl,rfl,rfl,trivial⟩) ?_;refine aC rfl (fun h0=>?_) (fun h0=>?_)
  ·have h0:y.us-1=0:=by simpa using h0
   rw [if_pos h0] at dG;refine aR ?_;refine nc zl (nc zl (nc zy (ne zz (nc ze ?_))));refine aR ?_;refine nc zl (nc zA (nc ze ?_));refine ⟨m,(0,AV.bp 350001 0 [])::(4,.val (n7 hs))::(5,.own (n7 (o1++[r2.2])) 200082)::(200082,.tok 3 1)::(8,.val (.i (i:Int)))::(10,.val (.i (to:Int)))::(11,.val (.i ((fr+(e+1):Nat):Int)))::O5 ⟨ns2,c2.vr,c2.ps⟩,by omega,⟨e+1,ns2,o1++[r2.2],by omega,by rw [<-Nat.add_assoc];exact dG,hF5,by omega,sW.mono (by omega),fun h hm=>by
    rcases mem_append.1 hm with hm | hm
    ·exact tL h hm
    ·rw [mem_singleton] at hm;omega,by rw [length_append];omega,rfl⟩,(a7 (s':=(0,AV.bp 350001 0 [])::(4,.val (n7 hs))::(5,.own (n7 (o1++[r2.2])) 300082)::(300082,.tok 3 1)::(8,.val (.i (i:Int)))::(10,.val (.i (to:Int)))::(11,.val (.i ((fr+(e+1):Nat):Int)))::O5 ⟨ns2,c2.vr,c2.ps⟩) ⟨rfl,rfl,?_,rfl,rfl,rfl,rfl,rfl,rfl,rfl,rfl,rfl,rfl,rfl,trivial⟩).trans (B2 300082 200082 rfl rfl (by kernel_rfl) (by kernel_rfl))⟩
   show _=some (AV.own (.lst ((o1++[r2.2]).map fun n:Nat=>CV.i (n:Int))) 300082);rw [map_append];rfl
  ·have h0:¬ y.us-1=0:=by simpa using h0
   rw [if_neg h0] at dG;refine aK ?_;refine aR ?_;refine nc zl (nc zA (nc ze ?_));exact ⟨m,(0,AV.bp 350001 0 [])::(4,.val (n7 hs))::(5,.own (n7 o1) 200082)::(200082,.tok 3 1)::(8,.val (.i (i:Int)))::(10,.val (.i (to:Int)))::(11,.val (.i ((fr+(e+1):Nat):Int)))::O5 ⟨ns2,c2.vr,c2.ps⟩,by omega,⟨e+1,ns2,o1,by omega,by rw [<-Nat.add_assoc];exact dG,hF5,by omega,sW.mono (by omega),tL,cN,rfl⟩,a7 ⟨rfl,rfl,rfl,rfl,rfl,rfl,rfl,rfl,rfl,rfl,rfl,rfl,rfl,rfl,trivial⟩⟩
theorem a1t:∀ (N:Nat) {l:List Nat},l.Nodup->(∀ x∈l,x<N)->l.length<=N
 | 0,l,_,h=>by
  cases l with
  | nil=>simp
  | cons a l=>exact absurd (h a (by simp)) (by omega)
 | N+1,l,hn,h=>by
  have h1:(l.filter fun x=>decide (x≠N)).length<=N:=a1t N (List.Pairwise.filter _ hn) fun x hx=>by
   obtain ⟨h2,h3⟩:=List.mem_filter.1 hx;have:=h x h2;have:x≠N:=by simpa using h3
   omega
  have h2:l.length<=(l.filter fun x=>decide (x≠N)).length+1:=by
   clear h h1
   induction l with
   | nil=>simp
   | cons a l ih =>
    rw [List.nodup_cons] at hn;by_cases e:a=N
    ·subst e;rw [List.filter_cons,if_neg (by simp),length_cons];have:l.filter (fun x=>decide (x≠a))=l:=List.filter_eq_self.2 fun x hx=>by simp only [ne_eq,decide_eq_true_eq];exact fun e=>hn.1 (e▸hx)
     rw [this];omega
    ·rw [List.filter_cons,if_pos (by simpa using e),length_cons,length_cons];have:=ih hn.2;omega
  omega
theorem b0v:∀ (k:Nat) {c:Cl} {q} {E} {M:Nat},O7 k c=some q->Inv c E M->q.2=true->Inv q.1 E M/\q.1.ps=[]
 | 0,_,_,_,_,e,_,_=>by cases e
 | k+1,c,q,E,M,e,h,hq=>by
  rw [O7] at e;cases hg:c.ps.getLast? with
  | none=>rw [hg] at e;cases e;exact ⟨h,List.getLast?_eq_none_iff.1 hg⟩
  | some p =>
   rw [hg] at e;simp only at e;cases hj:D6 k ⟨c.ns,c.vr,c.ps.dropLast⟩ p.1 p.2 with
   | none=>rw [hj] at e;cases e
   | some qq =>
    rw [hj] at e;simp only at e;split at e
    ·rename_i h2;exact b0v k e ((h.join hg hj).2 h2) hq
    ·rename_i h2;cases e;exact absurd hq h2
theorem a0R {k:Nat}:∀ (l:List (Tm×Tm)) {c:Cl} {q} {E},s6 k l c=some q->Inv c E 2000001->c.ps=[]->(∀ p∈l,(p.1.rng/\p.1.ok)/\(p.2.rng/\p.2.ok))->pw c.ns+b1k l<=1000->q.2=true->∃ E',Inv q.1 E' 2000001
 | [],c,q,E,e,h,_,_,_,_=>by cases e;exact ⟨E,h⟩
 | p::l,c,q,E,e,h,bE,hl,hb,hq=>by
  have hb:pw c.ns+(p.1.size+p.2.size+b1k l)<=1000:=hb;rw [s6] at e;cases hr:O7 k (openC c p) with
  | none=>rw [hr] at e;cases e
  | some qr =>
   rw [hr] at e;simp only at e;obtain ⟨h1,h2⟩:=hl p (by simp);have hI:=h.opn bE h1 h2 (by omega);split at e
   ·rename_i h3;obtain ⟨g1,g2⟩:=b0v k hr hI h3;have hp:=b2e k hr;rw [a7p] at hp;exact a0R l e g1 g2 (fun x hx=>hl x (mem_cons_of_mem _ hx)) (by omega) hq
   ·rename_i h3;cases e;exact absurd hq h3
theorem a9X {k:Nat}:∀ (j i:Nat) {c:Cl} {o:List Nat} {q},a2n k j i c o=some q->FitU c->(∀ h∈o,h<c.ns.length)->∀ {B:Int},0<=B->usB c.ns B->FitU q.1
 | 0,_,_,_,_,e,_,_,_,_,_=>by cases e
 | j+1,i,c,o,q,e,hF,ho,B,hB,hu=>by
  rw [a2n] at e;cases hi:o[i]? with
  | none=>rw [hi] at e;cases e;exact hF
  | some g =>
   rw [hi] at e;simp only at e;have hg:=ho g (mem_of_getElem? hi);have hp:=hF.parts hg;have yM:=a0p hF.kid hg;cases hd:V4 k (List.range' (pC c g).2.1 ((pC c g).2.2-(pC c g).2.1)) (pC c g).1.ns o with
   | none=>rw [hd] at e;cases e
   | some qd =>
    rw [hd] at e;simp only at e;have dX:c.ns.length<=(pC c g).1.ns.length:=B1;obtain ⟨g1,g2,g3,g4,g5⟩:=N2 (vr:=(pC c g).1.vr) (ps:=(pC c g).1.ps) _ hd hp (fun p dZ=>by rw [List.mem_range'_1] at dZ;omega) (hu.parts hB g) (fun x hx=>by have:=ho x hx;omega);exact a9X j (i+1) e g1 (fun x hx=>by show x<qd.1.length;rw [g2];exact g5 x hx) (by omega) g3
section
open Go.RowKit Go.MapKept Go.Shelf
attribute [local go_sem] Oper.semAt_some
def c3g (x:Nat×Int):List CV:=[.i (x.1:Int),.i x.2]
def N9 (L:List Int):List (Nat×Int):=(List.range L.length).reverse.map fun i=>(i,L.getD i 0)
theorem a1Y (L:List Int):(N9 L).length=L.length:=by simp [N9]
theorem a4I {L:List Int} {k:Nat} (h:k<L.length):(N9 L)[k]?=some (L.length-1-k,L.getD (L.length-1-k) 0):=by
 unfold N9;rw [getElem?_map,List.getElem?_reverse (by simpa using h)];simp only [List.length_range];rw [List.getElem?_range (by omega)];rfl
set_option maxRecDepth 100000 in
set_option maxHeartbeats 2000000 in
theorem b9O (l Bb ob:Nat) (L:List Int) (R:Nat->Nat->Prop) (w:World) (ao:Option Addr) (cap:Nat) (dQ:w.cell? ⟨Bb,ob,none⟩=some (.slice ao L.length cap)) (qD:R Bb ob) (bI:At R w ao (L.map (Value.int .i64))) (hl:L.length<=1000000000)
  (J:List (Nat×Int)->World->Prop) (hJ:∀ pre A B,J pre A->Below A.heap.size A B->J pre B)
  (hY:∀ pre (x:Nat×Int) V,J pre V->(N9 L)[pre.length]?=some x->YieldAt Fence.wide 1 Tryz.prog l #[.int .i64 (x.1:Int),.int .i64 x.2] V fun e V'=>e = .returned (.bool true)/\J (pre++[x]) V'/\KpX w.heap.size (fun b=>¬ ∃ o,R b o) V V')
  (W:World) (hW:Below w.heap.size w W) (h0:J [] W) :
  CallsIn Fence.wide 2 Tryz.prog 181 #[.func (.yield l) #[] #[],.pointer (some ⟨Bb,ob,none⟩)] W fun e W'=>(∃ v,e = .returned v)/\∃ ys,ys=N9 L/\J ys W':=by
 have fN:∀ {V:World},KpX w.heap.size (fun b=>¬ ∃ o,R b o) w V->V.cell? ⟨Bb,ob,none⟩=some (.slice ao L.length cap)/\∀ i,i<L.length->∃ b off,ao=some ⟨b,off,none⟩/\V.cell? ⟨b,off+i,none⟩=some (.int .i64 (L.getD i 0)):=fun {V} hV=>by
  have kM:∀ b o u,R b o->w.cell? ⟨b,o,none⟩=some u->V.cell? ⟨b,o,none⟩=some u:=fun b o u hr hc=>by have hb:b<w.heap.size:=World.block_lt_of_cell? w _ hc;rw [World.cell?_of_block (w:=w) (hV b hb (fun hn=>hn ⟨o,hr⟩))];exact hc
  refine ⟨kM _ _ _ qD dQ,fun i hi=>?_⟩;rcases bI with h1 | ⟨b,off,h1,h2⟩
  ·have:=congrArg List.length h1;rw [length_map] at this;simp at this;subst this;simp at hi
  ·obtain ⟨h3,h4⟩:=h2 i (by simpa using hi);refine ⟨b,off,h1,kM _ _ _ h3 ?_⟩;rw [h4,getElem?_map,getElem?_eq_getElem hi,getD_eq_getElem?_getD,getElem?_eq_getElem hi];rfl
 have sX:KpX w.heap.size (fun b=>¬ ∃ o,R b o) w W:=fun b hb _=>hW.block b hb;obtain ⟨n,hn⟩:∃ n,n=L.length:=⟨_,rfl⟩
 have HN:Hid (n=L.length):=hn;have HC:Hid (∀ {V:World},KpX w.heap.size (fun b=>¬ ∃ o,R b o) w V->V.cell? ⟨Bb,ob,none⟩=some (.slice ao n cap)/\∀ i,i<n->∃ b off,ao=some ⟨b,off,none⟩/\V.cell? ⟨b,off+i,none⟩=some (.int .i64 (L.getD i 0))):=by rw [hn];exact fun {V} h=>fN h
 have cA:n<=1000000000:=by omega
 clear fN dQ bI hn hl qD;obtain ⟨lR,_⟩:=HC.out sX;refine callsIn_of_wp Tryz.func181 rfl trivial ?_ rfl;simp only [Tryz.ntmps181,List.size_toArray,length_cons,length_nil,Nat.reduceAdd,Nat.reduceSub,Array.replicate_succ,Array.replicate_zero,List.push_toArray,List.append_toArray,List.nil_append,cons_append]
 gi_wp2
 gi_loopw [3] (fun iv wr=>∃ (z:Int) (k:Nat),iv = .int .i64 z/\z=(n:Int)-1-k/\k<=n/\J ((N9 L).take k) wr/\KpX w.heap.size (fun b=>¬ ∃ o,R b o) w wr) (fun iv wr=>(intOf iv+1).toNat)
 case atStart=>exact ⟨_,0,rfl,by omega,by omega,by simpa using h0,sX⟩
 case round =>
  obtain ⟨z,k,rfl,hz,hk,oT,wL⟩:=hrel;clear lR h0 sX;obtain ⟨kW,gO⟩:=HC.out wL;by_cases oE:k=n
  ·have iU:z = -1:=by omega
   subst iU
   gi_wp2
   go_end0
   refine ⟨⟨_,rfl⟩,_,rfl,?_⟩;rw [oE,HN.out,<-a1Y,List.take_length] at oT;exact oT
  ·obtain ⟨j,hj⟩:∃ j:Nat,j=n-1-k:=⟨_,rfl⟩
   have hzj:z=(j:Int):=by omega
   have tV:j<n:=by omega
   subst hzj;obtain ⟨b,off,rfl,gY⟩:=gO j tV;have hx:(N9 L)[((N9 L).take k).length]?=some (j,L.getD j 0):=by
    have kF:k<L.length:=by have:=HN.out;omega
    rw [List.length_take,a1Y,Nat.min_eq_left (by omega),a4I kF,<-HN.out,<-hj]
   obtain ⟨fn,tmps,assign,body,hy,hR⟩:=hY _ _ _ oT hx;have HX:Hid (((N9 L).take k)++[(j,L.getD j 0)]=(N9 L).take (k+1)):=by
    have kF:k<L.length:=by have:=HN.out;omega
    show _=_;rw [List.take_add_one,a4I kF,<-HN.out,<-hj];rfl
   obtain ⟨v,hv⟩:∃ v,v=L.getD j 0:=⟨_,rfl⟩
   rw [<-hv] at gY hR;have HX2:=HX.out;rw [<-hv] at HX2;have HX3:Hid (((N9 L).take k)++[(j,v)]=(N9 L).take (k+1)):=HX2;clear HX HX2 hx gO;have hy:Sem.run Tryz.prog (Instr.yield l #[.int .i64 (j:Int),.int .i64 v]) wr = .ok (.round l fn tmps assign body) wr:=by rw [hv];exact hy
   clear hv;have HJ:Hid (j=n-1-k/\k<n):=⟨hj,by omega⟩
   clear hj hz oE hk
   gi_wp2
   refine hR.mono ?_;rintro e V3 ⟨rfl,pO,qP⟩
   gi_wp2
   go_roundw
   case rel=>exact ⟨_,k+1,rfl,by have:=HJ.out;omega,by have:=HJ.out;omega,by have:=pO;rw [HX3.out] at this;exact this,fun b' hb' kS=>(qP b' hb' kS).trans (wL b' hb' kS)⟩
   case measure=>simp [intOf]
theorem b0N (L:List Int) (hl:L.length<=1000000000):c0z Tryz.prog 181 [.ptr (.lst (L.map CV.i))] c3g (N9 L):=by
 rintro w lb R ⟨u,us,rfl,h1,h2⟩;have h2:us=[]:=h2;subst h2;obtain ⟨b,off,xs,rfl,h3,h4⟩:=X8.1 h1;obtain ⟨v,g1,g2⟩:=X3 h3;obtain ⟨ao,n,cap,rfl,e1,e2,e3,e4,ys,e5,e6⟩:=l5.1 g1;rw [length_map] at e1;subst e1;have eV:xs=[.slice ao L.length cap]:=by rw [<-g2];rfl
 subst eV;obtain ⟨h5,h6⟩:=h4 0 (by simp);have eX:ys=L.map (Value.int .i64):=by
  have:∀ (l:List Int) (zs:List Value),Sq ((l.map CV.i).map fun c=>Rep R w c) zs->zs=l.map (Value.int .i64):=by
   intro l
   induction l with
   | nil=>intro zs h;exact h
   | cons x l ih =>
    intro zs h;obtain ⟨us,bs,rfl,k1,k2⟩:=h;rw [List.map_cons,ih bs k2];have k3:us=[.int .i64 x]:=by obtain ⟨v,j1,j2⟩:=X3 k1;obtain ⟨j3,_⟩:=n8.1 j1;subst j3;rw [<-j2];rfl
    rw [k3];rfl
  exact this L ys e6
 subst eX;intro l J W hW hJ hY h0;exact b9O l b off L R w ao cap (by simpa using h6) (by simpa using h5) e5 hl J hJ hY W hW h0
theorem b6G (W:World) (L:List Int):AFun Tryz.prog W 174 [.lst (L.map CV.i)] (.val (.fn 181 0 [.ptr (.lst (L.map CV.i))])):=by
 refine c9 (rs:=[.fn 181 0 [.ptr (.lst (L.map CV.i))]]) Tryz.func174 Tryz.ntmps174 rfl rfl rfl rfl ?_;intro w U hW;refine aS (aR ?_);refine nc zd (nc ze ?_);refine AWp.wk (p9 1 rfl rfl rfl (s':=[]) trivial rfl rfl rfl) ?_;refine aS (aR ?_);refine nc zG (nc ze ?_);exact aT ⟨.inr rfl,rfl⟩
end
def V1 (k:Nat) (t:Cl×List Tm) (n:Nat):Option (Cl×List Tm):=match Z4 k t.2 (List.range' (pC t.1 n).2.1 ((pC t.1 n).2.2-(pC t.1 n).2.1)) (pC t.1 n).1.ns [] with
 | none=>none
 | some q=>some (⟨q.1,(pC t.1 n).1.vr,(pC t.1 n).1.ps⟩,t.2.set n ⟨(nT q.1 n).f,q.2⟩)
theorem A7 (k n:Nat) (o:List Nat) (c:Cl) (out:List Tm):B3 k (n::o) c out=(V1 k (c,out) n).bind fun t=>B3 k o t.1 t.2:=by
 rw [B3,V1];simp only;cases Z4 k out (List.range' (pC c n).2.1 ((pC c n).2.2-(pC c n).2.1)) (pC c n).1.ns []<;>rfl
theorem a2j (k:Nat):∀ (o:List Nat) (n:Nat) (c:Cl) (out:List Tm),B3 k (o++[n]) c out=(B3 k o c out).bind fun t=>V1 k t n
 | [],n,c,out=>by
  rw [List.nil_append,A7];show _=V1 k (c,out) n;cases V1 k (c,out) n<;>rfl
 | m::o,n,c,out=>by
  rw [cons_append,A7,A7];cases V1 k (c,out) m with
  | none=>rfl
  | some t=>exact a2j k o n t.1 t.2
theorem W8 {k:Nat}:∀ {o:List Nat} {c:Cl} {out:List Tm} {q},B3 k o c out=some q->∀ j,∃ t,B3 k (o.take j) c out=some t
 | [],c,out,q,h,j=>⟨(c,out),by rw [List.take_nil];rfl⟩
 | n::o,c,out,q,h,0=>⟨(c,out),rfl⟩
 | n::o,c,out,q,h,j+1=>by
  rw [A7] at h;rw [List.take_succ_cons,A7];cases e:V1 k (c,out) n with
  | none=>rw [e] at h;cases h
  | some t=>rw [e] at h;exact W8 (o:=o) h j
structure TI (N:Nat) (t:Cl×List Tm):Prop where
 fit:FitU t.1
 out:t.2.length=N
 len:N<=t.1.ns.length
theorem a0u {k:Nat} {vr ps} {out:List Tm}:∀ (l:List Nat) {ns:List Nd} {ts:List Tm} {q},Z4 k out l ns ts=some q->FitU ⟨ns,vr,ps⟩->(∀ p∈l,p<ns.length)->FitU ⟨q.1,vr,ps⟩/\q.1.length=ns.length/\q.2.length=ts.length+l.length
 | [],ns,ts,q,h,hF,_=>by
  have h:some (ns,ts)=some q:=h;cases h;exact ⟨hF,rfl,rfl⟩
 | p::l,ns,ts,q,h,hF,hl=>by
  rw [Z4] at h;cases hd:n9 k ns p with
  | none=>rw [hd] at h;cases h
  | some r =>
   rw [hd] at h;obtain ⟨h1,h2,h3⟩:=FitU.head hF (hl p (by simp)) hd;obtain ⟨g1,g2,g3⟩:=a0u l h h1 fun p' oV=>by rw [h2];exact hl p' (mem_cons_of_mem _ oV)
   exact ⟨g1,by rw [g2,h2],by rw [g3];simp;omega⟩
theorem TI.step {k N:Nat} {t t':Cl×List Tm} {n:Nat} (h:TI N t) (hn:n<t.1.ns.length) (hs:V1 k t n=some t'):TI N t'/\t.1.ns.length<=t'.1.ns.length:=by
 unfold V1 at hs;have jU:=h.fit.parts hn;have wJ:(pC t.1 n).2.2<=(pC t.1 n).1.ns.length:=a0p h.fit.kid hn;have jD:(pC t.1 n).2.1<=(pC t.1 n).2.2:=Q2.1;have qX:t.1.ns.length<=(pC t.1 n).1.ns.length:=B1;split at hs
 ·cases hs
 ·rename_i q hq;cases hs;obtain ⟨g1,g2,g3⟩:=a0u (vr:=(pC t.1 n).1.vr) (ps:=(pC t.1 n).1.ps) _ hq jU fun p hp=>by rw [List.mem_range'] at hp;obtain ⟨i,hi,rfl⟩:=hp;omega
  refine ⟨⟨g1,by simp only [List.length_set];exact h.out,?_⟩,?_⟩
  ·show N<=q.1.length;rw [g2];exact Nat.le_trans h.len qX
  ·show _<=q.1.length;rw [g2];exact qX
theorem TI.all {k N:Nat}:∀ {o:List Nat} {t q:Cl×List Tm},TI N t->(∀ n∈o,n<N)->B3 k o t.1 t.2=some q->TI N q/\t.1.ns.length<=q.1.ns.length
 | [],t,q,h,_,hq=>by
  have hq:some (t.1,t.2)=some q:=hq;cases hq;exact ⟨h,Nat.le_refl _⟩
 | n::o,t,q,h,ho,hq=>by
  rw [A7] at hq;cases e:V1 k (t.1,t.2) n with
  | none=>rw [e] at hq;cases hq
  | some t' =>
   rw [e] at hq;obtain ⟨h1,h2⟩:=h.step (t':=t') (n:=n) (Nat.lt_of_lt_of_le (ho n (by simp)) h.len) e;obtain ⟨h3,h4⟩:=TI.all h1 (fun m hm=>ho m (mem_cons_of_mem _ hm)) hq;exact ⟨h3,Nat.le_trans h2 h4⟩
noncomputable abbrev obT (N:Nat) (t:Cl×List Tm):AS:=(450002,AV.obj)::(35500200,.bp 350001 0 [])::(450003,.obj)::(35500300,.sl 300005 0 N 2)::(300005,.mrow 41 2 (t.2.map Tm.cv))::s9 t.1
theorem b5X {out:List Tm} {n:Nat} {x:Tm}:(out.set n x).map Tm.cv=(out.map Tm.cv).set n x.cw:=by rw [List.map_set,Tm.cv_eq]
noncomputable abbrev obF (N:Nat) (c:Cl) (out:List Tm):AS:=(450002,AV.obj)::(35500200,.bp 350001 0 [])::(450003,.obj)::(35500300,.sl 300005 0 N 2)::(300005,.mrow 41 2 (out.map Tm.cv))::O5 c
set_option maxHeartbeats 8000000 in
theorem b1F (fu:Nat) (c0:Cl) (od:List Nat) (q:Cl×List Tm) (hq:B3 fu od.reverse c0 (List.replicate c0.ns.length tm0)=some q) (hF:FitU c0) (mT:q.1.ns.length=c0.ns.length) (oL:∀ n∈od,n<c0.ns.length) (sV:od.length<=1000):r5 Tryz.prog 157 (s9 c0) [.bp 350001 0 [],.val (n7 od)] (.sl 300005 0 c0.ns.length 2) ((300005,.mrow 41 2 (q.2.map Tm.cv))::s9 q.1):=by
 obtain ⟨N,hN⟩:∃ N,N=c0.ns.length:=⟨_,rfl⟩
 have hl:N<=1000:=by rw [hN];exact Nat.le_trans (C4 _) hF.big
 obtain ⟨out0,fA⟩:∃ out0,out0=List.replicate N tm0:=⟨_,rfl⟩
 obtain ⟨tk,dK⟩:∃ tk:Nat->Cl×List Tm,∀ k,B3 fu (od.reverse.take k) c0 out0=some (tk k):=by rw [<-hN,<-fA] at hq;exact ⟨fun k=>Classical.choose (W8 hq k),fun k=>Classical.choose_spec (W8 hq k)⟩
 rw [<-hN] at hq mT oL |-;rw [<-fA] at hq;have qQ:TI N (c0,out0):=⟨hF,by rw [fA,List.length_replicate],by show N<=c0.ns.length;omega⟩
 have hIk:∀ k,TI N (tk k)/\(tk k).1.ns.length=N:=fun k=>by
  have ho:∀ n∈od.reverse.take k,n<N:=fun n hn=>oL n (mem_reverse.1 (List.mem_of_mem_take hn));obtain ⟨h1,h2⟩:=TI.all (t:=(c0,out0)) qQ ho (dK k);refine ⟨h1,?_⟩;have oM:∃ q',B3 fu (od.reverse.drop k) (tk k).1 (tk k).2=some q'/\q'=q:=by
   have happ:∀ (a b:List Nat) (c:Cl) (o:List Tm),B3 fu (a++b) c o=(B3 fu a c o).bind fun t=>B3 fu b t.1 t.2:=by
    intro a
    induction a with
    | nil=>intro b c o;rfl
    | cons x a ih =>
     intro b c o;rw [cons_append,A7,A7];cases V1 fu (c,o) x with
     | none=>rfl
     | some t=>exact ih b t.1 t.2
   have:=happ (od.reverse.take k) (od.reverse.drop k) c0 out0;rw [List.take_append_drop,hq,dK k] at this;exact ⟨q,this.symm,rfl⟩
  obtain ⟨q',h3,rfl⟩:=oM;obtain ⟨_,h4⟩:=TI.all h1 (fun n hn=>oL n (mem_reverse.1 (List.mem_of_mem_drop hn))) h3;have:=h1.len;omega
 have sY:tk od.length=q:=by have:=dK od.length;rw [List.take_of_length_le (by simp),hq] at this;injection this with this;exact this.symm
 have dA:tk 0=(c0,out0):=by have:=dK 0;have h2:some (c0,out0)=some (tk 0):=this;injection h2 with h2;exact h2.symm
 have wM:(n7 od) = .lst ((od.map fun n:Nat=>(n:Int)).map CV.i):=by unfold n7;rw [List.map_map];rfl
 have wN:(N9 (od.map fun n:Nat=>(n:Int))).length=od.length:=by rw [a1Y,length_map]
 have fI:∀ W,AFun Tryz.prog W 174 [n7 od] (.val (.fn 181 0 [.ptr (.lst ((od.map fun n:Nat=>(n:Int)).map CV.i))])):=fun W=>by rw [wM];exact b6G W _
 refine b3M Tryz.func157 Tryz.ntmps157 rfl rfl rfl rfl rfl rfl ?_;intro w U hU;refine I0 (aR ?_);refine ne (zbi 350002 (F:=fun v h=>by first | (rw [hW.1] at h;cases h) | (have h2:=hU _ v h;cases h2))) ?_;refine nc ze ?_;refine ⟨rfl,?_⟩;refine I0 (aR ?_);refine nc z8 (nc z7 (nc zg (nc z8 (nc zX (ne (zbj (k:=N) 300005) ?_)))));refine ne (zbk 350003 (C:=fun v h=>by first | (rw [hW.1] at h;cases h) | (have h2:=hU _ v h;cases h2))) ?_;refine nc zbc ?_;refine ⟨rfl,?_⟩;refine a5V (I0 (aR ?_));refine nc zl (nc (zk (z:=fI w)) ?_);refine ⟨rfl,?_⟩;refine a0E ?_;refine a1B (a7 (s':=(2,AV.bp 350002 0 [])::(5,.bp 350003 0 [])::(19,.val (.fn 181 0 [.ptr (.lst ((od.map fun n:Nat=>(n:Int)).map CV.i))]))::obT N (tk 0)) ⟨rfl,rfl,rfl,by kernel_rfl,by kernel_rfl,by kernel_rfl,by kernel_rfl,?_,rfl,?_,rfl,?_,?_,?_,?_,trivial⟩) ?_
 ·rw [dA,fA,List.map_replicate];rfl
 ·rw [dA];rfl
 ·rw [dA];rfl
 ·rw [dA];rfl
 ·rw [dA];rfl
 ·rw [dA];rfl
 refine a1L (b0K (α:=Nat×Int) (encC:=c3g) (xs:=N9 (od.map fun n:Nat=>(n:Int))) (al:=[(7,21)]) (fun k=>obT N (tk k)) [(2,AV.bp 350002 0 []),(5,.bp 350003 0 [])] rfl (x9 Tryz.func181 rfl rfl) (b0N _ (by rw [length_map];omega)) rfl rfl rfl (fun x _ c hc=>?_) (fun x=>rfl) ⟨rfl,rfl,trivial⟩ rfl ⟨rfl,rfl,rfl,rfl,rfl,rfl,rfl,rfl,rfl,rfl,rfl,rfl,trivial⟩ (fun k=>by kernel_rfl) (fun k=>by kernel_rfl) (fun k=>rfl) rfl (by kernel_rfl) (by kernel_rfl) ?_) ?_
 ·rcases List.mem_cons.1 hc with rfl | hc
  ·exact ⟨_,rfl,rfl⟩
  ·rw [mem_singleton] at hc;subst hc;exact ⟨_,rfl,rfl⟩
 ·intro k x hx w U hU;have kF:k<od.length:=by
   rcases Nat.lt_or_ge k od.length with h | h
   ·exact h
   ·rw [getElem?_eq_none (by omega)] at hx;cases hx
  obtain ⟨n,hn⟩:∃ n,od.reverse[k]?=some n:=⟨od.reverse[k]'(by simpa using kF),getElem?_eq_getElem (by simpa using kF)⟩
  have hnN:n<N:=oL n (mem_reverse.1 (mem_of_getElem? hn));obtain ⟨i,hxe⟩:∃ i:Nat,x=(i,(n:Int)):=by rw [a4I (by rw [length_map];exact kF)] at hx;injection hx with hx;refine ⟨(od.map fun n:Nat=>(n:Int)).length-1-k,?_⟩;rw [<-hx];congr 1;rw [length_map,getD_eq_getElem?_getD,getElem?_map];rw [List.getElem?_reverse kF] at hn;rw [hn];rfl
  rw [hxe];clear hx hxe;obtain ⟨hI,hIl⟩:=hIk k;have kP:V1 fu (tk k) n=some (tk (k+1)):=by have:=dK (k+1);rw [List.take_add_one,hn] at this;have:=(a2j fu (od.reverse.take k) n c0 out0).symm.trans this;rw [dK k] at this;exact this
  obtain ⟨iD,wO⟩:=hIk (k+1);obtain ⟨t,ht⟩:∃ t,t=tk k:=⟨_,rfl⟩
  obtain ⟨t',qR⟩:∃ t',t'=tk (k+1):=⟨_,rfl⟩
  rw [<-ht] at hI hIl kP hU |-;rw [<-qR] at kP iD wO |-;clear ht qR;obtain ⟨c,out⟩:=t;have yO:FitU c:=hI.fit;have hol':out.length=N:=hI.out;have eF:c.ns.length=N:=hIl;have mJ:n<c.ns.length:=by omega
  have jU:=yO.parts mJ;have cG:(pC c n).1.ns.length<=1000:=Nat.le_trans (C4 _) jU.big;have mG:=M6 c n mJ yO.trm (by omega) (yO.kid.fi mJ (by omega));have sS:(pC c n).2.1<=(pC c n).2.2:=Q2.1;have wJ:(pC c n).2.2<=(pC c n).1.ns.length:=a0p yO.kid mJ;have cT:c.ns.length<=(pC c n).1.ns.length:=B1;unfold V1 at kP;simp only at kP;obtain ⟨c2,gY⟩:∃ c2,c2=(pC c n).1:=⟨_,rfl⟩
  obtain ⟨fr,jD⟩:∃ x,x=(pC c n).2.1:=⟨_,rfl⟩
  obtain ⟨to,iR⟩:∃ x,x=(pC c n).2.2:=⟨_,rfl⟩
  rw [<-gY] at jU cG mG wJ cT kP;rw [<-jD,<-iR] at mG sS kP;rw [<-iR] at wJ;clear jD iR gY;cases mT:Z4 fu out (List.range' fr (to-fr)) c2.ns [] with
  | none=>rw [mT] at kP;cases kP
  | some lq =>
  rw [mT] at kP;simp only at kP;have kP:=Option.some.inj kP;subst kP;have hc2N:c2.ns.length=N:=by
   have h1:lq.1.length=N:=wO;obtain ⟨_,h2,_⟩:=a0u (vr:=c2.vr) (ps:=c2.ps) _ mT jU fun p hp=>by rw [List.mem_range'] at hp;obtain ⟨i,hi,rfl⟩:=hp;omega
   omega
  refine AWp.wk (a7 (s':=(7,AV.val (.i (n:Int)))::(2,.bp 350002 0 [])::(5,.bp 350003 0 [])::obT N (c,out)) ⟨rfl,rfl,rfl,rfl,rfl,rfl,rfl,rfl,rfl,rfl,rfl,rfl,rfl,rfl,rfl,trivial⟩) ?_;refine aB (aS (aR ?_));refine nc z8 (nc zl (ne (zW (z:=mG) (G:=i0 (by first | rfl | kernel_rfl))) (nc zl (nc zE (nc zE (nc ze (nc ze ?_)))))));refine aS (aR ?_);refine nc zl (nc zl (nc zB (ne (zbl (k:=(to-fr)) 200031) (nc ze ?_))));refine aS (aS (aR ?_));refine nc zl (nc ze ?_);refine AWp.wk ((a7 (s':=(7,AV.val (.i (n:Int)))::(2,.bp 350002 0 [])::(5,.bp 350003 0 [])::(9,.val (.i (to:Int)))::(10,.sl 200031 0 0 2)::(11,.val (.i (fr:Int)))::(200031,.mrow 41 2 [])::obT N (c2,out)) ⟨rfl,rfl,rfl,rfl,rfl,rfl,rfl,rfl,rfl,rfl,rfl,rfl,rfl,rfl,rfl,rfl,rfl,rfl,rfl,trivial⟩).trans (x7 300001 400001 rfl rfl (b7G hU (by kernel_rfl)) (by kernel_rfl) (by kernel_rfl) (by kernel_rfl))) ?_;obtain ⟨st,dD⟩:∃ st:Nat->List Nd->List Tm->AS,st=fun i ns1 ts=>(7,AV.val (.i (n:Int)))::(2,.bp 350002 0 [])::(5,.bp 350003 0 [])::(9,.val (.i (to:Int)))::(10,.sl 200031 0 ts.length 2)::(11,.val (.i ((fr+i:Nat):Int)))::(200031,.mrow 41 2 (ts.map Tm.cv))::obF N ⟨ns1,c2.vr,c2.ps⟩ out:=⟨_,rfl⟩
  refine aB (t9 (fun m s=>∃ i ns1 ts,i+m=to-fr/\Z4 fu out (List.range' (fr+i) m) ns1 ts=some lq/\FitU ⟨ns1,c2.vr,c2.ps⟩/\ns1.length=N/\ts.length=i/\s=st i ns1 ts) (n:=to-fr) (s':=st 0 c2.ns []) (by rw [dD];exact a7 ⟨rfl,rfl,rfl,rfl,rfl,rfl,rfl,rfl,rfl,rfl,rfl,rfl,rfl,rfl,rfl,rfl,rfl,rfl,rfl,trivial⟩) ⟨0,c2.ns,[],by omega,mT,jU,hc2N,rfl,rfl⟩ ?_);rintro m s ⟨i2,ns1,ts,tM,cK,jE,iC,mH,rfl⟩;rw [dD];refine aS (aS (aR ?_));refine nc zl (nc zl (nc zi ?_));cases m with
  | zero =>
   have cK:some (ns1,ts)=some lq:=cK;have cK:=Option.some.inj cK;subst cK;refine aC rfl (fun hc=>?_) (fun hc=>?_)
   ·exfalso;have:((fr+i2:Nat):Int)<to:=by simpa using hc
    omega
   refine aE ?_;obtain ⟨y,hy⟩:=P6 (ns:=ns1) (n:=n) (by omega);have eM:=Nd.map_at hy;have fZ:(ns1.map Nd.cv).length=ns1.length:=length_map ..;have fQ:(out.map Tm.cv).length=out.length:=length_map ..;obtain ⟨z,hz⟩:∃ z,out[n]?=some z:=⟨out[n]'(by omega),getElem?_eq_getElem (by omega)⟩
   have jC:=Tm.map_at hz;have hyf:(nT ns1 n).f=y.t.f:=by unfold nT;rw [r7 hy]
   have qE:(ts.map Tm.cv).length=ts.length:=length_map ..;refine AWp.wk (a8s 10 200031 rfl rfl rfl (.inr (by decide)) (by rw [qE];omega) (s':=(7,AV.val (.i (n:Int)))::(2,.bp 350002 0 [])::(5,.bp 350003 0 [])::obF N ⟨ns1,c2.vr,c2.ps⟩ out) ⟨rfl,rfl,rfl,rfl,rfl,rfl,rfl,rfl,rfl,rfl,rfl,rfl,rfl,rfl,rfl,trivial⟩ (by kernel_rfl)) ?_;rw [List.drop_zero,List.take_of_length_le (by rw [qE];omega)];refine aD (by kernel_rfl) (by kernel_rfl) ?_;refine nc z8 (nc zl (nc z8 (nc z7 (nc zg (nc z8 (nc zl (nc (zO (k:=n)) (nc z5 (nc z5 (nc (zP (G:=eM)) (nc zl (nc zC (nc (zO (k:=n)) (nc (zR (F:=jC)) ?_))))))))))))));refine ⟨by kernel_rfl,rfl,?_⟩;refine (a7 (s':=obF N ⟨ns1,c2.vr,c2.ps⟩ (out.set n ⟨(nT ns1 n).f,ts⟩)) ⟨rfl,rfl,rfl,rfl,?_,rfl,rfl,rfl,rfl,rfl,rfl,rfl,trivial⟩).trans (x7 400001 300001 rfl rfl (a5I U (by decide)) (by kernel_rfl) (by kernel_rfl) (by kernel_rfl));rw [b5X,hyf];rfl
  | succ m =>
   have fX:fr+i2<ns1.length:=by omega
   rw [List.range'_succ,Z4] at cK;cases bZ:n9 fu ns1 (fr+i2) with
   | none=>rw [bZ] at cK;cases cK
   | some r2 =>
   rw [bZ] at cK;simp only at cK;obtain ⟨wK,mS,hr4⟩:=FitU.head jE fX bZ;have jV:=K7 c2.vr c2.ps fu ns1 (fr+i2) r2 bZ jE.up fX (by omega);have sU:O5 ⟨r2.1,c2.vr,c2.ps⟩=[(450001,.obj),(35500100,.sl 400001 0 ns1.length 5),(35500101,.mref 300003),(35500102,.sl 300002 0 c2.ps.length 2),(400001,.mrow 194 5 (r2.1.map Nd.cv)),(300003,.mp (c2.vr.map vrv)),(300002,.mrow 207 2 (c2.ps.map psv))]:=by simp only [O5,mS]
   rw [sU] at jV;obtain ⟨z,hz⟩:∃ z,out[r2.2]?=some z:=⟨out[r2.2]'(by omega),getElem?_eq_getElem (by omega)⟩
   have jC:=Tm.map_at hz;have fQ:(out.map Tm.cv).length=out.length:=length_map ..;have qE:(ts.map Tm.cv).length=ts.length:=length_map ..;have htz:=Tm.size_all ts;have mW:out.getD r2.2 tm0=z:=by rw [getD_eq_getElem?_getD,hz];rfl
   rw [mW] at cK;refine aC rfl (fun hc=>?_) (fun hc=>?_)
   case refine_2 =>
    have:¬ ((fr+i2:Nat):Int)<to:=by simpa using hc
    omega
   refine aK ?_;refine aS (aB (aD (by kernel_rfl) (by kernel_rfl) ?_));refine nc zl (nc z8 (nc z8 (nc zl (ne (zbh ([(400001,.mrow 194 5 (r2.1.map Nd.cv))]) (C:=jV) (hnb:=i0 (by first | rfl | kernel_rfl))) (nc (zO (k:=r2.2)) (nc (zP (G:=jC)) (nc zy (ne (zbb 200046) (nc ze ?_)))))))));refine ⟨by kernel_rfl,?_⟩;refine aR ?_;refine nc zl (nc zA (nc ze ?_));refine ⟨m,st (i2+1) r2.1 (ts++[z]),by omega,⟨i2+1,r2.1,ts++[z],by omega,by rw [show fr+(i2+1)=fr+i2+1 by omega];exact cK,wK,by omega,by rw [length_append];simp;omega,by rw [dD]⟩,?_⟩;rw [dD];refine (a7 (s':=(7,AV.val (.i (n:Int)))::(2,.bp 350002 0 [])::(5,.bp 350003 0 [])::(9,.val (.i (to:Int)))::(10,.sl 200046 0 (ts++[z]).length 2)::(11,.val (.i ((fr+(i2+1):Nat):Int)))::(200046,.mrow 41 2 ((ts++[z]).map Tm.cv))::obF N ⟨r2.1,c2.vr,c2.ps⟩ out) ⟨rfl,rfl,rfl,rfl,?_,rfl,?_,rfl,rfl,rfl,rfl,rfl,rfl,?_,rfl,rfl,rfl,rfl,rfl,trivial⟩).trans (B2 200046 200031 rfl rfl (by kernel_rfl) (by kernel_rfl))
   ·rw [length_append,<-qE];rfl
   ·rw [map_append,List.map_singleton,Tm.cv_eq];rfl
   ·show _=some (AV.sl 400001 0 r2.1.length 5);rw [mS];rfl
 ·rintro e s' g ⟨rfl,rfl⟩;rw [wN,sY];refine ⟨rfl,rfl,?_⟩;refine aS (aR ?_);refine nc z8 (nc ze ?_);refine aT ⟨⟨.inr rfl,[(4,AV.sl 300005 0 N 2),(300005,.mrow 41 2 (q.2.map Tm.cv))]++s9 q.1,?_,rfl,⟨rfl,rfl,rfl,rfl,rfl,rfl,rfl,rfl,trivial⟩,rfl⟩,rfl⟩;exact a7 ⟨rfl,rfl,rfl,rfl,rfl,rfl,rfl,rfl,rfl,rfl,trivial⟩
section
open Go.RowKit Go.MapKept
open Go.ChangeMaps (setBlock)
section
variable {P:Program} {w0:World} {U0:UX} {nt:Nat} {ops:Array Oper} {o:Oper} {S:Nat->Option AV} {gs:List Nat} {d:Nat} {s:AS} {a:Act} {w:World} {D:Nat->Nat->Prop} {hv:Nat->Value}
abbrev AV.stm (l:List CV) (b clock:Nat) (bs:List Nat):AV:=⟨22,.lst l,0,0,b::clock::bs⟩
abbrev AV.itr (b since c0:Nat) (seen:List Nat):AV:=⟨21,.row [],0,0,b::since::c0::seen⟩
theorem SimG.retag (h:SimG w0 U0 nt s a w D hv) {n:Nat} (kH:l8 n) {av0 av:AV} (hs:look s n=some av0) (h6:av0.t≠6) (h7:av0.t≠7) (h9:av0.t≠9) (g6:av.t≠6) (g7:av.t≠7) (g9:av.t≠9) (pI:OC (Us w0 U0 D) w hv (a9 s) av (hv n)):SimG w0 U0 nt ((n,av)::s) a w D hv:=by
 have qF:=kH;unfold l8 at qF;have kB:∀ {k},k≠n->look ((n,av)::s) k=look s k:=fun {k} hk=>lN (Ne.symm hk);have hl:∀ m e,t7 ((n,av)::s) m e↔t7 s m e:=fun m e=>by
  unfold t7;by_cases e1:m=n
  ·subst e1;rw [lS,hs];constructor
   ·rintro ⟨h1,_⟩;injection h1 with h1;rw [h1] at g6;exact absurd rfl g6
   ·rintro ⟨h1,_⟩;injection h1 with h1;rw [h1] at h6;exact absurd rfl h6
  ·rw [kB e1]
 have kL:a9 ((n,av)::s)=a9 s:=by funext k;simp only [a9,hl]
 refine ⟨h.below,h.dfr,h.size,fun d' av' h1 h2=>?_,fun m o' av' h1 h2 h3 h4=>?_,fun m o1 o2 av1 av2 h1 h2=>?_,fun k av' h1 h2=>?_,fun k av' g h1 h2 h3 h4=>?_,fun k k' av1 av2 g h1 h2 h3 h4 h5 h8 dB=>?_,h.fix,h.dlt⟩
 ·rw [kB (by omega)] at h1;rw [kL];exact h.slot d' av' h1 h2
 ·rw [kB (by unfold f0;omega)] at h1;have kE:100000+m≠n:=fun e=>by rw [e,lS] at h3;injection h3 with h3;rw [h3] at g9;exact absurd rfl g9
  rw [kB kE] at h3;rw [kL];exact h.fld m o' av' h1 h2 h3 h4
 ·rw [kB (by unfold f0;omega)] at h1 h2;exact h.fdis m o1 o2 av1 av2 h1 h2
 ·rw [kL];by_cases e1:k=n
  ·subst e1;rw [lS] at h1;cases h1;exact pI
  ·rw [kB e1] at h1;exact h.obj k av' h1 h2
 ·by_cases e1:k=n
  ·subst e1;rw [lS] at h1;cases h1;obtain ⟨f1,f2,f3⟩:=h.blk k av0 g hs h2 h7 h4;refine ⟨?_,f2,fun o ho hd=>f3 o (fun e=>absurd e h6) hd⟩;unfold Mn lcl at f1 |-;rcases f1 with f1 | ⟨f1,f1'⟩
   ·exact .inl f1
   ·refine .inr ⟨?_,f1'⟩;cases e2:Nat.blt k 300000 with
    | true=>rw [e2] at f1;exact absurd rfl f1
    | false=>exact g6
  ·rw [kB e1] at h1;exact h.blk k av' g h1 h2 h3 h4
 ·have conv:∀ q (aq:AV),look ((n,av)::s) q=some aq->aq.t≠7->∃ aq',look s q=some aq'/\aq'.t≠7:=fun q aq f1 f2=>by
   by_cases e1:q=n
   ·subst e1;exact ⟨av0,hs,h7⟩
   ·rw [kB e1] at f1;exact ⟨aq,f1,f2⟩
  obtain ⟨a1,b1,c1⟩:=conv k av1 h1 h5
  obtain ⟨a2,b2,c2⟩:=conv k' av2 h2 h8
  exact h.disj k k' a1 a2 g b1 b2 h3 h4 c1 c2 dB
theorem AWp.stamps {c:Code} {Q:Exit->AS->Prop} (n:Nat) {l:List CV} (hn:(Nat.ble 200000 n&&Nat.blt n 450000)=true) (hm:look s n=some (.mp l)) (h:∀ b clock bs,bs.length=l.length->bs.Nodup->(∀ x∈bs,x<clock)->AWp P w0 U0 nt c Q ((n,.stm l b clock bs)::s)):AWp P w0 U0 nt c Q s:=by
 intro M a w ⟨D,hv,hS⟩;have kN:=rnF hn;have kH:l8 n:=by unfold RN at kN;unfold l8;omega
 obtain ⟨g,es,clock,g1,g2,g3,g4,g5⟩:∃ g es clock,hv n = .map (some g)/\w.heap[g]?=some (.map es clock)/\Ents (Us w0 U0 D) w l es.toList/\(∀ e∈es,e.born<clock)/\(es.toList.map (fun e:MapEntry=>e.born)).Nodup:=hS.obj n _ hm kH;refine h g clock (es.toList.map (fun e:MapEntry=>e.born)) (by rw [length_map,a1j g3]) g5 (fun x hx=>?_) M a w ⟨D,hv,hS.retag kH hm (fun e=>by cases e) (fun e=>by cases e) (fun e=>by cases e) (fun e=>by cases e) (fun e=>by cases e) (fun e=>by cases e) ?_⟩
 ·obtain ⟨e,he,rfl⟩:=mem_map.1 hx;exact g4 e (by simpa using he)
 ·exact ⟨⟨(fun e=>by cases e),(fun e=>by cases e)⟩,(fun e=>by cases e),(fun e=>by cases e),fun _=>⟨g,clock,es,g1,rfl,g2,g3,g4,g5⟩⟩
theorem b5H (n:Nat) {l:List CV} {b clock:Nat} {bs:List Nat} (hn:(Nat.ble 200000 n&&Nat.blt n 450000)=true) (hm:look s n=some (.stm l b clock bs)):Wk w0 U0 nt s ((n,.mp l)::s):=by
 rintro a w ⟨D,hv,hS⟩;have kN:=rnF hn;have kH:l8 n:=by unfold RN at kN;unfold l8;omega
 obtain ⟨g,ck,es,g1,g2,g3,g4,g5,g6⟩:=(show OX _ _ _ _ from hS.obj n _ hm kH).2.2.2 rfl;exact ⟨D,hv,hS.retag kH hm (fun e=>by cases e) (fun e=>by cases e) (fun e=>by cases e) (fun e=>by cases e) (fun e=>by cases e) (fun e=>by cases e) ⟨g,es,ck,g1,g3,g4,g5,g6⟩⟩
theorem b5h (nn:Nat) (hg:Gd w0 U0 nt ops o gs S) (hd:o.dst=some d) (hn:Nat.blt d nt=true) (h5:Nat.blt d 100000=true) {x:Operand} {t kt et:TypeId} {n b clock:Nat} {l:List CV} {bs:List Nat} (ho:o.op = .range t x) (hu:P.underlying t=some (.map kt et)) (hx:ev S x=some (.mref n)) (bQ:S n=some (.stm l b clock bs)) (bR:(Nat.ble 200000 nn&&Nat.blt nn 400000)=true):AOp P w0 U0 nt ops o (gs++(rd x++[n])) [(nn,[])] S [(d,.mref nn),(nn,.itr b clock clock [])]:=by
 intro s hs hN a w ⟨D,hv,h⟩ Q K hK;rw [if_pos (hg s (fun k hk=>hs k (mem_append_left _ hk)) a w D hv h)];have kN:=rnB bR;obtain ⟨wP,h1,_⟩:RN n/\a.eval x=hv n/\(a.eval x).oneCell'=true:=l9 h (fun k hk=>hs k (List.mem_append_right _ (mem_append_left _ hk))) hx;have kH:l8 n:=by unfold RN at wP;unfold l8;omega
 obtain ⟨g,ck,es,g1,g2,g3,g4,g5,g6⟩:=(show OX _ _ _ _ from h.obj n _ ((hs n (by simp)).trans bQ) kH).2.2.2 rfl;have sE:b=g/\clock=ck:=by have g2:b::clock::bs=g::ck::es.toList.map (·.born):=g2;injection g2 with g2 g2';injection g2' with g2';exact ⟨g2,g2'⟩
 obtain ⟨rfl,rfl⟩:=sE;rw [g1] at h1;have he:(execOp a.eval o).run P w = .ok (.value (.pointer (some ⟨w.heap.size,0,none⟩))) (w.alloc (.mapIter (some b) clock #[] clock)):=by have dX:=Go.MapKept.run_getObj_map (P:=P) g3;generalize a.eval=ρ at h1 |-;simp [execOp,ho,Instr.range,run_underlying hu,h1,dX,run_newObj_alloc]
 unfold Oper.wp;rw [he,Oper.upon_value,hd];have hb':Below w.heap.size w (w.alloc (.mapIter (some b) clock #[] clock)):=(Below.refl _ _).alloc (Nat.le_refl _) _;have hG:=h.newrow (X:=fun _=>False) (avn := .itr b clock clock []) (v' := .pointer (some ⟨w.heap.size,0,none⟩)) (D':=D) kN (hN (nn,[]) (by simp)).nr (fun e=>by cases e) ((BelowX.refl _ w).step hb') (fun b hb=>hb.elim) (fun g hg=>by have hg:some w.heap.size=some g:=hg;cases hg;refine ⟨.inr (Nat.le_refl _),by simp,fun o _ hd=>?_⟩;have:=h.dlt _ _ hd;omega) (fun b o hd => .inl hd) (fun b o hd=>Nat.lt_of_lt_of_le (h.dlt _ _ hd) hb'.size) (P5 h.dlt hb' fun _ _ h=>h) (fun hv lv=>⟨⟨(fun e=>by cases e),(fun e=>by cases e)⟩,(fun e=>by cases e),fun _=>⟨w.heap.size,b,clock,clock,[],rfl,rfl,w7 _ _⟩,(fun e=>by cases e)⟩)
 refine hK _ _ ⟨_,_,hG.put (bL hn) (bL h5) ⟨RW.rn kN,?_,rfl⟩⟩;simp
theorem zbn {P:Program} {w0:World} {U0:UX} {nt:Nat} {ops:Array Oper} {o:Oper} {S:Nat->Option AV} {gs:List Nat} {d:Nat} {x:Operand} {t:TypeId} {kt:TypeId} {et:TypeId} {n:Nat} {b:Nat} {clock:Nat} {l:List CV} {bs:List Nat} (nn:Nat) (p:Gd w0 U0 nt ops o gs S:=by exact gN rfl) (q:o.dst=some d:=by exact rfl) (r:Nat.blt d nt=true:=by exact rfl) (u:Nat.blt d 100000=true:=by exact rfl) (v:o.op = .range t x:=by exact rfl) (y:P.underlying t=some (.map kt et):=by exact rfl) (z:ev S x=some (.mref n):=by exact rfl) (A:S n=some (.stm l b clock bs):=by exact rfl) (B:(Nat.ble 200000 nn&&Nat.blt nn 400000)=true:=by exact rfl):AOp P w0 U0 nt ops o (gs++(rd x++[n])) [(nn,[])] S [(d,.mref nn),(nn,.itr b clock clock [])]:=b5h nn p q r u v y z A B
theorem b5K (hg:Gd w0 U0 nt ops o gs S) (hd:o.dst=some d) (hn:Nat.blt d nt=true) (h5:Nat.blt d 100000=true) {x:Operand} {n nn b since clock j z:Nat} {k:IntKind} {i:Int} {vc:CV} {l:List CV} {bs seen:List Nat} (ho:o.op = .entry x) (hx:ev S x=some (.mref nn)) (hI:S nn=some (.itr b since clock (seen++[z]))) (bQ:S n=some (.stm l b clock bs)) (kN:(Nat.ble 200000 n&&Nat.blt n 450000)=true) (hz:bs[j]?=some z) (hl:l[j]?=some (.row [.sc (.int k i),vc])):AOp P w0 U0 nt ops o (gs++(rd x++[nn,n])) [] S [(d,.tup [.sc (.int k i),vc])]:=
 j9 hg hd hn h5 (fun k hk=>mem_append_left _ hk) fun s hs a w D hv hm=>by
  obtain ⟨wP,h1,_⟩:RN nn/\a.eval x=hv nn/\(a.eval x).oneCell'=true:=l9 hm (fun k hk=>hs k (List.mem_append_right _ (mem_append_left _ hk))) hx;have kH:l8 nn:=by unfold RN at wP;unfold l8;omega
  have kN:=rnF kN;have tA:l8 n:=by unfold RN at kN;unfold l8;omega
  obtain ⟨r,b1,s1,c1,seen1,f1,f2,f3⟩:=(show OX _ _ _ _ from hm.obj nn _ ((hs nn (by simp)).trans hI) kH).2.2.1 rfl;obtain ⟨g,ck,es,g1,g2,g3,g4,g5,g6⟩:=(show OX _ _ _ _ from hm.obj n _ ((hs n (by simp)).trans bQ) tA).2.2.2 rfl;have f2:b::since::clock::(seen++[z])=b1::s1::c1::seen1:=f2;injection f2 with f2 f2';injection f2' with f2' f2'';injection f2'' with f2'' f2''';subst f2;subst f2';subst f2'';subst f2''';have g2:b::clock::bs=g::ck::es.toList.map (·.born):=g2;injection g2 with g2 g2';injection g2' with g2' g2'';subst g2;subst g2';subst g2'';obtain ⟨e,e1,e2⟩:=a7h g4 hl;have hez:e.born=z:=by rw [getElem?_map,e1] at hz;injection hz
  have hr:w.heap[r]?=some (.mapIter (some b) since (seen.toArray.push e.born) clock):=by rw [f3,hez];simp
  have kZ:=run_entry_at (P:=P) w r b since seen.toArray es clock e hr g3 (mem_of_getElem? e1) g6;rw [f1] at h1;obtain ⟨kc,vc',j1,j2,j3,j4⟩:=e2;injection j1 with _ _ j1;injection j1 with j1 j1';injection j1' with j1';subst j1;subst j1';refine ⟨.tuple #[e.key,e.val],?_,[e.key,e.val],rfl,e.key,[e.val],rfl,?_,e.val,[],rfl,j4,rfl⟩
  ·generalize a.eval=ρ at h1 |-;simp [execOp,ho,h1,kZ]
  ·rw [j3];exact n8.2 ⟨rfl,rfl⟩
theorem zbo {P:Program} {w0:World} {U0:UX} {nt:Nat} {ops:Array Oper} {o:Oper} {S:Nat->Option AV} {gs:List Nat} {d:Nat} {x:Operand} {n:Nat} {nn:Nat} {b:Nat} {since:Nat} {clock:Nat} {j:Nat} {z:Nat} {k:IntKind} {i:Int} {vc:CV} {l:List CV} {bs:List Nat} {seen:List Nat} (p:Gd w0 U0 nt ops o gs S:=by exact gN rfl) (q:o.dst=some d:=by exact rfl) (t:Nat.blt d nt=true:=by exact rfl) (u:Nat.blt d 100000=true:=by exact rfl) (v:o.op = .entry x:=by exact rfl) (y:ev S x=some (.mref nn):=by exact rfl) (A:S nn=some (.itr b since clock (seen++[z])):=by exact rfl) (B:S n=some (.stm l b clock bs):=by exact rfl) (C:(Nat.ble 200000 n&&Nat.blt n 450000)=true:=by exact rfl) (E:bs[j]?=some z) (F:l[j]?=some (.row [.sc (.int k i),vc])):AOp P w0 U0 nt ops o (gs++(rd x++[nn,n])) [] S [(d,.tup [.sc (.int k i),vc])]:=b5K p q t u v y A B C E F
theorem b3B {id d1:Nat} {o1:Oper} {l2:List Oper} {Q:Exit->AS->Prop} {it:Operand} {n nn b since c0 clock:Nat} {l:List CV} {bs seen:List Nat} {k:IntKind} (dG:o1.dst=some d1) (lD:o1.op = .next it false) (wQ:o1.guard=none) (bS:Nat.blt d1 nt=true) (h51:Nat.blt d1 100000=true) (hit:ev (look s) it=some (.mref nn)) (hI:look s nn=some (.itr b since c0 seen)) (hM:look s n=some (.stm l b clock bs)) (kN:(Nat.ble 200000 n&&Nat.blt n 450000)=true) (hik:y6 k l) (tB:∀ x∈bs,x<since) (lF:since<=c0)
  (sY:(∀ x∈bs,x∈seen)->Run P w0 U0 nt (o1::l2).toArray l2 ((d1,.tup [.b false])::s) [] fun s' _=>Q .normal s')
  (mE:∀ (j x:Nat) (i:Int) (vc:CV),bs[j]?=some x->l[j]?=some (.row [.sc (.int k i),vc])->x∉seen->Run P w0 U0 nt (o1::l2).toArray l2 ((d1,.tup [.b true,.sc (.int k i),vc])::(nn,.itr b since clock (seen++[x]))::s) [] fun s' _=>Q .normal s') :
  AWp P w0 U0 nt (.region id (o1::l2).toArray false) Q s:=by
 intro M a w ⟨D,hv,h⟩;refine wpIn_region_lit ?_;have kN:=rnF kN;have tA:l8 n:=by unfold RN at kN;unfold l8;omega
 obtain ⟨wP,h1,_⟩:RN nn/\a.eval it=hv nn/\(a.eval it).oneCell'=true:=l9 h (fun k _=>rfl) hit;have kH:l8 nn:=by unfold RN at wP;unfold l8;omega
 obtain ⟨r,b1,s1,c1,seen1,f1,f2,f3⟩:=(show OX _ _ _ _ from h.obj nn _ hI kH).2.2.1 rfl;obtain ⟨g,ck,es,g1,g2,g3,g4,g5,g6⟩:=(show OX _ _ _ _ from h.obj n _ hM tA).2.2.2 rfl;have f2:b::since::c0::seen=b1::s1::c1::seen1:=f2;injection f2 with f2 f2';injection f2' with f2' f2'';injection f2'' with f2'' f2''';subst f2;subst f2';subst f2'';subst f2''';have g2:b::clock::bs=g::ck::es.toList.map (·.born):=g2;injection g2 with g2 g2';injection g2' with g2' g2'';subst g2;subst g2';subst g2'';rw [f1] at h1;unfold wpListIn;rw [if_pos (by simp [Region.wanted,wQ])];refine ⟨fun _ _=>trivial,?_⟩;rw [U9,Oper.semAt_eq _ _ _ (fun c hc=>by rw [lD] at hc;cases hc)];have lW:∀ x∈es.toList,x.born<since:=fun x hx=>tB _ (mem_map.2 ⟨x,hx,rfl⟩);rcases run_next_at (P:=P) w o1.type r b since c0 seen.toArray es clock f3 g3 lW lF with ⟨e0,e1⟩ | ⟨e,he,w1,dW,e1⟩
 ·have kZ:(execOp a.eval o1).run P w = .ok (.value (.tuple #[.bool false])) w:=by generalize a.eval=ρ at h1 |-;simp [execOp,lD,h1,e1]
  rw [kZ];show wpListIn _ _ _ _ _ _ _ _;rw [dG,<-a0m];refine Y4 (sY fun x hx=>?_) (fun s' t' a w h1 h2=>⟨a,rfl,s',h1,h2⟩) _ _ ⟨D,hv,h.put (bL bS) (bL h51) ⟨[.bool false],rfl,.bool false,[],rfl,n8.2 ⟨rfl,rfl⟩,rfl⟩⟩;obtain ⟨e,he,rfl⟩:=mem_map.1 hx;apply Classical.byContradiction;intro hns;have jT:e∈leftOf es seen.toArray:=by unfold leftOf;simp;exact ⟨by simpa using he,hns⟩
  have:=Array.size_pos_of_mem jT;omega
 ·have kZ:(execOp a.eval o1).run P w = .ok (.value (.tuple #[.bool true,e.key,e.val])) (setBlock w1 r (.mapIter (some b) since (seen.toArray.push e.born) clock)):=by generalize a.eval=ρ at h1 |-;simp [execOp,lD,h1,e1]
  rw [kZ];show wpListIn _ _ _ _ _ _ _ _;rw [dG,<-a0m];have he2:e∈es.toList/\e.born∉seen:=by unfold leftOf at he;simp at he;exact ⟨by simpa using he.1,he.2⟩
  obtain ⟨j,hj⟩:=List.getElem?_of_mem he2.1;have hlj:∃ c,l[j]?=some c/\Ent (Us w0 U0 D) w c e:=by
   have kD:=a1j g4;have gJ:j<l.length:=by
    rcases Nat.lt_or_ge j es.toList.length with h | h
    ·rw [<-kD];exact h
    ·rw [getElem?_eq_none h] at hj;cases hj
   obtain ⟨e',k1,k2⟩:=a7h g4 (getElem?_eq_getElem gJ);rw [hj] at k1;cases k1;exact ⟨_,getElem?_eq_getElem gJ,k2⟩
  obtain ⟨c,hc,wR⟩:=hlj;obtain ⟨i,vc,rfl⟩:=hik c (mem_of_getElem? hc);obtain ⟨kc,vc',j1,j2,j3,j4⟩:=wR;injection j1 with _ _ j1;injection j1 with j1 j1';injection j1' with j1';subst j1;subst j1';have h2:SimG w0 U0 nt s a w1 D hv:=by
   rcases dW with rfl | rfl
   ·exact h
   ·exact h.grow' (Below.drew (Below.refl _ _))
  have qY:w1.heap=w.heap:=by rcases dW with rfl | rfl<;>rfl
  have hrlt:r<w1.heap.size:=by rw [qY];exact (Array.getElem?_eq_some_iff.1 f3).1
  have h3:=h2.upd (av := .itr b since clock (seen++[e.born])) (w':=setBlock w1 r (.mapIter (some b) since (seen.toArray.push e.born) clock)) kH hI (fun e=>by cases e) (fun e=>by cases e) rfl (fun g hh o ho=>hh o fun e=>by cases e) (fun e=>by cases e) (g:=r) (by rw [f1];rfl) rfl rfl rfl (by simp [setBlock]) (fun q hq=>by simp [setBlock,Array.getElem?_setIfInBounds_ne (Ne.symm hq)]) fun bC=>⟨⟨(fun e=>by cases e),(fun e=>by cases e)⟩,(fun e=>by cases e),fun _=>⟨r,b,since,clock,seen++[e.born],f1,rfl,by simp [setBlock,hrlt]⟩,(fun e=>by cases e)⟩
  have hval:VRep (Us w0 U0 D) (setBlock w1 r (.mapIter (some b) since (seen.toArray.push e.born) clock)) vc e.val:=by
   refine j4.keep fun b' o' u hu kX=>⟨hu,?_⟩
   have kE:b'≠r:=fun e=>by subst e;simp [World.cell?,f3] at kX
   rw [World.cell?_of_block (w:=w) (w':=setBlock w1 r _) (by simp [setBlock,Array.getElem?_setIfInBounds_ne (Ne.symm kE),qY])];exact kX
  refine Y4 (mE j e.born i vc (by rw [getElem?_map,hj];rfl) hc he2.2) (fun s' t' a w h1 h2=>⟨a,rfl,s',h1,h2⟩) _ _ ⟨D,hv,h3.put (bL bS) (bL h51) ⟨[.bool true,e.key,e.val],rfl,.bool true,_,rfl,n8.2 ⟨rfl,rfl⟩,e.key,_,rfl,?_,e.val,[],rfl,hval,rfl⟩⟩;rw [j3];exact n8.2 ⟨rfl,rfl⟩
end
end
section
open Go.RowKit Go.MapKept
def b7Y {Sg:Type} (P:Program) (f:FuncId) (pre:AS) (args:List AV) (R:Sg->Prop) (r:Sg->AV) (post:Sg->AS):Prop:=
 a2V P f/\∀ (U:UX) (w:World) (hv:Nat->Value) (a0:Act) (vs:List Value),(∀ k v,U.f k=some v->l7 (kO pre) k=true)->SimG w U 0 pre a0 w (fun _ _=>False) hv->AVReps (Us w U (fun _ _=>False)) w hv (a9 pre) args vs ->
  Calls P f vs.toArray w fun e w'=>∃ σ,R σ/\∃ v D' kG a',e = .returned v/\SimG w U 0 (post σ) a' w' D' kG/\AVRep (Us w U D') w' kG (a9 (post σ)) (r σ) v
section
variable {P:Program} {w0:World} {U0:UX} {nt:Nat} {ops:Array Oper} {o:Oper} {S:Nat->Option AV} {gs:List Nat} {d:Nat} {s:AS} {a:Act} {w:World} {D:Nat->Nat->Prop} {hv:Nat->Value}
theorem b6M {Sg : Type} {R : Sg → Prop} {r : Sg → AV} {post : Sg → AS} {f : FuncId} {fn : Func} {c : Code} {pre : AS} {args : List AV} (hf : P.funcs[f]? = some fn) (hn : fn.ntmps = nt) (gL : (fn.name == "runtime.NumGoroutine") = false) (hb : fn.body = some c) (hl : Nat.ble args.length nt = true) (cE : Nat.blt nt 100000 = true) (gC : (kO pre).all (Nat.ble 100000) = true) (kQ : ∀ σ, (kO (post σ)).all (Nat.ble 100000) = true)
  (h:∀ (w:World) (U:UX),(∀ k v,U.f k=some v->l7 (kO pre) k=true)->AWp P w U nt c (fun e s'=>(e = .normal\/e = .ret)/\∃ σ,R σ/\b8s P w U nt fn s' (r σ) (post σ)) (C3 args 0++pre)):b7Y P f pre args R r post:=by
 refine ⟨x9 hf gL (by rw [hb];rfl),fun U w hv a0 vs hU gE hargs=>?_⟩;have kD:=hargs.len;refine calls_of_wp hf hb ?_;have cY:=Nat.le_of_ble_eq_true hl;have cE:=bL cE;have kV:∀ {k av},look pre k=some av->100000<=k:=fun {k av} h1=>by rw [List.all_eq_true] at gC;exact Nat.le_of_ble_eq_true (gC k (i8 h1))
 have kB:∀ {k},100000<=k->look (C3 args 0++pre) k=look pre k:=fun {k} h1=>by
  rw [b9];cases h2:look (C3 args 0) k with
  | none=>rfl
  | some av =>
   obtain ⟨_,h3⟩:=w8 h2;rw [Nat.sub_zero,getElem?_eq_none (by omega)] at h3;cases h3
 have kI:a9 (C3 args 0++pre)=a9 pre:=by
  funext n;unfold a9 t7;apply propext;constructor
  ·rintro (h1 | ⟨e,h1,h2,h3⟩)
   ·exact .inl h1
   ·rw [kB (by omega)] at h1;exact .inr ⟨e,h1,h2,h3⟩
  ·rintro (h1 | ⟨e,h1,h2,h3⟩)
   ·exact .inl h1
   ·exact .inr ⟨e,by rw [kB (by omega)];exact h1,h2,h3⟩
 have hs:Sim w U nt (C3 args 0++pre) { tmps:=vs.toArray++Array.replicate (fn.ntmps-vs.toArray.size) undef,defers:=[] } w:=by
  refine ⟨fun _ _=>False,hv,gE.below,rfl,by simp [hn];omega,fun d av h1 h2=>?_,fun n o av h1 h2 h3 h4=>?_,fun n o o' av av' h1 h2=>?_,fun k av h1 h2=>?_,fun k av g h1 h2=>?_,fun k k' av av' g h1 h2 h3 h4=>?_,gE.fix,fun b o hd=>hd.elim⟩
  ·rw [b9] at h1;cases h3:look (C3 args 0) d with
   | none =>
    rw [h3] at h1;have:=kV h1;omega
   | some av' =>
    rw [h3] at h1;cases h1;obtain ⟨_,h4⟩:=w8 h3;rw [Nat.sub_zero] at h4;obtain ⟨v,h6,h7⟩:=hargs.at h4;have hdl:d<vs.length:=by
     rcases Nat.lt_or_ge d vs.length with h | h
     ·exact h
     ·rw [getElem?_eq_none h] at h6;cases h6
    rw [kI];refine ⟨v,?_,h7⟩;rw [Array.getElem?_append_left (by simpa using hdl)];simpa using h6
  ·rw [kB (by unfold f0;omega)] at h1;rw [kB (by omega)] at h3;rw [kI];exact gE.fld n o av h1 h2 h3 h4
  ·rw [kB (by unfold f0;omega)] at h1 h2;exact gE.fdis n o o' av av' h1 h2
  ·rw [kB h2.1] at h1;rw [kI];exact gE.obj k av h1 h2
  ·rw [kB h2.1] at h1;exact gE.blk k av g h1 h2
  ·rw [kB h3.1] at h1;rw [kB h4.1] at h2;exact gE.disj k k' av av' g h1 h2 h3 h4
 refine wp_mono ((h w U hU ⟨none,[]⟩ _ w hs).wp rfl (fun e a w ⟨s,_,h⟩=>h.df)) ?_;rintro e a' w' ⟨s',⟨h1,σ,hσ,s2,g1,g2,g3⟩,h3⟩;obtain ⟨D',kG,h4⟩:=g1 a' w' h3;obtain ⟨v,h5,h6⟩:=R2 h4 g2;have hS:=h4.sub g3.sub;have kQ:=kQ σ;have gT:∀ {k av},look (post σ) k=some av->100000<=k:=fun {k av} h1=>by rw [List.all_eq_true] at kQ;exact Nat.le_of_ble_eq_true (kQ k (i8 h1))
 have jP:SimG w U 0 (post σ) ⟨#[],[]⟩ w' D' kG:=⟨hS.below,rfl,rfl,fun d av h7 h8=>by have:=gT h7;omega,hS.fld,hS.fdis,hS.obj,hS.blk,hS.disj,hS.fix,hS.dlt⟩
 rcases h1 with rfl | rfl
 ·exact ⟨h4.dfr,v,h5,σ,hσ,v,D',kG,_,rfl,jP,h6.move (fun _ _ _ h1 h2=>⟨h1,h2⟩) (fun _ h7=>h7.imp id fun ⟨e,he⟩=>⟨e,g3.sub _ _ he.1,he.2⟩) fun _=>rfl⟩
 ·exact ⟨h4.dfr,v,h5,σ,hσ,v,D',kG,_,rfl,jP,h6.move (fun _ _ _ h1 h2=>⟨h1,h2⟩) (fun _ h7=>h7.imp id fun ⟨e,he⟩=>⟨e,g3.sub _ _ he.1,he.2⟩) fun _=>rfl⟩
theorem b9A (hg:Gd w0 U0 nt ops o gs S) (hd:o.dst=some d) (hn:Nat.blt d nt=true) (h5:Nat.blt d 100000=true) {x:Operand} {ts:Array TypeId} {t kt et:TypeId} {n:Nat} {l:List CV} (ho:o.op = .call { callee := .builtin .len,args := #[x],argTypes:=ts }) (ht:ts[0]?=some t) (hu:P.underlying t=some (.map kt et)) (hx:ev S x=some (.mref n)) (bQ:S n=some (.mp l)):AOp P w0 U0 nt ops o (gs++(rd x++[n])) [] S [(d,.val (.i l.length))]:=
 j9 hg hd hn h5 (fun k hk=>mem_append_left _ hk) fun s hs a w D hv hm=>by
  obtain ⟨kN,h1,_⟩:RN n/\a.eval x=hv n/\(a.eval x).oneCell'=true:=l9 hm (fun k hk=>hs k (List.mem_append_right _ (mem_append_left _ hk))) hx;have kH:l8 n:=by unfold RN at kN;unfold l8;omega
  obtain ⟨g,es,clock,g1,g2,g3,g4,g5⟩:∃ g es clock,hv n = .map (some g)/\w.heap[g]?=some (.map es clock)/\Ents (Us w0 U0 D) w l es.toList/\(∀ e∈es,e.born<clock)/\(es.toList.map (fun e:MapEntry=>e.born)).Nodup:=hm.obj n _ ((hs n (by simp)).trans bQ) kH;rw [g1] at h1;have dX:=Go.MapKept.run_getObj_map (P:=P) g2;have kD:es.size=l.length:=by have:=a1j g3;simpa using this
  refine ⟨.int .i64 (l.length:Int),?_,p6 rfl⟩;generalize a.eval=ρ at h1 |-;simp [execOp,ho,resolve,invoke,builtin,Builtin.len_,ht,h1,dX,kD,goInt,run_underlying hu,go_sem]
theorem zbm {P:Program} {w0:World} {U0:UX} {nt:Nat} {ops:Array Oper} {o:Oper} {S:Nat->Option AV} {gs:List Nat} {d:Nat} {x:Operand} {ts:Array TypeId} {t:TypeId} {kt:TypeId} {et:TypeId} {n:Nat} {l:List CV} (p:Gd w0 U0 nt ops o gs S:=by exact gN rfl) (q:o.dst=some d:=by exact rfl) (r:Nat.blt d nt=true:=by exact rfl) (u:Nat.blt d 100000=true:=by exact rfl) (v:o.op = .call { callee := .builtin .len,args := #[x],argTypes:=ts }:=by exact rfl) (y:ts[0]?=some t:=by exact rfl) (z:P.underlying t=some (.map kt et):=by exact rfl) (A:ev S x=some (.mref n):=by exact rfl) (B:S n=some (.mp l):=by exact rfl):AOp P w0 U0 nt ops o (gs++(rd x++[n])) [] S [(d,.val (.i l.length))]:=b9A p q r u v y z A B
theorem b0m {M:Md} {ops:Array Oper} {Q:Exit->Act->World->Prop} {l2:List Oper}:∀ {l:List Oper} {s:AS} {acc:List (List Nat×List (Nat×List Nat)×AS)} {K:AS->List (List Nat×List (Nat×List Nat)×AS)->Prop},Run P w0 U0 nt ops l s acc K->(∀ s' t' a w,K s' t'->Sim w0 U0 nt s' a w->wpListIn (A8 M.r) 1 P ops Q l2 (wdA a M.ds) w)->∀ a w,Sim w0 U0 nt s a w->wpListIn (A8 M.r) 1 P ops Q (l++l2) (wdA a M.ds) w
 | [],s,acc,K,h,hK,a,w,hs=>hK s acc a w h hs
 | o::os,s,acc,K,⟨R,N,e,h1,h2,h3⟩,hK,a,w,hs=>by
  rw [cons_append];unfold wpListIn;exact a8t (h1 s (fun _ _=>rfl) (q6 h2)) hs (fun a' w' gD=>b0m h3 hK a' w' gD)
theorem a9e {Sg:Type} {R:Sg->Prop} {r:Sg->AV} {post:Sg->AS} {id:Nat} {l:List Oper} {Q:Exit->AS->Prop} (j:Nat) {f:FuncId} {xs:Array Operand} {ts:Array TypeId} {pre:AS} {args:List AV} {dd:Nat} {oo:Oper} (hj:l[j]?=some oo) (mE:oo.guard=none) (hdo:oo.dst=some dd) (hnd:Nat.blt dd nt=true) (h5d:Nat.blt dd 100000=true)
  (hoo:oo.op = .call { callee := .value (.func f),args:=xs,argTypes:=ts }) (hc:b7Y P f pre args R r post) (hl:pre.all E4=true) (hq:∀ σ,(post σ).all (G1 (kO (post σ)))=true) (jN:∀ σ,(kO pre).all (l7 (kO (post σ)))=true) (hr:∀ σ,a2W (kO (post σ)) (r σ)=true) (hnb:∀ σ k v,U0.f k=some v->l7 (kO (post σ)) k=true->l7 (kO pre) k=true)
  (h:Run P w0 U0 nt l.toArray (l.take j) s [] fun s1 _=>a4u (look s1) xs.toList=some args/\SubL s1 pre/\∀ σ,R σ->y8 s1 (I8 (kO pre) (kO (post σ)) (kO (post σ)))=true/\Run P w0 U0 nt l.toArray (l.drop (j+1)) ((dd,r σ)::(post σ++s1)) [] fun s' _=>Q .normal s'):AWp P w0 U0 nt (.region id l.toArray false) Q s:=by
 intro M a w hs;refine wpIn_region_lit ?_;have gS:l=l.take j++oo::l.drop (j+1):=by
  have gJ:j<l.length:=by
   rcases Nat.lt_or_ge j l.length with h | h
   ·exact h
   ·rw [getElem?_eq_none h] at hj;cases hj
  conv=>lhs;rw [<-List.take_append_drop j l]
  congr 1;rw [List.drop_eq_getElem_cons gJ];rw [getElem?_eq_getElem gJ] at hj;injection hj with hj;rw [hj]
 have key:wpListIn (A8 M.r) 1 P l.toArray (a8w M fun e a' w'=>∃ s',Q e s'/\Sim w0 U0 nt s' a' w') (l.take j++oo::l.drop (j+1)) (wdA a M.ds) w:=by
  refine b0m h ?_ a w hs;rintro s1 _ a w ⟨hx,hp,oM⟩ ⟨D,hv,h⟩;have hargs:=R0 h (fun k _=>rfl) hx;have kJ:Sub s1 pre:=hp.sub;obtain ⟨V,v1,v2,v3,v4,v5,v6⟩:=h.lend kJ hl;obtain ⟨h1,h2⟩:=hc;have kK:=h2 V w hv ⟨#[],[]⟩ _ v1 v2 (hargs.imp fun c _ v lE=>lE.move v6 (fun _ h3=>h3.imp (fun h=>h) fun ⟨e,he⟩=>⟨e,kJ _ _ he.1,he.2⟩) fun _=>rfl);have he:(execOp a.eval oo).run P w = .ok (.enter f (xs.toList.map a.eval).toArray) w:=by
   have hf:a.eval (.func f) = .func (.func f) #[] #[]:=rfl;have cR:=h1 (xs.map a.eval) w;have gR:(xs.toList.map a.eval).toArray=xs.map a.eval:=by apply Array.ext';simp
   rw [gR];generalize a.eval=ρ at hf cR |-;simp [execOp,hoo,resolve,invoke,Deferred.ofValue,hf,cR]
  unfold wpListIn;rw [if_pos (by simp [Region.wanted,mE])];refine ⟨fun _ _=>trivial,?_⟩;rw [U9,Oper.semAt_eq _ _ _ (fun c hc=>by rw [hoo] at hc;cases hc),he];refine ⟨(fun hh=>by cases hh),a6h (kK.mono ?_)⟩;rintro e w' ⟨σ,hσ,v,D',kG,a',rfl,h6,h7⟩;obtain ⟨jJ,kZ⟩:=oM σ hσ;show wpListIn _ _ _ _ _ _ _ _;rw [hdo,<-a0m];obtain ⟨D2,gI,h8,h9,_⟩:=h.back kJ hl (hq σ) (jN σ) (q6 jJ) (hnb σ) v3 v4 v5 v2 h6;exact Y4 kZ (fun s' t' a w h1 h2=>⟨a,rfl,s',h1,h2⟩) _ _ ⟨D2,gI,h8.put (bL hnd) (bL h5d) (h9 (r σ) v (hr σ) h7)⟩
 rw [<-gS] at key;exact key
end
end
end Go.Proofs.YteegmcfobgpemaaGreat
