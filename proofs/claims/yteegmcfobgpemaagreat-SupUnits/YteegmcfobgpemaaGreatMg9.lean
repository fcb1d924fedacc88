/-
 KbFns4 OrFns1 ClMath OrFns2 ClLen TmAlive TmAb6 ClTaut OrFns3 AbMapT AbQ SbQ AbBackB
-/
import Derived.Test.YteegmcfobgpemaaGreatMg8
import Derived.Test.YteegmcfobgpemaaGreatMg4
import Derived.Test.YteegmcfobgpemaaGreatMg2
import Derived.Test.YteegmcfobgpemaaGreatMg3
import Derived.Test.YteegmcfobgpemaaGreatMg7
namespace Go.Proofs.YteegmcfobgpemaaGreat
open List (append_nil getElem?_eq_getElem length_append length_cons length_drop length_map length_nil map_append map_cons map_drop map_nil map_take mem_append_left mem_append_right mem_map mem_of_getElem? mem_of_mem_drop replicate_zero take_add_one take_length)
open Go.RowKit
set_option linter.unusedVariables false
set_option linter.unusedSimpArgs false
set_option maxRecDepth 100000
set_option maxHeartbeats 1000000 in
theorem a7d:∀ a:Tm,a.rng->a.ok->a.size<=100000000000->∀ b:Tm,b.rng->b.ok->b.size<=100000000000->r5 Tryz.prog 87 (sst emp) [.bp 350001 0 [],.val a.cw,.val b.cw] (.val (.i (kb a b))) (sst (scS a b)):=by
 intro a
 induction a using Tm.indp with
 | h a ih =>
 intro hr kH has b cJ jX eR;have qF:=(Tm.ok_iff _).1 kH;have hr':=(Tm.rng_iff _).1 hr;have qZ:=(Tm.ok_iff _).1 jX;have wW:=(Tm.rng_iff _).1 cJ;have kC:=Tm.size_all a.ps;have jM:=Tm.size_all b.ps;have el:(a.ps.map Tm.cv).length=a.ps.length:=length_map ..;have el2:(b.ps.map Tm.cv).length=b.ps.length:=length_map ..;have hla:=a.len_ps;have uE:=b.len_ps;obtain ⟨S,hS⟩:∃ S,S=scS a b:=⟨_,rfl⟩
 obtain ⟨sp1,sp2,sp3⟩:=a9v a b;refine l6 Tryz.func87 Tryz.ntmps87 rfl rfl rfl rfl rfl rfl ?_;intro w U hU;refine aS (aR ?_);refine nc zd (nc zd (nc ze ?_));refine aS (aD (by kernel_rfl) (by kernel_rfl) ?_);refine nc zj (nc (zk (z:=a3j w a)) (nc zj (nc (zk (z:=a3j w b)) (nc ze (nc ze ?_)))));refine ⟨by kernel_rfl,?_⟩;refine AWp.wk (a7 (s':=(0,AV.bp 350001 0 [])::(4,.bp 4 0 [])::(100004,.bx a.cw)::(5,.bp 5 0 [])::(100005,.bx b.cw)::(7,.val (.lst (a.ps.map Tm.cv)))::(8,.val (.lst (b.ps.map Tm.cv)))::sst emp) ⟨rfl,rfl,rfl,rfl,rfl,rfl,rfl,rfl,rfl,rfl,rfl,rfl,rfl,trivial⟩) ?_;by_cases h:a.f≠b.f\/a.ps.length≠b.ps.length
 case pos =>
  have hw:wi a b=hdK a b:=by unfold wi;rw [if_pos h]
  have oU:kb a b≠0:=by rw [N8,ne_eq,A9,hw];exact b5a h
  have jO:vdS (addT (-1) (addT 1 emp a) b) (hdK a b)=kb a b:=by have:=b2Z (w:=hdK a b) (by have:=sp3 oU;rw [b2b h] at this;exact this) (b5a h);rw [this,N8,hw]
  rw [b2b h];by_cases hf:a.f≠b.f
  ·have g:decide (a.f≠b.f)=true:=by simpa using hf
   refine aS (aS (aR ?_));refine nc zg (nc zh (nc zg (nc zh (nc z9 (nc zl (nc zq (nc zq (nc zq (nc zq (nc zq (nc zp ?_)))))))))));refine aC rfl (fun hc=>?_) (fun hc=>by cases hc);refine aS (aR ?_);refine nc zl (nc zj (nc (zW (z:=Y0 1 (.inl rfl) a hr kH emp 0 emp_bds (by omega)) (B:=A4 _) (C:=v8 _) (G:=i0 (by first | rfl | kernel_rfl))) ?_));refine aS (aR ?_);refine nc zl (nc zj (nc (zW (z:=Y0 (-1) (.inr rfl) b cJ jX (addT 1 emp a) (0+a.size) (emp_bds.addT (.inl rfl)) (by omega)) (B:=A4 _) (C:=v8 _) (G:=i0 (by first | rfl | kernel_rfl))) ?_));refine aS (aR ?_);refine nc zl (nc zj (nc zj (nc (zk (z:=a4a w a b)) (nc (zW (z:=S1 (addT (-1) (addT 1 emp a) b) (hdK a b)) (B:=A4 _) (C:=v8 _) (G:=i0 (by first | rfl | kernel_rfl))) (nc ze ?_)))));rw [jO];exact aT ⟨.inr rfl,_,Wk.refl _,rfl,rfl,rfl,rfl,rfl,rfl,rfl,trivial⟩
  ·have g:decide (a.f≠b.f)=false:=by simpa using hf
   refine aS (aS (aR ?_));refine nc zg (nc zh (nc zg (nc zh (nc z9 (nc zl (nc (zl (p:=gb)) (nc (zo (r:=gb)) (nc (zl (p:=gb)) (nc (zo (r:=gb)) (nc (z9 (r:=gb)) (nc zr ?_)))))))))));refine aC rfl (fun hc=>?_) (fun hc=>?_)
   case refine_2 =>
    exfalso;have hc:=of_decide_eq_false hc;simp only [length_map,ne_eq,Decidable.not_not] at hc;omega
   refine aS (aR ?_);refine nc zl (nc zj (nc (zW (z:=Y0 1 (.inl rfl) a hr kH emp 0 emp_bds (by omega)) (B:=A4 _) (C:=v8 _) (G:=i0 (by first | rfl | kernel_rfl))) ?_));refine aS (aR ?_);refine nc zl (nc zj (nc (zW (z:=Y0 (-1) (.inr rfl) b cJ jX (addT 1 emp a) (0+a.size) (emp_bds.addT (.inl rfl)) (by omega)) (B:=A4 _) (C:=v8 _) (G:=i0 (by first | rfl | kernel_rfl))) ?_));refine aS (aR ?_);refine nc zl (nc zj (nc zj (nc (zk (z:=a4a w a b)) (nc (zW (z:=S1 (addT (-1) (addT 1 emp a) b) (hdK a b)) (B:=A4 _) (C:=v8 _) (G:=i0 (by first | rfl | kernel_rfl))) (nc ze ?_)))));rw [jO];exact aT ⟨.inr rfl,_,Wk.refl _,rfl,rfl,rfl,rfl,rfl,rfl,rfl,trivial⟩
 case neg =>
  have hf:a.f=b.f:=by omega
  have dI:a.ps.length=b.ps.length:=by omega
  have hw:wi a b=kbs a.ps b.ps:=by unfold wi;rw [if_neg h]
  have g:decide (a.f≠b.f)=false:=by simpa using hf
  refine aS (aS (aR ?_));refine nc zg (nc zh (nc zg (nc zh (nc z9 (nc zl (nc (zl (p:=gb)) (nc (zo (r:=gb)) (nc (zl (p:=gb)) (nc (zo (r:=gb)) (nc (z9 (r:=gb)) (nc zr ?_)))))))))));refine aC rfl (fun hc=>?_) (fun hc=>?_)
  ·exfalso;have hc:=of_decide_eq_true hc;simp only [length_map,ne_eq] at hc;omega
  refine aK ?_;refine aS (aS (aR ?_));refine nc zl (nc zo (nc zl ?_));refine aB (C0 a.ps.length (fun k=>∀ (j:Nat) u v,j<k->a.ps[j]?=some u->b.ps[j]?=some v->kb u v=0) (fun k=>(0,.bp 350001 0 [])::(7,.val (.lst (a.ps.map Tm.cv)))::(8,.val (.lst (b.ps.map Tm.cv)))::(39,.val (.i (a.ps.map Tm.cv).length))::(40,.val (.i k))::sst emp) (a7 ⟨rfl,rfl,rfl,rfl,rfl,rfl,rfl,rfl,rfl,rfl,rfl,trivial⟩) (fun j u v hj=>by omega) ?_);intro k hk hI;refine aS (aR ?_);refine nc zi ?_;refine aS (aC rfl (fun kA=>?_) (fun kA=>?_))
  ·have kF:k<a.ps.length:=by simpa using kA
   obtain ⟨x,hx⟩:∃ x,a.ps[k]?=some x:=⟨a.ps[k],getElem?_eq_getElem kF⟩
   obtain ⟨y,hy⟩:∃ y,b.ps[k]?=some y:=⟨b.ps[k]'(by omega),getElem?_eq_getElem (by omega)⟩
   have kS:=Tm.map_at hx;have eM:=Tm.map_at hy;have cH:=mem_of_getElem? hx;have wC:=mem_of_getElem? hy;have eV:=Tm.size_part cH;have eX:=Tm.size_part wC;have hrec:=ih x cH (hr'.2 x (Tm.ps_mem cH).1) (qF.2 x (Tm.ps_mem cH).1) (by omega) y (wW.2 y (Tm.ps_mem wC).1) (qZ.2 y (Tm.ps_mem wC).1) (by omega);obtain ⟨q1,q2,q3⟩:=a9v x y;refine aK ?_;refine aS (aB (aS (aR ?_)));refine nc zl (nc ze ?_);refine aS (aD (by kernel_rfl) (by kernel_rfl) ?_);refine nc zl (nc zl (nc zl (nc (zt (j:=k) (H:=kS) (hz:=kC)) (nc zu (nc zl (nc zl (nc (zt (j:=k) (H:=eM) (hz:=jM)) (nc zu (nc (zW (z:=hrec) (B:=A4 _) (C:=v8 _) (G:=i0 (by first | rfl | kernel_rfl))) (nc ze ?_))))))))));refine ⟨by kernel_rfl,?_⟩;refine aS (aR ?_);refine nc zl (nc z9 ?_);refine aC rfl (fun hc=>?_) (fun hc=>?_)
   ·have kE:kb x y≠0:=by simpa using hc
    obtain ⟨e1,e2⟩:=b1W hx hy kE hI;have oU:kb a b≠0:=by rw [N8,ne_eq,A9,hw,e2];exact kE
    obtain ⟨l1,l2⟩:=Z2 hx;obtain ⟨m1,m2⟩:=Z2 hy;have sa:=a.size_eq;have sb:=b.size_eq;have hA:∀ t∈a.ps.drop (k+1),t.rng/\t.ok:=fun t ht=>⟨hr'.2 t (Tm.ps_mem (mem_of_mem_drop ht)).1,qF.2 t (Tm.ps_mem (mem_of_mem_drop ht)).1⟩
    have hB:∀ t∈b.ps.drop (k+1),t.rng/\t.ok:=fun t ht=>⟨wW.2 t (Tm.ps_mem (mem_of_mem_drop ht)).1,qZ.2 t (Tm.ps_mem (mem_of_mem_drop ht)).1⟩
    have c1:=a2F 1 (.inl rfl) (a.ps.drop (k+1)) (by rw [length_drop];omega) hA (scS x y) (x.size+y.size) q1 (by omega);have b1:=q1.addL (σ:=1) (.inl rfl) (l:=a.ps.drop (k+1));have c2:=a2F (-1) (.inr rfl) (b.ps.drop (k+1)) (by rw [length_drop];omega) hB _ _ b1 (by omega);rw [map_drop] at c1 c2;have jO:vdS (addL (-1) (addL 1 (scS x y) (a.ps.drop (k+1))) (b.ps.drop (k+1))) (kb x y)=kb a b:=by have:=b2Z (w:=kb x y) (by have:=sp3 oU;rw [b1V h,e1] at this;exact this) kE;rw [this,N8 a b,hw,e2]
    refine aS (aR ?_);refine nc zl (nc zl (nc zl (nc zA (nc (zbv (lo:=k+1)) (nc (zW (z:=c1) (B:=A4 _) (C:=v8 _) (G:=i0 (by first | rfl | kernel_rfl))) ?_)))));refine aS (aR ?_);refine nc zl (nc zl (nc zl (nc zA (nc (zbv (lo:=k+1)) (nc (zW (z:=c2) (B:=A4 _) (C:=v8 _) (G:=i0 (by first | rfl | kernel_rfl))) ?_)))));refine aS (aR ?_);refine nc zl (nc zl (nc (zW (z:=S1 _ (kb x y)) (B:=A4 _) (C:=v8 _) (G:=i0 (by first | rfl | kernel_rfl))) (nc ze ?_)));rw [jO,b1V h,e1];exact aT ⟨.inr rfl,_,Wk.refl _,rfl,rfl,rfl,rfl,rfl,rfl,rfl,trivial⟩
   ·have h0:kb x y=0:=by simpa using hc
    rw [q2 h0];refine aK ?_;refine aR ?_;refine nc zA (nc zl ?_);refine ⟨kF,fun j u v hj hu hv=>?_,a7 ⟨rfl,rfl,rfl,rfl,rfl,rfl,rfl,rfl,rfl,rfl,rfl,trivial⟩⟩;rcases Nat.lt_or_ge j k with h | h
    ·exact hI j u v h hu hv
    ·have:j=k:=by omega
     subst this;rw [hx] at hu;rw [hy] at hv;cases hu;cases hv;exact h0
  ·have kF:k=a.ps.length:=by
    have:¬ k<a.ps.length:=by simpa using kA
    omega
   subst kF;obtain ⟨e1,e2⟩:=a4K (l:=a.ps) (m:=b.ps) fun j u v hu hv=>hI j u v (by
    rcases Nat.lt_or_ge j a.ps.length with h | h
    ·exact h
    ·rw [List.getElem?_eq_none h] at hu;cases hu) hu hv
   have h0:kb a b=0:=by rw [N8,A9,hw,e2]
   rw [h0,sp2 h0];refine aE ?_;refine aS (aR ?_);refine nc ze ?_;exact aT ⟨.inr rfl,_,Wk.refl _,rfl,rfl,rfl,rfl,rfl,rfl,rfl,trivial⟩
theorem c1u:sst emp=c1U 0 0 0:=b4V rfl
theorem a9E (W:World) (a b:Tm) (hr:a.rng) (kH:a.ok) (hs:a.size<=100000000000) (cJ:b.rng) (jX:b.ok) (eR:b.size<=100000000000):AFun Tryz.prog W 62 [a.cw,b.cw] (.val (.i (kb a b))):=by
 have hc:=a7d a hr kH hs b cJ jX eR;rw [c1u] at hc;refine c9 (rs:=[.i (kb a b)]) Tryz.func62 Tryz.ntmps62 rfl rfl rfl rfl ?_;intro w U hW;refine aS (aR ?_);refine nc zd (nc zd (nc ze ?_));refine aS (aR ?_);refine nc (zbw 350001 (hnf:=fun v h=>by first | (rw [hW.1] at h;cases h) | (have h2:=hU _ v h;cases h2))) ?_;refine AWp.wk ((a7 (s':=[(2,AV.bp 2 0 []),(100002,.bx a.cw),(3,.bp 3 0 []),(100003,.bx b.cw),(5,.bp 350001 0 []),(450001,.obj),(35500100,.val (.i 0)),(35500101,.val (.sc (.map none))),(35500102,.val (.i 0)),(35500103,.val (.i 0))]) ⟨rfl,rfl,rfl,rfl,rfl,by kernel_rfl,by kernel_rfl,by kernel_rfl,by kernel_rfl,by kernel_rfl,trivial⟩).trans (b8E 35500101 300001 rfl rfl rfl (by kernel_rfl) (by kernel_rfl))) ?_;refine aS (aR ?_);refine nc zj (nc zj (nc (zW (z:=hc) (B:=by kernel_rfl) (C:=v8 _) (G:=i0 (by first | rfl | kernel_rfl))) (nc ze ?_)));exact aT ⟨.inr rfl,rfl⟩
theorem a7b (W:World) (a b:Tm) (hr:a.rng) (kH:a.ok) (hs:a.size<=100000000000) (cJ:b.rng) (jX:b.ok) (eR:b.size<=100000000000):AFun Tryz.prog W 170 [a.cw,b.cw] (.val (.b (decide (kb a b=1)))):=by
 refine c9 (rs:=[.b (decide (kb a b=1))]) Tryz.func170 Tryz.ntmps170 rfl rfl rfl rfl ?_;intro w U hW;refine aS (aR ?_);refine nc zd (nc zd (nc ze ?_));refine aS (aR ?_);refine nc zj (nc zj (nc (zk (z:=a9E w a b hr kH hs cJ jX eR)) (nc zD (nc ze ?_))));exact aT ⟨.inr rfl,rfl⟩
def zTm:Tm:=⟨0,[]⟩
theorem b2w (a:List Tm) (k i:Nat) (hi:i<a.length) :
  (((a++List.replicate k zTm).map Tm.cv).take i++((((a++List.replicate k zTm).map Tm.cv).drop (i+1)).take (a.length-(i+1))++((a++List.replicate k zTm).map Tm.cv).drop (i+(a.length-(i+1))))).take (a.length-1)++(List.replicate (a.length-(a.length-1)) zTm.cv++(((a++List.replicate k zTm).map Tm.cv).take i++((((a++List.replicate k zTm).map Tm.cv).drop (i+1)).take (a.length-(i+1))++((a++List.replicate k zTm).map Tm.cv).drop (i+(a.length-(i+1))))).drop (a.length-1+(a.length-(a.length-1))))=(a.eraseIdx i++List.replicate (k+1) zTm).map Tm.cv:=by
 have e1:((a++List.replicate k zTm).map Tm.cv).take i=(a.take i).map Tm.cv:=by rw [<-map_take,List.take_append_of_le_length (by omega)]
 have e2:(((a++List.replicate k zTm).map Tm.cv).drop (i+1)).take (a.length-(i+1))=(a.drop (i+1)).map Tm.cv:=by rw [<-map_drop,<-map_take,List.drop_append_of_le_length (by omega),List.take_append_of_le_length (by rw [length_drop];exact Nat.le_refl _),List.take_of_length_le (by rw [length_drop];exact Nat.le_refl _)]
 obtain ⟨E,hE⟩:∃ E,E=(a.eraseIdx i).map Tm.cv:=⟨_,rfl⟩
 have hEl:E.length=a.length-1:=by rw [hE,length_map,List.length_eraseIdx_of_lt hi]
 have e3:(a.take i).map Tm.cv++((a.drop (i+1)).map Tm.cv++((a++List.replicate k zTm).map Tm.cv).drop (i+(a.length-(i+1))))=E++((a++List.replicate k zTm).map Tm.cv).drop (a.length-1):=by rw [<-List.append_assoc,<-map_append,<-List.eraseIdx_eq_take_drop_succ,<-hE,show i+(a.length-(i+1))=a.length-1 by omega]
 rw [e1,e2,e3];have e4:a.length-(a.length-1)=1:=by omega
 have e5:a.length-1+1=a.length:=by omega
 have e7:(a.eraseIdx i++List.replicate (k+1) zTm).map Tm.cv=E++List.replicate (k+1) zTm.cv:=by rw [map_append,<-hE,List.map_replicate]
 rw [e4,e5,<-hEl,List.take_left,e7];have e6:(E++((a++List.replicate k zTm).map Tm.cv).drop E.length).drop a.length=List.replicate k zTm.cv:=by rw [List.drop_append,List.drop_eq_nil_of_le (by omega),List.nil_append,List.drop_drop,show E.length+(a.length-E.length)=a.length by omega,<-map_drop,List.drop_left,List.map_replicate]
 rw [e6,List.replicate_succ];rfl
theorem a7I (a:List Tm) (k:Nat):((a++List.replicate k zTm).map Tm.cv).take a.length=a.map Tm.cv:=by rw [<-map_take,List.take_left]
theorem a9W (W:World) (p:Tm->Bool) (fc:CV) (c:List Tm) (hl:c.length<=1000000) (hc:∀ W,∀ x∈c,P7 Tryz.prog W fc [x.cw] (.val (.b (p x)))):AFun Tryz.prog W 166 [.lst (c.map Tm.cv),fc] (.val (.i (match c.findIdx? p with | some i=>(i:Int) | none => -1))):=by
 have kC:=Tm.size_all c;obtain ⟨R,hR⟩:∃ R:Int,R=match c.findIdx? p with | some i=>(i:Int) | none => -1:=⟨_,rfl⟩
 rw [<-hR];refine c9 (rs:=[.i R]) Tryz.func166 Tryz.ntmps166 rfl rfl rfl rfl ?_;intro w U hW;refine aS (aR ?_);refine nc ze ?_;refine aS (aS (aR ?_));refine nc zl (nc zo (nc zl ?_));refine aB (C0 c.length (fun k=>∀ x∈c.take k,p x=false) (fun k=>[(0,.val (.lst (c.map Tm.cv))),(1,.val fc),(7,.val (.i (c.map Tm.cv).length)),(8,.val (.i k))]) (a7 ⟨rfl,rfl,rfl,rfl,trivial⟩) (by simp) ?_);intro k hk hI;refine aS (aR ?_);refine nc zi ?_;refine aS (aC rfl (fun kA=>?_) (fun kA=>?_))
 ·have kF:k<c.length:=by simpa using kA
  obtain ⟨x,hx⟩:∃ x,c[k]?=some x:=⟨c[k],getElem?_eq_getElem kF⟩
  have kS:=Tm.map_at hx;have cH:=mem_of_getElem? hx;refine aK ?_;refine aS (aB (aS (aR ?_)));refine nc zl (nc ze ?_);refine aS (aR ?_);refine nc zl (nc zl (nc zl (nc (zt (j:=k) (H:=kS) (hz:=kC)) (nc zu (nc (zQ (E:=hc w x cH)) ?_)))));refine aC rfl (fun hp=>?_) (fun hp=>?_)
  ·have iL:R=k:=by
    rw [hR];have:c.findIdx? p=some k:=by rw [List.findIdx?_eq_some_iff_getElem];obtain ⟨gW,e⟩:=List.getElem?_eq_some_iff.1 hx;refine ⟨gW,by rw [e];exact hp,fun j hj=>?_⟩;have:=hI c[j] (List.mem_take_iff_getElem.2 ⟨j,by omega,rfl⟩);simpa using this
    rw [this]
   rw [iL];refine aS (aR ?_);refine nc zl (nc ze ?_);exact aT (And.intro (.inr rfl) rfl)
  ·refine aK ?_;refine aR ?_;refine nc zA (nc zl ?_);refine ⟨kF,?_,a7 ⟨rfl,rfl,rfl,rfl,trivial⟩⟩;intro y hy;rw [take_add_one,hx,List.mem_append] at hy;rcases hy with hy | hy
   ·exact hI y hy
   ·simp at hy;rw [hy];exact hp
 ·have kF:k=c.length:=by
   have:¬ k<c.length:=by simpa using kA
   omega
  subst kF;rw [take_length] at hI;have hRn:R = -1:=by rw [hR,List.findIdx?_eq_none_iff.2 fun x hx=>by rw [hI x hx]]
  rw [hRn];refine aE ?_;refine aS (aR ?_);refine nc ze ?_;exact aT (And.intro (.inr rfl) rfl)
theorem a9T (W:World) (p:Tm->Bool) (fc:CV) (c:List Tm) (hl:c.length<=1000000) (hc:∀ W,∀ x∈c,P7 Tryz.prog W fc [x.cw] (.val (.b (p x)))):AFun Tryz.prog W 145 [.lst (c.map Tm.cv),fc] (.val (.b (c.any p))):=by
 have e:decide ((match c.findIdx? p with | some i=>(i:Int) | none => -1)>=0)=c.any p:=by
  cases h:c.findIdx? p with
  | none =>
   have h1:=List.findIdx?_eq_none_iff.1 h;have:c.any p=false:=by rw [List.any_eq_false];intro x hx;rw [h1 x hx];simp
   rw [this];rfl
  | some i =>
   obtain ⟨hi,hp,_⟩:=List.findIdx?_eq_some_iff_getElem.1 h;have:c.any p=true:=List.any_eq_true.2 ⟨_,List.getElem_mem hi,hp⟩;rw [this];simp
 refine c9 (rs:=[.b (c.any p)]) Tryz.func145 Tryz.ntmps145 rfl rfl rfl rfl ?_;intro w U hW;refine aS (aR ?_);refine nc ze ?_;refine aS (aR ?_);refine nc zl (nc zl (nc (zk (z:=a9W w p fc c hl hc)) (nc zn (nc ze ?_))));rw [e];exact aT (And.intro (.inr rfl) rfl)
theorem a5l (a:List Tm) (k i:Nat) (hi:i<a.length) (hb:a.length+k<=1000000):r5 Tryz.prog 168 [(400001,.mrow 41 2 ((a++List.replicate k zTm).map Tm.cv))] [.sl 400001 0 a.length 2,.val (.i i),.val (.i ((i:Int)+1))] (.sl 400001 0 (a.length-1) 2) [(400001,.mrow 41 2 ((a.eraseIdx i++List.replicate (k+1) zTm).map Tm.cv))]:=by
 refine l6 Tryz.func168 Tryz.ntmps168 rfl rfl rfl rfl rfl rfl ?_;intro w U hU;obtain ⟨l,hl⟩:∃ l,l=(a++List.replicate k zTm).map Tm.cv:=⟨_,rfl⟩
 have dI:l.length=a.length+k:=by rw [hl];simp
 rw [<-hl];refine aS (aR ?_);refine nc ze ?_;refine aS (aR ?_);refine nc zl (nc zl (nc zl (nc zl (nc zX (nc (zbx (i) (i+1) (a.length)) ?_)))));refine aS (aS (aR ?_));refine nc zl (nc zl (nc zD ?_));refine aC rfl (fun h=>?_) (fun h=>?_)
 ·have h:decide ((i:Int)=(i:Int)+1)=true:=h;have:=of_decide_eq_true h;omega
 refine aK ?_;refine AWp.wk (a7 (s':=[(0,.sl 400001 0 a.length 2),(1,.val (.i i)),(2,.val (.i ((i:Int)+1))),(400001,.mrow 41 2 l)]) ⟨rfl,rfl,rfl,rfl,trivial⟩) ?_;refine aS (aR ?_);refine nc zl (nc zX (nc ze ?_));refine aS (aD (by kernel_rfl) (by kernel_rfl) ?_);refine nc zl (nc zl (nc (z4 (j:=i)) (nc zl (nc zl (nc (zY (j:=i+1)) (nc zby (nc ze ?_)))))));refine ⟨by kernel_rfl,?_⟩;obtain ⟨r1,iM⟩:∃ r1,r1=l.take i++((l.drop (0+(i+1))).take (a.length-(i+1))++l.drop (i+(a.length-(i+1)))):=⟨_,rfl⟩
 have hr1l:r1.length=l.length:=by rw [iM];simp only [length_append,List.length_take,length_drop];omega
 have e1:i+(a.length-(i+1))=a.length-1:=by omega
 refine AWp.wk (a7 (s':=[(0,.sl 400001 0 (a.length-1) 2),(7,.val (.i a.length)),(400001,.mrow 41 2 r1)]) ⟨by rw [<-e1];rfl,rfl,by rw [iM];rfl,trivial⟩) ?_;refine aS (aR ?_);refine nc zl (nc zl (nc zX (nc zl (nc (zbz (a.length-1) (a.length)) (nc z0 ?_)))));refine aS (aR ?_);refine nc zl (nc ze ?_);refine aT ⟨.inr rfl,_,Wk.refl _,rfl,?_,trivial⟩;show some (AV.mrow _ _ _)=some (AV.mrow _ _ _);have e2:=b2w a k i hi;rw [<-hl] at e2;rw [<-e2,iM,Nat.zero_add];rfl
theorem a5v (a:List Tm) (k i:Nat) (hi:i<a.length) (hb:a.length+k<=1000000):r5 Tryz.prog 168 [(400002,.mrow 41 2 ((a++List.replicate k zTm).map Tm.cv))] [.sl 400002 0 a.length 2,.val (.i i),.val (.i ((i:Int)+1))] (.sl 400002 0 (a.length-1) 2) [(400002,.mrow 41 2 ((a.eraseIdx i++List.replicate (k+1) zTm).map Tm.cv))]:=by
 refine l6 Tryz.func168 Tryz.ntmps168 rfl rfl rfl rfl rfl rfl ?_;intro w U hU;obtain ⟨l,hl⟩:∃ l,l=(a++List.replicate k zTm).map Tm.cv:=⟨_,rfl⟩
 have dI:l.length=a.length+k:=by rw [hl];simp
 rw [<-hl];refine aS (aR ?_);refine nc ze ?_;refine aS (aR ?_);refine nc zl (nc zl (nc zl (nc zl (nc zX (nc (zbx (i) (i+1) (a.length)) ?_)))));refine aS (aS (aR ?_));refine nc zl (nc zl (nc zD ?_));refine aC rfl (fun h=>?_) (fun h=>?_)
 ·have h:decide ((i:Int)=(i:Int)+1)=true:=h;have:=of_decide_eq_true h;omega
 refine aK ?_;refine AWp.wk (a7 (s':=[(0,.sl 400002 0 a.length 2),(1,.val (.i i)),(2,.val (.i ((i:Int)+1))),(400002,.mrow 41 2 l)]) ⟨rfl,rfl,rfl,rfl,trivial⟩) ?_;refine aS (aR ?_);refine nc zl (nc zX (nc ze ?_));refine aS (aD (by kernel_rfl) (by kernel_rfl) ?_);refine nc zl (nc zl (nc (z4 (j:=i)) (nc zl (nc zl (nc (zY (j:=i+1)) (nc zby (nc ze ?_)))))));refine ⟨by kernel_rfl,?_⟩;obtain ⟨r1,iM⟩:∃ r1,r1=l.take i++((l.drop (0+(i+1))).take (a.length-(i+1))++l.drop (i+(a.length-(i+1)))):=⟨_,rfl⟩
 have hr1l:r1.length=l.length:=by rw [iM];simp only [length_append,List.length_take,length_drop];omega
 have e1:i+(a.length-(i+1))=a.length-1:=by omega
 refine AWp.wk (a7 (s':=[(0,.sl 400002 0 (a.length-1) 2),(7,.val (.i a.length)),(400002,.mrow 41 2 r1)]) ⟨by rw [<-e1];rfl,rfl,by rw [iM];rfl,trivial⟩) ?_;refine aS (aR ?_);refine nc zl (nc zl (nc zX (nc zl (nc (zbz (a.length-1) (a.length)) (nc z0 ?_)))));refine aS (aR ?_);refine nc zl (nc ze ?_);refine aT ⟨.inr rfl,_,Wk.refl _,rfl,?_,trivial⟩;show some (AV.mrow _ _ _)=some (AV.mrow _ _ _);have e2:=b2w a k i hi;rw [<-hl] at e2;rw [<-e2,iM,Nat.zero_add];rfl
theorem b4F (W:World) (t u:Tm) (ht:t.rng) (hu:u.rng):AFun Tryz.prog W 167 [u.cw,.ptr t.cw] (.val (.b (E5 t u))):=by
 refine c9 (rs:=[.b (E5 t u)]) Tryz.func167 Tryz.ntmps167 rfl rfl rfl rfl ?_;intro w U hW;refine aS (aR ?_);refine nc zd (nc ze ?_);refine aS (aR ?_);refine nc zI (nc zj (nc (zk (z:=b6z w ht hu)) (nc ze ?_)));exact aT (And.intro (.inr rfl) rfl)
noncomputable def rwT (n:Nat) (a:List Tm) (k:Nat):Nat×AV:=(n,.mrow 41 2 ((a++List.replicate k zTm).map Tm.cv))
theorem a3E:∀ (n:Nat) (a b:List Tm),(E3 n a b).1.length<=a.length/\(E3 n a b).2.length<=b.length
 | 0,a,b=>⟨Nat.le_refl _,Nat.le_refl _⟩
 | n+1,a,b=>by
  unfold E3;split
  ·exact a3E n a b
  ·split
   ·exact a3E n a b
   ·rename_i k hk;have h:=a3E n (a.eraseIdx n) (b.eraseIdx k);exact ⟨Nat.le_trans h.1 (List.length_eraseIdx_le _ _),Nat.le_trans h.2 (List.length_eraseIdx_le _ _)⟩
theorem a3s:∀ (n:Nat) (a b:List Tm),(∀ t∈(E3 n a b).1,t∈a)/\∀ t∈(E3 n a b).2,t∈b
 | 0,a,b=>⟨fun _ h=>h,fun _ h=>h⟩
 | n+1,a,b=>by
  unfold E3;split
  ·exact a3s n a b
  ·split
   ·exact a3s n a b
   ·rename_i k hk;have h:=a3s n (a.eraseIdx n) (b.eraseIdx k);exact ⟨fun t ht=>List.mem_of_mem_eraseIdx (h.1 t ht),fun t ht=>List.mem_of_mem_eraseIdx (h.2 t ht)⟩
theorem b6v (a b:List Tm) (ha:∀ t∈a,t.rng) (hb:∀ t∈b,t.rng) (fJ:a.length<=100000) (lT:b.length<=100000) :
  a5N Tryz.prog 142 [rwT 400001 a 0,rwT 400002 b 0] 400001 400002 (fun v1 v2=>[.val (.sc (M3 v1 a.length)),.val (.sc (M3 v2 b.length))]) (fun v1 v2 => .tup [.sc (M3 v1 (E3 a.length a b).1.length),.sc (M3 v2 (E3 a.length a b).2.length)]) [rwT 400001 (E3 a.length a b).1 (a.length-(E3 a.length a b).1.length),rwT 400002 (E3 a.length a b).2 (b.length-(E3 a.length a b).2.length)]:=by
 refine a4J 2 400001 3 400002 Tryz.func142 Tryz.ntmps142 rfl rfl (fun _ _=>rfl) rfl rfl rfl rfl rfl ?_;intro v1 v2 w U hU;obtain ⟨X,Y,tN⟩:∃ X Y,E3 a.length a b=(X,Y):=⟨_,_,rfl⟩
 rw [tN];have hla:((a++List.replicate 0 zTm).map Tm.cv).length=a.length:=by simp
 have uE:((b++List.replicate 0 zTm).map Tm.cv).length=b.length:=by simp
 refine AWp.wk ((b2Y 0 400001 2 a.length (e:=41) (z:=2) (l:=(a++List.replicate 0 zTm).map Tm.cv) rfl rfl rfl rfl (by omega)).trans ((b2Y 1 400002 3 b.length (e:=41) (z:=2) (l:=(b++List.replicate 0 zTm).map Tm.cv) rfl rfl rfl rfl (by omega)).trans (a7 (s':=[(2,.hdl v1 400001),(3,.hdl v2 400002),(0,.sl 400001 0 a.length 2),(1,.sl 400002 0 b.length 2),rwT 400001 a 0,rwT 400002 b 0]) ⟨rfl,rfl,rfl,rfl,rfl,rfl,trivial⟩))) ?_;refine aS (aR ?_);refine nc ze (nc ze ?_);refine aS (aS (aR ?_));refine nc zl (nc zX (nc zB (nc ze ?_)))
 let st:Nat->List Tm->List Tm->Nat->Nat->AS:=fun m A B ka kb=>[(2,.hdl v1 400001),(3,.hdl v2 400002),(0,.sl 400001 0 A.length 2),(1,.sl 400002 0 B.length 2),(6,.val (.i ((m:Int)-1))),rwT 400001 A ka,rwT 400002 B kb]
 refine aB (t9 (fun j s=>∃ A B ka kb,E3 j A B=(X,Y)/\j<=A.length/\A.length+ka=a.length/\B.length+kb=b.length/\(∀ t∈A,t.rng)/\(∀ t∈B,t.rng)/\s=st j A B ka kb) (s':=st a.length a b 0 0) (a7 ⟨rfl,rfl,rfl,rfl,rfl,rfl,rfl,trivial⟩) ⟨a,b,0,0,tN,Nat.le_refl _,rfl,rfl,ha,hb,rfl⟩ ?_);rintro m s ⟨A,B,ka,kb,hc,hm,hka,hkb,hA,hB,rfl⟩;refine aS (aS (aR ?_));refine nc zl (nc zn ?_);refine aC rfl (fun kA=>?_) (fun kA=>?_)
 ·have qI:0<m:=by have h3:decide ((m:Int)-1>=0)=true:=kA;have:=of_decide_eq_true h3;omega
  obtain ⟨m,rfl⟩:∃ q,m=q+1:=⟨m-1,by omega⟩
  have yP:m<A.length:=by omega
  obtain ⟨t,ht⟩:∃ t,A[m]?=some t:=⟨A[m],getElem?_eq_getElem yP⟩
  have tS:t.rng:=hA t (mem_of_getElem? ht);have qR:((A++List.replicate ka zTm).map Tm.cv)[m]?=some t.cw:=Tm.map_at (by rw [List.getElem?_append_left yP];exact ht);have hlA:((A++List.replicate ka zTm).map Tm.cv).length=A.length+ka:=by simp
  have hlB:((B++List.replicate kb zTm).map Tm.cv).length=B.length+kb:=by simp
  obtain ⟨lA,qJ⟩:∃ lA,lA=(A++List.replicate ka zTm).map Tm.cv:=⟨_,rfl⟩
  refine aK ?_;refine AWp.wk (a7 (s':=[(2,.hdl v1 400001),(3,.hdl v2 400002),(0,.sl 400001 0 A.length 2),(1,.sl 400002 0 B.length 2),(6,.val (.i (((m+1:Nat):Int)-1))),(400001,.mrow 41 2 lA),rwT 400002 B kb]) ⟨rfl,rfl,rfl,rfl,rfl,by rw [qJ];rfl,rfl,trivial⟩) ?_;rw [<-qJ] at qR hlA;refine aS (aB (aS (aR ?_)));refine nc zl (nc zl (nc (zO (k:=m)) (nc (zP (G:=qR)) (nc zw (nc zx ?_)))));refine AWp.wk (p9 7 rfl rfl rfl (s':=[(2,.hdl v1 400001),(3,.hdl v2 400002),(0,.sl 400001 0 A.length 2),(1,.sl 400002 0 B.length 2),(6,.val (.i (((m+1:Nat):Int)-1))),(400001,.mrow 41 2 lA),rwT 400002 B kb]) ⟨rfl,rfl,rfl,rfl,rfl,rfl,rfl,trivial⟩ rfl rfl rfl) ?_;have hI:=a9W w (E5 t) (.fn 167 0 [.ptr t.cw]) B (by omega) (fun w x hx => .inl ⟨_,_,_,rfl,b4F w t x tS (hB x hx)⟩);rw [<-a7I B kb] at hI;have fG:=b1p (e:=41) (z:=2) (nm:=400002) (N:=B.length) (by omega) (by omega) (by omega) hI;refine aS (aR ?_);refine nc zl (nc zG (nc (zW (z:=fG) (G:=i0 (by first | rfl | kernel_rfl))) (nc ze ?_)));obtain ⟨J,hJ⟩:∃ J:Int,J=(match B.findIdx? (E5 t) with | some i=>(i:Int) | none => -1):=⟨_,rfl⟩
  refine AWp.wk (a7 (s':=[(2,.hdl v1 400001),(3,.hdl v2 400002),(0,.sl 400001 0 A.length 2),(1,.sl 400002 0 B.length 2),(6,.val (.i (((m+1:Nat):Int)-1))),(8,.val (.i J)),(400001,.mrow 41 2 lA),rwT 400002 B kb]) ⟨rfl,rfl,rfl,rfl,rfl,by rw [hJ];rfl,rfl,rfl,trivial⟩) ?_;refine aS (aR ?_);refine nc zl (nc zn ?_);unfold E3 at hc;rw [ht] at hc;simp only at hc;refine aC rfl (fun hf=>?_) (fun hf=>?_)
  ·have hf:decide (J>=0)=true:=hf;cases mF:B.findIdx? (E5 t) with
   | none=>rw [mF] at hJ;rw [hJ] at hf;simp at hf
   | some k =>
    rw [mF] at hJ hc;have hc:E3 m (A.eraseIdx m) (B.eraseIdx k)=(X,Y):=hc;obtain ⟨kF,_,_⟩:=List.findIdx?_eq_some_iff_getElem.1 mF;refine AWp.wk (a7 (s':=[(2,.hdl v1 400001),(3,.hdl v2 400002),(0,.sl 400001 0 A.length 2),(1,.sl 400002 0 B.length 2),(6,.val (.i (m:Int))),(8,.val (.i (k:Int))),rwT 400001 A ka,rwT 400002 B kb]) ⟨rfl,rfl,rfl,rfl,?_,by rw [hJ];rfl,by rw [qJ];rfl,rfl,trivial⟩) ?_
    ·show some (AV.val (.i (((m+1:Nat):Int)-1)))=some (AV.val (.i (m:Int)));rw [show ((m+1:Nat):Int)-1=(m:Int) by omega]
    refine aR ?_;refine nc zl (nc zl (nc zl (nc zA (nc (zW (z:=a5l A ka m yP (by omega)) (G:=i0 (by first | rfl | kernel_rfl))) (nc zl (nc zl (nc zl (nc zA (nc (zW (z:=a5v B kb k kF (by omega)) (G:=i0 (by first | rfl | kernel_rfl))) (nc ze (nc ze ?_)))))))))));have hAe:(A.eraseIdx m).length=A.length-1:=List.length_eraseIdx_of_lt yP;have hBe:(B.eraseIdx k).length=B.length-1:=List.length_eraseIdx_of_lt kF;refine AWp.wk (a7 (s':=[(2,.hdl v1 400001),(3,.hdl v2 400002),(0,.sl 400001 0 (A.eraseIdx m).length 2),(1,.sl 400002 0 (B.eraseIdx k).length 2),(6,.val (.i (m:Int))),rwT 400001 (A.eraseIdx m) (ka+1),rwT 400002 (B.eraseIdx k) (kb+1)]) ⟨rfl,rfl,by rw [hAe];rfl,by rw [hBe];rfl,rfl,rfl,rfl,trivial⟩) ?_;refine aR ?_;refine nc zl (nc zB (nc ze ?_));refine ⟨m,st m (A.eraseIdx m) (B.eraseIdx k) (ka+1) (kb+1),by omega,⟨_,_,_,_,hc,by omega,by omega,by omega,fun t h=>hA t (List.mem_of_mem_eraseIdx h),fun t h=>hB t (List.mem_of_mem_eraseIdx h),rfl⟩,a7 ⟨rfl,rfl,rfl,rfl,rfl,rfl,rfl,trivial⟩⟩
  ·have hf:decide (J>=0)=false:=hf;cases mF:B.findIdx? (E5 t) with
   | some k=>rw [mF] at hJ;rw [hJ] at hf;simp at hf
   | none =>
    rw [mF] at hc;have hc:E3 m A B=(X,Y):=hc;refine aK ?_;refine AWp.wk (a7 (s':=[(2,.hdl v1 400001),(3,.hdl v2 400002),(0,.sl 400001 0 A.length 2),(1,.sl 400002 0 B.length 2),(6,.val (.i (m:Int))),rwT 400001 A ka,rwT 400002 B kb]) ⟨rfl,rfl,rfl,rfl,?_,by rw [qJ];rfl,rfl,trivial⟩) ?_
    ·show some (AV.val (.i (((m+1:Nat):Int)-1)))=some (AV.val (.i (m:Int)));rw [show ((m+1:Nat):Int)-1=(m:Int) by omega]
    refine aR ?_;refine nc zl (nc zB (nc ze ?_));refine ⟨m,st m A B ka kb,by omega,⟨_,_,_,_,hc,by omega,hka,hkb,hA,hB,rfl⟩,a7 ⟨rfl,rfl,rfl,rfl,rfl,rfl,rfl,trivial⟩⟩
 ·have qI:m=0:=by have h3:decide ((m:Int)-1>=0)=false:=kA;have:=of_decide_eq_false h3;omega
  subst qI;unfold E3 at hc;cases hc;have hkA:ka=a.length-X.length:=by omega
  have hkB:kb=b.length-Y.length:=by omega
  subst hkA hkB;refine aE ?_;refine aS (aR ?_);refine nc zl (nc zl (nc ze (nc ze ?_)));refine aT ⟨.inr rfl,_,(a0e 4 400001 2 rfl rfl rfl).trans (a0e 5 400002 3 rfl rfl rfl),rfl,rfl,rfl,trivial⟩
structure Lt where
 neg:Bool
 a:Tm
 b:Tm
noncomputable abbrev Lt.cw (l:Lt):CV := .row [.b l.neg,l.a.cw,l.b.cw]
noncomputable def Lt.cv (l:Lt):CV:=l.cw
theorem Lt.size_all (c:List Lt):∀ x∈c.map Lt.cv,x.size=5:=by
 intro x hx;obtain ⟨l,_,rfl⟩:=mem_map.1 hx;rfl
theorem Lt.map_at {c:List Lt} {i:Nat} {l:Lt} (h:c[i]?=some l):(c.map Lt.cv)[i]?=some l.cw:=by rw [List.getElem?_map,h];rfl
def Lt.strip (l:Lt):Lt:=⟨l.neg,l.a.strip,l.b.strip⟩
def Lt.rng (l:Lt):Prop:=l.a.rng/\l.b.rng
def Tm.fit (t:Tm):Prop:=t.rng/\t.ok/\t.size<=90000000000
theorem b6j (W:World) (t u:Tm) (ht:t.fit) (hu:u.fit):AFun Tryz.prog W 169 [u.cw,.ptr t.cw] (.val (.b (decide (kb u t=1)))):=by
 refine c9 (rs:=[.b (decide (kb u t=1))]) Tryz.func169 Tryz.ntmps169 rfl rfl rfl rfl ?_;intro w U hW;refine aS (aR ?_);refine nc zd (nc ze ?_);refine aS (aR ?_);refine nc zj (nc zI (nc (zk (z:=a7b w u t hu.1 hu.2.1 (Nat.le_trans hu.2.2 (by omega)) ht.1 ht.2.1 (Nat.le_trans ht.2.2 (by omega)))) (nc ze ?_)));exact aT (And.intro (.inr rfl) rfl)
theorem b3I (W:World) (t:Tm) (l:List Tm) (ht:t.fit) (hl:∀ u∈l,u.fit) (hn:l.length<=100000):AFun Tryz.prog W 144 [t.cw,.lst (l.map Tm.cv)] (.val (.b (l.any fun u=>decide (kb u t=1)))):=by
 refine c9 (rs:=[.b (l.any fun u=>decide (kb u t=1))]) Tryz.func144 Tryz.ntmps144 rfl rfl rfl rfl ?_;intro w U hW;refine aS (aR ?_);refine nc zd (nc ze ?_);refine AWp.wk (p9 2 rfl rfl rfl (s':=[(1,.val (.lst (l.map Tm.cv)))]) ⟨rfl,trivial⟩ rfl rfl rfl) ?_;refine aS (aR ?_);refine nc zl (nc zG ?_);refine nc (zk (z:=a9T w (fun u=>decide (kb u t=1)) (.fn 169 0 [.ptr t.cw]) l (by omega) (fun w x hx => .inl ⟨_,_,_,rfl,b6j w t x ht (hl x hx)⟩))) ?_;refine nc ze ?_;exact aT (And.intro (.inr rfl) rfl)
theorem b5Z (W:World) (t:Tm) (l:List Tm) (ht:t.fit) (hl:∀ u∈l,u.fit) (hn:l.length<=100000):AFun Tryz.prog W 143 [t.cw,.ptr (.lst (l.map Tm.cv))] (.val (.b (!(l.any fun u=>decide (kb u t=1))))):=by
 refine c9 (rs:=[.b (!(l.any fun u=>decide (kb u t=1)))]) Tryz.func143 Tryz.ntmps143 rfl rfl rfl rfl ?_;intro w U hW;refine aS (aR ?_);refine nc zd (nc ze ?_);refine aS (aR ?_);refine nc zj (nc zI (nc (zk (z:=b3I w t l ht hl hn)) (nc zZ (nc ze ?_))));exact aT (And.intro (.inr rfl) rfl)
theorem b6L (a b:List Tm) (ha:∀ t∈a,t.fit) (hb:∀ t∈b,t.fit) (fJ:a.length<=100000) (lT:b.length<=100000) :
  r5 Tryz.prog 111 [rwT 400001 a 0,rwT 400002 b 0] [.sl 400001 0 a.length 2,.sl 400002 0 b.length 2] (.val (.b (a7y a b))) [rwT 400001 (E3 a.length a b).1 (a.length-(E3 a.length a b).1.length),rwT 400002 (E3 a.length a b).2 (b.length-(E3 a.length a b).2.length)]:=by
 have hC:=b6v a b (fun t h=>(ha t h).1) (fun t h=>(hb t h).1) fJ lT;have eF:=a3E a.length a b;have mK:=a3s a.length a b;have hmB:a7y a b=a9V (E3 a.length a b).1 (E3 a.length a b).2:=rfl;rw [hmB];obtain ⟨X,Y,tN⟩:∃ X Y,E3 a.length a b=(X,Y):=⟨_,_,rfl⟩
 rw [tN] at hC eF mK |-;simp only at hC eF mK |-;have hX:∀ t∈X,t.fit:=fun t h=>ha t (mK.1 t h);have hY:∀ t∈Y,t.fit:=fun t h=>hb t (mK.2 t h);refine l6 Tryz.func111 Tryz.ntmps111 rfl rfl rfl rfl rfl rfl ?_;intro w U hU;refine AWp.hdl 20 400001 rfl rfl rfl fun v1=>?_;refine AWp.hdl 21 400002 rfl rfl rfl fun v2=>?_;refine AWp.wk ((a0e 0 400001 20 rfl rfl rfl).trans ((a0e 1 400002 21 rfl rfl rfl).trans (a7 (s':=[(20,.hdl v1 400001),(21,.hdl v2 400002),(0,.val (.sc (M3 v1 a.length))),(1,.val (.sc (M3 v2 b.length))),rwT 400001 a 0,rwT 400002 b 0]) ⟨rfl,rfl,rfl,rfl,rfl,rfl,trivial⟩))) ?_;refine aS (aR ?_);refine nc zd (nc ze ?_);refine aS (aR ?_);refine nc zj (nc zl (nc (zbA 20 21 (x:=hC) (hnb:=i0 (by first | rfl | kernel_rfl))) (nc zl (nc zE (nc zE (nc zx (nc ze ?_)))))));obtain ⟨kx,oR⟩:∃ kx,kx=a.length-X.length:=⟨_,rfl⟩
 obtain ⟨ky,hky⟩:∃ ky,ky=b.length-Y.length:=⟨_,rfl⟩
 rw [<-oR,<-hky];refine AWp.wk (a7 (s':=[(20,.hdl v1 400001),(21,.hdl v2 400002),(1,.val (.sc (M3 v2 Y.length))),(2,.bp 2 0 []),(100002,.bx (.sc (M3 v1 X.length))),rwT 400001 X kx,rwT 400002 Y ky]) ⟨rfl,rfl,rfl,rfl,rfl,rfl,rfl,trivial⟩) ?_;refine b6r (R:=fun e=>e = .normal\/e = .ret) [(1,.lst (Y.map Tm.cv)),(2,.ptr (.lst (X.map Tm.cv)))] 4 (.bool (a9V X Y)) [rwT 400001 X kx,rwT 400002 Y ky] ?_ ?_ ⟨rfl,rfl,trivial⟩ rfl rfl rfl (fun e he=>⟨he,_,Wk.refl _,rfl,rfl,rfl,trivial⟩)
 ·intro a w D hv h q hq;obtain ⟨_,_,iM,iK⟩:∃ u,a.tmps[20]?=some u/\RN 400001/\hv 400001=v1:=h.slot 20 _ rfl (by omega);obtain ⟨_,_,iY,jA⟩:∃ u,a.tmps[21]?=some u/\RN 400002/\hv 400002=v2:=h.slot 21 _ rfl (by omega);have w1:=h.view (n:=400001) (e:=41) (z:=2) (l:=(X++List.replicate kx zTm).map Tm.cv) (len:=X.length) rfl iM (by simp);have w2:=h.view (n:=400002) (e:=41) (z:=2) (l:=(Y++List.replicate ky zTm).map Tm.cv) (len:=Y.length) rfl iY (by simp);rw [a7I,iK] at w1;rw [a7I,jA] at w2;rcases List.mem_cons.1 hq with rfl | hq
  ·obtain ⟨u,g1,g2⟩:=h.slot 1 _ rfl (by omega);obtain ⟨rfl,_⟩:=n8.1 g2.1;exact ⟨_,g1,w2⟩
  ·rcases List.mem_cons.1 hq with rfl | hq
   ·exact h.viewBox 2 rfl rfl (by omega) (by show (1:Nat)≠2;decide) w1
   ·cases hq
 ·intro w;have hW:Hw w w c2e:=⟨fun _=>rfl,fun _ h=>h⟩
  refine aS (aR ?_);refine nc zG (nc ze ?_);have hcon:=a9T w (fun t=>!(X.any fun u=>decide (kb u t=1))) (.fn 143 0 [.ptr (.lst (X.map Tm.cv))]) Y (by omega) (fun w x hx => .inl ⟨_,_,_,rfl,b5Z w x X (hY x hx) hX (by omega)⟩);by_cases hX0:0<X.length
  ·have g:decide (((X.map Tm.cv).length:Int)>0)=true:=by simp;omega
   have e:a9V X Y=!(Y.any fun t=>!(X.any fun u=>decide (kb u t=1))):=by unfold a9V;rw [decide_eq_true hX0,Bool.true_and]
   rw [e];refine aS (aR ?_);refine nc zI (nc zo (nc zN (nc zl (nc (zl (p:=gb)) (nc (zl (p:=gb)) (nc (zk (p:=gb) (z:=hcon)) (nc (zZ (r:=gb)) (nc zp (nc ze ?_)))))))));exact aT ⟨.inr rfl,rfl⟩
  ·have g:decide (((X.map Tm.cv).length:Int)>0)=false:=decide_eq_false (by rw [length_map];omega);have e:a9V X Y=false:=by unfold a9V;rw [decide_eq_false hX0,Bool.false_and]
   rw [e];refine aS (aR ?_);refine nc zI (nc zo (nc zN (nc zl (nc zq (nc zq (nc zq (nc zq (nc zr (nc ze ?_)))))))));exact aT ⟨.inr rfl,rfl⟩
def J8 (l:Lt):List Tm:=if l.neg then [l.a,l.a,l.b,l.b] else [l.a,l.b]
theorem a9G {l:Lt} {p:Tm->Prop} (h:p l.a/\p l.b):∀ t∈J8 l,p t:=by
 intro t ht;unfold J8 at ht;split at ht<;>simp at ht<;>rcases ht with rfl | rfl
 all_goals first | exact h.1 | exact h.2
theorem a9L (l:Lt):(J8 l).length<=4:=by unfold J8;split<;>simp
theorem a8D (l:Lt):r5 Tryz.prog 112 [] [.val l.cw] (.sl 400001 0 (J8 l).length 2) [rwT 400001 (J8 l) 0]:=by
 refine l6 Tryz.func112 Tryz.ntmps112 rfl rfl rfl rfl rfl rfl ?_;intro w U hU;have sK:U.f 400001=none:=by
  cases e:U.f 400001 with
  | none=>rfl
  | some v=>have:=hU _ v e;cases this
 have e1:l.a.cw=l.a.cv:=(Tm.cv_eq _).symm;have e2:l.b.cw=l.b.cv:=(Tm.cv_eq _).symm;refine aS (aR ?_);refine nc zd (nc ze ?_);refine aS (aS (aR ?_));refine nc zg (nc zh ?_);refine aC rfl (fun hc=>?_) (fun hc=>?_)
 ·have e:J8 l=[l.a,l.a,l.b,l.b]:=by unfold J8;rw [if_pos hc]
  rw [e];refine aS (aR ?_);refine nc zg (nc zh (nc zg (nc zh (nc zg (nc zh (nc zg (nc zh (nc (zbB 250007) (nc ze ?_)))))))));refine aT ⟨.inr rfl,_,(a7 (s':=[(2,.sl 250007 0 4 2),(250007,.mrow 41 2 (([l.a,l.a,l.b,l.b]++List.replicate 0 zTm).map Tm.cv))]) ⟨rfl,?_,trivial⟩).trans (x7 250007 400001 rfl rfl sK rfl rfl rfl),rfl,rfl,trivial⟩;show some (AV.mrow _ _ _)=some (AV.mrow _ _ _);simp only [replicate_zero,append_nil,map_cons,map_nil,Tm.cv_eq];rfl
 ·have e:J8 l=[l.a,l.b]:=by unfold J8;rw [if_neg (by rw [hc];decide)]
  rw [e];refine aK ?_;refine aS (aR ?_);refine nc zg (nc zh (nc zg (nc zh (nc (zbB 250007) (nc ze ?_)))));refine aT ⟨.inr rfl,_,(a7 (s':=[(2,.sl 250007 0 2 2),(250007,.mrow 41 2 (([l.a,l.b]++List.replicate 0 zTm).map Tm.cv))]) ⟨rfl,?_,trivial⟩).trans (x7 250007 400001 rfl rfl sK rfl rfl rfl),rfl,rfl,trivial⟩;show some (AV.mrow _ _ _)=some (AV.mrow _ _ _);simp only [replicate_zero,append_nil,map_cons,map_nil,Tm.cv_eq];rfl
theorem a8B (l:Lt):r5 Tryz.prog 112 [] [.val l.cw] (.sl 400002 0 (J8 l).length 2) [rwT 400002 (J8 l) 0]:=by
 refine l6 Tryz.func112 Tryz.ntmps112 rfl rfl rfl rfl rfl rfl ?_;intro w U hU;have sK:U.f 400002=none:=by
  cases e:U.f 400002 with
  | none=>rfl
  | some v=>have:=hU _ v e;cases this
 have e1:l.a.cw=l.a.cv:=(Tm.cv_eq _).symm;have e2:l.b.cw=l.b.cv:=(Tm.cv_eq _).symm;refine aS (aR ?_);refine nc zd (nc ze ?_);refine aS (aS (aR ?_));refine nc zg (nc zh ?_);refine aC rfl (fun hc=>?_) (fun hc=>?_)
 ·have e:J8 l=[l.a,l.a,l.b,l.b]:=by unfold J8;rw [if_pos hc]
  rw [e];refine aS (aR ?_);refine nc zg (nc zh (nc zg (nc zh (nc zg (nc zh (nc zg (nc zh (nc (zbB 250007) (nc ze ?_)))))))));refine aT ⟨.inr rfl,_,(a7 (s':=[(2,.sl 250007 0 4 2),(250007,.mrow 41 2 (([l.a,l.a,l.b,l.b]++List.replicate 0 zTm).map Tm.cv))]) ⟨rfl,?_,trivial⟩).trans (x7 250007 400002 rfl rfl sK rfl rfl rfl),rfl,rfl,trivial⟩;show some (AV.mrow _ _ _)=some (AV.mrow _ _ _);simp only [replicate_zero,append_nil,map_cons,map_nil,Tm.cv_eq];rfl
 ·have e:J8 l=[l.a,l.b]:=by unfold J8;rw [if_neg (by rw [hc];decide)]
  rw [e];refine aK ?_;refine aS (aR ?_);refine nc zg (nc zh (nc zg (nc zh (nc (zbB 250007) (nc ze ?_)))));refine aT ⟨.inr rfl,_,(a7 (s':=[(2,.sl 250007 0 2 2),(250007,.mrow 41 2 (([l.a,l.b]++List.replicate 0 zTm).map Tm.cv))]) ⟨rfl,?_,trivial⟩).trans (x7 250007 400002 rfl rfl sK rfl rfl rfl),rfl,rfl,trivial⟩;show some (AV.mrow _ _ _)=some (AV.mrow _ _ _);simp only [replicate_zero,append_nil,map_cons,map_nil,Tm.cv_eq];rfl
theorem b8q (W:World) (x y:Lt) (hx:x.a.fit/\x.b.fit) (hy:y.a.fit/\y.b.fit):AFun Tryz.prog W 86 [x.cw,y.cw] (.val (.b (a7y (J8 x) (J8 y)))):=by
 have hT1:=a8D x;have hT2:=a8B y;have l1:=a9L x;have l2:=a9L y;have hO:=b6L (J8 x) (J8 y) (a9G hx) (a9G hy) (by omega) (by omega);refine c9 (rs:=[.b (a7y (J8 x) (J8 y))]) Tryz.func86 Tryz.ntmps86 rfl rfl rfl rfl ?_;intro w U hW;refine aS (aR ?_);refine nc zd (nc zd (nc ze ?_));refine aS (aD (by kernel_rfl) (by kernel_rfl) ?_);refine nc zj ?_;refine nc (zW (z:=hT1) (G:=fun k v h=>by first | (rw [hW.1] at h;cases h) | (have h2:=hU k v h;cases h2))) ?_;refine nc zj ?_;refine nc (zW (z:=hT2) (G:=fun k v h=>by first | (rw [hW.1] at h;cases h) | (have h2:=hU k v h;cases h2))) ?_;refine nc (zW (z:=hO) (G:=i0 (by first | rfl | kernel_rfl))) (nc ze ?_);refine ⟨by kernel_rfl,?_⟩;exact aT (And.intro (.inr rfl) rfl)
def okC (c:List Lt):Prop:=∀ l∈c,l.a.rng/\l.b.rng
theorem b5L (W:World) (p:Lt->Bool) (fc:CV) (c:List Lt) (hl:c.length<=1000000) (hc:∀ W,∀ x∈c,P7 Tryz.prog W fc [x.cw] (.val (.b (p x)))):AFun Tryz.prog W 110 [.lst (c.map Lt.cv),fc] (.val (.i (match c.findIdx? p with | some i=>(i:Int) | none => -1))):=by
 have kC:=Lt.size_all c;obtain ⟨R,hR⟩:∃ R:Int,R=match c.findIdx? p with | some i=>(i:Int) | none => -1:=⟨_,rfl⟩
 rw [<-hR];refine c9 (rs:=[.i R]) Tryz.func110 Tryz.ntmps110 rfl rfl rfl rfl ?_;intro w U hW;refine aS (aR ?_);refine nc ze ?_;refine aS (aS (aR ?_));refine nc zl (nc zo (nc zl ?_));refine aB (C0 c.length (fun k=>∀ x∈c.take k,p x=false) (fun k=>[(0,.val (.lst (c.map Lt.cv))),(1,.val fc),(7,.val (.i (c.map Lt.cv).length)),(8,.val (.i k))]) (a7 ⟨rfl,rfl,rfl,rfl,trivial⟩) (by simp) ?_);intro k hk hI;refine aS (aR ?_);refine nc zi ?_;refine aS (aC rfl (fun kA=>?_) (fun kA=>?_))
 ·have kF:k<c.length:=by simpa using kA
  obtain ⟨x,hx⟩:∃ x,c[k]?=some x:=⟨c[k],getElem?_eq_getElem kF⟩
  have kS:=Lt.map_at hx;have cH:=mem_of_getElem? hx;refine aK ?_;refine aS (aB (aS (aR ?_)));refine nc zl (nc ze ?_);refine aS (aR ?_);refine nc zl (nc zl (nc zl (nc (zt (j:=k) (H:=kS) (hz:=kC)) (nc zu (nc (zQ (E:=hc w x cH)) ?_)))));refine aC rfl (fun hp=>?_) (fun hp=>?_)
  ·have iL:R=k:=by
    rw [hR];have:c.findIdx? p=some k:=by rw [List.findIdx?_eq_some_iff_getElem];obtain ⟨gW,e⟩:=List.getElem?_eq_some_iff.1 hx;refine ⟨gW,by rw [e];exact hp,fun j hj=>?_⟩;have:=hI c[j] (List.mem_take_iff_getElem.2 ⟨j,by omega,rfl⟩);simpa using this
    rw [this]
   rw [iL];refine aS (aR ?_);refine nc zl (nc ze ?_);exact aT (And.intro (.inr rfl) rfl)
  ·refine aK ?_;refine aR ?_;refine nc zA (nc zl ?_);refine ⟨kF,?_,a7 ⟨rfl,rfl,rfl,rfl,trivial⟩⟩;intro y hy;rw [take_add_one,hx,List.mem_append] at hy;rcases hy with hy | hy
   ·exact hI y hy
   ·simp at hy;rw [hy];exact hp
 ·have kF:k=c.length:=by
   have:¬ k<c.length:=by simpa using kA
   omega
  subst kF;rw [take_length] at hI;have hRn:R = -1:=by rw [hR,List.findIdx?_eq_none_iff.2 fun x hx=>by rw [hI x hx]]
  rw [hRn];refine aE ?_;refine aS (aR ?_);refine nc ze ?_;exact aT (And.intro (.inr rfl) rfl)
theorem b5y (W:World) (p:Lt->Bool) (fc:CV) (c:List Lt) (hl:c.length<=1000000) (hc:∀ W,∀ x∈c,P7 Tryz.prog W fc [x.cw] (.val (.b (p x)))):AFun Tryz.prog W 84 [.lst (c.map Lt.cv),fc] (.val (.b (c.any p))):=by
 have e:decide ((match c.findIdx? p with | some i=>(i:Int) | none => -1)>=0)=c.any p:=by
  cases h:c.findIdx? p with
  | none =>
   have h1:=List.findIdx?_eq_none_iff.1 h;have:c.any p=false:=by rw [List.any_eq_false];intro x hx;rw [h1 x hx];simp
   rw [this];rfl
  | some i =>
   obtain ⟨hi,hp,_⟩:=List.findIdx?_eq_some_iff_getElem.1 h;have:c.any p=true:=List.any_eq_true.2 ⟨_,List.getElem_mem hi,hp⟩;rw [this];simp
 refine c9 (rs:=[.b (c.any p)]) Tryz.func84 Tryz.ntmps84 rfl rfl rfl rfl ?_;intro w U hW;refine aS (aR ?_);refine nc ze ?_;refine aS (aR ?_);refine nc zl (nc zl (nc (zk (z:=b5L w p fc c hl hc)) (nc zn (nc ze ?_))));rw [e];exact aT (And.intro (.inr rfl) rfl)
def wtC (c:List Lt):Nat:=(c.map fun l=>l.a.size+l.b.size).sum
theorem a2w (W:World) (c:List Lt) (hn:c.length<=1000000) (hl:wtC c<=1000000000) (hc:okC c):AFun Tryz.prog W 21 [.lst (c.map Lt.cv)] (.val (.i (wtC c:Int))):=by
 have kC:=Lt.size_all c;have dK:∀ k,wtC (c.take k)<=wtC c:=fun k=>by
  have:wtC c=wtC (c.take k)+wtC (c.drop k):=by unfold wtC;rw [<-List.sum_append,<-map_append,List.take_append_drop]
  omega
 refine c9 (rs:=[.i (wtC c:Int)]) Tryz.func21 Tryz.ntmps21 rfl rfl rfl rfl ?_;intro w U hW;refine aS (aR ?_);refine nc ze ?_;refine aS (aR ?_);refine nc ze ?_;refine aS (aS (aR ?_));refine nc zl (nc zo (nc zl ?_));refine aB (n5 c.length (fun k=>[(3,.val (.i (wtC (c.take k):Int))),(6,.val (.lst (c.map Lt.cv))),(7,.val (.i (c.map Lt.cv).length)),(8,.val (.i k))]) (a7 ⟨rfl,rfl,rfl,rfl,trivial⟩) ?_);intro k hk;refine aS (aR ?_);refine nc zi ?_;refine aS (aC rfl (fun kA=>?_) (fun kA=>?_))
 ·have kF:k<c.length:=by simpa using kA
  obtain ⟨x,hx⟩:∃ x,c[k]?=some x:=⟨c[k],getElem?_eq_getElem kF⟩
  have kS:=Lt.map_at hx;have cH:=mem_of_getElem? hx;have dW:wtC (c.take (k+1))=wtC (c.take k)+(x.a.size+x.b.size):=by unfold wtC;rw [take_add_one,hx,map_append,List.sum_append];simp
  have cY:=dK (k+1);have s1:=a1l w (hc x cH).1 (by omega);have s2:=a1l w (hc x cH).2 (by omega);refine aK ?_;refine aS (aB (aS (aR ?_)));refine nc (zt (j:=k) (H:=kS) (hz:=kC)) (nc zu (nc zw (nc zx ?_)));refine aD (by kernel_rfl) (by kernel_rfl) ?_;refine nc zl (nc zg (nc zh (nc (zk (z:=s1)) (nc zg (nc zh (nc (zk (z:=s2)) (nc zA (nc zA (nc ze ?_)))))))));refine ⟨by kernel_rfl,?_⟩;refine aR ?_;refine nc zA (nc zl ?_);refine ⟨kF,a7 ⟨?_,rfl,rfl,rfl,trivial⟩⟩;rw [dW,Int.natCast_add,Int.natCast_add];rfl
 ·have kF:k=c.length:=by
   have:¬ k<c.length:=by simpa using kA
   omega
  subst kF;rw [take_length];refine aE ?_;refine aS (aR ?_);refine nc zl (nc ze ?_);exact aT (And.intro (.inr rfl) rfl)
def Lt.fit (l:Lt):Prop:=l.a.fit/\l.b.fit
def wtL (l:Lt):Int:=(l.a.size:Int)+(l.b.size:Int)
theorem b8l (W:World) (l:Lt) (h:l.fit):AFun Tryz.prog W 83 [l.cw] (.val (.i (wtL l))):=by
 have h1:=h.1.2.2;have h2:=h.2.2.2;refine c9 (rs:=[.i (wtL l)]) Tryz.func83 Tryz.ntmps83 rfl rfl rfl rfl ?_;intro w U hW;refine aS (aR ?_);refine nc zd (nc ze ?_);refine aS (aD (by kernel_rfl) (by kernel_rfl) ?_);refine nc zg (nc zh (nc (zk (z:=a1l w h.1.1 (by omega))) (nc zg (nc zh (nc (zk (z:=a1l w h.2.1 (by omega))) (nc zA (nc ze ?_)))))));refine ⟨by kernel_rfl,?_⟩;exact aT (And.intro (.inr rfl) rfl)
def hvK (c:List Lt):Nat->Int×Int
 | 0=>(-1,0)
 | k+1=>match c[k]? with
  | none=>hvK c k
  | some l=>if l.neg=true/\(hvK c k).2<wtL l then ((k:Int),wtL l) else hvK c k
theorem b9L (W:World) (c:List Lt) (hn:c.length<=100000) (hc:∀ l∈c,l.fit):AFun Tryz.prog W 60 [.lst (c.map Lt.cv)] (.val (.i (hvK c c.length).1)):=by
 have kC:=Lt.size_all c;refine c9 (rs:=[.i (hvK c c.length).1]) Tryz.func60 Tryz.ntmps60 rfl rfl rfl rfl ?_;intro w U hW;refine aS (aR ?_);refine nc ze ?_;refine aS (aR ?_);refine nc ze (nc ze ?_);refine aS (aS (aR ?_));refine nc zl (nc zo (nc zl ?_))
 let st:Nat->AS:=fun k=>[(3,.val (.i (hvK c k).1)),(4,.val (.i (hvK c k).2)),(8,.val (.lst (c.map Lt.cv))),(9,.val (.i (c.map Lt.cv).length)),(10,.val (.i k))]
 refine aB (n5 c.length st (a7 ⟨rfl,rfl,rfl,rfl,rfl,trivial⟩) ?_);intro k hk;refine aS (aR ?_);refine nc zi ?_;refine aS (aC rfl (fun kA=>?_) (fun kA=>?_))
 ·have kF:k<c.length:=by simpa using kA
  obtain ⟨x,hx⟩:∃ x,c[k]?=some x:=⟨c[k],getElem?_eq_getElem kF⟩
  have kS:=Lt.map_at hx;have wX:=hc x (mem_of_getElem? hx);have hK:hvK c (k+1)=if x.neg=true/\(hvK c k).2<wtL x then ((k:Int),wtL x) else hvK c k:=by conv=>lhs;unfold hvK;rw [hx]
  refine aK ?_;refine aS (aB (aS (aR ?_)));refine nc zl (nc (zt (j:=k) (H:=kS) (hz:=kC)) (nc zu (nc zw (nc ze (nc zx ?_)))));refine AWp.wk (a7 (s':=[(3,.val (.i (hvK c k).1)),(4,.val (.i (hvK c k).2)),(5,.val (.i k)),(6,.bp 6 0 []),(100006,.bx x.cw),(8,.val (.lst (c.map Lt.cv))),(9,.val (.i (c.map Lt.cv).length)),(10,.val (.i k))]) ⟨rfl,rfl,rfl,rfl,rfl,rfl,rfl,rfl,trivial⟩) ?_;refine aS (aS (aR ?_));refine nc zg (nc zh (nc zZ ?_));refine aC rfl (fun hb=>?_) (fun hb=>?_)
  ·have hb:(!x.neg)=true:=hb;have lX:x.neg=false:=by simpa using hb
   have e:hvK c (k+1)=hvK c k:=by rw [hK,if_neg (by rw [lX];simp)]
   refine aE ?_;refine aR ?_;refine nc zA (nc zl ?_);refine ⟨kF,a7 ⟨?_,?_,rfl,rfl,rfl,trivial⟩⟩
   ·rw [e];rfl
   ·rw [e];rfl
  ·have hb:(!x.neg)=false:=hb;have lX:x.neg=true:=by simpa using hb
   refine aK ?_;refine aS (aR ?_);refine nc zj (nc (zk (z:=b8l w x wX)) (nc ze ?_));refine aS (aR ?_);refine nc zl (nc zl (nc zN ?_));refine aC rfl (fun hg=>?_) (fun hg=>?_)
   ·have hg:decide (wtL x>(hvK c k).2)=true:=hg;have hg:=of_decide_eq_true hg;have e:hvK c (k+1)=((k:Int),wtL x):=by rw [hK,if_pos ⟨lX,by omega⟩]
    refine aR ?_;refine nc zl (nc zl (nc ze (nc ze ?_)));refine aR ?_;refine nc zA (nc zl ?_);refine ⟨kF,a7 ⟨?_,?_,rfl,rfl,rfl,trivial⟩⟩
    ·rw [e];rfl
    ·rw [e];rfl
   ·have hg:decide (wtL x>(hvK c k).2)=false:=hg;have hg:=of_decide_eq_false hg;have e:hvK c (k+1)=hvK c k:=by rw [hK,if_neg (fun h=>by have:=h.2;omega)]
    refine aK ?_;refine aR ?_;refine nc zA (nc zl ?_);refine ⟨kF,a7 ⟨?_,?_,rfl,rfl,rfl,trivial⟩⟩
    ·rw [e];rfl
    ·rw [e];rfl
 ·have kF:k=c.length:=by
   have:¬ k<c.length:=by simpa using kA
   omega
  subst kF;refine aE ?_;refine aS (aR ?_);refine nc zl (nc ze ?_);exact aT (And.intro (.inr rfl) rfl)
noncomputable def c1Y (c:List Lt) (x:Lt):Bool:=!(c.any fun l=>a7y (J8 l) (J8 x))
noncomputable def a3l (c:List Lt) (i:Int):Bool:=if 0<=i then (match c[i.toNat]? with | some x=>c1Y c x | none=>false) else false
theorem b4O (W:World) (c:List Lt) (k:Nat) (x l:Lt) (hx:c[k]?=some x) (wX:x.fit) (hl:l.fit):AFun Tryz.prog W 85 [l.cw,.ptr (.lst (c.map Lt.cv)),.ptr (.i (k:Int))] (.val (.b (a7y (J8 l) (J8 x)))):=by
 have kC:=Lt.size_all c;have kS:=Lt.map_at hx;refine c9 (rs:=[.b (a7y (J8 l) (J8 x))]) Tryz.func85 Tryz.ntmps85 rfl rfl rfl rfl ?_;intro w U hW;refine aS (aR ?_);refine nc zd (nc ze ?_);refine aS (aD (by kernel_rfl) (by kernel_rfl) ?_);refine nc zj (nc zI (nc zI (nc (zt (j:=k) (H:=kS) (hz:=kC)) (nc zu (nc (zk (z:=b8q w l x hl wX)) (nc ze ?_))))));refine ⟨by kernel_rfl,?_⟩;exact aT (And.intro (.inr rfl) rfl)
theorem b5n (W:World) (c:List Lt) (i:Int) (hn:c.length<=100000) (hc:∀ l∈c,l.fit):AFun Tryz.prog W 61 [.lst (c.map Lt.cv),.i i] (.val (.b (a3l c i))):=by
 refine c9 (rs:=[.b (a3l c i)]) Tryz.func61 Tryz.ntmps61 rfl rfl rfl rfl ?_;intro w U hW;refine aS (aR ?_);refine nc zd (nc zd (nc ze ?_));by_cases hi:i<0
 ·have g:decide (i<0)=true:=decide_eq_true hi;have e:a3l c i=false:=by unfold a3l;rw [if_neg (by omega)]
  rw [e];refine aS (aS (aR ?_));refine nc zj (nc zi (nc zl (nc zq (nc zq (nc zq (nc zq (nc zp ?_)))))));refine aC rfl (fun _=>?_) (fun h=>by cases h);refine aS (aR ?_);refine nc ze ?_;exact aT (And.intro (.inr rfl) rfl)
 ·have g:decide (i<0)=false:=decide_eq_false hi;refine aS (aS (aR ?_));refine nc zj (nc zi (nc zl (nc (zj (p:=gb)) (nc (zj (p:=gb)) (nc (zo (r:=gb)) (nc (zn (r:=gb)) (nc zr ?_)))))));refine aC rfl (fun h=>?_) (fun h=>?_)
  ·have h:decide (i>=((c.map Lt.cv).length:Int))=true:=h;have h:=of_decide_eq_true h;rw [length_map] at h;have e:a3l c i=false:=by unfold a3l;rw [if_pos (by omega),List.getElem?_eq_none (by omega)]
   rw [e];refine aS (aR ?_);refine nc ze ?_;exact aT (And.intro (.inr rfl) rfl)
  ·have h:decide (i>=((c.map Lt.cv).length:Int))=false:=h;have h:=of_decide_eq_false h;rw [length_map] at h;obtain ⟨k,rfl⟩:∃ k:Nat,i=(k:Int):=⟨i.toNat,by omega⟩
   have kF:k<c.length:=by omega
   obtain ⟨x,hx⟩:∃ x,c[k]?=some x:=⟨c[k],getElem?_eq_getElem kF⟩
   have wX:=hc x (mem_of_getElem? hx);have e:a3l c (k:Int)=!(c.any fun l=>a7y (J8 l) (J8 x)):=by unfold a3l;rw [if_pos (by omega),Int.toNat_natCast,hx];rfl
   rw [e];refine aK ?_;refine AWp.wk ((p9 2 rfl rfl rfl (s':=[(3,.bp 3 0 []),(100003,.bx (.i (k:Int)))]) ⟨rfl,rfl,trivial⟩ rfl rfl rfl).trans (p9 3 rfl rfl rfl (s':=[(2,.val (.ptr (.lst (c.map Lt.cv))))]) ⟨rfl,trivial⟩ rfl rfl rfl)) ?_;refine aS (aR ?_);refine nc zI (nc zG ?_);refine nc (zk (z:=b5y w (fun l=>a7y (J8 l) (J8 x)) (.fn 85 0 [.ptr (.lst (c.map Lt.cv)),.ptr (.i (k:Int))]) c (by omega) (fun w l hl => .inl ⟨_,_,_,rfl,b4O w c k x l hx wX (hc l hl)⟩))) ?_;refine nc zZ (nc ze ?_);exact aT (And.intro (.inr rfl) rfl)
noncomputable def gsK (c:List Lt) (k:Nat):List Int:=((List.range k).filter fun i:Nat=>a3l c (i:Int)).map fun i:Nat=>(i:Int)
theorem a7G (c:List Lt) (k:Nat):(gsK c k).length<=k:=by
 unfold gsK;rw [length_map];exact Nat.le_trans (List.length_filter_le _ _) (by rw [List.length_range];exact Nat.le_refl _)
theorem a9B (c:List Lt) (k:Nat):gsK c (k+1)=gsK c k++(if a3l c (k:Int)=true then [(k:Int)] else []):=by
 unfold gsK;rw [List.range_succ,List.filter_append,map_append];congr 1;by_cases h:a3l c (k:Int)=true
 ·rw [if_pos h,List.filter_cons_of_pos (by exact h)];rfl
 ·rw [if_neg h,List.filter_cons_of_neg (by exact h)];rfl
noncomputable def P3 (c:List Lt):List Int:=if (hvK c c.length).1>=0 then [(hvK c c.length).1] else gsK c c.length
theorem b3O (W:World) (c:List Lt) (hn:c.length<=100000) (hc:∀ l∈c,l.fit):AFun Tryz.prog W 37 [.lst (c.map Lt.cv)] (.val (.lst ((P3 c).map CV.i))):=by
 refine c9 (rs:=[.lst ((P3 c).map CV.i)]) Tryz.func37 Tryz.ntmps37 rfl rfl rfl rfl ?_;intro w U hW;obtain ⟨pB,gK⟩:∃ z,z=(hvK c c.length).1:=⟨_,rfl⟩
 have kB:P3 c=if pB>=0 then [pB] else gsK c c.length:=by unfold P3;rw [gK]
 have hH:=b9L w c hn hc;rw [<-gK] at hH;refine aS (aR ?_);refine nc ze ?_;refine aS (aS (aR ?_));refine nc zl (nc (zk (z:=hH)) (nc ze ?_));refine aS (aR ?_);refine nc zl (nc zn ?_);refine aC rfl (fun h=>?_) (fun h=>?_)
 ·have h:decide (pB>=0)=true:=h;rw [kB,if_pos (of_decide_eq_true h)];refine aS (aR ?_);refine nc zl (nc zy (nc ze ?_));exact aT (And.intro (.inr rfl) rfl)
 ·have h:decide (pB>=0)=false:=h;rw [kB,if_neg (of_decide_eq_false h)];refine aK ?_;refine aS (aR ?_);refine nc ze ?_;refine aS (aS (aR ?_));refine nc zl (nc zo (nc zl ?_))
  let st:Nat->AS:=fun k=>[(0,.val (.lst (c.map Lt.cv))),(4,.own (.lst ((gsK c k).map CV.i)) 200023),(200023,.tok 3 1),(13,.val (.i (c.map Lt.cv).length)),(14,.val (.i k))]
  refine aB (n5 c.length st ((R7 4 200023 3 1 rfl rfl rfl rfl rfl rfl rfl).trans (a7 ⟨rfl,rfl,rfl,rfl,rfl,trivial⟩)) ?_);intro k hk;refine aS (aR ?_);refine nc zi ?_;refine aS (aC rfl (fun kA=>?_) (fun kA=>?_))
  ·have kF:k<c.length:=by simpa using kA
   have iC:((gsK c k).map CV.i).length<=k:=by rw [length_map];exact a7G c k
   have mS:=a7G c k;have hsz3:∀ x∈(gsK c k).map CV.i,x.size=1:=p8 _;refine aK ?_;refine aS (aB (aS (aR ?_)));refine nc zl (nc ze ?_);refine aS (aR ?_);refine nc zl (nc zl (nc (zk (z:=b5n w c k hn hc)) ?_));refine aC rfl (fun hg=>?_) (fun hg=>?_)
   ·have hg:a3l c (k:Int)=true:=hg;refine aR ?_;refine nc zl (nc zl (nc zy (nc zz (nc ze ?_))));refine AWp.wk ((a7 (s':=[(0,.val (.lst (c.map Lt.cv))),(4,.own (.lst ((gsK c k).map CV.i++[CV.i (k:Int)])) 300023),(300023,.tok 3 1),(13,.val (.i (c.map Lt.cv).length)),(14,.val (.i k))]) ⟨rfl,rfl,rfl,rfl,rfl,trivial⟩).trans (B2 300023 200023 rfl rfl rfl rfl)) ?_;refine aR ?_;refine nc zA (nc zl ?_);refine ⟨kF,a7 ⟨rfl,?_,rfl,rfl,rfl,trivial⟩⟩;show some (AV.own (.lst _) _)=some (AV.own (.lst _) _);rw [a9B,if_pos hg,map_append];rfl
   ·have hg:a3l c (k:Int)=false:=hg;refine aK ?_;refine aR ?_;refine nc zA (nc zl ?_);refine ⟨kF,a7 ⟨rfl,?_,rfl,rfl,rfl,trivial⟩⟩;show some (AV.own (.lst _) _)=some (AV.own (.lst _) _);rw [a9B,if_neg (by rw [hg];decide),append_nil]
  ·have kF:k=c.length:=by
    have:¬ k<c.length:=by simpa using kA
    omega
   subst kF;refine aE ?_;refine aS (aR ?_);refine nc zl (nc ze ?_);exact aT (And.intro (.inr rfl) rfl)
section
open Go.RowKit Go.MapKept
section
variable {P:Program} {w0:World} {U0:UX} {nt:Nat} {ops:Array Oper} {o:Oper} {S:Nat->Option AV} {gs:List Nat} {d:Nat} {s:AS} {a:Act} {w:World} {D:Nat->Nat->Prop} {hv:Nat->Value}
theorem b9N {U:Nat->Nat->Prop} {w:World} {v:Value} {et:TypeId} (dY:(P.info? et).map (·.zero)=some (some (.agg #[.int .i64 0,.slice none 0 0]))) (hr:Rep U w (.row [.i 0,.lst []]) v.cells.toList) (hh:∃ it,P.info? et=some it/\it.zero=some v):VRep U w (.row [.i 0,.lst []]) v:=by
 obtain ⟨it,h1,h2⟩:=hh;rw [h1,Option.map_some,h2] at dY;injection dY with dY;injection dY with dY;subst dY;exact ⟨_,rfl,hr⟩
end
end
section
open Go.RowKit Go.MapKept
def QUp (q:(Nat->Nat->Prop)->World->Prop):Prop:=∀ (U V:Nat->Nat->Prop) (w w':World),q U w->Below w.heap.size w w'->(∀ b o,b<w.heap.size->U b o->V b o)->q V w'
def a8m (P:Program) (q:(Nat->Nat->Prop)->World->Prop) (f:FuncId) (args:List CV) (r:AV):Prop:=
 a2V P f/\(r.t=0\/r.t=4)/\r.n=0/\∀ (U:Nat->Nat->Prop) (w:World) (vs:List Value),q U w->VReps U w args vs ->
  Calls P f vs.toArray w fun e w'=>∃ v,e = .returned v/\RR (fun b o=>U b o\/w.heap.size<=b) w' r v/\Below w.heap.size w w'
def a8k (P:Program) (q:(Nat->Nat->Prop)->World->Prop) (fc:CV) (args:List CV) (r:AV):Prop:=∃ f n l,fc = .fn f n l/\a8m P q f (l.take n++(args++l.drop n)) r
section
variable {P:Program} {w0:World} {U0:UX} {nt:Nat} {ops:Array Oper} {o:Oper} {S:Nat->Option AV} {gs:List Nat} {d:Nat} {s:AS} {a:Act} {w:World} {D:Nat->Nat->Prop} {hv:Nat->Value} {q:(Nat->Nat->Prop)->World->Prop}
theorem SimG.atQ {W:World} (h:SimG w0 U0 nt s a w D hv) (hQ:QUp q) (hW:Hw W w0 U0) (hq:q U0.m w0):q (Us w0 U0 D) w:=
 hQ _ _ _ _ hq (h.below.below hW.2) fun b o hb hu => .inl ⟨hb,hu,hW.2 b⟩
theorem b8B {W:World} (hQ:QUp q) (hW:Hw W w0 U0) (hq:q U0.m w0) {f:FuncId} {xs:Array Operand} {ts:Array TypeId} {cs:List CV} {r:AV} (hg:Gd w0 U0 nt ops o gs S) (hd:o.dst=some d) (hn:Nat.blt d nt=true) (h5:Nat.blt d 100000=true)
  (ho:o.op = .call { callee := .value (.func f),args:=xs,argTypes:=ts }) (hx:a0q S xs.toList=some cs) (hc:a8m P q f cs r):AOp P w0 U0 nt ops o (gs++rdl xs.toList) [] S [(d,r)]:=by
 intro s hs _ a w ⟨D,hv,h⟩ Q K hK;rw [if_pos (hg s (fun k hk=>hs k (mem_append_left _ hk)) a w D hv h)];have hargs:=H5 h (fun k hk=>hs k (mem_append_right _ hk)) hx;obtain ⟨h1,h2,h3,h4⟩:=hc;have kK:=h4 _ w _ (h.atQ hQ hW hq) hargs;have he:(execOp a.eval o).run P w = .ok (.enter f (xs.toList.map a.eval).toArray) w:=by
  have hf:a.eval (.func f) = .func (.func f) #[] #[]:=rfl;have cR:=h1 (xs.map a.eval) w;have gR:(xs.toList.map a.eval).toArray=xs.map a.eval:=by apply Array.ext';simp
  rw [gR];generalize a.eval=ρ at hf cR |-;simp [execOp,ho,resolve,invoke,Deferred.ofValue,hf,cR]
 unfold Oper.wp;rw [he,Oper.upon_enter];refine kK.mono ?_;rintro e w' ⟨v,rfl,h6,h7⟩;rw [hd];refine hK _ _ ⟨Dn D w w',hv,(h.growN h7).put (bL hn) (bL h5) (R5 h2 h3 (Y1 rfl h7.size h.below.size h6))⟩
theorem zbF {P:Program} {w0:World} {U0:UX} {nt:Nat} {ops:Array Oper} {o:Oper} {S:Nat->Option AV} {gs:List Nat} {d:Nat} {q:(Nat->Nat->Prop)->World->Prop} {W:World} {f:FuncId} {xs:Array Operand} {ts:Array TypeId} {cs:List CV} {r:AV} (hQ:QUp q) (hW:Hw W w0 U0) (hq:q U0.m w0) (p:Gd w0 U0 nt ops o gs S:=by exact gN rfl) (t:o.dst=some d:=by exact rfl) (u:Nat.blt d nt=true:=by exact rfl) (x:Nat.blt d 100000=true:=by exact rfl) (y:o.op = .call { callee := .value (.func f),args:=xs,argTypes:=ts }:=by exact rfl) (z:a0q S xs.toList=some cs:=by exact rfl) (A:a8m P q f cs r):AOp P w0 U0 nt ops o (gs++rdl xs.toList) [] S [(d,r)]:=b8B hQ hW hq p t u x y z A
theorem b5A {W:World} (hQ:QUp q) (hW:Hw W w0 U0) (hq:q U0.m w0) {x:Operand} {xs:Array Operand} {ts:Array TypeId} {fc:CV} {cs:List CV} {r:AV} {n q' p} (hg:Gd w0 U0 nt ops o gs S) (hd:o.dst=some d) (hn:Nat.blt d nt=true) (h5:Nat.blt d 100000=true)
  (ho:o.op = .call { callee := .value x,args:=xs,argTypes:=ts }) (hf:ev S x=some ⟨0,fc,n,q',p⟩) (hx:a0q S xs.toList=some cs) (hc:a8k P q fc cs r):AOp P w0 U0 nt ops o (gs++(rd x++rdl xs.toList)) [] S [(d,r)]:=by
 intro s hs _ a w ⟨D,hv,h⟩ Q K hK;rw [if_pos (hg s (fun k hk=>hs k (mem_append_left _ hk)) a w D hv h)];have hargs:=H5 h (fun k hk=>hs k (mem_append_right _ (mem_append_right _ hk))) hx;have nD:=y7 h (fun k hk=>hs k (mem_append_right _ (mem_append_left _ hk))) hf;obtain ⟨f,m,l,rfl,h1,h2,h3,h4⟩:=hc;obtain ⟨ys,zs,e1,e2,e3,e4⟩:=T9.1 nD;obtain ⟨s1,s2⟩:=VReps.split (R8 e4 e3);rw [e2] at s1 s2;have kK:=h4 _ w _ (h.atQ hQ hW hq) (s1.append (hargs.append s2));have he:(execOp a.eval o).run P w = .ok (.enter f (ys++(xs.toList.map a.eval++zs)).toArray) w:=by
  have cR:=h1 (ys.toArray++(xs.map a.eval++zs.toArray)) w;have gR:(ys++(xs.toList.map a.eval++zs)).toArray=ys.toArray++(xs.map a.eval++zs.toArray):=by apply Array.ext';simp
  rw [gR];generalize a.eval=ρ at e1 cR |-;simp [execOp,ho,resolve,invoke,Deferred.ofValue,e1,cR]
 unfold Oper.wp;rw [he,Oper.upon_enter];refine kK.mono ?_;rintro e w' ⟨v,rfl,h6,h7⟩;rw [hd];refine hK _ _ ⟨Dn D w w',hv,(h.growN h7).put (bL hn) (bL h5) (R5 h2 h3 (Y1 rfl h7.size h.below.size h6))⟩
theorem zbE {P:Program} {w0:World} {U0:UX} {nt:Nat} {ops:Array Oper} {o:Oper} {S:Nat->Option AV} {gs:List Nat} {d:Nat} {q:(Nat->Nat->Prop)->World->Prop} {W:World} {x:Operand} {xs:Array Operand} {ts:Array TypeId} {fc:CV} {cs:List CV} {r:AV} {n} {q'} {p} (hQ:QUp q) (hW:Hw W w0 U0) (hq:q U0.m w0) (t:Gd w0 U0 nt ops o gs S:=by exact gN rfl) (u:o.dst=some d:=by exact rfl) (y:Nat.blt d nt=true:=by exact rfl) (z:Nat.blt d 100000=true:=by exact rfl) (A:o.op = .call { callee := .value x,args:=xs,argTypes:=ts }:=by exact rfl) (B:ev S x=some ⟨0,fc,n,q',p⟩:=by exact rfl) (C:a0q S xs.toList=some cs:=by exact rfl) (E:a8k P q fc cs r):AOp P w0 U0 nt ops o (gs++(rd x++rdl xs.toList)) [] S [(d,r)]:=b5A hQ hW hq t u y z A B C E
def a9x (b g:Nat) (l:List CV) (U:Nat->Nat->Prop) (w:World):Prop:=
 w.cell? ⟨b,0,none⟩=some (.map (some g))/\∃ es clock,w.heap[g]?=some (.map es clock)/\Ents U w l es.toList
theorem a3o (b g:Nat) (l:List CV):QUp (a9x b g l):=by
 rintro U V w w' ⟨h1,es,clock,h2,h3⟩ hb hU;have kX:∀ (b o:Nat) (v:Value),w.cell? ⟨b,o,none⟩=some v->b<w.heap.size/\w'.cell? ⟨b,o,none⟩=some v:=fun b o v hc=>by have kA:=World.block_lt_of_cell? w _ hc;refine ⟨kA,?_⟩;have:=hb.block b kA;simp only [World.cell?] at hc |-;rw [this];exact hc
 have hg:g<w.heap.size:=by
  rcases Nat.lt_or_ge g w.heap.size with h | h
  ·exact h
  ·rw [Array.getElem?_eq_none h] at h2;cases h2
 exact ⟨(kX _ _ _ h1).2,es,clock,by rw [hb.block g hg];exact h2,h3.keep fun b o v hu hc=>⟨hU b o (kX b o v hc).1 hu,(kX b o v hc).2⟩⟩
theorem b8d {W:World} {b g:Nat} {l:List CV} (hW:Hw W w0 U0) (hq:a9x b g l U0.m w0) (hg:Gd w0 U0 nt ops o gs S) (hd:o.dst=some d) (hn:Nat.blt d nt=true) (h5:Nat.blt d 100000=true) {x:Operand} {ty:TypeId} {ds:TypeDesc} {n q p} (ho:o.op = .load ty x) (hu:P.underlying ty=some ds) (hi:(P.info? ty).map (·.size)=some 1) (hx:ev S x=some ⟨0,.sc (.pointer (some ⟨b,0,none⟩)),n,q,p⟩) (hk:U5 ds=false):AOp P w0 U0 nt ops o (gs++rd x) [] S [(d,.val (.sc (.map (some g))))]:=
 j9 hg hd hn h5 (fun k hk=>mem_append_left _ hk) fun s hs a w D hv hm=>by
  have h1:=v7 hm (fun k hk=>hs k (mem_append_right _ hk)) hx;obtain ⟨h2,_⟩:=hm.atQ (a3o b g l) hW hq;obtain ⟨v,h4,h6,_⟩:=C5 (c := .sc (.map (some g))) (U:=Us w0 U0 D) (w:=w) (b:=b) (off:=0) (xs:=[.map (some g)]) hu hi hk rfl (K0.2 ⟨rfl,rfl⟩) (fun i hi=>by
   have:i=0:=by simp at hi;omega
   subst this;exact h2)
  refine ⟨v,?_,n4 h6⟩;generalize a.eval=ρ at h1 |-;simp [execOp,ho,Instr.loadAt,Instr.sureAddr,h1,h4]
theorem zbC {P:Program} {w0:World} {U0:UX} {nt:Nat} {ops:Array Oper} {o:Oper} {S:Nat->Option AV} {gs:List Nat} {d:Nat} {q} {W:World} {b:Nat} {g:Nat} {l:List CV} {x:Operand} {ty:TypeId} {ds:TypeDesc} {n} {p} (hW:Hw W w0 U0) (hq:a9x b g l U0.m w0) (r:Gd w0 U0 nt ops o gs S:=by exact gN rfl) (t:o.dst=some d:=by exact rfl) (u:Nat.blt d nt=true:=by exact rfl) (y:Nat.blt d 100000=true:=by exact rfl) (z:o.op = .load ty x:=by exact rfl) (A:P.underlying ty=some ds:=by exact rfl) (B:(P.info? ty).map (·.size)=some 1:=by exact rfl) (C:ev S x=some ⟨0,.sc (.pointer (some ⟨b,0,none⟩)),n,q,p⟩:=by exact rfl) (E:U5 ds=false:=by exact rfl):AOp P w0 U0 nt ops o (gs++rd x) [] S [(d,.val (.sc (.map (some g))))]:=b8d hW hq r t u y z A B C E
theorem b3U {W:World} {b g:Nat} {l:List CV} (hW:Hw W w0 U0) (hq:a9x b g l U0.m w0) (hg:Gd w0 U0 nt ops o gs S) (hd:o.dst=some d) (hn:Nat.blt d nt=true) (h5:Nat.blt d 100000=true) {x y:Operand} {t kt et:TypeId} {k:IntKind} {i:Int} {n0 q0 p0 n' q' p'} (ho:o.op = .lookup t x y true) (hu:P.underlying t=some (.map kt et)) (fB:P.underlying kt=some (.int k)) (dY:(P.info? et).map (·.zero)=some (some (.agg #[.int .i64 0,.slice none 0 0]))) (jB:V8 P et=some (.row [.i 0,.lst []])) (hx:ev S x=some ⟨0,.sc (.map (some g)),n0,q0,p0⟩) (hy:ev S y=some ⟨0,.sc (.int k i),n',q',p'⟩) (hik:y6 k l) {r:Option CV} (hlr:F4 k i l=r):AOp P w0 U0 nt ops o (gs++(rd x++rd y)) [] S [(d,.tup [r.getD (.row [.i 0,.lst []]),.b r.isSome])]:=
 j9 hg hd hn h5 (fun k hk=>mem_append_left _ hk) fun s hs a w D hv hm=>by
  have h1:=v7 hm (fun k hk=>hs k (mem_append_right _ (mem_append_left _ hk))) hx;have e2:=v7 hm (fun k hk=>hs k (mem_append_right _ (mem_append_right _ hk))) hy;subst hlr;obtain ⟨_,es,clock,g2,g3⟩:=hm.atQ (a3o b g l) hW hq;obtain ⟨it,zv,i1,i2,i3⟩:=M7 jB;have dO:=run_checkKey (P:=P) (w:=w) fB (k := .int k i) rfl es.isEmpty 9999;have dX:=Go.MapKept.run_getObj_map (P:=P) g2;rcases L3 0 g3 hik (i:=i) with ⟨f1,f2⟩ | ⟨j,e,c,f1,f2,f3,f4,f5,f6⟩
  ·have cZ:=run_findKey (P:=P) (w:=w) fB f1;have sC:(zeroValue et).run P w = .ok zv w:=by simp [zeroValue,typeInfo,i1,i2]
   refine ⟨.tuple #[zv,.bool false],?_,?_⟩
   ·generalize a.eval=ρ at h1 e2 |-;simp [execOp,ho,Instr.lookup,run_underlying hu,h1,e2,dX,dO,cZ,sC]
   ·rw [f2];have hr:=i3 (Us w0 U0 D) w;exact ⟨[zv,.bool false],rfl,zv,[.bool false],rfl,b9N dY hr ⟨it,i1,i2⟩,.bool false,[],rfl,n8.2 ⟨rfl,rfl⟩,rfl⟩
  ·have cZ:=run_findKey (P:=P) (w:=w) fB f1;refine ⟨.tuple #[e.val,.bool true],?_,?_⟩
   ·generalize a.eval=ρ at h1 e2 |-;simp [execOp,ho,Instr.lookup,run_underlying hu,h1,e2,dX,dO,cZ]
   ·rw [f6];exact ⟨[e.val,.bool true],rfl,e.val,[.bool true],rfl,f4,.bool true,[],rfl,n8.2 ⟨rfl,rfl⟩,rfl⟩
theorem zbD {P:Program} {w0:World} {U0:UX} {nt:Nat} {ops:Array Oper} {o:Oper} {S:Nat->Option AV} {gs:List Nat} {d:Nat} {W:World} {b:Nat} {g:Nat} {l:List CV} {x:Operand} {y:Operand} {t:TypeId} {kt:TypeId} {et:TypeId} {k:IntKind} {i:Int} {n0} {q0} {p0} {n'} {q'} {p'} {r:Option CV} (hW:Hw W w0 U0) (hq:a9x b g l U0.m w0) (p:Gd w0 U0 nt ops o gs S:=by exact gN rfl) (u:o.dst=some d:=by exact rfl) (v:Nat.blt d nt=true:=by exact rfl) (z:Nat.blt d 100000=true:=by exact rfl) (A:o.op = .lookup t x y true:=by exact rfl) (B:P.underlying t=some (.map kt et):=by exact rfl) (C:P.underlying kt=some (.int k):=by exact rfl) (E:(P.info? et).map (·.zero)=some (some (.agg #[.int .i64 0,.slice none 0 0])):=by exact rfl) (F:V8 P et=some (.row [.i 0,.lst []]):=by exact rfl) (G:ev S x=some ⟨0,.sc (.map (some g)),n0,q0,p0⟩:=by exact rfl) (H:ev S y=some ⟨0,.sc (.int k i),n',q',p'⟩:=by exact rfl) (hik:y6 k l) (hlr:F4 k i l=r):AOp P w0 U0 nt ops o (gs++(rd x++rd y)) [] S [(d,.tup [r.getD (.row [.i 0,.lst []]),.b r.isSome])]:=b3U hW hq p u v z A B C E F G H hik hlr
theorem b0j {f : FuncId} {fn : Func} {c : Code} {args rs : List CV} (hf : P.funcs[f]? = some fn) (hn : fn.ntmps = nt) (gL : (fn.name == "runtime.NumGoroutine") = false) (hb : fn.body = some c) (hl : Nat.ble args.length nt = true) (cE : Nat.blt nt 100000 = true)
  (h:∀ (w:World) (U:UX),Hw w w U->q U.m w->AWp P w U nt c (fun e s'=>(e = .normal\/e = .ret)/\a9Z P s' fn.results.toList=some rs) (a6y args 0)):a8m P q f args (M5 rs):=by
 have iY:((M5 rs).t=0\/(M5 rs).t=4)/\(M5 rs).n=0:=by
  unfold M5;split
  ·exact ⟨.inl rfl,rfl⟩
  ·exact ⟨.inr rfl,rfl⟩
 refine ⟨x9 hf gL (by rw [hb];rfl),iY.1,iY.2,fun U w vs hq hargs=>?_⟩;have kD:=hargs.len;refine calls_of_wp hf hb ?_;have cY:=Nat.le_of_ble_eq_true hl;have cE:=bL cE;have gA:∀ {k av},100000<=k->look (a6y args 0) k=some av->False:=fun {k av} h1 h2=>by rw [a6v (by omega)] at h2;cases h2
 obtain ⟨V,hV⟩:∃ V:UX,V=⟨U,fun _=>False,fun _=>none,fun _ _ h=>by cases h⟩:=⟨_,rfl⟩
 have hs:Sim w V nt (a6y args 0) { tmps:=vs.toArray++Array.replicate (fn.ntmps-vs.toArray.size) undef,defers:=[] } w:=by
  refine ⟨fun _ _=>False,fun _ => .slice none 0 0,BelowX.refl _ _,rfl,by simp [hn];omega,fun d av h1 h2=>?_,fun n o av h1=>(gA (by unfold f0;omega) h1).elim,fun n o o' av av' h1=>(gA (by unfold f0;omega) h1).elim,fun k av h1 h2=>(gA h2.1 h1).elim,fun k av g h1 h2=>(gA h2.1 h1).elim,fun k k' av av' g h1 h2 h3=>(gA h3.1 h1).elim,fun n g h1=>(by rw [hV] at h1;cases h1),fun b o hd=>hd.elim⟩;obtain ⟨_,c',h3,rfl⟩:=Z6 h1;rw [Nat.sub_zero] at h3;obtain ⟨v,h4,h5⟩:=hargs.at h3;have hdl:d<vs.length:=by
   rcases Nat.lt_or_ge d vs.length with h | h
   ·exact h
   ·rw [List.getElem?_eq_none h] at h4;cases h4
  refine ⟨v,?_,n4 (h5.keep fun b o v hu hc=>⟨.inl ⟨World.block_lt_of_cell? w _ hc,by rw [hV];exact ⟨hu,fun h=>h⟩⟩,hc⟩)⟩;rw [Array.getElem?_append_left (by simpa using hdl)];simpa using h4
 refine wp_mono ((h w V (by rw [hV];exact ⟨fun _=>rfl,fun _ h=>h⟩) (by rw [hV];exact hq) ⟨none,[]⟩ _ w hs).wp rfl (fun e a w ⟨s,_,h⟩=>h.df)) ?_;rintro e a' w' ⟨s',⟨h1,h2⟩,D,hv,h3⟩;obtain ⟨v,h4,h5⟩:=a7J h3 h2;have hR:RR (fun b o=>U b o\/w.heap.size<=b) w' (M5 rs) v:=by
  have hk:∀ b o u,Us w V D b o->w'.cell? ⟨b,o,none⟩=some u->(U b o\/w.heap.size<=b)/\w'.cell? ⟨b,o,none⟩=some u:=fun b o u hu hc=>⟨hu.imp (fun h=>by rw [hV] at h;exact h.2.1) fun h=>h.1,hc⟩
  unfold RR at h5 |-;split
  ·rename_i ht;rw [if_pos ht] at h5;obtain ⟨vs,h6,h7⟩:=h5;exact ⟨vs,h6,h7.keep hk⟩
  ·rename_i ht;rw [if_neg ht] at h5;exact h5.keep hk
 have lO:Below w.heap.size w w':=h3.below.below (by rw [hV];exact fun _ h=>h);rcases h1 with rfl | rfl
 ·exact ⟨h3.dfr,v,h4,v,rfl,hR,lO⟩
 ·exact ⟨h3.dfr,v,h4,v,rfl,hR,lO⟩
end
end
noncomputable def imR (b:Bd):CV := .row [.sc (.int .i64 b.v),b.t.cw]
theorem a4y (L:List Bd):y6 .i64 (L.map imR):=fun r hr=>by
 obtain ⟨b,_,rfl⟩:=mem_map.1 hr;exact ⟨_,_,rfl⟩
theorem a9j (v:Int):∀ L:List Bd,F4 .i64 v (L.map imR)=(d9 L v).map Tm.cw
 | []=>rfl
 | b::L=>by
  rw [map_cons];unfold imR;rw [Q7,d9];by_cases h:b.v=v
  ·rw [if_pos h,if_pos h];rfl
  ·rw [if_neg h,if_neg h];exact a9j v L
theorem b6w (b g:Nat) (L:List Bd) (v:Int) (h1:0<=v) (h2:v<=9223372036854775807):a8m Tryz.prog (a9x b g (L.map imR)) 128 [.i v,.sc (.pointer (some ⟨b,0,none⟩))] (.val (i7 L v).cw):=by
 refine b0j (rs:=[(i7 L v).cw]) Tryz.func128 Tryz.ntmps128 rfl rfl rfl rfl ?_;intro w U hW hq;have hQ:=a3o b g (L.map imR);have kB:=a9j v L;refine aS (aR ?_);refine nc zw ?_;unfold i7;cases hf:d9 L v with
 | none =>
  rw [hf] at kB;refine aS (aS (aR ?_));refine nc (zbC hW hq) (nc zl (nc (zbD hW hq (hik:=a4y _) (hlr:=kB)) (nc zl (nc zE (nc zE (nc zw (nc zx (nc ze ?_))))))));refine aS (aR ?_);refine nc zl ?_;refine aC rfl (fun hc=>?_) (fun hc=>?_)
  ·cases hc
  ·refine aK ?_;refine aS (aR ?_);refine nc zl (nc (zk (z:=O6 w v h1 h2)) (nc zx ?_));exact aT (And.intro (.inr rfl) rfl)
 | some t =>
  rw [hf] at kB;refine aS (aS (aR ?_));refine nc (zbC hW hq) (nc zl (nc (zbD hW hq (hik:=a4y _) (hlr:=kB)) (nc zl (nc zE (nc zE (nc zw (nc zx (nc ze ?_))))))));refine aS (aR ?_);refine nc zl ?_;refine aC rfl (fun hc=>?_) (fun hc=>?_)
  ·refine aS (aR ?_);refine nc zj (nc zx ?_);exact aT (And.intro (.inr rfl) rfl)
  ·cases hc
theorem a6Y {q:(Nat->Nat->Prop)->World->Prop} (hQ:QUp q) (fc:CV) (img:Int->Tm) (hI:∀ v,0<=v->v<=9223372036854775807->a8k Tryz.prog q fc [.i v] (.val (img v).cw)/\(img v).rng/\(img v).size<=90000000000):∀ t:Tm,t.rng->t.ok->a8m Tryz.prog q 71 [t.cw,fc] (.val (a8 img t).cw):=by
 intro t
 induction t using Tm.ind with
 | h f l ih =>
 intro hr kH;have kH:=(Tm.ok_iff _).1 kH;have hr:=(Tm.rng_iff _).1 hr;simp only at kH hr;have kC:=Tm.size_all l;refine b0j (rs:=[(a8 img ⟨f,l⟩).cw]) Tryz.func71 Tryz.ntmps71 rfl rfl rfl rfl ?_;intro w U hW hq;refine aS (aR ?_);refine nc zd (nc zw ?_);refine aS (aS (aR ?_));refine nc zj ?_;refine nc (zk (z:=S6 w ⟨f,l⟩)) ?_;refine aC rfl (fun hc=>?_) (fun hc=>?_)
 ·have hf:f<0:=by simpa using hc
  rw [l4 hf];obtain ⟨i1,i2,i3⟩:=hI (-1-f) (by omega) (by omega);refine aS (aR ?_);refine nc zl (nc zj ?_);refine nc (zk (z:=W7 w ⟨f,l⟩ hr.1.1 hf)) ?_;refine nc (zbE hQ hW hq (E:=i1)) (nc (zk (z:=L5 w i2 i3)) (nc zx ?_));exact aT (And.intro (.inr rfl) rfl)
 ·have hf:¬ f<0:=by simpa using hc
  rw [d8 hf];refine aK ?_;refine aS (aR ?_);refine nc ze ?_;refine aS (aS (aR ?_));refine nc zg (nc zh (nc zo (nc zl ?_)));refine aB (n5 l.length (fun k=>[(1,.val fc),(2,.bp 2 0 []),(100002,.bx (Tm.cw ⟨f,l⟩)),(4,.bp 4 0 []),(100004,⟨5,.row [.i 0,.lst []],1,0,[1]⟩),(5,.own (.lst ((l.take k).map fun t=>(a8 img t).cv)) 200027),(200027,.tok 41 2),(16,.val (.lst (l.map Tm.cv))),(17,.val (.i (l.map Tm.cv).length)),(18,.val (.i k))])
   ((R7 5 200027 41 2 rfl rfl rfl rfl rfl rfl rfl).trans (a7 ⟨rfl,rfl,rfl,rfl,rfl,rfl,rfl,rfl,rfl,rfl,trivial⟩)) ?_)
  intro k hk;refine aS (aR ?_);refine nc zi ?_;refine aS (aC rfl (fun hc=>?_) (fun hc=>?_))
  ·have kF:k<l.length:=by simp only [length_map,decide_eq_true_eq] at hc;omega
   obtain ⟨t,ht⟩:∃ t,l[k]?=some t:=⟨l[k],getElem?_eq_getElem kF⟩
   have qR:=Tm.map_at ht;have lV:=mem_of_getElem? ht;have jM:∀ c∈(l.take k).map fun t=>(a8 img t).cv,c.size=2:=by intro c hc;obtain ⟨t,_,rfl⟩:=mem_map.1 hc;exact Tm.size_cv _
   refine aK ?_;refine aS (aB (aS (aR ?_)));refine nc (zt (H:=by assumption) (hz:=by first | assumption | exact sZ rfl | exact Tm.size_all _ | exact Bd.size_all _ | exact p8 _ | exact bys_size _ | exact Lt.size_all _)) (nc zu (nc zw (nc zx ?_)));refine aR ?_;refine nc zl (nc zj (nc zl (nc (zbF hQ hW hq (A:=ih t lV (hr.2 t lV) (kH.2 t lV))) (nc zy (nc zz (nc ze ?_))))));refine aR ?_;refine nc zA (nc zl ?_);refine ⟨kF,Wk.trans (a7 (s':=[(1,.val fc),(2,.bp 2 0 []),(100002,.bx (Tm.cw ⟨f,l⟩)),(4,.bp 4 0 []),(100004,⟨5,.row [.i 0,.lst []],1,0,[1]⟩),(5,.own (.lst ((l.take (k+1)).map fun t=>(a8 img t).cv)) 300027),(300027,.tok 41 2),(16,.val (.lst (l.map Tm.cv))),(17,.val (.i (l.map Tm.cv).length)),(18,.val (.i ((k+1:Nat):Int)))]) ⟨rfl,rfl,rfl,rfl,rfl,?_,rfl,rfl,rfl,rfl,trivial⟩) (B2 300027 200027 rfl rfl rfl rfl)⟩;rw [take_add_one,ht,map_append];simp only [Option.toList_some,map_cons,map_nil,Tm.cv_eq];rfl
  ·have kF:k=l.length:=by simp only [length_map,decide_eq_false_iff_not] at hc;omega
   subst kF;rw [take_length];refine aE ?_;refine aS (aR ?_);refine nc zg (nc zh (nc zl (nc zC (nc zx ?_))));refine aT (And.intro (.inr rfl) ?_);unfold Tm.cw;rw [List.map_map];rfl
section
open Go.RowKit Go.MapKept Go.Shelf
attribute [local go_sem] Oper.semAt_some
set_option maxRecDepth 100000 in
set_option maxHeartbeats 2000000 in
theorem b6D (l Bb ob n:Nat) (c0 c1 c2:Nat->Value) (R:Nat->Nat->Prop) (w:World) (ao:Option Addr) (cap:Nat) (dQ:w.cell? ⟨Bb,ob,none⟩=some (.slice ao n cap)) (qD:R Bb ob) (bI:∀ i,i<n->∃ b off,ao=some ⟨b,off,none⟩/\(R b (off+i*3)/\w.cell? ⟨b,off+i*3,none⟩=some (c0 i))/\(R b (off+i*3+1)/\w.cell? ⟨b,off+i*3+1,none⟩=some (c1 i))/\(R b (off+i*3+2)/\w.cell? ⟨b,off+i*3+2,none⟩=some (c2 i))) (hl:n<=1000000000)
  (J:List Nat->World->Prop) (hJ:∀ pre A B,J pre A->Below A.heap.size A B->J pre B)
  (hY:∀ pre (x:Nat) V,J pre V->x=pre.length/\x<n->YieldAt Fence.wide 1 Tryz.prog l #[.int .i64 ((n:Int)-1-x),.agg #[c0 (n-1-x),c1 (n-1-x),c2 (n-1-x)]] V fun e V'=>e = .returned (.bool true)/\J (pre++[x]) V'/\KpX w.heap.size (fun b=>¬ ∃ o,R b o) V V')
  (W:World) (hW:Below w.heap.size w W) (h0:J [] W) :
  CallsIn Fence.wide 2 Tryz.prog 162 #[.func (.yield l) #[] #[],.pointer (some ⟨Bb,ob,none⟩)] W fun e W'=>(∃ v,e = .returned v)/\∃ ys,ys=List.range n/\J ys W':=by
 have fN:∀ {V:World},KpX w.heap.size (fun b=>¬ ∃ o,R b o) w V->V.cell? ⟨Bb,ob,none⟩=some (.slice ao n cap)/\∀ i,i<n->∃ b off,ao=some ⟨b,off,none⟩/\V.cell? ⟨b,off+i*3,none⟩=some (c0 i)/\V.cell? ⟨b,off+i*3+1,none⟩=some (c1 i)/\V.cell? ⟨b,off+i*3+2,none⟩=some (c2 i):=fun {V} hV=>by
  have kM:∀ b o u,R b o->w.cell? ⟨b,o,none⟩=some u->V.cell? ⟨b,o,none⟩=some u:=fun b o u hr hc=>by have hb:b<w.heap.size:=World.block_lt_of_cell? w _ hc;rw [World.cell?_of_block (w:=w) (hV b hb (fun hn=>hn ⟨o,hr⟩))];exact hc
  refine ⟨kM _ _ _ qD dQ,fun i hi=>?_⟩;obtain ⟨b,off,h1,⟨g1,g2⟩,⟨g3,g4⟩,g5,g6⟩:=bI i hi;exact ⟨b,off,h1,kM _ _ _ g1 g2,kM _ _ _ g3 g4,kM _ _ _ g5 g6⟩
 have sX:KpX w.heap.size (fun b=>¬ ∃ o,R b o) w W:=fun b hb _=>hW.block b hb;have HC:Hid (∀ {V:World},KpX w.heap.size (fun b=>¬ ∃ o,R b o) w V->V.cell? ⟨Bb,ob,none⟩=some (.slice ao n cap)/\∀ i,i<n->∃ b off,ao=some ⟨b,off,none⟩/\V.cell? ⟨b,off+i*3,none⟩=some (c0 i)/\V.cell? ⟨b,off+i*3+1,none⟩=some (c1 i)/\V.cell? ⟨b,off+i*3+2,none⟩=some (c2 i)):=fun {V} h=>fN h;clear fN dQ bI qD;obtain ⟨lR,_⟩:=HC.out sX;refine callsIn_of_wp Tryz.func162 rfl trivial ?_ rfl;simp only [Tryz.ntmps162,List.size_toArray,length_cons,length_nil,Nat.reduceAdd,Nat.reduceSub,Array.replicate_succ,Array.replicate_zero,List.push_toArray,List.append_toArray,List.nil_append,List.cons_append]
 gi_wp2
 gi_loopw [3] (fun iv wr=>∃ (z:Int) (k:Nat),iv = .int .i64 z/\z=(n:Int)-1-k/\k<=n/\J (List.range k) wr/\KpX w.heap.size (fun b=>¬ ∃ o,R b o) w wr) (fun iv wr=>(intOf iv+1).toNat)
 case atStart=>exact ⟨_,0,rfl,by omega,by omega,by simpa using h0,sX⟩
 case round =>
  obtain ⟨z,k,rfl,hz,hk,oT,wL⟩:=hrel;clear lR h0 sX;obtain ⟨kW,gO⟩:=HC.out wL;by_cases oE:k=n
  ·have iU:z = -1:=by omega
   subst iU
   gi_wp2
   go_end0
   refine ⟨⟨_,rfl⟩,_,rfl,?_⟩;rw [oE] at oT;exact oT
  ·obtain ⟨j,hj⟩:∃ j:Nat,j=n-1-k:=⟨_,rfl⟩
   have hzj:z=(j:Int):=by omega
   have tV:j<n:=by omega
   subst hzj;obtain ⟨b,off,rfl,gY,tT,sQ⟩:=gO j tV;obtain ⟨fn,tmps,assign,body,hy,hR⟩:=hY (List.range k) k _ oT ⟨by simp,by omega⟩;rw [show (n:Int)-1-k=(j:Int) by omega,show n-1-k=j from hj.symm] at hy;obtain ⟨v0,hv0⟩:∃ v,v=c0 j:=⟨_,rfl⟩
   obtain ⟨v1,gB⟩:∃ v,v=c1 j:=⟨_,rfl⟩
   obtain ⟨v2,gI⟩:∃ v,v=c2 j:=⟨_,rfl⟩
   rw [<-hv0] at gY hy;rw [<-gB] at tT hy;rw [<-gI] at sQ hy;clear gO hv0 gB gI;have hy:Sem.run Tryz.prog (Instr.yield l #[.int .i64 (j:Int),.agg #[v0,v1,v2]]) wr = .ok (.round l fn tmps assign body) wr:=hy;have HJ:Hid (j=n-1-k/\k<n):=⟨hj,by omega⟩
   clear hj hz oE hk
   gi_wp2
   refine hR.mono ?_;rintro e V3 ⟨rfl,pO,qP⟩
   gi_wp2
   go_roundw
   case rel=>exact ⟨_,k+1,rfl,by have:=HJ.out;omega,by have:=HJ.out;omega,by rw [List.range_succ];exact pO,fun b' hb' kS=>(qP b' hb' kS).trans (wL b' hb' kS)⟩
   case measure=>simp [intOf]
theorem sq3 {R:Nat->Nat->Prop} {w:World}:∀ {L:List Bd} {ys:List Value},Sq ((L.map Bd.cv).map fun c=>Rep R w c) ys->ys.length=3*L.length/\∀ i b,L[i]?=some b->Rep R w b.cw [ys.getD (i*3) undef,ys.getD (i*3+1) undef,ys.getD (i*3+2) undef]
 | [],ys,h=>by
  have h:ys=[]:=h;subst h;exact ⟨rfl,fun i b h=>by simp at h⟩
 | x::L,ys,⟨us,bs,e,h1,h2⟩=>by
  obtain ⟨ih1,ih2⟩:=sq3 (L:=L) h2;have kD:us.length=3:=h1.len;obtain ⟨u0,u1,u2,rfl⟩:∃ u0 u1 u2,us=[u0,u1,u2]:=by
   match us,kD with
   | [u0,u1,u2],_=>exact ⟨u0,u1,u2,rfl⟩
  subst e;refine ⟨by simp;omega,fun i b hi=>?_⟩;cases i with
  | zero =>
   simp at hi;subst hi;exact h1
  | succ i =>
   have:=ih2 i b (by simpa using hi);have hg:∀ k,([u0,u1,u2]++bs).getD (k+3) undef=bs.getD k undef:=fun k=>by simp [List.getD_eq_getElem?_getD]
   rw [show (i+1)*3=i*3+3 by omega,show i*3+3+1=i*3+1+3 by omega,show i*3+3+2=i*3+2+3 by omega,hg,hg,hg];exact this
theorem a8S {R:Nat->Nat->Prop} {w:World} {L:List Bd} {Bb ob:Nat} {ao:Option Addr} {cap:Nat} (hl:L.length<=1000000000) (dQ:w.cell? ⟨Bb,ob,none⟩=some (.slice ao L.length cap)) (qD:R Bb ob) (hv:VRep R w (.lst (L.map Bd.cv)) (.slice ao L.length cap)) :
  ∃ c0 c1 c2:Nat->Value,(∀ i b,L[i]?=some b->VRep R w b.cw (.agg #[c0 i,c1 i,c2 i])) /\
   a2J Tryz.prog 162 #[.pointer (some ⟨Bb,ob,none⟩)] (fun x:Nat => #[.int .i64 ((L.length:Int)-1-x),.agg #[c0 (L.length-1-x),c1 (L.length-1-x),c2 (L.length-1-x)]]) (fun pre x _=>x=pre.length/\x<L.length) (KpX w.heap.size fun b=>¬ ∃ o,R b o) (fun ys=>ys=List.range L.length) w:=by
 obtain ⟨a',n',c',e0,e1,e2,e3,e4,ys,e5,e6⟩:=l5.1 hv;injection e0 with e0 _ _;subst e0;obtain ⟨s1,s2⟩:=sq3 e6;refine ⟨fun i=>ys.getD (i*3) undef,fun i=>ys.getD (i*3+1) undef,fun i=>ys.getD (i*3+2) undef,fun i b hb=>⟨_,rfl,s2 i b hb⟩,?_⟩;intro l J W hW hJ hY h0;refine b6D l Bb ob L.length (fun i=>ys.getD (i*3) undef) (fun i=>ys.getD (i*3+1) undef) (fun i=>ys.getD (i*3+2) undef) R w ao cap dQ qD (fun i hi=>?_) hl J hJ hY W hW h0;rcases e5 with h1 | ⟨b,off,h1,h2⟩
 ·rw [h1] at s1;simp at s1;omega
 ·have hk:∀ k,k<ys.length->R b (off+k)/\w.cell? ⟨b,off+k,none⟩=some (ys.getD k undef):=fun k hk=>by obtain ⟨g1,g2⟩:=h2 k hk;exact ⟨g1,by rw [g2,List.getD_eq_getElem?_getD,getElem?_eq_getElem hk];rfl⟩
  exact ⟨b,off,h1,hk (i*3) (by omega),hk (i*3+1) (by omega),hk (i*3+2) (by omega)⟩
def a2H (b:Bd):List Bd->List Bd
 | []=>[b]
 | x::M=>if x.v=b.v then b::M else x::a2H b M
theorem b0u (b:Bd):∀ M:List Bd,a2s .i64 b.v b.t.cw (M.map imR)=(a2H b M).map imR
 | []=>rfl
 | x::M=>by
  rw [map_cons,a2H];have h1:=a4A (k := .i64) (i:=b.v) (j:=x.v) (c:=b.t.cw) (c':=x.t.cw) (l:=M.map imR);by_cases h:x.v=b.v
  ·rw [if_pos h] at h1 |-;exact h1
  ·rw [if_neg h] at h1 |-;rw [b0u b M] at h1;exact h1
theorem a5P (b:Bd) (v:Int):∀ M:List Bd,d9 (a2H b M) v=if b.v=v then some b.t else d9 M v
 | []=>rfl
 | x::M=>by
  rw [a2H];by_cases h:x.v=b.v
  ·rw [if_pos h,d9,d9];by_cases h2:b.v=v
   ·rw [if_pos h2,if_pos h2]
   ·rw [if_neg h2,if_neg h2,if_neg (by omega)]
  ·rw [if_neg h,d9,d9,a5P b v M];by_cases h2:b.v=v
   ·rw [if_pos h2,if_pos h2,if_neg (by omega)]
   ·rw [if_neg h2,if_neg h2]
def a4c (L:List Bd) (k:Nat):List Bd:=(L.reverse.take k).foldl (fun M b=>a2H b M) []
theorem b4d {L:List Bd} {k:Nat} {b:Bd} (h:L[L.length-1-k]?=some b) (hk:k<L.length):a4c L (k+1)=a2H b (a4c L k):=by
 unfold a4c;rw [take_add_one,List.getElem?_reverse hk,h,List.foldl_append];rfl
theorem b3J:∀ (L:List Bd) (v:Int),d9 (a4c L L.length) v=d9 L v:=by
 intro L v;have:∀ L:List Bd,d9 (L.reverse.foldl (fun M b=>a2H b M) []) v=d9 L v:=by
  intro L
  induction L with
  | nil=>rfl
  | cons b L ih =>
   rw [List.reverse_cons,List.foldl_append];show d9 (a2H b _) v=_;rw [a5P,ih,d9]
 unfold a4c;rw [<-List.length_reverse,take_length];exact this L
end
end Go.Proofs.YteegmcfobgpemaaGreat
