/-
 UnFns2 UnVr UnSize UnFns3 UnFns4 UnFns5 UnFns6
-/
import Derived.Test.YtglmoficcjphaaaGreatMg5
namespace Go.Proofs.YtglmoficcjphaaaGreat
open List (getD_eq_getElem?_getD getElem?_eq_none getElem?_set length_append length_map length_set map_append map_cons mem_cons mem_map mem_of_getElem?)
open Go.RowKit
set_option linter.unusedVariables false
set_option linter.unusedSimpArgs false
set_option maxRecDepth 100000
theorem a0B (W:World) (t:Tm):AFun Tryz.prog W 127 [t.cw] (.val (.b (decide (t.f<0)))):=by
 refine b9 (rs:=[.b (decide (t.f<0))]) Tryz.func127 Tryz.ntmps127 rfl rfl rfl rfl ?_;intro w U hW;refine aS (aR ?_);refine nc zd (nc ze ?_);refine aS (aR ?_);refine nc zg (nc zh (nc zi (nc ze ?_)));exact aT ⟨.inr rfl,rfl⟩
theorem a2A (W:World) (t:Tm) (h1 : -9223372036854775808<=t.f) (h2:t.f<0):AFun Tryz.prog W 128 [t.cw] (.val (.i (-1-t.f))):=by
 refine b9 (rs:=[.i (-1-t.f)]) Tryz.func128 Tryz.ntmps128 rfl rfl rfl rfl ?_;intro w U hW;refine aS (aR ?_);refine nc zd (nc ze ?_);refine aS (aR ?_);refine nc zg (nc zh (nc zj (nc ze ?_)));exact aT ⟨.inr rfl,rfl⟩
theorem b9i (l:List Nd) (x:Nd):(l++[x])[l.length]?=some x:=by simp
set_option maxHeartbeats 2000000 in
theorem a4F (c:Cl) (t:Tm) (ht:t.rng) (hl:c.ns.length<=1000000):r7 Tryz.prog 100 (s7 c) [.bp 350001 0 [],.val t.cw] (.val (.i (c.ns.length:Int))) (s7 (q7 c t)):=by
 have htr:=(Tm.rng_iff _).1 ht;have hsz:=Nd.size_all c.ns;have hlm:(c.ns.map Nd.cv).length=c.ns.length:=length_map ..;refine l8 Tryz.func100 Tryz.ntmps100 rfl rfl rfl rfl rfl rfl ?_;intro w U hU;refine aS (aR ?_);refine ne zd (nc ze ?_);refine aS (aR ?_);refine nc zl (nc z8 (nc zg (nc z9 (nc zY (nc ze ?_)))));refine aS (aD (by kernel_rfl) (by kernel_rfl) ?_);refine nc zl (nc zl (nc z8 (nc zg (nc z9 (nc zy (nc zl (nc zn (nc zD (ne (zbc 300022) (nc z8 (nc zg (nc zbd ?_))))))))))));refine ⟨by kernel_rfl,?_⟩;obtain ⟨c1,hc1⟩:∃ c1:Cl,c1=⟨c.ns++[⟨t,0,c.ns.length,0⟩],c.vr,c.ps⟩:=⟨_,rfl⟩
 have hn1:c1.ns=c.ns++[⟨t,0,c.ns.length,0⟩]:=by rw [hc1]
 have hl1:c1.ns.length=c.ns.length+1:=by rw [hn1,length_append];rfl
 refine AWp.wk ((a7 (s':=[(0,AV.bp 350001 0 []),(3,.bp 3 0 []),(100003,.bx t.cw),(5,.val (.i (c.ns.length:Int))),(450001,.obj),(35500100,.sl 300022 0 c1.ns.length 5),(35500101,.mref 300003),(35500102,.sl 300002 0 c1.ps.length 2),(300022,.mrow 140 5 (c1.ns.map Nd.cv)),(300003,.mp (c1.vr.map vrv)),(300002,.mrow 164 2 (c1.ps.map psv))]) ⟨rfl,rfl,rfl,rfl,rfl,?_,rfl,?_,?_,?_,?_,trivial⟩).trans (A3 300022 300001 rfl rfl (by kernel_rfl) (by kernel_rfl))) ?_
 ·rw [hl1,<-hlm];rfl
 ·rw [hc1];rfl
 ·rw [hn1,map_append];rfl
 ·rw [hc1];rfl
 ·rw [hc1];rfl
 refine aS (aS (aR ?_));refine nc zy (nc (zw (z:=a0B w t)) (nc z0 ?_));by_cases hf:t.f<0
 case neg =>
  have hg:decide (t.f<0)=false:=by simpa using hf
  have hadd:q7 c t=c1:=by unfold q7 U8 addV;rw [if_neg hf,if_neg hf,hc1]
  rw [hg,hadd];refine aC rfl (fun hc=>?_) (fun hc=>by cases hc);refine aS (aR ?_);refine nc zl (nc ze ?_);exact aT ⟨.inr rfl,_,Wk.refl _,rfl,rfl,rfl,rfl,rfl,rfl,rfl,rfl,trivial⟩
 have hg:decide (t.f<0)=true:=by simpa using hf
 rw [hg];refine aC rfl (fun hc=>by cases hc) (fun hc=>aK ?_);refine aS (aS (aD (by kernel_rfl) (by kernel_rfl) ?_));refine nc zl (nc z8 (nc zg (nc z9 (nc zy (nc (zw (z:=a2A w t htr.1.1 hf)) (nc (zbg (hik:=a3p _)) (nc zl (nc zx (nc zx (nc ze (nc ze ?_)))))))))));refine ⟨by kernel_rfl,?_⟩;rw [b2o];have hvr:c1.vr=c.vr:=by rw [hc1]
 rw [hvr];refine aS (aR ?_);refine nc zl ?_;have hx:c1.ns[c.ns.length]?=some ⟨t,0,c.ns.length,0⟩:=by rw [hn1];exact b9i _ _
 have hx':=Nd.map_at hx;have hlm1:(c1.ns.map Nd.cv).length=c1.ns.length:=length_map ..;cases hlk:o7 c.vr (-1-t.f) with
 | some m =>
  have hadd:q7 c t=⟨setUp c1.ns c.ns.length m,c.vr,c1.ps⟩:=by
   unfold q7 U8 addV;rw [if_pos hf,if_pos hf,hlk];have:setUp c1.ns c.ns.length m=c.ns++[⟨t,0,m,0⟩]:=by
    unfold setUp;rw [q8 hx,hn1,List.set_append_right _ _ (Nat.le_refl _)];simp
   rw [this,hc1];rfl
  have hm1:(setUp c1.ns c.ns.length m).map Nd.cv=(c1.ns.map Nd.cv).set c.ns.length (Nd.cw ⟨t,0,m,0⟩):=P6 hx;refine aC rfl (fun hc=>?_) (fun hc=>by cases hc);refine aR ?_;refine nc zl (nc z8 (nc zg (nc z9 (nc zl (nc zl (nc (zM (k:=c.ns.length)) (nc z7 (nc (zQ (F:=hx')) ?_))))))));rw [hadd];refine AWp.wk (a7 (s':=(5,AV.val (.i (c.ns.length:Int)))::s7 ⟨setUp c1.ns c.ns.length m,c.vr,c1.ps⟩) ⟨rfl,rfl,?_,rfl,rfl,?_,rfl,rfl,trivial⟩) ?_
  ·show _=some (AV.sl 300001 0 (setUp c1.ns c.ns.length m).length 5);rw [G3];rfl
  ·show _=some (AV.mrow 140 5 ((setUp c1.ns c.ns.length m).map Nd.cv));rw [hm1];rfl
  refine aS (aR ?_);refine nc zl (nc ze ?_);exact aT ⟨.inr rfl,_,Wk.refl _,rfl,rfl,rfl,rfl,rfl,rfl,rfl,rfl,trivial⟩
 | none =>
  have hadd:q7 c t=⟨c1.ns,c.vr++[(-1-t.f,c.ns.length)],c1.ps⟩:=by
   unfold q7 U8 addV;rw [if_pos hf,if_pos hf,hlk,hc1];rfl
  have hput:=c1A (n:=c.ns.length) hlk;refine aC rfl (fun hc=>by cases hc) (fun hc=>?_);refine aD (by kernel_rfl) (by kernel_rfl) ?_;refine nc zl (nc z8 (nc zg (nc z9 (nc zy (nc (zw (z:=a2A w t htr.1.1 hf)) (nc zl (nc (zbh (G:=a3p _)) ?_)))))));refine ⟨by kernel_rfl,?_⟩;rw [hadd];refine AWp.wk (a7 (s':=(5,AV.val (.i (c.ns.length:Int)))::s7 ⟨c1.ns,c.vr++[(-1-t.f,c.ns.length)],c1.ps⟩) ⟨rfl,rfl,rfl,rfl,rfl,rfl,?_,rfl,trivial⟩) ?_
  ·show _=some (AV.mp ((c.vr++[(-1-t.f,c.ns.length)]).map vrv));rw [<-hput];rfl
  refine aS (aR ?_);refine nc zl (nc ze ?_);exact aT ⟨.inr rfl,_,Wk.refl _,rfl,rfl,rfl,rfl,rfl,rfl,rfl,rfl,trivial⟩
def trmOk (ns:List Nd):Prop:=∀ x∈ns,x.t.rng/\x.t.ok
theorem trmOk.add {c:Cl} (h:trmOk c.ns) {t:Tm} (h1:t.rng) (h2:t.ok):trmOk (q7 c t).ns:=fun x hx=>by
 rcases List.mem_append.1 hx with hx | hx
 ·exact h x hx
 ·rw [List.mem_singleton] at hx;rw [hx];exact ⟨h1,h2⟩
theorem trmOk.all {l:List Tm} (hl:∀ t∈l,t.rng/\t.ok):∀ {c:Cl},trmOk c.ns->trmOk (addAll c l).ns:=by
 induction l with
 | nil=>exact fun h=>h
 | cons t l ih =>
  intro c h;exact ih (fun s hs=>hl s (List.mem_cons_of_mem _ hs)) (h.add (hl t (by simp)).1 (hl t (by simp)).2)
theorem a8o {c:Cl} {l:List Tm} {k:Nat} {t:Tm} (h:l[k]?=some t):addAll c (l.take (k+1))=q7 (addAll c (l.take k)) t:=by
 unfold addAll;rw [List.take_add_one,h,List.foldl_append];rfl
theorem a3Q (l:List Tm):∀ c:Cl,∃ N,(addAll c l).ns=c.ns++N/\N.length=l.length:=by
 induction l with
 | nil=>exact fun c=>⟨[],by simp [addAll],rfl⟩
 | cons t l ih =>
  intro c;obtain ⟨N,h,h2⟩:=ih (q7 c t);exact ⟨⟨t,0,U8 c t,0⟩::N,by
   show (addAll (q7 c t) l).ns=_;rw [h];show (c.ns++[⟨t,0,U8 c t,0⟩])++N=_;simp,by simp [h2]⟩
theorem F0 (c:Cl) (l:List Tm):(addAll c l).ns.length=c.ns.length+l.length:=by
 obtain ⟨N,h,h2⟩:=a3Q l c;rw [h,length_append,h2]
set_option maxHeartbeats 4000000 in
theorem L2 (c:Cl) (n:Nat) (hn:n<c.ns.length) (hT:trmOk c.ns) (hl:(pC c n).1.ns.length<=1000000) (hfi:(nT c.ns n).l.length≠0->nK c.ns n<=1000000):r7 Tryz.prog 104 (s7 c) [.bp 350001 0 [],.val (.i (n:Int))] (.tup [.i ((pC c n).2.1:Int),.i ((pC c n).2.2:Int)]) (s7 (pC c n).1):=by
 obtain ⟨x,hx⟩:=O7 hn;have hx':=Nd.map_at hx;have hlm:(c.ns.map Nd.cv).length=c.ns.length:=length_map ..;obtain ⟨htr,hto⟩:=hT x (mem_of_getElem? hx);have htr':=(Tm.rng_iff _).1 htr;have hto':=(Tm.ok_iff _).1 hto;have hnT:nT c.ns n=x.t:=by unfold nT;rw [q8 hx]
 have hnK:nK c.ns n=x.fi:=by unfold nK;rw [q8 hx]
 have hsz:=Tm.size_all x.t.l;unfold pC at hl |-;rw [hnT,hnK] at hl |-;rw [hnK,hnT] at hfi;refine l8 Tryz.func104 Tryz.ntmps104 rfl rfl rfl rfl rfl rfl ?_;intro w U hU;refine aS (aR ?_);refine nc ze (nc ze ?_);refine aS (aR ?_);refine nc zl (nc z8 (nc zg (nc z9 (nc zl (nc (zM (k:=n)) (nc z7 (nc (zN (G:=hx')) (ne zk (nc zo ?_)))))))));refine AWp.wk (a7 (s':=(0,AV.bp 350001 0 [])::(1,.val (.i (n:Int)))::(6,.bp 6 0 [])::(100006,.bx x.t.cw)::s7 c) ⟨rfl,rfl,rfl,rfl,rfl,rfl,rfl,rfl,rfl,rfl,rfl,trivial⟩) ?_;have hiv:=a0B w x.t;by_cases hf:x.t.f<0
 case pos =>
  rw [show decide (x.t.f<0)=true by simpa using hf] at hiv;rw [if_pos (.inl hf)];refine aS (aS (aR ?_));refine nc zy (nc (zw (z:=hiv)) (nc zl (nc zR (nc zR (nc zR (nc zR (nc zP ?_)))))));refine aC rfl (fun hc=>?_) (fun hc=>by cases hc);refine aS (aR ?_);refine nc ze (nc ze ?_);exact aT ⟨.inr rfl,_,Wk.refl _,rfl,rfl,rfl,rfl,rfl,rfl,rfl,rfl,trivial⟩
 rw [show decide (x.t.f<0)=false by simpa using hf] at hiv;by_cases h0:x.t.l.length=0
 case pos =>
  have g0:decide (((x.t.l.map Tm.cv).length:Int)=0)=true:=by rw [length_map];simpa using h0
  rw [if_pos (.inr h0)];refine aS (aS (aR ?_));refine nc zy (nc (zw (z:=hiv)) (nc zl (nc (zg (r:=gb)) (nc (zh (r:=gb)) (nc (zp (r:=gb)) (nc (zt (r:=gb)) (nc zS ?_)))))));refine aC rfl (fun hc=>?_) (fun hc=>by rw [g0] at hc;cases hc);refine aS (aR ?_);refine nc ze (nc ze ?_);exact aT ⟨.inr rfl,_,Wk.refl _,rfl,rfl,rfl,rfl,rfl,rfl,rfl,rfl,trivial⟩
 have g0:decide (((x.t.l.map Tm.cv).length:Int)=0)=false:=by rw [length_map];simpa using h0
 have hno:¬ (x.t.f<0\/x.t.l.length=0):=by omega
 rw [if_neg hno] at hl |-;refine aS (aS (aR ?_));refine nc zy (nc (zw (z:=hiv)) (nc zl (nc (zg (r:=gb)) (nc (zh (r:=gb)) (nc (zp (r:=gb)) (nc (zt (r:=gb)) (nc zS ?_)))))));refine aC rfl (fun hc=>by rw [g0] at hc;cases hc) (fun hc=>aK ?_);refine AWp.wk (a7 (s':=(0,AV.bp 350001 0 [])::(1,.val (.i (n:Int)))::(6,.bp 6 0 [])::(100006,.bx x.t.cw)::s7 c) ⟨rfl,rfl,rfl,rfl,rfl,rfl,rfl,rfl,rfl,rfl,rfl,trivial⟩) ?_;by_cases hk0:x.fi=0
 case neg =>
  have hfi:=hfi h0;rw [if_neg hk0];refine aS (aS (aR ?_));refine nc zl (nc z8 (nc zg (nc z9 (nc zl (nc (zM (k:=n)) (nc z7 (nc (zN (G:=hx')) (nc zt ?_))))))));refine aC rfl (fun hc=>?_) (fun hc=>aK ?_)
  ·have:(x.fi:Int)=0:=by simpa using hc
   omega
  refine aS (aR ?_);refine nc zl (nc z8 (nc zg (nc z9 (nc zl (nc (zM (k:=n)) (nc z7 (nc (zN (G:=hx')) (nc ze ?_))))))));refine aS (aD (by kernel_rfl) (by kernel_rfl) ?_);refine nc zl (nc zl (nc zg (nc zh (nc zp (nc zu (nc ze (nc ze ?_)))))));refine ⟨by kernel_rfl,?_⟩;refine aT ⟨.inr rfl,_,Wk.refl _,?_,rfl,rfl,rfl,rfl,rfl,rfl,rfl,trivial⟩;show some (AV.tup [.i (x.fi:Int),.i ((x.fi:Int)+((x.t.l.map Tm.cv).length:Nat))])=some (AV.tup [.i (x.fi:Int),.i ((x.fi+x.t.l.length:Nat):Int)]);rw [length_map];congr 5
 rw [if_pos hk0] at hl |-;obtain ⟨c1,hc1⟩:∃ c1,c1=c.setFi n c.ns.length:=⟨_,rfl⟩
 rw [<-hc1] at hl |-;have hn1:c1.ns=setFi c.ns n c.ns.length:=by rw [hc1];rfl
 have hm1:c1.ns.map Nd.cv=(c.ns.map Nd.cv).set n (Nd.cw { x with fi:=c.ns.length }):=by rw [hn1];exact b3d hx
 have hl1:c1.ns.length=c.ns.length:=by rw [hn1];unfold setFi;simp
 have hx1:c1.ns[n]?=some { x with fi:=c.ns.length }:=by
  rw [hn1];unfold setFi;rw [List.getElem?_set_self hn,q8 hx]
 rw [F0,hl1] at hl;refine aS (aS (aR ?_));refine nc zl (nc z8 (nc zg (nc z9 (nc zl (nc (zM (k:=n)) (nc z7 (nc (zN (G:=hx')) (nc zt ?_))))))));refine aC rfl (fun hc=>?_) (fun hc=>?_)
 case refine_2 =>
  have:¬ (x.fi:Int)=0:=by simpa using hc
  omega
 refine aS (aD (by kernel_rfl) (by kernel_rfl) ?_);refine nc zl (nc z8 (nc zg (nc z9 (nc zl (nc zl (nc z8 (nc zg (nc z9 (nc zY (nc (zM (k:=n)) (nc z7 (nc (zQ (F:=hx')) ?_))))))))))));refine ⟨by kernel_rfl,?_⟩;refine AWp.wk (a7 (s':=(0,AV.bp 350001 0 [])::(1,.val (.i (n:Int)))::(6,.bp 6 0 [])::(100006,.bx x.t.cw)::s7 c1) ⟨rfl,rfl,rfl,rfl,rfl,?_,?_,?_,?_,?_,?_,trivial⟩) ?_
 ·show _=some (AV.sl 300001 0 c1.ns.length 5);rw [hl1];rfl
 ·rfl
 ·rw [hc1];rfl
 ·show _=some (AV.mrow 140 5 (c1.ns.map Nd.cv));rw [hm1];rfl
 ·rw [hc1];rfl
 ·rw [hc1];rfl
 refine aS (aR ?_);refine nc zg (nc zh (nc zp (nc zl ?_)));refine aB (p6 x.t.l.length (fun k=>(0,AV.bp 350001 0 [])::(1,.val (.i (n:Int)))::(6,.bp 6 0 [])::(100006,.bx x.t.cw)::(48,.val (.lst (x.t.l.map Tm.cv)))::(49,.val (.i (x.t.l.map Tm.cv).length))::(50,.val (.i k))::s7 (addAll c1 (x.t.l.take k))) (a7 ⟨rfl,rfl,rfl,rfl,rfl,rfl,rfl,rfl,rfl,rfl,rfl,rfl,rfl,rfl,trivial⟩) ?_);intro k hk;refine aS (aR ?_);refine nc zi ?_;refine aS (aC rfl (fun hlt=>?_) (fun hlt=>?_))
 ·have hkl:k<x.t.l.length:=by simpa using hlt
  obtain ⟨y,hy⟩:∃ y,x.t.l[k]?=some y:=⟨x.t.l[k],List.getElem?_eq_getElem hkl⟩
  have hy':=Tm.map_at hy;have hym:=mem_of_getElem? hy;have hck:(addAll c1 (x.t.l.take k)).ns.length<=1000000:=by rw [F0,hl1,List.length_take];omega
  obtain ⟨ck,hk2⟩:∃ ck,ck=addAll c1 (x.t.l.take k):=⟨_,rfl⟩
  have hstep:=a8o (c:=c1) hy;rw [<-hk2] at hstep hck |-;refine aK ?_;refine aS (aB (aS (aR ?_)));refine nc (zq (j:=k) (H:=hy') (hz:=hsz)) (nc zr (ne zk (nc zo ?_)));refine aR ?_;refine nc zl (nc zy (nc (z5 (z:=a4F ck y (htr'.2 y hym) hck) (G:=j5 (by first | rfl | kernel_rfl))) ?_));refine aR ?_;refine nc zu (nc zl ?_);refine ⟨hkl,?_⟩;show Wk _ _ _ _ (_::_::_::_::_::_::_::s7 (addAll c1 (x.t.l.take (k+1))));rw [hstep];exact a7 ⟨rfl,rfl,rfl,rfl,rfl,rfl,rfl,rfl,rfl,rfl,rfl,rfl,rfl,rfl,trivial⟩
 ·have hkl:k=x.t.l.length:=by
   have:¬ k<x.t.l.length:=by simpa using hlt
   omega
  subst hkl;rw [List.take_length];obtain ⟨N,hN,_⟩:=a3Q x.t.l c1;have hx2:(addAll c1 x.t.l).ns[n]?=some { x with fi:=c.ns.length }:=by
   rw [hN,List.getElem?_append_left (by rw [hl1];exact hn)];exact hx1
  have hx2':=Nd.map_at hx2;obtain ⟨c2,hc2⟩:∃ c2,c2=addAll c1 x.t.l:=⟨_,rfl⟩
  have hl2:c2.ns.length=c.ns.length+x.t.l.length:=by rw [hc2,F0,hl1]
  have hlm2:(c2.ns.map Nd.cv).length=c2.ns.length:=length_map ..;rw [<-hc2] at hx2' |-;refine aE ?_;refine AWp.wk (a7 (s':=(0,AV.bp 350001 0 [])::(1,.val (.i (n:Int)))::(6,.bp 6 0 [])::(100006,.bx x.t.cw)::s7 c2) ⟨rfl,rfl,rfl,rfl,rfl,rfl,rfl,rfl,rfl,rfl,rfl,trivial⟩) ?_;refine aS (aR ?_);refine nc zl (nc z8 (nc zg (nc z9 (nc zl (nc (zM (k:=n)) (nc z7 (nc (zN (G:=hx2')) (nc ze ?_))))))));refine aS (aD (by kernel_rfl) (by kernel_rfl) ?_);refine nc zl (nc zl (nc zg (nc zh (nc zp (nc zu (nc ze (nc ze ?_)))))));refine ⟨by kernel_rfl,?_⟩;refine aT ⟨.inr rfl,_,Wk.refl _,?_,rfl,rfl,rfl,rfl,rfl,rfl,rfl,trivial⟩;show some (AV.tup [.i (c.ns.length:Int),.i ((c.ns.length:Int)+((x.t.l.map Tm.cv).length:Nat))])=some (AV.tup [.i (c.ns.length:Int),.i ((c.ns.length+x.t.l.length:Nat):Int)]);rw [length_map];congr 5
def S9 (l:List (Int×Nat)):Prop:=(l.map Prod.fst).Nodup/\∀ p∈l,0<=p.1
theorem b0t {l:List (Int×Nat)} {v:Int} (h:o7 l v=none):v∉l.map Prod.fst:=by
 induction l with
 | nil=>simp
 | cons p l ih =>
  rw [o7] at h;split at h
  ·cases h
  ·rename_i hne;rw [map_cons,mem_cons];exact fun e=>e.elim (fun e=>hne e.symm) (ih h)
theorem Q0 {l:List (Int×Nat)} (hn:(l.map Prod.fst).Nodup) {v:Int} {m:Nat}:o7 l v=some m↔(v,m)∈l:=by
 induction l with
 | nil=>simp [o7]
 | cons p l ih =>
  rw [map_cons] at hn;obtain ⟨h1,h2⟩:=List.nodup_cons.1 hn;rw [o7,mem_cons];by_cases e:p.1=v
  ·rw [if_pos e];constructor
   ·intro h;left;rw [<-e,<-Option.some.inj h]
   ·rintro (h | h)
    ·rw [<-h]
    ·exact absurd (mem_map.2 ⟨(v,m),h,rfl⟩) (by rw [<-e];exact h1)
  ·rw [if_neg e,ih h2];exact ⟨.inr,fun h=>h.resolve_left fun h=>e (by rw [<-h])⟩
theorem b0Z {l l':List (Int×Nat)} (hn:(l.map Prod.fst).Nodup) (hp:l'.Perm l) (v:Int):o7 l' v=o7 l v:=by
 have hn':(l'.map Prod.fst).Nodup:=(hp.map _).nodup_iff.2 hn;cases h:o7 l v with
 | some m=>rw [Q0 hn',hp.mem_iff];exact (Q0 hn).1 h
 | none =>
  cases h':o7 l' v with
  | none=>rfl
  | some m =>
   have:=(Q0 hn').1 h';rw [hp.mem_iff,<-Q0 hn,h] at this;cases this
theorem b1r {l l':List (Int×Nat)} (hn:(l.map Prod.fst).Nodup) (hp:l'.Perm l) (g:Nat->Tm) (v:Int):b7 (l'.map fun p=>(⟨p.1,g p.2⟩:Bd)) v=(o7 l v).map g:=by
 rw [<-b0Z hn hp v];clear hn hp
 induction l' with
 | nil=>rfl
 | cons p l' ih =>
  rw [map_cons,b7,o7];show (if p.1=v then _ else _)=_;split
  ·rfl
  ·exact ih
theorem b1M (c:Cl) (t:Tm) (h:S9 c.vr):S9 (q7 c t).vr:=by
 show S9 (addV c t);unfold addV;split
 ·rename_i hf;cases hl:o7 c.vr (-1-t.f) with
  | some m=>exact h
  | none =>
   refine ⟨?_,fun p hp=>?_⟩
   ·rw [map_append,List.nodup_append];refine ⟨h.1,by simp,fun a ha b hb=>?_⟩;rw [map_cons,List.map_nil,List.mem_singleton] at hb;exact fun e=>b0t hl (by rw [e,hb] at ha;exact ha)
   ·rcases List.mem_append.1 hp with hp | hp
    ·exact h.2 p hp
    ·rw [List.mem_singleton] at hp;rw [hp];show 0 <= -1-t.f;omega
 ·exact h
theorem b3Q (l:List Tm):∀ c:Cl,S9 c.vr->S9 (addAll c l).vr:=by
 induction l with
 | nil=>exact fun c h=>h
 | cons t l ih=>exact fun c h=>ih _ (b1M c t h)
theorem a1c (c:Cl) (n:Nat) (h:S9 c.vr):S9 (pC c n).1.vr:=by
 unfold pC;split
 ·exact h
 ·split
  ·exact b3Q _ _ h
  ·exact h
theorem a5Y (c:Cl) (a b:Nat) (h:S9 c.vr):S9 (joinTo c a b).1.vr:=by
 unfold joinTo;split
 ·exact h
 ·split
  ·exact h
  ·exact a1c _ _ (a1c _ _ h)
theorem b2l {k:Nat} {c:Cl} {x y:Nat} {q} (e:C2 k c x y=some q) (h:S9 c.vr):S9 q.1.vr:=by
 unfold C2 at e;cases h1:o9 k c.ns x with
 | none=>rw [h1] at e;cases e
 | some q1 =>
  rw [h1] at e;simp only at e;cases h2:o9 k q1.1 y with
  | none=>rw [h2] at e;cases e
  | some q2 =>
   rw [h2] at e;simp only at e;split at e
   ·cases e;exact h
   ·split at e
    ·cases e;exact a5Y _ _ _ h
    ·cases e;exact a5Y _ _ _ h
theorem b7z:∀ (k:Nat) {c:Cl} {q},O2 k c=some q->S9 c.vr->S9 q.1.vr
 | 0,_,_,e,_=>by cases e
 | k+1,c,q,e,h=>by
  rw [O2] at e;cases h1:c.ps.getLast? with
  | none=>rw [h1] at e;cases e;exact h
  | some p =>
   rw [h1] at e;simp only at e;cases h2:C2 k ⟨c.ns,c.vr,c.ps.dropLast⟩ p.1 p.2 with
   | none=>rw [h2] at e;cases e
   | some q1 =>
    rw [h2] at e;simp only at e;split at e
    ·exact b7z k e (b2l h2 h)
    ·cases e;exact b2l h2 h
theorem b7l:∀ {k:Nat} {l:List (Tm×Tm)} {c:Cl} {q},s9 k l c=some q->S9 c.vr->S9 q.1.vr
 | k,[],c,q,e,h=>by cases e;exact h
 | k,p::l,c,q,e,h=>by
  rw [s9] at e;cases h2:O2 k (openC c p) with
  | none=>rw [h2] at e;cases e
  | some q1 =>
   rw [h2] at e;simp only at e;have h3:S9 q1.1.vr:=b7z k h2 (b1M _ _ (b1M _ _ h));split at e
   ·exact b7l e h3
   ·cases e;exact h3
theorem a4C {k:Nat}:∀ (j n:Nat) {c:Cl} {hs:List Nat} {q},G0 k j n c hs=some q->S9 c.vr->S9 q.1.vr
 | 0,_,_,_,_,e,_=>by cases e
 | j+1,n,c,hs,q,e,h=>by
  rw [G0] at e;split at e
  ·cases h1:o9 k c.ns n with
   | none=>rw [h1] at e;cases e
   | some q1 =>
    rw [h1] at e;simp only at e;split at e
    ·exact a4C j _ e h
    ·cases h2:a6S k (List.range' (pC ⟨q1.1,c.vr,c.ps⟩ n).2.1 ((pC ⟨q1.1,c.vr,c.ps⟩ n).2.2-(pC ⟨q1.1,c.vr,c.ps⟩ n).2.1)) (pC ⟨q1.1,c.vr,c.ps⟩ n).1.ns with
     | none=>rw [h2] at e;cases e
     | some ns =>
      rw [h2] at e;simp only at e;exact a4C j _ e (a1c ⟨q1.1,c.vr,c.ps⟩ n h)
  ·cases e;exact h
theorem b7m {k:Nat}:∀ (j i:Nat) {c:Cl} {o:List Nat} {q},a3j k j i c o=some q->S9 c.vr->S9 q.1.vr
 | 0,_,_,_,_,e,_=>by cases e
 | j+1,i,c,o,q,e,h=>by
  rw [a3j] at e;split at e
  ·cases e;exact h
  ·rename_i g hg;split at e
   ·cases e
   ·exact b7m j _ e (a1c c g h)
theorem P3 {l:List (Int×Nat)} (hn:(l.map Prod.fst).Nodup) {p:Int×Nat} (hp:p∈l):o7 l p.1=some p.2:=by
 induction l with
 | nil=>cases hp
 | cons a l ih =>
  rw [map_cons,List.nodup_cons] at hn;rw [o7];rcases mem_cons.1 hp with e | e
  ·rw [<-e,if_pos rfl]
  ·rw [if_neg (fun e2=>hn.1 (by rw [e2];exact List.mem_map_of_mem e)),ih hn.2 e]
def pw (ns:List Nd):Nat:=i7 (gw ns 0) ns.length
theorem gw0 (ns:List Nd) (m:Nat):gw ns 0 m=if nK ns m=0 then (nT ns m).size else 1:=by
 unfold gw;rw [if_neg (Nat.not_lt_zero m)]
theorem D4 (ns:List Nd):ns.length<=pw ns:=by
 have:∀ N,N<=i7 (gw ns 0) N:=fun N=>by
  induction N with
  | zero=>exact Nat.le_refl _
  | succ N ih =>
   rw [i7];have:1<=gw ns 0 N:=by
    rw [gw0];split
    ·exact Tm.size_pos _
    ·exact Nat.le_refl _
   omega
 exact this _
theorem a3l {ns ns':List Nd} (hl:ns'.length=ns.length) (ht:∀ m,nT ns' m=nT ns m) (hk:∀ m,nK ns' m=nK ns m):pw ns'=pw ns:=a6R hl ht hk
theorem a7T {ns:List Nd} {n k:Nat}:(∀ m,nT (setUp ns n k) m=nT ns m)/\∀ m,nK (setUp ns n k) m=nK ns m:=by
 rcases Nat.lt_or_ge n ns.length with h | h
 ·exact ⟨fun m=>Q7 h,fun m=>Q4 h⟩
 ·have:setUp ns n k=ns:=List.set_eq_of_length_le h;rw [this];exact ⟨fun _=>rfl,fun _=>rfl⟩
theorem b0O {ns:List Nd} {n:Nat} {x:Int}:(∀ m,nT (setUs ns n x) m=nT ns m)/\∀ m,nK (setUs ns n x) m=nK ns m:=by
 rcases Nat.lt_or_ge n ns.length with h | h
 ·exact ⟨fun m=>a0Z h,fun m=>a1j h⟩
 ·have:setUs ns n x=ns:=List.set_eq_of_length_le h;rw [this];exact ⟨fun _=>rfl,fun _=>rfl⟩
theorem b7P {ns:List Nd} {n k:Nat}:pw (setUp ns n k)=pw ns:=a3l F2 a7T.1 a7T.2
theorem c2h {ns:List Nd} {n:Nat} {x:Int}:pw (setUs ns n x)=pw ns:=a3l P4 b0O.1 b0O.2
theorem a7p:∀ (k:Nat) {ns:List Nd} {n:Nat} {q},o9 k ns n=some q->pw q.1=pw ns
 | 0,_,_,_,e=>by cases e
 | k+1,ns,n,q,e=>by
  rw [o9] at e;split at e
  ·cases e;rfl
  ·rw [a7p k e,b7P]
theorem b1s (c:Cl) (t:Tm):pw (q7 c t).ns=pw c.ns+t.size:=by
 unfold pw;rw [x6,i7];have h1:i7 (gw (q7 c t).ns 0) c.ns.length=i7 (gw c.ns 0) c.ns.length:=p9 fun m hm=>by
  rw [gw0,gw0];unfold nK nT;rw [a1E c t hm]
 have h2:gw (q7 c t).ns 0 c.ns.length=t.size:=by
  rw [gw0];unfold nK nT q7;rw [G8];exact if_pos rfl
 rw [h1,h2]
theorem b4A (l:List Tm):∀ c:Cl,pw (addAll c l).ns=pw c.ns+(l.map Tm.size).sum:=by
 induction l with
 | nil=>exact fun c=>rfl
 | cons t l ih=>intro c;rw [show addAll c (t::l)=addAll (q7 c t) l from rfl,ih,b1s,map_cons,List.sum_cons];omega
theorem Q9 (c:Cl) (n:Nat):pw (pC c n).1.ns=pw c.ns:=by
 unfold pC;split
 ·rfl
 ·rename_i hv;split
  ·rename_i hk;have hn:n<c.ns.length:=by
    rcases Nat.lt_or_ge n c.ns.length with h | h
    ·exact h
    ·exact absurd (.inr (by unfold nT;rw [a4D h];rfl)) hv
   rw [J7 _ c hn];obtain ⟨l,hl⟩:∃ l,l=(nT c.ns n).l:=⟨_,rfl⟩
   rw [<-hl];have hlen:=S8 l c;have hn':n<(addAll c l).ns.length:=by omega
   have h1:=b4A l c;show pw (setFi (addAll c l).ns n c.ns.length)=_;unfold pw at h1 |-;rw [P7];have h2:i7 (gw (setFi (addAll c l).ns n c.ns.length) 0) (addAll c l).ns.length=i7 (upd (gw (addAll c l).ns 0) n 1) (addAll c l).ns.length:=p9 fun m hm=>by
    rw [gw0];by_cases e:m=n
    ·subst e;rw [i9,G4 hn',i9,if_neg (by omega)]
    ·rw [o8 e,gw0,G4 hn',o8 e,M8 hn']
   have h3:=K1 (f:=gw (addAll c l).ns 0) (x:=1) hn';have h4:gw (addAll c l).ns 0 n=(nT c.ns n).size:=by
    rw [gw0,show nK (addAll c l).ns n=0 by unfold nK at hk |-;rw [C5 l c hn];exact hk,if_pos rfl];unfold nT;rw [C5 l c hn]
   have h6:=Tm.size_sym (t:=nT c.ns n) (fun e=>hv (.inl e));rw [<-hl] at h6;rw [h2];omega
  ·rfl
theorem a6n (c:Cl) (a b:Nat):pw (joinTo c a b).1.ns=pw c.ns:=by
 unfold joinTo;split
 ·exact b7P
 ·split
  ·rfl
  ·show pw (setUp _ _ _)=_;rw [b7P];show pw (pC (pC c a).1 b).1.ns=_;rw [Q9,Q9]
theorem a3N {k:Nat} {c:Cl} {x y:Nat} {q} (e:C2 k c x y=some q):pw q.1.ns=pw c.ns:=by
 unfold C2 at e;cases h1:o9 k c.ns x with
 | none=>rw [h1] at e;cases e
 | some q1 =>
  rw [h1] at e;simp only at e;cases h2:o9 k q1.1 y with
  | none=>rw [h2] at e;cases e
  | some q2 =>
   rw [h2] at e;simp only at e;have h3:pw q2.1=pw c.ns:=by rw [a7p k h2,a7p k h1]
   split at e
   ·cases e;exact h3
   ·split at e
    ·cases e;rw [a6n];exact h3
    ·cases e;rw [a6n];exact h3
theorem b6R:∀ (k:Nat) {c:Cl} {q},O2 k c=some q->pw q.1.ns=pw c.ns
 | 0,_,_,e=>by cases e
 | k+1,c,q,e=>by
  rw [O2] at e;cases h1:c.ps.getLast? with
  | none=>rw [h1] at e;cases e;rfl
  | some p =>
   rw [h1] at e;simp only at e;cases h2:C2 k ⟨c.ns,c.vr,c.ps.dropLast⟩ p.1 p.2 with
   | none=>rw [h2] at e;cases e
   | some q1 =>
    rw [h2] at e;simp only at e;split at e
    ·rw [b6R k e,a3N h2]
    ·cases e;rw [a3N h2]
def plc (l:List (Tm×Tm)):Nat:=(l.map fun p=>p.1.size+p.2.size).sum
theorem Y9 (ns:List Nd):trmOk ns↔∀ m,m<ns.length->(nT ns m).rng/\(nT ns m).ok:=by
 constructor
 ·intro h m hm;obtain ⟨x,hx⟩:=O7 hm;unfold nT;rw [q8 hx];exact h x (mem_of_getElem? hx)
 ·intro h x hx;obtain ⟨m,hm⟩:=List.getElem?_of_mem hx;have:=h m (List.getElem?_eq_some_iff.1 hm).1;unfold nT at this;rw [q8 hm] at this;exact this
theorem trmOk.same {ns ns':List Nd} (h:trmOk ns) (hl:ns'.length=ns.length) (ht:∀ m,nT ns' m=nT ns m):trmOk ns':=(Y9 _).2 fun m hm=>by
 rw [ht];exact (Y9 _).1 h m (by omega)
theorem trmOk.parts {c:Cl} (h:trmOk c.ns) {n:Nat} (hn:n<c.ns.length):trmOk (pC c n).1.ns:=by
 have h0:=(Y9 _).1 h n hn;unfold pC;split
 ·exact h
 ·split
  ·refine trmOk.all (fun t ht=>⟨((Tm.rng_iff _).1 h0.1).2 t ht,((Tm.ok_iff _).1 h0.2).2 t ht⟩) ?_;refine h.same (by unfold Cl.setFi setFi;simp) fun m=>?_;unfold Cl.setFi setFi nT;simp only;rw [getD_eq_getElem?_getD,getElem?_set];split
   ·rename_i e;subst e
    first | rfl | (rw [if_pos hn];rfl)
   ·rw [<-getD_eq_getElem?_getD]
  ·exact h
theorem I0:∀ (k:Nat) {ns:List Nd} {n:Nat} {r},o9 k ns n=some r->upOk ns->n<ns.length->upOk r.1/\r.1.length=ns.length/\r.2<ns.length/\(∀ m,nT r.1 m=nT ns m)/\∀ m,nK r.1 m=nK ns m
 | 0,_,_,_,e,_,_=>by cases e
 | k+1,ns,n,r,e,hu,hn=>by
  rw [o9] at e;split at e
  ·cases e;exact ⟨hu,rfl,hn,fun _=>rfl,fun _=>rfl⟩
  ·have h1:nU ns (nU ns n)<ns.length:=hu _ (hu n hn);have hl:(setUp ns n (nU ns (nU ns n))).length=ns.length:=G3 _ _ _;have hu1:=hu.set (n:=n) h1;obtain ⟨a1,a2,a3,a4,a5⟩:=I0 k e hu1 (hu1 n (by rw [hl];exact hn));exact ⟨a1,a2.trans hl,by rw [hl] at a3;exact a3,fun m=>(a4 m).trans (a7T.1 m),fun m=>(a5 m).trans (a7T.2 m)⟩
theorem ClsC.ups {c:Cl} {H r:Nat->Nat} {E} (h:ClsC c H r E):upOk c.ns:=fun m hm=>(h.up m hm).1
theorem b0r (l:List Tm):∀ c:Cl,(addAll c l).ps=c.ps:=by
 induction l with
 | nil=>exact fun c=>rfl
 | cons t l ih=>exact fun c=>ih (q7 c t)
theorem a5G (c:Cl) (n:Nat):(pC c n).1.ps=c.ps:=by
 unfold pC;split
 ·rfl
 ·split
  ·rw [b0r];rfl
  ·rfl
def kidOk (ns:List Nd):Prop:=∀ n,n<ns.length->nK ns n≠0->∀ i,i<(nT ns n).l.length->nK ns n+i<ns.length
theorem kidOk.fi {ns:List Nd} (h:kidOk ns) {n:Nat} (hn:n<ns.length) (hl:ns.length<=1000000):(nT ns n).l.length≠0->nK ns n<=1000000:=fun h0=>by
 by_cases hk:nK ns n=0
 ·omega
 ·have:=h n hn hk 0 (by omega);omega
theorem P5 {c:Cl} {n:Nat}:(pC c n).2.1<=(pC c n).2.2/\(pC c n).2.2-(pC c n).2.1<=(nT c.ns n).l.length:=by
 unfold pC;split
 ·simp
 ·split<;>simp
theorem b3B (l:List Tm):∀ c:Cl,∃ N,(addAll c l).ns=c.ns++N/\N.length=l.length/\∀ x∈N,x.fi=0:=by
 induction l with
 | nil=>exact fun c=>⟨[],by simp [addAll],rfl,fun x hx=>by cases hx⟩
 | cons t l ih =>
  intro c;obtain ⟨N,h,h2,h3⟩:=ih (q7 c t);refine ⟨⟨t,0,U8 c t,0⟩::N,?_,by simp [h2],fun x hx=>?_⟩
  ·show (addAll (q7 c t) l).ns=_;rw [h];show (c.ns++[⟨t,0,U8 c t,0⟩])++N=_;simp
  ·rcases mem_cons.1 hx with rfl | hx
   ·rfl
   ·exact h3 x hx
theorem kidOk.parts {c:Cl} (h:kidOk c.ns) {n:Nat} (hn:n<c.ns.length):kidOk (pC c n).1.ns:=by
 unfold pC;split
 ·exact h
 ·split
  ·obtain ⟨N,e1,e2,e3⟩:=b3B (nT c.ns n).l (c.setFi n c.ns.length);have hsl:(c.setFi n c.ns.length).ns.length=c.ns.length:=by unfold Cl.setFi setFi;simp
   intro m hm hk i hi;have hlen:(addAll (c.setFi n c.ns.length) (nT c.ns n).l).ns.length=c.ns.length+(nT c.ns n).l.length:=by rw [F0,hsl]
   simp only at hm hk hi |-;rw [hlen] at hm |-;rcases Nat.lt_or_ge m c.ns.length with hml | hml
   ·have hg:(addAll (c.setFi n c.ns.length) (nT c.ns n).l).ns.getD m ndD=(setFi c.ns n c.ns.length).getD m ndD:=by
     rw [e1,getD_eq_getElem?_getD,List.getElem?_append_left (by rw [hsl];exact hml),<-getD_eq_getElem?_getD];rfl
    have hs:(setFi c.ns n c.ns.length).getD m ndD=if n=m then { c.ns.getD n ndD with fi:=c.ns.length } else c.ns.getD m ndD:=by
     unfold setFi;rw [getD_eq_getElem?_getD,getElem?_set];by_cases e:n=m
     ·rw [if_pos e,if_pos e,if_pos hn];rfl
     ·rw [if_neg e,if_neg e,<-getD_eq_getElem?_getD]
    have hi:i<((addAll (c.setFi n c.ns.length) (nT c.ns n).l).ns.getD m ndD).t.l.length:=hi;have hk:((addAll (c.setFi n c.ns.length) (nT c.ns n).l).ns.getD m ndD).fi≠0:=hk;show ((addAll (c.setFi n c.ns.length) (nT c.ns n).l).ns.getD m ndD).fi+i<_;rw [hg,hs] at hk hi |-;by_cases e:n=m
    ·subst e;rw [if_pos rfl] at hi |-;have hi:i<(c.ns.getD n ndD).t.l.length:=hi;show c.ns.length+i<_;unfold nT;omega
    ·rw [if_neg e] at hk hi |-;have:=h m hml hk i hi;unfold nK at this;omega
   ·exfalso;apply hk;unfold nK;rw [e1,getD_eq_getElem?_getD,List.getElem?_append_right (by rw [hsl];exact hml)];cases hN:N[m-(c.setFi n c.ns.length).ns.length]? with
    | none=>rfl
    | some x=>exact e3 x (mem_of_getElem? hN)
  ·exact h
theorem b7j {c:Cl} (h:kidOk c.ns) {n:Nat} (hn:n<c.ns.length) (hl:c.ns.length<=1000000):(pC c n).2.1<=1000000:=by
 unfold pC;split
 ·exact Nat.zero_le _
 ·rename_i h0;split
  ·exact hl
  ·exact h.fi hn hl (by omega)
theorem a0i {c:Cl} (h:kidOk c.ns) {n:Nat} (hn:n<c.ns.length):(pC c n).2.2<=(pC c n).1.ns.length:=by
 unfold pC;split
 ·exact Nat.zero_le _
 ·rename_i h0;split
  ·rw [F0];show c.ns.length+_<=(setFi c.ns n c.ns.length).length+_;unfold setFi;rw [length_set];exact Nat.le_refl _
  ·rename_i hk;have:=h n hn hk ((nT c.ns n).l.length-1) (by omega);show nK c.ns n+(nT c.ns n).l.length<=c.ns.length;omega
theorem c1v {m k:Nat} (h:k<m) (f:Nat->Nat×Nat):((List.range m).reverse.map f)[k]?=some (f (m-1-k)):=by
 rw [List.getElem?_map,List.getElem?_reverse (by simpa using h),List.length_range,List.getElem?_range (by omega)];rfl
set_option maxHeartbeats 2000000 in
theorem a2T (c:Cl) (a b:Nat) (ha:a<c.ns.length) (hb:b<c.ns.length) (hT:trmOk c.ns) (hp:pw c.ns<=1000000) (hps:c.ps.length<=50000000) (hfa:(nT c.ns a).l.length≠0->nK c.ns a<=1000000) (hfb:(nT (pC c a).1.ns b).l.length≠0->nK (pC c a).1.ns b<=1000000) (hb1:b<(pC c a).1.ns.length) (hto1:(pC c a).2.2<=1000000) (hf1:(pC c a).2.1<=1000000) (hf2:(pC (pC c a).1 b).2.1<=1000000):r7 Tryz.prog 129 (s7 c) [.bp 350001 0 [],.val (.i (a:Int)),.val (.i (b:Int))] (.tup []) (s7 (a5s c a b)):=by
 have hp1:pw (pC c a).1.ns<=1000000:=by rw [Q9];exact hp
 have hp2:pw (pC (pC c a).1 b).1.ns<=1000000:=by rw [Q9];exact hp1
 have hT1:=hT.parts ha;have q1:=L2 c a ha hT (Nat.le_trans (D4 _) hp1) hfa;have q2:=L2 (pC c a).1 b hb1 hT1 (Nat.le_trans (D4 _) hp2) hfb;have hpp:=P5 (c:=c) (n:=a);have hps2:(pC (pC c a).1 b).1.ps=c.ps:=by rw [a5G,a5G]
 obtain ⟨c2,hc2⟩:∃ c2,c2=(pC (pC c a).1 b).1:=⟨_,rfl⟩
 obtain ⟨fr,hfr⟩:∃ x,x=(pC c a).2.1:=⟨_,rfl⟩
 obtain ⟨to,hto⟩:∃ x,x=(pC c a).2.2:=⟨_,rfl⟩
 obtain ⟨ot,hot⟩:∃ x,x=(pC (pC c a).1 b).2.1:=⟨_,rfl⟩
 obtain ⟨m,hm⟩:∃ m,m=to-fr:=⟨_,rfl⟩
 rw [<-hfr,<-hto] at q1 hpp;rw [<-hc2,<-hot] at q2;rw [<-hc2] at hps2;rw [<-hfr] at hf1;rw [<-hto] at hto1;rw [<-hot] at hf2;have hP:a5s c a b=⟨c2.ns,c2.vr,c2.ps++(List.range m).reverse.map fun i=>(fr+i,ot+i)⟩:=by unfold a5s;rw [<-hc2,<-hfr,<-hto,<-hot,<-hm]
 obtain ⟨R,hR⟩:∃ R,R=(List.range m).reverse.map fun i=>(fr+i,ot+i):=⟨_,rfl⟩
 have hRl:R.length=m:=by rw [hR];simp
 rw [hP,<-hR];refine l8 Tryz.func129 Tryz.ntmps129 rfl rfl rfl rfl rfl rfl ?_;intro w U hU;refine aS (aR ?_);refine nc zl (nc zl (nc (z5 (z:=q1) (G:=j5 (by first | rfl | kernel_rfl))) (nc zl (nc zx (nc zx (nc ze (nc ze ?_)))))));refine aS (aR ?_);refine nc zl (nc zl (nc (z5 (z:=q2) (G:=j5 (by first | rfl | kernel_rfl))) (nc zl (nc zx (nc zx (nc ze (nc ze ?_)))))));refine aS (aR ?_);refine nc zl (nc zl (nc zj (nc zj (nc ze ?_))));refine aB (p6 m (fun k=>(0,AV.bp 350001 0 [])::(6,.val (.i (fr:Int)))::(8,.val (.i (ot:Int)))::(10,.val (.i ((m:Int)-1-k)))::s7 ⟨c2.ns,c2.vr,c2.ps++R.take k⟩) (a7 ⟨rfl,rfl,rfl,?_,rfl,rfl,rfl,?_,rfl,rfl,?_,trivial⟩) ?_)
 ·show some (AV.val (.i ((to:Int)-fr-1)))=some (AV.val (.i ((m:Int)-1-(0:Nat))));have e:(to:Int)-fr-1=(m:Int)-1-((0:Nat):Int):=by omega
  rw [e]
 ·show some (AV.sl 300002 0 c2.ps.length 2)=some (AV.sl 300002 0 (c2.ps++[]).length 2);rw [List.append_nil]
 ·show some (AV.mrow 164 2 (c2.ps.map psv))=some (AV.mrow 164 2 ((c2.ps++[]).map psv));rw [List.append_nil]
 intro k hk;refine aS (aS (aR ?_));refine nc zl (nc zbi ?_);refine aC rfl (fun hc=>?_) (fun hc=>?_)
 ·have hkl:k<m:=by
   have:((m:Int)-1-k)>=0:=by simpa using hc
   omega
  have hRk:R[k]?=some (fr+(m-1-k),ot+(m-1-k)):=by rw [hR];exact c1v hkl _
  have hlk:(c2.ps++R.take k).length<=100000000:=by rw [length_append,List.length_take,hps2];omega
  have hpush:=a6q ⟨c2.ns,c2.vr,c2.ps++R.take k⟩ (fr+(m-1-k)) (ot+(m-1-k)) hlk;have e1:(((fr+(m-1-k):Nat)):Int)=(fr:Int)+((m:Int)-1-k):=by omega
  have e2:(((ot+(m-1-k):Nat)):Int)=(ot:Int)+((m:Int)-1-k):=by omega
  rw [e1,e2] at hpush;refine aK ?_;refine aS (aB (aR ?_));refine nc zl (nc zl (nc zl (nc zu (nc zl (nc zl (nc zu (nc (z5 (z:=hpush) (G:=j5 (by first | rfl | kernel_rfl))) ?_)))))));refine aR ?_;refine nc zl (nc zj (nc ze ?_));refine ⟨hkl,?_⟩;show Wk _ _ _ _ (_::_::_::(10,.val (.i ((m:Int)-1-((k+1:Nat):Int))))::s7 ⟨c2.ns,c2.vr,c2.ps++R.take (k+1)⟩);have hps3:c2.ps++R.take (k+1)=c2.ps++R.take k++[(fr+(m-1-k),ot+(m-1-k))]:=by rw [List.take_add_one,hRk,<-List.append_assoc];rfl
  rw [hps3,show (m:Int)-1-((k+1:Nat):Int)=(m:Int)-1-k-1 by omega];exact a7 ⟨rfl,rfl,rfl,rfl,rfl,rfl,rfl,rfl,rfl,rfl,rfl,trivial⟩
 ·have hkl:k=m:=by
   have:¬ ((m:Int)-1-k)>=0:=by simpa using hc
   omega
  subst hkl;rw [show R.take k=R by rw [<-hRl,List.take_length]];exact aE ⟨.inl rfl,_,Wk.refl _,rfl,rfl,rfl,rfl,rfl,rfl,rfl,rfl,trivial⟩
theorem b6T {U:UX} {pre:List Nat} (hU:∀ k v,U.f k=some v->n6 pre k=true) {n:Nat} (h:n6 pre n=false):U.f n=none:=by
 cases e:U.f n with
 | none=>rfl
 | some v=>rw [hU n v e] at h;cases h
theorem a5r (U:UX) {n:Nat} (h:n<400000):U.f n=none:=by
 cases e:U.f n with
 | none=>rfl
 | some v=>have:=(U.hf n v e).1;omega
structure Fit (c:Cl):Prop where
 up:upOk c.ns
 kid:kidOk c.ns
 trm:trmOk c.ns
 big:pw c.ns<=1000000
theorem A8 {c:Cl} {n:Nat}:c.ns.length<=(pC c n).1.ns.length:=by
 unfold pC;split
 ·exact Nat.le_refl _
 ·split
  ·rw [F0];show _<=(setFi c.ns n c.ns.length).length+_;unfold setFi;rw [length_set];omega
  ·exact Nat.le_refl _
set_option maxHeartbeats 8000000 in
theorem b3f (k:Nat) (c:Cl) (x y:Nat) (q:Cl×Bool) (hj:C2 k c x y=some q) (hx:x<c.ns.length) (hy:y<c.ns.length) (hF:Fit c) (hps:c.ps.length<=50000000):r7 Tryz.prog 101 (s7 c) [.bp 350001 0 [],.val (.i (x:Int)),.val (.i (y:Int))] (.val (.b q.2)) (s7 q.1):=by
 have hl:c.ns.length<=1000000:=Nat.le_trans (D4 _) hF.big;unfold C2 at hj;cases h1:o9 k c.ns x with
 | none=>rw [h1] at hj;cases hj
 | some q1 =>
 rw [h1] at hj;simp only at hj;cases h2:o9 k q1.1 y with
 | none=>rw [h2] at hj;cases hj
 | some q2 =>
 rw [h2] at hj;simp only at hj;obtain ⟨u1,l1,x1,t1,k1⟩:=I0 k h1 hF.up hx;obtain ⟨u2,l2,y2,t2,k2⟩:=I0 k h2 u1 (by rw [l1];exact hy);have hd1:=K7 c.vr c.ps k c.ns x q1 h1 hF.up hx hl;have hd2:=K7 c.vr c.ps k q1.1 y q2 h2 u1 (by rw [l1];exact hy) (by omega);obtain ⟨c3,hc3⟩:∃ c3:Cl,c3=⟨q2.1,c.vr,c.ps⟩:=⟨_,rfl⟩
 have hn3:c3.ns=q2.1:=by rw [hc3]
 have hl3:c3.ns.length=c.ns.length:=by rw [hn3];omega
 have ht3:∀ m,nT c3.ns m=nT c.ns m:=fun m=>by rw [hn3,t2,t1]
 have hk3:∀ m,nK c3.ns m=nK c.ns m:=fun m=>by rw [hn3,k2,k1]
 have hT3:trmOk c3.ns:=hF.trm.same hl3 ht3;have hlm3:(c3.ns.map Nd.cv).length=c3.ns.length:=length_map ..;rw [<-hc3,<-hn3] at hj;refine l8 Tryz.func101 Tryz.ntmps101 rfl rfl rfl rfl rfl rfl ?_;intro w U hU;refine aS (aR ?_);refine nc ze ?_;refine AWp.wk (w9 300001 400001 rfl rfl (b6T hU (by kernel_rfl)) (by kernel_rfl) (by kernel_rfl) (by kernel_rfl)) ?_;refine aS (aR ?_);refine nc zl (nc zl (nc (z5 (z:=hd1) (G:=j5 (by first | rfl | kernel_rfl))) (nc zl (nc zl (nc (z5 (z:=hd2) (G:=j5 (by first | rfl | kernel_rfl))) (nc ze (nc ze ?_)))))));refine AWp.wk ((a7 (s':=(0,AV.bp 350001 0 [])::(1,.val (.i (q1.2:Int)))::(2,.val (.i (q2.2:Int)))::O0 ⟨q2.1,c.vr,c.ps⟩) ⟨rfl,rfl,rfl,rfl,rfl,rfl,rfl,rfl,rfl,rfl,trivial⟩).trans (w9 400001 300001 rfl rfl (a5r U (by decide)) (by kernel_rfl) (by kernel_rfl) (by kernel_rfl))) ?_;show AWp _ _ _ _ _ _ ((0,AV.bp 350001 0 [])::(1,.val (.i (q1.2:Int)))::(2,.val (.i (q2.2:Int)))::s7 ⟨q2.1,c.vr,c.ps⟩);rw [<-hc3];refine aS (aS (aR ?_));refine nc zl (nc zl (nc zt ?_));by_cases he:q1.2=q2.2
 case pos =>
  rw [if_pos he] at hj;cases hj;refine aC rfl (fun hc=>?_) (fun hc=>?_)
  case refine_2=>rw [he] at hc;simp at hc
  refine aS (aR ?_);refine nc ze ?_;exact aT ⟨.inr rfl,_,Wk.refl _,rfl,rfl,rfl,rfl,rfl,rfl,rfl,rfl,trivial⟩
 rw [if_neg he] at hj;refine aC rfl (fun hc=>?_) (fun hc=>aK ?_)
 ·have:(q1.2:Int)=q2.2:=by simpa using hc
  omega
 refine AWp.wk (a7 (s':=(0,AV.bp 350001 0 [])::(1,.val (.i (q1.2:Int)))::(2,.val (.i (q2.2:Int)))::s7 c3) ⟨rfl,rfl,rfl,rfl,rfl,rfl,rfl,rfl,rfl,rfl,trivial⟩) ?_;have ha3:q1.2<c3.ns.length:=by omega
 have hb3:q2.2<c3.ns.length:=by omega
 obtain ⟨na,hna⟩:=O7 ha3;obtain ⟨nb,hnb⟩:=O7 hb3;have hna':=Nd.map_at hna;have hnb':=Nd.map_at hnb;have hta:nT c3.ns q1.2=na.t:=by unfold nT;rw [q8 hna]
 have htb:nT c3.ns q2.2=nb.t:=by unfold nT;rw [q8 hnb]
 obtain ⟨a,ha⟩:∃ a,a=if nb.t.f<na.t.f then q2.2 else q1.2:=⟨_,rfl⟩
 obtain ⟨b,hb⟩:∃ b,b=if nb.t.f<na.t.f then q1.2 else q2.2:=⟨_,rfl⟩
 have hj:joinTo c3 a b=q:=by
  rw [hta,htb] at hj;split at hj
  ·rename_i h;rw [if_pos h] at ha hb;rw [ha,hb];exact Option.some.inj hj
  ·rename_i h;rw [if_neg h] at ha hb;rw [ha,hb];exact Option.some.inj hj
 have hal:a<c3.ns.length:=by rw [ha];split<;>assumption
 have hbl:b<c3.ns.length:=by rw [hb];split<;>assumption
 refine a3u ((0,AV.bp 350001 0 [])::(1,.val (.i (a:Int)))::(2,.val (.i (b:Int)))::s7 c3) (aS (aD (by kernel_rfl) (by kernel_rfl) ?_)) ?_
 ·skip
  refine nc zl (nc z8 (nc zg (nc z9 (nc zl (nc (zM (k:=q1.2)) (nc z7 (nc z7 (nc (zN (G:=hna')) (nc zl (nc z8 (nc zg (nc z9 (nc zl (nc (zM (k:=q2.2)) (nc z7 (nc z7 (nc (zN (G:=hnb')) (nc zK ?_))))))))))))))))));refine ⟨by kernel_rfl,?_⟩;refine aC rfl (fun hc=>?_) (fun hc=>aK ?_)
  ·have hg:nb.t.f<na.t.f:=by simpa using hc
   rw [if_pos hg] at ha hb;refine aR ?_;refine nc zl (nc zl (nc ze (nc ze ?_)));rw [ha,hb];exact a7 ⟨rfl,rfl,rfl,rfl,rfl,rfl,rfl,rfl,rfl,rfl,trivial⟩
  ·have hg:¬ nb.t.f<na.t.f:=by simpa using hc
   rw [if_neg hg] at ha hb;rw [ha,hb];exact a7 ⟨rfl,rfl,rfl,rfl,rfl,rfl,rfl,rfl,rfl,rfl,trivial⟩
 clear hna hnb hna' hnb' hta htb ha hb he hd1 hd2;obtain ⟨xa,hxa⟩:=O7 hal;obtain ⟨xb,hxb⟩:=O7 hbl;have hxa':=Nd.map_at hxa;have hxb':=Nd.map_at hxb;have hta:nT c3.ns a=xa.t:=by unfold nT;rw [q8 hxa]
 have htb:nT c3.ns b=xb.t:=by unfold nT;rw [q8 hxb]
 unfold joinTo at hj;rw [hta,htb] at hj;refine aS (aD (by kernel_rfl) (by kernel_rfl) ?_);refine nc zl (nc z8 (nc zg (nc z9 (nc zl (nc (zM (k:=a)) (nc z7 (nc (zN (G:=hxa')) (nc zl (nc z8 (nc zg (nc z9 (nc zl (nc (zM (k:=b)) (nc z7 (nc (zN (G:=hxb')) (ne zk (ne zk (nc zo (nc zo ?_)))))))))))))))))));refine ⟨by kernel_rfl,?_⟩;refine AWp.wk (a7 (s':=(0,AV.bp 350001 0 [])::(1,.val (.i (a:Int)))::(2,.val (.i (b:Int)))::(7,.bp 7 0 [])::(100007,.bx xa.t.cw)::(8,.bp 8 0 [])::(100008,.bx xb.t.cw)::s7 c3) ⟨rfl,rfl,rfl,rfl,rfl,rfl,rfl,rfl,rfl,rfl,rfl,rfl,rfl,rfl,trivial⟩) ?_;have hiv:=a0B w xa.t;by_cases hv:xa.t.f<0
 case pos =>
  rw [show decide (xa.t.f<0)=true by simpa using hv] at hiv;rw [if_pos hv] at hj;subst hj;obtain ⟨c4,hc4⟩:∃ c4,c4=c3:=⟨_,rfl⟩
  rw [<-hc4] at hxa hlm3 |-;have hya:=hxa;have hya':=Nd.map_at hya;have hl4:a<c4.ns.length:=by rw [hc4];exact hal
  refine aS (aS (aR ?_));refine nc zy (nc (zw (z:=hiv)) (nc z0 ?_));refine aC rfl (fun hc=>by cases hc) (fun hc=>aK ?_);refine aS (aR ?_);refine nc zl (nc z8 (nc zg (nc z9 (nc zl (nc zl (nc (zM (k:=a)) (nc z7 (nc (zQ (F:=hya')) ?_))))))));refine AWp.wk (a7 (s':=s7 (c4.setUp a b)) ⟨rfl,?_,rfl,rfl,?_,rfl,rfl,trivial⟩) ?_
  ·show _=some (AV.sl 300001 0 (setUp c4.ns a b).length 5);rw [G3];rfl
  ·show _=some (AV.mrow 140 5 ((setUp c4.ns a b).map Nd.cv));rw [P6 hya];rfl
  refine aS (aR ?_);refine nc ze ?_;exact aT ⟨.inr rfl,_,Wk.refl _,rfl,rfl,rfl,rfl,rfl,rfl,rfl,rfl,trivial⟩
 rw [show decide (xa.t.f<0)=false by simpa using hv] at hiv;rw [if_neg hv] at hj;refine aS (aS (aR ?_));refine nc zy (nc (zw (z:=hiv)) (nc z0 ?_));refine aC rfl (fun hc=>?_) (fun hc=>by cases hc);by_cases hft:xa.t.f=xb.t.f
 case neg =>
  have g:decide (xa.t.f≠xb.t.f)=true:=by simpa using hft
  rw [if_pos (.inl hft)] at hj;subst hj;refine aS (aS (aR ?_));refine nc zg (nc zh (nc zg (nc zh (nc zba (nc zl (nc zR (nc zR (nc zR (nc zR (nc zR (nc zR (nc zR (nc zP ?_)))))))))))));refine aC rfl (fun hc=>?_) (fun hc=>by cases hc);refine aS (aR ?_);refine nc ze ?_;exact aT ⟨.inr rfl,_,Wk.refl _,rfl,rfl,rfl,rfl,rfl,rfl,rfl,rfl,trivial⟩
 have g:decide (xa.t.f≠xb.t.f)=false:=by simpa using hft
 refine aS (aS (aR ?_));refine nc zg (nc zh (nc zg (nc zh (nc zba (nc zl (nc (zg (r:=gb)) (nc (zh (r:=gb)) (nc (zp (r:=gb)) (nc (zg (r:=gb)) (nc (zh (r:=gb)) (nc (zp (r:=gb)) (nc (zba (r:=gb)) (nc zS ?_)))))))))))));by_cases hll:xa.t.l.length=xb.t.l.length
 case neg =>
  rw [if_pos (.inr hll)] at hj;subst hj;refine aC rfl (fun hc=>?_) (fun hc=>?_)
  case refine_2 =>
   have hc:=of_decide_eq_false hc;simp only [length_map,ne_eq,Decidable.not_not] at hc;omega
  refine aS (aR ?_);refine nc ze ?_;exact aT ⟨.inr rfl,_,Wk.refl _,rfl,rfl,rfl,rfl,rfl,rfl,rfl,rfl,trivial⟩
 rw [if_neg (by omega)] at hj;subst hj;refine aC rfl (fun hc=>?_) (fun hc=>aK ?_)
 ·exfalso;rw [length_map,length_map,hll] at hc;simp at hc
 refine AWp.wk (a7 (s':=(0,AV.bp 350001 0 [])::(1,.val (.i (a:Int)))::(2,.val (.i (b:Int)))::s7 c3) ⟨rfl,rfl,rfl,rfl,rfl,rfl,rfl,rfl,rfl,rfl,trivial⟩) ?_;have hp3:pw c3.ns<=1000000:=by rw [a3l hl3 ht3 hk3];exact hF.big
 have hF3:Fit c3:=⟨by rw [hn3];exact u2,fun n hn hk i hi=>by rw [hl3] at hn |-;rw [hk3] at hk |-;rw [ht3] at hi;exact hF.kid n hn hk i hi,hT3,hp3⟩
 have g1:=hF3.kid.parts hal;have hb4:b<(pC c3 a).1.ns.length:=Nat.lt_of_lt_of_le hbl A8;have hl4:(pC c3 a).1.ns.length<=1000000:=Nat.le_trans (D4 _) (by rw [Q9];exact hp3);have hpc:c3.ps=c.ps:=by rw [hc3]
 have hpp:=a2T c3 a b hal hbl hT3 hp3 (by rw [hpc];exact hps) (hF3.kid.fi hal (by omega)) (kidOk.fi g1 hb4 hl4) hb4 (Nat.le_trans (a0i hF3.kid hal) hl4) (b7j hF3.kid hal (by omega)) (b7j g1 hb4 hl4);refine aR ?_;refine nc zl (nc zl (nc zl (nc (z5 (z:=hpp) (G:=j5 (by first | rfl | kernel_rfl))) ?_)));obtain ⟨c4,hc4⟩:∃ c4,c4=a5s c3 a b:=⟨_,rfl⟩
 rw [<-hc4];have hlen4:c3.ns.length<=c4.ns.length:=by rw [hc4];exact Nat.le_trans A8 A8
 obtain ⟨ya,hya⟩:=O7 (ns:=c4.ns) (n:=a) (by omega);have hya':=Nd.map_at hya;have hlm4:(c4.ns.map Nd.cv).length=c4.ns.length:=length_map ..;refine aS (aR ?_);refine nc zl (nc z8 (nc zg (nc z9 (nc zl (nc zl (nc (zM (k:=a)) (nc z7 (nc (zQ (F:=hya')) ?_))))))));refine AWp.wk (a7 (s':=s7 (c4.setUp a b)) ⟨rfl,?_,rfl,rfl,?_,rfl,rfl,trivial⟩) ?_
 ·show _=some (AV.sl 300001 0 (setUp c4.ns a b).length 5);rw [G3];rfl
 ·show _=some (AV.mrow 140 5 ((setUp c4.ns a b).map Nd.cv));rw [P6 hya];rfl
 refine aS (aR ?_);refine nc ze ?_;exact aT ⟨.inr rfl,_,Wk.refl _,rfl,rfl,rfl,rfl,rfl,rfl,rfl,rfl,trivial⟩
theorem a2S (w:World) :
  Calls Tryz.prog 70 #[] w fun e w'=>e = .returned (.pointer (some ⟨w.heap.size+1,0,none⟩))/\w'=(w.alloc (.map #[] 0)).alloc (.cells #[.slice none 0 0,.map (some w.heap.size),.slice none 0 0] 133):=by
 go_enter Tryz.func70,Tryz.ntmps70
 go_wp2
 rw [show (Instr.makeMap 129 none).run Tryz.prog w = .ok (.map (some w.heap.size)) (w.alloc (.map #[] 0)) by simp [Instr.makeMap,run_newObj_alloc]];simp only [Result.andThen];rw [Oper.upon_value]
 go_wp2
 go_ret
 have hsz:(w.alloc (.map #[] 0)).heap.size=w.heap.size+1:=by simp
 exact ⟨by rw [<-hsz];rfl,rfl⟩
theorem T6 {k:Nat} {av:AV} (h:look (s7 ⟨[],[],[]⟩) k=some av):(k=450001/\av = .obj)\/(k=35500100/\av = .sl 300001 0 0 5)\/(k=35500101/\av = .mref 300003)\/(k=35500102/\av = .sl 300002 0 0 2)\/(k=300001/\av = .mrow 140 5 [])\/(k=300003/\av = .mp [])\/(k=300002/\av = .mrow 164 2 []):=by
 rw [d8] at h;split at h
 ·rename_i e;cases h;exact .inl ⟨e.symm,rfl⟩
 rw [d8] at h;split at h
 ·rename_i e;cases h;exact .inr (.inl ⟨e.symm,rfl⟩)
 rw [d8] at h;split at h
 ·rename_i e;cases h;exact .inr (.inr (.inl ⟨e.symm,rfl⟩))
 rw [d8] at h;split at h
 ·rename_i e;cases h;exact .inr (.inr (.inr (.inl ⟨e.symm,rfl⟩)))
 rw [d8] at h;split at h
 ·rename_i e;cases h;exact .inr (.inr (.inr (.inr (.inl ⟨e.symm,rfl⟩))))
 rw [d8] at h;split at h
 ·rename_i e;cases h;exact .inr (.inr (.inr (.inr (.inr (.inl ⟨e.symm,rfl⟩)))))
 rw [d8] at h;split at h
 ·rename_i e;cases h;exact .inr (.inr (.inr (.inr (.inr (.inr ⟨e.symm,rfl⟩)))))
 ·cases h
theorem b6u:r7 Tryz.prog 70 [] [] (.bp 350001 0 []) (s7 ⟨[],[],[]⟩):=by
 refine ⟨B8 Tryz.func70 rfl rfl,fun U w hv a0 vs hU hpS hargs=>?_⟩;have hvs:vs=[]:=hargs;subst hvs;refine (a2S w).mono ?_;rintro e w' ⟨rfl,hw'⟩;have hB:Below w.heap.size w w':=by rw [hw'];exact ((Below.refl _ _).alloc (Nat.le_refl _) _).alloc (by simp) _
 have hs1:(w.alloc (.map #[] 0)).heap.size=w.heap.size+1:=by simp
 have hnew:w'.heap[w.heap.size+1]?=some (.cells #[.slice none 0 0,.map (some w.heap.size),.slice none 0 0] 133 (0,0)):=by rw [hw',<-hs1];exact w7 _ _
 have hmap:w'.heap[w.heap.size]?=some (.map #[] 0):=by
  rw [hw',Below.heap_alloc _ _ _ (by rw [hs1];omega)];exact w7 _ _
 have hlt:w.heap.size+1<w'.heap.size:=by
  rcases Nat.lt_or_ge (w.heap.size+1) w'.heap.size with h | h
  ·exact h
  ·rw [Array.getElem?_eq_none h] at hnew;cases hnew
 have hcell:∀ i,i<3->w'.cell? ⟨w.heap.size+1,i,none⟩=(#[.slice none 0 0,.map (some w.heap.size),.slice none 0 0]:Array Value)[i]?:=fun i hi=>by
  simp only [World.cell?,hnew];simp
 obtain ⟨hv',hhv⟩:∃ hv':Nat->Value,hv'=fun k=>if k=450001 then .pointer (some ⟨w.heap.size+1,0,none⟩) else if k=300003 then .map (some w.heap.size) else .slice none 0 0:=⟨_,rfl⟩
 have hv1:hv' 450001 = .pointer (some ⟨w.heap.size+1,0,none⟩):=by rw [hhv];simp
 have hv3:hv' 300003 = .map (some w.heap.size):=by rw [hhv];simp
 have hv4:hv' 300001 = .slice none 0 0:=by rw [hhv];simp
 have hv5:hv' 300002 = .slice none 0 0:=by rw [hhv];simp
 refine ⟨_,fun _ _=>False,hv',⟨#[],[]⟩,rfl,⟨⟨hB.os,hB.tape,hB.output,hB.size,fun k hk _=>hB.block k hk⟩,rfl,rfl,fun d av g1 g2=>?_,fun m o av g1 g2 g3 g4=>?_,fun m o o' av av' g1 g2 g3 g4 g5=>?_,fun k av g1 g2=>?_,fun k av g g1 g2 g3 g4=>?_,fun k k' av av' g g1 g2 g3 g4 g5 g6 g7 g8 g9=>?_,fun k v hk=>?_,fun b o hd=>hd.elim⟩,?_⟩
 ·rcases T6 g1 with ⟨e,_⟩ | ⟨e,_⟩ | ⟨e,_⟩ | ⟨e,_⟩ | ⟨e,_⟩ | ⟨e,_⟩ | ⟨e,_⟩<;>omega
 ·have hm:m=350001:=by
   unfold BN at g4;rcases T6 g3 with ⟨e,_⟩ | ⟨e,e2⟩ | ⟨e,e2⟩ | ⟨e,e2⟩ | ⟨e,e2⟩ | ⟨e,e2⟩ | ⟨e,e2⟩
   ·omega
   all_goals cases e2
  subst hm;have hbk:p7 (hv' (100000+350001))=w.heap.size+1:=by rw [show 100000+350001=450001 from rfl,hv1];rfl
  rw [hbk];rcases T6 g1 with ⟨e,_⟩ | ⟨e,rfl⟩ | ⟨e,rfl⟩ | ⟨e,rfl⟩ | ⟨e,_⟩ | ⟨e,_⟩ | ⟨e,_⟩
  ·unfold d9 at e;omega
  ·have ho:o=0:=by unfold d9 at e;omega
   subst ho;refine ⟨.slice none 0 0,⟨⟨by decide,by decide⟩,?_⟩,rfl,fun i hi=>?_⟩
   ·show SlV (hv' 300001) 0 0 5 _;rw [hv4];exact O1 rfl (Nat.le_refl _) (.inl rfl)
   ·have hi:i<1:=hi;obtain rfl:i=0:=by omega
    rw [hcell _ (by omega)];rfl
  ·have ho:o=1:=by unfold d9 at e;omega
   subst ho;refine ⟨.map (some w.heap.size),⟨⟨by decide,by decide⟩,hv3.symm,rfl⟩,rfl,fun i hi=>?_⟩;have hi:i<1:=hi;obtain rfl:i=0:=by omega
   rw [hcell _ (by omega)];rfl
  ·have ho:o=2:=by unfold d9 at e;omega
   subst ho;refine ⟨.slice none 0 0,⟨⟨by decide,by decide⟩,?_⟩,rfl,fun i hi=>?_⟩
   ·show SlV (hv' 300002) 0 0 2 _;rw [hv5];exact O1 rfl (Nat.le_refl _) (.inl rfl)
   ·have hi:i<1:=hi;obtain rfl:i=0:=by omega
    rw [hcell _ (by omega)];rfl
  ·unfold d9 at e;omega
  ·unfold d9 at e;omega
  ·unfold d9 at e;omega
 ·rcases T6 g1 with ⟨e,_⟩ | ⟨e,rfl⟩ | ⟨e,rfl⟩ | ⟨e,rfl⟩ | ⟨e,_⟩ | ⟨e,_⟩ | ⟨e,_⟩
  ·unfold d9 at e;omega
  ·show o+1<=o';omega
  ·show o+1<=o';omega
  ·show o+1<=o';omega
  ·unfold d9 at e;omega
  ·unfold d9 at e;omega
  ·unfold d9 at e;omega
 ·unfold j9 at g2;rcases T6 g1 with ⟨rfl,rfl⟩ | ⟨e,_⟩ | ⟨e,_⟩ | ⟨e,_⟩ | ⟨rfl,rfl⟩ | ⟨rfl,rfl⟩ | ⟨rfl,rfl⟩
  ·exact ⟨w.heap.size+1,_,_,hv1,hnew⟩
  ·omega
  ·omega
  ·omega
  ·rw [hv4];exact ⟨[],World.ownsRow_nil _ _ _ _,by decide,(fun c hc=>by cases hc),rfl⟩
  ·exact ⟨w.heap.size,#[],0,hv3,hmap,rfl,(fun e he=>by simp at he),by simp⟩
  ·rw [hv5];exact ⟨[],World.ownsRow_nil _ _ _ _,by decide,(fun c hc=>by cases hc),rfl⟩
 ·unfold j9 at g2;rcases T6 g1 with ⟨rfl,rfl⟩ | ⟨e,_⟩ | ⟨e,_⟩ | ⟨e,_⟩ | ⟨rfl,rfl⟩ | ⟨rfl,rfl⟩ | ⟨rfl,rfl⟩
  ·rw [hv1] at g4;have g4:some (w.heap.size+1)=some g:=g4;cases g4;exact ⟨.inl (by omega),hlt,fun o _ h=>h⟩
  ·omega
  ·omega
  ·omega
  ·rw [hv4] at g4;cases g4
  ·rw [hv3] at g4;have g4:some w.heap.size=some g:=g4;cases g4;exact ⟨.inl (Nat.le_refl _),by omega,fun o _ h=>h⟩
  ·rw [hv5] at g4;cases g4
 ·unfold j9 at g3 g4;have hk:∀ {k av},look (s7 ⟨[],[],[]⟩) k=some av->100000<=k/\k<500000->(k=450001/\hb (hv' k)=some (w.heap.size+1))\/(k=300003/\hb (hv' k)=some w.heap.size)\/hb (hv' k)=none:=fun {k av} f1 f2=>by
   rcases T6 f1 with ⟨rfl,rfl⟩ | ⟨e,_⟩ | ⟨e,_⟩ | ⟨e,_⟩ | ⟨rfl,rfl⟩ | ⟨rfl,rfl⟩ | ⟨rfl,rfl⟩
   ·exact .inl ⟨rfl,by rw [hv1];rfl⟩
   ·omega
   ·omega
   ·omega
   ·right;right;rw [hv4];rfl
   ·right;left;exact ⟨rfl,by rw [hv3];rfl⟩
   ·right;right;rw [hv5];rfl
  rcases hk g1 g3 with ⟨e1,e2⟩ | ⟨e1,e2⟩ | e1
  ·rcases hk g2 g4 with ⟨e3,e4⟩ | ⟨e3,e4⟩ | e3
   ·omega
   ·rw [e2] at g8;rw [e4] at g9;cases g8;injection g9 with g9;omega
   ·rw [e3] at g9;cases g9
  ·rcases hk g2 g4 with ⟨e3,e4⟩ | ⟨e3,e4⟩ | e3
   ·rw [e2] at g8;rw [e4] at g9;cases g8;injection g9 with g9;omega
   ·omega
   ·rw [e3] at g9;cases g9
  ·rw [e1] at g8;cases g8
 ·have:=hU k v hk;cases this
 ·refine ⟨.inr ⟨by decide,by decide⟩,?_⟩;show _=Value.pointer (some ⟨p7 (hv' (100000+350001)),0,none⟩);rw [show 100000+350001=450001 from rfl,hv1];rfl
theorem a9f {f:Nat->Nat}:∀ {N m:Nat},m<N->f m<=i7 f N
 | 0,m,h=>by omega
 | N+1,m,h=>by
  rw [i7];rcases Nat.lt_or_ge m N with h1 | h1
  ·have:=a9f (f:=f) h1;omega
  ·have:m=N:=by omega
   rw [this];omega
theorem a9H {f:Nat->Nat} {B:Nat}:∀ {N:Nat},(∀ m,m<N->f m<=B)->i7 f N<=N*B
 | 0,_=>by simp [i7]
 | N+1,h=>by
  rw [i7];have h1:=a9H (N:=N) fun m hm=>h m (by omega);have h2:=h N (by omega);rw [Nat.add_mul];omega
theorem c0S {c:Cl} {H:Nat->Nat} (hk:kidOk c.ns) (hp:pw c.ns<=1000):mea c H<=c.ps.length+2000000:=by
 have hN:c.ns.length<=1000:=Nat.le_trans (D4 _) hp;have h1:i7 (hw c.ns H) c.ns.length<=c.ns.length*2000:=a9H fun m hm=>by
  unfold hw wgt;split
  ·split
   ·rename_i h0;rcases Nat.eq_zero_or_pos (nT c.ns m).l.length with h2 | h2
    ·omega
    ·have:=hk m hm h0 ((nT c.ns m).l.length-1) (by omega);omega
   ·rename_i h0;have h3:=a9f (f:=gw c.ns 0) hm;rw [gw0,if_pos (by omega)] at h3;have:i7 (gw c.ns 0) c.ns.length=pw c.ns:=rfl;omega
  ·omega
 have h2:c.ns.length*2000<=1000*2000:=Nat.mul_le_mul_right _ hN;unfold mea;omega
theorem trmOk.joinTo {c:Cl} (h:trmOk c.ns) {a b:Nat} (ha:a<c.ns.length) (hb:b<c.ns.length):trmOk (joinTo c a b).1.ns:=by
 unfold Go.Proofs.YtglmoficcjphaaaGreat.joinTo;split
 ·exact h.same (G3 _ _ _) fun m=>a7T.1 m
 ·split
  ·exact h
  ·refine trmOk.same ?_ (G3 _ _ _) fun m=>a7T.1 m;exact (h.parts ha).parts (Nat.lt_of_lt_of_le hb A8)
theorem trmOk.join {k:Nat} {c:Cl} {x y:Nat} {q:Cl×Bool} (h:trmOk c.ns) (hu:upOk c.ns) (hx:x<c.ns.length) (hy:y<c.ns.length) (hj:C2 k c x y=some q):trmOk q.1.ns:=by
 unfold C2 at hj;cases h1:o9 k c.ns x with
 | none=>rw [h1] at hj;cases hj
 | some q1 =>
 rw [h1] at hj;simp only at hj;cases h2:o9 k q1.1 y with
 | none=>rw [h2] at hj;cases hj
 | some q2 =>
 rw [h2] at hj;simp only at hj;obtain ⟨u1,l1,x1,t1,k1⟩:=I0 k h1 hu hx;obtain ⟨u2,l2,y2,t2,k2⟩:=I0 k h2 u1 (by rw [l1];exact hy);have hT:trmOk q2.1:=h.same (by omega) fun m=>by rw [t2,t1]
 split at hj
 ·cases hj;exact hT
 ·split at hj
  ·cases hj;exact trmOk.joinTo (c:=⟨q2.1,c.vr,c.ps⟩) hT (by show q2.2<q2.1.length;omega) (by show q1.2<q2.1.length;omega)
  ·cases hj;exact trmOk.joinTo (c:=⟨q2.1,c.vr,c.ps⟩) hT (by show q1.2<q2.1.length;omega) (by show q2.2<q2.1.length;omega)
structure Inv (c:Cl) (E:List (Tm×Tm)) (M:Nat):Prop where
 cls:∃ H r,ClsC c H r E/\mea c H<=M
 trm:trmOk c.ns
 big:pw c.ns<=1000
theorem Inv.fit {c:Cl} {E} {M:Nat} (h:Inv c E M):Fit c:=by
 obtain ⟨H,r,h1,_⟩:=h.cls;exact ⟨h1.ups,fun n hn hk i hi=>((h1.kid n hn hk).2 i hi).1,h.trm,by have:=h.big;omega⟩
theorem Inv.ps {c:Cl} {E} {M:Nat} (h:Inv c E M):c.ps.length<=M:=by
 obtain ⟨H,r,_,h2⟩:=h.cls;unfold mea at h2;omega
theorem b4y {k k':Nat} {c:Cl} {x y:Nat} {q q'} (h:C2 k c x y=some q) (h':C2 k' c x y=some q'):q=q':=by
 have h1:=a1p (Nat.le_max_left k k') h;have h2:=a1p (Nat.le_max_right k k') h';rw [h1] at h2;exact Option.some.inj h2
theorem Inv.join {c:Cl} {E} {M k:Nat} {p:Nat×Nat} {q:Cl×Bool} (h:Inv c E M) (hp:c.ps.getLast?=some p) (hj:C2 k ⟨c.ns,c.vr,c.ps.dropLast⟩ p.1 p.2=some q):(p.1<c.ns.length/\p.2<c.ns.length)/\(q.2=true->Inv q.1 E M):=by
 obtain ⟨H,r,h1,h2⟩:=h.cls;have hps:c.ps=c.ps.dropLast++[p]:=by
  have hne:c.ps≠[]:=fun e=>by rw [e] at hp;cases hp
  have h8:c.ps.getLast hne=p:=by
   have:=List.getLast?_eq_some_getLast hne;rw [hp] at this;exact (Option.some.inj this).symm
  rw [<-h8,List.dropLast_concat_getLast hne]
 have hc:c=⟨c.ns,c.vr,c.ps.dropLast++[(p.1,p.2)]⟩:=by
  conv=>lhs;rw [show c=⟨c.ns,c.vr,c.ps⟩ from rfl,hps]
 have hpm:p∈c.ps:=by rw [hps];simp
 have hlt:=h1.pss p hpm;refine ⟨hlt,fun hq=>?_⟩;rw [hc] at h1;obtain ⟨k',q',e1,l1,l2⟩:=a3B h1;have:=b4y hj e1;subst this;obtain ⟨H',r',g1,g2⟩:=l2 hq;rw [<-hc] at g2;refine ⟨⟨H',r',g1,by omega⟩,?_,?_⟩
 ·exact trmOk.join (c:=⟨c.ns,c.vr,c.ps.dropLast⟩) h.trm h.fit.up hlt.1 hlt.2 hj
 ·rw [a3N hj];exact h.big
noncomputable abbrev prw (p:Tm×Tm):CV := .row [p.1.cw,p.2.cw]
noncomputable def prv (p:Tm×Tm):CV:=prw p
theorem c2n {l:List (Tm×Tm)} {i:Nat} {n:Tm×Tm} (h:l[i]?=some n):(l.map prv)[i]?=some (prw n):=by rw [List.getElem?_map,h];rfl
theorem b9h (l:List (Tm×Tm)):∀ c∈l.map prv,c.size=4:=by
 intro c hc;obtain ⟨b,_,rfl⟩:=mem_map.1 hc;rfl
theorem a7o (c:Cl) (p:Tm×Tm):pw (openC c p).ns=pw c.ns+p.1.size+p.2.size:=by
 show pw (q7 (q7 c p.1) p.2).ns=_;rw [b1s,b1s]
theorem Inv.opn {c:Cl} {E} {M:Nat} (h:Inv c E M) (hp:c.ps=[]) {p:Tm×Tm} (h1:p.1.rng/\p.1.ok) (h2:p.2.rng/\p.2.ok) (hb:pw c.ns+p.1.size+p.2.size<=1000):Inv (openC c p) (E++[p]) 2000001:=by
 obtain ⟨H,r,g1,_⟩:=h.cls;obtain ⟨H',r',g2⟩:=g1.openC p;have hk:kidOk (openC c p).ns:=fun n hn hk i hi=>((g2.kid n hn hk).2 i hi).1;have hpw:pw (openC c p).ns<=1000:=by rw [a7o];exact hb
 have hm:=c0S (H:=H') hk hpw;have hpl:(openC c p).ps.length=1:=by
  show (c.ps++_).length=1;rw [hp];rfl
 exact ⟨⟨H',r',g2,by omega⟩,(h.trm.add h1.1 h1.2).add h2.1 h2.2,hpw⟩
def b1p (l:List (Tm×Tm)):Nat:=(l.map fun p=>p.1.size+p.2.size).sum
set_option maxHeartbeats 8000000 in
theorem a6M (k:Nat) (l:List (Tm×Tm)) (q:Cl×Bool) (hq:s9 k l ⟨[],[],[]⟩=some q) (hl:∀ p∈l,(p.1.rng/\p.1.ok)/\(p.2.rng/\p.2.ok)) (hb:b1p l<=1000):r7 Tryz.prog 71 (s7 ⟨[],[],[]⟩) [.bp 350001 0 [],.val (.lst (l.map prv))] (.val (.b q.2)) (s7 q.1):=by
 have hsz:=b9h l;have hll:l.length<=1000:=by
  refine Nat.le_trans ?_ hb;unfold b1p;clear hq hl hb hsz
  induction l with
  | nil=>simp
  | cons p l ih=>simp only [map_cons,List.sum_cons,List.length_cons];have:=p.1.size_pos;omega
 refine l8 Tryz.func71 Tryz.ntmps71 rfl rfl rfl rfl rfl rfl ?_;intro w U hU;refine aS (aR ?_);refine nc ze ?_;refine aS (aS (aR ?_));refine nc zl (nc zp (nc zl ?_));refine aB (n4 (fun m s=>∃ i c E,m=l.length-i/\i<=l.length/\s9 k (l.drop i) c=some q/\c.ps=[]/\Inv c E 2000001/\pw c.ns+b1p (l.drop i)<=1000/\s=(0,AV.bp 350001 0 [])::(7,.val (.lst (l.map prv)))::(8,.val (.i (l.map prv).length))::(9,.val (.i (i:Int)))::s7 c) (n:=l.length) (s':=(0,AV.bp 350001 0 [])::(7,.val (.lst (l.map prv)))::(8,.val (.i (l.map prv).length))::(9,.val (.i ((0:Nat):Int)))::s7 ⟨[],[],[]⟩) (a7 ⟨rfl,rfl,rfl,rfl,rfl,rfl,rfl,rfl,rfl,rfl,rfl,trivial⟩) ⟨0,⟨[],[],[]⟩,[],by omega,by omega,hq,rfl,⟨⟨id,id,Cls.nil,by show 0+i7 _ 0<=_;simp [i7]⟩,(fun x hx=>by cases hx),by show i7 _ 0<=_;simp [i7]⟩,by show i7 _ 0+_<=_;simpa [i7] using hb,rfl⟩ ?_);rintro m s ⟨i,c,E,hm,hi,hq,hps,hI,hbi,rfl⟩;refine aS (aR ?_);refine nc zi ?_;refine aS (aC rfl (fun hlt=>?_) (fun hlt=>?_))
 case refine_2 =>
  have hil:i=l.length:=by
   have:¬ i<l.length:=by simpa using hlt
   omega
  rw [hil,List.drop_length] at hq;cases hq;refine aE ?_;refine aS (aR ?_);refine nc ze ?_;exact aT ⟨.inr rfl,_,Wk.refl _,rfl,rfl,rfl,rfl,rfl,rfl,rfl,rfl,trivial⟩
 have hil:i<l.length:=by simpa using hlt
 obtain ⟨p,hp⟩:∃ p,l[i]?=some p:=⟨l[i],List.getElem?_eq_getElem hil⟩
 have hp':=c2n hp;have hpm:=mem_of_getElem? hp;have hdr:l.drop i=p::l.drop (i+1):=by
  obtain ⟨hk,e⟩:=List.getElem?_eq_some_iff.1 hp;rw [List.drop_eq_getElem_cons hk,e]
 rw [hdr,s9] at hq;rw [hdr] at hbi;have hbi:pw c.ns+(p.1.size+p.2.size+b1p (l.drop (i+1)))<=1000:=hbi;obtain ⟨⟨r1,o1⟩,r2,o2⟩:=hl p hpm;have hl0:c.ns.length<=1000:=Nat.le_trans (D4 _) (by omega);have a1:=a4F c p.1 r1 (by omega);have a2:=a4F (q7 c p.1) p.2 r2 (by rw [x6];omega);have a3:=a6q (q7 (q7 c p.1) p.2) c.ns.length (c.ns.length+1) (by show c.ps.length<=_;rw [hps];decide);rw [x6] at a2;have hop:(⟨(q7 (q7 c p.1) p.2).ns,(q7 (q7 c p.1) p.2).vr,(q7 (q7 c p.1) p.2).ps++[(c.ns.length,c.ns.length+1)]⟩:Cl)=openC c p:=rfl;rw [hop] at a3;have hIo:=hI.opn hps ⟨r1,o1⟩ ⟨r2,o2⟩ (by omega);refine aK ?_;refine aS (aB (aS (aR ?_)));refine nc (zq (j:=i) (H:=hp') (hz:=hsz)) (nc zr (ne (zbe [2,2]) (nc zo ?_)));refine aS (aD (by kernel_rfl) (by kernel_rfl) ?_);refine nc zl (nc zl (nc (zbf 0) (nc zh (nc (z5 (z:=a1) (G:=j5 (by first | rfl | kernel_rfl))) (nc zl (nc (zbf 1) (nc zh (nc (z5 (z:=a2) (G:=j5 (by first | rfl | kernel_rfl))) (nc (z5 (z:=a3) (G:=j5 (by first | rfl | kernel_rfl))) ?_)))))))));refine ⟨by kernel_rfl,?_⟩;cases hrun:O2 k (openC c p) with
 | none=>rw [hrun] at hq;cases hq
 | some qr =>
 rw [hrun] at hq;simp only at hq;refine aB (n4 (fun j s=>∃ d,O2 j d=some qr/\Inv d (E++[p]) 2000001/\pw d.ns=pw (openC c p).ns/\s=(0,AV.bp 350001 0 [])::(7,.val (.lst (l.map prv)))::(8,.val (.i (l.map prv).length))::(9,.val (.i (i:Int)))::s7 d) (n:=k) (s':=(0,AV.bp 350001 0 [])::(7,.val (.lst (l.map prv)))::(8,.val (.i (l.map prv).length))::(9,.val (.i (i:Int)))::s7 (openC c p)) (a7 ⟨rfl,rfl,rfl,rfl,rfl,rfl,rfl,rfl,rfl,rfl,rfl,trivial⟩) ⟨openC c p,hrun,hIo,rfl,rfl⟩ ?_);rintro j s ⟨d,hd,hId,hpd,rfl⟩;cases j with
 | zero=>cases hd
 | succ j =>
 rw [O2] at hd;have hdp:=hId.ps;refine aS (aS (aR ?_));refine nc zl (nc z8 (nc zg (nc z9 (nc zY (nc zK ?_)))));cases hg:d.ps.getLast? with
 | none =>
  rw [hg] at hd;simp only at hd;cases hd;have hdn:d.ps=[]:=List.getLast?_eq_none_iff.1 hg;refine aC rfl (fun hc=>?_) (fun hc=>?_)
  ·exfalso;rw [hdn] at hc;simp at hc
  rw [if_pos rfl] at hq;refine aE ?_;refine aR ?_;refine nc zu (nc zl ?_);have hpw:pw d.ns=pw c.ns+p.1.size+p.2.size:=by rw [hpd,a7o]
  refine ⟨l.length-(i+1),(0,AV.bp 350001 0 [])::(7,.val (.lst (l.map prv)))::(8,.val (.i (l.map prv).length))::(9,.val (.i ((i+1:Nat):Int)))::s7 d,by omega,⟨i+1,d,E++[p],rfl,by omega,hq,hdn,hId,by omega,rfl⟩,a7 ⟨rfl,rfl,rfl,rfl,rfl,rfl,rfl,rfl,rfl,rfl,rfl,trivial⟩⟩
 | some pp =>
  rw [hg] at hd;simp only at hd;cases hj:C2 j ⟨d.ns,d.vr,d.ps.dropLast⟩ pp.1 pp.2 with
  | none=>rw [hj] at hd;cases hd
  | some qj =>
  rw [hj] at hd;simp only at hd;obtain ⟨⟨x1,x2⟩,hInv⟩:=hId.join hg hj;have hpos:0<d.ps.length:=by
   cases h:d.ps with
   | nil=>rw [h] at hg;cases hg
   | cons a l=>simp
  have b1:=b6w d pp hg (by omega);have hFd:=hId.fit;have b2:=b3f j ⟨d.ns,d.vr,d.ps.dropLast⟩ pp.1 pp.2 qj hj x1 x2 ⟨hFd.up,hFd.kid,hFd.trm,hFd.big⟩ (by show d.ps.dropLast.length<=_;rw [List.length_dropLast];omega);refine aC rfl (fun hc=>?_) (fun hc=>?_)
  case refine_2 =>
   have:¬ ((d.ps.length:Int)>0):=by simpa using hc
   omega
  refine aK ?_;refine AWp.wk (a7 (s':=(0,AV.bp 350001 0 [])::(7,.val (.lst (l.map prv)))::(8,.val (.i (l.map prv).length))::(9,.val (.i (i:Int)))::s7 d) ⟨rfl,rfl,rfl,rfl,rfl,rfl,rfl,rfl,rfl,rfl,rfl,trivial⟩) ?_;refine aB (aS (aR ?_));refine nc zl (nc zl (nc (z5 (z:=b1) (G:=j5 (by first | rfl | kernel_rfl))) (nc zx (nc zx (nc (z5 (z:=b2) (G:=j5 (by first | rfl | kernel_rfl))) (nc z0 ?_))))));cases hqj:qj.2 with
  | false =>
   rw [hqj,if_neg (by simp)] at hd;have hd:=Option.some.inj hd;subst hd;rw [hqj,if_neg (by simp)] at hq;have hq:=Option.some.inj hq;subst hq;refine aC rfl (fun hc=>?_) (fun hc=>by cases hc);refine aS (aR ?_);refine nc ze ?_;rw [hqj];exact aT ⟨.inr rfl,_,Wk.refl _,rfl,rfl,rfl,rfl,rfl,rfl,rfl,rfl,trivial⟩
  | true =>
   rw [hqj,if_pos rfl] at hd;refine aC rfl (fun hc=>by cases hc) (fun hc=>aK ?_);exact ⟨j,_,by omega,⟨qj.1,hd,hInv hqj,by rw [a3N hj];exact hpd,rfl⟩,a7 ⟨rfl,rfl,rfl,rfl,rfl,rfl,rfl,rfl,rfl,rfl,rfl,trivial⟩⟩
structure FitU (c:Cl):Prop where
 up:upOk c.ns
 kid:kidOk c.ns
 trm:trmOk c.ns
 big:pw c.ns<=1000
 vrb:∀ v m,o7 c.vr v=some m->m<c.ns.length
theorem Inv.fitU {c:Cl} {E} {M:Nat} (h:Inv c E M):FitU c:=by
 have hf:=h.fit;obtain ⟨H,r,h1,_⟩:=h.cls;exact ⟨hf.up,hf.kid,hf.trm,h.big,fun v m hm=>(h1.vrt v m hm).1⟩
def upB (c:Cl):Prop:=upOk c.ns/\∀ v m,o7 c.vr v=some m->m<c.ns.length
theorem upB.add {c:Cl} (h:upB c) (t:Tm):upB (q7 c t):=by
 have hl:(q7 c t).ns.length=c.ns.length+1:=x6 c t;have hu:U8 c t<=c.ns.length:=by
  unfold U8;split
  ·cases e:o7 c.vr (-1-t.f) with
   | none=>exact Nat.le_refl _
   | some m=>exact Nat.le_of_lt (h.2 _ m e)
  ·exact Nat.le_refl _
 refine ⟨fun m hm=>?_,fun v m hm=>?_⟩
 ·rw [hl] at hm |-;unfold nU q7;rcases Nat.lt_or_ge m c.ns.length with h1 | h1
  ·simp only;rw [getD_eq_getElem?_getD,List.getElem?_append_left h1,<-getD_eq_getElem?_getD];have:=h.1 m h1;unfold nU at this;omega
  ·have:m=c.ns.length:=by omega
   subst this;simp only;rw [G8];show U8 c t<_;omega
 ·rw [hl];have hm:o7 (addV c t) v=some m:=hm;unfold addV at hm;split at hm
  ·split at hm
   ·have:=h.2 v m hm;omega
   ·rw [S7] at hm;cases e:o7 c.vr v with
    | some m'=>rw [e] at hm;cases hm;have:=h.2 v _ e;omega
    | none =>
     rw [e,Option.none_or] at hm;split at hm
     ·cases hm;omega
     ·cases hm
  ·have:=h.2 v m hm;omega
theorem upB.all (l:List Tm):∀ {c:Cl},upB c->upB (addAll c l):=by
 induction l with
 | nil=>exact fun h=>h
 | cons t l ih=>exact fun h=>ih (h.add t)
theorem upB.parts {c:Cl} (h:upB c) (n:Nat):upB (pC c n).1:=by
 unfold pC;split
 ·exact h
 ·split
  ·refine upB.all _ ⟨fun m hm=>?_,fun v m hm=>?_⟩
   ·have hl:(c.setFi n c.ns.length).ns.length=c.ns.length:=by unfold Cl.setFi setFi;simp
    rw [hl] at hm |-;have hU:nU (c.setFi n c.ns.length).ns m=nU c.ns m:=by
     unfold Cl.setFi setFi nU;simp only;rw [getD_eq_getElem?_getD,getElem?_set];split
     ·rename_i e;subst e;split
      ·rfl
      ·rename_i h9;exact absurd hm h9
     ·rw [<-getD_eq_getElem?_getD]
    rw [hU];exact h.1 m hm
   ·have:=h.2 v m hm;show m<(setFi c.ns n c.ns.length).length;unfold setFi;rw [length_set];exact this
  ·exact h
theorem FitU.parts {c:Cl} (h:FitU c) {n:Nat} (hn:n<c.ns.length):FitU (pC c n).1:=by
 obtain ⟨h1,h2⟩:=upB.parts ⟨h.up,h.vrb⟩ n;exact ⟨h1,h.kid.parts hn,h.trm.parts hn,by rw [Q9];exact h.big,h2⟩
theorem kidOk.same {ns ns':List Nd} (h:kidOk ns) (hl:ns'.length=ns.length) (ht:∀ m,nT ns' m=nT ns m) (hk:∀ m,nK ns' m=nK ns m):kidOk ns':=fun n hn hkn i hi=>by
 rw [hl] at hn |-;rw [hk] at hkn |-;rw [ht] at hi;exact h n hn hkn i hi
theorem FitU.head {k:Nat} {ns:List Nd} {vr ps} {n:Nat} {r} (h:FitU ⟨ns,vr,ps⟩) (hn:n<ns.length) (hd:o9 k ns n=some r):FitU ⟨r.1,vr,ps⟩/\r.1.length=ns.length/\r.2<ns.length:=by
 obtain ⟨a1,a2,a3,a4,a5⟩:=I0 k hd h.up hn;exact ⟨⟨a1,h.kid.same a2 a4 a5,h.trm.same a2 a4,by show pw r.1<=1000;rw [a3l a2 a4 a5];exact h.big,fun v m hm=>by show m<r.1.length;rw [a2];exact h.vrb v m hm⟩,a2,a3⟩
theorem c2e {ns:List Nd} {n:Nat} {x:Int} (m:Nat):nU (setUs ns n x) m=nU ns m:=by
 unfold nU setUs;rw [getD_eq_getElem?_getD,getElem?_set];split
 ·rename_i e;subst e;split
  ·rfl
  ·rename_i h9;rw [getD_eq_getElem?_getD,getElem?_eq_none (by omega)]
 ·rw [<-getD_eq_getElem?_getD]
theorem D7 (ns:List Nd) (n:Nat) (x:Int):(setUs ns n x).length=ns.length:=by unfold setUs;simp
theorem FitU.us {ns:List Nd} {vr ps} (h:FitU ⟨ns,vr,ps⟩) (n:Nat) (x:Int):FitU ⟨setUs ns n x,vr,ps⟩:=by
 have hl:=D7 ns n x;exact ⟨fun m hm=>by show nU (setUs ns n x) m<(setUs ns n x).length;rw [c2e,hl];exact h.up m (by have:m<(setUs ns n x).length:=hm;rw [hl] at this;exact this),h.kid.same hl b0O.1 b0O.2,h.trm.same hl b0O.1,by show pw (setUs ns n x)<=1000;rw [c2h];exact h.big,fun v m hm=>by show m<(setUs ns n x).length;rw [hl];exact h.vrb v m hm⟩
def usB (ns:List Nd) (B:Int):Prop:=∀ m,-B<=nS ns m/\nS ns m<=B
theorem c1y {ns:List Nd} {n k:Nat} (m:Nat):nS (setUp ns n k) m=nS ns m:=by
 unfold nS setUp;rw [getD_eq_getElem?_getD,getElem?_set];split
 ·rename_i e;subst e;split
  ·rfl
  ·rename_i h9;rw [getD_eq_getElem?_getD,getElem?_eq_none (by omega)]
 ·rw [<-getD_eq_getElem?_getD]
theorem a8U:∀ (k:Nat) {ns:List Nd} {n:Nat} {r},o9 k ns n=some r->∀ m,nS r.1 m=nS ns m
 | 0,_,_,_,e=>by cases e
 | k+1,ns,n,r,e=>fun m=>by
  rw [o9] at e;split at e
  ·cases e;rfl
  ·rw [a8U k e m,c1y]
theorem usB.head {k:Nat} {ns:List Nd} {n:Nat} {r} {B:Int} (h:usB ns B) (hd:o9 k ns n=some r):usB r.1 B:=fun m=>by rw [a8U k hd];exact h m
theorem usB.set {ns:List Nd} {B:Int} (h:usB ns B) {n:Nat} {x:Int} (hx : -(B+1)<=x/\x<=B+1):usB (setUs ns n x) (B+1):=fun m=>by
 have h1:=h m;unfold nS setUs at *;rw [getD_eq_getElem?_getD,getElem?_set];split
 ·split
  ·exact hx
  ·show _<=(0:Int)/\(0:Int)<=_;omega
 ·rw [<-getD_eq_getElem?_getD];omega
theorem usB.mono {ns:List Nd} {B B':Int} (h:usB ns B) (hb:B<=B'):usB ns B':=fun m=>by have:=h m;omega
theorem b7X {c:Cl} {t:Tm} {B:Int} (h:usB c.ns B) (hB:0<=B):usB (q7 c t).ns B:=fun m=>by
 unfold nS q7;simp only;rw [getD_eq_getElem?_getD];rcases Nat.lt_trichotomy m c.ns.length with h1 | h1 | h1
 ·rw [List.getElem?_append_left h1,<-getD_eq_getElem?_getD];exact h m
 ·subst h1;rw [List.getElem?_append_right (Nat.le_refl _),Nat.sub_self];show _<=(0:Int)/\(0:Int)<=_;omega
 ·rw [getElem?_eq_none (by simp;omega)];show _<=(0:Int)/\(0:Int)<=_;omega
theorem usB.parts {c:Cl} {B:Int} (h:usB c.ns B) (hB:0<=B) (n:Nat):usB (pC c n).1.ns B:=by
 have hall:∀ (l:List Tm) (c:Cl),usB c.ns B->usB (addAll c l).ns B:=by
  intro l
  induction l with
  | nil=>exact fun c h=>h
  | cons t l ih=>exact fun c h=>ih _ (b7X h hB)
 unfold pC;split
 ·exact h
 ·split
  ·refine hall _ _ fun m=>?_;have:nS (c.setFi n c.ns.length).ns m=nS c.ns m:=by
    unfold Cl.setFi setFi nS;simp only;rw [getD_eq_getElem?_getD,getElem?_set];split
    ·rename_i e;subst e;split
     ·rfl
     ·rename_i h9;rw [getD_eq_getElem?_getD,getElem?_eq_none (by omega)]
    ·rw [<-getD_eq_getElem?_getD]
   rw [this];exact h m
  ·exact h
theorem b5x {ns:List Nd} {n:Nat} {k:Int} {x:Nd} (h:ns[n]?=some x):(setUs ns n k)[n]?=some { x with us:=k }:=by
 unfold setUs;have hl:n<ns.length:=(List.getElem?_eq_some_iff.1 h).1;rw [List.getElem?_set_self hl,q8 h]
noncomputable abbrev n7 (l:List Nat):CV := .lst (l.map fun n:Nat=>CV.i (n:Int))
theorem P9 (l:List Nat):∀ c∈l.map (fun n:Nat=>CV.i (n:Int)),c.size=1:=fun c hc=>by
 obtain ⟨n,_,rfl⟩:=mem_map.1 hc;rfl
set_option maxHeartbeats 8000000 in
theorem b1d (k j0:Nat) (c0:Cl) (q:Cl×List Nat) (hq:G0 k j0 0 c0 []=some q) (hF0:FitU c0) (hu0:usB c0.ns 0):r7 Tryz.prog 103 (s7 c0) [.bp 350001 0 []] (.val (n7 q.2)) (s7 q.1):=by
 refine l8 Tryz.func103 Tryz.ntmps103 rfl rfl rfl rfl rfl rfl ?_;intro w U hU;refine aS (aR ?_);refine nc ze ?_;refine aS (aR ?_);refine nc ze ?_;refine aS (aS (aR ?_));refine nc ze ?_;refine aB (n4 (fun j s=>∃ n c hs,G0 k j n c hs=some q/\FitU c/\usB c.ns ((n:Int)*1000)/\n<=1000/\hs.length<=n/\s=(0,AV.bp 350001 0 [])::(3,.own (n7 hs) 200025)::(200025,.tok 3 1)::(4,.val (.i (n:Int)))::s7 c) (n:=j0) (s':=(0,AV.bp 350001 0 [])::(3,.own (n7 []) 200025)::(200025,.tok 3 1)::(4,.val (.i ((0:Nat):Int)))::s7 c0) ((K5 3 200025 3 1 rfl rfl rfl rfl rfl rfl (by kernel_rfl)).trans (a7 ⟨rfl,rfl,rfl,rfl,rfl,rfl,rfl,rfl,rfl,rfl,rfl,trivial⟩)) ⟨0,c0,[],hq,hF0,by simpa using hu0,by omega,Nat.le_refl _,rfl⟩ ?_);rintro j s ⟨n,c,hs,hq,hF,hu,hn,hsl,rfl⟩;cases j with
 | zero=>cases hq
 | succ j =>
 rw [G0] at hq;have hl:c.ns.length<=1000:=Nat.le_trans (D4 _) hF.big;refine aS (aS (aR ?_));refine nc zl (nc zl (nc z8 (nc zg (nc z9 (nc zY (nc zi ?_))))));by_cases hlt:n<c.ns.length
 case neg =>
  rw [if_neg hlt] at hq;have hq:=Option.some.inj hq;subst hq;refine aC rfl (fun hc=>?_) (fun hc=>?_)
  ·exfalso;have:(n:Int)<c.ns.length:=by simpa using hc
   omega
  refine aE ?_;refine aS (aR ?_);refine nc zl (nc ze ?_);exact aT ⟨.inr rfl,_,Wk.refl _,rfl,rfl,rfl,rfl,rfl,rfl,rfl,rfl,trivial⟩
 rw [if_pos hlt] at hq;refine aC rfl (fun hc=>?_) (fun hc=>?_)
 case refine_2 =>
  have:¬ (n:Int)<c.ns.length:=by simpa using hc
  omega
 refine aK ?_;cases hd:o9 k c.ns n with
 | none=>rw [hd] at hq;cases hq
 | some r =>
 rw [hd] at hq;simp only at hq;have hdc:=K7 c.vr c.ps k c.ns n r hd hF.up hlt (by omega);obtain ⟨hF1,hl1,hr1⟩:=FitU.head (vr:=c.vr) (ps:=c.ps) hF hlt hd;have hu1:=hu.head hd;refine AWp.wk ((a7 (s':=(0,AV.bp 350001 0 [])::(3,.own (n7 hs) 200025)::(200025,.tok 3 1)::(4,.val (.i (n:Int)))::s7 c) ⟨rfl,rfl,rfl,rfl,rfl,rfl,rfl,rfl,rfl,rfl,rfl,trivial⟩).trans (w9 300001 400001 rfl rfl (b6T hU (by kernel_rfl)) (by kernel_rfl) (by kernel_rfl) (by kernel_rfl))) ?_;refine aS (aB (aS (aS (aR ?_))));refine nc zl (nc zl (nc (z5 (z:=hdc) (G:=j5 (by first | rfl | kernel_rfl))) (nc zl (nc zba ?_))));obtain ⟨c1,hc1⟩:∃ c1:Cl,c1=⟨r.1,c.vr,c.ps⟩:=⟨_,rfl⟩
 rw [<-hc1] at hq hF1 |-;have hl1':c1.ns.length=c.ns.length:=by rw [hc1];exact hl1
 have hu1:usB c1.ns ((n:Int)*1000):=by rw [hc1];exact hu1
 by_cases he:r.2=n
 case neg =>
  rw [if_pos he] at hq;refine aC rfl (fun hc=>?_) (fun hc=>?_)
  case refine_2 =>
   have hc:=of_decide_eq_false hc;simp only [ne_eq,Decidable.not_not] at hc;omega
  refine aE ?_;refine aR ?_;refine nc zl (nc zu (nc ze ?_));refine ⟨j,(0,AV.bp 350001 0 [])::(3,.own (n7 hs) 200025)::(200025,.tok 3 1)::(4,.val (.i ((n+1:Nat):Int)))::s7 c1,by omega,⟨n+1,c1,hs,hq,hF1,hu1.mono (by omega),by omega,by omega,rfl⟩,(a7 (s':=(0,AV.bp 350001 0 [])::(3,.own (n7 hs) 200025)::(200025,.tok 3 1)::(4,.val (.i ((n+1:Nat):Int)))::O0 c1) ⟨rfl,rfl,rfl,rfl,rfl,rfl,rfl,rfl,rfl,rfl,rfl,trivial⟩).trans (w9 400001 300001 rfl rfl (a5r U (by decide)) (by kernel_rfl) (by kernel_rfl) (by kernel_rfl))⟩
 rw [if_neg (by simpa using he)] at hq;refine aC rfl (fun hc=>?_) (fun hc=>aK ?_)
 ·exfalso;rw [he] at hc;simp at hc
 have hn1:n<c1.ns.length:=by omega
 have hFp:=hF1.parts hn1;have hup:=hu1.parts (by omega) n;have hlp:(pC c1 n).1.ns.length<=1000:=Nat.le_trans (D4 _) hFp.big;have hpc:=L2 c1 n hn1 hF1.trm (by omega) (hF1.kid.fi hn1 (by omega));obtain ⟨c2,hc2⟩:∃ c2,c2=(pC c1 n).1:=⟨_,rfl⟩
 obtain ⟨fr,hfr⟩:∃ x,x=(pC c1 n).2.1:=⟨_,rfl⟩
 obtain ⟨to,hto⟩:∃ x,x=(pC c1 n).2.2:=⟨_,rfl⟩
 have hft:fr<=to:=by rw [hfr,hto];exact P5.1
 have htl:to<=c2.ns.length:=by rw [hto,hc2];exact a0i hF1.kid hn1
 rw [<-hc2] at hq hFp hup hlp hpc;rw [<-hfr,<-hto] at hq hpc;refine AWp.wk ((a7 (s':=(0,AV.bp 350001 0 [])::(3,.own (n7 hs) 200025)::(200025,.tok 3 1)::(4,.val (.i (n:Int)))::O0 c1) ⟨rfl,rfl,rfl,rfl,rfl,rfl,rfl,rfl,rfl,rfl,rfl,trivial⟩).trans (w9 400001 300001 rfl rfl (a5r U (by decide)) (by kernel_rfl) (by kernel_rfl) (by kernel_rfl))) ?_;have hss:=P9 hs;refine aS (aR ?_);refine nc zl (nc zl (nc zD (ne zE (nc ze ?_))));refine AWp.wk ((a7 (s':=(0,AV.bp 350001 0 [])::(3,.own (n7 (hs++[n])) 300025)::(300025,.tok 3 1)::(4,.val (.i (n:Int)))::s7 c1) ⟨rfl,?_,rfl,rfl,rfl,rfl,rfl,rfl,rfl,rfl,rfl,trivial⟩).trans (A3 300025 200025 rfl rfl (by kernel_rfl) (by kernel_rfl))) ?_
 ·show _=some (AV.own (.lst ((hs++[n]).map fun n:Nat=>CV.i (n:Int))) 300025);rw [map_append];rfl
 refine aS (aR ?_);refine nc zl (nc zl (nc (z5 (z:=hpc) (G:=j5 (by first | rfl | kernel_rfl))) (nc zl (nc zx (nc zx (nc ze (nc ze ?_)))))));refine aS (aR ?_);refine nc zl (nc ze ?_);cases hus:a6S k (List.range' fr (to-fr)) c2.ns with
 | none=>rw [hus] at hq;cases hq
 | some ns =>
 rw [hus] at hq;simp only at hq;refine aB (n4 (fun m s=>∃ i ns1,i+m=to-fr/\a6S k (List.range' (fr+i) m) ns1=some ns/\FitU ⟨ns1,c2.vr,c2.ps⟩/\ns1.length=c2.ns.length/\usB ns1 ((n:Int)*1000+i)/\s=(0,AV.bp 350001 0 [])::(3,.own (n7 (hs++[n])) 200025)::(200025,.tok 3 1)::(4,.val (.i (n:Int)))::(6,.val (.i (to:Int)))::(7,.val (.i ((fr+i:Nat):Int)))::O0 ⟨ns1,c2.vr,c2.ps⟩) (n:=to-fr) (s':=(0,AV.bp 350001 0 [])::(3,.own (n7 (hs++[n])) 200025)::(200025,.tok 3 1)::(4,.val (.i (n:Int)))::(6,.val (.i (to:Int)))::(7,.val (.i ((fr+0:Nat):Int)))::O0 ⟨c2.ns,c2.vr,c2.ps⟩) ((a7 (s':=(0,AV.bp 350001 0 [])::(3,.own (n7 (hs++[n])) 200025)::(200025,.tok 3 1)::(4,.val (.i (n:Int)))::(6,.val (.i (to:Int)))::(7,.val (.i ((fr+0:Nat):Int)))::s7 c2) ⟨rfl,rfl,rfl,rfl,rfl,rfl,rfl,rfl,rfl,rfl,rfl,rfl,rfl,trivial⟩).trans (w9 300001 400001 rfl rfl (b6T hU (by kernel_rfl)) (by kernel_rfl) (by kernel_rfl) (by kernel_rfl))) ⟨0,c2.ns,by omega,hus,hFp,rfl,hup.mono (by omega),rfl⟩ ?_);rintro m s ⟨i,ns1,him,hu1,hF3,hl3,hb3,rfl⟩;refine aS (aS (aR ?_));refine nc zl (nc zl (nc zi ?_));cases m with
 | zero =>
  have hus1:some ns1=some ns:=hu1;have hus1:=Option.some.inj hus1;subst hus1;refine aC rfl (fun hc=>?_) (fun hc=>?_)
  ·exfalso;have:((fr+i:Nat):Int)<to:=by simpa using hc
   omega
  refine aE ?_;refine aR ?_;refine nc zl (nc zu (nc ze ?_));refine ⟨j,(0,AV.bp 350001 0 [])::(3,.own (n7 (hs++[n])) 200025)::(200025,.tok 3 1)::(4,.val (.i ((n+1:Nat):Int)))::s7 ⟨ns1,c2.vr,c2.ps⟩,by omega,⟨n+1,⟨ns1,c2.vr,c2.ps⟩,hs++[n],hq,hF3,hb3.mono (by omega),by omega,by rw [length_append];simp only [List.length_cons,List.length_nil];omega,rfl⟩,(a7 (s':=(0,AV.bp 350001 0 [])::(3,.own (n7 (hs++[n])) 200025)::(200025,.tok 3 1)::(4,.val (.i ((n+1:Nat):Int)))::O0 ⟨ns1,c2.vr,c2.ps⟩) ⟨rfl,rfl,rfl,rfl,rfl,rfl,rfl,rfl,rfl,rfl,rfl,trivial⟩).trans (w9 400001 300001 rfl rfl (a5r U (by decide)) (by kernel_rfl) (by kernel_rfl) (by kernel_rfl))⟩
 | succ m =>
  have hp1:fr+i<ns1.length:=by omega
  rw [List.range'_succ,a6S] at hu1;cases hd2:o9 k ns1 (fr+i) with
  | none=>rw [hd2] at hu1;cases hu1
  | some r2 =>
  rw [hd2] at hu1;simp only at hu1;obtain ⟨hF4,hl4,hr4⟩:=FitU.head hF3 hp1 hd2;have hb4:=hb3.head hd2;have hdc2:=K7 c2.vr c2.ps k ns1 (fr+i) r2 hd2 hF3.up hp1 (by omega);have hcst:O0 ⟨r2.1,c2.vr,c2.ps⟩=[(450001,.obj),(35500100,.sl 400001 0 ns1.length 5),(35500101,.mref 300003),(35500102,.sl 300002 0 c2.ps.length 2),(400001,.mrow 140 5 (r2.1.map Nd.cv)),(300003,.mp (c2.vr.map vrv)),(300002,.mrow 164 2 (c2.ps.map psv))]:=by simp only [O0,hl4]
  rw [hcst] at hdc2;obtain ⟨y,hy⟩:=O7 (ns:=r2.1) (n:=r2.2) (by omega);have hy':=Nd.map_at hy;have hlm:(r2.1.map Nd.cv).length=r2.1.length:=length_map ..;have hys:nS r2.1 r2.2=y.us:=by unfold nS;rw [q8 hy]
  have hyb:=hb4 r2.2;rw [hys] at hyb hu1;refine aC rfl (fun hc=>?_) (fun hc=>?_)
  case refine_2 =>
   have:¬ ((fr+i:Nat):Int)<to:=by simpa using hc
   omega
  refine aK ?_;refine aS (aB (aD (by kernel_rfl) (by kernel_rfl) ?_));refine nc zl (nc z8 (nc zg (nc z9 (nc zl (nc zl (nc (zbj ([(400001,.mrow 140 5 (r2.1.map Nd.cv))]) (C:=hdc2) (hnb:=j5 (by first | rfl | kernel_rfl))) (nc (zM (k:=r2.2)) (nc z7 (nc (zN (G:=hy')) (nc zu (nc (zM (k:=r2.2)) (nc z7 (nc (zQ (F:=hy')) ?_)))))))))))));refine ⟨by kernel_rfl,?_⟩;refine aR ?_;refine nc zl (nc zu (nc ze ?_));refine ⟨m,(0,AV.bp 350001 0 [])::(3,.own (n7 (hs++[n])) 200025)::(200025,.tok 3 1)::(4,.val (.i (n:Int)))::(6,.val (.i (to:Int)))::(7,.val (.i ((fr+(i+1):Nat):Int)))::O0 ⟨setUs r2.1 r2.2 (y.us+1),c2.vr,c2.ps⟩,by omega,⟨i+1,setUs r2.1 r2.2 (y.us+1),by omega,by rw [<-Nat.add_assoc];exact hu1,hF4.us _ _,by rw [D7];omega,(hb4.set (by omega)).mono (by omega),rfl⟩,a7 ⟨rfl,rfl,rfl,rfl,rfl,rfl,rfl,?_,rfl,rfl,?_,rfl,rfl,trivial⟩⟩
  ·show _=some (AV.sl 400001 0 (setUs r2.1 r2.2 (y.us+1)).length 5);rw [D7,hl4];rfl
  ·show _=some (AV.mrow 140 5 ((setUs r2.1 r2.2 (y.us+1)).map Nd.cv));rw [a6s hy];rfl
end Go.Proofs.YtglmoficcjphaaaGreat
