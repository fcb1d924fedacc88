/-
 SupSigns: how many literals are Neg.
-/
import Derived.Test.YteegmcfobgpemaaGreatMg12
import Derived.Test.YteegmcfobgpemaaGreatAbShp
namespace Go.Proofs.YteegmcfobgpemaaGreat
open List (filter_cons length_append length_cons length_map length_nil)
open Go.RowKit
set_option linter.unusedVariables false
set_option linter.unusedSimpArgs false
set_option maxRecDepth 100000
def A9 (c:List Lt):Nat:=(c.filter Lt.neg).length
theorem X4 (a b:List Lt):A9 (a++b)=A9 a+A9 b:=by unfold A9;rw [List.filter_append,length_append]
theorem a9x (g:Lt->Lt) (hg:∀ l,(g l).neg=l.neg) (c:List Lt):A9 (c.map g)=A9 c:=by
 unfold A9;rw [List.filter_map,length_map];congr 2;funext l;exact hg l
theorem b0a (σ:Int->Tm) (c:List Lt):A9 (c.map (Lt.rep σ))=A9 c:=a9x (Lt.rep σ) (fun _=>rfl) c
theorem a2Z (c:List Lt):A9 (c.map Lt.strip)=A9 c:=a9x Lt.strip (fun _=>rfl) c
theorem a3h (c:List Lt):A9 c<=c.length:=List.length_filter_le _ _
theorem a4C {c:List Lt} {n:Nat} {l:Lt} (h:c[n]?=some l):A9 (a1y c n)+(if l.neg=true then 1 else 0)=A9 c:=by
 have e:c=c.take n++l::c.drop (n+1):=by conv=>lhs;rw [<-List.take_append_drop n c,T0 h]
 conv=>rhs;rw [e]
 unfold a1y;rw [X4,X4];unfold A9;rw [filter_cons];cases l.neg<;>simp<;>omega
theorem c2S {c d:List Lt} {n:Nat}:(rnC c d)[n]?=(d[n]?).map (Lt.rep (shV (a1s c+1))):=by unfold rnC;rw [List.getElem?_map]
theorem b8v {free:Bool} {c d z:List Lt} (h:z∈a0a free c d):A9 z=A9 c+A9 d:=by
 obtain ⟨m,hm,_,rfl⟩:=a7h h;have hk:=b1c hm;rw [b0a];unfold G3;rw [X4,X4,a2Z,a2Z];obtain ⟨l,h1,_,h3⟩:=hk.fr;obtain ⟨k,k1,_⟩:=hk.ti;have a1:=a4C h1;rw [h3,if_neg (by simp)] at a1;have a2:=a4C k1;have a3:A9 (rnC c d)=A9 d:=b0a _ d;have a4:x9 (rnC c d) m.ti.n=k.neg:=by unfold x9;rw [k1]
 rw [a4];have a5:A9 [(⟨k.neg,(F9 m.fr.b m.pl m.ti.a).getD ⟨0,[]⟩,m.ti.b⟩:Lt)]=if k.neg=true then 1 else 0:=by unfold A9;rw [filter_cons];cases k.neg<;>rfl
 rw [a5];omega
theorem b1T {free:Bool} {c:List Lt} (d:List Lt) (h:∀ n∈lkM free c,∀ l,c[n.toNat]?=some l->l.neg=true):a0a free c d=[]:=by
 cases e:a0a free c d with
 | nil=>rfl
 | cons z L =>
  exfalso;obtain ⟨m,hm,_,_⟩:=a7h (free:=free) (c:=c) (d:=d) (z:=z) (by rw [e];simp);obtain ⟨l,h1,_,h3⟩:=(b1c hm).fr;have:=h m.fr.n (a1q (b1M hm).1).1 l h1;rw [h3] at this;cases this
theorem b5W {c:List Lt} (d:List Lt) (h:0<A9 c):a0a false c d=[]:=by
 obtain ⟨h1,h2⟩:=b7f c c.length (Nat.le_refl _);refine b1T d fun n hn l hl=>?_;have hn:n∈a0b c:=hn;by_cases hg:(hvK c c.length).1>=0
 ·obtain ⟨x,hx,fX⟩:=h1 hg;have e:a0b c=[(hvK c c.length).1]:=by unfold a0b;rw [if_pos hg]
  rw [e,List.mem_singleton] at hn;rw [hn,hx] at hl;cases hl;exact fX
 ·exfalso;have hp:(c.filter Lt.neg)≠[]:=fun e=>by unfold A9 at h;rw [e] at h;cases h
  obtain ⟨x,hx⟩:=List.exists_mem_of_ne_nil _ hp;obtain ⟨fN,iU⟩:=List.mem_filter.1 hx;obtain ⟨j,hj⟩:=List.getElem?_of_mem fN;have gF:j<c.length:=by
   rcases Nat.lt_or_ge j c.length with h | h
   ·exact h
   ·rw [List.getElem?_eq_none h] at hj;cases hj
  rw [(h2 (by omega)).2 j gF x hj] at iU;cases iU
theorem b5E {c:List Lt} (d:List Lt) (h:A9 c=c.length):a0a true c d=[]:=by
 refine b1T d fun n hn l hl=>?_;have h1:=a4C hl;have hn:n.toNat<c.length:=by
  rcases Nat.lt_or_ge n.toNat c.length with h | h
  ·exact h
  ·rw [List.getElem?_eq_none h] at hl;cases hl
 have h2:=a3h (a1y c n.toNat);have h3:=J1 hn;cases e:l.neg with
 | true=>rfl
 | false =>
  rw [e,if_neg (by simp)] at h1;omega
theorem b6s {c:List Lt} {k:Nat} {l:Lt} (h:c[k]?=some l):A9 (c.take (k+1))=A9 (c.take k)+(if l.neg=true then 1 else 0):=by
 rw [List.take_add_one,h,X4];unfold A9;rw [show (some l).toList=[l] from rfl,filter_cons];cases l.neg<;>rfl
theorem b4y (W:World) (c:List Lt) (hc:c.length<=1000000):AFun Tryz.prog W 22 [.lst (c.map Lt.cv)] (.val (.i (A9 c))):=by
 have kC:=Lt.size_all c;have lC:(c.map Lt.cv).length=c.length:=length_map ..;refine b9 (rs:=[.i (A9 c)]) Tryz.func22 Tryz.ntmps22 rfl rfl rfl rfl ?_;intro w U hW;refine aS (aR ?_);refine nc ze ?_;refine aS (aR ?_);refine nc ze ?_;refine aS (aS (aR ?_));refine nc ze ?_;refine aB (l9 c.length (fun k=>[(0,AV.val (.lst (c.map Lt.cv))),(3,.val (.i (A9 (c.take k)))),(4,.val (.i (k:Int)))]) (a7 ⟨rfl,rfl,rfl,trivial⟩) ?_);intro k hk;refine aS (aS (aR ?_));refine nc zl (nc zl (nc zo (nc zi ?_)));refine aC rfl (fun kA=>aK ?_) (fun kA=>aE ?_)
 ·have kE:k<c.length:=by have:=of_decide_eq_true kA;omega
  obtain ⟨l,hl⟩:∃ l,c[k]?=some l:=⟨c[k],List.getElem?_eq_getElem kE⟩
  have bU:=Lt.map_at hl;have sY:=b6s hl;have dK:=a3h (c.take k);rw [List.length_take] at dK;refine aS (aB (aS (aR ?_)));refine nc zl (nc zl (nc (zt (j:=k) (H:=bU) (hz:=kC)) (nc zbG (nc zu ?_))));obtain ⟨b,hb⟩:∃ b,b=l.neg:=⟨_,rfl⟩
  rw [<-hb] at sY;cases b with
  | true =>
   refine aC (b:=l.neg) rfl (fun hc=>?_) (fun hc=>by rw [<-hb] at hc;cases hc);refine aR ?_;refine nc zl (nc zA (nc ze ?_));refine aR ?_;refine nc zl (nc zA (nc ze ?_));refine ⟨kE,?_⟩;show Wk _ _ _ _ [(0,AV.val (.lst (c.map Lt.cv))),(3,.val (.i (A9 (c.take (k+1)):Nat))),(4,.val (.i ((k+1:Nat):Int)))];rw [sY,if_pos rfl];exact a7 ⟨rfl,rfl,rfl,trivial⟩
  | false =>
   refine aC (b:=l.neg) rfl (fun hc=>by rw [<-hb] at hc;cases hc) (fun hc=>aK ?_);refine aR ?_;refine nc zl (nc zA (nc ze ?_));refine ⟨kE,?_⟩;show Wk _ _ _ _ [(0,AV.val (.lst (c.map Lt.cv))),(3,.val (.i (A9 (c.take (k+1)):Nat))),(4,.val (.i ((k+1:Nat):Int)))];rw [sY,if_neg (by simp),Nat.add_zero];exact a7 ⟨rfl,rfl,rfl,trivial⟩
 ·have kE:k=c.length:=by have:=of_decide_eq_false kA;omega
  subst kE;rw [List.take_length];refine aS (aR ?_);refine nc zl (nc ze ?_);exact aT (And.intro (.inr rfl) rfl)
set_option maxHeartbeats 8000000 in
theorem a6J (W:World) (c d:List Lt) (hrc:okC c) (hrd:okC d):AFun Tryz.prog W 6 [.lst (c.map Lt.cv),.lst (d.map Lt.cv)] (.val (.b true)):=by
 refine b9 (rs:=[.b true]) Tryz.func6 Tryz.ntmps6 rfl rfl rfl rfl ?_;intro w U hW;refine aS (aR ?_);refine nc ze ?_;refine aS (aS (aR ?_));refine nc (zk (z:=a8F w)) (nc zZ ?_);refine aC rfl (fun hc=>by cases hc) (fun _=>aK ?_);have pZ:=a3V w c 3 8 (by decide) (by decide) (by decide) hrc;have jX:=a3V w d 3 8 (by decide) (by decide) (by decide) hrd;cases hF:U5 c 3 8 with
 | false =>
  rw [hF] at pZ;refine aS (aS (aR ?_));refine nc zl (nc (zk (z:=pZ)) (nc zZ (nc zl (nc zq (nc zq (nc zq (nc zp ?_)))))));refine aC rfl (fun hc=>?_) (fun hc=>by cases hc);refine aS (aR ?_);refine nc ze ?_;exact aT (And.intro (.inr rfl) rfl)
 | true =>
 cases hG:U5 d 3 8 with
 | false =>
  rw [hF] at pZ;rw [hG] at jX;refine aS (aS (aR ?_));refine nc zl (nc (zk (z:=pZ)) (nc zZ (nc zl (nc (zl (p:=gb)) (nc (zk (p:=gb) (z:=jX)) (nc (zZ (r:=gb)) (nc zr ?_)))))));refine aC rfl (fun hc=>?_) (fun hc=>by cases hc);refine aS (aR ?_);refine nc ze ?_;exact aT (And.intro (.inr rfl) rfl)
 | true =>
 rw [hF] at pZ;rw [hG] at jX;obtain ⟨dK,sY⟩:=a9R (by decide) (by decide) hF;obtain ⟨hdl,hdt⟩:=a9R (by decide) (by decide) hG;have eL:∀ l∈c,l.a.sm/\l.b.sm:=fun l hl=>by obtain ⟨_,h3⟩:=W5 (by decide) (by decide) hF;exact ⟨(h3 l hl).1.1.1,(h3 l hl).2.1.1⟩
 have hds:∀ l∈d,l.a.sm/\l.b.sm:=fun l hl=>by obtain ⟨_,h3⟩:=W5 (by decide) (by decide) hG;exact ⟨(h3 l hl).1.1.1,(h3 l hl).2.1.1⟩
 have hokc:∀ l∈c,l.a.ok/\l.b.ok:=fun l hl=>⟨(sY l hl).1.1.2,(sY l hl).2.1.2⟩
 have hokd:∀ l∈d,l.a.ok/\l.b.ok:=fun l hl=>⟨(hdt l hl).1.1.2,(hdt l hl).2.1.2⟩
 have hp:∀ free,Pr2 free c d:=fun free=>b9I free (N:=1000) (by omega) (b7d eL) (b7d hds) (by omega) (by omega) sY hdt;refine aS (aS (aR ?_));refine nc zl (nc (zk (z:=pZ)) (nc zZ (nc zl (nc (zl (p:=gb)) (nc (zk (p:=gb) (z:=jX)) (nc (zZ (r:=gb)) (nc zr ?_)))))));refine aC rfl (fun hc=>by cases hc) (fun _=>aK ?_);refine aS (aR ?_);refine nc zl (nc (zk (z:=a9J w c (by omega) hokc)) (nc zl (nc (zk (z:=a9J w d (by omega) hokd)) (nc ze (nc ze ?_)))));refine aS (aR ?_);refine nc ze ?_;refine aS (aR ?_);refine nc zl (nc zl (nc (zk (z:=b1d w c d (hp true))) (nc ze ?_)));have wY:=fun z (hz:z∈a0a true c d)=>b7H (hp true) hz;have jO:=fun z (hz:z∈a0a true c d)=>b8v hz;have mI:=b5x (free:=true) (c:=c) (d:=d) (by omega) (by omega) (hp true).rn;have bC:A9 c=c.length->a0a true c d=[]:=fun h=>b5E d h;obtain ⟨L,hL⟩:∃ L,L=a0a true c d:=⟨_,rfl⟩
 rw [<-hL] at wY jO mI bC |-;have hLs:=a9e L;have hLm:(L.map clC).length=L.length:=length_map ..;have lC:(c.map Lt.cv).length=c.length:=length_map ..;have hdm:(d.map Lt.cv).length=d.length:=length_map ..;have xQ:=a3h c;have dQ:=a3h d;have gJ:∀ w (z:List Lt),z.length<=1000000->N3 Tryz.prog w (.sc (.func (.func 22) #[] #[])) [.lst (z.map Lt.cv)] (.val (.i (A9 z))):=fun w z hz => .inr ⟨_,rfl,b4y w z hz⟩;refine aS (aS (aR ?_));refine nc ze ?_;refine aB (l9 L.length (fun k=>[(5,AV.val (.lst (c.map Lt.cv))),(6,.val (.lst (d.map Lt.cv))),(7,.val (.sc (.func (.func 22) #[] #[]))),(8,.val (.lst (L.map clC))),(9,.val (.i (k:Int)))]) (a7 ⟨rfl,rfl,rfl,rfl,rfl,trivial⟩) ?_);intro k hk;refine aS (aS (aR ?_));refine nc zl (nc zl (nc zo (nc zi ?_)));refine aC rfl (fun kA=>aK ?_) (fun kA=>aE ?_)
 ·have kE:k<L.length:=by have:=of_decide_eq_true kA;omega
  obtain ⟨z,hz⟩:∃ z,L[k]?=some z:=⟨L[k],List.getElem?_eq_getElem kE⟩
  have jI:(L.map clC)[k]?=some (.lst (z.map Lt.cv)):=by rw [List.getElem?_map,hz];rfl
  have hzm:=List.mem_of_getElem? hz;obtain ⟨qI,_⟩:=wY z hzm;have mE:=jO z hzm;have hzml:(z.map Lt.cv).length=z.length:=length_map ..;have tL:decide (((A9 z:Nat):Int)≠((A9 c:Nat):Int)+((A9 d:Nat):Int))=false:=decide_eq_false (by omega);have mD:decide ((((z.map Lt.cv).length:Nat):Int)≠(((c.map Lt.cv).length:Nat):Int)+(((d.map Lt.cv).length:Nat):Int)-1)=false:=decide_eq_false (by omega);refine aS (aB (aS (aR ?_)));refine nc zl (nc zl (nc zl (nc (zt (j:=k) (H:=jI) (hz:=hLs)) (nc zu (nc (zQ (E:=gJ w z (by omega))) (nc zl (nc zl (nc (zQ (E:=gJ w c (by omega))) (nc zl (nc zl (nc (zQ (E:=gJ w d (by omega))) (nc zA (nc z8 (nc zl (nc (zl (p:=gb)) (nc (zl (p:=gb)) (nc (zt (j:=k) (r:=gb) (H:=jI) (hz:=hLs)) (nc (zu (r:=gb)) (nc (zo (r:=gb)) (nc (zl (p:=gb)) (nc (zo (r:=gb)) (nc (zl (p:=gb)) (nc (zo (r:=gb)) ?_)))))))))))))))))))))));refine nc (zA (r:=gb)) (nc (zB (r:=gb)) (nc (z8 (r:=gb)) (nc zr ?_)));refine aC rfl (fun hc=>by rw [mD] at hc;cases hc) (fun _=>aK ?_);refine aR ?_;refine nc zl (nc zA (nc ze ?_));exact ⟨kE,a7 ⟨rfl,rfl,rfl,rfl,rfl,trivial⟩⟩
 ·have kE:k=L.length:=by have:=of_decide_eq_false kA;omega
  have hi:=a4b w c d (hp false);have bJ:0<A9 c->a0a false c d=[]:=fun h=>b5W d h;by_cases h0:0<A9 c
  ·have g0:decide (((A9 c:Nat):Int)>0)=true:=decide_eq_true (by omega);rw [bJ h0] at hi;refine aS (aS (aR ?_));refine nc zl (nc zl (nc (zQ (E:=gJ w c (by omega))) (nc zN (nc zl (nc (zl (p:=gb)) (nc (zl (p:=gb)) (nc (zk (p:=gb) (z:=hi)) (nc (zo (r:=gb)) (nc (zN (r:=gb)) (nc zp ?_))))))))));refine aC rfl (fun hc=>by cases hc) (fun _=>aK ?_);by_cases h1:A9 c=c.length
   ·have g1:decide (((A9 c:Nat):Int)<(((c.map Lt.cv).length:Nat):Int))=false:=decide_eq_false (by omega);rw [bC h1];refine aS (aR ?_);refine nc zl (nc zl (nc (zQ (E:=gJ w c (by omega))) (nc zl (nc zo (nc zi (nc zl (nc (zl (p:=gb)) (nc (zo (r:=gb)) (nc (zD (r:=gb)) (nc zr (nc ze ?_)))))))))));exact aT (And.intro (.inr rfl) rfl)
   ·have g1:decide (((A9 c:Nat):Int)<(((c.map Lt.cv).length:Nat):Int))=true:=decide_eq_true (by omega);refine aS (aR ?_);refine nc zl (nc zl (nc (zQ (E:=gJ w c (by omega))) (nc zl (nc zo (nc zi (nc zl (nc zq (nc zq (nc zq (nc zp (nc ze ?_)))))))))));exact aT (And.intro (.inr rfl) rfl)
  ·have g0:decide (((A9 c:Nat):Int)>0)=false:=decide_eq_false (by omega);refine aS (aS (aR ?_));refine nc zl (nc zl (nc (zQ (E:=gJ w c (by omega))) (nc zN (nc zl (nc zq (nc zq (nc zq (nc zq (nc zq (nc zr ?_))))))))));refine aC rfl (fun hc=>by cases hc) (fun _=>aK ?_);by_cases h1:A9 c=c.length
   ·have g1:decide (((A9 c:Nat):Int)<(((c.map Lt.cv).length:Nat):Int))=false:=decide_eq_false (by omega);rw [bC h1];refine aS (aR ?_);refine nc zl (nc zl (nc (zQ (E:=gJ w c (by omega))) (nc zl (nc zo (nc zi (nc zl (nc (zl (p:=gb)) (nc (zo (r:=gb)) (nc (zD (r:=gb)) (nc zr (nc ze ?_)))))))))));exact aT (And.intro (.inr rfl) rfl)
   ·have g1:decide (((A9 c:Nat):Int)<(((c.map Lt.cv).length:Nat):Int))=true:=decide_eq_true (by omega);refine aS (aR ?_);refine nc zl (nc zl (nc (zQ (E:=gJ w c (by omega))) (nc zl (nc zo (nc zi (nc zl (nc zq (nc zq (nc zq (nc zp (nc ze ?_)))))))))));exact aT (And.intro (.inr rfl) rfl)
theorem b6g {n:Nat} {c:CV} (h:Shp Tryz.prog n 4 c):∃ b,c = .b b:=by
 cases n with
 | zero=>exact h.elim
 | succ n =>
  rw [Shp,Tryz.underlying4] at h;exact h
theorem a9t {n:Nat} {c:CV} (h:Shp Tryz.prog n 22 c):∃ l:List Lt,c = .lst (l.map Lt.cv)/\okC l:=by
 cases n with
 | zero=>exact h.elim
 | succ n =>
  rw [Shp,Tryz.underlying22] at h;obtain ⟨l,rfl,hl⟩:=h;obtain ⟨m,h1,h2⟩:=a3k Lt.cv (fun l=>l.a.rng/\l.b.rng) (l:=l) (fun x hx=>by
   have hx:=hl x hx;cases n with
   | zero=>exact hx.elim
   | succ n =>
    have hx:Shp Tryz.prog (n+1) 52 x:=hx;rw [Shp,Tryz.underlying52] at hx;obtain ⟨l,rfl,hl,hf⟩:=hx
    match l,hl with
    | [x,y,z],_ =>
     obtain ⟨b,rfl⟩:=b6g (hf 0 _ x rfl rfl);obtain ⟨t,rfl,ht⟩:=b1G n (hf 1 _ y rfl rfl);obtain ⟨u,rfl,hu⟩:=b1G n (hf 2 _ z rfl rfl);exact ⟨⟨b,t,u⟩,rfl,ht,hu⟩)
  exact ⟨m,by rw [h1],h2⟩
end Go.Proofs.YteegmcfobgpemaaGreat
