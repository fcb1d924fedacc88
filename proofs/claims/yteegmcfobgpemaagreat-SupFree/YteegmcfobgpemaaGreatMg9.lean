/-
 KbFns KbFns2 KbFns3 KbFns4 OrFns1 ClMath OrFns2 ClLen TmAlive TmAb6 ClTaut
-/
import Derived.Test.YteegmcfobgpemaaGreatMg8
import Derived.Test.YteegmcfobgpemaaGreatMg3
import Derived.Test.YteegmcfobgpemaaGreatMg5
import Derived.Test.YteegmcfobgpemaaGreatMg4
import Derived.Test.YteegmcfobgpemaaGreatMg2
namespace Go.Proofs.YteegmcfobgpemaaGreat
open List (append_nil flatMap_cons getElem?_eq_getElem length_append length_cons length_drop length_map length_nil map_cons map_drop map_nil map_take mem_of_getElem? mem_of_mem_drop replicate_zero take_length)
open Go.RowKit
set_option linter.unusedVariables false
set_option linter.unusedSimpArgs false
set_option maxRecDepth 100000
noncomputable def mrv(p:Int×Int):CV:=.row [.i p.1,.i p.2]
theorem a1C(l:List (Int×Int)):A5 .i64 (l.map mrv):=λr hr=>by
 obtain⟨p,_,rfl⟩:=List.mem_map.1 hr;exact⟨p.1,.i p.2,rfl⟩
theorem c1x(l:List (Int×Int))(v:Int):G4 .i64 v (l.map mrv)=(C4 l v).map CV.i:=by
 induction l with
 | nil=>rfl
 | cons p l ih =>
  obtain⟨k,x⟩:=p;rw[map_cons,mrv,R9,C4];split
  ·rfl
  ·exact ih
theorem c2O(l:List (Int×Int))(v:Int):(G4 .i64 v (l.map mrv)).getD (.sc (.int .i64 0))=.i (E9 l v):=by
 rw[c1x];unfold E9;cases C4 l v<;>rfl
theorem b9v(l:List (Int×Int))(v y:Int):a3p .i64 v (.i y) (l.map mrv)=(X6 l v y).map mrv:=by
 induction l with
 | nil=>rfl
 | cons p l ih =>
  obtain⟨k,x⟩:=p;rw[map_cons,mrv,a5P,X6];split
  ·rfl
  ·rw[map_cons,ih];rfl
noncomputable def mB(l:List (Int×Int)):AV:=⟨if l=[]then 17 else 14,.lst (l.map mrv),0,0,[]⟩
noncomputable abbrev sst(s:Sc):AS:=[(450001,.obj),(35500100,.val (.i s.sz)),(35500101,.mref 300001),(35500102,.val (.i s.sp)),(35500103,.val (.i s.lk)),(300001,mB s.mp)]
noncomputable abbrev c4h(z p k:Int):AS:=[(450001,.obj),(35500100,.val (.i z)),(35500101,.mref 300001),(35500102,.val (.i p)),(35500103,.val (.i k)),(300001,.nmap)]
noncomputable abbrev c0w(z:Int)(l:List (Int×Int))(p k:Int):AS:=[(450001,.obj),(35500100,.val (.i z)),(35500101,.mref 300001),(35500102,.val (.i p)),(35500103,.val (.i k)),(300001,.mp (l.map mrv))]
theorem b6F{s:Sc}(h:s.mp=[]):sst s=c4h s.sz s.sp s.lk:=by simp only[sst,mB,h,if_true];rfl
theorem b6K{s:Sc}(h:s.mp≠[]):sst s=c0w s.sz s.mp s.sp s.lk:=by simp only[sst,mB,if_neg h]
theorem B2(s:Sc):(sst s).all F5=true:=by
 by_cases h:s.mp=[]
 ·rw[b6F h];kernel_rfl
 ·rw[b6K h];kernel_rfl
theorem w9(s:Sc):(sst s).all (G7 (kO (sst s)))=true:=by
 by_cases h:s.mp=[]
 ·rw[b6F h];kernel_rfl
 ·rw[b6K h];kernel_rfl
structure Bds(s:Sc)(n:Nat):Prop where
 sz : -(n:Int)<=s.sz/\s.sz<=n
 sp : -(n:Int)<=s.sp/\s.sp<=n
 lk : -(n:Int)<=s.lk/\s.lk<=n
 at_:∀v,-(n:Int)<=E9 s.mp v/\E9 s.mp v<=n
theorem Bds.node{s:Sc}{n:Nat}{σ:Int}(h:Bds s n)(hσ:σ=1\/σ = -1)(t:Tm):Bds (a8o σ s t) (n+1):=by
 obtain⟨h1,h2,h3,h4⟩:=h;unfold a8o;split
 ·unfold E5;have:=h4 (-1-t.f);refine⟨by show _<=s.sz+σ/\s.sz+σ<=_;omega,by simp only;omega,by simp only;omega,λv=>?_⟩;simp only;rw[b0T];have:=h4 v;split<;>omega
 ·exact⟨by show _<=s.sz+σ/\s.sz+σ<=_;omega,by simp only;omega,by simp only;omega,λv=>by have:=h4 v;simp only;omega⟩
theorem Bds.fold{σ:Int}(hσ:σ=1\/σ = -1):∀{l:List Tm} {s:Sc} {n:Nat},Bds s n->Bds (l.foldl (a8o σ) s) (n+l.length)
 | [],s,n,h=>h
 | t::l,s,n,h=>by
  rw[List.foldl_cons,length_cons,show n+(l.length+1)=n+1+l.length by omega];exact(h.node hσ t).fold hσ
theorem Bds.addL{σ:Int}(hσ:σ=1\/σ = -1){l:List Tm}{s:Sc}{n:Nat}(h:Bds s n):Bds (addL σ s l) (n+(l.flatMap Tm.flat).length):=h.fold hσ
theorem Bds.addT{σ:Int}(hσ:σ=1\/σ = -1){t:Tm}{s:Sc}{n:Nat}(h:Bds s n):Bds (addT σ s t) (n+t.size):=h.fold hσ
theorem N0(W:World)(t:Tm):AFun Tryz.prog W 146 [t.cw] (.val (.b (decide (t.f<0)))):=by
 refine b9 (rs:=[.b (decide (t.f<0))]) Tryz.func146 Tryz.ntmps146 rfl rfl rfl rfl ?_;intro w U hW;refine qz<|nc zd<|nc ze ?_;refine qz<|nc zg<|nc zh<|nc zi<|nc ze ?_;exact aT ⟨.inr rfl,rfl⟩
theorem b0d(W:World)(t:Tm)(h1 : -9223372036854775808<=t.f)(h2:t.f<0):AFun Tryz.prog W 148 [t.cw] (.val (.i (-1-t.f))):=by
 refine b9 (rs:=[.i (-1-t.f)]) Tryz.func148 Tryz.ntmps148 rfl rfl rfl rfl ?_;intro w U hW;refine qz<|nc zd<|nc ze ?_;refine qz<|nc zg<|nc zh<|nc zB<|nc ze ?_;exact aT ⟨.inr rfl,rfl⟩
theorem a3O(W:World)(t:Tm):AFun Tryz.prog W 113 [t.cw] (.val (.lst (t.ps.map Tm.cv))):=by
 refine b9 (rs:=[.lst (t.ps.map Tm.cv)]) Tryz.func113 Tryz.ntmps113 rfl rfl rfl rfl ?_;intro w U hW;refine qz<|nc zd<|nc ze ?_;refine aS<|qz<|nc zj<|nc (zk (z:=N0 w t)) ?_;refine aC rfl (λhc=>?_) (λhc=>?_)
 ·have hf:t.f<0:=by simpa using hc
  rw[Tm.ps_of_var hf];refine qz<|nc ze ?_;exact aT ⟨.inr rfl,rfl⟩
 ·have hf:¬ t.f<0:=by simpa using hc
  rw[Tm.ps_of_sym (by omega)];refine aK<|qz<|nc zg<|nc zh<|nc ze ?_;exact aT ⟨.inr rfl,rfl⟩
theorem a7O(s:Sc)(n:Nat)(hb:Bds s n)(hn:n<=1000000000000)(v σ:Int)(hσ:σ=1\/σ = -1)(hm:s.mp=[]):r8 Tryz.prog 147 (c4h s.sz s.sp s.lk) [.bp 350001 0 [],.val (.i v),.val (.i σ)] (.tup []) (c0w s.sz (E5 s v σ).mp (E5 s v σ).sp (E5 s v σ).lk):=by
 have gL:=hb.sp;have dY:=hb.lk;have eT:=hb.at_ v;have hg:E9 [] v=E9 s.mp v:=by rw[hm]
 obtain⟨was,eM⟩:∃was,was=E9 s.mp v:=⟨_,rfl⟩
 rw[<-eM]at eT;refine l6 Tryz.func147 Tryz.ntmps147 rfl rfl rfl rfl rfl rfl ?_;intro w U hU;refine aS<|qz<|nc zl<|nc z5<|nc zg<|nc z7<|nc zbo ?_;refine aC rfl (λhc=>?_) (λhc=>by cases hc);refine aR<|nc zl<|ne (zbp 300002)<|nc z5<|nc zg<|nc zbb ?_;refine qz<|nc zl<|nc z5<|nc zg<|nc z7<|nc zl<|nc (zbq (H :=  a1C []))<|nc ze ?_;refine AWp.wk (a7 (s':=[(0,AV.bp 350001 0 []),(1,.val (.i v)),(2,.val (.i σ)),(6,.val (.i was)),(450001,.obj),(35500100,.val (.i s.sz)),(35500101,.mref 300002),(35500102,.val (.i s.sp)),(35500103,.val (.i s.lk)),(300002,.mp (([]:List (Int×Int)).map mrv))]) ⟨rfl,rfl,rfl,?_,rfl,rfl,rfl,rfl,rfl,rfl,trivial⟩) ?_
 ·rw[eM,<-hg];rfl
 refine qz<|nc zl<|nc zl<|nc zA<|nc ze ?_;refine qz<|nc zl<|nc z5<|nc zg<|nc z7<|nc zl<|nc zl<|nc (zbf (G:=a1C [])) ?_;refine qz<|nc zl<|nc z5<|nc zg<|nc z7<|nc zl<|nc zK<|nc zl<|nc zK<|nc zB<|nc zA<|nc z5<|nc zg<|nc zbb ?_;refine aR<|nc zl<|nc z5<|nc zg<|nc z7<|nc zl<|nc zbr<|nc zK<|nc zl<|nc zbr<|nc zK<|nc zB<|nc zA<|nc z5<|nc zg<|nc zbb ?_;refine⟨.inl rfl,_,(a7 (s':=[(450001,.obj),(35500100,.val (.i s.sz)),(35500101,.mref 300002),(35500102,.val (.i (E5 s v σ).sp)),(35500103,.val (.i (E5 s v σ).lk)),(300002,.mp ((E5 s v σ).mp.map mrv))]) ⟨rfl,rfl,rfl,?_,?_,?_,trivial⟩).trans (B1 300002 300001 rfl rfl (by kernel_rfl) (by kernel_rfl)),rfl,rfl,rfl,rfl,rfl,rfl,rfl,trivial⟩
 ·unfold E5;rw[<-eM];rfl
 ·unfold E5;rw[<-eM];rfl
 ·unfold E5;simp only;rw[<-eM,hm,<-b9v];rfl
theorem a7Z(s:Sc)(n:Nat)(hb:Bds s n)(hn:n<=1000000000000)(v σ:Int)(hσ:σ=1\/σ = -1):r8 Tryz.prog 147 (c0w s.sz s.mp s.sp s.lk) [.bp 350001 0 [],.val (.i v),.val (.i σ)] (.tup []) (c0w s.sz (E5 s v σ).mp (E5 s v σ).sp (E5 s v σ).lk):=by
 have gL:=hb.sp;have dY:=hb.lk;have eT:=hb.at_ v;obtain⟨was,eM⟩:∃was,was=E9 s.mp v:=⟨_,rfl⟩
 rw[<-eM]at eT;refine l6 Tryz.func147 Tryz.ntmps147 rfl rfl rfl rfl rfl rfl ?_;intro w U hU;refine aS<|qz<|nc zl<|nc z5<|nc zg<|nc z7<|nc zbs ?_;refine aC rfl (λhc=>by cases hc) (λhc=>?_);refine aK<|qz<|nc zl<|nc z5<|nc zg<|nc z7<|nc zl<|nc (zbq (H :=  a1C _))<|nc ze ?_;refine AWp.wk (a7 (s':=[(0,AV.bp 350001 0 []),(1,.val (.i v)),(2,.val (.i σ)),(6,.val (.i was)),(450001,.obj),(35500100,.val (.i s.sz)),(35500101,.mref 300001),(35500102,.val (.i s.sp)),(35500103,.val (.i s.lk)),(300001,.mp (s.mp.map mrv))]) ⟨rfl,rfl,rfl,?_,rfl,rfl,rfl,rfl,rfl,rfl,trivial⟩) ?_
 ·rw[eM,<-c2O];rfl
 refine qz<|nc zl<|nc zl<|nc zA<|nc ze ?_;refine qz<|nc zl<|nc z5<|nc zg<|nc z7<|nc zl<|nc zl<|nc (zbf (G:=a1C _)) ?_;refine qz<|nc zl<|nc z5<|nc zg<|nc z7<|nc zl<|nc zK<|nc zl<|nc zK<|nc zB<|nc zA<|nc z5<|nc zg<|nc zbb ?_;refine aR<|nc zl<|nc z5<|nc zg<|nc z7<|nc zl<|nc zbr<|nc zK<|nc zl<|nc zbr<|nc zK<|nc zB<|nc zA<|nc z5<|nc zg<|nc zbb ?_;refine⟨.inl rfl,_,(a7 (s':=c0w s.sz (E5 s v σ).mp (E5 s v σ).sp (E5 s v σ).lk) ⟨rfl,rfl,rfl,?_,?_,?_,trivial⟩),rfl,rfl,rfl,rfl,rfl,rfl,rfl,trivial⟩
 ·unfold E5;rw[<-eM];rfl
 ·unfold E5;rw[<-eM];rfl
 ·unfold E5;simp only;rw[<-eM,<-b9v];rfl
theorem a9Z(s:Sc)(n:Nat)(hb:Bds s n)(hn:n<=1000000000000)(v σ:Int)(hσ:σ=1\/σ = -1):r8 Tryz.prog 147 (sst s) [.bp 350001 0 [],.val (.i v),.val (.i σ)] (.tup []) (sst (E5 s v σ)):=by
 rw[b6K (s:=E5 s v σ) (c0o _ _ _)];by_cases h:s.mp=[]
 ·rw[b6F h];exact a7O s n hb hn v σ hσ h
 ·rw[b6K h];exact a7Z s n hb hn v σ hσ
def c5l(σ:Int)(t:Tm):Prop:=∀(s:Sc) (n:Nat),Bds s n->n+t.size<=1000000000000->r8 Tryz.prog 114 (sst s) [.bp 350001 0 [],.val t.cw,.val (.i σ)] (.tup []) (sst (addT σ s t))
theorem a4I(σ:Int)(hσ:σ=1\/σ = -1)(l:List Tm)(hl:l.length<=1000000000000)(ih:∀t∈l,c5l σ t)(s:Sc)(n:Nat)(hb:Bds s n)(hn:n+(l.flatMap Tm.flat).length<=1000000000000):r8 Tryz.prog 117 (sst s) [.bp 350001 0 [],.val (.lst (l.map Tm.cv)),.val (.i σ)] (.tup []) (sst (addL σ s l)):=by
 have kC:=Tm.size_all l;refine l6 Tryz.func117 Tryz.ntmps117 rfl rfl rfl rfl rfl rfl ?_;intro w U hU;refine qz<|nc zl<|nc zo<|nc zl ?_;refine aB (n6 l.length (λk=>(0,.bp 350001 0 [])::(2,.val (.i σ))::(8,.val (.lst (l.map Tm.cv)))::(9,.val (.i (l.map Tm.cv).length))::(10,.val (.i k))::sst (addL σ s (l.take k))) (a7 ⟨rfl,rfl,rfl,rfl,rfl,rfl,rfl,rfl,rfl,rfl,rfl,trivial⟩) ?_);intro k hk;refine qz<|nc zi ?_;refine aS<|aC rfl (λkA=>?_) (λkA=>?_)
 ·have kE:k<l.length:=by simpa using kA
  obtain⟨x,hx⟩:∃x,l[k]?=some x:=⟨l[k],getElem?_eq_getElem kE⟩
  have kT:=Tm.map_at hx;have cQ:=mem_of_getElem? hx;obtain⟨sk,yL⟩:∃sk,sk=addL σ s (l.take k):=⟨_,rfl⟩
  have fG:Bds sk (n+((l.take k).flatMap Tm.flat).length):=by rw[yL];exact hb.addL hσ
  have oB:n+((l.take k).flatMap Tm.flat).length+x.size<=1000000000000:=by
   have h2:(l.flatMap Tm.flat).length=((l.take k).flatMap Tm.flat).length+((l.drop k).flatMap Tm.flat).length:=by
    conv=>lhs;rw[<-List.take_append_drop k l]
    rw[List.flatMap_append,length_append]
   have h3:x.flat.length<=((l.drop k).flatMap Tm.flat).length:=w7 Tm.flat (mem_of_getElem? (i:=0) (by rw[List.getElem?_drop];simpa using hx));unfold Tm.size;omega
  have kQ:=b6e (σ:=σ) (s:=s) hx;rw[<-yL]at kQ;rw[<-yL];refine aK<|aS<|aB<|qz<|nc (zt (j:=k) (H:=kT) (hz:=kC))<|nc zu<|ne zw<|nc zx ?_;refine aR<|nc zl<|nc zj<|nc zl<|nc (zW (z:=ih x cQ sk _ fG oB) (B:=B2 _) (C:=w9 _) (G:=i8 (by first | rfl | kernel_rfl))) ?_;refine aR<|nc zA<|nc zl ?_;refine⟨kE,a7 ⟨rfl,rfl,rfl,rfl,rfl,rfl,?_,rfl,?_,?_,?_,trivial⟩⟩
  all_goals (rw[kQ];rfl)
 ·have kE:k=l.length:=by
   have:¬ k<l.length:=by simpa using kA
   omega
  subst kE;rw[take_length];refine aE ?_;exact⟨.inl rfl,_,Wk.refl _,rfl,rfl,rfl,rfl,rfl,rfl,rfl,trivial⟩
theorem a0i(σ:Int)(hσ:σ=1\/σ = -1):∀t:Tm,t.rng->t.ok->c5l σ t:=by
 intro t
 induction t using Tm.ind with
 | h f l ih =>
 intro hr kH s n hb hn;have kH:=(Tm.ok_iff _).1 kH;have hr:=(Tm.rng_iff _).1 hr;simp only at kH hr;have kP:=hb.sz;have tP:=Tm.size_pos ⟨f,l⟩;refine l6 Tryz.func114 Tryz.ntmps114 rfl rfl rfl rfl rfl rfl ?_;intro w U hU;refine qz<|ne zd ?_;refine qz<|nc zl<|nc z5<|nc zg<|nc z7<|nc zl<|nc zA<|nc z5<|nc zg<|nc zbb ?_;obtain⟨s1,dG⟩:∃s1:Sc,s1=⟨s.sz+σ,s.mp,s.sp,s.lk⟩:=⟨_,rfl⟩
 have hb':Bds s1 (n+1):=by obtain⟨b1,b2,b3,b4⟩:=hb;rw[dG];exact⟨by show _<=s.sz+σ/\s.sz+σ<=_;omega,by simp only;omega,by simp only;omega,λv=>by have:=b4 v;simp only;omega⟩
 refine AWp.wk (a7 (s':=(0,AV.bp 350001 0 [])::(2,.val (.i σ))::(4,.bp 4 0 [])::(100004,.bx (Tm.cw ⟨f,l⟩))::sst s1) ⟨rfl,rfl,rfl,rfl,rfl,?_,rfl,?_,?_,?_,trivial⟩) ?_
 ·rw[dG];rfl
 ·rw[dG];rfl
 ·rw[dG];rfl
 ·rw[dG];rfl
 refine aS<|qz<|nc zj ?_;refine nc (zk (z:=N0 w ⟨f,l⟩)) ?_;refine aC rfl (λhc=>?_) (λhc=>?_)
 ·have hf:f<0:=by simpa using hc
  rw[b7O (t:=⟨f,l⟩) hf,<-dG];refine qz<|nc zl<|nc zj ?_;refine nc (zk (z:=b0d w ⟨f,l⟩ hr.1.1 hf)) ?_;refine nc zl<|nc (zW (z:=a9Z s1 (n+1) hb' (by omega) (-1-f) σ hσ) (B:=B2 _) (C:=w9 _) (G:=i8 (by first | rfl | kernel_rfl))) ?_;exact aT ⟨.inr rfl,_,Wk.refl _,rfl,rfl,rfl,rfl,rfl,rfl,rfl,trivial⟩
 ·have hf:¬ f<0:=by simpa using hc
  rw[b7z (t:=⟨f,l⟩) hf,<-dG];have hse:=Tm.size_eq ⟨f,l⟩;rw[Tm.ps_of_sym (t:=⟨f,l⟩) (by show 0<=f;omega)]at hse;simp only at hse;have kD:=Tm.len_ps ⟨f,l⟩;rw[Tm.ps_of_sym (t:=⟨f,l⟩) (by show 0<=f;omega)]at kD;simp only at kD;refine aK<|aR<|nc zl<|nc zg<|nc zh<|nc zl ?_;refine nc (zW (z:=a4I σ hσ l (by omega) (λt ht=>ih t ht (hr.2 t ht) (kH.2 t ht)) s1 (n+1) hb' (by omega)) (B:=B2 _) (C:=w9 _) (G:=i8 (by first | rfl | kernel_rfl))) ?_;exact⟨.inl rfl,_,Wk.refl _,rfl,rfl,rfl,rfl,rfl,rfl,rfl,trivial⟩
theorem a2Q(σ:Int)(hσ:σ=1\/σ = -1)(l:List Tm)(hl:l.length<=1000000000000)(hr:∀t∈l,t.rng/\t.ok)(s:Sc)(n:Nat)(hb:Bds s n)(hn:n+(l.flatMap Tm.flat).length<=1000000000000):r8 Tryz.prog 117 (sst s) [.bp 350001 0 [],.val (.lst (l.map Tm.cv)),.val (.i σ)] (.tup []) (sst (addL σ s l)):=
 a4I σ hσ l hl (λt ht=>a0i σ hσ t (hr t ht).1 (hr t ht).2) s n hb hn
def b6O(s:Sc)(w:Int):Int:=if s.sz≠0 then G2 s.sz 0 else w
def vdS(s:Sc)(w:Int):Int:=if(b6O s w=1/\0<s.lk)\/(b6O s w = -1/\0<s.sp)then 2 else b6O s w
theorem T8(s:Sc)(x:Int):r8 Tryz.prog 115 (sst s) [.bp 350001 0 [],.val (.i x)] (.val (.i (vdS s x))) (sst s):=by
 refine l6 Tryz.func115 Tryz.ntmps115 rfl rfl rfl rfl rfl rfl ?_;intro w U hU;refine qz<|nc ze ?_;refine qz<|nc zl<|nc ze ?_;refine b3H ((0,AV.bp 350001 0 [])::(5,.val (.i (b6O s x)))::sst s) ?_ ?_
 ·unfold b6O;refine qz<|nc zl<|nc z5<|nc zg<|nc z7<|nc z8 ?_;refine aC rfl (λhc=>?_) (λhc=>?_)
  ·have h:s.sz≠0:=by simpa using hc
   rw[if_pos h];refine aR<|nc zl<|nc z5<|nc zg<|nc z7<|nc (zk (z:=a4X w s.sz 0))<|nc ze ?_;exact a7 ⟨rfl,rfl,rfl,rfl,rfl,rfl,rfl,rfl,trivial⟩
  ·have h:¬ s.sz≠0:=by simpa using hc
   rw[if_neg h];refine aK ?_;exact a7 ⟨rfl,rfl,rfl,rfl,rfl,rfl,rfl,rfl,trivial⟩
 unfold vdS;generalize b6O s x=o;by_cases h1:o=1
 ·subst h1;by_cases h2:0<s.lk
  ·have g:decide (s.lk>0)=true:=by simpa using h2
   rw[if_pos (.inl ⟨rfl,h2⟩)];refine aS<|qz<|nc zl<|nc zD<|nc zl<|nc (zl (p:=gb))<|nc (z5 (r:=gb))<|nc (zg (r:=gb))<|nc (z7 (r:=gb))<|nc (zN (r:=gb))<|nc zp<|nc zl<|nc zbt<|nc zbt<|nc zbt<|nc (zbt (p:=a0e rfl rfl rfl rfl))<|nc (zbt (p:=a0e rfl rfl rfl rfl))<|nc (zbt (p:=a0e rfl rfl rfl rfl))<|nc (zbt (p:=a0e rfl rfl rfl rfl))<|nc (zbt (p:=a0e rfl rfl rfl rfl))<|nc zbt<|nc zp ?_;refine aC rfl (λhc=>?_) (λhc=>by cases hc);refine qz<|nc ze ?_;exact aT ⟨.inr rfl,_,Wk.refl _,rfl,rfl,rfl,rfl,rfl,rfl,rfl,trivial⟩
  ·have g:decide (s.lk>0)=false:=by simpa using h2
   rw[if_neg (by omega)];refine aS<|qz<|nc zl<|nc zD<|nc zl<|nc (zl (p:=gb))<|nc (z5 (r:=gb))<|nc (zg (r:=gb))<|nc (z7 (r:=gb))<|nc (zN (r:=gb))<|nc zp<|nc zl<|nc (zl (p:=gb))<|nc (zD (r:=gb))<|nc (zl (p:=gb))<|nc zbt<|nc zbt<|nc zbt<|nc zbt<|nc zbt<|nc (zr (r:=gb))<|nc zr ?_;refine aC rfl (λhc=>by cases hc) (λhc=>aK ?_);refine qz<|nc zl<|nc ze ?_;exact aT ⟨.inr rfl,_,Wk.refl _,rfl,rfl,rfl,rfl,rfl,rfl,rfl,trivial⟩
 ·have g1:decide (o=1)=false:=by simpa using h1
  by_cases h2:o = -1
  ·subst h2;by_cases h3:0<s.sp
   ·have g:decide (s.sp>0)=true:=by simpa using h3
    rw[if_pos (.inr ⟨rfl,h3⟩)];refine aS<|qz<|nc zl<|nc zD<|nc zl<|nc zbt<|nc zbt<|nc zbt<|nc zbt<|nc zbt<|nc zr<|nc zl<|nc (zl (p:=gb))<|nc (zD (r:=gb))<|nc (zl (p:=gb))<|nc (zl (p:=gb))<|nc (z5 (r:=gb))<|nc (zg (r:=gb))<|nc (z7 (r:=gb))<|nc (zN (r:=gb))<|nc (zp (r:=gb))<|nc zr ?_;refine aC rfl (λhc=>?_) (λhc=>by rw[g]at hc;cases hc);refine qz<|nc ze ?_;exact aT ⟨.inr rfl,_,Wk.refl _,rfl,rfl,rfl,rfl,rfl,rfl,rfl,trivial⟩
   ·have g:decide (s.sp>0)=false:=by simpa using h3
    rw[if_neg (by omega)];refine aS<|qz<|nc zl<|nc zD<|nc zl<|nc zbt<|nc zbt<|nc zbt<|nc zbt<|nc zbt<|nc zr<|nc zl<|nc (zl (p:=gb))<|nc (zD (r:=gb))<|nc (zl (p:=gb))<|nc (zl (p:=gb))<|nc (z5 (r:=gb))<|nc (zg (r:=gb))<|nc (z7 (r:=gb))<|nc (zN (r:=gb))<|nc (zp (r:=gb))<|nc zr ?_;refine aC rfl (λhc=>by rw[g]at hc;cases hc) (λhc=>aK ?_);refine qz<|nc zl<|nc ze ?_;exact aT ⟨.inr rfl,_,Wk.refl _,rfl,rfl,rfl,rfl,rfl,rfl,rfl,trivial⟩
  ·have g2:decide (o = -1)=false:=by simpa using h2
   rw[if_neg (by omega)];refine aS<|qz<|nc zl<|nc zD<|nc zl<|nc zbt<|nc zbt<|nc zbt<|nc zbt<|nc zbt<|nc zr<|nc zl<|nc (zl (p:=gb))<|nc (zD (r:=gb))<|nc (zl (p:=gb))<|nc zbt<|nc zbt<|nc zbt<|nc zbt<|nc zbt<|nc (zr (r:=gb))<|nc zr ?_;refine aC rfl (λhc=>by cases hc) (λhc=>aK ?_);refine qz<|nc zl<|nc ze ?_;exact aT ⟨.inr rfl,_,Wk.refl _,rfl,rfl,rfl,rfl,rfl,rfl,rfl,trivial⟩
def orL:List Int->Int
 | []=>0
 | x::l=>if x≠0 then x else orL l
theorem b9K:∀{l:List Int} {k:Nat} {x:Int},l[k]?=some x->x≠0->(∀j y,j<k->l[j]?=some y->y=0)->orL l=x
 | [],k,x,h,_,_=>by simp at h
 | y::l,0,x,h,hx,_=>by
  simp at h;subst h;rw[orL,if_pos hx]
 | y::l,k+1,x,h,hx,hi=>by
  rw[orL,if_neg (by have:=hi 0 y (by omega) rfl;omega)];exact b9K (by simpa using h) hx λj z hj hz=>hi (j+1) z (by omega) (by simpa using hz)
theorem b0x:∀{l:List Int},(∀x∈l,x=0)->orL l=0
 | [],_=>rfl
 | x::l,h=>by
  rw[orL,if_neg (by have:=h x (by simp);omega)];exact b0x λy hy=>h y (List.mem_cons_of_mem _ hy)
theorem c1C(W:World)(l:List Int)(hl:l.length<=1000000000):AFun Tryz.prog W 149 [.lst (l.map CV.i)] (.val (.i (orL l))):=by
 have kC:=n8 l;refine b9 (rs:=[.i (orL l)]) Tryz.func149 Tryz.ntmps149 rfl rfl rfl rfl ?_;intro w U hW;refine qz<|nc ze ?_;refine qz<|nc ze ?_;refine aS<|qz<|nc zl<|nc zo<|nc zl ?_;refine aB (B6 l.length (λk=>∀j y,j<k->l[j]?=some y->y=0) (λk=>[(3,.val (.i 0)),(6,.val (.lst (l.map CV.i))),(7,.val (.i (l.map CV.i).length)),(8,.val (.i k))]) (a7 ⟨rfl,rfl,rfl,rfl,trivial⟩) (λj c hj=>by omega) ?_);intro k hk hI;refine qz<|nc zi ?_;refine aS<|aC rfl (λkA=>?_) (λkA=>?_)
 ·have kE:k<l.length:=by simpa using kA
  obtain⟨x,hx⟩:∃x,l[k]?=some x:=⟨l[k],getElem?_eq_getElem kE⟩
  have kT:(l.map CV.i)[k]?=some (CV.i x):=by rw[List.getElem?_map,hx];rfl
  refine aK<|aS<|aB<|qz<|nc (zt (j:=k) (H:=kT) (hz:=kC))<|nc zu<|nc ze ?_;refine qz<|nc zl<|nc zl<|nc z8 ?_;refine aC rfl (λhq=>?_) (λhq=>?_)
  ·have hq:x≠0:=by simpa using hq
   refine qz<|nc zl<|nc ze ?_;rw[b9K hx hq hI];exact aT ⟨.inr rfl,rfl⟩
  ·have hq:x=0:=by simpa using hq
   refine aK<|aR<|nc zA<|nc zl ?_;refine⟨kE,λj c hj hc=>?_,a7 ⟨rfl,rfl,rfl,rfl,trivial⟩⟩;rcases Nat.lt_or_ge j k with h | h
   ·exact hI j c h hc
   ·have:j=k:=by omega
    subst this;rw[hx]at hc;cases hc;exact hq
 ·have kE:¬ k<l.length:=by simpa using kA
  rw[b0x (l:=l) λx hx=>?_]
  ·refine aE<|qz<|nc zl<|nc ze ?_;exact aT ⟨.inr rfl,rfl⟩
  ·obtain⟨j,hj⟩:=List.getElem?_of_mem hx;have gI:j<l.length:=by
    rcases Nat.lt_or_ge j l.length with h | h
    ·exact h
    ·rw[List.getElem?_eq_none h]at hj;cases hj
   exact hI j x (by omega) hj
theorem c4B{a b:Tm}(h:¬ (a.f<0\/b.f<0)):hdK a b=orL [G2 a.f b.f,G2 a.l.length b.l.length]:=by
 unfold hdK;rw[if_neg h];simp only[orL];rcases p7 a.f b.f with h1 | h1 | h1
 ·rw[if_pos (by omega),if_pos (by omega)]
 ·rw[if_neg (by omega),if_neg (by omega)];split
  ·rfl
  ·omega
 ·rw[if_pos (by omega),if_pos (by omega)]
theorem a4N(W:World)(a b:Tm):AFun Tryz.prog W 116 [a.cw,b.cw] (.val (.i (hdK a b))):=by
 refine b9 (rs:=[.i (hdK a b)]) Tryz.func116 Tryz.ntmps116 rfl rfl rfl rfl ?_;intro w U hW;refine qz<|nc zd<|nc zd<|nc ze ?_;by_cases ha:a.f<0
 ·have g:decide (a.f<0)=true:=by simpa using ha
  refine aS<|qz<|nc zj<|nc (zk (z:=N0 w a))<|nc zl<|nc zq<|nc zq<|nc zp ?_;refine aC rfl (λhc=>?_) (λhc=>by cases hc);unfold hdK;rw[if_pos (.inl ha)];refine qz<|nc ze ?_;exact aT ⟨.inr rfl,rfl⟩
 have g:decide (a.f<0)=false:=by simpa using ha
 refine aS<|qz<|nc zj<|nc (zk (z:=N0 w a))<|nc zl<|nc (zj (p:=gb))<|nc (zk (p:=gb) (z:=N0 w b))<|nc zr ?_;refine aC rfl (λhc=>?_) (λhc=>?_)
 ·have hb:b.f<0:=by simpa using hc
  unfold hdK;rw[if_pos (.inr hb)];refine qz<|nc ze ?_;exact aT ⟨.inr rfl,rfl⟩
 ·have hb:¬ b.f<0:=by simpa using hc
  rw[c4B (by omega)];have e1:(a.l.map Tm.cv).length=a.l.length:=length_map ..;have e2:(b.l.map Tm.cv).length=b.l.length:=length_map ..;refine aK<|aS<|aD (by kernel_rfl) (by kernel_rfl) ?_;refine nc zg<|nc zh<|nc zg<|nc zh<|nc (zk (z:=a4X w a.f b.f))<|nc zg<|nc zh<|nc zo<|nc zg<|nc zh<|nc zo<|nc (zk (z:=a4X w _ _))<|nc zy<|nc (zk (z:=c1C w [_,_] (by simp)))<|nc ze ?_;refine⟨by kernel_rfl,?_⟩;rw[e1,e2];exact aT ⟨.inr rfl,rfl⟩
def emp:Sc:=⟨0,[],0,0⟩
noncomputable def a9p(c:Int)(s:Sc)(l m:List Tm)(r:Sc):Sc:=if c≠0 then addL (-1) (addL 1 s l) m else r
noncomputable def scS(p:Tm):Tm->Sc:=
 Tm.rec (motive_1:=λ_=>Tm->Sc) (motive_2:=λ_=>List Tm->Sc)
  (λf l ih t=>if f≠t.f\/(Tm.mk f l).ps.length≠t.ps.length then addT (-1) (addT 1 emp ⟨f,l⟩) t else if f<0 then emp else ih t.l)
  (λ_=>emp)
  (λx l ih1 ih2 ts=>match ts with | []=>emp | t::ts=>a9p (kb x t) (ih1 t) l ts (ih2 ts)) p
noncomputable def scs(ps:List Tm):List Tm->Sc:=
 Tm.rec_1 (motive_1:=λ_=>Tm->Sc) (motive_2:=λ_=>List Tm->Sc)
  (λf l ih t=>if f≠t.f\/(Tm.mk f l).ps.length≠t.ps.length then addT (-1) (addT 1 emp ⟨f,l⟩) t else if f<0 then emp else ih t.l)
  (λ_=>emp)
  (λx l ih1 ih2 ts=>match ts with | []=>emp | t::ts=>a9p (kb x t) (ih1 t) l ts (ih2 ts)) ps
theorem c0q(m:List Tm):scs [] m=emp:=rfl
theorem a5r(x:Tm)(l:List Tm)(y:Tm)(m:List Tm):scs (x::l) (y::m)=a9p (kb x y) (scS x y) l m (scs l m):=rfl
theorem b3e{a b:Tm}(h:a.f≠b.f\/a.ps.length≠b.ps.length):scS a b=addT (-1) (addT 1 emp a) b:=by
 cases a;show(if _ then _ else _)=_;rw[if_pos h]
theorem b3h{a b:Tm}(h:¬ (a.f≠b.f\/a.ps.length≠b.ps.length)):scS a b=scs a.ps b.ps:=by
 cases a with
 | mk f l =>
  show(if _ then _ else _)=_;rw[if_neg h];by_cases hf:f<0
  ·rw[if_pos hf,Tm.ps_of_var (t:=⟨f,l⟩) hf,c0q]
  ·rw[if_neg hf,Tm.ps_of_sym (t:=⟨f,l⟩) (by show 0<=f;omega),Tm.ps_of_sym (t:=b) (by have:=Classical.not_not.1 (λe=>h (.inl e));simp only at this;omega)];rfl
theorem b3n:∀{l m:List Tm} {k:Nat} {x y:Tm},l[k]?=some x->m[k]?=some y->kb x y≠0->(∀j u v,j<k->l[j]?=some u->m[j]?=some v->kb u v=0)->scs l m=addL (-1) (addL 1 (scS x y) (l.drop (k+1))) (m.drop (k+1))/\kbs l m=kb x y
 | [],_,k,x,y,h,_,_,_=>by simp at h
 | _::_,[],k,x,y,_,h,_,_=>by simp at h
 | u::l,v::m,0,x,y,h1,h2,kF,_=>by
  simp at h1 h2;subst h1;subst h2;rw[a5r,B9];unfold a9p Q0;rw[if_pos kF,if_pos kF];exact⟨rfl,rfl⟩
 | u::l,v::m,k+1,x,y,h1,h2,kF,hi=>by
  have h0:=hi 0 u v (by omega) rfl rfl;rw[a5r,B9];unfold a9p Q0;rw[if_neg (by omega),if_neg (by omega)];exact b3n (by simpa using h1) (by simpa using h2) kF λj u v hj hu hv=>hi (j+1) u v (by omega) (by simpa using hu) (by simpa using hv)
theorem a5M:∀{l m:List Tm},(∀(j:Nat) u v,l[j]?=some u->m[j]?=some v->kb u v=0)->scs l m=emp/\kbs l m=0
 | [],_,_=>⟨rfl,rfl⟩
 | _::_,[],_=>⟨rfl,rfl⟩
 | u::l,v::m,hi=>by
  have h0:=hi 0 u v rfl rfl;rw[a5r,B9];unfold a9p Q0;rw[if_neg (by omega),if_neg (by omega)];exact a5M λj u v hu hv=>hi (j+1) u v (by simpa using hu) (by simpa using hv)
theorem emp_ss:Ss emp 0 λ_=>0:=⟨rfl,by simp[ndk,emp],rfl,rfl,λ_=>rfl⟩
theorem emp_bds:Bds emp 0:=⟨by simp[emp],by simp[emp],by simp[emp],λ_=>by simp[emp,E9,C4]⟩
def vD(a b:Tm)(v:Int):Int:=(a.vs.count v:Int)-b.vs.count v
theorem b0v:∀(l m:List Tm),l.length=m.length->(∃(k:Nat) (x y:Tm),l[k]?=some x/\m[k]?=some y/\kb x y≠0/\∀(j:Nat) u v,j<k->l[j]?=some u->m[j]?=some v->kb u v=0)\/∀(j:Nat) u v,l[j]?=some u->m[j]?=some v->kb u v=0
 | [],_,_ => .inr λj u v h=>by simp at h
 | _::_,[],h=>by simp at h
 | u::l,v::m,h=>by
  by_cases h0:kb u v=0
  ·rcases b0v l m (by simpa using h) with⟨k,x,y,h1,h2,h3,h4⟩ | h1
   ·left;refine⟨k+1,x,y,by simpa using h1,by simpa using h2,h3,λj u' v' hj hu hv=>?_⟩;cases j with
    | zero=>simp at hu hv;subst hu;subst hv;exact h0
    | succ j=>exact h4 j u' v' (by omega) (by simpa using hu) (by simpa using hv)
   ·right;intro j u' v' hu hv;cases j with
    | zero=>simp at hu hv;subst hu;subst hv;exact h0
    | succ j=>exact h1 j u' v' (by simpa using hu) (by simpa using hv)
  ·left;exact⟨0,u,v,rfl,rfl,h0,λj u v hj=>by omega⟩
theorem a1p:∀{l m:List Tm} {k:Nat},k<=l.length->l.length=m.length->(∀j u v,j<k->l[j]?=some u->m[j]?=some v->kb u v=0)->((l.take k).flatMap Tm.flat).length=((m.take k).flatMap Tm.flat).length/\(l.take k).flatMap Tm.vs=(m.take k).flatMap Tm.vs
 | _,_,0,_,_,_=>by simp
 | [],_,k+1,h,_,_=>by simp at h
 | _::_,[],k+1,_,h,_=>by simp at h
 | u::l,v::m,k+1,h,hl,hi=>by
  have h0:=(J3 u v).1 (hi 0 u v (by omega) rfl rfl);obtain⟨h1,h2⟩:=a1p (l:=l) (m:=m) (k:=k) (by simpa using h) (by simpa using hl) λj u v hj hu hv=>hi (j+1) u v (by omega) (by simpa using hu) (by simpa using hv);have h3:u.flat.length=v.flat.length:=by have:=congrArg Tm.size h0;rw[Tm.strip_size,Tm.strip_size]at this;exact this
  have h4:u.vs=v.vs:=by have:=congrArg Tm.vs h0;rw[Tm.strip_vs,Tm.strip_vs]at this;exact this
  rw[List.take_succ_cons,List.take_succ_cons,flatMap_cons,flatMap_cons,flatMap_cons,flatMap_cons,length_append,length_append,h1,h2,h3,h4];exact⟨rfl,rfl⟩
theorem a0w{l:List Tm}{k:Nat}{x:Tm}(h:l[k]?=some x):(l.flatMap Tm.flat).length=((l.take k).flatMap Tm.flat).length+(x.size+((l.drop (k+1)).flatMap Tm.flat).length)/\∀v,(l.flatMap Tm.vs).count v=((l.take k).flatMap Tm.vs).count v+(x.vs.count v+((l.drop (k+1)).flatMap Tm.vs).count v):=by
 obtain⟨h1,_⟩:=b1C h;constructor
 ·conv=>lhs;rw[h1]
  rw[List.flatMap_append,flatMap_cons,length_append,length_append];rfl
 ·intro v
  conv=>lhs;rw[h1]
  rw[List.flatMap_append,flatMap_cons,List.count_append,List.count_append]
theorem b0l(a:Tm):∀b,Bds (scS a b) (a.size+b.size)/\(kb a b=0->scS a b=emp)/\(kb a b≠0->Ss (scS a b) (szD a b) (vD a b)):=by
 induction a using Tm.indp with
 | h a ih =>
  intro b;by_cases h:a.f≠b.f\/a.ps.length≠b.ps.length
  ·rw[b3e h];have h1:Bds (addT (-1) (addT 1 emp a) b) (0+a.size+b.size):=(emp_bds.addT (.inl rfl)).addT (.inr rfl);refine⟨by rw[Nat.zero_add]at h1;exact h1,λh2=>?_,λ_=>?_⟩
   ·rw[P8,B7]at h2;unfold wi at h2;rw[if_pos h]at h2;exact absurd h2 (b6G h)
   ·have h2:=(emp_ss.fold (σ:=1) (l:=a.flat)).fold (σ := -1) (l:=b.flat);refine⟨?_,h2.nd,h2.sp,h2.lk,λv=>?_⟩
    ·refine h2.sz.trans ?_;unfold szD Tm.size;omega
    ·refine(h2.at_ v).trans ?_;unfold vD Tm.vs;omega
  ·rw[b3h h];have hw:wi a b=kbs a.ps b.ps:=by unfold wi;rw[if_neg h]
   have cZ:a.ps.length=b.ps.length:=by omega
   rcases b0v a.ps b.ps cZ with⟨k,x,y,h1,h2,h3,h4⟩ | h1
   ·obtain⟨e1,e2⟩:=b3n h1 h2 h3 h4;obtain⟨b1,b2,b3⟩:=ih x (mem_of_getElem? h1) y;have hk:k<a.ps.length:=by
     rcases Nat.lt_or_ge k a.ps.length with h | h
     ·exact h
     ·rw[List.getElem?_eq_none h]at h1;cases h1
    obtain⟨v1,v2⟩:=a1p (Nat.le_of_lt hk) cZ h4;obtain⟨l1,l2⟩:=a0w h1;obtain⟨m1,m2⟩:=a0w h2;have sa:=a.size_eq;have sb:=b.size_eq;rw[e1];refine⟨?_,λh5=>?_,λh5=>?_⟩
    ·have hB:=((b1.addL (.inl rfl) (l:=a.ps.drop (k+1))).addL (.inr rfl) (l:=b.ps.drop (k+1)))
     obtain⟨q1,q2,q3,q4⟩:=hB;exact⟨by omega,by omega,by omega,λv=>by have:=q4 v;omega⟩
    ·rw[P8,B7,hw,e2]at h5;exact absurd h5 h3
    ·have h6:=((b3 h3).fold (σ:=1) (l:=(a.ps.drop (k+1)).flatMap Tm.flat)).fold (σ := -1) (l:=(b.ps.drop (k+1)).flatMap Tm.flat);refine⟨?_,h6.nd,h6.sp,h6.lk,λv=>?_⟩
     ·refine h6.sz.trans ?_;unfold szD;omega
     ·refine(h6.at_ v).trans ?_;rw[Z0,Z0];have p1:=l2 v;have p2:=m2 v;rw[<-v2]at p2;have hf:a.f=b.f:=by omega
      have ha:a.vs=a.ps.flatMap Tm.vs:=by
       by_cases hv:a.f<0
       ·rw[Tm.ps_of_var hv]at hk;simp at hk
       ·rw[Tm.vs_sym hv,Tm.ps_of_sym (by omega)]
      have hb:b.vs=b.ps.flatMap Tm.vs:=by
       by_cases hv:b.f<0
       ·rw[Tm.ps_of_var (t:=a) (by omega)]at hk;simp at hk
       ·rw[Tm.vs_sym hv,Tm.ps_of_sym (by omega)]
      unfold vD;rw[ha,hb];omega
   ·obtain⟨e1,e2⟩:=a5M h1;rw[e1];refine⟨?_,λ_=>rfl,λh5=>?_⟩
    ·obtain⟨q1,q2,q3,q4⟩:=emp_bds;exact⟨by omega,by omega,by omega,λv=>by have:=q4 v;omega⟩
    ·exfalso;apply h5;rw[P8,B7,hw,e2]
theorem b6S(z w:Int):(if z≠0 then G2 z 0 else w)=b4C z w:=by
 unfold b4C;rcases p7 z 0 with h | h | h
 ·rw[if_pos (by omega),if_neg (by omega),if_pos (by omega),h.1]
 ·rw[if_neg (by omega),if_neg (by omega),if_neg (by omega)]
 ·rw[if_pos (by omega),if_pos (by omega),h.1]
theorem b4e{s:Sc}{a b:Tm}(h:Ss s (szD a b) (vD a b)){w:Int}(hw:w≠0):vdS s w=a1o (szD a b) (cov a b) (cov b a) w:=by
 have h1:0<s.lk↔¬ cov a b:=by
  obtain⟨d1,d2⟩:=b7o h.nd;rw[h.lk];have:dnS s.mp=0↔cov a b:=by
   rw[d2];unfold cov;constructor
   ·intro h2 v;have:=h2 v;rw[h.at_]at this;unfold vD at this;omega
   ·intro h2 v;have:=h2 v;rw[h.at_];unfold vD;omega
  rw[<-this];omega
 have h2:0<s.sp↔¬ cov b a:=by
  obtain⟨d1,d2⟩:=b7X h.nd;rw[h.sp];have:upS s.mp=0↔cov b a:=by
   rw[d2];unfold cov;constructor
   ·intro h2 v;have:=h2 v;rw[h.at_]at this;unfold vD at this;omega
   ·intro h2 v;have:=h2 v;rw[h.at_];unfold vD;omega
  rw[<-this];omega
 unfold vdS a1o b9P b6O;rw[if_neg hw,h.sz,b6S];by_cases h3:(b4C (szD a b) w=1/\¬ cov a b)\/(b4C (szD a b) w = -1/\¬ cov b a)
 ·rw[if_pos h3,if_pos (by rw[h1,h2];exact h3)]
 ·rw[if_neg h3,if_neg (by rw[h1,h2];exact h3)]
set_option maxHeartbeats 1000000 in
theorem a7W:∀a:Tm,a.rng->a.ok->a.size<=100000000000->∀b:Tm,b.rng->b.ok->b.size<=100000000000->r8 Tryz.prog 87 (sst emp) [.bp 350001 0 [],.val a.cw,.val b.cw] (.val (.i (kb a b))) (sst (scS a b)):=by
 intro a
 induction a using Tm.indp with
 | h a ih =>
 intro hr kH has b cM jZ eG;have qT:=(Tm.ok_iff _).1 kH;have hr':=(Tm.rng_iff _).1 hr;have rP:=(Tm.ok_iff _).1 jZ;have xN:=(Tm.rng_iff _).1 cM;have kC:=Tm.size_all a.ps;have jP:=Tm.size_all b.ps;have el:(a.ps.map Tm.cv).length=a.ps.length:=length_map ..;have el2:(b.ps.map Tm.cv).length=b.ps.length:=length_map ..;have hla:=a.len_ps;have uX:=b.len_ps;obtain⟨S,hS⟩:∃S,S=scS a b:=⟨_,rfl⟩
 obtain⟨sp1,sp2,sp3⟩:=b0l a b;refine l6 Tryz.func87 Tryz.ntmps87 rfl rfl rfl rfl rfl rfl ?_;intro w U hU;refine qz<|nc zd<|nc zd<|nc ze ?_;refine aS<|aD (by kernel_rfl) (by kernel_rfl) ?_;refine nc zj<|nc (zk (z:=a3O w a))<|nc zj<|nc (zk (z:=a3O w b))<|nc ze<|nc ze ?_;refine⟨by kernel_rfl,?_⟩;refine AWp.wk (a7 (s':=(0,AV.bp 350001 0 [])::(4,.bp 4 0 [])::(100004,.bx a.cw)::(5,.bp 5 0 [])::(100005,.bx b.cw)::(7,.val (.lst (a.ps.map Tm.cv)))::(8,.val (.lst (b.ps.map Tm.cv)))::sst emp) ⟨rfl,rfl,rfl,rfl,rfl,rfl,rfl,rfl,rfl,rfl,rfl,rfl,rfl,trivial⟩) ?_;by_cases h:a.f≠b.f\/a.ps.length≠b.ps.length
 case pos =>
  have hw:wi a b=hdK a b:=by unfold wi;rw[if_pos h]
  have pB:kb a b≠0:=by rw[P8,ne_eq,B7,hw];exact b6G h
  have jR:vdS (addT (-1) (addT 1 emp a) b) (hdK a b)=kb a b:=by have:=b4e (w:=hdK a b) (by have:=sp3 pB;rw[b3e h]at this;exact this) (b6G h);rw[this,P8,hw]
  rw[b3e h];by_cases hf:a.f≠b.f
  ·have g:decide (a.f≠b.f)=true:=by simpa using hf
   refine aS<|qz<|nc zg<|nc zh<|nc zg<|nc zh<|nc z8<|nc zl<|nc zq<|nc zq<|nc zq<|nc zq<|nc zq<|nc zp ?_;refine aC rfl (λhc=>?_) (λhc=>by cases hc);refine qz<|nc zl<|nc zj<|nc (zW (z:=a0i 1 (.inl rfl) a hr kH emp 0 emp_bds (by omega)) (B:=B2 _) (C:=w9 _) (G:=i8 (by first | rfl | kernel_rfl))) ?_;refine qz<|nc zl<|nc zj<|nc (zW (z:=a0i (-1) (.inr rfl) b cM jZ (addT 1 emp a) (0+a.size) (emp_bds.addT (.inl rfl)) (by omega)) (B:=B2 _) (C:=w9 _) (G:=i8 (by first | rfl | kernel_rfl))) ?_;refine qz<|nc zl<|nc zj<|nc zj<|nc (zk (z:=a4N w a b))<|nc (zW (z:=T8 (addT (-1) (addT 1 emp a) b) (hdK a b)) (B:=B2 _) (C:=w9 _) (G:=i8 (by first | rfl | kernel_rfl)))<|nc ze ?_;rw[jR];exact aT ⟨.inr rfl,_,Wk.refl _,rfl,rfl,rfl,rfl,rfl,rfl,rfl,trivial⟩
  ·have g:decide (a.f≠b.f)=false:=by simpa using hf
   refine aS<|qz<|nc zg<|nc zh<|nc zg<|nc zh<|nc z8<|nc zl<|nc (zl (p:=gb))<|nc (zo (r:=gb))<|nc (zl (p:=gb))<|nc (zo (r:=gb))<|nc (z8 (r:=gb))<|nc zr ?_;refine aC rfl (λhc=>?_) (λhc=>?_)
   case refine_2 =>
    exfalso;have hc:=of_decide_eq_false hc;simp only[length_map,ne_eq,Decidable.not_not]at hc;omega
   refine qz<|nc zl<|nc zj<|nc (zW (z:=a0i 1 (.inl rfl) a hr kH emp 0 emp_bds (by omega)) (B:=B2 _) (C:=w9 _) (G:=i8 (by first | rfl | kernel_rfl))) ?_;refine qz<|nc zl<|nc zj<|nc (zW (z:=a0i (-1) (.inr rfl) b cM jZ (addT 1 emp a) (0+a.size) (emp_bds.addT (.inl rfl)) (by omega)) (B:=B2 _) (C:=w9 _) (G:=i8 (by first | rfl | kernel_rfl))) ?_;refine qz<|nc zl<|nc zj<|nc zj<|nc (zk (z:=a4N w a b))<|nc (zW (z:=T8 (addT (-1) (addT 1 emp a) b) (hdK a b)) (B:=B2 _) (C:=w9 _) (G:=i8 (by first | rfl | kernel_rfl)))<|nc ze ?_;rw[jR];exact aT ⟨.inr rfl,_,Wk.refl _,rfl,rfl,rfl,rfl,rfl,rfl,rfl,trivial⟩
 case neg =>
  have hf:a.f=b.f:=by omega
  have cZ:a.ps.length=b.ps.length:=by omega
  have hw:wi a b=kbs a.ps b.ps:=by unfold wi;rw[if_neg h]
  have g:decide (a.f≠b.f)=false:=by simpa using hf
  refine aS<|qz<|nc zg<|nc zh<|nc zg<|nc zh<|nc z8<|nc zl<|nc (zl (p:=gb))<|nc (zo (r:=gb))<|nc (zl (p:=gb))<|nc (zo (r:=gb))<|nc (z8 (r:=gb))<|nc zr ?_;refine aC rfl (λhc=>?_) (λhc=>?_)
  ·exfalso;have hc:=of_decide_eq_true hc;simp only[length_map,ne_eq]at hc;omega
  refine aK<|aS<|qz<|nc zl<|nc zo<|nc zl ?_;refine aB (B6 a.ps.length (λk=>∀(j:Nat) u v,j<k->a.ps[j]?=some u->b.ps[j]?=some v->kb u v=0) (λk=>(0,.bp 350001 0 [])::(7,.val (.lst (a.ps.map Tm.cv)))::(8,.val (.lst (b.ps.map Tm.cv)))::(39,.val (.i (a.ps.map Tm.cv).length))::(40,.val (.i k))::sst emp) (a7 ⟨rfl,rfl,rfl,rfl,rfl,rfl,rfl,rfl,rfl,rfl,rfl,trivial⟩) (λj u v hj=>by omega) ?_);intro k hk hI;refine qz<|nc zi ?_;refine aS<|aC rfl (λkA=>?_) (λkA=>?_)
  ·have kE:k<a.ps.length:=by simpa using kA
   obtain⟨x,hx⟩:∃x,a.ps[k]?=some x:=⟨a.ps[k],getElem?_eq_getElem kE⟩
   obtain⟨y,hy⟩:∃y,b.ps[k]?=some y:=⟨b.ps[k]'(by omega),getElem?_eq_getElem (by omega)⟩
   have kT:=Tm.map_at hx;have dW:=Tm.map_at hy;have cQ:=mem_of_getElem? hx;have oQ:=mem_of_getElem? hy;have eV:=Tm.size_part cQ;have fS:=Tm.size_part oQ;have hrec:=ih x cQ (hr'.2 x (Tm.ps_mem cQ).1) (qT.2 x (Tm.ps_mem cQ).1) (by omega) y (xN.2 y (Tm.ps_mem oQ).1) (rP.2 y (Tm.ps_mem oQ).1) (by omega);obtain⟨q1,q2,q3⟩:=b0l x y;refine aK<|aS<|aB<|qz<|nc zl<|nc ze ?_;refine aS<|aD (by kernel_rfl) (by kernel_rfl) ?_;refine nc zl<|nc zl<|nc zl<|nc (zt (j:=k) (H:=kT) (hz:=kC))<|nc zu<|nc zl<|nc zl<|nc (zt (j:=k) (H:=dW) (hz:=jP))<|nc zu<|nc (zW (z:=hrec) (B:=B2 _) (C:=w9 _) (G:=i8 (by first | rfl | kernel_rfl)))<|nc ze ?_;refine⟨by kernel_rfl,?_⟩;refine qz<|nc zl<|nc z8 ?_;refine aC rfl (λhc=>?_) (λhc=>?_)
   ·have kF:kb x y≠0:=by simpa using hc
    obtain⟨e1,e2⟩:=b3n hx hy kF hI;have pB:kb a b≠0:=by rw[P8,ne_eq,B7,hw,e2];exact kF
    obtain⟨l1,l2⟩:=a0w hx;obtain⟨m1,m2⟩:=a0w hy;have sa:=a.size_eq;have sb:=b.size_eq;have hA:∀t∈a.ps.drop (k+1),t.rng/\t.ok:=λt ht=>⟨hr'.2 t (Tm.ps_mem (mem_of_mem_drop ht)).1,qT.2 t (Tm.ps_mem (mem_of_mem_drop ht)).1⟩
    have hB:∀t∈b.ps.drop (k+1),t.rng/\t.ok:=λt ht=>⟨xN.2 t (Tm.ps_mem (mem_of_mem_drop ht)).1,rP.2 t (Tm.ps_mem (mem_of_mem_drop ht)).1⟩
    have c1:=a2Q 1 (.inl rfl) (a.ps.drop (k+1)) (by rw[length_drop];omega) hA (scS x y) (x.size+y.size) q1 (by omega);have b1:=q1.addL (σ:=1) (.inl rfl) (l:=a.ps.drop (k+1));have c2:=a2Q (-1) (.inr rfl) (b.ps.drop (k+1)) (by rw[length_drop];omega) hB _ _ b1 (by omega);rw[map_drop]at c1 c2;have jR:vdS (addL (-1) (addL 1 (scS x y) (a.ps.drop (k+1))) (b.ps.drop (k+1))) (kb x y)=kb a b:=by have:=b4e (w:=kb x y) (by have:=sp3 pB;rw[b3h h,e1]at this;exact this) kF;rw[this,P8 a b,hw,e2]
    refine qz<|nc zl<|nc zl<|nc zl<|nc zA<|nc (zbu (lo:=k+1))<|nc (zW (z:=c1) (B:=B2 _) (C:=w9 _) (G:=i8 (by first | rfl | kernel_rfl))) ?_;refine qz<|nc zl<|nc zl<|nc zl<|nc zA<|nc (zbu (lo:=k+1))<|nc (zW (z:=c2) (B:=B2 _) (C:=w9 _) (G:=i8 (by first | rfl | kernel_rfl))) ?_;refine qz<|nc zl<|nc zl<|nc (zW (z:=T8 _ (kb x y)) (B:=B2 _) (C:=w9 _) (G:=i8 (by first | rfl | kernel_rfl)))<|nc ze ?_;rw[jR,b3h h,e1];exact aT ⟨.inr rfl,_,Wk.refl _,rfl,rfl,rfl,rfl,rfl,rfl,rfl,trivial⟩
   ·have h0:kb x y=0:=by simpa using hc
    rw[q2 h0];refine aK<|aR<|nc zA<|nc zl ?_;refine⟨kE,λj u v hj hu hv=>?_,a7 ⟨rfl,rfl,rfl,rfl,rfl,rfl,rfl,rfl,rfl,rfl,rfl,trivial⟩⟩;rcases Nat.lt_or_ge j k with h | h
    ·exact hI j u v h hu hv
    ·have:j=k:=by omega
     subst this;rw[hx]at hu;rw[hy]at hv;cases hu;cases hv;exact h0
  ·have kE:k=a.ps.length:=by
    have:¬ k<a.ps.length:=by simpa using kA
    omega
   subst kE;obtain⟨e1,e2⟩:=a5M (l:=a.ps) (m:=b.ps) λj u v hu hv=>hI j u v (by
    rcases Nat.lt_or_ge j a.ps.length with h | h
    ·exact h
    ·rw[List.getElem?_eq_none h]at hu;cases hu) hu hv
   have h0:kb a b=0:=by rw[P8,B7,hw,e2]
   rw[h0,sp2 h0];refine aE<|qz<|nc ze ?_;exact aT ⟨.inr rfl,_,Wk.refl _,rfl,rfl,rfl,rfl,rfl,rfl,rfl,trivial⟩
theorem c3U:sst emp=c4h 0 0 0:=b6F rfl
theorem b0S(W:World)(a b:Tm)(hr:a.rng)(kH:a.ok)(hs:a.size<=100000000000)(cM:b.rng)(jZ:b.ok)(eG:b.size<=100000000000):AFun Tryz.prog W 62 [a.cw,b.cw] (.val (.i (kb a b))):=by
 have hc:=a7W a hr kH hs b cM jZ eG;rw[c3U]at hc;refine b9 (rs:=[.i (kb a b)]) Tryz.func62 Tryz.ntmps62 rfl rfl rfl rfl ?_;intro w U hW;refine qz<|nc zd<|nc zd<|nc ze ?_;refine qz<|nc (zbv 350001 (hnf:=λv h=>by first | (rw[hW.1]at h;cases h) | (have h2:=hU _ v h;cases h2))) ?_;refine AWp.wk ((a7 (s':=[(2,AV.bp 2 0 []),(100002,.bx a.cw),(3,.bp 3 0 []),(100003,.bx b.cw),(5,.bp 350001 0 []),(450001,.obj),(35500100,.val (.i 0)),(35500101,.val (.sc (.map none))),(35500102,.val (.i 0)),(35500103,.val (.i 0))]) ⟨rfl,rfl,rfl,rfl,rfl,by kernel_rfl,by kernel_rfl,by kernel_rfl,by kernel_rfl,by kernel_rfl,trivial⟩).trans (c0l 35500101 300001 rfl rfl rfl (by kernel_rfl) (by kernel_rfl))) ?_;refine qz<|nc zj<|nc zj<|nc (zW (z:=hc) (B:=by kernel_rfl) (C:=w9 _) (G:=i8 (by first | rfl | kernel_rfl)))<|nc ze ?_;exact aT ⟨.inr rfl,rfl⟩
theorem a7S(W:World)(a b:Tm)(hr:a.rng)(kH:a.ok)(hs:a.size<=100000000000)(cM:b.rng)(jZ:b.ok)(eG:b.size<=100000000000):AFun Tryz.prog W 170 [a.cw,b.cw] (.val (.b (decide (kb a b=1)))):=by
 refine b9 (rs:=[.b (decide (kb a b=1))]) Tryz.func170 Tryz.ntmps170 rfl rfl rfl rfl ?_;intro w U hW;refine qz<|nc zd<|nc zd<|nc ze ?_;refine qz<|nc zj<|nc zj<|nc (zk (z:=b0S w a b hr kH hs cM jZ eG))<|nc zD<|nc ze ?_;exact aT ⟨.inr rfl,rfl⟩
def zTm:Tm:=⟨0,[]⟩
theorem b3Z(a:List Tm)(k i:Nat)(hi:i<a.length) :
  (((a++List.replicate k zTm).map Tm.cv).take i++((((a++List.replicate k zTm).map Tm.cv).drop (i+1)).take (a.length-(i+1))++((a++List.replicate k zTm).map Tm.cv).drop (i+(a.length-(i+1))))).take (a.length-1)++(List.replicate (a.length-(a.length-1)) zTm.cv++(((a++List.replicate k zTm).map Tm.cv).take i++((((a++List.replicate k zTm).map Tm.cv).drop (i+1)).take (a.length-(i+1))++((a++List.replicate k zTm).map Tm.cv).drop (i+(a.length-(i+1))))).drop (a.length-1+(a.length-(a.length-1))))=(a.eraseIdx i++List.replicate (k+1) zTm).map Tm.cv:=by
 have e1:((a++List.replicate k zTm).map Tm.cv).take i=(a.take i).map Tm.cv:=by rw[<-map_take,List.take_append_of_le_length (by omega)]
 have e2:(((a++List.replicate k zTm).map Tm.cv).drop (i+1)).take (a.length-(i+1))=(a.drop (i+1)).map Tm.cv:=by rw[<-map_drop,<-map_take,List.drop_append_of_le_length (by omega),List.take_append_of_le_length (by rw[length_drop];exact Nat.le_refl _),List.take_of_length_le (by rw[length_drop];exact Nat.le_refl _)]
 obtain⟨E,hE⟩:∃E,E=(a.eraseIdx i).map Tm.cv:=⟨_,rfl⟩
 have hEl:E.length=a.length-1:=by rw[hE,length_map,List.length_eraseIdx_of_lt hi]
 have e3:(a.take i).map Tm.cv++((a.drop (i+1)).map Tm.cv++((a++List.replicate k zTm).map Tm.cv).drop (i+(a.length-(i+1))))=E++((a++List.replicate k zTm).map Tm.cv).drop (a.length-1):=by rw[<-List.append_assoc,<-List.map_append,<-List.eraseIdx_eq_take_drop_succ,<-hE,show i+(a.length-(i+1))=a.length-1 by omega]
 rw[e1,e2,e3];have e4:a.length-(a.length-1)=1:=by omega
 have e5:a.length-1+1=a.length:=by omega
 have e7:(a.eraseIdx i++List.replicate (k+1) zTm).map Tm.cv=E++List.replicate (k+1) zTm.cv:=by rw[List.map_append,<-hE,List.map_replicate]
 rw[e4,e5,<-hEl,List.take_left,e7];have e6:(E++((a++List.replicate k zTm).map Tm.cv).drop E.length).drop a.length=List.replicate k zTm.cv:=by rw[List.drop_append,List.drop_eq_nil_of_le (by omega),List.nil_append,List.drop_drop,show E.length+(a.length-E.length)=a.length by omega,<-map_drop,List.drop_left,List.map_replicate]
 rw[e6,List.replicate_succ];rfl
theorem a8k(a:List Tm)(k:Nat):((a++List.replicate k zTm).map Tm.cv).take a.length=a.map Tm.cv:=by rw[<-map_take,List.take_left]
theorem b1A(W:World)(p:Tm->Bool)(fc:CV)(c:List Tm)(hl:c.length<=1000000)(hc:∀W,∀x∈c,P4 Tryz.prog W fc [x.cw] (.val (.b (p x)))):AFun Tryz.prog W 166 [.lst (c.map Tm.cv),fc] (.val (.i (match c.findIdx? p with | some i=>(i:Int) | none => -1))):=by
 have kC:=Tm.size_all c;obtain⟨R,hR⟩:∃R:Int,R=match c.findIdx? p with | some i=>(i:Int) | none => -1:=⟨_,rfl⟩
 rw[<-hR];refine b9 (rs:=[.i R]) Tryz.func166 Tryz.ntmps166 rfl rfl rfl rfl ?_;intro w U hW;refine qz<|nc ze ?_;refine aS<|qz<|nc zl<|nc zo<|nc zl ?_;refine aB (B6 c.length (λk=>∀x∈c.take k,p x=false) (λk=>[(0,.val (.lst (c.map Tm.cv))),(1,.val fc),(7,.val (.i (c.map Tm.cv).length)),(8,.val (.i k))]) (a7 ⟨rfl,rfl,rfl,rfl,trivial⟩) (by simp) ?_);intro k hk hI;refine qz<|nc zi ?_;refine aS<|aC rfl (λkA=>?_) (λkA=>?_)
 ·have kE:k<c.length:=by simpa using kA
  obtain⟨x,hx⟩:∃x,c[k]?=some x:=⟨c[k],getElem?_eq_getElem kE⟩
  have kT:=Tm.map_at hx;have cQ:=mem_of_getElem? hx;refine aK<|aS<|aB<|qz<|nc zl<|nc ze ?_;refine qz<|nc zl<|nc zl<|nc zl<|nc (zt (j:=k) (H:=kT) (hz:=kC))<|nc zu<|nc (zQ (E:=hc w x cQ)) ?_;refine aC rfl (λhp=>?_) (λhp=>?_)
  ·have iN:R=k:=by
    rw[hR];have:c.findIdx? p=some k:=by rw[List.findIdx?_eq_some_iff_getElem];obtain⟨gY,e⟩:=List.getElem?_eq_some_iff.1 hx;refine⟨gY,by rw[e];exact hp,λj hj=>?_⟩;have:=hI c[j] (List.mem_take_iff_getElem.2 ⟨j,by omega,rfl⟩);simpa using this
    rw[this]
   rw[iN];refine qz<|nc zl<|nc ze ?_;exact aT (And.intro (.inr rfl) rfl)
  ·refine aK<|aR<|nc zA<|nc zl ?_;refine⟨kE,?_,a7 ⟨rfl,rfl,rfl,rfl,trivial⟩⟩;intro y hy;rw[List.take_add_one,hx,List.mem_append]at hy;rcases hy with hy | hy
   ·exact hI y hy
   ·simp at hy;rw[hy];exact hp
 ·have kE:k=c.length:=by
   have:¬ k<c.length:=by simpa using kA
   omega
  subst kE;rw[take_length]at hI;have hRn:R = -1:=by rw[hR,List.findIdx?_eq_none_iff.2 λx hx=>by rw[hI x hx]]
  rw[hRn];refine aE<|qz<|nc ze ?_;exact aT (And.intro (.inr rfl) rfl)
theorem b1a(W:World)(p:Tm->Bool)(fc:CV)(c:List Tm)(hl:c.length<=1000000)(hc:∀W,∀x∈c,P4 Tryz.prog W fc [x.cw] (.val (.b (p x)))):AFun Tryz.prog W 145 [.lst (c.map Tm.cv),fc] (.val (.b (c.any p))):=by
 have e:decide ((match c.findIdx? p with | some i=>(i:Int) | none => -1)>=0)=c.any p:=by
  cases h:c.findIdx? p with
  | none =>
   have h1:=List.findIdx?_eq_none_iff.1 h;have:c.any p=false:=by rw[List.any_eq_false];intro x hx;rw[h1 x hx];simp
   rw[this];rfl
  | some i =>
   obtain⟨hi,hp,_⟩:=List.findIdx?_eq_some_iff_getElem.1 h;have:c.any p=true:=List.any_eq_true.2 ⟨_,List.getElem_mem hi,hp⟩;rw[this];simp
 refine b9 (rs:=[.b (c.any p)]) Tryz.func145 Tryz.ntmps145 rfl rfl rfl rfl ?_;intro w U hW;refine qz<|nc ze ?_;refine qz<|nc zl<|nc zl<|nc (zk (z:=b1A w p fc c hl hc))<|nc zn<|nc ze ?_;rw[e];exact aT (And.intro (.inr rfl) rfl)
theorem a6n(a:List Tm)(k i:Nat)(hi:i<a.length)(hb:a.length+k<=1000000):r8 Tryz.prog 168 [(400001,.mrow 41 2 ((a++List.replicate k zTm).map Tm.cv))] [.sl 400001 0 a.length 2,.val (.i i),.val (.i ((i:Int)+1))] (.sl 400001 0 (a.length-1) 2) [(400001,.mrow 41 2 ((a.eraseIdx i++List.replicate (k+1) zTm).map Tm.cv))]:=by
 refine l6 Tryz.func168 Tryz.ntmps168 rfl rfl rfl rfl rfl rfl ?_;intro w U hU;obtain⟨l,hl⟩:∃l,l=(a++List.replicate k zTm).map Tm.cv:=⟨_,rfl⟩
 have cZ:l.length=a.length+k:=by rw[hl];simp
 rw[<-hl];refine qz<|nc ze ?_;refine qz<|nc zl<|nc zl<|nc zl<|nc zl<|nc zX<|nc (zbw (i) (i+1) (a.length)) ?_;refine aS<|qz<|nc zl<|nc zl<|nc zD ?_;refine aC rfl (λh=>?_) (λh=>?_)
 ·have h:decide ((i:Int)=(i:Int)+1)=true:=h;have:=of_decide_eq_true h;omega
 refine aK ?_;refine AWp.wk (a7 (s':=[(0,.sl 400001 0 a.length 2),(1,.val (.i i)),(2,.val (.i ((i:Int)+1))),(400001,.mrow 41 2 l)]) ⟨rfl,rfl,rfl,rfl,trivial⟩) ?_;refine qz<|nc zl<|nc zX<|nc ze ?_;refine aS<|aD (by kernel_rfl) (by kernel_rfl) ?_;refine nc zl<|nc zl<|nc (z3 (j:=i))<|nc zl<|nc zl<|nc (zY (j:=i+1))<|nc zbx<|nc ze ?_;refine⟨by kernel_rfl,?_⟩;obtain⟨r1,iP⟩:∃r1,r1=l.take i++((l.drop (0+(i+1))).take (a.length-(i+1))++l.drop (i+(a.length-(i+1)))):=⟨_,rfl⟩
 have hr1l:r1.length=l.length:=by rw[iP];simp only[length_append,List.length_take,length_drop];omega
 have e1:i+(a.length-(i+1))=a.length-1:=by omega
 refine AWp.wk (a7 (s':=[(0,.sl 400001 0 (a.length-1) 2),(7,.val (.i a.length)),(400001,.mrow 41 2 r1)]) ⟨by rw[<-e1];rfl,rfl,by rw[iP];rfl,trivial⟩) ?_;refine qz<|nc zl<|nc zl<|nc zX<|nc zl<|nc (zby (a.length-1) (a.length))<|nc z0 ?_;refine qz<|nc zl<|nc ze ?_;refine aT ⟨.inr rfl,_,Wk.refl _,rfl,?_,trivial⟩;show some (AV.mrow _ _ _)=some (AV.mrow _ _ _);have e2:=b3Z a k i hi;rw[<-hl]at e2;rw[<-e2,iP,Nat.zero_add];rfl
theorem a6b(a:List Tm)(k i:Nat)(hi:i<a.length)(hb:a.length+k<=1000000):r8 Tryz.prog 168 [(400002,.mrow 41 2 ((a++List.replicate k zTm).map Tm.cv))] [.sl 400002 0 a.length 2,.val (.i i),.val (.i ((i:Int)+1))] (.sl 400002 0 (a.length-1) 2) [(400002,.mrow 41 2 ((a.eraseIdx i++List.replicate (k+1) zTm).map Tm.cv))]:=by
 refine l6 Tryz.func168 Tryz.ntmps168 rfl rfl rfl rfl rfl rfl ?_;intro w U hU;obtain⟨l,hl⟩:∃l,l=(a++List.replicate k zTm).map Tm.cv:=⟨_,rfl⟩
 have cZ:l.length=a.length+k:=by rw[hl];simp
 rw[<-hl];refine qz<|nc ze ?_;refine qz<|nc zl<|nc zl<|nc zl<|nc zl<|nc zX<|nc (zbw (i) (i+1) (a.length)) ?_;refine aS<|qz<|nc zl<|nc zl<|nc zD ?_;refine aC rfl (λh=>?_) (λh=>?_)
 ·have h:decide ((i:Int)=(i:Int)+1)=true:=h;have:=of_decide_eq_true h;omega
 refine aK ?_;refine AWp.wk (a7 (s':=[(0,.sl 400002 0 a.length 2),(1,.val (.i i)),(2,.val (.i ((i:Int)+1))),(400002,.mrow 41 2 l)]) ⟨rfl,rfl,rfl,rfl,trivial⟩) ?_;refine qz<|nc zl<|nc zX<|nc ze ?_;refine aS<|aD (by kernel_rfl) (by kernel_rfl) ?_;refine nc zl<|nc zl<|nc (z3 (j:=i))<|nc zl<|nc zl<|nc (zY (j:=i+1))<|nc zbx<|nc ze ?_;refine⟨by kernel_rfl,?_⟩;obtain⟨r1,iP⟩:∃r1,r1=l.take i++((l.drop (0+(i+1))).take (a.length-(i+1))++l.drop (i+(a.length-(i+1)))):=⟨_,rfl⟩
 have hr1l:r1.length=l.length:=by rw[iP];simp only[length_append,List.length_take,length_drop];omega
 have e1:i+(a.length-(i+1))=a.length-1:=by omega
 refine AWp.wk (a7 (s':=[(0,.sl 400002 0 (a.length-1) 2),(7,.val (.i a.length)),(400002,.mrow 41 2 r1)]) ⟨by rw[<-e1];rfl,rfl,by rw[iP];rfl,trivial⟩) ?_;refine qz<|nc zl<|nc zl<|nc zX<|nc zl<|nc (zby (a.length-1) (a.length))<|nc z0 ?_;refine qz<|nc zl<|nc ze ?_;refine aT ⟨.inr rfl,_,Wk.refl _,rfl,?_,trivial⟩;show some (AV.mrow _ _ _)=some (AV.mrow _ _ _);have e2:=b3Z a k i hi;rw[<-hl]at e2;rw[<-e2,iP,Nat.zero_add];rfl
theorem b5B(W:World)(t u:Tm)(ht:t.rng)(hu:u.rng):AFun Tryz.prog W 167 [u.cw,.ptr t.cw] (.val (.b (y0 t u))):=by
 refine b9 (rs:=[.b (y0 t u)]) Tryz.func167 Tryz.ntmps167 rfl rfl rfl rfl ?_;intro w U hW;refine qz<|nc zd<|nc ze ?_;refine qz<|nc zI<|nc zj<|nc (zk (z:=b1E w ht hu))<|nc ze ?_;exact aT (And.intro (.inr rfl) rfl)
noncomputable def rwT(n:Nat)(a:List Tm)(k:Nat):Nat×AV:=(n,.mrow 41 2 ((a++List.replicate k zTm).map Tm.cv))
theorem a4u:∀(n:Nat) (a b:List Tm),(F4 n a b).1.length<=a.length/\(F4 n a b).2.length<=b.length
 | 0,a,b=>⟨Nat.le_refl _,Nat.le_refl _⟩
 | n+1,a,b=>by
  unfold F4;split
  ·exact a4u n a b
  ·split
   ·exact a4u n a b
   ·rename_i k hk;have h:=a4u n (a.eraseIdx n) (b.eraseIdx k);exact⟨Nat.le_trans h.1 (List.length_eraseIdx_le _ _),Nat.le_trans h.2 (List.length_eraseIdx_le _ _)⟩
theorem a4d:∀(n:Nat) (a b:List Tm),(∀t∈(F4 n a b).1,t∈a)/\∀t∈(F4 n a b).2,t∈b
 | 0,a,b=>⟨λ_ h=>h,λ_ h=>h⟩
 | n+1,a,b=>by
  unfold F4;split
  ·exact a4d n a b
  ·split
   ·exact a4d n a b
   ·rename_i k hk;have h:=a4d n (a.eraseIdx n) (b.eraseIdx k);exact⟨λt ht=>List.mem_of_mem_eraseIdx (h.1 t ht),λt ht=>List.mem_of_mem_eraseIdx (h.2 t ht)⟩
theorem b6T(a b:List Tm)(ha:∀t∈a,t.rng)(hb:∀t∈b,t.rng)(fJ:a.length<=100000)(jE:b.length<=100000) :
  a6z Tryz.prog 142 [rwT 400001 a 0,rwT 400002 b 0] 400001 400002 (λv1 v2=>[.val (.sc (O6 v1 a.length)),.val (.sc (O6 v2 b.length))]) (λv1 v2 => .tup [.sc (O6 v1 (F4 a.length a b).1.length),.sc (O6 v2 (F4 a.length a b).2.length)]) [rwT 400001 (F4 a.length a b).1 (a.length-(F4 a.length a b).1.length),rwT 400002 (F4 a.length a b).2 (b.length-(F4 a.length a b).2.length)]:=by
 refine a5v 2 400001 3 400002 Tryz.func142 Tryz.ntmps142 rfl rfl (λ_ _=>rfl) rfl rfl rfl rfl rfl ?_;intro v1 v2 w U hU;obtain⟨X,Y,uD⟩:∃X Y,F4 a.length a b=(X,Y):=⟨_,_,rfl⟩
 rw[uD];have hla:((a++List.replicate 0 zTm).map Tm.cv).length=a.length:=by simp
 have uX:((b++List.replicate 0 zTm).map Tm.cv).length=b.length:=by simp
 refine AWp.wk ((b4d 0 400001 2 a.length (e:=41) (z:=2) (l:=(a++List.replicate 0 zTm).map Tm.cv) rfl rfl rfl rfl (by omega)).trans ((b4d 1 400002 3 b.length (e:=41) (z:=2) (l:=(b++List.replicate 0 zTm).map Tm.cv) rfl rfl rfl rfl (by omega)).trans (a7 (s':=[(2,.hdl v1 400001),(3,.hdl v2 400002),(0,.sl 400001 0 a.length 2),(1,.sl 400002 0 b.length 2),rwT 400001 a 0,rwT 400002 b 0]) ⟨rfl,rfl,rfl,rfl,rfl,rfl,trivial⟩))) ?_;refine qz<|nc ze<|nc ze ?_;refine aS<|qz<|nc zl<|nc zX<|nc zB<|nc ze ?_
 let st:Nat->List Tm->List Tm->Nat->Nat->AS:=λm A B ka kb=>[(2,.hdl v1 400001),(3,.hdl v2 400002),(0,.sl 400001 0 A.length 2),(1,.sl 400002 0 B.length 2),(6,.val (.i ((m:Int)-1))),rwT 400001 A ka,rwT 400002 B kb]
 refine aB (w8 (λj s=>∃A B ka kb,F4 j A B=(X,Y)/\j<=A.length/\A.length+ka=a.length/\B.length+kb=b.length/\(∀t∈A,t.rng)/\(∀t∈B,t.rng)/\s=st j A B ka kb) (s':=st a.length a b 0 0) (a7 ⟨rfl,rfl,rfl,rfl,rfl,rfl,rfl,trivial⟩) ⟨a,b,0,0,uD,Nat.le_refl _,rfl,rfl,ha,hb,rfl⟩ ?_);rintro m s ⟨A,B,ka,kb,hc,hm,hka,hkb,hA,hB,rfl⟩;refine aS<|qz<|nc zl<|nc zn ?_;refine aC rfl (λkA=>?_) (λkA=>?_)
 ·have hm0:0<m:=by have h3:decide ((m:Int)-1>=0)=true:=kA;have:=of_decide_eq_true h3;omega
  obtain⟨m,rfl⟩:∃q,m=q+1:=⟨m-1,by omega⟩
  have aU:m<A.length:=by omega
  obtain⟨t,ht⟩:∃t,A[m]?=some t:=⟨A[m],getElem?_eq_getElem aU⟩
  have uK:t.rng:=hA t (mem_of_getElem? ht);have rG:((A++List.replicate ka zTm).map Tm.cv)[m]?=some t.cw:=Tm.map_at (by rw[List.getElem?_append_left aU];exact ht);have hlA:((A++List.replicate ka zTm).map Tm.cv).length=A.length+ka:=by simp
  have hlB:((B++List.replicate kb zTm).map Tm.cv).length=B.length+kb:=by simp
  obtain⟨lA,qV⟩:∃lA,lA=(A++List.replicate ka zTm).map Tm.cv:=⟨_,rfl⟩
  refine aK ?_;refine AWp.wk (a7 (s':=[(2,.hdl v1 400001),(3,.hdl v2 400002),(0,.sl 400001 0 A.length 2),(1,.sl 400002 0 B.length 2),(6,.val (.i (((m+1:Nat):Int)-1))),(400001,.mrow 41 2 lA),rwT 400002 B kb]) ⟨rfl,rfl,rfl,rfl,rfl,by rw[qV];rfl,rfl,trivial⟩) ?_;rw[<-qV]at rG hlA;refine aS<|aB<|qz<|nc zl<|nc zl<|nc (zO (k:=m))<|nc (zP (G:=rG))<|nc zw<|nc zx ?_;refine AWp.wk (q7 7 rfl rfl rfl (s':=[(2,.hdl v1 400001),(3,.hdl v2 400002),(0,.sl 400001 0 A.length 2),(1,.sl 400002 0 B.length 2),(6,.val (.i (((m+1:Nat):Int)-1))),(400001,.mrow 41 2 lA),rwT 400002 B kb]) ⟨rfl,rfl,rfl,rfl,rfl,rfl,rfl,trivial⟩ rfl rfl rfl) ?_;have hI:=b1A w (y0 t) (.fn 167 0 [.ptr t.cw]) B (by omega) (λw x hx => .inl ⟨_,_,_,rfl,b5B w t x uK (hB x hx)⟩);rw[<-a8k B kb]at hI;have cD:=b2u (e:=41) (z:=2) (nm:=400002) (N:=B.length) (by omega) (by omega) (by omega) hI;refine qz<|nc zl<|nc zG<|nc (zW (z:=cD) (G:=i8 (by first | rfl | kernel_rfl)))<|nc ze ?_;obtain⟨J,hJ⟩:∃J:Int,J=(match B.findIdx? (y0 t)with | some i=>(i:Int) | none => -1):=⟨_,rfl⟩
  refine AWp.wk (a7 (s':=[(2,.hdl v1 400001),(3,.hdl v2 400002),(0,.sl 400001 0 A.length 2),(1,.sl 400002 0 B.length 2),(6,.val (.i (((m+1:Nat):Int)-1))),(8,.val (.i J)),(400001,.mrow 41 2 lA),rwT 400002 B kb]) ⟨rfl,rfl,rfl,rfl,rfl,by rw[hJ];rfl,rfl,rfl,trivial⟩) ?_;refine qz<|nc zl<|nc zn ?_;unfold F4 at hc;rw[ht]at hc;simp only at hc;refine aC rfl (λhf=>?_) (λhf=>?_)
  ·have hf:decide (J>=0)=true:=hf;cases mI:B.findIdx? (y0 t)with
   | none=>rw[mI]at hJ;rw[hJ]at hf;simp at hf
   | some k =>
    rw[mI]at hJ hc;have hc:F4 m (A.eraseIdx m) (B.eraseIdx k)=(X,Y):=hc;obtain⟨kE,_,_⟩:=List.findIdx?_eq_some_iff_getElem.1 mI;refine AWp.wk (a7 (s':=[(2,.hdl v1 400001),(3,.hdl v2 400002),(0,.sl 400001 0 A.length 2),(1,.sl 400002 0 B.length 2),(6,.val (.i (m:Int))),(8,.val (.i (k:Int))),rwT 400001 A ka,rwT 400002 B kb]) ⟨rfl,rfl,rfl,rfl,?_,by rw[hJ];rfl,by rw[qV];rfl,rfl,trivial⟩) ?_
    ·show some (AV.val (.i (((m+1:Nat):Int)-1)))=some (AV.val (.i (m:Int)));rw[show((m+1:Nat):Int)-1=(m:Int) by omega]
    refine aR<|nc zl<|nc zl<|nc zl<|nc zA<|nc (zW (z:=a6n A ka m aU (by omega)) (G:=i8 (by first | rfl | kernel_rfl)))<|nc zl<|nc zl<|nc zl<|nc zA<|nc (zW (z:=a6b B kb k kE (by omega)) (G:=i8 (by first | rfl | kernel_rfl)))<|nc ze<|nc ze ?_;have hAe:(A.eraseIdx m).length=A.length-1:=List.length_eraseIdx_of_lt aU;have hBe:(B.eraseIdx k).length=B.length-1:=List.length_eraseIdx_of_lt kE;refine AWp.wk (a7 (s':=[(2,.hdl v1 400001),(3,.hdl v2 400002),(0,.sl 400001 0 (A.eraseIdx m).length 2),(1,.sl 400002 0 (B.eraseIdx k).length 2),(6,.val (.i (m:Int))),rwT 400001 (A.eraseIdx m) (ka+1),rwT 400002 (B.eraseIdx k) (kb+1)]) ⟨rfl,rfl,by rw[hAe];rfl,by rw[hBe];rfl,rfl,rfl,rfl,trivial⟩) ?_;refine aR<|nc zl<|nc zB<|nc ze ?_;refine⟨m,st m (A.eraseIdx m) (B.eraseIdx k) (ka+1) (kb+1),by omega,⟨_,_,_,_,hc,by omega,by omega,by omega,λt h=>hA t (List.mem_of_mem_eraseIdx h),λt h=>hB t (List.mem_of_mem_eraseIdx h),rfl⟩,a7 ⟨rfl,rfl,rfl,rfl,rfl,rfl,rfl,trivial⟩⟩
  ·have hf:decide (J>=0)=false:=hf;cases mI:B.findIdx? (y0 t)with
   | some k=>rw[mI]at hJ;rw[hJ]at hf;simp at hf
   | none =>
    rw[mI]at hc;have hc:F4 m A B=(X,Y):=hc;refine aK ?_;refine AWp.wk (a7 (s':=[(2,.hdl v1 400001),(3,.hdl v2 400002),(0,.sl 400001 0 A.length 2),(1,.sl 400002 0 B.length 2),(6,.val (.i (m:Int))),rwT 400001 A ka,rwT 400002 B kb]) ⟨rfl,rfl,rfl,rfl,?_,by rw[qV];rfl,rfl,trivial⟩) ?_
    ·show some (AV.val (.i (((m+1:Nat):Int)-1)))=some (AV.val (.i (m:Int)));rw[show((m+1:Nat):Int)-1=(m:Int) by omega]
    refine aR<|nc zl<|nc zB<|nc ze ?_;refine⟨m,st m A B ka kb,by omega,⟨_,_,_,_,hc,by omega,hka,hkb,hA,hB,rfl⟩,a7 ⟨rfl,rfl,rfl,rfl,rfl,rfl,rfl,trivial⟩⟩
 ·have hm0:m=0:=by have h3:decide ((m:Int)-1>=0)=false:=kA;have:=of_decide_eq_false h3;omega
  subst hm0;unfold F4 at hc;cases hc;have hkA:ka=a.length-X.length:=by omega
  have hkB:kb=b.length-Y.length:=by omega
  subst hkA hkB;refine aE<|qz<|nc zl<|nc zl<|nc ze<|nc ze ?_;refine aT ⟨.inr rfl,_,(a0J 4 400001 2 rfl rfl rfl).trans (a0J 5 400002 3 rfl rfl rfl),rfl,rfl,rfl,trivial⟩
structure Lt where
 neg:Bool
 a:Tm
 b:Tm
noncomputable abbrev Lt.cw(l:Lt):CV:=.row [.b l.neg,l.a.cw,l.b.cw]
noncomputable def Lt.cv(l:Lt):CV:=l.cw
theorem Lt.size_all(c:List Lt):∀x∈c.map Lt.cv,x.size=5:=by
 intro x hx;obtain⟨l,_,rfl⟩:=List.mem_map.1 hx;rfl
theorem Lt.map_at{c:List Lt}{i:Nat}{l:Lt}(h:c[i]?=some l):(c.map Lt.cv)[i]?=some l.cw:=by rw[List.getElem?_map,h];rfl
def Lt.strip(l:Lt):Lt:=⟨l.neg,l.a.strip,l.b.strip⟩
def Lt.rng(l:Lt):Prop:=l.a.rng/\l.b.rng
def Tm.fit(t:Tm):Prop:=t.rng/\t.ok/\t.size<=90000000000
theorem b8b(W:World)(t u:Tm)(ht:t.fit)(hu:u.fit):AFun Tryz.prog W 169 [u.cw,.ptr t.cw] (.val (.b (decide (kb u t=1)))):=by
 refine b9 (rs:=[.b (decide (kb u t=1))]) Tryz.func169 Tryz.ntmps169 rfl rfl rfl rfl ?_;intro w U hW;refine qz<|nc zd<|nc ze ?_;refine qz<|nc zj<|nc zI<|nc (zk (z:=a7S w u t hu.1 hu.2.1 (Nat.le_trans hu.2.2 (by omega)) ht.1 ht.2.1 (Nat.le_trans ht.2.2 (by omega))))<|nc ze ?_;exact aT (And.intro (.inr rfl) rfl)
theorem b6v(W:World)(t:Tm)(l:List Tm)(ht:t.fit)(hl:∀u∈l,u.fit)(hn:l.length<=100000):AFun Tryz.prog W 144 [t.cw,.lst (l.map Tm.cv)] (.val (.b (l.any λu=>decide (kb u t=1)))):=by
 refine b9 (rs:=[.b (l.any λu=>decide (kb u t=1))]) Tryz.func144 Tryz.ntmps144 rfl rfl rfl rfl ?_;intro w U hW;refine qz<|nc zd<|nc ze ?_;refine AWp.wk (q7 2 rfl rfl rfl (s':=[(1,.val (.lst (l.map Tm.cv)))]) ⟨rfl,trivial⟩ rfl rfl rfl) ?_;refine qz<|nc zl<|nc zG ?_;refine nc (zk (z:=b1a w (λu=>decide (kb u t=1)) (.fn 169 0 [.ptr t.cw]) l (by omega) (λw x hx => .inl ⟨_,_,_,rfl,b8b w t x ht (hl x hx)⟩))) ?_;refine nc ze ?_;exact aT (And.intro (.inr rfl) rfl)
theorem b8o(W:World)(t:Tm)(l:List Tm)(ht:t.fit)(hl:∀u∈l,u.fit)(hn:l.length<=100000):AFun Tryz.prog W 143 [t.cw,.ptr (.lst (l.map Tm.cv))] (.val (.b (!(l.any λu=>decide (kb u t=1))))):=by
 refine b9 (rs:=[.b (!(l.any λu=>decide (kb u t=1)))]) Tryz.func143 Tryz.ntmps143 rfl rfl rfl rfl ?_;intro w U hW;refine qz<|nc zd<|nc ze ?_;refine qz<|nc zj<|nc zI<|nc (zk (z:=b6v w t l ht hl hn))<|nc zZ<|nc ze ?_;exact aT (And.intro (.inr rfl) rfl)
theorem b8v(a b:List Tm)(ha:∀t∈a,t.fit)(hb:∀t∈b,t.fit)(fJ:a.length<=100000)(jE:b.length<=100000) :
  r8 Tryz.prog 111 [rwT 400001 a 0,rwT 400002 b 0] [.sl 400001 0 a.length 2,.sl 400002 0 b.length 2] (.val (.b (a4C a b))) [rwT 400001 (F4 a.length a b).1 (a.length-(F4 a.length a b).1.length),rwT 400002 (F4 a.length a b).2 (b.length-(F4 a.length a b).2.length)]:=by
 have hC:=b6T a b (λt h=>(ha t h).1) (λt h=>(hb t h).1) fJ jE;have eF:=a4u a.length a b;have mQ:=a4d a.length a b;have hmB:a4C a b=b1v (F4 a.length a b).1 (F4 a.length a b).2:=rfl;rw[hmB];obtain⟨X,Y,uD⟩:∃X Y,F4 a.length a b=(X,Y):=⟨_,_,rfl⟩
 rw[uD]at hC eF mQ |-;simp only at hC eF mQ |-;have hX:∀t∈X,t.fit:=λt h=>ha t (mQ.1 t h);have hY:∀t∈Y,t.fit:=λt h=>hb t (mQ.2 t h);refine l6 Tryz.func111 Tryz.ntmps111 rfl rfl rfl rfl rfl rfl ?_;intro w U hU;refine AWp.hdl 20 400001 rfl rfl rfl λv1=>?_;refine AWp.hdl 21 400002 rfl rfl rfl λv2=>?_;refine AWp.wk ((a0J 0 400001 20 rfl rfl rfl).trans ((a0J 1 400002 21 rfl rfl rfl).trans (a7 (s':=[(20,.hdl v1 400001),(21,.hdl v2 400002),(0,.val (.sc (O6 v1 a.length))),(1,.val (.sc (O6 v2 b.length))),rwT 400001 a 0,rwT 400002 b 0]) ⟨rfl,rfl,rfl,rfl,rfl,rfl,trivial⟩))) ?_;refine qz<|nc zd<|nc ze ?_;refine qz<|nc zj<|nc zl<|nc (zbz 20 21 (x:=hC) (hnb:=i8 (by first | rfl | kernel_rfl)))<|nc zl<|nc zE<|nc zE<|nc zx<|nc ze ?_;obtain⟨kx,oX⟩:∃kx,kx=a.length-X.length:=⟨_,rfl⟩
 obtain⟨ky,hky⟩:∃ky,ky=b.length-Y.length:=⟨_,rfl⟩
 rw[<-oX,<-hky];refine AWp.wk (a7 (s':=[(20,.hdl v1 400001),(21,.hdl v2 400002),(1,.val (.sc (O6 v2 Y.length))),(2,.bp 2 0 []),(100002,.bx (.sc (O6 v1 X.length))),rwT 400001 X kx,rwT 400002 Y ky]) ⟨rfl,rfl,rfl,rfl,rfl,rfl,rfl,trivial⟩) ?_;refine b8D (R:=λe=>e=.normal\/e=.ret) [(1,.lst (Y.map Tm.cv)),(2,.ptr (.lst (X.map Tm.cv)))] 4 (.bool (b1v X Y)) [rwT 400001 X kx,rwT 400002 Y ky] ?_ ?_ ⟨rfl,rfl,trivial⟩ rfl rfl rfl (λe he=>⟨he,_,Wk.refl _,rfl,rfl,rfl,trivial⟩)
 ·intro a w D hv h q hq;obtain⟨_,_,iP,fE⟩:∃u,a.tmps[20]?=some u/\RN 400001/\hv 400001=v1:=h.slot 20 _ rfl (by omega);obtain⟨_,_,jC,jN⟩:∃u,a.tmps[21]?=some u/\RN 400002/\hv 400002=v2:=h.slot 21 _ rfl (by omega);have w1:=h.view (n:=400001) (e:=41) (z:=2) (l:=(X++List.replicate kx zTm).map Tm.cv) (len:=X.length) rfl iP (by simp);have w2:=h.view (n:=400002) (e:=41) (z:=2) (l:=(Y++List.replicate ky zTm).map Tm.cv) (len:=Y.length) rfl jC (by simp);rw[a8k,fE]at w1;rw[a8k,jN]at w2;rcases List.mem_cons.1 hq with rfl | hq
  ·obtain⟨u,g1,g2⟩:=h.slot 1 _ rfl (by omega);obtain⟨rfl,_⟩:=o0.1 g2.1;exact⟨_,g1,w2⟩
  ·rcases List.mem_cons.1 hq with rfl | hq
   ·exact h.viewBox 2 rfl rfl (by omega) (by show(1:Nat)≠2;decide) w1
   ·cases hq
 ·intro w;have hW:Hw w w c4c:=⟨λ_=>rfl,λ_ h=>h⟩
  refine qz<|nc zG<|nc ze ?_;have hcon:=b1a w (λt=>!(X.any λu=>decide (kb u t=1))) (.fn 143 0 [.ptr (.lst (X.map Tm.cv))]) Y (by omega) (λw x hx => .inl ⟨_,_,_,rfl,b8o w x X (hY x hx) hX (by omega)⟩);by_cases hX0:0<X.length
  ·have g:decide (((X.map Tm.cv).length:Int)>0)=true:=by simp;omega
   have e:b1v X Y=!(Y.any λt=>!(X.any λu=>decide (kb u t=1))):=by unfold b1v;rw[decide_eq_true hX0,Bool.true_and]
   rw[e];refine qz<|nc zI<|nc zo<|nc zN<|nc zl<|nc (zl (p:=gb))<|nc (zl (p:=gb))<|nc (zk (p:=gb) (z:=hcon))<|nc (zZ (r:=gb))<|nc zp<|nc ze ?_;exact aT ⟨.inr rfl,rfl⟩
  ·have g:decide (((X.map Tm.cv).length:Int)>0)=false:=decide_eq_false (by rw[length_map];omega);have e:b1v X Y=false:=by unfold b1v;rw[decide_eq_false hX0,Bool.false_and]
   rw[e];refine qz<|nc zI<|nc zo<|nc zN<|nc zl<|nc zq<|nc zq<|nc zq<|nc zq<|nc zr<|nc ze ?_;exact aT ⟨.inr rfl,rfl⟩
def H6(l:Lt):List Tm:=if l.neg then[l.a,l.a,l.b,l.b] else[l.a,l.b]
theorem b0o{l:Lt}{p:Tm->Prop}(h:p l.a/\p l.b):∀t∈H6 l,p t:=by
 intro t ht;unfold H6 at ht;split at ht<;>simp at ht<;>rcases ht with rfl | rfl
 all_goals first | exact h.1 | exact h.2
theorem b1K(l:Lt):(H6 l).length<=4:=by unfold H6;split<;>simp
theorem a9E(l:Lt):r8 Tryz.prog 112 [] [.val l.cw] (.sl 400001 0 (H6 l).length 2) [rwT 400001 (H6 l) 0]:=by
 refine l6 Tryz.func112 Tryz.ntmps112 rfl rfl rfl rfl rfl rfl ?_;intro w U hU;have sX:U.f 400001=none:=by
  cases e:U.f 400001 with
  | none=>rfl
  | some v=>have:=hU _ v e;cases this
 have e1:l.a.cw=l.a.cv:=(Tm.cv_eq _).symm;have e2:l.b.cw=l.b.cv:=(Tm.cv_eq _).symm;refine qz<|nc zd<|nc ze ?_;refine aS<|qz<|nc zg<|nc zh ?_;refine aC rfl (λhc=>?_) (λhc=>?_)
 ·have e:H6 l=[l.a,l.a,l.b,l.b]:=by unfold H6;rw[if_pos hc]
  rw[e];refine qz<|nc zg<|nc zh<|nc zg<|nc zh<|nc zg<|nc zh<|nc zg<|nc zh<|nc (zbA 250007)<|nc ze ?_;refine aT ⟨.inr rfl,_,(a7 (s':=[(2,.sl 250007 0 4 2),(250007,.mrow 41 2 (([l.a,l.a,l.b,l.b]++List.replicate 0 zTm).map Tm.cv))]) ⟨rfl,?_,trivial⟩).trans (y6 250007 400001 rfl rfl sX rfl rfl rfl),rfl,rfl,trivial⟩;show some (AV.mrow _ _ _)=some (AV.mrow _ _ _);simp only[replicate_zero,append_nil,map_cons,map_nil,Tm.cv_eq];rfl
 ·have e:H6 l=[l.a,l.b]:=by unfold H6;rw[if_neg (by rw[hc];decide)]
  rw[e];refine aK<|qz<|nc zg<|nc zh<|nc zg<|nc zh<|nc (zbA 250007)<|nc ze ?_;refine aT ⟨.inr rfl,_,(a7 (s':=[(2,.sl 250007 0 2 2),(250007,.mrow 41 2 (([l.a,l.b]++List.replicate 0 zTm).map Tm.cv))]) ⟨rfl,?_,trivial⟩).trans (y6 250007 400001 rfl rfl sX rfl rfl rfl),rfl,rfl,trivial⟩;show some (AV.mrow _ _ _)=some (AV.mrow _ _ _);simp only[replicate_zero,append_nil,map_cons,map_nil,Tm.cv_eq];rfl
theorem a9D(l:Lt):r8 Tryz.prog 112 [] [.val l.cw] (.sl 400002 0 (H6 l).length 2) [rwT 400002 (H6 l) 0]:=by
 refine l6 Tryz.func112 Tryz.ntmps112 rfl rfl rfl rfl rfl rfl ?_;intro w U hU;have sX:U.f 400002=none:=by
  cases e:U.f 400002 with
  | none=>rfl
  | some v=>have:=hU _ v e;cases this
 have e1:l.a.cw=l.a.cv:=(Tm.cv_eq _).symm;have e2:l.b.cw=l.b.cv:=(Tm.cv_eq _).symm;refine qz<|nc zd<|nc ze ?_;refine aS<|qz<|nc zg<|nc zh ?_;refine aC rfl (λhc=>?_) (λhc=>?_)
 ·have e:H6 l=[l.a,l.a,l.b,l.b]:=by unfold H6;rw[if_pos hc]
  rw[e];refine qz<|nc zg<|nc zh<|nc zg<|nc zh<|nc zg<|nc zh<|nc zg<|nc zh<|nc (zbA 250007)<|nc ze ?_;refine aT ⟨.inr rfl,_,(a7 (s':=[(2,.sl 250007 0 4 2),(250007,.mrow 41 2 (([l.a,l.a,l.b,l.b]++List.replicate 0 zTm).map Tm.cv))]) ⟨rfl,?_,trivial⟩).trans (y6 250007 400002 rfl rfl sX rfl rfl rfl),rfl,rfl,trivial⟩;show some (AV.mrow _ _ _)=some (AV.mrow _ _ _);simp only[replicate_zero,append_nil,map_cons,map_nil,Tm.cv_eq];rfl
 ·have e:H6 l=[l.a,l.b]:=by unfold H6;rw[if_neg (by rw[hc];decide)]
  rw[e];refine aK<|qz<|nc zg<|nc zh<|nc zg<|nc zh<|nc (zbA 250007)<|nc ze ?_;refine aT ⟨.inr rfl,_,(a7 (s':=[(2,.sl 250007 0 2 2),(250007,.mrow 41 2 (([l.a,l.b]++List.replicate 0 zTm).map Tm.cv))]) ⟨rfl,?_,trivial⟩).trans (y6 250007 400002 rfl rfl sX rfl rfl rfl),rfl,rfl,trivial⟩;show some (AV.mrow _ _ _)=some (AV.mrow _ _ _);simp only[replicate_zero,append_nil,map_cons,map_nil,Tm.cv_eq];rfl
theorem c1s(W:World)(x y:Lt)(hx:x.a.fit/\x.b.fit)(hy:y.a.fit/\y.b.fit):AFun Tryz.prog W 86 [x.cw,y.cw] (.val (.b (a4C (H6 x) (H6 y)))):=by
 have hT1:=a9E x;have hT2:=a9D y;have l1:=b1K x;have l2:=b1K y;have hO:=b8v (H6 x) (H6 y) (b0o hx) (b0o hy) (by omega) (by omega);refine b9 (rs:=[.b (a4C (H6 x) (H6 y))]) Tryz.func86 Tryz.ntmps86 rfl rfl rfl rfl ?_;intro w U hW;refine qz<|nc zd<|nc zd<|nc ze ?_;refine aS<|aD (by kernel_rfl) (by kernel_rfl) ?_;refine nc zj ?_;refine nc (zW (z:=hT1) (G:=λk v h=>by first | (rw[hW.1]at h;cases h) | (have h2:=hU k v h;cases h2))) ?_;refine nc zj ?_;refine nc (zW (z:=hT2) (G:=λk v h=>by first | (rw[hW.1]at h;cases h) | (have h2:=hU k v h;cases h2))) ?_;refine nc (zW (z:=hO) (G:=i8 (by first | rfl | kernel_rfl)))<|nc ze ?_;refine⟨by kernel_rfl,?_⟩;exact aT (And.intro (.inr rfl) rfl)
theorem a3f(W:World){t s:Tm}(ht:t.rng)(hs:s.rng):AFun Tryz.prog W 105 [t.cw,s.cw] (.val (.i (S1 t s))):=by
 refine⟨x0 Tryz.func105 rfl rfl,.inl rfl,rfl,?_⟩;rintro U w vs hW ⟨u1,us1,rfl,h1,u2,us2,rfl,h2,h3⟩;have h3:us2=[]:=h3;subst h3;obtain⟨a,n,c,rfl,h4⟩:=y7 ht h1;obtain⟨a',n',c',rfl,h5⟩:=y7 hs h2;refine(a3d t s a a' n c n' c' w h4 h5).mono ?_;rintro e w' ⟨rfl,hb⟩;exact⟨_,rfl,o0.2 ⟨rfl,rfl⟩,hb⟩
def b0X(x y:Lt):Int:=if S1 x.a y.a≠0 then S1 x.a y.a else S1 x.b y.b
def okC(c:List Lt):Prop:=∀l∈c,l.a.rng/\l.b.rng
theorem b7J(W:World)(p:Lt->Bool)(fc:CV)(c:List Lt)(hl:c.length<=1000000)(hc:∀W,∀x∈c,P4 Tryz.prog W fc [x.cw] (.val (.b (p x)))):AFun Tryz.prog W 110 [.lst (c.map Lt.cv),fc] (.val (.i (match c.findIdx? p with | some i=>(i:Int) | none => -1))):=by
 have kC:=Lt.size_all c;obtain⟨R,hR⟩:∃R:Int,R=match c.findIdx? p with | some i=>(i:Int) | none => -1:=⟨_,rfl⟩
 rw[<-hR];refine b9 (rs:=[.i R]) Tryz.func110 Tryz.ntmps110 rfl rfl rfl rfl ?_;intro w U hW;refine qz<|nc ze ?_;refine aS<|qz<|nc zl<|nc zo<|nc zl ?_;refine aB (B6 c.length (λk=>∀x∈c.take k,p x=false) (λk=>[(0,.val (.lst (c.map Lt.cv))),(1,.val fc),(7,.val (.i (c.map Lt.cv).length)),(8,.val (.i k))]) (a7 ⟨rfl,rfl,rfl,rfl,trivial⟩) (by simp) ?_);intro k hk hI;refine qz<|nc zi ?_;refine aS<|aC rfl (λkA=>?_) (λkA=>?_)
 ·have kE:k<c.length:=by simpa using kA
  obtain⟨x,hx⟩:∃x,c[k]?=some x:=⟨c[k],getElem?_eq_getElem kE⟩
  have kT:=Lt.map_at hx;have cQ:=mem_of_getElem? hx;refine aK<|aS<|aB<|qz<|nc zl<|nc ze ?_;refine qz<|nc zl<|nc zl<|nc zl<|nc (zt (j:=k) (H:=kT) (hz:=kC))<|nc zu<|nc (zQ (E:=hc w x cQ)) ?_;refine aC rfl (λhp=>?_) (λhp=>?_)
  ·have iN:R=k:=by
    rw[hR];have:c.findIdx? p=some k:=by rw[List.findIdx?_eq_some_iff_getElem];obtain⟨gY,e⟩:=List.getElem?_eq_some_iff.1 hx;refine⟨gY,by rw[e];exact hp,λj hj=>?_⟩;have:=hI c[j] (List.mem_take_iff_getElem.2 ⟨j,by omega,rfl⟩);simpa using this
    rw[this]
   rw[iN];refine qz<|nc zl<|nc ze ?_;exact aT (And.intro (.inr rfl) rfl)
  ·refine aK<|aR<|nc zA<|nc zl ?_;refine⟨kE,?_,a7 ⟨rfl,rfl,rfl,rfl,trivial⟩⟩;intro y hy;rw[List.take_add_one,hx,List.mem_append]at hy;rcases hy with hy | hy
   ·exact hI y hy
   ·simp at hy;rw[hy];exact hp
 ·have kE:k=c.length:=by
   have:¬ k<c.length:=by simpa using kA
   omega
  subst kE;rw[take_length]at hI;have hRn:R = -1:=by rw[hR,List.findIdx?_eq_none_iff.2 λx hx=>by rw[hI x hx]]
  rw[hRn];refine aE<|qz<|nc ze ?_;exact aT (And.intro (.inr rfl) rfl)
theorem b7f(W:World)(p:Lt->Bool)(fc:CV)(c:List Lt)(hl:c.length<=1000000)(hc:∀W,∀x∈c,P4 Tryz.prog W fc [x.cw] (.val (.b (p x)))):AFun Tryz.prog W 84 [.lst (c.map Lt.cv),fc] (.val (.b (c.any p))):=by
 have e:decide ((match c.findIdx? p with | some i=>(i:Int) | none => -1)>=0)=c.any p:=by
  cases h:c.findIdx? p with
  | none =>
   have h1:=List.findIdx?_eq_none_iff.1 h;have:c.any p=false:=by rw[List.any_eq_false];intro x hx;rw[h1 x hx];simp
   rw[this];rfl
  | some i =>
   obtain⟨hi,hp,_⟩:=List.findIdx?_eq_some_iff_getElem.1 h;have:c.any p=true:=List.any_eq_true.2 ⟨_,List.getElem_mem hi,hp⟩;rw[this];simp
 refine b9 (rs:=[.b (c.any p)]) Tryz.func84 Tryz.ntmps84 rfl rfl rfl rfl ?_;intro w U hW;refine qz<|nc ze ?_;refine qz<|nc zl<|nc zl<|nc (zk (z:=b7J w p fc c hl hc))<|nc zn<|nc ze ?_;rw[e];exact aT (And.intro (.inr rfl) rfl)
theorem b5U(W:World)(x y:Lt)(hx:x.a.rng/\x.b.rng)(hy:y.a.rng/\y.b.rng):AFun Tryz.prog W 102 [x.cw,y.cw] (.val (.i (b0X x y))):=by
 refine b9 (rs:=[.i (b0X x y)]) Tryz.func102 Tryz.ntmps102 rfl rfl rfl rfl ?_;intro w U hW;refine qz<|nc zd<|nc zd<|nc ze ?_;refine aS<|qz<|nc zg<|nc zh<|nc zg<|nc zh<|nc (zk (z:=a3f w hx.1 hy.1))<|nc ze ?_;refine qz<|nc zl<|nc z8 ?_;refine aC rfl (λhc=>?_) (λhc=>?_)
 ·have e:b0X x y=S1 x.a y.a:=by unfold b0X;rw[if_pos (by simpa using hc)]
  rw[e];refine qz<|nc zl<|nc ze ?_;exact aT (And.intro (.inr rfl) rfl)
 ·have e:b0X x y=S1 x.b y.b:=by unfold b0X;rw[if_neg (by simpa using hc)]
  rw[e];refine aK<|qz<|nc zg<|nc zh<|nc zg<|nc zh<|nc (zk (z:=a3f w hx.2 hy.2))<|nc ze ?_;exact aT (And.intro (.inr rfl) rfl)
theorem b2T(W:World)(x y:Lt):AFun Tryz.prog W 50 [x.cw,y.cw] (.val (.b (x.neg == y.neg))):=by
 refine b9 (rs:=[.b (x.neg == y.neg)]) Tryz.func50 Tryz.ntmps50 rfl rfl rfl rfl ?_;intro w U hW;refine qz<|nc zd<|nc zd<|nc ze ?_;refine qz<|nc zg<|nc zh<|nc zg<|nc zh<|nc zbB<|nc ze ?_;exact aT (And.intro (.inr rfl) rfl)
end Go.Proofs.YteegmcfobgpemaaGreat
