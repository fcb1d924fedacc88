/-
 KbFns2 KbMath2 KbFns3 KbFns4 SbNorm SbNorm2 SbSortM SbLaw3 SbThen MtMath2 RwAt RwUses AbZ2 RwUse1
-/
import Derived.Test.YtekboofbedakcaaGreatMg5
import Derived.Test.YtekboofbedakcaaGreatMg4
import Derived.Test.YtekboofbedakcaaGreatMg3
namespace Go.Proofs.YtekboofbedakcaaGreat
open Go.RowKit
set_option linter.unusedVariables false
set_option linter.unusedSimpArgs false
set_option maxRecDepth 100000
def b8O (σ:Int) (t:Tm):Prop:=∀ (s:Sc) (n:Nat),Bds s n→n+t.size≤1000000000000→q6 Tryz.prog 98 (sst s) [.bp 350001 0 [],.val t.cw,.val (.i σ)] (.tup []) (sst (addT σ s t))
theorem a2H (σ:Int) (hσ:σ=1∨σ = -1) (l:List Tm) (hl:l.length≤1000000000000) (ih:∀ t∈l,b8O σ t) (s:Sc) (n:Nat) (hb:Bds s n) (hn:n+(l.flatMap Tm.flat).length≤1000000000000):q6 Tryz.prog 101 (sst s) [.bp 350001 0 [],.val (.lst (l.map Tm.cv)),.val (.i σ)] (.tup []) (sst (addL σ s l)):=by
 have hsz:=Tm.size_all l
 refine i8 Tryz.func101 Tryz.ntmps101 rfl rfl rfl rfl rfl rfl ?_
 intro w U hU
 refine aS (aR ?_)
 refine nc zj (nc zp (nc zj ?_))
 refine aB (b9 l.length (fun k=>(0,.bp 350001 0 [])::(2,.val (.i σ))::(8,.val (.lst (l.map Tm.cv)))::(9,.val (.i (l.map Tm.cv).length))::(10,.val (.i k))::sst (addL σ s (l.take k))) (a7 ⟨rfl,rfl,rfl,rfl,rfl,rfl,rfl,rfl,rfl,rfl,rfl,trivial⟩) ?_)
 intro k hk
 refine aS (aR ?_)
 refine nc zh ?_
 refine aS (aC rfl (fun hlt=>?_) (fun hlt=>?_))
 ·have hkl:k<l.length:=by simpa using hlt
  obtain ⟨x,hx⟩:∃ x,l[k]?=some x:=⟨l[k],List.getElem?_eq_getElem hkl⟩
  have hx':=Tm.map_at hx
  have hxm:=List.mem_of_getElem? hx
  obtain ⟨sk,hsk⟩:∃ sk,sk=addL σ s (l.take k):=⟨_,rfl⟩
  have hbk:Bds sk (n+((l.take k).flatMap Tm.flat).length):=by rw [hsk];exact hb.addL hσ
  have hnk:n+((l.take k).flatMap Tm.flat).length+x.size≤1000000000000:=by
   have h2:(l.flatMap Tm.flat).length=((l.take k).flatMap Tm.flat).length+((l.drop k).flatMap Tm.flat).length:=by
    conv=>lhs;rw [←List.take_append_drop k l]
    rw [List.flatMap_append,List.length_append]
   have h3:x.flat.length≤((l.drop k).flatMap Tm.flat).length:=s7 Tm.flat (List.mem_of_getElem? (i:=0) (by rw [List.getElem?_drop];simpa using hx))
   unfold Tm.size
   omega
  have hstep:=b1k (σ:=σ) (s:=s) hx
  rw [←hsk] at hstep
  rw [←hsk]
  refine aK ?_
  refine aS (aB (aS (aR ?_)))
  refine nc (zz (j:=k) (H:=hx') (hz:=hsz)) (nc zA (ne zw (nc zy ?_)))
  refine aR ?_
  refine nc zj (nc zE (nc zj (nc (z9 (z:=ih x hxm sk _ hbk hnk) (B:=y8 _) (C:=q7 _) (G:=j8 (by first | rfl | kernel_rfl))) ?_)))
  refine aR ?_
  refine nc zu (nc zj ?_)
  refine ⟨hkl,a7 ⟨rfl,rfl,rfl,rfl,rfl,rfl,?_,rfl,?_,?_,?_,trivial⟩⟩
  all_goals (rw [hstep];rfl)
 ·have hkl:k=l.length:=by
   have:¬ k<l.length:=by simpa using hlt
   omega
  subst hkl
  rw [List.take_length]
  refine aE ?_
  exact ⟨.inl rfl,_,Wk.refl _,rfl,rfl,rfl,rfl,rfl,rfl,rfl,trivial⟩
theorem S8 (σ:Int) (hσ:σ=1∨σ = -1):∀ t:Tm,t.rng→t.ok→b8O σ t:=by
 intro t
 induction t using Tm.ind with
 | h f l ih =>
 intro hr hok s n hb hn
 have hok:=(Tm.ok_iff _).1 hok
 have hr:=(Tm.rng_iff _).1 hr
 simp only at hok hr
 have hb1:=hb.sz
 have hsp:=Tm.size_pos ⟨f,l⟩
 refine i8 Tryz.func98 Tryz.ntmps98 rfl rfl rfl rfl rfl rfl ?_
 intro w U hU
 refine aS (aR ?_)
 refine ne zb ?_
 refine aS (aR ?_)
 refine nc zj (nc zZ (nc ze (nc z0 (nc zj (nc zu (nc zZ (nc ze (nc zbf ?_))))))))
 obtain ⟨s1,hs1⟩:∃ s1:Sc,s1=⟨s.sz+σ,s.mp,s.sp,s.lk⟩:=⟨_,rfl⟩
 have hb':Bds s1 (n+1):=by
  obtain ⟨b1,b2,b3,b4⟩:=hb
  rw [hs1]
  exact ⟨by show _≤s.sz+σ∧s.sz+σ≤_;omega,by simp only;omega,by simp only;omega,fun v=>by have:=b4 v;simp only;omega⟩
 refine AWp.wk (a7 (s':=(0,AV.bp 350001 0 [])::(2,.val (.i σ))::(4,.bp 4 0 [])::(100004,.bx (Tm.cw ⟨f,l⟩))::sst s1) ⟨rfl,rfl,rfl,rfl,rfl,?_,rfl,?_,?_,?_,trivial⟩) ?_
 ·rw [hs1];rfl
 ·rw [hs1];rfl
 ·rw [hs1];rfl
 ·rw [hs1];rfl
 refine aS (aS (aR ?_))
 refine nc zE ?_
 refine nc (zn (z:=I2 w ⟨f,l⟩)) ?_
 refine aC rfl (fun hc=>?_) (fun hc=>?_)
 ·have hf:f<0:=by simpa using hc
  rw [b2Y (t:=⟨f,l⟩) hf,←hs1]
  refine aS (aR ?_)
  refine nc zj (nc zE ?_)
  refine nc (zn (z:=a6u w ⟨f,l⟩ hr.1.1 hf)) ?_
  refine nc zj (nc (z9 (z:=a6H s1 (n+1) hb' (by omega) (-1-f) σ hσ) (B:=y8 _) (C:=q7 _) (G:=j8 (by first | rfl | kernel_rfl))) ?_)
  exact aT ⟨.inr rfl,_,Wk.refl _,rfl,rfl,rfl,rfl,rfl,rfl,rfl,trivial⟩
 ·have hf:¬ f<0:=by simpa using hc
  rw [b2v (t:=⟨f,l⟩) hf,←hs1]
  have hse:=Tm.size_eq ⟨f,l⟩
  rw [Tm.ps_of_sym (t:=⟨f,l⟩) (by show 0≤f;omega)] at hse
  simp only at hse
  have hlen:=Tm.len_ps ⟨f,l⟩
  rw [Tm.ps_of_sym (t:=⟨f,l⟩) (by show 0≤f;omega)] at hlen
  simp only at hlen
  refine aK ?_
  refine aR ?_
  refine nc zj (nc ze (nc zg (nc zj ?_)))
  refine nc (z9 (z:=a2H σ hσ l (by omega) (fun t ht=>ih t ht (hr.2 t ht) (hok.2 t ht)) s1 (n+1) hb' (by omega)) (B:=y8 _) (C:=q7 _) (G:=j8 (by first | rfl | kernel_rfl))) ?_
  exact ⟨.inl rfl,_,Wk.refl _,rfl,rfl,rfl,rfl,rfl,rfl,rfl,trivial⟩
theorem a1B (σ:Int) (hσ:σ=1∨σ = -1) (l:List Tm) (hl:l.length≤1000000000000) (hr:∀ t∈l,t.rng∧t.ok) (s:Sc) (n:Nat) (hb:Bds s n) (hn:n+(l.flatMap Tm.flat).length≤1000000000000):q6 Tryz.prog 101 (sst s) [.bp 350001 0 [],.val (.lst (l.map Tm.cv)),.val (.i σ)] (.tup []) (sst (addL σ s l)):=
 a2H σ hσ l hl (fun t ht=>S8 σ hσ t (hr t ht).1 (hr t ht).2) s n hb hn
def b2f (s:Sc) (w:Int):Int:=if s.sz≠0 then B3 s.sz 0 else w
def vdS (s:Sc) (w:Int):Int:=if (b2f s w=1∧0<s.lk)∨(b2f s w = -1∧0<s.sp) then 2 else b2f s w
theorem O0 (s:Sc) (x:Int):q6 Tryz.prog 99 (sst s) [.bp 350001 0 [],.val (.i x)] (.val (.i (vdS s x))) (sst s):=by
 refine i8 Tryz.func99 Tryz.ntmps99 rfl rfl rfl rfl rfl rfl ?_
 intro w U hU
 refine aS (aR ?_)
 refine nc zd ?_
 refine aS (aR ?_)
 refine nc zj (nc zd ?_)
 refine b5j ((0,AV.bp 350001 0 [])::(5,.val (.i (b2f s x)))::sst s) ?_ ?_
 ·unfold b2f
  refine aS (aR ?_)
  refine nc zj (nc zZ (nc ze (nc z0 (nc zK ?_))))
  refine aC rfl (fun hc=>?_) (fun hc=>?_)
  ·have h:s.sz≠0:=by simpa using hc
   rw [if_pos h]
   refine aR ?_
   refine nc zj (nc zZ (nc ze (nc z0 (nc (zn (z:=a5O w s.sz 0)) (nc zd ?_)))))
   exact a7 ⟨rfl,rfl,rfl,rfl,rfl,rfl,rfl,rfl,trivial⟩
  ·have h:¬ s.sz≠0:=by simpa using hc
   rw [if_neg h]
   refine aK ?_
   exact a7 ⟨rfl,rfl,rfl,rfl,rfl,rfl,rfl,rfl,trivial⟩
 unfold vdS
 generalize b2f s x=o
 by_cases h1:o=1
 ·subst h1
  by_cases h2:0<s.lk
  ·have g:decide (s.lk>0)=true:=by simpa using h2
   rw [if_pos (.inl ⟨rfl,h2⟩)]
   refine aS (aS (aR ?_))
   refine nc zj (nc zC (nc zj (nc (zj (p:=gc)) (nc (zZ (r:=gc)) (nc (ze (r:=gc)) (nc (z0 (r:=gc)) (nc (zT (r:=gc)) (nc zO (nc zj (nc Z2 (nc Z2 (nc Z2 (nc (Z2 (p:=o7 rfl rfl rfl rfl)) (nc (Z2 (p:=o7 rfl rfl rfl rfl)) (nc (Z2 (p:=o7 rfl rfl rfl rfl)) (nc (Z2 (p:=o7 rfl rfl rfl rfl)) (nc (Z2 (p:=o7 rfl rfl rfl rfl)) (nc Z2 (nc zO ?_)))))))))))))))))))
   refine aC rfl (fun hc=>?_) (fun hc=>by cases hc)
   refine aS (aR ?_)
   refine nc zd ?_
   exact aT ⟨.inr rfl,_,Wk.refl _,rfl,rfl,rfl,rfl,rfl,rfl,rfl,trivial⟩
  ·have g:decide (s.lk>0)=false:=by simpa using h2
   rw [if_neg (by omega)]
   refine aS (aS (aR ?_))
   refine nc zj (nc zC (nc zj (nc (zj (p:=gc)) (nc (zZ (r:=gc)) (nc (ze (r:=gc)) (nc (z0 (r:=gc)) (nc (zT (r:=gc)) (nc zO (nc zj (nc (zj (p:=gc)) (nc (zC (r:=gc)) (nc (zj (p:=gc)) (nc Z2 (nc Z2 (nc Z2 (nc Z2 (nc Z2 (nc (zN (r:=gc)) (nc zN ?_)))))))))))))))))))
   refine aC rfl (fun hc=>by cases hc) (fun hc=>aK ?_)
   refine aS (aR ?_)
   refine nc zj (nc zd ?_)
   exact aT ⟨.inr rfl,_,Wk.refl _,rfl,rfl,rfl,rfl,rfl,rfl,rfl,trivial⟩
 ·have g1:decide (o=1)=false:=by simpa using h1
  by_cases h2:o = -1
  ·subst h2
   by_cases h3:0<s.sp
   ·have g:decide (s.sp>0)=true:=by simpa using h3
    rw [if_pos (.inr ⟨rfl,h3⟩)]
    refine aS (aS (aR ?_))
    refine nc zj (nc zC (nc zj (nc Z2 (nc Z2 (nc Z2 (nc Z2 (nc Z2 (nc zN (nc zj (nc (zj (p:=gc)) (nc (zC (r:=gc)) (nc (zj (p:=gc)) (nc (zj (p:=gc)) (nc (zZ (r:=gc)) (nc (ze (r:=gc)) (nc (z0 (r:=gc)) (nc (zT (r:=gc)) (nc (zO (r:=gc)) (nc zN ?_)))))))))))))))))))
    refine aC rfl (fun hc=>?_) (fun hc=>by rw [g] at hc;cases hc)
    refine aS (aR ?_)
    refine nc zd ?_
    exact aT ⟨.inr rfl,_,Wk.refl _,rfl,rfl,rfl,rfl,rfl,rfl,rfl,trivial⟩
   ·have g:decide (s.sp>0)=false:=by simpa using h3
    rw [if_neg (by omega)]
    refine aS (aS (aR ?_))
    refine nc zj (nc zC (nc zj (nc Z2 (nc Z2 (nc Z2 (nc Z2 (nc Z2 (nc zN (nc zj (nc (zj (p:=gc)) (nc (zC (r:=gc)) (nc (zj (p:=gc)) (nc (zj (p:=gc)) (nc (zZ (r:=gc)) (nc (ze (r:=gc)) (nc (z0 (r:=gc)) (nc (zT (r:=gc)) (nc (zO (r:=gc)) (nc zN ?_)))))))))))))))))))
    refine aC rfl (fun hc=>by rw [g] at hc;cases hc) (fun hc=>aK ?_)
    refine aS (aR ?_)
    refine nc zj (nc zd ?_)
    exact aT ⟨.inr rfl,_,Wk.refl _,rfl,rfl,rfl,rfl,rfl,rfl,rfl,trivial⟩
  ·have g2:decide (o = -1)=false:=by simpa using h2
   rw [if_neg (by omega)]
   refine aS (aS (aR ?_))
   refine nc zj (nc zC (nc zj (nc Z2 (nc Z2 (nc Z2 (nc Z2 (nc Z2 (nc zN (nc zj (nc (zj (p:=gc)) (nc (zC (r:=gc)) (nc (zj (p:=gc)) (nc Z2 (nc Z2 (nc Z2 (nc Z2 (nc Z2 (nc (zN (r:=gc)) (nc zN ?_)))))))))))))))))))
   refine aC rfl (fun hc=>by cases hc) (fun hc=>aK ?_)
   refine aS (aR ?_)
   refine nc zj (nc zd ?_)
   exact aT ⟨.inr rfl,_,Wk.refl _,rfl,rfl,rfl,rfl,rfl,rfl,rfl,trivial⟩
def orL:List Int→Int
 | []=>0
 | x::l=>if x≠0 then x else orL l
theorem b4o:∀ {l:List Int} {k:Nat} {x:Int},l[k]?=some x→x≠0→(∀ j y,j<k→l[j]?=some y→y=0)→orL l=x
 | [],k,x,h,_,_=>by simp at h
 | y::l,0,x,h,hx,_=>by
  simp at h
  subst h
  rw [orL,if_pos hx]
 | y::l,k+1,x,h,hx,hi=>by
  rw [orL,if_neg (by have:=hi 0 y (by omega) rfl;omega)]
  exact b4o (by simpa using h) hx fun j z hj hz=>hi (j+1) z (by omega) (by simpa using hz)
theorem a7L:∀ {l:List Int},(∀ x∈l,x=0)→orL l=0
 | [],_=>rfl
 | x::l,h=>by
  rw [orL,if_neg (by have:=h x (by simp);omega)]
  exact a7L fun y hy=>h y (List.mem_cons_of_mem _ hy)
theorem b5q (W:World) (l:List Int) (hl:l.length≤1000000000):AFun Tryz.prog W 131 [.lst (l.map CV.i)] (.val (.i (orL l))):=by
 have hsz:=b8 l
 refine a8 (rs:=[.i (orL l)]) Tryz.func131 Tryz.ntmps131 rfl rfl rfl rfl ?_
 intro w U hW
 refine aS (aR ?_)
 refine nc zd ?_
 refine aS (aR ?_)
 refine nc zd ?_
 refine aS (aS (aR ?_))
 refine nc zj (nc zp (nc zj ?_))
 refine aB (p6 l.length (fun k=>∀ j y,j<k→l[j]?=some y→y=0) (fun k=>[(3,.val (.i 0)),(6,.val (.lst (l.map CV.i))),(7,.val (.i (l.map CV.i).length)),(8,.val (.i k))]) (a7 ⟨rfl,rfl,rfl,rfl,trivial⟩) (fun j c hj=>by omega) ?_)
 intro k hk hI
 refine aS (aR ?_)
 refine nc zh ?_
 refine aS (aC rfl (fun hlt=>?_) (fun hlt=>?_))
 ·have hkl:k<l.length:=by simpa using hlt
  obtain ⟨x,hx⟩:∃ x,l[k]?=some x:=⟨l[k],List.getElem?_eq_getElem hkl⟩
  have hx':(l.map CV.i)[k]?=some (CV.i x):=by rw [List.getElem?_map,hx];rfl
  refine aK ?_
  refine aS (aB (aS (aR ?_)))
  refine nc (zz (j:=k) (H:=hx') (hz:=hsz)) (nc zA (nc zd ?_))
  refine aS (aR ?_)
  refine nc zj (nc zj (nc zK ?_))
  refine aC rfl (fun hq=>?_) (fun hq=>?_)
  ·have hq:x≠0:=by simpa using hq
   refine aS (aR ?_)
   refine nc zj (nc zd ?_)
   rw [b4o hx hq hI]
   exact aT ⟨.inr rfl,rfl⟩
  ·have hq:x=0:=by simpa using hq
   refine aK ?_
   refine aR ?_
   refine nc zu (nc zj ?_)
   refine ⟨hkl,fun j c hj hc=>?_,a7 ⟨rfl,rfl,rfl,rfl,trivial⟩⟩
   rcases Nat.lt_or_ge j k with h | h
   ·exact hI j c h hc
   ·have:j=k:=by omega
    subst this
    rw [hx] at hc
    cases hc
    exact hq
 ·have hkl:¬ k<l.length:=by simpa using hlt
  rw [a7L (l:=l) fun x hx=>?_]
  ·refine aE ?_
   refine aS (aR ?_)
   refine nc zj (nc zd ?_)
   exact aT ⟨.inr rfl,rfl⟩
  ·obtain ⟨j,hj⟩:=List.getElem?_of_mem hx
   have hjl:j<l.length:=by
    rcases Nat.lt_or_ge j l.length with h | h
    ·exact h
    ·rw [List.getElem?_eq_none h] at hj;cases hj
   exact hI j x (by omega) hj
theorem b8z {a b:Tm} (h:¬ (a.f<0∨b.f<0)):hdK a b=orL [B3 a.f b.f,B3 a.l.length b.l.length]:=by
 unfold hdK
 rw [if_neg h]
 simp only [orL]
 rcases d9 a.f b.f with h1 | h1 | h1
 ·rw [if_pos (by omega),if_pos (by omega)]
 ·rw [if_neg (by omega),if_neg (by omega)]
  split
  ·rfl
  ·omega
 ·rw [if_pos (by omega),if_pos (by omega)]
theorem a2K (W:World) (a b:Tm):AFun Tryz.prog W 100 [a.cw,b.cw] (.val (.i (hdK a b))):=by
 refine a8 (rs:=[.i (hdK a b)]) Tryz.func100 Tryz.ntmps100 rfl rfl rfl rfl ?_
 intro w U hW
 refine aS (aR ?_)
 refine nc zb (nc zb (nc zd ?_))
 by_cases ha:a.f<0
 ·have g:decide (a.f<0)=true:=by simpa using ha
  refine aS (aS (aR ?_))
  refine nc zE (nc (zn (z:=I2 w a)) (nc zj (nc zM (nc zM (nc zO ?_)))))
  refine aC rfl (fun hc=>?_) (fun hc=>by cases hc)
  unfold hdK
  rw [if_pos (.inl ha)]
  refine aS (aR ?_)
  refine nc zd ?_
  exact aT ⟨.inr rfl,rfl⟩
 have g:decide (a.f<0)=false:=by simpa using ha
 refine aS (aS (aR ?_))
 refine nc zE (nc (zn (z:=I2 w a)) (nc zj (nc (zE (p:=gc)) (nc (zn (p:=gc) (z:=I2 w b)) (nc zN ?_)))))
 refine aC rfl (fun hc=>?_) (fun hc=>?_)
 ·have hb:b.f<0:=by simpa using hc
  unfold hdK
  rw [if_pos (.inr hb)]
  refine aS (aR ?_)
  refine nc zd ?_
  exact aT ⟨.inr rfl,rfl⟩
 ·have hb:¬ b.f<0:=by simpa using hc
  rw [b8z (by omega)]
  have e1:(a.l.map Tm.cv).length=a.l.length:=List.length_map ..
  have e2:(b.l.map Tm.cv).length=b.l.length:=List.length_map ..
  refine aK ?_
  refine aS (aD (by kernel_rfl) (by kernel_rfl) ?_)
  refine nc ze (nc zg (nc ze (nc zg (nc (zn (z:=a5O w a.f b.f)) (nc ze (nc zg (nc zp (nc ze (nc zg (nc zp (nc (zn (z:=a5O w _ _)) (nc zI (nc (zn (z:=b5q w [_,_] (by simp))) (nc zd ?_))))))))))))))
  refine ⟨by kernel_rfl,?_⟩
  rw [e1,e2]
  exact aT ⟨.inr rfl,rfl⟩
end Go.Proofs.YtekboofbedakcaaGreat
namespace Go.Proofs.YtekboofbedakcaaGreat
set_option linter.unusedVariables false
set_option linter.unusedSimpArgs false
theorem b6X {a b:Tm}:hdK a b=1↔¬ a.f<0∧¬ b.f<0∧(b.f<a.f∨(a.f=b.f∧b.l.length<a.l.length)):=by
 unfold hdK
 split
 ·constructor
  ·intro h;omega
  ·rintro ⟨h1,h2,_⟩;omega
 ·rename_i h
  split
  ·rename_i h2
   rcases d9 a.f b.f with h3 | h3 | h3
   ·constructor
    ·intro h4;omega
    ·rintro ⟨_,_,h4⟩;omega
   ·constructor
    ·intro h4;omega
    ·rintro ⟨_,_,h4⟩;omega
   ·exact ⟨fun _=>⟨by omega,by omega,by omega⟩,fun _=>h3.1⟩
  ·rename_i h2
   rcases d9 a.l.length b.l.length with h3 | h3 | h3
   ·constructor
    ·intro h4;omega
    ·rintro ⟨_,_,h4⟩;omega
   ·constructor
    ·intro h4;omega
    ·rintro ⟨_,_,h4⟩;omega
   ·exact ⟨fun _=>⟨by omega,by omega,by omega⟩,fun _=>h3.1⟩
theorem a9l {a b:Tm}:wi a b=1↔¬ a.f<0∧¬ b.f<0∧(b.f<a.f∨(a.f=b.f∧(b.l.length<a.l.length∨(a.l.length=b.l.length∧kbs a.l b.l=1)))):=by
 unfold wi
 split
 ·rename_i h
  rw [b6X]
  constructor
  ·rintro ⟨h1,h2,h3⟩;exact ⟨h1,h2,by omega⟩
  ·rintro ⟨h1,h2,h3⟩
   rw [Tm.ps_of_sym (t:=a) (by omega),Tm.ps_of_sym (t:=b) (by omega)] at h
   exact ⟨h1,h2,by omega⟩
 ·rename_i h
  by_cases hf:a.f<0
  ·rw [Tm.ps_of_var hf,a2i]
   constructor
   ·intro h;omega
   ·rintro ⟨h1,_⟩;omega
  ·rw [Tm.ps_of_sym (t:=a) (by omega),Tm.ps_of_sym (t:=b) (by omega)] at h ⊢
   constructor
   ·intro h1;exact ⟨hf,by omega,.inr ⟨by omega,.inr ⟨by omega,h1⟩⟩⟩
   ·rintro ⟨h1,h2,h3 | ⟨h3,h4 | ⟨h4,h5⟩⟩⟩
    ·omega
    ·omega
    ·exact h5
theorem b5B {a b:Tm} (h:kb a b=1):kb b a = -1:=by rw [a5N,h];rfl
theorem b7c {a b:Tm} (h:cov a b) (h2:b.size<a.size):kb a b=1:=(a6e a b).2 ⟨h,.inl h2⟩
end Go.Proofs.YtekboofbedakcaaGreat
namespace Go.Proofs.YtekboofbedakcaaGreat
open Go.RowKit
set_option linter.unusedVariables false
set_option linter.unusedSimpArgs false
set_option maxRecDepth 100000
def emp:Sc:=⟨0,[],0,0⟩
noncomputable def a5W (c:Int) (s:Sc) (l m:List Tm) (r:Sc):Sc:=if c≠0 then addL (-1) (addL 1 s l) m else r
noncomputable def scS (p:Tm):Tm→Sc:=
 Tm.rec (motive_1:=fun _=>Tm→Sc) (motive_2:=fun _=>List Tm→Sc)
  (fun f l ih t=>if f≠t.f∨(Tm.mk f l).ps.length≠t.ps.length then addT (-1) (addT 1 emp ⟨f,l⟩) t else if f<0 then emp else ih t.l)
  (fun _=>emp)
  (fun x l ih1 ih2 ts=>match ts with | []=>emp | t::ts=>a5W (kb x t) (ih1 t) l ts (ih2 ts)) p
noncomputable def scs (ps:List Tm):List Tm→Sc:=
 Tm.rec_1 (motive_1:=fun _=>Tm→Sc) (motive_2:=fun _=>List Tm→Sc)
  (fun f l ih t=>if f≠t.f∨(Tm.mk f l).ps.length≠t.ps.length then addT (-1) (addT 1 emp ⟨f,l⟩) t else if f<0 then emp else ih t.l)
  (fun _=>emp)
  (fun x l ih1 ih2 ts=>match ts with | []=>emp | t::ts=>a5W (kb x t) (ih1 t) l ts (ih2 ts)) ps
theorem b4M (m:List Tm):scs [] m=emp:=rfl
theorem a3F (x:Tm) (l:List Tm) (y:Tm) (m:List Tm):scs (x::l) (y::m)=a5W (kb x y) (scS x y) l m (scs l m):=rfl
theorem a9d {a b:Tm} (h:a.f≠b.f∨a.ps.length≠b.ps.length):scS a b=addT (-1) (addT 1 emp a) b:=by
 cases a
 show (if _ then _ else _)=_
 rw [if_pos h]
theorem a9e {a b:Tm} (h:¬ (a.f≠b.f∨a.ps.length≠b.ps.length)):scS a b=scs a.ps b.ps:=by
 cases a with
 | mk f l =>
  show (if _ then _ else _)=_
  rw [if_neg h]
  by_cases hf:f<0
  ·rw [if_pos hf,Tm.ps_of_var (t:=⟨f,l⟩) hf,b4M]
  ·rw [if_neg hf,Tm.ps_of_sym (t:=⟨f,l⟩) (by show 0≤f;omega),Tm.ps_of_sym (t:=b) (by have:=Classical.not_not.1 (fun e=>h (.inl e));simp only at this;omega)]
   rfl
theorem a6f:∀ {l m:List Tm} {k:Nat} {x y:Tm},l[k]?=some x→m[k]?=some y→kb x y≠0→(∀ j u v,j<k→l[j]?=some u→m[j]?=some v→kb u v=0)→scs l m=addL (-1) (addL 1 (scS x y) (l.drop (k+1))) (m.drop (k+1))∧kbs l m=kb x y
 | [],_,k,x,y,h,_,_,_=>by simp at h
 | _::_,[],k,x,y,_,h,_,_=>by simp at h
 | u::l,v::m,0,x,y,h1,h2,hne,_=>by
  simp at h1 h2
  subst h1;subst h2
  rw [a3F,E5]
  unfold a5W Q6
  rw [if_pos hne,if_pos hne]
  exact ⟨rfl,rfl⟩
 | u::l,v::m,k+1,x,y,h1,h2,hne,hi=>by
  have h0:=hi 0 u v (by omega) rfl rfl
  rw [a3F,E5]
  unfold a5W Q6
  rw [if_neg (by omega),if_neg (by omega)]
  exact a6f (by simpa using h1) (by simpa using h2) hne fun j u v hj hu hv=>hi (j+1) u v (by omega) (by simpa using hu) (by simpa using hv)
theorem a0y:∀ {l m:List Tm},(∀ (j:Nat) u v,l[j]?=some u→m[j]?=some v→kb u v=0)→scs l m=emp∧kbs l m=0
 | [],_,_=>⟨rfl,rfl⟩
 | _::_,[],_=>⟨rfl,rfl⟩
 | u::l,v::m,hi=>by
  have h0:=hi 0 u v rfl rfl
  rw [a3F,E5]
  unfold a5W Q6
  rw [if_neg (by omega),if_neg (by omega)]
  exact a0y fun j u v hu hv=>hi (j+1) u v (by simpa using hu) (by simpa using hv)
theorem emp_ss:Ss emp 0 fun _=>0:=⟨rfl,by simp [ndk,emp],rfl,rfl,fun _=>rfl⟩
theorem emp_bds:Bds emp 0:=⟨by simp [emp],by simp [emp],by simp [emp],fun _=>by simp [emp,B9,B5]⟩
def vD (a b:Tm) (v:Int):Int:=(a.vs.count v:Int)-b.vs.count v
theorem a7i:∀ (l m:List Tm),l.length=m.length→(∃ (k:Nat) (x y:Tm),l[k]?=some x∧m[k]?=some y∧kb x y≠0∧∀ (j:Nat) u v,j<k→l[j]?=some u→m[j]?=some v→kb u v=0)∨∀ (j:Nat) u v,l[j]?=some u→m[j]?=some v→kb u v=0
 | [],_,_ => .inr fun j u v h=>by simp at h
 | _::_,[],h=>by simp at h
 | u::l,v::m,h=>by
  by_cases h0:kb u v=0
  ·rcases a7i l m (by simpa using h) with ⟨k,x,y,h1,h2,h3,h4⟩ | h1
   ·left
    refine ⟨k+1,x,y,by simpa using h1,by simpa using h2,h3,fun j u' v' hj hu hv=>?_⟩
    cases j with
    | zero=>simp at hu hv;subst hu;subst hv;exact h0
    | succ j=>exact h4 j u' v' (by omega) (by simpa using hu) (by simpa using hv)
   ·right
    intro j u' v' hu hv
    cases j with
    | zero=>simp at hu hv;subst hu;subst hv;exact h0
    | succ j=>exact h1 j u' v' (by simpa using hu) (by simpa using hv)
  ·left;exact ⟨0,u,v,rfl,rfl,h0,fun j u v hj=>by omega⟩
theorem a0c:∀ {l m:List Tm} {k:Nat},k≤l.length→l.length=m.length→(∀ j u v,j<k→l[j]?=some u→m[j]?=some v→kb u v=0)→((l.take k).flatMap Tm.flat).length=((m.take k).flatMap Tm.flat).length∧(l.take k).flatMap Tm.vs=(m.take k).flatMap Tm.vs
 | _,_,0,_,_,_=>by simp
 | [],_,k+1,h,_,_=>by simp at h
 | _::_,[],k+1,_,h,_=>by simp at h
 | u::l,v::m,k+1,h,hl,hi=>by
  have h0:=(a5Q u v).1 (hi 0 u v (by omega) rfl rfl)
  obtain ⟨h1,h2⟩:=a0c (l:=l) (m:=m) (k:=k) (by simpa using h) (by simpa using hl) fun j u v hj hu hv=>hi (j+1) u v (by omega) (by simpa using hu) (by simpa using hv)
  have h3:u.flat.length=v.flat.length:=by have:=congrArg Tm.size h0;rw [Tm.strip_size,Tm.strip_size] at this;exact this
  have h4:u.vs=v.vs:=by have:=congrArg Tm.vs h0;rw [Tm.strip_vs,Tm.strip_vs] at this;exact this
  rw [List.take_succ_cons,List.take_succ_cons,List.flatMap_cons,List.flatMap_cons,List.flatMap_cons,List.flatMap_cons,List.length_append,List.length_append,h1,h2,h3,h4]
  exact ⟨rfl,rfl⟩
theorem T5 {l:List Tm} {k:Nat} {x:Tm} (h:l[k]?=some x):(l.flatMap Tm.flat).length=((l.take k).flatMap Tm.flat).length+(x.size+((l.drop (k+1)).flatMap Tm.flat).length)∧∀ v,(l.flatMap Tm.vs).count v=((l.take k).flatMap Tm.vs).count v+(x.vs.count v+((l.drop (k+1)).flatMap Tm.vs).count v):=by
 obtain ⟨h1,_⟩:=a6Y h
 constructor
 ·conv=>lhs;rw [h1]
  rw [List.flatMap_append,List.flatMap_cons,List.length_append,List.length_append]
  rfl
 ·intro v
  conv=>lhs;rw [h1]
  rw [List.flatMap_append,List.flatMap_cons,List.count_append,List.count_append]
theorem a7l (a:Tm):∀ b,Bds (scS a b) (a.size+b.size)∧(kb a b=0→scS a b=emp)∧(kb a b≠0→Ss (scS a b) (szD a b) (vD a b)):=by
 induction a using Tm.indp with
 | h a ih =>
  intro b
  by_cases h:a.f≠b.f∨a.ps.length≠b.ps.length
  ·rw [a9d h]
   have h1:Bds (addT (-1) (addT 1 emp a) b) (0+a.size+b.size):=(emp_bds.addT (.inl rfl)).addT (.inr rfl)
   refine ⟨by rw [Nat.zero_add] at h1;exact h1,fun h2=>?_,fun _=>?_⟩
   ·rw [I7,y7] at h2
    unfold wi at h2
    rw [if_pos h] at h2
    exact absurd h2 (b2a h)
   ·have h2:=(emp_ss.fold (σ:=1) (l:=a.flat)).fold (σ := -1) (l:=b.flat)
    refine ⟨?_,h2.nd,h2.sp,h2.lk,fun v=>?_⟩
    ·refine h2.sz.trans ?_
     unfold szD Tm.size;omega
    ·refine (h2.at_ v).trans ?_
     unfold vD Tm.vs;omega
  ·rw [a9e h]
   have hw:wi a b=kbs a.ps b.ps:=by unfold wi;rw [if_neg h]
   have hll:a.ps.length=b.ps.length:=by omega
   rcases a7i a.ps b.ps hll with ⟨k,x,y,h1,h2,h3,h4⟩ | h1
   ·obtain ⟨e1,e2⟩:=a6f h1 h2 h3 h4
    obtain ⟨b1,b2,b3⟩:=ih x (List.mem_of_getElem? h1) y
    have hk:k<a.ps.length:=by
     rcases Nat.lt_or_ge k a.ps.length with h | h
     ·exact h
     ·rw [List.getElem?_eq_none h] at h1;cases h1
    obtain ⟨v1,v2⟩:=a0c (Nat.le_of_lt hk) hll h4
    obtain ⟨l1,l2⟩:=T5 h1
    obtain ⟨m1,m2⟩:=T5 h2
    have sa:=a.size_eq
    have sb:=b.size_eq
    rw [e1]
    refine ⟨?_,fun h5=>?_,fun h5=>?_⟩
    ·have hB:=((b1.addL (.inl rfl) (l:=a.ps.drop (k+1))).addL (.inr rfl) (l:=b.ps.drop (k+1)))
     obtain ⟨q1,q2,q3,q4⟩:=hB
     exact ⟨by omega,by omega,by omega,fun v=>by have:=q4 v;omega⟩
    ·rw [I7,y7,hw,e2] at h5
     exact absurd h5 h3
    ·have h6:=((b3 h3).fold (σ:=1) (l:=(a.ps.drop (k+1)).flatMap Tm.flat)).fold (σ := -1) (l:=(b.ps.drop (k+1)).flatMap Tm.flat)
     refine ⟨?_,h6.nd,h6.sp,h6.lk,fun v=>?_⟩
     ·refine h6.sz.trans ?_
      unfold szD;omega
     ·refine (h6.at_ v).trans ?_
      rw [R3,R3]
      have p1:=l2 v
      have p2:=m2 v
      rw [←v2] at p2
      have hf:a.f=b.f:=by omega
      have ha:a.vs=a.ps.flatMap Tm.vs:=by
       by_cases hv:a.f<0
       ·rw [Tm.ps_of_var hv] at hk;simp at hk
       ·rw [Tm.vs_sym hv,Tm.ps_of_sym (by omega)]
      have hb:b.vs=b.ps.flatMap Tm.vs:=by
       by_cases hv:b.f<0
       ·rw [Tm.ps_of_var (t:=a) (by omega)] at hk;simp at hk
       ·rw [Tm.vs_sym hv,Tm.ps_of_sym (by omega)]
      unfold vD
      rw [ha,hb]
      omega
   ·obtain ⟨e1,e2⟩:=a0y h1
    rw [e1]
    refine ⟨?_,fun _=>rfl,fun h5=>?_⟩
    ·obtain ⟨q1,q2,q3,q4⟩:=emp_bds
     exact ⟨by omega,by omega,by omega,fun v=>by have:=q4 v;omega⟩
    ·exfalso
     apply h5
     rw [I7,y7,hw,e2]
theorem b2R (z w:Int):(if z≠0 then B3 z 0 else w)=a9O z w:=by
 unfold a9O
 rcases d9 z 0 with h | h | h
 ·rw [if_pos (by omega),if_neg (by omega),if_pos (by omega),h.1]
 ·rw [if_neg (by omega),if_neg (by omega),if_neg (by omega)]
 ·rw [if_pos (by omega),if_pos (by omega),h.1]
theorem a9u {s:Sc} {a b:Tm} (h:Ss s (szD a b) (vD a b)) {w:Int} (hw:w≠0):vdS s w=a0b (szD a b) (cov a b) (cov b a) w:=by
 have h1:0<s.lk↔¬ cov a b:=by
  obtain ⟨d1,d2⟩:=b3H h.nd
  rw [h.lk]
  have:dnS s.mp=0↔cov a b:=by
   rw [d2]
   unfold cov
   constructor
   ·intro h2 v;have:=h2 v;rw [h.at_] at this;unfold vD at this;omega
   ·intro h2 v;have:=h2 v;rw [h.at_];unfold vD;omega
  rw [←this];omega
 have h2:0<s.sp↔¬ cov b a:=by
  obtain ⟨d1,d2⟩:=b2V h.nd
  rw [h.sp]
  have:upS s.mp=0↔cov b a:=by
   rw [d2]
   unfold cov
   constructor
   ·intro h2 v;have:=h2 v;rw [h.at_] at this;unfold vD at this;omega
   ·intro h2 v;have:=h2 v;rw [h.at_];unfold vD;omega
  rw [←this];omega
 unfold vdS a0b b4G b2f
 rw [if_neg hw,h.sz,b2R]
 by_cases h3:(a9O (szD a b) w=1∧¬ cov a b)∨(a9O (szD a b) w = -1∧¬ cov b a)
 ·rw [if_pos h3,if_pos (by rw [h1,h2];exact h3)]
 ·rw [if_neg h3,if_neg (by rw [h1,h2];exact h3)]
set_option maxHeartbeats 1000000 in
theorem a5k:∀ a:Tm,a.rng→a.ok→a.size≤100000000000→∀ b:Tm,b.rng→b.ok→b.size≤100000000000→q6 Tryz.prog 71 (sst emp) [.bp 350001 0 [],.val a.cw,.val b.cw] (.val (.i (kb a b))) (sst (scS a b)):=by
 intro a
 induction a using Tm.indp with
 | h a ih =>
 intro hr hok has b hbr hbok hbs
 have hok':=(Tm.ok_iff _).1 hok
 have hr':=(Tm.rng_iff _).1 hr
 have hbok':=(Tm.ok_iff _).1 hbok
 have hbr':=(Tm.rng_iff _).1 hbr
 have hsz:=Tm.size_all a.ps
 have hsz2:=Tm.size_all b.ps
 have el:(a.ps.map Tm.cv).length=a.ps.length:=List.length_map ..
 have el2:(b.ps.map Tm.cv).length=b.ps.length:=List.length_map ..
 have hla:=a.len_ps
 have hlb:=b.len_ps
 obtain ⟨S,hS⟩:∃ S,S=scS a b:=⟨_,rfl⟩
 obtain ⟨sp1,sp2,sp3⟩:=a7l a b
 refine i8 Tryz.func71 Tryz.ntmps71 rfl rfl rfl rfl rfl rfl ?_
 intro w U hU
 refine aS (aR ?_)
 refine nc zb (nc zb (nc zd ?_))
 refine aS (aD (by kernel_rfl) (by kernel_rfl) ?_)
 refine nc zE (nc (zn (z:=a2n w a)) (nc zE (nc (zn (z:=a2n w b)) (nc zd (nc zd ?_)))))
 refine ⟨by kernel_rfl,?_⟩
 refine AWp.wk (a7 (s':=(0,AV.bp 350001 0 [])::(4,.bp 4 0 [])::(100004,.bx a.cw)::(5,.bp 5 0 [])::(100005,.bx b.cw)::(7,.val (.lst (a.ps.map Tm.cv)))::(8,.val (.lst (b.ps.map Tm.cv)))::sst emp) ⟨rfl,rfl,rfl,rfl,rfl,rfl,rfl,rfl,rfl,rfl,rfl,rfl,rfl,trivial⟩) ?_
 by_cases h:a.f≠b.f∨a.ps.length≠b.ps.length
 case pos =>
  have hw:wi a b=hdK a b:=by unfold wi;rw [if_pos h]
  have hk0:kb a b≠0:=by rw [I7,ne_eq,y7,hw];exact b2a h
  have hres:vdS (addT (-1) (addT 1 emp a) b) (hdK a b)=kb a b:=by
   have:=a9u (w:=hdK a b) (by have:=sp3 hk0;rw [a9d h] at this;exact this) (b2a h)
   rw [this,I7,hw]
  rw [a9d h]
  by_cases hf:a.f≠b.f
  ·have g:decide (a.f≠b.f)=true:=by simpa using hf
   refine aS (aS (aR ?_))
   refine nc ze (nc zg (nc ze (nc zg (nc zK (nc zj (nc zM (nc zM (nc zM (nc zM (nc zM (nc zO ?_)))))))))))
   refine aC rfl (fun hc=>?_) (fun hc=>by cases hc)
   refine aS (aR ?_)
   refine nc zj (nc zE (nc (z9 (z:=S8 1 (.inl rfl) a hr hok emp 0 emp_bds (by omega)) (B:=y8 _) (C:=q7 _) (G:=j8 (by first | rfl | kernel_rfl))) ?_))
   refine aS (aR ?_)
   refine nc zj (nc zE (nc (z9 (z:=S8 (-1) (.inr rfl) b hbr hbok (addT 1 emp a) (0+a.size) (emp_bds.addT (.inl rfl)) (by omega)) (B:=y8 _) (C:=q7 _) (G:=j8 (by first | rfl | kernel_rfl))) ?_))
   refine aS (aR ?_)
   refine nc zj (nc zE (nc zE (nc (zn (z:=a2K w a b)) (nc (z9 (z:=O0 (addT (-1) (addT 1 emp a) b) (hdK a b)) (B:=y8 _) (C:=q7 _) (G:=j8 (by first | rfl | kernel_rfl))) (nc zd ?_)))))
   rw [hres]
   exact aT ⟨.inr rfl,_,Wk.refl _,rfl,rfl,rfl,rfl,rfl,rfl,rfl,trivial⟩
  ·have g:decide (a.f≠b.f)=false:=by simpa using hf
   refine aS (aS (aR ?_))
   refine nc ze (nc zg (nc ze (nc zg (nc zK (nc zj (nc (zj (p:=gc)) (nc (zp (r:=gc)) (nc (zj (p:=gc)) (nc (zp (r:=gc)) (nc (zK (r:=gc)) (nc zN ?_)))))))))))
   refine aC rfl (fun hc=>?_) (fun hc=>?_)
   case refine_2 =>
    exfalso
    have hc:=of_decide_eq_false hc
    simp only [List.length_map,ne_eq,Decidable.not_not] at hc
    omega
   refine aS (aR ?_)
   refine nc zj (nc zE (nc (z9 (z:=S8 1 (.inl rfl) a hr hok emp 0 emp_bds (by omega)) (B:=y8 _) (C:=q7 _) (G:=j8 (by first | rfl | kernel_rfl))) ?_))
   refine aS (aR ?_)
   refine nc zj (nc zE (nc (z9 (z:=S8 (-1) (.inr rfl) b hbr hbok (addT 1 emp a) (0+a.size) (emp_bds.addT (.inl rfl)) (by omega)) (B:=y8 _) (C:=q7 _) (G:=j8 (by first | rfl | kernel_rfl))) ?_))
   refine aS (aR ?_)
   refine nc zj (nc zE (nc zE (nc (zn (z:=a2K w a b)) (nc (z9 (z:=O0 (addT (-1) (addT 1 emp a) b) (hdK a b)) (B:=y8 _) (C:=q7 _) (G:=j8 (by first | rfl | kernel_rfl))) (nc zd ?_)))))
   rw [hres]
   exact aT ⟨.inr rfl,_,Wk.refl _,rfl,rfl,rfl,rfl,rfl,rfl,rfl,trivial⟩
 case neg =>
  have hf:a.f=b.f:=by omega
  have hll:a.ps.length=b.ps.length:=by omega
  have hw:wi a b=kbs a.ps b.ps:=by unfold wi;rw [if_neg h]
  have g:decide (a.f≠b.f)=false:=by simpa using hf
  refine aS (aS (aR ?_))
  refine nc ze (nc zg (nc ze (nc zg (nc zK (nc zj (nc (zj (p:=gc)) (nc (zp (r:=gc)) (nc (zj (p:=gc)) (nc (zp (r:=gc)) (nc (zK (r:=gc)) (nc zN ?_)))))))))))
  refine aC rfl (fun hc=>?_) (fun hc=>?_)
  ·exfalso
   have hc:=of_decide_eq_true hc
   simp only [List.length_map,ne_eq] at hc
   omega
  refine aK ?_
  refine aS (aS (aR ?_))
  refine nc zj (nc zp (nc zj ?_))
  refine aB (p6 a.ps.length (fun k=>∀ (j:Nat) u v,j<k→a.ps[j]?=some u→b.ps[j]?=some v→kb u v=0) (fun k=>(0,.bp 350001 0 [])::(7,.val (.lst (a.ps.map Tm.cv)))::(8,.val (.lst (b.ps.map Tm.cv)))::(39,.val (.i (a.ps.map Tm.cv).length))::(40,.val (.i k))::sst emp) (a7 ⟨rfl,rfl,rfl,rfl,rfl,rfl,rfl,rfl,rfl,rfl,rfl,trivial⟩) (fun j u v hj=>by omega) ?_)
  intro k hk hI
  refine aS (aR ?_)
  refine nc zh ?_
  refine aS (aC rfl (fun hlt=>?_) (fun hlt=>?_))
  ·have hkl:k<a.ps.length:=by simpa using hlt
   obtain ⟨x,hx⟩:∃ x,a.ps[k]?=some x:=⟨a.ps[k],List.getElem?_eq_getElem hkl⟩
   obtain ⟨y,hy⟩:∃ y,b.ps[k]?=some y:=⟨b.ps[k]'(by omega),List.getElem?_eq_getElem (by omega)⟩
   have hx':=Tm.map_at hx
   have hy':=Tm.map_at hy
   have hxm:=List.mem_of_getElem? hx
   have hym:=List.mem_of_getElem? hy
   have hxs:=Tm.size_part hxm
   have hys:=Tm.size_part hym
   have hrec:=ih x hxm (hr'.2 x (Tm.ps_mem hxm).1) (hok'.2 x (Tm.ps_mem hxm).1) (by omega) y (hbr'.2 y (Tm.ps_mem hym).1) (hbok'.2 y (Tm.ps_mem hym).1) (by omega)
   obtain ⟨q1,q2,q3⟩:=a7l x y
   refine aK ?_
   refine aS (aB (aS (aR ?_)))
   refine nc zj (nc zd ?_)
   refine aS (aD (by kernel_rfl) (by kernel_rfl) ?_)
   refine nc zj (nc zj (nc zj (nc (zz (j:=k) (H:=hx') (hz:=hsz)) (nc zA (nc zj (nc zj (nc (zz (j:=k) (H:=hy') (hz:=hsz2)) (nc zA (nc (z9 (z:=hrec) (B:=y8 _) (C:=q7 _) (G:=j8 (by first | rfl | kernel_rfl))) (nc zd ?_))))))))))
   refine ⟨by kernel_rfl,?_⟩
   refine aS (aR ?_)
   refine nc zj (nc zK ?_)
   refine aC rfl (fun hc=>?_) (fun hc=>?_)
   ·have hne:kb x y≠0:=by simpa using hc
    obtain ⟨e1,e2⟩:=a6f hx hy hne hI
    have hk0:kb a b≠0:=by rw [I7,ne_eq,y7,hw,e2];exact hne
    obtain ⟨l1,l2⟩:=T5 hx
    obtain ⟨m1,m2⟩:=T5 hy
    have sa:=a.size_eq
    have sb:=b.size_eq
    have hA:∀ t∈a.ps.drop (k+1),t.rng∧t.ok:=fun t ht=>⟨hr'.2 t (Tm.ps_mem (List.mem_of_mem_drop ht)).1,hok'.2 t (Tm.ps_mem (List.mem_of_mem_drop ht)).1⟩
    have hB:∀ t∈b.ps.drop (k+1),t.rng∧t.ok:=fun t ht=>⟨hbr'.2 t (Tm.ps_mem (List.mem_of_mem_drop ht)).1,hbok'.2 t (Tm.ps_mem (List.mem_of_mem_drop ht)).1⟩
    have c1:=a1B 1 (.inl rfl) (a.ps.drop (k+1)) (by rw [List.length_drop];omega) hA (scS x y) (x.size+y.size) q1 (by omega)
    have b1:=q1.addL (σ:=1) (.inl rfl) (l:=a.ps.drop (k+1))
    have c2:=a1B (-1) (.inr rfl) (b.ps.drop (k+1)) (by rw [List.length_drop];omega) hB _ _ b1 (by omega)
    rw [List.map_drop] at c1 c2
    have hres:vdS (addL (-1) (addL 1 (scS x y) (a.ps.drop (k+1))) (b.ps.drop (k+1))) (kb x y)=kb a b:=by
     have:=a9u (w:=kb x y) (by have:=sp3 hk0;rw [a9e h,e1] at this;exact this) hne
     rw [this,I7 a b,hw,e2]
    refine aS (aR ?_)
    refine nc zj (nc zj (nc zj (nc zu (nc (zbj (lo:=k+1)) (nc (z9 (z:=c1) (B:=y8 _) (C:=q7 _) (G:=j8 (by first | rfl | kernel_rfl))) ?_)))))
    refine aS (aR ?_)
    refine nc zj (nc zj (nc zj (nc zu (nc (zbj (lo:=k+1)) (nc (z9 (z:=c2) (B:=y8 _) (C:=q7 _) (G:=j8 (by first | rfl | kernel_rfl))) ?_)))))
    refine aS (aR ?_)
    refine nc zj (nc zj (nc (z9 (z:=O0 _ (kb x y)) (B:=y8 _) (C:=q7 _) (G:=j8 (by first | rfl | kernel_rfl))) (nc zd ?_)))
    rw [hres,a9e h,e1]
    exact aT ⟨.inr rfl,_,Wk.refl _,rfl,rfl,rfl,rfl,rfl,rfl,rfl,trivial⟩
   ·have h0:kb x y=0:=by simpa using hc
    rw [q2 h0]
    refine aK ?_
    refine aR ?_
    refine nc zu (nc zj ?_)
    refine ⟨hkl,fun j u v hj hu hv=>?_,a7 ⟨rfl,rfl,rfl,rfl,rfl,rfl,rfl,rfl,rfl,rfl,rfl,trivial⟩⟩
    rcases Nat.lt_or_ge j k with h | h
    ·exact hI j u v h hu hv
    ·have:j=k:=by omega
     subst this
     rw [hx] at hu
     rw [hy] at hv
     cases hu;cases hv
     exact h0
  ·have hkl:k=a.ps.length:=by
    have:¬ k<a.ps.length:=by simpa using hlt
    omega
   subst hkl
   obtain ⟨e1,e2⟩:=a0y (l:=a.ps) (m:=b.ps) fun j u v hu hv=>hI j u v (by
    rcases Nat.lt_or_ge j a.ps.length with h | h
    ·exact h
    ·rw [List.getElem?_eq_none h] at hu;cases hu) hu hv
   have h0:kb a b=0:=by rw [I7,y7,hw,e2]
   rw [h0,sp2 h0]
   refine aE ?_
   refine aS (aR ?_)
   refine nc zd ?_
   exact aT ⟨.inr rfl,_,Wk.refl _,rfl,rfl,rfl,rfl,rfl,rfl,rfl,trivial⟩
theorem b7f:sst emp=b7S 0 0 0:=b1Z rfl
theorem a7H (W:World) (a b:Tm) (hr:a.rng) (hok:a.ok) (hs:a.size≤100000000000) (hbr:b.rng) (hbok:b.ok) (hbs:b.size≤100000000000):AFun Tryz.prog W 40 [a.cw,b.cw] (.val (.i (kb a b))):=by
 have hc:=a5k a hr hok hs b hbr hbok hbs
 rw [b7f] at hc
 refine a8 (rs:=[.i (kb a b)]) Tryz.func40 Tryz.ntmps40 rfl rfl rfl rfl ?_
 intro w U hW
 refine aS (aR ?_)
 refine nc zb (nc zb (nc zd ?_))
 refine aS (aR ?_)
 refine nc (zbt 350001 (hnf:=fun v h=>by first | (rw [hW.1] at h;cases h) | (have h2:=hU _ v h;cases h2))) ?_
 refine AWp.wk ((a7 (s':=[(2,AV.bp 2 0 []),(100002,.bx a.cw),(3,.bp 3 0 []),(100003,.bx b.cw),(5,.bp 350001 0 []),(450001,.obj),(35500100,.val (.i 0)),(35500101,.val (.sc (.map none))),(35500102,.val (.i 0)),(35500103,.val (.i 0))]) ⟨rfl,rfl,rfl,rfl,rfl,by kernel_rfl,by kernel_rfl,by kernel_rfl,by kernel_rfl,by kernel_rfl,trivial⟩).trans (b4W 35500101 300001 rfl rfl rfl (by kernel_rfl) (by kernel_rfl))) ?_
 refine aS (aR ?_)
 refine nc zE (nc zE (nc (z9 (z:=hc) (B:=by kernel_rfl) (C:=q7 _) (G:=j8 (by first | rfl | kernel_rfl))) (nc zd ?_)))
 exact aT ⟨.inr rfl,rfl⟩
theorem a5h (W:World) (a b:Tm) (hr:a.rng) (hok:a.ok) (hs:a.size≤100000000000) (hbr:b.rng) (hbok:b.ok) (hbs:b.size≤100000000000):AFun Tryz.prog W 81 [a.cw,b.cw] (.val (.b (decide (kb a b=1)))):=by
 refine a8 (rs:=[.b (decide (kb a b=1))]) Tryz.func81 Tryz.ntmps81 rfl rfl rfl rfl ?_
 intro w U hW
 refine aS (aR ?_)
 refine nc zb (nc zb (nc zd ?_))
 refine aS (aR ?_)
 refine nc zE (nc zE (nc (zn (z:=a7H w a b hr hok hs hbr hbok hbs)) (nc zC (nc zd ?_))))
 exact aT ⟨.inr rfl,rfl⟩
noncomputable def b0o (a b:Tm):Bool:=haveI:=Classical.propDecidable;decide (cov a b)
theorem a0u (a b:Tm):b0o a b=true↔cov a b:=by unfold b0o;simp
theorem a4T {α:Type} {l:List α} {k:Nat} {x:α} (h:l[k]?=some x):l.take (k+1)=l.take k++[x]:=by
 rw [List.take_add_one,h];rfl
theorem b3N {α:Type} {l:List α} {k:Nat} {x:α} (h:k<l.length):(l.set k x).take (k+1)=l.take k++[x]:=by
 rw [a4T (x:=x) (by simp [h]),List.take_set_of_le (Nat.le_refl _)]
end Go.Proofs.YtekboofbedakcaaGreat
namespace Go.Proofs.YtekboofbedakcaaGreat
open Go.RowKit
set_option linter.unusedVariables false
set_option linter.unusedSimpArgs false
end Go.Proofs.YtekboofbedakcaaGreat
namespace Go.Proofs.YtekboofbedakcaaGreat
open Go.RowKit
set_option linter.unusedVariables false
set_option linter.unusedSimpArgs false
set_option maxRecDepth 100000
theorem b4P (f g:Int→Tm) (t:Tm):o5 g (o5 f t)=o5 (fun v=>o5 g (f v)) t:=by
 induction t using Tm.indp with
 | h t ih =>
  by_cases hf:t.f<0
  ·rw [p8 hf,p8 hf,a4O,a7o]
  ·rw [Tm.ps_of_sym (by omega)] at ih
   rw [k8 hf,k8 (t:=⟨t.f,_⟩) hf,k8 hf]
   simp only [List.map_map]
   congr 1
   exact List.map_congr_left fun s hs=>ih s hs
theorem b6O {img:Int→Tm} {m:Nat} (hm:1≤m) (h:∀ v,(img v).size≤m) (t:Tm):(o5 img t).size≤t.size*m:=by
 have e:=a4R img t
 have hs:(t.vs.map fun v=>((img v).size:Int)-1).sum≤(t.vs.length:Int)*((m:Int)-1):=by
  generalize t.vs=l
  induction l with
  | nil=>simp
  | cons v l ih =>
   have:=h v
   rw [List.map_cons,List.sum_cons,List.length_cons]
   have e2:((l.length+1:Nat):Int)*((m:Int)-1)=(l.length:Int)*((m:Int)-1)+((m:Int)-1):=by
    rw [Int.natCast_add,Int.add_mul];simp
   rw [e2]
   omega
 have hl:t.vs.length≤t.size:=by
  unfold Tm.vs vsL Tm.size
  rw [List.length_map]
  exact List.length_filter_le _ _
 have h2:(t.vs.length:Int)*((m:Int)-1)≤(t.size:Int)*((m:Int)-1):=Int.mul_le_mul_of_nonneg_right (by omega) (by omega)
 have h3:(t.size:Int)*((m:Int)-1)=(t.size:Int)*(m:Int)-t.size:=by rw [Int.mul_sub,Int.mul_one]
 have h4:((t.size*m:Nat):Int)=(t.size:Int)*(m:Int):=Int.natCast_mul _ _
 omega
end Go.Proofs.YtekboofbedakcaaGreat
namespace Go.Proofs.YtekboofbedakcaaGreat
set_option linter.unusedVariables false
theorem b1I {L:List Bd} {v:Int} {u:Tm} (h:b7 L v=some u):v∈L.map Bd.v:=by
 induction L with
 | nil=>cases h
 | cons b L ih =>
  rw [b7] at h
  split at h
  ·rename_i e;rw [←e];simp
  ·exact List.mem_cons_of_mem _ (ih h)
theorem b1v {L:List Bd} {v:Int} (h:b7 L v=none):v∉L.map Bd.v:=by
 induction L with
 | nil=>simp
 | cons b L ih =>
  rw [b7] at h
  split at h
  ·cases h
  ·rename_i e
   rw [List.map_cons,List.mem_cons]
   rintro (h1 | h1)
   ·exact e h1.symm
   ·exact ih h h1
theorem a6k {L:List Bd} {v:Int} {t:Tm}:(E2 L v t).2.map Bd.v=b0u (L.map Bd.v) v:=by
 unfold E2 b0u
 split
 ·rename_i u hu;rw [if_pos (b1I hu)]
 ·rename_i hu;rw [if_neg (b1v hu)];simp
theorem a4K:∀ {ps ts:List Tm} {L:List Bd},(∀ p∈ps,∀ t L,(mt p t L).1=true→(mt p t L).2.map Bd.v=p.vs.foldl b0u (L.map Bd.v))→ps.length=ts.length→(mts ps ts L).1=true→(mts ps ts L).2.map Bd.v=(ps.flatMap Tm.vs).foldl b0u (L.map Bd.v)
 | [],_,_,_,_,_=>rfl
 | _::_,[],_,_,h,_=>by simp at h
 | p::ps,t::ts,L,ih,hl,h=>by
  rw [A6] at h ⊢
  cases h1:(mt p t L).1 with
  | false=>rw [E9 h1] at h;cases h
  | true =>
   rw [C1 h1] at h ⊢
   rw [a4K (fun q hq=>ih q (List.mem_cons_of_mem _ hq)) (by simpa using hl) h,ih p (by simp) t L h1,List.flatMap_cons,List.foldl_append]
theorem b2H (p:Tm):∀ t L,(mt p t L).1=true→(mt p t L).2.map Bd.v=p.vs.foldl b0u (L.map Bd.v):=by
 induction p using Tm.ind with
 | h f l ih =>
  intro t L h
  by_cases hf:f<0
  ·rw [Q0 _ _ hf,Tm.vs_var hf,a6k];rfl
  ·by_cases h2:f≠t.f∨l.length≠t.l.length
   ·rw [a2T _ hf h2] at h;cases h
   ·rw [Q7 _ hf (by show f=_;omega) (by show l.length=_;omega)] at h ⊢
    rw [Tm.vs_sym hf]
    exact a4K ih (by show l.length=_;omega) h
theorem b8l {p t:Tm} (h:(mt p t []).1=true):(mt p t []).2.map Bd.v=p.nv:=b2H p t [] h
theorem a7M:∀ {ps ts:List Tm} {L:List Bd} {n:Nat},(∀ p∈ps,∀ t L,∀ b∈(mt p t L).2,b∈L∨b.t.size≤t.size)→(∀ t∈ts,t.size≤n)→∀ b∈(mts ps ts L).2,b∈L∨b.t.size≤n
 | [],_,_,_,_,_,b,hb => .inl hb
 | _::_,[],_,_,_,_,b,hb => .inl hb
 | p::ps,t::ts,L,n,ih,hn,b,hb=>by
  rw [A6] at hb
  have h0:b∈(mt p t L).2→b∈L∨b.t.size≤n:=fun hb=>(ih p (by simp) t L b hb).imp id fun h=>Nat.le_trans h (hn t (by simp))
  cases h1:(mt p t L).1 with
  | false=>rw [E9 h1] at hb;exact h0 hb
  | true =>
   rw [C1 h1] at hb
   rcases a7M (fun q hq=>ih q (List.mem_cons_of_mem _ hq)) (fun q hq=>hn q (List.mem_cons_of_mem _ hq)) b hb with h | h
   ·exact h0 h
   ·exact .inr h
theorem b0i (p:Tm):∀ t L,∀ b∈(mt p t L).2,b∈L∨b.t.size≤t.size:=by
 induction p using Tm.ind with
 | h f l ih =>
  intro t L b hb
  by_cases hf:f<0
  ·rw [Q0 _ _ hf] at hb
   unfold E2 at hb
   split at hb
   ·exact .inl hb
   ·rcases List.mem_append.1 hb with hb | hb
    ·exact .inl hb
    ·rw [List.mem_singleton] at hb;rw [hb];exact .inr (Nat.le_refl _)
  ·by_cases h2:f≠t.f∨l.length≠t.l.length
   ·rw [a2T _ hf h2] at hb;exact .inl hb
   ·rw [Q7 _ hf (by show f=_;omega) (by show l.length=_;omega)] at hb
    refine a7M ih (fun s hs=>?_) b hb
    have:s∈t.ps:=by rw [Tm.ps_of_sym (by omega)];exact hs
    exact Nat.le_of_lt (Tm.size_part this)
theorem b3A (L:List Bd):Ext L (t9 L):=fun v u h=>by unfold t9;rw [h];rfl
theorem b3d (L:List Bd) (v:Int):b7 (L.map fun b=>⟨b.v,b.t.strip⟩) v=(b7 L v).map Tm.strip:=by
 induction L with
 | nil=>rfl
 | cons b L ih =>
  rw [List.map_cons,b7,b7]
  split
  ·rfl
  ·exact ih
theorem a5G {p t:Tm} {M:Int→Tm} (h:o5 M p=t.strip):(mt p t []).1=true:=(b5V M p t [] (fun v u h=>by cases h) h).1
theorem a9c {p t:Tm} (h:(mt p t []).1=true):o5 (t9 (mt p t []).2) p=t.strip:=b2u _ p t [] h (b3A _)
end Go.Proofs.YtekboofbedakcaaGreat
namespace Go.Proofs.YtekboofbedakcaaGreat
open Go.RowKit Go.MapKept
set_option linter.unusedVariables false
set_option linter.unusedSimpArgs false
set_option maxRecDepth 100000
def b4B (P:Program) (n:Nat) (f:FuncId) (pre:AS) (args:List AV) (r:AV) (post:AS):Prop:=
 b4m P f∧∀ (U:UX) (w:World) (hv:Nat→Value) (a0:Act) (vs:List Value),n≤w.heap.size→(∀ k v,U.f k=some v→o9 (kO pre) k=true)→SimG w U 0 pre a0 w (fun _ _=>False) hv→AVReps (Us w U (fun _ _=>False)) w hv (b6 pre) args vs →
  Calls P f vs.toArray w fun e w'=>∃ v D' hv' a',e = .returned v∧SimG w U 0 post a' w' D' hv'∧AVRep (Us w U D') w' hv' (b6 post) r v
section
variable {P:Program} {w0:World} {U0:UX} {nt:Nat} {ops:Array Oper} {o:Oper} {S:Nat→Option AV} {gs:List Nat} {d:Nat}
theorem b6b {n:Nat} (hn0:n≤w0.heap.size) {f:FuncId} {xs:Array Operand} {ts:Array TypeId} {avs:List AV} {r:AV} {pre post:AS} (hg:Gd w0 U0 nt ops o gs S) (hd:o.dst=some d) (hn:Nat.blt d nt=true) (h5:Nat.blt d 100000=true)
  (ho:o.op = .call { callee := .value (.func f),args:=xs,argTypes:=ts }) (hx:a9t S xs.toList=some avs) (hc:b4B P n f pre avs r post) (hp:SubS S pre) (hl:pre.all Y0=true) (hq:post.all (Q1 (kO post))=true) (hks:(kO pre).all (o9 (kO post))=true) (hr:a7K (kO post) r=true) (hnb:∀ k v,U0.f k=some v→o9 (kO post) k=true→o9 (kO pre) k=true) :
  AOp P w0 U0 nt ops o (gs++(rdl xs.toList++kO pre)) (W9 (kO pre) (kO post) (kO post)) S ((d,r)::post):=by
 intro s hs hN a w ⟨D,hv,h⟩ Q K hK
 rw [if_pos (hg s (fun k hk=>hs k (List.mem_append_left _ hk)) a w D hv h)]
 have hargs:=a3y h (fun k hk=>hs k (List.mem_append_right _ (List.mem_append_left _ hk))) hx
 have hsub:Sub s pre:=fun k av h1=>(hs k (List.mem_append_right _ (List.mem_append_right _ (t8 h1)))).trans (hp.look h1)
 obtain ⟨V,v1,v2,v3,v4,v5,v6⟩:=h.lend hsub hl
 obtain ⟨h1,h2⟩:=hc
 have hcall:=h2 V w hv ⟨#[],[]⟩ _ (Nat.le_trans hn0 h.below.size) v1 v2 (hargs.imp fun c _ v hcv=>hcv.move v6 (fun _ h3=>h3.imp id fun ⟨e,he⟩=>⟨e,hsub _ _ he.1,he.2⟩) fun _=>rfl)
 have he:(execOp a.eval o).run P w = .ok (.enter f (xs.toList.map a.eval).toArray) w:=by
  have hf:a.eval (.func f) = .func (.func f) #[] #[]:=rfl
  have hen:=h1 (xs.map a.eval) w
  have harr:(xs.toList.map a.eval).toArray=xs.map a.eval:=by apply Array.ext';simp
  rw [harr]
  generalize a.eval=ρ at hf hen ⊢
  simp [execOp,ho,resolve,invoke,Deferred.ofValue,hf,hen]
 unfold Oper.wp
 rw [he,Oper.upon_enter]
 refine hcall.mono ?_
 rintro e w' ⟨v,D',hv',a',rfl,h6,h7⟩
 rw [hd]
 obtain ⟨D2,hv2,h8,h9⟩:=h.back hsub hl hq hks hN hnb v3 v4 v5 v2 h6
 exact hK _ _ ⟨D2,hv2,h8.put (bL hn) (bL h5) (h9.1 r v hr h7)⟩
theorem zbu {P:Program} {w0:World} {U0:UX} {nt:Nat} {ops:Array Oper} {o:Oper} {S:Nat→Option AV} {gs:List Nat} {d:Nat} {n:Nat} {f:FuncId} {xs:Array Operand} {ts:Array TypeId} {avs:List AV} {r:AV} {pre:AS} {post:AS} (hn0:n≤w0.heap.size) (p:Gd w0 U0 nt ops o gs S:=by exact gN rfl) (q:o.dst=some d:=by exact rfl) (t:Nat.blt d nt=true:=by exact rfl) (u:Nat.blt d 100000=true:=by exact rfl) (x:o.op = .call { callee := .value (.func f),args:=xs,argTypes:=ts }:=by exact rfl) (y:a9t S xs.toList=some avs:=by exact rfl) (z:b4B P n f pre avs r post) (A:SubS S pre:=by repeat (first | exact trivial | refine ⟨rfl,?_⟩)) (B:pre.all Y0=true:=by first | rfl | kernel_rfl) (C:post.all (Q1 (kO post))=true:=by first | rfl | kernel_rfl) (E:(kO pre).all (o9 (kO post))=true:=by first | rfl | kernel_rfl) (F:a7K (kO post) r=true:=by first | rfl | kernel_rfl) (G:∀ k v,U0.f k=some v→o9 (kO post) k=true→o9 (kO pre) k=true):AOp P w0 U0 nt ops o (gs++(rdl xs.toList++kO pre)) (W9 (kO pre) (kO post) (kO post)) S ((d,r)::post):=b6b hn0 p q t u x y z A B C E F G
end
structure RuT where
 id:Int
 a:Tm
 b:Tm
noncomputable abbrev RuT.cw (r:RuT):CV := .row [.i r.id,r.a.cw,r.b.cw]
noncomputable def RuT.cv (r:RuT):CV:=r.cw
theorem RuT.size_all (l:List RuT):∀ c∈l.map RuT.cv,c.size=5:=by
 intro c hc
 obtain ⟨b,_,rfl⟩:=List.mem_map.1 hc
 rfl
theorem RuT.map_at {l:List RuT} {i:Nat} {b:RuT} (h:l[i]?=some b):(l.map RuT.cv)[i]?=some b.cw:=by rw [List.getElem?_map,h];rfl
noncomputable def Bd.ev (b:Bd):CV := .row [.sc (.int .i64 b.v),b.t.cw]
theorem a9L (L:List Bd):C4 .i64 (L.map Bd.ev):=by
 intro r hr
 obtain ⟨b,_,rfl⟩:=List.mem_map.1 hr
 exact ⟨_,_,rfl⟩
theorem a9I (v:Int):∀ L:List Bd,K6 .i64 v (L.map Bd.ev)=(b7 L v).map Tm.cw
 | []=>rfl
 | b::L=>by
  rw [List.map_cons,show b.ev = .row [.sc (.int .i64 b.v),b.t.cw] from rfl,M3,b7,a9I v L]
  split<;>rfl
theorem b4c (v:Int) (c:CV):∀ L:List Bd,b7 L v=none→a0O .i64 v c (L.map Bd.ev)=L.map Bd.ev++[.row [.sc (.int .i64 v),c]]
 | [],_=>rfl
 | b::L,h=>by
  rw [b7] at h
  split at h
  ·cases h
  ·rename_i hne
   rw [List.map_cons,show b.ev = .row [.sc (.int .i64 b.v),b.t.cw] from rfl,a0q,if_neg hne,b4c v c L h]
   rfl
theorem b2j (B:Int→Option Tm):∀ t:Tm,J2 B t=o5 (fun v=>(B v).getD ⟨0,[]⟩) t:=by
 intro t
 induction t using Tm.ind with
 | h f l ih =>
  rw [a3K]
  by_cases hf:f<0
  ·rw [if_pos hf,p8 (t:=⟨f,l⟩) hf]
  ·rw [if_neg hf,k8 (t:=⟨f,l⟩) hf,List.map_congr_left ih]
theorem D4:∀ t:Tm,t.rng→t.strip.rng:=by
 intro t
 induction t using Tm.ind with
 | h f l ih =>
  intro h
  rw [Tm.rng_iff] at h ⊢
  rw [Tm.strip_f,Tm.strip_l]
  refine ⟨h.1,fun s hs=>?_⟩
  obtain ⟨u,hu,rfl⟩:=List.mem_map.1 hs
  exact ih u (Tm.ps_mem hu).1 (h.2 u (Tm.ps_mem hu).1)
theorem b7a {f g:Int→Tm}:∀ t:Tm,(∀ v∈t.vs,(f v).strip=(g v).strip)→o5 f t=o5 g t:=by
 intro t
 induction t using Tm.ind with
 | h n l ih =>
  intro h
  by_cases hn:n<0
  ·rw [p8 (t:=⟨n,l⟩) hn,p8 (t:=⟨n,l⟩) hn]
   exact h _ (by rw [Tm.vs_var (t:=⟨n,l⟩) hn];simp)
  ·rw [k8 (t:=⟨n,l⟩) hn,k8 (t:=⟨n,l⟩) hn]
   rw [List.map_congr_left fun x hx=>ih x hx fun v hv=>h v (by rw [Tm.vs_sym (t:=⟨n,l⟩) hn];exact List.mem_flatMap.2 ⟨x,hx,hv⟩)]
theorem a6q (n:Nat) (L:List Bd) (t:Tm) (hr:t.rng) (hL:∀ b∈L,b.t.rng) (hF:U6 (b7 L) t) (s:Tm) (hs:J2 (b7 L) t=s):b4B Tryz.prog n 82 [(400002,.mp (L.map Bd.ev))] [.val t.cw,.mref 400002] (.val (.row [.i s.f,.own n (s.l.map Tm.cv)])) [(400002,.mp (L.map Bd.ev))]:=by
 refine ⟨r9 Tryz.func82 rfl rfl,?_⟩
 rintro U w hv a0 vs hn hU hS ⟨u1,us1,rfl,h1,u2,us2,rfl,h2,h3⟩
 have h3:us2=[]:=h3
 subst h3
 have h1:VRep (Us w U fun _ _=>False) w t.cw u1:=h1.1
 obtain ⟨a,m,c,rfl,hta⟩:=k9 hr h1
 have h2:RN 400002∧u2=hv 400002∧u2.oneCell'=true:=h2
 obtain ⟨g,es,clock,g1,g2,g3,g4,g5⟩:∃ g es clock,hv 400002 = .map (some g)∧w.heap[g]?=some (.map es clock)∧Ents (Us w U fun _ _=>False) w (L.map Bd.ev) es.toList∧(∀ e∈es,e.born<clock)∧(es.toList.map (fun e:MapEntry=>e.born)).Nodup:=hS.obj 400002 _ (lS _ _ _) (by unfold n7;omega)
 have hM:MapT w g (b7 L):=by
  refine ⟨es,clock,g2,fun v s hv=>?_⟩
  have hk:=a9I v L
  rw [hv] at hk
  rcases H5 0 g3 (a9L L) (i:=v) with ⟨_,f2⟩ | ⟨j,e,c,f1,f2,f3,f4,f5,f6⟩
  ·rw [f2] at hk;cases hk
  ·rw [f6] at hk
   have hc:c=s.cw:=by simpa using hk
   subst hc
   have hsr:s.rng:=by
    have:∀ L:List Bd,(∀ b∈L,b.t.rng)→b7 L v=some s→s.rng:=by
     intro L
     induction L with
     | nil=>intro _ h;cases h
     | cons b L ih =>
      intro h1 h2
      rw [b7] at h2
      split at h2
      ·cases h2;exact h1 b (by simp)
      ·exact ih (fun b hb=>h1 b (List.mem_cons_of_mem _ hb)) h2
    exact this L hL hv
   obtain ⟨a',n',c',e1,e2⟩:=k9 hsr f4
   exact ⟨j,a',n',c',by rw [f1,e1,Nat.zero_add],e2⟩
 rw [h2.2.1,g1]
 refine (a6y t _ a m c w hta hM hF).mono ?_
 rintro e w' ⟨x,a',n',c',hxt,hxf,hxh,rfl,hxr,hxn,_,hb⟩
 rw [hs] at hxt hxf ⊢
 refine ⟨_,Dn (fun _ _=>False) w w',hv,a0,rfl,hS.growN hb,i7 ?_⟩
 refine A5.2 ⟨[.int .i64 s.f,.slice a' n' c'],rfl,?_⟩
 refine ⟨[.int .i64 s.f],[.slice a' n' c'],rfl,F3 _ _,[.slice a' n' c'],[],rfl,a9Y.2 ⟨x,by rw [hxh],by rw [a0i,←XT.tm_l,hxt],hxr.keepB fun b o v hb2 hu hc=>⟨⟨.inr ⟨hu,.inr ⟨hu,(hxr.lt b hb2).1⟩⟩,by omega⟩,hc⟩,hxn⟩,rfl⟩
theorem b1j {L:List Bd} (hL:∀ b∈L,b.t.size≤90000000000):∀ t:Tm,t.ok→(∀ v∈t.vs,(b7 L v).isSome)→U6 (b7 L) t:=by
 intro t
 induction t using Tm.ind with
 | h f l ih =>
  intro hok hv
  rw [a2N]
  by_cases hf:f<0
  ·rw [if_pos (show (Tm.mk f l).f<0 from hf)]
   have:=hv (-1-f) (by rw [Tm.vs_var (t:=⟨f,l⟩) hf];simp)
   obtain ⟨s,hs⟩:=Option.isSome_iff_exists.1 this
   refine ⟨s,hs,?_⟩
   have:∀ L:List Bd,(∀ b∈L,b.t.size≤90000000000)→b7 L (-1-f)=some s→s.size≤90000000000:=by
    intro L
    induction L with
    | nil=>intro _ h;cases h
    | cons b L ih =>
     intro h1 h2
     rw [b7] at h2
     split at h2
     ·cases h2;exact h1 b (by simp)
     ·exact ih (fun b hb=>h1 b (List.mem_cons_of_mem _ hb)) h2
   exact this L hL hs
  ·rw [if_neg (show ¬ (Tm.mk f l).f<0 from hf)]
   rw [Tm.ok] at hok
   exact ⟨by show l.length≤_;omega,fun x hx=>ih x hx (hok.2 x hx) fun v hvx=>hv v (by rw [Tm.vs_sym (t:=⟨f,l⟩) hf];exact List.mem_flatMap.2 ⟨x,hx,hvx⟩)⟩
theorem a4S (W:World) (r:RuT) (t:Tm) (har:r.a.rng) (hao:r.a.ok) (hav:r.a.vs.length≤65) (htr:t.rng) (hts:t.size≤90000000000) (hm:(mt r.a t []).1=false):AFun Tryz.prog W 46 [r.cw,t.cw] (.tup [.row [.i 0,.lst []],.b false]):=by
 have hM:∀ w,AFun Tryz.prog w 80 [.lst [],r.a.cw,t.cw] (.tup [.lst ((a1X [] r.a t).map Bd.cv),.b false]):=fun w=>by
  have:=a1L w [] r.a t har hao htr (by simpa using hav) (fun b hb=>by cases hb) (fun b hb=>by
   rcases b0i r.a t [] b hb with h | h
   ·cases h
   ·omega)
  rw [hm] at this
  exact this
 refine a8 (rs:=[.row [.i 0,.lst []],.b false]) Tryz.func46 Tryz.ntmps46 rfl rfl rfl rfl ?_
 intro w U hW
 refine aS (aR ?_)
 refine nc zb (nc zb (nc zw (nc zd ?_)))
 refine aS (aR ?_)
 refine nc ze (nc zg (nc zE (nc (zn (z:=hM w)) (nc zj (nc zD (nc zD (nc zd (nc zd ?_))))))))
 refine aS (aS (aR ?_))
 refine nc zj (nc zt (nc zj (nc zM (nc zM (nc zM (nc zM (nc zM (nc zM (nc zO ?_)))))))))
 refine aC rfl (fun _=>?_) (fun hc=>by cases hc)
 refine aS (aR ?_)
 refine nc zx (nc zy (nc zd ?_))
 exact aT ⟨.inr rfl,rfl⟩
theorem b8p (n:Nat) (r:RuT) (t:Tm) (har:r.a.rng) (hao:r.a.ok) (hav:r.a.vs.length≤65) (has:r.a.size≤90000000000) (hbr:r.b.rng) (hbo:r.b.ok) (hbs:r.b.size≤90000000000) (hbv:∀ v∈r.b.vs,v∈r.a.vs) (htr:t.rng) (hts:t.size≤90000000000) (hm:(mt r.a t []).1=true) (hk:kb r.a r.b=1) (s:Tm) (hs:o5 (t9 (mt r.a t []).2) r.b=s):Y7 Tryz.prog (fun _ w=>n≤w.heap.size) 46 [r.cw,t.cw] (.tup [.row [.i s.f,.own n (s.l.map Tm.cv)],.b true]):=by
 have hMz:∀ b∈(mt r.a t []).2,b.t.size≤90000000000:=fun b hb=>by
  rcases b0i r.a t [] b hb with h | h
  ·cases h
  ·omega
 obtain ⟨M,hMd⟩:∃ M,M=a1X [] r.a t:=⟨_,rfl⟩
 have hM:∀ w,AFun Tryz.prog w 80 [.lst [],r.a.cw,t.cw] (.tup [.lst (M.map Bd.cv),.b true]):=fun w=>by
  have:=a1L w [] r.a t har hao htr (by simpa using hav) (fun b hb=>by cases hb) hMz
  rw [hm,←hMd] at this
  exact this
 have hMc:M=(mt r.a t []).2.map clB:=by rw [hMd];unfold a1X;rw [if_pos hm]
 have hMn:(M.map Bd.v).Nodup:=by
  have h1:M.map Bd.v=r.a.nv:=by rw [←b8l hm,hMc,List.map_map];rfl
  rw [h1];exact b1S _
 have hG:∀ w,AFun Tryz.prog w 81 [r.a.cw,r.b.cw] (.val (.b true)):=fun w=>by
  have:=a5h w r.a r.b har hao (by omega) hbr hbo (by omega)
  rw [decide_eq_true hk] at this
  exact this
 have hrM:∀ b∈M,b.t.rng:=fun b hb=>by
  rw [hMc] at hb
  obtain ⟨b',hb',rfl⟩:=List.mem_map.1 hb
  exact D4 _ (rngL.mt r.a t [] htr (fun b hb=>by cases hb) b' hb')
 have hzM:∀ b∈M,b.t.size≤90000000000:=fun b hb=>by
  rw [hMc] at hb
  obtain ⟨b',hb',rfl⟩:=List.mem_map.1 hb
  have:=hMz b' hb'
  show b'.t.strip.size≤_
  rw [Tm.strip_size];exact this
 have hfM:∀ v,b7 M v=(b7 (mt r.a t []).2 v).map Tm.strip:=fun v=>by rw [hMc];exact b3d _ v
 have hF:U6 (b7 M) r.b:=b1j hzM r.b hbo fun v hv=>by
  rw [hfM]
  have:=b4y r.a t [] hm v (hbv v hv)
  simpa using this
 have hsf:J2 (b7 M) r.b=s:=by
  rw [b2j,←hs]
  refine b7a _ fun v hv=>?_
  have:=b4y r.a t [] hm v (hbv v hv)
  obtain ⟨u,hu⟩:=Option.isSome_iff_exists.1 this
  rw [hfM,hu]
  unfold t9
  rw [hu]
  exact Tm.strip_strip u
 have hMl:M.length≤65:=by
  have h1:M.length=(mt r.a t []).2.length:=by rw [hMc,List.length_map]
  have:=(a8Y r.a t []).le.2
  simp only [List.length_nil] at this
  omega
 have hfill:=a6q n M r.b hbr hrM hF s hsf
 have hszM:=Bd.size_all M
 refine N8 (rs:=[.row [.i s.f,.own n (s.l.map Tm.cv)],.b true]) Tryz.func46 Tryz.ntmps46 rfl rfl rfl rfl ?_
 intro w U hW hn0
 refine aS (aR ?_)
 refine nc zb (nc zb (nc zw (nc zd ?_)))
 refine aS (aR ?_)
 refine nc ze (nc zg (nc zE (nc (zn (z:=hM w)) (nc zj (nc zD (nc zD (nc zd (nc zd ?_))))))))
 refine aS (aS (aR ?_))
 refine nc zj (nc zt (nc zj (nc (ze (r:=gc)) (nc (zg (r:=gc)) (nc (ze (r:=gc)) (nc (zg (r:=gc)) (nc (zn (p:=gc) (z:=hG w)) (nc (zt (r:=gc)) (nc zN ?_)))))))))
 refine aC rfl (fun hc=>by cases hc) (fun _=>aK ?_)
 refine aS (aR ?_)
 refine nc (zbm 300002) (nc zd ?_)
 refine aS (aS (aR ?_))
 refine nc zj (nc zp (nc zj ?_))
 refine aB (b9 M.length (fun k=>[(2,.bp 2 0 []),(100002,.bx r.cw),(4,.bp 4 0 []),(100004,_),(8,.mref 300002),(300002,.mp ((M.take k).map Bd.ev)),(30,.val (.lst (M.map Bd.cv))),(31,.val (.i (M.map Bd.cv).length)),(32,.val (.i k))]) (a7 ⟨rfl,rfl,rfl,rfl,rfl,rfl,rfl,rfl,rfl,trivial⟩) ?_)
 intro k hk2
 refine aS (aR ?_)
 refine nc zh ?_
 refine aS (aC rfl (fun hc=>aK ?_) (fun hc=>aE ?_))
 ·have hkl:k<M.length:=by simpa using hc
  clear hc
  obtain ⟨b,hb⟩:∃ b,M[k]?=some b:=⟨M[k],List.getElem?_eq_getElem hkl⟩
  have hb':=Bd.map_at hb
  have hnone:b7 (M.take k) b.v=none:=a3j fun c hc e=>by
   obtain ⟨i,hi⟩:=List.getElem?_of_mem hc
   have hik:i<k:=by
    rcases Nat.lt_or_ge i k with h | h
    ·exact h
    ·rw [List.getElem?_eq_none (by rw [List.length_take];omega)] at hi;cases hi
   rw [List.getElem?_take,if_pos hik] at hi
   have:=(List.getElem?_inj (i:=i) (j:=k) (l:=M.map Bd.v) (by rw [List.length_map];omega) hMn).1 (by rw [List.getElem?_map,List.getElem?_map,hi,hb];simp [e])
   omega
  refine aS (aB (aS (aR ?_)))
  refine nc (zz (j:=k) (H:=hb') (hz:=hszM)) (nc zA (nc zw (nc zy ?_)))
  refine aR ?_
  refine nc zj (nc ze (nc zg (nc ze (nc zg (nc (zbo (G:=a9L _)) ?_)))))
  refine aR ?_
  refine nc zu (nc zj ?_)
  refine ⟨hkl,a7 ⟨rfl,rfl,rfl,rfl,rfl,?_,rfl,rfl,rfl,trivial⟩⟩
  have e:(M.take (k+1)).map Bd.ev=a0O .i64 b.v b.t.cw ((M.take k).map Bd.ev):=by
   rw [b4c b.v b.t.cw (M.take k) hnone,List.take_add_one,hb,List.map_append]
   rfl
  rw [e]
  rfl
 ·have hkl:k=M.length:=by
   have:¬ k<M.length:=by simpa using hc
   omega
  subst hkl
  rw [List.take_length]
  refine AWp.wk ((a7 (s':=[(2,AV.bp 2 0 []),(100002,.bx r.cw),(4,.bp 4 0 []),(100004,_),(8,.mref 300002),(300002,.mp (M.map Bd.ev))]) ⟨rfl,rfl,rfl,rfl,rfl,rfl,trivial⟩).trans (a0L 300002 400002 rfl rfl (hW.1 _) (by kernel_rfl) (by kernel_rfl) (by kernel_rfl))) ?_
  refine aS (aR ?_)
  refine nc ze (nc zg (nc zj ?_))
  refine nc (zbu hn0 (z:=hfill) (G:=fun k v h=>by first | (rw [hW.1] at h;cases h) | (have h2:=hU k v h;cases h2))) ?_
  refine nc zy (nc zd ?_)
  exact aT ⟨.inr rfl,rfl⟩
end Go.Proofs.YtekboofbedakcaaGreat
namespace Go.Proofs.YtekboofbedakcaaGreat
open Go.RowKit
set_option linter.unusedVariables false
set_option linter.unusedSimpArgs false
set_option maxRecDepth 100000
abbrev b8S (b off:Nat):CV := .fn 78 0 [.ptr (v8 b off)]
noncomputable abbrev a8L (b off:Nat) (R:List RuT):CV := .fn 44 0 [.ptr (v8 b off),.ptr (.lst (R.map RuT.cv))]
theorem a5g (W:World) (b off:Nat):AFun Tryz.prog W 45 [v8 b off] (.val (b8S b off)):=by
 refine a8 (rs:=[b8S b off]) Tryz.func45 Tryz.ntmps45 rfl rfl rfl rfl ?_
 intro w U hW
 refine aS (aR ?_)
 refine nc zb (nc zd ?_)
 refine AWp.wk (E0 1 rfl rfl rfl (s':=[]) trivial rfl rfl rfl) ?_
 refine aS (aR ?_)
 refine nc zG (nc zd ?_)
 exact aT ⟨.inr rfl,rfl⟩
theorem T6 (W:World) (b off:Nat) (R:List RuT):AFun Tryz.prog W 27 [.lst (R.map RuT.cv),v8 b off] (.val (a8L b off R)):=by
 refine a8 (rs:=[a8L b off R]) Tryz.func27 Tryz.ntmps27 rfl rfl rfl rfl ?_
 intro w U hW
 refine aS (aR ?_)
 refine nc zb (nc zb (nc zd ?_))
 refine AWp.wk ((E0 3 rfl rfl rfl (s':=[(2,AV.bp 2 0 []),(100002,.bx (.lst (R.map RuT.cv)))]) ⟨rfl,rfl,trivial⟩ rfl rfl rfl).trans (E0 2 rfl rfl rfl (s':=[(3,AV.val (.ptr (v8 b off)))]) ⟨rfl,trivial⟩ rfl rfl rfl)) ?_
 refine aS (aR ?_)
 refine nc zG (nc zd ?_)
 exact aT ⟨.inr rfl,rfl⟩
theorem b7p (hit:Tm→Bool) (F:World→World→Prop) (l:Nat) (x:XT) (b off:Nat) (hn:o6 hit x.tm=none):Y7 Tryz.prog (WQ Tryz.prog hit F l x b off) 78 [L8 l,.ptr (v8 b off)] (A4 []):=by
 refine N8 (rs:=[]) Tryz.func78 Tryz.ntmps78 rfl rfl rfl rfl ?_
 intro w U hW hq
 have hQ:=b2d Tryz.prog hit F l x b off
 refine aR ?_
 refine nc zY (nc zj (nc (zr hQ hW hq (A:=a9r hit F l x b off hn)) ?_))
 exact ⟨.inl rfl,rfl⟩
theorem b7E (hit:Tm→Bool) {X:Nat→Prop} (F:World→World→Prop) (hF:a8m X F) (l:Nat) (x:XT) (b off:Nat) (hn:o6 hit x.tm≠none):a6g Tryz.prog (WQ Tryz.prog hit F l x b off) 78 [L8 l,.ptr (v8 b off)] (A4 []) F:=by
 refine a3E (rs:=[]) Tryz.func78 Tryz.ntmps78 rfl rfl rfl rfl hF (fun c hc=>by cases hc) ?_
 intro w U hW hq
 have hQ:=b2d Tryz.prog hit F l x b off
 refine A0 (r := .val (.b false)) 2 [] rfl rfl rfl rfl rfl ?_ (fun w1 hw1=>?_)
 ·skip
  (refine J3 (AOp.y (s5 (gN rfl) rfl rfl rfl rfl rfl rfl rfl rfl rfl)) rfl ?_)
  (refine J3 (AOp.y (aM (gN rfl) rfl rfl rfl rfl rfl)) rfl ?_)
  exact ⟨trivial,a1k hF hQ hW hq (b5Z hit F hF l x b off hn) (gN rfl) rfl rfl⟩
 ·skip
  exact ⟨.inl rfl,rfl⟩
end Go.Proofs.YtekboofbedakcaaGreat
namespace Go.Proofs.YtekboofbedakcaaGreat
open Go.RowKit Go.MapKept
set_option linter.unusedVariables false
set_option linter.unusedSimpArgs false
structure a9o (N:Nat) (G:World→Prop):Prop where
 up:∀ B C,G B→Below B.heap.size B C→G C
 book:∀ B l o o',N≤l→B.heap[l]?=some o→o.isCells=false→o'.isCells=false→G B→G (B.putObj l o')
def FR (X:Nat→Prop) (G:World→Prop) (A B:World):Prop:=(B.os=A.os∧B.tape=A.tape∧B.output=A.output)∧A.heap.size≤B.heap.size∧(∀ b,¬ X b→b<A.heap.size→B.heap[b]?=A.heap[b]?)∧G B
theorem U8 {N:Nat} {X:Nat→Prop} {G:World→Prop} (h:a9o N G):a8m X (FR X G):=by
 refine ⟨fun A B C ⟨⟨k1,k2,k3⟩,h1,h2,h3⟩ hb=>⟨⟨hb.os.trans k1,hb.tape.trans k2,hb.output.trans k3⟩,Nat.le_trans h1 hb.size,fun b hx hl=>(hb.block b (by omega)).trans (h2 b hx hl),h.up _ _ h3 hb⟩,fun A B C hb ⟨⟨k1,k2,k3⟩,h1,h2,h3⟩=>⟨⟨k1.trans hb.os,k2.trans hb.tape,k3.trans hb.output⟩,Nat.le_trans hb.size h1,fun b hx hl=>(h2 b hx (Nat.lt_of_lt_of_le hl hb.size)).trans (hb.block b hl),h3⟩,fun A B ⟨_,h1,h2,_⟩=>⟨h1,h2⟩⟩
section
variable {P:Program}
theorem a1x {g:Operand} {ps:Array Tmp} {assign body:Code} {Q:Exit→Act→World→Prop} {a:Act} {w:World} {gf:Nat} {lb:Array Value}
  (hg:a.eval g = .func (.func gf) #[] lb) (eg:∀ args w,(callFunc gf args).run P w = .ok (.enter gf args) w)
  (b:Bool) {N:Nat} {X:Nat→Prop} {G:World→Prop} (hG:a9o N G) (hN:N≤w.heap.size) (hX:∀ b,X b→b<w.heap.size) (Yt Yf:List Value→World→Prop)
  (hps:∀ vs A,Yt vs A∨Yf vs A→vs.length=ps.size)
  (hIt:∀ (l:Nat) (W:World) (N2:Nat) (X2:Nat→Prop) (G2:World→Prop),a9o N2 G2→N2≤W.heap.size→(∀ b,X2 b→b<W.heap.size)→Below w.heap.size w W →
   (∀ vs A,Yt vs A→Below W.heap.size W A→YieldAt Fence.wide 1 P l vs.toArray A fun e B=>e = .returned (.bool true)∧Below A.heap.size A B) →
   (∀ vs A,Yf vs A→Below W.heap.size W A→YieldAt Fence.wide 1 P l vs.toArray A fun e B=>e = .returned (.bool false)∧FR X2 G2 A B) →
   Calls P gf (#[.func (.yield l) #[] #[]]++lb) W fun e V=>(∃ v,e = .returned v)∧(b=true→Below W.heap.size W V)∧(b=false→FR X2 G2 W V))
  (hbt:∀ (vs:List Value) (A:World) (r:Loop),Yt vs A→Below w.heap.size w A→A.heap[w.heap.size+1]?=some (.loop r)→w.heap.size+2≤A.heap.size →
   assign.wpIn (Fence.wide.inRound (w.heap.size+1)) 1 P (Exit.then (fun a1 A1=>Below A.heap.size A A1∧body.wpIn (Fence.wide.inRound (w.heap.size+1)) 1 P (fun e _ B=>e = .normal∧Below A1.heap.size (A1.putObj (w.heap.size+1) (.loop { r with state := .busy })) B) a1 (A1.putObj (w.heap.size+1) (.loop { r with state := .busy }))) (fun _ _ _=>False))
    { tmps:=(ps.zip vs.toArray).foldl (fun t (p,v)=>t.setIfInBounds p v) a.tmps,defers:=[] } A)
  (hbf:∀ (vs:List Value) (A:World) (r:Loop),Yf vs A→Below w.heap.size w A→A.heap[w.heap.size+1]?=some (.loop r)→w.heap.size+2≤A.heap.size →
   assign.wpIn (Fence.wide.inRound (w.heap.size+1)) 1 P (Exit.then (fun a1 A1=>Below A.heap.size A A1∧body.wpIn (Fence.wide.inRound (w.heap.size+1)) 1 P (fun e _ B=>e = .ret∧FR X G (A1.putObj (w.heap.size+1) (.loop { r with state := .busy })) B) a1 (A1.putObj (w.heap.size+1) (.loop { r with state := .busy }))) (fun _ _ _=>False))
    { tmps:=(ps.zip vs.toArray).foldl (fun t (p,v)=>t.setIfInBounds p v) a.tmps,defers:=[] } A)
  (hdone:b=true→∀ W:World,Below w.heap.size w W→W.heap[w.heap.size]?=some (.deferred (some []))→Q .normal { a with defers:={ target := .collected w.heap.size,args := #[] }::a.defers } W)
  (hstop:b=false→∀ W:World,FR X G w W→W.heap[w.heap.size]?=some (.deferred (some []))→Q .ret { a with defers:={ target := .collected w.heap.size,args := #[] }::a.defers } W) :
  (Code.rangeFunc g ps assign body).wpIn Fence.wide 3 P Q a w:=by
 refine wpIn_rangeFunc fun fn hfn=>?_
 obtain ⟨D,hD⟩:∃ D,D=w.heap.size:=⟨_,rfl⟩
 obtain ⟨rec,hrec⟩:∃ rec:LoopState→Option Code→Loop,rec=fun st pe=>{ state:=st,pending:=pe,fn,tmps:=a.tmps,params:=ps,assign,body,defers:=w.heap.size }:=⟨_,rfl⟩
 obtain ⟨W1,hW1⟩:∃ W1,W1=(w.alloc (.deferred (some []))).alloc (.loop (rec .ready none)):=⟨_,rfl⟩
 have below1:Below w.heap.size w W1:=by rw [hW1];exact ((Below.refl _ w).alloc (Nat.le_refl _) _).alloc (by simp) _
 have hsz1:W1.heap.size=w.heap.size+2:=by rw [hW1];simp
 have atL:W1.heap[w.heap.size+1]?=some (.loop (rec .ready none)):=by
  have:=World.alloc_heap_new (w.alloc (.deferred (some []))) (.loop (rec .ready none))
  rw [World.size_alloc,←hW1] at this
  exact this
 have atD:W1.heap[w.heap.size]?=some (.deferred (some [])):=by
  rw [hW1,Below.heap_alloc _ _ _ (by simp)]
  exact World.alloc_heap_new w (.deferred (some []))
 let G2:World→Prop:=fun B=>G B∧B.heap[w.heap.size+1]?=some (.loop (rec .done (some .ret)))∧B.heap[w.heap.size]?=some (.deferred (some []))
 let X2:Nat→Prop:=fun b=>X b∨b=w.heap.size+1
 have hnX:∀ b,w.heap.size≤b→¬ X b:=fun b hb hx=>by have:=hX b hx;omega
 have hG2:a9o (w.heap.size+2) G2:=by
  refine ⟨fun B C ⟨h1,h2,h3⟩ hb=>⟨hG.up _ _ h1 hb,(hb.block _ (Array.getElem?_eq_some_iff.1 h2).1).trans h2,(hb.block _ (Array.getElem?_eq_some_iff.1 h3).1).trans h3⟩,fun B l o o' hl ho hc hc' ⟨h1,h2,h3⟩=>⟨hG.book B l o o' (by omega) ho hc hc' h1,(World.putObj_heap_other (by omega)).trans h2,(World.putObj_heap_other (by omega)).trans h3⟩⟩
 refine ⟨w.heap.size+1,[{ target := .collected w.heap.size,args := #[] }],W1,{ target := .fn (.func gf) lb,args := #[.func (.yield (w.heap.size+1)) #[] #[]] },W1,gf,#[.func (.yield (w.heap.size+1)) #[] #[]]++lb,W1,?_,?_,fun _ _=>trivial,?_,(fun _=>by omega),?_⟩
 ·rw [hW1,hrec];exact run_enterLoop_outer _ _ _ _ _
 ·simp only [resolve,hg]
  simp [go_sem]
 ·simp [invoke,go_sem,eg]
 have hrun:∀ (vs:List Value) (A:World),Yt vs A∨Yf vs A→Below W1.heap.size W1 A→(Instr.yield (w.heap.size+1) vs.toArray).run P A = .ok (.round (w.heap.size+1) fn ((ps.zip vs.toArray).foldl (fun t (p,v)=>t.setIfInBounds p v) a.tmps) assign body) A:=fun vs A hY hA=>by
  have h2:A.heap[w.heap.size+1]?=some (.loop (rec .ready none)):=(hA.block _ (by omega)).trans atL
  have:=run_yield (P:=P) (args:=vs.toArray) h2 (by rw [hrec];simpa using hps vs A hY)
  rw [hrec] at this
  exact this
 refine a0V (ro:=none) (n:=2) ((hIt (w.heap.size+1) W1 (w.heap.size+2) X2 G2 hG2 (by omega) (fun b hb=>hb.elim (fun h=>by have:=hX b h;omega) fun h=>by omega) below1 (fun vs A hY hA=>?_) (fun vs A hY hA=>?_)).mono ?_)
 ·have h2:A.heap[w.heap.size+1]?=some (.loop (rec .ready none)):=(hA.block _ (by omega)).trans atL
  have hAs:=hA.size
  refine ⟨fn,_,assign,body,hrun vs A (.inl hY) hA,roundIn_of_wpIn hfn (wpIn_mono (hbt vs A _ hY (below1.trans (hA.mono (by omega))) h2 (by omega)) ?_)⟩
  intro e a1 A1 h
  cases e with
  | normal =>
   obtain ⟨h3,h4⟩:=h
   have h5:A1.heap[w.heap.size+1]?=some (.loop (rec .ready none)):=(h3.block _ (by omega)).trans h2
   have hb1:=run_beginRound (P:=P) h5 (by rw [hrec])
   refine ⟨_,hb1,wpIn_mono h4 ?_⟩
   rintro e a3 B ⟨rfl,hB⟩
   have h6:B.heap[w.heap.size+1]?=some (.loop { rec .ready none with state := .busy }):=(hB.block _ (by have:=h3.size;omega)).trans (World.putObj_heap_same (by have:=h3.size;omega))
   have hr:=run_endRound (P:=P) none h6
   refine ⟨_,_,hr,rfl,?_⟩
   have hA1:=h3.size
   have hBs:=hB.size
   rw [World.putObj_size] at hBs
   refine ⟨?_,?_,?_,?_,fun k hk=>?_⟩
   ·exact (hB.os.trans h3.os:_)
   ·exact (hB.tape.trans h3.tape:_)
   ·exact (hB.output.trans h3.output:_)
   ·rw [World.putObj_size];omega
   ·by_cases hkl:k=w.heap.size+1
    ·subst hkl
     rw [World.putObj_heap_same (by omega),h2,hrec]
     simp
    ·rw [World.putObj_heap_other (fun e=>hkl e),hB.block k (by omega),World.putObj_heap_other (fun e=>hkl e)]
     exact h3.block k hk
  | _=>exact h.elim
 ·have h2:A.heap[w.heap.size+1]?=some (.loop (rec .ready none)):=(hA.block _ (by omega)).trans atL
  have h2D:A.heap[w.heap.size]?=some (.deferred (some [])):=(hA.block _ (by omega)).trans atD
  have hAs:=hA.size
  refine ⟨fn,_,assign,body,hrun vs A (.inr hY) hA,roundIn_of_wpIn hfn (wpIn_mono (hbf vs A _ hY (below1.trans (hA.mono (by omega))) h2 (by omega)) ?_)⟩
  intro e a1 A1 h
  cases e with
  | normal =>
   obtain ⟨h3,h4⟩:=h
   have hA1:=h3.size
   have h5:A1.heap[w.heap.size+1]?=some (.loop (rec .ready none)):=(h3.block _ (by omega)).trans h2
   have hb1:=run_beginRound (P:=P) h5 (by rw [hrec])
   refine ⟨_,hb1,wpIn_mono h4 ?_⟩
   rintro e a3 B ⟨rfl,⟨k1,k2,k3⟩,hBs,hB,hGB⟩
   rw [World.putObj_size] at hBs hB
   have h6:B.heap[w.heap.size+1]?=some (.loop { rec .ready none with state := .busy }):=(hB _ (hnX _ (by omega)) (by omega)).trans (World.putObj_heap_same (by omega))
   have h7:B.heap[w.heap.size]?=some (.deferred (some [])):=(hB _ (hnX _ (by omega)) (by omega)).trans ((World.putObj_heap_other (by omega)).trans ((h3.block _ (by omega)).trans h2D))
   have hr:=run_endRound (P:=P) (some .ret) h6
   refine ⟨_,_,hr,rfl,⟨k1.trans h3.os,k2.trans h3.tape,k3.trans h3.output⟩,?_,fun k hx hk=>?_,?_,?_,?_⟩
   ·rw [World.putObj_size];omega
   ·have hkl:¬ k=w.heap.size+1:=fun e=>hx (.inr e)
    rw [World.putObj_heap_other (fun e=>hkl e),hB k (fun h=>hx (.inl h)) (by omega),World.putObj_heap_other (fun e=>hkl e)]
    exact h3.block k hk
   ·exact hG.book _ _ _ _ (by omega) h6 rfl rfl hGB
   ·rw [World.putObj_heap_same (by omega),hrec];simp
   ·rw [World.putObj_heap_other (by omega)];exact h7
  | _=>exact h.elim
 ·rintro e V ⟨⟨v,rfl⟩,ht,hf⟩
  cases hb:b with
  | true =>
   have hV:=ht hb
   have h2:V.heap[w.heap.size+1]?=some (.loop (rec .ready none)):=(hV.block _ (by omega)).trans atL
   have h2D:V.heap[w.heap.size]?=some (.deferred (some [])):=(hV.block _ (by omega)).trans atD
   have hVs:=hV.size
   refine ⟨none,_,by have:=run_endLoop (P:=P) h2 (by rw [hrec];simp);rw [hrec] at this;exact this,hdone hb _ ?_ ((World.putObj_heap_other (by omega)).trans h2D)⟩
   have h3:Below w.heap.size w V:=below1.trans (hV.mono (by omega))
   exact ⟨h3.os,h3.tape,h3.output,by rw [World.putObj_size];omega,fun k hk=>(World.putObj_heap_other (by omega)).trans (h3.block k hk)⟩
  | false =>
   obtain ⟨⟨k1,k2,k3⟩,hVs,hV,hGV,hL,hDD⟩:=hf hb
   refine ⟨some .ret,_,by have:=run_endLoop (P:=P) hL (by rw [hrec];simp);rw [hrec] at this;exact this,?_⟩
   refine wpIn_ret (hstop hb _ ⟨⟨k1.trans below1.os,k2.trans below1.tape,k3.trans below1.output⟩,by rw [World.putObj_size];omega,fun k hx hk=>?_,hG.book _ _ _ _ (by omega) hL rfl rfl hGV⟩ ((World.putObj_heap_other (by omega)).trans hDD))
   rw [World.putObj_heap_other (by omega),hV k (fun h=>h.elim hx fun h=>by omega) (by omega)]
   exact below1.block k hk
variable {nt:Nat}
theorem b3V {fn:Func} (hn:fn.ntmps=nt) {args:List CV} {vs:List Value} {U:Nat→Nat→Prop} {w:World} (hargs:VReps U w args vs) (hl:Nat.ble args.length nt=true) (hnt:Nat.blt nt 100000=true) {V:UX} (hV:V=⟨U,fun _=>False,fun _=>none,fun _ _ h=>by cases h⟩):Sim w V nt (Z5 args 0) { tmps:=vs.toArray++Array.replicate (fn.ntmps-vs.toArray.size) undef,defers:=[] } w:=by
 have hlen:=hargs.len
 have hle:=Nat.le_of_ble_eq_true hl
 have hnt:=bL hnt
 have hno:∀ {k av},100000≤k→look (Z5 args 0) k=some av→False:=fun {k av} h1 h2=>by rw [T2 (by omega)] at h2;cases h2
 refine ⟨fun _ _=>False,fun _ => .slice none 0 0,BelowX.refl _ _,rfl,by simp [hn];omega,fun d av h1 h2=>?_,fun n o av h1=>(hno (by unfold c8;omega) h1).elim,fun n o o' av av' h1=>(hno (by unfold c8;omega) h1).elim,fun k av h1 h2=>(hno h2.1 h1).elim,fun k av g h1 h2=>(hno h2.1 h1).elim,fun k k' av av' g h1 h2 h3=>(hno h3.1 h1).elim,fun n g h1=>(by rw [hV] at h1;cases h1),fun b o hd=>hd.elim⟩
 obtain ⟨_,c',h3,rfl⟩:=H6 h1
 rw [Nat.sub_zero] at h3
 obtain ⟨v,h4,h5⟩:=hargs.at h3
 have hdl:d<vs.length:=by
  rcases Nat.lt_or_ge d vs.length with h | h
  ·exact h
  ·rw [List.getElem?_eq_none h] at h4;cases h4
 refine ⟨v,?_,i7 (h5.keep fun b o v hu hc=>⟨.inl ⟨World.block_lt_of_cell? w _ hc,by rw [hV];exact ⟨hu,fun h=>h⟩⟩,hc⟩)⟩
 rw [Array.getElem?_append_left (by simpa using hdl)]
 simpa using h4
theorem a0r (vs:List (Nat×CV)) {tm:Array Value} {w:World} (hsz:tm.size=nt) (hv:∀ q∈vs,∃ v,tm[q.1]?=some v∧VRep (fun _ _=>True) w q.2 v) (hk:(vs.all fun q=>Nat.blt q.1 100000)=true):Sim w topX nt (vs.map fun q=>(q.1,.val q.2)) ⟨tm,[]⟩ w:=by
 rw [List.all_eq_true] at hk
 have hlow:∀ {k av},look (vs.map fun q=>(q.1,AV.val q.2)) k=some av→∃ q∈vs,k=q.1∧av = .val q.2:=fun {k av} h1=>by
  obtain ⟨q,hq,he⟩:=List.mem_map.1 (C7 h1)
  injection he with e1 e2
  exact ⟨q,hq,e1.symm,e2.symm⟩
 have hlt:∀ {k av},look (vs.map fun q=>(q.1,AV.val q.2)) k=some av→k<100000:=fun {k av} h1=>by
  obtain ⟨q,hq,rfl,_⟩:=hlow h1
  exact bL (hk q hq)
 refine ⟨fun _ _=>False,fun _ => .slice none 0 0,BelowX.refl _ _,rfl,hsz,fun d av h1 h2=>?_,fun n o av h1 h2 h3 h4=>?_,fun n o o' av av' h1 h2=>?_,fun k av h1 h2=>?_,fun k av g h1 h2=>?_,fun k k' av av' g h1 h2 h3 h4=>?_,fun k v h1=>(by cases h1),fun b o hd=>hd.elim⟩
 ·obtain ⟨q,hq,rfl,rfl⟩:=hlow h1
  obtain ⟨v,g1,g2⟩:=hv q hq
  exact ⟨v,g1,i7 (g2.keep fun b o v _ hc=>⟨.inl ⟨World.block_lt_of_cell? w _ hc,trivial,fun h=>h⟩,hc⟩)⟩
 ·have:=hlt h1;unfold c8 at this;omega
 ·have:=hlt h1;unfold c8 at this;omega
 ·have:=hlt h1;have:=h2.1;omega
 ·have:=hlt h1;have:=h2.1;omega
 ·have:=hlt h1;have:=h3.1;omega
theorem a6i (w:World):Hw w w topX:=⟨fun _=>rfl,fun _ h=>h⟩
def RQ (P:Program) (fn:Func) (R:Ending→World→Prop) (e:Exit) (a':Act) (w':World):Prop:=
 (e = .normal∨e = .ret)∧∃ g,a'.defers=[⟨.collected g,#[]⟩]∧w'.heap[g]?=some (.deferred (some []))∧∃ v,(results fn a'.tmps).run P (w'.putObj g (.deferred none)) = .ok v (w'.putObj g (.deferred none))∧R (.returned v) (w'.putObj g (.deferred none))
theorem a1t {f:FuncId} {fn:Func} {c:Code} {vs:Array Value} {w:World} {R:Ending→World→Prop} (hf:P.funcs[f]?=some fn) (hb:fn.body=some c) (h:c.wpIn Fence.wide 1 P (RQ P fn R) { tmps:=vs++Array.replicate (fn.ntmps-vs.size) undef,defers:=[] } w):Calls P f vs w R:=by
 refine callsIn_wide.1 (callsIn_of_wp_marks (F:=Fence.wide) (n:=1) hf hb trivial (wpIn_mono h ?_) rfl)
 rintro e a' w' ⟨he,g,h1,h2,v,h3,h4⟩
 have hleave:LeavesInM Fence.wide 1 P fn a'.tmps R a'.defers .returning w':=by
  rw [h1]
  exact ⟨(fun e=>by cases e),.inl ⟨g,_,rfl,run_takeDeferred h2,v,h3,h4⟩⟩
 rcases he with rfl | rfl
 ·exact hleave
 ·exact hleave
def AWpR (P:Program) (w0:World) (U0:UX) (nt:Nat) (c:Code) (Q:Exit→Act→World→Prop) (s:AS):Prop:=∀ a w,Sim w0 U0 nt s a w→c.wpIn Fence.wide 1 P Q a w
variable {w0:World} {U0:UX} {s:AS}
theorem a7p {x y:Code} {Q:Exit→Act→World→Prop} (h:AWp P w0 U0 nt x (fun e s'=>e = .normal∧AWpR P w0 U0 nt y Q s') s):AWpR P w0 U0 nt (.seq x y) Q s:=fun a w hs=>by
 have:=h ⟨none,[]⟩ a w hs
 unfold WP at this
 rw [V5 hs.df] at this
 refine wpIn_seq (wpIn_mono this ?_)
 rintro e a' w' ⟨a'',rfl,s',⟨rfl,h2⟩,h3⟩
 show Code.wpIn _ _ _ _ _ _ _
 rw [V5 h3.df]
 exact h2 a'' w' h3
theorem AWpR.wk {c:Code} {Q:Exit→Act→World→Prop} {s':AS} (h:Wk w0 U0 nt s s') (h2:AWpR P w0 U0 nt c Q s'):AWpR P w0 U0 nt c Q s:=fun a w hs=>h2 a w (h a w hs)
end
end Go.Proofs.YtekboofbedakcaaGreat
namespace Go.Proofs.YtekboofbedakcaaGreat
open Go.RowKit
set_option linter.unusedVariables false
set_option linter.unusedSimpArgs false
set_option maxRecDepth 100000
theorem XAt.adr {U:Nat→Nat→Prop} {w:World}:∀ {p:List Nat} {b off:Nat} {x:XT} {b' o':Nat} {y:XT},XAt U w b off x→x.adr b off p=some (b',o',y)→XAt U w b' o' y
 | [],b,off,x,b',o',y,h,e=>by
  rw [XT.adr] at e
  cases e
  exact h
 | i::p,b,off,x,b',o',y,h,e=>by
  rw [XT.adr] at e
  split at e
  ·rename_i z ad hz ha
   obtain ⟨g,o1,h1,h2⟩:=h.child hz
   rw [ha] at h1
   cases h1
   exact XAt.adr h2 e
  ·cases e
structure b2i (r:RuT):Prop where
 ar:r.a.rng
 ao:r.a.ok
 av:r.a.vs.length≤65
 sz:r.a.size≤90000000000
 br:r.b.rng
 bo:r.b.ok
 bs:r.b.size≤90000000000
 bv:∀ v∈r.b.vs,v∈r.a.vs
 k:kb r.a r.b=1
noncomputable def l7 (R:List RuT) (t:Tm):Bool:=R.any fun r=>(mt r.a t []).1
noncomputable def usR (r:RuT) (t:Tm):Tm:=o5 (t9 (mt r.a t []).2) r.b
noncomputable abbrev b8M (id:Int) (b o n:Nat) (s:Tm):CV := .row [.i id,v8 b o,.row [.i s.f,.own n (s.l.map Tm.cv)]]
set_option maxHeartbeats 4000000 in
theorem b9s (R:List RuT) (hR:∀ r∈R,b2i r) (hRl:R.length≤1000000) (l1:Nat) (x:XT) (b off n:Nat) (N:Nat) (X:Nat→Prop) (G:World→Prop) (hG:a9o N G) (bb:Bool) (U:Nat→Nat→Prop) (w:World) (hx:XAt U w b off x) (hsz:∀ p b' o' y,x.adr b off p=some (b',o',y)→0≤y.f→y.tm.rng∧y.tm.size≤90000000000)
  (hbb:bb=(o6 (l7 R) x.tm).isNone) (hN:N≤w.heap.size) (hX:∀ b,X b→b<w.heap.size) (hn:n≤w.heap.size)
  (hY:∀ p b' o' y r,o6 (l7 R) x.tm=some p→x.adr b off p=some (b',o',y)→R.find? (fun r=>(mt r.a y.tm []).1)=some r→YF Tryz.prog w l1 [b8M r.id b' o' n (usR r y.tm)] (FR X G))
  (hpl:∀ p,o6 (l7 R) x.tm=some p→∃ b' o' y,x.adr b off p=some (b',o',y)∧0≤y.f∧l7 R y.tm=true)
  (vs:List Value) (hargs:VReps U w [L8 l1,.ptr (v8 b off),.ptr (.lst (R.map RuT.cv))] vs) :
  Calls Tryz.prog 44 vs.toArray w fun e V=>(∃ v,e = .returned v)∧(bb=true→Below w.heap.size w V)∧(bb=false→FR X G w V):=by
 refine a1t Tryz.func44 rfl ?_
 have hs:=b3V (nt:=38) (fn:=Tryz.f44) rfl hargs rfl rfl rfl
 suffices h:AWpR Tryz.prog w ⟨U,fun _=>False,fun _=>none,fun _ _ h=>by cases h⟩ 38 _ _ (Z5 [L8 l1,.ptr (v8 b off),.ptr (.lst (R.map RuT.cv))] 0) from h _ _ hs
 clear hs
 have hRz:=RuT.size_all R
 refine a7p (aR ?_)
 refine nc zb ?_
 refine ⟨rfl,?_⟩
 refine AWpR.wk (E0 3 rfl rfl rfl (s':=[(1,AV.val (.ptr (v8 b off))),(2,.val (.ptr (.lst (R.map RuT.cv))))]) ⟨rfl,rfl,trivial⟩ rfl rfl rfl) ?_
 refine a7p (aR ?_)
 refine nc zY (nc (zn (z:=a5g w b off)) ?_)
 refine ⟨rfl,?_⟩
 rintro a w1 ⟨D,hv,h⟩
 have hw1:Below w.heap.size w w1:=h.below.below fun k hk=>hk
 obtain ⟨ys,lb,e1,e2,e3,e4⟩:=P9.1 (C2 h (x := .tmp 10) (fun k _=>rfl) rfl)
 have hys:ys=[]:=List.eq_nil_of_length_eq_zero e2
 subst hys
 have hcaps:=N7 e4 (by simpa using e3)
 obtain ⟨v2,t2,r2⟩:=h.slot 2 (.val (.ptr (.lst (R.map RuT.cv)))) rfl (by omega)
 obtain ⟨v3,t3,r3⟩:=h.slot 3 (.val (.ptr (L8 l1))) rfl (by omega)
 have r2:=r2.1
 have r3:=r3.1
 have hx1:XAt (fun _ _=>True) w1 b off x:=hx.keep fun b o v hu hc=>⟨trivial,by rw [j7 (hw1.block b (World.block_lt_of_cell? w _ hc))];exact hc⟩
 have hfacts:∀ (A:World) (r:Loop) (b' o':Nat),Below w1.heap.size w1 A→∀ q∈[(2,CV.ptr (.lst (R.map RuT.cv))),(3,CV.ptr (L8 l1)),(4,v8 b' o')],∃ v,(a6T [(4,11)] (a7b [11] [.pointer (some ⟨b',o',none⟩)] a.tmps))[q.1]?=some v∧VRep (fun _ _=>True) (A.putObj (w1.heap.size+1) (.loop { r with state := .busy })) q.2 v:=by
  intro A r b' o' hA q hq
  have hk:∀ bb o v,(fun _ _=>True:Nat→Nat→Prop) bb o→w1.cell? ⟨bb,o,none⟩=some v→(fun _ _=>True:Nat→Nat→Prop) bb o∧(A.putObj (w1.heap.size+1) (.loop { r with state := .busy })).cell? ⟨bb,o,none⟩=some v:=fun bb o v _ hc=>by
   have hlt:bb<w1.heap.size:=World.block_lt_of_cell? w1 _ hc
   exact ⟨trivial,by rw [j7 ((World.putObj_heap_other (by omega)).trans (hA.block bb hlt))];exact hc⟩
  simp only [List.mem_cons,List.not_mem_nil,or_false] at hq
  have hsz:=h.size
  rcases hq with rfl | rfl | rfl
  ·exact ⟨v2,by simpa [a6T,a7b,Array.getElem?_setIfInBounds] using t2,(r2.mono fun _ _ _=>trivial).keep hk⟩
  ·exact ⟨v3,by simpa [a6T,a7b,Array.getElem?_setIfInBounds] using t3,(r3.mono fun _ _ _=>trivial).keep hk⟩
  ·exact ⟨.pointer (some ⟨b',o',none⟩),by simp [a6T,a7b,Array.getElem?_setIfInBounds,hsz],b5.2 ⟨rfl,rfl⟩⟩
 have hXA:∀ (A:World) (r:Loop),Below w1.heap.size w1 A→XAt (fun _ _=>True) (A.putObj (w1.heap.size+1) (.loop { r with state := .busy })) b off x:=fun A r hA=>hx1.keep fun bb o v _ hc=>by
  have hlt:bb<w1.heap.size:=World.block_lt_of_cell? w1 _ hc
  exact ⟨trivial,by rw [j7 ((World.putObj_heap_other (by omega)).trans (hA.block bb hlt))];exact hc⟩
 have hsz2:∀ (b' o':Nat),(a6T [(4,11)] (a7b [11] [.pointer (some ⟨b',o',none⟩)] a.tmps)).size=38:=fun b' o'=>by simp [a6T,a7b,h.size]
 refine wpIn_block (a6b (a1x (gf:=78) (lb:=lb.toArray) e1 (r9 Tryz.func78 rfl rfl) bb hG (Nat.le_trans hN hw1.size) (fun k hk=>Nat.lt_of_lt_of_le (hX k hk) hw1.size)
  (fun vs _=>∃ p b' o' y,x.adr b off p=some (b',o',y)∧0≤y.f∧l7 R y.tm=false∧vs=[.pointer (some ⟨b',o',none⟩)])
  (fun vs _=>∃ p b' o' y,o6 (l7 R) x.tm=some p∧x.adr b off p=some (b',o',y)∧0≤y.f∧l7 R y.tm=true∧vs=[.pointer (some ⟨b',o',none⟩)])
  ?ps ?it ?rt ?rf ?done ?stop))
 case ps =>
  rintro vs A (⟨_,_,_,_,_,_,_,rfl⟩ | ⟨_,_,_,_,_,_,_,_,rfl⟩)<;>rfl
 case it =>
  intro l W N2 X2 G2 hG2 hN2 hX2 hW hT hF
  obtain ⟨F2,hFe⟩:∃ F2,F2=FR X2 G2:=⟨_,rfl⟩
  have hF2:a8m X2 F2:=by rw [hFe];exact U8 hG2
  rw [←hFe] at hF ⊢
  have hq:WQ Tryz.prog (l7 R) F2 l x b off (fun _ _=>True) W:=by
   refine ⟨hx1.keep fun bb o v _ hc=>⟨trivial,by rw [j7 (hW.block bb (World.block_lt_of_cell? w1 _ hc))];exact hc⟩,fun p b' o' y k1 k2 k3 Rr A vs k4 k5=>?_,fun p b' o' y k1 k2 Rr A vs k4 k5=>?_⟩
   ·obtain ⟨u,us,rfl,k6,k7⟩:=k5
    have k7:us=[]:=k7
    subst k7
    obtain ⟨rfl,_⟩:=b5.1 k6
    exact hT _ A ⟨p,b',o',y,k1,k2,k3,rfl⟩ k4
   ·obtain ⟨u,us,rfl,k6,k7⟩:=k5
    have k7:us=[]:=k7
    subst k7
    obtain ⟨rfl,_⟩:=b5.1 k6
    obtain ⟨b2,o2,y2,g1,g2,g3⟩:=hpl p k1
    rw [k2] at g1
    cases g1
    exact hF _ A ⟨p,b',o',y,k1,k2,g2,g3,rfl⟩ k4
  have hva:VReps (fun _ _=>True) W [L8 l,.ptr (v8 b off)] (.func (.yield l) #[] #[]::lb):=by
   refine ⟨_,_,rfl,b5.2 ⟨rfl,rfl⟩,?_⟩
   exact (hcaps.keep (V:=fun _ _=>True) (w':=W) fun bb o v _ hc=>⟨trivial,by rw [j7 (hW.block bb (World.block_lt_of_cell? w1 _ hc))];exact hc⟩)
  have harr:(#[Value.func (.yield l) #[] #[]]++lb.toArray)=(Value.func (.yield l) #[] #[]::lb).toArray:=by simp
  rw [harr]
  cases hf:o6 (l7 R) x.tm with
  | none =>
   refine ((b7p (l7 R) F2 l x b off hf).2.2.2 _ W _ hq hva).mono ?_
   rintro e V ⟨v,rfl,_,hb⟩
   refine ⟨⟨v,rfl⟩,fun _=>hb,fun h=>?_⟩
   rw [hbb,hf] at h
   cases h
  | some p =>
   refine ((b7E (l7 R) F2 hF2 l x b off (by rw [hf];simp)).2.2.2 _ W _ hq hva).mono ?_
   rintro e V ⟨v,rfl,_,hb⟩
   refine ⟨⟨v,rfl⟩,fun h=>?_,fun _=>hb⟩
   rw [hbb,hf] at h
   cases h
 case rt =>
  rintro vs A r ⟨p,b',o',y,hadr,hy0,hyh,rfl⟩ hA hL hA2
  rw [a0G [11]]
  refine wpIn_region_lit (a0K (ro:=some (w1.heap.size+1)) (al:=[(4,11)]) rfl ?_)
  refine ⟨Below.refl _ _,?_⟩
  have hyat:=(hXA A r hA).adr hadr
  obtain ⟨hyr,hys⟩:=hsz p b' o' y hadr hy0
  obtain ⟨A',hA'⟩:∃ A',A'=A.putObj (w1.heap.size+1) (.loop { r with state := .busy }):=⟨_,rfl⟩
  have hf:=hfacts A r b' o' hA
  rw [←hA'] at hyat hf ⊢
  refine wpIn_mono ((?_:AWp Tryz.prog A' topX 38 _ (fun e _=>e = .normal) [(2,.val (.ptr (.lst (R.map RuT.cv)))),(3,.val (.ptr (L8 l1))),(4,.val (v8 b' o'))]) ⟨some (w1.heap.size+1),[]⟩ _ _ (a0r _ (hsz2 b' o') hf rfl)) ?_
  ·have hW:=a6i A'
   have hmiss:∀ r∈R,(mt r.a y.tm []).1=false:=fun r hr=>by
    unfold l7 at hyh
    have:=List.any_eq_false.1 hyh r hr
    simpa using this
   refine aB (aS (aR ?_))
   refine nc zY (nc zp (nc zj ?_))
   refine aB (b9 R.length (fun k=>[(3,.val (.ptr (L8 l1))),(4,.val (v8 b' o')),(12,.val (.lst (R.map RuT.cv))),(13,.val (.i (R.map RuT.cv).length)),(14,.val (.i k))]) (a7 ⟨rfl,rfl,rfl,rfl,rfl,trivial⟩) ?_)
   intro k hk
   refine aS (aR ?_)
   refine nc zh ?_
   refine aS (aC rfl (fun hlt=>aK ?_) (fun hlt=>aE ?_))
   ·have hkl:k<R.length:=by simpa using hlt
    obtain ⟨ru,hru⟩:∃ ru,R[k]?=some ru:=⟨R[k],List.getElem?_eq_getElem hkl⟩
    have hru':=RuT.map_at hru
    have hrm:=List.mem_of_getElem? hru
    have hok:=hR ru hrm
    have hat:=a4S A' ru y.tm hok.ar hok.ao hok.av hyr hys (hmiss ru hrm)
    clear hlt
    refine aS (aB (aS (aR ?_)))
    refine nc (zz (j:=k) (H:=hru') (hz:=hRz)) (nc zA (nc zw (nc zy ?_)))
    refine aS (aD (by kernel_rfl) (by kernel_rfl) ?_)
    refine nc zE (nc zj (nc zk (nc (zl hW (hyat.ld)) (nc (zn (z:=hat)) (nc zj (nc zD (nc zD (nc zw (nc zy (nc zd ?_))))))))))
    refine ⟨by kernel_rfl,?_⟩
    refine aS (aR ?_)
    refine nc zj (nc zj (nc zM (nc zM (nc zM (nc zM (nc zM (nc zM (nc zM (nc zM (nc zN ?_))))))))))
    refine aC rfl (fun hc=>by cases hc) (fun _=>aK ?_)
    refine aR ?_
    refine nc zu (nc zj ?_)
    exact ⟨hkl,a7 ⟨rfl,rfl,rfl,rfl,rfl,trivial⟩⟩
   ·rfl
  ·rintro e a2 B ⟨a3,rfl,s',rfl,D',hv',h3⟩
   have h4:=h3.below.below fun k h=>h
   rw [show A'.heap.size=A.heap.size by rw [hA',World.putObj_size]] at h4
   exact ⟨rfl,h4⟩
 case rf =>
  rintro vs A r ⟨p,b',o',y,hfst,hadr,hy0,hyh,rfl⟩ hA hL hA2
  rw [a0G [11]]
  refine wpIn_region_lit (a0K (ro:=some (w1.heap.size+1)) (al:=[(4,11)]) rfl ?_)
  refine ⟨Below.refl _ _,?_⟩
  have hyat:=(hXA A r hA).adr hadr
  obtain ⟨hyr,hys⟩:=hsz p b' o' y hadr hy0
  obtain ⟨ru,hfind⟩:∃ ru,R.find? (fun r=>(mt r.a y.tm []).1)=some ru:=by
   unfold l7 at hyh
   obtain ⟨r,hr1,hr2⟩:=List.any_eq_true.1 hyh
   cases e:R.find? (fun r=>(mt r.a y.tm []).1) with
   | some ru=>exact ⟨ru,rfl⟩
   | none=>exact absurd hr2 (List.find?_eq_none.1 e r hr1)
  obtain ⟨hmt,k0,hk0,hru0,hbef⟩:=List.find?_eq_some_iff_getElem.1 hfind
  have hYf:=hY p b' o' y ru hfst hadr hfind
  obtain ⟨A',hA'⟩:∃ A',A'=A.putObj (w1.heap.size+1) (.loop { r with state := .busy }):=⟨_,rfl⟩
  have hwA:Below w.heap.size w A':=by
   have h1:Below w.heap.size w A:=hw1.trans (hA.mono hw1.size)
   have h2:=hw1.size
   rw [hA']
   exact ⟨h1.os,h1.tape,h1.output,by rw [World.putObj_size];exact h1.size,fun k hk=>(World.putObj_heap_other (by omega)).trans (h1.block k hk)⟩
  have hYA:=hYf.up hwA
  have hnA:n≤A'.heap.size:=Nat.le_trans hn hwA.size
  have hf:=hfacts A r b' o' hA
  rw [←hA'] at hyat hf ⊢
  refine wpIn_mono ((?_:AWpZ Tryz.prog A' topX 38 (FR X G A') _ (fun _ _=>False) (fun e _=>e = .ret) [(2,.val (.ptr (.lst (R.map RuT.cv)))),(3,.val (.ptr (L8 l1))),(4,.val (v8 b' o'))]) ⟨some (w1.heap.size+1),[]⟩ _ _ (a0r _ (hsz2 b' o') hf rfl)) ?_
  ·have hW:=a6i A'
   refine D0 (i9 (q9 (aR ?_)))
   refine nc zY (nc zp (nc zj ?_))
   show AWpZ _ _ _ _ _ _ _ _ _
   refine D0 (R5 R.length (fun k=>k≤k0) (fun k=>[(3,.val (.ptr (L8 l1))),(4,.val (v8 b' o')),(12,.val (.lst (R.map RuT.cv))),(13,.val (.i (R.map RuT.cv).length)),(14,.val (.i k))]) (a7 ⟨rfl,rfl,rfl,rfl,rfl,trivial⟩) (Nat.zero_le _) ?_)
   intro k hk hI
   refine i9 (q9 (aR ?_))
   refine nc zh ?_
   show AWpZ _ _ _ _ _ _ _ _ _
   refine i9 (q9 (aC rfl (fun hlt=>aK ?_) (fun hlt=>aE ?_)))
   ·have hkl:k<R.length:=by simpa using hlt
    clear hlt
    show AWpZ _ _ _ _ _ _ _ _ _
    by_cases hkk:k=k0
    ·subst hkk
     have hru:R[k]?=some ru:=by rw [List.getElem?_eq_getElem hk0,hru0]
     have hru':=RuT.map_at hru
     have hrm:=List.mem_of_getElem? hru
     have hok:=hR ru hrm
     have hat:=b8p n ru y.tm hok.ar hok.ao hok.av hok.sz hok.br hok.bo hok.bs hok.bv hyr hys hmt hok.k _ rfl
     have hQ:QUp (fun (_:Nat→Nat→Prop) w=>n≤w.heap.size):=fun U V w w' h hb _=>Nat.le_trans h hb.size
     have hq:(fun (_:Nat→Nat→Prop) (w:World)=>n≤w.heap.size) topX.m A':=hnA
     refine i9 (D0 (i9 (q9 (aR ?_))))
     refine nc (zz (j:=k) (H:=hru') (hz:=hRz)) (nc zA (nc zw (nc zy ?_)))
     show AWpZ _ _ _ _ _ _ _ _ _
     refine i9 (q9 (aD (by kernel_rfl) (by kernel_rfl) ?_))
     refine nc zE (nc zj (nc zk (nc (zl hW (hyat.ld)) (nc (zr hQ hW hq (A:=hat)) (nc zj (nc zD (nc zD (nc zw (nc zy (nc zd ?_))))))))))
     refine ⟨by kernel_rfl,?_⟩
     show AWpZ _ _ _ _ _ _ _ _ _
     refine i9 (A0 (r := .val (.b false)) 8 [(27,.bool true)] rfl rfl rfl rfl rfl ?_ (fun w2 hw2=>?_))
     ·skip
      (refine J3 (AOp.y (aM (gN rfl) rfl rfl rfl rfl rfl)) rfl ?_)
      (refine J3 (AOp.y (aM (gN rfl) rfl rfl rfl rfl rfl)) rfl ?_)
      (refine J3 (AOp.y (s5 gc rfl rfl rfl rfl rfl rfl rfl rfl rfl)) rfl ?_)
      (refine J3 (AOp.y (aF gc rfl rfl rfl rfl rfl rfl rfl rfl rfl)) rfl ?_)
      (refine J3 (AOp.y (aLb gc rfl rfl rfl rfl rfl rfl rfl rfl rfl rfl rfl rfl)) rfl ?_)
      (refine J3 (AOp.y (aM gc rfl rfl rfl rfl rfl)) rfl ?_)
      (refine J3 (AOp.y (aL gc rfl rfl rfl rfl rfl rfl rfl rfl rfl rfl rfl rfl)) rfl ?_)
      (refine J3 (AOp.y (b0y gc rfl rfl rfl rfl rfl rfl rfl rfl rfl rfl rfl)) rfl ?_)
      exact ⟨⟨rfl,trivial⟩,O8 hW (U8 hG) hYA (b4D rfl rfl rfl rfl rfl) rfl rfl rfl⟩
     ·skip
      (refine J3 (AOp.y (Q5 gc rfl rfl rfl rfl rfl)) rfl ?_)
      (refine ⟨_,_,_,AOp.y (aPt (gN rfl) rfl rfl rfl rfl rfl ?hb rfl),rfl,?_⟩;case hb=>(first | rfl | assumption | (simp;done)))
      intro w3 hw3
      refine aC rfl (fun _=>aT rfl) (fun hc=>by cases hc)
    ·obtain ⟨ru,hru⟩:∃ ru,R[k]?=some ru:=⟨R[k],List.getElem?_eq_getElem hkl⟩
     have hru':=RuT.map_at hru
     have hrm:=List.mem_of_getElem? hru
     have hok:=hR ru hrm
     have hmk:(mt ru.a y.tm []).1=false:=by
      have:=hbef k (by omega)
      rw [List.getElem?_eq_getElem hkl] at hru
      injection hru with hru
      rw [hru] at this
      simpa using this
     have hat:=a4S A' ru y.tm hok.ar hok.ao hok.av hyr hys hmk
     refine q9 ?_
     refine aS (aB (aS (aR ?_)))
     refine nc (zz (j:=k) (H:=hru') (hz:=hRz)) (nc zA (nc zw (nc zy ?_)))
     refine aS (aD (by kernel_rfl) (by kernel_rfl) ?_)
     refine nc zE (nc zj (nc zk (nc (zl hW (hyat.ld)) (nc (zn (z:=hat)) (nc zj (nc zD (nc zD (nc zw (nc zy (nc zd ?_))))))))))
     refine ⟨by kernel_rfl,?_⟩
     refine aS (aR ?_)
     refine nc zj (nc zj (nc zM (nc zM (nc zM (nc zM (nc zM (nc zM (nc zM (nc zM (nc zN ?_))))))))))
     refine aC rfl (fun hc=>by cases hc) (fun _=>aK ?_)
     refine aR ?_
     refine nc zu (nc zj ?_)
     exact ⟨hkl,by omega,a7 ⟨rfl,rfl,rfl,rfl,rfl,trivial⟩⟩
   ·exfalso
    have:¬ k<R.length:=by simpa using hlt
    omega
  ·rintro e a2 B ⟨a3,rfl,⟨s',h0,_⟩ | ⟨w2,s',hF2,rfl,D',hv',h3⟩⟩
   ·exact h0.elim
   ·exact ⟨rfl,(U8 hG).up _ _ _ hF2 (h3.below.below fun k h=>h)⟩
 case done =>
  intro hb W hW hD
  have hlt:=(Array.getElem?_eq_some_iff.1 hD).1
  have h2:Below w.heap.size w (W.putObj w1.heap.size (.deferred none)):=by
   have h1:Below w.heap.size w W:=hw1.trans (hW.mono hw1.size)
   have h2:=hw1.size
   exact ⟨h1.os,h1.tape,h1.output,by rw [World.putObj_size];exact h1.size,fun k hk=>(World.putObj_heap_other (by omega)).trans (h1.block k hk)⟩
  refine ⟨.inl rfl,w1.heap.size,by rw [h.dfr],hD,.tuple #[],by simp [results],⟨_,rfl⟩,fun _=>h2,fun h=>?_⟩
  rw [hb] at h
  cases h
 case stop =>
  rintro hb W ⟨⟨k1,k2,k3⟩,hWs,hW,hGW⟩ hD
  have hs1:=hw1.size
  refine ⟨.inr rfl,w1.heap.size,by rw [h.dfr],hD,.tuple #[],by simp [results],⟨_,rfl⟩,fun h=>?_,fun _=>⟨⟨k1.trans hw1.os,k2.trans hw1.tape,k3.trans hw1.output⟩,by rw [World.putObj_size];omega,fun k hx hk=>?_,hG.book _ _ _ _ (by omega) hD rfl rfl hGW⟩⟩
  ·rw [hb] at h
   cases h
  ·exact (World.putObj_heap_other (by omega)).trans ((hW k hx (by omega)).trans (hw1.block k hk))
end Go.Proofs.YtekboofbedakcaaGreat
