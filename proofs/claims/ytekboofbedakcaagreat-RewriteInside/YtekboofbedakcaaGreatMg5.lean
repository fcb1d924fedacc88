/-
 MtMath SbSort SbClone MtFns MtNew MtFns2 MtFns3 MtFns4 TmPlA TmPlB TmPlC TmPlD KbMath KbSc KbFns
-/
import Derived.Test.YtekboofbedakcaaGreatMg4
import Derived.Test.YtekboofbedakcaaGreatMg3
import Derived.Test.YtekboofbedakcaaGreatMg2
namespace Go.Proofs.YtekboofbedakcaaGreat
set_option linter.unusedVariables false
def E2 (L:List Bd) (v:Int) (t:Tm):Bool×List Bd:=
 match b7 L v with
 | some u=>(A9 u t,L)
 | none=>(true,L++[⟨v,t⟩])
def a2q (r:Bool×List Bd) (k:List Bd→Bool×List Bd):Bool×List Bd:=match r with
 | (true,L)=>k L
 | (false,L)=>(false,L)
noncomputable def mt (p:Tm):Tm→List Bd→Bool×List Bd:=
 Tm.rec (motive_1:=fun _=>Tm→List Bd→Bool×List Bd) (motive_2:=fun _=>List Tm→List Bd→Bool×List Bd)
  (fun f l ih t L=>if f<0 then E2 L (-1-f) t else if f≠t.f∨l.length≠t.l.length then (false,L) else ih t.l L)
  (fun _ L=>(true,L))
  (fun _ _ ih1 ih2 ts L=>match ts with | []=>(true,L) | t::ts=>a2q (ih1 t L) (ih2 ts)) p
noncomputable def mts (ps:List Tm):List Tm→List Bd→Bool×List Bd:=
 Tm.rec_1 (motive_1:=fun _=>Tm→List Bd→Bool×List Bd) (motive_2:=fun _=>List Tm→List Bd→Bool×List Bd)
  (fun f l ih t L=>if f<0 then E2 L (-1-f) t else if f≠t.f∨l.length≠t.l.length then (false,L) else ih t.l L)
  (fun _ L=>(true,L))
  (fun _ _ ih1 ih2 ts L=>match ts with | []=>(true,L) | t::ts=>a2q (ih1 t L) (ih2 ts)) ps
theorem b4A (p t:Tm) (L:List Bd):mt p t L=if p.f<0 then E2 L (-1-p.f) t else if p.f≠t.f∨p.l.length≠t.l.length then (false,L) else mts p.l t.l L:=by cases p;rfl
theorem Q0 {p:Tm} (t:Tm) (L:List Bd) (h:p.f<0):mt p t L=E2 L (-1-p.f) t:=by rw [b4A,if_pos h]
theorem a2T {p t:Tm} (L:List Bd) (h:¬ p.f<0) (h2:p.f≠t.f∨p.l.length≠t.l.length):mt p t L=(false,L):=by rw [b4A,if_neg h,if_pos h2]
theorem Q7 {p t:Tm} (L:List Bd) (h:¬ p.f<0) (h2:p.f=t.f) (h3:p.l.length=t.l.length):mt p t L=mts p.l t.l L:=by rw [b4A,if_neg h,if_neg (by omega)]
theorem a5E (ts:List Tm) (L:List Bd):mts [] ts L=(true,L):=rfl
theorem A6 (p:Tm) (ps:List Tm) (t:Tm) (ts:List Tm) (L:List Bd):mts (p::ps) (t::ts) L=a2q (mt p t L) (mts ps ts):=rfl
theorem C1 {r:Bool×List Bd} {k:List Bd→Bool×List Bd} (h:r.1=true):a2q r k=k r.2:=by
 obtain ⟨b,L⟩:=r;simp at h;subst h;rfl
theorem E9 {r:Bool×List Bd} {k:List Bd→Bool×List Bd} (h:r.1=false):a2q r k=(false,r.2):=by
 obtain ⟨b,L⟩:=r;simp at h;subst h;rfl
theorem a7F:∀ {ps ts:List Tm} {p t:Tm} {L:List Bd},ps.length=ts.length→mts (ps++[p]) (ts++[t]) L=a2q (mts ps ts L) (mt p t)
 | [],[],p,t,L,_=>by
  show a2q (mt p t L) (mts [] [])=mt p t L
  cases h:(mt p t L).1 with
  | true=>rw [C1 h,a5E,←h]
  | false=>rw [E9 h,←h]
 | [],_::_,p,t,L,h=>by simp at h
 | _::_,[],p,t,L,h=>by simp at h
 | x::ps,y::ts,p,t,L,h=>by
  rw [List.cons_append,List.cons_append,A6,A6]
  cases h1:(mt x y L).1 with
  | true=>rw [C1 h1,C1 h1];exact a7F (by simpa using h)
  | false=>rw [E9 h1,E9 h1];rfl
theorem b2D {ps ts:List Tm} (hl:ps.length=ts.length) {k:Nat} {p t:Tm} (hp:ps[k]?=some p) (ht:ts[k]?=some t) (L:List Bd):mts (ps.take (k+1)) (ts.take (k+1)) L=a2q (mts (ps.take k) (ts.take k) L) (mt p t):=by
 rw [List.take_add_one,List.take_add_one,hp,ht]
 exact a7F (by simp [hl])
theorem a7k:∀ {ps ts:List Tm} (k:Nat) {L:List Bd},(mts (ps.take k) (ts.take k) L).1=false→mts ps ts L=mts (ps.take k) (ts.take k) L
 | [],ts,k,L,h=>by rw [List.take_nil,a5E] at h;cases h
 | p::ps,[],k,L,h=>by
  cases k with
  | zero=>cases h
  | succ k=>cases h
 | p::ps,t::ts,0,L,h=>by cases h
 | p::ps,t::ts,k+1,L,h=>by
  rw [List.take_succ_cons,List.take_succ_cons,A6] at h ⊢
  rw [A6]
  cases h1:(mt p t L).1 with
  | true=>rw [C1 h1] at h ⊢;rw [C1 h1];exact a7k k h
  | false=>rw [E9 h1,E9 h1]
def Grw (L L':List Bd) (n:Nat):Prop:=∃ N,L'=L++N∧N.length≤n
theorem Grw.refl (L:List Bd) (n:Nat):Grw L L n:=⟨[],by simp,Nat.zero_le _⟩
theorem Grw.trans {L L' L'':List Bd} {m n:Nat} (h:Grw L L' m) (h2:Grw L' L'' n):Grw L L'' (m+n):=by
 obtain ⟨N,e1,l1⟩:=h
 obtain ⟨M,e2,l2⟩:=h2
 exact ⟨N++M,by rw [e2,e1,List.append_assoc],by rw [List.length_append];omega⟩
theorem Grw.mono {L L':List Bd} {m n:Nat} (h:Grw L L' m) (h2:m≤n):Grw L L' n:=by
 obtain ⟨N,e1,l1⟩:=h
 exact ⟨N,e1,by omega⟩
theorem Grw.le {L L':List Bd} {m:Nat} (h:Grw L L' m):L.length≤L'.length∧L'.length≤L.length+m:=by
 obtain ⟨N,e1,l1⟩:=h
 rw [e1,List.length_append];omega
theorem b0N (L:List Bd) (v:Int) (t:Tm):Grw L (E2 L v t).2 1:=by
 unfold E2
 split
 ·exact Grw.refl _ _
 ·exact ⟨[⟨v,t⟩],rfl,Nat.le_refl _⟩
theorem a5C:∀ {ps:List Tm},(∀ p∈ps,∀ t L,Grw L (mt p t L).2 p.vs.length)→∀ ts L,Grw L (mts ps ts L).2 (ps.flatMap Tm.vs).length
 | [],_,ts,L=>by rw [a5E];exact Grw.refl _ _
 | p::ps,_,[],L=>Grw.refl _ _
 | p::ps,h,t::ts,L=>by
  rw [A6,List.flatMap_cons,List.length_append]
  have h1:=h p (by simp) t L
  cases h2:(mt p t L).1 with
  | true=>rw [C1 h2];exact h1.trans (a5C (fun q hq=>h q (List.mem_cons_of_mem _ hq)) ts _)
  | false=>rw [E9 h2];exact h1.mono (by omega)
theorem a8Y (p:Tm):∀ t L,Grw L (mt p t L).2 p.vs.length:=by
 induction p using Tm.ind with
 | h f l ih =>
  intro t L
  by_cases hf:f<0
  ·rw [Q0 _ _ hf,Tm.vs_var hf];exact b0N _ _ _
  ·by_cases h2:f≠t.f∨l.length≠t.l.length
   ·rw [a2T _ hf h2];exact Grw.refl _ _
   ·rw [Q7 _ hf (by show f=_;omega) (by show l.length=_;omega),Tm.vs_sym hf]
    exact a5C ih _ _
theorem a3G (ps ts:List Tm) (L:List Bd):Grw L (mts ps ts L).2 (ps.flatMap Tm.vs).length:=a5C (fun p _=>a8Y p) ts L
theorem M6 (L N:List Bd) (v:Int):b7 (L++N) v=(b7 L v).or (b7 N v):=by
 induction L with
 | nil=>simp [b7]
 | cons b L ih =>
  rw [List.cons_append,b7,b7]
  split
  ·rfl
  ·exact ih
def Ext (L:List Bd) (M:Int→Tm):Prop:=∀ v u,b7 L v=some u→(M v).strip=u.strip
theorem Ext.left {L L':List Bd} {M:Int→Tm} {n:Nat} (h:Ext L' M) (hg:Grw L L' n):Ext L M:=by
 obtain ⟨N,e,_⟩:=hg
 intro v u hu
 exact h v u (by rw [e,M6,hu];rfl)
theorem a6z {L:List Bd} {v:Int} {t:Tm} {M:Int→Tm} (h:(E2 L v t).1=true) (hM:Ext (E2 L v t).2 M):(M v).strip=t.strip:=by
 unfold E2 at h hM
 split at h
 ·rename_i u hu
  rw [hu] at hM
  rw [hM v u hu]
  exact (x7 _ _).1 h
 ·rename_i hu
  rw [hu] at hM
  exact hM v t (by rw [M6,hu];simp [b7])
theorem a8i {L:List Bd} {v:Int} {t:Tm} {M:Int→Tm} (hM:Ext L M) (h:(M v).strip=t.strip):(E2 L v t).1=true∧Ext (E2 L v t).2 M:=by
 unfold E2
 split
 ·rename_i u hu
  exact ⟨(x7 _ _).2 ((hM v u hu).symm.trans h),hM⟩
 ·rename_i hu
  refine ⟨rfl,fun w u hw=>?_⟩
  rw [M6] at hw
  cases h1:b7 L w with
  | some x=>rw [h1] at hw;cases hw;exact hM w _ h1
  | none =>
   rw [h1] at hw
   simp only [b7,Option.none_or] at hw
   split at hw
   ·rename_i e;subst e;cases hw;exact h
   ·cases hw
theorem tm_eq {f g:Int} {l m:List Tm} (h:(⟨f,l⟩:Tm)=⟨g,m⟩):f=g∧l=m:=by cases h;exact ⟨rfl,rfl⟩
theorem N0 {t:Tm} (h:¬ t.f<0):t.strip=⟨t.f,t.l.map Tm.strip⟩:=by rw [Tm.strip_eq,Tm.ps_of_sym (by omega)]
theorem a4P:∀ {ps ts:List Tm} {L:List Bd} {M:Int→Tm},(∀ p∈ps,∀ t L,(mt p t L).1=true→Ext (mt p t L).2 M→o5 M p=t.strip)→ps.length=ts.length→(mts ps ts L).1=true→Ext (mts ps ts L).2 M→ps.map (o5 M)=ts.map Tm.strip
 | [],[],_,_,_,_,_,_=>rfl
 | [],_::_,_,_,_,h,_,_=>by simp at h
 | _::_,[],_,_,_,h,_,_=>by simp at h
 | p::ps,t::ts,L,M,ih,hl,h,hM=>by
  rw [A6] at h hM
  cases h1:(mt p t L).1 with
  | false=>rw [E9 h1] at h;cases h
  | true =>
   rw [C1 h1] at h hM
   rw [List.map_cons,List.map_cons,ih p (by simp) t L h1 (hM.left (a3G ps ts _)),a4P (fun q hq=>ih q (List.mem_cons_of_mem _ hq)) (by simpa using hl) h hM]
theorem b2u (M:Int→Tm) (p:Tm):∀ t L,(mt p t L).1=true→Ext (mt p t L).2 M→o5 M p=t.strip:=by
 induction p using Tm.ind with
 | h f l ih =>
  intro t L h hM
  by_cases hf:f<0
  ·rw [Q0 _ _ hf] at h hM
   rw [p8 hf]
   exact a6z h hM
  ·by_cases h2:f≠t.f∨l.length≠t.l.length
   ·rw [a2T _ hf h2] at h;cases h
   ·rw [Q7 _ hf (by show f=_;omega) (by show l.length=_;omega)] at h hM
    rw [k8 hf,N0 (by omega)]
    have:=a4P ih (by omega) h hM
    show (⟨f,l.map (o5 M)⟩:Tm)=_
    rw [this,show f=t.f by omega]
theorem a6Q:∀ {ps ts:List Tm} {L:List Bd} {M:Int→Tm},(∀ p∈ps,∀ t L,Ext L M→o5 M p=t.strip→(mt p t L).1=true∧Ext (mt p t L).2 M)→Ext L M→ps.map (o5 M)=ts.map Tm.strip→(mts ps ts L).1=true∧Ext (mts ps ts L).2 M
 | [],ts,L,M,_,hM,_=>⟨rfl,hM⟩
 | p::ps,[],L,M,_,hM,h=>by simp at h
 | p::ps,t::ts,L,M,ih,hM,h=>by
  rw [List.map_cons,List.map_cons] at h
  injection h with h1 h2
  obtain ⟨g1,g2⟩:=ih p (by simp) t L hM h1
  rw [A6,C1 g1]
  exact a6Q (fun q hq=>ih q (List.mem_cons_of_mem _ hq)) g2 h2
theorem b5V (M:Int→Tm) (p:Tm):∀ t L,Ext L M→o5 M p=t.strip→(mt p t L).1=true∧Ext (mt p t L).2 M:=by
 induction p using Tm.ind with
 | h f l ih =>
  intro t L hM h
  by_cases hf:f<0
  ·rw [p8 hf] at h
   rw [Q0 _ _ hf]
   exact a8i hM h
  ·rw [k8 hf] at h
   have hf2:f=t.f:=by have:=congrArg Tm.f h;rw [Tm.strip_f] at this;exact this
   rw [N0 (by omega)] at h
   obtain ⟨_,h3⟩:=tm_eq h
   have hl:l.length=t.l.length:=by have:=congrArg List.length h3;simpa using this
   rw [Q7 _ hf hf2 hl]
   exact a6Q ih hM h3
theorem b1a (L:List Bd) (v:Int) (t:Tm):(b7 (E2 L v t).2 v).isSome:=by
 unfold E2
 split
 ·rename_i u hu;rw [hu];rfl
 ·rename_i hu;rw [M6,hu];simp [b7]
theorem Grw.some {L L':List Bd} {n:Nat} (h:Grw L L' n) {v:Int} (hv:(b7 L v).isSome):b7 L' v=b7 L v:=by
 obtain ⟨N,e,_⟩:=h
 obtain ⟨u,hu⟩:=Option.isSome_iff_exists.1 hv
 rw [e,M6,hu];rfl
theorem a9X:∀ {ps ts:List Tm} {L:List Bd},(∀ p∈ps,∀ t L,(mt p t L).1=true→∀ v∈p.vs,(b7 (mt p t L).2 v).isSome)→ps.length=ts.length→(mts ps ts L).1=true→∀ v∈ps.flatMap Tm.vs,(b7 (mts ps ts L).2 v).isSome
 | [],_,_,_,_,_,v,hv=>by simp at hv
 | _::_,[],_,_,h,_,_,_=>by simp at h
 | p::ps,t::ts,L,ih,hl,h,v,hv=>by
  rw [A6] at h ⊢
  cases h1:(mt p t L).1 with
  | false=>rw [E9 h1] at h;cases h
  | true =>
   rw [C1 h1] at h ⊢
   rw [List.flatMap_cons,List.mem_append] at hv
   rcases hv with hv | hv
   ·have:=ih p (by simp) t L h1 v hv
    rw [(a3G ps ts _).some this];exact this
   ·exact a9X (fun q hq=>ih q (List.mem_cons_of_mem _ hq)) (by simpa using hl) h v hv
theorem b4y (p:Tm):∀ t L,(mt p t L).1=true→∀ v∈p.vs,(b7 (mt p t L).2 v).isSome:=by
 induction p using Tm.ind with
 | h f l ih =>
  intro t L h v hv
  by_cases hf:f<0
  ·rw [Q0 _ _ hf]
   rw [Tm.vs_var hf,List.mem_singleton] at hv
   rw [hv];exact b1a _ _ _
  ·by_cases h2:f≠t.f∨l.length≠t.l.length
   ·rw [a2T _ hf h2] at h;cases h
   ·rw [Q7 _ hf (by show f=_;omega) (by show l.length=_;omega)] at h ⊢
    rw [Tm.vs_sym hf] at hv
    exact a9X ih (by show l.length=_;omega) h v hv
end Go.Proofs.YtekboofbedakcaaGreat
namespace Go.Proofs.YtekboofbedakcaaGreat
open Go.RowKit
set_option linter.unusedVariables false
set_option linter.unusedSimpArgs false
set_option maxRecDepth 100000
section
variable {α:Type} (lt:α→α→Bool) (a:Nat)
def Q8:Nat→List α→List α
 | 0,L=>L
 | j+1,L=>match L[j+1]?,L[j]? with
  | some x,some y=>if a<j+1∧lt x y=true then Q8 j ((L.set (j+1) y).set j x) else L
  | _,_=>L
def p9:Nat→Nat→List α→List α
 | 0,_,L=>L
 | n+1,i,L=>p9 n (i+1) (Q8 lt a i L)
theorem a1w {j:Nat} {L:List α} (h:¬ a<j):Q8 lt a j L=L:=by
 cases j with
 | zero=>rfl
 | succ j=>unfold Q8;split<;>simp [h]
theorem a2z {j:Nat} {L:List α} {x y:α} (hx:L[j+1]?=some x) (hy:L[j]?=some y) (h:lt x y=false):Q8 lt a (j+1) L=L:=by
 unfold Q8;rw [hx,hy];simp [h]
theorem a0l {j:Nat} {L:List α} {x y:α} (hx:L[j+1]?=some x) (hy:L[j]?=some y) (ha:a<j+1) (h:lt x y=true):Q8 lt a (j+1) L=Q8 lt a j ((L.set (j+1) y).set j x):=by
 conv=>lhs;unfold Q8
 rw [hx,hy];simp [h,ha]
end
theorem a5O (W:World) (x y:Int):AFun Tryz.prog W 73 [.i x,.i y] (.val (.i (B3 x y))):=by
 refine ⟨r9 Tryz.func73 rfl rfl,.inl rfl,rfl,?_⟩
 rintro U w vs hW ⟨u1,us1,rfl,h1,u2,us2,rfl,h2,h3⟩
 have h3:us2=[]:=h3
 subst h3
 obtain ⟨rfl,_⟩:=b5.1 h1
 obtain ⟨rfl,_⟩:=b5.1 h2
 refine (I8 x y w).mono ?_
 rintro e w' ⟨rfl,hb⟩
 exact ⟨_,rfl,b5.2 ⟨rfl,rfl⟩,hb⟩
def Y5 (q:Bd→Bool):List Bd→Nat→Int
 | [],_ => -1
 | b::l,i=>if q b then (i:Int) else Y5 q l (i+1)
theorem a1e {q:Bd→Bool}:∀ {l:List Bd} {i:Nat},(∀ b∈l,q b=false)→Y5 q l i = -1
 | [],_,_=>rfl
 | b::l,i,h=>by rw [Y5,h b (by simp),if_neg (by simp)];exact a1e fun c hc=>h c (List.mem_cons_of_mem _ hc)
theorem a5S {q:Bd→Bool}:∀ {l:List Bd} {i k:Nat} {b:Bd},l[k]?=some b→q b=true→(∀ j c,j<k→l[j]?=some c→q c=false)→Y5 q l i=((i+k:Nat):Int)
 | [],_,_,_,h,_,_=>by simp at h
 | x::l,i,0,b,h,hq,_=>by simp at h;subst h;rw [Y5,if_pos hq];rfl
 | x::l,i,k+1,b,h,hq,hf=>by
  rw [Y5,hf 0 x (by omega) rfl,if_neg (by simp),a5S (k:=k) (by simpa using h) hq fun j c hj hc=>hf (j+1) c (by omega) (by simpa using hc)]
  congr 1;omega
theorem a7X (q:Bd→Bool) (fc:CV) (L:List Bd) (n:Nat) (hnl:n≤L.length) (hn:L.length≤1000000000) (hc:∀ W x,x∈L.take n→K7 Tryz.prog W fc [x.cw] (.val (.b (q x)))) :
  q6 Tryz.prog 151 [(400000,.mrow 85 3 (L.map Bd.cv))] [.sl 400000 0 n 3,.val fc] (.val (.i (Y5 q (L.take n) 0))) [(400000,.mrow 85 3 (L.map Bd.cv))]:=by
 refine i8 Tryz.func151 Tryz.ntmps151 rfl rfl rfl rfl rfl rfl ?_
 intro w U hU
 refine aS (aR ?_)
 refine nc zd ?_
 refine aS (aS (aR ?_))
 refine nc zj (nc zU (nc zj ?_))
 refine aB (p6 n (fun k=>∀ j c,j<k→(L.take n)[j]?=some c→q c=false) (fun k=>[(0,.sl 400000 0 n 3),(1,.val fc),(7,.val (.i n)),(8,.val (.i k)),(400000,.mrow 85 3 (L.map Bd.cv))]) (a7 ⟨rfl,rfl,rfl,rfl,rfl,trivial⟩) (fun j c hj=>by omega) ?_)
 intro k hk hI
 refine aS (aR ?_)
 refine nc zh ?_
 refine aS (aC rfl (fun hlt=>?_) (fun hlt=>?_))
 ·have hkl:k<n:=by simpa using hlt
  obtain ⟨x,hx0⟩:∃ x,L[k]?=some x:=⟨L[k]'(by omega),List.getElem?_eq_getElem (by omega)⟩
  have hx:(L.take n)[k]?=some x:=by rw [List.getElem?_take,if_pos hkl];exact hx0
  have hx':=Bd.map_at hx0
  refine aK ?_
  refine aS (aB (aS (aR ?_)))
  refine nc zj (nc zd ?_)
  refine aS (aR ?_)
  refine nc zj (nc zj (nc zj (nc (zV (k:=k)) (nc (zW (G:=hx')) (nc (zX (E:=hc _ x (List.mem_of_getElem? hx))) ?_)))))
  refine aC rfl (fun hq=>?_) (fun hq=>?_)
  ·refine aS (aR ?_)
   refine nc zj (nc zd ?_)
   refine aT ⟨.inr rfl,_,Wk.refl _,?_,rfl,trivial⟩
   rw [a5S hx hq hI,Nat.zero_add]
   rfl
  ·refine aK ?_
   refine aR ?_
   refine nc zu (nc zj ?_)
   refine ⟨hkl,fun j c hj hc=>?_,a7 ⟨rfl,rfl,rfl,rfl,rfl,trivial⟩⟩
   rcases Nat.lt_or_ge j k with h | h
   ·exact hI j c h hc
   ·have:j=k:=by omega
    subst this
    rw [hx] at hc
    cases hc
    exact hq
 ·have hkl:¬ k<n:=by simpa using hlt
  refine aE ?_
  refine aS (aR ?_)
  refine nc zd ?_
  refine aT ⟨.inr rfl,_,Wk.refl _,?_,rfl,trivial⟩
  rw [a1e fun b hb=>?_]
  ·rfl
  ·obtain ⟨j,hj⟩:=List.getElem?_of_mem hb
   have hjl:j<n:=by
    rw [List.getElem?_take] at hj
    split at hj
    ·assumption
    ·cases hj
   exact hI j b (by omega) hj
noncomputable def fA (m:Nat) (L:List Bd):AV:=⟨if L.length≤m then 18 else 12,if L.length≤m then .lst (L.map Bd.cv) else .row [],300001,0,if L.length≤m then [] else [L.length,3]⟩
noncomputable def rA (m:Nat) (L:List Bd):AV:=⟨13,.lst (if L.length≤m then [] else L.map Bd.cv),0,85,[3]⟩
noncomputable abbrev bst (m:Nat) (L:List Bd):AS:=[(450001,.obj),(35500100,fA m L),(35500101,.val (.sc (.map none))),(300001,rA m L)]
noncomputable abbrev bsA (L:List Bd):AS:=[(450001,.obj),(35500100,⟨18,.lst (L.map Bd.cv),300001,0,[]⟩),(35500101,.val (.sc (.map none))),(300001,.mrow 85 3 [])]
noncomputable abbrev bsB (L:List Bd):AS:=[(450001,.obj),(35500100,.sl 300001 0 L.length 3),(35500101,.val (.sc (.map none))),(300001,.mrow 85 3 (L.map Bd.cv))]
theorem a8q {m:Nat} {L:List Bd} (h:L.length≤m):bst m L=bsA L:=by simp only [bst,fA,rA,if_pos h]
theorem a7W {m:Nat} {L:List Bd} (h:¬ L.length≤m):bst m L=bsB L:=by simp only [bst,fA,rA,if_neg h]
theorem S2 (m:Nat) (L:List Bd):(bst m L).all Y0=true:=by kernel_rfl
theorem H3 (m:Nat) (L:List Bd):(bst m L).all (Q1 (kO (bst m L)))=true:=by
 by_cases h:L.length≤m
 ·rw [a8q h];kernel_rfl
 ·rw [a7W h];kernel_rfl
abbrev isV (v:Int):Bd→Bool:=fun b=>decide (b.v=v)
theorem a0A:∀ (L:List Bd) (v:Int) (i:Nat),(b7 L v=none∧Y5 (isV v) L i = -1)∨∃ k b,L[k]?=some b∧b7 L v=some b.t∧Y5 (isV v) L i=((i+k:Nat):Int)
 | [],v,i => .inl ⟨rfl,rfl⟩
 | b::L,v,i=>by
  by_cases h:b.v=v
  ·exact .inr ⟨0,b,rfl,by rw [b7,if_pos h],by rw [Y5,if_pos (by simpa using h)];rfl⟩
  ·rw [b7,if_neg h,Y5,if_neg (by simpa using h)]
   rcases a0A L v (i+1) with h1 | ⟨k,c,h1,h2,h3⟩
   ·exact .inl h1
   ·exact .inr ⟨k+1,c,by simpa using h1,h2,by rw [h3];congr 1;omega⟩
theorem a8S (W:World) (t:Tm):AFun Tryz.prog W 133 [t.cw] (.val (.b (decide (t.f<0)))):=by
 refine a8 (rs:=[.b (decide (t.f<0))]) Tryz.func133 Tryz.ntmps133 rfl rfl rfl rfl ?_
 intro w U hW
 refine aS (aR ?_)
 refine nc zb (nc zd ?_)
 refine aS (aR ?_)
 refine nc ze (nc zg (nc zh (nc zd ?_)))
 exact aT ⟨.inr rfl,rfl⟩
theorem a6A (W:World) (t:Tm) (h1 : -9223372036854775808≤t.f) (h2:t.f<0):AFun Tryz.prog W 135 [t.cw] (.val (.i (-1-t.f))):=by
 refine a8 (rs:=[.i (-1-t.f)]) Tryz.func135 Tryz.ntmps135 rfl rfl rfl rfl ?_
 intro w U hW
 refine aS (aR ?_)
 refine nc zb (nc zd ?_)
 refine aS (aR ?_)
 refine nc ze (nc zg (nc zi (nc zd ?_)))
 exact aT ⟨.inr rfl,rfl⟩
theorem a8a (W:World) (b:Bd) (v:Int):AFun Tryz.prog W 152 [b.cw,.ptr (.i v)] (.val (.b (isV v b))):=by
 refine a8 (rs:=[.b (isV v b)]) Tryz.func152 Tryz.ntmps152 rfl rfl rfl rfl ?_
 intro w U hW
 refine aS (aR ?_)
 refine nc zb (nc zd ?_)
 refine aS (aR ?_)
 refine nc ze (nc zg (nc zY (nc zC (nc zd ?_))))
 exact aT ⟨.inr rfl,rfl⟩
theorem a8h (W:World) (q:Bd→Bool) (fc:CV) (L:List Bd) (hn:L.length≤1000000000) (hc:∀ W x,x∈L→K7 Tryz.prog W fc [x.cw] (.val (.b (q x)))) :
  AFun Tryz.prog W 151 [.lst (L.map Bd.cv),fc] (.val (.i (Y5 q L 0))):=by
 have hsz:=Bd.size_all L
 refine a8 (rs:=[.i (Y5 q L 0)]) Tryz.func151 Tryz.ntmps151 rfl rfl rfl rfl ?_
 intro w U hW
 refine aS (aR ?_)
 refine nc zd ?_
 refine aS (aS (aR ?_))
 refine nc zj (nc zp (nc zj ?_))
 refine aB (p6 L.length (fun k=>∀ j c,j<k→L[j]?=some c→q c=false) (fun k=>[(0,.val (.lst (L.map Bd.cv))),(1,.val fc),(7,.val (.i (L.map Bd.cv).length)),(8,.val (.i k))]) (a7 ⟨rfl,rfl,rfl,rfl,trivial⟩) (fun j c hj=>by omega) ?_)
 intro k hk hI
 refine aS (aR ?_)
 refine nc zh ?_
 refine aS (aC rfl (fun hlt=>?_) (fun hlt=>?_))
 ·have hkl:k<L.length:=by simpa using hlt
  obtain ⟨x,hx⟩:∃ x,L[k]?=some x:=⟨L[k],List.getElem?_eq_getElem hkl⟩
  have hx':=Bd.map_at hx
  refine aK ?_
  refine aS (aB (aS (aR ?_)))
  refine nc zj (nc zd ?_)
  refine aS (aR ?_)
  refine nc zj (nc zj (nc zj (nc (zz (j:=k) (H:=hx') (hz:=hsz)) (nc zA (nc (zX (E:=hc _ x (List.mem_of_getElem? hx))) ?_)))))
  refine aC rfl (fun hq=>?_) (fun hq=>?_)
  ·refine aS (aR ?_)
   refine nc zj (nc zd ?_)
   rw [a5S hx hq hI,Nat.zero_add]
   exact aT ⟨.inr rfl,rfl⟩
  ·refine aK ?_
   refine aR ?_
   refine nc zu (nc zj ?_)
   refine ⟨hkl,fun j c hj hc=>?_,a7 ⟨rfl,rfl,rfl,rfl,trivial⟩⟩
   rcases Nat.lt_or_ge j k with h | h
   ·exact hI j c h hc
   ·have:j=k:=by omega
    subst this
    rw [hx] at hc
    cases hc
    exact hq
 ·have hkl:¬ k<L.length:=by simpa using hlt
  rw [a1e fun b hb=>?_]
  ·refine aE ?_
   refine aS (aR ?_)
   refine nc zd ?_
   exact aT ⟨.inr rfl,rfl⟩
  ·obtain ⟨j,hj⟩:=List.getElem?_of_mem hb
   have hjl:j<L.length:=by
    rcases Nat.lt_or_ge j L.length with h | h
    ·exact h
    ·rw [List.getElem?_eq_none h] at hj;cases hj
   exact hI j b (by omega) hj
theorem a9F (W:World) (v:Int) (x:Bd):K7 Tryz.prog W (.fn 152 0 [.ptr (.i v)]) [x.cw] (.val (.b (isV v x))) := .inl ⟨152,0,[.ptr (.i v)],rfl,a8a W x v⟩
theorem a8M (L:List Bd) (v:Int) (hl:L.length≤1000000):q6 Tryz.prog 150 (bsA L) [.bp 350001 0 [],.val (.i v)] (.tup [.i (Y5 (isV v) L 0),.b (decide (Y5 (isV v) L 0≥0))]) (bsA L):=by
 refine i8 Tryz.func150 Tryz.ntmps150 rfl rfl rfl rfl rfl rfl ?_
 intro w U hU
 refine aS (aR ?_)
 refine ne zb (nc zd (nc zd ?_))
 refine aS (aS (aR ?_))
 refine nc zj (nc zZ (nc ze (nc z0 (nc z7 ?_))))
 refine aC rfl (fun hc=>by cases hc) (fun hc=>?_)
 refine aK ?_
 refine AWp.wk (E0 3 rfl rfl rfl (s':=(0,.bp 350001 0 [])::bsA L) ⟨rfl,rfl,rfl,rfl,rfl,trivial⟩ (by kernel_rfl) (by kernel_rfl) (by kernel_rfl)) ?_
 refine aS (aR ?_)
 refine nc zj (nc zZ (nc ze (nc z8 (nc zG ?_))))
 refine nc (zn (z:=a8h w (isV v) _ L (by omega) (fun W x _=>a9F W v x))) ?_
 refine nc zd ?_
 refine aS (aR ?_)
 refine nc zj (nc zj (nc zL (nc zd (nc zd ?_))))
 exact aT ⟨.inr rfl,_,Wk.refl _,rfl,rfl,rfl,rfl,rfl,trivial⟩
theorem a8c (L:List Bd) (v:Int) (hl:L.length≤1000000):q6 Tryz.prog 150 (bsB L) [.bp 350001 0 [],.val (.i v)] (.tup [.i (Y5 (isV v) L 0),.b (decide (Y5 (isV v) L 0≥0))]) (bsB L):=by
 refine i8 Tryz.func150 Tryz.ntmps150 rfl rfl rfl rfl rfl rfl ?_
 intro w U hU
 refine aS (aR ?_)
 refine ne zb (nc zd (nc zd ?_))
 refine aS (aS (aR ?_))
 refine nc zj (nc zZ (nc ze (nc z0 (nc z7 ?_))))
 refine aC rfl (fun hc=>by cases hc) (fun hc=>?_)
 refine aK ?_
 refine AWp.wk (E0 3 rfl rfl rfl (s':=(0,.bp 350001 0 [])::bsB L) ⟨rfl,rfl,rfl,rfl,rfl,trivial⟩ (by kernel_rfl) (by kernel_rfl) (by kernel_rfl)) ?_
 have hUf:U.f 400000=none:=by
  cases h:U.f 400000 with
  | none=>rfl
  | some x=>have:=hU _ _ h;cases this
 refine AWp.wk (a0L 300001 400000 rfl rfl hUf (by kernel_rfl) (by kernel_rfl) (by kernel_rfl)) ?_
 have hix:=a7X (isV v) (.fn 152 0 [.ptr (.i v)]) L L.length (Nat.le_refl _) (by omega) (fun W x _=>a9F W v x)
 rw [List.take_length] at hix
 refine aS (aR ?_)
 refine nc zj (nc zZ (nc ze (nc z0 (nc zG (nc (z9 (z:=hix) (B:=by first | rfl | kernel_rfl) (C:=by first | rfl | kernel_rfl) (G:=j8 (by first | rfl | kernel_rfl))) (nc zd ?_))))))
 refine aS (aR ?_)
 refine nc zj (nc zj (nc zL (nc zd (nc zd ?_))))
 refine aT ⟨.inr rfl,_,(a7 (s':=[(4,.val (.i (Y5 (isV v) L 0))),(5,.val (.b (decide (Y5 (isV v) L 0≥0)))),(450001,.obj),(35500100,.sl 400000 0 L.length 3),(35500101,.val (.sc (.map none))),(400000,.mrow 85 3 (L.map Bd.cv))]) ⟨rfl,rfl,rfl,rfl,rfl,rfl,trivial⟩).trans (a0L 400000 300001 rfl rfl ?_ (by kernel_rfl) (by kernel_rfl) (by kernel_rfl)),rfl,rfl,rfl,rfl,rfl,trivial⟩
 cases h:U.f 300001 with
 | none=>rfl
 | some x=>have:=(U.hf _ _ h).1;omega
theorem a4G (L:List Bd) (v:Int) (hl:L.length≤64):q6 Tryz.prog 145 (bsA L) [.bp 350001 0 [],.val (.i v)] (.tup [((b7 L v).getD ⟨0,[]⟩).cw,.b (b7 L v).isSome]) (bsA L):=by
 have hsz:=Bd.size_all L
 refine i8 Tryz.func145 Tryz.ntmps145 rfl rfl rfl rfl rfl rfl ?_
 intro w U hU
 refine aS (aR ?_)
 refine ne zw (nc zd ?_)
 refine aS (aS (aR ?_))
 refine nc zj (nc zZ (nc ze (nc z0 (nc zba (nc zj (nc (zj (p:=gc)) (nc (zZ (r:=gc)) (nc (ze (r:=gc)) (nc (z8 (r:=gc)) (nc (zp (r:=gc)) (nc (zT (r:=gc)) (nc zO ?_))))))))))))
 refine aC rfl (fun hc=>?_) (fun hc=>?_)
 ·simp only [List.length_map,decide_eq_true_eq] at hc
  omega
 refine aK ?_
 refine aS (aR ?_)
 refine nc zj (nc zj (nc (z9 (z:=a8M L v (by omega)) (B:=by first | rfl | kernel_rfl) (C:=by first | rfl | kernel_rfl) (G:=j8 (by first | rfl | kernel_rfl))) (nc zj (nc zD (nc zD (nc zd (nc zd ?_)))))))
 refine aS (aS (aR ?_))
 refine nc zj (nc zt ?_)
 rcases a0A L v 0 with ⟨h1,h2⟩ | ⟨k,b,h1,h2,h3⟩
 ·rw [h1,h2]
  refine aC rfl (fun hc=>?_) (fun hc=>by cases hc)
  refine aS (aR ?_)
  refine nc zx (nc zy (nc zd ?_))
  exact aT ⟨.inr rfl,_,Wk.refl _,rfl,rfl,rfl,rfl,rfl,trivial⟩
 ·rw [Nat.zero_add] at h3
  rw [h2,h3]
  have hb':=Bd.map_at h1
  refine aC rfl (fun hc=>?_) (fun hc=>?_)
  ·simp at hc<;>omega
  refine aK ?_
  refine aS (aR ?_)
  refine nc zj (nc zZ (nc ze (nc z8 (nc zj (nc (zz (j:=k) (H:=hb') (hz:=hsz)) (nc zS (nc zA (nc zy (nc zd ?_)))))))))
  exact aT ⟨.inr rfl,_,Wk.refl _,rfl,rfl,rfl,rfl,rfl,trivial⟩
theorem a4W (L:List Bd) (v:Int) (hl:L.length≤64):q6 Tryz.prog 145 (bsB L) [.bp 350001 0 [],.val (.i v)] (.tup [((b7 L v).getD ⟨0,[]⟩).cw,.b (b7 L v).isSome]) (bsB L):=by
 have hsz:=Bd.size_all L
 refine i8 Tryz.func145 Tryz.ntmps145 rfl rfl rfl rfl rfl rfl ?_
 intro w U hU
 refine aS (aR ?_)
 refine ne zw (nc zd ?_)
 refine aS (aS (aR ?_))
 refine nc zj (nc zZ (nc ze (nc z0 (nc zba (nc zj (nc (zj (p:=gc)) (nc (zZ (r:=gc)) (nc (ze (r:=gc)) (nc (z0 (r:=gc)) (nc (zU (p:=gc)) (nc (zT (r:=gc)) (nc zO ?_))))))))))))
 refine aC rfl (fun hc=>?_) (fun hc=>?_)
 ·simp only [decide_eq_true_eq] at hc
  omega
 refine aK ?_
 refine AWp.wk (a7 (s':=(0,.bp 350001 0 [])::(1,.val (.i v))::(4,.bp 4 0 [])::(100004,⟨5,.row [.i 0,.lst []],1,0,[1]⟩)::bsB L) ⟨rfl,rfl,rfl,rfl,rfl,rfl,rfl,rfl,trivial⟩) ?_
 refine aS (aR ?_)
 refine nc zj (nc zj (nc (z9 (z:=a8c L v (by omega)) (B:=by first | rfl | kernel_rfl) (C:=by first | rfl | kernel_rfl) (G:=j8 (by first | rfl | kernel_rfl))) (nc zj (nc zD (nc zD (nc zd (nc zd ?_)))))))
 refine aS (aS (aR ?_))
 refine nc zj (nc zt ?_)
 rcases a0A L v 0 with ⟨h1,h2⟩ | ⟨k,b,h1,h2,h3⟩
 ·rw [h1,h2]
  refine aC rfl (fun hc=>?_) (fun hc=>by cases hc)
  refine aS (aR ?_)
  refine nc zx (nc zy (nc zd ?_))
  exact aT ⟨.inr rfl,_,Wk.refl _,rfl,rfl,rfl,rfl,rfl,trivial⟩
 ·rw [Nat.zero_add] at h3
  rw [h2,h3]
  have hb':=Bd.map_at h1
  have hkl:k<L.length:=by
   rcases Nat.lt_or_ge k L.length with h | h
   ·exact h
   ·rw [List.getElem?_eq_none h] at h1;cases h1
  refine aC rfl (fun hc=>?_) (fun hc=>?_)
  ·simp at hc<;>omega
  refine aK ?_
  refine aS (aR ?_)
  refine nc zj (nc zZ (nc ze (nc z0 (nc zj (nc (zV (k:=k)) (nc zbb (nc (zW (G:=hb')) (nc zy (nc zd ?_)))))))))
  exact aT ⟨.inr rfl,_,Wk.refl _,rfl,rfl,rfl,rfl,rfl,trivial⟩
theorem b3b (a:Option Addr) (n c:Nat) (w:World) (hnc:n≤c) :
  Calls Tryz.prog 132 #[.slice a n c] w fun e w'=>e = .returned (.slice a n n)∧w'=w:=by
 have hA:a.map (fun x=>x.add 0)=a:=by
  cases a with
  | none=>rfl
  | some ad=>cases ad with | mk b f g=>cases g<;>simp [Addr.add]
 go_enter Tryz.func132,Tryz.ntmps132
 go_wp2
 go_ret
 exact ⟨rfl,rfl⟩
theorem a8e (a:Option Addr) (n c:Nat) (w:World) (hnc:n≤c) :
  Calls Tryz.prog 107 #[.slice a n c] w fun e w'=>e = .returned (.pointer (some ⟨w.heap.size,0,none⟩))∧w'=w.alloc (.cells #[.slice a n n,.map none] 187):=by
 go_enter Tryz.func107,Tryz.ntmps107
 go_wp2_with fail
 refine (b3b a n c w hnc).mono ?_
 rintro e w1 ⟨rfl,rfl⟩
 go_wp2
 go_ret
 exact ⟨rfl,rfl⟩
theorem K0 {L:List Bd} {k:Nat} {av:AV} (h:look (bsA L) k=some av):(k=450001∧av = .obj)∨(k=35500100∧av=⟨18,.lst (L.map Bd.cv),300001,0,[]⟩)∨(k=35500101∧av = .val (.sc (.map none)))∨(k=300001∧av = .mrow 85 3 []):=by
 rw [r7] at h
 split at h
 ·rename_i e;cases h;exact .inl ⟨e.symm,rfl⟩
 rw [r7] at h
 split at h
 ·rename_i e;cases h;exact .inr (.inl ⟨e.symm,rfl⟩)
 rw [r7] at h
 split at h
 ·rename_i e;cases h;exact .inr (.inr (.inl ⟨e.symm,rfl⟩))
 rw [r7] at h
 split at h
 ·rename_i e;cases h;exact .inr (.inr (.inr ⟨e.symm,rfl⟩))
 ·cases h
theorem a8T (L:List Bd):q6 Tryz.prog 107 [] [.val (.lst (L.map Bd.cv))] (.bp 350001 0 []) (bsA L):=by
 refine ⟨r9 Tryz.func107 rfl rfl,fun U w hv a0 vs hU hpS hargs=>?_⟩
 obtain ⟨u,us,rfl,hu,rfl⟩:∃ u us,vs=u::us∧AVRep (Us w U (fun _ _=>False)) w hv (b6 []) (.val (.lst (L.map Bd.cv))) u∧us=[]:=hargs
 have hu:VRep (Us w U (fun _ _=>False)) w (.lst (L.map Bd.cv)) u:=hu.1
 obtain ⟨a,n,c,rfl,h1,h2,h3,h4,ys,h5,h6⟩:=d8.1 hu
 refine (a8e a n c w h2).mono ?_
 rintro e w' ⟨rfl,hw'⟩
 have hB:Below w.heap.size w w':=by rw [hw'];exact (Below.refl _ _).alloc (Nat.le_refl _) _
 have hnew:w'.heap[w.heap.size]?=some (.cells #[.slice a n n,.map none] 187 (0,0)):=by rw [hw'];exact D9 w _
 have hlt:w.heap.size<w'.heap.size:=by
  rcases Nat.lt_or_ge w.heap.size w'.heap.size with h | h
  ·exact h
  ·rw [Array.getElem?_eq_none h] at hnew;cases hnew
 have hcell:∀ i,i<2→w'.cell? ⟨w.heap.size,i,none⟩=(#[.slice a n n,.map none]:Array Value)[i]?:=fun i hi=>by
  simp only [World.cell?,hnew]
  simp
 have hfull:VRep (Us w U (fun _ _=>False)) w' (.lst (L.map Bd.cv)) (.slice a n n):=by
  have hk:∀ b o v,Us w U (fun _ _=>False) b o→w.cell? ⟨b,o,none⟩=some v→Us w U (fun _ _=>False) b o∧w'.cell? ⟨b,o,none⟩=some v:=fun b o v hu hc=>by
   refine ⟨hu,?_⟩
   rw [hB.cell (p:=⟨b,o,none⟩) (World.block_lt_of_cell? w _ hc)];exact hc
  refine VRep.keep hk (d8.2 ⟨a,n,n,rfl,h1,Nat.le_refl _,by omega,fun h=>⟨(h4 h).1,(h4 h).1⟩,ys,h5,h6⟩)
 obtain ⟨hv',hhv⟩:∃ hv':Nat→Value,hv'=fun k=>if k=450001 then .pointer (some ⟨w.heap.size,0,none⟩) else .slice none 0 0:=⟨_,rfl⟩
 have hv1:hv' 450001 = .pointer (some ⟨w.heap.size,0,none⟩):=by rw [hhv];simp
 have hv2:hv' 300001 = .slice none 0 0:=by rw [hhv];simp
 refine ⟨_,fun _ _=>False,hv',⟨#[],[]⟩,rfl,⟨⟨hB.os,hB.tape,hB.output,hB.size,fun k hk _=>hB.block k hk⟩,rfl,rfl,fun d av g1 g2=>?_,fun m o av g1 g2 g3 g4=>?_,fun m o o' av av' g1 g2 g3 g4 g5=>?_,fun k av g1 g2=>?_,fun k av g g1 g2 g3 g4=>?_,fun k k' av av' g g1 g2 g3 g4 g5 g6 g7 g8 g9=>?_,fun k v hk=>?_,fun b o hd=>hd.elim⟩,?_⟩
 ·rcases K0 g1 with ⟨e,_⟩ | ⟨e,_⟩ | ⟨e,_⟩ | ⟨e,_⟩<;>omega
 ·have hm:m=350001:=by
   unfold BN at g4
   rcases K0 g3 with ⟨e,_⟩ | ⟨e,_⟩ | ⟨e,_⟩ | ⟨e,_⟩<;>omega
  subst hm
  have hbk:o8 (hv' (100000+350001))=w.heap.size:=by rw [show 100000+350001=450001 from rfl,hv1];rfl
  rw [hbk]
  rcases K0 g1 with ⟨e,_⟩ | ⟨e,rfl⟩ | ⟨e,rfl⟩ | ⟨e,_⟩
  ·unfold c8 at e;omega
  ·have ho:o=0:=by unfold c8 at e;omega
   subst ho
   refine ⟨.slice a n n,⟨hfull,a,n,rfl⟩,rfl,fun i hi=>?_⟩
   have hi:i<1:=hi
   obtain rfl:i=0:=by omega
   rw [hcell _ (by omega)];rfl
  ·have ho:o=1:=by unfold c8 at e;omega
   subst ho
   refine ⟨.map none,m7 rfl,rfl,fun i hi=>?_⟩
   have hi:i<1:=hi
   obtain rfl:i=0:=by omega
   rw [hcell _ (by omega)];rfl
  ·unfold c8 at e;omega
 ·rcases K0 g1 with ⟨e,_⟩ | ⟨e,rfl⟩ | ⟨e,rfl⟩ | ⟨e,_⟩
  ·unfold c8 at e;omega
  ·show o+1≤o';omega
  ·show o+1≤o';omega
  ·unfold c8 at e;omega
 ·unfold n7 at g2
  rcases K0 g1 with ⟨rfl,rfl⟩ | ⟨e,_⟩ | ⟨e,_⟩ | ⟨rfl,rfl⟩
  ·exact ⟨w.heap.size,_,_,hv1,hnew⟩
  ·omega
  ·omega
  ·rw [hv2]
   exact ⟨[],World.ownsRow_nil _ _ _ _,by decide,(fun c hc=>by cases hc),rfl⟩
 ·unfold n7 at g2
  rcases K0 g1 with ⟨rfl,rfl⟩ | ⟨e,_⟩ | ⟨e,_⟩ | ⟨rfl,rfl⟩
  ·rw [hv1] at g4
   have g4:some w.heap.size=some g:=g4
   cases g4
   exact ⟨.inl (Nat.le_refl _),hlt,fun o _ h=>h⟩
  ·omega
  ·omega
  ·rw [hv2] at g4;cases g4
 ·unfold n7 at g3 g4
  have hk:∀ {k av},look (bsA L) k=some av→100000≤k∧k<500000→k=450001∨hb (hv' k)=none:=fun {k av} f1 f2=>by
   rcases K0 f1 with ⟨rfl,rfl⟩ | ⟨e,_⟩ | ⟨e,_⟩ | ⟨rfl,rfl⟩
   ·exact .inl rfl
   ·omega
   ·omega
   ·right;rw [hv2];rfl
  rcases hk g1 g3 with e1 | e1
  ·rcases hk g2 g4 with e2 | e2
   ·omega
   ·rw [e2] at g9;cases g9
  ·rw [e1] at g8;cases g8
 ·have:=hU k v hk;cases this
 ·refine ⟨.inr ⟨by decide,by decide⟩,?_⟩
  show _=Value.pointer (some ⟨o8 (hv' (100000+350001)),0,none⟩)
  rw [show 100000+350001=450001 from rfl,hv1];rfl
theorem b3q (m:Nat) (L:List Bd) (v:Int) (hl:L.length≤64):q6 Tryz.prog 145 (bst m L) [.bp 350001 0 [],.val (.i v)] (.tup [((b7 L v).getD ⟨0,[]⟩).cw,.b (b7 L v).isSome]) (bst m L):=by
 by_cases h:L.length≤m
 ·rw [a8q h];exact a4G L v hl
 ·rw [a7W h];exact a4W L v hl
theorem a8j (m:Nat) (L:List Bd) (v:Int) (t u:Tm) (hl:L.length≤64) (hf:b7 L v=some u) (hu:u.rng) (ht:t.rng):q6 Tryz.prog 134 (bst m L) [.bp 350001 0 [],.val (.i v),.val t.cw] (.val (.b (A9 u t))) (bst m L):=by
 have hget:=b3q m L v hl
 rw [hf] at hget
 refine i8 Tryz.func134 Tryz.ntmps134 rfl rfl rfl rfl rfl rfl ?_
 intro w U hU
 refine aS (aR ?_)
 refine ne zb (nc zd ?_)
 refine aS (aS (aR ?_))
 refine nc zj (nc zj (nc (z9 (z:=hget) (B:=S2 _ _) (C:=H3 _ _) (G:=j8 (by first | rfl | kernel_rfl))) (nc zj (nc zD (nc zD (ne zw (nc zy (nc zd ?_))))))))
 refine aS (aR ?_)
 refine nc zj ?_
 refine aC rfl (fun hc=>?_) (fun hc=>by cases hc)
 refine aS (aR ?_)
 refine nc zE (nc zE (nc (zn (z:=a7w w hu ht)) (nc zd ?_)))
 exact aT ⟨.inr rfl,_,Wk.refl _,rfl,rfl,rfl,rfl,rfl,trivial⟩
theorem a8C (L:List Bd) (v:Int) (t:Tm) (hl:L.length≤64) (hf:b7 L v=none):q6 Tryz.prog 134 (bsA L) [.bp 350001 0 [],.val (.i v),.val t.cw] (.val (.b true)) (bsB (L++[⟨v,t⟩])):=by
 have hget:=a4G L v hl
 rw [hf] at hget
 have hsz:=Bd.size_all L
 refine i8 Tryz.func134 Tryz.ntmps134 rfl rfl rfl rfl rfl rfl ?_
 intro w U hU
 refine aS (aR ?_)
 refine ne zb (nc zd ?_)
 refine aS (aS (aR ?_))
 refine nc zj (nc zj (nc (z9 (z:=hget) (B:=by first | rfl | kernel_rfl) (C:=by first | rfl | kernel_rfl) (G:=j8 (by first | rfl | kernel_rfl))) (nc zj (nc zD (nc zD (ne zw (nc zy (nc zd ?_))))))))
 refine aS (aR ?_)
 refine nc zj ?_
 refine aC rfl (fun hc=>by cases hc) (fun hc=>?_)
 refine aK ?_
 refine aS (aS (aR ?_))
 refine nc zj (nc zZ (nc ze (nc z0 (nc z7 ?_))))
 refine aC rfl (fun hc=>by cases hc) (fun hc=>?_)
 refine aK ?_
 refine aS (aD (by kernel_rfl) (by kernel_rfl) ?_)
 refine nc zj (nc zj (nc zZ (nc ze (nc zbd (nc zj (nc zE (nc zx (nc zI (ne (zbe 300043) (nc zZ (nc ze (nc zbf ?_))))))))))))
 refine ⟨by kernel_rfl,?_⟩
 refine aS (aR ?_)
 refine nc zd ?_
 refine aT ⟨.inr rfl,_,(a7 (s':=[(6,.val (.b true)),(450001,.obj),(35500100,.sl 300043 0 (L++[(⟨v,t⟩:Bd)]).length 3),(35500101,.val (.sc (.map none))),(300043,.mrow 85 3 ((L++[(⟨v,t⟩:Bd)]).map Bd.cv))]) ⟨rfl,rfl,?_,rfl,?_,trivial⟩).trans (v9 300043 300001 rfl rfl (by kernel_rfl) (by kernel_rfl)),rfl,rfl,rfl,rfl,rfl,trivial⟩
 ·rw [List.length_append,←List.length_map (f:=Bd.cv)];rfl
 ·rw [List.map_append];rfl
theorem a7V (L:List Bd) (v:Int) (t:Tm) (hl:L.length≤64) (hf:b7 L v=none):q6 Tryz.prog 134 (bsB L) [.bp 350001 0 [],.val (.i v),.val t.cw] (.val (.b true)) (bsB (L++[⟨v,t⟩])):=by
 have hget:=a4W L v hl
 rw [hf] at hget
 have hsz:=Bd.size_all L
 refine i8 Tryz.func134 Tryz.ntmps134 rfl rfl rfl rfl rfl rfl ?_
 intro w U hU
 refine aS (aR ?_)
 refine ne zb (nc zd ?_)
 refine aS (aS (aR ?_))
 refine nc zj (nc zj (nc (z9 (z:=hget) (B:=by first | rfl | kernel_rfl) (C:=by first | rfl | kernel_rfl) (G:=j8 (by first | rfl | kernel_rfl))) (nc zj (nc zD (nc zD (ne zw (nc zy (nc zd ?_))))))))
 refine aS (aR ?_)
 refine nc zj ?_
 refine aC rfl (fun hc=>by cases hc) (fun hc=>?_)
 refine aK ?_
 refine aS (aS (aR ?_))
 refine nc zj (nc zZ (nc ze (nc z0 (nc z7 ?_))))
 refine aC rfl (fun hc=>by cases hc) (fun hc=>?_)
 refine aK ?_
 refine aS (aD (by kernel_rfl) (by kernel_rfl) ?_)
 refine nc zj (nc zj (nc zZ (nc ze (nc z0 (nc zj (nc zE (nc zx (nc zI (ne (zbg 300043) (nc zZ (nc ze (nc zbf ?_))))))))))))
 refine ⟨by kernel_rfl,?_⟩
 refine aS (aR ?_)
 refine nc zd ?_
 refine aT ⟨.inr rfl,_,(a7 (s':=[(6,.val (.b true)),(450001,.obj),(35500100,.sl 300043 0 (L++[(⟨v,t⟩:Bd)]).length 3),(35500101,.val (.sc (.map none))),(300043,.mrow 85 3 ((L++[(⟨v,t⟩:Bd)]).map Bd.cv))]) ⟨rfl,rfl,?_,rfl,?_,trivial⟩).trans (v9 300043 300001 rfl rfl (by kernel_rfl) (by kernel_rfl)),rfl,rfl,rfl,rfl,rfl,trivial⟩
 ·rw [List.length_append,←List.length_map (f:=Bd.cv)];rfl
 ·rw [List.map_append];rfl
theorem b0B (m:Nat) (L:List Bd) (v:Int) (t:Tm) (hm:m≤L.length) (hl:L.length≤64) (hL:∀ b∈L,b.t.rng) (ht:t.rng):q6 Tryz.prog 134 (bst m L) [.bp 350001 0 [],.val (.i v),.val t.cw] (.val (.b (E2 L v t).1)) (bst m (E2 L v t).2):=by
 unfold E2
 cases hf:b7 L v with
 | some u =>
  have hu:u.rng:=by
   rcases a0A L v 0 with ⟨h1,_⟩ | ⟨k,b,h1,h2,_⟩
   ·rw [hf] at h1;cases h1
   ·rw [hf] at h2;cases h2;exact hL b (List.mem_of_getElem? h1)
  exact a8j m L v t u hl hf hu ht
 | none =>
  show q6 _ _ _ _ (.val (.b true)) (bst m (L++[⟨v,t⟩]))
  rw [a7W (m:=m) (L:=L++[(⟨v,t⟩:Bd)]) (by rw [List.length_append,List.length_singleton];omega)]
  by_cases h:L.length≤m
  ·rw [a8q h];exact a8C L v t hl hf
  ·rw [a7W h];exact a7V L v t hl hf
def rngL (L:List Bd):Prop:=∀ b∈L,b.t.rng
theorem rngL.bind {L:List Bd} {v:Int} {t:Tm} (h:rngL L) (ht:t.rng):rngL (E2 L v t).2:=by
 unfold E2
 split
 ·exact h
 ·intro b hb
  rcases List.mem_append.1 hb with hb | hb
  ·exact h b hb
  ·rw [List.mem_singleton] at hb;rw [hb];exact ht
theorem rngL.mts:∀ {ps ts:List Tm} {L:List Bd},(∀ p∈ps,∀ t L,t.rng→rngL L→rngL (mt p t L).2)→(∀ t∈ts,t.rng)→rngL L→rngL (mts ps ts L).2
 | [],_,_,_,_,h=>h
 | _::_,[],_,_,_,h=>h
 | p::ps,t::ts,L,ih,ht,h=>by
  rw [A6]
  have h1:=ih p (by simp) t L (ht t (by simp)) h
  cases h2:(mt p t L).1 with
  | true=>rw [C1 h2];exact rngL.mts (fun q hq=>ih q (List.mem_cons_of_mem _ hq)) (fun q hq=>ht q (List.mem_cons_of_mem _ hq)) h1
  | false=>rw [E9 h2];exact h1
theorem rngL.mt (p:Tm):∀ t L,t.rng→rngL L→rngL (mt p t L).2:=by
 induction p using Tm.ind with
 | h f l ih =>
  intro t L ht h
  by_cases hf:f<0
  ·rw [Q0 _ _ hf];exact h.bind ht
  ·by_cases h2:f≠t.f∨l.length≠t.l.length
   ·rw [a2T _ hf h2];exact h
   ·rw [Q7 _ hf (by show f=_;omega) (by show l.length=_;omega)]
    exact rngL.mts ih (fun s hs=>((Tm.rng_iff _).1 ht).2 s hs) h
theorem a8J (m:Nat):∀ p:Tm,p.rng→p.ok→∀ (t:Tm) (L:List Bd),t.rng→m≤L.length→L.length+p.vs.length≤65→rngL L→q6 Tryz.prog 108 (bst m L) [.bp 350001 0 [],.val p.cw,.val t.cw] (.val (.b (mt p t L).1)) (bst m (mt p t L).2):=by
 intro p
 induction p using Tm.ind with
 | h f l ih =>
 intro hr hok t L ht hm hl hL
 have hok:=(Tm.ok_iff _).1 hok
 have hr:=(Tm.rng_iff _).1 hr
 have htr:=(Tm.rng_iff _).1 ht
 simp only at hok hr
 have hsz:=Tm.size_all l
 have hsz2:=Tm.size_all t.l
 refine i8 Tryz.func108 Tryz.ntmps108 rfl rfl rfl rfl rfl rfl ?_
 intro w U hU
 refine aS (aR ?_)
 refine ne zb (ne zb (nc zd ?_))
 refine aS (aS (aR ?_))
 refine nc zE ?_
 refine nc (zn (z:=a8S w ⟨f,l⟩)) ?_
 refine aC rfl (fun hc=>?_) (fun hc=>?_)
 ·have hf:f<0:=by simpa using hc
  rw [Tm.vs_var hf] at hl
  rw [Q0 _ _ hf]
  refine aS (aD (by kernel_rfl) (by kernel_rfl) ?_)
  refine nc zj (nc zE ?_)
  refine nc (zn (z:=a6A w ⟨f,l⟩ hr.1.1 hf)) ?_
  refine nc zE (nc (z9 (z:=b0B m L (-1-f) t hm (by simpa using hl) hL ht) (B:=S2 _ _) (C:=H3 _ _) (G:=j8 (by first | rfl | kernel_rfl))) (nc zd ?_))
  refine ⟨by kernel_rfl,?_⟩
  exact aT ⟨.inr rfl,_,Wk.refl _,rfl,rfl,rfl,rfl,rfl,trivial⟩
 have hf:¬ f<0:=by simpa using hc
 refine aK ?_
 by_cases hft:f=t.f
 case neg =>
  have g:decide (f≠t.f)=true:=by simpa using hft
  rw [a2T _ hf (.inl hft)]
  refine aS (aS (aR ?_))
  refine nc ze (nc zg (nc ze (nc zg (nc zK (nc zj (nc zM (nc zM (nc zM (nc zM (nc zM (nc zM (nc zM (nc zO ?_)))))))))))))
  refine aC rfl (fun hc=>?_) (fun hc=>by cases hc)
  refine aS (aR ?_)
  refine nc zd ?_
  exact aT ⟨.inr rfl,_,Wk.refl _,rfl,rfl,rfl,rfl,rfl,trivial⟩
 have g:decide (f≠t.f)=false:=by simpa using hft
 refine aS (aS (aR ?_))
 refine nc ze (nc zg (nc ze (nc zg (nc zK (nc zj (nc (ze (r:=gc)) (nc (zg (r:=gc)) (nc (zp (r:=gc)) (nc (ze (r:=gc)) (nc (zg (r:=gc)) (nc (zp (r:=gc)) (nc (zK (r:=gc)) (nc zN ?_)))))))))))))
 refine aC rfl (fun hc=>?_) (fun hc=>?_)
 ·have hll:l.length≠t.l.length:=by
   intro e
   simp [e] at hc
  rw [a2T _ hf (.inr hll)]
  refine aS (aR ?_)
  refine nc zd ?_
  exact aT ⟨.inr rfl,_,Wk.refl _,rfl,rfl,rfl,rfl,rfl,trivial⟩
 have hll:l.length=t.l.length:=by
  have hc:=of_decide_eq_false hc
  simp only [List.length_map,ne_eq,Decidable.not_not] at hc
  omega
 rw [Q7 (p:=⟨f,l⟩) _ hf hft hll]
 rw [Tm.vs_sym (t:=⟨f,l⟩) hf] at hl
 refine aK ?_
 refine aS (aS (aR ?_))
 refine nc ze (nc zg (nc zp (nc zj ?_)))
 refine aB (p6 l.length (fun k=>(mts (l.take k) (t.l.take k) L).1=true) (fun k=>(0,.bp 350001 0 [])::(4,.bp 4 0 [])::(100004,.bx (Tm.cw ⟨f,l⟩))::(5,.bp 5 0 [])::(100005,.bx t.cw)::(31,.val (.lst (l.map Tm.cv)))::(32,.val (.i (l.map Tm.cv).length))::(33,.val (.i k))::bst m (mts (l.take k) (t.l.take k) L).2) (a7 ⟨rfl,rfl,rfl,rfl,rfl,rfl,rfl,rfl,rfl,rfl,rfl,rfl,trivial⟩) rfl ?_)
 intro k hk hI
 refine aS (aR ?_)
 refine nc zh ?_
 refine aS (aC rfl (fun hlt=>?_) (fun hlt=>?_))
 ·have hkl:k<l.length:=by simpa using hlt
  obtain ⟨x,hx⟩:∃ x,l[k]?=some x:=⟨l[k],List.getElem?_eq_getElem hkl⟩
  obtain ⟨y,hy⟩:∃ y,t.l[k]?=some y:=⟨t.l[k]'(by omega),List.getElem?_eq_getElem (by omega)⟩
  have hx':=Tm.map_at hx
  have hy':=Tm.map_at hy
  have hxm:=List.mem_of_getElem? hx
  have hym:=List.mem_of_getElem? hy
  obtain ⟨Lk,hLk⟩:∃ Lk,Lk=(mts (l.take k) (t.l.take k) L).2:=⟨_,rfl⟩
  have hgk:=a3G (l.take k) (t.l.take k) L
  have hrk:rngL Lk:=by
   rw [hLk]
   exact rngL.mts (fun p _=>rngL.mt p) (fun s hs=>htr.2 s (List.mem_of_mem_take hs)) hL
  have hbound:Lk.length+x.vs.length≤65:=by
   have h1:=hgk.le.2
   rw [←hLk] at h1
   have h2:(l.flatMap Tm.vs).length=((l.take k).flatMap Tm.vs).length+((l.drop k).flatMap Tm.vs).length:=by
    conv=>lhs;rw [←List.take_append_drop k l]
    rw [List.flatMap_append,List.length_append]
   have h3:x.vs.length≤((l.drop k).flatMap Tm.vs).length:=s7 Tm.vs (List.mem_of_getElem? (i:=0) (by rw [List.getElem?_drop];simpa using hx))
   have hl:L.length+(l.flatMap Tm.vs).length≤65:=hl
   omega
  have hmk:m≤Lk.length:=by have:=hgk.le.1;rw [←hLk] at this;omega
  have hstep:=b2D hll hx hy L
  rw [C1 hI,←hLk] at hstep
  rw [←hLk]
  refine aK ?_
  refine aS (aB (aS (aR ?_)))
  refine nc zj (nc (zz (j:=k) (H:=hx') (hz:=hsz)) (nc zA (ne zw (nc zd (nc zy ?_)))))
  refine aS (aD (by kernel_rfl) (by kernel_rfl) ?_)
  refine nc zj (nc zE (nc ze (nc zg (nc zj (nc (zz (j:=k) (H:=hy') (hz:=hsz2)) (nc zA (nc (z9 (z:=ih x hxm (hr.2 x hxm) (hok.2 x hxm) y Lk (htr.2 y hym) hmk hbound hrk) (B:=S2 _ _) (C:=H3 _ _) (G:=j8 (by first | rfl | kernel_rfl))) (nc zt ?_))))))))
  refine ⟨by kernel_rfl,?_⟩
  rw [←hstep]
  refine aC rfl (fun hb=>?_) (fun hb=>?_)
  ·have hb:(mts (l.take (k+1)) (t.l.take (k+1)) L).1=false:=by simpa using hb
   rw [a7k (k+1) hb]
   refine aS (aR ?_)
   refine nc zd ?_
   rw [hb]
   exact aT ⟨.inr rfl,_,Wk.refl _,rfl,rfl,rfl,rfl,rfl,trivial⟩
  ·have hb:(mts (l.take (k+1)) (t.l.take (k+1)) L).1=true:=by simpa using hb
   refine aK ?_
   refine aR ?_
   refine nc zu (nc zj ?_)
   exact ⟨hkl,hb,a7 ⟨rfl,rfl,rfl,rfl,rfl,rfl,rfl,rfl,rfl,rfl,rfl,rfl,trivial⟩⟩
 ·have hkl:k=l.length:=by
   have:¬ k<l.length:=by simpa using hlt
   omega
  subst hkl
  rw [List.take_length,hll,List.take_length] at hI ⊢
  refine aE ?_
  refine aS (aR ?_)
  refine nc zd ?_
  rw [hI]
  exact aT ⟨.inr rfl,_,Wk.refl _,rfl,rfl,rfl,rfl,rfl,trivial⟩
def clB (b:Bd):Bd:=⟨b.v,b.t.strip⟩
noncomputable def zB:CV := .row [.i 0,.row [.i 0,.lst []]]
noncomputable def tlL (L:List Bd) (k:Nat):List CV:=((L.take k).map clB).map Bd.cv++List.replicate (L.length-k) zB
theorem a9y (L:List Bd) {k:Nat} (h:k≤L.length):(tlL L k).length=L.length:=by
 unfold tlL
 simp
 omega
theorem a7q (L:List Bd):tlL L 0=List.replicate L.length zB:=by simp [tlL]
theorem a9W (L:List Bd):tlL L L.length=(L.map clB).map Bd.cv:=by simp [tlL]
theorem b4w {L:List Bd} {k:Nat} (h:k<L.length):(tlL L k)[k]?=some zB:=by
 unfold tlL
 rw [List.getElem?_append_right (by simp;omega)]
 rw [List.getElem?_replicate,if_pos]
 simp
 omega
theorem a9V {L:List Bd} {k:Nat} {b:Bd} (h:L[k]?=some b):(tlL L k).set k (clB b).cv=tlL L (k+1):=by
 have hk:k<L.length:=by
  rcases Nat.lt_or_ge k L.length with h1 | h1
  ·exact h1
  ·rw [List.getElem?_eq_none h1] at h;cases h
 unfold tlL
 rw [List.set_append_right _ _ (by simp;omega)]
 have h1:k-(((L.take k).map clB).map Bd.cv).length=0:=by simp;omega
 rw [h1,show L.length-k=(L.length-(k+1))+1 by omega,List.replicate_succ,List.set_cons_zero,List.take_add_one,h]
 simp
theorem a8y (L:List Bd) (hl:L.length≤100) (hL:∀ b∈L,b.t.rng∧b.t.size≤90000000000):q6 Tryz.prog 109 (bsA L) [.bp 350001 0 []] (.val (.lst ((L.map clB).map Bd.cv))) (bsA L):=by
 have hsz:=Bd.size_all L
 refine i8 Tryz.func109 Tryz.ntmps109 rfl rfl rfl rfl rfl rfl ?_
 intro w U hU
 refine aS (aR ?_)
 refine nc zd ?_
 refine aS (aR ?_)
 refine nc zj (nc zZ (nc ze (nc z8 (nc zp (ne (zbh (k:=L.length) 200011) (nc zd ?_))))))
 refine aS (aS (aR ?_))
 refine nc zj (nc zZ (nc ze (nc z8 (nc zp (nc zj ?_)))))
 refine aB (b9 L.length (fun k=>(3,.sl 200011 0 L.length 3)::(15,.val (.lst (L.map Bd.cv)))::(16,.val (.i (L.map Bd.cv).length))::(17,.val (.i k))::(200011,.mrow 85 3 (tlL L k))::bsA L) (a7 ⟨rfl,rfl,rfl,rfl,?_,rfl,rfl,rfl,rfl,trivial⟩) ?_)
 ·rw [a7q];rfl
 intro k hk
 refine aS (aR ?_)
 refine nc zh ?_
 refine aS (aC rfl (fun hlt=>?_) (fun hlt=>?_))
 ·have hkl:k<L.length:=by simpa using hlt
  obtain ⟨x,hx⟩:∃ x,L[k]?=some x:=⟨L[k],List.getElem?_eq_getElem hkl⟩
  have hx':=Bd.map_at hx
  obtain ⟨hxr,hxs⟩:=hL x (List.mem_of_getElem? hx)
  have hz:=b4w hkl
  have hlen:=a9y L (Nat.le_of_lt hkl)
  refine aK ?_
  refine aS (aB (aS (aR ?_)))
  refine nc zj (nc (zz (j:=k) (H:=hx') (hz:=hsz)) (nc zA (ne zw (nc zd (nc zy ?_)))))
  refine aD (by kernel_rfl) (by kernel_rfl) ?_
  refine nc zj (nc zj (nc ze (nc zg (nc ze (nc zg (nc (zn (z:=D7 w hxr hxs)) (nc zx (nc (zV (k:=k)) (nc (zbi (F:=hz)) ?_)))))))))
  refine ⟨by kernel_rfl,?_⟩
  refine aR ?_
  refine nc zu (nc zj ?_)
  refine ⟨hkl,a7 ⟨rfl,rfl,rfl,rfl,?_,rfl,rfl,rfl,rfl,trivial⟩⟩
  rw [←a9V hx]
  rfl
 ·have hkl:k=L.length:=by
   have:¬ k<L.length:=by simpa using hlt
   omega
  subst hkl
  rw [a9W]
  refine aE ?_
  refine aS (aR ?_)
  refine nc zj (nc zd ?_)
  refine aT ⟨.inr rfl,_,b4q 2 200011 rfl rfl rfl (.inr (by decide)) (by rw [List.length_map,List.length_map];omega) (s':=bsA L) ⟨rfl,rfl,rfl,rfl,trivial⟩ (by kernel_rfl),?_,rfl,rfl,rfl,rfl,trivial⟩
  show some (AV.val (.lst ((((L.map clB).map Bd.cv).drop 0).take L.length)))=_
  rw [List.drop_zero,List.take_of_length_le (by simp)]
theorem a8K (L:List Bd) (hl:L.length≤100) (hL:∀ b∈L,b.t.rng∧b.t.size≤90000000000):q6 Tryz.prog 109 (bsB L) [.bp 350001 0 []] (.val (.lst ((L.map clB).map Bd.cv))) (bsB L):=by
 have hsz:=Bd.size_all L
 refine i8 Tryz.func109 Tryz.ntmps109 rfl rfl rfl rfl rfl rfl ?_
 intro w U hU
 refine aS (aR ?_)
 refine nc zd ?_
 refine aS (aR ?_)
 refine nc zj (nc zZ (nc ze (nc z0 (nc zU (ne (zbh (k:=L.length) 200011) (nc zd ?_))))))
 refine aS (aS (aR ?_))
 refine nc zj (nc zZ (nc ze (nc z0 (nc zU (nc zj ?_)))))
 refine aB (b9 L.length (fun k=>(3,.sl 200011 0 L.length 3)::(15,.sl 300001 0 L.length 3)::(16,.val (.i L.length))::(17,.val (.i k))::(200011,.mrow 85 3 (tlL L k))::bsB L) (a7 ⟨rfl,rfl,rfl,rfl,?_,rfl,rfl,rfl,rfl,trivial⟩) ?_)
 ·rw [a7q];rfl
 intro k hk
 refine aS (aR ?_)
 refine nc zh ?_
 refine aS (aC rfl (fun hlt=>?_) (fun hlt=>?_))
 ·have hkl:k<L.length:=by simpa using hlt
  obtain ⟨x,hx⟩:∃ x,L[k]?=some x:=⟨L[k],List.getElem?_eq_getElem hkl⟩
  have hx':=Bd.map_at hx
  obtain ⟨hxr,hxs⟩:=hL x (List.mem_of_getElem? hx)
  have hz:=b4w hkl
  have hlen:=a9y L (Nat.le_of_lt hkl)
  refine aK ?_
  refine aS (aB (aS (aR ?_)))
  refine nc zj (nc (zV (k:=k)) (nc (zW (G:=hx')) (ne zw (nc zd (nc zy ?_)))))
  refine aD (by kernel_rfl) (by kernel_rfl) ?_
  refine nc zj (nc zj (nc ze (nc zg (nc ze (nc zg (nc (zn (z:=D7 w hxr hxs)) (nc zx (nc (zV (k:=k)) (nc (zbi (F:=hz)) ?_)))))))))
  refine ⟨by kernel_rfl,?_⟩
  refine aR ?_
  refine nc zu (nc zj ?_)
  refine ⟨hkl,a7 ⟨rfl,rfl,rfl,rfl,?_,rfl,rfl,rfl,rfl,trivial⟩⟩
  rw [←a9V hx]
  rfl
 ·have hkl:k=L.length:=by
   have:¬ k<L.length:=by simpa using hlt
   omega
  subst hkl
  rw [a9W]
  refine aE ?_
  refine aS (aR ?_)
  refine nc zj (nc zd ?_)
  refine aT ⟨.inr rfl,_,b4q 2 200011 rfl rfl rfl (.inr (by decide)) (by rw [List.length_map,List.length_map];omega) (s':=bsB L) ⟨rfl,rfl,rfl,rfl,trivial⟩ (by kernel_rfl),?_,rfl,rfl,rfl,rfl,trivial⟩
  show some (AV.val (.lst ((((L.map clB).map Bd.cv).drop 0).take L.length)))=_
  rw [List.drop_zero,List.take_of_length_le (by simp)]
theorem b1r (m:Nat) (L:List Bd) (hl:L.length≤100) (hL:∀ b∈L,b.t.rng∧b.t.size≤90000000000):q6 Tryz.prog 109 (bst m L) [.bp 350001 0 []] (.val (.lst ((L.map clB).map Bd.cv))) (bst m L):=by
 by_cases h:L.length≤m
 ·rw [a8q h];exact a8y L hl hL
 ·rw [a7W h];exact a8K L hl hL
theorem b1m (L:List Bd):q6 Tryz.prog 107 [] [.val (.lst (L.map Bd.cv))] (.bp 350001 0 []) (bst L.length L):=by
 rw [a8q (Nat.le_refl _)];exact a8T L
noncomputable def a1X (L:List Bd) (p t:Tm):List Bd:=if (mt p t L).1=true then (mt p t L).2.map clB else []
theorem a1L (W:World) (L:List Bd) (p t:Tm) (hr:p.rng) (hok:p.ok) (ht:t.rng) (hv:L.length+p.vs.length≤65) (hL:rngL L) (hS:∀ b∈(mt p t L).2,b.t.size≤90000000000):AFun Tryz.prog W 80 [.lst (L.map Bd.cv),p.cw,t.cw] (.tup [.lst ((a1X L p t).map Bd.cv),.b (mt p t L).1]):=by
 have hlen:(mt p t L).2.length≤100:=by have:=(a8Y p t L).le.2;omega
 have hrng:=rngL.mt p t L ht hL
 refine a8 (rs:=[.lst ((a1X L p t).map Bd.cv),.b (mt p t L).1]) Tryz.func80 Tryz.ntmps80 rfl rfl rfl rfl ?_
 intro w U hW
 refine aS (aR ?_)
 refine nc zb (nc zb (nc zd (nc zd ?_)))
 refine aS (aR ?_)
 refine nc zj ?_
 refine nc (z9 (z:=b1m L) (B:=by first | rfl | kernel_rfl) (C:=H3 _ _) (G:=fun k v h=>by first | (rw [hW.1] at h;cases h) | (have h2:=hU k v h;cases h2))) ?_
 refine nc zd ?_
 refine aS (aS (aR ?_))
 refine nc zj (nc zE (nc zE (nc (z9 (z:=a8J L.length p hr hok t L ht (Nat.le_refl _) hv hL) (B:=S2 _ _) (C:=H3 _ _) (G:=j8 (by first | rfl | kernel_rfl))) (nc zt ?_))))
 unfold a1X
 refine aC rfl (fun hc=>?_) (fun hc=>?_)
 ·have hc:(mt p t L).1=false:=by simpa using hc
  rw [hc,if_neg (by simp)]
  refine aS (aR ?_)
  refine nc zd (nc zd ?_)
  exact aT ⟨.inr rfl,rfl⟩
 ·have hc:(mt p t L).1=true:=by simpa using hc
  rw [hc,if_pos rfl]
  refine aK ?_
  refine aS (aR ?_)
  refine nc zj ?_
  refine nc (z9 (z:=b1r L.length (mt p t L).2 hlen (fun b hb=>⟨hrng b hb,hS b hb⟩)) (B:=S2 _ _) (C:=H3 _ _) (G:=j8 (by first | rfl | kernel_rfl))) ?_
  refine nc zd (nc zd ?_)
  exact aT ⟨.inr rfl,rfl⟩
theorem a8A (W:World) (t:Tm):AFun Tryz.prog W 77 [t.cw] (.val (.b (decide (t.f<0)))):=by
 refine a8 (rs:=[.b (decide (t.f<0))]) Tryz.func77 Tryz.ntmps77 rfl rfl rfl rfl ?_
 intro w U hW
 refine aS (aR ?_)
 refine nc zb (nc zd ?_)
 refine aS (aR ?_)
 refine nc ze (nc zg (nc zh (nc zd ?_)))
 exact aT ⟨.inr rfl,rfl⟩
theorem b1C (W:World) (t:Tm):AFun Tryz.prog W 43 [t.cw] (.val (.lst (t.ps.map Tm.cv))):=by
 refine a8 (rs:=[.lst (t.ps.map Tm.cv)]) Tryz.func43 Tryz.ntmps43 rfl rfl rfl rfl ?_
 intro w U hW
 refine aS (aR ?_)
 refine nc zb (nc zd ?_)
 refine aS (aS (aR ?_))
 refine nc zE (nc (zn (z:=a8A w t)) ?_)
 refine aC rfl (fun hc=>?_) (fun hc=>aK ?_)
 ·have hf:t.f<0:=by simpa using hc
  rw [Tm.ps_of_var hf]
  refine aS (aR ?_)
  refine nc zd ?_
  exact aT (And.intro (.inr rfl) rfl)
 ·have hf:¬ t.f<0:=by simpa using hc
  rw [Tm.ps_of_sym (by omega)]
  refine aS (aR ?_)
  refine nc ze (nc zg (nc zd ?_))
  exact aT (And.intro (.inr rfl) rfl)
def Tm.pa (t:Tm) (n:Int):Option Tm:=if 0≤n then t.ps[n.toNat]? else none
theorem Tm.pa_some (t:Tm) (n:Int):(t.pa n).isSome=(decide (n≥0)&&decide (n<(t.ps.map Tm.cv).length)):=by
 unfold Tm.pa
 rw [List.length_map]
 by_cases h:0≤n
 ·rw [if_pos h,show decide (n≥0)=true by simpa using h,Bool.true_and]
  by_cases h2:n<t.ps.length
  ·rw [List.getElem?_eq_getElem (by omega)];simp [h2]
  ·rw [List.getElem?_eq_none (by omega)];simp [h2]
 ·rw [if_neg h,show decide (n≥0)=false by simpa using h];rfl
theorem a6r (W:World) (t:Tm) (n:Int):AFun Tryz.prog W 29 [t.cw,.i n] (.val (.b (t.pa n).isSome)):=by
 rw [Tm.pa_some]
 refine a8 (rs:=[.b (decide (n≥0)&&decide (n<(t.ps.map Tm.cv).length))]) Tryz.func29 Tryz.ntmps29 rfl rfl rfl rfl ?_
 intro w U hW
 refine aS (aR ?_)
 refine nc zb (nc zd ?_)
 by_cases h:n≥0
 ·have hg:decide (n≥0)=true:=by simpa using h
  refine aS (aR ?_)
  refine nc zj (nc zL (nc zj (nc (zj (p:=gc)) (nc (zE (p:=gc)) (nc (zn (p:=gc) (z:=b1C w t)) (nc (zp (r:=gc)) (nc (zh (r:=gc)) (nc zO (nc zd ?_)))))))))
  refine aT (And.intro (.inr rfl) ?_)
  rw [hg,Bool.true_and]
  rfl
 ·have hg:decide (n≥0)=false:=by simpa using h
  refine aS (aR ?_)
  refine nc zj (nc zL (nc zj (nc zM (nc zM (nc zM (nc zM (nc zM (nc zN (nc zd ?_)))))))))
  refine aT (And.intro (.inr rfl) ?_)
  rw [hg,Bool.false_and]
  rfl
set_option maxHeartbeats 1000000 in
theorem a0e (W:World) (l:List Tm) (hl:l.length≤1000000) (hr:∀ t∈l,t.rng∧t.size≤90000000000):AFun Tryz.prog W 31 [.lst (l.map Tm.cv)] (.val (.lst ((l.map Tm.strip).map Tm.cv))):=by
 have hsz:=Tm.size_all l
 refine a8 (rs:=[.lst ((l.map Tm.strip).map Tm.cv)]) Tryz.func31 Tryz.ntmps31 rfl rfl rfl rfl ?_
 intro w U hW
 refine aS (aR ?_)
 refine nc zd ?_
 refine aS (aR ?_)
 refine nc zd ?_
 refine aS (aS (aR ?_))
 refine nc zj (nc zp (nc zj ?_))
 refine aB (b9 l.length (fun k=>[(3,.own (.lst (((l.take k).map Tm.strip).map Tm.cv)) 200016),(200016,.tok 37 2),(6,.val (.lst (l.map Tm.cv))),(7,.val (.i (l.map Tm.cv).length)),(8,.val (.i k))])
  ((E4 3 200016 37 2 rfl rfl rfl rfl rfl rfl rfl).trans (a7 ⟨rfl,rfl,rfl,rfl,rfl,trivial⟩)) ?_)
 intro k hk
 have hsk:=Tm.size_all ((l.take k).map Tm.strip)
 refine aS (aR ?_)
 refine nc zh ?_
 refine aS (aC rfl (fun hc=>aK ?_) (fun hc=>aE ?_))
 ·have hkl:k<l.length:=by
   simp only [List.length_map,decide_eq_true_eq] at hc
   omega
  clear hc
  obtain ⟨t,ht⟩:∃ t,l[k]?=some t:=⟨l[k],List.getElem?_eq_getElem hkl⟩
  have ht':=Tm.map_at ht
  have htm:=hr t (List.mem_of_getElem? ht)
  refine aS (aB (aS (aR ?_)))
  refine nc (zz (H:=by assumption) (hz:=by first | assumption | exact sZ rfl | exact Tm.size_all _ | exact Bd.size_all _ | exact b8 _ | exact bys_size _ | exact Lt.size_all _)) (nc zA (nc zw (nc zy ?_)))
  refine aR ?_
  refine nc zj (nc zE (nc (zn (z:=D7 w htm.1 htm.2)) (nc zI (nc zJ (nc zd ?_)))))
  refine aR ?_
  refine nc zu (nc zj ?_)
  refine ⟨hkl,Wk.trans (a7 (s':=[(3,.own (.lst (((l.take (k+1)).map Tm.strip).map Tm.cv)) 300016),(300016,.tok 37 2),(6,.val (.lst (l.map Tm.cv))),(7,.val (.i (l.map Tm.cv).length)),(8,.val (.i ((k+1:Nat):Int)))]) ⟨?_,rfl,rfl,rfl,rfl,trivial⟩) (v9 300016 200016 rfl rfl rfl rfl)⟩
  rw [List.take_add_one,ht,List.map_append,List.map_append]
  simp only [Option.toList_some,List.map_cons,List.map_nil,Tm.cv_eq]
  rfl
 ·have hkl:k=l.length:=by
   simp only [List.length_map,decide_eq_false_iff_not] at hc
   omega
  subst hkl
  rw [List.take_length]
  refine aS (aR ?_)
  refine nc zj (nc zd ?_)
  exact aT (And.intro (.inr rfl) rfl)
def atP:List Int→Tm→Option Tm
 | [],t=>some t
 | k::ks,t=>(t.pa k).bind (atP ks)
theorem b7w {t s:Tm} {n:Int} (h:t.pa n=some s):s∈t.ps:=by
 unfold Tm.pa at h
 split at h
 ·exact List.mem_of_getElem? h
 ·cases h
theorem b4v {t s:Tm} {n:Int} (h:t.pa n=some s):¬ t.f<0:=by
 intro hf
 have:=b7w h
 rw [Tm.ps_of_var hf] at this
 cases this
theorem a7J {U:Nat→Nat→Prop} {w:World} {a:Option Addr} {xs:List Value} (h:At U w a xs):Cs w a xs:=by
 rcases h with h | ⟨b,off,ha,hc⟩
 ·exact .inl h
 ·by_cases hz:xs=[]
  ·exact .inl hz
  ·refine .inr ⟨b,off,ha,?_,fun i hi=>(hc i hi).2⟩
   have hpos:0<xs.length:=List.length_pos_iff.2 hz
   have:=(hc 0 hpos).2
   rw [List.getElem?_eq_getElem hpos] at this
   exact World.block_lt_of_cell? w _ this
theorem a2Z {w:World} {base:Nat} {e:TypeId} {size:Nat} {v:Value} {n:Nat} {xs:List Value} (h:w.ownsRow base e size v n xs) :
  ∃ a c,v = .slice a n c∧n≤c∧c≤maxLen∧(a=none→n=0∧c=0)∧At (fun b _=>base≤b) w a xs:=by
 have ho:=h
 obtain ⟨h1,h2⟩:=h
 rcases h2 with ⟨rfl,rfl⟩ | ⟨g,cap,cur,rfl,hb,hh,hn,hm,hs,ht⟩
 ·exact ⟨none,0,rfl,by omega,by simp,fun _=>⟨rfl,rfl⟩,.inl (List.eq_nil_of_length_eq_zero (by omega))⟩
 ·refine ⟨_,cap,rfl,hn,hm,(fun h=>by cases h),.inr ⟨g,0,rfl,fun i hi=>⟨hb,?_⟩⟩⟩
  rw [show 0+i=i by omega]
  exact ho.cellAt i (by omega)
theorem b0h {U:Nat→Nat→Prop} {w:World}:∀ {l:List (List Tm)} {ys:List Value},Sq ((l.map fun x=>CV.lst (x.map Tm.cv)).map fun c=>Rep U w c) ys →
  ∃ (A:Nat→Option Addr) (L C:Nat→Nat) (R:Nat→List Value),∀ r x,l[r]?=some x→ys[r]?=some (.slice (A r) (L r) (C r))∧L r=x.length∧(A r=none→L r=0∧C r=0)∧At U w (A r) (R r)∧Sq ((x.map Tm.cv).map fun c=>Rep U w c) (R r)
 | [],ys,h=>⟨fun _=>none,fun _=>0,fun _=>0,fun _=>[],fun r x hx=>by simp at hx⟩
 | x::l,ys,h=>by
  obtain ⟨y1,y2,rfl,h1,h2⟩:=h
  obtain ⟨a,n,c,rfl,g1,g2,g3,g4,zs,g5,g6⟩:=I0.1 h1
  obtain ⟨A,L,C,R,hR⟩:=b0h (l:=l) h2
  refine ⟨fun r=>match r with | 0=>a | r+1=>A r,fun r=>match r with | 0=>n | r+1=>L r,fun r=>match r with | 0=>c | r+1=>C r,fun r=>match r with | 0=>zs | r+1=>R r,fun r y hy=>?_⟩
  cases r with
  | zero =>
   simp at hy
   subst hy
   exact ⟨rfl,by rw [g1,List.length_map],g4,g5,g6⟩
  | succ r =>
   simp at hy
   exact hR r y hy
theorem b1A {U:Nat→Nat→Prop} {w:World} {l:List (List Tm)} {L:Nat→Nat} {R:Nat→List Value} (h:∀ r x,l[r]?=some x→L r=x.length∧Sq ((x.map Tm.cv).map fun c=>Rep U w c) (R r)) :
  ∀ k,k≤l.length→Sq (((l.take k).flatten.map Tm.cv).map fun c=>Rep U w c) (a1W R k)∧a2g L k=(l.take k).flatten.length:=by
 intro k
 induction k with
 | zero=>intro _;exact ⟨rfl,rfl⟩
 | succ k ih =>
  intro hk
  obtain ⟨h1,h2⟩:=ih (by omega)
  obtain ⟨x,hx⟩:∃ x,l[k]?=some x:=⟨l[k],List.getElem?_eq_getElem (by omega)⟩
  obtain ⟨h3,h4⟩:=h k x hx
  rw [List.take_add_one,hx,List.flatten_append,a1W,a2g,List.map_append,List.map_append,List.length_append,h2,h3]
  simp only [Option.toList_some,List.flatten_cons,List.flatten_nil,List.append_nil]
  exact ⟨D6 h1 h4,trivial⟩
theorem a8V (W:World) (l:List (List Tm)) (hl:l.length≤1000) (hs:l.flatten.length≤1099511627776):AFun Tryz.prog W 30 [.lst (l.map fun x=>CV.lst (x.map Tm.cv))] (.val (.lst (l.flatten.map Tm.cv))):=by
 refine ⟨r9 Tryz.func30 rfl rfl,.inl rfl,rfl,?_⟩
 rintro U w vs hW ⟨u1,us1,rfl,h1,h3⟩
 have h3:us1=[]:=h3
 subst h3
 obtain ⟨a,n,c,rfl,g1,g2,g3,g4,ys,g5,g6⟩:=d8.1 h1
 rw [List.length_map] at g1
 subst g1
 obtain ⟨A,L,C,R,hR⟩:=b0h g6
 obtain ⟨hj,hn⟩:=b1A (fun r x hx=>⟨(hR r x hx).2.1,(hR r x hx).2.2.2.2⟩) l.length (Nat.le_refl _)
 rw [List.take_length] at hj hn
 have hrw:Rw 2 w a l.length A L C R:=by
  refine ⟨fun r hr=>?_,?_⟩
  ·obtain ⟨k1,k2,k3,k4,k5⟩:=hR r _ (List.getElem?_eq_getElem hr)
   refine ⟨k3,a7J k4,?_,O4 k5⟩
   rw [F7 (n:=fun _=>2) (fun c hc xs hx=>by
    obtain ⟨t,_,rfl⟩:=List.mem_map.1 hc
    rw [hx.len]
    exact Tm.size_cv t) k5,k2]
   rw [List.map_const',List.sum_replicate_nat]
   simp
  ·by_cases hz:l.length=0
   ·exact .inl hz
   ·refine .inr ?_
    have hc:=a7J g5
    have hy0:=(hR 0 _ (List.getElem?_eq_getElem (by omega:0<l.length))).1
    rcases hc with hc | ⟨b,off,ha,hb,hc⟩
    ·rw [hc] at hy0;simp at hy0
    ·refine ⟨b,off,ha,hb,fun r hr=>?_⟩
     have hy:=(hR r _ (List.getElem?_eq_getElem hr)).1
     have hlt:r<ys.length:=by
      rcases Nat.lt_or_ge r ys.length with h | h
      ·exact h
      ·rw [List.getElem?_eq_none h] at hy;cases hy
     rw [hc r hlt,hy]
 refine (a6w a l.length c A L C R w hrw hl (by rw [hn];exact hs)).mono ?_
 rintro e w' ⟨v,rfl,ho,hb⟩
 obtain ⟨a',c',rfl,k1,k2,k3,k4⟩:=a2Z ho
 refine ⟨_,rfl,d8.2 ⟨a',_,c',rfl,by rw [hn,List.length_map],k1,k2,k3,_,k4.keep fun b o v h1 h2=>⟨.inr h1,h2⟩,hj.keep fun b o v h1 h2=>⟨.inl h1,?_⟩⟩,hb⟩
 rw [hb.cell (World.block_lt_of_cell? w _ h2)]
 exact h2
theorem b4l {w:World} {V:Nat→Prop}:∀ {xs:List Pr},(∀ x∈xs,x.ok V w)→Sq (((xs.map Pr.p).map fun p=>CV.lst (p.map CV.i)).map fun c=>Rep (fun b _=>V b) w c) (xs.map Pr.v)
 | [],_=>rfl
 | x::xs,h=>by
  obtain ⟨h1,h2,h3,h4,h5⟩:=h x (by simp)
  exact ⟨[x.v],xs.map Pr.v,rfl,I0.2 ⟨x.a,x.n,x.c,rfl,by rw [List.length_map];exact h1,h2,h3,h4,_,a3A h5,a5t _⟩,b4l fun y hy=>h y (List.mem_cons_of_mem _ hy)⟩
theorem a8B (W:World) {t:Tm} (hr:t.rng) (hs:t.size≤100000000):AFun Tryz.prog W 11 [t.cw] (.val (.lst (t.places.map fun p=>CV.lst (p.map CV.i)))):=by
 refine ⟨r9 Tryz.func11 rfl rfl,.inl rfl,rfl,?_⟩
 rintro U w vs hW ⟨u1,us1,rfl,h1,h3⟩
 have h3:us1=[]:=h3
 subst h3
 obtain ⟨a,n,c,rfl,h4⟩:=k9 hr h1
 refine (a8l h4 hs).mono ?_
 rintro e w' ⟨a',c',rfl,⟨xs,ho,hp,hx⟩,hb⟩
 rw [Tm.places_len] at ho
 obtain ⟨a2,c2,e2,k1,k2,k3,k4⟩:=a2Z ho
 injection e2 with q1 q2 q3
 subst q1 q3
 refine ⟨_,rfl,d8.2 ⟨_,_,_,rfl,by rw [List.length_map,Tm.places_len],k1,k2,k3,_,k4.keep fun b o v h1 h2=>⟨.inr h1,h2⟩,?_⟩,hb⟩
 rw [←hp]
 exact (b4l hx).keep fun b o v h1 h2=>⟨.inr h1.1,h2⟩
def L7 (u:Tm):List Int→Tm→Option Tm
 | [],t=>some u.strip
 | k::ks,t=>(t.pa k).bind fun s=>(L7 u ks s).map fun v=>⟨t.f,(t.l.take k.toNat).map Tm.strip++v::(t.l.drop (k.toNat+1)).map Tm.strip⟩
set_option maxHeartbeats 2000000 in
theorem b5T (W:World) (u:Tm) (hu:u.rng) (hus:u.size≤90000000000):∀ (p:List Int) (t:Tm),p.length≤1000000→t.rng→t.size≤100000→AFun Tryz.prog W 12 [t.cw,.lst (p.map CV.i),u.cw] (.tup [((L7 u p t).getD ⟨0,[]⟩).cw,.b (L7 u p t).isSome]):=by
 intro p
 induction p with
 | nil =>
  intro t _ _ _
  refine a8 (rs:=[((L7 u [] t).getD ⟨0,[]⟩).cw,.b (L7 u [] t).isSome]) Tryz.func12 Tryz.ntmps12 rfl rfl rfl rfl ?_
  intro w U hW
  refine aS (aR ?_)
  refine nc zb (nc zb (nc zw (nc zd ?_)))
  refine aS (aS (aR ?_))
  refine nc zj (nc zp (nc zC ?_))
  refine aC rfl (fun hc=>?_) (fun hc=>by cases hc)
  refine aS (aR ?_)
  refine nc zE (nc (zn (z:=D7 w hu hus)) (nc zy (nc zd ?_)))
  exact aT (And.intro (.inr rfl) rfl)
 | cons n p ih =>
  intro t hp hr hts
  rw [List.length_cons] at hp
  have hsp:=b8 (n::p)
  refine a8 (rs:=[((L7 u (n::p) t).getD ⟨0,[]⟩).cw,.b (L7 u (n::p) t).isSome]) Tryz.func12 Tryz.ntmps12 rfl rfl rfl rfl ?_
  intro w U hW
  refine aS (aR ?_)
  refine nc zb (nc zb (nc zw (nc zd ?_)))
  refine aS (aS (aR ?_))
  refine nc zj (nc zp (nc zC ?_))
  refine aC rfl (fun hc=>?_) (fun hc=>aK ?_)
  ·simp at hc
   omega
  clear hc
  refine aS (aR ?_)
  refine nc zj (nc (zz (j:=0) (H:=rfl) (hz:=hsp)) (nc zA (nc zd ?_)))
  refine aS (aS (aR ?_))
  refine nc zE (nc zj (nc (zn (z:=a6r w t n)) (nc zt ?_)))
  refine aC rfl (fun hc=>?_) (fun hc=>aK ?_)
  ·have hno:t.pa n=none:=by simpa using hc
   have e:L7 u (n::p) t=none:=by rw [L7,hno];rfl
   rw [e]
   refine aS (aR ?_)
   refine nc zx (nc zy (nc zd ?_))
   exact aT (And.intro (.inr rfl) rfl)
  obtain ⟨s,hs⟩:∃ s,t.pa n=some s:=Option.isSome_iff_exists.1 (by simpa using hc)
  clear hc
  have hn0:0≤n:=by
   unfold Tm.pa at hs
   split at hs
   ·assumption
   ·cases hs
  have hsym:=b4v hs
  have hl:t.l[n.toNat]?=some s:=by
   have hs:=hs
   unfold Tm.pa at hs
   rw [if_pos hn0,Tm.ps_of_sym (by omega)] at hs
   exact hs
  have hl':=Tm.map_at hl
  have hsz:=Tm.size_all t.l
  obtain ⟨m,hm⟩:∃ m:Nat,n=m:=⟨n.toNat,by omega⟩
  subst hm
  rw [Int.toNat_natCast] at hl hl'
  have hml:m<t.l.length:=by
   rcases Nat.lt_or_ge m t.l.length with h | h
   ·exact h
   ·rw [List.getElem?_eq_none h] at hl;cases hl
  have hml':m<(t.l.map Tm.cv).length:=by rw [List.length_map];exact hml
  have hrs:=((Tm.rng_iff _).1 hr).2
  have hparts:∀ x∈t.l,x.rng∧x.size≤100000:=fun x hx=>⟨hrs x hx,by
   have h1:=Tm.size_eq t
   rw [Tm.ps_of_sym (by omega)] at h1
   have:=s7 Tm.flat hx
   have h2:x.size=x.flat.length:=rfl
   omega⟩
  have hlen:t.l.length≤100000:=by
   have h1:=Tm.size_eq t
   rw [Tm.ps_of_sym (by omega)] at h1
   have:∀ l:List Tm,l.length≤(l.flatMap Tm.flat).length:=by
    intro l
    induction l with
    | nil=>exact Nat.le_refl _
    | cons x l ih =>
     rw [List.flatMap_cons,List.length_append,List.length_cons]
     have:0<x.flat.length:=by rw [Tm.flat_eq];simp
     omega
   have:=this t.l
   omega
  have hsb:=hparts s (List.mem_of_getElem? hl)
  have h1l:1≤(List.map CV.i ((m:Int)::p)).length:=by simp
  have hP:=(ih s (by omega) hsb.1 hsb.2).up hW
  refine aS (aD (by kernel_rfl) (by kernel_rfl) ?_)
  refine nc ze (nc zg (nc zj (nc (zz (H:=by assumption) (hz:=by first | assumption | exact sZ rfl | exact Tm.size_all _ | exact Bd.size_all _ | exact b8 _ | exact bys_size _ | exact Lt.size_all _)) (nc zA (nc zj (nc zbj (nc zE (nc (zn (z:=hP)) (nc zj (nc zD (nc zD (nc zw (nc zy (nc zd ?_))))))))))))))
  refine ⟨by kernel_rfl,?_⟩
  refine aS (aS (aR ?_))
  refine nc zj (nc zt ?_)
  refine aC rfl (fun hc=>?_) (fun hc=>aK ?_)
  ·have hno:L7 u p s=none:=by simpa using hc
   have e:L7 u ((m:Int)::p) t=none:=by rw [L7,hs,Option.bind_some,hno];rfl
   rw [e]
   refine aS (aR ?_)
   refine nc zx (nc zy (nc zd ?_))
   exact aT (And.intro (.inr rfl) rfl)
  obtain ⟨v,hv⟩:∃ v,L7 u p s=some v:=Option.isSome_iff_exists.1 (by simpa using hc)
  clear hc
  have e:L7 u ((m:Int)::p) t=some ⟨t.f,(t.l.take m).map Tm.strip++v::(t.l.drop (m+1)).map Tm.strip⟩:=by rw [L7,hs,Option.bind_some,hv];rfl
  rw [e,hv]
  have c1:=a0e w (t.l.take m) (by rw [List.length_take];omega) (fun x hx=>⟨(hparts x (List.mem_of_mem_take hx)).1,by have:=(hparts x (List.mem_of_mem_take hx)).2;omega⟩)
  have c2:=a0e w (t.l.drop (m+1)) (by rw [List.length_drop];omega) (fun x hx=>⟨(hparts x (List.mem_of_mem_drop hx)).1,by have:=(hparts x (List.mem_of_mem_drop hx)).2;omega⟩)
  rw [show (t.l.take m).map Tm.cv=(t.l.map Tm.cv).take m from List.map_take] at c1
  rw [show (t.l.drop (m+1)).map Tm.cv=(t.l.map Tm.cv).drop (m+1) from List.map_drop] at c2
  obtain ⟨A,hA⟩:∃ A,A=(t.l.take m).map Tm.strip:=⟨_,rfl⟩
  obtain ⟨B,hB⟩:∃ B,B=(t.l.drop (m+1)).map Tm.strip:=⟨_,rfl⟩
  have hAl:A.length≤100000:=by rw [hA,List.length_map,List.length_take];omega
  have hBl:B.length≤100000:=by rw [hB,List.length_map,List.length_drop];omega
  rw [←hA] at c1 ⊢
  rw [←hB] at c2 ⊢
  have c3:AFun Tryz.prog w 30 [.lst [.lst (A.map Tm.cv),.lst [v.cw],.lst (B.map Tm.cv)]] (.val (.lst ((A++v::B).map Tm.cv))):=by
   have:=a8V w [A,[v],B] (by simp) (by simp;omega)
   simpa only [List.map_cons,List.map_nil,Tm.cv_eq,List.flatten_cons,List.flatten_nil,List.append_nil,List.cons_append,List.nil_append,List.singleton_append] using this
  refine AWp.wk (a7 (s':=[(3,.bp 3 0 []),(100003,.bx t.cw),(6,.bp 6 0 []),(100006,⟨5,.row [.i 0,.lst []],1,0,[1]⟩),(8,.val (.i m)),(9,.bp 9 0 []),(100009,.bx v.cw)]) ⟨rfl,rfl,rfl,rfl,rfl,rfl,rfl,trivial⟩) ?_
  refine aS (aD (by kernel_rfl) (by kernel_rfl) ?_)
  refine nc ze (nc zg (nc zj (nc zbk (nc (zn (z:=c1)) (nc zE (nc zI (nc ze (nc zg (nc zj (nc zu (nc (zbj (lo:=m+1)) (nc (zn (z:=c2)) (nc zI (nc (zn (z:=c3)) (nc zd ?_)))))))))))))))
  refine ⟨by kernel_rfl,?_⟩
  refine aS (aR ?_)
  refine nc ze (nc zg (nc zj (nc zx (nc zy (nc zd ?_)))))
  exact aT (And.intro (.inr rfl) rfl)
end Go.Proofs.YtekboofbedakcaaGreat
namespace Go.Proofs.YtekboofbedakcaaGreat
set_option linter.unusedVariables false
set_option linter.unusedSimpArgs false
theorem a2E {t:Tm} (h:¬ t.f<0):t.size=1+(t.l.map Tm.size).sum:=by
 rw [Tm.size_eq,Tm.ps_of_sym (by omega),List.length_flatMap]
 rfl
theorem a1I:∀ {l:List Tm} {k:Nat} {p:List Int},p∈Tm.placesL l k→∃ i s q,l[i]?=some s∧q∈s.places∧p=((k+i:Nat):Int)::q
 | [],k,p,h=>by rw [R6] at h;cases h
 | t::ts,k,p,h=>by
  rw [E3] at h
  rcases List.mem_append.1 h with h | h
  ·obtain ⟨q,hq,rfl⟩:=List.mem_map.1 h
   exact ⟨0,t,q,rfl,hq,rfl⟩
  ·obtain ⟨i,s,q,h1,h2,h3⟩:=a1I h
   exact ⟨i+1,s,q,by simpa using h1,h2,by rw [h3];congr 2;omega⟩
theorem b1y (t:Tm):∀ p∈t.places,(∃ s,atP p t=some s)∧p.length<t.size:=by
 induction t using Tm.indp with
 | h t ih =>
  intro p hp
  rw [Tm.places_eq] at hp
  rcases List.mem_cons.1 hp with rfl | hp
  ·exact ⟨⟨t,rfl⟩,by rw [Tm.size_eq];simp;omega⟩
  ·obtain ⟨i,s,q,h1,h2,rfl⟩:=a1I hp
   obtain ⟨⟨x,hx⟩,hl⟩:=ih s (List.mem_of_getElem? h1) q h2
   have hpa:t.pa ((0+i:Nat):Int)=some s:=by
    unfold Tm.pa
    rw [if_pos (by omega),Int.toNat_natCast,Nat.zero_add,h1]
   refine ⟨⟨x,by rw [atP,hpa];exact hx⟩,?_⟩
   have h3:=Tm.size_eq t
   have h4:=s7 Tm.flat (List.mem_of_getElem? h1)
   have h5:s.size=s.flat.length:=rfl
   rw [List.length_cons]
   omega
theorem a9f {t s:Tm} {n:Int} (h:t.pa n=some s):∃ m:Nat,n=m∧t.l[m]?=some s∧¬ t.f<0:=by
 have hf:=b4v h
 unfold Tm.pa at h
 split at h
 ·rename_i h0
  rw [Tm.ps_of_sym (by omega)] at h
  exact ⟨n.toNat,by omega,h,hf⟩
 ·cases h
theorem a6Y {l:List Tm} {m:Nat} {s:Tm} (h:l[m]?=some s):l=l.take m++s::l.drop (m+1)∧m<l.length:=by
 have hm:m<l.length:=by
  rcases Nat.lt_or_ge m l.length with h1 | h1
  ·exact h1
  ·rw [List.getElem?_eq_none h1] at h;cases h
 refine ⟨?_,hm⟩
 have e:l[m]=s:=by rw [List.getElem?_eq_getElem hm] at h;exact Option.some.inj h
 rw [←e,←List.drop_eq_getElem_cons hm,List.take_append_drop]
theorem a2C (l:List Tm):(l.map Tm.strip).map Tm.strip=l.map Tm.strip:=by
 rw [List.map_map]
 exact List.map_congr_left fun s _=>Tm.strip_strip s
theorem a2o (u:Tm) (hu:u.rng):∀ (p:List Int) (t s:Tm),t.rng→atP p t=some s→∃ z,L7 u p t=some z∧z.rng∧atP p z=some u.strip∧L7 s.strip p z=some t.strip∧z.size+s.size=t.size+u.size
 | [],t,s,hr,h=>by
  cases h
  exact ⟨u.strip,rfl,Tm.strip_rng hu,rfl,by rw [L7,Tm.strip_strip],by rw [Tm.strip_size];omega⟩
 | k::ks,t,s,hr,h=>by
  rw [atP] at h
  cases hp:t.pa k with
  | none=>rw [hp] at h;cases h
  | some x =>
   rw [hp,Option.bind_some] at h
   obtain ⟨m,rfl,hx,hf⟩:=a9f hp
   obtain ⟨hsp,hm⟩:=a6Y hx
   have hrl:=(Tm.rng_iff _).1 hr
   obtain ⟨v,h1,h2,h3,h4,h5⟩:=a2o u hu ks x s (hrl.2 x (List.mem_of_getElem? hx)) h
   obtain ⟨A,hA⟩:∃ A,A=(t.l.take m).map Tm.strip:=⟨_,rfl⟩
   obtain ⟨B,hB⟩:∃ B,B=(t.l.drop (m+1)).map Tm.strip:=⟨_,rfl⟩
   have hAl:A.length=m:=by rw [hA,List.length_map,List.length_take];omega
   have hpz:(Tm.mk t.f (A++v::B)).pa (m:Int)=some v:=by
    unfold Tm.pa
    rw [if_pos (by omega),Int.toNat_natCast,Tm.ps_of_sym (t:=⟨t.f,_⟩) (by show 0≤t.f;omega)]
    show (A++v::B)[m]?=some v
    rw [List.getElem?_append_right (by omega),hAl,Nat.sub_self];rfl
   refine ⟨⟨t.f,A++v::B⟩,?_,?_,?_,?_,?_⟩
   ·rw [L7,hp,Option.bind_some,h1,Int.toNat_natCast,←hA,←hB];rfl
   ·refine (Tm.rng_iff _).2 ⟨hrl.1,fun y hy=>?_⟩
    rcases List.mem_append.1 hy with hy | hy
    ·rw [hA] at hy
     obtain ⟨z,hz,rfl⟩:=List.mem_map.1 hy
     exact Tm.strip_rng (hrl.2 z (List.mem_of_mem_take hz))
    ·rcases List.mem_cons.1 hy with rfl | hy
     ·exact h2
     ·rw [hB] at hy
      obtain ⟨z,hz,rfl⟩:=List.mem_map.1 hy
      exact Tm.strip_rng (hrl.2 z (List.mem_of_mem_drop hz))
   ·rw [atP,hpz,Option.bind_some,h3]
   ·rw [L7,hpz,Option.bind_some,h4,Int.toNat_natCast,Option.map_some]
    show some (Tm.mk t.f (((A++v::B).take m).map Tm.strip++x.strip::((A++v::B).drop (m+1)).map Tm.strip))=_
    have e1:(A++v::B).take m=A:=by rw [←hAl,List.take_left]
    have e2:(A++v::B).drop (m+1)=B:=by
     rw [←hAl,show A++v::B=(A++[v])++B by simp,show A.length+1=(A++[v]).length by simp,List.drop_left]
    rw [e1,e2,Tm.strip_eq t,Tm.ps_of_sym (by omega)]
    congr 2
    conv=>rhs;rw [hsp]
    rw [List.map_append,List.map_cons,hA,hB,a2C,a2C]
   ·have s1:=a2E (t:=⟨t.f,A++v::B⟩) hf
    have s2:=a2E (t:=t) hf
    simp only at s1
    have s3:(t.l.map Tm.size).sum=((t.l.take m).map Tm.size).sum+(x.size+((t.l.drop (m+1)).map Tm.size).sum):=by
     conv=>lhs;rw [hsp]
     rw [List.map_append,List.map_cons,List.sum_append_nat,List.sum_cons]
    rw [List.map_append,List.map_cons,List.sum_append_nat,List.sum_cons] at s1
    have s4:∀ l:List Tm,(l.map Tm.strip).map Tm.size=l.map Tm.size:=fun l=>by
     rw [List.map_map]
     exact List.map_congr_left fun s _=>Tm.strip_size s
    have sA:(A.map Tm.size).sum=((t.l.take m).map Tm.size).sum:=by rw [hA,s4]
    have sB:(B.map Tm.size).sum=((t.l.drop (m+1)).map Tm.size).sum:=by rw [hB,s4]
    omega
def cov (a b:Tm):Prop:=∀ v,b.vs.count v≤a.vs.count v
def a9O (z w:Int):Int:=if 0<z then 1 else if z<0 then -1 else w
noncomputable def b4G (o:Int) (c d:Prop):Int:=
 haveI:=Classical.propDecidable
 if (o=1∧¬ c)∨(o = -1∧¬ d) then 2 else o
noncomputable def a0b (z:Int) (c d:Prop) (w:Int):Int:=if w=0 then 0 else b4G (a9O z w) c d
def hdK (a b:Tm):Int:=if a.f<0∨b.f<0 then 2 else if a.f≠b.f then B3 a.f b.f else B3 a.l.length b.l.length
noncomputable def Q6 (k:Int) (r:Int):Int:=if k≠0 then k else r
noncomputable def szD (a b:Tm):Int:=(a.size:Int)-b.size
noncomputable def kb (p:Tm):Tm→Int:=
 Tm.rec (motive_1:=fun _=>Tm→Int) (motive_2:=fun _=>List Tm→Int)
  (fun f l ih t=>a0b (szD ⟨f,l⟩ t) (cov ⟨f,l⟩ t) (cov t ⟨f,l⟩) (if f≠t.f∨(Tm.mk f l).ps.length≠t.ps.length then hdK ⟨f,l⟩ t else if f<0 then 0 else ih t.l))
  (fun _=>0)
  (fun _ _ ih1 ih2 ts=>match ts with | []=>0 | t::ts=>Q6 (ih1 t) (ih2 ts)) p
noncomputable def kbs (ps:List Tm):List Tm→Int:=
 Tm.rec_1 (motive_1:=fun _=>Tm→Int) (motive_2:=fun _=>List Tm→Int)
  (fun f l ih t=>a0b (szD ⟨f,l⟩ t) (cov ⟨f,l⟩ t) (cov t ⟨f,l⟩) (if f≠t.f∨(Tm.mk f l).ps.length≠t.ps.length then hdK ⟨f,l⟩ t else if f<0 then 0 else ih t.l))
  (fun _=>0)
  (fun _ _ ih1 ih2 ts=>match ts with | []=>0 | t::ts=>Q6 (ih1 t) (ih2 ts)) ps
noncomputable def wi (a b:Tm):Int:=if a.f≠b.f∨a.ps.length≠b.ps.length then hdK a b else kbs a.ps b.ps
theorem a2i (ts:List Tm):kbs [] ts=0:=rfl
theorem E5 (p:Tm) (ps:List Tm) (t:Tm) (ts:List Tm):kbs (p::ps) (t::ts)=Q6 (kb p t) (kbs ps ts):=rfl
theorem I7 (a b:Tm):kb a b=a0b (szD a b) (cov a b) (cov b a) (wi a b):=by
 cases a with
 | mk f l =>
  show a0b _ _ _ _=_
  congr 1
  unfold wi
  simp only
  split
  ·rfl
  ·rename_i h
   by_cases hf:f<0
   ·rw [if_pos hf,Tm.ps_of_var (t:=⟨f,l⟩) hf,a2i]
   ·rw [if_neg hf,Tm.ps_of_sym (t:=⟨f,l⟩) (by show 0≤f;omega),Tm.ps_of_sym (t:=b) (by have:=Classical.not_not.1 (fun e=>h (.inl e));omega)]
    rfl
theorem O9 (z:Int) (c d:Prop) (w:Int):(w=0∧a0b z c d w=0)∨(w≠0∧∃ o,((0<z∧o=1)∨(z<0∧o = -1)∨(z=0∧o=w))∧((a0b z c d w=2∧((o=1∧¬ c)∨(o = -1∧¬ d)))∨(a0b z c d w=o∧¬ ((o=1∧¬ c)∨(o = -1∧¬ d))))):=by
 unfold a0b
 by_cases h0:w=0
 ·left;exact ⟨h0,if_pos h0⟩
 ·right
  refine ⟨h0,a9O z w,?_,?_⟩
  ·unfold a9O
   by_cases h1:0<z
   ·rw [if_pos h1];exact .inl ⟨h1,rfl⟩
   ·rw [if_neg h1]
    by_cases h2:z<0
    ·rw [if_pos h2];exact .inr (.inl ⟨h2,rfl⟩)
    ·rw [if_neg h2];exact .inr (.inr ⟨by omega,rfl⟩)
  ·rw [if_neg h0]
   generalize a9O z w=o
   unfold b4G
   by_cases h3:(o=1∧¬ c)∨(o = -1∧¬ d)
   ·left;exact ⟨if_pos h3,h3⟩
   ·right;exact ⟨if_neg h3,h3⟩
theorem y7 {z:Int} {c d:Prop} {w:Int}:a0b z c d w=0↔w=0:=by
 rcases O9 z c d w with ⟨h1,h2⟩ | ⟨h1,o,h2,⟨h3,h4⟩ | ⟨h3,h4⟩⟩
 ·exact ⟨fun _=>h1,fun _=>h2⟩
 ·omega
 ·omega
theorem a3r {z:Int} {c d:Prop} {w:Int}:a0b z c d w=1↔w≠0∧c∧(0<z∨(z=0∧w=1)):=by
 rcases O9 z c d w with ⟨h1,h2⟩ | ⟨h1,o,h2,⟨h3,h4⟩ | ⟨h3,h4⟩⟩
 ·constructor
  ·intro h;omega
  ·rintro ⟨h,_⟩;exact absurd h1 h
 ·constructor
  ·intro h;omega
  ·rintro ⟨_,hc,h⟩
   have:o=1:=by omega
   rcases h4 with h4 | h4
   ·exact absurd hc h4.2
   ·omega
 ·constructor
  ·intro h
   have ho:o=1:=by omega
   exact ⟨h1,Classical.not_not.1 fun hc=>h4 (.inl ⟨ho,hc⟩),by omega⟩
  ·rintro ⟨_,hc,h⟩;omega
theorem a4D {z:Int} {c d:Prop} {w:Int}:a0b z c d w = -1↔w≠0∧d∧(z<0∨(z=0∧w = -1)):=by
 rcases O9 z c d w with ⟨h1,h2⟩ | ⟨h1,o,h2,⟨h3,h4⟩ | ⟨h3,h4⟩⟩
 ·constructor
  ·intro h;omega
  ·rintro ⟨h,_⟩;exact absurd h1 h
 ·constructor
  ·intro h;omega
  ·rintro ⟨_,hc,h⟩
   have:o = -1:=by omega
   rcases h4 with h4 | h4
   ·omega
   ·exact absurd hc h4.2
 ·constructor
  ·intro h
   have ho:o = -1:=by omega
   exact ⟨h1,Classical.not_not.1 fun hc=>h4 (.inr ⟨ho,hc⟩),by omega⟩
  ·rintro ⟨_,hc,h⟩;omega
def K4 (k:Int):Prop:=k=0∨k=1∨k = -1∨k=2
theorem a1y {z:Int} {c d:Prop} {w:Int} (h:K4 w):K4 (a0b z c d w):=by
 unfold K4 at *
 rcases O9 z c d w with ⟨h1,h2⟩ | ⟨h1,o,h2,⟨h3,h4⟩ | ⟨h3,h4⟩⟩<;>omega
theorem b0r (a b:Tm):K4 (hdK a b):=by
 unfold hdK K4
 split
 ·omega
 ·split
  ·rcases d9 a.f b.f with h | h | h<;>omega
  ·rcases d9 a.l.length b.l.length with h | h | h<;>omega
theorem b2a {a b:Tm} (h:a.f≠b.f∨a.ps.length≠b.ps.length):hdK a b≠0:=by
 unfold hdK
 split
 ·omega
 ·rename_i h1
  rw [Tm.ps_of_sym (t:=a) (by omega),Tm.ps_of_sym (t:=b) (by omega)] at h
  split
  ·rcases d9 a.f b.f with h2 | h2 | h2<;>omega
  ·rcases d9 a.l.length b.l.length with h2 | h2 | h2<;>omega
theorem a3v:∀ {l m:List Tm},(∀ s∈l,∀ t,K4 (kb s t))→K4 (kbs l m)
 | [],m,_ => .inl rfl
 | _::_,[],_ => .inl rfl
 | x::l,y::m,h=>by
  rw [E5]
  unfold Q6
  split
  ·exact h x (by simp) y
  ·exact a3v fun s hs=>h s (List.mem_cons_of_mem _ hs)
theorem a9s (a:Tm):∀ b,K4 (kb a b):=by
 induction a using Tm.indp with
 | h a ih =>
  intro b
  rw [I7]
  refine a1y ?_
  unfold wi
  split
  ·exact b0r a b
  ·exact a3v ih
theorem a6W:∀ {l m:List Tm},l.length=m.length→(∀ s∈l,∀ t,kb s t=0↔s.strip=t.strip)→(kbs l m=0↔l.map Tm.strip=m.map Tm.strip)
 | [],[],_,_=>by simp [a2i]
 | [],_::_,h,_=>by simp at h
 | _::_,[],h,_=>by simp at h
 | x::l,y::m,h,ih=>by
  rw [E5,List.map_cons,List.map_cons,List.cons.injEq,←ih x (by simp) y,←a6W (by simpa using h) fun s hs=>ih s (List.mem_cons_of_mem _ hs)]
  unfold Q6
  split
  ·rename_i h1
   constructor
   ·intro h2;exact absurd h2 h1
   ·rintro ⟨h2,_⟩;exact h2
  ·rename_i h1
   exact ⟨fun h2=>⟨Classical.not_not.1 h1,h2⟩,fun h2=>h2.2⟩
theorem a5p (a b:Tm):a.strip=b.strip↔a.f=b.f∧a.ps.map Tm.strip=b.ps.map Tm.strip:=by
 rw [Tm.strip_eq,Tm.strip_eq b,Tm.mk.injEq]
theorem a5Q (a:Tm):∀ b,kb a b=0↔a.strip=b.strip:=by
 induction a using Tm.indp with
 | h a ih =>
  intro b
  rw [I7,y7,a5p]
  unfold wi
  split
  ·rename_i h
   constructor
   ·intro h1;exact absurd h1 (b2a h)
   ·rintro ⟨h1,h2⟩
    have:=congrArg List.length h2
    rw [List.length_map,List.length_map] at this
    omega
  ·rename_i h
   have hf:a.f=b.f:=by omega
   rw [a6W (by omega) ih]
   exact ⟨fun h1=>⟨hf,h1⟩,fun h1=>h1.2⟩
theorem cov_strip {a b:Tm}:cov a.strip b↔cov a b:=by unfold cov;rw [Tm.strip_vs]
theorem a2v {a b:Tm}:cov a b.strip↔cov a b:=by unfold cov;rw [Tm.strip_vs]
theorem b2r (a b:Tm):hdK a.strip b.strip=hdK a b:=by
 unfold hdK
 rw [Tm.strip_f,Tm.strip_f]
 split
 ·rfl
 ·rename_i h
  split
  ·rfl
  ·rw [Tm.strip_l,Tm.strip_l,List.length_map,List.length_map,Tm.ps_of_sym (t:=a) (by omega),Tm.ps_of_sym (t:=b) (by omega)]
theorem a4p:∀ {l m:List Tm},(∀ s∈l,∀ t,kb s.strip t.strip=kb s t)→kbs (l.map Tm.strip) (m.map Tm.strip)=kbs l m
 | [],m,_=>rfl
 | _::_,[],_=>rfl
 | x::l,y::m,h=>by
  rw [List.map_cons,List.map_cons,E5,E5,h x (by simp) y,a4p fun s hs=>h s (List.mem_cons_of_mem _ hs)]
theorem b2L (a:Tm):∀ b,kb a.strip b.strip=kb a b:=by
 induction a using Tm.indp with
 | h a ih =>
  intro b
  rw [I7,I7 a]
  have h1:wi a.strip b.strip=wi a b:=by
   unfold wi
   rw [Tm.strip_f,Tm.strip_f,Tm.strip_ps,Tm.strip_ps,List.length_map,List.length_map,b2r,a4p ih]
  have h2:szD a.strip b.strip=szD a b:=by unfold szD;rw [Tm.strip_size,Tm.strip_size]
  have h3:cov a.strip b.strip=cov a b:=propext (cov_strip.trans a2v)
  have h4:cov b.strip a.strip=cov b a:=propext (cov_strip.trans a2v)
  rw [h1,h2,h3,h4]
theorem a6e (a b:Tm):kb a b=1↔cov a b∧(b.size<a.size∨(a.size=b.size∧wi a b=1)):=by
 rw [I7,a3r]
 unfold szD
 constructor
 ·rintro ⟨h1,h2,h3⟩;exact ⟨h2,by omega⟩
 ·rintro ⟨h1,h2⟩
  refine ⟨fun e=>?_,h1,by omega⟩
  have h3:kb a b=0:=by rw [I7,y7];exact e
  have h4:=(a5Q a b).1 h3
  have h5:a.size=b.size:=by rw [←Tm.strip_size,h4,Tm.strip_size]
  omega
theorem b5W (a b:Tm) (h:hdK a b≠2):hdK b a = - hdK a b:=by
 unfold hdK at *
 by_cases h1:a.f<0∨b.f<0
 ·rw [if_pos h1] at h;exact absurd rfl h
 ·rw [if_neg h1,if_neg (by omega)]
  by_cases h2:a.f=b.f
  ·rw [if_neg (by omega),if_neg (by omega)]
   rcases d9 a.l.length b.l.length with h3 | h3 | h3<;>rcases d9 b.l.length a.l.length with h4 | h4 | h4<;>omega
  ·rw [if_pos (by omega),if_pos h2]
   rcases d9 a.f b.f with h3 | h3 | h3<;>rcases d9 b.f a.f with h4 | h4 | h4<;>omega
theorem b2I (a b:Tm) (h:hdK a b=2):hdK b a=2:=by
 unfold hdK at *
 by_cases h1:a.f<0∨b.f<0
 ·rw [if_pos (by omega)]
 ·rw [if_neg h1] at h
  exfalso
  split at h
  ·rcases d9 a.f b.f with h3 | h3 | h3<;>omega
  ·rcases d9 a.l.length b.l.length with h3 | h3 | h3<;>omega
def trn (k:Int):Int:=if k=2 then 2 else-k
theorem a3w {k:Int} (h:K4 k):(trn k=0↔k=0)∧(trn k=1↔k = -1)∧(trn k = -1↔k=1)∧K4 (trn k):=by
 unfold trn K4 at *
 split<;>omega
theorem b1b {z:Int} {c d:Prop} {w:Int} (h:K4 w):a0b (-z) d c (trn w)=trn (a0b z c d w):=by
 have h1:=a1y (z:=z) (c:=c) (d:=d) h
 have t0:=a3w h
 have h2:=a1y (z := -z) (c:=d) (d:=c) t0.2.2.2
 have t1:=a3w h1
 have a0:=@y7 z c d w
 have a1:=@a3r z c d w
 have a2:=@a4D z c d w
 have b0:=@y7 (-z) d c (trn w)
 have b1:=@a3r (-z) d c (trn w)
 have b2:=@a4D (-z) d c (trn w)
 generalize a0b (-z) d c (trn w)=y at *
 generalize a0b z c d w=x at *
 have e0:y=0↔x=0:=by rw [b0,a0];exact t0.1
 have e1:y=1↔x = -1:=by
  rw [b1,a2]
  constructor
  ·rintro ⟨g1,g2,g3⟩;exact ⟨fun e=>g1 (t0.1.2 e),g2,by rcases g3 with g3 | ⟨g3,g4⟩;omega;exact .inr ⟨by omega,t0.2.1.1 g4⟩⟩
  ·rintro ⟨g1,g2,g3⟩;exact ⟨fun e=>g1 (t0.1.1 e),g2,by rcases g3 with g3 | ⟨g3,g4⟩;omega;exact .inr ⟨by omega,t0.2.1.2 g4⟩⟩
 have e2:y = -1↔x=1:=by
  rw [b2,a1]
  constructor
  ·rintro ⟨g1,g2,g3⟩;exact ⟨fun e=>g1 (t0.1.2 e),g2,by rcases g3 with g3 | ⟨g3,g4⟩;omega;exact .inr ⟨by omega,t0.2.2.1.1 g4⟩⟩
  ·rintro ⟨g1,g2,g3⟩;exact ⟨fun e=>g1 (t0.1.1 e),g2,by rcases g3 with g3 | ⟨g3,g4⟩;omega;exact .inr ⟨by omega,t0.2.2.1.2 g4⟩⟩
 unfold trn
 unfold K4 at h1 h2
 split<;>omega
theorem a7z:∀ {l m:List Tm},l.length=m.length→(∀ s∈l,∀ t,kb t s=trn (kb s t))→kbs m l=trn (kbs l m)
 | [],[],_,_=>by rw [a2i];rfl
 | [],_::_,h,_=>by simp at h
 | _::_,[],h,_=>by simp at h
 | x::l,y::m,h,ih=>by
  rw [E5,E5,ih x (by simp) y,a7z (by simpa using h) fun s hs=>ih s (List.mem_cons_of_mem _ hs)]
  have:=(a3w (a9s x y)).1
  unfold Q6
  by_cases h1:kb x y=0
  ·rw [if_neg (fun e=>e (this.2 h1)),if_neg (by omega)]
  ·rw [if_pos (fun e=>h1 (this.1 e)),if_pos h1]
theorem a5N (a:Tm):∀ b,kb b a=trn (kb a b):=by
 induction a using Tm.indp with
 | h a ih =>
  intro b
  rw [I7,I7 a]
  have h1:szD b a = - szD a b:=by unfold szD;omega
  have h4:K4 (wi a b):=by
   unfold wi
   split
   ·exact b0r a b
   ·exact a3v fun s _ t=>a9s s t
  rw [h1,←b1b h4]
  congr 1
  unfold wi
  by_cases h:a.f≠b.f∨a.ps.length≠b.ps.length
  ·rw [if_pos h,if_pos (by omega)]
   unfold trn
   split
   ·rename_i h2;exact b2I a b h2
   ·rename_i h2;exact b5W a b h2
  ·rw [if_neg h,if_neg (by omega)]
   exact a7z (by omega) ih
structure Sc where
 sz:Int
 mp:List (Int×Int)
 sp:Int
 lk:Int
def B5:List (Int×Int)→Int→Option Int
 | [],_=>none
 | (k,x)::l,v=>if k=v then some x else B5 l v
def B9 (l:List (Int×Int)) (v:Int):Int:=(B5 l v).getD 0
def P8:List (Int×Int)→Int→Int→List (Int×Int)
 | [],v,y=>[(v,y)]
 | (k,x)::l,v,y=>if k=v then (v,y)::l else (k,x)::P8 l v y
theorem b5C (l:List (Int×Int)) (v y:Int):P8 l v y≠[]:=by
 cases l with
 | nil=>simp [P8]
 | cons p l =>
  obtain ⟨k,x⟩:=p
  rw [P8]
  split<;>simp
theorem b0H (l:List (Int×Int)) (v y u:Int):B5 (P8 l v y) u=if v=u then some y else B5 l u:=by
 induction l with
 | nil=>rfl
 | cons p l ih =>
  obtain ⟨k,x⟩:=p
  rw [P8]
  by_cases h:k=v
  ·rw [if_pos h,B5,B5]
   by_cases h2:v=u
   ·rw [if_pos h2,if_pos h2]
   ·rw [if_neg h2,if_neg h2,if_neg (by omega)]
  ·rw [if_neg h,B5,B5]
   by_cases h2:k=u
   ·rw [if_pos h2,if_pos h2,if_neg (by omega)]
   ·rw [if_neg h2,if_neg h2,ih]
theorem a7x (l:List (Int×Int)) (v y u:Int):B9 (P8 l v y) u=if v=u then y else B9 l u:=by
 unfold B9
 rw [b0H]
 split<;>rfl
def B8 (s:Sc) (v σ:Int):Sc:=⟨s.sz,P8 s.mp v (B9 s.mp v+σ),s.sp+(max (B9 s.mp v+σ) 0-max (B9 s.mp v) 0),s.lk+(max (-(B9 s.mp v+σ)) 0-max (-(B9 s.mp v)) 0)⟩
def a5w (σ:Int) (s:Sc) (t:Tm):Sc:=if t.f<0 then B8 ⟨s.sz+σ,s.mp,s.sp,s.lk⟩ (-1-t.f) σ else ⟨s.sz+σ,s.mp,s.sp,s.lk⟩
def addT (σ:Int) (s:Sc) (t:Tm):Sc:=t.flat.foldl (a5w σ) s
def addL (σ:Int) (s:Sc) (l:List Tm):Sc:=(l.flatMap Tm.flat).foldl (a5w σ) s
theorem b2Y {σ:Int} {s:Sc} {t:Tm} (h:t.f<0):addT σ s t=B8 ⟨s.sz+σ,s.mp,s.sp,s.lk⟩ (-1-t.f) σ:=by
 unfold addT
 rw [Tm.flat_eq,Tm.ps_of_var h]
 show a5w σ s t=_
 unfold a5w
 rw [if_pos h]
theorem b2v {σ:Int} {s:Sc} {t:Tm} (h:¬ t.f<0):addT σ s t=addL σ ⟨s.sz+σ,s.mp,s.sp,s.lk⟩ t.l:=by
 unfold addT addL
 rw [Tm.flat_eq,Tm.ps_of_sym (by omega),List.foldl_cons]
 congr 1
 unfold a5w
 rw [if_neg h]
theorem b1k {σ:Int} {s:Sc} {l:List Tm} {k:Nat} {t:Tm} (h:l[k]?=some t):addL σ s (l.take (k+1))=addT σ (addL σ s (l.take k)) t:=by
 unfold addL addT
 rw [List.take_add_one,h,List.flatMap_append,List.foldl_append]
 simp
def upS (l:List (Int×Int)):Int:=(l.map fun p=>max p.2 0).sum
def dnS (l:List (Int×Int)):Int:=(l.map fun p=>max (-p.2) 0).sum
def ndk (l:List (Int×Int)):Prop:=(l.map (·.1)).Nodup
theorem a2J {l:List (Int×Int)} {v:Int} (h:v∉l.map (·.1)):B5 l v=none:=by
 induction l with
 | nil=>rfl
 | cons p l ih =>
  obtain ⟨k,x⟩:=p
  rw [List.map_cons,List.mem_cons,not_or] at h
  rw [B5,if_neg (fun e=>h.1 e.symm),ih h.2]
theorem b2U {l:List (Int×Int)} {v y u:Int} (h:u∈(P8 l v y).map (·.1)):u=v∨u∈l.map (·.1):=by
 induction l with
 | nil=>simp [P8] at h;exact .inl h
 | cons p l ih =>
  obtain ⟨k,x⟩:=p
  rw [P8] at h
  split at h
  ·rename_i e
   rw [List.map_cons,List.mem_cons] at h ⊢
   rcases h with h | h
   ·exact .inl h
   ·exact .inr (.inr h)
  ·rw [List.map_cons,List.mem_cons] at h ⊢
   rcases h with h | h
   ·exact .inr (.inl h)
   ·rcases ih h with h | h
    ·exact .inl h
    ·exact .inr (.inr h)
theorem b5L {l:List (Int×Int)} (h:ndk l) (v y:Int):ndk (P8 l v y)∧upS (P8 l v y)=upS l+(max y 0-max (B9 l v) 0)∧dnS (P8 l v y)=dnS l+(max (-y) 0-max (-(B9 l v)) 0):=by
 induction l with
 | nil=>exact ⟨by simp [P8,ndk],by simp [P8,upS,B9,B5],by simp [P8,dnS,B9,B5]⟩
 | cons p l ih =>
  obtain ⟨k,x⟩:=p
  unfold ndk at h
  rw [List.map_cons,List.nodup_cons] at h
  rw [P8]
  by_cases e:k=v
  ·rw [if_pos e]
   have hg:B9 ((k,x)::l) v=x:=by unfold B9 B5;rw [if_pos e];rfl
   rw [hg]
   refine ⟨by unfold ndk;rw [List.map_cons,List.nodup_cons];exact e▸h,?_,?_⟩
   ·simp only [upS,List.map_cons,List.sum_cons];omega
   ·simp only [dnS,List.map_cons,List.sum_cons];omega
  ·rw [if_neg e]
   have hg:B9 ((k,x)::l) v=B9 l v:=by unfold B9;rw [B5,if_neg e]
   obtain ⟨h1,h2,h3⟩:=ih h.2
   rw [hg]
   refine ⟨?_,?_,?_⟩
   ·unfold ndk
    rw [List.map_cons,List.nodup_cons]
    refine ⟨fun hm=>?_,h1⟩
    rcases b2U hm with hm | hm
    ·exact e hm
    ·exact h.1 hm
   ·unfold upS at h2 ⊢;rw [List.map_cons,List.sum_cons,h2,List.map_cons,List.sum_cons];omega
   ·unfold dnS at h3 ⊢;rw [List.map_cons,List.sum_cons,h3,List.map_cons,List.sum_cons];omega
theorem b2V {l:List (Int×Int)} (h:ndk l):0≤upS l∧(upS l=0↔∀ v,B9 l v≤0):=by
 induction l with
 | nil=>exact ⟨by simp [upS],by simp [upS,B9,B5]⟩
 | cons p l ih =>
  obtain ⟨k,x⟩:=p
  unfold ndk at h
  rw [List.map_cons,List.nodup_cons] at h
  obtain ⟨h1,h2⟩:=ih h.2
  have e:upS ((k,x)::l)=max x 0+upS l:=by simp [upS]
  rw [e]
  refine ⟨by omega,?_⟩
  constructor
  ·intro h3 v
   have h4:=h2.1 (by omega) v
   unfold B9 at h4 ⊢
   rw [B5]
   split
   ·show x≤0;omega
   ·exact h4
  ·intro h3
   have hx:=h3 k
   unfold B9 at hx
   rw [B5,if_pos rfl] at hx
   have hx:x≤0:=hx
   have:=h2.2 fun v=>by
    by_cases hv:k=v
    ·subst hv
     unfold B9
     rw [a2J h.1]
     exact Int.le_refl 0
    ·have:=h3 v
     unfold B9 at this ⊢
     rw [B5,if_neg hv] at this
     exact this
   omega
theorem b3H {l:List (Int×Int)} (h:ndk l):0≤dnS l∧(dnS l=0↔∀ v,0≤B9 l v):=by
 induction l with
 | nil=>exact ⟨by simp [dnS],by simp [dnS,B9,B5]⟩
 | cons p l ih =>
  obtain ⟨k,x⟩:=p
  unfold ndk at h
  rw [List.map_cons,List.nodup_cons] at h
  obtain ⟨h1,h2⟩:=ih h.2
  have e:dnS ((k,x)::l)=max (-x) 0+dnS l:=by simp [dnS]
  rw [e]
  refine ⟨by omega,?_⟩
  constructor
  ·intro h3 v
   have h4:=h2.1 (by omega) v
   unfold B9 at h4 ⊢
   rw [B5]
   split
   ·show 0≤x;omega
   ·exact h4
  ·intro h3
   have hx:=h3 k
   unfold B9 at hx
   rw [B5,if_pos rfl] at hx
   have hx:0≤x:=hx
   have:=h2.2 fun v=>by
    by_cases hv:k=v
    ·subst hv
     unfold B9
     rw [a2J h.1]
     exact Int.le_refl 0
    ·have:=h3 v
     unfold B9 at this ⊢
     rw [B5,if_neg hv] at this
     exact this
   omega
structure Ss (s:Sc) (z:Int) (D:Int→Int):Prop where
 sz:s.sz=z
 nd:ndk s.mp
 sp:s.sp=upS s.mp
 lk:s.lk=dnS s.mp
 at_:∀ v,B9 s.mp v=D v
theorem Ss.addV {s:Sc} {z:Int} {D:Int→Int} (h:Ss s z D) (v σ:Int):Ss (B8 s v σ) z (fun u=>D u+if v=u then σ else 0):=by
 obtain ⟨h1,h2,h3⟩:=b5L h.nd v (B9 s.mp v+σ)
 refine ⟨h.sz,h1,?_,?_,fun u=>?_⟩
 ·show s.sp+_=upS (P8 _ _ _);rw [h2,h.sp]
 ·show s.lk+_=dnS (P8 _ _ _);rw [h3,h.lk]
 ·show B9 (P8 _ _ _) u=_
  rw [a7x]
  split
  ·rename_i e;subst e;rw [h.at_]
  ·rw [h.at_];omega
theorem b3Q {σ:Int} {s:Sc} {t:Tm} (h:t.f<0):a5w σ s t=B8 ⟨s.sz+σ,s.mp,s.sp,s.lk⟩ (-1-t.f) σ:=if_pos h
theorem b2S {σ:Int} {s:Sc} {t:Tm} (h:¬ t.f<0):a5w σ s t=⟨s.sz+σ,s.mp,s.sp,s.lk⟩:=if_neg h
theorem Ss.fold {σ:Int}:∀ {l:List Tm} {s:Sc} {z:Int} {D:Int→Int},Ss s z D→Ss (l.foldl (a5w σ) s) (z+σ*l.length) (fun v=>D v+σ*((vsL l).count v:Int))
 | [],s,z,D,h=>by
  refine ⟨by show s.sz=_;rw [h.sz];simp,h.nd,h.sp,h.lk,fun v=>?_⟩
  show B9 s.mp v=_
  rw [h.at_];simp [vsL]
 | t::l,s,z,D,h=>by
  rw [List.foldl_cons]
  have h0:Ss ⟨s.sz+σ,s.mp,s.sp,s.lk⟩ (z+σ) D:=⟨by show s.sz+σ=_;rw [h.sz],h.nd,h.sp,h.lk,h.at_⟩
  have e1:σ*((t::l).length:Int)=σ+σ*(l.length:Int):=by
   rw [List.length_cons];push_cast;rw [Int.mul_add];omega
  by_cases hf:t.f<0
  ·have h1:=(h0.addV (-1-t.f) σ).fold (σ:=σ) (l:=l)
   rw [b3Q hf]
   refine ⟨?_,h1.nd,h1.sp,h1.lk,fun v=>?_⟩
   ·rw [h1.sz,e1];omega
   ·rw [h1.at_]
    have e2:(vsL (t::l)).count v=(if -1-t.f=v then 1 else 0)+(vsL l).count v:=by
     unfold vsL
     rw [List.filter_cons,if_pos (by simpa using hf),List.map_cons,List.count_cons]
     simp only [beq_iff_eq]
     omega
    rw [e2]
    split
    ·push_cast;rw [Int.mul_add];omega
    ·push_cast;rw [Int.mul_add];omega
  ·have h1:=h0.fold (σ:=σ) (l:=l)
   rw [b2S hf]
   refine ⟨?_,h1.nd,h1.sp,h1.lk,fun v=>?_⟩
   ·rw [h1.sz,e1];omega
   ·rw [h1.at_]
    have e2:vsL (t::l)=vsL l:=by
     unfold vsL
     rw [List.filter_cons,if_neg (by simpa using hf)]
    rw [e2]
end Go.Proofs.YtekboofbedakcaaGreat
namespace Go.Proofs.YtekboofbedakcaaGreat
open Go.RowKit
set_option linter.unusedVariables false
set_option linter.unusedSimpArgs false
set_option maxRecDepth 100000
noncomputable def mrv (p:Int×Int):CV := .row [.i p.1,.i p.2]
theorem a0o (l:List (Int×Int)):C4 .i64 (l.map mrv):=fun r hr=>by
 obtain ⟨p,_,rfl⟩:=List.mem_map.1 hr
 exact ⟨p.1,.i p.2,rfl⟩
theorem b4V (l:List (Int×Int)) (v:Int):K6 .i64 v (l.map mrv)=(B5 l v).map CV.i:=by
 induction l with
 | nil=>rfl
 | cons p l ih =>
  obtain ⟨k,x⟩:=p
  rw [List.map_cons,mrv,M3,B5]
  split
  ·rfl
  ·exact ih
theorem b7g (l:List (Int×Int)) (v:Int):(K6 .i64 v (l.map mrv)).getD (.sc (.int .i64 0)) = .i (B9 l v):=by
 rw [b4V]
 unfold B9
 cases B5 l v<;>rfl
theorem b4e (l:List (Int×Int)) (v y:Int):a0O .i64 v (.i y) (l.map mrv)=(P8 l v y).map mrv:=by
 induction l with
 | nil=>rfl
 | cons p l ih =>
  obtain ⟨k,x⟩:=p
  rw [List.map_cons,mrv,a0q,P8]
  split
  ·rfl
  ·rw [List.map_cons,ih];rfl
noncomputable def mB (l:List (Int×Int)):AV:=⟨if l=[] then 17 else 14,.lst (l.map mrv),0,0,[]⟩
noncomputable abbrev sst (s:Sc):AS:=[(450001,.obj),(35500100,.val (.i s.sz)),(35500101,.mref 300001),(35500102,.val (.i s.sp)),(35500103,.val (.i s.lk)),(300001,mB s.mp)]
noncomputable abbrev b7S (z p k:Int):AS:=[(450001,.obj),(35500100,.val (.i z)),(35500101,.mref 300001),(35500102,.val (.i p)),(35500103,.val (.i k)),(300001,.nmap)]
noncomputable abbrev b6l (z:Int) (l:List (Int×Int)) (p k:Int):AS:=[(450001,.obj),(35500100,.val (.i z)),(35500101,.mref 300001),(35500102,.val (.i p)),(35500103,.val (.i k)),(300001,.mp (l.map mrv))]
theorem b1Z {s:Sc} (h:s.mp=[]):sst s=b7S s.sz s.sp s.lk:=by simp only [sst,mB,h,if_true];rfl
theorem b2b {s:Sc} (h:s.mp≠[]):sst s=b6l s.sz s.mp s.sp s.lk:=by simp only [sst,mB,if_neg h]
theorem y8 (s:Sc):(sst s).all Y0=true:=by
 by_cases h:s.mp=[]
 ·rw [b1Z h];kernel_rfl
 ·rw [b2b h];kernel_rfl
theorem q7 (s:Sc):(sst s).all (Q1 (kO (sst s)))=true:=by
 by_cases h:s.mp=[]
 ·rw [b1Z h];kernel_rfl
 ·rw [b2b h];kernel_rfl
structure Bds (s:Sc) (n:Nat):Prop where
 sz : -(n:Int)≤s.sz∧s.sz≤n
 sp : -(n:Int)≤s.sp∧s.sp≤n
 lk : -(n:Int)≤s.lk∧s.lk≤n
 at_:∀ v,-(n:Int)≤B9 s.mp v∧B9 s.mp v≤n
theorem Bds.node {s:Sc} {n:Nat} {σ:Int} (h:Bds s n) (hσ:σ=1∨σ = -1) (t:Tm):Bds (a5w σ s t) (n+1):=by
 obtain ⟨h1,h2,h3,h4⟩:=h
 unfold a5w
 split
 ·unfold B8
  have:=h4 (-1-t.f)
  refine ⟨by show _≤s.sz+σ∧s.sz+σ≤_;omega,by simp only;omega,by simp only;omega,fun v=>?_⟩
  simp only
  rw [a7x]
  have:=h4 v
  split<;>omega
 ·exact ⟨by show _≤s.sz+σ∧s.sz+σ≤_;omega,by simp only;omega,by simp only;omega,fun v=>by have:=h4 v;simp only;omega⟩
theorem Bds.fold {σ:Int} (hσ:σ=1∨σ = -1):∀ {l:List Tm} {s:Sc} {n:Nat},Bds s n→Bds (l.foldl (a5w σ) s) (n+l.length)
 | [],s,n,h=>h
 | t::l,s,n,h=>by
  rw [List.foldl_cons,List.length_cons,show n+(l.length+1)=n+1+l.length by omega]
  exact (h.node hσ t).fold hσ
theorem Bds.addL {σ:Int} (hσ:σ=1∨σ = -1) {l:List Tm} {s:Sc} {n:Nat} (h:Bds s n):Bds (addL σ s l) (n+(l.flatMap Tm.flat).length):=h.fold hσ
theorem Bds.addT {σ:Int} (hσ:σ=1∨σ = -1) {t:Tm} {s:Sc} {n:Nat} (h:Bds s n):Bds (addT σ s t) (n+t.size):=h.fold hσ
theorem I2 (W:World) (t:Tm):AFun Tryz.prog W 128 [t.cw] (.val (.b (decide (t.f<0)))):=by
 refine a8 (rs:=[.b (decide (t.f<0))]) Tryz.func128 Tryz.ntmps128 rfl rfl rfl rfl ?_
 intro w U hW
 refine aS (aR ?_)
 refine nc zb (nc zd ?_)
 refine aS (aR ?_)
 refine nc ze (nc zg (nc zh (nc zd ?_)))
 exact aT ⟨.inr rfl,rfl⟩
theorem a6u (W:World) (t:Tm) (h1 : -9223372036854775808≤t.f) (h2:t.f<0):AFun Tryz.prog W 130 [t.cw] (.val (.i (-1-t.f))):=by
 refine a8 (rs:=[.i (-1-t.f)]) Tryz.func130 Tryz.ntmps130 rfl rfl rfl rfl ?_
 intro w U hW
 refine aS (aR ?_)
 refine nc zb (nc zd ?_)
 refine aS (aR ?_)
 refine nc ze (nc zg (nc zi (nc zd ?_)))
 exact aT ⟨.inr rfl,rfl⟩
theorem a2n (W:World) (t:Tm):AFun Tryz.prog W 97 [t.cw] (.val (.lst (t.ps.map Tm.cv))):=by
 refine a8 (rs:=[.lst (t.ps.map Tm.cv)]) Tryz.func97 Tryz.ntmps97 rfl rfl rfl rfl ?_
 intro w U hW
 refine aS (aR ?_)
 refine nc zb (nc zd ?_)
 refine aS (aS (aR ?_))
 refine nc zE (nc (zn (z:=I2 w t)) ?_)
 refine aC rfl (fun hc=>?_) (fun hc=>?_)
 ·have hf:t.f<0:=by simpa using hc
  rw [Tm.ps_of_var hf]
  refine aS (aR ?_)
  refine nc zd ?_
  exact aT ⟨.inr rfl,rfl⟩
 ·have hf:¬ t.f<0:=by simpa using hc
  rw [Tm.ps_of_sym (by omega)]
  refine aK ?_
  refine aS (aR ?_)
  refine nc ze (nc zg (nc zd ?_))
  exact aT ⟨.inr rfl,rfl⟩
theorem a4Z (s:Sc) (n:Nat) (hb:Bds s n) (hn:n≤1000000000000) (v σ:Int) (hσ:σ=1∨σ = -1) (hm:s.mp=[]):q6 Tryz.prog 129 (b7S s.sz s.sp s.lk) [.bp 350001 0 [],.val (.i v),.val (.i σ)] (.tup []) (b6l s.sz (B8 s v σ).mp (B8 s v σ).sp (B8 s v σ).lk):=by
 have hb2:=hb.sp
 have hb3:=hb.lk
 have hb4:=hb.at_ v
 have hg:B9 [] v=B9 s.mp v:=by rw [hm]
 obtain ⟨was,hwas⟩:∃ was,was=B9 s.mp v:=⟨_,rfl⟩
 rw [←hwas] at hb4
 refine i8 Tryz.func129 Tryz.ntmps129 rfl rfl rfl rfl rfl rfl ?_
 intro w U hU
 refine aS (aS (aR ?_))
 refine nc zj (nc zZ (nc ze (nc z0 (nc zbl ?_))))
 refine aC rfl (fun hc=>?_) (fun hc=>by cases hc)
 refine aR ?_
 refine nc zj (ne (zbm 300002) (nc zZ (nc ze (nc zbf ?_))))
 refine aS (aR ?_)
 refine nc zj (nc zZ (nc ze (nc z0 (nc zj (nc (zbn (H :=  a0o [])) (nc zd ?_))))))
 refine AWp.wk (a7 (s':=[(0,AV.bp 350001 0 []),(1,.val (.i v)),(2,.val (.i σ)),(6,.val (.i was)),(450001,.obj),(35500100,.val (.i s.sz)),(35500101,.mref 300002),(35500102,.val (.i s.sp)),(35500103,.val (.i s.lk)),(300002,.mp (([]:List (Int×Int)).map mrv))]) ⟨rfl,rfl,rfl,?_,rfl,rfl,rfl,rfl,rfl,rfl,trivial⟩) ?_
 ·rw [hwas,←hg];rfl
 refine aS (aR ?_)
 refine nc zj (nc zj (nc zu (nc zd ?_)))
 refine aS (aR ?_)
 refine nc zj (nc zZ (nc ze (nc z0 (nc zj (nc zj (nc (zbo (G:=a0o [])) ?_))))))
 refine aS (aR ?_)
 refine nc zj (nc zZ (nc ze (nc z0 (nc zj (nc zbp (nc zj (nc zbp (nc zi (nc zu (nc zZ (nc ze (nc zbf ?_))))))))))))
 refine aR ?_
 refine nc zj (nc zZ (nc ze (nc z0 (nc zj (nc zbq (nc zbp (nc zj (nc zbq (nc zbp (nc zi (nc zu (nc zZ (nc ze (nc zbf ?_))))))))))))))
 refine ⟨.inl rfl,_,(a7 (s':=[(450001,.obj),(35500100,.val (.i s.sz)),(35500101,.mref 300002),(35500102,.val (.i (B8 s v σ).sp)),(35500103,.val (.i (B8 s v σ).lk)),(300002,.mp ((B8 s v σ).mp.map mrv))]) ⟨rfl,rfl,rfl,?_,?_,?_,trivial⟩).trans (v9 300002 300001 rfl rfl (by kernel_rfl) (by kernel_rfl)),rfl,rfl,rfl,rfl,rfl,rfl,rfl,trivial⟩
 ·unfold B8;rw [←hwas];rfl
 ·unfold B8;rw [←hwas];rfl
 ·unfold B8
  simp only
  rw [←hwas,hm,←b4e]
  rfl
theorem a5m (s:Sc) (n:Nat) (hb:Bds s n) (hn:n≤1000000000000) (v σ:Int) (hσ:σ=1∨σ = -1):q6 Tryz.prog 129 (b6l s.sz s.mp s.sp s.lk) [.bp 350001 0 [],.val (.i v),.val (.i σ)] (.tup []) (b6l s.sz (B8 s v σ).mp (B8 s v σ).sp (B8 s v σ).lk):=by
 have hb2:=hb.sp
 have hb3:=hb.lk
 have hb4:=hb.at_ v
 obtain ⟨was,hwas⟩:∃ was,was=B9 s.mp v:=⟨_,rfl⟩
 rw [←hwas] at hb4
 refine i8 Tryz.func129 Tryz.ntmps129 rfl rfl rfl rfl rfl rfl ?_
 intro w U hU
 refine aS (aS (aR ?_))
 refine nc zj (nc zZ (nc ze (nc z0 (nc zbr ?_))))
 refine aC rfl (fun hc=>by cases hc) (fun hc=>?_)
 refine aK ?_
 refine aS (aR ?_)
 refine nc zj (nc zZ (nc ze (nc z0 (nc zj (nc (zbn (H :=  a0o _)) (nc zd ?_))))))
 refine AWp.wk (a7 (s':=[(0,AV.bp 350001 0 []),(1,.val (.i v)),(2,.val (.i σ)),(6,.val (.i was)),(450001,.obj),(35500100,.val (.i s.sz)),(35500101,.mref 300001),(35500102,.val (.i s.sp)),(35500103,.val (.i s.lk)),(300001,.mp (s.mp.map mrv))]) ⟨rfl,rfl,rfl,?_,rfl,rfl,rfl,rfl,rfl,rfl,trivial⟩) ?_
 ·rw [hwas,←b7g];rfl
 refine aS (aR ?_)
 refine nc zj (nc zj (nc zu (nc zd ?_)))
 refine aS (aR ?_)
 refine nc zj (nc zZ (nc ze (nc z0 (nc zj (nc zj (nc (zbo (G:=a0o _)) ?_))))))
 refine aS (aR ?_)
 refine nc zj (nc zZ (nc ze (nc z0 (nc zj (nc zbp (nc zj (nc zbp (nc zi (nc zu (nc zZ (nc ze (nc zbf ?_))))))))))))
 refine aR ?_
 refine nc zj (nc zZ (nc ze (nc z0 (nc zj (nc zbq (nc zbp (nc zj (nc zbq (nc zbp (nc zi (nc zu (nc zZ (nc ze (nc zbf ?_))))))))))))))
 refine ⟨.inl rfl,_,(a7 (s':=b6l s.sz (B8 s v σ).mp (B8 s v σ).sp (B8 s v σ).lk) ⟨rfl,rfl,rfl,?_,?_,?_,trivial⟩),rfl,rfl,rfl,rfl,rfl,rfl,rfl,trivial⟩
 ·unfold B8;rw [←hwas];rfl
 ·unfold B8;rw [←hwas];rfl
 ·unfold B8
  simp only
  rw [←hwas,←b4e]
  rfl
theorem a6H (s:Sc) (n:Nat) (hb:Bds s n) (hn:n≤1000000000000) (v σ:Int) (hσ:σ=1∨σ = -1):q6 Tryz.prog 129 (sst s) [.bp 350001 0 [],.val (.i v),.val (.i σ)] (.tup []) (sst (B8 s v σ)):=by
 rw [b2b (s:=B8 s v σ) (b5C _ _ _)]
 by_cases h:s.mp=[]
 ·rw [b1Z h];exact a4Z s n hb hn v σ hσ h
 ·rw [b2b h];exact a5m s n hb hn v σ hσ
end Go.Proofs.YtekboofbedakcaaGreat
