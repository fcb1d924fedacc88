/-
 SbSort SbClone SbNorm SbNorm2 SbSortM SbLaw3 SbThen UnMath UnCls UnInv UnMod UnJoin UnRun UnKahn
-/
import Derived.Test.YtglmoficcjphaaaGreatMg3
namespace Go.Proofs.YtglmoficcjphaaaGreat
open Go.RowKit
set_option linter.unusedVariables false
set_option linter.unusedSimpArgs false
set_option maxRecDepth 100000
section
variable {α:Type} (lt:α→α→Bool) (a:Nat)
def T6:Nat→List α→List α
 | 0,L=>L
 | j+1,L=>match L[j+1]?,L[j]? with
  | some x,some y=>if a<j+1∧lt x y=true then T6 j ((L.set (j+1) y).set j x) else L
  | _,_=>L
def x6:Nat→Nat→List α→List α
 | 0,_,L=>L
 | n+1,i,L=>x6 n (i+1) (T6 lt a i L)
theorem a3P:∀ (j:Nat) (L:List α),(T6 lt a j L).length=L.length
 | 0,L=>rfl
 | j+1,L=>by
  unfold T6
  split
  ·split
   ·rw [a3P j];simp
   ·rfl
  ·rfl
theorem a5r {j:Nat} {L:List α} (h:¬ a<j):T6 lt a j L=L:=by
 cases j with
 | zero=>rfl
 | succ j=>unfold T6;split<;>simp [h]
theorem a6w {j:Nat} {L:List α} {x y:α} (hx:L[j+1]?=some x) (hy:L[j]?=some y) (h:lt x y=false):T6 lt a (j+1) L=L:=by
 unfold T6;rw [hx,hy];simp [h]
theorem a3y {j:Nat} {L:List α} {x y:α} (hx:L[j+1]?=some x) (hy:L[j]?=some y) (ha:a<j+1) (h:lt x y=true):T6 lt a (j+1) L=T6 lt a j ((L.set (j+1) y).set j x):=by
 conv=>lhs;unfold T6
 rw [hx,hy];simp [h,ha]
theorem a2R:∀ (n i:Nat) (L:List α),(x6 lt a n i L).length=L.length
 | 0,_,L=>rfl
 | n+1,i,L=>by rw [x6,a2R n,a3P]
end
def ltC (cmp:Bd→Bd→Int) (x y:Bd):Bool:=decide (cmp x y<0)
theorem s6 (l:List Bd) (j:Nat) (b:Bd):(l.map Bd.cv).set j b.cw=(l.set j b).map Bd.cv:=by rw [List.map_set];rfl
theorem a1I (cmp:Bd→Bd→Int) (fc:CV) (L0:List Bd) (a b:Nat) (ha:a≤L0.length) (hb:b≤L0.length) (hn:L0.length≤1000000000) (hc:∀ W x y,L4 Tryz.prog W fc [x.cw,y.cw] (.val (.i (cmp x y)))) :
  p6 Tryz.prog 159 [(400000,.mrow 99 3 (L0.map Bd.cv))] [.sl 400000 0 L0.length 3,.val (.i a),.val (.i b),.val fc] (.tup []) [(400000,.mrow 99 3 ((x6 (ltC cmp) a (b-(a+1)) (a+1) L0).map Bd.cv))]:=by
 refine j9 Tryz.func159 Tryz.ntmps159 rfl rfl rfl rfl rfl rfl ?_
 intro w U hU
 obtain ⟨T,hT⟩:∃ T,T=x6 (ltC cmp) a (b-(a+1)) (a+1) L0:=⟨_,rfl⟩
 rw [←hT]
 refine aS (aR ?_)
 refine nc zl (nc zu (nc ze ?_))
 let st:Nat→List Bd→AS:=fun i L=>[(0,.sl 400000 0 L0.length 3),(1,.val (.i a)),(2,.val (.i b)),(3,.val fc),(8,.val (.i i)),(400000,.mrow 99 3 (L.map Bd.cv))]
 refine aB (l6 (fun m s=>∃ i L,m=(b+1)-i∧L.length=L0.length∧a+1≤i∧x6 (ltC cmp) a (b-i) i L=T∧s=st i L) (s':=st (a+1) L0) (a7 ⟨rfl,rfl,rfl,rfl,rfl,rfl,trivial⟩) ⟨a+1,L0,rfl,rfl,Nat.le_refl _,hT.symm,rfl⟩ ?_)
 rintro m s ⟨i,L,rfl,hL,hi,hI,rfl⟩
 refine aS (aS (aR ?_))
 refine nc zl (nc zl (nc zi ?_))
 refine aC rfl (fun hlt=>?_) (fun hlt=>?_)
 ·have hib:i<b:=by simpa using hlt
  refine aK ?_
  refine aS (aB (aS (aR ?_)))
  refine nc zl (nc ze ?_)
  let st2:Nat→List Bd→AS:=fun j L=>[(0,.sl 400000 0 L0.length 3),(1,.val (.i a)),(2,.val (.i b)),(3,.val fc),(8,.val (.i i)),(9,.val (.i j)),(400000,.mrow 99 3 (L.map Bd.cv))]
  refine aB (l6 (fun m s=>∃ j L',m=j∧L'.length=L0.length∧j≤i∧T6 (ltC cmp) a j L'=T6 (ltC cmp) a i L∧s=st2 j L') (s':=st2 i L) (a7 ⟨rfl,rfl,rfl,rfl,rfl,rfl,rfl,trivial⟩) ⟨i,L,rfl,hL,Nat.le_refl _,rfl,rfl⟩ ?_)
  rintro m s ⟨j,L',hmj,hL',hji,hJ,rfl⟩
  by_cases hja:a<j
  ·obtain ⟨j,rfl⟩:∃ k,j=k+1:=⟨j-1,by omega⟩
   obtain ⟨x,hx⟩:∃ x,L'[j+1]?=some x:=⟨L'[j+1]'(by omega),List.getElem?_eq_getElem (by omega)⟩
   obtain ⟨y,hy⟩:∃ y,L'[j]?=some y:=⟨L'[j]'(by omega),List.getElem?_eq_getElem (by omega)⟩
   have hx':=Bd.map_at hx
   have hy':=Bd.map_at hy
   have g:decide (((j+1:Nat):Int)>(a:Int))=true:=by simp;omega
   refine aS (aS (aD (by kernel_rfl) (by kernel_rfl) ?_))
   refine nc zl (nc zl (nc zH (nc zl (nc (zl (p:=gb)) (nc (zl (p:=gb)) (nc (zl (p:=gb)) (nc (zI (k:=j+1) (p:=gb)) (nc (zJ (r:=gb) (G:=hx')) (nc (zl (p:=gb)) (nc (zl (p:=gb)) (nc (zj (r:=gb)) (nc (zI (k:=j) (p:=gb)) (nc (zJ (r:=gb) (G:=hy')) (nc (zK (t:=gb) (E:=hc _ x y)) (nc (zi (r:=gb)) (nc zM ?_))))))))))))))))
   refine ⟨by kernel_rfl,?_⟩
   refine aC rfl (fun hc1=>?_) (fun hc1=>?_)
   ·have hlt2:ltC cmp x y=true:=hc1
    refine aK ?_
    refine AWp.wk (a7 (s':=st2 (j+1) L') ⟨rfl,rfl,rfl,rfl,rfl,rfl,rfl,trivial⟩) ?_
    refine aS (aB (aD (by kernel_rfl) (by kernel_rfl) ?_))
    refine nc zl (nc zl (nc zl (nc zl (nc zj (nc zl (nc zl (nc zj (nc (zI (k:=j)) (nc (zJ (G:=hy')) (nc zl (nc zl (nc (zI (k:=j+1)) (nc (zJ (G:=hx')) (nc (zI (k:=j+1)) (nc (zN (F:=hx')) (nc (zI (k:=j)) ?_))))))))))))))))
    refine nc (zN (F:=(by rw [List.getElem?_set_ne (by omega)];exact hy'))) ?_
    refine ⟨by kernel_rfl,?_⟩
    refine aR ?_
    refine nc zl (nc zj (nc ze ?_))
    refine ⟨j,st2 j ((L'.set (j+1) y).set j x),by omega,⟨j,_,rfl,by simp [hL'],by omega,?_,rfl⟩,a7 ⟨rfl,rfl,rfl,rfl,rfl,?_,?_,trivial⟩⟩
    ·rw [←hJ,a3y _ _ hx hy hja hlt2]
    ·show some (AV.val (.i _))=some (AV.val (.i _))
     congr 3;omega
    ·show some (AV.mrow _ _ _)=some (AV.mrow _ _ _)
     rw [s6,s6]
   ·have hlt2:ltC cmp x y=false:=hc1
    refine aE ?_
    refine AWp.wk (a7 (s':=st2 (j+1) L') ⟨rfl,rfl,rfl,rfl,rfl,rfl,rfl,trivial⟩) ?_
    refine aR ?_
    refine nc zl (nc zu (nc ze ?_))
    refine ⟨(b+1)-(i+1),st (i+1) L',by omega,⟨i+1,L',rfl,hL',by omega,?_,rfl⟩,a7 ⟨rfl,rfl,rfl,rfl,rfl,rfl,trivial⟩⟩
    have hs:L'=T6 (ltC cmp) a i L:=by rw [←hJ,a6w _ _ hx hy hlt2]
    rw [←hI,show b-i=(b-(i+1))+1 by omega,x6,hs]
  ·have g:decide ((j:Int)>(a:Int))=false:=by simp;omega
   refine aS (aS (aD (by kernel_rfl) (by kernel_rfl) ?_))
   refine nc zl (nc zl (nc zH (nc zl (nc zO (nc zO (nc zO (nc zO (nc zO (nc zO (nc zO (nc zO (nc zO (nc zO (nc zO (nc zO (nc zP ?_))))))))))))))))
   refine ⟨by kernel_rfl,?_⟩
   refine aC rfl (fun hc1=>?_) (fun hc1=>?_)
   ·cases hc1
   ·refine aE ?_
    refine AWp.wk (a7 (s':=st2 (j) L') ⟨rfl,rfl,rfl,rfl,rfl,rfl,rfl,trivial⟩) ?_
    refine aR ?_
    refine nc zl (nc zu (nc ze ?_))
    refine ⟨(b+1)-(i+1),st (i+1) L',by omega,⟨i+1,L',rfl,hL',by omega,?_,rfl⟩,a7 ⟨rfl,rfl,rfl,rfl,rfl,rfl,trivial⟩⟩
    have hs:L'=T6 (ltC cmp) a i L:=by rw [←hJ,a5r _ _ hja]
    rw [←hI,show b-i=(b-(i+1))+1 by omega,x6,hs]
 ·have hib:¬ i<b:=by simpa using hlt
  refine aE ?_
  refine ⟨.inl rfl,_,Wk.refl _,rfl,?_,trivial⟩
  show some (AV.mrow _ _ _)=some (AV.mrow _ _ _)
  rw [show b-i=0 by omega] at hI
  rw [←hI]
  rfl
theorem a2J (W:World) (x y:Int):AFun Tryz.prog W 120 [.i x,.i y] (.val (.i (y7 x y))):=by
 refine ⟨C1 Tryz.func120 rfl rfl,.inl rfl,rfl,?_⟩
 rintro U w vs hW ⟨u1,us1,rfl,h1,u2,us2,rfl,h2,h3⟩
 have h3:us2=[]:=h3
 subst h3
 obtain ⟨rfl,_⟩:=l8.1 h1
 obtain ⟨rfl,_⟩:=l8.1 h2
 refine (J4 x y w).mono ?_
 rintro e w' ⟨rfl,hb⟩
 exact ⟨_,rfl,l8.2 ⟨rfl,rfl⟩,hb⟩
def a8r (x y:Bd):Int:=y7 x.v y.v
theorem b3V (W:World) (x y:Bd):AFun Tryz.prog W 134 [x.cw,y.cw] (.val (.i (a8r x y))):=by
 refine b6 (rs:=[.i (a8r x y)]) Tryz.func134 Tryz.ntmps134 rfl rfl rfl rfl ?_
 intro w U hW
 refine aS (aR ?_)
 refine nc zd (nc zd (nc ze ?_))
 refine aS (aR ?_)
 refine nc zg (nc zh (nc zg (nc zh (nc (zw (z:=a2J _ x.v y.v)) (nc ze ?_)))))
 exact aT ⟨.inr rfl,rfl⟩
theorem b1D (W:World) (x y:Bd):AFun Tryz.prog W 136 [x.cw,y.cw] (.val (.b (decide (x.v=y.v)))):=by
 refine b6 (rs:=[.b (decide (x.v=y.v))]) Tryz.func136 Tryz.ntmps136 rfl rfl rfl rfl ?_
 intro w U hW
 refine aS (aR ?_)
 refine nc zd (nc zd (nc ze ?_))
 refine aS (aR ?_)
 refine nc zg (nc zh (nc zg (nc zh (nc zt (nc ze ?_)))))
 exact aT ⟨.inr rfl,rfl⟩
def Q3 (b:Bd):Bool:=decide (b.t.f<0)&&decide (-1-b.t.f=b.v)
theorem b4h (W:World) (b:Bd) (h1 : -9223372036854775808≤b.t.f):AFun Tryz.prog W 109 [b.cw] (.val (.b (Q3 b))):=by
 refine b6 (rs:=[.b (Q3 b)]) Tryz.func109 Tryz.ntmps109 rfl rfl rfl rfl ?_
 intro w U hW
 refine aS (aR ?_)
 refine nc zd (nc ze ?_)
 unfold Q3
 by_cases hf:b.t.f<0
 ·have g:decide (b.t.f<0)=true:=by simpa using hf
  refine aS (aD (by kernel_rfl) (by kernel_rfl) ?_)
  refine nc zg (nc zh (nc (zw (z:=Q7 _ b.t)) (nc zl (nc (zg (r:=gb)) (nc (zh (r:=gb)) (nc (zw (p:=gb) (z:=S5 _ b.t h1 hf)) (nc (zg (r:=gb)) (nc (zh (r:=gb)) (nc (zt (r:=gb)) (nc zM (nc ze ?_)))))))))))
  refine ⟨by kernel_rfl,?_⟩
  refine aT ⟨.inr rfl,?_⟩
  rw [g];rfl
 ·have g:decide (b.t.f<0)=false:=by simpa using hf
  refine aS (aD (by kernel_rfl) (by kernel_rfl) ?_)
  refine nc zg (nc zh (nc (zw (z:=Q7 _ b.t)) (nc zl (nc zO (nc zO (nc zO (nc zO (nc zO (nc zO (nc zP (nc ze ?_)))))))))))
  refine ⟨by kernel_rfl,?_⟩
  refine aT ⟨.inr rfl,?_⟩
  rw [g];rfl
theorem a8P (L:List Bd) (hn:L.length≤1000000000) :
  p6 Tryz.prog 132 [] [.val (.lst (L.map Bd.cv))] (.sl 250007 0 L.length 3) [(250007,.mrow 99 3 (L.map Bd.cv))]:=by
 have hsz:=Bd.size_all L
 refine j9 Tryz.func132 Tryz.ntmps132 rfl rfl rfl rfl rfl rfl ?_
 intro w U hU
 refine AWp.nil 0 rfl rfl (fun hl=>?_) ?_
 ·have hL:L=[]:=by simpa using hl
  subst hL
  refine aS (aR ?_)
  refine nc ze ?_
  refine aS (aS (aR ?_))
  refine nc zl (nc zQ ?_)
  refine aC rfl (fun _=>?_) (fun h=>by cases h)
  refine aS (aR ?_)
  refine nc ze ?_
  exact aT ⟨.inr rfl,_,b6l 2 250007 99 3 rfl rfl rfl rfl rfl,rfl,rfl,trivial⟩
 ·refine aS (aR ?_)
  refine nc ze ?_
  refine aS (aS (aR ?_))
  refine nc zl (nc zR ?_)
  refine aC rfl (fun h=>by cases h) (fun _=>?_)
  refine aK ?_
  refine AWp.wk ((b9c 0 rfl rfl).trans (a7 (s':=[(0,.val (.lst (L.map Bd.cv)))]) ⟨rfl,trivial⟩)) ?_
  refine aS (aR ?_)
  refine nc zS (nc zl (nc (zU 250007) (nc ze ?_)))
  refine aT ⟨.inr rfl,_,Wk.refl _,?_,rfl,trivial⟩
  show some (AV.sl _ _ _ _)=some (AV.sl _ _ _ _)
  rw [List.length_map]
  rfl
def a6o (q:Bd→Bool):List Bd→Nat→Int
 | [],_ => -1
 | b::l,i=>if q b then (i:Int) else a6o q l (i+1)
theorem a1F {q:Bd→Bool}:∀ {l:List Bd} {i:Nat},(∀ b∈l,q b=false)→a6o q l i = -1
 | [],_,_=>rfl
 | b::l,i,h=>by rw [a6o,h b (by simp),if_neg (by simp)];exact a1F fun c hc=>h c (List.mem_cons_of_mem _ hc)
theorem a5O {q:Bd→Bool}:∀ {l:List Bd} {i k:Nat} {b:Bd},l[k]?=some b→q b=true→(∀ j c,j<k→l[j]?=some c→q c=false)→a6o q l i=((i+k:Nat):Int)
 | [],_,_,_,h,_,_=>by simp at h
 | x::l,i,0,b,h,hq,_=>by simp at h;subst h;rw [a6o,if_pos hq];rfl
 | x::l,i,k+1,b,h,hq,hf=>by
  rw [a6o,hf 0 x (by omega) rfl,if_neg (by simp),a5O (k:=k) (by simpa using h) hq fun j c hj hc=>hf (j+1) c (by omega) (by simpa using hc)]
  congr 1;omega
theorem a9o (q:Bd→Bool) (fc:CV) (L:List Bd) (n:Nat) (hnl:n≤L.length) (hn:L.length≤1000000000) (hc:∀ W x,x∈L.take n→L4 Tryz.prog W fc [x.cw] (.val (.b (q x)))) :
  p6 Tryz.prog 131 [(400000,.mrow 99 3 (L.map Bd.cv))] [.sl 400000 0 n 3,.val fc] (.val (.i (a6o q (L.take n) 0))) [(400000,.mrow 99 3 (L.map Bd.cv))]:=by
 refine j9 Tryz.func131 Tryz.ntmps131 rfl rfl rfl rfl rfl rfl ?_
 intro w U hU
 refine aS (aR ?_)
 refine nc ze ?_
 refine aS (aS (aR ?_))
 refine nc zl (nc zV (nc zl ?_))
 refine aB (y0 n (fun k=>∀ j c,j<k→(L.take n)[j]?=some c→q c=false) (fun k=>[(0,.sl 400000 0 n 3),(1,.val fc),(7,.val (.i n)),(8,.val (.i k)),(400000,.mrow 99 3 (L.map Bd.cv))]) (a7 ⟨rfl,rfl,rfl,rfl,rfl,trivial⟩) (fun j c hj=>by omega) ?_)
 intro k hk hI
 refine aS (aR ?_)
 refine nc zi ?_
 refine aS (aC rfl (fun hlt=>?_) (fun hlt=>?_))
 ·have hkl:k<n:=by simpa using hlt
  obtain ⟨x,hx0⟩:∃ x,L[k]?=some x:=⟨L[k]'(by omega),List.getElem?_eq_getElem (by omega)⟩
  have hx:(L.take n)[k]?=some x:=by rw [List.getElem?_take,if_pos hkl];exact hx0
  have hx':=Bd.map_at hx0
  refine aK ?_
  refine aS (aB (aS (aR ?_)))
  refine nc zl (nc ze ?_)
  refine aS (aR ?_)
  refine nc zl (nc zl (nc zl (nc (zI (k:=k)) (nc (zJ (G:=hx')) (nc (zK (E:=hc _ x (List.mem_of_getElem? hx))) ?_)))))
  refine aC rfl (fun hq=>?_) (fun hq=>?_)
  ·refine aS (aR ?_)
   refine nc zl (nc ze ?_)
   refine aT ⟨.inr rfl,_,Wk.refl _,?_,rfl,trivial⟩
   rw [a5O hx hq hI,Nat.zero_add]
   rfl
  ·refine aK ?_
   refine aR ?_
   refine nc zu (nc zl ?_)
   refine ⟨hkl,fun j c hj hc=>?_,a7 ⟨rfl,rfl,rfl,rfl,rfl,trivial⟩⟩
   rcases Nat.lt_or_ge j k with h | h
   ·exact hI j c h hc
   ·have:j=k:=by omega
    subst this
    rw [hx] at hc
    cases hc
    exact hq
 ·have hkl:¬ k<n:=by simpa using hlt
  refine aE ?_
  refine aS (aR ?_)
  refine nc ze ?_
  refine aT ⟨.inr rfl,_,Wk.refl _,?_,rfl,trivial⟩
  rw [a1F fun b hb=>?_]
  ·rfl
  ·obtain ⟨j,hj⟩:=List.getElem?_of_mem hb
   have hjl:j<n:=by
    rw [List.getElem?_take] at hj
    split at hj
    ·assumption
    ·cases hj
   exact hI j b (by omega) hj
def Bd.zero:Bd:=⟨0,⟨0,[]⟩⟩
def E4 (q:Bd→Bd→Bool) (L:List Bd):Nat→List Bd
 | 0=>[]
 | m+1=>match L[m]?,(match m with | 0=>none | k+1=>L[k]?) with
  | some x,some y=>if q x y then E4 q L m else E4 q L m++[x]
  | some x,none=>E4 q L m++[x]
  | none,_=>E4 q L m
theorem a0I {q:Bd→Bd→Bool} {L:List Bd} {m:Nat} {x y:Bd} (hx:L[m+1]?=some x) (hy:L[m]?=some y) (h:q x y=true):E4 q L (m+2)=E4 q L (m+1):=by
 rw [E4];simp only [hx,hy,h,if_true]
theorem a3u {q:Bd→Bd→Bool} {L:List Bd} {m:Nat} {x y:Bd} (hx:L[m+1]?=some x) (hy:L[m]?=some y) (h:q x y=false):E4 q L (m+2)=E4 q L (m+1)++[x]:=by
 rw [E4];simp [hx,hy,h]
theorem a7V {q:Bd→Bd→Bool} {L:List Bd}:E4 q L 1=L.take 1:=by
 rw [E4]
 cases L with
 | nil=>rfl
 | cons x l=>simp [E4]
theorem G5 {α:Type} {l:List α} {k:Nat} {x:α} (h:l[k]?=some x):l.take (k+1)=l.take k++[x]:=by
 rw [List.take_add_one,h];rfl
theorem a7F {α:Type} {l:List α} {k:Nat} {x:α} (h:k<l.length):(l.set k x).take (k+1)=l.take k++[x]:=by
 rw [G5 (x:=x) (by simp [h]),List.take_set_of_le (Nat.le_refl _)]
theorem a6S (q:Bd→Bd→Bool) (fc:CV) (L:List Bd) (hn:L.length≤1000000000) (hc:∀ W x y,L4 Tryz.prog W fc [x.cw,y.cw] (.val (.b (q x y)))) :
  p6 Tryz.prog 135 [(400000,.mrow 99 3 (L.map Bd.cv))] [.sl 400000 0 L.length 3,.val fc] (.sl 400000 0 (E4 q L L.length).length 3) [(400000,.mrow 99 3 ((E4 q L L.length++List.replicate (L.length-(E4 q L L.length).length) Bd.zero).map Bd.cv))]:=by
 refine j9 Tryz.func135 Tryz.ntmps135 rfl rfl rfl rfl rfl rfl ?_
 intro w U hU
 have hwhole:E4 q L L.length=L→(E4 q L L.length).length=L.length∧(E4 q L L.length++List.replicate (L.length-(E4 q L L.length).length) Bd.zero)=L:=fun h=>by rw [h];simp
 refine aS (aR ?_)
 refine nc ze ?_
 refine aS (aS (aR ?_))
 refine nc zl (nc zV (nc zi ?_))
 refine aC rfl (fun h2=>?_) (fun h2=>?_)
 ·have h2:L.length<2:=by have h2:decide ((L.length:Int)<2)=true:=h2;simp at h2;omega
  have hw:=hwhole (by
   match L,h2 with
   | [],_=>rfl
   | [x],_=>rfl)
  refine aS (aR ?_)
  refine nc zl (nc ze ?_)
  refine aT ⟨.inr rfl,_,Wk.refl _,?_,?_,trivial⟩
  ·rw [hw.1];rfl
  ·rw [hw.2];rfl
 ·have h2:2≤L.length:=by have h2:decide ((L.length:Int)<2)=false:=h2;simp at h2;omega
  refine aK ?_
  refine aS (aS (aR ?_))
  refine nc ze ?_
  let st:Nat→AS:=fun k=>[(0,.sl 400000 0 L.length 3),(1,.val fc),(5,.val (.i ((k+1:Nat):Int))),(400000,.mrow 99 3 (L.map Bd.cv))]
  refine aB (y0 L.length (fun k=>k+1≤L.length∧E4 q L (k+1)=L.take (k+1)) st (a7 ⟨rfl,rfl,rfl,rfl,trivial⟩) ⟨by omega,a7V⟩ ?_)
  rintro k hk ⟨hk1,hI⟩
  refine aS (aS (aR ?_))
  refine nc zl (nc zl (nc zV (nc zi ?_)))
  refine aC rfl (fun hlt=>?_) (fun hlt=>?_)
  ·have hkl:k+1<L.length:=by have h3:decide ((((k+1:Nat):Int))<(L.length:Int))=true:=hlt;simp at h3;omega
   obtain ⟨x,hx⟩:∃ x,L[k+1]?=some x:=⟨L[k+1],List.getElem?_eq_getElem hkl⟩
   obtain ⟨y,hy⟩:∃ y,L[k]?=some y:=⟨L[k]'(by omega),List.getElem?_eq_getElem (by omega)⟩
   have hx':=Bd.map_at hx
   have hy':=Bd.map_at hy
   refine aK ?_
   refine aS (aB (aS (aD (by kernel_rfl) (by kernel_rfl) ?_)))
   refine nc zl (nc zl (nc zl (nc (zI (k:=k+1)) (nc (zJ (G:=hx')) (nc zl (nc zl (nc zj (nc (zI (k:=k)) (nc (zJ (G:=hy')) (nc (zK (E:=hc _ x y)) ?_))))))))))
   refine ⟨by kernel_rfl,?_⟩
   refine aC rfl (fun hq=>?_) (fun hq=>?_)
   ·have hq:q x y=true:=hq
    refine AWp.wk (a7 (s':=st k) ⟨rfl,rfl,rfl,rfl,trivial⟩) ?_
    refine aS (aR ?_)
    refine nc zl (nc zl (nc (zW (j:=k+1)) (nc ze ?_)))
    refine aS (aS (aR ?_))
    refine nc ze ?_
    let st2:Nat→Nat→List Bd→AS:=fun j kk C=>[(0,.sl 400000 0 L.length 3),(1,.val fc),(5,.val (.i kk)),(6,.sl 400000 (0+(k+1)) (L.length-(k+1)) 3),(7,.val (.i ((j+1:Nat):Int))),(400000,.mrow 99 3 (C.map Bd.cv))]
    have h0:E4 q L (k+2)=L.take (k+1):=by rw [a0I hx hy hq,hI]
    refine aB (l6 (fun m s=>∃ j kk C,m=L.length-j∧k+1+(j+1)≤L.length∧kk≤k+1+j∧C.length=L.length∧C.take kk=E4 q L (k+1+(j+1))∧(∀ i,k+1+j≤i→C[i]?=L[i]?)∧s=st2 j kk C) (s':=st2 0 (k+1) L) (a7 ⟨rfl,rfl,rfl,rfl,rfl,rfl,trivial⟩) ⟨0,k+1,L,rfl,by omega,by omega,rfl,h0.symm,fun _ _=>rfl,rfl⟩ ?_)
    rintro m s ⟨j,kk,C,hm,hj1,hj2,hC,hI1,hI2,rfl⟩
    refine aS (aS (aR ?_))
    refine nc zl (nc zl (nc zV (nc zi ?_)))
    refine aC rfl (fun hlt2=>?_) (fun hlt2=>?_)
    ·have hjl:k+1+(j+1)<L.length:=by have h3:decide ((((j+1:Nat):Int))<((L.length-(k+1):Nat):Int))=true:=hlt2;simp at h3;omega
     obtain ⟨x2,hx2⟩:∃ x,L[k+1+(j+1)]?=some x:=⟨L[k+1+(j+1)],List.getElem?_eq_getElem hjl⟩
     obtain ⟨y2,hy2⟩:∃ y,L[k+1+j]?=some y:=⟨L[k+1+j]'(by omega),List.getElem?_eq_getElem (by omega)⟩
     have hx2':=Bd.map_at ((hI2 _ (by omega)).trans hx2)
     have hy2':=Bd.map_at ((hI2 _ (by omega)).trans hy2)
     refine aK ?_
     refine aS (aB (aS (aD (by kernel_rfl) (by kernel_rfl) ?_)))
     refine nc zl (nc zl (nc zl (nc (zI (k:=k+1+(j+1))) (nc (zJ (G:=hx2')) (nc zl (nc zl (nc zj (nc (zI (k:=k+1+j)) (nc (zJ (G:=hy2')) (nc (zK (E:=hc _ x2 y2)) (nc zX ?_)))))))))))
     refine ⟨by kernel_rfl,?_⟩
     refine aC rfl (fun hq2=>?_) (fun hq2=>?_)
     ·have hq2:q x2 y2=false:=by simpa using hq2
      refine AWp.wk (a7 (s':=st2 j kk C) ⟨rfl,rfl,rfl,rfl,rfl,rfl,trivial⟩) ?_
      obtain ⟨z2,hz2⟩:∃ z,C[kk]?=some z:=⟨C[kk]'(by omega),List.getElem?_eq_getElem (by omega)⟩
      have hz2':=Bd.map_at hz2
      refine aS (aR ?_)
      refine nc zl (nc zl (nc zl (nc zl (nc (zI (k:=k+1+(j+1))) (nc (zJ (G:=hx2')) (nc (zI (k:=kk)) (nc (zN (F:=hz2')) ?_)))))))
      refine aR ?_
      refine nc zl (nc zu (nc ze ?_))
      refine aR ?_
      refine nc zl (nc zu (nc ze ?_))
      refine ⟨L.length-(j+1),st2 (j+1) (kk+1) (C.set kk x2),by omega,⟨j+1,kk+1,C.set kk x2,rfl,by omega,by omega,by simp [hC],?_,fun i hi=>?_,rfl⟩,a7 ⟨rfl,rfl,rfl,rfl,rfl,?_,trivial⟩⟩
      ·rw [a7F (by omega),hI1,show k+1+(j+1+1)=(k+1+j)+2 by omega,a3u (m:=k+1+j) hx2 hy2 hq2];rfl
      ·rw [List.getElem?_set_ne (by omega)];exact hI2 i (by omega)
      ·show some (AV.mrow _ _ _)=some (AV.mrow _ _ _)
       rw [s6]
     ·have hq2:q x2 y2=true:=by simpa using hq2
      refine aK ?_
      refine AWp.wk (a7 (s':=st2 j kk C) ⟨rfl,rfl,rfl,rfl,rfl,rfl,trivial⟩) ?_
      refine aR ?_
      refine nc zl (nc zu (nc ze ?_))
      refine ⟨L.length-(j+1),st2 (j+1) kk C,by omega,⟨j+1,kk,C,rfl,by omega,by omega,hC,?_,fun i hi=>hI2 i (by omega),rfl⟩,a7 ⟨rfl,rfl,rfl,rfl,rfl,rfl,trivial⟩⟩
      rw [hI1,show k+1+(j+1+1)=(k+1+j)+2 by omega,a0I (m:=k+1+j) hx2 hy2 hq2];rfl
    ·have hjl:k+1+(j+1)=L.length:=by have h3:decide ((((j+1:Nat):Int))<((L.length-(k+1):Nat):Int))=false:=hlt2;simp at h3;omega
     refine aE ?_
     refine AWp.wk (a7 (s':=st2 j kk C) ⟨rfl,rfl,rfl,rfl,rfl,rfl,trivial⟩) ?_
     refine aS (aR ?_)
     refine nc zl (nc zl (nc (zW (j:=kk)) (nc zY ?_)))
     refine aS (aR ?_)
     refine nc zl (nc zl (nc (zZ (j:=kk)) (nc ze ?_)))
     rw [hjl] at hI1
     have hkk:kk=(E4 q L L.length).length:=by rw [←hI1];simp;omega
     refine aT ⟨.inr rfl,_,Wk.refl _,?_,?_,trivial⟩
     ·rw [←hkk];rfl
     ·show some (AV.mrow _ _ _)=some (AV.mrow _ _ _)
      rw [←hkk,←hI1,List.map_append,←List.map_take,List.map_replicate]
      simp only [Nat.zero_add]
      rw [show kk+(L.length-kk)=(C.map Bd.cv).length by simp;omega,List.drop_length,List.append_nil]
      rfl
   ·have hq:q x y=false:=hq
    refine aK ?_
    refine AWp.wk (a7 (s':=st k) ⟨rfl,rfl,rfl,rfl,trivial⟩) ?_
    refine aR ?_
    refine nc zl (nc zu (nc ze ?_))
    refine ⟨by omega,⟨by omega,?_⟩,a7 ⟨rfl,rfl,rfl,rfl,trivial⟩⟩
    rw [a3u hx hy hq,hI,G5 hx]
  ·have hkl:k+1=L.length:=by have h3:decide ((((k+1:Nat):Int))<(L.length:Int))=false:=hlt;simp at h3;omega
   refine aE ?_
   rw [hkl,List.take_length] at hI
   have hw:=hwhole hI
   refine aS (aR ?_)
   refine nc zl (nc ze ?_)
   refine aT ⟨.inr rfl,_,Wk.refl _,?_,?_,trivial⟩
   ·rw [hw.1];rfl
   ·rw [hw.2];rfl
theorem a8M (q:Bd→Bool) (L:List Bd):(a6o q L 0 = -1∧L.filter (fun b=>!q b)=L)∨∃ (i:Nat) (b:Bd),a6o q L 0=(i:Int)∧L[i]?=some b∧q b=true∧(L.take (i+1)).filter (fun b=>!q b)=L.take i:=by
 by_cases h:∃ b∈L,q b=true
 ·right
  obtain ⟨k,hk,hmin⟩:=b5X (fun k=>∃ b,L[k]?=some b∧q b=true) (by
   obtain ⟨b,hb,hq⟩:=h
   obtain ⟨j,hj⟩:=List.getElem?_of_mem hb
   exact ⟨j,b,hj,hq⟩)
  obtain ⟨b,hb,hq⟩:=hk
  have hf:∀ j c,j<k→L[j]?=some c→q c=false:=fun j c hj hc=>by
   cases hqc:q c with
   | false=>rfl
   | true=>have:=hmin j ⟨c,hc,hqc⟩;omega
  refine ⟨k,b,by rw [a5O hb hq hf,Nat.zero_add],hb,hq,?_⟩
  rw [G5 hb,List.filter_append]
  have e1:(L.take k).filter (fun b=>!q b)=L.take k:=by
   rw [List.filter_eq_self]
   intro c hc
   obtain ⟨j,hj⟩:=List.getElem?_of_mem hc
   rw [List.getElem?_take] at hj
   split at hj
   ·rename_i hjk
    rw [hf j c hjk hj];rfl
   ·cases hj
  rw [e1]
  simp [hq]
 ·left
  have hf:∀ b∈L,q b=false:=fun b hb=>by
   cases hqc:q b with
   | false=>rfl
   | true=>exact absurd ⟨b,hb,hqc⟩ h
  refine ⟨a1F hf,?_⟩
  rw [List.filter_eq_self]
  intro c hc
  rw [hf c hc];rfl
theorem a9t (q:Bd→Bool) (fc:CV) (L:List Bd) (n:Nat) (hnl:n≤L.length) (hn:L.length≤1000000000) (hc:∀ W x,x∈L.take n→L4 Tryz.prog W fc [x.cw] (.val (.b (q x)))) :
  p6 Tryz.prog 107 [(400000,.mrow 99 3 (L.map Bd.cv))] [.sl 400000 0 n 3,.val fc] (.sl 400000 0 ((L.take n).filter (fun b=>!q b)).length 3) [(400000,.mrow 99 3 (((L.take n).filter (fun b=>!q b)++(List.replicate (n-((L.take n).filter (fun b=>!q b)).length) Bd.zero++L.drop n)).map Bd.cv))]:=by
 refine j9 Tryz.func107 Tryz.ntmps107 rfl rfl rfl rfl rfl rfl ?_
 intro w U hU
 obtain ⟨R,hR⟩:∃ R,R=(L.take n).filter (fun b=>!q b):=⟨_,rfl⟩
 rw [←hR]
 have hidx:=a9o q fc L n hnl hn hc
 refine aS (aR ?_)
 refine nc ze ?_
 refine aS (aR ?_)
 refine nc zl (nc zl (nc (z0 (z:=hidx) (G:=c9 (by first | rfl | kernel_rfl))) (nc ze ?_)))
 refine aS (aS (aR ?_))
 refine nc zl (nc zt ?_)
 rcases a8M q (L.take n) with ⟨hi,hf⟩ | ⟨i,b,hi,hb,hqb,hf⟩
 ·rw [←hR] at hf
  have hl:R.length=n:=by rw [hf];simp;omega
  refine aC rfl (fun _=>?_) (fun h=>?_)
  ·refine aS (aR ?_)
   refine nc zl (nc ze ?_)
   refine aT ⟨.inr rfl,_,Wk.refl _,?_,?_,trivial⟩
   ·rw [hl];rfl
   ·rw [hl,Nat.sub_self,List.replicate_zero,List.nil_append,hf,List.take_append_drop];rfl
  ·have h:decide (a6o q (L.take n) 0 = -1)=false:=h
   rw [hi] at h
   cases h
 ·have hin:i<n:=by
   rw [List.getElem?_take] at hb
   split at hb
   ·assumption
   ·cases hb
  rw [List.take_take,Nat.min_eq_left (by omega),List.take_take,Nat.min_eq_left (by omega)] at hf
  refine aC rfl (fun h=>?_) (fun _=>?_)
  ·have h:decide (a6o q (L.take n) 0 = -1)=true:=h
   rw [hi] at h
   simp at h
  refine aK ?_
  refine AWp.wk (a7 (s':=[(0,.sl 400000 0 n 3),(1,.val fc),(5,.val (.i i)),(400000,.mrow 99 3 (L.map Bd.cv))]) ⟨rfl,rfl,by rw [←hi];rfl,rfl,trivial⟩) ?_
  refine aS (aS (aR ?_))
  refine nc zl (nc zu (nc ze ?_))
  let st:Nat→Nat→List Bd→AS:=fun j ii C=>[(0,.sl 400000 0 n 3),(1,.val fc),(5,.val (.i ii)),(6,.val (.i ((j+1:Nat):Int))),(400000,.mrow 99 3 (C.map Bd.cv))]
  refine aB (l6 (fun m s=>∃ j ii C,m=n-j∧j+1≤n∧ii≤j∧C.length=L.length∧C.take ii=(L.take (j+1)).filter (fun b=>!q b)∧(∀ p,j+1≤p→C[p]?=L[p]?)∧s=st j ii C) (s':=st i i L) (a7 ⟨rfl,rfl,rfl,rfl,rfl,trivial⟩) ⟨i,i,L,rfl,by omega,Nat.le_refl _,rfl,hf.symm,fun _ _=>rfl,rfl⟩ ?_)
  rintro m s ⟨j,ii,C,hm,hj1,hj2,hC,hI1,hI2,rfl⟩
  refine aS (aS (aR ?_))
  refine nc zl (nc zl (nc zV (nc zi ?_)))
  refine aC rfl (fun hlt=>?_) (fun hlt=>?_)
  ·have hjl:j+1<n:=by have h3:decide ((((j+1:Nat):Int))<(n:Int))=true:=hlt;simp at h3;omega
   obtain ⟨x,hx⟩:∃ x,L[j+1]?=some x:=⟨L[j+1]'(by omega),List.getElem?_eq_getElem (by omega)⟩
   have hx':=Bd.map_at ((hI2 _ (by omega)).trans hx)
   have hxm:x∈L.take n:=List.mem_of_getElem? (i:=j+1) (by rw [List.getElem?_take,if_pos hjl];exact hx)
   refine aK ?_
   refine aS (aB (aS (aR ?_)))
   refine nc zl (nc zl (nc (zI (k:=j+1)) (nc (zJ (G:=hx')) (nc zk (nc zo ?_)))))
   refine aS (aR ?_)
   refine nc zl (nc zy (nc (zK (E:=hc _ x hxm)) (nc zX ?_)))
   refine aC rfl (fun hq=>?_) (fun hq=>?_)
   ·have hq:q x=false:=by simpa using hq
    obtain ⟨z,hz⟩:∃ z,C[ii]?=some z:=⟨C[ii]'(by omega),List.getElem?_eq_getElem (by omega)⟩
    have hz':=Bd.map_at hz
    refine aS (aR ?_)
    refine nc zl (nc zl (nc zy (nc (zI (k:=ii)) (nc (zN (F:=hz')) ?_))))
    refine aR ?_
    refine nc zl (nc zu (nc ze ?_))
    refine aR ?_
    refine nc zl (nc zu (nc ze ?_))
    refine ⟨n-(j+1),st (j+1) (ii+1) (C.set ii x),by omega,⟨j+1,ii+1,C.set ii x,rfl,by omega,by omega,by simp [hC],?_,fun p hp=>?_,rfl⟩,a7 ⟨rfl,rfl,rfl,rfl,?_,trivial⟩⟩
    ·rw [a7F (by omega),hI1,G5 (k:=j+1) hx,List.filter_append]
     simp [hq]
    ·rw [List.getElem?_set_ne (by omega)];exact hI2 p (by omega)
    ·show some (AV.mrow _ _ _)=some (AV.mrow _ _ _)
     rw [s6]
   ·have hq:q x=true:=by simpa using hq
    refine aK ?_
    refine AWp.wk (a7 (s':=st j ii C) ⟨rfl,rfl,rfl,rfl,rfl,trivial⟩) ?_
    refine aR ?_
    refine nc zl (nc zu (nc ze ?_))
    refine ⟨n-(j+1),st (j+1) ii C,by omega,⟨j+1,ii,C,rfl,by omega,by omega,hC,?_,fun p hp=>hI2 p (by omega),rfl⟩,a7 ⟨rfl,rfl,rfl,rfl,rfl,trivial⟩⟩
    rw [hI1,G5 (k:=j+1) hx,List.filter_append]
    simp [hq]
  ·have hjl:j+1=n:=by have h3:decide ((((j+1:Nat):Int))<(n:Int))=false:=hlt;simp at h3;omega
   refine aE ?_
   refine AWp.wk (a7 (s':=st j ii C) ⟨rfl,rfl,rfl,rfl,rfl,trivial⟩) ?_
   refine aS (aR ?_)
   refine nc zl (nc zl (nc (zW (j:=ii)) (nc zY ?_)))
   refine aS (aR ?_)
   refine nc zl (nc zl (nc (zZ (j:=ii)) (nc ze ?_)))
   rw [hjl,←hR] at hI1
   have hkk:ii=R.length:=by rw [←hI1];simp;omega
   have hdrop:C.drop n=L.drop n:=by
    apply List.ext_getElem?
    intro p
    rw [List.getElem?_drop,List.getElem?_drop]
    exact hI2 _ (by omega)
   refine aT ⟨.inr rfl,_,Wk.refl _,?_,?_,trivial⟩
   ·rw [←hkk];rfl
   ·show some (AV.mrow _ _ _)=some (AV.mrow _ _ _)
    rw [←hkk,←hI1,←hdrop,List.map_append,←List.map_take,List.map_append,List.map_replicate]
    simp only [Nat.zero_add]
    rw [show ii+(n-ii)=n by omega,List.map_drop]
    rfl
def a2b (x y:Bd):Bool:=decide (x.v=y.v)
def L7 (L:List Bd):List Bd:=x6 (ltC a8r) 0 (L.length-1) 1 L
def p9 (L:List Bd):List Bd:=E4 a2b (L7 L) (L7 L).length
def Bd.strip (b:Bd):Bd:=⟨b.v,b.t.strip⟩
def t6 (L:List Bd):List Bd:=((p9 L).filter fun b=>!Q3 b).map Bd.strip
theorem I4 (L:List Bd):(L7 L).length=L.length:=a2R _ _ _ _ _
theorem a5w {q:Bd→Bd→Bool} {L:List Bd} (n:Nat):E4 q L (n+1)=E4 q L n∨∃ x,L[n]?=some x∧E4 q L (n+1)=E4 q L n++[x]:=by
 cases n with
 | zero =>
  cases L with
  | nil=>left;rfl
  | cons x l=>right;exact ⟨x,rfl,rfl⟩
 | succ m =>
  cases hx:L[m+1]? with
  | none=>left;rw [E4];simp only [hx]
  | some x =>
   cases hy:L[m]? with
   | none=>right;exact ⟨x,rfl,by rw [E4];simp only [hx,hy]⟩
   | some y =>
    cases hq:q x y with
    | true=>left;exact a0I hx hy hq
    | false=>right;exact ⟨x,rfl,a3u hx hy hq⟩
theorem a3U {q:Bd→Bd→Bool} {L:List Bd}:∀ {n:Nat} {x:Bd},x∈E4 q L n→x∈L
 | 0,x,h=>by simp [E4] at h
 | n+1,x,h=>by
  rcases a5w (q:=q) (L:=L) n with e | ⟨y,h1,e⟩
  ·rw [e] at h;exact a3U h
  ·rw [e] at h
   rcases List.mem_append.1 h with h | h
   ·exact a3U h
   ·rw [List.mem_singleton.1 h];exact List.mem_of_getElem? h1
theorem a8n {q:Bd→Bd→Bool} {L:List Bd}:∀ {n:Nat},(E4 q L n).length≤n
 | 0=>Nat.le_refl _
 | n+1=>by
  have ih:=a8n (q:=q) (L:=L) (n:=n)
  rcases a5w (q:=q) (L:=L) n with e | ⟨y,h1,e⟩
  ·rw [e];omega
  ·rw [e];simp;omega
theorem a7B {lt:Bd→Bd→Bool} {a:Nat}:∀ {j:Nat} {L:List Bd} {z:Bd},z∈T6 lt a j L↔z∈L
 | 0,L,z=>Iff.rfl
 | j+1,L,z=>by
  rw [T6]
  split
  ·rename_i x y hx hy
   split
   ·rw [a7B]
    have hj:j+1<L.length:=by
     rcases Nat.lt_or_ge (j+1) L.length with h | h
     ·exact h
     ·rw [List.getElem?_eq_none h] at hx;cases hx
    have hxe:L[j+1]=x:=by rw [List.getElem?_eq_getElem hj] at hx;exact Option.some.inj hx
    have hye:L[j]'(by omega)=y:=by rw [List.getElem?_eq_getElem (by omega)] at hy;exact Option.some.inj hy
    constructor
    ·intro h
     rcases Z1 h with h | rfl
     ·rcases Z1 h with h | rfl
      ·exact h
      ·exact List.mem_of_getElem? hy
     ·exact List.mem_of_getElem? hx
    ·intro h
     obtain ⟨i,hi⟩:=List.getElem?_of_mem h
     by_cases e1:i=j
     ·subst e1
      rw [hy] at hi
      cases hi
      exact List.mem_of_getElem? (i:=i+1) (by rw [List.getElem?_set_ne (by omega),List.getElem?_set_self hj])
     ·by_cases e2:i=j+1
      ·subst e2
       rw [hx] at hi
       cases hi
       exact List.mem_of_getElem? (i:=j) (by rw [List.getElem?_set_self (by simp;omega)])
      ·exact List.mem_of_getElem? (i:=i) (by rw [List.getElem?_set_ne (Ne.symm e1),List.getElem?_set_ne (Ne.symm e2)];exact hi)
   ·exact Iff.rfl
  ·exact Iff.rfl
theorem a2t {lt:Bd→Bd→Bool} {a:Nat}:∀ {n i:Nat} {L:List Bd} {z:Bd},z∈x6 lt a n i L↔z∈L
 | 0,_,_,_=>Iff.rfl
 | n+1,i,L,z=>by rw [x6,a2t,a7B]
theorem G7 {L:List Bd} {x:Bd} (h:x∈p9 L):x∈L:=a2t.1 (a3U h)
theorem L6 (L:List Bd):(p9 L).length≤L.length:=by
 have:=a8n (q:=a2b) (L:=L7 L) (n:=(L7 L).length)
 rw [I4] at this
 unfold p9
 rw [I4]
 exact this
theorem a6M (L:List Bd) (hn:L.length≤1000000) (hso:p6 Tryz.prog 133 [(400000,.mrow 99 3 (L.map Bd.cv))] [.sl 400000 0 L.length 3,.val (.sc (.func (.func 134) #[] #[]))] (.tup []) [(400000,.mrow 99 3 ((L7 L).map Bd.cv))]) :
  p6 Tryz.prog 108 [] [.val (.lst (L.map Bd.cv))] (.sl 400000 0 (p9 L).length 3) [(400000,.mrow 99 3 ((p9 L++List.replicate (L.length-(p9 L).length) Bd.zero).map Bd.cv))]:=by
 refine j9 Tryz.func108 Tryz.ntmps108 rfl rfl rfl rfl rfl rfl ?_
 intro w U hU
 have hUf:U.f 400000=none:=by
  cases h:U.f 400000 with
  | none=>rfl
  | some v=>have:=hU _ _ h;cases this
 have hcl:=a8P L (by omega)
 have hco:=a6S a2b (.sc (.func (.func 136) #[] #[])) (L7 L) (by rw [I4];omega) (fun W x y => .inr ⟨_,rfl,b1D W x y⟩)
 refine aS (aR ?_)
 refine nc ze ?_
 refine aS (aR ?_)
 refine nc zl (nc (z0 (z:=hcl) (G:=c9 (by first | rfl | kernel_rfl))) (nc ze ?_))
 refine AWp.wk ((a7 (s':=[(3,.sl 250007 0 L.length 3),(250007,.mrow 99 3 (L.map Bd.cv))]) ⟨rfl,rfl,trivial⟩).trans (t7 250007 400000 rfl rfl hUf rfl rfl rfl)) ?_
 refine aS (aR ?_)
 refine nc zl (nc (z0 (z:=hso) (G:=c9 (by first | rfl | kernel_rfl))) ?_)
 refine AWp.wk (a7 (s':=[(3,.sl 400000 0 (L7 L).length 3),(400000,.mrow 99 3 ((L7 L).map Bd.cv))]) ⟨by rw [I4];rfl,rfl,trivial⟩) ?_
 refine aS (aR ?_)
 refine nc zl (nc (z0 (z:=hco) (G:=c9 (by first | rfl | kernel_rfl))) (nc ze ?_))
 refine aT ⟨.inr rfl,_,Wk.refl _,rfl,?_,trivial⟩
 show some (AV.mrow _ _ _)=some (AV.mrow _ _ _)
 rw [I4]
 unfold p9
 rw [I4]
theorem b2n (W:World) (L:List Bd) (hn:L.length≤1000000) (hb:bdsOk L) (hfi:p6 Tryz.prog 108 [] [.val (.lst (L.map Bd.cv))] (.sl 400000 0 (p9 L).length 3) [(400000,.mrow 99 3 ((p9 L++List.replicate (L.length-(p9 L).length) Bd.zero).map Bd.cv))]):AFun Tryz.prog W 74 [.lst (L.map Bd.cv)] (.val (.lst ((t6 L).map Bd.cv))):=by
 refine b6 (rs:=[.lst ((t6 L).map Bd.cv)]) Tryz.func74 Tryz.ntmps74 rfl rfl rfl rfl ?_
 intro w U hW
 obtain ⟨F,hF⟩:∃ F,F=p9 L++List.replicate (L.length-(p9 L).length) Bd.zero:=⟨_,rfl⟩
 rw [←hF] at hfi
 have hFl:F.length=L.length:=by rw [hF];have:=L6 L;simp;omega
 have hFt:F.take (p9 L).length=p9 L:=by rw [hF];simp
 have hde:=a9t Q3 (.sc (.func (.func 109) #[] #[])) F (p9 L).length (by rw [hFl];exact L6 L) (by omega) (fun W x hx => .inr ⟨_,rfl,b4h W x (by rw [hFt] at hx;exact ((Tm.rng_iff _).1 (hb x (G7 hx)).1).1.1)⟩)
 rw [hFt] at hde
 obtain ⟨R,hR⟩:∃ R,R=(p9 L).filter fun b=>!Q3 b:=⟨_,rfl⟩
 rw [←hR] at hde
 obtain ⟨Z,hZ⟩:∃ Z,Z=List.replicate ((p9 L).length-R.length) Bd.zero++F.drop (p9 L).length:=⟨_,rfl⟩
 rw [←hZ] at hde
 have hRm:∀ x∈R,x∈L:=fun x hx=>by rw [hR] at hx;exact G7 (List.mem_filter.1 hx).1
 have hRl:R.length≤L.length:=by rw [hR];exact Nat.le_trans (List.length_filter_le _ _) (L6 L)
 refine aS (aR ?_)
 refine nc ze ?_
 refine aS (aR ?_)
 refine nc zl ?_
 refine nc (z0 (z:=hfi) (G:=fun k v h=>by first | (rw [hW.1] at h;cases h) | (have h2:=hU k v h;cases h2))) ?_
 refine nc (z0 (z:=hde) (G:=c9 (by first | rfl | kernel_rfl))) (nc ze ?_)
 refine aS (aS (aR ?_))
 refine nc zl (nc zV (nc zl ?_))
 let C:Nat→List Bd:=fun k=>(R.take k).map Bd.strip++(R.drop k++Z)
 refine aB (o5 R.length (fun k=>[(3,.sl 400000 0 R.length 3),(9,.sl 400000 0 R.length 3),(10,.val (.i R.length)),(11,.val (.i k)),(400000,.mrow 99 3 ((C k).map Bd.cv))]) (a7 ⟨rfl,rfl,rfl,rfl,rfl,trivial⟩) ?_)
 intro k hk
 have hCl:(C k).length=R.length+Z.length:=by simp [C];omega
 refine aS (aR ?_)
 refine nc zi ?_
 refine aS (aC rfl (fun hlt=>?_) (fun hlt=>?_))
 ·have hkl:k<R.length:=by simpa using hlt
  obtain ⟨x,hx⟩:∃ x,R[k]?=some x:=⟨R[k],List.getElem?_eq_getElem hkl⟩
  have hxC:(C k)[k]?=some x:=by
   show ((R.take k).map Bd.strip++(R.drop k++Z))[k]?=some x
   rw [List.getElem?_append_right (by simp;omega),List.getElem?_append_left (by simp;omega),List.getElem?_drop]
   simp only [List.length_map,List.length_take,Nat.min_eq_left (Nat.le_of_lt hkl),Nat.sub_self,Nat.add_zero]
   exact hx
  have hx':=Bd.map_at hxC
  have hxo:=hb x (hRm x (List.mem_of_getElem? hx))
  refine aK ?_
  refine aS (aB (aS (aR ?_)))
  refine nc zl (nc (zI (k:=k)) (nc (zJ (G:=hx')) (nc zk (nc ze (nc zo ?_)))))
  refine aR ?_
  refine nc zl (nc zl (nc zg (nc zh (nc (zw (z:=a1y _ hxo.1 hxo.2)) (nc (zI (k:=k)) (nc z3 (nc (zN (F:=hx')) ?_)))))))
  refine aR ?_
  refine nc zu (nc zl ?_)
  refine ⟨hkl,a7 ⟨rfl,rfl,rfl,rfl,?_,trivial⟩⟩
  show some (AV.mrow _ _ _)=some (AV.mrow _ _ _)
  have e1:((C k).map Bd.cv).set k (Bd.strip x).cw=(C (k+1)).map Bd.cv:=by
   rw [s6]
   congr 1
   show ((R.take k).map Bd.strip++(R.drop k++Z)).set k (Bd.strip x)=(R.take (k+1)).map Bd.strip++(R.drop (k+1)++Z)
   rw [List.set_append_right _ _ (by simp;omega)]
   simp only [List.length_map,List.length_take,Nat.min_eq_left (Nat.le_of_lt hkl),Nat.sub_self]
   have e2:R.drop k=x::R.drop (k+1):=by
    rw [List.getElem?_eq_getElem hkl] at hx
    rw [←Option.some.inj hx,List.getElem_cons_drop]
   rw [e2,G5 hx,List.map_append]
   simp
  rw [←e1]
  rfl
 ·have hkl:k=R.length:=by
   have:¬ k<R.length:=by simpa using hlt
   omega
  subst hkl
  refine aE ?_
  refine aS (aR ?_)
  refine nc zl (nc ze ?_)
  refine AWp.wk (b0l 2 400000 rfl rfl rfl (.inl hW.2) (by rw [List.length_map,hCl];omega) (s':=[]) trivial rfl) ?_
  refine aT ⟨.inr rfl,?_⟩
  show some [CV.lst _]=some [CV.lst _]
  congr 3
  show (((C R.length).map Bd.cv).drop 0).take R.length=(t6 L).map Bd.cv
  rw [List.drop_zero,←List.map_take]
  congr 1
  show (((R.take R.length).map Bd.strip++(R.drop R.length++Z))).take R.length=t6 L
  rw [List.take_length,List.take_append_of_le_length (by simp),List.take_of_length_le (by simp),hR]
  rfl
end Go.Proofs.YtglmoficcjphaaaGreat
namespace Go.Proofs.YtglmoficcjphaaaGreat
open Go.RowKit
set_option linter.unusedVariables false
set_option linter.unusedSimpArgs false
theorem ltB (x y:Bd):ltC a8r x y=decide (x.v<y.v):=by
 unfold ltC a8r y7
 by_cases h:x.v<y.v
 ·simp [h]
 ·by_cases h2:x.v>y.v
  ·simp [h,h2]
  ·simp [h,h2]
theorem b0T {α:Type} (A:List α) (x:α) (B:List α):(A++x::B)[A.length]?=some x:=by simp
theorem b2v (lt:Bd→Bd→Bool) (x:Bd) (B:List Bd):∀ (n:Nat) (A:List Bd),A.length=n→∃ A1 A2,A=A1++A2∧T6 lt 0 A.length (A++x::B)=A1++x::(A2++B)∧(∀ y∈A2,lt x y=true)∧∀ y,A1.getLast?=some y→lt x y=false:=by
 intro n
 induction n generalizing x B with
 | zero =>
  intro A hA
  have:A=[]:=List.eq_nil_of_length_eq_zero hA
  subst this
  exact ⟨[],[],rfl,rfl,by simp,by simp⟩
 | succ n ih =>
  intro A hA
  obtain ⟨A',y,rfl⟩:∃ A' y,A=A'++[y]:=⟨A.dropLast,A.getLast (by intro h;rw [h] at hA;simp at hA),(List.dropLast_concat_getLast _).symm⟩
  have hl:A'.length=n:=by simp at hA;omega
  have hx:(A'++[y]++x::B)[A'.length+1]?=some x:=by
   have:=b0T (A'++[y]) x B
   rwa [List.length_append,List.length_singleton] at this
  have hy:(A'++[y]++x::B)[A'.length]?=some y:=by
   rw [List.append_assoc];exact b0T A' y (x::B)
  rw [List.length_append,List.length_singleton]
  cases h:lt x y with
  | false =>
   refine ⟨A'++[y],[],by simp,?_,by simp,fun z hz=>?_⟩
   ·rw [a6w lt 0 hx hy h];simp
   ·rw [List.getLast?_append] at hz
    simp at hz
    subst hz;exact h
  | true =>
   rw [a3y lt 0 hx hy (by omega) h]
   have hsw:((A'++[y]++x::B).set (A'.length+1) y).set A'.length x=A'++x::(y::B):=by
    rw [List.append_assoc,List.set_append_right _ _ (by omega),show A'.length+1-A'.length=1 by omega,List.set_append_right _ _ (by simp)]
    simp
   rw [hsw]
   obtain ⟨A1,A2,e1,e2,e3,e4⟩:=ih x (y::B) A' hl
   refine ⟨A1,A2++[y],by rw [e1];simp,by rw [e2];simp,fun z hz=>?_,e4⟩
   rcases List.mem_append.1 hz with hz | hz
   ·exact e3 z hz
   ·rw [List.mem_singleton.1 hz];exact h
def b0R (l:List Bd):Prop:=l.Pairwise fun x y=>x.v≤y.v
theorem b6v {A1 A2:List Bd} {x:Bd} (h:b0R (A1++A2)) (h2:∀ y∈A2,x.v<y.v) (h1:∀ y,A1.getLast?=some y→¬ x.v<y.v):b0R (A1++x::A2):=by
 unfold b0R at h ⊢
 rw [List.pairwise_append] at h ⊢
 refine ⟨h.1,List.pairwise_cons.2 ⟨fun y hy=>Int.le_of_lt (h2 y hy),h.2.1⟩,fun a ha b hb=>?_⟩
 rcases List.mem_cons.1 hb with rfl | hb
 ·
  obtain ⟨A',z,rfl⟩:∃ A' z,A1=A'++[z]:=⟨A1.dropLast,A1.getLast (List.ne_nil_of_mem ha),(List.dropLast_concat_getLast _).symm⟩
  have hz:=h1 z (by simp)
  rcases List.mem_append.1 ha with ha | ha
  ·have:=(List.pairwise_append.1 h.1).2.2 a ha z (by simp)
   omega
  ·rw [List.mem_singleton.1 ha];omega
 ·exact h.2.2 a ha b hb
theorem b3C {A1 A2:List Bd} {x:Bd} (h2:∀ y∈A2,x.v<y.v) (v:Int):(A1++x::A2).filter (fun b=>decide (b.v=v))=(A1++A2++[x]).filter (fun b=>decide (b.v=v)):=by
 simp only [List.filter_append,List.filter_cons,List.filter_nil,List.append_assoc]
 by_cases h:x.v=v
 ·have:A2.filter (fun b=>decide (b.v=v))=[]:=by
   rw [List.filter_eq_nil_iff]
   intro y hy hv
   have:=h2 y hy
   simp at hv
   omega
  rw [this];simp [h]
 ·simp [h]
theorem a1S:∀ (n:Nat) (A B:List Bd),b0R A→n≤B.length→∃ A',x6 (ltC a8r) 0 n A.length (A++B)=A'++B.drop n∧b0R A'∧A'.length=A.length+n∧∀ v,A'.filter (fun b=>decide (b.v=v))=(A++B.take n).filter (fun b=>decide (b.v=v))
 | 0,A,B,hA,_=>⟨A,by simp [x6],hA,rfl,fun v=>by simp⟩
 | n+1,A,[],hA,hn=>by simp at hn
 | n+1,A,x::B,hA,hn=>by
  obtain ⟨A1,A2,e1,e2,e3,e4⟩:=b2v (ltC a8r) x B A.length A rfl
  have h2:∀ y∈A2,x.v<y.v:=fun y hy=>by have:=e3 y hy;rw [ltB] at this;simpa using this
  have h1:∀ y,A1.getLast?=some y→¬ x.v<y.v:=fun y hy=>by have:=e4 y hy;rw [ltB] at this;simpa using this
  have hs:b0R (A1++x::A2):=b6v (by rw [←e1];exact hA) h2 h1
  obtain ⟨A',f1,f2,f3,f4⟩:=a1S n (A1++x::A2) B hs (by simpa using hn)
  have hl:(A1++x::A2).length=A.length+1:=by rw [e1];simp;omega
  refine ⟨A',?_,f2,by rw [f3,hl];omega,fun v=>?_⟩
  ·rw [x6,e2,show A1++x::(A2++B)=(A1++x::A2)++B by simp,←hl,f1];rfl
  ·rw [f4 v,List.filter_append,b3C h2 v,←e1,List.take_succ_cons,←List.filter_append,List.append_assoc]
   rfl
theorem a2V (L:List Bd):b0R (L7 L)∧∀ v,(L7 L).filter (fun b=>decide (b.v=v))=L.filter (fun b=>decide (b.v=v)):=by
 cases L with
 | nil=>exact ⟨List.Pairwise.nil,fun v=>rfl⟩
 | cons x l =>
  obtain ⟨A',f1,f2,f3,f4⟩:=a1S l.length [x] l (List.pairwise_singleton _ _) (Nat.le_refl _)
  have e:L7 (x::l)=A':=by
   unfold L7
   rw [List.length_cons,Nat.add_sub_cancel]
   have:=f1
   rw [List.drop_length,List.append_nil] at this
   exact this
  rw [e]
  exact ⟨f2,fun v=>by rw [f4 v,List.take_length];rfl⟩
theorem P0:∀ (L:List Bd) (v:Int),b0 L v=(L.filter (fun b=>decide (b.v=v))).head?.map Bd.t
 | [],_=>rfl
 | b::L,v=>by
  rw [b0]
  by_cases h:b.v=v
  ·simp [h]
  ·rw [if_neg h,P0 L v];simp [h]
theorem a9m (L:List Bd) (v:Int):b0 (L7 L) v=b0 L v:=by rw [P0,P0,(a2V L).2]
theorem a0a (L:List Bd) (x:Bd) (v:Int):b0 (L++[x]) v=(b0 L v).or (if x.v=v then some x.t else none):=by
 induction L with
 | nil=>simp only [List.nil_append,b0];split<;>rfl
 | cons b L ih =>
  rw [List.cons_append,b0,b0]
  split
  ·rfl
  ·exact ih
theorem a0g {L:List Bd} {x:Bd} (h:x∈L):∃ t,b0 L x.v=some t:=by
 induction L with
 | nil=>cases h
 | cons b L ih =>
  rw [b0]
  split
  ·exact ⟨_,rfl⟩
  ·rename_i hne
   rcases List.mem_cons.1 h with rfl | h
   ·exact absurd rfl hne
   ·exact ih h
theorem a7X {S:List Bd} (hS:b0R S):∀ (m:Nat),m≤S.length→(∀ v,b0 (E4 a2b S m) v=b0 (S.take m) v)∧(E4 a2b S m).Pairwise (fun x y=>x.v<y.v)∧∀ (k:Nat) (y:Bd),m=k+1→S[k]?=some y→∀ x∈E4 a2b S m,x.v≤y.v
 | 0,_=>⟨fun v=>rfl,List.Pairwise.nil,fun k y h=>by omega⟩
 | 1,h=>by
  cases S with
  | nil=>simp at h
  | cons x l =>
   rw [a7V]
   exact ⟨fun v=>rfl,List.pairwise_singleton _ _,fun k y hk hy z hz=>by
    have:k=0:=by omega
    subst this
    simp at hy hz
    subst hy;subst hz;exact Int.le_refl _⟩
 | m+2,h=>by
  obtain ⟨ih1,ih2,ih3⟩:=a7X hS (m+1) (by omega)
  obtain ⟨x,hx⟩:∃ x,S[m+1]?=some x:=⟨S[m+1],List.getElem?_eq_getElem (by omega)⟩
  obtain ⟨y,hy⟩:∃ y,S[m]?=some y:=⟨S[m]'(by omega),List.getElem?_eq_getElem (by omega)⟩
  have hle:y.v≤x.v:=by
   have:=List.pairwise_iff_getElem.1 hS m (m+1) (by omega) (by omega) (by omega)
   rw [List.getElem?_eq_getElem (by omega)] at hx hy
   rw [←Option.some.inj hx,←Option.some.inj hy]
   exact this
  have htk:=G5 hx
  cases hq:a2b x y with
  | true =>
   have hv:x.v=y.v:=by simpa [a2b] using hq
   rw [a0I hx hy hq]
   refine ⟨fun v=>?_,ih2,fun k z hk hz w hw=>?_⟩
   ·rw [ih1 v,htk,a0a]
    by_cases e:x.v=v
    ·obtain ⟨t,ht⟩:=a0g (L:=S.take (m+1)) (x:=y) (List.mem_of_getElem? (i:=m) (by rw [List.getElem?_take,if_pos (by omega)];exact hy))
     rw [←e,hv,ht];rfl
    ·rw [if_neg e];simp
   ·have:k=m+1:=by omega
    subst this
    rw [hx] at hz
    cases hz
    rw [hv]
    exact ih3 m y rfl hy w hw
  | false =>
   have hv:x.v≠y.v:=by simpa [a2b] using hq
   rw [a3u hx hy hq]
   refine ⟨fun v=>by rw [a0a,ih1 v,htk,a0a],?_,fun k z hk hz w hw=>?_⟩
   ·rw [List.pairwise_append]
    refine ⟨ih2,List.pairwise_singleton _ _,fun a ha b hb=>?_⟩
    rw [List.mem_singleton.1 hb]
    have:=ih3 m y rfl hy a ha
    omega
   ·have:k=m+1:=by omega
    subst this
    rw [hx] at hz
    cases hz
    rcases List.mem_append.1 hw with hw | hw
    ·have:=ih3 m y rfl hy w hw;omega
    ·rw [List.mem_singleton.1 hw];exact Int.le_refl _
theorem P3 (L:List Bd):(∀ v,b0 (p9 L) v=b0 L v)∧(p9 L).Pairwise (fun x y=>x.v<y.v):=by
 obtain ⟨h1,h2,_⟩:=a7X (a2V L).1 (L7 L).length (Nat.le_refl _)
 refine ⟨fun v=>?_,h2⟩
 have:=h1 v
 rw [List.take_length,a9m] at this
 exact this
theorem b1H {L:List Bd} (v:Int):b0 (L.map Bd.strip) v=(b0 L v).map Tm.strip:=by
 induction L with
 | nil=>rfl
 | cons b L ih =>
  rw [List.map_cons,b0,b0]
  show (if b.v=v then _ else _)=_
  split
  ·rfl
  ·exact ih
theorem a8L {L:List Bd} (h:L.Pairwise (fun x y=>x.v<y.v)) (v:Int):b0 (L.filter fun b=>!Q3 b) v=match b0 L v with | some t=>if Q3 ⟨v,t⟩ then none else some t | none=>none:=by
 induction L with
 | nil=>rfl
 | cons b L ih =>
  rw [List.pairwise_cons] at h
  rw [List.filter_cons]
  by_cases hv:b.v=v
  ·have hno:∀ c∈L,c.v≠v:=fun c hc=>by have:=h.1 c hc;omega
   have hb:(⟨v,b.t⟩:Bd)=b:=by rw [←hv]
   rw [b0,if_pos hv]
   simp only
   rw [hb]
   cases hi:Q3 b with
   | true =>
    simp only [Bool.not_true,Bool.false_eq_true,if_false,if_true]
    exact A6 fun c hc=>hno c (List.mem_filter.1 hc).1
   | false =>
    simp only [Bool.not_false,if_true,Bool.false_eq_true,if_false]
    rw [b0,if_pos hv]
  ·rw [b0,if_neg hv]
   split
   ·rw [b0,if_neg hv];exact ih h.2
   ·exact ih h.2
theorem Z2 (L:List Bd) (v:Int):b0 (t6 L) v=match b0 L v with | some t=>if Q3 ⟨v,t⟩ then none else some t.strip | none=>none:=by
 unfold t6
 rw [b1H,a8L (P3 L).2,(P3 L).1]
 cases b0 L v with
 | none=>rfl
 | some t=>simp only;split<;>rfl
theorem X0 (L:List Bd):(t6 L).Pairwise (fun x y=>x.v<y.v):=by
 unfold t6
 rw [List.pairwise_map]
 exact ((P3 L).2.filter _).imp (fun h=>h)
theorem a0i {t:Tm} (h:t.f<0):t.strip=⟨t.f,[]⟩:=by
 rw [Tm.strip_eq]
 have:t.ps=[]:=by unfold Tm.ps;rw [if_pos h]
 rw [this];rfl
end Go.Proofs.YtglmoficcjphaaaGreat
namespace Go.Proofs.YtglmoficcjphaaaGreat
open Go.RowKit
set_option linter.unusedVariables false
set_option linter.unusedSimpArgs false
set_option maxRecDepth 100000
def c2i (M:List Bd) (b:Bd):Bd:=⟨b.v,a9 (b5 M) b.t⟩
def c0z (L M:List Bd):List Bd:=t6 ((p9 L).map (c2i M)++M)
theorem a8Z (A M:List Bd) (v:Int):b0 (A++M) v=(b0 A v).or (b0 M v):=by
 induction A with
 | nil=>rfl
 | cons b A ih =>
  rw [List.cons_append,b0,b0]
  split
  ·rfl
  ·exact ih
theorem a3t (f g:Int→Tm) (t:Tm):a9 g (a9 f t)=a9 (fun v=>a9 g (f v)) t:=by
 induction t using Tm.indp with
 | h t ih =>
  by_cases hf:t.f<0
  ·rw [i8 hf,i8 hf,a1B,x0]
  ·rw [Tm.ps_of_sym (by omega)] at ih
   rw [d8 hf,d8 (t:=⟨t.f,_⟩) hf,d8 hf]
   simp only [List.map_map]
   congr 1
   exact List.map_congr_left fun s hs=>ih s hs
def Bnd (n:Nat) (L:List Bd):Prop:=∀ b∈L,b.t.rng∧b.t.ok∧b.t.size≤n
theorem Bnd.ok {n:Nat} {L:List Bd} (h:Bnd n L) (hn:n≤90000000000):bdsOk L:=fun b hb=>⟨(h b hb).1,Nat.le_trans (h b hb).2.2 hn⟩
theorem Bnd.img {n:Nat} {L:List Bd} (h:Bnd n L) (hn:1≤n) (v:Int):(b5 L v).ok∧(b5 L v).size≤n:=by
 unfold b5
 cases e:b0 L v with
 | none=>exact ⟨b7V _,by show (p5 v).size≤n;rw [V2];exact hn⟩
 | some t =>
  obtain ⟨b,hb,rfl,_⟩:=G4 e
  exact (h b hb).2
theorem b8T {img:Int→Tm} {m:Nat} (hm:1≤m) (h:∀ v,(img v).size≤m) (t:Tm):(a9 img t).size≤t.size*m:=by
 have e:=a5e img t
 have hs:(t.vs.map fun v=>((img v).size:Int)-1).sum≤(t.vs.length:Int)*((m:Int)-1):=by
  generalize t.vs=l
  induction l with
  | nil=>simp
  | cons v l ih =>
   have:=h v
   rw [List.map_cons,List.sum_cons,List.length_cons]
   have e2:((l.length+1:Nat):Int)*((m:Int)-1)=(l.length:Int)*((m:Int)-1)+((m:Int)-1):=by
    rw [Int.natCast_add,Int.add_mul];simp
   rw [e2]
   omega
 have hl:t.vs.length≤t.size:=by
  unfold Tm.vs vsL Tm.size
  rw [List.length_map]
  exact List.length_filter_le _ _
 have h2:(t.vs.length:Int)*((m:Int)-1)≤(t.size:Int)*((m:Int)-1):=Int.mul_le_mul_of_nonneg_right (by omega) (by omega)
 have h3:(t.size:Int)*((m:Int)-1)=(t.size:Int)*(m:Int)-t.size:=by rw [Int.mul_sub,Int.mul_one]
 have h4:((t.size*m:Nat):Int)=(t.size:Int)*(m:Int):=Int.natCast_mul _ _
 omega
theorem Bnd.norm {n:Nat} {L:List Bd} (h:Bnd n L):Bnd n (t6 L):=fun b hb=>by
 unfold t6 at hb
 obtain ⟨c,hc,rfl⟩:=List.mem_map.1 hb
 obtain ⟨h1,h2,h3⟩:=h c (G7 (List.mem_filter.1 hc).1)
 exact ⟨Tm.strip_rng h1,Tm.strip_ok h2,by show c.t.strip.size≤n;rw [Tm.strip_size];exact h3⟩
theorem Bnd.then {n m:Nat} {L M:List Bd} (hL:Bnd n L) (hM:Bnd m M) (hn:1≤n) (hm:1≤m) (hb:m≤90000000000):Bnd (n*m) (c0z L M)∧∀ b∈L,(a9 (b5 M) b.t).size≤n*m:=by
 have hs:∀ b∈L,(a9 (b5 M) b.t).size≤n*m:=fun b hbL=>Nat.le_trans (b8T hm (fun v=>(hM.img hm v).2) b.t) (Nat.mul_le_mul_right _ (hL b hbL).2.2)
 refine ⟨Bnd.norm fun b hb'=>?_,hs⟩
 rcases List.mem_append.1 hb' with hb' | hb'
 ·obtain ⟨c,hc,rfl⟩:=List.mem_map.1 hb'
  have hcL:=G7 hc
  obtain ⟨h1,h2,h3⟩:=hL c hcL
  exact ⟨a3E h1 fun v g1 g2=>(a1a (hM.ok hb) g1 g2).1,a6n h2 fun v=>(hM.img hm v).1,hs c hcL⟩
 ·obtain ⟨h1,h2,h3⟩:=hM b hb'
  exact ⟨h1,h2,Nat.le_trans h3 (Nat.le_mul_of_pos_left _ hn)⟩
theorem b1R (L:List Bd):(t6 L).length≤L.length:=by
 unfold t6
 rw [List.length_map]
 exact Nat.le_trans (List.length_filter_le _ _) (L6 L)
end Go.Proofs.YtglmoficcjphaaaGreat
namespace Go.Proofs.YtglmoficcjphaaaGreat
set_option linter.unusedVariables false
set_option linter.unusedSimpArgs false
def uni (τ:Int→Tm) (E:List (Tm×Tm)):Prop:=∀ p∈E,a9 τ p.1=a9 τ p.2
theorem B1 {τ:Int→Tm} {E F:List (Tm×Tm)}:uni τ (E++F)↔uni τ E∧uni τ F:=by
 unfold uni
 constructor
 ·intro h;exact ⟨fun p hp=>h p (List.mem_append_left _ hp),fun p hp=>h p (List.mem_append_right _ hp)⟩
 ·rintro ⟨h1,h2⟩ p hp
  rcases List.mem_append.1 hp with hp | hp
  ·exact h1 p hp
  ·exact h2 p hp
theorem C4 {τ:Int→Tm} {a b:Tm}:uni τ [(a,b)]↔a9 τ a=a9 τ b:=by
 unfold uni
 constructor
 ·intro h;exact h (a,b) (by simp)
 ·intro h p hp
  simp only [List.mem_singleton] at hp
  rw [hp];exact h
structure Mgu (σ:Int→Tm) (E:List (Tm×Tm)):Prop where
 uni:uni σ E
 bare:∀ v,0≤v→(σ v).strip=σ v
 idem:∀ v,0≤v→∀ u∈(σ v).vs,σ u=p5 u
 most:∀ τ,Go.Proofs.YtglmoficcjphaaaGreat.uni τ E→∀ v,0≤v→a9 τ (σ v)=(τ v).strip
 low:∀ v,0≤v→(σ v).f<0 → -1-(σ v).f≤v
theorem q6 (v:Int):(p5 v).f = -1-v:=rfl
theorem C8 {τ:Int→Tm} {v:Int} (hv:0≤v):a9 τ (p5 v)=(τ v).strip:=by
 rw [i8 (by rw [q6];omega),q6,show -1-(-1-v)=v by omega]
theorem c0u {τ:Int→Tm} {t:Tm} (h:¬ t.f<0):(a9 τ t).f=t.f:=by rw [d8 h]
theorem a0f {τ:Int→Tm} {t:Tm} (h:(a9 τ t).f<0):t.f<0:=by
 rcases Decidable.em (t.f<0) with h1 | h1
 ·exact h1
 ·rw [c0u h1] at h;exact h
theorem a0x {t:Tm} (hb:t.strip=t) (h:t.f<0):t=p5 (-1-t.f):=by
 rw [←hb,a0i h]
 unfold p5
 rw [show -1-(-1-t.f)=t.f by omega]
theorem a3V {σ:Int→Tm} {t:Tm} (h:∀ u∈t.vs,σ u=p5 u):a9 σ t=t.strip:=by
 rw [V1 (g:=p5) h,b0h]
theorem Mgu.stays {σ σ':Int→Tm} {E:List (Tm×Tm)} (h:Mgu σ E) (h':Mgu σ' E) {v:Int} (hv:0≤v) (e:σ v=p5 v):σ' v=p5 v:=by
 have h1:=h'.most σ h.uni v hv
 rw [h.bare v hv,e] at h1
 have h2:(σ' v).f<0:=a0f (τ:=σ) (by rw [h1,q6];omega)
 obtain ⟨u,hu⟩:∃ u,u = -1-(σ' v).f:=⟨_,rfl⟩
 have hu0:0≤u:=by omega
 have h3:σ' v=p5 u:=by rw [hu];exact a0x (h'.bare v hv) h2
 have h4:u≤v:=by rw [hu];exact h'.low v hv h2
 rw [h3,C8 hu0,h.bare u hu0] at h1
 have h5:=h.low u hu0 (by rw [h1,q6];omega)
 rw [h1,q6] at h5
 have:u=v:=by omega
 rw [h3,this]
theorem Mgu.one {σ σ':Int→Tm} {E:List (Tm×Tm)} (h:Mgu σ E) (h':Mgu σ' E) {v:Int} (hv:0≤v):σ' v=σ v:=by
 have h1:=h.most σ' h'.uni v hv
 rw [h'.bare v hv,a3V (fun u hu=>h.stays h' (r6 _ u hu) (h.idem v hv u hu)),h.bare v hv] at h1
 exact h1.symm
theorem Mgu.eqv {σ:Int→Tm} {E F:List (Tm×Tm)} (h:Mgu σ E) (he:∀ τ,Go.Proofs.YtglmoficcjphaaaGreat.uni τ E↔Go.Proofs.YtglmoficcjphaaaGreat.uni τ F):Mgu σ F:=
 ⟨(he σ).1 h.uni,h.bare,h.idem,fun τ ht=>h.most τ ((he τ).2 ht),h.low⟩
theorem Mgu.rep {σ τ:Int→Tm} {E:List (Tm×Tm)} (h:Mgu σ E) (ht:Go.Proofs.YtglmoficcjphaaaGreat.uni τ E) (t:Tm):a9 τ (a9 σ t)=a9 τ t:=by
 rw [a3t]
 revert t
 refine Tm.ind fun f l ih=>?_
 rcases Decidable.em (f<0) with hf | hf
 ·rw [i8 (t:=⟨f,l⟩) hf,i8 (t:=⟨f,l⟩) hf,h.most τ ht _ (by show 0 ≤ -1-f;omega),Tm.strip_strip]
 ·rw [d8 (t:=⟨f,l⟩) (by show ¬ f<0;omega),d8 (t:=⟨f,l⟩) (by show ¬ f<0;omega)]
  show (⟨f,l.map _⟩:Tm)=⟨f,l.map _⟩
  congr 1
  exact List.map_congr_left ih
theorem Mgu.rep_vs {σ:Int→Tm} {E:List (Tm×Tm)} (h:Mgu σ E) {t:Tm} {u:Int} (hu:u∈(a9 σ t).vs):σ u=p5 u:=by
 rw [a6m,List.mem_flatMap] at hu
 obtain ⟨v,hv,hu⟩:=hu
 exact h.idem v (r6 _ v hv) u hu
theorem Mgu.nil:Mgu p5 []:=
 ⟨fun p hp=>(by cases hp),fun v hv=>y5 v,fun v hv u hu=>rfl,fun τ ht v hv=>C8 hv,fun v hv hf=>by rw [q6];omega⟩
theorem Mgu.same {σ:Int→Tm} {E:List (Tm×Tm)} (h:Mgu σ E) {a b:Tm} (e:a9 σ a=a9 σ b):Mgu σ (E++[(a,b)]):=
 h.eqv fun τ=>by
  rw [B1,C4]
  constructor
  ·intro ht
   refine ⟨ht,?_⟩
   rw [←h.rep ht a,e,h.rep ht b]
  ·exact fun ht=>ht.1
def S3 (x:Int) (b:Tm) (v:Int):Tm:=if v=x then b else p5 v
theorem b0Q {x:Int} {b t:Tm} (h:x∉t.vs):a9 (S3 x b) t=t.strip:=
 a3V fun u hu=>if_neg fun (e:u=x)=>h (e▸hu)
theorem Mgu.bind {σ:Int→Tm} {E:List (Tm×Tm)} (h:Mgu σ E) {a b:Tm} {x:Int} (hx:0≤x) (ha:a9 σ a=p5 x) (hb:x∉(a9 σ b).vs) (hlow:(a9 σ b).f<0 → -1-(a9 σ b).f≤x) {σ2:Int→Tm} (h2:∀ v,0≤v→σ2 v=a9 (S3 x (a9 σ b)) (σ v)):Mgu σ2 (E++[(a,b)]):=by
 obtain ⟨B,hB⟩:∃ B,B=a9 σ b:=⟨_,rfl⟩
 rw [←hB] at hb hlow h2
 have hBs:B.strip=B:=by rw [hB,x0]
 have hr:∀ t,a9 σ2 t=a9 (S3 x B) (a9 σ t):=fun t=>by
  rw [a3t]
  exact V1 fun v hv=>h2 v (r6 _ v hv)
 have hxx:S3 x B x=B:=if_pos rfl
 refine ⟨?_,fun v hv=>by rw [h2 v hv,x0],fun v hv u hu=>?_,fun τ ht v hv=>?_,fun v hv hf=>?_⟩
 ·rw [B1,C4]
  refine ⟨fun p hp=>by rw [hr,hr,h.uni p hp],?_⟩
  rw [hr,hr,ha,C8 hx,hxx,←hB,b0Q hb]
 ·rw [h2 v hv,a6m,List.mem_flatMap] at hu
  obtain ⟨w,hw,hu⟩:=hu
  have hw0:=r6 _ w hw
  have:σ u=p5 u∧u≠x:=by
   by_cases e:w=x
   ·rw [e,hxx] at hu
    refine ⟨h.rep_vs (t:=b) (by rw [←hB];exact hu),fun e=>hb (e▸hu)⟩
   ·unfold S3 at hu
    rw [if_neg e,Tm.vs_var (by rw [q6];omega),q6,List.mem_singleton] at hu
    have:u=w:=by omega
    rw [this]
    exact ⟨h.idem v hv w hw,e⟩
  have hu0:0≤u:=r6 _ u hu
  rw [h2 u hu0,this.1,C8 hu0]
  unfold S3
  rw [if_neg this.2,y5]
 ·rw [B1,C4] at ht
  rw [h2 v hv,a3t,←h.most τ ht.1 v hv]
  have:∀ w∈(σ v).vs,a9 τ (S3 x B w)=(τ w).strip:=fun w hw=>by
   have hw0:=r6 _ w hw
   by_cases e:w=x
   ·rw [e,hxx,hB,h.rep ht.1,←ht.2,←h.rep ht.1,ha,C8 hx]
   ·unfold S3
    rw [if_neg e,C8 hw0]
  have h3:∀ t:Tm,(∀ w∈t.vs,a9 τ (S3 x B w)=(τ w).strip)→a9 (fun v=>a9 τ (S3 x B v)) t=a9 τ t:=by
   refine Tm.ind fun f l ih hw=>?_
   rcases Decidable.em (f<0) with hf | hf
   ·rw [i8 (t:=⟨f,l⟩) hf,i8 (t:=⟨f,l⟩) hf,hw _ (by rw [Tm.vs_var (t:=⟨f,l⟩) hf];simp),Tm.strip_strip]
   ·have hf':¬ (⟨f,l⟩:Tm).f<0:=by show ¬ f<0;omega
    rw [d8 hf',d8 hf']
    rw [Tm.vs_sym hf'] at hw
    congr 1
    exact List.map_congr_left fun t ht=>ih t ht fun w hw'=>hw w (List.mem_flatMap.2 ⟨t,ht,hw'⟩)
  exact h3 _ this
 ·rw [h2 v hv] at hf ⊢
  have h4:=a0f hf
  have h5:=h.low v hv h4
  rw [i8 h4] at hf ⊢
  obtain ⟨w,hw⟩:∃ w,w = -1-(σ v).f:=⟨_,rfl⟩
  rw [←hw] at hf h5 ⊢
  by_cases e:w=x
  ·rw [e,hxx,hBs] at hf ⊢
   have:=hlow hf
   omega
  ·unfold S3
   rw [if_neg e,y5,q6]
   omega
theorem b2x {τ:Int→Tm} {x:Int} {t:Tm} (hx:x∈t.vs) (ht:¬ t.f<0):a9 τ (p5 x)≠a9 τ t:=by
 have hx0:=r6 _ x hx
 have key:∀ t:Tm,x∈t.vs→(a9 τ (p5 x)).size≤(a9 τ t).size∧(¬ t.f<0→(a9 τ (p5 x)).size<(a9 τ t).size):=by
  refine Tm.ind fun f l ih hx=>?_
  rcases Decidable.em (f<0) with hf | hf
  ·rw [Tm.vs_var (t:=⟨f,l⟩) hf,List.mem_singleton] at hx
   refine ⟨?_,fun h=>absurd hf h⟩
   rw [C8 hx0,i8 (t:=⟨f,l⟩) hf,←hx]
   exact Nat.le_refl _
  ·have hf':¬ (⟨f,l⟩:Tm).f<0:=by show ¬ f<0;omega
   rw [Tm.vs_sym hf',List.mem_flatMap] at hx
   obtain ⟨s,hs,hxs⟩:=hx
   have h1:=(ih s hs hxs).1
   have h2:(a9 τ s).size<(a9 τ ⟨f,l⟩).size:=by
    refine Tm.size_part ?_
    rw [d8 hf',Tm.ps_of_sym (by show 0≤f;omega)]
    exact List.mem_map.2 ⟨s,hs,rfl⟩
   exact ⟨by omega,fun _=>by omega⟩
 intro e
 have:=(key t hx).2 ht
 rw [e] at this
 exact Nat.lt_irrefl _ this
structure Joined (N:Nat) (T:Nat→Tm) (H K:Nat→Nat) (E:List (Tm×Tm)):Prop where
 hd:∀ n,n<N→H n<N∧H (H n)=H n
 low:∀ n,n<N→(T n).f≤(T (H n)).f
 kid:∀ n,n<N→¬ (T n).f<0→∀ i p,(T n).l[i]?=some p→K n+i<N∧T (K n+i)=p
 cls:∀ n,n<N→¬ (T n).f<0→(T (H n)).f=(T n).f∧(T (H n)).l.length=(T n).l.length∧∀ i,i<(T n).l.length→H (K n+i)=H (K (H n)+i)
 var:∀ n m,n<N→m<N→(T n).f<0→(T n).f=(T m).f→H n=H m
 pair:∀ p∈E,∃ n m,n<N∧m<N∧T n=p.1∧T m=p.2∧H n=H m
 sound:∀ τ,uni τ E→∀ n,n<N→a9 τ (T n)=a9 τ (T (H n))
section
variable {N:Nat} {T:Nat→Tm} {H K:Nat→Nat} {E:List (Tm×Tm)}
def a3j (N:Nat) (T:Nat→Tm) (H K:Nat→Nat) (out:Nat→Tm):Prop:=∀ h,h<N→H h=h→out h=⟨(T h).f,if (T h).f<0 then [] else (List.range (T h).l.length).map fun i=>out (H (K h+i))⟩
def a2i (N:Nat) (T:Nat→Tm) (H K:Nat→Nat) (ρ:Nat→Nat):Prop:=∀ h,h<N→H h=h→¬ (T h).f<0→∀ i,i<(T h).l.length→ρ (H (K h+i))<ρ h
theorem Joined.part (j:Joined N T H K E) {h:Nat} (hN:h<N) (hf:¬ (T h).f<0) {i:Nat} (hi:i<(T h).l.length):K h+i<N∧T (K h+i)=(T h).l[i]∧H (K h+i)<N∧H (H (K h+i))=H (K h+i):=by
 obtain ⟨h1,h2⟩:=j.kid h hN hf i _ (List.getElem?_eq_getElem hi)
 exact ⟨h1,h2,j.hd _ h1⟩
theorem Joined.ind (j:Joined N T H K E) {ρ:Nat→Nat} (hr:a2i N T H K ρ) {Q:Nat→Prop} (hQ:∀ h,h<N→H h=h→(¬ (T h).f<0→∀ i,i<(T h).l.length→Q (H (K h+i)))→Q h):∀ h,h<N→H h=h→Q h:=by
 intro h
 induction e:ρ h using Nat.strongRecOn generalizing h with
 | ind k ih =>
  intro hN hh
  refine hQ h hN hh fun hf i hi=>?_
  obtain ⟨_,_,h3,h4⟩:=j.part hN hf hi
  exact ih _ (by rw [←e];exact hr h hN hh hf i hi) _ rfl h3 h4
theorem a5T {out:Nat→Tm} (ho:a3j N T H K out) {h:Nat} (hN:h<N) (hh:H h=h) (hf:(T h).f<0):out h=⟨(T h).f,[]⟩:=by rw [ho h hN hh,if_pos hf]
theorem a3g {out:Nat→Tm} (ho:a3j N T H K out) {h:Nat} (hN:h<N) (hh:H h=h) (hf:¬ (T h).f<0):out h=⟨(T h).f,(List.range (T h).l.length).map fun i=>out (H (K h+i))⟩:=by rw [ho h hN hh,if_neg hf]
theorem c1a {out:Nat→Tm} (ho:a3j N T H K out) {h:Nat} (hN:h<N) (hh:H h=h):(out h).f=(T h).f:=by rw [ho h hN hh]
theorem a5t {l:List Tm} {g g':Tm→Tm} {q:Nat→Tm} (h:∀ i (hi:i<l.length),g l[i]=g' (q i)):l.map g=((List.range l.length).map q).map g':=by
 apply List.ext_getElem
 ·simp
 ·intro i h1 h2
  simp only [List.getElem_map,List.getElem_range]
  exact h i (by simpa using h1)
theorem Joined.out_bare (j:Joined N T H K E) {ρ:Nat→Nat} (hr:a2i N T H K ρ) {out:Nat→Tm} (ho:a3j N T H K out):∀ h,h<N→H h=h→(out h).strip=out h:=
 j.ind hr fun h hN hh ih=>by
  by_cases hf:(T h).f<0
  ·rw [a5T ho hN hh hf,a0i (t:=⟨(T h).f,[]⟩) hf]
  ·rw [a3g ho hN hh hf,Tm.strip_eq,Tm.ps_of_sym (t:=⟨(T h).f,_⟩) (by show 0≤(T h).f;omega)]
   congr 1
   rw [List.map_map]
   exact List.map_congr_left fun i hi=>ih hf i (List.mem_range.1 hi)
structure c0h (N:Nat) (T:Nat→Tm) (H:Nat→Nat) (out:Nat→Tm) (σ:Int→Tm):Prop where
 at_:∀ n,n<N→(T n).f<0→σ (-1-(T n).f)=out (H n)
 off:∀ v,0≤v→(∀ n,n<N→(T n).f ≠ -1-v)→σ v=p5 v
theorem Joined.rep (j:Joined N T H K E) {ρ:Nat→Nat} (hr:a2i N T H K ρ) {out:Nat→Tm} (ho:a3j N T H K out) {σ:Int→Tm} (hs:c0h N T H out σ):∀ (t:Tm) (n:Nat),n<N→T n=t→a9 σ t=out (H n):=by
 refine Tm.ind fun f l ih n hN e=>?_
 obtain ⟨hH,hHH⟩:=j.hd n hN
 by_cases hf:f<0
 ·have:=hs.at_ n hN (by rw [e];exact hf)
  rw [e] at this
  rw [i8 (t:=⟨f,l⟩) hf,this,j.out_bare hr ho _ hH hHH]
 ·have hfn:¬ (T n).f<0:=by rw [e];exact hf
  obtain ⟨c1,c2,c3⟩:=j.cls n hN hfn
  rw [d8 (t:=⟨f,l⟩) hf,a3g ho hH hHH (by rw [c1];exact hfn),c1,c2,e]
  congr 1
  have:=a5t (l:=l) (g:=a9 σ) (g':=id) (q:=fun i=>out (H (K (H n)+i))) fun i hi=>by
   have hi':i<(T n).l.length:=by rw [e];exact hi
   obtain ⟨p1,p2,_⟩:=j.part hN hfn hi'
   have p3:(T n).l[i]=l[i]:=by simp only [e]
   rw [ih l[i] (List.getElem_mem hi) (K n+i) p1 (by rw [p2,p3]),c3 i hi']
   rfl
  rw [this,List.map_id]
theorem Joined.most (j:Joined N T H K E) {ρ:Nat→Nat} (hr:a2i N T H K ρ) {out:Nat→Tm} (ho:a3j N T H K out) {τ:Int→Tm} (ht:uni τ E):∀ h,h<N→H h=h→a9 τ (out h)=a9 τ (T h):=
 j.ind hr fun h hN hh ih=>by
  by_cases hf:(T h).f<0
  ·rw [a5T ho hN hh hf,i8 (t:=⟨(T h).f,[]⟩) hf,i8 hf]
  ·rw [a3g ho hN hh hf,d8 (t:=⟨(T h).f,_⟩) hf,d8 hf]
   congr 1
   refine (a5t fun i hi=>?_).symm
   obtain ⟨p1,p2,_⟩:=j.part hN hf hi
   rw [ih hf i hi,←j.sound τ ht _ p1,p2]
theorem Joined.idem (j:Joined N T H K E) {ρ:Nat→Nat} (hr:a2i N T H K ρ) {out:Nat→Tm} (ho:a3j N T H K out) {σ:Int→Tm} (hs:c0h N T H out σ):∀ h,h<N→H h=h→∀ u∈(out h).vs,σ u=p5 u:=
 j.ind hr fun h hN hh ih u hu=>by
  by_cases hf:(T h).f<0
  ·have h1:=a5T ho hN hh hf
   rw [h1,Tm.vs_var (t:=⟨(T h).f,[]⟩) hf,List.mem_singleton] at hu
   have h2:=hs.at_ h hN hf
   rw [hh,h1] at h2
   have hu:u = -1-(T h).f:=hu
   rw [hu,h2]
   unfold p5
   rw [show -1-(-1-(T h).f)=(T h).f by omega]
  ·rw [a3g ho hN hh hf,Tm.vs_sym (t:=⟨(T h).f,_⟩) hf,List.mem_flatMap] at hu
   obtain ⟨t,ht,hu⟩:=hu
   obtain ⟨i,hi,rfl⟩:=List.mem_map.1 ht
   exact ih hf i (List.mem_range.1 hi) u hu
theorem Joined.mgu (j:Joined N T H K E) {ρ:Nat→Nat} (hr:a2i N T H K ρ) {out:Nat→Tm} (ho:a3j N T H K out) {σ:Int→Tm} (hs:c0h N T H out σ):Mgu σ E:=by
 have two:∀ v,0≤v→(∃ n,n<N∧(T n).f = -1-v∧σ v=out (H n))∨σ v=p5 v:=fun v hv=>by
  by_cases h:∃ n,n<N∧(T n).f = -1-v
  ·obtain ⟨n,h1,h2⟩:=h
   have:=hs.at_ n h1 (by omega)
   rw [h2,show -1-(-1-v)=v by omega] at this
   exact .inl ⟨n,h1,h2,this⟩
  ·exact .inr (hs.off v hv fun n h1 h2=>h ⟨n,h1,h2⟩)
 refine ⟨fun p hp=>?_,fun v hv=>?_,fun v hv u hu=>?_,fun τ ht v hv=>?_,fun v hv hf=>?_⟩
 ·obtain ⟨n,m,h1,h2,h3,h4,h5⟩:=j.pair p hp
  rw [j.rep hr ho hs p.1 n h1 h3,j.rep hr ho hs p.2 m h2 h4,h5]
 ·rcases two v hv with ⟨n,h1,h2,h3⟩ | h3
  ·rw [h3,j.out_bare hr ho _ (j.hd n h1).1 (j.hd n h1).2]
  ·rw [h3,y5]
 ·rcases two v hv with ⟨n,h1,h2,h3⟩ | h3
  ·rw [h3] at hu
   exact j.idem hr ho hs _ (j.hd n h1).1 (j.hd n h1).2 u hu
  ·rw [h3,Tm.vs_var (by rw [q6];omega),q6,List.mem_singleton] at hu
   rw [show u=v by omega];exact h3
 ·rcases two v hv with ⟨n,h1,h2,h3⟩ | h3
  ·rw [h3,j.most hr ho ht _ (j.hd n h1).1 (j.hd n h1).2,←j.sound τ ht n h1,i8 (by omega),h2,show -1-(-1-v)=v by omega]
  ·rw [h3,C8 hv]
 ·rcases two v hv with ⟨n,h1,h2,h3⟩ | h3
  ·have:=j.low n h1
   rw [h3,c1a ho (j.hd n h1).1 (j.hd n h1).2]
   omega
  ·rw [h3,q6];omega
theorem Joined.no (j:Joined N T H K E) {O:Nat→Prop} (hO:∀ h,h<N→H h=h→¬ O h→∃ g,g<N∧H g=g∧¬ O g∧¬ (T g).f<0∧∃ i,i<(T g).l.length∧H (K g+i)=h) {h0:Nat} (hN0:h0<N) (hh0:H h0=h0) (hn0:¬ O h0) (τ:Int→Tm):¬ uni τ E:=by
 intro ht
 have up:∀ k:Nat,∃ h,h<N∧H h=h∧¬ O h∧k≤(a9 τ (T h)).size:=fun k=>by
  induction k with
  | zero=>exact ⟨h0,hN0,hh0,hn0,Nat.zero_le _⟩
  | succ k ih =>
   obtain ⟨h,h1,h2,h3,h4⟩:=ih
   obtain ⟨g,g1,g2,g3,g4,i,g5,g6⟩:=hO h h1 h2 h3
   refine ⟨g,g1,g2,g3,?_⟩
   obtain ⟨p1,p2,_⟩:=j.part g1 g4 g5
   have h5:a9 τ (T h)=a9 τ (T g).l[i]:=by rw [←g6,←j.sound τ ht _ p1,p2]
   have h6:(a9 τ (T g).l[i]).size<(a9 τ (T g)).size:=by
    refine Tm.size_part ?_
    rw [d8 g4,Tm.ps_of_sym (t:=⟨(T g).f,_⟩) (by show 0≤(T g).f;omega)]
    exact List.mem_map.2 ⟨_,List.getElem_mem g5,rfl⟩
   rw [h5] at h4
   omega
 have top:∀ M:Nat,∃ B,∀ n,n<M→(a9 τ (T n)).size≤B:=fun M=>by
  induction M with
  | zero=>exact ⟨0,fun n hn=>by omega⟩
  | succ M ih =>
   obtain ⟨B,hB⟩:=ih
   refine ⟨max B (a9 τ (T M)).size,fun n hn=>?_⟩
   rcases Nat.lt_or_ge n M with h | h
   ·exact Nat.le_trans (hB n h) (Nat.le_max_left _ _)
   ·rw [show n=M by omega];exact Nat.le_max_right _ _
 obtain ⟨B,hB⟩:=top N
 obtain ⟨h,h1,_,_,h4⟩:=up (B+1)
 have:=hB h h1
 omega
end
def n7:List (Int×Nat)→Int→Option Nat
 | [],_=>none
 | p::l,v=>if p.1=v then some p.2 else n7 l v
theorem Q6 (l:List (Int×Nat)) (u:Int) (n:Nat) (v:Int):n7 (l++[(u,n)]) v=(n7 l v).or (if u=v then some n else none):=by
 induction l with
 | nil=>rfl
 | cons p l ih =>
  rw [List.cons_append,n7,n7]
  split
  ·rfl
  ·exact ih
def Con (N:Nat) (H:Nat→Nat) (ps:List (Nat×Nat)) (x y:Nat):Prop:=∀ G:Nat→Nat,(∀ m,m<N→G m=G (H m))→(∀ p∈ps,G p.1=G p.2)→G x=G y
structure Cls (N:Nat) (T:Nat→Tm) (K U H r:Nat→Nat) (vr:List (Int×Nat)) (ps:List (Nat×Nat)) (E:List (Tm×Tm)):Prop where
 hd:∀ n,n<N→H n<N∧H (H n)=H n
 up:∀ n,n<N→U n<N∧H (U n)=H n∧(H n=n→U n=n)
 rank:∀ n,n<N→H n≠n→r (U n)<r n
 low:∀ n,n<N→(T n).f≤(T (H n)).f
 kid:∀ n,n<N→K n≠0→¬ (T n).f<0∧∀ i,i<(T n).l.length→K n+i<N∧(T n).l[i]?=some (T (K n+i))
 vrs:∀ n,n<N→(T n).f<0→∃ m,n7 vr (-1-(T n).f)=some m∧H n=H m
 vrt:∀ v m,n7 vr v=some m→m<N∧(T m).f = -1-v
 cls:∀ n,n<N→¬ (T n).f<0→H n≠n→(T (H n)).f=(T n).f∧(T (H n)).l.length=(T n).l.length∧((T n).l.length≠0→K n≠0∧K (H n)≠0)∧∀ i,i<(T n).l.length→Con N H ps (K n+i) (K (H n)+i)
 pss:∀ p∈ps,p.1<N∧p.2<N
 pair:∀ p∈E,∃ n m,n<N∧m<N∧T n=p.1∧T m=p.2∧Con N H ps n m
 sound:∀ τ,uni τ E→(∀ n,n<N→a9 τ (T n)=a9 τ (T (H n)))∧∀ p∈ps,a9 τ (T p.1)=a9 τ (T p.2)
section
variable {N:Nat} {T:Nat→Tm} {K U H r:Nat→Nat} {vr:List (Int×Nat)} {ps:List (Nat×Nat)} {E:List (Tm×Tm)}
def upd {α:Type} (f:Nat→α) (n:Nat) (x:α) (m:Nat):α:=if m=n then x else f m
theorem b8 {α:Type} {f:Nat→α} {n:Nat} {x:α}:upd f n x n=x:=if_pos rfl
theorem n8 {α:Type} {f:Nat→α} {n m:Nat} {x:α} (h:m≠n):upd f n x m=f m:=if_neg h
theorem Cls.nil:Cls 0 T K U H r [] [] []:=
 ⟨fun n h=>by omega,fun n h=>by omega,fun n h=>by omega,fun n h=>by omega,fun n h=>by omega,fun n h=>by omega,fun v m h=>(by cases h),fun n h=>by omega,fun p h=>(by cases h),fun p h=>(by cases h),fun τ _=>⟨fun n h=>by omega,fun p h=>(by cases h)⟩⟩
theorem Cls.add (h:Cls N T K U H r vr ps E) {t:Tm} {u:Nat} {vr':List (Int×Nat)} (hu:u≤N) (hb:u<N→t.f<0∧(T u).f=t.f) (hv1:∀ v m,n7 vr v=some m→n7 vr' v=some m) (hv2:∀ v m,n7 vr' v=some m→n7 vr v=some m∨(m=N∧t.f = -1-v)) (hv3:t.f<0→n7 vr' (-1-t.f)=some u) :
  Cls (N+1) (upd T N t) (upd K N 0) (upd U N u) (upd H N (if u=N then N else H u)) (upd r N (if u=N then 0 else r u+1)) vr' ps E:=by
 have hH:∀ {n},n<N→upd H N (if u=N then N else H u) n=H n:=fun hn=>n8 (by omega)
 have hT:∀ {n},n<N→upd T N t n=T n:=fun hn=>n8 (by omega)
 have hK:∀ {n},n<N→upd K N 0 n=K n:=fun hn=>n8 (by omega)
 have hU:∀ {n},n<N→upd U N u n=U n:=fun hn=>n8 (by omega)
 have hr:∀ {n},n<N→upd r N (if u=N then 0 else r u+1) n=r n:=fun hn=>n8 (by omega)
 have con:∀ {x y},Con N H ps x y→Con (N+1) (upd H N (if u=N then N else H u)) ps x y:=fun hc G g1 g2=>hc G (fun m hm=>by have:=g1 m (by omega);rw [hH hm] at this;exact this) g2
 have two:∀ {n},n<N+1→n<N∨n=N:=fun hn=>by omega
 refine ⟨fun n hn=>?_,fun n hn=>?_,fun n hn hne=>?_,fun n hn=>?_,fun n hn hk=>?_,fun n hn hf=>?_,fun v m hl=>?_,fun n hn hf hne=>?_,fun p hp=>?_,fun p hp=>?_,fun τ ht=>?_⟩
 ·rcases two hn with hn | rfl
  ·have:=h.hd n hn
   rw [hH hn,hH this.1]
   exact ⟨by omega,this.2⟩
  ·rw [b8]
   split
   ·exact ⟨by omega,by rw [b8]⟩
   ·have:=h.hd u (by omega)
    rw [n8 (by omega)]
    exact ⟨by omega,this.2⟩
 ·rcases two hn with hn | rfl
  ·have:=h.up n hn
   rw [hU hn,hH hn,hH this.1]
   exact ⟨by omega,this.2⟩
  ·rw [b8,b8]
   by_cases e:u=n
   ·rw [if_pos e,e,b8]
    exact ⟨by omega,by simp,fun _=>rfl⟩
   ·rw [if_neg e,n8 e]
    refine ⟨by omega,rfl,fun e2=>?_⟩
    have:=(h.hd u (by omega)).1
    omega
 ·rcases two hn with hn | rfl
  ·rw [hH hn] at hne
   rw [hU hn,hr hn,hr (h.up n hn).1]
   exact h.rank n hn hne
  ·rw [b8] at hne
   rw [b8,b8]
   by_cases e:u=n
   ·rw [if_pos e] at hne;exact absurd rfl hne
   ·rw [if_neg e,n8 e];omega
 ·rcases two hn with hn | rfl
  ·rw [hH hn,hT hn,hT (h.hd n hn).1];exact h.low n hn
  ·rw [b8,b8]
   by_cases e:u=n
   ·rw [if_pos e,b8];exact Int.le_refl _
   ·rw [if_neg e]
    have h1:=h.hd u (by omega)
    have h2:=h.low u (by omega)
    rw [hT h1.1,←(hb (by omega)).2]
    exact h2
 ·rcases two hn with hn | rfl
  ·rw [hK hn] at hk ⊢
   rw [hT hn]
   obtain ⟨h1,h2⟩:=h.kid n hn hk
   refine ⟨h1,fun i hi=>?_⟩
   have:=h2 i hi
   rw [hT this.1]
   exact ⟨by omega,this.2⟩
  ·rw [b8] at hk;exact absurd rfl hk
 ·rcases two hn with hn | rfl
  ·rw [hT hn] at hf ⊢
   obtain ⟨m,h1,h2⟩:=h.vrs n hn hf
   have:=(h.vrt _ m h1).1
   exact ⟨m,hv1 _ _ h1,by rw [hH hn,hH this,h2]⟩
  ·rw [b8] at hf ⊢
   refine ⟨u,hv3 hf,?_⟩
   rw [b8]
   by_cases e:u=n
   ·rw [if_pos e,e,b8]
   ·rw [if_neg e,n8 e]
 ·rcases hv2 v m hl with h1 | ⟨rfl,h1⟩
  ·have:=h.vrt v m h1
   rw [hT this.1]
   exact ⟨by omega,this.2⟩
  ·rw [b8];exact ⟨by omega,h1⟩
 ·rcases two hn with hn | rfl
  ·have h1:=(h.hd n hn).1
   rw [hT hn] at hf ⊢
   rw [hH hn] at hne ⊢
   rw [hT h1,hK hn,hK h1]
   obtain ⟨c1,c2,c3,c4⟩:=h.cls n hn hf hne
   exact ⟨c1,c2,c3,fun i hi=>con (c4 i hi)⟩
  ·rw [b8] at hf hne
   by_cases e:u=n
   ·rw [if_pos e] at hne;exact absurd rfl hne
   ·exact absurd (hb (by omega)).1 hf
 ·have:=h.pss p hp;exact ⟨by omega,by omega⟩
 ·obtain ⟨n,m,h1,h2,h3,h4,h5⟩:=h.pair p hp
  exact ⟨n,m,by omega,by omega,by rw [hT h1];exact h3,by rw [hT h2];exact h4,con h5⟩
 ·obtain ⟨s1,s2⟩:=h.sound τ ht
  refine ⟨fun n hn=>?_,fun p hp=>?_⟩
  ·rcases two hn with hn | rfl
   ·rw [hH hn,hT hn,hT (h.hd n hn).1];exact s1 n hn
   ·rw [b8,b8]
    by_cases e:u=n
    ·rw [if_pos e,b8]
    ·have hu':u<n:=by omega
     rw [if_neg e,hT (h.hd u hu').1,←s1 u hu']
     obtain ⟨f1,f2⟩:=hb hu'
     rw [i8 f1,i8 (by rw [f2];exact f1),f2]
  ·have:=h.pss p hp
   rw [hT this.1,hT this.2]
   exact s2 p hp
theorem Cls.setK (h:Cls N T K U H r vr ps E) {n k:Nat} (hn:n<N) (hk:K n=0) (hf:¬ (T n).f<0) (hp:∀ i,i<(T n).l.length→k+i<N∧(T n).l[i]?=some (T (k+i))):Cls N T (upd K n k) U H r vr ps E:=by
 refine ⟨h.hd,h.up,h.rank,h.low,fun m hm h1=>?_,h.vrs,h.vrt,fun m hm h1 h2=>?_,h.pss,h.pair,h.sound⟩
 ·by_cases e:m=n
  ·subst e;rw [b8];exact ⟨hf,hp⟩
  ·rw [n8 e] at h1 ⊢;exact h.kid m hm h1
 ·obtain ⟨c1,c2,c3,c4⟩:=h.cls m hm h1 h2
  refine ⟨c1,c2,fun h3=>?_,fun i hi=>?_⟩
  ·obtain ⟨d1,d2⟩:=c3 h3
   rw [n8 (m:=m) (fun e=>d1 (by rw [e];exact hk)),n8 (m:=H m) (fun e=>d2 (by rw [e];exact hk))]
   exact ⟨d1,d2⟩
  ·obtain ⟨d1,d2⟩:=c3 (by omega)
   rw [n8 (m:=m) (fun e=>d1 (by rw [e];exact hk)),n8 (m:=H m) (fun e=>d2 (by rw [e];exact hk))]
   exact c4 i hi
theorem Cls.halve (h:Cls N T K U H r vr ps E) {n:Nat} (hn:n<N):Cls N T K (upd U n (U (U n))) H r vr ps E:=by
 obtain ⟨u1,u2,u3⟩:=h.up n hn
 obtain ⟨v1,v2,v3⟩:=h.up (U n) u1
 refine ⟨h.hd,fun m hm=>?_,fun m hm h1=>?_,h.low,h.kid,h.vrs,h.vrt,h.cls,h.pss,h.pair,h.sound⟩
 ·by_cases e:m=n
  ·subst e
   rw [b8]
   exact ⟨v1,by rw [v2,u2],fun e=>by rw [u3 e];exact u3 e⟩
  ·rw [n8 e];exact h.up m hm
 ·by_cases e:m=n
  ·subst e
   rw [b8]
   have h2:=h.rank m hm h1
   by_cases e2:H (U m)=U m
   ·rw [v3 e2];exact h2
   ·have:=h.rank (U m) u1 e2;omega
  ·rw [n8 e];exact h.rank m hm h1
theorem Cls.drop {x y:Nat} (h:Cls N T K U H r vr (ps++[(x,y)]) E) (e:H x=H y):Cls N T K U H r vr ps E:=by
 have hxy:=h.pss (x,y) (by simp)
 have con:∀ {p q},Con N H (ps++[(x,y)]) p q→Con N H ps p q:=fun hc G g1 g2=>hc G g1 fun p hp=>by
  rcases List.mem_append.1 hp with hp | hp
  ·exact g2 p hp
  ·rw [List.mem_singleton] at hp
   rw [hp]
   show G x=G y
   rw [g1 x hxy.1,g1 y hxy.2,e]
 refine ⟨h.hd,h.up,h.rank,h.low,h.kid,h.vrs,h.vrt,fun n hn h1 h2=>?_,fun p hp=>h.pss p (List.mem_append_left _ hp),fun p hp=>?_,fun τ ht=>⟨(h.sound τ ht).1,fun p hp=>(h.sound τ ht).2 p (List.mem_append_left _ hp)⟩⟩
 ·obtain ⟨c1,c2,c3,c4⟩:=h.cls n hn h1 h2
  exact ⟨c1,c2,c3,fun i hi=>con (c4 i hi)⟩
 ·obtain ⟨n,m,h1,h2,h3,h4,h5⟩:=h.pair p hp
  exact ⟨n,m,h1,h2,h3,h4,con h5⟩
theorem Cls.push (h:Cls N T K U H r vr ps E) {n m:Nat} (hn:n<N) (hm:m<N):Cls N T K U H r vr (ps++[(n,m)]) (E++[(T n,T m)]):=by
 have con:∀ {p q},Con N H ps p q→Con N H (ps++[(n,m)]) p q:=fun hc G g1 g2=>hc G g1 fun p hp=>g2 p (List.mem_append_left _ hp)
 refine ⟨h.hd,h.up,h.rank,h.low,h.kid,h.vrs,h.vrt,fun a ha h1 h2=>?_,fun p hp=>?_,fun p hp=>?_,fun τ ht=>?_⟩
 ·obtain ⟨c1,c2,c3,c4⟩:=h.cls a ha h1 h2
  exact ⟨c1,c2,c3,fun i hi=>con (c4 i hi)⟩
 ·rcases List.mem_append.1 hp with hp | hp
  ·exact h.pss p hp
  ·rw [List.mem_singleton] at hp;rw [hp];exact ⟨hn,hm⟩
 ·rcases List.mem_append.1 hp with hp | hp
  ·obtain ⟨a,b,h1,h2,h3,h4,h5⟩:=h.pair p hp
   exact ⟨a,b,h1,h2,h3,h4,con h5⟩
  ·rw [List.mem_singleton] at hp
   rw [hp]
   exact ⟨n,m,hn,hm,rfl,rfl,fun G _ g2=>g2 (n,m) (by simp)⟩
 ·rw [B1,C4] at ht
  obtain ⟨s1,s2⟩:=h.sound τ ht.1
  refine ⟨s1,fun p hp=>?_⟩
  rcases List.mem_append.1 hp with hp | hp
  ·exact s2 p hp
  ·rw [List.mem_singleton] at hp;rw [hp];exact ht.2
theorem Cls.union {x y:Nat} (h:Cls N T K U H r vr (ps++[(x,y)]) E) {a b:Nat} (ha:a<N) (hb:b<N) (hha:H a=a) (hhb:H b=b) (hab:a≠b) (hxy:(H x=a∧H y=b)∨(H x=b∧H y=a)) (hlow:(T a).f≤(T b).f) {qs:List (Nat×Nat)}
  (hs:¬ (T a).f<0→(T b).f=(T a).f∧(T b).l.length=(T a).l.length∧((T a).l.length≠0→K a≠0∧K b≠0)∧∀ i,i<(T a).l.length→(K a+i,K b+i)∈qs)
  (hq:∀ q∈qs,¬ (T a).f<0∧∃ i,i<(T a).l.length∧q=(K a+i,K b+i)) :
  Cls N T K (upd U a b) (fun m=>if H m=a then b else H m) (fun m=>if H m=a then r m+r b+1 else r m) vr (ps++qs) E:=by
 have hxyN:=h.pss (x,y) (by simp)
 obtain ⟨H',hH'⟩:∃ H':Nat→Nat,H'=fun m=>if H m=a then b else H m:=⟨_,rfl⟩
 have e1:∀ {m},H m=a→H' m=b:=fun e=>by rw [hH'];exact if_pos e
 have e2:∀ {m},H m≠a→H' m=H m:=fun e=>by rw [hH'];exact if_neg e
 rw [←hH']
 have hkids:¬ (T a).f<0→∀ i,i<(T a).l.length→K a+i<N∧K b+i<N∧(T a).l[i]?=some (T (K a+i))∧(T b).l[i]?=some (T (K b+i)):=fun hf i hi=>by
  obtain ⟨_,s2,s3,_⟩:=hs hf
  obtain ⟨k1,k2⟩:=s3 (by omega)
  have p1:=(h.kid a ha k1).2 i hi
  have p2:=(h.kid b hb k2).2 i (by omega)
  exact ⟨p1.1,p2.1,p1.2,p2.2⟩
 have resp:∀ G:Nat→Nat,(∀ m,m<N→G m=G (H' m))→(∀ p∈ps++qs,G p.1=G p.2)→(∀ m,m<N→G m=G (H m))∧∀ p∈ps++[(x,y)],G p.1=G p.2:=fun G g1 g2=>by
  have g3:∀ m,m<N→G m=G (H m):=fun m hm=>by
   by_cases e:H m=a
   ·rw [g1 m hm,e1 e,e,g1 a ha,e1 hha]
   ·rw [g1 m hm,e2 e]
  refine ⟨g3,fun p hp=>?_⟩
  rcases List.mem_append.1 hp with hp | hp
  ·exact g2 p (List.mem_append_left _ hp)
  ·rw [List.mem_singleton] at hp
   rw [hp]
   show G x=G y
   have g4:G a=G b:=by rw [g1 a ha,e1 hha]
   rw [g3 x hxyN.1,g3 y hxyN.2]
   rcases hxy with ⟨c1,c2⟩ | ⟨c1,c2⟩
   ·rw [c1,c2,g4]
   ·rw [c1,c2,g4]
 have con:∀ {p q},Con N H (ps++[(x,y)]) p q→Con N H' (ps++qs) p q:=fun hc G g1 g2=>hc G (resp G g1 g2).1 (resp G g1 g2).2
 have hba:H b≠a:=by rw [hhb];exact Ne.symm hab
 refine ⟨fun n hn=>?_,fun n hn=>?_,fun n hn hne=>?_,fun n hn=>?_,h.kid,fun n hn hf=>?_,h.vrt,fun n hn hf hne=>?_,fun p hp=>?_,fun p hp=>?_,fun τ ht=>?_⟩
 ·by_cases e:H n=a
  ·rw [e1 e,e2 hba];exact ⟨hb,hhb⟩
  ·have:=h.hd n hn
   rw [e2 e,e2 (by rw [this.2];exact e)];exact this
 ·obtain ⟨u1,u2,u3⟩:=h.up n hn
  by_cases e:n=a
  ·subst e
   rw [b8,e1 hha,e2 hba]
   exact ⟨hb,hhb,fun e=>e⟩
  ·rw [n8 e]
   by_cases e3:H n=a
   ·rw [e1 e3,e1 (by rw [u2];exact e3)]
    exact ⟨u1,rfl,fun e4=>by rw [←e4,hhb] at e3;exact absurd e3.symm hab⟩
   ·rw [e2 e3,e2 (by rw [u2];exact e3)]
    exact ⟨u1,u2,u3⟩
 ·obtain ⟨u1,u2,u3⟩:=h.up n hn
  by_cases e:n=a
  ·subst e
   rw [b8,if_neg hba,if_pos hha];omega
  ·rw [n8 e]
   by_cases e3:H n=a
   ·have:=h.rank n hn (by rw [e3];exact Ne.symm e)
    rw [if_pos e3,if_pos (by rw [u2];exact e3)];omega
   ·rw [e2 e3] at hne
    rw [if_neg e3,if_neg (by rw [u2];exact e3)]
    exact h.rank n hn hne
 ·have:=h.low n hn
  by_cases e:H n=a
  ·rw [e1 e];rw [e] at this;omega
  ·rw [e2 e];exact this
 ·obtain ⟨m,h1,h2⟩:=h.vrs n hn hf
  refine ⟨m,h1,?_⟩
  by_cases e:H n=a
  ·rw [e1 e,e1 (by rw [←h2];exact e)]
  ·rw [e2 e,e2 (by rw [←h2];exact e),h2]
 ·by_cases e:H n=a
  ·rw [e1 e]
   by_cases e3:n=a
   ·subst e3
    obtain ⟨s1,s2,s3,s4⟩:=hs hf
    exact ⟨s1,s2,s3,fun i hi G g1 g2=>g2 _ (List.mem_append_right _ (s4 i hi))⟩
   ·obtain ⟨c1,c2,c3,c4⟩:=h.cls n hn hf (by rw [e];exact Ne.symm e3)
    rw [e] at c1 c2 c3 c4
    obtain ⟨s1,s2,s3,s4⟩:=hs (by rw [c1];exact hf)
    refine ⟨by rw [s1,c1],by rw [s2,c2],fun h5=>⟨(c3 h5).1,(s3 (by rw [c2];exact h5)).2⟩,fun i hi G g1 g2=>?_⟩
    rw [con (c4 i hi) G g1 g2]
    exact g2 _ (List.mem_append_right _ (s4 i (by rw [c2];exact hi)))
  ·rw [e2 e] at hne ⊢
   obtain ⟨c1,c2,c3,c4⟩:=h.cls n hn hf hne
   exact ⟨c1,c2,c3,fun i hi=>con (c4 i hi)⟩
 ·rcases List.mem_append.1 hp with hp | hp
  ·exact h.pss p (List.mem_append_left _ hp)
  ·obtain ⟨hf,i,hi,e⟩:=hq p hp
   have:=hkids hf i hi
   rw [e]
   exact ⟨this.1,this.2.1⟩
 ·obtain ⟨n,m,h1,h2,h3,h4,h5⟩:=h.pair p hp
  exact ⟨n,m,h1,h2,h3,h4,con h5⟩
 ·obtain ⟨s1,s2⟩:=h.sound τ ht
  have hxy2:a9 τ (T x)=a9 τ (T y):=s2 (x,y) (by simp)
  have hab2:a9 τ (T a)=a9 τ (T b):=by
   rw [s1 x hxyN.1,s1 y hxyN.2] at hxy2
   rcases hxy with ⟨c1,c2⟩ | ⟨c1,c2⟩
   ·rw [c1,c2] at hxy2;exact hxy2
   ·rw [c1,c2] at hxy2;exact hxy2.symm
  refine ⟨fun n hn=>?_,fun p hp=>?_⟩
  ·by_cases e:H n=a
   ·rw [e1 e,s1 n hn,e,hab2]
   ·rw [e2 e];exact s1 n hn
  ·rcases List.mem_append.1 hp with hp | hp
   ·exact s2 p (List.mem_append_left _ hp)
   ·obtain ⟨hf,i,hi,e⟩:=hq p hp
    obtain ⟨_,_,k3,k4⟩:=hkids hf i hi
    rw [e]
    obtain ⟨s3,s4,_⟩:=hs hf
    rw [d8 hf,d8 (by rw [s3];exact hf)] at hab2
    have:=congrArg (fun t:Tm=>t.l[i]?) hab2
    simp only [List.getElem?_map,k3,k4,Option.map_some,Option.some.injEq] at this
    exact this
theorem Cls.clash {x y:Nat} (h:Cls N T K U H r vr (ps++[(x,y)]) E) {a b:Nat} (hxy:(H x=a∧H y=b)∨(H x=b∧H y=a)) (hfa:¬ (T a).f<0) (hfb:¬ (T b).f<0) (hc:(T a).f≠(T b).f∨(T a).l.length≠(T b).l.length) (τ:Int→Tm):¬ uni τ E:=by
 intro ht
 have hxyN:=h.pss (x,y) (by simp)
 obtain ⟨s1,s2⟩:=h.sound τ ht
 have hxy2:a9 τ (T x)=a9 τ (T y):=s2 (x,y) (by simp)
 have hab2:a9 τ (T a)=a9 τ (T b):=by
  rw [s1 x hxyN.1,s1 y hxyN.2] at hxy2
  rcases hxy with ⟨c1,c2⟩ | ⟨c1,c2⟩
  ·rw [c1,c2] at hxy2;exact hxy2
  ·rw [c1,c2] at hxy2;exact hxy2.symm
 rw [d8 hfa,d8 hfb] at hab2
 have h4:=congrArg Tm.f hab2
 have h5:=congrArg (fun t:Tm=>t.l.length) hab2
 simp only [List.length_map] at h4 h5
 rcases hc with hc | hc
 ·exact hc h4
 ·exact hc h5
theorem Cls.joined (h:Cls N T K U H r vr [] E) (hk:∀ n,n<N→¬ (T n).f<0→(T n).l.length≠0→K n≠0):Joined N T H K E:=by
 have con:∀ {p q},Con N H [] p q→H p=H q:=fun hc=>hc H (fun m hm=>(h.hd m hm).2.symm) (fun p hp=>by cases hp)
 refine ⟨h.hd,h.low,fun n hn hf i p hp=>?_,fun n hn hf=>?_,fun n m hn hm hf e=>?_,fun p hp=>?_,fun τ ht=>(h.sound τ ht).1⟩
 ·have hi:i<(T n).l.length:=by
   rcases Nat.lt_or_ge i (T n).l.length with h1 | h1
   ·exact h1
   ·rw [List.getElem?_eq_none h1] at hp;cases hp
  obtain ⟨k1,k2⟩:=(h.kid n hn (hk n hn hf (by omega))).2 i hi
  rw [k2] at hp
  exact ⟨k1,Option.some.inj hp⟩
 ·by_cases e:H n=n
  ·rw [e];exact ⟨rfl,rfl,fun _ _=>rfl⟩
  ·obtain ⟨c1,c2,c3,c4⟩:=h.cls n hn hf e
   exact ⟨c1,c2,fun i hi=>con (c4 i hi)⟩
 ·obtain ⟨a,a1,a2⟩:=h.vrs n hn hf
  obtain ⟨b,b1,b2⟩:=h.vrs m hm (by rw [←e];exact hf)
  rw [←e,a1] at b1
  rw [a2,b2,Option.some.inj b1]
 ·obtain ⟨n,m,h1,h2,h3,h4,h5⟩:=h.pair p hp
  exact ⟨n,m,h1,h2,h3,h4,con h5⟩
end
theorem Cls.congr {N:Nat} {T T':Nat→Tm} {K K' U U' H H' r:Nat→Nat} {vr ps E} (h:Cls N T K U H r vr ps E) (hT:∀ n,n<N→T' n=T n) (hK:∀ n,n<N→K' n=K n) (hU:∀ n,n<N→U' n=U n) (hH:∀ n,n<N→H' n=H n):Cls N T' K' U' H' r vr ps E:=by
 have con:∀ {x y},Con N H ps x y→Con N H' ps x y:=fun hc G g1 g2=>hc G (fun m hm=>by rw [g1 m hm,hH m hm]) g2
 refine ⟨fun n hn=>?_,fun n hn=>?_,fun n hn hne=>?_,fun n hn=>?_,fun n hn hk=>?_,fun n hn hf=>?_,fun v m hl=>?_,fun n hn hf hne=>?_,h.pss,fun p hp=>?_,fun τ ht=>?_⟩
 ·have:=h.hd n hn;rw [hH n hn,hH _ this.1];exact this
 ·have:=h.up n hn;rw [hU n hn,hH n hn,hH _ this.1];exact this
 ·rw [hH n hn] at hne;rw [hU n hn];exact h.rank n hn hne
 ·rw [hH n hn,hT n hn,hT _ (h.hd n hn).1];exact h.low n hn
 ·rw [hK n hn] at hk ⊢
  rw [hT n hn]
  obtain ⟨h1,h2⟩:=h.kid n hn hk
  refine ⟨h1,fun i hi=>?_⟩
  have:=h2 i hi
  rw [hT _ this.1];exact this
 ·rw [hT n hn] at hf ⊢
  obtain ⟨m,h1,h2⟩:=h.vrs n hn hf
  exact ⟨m,h1,by rw [hH n hn,hH m (h.vrt _ m h1).1];exact h2⟩
 ·have:=h.vrt v m hl;rw [hT m this.1];exact this
 ·have h1:=(h.hd n hn).1
  rw [hT n hn] at hf ⊢
  rw [hH n hn] at hne ⊢
  rw [hT _ h1,hK n hn,hK _ h1]
  obtain ⟨c1,c2,c3,c4⟩:=h.cls n hn hf hne
  exact ⟨c1,c2,c3,fun i hi=>con (c4 i hi)⟩
 ·obtain ⟨n,m,h1,h2,h3,h4,h5⟩:=h.pair p hp
  exact ⟨n,m,h1,h2,by rw [hT n h1];exact h3,by rw [hT m h2];exact h4,con h5⟩
 ·obtain ⟨s1,s2⟩:=h.sound τ ht
  refine ⟨fun n hn=>?_,fun p hp=>?_⟩
  ·rw [hH n hn,hT n hn,hT _ (h.hd n hn).1];exact s1 n hn
  ·have:=h.pss p hp
   rw [hT _ this.1,hT _ this.2];exact s2 p hp
structure Nd where
 t:Tm
 fi:Nat
 up:Nat
 us:Int
def ndD:Nd:=⟨⟨0,[]⟩,0,0,0⟩
def nT (ns:List Nd) (n:Nat):Tm:=(ns.getD n ndD).t
def nK (ns:List Nd) (n:Nat):Nat:=(ns.getD n ndD).fi
def nU (ns:List Nd) (n:Nat):Nat:=(ns.getD n ndD).up
def nS (ns:List Nd) (n:Nat):Int:=(ns.getD n ndD).us
def setFi (ns:List Nd) (n k:Nat):List Nd:=ns.set n { ns.getD n ndD with fi:=k }
def setUp (ns:List Nd) (n k:Nat):List Nd:=ns.set n { ns.getD n ndD with up:=k }
structure Cl where
 ns:List Nd
 vr:List (Int×Nat)
 ps:List (Nat×Nat)
def ClsC (c:Cl) (H r:Nat→Nat) (E:List (Tm×Tm)):Prop:=Cls c.ns.length (nT c.ns) (nK c.ns) (nU c.ns) H r c.vr c.ps E
theorem a3c {ns:List Nd} {x:Nd} {n:Nat} (h:n<ns.length):(ns++[x]).getD n ndD=ns.getD n ndD:=by
 rw [List.getD_eq_getElem?_getD,List.getD_eq_getElem?_getD,List.getElem?_append_left h]
theorem E8 {ns:List Nd} {x:Nd}:(ns++[x]).getD ns.length ndD=x:=by
 rw [List.getD_eq_getElem?_getD,List.getElem?_append_right (Nat.le_refl _),Nat.sub_self];rfl
theorem V6 {ns:List Nd} {x:Nd} {n m:Nat} (h:n<ns.length):(ns.set n x).getD m ndD=if m=n then x else ns.getD m ndD:=by
 rw [List.getD_eq_getElem?_getD,List.getElem?_set]
 by_cases e:m=n
 ·subst e;rw [if_pos rfl,if_pos h,if_pos rfl];rfl
 ·rw [if_neg (Ne.symm e),if_neg e,List.getD_eq_getElem?_getD]
theorem a3A {α:Type} (g:Nd→α) {ns:List Nd} {x:Nd} {n:Nat} (hn:n<ns.length+1):g ((ns++[x]).getD n ndD)=upd (fun m=>g (ns.getD m ndD)) ns.length (g x) n:=by
 rcases Nat.lt_or_ge n ns.length with h | h
 ·rw [a3c h,n8 (by omega)]
 ·have:n=ns.length:=by omega
  rw [this,E8,b8]
def S2 (c:Cl) (t:Tm):Nat:=if t.f<0 then (n7 c.vr (-1-t.f)).getD c.ns.length else c.ns.length
def addV (c:Cl) (t:Tm):List (Int×Nat):=if t.f<0 then (match n7 c.vr (-1-t.f) with | some _=>c.vr | none=>c.vr++[(-1-t.f,c.ns.length)]) else c.vr
def o9 (c:Cl) (t:Tm):Cl:=⟨c.ns++[⟨t,0,S2 c t,0⟩],addV c t,c.ps⟩
theorem v7 (c:Cl) (t:Tm):(o9 c t).ns.length=c.ns.length+1:=by simp [o9]
theorem a0X (c:Cl) (t:Tm) {n:Nat} (h:n<c.ns.length):(o9 c t).ns.getD n ndD=c.ns.getD n ndD:=a3c h
theorem ClsC.add {c:Cl} {H r:Nat→Nat} {E} (h:ClsC c H r E) (t:Tm):∃ H' r',ClsC (o9 c t) H' r' E∧(∀ n,n<c.ns.length→H' n=H n)∧(¬ t.f<0→H' c.ns.length=c.ns.length):=by
 have hx:S2 c t≤c.ns.length∧(S2 c t<c.ns.length→t.f<0∧(nT c.ns (S2 c t)).f=t.f)∧(t.f<0→n7 (addV c t) (-1-t.f)=some (S2 c t))∧(∀ v m,n7 c.vr v=some m→n7 (addV c t) v=some m)∧(∀ v m,n7 (addV c t) v=some m→n7 c.vr v=some m∨(m=c.ns.length∧t.f = -1-v)):=by
  unfold S2 addV
  by_cases hf:t.f<0
  ·rw [if_pos hf,if_pos hf]
   cases hl:n7 c.vr (-1-t.f) with
   | some m =>
    have:=h.vrt _ m hl
    refine ⟨by simpa using Nat.le_of_lt this.1,fun _=>⟨hf,?_⟩,fun _=>hl,fun v m h=>h,fun v m h => .inl h⟩
    show (nT c.ns m).f=t.f
    rw [this.2];omega
   | none =>
    refine ⟨Nat.le_refl _,fun h=>absurd h (Nat.lt_irrefl _),fun _=>?_,fun v m h=>?_,fun v m h=>?_⟩
    ·show n7 (c.vr++_) _=_
     rw [Q6,hl,if_pos rfl];rfl
    ·show n7 (c.vr++_) _=_
     rw [Q6,h];rfl
    ·have h:n7 (c.vr++_) _=_:=h
     rw [Q6] at h
     cases hv:n7 c.vr v with
     | some q=>rw [hv] at h;exact .inl h
     | none =>
      rw [hv] at h
      have h:(if -1-t.f=v then some c.ns.length else none)=some m:=h
      split at h
      ·rename_i e
       cases h
       exact .inr ⟨rfl,by omega⟩
      ·cases h
  ·rw [if_neg hf,if_neg hf]
   exact ⟨Nat.le_refl _,fun h=>absurd h (Nat.lt_irrefl _),fun h=>absurd h hf,fun v m h=>h,fun v m h => .inl h⟩
 obtain ⟨x1,x2,x3,x4,x5⟩:=hx
 have h1:=Cls.add h x1 x2 x4 x5 x3
 refine ⟨upd H c.ns.length (if S2 c t=c.ns.length then c.ns.length else H (S2 c t)),upd r c.ns.length (if S2 c t=c.ns.length then 0 else r (S2 c t)+1),?_,fun n hn=>n8 (by omega),fun hf=>?_⟩
 ·unfold ClsC
  rw [v7]
  exact h1.congr (fun n hn=>a3A Nd.t hn) (fun n hn=>a3A Nd.fi hn) (fun n hn=>a3A Nd.up hn) fun n hn=>rfl
 ·rw [b8,if_pos]
  unfold S2
  rw [if_neg hf]
def addAll (c:Cl) (l:List Tm):Cl:=l.foldl o9 c
theorem P8 (l:List Tm):∀ c:Cl,(addAll c l).ns.length=c.ns.length+l.length:=by
 induction l with
 | nil=>exact fun c=>rfl
 | cons t l ih=>intro c;rw [show addAll c (t::l)=addAll (o9 c t) l from rfl,ih,v7,List.length_cons];omega
theorem B5 (l:List Tm):∀ (c:Cl) {n:Nat},n<c.ns.length→(addAll c l).ns.getD n ndD=c.ns.getD n ndD:=by
 induction l with
 | nil=>exact fun c n _=>rfl
 | cons t l ih =>
  intro c n hn
  rw [show addAll c (t::l)=addAll (o9 c t) l from rfl,ih _ (by rw [v7];omega),a0X c t hn]
theorem b2T (l:List Tm):∀ (c:Cl),(addAll c l).ps=c.ps:=by
 induction l with
 | nil=>exact fun c=>rfl
 | cons t l ih=>intro c;exact ih _
theorem a3e (l:List Tm):∀ (c:Cl) {i:Nat},i<l.length→l[i]?=some (nT (addAll c l).ns (c.ns.length+i))∧nK (addAll c l).ns (c.ns.length+i)=0:=by
 induction l with
 | nil=>intro c i hi;simp at hi
 | cons t l ih =>
  intro c i hi
  rw [show addAll c (t::l)=addAll (o9 c t) l from rfl]
  cases i with
  | zero =>
   unfold nT nK
   rw [Nat.add_zero,B5 l _ (by rw [v7];omega)]
   unfold o9
   rw [E8]
   exact ⟨rfl,rfl⟩
  | succ i =>
   have:=ih (o9 c t) (i:=i) (by simpa using hi)
   rw [v7] at this
   rw [show c.ns.length+(i+1)=c.ns.length+1+i by omega]
   exact ⟨by rw [List.getElem?_cons_succ];exact this.1,this.2⟩
theorem ClsC.addAll (l:List Tm):∀ {c:Cl} {H r:Nat→Nat} {E},ClsC c H r E→∃ H' r',ClsC (addAll c l) H' r' E∧(∀ n,n<c.ns.length→H' n=H n):=by
 induction l with
 | nil=>exact fun {c H r E} h=>⟨H,r,h,fun n _=>rfl⟩
 | cons t l ih =>
  intro c H r E h
  obtain ⟨H1,r1,g1,g2,_⟩:=h.add t
  obtain ⟨H2,r2,k1,k2⟩:=ih g1
  exact ⟨H2,r2,k1,fun n hn=>by rw [k2 n (by rw [v7];omega),g2 n hn]⟩
def Cl.setFi (c:Cl) (n k:Nat):Cl:=⟨Go.Proofs.YtglmoficcjphaaaGreat.setFi c.ns n k,c.vr,c.ps⟩
theorem a9p (c:Cl) (t:Tm) {n k:Nat} (hn:n<c.ns.length):o9 (c.setFi n k) t=(o9 c t).setFi n k:=by
 unfold o9 Cl.setFi S2 addV setFi
 simp only [List.length_set]
 congr 1
 rw [List.set_append_left _ _ hn,a3c hn]
theorem H8 (l:List Tm):∀ (c:Cl) {n k:Nat},n<c.ns.length→Go.Proofs.YtglmoficcjphaaaGreat.addAll (c.setFi n k) l=(Go.Proofs.YtglmoficcjphaaaGreat.addAll c l).setFi n k:=by
 induction l with
 | nil=>exact fun c n k _=>rfl
 | cons t l ih =>
  intro c n k hn
  show Go.Proofs.YtglmoficcjphaaaGreat.addAll (o9 (c.setFi n k) t) l=_
  rw [a9p c t hn,ih _ (by rw [v7];omega)]
  rfl
theorem P9 {ns:List Nd} {n k m:Nat} (h:n<ns.length):(setFi ns n k).getD m ndD=if m=n then { ns.getD n ndD with fi:=k } else ns.getD m ndD:=V6 h
theorem P7 {ns:List Nd} {n k m:Nat} (h:n<ns.length):(setUp ns n k).getD m ndD=if m=n then { ns.getD n ndD with up:=k } else ns.getD m ndD:=V6 h
theorem K5 {ns:List Nd} {n k m:Nat} (h:n<ns.length):nT (setFi ns n k) m=nT ns m:=by
 unfold nT;rw [P9 h];split
 ·rename_i e;rw [e]
 ·rfl
theorem b4g {ns:List Nd} {n k m:Nat} (h:n<ns.length):nU (setFi ns n k) m=nU ns m:=by
 unfold nU;rw [P9 h];split
 ·rename_i e;rw [e]
 ·rfl
theorem F3 {ns:List Nd} {n k m:Nat} (h:n<ns.length):nK (setFi ns n k) m=upd (nK ns) n k m:=by
 unfold nK upd;rw [P9 h];split<;>rfl
theorem O8 {ns:List Nd} {n k m:Nat} (h:n<ns.length):nT (setUp ns n k) m=nT ns m:=by
 unfold nT;rw [P7 h];split
 ·rename_i e;rw [e]
 ·rfl
theorem O4 {ns:List Nd} {n k m:Nat} (h:n<ns.length):nK (setUp ns n k) m=nK ns m:=by
 unfold nK;rw [P7 h];split
 ·rename_i e;rw [e]
 ·rfl
theorem b4n {ns:List Nd} {n k m:Nat} (h:n<ns.length):nS (setUp ns n k) m=nS ns m:=by
 unfold nS;rw [P7 h];split
 ·rename_i e;rw [e]
 ·rfl
theorem a0t {ns:List Nd} {n k m:Nat} (h:n<ns.length):nU (setUp ns n k) m=upd (nU ns) n k m:=by
 unfold nU upd;rw [P7 h];split<;>rfl
theorem E0 {ns:List Nd} {n k:Nat}:(setUp ns n k).length=ns.length:=List.length_set
theorem O1 {ns:List Nd} {n k:Nat}:(setFi ns n k).length=ns.length:=List.length_set
def pC (c:Cl) (n:Nat):Cl×Nat×Nat:=
 if (nT c.ns n).f<0∨(nT c.ns n).l.length=0 then (c,0,0)
 else if nK c.ns n=0 then (Go.Proofs.YtglmoficcjphaaaGreat.addAll (c.setFi n c.ns.length) (nT c.ns n).l,c.ns.length,c.ns.length+(nT c.ns n).l.length)
 else (c,nK c.ns n,nK c.ns n+(nT c.ns n).l.length)
structure Grew (c c':Cl) (H H':Nat→Nat):Prop where
 len:c.ns.length≤c'.ns.length
 tm:∀ m,m<c.ns.length→nT c'.ns m=nT c.ns m
 kd:∀ m,m<c.ns.length→nK c.ns m≠0→nK c'.ns m=nK c.ns m
 us:∀ m,m<c.ns.length→nS c'.ns m=nS c.ns m
 hd:∀ m,m<c.ns.length→H' m=H m
 ps:c'.ps=c.ps
theorem Grew.refl (c:Cl) (H:Nat→Nat):Grew c c H H:=⟨Nat.le_refl _,fun _ _=>rfl,fun _ _ _=>rfl,fun _ _=>rfl,fun _ _=>rfl,rfl⟩
theorem Grew.trans {c c' c'':Cl} {H H' H'':Nat→Nat} (h:Grew c c' H H') (g:Grew c' c'' H' H''):Grew c c'' H H'':=by
 have l:=h.len
 refine ⟨Nat.le_trans h.len g.len,fun m hm=>?_,fun m hm hk=>?_,fun m hm=>?_,fun m hm=>?_,g.ps.trans h.ps⟩
 ·rw [g.tm m (by omega),h.tm m hm]
 ·rw [g.kd m (by omega) (by rw [h.kd m hm hk];exact hk),h.kd m hm hk]
 ·rw [g.us m (by omega),h.us m hm]
 ·rw [g.hd m (by omega),h.hd m hm]
theorem ClsC.parts {c:Cl} {H r:Nat→Nat} {E} (h:ClsC c H r E) {n:Nat} (hn:n<c.ns.length):∃ H' r',ClsC (pC c n).1 H' r' E∧Grew c (pC c n).1 H H'∧((nT c.ns n).f<0∨(nT c.ns n).l.length=0→(pC c n).2=(0,0))∧(¬ ((nT c.ns n).f<0∨(nT c.ns n).l.length=0)→nK (pC c n).1.ns n≠0∧(pC c n).2=(nK (pC c n).1.ns n,nK (pC c n).1.ns n+(nT c.ns n).l.length)):=by
 unfold pC
 split
 ·rename_i hv
  exact ⟨H,r,h,Grew.refl c H,fun _=>rfl,fun hc=>absurd hv hc⟩
 ·rename_i hv
  split
  ·rename_i hk
   obtain ⟨H1,r1,g1,g2⟩:=ClsC.addAll (nT c.ns n).l h
   rw [H8 _ c hn]
   obtain ⟨l,hl⟩:∃ l,l=(nT c.ns n).l:=⟨_,rfl⟩
   rw [←hl] at g1 hv ⊢
   have hlen:=P8 l c
   have hn':n<(Go.Proofs.YtglmoficcjphaaaGreat.addAll c l).ns.length:=by omega
   have ht:∀ m,m<c.ns.length→nT (Go.Proofs.YtglmoficcjphaaaGreat.addAll c l).ns m=nT c.ns m:=fun m hm=>by unfold nT;rw [B5 l c hm]
   have hkk:∀ m,m<c.ns.length→nK (Go.Proofs.YtglmoficcjphaaaGreat.addAll c l).ns m=nK c.ns m:=fun m hm=>by unfold nK;rw [B5 l c hm]
   have hss:∀ m,m<c.ns.length→nS (Go.Proofs.YtglmoficcjphaaaGreat.addAll c l).ns m=nS c.ns m:=fun m hm=>by unfold nS;rw [B5 l c hm]
   have hfs:¬ (nT c.ns n).f<0:=fun e=>hv (.inl e)
   have g3:Cls _ _ (upd (nK (Go.Proofs.YtglmoficcjphaaaGreat.addAll c l).ns) n c.ns.length) _ _ _ _ _ _:=Cls.setK g1 hn' (by rw [hkk n hn];exact hk) (by rw [ht n hn];exact hfs) fun i hi=>by
    rw [ht n hn,←hl] at hi ⊢
    exact ⟨by omega,(a3e l c hi).1⟩
   refine ⟨H1,r1,?_,⟨?_,fun m hm=>?_,fun m hm hk2=>?_,fun m hm=>?_,g2,b2T l c⟩,fun e=>absurd e hv,fun _=>?_⟩
   ·unfold ClsC
    show Cls (setFi _ _ _).length (nT (setFi _ _ _)) (nK (setFi _ _ _)) (nU (setFi _ _ _)) _ _ _ _ _
    rw [O1]
    exact g3.congr (fun m _=>K5 hn') (fun m _=>F3 hn') (fun m _=>b4g hn') fun m _=>rfl
   ·show _≤(setFi _ _ _).length
    rw [O1];omega
   ·show nT (setFi _ _ _) m=_
    rw [K5 hn',ht m hm]
   ·show nK (setFi _ _ _) m=_
    rw [F3 hn',n8 (fun e=>hk2 (by rw [e];exact hk)),hkk m hm]
   ·show nS (setFi _ _ _) m=_
    unfold nS
    rw [P9 hn',←show nS (Go.Proofs.YtglmoficcjphaaaGreat.addAll c l).ns m=(c.ns.getD m ndD).us from hss m hm]
    split
    ·rename_i e;rw [e];rfl
    ·rfl
   ·have:nK (setFi (Go.Proofs.YtglmoficcjphaaaGreat.addAll c l).ns n c.ns.length) n=c.ns.length:=by rw [F3 hn',b8]
    show nK (setFi _ _ _) n≠0∧(c.ns.length,c.ns.length+l.length)=(nK (setFi _ _ _) n,nK (setFi _ _ _) n+l.length)
    rw [this]
    exact ⟨by omega,rfl⟩
  ·rename_i hk
   exact ⟨H,r,h,Grew.refl c H,fun e=>absurd e hv,fun _=>⟨hk,rfl⟩⟩
def n9:Nat→List Nd→Nat→Option (List Nd×Nat)
 | 0,_,_=>none
 | k+1,ns,n=>if nU ns n=n then some (ns,n) else n9 k (setUp ns n (nU ns (nU ns n))) (nU (setUp ns n (nU ns (nU ns n))) n)
theorem a3p:∀ (k:Nat) (ns:List Nd) (n:Nat) (r),n9 k ns n=some r→n9 (k+1) ns n=some r
 | 0,_,_,_,e=>by cases e
 | k+1,ns,n,r,e=>by
  rw [n9] at e ⊢
  split
  ·rename_i h;rw [if_pos h] at e;exact e
  ·rename_i h;rw [if_neg h] at e;exact a3p k _ _ _ e
theorem K9 {k m:Nat} (h:k≤m) {ns:List Nd} {n:Nat} {r} (e:n9 k ns n=some r):n9 m ns n=some r:=by
 induction h with
 | refl=>exact e
 | step _ ih=>exact a3p _ _ _ _ ih
theorem ClsC.head {vr ps} {H r:Nat→Nat} {E}:∀ (k:Nat) {ns:List Nd} {n:Nat},ClsC ⟨ns,vr,ps⟩ H r E→n<ns.length→r n<k→∃ ns',n9 k ns n=some (ns',H n)∧ClsC ⟨ns',vr,ps⟩ H r E∧ns'.length=ns.length∧(∀ m,nT ns' m=nT ns m)∧(∀ m,nK ns' m=nK ns m)∧∀ m,nS ns' m=nS ns m
 | 0,ns,n,h,hn,hr=>by omega
 | k+1,ns,n,h,hn,hr=>by
  obtain ⟨u1,u2,u3⟩:=h.up n hn
  rw [n9]
  by_cases e:nU ns n=n
  ·rw [if_pos e]
   have hh:H n=n:=Decidable.byContradiction fun hne=>by
    have h1:r (nU ns n)<r n:=h.rank n hn hne
    rw [e] at h1;omega
   exact ⟨ns,by rw [hh],h,rfl,fun _=>rfl,fun _=>rfl,fun _=>rfl⟩
  ·rw [if_neg e]
   have hne:H n≠n:=fun e2=>e (u3 e2)
   have r1:r (nU ns n)<r n:=h.rank n hn hne
   obtain ⟨v1,v2,v3⟩:=h.up (nU ns n) u1
   have u1':nU ns n<ns.length:=u1
   have v1':nU ns (nU ns n)<ns.length:=v1
   have hU:nU (setUp ns n (nU ns (nU ns n))) n=nU ns (nU ns n):=by rw [a0t hn,b8]
   have hc:ClsC ⟨setUp ns n (nU ns (nU ns n)),vr,ps⟩ H r E:=by
    unfold ClsC
    show Cls (setUp _ _ _).length _ _ _ _ _ _ _ _
    rw [E0]
    exact (Cls.halve h hn).congr (fun m _=>O8 hn) (fun m _=>O4 hn) (fun m _=>a0t hn) fun m _=>rfl
   have r2:r (nU ns (nU ns n))≤r (nU ns n):=by
    by_cases e2:H (nU ns n)=nU ns n
    ·rw [show nU ns (nU ns n)=nU ns n from v3 e2];exact Nat.le_refl _
    ·exact Nat.le_of_lt (h.rank _ u1 e2)
   rw [hU]
   obtain ⟨ns',g1,g2,g3,g4,g5,g6⟩:=ClsC.head k hc (n:=nU ns (nU ns n)) (by rw [E0];exact v1') (by omega)
   refine ⟨ns',?_,g2,by rw [g3,E0],fun m=>by rw [g4,O8 hn],fun m=>by rw [g5,O4 hn],fun m=>by rw [g6,b4n hn]⟩
   rw [g1,show H (nU ns (nU ns n))=H n from v2.trans u2]
def b7 (f:Nat→Nat):Nat→Nat
 | 0=>0
 | n+1=>b7 f n+f n
theorem o7 {f g:Nat→Nat}:∀ {N:Nat},(∀ n,n<N→f n=g n)→b7 f N=b7 g N
 | 0,_=>rfl
 | N+1,h=>by rw [b7,b7,o7 fun n hn=>h n (by omega),h N (by omega)]
theorem I7 {f:Nat→Nat} {n x:Nat}:∀ {N:Nat},n<N→b7 (upd f n x) N+f n=b7 f N+x
 | 0,h=>by omega
 | N+1,h=>by
  rw [b7,b7]
  by_cases e:n=N
  ·subst e
   rw [b8,o7 (g:=f) fun m hm=>n8 (by omega)];omega
  ·rw [n8 (Ne.symm e)]
   have:=I7 (f:=f) (n:=n) (x:=x) (N:=N) (by omega)
   omega
def wgt (ns:List Nd) (n:Nat):Nat:=if nK ns n≠0 then (nT ns n).l.length else 2*(nT ns n).size-1
def hw (ns:List Nd) (H:Nat→Nat) (n:Nat):Nat:=if H n=n then wgt ns n else 0
theorem a1d {ns ns':List Nd} {H H':Nat→Nat} {n:Nat} (h1:nT ns' n=nT ns n) (h2:nK ns' n=nK ns n) (h3:H' n=H n):hw ns' H' n=hw ns H n:=by
 unfold hw wgt;rw [h1,h2,h3]
theorem b7b (c:Cl) (t:Tm) {H H':Nat→Nat} (hH:∀ n,n<c.ns.length→H' n=H n):b7 (hw (o9 c t).ns H') (c.ns.length+1)≤b7 (hw c.ns H) c.ns.length+(2*t.size-1):=by
 rw [b7,o7 (g:=hw c.ns H) fun n hn=>a1d (by unfold nT;rw [a0X c t hn]) (by unfold nK;rw [a0X c t hn]) (hH n hn)]
 have h1:nT (o9 c t).ns c.ns.length=t:=by unfold nT o9;rw [E8]
 have h2:nK (o9 c t).ns c.ns.length=0:=by unfold nK o9;rw [E8]
 have:hw (o9 c t).ns H' c.ns.length≤2*t.size-1:=by
  unfold hw wgt
  rw [h1,h2]
  split
  ·rw [if_neg (by simp)];exact Nat.le_refl _
  ·exact Nat.zero_le _
 omega
def szs (l:List Tm):Nat:=(l.map fun t=>2*t.size-1).sum
theorem b8Z (l:List Tm):szs l+l.length=2*(l.map Tm.size).sum:=by
 unfold szs
 induction l with
 | nil=>rfl
 | cons t l ih =>
  rw [List.map_cons,List.map_cons,List.sum_cons,List.sum_cons,List.length_cons]
  have:=t.size_pos
  omega
theorem a9G (l:List Tm):∀ (c:Cl) {H H':Nat→Nat},(∀ n,n<c.ns.length→H' n=H n)→b7 (hw (addAll c l).ns H') (c.ns.length+l.length)≤b7 (hw c.ns H) c.ns.length+szs l:=by
 induction l with
 | nil =>
  intro c H H' hH
  rw [List.length_nil,Nat.add_zero]
  have:b7 (hw (addAll c []).ns H') c.ns.length=b7 (hw c.ns H) c.ns.length:=o7 fun n hn=>a1d rfl rfl (hH n hn)
  rw [this]
  exact Nat.le_add_right _ _
 | cons t l ih =>
  intro c H H' hH
  have h1:=b7b c t hH
  have h2:=ih (o9 c t) (H:=H') (H':=H') fun _ _=>rfl
  rw [v7] at h2
  rw [show addAll c (t::l)=addAll (o9 c t) l from rfl,List.length_cons,show c.ns.length+(l.length+1)=c.ns.length+1+l.length by omega]
  have h3:szs (t::l)=(2*t.size-1)+szs l:=by unfold szs;rw [List.map_cons,List.sum_cons]
  omega
theorem a4R (c:Cl) {n:Nat} (hn:n<c.ns.length) {H H':Nat→Nat} (hh:H n=n) (hH:∀ n,n<c.ns.length→H' n=H n):b7 (hw (pC c n).1.ns H') (pC c n).1.ns.length≤b7 (hw c.ns H) c.ns.length:=by
 have triv:b7 (hw c.ns H') c.ns.length≤b7 (hw c.ns H) c.ns.length:=by
  rw [o7 (g:=hw c.ns H) fun n hn=>a1d rfl rfl (hH n hn)];exact Nat.le_refl _
 unfold pC
 split
 ·exact triv
 ·rename_i hv
  split
  ·rename_i hk
   rw [H8 _ c hn]
   obtain ⟨l,hl⟩:∃ l,l=(nT c.ns n).l:=⟨_,rfl⟩
   rw [←hl]
   have hlen:=P8 l c
   have hn':n<(addAll c l).ns.length:=by omega
   have ht:nT (addAll c l).ns n=nT c.ns n:=by unfold nT;rw [B5 l c hn]
   have hkk:nK (addAll c l).ns n=nK c.ns n:=by unfold nK;rw [B5 l c hn]
   show b7 (hw (setFi _ _ _) H') (setFi _ _ _).length≤_
   rw [O1]
   have h1:b7 (hw (setFi (addAll c l).ns n c.ns.length) H') (addAll c l).ns.length=b7 (upd (hw (addAll c l).ns H') n l.length) (addAll c l).ns.length:=o7 fun m hm=>by
    by_cases e:m=n
    ·subst e
     rw [b8]
     unfold hw wgt
     rw [K5 hn',F3 hn',b8,hH m hn,hh,if_pos rfl,if_pos (by omega),ht,hl]
    ·rw [n8 e]
     exact a1d (K5 hn') (by rw [F3 hn',n8 e]) rfl
   have h2:=I7 (f:=hw (addAll c l).ns H') (x:=l.length) hn'
   have h3:=a9G l c hH
   have h4:hw (addAll c l).ns H' n=2*(nT c.ns n).size-1:=by
    unfold hw wgt
    rw [hH n hn,hh,if_pos rfl,hkk,hk,if_neg (by simp),ht]
   have h5:=b8Z l
   have h6:=Tm.size_sym (t:=nT c.ns n) (fun e=>hv (.inl e))
   rw [←hl] at h6
   rw [h1]
   rw [hlen] at h2 ⊢
   omega
  ·exact triv
def a4w (c:Cl) (a b:Nat):Cl:=
 ⟨(pC (pC c a).1 b).1.ns,(pC (pC c a).1 b).1.vr,(pC (pC c a).1 b).1.ps++(List.range ((pC c a).2.2-(pC c a).2.1)).reverse.map fun i=>((pC c a).2.1+i,(pC (pC c a).1 b).2.1+i)⟩
def Cl.setUp (c:Cl) (n k:Nat):Cl:=⟨Go.Proofs.YtglmoficcjphaaaGreat.setUp c.ns n k,c.vr,c.ps⟩
def joinTo (c:Cl) (a b:Nat):Cl×Bool:=
 if (nT c.ns a).f<0 then (c.setUp a b,true)
 else if (nT c.ns a).f≠(nT c.ns b).f∨(nT c.ns a).l.length≠(nT c.ns b).l.length then (c,false)
 else ((a4w c a b).setUp a b,true)
def B8 (k:Nat) (c:Cl) (x y:Nat):Option (Cl×Bool):=match n9 k c.ns x with
 | none=>none
 | some q=>match n9 k q.1 y with
  | none=>none
  | some q'=>if q.2=q'.2 then some (⟨q'.1,c.vr,c.ps⟩,true)
   else if (nT q'.1 q'.2).f<(nT q'.1 q.2).f then some (joinTo ⟨q'.1,c.vr,c.ps⟩ q'.2 q.2)
   else some (joinTo ⟨q'.1,c.vr,c.ps⟩ q.2 q'.2)
theorem a0E {k m:Nat} (h:k≤m) {c:Cl} {x y:Nat} {r} (e:B8 k c x y=some r):B8 m c x y=some r:=by
 unfold B8 at e ⊢
 cases h1:n9 k c.ns x with
 | none=>rw [h1] at e;cases e
 | some q =>
  rw [h1] at e
  rw [K9 h h1]
  simp only at e ⊢
  cases h2:n9 k q.1 y with
  | none=>rw [h2] at e;cases e
  | some q' =>
   rw [h2] at e
   rw [K9 h h2]
   exact e
def mea (c:Cl) (H:Nat→Nat):Nat:=c.ps.length+b7 (hw c.ns H) c.ns.length
def c1A (c:Cl) (M:Nat) (E:List (Tm×Tm)) (q:Cl×Bool):Prop:=(q.2=false→∀ τ,¬ uni τ E)∧(q.2=true→∃ H' r',ClsC q.1 H' r' E∧mea q.1 H'<M)
theorem a1T {ns vr ps x y} {H r:Nat→Nat} {E} (h:ClsC ⟨ns,vr,ps++[(x,y)]⟩ H r E) {a b:Nat} (ha:a<ns.length) (hb:b<ns.length) (hha:H a=a) (hhb:H b=b) (hab:a≠b) (hxy:(H x=a∧H y=b)∨(H x=b∧H y=a)) (hlow:(nT ns a).f≤(nT ns b).f):c1A ⟨ns,vr,ps⟩ (mea ⟨ns,vr,ps++[(x,y)]⟩ H) E (joinTo ⟨ns,vr,ps⟩ a b):=by
 have h0:Cls ns.length (nT ns) (nK ns) (nU ns) H r vr (ps++[(x,y)]) E:=h
 have wH:∀ (ns':List Nd) (H1:Nat→Nat),(∀ m,m<ns'.length→H1 m<ns'.length∧H1 (H1 m)=H1 m)→a<ns'.length→b<ns'.length→H1 a=a→H1 b=b→b7 (hw (setUp ns' a b) (fun m=>if H1 m=a then b else H1 m)) ns'.length+wgt ns' a=b7 (hw ns' H1) ns'.length:=fun ns' H1 hd ha' hb' e1 e2=>by
  have e3:b7 (hw (setUp ns' a b) (fun m=>if H1 m=a then b else H1 m)) ns'.length=b7 (upd (hw ns' H1) a 0) ns'.length:=o7 fun m hm=>by
   unfold hw
   by_cases e:m=a
   ·subst e
    rw [b8,if_neg]
    show ¬ (if H1 m=m then b else H1 m)=m
    rw [if_pos e1];exact Ne.symm hab
   ·rw [n8 e]
    have ew:wgt (setUp ns' a b) m=wgt ns' m:=by unfold wgt;rw [O8 ha',O4 ha']
    rw [ew]
    by_cases e4:H1 m=a
    ·have e5:(if H1 m=a then b else H1 m)=b:=if_pos e4
     have e6:b≠m:=fun e7=>by rw [←e7,e2] at e4;exact hab e4.symm
     show (if (if H1 m=a then b else H1 m)=m then _ else _)=_
     rw [e5,if_neg e6,if_neg (by rw [e4];exact Ne.symm e)]
    ·show (if (if H1 m=a then b else H1 m)=m then _ else _)=_
     rw [if_neg e4]
  have e4:=I7 (f:=hw ns' H1) (n:=a) (x:=0) ha'
  have e5:hw ns' H1 a=wgt ns' a:=by unfold hw;rw [if_pos e1]
  omega
 unfold joinTo
 by_cases hf:(nT ns a).f<0
 ·rw [if_pos hf]
  refine ⟨fun e=>(by cases e),fun _=>?_⟩
  have hu:=Cls.union h0 ha hb hha hhb hab hxy hlow (qs:=[]) (fun e=>absurd hf e) (fun q hq=>by cases hq)
  refine ⟨fun m=>if H m=a then b else H m,fun m=>if H m=a then r m+r b+1 else r m,?_,?_⟩
  ·unfold ClsC
   show Cls (setUp _ _ _).length (nT (setUp _ _ _)) (nK (setUp _ _ _)) (nU (setUp _ _ _)) _ _ _ _ _
   rw [E0]
   rw [List.append_nil] at hu
   exact hu.congr (fun m _=>O8 ha) (fun m _=>O4 ha) (fun m _=>a0t ha) fun m _=>rfl
  ·have:=wH ns H h0.hd ha hb hha hhb
   show ps.length+b7 (hw (setUp ns a b) _) (setUp ns a b).length<(ps++[(x,y)]).length+b7 (hw ns H) ns.length
   rw [E0,List.length_append,List.length_singleton]
   omega
 ·rw [if_neg hf]
  by_cases hc:(nT ns a).f≠(nT ns b).f∨(nT ns a).l.length≠(nT ns b).l.length
  ·rw [if_pos hc]
   exact ⟨fun _=>Cls.clash h0 hxy hf (by show ¬ (nT ns b).f<0;omega) hc,fun e=>by cases e⟩
  ·rw [if_neg hc]
   refine ⟨fun e=>(by cases e),fun _=>?_⟩
   have hff:(nT ns a).f=(nT ns b).f:=Decidable.byContradiction fun h=>hc (.inl h)
   have hll:(nT ns a).l.length=(nT ns b).l.length:=Decidable.byContradiction fun h=>hc (.inr h)
   obtain ⟨c0,hc0⟩:∃ c0:Cl,c0=⟨ns,vr,ps⟩:=⟨_,rfl⟩
   have pps:∀ (c:Cl) (qs:List (Nat×Nat)) (n:Nat),pC ⟨c.ns,c.vr,qs⟩ n=(⟨(pC c n).1.ns,(pC c n).1.vr,qs⟩,(pC c n).2):=fun c qs n=>by
    have addQ:∀ (l:List Tm) (c:Cl) (qs:List (Nat×Nat)),addAll ⟨c.ns,c.vr,qs⟩ l=⟨(addAll c l).ns,(addAll c l).vr,qs⟩:=fun l=>by
     induction l with
     | nil=>exact fun c qs=>rfl
     | cons t l ih=>intro c qs;exact ih (o9 c t) qs
    unfold pC
    split
    ·rfl
    ·split
     ·have:=addQ (nT c.ns n).l (c.setFi n c.ns.length) qs
      show (addAll ⟨(c.setFi n c.ns.length).ns,(c.setFi n c.ns.length).vr,qs⟩ _,_)=_
      rw [this]
     ·rfl
   have hA:=pps ⟨ns,vr,ps⟩ (ps++[(x,y)]) a
   have hp1:=ClsC.parts h (n:=a) ha
   rw [hA] at hp1
   obtain ⟨H1,r1,g1,g2,g3,g4⟩:=hp1
   obtain ⟨c1,hc1⟩:∃ c1,c1=(pC ⟨ns,vr,ps⟩ a).1:=⟨_,rfl⟩
   rw [←hc1] at g1 g2 g4
   have l1:ns.length≤c1.ns.length:=g2.len
   have hB:=pps c1 (ps++[(x,y)]) b
   have hp2:=ClsC.parts g1 (n:=b) (show b<c1.ns.length by omega)
   rw [hB] at hp2
   obtain ⟨H2,r2,k1,k2,k3,k4⟩:=hp2
   obtain ⟨c2,hc2⟩:∃ c2,c2=(pC c1 b).1:=⟨_,rfl⟩
   rw [←hc2] at k1 k2 k4
   have l2:c1.ns.length≤c2.ns.length:=k2.len
   have t1:∀ m,m<ns.length→nT c1.ns m=nT ns m:=g2.tm
   have t2:∀ m,m<c1.ns.length→nT c2.ns m=nT c1.ns m:=k2.tm
   have ta:nT c2.ns a=nT ns a:=by rw [t2 a (by omega),t1 a ha]
   have tb:nT c2.ns b=nT ns b:=by rw [t2 b (by omega),t1 b hb]
   have hd1:∀ m,m<ns.length→H1 m=H m:=g2.hd
   have hd2:∀ m,m<c1.ns.length→H2 m=H1 m:=k2.hd
   have hH2:∀ m,m<ns.length→H2 m=H m:=fun m hm=>by rw [hd2 m (by omega),hd1 m hm]
   have hxyN:=h0.pss (x,y) (by simp)
   have hps1:c1.ps=ps:=by
    have:=pps ⟨ns,vr,ps⟩ ps a
    rw [hc1,this]
   have hps2:c2.ps=ps:=by
    have:=pps c1 ps b
    rw [←hps1] at this
    rw [hc2]
    have h9:=congrArg (fun q=>q.1.ps) this
    exact h9.trans hps1
   have qa:(pC ⟨ns,vr,ps⟩ a).2.2-(pC ⟨ns,vr,ps⟩ a).2.1=(nT ns a).l.length∧((nT ns a).l.length≠0→(pC ⟨ns,vr,ps⟩ a).2.1=nK c2.ns a∧nK c2.ns a≠0):=by
    by_cases hz:(nT ns a).l.length=0
    ·have:=g3 (.inr hz)
     have this:(pC ⟨ns,vr,ps⟩ a).2=(0,0):=this
     rw [this]
     exact ⟨by show 0-0=_;omega,fun e=>absurd hz e⟩
    ·obtain ⟨q1,q2⟩:=g4 fun e=>e.elim hf hz
     have q2:(pC ⟨ns,vr,ps⟩ a).2=(nK c1.ns a,nK c1.ns a+(nT ns a).l.length):=q2
     have q3:nK c2.ns a=nK c1.ns a:=k2.kd a (by show a<c1.ns.length;omega) q1
     rw [q2]
     exact ⟨by show nK c1.ns a+_-nK c1.ns a=_;omega,fun _=>⟨q3.symm,by rw [q3];exact q1⟩⟩
   have qb:(nT ns b).l.length≠0→(pC c1 b).2.1=nK c2.ns b∧nK c2.ns b≠0:=fun hz=>by
    have tb1:nT c1.ns b=nT ns b:=t1 b hb
    obtain ⟨q1,q2⟩:=k4 fun e=>by
     have e:(nT c1.ns b).f<0∨(nT c1.ns b).l.length=0:=e
     rw [tb1] at e
     exact e.elim (fun e=>hf (by omega)) hz
    have q2:(pC c1 b).2=(nK c2.ns b,nK c2.ns b+_):=q2
    rw [q2]
    exact ⟨rfl,q1⟩
   obtain ⟨qs,hqs⟩:∃ qs,qs=(List.range ((pC ⟨ns,vr,ps⟩ a).2.2-(pC ⟨ns,vr,ps⟩ a).2.1)).reverse.map fun i=>((pC ⟨ns,vr,ps⟩ a).2.1+i,(pC c1 b).2.1+i):=⟨_,rfl⟩
   have hpush:a4w ⟨ns,vr,ps⟩ a b=⟨c2.ns,c2.vr,ps++qs⟩:=by
    unfold a4w
    rw [←hc1,←hc2,←hqs,hps2]
   have hqm:∀ q,q∈qs↔∃ i,i<(nT ns a).l.length∧q=((pC ⟨ns,vr,ps⟩ a).2.1+i,(pC c1 b).2.1+i):=fun q=>by
    rw [hqs,List.mem_map,qa.1]
    constructor
    ·rintro ⟨i,hi,e⟩
     exact ⟨i,List.mem_range.1 (List.mem_reverse.1 hi),e.symm⟩
    ·rintro ⟨i,hi,e⟩
     exact ⟨i,List.mem_reverse.2 (List.mem_range.2 hi),e.symm⟩
   have ha2:a<c2.ns.length:=by omega
   have hb2:b<c2.ns.length:=by omega
   have hu:=Cls.union (show Cls c2.ns.length (nT c2.ns) (nK c2.ns) (nU c2.ns) H2 r2 c2.vr (ps++[(x,y)]) E from k1) ha2 hb2 (by rw [hH2 a ha];exact hha) (by rw [hH2 b hb];exact hhb) hab (by rw [hH2 x hxyN.1,hH2 y hxyN.2];exact hxy) (by rw [ta,tb];exact hlow) (qs:=qs)
    (fun _=>by
     rw [ta,tb]
     refine ⟨hff.symm,hll.symm,fun hz=>⟨(qa.2 hz).2,(qb (by rw [←hll];exact hz)).2⟩,fun i hi=>?_⟩
     rw [hqm]
     refine ⟨i,hi,?_⟩
     rw [(qa.2 (by omega)).1,(qb (by omega)).1])
    (fun q hq=>by
     obtain ⟨i,hi,e⟩:=(hqm q).1 hq
     rw [ta]
     refine ⟨hf,i,hi,?_⟩
     rw [e,(qa.2 (by omega)).1,(qb (by omega)).1])
   rw [hpush]
   refine ⟨fun m=>if H2 m=a then b else H2 m,fun m=>if H2 m=a then r2 m+r2 b+1 else r2 m,?_,?_⟩
   ·unfold ClsC
    show Cls (setUp _ _ _).length (nT (setUp _ _ _)) (nK (setUp _ _ _)) (nU (setUp _ _ _)) _ _ _ _ _
    rw [E0]
    exact hu.congr (fun m _=>O8 ha2) (fun m _=>O4 ha2) (fun m _=>a0t ha2) fun m _=>rfl
   ·have w1:=wH c2.ns H2 (show Cls c2.ns.length (nT c2.ns) (nK c2.ns) (nU c2.ns) H2 r2 c2.vr (ps++[(x,y)]) E from k1).hd ha2 hb2 (by rw [hH2 a ha];exact hha) (by rw [hH2 b hb];exact hhb)
    have w2:=a4R ⟨ns,vr,ps⟩ (n:=a) ha (H:=H) (H':=H1) hha hd1
    rw [←hc1] at w2
    have w3:=a4R c1 (n:=b) (by omega) (H:=H1) (H':=H2) (by rw [hd1 b hb];exact hhb) hd2
    rw [←hc2] at w3
    have w4:qs.length=(nT ns a).l.length:=by rw [hqs,List.length_map,List.length_reverse,List.length_range,qa.1]
    have w5:(nT ns a).l.length≤wgt c2.ns a:=by
     by_cases hz:(nT ns a).l.length=0
     ·omega
     ·unfold wgt
      rw [if_pos (qa.2 hz).2,ta];exact Nat.le_refl _
    show (ps++qs).length+b7 (hw (setUp c2.ns a b) _) (setUp c2.ns a b).length<(ps++[(x,y)]).length+b7 (hw ns H) ns.length
    rw [E0,List.length_append,List.length_append,List.length_singleton]
    have w2:b7 (hw c1.ns H1) c1.ns.length≤b7 (hw ns H) ns.length:=w2
    omega
theorem b4V {ns ns':List Nd} {vr ps} {H:Nat→Nat} (hl:ns'.length=ns.length) (ht:∀ m,nT ns' m=nT ns m) (hk:∀ m,nK ns' m=nK ns m):mea ⟨ns',vr,ps⟩ H=mea ⟨ns,vr,ps⟩ H:=by
 unfold mea
 rw [show (Cl.mk ns' vr ps).ns.length=ns.length from hl]
 show ps.length+_=ps.length+_
 congr 1
 exact o7 fun m _=>a1d (ht m) (hk m) rfl
theorem a2C {ns vr ps x y} {H r:Nat→Nat} {E} (h:ClsC ⟨ns,vr,ps++[(x,y)]⟩ H r E):∃ k q,B8 k ⟨ns,vr,ps⟩ x y=some q∧c1A ⟨ns,vr,ps⟩ (mea ⟨ns,vr,ps++[(x,y)]⟩ H) E q:=by
 have hxy:=h.pss (x,y) (by simp)
 have hx:x<ns.length:=hxy.1
 have hy:y<ns.length:=hxy.2
 obtain ⟨ns1,e1,g1,l1,t1,k1,_⟩:=ClsC.head (r x+r y+1) h hx (by omega)
 obtain ⟨ns2,e2,g2,l2,t2,k2,_⟩:=ClsC.head (r x+r y+1) g1 (n:=y) (by omega) (by omega)
 have hm:mea ⟨ns2,vr,ps++[(x,y)]⟩ H=mea ⟨ns,vr,ps++[(x,y)]⟩ H:=b4V (by omega) (fun m=>by rw [t2,t1]) fun m=>by rw [k2,k1]
 have hdx:=g2.hd x (by show x<ns2.length;omega)
 have hdy:=g2.hd y (by show y<ns2.length;omega)
 refine ⟨r x+r y+1,?_⟩
 unfold B8
 rw [show n9 (r x+r y+1) (Cl.mk ns vr ps).ns x=some (ns1,H x) from e1]
 simp only
 rw [e2]
 simp only
 rw [←hm]
 by_cases e:H x=H y
 ·rw [if_pos e]
  refine ⟨_,rfl,fun e=>(by cases e),fun _=>⟨H,r,Cls.drop g2 e,?_⟩⟩
  show ps.length+_<(ps++[(x,y)]).length+_
  rw [List.length_append,List.length_singleton]
  show _+b7 (hw ns2 H) ns2.length<_+b7 (hw ns2 H) ns2.length
  omega
 ·rw [if_neg e]
  split
  ·rename_i hf
   exact ⟨_,rfl,a1T g2 hdy.1 hdx.1 hdy.2 hdx.2 (Ne.symm e) (.inr ⟨rfl,rfl⟩) (Int.le_of_lt hf)⟩
  ·rename_i hf
   exact ⟨_,rfl,a1T g2 hdx.1 hdy.1 hdx.2 hdy.2 e (.inl ⟨rfl,rfl⟩) (by omega)⟩
def M8:Nat→Cl→Option (Cl×Bool)
 | 0,_=>none
 | k+1,c=>match c.ps.getLast? with
  | none=>some (c,true)
  | some p=>match B8 k ⟨c.ns,c.vr,c.ps.dropLast⟩ p.1 p.2 with
   | none=>none
   | some q=>if q.2=true then M8 k q.1 else some q
theorem a5i:∀ (k:Nat) (c:Cl) (r),M8 k c=some r→M8 (k+1) c=some r
 | 0,_,_,e=>by cases e
 | k+1,c,r,e=>by
  rw [M8] at e ⊢
  cases h1:c.ps.getLast? with
  | none=>rw [h1] at e;exact e
  | some p =>
   rw [h1] at e
   simp only at e ⊢
   cases h2:B8 k ⟨c.ns,c.vr,c.ps.dropLast⟩ p.1 p.2 with
   | none=>rw [h2] at e;cases e
   | some q =>
    rw [h2] at e
    rw [a0E (Nat.le_succ k) h2]
    simp only at e ⊢
    split
    ·rename_i h3;rw [if_pos h3] at e;exact a5i k _ _ e
    ·rename_i h3;rw [if_neg h3] at e;exact e
theorem a5Z {k m:Nat} (h:k≤m) {c:Cl} {r} (e:M8 k c=some r):M8 m c=some r:=by
 induction h with
 | refl=>exact e
 | step _ ih=>exact a5i _ _ _ ih
def c1w (E:List (Tm×Tm)) (q:Cl×Bool):Prop:=(q.2=false→∀ τ,¬ uni τ E)∧(q.2=true→q.1.ps=[]∧∃ H' r',ClsC q.1 H' r' E)
theorem b1y:∀ (M:Nat) (c:Cl) {H r:Nat→Nat} {E},mea c H=M→ClsC c H r E→∃ k q,M8 k c=some q∧c1w E q:=by
 intro M
 induction M using Nat.strongRecOn with
 | ind M ih =>
  intro c H r E hM h
  cases hp:c.ps.getLast? with
  | none =>
   refine ⟨1,(c,true),by rw [M8,hp],fun e=>(by cases e),fun _=>⟨?_,H,r,h⟩⟩
   exact List.getLast?_eq_none_iff.1 hp
  | some p =>
   have hps:c.ps=c.ps.dropLast++[p]:=by
    have hne:c.ps≠[]:=fun e=>by rw [e] at hp;cases hp
    have h8:c.ps.getLast hne=p:=by
     have:=List.getLast?_eq_some_getLast hne
     rw [hp] at this
     exact (Option.some.inj this).symm
    rw [←h8,List.dropLast_concat_getLast hne]
   have hc:c=⟨c.ns,c.vr,c.ps.dropLast++[(p.1,p.2)]⟩:=by
    conv=>lhs;rw [show c=⟨c.ns,c.vr,c.ps⟩ from rfl,hps]
   rw [hc] at h
   obtain ⟨k,q,e1,l1,l2⟩:=a2C h
   cases hq:q.2 with
   | false =>
    refine ⟨k+1,q,?_,fun _=>l1 hq,fun e=>by rw [hq] at e;cases e⟩
    rw [M8,hp]
    simp only
    rw [e1]
    simp only
    rw [hq,if_neg (by simp)]
   | true =>
    obtain ⟨H',r',g1,g2⟩:=l2 hq
    rw [←hc] at g2
    obtain ⟨k2,q2,e2,g3⟩:=ih (mea q.1 H') (by omega) q.1 rfl g1
    refine ⟨max k k2+1,q2,?_,g3⟩
    rw [M8,hp]
    simp only
    rw [a0E (Nat.le_max_left k k2) e1]
    simp only
    rw [hq,if_pos rfl]
    exact a5Z (Nat.le_max_right k k2) e2
def openC (c:Cl) (p:Tm×Tm):Cl:=⟨(o9 (o9 c p.1) p.2).ns,(o9 (o9 c p.1) p.2).vr,(o9 (o9 c p.1) p.2).ps++[(c.ns.length,c.ns.length+1)]⟩
def q7 (k:Nat):List (Tm×Tm)→Cl→Option (Cl×Bool)
 | [],c=>some (c,true)
 | p::l,c=>match M8 k (openC c p) with
  | none=>none
  | some q=>if q.2=true then q7 k l q.1 else some q
theorem L3 {k m:Nat} (h:k≤m):∀ {l:List (Tm×Tm)} {c:Cl} {r},q7 k l c=some r→q7 m l c=some r
 | [],c,r,e=>e
 | p::l,c,r,e=>by
  rw [q7] at e ⊢
  cases h2:M8 k (openC c p) with
  | none=>rw [h2] at e;cases e
  | some q =>
   rw [h2] at e
   rw [a5Z h h2]
   simp only at e ⊢
   split
   ·rename_i h3;rw [if_pos h3] at e;exact L3 h e
   ·rename_i h3;rw [if_neg h3] at e;exact e
theorem ClsC.openC {c:Cl} {H r:Nat→Nat} {E} (h:ClsC c H r E) (p:Tm×Tm):∃ H' r',ClsC (openC c p) H' r' (E++[p]):=by
 obtain ⟨H1,r1,g1,_⟩:=h.add p.1
 obtain ⟨H2,r2,g2,_⟩:=g1.add p.2
 have l1:=v7 c p.1
 have l2:=v7 (o9 c p.1) p.2
 have h3:=Cls.push g2 (n:=c.ns.length) (m:=c.ns.length+1) (by omega) (by omega)
 have t1:nT (o9 (o9 c p.1) p.2).ns c.ns.length=p.1:=by
  unfold nT
  rw [a0X _ _ (by omega)]
  unfold o9
  rw [E8]
 have t2:nT (o9 (o9 c p.1) p.2).ns (c.ns.length+1)=p.2:=by
  unfold nT
  rw [←l1]
  show (List.getD ((o9 c p.1).ns++[_]) _ _).t=_
  rw [E8]
 rw [t1,t2] at h3
 exact ⟨H2,r2,h3⟩
theorem X1:∀ (l:List (Tm×Tm)) (c:Cl) {H r:Nat→Nat} {E},c.ps=[]→ClsC c H r E→∃ k q,q7 k l c=some q∧c1w (E++l) q
 | [],c,H,r,E,hp,h=>⟨0,(c,true),rfl,fun e=>(by cases e),fun _=>⟨hp,H,r,by rw [List.append_nil];exact h⟩⟩
 | p::l,c,H,r,E,hp,h=>by
  obtain ⟨H1,r1,g1⟩:=h.openC p
  obtain ⟨k1,q1,e1,t1,t2⟩:=b1y _ _ rfl g1
  have e3:E++[p]++l=E++p::l:=by rw [List.append_assoc];rfl
  cases hq:q1.2 with
  | false =>
   refine ⟨k1,q1,?_,fun _ τ ht=>?_,fun e=>by rw [hq] at e;cases e⟩
   ·rw [q7,e1]
    simp only
    rw [hq,if_neg (by simp)]
   ·rw [←e3,B1] at ht
    exact t1 hq τ ht.1
  | true =>
   obtain ⟨h2,H2,r2,g2⟩:=t2 hq
   obtain ⟨k2,q2,e2,g3⟩:=X1 l q1.1 h2 g2
   refine ⟨max k1 k2,q2,?_,by rw [←e3];exact g3⟩
   rw [q7,a5Z (Nat.le_max_left k1 k2) e1]
   simp only
   rw [hq,if_pos rfl]
   exact L3 (Nat.le_max_right k1 k2) e2
theorem G3 {l:List Nat} {f g:Nat→Nat} (h:∀ s∈l,f s=g s):(l.map f).sum=(l.map g).sum:=by
 rw [List.map_congr_left h]
theorem a2n {f:Nat→Nat}:∀ {N:Nat},(∀ n,n<N→f n=0)→b7 f N=0
 | 0,_=>rfl
 | N+1,h=>by rw [b7,a2n fun n hn=>h n (by omega),h N (by omega)]
theorem A8 {N:Nat}:∀ (L:List Nat) (f:Nat→Nat),L.Nodup→(∀ g∈L,g<N)→(L.map f).sum≤b7 f N∧((∀ g,g<N→g∉L→f g=0)→b7 f N=(L.map f).sum)
 | [],f,_,_=>⟨Nat.zero_le _,fun h=>a2n fun n hn=>h n hn (by simp)⟩
 | a::L,f,hn,hb=>by
  obtain ⟨h1,h2⟩:=List.nodup_cons.1 hn
  have ha:=hb a (by simp)
  have e1:=I7 (f:=f) (x:=0) ha
  obtain ⟨i1,i2⟩:=A8 L (upd f a 0) h2 fun g hg=>hb g (List.mem_cons_of_mem _ hg)
  have e2:(L.map (upd f a 0)).sum=(L.map f).sum:=G3 fun s hs=>n8 fun e=>h1 (e▸hs)
  rw [List.map_cons,List.sum_cons]
  refine ⟨by omega,fun hz=>?_⟩
  have:=i2 fun g hg hgL=>by
   by_cases e:g=a
   ·rw [e,b8]
   ·rw [n8 e]
    exact hz g hg fun hm=>(List.mem_cons.1 hm).elim e hgL
  omega
theorem a0y (eg:Nat→List Nat) (h:Nat):∀ L:List Nat,(L.flatMap eg).count h=(L.map fun g=>(eg g).count h).sum
 | []=>rfl
 | a::L=>by rw [List.flatMap_cons,List.count_append,List.map_cons,List.sum_cons,a0y eg h L]
section
variable (N:Nat) (hp:Nat→Bool) (eg:Nat→List Nat)
def a6g (h g:Nat):Nat:=if hp g then (eg g).count h else 0
def deg (h:Nat):Nat:=b7 (a6g hp eg h) N
structure KI (k:Nat) (pre:List Nat) (u:Nat→Int) (o:List Nat):Prop where
 cnt:∀ h,u h+(((o.take k).flatMap eg++pre).count h:Nat)=(deg N hp eg h:Int)
 nd:o.Nodup
 hd:∀ h∈o,h<N∧hp h=true
 zero:∀ h,h<N→hp h=true→(h∈o↔u h=0)
 ord:∀ p g,p<k→o[p]?=some g→∀ h∈eg g,∀ q,o[q]?=some h→p<q
 orp:∀ h∈pre,∀ q,o[q]?=some h→k<q
variable {N hp eg}
theorem KI.start {o:List Nat} (hn:o.Nodup) (ho:∀ h,h∈o↔(h<N∧hp h=true∧deg N hp eg h=0)):KI N hp eg 0 [] (fun h=>(deg N hp eg h:Int)) o:=by
 refine ⟨fun h=>by simp,hn,fun h hh=>⟨((ho h).1 hh).1,((ho h).1 hh).2.1⟩,fun h h1 h2=>?_,fun p g h=>by omega,fun h hh=>by cases hh⟩
 rw [ho h]
 constructor
 ·rintro ⟨_,_,e⟩;simp only [e];rfl
 ·intro e;exact ⟨h1,h2,by omega⟩
theorem a2h {o:List Nat} {k g:Nat} (h:o[k]?=some g):k<o.length:=by
 rcases Nat.lt_or_ge k o.length with h1 | h1
 ·exact h1
 ·rw [List.getElem?_eq_none h1] at h;cases h
theorem a2G {o:List Nat} {k g:Nat} (h:o[k]?=some g):o.take (k+1)=o.take k++[g]:=by
 rw [List.take_add_one,h];rfl
theorem KI.pos {k:Nat} {pre:List Nat} {u:Nat→Int} {o:List Nat} (h:KI N hp eg k pre u o) {g x:Nat} {post:List Nat} (hk:o[k]?=some g) (he:eg g=pre++x::post):0<u x:=by
 have hN:(o.take (k+1)).Nodup:=h.nd.sublist (List.take_sublist _ _)
 have h1:=(A8 (N:=N) (o.take (k+1)) (a6g hp eg x) hN fun g hg=>(h.hd g (List.mem_of_mem_take hg)).1).1
 have h2:((o.take (k+1)).map (a6g hp eg x)).sum=((o.take (k+1)).flatMap eg).count x:=by
  rw [a0y]
  exact G3 fun s hs=>if_pos (h.hd s (List.mem_of_mem_take hs)).2
 rw [h2,a2G hk,List.flatMap_append,List.count_append] at h1
 have h3:([g].flatMap eg).count x=pre.count x+(1+post.count x):=by
  rw [List.flatMap_cons,List.flatMap_nil,List.append_nil,he,List.count_append,List.count_cons]
  simp only [BEq.rfl,if_true];omega
 have h4:=h.cnt x
 rw [List.count_append] at h4
 have h5:deg N hp eg x=b7 (a6g hp eg x) N:=rfl
 omega
theorem KI.step {k:Nat} {pre:List Nat} {u:Nat→Int} {o:List Nat} (h:KI N hp eg k pre u o) {g x:Nat} {post:List Nat} (hk:o[k]?=some g) (he:eg g=pre++x::post) (hx:x<N∧hp x=true):KI N hp eg k (pre++[x]) (upd u x (u x-1)) (if u x-1=0 then o++[x] else o):=by
 have hp0:=h.pos hk he
 have hxo:x∉o:=fun hm=>by have:=(h.zero x hx.1 hx.2).1 hm;omega
 have hkl:=a2h hk
 have cnt:∀ o':List Nat,o'.take k=o.take k→∀ y,upd u x (u x-1) y+(((o'.take k).flatMap eg++(pre++[x])).count y:Nat)=(deg N hp eg y:Int):=fun o' ho y=>by
  have:=h.cnt y
  rw [ho,←List.append_assoc,List.count_append]
  by_cases e:y=x
  ·subst e
   rw [b8]
   have:[y].count y=1:=by simp
   omega
  ·rw [n8 e]
   have:[x].count y=0:=by
    rw [List.count_eq_zero];simpa using e
   omega
 split
 ·rename_i hz
  have gx:∀ {q y},(o++[x])[q]?=some y→o[q]?=some y∨(q=o.length∧y=x):=fun {q y} e=>by
   rcases Nat.lt_or_ge q o.length with h1 | h1
   ·rw [List.getElem?_append_left h1] at e;exact .inl e
   ·rw [List.getElem?_append_right h1] at e
    have h2:q-o.length<[x].length:=a2h e
    simp only [List.length_singleton] at h2
    rw [show q-o.length=0 by omega] at e
    exact .inr ⟨by omega,(Option.some.inj e).symm⟩
  refine ⟨cnt (o++[x]) (List.take_append_of_le_length (by omega)),?_,fun y hy=>?_,fun y h1 h2=>?_,fun p g' hp' hg y hy q hq=>?_,fun y hy q hq=>?_⟩
  ·rw [List.nodup_append]
   exact ⟨h.nd,by simp,fun a ha b hb=>by rw [List.mem_singleton] at hb;rw [hb];exact fun e=>hxo (e▸ha)⟩
  ·rcases List.mem_append.1 hy with hy | hy
   ·exact h.hd y hy
   ·rw [List.mem_singleton] at hy;rw [hy];exact hx
  ·by_cases e:y=x
   ·subst e
    rw [b8]
    exact ⟨fun _=>hz,fun _=>by simp⟩
   ·rw [n8 e,←h.zero y h1 h2]
    simp [e]
  ·have hg':o[p]?=some g':=by rw [List.getElem?_append_left (by omega)] at hg;exact hg
   rcases gx hq with hq | ⟨hq,_⟩
   ·exact h.ord p g' hp' hg' y hy q hq
   ·omega
  ·rcases gx hq with hq' | ⟨hq',_⟩
   ·rcases List.mem_append.1 hy with hy | hy
    ·exact h.orp y hy q hq'
    ·rw [List.mem_singleton] at hy
     exact absurd (List.mem_of_getElem? hq') (by rw [hy];exact hxo)
   ·omega
 ·rename_i hz
  refine ⟨cnt o rfl,h.nd,h.hd,fun y h1 h2=>?_,h.ord,fun y hy q hq=>?_⟩
  ·by_cases e:y=x
   ·subst e
    rw [b8]
    exact ⟨fun hm=>absurd hm hxo,fun e=>absurd e hz⟩
   ·rw [n8 e];exact h.zero y h1 h2
  ·rcases List.mem_append.1 hy with hy | hy
   ·exact h.orp y hy q hq
   ·rw [List.mem_singleton] at hy
    exact absurd (List.mem_of_getElem? hq) (by rw [hy];exact hxo)
theorem KI.next {k:Nat} {pre:List Nat} {u:Nat→Int} {o:List Nat} (h:KI N hp eg k pre u o) {g:Nat} (hk:o[k]?=some g) (he:eg g=pre):KI N hp eg (k+1) [] u o:=by
 refine ⟨fun x=>?_,h.nd,h.hd,h.zero,fun p g' hp' hg y hy q hq=>?_,fun y hy=>by cases hy⟩
 ·rw [a2G hk,List.flatMap_append,List.append_nil,List.flatMap_cons,List.flatMap_nil,List.append_nil,he]
  exact h.cnt x
 ·rcases Nat.lt_or_ge p k with h1 | h1
  ·exact h.ord p g' h1 hg y hy q hq
  ·have:p=k:=by omega
   subst this
   rw [hk] at hg
   cases hg
   rw [he] at hy
   exact h.orp y hy q hq
theorem KI.over {u:Nat→Int} {o:List Nat} (h:KI N hp eg o.length [] u o) {x:Nat} (hx:x<N) (hpx:hp x=true) (hxo:x∉o):∃ g,g<N∧hp g=true∧g∉o∧x∈eg g:=by
 apply Classical.byContradiction
 intro hno
 have h1:=(A8 (N:=N) o (a6g hp eg x) h.nd fun g hg=>(h.hd g hg).1).2 fun g hg hgo=>by
  unfold a6g
  split
  ·rename_i hpg
   exact List.count_eq_zero.2 fun hm=>hno ⟨g,hg,hpg,hgo,hm⟩
  ·rfl
 have h2:(o.map (a6g hp eg x)).sum=(o.flatMap eg).count x:=by
  rw [a0y]
  exact G3 fun s hs=>if_pos (h.hd s hs).2
 have h3:=h.cnt x
 rw [List.take_length,List.append_nil] at h3
 have h5:deg N hp eg x=b7 (a6g hp eg x) N:=rfl
 exact hxo ((h.zero x hx hpx).2 (by omega))
theorem KI.rank {u:Nat→Int} {o:List Nat} (h:KI N hp eg o.length [] u o) (ha:∀ x,x<N→hp x=true→x∈o):∃ ρ:Nat→Nat,∀ g,g<N→hp g=true→∀ x∈eg g,x<N→hp x=true→ρ x<ρ g:=by
 refine ⟨fun x=>o.length-o.idxOf x,fun g hg hpg x hx hxN hpx=>?_⟩
 have i1:=List.idxOf_lt_length_of_mem (ha g hg hpg)
 have i2:=List.idxOf_lt_length_of_mem (ha x hxN hpx)
 have e1:o[o.idxOf g]?=some g:=by rw [List.getElem?_eq_getElem i1,List.getElem_idxOf]
 have e2:o[o.idxOf x]?=some x:=by rw [List.getElem?_eq_getElem i2,List.getElem_idxOf]
 have:=h.ord _ g i1 e1 x hx _ e2
 show o.length-_<o.length-_
 omega
end
end Go.Proofs.YtglmoficcjphaaaGreat
