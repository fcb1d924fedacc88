/-
 ClSort ClNmW ClNmX RwInM RwOncS
-/
import Derived.Test.YtekboofbedakcaaGreatMg8
import Derived.Test.YtekboofbedakcaaGreatMg6
import Derived.Test.YtekboofbedakcaaGreatMg7
import Derived.Test.YtekboofbedakcaaGreatMg5
namespace Go.Proofs.YtekboofbedakcaaGreat
open Go.RowKit
set_option linter.unusedVariables false
set_option linter.unusedSimpArgs false
set_option maxRecDepth 100000
noncomputable abbrev Sn.cw (s:Sn):CV := .row [s.lit.cw,s.look.cw]
noncomputable def Sn.cv (s:Sn):CV:=s.cw
theorem Sn.size_all (c:List Sn):∀ x∈c.map Sn.cv,x.size=10:=by
 intro x hx
 obtain ⟨l,_,rfl⟩:=List.mem_map.1 hx
 rfl
theorem Sn.map_at {c:List Sn} {i:Nat} {l:Sn} (h:c[i]?=some l):(c.map Sn.cv)[i]?=some l.cw:=by rw [List.getElem?_map,h];rfl
def ltG {α:Type} (cmp:α→α→Int) (x y:α):Bool:=decide (cmp x y<0)
theorem a2r (l:List Sn) (j:Nat) (b:Sn):(l.map Sn.cv).set j b.cw=(l.set j b).map Sn.cv:=by rw [List.map_set];rfl
theorem J4 (l:List Int) (j:Nat) (b:Int):(l.map CV.i).set j (.i b)=(l.set j b).map CV.i:=by rw [List.map_set]
theorem a3W (cmp:Sn→Sn→Int) (fc:CV) (L0:List Sn) (a b:Nat) (ha:a≤L0.length) (hb:b≤L0.length) (hn:L0.length≤1000000000) (hc:∀ W x y,x∈L0→y∈L0→K7 Tryz.prog W fc [x.cw,y.cw] (.val (.i (cmp x y)))) :
  q6 Tryz.prog 111 [(400000,.mrow 114 10 (L0.map Sn.cv))] [.sl 400000 0 L0.length 10,.val (.i a),.val (.i b),.val fc] (.tup []) [(400000,.mrow 114 10 ((p9 (ltG cmp) a (b-(a+1)) (a+1) L0).map Sn.cv))]:=by
 refine i8 Tryz.func111 Tryz.ntmps111 rfl rfl rfl rfl rfl rfl ?_
 intro w U hU
 obtain ⟨T,hT⟩:∃ T,T=p9 (ltG cmp) a (b-(a+1)) (a+1) L0:=⟨_,rfl⟩
 rw [←hT]
 refine aS (aR ?_)
 refine nc zj (nc zu (nc zd ?_))
 let st:Nat→List Sn→AS:=fun i L=>[(0,.sl 400000 0 L0.length 10),(1,.val (.i a)),(2,.val (.i b)),(3,.val fc),(8,.val (.i i)),(400000,.mrow 114 10 (L.map Sn.cv))]
 refine aB (C9 (fun m s=>∃ i L,m=(b+1)-i∧L.length=L0.length∧(∀ z∈L,z∈L0)∧a+1≤i∧p9 (ltG cmp) a (b-i) i L=T∧s=st i L) (s':=st (a+1) L0) (a7 ⟨rfl,rfl,rfl,rfl,rfl,rfl,trivial⟩) ⟨a+1,L0,rfl,rfl,(fun z hz=>hz),Nat.le_refl _,hT.symm,rfl⟩ ?_)
 rintro m s ⟨i,L,rfl,hL,hLm,hi,hI,rfl⟩
 refine aS (aS (aR ?_))
 refine nc zj (nc zj (nc zh ?_))
 refine aC rfl (fun hlt=>?_) (fun hlt=>?_)
 ·have hib:i<b:=by simpa using hlt
  refine aK ?_
  refine aS (aB (aS (aR ?_)))
  refine nc zj (nc zd ?_)
  let st2:Nat→List Sn→AS:=fun j L=>[(0,.sl 400000 0 L0.length 10),(1,.val (.i a)),(2,.val (.i b)),(3,.val fc),(8,.val (.i i)),(9,.val (.i j)),(400000,.mrow 114 10 (L.map Sn.cv))]
  refine aB (C9 (fun m s=>∃ j L',m=j∧L'.length=L0.length∧(∀ z∈L',z∈L0)∧j≤i∧Q8 (ltG cmp) a j L'=Q8 (ltG cmp) a i L∧s=st2 j L') (s':=st2 i L) (a7 ⟨rfl,rfl,rfl,rfl,rfl,rfl,rfl,trivial⟩) ⟨i,L,rfl,hL,hLm,Nat.le_refl _,rfl,rfl⟩ ?_)
  rintro m s ⟨j,L',hmj,hL',hLm2,hji,hJ,rfl⟩
  by_cases hja:a<j
  ·obtain ⟨j,rfl⟩:∃ k,j=k+1:=⟨j-1,by omega⟩
   obtain ⟨x,hx⟩:∃ x,L'[j+1]?=some x:=⟨L'[j+1]'(by omega),List.getElem?_eq_getElem (by omega)⟩
   obtain ⟨y,hy⟩:∃ y,L'[j]?=some y:=⟨L'[j]'(by omega),List.getElem?_eq_getElem (by omega)⟩
   have hx':=Sn.map_at hx
   have hy':=Sn.map_at hy
   have g:decide (((j+1:Nat):Int)>(a:Int))=true:=by simp;omega
   refine aS (aS (aD (by kernel_rfl) (by kernel_rfl) ?_))
   refine nc zj (nc zj (nc zT (nc zj (nc (zj (p:=gc)) (nc (zj (p:=gc)) (nc (zj (p:=gc)) (nc (zV (k:=j+1) (p:=gc)) (nc (zW (r:=gc) (G:=hx')) (nc (zj (p:=gc)) (nc (zj (p:=gc)) (nc (zi (r:=gc)) (nc (zV (k:=j) (p:=gc)) (nc (zW (r:=gc) (G:=hy')) (nc (zX (t:=gc) (E:=hc _ x y (hLm2 x (List.mem_of_getElem? hx)) (hLm2 y (List.mem_of_getElem? hy)))) (nc (zh (r:=gc)) (nc zO ?_))))))))))))))))
   refine ⟨by kernel_rfl,?_⟩
   refine aC rfl (fun hc1=>?_) (fun hc1=>?_)
   ·have hlt2:ltG cmp x y=true:=hc1
    refine aK ?_
    refine AWp.wk (a7 (s':=st2 (j+1) L') ⟨rfl,rfl,rfl,rfl,rfl,rfl,rfl,trivial⟩) ?_
    refine aS (aB (aD (by kernel_rfl) (by kernel_rfl) ?_))
    refine nc zj (nc zj (nc zj (nc zj (nc zi (nc zj (nc zj (nc zi (nc (zV (k:=j)) (nc (zW (G:=hy')) (nc zj (nc zj (nc (zV (k:=j+1)) (nc (zW (G:=hx')) (nc (zV (k:=j+1)) (nc (zbi (F:=hx')) (nc (zV (k:=j)) ?_))))))))))))))))
    refine nc (zbi (F:=(by rw [List.getElem?_set_ne (by omega)];exact hy'))) ?_
    refine ⟨by kernel_rfl,?_⟩
    refine aR ?_
    refine nc zj (nc zi (nc zd ?_))
    refine ⟨j,st2 j ((L'.set (j+1) y).set j x),by omega,⟨j,_,rfl,by simp [hL'],(fun z hz=>by rcases List.mem_or_eq_of_mem_set hz with hz | rfl;(rcases List.mem_or_eq_of_mem_set hz with hz | rfl;exact hLm2 z hz;exact hLm2 _ (List.mem_of_getElem? hy));exact hLm2 _ (List.mem_of_getElem? hx)),by omega,?_,rfl⟩,a7 ⟨rfl,rfl,rfl,rfl,rfl,?_,?_,trivial⟩⟩
    ·rw [←hJ,a0l _ _ hx hy hja hlt2]
    ·show some (AV.val (.i _))=some (AV.val (.i _))
     congr 3;omega
    ·show some (AV.mrow _ _ _)=some (AV.mrow _ _ _)
     rw [a2r,a2r]
   ·have hlt2:ltG cmp x y=false:=hc1
    refine aE ?_
    refine AWp.wk (a7 (s':=st2 (j+1) L') ⟨rfl,rfl,rfl,rfl,rfl,rfl,rfl,trivial⟩) ?_
    refine aR ?_
    refine nc zj (nc zu (nc zd ?_))
    refine ⟨(b+1)-(i+1),st (i+1) L',by omega,⟨i+1,L',rfl,hL',hLm2,by omega,?_,rfl⟩,a7 ⟨rfl,rfl,rfl,rfl,rfl,rfl,trivial⟩⟩
    have hs:L'=Q8 (ltG cmp) a i L:=by rw [←hJ,a2z _ _ hx hy hlt2]
    rw [←hI,show b-i=(b-(i+1))+1 by omega,p9,hs]
  ·have g:decide ((j:Int)>(a:Int))=false:=by simp;omega
   refine aS (aS (aD (by kernel_rfl) (by kernel_rfl) ?_))
   refine nc zj (nc zj (nc zT (nc zj (nc zM (nc zM (nc zM (nc zM (nc zM (nc zM (nc zM (nc zM (nc zM (nc zM (nc zM (nc zM (nc zN ?_))))))))))))))))
   refine ⟨by kernel_rfl,?_⟩
   refine aC rfl (fun hc1=>?_) (fun hc1=>?_)
   ·cases hc1
   ·refine aE ?_
    refine AWp.wk (a7 (s':=st2 (j) L') ⟨rfl,rfl,rfl,rfl,rfl,rfl,rfl,trivial⟩) ?_
    refine aR ?_
    refine nc zj (nc zu (nc zd ?_))
    refine ⟨(b+1)-(i+1),st (i+1) L',by omega,⟨i+1,L',rfl,hL',hLm2,by omega,?_,rfl⟩,a7 ⟨rfl,rfl,rfl,rfl,rfl,rfl,trivial⟩⟩
    have hs:L'=Q8 (ltG cmp) a i L:=by rw [←hJ,a1w _ _ hja]
    rw [←hI,show b-i=(b-(i+1))+1 by omega,p9,hs]
 ·have hib:¬ i<b:=by simpa using hlt
  refine aE ?_
  refine ⟨.inl rfl,_,Wk.refl _,rfl,?_,trivial⟩
  show some (AV.mrow _ _ _)=some (AV.mrow _ _ _)
  rw [show b-i=0 by omega] at hI
  rw [←hI]
  rfl
theorem a5i (cmp:Sn→Sn→Int) (fc:CV) (L:List Sn) (hn:L.length<20) (hc:∀ W x y,x∈L→y∈L→K7 Tryz.prog W fc [x.cw,y.cw] (.val (.i (cmp x y)))) :
  q6 Tryz.prog 89 [(400000,.mrow 114 10 (L.map Sn.cv))] [.sl 400000 0 L.length 10,.val (.i L.length),.val fc] (.tup []) [(400000,.mrow 114 10 ((p9 (ltG cmp) 0 (L.length-1) 1 L).map Sn.cv))]:=by
 refine i8 Tryz.func89 Tryz.ntmps89 rfl rfl rfl rfl rfl rfl ?_
 intro w U hU
 refine aS (aR ?_)
 refine nc zd ?_
 refine aS (aR ?_)
 refine nc zj (nc zd (nc zd ?_))
 let st:AS:=[(0,.sl 400000 0 L.length 10),(1,.val (.i L.length)),(2,.val fc),(6,.val (.i 20)),(7,.val (.i 0)),(8,.val (.i 20)),(400000,.mrow 114 10 (L.map Sn.cv))]
 refine aS (aB (b9 0 (fun k=>st) (a7 ⟨rfl,rfl,rfl,rfl,rfl,rfl,rfl,trivial⟩) ?_))
 intro k hk
 refine aS (aS (aR ?_))
 refine nc zj (nc zj (nc zF ?_))
 refine aC rfl (fun h=>?_) (fun _=>?_)
 ·exfalso
  have h:decide ((20:Int)≤(L.length:Int))=true:=h
  simp at h
  omega
 refine aE ?_
 refine AWp.wk (a7 (s':=st) ⟨rfl,rfl,rfl,rfl,rfl,rfl,rfl,trivial⟩) ?_
 have hins:=a3W cmp fc L 0 L.length (by omega) (Nat.le_refl _) (by omega) hc
 rw [Nat.zero_add] at hins
 refine aS (aR ?_)
 refine nc zj (nc zj (nc zj (nc zj (nc (z9 (z:=hins) (B:=by first | rfl | kernel_rfl) (C:=by first | rfl | kernel_rfl) (G:=j8 (by first | rfl | kernel_rfl))) ?_))))
 refine aB (b9 0 (fun k=>[(1,.val (.i L.length)),(6,.val (.i 20)),(400000,.mrow 114 10 ((p9 (ltG cmp) 0 (L.length-1) 1 L).map Sn.cv))]) (a7 ⟨rfl,rfl,rfl,trivial⟩) ?_)
 intro k hk
 refine aS (aS (aR ?_))
 refine nc zj (nc zj (nc zh ?_))
 refine aC rfl (fun h=>?_) (fun _=>?_)
 ·exfalso
  have h:decide ((20:Int)<(L.length:Int))=true:=h
  simp at h
  omega
 refine aE ?_
 exact ⟨.inl rfl,_,Wk.refl _,rfl,rfl,trivial⟩
theorem a0E (cmp:Sn→Sn→Int) (fc:CV) (L:List Sn) (hn:L.length<20) (hc:∀ W x y,x∈L→y∈L→K7 Tryz.prog W fc [x.cw,y.cw] (.val (.i (cmp x y)))) :
  q6 Tryz.prog 57 [(400000,.mrow 114 10 (L.map Sn.cv))] [.sl 400000 0 L.length 10,.val fc] (.tup []) [(400000,.mrow 114 10 ((p9 (ltG cmp) 0 (L.length-1) 1 L).map Sn.cv))]:=by
 refine i8 Tryz.func57 Tryz.ntmps57 rfl rfl rfl rfl rfl rfl ?_
 intro w U hU
 have hst:=a5i cmp fc L hn hc
 refine aR ?_
 refine nc zj (nc zj (nc zU (nc zj (nc (z9 (z:=hst) (B:=by first | rfl | kernel_rfl) (C:=by first | rfl | kernel_rfl) (G:=j8 (by first | rfl | kernel_rfl))) ?_))))
 exact ⟨.inl rfl,_,Wk.refl _,rfl,rfl,trivial⟩
theorem a5a (cmp:Int→Int→Int) (fc:CV) (L0:List Int) (a b:Nat) (ha:a≤L0.length) (hb:b≤L0.length) (hn:L0.length≤1000000000) (hc:∀ W x y,x∈L0→y∈L0→K7 Tryz.prog W fc [(CV.i x),(CV.i y)] (.val (.i (cmp x y)))) :
  q6 Tryz.prog 113 [(400000,.mrow 3 1 (L0.map CV.i))] [.sl 400000 0 L0.length 1,.val (.i a),.val (.i b),.val fc] (.tup []) [(400000,.mrow 3 1 ((p9 (ltG cmp) a (b-(a+1)) (a+1) L0).map CV.i))]:=by
 refine i8 Tryz.func113 Tryz.ntmps113 rfl rfl rfl rfl rfl rfl ?_
 intro w U hU
 obtain ⟨T,hT⟩:∃ T,T=p9 (ltG cmp) a (b-(a+1)) (a+1) L0:=⟨_,rfl⟩
 rw [←hT]
 refine aS (aR ?_)
 refine nc zj (nc zu (nc zd ?_))
 let st:Nat→List Int→AS:=fun i L=>[(0,.sl 400000 0 L0.length 1),(1,.val (.i a)),(2,.val (.i b)),(3,.val fc),(8,.val (.i i)),(400000,.mrow 3 1 (L.map CV.i))]
 refine aB (C9 (fun m s=>∃ i L,m=(b+1)-i∧L.length=L0.length∧(∀ z∈L,z∈L0)∧a+1≤i∧p9 (ltG cmp) a (b-i) i L=T∧s=st i L) (s':=st (a+1) L0) (a7 ⟨rfl,rfl,rfl,rfl,rfl,rfl,trivial⟩) ⟨a+1,L0,rfl,rfl,(fun z hz=>hz),Nat.le_refl _,hT.symm,rfl⟩ ?_)
 rintro m s ⟨i,L,rfl,hL,hLm,hi,hI,rfl⟩
 refine aS (aS (aR ?_))
 refine nc zj (nc zj (nc zh ?_))
 refine aC rfl (fun hlt=>?_) (fun hlt=>?_)
 ·have hib:i<b:=by simpa using hlt
  refine aK ?_
  refine aS (aB (aS (aR ?_)))
  refine nc zj (nc zd ?_)
  let st2:Nat→List Int→AS:=fun j L=>[(0,.sl 400000 0 L0.length 1),(1,.val (.i a)),(2,.val (.i b)),(3,.val fc),(8,.val (.i i)),(9,.val (.i j)),(400000,.mrow 3 1 (L.map CV.i))]
  refine aB (C9 (fun m s=>∃ j L',m=j∧L'.length=L0.length∧(∀ z∈L',z∈L0)∧j≤i∧Q8 (ltG cmp) a j L'=Q8 (ltG cmp) a i L∧s=st2 j L') (s':=st2 i L) (a7 ⟨rfl,rfl,rfl,rfl,rfl,rfl,rfl,trivial⟩) ⟨i,L,rfl,hL,hLm,Nat.le_refl _,rfl,rfl⟩ ?_)
  rintro m s ⟨j,L',hmj,hL',hLm2,hji,hJ,rfl⟩
  by_cases hja:a<j
  ·obtain ⟨j,rfl⟩:∃ k,j=k+1:=⟨j-1,by omega⟩
   obtain ⟨x,hx⟩:∃ x,L'[j+1]?=some x:=⟨L'[j+1]'(by omega),List.getElem?_eq_getElem (by omega)⟩
   obtain ⟨y,hy⟩:∃ y,L'[j]?=some y:=⟨L'[j]'(by omega),List.getElem?_eq_getElem (by omega)⟩
   have hx':=C3 hx
   have hy':=C3 hy
   have g:decide (((j+1:Nat):Int)>(a:Int))=true:=by simp;omega
   refine aS (aS (aD (by kernel_rfl) (by kernel_rfl) ?_))
   refine nc zj (nc zj (nc zT (nc zj (nc (zj (p:=gc)) (nc (zj (p:=gc)) (nc (zj (p:=gc)) (nc (zV (k:=j+1) (p:=gc)) (nc (zW (r:=gc) (G:=hx')) (nc (zj (p:=gc)) (nc (zj (p:=gc)) (nc (zi (r:=gc)) (nc (zV (k:=j) (p:=gc)) (nc (zW (r:=gc) (G:=hy')) (nc (zX (t:=gc) (E:=hc _ x y (hLm2 x (List.mem_of_getElem? hx)) (hLm2 y (List.mem_of_getElem? hy)))) (nc (zh (r:=gc)) (nc zO ?_))))))))))))))))
   refine ⟨by kernel_rfl,?_⟩
   refine aC rfl (fun hc1=>?_) (fun hc1=>?_)
   ·have hlt2:ltG cmp x y=true:=hc1
    refine aK ?_
    refine AWp.wk (a7 (s':=st2 (j+1) L') ⟨rfl,rfl,rfl,rfl,rfl,rfl,rfl,trivial⟩) ?_
    refine aS (aB (aD (by kernel_rfl) (by kernel_rfl) ?_))
    refine nc zj (nc zj (nc zj (nc zj (nc zi (nc zj (nc zj (nc zi (nc (zV (k:=j)) (nc (zW (G:=hy')) (nc zj (nc zj (nc (zV (k:=j+1)) (nc (zW (G:=hx')) (nc (zV (k:=j+1)) (nc (zbi (F:=hx')) (nc (zV (k:=j)) ?_))))))))))))))))
    refine nc (zbi (F:=(by rw [List.getElem?_set_ne (by omega)];exact hy'))) ?_
    refine ⟨by kernel_rfl,?_⟩
    refine aR ?_
    refine nc zj (nc zi (nc zd ?_))
    refine ⟨j,st2 j ((L'.set (j+1) y).set j x),by omega,⟨j,_,rfl,by simp [hL'],(fun z hz=>by rcases List.mem_or_eq_of_mem_set hz with hz | rfl;(rcases List.mem_or_eq_of_mem_set hz with hz | rfl;exact hLm2 z hz;exact hLm2 _ (List.mem_of_getElem? hy));exact hLm2 _ (List.mem_of_getElem? hx)),by omega,?_,rfl⟩,a7 ⟨rfl,rfl,rfl,rfl,rfl,?_,?_,trivial⟩⟩
    ·rw [←hJ,a0l _ _ hx hy hja hlt2]
    ·show some (AV.val (.i _))=some (AV.val (.i _))
     congr 3;omega
    ·show some (AV.mrow _ _ _)=some (AV.mrow _ _ _)
     rw [J4,J4]
   ·have hlt2:ltG cmp x y=false:=hc1
    refine aE ?_
    refine AWp.wk (a7 (s':=st2 (j+1) L') ⟨rfl,rfl,rfl,rfl,rfl,rfl,rfl,trivial⟩) ?_
    refine aR ?_
    refine nc zj (nc zu (nc zd ?_))
    refine ⟨(b+1)-(i+1),st (i+1) L',by omega,⟨i+1,L',rfl,hL',hLm2,by omega,?_,rfl⟩,a7 ⟨rfl,rfl,rfl,rfl,rfl,rfl,trivial⟩⟩
    have hs:L'=Q8 (ltG cmp) a i L:=by rw [←hJ,a2z _ _ hx hy hlt2]
    rw [←hI,show b-i=(b-(i+1))+1 by omega,p9,hs]
  ·have g:decide ((j:Int)>(a:Int))=false:=by simp;omega
   refine aS (aS (aD (by kernel_rfl) (by kernel_rfl) ?_))
   refine nc zj (nc zj (nc zT (nc zj (nc zM (nc zM (nc zM (nc zM (nc zM (nc zM (nc zM (nc zM (nc zM (nc zM (nc zM (nc zM (nc zN ?_))))))))))))))))
   refine ⟨by kernel_rfl,?_⟩
   refine aC rfl (fun hc1=>?_) (fun hc1=>?_)
   ·cases hc1
   ·refine aE ?_
    refine AWp.wk (a7 (s':=st2 (j) L') ⟨rfl,rfl,rfl,rfl,rfl,rfl,rfl,trivial⟩) ?_
    refine aR ?_
    refine nc zj (nc zu (nc zd ?_))
    refine ⟨(b+1)-(i+1),st (i+1) L',by omega,⟨i+1,L',rfl,hL',hLm2,by omega,?_,rfl⟩,a7 ⟨rfl,rfl,rfl,rfl,rfl,rfl,trivial⟩⟩
    have hs:L'=Q8 (ltG cmp) a i L:=by rw [←hJ,a1w _ _ hja]
    rw [←hI,show b-i=(b-(i+1))+1 by omega,p9,hs]
 ·have hib:¬ i<b:=by simpa using hlt
  refine aE ?_
  refine ⟨.inl rfl,_,Wk.refl _,rfl,?_,trivial⟩
  show some (AV.mrow _ _ _)=some (AV.mrow _ _ _)
  rw [show b-i=0 by omega] at hI
  rw [←hI]
  rfl
theorem a6M (cmp:Int→Int→Int) (fc:CV) (L:List Int) (hn:L.length<20) (hc:∀ W x y,x∈L→y∈L→K7 Tryz.prog W fc [(CV.i x),(CV.i y)] (.val (.i (cmp x y)))) :
  q6 Tryz.prog 90 [(400000,.mrow 3 1 (L.map CV.i))] [.sl 400000 0 L.length 1,.val (.i L.length),.val fc] (.tup []) [(400000,.mrow 3 1 ((p9 (ltG cmp) 0 (L.length-1) 1 L).map CV.i))]:=by
 refine i8 Tryz.func90 Tryz.ntmps90 rfl rfl rfl rfl rfl rfl ?_
 intro w U hU
 refine aS (aR ?_)
 refine nc zd ?_
 refine aS (aR ?_)
 refine nc zj (nc zd (nc zd ?_))
 let st:AS:=[(0,.sl 400000 0 L.length 1),(1,.val (.i L.length)),(2,.val fc),(6,.val (.i 20)),(7,.val (.i 0)),(8,.val (.i 20)),(400000,.mrow 3 1 (L.map CV.i))]
 refine aS (aB (b9 0 (fun k=>st) (a7 ⟨rfl,rfl,rfl,rfl,rfl,rfl,rfl,trivial⟩) ?_))
 intro k hk
 refine aS (aS (aR ?_))
 refine nc zj (nc zj (nc zF ?_))
 refine aC rfl (fun h=>?_) (fun _=>?_)
 ·exfalso
  have h:decide ((20:Int)≤(L.length:Int))=true:=h
  simp at h
  omega
 refine aE ?_
 refine AWp.wk (a7 (s':=st) ⟨rfl,rfl,rfl,rfl,rfl,rfl,rfl,trivial⟩) ?_
 have hins:=a5a cmp fc L 0 L.length (by omega) (Nat.le_refl _) (by omega) hc
 rw [Nat.zero_add] at hins
 refine aS (aR ?_)
 refine nc zj (nc zj (nc zj (nc zj (nc (z9 (z:=hins) (B:=by first | rfl | kernel_rfl) (C:=by first | rfl | kernel_rfl) (G:=j8 (by first | rfl | kernel_rfl))) ?_))))
 refine aB (b9 0 (fun k=>[(1,.val (.i L.length)),(6,.val (.i 20)),(400000,.mrow 3 1 ((p9 (ltG cmp) 0 (L.length-1) 1 L).map CV.i))]) (a7 ⟨rfl,rfl,rfl,trivial⟩) ?_)
 intro k hk
 refine aS (aS (aR ?_))
 refine nc zj (nc zj (nc zh ?_))
 refine aC rfl (fun h=>?_) (fun _=>?_)
 ·exfalso
  have h:decide ((20:Int)<(L.length:Int))=true:=h
  simp at h
  omega
 refine aE ?_
 exact ⟨.inl rfl,_,Wk.refl _,rfl,rfl,trivial⟩
theorem a1S (cmp:Int→Int→Int) (fc:CV) (L:List Int) (hn:L.length<20) (hc:∀ W x y,x∈L→y∈L→K7 Tryz.prog W fc [(CV.i x),(CV.i y)] (.val (.i (cmp x y)))) :
  q6 Tryz.prog 59 [(400000,.mrow 3 1 (L.map CV.i))] [.sl 400000 0 L.length 1,.val fc] (.tup []) [(400000,.mrow 3 1 ((p9 (ltG cmp) 0 (L.length-1) 1 L).map CV.i))]:=by
 refine i8 Tryz.func59 Tryz.ntmps59 rfl rfl rfl rfl rfl rfl ?_
 intro w U hU
 have hst:=a6M cmp fc L hn hc
 refine aR ?_
 refine nc zj (nc zj (nc zU (nc zj (nc (z9 (z:=hst) (B:=by first | rfl | kernel_rfl) (C:=by first | rfl | kernel_rfl) (G:=j8 (by first | rfl | kernel_rfl))) ?_))))
 exact ⟨.inl rfl,_,Wk.refl _,rfl,rfl,trivial⟩
theorem a5l (q:Int→Int→Bool) (fc:CV) (L:List Int) (hn:L.length≤1000000000) (hc:∀ W x y,x∈L→y∈L→K7 Tryz.prog W fc [(CV.i x),(CV.i y)] (.val (.b (q x y)))) :
  q6 Tryz.prog 62 [(400000,.mrow 3 1 (L.map CV.i))] [.sl 400000 0 L.length 1,.val fc] (.sl 400000 0 (G8 q L L.length).length 1) [(400000,.mrow 3 1 ((G8 q L L.length++List.replicate (L.length-(G8 q L L.length).length) (0:Int)).map CV.i))]:=by
 refine i8 Tryz.func62 Tryz.ntmps62 rfl rfl rfl rfl rfl rfl ?_
 intro w U hU
 have hwhole:G8 q L L.length=L→(G8 q L L.length).length=L.length∧(G8 q L L.length++List.replicate (L.length-(G8 q L L.length).length) (0:Int))=L:=fun h=>by rw [h];simp
 refine aS (aR ?_)
 refine nc zd ?_
 refine aS (aS (aR ?_))
 refine nc zj (nc zU (nc zh ?_))
 refine aC rfl (fun h2=>?_) (fun h2=>?_)
 ·have h2:L.length<2:=by have h2:decide ((L.length:Int)<2)=true:=h2;simp at h2;omega
  have hw:=hwhole (by
   match L,h2 with
   | [],_=>rfl
   | [x],_=>rfl)
  refine aS (aR ?_)
  refine nc zj (nc zd ?_)
  refine aT ⟨.inr rfl,_,Wk.refl _,?_,?_,trivial⟩
  ·rw [hw.1];rfl
  ·rw [hw.2];rfl
 ·have h2:2≤L.length:=by have h2:decide ((L.length:Int)<2)=false:=h2;simp at h2;omega
  refine aK ?_
  refine aS (aS (aR ?_))
  refine nc zd ?_
  let st:Nat→AS:=fun k=>[(0,.sl 400000 0 L.length 1),(1,.val fc),(5,.val (.i ((k+1:Nat):Int))),(400000,.mrow 3 1 (L.map CV.i))]
  refine aB (p6 L.length (fun k=>k+1≤L.length∧G8 q L (k+1)=L.take (k+1)) st (a7 ⟨rfl,rfl,rfl,rfl,trivial⟩) ⟨by omega,b2l⟩ ?_)
  rintro k hk ⟨hk1,hI⟩
  refine aS (aS (aR ?_))
  refine nc zj (nc zj (nc zU (nc zh ?_)))
  refine aC rfl (fun hlt=>?_) (fun hlt=>?_)
  ·have hkl:k+1<L.length:=by have h3:decide ((((k+1:Nat):Int))<(L.length:Int))=true:=hlt;simp at h3;omega
   obtain ⟨x,hx⟩:∃ x,L[k+1]?=some x:=⟨L[k+1],List.getElem?_eq_getElem hkl⟩
   obtain ⟨y,hy⟩:∃ y,L[k]?=some y:=⟨L[k]'(by omega),List.getElem?_eq_getElem (by omega)⟩
   have hx':=C3 hx
   have hy':=C3 hy
   refine aK ?_
   refine aS (aB (aS (aD (by kernel_rfl) (by kernel_rfl) ?_)))
   refine nc zj (nc zj (nc zj (nc (zV (k:=k+1)) (nc (zW (G:=hx')) (nc zj (nc zj (nc zi (nc (zV (k:=k)) (nc (zW (G:=hy')) (nc (zX (E:=hc _ x y (List.mem_of_getElem? hx) (List.mem_of_getElem? hy))) ?_))))))))))
   refine ⟨by kernel_rfl,?_⟩
   refine aC rfl (fun hq=>?_) (fun hq=>?_)
   ·have hq:q x y=true:=hq
    refine AWp.wk (a7 (s':=st k) ⟨rfl,rfl,rfl,rfl,trivial⟩) ?_
    refine aS (aR ?_)
    refine nc zj (nc zj (nc (zbC (j:=k+1)) (nc zd ?_)))
    refine aS (aS (aR ?_))
    refine nc zd ?_
    let st2:Nat→Nat→List Int→AS:=fun j kk C=>[(0,.sl 400000 0 L.length 1),(1,.val fc),(5,.val (.i kk)),(6,.sl 400000 (0+(k+1)) (L.length-(k+1)) 1),(7,.val (.i ((j+1:Nat):Int))),(400000,.mrow 3 1 (C.map CV.i))]
    have h0:G8 q L (k+2)=L.take (k+1):=by rw [a3L hx hy hq,hI]
    refine aB (C9 (fun m s=>∃ j kk C,m=L.length-j∧k+1+(j+1)≤L.length∧kk≤k+1+j∧C.length=L.length∧C.take kk=G8 q L (k+1+(j+1))∧(∀ i,k+1+j≤i→C[i]?=L[i]?)∧s=st2 j kk C) (s':=st2 0 (k+1) L) (a7 ⟨rfl,rfl,rfl,rfl,rfl,rfl,trivial⟩) ⟨0,k+1,L,rfl,by omega,by omega,rfl,h0.symm,fun _ _=>rfl,rfl⟩ ?_)
    rintro m s ⟨j,kk,C,hm,hj1,hj2,hC,hI1,hI2,rfl⟩
    refine aS (aS (aR ?_))
    refine nc zj (nc zj (nc zU (nc zh ?_)))
    refine aC rfl (fun hlt2=>?_) (fun hlt2=>?_)
    ·have hjl:k+1+(j+1)<L.length:=by have h3:decide ((((j+1:Nat):Int))<((L.length-(k+1):Nat):Int))=true:=hlt2;simp at h3;omega
     obtain ⟨x2,hx2⟩:∃ x,L[k+1+(j+1)]?=some x:=⟨L[k+1+(j+1)],List.getElem?_eq_getElem hjl⟩
     obtain ⟨y2,hy2⟩:∃ y,L[k+1+j]?=some y:=⟨L[k+1+j]'(by omega),List.getElem?_eq_getElem (by omega)⟩
     have hx2':=C3 ((hI2 _ (by omega)).trans hx2)
     have hy2':=C3 ((hI2 _ (by omega)).trans hy2)
     refine aK ?_
     refine aS (aB (aS (aD (by kernel_rfl) (by kernel_rfl) ?_)))
     refine nc zj (nc zj (nc zj (nc (zV (k:=k+1+(j+1))) (nc (zW (G:=hx2')) (nc zj (nc zj (nc zi (nc (zV (k:=k+1+j)) (nc (zW (G:=hy2')) (nc (zX (E:=hc _ x2 y2 (List.mem_of_getElem? hx2) (List.mem_of_getElem? hy2))) (nc zt ?_)))))))))))
     refine ⟨by kernel_rfl,?_⟩
     refine aC rfl (fun hq2=>?_) (fun hq2=>?_)
     ·have hq2:q x2 y2=false:=by simpa using hq2
      refine AWp.wk (a7 (s':=st2 j kk C) ⟨rfl,rfl,rfl,rfl,rfl,rfl,trivial⟩) ?_
      obtain ⟨z2,hz2⟩:∃ z,C[kk]?=some z:=⟨C[kk]'(by omega),List.getElem?_eq_getElem (by omega)⟩
      have hz2':=C3 hz2
      refine aS (aR ?_)
      refine nc zj (nc zj (nc zj (nc zj (nc (zV (k:=k+1+(j+1))) (nc (zW (G:=hx2')) (nc (zV (k:=kk)) (nc (zbi (F:=hz2')) ?_)))))))
      refine aR ?_
      refine nc zj (nc zu (nc zd ?_))
      refine aR ?_
      refine nc zj (nc zu (nc zd ?_))
      refine ⟨L.length-(j+1),st2 (j+1) (kk+1) (C.set kk x2),by omega,⟨j+1,kk+1,C.set kk x2,rfl,by omega,by omega,by simp [hC],?_,fun i hi=>?_,rfl⟩,a7 ⟨rfl,rfl,rfl,rfl,rfl,?_,trivial⟩⟩
      ·rw [b3N (by omega),hI1,show k+1+(j+1+1)=(k+1+j)+2 by omega,a5M (m:=k+1+j) hx2 hy2 hq2];rfl
      ·rw [List.getElem?_set_ne (by omega)];exact hI2 i (by omega)
      ·show some (AV.mrow _ _ _)=some (AV.mrow _ _ _)
       rw [J4]
     ·have hq2:q x2 y2=true:=by simpa using hq2
      refine aK ?_
      refine AWp.wk (a7 (s':=st2 j kk C) ⟨rfl,rfl,rfl,rfl,rfl,rfl,trivial⟩) ?_
      refine aR ?_
      refine nc zj (nc zu (nc zd ?_))
      refine ⟨L.length-(j+1),st2 (j+1) kk C,by omega,⟨j+1,kk,C,rfl,by omega,by omega,hC,?_,fun i hi=>hI2 i (by omega),rfl⟩,a7 ⟨rfl,rfl,rfl,rfl,rfl,rfl,trivial⟩⟩
      rw [hI1,show k+1+(j+1+1)=(k+1+j)+2 by omega,a3L (m:=k+1+j) hx2 hy2 hq2];rfl
    ·have hjl:k+1+(j+1)=L.length:=by have h3:decide ((((j+1:Nat):Int))<((L.length-(k+1):Nat):Int))=false:=hlt2;simp at h3;omega
     refine aE ?_
     refine AWp.wk (a7 (s':=st2 j kk C) ⟨rfl,rfl,rfl,rfl,rfl,rfl,trivial⟩) ?_
     refine aS (aR ?_)
     refine nc zj (nc zj (nc (zbC (j:=kk)) (nc zbD ?_)))
     refine aS (aR ?_)
     refine nc zj (nc zj (nc (zbE (j:=kk)) (nc zd ?_)))
     rw [hjl] at hI1
     have hkk:kk=(G8 q L L.length).length:=by rw [←hI1];simp;omega
     refine aT ⟨.inr rfl,_,Wk.refl _,?_,?_,trivial⟩
     ·rw [←hkk];rfl
     ·show some (AV.mrow _ _ _)=some (AV.mrow _ _ _)
      rw [←hkk,←hI1,List.map_append,←List.map_take,List.map_replicate]
      simp only [Nat.zero_add]
      rw [show kk+(L.length-kk)=(C.map CV.i).length by simp;omega,List.drop_length,List.append_nil]
      rfl
   ·have hq:q x y=false:=hq
    refine aK ?_
    refine AWp.wk (a7 (s':=st k) ⟨rfl,rfl,rfl,rfl,trivial⟩) ?_
    refine aR ?_
    refine nc zj (nc zu (nc zd ?_))
    refine ⟨by omega,⟨by omega,?_⟩,a7 ⟨rfl,rfl,rfl,rfl,trivial⟩⟩
    rw [a5M hx hy hq,hI,a4T hx]
  ·have hkl:k+1=L.length:=by have h3:decide ((((k+1:Nat):Int))<(L.length:Int))=false:=hlt;simp at h3;omega
   refine aE ?_
   rw [hkl,List.take_length] at hI
   have hw:=hwhole hI
   refine aS (aR ?_)
   refine nc zj (nc zd ?_)
   refine aT ⟨.inr rfl,_,Wk.refl _,?_,?_,trivial⟩
   ·rw [hw.1];rfl
   ·rw [hw.2];rfl
def ltO (x y:Int):Bool:=decide (x<y)
theorem b1O (W:World) (x:Int):AFun Tryz.prog W 103 [.i x] (.val (.b false)):=by
 refine ⟨r9 Tryz.func103 rfl rfl,.inl rfl,rfl,?_⟩
 rintro U w vs hW ⟨u1,us1,rfl,h1,h3⟩
 have h3:us1=[]:=h3
 subst h3
 obtain ⟨rfl,_⟩:=b5.1 h1
 refine (T7 x w).mono ?_
 rintro e w' ⟨rfl,rfl⟩
 exact ⟨_,rfl,b5.2 ⟨rfl,rfl⟩,Below.refl _ _⟩
theorem b2C (W:World) (x y:Int):AFun Tryz.prog W 122 [.i x,.i y] (.val (.b (ltO x y))):=by
 refine a8 (rs:=[.b (ltO x y)]) Tryz.func122 Tryz.ntmps122 rfl rfl rfl rfl ?_
 intro w U hW
 refine aS (aR ?_)
 refine nc zd ?_
 refine aS (aR ?_)
 refine nc zj (nc (zn (z:=b1O w x)) (nc zj (nc zM (nc zM (nc zM (nc zN (nc zj (nc (zj (p:=gc)) (nc (zj (p:=gc)) (nc (zh (r:=gc)) (nc zN (nc zd ?_))))))))))))
 exact aT (And.intro (.inr rfl) rfl)
theorem a8U (L0:List Int) (n a b:Nat) (hbn:b≤n) (hnl:n≤L0.length) (ha:a≤L0.length) (hb:b≤L0.length) (hn:L0.length≤1000000000) :
  q6 Tryz.prog 116 [(400000,.mrow 3 1 (L0.map CV.i))] [.sl 400000 0 n 1,.val (.i a),.val (.i b)] (.tup []) [(400000,.mrow 3 1 ((p9 (ltO) a (b-(a+1)) (a+1) L0).map CV.i))]:=by
 refine i8 Tryz.func116 Tryz.ntmps116 rfl rfl rfl rfl rfl rfl ?_
 intro w U hU
 obtain ⟨T,hT⟩:∃ T,T=p9 (ltO) a (b-(a+1)) (a+1) L0:=⟨_,rfl⟩
 rw [←hT]
 refine aS (aR ?_)
 refine nc zj (nc zu (nc zd ?_))
 let st:Nat→List Int→AS:=fun i L=>[(0,.sl 400000 0 n 1),(1,.val (.i a)),(2,.val (.i b)),(6,.val (.i i)),(400000,.mrow 3 1 (L.map CV.i))]
 refine aB (C9 (fun m s=>∃ i L,m=(b+1)-i∧L.length=L0.length∧a+1≤i∧p9 (ltO) a (b-i) i L=T∧s=st i L) (s':=st (a+1) L0) (a7 ⟨rfl,rfl,rfl,rfl,rfl,trivial⟩) ⟨a+1,L0,rfl,rfl,Nat.le_refl _,hT.symm,rfl⟩ ?_)
 rintro m s ⟨i,L,rfl,hL,hi,hI,rfl⟩
 refine aS (aS (aR ?_))
 refine nc zj (nc zj (nc zh ?_))
 refine aC rfl (fun hlt=>?_) (fun hlt=>?_)
 ·have hib:i<b:=by simpa using hlt
  refine aK ?_
  refine aS (aB (aS (aR ?_)))
  refine nc zj (nc zd ?_)
  let st2:Nat→List Int→AS:=fun j L=>[(0,.sl 400000 0 n 1),(1,.val (.i a)),(2,.val (.i b)),(6,.val (.i i)),(7,.val (.i j)),(400000,.mrow 3 1 (L.map CV.i))]
  refine aB (C9 (fun m s=>∃ j L',m=j∧L'.length=L0.length∧j≤i∧Q8 (ltO) a j L'=Q8 (ltO) a i L∧s=st2 j L') (s':=st2 i L) (a7 ⟨rfl,rfl,rfl,rfl,rfl,rfl,trivial⟩) ⟨i,L,rfl,hL,Nat.le_refl _,rfl,rfl⟩ ?_)
  rintro m s ⟨j,L',hmj,hL',hji,hJ,rfl⟩
  by_cases hja:a<j
  ·obtain ⟨j,rfl⟩:∃ k,j=k+1:=⟨j-1,by omega⟩
   obtain ⟨x,hx⟩:∃ x,L'[j+1]?=some x:=⟨L'[j+1]'(by omega),List.getElem?_eq_getElem (by omega)⟩
   obtain ⟨y,hy⟩:∃ y,L'[j]?=some y:=⟨L'[j]'(by omega),List.getElem?_eq_getElem (by omega)⟩
   have hx':=C3 hx
   have hy':=C3 hy
   have g:decide (((j+1:Nat):Int)>(a:Int))=true:=by simp;omega
   refine aS (aS (aD (by kernel_rfl) (by kernel_rfl) ?_))
   refine nc zj (nc zj (nc zT (nc zj (nc (zj (p:=gc)) (nc (zj (p:=gc)) (nc (zV (k:=j+1) (p:=gc)) (nc (zW (r:=gc) (G:=hx')) (nc (zj (p:=gc)) (nc (zj (p:=gc)) (nc (zi (r:=gc)) (nc (zV (k:=j) (p:=gc)) (nc (zW (r:=gc) (G:=hy')) (nc (zn (p:=gc) (z:=b2C _ x y)) (nc zO ?_))))))))))))))
   refine ⟨by kernel_rfl,?_⟩
   refine aC rfl (fun hc1=>?_) (fun hc1=>?_)
   ·have hlt2:ltO x y=true:=hc1
    refine aK ?_
    refine AWp.wk (a7 (s':=st2 (j+1) L') ⟨rfl,rfl,rfl,rfl,rfl,rfl,trivial⟩) ?_
    refine aS (aB (aD (by kernel_rfl) (by kernel_rfl) ?_))
    refine nc zj (nc zj (nc zj (nc zj (nc zi (nc zj (nc zj (nc zi (nc (zV (k:=j)) (nc (zW (G:=hy')) (nc zj (nc zj (nc (zV (k:=j+1)) (nc (zW (G:=hx')) (nc (zV (k:=j+1)) (nc (zbi (F:=hx')) (nc (zV (k:=j)) ?_))))))))))))))))
    refine nc (zbi (F:=(by rw [List.getElem?_set_ne (by omega)];exact hy'))) ?_
    refine ⟨by kernel_rfl,?_⟩
    refine aR ?_
    refine nc zj (nc zi (nc zd ?_))
    refine ⟨j,st2 j ((L'.set (j+1) y).set j x),by omega,⟨j,_,rfl,by simp [hL'],by omega,?_,rfl⟩,a7 ⟨rfl,rfl,rfl,rfl,?_,?_,trivial⟩⟩
    ·rw [←hJ,a0l _ _ hx hy hja hlt2]
    ·show some (AV.val (.i _))=some (AV.val (.i _))
     congr 3;omega
    ·show some (AV.mrow _ _ _)=some (AV.mrow _ _ _)
     rw [J4,J4]
   ·have hlt2:ltO x y=false:=hc1
    refine aE ?_
    refine AWp.wk (a7 (s':=st2 (j+1) L') ⟨rfl,rfl,rfl,rfl,rfl,rfl,trivial⟩) ?_
    refine aR ?_
    refine nc zj (nc zu (nc zd ?_))
    refine ⟨(b+1)-(i+1),st (i+1) L',by omega,⟨i+1,L',rfl,hL',by omega,?_,rfl⟩,a7 ⟨rfl,rfl,rfl,rfl,rfl,trivial⟩⟩
    have hs:L'=Q8 (ltO) a i L:=by rw [←hJ,a2z _ _ hx hy hlt2]
    rw [←hI,show b-i=(b-(i+1))+1 by omega,p9,hs]
  ·have g:decide ((j:Int)>(a:Int))=false:=by simp;omega
   refine aS (aS (aD (by kernel_rfl) (by kernel_rfl) ?_))
   refine nc zj (nc zj (nc zT (nc zj (nc zM (nc zM (nc zM (nc zM (nc zM (nc zM (nc zM (nc zM (nc zM (nc zM (nc zN ?_))))))))))))))
   refine ⟨by kernel_rfl,?_⟩
   refine aC rfl (fun hc1=>?_) (fun hc1=>?_)
   ·cases hc1
   ·refine aE ?_
    refine AWp.wk (a7 (s':=st2 (j) L') ⟨rfl,rfl,rfl,rfl,rfl,rfl,trivial⟩) ?_
    refine aR ?_
    refine nc zj (nc zu (nc zd ?_))
    refine ⟨(b+1)-(i+1),st (i+1) L',by omega,⟨i+1,L',rfl,hL',by omega,?_,rfl⟩,a7 ⟨rfl,rfl,rfl,rfl,rfl,trivial⟩⟩
    have hs:L'=Q8 (ltO) a i L:=by rw [←hJ,a1w _ _ hja]
    rw [←hI,show b-i=(b-(i+1))+1 by omega,p9,hs]
 ·have hib:¬ i<b:=by simpa using hlt
  refine aE ?_
  refine ⟨.inl rfl,_,Wk.refl _,rfl,?_,trivial⟩
  show some (AV.mrow _ _ _)=some (AV.mrow _ _ _)
  rw [show b-i=0 by omega] at hI
  rw [←hI]
  rfl
theorem b3U (L Z:List Int) (lim:Int) (hn:L.length≤12) (hz:Z.length≤1000) :
  q6 Tryz.prog 94 [(400000,.mrow 3 1 ((L++Z).map CV.i))] [.sl 400000 0 L.length 1,.val (.i 0),.val (.i L.length),.val (.i lim)] (.tup []) [(400000,.mrow 3 1 ((L3 ltO L++Z).map CV.i))]:=by
 have hin:=a8U (L++Z) L.length 0 L.length (Nat.le_refl _) (by rw [List.length_append];omega) (by omega) (by rw [List.length_append];omega) (by rw [List.length_append];omega)
 have he:p9 ltO 0 (L.length-(0+1)) (0+1) (L++Z)=L3 ltO L++Z:=by
  cases L with
  | nil=>rfl
  | cons x L =>
   have:=a1c ltO L.length [x] (L++Z) (by rw [List.length_append];omega)
   rw [List.take_left,List.drop_left] at this
   rw [List.length_cons,Nat.add_sub_cancel,List.cons_append]
   exact this
 rw [he] at hin
 refine i8 Tryz.func94 Tryz.ntmps94 rfl rfl rfl rfl rfl rfl ?_
 intro w U hU
 refine aS (aR ?_)
 refine nc zd ?_
 refine aS (aR ?_)
 refine nc zd ?_
 refine aB (C9 (fun m s=>m=0∧s=[(0,.sl 400000 0 L.length 1),(1,.val (.i 0)),(2,.val (.i L.length)),(400000,.mrow 3 1 ((L++Z).map CV.i))]) (n:=0) (s':=[(0,.sl 400000 0 L.length 1),(1,.val (.i 0)),(2,.val (.i L.length)),(400000,.mrow 3 1 ((L++Z).map CV.i))]) (a7 ⟨rfl,rfl,rfl,rfl,trivial⟩) ⟨rfl,rfl⟩ ?_)
 rintro m s ⟨rfl,rfl⟩
 refine aB ?_
 refine aS (aR ?_)
 refine nc zj (nc zj (nc zi (nc zd ?_)))
 refine aS (aS (aR ?_))
 refine nc zj (nc zF ?_)
 refine aC rfl (fun h=>?_) (fun h=>?_)
 ·refine aS (aR ?_)
  refine nc zj (nc zj (nc zj (nc (z9 (z:=hin) (B:=by first | rfl | kernel_rfl) (C:=by first | rfl | kernel_rfl) (G:=j8 (by first | rfl | kernel_rfl))) ?_)))
  exact aT ⟨.inr rfl,_,Wk.refl _,rfl,rfl,trivial⟩
 ·exfalso
  have:=of_decide_eq_false h
  omega
theorem b1h (L Z:List Int) (hn:L.length≤12) (hz:Z.length≤1000) :
  q6 Tryz.prog 65 [(400000,.mrow 3 1 ((L++Z).map CV.i))] [.sl 400000 0 L.length 1] (.tup []) [(400000,.mrow 3 1 ((L3 ltO L++Z).map CV.i))]:=by
 have hw:IntKind.u64.wrap ((L.length:Nat):Int)=((L.length:Nat):Int):=by rw [IntKind.wrap_u64];omega
 have hp:=b3U L Z (b5w L.length) hn hz
 refine i8 Tryz.func65 Tryz.ntmps65 rfl rfl rfl rfl rfl rfl ?_
 intro w U hU
 refine aS (aR ?_)
 refine nc zj (nc zU (nc zd ?_))
 refine aR ?_
 refine nc zj (nc zj (nc zj (nc zbF (nc (zn (z:=b5c w L.length hn)) (nc (z9 (z:=hp) (B:=by first | rfl | kernel_rfl) (C:=by first | rfl | kernel_rfl) (G:=j8 (by first | rfl | kernel_rfl))) ?_)))))
 exact ⟨.inl rfl,_,Wk.refl _,rfl,rfl,trivial⟩
theorem Y3 (x:Int) (w:World) :
  Calls Tryz.prog 115 #[.int .u8 x] w fun e w'=>e = .returned (.bool false)∧w'=w:=by
 go_enter Tryz.func115,Tryz.ntmps115
 go_wp2
 go_ret
 exact ⟨by simp,rfl⟩
set_option maxHeartbeats 400000 in
theorem a6o (x y:Int) (w:World) :
  Calls Tryz.prog 91 #[.int .u8 x,.int .u8 y] w fun e w'=>e = .returned (.int .i64 (B3 x y))∧Below w.heap.size w w':=by
 rcases Int.lt_trichotomy x y with h | h | h
 ·have h2:B3 x y = -1:=if_pos h
  rw [h2]
  clear h2
  go_enter Tryz.func91,Tryz.ntmps91
  go_wp2_with (go_at_call 115;refine (Y3 _ _).mono ?_;rintro e w1 ⟨rfl,rfl⟩)
  go_ret
  exact ⟨rfl,bW _⟩
 ·subst h
  have h2:B3 x x=0:=by simp [B3]
  rw [h2]
  clear h2
  go_enter Tryz.func91,Tryz.ntmps91
  go_wp2_with (go_at_call 115;refine (Y3 _ _).mono ?_;rintro e w1 ⟨rfl,rfl⟩)
  go_ret
  exact ⟨rfl,bW _⟩
 ·have h2:B3 x y=1:=by unfold B3;rw [if_neg (by omega),if_pos h]
  rw [h2]
  clear h2
  go_enter Tryz.func91,Tryz.ntmps91
  go_wp2_with (go_at_call 115;refine (Y3 _ _).mono ?_;rintro e w1 ⟨rfl,rfl⟩)
  go_ret
  exact ⟨rfl,bW _⟩
theorem b3T (W:World) (x y:Int):AFun Tryz.prog W 91 [by8 x,by8 y] (.val (.i (B3 x y))):=by
 refine ⟨r9 Tryz.func91 rfl rfl,.inl rfl,rfl,?_⟩
 rintro U w vs hW ⟨u1,us1,rfl,h1,u2,us2,rfl,h2,h3⟩
 have h3:us2=[]:=h3
 subst h3
 obtain ⟨rfl,_⟩:=b5.1 h1
 obtain ⟨rfl,_⟩:=b5.1 h2
 refine (a6o x y w).mono ?_
 rintro e w' ⟨rfl,hb⟩
 exact ⟨_,rfl,b5.2 ⟨rfl,rfl⟩,hb⟩
theorem a1a (W:World) (x y:Lt) (hx:x.rng) (hy:y.rng):AFun Tryz.prog W 61 [x.cw,y.cw] (.val (.i (w7 x y))):=by
 refine a8 (rs:=[.i (w7 x y)]) Tryz.func61 Tryz.ntmps61 rfl rfl rfl rfl ?_
 intro w U hW
 refine aS (aR ?_)
 refine nc zb (nc zb (nc zd ?_))
 refine aS (aS (aD (by kernel_rfl) (by kernel_rfl) ?_))
 refine nc zE (nc (zn (z:=a4L w x)) (nc zE (nc (zn (z:=a4L w y)) (nc (zn (z:=b3T w _ _)) (nc zd ?_)))))
 refine ⟨by kernel_rfl,?_⟩
 refine aS (aR ?_)
 refine nc zj (nc zK ?_)
 refine aC rfl (fun hc=>?_) (fun hc=>?_)
 ·have e:w7 x y=B3 (sgZ x.neg) (sgZ y.neg):=by unfold w7;rw [if_pos];exact of_decide_eq_true hc
  rw [e]
  refine aS (aR ?_)
  refine nc zj (nc zd ?_)
  exact aT (And.intro (.inr rfl) rfl)
 ·have e:w7 x y=a0I x y:=by unfold w7;rw [if_neg];exact of_decide_eq_false hc
  rw [e]
  refine aK ?_
  refine aS (aR ?_)
  refine nc zE (nc zE (nc (zn (z:=b0M w x y hx hy)) (nc zd ?_)))
  exact aT (And.intro (.inr rfl) rfl)
theorem a8n (W:World) (x y:Lt) (hx:x.rng) (hy:y.rng):AFun Tryz.prog W 64 [x.cw,y.cw] (.val (.b (smL x y))):=by
 refine a8 (rs:=[.b (smL x y)]) Tryz.func64 Tryz.ntmps64 rfl rfl rfl rfl ?_
 intro w U hW
 refine aS (aR ?_)
 refine nc zb (nc zb (nc zd ?_))
 refine aS (aR ?_)
 refine nc zE (nc zE (nc (zn (z:=a1a w x y hx hy)) (nc zC (nc zd ?_))))
 exact aT (And.intro (.inr rfl) rfl)
def okCl (c:List Lt):Prop:=c.length≤12∧∀ l∈c,(l.a.rng∧l.a.ok∧l.a.size≤1000)∧(l.b.rng∧l.b.ok∧l.b.size≤1000)
theorem b3x {c:List Lt} {s:Tm}:s∈D5 c↔∃ l∈c,s=l.a∨s=l.b:=by
 unfold D5
 rw [List.mem_flatMap]
 constructor
 ·rintro ⟨l,hl,h⟩
  exact ⟨l,hl,by simpa using h⟩
 ·rintro ⟨l,hl,h⟩
  exact ⟨l,hl,by simpa using h⟩
theorem okCl.sid {c:List Lt} (h:okCl c):(Z9 c).rng∧(Z9 c).ok∧(Z9 c).size≤24001:=by
 have hm:∀ s∈D5 c,s.rng∧s.ok∧s.size≤1000:=fun s hs=>by
  obtain ⟨l,hl,e⟩:=b3x.1 hs
  rcases e with rfl | rfl
  ·exact (h.2 l hl).1
  ·exact (h.2 l hl).2
 have hl:=a7v c
 have h1:=h.1
 refine ⟨(Tm.rng_iff _).2 ⟨by show _≤(0:Int)∧(0:Int)≤_;omega,fun s hs=>(hm s hs).1⟩,(Tm.ok_iff _).2 ⟨by show (D5 c).length≤_;omega,fun s hs=>(hm s hs).2.1⟩,?_⟩
 rw [Tm.size_sym (show ¬ (Z9 c).f<0 by show ¬ (0:Int)<0;decide)]
 show 1+((D5 c).map Tm.size).sum≤_
 have:∀ L:List Tm,(∀ s∈L,s.size≤1000)→(L.map Tm.size).sum≤1000*L.length:=fun L=>by
  induction L with
  | nil=>intro _;exact Nat.zero_le _
  | cons x L ih =>
   intro g
   rw [List.map_cons,List.sum_cons,List.length_cons]
   have a1:=g x (by simp)
   have a2:=ih fun s hs=>g s (List.mem_cons_of_mem _ hs)
   omega
 have:=this (D5 c) fun s hs=>(hm s hs).2.2
 omega
theorem okCl.nv {c:List Lt} (h:okCl c):(Z9 c).nv.length≤24001:=Nat.le_trans (b7q _) h.sid.2.2
theorem okCl.rng {c:List Lt} (h:okCl c):∀ l∈c,l.rng:=fun l hl=>⟨(h.2 l hl).1.1,(h.2 l hl).2.1⟩
noncomputable abbrev ltZ:CV := .row [.b false,.row [.i 0,.lst []],.row [.i 0,.lst []]]
theorem b2q (W:World) (l k:Lt) (hk:k.rng):AFun Tryz.prog W 56 [l.cw,k.cw] (.val (a0R l k).cw):=by
 refine a8 (rs:=[(a0R l k).cw]) Tryz.func56 Tryz.ntmps56 rfl rfl rfl rfl ?_
 intro w U hW
 refine aS (aR ?_)
 refine nc zb (nc zb (nc (zbG [ltZ,ltZ]) ?_))
 refine aS (aS (aR ?_))
 refine nc zE (nc (zn (z:=a3N w k hk)) ?_)
 refine aC rfl (fun hc=>?_) (fun hc=>?_)
 ·have e:a0R l k=⟨l,k⟩:=by unfold a0R;rw [if_pos (by have:=of_decide_eq_true hc;omega)]
  rw [e]
  refine aS (aR ?_)
  refine nc zE (nc zE (nc (zbw [ltZ,ltZ]) (nc zy ?_)))
  exact aT (And.intro (.inr rfl) rfl)
 ·have e:a0R l k=⟨a7P l,a7P k⟩:=by unfold a0R;rw [if_neg (by have:=of_decide_eq_false hc;omega)]
  rw [e]
  refine aK ?_
  refine aS (aD (by kernel_rfl) (by kernel_rfl) ?_)
  refine nc zE (nc (zn (z:=a3d w l)) (nc zE (nc (zn (z:=a3d w k)) (nc (zbw [ltZ,ltZ]) (nc zy ?_)))))
  refine ⟨by kernel_rfl,?_⟩
  exact aT (And.intro (.inr rfl) rfl)
theorem b1K (W:World) (x y:Sn) (hx:x.look.rng) (hy:y.look.rng):AFun Tryz.prog W 58 [x.cw,y.cw] (.val (.i (a6a x y))):=by
 refine a8 (rs:=[.i (a6a x y)]) Tryz.func58 Tryz.ntmps58 rfl rfl rfl rfl ?_
 intro w U hW
 refine aS (aR ?_)
 refine nc zb (nc zb (nc zd ?_))
 refine aS (aR ?_)
 refine nc ze (nc zg (nc ze (nc zg (nc (zn (z:=a1a w x.look y.look hx hy)) (nc zd ?_)))))
 exact aT (And.intro (.inr rfl) rfl)
theorem b1u (W:World) (n:Int):AFun Tryz.prog W 86 [.i n] (.val (.i 0)):=by
 refine a8 (rs:=[.i 0]) Tryz.func86 Tryz.ntmps86 rfl rfl rfl rfl ?_
 intro w U hW
 refine aS (aR ?_)
 refine nc zd ?_
 refine aS (aR ?_)
 refine nc zd ?_
 exact aT (And.intro (.inr rfl) rfl)
theorem b1B (W:World) (n:Int):AFun Tryz.prog W 69 [.i n] (.val (.i n)):=by
 refine a8 (rs:=[.i n]) Tryz.func69 Tryz.ntmps69 rfl rfl rfl rfl ?_
 intro w U hW
 refine aS (aR ?_)
 refine nc zd ?_
 refine aS (aR ?_)
 refine nc zj (nc zd ?_)
 exact aT (And.intro (.inr rfl) rfl)
def S6 (c:List Lt) (g:Int→Int):List Bd:=a6V (Z9 c).nv ((a0P (Z9 c).nv.length).map g)
theorem a3p (c:List Lt) (g:Int→Int):(S6 c g).length=(Z9 c).nv.length:=by
 unfold S6
 rw [b5p (by rw [List.length_map,S5])]
set_option maxHeartbeats 1000000 in
theorem a4r (W:World) (c:List Lt) (g:Int→Int) (fc:CV) (hn:okCl c) (hg:∀ n,0≤n→n≤24001→0≤g n∧g n≤24001) (hc:∀ W n,K7 Tryz.prog W fc [.i n] (.val (.i (g n)))):AFun Tryz.prog W 68 [.lst (c.map Lt.cv),fc] (.val (.lst ((S6 c g).map Bd.cv))):=by
 obtain ⟨hr,hok,hsi⟩:=hn.sid
 have hV:=fun w=>b3n w hr (by omega)
 rw [a9G] at hV
 have hnl:=hn.nv
 obtain ⟨z,hz⟩:∃ z,z=S6 c g:=⟨_,rfl⟩
 have hzl:=a3p c g
 rw [←hz] at hzl ⊢
 have hzat:∀ (k:Nat) (v:Int),(Z9 c).nv[k]?=some v→z[k]?=some (Bd.mk v (K2 (g k))):=fun k v hv=>by
  have hk:=(List.getElem?_eq_some_iff.1 hv).1
  rw [hz]
  unfold S6
  exact b6N hv (by rw [List.getElem?_map,a5T hk];rfl)
 obtain ⟨l,hl⟩:∃ l,l=(Z9 c).nv:=⟨_,rfl⟩
 rw [←hl] at hzl hnl hzat hV
 have hsz:=b8 l
 have hzz:=fun k=>Bd.size_all (z.take k)
 refine a8 (rs:=[.lst (z.map Bd.cv)]) Tryz.func68 Tryz.ntmps68 rfl rfl rfl rfl ?_
 intro w U hW
 refine aS (aR ?_)
 refine nc zd ?_
 refine aS (aR ?_)
 refine nc zd ?_
 refine aS (aS (aR ?_))
 refine nc zj (nc (zn (z:=a3i w c (by have:=hn.1;omega))) (nc (zn (z:=hV w)) (nc zp (nc zj ?_))))
 refine aB (b9 l.length (fun k=>[(1,.val fc),(5,.own (.lst ((z.take k).map Bd.cv)) 200026),(200026,.tok 85 3),(10,.val (.lst (l.map CV.i))),(11,.val (.i (l.map CV.i).length)),(12,.val (.i k))])
  ((E4 5 200026 85 3 rfl rfl rfl rfl rfl rfl rfl).trans (a7 ⟨rfl,rfl,rfl,rfl,rfl,rfl,trivial⟩)) ?_)
 intro k hk
 refine aS (aR ?_)
 refine nc zh ?_
 refine aS (aC rfl (fun hc=>aK ?_) (fun hc=>aE ?_))
 ·have hkl:k<l.length:=by
   simp only [List.length_map,decide_eq_true_eq] at hc
   omega
  clear hc
  obtain ⟨v,hv⟩:∃ v,l[k]?=some v:=⟨l[k],List.getElem?_eq_getElem hkl⟩
  have hv':=C3 hv
  have hgk:=hg k (by omega) (by omega)
  have hlt:((z.take k).map Bd.cv).length≤24001:=by rw [List.length_map,List.length_take];omega
  refine aS (aB (aS (aR ?_)))
  refine nc zj (nc (zz (H:=by assumption) (hz:=by first | assumption | exact sZ rfl | exact Tm.size_all _ | exact Bd.size_all _ | exact b8 _ | exact bys_size _ | exact Lt.size_all _)) (nc zA (nc zd (nc zd ?_))))
  refine aR ?_
  refine nc zj (nc zj (nc zj (nc zj (nc (zX (E:=hc w k)) (nc zi (nc zx (nc zx (nc zI (nc zJ (nc zd ?_))))))))))
  refine aR ?_
  refine nc zu (nc zj ?_)
  refine ⟨hkl,Wk.trans (a7 (s':=[(1,.val fc),(5,.own (.lst ((z.take (k+1)).map Bd.cv)) 300026),(300026,.tok 85 3),(10,.val (.lst (l.map CV.i))),(11,.val (.i (l.map CV.i).length)),(12,.val (.i ((k+1:Nat):Int)))]) ⟨rfl,?_,rfl,rfl,rfl,rfl,trivial⟩) (v9 300026 200026 rfl rfl rfl rfl)⟩
  rw [List.take_add_one,hzat k v hv,List.map_append]
  rfl
 ·have hkl:k=z.length:=by
   simp only [List.length_map,decide_eq_false_iff_not] at hc
   omega
  subst hkl
  rw [List.take_length]
  refine aS (aR ?_)
  refine nc zj (nc zd ?_)
  exact aT (And.intro (.inr rfl) rfl)
theorem b2E (W:World) (c:List Lt) (hn:okCl c):AFun Tryz.prog W 55 [.lst (c.map Lt.cv)] (.val (.lst ((S6 c (fun _=>0)).map Bd.cv))):=by
 refine a8 (rs:=[.lst ((S6 c (fun _=>0)).map Bd.cv)]) Tryz.func55 Tryz.ntmps55 rfl rfl rfl rfl ?_
 intro w U hW
 refine aS (aR ?_)
 refine nc zd ?_
 refine aS (aR ?_)
 refine nc zj ?_
 refine nc (zn (z:=a4r w c (fun _=>0) (.sc (.func (.func 86) #[] #[])) hn (fun n _ _=>by omega) (fun W n => .inr ⟨_,rfl,b1u W n⟩))) ?_
 refine nc zd ?_
 exact aT (And.intro (.inr rfl) rfl)
theorem b3L (W:World) (c:List Lt) (hn:okCl c):AFun Tryz.prog W 37 [.lst (c.map Lt.cv)] (.val (.lst ((S6 c id).map Bd.cv))):=by
 refine a8 (rs:=[.lst ((S6 c id).map Bd.cv)]) Tryz.func37 Tryz.ntmps37 rfl rfl rfl rfl ?_
 intro w U hW
 refine aS (aR ?_)
 refine nc zd ?_
 refine aS (aR ?_)
 refine nc zj ?_
 refine nc (zn (z:=a4r w c id (.sc (.func (.func 69) #[] #[])) hn (fun n h1 h2=>⟨h1,h2⟩) (fun W n => .inr ⟨_,rfl,b1B W n⟩))) ?_
 refine nc zd ?_
 exact aT (And.intro (.inr rfl) rfl)
theorem a6N {c:List Lt} {g:Int→Int} {v:Int} (hv:v∈(Z9 c).nv):t9 (S6 c g) v=K2 (g (b2h (Z9 c).nv v:Nat)):=by
 unfold S6
 rw [a9p (by rw [List.length_map,S5]) hv]
 have hlt:=b0d hv
 rw [b5P (v:=g (b2h (Z9 c).nv v:Nat)) (by rw [List.getElem?_map,a5T hlt];rfl)]
theorem a0p (c:List Lt) (g:Int→Int) (hg:∀ n,0≤n→n≤24001→0≤g n∧g n≤24001) (hn:okCl c):∀ b∈S6 c g,∃ u,b.t=K2 u∧0≤u∧u≤24001:=fun b hb=>by
 unfold S6 at hb
 obtain ⟨u,hu,e⟩:=b5n hb
 obtain ⟨n,hn2,rfl⟩:=List.mem_map.1 hu
 have:=N1.1 hn2
 have hl:=hn.nv
 exact ⟨_,e,hg n (by omega) (by omega)⟩
theorem b0t (c:List Lt) (g:Int→Int) (hg:∀ n,0≤n→n≤24001→0≤g n∧g n≤24001) (hn:okCl c):a2B (S6 c g):=fun b hb=>by
 obtain ⟨u,e,h1,h2⟩:=a0p c g hg hn b hb
 rw [e]
 exact ⟨a3o h1 (by omega),by rw [M5];omega⟩
theorem b6a {L:List Bd} (h:∀ b∈L,∃ u,b.t=K2 u) (v:Int):∃ u,t9 L v=K2 u:=by
 unfold t9
 cases hf:b7 L v with
 | none=>exact ⟨v,rfl⟩
 | some t =>
  have:∃ b∈L,b.t=t:=by
   clear h
   induction L with
   | nil=>cases hf
   | cons b L ih =>
    unfold b7 at hf
    split at hf
    ·exact ⟨b,by simp,by injection hf⟩
    ·obtain ⟨x,hx,e⟩:=ih hf
     exact ⟨x,List.mem_cons_of_mem _ hx,e⟩
  obtain ⟨b,hb,rfl⟩:=this
  obtain ⟨u,e⟩:=h b hb
  exact ⟨u,e⟩
theorem b0P {img:Int→Tm} (h:∀ v,∃ u,img v=K2 u) (t:Tm):(o5 img t).size=t.size:=by
 have:=a4R img t
 have e:(t.vs.map fun v=>(((img v).size:Nat):Int)-1).sum=0:=by
  generalize t.vs=l
  induction l with
  | nil=>rfl
  | cons v l ih =>
   obtain ⟨u,hu⟩:=h v
   rw [List.map_cons,List.sum_cons,ih,hu,M5];rfl
 rw [e] at this
 omega
theorem okCl.rep {c:List Lt} (hn:okCl c) {L:List Bd} (hL:∀ b∈L,∃ u,b.t=K2 u∧0≤u∧u≤24001):okCl (c.map (Lt.rep (t9 L))):=by
 refine ⟨by rw [List.length_map];exact hn.1,fun l hl=>?_⟩
 obtain ⟨x,hx,rfl⟩:=List.mem_map.1 hl
 have hv:∀ v,∃ u,t9 L v=K2 u:=b6a fun b hb=>by obtain ⟨u,e,_⟩:=hL b hb;exact ⟨u,e⟩
 have hb:a2B L:=fun b hb=>by
  obtain ⟨u,e,h1,h2⟩:=hL b hb
  rw [e]
  exact ⟨a3o h1 (by omega),by rw [M5];omega⟩
 have key:∀ t:Tm,(t.rng∧t.ok∧t.size≤1000)→((o5 (t9 L) t).rng∧(o5 (t9 L) t).ok∧(o5 (t9 L) t).size≤1000):=fun t ht=>by
  refine ⟨a7s ht.1 fun v h1 h2=>(a2Y hb h1 h2).1,b4J ht.2.1 fun v=>?_,by rw [b0P hv];exact ht.2.2⟩
  obtain ⟨u,hu⟩:=hv v
  rw [hu]
  exact b5e u
 exact ⟨key _ (hn.2 x hx).1,key _ (hn.2 x hx).2⟩
theorem okCl.inD {c:List Lt} (hn:okCl c):okCl (inD c):=by
 refine ⟨by rw [b5a];exact hn.1,fun l hl=>?_⟩
 obtain ⟨x,hx,rfl⟩:=b5r.1 hl
 rcases b7B x with e | e<;>rw [e]
 ·exact hn.2 x hx
 ·exact ⟨(hn.2 x hx).2,(hn.2 x hx).1⟩
theorem okCl.ded {c:List Lt} (hn:okCl c) {q:Lt→Lt→Bool}:okCl (a5K q c):=⟨Nat.le_trans (b2Q c) hn.1,fun l hl=>hn.2 l (b3P hl)⟩
theorem a7y (c:List Lt):c.map (Lt.rep (t9 (S6 c (fun _=>0))))=c.map lkL:=by
 refine List.map_congr_left fun l hl=>?_
 unfold lkL Lt.rep
 rw [a4n (g:=fun _=>K2 0) fun v hv=>a6N (a2W hl (.inl hv)),a4n (g:=fun _=>K2 0) fun v hv=>a6N (a2W hl (.inr hv))]
theorem b4b {c:List Lt} (hn:okCl c):∀ l∈c,(lkL l).rng:=fun l hl=>by
 have h:=(hn.rep (L:=S6 c (fun _=>0)) (a0p c _ (fun _ _ _=>by omega) hn)).rng
 rw [a7y] at h
 exact h _ (List.mem_map_of_mem hl)
theorem b6h {l k:Lt} (h:k.rng):(a0R l k).look.rng:=by
 unfold a0R
 split
 ·exact h
 ·exact ⟨h.2,h.1⟩
theorem b0x (c:List Lt):S6 c id=b6D c:=by
 unfold S6 b6D
 rw [List.map_id]
def snL (c:List Lt):List Sn:=c.map fun l=>a0R l (lkL l)
set_option maxHeartbeats 4000000 in
theorem b5G (W:World) (c:List Lt) (hn:okCl c):AFun Tryz.prog W 34 [.lst (c.map Lt.cv)] (.val (.lst ((inL c).map Lt.cv))):=by
 obtain ⟨hr,hok,hsi⟩:=hn.sid
 have hlen:=hn.1
 have hap:=fun w=>a2x w (S6 c (fun _=>0)) c (by omega) (by rw [a3p];have:=hn.nv;omega) (b0t c _ (fun _ _ _=>by omega) hn) hr hok
 rw [a7y] at hap
 have hsz:=Lt.size_all c
 have hszk:=Lt.size_all (c.map lkL)
 obtain ⟨S,hS⟩:∃ S,S=snL c:=⟨_,rfl⟩
 have hSl:S.length=c.length:=by rw [hS];unfold snL;rw [List.length_map]
 have hSr:∀ x∈S,x.look.rng:=fun x hx=>by
  rw [hS] at hx
  obtain ⟨l,hl,rfl⟩:=List.mem_map.1 hx
  exact b6h (b4b hn l hl)
 have hso:=a0E a6a (.sc (.func (.func 58) #[] #[])) S (by omega) (fun W x y hx hy => .inr ⟨_,rfl,b1K W x y (hSr x hx) (hSr y hy)⟩)
 rw [a2U] at hso
 obtain ⟨T,hT⟩:∃ T,T=L3 (ltG a6a) S:=⟨_,rfl⟩
 have hTl:T.length=c.length:=by rw [hT,(A7 _ _).length_eq,hSl]
 have hin:inL c=T.map Sn.lit:=by rw [hT,hS];rfl
 rw [←hT] at hso
 rw [hin]
 have hszT:=Sn.size_all T
 refine a8 (rs:=[.lst ((T.map Sn.lit).map Lt.cv)]) Tryz.func34 Tryz.ntmps34 rfl rfl rfl rfl ?_
 intro w U hW
 have hUf:U.f 400000=none:=hW.1 400000
 refine aS (aR ?_)
 refine nc zd ?_
 refine aS (aR ?_)
 refine nc zj (nc (zn (z:=b2E w c hn)) (nc zj (nc (zn (z:=hap w)) (nc zd ?_))))
 refine aS (aR ?_)
 refine nc zd ?_
 refine aS (aS (aR ?_))
 refine nc zj (nc zp (nc zj ?_))
 refine aB (b9 c.length (fun k=>[(3,.val (.lst ((c.map lkL).map Lt.cv))),(4,.sl 250007 0 (S.take k).length 10),(14,.val (.lst (c.map Lt.cv))),(15,.val (.i (c.map Lt.cv).length)),(16,.val (.i k)),(250007,.mrow 114 10 ((S.take k).map Sn.cv))])
  ((b0g 4 250007 114 10 rfl rfl rfl rfl rfl).trans (a7 ⟨rfl,rfl,rfl,rfl,rfl,rfl,trivial⟩)) ?_)
 intro k hk
 refine aS (aR ?_)
 refine nc zh ?_
 refine aS (aC rfl (fun hlt=>?_) (fun hlt=>?_))
 ·have hkl:k<c.length:=by simpa using hlt
  obtain ⟨x,hx⟩:∃ x,c[k]?=some x:=⟨c[k],List.getElem?_eq_getElem hkl⟩
  have hx':=Lt.map_at hx
  have hxm:=List.mem_of_getElem? hx
  have hk':((c.map lkL).map Lt.cv)[k]?=some (lkL x).cw:=Lt.map_at (by rw [List.getElem?_map,hx];rfl)
  have hSk:S[k]?=some (a0R x (lkL x)):=by rw [hS];unfold snL;rw [List.getElem?_map,hx];rfl
  have hsz2:∀ z∈(S.take k).map Sn.cv,z.size=10:=Sn.size_all _
  have hl3:((S.take k).map Sn.cv).length=(S.take k).length:=List.length_map ..
  have hl4:(S.take k).length≤12:=by rw [List.length_take];omega
  refine aK ?_
  refine aS (aB (aS (aR ?_)))
  refine nc zj (nc (zz (j:=k) (H:=hx') (hz:=hsz)) (nc zA (nc zw (nc zd (nc zy ?_)))))
  refine aD (by kernel_rfl) (by kernel_rfl) ?_
  refine nc zj (nc zE (nc zj (nc zj (nc (zz (j:=k) (H:=hk') (hz:=hszk)) (nc zA (nc (zn (z:=b2q w x (lkL x) (b4b hn x hxm))) (nc zI (nc (zbg 250029) (nc zd ?_)))))))))
  refine ⟨by kernel_rfl,?_⟩
  refine aR ?_
  refine nc zu (nc zj ?_)
  refine ⟨hkl,(a7 (s':=[(3,.val (.lst ((c.map lkL).map Lt.cv))),(4,.sl 250029 0 (S.take (k+1)).length 10),(14,.val (.lst (c.map Lt.cv))),(15,.val (.i (c.map Lt.cv).length)),(16,.val (.i ((k+1:Nat):Int))),(250029,.mrow 114 10 ((S.take (k+1)).map Sn.cv))]) ⟨rfl,?_,rfl,rfl,rfl,?_,trivial⟩).trans (v9 250029 250007 rfl rfl (by kernel_rfl) (by kernel_rfl))⟩
  ·rw [List.take_add_one,hSk,Option.toList_some,List.length_append,←hl3];rfl
  ·rw [List.take_add_one,hSk,Option.toList_some,List.map_append];rfl
 ·have hkl:k=S.length:=by
   have:¬ k<c.length:=by simpa using hlt
   omega
  subst hkl
  rw [List.take_length]
  refine aE ?_
  refine AWp.wk ((a7 (s':=[(4,.sl 250007 0 S.length 10),(250007,.mrow 114 10 (S.map Sn.cv))]) ⟨rfl,rfl,trivial⟩).trans (a0L 250007 400000 rfl rfl hUf rfl rfl rfl)) ?_
  refine aS (aR ?_)
  refine nc zj (nc (z9 (z:=hso) (B:=by first | rfl | kernel_rfl) (C:=by first | rfl | kernel_rfl) (G:=j8 (by first | rfl | kernel_rfl))) ?_)
  refine AWp.wk (a7 (s':=[(4,.sl 400000 0 T.length 10),(400000,.mrow 114 10 (T.map Sn.cv))]) ⟨by rw [hTl,←hSl];rfl,rfl,trivial⟩) ?_
  refine aS (aR ?_)
  refine nc zd ?_
  refine aS (aS (aR ?_))
  refine nc zj (nc zU (nc zj ?_))
  refine aB (b9 T.length (fun k=>[(7,.own (.lst (((T.take k).map Sn.lit).map Lt.cv)) 200043),(200043,.tok 54 5),(33,.sl 400000 0 T.length 10),(34,.val (.i T.length)),(35,.val (.i k)),(400000,.mrow 114 10 (T.map Sn.cv))])
   ((E4 7 200043 54 5 rfl rfl rfl rfl rfl rfl rfl).trans (a7 ⟨rfl,rfl,rfl,rfl,rfl,rfl,trivial⟩)) ?_)
  intro k hk
  refine aS (aR ?_)
  refine nc zh ?_
  refine aS (aC rfl (fun hlt=>?_) (fun hlt=>?_))
  ·have hkl:k<T.length:=by simpa using hlt
   obtain ⟨x,hx⟩:∃ x,T[k]?=some x:=⟨T[k],List.getElem?_eq_getElem hkl⟩
   have hx':=Sn.map_at hx
   have hsz2:∀ z∈((T.take k).map Sn.lit).map Lt.cv,z.size=5:=Lt.size_all _
   have hl3:(((T.take k).map Sn.lit).map Lt.cv).length≤12:=by rw [List.length_map,List.length_map,List.length_take];omega
   refine aK ?_
   refine aS (aB (aS (aR ?_)))
   refine nc (zV (k:=k)) (nc (zW (G:=hx')) (nc (zbG [ltZ,ltZ]) (nc zy ?_)))
   refine aR ?_
   refine nc zj (nc ze (nc zg (nc zI (nc zJ (nc zd ?_)))))
   refine aR ?_
   refine nc zu (nc zj ?_)
   refine ⟨hkl,Wk.trans (a7 (s':=[(7,.own (.lst (((T.take (k+1)).map Sn.lit).map Lt.cv)) 300043),(300043,.tok 54 5),(33,.sl 400000 0 T.length 10),(34,.val (.i T.length)),(35,.val (.i ((k+1:Nat):Int))),(400000,.mrow 114 10 (T.map Sn.cv))]) ⟨?_,rfl,rfl,rfl,rfl,rfl,trivial⟩) (v9 300043 200043 rfl rfl rfl rfl)⟩
   rw [List.take_add_one,hx,Option.toList_some,List.map_append,List.map_append];rfl
  ·have hkl:k=T.length:=by
    have:¬ k<T.length:=by simpa using hlt
    omega
   subst hkl
   rw [List.take_length]
   refine aE ?_
   refine aS (aR ?_)
   refine nc zj (nc zd ?_)
   exact aT (And.intro (.inr rfl) rfl)
theorem b3B (W:World) (c:List Lt) (hn:okCl c) (m n:Nat) (hm:m<c.length) (hk:n<c.length):AFun Tryz.prog W 60 [.i m,.i n,.ptr (.lst (c.map Lt.cv))] (.val (.i (w7 (j5 c m) (j5 c n)))):=by
 obtain ⟨x,hx⟩:∃ x,c[m]?=some x:=⟨c[m],List.getElem?_eq_getElem hm⟩
 obtain ⟨y,hy⟩:∃ x,c[n]?=some x:=⟨c[n],List.getElem?_eq_getElem hk⟩
 have hx':=Lt.map_at hx
 have hy':=Lt.map_at hy
 have hsz:=Lt.size_all c
 rw [N9 hx,N9 hy]
 refine a8 (rs:=[.i (w7 x y)]) Tryz.func60 Tryz.ntmps60 rfl rfl rfl rfl ?_
 intro w U hW
 refine aS (aR ?_)
 refine nc zd ?_
 refine aS (aD (by kernel_rfl) (by kernel_rfl) ?_)
 refine nc zY (nc zj (nc (zz (j:=m) (H:=hx') (hz:=hsz)) (nc zA (nc zY (nc zj (nc (zz (j:=n) (H:=hy') (hz:=hsz)) (nc zA (nc (zn (z:=a1a w x y (hn.rng x (List.mem_of_getElem? hx)) (hn.rng y (List.mem_of_getElem? hy)))) (nc zd ?_)))))))))
 refine ⟨by kernel_rfl,?_⟩
 exact aT (And.intro (.inr rfl) rfl)
theorem b3y (W:World) (c:List Lt) (hn:okCl c) (m n:Nat) (hm:m<c.length) (hk:n<c.length):AFun Tryz.prog W 63 [.i m,.i n,.ptr (.lst (c.map Lt.cv))] (.val (.b (a1T c m n))):=by
 obtain ⟨x,hx⟩:∃ x,c[m]?=some x:=⟨c[m],List.getElem?_eq_getElem hm⟩
 obtain ⟨y,hy⟩:∃ x,c[n]?=some x:=⟨c[n],List.getElem?_eq_getElem hk⟩
 have hx':=Lt.map_at hx
 have hy':=Lt.map_at hy
 have hsz:=Lt.size_all c
 have e:a1T c m n=smL x y:=by unfold a1T smL;rw [N9 hx,N9 hy]
 rw [e]
 refine a8 (rs:=[.b (smL x y)]) Tryz.func63 Tryz.ntmps63 rfl rfl rfl rfl ?_
 intro w U hW
 refine aS (aR ?_)
 refine nc zd ?_
 refine aS (aD (by kernel_rfl) (by kernel_rfl) ?_)
 refine nc zY (nc zj (nc (zz (j:=m) (H:=hx') (hz:=hsz)) (nc zA (nc zY (nc zj (nc (zz (j:=n) (H:=hy') (hz:=hsz)) (nc zA (nc (zn (z:=a8n w x y (hn.rng x (List.mem_of_getElem? hx)) (hn.rng y (List.mem_of_getElem? hy)))) (nc zd ?_)))))))))
 refine ⟨by kernel_rfl,?_⟩
 exact aT (And.intro (.inr rfl) rfl)
theorem b2t (c:List Lt):(a3O c).length≤c.length:=by
 unfold a3O
 have:=(a3x (q:=a1T c) (L:=S0 c) (S0 c).length).length_le
 rw [List.take_length] at this
 refine Nat.le_trans this ?_
 unfold S0
 rw [(A7 _ _).length_eq,S5]
 exact Nat.le_refl _
set_option maxHeartbeats 4000000 in
theorem b5F (W:World) (c:List Lt) (hn:okCl c):AFun Tryz.prog W 35 [.lst (c.map Lt.cv)] (.val (.lst ((wdL c).map Lt.cv))):=by
 have hlen:=hn.1
 have hsz:=Lt.size_all c
 obtain ⟨N,hN⟩:∃ N,N=a0P c.length:=⟨_,rfl⟩
 have hNl:N.length=c.length:=by rw [hN,S5]
 have hNm:∀ m∈N,∃ j:Nat,m=j∧j<c.length:=fun m hm=>by
  rw [hN] at hm
  have:=N1.1 hm
  exact ⟨m.toNat,by omega,by omega⟩
 have hso:=a1S (fun m n=>w7 (j5 c m) (j5 c n)) (.fn 60 0 [.ptr (.lst (c.map Lt.cv))]) N (by omega) (fun W x y hx hy=>by
  obtain ⟨i,rfl,hi⟩:=hNm x hx
  obtain ⟨j,rfl,hj⟩:=hNm y hy
  exact .inl ⟨_,_,_,rfl,b3B W c hn i j hi hj⟩)
 rw [a2U,show L3 (ltG fun m n=>w7 (j5 c m) (j5 c n)) N=S0 c by rw [hN];rfl] at hso
 have h1m:∀ m∈S0 c,∃ j:Nat,m=j∧j<c.length:=fun m hm=>by
  have:=(S7 c m).1 hm
  exact ⟨m.toNat,by omega,by omega⟩
 have h1l:(S0 c).length=c.length:=by unfold S0;rw [(A7 _ _).length_eq,S5]
 have hco:=a5l (a1T c) (.fn 63 0 [.ptr (.lst (c.map Lt.cv))]) (S0 c) (by omega) (fun W x y hx hy=>by
  obtain ⟨i,rfl,hi⟩:=h1m x hx
  obtain ⟨j,rfl,hj⟩:=h1m y hy
  exact .inl ⟨_,_,_,rfl,b3y W c hn i j hi hj⟩)
 rw [show G8 (a1T c) (S0 c) (S0 c).length=a3O c from rfl] at hco
 have h2l:=b2t c
 obtain ⟨Z,hZ⟩:∃ Z,Z=List.replicate ((S0 c).length-(a3O c).length) (0:Int):=⟨_,rfl⟩
 rw [←hZ] at hco
 have hor:=b1h (a3O c) Z (by omega) (by rw [hZ,List.length_replicate];omega)
 rw [show L3 ltO (a3O c)=a8r c from rfl] at hor
 have h3l:(a8r c).length=(a3O c).length:=by unfold a8r;rw [(A7 _ _).length_eq]
 obtain ⟨P1,hP1⟩:∃ P,P=S0 c:=⟨_,rfl⟩
 obtain ⟨P2,hP2⟩:∃ P,P=a3O c:=⟨_,rfl⟩
 obtain ⟨P3,hP3⟩:∃ P,P=a8r c:=⟨_,rfl⟩
 have hwd:wdL c=P3.map (j5 c):=by rw [hP3];rfl
 have h3m:∀ m∈P3,∃ j:Nat,m=j∧j<c.length:=fun m hm=>by
  rw [hP3] at hm
  have:=((a7E c m).1 hm).1
  exact ⟨m.toNat,by omega,by omega⟩
 rw [←hP1] at hso hco h1l
 rw [←hP2] at hco hor h2l h3l
 rw [←hP3] at hor h3l
 rw [hwd]
 refine a8 (rs:=[.lst ((P3.map (j5 c)).map Lt.cv)]) Tryz.func35 Tryz.ntmps35 rfl rfl rfl rfl ?_
 intro w U hW
 have hUf:U.f 400000=none:=hW.1 400000
 refine aS (aR ?_)
 refine nc zb (nc zd ?_)
 refine AWp.wk (E0 1 rfl rfl rfl (s':=[]) trivial rfl rfl rfl) ?_
 refine aS (aR ?_)
 refine nc zd ?_
 refine aS (aS (aR ?_))
 refine nc zY (nc zp (nc zj ?_))
 refine aB (b9 c.length (fun k=>[(1,.val (.ptr (.lst (c.map Lt.cv)))),(3,.sl 250007 0 (N.take k).length 1),(9,.val (.i (c.map Lt.cv).length)),(10,.val (.i k)),(250007,.mrow 3 1 ((N.take k).map CV.i))])
  ((b0g 3 250007 3 1 rfl rfl rfl rfl rfl).trans (a7 ⟨rfl,rfl,rfl,rfl,rfl,trivial⟩)) ?_)
 intro k hk
 refine aS (aR ?_)
 refine nc zh ?_
 refine aS (aC rfl (fun hlt=>?_) (fun hlt=>?_))
 ·have hkl:k<c.length:=by simpa using hlt
  have hNk:N[k]?=some (k:Int):=by rw [hN];exact a5T hkl
  have hsz2:∀ z∈(N.take k).map CV.i,z.size=1:=b8 _
  have hl3:((N.take k).map CV.i).length=(N.take k).length:=List.length_map ..
  have hl4:(N.take k).length≤12:=by rw [List.length_take];omega
  refine aK ?_
  refine aS (aB (aS (aR ?_)))
  refine nc zj (nc zd ?_)
  refine aR ?_
  refine nc zj (nc zj (nc zI (nc (zbg 250016) (nc zd ?_))))
  refine aR ?_
  refine nc zu (nc zj ?_)
  refine ⟨hkl,(a7 (s':=[(1,.val (.ptr (.lst (c.map Lt.cv)))),(3,.sl 250016 0 (N.take (k+1)).length 1),(9,.val (.i (c.map Lt.cv).length)),(10,.val (.i ((k+1:Nat):Int))),(250016,.mrow 3 1 ((N.take (k+1)).map CV.i))]) ⟨rfl,?_,rfl,rfl,?_,trivial⟩).trans (v9 250016 250007 rfl rfl (by kernel_rfl) (by kernel_rfl))⟩
  ·rw [List.take_add_one,hNk,Option.toList_some,List.length_append,←hl3];rfl
  ·rw [List.take_add_one,hNk,Option.toList_some,List.map_append];rfl
 ·have hkl:k=N.length:=by
   have:¬ k<c.length:=by simpa using hlt
   omega
  subst hkl
  rw [List.take_length]
  refine aE ?_
  refine AWp.wk ((a7 (s':=[(1,.val (.ptr (.lst (c.map Lt.cv)))),(3,.sl 250007 0 N.length 1),(250007,.mrow 3 1 (N.map CV.i))]) ⟨rfl,rfl,rfl,trivial⟩).trans (a0L 250007 400000 rfl rfl hUf rfl rfl rfl)) ?_
  refine aS (aR ?_)
  refine nc zj (nc zG (nc (z9 (z:=hso) (B:=by first | rfl | kernel_rfl) (C:=by first | rfl | kernel_rfl) (G:=j8 (by first | rfl | kernel_rfl))) ?_))
  refine AWp.wk (a7 (s':=[(1,.val (.ptr (.lst (c.map Lt.cv)))),(3,.sl 400000 0 P1.length 1),(400000,.mrow 3 1 (P1.map CV.i))]) ⟨rfl,by rw [h1l,←hNl];rfl,rfl,trivial⟩) ?_
  refine aS (aR ?_)
  refine nc zj (nc zG (nc (z9 (z:=hco) (B:=by first | rfl | kernel_rfl) (C:=by first | rfl | kernel_rfl) (G:=j8 (by first | rfl | kernel_rfl))) (nc zd ?_)))
  refine AWp.wk (a7 (s':=[(1,.val (.ptr (.lst (c.map Lt.cv)))),(3,.sl 400000 0 P2.length 1),(400000,.mrow 3 1 ((P2++Z).map CV.i))]) ⟨rfl,rfl,rfl,trivial⟩) ?_
  refine aS (aR ?_)
  refine nc zj (nc (z9 (z:=hor) (B:=by first | rfl | kernel_rfl) (C:=by first | rfl | kernel_rfl) (G:=j8 (by first | rfl | kernel_rfl))) ?_)
  refine AWp.wk (a7 (s':=[(1,.val (.ptr (.lst (c.map Lt.cv)))),(3,.sl 400000 0 P3.length 1),(400000,.mrow 3 1 ((P3++Z).map CV.i))]) ⟨rfl,by rw [h3l];rfl,rfl,trivial⟩) ?_
  refine aS (aR ?_)
  refine nc zd ?_
  refine aS (aS (aR ?_))
  refine nc zj (nc zU (nc zj ?_))
  refine aB (b9 P3.length (fun k=>[(1,.val (.ptr (.lst (c.map Lt.cv)))),(5,.own (.lst (((P3.take k).map (j5 c)).map Lt.cv)) 200038),(200038,.tok 54 5),(26,.sl 400000 0 P3.length 1),(27,.val (.i P3.length)),(28,.val (.i k)),(400000,.mrow 3 1 ((P3++Z).map CV.i))])
   ((E4 5 200038 54 5 rfl rfl rfl rfl rfl rfl rfl).trans (a7 ⟨rfl,rfl,rfl,rfl,rfl,rfl,rfl,trivial⟩)) ?_)
  intro k hk
  refine aS (aR ?_)
  refine nc zh ?_
  refine aS (aC rfl (fun hlt=>?_) (fun hlt=>?_))
  ·have hkl:k<P3.length:=by simpa using hlt
   obtain ⟨m,hm⟩:∃ x,P3[k]?=some x:=⟨P3[k],List.getElem?_eq_getElem hkl⟩
   obtain ⟨j,rfl,hj⟩:=h3m m (List.mem_of_getElem? hm)
   have hm':((P3++Z).map CV.i)[k]?=some (.i j):=C3 (by rw [List.getElem?_append_left hkl];exact hm)
   have hkz:k<(P3++Z).length:=by rw [List.length_append];omega
   obtain ⟨x,hx⟩:∃ x,c[j]?=some x:=⟨c[j],List.getElem?_eq_getElem hj⟩
   have hx':=Lt.map_at hx
   have hli:=N9 hx
   have hst3:(P3.take (k+1)).map (j5 c)=(P3.take k).map (j5 c)++[x]:=by rw [List.take_add_one,hm,Option.toList_some,List.map_append,List.map_singleton,hli]
   have hst4:((P3.take (k+1)).map (j5 c)).map Lt.cv=((P3.take k).map (j5 c)).map Lt.cv++[x.cw]:=by rw [hst3,List.map_append];rfl
   have hsz2:∀ z∈((P3.take k).map (j5 c)).map Lt.cv,z.size=5:=Lt.size_all _
   have hl3:(((P3.take k).map (j5 c)).map Lt.cv).length≤12:=by rw [List.length_map,List.length_map,List.length_take];omega
   refine aK ?_
   refine aS (aB (aS (aR ?_)))
   refine nc (zV (k:=k)) (nc (zW (G:=hm')) (nc zd ?_))
   refine aR ?_
   refine nc zj (nc zY (nc zj (nc (zz (j:=j) (H:=hx') (hz:=hsz)) (nc zA (nc zI (nc zJ (nc zd ?_)))))))
   refine aR ?_
   refine nc zu (nc zj ?_)
   refine ⟨hkl,Wk.trans (a7 (s':=[(1,.val (.ptr (.lst (c.map Lt.cv)))),(5,.own (.lst (((P3.take (k+1)).map (j5 c)).map Lt.cv)) 300038),(300038,.tok 54 5),(26,.sl 400000 0 P3.length 1),(27,.val (.i P3.length)),(28,.val (.i ((k+1:Nat):Int))),(400000,.mrow 3 1 ((P3++Z).map CV.i))]) ⟨rfl,?_,rfl,rfl,rfl,rfl,rfl,trivial⟩) (v9 300038 200038 rfl rfl rfl rfl)⟩
   rw [hst4];rfl
  ·have hkl:k=P3.length:=by
    have:¬ k<P3.length:=by simpa using hlt
    omega
   subst hkl
   rw [List.take_length]
   refine aE ?_
   refine aS (aR ?_)
   refine nc zj (nc zd ?_)
   exact aT (And.intro (.inr rfl) rfl)
theorem b1Q (W:World) (c:List Lt) (hn:okCl c):AFun Tryz.prog W 15 [.lst (c.map Lt.cv)] (.val (.lst ((nmP c).map Lt.cv))):=by
 have hi:okCl (inL c):=by rw [b4g];exact hn.inD
 obtain ⟨hr,hok,hsi⟩:=hi.sid
 have hap:=fun w=>a2x w (S6 (inL c) id) (inL c) (by have:=hi.1;omega) (by rw [a3p];have:=hi.nv;omega) (b0t _ _ (fun n h1 h2=>⟨h1,h2⟩) hi) hr hok
 have hwd:=fun w=>b5F w _ (hi.rep (a0p (inL c) id (fun n h1 h2=>⟨h1,h2⟩) hi))
 unfold nmP
 rw [←b0x]
 refine a8 (rs:=[.lst ((wdL ((inL c).map (Lt.rep (t9 (S6 (inL c) id))))).map Lt.cv)]) Tryz.func15 Tryz.ntmps15 rfl rfl rfl rfl ?_
 intro w U hW
 refine aS (aR ?_)
 refine nc zd ?_
 refine aS (aR ?_)
 refine nc zj (nc (zn (z:=b5G w c hn)) (nc zd ?_))
 refine aS (aR ?_)
 refine nc zj (nc (zn (z:=b3L w (inL c) hi)) (nc zj (nc (zn (z:=hap w)) (nc (zn (z:=hwd w)) (nc zd ?_)))))
 exact aT (And.intro (.inr rfl) rfl)
theorem okCl.norm {c:List Lt} (hn:okCl c):okCl (nmP c):=by
 unfold nmP
 rw [b6W,b4g,←b0x]
 exact (hn.inD.rep (a0p _ id (fun n h1 h2=>⟨h1,h2⟩) hn.inD)).ded
theorem b5N {R:List RuT} {t:Tm} (h:o6 (l7 R) t≠none):¬ t.f<0∧(l7 R t=true∨∃ s∈t.l,o6 (l7 R) s≠none):=by
 rw [D8] at h
 by_cases hf:t.f<0
 ·rw [if_pos hf] at h;exact absurd rfl h
 refine ⟨hf,?_⟩
 rw [if_neg hf] at h
 by_cases hh:l7 R t=true
 ·exact .inl hh
 ·rw [if_neg hh] at h
  refine .inr (Classical.byContradiction fun hn=>h (M7.2 fun o ho=>?_))
  obtain ⟨s,hs,rfl⟩:=List.mem_map.1 ho
  exact Classical.byContradiction fun hz=>hn ⟨s,hs,hz⟩
theorem a9x {R:List RuT} {t s:Tm} (hf:¬ t.f<0) (hs:s∈t.l) (h:o6 (l7 R) s≠none):o6 (l7 R) t≠none:=by
 rw [D8,if_neg hf]
 by_cases hh:l7 R t=true
 ·rw [if_pos hh];exact fun e=>by cases e
 ·rw [if_neg hh]
  exact fun e=>h (M7.1 e _ (List.mem_map.2 ⟨s,hs,rfl⟩))
theorem b6j {R:List RuT} {t:Tm} (hf:¬ t.f<0) (h:l7 R t=true):o6 (l7 R) t≠none:=by
 rw [D8,if_neg hf,if_pos h]
 exact fun e=>by cases e
theorem b3K {R:List RuT} {t:Tm}:o6 (l7 R) t.strip≠none↔o6 (l7 R) t≠none:=by rw [P0]
theorem a9E {R:List RuT} {x:Tm} (h:o6 (l7 R) x≠none):∀ (p:List Int) (t z:Tm),L7 x p t=some z→o6 (l7 R) z≠none
 | [],t,z,e=>by
  rw [L7] at e
  cases e
  exact b3K.2 h
 | k::p,t,z,e=>by
  rw [L7] at e
  obtain ⟨s,hs,e⟩:=Option.bind_eq_some_iff.1 e
  obtain ⟨v,hv,rfl⟩:=Option.map_eq_some_iff.1 e
  obtain ⟨_,_,_,hf⟩:=a9f hs
  exact a9x hf (by simp) (a9E h p s v hv)
theorem b5k {R:List RuT} (img:Int→Tm) {t:Tm} (h:l7 R t=true):l7 R (o5 img t)=true:=by
 unfold l7 at h ⊢
 rw [List.any_eq_true] at h ⊢
 obtain ⟨r,hr,h⟩:=h
 refine ⟨r,hr,?_⟩
 have h1:=a9c h
 refine a5G (M:=fun v=>o5 img (t9 (mt r.a t []).2 v)) ?_
 rw [←b4P,h1,a4O,a7o]
theorem a5s {R:List RuT} (img:Int→Tm) (t:Tm):o6 (l7 R) t≠none→o6 (l7 R) (o5 img t)≠none:=by
 induction t using Tm.ind with
 | h f l ih =>
  intro h
  obtain ⟨hf,h⟩:=b5N h
  have hf2:¬ (o5 img ⟨f,l⟩).f<0:=by rw [k8 hf];exact hf
  rcases h with h | ⟨s,hs,h⟩
  ·exact b6j hf2 (b5k img h)
  ·refine a9x hf2 (s:=o5 img s) ?_ (ih s hs h)
   rw [k8 hf]
   exact List.mem_map.2 ⟨s,hs,rfl⟩
theorem b4T (l:Lt):inL [l]=[rtL l]:=by
 unfold inL
 show [(a0R l (lkL l)).lit]=_
 rw [a7g]
theorem b2T {R:List RuT} {l:Lt} (h:o6 (l7 R) l.a≠none):∃ q,onc R ((nmP [l]).map Lt.strip)=some q:=by
 obtain ⟨img,e⟩:∃ img,nmP [l]=[Lt.rep img (rtL l)]:=by
  refine ⟨t9 (b6D (inL [l])),?_⟩
  unfold nmP
  rw [b4T]
  rfl
 rw [e]
 have hu:¬ a5V R (Lt.strip (Lt.rep img (rtL l))):=by
  rintro ⟨h1,h2⟩
  have h1:o6 (l7 R) (o5 img (rtL l).a).strip=none:=h1
  have h2:o6 (l7 R) (o5 img (rtL l).b).strip=none:=h2
  rw [P0] at h1 h2
  unfold rtL at h1 h2
  split at h1
  ·rw [if_pos (by assumption)] at h2
   exact a5s img l.a h h2
  ·exact a5s img l.a h h1
 rcases a0D R [Lt.strip (Lt.rep img (rtL l))] with ⟨_,h1⟩ | ⟨m,z,_,_,⟨p,s,id,_,_,h3⟩ | ⟨_,p,s,id,_,_,h3⟩⟩
 ·exact absurd (h1 _ (by simp)) hu
 ·exact ⟨_,h3⟩
 ·exact ⟨_,h3⟩
theorem b5D {t:Tm}:t.strip=t→t.size≤10000000000→t.ok:=by
 induction t using Tm.ind with
 | h f l ih =>
  intro h hs
  by_cases hf:f<0
  ·rw [Tm.strip_eq,Tm.ps,if_pos hf] at h
   have h:[]=l:=congrArg Tm.l h
   subst h
   exact (Tm.ok_iff _).2 ⟨by show 0≤_;omega,fun s hs=>by cases hs⟩
  ·have hk:∀ s∈l,s.size+l.length≤(Tm.mk f l).size:=fun s hs=>b1E (t:=⟨f,l⟩) hf hs
   have h2:=h
   rw [N0 hf] at h2
   have h2:l.map Tm.strip=l:=congrArg Tm.l h2
   refine (Tm.ok_iff _).2 ⟨?_,fun s hs=>ih s hs ?_ ?_⟩
   ·show l.length≤_
    cases l with
    | nil=>simp
    | cons x l=>have:=hk x (by simp);omega
   ·obtain ⟨i,hi,e⟩:=List.getElem_of_mem hs
    have:=congrArg (fun q=>q[i]?) h2
    simp only [List.getElem?_map,List.getElem?_eq_getElem hi,Option.map_some,e,Option.some.injEq] at this
    exact this
   ·have:=hk s hs;omega
theorem a2X (u:Tm):∀ (p:List Int) (t z:Tm),L7 u p t=some z→z.strip=z
 | [],t,z,e=>by
  rw [L7] at e
  cases e
  exact Tm.strip_strip u
 | k::p,t,z,e=>by
  rw [L7] at e
  obtain ⟨s,hs,e⟩:=Option.bind_eq_some_iff.1 e
  obtain ⟨v,hv,rfl⟩:=Option.map_eq_some_iff.1 e
  obtain ⟨_,_,_,hf⟩:=a9f hs
  have h1:=a2X u p s v hv
  rw [N0 (t:=⟨t.f,_⟩) hf]
  simp only [List.map_append,List.map_cons,List.map_map,h1]
  congr 2
  ·exact List.map_congr_left fun x _=>Tm.strip_strip x
  ·congr 1
   exact List.map_congr_left fun x _=>Tm.strip_strip x
def LX.sd (l:LX) (sec:Bool):XT:=if sec=true then l.b else l.a
def LX.put (l:LX) (sec:Bool) (x:XT):LX:=if sec=true then ⟨l.neg,l.a,x⟩ else ⟨l.neg,x,l.b⟩
def sdo (sec:Bool):Nat:=if sec=true then 3 else 1
theorem LX.sd_bl (l:LX) (sec:Bool):∀ b∈(l.sd sec).bl,b∈l.bl:=by
 intro b hb
 cases sec
 ·exact List.mem_append_left _ hb
 ·exact List.mem_append_right _ hb
theorem b2O {w V:World} {b' o':Nat} {f:Int} {h:Value} (hS:StG w b' o' f h V) {g q:Nat} (hg:g<w.heap.size) (hq:b'=g→q≠o'∧q≠o'+1):V.cell? ⟨g,q,none⟩=w.cell? ⟨g,q,none⟩:=by
 by_cases e:b'=g
 ·subst e
  obtain ⟨q1,q2⟩:=hq rfl
  obtain ⟨_,cur,ty,h1,h2⟩:=hS
  simp only [World.cell?,h1,h2]
  rw [Array.getElem?_setIfInBounds_ne (by omega),Array.getElem?_setIfInBounds_ne (by omega)]
 ·exact j7 (hS.1 g hg fun h=>e h.symm)
theorem OwnL.cells {e:TypeId} {w:World} {n g cap:Nat} {ls:List LX} (h:OwnL e w n (.slice (some ⟨g,0,none⟩) ls.length cap) ls):n≤g∧g<w.heap.size∧ls.length≤cap∧cap≤maxLen∧Fz w g∧(∀ b∈ls.flatMap LX.bl,b≠g)∧∀ i l,ls[i]?=some l→∀ k u,l.cs[k]?=some u→w.cell? ⟨g,i*5+k,none⟩=some u:=by
 obtain ⟨h1,h2,h3,h4⟩:=h
 obtain ⟨a',c',e1,e2,e3,e4,e5⟩:=A3 h1
 injection e1 with e1 _ e6
 subst e1;subst e6
 have hfz:n≤g∧Fz w g:=by
  rcases h1.2 with ⟨q1,q2⟩ | ⟨g',cap,cur,q1,q2,q3,_⟩
  ·cases q1
  ·injection q1 with q1 _ _
   injection q1 with q1
   injection q1 with q1
   subst q1
   exact ⟨q2,_,_,q3⟩
 refine ⟨hfz.1,(by obtain ⟨_,_,q⟩:=hfz.2;exact (Array.getElem?_eq_some_iff.1 q).1),e2,e3,hfz.2,fun b hb e=>(h4 b hb).1 (by rw [e];rfl),fun i l hl k u hu=>?_⟩
 have hk:k<5:=by
  rcases Nat.lt_or_ge k 5 with h | h
  ·exact h
  ·rw [List.getElem?_eq_none (by exact h)] at hu;cases hu
 have hil:i<ls.length:=(List.getElem?_eq_some_iff.1 hl).1
 rcases e5 with h | ⟨b,off,ha,hlt,hc⟩
 ·have:=a2w ls
  rw [h] at this
  simp at this
  omega
 ·cases ha
  have:=hc (i*5+k) (by rw [a2w];omega)
  rw [a9i hl k hk,hu,Nat.zero_add] at this
  exact this
theorem b7s {n:Nat} {w V:World} {e:TypeId} {ls:List LX} {g cap:Nat} (h:OwnL e w n (.slice (some ⟨g,0,none⟩) ls.length cap) ls) {m:Nat} {l:LX} (hl:ls[m]?=some l) (sec:Bool) {p:List Nat} {b' o':Nat} {y xs:XT} (hadr:(l.sd sec).adr g (m*5+sdo sec) p=some (b',o',y)) (hS:StG w b' o' xs.f xs.h V) (hxs:XR (fun k _=>n≤k) V xs) :
  ∃ x':XT,x'.tm=puN (l.sd sec).tm p xs.tm∧VRep (fun b _=>n≤b) V (.lst (((ls.set m (l.put sec x')).map LX.lt).map Lt.cv)) (.slice (some ⟨g,0,none⟩) ls.length cap)∧n≤b'∧b'<w.heap.size:=by
 obtain ⟨c1,c2,c3,c4,c5,c6,c7⟩:=h.cells
 obtain ⟨h1,h2,h3,h4⟩:=h
 have hml:m<ls.length:=(List.getElem?_eq_some_iff.1 hl).1
 have hlm:=List.mem_of_getElem? hl
 have hxl:=h2 l hlm
 have hall:=a2b h2
 have hb2:∀ b∈l.bl,b∈ls.flatMap LX.bl:=fun b hb=>List.mem_flatMap.2 ⟨l,hlm,hb⟩
 have esplit:ls=ls.take m++l::ls.drop (m+1):=by
  have:ls[m]=l:=(List.getElem?_eq_some_iff.1 hl).2
  rw [←this,List.getElem_cons_drop,List.take_append_drop]
 have hnd:l.bl.Nodup∧∀ j x,ls[j]?=some x→j≠m→∀ b∈x.bl,b∉l.bl:=by
  rw [esplit,List.flatMap_append,List.flatMap_cons,List.nodup_append,List.nodup_append] at h3
  obtain ⟨_,⟨k1,_,k2⟩,k3⟩:=h3
  refine ⟨k1,fun j x hj hjm b hb hbl=>?_⟩
  rcases Nat.lt_or_ge j m with hlt | hge
  ·exact k3 b (List.mem_flatMap.2 ⟨x,List.mem_of_getElem? (by rw [List.getElem?_take,if_pos hlt];exact hj:(ls.take m)[j]?=some x),hb⟩) b (List.mem_append_left _ hbl) rfl
  ·refine k2 b hbl b (List.mem_flatMap.2 ⟨x,List.mem_of_getElem? (i:=j-(m+1)) ?_,hb⟩) rfl
   rw [List.getElem?_drop,show m+1+(j-(m+1))=j by omega]
   exact hj
 have hxr:XR (fun k _=>n≤k) w (l.sd sec):=by
  cases sec
  ·exact hxl.1
  ·exact hxl.2
 have hcs:l.cs[sdo sec]?=some (.int .i64 (l.sd sec).f)∧l.cs[sdo sec+1]?=some (l.sd sec).h:=by cases sec<;>exact ⟨rfl,rfl⟩
 have hxat:XAt (fun k _=>n≤k) w g (m*5+sdo sec) (l.sd sec):=⟨hxr,⟨c1,c7 m l hl _ _ hcs.1⟩,c1,by have:=c7 m l hl _ _ hcs.2;rw [←Nat.add_assoc] at this;exact this⟩
 have hndx:(l.sd sec).bl.Nodup:=by
  have h:=hnd.1
  unfold LX.bl at h
  rw [List.nodup_append] at h
  cases sec
  ·exact h.1
  ·exact h.2.1
 have hgx:g∉(l.sd sec).bl:=fun hm=>c6 g (hb2 g (l.sd_bl sec g hm)) rfl
 obtain ⟨x',k1,k2,k3⟩:=a5y p (l.sd sec) g (m*5+sdo sec) b' o' y xs hxat (List.nodup_cons.2 ⟨hgx,hndx⟩) hadr hS hxs
 have hb':(b'=g∧o'=m*5+sdo sec)∨(b'≠g∧b'∈(l.sd sec).bl):=by
  rcases a0j hadr with ⟨_,q1,q2⟩ | ⟨_,q⟩
  ·exact .inl ⟨q1,q2⟩
  ·exact .inr ⟨fun e=>hgx (e▸q),q⟩
 have hs5:sdo sec+1<5:=by cases sec<;>decide
 have hcell:∀ q,(q≠m*5+sdo sec∧q≠m*5+sdo sec+1)→V.cell? ⟨g,q,none⟩=w.cell? ⟨g,q,none⟩:=fun q hq=>b2O hS c2 fun e=>by
  rcases hb' with ⟨_,q2⟩ | ⟨q1,_⟩
  ·rw [q2];exact hq
  ·exact absurd e q1
 have hkeep:∀ b,b<w.heap.size→b≠g→b∉(l.sd sec).bl→V.heap[b]?=w.heap[b]?:=fun b hb hne hnb=>hS.1 b hb fun e=>by
  rcases hb' with ⟨q1,_⟩ | ⟨_,q2⟩
  ·exact hne (e.trans q1)
  ·exact hnb (e▸q2)
 refine ⟨x',k1,?_,?_,?_⟩
 ·have hlen:(ls.set m (l.put sec x')).length=ls.length:=List.length_set
  have:=U5 (n:=n) (g:=g) (cap:=cap) (V:=V) (ls:=ls.set m (l.put sec x')) c1 (by omega) c4 (by omega) ?_ ?_
  ·rw [hlen] at this;exact this
  ·intro i z hz k u hu
   have hk:k<5:=by
    rcases Nat.lt_or_ge k 5 with h | h
    ·exact h
    ·rw [List.getElem?_eq_none (by exact h)] at hu;cases hu
   by_cases him:i=m
   ·subst him
    rw [List.getElem?_set_self hml] at hz
    cases hz
    by_cases h1:k=sdo sec
    ·subst h1
     have e1:(l.put sec x').cs[sdo sec]?=some (.int .i64 x'.f):=by cases sec<;>rfl
     rw [e1] at hu
     cases hu
     exact k2.2.1.2
    ·by_cases h2:k=sdo sec+1
     ·subst h2
      have e1:(l.put sec x').cs[sdo sec+1]?=some x'.h:=by cases sec<;>rfl
      rw [e1] at hu
      cases hu
      exact k2.2.2.2
     ·rw [hcell _ (by omega)]
      refine c7 i l hl k u ?_
      rw [←hu]
      cases sec
      ·have:k=0∨k=3∨k=4:=by simp [sdo] at h1 h2;omega
       rcases this with rfl | rfl | rfl<;>rfl
      ·have:k=0∨k=1∨k=2:=by simp [sdo] at h1 h2;omega
       rcases this with rfl | rfl | rfl<;>rfl
   ·rw [List.getElem?_set_ne (fun e=>him e.symm)] at hz
    rw [hcell _ (by omega)]
    exact c7 i z hz k u hu
  ·intro z hz
   obtain ⟨i,hi⟩:=List.getElem?_of_mem hz
   by_cases him:i=m
   ·subst him
    rw [List.getElem?_set_self hml] at hi
    cases hi
    have hu:=hnd.1
    unfold LX.bl at hu
    rw [List.nodup_append] at hu
    cases sec
    ·refine ⟨k2.1,hxl.2.keepB fun b o u hb hn hc=>⟨hn,?_⟩⟩
     have hbm:=hb2 b (List.mem_append_right _ hb)
     rw [j7 (hkeep b (hall b hbm).2 (c6 b hbm) fun hb3=>hu.2.2 b hb3 b hb rfl)]
     exact hc
    ·refine ⟨hxl.1.keepB fun b o u hb hn hc=>⟨hn,?_⟩,k2.1⟩
     have hbm:=hb2 b (List.mem_append_left _ hb)
     rw [j7 (hkeep b (hall b hbm).2 (c6 b hbm) fun hb3=>hu.2.2 b hb b hb3 rfl)]
     exact hc
   ·rw [List.getElem?_set_ne (fun e=>him e.symm)] at hi
    refine (h2 z (List.mem_of_getElem? hi)).keepB fun b o u hb hn hc=>⟨hn,?_⟩
    have hbm:b∈ls.flatMap LX.bl:=List.mem_flatMap.2 ⟨z,List.mem_of_getElem? hi,hb⟩
    rw [j7 (hkeep b (hall b hbm).2 (c6 b hbm) fun hb3=>hnd.2 i z hi him b hb (l.sd_bl sec b hb3))]
    exact hc
 ·rcases hb' with ⟨q,_⟩ | ⟨_,q⟩
  ·omega
  ·exact (hall b' (hb2 b' (l.sd_bl sec b' q))).1
 ·rcases hb' with ⟨q,_⟩ | ⟨_,q⟩
  ·omega
  ·exact (hall b' (hb2 b' (l.sd_bl sec b' q))).2
end Go.Proofs.YtekboofbedakcaaGreat
