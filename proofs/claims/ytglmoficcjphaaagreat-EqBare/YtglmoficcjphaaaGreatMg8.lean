/-
 SmSym SmSym2 SmSym3 SmStab SmNorm UnPairs UnBig UnLaws UnMid SbRef7 SbRef7N UnRefW UnMidW SbVnt2 Un8A AbRowO Un8B SbNormEq AbDel
-/
import Derived.Test.YtglmoficcjphaaaGreatMg7
import Derived.Test.YtglmoficcjphaaaGreatMg4
import Derived.Test.YtglmoficcjphaaaGreatMg5
import Derived.Test.YtglmoficcjphaaaGreatMg2
import Derived.Test.YtglmoficcjphaaaGreatMg3
namespace Go.Proofs.YtglmoficcjphaaaGreat
open Go.RowKit
set_option linter.unusedVariables false
set_option linter.unusedSimpArgs false
set_option maxRecDepth 100000
section
variable {P:Program} {w0:World} {U0:UX} {nt:Nat} {Q:Exit→AS→Prop} {s:AS}
def c0G (w0:World) (U0:UX) (nt:Nat) {Sg:Type} (R:Sg→Prop) (st:Sg→AS) (Q:Exit→AS→Prop):Exit→AS→Prop
 | .normal,s=>∃ σ,R σ∧Wk w0 U0 nt s (st σ)
 | e,s=>Q e s
theorem a4f {Sg:Type} {x y:Code} (R:Sg→Prop) (st:Sg→AS) (hx:AWp P w0 U0 nt x (c0G w0 U0 nt R st Q) s) (hy:∀ σ,R σ→AWp P w0 U0 nt y Q (st σ)):AWp P w0 U0 nt (.seq x y) Q s:=
 aS fun M a w hs=>G7 (hx M a w hs) fun e a' w' ⟨s',h1,h2⟩=>by
  cases e with
  | normal=>obtain ⟨σ,k1,k2⟩:=h1;exact ⟨st σ,hy σ k1,k2 a' w' h2⟩
  | _=>exact ⟨s',h1,h2⟩
variable {ops:Array Oper} {o:Oper} {gs:List Nat} {S:Nat→Option AV} {d:Nat}
theorem c0x (hg:Gd w0 U0 nt ops o gs S) (hd:o.dst=some d) (hn:Nat.blt d nt=true) (h5:Nat.blt d 100000=true) {x y:Operand} {t1 t2:TypeId} {k:IntKind} {i:Int} {n q p n' q' p'} (ho:o.op = .binOp .shr t1 x y t2) (hx:ev S x=some ⟨0,.sc (.int k i),n,q,p⟩) (hy:ev S y=some ⟨0,.sc (.int k 1),n',q',p'⟩):AOp P w0 U0 nt ops o (gs++(rd x++rd y)) [] S [(d,.val (.sc (.int k (i / 2))))]:=
 D5 hg hd hn h5 ho hx hy (fun w=>by
  have hm:min (1:Int).toNat k.bits=1:=by cases k<;>rfl
  rw [binOp_shr,shift_shr_any k k i 1 (by decide),hm]
  simp [go_sem]) rfl
theorem zbp {P:Program} {w0:World} {U0:UX} {nt:Nat} {ops:Array Oper} {o:Oper} {gs:List Nat} {S:Nat→Option AV} {d:Nat} {x:Operand} {y:Operand} {t1:TypeId} {t2:TypeId} {k:IntKind} {i:Int} {n} {q} {p} {n'} {q'} {p'} (r:Gd w0 U0 nt ops o gs S:=by exact gN rfl) (t:o.dst=some d:=by exact rfl) (u:Nat.blt d nt=true:=by exact rfl) (v:Nat.blt d 100000=true:=by exact rfl) (z:o.op = .binOp .shr t1 x y t2:=by exact rfl) (A:ev S x=some ⟨0,.sc (.int k i),n,q,p⟩:=by exact rfl) (B:ev S y=some ⟨0,.sc (.int k 1),n',q',p'⟩:=by exact rfl):AOp P w0 U0 nt ops o (gs++(rd x++rd y)) [] S [(d,.val (.sc (.int k (i / 2))))]:=c0x r t u v z A B
end
theorem c0J {L M:List Bd} {a k:Nat} {y z:Bd} (hak:a≤k) (hk:k+1<L.length) (h:IsG M L.length (rtG a (a+1) (k+1) fun t=>L[t]?)) (hz:M[k]?=some z) (hy:M[k+1]?=some y):IsG ((M.set k y).set (k+1) z) L.length (rtG a (a+1) (k+2) fun t=>L[t]?):=by
 have hl:=h.1
 have ez:=h.2 k
 have ey:=h.2 (k+1)
 rw [hz] at ez
 rw [hy] at ey
 refine ⟨by rw [List.length_set,List.length_set];exact hl,fun t=>?_⟩
 have et:=h.2 t
 unfold rtG at ez ey et ⊢
 rw [List.getElem?_set,List.getElem?_set]
 by_cases c1:t=k+1
 ·subst c1
  rw [if_pos rfl,if_pos (by rw [List.length_set];omega),if_neg (by omega),if_pos (by omega),ez]
  by_cases c:a≤k∧k<a+(k+1-(a+1))
  ·omega
  ·rw [if_neg c,if_pos (by omega)];congr 1;omega
 ·rw [if_neg (by omega)]
  by_cases c2:t=k
  ·subst c2
   rw [if_pos rfl,if_pos (by omega),if_pos (by omega),ey,if_neg (by omega),if_neg (by omega)];congr 1;omega
  ·rw [if_neg (by omega),et]
   by_cases c3:a≤t∧t<a+(k+1-(a+1))
   ·rw [if_pos c3,if_pos (by omega)]
   ·rw [if_neg c3,if_neg (by omega),if_neg (by omega),if_neg (by omega)]
theorem b8y {L M:List Bd} {k m:Nat} {y z:Bd} (hkm:k+1≤m) (hm:m<L.length) (h:IsG M L.length (rtG (k+1) m (m+1) fun t=>L[t]?)) (hz:M[k+1]?=some z) (hy:M[k]?=some y):IsG ((M.set (k+1) y).set k z) L.length (rtG k m (m+1) fun t=>L[t]?):=by
 have hl:=h.1
 have ez:=h.2 (k+1)
 have ey:=h.2 k
 rw [hz] at ez
 rw [hy] at ey
 refine ⟨by rw [List.length_set,List.length_set];exact hl,fun t=>?_⟩
 have et:=h.2 t
 unfold rtG at ez ey et ⊢
 rw [List.getElem?_set,List.getElem?_set]
 by_cases c1:t=k
 ·subst c1
  rw [if_pos rfl,if_pos (by rw [List.length_set];omega),if_pos (by omega),ez,if_pos (by omega)];congr 1;omega
 ·rw [if_neg (by omega)]
  by_cases c2:t=k+1
  ·subst c2
   rw [if_pos rfl,if_pos (by omega),if_neg (by omega),if_pos (by omega),ey,if_neg (by omega),if_neg (by omega)];congr 1;omega
  ·rw [if_neg (by omega),et]
   by_cases c3:k+1+(m+1-m)≤t∧t<m+1
   ·rw [if_neg (by omega),if_pos c3,if_neg (by omega),if_pos (by omega)]
   ·rw [if_neg (by omega),if_neg c3,if_neg (by omega),if_neg (by omega)]
theorem a0L (i j:Nat):((i:Int)+j) / 2=(((i+j) / 2:Nat):Int):=by omega
theorem a0U {i j:Nat} (hi:i≤1000000) (hj:j≤1000000):IntKind.u64.wrap ((i:Int)+j)=(i:Int)+j:=by rw [IntKind.wrap_u64];omega
noncomputable abbrev b1k (a b:Nat) (L σ:List Bd):Prop:=Mg a b L σ∧srtB σ a b
set_option maxHeartbeats 4000000 in
theorem b3N (cmp:Bd→Bd→Int) (fc:CV) (hcm:∀ W x y,N5 Tryz.prog W fc [x.cw,y.cw] (.val (.i (cmp x y)))) (hv:∀ x y,cmp x y<0↔x.v<y.v) (L:List Bd) (a m b:Nat) (ham:m=a+1) (hmb:m<b) (hb:b≤L.length) (hl:L.length≤1000000) (h2:srtB L m b):AFunE (Sg:=List Bd) Tryz.prog 160 (rwB L) [.sl 400000 0 L.length 3,.val (.i a),.val (.i m),.val (.i b),.val fc] (b1k a b L) (fun _ => .tup []) (fun σ=>rwB σ):=by
 refine I2 Tryz.func160 Tryz.ntmps160 rfl rfl rfl rfl rfl (fun σ=>rfl) ?_
 intro w U hU
 refine aS (aS (aR ?_))
 refine nc zl (nc zl (nc zj (nc zt ?_)))
 refine aC rfl (fun _=>?_) (fun hc=>?_)
 case refine_2 =>
  have hc:=of_decide_eq_false hc
  omega
 refine aS (aR ?_)
 refine nc zl (nc ze ?_)
 refine aS (aR ?_)
 refine nc zl (nc ze ?_)
 obtain ⟨z,hz⟩:=J0 (L:=L) (t:=a) (by omega)
 have hz':=Bd.map_at hz
 have hlm:(L.map Bd.cv).length=L.length:=List.length_map ..
 obtain ⟨N,hN⟩:∃ N,N=L.length:=⟨_,rfl⟩
 rw [←hN] at hb hl ⊢
 obtain ⟨st,hst⟩:∃ st:Nat→Nat→AS,st=fun i j=>(0,AV.sl 400000 0 N 3)::(1,.val (.i a))::(4,.val fc)::(10,.val (.i (i:Nat)))::(11,.val (.i (j:Nat)))::rwB L:=⟨_,rfl⟩
 refine aS (aB (l6 (fun k s=>∃ i j,k=j-i∧m≤i∧i≤j∧j≤b∧(∀ t x,m≤t→t<i→L[t]?=some x→x.v<z.v)∧(∀ t x,j≤t→t<b→L[t]?=some x→z.v≤x.v)∧s=st i j) (n:=b-m) (s':=st m b) (by rw [hst,hN];exact a7 ⟨rfl,rfl,rfl,rfl,rfl,rfl,trivial⟩) ⟨m,b,rfl,Nat.le_refl _,by omega,Nat.le_refl _,fun t x _ _ _=>by omega,fun t x _ _ _=>by omega,rfl⟩ ?_))
 rintro k s ⟨i,j,rfl,hmi,hij,hjb,hlo,hhi,rfl⟩
 rw [hst]
 refine aS (aS (aR ?_))
 refine nc zl (nc zl (nc zi ?_))
 refine aC rfl (fun hc=>aK ?_) (fun hc=>aE ?_)
 ·have hlt:i<j:=by have:=of_decide_eq_true hc;omega
  have hw:=a0U (i:=i) (j:=j) (by omega) (by omega)
  refine aB (aS (aR ?_))
  refine nc zl (nc zl (nc zu (nc zbo (nc zbp (nc zbo (nc ze ?_))))))
  have hh:i≤(i+j) / 2∧(i+j) / 2<j:=by omega
  have hcast:=a0L i j
  obtain ⟨h,hhd⟩:∃ h,h=(i+j) / 2:=⟨_,rfl⟩
  rw [←hhd] at hh hcast
  refine AWp.wk (a7 (s':=(0,AV.sl 400000 0 N 3)::(1,.val (.i a))::(4,.val fc)::(10,.val (.i (i:Nat)))::(11,.val (.i (j:Nat)))::(12,.val (.i (h:Nat)))::rwB L) ⟨rfl,rfl,rfl,rfl,rfl,by rw [←hcast];rfl,rfl,trivial⟩) ?_
  obtain ⟨x,hx⟩:=J0 (L:=L) (t:=h) (by omega)
  have hx':=Bd.map_at hx
  refine aS (aD (by kernel_rfl) (by kernel_rfl) ?_)
  refine nc zl (nc zl (nc zl (nc (zI (k:=h)) (nc (zJ (G:=hx')) (nc zl (nc zl (nc (zI (k:=a)) (nc (zJ (G:=hz')) (nc (zK (E:=hcm _ x z)) (nc zi ?_))))))))))
  refine ⟨by kernel_rfl,?_⟩
  refine aC rfl (fun c1=>?_) (fun c1=>?_)
  ·have c2:=(hv x z).1 (of_decide_eq_true c1)
   refine aR ?_
   refine nc zl (nc zu (nc ze ?_))
   refine ⟨j-(h+1),st (h+1) j,by omega,⟨h+1,j,rfl,by omega,by omega,hjb,fun t y k1 k2 k3=>?_,hhi,by rw [hst]⟩,by rw [hst];exact a7 ⟨rfl,rfl,rfl,rfl,rfl,rfl,trivial⟩⟩
   by_cases ct:t=h
   ·rw [ct,hx] at k3;cases k3;exact c2
   ·exact Int.lt_of_le_of_lt (h2 t h y x k1 (by omega) (by omega) k3 hx) c2
  ·have c2:¬ x.v<z.v:=fun c=>of_decide_eq_false c1 ((hv x z).2 c)
   refine aR ?_
   refine nc zl (nc ze ?_)
   refine ⟨h-i,st i h,by omega,⟨i,h,rfl,hmi,by omega,by omega,hlo,fun t y k1 k2 k3=>?_,by rw [hst]⟩,by rw [hst];exact a7 ⟨rfl,rfl,rfl,rfl,rfl,rfl,trivial⟩⟩
   by_cases ct:t=h
   ·rw [ct,hx] at k3;cases k3;omega
   ·have:=h2 h t x y (by omega) (by omega) (by omega) hx k3
    omega
 ·have hij':i=j:=by have:=of_decide_eq_false hc;omega
  subst hij'
  refine aS (aS (aR ?_))
  refine nc zl (nc ze ?_)
  obtain ⟨st2,hst2⟩:∃ st:Nat→List Bd→AS,st=fun k M=>(0,AV.sl 400000 0 N 3)::(10,.val (.i (i:Nat)))::(13,.val (.i (k:Nat)))::rwB M:=⟨_,rfl⟩
  refine aB (l6 (fun q s=>∃ k M,q=i-k∧a≤k∧k<i∧IsG M N (rtG a (a+1) (k+1) fun t=>L[t]?)∧s=st2 k M) (n:=i-a) (s':=st2 a L) (by rw [hst2];exact a7 ⟨rfl,rfl,rfl,rfl,trivial⟩) ⟨a,L,rfl,Nat.le_refl _,by omega,by rw [hN];exact a9e (by omega) (by omega) (.inr rfl),rfl⟩ ?_)
  rintro q s ⟨k,M,rfl,hak,hki,hM,rfl⟩
  rw [hst2]
  refine aS (aS (aR ?_))
  refine nc zl (nc zl (nc zj (nc zi ?_)))
  refine aC rfl (fun hc=>aK ?_) (fun hc=>aE ?_)
  ·have hlt:k+1<i:=by have:=of_decide_eq_true hc;omega
   have hMl:=hM.1
   obtain ⟨x,hx⟩:=J0 (L:=M) (t:=k) (by omega)
   obtain ⟨y,hy⟩:=J0 (L:=M) (t:=k+1) (by omega)
   have hx':=Bd.map_at hx
   have hy':=Bd.map_at hy
   have hlm:(M.map Bd.cv).length=M.length:=List.length_map ..
   have hy2:((M.map Bd.cv).set k y.cw)[k+1]?=some y.cw:=by rw [List.getElem?_set_ne (by omega)];exact hy'
   refine aS (aB (aD (by kernel_rfl) (by kernel_rfl) ?_))
   refine nc zl (nc zl (nc zl (nc zl (nc zu (nc zl (nc zl (nc zu (nc (zI (k:=k+1)) (nc (zJ (G:=hy')) (nc zl (nc zl (nc (zI (k:=k)) (nc (zJ (G:=hx')) (nc (zI (k:=k)) (nc (zN (F:=hx')) (nc (zI (k:=k+1)) (nc (zN (F:=hy2)) ?_)))))))))))))))))
   refine ⟨by kernel_rfl,?_⟩
   refine aR ?_
   refine nc zl (nc zu (nc ze ?_))
   refine ⟨i-(k+1),st2 (k+1) ((M.set k y).set (k+1) x),by omega,⟨k+1,(M.set k y).set (k+1) x,rfl,by omega,hlt,?_,by rw [hst2]⟩,?_⟩
   ·rw [hN] at hM ⊢
    exact c0J hak (by omega) hM hx hy
   ·rw [hst2]
    refine a7 ⟨rfl,rfl,rfl,?_,trivial⟩
    rw [←t9,←t9];rfl
  ·have hge:k+1=i:=by have:=of_decide_eq_false hc;omega
   rw [hge,hN] at hM
   refine aT ⟨.inr rfl,M,⟨(Mg.rt (by omega) (by omega) (by omega) hM).mono (Nat.le_refl _) hjb,?_⟩,_,Wk.refl _,rfl,rfl,trivial⟩
   have hf:=a0e (a:=a) (b:=b) (mid:=i-1) (Nat.le_refl a) (by omega) (by omega) hjb (by omega) (by omega) (fun i j x y k1 k2 k3 _ _=>by omega) (by rw [←ham];exact h2) (fun i j x y k1 k2 _ _ _ _=>by omega) (fun t u x y k1 k2 k3 k4 k5 k6=>by
    rw [show u=a by omega,hz] at k6;cases k6
    have:=hlo t x (by omega) (by omega) k5
    omega) hM
   refine hf.2.1.glue ((hf.2.2.1).glue hf.2.2.2.1 fun t u x y k1 k2 k3 k4 k5 k6=>?_) hf.2.2.2.2
   have e1:M[t]?=some z:=by
    rw [hM.2,←hz];unfold rtG;rw [if_neg (by omega),if_pos (by omega)];congr 1;omega
   rw [e1] at k5;cases k5
   have e2:M[u]?=L[u]?:=by rw [hM.2];unfold rtG;rw [if_neg (by omega),if_neg (by omega)]
   rw [e2] at k6
   exact hhi u y k3 k4 k6
set_option maxHeartbeats 4000000 in
theorem b2c (cmp:Bd→Bd→Int) (fc:CV) (hcm:∀ W x y,N5 Tryz.prog W fc [x.cw,y.cw] (.val (.i (cmp x y)))) (hv:∀ x y,cmp x y<0↔x.v<y.v) (L:List Bd) (a m b:Nat) (ham:a+1<m) (hmb:b=m+1) (hb:b≤L.length) (hl:L.length≤1000000) (h1:srtB L a m):AFunE (Sg:=List Bd) Tryz.prog 160 (rwB L) [.sl 400000 0 L.length 3,.val (.i a),.val (.i m),.val (.i b),.val fc] (b1k a b L) (fun _ => .tup []) (fun σ=>rwB σ):=by
 refine I2 Tryz.func160 Tryz.ntmps160 rfl rfl rfl rfl rfl (fun σ=>rfl) ?_
 intro w U hU
 refine aS (aS (aR ?_))
 refine nc zl (nc zl (nc zj (nc zt ?_)))
 refine aC rfl (fun hc=>?_) (fun _=>aK ?_)
 case refine_1 =>
  have hc:=of_decide_eq_true hc
  omega
 refine aS (aS (aR ?_))
 refine nc zl (nc zl (nc zj (nc zt ?_)))
 refine aC rfl (fun _=>?_) (fun hc=>?_)
 case refine_2 =>
  have hc:=of_decide_eq_false hc
  omega
 refine aS (aR ?_)
 refine nc zl (nc ze ?_)
 refine aS (aR ?_)
 refine nc zl (nc ze ?_)
 obtain ⟨z,hz⟩:=J0 (L:=L) (t:=m) (by omega)
 have hz':=Bd.map_at hz
 have hlm:(L.map Bd.cv).length=L.length:=List.length_map ..
 obtain ⟨N,hN⟩:∃ N,N=L.length:=⟨_,rfl⟩
 rw [←hN] at hb hl ⊢
 obtain ⟨st,hst⟩:∃ st:Nat→Nat→AS,st=fun i j=>(0,AV.sl 400000 0 N 3)::(2,.val (.i m))::(4,.val fc)::(14,.val (.i (i:Nat)))::(15,.val (.i (j:Nat)))::rwB L:=⟨_,rfl⟩
 refine aS (aB (l6 (fun k s=>∃ i j,k=j-i∧a≤i∧i≤j∧j≤m∧(∀ t x,a≤t→t<i→L[t]?=some x→x.v≤z.v)∧(∀ t x,j≤t→t<m→L[t]?=some x→z.v<x.v)∧s=st i j) (n:=m-a) (s':=st a m) (by rw [hst,hN];exact a7 ⟨rfl,rfl,rfl,rfl,rfl,rfl,trivial⟩) ⟨a,m,rfl,Nat.le_refl _,by omega,Nat.le_refl _,fun t x _ _ _=>by omega,fun t x _ _ _=>by omega,rfl⟩ ?_))
 rintro k s ⟨i,j,rfl,hmi,hij,hjb,hlo,hhi,rfl⟩
 rw [hst]
 refine aS (aS (aR ?_))
 refine nc zl (nc zl (nc zi ?_))
 refine aC rfl (fun hc=>aK ?_) (fun hc=>aE ?_)
 ·have hlt:i<j:=by have:=of_decide_eq_true hc;omega
  have hw:=a0U (i:=i) (j:=j) (by omega) (by omega)
  refine aB (aS (aR ?_))
  refine nc zl (nc zl (nc zu (nc zbo (nc zbp (nc zbo (nc ze ?_))))))
  have hh:i≤(i+j) / 2∧(i+j) / 2<j:=by omega
  have hcast:=a0L i j
  obtain ⟨h,hhd⟩:∃ h,h=(i+j) / 2:=⟨_,rfl⟩
  rw [←hhd] at hh hcast
  refine AWp.wk (a7 (s':=(0,AV.sl 400000 0 N 3)::(2,.val (.i m))::(4,.val fc)::(14,.val (.i (i:Nat)))::(15,.val (.i (j:Nat)))::(16,.val (.i (h:Nat)))::rwB L) ⟨rfl,rfl,rfl,rfl,rfl,by rw [←hcast];rfl,rfl,trivial⟩) ?_
  obtain ⟨x,hx⟩:=J0 (L:=L) (t:=h) (by omega)
  have hx':=Bd.map_at hx
  refine aS (aD (by kernel_rfl) (by kernel_rfl) ?_)
  refine nc zl (nc zl (nc zl (nc (zI (k:=m)) (nc (zJ (G:=hz')) (nc zl (nc zl (nc (zI (k:=h)) (nc (zJ (G:=hx')) (nc (zK (E:=hcm _ z x)) (nc zi (nc zX ?_)))))))))))
  refine ⟨by kernel_rfl,?_⟩
  refine aC rfl (fun c1=>?_) (fun c1=>?_)
  ·have c2:¬ z.v<x.v:=fun c=>by
    have:=(hv z x).2 c
    simp [this] at c1
   refine aR ?_
   refine nc zl (nc zu (nc ze ?_))
   refine ⟨j-(h+1),st (h+1) j,by omega,⟨h+1,j,rfl,by omega,by omega,hjb,fun t y k1 k2 k3=>?_,hhi,by rw [hst]⟩,by rw [hst];exact a7 ⟨rfl,rfl,rfl,rfl,rfl,rfl,trivial⟩⟩
   by_cases ct:t=h
   ·rw [ct,hx] at k3;cases k3;omega
   ·have:=h1 t h y x k1 (by omega) (by omega) k3 hx
    omega
  ·have c2:z.v<x.v:=(hv z x).1 (by simpa using c1)
   refine aR ?_
   refine nc zl (nc ze ?_)
   refine ⟨h-i,st i h,by omega,⟨i,h,rfl,hmi,by omega,by omega,hlo,fun t y k1 k2 k3=>?_,by rw [hst]⟩,by rw [hst];exact a7 ⟨rfl,rfl,rfl,rfl,rfl,rfl,trivial⟩⟩
   by_cases ct:t=h
   ·rw [ct,hx] at k3;cases k3;omega
   ·have:=h1 h t x y (by omega) (by omega) (by omega) hx k3
    omega
 ·have hij':i=j:=by have:=of_decide_eq_false hc;omega
  subst hij'
  refine aS (aS (aR ?_))
  refine nc zl (nc ze ?_)
  obtain ⟨st2,hst2⟩:∃ st:Nat→List Bd→AS,st=fun k M=>(0,AV.sl 400000 0 N 3)::(14,.val (.i (i:Nat)))::(17,.val (.i (k:Nat)))::rwB M:=⟨_,rfl⟩
  refine aB (l6 (fun q s=>∃ k M,q=k∧i≤k∧k≤m∧IsG M N (rtG k m (m+1) fun t=>L[t]?)∧s=st2 k M) (n:=m) (s':=st2 m L) (by rw [hst2];exact a7 ⟨rfl,rfl,rfl,rfl,trivial⟩) ⟨m,L,rfl,by omega,Nat.le_refl _,by rw [hN];exact a9e (by omega) (by omega) (.inl rfl),rfl⟩ ?_)
  rintro q s ⟨k,M,hqk,hik,hkm,hM,rfl⟩
  rw [hst2]
  refine aS (aS (aR ?_))
  refine nc zl (nc zl (nc zH ?_))
  refine aC rfl (fun hc=>aK ?_) (fun hc=>aE ?_)
  ·have hlt:i<k:=by have:=of_decide_eq_true hc;omega
   obtain ⟨k,rfl⟩:∃ k',k=k'+1:=⟨k-1,by omega⟩
   have hMl:=hM.1
   obtain ⟨x,hx⟩:=J0 (L:=M) (t:=k+1) (by omega)
   obtain ⟨y,hy⟩:=J0 (L:=M) (t:=k) (by omega)
   have hx':=Bd.map_at hx
   have hy':=Bd.map_at hy
   have hlm:(M.map Bd.cv).length=M.length:=List.length_map ..
   have hy2:((M.map Bd.cv).set (k+1) y.cw)[k]?=some y.cw:=by rw [List.getElem?_set_ne (by omega)];exact hy'
   refine aS (aB (aD (by kernel_rfl) (by kernel_rfl) ?_))
   refine nc zl (nc zl (nc zl (nc zl (nc zj (nc zl (nc zl (nc zj (nc (zI (k:=k)) (nc (zJ (G:=hy')) (nc zl (nc zl (nc (zI (k:=k+1)) (nc (zJ (G:=hx')) (nc (zI (k:=k+1)) (nc (zN (F:=hx')) (nc (zI (k:=k)) (nc (zN (F:=hy2)) ?_)))))))))))))))))
   refine ⟨by kernel_rfl,?_⟩
   refine aR ?_
   refine nc zl (nc zj (nc ze ?_))
   refine ⟨k,st2 k ((M.set (k+1) y).set k x),by omega,⟨k,(M.set (k+1) y).set k x,rfl,by omega,by omega,?_,by rw [hst2]⟩,?_⟩
   ·rw [hN] at hM ⊢
    exact b8y hkm (by omega) hM hx hy
   ·rw [hst2]
    refine a7 ⟨rfl,rfl,?_,?_,trivial⟩
    ·show some (AV.val (.i _))=some (AV.val (.i _))
     congr 3;omega
    ·rw [←t9,←t9];rfl
  ·have hge:k=i:=by have:=of_decide_eq_false hc;omega
   rw [hge,hN] at hM
   refine aT ⟨.inr rfl,M,⟨(Mg.rt (by omega) (by omega) (by omega) hM).mono hmi (by omega),?_⟩,_,Wk.refl _,rfl,rfl,trivial⟩
   have hf:=a0e (a:=a) (b:=b) (mid:=i+1) hmi (by omega) (by omega) (by omega) (by omega) (by omega) h1 (fun i j x y k1 k2 k3 _ _=>by omega) (fun i j x y k1 k2 _ _ _ _=>by omega) (fun t u x y k1 k2 k3 k4 k5 k6=>by
    rw [show t=m by omega,hz] at k5;cases k5
    have:=hhi u y (by omega) (by omega) k6
    omega) hM
   refine srtB.glue (m:=i+1) ((hf.1).glue hf.2.1 fun t u x y k1 k2 k3 k4 k5 k6=>?_) (by rw [hmb];exact hf.2.2.1) hf.2.2.2.2
   have e1:M[u]?=some z:=by
    rw [hM.2,←hz];unfold rtG;rw [if_pos (by omega)];congr 1;omega
   rw [e1] at k6;cases k6
   have e2:M[t]?=L[t]?:=by rw [hM.2];unfold rtG;rw [if_neg (by omega),if_neg (by omega)]
   rw [e2] at k5
   exact hlo t x k1 k2 k5
set_option maxHeartbeats 4000000 in
theorem a8d (cmp:Bd→Bd→Int) (fc:CV) (hcm:∀ W x y,N5 Tryz.prog W fc [x.cw,y.cw] (.val (.i (cmp x y)))) (hv:∀ x y,cmp x y<0↔x.v<y.v):∀ (d:Nat) (L:List Bd) (a m b:Nat),b-a≤d→a<m→m<b→b≤L.length→L.length≤1000000→srtB L a m→srtB L m b→AFunE (Sg:=List Bd) Tryz.prog 160 (rwB L) [.sl 400000 0 L.length 3,.val (.i a),.val (.i m),.val (.i b),.val fc] (b1k a b L) (fun _ => .tup []) (fun σ=>rwB σ):=by
 intro d
 induction d with
 | zero=>intro L a m b hd ham hmb;omega
 | succ d ih =>
 intro L a m b hd ham hmb hb hl h1 h2
 by_cases q1:m=a+1
 ·exact b3N cmp fc hcm hv L a m b q1 hmb hb hl h2
 by_cases q2:b=m+1
 ·exact b2c cmp fc hcm hv L a m b (by omega) q2 hb hl h1
 refine I2 Tryz.func160 Tryz.ntmps160 rfl rfl rfl rfl rfl (fun σ=>rfl) ?_
 intro w U hU
 refine aS (aS (aR ?_))
 refine nc zl (nc zl (nc zj (nc zt ?_)))
 refine aC rfl (fun hc=>?_) (fun _=>aK ?_)
 case refine_1 =>
  have hc:=of_decide_eq_true hc
  omega
 refine aS (aS (aR ?_))
 refine nc zl (nc zl (nc zj (nc zt ?_)))
 refine aC rfl (fun hc=>?_) (fun _=>aK ?_)
 case refine_1 =>
  have hc:=of_decide_eq_true hc
  omega
 have hw:=a0U (i:=a) (j:=b) (by omega) (by omega)
 refine aS (aR ?_)
 refine nc zl (nc zl (nc zu (nc zbo (nc zbp (nc zbo (nc ze ?_))))))
 have hcast:=a0L a b
 obtain ⟨mid,hmid⟩:∃ mid,mid=(a+b) / 2:=⟨_,rfl⟩
 have hm2:mid+mid≤a+b∧a+b≤mid+mid+1:=by omega
 rw [←hmid] at hcast
 obtain ⟨N,hN⟩:∃ N,N=L.length:=⟨_,rfl⟩
 rw [←hN] at hb hl ⊢
 refine AWp.wk (a7 (s':=(0,AV.sl 400000 0 N 3)::(1,.val (.i a))::(2,.val (.i m))::(3,.val (.i b))::(4,.val fc)::(18,.val (.i (mid:Nat)))::rwB L) ⟨by rw [hN];rfl,rfl,rfl,rfl,rfl,by rw [←hcast];rfl,rfl,trivial⟩) ?_
 refine aS (aR ?_)
 refine nc zl (nc zl (nc zu (nc ze ?_)))
 refine aS (aR ?_)
 refine nc ze (nc ze ?_)
 obtain ⟨n,hn⟩:∃ n,n=mid+m:=⟨_,rfl⟩
 obtain ⟨s0,r0,h0⟩:∃ s0 r0,(m>mid∧s0=n-b∧r0=mid)∨(m≤mid∧s0=a∧r0=m):=by
  rcases Nat.lt_or_ge mid m with c | c
  ·exact ⟨_,_,.inl ⟨c,rfl,rfl⟩⟩
  ·exact ⟨_,_,.inr ⟨c,rfl,rfl⟩⟩
 refine a5V ((0,AV.sl 400000 0 N 3)::(1,.val (.i a))::(2,.val (.i m))::(3,.val (.i b))::(4,.val fc)::(18,.val (.i (mid:Nat)))::(19,.val (.i (n:Nat)))::(20,.val (.i (s0:Nat)))::(21,.val (.i (r0:Nat)))::rwB L) ?_ ?_
 ·refine aS (aR ?_)
  refine nc zl (nc zl (nc zH ?_))
  rcases h0 with ⟨c,e1,e2⟩ | ⟨c,e1,e2⟩
  ·refine aC rfl (fun _=>?_) (fun hc=>?_)
   case refine_2 =>
    have hc:=of_decide_eq_false hc
    omega
   refine aS (aR ?_)
   refine nc zl (nc zl (nc zj (nc ze ?_)))
   refine aR ?_
   refine nc zl (nc ze ?_)
   refine a7 ⟨rfl,rfl,rfl,rfl,rfl,rfl,?_,?_,?_,rfl,trivial⟩
   ·rw [show ((n:Nat):Int)=(mid:Int)+m by omega];rfl
   ·rw [show ((s0:Nat):Int)=(mid:Int)+m-b by omega];rfl
   ·rw [e2];rfl
  ·refine aC rfl (fun hc=>?_) (fun _=>?_)
   case refine_1 =>
    have hc:=of_decide_eq_true hc
    omega
   refine aS (aR ?_)
   refine nc zl (nc ze ?_)
   refine aR ?_
   refine nc zl (nc ze ?_)
   refine a7 ⟨rfl,rfl,rfl,rfl,rfl,rfl,?_,?_,?_,rfl,trivial⟩
   ·rw [show ((n:Nat):Int)=(mid:Int)+m by omega];rfl
   ·rw [e1];rfl
   ·rw [e2];rfl
 refine aS (aR ?_)
 refine nc zl (nc zj (nc ze ?_))
 have hidx:∀ c,s0≤c→c<r0→a≤c∧c<m∧m≤n-1-c∧n-1-c<b∧c≤n-1:=fun c k1 k2=>by omega
 have hsr:s0≤r0∧r0≤m:=by omega
 have hlm:(L.map Bd.cv).length=L.length:=List.length_map ..
 obtain ⟨st,hst⟩:∃ st:Nat→Nat→AS,st=fun i j=>(0,AV.sl 400000 0 N 3)::(1,.val (.i a))::(2,.val (.i m))::(3,.val (.i b))::(4,.val fc)::(18,.val (.i (mid:Nat)))::(19,.val (.i (n:Nat)))::(20,.val (.i (i:Nat)))::(21,.val (.i (j:Nat)))::(22,.val (.i ((n-1:Nat):Int)))::rwB L:=⟨_,rfl⟩
 refine aS (aB (l6 (fun k s=>∃ i j,k=j-i∧s0≤i∧i≤j∧j≤r0∧(∀ c x y,s0≤c→c<i→L[c]?=some x→L[n-1-c]?=some y→x.v≤y.v)∧(∀ c x y,j≤c→c<r0→L[c]?=some x→L[n-1-c]?=some y→y.v<x.v)∧s=st i j) (n:=r0-s0) (s':=st s0 r0) (by
  rw [hst]
  refine a7 ⟨rfl,rfl,rfl,rfl,rfl,rfl,rfl,rfl,rfl,?_,rfl,trivial⟩
  rw [show ((n-1:Nat):Int)=(n:Int)-1 by omega];rfl) ⟨s0,r0,rfl,Nat.le_refl _,hsr.1,Nat.le_refl _,fun c x y _ _ _=>by omega,fun c x y _ _ _=>by omega,rfl⟩ ?_))
 rintro k s ⟨i,j,rfl,hmi,hij,hjb,hlo,hhi,rfl⟩
 rw [hst]
 refine aS (aS (aR ?_))
 refine nc zl (nc zl (nc zi ?_))
 refine aC rfl (fun hc=>aK ?_) (fun hc=>aE ?_)
 ·have hlt:i<j:=by have:=of_decide_eq_true hc;omega
  have hw:=a0U (i:=i) (j:=j) (by omega) (by omega)
  refine aB (aS (aR ?_))
  refine nc zl (nc zl (nc zu (nc zbo (nc zbp (nc zbo (nc ze ?_))))))
  have hh:i≤(i+j) / 2∧(i+j) / 2<j:=by omega
  have hcast:=a0L i j
  obtain ⟨h,hhd⟩:∃ h,h=(i+j) / 2:=⟨_,rfl⟩
  rw [←hhd] at hh hcast
  obtain ⟨k1,k2,k3,k4,k5⟩:=hidx h (by omega) (by omega)
  refine AWp.wk (a7 (s':=(23,.val (.i (h:Nat)))::(0,AV.sl 400000 0 N 3)::(1,.val (.i a))::(2,.val (.i m))::(3,.val (.i b))::(4,.val fc)::(18,.val (.i (mid:Nat)))::(19,.val (.i (n:Nat)))::(20,.val (.i (i:Nat)))::(21,.val (.i (j:Nat)))::(22,.val (.i ((n-1:Nat):Int)))::rwB L) ⟨by rw [←hcast];rfl,rfl,rfl,rfl,rfl,rfl,rfl,rfl,rfl,rfl,rfl,rfl,trivial⟩) ?_
  obtain ⟨x,hx⟩:=J0 (L:=L) (t:=n-1-h) (by omega)
  obtain ⟨y,hy⟩:=J0 (L:=L) (t:=h) (by omega)
  have hx':=Bd.map_at hx
  have hy':=Bd.map_at hy
  refine aS (aD (by kernel_rfl) (by kernel_rfl) ?_)
  refine nc zl (nc zl (nc zl (nc zl (nc zj (nc (zI (k:=n-1-h)) (nc (zJ (G:=hx')) (nc zl (nc zl (nc (zI (k:=h)) (nc (zJ (G:=hy')) (nc (zK (E:=hcm _ x y)) (nc zi (nc zX ?_)))))))))))))
  refine ⟨by kernel_rfl,?_⟩
  refine aC rfl (fun c1=>?_) (fun c1=>?_)
  ·have c2:¬ x.v<y.v:=fun c=>by
    have:=(hv x y).2 c
    simp [this] at c1
   refine aR ?_
   refine nc zl (nc zu (nc ze ?_))
   refine ⟨j-(h+1),st (h+1) j,by omega,⟨h+1,j,rfl,by omega,by omega,hjb,fun c x' y' g1 g2 g3 g4=>?_,hhi,by rw [hst]⟩,by rw [hst];exact a7 ⟨rfl,rfl,rfl,rfl,rfl,rfl,rfl,rfl,rfl,rfl,rfl,trivial⟩⟩
   by_cases ct:c=h
   ·rw [ct] at g3 g4
    rw [hy] at g3;rw [hx] at g4;cases g3;cases g4;omega
   ·obtain ⟨l1,l2,l3,l4,l5⟩:=hidx c g1 (by omega)
    have e1:=h1 c h x' y (by omega) (by omega) (by omega) g3 hy
    have e2:=h2 (n-1-h) (n-1-c) x y' (by omega) (by omega) (by omega) hx g4
    omega
  ·have c2:x.v<y.v:=(hv x y).1 (by simpa using c1)
   refine aR ?_
   refine nc zl (nc ze ?_)
   refine ⟨h-i,st i h,by omega,⟨i,h,rfl,hmi,by omega,by omega,hlo,fun c x' y' g1 g2 g3 g4=>?_,by rw [hst]⟩,by rw [hst];exact a7 ⟨rfl,rfl,rfl,rfl,rfl,rfl,rfl,rfl,rfl,rfl,rfl,trivial⟩⟩
   by_cases ct:c=h
   ·rw [ct] at g3 g4
    rw [hy] at g3;rw [hx] at g4;cases g3;cases g4;omega
   ·obtain ⟨l1,l2,l3,l4,l5⟩:=hidx c (by omega) g2
    have e1:=h1 h c y x' (by omega) (by omega) (by omega) hy g3
    have e2:=h2 (n-1-c) (n-1-h) y' x (by omega) (by omega) (by omega) g4 hx
    omega
 have hij':i=j:=by have:=of_decide_eq_false hc;omega
 subst hij'
 have hcut:Cut L n s0 i r0:=⟨hlo,hhi⟩
 obtain ⟨f1,f2,f3,f4,f5,f6,f7⟩:=hcut.sides (hN▸hb) ham hmb (by rw [hn,hmid]) (by rw [←hmid];exact h0) h1 h2 hmi hjb
 rw [←hmid] at f5
 refine aS (aR ?_)
 refine nc zl (nc zl (nc zj (nc ze ?_)))
 have hecast:((n:Nat):Int)-(i:Nat)=((n-i:Nat):Int):=by omega
 obtain ⟨e,he⟩:∃ e,e=n-i:=⟨_,rfl⟩
 rw [←he] at f3 f4 f5 f6 f7 hecast
 obtain ⟨st3,hst3⟩:∃ st:List Bd→AS,st=fun M=>(0,AV.sl 400000 0 N 3)::(1,.val (.i a))::(2,.val (.i m))::(3,.val (.i b))::(4,.val fc)::(18,.val (.i (mid:Nat)))::(20,.val (.i (i:Nat)))::(24,.val (.i (e:Nat)))::rwB M:=⟨_,rfl⟩
 refine AWp.wk (s':=st3 L) (by rw [hst3];exact a7 ⟨rfl,rfl,rfl,rfl,rfl,rfl,rfl,by rw [←hecast];rfl,rfl,trivial⟩) ?_
 refine a4f (fun M=>IsG M N (rtG i m e fun t=>L[t]?)) st3 ?_ ?_
 ·rw [hst3]
  refine aS (aR ?_)
  rcases Nat.lt_or_ge i m with c | c
  ·have g:decide (((i:Nat):Int)<(m:Nat))=true:=decide_eq_true (by omega)
   refine nc zl (nc zl (nc zi (nc zl (nc (zl (p:=gb)) (nc (zl (p:=gb)) (nc (zi (r:=gb)) (nc zM ?_)))))))
   refine aC rfl (fun hc=>?_) (fun hc=>aK ?_)
   ·have hc:=of_decide_eq_true hc
    have hr:=a9W fc L i m e c (by omega) (by omega) (by omega)
    rw [←hN] at hr
    refine s9 5 rfl rfl rfl rfl rfl rfl hr (by kernel_rfl) (fun σ=>by kernel_rfl) (fun σ=>by kernel_rfl) (fun σ=>rfl) (fun σ=>i7 (by kernel_rfl)) ?_
    refine nc zl (nc zl (nc zl (nc zl (nc zl ?_))))
    refine ⟨rfl,⟨rfl,trivial⟩,fun σ hσ=>⟨by kernel_rfl,?_⟩⟩
    exact ⟨σ,hσ,a7 ⟨rfl,rfl,rfl,rfl,rfl,rfl,rfl,rfl,rfl,trivial⟩⟩
   ·have hc:=of_decide_eq_false hc
    exact ⟨L,by rw [hN];exact a9e f2 f3 (.inr (by omega)),a7 ⟨rfl,rfl,rfl,rfl,rfl,rfl,rfl,rfl,rfl,trivial⟩⟩
  ·have g:decide (((i:Nat):Int)<(m:Nat))=false:=decide_eq_false (by omega)
   refine nc zl (nc zl (nc zi (nc zl (nc zO (nc zO (nc zO (nc zP ?_)))))))
   refine aC rfl (fun hc=>?_) (fun hc=>aK ?_)
   ·cases hc
   ·exact ⟨L,by rw [hN];exact a9e f2 f3 (.inl (by omega)),a7 ⟨rfl,rfl,rfl,rfl,rfl,rfl,rfl,rfl,rfl,trivial⟩⟩
 intro M hM
 have hMl:=hM.1
 have hM':=hM
 rw [hN] at hM'
 obtain ⟨t1,t2,t3,t4,t5⟩:=a0e f1 f2 f3 f4 (hN▸hb) f5 h1 h2 f6 f7 hM'
 have hg1:Mg a b L M:=(Mg.rt f2 f3 (by omega) hM').mono f1 f4
 refine a4f (fun M2=>Mg a mid M M2∧srtB M2 a mid) st3 ?_ ?_
 ·rw [hst3]
  refine aS (aR ?_)
  rcases Nat.lt_or_ge a i with c | c
  ·have g:decide (((a:Nat):Int)<(i:Nat))=true:=decide_eq_true (by omega)
   refine nc zl (nc zl (nc zi (nc zl (nc (zl (p:=gb)) (nc (zl (p:=gb)) (nc (zi (r:=gb)) (nc zM ?_)))))))
   refine aC rfl (fun hc=>?_) (fun hc=>aK ?_)
   ·have hc:=of_decide_eq_true hc
    have hr:=ih M a i mid (by omega) c (by omega) (by omega) (by omega) t1 t2
    rw [hMl] at hr
    refine s9 5 rfl rfl rfl rfl rfl rfl hr (by kernel_rfl) (fun σ=>by kernel_rfl) (fun σ=>by kernel_rfl) (fun σ=>rfl) (fun σ=>i7 (by kernel_rfl)) ?_
    refine nc zl (nc zl (nc zl (nc zl (nc zl ?_))))
    refine ⟨rfl,⟨rfl,trivial⟩,fun σ hσ=>⟨by kernel_rfl,?_⟩⟩
    exact ⟨σ,hσ,a7 ⟨rfl,rfl,rfl,rfl,rfl,rfl,rfl,rfl,rfl,trivial⟩⟩
   ·have hc:=of_decide_eq_false hc
    exact ⟨M,⟨Mg.refl _ _ _,by rw [show mid=i by omega];exact t1⟩,a7 ⟨rfl,rfl,rfl,rfl,rfl,rfl,rfl,rfl,rfl,trivial⟩⟩
  ·have g:decide (((a:Nat):Int)<(i:Nat))=false:=decide_eq_false (by omega)
   refine nc zl (nc zl (nc zi (nc zl (nc zO (nc zO (nc zO (nc zP ?_)))))))
   refine aC rfl (fun hc=>?_) (fun hc=>aK ?_)
   ·cases hc
   ·exact ⟨M,⟨Mg.refl _ _ _,by rw [show a=i by omega];exact t2⟩,a7 ⟨rfl,rfl,rfl,rfl,rfl,rfl,rfl,rfl,rfl,trivial⟩⟩
 intro M2 hM2
 obtain ⟨hg2,u1⟩:=hM2
 have hMl2:M2.length=N:=hg2.len.trans hMl
 have u2:srtB M2 mid e:=t3.same fun t k1 k2=>hg2.out t (by omega)
 have u3:srtB M2 e b:=t4.same fun t k1 k2=>hg2.out t (by omega)
 have u4:leB M2 a mid mid b:=t5.mg (by omega) (by omega) (.inl hg2)
 have fin:∀ σ,Mg mid b M2 σ→srtB σ mid b→b1k a b L σ:=fun σ g1 g2 =>
  ⟨(hg1.trans (hg2.mono (Nat.le_refl _) (by omega))).trans (g1.mono (by omega) (Nat.le_refl _)),(u1.same fun t k1 k2=>g1.out t (by omega)).glue g2 (u4.mg (by omega) (by omega) (.inr g1))⟩
 rw [hst3]
 refine aS (aR ?_)
 rcases Nat.lt_or_ge mid e with c | c
 ·have g:decide (((mid:Nat):Int)<(e:Nat))=true:=decide_eq_true (by omega)
  refine nc zl (nc zl (nc zi (nc zl (nc (zl (p:=gb)) (nc (zl (p:=gb)) (nc (zi (r:=gb)) (nc zM ?_)))))))
  refine aC rfl (fun hc=>?_) (fun hc=>aK ?_)
  ·have hc:=of_decide_eq_true hc
   have hr:=ih M2 mid e b (by omega) c (by omega) (by omega) (by omega) u2 u3
   rw [hMl2] at hr
   refine s9 5 rfl rfl rfl rfl rfl rfl hr (by kernel_rfl) (fun σ=>by kernel_rfl) (fun σ=>by kernel_rfl) (fun σ=>rfl) (fun σ=>i7 (by kernel_rfl)) ?_
   refine nc zl (nc zl (nc zl (nc zl (nc zl ?_))))
   refine ⟨rfl,⟨rfl,trivial⟩,fun σ hσ=>⟨by kernel_rfl,?_⟩⟩
   exact ⟨.inl rfl,σ,fin σ hσ.1 hσ.2,_,Wk.refl _,rfl,rfl,trivial⟩
  ·have hc:=of_decide_eq_false hc
   exact ⟨.inl rfl,M2,fin M2 (Mg.refl _ _ _) (by rw [show b=e by omega];exact u2),_,Wk.refl _,rfl,rfl,trivial⟩
 ·have g:decide (((mid:Nat):Int)<(e:Nat))=false:=decide_eq_false (by omega)
  refine nc zl (nc zl (nc zi (nc zl (nc zO (nc zO (nc zO (nc zP ?_)))))))
  refine aC rfl (fun hc=>?_) (fun hc=>aK ?_)
  ·cases hc
  ·exact ⟨.inl rfl,M2,fin M2 (Mg.refl _ _ _) (by rw [show mid=e by omega];exact u3),_,Wk.refl _,rfl,rfl,trivial⟩
structure SkI (L:List Bd) (a j e:Nat):Prop where
 oth:∀ p q x y,a≤p→p<q→q<e→p≠j→q≠j→L[p]?=some x→L[q]?=some y→x.v≤y.v
 beh:∀ q x y,j<q→q<e→L[j]?=some x→L[q]?=some y→x.v≤y.v
theorem a8b {cmp:Bd→Bd→Int} (hv:∀ x y,cmp x y<0↔x.v<y.v) {a e:Nat}:∀ (j:Nat) (L:List Bd),j<e→e≤L.length→SkI L a j e→Mg a e L (U2 (ltC cmp) a j L)∧srtB (U2 (ltC cmp) a j L) a e
 | 0,L,hj,he,h=>⟨Mg.refl _ _ _,fun p q x y k1 k2 k3 k4 k5=>by
   by_cases c:p=0
   ·subst c;exact h.beh q x y (by omega) k3 k4 k5
   ·exact h.oth p q x y k1 k2 k3 c (by omega) k4 k5⟩
 | j+1,L,hj,he,h=>by
  by_cases ha:a<j+1
  ·obtain ⟨x,hx⟩:=J0 (L:=L) (t:=j+1) (by omega)
   obtain ⟨y,hy⟩:=J0 (L:=L) (t:=j) (by omega)
   by_cases hlt:ltC cmp x y=true
   ·rw [a3G _ _ hx hy ha hlt]
    have hxy:x.v<y.v:=(hv x y).1 (of_decide_eq_true hlt)
    have hg:IsG ((L.set (j+1) y).set j x) L.length (rtG j (j+1) (j+1+1) fun t=>L[t]?):=b8y (Nat.le_refl _) (by omega) (a9e (Nat.le_refl _) (by omega) (.inl rfl)) hx hy
    have hm:=(Mg.rt (by omega) (by omega) (by omega) hg).mono (c:=a) (d:=e) (by omega) (by omega)
    have e1:((L.set (j+1) y).set j x)[j]?=some x:=by rw [List.getElem?_set,if_pos rfl,if_pos (by rw [List.length_set];omega)]
    have e2:((L.set (j+1) y).set j x)[j+1]?=some y:=by rw [List.getElem?_set,if_neg (by omega),List.getElem?_set,if_pos rfl,if_pos (by omega)]
    have e3:∀ t,t≠j→t≠j+1→((L.set (j+1) y).set j x)[t]?=L[t]?:=fun t k1 k2=>by rw [List.getElem?_set,if_neg (by omega),List.getElem?_set,if_neg (by omega)]
    have hI:SkI ((L.set (j+1) y).set j x) a j e:=by
     refine ⟨fun p q x' y' k1 k2 k3 k4 k5 k6 k7=>?_,fun q x' y' k1 k2 k3 k4=>?_⟩
     ·by_cases c1:p=j+1
      ·subst c1
       rw [e2] at k6;cases k6
       rw [e3 q (by omega) (by omega)] at k7
       exact h.oth j q _ y' (by omega) (by omega) k3 (by omega) (by omega) hy k7
      ·rw [e3 p k4 c1] at k6
       by_cases c2:q=j+1
       ·subst c2
        rw [e2] at k7;cases k7
        exact h.oth p j x' _ k1 (by omega) (by omega) (by omega) (by omega) k6 hy
       ·rw [e3 q k5 c2] at k7
        exact h.oth p q x' y' k1 k2 k3 c1 c2 k6 k7
     ·rw [e1] at k3;cases k3
      by_cases c2:q=j+1
      ·subst c2
       rw [e2] at k4;cases k4;omega
      ·rw [e3 q (by omega) c2] at k4
       exact h.beh q _ y' (by omega) k2 hx k4
    obtain ⟨r1,r2⟩:=a8b hv j ((L.set (j+1) y).set j x) (by omega) (by rw [List.length_set,List.length_set];exact he) hI
    exact ⟨hm.trans r1,r2⟩
   ·have hlt':ltC cmp x y=false:=by simpa using hlt
    rw [a5Z _ _ hx hy hlt']
    have hxy:¬ x.v<y.v:=fun c=>by
     have:=decide_eq_true ((hv x y).2 c)
     exact hlt this
    refine ⟨Mg.refl _ _ _,fun p q x' y' k1 k2 k3 k4 k5=>?_⟩
    by_cases c1:p=j+1
    ·subst c1;exact h.beh q x' y' k2 k3 k4 k5
    ·by_cases c2:q=j+1
     ·subst c2
      rw [hx] at k5;cases k5
      by_cases c3:p=j
      ·subst c3;rw [hy] at k4;cases k4;omega
      ·have:=h.oth p j x' y k1 (by omega) (by omega) c1 (by omega) k4 hy
       omega
     ·exact h.oth p q x' y' k1 k2 k3 c1 c2 k4 k5
  ·rw [a5o _ _ ha]
   refine ⟨Mg.refl _ _ _,fun p q x' y' k1 k2 k3 k4 k5=>?_⟩
   by_cases c1:p=j+1
   ·subst c1;exact h.beh q x' y' k2 k3 k4 k5
   ·exact h.oth p q x' y' k1 k2 k3 c1 (by omega) k4 k5
theorem a5w {cmp:Bd→Bd→Int} (hv:∀ x y,cmp x y<0↔x.v<y.v) {a:Nat}:∀ (n i:Nat) (L:List Bd),a≤i→i+n≤L.length→srtB L a i→Mg a (i+n) L (x9 (ltC cmp) a n i L)∧srtB (x9 (ltC cmp) a n i L) a (i+n)
 | 0,i,L,ha,he,h=>⟨Mg.refl _ _ _,h⟩
 | n+1,i,L,ha,he,h=>by
  have hs:=a8b hv (a:=a) (e:=i+1) i L (by omega) (by omega) ⟨fun p q x y k1 k2 k3 k4 k5 k6 k7=>h p q x y k1 k2 (by omega) k6 k7,fun q x y k1 k2 _ _=>by omega⟩
  have hr:=a5w hv n (i+1) (U2 (ltC cmp) a i L) (by omega) (by rw [a3H];omega) hs.2
  rw [show i+1+n=i+(n+1) by omega] at hr
  exact ⟨(hs.1.mono (Nat.le_refl _) (by omega)).trans hr.1,hr.2⟩
theorem a6f {cmp:Bd→Bd→Int} (hv:∀ x y,cmp x y<0↔x.v<y.v) {a b:Nat} (L:List Bd) (hab:a≤b) (hb:b≤L.length):Mg a b L (x9 (ltC cmp) a (b-(a+1)) (a+1) L)∧srtB (x9 (ltC cmp) a (b-(a+1)) (a+1) L) a b:=by
 by_cases c:a+1≤b
 ·have h:=a5w hv (a:=a) (b-(a+1)) (a+1) L (by omega) (by omega) (fun p q x y _ _ _ _ _=>by omega)
  rw [show a+1+(b-(a+1))=b by omega] at h
  exact h
 ·rw [show b-(a+1)=0 by omega]
  exact ⟨Mg.refl _ _ _,fun p q x y _ _ _ _ _=>by omega⟩
def blk (M:List Bd) (bs n a b:Nat):Prop:=∀ lo,bs∣lo→a≤lo→lo<b→srtB M lo (min (lo+bs) n)
theorem a0Y {k x y:Nat} (hx:k∣x) (hy:k∣y) (h:x<y):x+k≤y:=by
 have:=Nat.le_of_dvd (by omega) (Nat.dvd_sub hy hx)
 omega
theorem blk.mg {M σ:List Bd} {bs n a b c d:Nat} (h:blk M bs n a b) (hm:Mg c d M σ) (hs:(bs∣c∧b≤c)∨d≤a):blk σ bs n a b:=fun lo k1 k2 k3=>by
 refine (h lo k1 k2 k3).same fun t h1 h2=>hm.out t ?_
 rcases hs with ⟨s1,s2⟩ | s
 ·have:=a0Y k1 s1 (by omega)
  omega
 ·omega
set_option maxHeartbeats 4000000 in
theorem a7q (cmp:Bd→Bd→Int) (fc:CV) (hcm:∀ W x y,N5 Tryz.prog W fc [x.cw,y.cw] (.val (.i (cmp x y)))) (hv:∀ x y,cmp x y<0↔x.v<y.v) (L:List Bd) (hl:L.length≤1000000):AFunE (Sg:=List Bd) Tryz.prog 153 (rwB L) [.sl 400000 0 L.length 3,.val (.i L.length),.val fc] (b1k 0 L.length L) (fun _ => .tup []) (fun σ=>rwB σ):=by
 refine I2 Tryz.func153 Tryz.ntmps153 rfl rfl rfl rfl rfl (fun σ=>rfl) ?_
 intro w U hU
 refine aS (aR ?_)
 refine nc ze ?_
 refine aS (aR ?_)
 refine nc zl (nc ze (nc ze ?_))
 obtain ⟨N,hN⟩:∃ N,N=L.length:=⟨_,rfl⟩
 rw [←hN] at hl ⊢
 obtain ⟨st,hst⟩:∃ st:Nat→Nat→Nat→List Bd→AS,st=fun bs a b M=>(0,AV.sl 400000 0 N 3)::(1,.val (.i N))::(2,.val fc)::(6,.val (.i (bs:Nat)))::(7,.val (.i (a:Nat)))::(8,.val (.i (b:Nat)))::rwB M:=⟨_,rfl⟩
 refine aS (aB (l6 (fun k s=>∃ a M,k=N-a∧20∣a∧a≤N∧Mg 0 N L M∧blk M 20 N 0 a∧s=st 20 a (a+20) M) (n:=N-0) (s':=st 20 0 (0+20) L) (by rw [hst,hN];exact a7 ⟨rfl,rfl,rfl,rfl,rfl,rfl,rfl,trivial⟩) ⟨0,L,rfl,⟨0,rfl⟩,Nat.zero_le _,Mg.refl _ _ _,fun lo _ _ h=>by omega,rfl⟩ ?_))
 rintro k s ⟨a,M,rfl,hda,haN,hMg,hbl,rfl⟩
 have hMl:M.length=N:=hMg.len.trans hN.symm
 rw [hst]
 refine aS (aS (aR ?_))
 refine nc zl (nc zl (nc zA ?_))
 refine aC rfl (fun hc=>aK ?_) (fun hc=>aE ?_)
 ·have hlt:a+20≤N:=by have:=of_decide_eq_true hc;omega
  have hins:=a1Q cmp fc M a (a+20) (by omega) (by omega) (by omega) hcm
  rw [hMl] at hins
  have hs:=a6f hv (a:=a) (b:=a+20) M (by omega) (by omega)
  obtain ⟨M',hM'⟩:∃ M',M'=x9 (ltC cmp) a (a+20-(a+1)) (a+1) M:=⟨_,rfl⟩
  rw [←hM'] at hins hs
  refine aB (aS (aR ?_))
  refine nc zl (nc zl (nc zl (nc zl (nc (z0 (z:=hins) (G:=i7 (by first | rfl | kernel_rfl))) ?_))))
  refine aS (aR ?_)
  refine nc zl (nc ze ?_)
  refine aR ?_
  refine nc zl (nc zl (nc zu (nc ze ?_)))
  refine ⟨N-(a+20),st 20 (a+20) (a+20+20) M',by omega,⟨a+20,M',rfl,Nat.dvd_add hda ⟨1,rfl⟩,hlt,hMg.trans (hs.1.mono (Nat.zero_le _) hlt),fun lo k1 k2 k3=>?_,by rw [hst]⟩,by rw [hst];exact a7 ⟨rfl,rfl,rfl,rfl,rfl,rfl,rfl,trivial⟩⟩
  by_cases c:lo<a
  ·exact (hbl.mg hs.1 (.inl ⟨hda,Nat.le_refl _⟩)) lo k1 k2 c
  ·have:lo=a:=by
    rcases Nat.lt_or_ge a lo with c2 | c2
    ·have:=a0Y hda k1 c2
     omega
    ·omega
   subst this
   rw [Nat.min_eq_left hlt]
   exact hs.2
 ·have hge:N<a+20:=by have:=of_decide_eq_false hc;omega
  have hins:=a1Q cmp fc M a N (by omega) (by omega) (by omega) hcm
  rw [hMl] at hins
  have hs:=a6f hv (a:=a) (b:=N) M haN (by omega)
  obtain ⟨M',hM'⟩:∃ M',M'=x9 (ltC cmp) a (N-(a+1)) (a+1) M:=⟨_,rfl⟩
  rw [←hM'] at hins hs
  refine aS (aR ?_)
  refine nc zl (nc zl (nc zl (nc zl (nc (z0 (z:=hins) (G:=i7 (by first | rfl | kernel_rfl))) ?_))))
  obtain ⟨st2,hst2⟩:∃ st:Nat→List Bd→AS,st=fun bs M=>(0,AV.sl 400000 0 N 3)::(1,.val (.i N))::(2,.val fc)::(6,.val (.i (bs:Nat)))::rwB M:=⟨_,rfl⟩
  have hb0:blk M' 20 N 0 N:=fun lo k1 k2 k3=>by
   by_cases c:lo<a
   ·exact (hbl.mg hs.1 (.inl ⟨hda,Nat.le_refl _⟩)) lo k1 k2 c
   ·have:lo=a:=by
     rcases Nat.lt_or_ge a lo with c2 | c2
     ·have:=a0Y hda k1 c2
      omega
     ·omega
    subst this
    rw [Nat.min_eq_right (by omega)]
    exact hs.2
  refine aB (l6 (fun k s=>∃ bs M,k=2*N-bs∧0<bs∧(bs≤20∨bs≤2*N)∧Mg 0 N L M∧blk M bs N 0 N∧s=st2 bs M) (n:=2*N-20) (s':=st2 20 M') (by rw [hst2];exact a7 ⟨rfl,rfl,rfl,rfl,rfl,trivial⟩) ⟨20,M',rfl,by omega,.inl (Nat.le_refl _),hMg.trans (hs.1.mono (Nat.zero_le _) (Nat.le_refl _)),hb0,rfl⟩ ?_)
  clear hs hb0 hins hM' M' hMg hbl hMl M hge hc haN hda a
  rintro k s ⟨bs,M,rfl,hbs,hbn,hMg,hbl,rfl⟩
  rw [hst2]
  refine aS (aS (aR ?_))
  refine nc zl (nc zl (nc zi ?_))
  refine aC rfl (fun hc=>aK ?_) (fun hc=>aE ?_)
  ·have hlt:bs<N:=by have:=of_decide_eq_true hc;omega
   refine aB (aS (aR ?_))
   refine nc zl (nc zbq (nc ze (nc ze ?_)))
   refine aS (aB (l6 (fun k s=>∃ a M,k=N-a∧2*bs∣a∧a≤N∧Mg 0 N L M∧blk M (2*bs) N 0 a∧blk M bs N a N∧s=st bs a (a+2*bs) M) (n:=N-0) (s':=st bs 0 (0+2*bs) M) (by
    rw [hst]
    refine a7 ⟨rfl,rfl,rfl,rfl,rfl,?_,rfl,trivial⟩
    rw [show ((0+2*bs:Nat):Int)=2*(bs:Int) by omega];rfl) ⟨0,M,rfl,⟨0,rfl⟩,Nat.zero_le _,hMg,fun lo _ _ h=>by omega,hbl,rfl⟩ ?_))
   clear hMg hbl M
   rintro k s ⟨a,M,rfl,hda,haN,hMg,hbl,hbr,rfl⟩
   have hMl:M.length=N:=hMg.len.trans hN.symm
   have hda1:bs∣a:=Nat.dvd_trans ⟨2,by omega⟩ hda
   rw [hst]
   refine aS (aS (aR ?_))
   refine nc zl (nc zl (nc zA ?_))
   refine aC rfl (fun hc=>aK ?_) (fun hc=>aE ?_)
   ·have hle:a+2*bs≤N:=by have:=of_decide_eq_true hc;omega
    have p1:=hbr a hda1 (Nat.le_refl _) (by omega)
    have p2:=hbr (a+bs) (Nat.dvd_add hda1 (Nat.dvd_refl _)) (by omega) (by omega)
    rw [Nat.min_eq_left (by omega)] at p1 p2
    have hr:=a8d cmp fc hcm hv (a+2*bs-a) M a (a+bs) (a+2*bs) (Nat.le_refl _) (by omega) (by omega) (by omega) (by omega) p1 (by rw [show a+2*bs=a+bs+bs by omega];exact p2)
    rw [hMl] at hr
    refine aB (aS (s9 7 rfl rfl rfl rfl rfl rfl hr (by kernel_rfl) (fun σ=>by kernel_rfl) (fun σ=>by kernel_rfl) (fun σ=>rfl) (fun σ=>i7 (by kernel_rfl)) ?_))
    refine nc zl (nc zl (nc zl (nc zl (nc zu (nc zl (nc zl ?_))))))
    refine ⟨rfl,⟨rfl,trivial⟩,fun σ hσ=>⟨by kernel_rfl,?_⟩⟩
    refine aS (aR ?_)
    refine nc zl (nc ze ?_)
    refine aR ?_
    refine nc zl (nc zl (nc zbq (nc zu (nc ze ?_))))
    refine ⟨N-(a+2*bs),st bs (a+2*bs) (a+2*bs+2*bs) σ,by omega,⟨a+2*bs,σ,rfl,Nat.dvd_add hda (Nat.dvd_refl _),hle,hMg.trans (hσ.1.mono (Nat.zero_le _) hle),fun lo k1 k2 k3=>?_,?_,by rw [hst]⟩,?_⟩
    ·by_cases c:lo<a
     ·exact (hbl.mg hσ.1 (.inl ⟨hda,Nat.le_refl _⟩)) lo k1 k2 c
     ·have:lo=a:=by
       rcases Nat.lt_or_ge a lo with c2 | c2
       ·have:=a0Y hda k1 c2
        omega
       ·omega
      subst this
      rw [Nat.min_eq_left hle]
      exact hσ.2
    ·exact fun lo k1 k2 k3=>(hbr lo k1 (by omega) k3).same fun t h1 h2=>hσ.1.out t (by omega)
    ·rw [hst]
     exact a7 ⟨rfl,rfl,rfl,rfl,rfl,rfl,rfl,trivial⟩
   ·have hge:N<a+2*bs:=by have:=of_decide_eq_false hc;omega
    refine a4f (fun M2=>Mg 0 N L M2∧blk M2 (2*bs) N 0 N) (st2 bs) ?_ ?_
    ·have hfin:∀ σ,Mg a N M σ→srtB σ a N→Mg 0 N L σ∧blk σ (2*bs) N 0 N:=fun σ g1 g2 =>
      ⟨hMg.trans (g1.mono (Nat.zero_le _) (Nat.le_refl _)),fun lo k1 k2 k3=>by
       by_cases c:lo<a
       ·exact (hbl.mg g1 (.inl ⟨hda,Nat.le_refl _⟩)) lo k1 k2 c
       ·have:lo=a:=by
         rcases Nat.lt_or_ge a lo with c2 | c2
         ·have:=a0Y hda k1 c2
          omega
         ·omega
        subst this
        rw [Nat.min_eq_right (by omega)]
        exact g2⟩
     refine aS (aR ?_)
     refine nc zl (nc zl (nc zu (nc ze ?_)))
     refine aS (aR ?_)
     refine nc zl (nc zl (nc zi ?_))
     refine aC rfl (fun hc=>?_) (fun hc=>aK ?_)
     ·have hm:a+bs<N:=by have:=of_decide_eq_true hc;omega
      have p1:=hbr a hda1 (Nat.le_refl _) (by omega)
      have p2:=hbr (a+bs) (Nat.dvd_add hda1 (Nat.dvd_refl _)) (by omega) (by omega)
      rw [Nat.min_eq_left (by omega)] at p1
      rw [Nat.min_eq_right (by omega)] at p2
      have hr:=a8d cmp fc hcm hv (N-a) M a (a+bs) N (Nat.le_refl _) (by omega) (by omega) (by omega) (by omega) p1 p2
      rw [hMl] at hr
      refine s9 5 rfl rfl rfl rfl rfl rfl hr (by kernel_rfl) (fun σ=>by kernel_rfl) (fun σ=>by kernel_rfl) (fun σ=>rfl) (fun σ=>i7 (by kernel_rfl)) ?_
      refine nc zl (nc zl (nc zl (nc zl (nc zl ?_))))
      refine ⟨rfl,⟨rfl,trivial⟩,fun σ hσ=>⟨by kernel_rfl,?_⟩⟩
      exact ⟨σ,hfin σ hσ.1 hσ.2,by rw [hst2];exact a7 ⟨rfl,rfl,rfl,rfl,rfl,trivial⟩⟩
     ·have hm:N≤a+bs:=by have:=of_decide_eq_false hc;omega
      refine ⟨M,hfin M (Mg.refl _ _ _) ?_,by rw [hst2];exact a7 ⟨rfl,rfl,rfl,rfl,rfl,trivial⟩⟩
      by_cases c:a<N
      ·have p1:=hbr a hda1 (Nat.le_refl _) c
       rw [Nat.min_eq_right hm] at p1
       exact p1
      ·exact fun p q x y _ _ _ _ _=>by omega
    intro M2 hM2
    rw [hst2]
    refine aR ?_
    refine nc zl (nc zbq (nc ze ?_))
    refine ⟨2*N-bs*2,st2 (bs*2) M2,by omega,⟨bs*2,M2,rfl,by omega,.inr (by omega),hM2.1,by rw [Nat.mul_comm];exact hM2.2,by rw [hst2]⟩,by rw [hst2];exact a7 ⟨rfl,rfl,rfl,rfl,rfl,trivial⟩⟩
  ·have hge:N≤bs:=by have:=of_decide_eq_false hc;omega
   refine ⟨.inl rfl,M,⟨hMg,?_⟩,_,Wk.refl _,rfl,rfl,trivial⟩
   by_cases c:0<N
   ·have:=hbl 0 ⟨0,rfl⟩ (Nat.le_refl _) c
    rw [Nat.zero_add,Nat.min_eq_right hge] at this
    exact this
   ·exact fun p q x y _ _ _ _ _=>by omega
theorem a2b (cmp:Bd→Bd→Int) (fc:CV) (hcm:∀ W x y,N5 Tryz.prog W fc [x.cw,y.cw] (.val (.i (cmp x y)))) (hv:∀ x y,cmp x y<0↔x.v<y.v) (L:List Bd) (hl:L.length≤1000000):AFunE (Sg:=List Bd) Tryz.prog 133 (rwB L) [.sl 400000 0 L.length 3,.val fc] (b1k 0 L.length L) (fun _ => .tup []) (fun σ=>rwB σ):=by
 refine I2 Tryz.func133 Tryz.ntmps133 rfl rfl rfl rfl rfl (fun σ=>rfl) ?_
 intro w U hU
 have hr:=a7q cmp fc hcm hv L hl
 refine s9 4 rfl rfl rfl rfl rfl rfl hr (by kernel_rfl) (fun σ=>by kernel_rfl) (fun σ=>by kernel_rfl) (fun σ=>rfl) (fun σ=>i7 (by kernel_rfl)) ?_
 refine nc zl (nc zl (nc zV (nc zl ?_)))
 refine ⟨rfl,⟨rfl,trivial⟩,fun σ hσ=>⟨by kernel_rfl,?_⟩⟩
 exact ⟨.inl rfl,σ,hσ,_,Wk.refl _,rfl,rfl,trivial⟩
theorem AFunE.one {P:Program} {Sg:Type} {R:Sg→Prop} {r:Sg→AV} {post:Sg→AS} {f:FuncId} {pre:AS} {args:List AV} {σ0:Sg} (h:AFunE P f pre args R r post) (hone:∀ σ,R σ→σ=σ0):p9 P f pre args (r σ0) (post σ0):=
 ⟨h.1,fun U w hv a0 vs hU hp ha=>(h.2 U w hv a0 vs hU hp ha).mono fun e w' ⟨σ,k1,k2⟩=>by rw [hone σ k1] at k2;exact k2⟩
theorem b8u:∀ {A B:List Bd},A.Pairwise (fun x y=>x.v<y.v)→B.Pairwise (fun x y=>x.v<y.v)→(∀ x,x∈A↔x∈B)→A=B
 | [],[],_,_,_=>rfl
 | [],b::B,_,_,h=>by have:=(h b).2 List.mem_cons_self;cases this
 | a::A,[],_,_,h=>by have:=(h a).1 List.mem_cons_self;cases this
 | a::A,b::B,hA,hB,h=>by
  obtain ⟨a1,a2⟩:=List.pairwise_cons.1 hA
  obtain ⟨b1,b2⟩:=List.pairwise_cons.1 hB
  have e:a=b:=by
   rcases List.mem_cons.1 ((h a).1 List.mem_cons_self) with e | e
   ·exact e
   ·rcases List.mem_cons.1 ((h b).2 List.mem_cons_self) with e' | e'
    ·exact e'.symm
    ·have:=a1 b e'
     have:=b1 a e
     omega
  subst e
  rw [b8u a2 b2 fun x=>⟨fun hx=>?_,fun hx=>?_⟩]
  ·rcases List.mem_cons.1 ((h x).1 (List.mem_cons_of_mem _ hx)) with e | e
   ·have:=a1 x hx
    rw [e] at this
    omega
   ·exact e
  ·rcases List.mem_cons.1 ((h x).2 (List.mem_cons_of_mem _ hx)) with e | e
   ·have:=b1 x hx
    rw [e] at this
    omega
   ·exact e
theorem a7C {L σ:List Bd} (hd:(L.map Bd.v).Nodup) (h:b1k 0 L.length L σ):σ.Pairwise (fun x y=>x.v<y.v):=by
 have hp:=h.1.perm
 have hn:(σ.map Bd.v).Nodup:=(hp.map Bd.v).nodup_iff.2 hd
 rw [List.pairwise_iff_getElem]
 intro i j hi hj hij
 have h1:=h.2 i j σ[i] σ[j] (Nat.zero_le _) hij (by rw [←h.1.len];exact hj) (List.getElem?_eq_getElem hi) (List.getElem?_eq_getElem hj)
 have h2:=(List.pairwise_iff_getElem.1 hn) i j (by simpa using hi) (by simpa using hj) hij
 simp only [List.getElem_map] at h2
 omega
theorem b1M (x y:Bd):a8M x y<0↔x.v<y.v:=by
 unfold a8M I7
 split
 ·simp_all
 ·split<;>simp_all<;>omega
theorem b4r {L σ:List Bd} (hd:(L.map Bd.v).Nodup) (h:b1k 0 L.length L σ):σ=M1 L:=by
 have hs:=a6f b1M (a:=0) (b:=L.length) L (Nat.zero_le _) (Nat.le_refl _)
 rw [Nat.zero_add] at hs
 refine b8u (a7C hd h) (a7C hd hs) fun x=>?_
 rw [h.1.perm.mem_iff]
 exact hs.1.perm.mem_iff.symm
theorem b1T (W:World) (L:List Bd) (hl:L.length≤1000000) (hd:(L.map Bd.v).Nodup) (hb:bdsOk L):AFun Tryz.prog W 74 [.lst (L.map Bd.cv)] (.val (.lst ((x0 L).map Bd.cv))):=
 b2w W L hl hb (a7r L hl ((a2b a8M (.sc (.func (.func 134) #[] #[])) (fun W x y => .inr ⟨_,rfl,b5n W x y⟩) b1M L hl).one fun σ hσ=>b4r hd hσ))
theorem b9b {c:Cl} {H r:Nat→Nat} {E} (h:ClsC c H r E) (hv:Q4 c.vr):c.vr.length≤c.ns.length:=by
 have hn:(c.vr.map Prod.snd).Nodup:=by
  have h1:c.vr.Pairwise (fun a b=>a.1≠b.1):=List.pairwise_map.1 hv.1
  refine List.pairwise_map.2 (List.Pairwise.imp_of_mem (fun {a b} ha hb hab e=>hab ?_) h1)
  have e1:=(h.vrt a.1 a.2 (O1 hv.1 ha)).2
  have e2:=(h.vrt b.1 b.2 (O1 hv.1 hb)).2
  rw [e] at e1
  omega
 have:=a4d c.ns.length hn (fun x hx=>by
  obtain ⟨p,hp,rfl⟩:=List.mem_map.1 hx
  exact (h.vrt p.1 p.2 (O1 hv.1 hp)).1)
 simpa using this
def ToldU (l:List (Tm×Tm)) (r:List Bd×Bool):Prop:=(r.2=false∧r.1=[]∧∀ τ,¬ uni τ l)∨(r.2=true∧∃ s:List Bd,Mgu (b7 s) l∧(∀ b∈s,0≤b.v)∧(∀ v,0≤v→b7 s v=p8 v∨((b7 s v).rng∧(b7 s v).size≤90000000000))∧r.1=x0 s)
theorem ToldU.no {l:List (Tm×Tm)} {r:List Bd×Bool} (h:ToldU l r) (hn:∀ τ,¬ uni τ l):r=([],false):=by
 rcases h with ⟨h1,h2,_⟩ | ⟨_,s,hs,_⟩
 ·cases r;simp_all
 ·exact absurd hs.uni (hn _)
theorem ToldU.yes {l:List (Tm×Tm)} {r:List Bd×Bool} (h:ToldU l r) {u:List Bd} (hu:Mgu (b7 u) l) (hu0:∀ b∈u,0≤b.v):r=(x0 u,true)∧∀ v,0≤v→b7 u v=p8 v∨((b7 u v).rng∧(b7 u v).size≤90000000000):=by
 rcases h with ⟨_,_,h3⟩ | ⟨h1,s,hs,h0,hb,h2⟩
 ·exact absurd hu.uni (h3 _)
 ·refine ⟨?_,fun v hv=>by rw [hs.one hu hv];exact hb v hv⟩
  rw [←b3K h0 hu0 hs hu,←h2,←h1]
theorem b3o {l:List (Tm×Tm)} {r:List Bd×Bool} (h:ToldU l r) {vr vr':List (Int×Nat)} (hv:Q4 vr) (hvb:∀ p∈vr,p.1≤9223372036854775807) (hp:vr'.Perm vr) {g:Nat→Tm} {u:List Bd} (hu:u=vr'.map fun p=>(⟨p.1,g p.2⟩:Bd)) (hm:∀ s:List Bd,(∀ v,b6 s v=(n6 vr v).map g)→Mgu (b7 s) l):r=(x0 u,true)∧(u.map Bd.v).Nodup∧bdsOk u:=by
 have hf:∀ v,b6 u v=(n6 vr v).map g:=fun v=>by rw [hu];exact a9t hv.1 hp g v
 have hu0:∀ b∈u,0≤b.v:=fun b hb=>by
  rw [hu] at hb
  obtain ⟨p,hp2,rfl⟩:=List.mem_map.1 hb
  exact hv.2 p (hp.mem_iff.1 hp2)
 obtain ⟨h1,h2⟩:=h.yes (hm u hf) hu0
 refine ⟨h1,?_,fun b hb=>?_⟩
 ·rw [hu,List.map_map]
  exact (hp.map Prod.fst).nodup_iff.2 hv.1
 ·have h3:=h2 b.v (hu0 b hb)
  have e:b7 u b.v=b.t:=by
   unfold b7
   rw [hf]
   rw [hu] at hb
   obtain ⟨p,hp2,rfl⟩:=List.mem_map.1 hb
   show ((n6 vr p.1).map g).getD _=_
   rw [O1 hv.1 (hp.mem_iff.1 hp2)]
   rfl
  rw [e] at h3
  rcases h3 with h3 | h3
  ·rw [h3]
   have hb1:b.v≤9223372036854775807:=by
    rw [hu] at hb
    obtain ⟨p,hp2,rfl⟩:=List.mem_map.1 hb
    exact hvb p (hp.mem_iff.1 hp2)
   have hb0:=hu0 b hb
   exact ⟨a7Z (by omega) (by omega),by rw [Tm.size_var (by rw [r6];omega)];decide⟩
  ·exact h3
set_option maxHeartbeats 2000000 in
theorem a2u (W:World) (l:List (Tm×Tm)) (hl:∀ p∈l,(p.1.rng∧p.1.ok)∧(p.2.rng∧p.2.ok)) (hpl:a9n l≤1000) (r:List Bd×Bool) (hT:ToldU l r):AFun Tryz.prog W 49 [.lst (l.map prv)] (.tup [.lst (r.1.map Bd.cv),.b r.2]):=by
 obtain ⟨k,j,e1,f1,f2⟩:=a9N l
 have hj:=e1 k (Nat.le_refl _)
 have hja:=a5M k l j hj hl hpl
 refine f0 (rs:=[.lst (r.1.map Bd.cv),.b r.2]) Tryz.func49 Tryz.ntmps49 rfl rfl rfl rfl ?_
 intro w U hW
 refine aS (aR ?_)
 refine nc ze (nc ze ?_)
 refine aS (aR ?_)
 refine nc (z0 (z:=b4y) (G:=fun k v h=>by first | (rw [hW.1] at h;cases h) | (have h2:=hU k v h;cases h2))) ?_
 refine nc ze ?_
 refine aS (aS (aR ?_))
 refine nc zl (nc zl (nc (z0 (z:=hja) (G:=i7 (by first | rfl | kernel_rfl))) (nc zX ?_)))
 cases hj2:j.2 with
 | false =>
  rw [hT.no (f1 hj2)]
  refine aC rfl (fun hc=>?_) (fun hc=>by cases hc)
  refine aS (aR ?_)
  refine nc ze (nc ze ?_)
  exact aT (And.intro (.inr rfl) rfl)
 | true =>
  obtain ⟨cn,od,H,r',e2,g1,g2,g3,ki,hcn,n1,n2⟩:=f2 hj2
  obtain ⟨e3,e4⟩:=e2 k (Nat.le_refl _)
  obtain ⟨E',hI⟩:=a0s l hj (E:=[]) ⟨⟨id,id,Cls.nil,by show 0+d9 _ 0≤_;simp [d9]⟩,(fun x hx=>by cases hx),by show d9 _ 0≤_;simp [d9]⟩ rfl hl (by show d9 _ 0+_≤_;simpa [d9] using hpl) hj2
  have hF:=hI.fitU
  have hu0:usB j.1.ns 0:=fun m=>by rw [b0A hj];exact ⟨Int.le_refl _,Int.le_refl _⟩
  obtain ⟨hF1,hu1,hh1,hhl⟩:=L6 k 0 e3 hF (by simpa using hu0) (by omega) (fun h hm=>by cases hm) (Nat.le_refl _)
  have hF2:=a8X k 0 e4 hF1 (fun h hm=>hh1 h (List.mem_filter.1 hm).1) (by decide) hu1
  have hnsl:od.1.ns.length≤1000:=Nat.le_trans (C5 _) hF2.big
  have hod:∀ x∈od.2,x<od.1.ns.length:=fun x hx=>(ki.hd x hx).1
  have hol:od.2.length≤1000:=Nat.le_trans (a4d _ ki.nd hod) hnsl
  have hor:=b4U k j.1 cn od e3 e4 hF hu0 hol
  have hvr:Q4 od.1.vr:=b5x k 0 e4 (a3D k 0 e3 (b5I hj ⟨List.nodup_nil,fun p hp=>by cases hp⟩))
  have hvl:=b9b g1 hvr
  have hvb:∀ p∈od.1.vr,p.1≤9223372036854775807:=fun p hp=>by
   obtain ⟨v1,v2⟩:=g1.vrt p.1 p.2 (O1 hvr.1 hp)
   have v3:=((Tm.rng_iff _).1 ((X1 _).1 hF2.trm p.2 v1).1).1
   omega
  refine aC rfl (fun hc=>by cases hc) (fun hc=>aK ?_)
  by_cases h:od.2.length=cn.2.length
  ·have h9:decide ((od.2.length:Int)=cn.2.length)=true:=by rw [h];simp
   rw [h9] at hor
   obtain ⟨k1,tm,e5,c1,c5,c2,hm⟩:=n2 h
   have hFq:=(TI.all (t:=(od.1,List.replicate od.1.ns.length tm0)) (N:=od.1.ns.length) ⟨hF2,by simp,Nat.le_refl _⟩ (fun n hn=>hod n (List.mem_reverse.1 hn)) (e5 k1 (Nat.le_refl _))).1.fit
   have hbi:=b3a k1 od.1 od.2 tm (e5 k1 (Nat.le_refl _)) hF2 c2 hod hol c1 hFq (by rw [c5];exact hvr) (by rw [c5];omega)
   refine aS (aR ?_)
   refine nc zl (nc (z0 (z:=hor) (G:=i7 (by first | rfl | kernel_rfl))) (nc zl (nc zx (nc zx (nc ze (nc ze ?_))))))
   refine aS (aS (aR ?_))
   refine nc zl (nc zX ?_)
   refine aC rfl (fun hc=>by cases hc) (fun hc=>aK ?_)
   refine aS (s9 2 rfl rfl rfl rfl rfl rfl hbi (by kernel_rfl) (fun σ=>by kernel_rfl) (fun σ=>by kernel_rfl) (fun σ=>rfl) (fun σ=>i7 (by kernel_rfl)) ?_)
   refine nc zl (nc zl ?_)
   refine ⟨rfl,⟨rfl,rfl,rfl,rfl,rfl,rfl,rfl,trivial⟩,fun σ hσ=>⟨by kernel_rfl,?_⟩⟩
   obtain ⟨vr',hp,hσ1⟩:=hσ
   rw [c5] at hp
   obtain ⟨t1,t2,t3⟩:=b3o hT hvr hvb hp hσ1 hm
   have hsl:σ.1.length≤1000000:=by rw [hσ1,List.length_map,hp.length_eq];omega
   refine nc (zw (z:=b1T _ σ.1 hsl t2 t3)) (nc ze (nc ze ?_))
   rw [t1]
   exact aT (And.intro (.inr rfl) rfl)
  ·have h9:decide ((od.2.length:Int)=cn.2.length)=false:=by
    rw [decide_eq_false_iff_not]
    omega
   rw [h9] at hor
   rw [hT.no (n1 h)]
   refine aS (aR ?_)
   refine nc zl (nc (z0 (z:=hor) (G:=i7 (by first | rfl | kernel_rfl))) (nc zl (nc zx (nc zx (nc ze (nc ze ?_))))))
   refine aS (aS (aR ?_))
   refine nc zl (nc zX ?_)
   refine aC rfl (fun hc=>?_) (fun hc=>by cases hc)
   refine aS (aR ?_)
   refine nc ze (nc ze ?_)
   exact aT (And.intro (.inr rfl) rfl)
set_option maxHeartbeats 2000000 in
theorem b0b (W:World) (a b:Tm) (ha:a.rng) (hao:a.ok) (hb:b.rng) (hbo:b.ok) (hs:a.size+b.size≤1000) (r:List Bd×Bool) (hT:ToldU [(a,b)] r):AFun Tryz.prog W 27 [a.cw,b.cw] (.tup [.lst (r.1.map Bd.cv),.b r.2]):=by
 have hl:∀ p∈[(a,b)],(p.1.rng∧p.1.ok)∧(p.2.rng∧p.2.ok):=fun p hp=>by
  rw [List.mem_singleton] at hp
  rw [hp]
  exact ⟨⟨ha,hao⟩,hb,hbo⟩
 have hpl:a9n [(a,b)]≤1000:=by unfold a9n;simpa using hs
 have hpa:=a2u W [(a,b)] hl hpl r hT
 refine f0 (rs:=[.lst (r.1.map Bd.cv),.b r.2]) Tryz.func27 Tryz.ntmps27 rfl rfl rfl rfl ?_
 intro w U hW
 refine aS (aR ?_)
 refine nc zd (nc zd (nc ze (nc ze ?_)))
 refine aS (aR ?_)
 refine nc zy (nc zy (nc (z8 [2,2]) (nc zD (nc (zw (z:=a2u _ [(a,b)] hl hpl r hT)) (nc zx (nc zx (nc ze (nc ze ?_))))))))
 exact aT (And.intro (.inr rfl) rfl)
end Go.Proofs.YtglmoficcjphaaaGreat
namespace Go.Proofs.YtglmoficcjphaaaGreat
set_option linter.unusedVariables false
set_option linter.unusedSimpArgs false
theorem a1y:∀ E:Nat,2 ^ E≤3 ^ E
 | 0=>Nat.le_refl _
 | E+1=>by
  have:=a1y E
  rw [Nat.pow_succ,Nat.pow_succ];omega
theorem a1F:∀ k:Nat,k*2 ^ k≤3 ^ k
 | 0=>by decide
 | 1=>by decide
 | 2=>by decide
 | k+3=>by
  have h:=a1F (k+2)
  have e1:(k+3)*2 ^ (k+3)=(2*(k+3))*2 ^ (k+2):=by
   rw [Nat.pow_succ 2 (k+2),Nat.mul_comm (2 ^ (k+2)) 2,←Nat.mul_assoc,Nat.mul_comm (k+3) 2]
  have e2:3 ^ (k+3)=3*3 ^ (k+2):=by rw [Nat.pow_succ 3 (k+2),Nat.mul_comm]
  rw [e1,e2]
  have h2:(2*(k+3))*2 ^ (k+2)≤(3*(k+2))*2 ^ (k+2):=Nat.mul_le_mul_right _ (by omega)
  rw [Nat.mul_assoc 3] at h2
  omega
def Big (E s:Nat):Prop:=2 ^ E*(s+1)≤2*3 ^ E
theorem Big.succ {E s:Nat} (h:Big E s):Big (E+1) s:=by
 unfold Big at *
 rw [Nat.pow_succ,Nat.pow_succ,Nat.mul_assoc,Nat.mul_left_comm]
 omega
theorem Big.up {E F s:Nat} (h:Big E s) (hf:E≤F):Big F s:=by
 induction hf with
 | refl=>exact h
 | step _ ih=>exact ih.succ
theorem Big.sum {E:Nat}:∀ (l:List Nat),(∀ s∈l,Big E s)→2 ^ E*(l.sum+l.length)≤2*l.length*3 ^ E
 | [],_=>by simp
 | s::l,h=>by
  have h1:2 ^ E*(s+1)≤2*3 ^ E:=h s (by simp)
  have h2:=Big.sum l fun x hx=>h x (List.mem_cons_of_mem _ hx)
  rw [List.sum_cons,List.length_cons,show s+l.sum+(l.length+1)=(s+1)+(l.sum+l.length) by omega,Nat.mul_add,show 2*(l.length+1)*3 ^ E=2*3 ^ E+2*l.length*3 ^ E by rw [Nat.mul_add,Nat.add_mul,Nat.add_comm]]
  omega
theorem Big.node {E:Nat} (l:List Nat) (h:∀ s∈l,Big E s):Big (E+l.length) (1+l.sum):=by
 have h1:=Big.sum l h
 have h23:=a1y E
 have hk:=a1F l.length
 unfold Big
 rw [Nat.pow_add,Nat.pow_add]
 obtain ⟨A,hA⟩:∃ A,A=2 ^ E:=⟨_,rfl⟩
 obtain ⟨B,hB⟩:∃ B,B=3 ^ E:=⟨_,rfl⟩
 rw [←hA,←hB] at h1 h23 ⊢
 match l,h1,hk with
 | [],h1,hk=>simp;omega
 | [s],h1,hk =>
  simp only [List.sum_cons,List.sum_nil,List.length_cons,List.length_nil,Nat.add_zero,Nat.zero_add,Nat.pow_one,Nat.mul_one] at h1 ⊢
  rw [Nat.mul_comm A 2,Nat.mul_assoc,show A*(1+s+1)=A*(s+1)+A by rw [show 1+s+1=(s+1)+1 by omega,Nat.mul_add,Nat.mul_one]]
  omega
 | s::t::l,h1,hk =>
  obtain ⟨m,hm⟩:∃ m,m=s::t::l:=⟨_,rfl⟩
  have hlen:2≤m.length:=by rw [hm];simp
  rw [←hm] at h1 hk ⊢
  obtain ⟨P,hP⟩:∃ P,P=2 ^ m.length:=⟨_,rfl⟩
  obtain ⟨Q,hQ⟩:∃ Q,Q=3 ^ m.length:=⟨_,rfl⟩
  rw [←hP,←hQ] at hk
  rw [←hP,←hQ]
  have h2:A*(1+m.sum+1)≤A*(m.sum+m.length):=Nat.mul_le_mul_left _ (by omega)
  have h3:A*(1+m.sum+1)≤2*m.length*B:=Nat.le_trans h2 h1
  have h4:P*(A*(1+m.sum+1))≤P*(2*m.length*B):=Nat.mul_le_mul_left _ h3
  have h5:P*(2*m.length*B)=2*(m.length*P*B):=by
   rw [Nat.mul_assoc 2,Nat.mul_left_comm P 2,←Nat.mul_assoc P,Nat.mul_comm P m.length]
  have h6:m.length*P*B≤Q*B:=Nat.mul_le_mul_right _ hk
  rw [show A*P*(1+m.sum+1)=P*(A*(1+m.sum+1)) by rw [Nat.mul_comm A P,Nat.mul_assoc],Nat.mul_comm B Q]
  omega
def c2C (k v:Int):Tm:=p8 (if v<k then v else v-k)
theorem b2O {s:List Bd} {E:List (Tm×Tm)} (h:Mgu (b7 s) E) {t:Tm} {u:Int} (hu:u∈(b5 (b7 s) t).vs):b6 (x0 s) u=none:=by
 have hu0:=r9 _ u hu
 rw [b3s s hu0,h.rep_vs hu,if_pos]
 show (decide ((p8 u).f<0)&&decide (-1-(p8 u).f=u))=true
 rw [r6,decide_eq_true (by omega),decide_eq_true (by omega)];rfl
def b7O (S:List Tm):Prop:=∀ s∈S,∀ p∈s.ps,p∈S
def Hits (S:List Tm) (σ:Int→Tm) (t:Tm):Prop:=∃ s∈S,b5 σ t=b5 σ s
def Orig (S:List Tm) (σ:Int→Tm):Prop:=∀ v,0≤v→¬ (σ v).f<0→∃ s∈S,¬ s.f<0∧b5 σ s=σ v
theorem Hits.sym {S:List Tm} {σ:Int→Tm} {t:Tm} (h:Hits S σ t) (ho:Orig S σ) (hb:∀ v,0≤v→(σ v).strip=σ v) (hf:¬ (b5 σ t).f<0):∃ s∈S,¬ s.f<0∧b5 σ t=b5 σ s:=by
 obtain ⟨s,hs,e⟩:=h
 by_cases hs0:s.f<0
 ·have h0:0 ≤ -1-s.f:=by omega
  have e2:b5 σ s=σ (-1-s.f):=by rw [i9 hs0,hb _ h0]
  rw [e,e2] at hf
  obtain ⟨q,hq,hq0,e3⟩:=ho _ h0 hf
  exact ⟨q,hq,hq0,by rw [e,e2,e3]⟩
 ·exact ⟨s,hs,hs0,e⟩
theorem a0a {S:List Tm} {f g:Tm→Nat} (h:∀ x∈S,f x≤g x):(S.map f).sum≤(S.map g).sum:=by
 induction S with
 | nil=>exact Nat.le_refl _
 | cons a S ih =>
  rw [List.map_cons,List.map_cons,List.sum_cons,List.sum_cons]
  have h1:=h a (by simp)
  have h2:=ih fun x hx=>h x (List.mem_cons_of_mem _ hx)
  omega
theorem a7f {S:List Tm} {f g:Tm→Nat} {c:Nat} {s:Tm} (hs:s∈S) (hc:f s+c≤g s) (h:∀ x∈S,f x≤g x):(S.map f).sum+c≤(S.map g).sum:=by
 induction S with
 | nil=>cases hs
 | cons a S ih =>
  rw [List.map_cons,List.map_cons,List.sum_cons,List.sum_cons]
  have h1:=h a (by simp)
  rcases List.mem_cons.1 hs with rfl | hs
  ·have:=a0a (S:=S) fun x hx=>h x (List.mem_cons_of_mem _ hx)
   omega
  ·have:=ih hs fun x hx=>h x (List.mem_cons_of_mem _ hx)
   omega
def arN (S:List Tm) (σ:Int→Tm) (n:Nat):Nat:=(S.map fun s=>if (b5 σ s).size≤n then s.ps.length else 0).sum
theorem b4g {S:List Tm} {σ:Int→Tm} {n m:Nat} (h:n≤m):arN S σ n≤arN S σ m:=a0a fun x _=>by
 split
 ·rw [if_pos (by omega)];exact Nat.le_refl _
 ·exact Nat.zero_le _
theorem Big.one (E:Nat):Big E 1:=by
 unfold Big
 have:=a1y E
 omega
theorem b6I {S:List Tm} {σ:Int→Tm} (hc:b7O S) (ho:Orig S σ) (hb:∀ v,0≤v→(σ v).strip=σ v):∀ (n:Nat),∀ s∈S,¬ s.f<0→(b5 σ s).size≤n→Big (arN S σ n) (b5 σ s).size:=by
 intro n
 induction n with
 | zero=>intro s _ _ h;have:=Tm.size_pos (b5 σ s);omega
 | succ n ih =>
  intro s hs hf hn
  by_cases hle:(b5 σ s).size≤n
  ·exact (ih s hs hf hle).up (b4g (by omega))
  have hsz:(b5 σ s).size=n+1:=by omega
  have hps:s.ps=s.l:=Tm.ps_of_sym (by omega)
  have he:b5 σ s=⟨s.f,s.l.map (b5 σ)⟩:=c9 hf
  have h1:(b5 σ s).size=1+((s.l.map (b5 σ)).map Tm.size).sum:=by rw [he];exact Tm.size_sym (t:=⟨s.f,s.l.map (b5 σ)⟩) hf
  have hparts:∀ x∈(s.l.map (b5 σ)).map Tm.size,Big (arN S σ n) x:=by
   intro x hx
   rw [List.map_map] at hx
   obtain ⟨p,hp,rfl⟩:=List.mem_map.1 hx
   show Big _ (b5 σ p).size
   have hpS:p∈S:=hc s hs p (by rw [hps];exact hp)
   have hlt:(b5 σ p).size<(b5 σ s).size:=Tm.size_part (by rw [he,Tm.ps_of_sym (by show 0≤s.f;omega)];exact List.mem_map.2 ⟨p,hp,rfl⟩)
   by_cases hv:(b5 σ p).f<0
   ·rw [Tm.size_var hv];exact Big.one _
   ·obtain ⟨q,hq,hq0,e⟩:=Hits.sym ⟨p,hpS,rfl⟩ ho hb hv
    rw [e] at hlt ⊢
    exact ih q hq hq0 (by omega)
  have h2:=Big.node _ hparts
  rw [←h1] at h2
  refine h2.up ?_
  rw [List.length_map,List.length_map]
  refine a7f hs ?_ fun x _=>?_
  ·rw [if_neg (by omega),if_pos (by omega),hps];omega
  ·split
   ·rw [if_pos (by omega)];exact Nat.le_refl _
   ·exact Nat.zero_le _
def arA (S:List Tm):Nat:=(S.map fun s=>s.ps.length).sum
theorem a0O {S:List Tm} {σ:Int→Tm} (hc:b7O S) (ho:Orig S σ) (hb:∀ v,0≤v→(σ v).strip=σ v) {t:Tm} (h:Hits S σ t):Big (arA S) (b5 σ t).size:=by
 by_cases hv:(b5 σ t).f<0
 ·rw [Tm.size_var hv];exact Big.one _
 ·obtain ⟨q,hq,hq0,e⟩:=h.sym ho hb hv
  rw [e]
  refine (b6I hc ho hb _ q hq hq0 (Nat.le_refl _)).up (a0a fun x _=>?_)
  split
  ·exact Nat.le_refl _
  ·exact Nat.zero_le _
theorem a2M (S T:List Tm):arA (S++T)=arA S+arA T:=by unfold arA;rw [List.map_append,List.sum_append]
theorem a0y (t:Tm):arA t.flat+1=t.size:=by
 induction t using Tm.indp with
 | h t ih =>
  have:∀ l:List Tm,(∀ s∈l,arA s.flat+1=s.size)→arA (l.flatMap Tm.flat)+l.length=(l.flatMap Tm.flat).length:=by
   intro l
   induction l with
   | nil=>intro _;rfl
   | cons a l ih2 =>
    intro h
    have h1:=h a (by simp)
    have h2:=ih2 fun s hs=>h s (List.mem_cons_of_mem _ hs)
    unfold Tm.size at h1
    rw [List.flatMap_cons,a2M,List.length_append,List.length_cons]
    omega
  have h3:=this t.ps ih
  rw [Tm.size_eq,Tm.flat_eq]
  show ((t::t.ps.flatMap Tm.flat).map fun s:Tm=>s.ps.length).sum+1=_
  rw [List.map_cons,List.sum_cons]
  have h4:arA (t.ps.flatMap Tm.flat)=((t.ps.flatMap Tm.flat).map fun s:Tm=>s.ps.length).sum:=rfl
  omega
theorem a5s (t:Tm):b7O t.flat:=by
 induction t using Tm.indp with
 | h t ih =>
  intro s hs p hp
  rw [Tm.flat_eq] at hs ⊢
  rcases List.mem_cons.1 hs with rfl | hs
  ·refine List.mem_cons_of_mem _ (List.mem_flatMap.2 ⟨p,hp,?_⟩)
   rw [Tm.flat_eq];simp
  ·obtain ⟨q,hq,hs⟩:=List.mem_flatMap.1 hs
   exact List.mem_cons_of_mem _ (List.mem_flatMap.2 ⟨q,hq,ih q hq s hs p hp⟩)
def I9 (l:List (Tm×Tm)):List Tm:=l.flatMap fun p=>p.1.flat++p.2.flat
theorem X4 (l:List (Tm×Tm)):b7O (I9 l):=by
 intro s hs p hp
 obtain ⟨q,hq,hs⟩:=List.mem_flatMap.1 hs
 refine List.mem_flatMap.2 ⟨q,hq,?_⟩
 rcases List.mem_append.1 hs with hs | hs
 ·exact List.mem_append_left _ (a5s _ s hs p hp)
 ·exact List.mem_append_right _ (a5s _ s hs p hp)
theorem a7Q {l:List (Tm×Tm)} {p:Tm×Tm} (h:p∈l):p.1∈I9 l∧p.2∈I9 l:=by
 refine ⟨List.mem_flatMap.2 ⟨p,h,List.mem_append_left _ ?_⟩,List.mem_flatMap.2 ⟨p,h,List.mem_append_right _ ?_⟩⟩<;>(rw [Tm.flat_eq];simp)
theorem a5Y:∀ l:List (Tm×Tm),(∀ p∈l,p.1.size≤16∧p.2.size≤16)→arA (I9 l)≤30*l.length
 | [],_=>Nat.le_refl _
 | p::l,h=>by
  have h1:=h p (by simp)
  have h2:=a5Y l fun q hq=>h q (List.mem_cons_of_mem _ hq)
  have e:I9 (p::l)=(p.1.flat++p.2.flat)++I9 l:=List.flatMap_cons
  have h3:=a0y p.1
  have h4:=a0y p.2
  rw [e,a2M,a2M,List.length_cons]
  omega
theorem b0z {s E:Nat} (hE:E≤60) (h:Big E s):s≤90000000000:=by
 have h:=h.up hE
 unfold Big at h
 have e1:(2:Nat) ^ 60=1152921504606846976:=by decide
 have e2:(3:Nat) ^ 60=42391158275216203514294433201:=by decide
 rw [e1,e2] at h
 omega
structure a6A (V:List Int) (S:List Tm) (K:Nat) (s:List Bd) (E:List (Tm×Tm)):Prop where
 mgu:Mgu (b7 s) E
 bare:J6 s
 inV:inV V s
 orig:Orig S (b7 s)
 len:s.length+frN V s≤K
 num:∀ b∈s,b.v∈V
theorem b7l {V:List Int} (hV:∀ v∈V,0≤v) {n:Nat} {s:List Bd} {a b:Tm} {E:List (Tm×Tm)} {r} (e:rU n s a b=some r) (hm:Mgu (b7 s) E) (hb:J6 s) (hi:inV V s) (ha:∀ u∈a.vs,u∈V) (hbv:∀ u∈b.vs,u∈V):RSpec V E [(a,b)] s r:=by
 obtain ⟨m,r',e',h⟩:=b0K hV _ _ s a b E rfl rfl hm hb hi ha hbv
 have h1:=a6T (Nat.le_max_left n m) _ _ _ _ e
 have h2:=a6T (Nat.le_max_right n m) _ _ _ _ e'
 rw [h1] at h2
 cases h2
 exact h
theorem b7s (s:List Bd) (x:Int) (t:Tm):(a4n s x t).length=s.length+1:=by unfold a4n;simp
theorem Orig.bnd {S:List Tm} {s:List Bd} (ho:Orig S (b7 s)) (hb:J6 s) {x:Int} {b:Tm} (hin:x∉(b5 (b7 s) b).vs) (hh:Hits S (b7 s) b):Orig S (b7 (a4n s x (b5 (b7 s) b))):=by
 have hB:(b5 (b7 s) b).strip=b5 (b7 s) b:=y6 _ _
 have hr:∀ t,b5 (b7 (a4n s x (b5 (b7 s) b))) t=b5 (T1 x (b5 (b7 s) b)) (b5 (b7 s) t):=fun t=>by
  rw [a2S]
  exact W6 fun v hv=>a1a hB (r9 _ v hv)
 intro v hv hf
 rw [a1a hB hv] at hf ⊢
 by_cases h1:(b7 s v).f<0
 ·obtain ⟨w,hw⟩:∃ w,w = -1-(b7 s v).f:=⟨_,rfl⟩
  have e1:b5 (T1 x (b5 (b7 s) b)) (b7 s v)=(T1 x (b5 (b7 s) b) w).strip:=by rw [i9 h1,hw]
  rw [e1] at hf ⊢
  unfold T1 at hf ⊢
  by_cases hx:w=x
  ·rw [if_pos hx,hB] at hf ⊢
   obtain ⟨q,hq,hq0,e⟩:=hh.sym ho (fun v hv=>L2 hb v) hf
   refine ⟨q,hq,hq0,?_⟩
   rw [hr,←e,b0I hin,hB]
  ·rw [if_neg hx,y8,r6] at hf
   omega
 ·obtain ⟨q,hq,hq0,e⟩:=ho v hv h1
  exact ⟨q,hq,hq0,by rw [hr,e]⟩
structure Way (V:List Int) (S:List Tm) (s:List Bd) (a:Tm):Prop where
 vs:∀ u∈a.vs,u∈V
 hits:Hits S (b7 s) a
theorem b7m {V:List Int} {s:List Bd} {x:Int} {t:Tm} (h:∀ b∈s,b.v∈V) (hx:x∈V):∀ b∈a4n s x t,b.v∈V:=fun b hb=>by
 rcases List.mem_append.1 hb with hb | hb
 ·obtain ⟨c,hc,rfl⟩:=List.mem_map.1 hb;exact h c hc
 ·rw [List.mem_singleton] at hb;rw [hb];exact hx
theorem b4N {V:List Int} (hV:∀ v∈V,0≤v) {S:List Tm} {K n:Nat} {s:List Bd} {E:List (Tm×Tm)} (h:a6A V S K s E) {a b a1 b1:Tm} (ha1:a1=b5 (b7 s) a) (hb1:b1=b5 (b7 s) b) (ha:Way V S s a) (hb:Way V S s b) (hf:a1.f<0) {s':List Bd} (hr:a1D (rU n) s a1 b1=some (some s')):Orig S (b7 s')∧s'.length=s.length+1∧∀ b∈s',b.v∈V:=by
 unfold a1D at hr
 rw [if_pos hf] at hr
 split at hr
 ·cases hr
 ·rename_i hin
  cases hr
  have hx : -1-a1.f∈V:=S4 h.inV ha.vs _ (by rw [←ha1,Tm.vs_var hf];simp)
  rw [hb1] at hin ⊢
  exact ⟨h.orig.bnd h.bare hin hb.hits,b7s _ _ _,b7m h.num hx⟩
end Go.Proofs.YtglmoficcjphaaaGreat
namespace Go.Proofs.YtglmoficcjphaaaGreat
open Go.RowKit
set_option linter.unusedVariables false
set_option linter.unusedSimpArgs false
set_option maxRecDepth 100000
def c0O:List Bd→List Bd→Bool
 | [],[]=>true
 | a::l,b::m=>decide (a.v=b.v)&&(v8 a.t b.t&&c0O l m)
 | _,_=>false
def b6n (v:Int):List Bd→Nat
 | []=>0
 | b::l=>if b.v<v then b6n v l+1 else 0
def c1X (b:Bd) (l:List Bd):List Bd:=l.take (b6n b.v l)++[b]++l.drop (b6n b.v l)
def b9f (L:List Bd) (i:Nat) (v:Int):Bool:=(L.take i).any fun c=>decide (c.v=v)
def b9M (L:List Bd):Nat→List Bd
 | 0=>[]
 | i+1=>match L[i]? with
  | none=>b9M L i
  | some b=>if b9f L i b.v||R5 b then b9M L i else c1X b (b9M L i)
theorem a3X {l:List Bd} {t:Tm} (h:t.rng) (hi:∀ b∈l,b.t.rng):(l7 l t).rng:=by
 induction t using Tm.ind with
 | h f k ih =>
  obtain ⟨h1,h2⟩:=(Tm.rng_iff _).1 h
  simp only at h1 h2
  by_cases hf:f<0
  ·rw [a3R hf]
   unfold b7
   cases hb:b6 l (-1-(Tm.mk f k).f) with
   | none =>
    show (p8 (-1-f)).rng
    exact a7Z (by omega) (by omega)
   | some t =>
    obtain ⟨b,hbm,e,_⟩:=H9 hb
    show t.rng
    rw [←e];exact hi b hbm
  ·rw [a4b hf]
   refine (Tm.rng_iff _).2 ⟨h1,fun s hs=>?_⟩
   obtain ⟨u,hu,rfl⟩:=List.mem_map.1 hs
   exact ih u hu (h2 u hu)
def b3z (g:List Bd→Tm→Tm→Option (Option (List Bd))) (C:List Bd→Tm→Tm→Prop):List (Tm×Tm)→List Bd→Prop
 | [],_=>True
 | p::ps,s=>C s p.1 p.2∧∀ s',g s p.1 p.2=some (some s')→b3z g C ps s'
def Cnd:Nat→List Bd→Tm→Tm→Prop
 | 0,_,_,_=>True
 | n+1,s,a,b=>(s.length≤100000∧∀ x∈s,x.t.rng∧x.t.ok)∧(a.rng∧a.ok∧b.rng∧b.ok)∧((l7 s a).size≤90000000000∧(l7 s b).size≤90000000000)∧∀ a2 b2:Tm,a2=(if swC (l7 s a) (l7 s b) then l7 s b else l7 s a)→b2=(if swC (l7 s a) (l7 s b) then l7 s a else l7 s b)→¬ a2.f<0→a2.f=b2.f→a2.l.length=b2.l.length→b3z (rU n) (Cnd n) (a2.l.zip b2.l) s
end Go.Proofs.YtglmoficcjphaaaGreat
namespace Go.Proofs.YtglmoficcjphaaaGreat
open Go.RowKit
set_option linter.unusedVariables false
set_option linter.unusedSimpArgs false
def S7 (s:List Bd):Prop:=∀ x∈s,x.t.rng∧x.t.ok
theorem b8P {s:List Bd} {x:Int} {t:Tm} (h:S7 s) (ht:t.rng∧t.ok):S7 (a4n s x t):=fun y hy=>by
 have h1:S7 [⟨x,t⟩]:=fun b hb=>by rw [List.mem_singleton] at hb;rw [hb];exact ht
 rcases List.mem_append.1 hy with hy | hy
 ·obtain ⟨c,hc,rfl⟩:=List.mem_map.1 hy
  exact ⟨a3X (h c hc).1 fun b hb=>(h1 b hb).1,a6v (h c hc).2 fun b hb=>(h1 b hb).2⟩
 ·exact h1 y hy
theorem b8T {V:List Int} {K:Nat} {s s':List Bd} (h:s.length+frN V s≤K) (hl:s'.length=s.length+1) (hd:s'=s∨frN V s'<frN V s):s'.length+frN V s'≤K:=by
 rcases hd with rfl | hd
 ·omega
 ·omega
section
variable {V:List Int} {S:List Tm} {K:Nat}
theorem a2Z (hV:∀ v∈V,0≤v) {n:Nat} {E:List (Tm×Tm)} (ih:∀ (s:List Bd) (a b:Tm) (E:List (Tm×Tm)),a6A V S K s E→S7 s→Way V S s a→Way V S s b→(a.rng∧a.ok)→(b.rng∧b.ok)→Cnd n s a b∧∀ s',rU n s a b=some (some s')→a6A V S K s' (E++[(a,b)])∧S7 s'):∀ (ps:List (Tm×Tm)) (s:List Bd) (F:List (Tm×Tm)),a6A V S K s (E++F)→S7 s→(∀ p∈ps,(∀ (s1:List Bd) F1,Mgu (b7 s1) (E++F1)→Way V S s1 p.1∧Way V S s1 p.2)∧(p.1.rng∧p.1.ok)∧(p.2.rng∧p.2.ok))→b3z (rU n) (Cnd n) ps s∧∀ s',rUs (rU n) ps s=some (some s')→a6A V S K s' (E++F++ps)∧S7 s'
 | [],s,F,hm,hr,_=>⟨trivial,fun s' e=>by cases e;rw [List.append_nil];exact ⟨hm,hr⟩⟩
 | p::ps,s,F,hm,hr,hp=>by
  obtain ⟨h1,h2,h3⟩:=hp p (by simp)
  obtain ⟨w1,w2⟩:=h1 s F hm.mgu
  obtain ⟨c1,c2⟩:=ih s p.1 p.2 (E++F) hm hr w1 w2 h2 h3
  have next:∀ s1,rU n s p.1 p.2=some (some s1)→b3z (rU n) (Cnd n) ps s1∧∀ s',rUs (rU n) ps s1=some (some s')→a6A V S K s' (E++F++p::ps)∧S7 s':=fun s1 e=>by
   obtain ⟨m1,m2⟩:=c2 s1 e
   have e3:E++F++[(p.1,p.2)]=E++(F++[p]):=by rw [List.append_assoc]
   rw [e3] at m1
   have:=a2Z hV ih ps s1 (F++[p]) m1 m2 fun q hq=>hp q (List.mem_cons_of_mem _ hq)
   rw [show E++(F++[p])++ps=E++F++p::ps by simp] at this
   exact this
  refine ⟨⟨c1,fun s1 e=>(next s1 e).1⟩,fun s' e=>?_⟩
  rw [rUs] at e
  cases hg:rU n s p.1 p.2 with
  | none=>rw [hg] at e;cases e
  | some q =>
   rw [hg] at e
   cases q with
   | none=>cases e
   | some s1=>exact (next s1 hg).2 s' e
theorem b5V (hV:∀ v∈V,0≤v) (hc:b7O S) (hK:K≤100000) (hE:arA S≤60):∀ (n:Nat) (s:List Bd) (a b:Tm) (E:List (Tm×Tm)),a6A V S K s E→S7 s→Way V S s a→Way V S s b→(a.rng∧a.ok)→(b.rng∧b.ok)→Cnd n s a b∧∀ s',rU n s a b=some (some s')→a6A V S K s' (E++[(a,b)])∧S7 s':=by
 intro n
 induction n with
 | zero=>intro s a b E _ _ _ _ _ _;exact ⟨trivial,fun s' e=>by cases e⟩
 | succ n ih =>
  intro s a b E hm hr wa wb ha hb
  have ea:l7 s a=b5 (b7 s) a:=n5 hm.bare a
  have eb:l7 s b=b5 (b7 s) b:=n5 hm.bare b
  have hbare:∀ v,0≤v→(b7 s v).strip=b7 s v:=fun v _=>L2 hm.bare v
  have za:(l7 s a).size≤90000000000:=by rw [ea];exact b0z hE (a0O hc hm.orig hbare wa.hits)
  have zb:(l7 s b).size≤90000000000:=by rw [eb];exact b0z hE (a0O hc hm.orig hbare wb.hits)
  have ra:(l7 s a).rng∧(l7 s a).ok:=⟨a3X ha.1 fun x hx=>(hr x hx).1,a6v ha.2 fun x hx=>(hr x hx).2⟩
  have rb:(l7 s b).rng∧(l7 s b).ok:=⟨a3X hb.1 fun x hx=>(hr x hx).1,a6v hb.2 fun x hx=>(hr x hx).2⟩
  have part:∀ c:Tm,Way V S s c→(l7 s c).rng∧(l7 s c).ok→¬ (l7 s c).f<0→∀ p∈(l7 s c).l,(∀ (s1:List Bd) F1,Mgu (b7 s1) (E++F1)→Way V S s1 p)∧p.rng∧p.ok:=by
   intro c wc hcr hcf p hp
   have ec:l7 s c=b5 (b7 s) c:=n5 hm.bare c
   refine ⟨fun s1 F1 h1=>?_,((Tm.rng_iff _).1 hcr.1).2 p hp,((Tm.ok_iff _).1 hcr.2).2 p hp⟩
   have hu:uni (b7 s1) E:=(B4.1 h1.uni).1
   refine ⟨fun u hu=>S4 hm.inV wc.vs u ?_,?_⟩
   ·rw [←ec,Tm.vs_sym hcf];exact List.mem_flatMap.2 ⟨p,hp,hu⟩
   ·rw [ec] at hcf hp
    obtain ⟨q,hq,hq0,e⟩:=wc.hits.sym hm.orig hbare hcf
    rw [e,c9 hq0] at hp
    obtain ⟨q2,hq2,rfl⟩:=List.mem_map.1 hp
    exact ⟨q2,hc q hq q2 (by rw [Tm.ps_of_sym (by omega)];exact hq2),hm.mgu.rep hu q2⟩
  have list:∀ c d:Tm,Way V S s c→Way V S s d→(l7 s c).rng∧(l7 s c).ok→(l7 s d).rng∧(l7 s d).ok→¬ (l7 s c).f<0→(l7 s c).f=(l7 s d).f→b3z (rU n) (Cnd n) ((l7 s c).l.zip (l7 s d).l) s∧∀ s',rUs (rU n) ((l7 s c).l.zip (l7 s d).l) s=some (some s')→a6A V S K s' (E++[]++(l7 s c).l.zip (l7 s d).l)∧S7 s':=by
   intro c d wc wd hcr hdr hcf hfe
   refine a2Z hV ih _ s [] (by rw [List.append_nil];exact hm) hr fun p hp=>?_
   obtain ⟨p1,p2⟩:=List.of_mem_zip (a:=p.1) (b:=p.2) hp
   obtain ⟨a1,a2⟩:=part c wc hcr hcf _ p1
   obtain ⟨b1,b2⟩:=part d wd hdr (by rw [←hfe];exact hcf) _ p2
   exact ⟨fun s1 F1 h1=>⟨a1 s1 F1 h1,b1 s1 F1 h1⟩,a2,b2⟩
  refine ⟨⟨⟨by have:=hm.len;omega,hr⟩,⟨ha.1,ha.2,hb.1,hb.2⟩,⟨za,zb⟩,?_⟩,fun s' e=>?_⟩
  ·intro a2 b2 e1 e2 hf hff hll
   split at e1
   ·rename_i hs
    rw [if_pos hs] at e2
    subst e1 e2
    exact (list b a wb wa rb ra hf hff).1
   ·rename_i hs
    rw [if_neg hs] at e2
    subst e1 e2
    exact (list a b wa wb ra rb hf hff).1
  ·have hsp:=b7l hV e hm.mgu hm.bare hm.inV wa.vs wb.vs
   obtain ⟨q1,q2,q3,q4⟩:=hsp
   have go:∀ c d:Tm,Way V S s c→Way V S s d→(l7 s c).rng∧(l7 s c).ok→(l7 s d).rng∧(l7 s d).ok→a1D (rU n) s (l7 s c) (l7 s d)=some (some s')→(Orig S (b7 s')∧s'.length+frN V s'≤K∧∀ b∈s',b.v∈V)∧S7 s':=by
    intro c d wc wd hcr hdr e
    by_cases hf:(l7 s c).f<0
    ·obtain ⟨o1,o2,o3⟩:=b4N hV hm (n5 hm.bare c) (n5 hm.bare d) wc wd hf e
     refine ⟨⟨o1,b8T hm.len o2 q4,o3⟩,?_⟩
     unfold a1D at e
     rw [if_pos hf] at e
     split at e
     ·cases e
     ·cases e;exact b8P hr hdr
    ·unfold a1D at e
     rw [if_neg hf] at e
     split at e
     ·cases e
     ·rename_i hne
      obtain ⟨m1,m2⟩:=(list c d wc wd hcr hdr hf (Decidable.byContradiction fun h=>hne (.inl h))).2 s' e
      exact ⟨⟨m1.orig,m1.len,m1.num⟩,m2⟩
   rw [rU] at e
   split at e
   ·cases e;exact ⟨⟨q1,q2,q3,hm.orig,hm.len,hm.num⟩,hr⟩
   ·split at e
    ·obtain ⟨⟨o1,o2,o4⟩,o3⟩:=go b a wb wa rb ra e
     exact ⟨⟨q1,q2,q3,o1,o2,o4⟩,o3⟩
    ·obtain ⟨⟨o1,o2,o4⟩,o3⟩:=go a b wa wb ra rb e
     exact ⟨⟨q1,q2,q3,o1,o2,o4⟩,o3⟩
end
def a6P (l:List (Tm×Tm)):Prop:=∀ p∈l,((p.1.rng∧p.1.ok)∧p.1.size≤16)∧((p.2.rng∧p.2.ok)∧p.2.size≤16)
def G2 (l:List (Tm×Tm)):List Int:=l.flatMap fun p=>p.1.vs++p.2.vs
theorem a7N {V:List Int} (p:Int→Bool):(V.filter p).length≤V.length:=List.length_filter_le _ _
theorem b0Q (t:Tm):t.vs.length≤t.size:=by
 unfold Tm.vs Tm.size vsL
 rw [List.length_map]
 exact List.length_filter_le _ _
theorem a1q:∀ l:List (Tm×Tm),a6P l→(G2 l).length≤32*l.length
 | [],_=>Nat.le_refl _
 | p::l,h=>by
  have h1:=h p (by simp)
  have h2:=a1q l fun q hq=>h q (List.mem_cons_of_mem _ hq)
  have e:G2 (p::l)=(p.1.vs++p.2.vs)++G2 l:=List.flatMap_cons
  have h3:=b0Q p.1
  have h4:=b0Q p.2
  rw [e,List.length_append,List.length_append,List.length_cons]
  omega
theorem b7u (l:List (Tm×Tm)) (hl:l.length≤2) (ht:a6P l):∃ n r,rUs (rU n) l []=some r∧b3z (rU n) (Cnd n) l []∧(r=none→∀ τ,¬ uni τ l)∧∀ s,r=some s→Mgu (b7 s) l∧J6 s∧inV (G2 l) s∧S7 s∧(∀ b∈s,0≤b.v)∧s.length≤64∧(∀ b∈s,b.v∈G2 l)∧(∀ t,(∃ q∈I9 l,t=q)→(b5 (b7 s) t).size≤90000000000)∧∀ v,0≤v→b7 s v=p8 v∨((b7 s v).rng∧(b7 s v).size≤90000000000):=by
 have hV:∀ v∈G2 l,0≤v:=fun v hv=>by
  obtain ⟨p,_,hv⟩:=List.mem_flatMap.1 hv
  rcases List.mem_append.1 hv with hv | hv<;>exact r9 _ v hv
 have hsub:∀ p∈l,(∀ u∈p.1.vs,u∈G2 l)∧∀ u∈p.2.vs,u∈G2 l:=fun p hp=>⟨fun u hu=>List.mem_flatMap.2 ⟨p,hp,List.mem_append_left _ hu⟩,fun u hu=>List.mem_flatMap.2 ⟨p,hp,List.mem_append_right _ hu⟩⟩
 have h0:Mgu (b7 []) []:=Mgu.nil
 obtain ⟨n,r,e,g1,g2⟩:=a1l hV l [] [] h0 (fun b hb=>by cases hb) (fun b hb=>by cases hb) hsub
 rw [List.nil_append] at g1 g2
 have hE:arA (I9 l)≤60:=by
  have:=a5Y l fun p hp=>⟨(ht p hp).1.2,(ht p hp).2.2⟩
  omega
 have hvl:=a1q l ht
 have hmid0:a6A (G2 l) (I9 l) 64 [] ([]++[]):=⟨h0,(fun b hb=>by cases hb),(fun b hb=>by cases hb),(fun v hv hf=>by exfalso;apply hf;show (p8 v).f<0;rw [r6];omega),by
  have:frN (G2 l) []≤(G2 l).length:=a7N _
  show 0+_≤64
  omega,fun b hb=>by cases hb⟩
 obtain ⟨c1,c2⟩:=a2Z (V:=G2 l) (S:=I9 l) (K:=64) (E:=[]) hV (b5V hV (X4 l) (by decide) hE n) l [] [] hmid0 (fun b hb=>by cases hb) fun p hp=>by
  obtain ⟨s1,s2⟩:=a7Q hp
  exact ⟨fun s1' F1 h1=>⟨⟨(hsub p hp).1,p.1,s1,rfl⟩,⟨(hsub p hp).2,p.2,s2,rfl⟩⟩,(ht p hp).1.1,(ht p hp).2.1⟩
 refine ⟨n,r,e,c1,g1,fun s hs=>?_⟩
 obtain ⟨k1,k2,k3⟩:=g2 s hs
 rw [hs] at e
 obtain ⟨m1,m2⟩:=c2 s e
 have hbare:∀ v,0≤v→(b7 s v).strip=b7 s v:=fun v _=>L2 k2 v
 have hbig:∀ q∈I9 l,(b5 (b7 s) q).size≤90000000000:=fun q hq=>b0z hE (a0O (X4 l) m1.orig hbare ⟨q,hq,rfl⟩)
 refine ⟨k1,k2,k3,m2,a6r (b6a n) l [] s e (fun b hb=>by cases hb),by have:=m1.len;omega,m1.num,fun t ⟨q,hq,e⟩=>by rw [e];exact hbig q hq,fun v hv=>?_⟩
 by_cases hf:(b7 s v).f<0
 ·unfold b7 at hf ⊢
  cases hfd:b6 s v with
  | none=>exact .inl rfl
  | some t =>
   right
   rw [hfd] at hf
   obtain ⟨b,hbm,e1,_⟩:=H9 hfd
   refine ⟨by show t.rng;rw [←e1];exact (m2 b hbm).1,?_⟩
   show t.size≤_
   rw [Tm.size_var (show t.f<0 from hf)]
   decide
 ·right
  obtain ⟨q,hq,hq0,e1⟩:=m1.orig v hv hf
  refine ⟨?_,by rw [←e1];exact hbig q hq⟩
  unfold b7 at hf ⊢
  cases hfd:b6 s v with
  | none=>rw [hfd] at hf;exact absurd (show (p8 v).f<0 by rw [r6];omega) hf
  | some t =>
   obtain ⟨b,hbm,e2,_⟩:=H9 hfd
   show t.rng
   rw [←e2];exact (m2 b hbm).1
end Go.Proofs.YtglmoficcjphaaaGreat
namespace Go.Proofs.YtglmoficcjphaaaGreat
open Go.RowKit
set_option linter.unusedVariables false
set_option linter.unusedSimpArgs false
set_option maxRecDepth 100000
def c1A (p q:List Bd) (l:List Int):Bool:=l.all fun v=>v8 (b7 p v) (b7 q v)
theorem X9 {σ σ':Int→Tm} (h:∀ v,0≤v→σ' v=σ v) (t:Tm):b5 σ' t=b5 σ t:=W6 fun v hv=>h v (r9 _ v hv)
theorem Mgu.congr {σ σ':Int→Tm} {E:List (Tm×Tm)} (hm:Mgu σ E) (h:∀ v,0≤v→σ' v=σ v):Mgu σ' E:=
 ⟨fun p hp=>by rw [X9 h,X9 h];exact hm.uni p hp,fun v hv=>by rw [h v hv];exact hm.bare v hv,fun v hv u hu=>by
  rw [h v hv] at hu
  rw [h u (r9 _ u hu)];exact hm.idem v hv u hu,fun τ ht v hv=>by rw [h v hv];exact hm.most τ ht v hv,fun v hv hf=>by
  rw [h v hv] at hf ⊢;exact hm.low v hv hf⟩
theorem b2f {s:List Bd} (hb:J6 s) {v:Int} (hv:0≤v):b7 (x0 s) v=b7 s v:=by
 have h1:=b3s s hv
 have h2:b7 (x0 s) v=(b6 (x0 s) v).getD (p8 v):=rfl
 rw [h2,h1]
 split
 ·rename_i hi
  have hi:(decide ((b7 s v).f<0)&&decide (-1-(b7 s v).f=v))=true:=hi
  rw [Bool.and_eq_true,decide_eq_true_eq,decide_eq_true_eq] at hi
  show p8 v=_
  rw [a0J (L2 hb v) hi.1,hi.2]
 ·exact L2 hb v
structure Tells8 (l:List (Tm×Tm)) (r:List Bd×Bool):Prop where
 told:ToldU l r
 yes:r.2=true→Mgu (b7 r.1) l
 no:r.2=false→r.1=[]∧∀ τ,¬ uni τ l
 len:r.1.length≤64
 ok:∀ b∈r.1,(b.t.rng∧b.t.size≤90000000000)∧b.t.ok
 bare:J6 r.1
 inV:∀ b∈r.1,b.v∈G2 l∧∀ u∈b.t.vs,u∈G2 l
 srt:r.1.Pairwise (fun x y=>x.v<y.v)
 free:∀ t u,u∈(b5 (b7 r.1) t).vs→b6 r.1 u=none
 big:∀ q∈I9 l,(b5 (b7 r.1) q).size≤90000000000
theorem b2n {l:List (Tm×Tm)} (ht:a6P l):∀ q∈I9 l,q.size≤16:=fun q hq=>by
 have key:∀ t:Tm,∀ q∈t.flat,q.size≤t.size:=by
  intro t
  induction t using Tm.indp with
  | h t ih =>
   intro q hq
   rw [Tm.flat_eq] at hq
   rcases List.mem_cons.1 hq with rfl | hq
   ·exact Nat.le_refl _
   ·obtain ⟨p,hp,hq⟩:=List.mem_flatMap.1 hq
    have:=ih p hp q hq
    have:=Tm.size_part hp
    omega
 obtain ⟨p,hp,hq⟩:=List.mem_flatMap.1 hq
 rcases List.mem_append.1 hq with hq | hq
 ·exact Nat.le_trans (key _ q hq) (ht p hp).1.2
 ·exact Nat.le_trans (key _ q hq) (ht p hp).2.2
theorem b7v {l:List (Tm×Tm)} (hl:l.length≤2) (ht:a6P l):∃ n r,rUs (rU n) l []=some r∧b3z (rU n) (Cnd n) l []∧(∀ s,r=some s→s.length≤1000∧∀ b∈s,b.t.rng∧b.t.ok)∧Tells8 l ((r.map x0).getD [],r.isSome):=by
 obtain ⟨n,r,e,hC,h1,h2⟩:=b7u l hl ht
 refine ⟨n,r,e,hC,fun s hs=>?_,?_⟩
 ·obtain ⟨_,_,_,m4,_,m6,_⟩:=h2 s hs
  exact ⟨by omega,m4⟩
 cases r with
 | none =>
  have hn:=h1 rfl
  have hid:∀ t:Tm,b5 (b7 []) t=t.strip:=fun t=>b6d t
  exact ⟨.inl ⟨rfl,rfl,hn⟩,(fun h=>by cases h),fun _=>⟨rfl,hn⟩,Nat.zero_le _,(fun b hb=>by cases hb),(fun b hb=>by cases hb),(fun b hb=>by cases hb),List.Pairwise.nil,fun t u hu=>rfl,fun q hq=>by
   show (b5 (b7 []) q).size≤_
   rw [hid,Tm.strip_size]
   have:=b2n ht q hq
   omega⟩
 | some s =>
  obtain ⟨m1,m2,m3,m4,m5,m6,m7,m8,m9⟩:=h2 s rfl
  have hi:∀ v,0≤v→b7 (x0 s) v=b7 s v:=fun v hv=>b2f m2 hv
  have hbs:∀ b∈x0 s,∃ c∈s,b.v=c.v∧b.t=c.t:=fun b hb=>by
   unfold x0 at hb
   obtain ⟨c,hc,rfl⟩:=List.mem_map.1 hb
   have hcs:=T7 (List.mem_filter.1 hc).1
   exact ⟨c,hcs,rfl,m2 c hcs⟩
  have hin:∀ b∈x0 s,b6 (x0 s) b.v=some b.t:=fun b hb=>by
   have key:∀ L:List Bd,L.Pairwise (fun x y=>x.v<y.v)→∀ b∈L,b6 L b.v=some b.t:=fun L=>by
    induction L with
    | nil=>intro _ b hb;cases hb
    | cons a L ih =>
     intro hp b hb
     obtain ⟨p1,p2⟩:=List.pairwise_cons.1 hp
     rw [b6]
     rcases List.mem_cons.1 hb with rfl | hb
     ·rw [if_pos rfl]
     ·rw [if_neg (by have:=p1 b hb;omega)]
      exact ih p2 b hb
   exact key _ (X6 s) b hb
  refine ⟨.inr ⟨rfl,s,m1,m5,m9,rfl⟩,fun _=>m1.congr hi,(fun h=>by cases h),Nat.le_trans (b1S s) m6,fun b hb=>?_,fun b hb=>?_,fun b hb=>?_,X6 s,fun t u hu=>?_,fun q hq=>?_⟩
  ·obtain ⟨c,hc,e1,e2⟩:=hbs b hb
   have h0:0≤b.v:=by rw [e1];exact m5 c hc
   have hf:=hin b hb
   have him:b7 s b.v=b.t:=by rw [←hi _ h0];unfold b7;rw [hf];rfl
   refine ⟨⟨by rw [e2];exact (m4 c hc).1,?_⟩,by rw [e2];exact (m4 c hc).2⟩
   rcases m9 b.v h0 with h | h
   ·rw [←him,h,Tm.size_var (by rw [r6];omega)];decide
   ·rw [←him];exact h.2
  ·obtain ⟨c,hc,_,e2⟩:=hbs b hb
   show b.t.strip=b.t
   rw [e2];exact m2 c hc
  ·obtain ⟨c,hc,e1,e2⟩:=hbs b hb
   rw [e1,e2]
   exact ⟨m7 c hc,m3 c hc⟩
  ·have hu:u∈(b5 (b7 (x0 s)) t).vs:=hu
   rw [X9 hi] at hu
   exact b2O m1 hu
  ·show (b5 (b7 (x0 s)) q).size≤_
   rw [X9 hi]
   exact m8 q ⟨q,hq,rfl⟩
theorem Tells8.bdsOk {l:List (Tm×Tm)} {r:List Bd×Bool} (h:Tells8 l r):bdsOk r.1:=fun b hb=>(h.ok b hb).1
def c2A (l:List Tm):Bool:=l.all fun t=>decide (0≤n4 t 16 8)
def exX:Tm:=⟨4,[⟨-1,[]⟩,⟨1,[]⟩]⟩
def exY:Tm:=⟨4,[⟨3,[⟨-2,[]⟩]⟩,⟨-2,[]⟩]⟩
def exU:List Bd:=[⟨0,⟨3,[⟨1,[]⟩]⟩⟩,⟨1,⟨1,[]⟩⟩]
theorem b6D {s:List Bd} (hs:bdsOk s) {t:Tm} (h:t.rng):(b5 (b7 s) t).rng:=a8I h fun v h1 h2=>(a2t hs h1 h2).1
end Go.Proofs.YtglmoficcjphaaaGreat
namespace Go.Proofs.YtglmoficcjphaaaGreat
open Go.RowKit
set_option linter.unusedVariables false
set_option linter.unusedSimpArgs false
abbrev c3H (l:List Bd):Prop:=l.Pairwise fun x y=>x.v<y.v
def fnI (o:Option Tm) (v:Int):Option Tm:=match o with | some t=>if R5 ⟨v,t⟩ then none else some t | none=>none
section
variable {P:Program} {w0:World} {U0:UX} {nt:Nat} {ops:Array Oper} {o:Oper} {S:Nat→Option AV} {gs:List Nat} {d:Nat} {s:AS} {a:Act} {w:World} {D:Nat→Nat→Prop} {hv:Nat→Value}
theorem b8Z (i1 i2 i3:Nat) (hg:Gd w0 U0 nt ops o gs S) (hd:o.dst=some d) (hn:Nat.blt d nt=true) (h5:Nat.blt d 100000=true) {x y y2 y3:Operand} {t e:TypeId} {z:Nat} {k k2 k3:IntKind} {j1 j2 j3:Int} {n lo len n1 q1 p1 n2 q2 p2 n3 q3 p3} (ho:o.op = .slice t x (some y) (some y2) (some y3)) (hu:P.underlying t=some (.slice e)) (hi:(P.info? e).map (·.size)=some z) (hx:ev S x=some (.sl n lo len z)) (hy:ev S y=some ⟨0,.sc (.int k j1),n1,q1,p1⟩) (hy2:ev S y2=some ⟨0,.sc (.int k2 j2),n2,q2,p2⟩) (hy3:ev S y3=some ⟨0,.sc (.int k3 j3),n3,q3,p3⟩) (e1:j1=(i1:Int)) (e2:j2=(i2:Int)) (e3:j3=(i3:Int)) (h12:i1≤i2) (h23:i2≤i3) (h3:i3≤len) :
  AOp P w0 U0 nt ops o (gs++(rd x++(rd y++(rd y2++rd y3)))) [] S [(d,.no)]:=
 i8 hg hd hn h5 (fun k hk=>List.mem_append_left _ hk) fun s hs a w D hv hm=>by
  obtain ⟨hrn,ao,m,cap,ao',h1,h2,h3',h4,h6,h7⟩:RN n∧SlV (hv n) lo len z (a.eval x):=j8 hm (fun k hk=>hs k (List.mem_append_right _ (List.mem_append_left _ hk))) hx
  have f1:=w9 hm (fun k hk=>hs k (List.mem_append_right _ (List.mem_append_right _ (List.mem_append_left _ hk)))) hy
  have f2:=w9 hm (fun k hk=>hs k (List.mem_append_right _ (List.mem_append_right _ (List.mem_append_right _ (List.mem_append_left _ hk))))) hy2
  have f3:=w9 hm (fun k hk=>hs k (List.mem_append_right _ (List.mem_append_right _ (List.mem_append_right _ (List.mem_append_right _ hk))))) hy3
  have hsz:=B1 (P:=P) (w:=w) hi
  have b3:=C2 (P:=P) (w:=w) (k:=k3) (j:=i3) (y:=cap-lo) (code := .slice3Acap) (by omega)
  have b2:=C2 (P:=P) (w:=w) (k:=k2) (j:=i2) (y:=i3) (code := .slice3B) h23
  have b1:=C2 (P:=P) (w:=w) (k:=k) (j:=i1) (y:=i2) (code := .slice3C) h12
  subst e1 e2 e3
  refine ⟨.slice (if i3=i1 then ao' else ao'.map (·.add (i1*z))) (i2-i1) (i3-i1),?_,trivial⟩
  generalize a.eval=ρ at h2 f1 f2 f3 ⊢
  simp [execOp,ho,Instr.sliceAt,Instr.slice,run_underlying hu,h2,f1,f2,f3,Instr.sliceBounds,b1,b2,b3,hsz]
theorem zbA {P:Program} {w0:World} {U0:UX} {nt:Nat} {ops:Array Oper} {o:Oper} {S:Nat→Option AV} {gs:List Nat} {d:Nat} {x:Operand} {y:Operand} {y2:Operand} {y3:Operand} {t:TypeId} {e:TypeId} {z:Nat} {k:IntKind} {k2:IntKind} {k3:IntKind} {j1:Int} {j2:Int} {j3:Int} {n} {lo} {len} {n1} {q1} {p1} {n2} {q2} {p2} {n3} {q3} {p3} (i1:Nat) (i2:Nat) (i3:Nat) (p:Gd w0 U0 nt ops o gs S:=by exact gN rfl) (q:o.dst=some d:=by exact rfl) (r:Nat.blt d nt=true:=by exact rfl) (u:Nat.blt d 100000=true:=by exact rfl) (v:o.op = .slice t x (some y) (some y2) (some y3):=by exact rfl) (A:P.underlying t=some (.slice e):=by exact rfl) (B:(P.info? e).map (·.size)=some z:=by exact rfl) (C:ev S x=some (.sl n lo len z):=by exact rfl) (E:ev S y=some ⟨0,.sc (.int k j1),n1,q1,p1⟩:=by exact rfl) (F:ev S y2=some ⟨0,.sc (.int k2 j2),n2,q2,p2⟩:=by exact rfl) (G:ev S y3=some ⟨0,.sc (.int k3 j3),n3,q3,p3⟩:=by exact rfl) (H:j1=(i1:Int):=by first | rfl | omega | (simp only [List.length_set,List.length_map,List.length_append,List.length_cons,List.length_nil]<;>omega) | (simp<;>omega)) (e2:j2=(i2:Int):=by first | rfl | omega | (simp only [List.length_set,List.length_map,List.length_append,List.length_cons,List.length_nil]<;>omega) | (simp<;>omega)) (e3:j3=(i3:Int):=by first | rfl | omega | (simp only [List.length_set,List.length_map,List.length_append,List.length_cons,List.length_nil]<;>omega) | (simp<;>omega)) (h12:i1≤i2:=by first | rfl | omega | (simp only [List.length_set,List.length_map,List.length_append,List.length_cons,List.length_nil]<;>omega) | (simp<;>omega)) (h23:i2≤i3:=by first | rfl | omega | (simp only [List.length_set,List.length_map,List.length_append,List.length_cons,List.length_nil]<;>omega) | (simp<;>omega)) (h3:i3≤len:=by first | rfl | omega | (simp only [List.length_set,List.length_map,List.length_append,List.length_cons,List.length_nil]<;>omega) | (simp<;>omega)):AOp P w0 U0 nt ops o (gs++(rd x++(rd y++(rd y2++rd y3)))) [] S [(d,.no)]:=b8Z i1 i2 i3 p q r u v A B C E F G H e2 e3 h12 h23 h3
theorem b9F (i1 i2:Nat) (hg:Gd w0 U0 nt ops o gs S) (hd:o.dst=some d) (hn:Nat.blt d nt=true) (h5:Nat.blt d 100000=true) {x y y2:Operand} {t e e':TypeId} {z:Nat} {l:List CV} {k k2:IntKind} {j1 j2:Int} {n len n1 q1 p1 n2 q2 p2} (ho:o.op = .slice t x (some y) (some y2) none) (hu:P.underlying t=some (.slice e)) (hi:(P.info? e).map (·.size)=some z) (hx:ev S x=some (.sl n 0 len z)) (hy:ev S y=some ⟨0,.sc (.int k j1),n1,q1,p1⟩) (hy2:ev S y2=some ⟨0,.sc (.int k2 j2),n2,q2,p2⟩) (hm':S n=some (.mrow e' z l)) (e1:j1=(i1:Int)) (e2:j2=(i2:Int)) (h12:i1≤i2) (h3:i2≤l.length) :
  AOp P w0 U0 nt ops o (gs++(rd x++(rd y++(rd y2++[n])))) [] S [(d,.sl n i1 (i2-i1) z)]:=
 i8 hg hd hn h5 (fun k hk=>List.mem_append_left _ hk) fun s hs a w D hv hm=>by
  obtain ⟨hrn,ao,m,cap,ao',h1,h2,h3',h4,h6,h7⟩:RN n∧SlV (hv n) 0 len z (a.eval x):=j8 hm (fun k hk=>hs k (List.mem_append_right _ (List.mem_append_left _ hk))) hx
  have f1:=w9 hm (fun k hk=>hs k (List.mem_append_right _ (List.mem_append_right _ (List.mem_append_left _ hk)))) hy
  have f2:=w9 hm (fun k hk=>hs k (List.mem_append_right _ (List.mem_append_right _ (List.mem_append_right _ (List.mem_append_left _ hk))))) hy2
  obtain ⟨xs,g1,g2,g3,g4⟩:=hm.mrow ((hs n (by simp)).trans hm') hrn
  obtain ⟨ao2,cap2,c1,c2,_⟩:=W0 g1
  have hcap:l.length≤cap:=by rw [h1] at c1;injection c1 with _ _ c3;omega
  have hsz:=B1 (P:=P) (w:=w) hi
  have b2:=C2 (P:=P) (w:=w) (k:=k2) (j:=i2) (y:=cap) (code := .sliceAcap) (by omega)
  have b1:=C2 (P:=P) (w:=w) (k:=k) (j:=i1) (y:=i2) (code := .sliceB) h12
  subst e1 e2
  have h2:a.eval x = .slice ao len cap:=by rw [h2,h4 rfl];rfl
  refine ⟨.slice (if cap=i1 then ao else ao.map (·.add (i1*z))) (i2-i1) (cap-i1),?_,hrn,ao,m,cap,_,h1,rfl,by show i1+(i2-i1)≤cap;omega,fun h8=>?_,fun h8=>?_,?_⟩
  ·generalize a.eval=ρ at h2 f1 f2 ⊢
   simp [execOp,ho,Instr.sliceAt,Instr.slice,run_underlying hu,h2,f1,f2,Instr.sliceBounds,b1,b2,hsz]
  ·have h8:i1=0:=h8
   subst h8
   split
   ·rfl
   ·cases ao with
    | none=>rfl
    | some ad=>simp [Addr.add]
  ·have h8:i1<cap:=h8
   intro g hg'
   rw [if_neg (by omega),hg']
   show some ((⟨g,0,none⟩:Addr).add (i1*z))=some ⟨g,i1*z,none⟩
   rw [a0x,Nat.zero_add]
  ·split
   ·exact Iff.rfl
   ·rw [Option.map_eq_none_iff]
theorem zbC {P:Program} {w0:World} {U0:UX} {nt:Nat} {ops:Array Oper} {o:Oper} {S:Nat→Option AV} {gs:List Nat} {d:Nat} {x:Operand} {y:Operand} {y2:Operand} {t:TypeId} {e:TypeId} {e':TypeId} {z:Nat} {l:List CV} {k:IntKind} {k2:IntKind} {j1:Int} {j2:Int} {n} {len} {n1} {q1} {p1} {n2} {q2} {p2} (i1:Nat) (i2:Nat) (p:Gd w0 U0 nt ops o gs S:=by exact gN rfl) (q:o.dst=some d:=by exact rfl) (r:Nat.blt d nt=true:=by exact rfl) (u:Nat.blt d 100000=true:=by exact rfl) (v:o.op = .slice t x (some y) (some y2) none:=by exact rfl) (A:P.underlying t=some (.slice e):=by exact rfl) (B:(P.info? e).map (·.size)=some z:=by exact rfl) (C:ev S x=some (.sl n 0 len z):=by exact rfl) (E:ev S y=some ⟨0,.sc (.int k j1),n1,q1,p1⟩:=by exact rfl) (F:ev S y2=some ⟨0,.sc (.int k2 j2),n2,q2,p2⟩:=by exact rfl) (G:S n=some (.mrow e' z l):=by exact rfl) (H:j1=(i1:Int):=by first | rfl | omega | (simp only [List.length_set,List.length_map,List.length_append,List.length_cons,List.length_nil]<;>omega) | (simp<;>omega)) (e2:j2=(i2:Int):=by first | rfl | omega | (simp only [List.length_set,List.length_map,List.length_append,List.length_cons,List.length_nil]<;>omega) | (simp<;>omega)) (h12:i1≤i2:=by first | rfl | omega | (simp only [List.length_set,List.length_map,List.length_append,List.length_cons,List.length_nil]<;>omega) | (simp<;>omega)) (h3:i2≤l.length:=by first | rfl | omega | (simp only [List.length_set,List.length_map,List.length_append,List.length_cons,List.length_nil]<;>omega) | (simp<;>omega)):AOp P w0 U0 nt ops o (gs++(rd x++(rd y++(rd y2++[n])))) [] S [(d,.sl n i1 (i2-i1) z)]:=b9F i1 i2 p q r u v A B C E F G H e2 h12 h3
theorem b9y (hg:Gd w0 U0 nt ops o gs S) (hd:o.dst=some d) (hn:Nat.blt d nt=true) (h5:Nat.blt d 100000=true) {x y:Operand} {t e size bytes:Nat} {zv:Value} {l:List CV} {n len lo2 len2} (ho:o.op = .call { callee := .builtin .append,args := #[x,y],argTypes := #[t,t] }) (ht:P.underlying t=some (.slice e)) (hi:(P.info? e).map (fun i=>(i.zero,i.size,i.bytes))=some (some zv,size,bytes))
  (hx:ev S x=some (.sl n 0 len size)) (hy:ev S y=some (.sl n lo2 len2 size)) (hm':S n=some (.mrow e size l)) (hl:len+len2≤l.length) (hl2:lo2+len2≤l.length) :
  AOp P w0 U0 nt ops o (gs++(rd x++(rd y++[n]))) [] S [(d,.sl n 0 (len+len2) size),(n,.mrow e size (l.take len++((l.drop lo2).take len2++l.drop (len+len2))))]:=by
 intro s hs hN a w ⟨D,hv,h⟩ Q K hK
 rw [if_pos (hg s (fun k hk=>hs k (List.mem_append_left _ hk)) a w D hv h)]
 obtain ⟨hrn,ao,m,cap,ao',h1,h2,h3,h4,h6,h7⟩:RN n∧SlV (hv n) 0 len size (a.eval x):=j8 h (fun k hk=>hs k (List.mem_append_right _ (List.mem_append_left _ hk))) hx
 obtain ⟨_,ao2,m2,cap2,ao2',j1,j2,j3,j4,j6,j7⟩:RN n∧SlV (hv n) lo2 len2 size (a.eval y):=j8 h (fun k hk=>hs k (List.mem_append_right _ (List.mem_append_right _ (List.mem_append_left _ hk)))) hy
 have h2:a.eval x = .slice ao len cap:=by rw [h2,h4 rfl];rfl
 obtain ⟨i,hi1,hi2,hi3,hi4⟩:=info_parts hi
 have hok:j5 n:=by unfold RN at hrn;unfold j5;omega
 have hm:=(hs n (by simp)).trans hm'
 obtain ⟨xs,g1,g2,g3,g4⟩:=h.mrow hm hrn
 obtain ⟨ao3,cap3,c1,c2,_⟩:=W0 g1
 have hcl:l.length≤cap:=by rw [h1] at c1;injection c1 with _ _ c3;omega
 have hv2:SlV (hv n) 0 (len+len2) size (.slice ao (len+len2) cap):=⟨ao,m,cap,ao,h1,rfl,by omega,fun _=>rfl,fun _ g hg'=>by rw [hg',Nat.zero_mul],Iff.rfl⟩
 by_cases hz:len2=0
 ·subst hz
  have he:(execOp a.eval o).run P w = .ok (.value (.slice ao len cap)) w:=by
   have hle:len≤cap:=by omega
   generalize a.eval=ρ at h2 j2 ⊢
   cases ao<;>cases ao2'<;>simp [execOp,ho,resolve,invoke,builtin,h2,j2,Builtin.append_,run_underlying ht,sizeOf,typeInfo,hi1,Builtin.lenOf,Builtin.firstCells,loadCells,loadCellsFrom,storeCells,hle,Result.andThen]
  unfold Oper.wp
  rw [he,Oper.upon_value,hd]
  have hl':l.take len++((l.drop lo2).take 0++l.drop (len+0))=l:=by simp
  refine hK _ _ ⟨D,hv,?_⟩
  rw [hl']
  have hP:=h.put (d:=d) (av := .sl n 0 (len+0) size) (v := .slice ao len cap) (bL hn) (bL h5) ⟨hrn,by rw [Nat.add_zero] at hv2 ⊢;exact hv2⟩
  refine hP.congr fun k=>?_
  show look ((d,_)::(n,AV.mrow e size l)::s) k=look ((d,_)::s) k
  rw [b8,b8,b8]
  split
  ·rfl
  ·split
   ·rename_i e;rw [←e];exact hm.symm
   ·rfl
 obtain ⟨g,cap',cur,f1,f2,f3,f4,f6,f7,f8,f9⟩:=U6 g1 (by omega)
 obtain rfl:cap=cap':=by rw [f1] at h1;injection h1 with k1 k2 k3;exact k3.symm
 obtain rfl:ao=some ⟨g,0,none⟩:=by rw [f1] at h1;injection h1 with k1 k2 k3;exact k1.symm
 obtain rfl:cap=cap2:=by rw [f1] at j1;injection j1 with k1 k2 k3
 obtain rfl:ao2=some ⟨g,0,none⟩:=by rw [f1] at j1;injection j1 with k1 k2 k3;exact k1.symm
 have ha:ao2'=some ⟨g,lo2*size,none⟩:=j6 (by omega) g rfl
 subst ha
 have hsplit2:l=l.take lo2++((l.drop lo2).take len2++(l.drop lo2).drop len2):=by rw [List.take_append_drop,List.take_append_drop]
 have q4:=g4
 rw [hsplit2,List.map_append,List.map_append] at q4
 obtain ⟨x1,x4,ex1,t1,t2⟩:=w8 q4
 obtain ⟨zs,x3,ex2,t3,t4⟩:=w8 t2
 have hx1:x1.length=lo2*size:=by rw [C7 (n:=CV.size) (fun c _ xs h=>h.len) t1,s5 (fun c hc=>g3 c (List.mem_of_mem_take hc)),List.length_take,Nat.min_eq_left (by omega)]
 have hzsl:zs.length=len2*size:=by rw [C7 (n:=CV.size) (fun c _ xs h=>h.len) t3,s5 (fun c hc=>g3 c (List.mem_of_mem_drop (List.mem_of_mem_take hc))),List.length_take,List.length_drop,Nat.min_eq_left (by omega)]
 have hone:∀ v∈zs,v.oneCell'=true:=Q3 t3
 have hxl:xs.length=l.length*size:=g1.1
 have hcl2:len*size+len2*size≤l.length*size:=by rw [←Nat.add_mul];exact Nat.mul_le_mul_right _ hl
 have hcl3:lo2*size+len2*size≤l.length*size:=by rw [←Nat.add_mul];exact Nat.mul_le_mul_right _ hl2
 have hcap:l.length*size≤cap*size:=Nat.mul_le_mul_right _ f3
 have f7:cur.toList.take (l.length*size)=xs:=f7
 have f6:cur.size=cap*size:=f6
 have hnews:∀ j u,zs[j]?=some u→w.cell? ((⟨g,lo2*size,none⟩:Addr).add j)=some u:=fun j u hj=>by
  have hjl:j<zs.length:=by
   rcases Nat.lt_or_ge j zs.length with h | h
   ·exact h
   ·rw [List.getElem?_eq_none h] at hj;cases hj
  rw [a0x]
  have hc:xs[lo2*size+j]?=some u:=by rw [ex1,ex2,←hx1,List.getElem?_append_right (by omega),Nat.add_sub_cancel_left,List.getElem?_append_left hjl];exact hj
  have hown:w.ownsRow 0 e size (.slice (some ⟨g,0,none⟩) l.length cap) l.length xs:=by rw [←f1];exact g1
  rw [hown.cellAt _ (by omega)]
  exact hc
 have hr:=run_append_room (P:=P) w t o.type e i ht hi1 g len cap cur f2 ⟨g,lo2*size,none⟩ len2 (cap-lo2) zs (by rw [hi3];exact hzsl) hnews hone (by omega) (by rw [hi3,hzsl,f6];omega)
 rw [hi3] at hr
 have he:(execOp a.eval o).run P w = .ok (.value (.slice (some ⟨g,0,none⟩) (len+len2) cap)) (w.setRow g (cur.toList.take (len*size)++zs++cur.toList.drop (len*size+zs.length)).toArray):=by
  generalize a.eval=ρ at h2 j2 ⊢
  simp [execOp,ho,resolve,invoke,builtin,h2,j2,hr,Result.andThen]
 unfold Oper.wp
 rw [he,Oper.upon_value,hd]
 obtain ⟨l',hl'⟩:∃ l',l'=l.take len++((l.drop lo2).take len2++l.drop (len+len2)):=⟨_,rfl⟩
 have hll:l'.length=l.length:=by rw [hl'];simp;omega
 refine hK _ _ ?_
 rw [←hl']
 suffices hG:SimG w0 U0 nt ((n,.mrow e size l')::s) a (w.setRow g (cur.toList.take (len*size)++zs++cur.toList.drop (len*size+zs.length)).toArray) D hv from ⟨_,_,hG.put (bL hn) (bL h5) ⟨hrn,hv2⟩⟩
 refine h.store (av := .mrow e size l') hok hm (by simp) (by simp) rfl (fun g' hn o _=>hn o (by simp)) (by simp) f9 f2 fun w' hw hkp=>?_
 have hsplit:l=l.take len++((l.drop len).take len2++(l.drop len).drop len2):=by rw [List.take_append_drop,List.take_append_drop]
 have g4':=g4
 rw [hsplit,List.map_append,List.map_append] at g4'
 obtain ⟨y1,r1,e1,s1,s2⟩:=w8 g4'
 obtain ⟨y2,y3,e2,s3,s4⟩:=w8 s2
 have hy1:y1.length=len*size:=by rw [C7 (n:=CV.size) (fun c _ xs h=>h.len) s1,s5 (fun c hc=>g3 c (List.mem_of_mem_take hc)),List.length_take,Nat.min_eq_left (by omega)]
 have hy2:y2.length=len2*size:=by rw [C7 (n:=CV.size) (fun c _ xs h=>h.len) s3,s5 (fun c hc=>g3 c (List.mem_of_mem_drop (List.mem_of_mem_take hc))),List.length_take,List.length_drop,Nat.min_eq_left (by omega)]
 have hy3:y1.length+(y2.length+y3.length)=l.length*size:=by have:=hxl;rw [e1,e2] at this;simpa using this
 have hcur:cur.toList=y1++(y2++(y3++cur.toList.drop (l.length*size))):=by
  conv=>lhs;rw [←List.take_append_drop (l.length*size) cur.toList,f7,e1,e2]
  simp
 have hnew:cur.toList.take (len*size)++zs++cur.toList.drop (len*size+zs.length)=(y1++(zs++y3))++cur.toList.drop (l.length*size):=by
  have t1:cur.toList.take (len*size)=y1:=by rw [hcur,←hy1];simp
  have t2:cur.toList.drop (len*size+zs.length)=y3++cur.toList.drop (l.length*size):=by
   rw [hzsl,←hy1,←hy2]
   conv=>lhs;rw [hcur]
   rw [←List.append_assoc,List.drop_append_of_le_length (by simp)]
   simp
  rw [t1,t2]
  simp
 rw [hnew] at hw
 refine ⟨y1++(zs++y3),⟨?_,.inr ⟨g,cap,_,?_,Nat.zero_le _,hw,?_,f4,?_,?_⟩⟩,g2,fun x hx=>?_,?_⟩
 ·show _=l'.length*size
  rw [hll]
  simp only [List.length_append,hzsl]
  omega
 ·show hv n = .slice _ l'.length cap
  rw [hll];exact f1
 ·show l'.length≤cap
  rw [hll];exact f3
 ·have:=congrArg List.length hcur
  rw [Array.length_toList,f6] at this
  simp only [List.size_toArray,List.length_append,hzsl] at this ⊢
  show _=cap*size
  omega
 ·show List.take (l'.length*size) _=_
  rw [hll,List.take_append_of_le_length (by simp only [List.length_append,hzsl];omega),List.take_of_length_le (by simp only [List.length_append,hzsl];omega)]
 ·have hx:x∈l':=hx
  rw [hl',List.mem_append,List.mem_append] at hx
  rcases hx with hx | hx | hx
  ·exact g3 x (List.mem_of_mem_take hx)
  ·exact g3 x (List.mem_of_mem_drop (List.mem_of_mem_take hx))
  ·exact g3 x (List.mem_of_mem_drop hx)
 ·show Sq (l'.map fun c=>Rep (Us w0 U0 D) w' c) _
  rw [hl',List.map_append,List.map_append]
  refine B8 (Sq.keep hkp s1) (B8 (Sq.keep hkp t3) ?_)
  rw [←List.drop_drop]
  exact Sq.keep hkp s4
theorem zbB {P:Program} {w0:World} {U0:UX} {nt:Nat} {ops:Array Oper} {o:Oper} {S:Nat→Option AV} {gs:List Nat} {d:Nat} {x:Operand} {y:Operand} {t:Nat} {e:Nat} {size:Nat} {bytes:Nat} {zv:Value} {l:List CV} {n} {len} {lo2} {len2} (p:Gd w0 U0 nt ops o gs S:=by exact gN rfl) (q:o.dst=some d:=by exact rfl) (r:Nat.blt d nt=true:=by exact rfl) (z:Nat.blt d 100000=true:=by exact rfl) (A:o.op = .call { callee := .builtin .append,args := #[x,y],argTypes := #[t,t] }:=by exact rfl) (B:P.underlying t=some (.slice e):=by exact rfl) (C:(P.info? e).map (fun i=>(i.zero,i.size,i.bytes))=some (some zv,size,bytes):=by exact rfl) (E:ev S x=some (.sl n 0 len size):=by exact rfl) (F:ev S y=some (.sl n lo2 len2 size):=by exact rfl) (G:S n=some (.mrow e size l):=by exact rfl) (H:len+len2≤l.length:=by first | rfl | omega | (simp only [List.length_set,List.length_map,List.length_append,List.length_cons,List.length_nil]<;>omega) | (simp<;>omega)) (hl2:lo2+len2≤l.length:=by first | rfl | omega | (simp only [List.length_set,List.length_map,List.length_append,List.length_cons,List.length_nil]<;>omega) | (simp<;>omega)):AOp P w0 U0 nt ops o (gs++(rd x++(rd y++[n]))) [] S [(d,.sl n 0 (len+len2) size),(n,.mrow e size (l.take len++((l.drop lo2).take len2++l.drop (len+len2))))]:=b9y p q r z A B C E F G H hl2
end
end Go.Proofs.YtglmoficcjphaaaGreat
