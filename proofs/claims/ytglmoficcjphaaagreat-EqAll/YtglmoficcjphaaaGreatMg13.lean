/-
 EqRef3 EqAlive EqLw
-/
import Derived.Test.YtglmoficcjphaaaGreatMg12
import Derived.Test.YtglmoficcjphaaaGreatMg11
namespace Go.Proofs.YtglmoficcjphaaaGreat
open List (length_append length_cons length_map length_nil mem_append mem_filterMap mem_flatMap mem_map mem_of_getElem?)
open Go.RowKit
set_option linter.unusedVariables false
set_option linter.unusedSimpArgs false
set_option maxRecDepth 100000
theorem b3w (c:List Lt) (k:Nat):a2E c (k+1)=a2E c k++(a2T c k).toList:=by
 unfold a2E;rw [List.range_succ,List.filterMap_append];congr 1
theorem b6r (c:List Lt) (k:Nat):(a2E c k).length<=k:=by
 unfold a2E;exact Nat.le_trans (List.length_filterMap_le _ _) (by rw [List.length_range];omega)
theorem b9w (a b:Tm):a2V a b=!(decide (kb a b=0\/kb a b = -1)):=by
 have h:=a3N a b;unfold K4 at h;unfold a2V;rcases h with h | h | h | h<;>rw [h]<;>rfl
theorem a0y (W:World) (l:Lt) (z:Int) (n:Nat) (h:z=(n:Int)):AFun Tryz.prog W 34 [l.cw,.i z] (.val (sdT l n).cw):=by
 subst h;exact Y6 W l n
set_option maxHeartbeats 16000000 in
theorem a8P (W:World) (c:List Lt) (hl:c.length<=100) (hc:∀ l∈c,l.ten):AFun Tryz.prog W 15 [.lst (c.map Lt.cv)] (.val (.lst ((a2E c (4*c.length*c.length)).map V5))):=by
 have kD:=Lt.size_all c;have qN:(c.map Lt.cv).length=c.length:=length_map ..;have hB1:4*c.length*c.length<=400*100:=Nat.mul_le_mul (by omega) (by omega);have hBi:((4*c.length*c.length:Nat):Int)=4*(c.length:Int)*(c.length:Int):=by rw [Int.natCast_mul,Int.natCast_mul];rfl
 have hB:0<=4*(c.length:Int)*(c.length:Int)/\4*(c.length:Int)*(c.length:Int)<=40000:=by rw [<-hBi];exact ⟨Int.natCast_nonneg _,Int.ofNat_le.2 hB1⟩
 refine a9 (rs:=[.lst ((a2E c (4*c.length*c.length)).map V5)]) Tryz.func15 Tryz.ntmps15 rfl rfl rfl rfl ?_;intro w U hW;refine aS (aR ?_);refine nc ze ?_;refine aS (aR ?_);refine nc ze ?_;refine aS (aS (aR ?_));refine nc ze ?_
 let st:Nat->AS:=fun k=>[(0,.val (.lst (c.map Lt.cv))),(3,.own (.lst ((a2E c k).map V5)) 200130),(200130,.tok 22 1),(4,.val (.i k))]
 refine aB (b9 (4*c.length*c.length) st ((v9 3 200130 22 1 rfl rfl rfl rfl rfl rfl rfl).trans (a7 ⟨rfl,rfl,rfl,rfl,trivial⟩)) ?_);intro k hk;refine aS (aS (aR ?_));refine nc zl (nc zl (nc zp (nc zbJ (nc zl (nc zp (nc zbJ (nc zi ?_)))))));refine aC rfl (fun kA=>?_) (fun kA=>?_)
 ·have kB:k<4*c.length*c.length:=by
   have h:(k:Int)<4*(c.length:Int)*(c.length:Int):=by simpa using kA
   rw [<-hBi] at h;exact Int.ofNat_lt.1 h
  have vQ:0<c.length:=by
   rcases Nat.eq_zero_or_pos c.length with h | h
   ·rw [h] at kB;simp at kB
   ·exact h
  obtain ⟨i,hi⟩:∃ i,i=k / 4 / c.length:=⟨_,rfl⟩
  obtain ⟨j,hj⟩:∃ j,j=k / 4 % c.length:=⟨_,rfl⟩
  obtain ⟨p,hp⟩:∃ p,p=k / 2 % 2:=⟨_,rfl⟩
  obtain ⟨q,hq⟩:∃ q,q=k % 2:=⟨_,rfl⟩
  have dX:p<2:=by omega
  have eB:q<2:=by omega
  have kY:i<c.length:=by rw [hi,Nat.div_lt_iff_lt_mul vQ];rw [Nat.mul_assoc] at kB;omega
  have gK:j<c.length:=by rw [hj];exact Nat.mod_lt _ vQ
  have bZ:((c.map Lt.cv).length:Int)≠0:=by rw [qN];omega
  have t1:(k:Int).tdiv 4=((k / 4:Nat):Int):=(Int.ofNat_tdiv k 4).symm;have t2:((k:Int).tdiv 4).tdiv ((c.map Lt.cv).length:Int)=(i:Int):=by rw [t1,qN,hi];exact (Int.ofNat_tdiv _ _).symm
  have t3:((k:Int).tdiv 4).tmod ((c.map Lt.cv).length:Int)=(j:Int):=by rw [t1,qN,hj];exact (Int.ofNat_tmod _ _).symm
  have t4:(k:Int).tdiv 2=((k / 2:Nat):Int):=(Int.ofNat_tdiv k 2).symm;have t5:((k:Int).tdiv 2).tmod 2=(p:Int):=by rw [t4,hp];exact (Int.ofNat_tmod (k / 2) 2).symm
  have t6:(k:Int).tmod 2=(q:Int):=by rw [hq];exact (Int.ofNat_tmod k 2).symm
  have w1:IntKind.i64.wrap ((k:Int).tdiv 4)=(k:Int).tdiv 4:=by rw [t1,IntKind.wrap_i64];omega
  have w2:IntKind.i64.wrap (((k:Int).tdiv 4).tdiv ((c.map Lt.cv).length:Int))=((k:Int).tdiv 4).tdiv ((c.map Lt.cv).length:Int):=by rw [t2,IntKind.wrap_i64];omega
  have w3:IntKind.i64.wrap ((k:Int).tdiv 2)=(k:Int).tdiv 2:=by rw [t4,IntKind.wrap_i64];omega
  obtain ⟨x,hx⟩:∃ x,c[i]?=some x:=⟨c[i],List.getElem?_eq_getElem kY⟩
  obtain ⟨y,hy⟩:∃ y,c[j]?=some y:=⟨c[j],List.getElem?_eq_getElem gK⟩
  have kI:=Lt.map_at hx;have gO:=Lt.map_at hy;have dH:=hc x (mem_of_getElem? hx);have qO:=hc y (mem_of_getElem? hy);have hS:=b3w c k;have dS:a2T c k=N9 c i j p q:=by unfold a2T;rw [<-hi,<-hj,<-hp,<-hq]
  rw [dS] at hS;have hA:=b6r c k;obtain ⟨A,tM⟩:∃ A,A=a2E c k:=⟨_,rfl⟩
  rw [<-tM] at hS hA;have hAm:(A.map V5).length<=40000:=by rw [length_map];omega
  have oY:=D8 A;have gB:N9 c i j p q=none->∀ s:AS,SubL s [(0,.val (.lst (c.map Lt.cv))),(3,.own (.lst (A.map V5)) 200130),(200130,.tok 22 1),(4,.val (.i ((k+1:Nat):Int)))]->SubL s (st (k+1)):=fun h s hs=>by
   have e2:a2E c (k+1)=A:=by rw [hS,h];simp
   show SubL s [(0,.val (.lst (c.map Lt.cv))),(3,.own (.lst ((a2E c (k+1)).map V5)) 200130),(200130,.tok 22 1),(4,.val (.i ((k+1:Nat):Int)))];rw [e2];exact hs
  have oZ:N9 c i j p q=if i=j\/x.neg=true\/y.neg=true\/(i:Int)∉s9 c then none
   else if (mgT (sdT x p) (sdT y q)).2=true/\a2V (b7 (mgS (sdT x p) (sdT y q)) (sdT x p)) (b7 (mgS (sdT x p) (sdT y q)) (sdT x (1-p)))=true then some ((y7 c i++[(⟨true,sdT x (1-p),sdT y (1-q)⟩:Lt)]).map (a1c (dT (sdT x p) (sdT y q))))
   else none:=by unfold N9;rw [hx,hy]
  refine aK ?_;refine aS (aB (aS (aD (by kernel_rfl) (by kernel_rfl) ?_)));refine nc zl (nc zbN (nc zl (nc zp (nc zbN (nc zl (nc zbN (nc zl (nc zp (nc zbO (nc ze (nc ze ?_)))))))))));refine ⟨by kernel_rfl,?_⟩;refine aS (aR ?_);refine nc zl (nc zbN (nc zbO (nc zl (nc zbO (nc ze (nc ze ?_))))));refine AWp.wk (a7 (s':=[(0,.val (.lst (c.map Lt.cv))),(3,.own (.lst (A.map V5)) 200130),(200130,.tok 22 1),(4,.val (.i k)),(5,.val (.i (i:Int))),(6,.val (.i (j:Int))),(7,.val (.i (p:Int))),(8,.val (.i (q:Int)))]) ⟨rfl,by rw [tM];rfl,rfl,rfl,by rw [<-t2];rfl,by rw [<-t3];rfl,by rw [<-t5];rfl,by rw [<-t6];rfl,trivial⟩) ?_;refine aS (T8 [(0,.val (.lst (c.map Lt.cv))),(3,.own (.lst (A.map V5)) 200130),(200130,.tok 22 1),(4,.val (.i k)),(5,.val (.i (i:Int))),(6,.val (.i (j:Int))),(7,.val (.i (p:Int))),(8,.val (.i (q:Int))),(60,.val (.b (decide (i=j\/x.neg=true\/y.neg=true\/(i:Int)∉s9 c))))] ?_ ?_)
  ·by_cases fK:i=j
   ·have g:decide ((i:Int)=(j:Int))=true:=decide_eq_true (by omega);refine aR ?_;refine nc zl (nc zl (nc zt (nc zl (nc zH (nc zH (nc zH (nc zH (nc zH (nc zJ (nc zl (nc zH (nc zH (nc zH (nc zH (nc zH (nc zJ (nc zl (nc zH (nc zH (nc zH (nc zH (nc zJ ?_))))))))))))))))))))));exact a7 ⟨rfl,rfl,rfl,rfl,rfl,rfl,rfl,rfl,by rw [decide_eq_true (Or.inl fK)];rfl,trivial⟩
   ·have g:decide ((i:Int)=(j:Int))=false:=decide_eq_false (by omega);cases uM:x.neg with
    | true =>
     have tQ:x.cw = .row [.b true,x.a.cw,x.b.cw]:=by unfold Lt.cw;rw [uM]
     rw [tQ] at kI;refine aR ?_;refine nc zl (nc zl (nc zt (nc zl (nc (zl (p:=gb)) (nc (zl (p:=gb)) (nc (zq (j:=i) (r:=gb) (H:=kI) (hz:=kD)) (nc (zN (r:=gb)) (nc (zr (r:=gb)) (nc zI (nc zl (nc zH (nc zH (nc zH (nc zH (nc zH (nc zJ (nc zl (nc zH (nc zH (nc zH (nc zH (nc zJ ?_))))))))))))))))))))));exact a7 ⟨rfl,rfl,rfl,rfl,rfl,rfl,rfl,rfl,by rw [decide_eq_true (Or.inr (Or.inl rfl))];rfl,trivial⟩
    | false =>
     have tQ:x.cw = .row [.b false,x.a.cw,x.b.cw]:=by unfold Lt.cw;rw [uM]
     rw [tQ] at kI;cases nE:y.neg with
     | true =>
      have hyc:y.cw = .row [.b true,y.a.cw,y.b.cw]:=by unfold Lt.cw;rw [nE]
      rw [hyc] at gO;refine aR ?_;refine nc zl (nc zl (nc zt (nc zl (nc (zl (p:=gb)) (nc (zl (p:=gb)) (nc (zq (j:=i) (r:=gb) (H:=kI) (hz:=kD)) (nc (zN (r:=gb)) (nc (zr (r:=gb)) (nc zI (nc zl (nc (zl (p:=gb)) (nc (zl (p:=gb)) (nc (zq (j:=j) (r:=gb) (H:=gO) (hz:=kD)) (nc (zN (r:=gb)) (nc (zr (r:=gb)) (nc zI (nc zl (nc zH (nc zH (nc zH (nc zH (nc zJ ?_))))))))))))))))))))));exact a7 ⟨rfl,rfl,rfl,rfl,rfl,rfl,rfl,rfl,by rw [decide_eq_true (Or.inr (Or.inr (Or.inl rfl)))];rfl,trivial⟩
     | false =>
      have hyc:y.cw = .row [.b false,y.a.cw,y.b.cw]:=by unfold Lt.cw;rw [nE]
      rw [hyc] at gO;refine aR ?_;refine nc zl (nc zl (nc zt (nc zl (nc (zl (p:=gb)) (nc (zl (p:=gb)) (nc (zq (j:=i) (r:=gb) (H:=kI) (hz:=kD)) (nc (zN (r:=gb)) (nc (zr (r:=gb)) (nc zI (nc zl (nc (zl (p:=gb)) (nc (zl (p:=gb)) (nc (zq (j:=j) (r:=gb) (H:=gO) (hz:=kD)) (nc (zN (r:=gb)) (nc (zr (r:=gb)) (nc zI (nc zl (nc (zl (p:=gb)) (nc (zl (p:=gb)) (nc (zw (p:=gb) (z:=a2L w c (i:Int) hl (b2M hc))) (nc (zF (r:=gb)) (nc zI ?_))))))))))))))))))))));refine a7 ⟨rfl,rfl,rfl,rfl,rfl,rfl,rfl,rfl,?_,trivial⟩;have e:decide (i=j\/false=true\/false=true\/(i:Int)∉s9 c)=!(decide ((i:Int)∈s9 c)):=by by_cases h:(i:Int)∈s9 c<;>simp [fK,h]
      rw [e];rfl
  refine aC rfl (fun pQ=>?_) (fun pQ=>?_)
  ·have pQ:=of_decide_eq_true (show decide (i=j\/x.neg=true\/y.neg=true\/(i:Int)∉s9 c)=true from pQ);rw [if_pos pQ] at oZ;refine aE ?_;refine aR ?_;refine nc zl (nc zu (nc ze ?_));exact ⟨kB,a7 (gB oZ _ ⟨rfl,rfl,rfl,rfl,trivial⟩)⟩
  have pQ:=of_decide_eq_false (show decide (i=j\/x.neg=true\/y.neg=true\/(i:Int)∉s9 c)=false from pQ);rw [if_neg pQ] at oZ;refine aK ?_;have sp:=Q6 dH p;have sp1:=Q6 dH (1-p);have sq:=Q6 qO q;have sq1:=Q6 qO (1-q);have uN:=b1e sp sq;refine aS (aD (by kernel_rfl) (by kernel_rfl) ?_);refine nc zl (nc zl (nc (zq (j:=i) (H:=kI) (hz:=kD)) (nc zr (nc zl (nc (zw (z:=Y6 w x p)) (nc zC (nc zl (nc zl (nc (zq (j:=j) (H:=gO) (hz:=kD)) (nc zr (nc zl (nc (zw (z:=Y6 w y q)) (nc zC (nc (zw (z:=uN.1 w)) (nc zl (nc zx (nc zx (nc ze (nc ze ?_)))))))))))))))))));refine ⟨by kernel_rfl,?_⟩;unfold b8V at uN;obtain ⟨_,cH,bT,_⟩:=uN;have da:=a0n sp sq sp;have da1:=a0n sp sq sp1;have hkb:=c0y sp sq sp sp1;obtain ⟨ok,kG⟩:∃ ok,ok=(mgT (sdT x p) (sdT y q)).2:=⟨_,rfl⟩
  obtain ⟨ld,xO⟩:∃ ld,ld=a2V (b7 (mgS (sdT x p) (sdT y q)) (sdT x p)) (b7 (mgS (sdT x p) (sdT y q)) (sdT x (1-p))):=⟨_,rfl⟩
  obtain ⟨dd,lM⟩:∃ dd,dd=dT (sdT x p) (sdT y q):=⟨_,rfl⟩
  have lF:=xO;rw [b9w,<-hkb] at lF;rw [<-kG,<-xO,<-lM] at oZ;rw [<-lM] at cH bT da da1 lF;refine AWp.wk (a7 (s':=[(0,.val (.lst (c.map Lt.cv))),(3,.own (.lst (A.map V5)) 200130),(200130,.tok 22 1),(4,.val (.i k)),(5,.val (.i (i:Int))),(6,.val (.i (j:Int))),(7,.val (.i (p:Int))),(8,.val (.i (q:Int))),(9,.val (.lst (dd.map Bd.cv))),(10,.val (.b ok))]) ⟨rfl,rfl,rfl,rfl,rfl,rfl,rfl,rfl,by rw [lM];rfl,by rw [kG];rfl,trivial⟩) ?_;refine aS (aS (aR ?_));refine nc zl (nc zF ?_);cases ok with
  | false =>
   rw [if_neg (by rintro ⟨h,_⟩;cases h)] at oZ;refine aC rfl (fun _=>?_) (fun h=>by cases h);refine aE ?_;refine aR ?_;refine nc zl (nc zu (nc ze ?_));exact ⟨kB,a7 (gB oZ _ ⟨rfl,rfl,rfl,rfl,trivial⟩)⟩
  | true =>
  refine aC rfl (fun h=>by cases h) (fun _=>aK ?_);have xT:=fun w=>a6V w (j9 dd (sdT x p)) (j9 dd (sdT x (1-p))) da.1 da.2.1 (by have:=da.2.2.1;omega) da1.1 da1.2.1 (by have:=da1.2.2.1;omega);obtain ⟨kk,kS⟩:∃ kk,kk=kb (j9 dd (sdT x p)) (j9 dd (sdT x (1-p))):=⟨_,rfl⟩
  rw [<-kS] at xT lF;refine aS (aD (by kernel_rfl) (by kernel_rfl) ?_);refine nc zl (nc zl (nc zl (nc (zq (j:=i) (H:=kI) (hz:=kD)) (nc zr (nc zl (nc (zw (z:=Y6 w x p)) (nc (zw (z:=y9 w dd cH _ sp.1.1 sp.1.2)) (nc zl (nc zl (nc zl (nc (zq (j:=i) (H:=kI) (hz:=kD)) (nc zr (nc zl (nc zj (nc (zw (z:=a0y w x _ (1-p) (by omega))) (nc (zw (z:=y9 w dd cH _ sp1.1.1 sp1.1.2)) (nc (zw (z:=xT w)) (nc ze ?_))))))))))))))))));refine ⟨by kernel_rfl,?_⟩;refine AWp.wk (a7 (s':=[(0,.val (.lst (c.map Lt.cv))),(3,.own (.lst (A.map V5)) 200130),(200130,.tok 22 1),(4,.val (.i k)),(5,.val (.i (i:Int))),(6,.val (.i (j:Int))),(7,.val (.i (p:Int))),(8,.val (.i (q:Int))),(9,.val (.lst (dd.map Bd.cv))),(11,.val (.i kk))]) ⟨rfl,rfl,rfl,rfl,rfl,rfl,rfl,rfl,rfl,rfl,trivial⟩) ?_;refine aS (T8 [(0,.val (.lst (c.map Lt.cv))),(3,.own (.lst (A.map V5)) 200130),(200130,.tok 22 1),(4,.val (.i k)),(5,.val (.i (i:Int))),(6,.val (.i (j:Int))),(7,.val (.i (p:Int))),(8,.val (.i (q:Int))),(9,.val (.lst (dd.map Bd.cv))),(104,.val (.b (decide (kk=0\/kk = -1))))] ?_ ?_)
  ·by_cases h0:kk=0
   ·have g:decide (kk=0)=true:=decide_eq_true h0;refine aR ?_;refine nc zl (nc zt (nc zl (nc zH (nc zH (nc zJ ?_)))));exact a7 ⟨rfl,rfl,rfl,rfl,rfl,rfl,rfl,rfl,rfl,by rw [decide_eq_true (Or.inl h0)];rfl,trivial⟩
   ·have g:decide (kk=0)=false:=decide_eq_false h0;refine aR ?_;refine nc zl (nc zt (nc zl (nc (zl (p:=gb)) (nc (zt (r:=gb)) (nc zI ?_)))));refine a7 ⟨rfl,rfl,rfl,rfl,rfl,rfl,rfl,rfl,rfl,?_,trivial⟩;have e:decide (kk=0\/kk = -1)=decide (kk = -1):=by simp [h0]
    rw [e];rfl
  refine aC rfl (fun hg=>?_) (fun hg=>?_)
  ·have hg:decide (kk=0\/kk = -1)=true:=hg;rw [hg] at lF;rw [if_neg (by rintro ⟨_,h⟩;rw [lF] at h;cases h)] at oZ;refine aE ?_;refine aR ?_;refine nc zl (nc zu (nc ze ?_));exact ⟨kB,a7 (gB oZ _ ⟨rfl,rfl,rfl,rfl,trivial⟩)⟩
  have hg:decide (kk=0\/kk = -1)=false:=hg;rw [hg] at lF;rw [if_pos ⟨rfl,lF⟩] at oZ;have uL:=a5s c (i:Int) (by omega);rw [b1Z kY] at uL;have lU:=I7 kY;have hom:((y7 c i).map Lt.cv).length=(y7 c i).length:=length_map ..;have hosz:=Lt.size_all (y7 c i);obtain ⟨lt,gE⟩:∃ lt:Lt,lt=⟨true,sdT x (1-p),sdT y (1-q)⟩:=⟨_,rfl⟩
  have hltc:lt.cw = .row [.b true,(sdT x (1-p)).cw,(sdT y (1-q)).cw]:=by rw [gE]
  rw [<-gE] at oZ;refine aK ?_;refine aS (aD (by kernel_rfl) (by kernel_rfl) ?_);refine nc zl (nc zl ?_);refine nc (zX (z:=uL) (G:=fun k v h=>by first | (rw [hW.1] at h;cases h) | (have h2:=hU k v h;cases h2))) ?_;refine nc zl (nc zl (nc (zq (j:=i) (H:=kI) (hz:=kD)) (nc zr (nc zl (nc zj (nc (zw (z:=a0y w x _ (1-p) (by omega))) (nc zl (nc zl (nc (zq (j:=j) (H:=gO) (hz:=kD)) (nc zr (nc zl (nc zj (nc (zw (z:=a0y w y _ (1-q) (by omega))) (nc (zbL b4Z) (nc zC (nc (zbb 300124) (nc ze ?_)))))))))))))))));refine ⟨by kernel_rfl,?_⟩;refine AWp.wk ((a7 (s':=[(0,.val (.lst (c.map Lt.cv))),(3,.own (.lst (A.map V5)) 200130),(200130,.tok 22 1),(4,.val (.i k)),(5,.val (.i (i:Int))),(6,.val (.i (j:Int))),(7,.val (.i (p:Int))),(8,.val (.i (q:Int))),(9,.val (.lst (dd.map Bd.cv))),(12,.sl 300124 0 (y7 c i++[lt]).length 5),(300124,.mrow 53 5 ((y7 c i++[lt]).map Lt.cv))]) ⟨rfl,rfl,rfl,rfl,rfl,rfl,rfl,rfl,rfl,?_,?_,trivial⟩).trans (a5n 12 300124 (e:=53) (z:=5) (lo:=0) (len:=(y7 c i++[lt]).length) (l:=(y7 c i++[lt]).map Lt.cv) rfl rfl rfl (.inl hW.2) (by simp) (s':=[(0,.val (.lst (c.map Lt.cv))),(3,.own (.lst (A.map V5)) 200130),(200130,.tok 22 1),(4,.val (.i k)),(5,.val (.i (i:Int))),(6,.val (.i (j:Int))),(7,.val (.i (p:Int))),(8,.val (.i (q:Int))),(9,.val (.lst (dd.map Bd.cv)))]) ⟨rfl,rfl,rfl,rfl,rfl,rfl,rfl,rfl,rfl,trivial⟩ rfl)) ?_
  ·show some (AV.sl _ _ _ _)=some (AV.sl _ _ _ _);rw [length_append,<-hom];rfl
  ·show some (AV.mrow _ _ _)=some (AV.mrow _ _ _);rw [List.map_append,List.map_singleton];show _=some (AV.mrow _ _ (_++[lt.cw]));rw [hltc];rfl
  have jY:(((y7 c i++[lt]).map Lt.cv).drop 0).take (y7 c i++[lt]).length=(y7 c i++[lt]).map Lt.cv:=by rw [List.drop_zero,List.take_of_length_le (by simp)]
  rw [jY];have sM:∀ l∈y7 c i++[lt],(l.a.rng/\l.a.ok)/\l.b.rng/\l.b.ok:=fun l hl=>by
   rcases mem_append.1 hl with h | h
   ·exact a1P hc l (W9 h)
   ·rw [List.mem_singleton] at h;rw [h,gE];exact ⟨sp1.1,sq1.1⟩
  refine aR ?_;refine nc zl (nc zl (nc zl (nc (zw (z:=a2v w dd (y7 c i++[lt]) cH (by simp;omega) sM)) (nc zC (nc zD (nc ze ?_))))));refine aR ?_;refine nc zl (nc zu (nc ze ?_));refine ⟨kB,(a7 (s':=[(0,.val (.lst (c.map Lt.cv))),(3,.own (.lst ((a2E c (k+1)).map V5)) 300130),(300130,.tok 22 1),(4,.val (.i ((k+1:Nat):Int)))]) ⟨rfl,?_,rfl,rfl,trivial⟩).trans (o8 300130 200130 rfl rfl rfl rfl)⟩;show some (AV.own (.lst _) _)=some (AV.own (.lst _) _);rw [hS,oZ,List.map_append (f:=V5)];rfl
 ·have kB:k=4*c.length*c.length:=by
   have h:¬ (k:Int)<4*(c.length:Int)*(c.length:Int):=by simpa using kA
   have:¬ k<4*c.length*c.length:=fun h2=>h (by rw [<-hBi];exact Int.ofNat_lt.2 h2);omega
  subst kB;refine aE ?_;refine aS (aR ?_);refine nc zl (nc ze ?_);exact aT (And.intro (.inr rfl) rfl)
def fa5:Tm:=⟨2,[⟨1,[]⟩]⟩
def vx5:Tm:=⟨-1,[]⟩
def px5:Tm:=⟨3,[⟨-1,[]⟩]⟩
def tt5:Tm:=⟨0,[]⟩
def cl5:List Lt:=[⟨true,vx5,fa5⟩,⟨false,px5,tt5⟩]
theorem c0u {t:Tm} (h1:t.rng) (h2:t.ok) (h3:t.size<=10):t.ten:=⟨⟨h1,h2⟩,h3⟩
theorem b2P:fa5.ten:=c0u (by simp [fa5,Tm.rng]) (by simp [fa5,Tm.ok]) (by simp [fa5,Tm.size,Tm.flat])
theorem b2k:vx5.ten:=c0u (by simp [vx5,Tm.rng]) (by simp [vx5,Tm.ok]) (by simp [vx5,Tm.size,Tm.flat])
theorem b9D:px5.ten:=c0u (by simp [px5,Tm.rng]) (by simp [px5,Tm.ok]) (by simp [px5,Tm.size,Tm.flat])
theorem b9z:tt5.ten:=c0u (by simp [tt5,Tm.rng]) (by simp [tt5,Tm.ok]) (by simp [tt5,Tm.size,Tm.flat])
theorem b9Q:∀ l∈cl5,l.ten:=fun l hl=>by
 simp only [cl5,List.mem_cons,List.not_mem_nil,or_false] at hl;rcases hl with rfl | rfl
 ·exact ⟨b2k,b2P⟩
 ·exact ⟨b9D,b9z⟩
theorem mg5:(mgT vx5 fa5).2=true/\mgS vx5 fa5 0=fa5:=by
 have hT:=a1R b2k b2P;have jI:∀ σ:Int->Tm,b7 σ fa5=fa5:=fun σ=>by simp [fa5,b7]
 have cW:∀ σ:Int->Tm,b7 σ vx5=(σ 0).strip:=fun σ=>by simp [vx5,b7]
 have uB:fa5.strip=fa5:=by simp [fa5,Tm.strip]
 have h2:(mgT vx5 fa5).2=true:=by
  cases h:(mgT vx5 fa5).2 with
  | true=>rfl
  | false =>
   exfalso;refine (hT.no h).2 (fun _=>fa5) ?_;rw [G7,jI,cW,uB]
 refine ⟨h2,?_⟩;have hm:=hT.yes h2;have hu:=hm.uni;rw [G7,jI,cW,hm.bare 0 (by omega)] at hu;exact hu
theorem hv5:s9 cl5=[0]:=by
 have h:hvK cl5 2=(0,wtL ⟨true,vx5,fa5⟩):=by
  have h1:hvK cl5 1=(0,wtL ⟨true,vx5,fa5⟩):=by unfold hvK;show (if (⟨true,vx5,fa5⟩:Lt).neg=true/\(hvK cl5 0).2<wtL ⟨true,vx5,fa5⟩ then _ else _)=_;rw [if_pos ⟨rfl,a7N _⟩];rfl
  unfold hvK;show (if (⟨false,px5,tt5⟩:Lt).neg=true/\_ then _ else hvK cl5 1)=_;rw [if_neg (by intro h;cases h.1),h1]
 unfold s9;show (if (hvK cl5 2).1>=0 then _ else _)=_;rw [h,if_pos (by decide)];show [(hvK cl5 2).1]=[0];rw [h]
theorem c3a:S2 cl5=[[⟨false,⟨3,[fa5]⟩,tt5⟩]]:=by
 obtain ⟨h1,h2⟩:=mg5;unfold S2;rw [hv5];have h3:b0j cl5 (0:Int).toNat=some [⟨false,⟨3,[fa5]⟩,tt5⟩]:=by
  unfold b0j;show (if (⟨true,vx5,fa5⟩:Lt).neg=true/\(mgT vx5 fa5).2=true then some ((y7 cl5 0).map (Lt.rep (mgS vx5 fa5))) else none)=_;rw [if_pos ⟨rfl,h1⟩];have e:y7 cl5 0=[⟨false,px5,tt5⟩]:=rfl;rw [e];have e2:b7 (mgS vx5 fa5) px5=⟨3,[fa5]⟩:=by simp [px5,b7,h2];simp [fa5,Tm.strip]
  have e3:b7 (mgS vx5 fa5) tt5=tt5:=by simp [tt5,b7]
  simp only [List.map_cons,List.map_nil,Lt.rep,e2,e3]
 rw [List.filterMap_cons];simp only [h3];rfl
set_option maxHeartbeats 2000000 in
theorem a8v (W:World):AFun Tryz.prog W 7 [] (.val (.b true)):=by
 have hR:=fun w=>b0h w cl5 (by simp [cl5]) b9Q;rw [c3a] at hR;have hc5:cl5.map Lt.cv=[.row [.b true,.row [.i (-1),.lst []],.row [.i 2,.lst [.row [.i 1,.lst []]]]],.row [.b false,.row [.i 3,.lst [.row [.i (-1),.lst []]]],.row [.i 0,.lst []]]]:=by simp [cl5,vx5,fa5,px5,tt5,Lt.cv,Tm.cv_eq]
 have hr5:([[⟨false,⟨3,[fa5]⟩,tt5⟩]]:List (List Lt)).map V5=[.lst [.row [.b false,.row [.i 3,.lst [.row [.i 2,.lst [.row [.i 1,.lst []]]]]],.row [.i 0,.lst []]]]]:=by simp [V5,fa5,tt5,Lt.cv,Tm.cv_eq]
 rw [hc5,hr5] at hR;refine a9 (rs:=[.b true]) Tryz.func7 Tryz.ntmps7 rfl rfl rfl rfl ?_;intro w U hW;refine aS (aR ?_);refine nc ze ?_;refine aS (aR ?_);refine nc zbP (nc zC (nc zn (nc zk (nc zo ?_))));refine aS (aR ?_);refine nc zbP (nc zy (nc (zbL b4Z) (nc zbP (nc zC (nc (zbL [.i 0,.lst []]) (nc (zbL b4Z) (nc zC (nc (zw (z:=hR w)) (nc ze ?_)))))))));refine aS (aR ?_);refine nc zl (nc zp (nc zt (nc zl (nc (zl (p:=gb)) (nc (zq (j:=0) (r:=gb) (H:=rfl) (hz:=sZ rfl)) (nc (zr (r:=gb)) (nc (zp (r:=gb)) (nc (zt (r:=gb)) (nc zJ (nc zl (nc (zl (p:=gb)) (nc (zq (j:=0) (r:=gb) (H:=rfl) (hz:=sZ rfl)) (nc (zr (r:=gb)) (nc (zq (j:=0) (r:=gb) (H:=rfl) (hz:=sZ rfl)) (nc (zN (r:=gb)) (nc (zN (r:=gb)) (nc (zr (r:=gb)) (nc (zq (j:=0) (r:=gb) (H:=rfl) (hz:=sZ rfl)) (nc (zN (r:=gb)) (nc (zr (r:=gb)) (nc (zt (r:=gb)) (nc zJ (nc ze ?_)))))))))))))))))))))));exact aT (And.intro (.inr rfl) rfl)
theorem b6S {c:List Lt} {most:Nat} {size:Int} (h0:0<=size) (h1:size<=10) (h:Y2 c most size=true):c.length<=most/\∀ l∈c,l.ten:=by
 obtain ⟨h2,h3⟩:=a8s h0 (by omega) h;refine ⟨h2,fun l hl=>?_⟩;obtain ⟨⟨⟨_,a1,a2⟩,_,a3⟩,⟨⟨_,b1,b2⟩,_,b3⟩⟩:=h3 l hl;exact ⟨⟨⟨a1,a2⟩,by omega⟩,⟨b1,b2⟩,by omega⟩
def Tm.big5 (t:Tm):Prop:=t.rng/\t.ok/\t.size<=29550
def Lt.big5 (l:Lt):Prop:=l.a.big5/\l.b.big5
theorem a9z {a b:Tm} (ha:a.ten) (hb:b.ten) {c:List Lt} (hc:∀ l∈c,l.ten):∀ l∈c.map (Lt.rep (mgS a b)),l.big5:=fun l hl=>by
 obtain ⟨x,hx,rfl⟩:=mem_map.1 hl;exact ⟨a8d ha hb (hc x hx).1,a8d ha hb (hc x hx).2⟩
theorem b2n {a b:Tm} (ha:a.ten) (hb:b.ten) {c:List Lt} (hc:∀ l∈c,l.ten):∀ l∈c.map (a1c (dT a b)),l.a.ok/\l.b.ok:=fun l hl=>by
 obtain ⟨x,hx,rfl⟩:=mem_map.1 hl;exact ⟨(a0n ha hb (hc x hx).1).2.1,(a0n ha hb (hc x hx).2).2.1⟩
theorem b8F {c d:List Lt} (h:d∈S2 c):∃ n x,n<c.length/\(n:Int)∈s9 c/\c[n]?=some x/\x.neg=true/\(mgT x.a x.b).2=true/\d=(y7 c n).map (Lt.rep (mgS x.a x.b)):=by
 obtain ⟨z,hz,he⟩:=mem_filterMap.1 h;obtain ⟨h0,h1⟩:=a8e hz;unfold b0j at he;split at he
 ·rename_i x hx;split at he
  ·rename_i hg;exact ⟨z.toNat,x,by omega,by rw [Int.toNat_of_nonneg h0];exact hz,hx,hg.1,hg.2,(Option.some.inj he).symm⟩
  ·cases he
 ·cases he
theorem b8n {c d:List Lt} (hc:∀ l∈c,l.ten) (h:d∈S2 c):d.length+1=c.length/\∀ l∈d,l.big5:=by
 obtain ⟨n,x,hn,_,hx,_,_,rfl⟩:=b8F h;have dH:=hc x (mem_of_getElem? hx);exact ⟨by rw [length_map];exact I7 hn,a9z dH.1 dH.2 (a0d hc n)⟩
theorem b8C {c d:List Lt} (hc:∀ l∈c,l.ten) (h:d∈a4u c):∃ (n:Nat) (p q:Tm×Tm),n<c.length/\(p.1.ten/\p.2.ten)/\(q.1.ten/\q.2.ten)/\(mgT p.1 q.1).2=true/\d=(y7 c n++[(⟨true,p.2,q.2⟩:Lt)]).map (Lt.rep (mgS p.1 q.1)):=by
 obtain ⟨z,hz,he⟩:=mem_flatMap.1 h;obtain ⟨h0,h1⟩:=a8e hz;unfold a6r at he;split at he
 ·rename_i x hx;split at he
  ·cases he
  ·obtain ⟨m,hm,he⟩:=mem_flatMap.1 he;unfold a3H at he;split at he
   ·rename_i y hy;split at he
    ·obtain ⟨p,hp,he⟩:=mem_flatMap.1 he;obtain ⟨q,hq,he⟩:=mem_filterMap.1 he;unfold a9J at he;split at he
     ·rename_i hg;exact ⟨z.toNat,p,q,by omega,a3n (hc x (mem_of_getElem? hx)) p hp,a3n (hc y (mem_of_getElem? hy)) q hq,hg.1,(Option.some.inj he).symm⟩
     ·cases he
    ·cases he
   ·cases he
 ·cases he
theorem b9J {c d:List Lt} (hc:∀ l∈c,l.ten) (h:d∈a4u c):d.length=c.length/\(∀ l∈d,l.big5)/\∃ l,d[c.length-1]?=some l/\l.neg=true:=by
 obtain ⟨n,p,q,hn,hp,hq,_,rfl⟩:=b8C hc h;have lU:=I7 hn;refine ⟨by rw [length_map,length_append];simp;omega,a9z hp.1 hq.1 fun l hl=>?_,Lt.rep (mgS p.1 q.1) ⟨true,p.2,q.2⟩,?_,rfl⟩
 ·rcases mem_append.1 hl with h | h
  ·exact a0d hc n l h
  ·rw [List.mem_singleton] at h;subst h;exact ⟨hp.2,hq.2⟩
 ·rw [List.getElem?_map,List.getElem?_append_right (by omega),show c.length-1-(y7 c n).length=0 by omega];rfl
theorem b5h {c d:List Lt} (hc:∀ l∈c,l.ten) {k:Nat} (h:d∈a2w c k):∀ l∈d,l.a.ok/\l.b.ok:=by
 obtain ⟨n,_,he⟩:=mem_filterMap.1 h;unfold a5J at he;split at he
 ·rename_i x hx;split at he
  ·have dH:=hc x (mem_of_getElem? hx);rw [<-Option.some.inj he];exact b2n dH.1 dH.2 (a0d hc n)
  ·cases he
 ·cases he
theorem b6e {c d:List Lt} (hc:∀ l∈c,l.ten) {k:Nat} (h:d∈a2E c k):∀ l∈d,l.a.ok/\l.b.ok:=by
 obtain ⟨n,_,he⟩:=mem_filterMap.1 h;unfold a2T N9 at he;split at he
 ·rename_i x y hx hy;have dH:=hc x (mem_of_getElem? hx);have qO:=hc y (mem_of_getElem? hy);split at he
  ·cases he
  ·split at he
   ·rw [<-Option.some.inj he];refine b2n (Q6 dH _) (Q6 qO _) fun l hl=>?_;rcases mem_append.1 hl with h | h
    ·exact a0d hc _ l h
    ·rw [List.mem_singleton] at h;subst h;exact ⟨Q6 dH _,Q6 qO _⟩
   ·cases he
 ·cases he
theorem b9b (c:List Lt):(S2 c).length<=c.length+1:=Nat.le_trans (List.length_filterMap_le _ _) (a3F c)
theorem b8t (c:List Lt):(a4u c).length<=4*c.length*(c.length+1):=by
 have h:a4u c=a0Q c (s9 c) (s9 c).length:=by unfold a4u a0Q;rw [List.take_length]
 rw [h];exact Nat.le_trans (a4J c _ _) (Nat.mul_le_mul_left _ (a3F c))
theorem c1k (l:Lt):l.strip.strip=l.strip:=by
 unfold Lt.strip;simp only [Tm.strip_strip]
theorem a3Z (c:List Lt):(c.map Lt.strip).map Lt.strip=c.map Lt.strip:=by
 rw [List.map_map];exact List.map_congr_left fun l _=>c1k l
theorem c2L (L:List (List Lt)):stC (stC L)=stC L:=by
 unfold stC;rw [List.map_map];exact List.map_congr_left fun c _=>a3Z c
theorem b2y {L:List (List Lt)} {N:Nat} (h:∀ d∈L,d.length<=N/\∀ l∈d,l.a.ok/\l.b.ok):∀ d∈stC L,d.length<=N/\∀ l∈d,l.a.ok/\l.b.ok:=fun d hd=>by
 obtain ⟨e,he,rfl⟩:=mem_map.1 hd;obtain ⟨h1,h2⟩:=h e he;refine ⟨by rw [length_map];exact h1,fun l hl=>?_⟩;obtain ⟨x,hx,rfl⟩:=mem_map.1 hl;exact ⟨Tm.strip_ok (h2 x hx).1,Tm.strip_ok (h2 x hx).2⟩
end Go.Proofs.YtglmoficcjphaaaGreat
