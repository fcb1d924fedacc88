/-
 OrFns1 ClMath OrFns2 ClLen TmAlive TmAb6 ClTaut OrFns3 AbMapT AbQ SbQ AbBackB SbImg SbApM ClSides
-/
import Derived.Test.YtglmoficcjphaaaGreatMg9
import Derived.Test.YtglmoficcjphaaaGreatMg4
import Derived.Test.YtglmoficcjphaaaGreatMg2
import Derived.Test.YtglmoficcjphaaaGreatMg3
import Derived.Test.YtglmoficcjphaaaGreatMg7
namespace Go.Proofs.YtglmoficcjphaaaGreat
open List (append_nil append_toArray cons_append getElem?_eq_getElem getElem?_map getElem_mem length_cons length_drop length_map length_nil length_take map_append map_cons map_nil map_take mem_append_left mem_append_right mem_map mem_of_getElem? nil_append push_toArray replicate_zero size_toArray take_add_one take_length)
open Go.RowKit
set_option linter.unusedVariables false
set_option linter.unusedSimpArgs false
set_option maxRecDepth 100000
def zTm:Tm:=⟨0,[]⟩
theorem b2M (a:List Tm) (k i:Nat) (hi:i<a.length) :
  (((a++List.replicate k zTm).map Tm.cv).take i++((((a++List.replicate k zTm).map Tm.cv).drop (i+1)).take (a.length-(i+1))++((a++List.replicate k zTm).map Tm.cv).drop (i+(a.length-(i+1))))).take (a.length-1)++(List.replicate (a.length-(a.length-1)) zTm.cv++(((a++List.replicate k zTm).map Tm.cv).take i++((((a++List.replicate k zTm).map Tm.cv).drop (i+1)).take (a.length-(i+1))++((a++List.replicate k zTm).map Tm.cv).drop (i+(a.length-(i+1))))).drop (a.length-1+(a.length-(a.length-1))))=(a.eraseIdx i++List.replicate (k+1) zTm).map Tm.cv:=by
 have e1:((a++List.replicate k zTm).map Tm.cv).take i=(a.take i).map Tm.cv:=by rw [<-map_take,List.take_append_of_le_length (by omega)]
 have e2:(((a++List.replicate k zTm).map Tm.cv).drop (i+1)).take (a.length-(i+1))=(a.drop (i+1)).map Tm.cv:=by
  rw [<-List.map_drop,<-map_take,List.drop_append_of_le_length (by omega),List.take_append_of_le_length (by rw [length_drop];exact Nat.le_refl _),List.take_of_length_le (by rw [length_drop];exact Nat.le_refl _)]
 obtain ⟨E,hE⟩:∃ E,E=(a.eraseIdx i).map Tm.cv:=⟨_,rfl⟩
 have hEl:E.length=a.length-1:=by rw [hE,length_map,List.length_eraseIdx_of_lt hi]
 have e3:(a.take i).map Tm.cv++((a.drop (i+1)).map Tm.cv++((a++List.replicate k zTm).map Tm.cv).drop (i+(a.length-(i+1))))=E++((a++List.replicate k zTm).map Tm.cv).drop (a.length-1):=by
  rw [<-List.append_assoc,<-map_append,<-List.eraseIdx_eq_take_drop_succ,<-hE,show i+(a.length-(i+1))=a.length-1 by omega]
 rw [e1,e2,e3];have e4:a.length-(a.length-1)=1:=by omega
 have e5:a.length-1+1=a.length:=by omega
 have e7:(a.eraseIdx i++List.replicate (k+1) zTm).map Tm.cv=E++List.replicate (k+1) zTm.cv:=by rw [map_append,<-hE,List.map_replicate]
 rw [e4,e5,<-hEl,List.take_left,e7];have e6:(E++((a++List.replicate k zTm).map Tm.cv).drop E.length).drop a.length=List.replicate k zTm.cv:=by
  rw [List.drop_append,List.drop_eq_nil_of_le (by omega),nil_append,List.drop_drop,show E.length+(a.length-E.length)=a.length by omega,<-List.map_drop,List.drop_left,List.map_replicate]
 rw [e6,List.replicate_succ];rfl
theorem a6Y (a:List Tm) (k:Nat):((a++List.replicate k zTm).map Tm.cv).take a.length=a.map Tm.cv:=by rw [<-map_take,List.take_left]
theorem a9i (W:World) (p:Tm->Bool) (fc:CV) (c:List Tm) (hl:c.length<=1000000) (hc:∀ W,∀ x∈c,N4 Tryz.prog W fc [x.cw] (.val (.b (p x)))):AFun Tryz.prog W 147 [.lst (c.map Tm.cv),fc] (.val (.i (match c.findIdx? p with | some i=>(i:Int) | none => -1))):=by
 have hsz:=Tm.size_all c;obtain ⟨R,hR⟩:∃ R:Int,R=match c.findIdx? p with | some i=>(i:Int) | none => -1:=⟨_,rfl⟩
 rw [<-hR];refine b9 (rs:=[.i R]) Tryz.func147 Tryz.ntmps147 rfl rfl rfl rfl ?_;intro w U hW;refine aS (aR ?_);refine nc ze ?_;refine aS (aS (aR ?_));refine nc zl (nc zp (nc zl ?_));refine aB (y9 c.length (fun k=>∀ x∈c.take k,p x=false) (fun k=>[(0,.val (.lst (c.map Tm.cv))),(1,.val fc),(7,.val (.i (c.map Tm.cv).length)),(8,.val (.i k))]) (a7 ⟨rfl,rfl,rfl,rfl,trivial⟩) (by simp) ?_);intro k hk hI;refine aS (aR ?_);refine nc zi ?_;refine aS (aC rfl (fun hlt=>?_) (fun hlt=>?_))
 ·have hkl:k<c.length:=by simpa using hlt
  obtain ⟨x,hx⟩:∃ x,c[k]?=some x:=⟨c[k],getElem?_eq_getElem hkl⟩
  have hx':=Tm.map_at hx;have hxm:=mem_of_getElem? hx;refine aK ?_;refine aS (aB (aS (aR ?_)));refine nc zl (nc ze ?_);refine aS (aR ?_);refine nc zl (nc zl (nc zl (nc (zq (j:=k) (H:=hx') (hz:=hsz)) (nc zr (nc (zO (E:=hc w x hxm)) ?_)))));refine aC rfl (fun hp=>?_) (fun hp=>?_)
  ·have hRk:R=k:=by
    rw [hR];have:c.findIdx? p=some k:=by
     rw [List.findIdx?_eq_some_iff_getElem];obtain ⟨hk2,e⟩:=List.getElem?_eq_some_iff.1 hx;refine ⟨hk2,by rw [e];exact hp,fun j hj=>?_⟩;have:=hI c[j] (List.mem_take_iff_getElem.2 ⟨j,by omega,rfl⟩);simpa using this
    rw [this]
   rw [hRk];refine aS (aR ?_);refine nc zl (nc ze ?_);exact aT (And.intro (.inr rfl) rfl)
  ·refine aK ?_;refine aR ?_;refine nc zu (nc zl ?_);refine ⟨hkl,?_,a7 ⟨rfl,rfl,rfl,rfl,trivial⟩⟩;intro y hy;rw [take_add_one,hx,List.mem_append] at hy;rcases hy with hy | hy
   ·exact hI y hy
   ·simp at hy;rw [hy];exact hp
 ·have hkl:k=c.length:=by
   have:¬ k<c.length:=by simpa using hlt
   omega
  subst hkl;rw [take_length] at hI;have hRn:R = -1:=by
   rw [hR,List.findIdx?_eq_none_iff.2 fun x hx=>by rw [hI x hx]]
  rw [hRn];refine aE ?_;refine aS (aR ?_);refine nc ze ?_;exact aT (And.intro (.inr rfl) rfl)
theorem b0a (W:World) (p:Tm->Bool) (fc:CV) (c:List Tm) (hl:c.length<=1000000) (hc:∀ W,∀ x∈c,N4 Tryz.prog W fc [x.cw] (.val (.b (p x)))):AFun Tryz.prog W 126 [.lst (c.map Tm.cv),fc] (.val (.b (c.any p))):=by
 have e:decide ((match c.findIdx? p with | some i=>(i:Int) | none => -1)>=0)=c.any p:=by
  cases h:c.findIdx? p with
  | none =>
   have h1:=List.findIdx?_eq_none_iff.1 h;have:c.any p=false:=by
    rw [List.any_eq_false];intro x hx;rw [h1 x hx];simp
   rw [this];rfl
  | some i =>
   obtain ⟨hi,hp,_⟩:=List.findIdx?_eq_some_iff_getElem.1 h;have:c.any p=true:=List.any_eq_true.2 ⟨_,getElem_mem hi,hp⟩;rw [this];simp
 refine b9 (rs:=[.b (c.any p)]) Tryz.func126 Tryz.ntmps126 rfl rfl rfl rfl ?_;intro w U hW;refine aS (aR ?_);refine nc ze ?_;refine aS (aR ?_);refine nc zl (nc zl (nc (zw (z:=a9i w p fc c hl hc)) (nc zbi (nc ze ?_))));rw [e];exact aT (And.intro (.inr rfl) rfl)
theorem a5b (a:List Tm) (k i:Nat) (hi:i<a.length) (hb:a.length+k<=1000000):r7 Tryz.prog 149 [(400001,.mrow 42 2 ((a++List.replicate k zTm).map Tm.cv))] [.sl 400001 0 a.length 2,.val (.i i),.val (.i ((i:Int)+1))] (.sl 400001 0 (a.length-1) 2) [(400001,.mrow 42 2 ((a.eraseIdx i++List.replicate (k+1) zTm).map Tm.cv))]:=by
 refine l8 Tryz.func149 Tryz.ntmps149 rfl rfl rfl rfl rfl rfl ?_;intro w U hU;obtain ⟨l,hl⟩:∃ l,l=(a++List.replicate k zTm).map Tm.cv:=⟨_,rfl⟩
 have hll:l.length=a.length+k:=by rw [hl];simp
 rw [<-hl];refine aS (aR ?_);refine nc ze ?_;refine aS (aR ?_);refine nc zl (nc zl (nc zl (nc zl (nc zY (nc (zbC (i) (i+1) (a.length)) ?_)))));refine aS (aS (aR ?_));refine nc zl (nc zl (nc zt ?_));refine aC rfl (fun h=>?_) (fun h=>?_)
 ·have h:decide ((i:Int)=(i:Int)+1)=true:=h;have:=of_decide_eq_true h;omega
 refine aK ?_;refine AWp.wk (a7 (s':=[(0,.sl 400001 0 a.length 2),(1,.val (.i i)),(2,.val (.i ((i:Int)+1))),(400001,.mrow 42 2 l)]) ⟨rfl,rfl,rfl,rfl,trivial⟩) ?_;refine aS (aR ?_);refine nc zl (nc zY (nc ze ?_));refine aS (aD (by kernel_rfl) (by kernel_rfl) ?_);refine nc zl (nc zl (nc (z4 (j:=i)) (nc zl (nc zl (nc (zZ (j:=i+1)) (nc zbD (nc ze ?_)))))));refine ⟨by kernel_rfl,?_⟩;obtain ⟨r1,hr1⟩:∃ r1,r1=l.take i++((l.drop (0+(i+1))).take (a.length-(i+1))++l.drop (i+(a.length-(i+1)))):=⟨_,rfl⟩
 have hr1l:r1.length=l.length:=by rw [hr1];simp only [List.length_append,length_take,length_drop];omega
 have e1:i+(a.length-(i+1))=a.length-1:=by omega
 refine AWp.wk (a7 (s':=[(0,.sl 400001 0 (a.length-1) 2),(7,.val (.i a.length)),(400001,.mrow 42 2 r1)]) ⟨by rw [<-e1];rfl,rfl,by rw [hr1];rfl,trivial⟩) ?_;refine aS (aR ?_);refine nc zl (nc zl (nc zY (nc zl (nc (zbE (a.length-1) (a.length)) (nc z3 ?_)))));refine aS (aR ?_);refine nc zl (nc ze ?_);refine aT ⟨.inr rfl,_,Wk.refl _,rfl,?_,trivial⟩;show some (AV.mrow _ _ _)=some (AV.mrow _ _ _);have e2:=b2M a k i hi;rw [<-hl] at e2;rw [<-e2,hr1,Nat.zero_add];rfl
theorem a5j (a:List Tm) (k i:Nat) (hi:i<a.length) (hb:a.length+k<=1000000):r7 Tryz.prog 149 [(400002,.mrow 42 2 ((a++List.replicate k zTm).map Tm.cv))] [.sl 400002 0 a.length 2,.val (.i i),.val (.i ((i:Int)+1))] (.sl 400002 0 (a.length-1) 2) [(400002,.mrow 42 2 ((a.eraseIdx i++List.replicate (k+1) zTm).map Tm.cv))]:=by
 refine l8 Tryz.func149 Tryz.ntmps149 rfl rfl rfl rfl rfl rfl ?_;intro w U hU;obtain ⟨l,hl⟩:∃ l,l=(a++List.replicate k zTm).map Tm.cv:=⟨_,rfl⟩
 have hll:l.length=a.length+k:=by rw [hl];simp
 rw [<-hl];refine aS (aR ?_);refine nc ze ?_;refine aS (aR ?_);refine nc zl (nc zl (nc zl (nc zl (nc zY (nc (zbC (i) (i+1) (a.length)) ?_)))));refine aS (aS (aR ?_));refine nc zl (nc zl (nc zt ?_));refine aC rfl (fun h=>?_) (fun h=>?_)
 ·have h:decide ((i:Int)=(i:Int)+1)=true:=h;have:=of_decide_eq_true h;omega
 refine aK ?_;refine AWp.wk (a7 (s':=[(0,.sl 400002 0 a.length 2),(1,.val (.i i)),(2,.val (.i ((i:Int)+1))),(400002,.mrow 42 2 l)]) ⟨rfl,rfl,rfl,rfl,trivial⟩) ?_;refine aS (aR ?_);refine nc zl (nc zY (nc ze ?_));refine aS (aD (by kernel_rfl) (by kernel_rfl) ?_);refine nc zl (nc zl (nc (z4 (j:=i)) (nc zl (nc zl (nc (zZ (j:=i+1)) (nc zbD (nc ze ?_)))))));refine ⟨by kernel_rfl,?_⟩;obtain ⟨r1,hr1⟩:∃ r1,r1=l.take i++((l.drop (0+(i+1))).take (a.length-(i+1))++l.drop (i+(a.length-(i+1)))):=⟨_,rfl⟩
 have hr1l:r1.length=l.length:=by rw [hr1];simp only [List.length_append,length_take,length_drop];omega
 have e1:i+(a.length-(i+1))=a.length-1:=by omega
 refine AWp.wk (a7 (s':=[(0,.sl 400002 0 (a.length-1) 2),(7,.val (.i a.length)),(400002,.mrow 42 2 r1)]) ⟨by rw [<-e1];rfl,rfl,by rw [hr1];rfl,trivial⟩) ?_;refine aS (aR ?_);refine nc zl (nc zl (nc zY (nc zl (nc (zbE (a.length-1) (a.length)) (nc z3 ?_)))));refine aS (aR ?_);refine nc zl (nc ze ?_);refine aT ⟨.inr rfl,_,Wk.refl _,rfl,?_,trivial⟩;show some (AV.mrow _ _ _)=some (AV.mrow _ _ _);have e2:=b2M a k i hi;rw [<-hl] at e2;rw [<-e2,hr1,Nat.zero_add];rfl
theorem b3u (W:World) (t u:Tm) (ht:t.rng) (hu:u.rng):AFun Tryz.prog W 148 [u.cw,.ptr t.cw] (.val (.b (s8 t u))):=by
 refine b9 (rs:=[.b (s8 t u)]) Tryz.func148 Tryz.ntmps148 rfl rfl rfl rfl ?_;intro w U hW;refine aS (aR ?_);refine nc zd (nc ze ?_);refine aS (aR ?_);refine nc zF (nc zy (nc (zw (z:=a8M w ht hu)) (nc ze ?_)));exact aT (And.intro (.inr rfl) rfl)
noncomputable def rwT (n:Nat) (a:List Tm) (k:Nat):Nat×AV:=(n,.mrow 42 2 ((a++List.replicate k zTm).map Tm.cv))
theorem a2Z:∀ (n:Nat) (a b:List Tm),(C7 n a b).1.length<=a.length/\(C7 n a b).2.length<=b.length
 | 0,a,b=>⟨Nat.le_refl _,Nat.le_refl _⟩
 | n+1,a,b=>by
  unfold C7;split
  ·exact a2Z n a b
  ·split
   ·exact a2Z n a b
   ·rename_i k hk;have h:=a2Z n (a.eraseIdx n) (b.eraseIdx k);exact ⟨Nat.le_trans h.1 (List.length_eraseIdx_le _ _),Nat.le_trans h.2 (List.length_eraseIdx_le _ _)⟩
theorem a3K:∀ (n:Nat) (a b:List Tm),(∀ t∈(C7 n a b).1,t∈a)/\∀ t∈(C7 n a b).2,t∈b
 | 0,a,b=>⟨fun _ h=>h,fun _ h=>h⟩
 | n+1,a,b=>by
  unfold C7;split
  ·exact a3K n a b
  ·split
   ·exact a3K n a b
   ·rename_i k hk;have h:=a3K n (a.eraseIdx n) (b.eraseIdx k);exact ⟨fun t ht=>List.mem_of_mem_eraseIdx (h.1 t ht),fun t ht=>List.mem_of_mem_eraseIdx (h.2 t ht)⟩
theorem b5s (a b:List Tm) (ha:∀ t∈a,t.rng) (hb:∀ t∈b,t.rng) (hal:a.length<=100000) (hbl:b.length<=100000) :
  b4G Tryz.prog 123 [rwT 400001 a 0,rwT 400002 b 0] 400001 400002 (fun v1 v2=>[.val (.sc (a4X v1 a.length)),.val (.sc (a4X v2 b.length))]) (fun v1 v2 => .tup [.sc (a4X v1 (C7 a.length a b).1.length),.sc (a4X v2 (C7 a.length a b).2.length)]) [rwT 400001 (C7 a.length a b).1 (a.length-(C7 a.length a b).1.length),rwT 400002 (C7 a.length a b).2 (b.length-(C7 a.length a b).2.length)]:=by
 refine b5P 2 400001 3 400002 Tryz.func123 Tryz.ntmps123 rfl rfl (fun _ _=>rfl) rfl rfl rfl rfl rfl ?_;intro v1 v2 w U hU;obtain ⟨X,Y,hXY⟩:∃ X Y,C7 a.length a b=(X,Y):=⟨_,_,rfl⟩
 rw [hXY];have hla:((a++List.replicate 0 zTm).map Tm.cv).length=a.length:=by simp
 have hlb:((b++List.replicate 0 zTm).map Tm.cv).length=b.length:=by simp
 refine AWp.wk ((b2P 0 400001 2 a.length (e:=42) (z:=2) (l:=(a++List.replicate 0 zTm).map Tm.cv) rfl rfl rfl rfl (by omega)).trans ((b2P 1 400002 3 b.length (e:=42) (z:=2) (l:=(b++List.replicate 0 zTm).map Tm.cv) rfl rfl rfl rfl (by omega)).trans (a7 (s':=[(2,.hdl v1 400001),(3,.hdl v2 400002),(0,.sl 400001 0 a.length 2),(1,.sl 400002 0 b.length 2),rwT 400001 a 0,rwT 400002 b 0]) ⟨rfl,rfl,rfl,rfl,rfl,rfl,trivial⟩))) ?_;refine aS (aR ?_);refine nc ze (nc ze ?_);refine aS (aS (aR ?_));refine nc zl (nc zY (nc zj (nc ze ?_)))
 let st:Nat->List Tm->List Tm->Nat->Nat->AS:=fun m A B ka kb=>[(2,.hdl v1 400001),(3,.hdl v2 400002),(0,.sl 400001 0 A.length 2),(1,.sl 400002 0 B.length 2),(6,.val (.i ((m:Int)-1))),rwT 400001 A ka,rwT 400002 B kb]
 refine aB (n4 (fun j s=>∃ A B ka kb,C7 j A B=(X,Y)/\j<=A.length/\A.length+ka=a.length/\B.length+kb=b.length/\(∀ t∈A,t.rng)/\(∀ t∈B,t.rng)/\s=st j A B ka kb) (s':=st a.length a b 0 0) (a7 ⟨rfl,rfl,rfl,rfl,rfl,rfl,rfl,trivial⟩) ⟨a,b,0,0,hXY,Nat.le_refl _,rfl,rfl,ha,hb,rfl⟩ ?_);rintro m s ⟨A,B,ka,kb,hc,hm,hka,hkb,hA,hB,rfl⟩;refine aS (aS (aR ?_));refine nc zl (nc zbi ?_);refine aC rfl (fun hlt=>?_) (fun hlt=>?_)
 ·have hm0:0<m:=by have h3:decide ((m:Int)-1>=0)=true:=hlt;have:=of_decide_eq_true h3;omega
  obtain ⟨m,rfl⟩:∃ q,m=q+1:=⟨m-1,by omega⟩
  have hmA:m<A.length:=by omega
  obtain ⟨t,ht⟩:∃ t,A[m]?=some t:=⟨A[m],getElem?_eq_getElem hmA⟩
  have htr:t.rng:=hA t (mem_of_getElem? ht);have ht':((A++List.replicate ka zTm).map Tm.cv)[m]?=some t.cw:=Tm.map_at (by rw [List.getElem?_append_left hmA];exact ht);have hlA:((A++List.replicate ka zTm).map Tm.cv).length=A.length+ka:=by simp
  have hlB:((B++List.replicate kb zTm).map Tm.cv).length=B.length+kb:=by simp
  obtain ⟨lA,hlA2⟩:∃ lA,lA=(A++List.replicate ka zTm).map Tm.cv:=⟨_,rfl⟩
  refine aK ?_;refine AWp.wk (a7 (s':=[(2,.hdl v1 400001),(3,.hdl v2 400002),(0,.sl 400001 0 A.length 2),(1,.sl 400002 0 B.length 2),(6,.val (.i (((m+1:Nat):Int)-1))),(400001,.mrow 42 2 lA),rwT 400002 B kb]) ⟨rfl,rfl,rfl,rfl,rfl,by rw [hlA2];rfl,rfl,trivial⟩) ?_;rw [<-hlA2] at ht' hlA;refine aS (aB (aS (aR ?_)));refine nc zl (nc zl (nc (zM (k:=m)) (nc (zN (G:=ht')) (nc zk (nc zo ?_)))));refine AWp.wk (x9 7 rfl rfl rfl (s':=[(2,.hdl v1 400001),(3,.hdl v2 400002),(0,.sl 400001 0 A.length 2),(1,.sl 400002 0 B.length 2),(6,.val (.i (((m+1:Nat):Int)-1))),(400001,.mrow 42 2 lA),rwT 400002 B kb]) ⟨rfl,rfl,rfl,rfl,rfl,rfl,rfl,trivial⟩ rfl rfl rfl) ?_;have hI:=a9i w (s8 t) (.fn 148 0 [.ptr t.cw]) B (by omega) (fun w x hx => .inl ⟨_,_,_,rfl,b3u w t x htr (hB x hx)⟩);rw [<-a6Y B kb] at hI;have hI2:=b1n (e:=42) (z:=2) (nm:=400002) (N:=B.length) (by omega) (by omega) (by omega) hI;refine aS (aR ?_);refine nc zl (nc zB (nc (z5 (z:=hI2) (G:=j5 (by first | rfl | kernel_rfl))) (nc ze ?_)));obtain ⟨J,hJ⟩:∃ J:Int,J=(match B.findIdx? (s8 t) with | some i=>(i:Int) | none => -1):=⟨_,rfl⟩
  refine AWp.wk (a7 (s':=[(2,.hdl v1 400001),(3,.hdl v2 400002),(0,.sl 400001 0 A.length 2),(1,.sl 400002 0 B.length 2),(6,.val (.i (((m+1:Nat):Int)-1))),(8,.val (.i J)),(400001,.mrow 42 2 lA),rwT 400002 B kb]) ⟨rfl,rfl,rfl,rfl,rfl,by rw [hJ];rfl,rfl,rfl,trivial⟩) ?_;refine aS (aR ?_);refine nc zl (nc zbi ?_);unfold C7 at hc;rw [ht] at hc;simp only at hc;refine aC rfl (fun hf=>?_) (fun hf=>?_)
  ·have hf:decide (J>=0)=true:=hf;cases hfi:B.findIdx? (s8 t) with
   | none=>rw [hfi] at hJ;rw [hJ] at hf;simp at hf
   | some k =>
    rw [hfi] at hJ hc;have hc:C7 m (A.eraseIdx m) (B.eraseIdx k)=(X,Y):=hc;obtain ⟨hkl,_,_⟩:=List.findIdx?_eq_some_iff_getElem.1 hfi;refine AWp.wk (a7 (s':=[(2,.hdl v1 400001),(3,.hdl v2 400002),(0,.sl 400001 0 A.length 2),(1,.sl 400002 0 B.length 2),(6,.val (.i (m:Int))),(8,.val (.i (k:Int))),rwT 400001 A ka,rwT 400002 B kb]) ⟨rfl,rfl,rfl,rfl,?_,by rw [hJ];rfl,by rw [hlA2];rfl,rfl,trivial⟩) ?_
    ·show some (AV.val (.i (((m+1:Nat):Int)-1)))=some (AV.val (.i (m:Int)));rw [show ((m+1:Nat):Int)-1=(m:Int) by omega]
    refine aR ?_;refine nc zl (nc zl (nc zl (nc zu (nc (z5 (z:=a5b A ka m hmA (by omega)) (G:=j5 (by first | rfl | kernel_rfl))) (nc zl (nc zl (nc zl (nc zu (nc (z5 (z:=a5j B kb k hkl (by omega)) (G:=j5 (by first | rfl | kernel_rfl))) (nc ze (nc ze ?_)))))))))));have hAe:(A.eraseIdx m).length=A.length-1:=List.length_eraseIdx_of_lt hmA;have hBe:(B.eraseIdx k).length=B.length-1:=List.length_eraseIdx_of_lt hkl;refine AWp.wk (a7 (s':=[(2,.hdl v1 400001),(3,.hdl v2 400002),(0,.sl 400001 0 (A.eraseIdx m).length 2),(1,.sl 400002 0 (B.eraseIdx k).length 2),(6,.val (.i (m:Int))),rwT 400001 (A.eraseIdx m) (ka+1),rwT 400002 (B.eraseIdx k) (kb+1)]) ⟨rfl,rfl,by rw [hAe];rfl,by rw [hBe];rfl,rfl,rfl,rfl,trivial⟩) ?_;refine aR ?_;refine nc zl (nc zj (nc ze ?_));refine ⟨m,st m (A.eraseIdx m) (B.eraseIdx k) (ka+1) (kb+1),by omega,⟨_,_,_,_,hc,by omega,by omega,by omega,fun t h=>hA t (List.mem_of_mem_eraseIdx h),fun t h=>hB t (List.mem_of_mem_eraseIdx h),rfl⟩,a7 ⟨rfl,rfl,rfl,rfl,rfl,rfl,rfl,trivial⟩⟩
  ·have hf:decide (J>=0)=false:=hf;cases hfi:B.findIdx? (s8 t) with
   | some k=>rw [hfi] at hJ;rw [hJ] at hf;simp at hf
   | none =>
    rw [hfi] at hc;have hc:C7 m A B=(X,Y):=hc;refine aK ?_;refine AWp.wk (a7 (s':=[(2,.hdl v1 400001),(3,.hdl v2 400002),(0,.sl 400001 0 A.length 2),(1,.sl 400002 0 B.length 2),(6,.val (.i (m:Int))),rwT 400001 A ka,rwT 400002 B kb]) ⟨rfl,rfl,rfl,rfl,?_,by rw [hlA2];rfl,rfl,trivial⟩) ?_
    ·show some (AV.val (.i (((m+1:Nat):Int)-1)))=some (AV.val (.i (m:Int)));rw [show ((m+1:Nat):Int)-1=(m:Int) by omega]
    refine aR ?_;refine nc zl (nc zj (nc ze ?_));refine ⟨m,st m A B ka kb,by omega,⟨_,_,_,_,hc,by omega,hka,hkb,hA,hB,rfl⟩,a7 ⟨rfl,rfl,rfl,rfl,rfl,rfl,rfl,trivial⟩⟩
 ·have hm0:m=0:=by have h3:decide ((m:Int)-1>=0)=false:=hlt;have:=of_decide_eq_false h3;omega
  subst hm0;unfold C7 at hc;cases hc;have hkA:ka=a.length-X.length:=by omega
  have hkB:kb=b.length-Y.length:=by omega
  subst hkA hkB;refine aE ?_;refine aS (aR ?_);refine nc zl (nc zl (nc ze (nc ze ?_)));refine aT ⟨.inr rfl,_,(a4a 4 400001 2 rfl rfl rfl).trans (a4a 5 400002 3 rfl rfl rfl),rfl,rfl,rfl,trivial⟩
structure Lt where
 neg:Bool
 a:Tm
 b:Tm
noncomputable abbrev Lt.cw (l:Lt):CV := .row [.b l.neg,l.a.cw,l.b.cw]
noncomputable def Lt.cv (l:Lt):CV:=l.cw
theorem Lt.size_all (c:List Lt):∀ x∈c.map Lt.cv,x.size=5:=by
 intro x hx;obtain ⟨l,_,rfl⟩:=mem_map.1 hx;rfl
theorem Lt.map_at {c:List Lt} {i:Nat} {l:Lt} (h:c[i]?=some l):(c.map Lt.cv)[i]?=some l.cw:=by rw [getElem?_map,h];rfl
def Lt.strip (l:Lt):Lt:=⟨l.neg,l.a.strip,l.b.strip⟩
def Lt.rng (l:Lt):Prop:=l.a.rng/\l.b.rng
def Lt.ok (l:Lt):Prop:=l.a.ok/\l.b.ok
def Tm.fit (t:Tm):Prop:=t.rng/\t.ok/\t.size<=90000000000
theorem b5K (W:World) (t u:Tm) (ht:t.fit) (hu:u.fit):AFun Tryz.prog W 150 [u.cw,.ptr t.cw] (.val (.b (decide (kb u t=1)))):=by
 refine b9 (rs:=[.b (decide (kb u t=1))]) Tryz.func150 Tryz.ntmps150 rfl rfl rfl rfl ?_;intro w U hW;refine aS (aR ?_);refine nc zd (nc ze ?_);refine aS (aR ?_);refine nc zy (nc zF (nc (zw (z:=a6C w u t hu.1 hu.2.1 (Nat.le_trans hu.2.2 (by omega)) ht.1 ht.2.1 (Nat.le_trans ht.2.2 (by omega)))) (nc ze ?_)));exact aT (And.intro (.inr rfl) rfl)
theorem b3K (W:World) (t:Tm) (l:List Tm) (ht:t.fit) (hl:∀ u∈l,u.fit) (hn:l.length<=100000):AFun Tryz.prog W 125 [t.cw,.lst (l.map Tm.cv)] (.val (.b (l.any fun u=>decide (kb u t=1)))):=by
 refine b9 (rs:=[.b (l.any fun u=>decide (kb u t=1))]) Tryz.func125 Tryz.ntmps125 rfl rfl rfl rfl ?_;intro w U hW;refine aS (aR ?_);refine nc zd (nc ze ?_);refine AWp.wk (x9 2 rfl rfl rfl (s':=[(1,.val (.lst (l.map Tm.cv)))]) ⟨rfl,trivial⟩ rfl rfl rfl) ?_;refine aS (aR ?_);refine nc zl (nc zB ?_);refine nc (zw (z:=b0a w (fun u=>decide (kb u t=1)) (.fn 150 0 [.ptr t.cw]) l (by omega) (fun w x hx => .inl ⟨_,_,_,rfl,b5K w t x ht (hl x hx)⟩))) ?_;refine nc ze ?_;exact aT (And.intro (.inr rfl) rfl)
theorem b5Z (W:World) (t:Tm) (l:List Tm) (ht:t.fit) (hl:∀ u∈l,u.fit) (hn:l.length<=100000):AFun Tryz.prog W 124 [t.cw,.ptr (.lst (l.map Tm.cv))] (.val (.b (!(l.any fun u=>decide (kb u t=1))))):=by
 refine b9 (rs:=[.b (!(l.any fun u=>decide (kb u t=1)))]) Tryz.func124 Tryz.ntmps124 rfl rfl rfl rfl ?_;intro w U hW;refine aS (aR ?_);refine nc zd (nc ze ?_);refine aS (aR ?_);refine nc zy (nc zF (nc (zw (z:=b3K w t l ht hl hn)) (nc z0 (nc ze ?_))));exact aT (And.intro (.inr rfl) rfl)
theorem b6b (a b:List Tm) (ha:∀ t∈a,t.fit) (hb:∀ t∈b,t.fit) (hal:a.length<=100000) (hbl:b.length<=100000) :
  r7 Tryz.prog 97 [rwT 400001 a 0,rwT 400002 b 0] [.sl 400001 0 a.length 2,.sl 400002 0 b.length 2] (.val (.b (a4S a b))) [rwT 400001 (C7 a.length a b).1 (a.length-(C7 a.length a b).1.length),rwT 400002 (C7 a.length a b).2 (b.length-(C7 a.length a b).2.length)]:=by
 have hC:=b5s a b (fun t h=>(ha t h).1) (fun t h=>(hb t h).1) hal hbl;have hcl:=a2Z a.length a b;have hcm:=a3K a.length a b;have hmB:a4S a b=a9t (C7 a.length a b).1 (C7 a.length a b).2:=rfl;rw [hmB];obtain ⟨X,Y,hXY⟩:∃ X Y,C7 a.length a b=(X,Y):=⟨_,_,rfl⟩
 rw [hXY] at hC hcl hcm |-;simp only at hC hcl hcm |-;have hX:∀ t∈X,t.fit:=fun t h=>ha t (hcm.1 t h);have hY:∀ t∈Y,t.fit:=fun t h=>hb t (hcm.2 t h);refine l8 Tryz.func97 Tryz.ntmps97 rfl rfl rfl rfl rfl rfl ?_;intro w U hU;refine AWp.hdl 20 400001 rfl rfl rfl fun v1=>?_;refine AWp.hdl 21 400002 rfl rfl rfl fun v2=>?_;refine AWp.wk ((a4a 0 400001 20 rfl rfl rfl).trans ((a4a 1 400002 21 rfl rfl rfl).trans (a7 (s':=[(20,.hdl v1 400001),(21,.hdl v2 400002),(0,.val (.sc (a4X v1 a.length))),(1,.val (.sc (a4X v2 b.length))),rwT 400001 a 0,rwT 400002 b 0]) ⟨rfl,rfl,rfl,rfl,rfl,rfl,trivial⟩))) ?_;refine aS (aR ?_);refine nc zd (nc ze ?_);refine aS (aR ?_);refine nc zy (nc zl (nc (zbF 20 21 (x:=hC) (hnb:=j5 (by first | rfl | kernel_rfl))) (nc zl (nc zx (nc zx (nc zo (nc ze ?_)))))));obtain ⟨kx,hkx⟩:∃ kx,kx=a.length-X.length:=⟨_,rfl⟩
 obtain ⟨ky,hky⟩:∃ ky,ky=b.length-Y.length:=⟨_,rfl⟩
 rw [<-hkx,<-hky];refine AWp.wk (a7 (s':=[(20,.hdl v1 400001),(21,.hdl v2 400002),(1,.val (.sc (a4X v2 Y.length))),(2,.bp 2 0 []),(100002,.bx (.sc (a4X v1 X.length))),rwT 400001 X kx,rwT 400002 Y ky]) ⟨rfl,rfl,rfl,rfl,rfl,rfl,rfl,trivial⟩) ?_;refine b4S (R:=fun e=>e = .normal\/e = .ret) [(1,.lst (Y.map Tm.cv)),(2,.ptr (.lst (X.map Tm.cv)))] 4 (.bool (a9t X Y)) [rwT 400001 X kx,rwT 400002 Y ky] ?_ ?_ ⟨rfl,rfl,trivial⟩ rfl rfl rfl (fun e he=>⟨he,_,Wk.refl _,rfl,rfl,rfl,trivial⟩)
 ·intro a w D hv h q hq;obtain ⟨_,_,hr1,hx1⟩:∃ u,a.tmps[20]?=some u/\RN 400001/\hv 400001=v1:=h.slot 20 _ rfl (by omega);obtain ⟨_,_,hr2,hx2⟩:∃ u,a.tmps[21]?=some u/\RN 400002/\hv 400002=v2:=h.slot 21 _ rfl (by omega);have w1:=h.view (n:=400001) (e:=42) (z:=2) (l:=(X++List.replicate kx zTm).map Tm.cv) (len:=X.length) rfl hr1 (by simp);have w2:=h.view (n:=400002) (e:=42) (z:=2) (l:=(Y++List.replicate ky zTm).map Tm.cv) (len:=Y.length) rfl hr2 (by simp);rw [a6Y,hx1] at w1;rw [a6Y,hx2] at w2;rcases List.mem_cons.1 hq with rfl | hq
  ·obtain ⟨u,g1,g2⟩:=h.slot 1 _ rfl (by omega);obtain ⟨rfl,_⟩:=o6.1 g2.1;exact ⟨_,g1,w2⟩
  ·rcases List.mem_cons.1 hq with rfl | hq
   ·exact h.viewBox 2 rfl rfl (by omega) (by show (1:Nat)≠2;decide) w1
   ·cases hq
 ·intro w;have hW:Hw w w c1V:=⟨fun _=>rfl,fun _ h=>h⟩
  refine aS (aR ?_);refine nc zB (nc ze ?_);have hcon:=b0a w (fun t=>!(X.any fun u=>decide (kb u t=1))) (.fn 124 0 [.ptr (.lst (X.map Tm.cv))]) Y (by omega) (fun w x hx => .inl ⟨_,_,_,rfl,b5Z w x X (hY x hx) hX (by omega)⟩);by_cases hX0:0<X.length
  ·have g:decide (((X.map Tm.cv).length:Int)>0)=true:=by simp;omega
   have e:a9t X Y=!(Y.any fun t=>!(X.any fun u=>decide (kb u t=1))):=by unfold a9t;rw [decide_eq_true hX0,Bool.true_and]
   rw [e];refine aS (aR ?_);refine nc zF (nc zp (nc zK (nc zl (nc (zl (p:=gb)) (nc (zl (p:=gb)) (nc (zw (p:=gb) (z:=hcon)) (nc (z0 (r:=gb)) (nc zP (nc ze ?_)))))))));exact aT ⟨.inr rfl,rfl⟩
  ·have g:decide (((X.map Tm.cv).length:Int)>0)=false:=decide_eq_false (by rw [length_map];omega);have e:a9t X Y=false:=by unfold a9t;rw [decide_eq_false hX0,Bool.false_and]
   rw [e];refine aS (aR ?_);refine nc zF (nc zp (nc zK (nc zl (nc zR (nc zR (nc zR (nc zR (nc zS (nc ze ?_)))))))));exact aT ⟨.inr rfl,rfl⟩
def F7 (l:Lt):List Tm:=if l.neg then [l.a,l.a,l.b,l.b] else [l.a,l.b]
theorem a9R {l:Lt} {p:Tm->Prop} (h:p l.a/\p l.b):∀ t∈F7 l,p t:=by
 intro t ht;unfold F7 at ht;split at ht<;>simp at ht<;>rcases ht with rfl | rfl
 all_goals first | exact h.1 | exact h.2
theorem a9k (l:Lt):(F7 l).length<=4:=by unfold F7;split<;>simp
theorem a8v (l:Lt):r7 Tryz.prog 98 [] [.val l.cw] (.sl 400001 0 (F7 l).length 2) [rwT 400001 (F7 l) 0]:=by
 refine l8 Tryz.func98 Tryz.ntmps98 rfl rfl rfl rfl rfl rfl ?_;intro w U hU;have hUf:U.f 400001=none:=by
  cases e:U.f 400001 with
  | none=>rfl
  | some v=>have:=hU _ v e;cases this
 have e1:l.a.cw=l.a.cv:=(Tm.cv_eq _).symm;have e2:l.b.cw=l.b.cv:=(Tm.cv_eq _).symm;refine aS (aR ?_);refine nc zd (nc ze ?_);refine aS (aS (aR ?_));refine nc zg (nc zh ?_);refine aC rfl (fun hc=>?_) (fun hc=>?_)
 ·have e:F7 l=[l.a,l.a,l.b,l.b]:=by unfold F7;rw [if_pos hc]
  rw [e];refine aS (aR ?_);refine nc zg (nc zh (nc zg (nc zh (nc zg (nc zh (nc zg (nc zh (nc (zbG 250007) (nc ze ?_)))))))));refine aT ⟨.inr rfl,_,(a7 (s':=[(2,.sl 250007 0 4 2),(250007,.mrow 42 2 (([l.a,l.a,l.b,l.b]++List.replicate 0 zTm).map Tm.cv))]) ⟨rfl,?_,trivial⟩).trans (w9 250007 400001 rfl rfl hUf rfl rfl rfl),rfl,rfl,trivial⟩;show some (AV.mrow _ _ _)=some (AV.mrow _ _ _);simp only [replicate_zero,append_nil,map_cons,map_nil,Tm.cv_eq];rfl
 ·have e:F7 l=[l.a,l.b]:=by unfold F7;rw [if_neg (by rw [hc];decide)]
  rw [e];refine aK ?_;refine aS (aR ?_);refine nc zg (nc zh (nc zg (nc zh (nc (zbG 250007) (nc ze ?_)))));refine aT ⟨.inr rfl,_,(a7 (s':=[(2,.sl 250007 0 2 2),(250007,.mrow 42 2 (([l.a,l.b]++List.replicate 0 zTm).map Tm.cv))]) ⟨rfl,?_,trivial⟩).trans (w9 250007 400001 rfl rfl hUf rfl rfl rfl),rfl,rfl,trivial⟩;show some (AV.mrow _ _ _)=some (AV.mrow _ _ _);simp only [replicate_zero,append_nil,map_cons,map_nil,Tm.cv_eq];rfl
theorem a8J (l:Lt):r7 Tryz.prog 98 [] [.val l.cw] (.sl 400002 0 (F7 l).length 2) [rwT 400002 (F7 l) 0]:=by
 refine l8 Tryz.func98 Tryz.ntmps98 rfl rfl rfl rfl rfl rfl ?_;intro w U hU;have hUf:U.f 400002=none:=by
  cases e:U.f 400002 with
  | none=>rfl
  | some v=>have:=hU _ v e;cases this
 have e1:l.a.cw=l.a.cv:=(Tm.cv_eq _).symm;have e2:l.b.cw=l.b.cv:=(Tm.cv_eq _).symm;refine aS (aR ?_);refine nc zd (nc ze ?_);refine aS (aS (aR ?_));refine nc zg (nc zh ?_);refine aC rfl (fun hc=>?_) (fun hc=>?_)
 ·have e:F7 l=[l.a,l.a,l.b,l.b]:=by unfold F7;rw [if_pos hc]
  rw [e];refine aS (aR ?_);refine nc zg (nc zh (nc zg (nc zh (nc zg (nc zh (nc zg (nc zh (nc (zbG 250007) (nc ze ?_)))))))));refine aT ⟨.inr rfl,_,(a7 (s':=[(2,.sl 250007 0 4 2),(250007,.mrow 42 2 (([l.a,l.a,l.b,l.b]++List.replicate 0 zTm).map Tm.cv))]) ⟨rfl,?_,trivial⟩).trans (w9 250007 400002 rfl rfl hUf rfl rfl rfl),rfl,rfl,trivial⟩;show some (AV.mrow _ _ _)=some (AV.mrow _ _ _);simp only [replicate_zero,append_nil,map_cons,map_nil,Tm.cv_eq];rfl
 ·have e:F7 l=[l.a,l.b]:=by unfold F7;rw [if_neg (by rw [hc];decide)]
  rw [e];refine aK ?_;refine aS (aR ?_);refine nc zg (nc zh (nc zg (nc zh (nc (zbG 250007) (nc ze ?_)))));refine aT ⟨.inr rfl,_,(a7 (s':=[(2,.sl 250007 0 2 2),(250007,.mrow 42 2 (([l.a,l.b]++List.replicate 0 zTm).map Tm.cv))]) ⟨rfl,?_,trivial⟩).trans (w9 250007 400002 rfl rfl hUf rfl rfl rfl),rfl,rfl,trivial⟩;show some (AV.mrow _ _ _)=some (AV.mrow _ _ _);simp only [replicate_zero,append_nil,map_cons,map_nil,Tm.cv_eq];rfl
theorem b9k (W:World) (x y:Lt) (hx:x.a.fit/\x.b.fit) (hy:y.a.fit/\y.b.fit):AFun Tryz.prog W 69 [x.cw,y.cw] (.val (.b (a4S (F7 x) (F7 y)))):=by
 have hT1:=a8v x;have hT2:=a8J y;have l1:=a9k x;have l2:=a9k y;have hO:=b6b (F7 x) (F7 y) (a9R hx) (a9R hy) (by omega) (by omega);refine b9 (rs:=[.b (a4S (F7 x) (F7 y))]) Tryz.func69 Tryz.ntmps69 rfl rfl rfl rfl ?_;intro w U hW;refine aS (aR ?_);refine nc zd (nc zd (nc ze ?_));refine aS (aD (by kernel_rfl) (by kernel_rfl) ?_);refine nc zy ?_;refine nc (z5 (z:=hT1) (G:=fun k v h=>by first | (rw [hW.1] at h;cases h) | (have h2:=hU k v h;cases h2))) ?_;refine nc zy ?_;refine nc (z5 (z:=hT2) (G:=fun k v h=>by first | (rw [hW.1] at h;cases h) | (have h2:=hU k v h;cases h2))) ?_;refine nc (z5 (z:=hO) (G:=j5 (by first | rfl | kernel_rfl))) (nc ze ?_);refine ⟨by kernel_rfl,?_⟩;exact aT (And.intro (.inr rfl) rfl)
def c5b (n:Nat):Int:=if n=0 then 0 else if n=1 then 1 else if n<4 then 2 else if n<8 then 3 else 4
def c4u (l:List Tm):Bool:=l.all fun t=>decide (0<=n8 t 60 20)
theorem PsT.at {w:World} {base:Nat} {a:Option Addr} {n c:Nat} {ps:List (List Int)} (h:PsT w base (.slice a n c) ps) {i:Nat} (hi:i<ps.length) :
  ∃ (b off:Nat) (x:Pr),a=some ⟨b,off,none⟩/\ps[i]?=some x.p/\x.ok (fun b=>base<=b) w/\w.cell? ⟨b,off+i,none⟩=some (.slice x.a x.n x.c):=by
 obtain ⟨xs,h1,h2,h3⟩:=h;obtain ⟨a',c',e1,e2,e3,e4,e5⟩:=E3 h1;cases e1;have hxl:xs.length=ps.length:=by rw [<-h2,length_map]
 have hix:i<xs.length:=by omega
 rcases e5 with h | ⟨b,off,ha,hlt,hc⟩
 ·rw [List.map_eq_nil_iff] at h;rw [h] at hix;simp at hix
 ·refine ⟨b,off,xs[i],ha,?_,(h3 _ (getElem_mem hix)).keep fun b h _=>⟨h.1,rfl⟩,?_⟩
  ·rw [<-h2,getElem?_map,getElem?_eq_getElem hix];rfl
  ·rw [hc i (by rw [length_map];exact hix),getElem?_map,getElem?_eq_getElem hix];rfl
theorem Pr.ok.at {U:Nat->Prop} {w:World} {x:Pr} (h:x.ok U w) {i:Nat} (hi:i<x.n):∃ b off z,x.a=some ⟨b,off,none⟩/\U b/\b<w.heap.size/\x.p[i]?=some z/\w.cell? ⟨b,off+i,none⟩=some (.int .i64 z):=by
 obtain ⟨h1,h2,h3,h4,h5⟩:=h;have hip:i<x.p.length:=by omega
 rcases h5 with h | ⟨b,off,ha,hu,hlt,hc⟩
 ·unfold a5E at h;rw [List.map_eq_nil_iff] at h;rw [h] at hip;simp at hip
 ·refine ⟨b,off,x.p[i],ha,hu,hlt,getElem?_eq_getElem hip,?_⟩;rw [hc i (by unfold a5E;rw [length_map];exact hip)];unfold a5E;rw [getElem?_map,getElem?_eq_getElem hip];rfl
def c5A:Tm := .mk 1 [.mk (-1) [],.mk 2 []]
def ltL (cmp:Lt->Lt->Int) (x y:Lt):Bool:=decide (cmp x y<0)
def c1R (x y:Lt):Int:=if T1 x.a y.a≠0 then T1 x.a y.a else T1 x.b y.b
def c0k (l:Lt):Lt:=⟨l.neg,l.b,l.a⟩
def c4n (l:Lt):Lt:=if 0<=T1 l.a l.b then l else c0k l
def c2C (l:Lt):Bool:=!l.neg&&s8 l.a l.b
def c3W (L:List Lt) (i:Nat):Bool:=match L[i]?,L[i-1]? with
 | some x,some y=>decide (0<i)&&((!(x.neg == y.neg))&&decide (c1R x y=0))
 | _,_=>false
def c3Y (L:List Lt):Bool:=(List.range L.length).any (c3W L)
def c4b (L:List Lt):List Lt:=y5 (ltL c1R) 0 (L.length-1) 1 L
def c4E (c:List Lt):Bool:=c.any c2C||c3Y (c4b (c.map c4n))
def okC (c:List Lt):Prop:=∀ l∈c,l.a.rng/\l.b.rng
theorem b5U (W:World) (p:Lt->Bool) (fc:CV) (c:List Lt) (hl:c.length<=1000000) (hc:∀ W,∀ x∈c,N4 Tryz.prog W fc [x.cw] (.val (.b (p x)))):AFun Tryz.prog W 96 [.lst (c.map Lt.cv),fc] (.val (.i (match c.findIdx? p with | some i=>(i:Int) | none => -1))):=by
 have hsz:=Lt.size_all c;obtain ⟨R,hR⟩:∃ R:Int,R=match c.findIdx? p with | some i=>(i:Int) | none => -1:=⟨_,rfl⟩
 rw [<-hR];refine b9 (rs:=[.i R]) Tryz.func96 Tryz.ntmps96 rfl rfl rfl rfl ?_;intro w U hW;refine aS (aR ?_);refine nc ze ?_;refine aS (aS (aR ?_));refine nc zl (nc zp (nc zl ?_));refine aB (y9 c.length (fun k=>∀ x∈c.take k,p x=false) (fun k=>[(0,.val (.lst (c.map Lt.cv))),(1,.val fc),(7,.val (.i (c.map Lt.cv).length)),(8,.val (.i k))]) (a7 ⟨rfl,rfl,rfl,rfl,trivial⟩) (by simp) ?_);intro k hk hI;refine aS (aR ?_);refine nc zi ?_;refine aS (aC rfl (fun hlt=>?_) (fun hlt=>?_))
 ·have hkl:k<c.length:=by simpa using hlt
  obtain ⟨x,hx⟩:∃ x,c[k]?=some x:=⟨c[k],getElem?_eq_getElem hkl⟩
  have hx':=Lt.map_at hx;have hxm:=mem_of_getElem? hx;refine aK ?_;refine aS (aB (aS (aR ?_)));refine nc zl (nc ze ?_);refine aS (aR ?_);refine nc zl (nc zl (nc zl (nc (zq (j:=k) (H:=hx') (hz:=hsz)) (nc zr (nc (zO (E:=hc w x hxm)) ?_)))));refine aC rfl (fun hp=>?_) (fun hp=>?_)
  ·have hRk:R=k:=by
    rw [hR];have:c.findIdx? p=some k:=by
     rw [List.findIdx?_eq_some_iff_getElem];obtain ⟨hk2,e⟩:=List.getElem?_eq_some_iff.1 hx;refine ⟨hk2,by rw [e];exact hp,fun j hj=>?_⟩;have:=hI c[j] (List.mem_take_iff_getElem.2 ⟨j,by omega,rfl⟩);simpa using this
    rw [this]
   rw [hRk];refine aS (aR ?_);refine nc zl (nc ze ?_);exact aT (And.intro (.inr rfl) rfl)
  ·refine aK ?_;refine aR ?_;refine nc zu (nc zl ?_);refine ⟨hkl,?_,a7 ⟨rfl,rfl,rfl,rfl,trivial⟩⟩;intro y hy;rw [take_add_one,hx,List.mem_append] at hy;rcases hy with hy | hy
   ·exact hI y hy
   ·simp at hy;rw [hy];exact hp
 ·have hkl:k=c.length:=by
   have:¬ k<c.length:=by simpa using hlt
   omega
  subst hkl;rw [take_length] at hI;have hRn:R = -1:=by
   rw [hR,List.findIdx?_eq_none_iff.2 fun x hx=>by rw [hI x hx]]
  rw [hRn];refine aE ?_;refine aS (aR ?_);refine nc ze ?_;exact aT (And.intro (.inr rfl) rfl)
theorem b5D (W:World) (p:Lt->Bool) (fc:CV) (c:List Lt) (hl:c.length<=1000000) (hc:∀ W,∀ x∈c,N4 Tryz.prog W fc [x.cw] (.val (.b (p x)))):AFun Tryz.prog W 67 [.lst (c.map Lt.cv),fc] (.val (.b (c.any p))):=by
 have e:decide ((match c.findIdx? p with | some i=>(i:Int) | none => -1)>=0)=c.any p:=by
  cases h:c.findIdx? p with
  | none =>
   have h1:=List.findIdx?_eq_none_iff.1 h;have:c.any p=false:=by
    rw [List.any_eq_false];intro x hx;rw [h1 x hx];simp
   rw [this];rfl
  | some i =>
   obtain ⟨hi,hp,_⟩:=List.findIdx?_eq_some_iff_getElem.1 h;have:c.any p=true:=List.any_eq_true.2 ⟨_,getElem_mem hi,hp⟩;rw [this];simp
 refine b9 (rs:=[.b (c.any p)]) Tryz.func67 Tryz.ntmps67 rfl rfl rfl rfl ?_;intro w U hW;refine aS (aR ?_);refine nc ze ?_;refine aS (aR ?_);refine nc zl (nc zl (nc (zw (z:=b5U w p fc c hl hc)) (nc zbi (nc ze ?_))));rw [e];exact aT (And.intro (.inr rfl) rfl)
theorem b0I (W:World) (x y:Lt):AFun Tryz.prog W 43 [x.cw,y.cw] (.val (.b (x.neg == y.neg))):=by
 refine b9 (rs:=[.b (x.neg == y.neg)]) Tryz.func43 Tryz.ntmps43 rfl rfl rfl rfl ?_;intro w U hW;refine aS (aR ?_);refine nc zd (nc zd (nc ze ?_));refine aS (aR ?_);refine nc zg (nc zh (nc zg (nc zh (nc zbH (nc ze ?_)))));exact aT (And.intro (.inr rfl) rfl)
def wtC (c:List Lt):Nat:=(c.map fun l=>l.a.size+l.b.size).sum
def Lt.fit (l:Lt):Prop:=l.a.fit/\l.b.fit
def wtL (l:Lt):Int:=(l.a.size:Int)+(l.b.size:Int)
theorem b9Q (W:World) (l:Lt) (h:l.fit):AFun Tryz.prog W 66 [l.cw] (.val (.i (wtL l))):=by
 have h1:=h.1.2.2;have h2:=h.2.2.2;refine b9 (rs:=[.i (wtL l)]) Tryz.func66 Tryz.ntmps66 rfl rfl rfl rfl ?_;intro w U hW;refine aS (aR ?_);refine nc zd (nc ze ?_);refine aS (aD (by kernel_rfl) (by kernel_rfl) ?_);refine nc zg (nc zh (nc (zw (z:=a9Y w h.1.1 (by omega))) (nc zg (nc zh (nc (zw (z:=a9Y w h.2.1 (by omega))) (nc zu (nc ze ?_)))))));refine ⟨by kernel_rfl,?_⟩;exact aT (And.intro (.inr rfl) rfl)
def hvK (c:List Lt):Nat->Int×Int
 | 0=>(-1,0)
 | k+1=>match c[k]? with
  | none=>hvK c k
  | some l=>if l.neg=true/\(hvK c k).2<wtL l then ((k:Int),wtL l) else hvK c k
theorem b9n (W:World) (c:List Lt) (hn:c.length<=100000) (hc:∀ l∈c,l.fit):AFun Tryz.prog W 47 [.lst (c.map Lt.cv)] (.val (.i (hvK c c.length).1)):=by
 have hsz:=Lt.size_all c;refine b9 (rs:=[.i (hvK c c.length).1]) Tryz.func47 Tryz.ntmps47 rfl rfl rfl rfl ?_;intro w U hW;refine aS (aR ?_);refine nc ze ?_;refine aS (aR ?_);refine nc ze (nc ze ?_);refine aS (aS (aR ?_));refine nc zl (nc zp (nc zl ?_))
 let st:Nat->AS:=fun k=>[(3,.val (.i (hvK c k).1)),(4,.val (.i (hvK c k).2)),(8,.val (.lst (c.map Lt.cv))),(9,.val (.i (c.map Lt.cv).length)),(10,.val (.i k))]
 refine aB (p6 c.length st (a7 ⟨rfl,rfl,rfl,rfl,rfl,trivial⟩) ?_);intro k hk;refine aS (aR ?_);refine nc zi ?_;refine aS (aC rfl (fun hlt=>?_) (fun hlt=>?_))
 ·have hkl:k<c.length:=by simpa using hlt
  obtain ⟨x,hx⟩:∃ x,c[k]?=some x:=⟨c[k],getElem?_eq_getElem hkl⟩
  have hx':=Lt.map_at hx;have hxf:=hc x (mem_of_getElem? hx);have hK:hvK c (k+1)=if x.neg=true/\(hvK c k).2<wtL x then ((k:Int),wtL x) else hvK c k:=by conv=>lhs;unfold hvK;rw [hx]
  refine aK ?_;refine aS (aB (aS (aR ?_)));refine nc zl (nc (zq (j:=k) (H:=hx') (hz:=hsz)) (nc zr (nc zk (nc ze (nc zo ?_)))));refine AWp.wk (a7 (s':=[(3,.val (.i (hvK c k).1)),(4,.val (.i (hvK c k).2)),(5,.val (.i k)),(6,.bp 6 0 []),(100006,.bx x.cw),(8,.val (.lst (c.map Lt.cv))),(9,.val (.i (c.map Lt.cv).length)),(10,.val (.i k))]) ⟨rfl,rfl,rfl,rfl,rfl,rfl,rfl,rfl,trivial⟩) ?_;refine aS (aS (aR ?_));refine nc zg (nc zh (nc z0 ?_));refine aC rfl (fun hb=>?_) (fun hb=>?_)
  ·have hb:(!x.neg)=true:=hb;have hng:x.neg=false:=by simpa using hb
   have e:hvK c (k+1)=hvK c k:=by rw [hK,if_neg (by rw [hng];simp)]
   refine aE ?_;refine aR ?_;refine nc zu (nc zl ?_);refine ⟨hkl,a7 ⟨?_,?_,rfl,rfl,rfl,trivial⟩⟩
   ·rw [e];rfl
   ·rw [e];rfl
  ·have hb:(!x.neg)=false:=hb;have hng:x.neg=true:=by simpa using hb
   refine aK ?_;refine aS (aR ?_);refine nc zy (nc (zw (z:=b9Q w x hxf)) (nc ze ?_));refine aS (aR ?_);refine nc zl (nc zl (nc zK ?_));refine aC rfl (fun hg=>?_) (fun hg=>?_)
   ·have hg:decide (wtL x>(hvK c k).2)=true:=hg;have hg:=of_decide_eq_true hg;have e:hvK c (k+1)=((k:Int),wtL x):=by rw [hK,if_pos ⟨hng,by omega⟩]
    refine aR ?_;refine nc zl (nc zl (nc ze (nc ze ?_)));refine aR ?_;refine nc zu (nc zl ?_);refine ⟨hkl,a7 ⟨?_,?_,rfl,rfl,rfl,trivial⟩⟩
    ·rw [e];rfl
    ·rw [e];rfl
   ·have hg:decide (wtL x>(hvK c k).2)=false:=hg;have hg:=of_decide_eq_false hg;have e:hvK c (k+1)=hvK c k:=by rw [hK,if_neg (fun h=>by have:=h.2;omega)]
    refine aK ?_;refine aR ?_;refine nc zu (nc zl ?_);refine ⟨hkl,a7 ⟨?_,?_,rfl,rfl,rfl,trivial⟩⟩
    ·rw [e];rfl
    ·rw [e];rfl
 ·have hkl:k=c.length:=by
   have:¬ k<c.length:=by simpa using hlt
   omega
  subst hkl;refine aE ?_;refine aS (aR ?_);refine nc zl (nc ze ?_);exact aT (And.intro (.inr rfl) rfl)
noncomputable def c3j (c:List Lt) (x:Lt):Bool:=!(c.any fun l=>a4S (F7 l) (F7 x))
noncomputable def a2z (c:List Lt) (i:Int):Bool:=if 0<=i then (match c[i.toNat]? with | some x=>c3j c x | none=>false) else false
theorem b3C (W:World) (c:List Lt) (k:Nat) (x l:Lt) (hx:c[k]?=some x) (hxf:x.fit) (hl:l.fit):AFun Tryz.prog W 68 [l.cw,.ptr (.lst (c.map Lt.cv)),.ptr (.i (k:Int))] (.val (.b (a4S (F7 l) (F7 x)))):=by
 have hsz:=Lt.size_all c;have hx':=Lt.map_at hx;refine b9 (rs:=[.b (a4S (F7 l) (F7 x))]) Tryz.func68 Tryz.ntmps68 rfl rfl rfl rfl ?_;intro w U hW;refine aS (aR ?_);refine nc zd (nc ze ?_);refine aS (aD (by kernel_rfl) (by kernel_rfl) ?_);refine nc zy (nc zF (nc zF (nc (zq (j:=k) (H:=hx') (hz:=hsz)) (nc zr (nc (zw (z:=b9k w l x hl hxf)) (nc ze ?_))))));refine ⟨by kernel_rfl,?_⟩;exact aT (And.intro (.inr rfl) rfl)
theorem b5H (W:World) (c:List Lt) (i:Int) (hn:c.length<=100000) (hc:∀ l∈c,l.fit):AFun Tryz.prog W 48 [.lst (c.map Lt.cv),.i i] (.val (.b (a2z c i))):=by
 refine b9 (rs:=[.b (a2z c i)]) Tryz.func48 Tryz.ntmps48 rfl rfl rfl rfl ?_;intro w U hW;refine aS (aR ?_);refine nc zd (nc zd (nc ze ?_));by_cases hi:i<0
 ·have g:decide (i<0)=true:=decide_eq_true hi;have e:a2z c i=false:=by unfold a2z;rw [if_neg (by omega)]
  rw [e];refine aS (aS (aR ?_));refine nc zy (nc zi (nc zl (nc zR (nc zR (nc zR (nc zR (nc zP ?_)))))));refine aC rfl (fun _=>?_) (fun h=>by cases h);refine aS (aR ?_);refine nc ze ?_;exact aT (And.intro (.inr rfl) rfl)
 ·have g:decide (i<0)=false:=decide_eq_false hi;refine aS (aS (aR ?_));refine nc zy (nc zi (nc zl (nc (zy (p:=gb)) (nc (zy (p:=gb)) (nc (zp (r:=gb)) (nc (zbi (r:=gb)) (nc zS ?_)))))));refine aC rfl (fun h=>?_) (fun h=>?_)
  ·have h:decide (i>=((c.map Lt.cv).length:Int))=true:=h;have h:=of_decide_eq_true h;rw [length_map] at h;have e:a2z c i=false:=by unfold a2z;rw [if_pos (by omega),List.getElem?_eq_none (by omega)]
   rw [e];refine aS (aR ?_);refine nc ze ?_;exact aT (And.intro (.inr rfl) rfl)
  ·have h:decide (i>=((c.map Lt.cv).length:Int))=false:=h;have h:=of_decide_eq_false h;rw [length_map] at h;obtain ⟨k,rfl⟩:∃ k:Nat,i=(k:Int):=⟨i.toNat,by omega⟩
   have hkl:k<c.length:=by omega
   obtain ⟨x,hx⟩:∃ x,c[k]?=some x:=⟨c[k],getElem?_eq_getElem hkl⟩
   have hxf:=hc x (mem_of_getElem? hx);have e:a2z c (k:Int)=!(c.any fun l=>a4S (F7 l) (F7 x)):=by unfold a2z;rw [if_pos (by omega),Int.toNat_natCast,hx];rfl
   rw [e];refine aK ?_;refine AWp.wk ((x9 2 rfl rfl rfl (s':=[(3,.bp 3 0 []),(100003,.bx (.i (k:Int)))]) ⟨rfl,rfl,trivial⟩ rfl rfl rfl).trans (x9 3 rfl rfl rfl (s':=[(2,.val (.ptr (.lst (c.map Lt.cv))))]) ⟨rfl,trivial⟩ rfl rfl rfl)) ?_;refine aS (aR ?_);refine nc zF (nc zB ?_);refine nc (zw (z:=b5D w (fun l=>a4S (F7 l) (F7 x)) (.fn 68 0 [.ptr (.lst (c.map Lt.cv)),.ptr (.i (k:Int))]) c (by omega) (fun w l hl => .inl ⟨_,_,_,rfl,b3C w c k x l hx hxf (hc l hl)⟩))) ?_;refine nc z0 (nc ze ?_);exact aT (And.intro (.inr rfl) rfl)
noncomputable def gsK (c:List Lt) (k:Nat):List Int:=((List.range k).filter fun i:Nat=>a2z c (i:Int)).map fun i:Nat=>(i:Int)
theorem a7m (c:List Lt) (k:Nat):(gsK c k).length<=k:=by
 unfold gsK;rw [length_map];exact Nat.le_trans (List.length_filter_le _ _) (by rw [List.length_range];exact Nat.le_refl _)
theorem a8Z (c:List Lt) (k:Nat):gsK c (k+1)=gsK c k++(if a2z c (k:Int)=true then [(k:Int)] else []):=by
 unfold gsK;rw [List.range_succ,List.filter_append,map_append];congr 1;by_cases h:a2z c (k:Int)=true
 ·rw [if_pos h,List.filter_cons_of_pos (by exact h)];rfl
 ·rw [if_neg h,List.filter_cons_of_neg (by exact h)];rfl
noncomputable def I2 (c:List Lt):List Int:=if (hvK c c.length).1>=0 then [(hvK c c.length).1] else gsK c c.length
theorem a6c (W:World) (c:List Lt) (hn:c.length<=100000) (hc:∀ l∈c,l.fit):AFun Tryz.prog W 26 [.lst (c.map Lt.cv)] (.val (.lst ((I2 c).map CV.i))):=by
 refine b9 (rs:=[.lst ((I2 c).map CV.i)]) Tryz.func26 Tryz.ntmps26 rfl rfl rfl rfl ?_;intro w U hW;obtain ⟨hvv,hhv⟩:∃ z,z=(hvK c c.length).1:=⟨_,rfl⟩
 have hlk:I2 c=if hvv>=0 then [hvv] else gsK c c.length:=by unfold I2;rw [hhv]
 have hH:=b9n w c hn hc;rw [<-hhv] at hH;refine aS (aR ?_);refine nc ze ?_;refine aS (aS (aR ?_));refine nc zl (nc (zw (z:=hH)) (nc ze ?_));refine aS (aR ?_);refine nc zl (nc zbi ?_);refine aC rfl (fun h=>?_) (fun h=>?_)
 ·have h:decide (hvv>=0)=true:=h;rw [hlk,if_pos (of_decide_eq_true h)];refine aS (aR ?_);refine nc zl (nc zD (nc ze ?_));exact aT (And.intro (.inr rfl) rfl)
 ·have h:decide (hvv>=0)=false:=h;rw [hlk,if_neg (of_decide_eq_false h)];refine aK ?_;refine aS (aR ?_);refine nc ze ?_;refine aS (aS (aR ?_));refine nc zl (nc zp (nc zl ?_))
  let st:Nat->AS:=fun k=>[(0,.val (.lst (c.map Lt.cv))),(4,.own (.lst ((gsK c k).map CV.i)) 200023),(200023,.tok 3 1),(13,.val (.i (c.map Lt.cv).length)),(14,.val (.i k))]
  refine aB (p6 c.length st ((K5 4 200023 3 1 rfl rfl rfl rfl rfl rfl rfl).trans (a7 ⟨rfl,rfl,rfl,rfl,rfl,trivial⟩)) ?_);intro k hk;refine aS (aR ?_);refine nc zi ?_;refine aS (aC rfl (fun hlt=>?_) (fun hlt=>?_))
  ·have hkl:k<c.length:=by simpa using hlt
   have hl3:((gsK c k).map CV.i).length<=k:=by rw [length_map];exact a7m c k
   have hl4:=a7m c k;have hsz3:∀ x∈(gsK c k).map CV.i,x.size=1:=q9 _;refine aK ?_;refine aS (aB (aS (aR ?_)));refine nc zl (nc ze ?_);refine aS (aR ?_);refine nc zl (nc zl (nc (zw (z:=b5H w c k hn hc)) ?_));refine aC rfl (fun hg=>?_) (fun hg=>?_)
   ·have hg:a2z c (k:Int)=true:=hg;refine aR ?_;refine nc zl (nc zl (nc zD (nc zE (nc ze ?_))));refine AWp.wk ((a7 (s':=[(0,.val (.lst (c.map Lt.cv))),(4,.own (.lst ((gsK c k).map CV.i++[CV.i (k:Int)])) 300023),(300023,.tok 3 1),(13,.val (.i (c.map Lt.cv).length)),(14,.val (.i k))]) ⟨rfl,rfl,rfl,rfl,rfl,trivial⟩).trans (A3 300023 200023 rfl rfl rfl rfl)) ?_;refine aR ?_;refine nc zu (nc zl ?_);refine ⟨hkl,a7 ⟨rfl,?_,rfl,rfl,rfl,trivial⟩⟩;show some (AV.own (.lst _) _)=some (AV.own (.lst _) _);rw [a8Z,if_pos hg,map_append];rfl
   ·have hg:a2z c (k:Int)=false:=hg;refine aK ?_;refine aR ?_;refine nc zu (nc zl ?_);refine ⟨hkl,a7 ⟨rfl,?_,rfl,rfl,rfl,trivial⟩⟩;show some (AV.own (.lst _) _)=some (AV.own (.lst _) _);rw [a8Z,if_neg (by rw [hg];decide),append_nil]
  ·have hkl:k=c.length:=by
    have:¬ k<c.length:=by simpa using hlt
    omega
   subst hkl;refine aE ?_;refine aS (aR ?_);refine nc zl (nc ze ?_);exact aT (And.intro (.inr rfl) rfl)
noncomputable def prC (p:Tm×Tm):CV := .row [p.1.cw,p.2.cw]
noncomputable def orK (l:Lt) (k:Nat):List (Tm×Tm):=(([(l.a,l.b),(l.b,l.a)].take k).filter fun p=>decide (kb p.1 p.2=1\/kb p.1 p.2=2)).map fun p=>(p.1.strip,p.2.strip)
section
open Go.RowKit Go.MapKept
section
variable {P:Program} {w0:World} {U0:UX} {nt:Nat} {ops:Array Oper} {o:Oper} {S:Nat->Option AV} {gs:List Nat} {d:Nat} {s:AS} {a:Act} {w:World} {D:Nat->Nat->Prop} {hv:Nat->Value}
theorem b9j {U:Nat->Nat->Prop} {w:World} {v:Value} {et:TypeId} (hz2:(P.info? et).map (·.zero)=some (some (.agg #[.int .i64 0,.slice none 0 0]))) (hr:Rep U w (.row [.i 0,.lst []]) v.cells.toList) (hh:∃ it,P.info? et=some it/\it.zero=some v):VRep U w (.row [.i 0,.lst []]) v:=by
 obtain ⟨it,h1,h2⟩:=hh;rw [h1,Option.map_some,h2] at hz2;injection hz2 with hz2;injection hz2 with hz2;subst hz2;exact ⟨_,rfl,hr⟩
end
end
section
open Go.RowKit Go.MapKept
def QUp (q:(Nat->Nat->Prop)->World->Prop):Prop:=∀ (U V:Nat->Nat->Prop) (w w':World),q U w->Below w.heap.size w w'->(∀ b o,b<w.heap.size->U b o->V b o)->q V w'
def a8c (P:Program) (q:(Nat->Nat->Prop)->World->Prop) (f:FuncId) (args:List CV) (r:AV):Prop:=
 a9W P f/\(r.t=0\/r.t=4)/\r.n=0/\∀ (U:Nat->Nat->Prop) (w:World) (vs:List Value),q U w->VReps U w args vs ->
  Calls P f vs.toArray w fun e w'=>∃ v,e = .returned v/\RR (fun b o=>U b o\/w.heap.size<=b) w' r v/\Below w.heap.size w w'
def a8f (P:Program) (q:(Nat->Nat->Prop)->World->Prop) (fc:CV) (args:List CV) (r:AV):Prop:=∃ f n l,fc = .fn f n l/\a8c P q f (l.take n++(args++l.drop n)) r
section
variable {P:Program} {w0:World} {U0:UX} {nt:Nat} {ops:Array Oper} {o:Oper} {S:Nat->Option AV} {gs:List Nat} {d:Nat} {s:AS} {a:Act} {w:World} {D:Nat->Nat->Prop} {hv:Nat->Value} {q:(Nat->Nat->Prop)->World->Prop}
theorem SimG.atQ {W:World} (h:SimG w0 U0 nt s a w D hv) (hQ:QUp q) (hW:Hw W w0 U0) (hq:q U0.m w0):q (Us w0 U0 D) w:=
 hQ _ _ _ _ hq (h.below.below hW.2) fun b o hb hu => .inl ⟨hb,hu,hW.2 b⟩
theorem b8b {W:World} (hQ:QUp q) (hW:Hw W w0 U0) (hq:q U0.m w0) {f:FuncId} {xs:Array Operand} {ts:Array TypeId} {cs:List CV} {r:AV} (hg:Gd w0 U0 nt ops o gs S) (hd:o.dst=some d) (hn:Nat.blt d nt=true) (h5:Nat.blt d 100000=true)
  (ho:o.op = .call { callee := .value (.func f),args:=xs,argTypes:=ts }) (hx:Z7 S xs.toList=some cs) (hc:a8c P q f cs r):AOp P w0 U0 nt ops o (gs++rdl xs.toList) [] S [(d,r)]:=by
 intro s hs _ a w ⟨D,hv,h⟩ Q K hK;rw [if_pos (hg s (fun k hk=>hs k (mem_append_left _ hk)) a w D hv h)];have hargs:=G2 h (fun k hk=>hs k (mem_append_right _ hk)) hx;obtain ⟨h1,h2,h3,h4⟩:=hc;have hcall:=h4 _ w _ (h.atQ hQ hW hq) hargs;have he:(execOp a.eval o).run P w = .ok (.enter f (xs.toList.map a.eval).toArray) w:=by
  have hf:a.eval (.func f) = .func (.func f) #[] #[]:=rfl;have hen:=h1 (xs.map a.eval) w;have harr:(xs.toList.map a.eval).toArray=xs.map a.eval:=by apply Array.ext';simp
  rw [harr];generalize a.eval=ρ at hf hen |-;simp [execOp,ho,resolve,invoke,Deferred.ofValue,hf,hen]
 unfold Oper.wp;rw [he,Oper.upon_enter];refine hcall.mono ?_;rintro e w' ⟨v,rfl,h6,h7⟩;rw [hd];refine hK _ _ ⟨Dn D w w',hv,(h.growN h7).put (bL hn) (bL h5) (Q2 h2 h3 (X1 rfl h7.size h.below.size h6))⟩
theorem zbL {P:Program} {w0:World} {U0:UX} {nt:Nat} {ops:Array Oper} {o:Oper} {S:Nat->Option AV} {gs:List Nat} {d:Nat} {q:(Nat->Nat->Prop)->World->Prop} {W:World} {f:FuncId} {xs:Array Operand} {ts:Array TypeId} {cs:List CV} {r:AV} (hQ:QUp q) (hW:Hw W w0 U0) (hq:q U0.m w0) (p:Gd w0 U0 nt ops o gs S:=by exact gN rfl) (t:o.dst=some d:=by exact rfl) (u:Nat.blt d nt=true:=by exact rfl) (x:Nat.blt d 100000=true:=by exact rfl) (y:o.op = .call { callee := .value (.func f),args:=xs,argTypes:=ts }:=by exact rfl) (z:Z7 S xs.toList=some cs:=by exact rfl) (A:a8c P q f cs r):AOp P w0 U0 nt ops o (gs++rdl xs.toList) [] S [(d,r)]:=b8b hQ hW hq p t u x y z A
theorem b6I {W:World} (hQ:QUp q) (hW:Hw W w0 U0) (hq:q U0.m w0) {x:Operand} {xs:Array Operand} {ts:Array TypeId} {fc:CV} {cs:List CV} {r:AV} {n q' p} (hg:Gd w0 U0 nt ops o gs S) (hd:o.dst=some d) (hn:Nat.blt d nt=true) (h5:Nat.blt d 100000=true)
  (ho:o.op = .call { callee := .value x,args:=xs,argTypes:=ts }) (hf:ev S x=some ⟨0,fc,n,q',p⟩) (hx:Z7 S xs.toList=some cs) (hc:a8f P q fc cs r):AOp P w0 U0 nt ops o (gs++(rd x++rdl xs.toList)) [] S [(d,r)]:=by
 intro s hs _ a w ⟨D,hv,h⟩ Q K hK;rw [if_pos (hg s (fun k hk=>hs k (mem_append_left _ hk)) a w D hv h)];have hargs:=G2 h (fun k hk=>hs k (mem_append_right _ (mem_append_right _ hk))) hx;have hfv:=A0 h (fun k hk=>hs k (mem_append_right _ (mem_append_left _ hk))) hf;obtain ⟨f,m,l,rfl,h1,h2,h3,h4⟩:=hc;obtain ⟨ys,zs,e1,e2,e3,e4⟩:=T2.1 hfv;obtain ⟨s1,s2⟩:=VReps.split (Q1 e4 e3);rw [e2] at s1 s2;have hcall:=h4 _ w _ (h.atQ hQ hW hq) (s1.append (hargs.append s2));have he:(execOp a.eval o).run P w = .ok (.enter f (ys++(xs.toList.map a.eval++zs)).toArray) w:=by
  have hen:=h1 (ys.toArray++(xs.map a.eval++zs.toArray)) w;have harr:(ys++(xs.toList.map a.eval++zs)).toArray=ys.toArray++(xs.map a.eval++zs.toArray):=by apply Array.ext';simp
  rw [harr];generalize a.eval=ρ at e1 hen |-;simp [execOp,ho,resolve,invoke,Deferred.ofValue,e1,hen]
 unfold Oper.wp;rw [he,Oper.upon_enter];refine hcall.mono ?_;rintro e w' ⟨v,rfl,h6,h7⟩;rw [hd];refine hK _ _ ⟨Dn D w w',hv,(h.growN h7).put (bL hn) (bL h5) (Q2 h2 h3 (X1 rfl h7.size h.below.size h6))⟩
theorem zbK {P:Program} {w0:World} {U0:UX} {nt:Nat} {ops:Array Oper} {o:Oper} {S:Nat->Option AV} {gs:List Nat} {d:Nat} {q:(Nat->Nat->Prop)->World->Prop} {W:World} {x:Operand} {xs:Array Operand} {ts:Array TypeId} {fc:CV} {cs:List CV} {r:AV} {n} {q'} {p} (hQ:QUp q) (hW:Hw W w0 U0) (hq:q U0.m w0) (t:Gd w0 U0 nt ops o gs S:=by exact gN rfl) (u:o.dst=some d:=by exact rfl) (y:Nat.blt d nt=true:=by exact rfl) (z:Nat.blt d 100000=true:=by exact rfl) (A:o.op = .call { callee := .value x,args:=xs,argTypes:=ts }:=by exact rfl) (B:ev S x=some ⟨0,fc,n,q',p⟩:=by exact rfl) (C:Z7 S xs.toList=some cs:=by exact rfl) (E:a8f P q fc cs r):AOp P w0 U0 nt ops o (gs++(rd x++rdl xs.toList)) [] S [(d,r)]:=b6I hQ hW hq t u y z A B C E
def a9C (b g:Nat) (l:List CV) (U:Nat->Nat->Prop) (w:World):Prop:=
 w.cell? ⟨b,0,none⟩=some (.map (some g))/\∃ es clock,w.heap[g]?=some (.map es clock)/\Ents U w l es.toList
theorem a3T (b g:Nat) (l:List CV):QUp (a9C b g l):=by
 rintro U V w w' ⟨h1,es,clock,h2,h3⟩ hb hU;have hcell:∀ (b o:Nat) (v:Value),w.cell? ⟨b,o,none⟩=some v->b<w.heap.size/\w'.cell? ⟨b,o,none⟩=some v:=fun b o v hc=>by
  have hlt:=World.block_lt_of_cell? w _ hc;refine ⟨hlt,?_⟩;have:=hb.block b hlt;simp only [World.cell?] at hc |-;rw [this];exact hc
 have hg:g<w.heap.size:=by
  rcases Nat.lt_or_ge g w.heap.size with h | h
  ·exact h
  ·rw [Array.getElem?_eq_none h] at h2;cases h2
 exact ⟨(hcell _ _ _ h1).2,es,clock,by rw [hb.block g hg];exact h2,h3.keep fun b o v hu hc=>⟨hU b o (hcell b o v hc).1 hu,(hcell b o v hc).2⟩⟩
theorem b9K {W:World} {b g:Nat} {l:List CV} (hW:Hw W w0 U0) (hq:a9C b g l U0.m w0) (hg:Gd w0 U0 nt ops o gs S) (hd:o.dst=some d) (hn:Nat.blt d nt=true) (h5:Nat.blt d 100000=true) {x:Operand} {ty:TypeId} {ds:TypeDesc} {n q p} (ho:o.op = .load ty x) (hu:P.underlying ty=some ds) (hi:(P.info? ty).map (·.size)=some 1) (hx:ev S x=some ⟨0,.sc (.pointer (some ⟨b,0,none⟩)),n,q,p⟩) (hk:U1 ds=false):AOp P w0 U0 nt ops o (gs++rd x) [] S [(d,.val (.sc (.map (some g))))]:=
 j8 hg hd hn h5 (fun k hk=>mem_append_left _ hk) fun s hs a w D hv hm=>by
  have h1:=v9 hm (fun k hk=>hs k (mem_append_right _ hk)) hx;obtain ⟨h2,_⟩:=hm.atQ (a3T b g l) hW hq;obtain ⟨v,h4,h6,_⟩:=B7 (c := .sc (.map (some g))) (U:=Us w0 U0 D) (w:=w) (b:=b) (off:=0) (xs:=[.map (some g)]) hu hi hk rfl (N7.2 ⟨rfl,rfl⟩) (fun i hi=>by
   have:i=0:=by simp at hi;omega
   subst this;exact h2)
  refine ⟨v,?_,l7 h6⟩;generalize a.eval=ρ at h1 |-;simp [execOp,ho,Instr.loadAt,Instr.sureAddr,h1,h4]
theorem zbI {P:Program} {w0:World} {U0:UX} {nt:Nat} {ops:Array Oper} {o:Oper} {S:Nat->Option AV} {gs:List Nat} {d:Nat} {q} {W:World} {b:Nat} {g:Nat} {l:List CV} {x:Operand} {ty:TypeId} {ds:TypeDesc} {n} {p} (hW:Hw W w0 U0) (hq:a9C b g l U0.m w0) (r:Gd w0 U0 nt ops o gs S:=by exact gN rfl) (t:o.dst=some d:=by exact rfl) (u:Nat.blt d nt=true:=by exact rfl) (y:Nat.blt d 100000=true:=by exact rfl) (z:o.op = .load ty x:=by exact rfl) (A:P.underlying ty=some ds:=by exact rfl) (B:(P.info? ty).map (·.size)=some 1:=by exact rfl) (C:ev S x=some ⟨0,.sc (.pointer (some ⟨b,0,none⟩)),n,q,p⟩:=by exact rfl) (E:U1 ds=false:=by exact rfl):AOp P w0 U0 nt ops o (gs++rd x) [] S [(d,.val (.sc (.map (some g))))]:=b9K hW hq r t u y z A B C E
theorem b4j {W:World} {b g:Nat} {l:List CV} (hW:Hw W w0 U0) (hq:a9C b g l U0.m w0) (hg:Gd w0 U0 nt ops o gs S) (hd:o.dst=some d) (hn:Nat.blt d nt=true) (h5:Nat.blt d 100000=true) {x y:Operand} {t kt et:TypeId} {k:IntKind} {i:Int} {n0 q0 p0 n' q' p'} (ho:o.op = .lookup t x y true) (hu:P.underlying t=some (.map kt et)) (huk:P.underlying kt=some (.int k)) (hz2:(P.info? et).map (·.zero)=some (some (.agg #[.int .i64 0,.slice none 0 0]))) (hzc:U5 P et=some (.row [.i 0,.lst []])) (hx:ev S x=some ⟨0,.sc (.map (some g)),n0,q0,p0⟩) (hy:ev S y=some ⟨0,.sc (.int k i),n',q',p'⟩) (hik:x8 k l) {r:Option CV} (hlr:E4 k i l=r):AOp P w0 U0 nt ops o (gs++(rd x++rd y)) [] S [(d,.tup [r.getD (.row [.i 0,.lst []]),.b r.isSome])]:=
 j8 hg hd hn h5 (fun k hk=>mem_append_left _ hk) fun s hs a w D hv hm=>by
  have h1:=v9 hm (fun k hk=>hs k (mem_append_right _ (mem_append_left _ hk))) hx;have e2:=v9 hm (fun k hk=>hs k (mem_append_right _ (mem_append_right _ hk))) hy;subst hlr;obtain ⟨_,es,clock,g2,g3⟩:=hm.atQ (a3T b g l) hW hq;obtain ⟨it,zv,i1,i2,i3⟩:=M1 hzc;have hck:=run_checkKey (P:=P) (w:=w) huk (k := .int k i) rfl es.isEmpty 9999;have hge:=Go.MapKept.run_getObj_map (P:=P) g2;rcases K2 0 g3 hik (i:=i) with ⟨f1,f2⟩ | ⟨j,e,c,f1,f2,f3,f4,f5,f6⟩
  ·have hfk:=run_findKey (P:=P) (w:=w) huk f1;have hzv:(zeroValue et).run P w = .ok zv w:=by simp [zeroValue,typeInfo,i1,i2]
   refine ⟨.tuple #[zv,.bool false],?_,?_⟩
   ·generalize a.eval=ρ at h1 e2 |-;simp [execOp,ho,Instr.lookup,run_underlying hu,h1,e2,hge,hck,hfk,hzv]
   ·rw [f2];have hr:=i3 (Us w0 U0 D) w;exact ⟨[zv,.bool false],rfl,zv,[.bool false],rfl,b9j hz2 hr ⟨it,i1,i2⟩,.bool false,[],rfl,o6.2 ⟨rfl,rfl⟩,rfl⟩
  ·have hfk:=run_findKey (P:=P) (w:=w) huk f1;refine ⟨.tuple #[e.val,.bool true],?_,?_⟩
   ·generalize a.eval=ρ at h1 e2 |-;simp [execOp,ho,Instr.lookup,run_underlying hu,h1,e2,hge,hck,hfk]
   ·rw [f6];exact ⟨[e.val,.bool true],rfl,e.val,[.bool true],rfl,f4,.bool true,[],rfl,o6.2 ⟨rfl,rfl⟩,rfl⟩
theorem zbJ {P:Program} {w0:World} {U0:UX} {nt:Nat} {ops:Array Oper} {o:Oper} {S:Nat->Option AV} {gs:List Nat} {d:Nat} {W:World} {b:Nat} {g:Nat} {l:List CV} {x:Operand} {y:Operand} {t:TypeId} {kt:TypeId} {et:TypeId} {k:IntKind} {i:Int} {n0} {q0} {p0} {n'} {q'} {p'} {r:Option CV} (hW:Hw W w0 U0) (hq:a9C b g l U0.m w0) (p:Gd w0 U0 nt ops o gs S:=by exact gN rfl) (u:o.dst=some d:=by exact rfl) (v:Nat.blt d nt=true:=by exact rfl) (z:Nat.blt d 100000=true:=by exact rfl) (A:o.op = .lookup t x y true:=by exact rfl) (B:P.underlying t=some (.map kt et):=by exact rfl) (C:P.underlying kt=some (.int k):=by exact rfl) (E:(P.info? et).map (·.zero)=some (some (.agg #[.int .i64 0,.slice none 0 0])):=by exact rfl) (F:U5 P et=some (.row [.i 0,.lst []]):=by exact rfl) (G:ev S x=some ⟨0,.sc (.map (some g)),n0,q0,p0⟩:=by exact rfl) (H:ev S y=some ⟨0,.sc (.int k i),n',q',p'⟩:=by exact rfl) (hik:x8 k l) (hlr:E4 k i l=r):AOp P w0 U0 nt ops o (gs++(rd x++rd y)) [] S [(d,.tup [r.getD (.row [.i 0,.lst []]),.b r.isSome])]:=b4j hW hq p u v z A B C E F G H hik hlr
theorem a9B {f : FuncId} {fn : Func} {c : Code} {args rs : List CV} (hf : P.funcs[f]? = some fn) (hn : fn.ntmps = nt) (hname : (fn.name == "runtime.NumGoroutine") = false) (hb : fn.body = some c) (hl : Nat.ble args.length nt = true) (hnt : Nat.blt nt 100000 = true)
  (h:∀ (w:World) (U:UX),Hw w w U->q U.m w->AWp P w U nt c (fun e s'=>(e = .normal\/e = .ret)/\a9K P s' fn.results.toList=some rs) (a5U args 0)):a8c P q f args (L6 rs):=by
 have hr2:((L6 rs).t=0\/(L6 rs).t=4)/\(L6 rs).n=0:=by
  unfold L6;split
  ·exact ⟨.inl rfl,rfl⟩
  ·exact ⟨.inr rfl,rfl⟩
 refine ⟨B8 hf hname (by rw [hb];rfl),hr2.1,hr2.2,fun U w vs hq hargs=>?_⟩;have hlen:=hargs.len;refine calls_of_wp hf hb ?_;have hle:=Nat.le_of_ble_eq_true hl;have hnt:=bL hnt;have hno:∀ {k av},100000<=k->look (a5U args 0) k=some av->False:=fun {k av} h1 h2=>by rw [a6g (by omega)] at h2;cases h2
 obtain ⟨V,hV⟩:∃ V:UX,V=⟨U,fun _=>False,fun _=>none,fun _ _ h=>by cases h⟩:=⟨_,rfl⟩
 have hs:Sim w V nt (a5U args 0) { tmps:=vs.toArray++Array.replicate (fn.ntmps-vs.toArray.size) undef,defers:=[] } w:=by
  refine ⟨fun _ _=>False,fun _ => .slice none 0 0,BelowX.refl _ _,rfl,by simp [hn];omega,fun d av h1 h2=>?_,fun n o av h1=>(hno (by unfold d9;omega) h1).elim,fun n o o' av av' h1=>(hno (by unfold d9;omega) h1).elim,fun k av h1 h2=>(hno h2.1 h1).elim,fun k av g h1 h2=>(hno h2.1 h1).elim,fun k k' av av' g h1 h2 h3=>(hno h3.1 h1).elim,fun n g h1=>(by rw [hV] at h1;cases h1),fun b o hd=>hd.elim⟩;obtain ⟨_,c',h3,rfl⟩:=Y1 h1;rw [Nat.sub_zero] at h3;obtain ⟨v,h4,h5⟩:=hargs.at h3;have hdl:d<vs.length:=by
   rcases Nat.lt_or_ge d vs.length with h | h
   ·exact h
   ·rw [List.getElem?_eq_none h] at h4;cases h4
  refine ⟨v,?_,l7 (h5.keep fun b o v hu hc=>⟨.inl ⟨World.block_lt_of_cell? w _ hc,by rw [hV];exact ⟨hu,fun h=>h⟩⟩,hc⟩)⟩;rw [Array.getElem?_append_left (by simpa using hdl)];simpa using h4
 refine wp_mono ((h w V (by rw [hV];exact ⟨fun _=>rfl,fun _ h=>h⟩) (by rw [hV];exact hq) ⟨none,[]⟩ _ w hs).wp rfl (fun e a w ⟨s,_,h⟩=>h.df)) ?_;rintro e a' w' ⟨s',⟨h1,h2⟩,D,hv,h3⟩;obtain ⟨v,h4,h5⟩:=a7j h3 h2;have hR:RR (fun b o=>U b o\/w.heap.size<=b) w' (L6 rs) v:=by
  have hk:∀ b o u,Us w V D b o->w'.cell? ⟨b,o,none⟩=some u->(U b o\/w.heap.size<=b)/\w'.cell? ⟨b,o,none⟩=some u:=fun b o u hu hc=>⟨hu.imp (fun h=>by rw [hV] at h;exact h.2.1) fun h=>h.1,hc⟩
  unfold RR at h5 |-;split
  ·rename_i ht;rw [if_pos ht] at h5;obtain ⟨vs,h6,h7⟩:=h5;exact ⟨vs,h6,h7.keep hk⟩
  ·rename_i ht;rw [if_neg ht] at h5;exact h5.keep hk
 have hbw:Below w.heap.size w w':=h3.below.below (by rw [hV];exact fun _ h=>h);rcases h1 with rfl | rfl
 ·exact ⟨h3.dfr,v,h4,v,rfl,hR,hbw⟩
 ·exact ⟨h3.dfr,v,h4,v,rfl,hR,hbw⟩
end
end
noncomputable def imR (b:Bd):CV := .row [.sc (.int .i64 b.v),b.t.cw]
theorem a4q (L:List Bd):x8 .i64 (L.map imR):=fun r hr=>by
 obtain ⟨b,_,rfl⟩:=mem_map.1 hr;exact ⟨_,_,rfl⟩
theorem b0c (v:Int):∀ L:List Bd,E4 .i64 v (L.map imR)=(b7 L v).map Tm.cw
 | []=>rfl
 | b::L=>by
  rw [map_cons];unfold imR;rw [P8,b7];by_cases h:b.v=v
  ·rw [if_pos h,if_pos h];rfl
  ·rw [if_neg h,if_neg h];exact b0c v L
theorem b5B (b g:Nat) (L:List Bd) (v:Int) (h1:0<=v) (h2:v<=9223372036854775807):a8c Tryz.prog (a9C b g (L.map imR)) 112 [.i v,.sc (.pointer (some ⟨b,0,none⟩))] (.val (c9 L v).cw):=by
 refine a9B (rs:=[(c9 L v).cw]) Tryz.func112 Tryz.ntmps112 rfl rfl rfl rfl ?_;intro w U hW hq;have hQ:=a3T b g (L.map imR);have hlk:=b0c v L;refine aS (aR ?_);refine nc zk ?_;unfold c9;cases hf:b7 L v with
 | none =>
  rw [hf] at hlk;refine aS (aS (aR ?_));refine nc (zbI hW hq) (nc zl (nc (zbJ hW hq (hik:=a4q _) (hlr:=hlk)) (nc zl (nc zx (nc zx (nc zk (nc zo (nc ze ?_))))))));refine aS (aR ?_);refine nc zl ?_;refine aC rfl (fun hc=>?_) (fun hc=>?_)
  ·cases hc
  ·refine aK ?_;refine aS (aR ?_);refine nc zl (nc (zw (z:=I1 w v h1 h2)) (nc zo ?_));exact aT (And.intro (.inr rfl) rfl)
 | some t =>
  rw [hf] at hlk;refine aS (aS (aR ?_));refine nc (zbI hW hq) (nc zl (nc (zbJ hW hq (hik:=a4q _) (hlr:=hlk)) (nc zl (nc zx (nc zx (nc zk (nc zo (nc ze ?_))))))));refine aS (aR ?_);refine nc zl ?_;refine aC rfl (fun hc=>?_) (fun hc=>?_)
  ·refine aS (aR ?_);refine nc zy (nc zo ?_);exact aT (And.intro (.inr rfl) rfl)
  ·cases hc
theorem a6D {q:(Nat->Nat->Prop)->World->Prop} (hQ:QUp q) (fc:CV) (img:Int->Tm) (hI:∀ v,0<=v->v<=9223372036854775807->a8f Tryz.prog q fc [.i v] (.val (img v).cw)/\(img v).rng/\(img v).size<=90000000000):∀ t:Tm,t.rng->t.ok->a8c Tryz.prog q 59 [t.cw,fc] (.val (a8 img t).cw):=by
 intro t
 induction t using Tm.ind with
 | h f l ih =>
 intro hr hok;have hok:=(Tm.ok_iff _).1 hok;have hr:=(Tm.rng_iff _).1 hr;simp only at hok hr;have hsz:=Tm.size_all l;refine a9B (rs:=[(a8 img ⟨f,l⟩).cw]) Tryz.func59 Tryz.ntmps59 rfl rfl rfl rfl ?_;intro w U hW hq;refine aS (aR ?_);refine nc zd (nc zk ?_);refine aS (aS (aR ?_));refine nc zy ?_;refine nc (zw (z:=S4 w ⟨f,l⟩)) ?_;refine aC rfl (fun hc=>?_) (fun hc=>?_)
 ·have hf:f<0:=by simpa using hc
  rw [i8 hf];obtain ⟨i1,i2,i3⟩:=hI (-1-f) (by omega) (by omega);refine aS (aR ?_);refine nc zl (nc zy ?_);refine nc (zw (z:=V8 w ⟨f,l⟩ hr.1.1 hf)) ?_;refine nc (zbK hQ hW hq (E:=i1)) (nc (zw (z:=a1R w i2 i3)) (nc zo ?_));exact aT (And.intro (.inr rfl) rfl)
 ·have hf:¬ f<0:=by simpa using hc
  rw [b8 hf];refine aK ?_;refine aS (aR ?_);refine nc ze ?_;refine aS (aS (aR ?_));refine nc zg (nc zh (nc zp (nc zl ?_)));refine aB (p6 l.length (fun k=>[(1,.val fc),(2,.bp 2 0 []),(100002,.bx (Tm.cw ⟨f,l⟩)),(4,.bp 4 0 []),(100004,⟨5,.row [.i 0,.lst []],1,0,[1]⟩),(5,.own (.lst ((l.take k).map fun t=>(a8 img t).cv)) 200027),(200027,.tok 42 2),(16,.val (.lst (l.map Tm.cv))),(17,.val (.i (l.map Tm.cv).length)),(18,.val (.i k))])
   ((K5 5 200027 42 2 rfl rfl rfl rfl rfl rfl rfl).trans (a7 ⟨rfl,rfl,rfl,rfl,rfl,rfl,rfl,rfl,rfl,rfl,trivial⟩)) ?_)
  intro k hk;refine aS (aR ?_);refine nc zi ?_;refine aS (aC rfl (fun hc=>?_) (fun hc=>?_))
  ·have hkl:k<l.length:=by
    simp only [length_map,decide_eq_true_eq] at hc;omega
   obtain ⟨t,ht⟩:∃ t,l[k]?=some t:=⟨l[k],getElem?_eq_getElem hkl⟩
   have ht':=Tm.map_at ht;have htm:=mem_of_getElem? ht;have hsz2:∀ c∈(l.take k).map fun t=>(a8 img t).cv,c.size=2:=by
    intro c hc;obtain ⟨t,_,rfl⟩:=mem_map.1 hc;exact Tm.size_cv _
   refine aK ?_;refine aS (aB (aS (aR ?_)));refine nc (zq (H:=by assumption) (hz:=by first | assumption | exact sZ rfl | exact Tm.size_all _ | exact Bd.size_all _ | exact q9 _ | exact bys_size _ | exact Lt.size_all _)) (nc zr (nc zk (nc zo ?_)));refine aR ?_;refine nc zl (nc zy (nc zl (nc (zbL hQ hW hq (A:=ih t htm (hr.2 t htm) (hok.2 t htm))) (nc zD (nc zE (nc ze ?_))))));refine aR ?_;refine nc zu (nc zl ?_);refine ⟨hkl,Wk.trans (a7 (s':=[(1,.val fc),(2,.bp 2 0 []),(100002,.bx (Tm.cw ⟨f,l⟩)),(4,.bp 4 0 []),(100004,⟨5,.row [.i 0,.lst []],1,0,[1]⟩),(5,.own (.lst ((l.take (k+1)).map fun t=>(a8 img t).cv)) 300027),(300027,.tok 42 2),(16,.val (.lst (l.map Tm.cv))),(17,.val (.i (l.map Tm.cv).length)),(18,.val (.i ((k+1:Nat):Int)))]) ⟨rfl,rfl,rfl,rfl,rfl,?_,rfl,rfl,rfl,rfl,trivial⟩) (A3 300027 200027 rfl rfl rfl rfl)⟩;rw [take_add_one,ht,map_append];simp only [Option.toList_some,map_cons,map_nil,Tm.cv_eq];rfl
  ·have hkl:k=l.length:=by
    simp only [length_map,decide_eq_false_iff_not] at hc;omega
   subst hkl;rw [take_length];refine aE ?_;refine aS (aR ?_);refine nc zg (nc zh (nc zl (nc zn (nc zo ?_))));refine aT (And.intro (.inr rfl) ?_);unfold Tm.cw;rw [List.map_map];rfl
section
open Go.RowKit Go.MapKept Go.Shelf
attribute [local go_sem] Oper.semAt_some
set_option maxRecDepth 100000 in
set_option maxHeartbeats 2000000 in
theorem b6g (l Bb ob n:Nat) (c0 c1 c2:Nat->Value) (R:Nat->Nat->Prop) (w:World) (ao:Option Addr) (cap:Nat) (hbox:w.cell? ⟨Bb,ob,none⟩=some (.slice ao n cap)) (hRb:R Bb ob) (hat:∀ i,i<n->∃ b off,ao=some ⟨b,off,none⟩/\(R b (off+i*3)/\w.cell? ⟨b,off+i*3,none⟩=some (c0 i))/\(R b (off+i*3+1)/\w.cell? ⟨b,off+i*3+1,none⟩=some (c1 i))/\(R b (off+i*3+2)/\w.cell? ⟨b,off+i*3+2,none⟩=some (c2 i))) (hl:n<=1000000000)
  (J:List Nat->World->Prop) (hJ:∀ pre A B,J pre A->Below A.heap.size A B->J pre B)
  (hY:∀ pre (x:Nat) V,J pre V->x=pre.length/\x<n->YieldAt Fence.wide 1 Tryz.prog l #[.int .i64 ((n:Int)-1-x),.agg #[c0 (n-1-x),c1 (n-1-x),c2 (n-1-x)]] V fun e V'=>e = .returned (.bool true)/\J (pre++[x]) V'/\KpX w.heap.size (fun b=>¬ ∃ o,R b o) V V')
  (W:World) (hW:Below w.heap.size w W) (h0:J [] W) :
  CallsIn Fence.wide 2 Tryz.prog 138 #[.func (.yield l) #[] #[],.pointer (some ⟨Bb,ob,none⟩)] W fun e W'=>(∃ v,e = .returned v)/\∃ ys,ys=List.range n/\J ys W':=by
 have hcs:∀ {V:World},KpX w.heap.size (fun b=>¬ ∃ o,R b o) w V->V.cell? ⟨Bb,ob,none⟩=some (.slice ao n cap)/\∀ i,i<n->∃ b off,ao=some ⟨b,off,none⟩/\V.cell? ⟨b,off+i*3,none⟩=some (c0 i)/\V.cell? ⟨b,off+i*3+1,none⟩=some (c1 i)/\V.cell? ⟨b,off+i*3+2,none⟩=some (c2 i):=fun {V} hV=>by
  have hkeep:∀ b o u,R b o->w.cell? ⟨b,o,none⟩=some u->V.cell? ⟨b,o,none⟩=some u:=fun b o u hr hc=>by
   have hb:b<w.heap.size:=World.block_lt_of_cell? w _ hc;rw [World.cell?_of_block (w:=w) (hV b hb (fun hn=>hn ⟨o,hr⟩))];exact hc
  refine ⟨hkeep _ _ _ hRb hbox,fun i hi=>?_⟩;obtain ⟨b,off,h1,⟨g1,g2⟩,⟨g3,g4⟩,g5,g6⟩:=hat i hi;exact ⟨b,off,h1,hkeep _ _ _ g1 g2,hkeep _ _ _ g3 g4,hkeep _ _ _ g5 g6⟩
 have hW0:KpX w.heap.size (fun b=>¬ ∃ o,R b o) w W:=fun b hb _=>hW.block b hb;have HC:Hid (∀ {V:World},KpX w.heap.size (fun b=>¬ ∃ o,R b o) w V->V.cell? ⟨Bb,ob,none⟩=some (.slice ao n cap)/\∀ i,i<n->∃ b off,ao=some ⟨b,off,none⟩/\V.cell? ⟨b,off+i*3,none⟩=some (c0 i)/\V.cell? ⟨b,off+i*3+1,none⟩=some (c1 i)/\V.cell? ⟨b,off+i*3+2,none⟩=some (c2 i)):=fun {V} h=>hcs h;clear hcs hbox hat hRb;obtain ⟨hb0,_⟩:=HC.out hW0;refine callsIn_of_wp Tryz.func138 rfl trivial ?_ rfl;simp only [Tryz.ntmps138,size_toArray,length_cons,length_nil,Nat.reduceAdd,Nat.reduceSub,Array.replicate_succ,Array.replicate_zero,push_toArray,append_toArray,nil_append,cons_append]
 gi_wp2
 gi_loopw [3] (fun iv wr=>∃ (z:Int) (k:Nat),iv = .int .i64 z/\z=(n:Int)-1-k/\k<=n/\J (List.range k) wr/\KpX w.heap.size (fun b=>¬ ∃ o,R b o) w wr) (fun iv wr=>(intOf iv+1).toNat)
 case atStart=>exact ⟨_,0,rfl,by omega,by omega,by simpa using h0,hW0⟩
 case round =>
  obtain ⟨z,k,rfl,hz,hk,hJr,hKr⟩:=hrel;clear hb0 h0 hW0;obtain ⟨hb1,hc1⟩:=HC.out hKr;by_cases hkn:k=n
  ·have hz1:z = -1:=by omega
   subst hz1
   gi_wp2
   go_end0
   refine ⟨⟨_,rfl⟩,_,rfl,?_⟩;rw [hkn] at hJr;exact hJr
  ·obtain ⟨j,hj⟩:∃ j:Nat,j=n-1-k:=⟨_,rfl⟩
   have hzj:z=(j:Int):=by omega
   have hjn:j<n:=by omega
   subst hzj;obtain ⟨b,off,rfl,hc2,hc3,hc4⟩:=hc1 j hjn;obtain ⟨fn,tmps,assign,body,hy,hR⟩:=hY (List.range k) k _ hJr ⟨by simp,by omega⟩;rw [show (n:Int)-1-k=(j:Int) by omega,show n-1-k=j from hj.symm] at hy;obtain ⟨v0,hv0⟩:∃ v,v=c0 j:=⟨_,rfl⟩
   obtain ⟨v1,hv1⟩:∃ v,v=c1 j:=⟨_,rfl⟩
   obtain ⟨v2,hv2⟩:∃ v,v=c2 j:=⟨_,rfl⟩
   rw [<-hv0] at hc2 hy;rw [<-hv1] at hc3 hy;rw [<-hv2] at hc4 hy;clear hc1 hv0 hv1 hv2;have hy:Sem.run Tryz.prog (Instr.yield l #[.int .i64 (j:Int),.agg #[v0,v1,v2]]) wr = .ok (.round l fn tmps assign body) wr:=hy;have HJ:Hid (j=n-1-k/\k<n):=⟨hj,by omega⟩
   clear hj hz hkn hk
   gi_wp2
   refine hR.mono ?_;rintro e V3 ⟨rfl,hJ3,hk3⟩
   gi_wp2
   go_roundw
   case rel=>exact ⟨_,k+1,rfl,by have:=HJ.out;omega,by have:=HJ.out;omega,by rw [List.range_succ];exact hJ3,fun b' hb' hx'=>(hk3 b' hb' hx').trans (hKr b' hb' hx')⟩
   case measure=>simp [intOf]
theorem sq3 {R:Nat->Nat->Prop} {w:World}:∀ {L:List Bd} {ys:List Value},Sq ((L.map Bd.cv).map fun c=>Rep R w c) ys->ys.length=3*L.length/\∀ i b,L[i]?=some b->Rep R w b.cw [ys.getD (i*3) undef,ys.getD (i*3+1) undef,ys.getD (i*3+2) undef]
 | [],ys,h=>by
  have h:ys=[]:=h;subst h;exact ⟨rfl,fun i b h=>by simp at h⟩
 | x::L,ys,⟨us,bs,e,h1,h2⟩=>by
  obtain ⟨ih1,ih2⟩:=sq3 (L:=L) h2;have hlen:us.length=3:=h1.len;obtain ⟨u0,u1,u2,rfl⟩:∃ u0 u1 u2,us=[u0,u1,u2]:=by
   match us,hlen with
   | [u0,u1,u2],_=>exact ⟨u0,u1,u2,rfl⟩
  subst e;refine ⟨by simp;omega,fun i b hi=>?_⟩;cases i with
  | zero =>
   simp at hi;subst hi;exact h1
  | succ i =>
   have:=ih2 i b (by simpa using hi);have hg:∀ k,([u0,u1,u2]++bs).getD (k+3) undef=bs.getD k undef:=fun k=>by simp [List.getD_eq_getElem?_getD]
   rw [show (i+1)*3=i*3+3 by omega,show i*3+3+1=i*3+1+3 by omega,show i*3+3+2=i*3+2+3 by omega,hg,hg,hg];exact this
theorem a8A {R:Nat->Nat->Prop} {w:World} {L:List Bd} {Bb ob:Nat} {ao:Option Addr} {cap:Nat} (hl:L.length<=1000000000) (hbox:w.cell? ⟨Bb,ob,none⟩=some (.slice ao L.length cap)) (hRb:R Bb ob) (hv:VRep R w (.lst (L.map Bd.cv)) (.slice ao L.length cap)) :
  ∃ c0 c1 c2:Nat->Value,(∀ i b,L[i]?=some b->VRep R w b.cw (.agg #[c0 i,c1 i,c2 i])) /\
   X9 Tryz.prog 138 #[.pointer (some ⟨Bb,ob,none⟩)] (fun x:Nat => #[.int .i64 ((L.length:Int)-1-x),.agg #[c0 (L.length-1-x),c1 (L.length-1-x),c2 (L.length-1-x)]]) (fun pre x _=>x=pre.length/\x<L.length) (KpX w.heap.size fun b=>¬ ∃ o,R b o) (fun ys=>ys=List.range L.length) w:=by
 obtain ⟨a',n',c',e0,e1,e2,e3,e4,ys,e5,e6⟩:=k8.1 hv;injection e0 with e0 _ _;subst e0;obtain ⟨s1,s2⟩:=sq3 e6;refine ⟨fun i=>ys.getD (i*3) undef,fun i=>ys.getD (i*3+1) undef,fun i=>ys.getD (i*3+2) undef,fun i b hb=>⟨_,rfl,s2 i b hb⟩,?_⟩;intro l J W hW hJ hY h0;refine b6g l Bb ob L.length (fun i=>ys.getD (i*3) undef) (fun i=>ys.getD (i*3+1) undef) (fun i=>ys.getD (i*3+2) undef) R w ao cap hbox hRb (fun i hi=>?_) hl J hJ hY W hW h0;rcases e5 with h1 | ⟨b,off,h1,h2⟩
 ·rw [h1] at s1;simp at s1;omega
 ·have hk:∀ k,k<ys.length->R b (off+k)/\w.cell? ⟨b,off+k,none⟩=some (ys.getD k undef):=fun k hk=>by
   obtain ⟨g1,g2⟩:=h2 k hk;exact ⟨g1,by rw [g2,List.getD_eq_getElem?_getD,getElem?_eq_getElem hk];rfl⟩
  exact ⟨b,off,h1,hk (i*3) (by omega),hk (i*3+1) (by omega),hk (i*3+2) (by omega)⟩
def a2L (b:Bd):List Bd->List Bd
 | []=>[b]
 | x::M=>if x.v=b.v then b::M else x::a2L b M
theorem a9b (b:Bd):∀ M:List Bd,a2l .i64 b.v b.t.cw (M.map imR)=(a2L b M).map imR
 | []=>rfl
 | x::M=>by
  rw [map_cons,a2L];have h1:=a4H (k := .i64) (i:=b.v) (j:=x.v) (c:=b.t.cw) (c':=x.t.cw) (l:=M.map imR);by_cases h:x.v=b.v
  ·rw [if_pos h] at h1 |-;exact h1
  ·rw [if_neg h] at h1 |-;rw [a9b b M] at h1;exact h1
theorem a6o (b:Bd) (v:Int):∀ M:List Bd,b7 (a2L b M) v=if b.v=v then some b.t else b7 M v
 | []=>rfl
 | x::M=>by
  rw [a2L];by_cases h:x.v=b.v
  ·rw [if_pos h,b7,b7];by_cases h2:b.v=v
   ·rw [if_pos h2,if_pos h2]
   ·rw [if_neg h2,if_neg h2,if_neg (by omega)]
  ·rw [if_neg h,b7,b7,a6o b v M];by_cases h2:b.v=v
   ·rw [if_pos h2,if_pos h2,if_neg (by omega)]
   ·rw [if_neg h2,if_neg h2]
def a3m (L:List Bd) (k:Nat):List Bd:=(L.reverse.take k).foldl (fun M b=>a2L b M) []
theorem b4d {L:List Bd} {k:Nat} {b:Bd} (h:L[L.length-1-k]?=some b) (hk:k<L.length):a3m L (k+1)=a2L b (a3m L k):=by
 unfold a3m;rw [take_add_one,List.getElem?_reverse hk,h,List.foldl_append];rfl
theorem b4c:∀ (L:List Bd) (v:Int),b7 (a3m L L.length) v=b7 L v:=by
 intro L v;have:∀ L:List Bd,b7 (L.reverse.foldl (fun M b=>a2L b M) []) v=b7 L v:=by
  intro L
  induction L with
  | nil=>rfl
  | cons b L ih =>
   rw [List.reverse_cons,List.foldl_append];show b7 (a2L b _) v=_;rw [a6o,ih,b7]
 unfold a3m;rw [<-List.length_reverse,take_length];exact this L
attribute [local go_sem] Oper.semAt_some
theorem b9a {P:Program} {w:World} {U:Nat->Nat->Prop} {t kt et:TypeId} {k:IntKind} {i:Int} {l:List CV} {g clock:Nat} {es:Array MapEntry} {val:Value} {c:CV} (hu:P.underlying t=some (.map kt et)) (huk:P.underlying kt=some (.int k)) (g2:w.heap[g]?=some (.map es clock)) (g3:Ents U w l es.toList) (hik:x8 k l) (e3:VRep U w c val) :
  ∃ es' clock',(Instr.mapUpdate t (.map (some g)) (.int k i) val).run P w = .ok () { w with heap:=w.heap.setIfInBounds g (.map es' clock') }/\Ents U w (a2l k i c l) es'.toList:=by
 have hck:=run_checkKey (P:=P) (w:=w) huk (k := .int k i) rfl false 9999;have hge:=Go.MapKept.run_getObj_map (P:=P) g2;obtain ⟨p1,p2'⟩:=Y6 (i:=i) c hik;rcases K2 0 g3 hik (i:=i) with ⟨f1,f2⟩ | ⟨j,e,c',f1,f2,f3,f4,f5,f6⟩
 ·have hfk:=run_findKey (P:=P) (w:=w) huk f1;refine ⟨es.push { key := .int k i,val:=val,born:=clock },clock+1,?_,?_⟩
  ·have hso:=run_setObj_map (P:=P) (Obj.map (es.push { key := .int k i,val:=val,born:=clock }) (clock+1)) g2;simp [Instr.mapUpdate,run_underlying hu,hge,hck,hfk,hso]
  ·rw [p1 f2,Array.toList_push];exact a2a g3 ⟨.sc (.int k i),c,rfl,rfl,rfl,e3⟩
 ·have hfk:=run_findKey (P:=P) (w:=w) huk f1;rw [Nat.zero_add] at hfk;have hjl:j<es.size:=by
   have:=(List.getElem?_eq_some_iff.1 f2).1;simpa using this
  have hej:es[j]?=some e:=by rw [<-Array.getElem?_toList];exact f2
  have hmod:(es.modify j fun e=>{ e with key := .int k i,val:=val }).toList=es.toList.set j { e with key := .int k i,val:=val }:=by
   rw [Array.toList_modify];apply List.ext_getElem?;intro q;rw [List.getElem?_modify,List.getElem?_set];by_cases hq:j=q
   ·subst hq;have:es[j]=e:=(Array.getElem?_eq_some_iff.1 hej).2;simp [hjl,this]
   ·simp [hq]
  refine ⟨es.modify j fun e=>{ e with key := .int k i,val:=val },clock,?_,?_⟩
  ·have hso:=run_setObj_map (P:=P) (Obj.map (es.modify j fun e=>{ e with key := .int k i,val:=val }) clock) g2;have hst:(Instr.keyThatStays (.int k i) (.int k i)).run P w = .ok (.int k i) w:=by simp [Instr.keyThatStays,Instr.sameBits]
   simp [Instr.mapUpdate,run_underlying hu,hge,hck,hfk,hso,hej,f5,hst]
  ·rw [hmod,p2' j c' f3 (a0q 0 (j:=j) g3 hik f1)];exact a4B g3 ⟨.sc (.int k i),c,rfl,rfl,rfl,e3⟩
theorem a2H {F:Fence} {nF:Nat} {P:Program} (w:World) {ops:Array Oper} {rest:List Oper} {o:Oper} {a:Act} {Q:Exit->Act->World->Prop}
  (hg:o.guard=none) (m x v:Operand) (t:TypeId) (hop:o.op=Op.mapUpdate t m x v) {mv key val:Value} (hm:a.eval m=mv) (hx:a.eval x=key) (hv:a.eval v=val) {w':World} (hrun:(Instr.mapUpdate t mv key val).run P w = .ok () w')
  (hK:wpListIn F nF P ops Q rest (a.put o.dst undef) w'):wpListIn F nF P ops Q (o::rest) a w:=by
 refine wpListIn_plain hg fun K' hK'=>?_;unfold Oper.wpIn;refine ⟨by simp [Oper.about,hop],?_⟩;rw [Oper.semAt_plain F _ _ (by rw [hop];intro c hc';cases hc')];simp [execOp,hop,hm,hx,hv,hrun,Result.andThen];exact hK' _ _ hK
theorem b0V (ao:Option Addr) (n c:Nat) (w:World) :
  CallsIn Fence.wide 2 Tryz.prog 111 #[.slice ao n c] w fun e w'=>e = .returned (.func (.func 138) #[] #[.pointer (some ⟨w.heap.size,0,none⟩)])/\w'=w.alloc (.cells #[.slice ao n c] 58):=by
 refine callsIn_of_wp Tryz.func111 rfl trivial ?_ rfl;simp only [Tryz.ntmps111,size_toArray,length_cons,length_nil,Nat.reduceAdd,Nat.reduceSub,Array.replicate_succ,Array.replicate_zero,push_toArray,append_toArray,nil_append,cons_append]
 gi_wp2
 go_ret
 exact ⟨rfl,rfl⟩
theorem b2y {R:Nat->Nat->Prop} {w:World} {b:Bd} {u0 u1 u2:Value} (h:VRep R w b.cw (.agg #[u0,u1,u2])):u0 = .int .i64 b.v/\VRep R w b.t.cw (.agg #[u1,u2]):=by
 obtain ⟨xs,e,h1⟩:=J3.1 h;have hxs:xs=[u0,u1,u2]:=by
  injection e with e;have:=congrArg Array.toList e;simpa using this.symm
 subst hxs;obtain ⟨us,bs,e1,k1,us',bs',e2,k3,k4⟩:=h1;have hus:us=[.int .i64 b.v]:=(N7.1 k1).1;have hbs:bs'=[]:=k4;subst hus;subst hbs;subst e2;simp at e1;obtain ⟨e3,e4⟩:=e1;subst e4;exact ⟨e3,_,rfl,k3⟩
theorem a4O {R:Nat->Nat->Prop} {w:World} {t:Tm} {u1 u2:Value} (h:VRep R w t.cw (.agg #[u1,u2])):u1 = .int .i64 t.f/\∃ a m c,u2 = .slice a m c:=by
 obtain ⟨xs,e,h1⟩:=J3.1 h;have hxs:xs=[u1,u2]:=by
  injection e with e;have:=congrArg Array.toList e;simpa using this.symm
 subst hxs;obtain ⟨us,bs,e1,k1,us',bs',e2,k3,k4⟩:=h1;have hus:us=[.int .i64 t.f]:=(N7.1 k1).1;have hbs:bs'=[]:=k4;subst hus;subst hbs;subst e2;simp at e1;obtain ⟨e3,e4⟩:=e1;subst e4;obtain ⟨a,m,c,e5,_⟩:=T3.1 k3;simp at e5;exact ⟨e3,a,m,c,e5⟩
theorem a8p {α:Type} {P:Program} {gf:Nat} {lb:Array Value} {encs encs':α->Array Value} {Ok:List α->α->World->Prop} {Kp:World->World->Prop} {S:List α->Prop} {w:World} (he:∀ pre x V,Ok pre x V->encs x=encs' x) (h:X9 P gf lb encs Ok Kp S w):X9 P gf lb encs' Ok Kp S w:=
 fun l J W hW hJ hY h0=>h l J W hW hJ (fun pre x V hj hok=>by rw [he pre x V hok];exact hY pre x V hj hok) h0
theorem a8E {R:Nat->Nat->Prop} {w:World} {L:List Bd} {Bb ob n:Nat} {ao:Option Addr} {cap:Nat} (hn:n=L.length) (hl:L.length<=1000000000) (hbox:w.cell? ⟨Bb,ob,none⟩=some (.slice ao n cap)) (hRb:R Bb ob) (hv:VRep R w (.lst (L.map Bd.cv)) (.slice ao L.length cap)) :
  ∃ (v f:Nat->Int) (a:Nat->Option Addr) (m c:Nat->Nat),(∀ x b,x<n->L[n-1-x]?=some b->VRep R w b.cw (.agg #[.int .i64 (v x),.int .i64 (f x),.slice (a x) (m x) (c x)])) /\
   X9 Tryz.prog 138 #[.pointer (some ⟨Bb,ob,none⟩)] (fun x:Nat => #[.int .i64 ((n:Int)-1-x),.agg #[.int .i64 (v x),.int .i64 (f x),.slice (a x) (m x) (c x)]]) (fun pre x _=>x=pre.length/\x<n) (KpX w.heap.size fun b=>¬ ∃ o,R b o) (fun ys=>ys=List.range n) w:=by
 subst hn;obtain ⟨c0,c1,c2,hc,hG⟩:=a8A hl hbox hRb hv;have hx:∀ x:Nat,∃ (q:Int×Int×Option Addr×Nat×Nat),x<L.length->c0 (L.length-1-x) = .int .i64 q.1/\c1 (L.length-1-x) = .int .i64 q.2.1/\c2 (L.length-1-x) = .slice q.2.2.1 q.2.2.2.1 q.2.2.2.2:=fun x=>by
  by_cases h:x<L.length
  ·obtain ⟨bd,hbd⟩:∃ bd,L[L.length-1-x]?=some bd:=⟨L[L.length-1-x]'(by omega),getElem?_eq_getElem _⟩
   obtain ⟨g0,g1⟩:=b2y (hc _ _ hbd);obtain ⟨g2,a,m,c,g3⟩:=a4O g1;exact ⟨⟨bd.v,bd.t.f,a,m,c⟩,fun _=>⟨g0,g2,g3⟩⟩
  ·exact ⟨⟨0,0,none,0,0⟩,fun h2=>absurd h2 h⟩
 obtain ⟨q,hq⟩:∃ q:Nat->Int×Int×Option Addr×Nat×Nat,∀ x:Nat,x<L.length->c0 (L.length-1-x) = .int .i64 (q x).1/\c1 (L.length-1-x) = .int .i64 (q x).2.1/\c2 (L.length-1-x) = .slice (q x).2.2.1 (q x).2.2.2.1 (q x).2.2.2.2:=⟨fun x=>(hx x).choose,fun x=>(hx x).choose_spec⟩
 clear hx;refine ⟨fun x=>(q x).1,fun x=>(q x).2.1,fun x=>(q x).2.2.1,fun x=>(q x).2.2.2.1,fun x=>(q x).2.2.2.2,fun x b hxl hb=>?_,a8p (fun pre x V hok=>?_) hG⟩
 ·obtain ⟨g1,g2,g3⟩:=hq x hxl;have:=hc _ _ hb;rw [g1,g2,g3] at this;exact this
 ·obtain ⟨g1,g2,g3⟩:=hq x hok.2;rw [g1,g2,g3]
def ImR (w:World) (R:Nat->Nat->Prop) (b o:Nat):Prop:=(R b o/\b<w.heap.size)\/b=w.heap.size+1+1
def ImI (w wl:World) (R:Nat->Nat->Prop) (L:List Bd) (k:Nat) (W:World):Prop:=
 W.heap[w.heap.size+1]?=some (.cells #[.map (some w.heap.size)] 146 (0,0))/\(∃ es clock,W.heap[w.heap.size]?=some (.map es clock)/\Ents (ImR w R) W ((a3m L k).map imR) es.toList)/\Below w.heap.size w W/\w.heap.size+3<=W.heap.size/\KpX (w.heap.size+3) (fun b=>¬ ∃ o,ImR w R b o) wl W
theorem a4Z {w:World} {R:Nat->Nat->Prop} {b o:Nat} (h:ImR w R b o):b<w.heap.size+3/\b≠w.heap.size:=by
 rcases h with h | h
 ·have:=h.2;omega
 ·omega
theorem ImI.up {w wl:World} {R:Nat->Nat->Prop} {L:List Bd} {k:Nat} {W W':World} (h:ImI w wl R L k W) (hb:∀ b,b<w.heap.size+3->W'.heap[b]?=W.heap[b]?) (hB:Below w.heap.size W W'):ImI w wl R L k W':=by
 obtain ⟨h1,⟨es,clock,h2,h3⟩,h4,h5,h6⟩:=h;refine ⟨by rw [hb _ (by omega)];exact h1,⟨es,clock,by rw [hb _ (by omega)];exact h2,h3.keep fun b o u hu hc=>⟨hu,?_⟩⟩,h4.trans hB,Nat.le_trans h5 hB.size,fun b hb' hx=>(hb b hb').trans (h6 b hb' hx)⟩;rw [World.cell?_of_block (w:=W) (hb b (a4Z hu).1)];exact hc
theorem ImI.put {w wl:World} {R:Nat->Nat->Prop} {L:List Bd} {k:Nat} {W:World} (h:ImI w wl R L k W) {bd:Bd} (hbd:L[L.length-1-k]?=some bd) (hk:k<L.length) {es:Array MapEntry} {clock:Nat} (hE:Ents (ImR w R) W (a2l .i64 bd.v bd.t.cw ((a3m L k).map imR)) es.toList):ImI w wl R L (k+1) { W with heap:=W.heap.setIfInBounds w.heap.size (.map es clock) }:=by
 obtain ⟨h1,⟨es0,clock0,h2,h3⟩,h4,h5,h6⟩:=h;obtain ⟨q1,q2⟩:=heap_set (o':=Obj.map es clock) h2;have hE:Ents (ImR w R) W ((a3m L (k+1)).map imR) es.toList:=by rw [b4d hbd hk,<-a9b];exact hE
 refine ⟨by rw [q2 _ (by omega)];exact h1,⟨es,clock,q1,hE.keep fun b o u hu hc=>⟨hu,?_⟩⟩,⟨h4.os,h4.tape,h4.output,by simpa using h4.size,fun b hb=>(q2 b (by omega)).trans (h4.block b hb)⟩,by simpa using h5,fun b hb' hx=>?_⟩
 ·rw [World.cell?_of_block (w:=W) (q2 b (a4Z hu).2)];exact hc
 ·obtain ⟨o,ho⟩:=Classical.not_not.1 hx;exact (q2 b (a4Z ho).2).trans (h6 b hb' hx)
set_option maxRecDepth 100000 in
set_option maxHeartbeats 4000000 in
theorem b3h (L:List Bd) {R:Nat->Nat->Prop} {w:World} {ao:Option Addr} {n cap:Nat} (hn:n=L.length) (hv:VRep R w (.lst (L.map Bd.cv)) (.slice ao L.length cap)) (h64:64<n) (hl:n<=1000000000) :
  CallsIn Fence.wide 3 Tryz.prog 75 #[.slice ao n cap] w fun e W'=>∃ b g,e = .returned (.func (.func 112) #[] #[.pointer (some ⟨b,0,none⟩)])/\a9C b g ((a3m L L.length).map imR) (fun b o=>R b o\/w.heap.size<=b) W'/\Below w.heap.size w W':=by
 have hmm:∀ w:World,Sem.run Tryz.prog (Instr.makeMap 146 (some (.int .i64 (n:Int)))) w = .ok (.map (some w.heap.size)) (w.alloc (.map #[] 0)):=fun w=>by
  simp [Instr.makeMap,run_underlying Tryz.underlying146,asInt,asIntOf,run_newObj_alloc]
 have HL:=hid hn;have HV:=hid hv;clear hn hv;refine callsIn_of_wp_marks Tryz.func75 rfl trivial ?_ rfl;simp only [Tryz.ntmps75,size_toArray,length_cons,length_nil,Nat.reduceAdd,Nat.reduceSub,Array.replicate_succ,Array.replicate_zero,push_toArray,append_toArray,nil_append,cons_append]
 gi_wp2_with (refine ⟨trivial,?_⟩;gi_at_call 111;refine (b0V _ _ _ _).mono ?_;rintro e w' ⟨rfl,rfl⟩)
 obtain ⟨w1,hw1⟩:∃ w1,w1=w.alloc (.map #[] 0):=⟨_,rfl⟩
 obtain ⟨w2,hw2⟩:∃ w2,w2=w1.alloc (.cells #[.map (some w.heap.size)] 146):=⟨_,rfl⟩
 obtain ⟨wl,hwl⟩:∃ wl,wl=w2.alloc (.cells #[.slice ao n cap] 58):=⟨_,rfl⟩
 have s1:w1.heap.size=w.heap.size+1:=by rw [hw1];simp
 have s2:w2.heap.size=w.heap.size+1+1:=by rw [hw2];simp;omega
 have hsz:wl.heap.size=w.heap.size+3:=by rw [hwl];simp;omega
 have k1:Below w.heap.size w w1:=by rw [hw1];exact bA (bW _) _
 have k2:Below w1.heap.size w1 w2:=by rw [hw2];exact bA (bW _) _
 have k3:Below w2.heap.size w2 wl:=by rw [hwl];exact bA (bW _) _
 have hb0:Below w.heap.size w wl:=bN (bN k1 k2) k3;have hbx:wl.cell? ⟨w.heap.size+1+1,0,none⟩=some (.slice ao n cap):=by
  have:wl.heap[w.heap.size+1+1]?=some (.cells #[.slice ao n cap] 58 (0,0)):=by rw [hwl,<-s2];exact World.alloc_heap_new _ _
  simp [World.cell?,this]
 have hI0:ImI w wl R L 0 wl:=by
  refine ⟨?_,⟨#[],0,?_,rfl⟩,hb0,by omega,fun b hb hx=>rfl⟩
  ·rw [k3.block _ (by omega),hw2,<-s1];exact World.alloc_heap_new _ _
  ·rw [k3.block _ (by omega),k2.block _ (by omega),hw1];exact World.alloc_heap_new _ _
 have hv':VRep (ImR w R) wl (.lst (L.map Bd.cv)) (.slice ao L.length cap):=HV.out.keep fun b o u hu hc=>by
  have hlt:=World.block_lt_of_cell? w _ hc;refine ⟨.inl ⟨hu,hlt⟩,?_⟩;rw [World.cell?_of_block (w:=w) (hb0.block b hlt)];exact hc
 obtain ⟨zv,zf,za,zm,zc,hc,hG⟩:=a8E (R:=ImR w R) (w:=wl) (L:=L) (Bb:=w.heap.size+1+1) (ob:=0) HL.out (by have:=HL.out;omega) hbx (.inr rfl) hv';rw [<-hw1,<-hw2,<-hwl];clear hwl hw1 hw2 s1 s2 k1 k2 k3 hv' hbx hmm;refine a2m (gf:=138) (lb := #[.pointer (some ⟨w.heap.size+1+1,0,none⟩)]) rfl (enters_of Tryz.func138 (by kernel_rfl) rfl)
  hG (fun {A B C} h1 h2 b hb hx=>(h2 b hb hx).trans (h1 b hb hx)) (fun W l o o' hl h ho b hb hx=>World.putObj_heap_other (by omega)) (fun pre x W l o o' hl hx h ho=>hx) (fun x=>rfl)
  (fun pre W=>ImI w wl R L pre.length W) (fun pre A B h hb=>h.up (fun b hb'=>hb.block b (by have:=h.2.2.2.1;omega)) ⟨hb.os,hb.tape,hb.output,hb.size,fun b hb'=>hb.block b (by have:=h.2.2.2.1;omega)⟩) (fun pre A l o o' h hl h1 h2=>h.up (fun b hb'=>World.putObj_heap_other (by omega)) (J4 o' (by omega) h1 h2).1) hI0
  (fun x b=>{ tmps := #[.slice ao n cap,undef,.nilFunc,.pointer (some ⟨w.heap.size+1,0,none⟩),undef,.pointer (some ⟨b,0,none⟩),.slice ao n cap,.int .i64 n,.bool (decide ((n:Int)<=64)),undef,undef,.slice ao n cap,.int .i64 n,.map (some w.heap.size),.slice ao n cap,.func (.func 138) #[] #[.pointer (some ⟨w.heap.size+1+1,0,none⟩)],.int .i64 ((n:Int)-1-x),.agg #[.int .i64 (zv x),.int .i64 (zf x),.slice (za x) (zm x) (zc x)],undef,undef,undef,undef,undef,undef],defers:=[] })
  (fun x => .cells #[.int .i64 (zv x),.int .i64 (zf x),.slice (za x) (zm x) (zc x)] 99 (0,0)) (fun V x hV b hb hx=>(bA (bW V) _).block b (by omega)) (fun pre x V hx=>hx) ?assign ?body ?done
 case assign =>
  intro l x W K hK
  gi_wp2
  exact hK
 case body =>
  rintro l pre x W b hb hbx' hI ⟨hx,hxl⟩;obtain ⟨bd,hbd⟩:∃ bd,L[n-1-x]?=some bd:=⟨L[n-1-x]'(by have:=HL.out;omega),getElem?_eq_getElem _⟩
  obtain ⟨g0,g1⟩:=b2y (hc _ _ hxl hbd);have hvW:VRep (ImR w R) W bd.t.cw (.agg #[.int .i64 (zf x),.slice (za x) (zm x) (zc x)]):=by
   refine g1.keep fun b o u hu hcc=>⟨hu,?_⟩
   rw [World.cell?_of_block (w:=wl) (hI.2.2.2.2 b (a4Z hu).1 fun hn=>hn ⟨o,hu⟩)];exact hcc
  rw [g0] at hbx';rw [g0];have HI:=hid hI;obtain ⟨i1,⟨es,clock,i2,i3⟩,i4,i5,i6⟩:=hI;obtain ⟨es',clock',hrun,hE⟩:=b9a (P:=Tryz.prog) (t:=146) (k := .i64) (i:=bd.v) Tryz.underlying146 Tryz.underlying3 i2 i3 (a4q _) hvW;have e0:W.cell? ⟨b,0,none⟩=some (.int .i64 bd.v):=by simp [World.cell?,hbx']
  have e1:W.cell? ⟨b,1,none⟩=some (.int .i64 (zf x)):=by simp [World.cell?,hbx']
  have e2:W.cell? ⟨b,2,none⟩=some (.slice (za x) (zm x) (zc x)):=by simp [World.cell?,hbx']
  have em:W.cell? ⟨w.heap.size+1,0,none⟩=some (.map (some w.heap.size)):=by simp [World.cell?,i1]
  have HX:Hid (x=pre.length/\x<n):=⟨hx,hxl⟩
  have HB:=hid hbd;have HE:=hid hE;have H2:=hid i2;clear hx hxl hbd hE i1 i2 i3 i4 i6 hc hG hI0 g0 g1 hvW hbx'
  gi_wp2_with (gi_at_mapUpdate;refine a2H _ rfl _ _ _ 146 rfl rfl rfl rfl hrun ?_)
  obtain ⟨hx,hxl⟩:=HX.out;obtain ⟨q1,q2⟩:=heap_set (o':=Obj.map es' clock') H2.out;refine ⟨⟨by simp,fun g o hg1 hg2 ho=>by rw [q2 g (by omega)];exact hg2⟩,fun b hb hx=>?_,?_⟩
  ·obtain ⟨o,ho⟩:=Classical.not_not.1 hx;exact q2 b (a4Z ho).2
  ·rw [List.length_append];have hB2:=HB.out;rw [HL.out,hx] at hB2;exact ImI.put HI.out hB2 (by have:=HL.out;omega) HE.out
 case done =>
  rintro D xs W hD hS hI hK
  gi_wp2
  refine ⟨by simp,.inl ⟨_,_,rfl,run_takeDeferred hK,?_⟩⟩;have hI2:=hI.up (W':=W.putObj D (.deferred none)) (fun b hb'=>World.putObj_heap_other (by omega)) (J4 _ (by omega) hK rfl).1;rw [hS,List.length_range,HL.out] at hI2;obtain ⟨j1,⟨es,clock,j2,j3⟩,j4,_,_⟩:=hI2;refine ⟨_,results_tmp rfl _ _ _,w.heap.size+1,w.heap.size,rfl,⟨by simp [World.cell?,j1],es,clock,j2,j3.keep fun b o u hu hc=>⟨?_,hc⟩⟩,j4⟩;rcases hu with h | h
  ·exact .inl h.1
  ·exact .inr (by omega)
theorem b1e {P:Program} (w:World) {ops:Array Oper} {o:Oper} {a:Act} {K:Act->World->Prop} {Q:Exit->Act->World->Prop} {E:Prop} (hgd:Region.wanted o (yielded ops a.tmps)=true) (f:Nat) (x y:Operand) (ts:Array TypeId)
  (ho:o.op = .call { callee := .value (.func f),args := #[x,y],argTypes:=ts }) (eg:∀ args w,(callFunc f args).run P w = .ok (.enter f args) w) (v u:Value) (hx:a.eval x=v) (hy:a.eval y=u) {R:Ending->World->Prop} (hc:Calls P f #[v,u] w R) (h:∀ e w',R e w'->∃ u,e = .returned u/\K (a.put o.dst u) w') :
  if Region.wanted o (yielded ops a.tmps)=true then Oper.wp P o a w K Q else E:=by
 rw [if_pos hgd];unfold Oper.wp;have he:(execOp a.eval o).run P w = .ok (.enter f #[v,u]) w:=by
  have hf:a.eval (.func f) = .func (.func f) #[] #[]:=rfl;generalize a.eval=ρ at hf hx hy |-;simp [execOp,ho,resolve,invoke,Deferred.ofValue,hf,hx,hy,eg]
 rw [he,Oper.upon_enter];refine hc.mono ?_;rintro e w' hr;obtain ⟨u,rfl,hk⟩:=h e w' hr;exact hk
theorem a8k {tmps:Array Value} {w:World} {g:Nat} {x y:Value} (hp:tmps.getD 4 undef = .pointer (some ⟨g,0,none⟩)) (hg:w.heap[g]?=some (.cells #[x,y] 42 (0,0))) :
  (results Tryz.f50 tmps).run Tryz.prog w = .ok (.agg #[x,y]) w:=by
 have hp':tmps[4]?.getD undef = .pointer (some ⟨g,0,none⟩):=by simpa using hp
 simp [results,hp',asAddr,run_loadVar_row w g _ 42 #[x,y] (0,0) _ hg Tryz.underlying42 rfl a0G]
set_option maxRecDepth 100000 in
set_option maxHeartbeats 4000000 in
theorem b0F (W:World) (L:List Bd) (t:Tm) (hl:64<L.length) (hl2:L.length<=1000000000) (hb:bdsOk L) (hr:t.rng) (hok:t.ok):AFun Tryz.prog W 50 [.lst (L.map Bd.cv),t.cw] (.val (a8 (c9 L) t).cw):=by
 refine ⟨B8 Tryz.func50 rfl rfl,.inl rfl,rfl,fun U w vs _ hv=>?_⟩;obtain ⟨sv,vs1,rfl,hv1,tv,vs2,rfl,hv2,hv3⟩:=hv;have hv3:vs2=[]:=hv3;subst hv3;obtain ⟨ao,n,cap,e1,e2,_⟩:=k8.1 hv1;subst e1;rw [length_map] at e2;obtain ⟨xs,e3,hx3⟩:=J3.1 hv2;obtain ⟨u1,u2,rfl⟩:∃ u1 u2,xs=[u1,u2]:=by
  have h3:xs.length=2:=(F4.2 hx3).len
  match xs,h3 with
  | [u1,u2],_=>exact ⟨u1,u2,rfl⟩
 subst e3;obtain ⟨g1,ta,tm,tc,g2⟩:=a4O hv2;subst g1;subst g2;have hv1':VRep U w (.lst (L.map Bd.cv)) (.slice ao L.length cap):=by rw [<-e2];exact hv1
 have HImg:Hid (∀ V:World,Below w.heap.size w V->w.heap.size+2<=V.heap.size->Calls Tryz.prog 75 #[.slice ao n cap] V fun e W'=>∃ b g,e = .returned (.func (.func 112) #[] #[.pointer (some ⟨b,0,none⟩)])/\a9C b g ((a3m L L.length).map imR) (fun b o=>(U b o/\b<w.heap.size)\/w.heap.size+2<=b) W'/\Below V.heap.size V W'):=fun V hV hV2 =>
  Calls.mono (callsIn_wide.1 (b3h (R:=fun b o=>U b o/\b<w.heap.size) L e2 (hv1'.keep fun b o u hu hc=>⟨⟨hu,World.block_lt_of_cell? w _ hc⟩,by
   rw [World.cell?_of_block (w:=w) (hV.block b (World.block_lt_of_cell? w _ hc))];exact hc⟩) (by omega) (by omega))) fun e W' ⟨b,g,k1,⟨k2,es,ck,k3,k4⟩,k5⟩=>⟨b,g,k1,⟨k2,es,ck,k3,k4.keep fun b o u hu hc=>⟨hu.imp id fun h=>by omega,hc⟩⟩,k5⟩
 have HRep:Hid (∀ (V:World) (b g:Nat),Below w.heap.size w V->w.heap.size+2<=V.heap.size->a9C b g ((a3m L L.length).map imR) (fun b o=>(U b o/\b<w.heap.size)\/w.heap.size+2<=b) V->Calls Tryz.prog 59 #[.agg #[.int .i64 t.f,.slice ta tm tc],.func (.func 112) #[] #[.pointer (some ⟨b,0,none⟩)]] V fun e W'=>∃ a m c,e = .returned (.agg #[.int .i64 (a8 (c9 L) t).f,.slice a m c])/\VRep (fun b o=>(U b o/\b<w.heap.size)\/w.heap.size+2<=b) W' (a8 (c9 L) t).cw (.agg #[.int .i64 (a8 (c9 L) t).f,.slice a m c])/\Below V.heap.size V W'):=fun V b g hV hV2 hq=>by
  have hI:∀ v,0<=v->v<=9223372036854775807->a8f Tryz.prog (a9C b g ((a3m L L.length).map imR)) (.fn 112 0 [.sc (.pointer (some ⟨b,0,none⟩))]) [.i v] (.val (c9 L v).cw)/\(c9 L v).rng/\(c9 L v).size<=90000000000:=fun v h1 h2=>by
   refine ⟨⟨_,_,_,rfl,?_⟩,a1H hb h1 h2⟩;have h3:=b5B b g (a3m L L.length) v h1 h2;rw [show c9 (a3m L L.length) v=c9 L v by unfold c9;rw [b4c]] at h3;exact h3
  have h4:=(a6D (a3T b g _) _ (c9 L) hI t hr hok).2.2.2 (fun b o=>(U b o/\b<w.heap.size)\/w.heap.size+2<=b) V [.agg #[.int .i64 t.f,.slice ta tm tc],.func (.func 112) #[] #[.pointer (some ⟨b,0,none⟩)]] hq ⟨_,_,rfl,hv2.keep fun b o u hu hc=>⟨.inl ⟨hu,World.block_lt_of_cell? w _ hc⟩,by
   rw [World.cell?_of_block (w:=w) (hV.block b (World.block_lt_of_cell? w _ hc))];exact hc⟩,_,_,rfl,T2.2 ⟨[],[.pointer (some ⟨b,0,none⟩)],rfl,rfl,⟨[_],[],rfl,N7.2 ⟨rfl,rfl⟩,rfl⟩,fun c hc=>by simp at hc;subst hc;simp [CV.sc]⟩,rfl⟩
  refine Calls.mono h4 ?_;rintro e W' ⟨v,rfl,hR,hB⟩;have hR:VRep (fun b o=>((U b o/\b<w.heap.size)\/w.heap.size+2<=b)\/V.heap.size<=b) W' (a8 (c9 L) t).cw v:=hR;have hR:=hR.keep (V:=fun b o=>(U b o/\b<w.heap.size)\/w.heap.size+2<=b) (w':=W') fun b o u hu hc=>⟨hu.elim id fun h => .inr (by omega),hc⟩
  obtain ⟨xs,e3,hx3⟩:=J3.1 hR;obtain ⟨u1,u2,rfl⟩:∃ u1 u2,xs=[u1,u2]:=by
   have h3:xs.length=2:=(F4.2 hx3).len
   match xs,h3 with
   | [u1,u2],_=>exact ⟨u1,u2,rfl⟩
  subst e3;obtain ⟨g1,a,m,c,g2⟩:=a4O hR;subst g1;subst g2;exact ⟨a,m,c,rfl,hR,hB⟩
 clear hv1 hv1' hv2 hx3 hb hr hok hl hl2 e2;show Calls Tryz.prog 50 #[.slice ao n cap,.agg #[.int .i64 t.f,.slice ta tm tc]] w _;refine calls_of_wp Tryz.func50 rfl ?_;simp only [Tryz.ntmps50,size_toArray,length_cons,length_nil,Nat.reduceAdd,Nat.reduceSub,Array.replicate_succ,Array.replicate_zero,push_toArray,append_toArray,nil_append,cons_append]
 go_wp2_with fail
 obtain ⟨w2,hw2⟩:∃ w2,w2=(w.alloc (.cells #[.int .i64 t.f,.slice ta tm tc] 42)).alloc (.cells #[.int .i64 0,.slice none 0 0] 42):=⟨_,rfl⟩
 have hsz:w2.heap.size=w.heap.size+2:=by rw [hw2];simp
 have hb2:Below w.heap.size w w2:=by rw [hw2];exact bA (bA (bW _) _) _
 have y1:w2.heap[w.heap.size]?=some (.cells #[.int .i64 t.f,.slice ta tm tc] 42 (0,0)):=by
  rw [hw2,Below.heap_alloc _ _ _ (by simp)];exact World.alloc_heap_new _ _
 have y2:w2.heap[w.heap.size+1]?=some (.cells #[.int .i64 0,.slice none 0 0] 42 (0,0)):=by
  rw [hw2,show w.heap.size+1=(w.alloc (.cells #[.int .i64 t.f,.slice ta tm tc] 42)).heap.size by simp];exact World.alloc_heap_new _ _
 have hs3:w2.drew.heap.size=w.heap.size+2:=hsz;have hb3:Below w.heap.size w w2.drew:=hb2.drew;have HB3:=hid hb3;have HY1:=hid (show w2.drew.heap[w.heap.size]?=_ from y1);have HY2:=hid (show w2.drew.heap[w.heap.size+1]?=_ from y2);obtain ⟨d1,d2⟩:=b4I (show w2.drew.heap[w.heap.size]?=_ from y1);rw [<-hw2];clear hw2 hb2 hb3 y1 y2
 go_region_law (first
  | (refine b3R _ rfl 75 _ _ rfl (enters_of Tryz.func75 (by kernel_rfl) rfl) (.slice ao n cap) rfl (HImg.out _ HB3.out (by omega)) ?_;rintro e w5 ⟨b,g,rfl,hq5,hb5⟩;refine ⟨_,rfl,?_⟩;have hB5:Below w.heap.size w w5:=HB3.out.trans (hb5.mono (by omega));have hs5:=hb5.size;have x2:=(hb5.block _ (by omega)).trans HY2.out;obtain ⟨f1,f2⟩:=b4I ((hb5.block _ (by omega)).trans HY1.out))
  | (refine b1e _ rfl 59 _ _ _ rfl (enters_of Tryz.func59 (by kernel_rfl) rfl) (.agg #[.int .i64 t.f,.slice ta tm tc]) (.func (.func 112) #[] #[.pointer (some ⟨b,0,none⟩)]) rfl rfl (HRep.out _ b g hB5 (by omega) hq5) ?_;rintro e w6 ⟨a6,m6,c6,rfl,hR6,hb6⟩;refine ⟨_,rfl,?_⟩;have hB6:Below w.heap.size w w6:=hB5.trans (hb6.mono (by omega));have z6:=(hb6.block _ (by omega)).trans x2;obtain ⟨f3,f4⟩:=b4I z6;obtain ⟨f5,f6⟩:=a3c z6))
 all_goals go_wp2_with fail
 all_goals refine bodyPost_ret (a8k (g:=w.heap.size+1) rfl (a6e z6 _ _)) rfl ?_
 all_goals refine ⟨_,rfl,?_,(hB6.setCell (p:=⟨w.heap.size+1,0,none⟩) (by show w.heap.size<=w.heap.size+1;omega) _).setCell (p:=⟨w.heap.size+1,1,none⟩) (by show w.heap.size<=w.heap.size+1;omega) _⟩
 all_goals refine VRep.keep (fun b' o u hu hc=>⟨hu.elim (fun h => .inl h.1) (fun h => .inr (by omega)),?_⟩) hR6
 all_goals have hne:b'≠w.heap.size+1:=by rcases hu with h | h<;>omega
 all_goals rw [World.cell?_of_block (w:=w6) (by rw [Below.heap_setCell _ _ _ _ hne,Below.heap_setCell _ _ _ _ hne])]
 all_goals exact hc
theorem a2V (W:World) (L:List Bd) (t:Tm) (hl:L.length<=1000000000) (hb:bdsOk L) (hr:t.rng) (hok:t.ok):AFun Tryz.prog W 50 [.lst (L.map Bd.cv),t.cw] (.val (a8 (c9 L) t).cw):=by
 by_cases h:L.length<=64
 ·exact b3F W L t h hb hr hok
 ·exact b0F W L t (by omega) hl hb hr hok
end
def A4 (c:List Lt):List Tm:=c.flatMap fun l=>[l.a,l.b]
theorem b4k (c:List Lt) (l:Lt):A4 (c++[l])=A4 c++[l.a,l.b]:=by simp [A4]
theorem a1m (c:List Lt):(A4 c).length=2*c.length:=by
 induction c with
 | nil=>rfl
 | cons l c ih =>
  have:A4 (l::c)=l.a::l.b::A4 c:=rfl;rw [this];simp only [length_cons,ih];omega
theorem b4D (c:List Lt) (k:Nat):(A4 (c.take k)).length<=2*c.length:=by
 rw [a1m,length_take];omega
theorem S5 (W:World) (c:List Lt) (hn:c.length<=1000000):AFun Tryz.prog W 41 [.lst (c.map Lt.cv)] (.val (Tm.cw ⟨0,A4 c⟩)):=by
 have hsz:=Lt.size_all c;refine b9 (rs:=[Tm.cw ⟨0,A4 c⟩]) Tryz.func41 Tryz.ntmps41 rfl rfl rfl rfl ?_;intro w U hW;refine aS (aR ?_);refine nc zk ?_;refine aS (aR ?_);refine nc ze ?_;refine aS (aS (aR ?_));refine nc zl (nc zp (nc zl ?_));refine aB (p6 c.length (fun k=>[(2,.bp 2 0 []),(100002,⟨5,.row [.i 0,.lst []],1,0,[1]⟩),(3,.own (.lst ((A4 (c.take k)).map Tm.cv)) 200018),(200018,.tok 42 2),(6,.val (.lst (c.map Lt.cv))),(7,.val (.i (c.map Lt.cv).length)),(8,.val (.i k))])
  ((K5 3 200018 42 2 rfl rfl rfl rfl rfl rfl rfl).trans (a7 ⟨rfl,rfl,rfl,rfl,rfl,rfl,rfl,trivial⟩)) ?_)
 intro k hk;refine aS (aR ?_);refine nc zi ?_;refine aS (aC rfl (fun hlt=>?_) (fun hlt=>?_))
 ·have hkl:k<c.length:=by simpa using hlt
  obtain ⟨x,hx⟩:∃ x,c[k]?=some x:=⟨c[k],getElem?_eq_getElem hkl⟩
  have hx':=Lt.map_at hx;have hlen:=b4D c k;have hsz2:∀ y∈(A4 (c.take k)).map Tm.cv,y.size=2:=Tm.size_all _;have hl3:((A4 (c.take k)).map Tm.cv).length<=2*c.length:=by rw [length_map];exact hlen
  refine aK ?_;refine aS (aB (aS (aR ?_)));refine nc (zq (j:=k) (H:=hx') (hz:=hsz)) (nc zr (nc zk (nc zo ?_)));refine aR ?_;refine nc zl (nc zg (nc zh (nc zg (nc zh (nc zD (nc zE (nc ze ?_)))))));refine aR ?_;refine nc zu (nc zl ?_);refine ⟨hkl,Wk.trans (a7 (s':=[(2,.bp 2 0 []),(100002,⟨5,.row [.i 0,.lst []],1,0,[1]⟩),(3,.own (.lst ((A4 (c.take (k+1))).map Tm.cv)) 300018),(300018,.tok 42 2),(6,.val (.lst (c.map Lt.cv))),(7,.val (.i (c.map Lt.cv).length)),(8,.val (.i ((k+1:Nat):Int)))]) ⟨rfl,rfl,?_,rfl,rfl,rfl,rfl,trivial⟩) (A3 300018 200018 rfl rfl rfl rfl)⟩;rw [take_add_one,hx];simp only [Option.toList_some,b4k,map_append,map_cons,map_nil,Tm.cv_eq];rfl
 ·have hkl:k=c.length:=by
   have:¬ k<c.length:=by simpa using hlt
   omega
  subst hkl;rw [take_length];refine aE ?_;refine aS (aR ?_);refine nc zl (nc zn (nc zo ?_));exact aT (And.intro (.inr rfl) rfl)
end Go.Proofs.YtglmoficcjphaaaGreat
