/-
 SuJoin SuFol SuUni SuMath KbRef KbRef2 OrRef OrRef2 OrCom OrLw EqRes EqDoc ClNmX ClTtM ClRefN EqRef AbStr PrQuo EqRef2 EqRef3 EqAlive EqLw MtMath MtMath2 EqVnt ClTop SuTop SuPr
-/
import Derived.Test.YteegmcfobgpemaaGreatMg11
import Derived.Test.YteegmcfobgpemaaGreatMg9
import Derived.Test.YteegmcfobgpemaaGreatMg4
import Derived.Test.YteegmcfobgpemaaGreatMg10
import Derived.Test.YteegmcfobgpemaaGreatMg8
import Derived.Laws.Strings
import Derived.Laws.Strings3
import Derived.Laws.Concat
import Derived.Lib.Strings
import Derived.Laws.BytesArg
import Derived.Test.YteegmcfobgpemaaGreatMg5
namespace Go.Proofs.YteegmcfobgpemaaGreat
open List (append_nil filterMap_cons flatMap_cons length_append length_cons length_map length_nil map_append map_cons mem_append mem_append_left mem_append_right mem_cons mem_cons_of_mem mem_filter mem_flatMap mem_map mem_of_getElem? mem_singleton not_mem_nil)
open Go.RowKit
set_option linter.unusedVariables false
set_option linter.unusedSimpArgs false
set_option maxRecDepth 100000
theorem a7a{P:Program}{f:FuncId}{X e z n:Nat}{l:List CV}{a1 a3:AV}{r:AV}{post:AS}(hX:(Nat.ble 200000 X&&Nat.blt X 450000)=true)(hn:n<=l.length)(h:r8 P f [(X,.mrow e z l)] [a1,.sl X 0 n z,a3] r post):a6z P f [(X,.mrow e z l)] X X (λv _=>[a1,.val (.sc (O6 v n)),a3]) (λ_ _=>r) post:=by
 refine⟨h.1,λU w hv a0 vs hU gE hargs=>h.2 U w hv a0 vs hU gE ?_⟩;obtain⟨u1,_,rfl,h1,u2,_,rfl,h2,h3⟩:=hargs;refine⟨u1,_,rfl,h1,u2,_,rfl,?_,h3⟩;have kN:RN X:=rnF hX;have hu:u2=O6 (hv X) n:=(o0.1 h2.1).1;have kB:look [(X,AV.mrow e z l)] X=some (.mrow e z l):=lS _ _ _;obtain⟨xs,f1,_⟩:=gE.mrow kB kN;obtain⟨ao,cap,e1,e2,_⟩:=M2 f1;refine⟨kN,?_⟩;show SlV (hv X) 0 n z u2;rw[hu,e1];exact⟨ao,l.length,cap,ao,rfl,rfl,by omega,λ_=>rfl,λ_ g dI=>by rw[dI,Nat.zero_mul],Iff.rfl⟩
noncomputable def D6(m:Mt)(c d:List Lt):List Lt:=(a1a c m.fr.n.toNat).map Lt.strip++((a1a d m.ti.n.toNat).map Lt.strip++[⟨x7 d m.ti.n,(E3 m.fr.b m.pl m.ti.a).getD ⟨0,[]⟩,m.ti.b⟩])
theorem a2W(W:World)(x y z:List Lt)(hl:x.length+y.length+z.length<=1000000):AFun Tryz.prog W 95 [.lst [.lst (x.map Lt.cv),.lst (y.map Lt.cv),.lst (z.map Lt.cv)]] (.val (.lst ((x++(y++z)).map Lt.cv))):=by
 have h:=a2Y W [x,y,z] (by simp) (by simp;omega);have e:[x,y,z].flatten=x++(y++z):=by simp
 rw[e]at h;exact h
def Lt.rok(l:Lt):Prop:=(l.a.rng/\l.a.ok)/\l.b.rng/\l.b.ok
set_option maxHeartbeats 8000000 in
theorem a2c(c d:List Lt)(m:Mt)(eF:c.length<=1000)(hdl:d.length<=1000)(hc:∀l∈c,l.rok)(hd:∀l∈d,l.rok)(hi:0<=m.fr.n/\m.fr.n<c.length)(hj:0<=m.ti.n/\m.ti.n<d.length)(qN:m.fr.b.rng/\m.fr.b.size<=1000000)(mW:m.ti.a.rng/\m.ti.a.size<=100000)(mN:m.pl.length<=1000000):a6z Tryz.prog 68 [(400002,AV.mrow 3 1 (m.pl.map CV.i))] 400002 400002 (λv _=>[.val (m.cvH v),.val (.lst (c.map Lt.cv)),.val (.lst (d.map Lt.cv))]) (λ_ _ => .val (.lst ((D6 m c d).map Lt.cv))) [(400002,AV.mrow 3 1 (m.pl.map CV.i))]:=by
 obtain⟨⟨fn,fa,fb⟩,⟨tn,ta,tb⟩,pl,pt⟩:=m;simp only at hi hj qN mW mN;obtain⟨i,rfl⟩:∃i:Nat,fn=(i:Int):=⟨fn.toNat,by omega⟩
 obtain⟨j,rfl⟩:∃j:Nat,tn=(j:Int):=⟨tn.toNat,by omega⟩
 have bZ:i<c.length:=by omega
 have iH:j<d.length:=by omega
 obtain⟨l,hl⟩:∃l,d[j]?=some l:=⟨d[j],List.getElem?_eq_getElem iH⟩
 have cB:=Lt.map_at hl;have hsd:=Lt.size_all d;have mA:x7 d (j:Int)=l.neg:=by unfold x7;rw[Int.toNat_natCast,hl]
 have hP:=a7a (by decide) (by simp) (a5X pl fb qN.1 (by omega) pl 0 ta rfl (by simp) mN mW.1 mW.2);obtain⟨q,hq⟩:∃q,q=(E3 fb pl ta).getD ⟨0,[]⟩:=⟨_,rfl⟩
 obtain⟨ok,kH⟩:∃ok,ok=(E3 fb pl ta).isSome:=⟨_,rfl⟩
 rw[<-hq,<-kH]at hP;have gZ:=λw=>M1 w c (i:Int) (by omega) hc;have tU:=λw=>M1 w d (j:Int) (by omega) hd;rw[if_pos ⟨by omega,by omega⟩,Int.toNat_natCast]at gZ tU;obtain⟨A,hA⟩:∃A,A=(a1a c i).map Lt.strip:=⟨_,rfl⟩
 obtain⟨B,hB⟩:∃B,B=(a1a d j).map Lt.strip:=⟨_,rfl⟩
 have tQ:A.length<=1000:=by have:=O8 bZ;rw[hA,length_map];omega
 have hBl:B.length<=1000:=by have:=O8 iH;rw[hB,length_map];omega
 have hJ:D6 ⟨⟨(i:Int),fa,fb⟩,⟨(j:Int),ta,tb⟩,pl,pt⟩ c d=A++(B++[⟨l.neg,q,tb⟩]):=by unfold D6;simp only[Int.toNat_natCast];rw[mA,<-hA,<-hB,<-hq]
 rw[hJ];rw[<-hA]at gZ;rw[<-hB]at tU;have hC:=λw=>a2W w A B [⟨l.neg,q,tb⟩] (by simp;omega);have fZ:(pl.map CV.i).length=pl.length:=length_map ..;refine a5v 46 400002 47 400002 Tryz.func68 Tryz.ntmps68 rfl rfl (λ_ _=>rfl) rfl rfl rfl rfl rfl ?_;intro v v2 w U hU;refine qz<|nc zd<|nc ze ?_;refine qz<|nc zg<|nc zg<|nc zh<|nc zg<|nc zh<|nc zg<|nc zg<|nc zh<|nc (zbz 46 47 (x:=hP) (hnb:=i8 (by first | rfl | kernel_rfl)))<|nc zl<|nc zE<|nc zE<|nc zw<|nc zx<|nc ze ?_;refine AWp.wk (a7 (s':=(1,AV.val (.lst (c.map Lt.cv)))::(2,.val (.lst (d.map Lt.cv)))::(3,.bp 3 0 [])::(100003,.bx (.row [.row [.i (i:Int),fa.cw,fb.cw],.row [.i (j:Int),ta.cw,tb.cw],.sc (O6 v pl.length),pt.cw]))::(7,.bp 7 0 [])::(100007,.bx q.cw)::[(400002,.mrow 3 1 (pl.map CV.i))]) ⟨rfl,rfl,rfl,rfl,rfl,rfl,rfl,trivial⟩) ?_;refine aS<|aD (by kernel_rfl) (by kernel_rfl) ?_;refine nc zl<|nc zg<|nc zg<|nc zh<|nc (zt (j:=j) (H:=cB) (hz:=hsd))<|nc zbH<|nc zu<|nc zj<|nc zg<|nc zg<|nc zh<|nc (zbN b9I)<|nc (zbO b9I)<|nc zx ?_;refine⟨by kernel_rfl,?_⟩;refine aS<|aD (by kernel_rfl) (by kernel_rfl) ?_;refine nc zl<|nc zg<|nc zg<|nc zh<|nc (zk (z:=gZ w))<|nc zl<|nc zg<|nc zg<|nc zh<|nc (zk (z:=tU w))<|nc zj<|nc zy<|nc zy<|nc (zk (z:=hC w))<|nc ze ?_;refine⟨by kernel_rfl,?_⟩;exact aT ⟨.inr rfl,_,Wk.refl _,rfl,rfl,trivial⟩
set_option maxHeartbeats 8000000 in
theorem a2j(c d:List Lt)(m:Mt)(eF:c.length<=1000)(hdl:d.length<=1000)(hc:∀l∈c,l.rok)(hd:∀l∈d,l.rok)(hi:0<=m.fr.n/\m.fr.n<c.length)(hj:0<=m.ti.n/\m.ti.n<d.length)(qN:m.fr.b.rng/\m.fr.b.size<=1000000)(mW:m.ti.a.rng/\m.ti.a.size<=100000)(mN:m.pl.length<=1000000):a6z Tryz.prog 68 [(400003,AV.mrow 3 1 (m.pl.map CV.i))] 400003 400003 (λv _=>[.val (m.cvH v),.val (.lst (c.map Lt.cv)),.val (.lst (d.map Lt.cv))]) (λ_ _ => .val (.lst ((D6 m c d).map Lt.cv))) [(400003,AV.mrow 3 1 (m.pl.map CV.i))]:=by
 obtain⟨⟨fn,fa,fb⟩,⟨tn,ta,tb⟩,pl,pt⟩:=m;simp only at hi hj qN mW mN;obtain⟨i,rfl⟩:∃i:Nat,fn=(i:Int):=⟨fn.toNat,by omega⟩
 obtain⟨j,rfl⟩:∃j:Nat,tn=(j:Int):=⟨tn.toNat,by omega⟩
 have bZ:i<c.length:=by omega
 have iH:j<d.length:=by omega
 obtain⟨l,hl⟩:∃l,d[j]?=some l:=⟨d[j],List.getElem?_eq_getElem iH⟩
 have cB:=Lt.map_at hl;have hsd:=Lt.size_all d;have mA:x7 d (j:Int)=l.neg:=by unfold x7;rw[Int.toNat_natCast,hl]
 have hP:=a7a (by decide) (by simp) (a6d pl fb qN.1 (by omega) pl 0 ta rfl (by simp) mN mW.1 mW.2);obtain⟨q,hq⟩:∃q,q=(E3 fb pl ta).getD ⟨0,[]⟩:=⟨_,rfl⟩
 obtain⟨ok,kH⟩:∃ok,ok=(E3 fb pl ta).isSome:=⟨_,rfl⟩
 rw[<-hq,<-kH]at hP;have gZ:=λw=>M1 w c (i:Int) (by omega) hc;have tU:=λw=>M1 w d (j:Int) (by omega) hd;rw[if_pos ⟨by omega,by omega⟩,Int.toNat_natCast]at gZ tU;obtain⟨A,hA⟩:∃A,A=(a1a c i).map Lt.strip:=⟨_,rfl⟩
 obtain⟨B,hB⟩:∃B,B=(a1a d j).map Lt.strip:=⟨_,rfl⟩
 have tQ:A.length<=1000:=by have:=O8 bZ;rw[hA,length_map];omega
 have hBl:B.length<=1000:=by have:=O8 iH;rw[hB,length_map];omega
 have hJ:D6 ⟨⟨(i:Int),fa,fb⟩,⟨(j:Int),ta,tb⟩,pl,pt⟩ c d=A++(B++[⟨l.neg,q,tb⟩]):=by unfold D6;simp only[Int.toNat_natCast];rw[mA,<-hA,<-hB,<-hq]
 rw[hJ];rw[<-hA]at gZ;rw[<-hB]at tU;have hC:=λw=>a2W w A B [⟨l.neg,q,tb⟩] (by simp;omega);have fZ:(pl.map CV.i).length=pl.length:=length_map ..;refine a5v 46 400003 47 400003 Tryz.func68 Tryz.ntmps68 rfl rfl (λ_ _=>rfl) rfl rfl rfl rfl rfl ?_;intro v v2 w U hU;refine qz<|nc zd<|nc ze ?_;refine qz<|nc zg<|nc zg<|nc zh<|nc zg<|nc zh<|nc zg<|nc zg<|nc zh<|nc (zbz 46 47 (x:=hP) (hnb:=i8 (by first | rfl | kernel_rfl)))<|nc zl<|nc zE<|nc zE<|nc zw<|nc zx<|nc ze ?_;refine AWp.wk (a7 (s':=(1,AV.val (.lst (c.map Lt.cv)))::(2,.val (.lst (d.map Lt.cv)))::(3,.bp 3 0 [])::(100003,.bx (.row [.row [.i (i:Int),fa.cw,fb.cw],.row [.i (j:Int),ta.cw,tb.cw],.sc (O6 v pl.length),pt.cw]))::(7,.bp 7 0 [])::(100007,.bx q.cw)::[(400003,.mrow 3 1 (pl.map CV.i))]) ⟨rfl,rfl,rfl,rfl,rfl,rfl,rfl,trivial⟩) ?_;refine aS<|aD (by kernel_rfl) (by kernel_rfl) ?_;refine nc zl<|nc zg<|nc zg<|nc zh<|nc (zt (j:=j) (H:=cB) (hz:=hsd))<|nc zbH<|nc zu<|nc zj<|nc zg<|nc zg<|nc zh<|nc (zbN b9I)<|nc (zbO b9I)<|nc zx ?_;refine⟨by kernel_rfl,?_⟩;refine aS<|aD (by kernel_rfl) (by kernel_rfl) ?_;refine nc zl<|nc zg<|nc zg<|nc zh<|nc (zk (z:=gZ w))<|nc zl<|nc zg<|nc zg<|nc zh<|nc (zk (z:=tU w))<|nc zj<|nc zy<|nc zy<|nc (zk (z:=hC w))<|nc ze ?_;refine⟨by kernel_rfl,?_⟩;exact aT ⟨.inr rfl,_,Wk.refl _,rfl,rfl,trivial⟩
noncomputable def a1m(ld:Tm->Tm->Bool)(c d:List Lt)(m:Mt):Option (List Lt):=
 if(mgT m.fr.a m.pt).2=true/\ld (a8 (mgS m.fr.a m.pt) m.fr.a) (a8 (mgS m.fr.a m.pt) m.fr.b)=true/\ld (a8 (mgS m.fr.a m.pt) m.ti.a) (a8 (mgS m.fr.a m.pt) m.ti.b)=true then some ((D6 m c d).map (Lt.rep (mgS m.fr.a m.pt)))else none
noncomputable def a3h(ld:Tm->Tm->Bool)(c d:List Lt)(ms:List Mt):List (List Lt):=ms.filterMap (a1m ld c d)
theorem b5e{ld:Tm->Tm->Bool}{c d:List Lt}{ms:List Mt}{k:Nat}{m:Mt}(h:ms[k]?=some m):a3h ld c d (ms.take (k+1))=a3h ld c d (ms.take k)++(a1m ld c d m).toList:=by
 unfold a3h;rw[List.take_add_one,h,List.filterMap_append];congr 1
structure c2H(fd:Nat)(ld:Tm->Tm->Bool)(c d:List Lt)(m:Mt):Prop where
 un:∀w,AFun Tryz.prog w 65 [m.fr.a.cw,m.pt.cw] (.tup [.lst ((mgT m.fr.a m.pt).1.map Bd.cv),.b (mgT m.fr.a m.pt).2])
 ap:∀w t,t=m.fr.a\/t=m.fr.b\/t=m.ti.a\/t=m.ti.b->AFun Tryz.prog w 66 [.lst ((mgT m.fr.a m.pt).1.map Bd.cv),t.cw] (.val (a8 (mgS m.fr.a m.pt) t).cw)
 ld1:∀w,AFun Tryz.prog w fd [(a8 (mgS m.fr.a m.pt) m.fr.a).cw,(a8 (mgS m.fr.a m.pt) m.fr.b).cw] (.val (.b (ld (a8 (mgS m.fr.a m.pt) m.fr.a) (a8 (mgS m.fr.a m.pt) m.fr.b))))
 ld2:∀w,AFun Tryz.prog w fd [(a8 (mgS m.fr.a m.pt) m.ti.a).cw,(a8 (mgS m.fr.a m.pt) m.ti.b).cw] (.val (.b (ld (a8 (mgS m.fr.a m.pt) m.ti.a) (a8 (mgS m.fr.a m.pt) m.ti.b))))
 ca:∀w,AFun Tryz.prog w 67 [.lst ((mgT m.fr.a m.pt).1.map Bd.cv),.lst ((D6 m c d).map Lt.cv)] (.val (.lst (((D6 m c d).map (Lt.rep (mgS m.fr.a m.pt))).map Lt.cv)))
 i:0<=m.fr.n/\m.fr.n<c.length
 j:0<=m.ti.n/\m.ti.n<d.length
 fb:m.fr.b.rng/\m.fr.b.size<=1000000
 ta:m.ti.a.rng/\m.ti.a.size<=100000
 pl:m.pl.length<=1000000
set_option maxHeartbeats 16000000 in
theorem a6p(W:World)(fl fd:Nat)(ld:Tm->Tm->Bool)(c d d':List Lt)(L M:List Int)(tp:Int)(htp : -1<=tp/\tp<=4000000000000000000)(eF:c.length<=1000)(hdl:d'.length<=1000)(hc:∀l∈c,l.rok)(hd:∀l∈d',l.rok)
  (hTop:∀w,AFun Tryz.prog w 63 [.lst (c.map Lt.cv)] (.val (.i tp))) (hRen:∀w,AFun Tryz.prog w 18 [.lst (d.map Lt.cv),.i (tp+1)] (.val (.lst (d'.map Lt.cv))))
  (cN:∀w,AFun Tryz.prog w fl [.lst (c.map Lt.cv)] (.val (.lst (L.map CV.i)))) (hlM:∀w,AFun Tryz.prog w fl [.lst (d'.map Lt.cv)] (.val (.lst (M.map CV.i))))
  (hL:∀n∈L,0<=n/\n<c.length) (hM:∀n∈M,0<=n/\n<d'.length) (pL:L.length<=1000000) (hMl:M.length<=1000000)
  (hlw:∀w,∀l,l∈c\/l∈d'->AFun Tryz.prog w fd [l.a.cw,l.b.cw] (.val (.b (ld l.a l.b)))/\AFun Tryz.prog w fd [l.b.cw,l.a.cw] (.val (.b (ld l.b l.a)))) (kC:∀w∈C3 ld d' M,w.a.size<=1000000) (aO:∀w∈C3 ld c L,0<=w.n/\w.n<c.length)
  (hml:(U5 (x7 c) (C3 ld c L) (C3 ld d' M)).length<=1000000) (hfo:∀m∈U5 (x7 c) (C3 ld c L) (C3 ld d' M),c2H fd ld c d' m) :
  AFun Tryz.prog W 39 [ruC fl fd,.lst (c.map Lt.cv),.lst (d.map Lt.cv)] (.val (.lst ((a3h ld c d' (U5 (x7 c) (C3 ld c L) (C3 ld d' M))).map clC))):=by
 have yQ:a3H Tryz.prog 118:=x0 Tryz.func118 rfl rfl;have lI:a3H Tryz.prog 90:=x0 Tryz.func90 rfl rfl;have hh:=λLs=>a8c c 118 118 _ _ (C3 ld c L) (C3 ld d' M) yQ yQ aO kC (a1r fl fd ld c (by omega) L hL pL (λw l hl=>hlw w l (.inl hl))) (a1r fl fd ld d' (by omega) M hM hMl (λw l hl=>hlw w l (.inr hl))) Ls;obtain⟨ms,hms⟩:∃ms,ms=U5 (x7 c) (C3 ld c L) (C3 ld d' M):=⟨_,rfl⟩
 rw[<-hms]at hh hml hfo |-;refine b7K Tryz.func39 Tryz.ntmps39 rfl rfl rfl rfl ?_;intro w U hW;have hme:=λw=>b2L w fl fd c d' L M cN hlM;obtain⟨caps,eI⟩:∃caps,caps=[CV.ptr (.fn 118 0 [.ptr (.lst (L.map CV.i)),.ptr (.lst (c.map Lt.cv)),.ptr (ruC fl fd)]),.ptr (.lst (c.map Lt.cv)),.ptr (.fn 118 0 [.ptr (.lst (M.map CV.i)),.ptr (.lst (d'.map Lt.cv)),.ptr (ruC fl fd)])]:=⟨_,rfl⟩
 rw[<-eI]at hme hh;refine I4<|aR ?_;refine nc zd<|nc zd<|nc zd<|nc ze ?_;refine⟨rfl,?_⟩;refine I4<|aD (by kernel_rfl) (by kernel_rfl) ?_;refine nc zj<|nc zj<|nc (zk (z:=hTop w))<|nc zA<|nc (zk (z:=hRen w))<|nc zx ?_;refine⟨by kernel_rfl,?_⟩;refine⟨rfl,?_⟩;refine I4<|aR ?_;refine nc (zbj 350001 (C:=λv h=>by first | (rw[hW.1]at h;cases h) | (have h2:=hU _ v h;cases h2))) ?_;refine⟨rfl,?_⟩;refine a2k ((q7 3 rfl rfl rfl (s':=[(4,.bp 4 0 []),(100004,.bx (.lst (c.map Lt.cv))),(5,.bp 5 0 []),(100005,.bx (.lst (d'.map Lt.cv))),(7,.bp 350001 0 []),(450001,.obj),(35500100,⟨0,.lst [],1,0,[]⟩)]) ⟨rfl,rfl,rfl,rfl,rfl,rfl,rfl,trivial⟩ rfl rfl rfl).trans ((q7 4 rfl rfl rfl (s':=[(3,.val (.ptr (ruC fl fd))),(5,.bp 5 0 []),(100005,.bx (.lst (d'.map Lt.cv))),(7,.bp 350001 0 []),(450001,.obj),(35500100,⟨0,.lst [],1,0,[]⟩)]) ⟨rfl,rfl,rfl,rfl,rfl,rfl,trivial⟩ rfl rfl rfl).trans ((q7 5 rfl rfl rfl (s':=[(3,.val (.ptr (ruC fl fd))),(4,.val (.ptr (.lst (c.map Lt.cv)))),(7,.bp 350001 0 []),(450001,.obj),(35500100,⟨0,.lst [],1,0,[]⟩)]) ⟨rfl,rfl,rfl,rfl,rfl,trivial⟩ rfl rfl rfl).trans (c1R 35500100 300005 26 1 rfl rfl rfl rfl rfl rfl)))) ?_;refine a7w (I4<|aR ?_);refine nc zI<|nc zI<|nc zI<|nc (zk (z:=hme w)) ?_;refine⟨rfl,?_⟩;refine a1d ?_;refine a2k (a7 (s':=(21,AV.val (.fn 90 0 caps))::(3,.val (.ptr (ruC fl fd)))::(4,.val (.ptr (.lst (c.map Lt.cv))))::(5,.val (.ptr (.lst (d'.map Lt.cv))))::(7,.bp 350001 0 [])::obE []) ⟨rfl,rfl,rfl,rfl,rfl,rfl,rfl,rfl,trivial⟩) ?_;refine a2P (a2U (ps:=[22]) (λk=>obE (a3h ld c d' (ms.take k))) [(3,.val (.ptr (ruC fl fd))),(4,.val (.ptr (.lst (c.map Lt.cv)))),(5,.val (.ptr (.lst (d'.map Lt.cv)))),(7,.bp 350001 0 [])] (λX v=>[(71,.hdl v X)]) rfl lI (hh λk=>a3h ld c d' (ms.take k)) rfl (λ_ _ _=>rfl) ⟨rfl,rfl,rfl,rfl,trivial⟩ rfl ⟨.inl ⟨_,rfl⟩,.inl ⟨_,rfl⟩,.inl ⟨_,rfl⟩,.inr rfl,trivial⟩ ⟨rfl,rfl,rfl,trivial⟩ ⟨by kernel_rfl,by kernel_rfl,λk=>rfl,rfl,rfl,rfl⟩ (λk X hX x=>by
   simp only[mem_cons,not_mem_nil,or_false]at hX;rcases hX with rfl | rfl<;>rfl) (λX hX => .inr ⟨71,λ_=>rfl,by decide,by decide,by
   simp only[mem_cons,not_mem_nil,or_false]at hX;unfold RN;omega⟩) (by kernel_rfl) ?_) ?_
 ·intro k m hm X hX v w U hU eK;have hF:=hfo m (mem_of_getElem? hm);have yI:k<ms.length:=by
   rcases Nat.lt_or_ge k ms.length with h | h
   ·exact h
   ·rw[List.getElem?_eq_none h]at hm;cases hm
  obtain⟨L0,hL0⟩:∃L0,L0=a3h ld c d' (ms.take k):=⟨_,rfl⟩
  have hL0l:L0.length<=1000000:=by have h1:=List.length_filterMap_le (a1m ld c d') (ms.take k);rw[List.length_take]at h1;rw[hL0];show(a3h ld c d' (ms.take k)).length<=_;unfold a3h;omega
  have hszc:=a1V L0;have xW:(L0.map clC).length=L0.length:=length_map ..;rw[b5e hm,<-hL0];obtain⟨ok,kH⟩:∃ok,ok=(mgT m.fr.a m.pt).2:=⟨_,rfl⟩
  obtain⟨g1,xH⟩:∃g,g=ld (a8 (mgS m.fr.a m.pt) m.fr.a) (a8 (mgS m.fr.a m.pt) m.fr.b):=⟨_,rfl⟩
  obtain⟨g2,pF⟩:∃g,g=ld (a8 (mgS m.fr.a m.pt) m.ti.a) (a8 (mgS m.fr.a m.pt) m.ti.b):=⟨_,rfl⟩
  have qY:a1m ld c d' m=if ok=true/\g1=true/\g2=true then some ((D6 m c d').map (Lt.rep (mgS m.fr.a m.pt)))else none:=by unfold a1m;rw[kH,xH,pF]
  have kZ:(ok=false\/g1=false\/g2=false)->a1m ld c d' m=none:=λh=>by
   rw[qY,if_neg];rintro⟨h1,h2,h3⟩;rcases h with h | h | h
   ·rw[h1]at h;cases h
   ·rw[h2]at h;cases h
   ·rw[h3]at h;cases h
  have qW:ok=true->g1=true->g2=true->a1m ld c d' m=some ((D6 m c d').map (Lt.rep (mgS m.fr.a m.pt))):=λh1 h2 h3=>by rw[qY,if_pos ⟨h1,h2,h3⟩]
  have gA:∀w,AFunV Tryz.prog w (.fn fd 0 []) [(a8 (mgS m.fr.a m.pt) m.fr.a).cw,(a8 (mgS m.fr.a m.pt) m.fr.b).cw] (.val (.b g1)):=λw=>⟨fd,0,[],rfl,by rw[xH];exact hF.ld1 w⟩
  have gD:∀w,AFunV Tryz.prog w (.fn fd 0 []) [(a8 (mgS m.fr.a m.pt) m.ti.a).cw,(a8 (mgS m.fr.a m.pt) m.ti.b).cw] (.val (.b g2)):=λw=>⟨fd,0,[],rfl,by rw[pF];exact hF.ld2 w⟩
  simp only[mem_cons,not_mem_nil,or_false]at hX;rcases hX with rfl | rfl
  ·have hJn:=a2c c d' m eF hdl hc hd hF.i hF.j hF.fb hF.ta hF.pl;show AWp _ _ _ _ _ _ ((22,AV.val (.row [.row [.i m.fr.n,m.fr.a.cw,m.fr.b.cw],.row [.i m.ti.n,m.ti.a.cw,m.ti.b.cw],.sc (O6 v m.pl.length),m.pt.cw]))::(71,.hdl v 400002)::(3,.val (.ptr (ruC fl fd)))::(4,.val (.ptr (.lst (c.map Lt.cv))))::(5,.val (.ptr (.lst (d'.map Lt.cv))))::(7,.bp 350001 0 [])::obX L0 400002 m.pl);refine aR<|ne (zbO c2w)<|nc zx ?_;refine⟨rfl,λw1 mF=>a2b ?_⟩;refine AWp.wk (a7 (s':=(8,AV.bp 8 0 [])::(100008,.bx (.row [.row [.i m.fr.n,m.fr.a.cw,m.fr.b.cw],.row [.i m.ti.n,m.ti.a.cw,m.ti.b.cw],.sc (O6 v m.pl.length),m.pt.cw]))::(3,.val (.ptr (ruC fl fd)))::(4,.val (.ptr (.lst (c.map Lt.cv))))::(5,.val (.ptr (.lst (d'.map Lt.cv))))::(7,.bp 350001 0 [])::(71,.hdl v 400002)::obX L0 400002 m.pl) ⟨rfl,rfl,rfl,rfl,rfl,rfl,rfl,rfl,rfl,rfl,rfl,trivial⟩) ?_;refine aB<|qz<|nc zg<|nc zg<|nc zh<|nc zg<|nc zh<|nc (zk (z:=hF.un w1))<|nc zl<|nc zE<|nc zE<|nc ze<|nc ze ?_;refine AWp.wk (a7 (s':=(9,AV.val (.lst ((mgT m.fr.a m.pt).1.map Bd.cv)))::(10,.val (.b ok))::(8,AV.bp 8 0 [])::(100008,.bx (.row [.row [.i m.fr.n,m.fr.a.cw,m.fr.b.cw],.row [.i m.ti.n,m.ti.a.cw,m.ti.b.cw],.sc (O6 v m.pl.length),m.pt.cw]))::(3,.val (.ptr (ruC fl fd)))::(4,.val (.ptr (.lst (c.map Lt.cv))))::(5,.val (.ptr (.lst (d'.map Lt.cv))))::(7,.bp 350001 0 [])::(71,.hdl v 400002)::obX L0 400002 m.pl) ⟨rfl,by rw[kH];rfl,rfl,rfl,rfl,rfl,rfl,rfl,rfl,rfl,rfl,rfl,rfl,trivial⟩) ?_;cases ok with
   | false =>
    rw[kZ (.inl rfl)];refine aS<|qz<|nc zl<|nc zZ ?_;refine aC rfl (λ_=>?_) (λh=>by cases h);refine aE ?_;refine⟨rfl,a7 ⟨rfl,?_,?_,rfl,trivial⟩⟩
    ·show some (AV.sl _ _ _ _)=some (AV.sl _ _ _ _);simp
    ·show some (AV.mrow _ _ _)=some (AV.mrow _ _ _);simp
   | true =>
    refine aS<|qz<|nc zl<|nc zZ ?_;refine aC rfl (λh=>by cases h) (λ_=>aK ?_);refine aS<|aD (by kernel_rfl) (by kernel_rfl) ?_;refine nc zg<|nc zh<|nc zg<|nc zh<|ne (zbO [.i 0,.row [.i 0,.lst []],.row [.i 0,.lst []]])<|ne (zbO [.i 0,.row [.i 0,.lst []],.row [.i 0,.lst []]])<|nc zx<|nc zx ?_;refine⟨by kernel_rfl,?_⟩;refine AWp.wk ((a7 (s':=(9,AV.val (.lst ((mgT m.fr.a m.pt).1.map Bd.cv)))::(11,.bp 11 0 [])::(100011,.bx (.row [.i m.fr.n,m.fr.a.cw,m.fr.b.cw]))::(12,.bp 12 0 [])::(100012,.bx (.row [.i m.ti.n,m.ti.a.cw,m.ti.b.cw]))::(8,AV.bp 8 0 [])::(100008,.bx (.row [.row [.i m.fr.n,m.fr.a.cw,m.fr.b.cw],.row [.i m.ti.n,m.ti.a.cw,m.ti.b.cw],.sc (O6 v m.pl.length),m.pt.cw]))::(3,.val (.ptr (ruC fl fd)))::(4,.val (.ptr (.lst (c.map Lt.cv))))::(5,.val (.ptr (.lst (d'.map Lt.cv))))::(7,.bp 350001 0 [])::(71,.hdl v 400002)::obX L0 400002 m.pl) ⟨rfl,rfl,rfl,rfl,rfl,rfl,rfl,rfl,rfl,rfl,rfl,rfl,rfl,rfl,rfl,rfl,trivial⟩).trans (a5g 3 rfl rfl)) ?_;cases g1 with
    | false =>
     rw[kZ (.inr (.inl rfl))];refine aS<|aD (by kernel_rfl) (by kernel_rfl) ?_;refine nc zbH<|nc zu<|nc zl<|nc zg<|nc zh<|nc (zk (z:=hF.ap w1 _ (.inl rfl)))<|nc zl<|nc zg<|nc zh<|nc (zk (z:=hF.ap w1 _ (.inr (.inl rfl))))<|nc (zH (E:=gA w1))<|nc zl<|nc zq<|nc zq<|nc zq<|nc zq<|nc zq<|nc zq<|nc zq<|nc zq<|nc zq<|nc zq<|nc zq<|nc zr ?_;refine⟨by kernel_rfl,?_⟩;refine aC rfl (λh=>by cases h) (λ_=>aK ?_);refine⟨rfl,a7 ⟨rfl,?_,?_,rfl,trivial⟩⟩
     ·show some (AV.sl _ _ _ _)=some (AV.sl _ _ _ _);simp
     ·show some (AV.mrow _ _ _)=some (AV.mrow _ _ _);simp
    | true =>
     refine aS<|aD (by kernel_rfl) (by kernel_rfl) ?_;refine nc zbH<|nc zu<|nc zl<|nc zg<|nc zh<|nc (zk (z:=hF.ap w1 _ (.inl rfl)))<|nc zl<|nc zg<|nc zh<|nc (zk (z:=hF.ap w1 _ (.inr (.inl rfl))))<|nc (zH (E:=gA w1))<|nc zl<|nc (zbH (r:=gb))<|nc (zu (r:=gb))<|nc (zl (p:=gb))<|nc (zg (r:=gb))<|nc (zh (r:=gb))<|nc (zk (p:=gb) (z:=hF.ap w1 _ (.inr (.inr (.inl rfl)))))<|nc (zl (p:=gb))<|nc (zg (r:=gb))<|nc (zh (r:=gb))<|nc (zk (p:=gb) (z:=hF.ap w1 _ (.inr (.inr (.inr rfl)))))<|nc (zH (t:=gb) (E:=gD w1))<|nc zp ?_;refine⟨by kernel_rfl,?_⟩;cases g2 with
     | false =>
      rw[kZ (.inr (.inr rfl))];refine aC rfl (λh=>by cases h) (λ_=>aK ?_);refine⟨rfl,a7 ⟨rfl,?_,?_,rfl,trivial⟩⟩
      ·show some (AV.sl _ _ _ _)=some (AV.sl _ _ _ _);simp
      ·show some (AV.mrow _ _ _)=some (AV.mrow _ _ _);simp
     | true =>
      rw[qW rfl rfl rfl];have xX:=hF.ca w1;obtain⟨z,hz⟩:∃z,z=(D6 m c d').map (Lt.rep (mgS m.fr.a m.pt)):=⟨_,rfl⟩
      rw[<-hz]at xX |-;refine aC rfl (λ_=>?_) (λh=>by cases h);refine AWp.wk (a7 (s':=(9,AV.val (.lst ((mgT m.fr.a m.pt).1.map Bd.cv)))::(8,AV.bp 8 0 [])::(100008,.bx (.row [.row [.i m.fr.n,m.fr.a.cw,m.fr.b.cw],.row [.i m.ti.n,m.ti.a.cw,m.ti.b.cw],.sc (O6 v m.pl.length),m.pt.cw]))::(4,.val (.ptr (.lst (c.map Lt.cv))))::(5,.val (.ptr (.lst (d'.map Lt.cv))))::(7,.bp 350001 0 [])::(71,.hdl v 400002)::obX L0 400002 m.pl) ⟨rfl,rfl,rfl,rfl,rfl,rfl,rfl,rfl,rfl,rfl,rfl,trivial⟩) ?_;refine aD (by kernel_rfl) (by kernel_rfl) ?_;refine nc z7<|nc zl<|nc zj<|nc zI<|nc zI<|nc (zbz 71 71 (x:=hJn) (hnb:=i8 (by first | rfl | kernel_rfl)))<|nc (zk (z:=xX))<|nc zy<|ne (zba 300006)<|nc zbb ?_;refine⟨by kernel_rfl,?_⟩;refine⟨rfl,(a7 (s':=[(450001,.obj),(35500100,.sl 300006 0 (L0++[z]).length 1),(300006,.mrow 26 1 ((L0++[z]).map clC)),(400002,.mrow 3 1 (m.pl.map CV.i))]) ⟨rfl,?_,?_,rfl,trivial⟩).trans (B1 300006 300005 rfl rfl (by kernel_rfl) (by kernel_rfl))⟩
      ·show some (AV.sl _ _ _ _)=some (AV.sl _ _ _ _);rw[length_append,<-xW];rfl
      ·show some (AV.mrow _ _ _)=some (AV.mrow _ _ _);rw[map_append (f:=clC)];rfl
  ·have hJn:=a2j c d' m eF hdl hc hd hF.i hF.j hF.fb hF.ta hF.pl;show AWp _ _ _ _ _ _ ((22,AV.val (.row [.row [.i m.fr.n,m.fr.a.cw,m.fr.b.cw],.row [.i m.ti.n,m.ti.a.cw,m.ti.b.cw],.sc (O6 v m.pl.length),m.pt.cw]))::(71,.hdl v 400003)::(3,.val (.ptr (ruC fl fd)))::(4,.val (.ptr (.lst (c.map Lt.cv))))::(5,.val (.ptr (.lst (d'.map Lt.cv))))::(7,.bp 350001 0 [])::obX L0 400003 m.pl);refine aR<|ne (zbO c2w)<|nc zx ?_;refine⟨rfl,λw1 mF=>a2b ?_⟩;refine AWp.wk (a7 (s':=(8,AV.bp 8 0 [])::(100008,.bx (.row [.row [.i m.fr.n,m.fr.a.cw,m.fr.b.cw],.row [.i m.ti.n,m.ti.a.cw,m.ti.b.cw],.sc (O6 v m.pl.length),m.pt.cw]))::(3,.val (.ptr (ruC fl fd)))::(4,.val (.ptr (.lst (c.map Lt.cv))))::(5,.val (.ptr (.lst (d'.map Lt.cv))))::(7,.bp 350001 0 [])::(71,.hdl v 400003)::obX L0 400003 m.pl) ⟨rfl,rfl,rfl,rfl,rfl,rfl,rfl,rfl,rfl,rfl,rfl,trivial⟩) ?_;refine aB<|qz<|nc zg<|nc zg<|nc zh<|nc zg<|nc zh<|nc (zk (z:=hF.un w1))<|nc zl<|nc zE<|nc zE<|nc ze<|nc ze ?_;refine AWp.wk (a7 (s':=(9,AV.val (.lst ((mgT m.fr.a m.pt).1.map Bd.cv)))::(10,.val (.b ok))::(8,AV.bp 8 0 [])::(100008,.bx (.row [.row [.i m.fr.n,m.fr.a.cw,m.fr.b.cw],.row [.i m.ti.n,m.ti.a.cw,m.ti.b.cw],.sc (O6 v m.pl.length),m.pt.cw]))::(3,.val (.ptr (ruC fl fd)))::(4,.val (.ptr (.lst (c.map Lt.cv))))::(5,.val (.ptr (.lst (d'.map Lt.cv))))::(7,.bp 350001 0 [])::(71,.hdl v 400003)::obX L0 400003 m.pl) ⟨rfl,by rw[kH];rfl,rfl,rfl,rfl,rfl,rfl,rfl,rfl,rfl,rfl,rfl,rfl,trivial⟩) ?_;cases ok with
   | false =>
    rw[kZ (.inl rfl)];refine aS<|qz<|nc zl<|nc zZ ?_;refine aC rfl (λ_=>?_) (λh=>by cases h);refine aE ?_;refine⟨rfl,a7 ⟨rfl,?_,?_,rfl,trivial⟩⟩
    ·show some (AV.sl _ _ _ _)=some (AV.sl _ _ _ _);simp
    ·show some (AV.mrow _ _ _)=some (AV.mrow _ _ _);simp
   | true =>
    refine aS<|qz<|nc zl<|nc zZ ?_;refine aC rfl (λh=>by cases h) (λ_=>aK ?_);refine aS<|aD (by kernel_rfl) (by kernel_rfl) ?_;refine nc zg<|nc zh<|nc zg<|nc zh<|ne (zbO [.i 0,.row [.i 0,.lst []],.row [.i 0,.lst []]])<|ne (zbO [.i 0,.row [.i 0,.lst []],.row [.i 0,.lst []]])<|nc zx<|nc zx ?_;refine⟨by kernel_rfl,?_⟩;refine AWp.wk ((a7 (s':=(9,AV.val (.lst ((mgT m.fr.a m.pt).1.map Bd.cv)))::(11,.bp 11 0 [])::(100011,.bx (.row [.i m.fr.n,m.fr.a.cw,m.fr.b.cw]))::(12,.bp 12 0 [])::(100012,.bx (.row [.i m.ti.n,m.ti.a.cw,m.ti.b.cw]))::(8,AV.bp 8 0 [])::(100008,.bx (.row [.row [.i m.fr.n,m.fr.a.cw,m.fr.b.cw],.row [.i m.ti.n,m.ti.a.cw,m.ti.b.cw],.sc (O6 v m.pl.length),m.pt.cw]))::(3,.val (.ptr (ruC fl fd)))::(4,.val (.ptr (.lst (c.map Lt.cv))))::(5,.val (.ptr (.lst (d'.map Lt.cv))))::(7,.bp 350001 0 [])::(71,.hdl v 400003)::obX L0 400003 m.pl) ⟨rfl,rfl,rfl,rfl,rfl,rfl,rfl,rfl,rfl,rfl,rfl,rfl,rfl,rfl,rfl,rfl,trivial⟩).trans (a5g 3 rfl rfl)) ?_;cases g1 with
    | false =>
     rw[kZ (.inr (.inl rfl))];refine aS<|aD (by kernel_rfl) (by kernel_rfl) ?_;refine nc zbH<|nc zu<|nc zl<|nc zg<|nc zh<|nc (zk (z:=hF.ap w1 _ (.inl rfl)))<|nc zl<|nc zg<|nc zh<|nc (zk (z:=hF.ap w1 _ (.inr (.inl rfl))))<|nc (zH (E:=gA w1))<|nc zl<|nc zq<|nc zq<|nc zq<|nc zq<|nc zq<|nc zq<|nc zq<|nc zq<|nc zq<|nc zq<|nc zq<|nc zr ?_;refine⟨by kernel_rfl,?_⟩;refine aC rfl (λh=>by cases h) (λ_=>aK ?_);refine⟨rfl,a7 ⟨rfl,?_,?_,rfl,trivial⟩⟩
     ·show some (AV.sl _ _ _ _)=some (AV.sl _ _ _ _);simp
     ·show some (AV.mrow _ _ _)=some (AV.mrow _ _ _);simp
    | true =>
     refine aS<|aD (by kernel_rfl) (by kernel_rfl) ?_;refine nc zbH<|nc zu<|nc zl<|nc zg<|nc zh<|nc (zk (z:=hF.ap w1 _ (.inl rfl)))<|nc zl<|nc zg<|nc zh<|nc (zk (z:=hF.ap w1 _ (.inr (.inl rfl))))<|nc (zH (E:=gA w1))<|nc zl<|nc (zbH (r:=gb))<|nc (zu (r:=gb))<|nc (zl (p:=gb))<|nc (zg (r:=gb))<|nc (zh (r:=gb))<|nc (zk (p:=gb) (z:=hF.ap w1 _ (.inr (.inr (.inl rfl)))))<|nc (zl (p:=gb))<|nc (zg (r:=gb))<|nc (zh (r:=gb))<|nc (zk (p:=gb) (z:=hF.ap w1 _ (.inr (.inr (.inr rfl)))))<|nc (zH (t:=gb) (E:=gD w1))<|nc zp ?_;refine⟨by kernel_rfl,?_⟩;cases g2 with
     | false =>
      rw[kZ (.inr (.inr rfl))];refine aC rfl (λh=>by cases h) (λ_=>aK ?_);refine⟨rfl,a7 ⟨rfl,?_,?_,rfl,trivial⟩⟩
      ·show some (AV.sl _ _ _ _)=some (AV.sl _ _ _ _);simp
      ·show some (AV.mrow _ _ _)=some (AV.mrow _ _ _);simp
     | true =>
      rw[qW rfl rfl rfl];have xX:=hF.ca w1;obtain⟨z,hz⟩:∃z,z=(D6 m c d').map (Lt.rep (mgS m.fr.a m.pt)):=⟨_,rfl⟩
      rw[<-hz]at xX |-;refine aC rfl (λ_=>?_) (λh=>by cases h);refine AWp.wk (a7 (s':=(9,AV.val (.lst ((mgT m.fr.a m.pt).1.map Bd.cv)))::(8,AV.bp 8 0 [])::(100008,.bx (.row [.row [.i m.fr.n,m.fr.a.cw,m.fr.b.cw],.row [.i m.ti.n,m.ti.a.cw,m.ti.b.cw],.sc (O6 v m.pl.length),m.pt.cw]))::(4,.val (.ptr (.lst (c.map Lt.cv))))::(5,.val (.ptr (.lst (d'.map Lt.cv))))::(7,.bp 350001 0 [])::(71,.hdl v 400003)::obX L0 400003 m.pl) ⟨rfl,rfl,rfl,rfl,rfl,rfl,rfl,rfl,rfl,rfl,rfl,trivial⟩) ?_;refine aD (by kernel_rfl) (by kernel_rfl) ?_;refine nc z7<|nc zl<|nc zj<|nc zI<|nc zI<|nc (zbz 71 71 (x:=hJn) (hnb:=i8 (by first | rfl | kernel_rfl)))<|nc (zk (z:=xX))<|nc zy<|ne (zba 300006)<|nc zbb ?_;refine⟨by kernel_rfl,?_⟩;refine⟨rfl,(a7 (s':=[(450001,.obj),(35500100,.sl 300006 0 (L0++[z]).length 1),(300006,.mrow 26 1 ((L0++[z]).map clC)),(400003,.mrow 3 1 (m.pl.map CV.i))]) ⟨rfl,?_,?_,rfl,trivial⟩).trans (B1 300006 300005 rfl rfl (by kernel_rfl) (by kernel_rfl))⟩
      ·show some (AV.sl _ _ _ _)=some (AV.sl _ _ _ _);rw[length_append,<-xW];rfl
      ·show some (AV.mrow _ _ _)=some (AV.mrow _ _ _);rw[map_append (f:=clC)];rfl
 ·rintro e s' g ⟨rfl,rfl⟩;rw[List.take_length];refine⟨rfl,rfl,?_⟩;refine qz<|nc z7<|nc ze ?_;obtain⟨R,hR⟩:∃R,R=a3h ld c d' ms:=⟨_,rfl⟩
  rw[<-hR];refine aT ⟨⟨.inr rfl,[(6,AV.val (.lst (((R.map clC).drop 0).take R.length)))],?_,?_,trivial,rfl⟩,rfl⟩
  ·exact(a9w 6 300005 (e:=26) (z:=1) (lo:=0) (len:=R.length) (l:=R.map clC) rfl rfl rfl (.inl hW.2) (by simp) (s':=[(299999,.ob g 0)]) ⟨rfl,trivial⟩ rfl).trans (a7 ⟨rfl,rfl,trivial⟩)
  ·rw[List.drop_zero,List.take_of_length_le (by simp)];rfl
set_option maxHeartbeats 2000000 in
theorem a9K(W:World)(a b:Tm)(ha:(a.rng/\a.ok)/\a.size<=16)(hb:(b.rng/\b.ok)/\b.size<=16)(tV:∀ τ,uni τ [(a,b)]->a.ten/\b.ten)(l:List (Tm×Tm))(cS:l=[(a,b)])(r:List Bd×Bool)(hT:ToldU l r):AFun Tryz.prog W 92 [.lst (l.map prv)] (.tup [.lst (r.1.map Bd.cv),.b r.2]):=by
 have hl:∀p∈l,(p.1.rng/\p.1.ok)/\(p.2.rng/\p.2.ok):=λp hp=>by rw[cS,mem_singleton]at hp;rw[hp];exact⟨ha.1,hb.1⟩
 have hpz:b2r l=a.size+b.size:=by rw[cS];unfold b2r;simp
 have mN:b2r l<=1000:=by have:=ha.2;have:=hb.2;omega
 obtain⟨k,j,e1,f1,f2⟩:=b2I l;have hj:=e1 k (Nat.le_refl _);have yO:=a7P k l j hj hl mN;refine b9 (rs:=[.lst (r.1.map Bd.cv),.b r.2]) Tryz.func92 Tryz.ntmps92 rfl rfl rfl rfl ?_;intro w U hW;refine qz<|nc ze<|nc ze ?_;refine qz<|nc (zW (z:=b8y) (G:=λk v h=>by first | (rw[hW.1]at h;cases h) | (have h2:=hU k v h;cases h2))) ?_;refine nc ze ?_;refine aS<|qz<|nc zl<|nc zl<|nc (zW (z:=yO) (G:=i8 (by first | rfl | kernel_rfl)))<|nc zZ ?_;cases iH:j.2 with
 | false =>
  rw[hT.no (f1 iH)];refine aC rfl (λhc=>?_) (λhc=>by cases hc);refine qz<|nc ze<|nc ze ?_;exact aT (And.intro (.inr rfl) rfl)
 | true =>
  obtain⟨cn,od,H,r',e2,g1,g2,g3,ki,hcn,n1,n2⟩:=f2 iH;obtain⟨e3,e4⟩:=e2 k (Nat.le_refl _);obtain⟨E',hI⟩:=a1q l hj (E:=[]) ⟨⟨id,id,Cls.nil,by show 0+j8 _ 0<=_;simp[j8]⟩,(λx hx=>by cases hx),by show j8 _ 0<=_;simp[j8]⟩ rfl hl (by show j8 _ 0+_<=_;simpa[j8]using mN) iH;have hF:=hI.fitU;have eR:usB j.1.ns 0:=λm=>by rw[b3k hj];exact⟨Int.le_refl _,Int.le_refl _⟩
  obtain⟨fL,dX,qM,hhl⟩:=P3 k 0 e3 hF (by simpa using eR) (by omega) (λh hm=>by cases hm) (Nat.le_refl _);have uO:=b1b k 0 e4 fL (λh hm=>qM h (mem_filter.1 hm).1) (by decide) dX;have hnsl:od.1.ns.length<=1000:=Nat.le_trans (D8 _) uO.big;have oR:∀x∈od.2,x<od.1.ns.length:=λx hx=>(ki.hd x hx).1;have tI:od.2.length<=1000:=Nat.le_trans (a1M _ ki.nd oR) hnsl;have tW:=b8E k j.1 cn od e3 e4 hF eR tI;have fN:R1 od.1.vr:=b9a k 0 e4 (a5T k 0 e3 (b9c hj ⟨List.nodup_nil,λp hp=>by cases hp⟩));have rJ:∀p∈od.1.vr,p.1<=9223372036854775807:=λp hp=>by obtain⟨v1,v2⟩:=g1.vrt p.1 p.2 (H3 fN.1 hp);have v3:=((Tm.rng_iff _).1 ((a0q _).1 uO.trm p.2 v1).1).1;omega
  refine aC rfl (λhc=>by cases hc) (λhc=>aK ?_);by_cases h:od.2.length=cn.2.length
  ·have h9:decide ((od.2.length:Int)=cn.2.length)=true:=by rw[h];simp
   rw[h9]at tW;obtain⟨k1,tm,e5,c1,c5,c2,hm⟩:=n2 h;have hu:=(hm (od.1.vr.map λp=>(⟨p.1,tm.2.getD (H p.2) tm0⟩:Bd)) (λv=>a3N fN.1 (List.Perm.refl _) (λn=>tm.2.getD (H n) tm0) v)).uni;rw[cS]at hu;obtain⟨ha10,hb10⟩:=tV _ hu;have dK:od.1.vr.length<20:=c3k (cS▸g1) fN ha10 hb10 (by
    have h1:=b8J k 0 e4;have h2:=a5S k 0 e3;have h3:=b8Z hj;have h4:plc l=a.size+b.size:=by rw[cS];unfold plc;simp
    have h5:pw ([]:List Nd)=0:=rfl;have h6:=D8 od.1.ns;have h7:pw (⟨[],[],[]⟩:Cl).ns=0:=rfl;omega)
   have xJ:=(TI.all (t:=(od.1,List.replicate od.1.ns.length tm0)) (N:=od.1.ns.length) ⟨uO,by simp,Nat.le_refl _⟩ (λn hn=>oR n (List.mem_reverse.1 hn)) (e5 k1 (Nat.le_refl _))).1.fit;have wZ:=b5C k1 od.1 od.2 tm (e5 k1 (Nat.le_refl _)) uO c2 oR tI c1 xJ (by rw[c5];exact fN) (by rw[c5];omega);refine qz<|nc zl<|nc (zW (z:=tW) (G:=i8 (by first | rfl | kernel_rfl)))<|nc zl<|nc zE<|nc zE<|nc ze<|nc ze ?_;refine aS<|qz<|nc zl<|nc zZ ?_;refine aC rfl (λhc=>by cases hc) (λhc=>aK ?_);refine aS (a9M 2 rfl rfl rfl rfl rfl rfl wZ (by kernel_rfl) (fun σ=>by kernel_rfl) (fun σ=>by kernel_rfl) (fun σ=>rfl) (fun σ=>i8 (by kernel_rfl)) ?_);refine nc zl<|nc zl ?_;refine⟨rfl,⟨rfl,rfl,rfl,rfl,rfl,rfl,rfl,trivial⟩,fun σ hσ=>⟨by kernel_rfl,?_⟩⟩;obtain⟨vr',hp,hσ1⟩:=hσ;rw[c5]at hp;obtain⟨t1,t2,t3⟩:=b4X hT fN rJ hp hσ1 hm;have dN:σ.1.length<20:=by rw[hσ1,length_map,hp.length_eq];omega
   refine nc (zk (z:=b7D _ σ.1 dN t3))<|nc ze<|nc ze ?_;rw[t1];exact aT (And.intro (.inr rfl) rfl)
  ·have h9:decide ((od.2.length:Int)=cn.2.length)=false:=by rw[decide_eq_false_iff_not];omega
   rw[h9]at tW;rw[hT.no (n1 h)];refine qz<|nc zl<|nc (zW (z:=tW) (G:=i8 (by first | rfl | kernel_rfl)))<|nc zl<|nc zE<|nc zE<|nc ze<|nc ze ?_;refine aS<|qz<|nc zl<|nc zZ ?_;refine aC rfl (λhc=>?_) (λhc=>by cases hc);refine qz<|nc ze<|nc ze ?_;exact aT (And.intro (.inr rfl) rfl)
set_option maxHeartbeats 2000000 in
theorem a9Q(W:World)(a b:Tm)(ha:(a.rng/\a.ok)/\a.size<=16)(hb:(b.rng/\b.ok)/\b.size<=16)(tV:∀ τ,uni τ [(a,b)]->a.ten/\b.ten)(r:List Bd×Bool)(hT:ToldU [(a,b)] r):AFun Tryz.prog W 65 [a.cw,b.cw] (.tup [.lst (r.1.map Bd.cv),.b r.2]):=by
 refine b9 (rs:=[.lst (r.1.map Bd.cv),.b r.2]) Tryz.func65 Tryz.ntmps65 rfl rfl rfl rfl ?_;intro w U hW;refine qz<|nc zd<|nc zd<|nc ze<|nc ze ?_;refine qz<|nc zj<|nc zj<|nc (z9 [2,2])<|nc zy<|nc (zk (z:=a9K _ a b ha hb tV [(a,b)] rfl r hT))<|nc zE<|nc zE<|nc ze<|nc ze ?_;exact aT (And.intro (.inr rfl) rfl)
theorem a3V(u:Tm):∀(p:List Int) (t z:Tm),E3 u p t=some z->z.strip=z
 | [],t,z,h=>by cases h;exact Tm.strip_strip u
 | k::ks,t,z,h=>by
  rw[E3]at h;cases hp:t.pa k with
  | none=>rw[hp]at h;cases h
  | some x =>
   rw[hp,Option.bind_some]at h;cases hv:E3 u ks x with
   | none=>rw[hv]at h;cases h
   | some v =>
    rw[hv,Option.map_some]at h;have h:=Option.some.inj h;subst h;have hf:=a6j hp;rw[Tm.strip_eq,Tm.ps_of_sym (t:=⟨t.f,_⟩) (by show 0<=t.f;omega)];simp only;rw[map_append,map_cons,T9,T9,a3V u ks x v hv]
theorem b6A{t:Tm}(h:t.size<=10000000000):t.strip.ok:=by
 induction t using Tm.indp with
 | h t ih =>
  have hs:=Tm.size_eq t;refine(Tm.ok_iff _).2 ⟨?_,λs gC=>?_⟩
  ·rw[Tm.strip_l,length_map];have:∀l:List Tm,l.length<=(l.flatMap Tm.flat).length:=by
    intro l
    induction l with
    | nil=>exact Nat.le_refl _
    | cons x l ih =>
     rw[flatMap_cons,length_append,length_cons];have:0<x.flat.length:=by rw[Tm.flat_eq];simp
     omega
   have:=this t.ps;omega
  ·rw[Tm.strip_l]at gC;obtain⟨x,hx,rfl⟩:=mem_map.1 gC;refine ih x hx ?_;have:=w7 Tm.flat hx;have h2:x.size=x.flat.length:=rfl;omega
theorem b4h:∀(l:List Tm) (i:Nat) (pl:List Int) (q:List Int×Tm),q∈syL l i pl->∃j x,l[j]?=some x/\q∈sy x (pl++[((i+j:Nat):Int)])
 | [],i,pl,q,h=>by rw[X2]at h;cases h
 | t::l,i,pl,q,h=>by
  rw[I0]at h;rcases mem_append.1 h with h | h
  ·exact⟨0,t,rfl,h⟩
  ·obtain⟨j,x,h1,h2⟩:=b4h l (i+1) pl q h;exact⟨j+1,x,by simpa using h1,by rw[show i+(j+1)=i+1+j by omega];exact h2⟩
theorem c3j(t:Tm):∀(pl:List Int) (q:List Int×Tm),q∈sy t pl->∃p,q.1=pl++p/\atP p t=some q.2/\¬ q.2.f<0/\p.length<t.size:=by
 induction t using Tm.ind with
 | h f l ih =>
  intro pl q hq;rw[X9]at hq;split at hq
  ·cases hq
  ·rename_i hf;rcases mem_cons.1 hq with rfl | hq
   ·exact⟨[],by simp,rfl,hf,Tm.size_pos _⟩
   ·obtain⟨j,x,h1,h2⟩:=b4h l 0 pl q hq;obtain⟨p,e1,e2,e3,e4⟩:=ih x (mem_of_getElem? h1) _ q h2;refine⟨((0+j:Nat):Int)::p,by rw[e1,List.append_assoc];rfl,?_,e3,?_⟩
    ·have hpa:(Tm.mk f l).pa ((0+j:Nat):Int)=some x:=by unfold Tm.pa;rw[if_pos (by omega),Int.toNat_natCast,Nat.zero_add,Tm.ps_of_sym (by show 0<=f;have:¬ f<0:=hf;omega)];exact h1
     rw[atP,hpa];exact e2
    ·have:=a5E (show ¬ f<0 from hf) h1;rw[length_cons];omega
theorem b4b:∀(l:List Tm) (i:Nat) (pl:List Int),(∀t∈l,∀pl,(sy t pl).length<=t.flat.length)->(syL l i pl).length<=(l.flatMap Tm.flat).length
 | [],_,_,_=>by simp[X2]
 | t::l,i,pl,h=>by
  rw[I0,length_append,flatMap_cons,length_append];have h1:=h t (by simp) (pl++[(i:Int)]);have h2:=b4b l (i+1) pl λs hs=>h s (mem_cons_of_mem _ hs);omega
theorem c3v(t:Tm):∀pl,(sy t pl).length<=t.size:=by
 induction t using Tm.ind with
 | h f l ih =>
  intro pl;rw[X9];split
  ·simp
  ·rename_i hf;have h1:=b4b l 0 pl ih;have h2:(Tm.mk f l).size=1+(l.flatMap Tm.flat).length:=by rw[Tm.size_eq,Tm.ps_of_sym (by show 0<=f;have:¬ f<0:=hf;omega)]
   rw[length_cons,h2];show(syL l 0 pl).length+1<=_;omega
theorem a4f{ld:Tm->Tm->Bool}{c:List Lt}{L:List Int}{w:Wy}(h:w∈C3 ld c L):w.n∈L/\∃l,c[w.n.toNat]?=some l/\(((w.a=l.a/\w.b=l.b)\/(w.a=l.b/\w.b=l.a))/\ld w.a w.b=true):=by
 obtain⟨n,hn,hw⟩:=mem_flatMap.1 h;unfold a4k at hw;split at hw
 ·rename_i l hl;obtain⟨h1,h2⟩:=mem_filter.1 hw;simp only[wy2,mem_cons,not_mem_nil,or_false]at h1;rcases h1 with rfl | rfl
  ·exact⟨hn,l,hl,.inl ⟨rfl,rfl⟩,h2⟩
  ·exact⟨hn,l,hl,.inr ⟨rfl,rfl⟩,h2⟩
 ·cases hw
theorem a8F(ld:Tm->Tm->Bool)(c:List Lt):∀L:List Int,(C3 ld c L).length<=2*L.length
 | []=>Nat.zero_le _
 | n::L=>by
  have h1:=a8F ld c L;have h2:(a4k ld c n).length<=2:=by
   unfold a4k;split
   ·exact List.length_filter_le _ _
   ·exact Nat.zero_le _
  show(a4k ld c n++C3 ld c L).length<=_;rw[length_append,length_cons];omega
theorem c0T{neg:Int->Bool}{src tgt:List Wy}{m:Mt}(h:m∈U5 neg src tgt):m.fr∈src/\neg m.fr.n=false/\m.ti∈tgt/\(m.pl,m.pt)∈sy m.ti.a []:=by
 obtain⟨f,hf,h⟩:=mem_flatMap.1 h;unfold mtN at h;split at h
 ·cases h
 ·rename_i hn;obtain⟨i,hi,h⟩:=mem_flatMap.1 h;obtain⟨q,hq,rfl⟩:=mem_map.1 h;exact⟨hf,by simpa using hn,hi,hq⟩
theorem c1B(neg:Int->Bool)(src tgt:List Wy)(N:Nat)(h:∀w∈tgt,w.a.size<=N):(U5 neg src tgt).length<=src.length*(tgt.length*N):=by
 have h1:∀f (T:List Wy),(∀w∈T,w.a.size<=N)->(mtF T f).length<=T.length*N:=λf T=>by
  induction T with
  | nil=>intro _;exact Nat.zero_le _
  | cons i T ih =>
   intro hT;have a1:=ih λw hw=>hT w (mem_cons_of_mem _ hw);have a2:=Nat.le_trans (c3v i.a []) (hT i (by simp));show(mtI f i++mtF T f).length<=_;have a3:(mtI f i).length=(sy i.a []).length:=length_map ..;rw[length_append,length_cons,Nat.add_mul,a3];omega
 induction src with
 | nil=>exact Nat.zero_le _
 | cons f S ih =>
  have h2:(mtN neg tgt f).length<=tgt.length*N:=by
   unfold mtN;split
   ·exact Nat.zero_le _
   ·exact h1 f tgt h
  show(mtN neg tgt f++U5 neg S tgt).length<=_;rw[length_append,length_cons,Nat.add_mul,Nat.one_mul];omega
def Tm.s16(t:Tm):Prop:=(t.rng/\t.ok)/\t.size<=16
def PrOk(a b:Tm):Prop:=a.s16/\b.s16/\∀ τ,uni τ [(a,b)]->a.ten/\b.ten
theorem PrOk.tiny{a b:Tm}(h:PrOk a b):a6y [(a,b)]:=λp hp=>by
 rw[mem_singleton]at hp;subst hp;exact⟨h.1,h.2.1⟩
theorem b3v{a b:Tm}(ha:a.ten)(hb:b.ten):PrOk a b:=⟨⟨ha.1,Nat.le_trans ha.2 (by omega)⟩,⟨hb.1,Nat.le_trans hb.2 (by omega)⟩,λ_ _=>⟨ha,hb⟩⟩
theorem PrOk.tell{a b:Tm}(h:PrOk a b):Tells8 [(a,b)] (mgT a b):=by
 obtain⟨n,r,_,_,_,h⟩:=b4j (l:=[(a,b)]) (by simp) h.tiny;rw[c2D h];exact h
theorem PrOk.img{a b:Tm}(h:PrOk a b){v:Int}(hv:0<=v):(f0 (mgT a b).1 v).size<=2955:=by
 cases h2:(mgT a b).2 with
 | true =>
  obtain⟨ha,hb⟩:=h.2.2 _ (h.tell.yes h2).uni;exact c3V ha hb hv
 | false =>
  rw[(h.tell.no h2).1];show(n7 v).size<=_;rw[Tm.size_var (by rw[s7];omega)];omega
theorem PrOk.un{a b:Tm}(h:PrOk a b)(W:World):AFun Tryz.prog W 65 [a.cw,b.cw] (.tup [.lst ((mgT a b).1.map Bd.cv),.b (mgT a b).2]):=a9Q W a b h.1 h.2.1 h.2.2 _ h.tell.told
theorem PrOk.rep{a b:Tm}(h:PrOk a b){t:Tm}(ht:t.rng/\t.ok):(a8 (mgS a b) t).rng/\(a8 (mgS a b) t).ok/\(a8 (mgS a b) t).size<=2955*t.size:=
 ⟨c0y h.tell.bdsOk ht.1,b4V ht.2 λv=>b0J (λb hb=>(h.tell.ok b hb).2) v,b4s (M:=2955) (by omega) (λv hv=>h.img hv) t⟩
theorem PrOk.ap{a b:Tm}(h:PrOk a b){t:Tm}(ht:t.rng/\t.ok)(W:World):AFun Tryz.prog W 66 [.lst ((mgT a b).1.map Bd.cv),t.cw] (.val (a8 (mgS a b) t).cw):=
 a0Z W (mgT a b).1 t (by have:=h.tell.len;omega) h.tell.bdsOk ht.1 ht.2
theorem PrOk.ca{a b:Tm}(h:PrOk a b)(W:World)(c:List Lt)(hl:c.length<=100000)(hc:∀l∈c,l.rok):AFun Tryz.prog W 67 [.lst ((mgT a b).1.map Bd.cv),.lst (c.map Lt.cv)] (.val (.lst ((c.map (Lt.rep (mgS a b))).map Lt.cv))):=by
 obtain⟨h1,h2⟩:=a4p hl hc;exact a4x W (mgT a b).1 c (by omega) (by have:=h.tell.len;omega) h.tell.bdsOk h1 h2
def Lt.s16(l:Lt):Prop:=l.a.s16/\l.b.s16
theorem Lt.s16.rok{l:Lt}(h:l.s16):l.rok:=⟨h.1.1,h.2.1⟩
structure MtOk(c d:List Lt)(m:Mt):Prop where
 i:0<=m.fr.n/\m.fr.n<c.length
 j:0<=m.ti.n/\m.ti.n<d.length
 fr:∃l,c[m.fr.n.toNat]?=some l/\((m.fr.a=l.a/\m.fr.b=l.b)\/(m.fr.a=l.b/\m.fr.b=l.a))/\l.neg=false
 ti:∃l,d[m.ti.n.toNat]?=some l/\((m.ti.a=l.a/\m.ti.b=l.b)\/(m.ti.a=l.b/\m.ti.b=l.a))
 at_:atP m.pl m.ti.a=some m.pt
 sym:¬ m.pt.f<0
 pl:m.pl.length<m.ti.a.size
theorem c2R{ld:Tm->Tm->Bool}{c d:List Lt}{L M:List Int}(hL:∀n∈L,0<=n/\n<c.length)(hM:∀n∈M,0<=n/\n<d.length){m:Mt}(h:m∈U5 (x7 c) (C3 ld c L) (C3 ld d M)):MtOk c d m:=by
 obtain⟨h1,h2,h3,h4⟩:=c0T h;obtain⟨a1,l,a2,a3,a4⟩:=a4f h1;obtain⟨b1,k,b2,b3,b4⟩:=a4f h3;obtain⟨p,e1,e2,e3,e4⟩:=c3j m.ti.a [] _ h4;have e1:m.pl=p:=e1;subst e1;refine⟨hL _ a1,hM _ b1,⟨l,a2,a3,?_⟩,⟨k,b2,b3⟩,e2,e3,e4⟩;unfold x7 at h2;rw[a2]at h2;exact h2
theorem MtOk.fs{c d:List Lt}{m:Mt}(h:MtOk c d m)(hc:∀l∈c,l.s16):m.fr.a.s16/\m.fr.b.s16:=by
 obtain⟨l,h1,h2,_⟩:=h.fr;have:=hc l (mem_of_getElem? h1);rcases h2 with⟨e1,e2⟩ | ⟨e1,e2⟩
 ·rw[e1,e2];exact this
 ·rw[e1,e2];exact⟨this.2,this.1⟩
theorem MtOk.ts{c d:List Lt}{m:Mt}(h:MtOk c d m)(hd:∀l∈d,l.s16):m.ti.a.s16/\m.ti.b.s16:=by
 obtain⟨l,h1,h2⟩:=h.ti;have:=hd l (mem_of_getElem? h1);rcases h2 with⟨e1,e2⟩ | ⟨e1,e2⟩
 ·rw[e1,e2];exact this
 ·rw[e1,e2];exact⟨this.2,this.1⟩
theorem MtOk.put{c d:List Lt}{m:Mt}(h:MtOk c d m)(hc:∀l∈c,l.s16)(hd:∀l∈d,l.s16):∃z,E3 m.fr.b m.pl m.ti.a=some z/\(z.rng/\z.ok)/\z.size+m.pt.size=m.ti.a.size+m.fr.b.size:=by
 obtain⟨f1,f2⟩:=h.fs hc;obtain⟨t1,t2⟩:=h.ts hd;obtain⟨z,g1,g2,g3,g4,g5⟩:=a4Y m.fr.b f2.1.1 m.pl m.ti.a m.pt t1.1.1 h.at_;refine⟨z,g1,⟨g2,?_⟩,g5⟩;have e:=a3V m.fr.b m.pl m.ti.a z g1;rw[<-e];exact b6A (by have:=t1.2;have:=f2.2;omega)
theorem MtOk.lits{c d:List Lt}{m:Mt}(h:MtOk c d m)(hc:∀l∈c,l.s16)(hd:∀l∈d,l.s16):∀l∈D6 m c d,l.rok/\l.a.size<=31/\l.b.size<=31:=λl hl=>by
 have st:∀x:Lt,x.s16->x.strip.rok/\x.strip.a.size<=31/\x.strip.b.size<=31:=λx hx=>by
  refine⟨⟨⟨Tm.strip_rng hx.1.1.1,Tm.strip_ok hx.1.1.2⟩,Tm.strip_rng hx.2.1.1,Tm.strip_ok hx.2.1.2⟩,?_,?_⟩
  ·show x.a.strip.size<=31;rw[Tm.strip_size];have:=hx.1.2;omega
  ·show x.b.strip.size<=31;rw[Tm.strip_size];have:=hx.2.2;omega
 unfold D6 at hl;rcases mem_append.1 hl with hl | hl
 ·obtain⟨x,hx,rfl⟩:=mem_map.1 hl;exact st x (hc x (Z7 hx))
 ·rcases mem_append.1 hl with hl | hl
  ·obtain⟨x,hx,rfl⟩:=mem_map.1 hl;exact st x (hd x (Z7 hx))
  ·rw[mem_singleton]at hl;subst hl;obtain⟨z,g1,g2,g3⟩:=h.put hc hd;obtain⟨t1,t2⟩:=h.ts hd;obtain⟨f1,f2⟩:=h.fs hc;rw[g1];have:=m.pt.size_pos;have:=t1.2;have:=t2.2;have:=f2.2;exact⟨⟨g2,t2.1⟩,by show z.size<=31;omega,by show m.ti.b.size<=31;omega⟩
theorem b1d{c d:List Lt}{m:Mt}(h:MtOk c d m):(D6 m c d).length+1=c.length+d.length:=by
 unfold D6;have h1:=O8 (c:=c) (n:=m.fr.n.toNat) (by have:=h.i;omega);have h2:=O8 (c:=d) (n:=m.ti.n.toNat) (by have:=h.j;omega);rw[length_append,length_append,length_map,length_map];simp;omega
theorem b8x{fd:Nat}{ld:Tm->Tm->Bool}{c d:List Lt}{m:Mt}(uT:∀w (a b:Tm),a.rng/\a.ok/\a.size<=1000000->b.rng/\b.ok/\b.size<=1000000->AFun Tryz.prog w fd [a.cw,b.cw] (.val (.b (ld a b))))(eF:c.length<=1000)(hdl:d.length<=1000)(hc:∀l∈c,l.s16)(hd:∀l∈d,l.s16)(h:MtOk c d m)(hp:PrOk m.fr.a m.pt):c2H fd ld c d m:=by
 obtain⟨f1,f2⟩:=h.fs hc;obtain⟨t1,t2⟩:=h.ts hd;have hb:∀t:Tm,t.s16->(a8 (mgS m.fr.a m.pt) t).rng/\(a8 (mgS m.fr.a m.pt) t).ok/\(a8 (mgS m.fr.a m.pt) t).size<=1000000:=λt ht=>by obtain⟨g1,g2,g3⟩:=hp.rep ht.1;refine⟨g1,g2,?_⟩;have:=Nat.mul_le_mul_left 2955 ht.2;omega
 refine⟨hp.un,λw t ht=>hp.ap ?_ w,λw=>uT w _ _ (hb _ f1) (hb _ f2),λw=>uT w _ _ (hb _ t1) (hb _ t2),λw=>hp.ca w _ (by have:=b1d h;omega) (λl hl=>(h.lits hc hd l hl).1),h.i,h.j,⟨f2.1.1,by have:=f2.2;omega⟩,⟨t1.1.1,by have:=t1.2;omega⟩,by have:=h.pl;have:=t1.2;omega⟩;rcases ht with rfl | rfl | rfl | rfl
 ·exact f1.1
 ·exact f2.1
 ·exact t1.1
 ·exact t2.1
def al1:Lt:=⟨false,⟨1,[]⟩,⟨0,[]⟩⟩
theorem b8p{a b:List Tm}:a4C a b=false↔¬ a3R a b:=by rw[<-a5R,Bool.not_eq_true]
theorem c1L(c:List Lt):(W0 c).length<=c.length+1:=by
 unfold W0;split
 ·simp
 ·have:=a8W c c.length;omega
theorem b8H(c:List Lt):∀k:Nat,-1<=(hvK c k).1/\(hvK c k).1<k
 | 0=>⟨by show(-1:Int) <= -1;omega,by show(-1:Int)<_;omega⟩
 | k+1=>by
  obtain⟨h1,h2⟩:=b8H c k;unfold hvK;split
  ·omega
  ·split
   ·simp only;omega
   ·omega
theorem c2Q{c:List Lt}{z:Int}(h:z∈W0 c):0<=z/\z<c.length:=by
 unfold W0 at h;split at h
 ·rw[mem_singleton]at h;have:=b8H c c.length;omega
 ·unfold gsK at h;obtain⟨i,hi,rfl⟩:=mem_map.1 h;have:=List.mem_range.1 (mem_filter.1 hi).1;omega
theorem b8X(c:List Lt):∀k:Nat,-1<=(hvK c k).1/\(hvK c k).1<k
 | 0=>⟨by show(-1:Int) <= -1;omega,by show(-1:Int)<_;omega⟩
 | k+1=>by
  obtain⟨h1,h2⟩:=b8X c k;unfold hvK;split
  ·omega
  ·split
   ·simp only;omega
   ·omega
theorem N1{α β:Type}{f g:α->List β}:∀{L:List α},(∀x∈L,f x=g x)->L.flatMap f=L.flatMap g
 | [],_=>rfl
 | x::L,h=>by rw[flatMap_cons,flatMap_cons,h x (by simp),N1 λy hy=>h y (mem_cons_of_mem _ hy)]
theorem a2y{α β:Type}(f:α->Option β):∀L:List α,L.filterMap f=L.flatMap λx=>(f x).toList
 | []=>rfl
 | x::L=>by
  rw[flatMap_cons,<-a2y f L,filterMap_cons];cases f x<;>rfl
abbrev sv(l:List UInt8):CV:=.sc (.string ⟨l.toArray⟩)
section
variable{P:Program}{w0:World}{U0:UX}{nt:Nat}{ops:Array Oper}{o:Oper}{S:Nat->Option AV}{gs:List Nat}{d:Nat}
end
section
variable{P:Program}{w0:World}{U0:UX}{nt:Nat}{ops:Array Oper}{o:Oper}{S:Nat->Option AV}{gs:List Nat}{d:Nat}
end
theorem b0U{c:List Lt}{most:Nat}{size:Int}(h0:0<=size)(h1:size<=10)(h:Y3 c most size=true):c.length<=most/\∀l∈c,l.ten:=by
 obtain⟨h2,h3⟩:=K8 h0 (by omega) h;refine⟨h2,λl hl=>?_⟩;obtain⟨⟨⟨_,a1,a2⟩,_,a3⟩,⟨⟨_,b1,b2⟩,_,b3⟩⟩:=h3 l hl;exact⟨⟨⟨a1,a2⟩,by omega⟩,⟨b1,b2⟩,by omega⟩
def Tm.big5(t:Tm):Prop:=t.rng/\t.ok/\t.size<=29550
def Lt.big5(l:Lt):Prop:=l.a.big5/\l.b.big5
theorem c4M{f g:Int}{l m:List Tm}(h:(⟨f,l⟩:Tm)=⟨g,m⟩):f=g/\l=m:=by cases h;exact⟨rfl,rfl⟩
theorem c0i{f g:Int->Tm}{t:Tm}(h:a8 f t=a8 g t):∀v∈t.vs,(f v).strip=(g v).strip:=by
 induction t using Tm.ind with
 | h k l ih =>
  intro v hv;by_cases hk:k<0
  ·rw[i9 hk,i9 hk]at h;rw[Tm.vs_var hk,mem_singleton]at hv;rw[hv];exact h
  ·rw[c9 hk,c9 hk]at h;obtain⟨_,h2⟩:=c4M h;rw[Tm.vs_sym hk,mem_flatMap]at hv;obtain⟨s,hs,cR⟩:=hv;exact ih s hs (List.map_inj_left.1 h2 s hs) v cR
theorem b2y(a b:Tm):a8T a b.strip=a8T a b:=by
 unfold a8T Tm.nv;rw[Tm.strip_vs,Bool.eq_iff_iff,Bool.and_eq_true,Bool.and_eq_true,l8,l8,Tm.strip_strip]
theorem b7t{x y:Tm}{σ τ:Int->Tm}(h1:a8 σ x=y.strip)(h2:a8 τ y=x.strip):a8T x y=true:=by
 have h3:a8 (λv=>a8 τ (σ v)) x=a8 n7 x:=by rw[<-a2f,h1,B8,h2,a3D]
 have h4:=c0i h3;have h5:∀v∈x.vs,(σ v).f<0/\(τ (-1-(σ v).f)).strip=n7 v:=λv hv=>by
  have h6:=h4 v hv;rw[t7,t9]at h6;have h0:=l9 x v hv;by_cases hf:(σ v).f<0
  ·rw[i9 hf]at h6;exact⟨hf,h6⟩
  ·rw[c9 hf]at h6;have:=congrArg Tm.f h6;have e:(σ v).f = -1-v:=this;omega
 have h7:y.strip=a8 (λv=>n7 (-1-(σ v).f)) x:=by rw[<-h1];refine b2g λv hv=>?_;rw[t9,Tm.strip_eq,Tm.ps_of_var (h5 v hv).1];show(⟨(σ v).f,[]⟩:Tm)=⟨-1-(-1-(σ v).f),[]⟩;rw[show -1-(-1-(σ v).f)=(σ v).f by omega]
 rw[<-b2y,h7];refine c0Q x _ (λv hv=>?_) λa ha b hb e=>?_
 ·have:=(h5 v hv).1;omega
 ·have e1:=(h5 a ha).2;have e2:=(h5 b hb).2;rw[e,e2]at e1;have:=congrArg Tm.f e1;have e3 : -1-b = -1-a:=this;omega
abbrev shV(n:Int):Int->Tm:=λv=>n7 (v+n)
theorem b9m(τ:Int->Tm){n:Int}(hn:0<=n)(t:Tm):a8 τ (a8 (shV n) t)=a8 (λv=>τ (v+n)) t:=
 b1r τ (λv=>v+n) λv hv=>by have:=l9 t v hv;omega
theorem O1{n:Int}(hn:0<=n)(t:Tm):(a8 (shV n) t).size=t.size:=b0N (g:=λv=>v+n) λv hv=>by have:=l9 t v hv;omega
theorem a7q(s:Tm)(l:List Tm):cn s (l.map Tm.strip)=cn s l:=by
 unfold cn;rw[List.countP_map];refine List.countP_congr λz _=>?_;rw[Function.comp_apply,l8,l8,Tm.strip_strip]
def VL(A B:List (List Lt)):Prop:=A.length=B.length/\∀(i:Nat) d e,A[i]?=some d->B[i]?=some e->b9k d e=true
theorem VL.nil:VL [] []:=⟨rfl,λi d e h=>by cases h⟩
theorem VL.one{d e:List Lt}(h:b9k d e=true):VL [d] [e]:=⟨rfl,λi d' e' h1 h2=>by
 cases i with
 | zero =>
  simp only[List.getElem?_cons_zero,Option.some.injEq]at h1 h2;rw[<-h1,<-h2];exact h
 | succ i=>simp at h1⟩
theorem VL.app{A B C D:List (List Lt)}(h:VL A B)(g:VL C D):VL (A++C) (B++D):=⟨by rw[length_append,length_append,h.1,g.1],λi d e h1 h2=>by
 have hl:=h.1;by_cases hi:i<A.length
 ·rw[List.getElem?_append_left hi]at h1;rw[List.getElem?_append_left (by omega)]at h2;exact h.2 i d e h1 h2
 ·rw[List.getElem?_append_right (by omega)]at h1;rw[List.getElem?_append_right (by omega),<-hl]at h2;exact g.2 _ d e h1 h2⟩
theorem VL.flat{α:Type}{f g:α->List (List Lt)}:∀L:List α,(∀x∈L,VL (f x) (g x))->VL (L.flatMap f) (L.flatMap g)
 | [],_=>VL.nil
 | x::L,h=>by
  rw[flatMap_cons,flatMap_cons];exact(h x (by simp)).app (VL.flat L λy hy=>h y (mem_cons_of_mem _ hy))
theorem VL.filt{α:Type}{f g:α->Option (List Lt)}(L:List α)(h:∀x∈L,VL (f x).toList (g x).toList):VL (L.filterMap f) (L.filterMap g):=by
 have e:∀(f:α->Option (List Lt)) (L:List α),L.filterMap f=L.flatMap λx=>(f x).toList:=λf L=>by
  induction L with
  | nil=>rfl
  | cons x L ih =>
   rw[flatMap_cons,<-ih,filterMap_cons];cases f x<;>rfl
 rw[e,e];exact VL.flat L h
theorem b9G(img:Int->Tm)(c:List Lt)(k:Nat):a1a (c.map (Lt.rep img)) k=(a1a c k).map (Lt.rep img):=by
 unfold a1a;rw[map_append,List.map_take,List.map_drop]
def okC5(c:List Lt):Prop:=c.length<=12/\∀l∈c,l.big5
theorem okC5.sid{c:List Lt}(h:okC5 c):(a3P c).rng/\(a3P c).ok/\(a3P c).size<=709201:=by
 have hm:∀s∈E2 c,s.rng/\s.ok/\s.size<=29550:=λs hs=>by
  obtain⟨l,hl,e⟩:=b1h.1 hs;rcases e with rfl | rfl
  ·exact(h.2 l hl).1
  ·exact(h.2 l hl).2
 have hl:=a5q c;have h1:=h.1;refine⟨(Tm.rng_iff _).2 ⟨by show _<=(0:Int)/\(0:Int)<=_;omega,λs hs=>(hm s hs).1⟩,(Tm.ok_iff _).2 ⟨by show(E2 c).length<=_;omega,λs hs=>(hm s hs).2.1⟩,?_⟩;rw[Tm.size_sym (show ¬ (a3P c).f<0 by show ¬ (0:Int)<0;decide)];show 1+((E2 c).map Tm.size).sum<=_;have:∀L:List Tm,(∀s∈L,s.size<=29550)->(L.map Tm.size).sum<=29550*L.length:=λL=>by
  induction L with
  | nil=>intro _;exact Nat.zero_le _
  | cons x L ih =>
   intro g;rw[map_cons,List.sum_cons,length_cons];have a1:=g x (by simp);have a2:=ih λs hs=>g s (mem_cons_of_mem _ hs);omega
 have:=this (E2 c) λs hs=>(hm s hs).2.2;omega
theorem b5P(W:World)(c d:List Lt)(hc:okC5 c)(hd:okC5 d):AFun Tryz.prog W 20 [.lst (c.map Lt.cv),.lst (d.map Lt.cv)] (.val (.b (b9k c d))):=by
 have n1:=Nat.le_trans (b9E (a3P c)) hc.sid.2.2;have n2:=Nat.le_trans (b9E (a3P d)) hd.sid.2.2;have h:=λw=>b4I w (λx y=>x.neg == y.neg) (.sc (.func (.func 50) #[] #[])) c d (by have:=hc.1;omega) (λW x hx y hy => .inr ⟨_,rfl,b2T W x y⟩);rw[b7V]at h;have h2:=λw=>a8d w (a3P c) (a3P d) hc.sid.1 hd.sid.1 hc.sid.2.1 (by have:=hc.sid.2.2;omega) (by have:=hd.sid.2.2;omega) (by omega) (by omega);have s1:=λw=>W7 w c (by have:=hc.1;omega);have s2:=λw=>W7 w d (by have:=hd.1;omega);unfold b9k;refine b9 (rs:=[.b (decide (c.map Lt.neg=d.map Lt.neg)&&a8T (a3P c) (a3P d))]) Tryz.func20 Tryz.ntmps20 rfl rfl rfl rfl ?_;intro w U hW;have h:=h w;refine qz<|nc ze ?_;cases hs:decide (c.map Lt.neg=d.map Lt.neg)with
 | true =>
  rw[hs]at h;refine qz<|nc zl<|nc zl<|nc (zk (z:=h))<|nc zl<|nc (zl (p:=gb))<|nc (zk (p:=gb) (z:=s1 w))<|nc (zl (p:=gb))<|nc (zk (p:=gb) (z:=s2 w))<|nc (zk (p:=gb) (z:=h2 w))<|nc zp<|nc ze ?_;exact aT (And.intro (.inr rfl) rfl)
 | false =>
  rw[hs]at h;refine qz<|nc zl<|nc zl<|nc (zk (z:=h))<|nc zl<|nc zq<|nc zq<|nc zq<|nc zq<|nc zq<|nc zr<|nc ze ?_;exact aT (And.intro (.inr rfl) rfl)
section
variable{P:Program}{w0:World}{U0:UX}{nt:Nat}{ops:Array Oper}{o:Oper}{S:Nat->Option AV}{gs:List Nat}{d:Nat}
theorem c3s(hg:Gd w0 U0 nt ops o gs S)(hd:o.dst=some d)(hn:Nat.blt d nt=true)(h5:Nat.blt d 100000=true){x y z:Operand}{ts:Array TypeId}{k:IntKind}{i j l:Int}{n q p n' q' p' n2 q2 p2}(ho:o.op=.call { callee:=.builtin .max,args := #[x,y,z],argTypes:=ts })(hx:ev S x=some ⟨0,.sc (.int k i),n,q,p⟩)(hy:ev S y=some ⟨0,.sc (.int k j),n',q',p'⟩)(hz:ev S z=some ⟨0,.sc (.int k l),n2,q2,p2⟩):AOp P w0 U0 nt ops o (gs++(rd x++(rd y++rd z))) [] S [(d,.val (.sc (.int k (max (max i j) l))))]:=
 l4 hg hd hn h5 (λk hk=>mem_append_left _ hk) λs hs a w D hv hm=>by have e1:=v9 hm (λk hk=>hs k (mem_append_right _ (mem_append_left _ hk))) hx;have e2:=v9 hm (λk hk=>hs k (mem_append_right _ (mem_append_right _ (mem_append_left _ hk)))) hy;have e3:=v9 hm (λk hk=>hs k (mem_append_right _ (mem_append_right _ (mem_append_right _ hk)))) hz;refine⟨.int k (max (max i j) l),?_,o9 rfl⟩;generalize a.eval=ρ at e1 e2 e3 |-;simp[execOp,ho,resolve,invoke,builtin,Builtin.max_,Builtin.max2,e1,e2,e3];split<;>split<;>omega
theorem zbP{P:Program}{w0:World}{U0:UX}{nt:Nat}{ops:Array Oper}{o:Oper}{S:Nat->Option AV}{gs:List Nat}{d:Nat}{x:Operand}{y:Operand}{z:Operand}{ts:Array TypeId}{k:IntKind}{i:Int}{j:Int}{l:Int}{n}{q}{p}{n'}{q'}{p'}{n2}{q2}{p2}(r:Gd w0 U0 nt ops o gs S:=by exact gN rfl)(t:o.dst=some d:=by exact rfl)(u:Nat.blt d nt=true:=by exact rfl)(v:Nat.blt d 100000=true:=by exact rfl)(A:o.op=.call { callee:=.builtin .max,args := #[x,y,z],argTypes:=ts }:=by exact rfl)(B:ev S x=some ⟨0,.sc (.int k i),n,q,p⟩:=by exact rfl)(C:ev S y=some ⟨0,.sc (.int k j),n',q',p'⟩:=by exact rfl)(E:ev S z=some ⟨0,.sc (.int k l),n2,q2,p2⟩:=by exact rfl):AOp P w0 U0 nt ops o (gs++(rd x++(rd y++rd z))) [] S [(d,.val (.sc (.int k (max (max i j) l))))]:=c3s r t u v A B C E
end
def U6(c:List Lt):Int:=c.foldl (λm l=>max (max m (X5 l.a.flat)) (X5 l.b.flat)) (-1)
theorem b6X(W:World)(c:List Lt)(hn:c.length<=1000000)(hc:∀l∈c,l.rng):AFun Tryz.prog W 63 [.lst (c.map Lt.cv)] (.val (.i (U6 c))):=by
 have kC:=Lt.size_all c;refine b9 (rs:=[.i (U6 c)]) Tryz.func63 Tryz.ntmps63 rfl rfl rfl rfl ?_;intro w U hW;refine qz<|nc ze ?_;refine qz<|nc ze ?_;refine aS<|qz<|nc zl<|nc zo<|nc zl ?_;refine aB (n6 c.length (λk=>[(3,.val (.i (U6 (c.take k)))),(6,.val (.lst (c.map Lt.cv))),(7,.val (.i (c.map Lt.cv).length)),(8,.val (.i k))]) (a7 ⟨rfl,rfl,rfl,rfl,trivial⟩) ?_);intro k hk;refine qz<|nc zi ?_;refine aS<|aC rfl (λkA=>?_) (λkA=>?_)
 ·have kE:k<c.length:=by simpa using kA
  obtain⟨x,hx⟩:∃x,c[k]?=some x:=⟨c[k],List.getElem?_eq_getElem kE⟩
  have kT:=Lt.map_at hx;have cQ:=mem_of_getElem? hx;have s1:=b3P w (hc x cQ).1;have s2:=b3P w (hc x cQ).2;have dJ:U6 (c.take (k+1))=max (max (U6 (c.take k)) (X5 x.a.flat)) (X5 x.b.flat):=by unfold U6;rw[List.take_add_one,hx,List.foldl_append];rfl
  refine aK<|aS<|aB<|qz<|nc (zt (j:=k) (H:=kT) (hz:=kC))<|nc zu<|nc zw<|nc zx ?_;refine aD (by kernel_rfl) (by kernel_rfl) ?_;refine nc zl<|nc zg<|nc zh<|nc (zk (z:=s1))<|nc zg<|nc zh<|nc (zk (z:=s2))<|nc zbP<|nc ze ?_;refine⟨by kernel_rfl,?_⟩;refine aR<|nc zA<|nc zl ?_;exact⟨kE,a7 ⟨by rw[dJ];rfl,rfl,rfl,rfl,trivial⟩⟩
 ·have kE:k=c.length:=by
   have:¬ k<c.length:=by simpa using kA
   omega
  subst kE;rw[List.take_length];refine aE<|qz<|nc zl<|nc ze ?_;exact aT (And.intro (.inr rfl) rfl)
theorem a0d:∀(l:List Int) (m:Int),m<=l.foldl max m/\(∀v∈l,v<=l.foldl max m)/\∀N,m<N->(∀v∈l,v<N)->l.foldl max m<N
 | [],m=>⟨Int.le_refl _,(λv h=>by cases h),λN h _=>h⟩
 | x::l,m=>by
  obtain⟨h1,h2,h3⟩:=a0d l (max m x);refine⟨?_,λv hv=>?_,λN hm hl=>h3 N ?_ λv hv=>hl v (mem_cons_of_mem _ hv)⟩
  ·show m<=l.foldl max (max m x);omega
  ·show v<=l.foldl max (max m x);rcases mem_cons.1 hv with rfl | hv
   ·omega
   ·exact h2 v hv
  ·have:=hl x (by simp);omega
def cvs(c:List Lt):List Int:=c.flatMap λl=>l.a.vs++l.b.vs
theorem b2l{c:List Lt}{l:Lt}(h:l∈c):∀v∈l.a.vs,v∈cvs c:=λv hv=>mem_flatMap.2 ⟨l,h,mem_append_left _ hv⟩
theorem b1Z{c:List Lt}{l:Lt}(h:l∈c):∀v∈l.b.vs,v∈cvs c:=λv hv=>mem_flatMap.2 ⟨l,h,mem_append_right _ hv⟩
theorem a8K(c:List Lt):U6 c=(cvs c).foldl max (-1):=by
 have hm:∀(l:List Int) (m:Int),-1<=m->l.foldl max m=max m (l.foldl max (-1)):=λl=>by
  induction l with
  | nil=>intro m h;show m=max m (-1);omega
  | cons x l ih =>
   intro m h;show l.foldl max (max m x)=max m (l.foldl max (max (-1) x));rw[ih _ (by omega),ih (max (-1) x) (by omega)];omega
 have key:∀(c:List Lt) (m:Int),-1<=m->c.foldl (λm l=>max (max m (X5 l.a.flat)) (X5 l.b.flat)) m=(cvs c).foldl max m:=λc=>by
  induction c with
  | nil=>intro m _;rfl
  | cons l c ih =>
   intro m h;have e1:X5 l.a.flat=l.a.vs.foldl max (-1):=b4f _;have e2:X5 l.b.flat=l.b.vs.foldl max (-1):=b4f _;show c.foldl _ (max (max m (X5 l.a.flat)) (X5 l.b.flat))=((l.a.vs++l.b.vs)++cvs c).foldl max m;have g1:=(a0d l.a.vs (-1)).1;rw[ih _ (by rw[e1];omega),List.foldl_append,List.foldl_append,hm l.a.vs m h,hm l.b.vs _ (by omega),e1,e2]
 exact key c (-1) (Int.le_refl _)
theorem a1y(c:List Lt) : -1<=U6 c:=by rw[a8K];exact(a0d _ _).1
theorem b4W{c:List Lt}{v:Int}(h:v∈cvs c):v<=U6 c:=by rw[a8K];exact(a0d _ _).2.1 v h
theorem a3C{c:List Lt}{N:Int}(hN:0<=N)(h:∀v∈cvs c,v<N):U6 c<N:=by rw[a8K];exact(a0d _ _).2.2 N (by omega) h
noncomputable def rnC(c d:List Lt):List Lt:=d.map (Lt.rep (shV (U6 c+1)))
theorem a9l(c d:List Lt):(rnC c d).length=d.length:=length_map ..
theorem a9x{t:Tm}(h:t.s16){b N:Int}(hb:0<=b)(hbN:b+N<=1000000000000)(hN:∀v∈t.vs,v<N):(a8 (shV b) t).s16:=by
 have e:a8 (shV b) t=a8 (λv=>n7 (upV (max b 0) v)) t:=y9 λv hv=>by have h1:=hN v hv;have h2:=l9 t v hv;show n7 _=n7 _;congr 1;unfold upV;omega
 refine⟨⟨?_,?_⟩,by rw[O1 hb];exact h.2⟩
 ·by_cases hv0:t.vs=[]
  ·have e2:a8 (shV b) t=a8 n7 t:=y9 λv hv=>by rw[hv0]at hv;cases hv
   rw[e2,a3D];exact Tm.strip_rng h.1.1
  ·obtain⟨v0,hv⟩:=List.exists_mem_of_ne_nil _ hv0;have h1:=hN v0 hv;have h2:=l9 t v0 hv;rw[e];exact a5G h.1.1 λv h1 h2=>a1K (a9k h1 h2 (by omega)).1 (a9k h1 h2 (by omega)).2
 ·exact b4V h.1.2 λv=>b3R _
theorem b8L{c d:List Lt}{N:Int}(hN:0<=N/\N<=1000000)(hc:∀v∈cvs c,v<N)(hd:∀l∈d,l.s16)(hv:∀v∈cvs d,v<N):∀l∈rnC c d,l.s16:=λl hl=>by
 obtain⟨x,hx,rfl⟩:=mem_map.1 hl;have h1:=a1y c;have h2:=a3C hN.1 hc;exact⟨a9x (hd x hx).1 (N:=N) (by omega) (by omega) λv h=>hv v (b2l hx v h),a9x (hd x hx).2 (N:=N) (by omega) (by omega) λv h=>hv v (b1Z hx v h)⟩
theorem a3X{c:List Lt}(h:∀l∈c,l.s16):∀l∈c,l.rok:=λl hl=>(h l hl).rok
theorem b7Q(W:World){c d:List Lt}{N:Int}(hN:0<=N/\N<=1000000)(hdl:d.length<=1000)(hc:∀v∈cvs c,v<N)(hd:∀l∈d,l.s16)(hv:∀v∈cvs d,v<N):AFun Tryz.prog W 18 [.lst (d.map Lt.cv),.i (U6 c+1)] (.val (.lst ((rnC c d).map Lt.cv))):=by
 obtain⟨h1,h2⟩:=a4p (by omega) (a3X hd);have h:=a3j W d (U6 c+1) (by omega) h1 h2;have g1:=a1y c;have g2:=a3C hN.1 hc;have e:d.map (Lt.rep λv=>n7 (upV (max (U6 c+1) 0) v))=rnC c d:=List.map_congr_left λl hl=>by
  have e:∀t:Tm,(∀v∈t.vs,v∈cvs d)->a8 (λv=>n7 (upV (max (U6 c+1) 0) v)) t=a8 (shV (U6 c+1)) t:=λt ht=>y9 λv gD=>by have h3:=hv v (ht v gD);have h4:=l9 t v gD;show n7 _=n7 _;congr 1;unfold upV;omega
  unfold Lt.rep;rw[e _ (b2l hl),e _ (b1Z hl)]
 rw[e]at h;exact h
noncomputable def lkM(free:Bool)(c:List Lt):List Int:=if free=true then upL c.length else W0 c
noncomputable def ldM(free:Bool):Tm->Tm->Bool:=if free=true then λ_ _=>true else A0
noncomputable def mtM(free:Bool)(c d:List Lt):List Mt:=U5 (x7 c) (C3 (ldM free) c (lkM free c)) (C3 (ldM free) d (lkM free d))
noncomputable def Q2(free:Bool)(c d:List Lt):List (List Lt):=a3h (ldM free) c (rnC c d) (mtM free c (rnC c d))
theorem c3O{n:Nat}{z:Int}(h:z∈upL n):0<=z/\z<n:=by
 obtain⟨k,hk,rfl⟩:=mem_map.1 h;have:=List.mem_range.1 hk;omega
theorem b1Y(free:Bool)(c:List Lt):∀n∈lkM free c,0<=n/\n<c.length:=λn hn=>by
 unfold lkM at hn;split at hn
 ·exact c3O hn
 ·exact c2Q hn
theorem a9g(free:Bool)(c:List Lt):(lkM free c).length<=c.length+1:=by
 unfold lkM;split
 ·rw[a8s];omega
 ·exact c1L c
theorem a6C{free:Bool}{c d:List Lt}{m:Mt}(h:m∈mtM free c d):MtOk c d m:=c2R (b1Y free c) (b1Y free d) h
structure Pr2(free:Bool)(c d:List Lt):Prop where
 N:∃N:Int,(0<=N/\N<=1000000)/\(∀v∈cvs c,v<N)/\∀v∈cvs d,v<N
 cl:c.length<=10
 dl:d.length<=10
 cs:∀l∈c,l.s16
 ds:∀l∈d,l.s16
 pr:∀m∈mtM free c (rnC c d),PrOk m.fr.a m.pt
theorem Pr2.rn{free:Bool}{c d:List Lt}(h:Pr2 free c d):∀l∈rnC c d,l.s16:=by
 obtain⟨N,h1,h2,h3⟩:=h.N;exact b8L h1 h2 h.ds h3
theorem b4t{ld:Tm->Tm->Bool}{c:List Lt}{L:List Int}(hc:∀l∈c,l.s16){w:Wy}(h:w∈C3 ld c L):w.a.s16/\w.b.s16:=by
 obtain⟨_,l,h1,h2,_⟩:=a4f h;have:=hc l (mem_of_getElem? h1);rcases h2 with⟨e1,e2⟩ | ⟨e1,e2⟩
 ·rw[e1,e2];exact this
 ·rw[e1,e2];exact⟨this.2,this.1⟩
theorem b3T{free:Bool}{c d:List Lt}(hc:c.length<=10)(hd:d.length<=10)(hs:∀l∈d,l.s16):(mtM free c d).length<=22*(22*16):=by
 have h1:=a8F (ldM free) c (lkM free c);have h2:=a8F (ldM free) d (lkM free d);have h3:=a9g free c;have h4:=a9g free d;refine Nat.le_trans (c1B _ _ _ 16 λw hw=>(b4t hs hw).1.2) (Nat.mul_le_mul (by omega) (Nat.mul_le_mul (by omega) (Nat.le_refl _)))
theorem b0Y{free:Bool}{c d:List Lt}(hc:c.length<=10)(hd:d.length<=10)(hs:∀l∈rnC c d,l.s16):(Q2 free c d).length<=7744:=
 Nat.le_trans (List.length_filterMap_le _ _) (b3T hc (by rw[a9l];exact hd) hs)
theorem a7A(free:Bool)(fl fd:Nat)(W:World)(c d:List Lt)(h:Pr2 free c d)(hfl:∀w (x:List Lt),x.length<=1000->(∀l∈x,l.s16)->AFun Tryz.prog w fl [.lst (x.map Lt.cv)] (.val (.lst ((lkM free x).map CV.i))))(lL:∀w (a b:Tm),a.rng/\a.ok/\a.size<=1000000->b.rng/\b.ok/\b.size<=1000000->AFun Tryz.prog w fd [a.cw,b.cw] (.val (.b (ldM free a b)))):AFun Tryz.prog W 39 [ruC fl fd,.lst (c.map Lt.cv),.lst (d.map Lt.cv)] (.val (.lst ((Q2 free c d).map clC))):=by
 obtain⟨N,n1,n2,n3⟩:=h.N;have hr:=h.rn;have hdl:=h.dl;have eF:=h.cl;have uR:=a9l c d;have g1:=a1y c;have g2:=a3C n1.1 n2;have l1:=a9g free c;have l2:=a9g free (rnC c d);have hb:∀t:Tm,t.s16->t.rng/\t.ok/\t.size<=1000000:=λt ht=>⟨ht.1.1,ht.1.2,by have:=ht.2;omega⟩
 have hml:=b3T (free:=free) eF (by rw[uR];exact hdl) hr;exact a6p W fl fd (ldM free) c d (rnC c d) (lkM free c) (lkM free (rnC c d)) (U6 c) (by omega) (by omega) (by omega) (a3X h.cs) (a3X hr) (λw=>b6X w c (by omega) λl hl=>⟨(h.cs l hl).1.1.1,(h.cs l hl).2.1.1⟩) (λw=>b7Q w n1 (by omega) n2 h.ds n3) (λw=>hfl w c (by omega) h.cs) (λw=>hfl w _ (by omega) hr) (b1Y free c) (b1Y free _) (by omega) (by omega)
  (λw l hl=>by
   have hs:l.s16:=by
    rcases hl with hl | hl
    ·exact h.cs l hl
    ·exact hr l hl
   exact⟨lL w _ _ (hb _ hs.1) (hb _ hs.2),lL w _ _ (hb _ hs.2) (hb _ hs.1)⟩) (λw hw=>by have:=(b4t hr hw).1.2;omega) (λw hw=>b1Y free c _ (a4f hw).1) (by unfold mtM at hml;omega)
  (λm hm=>b8x lL (by omega) (by omega) h.cs hr (a6C hm) (h.pr m hm))
theorem b3V{P:Program}{W:World}{f fl fd:Nat}{a b:CV}{r:AV}(h:AFun P W f [ruC fl fd,a,b] r):AFun P W f [.row [.sc (.func (.func fl) #[] #[]),.sc (.func (.func fd) #[] #[])],a,b] r:=by
 refine⟨h.1,h.2.1,h.2.2.1,λU w vs hW hv=>h.2.2.2 U w vs hW ?_⟩;obtain⟨u,us,rfl,h1,h2⟩:=hv;refine⟨u,us,rfl,?_,h2⟩;have key:∀(f:Nat) (xs:List Value),Rep U w (.sc (.func (.func f) #[] #[])) xs->Rep U w (.fn f 0 []) xs:=λf xs hx=>by obtain⟨rfl,_⟩:=L6.1 hx;exact b9q.2 ⟨[],[],rfl,rfl,rfl,λc hc=>by cases hc⟩
 obtain⟨xs,e,y1,z1,e1,s1,y2,z2,e2,s2,s3⟩:=F8.1 h1;exact F8.2 ⟨xs,e,y1,z1,e1,key _ _ s1,y2,z2,e2,key _ _ s2,s3⟩
theorem N6(W:World)(c d:List Lt)(h:Pr2 false c d):AFun Tryz.prog W 13 [.lst (c.map Lt.cv),.lst (d.map Lt.cv)] (.val (.lst ((Q2 false c d).map clC))):=by
 have hf:=λw=>a7A false 37 38 w c d h (λw x hx hs=>by
  have:=b5l w x (by omega) λl hl=>?_
  ·exact this
  ·exact⟨⟨(hs l hl).1.1.1,(hs l hl).1.1.2,by have:=(hs l hl).1.2;omega⟩,(hs l hl).2.1.1,(hs l hl).2.1.2,by have:=(hs l hl).2.2;omega⟩) (λw a b ha hb=>a9I w a b ha hb)
 refine b9 (rs:=[.lst ((Q2 false c d).map clC)]) Tryz.func13 Tryz.ntmps13 rfl rfl rfl rfl ?_;intro w U hW;refine qz<|nc ze ?_;refine qz<|nc (zbN [.sc .nilFunc,.sc .nilFunc])<|nc zl<|nc zl<|nc (zk (z:=b3V (hf w)))<|nc ze ?_;exact aT (And.intro (.inr rfl) rfl)
theorem b2o(W:World)(c d:List Lt)(h:Pr2 true c d):AFun Tryz.prog W 15 [.lst (c.map Lt.cv),.lst (d.map Lt.cv)] (.val (.lst ((Q2 true c d).map clC))):=by
 have hf:=λw=>a7A true 41 42 w c d h (λw x hx hs=>a7Q w x (by omega)) (λw a b _ _=>a8b w a b);refine b9 (rs:=[.lst ((Q2 true c d).map clC)]) Tryz.func15 Tryz.ntmps15 rfl rfl rfl rfl ?_;intro w U hW;refine qz<|nc ze ?_;refine qz<|nc (zbN [.sc .nilFunc,.sc .nilFunc])<|nc zl<|nc zl<|nc (zk (z:=b3V (hf w)))<|nc ze ?_;exact aT (And.intro (.inr rfl) rfl)
theorem a4S{free:Bool}{c d:List Lt}{z:List Lt}(h:z∈Q2 free c d):∃m,m∈mtM free c (rnC c d)/\(mgT m.fr.a m.pt).2=true/\z=(D6 m c (rnC c d)).map (Lt.rep (mgS m.fr.a m.pt)):=by
 obtain⟨m,hm,he⟩:=List.mem_filterMap.1 h;unfold a1m at he;split at he
 ·rename_i hg;exact⟨m,hm,hg.1,(Option.some.inj he).symm⟩
 ·cases he
theorem a8J{free:Bool}{c d:List Lt}(hp:Pr2 free c d){z:List Lt}(h:z∈Q2 free c d):z.length+1=c.length+d.length/\∀l∈z,l.rok/\l.a.size<=100000/\l.b.size<=100000:=by
 obtain⟨m,hm,_,rfl⟩:=a4S h;have hk:=a6C hm;have hpr:=hp.pr m hm;refine⟨by rw[length_map,<-a9l c d];exact b1d hk,λl hl=>?_⟩;obtain⟨x,hx,rfl⟩:=mem_map.1 hl;obtain⟨h1,h2,h3⟩:=hk.lits hp.cs hp.rn x hx;obtain⟨a1,a2,a3⟩:=hpr.rep h1.1;obtain⟨b1,b2,b3⟩:=hpr.rep h1.2;have m1:=Nat.mul_le_mul_left 2955 h2;have m2:=Nat.mul_le_mul_left 2955 h3;exact⟨⟨⟨a1,a2⟩,b1,b2⟩,by show(a8 _ x.a).size<=_;omega,by show(a8 _ x.b).size<=_;omega⟩
theorem b3E:∀{p:List Int} {t s:Tm},atP p t=some s->t.ok->s.ok
 | [],t,s,h,hr=>by cases h;exact hr
 | k::ks,t,s,h,hr=>by
  rw[atP]at h;cases hp:t.pa k with
  | none=>rw[hp]at h;cases h
  | some u =>
   rw[hp]at h;exact b3E (p:=ks) h (((Tm.ok_iff _).1 hr).2 u (Tm.ps_mem (a6q hp)).1)
theorem C7{t:Tm}(h:t.ten):t.s16:=⟨h.1,Nat.le_trans h.2 (by omega)⟩
theorem a9A{p:List Int}{t s:Tm}(h:atP p t=some s)(ht:t.ten):s.ten:=⟨⟨(a9r h ht.1.1).1,b3E h ht.1.2⟩,Nat.le_trans (a9r h ht.1.1).2 ht.2⟩
theorem b3i{c d:List Lt}(hd:∀l∈d,l.ten)(h:∀l∈rnC c d,l.s16):∀l∈rnC c d,l.ten:=λl hl=>by
 have hs:=h l hl;obtain⟨x,hx,rfl⟩:=mem_map.1 hl;have g1:=a1y c;exact⟨⟨hs.1.1,by show(a8 _ x.a).size<=10;rw[O1 (by omega)];exact(hd x hx).1.2⟩,hs.2.1,by show(a8 _ x.b).size<=10;rw[O1 (by omega)];exact(hd x hx).2.2⟩
theorem MtOk.ft{c d:List Lt}{m:Mt}(h:MtOk c d m)(hc:∀l∈c,l.ten):m.fr.a.ten/\m.fr.b.ten:=by
 obtain⟨l,h1,h2,_⟩:=h.fr;have:=hc l (mem_of_getElem? h1);rcases h2 with⟨e1,e2⟩ | ⟨e1,e2⟩
 ·rw[e1,e2];exact this
 ·rw[e1,e2];exact⟨this.2,this.1⟩
theorem MtOk.tt{c d:List Lt}{m:Mt}(h:MtOk c d m)(hd:∀l∈d,l.ten):m.ti.a.ten/\m.ti.b.ten:=by
 obtain⟨l,h1,h2⟩:=h.ti;have:=hd l (mem_of_getElem? h1);rcases h2 with⟨e1,e2⟩ | ⟨e1,e2⟩
 ·rw[e1,e2];exact this
 ·rw[e1,e2];exact⟨this.2,this.1⟩
theorem b2h{c d:List Lt}(free:Bool){N:Int}(hN:0<=N/\N<=1000000)(hv:∀v∈cvs c,v<N)(hw:∀v∈cvs d,v<N)(eF:c.length<=10)(hdl:d.length<=10)(hc:∀l∈c,l.ten)(hd:∀l∈d,l.ten):Pr2 free c d:=by
 have cs:∀l∈c,l.s16:=λl hl=>⟨C7 (hc l hl).1,C7 (hc l hl).2⟩
 have ds:∀l∈d,l.s16:=λl hl=>⟨C7 (hd l hl).1,C7 (hd l hl).2⟩
 have hr:=b3i hd (b8L hN hv ds hw);refine⟨⟨N,hN,hv,hw⟩,eF,hdl,cs,ds,λm hm=>?_⟩;have hk:=a6C hm;exact b3v (hk.ft hc).1 (a9A hk.at_ (hk.tt hr).1)
theorem a9o{c:List Lt}(h:∀l∈c,l.a.sm/\l.b.sm):∀v∈cvs c,v<1000:=λv hv=>by
 obtain⟨l,hl,hv⟩:=mem_flatMap.1 hv;have key:∀t:Tm,t.sm->∀v∈t.vs,v<1000:=λt h=>c2k (λs hs=>(Tm.sm_flat h s hs).1);rcases mem_append.1 hv with hv | hv
 ·exact key _ (h l hl).1 v hv
 ·exact key _ (h l hl).2 v hv
theorem b3X(l:Lt)(h:l.neg=false):W0 [l]=[0]:=by
 have h1:hvK [l] 1=(-1,0):=by unfold hvK;show(if l.neg=true/\_ then _ else hvK [l] 0)=_;rw[if_neg (by rw[h];rintro⟨h,_⟩;cases h)];rfl
 have hg:c2n [l] l=true:=by
  unfold c2n;rw[List.any_eq_false.2 λx hx=>by
   have:x=l:=by simpa using hx
   rw[this,b8p.2 (c0G _)];decide]
  rfl
 unfold W0;show(if(hvK [l] 1).1>=0 then _ else gsK [l] 1)=_;rw[h1,if_neg (by decide)];have g0:a1Z [l] 0=true:=hg;unfold gsK;have e:List.range 1=[0]:=rfl;rw[e,List.filter_cons_of_pos (by exact g0)];rfl
theorem b1e{a b:Tm}(h:PrOk a b)(h1:¬ a.f<0)(h2:¬ b.f<0)(h3:a.f≠b.f):(mgT a b).2=false:=by
 cases e:(mgT a b).2 with
 | false=>rfl
 | true =>
  exfalso;have hu:=(h.tell.yes e).uni;rw[C9,c9 h1,c9 h2]at hu;injection hu with e1 _;exact h3 e1
theorem S8{a b:Tm}(h:kb a b=1):A0 a b=true/\A0 b a=false:=by
 refine⟨decide_eq_true (.inl h),decide_eq_false ?_⟩;rw[a8A a b,h];decide
def x6:Tm:=⟨-1,[]⟩
def o6:Tm:=⟨1,[]⟩
def fx6:Tm:=⟨3,[x6]⟩
def fo6:Tm:=⟨3,[o6]⟩
def pf6:Tm:=⟨4,[fo6]⟩
def po6:Tm:=⟨4,[o6]⟩
def t6:Tm:=⟨0,[]⟩
def c6:List Lt:=[⟨false,fx6,x6⟩]
def d6:List Lt:=[⟨false,pf6,t6⟩]
theorem c3Q:x6.ten:=⟨⟨by simp[x6,Tm.rng],by simp[x6,Tm.ok]⟩,by simp[x6,Tm.size,Tm.flat]⟩
theorem c3m:o6.ten:=⟨⟨by simp[o6,Tm.rng],by simp[o6,Tm.ok]⟩,by simp[o6,Tm.size,Tm.flat]⟩
theorem a4q:fx6.ten:=⟨⟨by simp[fx6,x6,Tm.rng],by simp[fx6,x6,Tm.ok]⟩,by simp[fx6,x6,Tm.size,Tm.flat]⟩
theorem c1g:fo6.ten:=⟨⟨by simp[fo6,o6,Tm.rng],by simp[fo6,o6,Tm.ok]⟩,by simp[fo6,o6,Tm.size,Tm.flat]⟩
theorem b4E:pf6.ten:=⟨⟨by simp[pf6,fo6,o6,Tm.rng],by simp[pf6,fo6,o6,Tm.ok]⟩,by simp[pf6,fo6,o6,Tm.size,Tm.flat]⟩
theorem c3u:t6.ten:=⟨⟨by simp[t6,Tm.rng],by simp[t6,Tm.ok]⟩,by simp[t6,Tm.size,Tm.flat]⟩
theorem c3L:∀l∈c6,l.ten:=λl hl=>by
 simp only[c6,mem_cons,not_mem_nil,or_false]at hl;subst hl;exact⟨a4q,c3Q⟩
theorem c3t:∀l∈d6,l.ten:=λl hl=>by
 simp only[d6,mem_cons,not_mem_nil,or_false]at hl;subst hl;exact⟨b4E,c3u⟩
theorem b4r(σ:Int->Tm):a8 σ fo6=fo6:=by simp[fo6,o6,a8]
theorem b3N(σ:Int->Tm):a8 σ pf6=pf6:=by simp[pf6,fo6,o6,a8]
theorem b3p(σ:Int->Tm):a8 σ t6=t6:=by simp[t6,a8]
theorem b8U(σ:Int->Tm):a8 σ x6=(σ 0).strip:=by simp[x6,a8]
theorem a8l(σ:Int->Tm):a8 σ fx6=⟨3,[(σ 0).strip]⟩:=by simp[fx6,x6,a8]
theorem pr6:Pr2 false c6 d6:=by
 have e1:cvs c6=[0,0]:=by simp[cvs,c6,fx6,x6,Tm.vs,vsL,Tm.flat]
 have e2:cvs d6=[]:=by simp[cvs,d6,pf6,fo6,o6,t6,Tm.vs,vsL,Tm.flat]
 exact b2h false (N:=1) (by omega) (λv hv=>by rw[e1]at hv;simp at hv;omega) (λv hv=>by rw[e2]at hv;cases hv) (by simp[c6]) (by simp[d6]) c3L c3t
theorem mg6:(mgT fx6 fo6).2=true/\(mgS fx6 fo6 0).strip=o6:=by
 have hT:=a2d a4q c1g;have h2:(mgT fx6 fo6).2=true:=by
  cases h:(mgT fx6 fo6).2 with
  | true=>rfl
  | false =>
   exfalso;refine(hT.no h).2 (λ_=>o6) ?_;rw[C9,a8l,b4r];simp[fo6,o6,Tm.strip]
 refine⟨h2,?_⟩;have hu:=(hT.yes h2).uni;rw[C9,a8l,b4r]at hu;have hu:(⟨3,[(mgS fx6 fo6 0).strip]⟩:Tm)=⟨3,[o6]⟩:=hu;injection hu with _ h3;injection h3
theorem c5s:kb fx6 x6=1:=c2v (p:=[0]) rfl (by simp)
theorem c5H:kb fo6 o6=1:=c2v (p:=[0]) rfl (by simp)
theorem c4f:kb pf6 t6=1:=by
 rw[a5Y];refine⟨?_,.inl ?_⟩
 ·intro v;have:t6.vs=[]:=by simp[t6,Tm.vs,vsL,Tm.flat]
  rw[this];simp
 ·simp[pf6,fo6,o6,t6,Tm.size,Tm.flat]
theorem c5I:Q2 false c6 d6=[[⟨false,po6,t6⟩]]:=by
 have er:rnC c6 d6=d6:=by unfold rnC d6;simp only[map_cons,List.map_nil,Lt.rep,b3N,b3p]
 have w1:C3 A0 c6 (W0 c6)=[⟨0,fx6,x6⟩]:=by rw[show W0 c6=[0]from b3X _ rfl];show a4k A0 c6 0++[]=_;rw[append_nil];show([⟨0,fx6,x6⟩,⟨0,x6,fx6⟩]:List Wy).filter (λw=>A0 w.a w.b)=_;simp[List.filter_cons,(S8 c5s).1,(S8 c5s).2]
 have w2:C3 A0 d6 (W0 d6)=[⟨0,pf6,t6⟩]:=by rw[show W0 d6=[0]from b3X _ rfl];show a4k A0 d6 0++[]=_;rw[append_nil];show([⟨0,pf6,t6⟩,⟨0,t6,pf6⟩]:List Wy).filter (λw=>A0 w.a w.b)=_;simp[List.filter_cons,(S8 c4f).1,(S8 c4f).2]
 have e0:sy pf6 []=[([],pf6),([0],fo6),([0,0],o6)]:=by rw[X9,if_neg (by show ¬ (4:Int)<0;decide),show pf6.l=[fo6]from rfl,I0,X2,append_nil,X9,if_neg (by show ¬ (3:Int)<0;decide),show fo6.l=[o6]from rfl,I0,X2,append_nil,X9,if_neg (by show ¬ (1:Int)<0;decide),show o6.l=[]from rfl,X2];rfl
 have em:mtM false c6 d6=[⟨⟨0,fx6,x6⟩,⟨0,pf6,t6⟩,[],pf6⟩,⟨⟨0,fx6,x6⟩,⟨0,pf6,t6⟩,[0],fo6⟩,⟨⟨0,fx6,x6⟩,⟨0,pf6,t6⟩,[0,0],o6⟩]:=by unfold mtM;show U5 (x7 c6) (C3 A0 c6 (W0 c6)) (C3 A0 d6 (W0 d6))=_;rw[w1,w2];show mtN (x7 c6) _ _++[]=_;rw[append_nil];unfold mtN;rw[if_neg (by show ¬ x7 c6 0=true;decide)];show mtI _ _++[]=_;rw[append_nil];unfold mtI;simp only[e0];rfl
 obtain⟨g1,g2⟩:=mg6;unfold Q2;rw[er,em];have f1:a1m (ldM false) c6 d6 ⟨⟨0,fx6,x6⟩,⟨0,pf6,t6⟩,[],pf6⟩=none:=by unfold a1m;rw[if_neg];rintro⟨h,_⟩;have:=b1e (b3v a4q b4E) (by show ¬ (3:Int)<0;decide) (by show ¬ (4:Int)<0;decide) (by show(3:Int)≠4;decide);rw[this]at h;cases h
 have f3:a1m (ldM false) c6 d6 ⟨⟨0,fx6,x6⟩,⟨0,pf6,t6⟩,[0,0],o6⟩=none:=by unfold a1m;rw[if_neg];rintro⟨h,_⟩;have:=b1e (b3v a4q c3m) (by show ¬ (3:Int)<0;decide) (by show ¬ (1:Int)<0;decide) (by show(3:Int)≠1;decide);rw[this]at h;cases h
 have f2:a1m (ldM false) c6 d6 ⟨⟨0,fx6,x6⟩,⟨0,pf6,t6⟩,[0],fo6⟩=some [⟨false,po6,t6⟩]:=by
  unfold a1m;simp only[a8l,b8U,b3N,b3p,g2];rw[if_pos ⟨g1,(S8 c5H).1,(S8 c4f).1⟩];have ej:D6 ⟨⟨0,fx6,x6⟩,⟨0,pf6,t6⟩,[0],fo6⟩ c6 d6=[⟨false,⟨4,[x6]⟩,t6⟩]:=by
   unfold D6;have e1:(E3 x6 [0] pf6).getD ⟨0,[]⟩=⟨4,[x6]⟩:=by simp[E3,pf6,Tm.pa,Tm.ps,x6,Tm.strip]
   rw[e1];rfl
  rw[ej];have e2:a8 (mgS fx6 fo6) ⟨4,[x6]⟩=po6:=by
   have:a8 (mgS fx6 fo6) ⟨4,[x6]⟩=⟨4,[a8 (mgS fx6 fo6) x6]⟩:=by rw[c9 (by show ¬ (4:Int)<0;decide)];rfl
   rw[this,b8U,g2];rfl
  simp only[map_cons,List.map_nil,Lt.rep,e2,b3p]
 unfold a3h;rw[filterMap_cons,f1,filterMap_cons,f2,filterMap_cons,f3];rfl
theorem b3c(W:World)(t:CV)(f:Int)(l:List CV)(ht:t=.row [.i f,.lst l]):AFun Tryz.prog W 23 [t] (.val (.row [.i 3,.lst [t]])):=by
 subst ht;refine b9 (rs:=[.row [.i 3,.lst [.row [.i f,.lst l]]]]) Tryz.func23 Tryz.ntmps23 rfl rfl rfl rfl ?_;intro w U hW;refine qz<|nc zd<|nc zw ?_;refine qz<|nc zj<|nc zy<|nc zC<|nc zx ?_;exact aT (And.intro (.inr rfl) rfl)
theorem c3l(W:World)(t:CV)(f:Int)(l:List CV)(ht:t=.row [.i f,.lst l]):AFun Tryz.prog W 24 [t] (.val (.row [.i 4,.lst [t]])):=by
 subst ht;refine b9 (rs:=[.row [.i 4,.lst [.row [.i f,.lst l]]]]) Tryz.func24 Tryz.ntmps24 rfl rfl rfl rfl ?_;intro w U hW;refine qz<|nc zd<|nc zw ?_;refine qz<|nc zj<|nc zy<|nc zC<|nc zx ?_;exact aT (And.intro (.inr rfl) rfl)
set_option maxHeartbeats 4000000 in
theorem a9G(W:World):AFun Tryz.prog W 7 [] (.val (.b true)):=by
 have hR:=λw=>N6 w c6 d6 pr6;rw[c5I]at hR;have hc:c6.map Lt.cv=[.row [.b false,.row [.i 3,.lst [.row [.i (-1),.lst []]]],.row [.i (-1),.lst []]]]:=by simp[c6,fx6,x6,Lt.cv,Tm.cv_eq]
 have hd:d6.map Lt.cv=[.row [.b false,.row [.i 4,.lst [.row [.i 3,.lst [.row [.i 1,.lst []]]]]],.row [.i 0,.lst []]]]:=by simp[d6,pf6,fo6,o6,t6,Lt.cv,Tm.cv_eq]
 have hr:([[⟨false,po6,t6⟩]]:List (List Lt)).map clC=[.lst [.row [.b false,.row [.i 4,.lst [.row [.i 1,.lst []]]],.row [.i 0,.lst []]]]]:=by simp[clC,po6,o6,t6,Lt.cv,Tm.cv_eq]
 rw[hc,hd,hr]at hR;have a1:=λw t f l ht=>b3c w t f l ht;have k1:∀w,P4 Tryz.prog w (.sc (.func (.func 23) #[] #[])) [.row [.i (-1),.lst []]] (.val (.row [.i 3,.lst [.row [.i (-1),.lst []]]])):=λw => .inr ⟨_,rfl,b3c w _ _ _ rfl⟩;have k2:∀w,P4 Tryz.prog w (.sc (.func (.func 23) #[] #[])) [.row [.i 1,.lst []]] (.val (.row [.i 3,.lst [.row [.i 1,.lst []]]])):=λw => .inr ⟨_,rfl,b3c w _ _ _ rfl⟩;have k3:∀w,P4 Tryz.prog w (.sc (.func (.func 24) #[] #[])) [.row [.i 3,.lst [.row [.i 1,.lst []]]]] (.val (.row [.i 4,.lst [.row [.i 3,.lst [.row [.i 1,.lst []]]]]])):=λw => .inr ⟨_,rfl,c3l w _ _ _ rfl⟩;refine b9 (rs:=[.b true]) Tryz.func7 Tryz.ntmps7 rfl rfl rfl rfl ?_;intro w U hW;refine qz<|nc ze ?_;refine qz<|nc (zbN [.i 0,.lst []])<|nc zw<|nc zx ?_;refine qz<|nc ze ?_;refine qz<|nc ze ?_;refine aS<|aD (by kernel_rfl) (by kernel_rfl) ?_;refine nc zl<|nc zj<|nc (zQ (E:=k1 w))<|nc zj<|nc (zbN b9I)<|nc zy<|nc zl<|nc zl<|nc (zbN [.i 0,.lst []])<|nc (zQ (E:=k2 w))<|nc (zQ (E:=k3 w))<|nc (zbN b9I)<|nc zy<|nc (zk (z:=hR w))<|nc ze ?_;refine⟨by kernel_rfl,?_⟩;refine qz<|nc zl<|nc zo<|nc zD<|nc zl<|nc (zl (p:=gb))<|nc (zt (j:=0) (r:=gb) (H:=rfl) (hz:=sZ rfl))<|nc (zu (r:=gb))<|nc (zo (r:=gb))<|nc (zD (r:=gb))<|nc zp<|nc zl<|nc (zl (p:=gb))<|nc (zt (j:=0) (r:=gb) (H:=rfl) (hz:=sZ rfl))<|nc (zu (r:=gb))<|nc (zt (j:=0) (r:=gb) (H:=rfl) (hz:=sZ rfl))<|nc (zbH (r:=gb))<|nc (zbH (r:=gb))<|nc (zu (r:=gb))<|nc (zt (j:=0) (r:=gb) (H:=rfl) (hz:=sZ rfl))<|nc (zbH (r:=gb))<|nc (zu (r:=gb))<|nc (zD (r:=gb))<|nc zp<|nc ze ?_;exact aT (And.intro (.inr rfl) rfl)
end Go.Proofs.YteegmcfobgpemaaGreat
