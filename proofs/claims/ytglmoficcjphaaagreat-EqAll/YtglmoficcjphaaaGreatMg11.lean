/-
 EqMath EqWays EqConcat ClSort AbZero ClNmW AbNilF EqUni EqFns EqFac KbRef KbRef2 OrRef
-/
import Derived.Test.YtglmoficcjphaaaGreatMg10
import Derived.Test.YtglmoficcjphaaaGreatMg8
import Derived.Test.YtglmoficcjphaaaGreatMg3
import Derived.Test.YtglmoficcjphaaaGreatMg2
import Derived.Test.YtglmoficcjphaaaGreatMg9
import Derived.Test.YtglmoficcjphaaaGreatMg5
import Derived.Test.YtglmoficcjphaaaGreatMg4
namespace Go.Proofs.YtglmoficcjphaaaGreat
open List (append_nil getElem?_eq_getElem length_append length_cons length_map length_nil length_take map_append map_cons map_nil mem_append mem_cons mem_flatMap mem_map mem_of_getElem? mem_singleton take_add_one take_length)
open Go.RowKit
set_option linter.unusedVariables false
set_option linter.unusedSimpArgs false
set_option maxRecDepth 100000
theorem ToldU.uniq {l:List (Tm×Tm)} {r1 r2:List Bd×Bool} (h1:ToldU l r1) (h2:ToldU l r2):r1=r2:=by
 rcases h1 with ⟨a1,a2,a3⟩ | ⟨a1,s,a2,a3,a4,a5⟩
 ·rw [h2.no a3];cases r1;simp only at a1 a2;rw [a1,a2]
 ·have h:=(h2.yes a2 a3).1;cases r1;simp only at a1 a5;rw [h,a1,a5]
noncomputable def mgT (a b:Tm):List Bd×Bool:=open Classical in if h:∃ r,Tells8 [(a,b)] r then Classical.choose h else ([],false)
def Tm.ten (t:Tm):Prop:=(t.rng/\t.ok)/\t.size<=10
def Lt.ten (l:Lt):Prop:=l.a.ten/\l.b.ten
theorem a4M {a b:Tm} (ha:a.ten) (hb:b.ten):a7V [(a,b)]:=fun p hp=>by
 rw [mem_singleton] at hp;subst hp;exact ⟨⟨ha.1,Nat.le_trans ha.2 (by omega)⟩,hb.1,Nat.le_trans hb.2 (by omega)⟩
theorem c0x {a b:Tm} {r:List Bd×Bool} (h:Tells8 [(a,b)] r):mgT a b=r:=by
 have he:∃ r,Tells8 [(a,b)] r:=⟨r,h⟩
 unfold mgT;rw [dif_pos he];exact (Classical.choose_spec he).told.uniq h.told
theorem a1R {a b:Tm} (ha:a.ten) (hb:b.ten):Tells8 [(a,b)] (mgT a b):=by
 obtain ⟨n,r,_,_,_,h⟩:=b2U (l:=[(a,b)]) (by simp) (a4M ha hb);rw [c0x h];exact h
theorem b6z (l:List (Tm×Tm)) (hl:l.length<=2) (ht:a7V l):∃ r:Option (List Bd),(r=none->∀ τ,¬ uni τ l)/\∀ s,r=some s->Mgu (c9 s) l/\L4 s/\Orig (I9 l) (c9 s):=by
 have hV:∀ v∈F8 l,0<=v:=fun v hv=>by obtain ⟨p,_,hv⟩:=mem_flatMap.1 hv;rcases mem_append.1 hv with hv | hv<;>exact s6 _ v hv
 have kQ:∀ p∈l,(∀ u∈p.1.vs,u∈F8 l)/\∀ u∈p.2.vs,u∈F8 l:=fun p hp=>⟨fun u hu=>mem_flatMap.2 ⟨p,hp,List.mem_append_left _ hu⟩,fun u hu=>mem_flatMap.2 ⟨p,hp,List.mem_append_right _ hu⟩⟩
 have h0:Mgu (c9 []) []:=Mgu.nil;obtain ⟨n,r,e,g1,g2⟩:=a2c hV l [] [] h0 (fun b hb=>by cases hb) (fun b hb=>by cases hb) kQ;rw [List.nil_append] at g1 g2;have hE:arA (I9 l)<=60:=by
  have:=a7D l fun p hp=>⟨(ht p hp).1.2,(ht p hp).2.2⟩
  omega
 have bQ:=a2k l ht;have oU:a7g (F8 l) (I9 l) 64 [] ([]++[]):=⟨h0,(fun b hb=>by cases hb),(fun b hb=>by cases hb),(fun v hv hf=>by exfalso;apply hf;show (s8 v).f<0;rw [r6];omega),by
  have:frN (F8 l) []<=(F8 l).length:=a8V _;show 0+_<=64;omega,fun b hb=>by cases hb⟩
 obtain ⟨c1,c2⟩:=a3T (V:=F8 l) (S:=I9 l) (K:=64) (E:=[]) hV (b7g hV (Z5 l) (by decide) hE n) l [] [] oU (fun b hb=>by cases hb) fun p hp=>by obtain ⟨s1,s2⟩:=a9u hp;exact ⟨fun s1' F1 h1=>⟨⟨(kQ p hp).1,p.1,s1,rfl⟩,⟨(kQ p hp).2,p.2,s2,rfl⟩⟩,(ht p hp).1.1,(ht p hp).2.1⟩
 refine ⟨r,g1,fun s hs=>?_⟩;obtain ⟨k1,k2,k3⟩:=g2 s hs;rw [hs] at e;exact ⟨k1,k2,(c2 s e).1.orig⟩
theorem c0K {s E:Nat} (hE:E<=18) (h:Big E s):s<=2955:=by
 have h:=h.up hE;unfold Big at h;have e1:(2:Nat) ^ 18=262144:=by decide
 have e2:(3:Nat) ^ 18=387420489:=by decide
 rw [e1,e2] at h;omega
theorem c0W {a b:Tm} (ha:a.ten) (hb:b.ten) {v:Int} (hv:0<=v):(c9 (mgT a b).1 v).size<=2955:=by
 have hT:=a1R ha hb;have xL:∀ u:Tm,u.f<0->u.size<=2955:=fun u hu=>by rw [Tm.size_var hu];omega
 cases h2:(mgT a b).2 with
 | false =>
  rw [(hT.no h2).1];exact xL _ (by show (s8 v).f<0;rw [r6];omega)
 | true =>
  have hm:=hT.yes h2;obtain ⟨r,g1,g2⟩:=b6z [(a,b)] (by simp) (a4M ha hb);cases r with
  | none=>exact absurd hm.uni (g1 rfl _)
  | some s =>
   obtain ⟨k1,k2,k3⟩:=g2 s rfl;rw [k1.one hm hv];by_cases hf:(c9 s v).f<0
   ·exact xL _ hf
   ·obtain ⟨q,hq,_,e⟩:=k3 v hv hf;rw [<-e];refine c0K ?_ (a1G (Z5 _) k3 (fun v _=>L8 k2 v) ⟨q,hq,rfl⟩);have e1:I9 [(a,b)]=(a.flat++b.flat)++[]:=rfl;have e2:=a1w a;have e3:=a1w b;have e4:=ha.2;have e5:=hb.2;rw [e1,append_nil,a3R];omega
theorem b9Z {σ:Int->Tm} {M:Nat} (hM:1<=M) (h:∀ v,0<=v->(σ v).size<=M) (t:Tm):(b7 σ t).size<=M*t.size:=by
 induction t using Tm.indp with
 | h t ih =>
  by_cases hf:t.f<0
  ·rw [j5 hf,Tm.strip_size,Tm.size_var hf,Nat.mul_one];exact h _ (by omega)
  ·have e1:(b7 σ t).size=1+((t.l.map (b7 σ)).map Tm.size).sum:=by rw [i8 hf];exact Tm.size_sym (t:=⟨t.f,t.l.map (b7 σ)⟩) hf
   have e2:t.size=1+(t.l.map Tm.size).sum:=Tm.size_sym hf;have gW:t.ps=t.l:=Tm.ps_of_sym (by omega);rw [gW] at ih;have:∀ L:List Tm,(∀ s∈L,(b7 σ s).size<=M*s.size)->((L.map (b7 σ)).map Tm.size).sum<=M*(L.map Tm.size).sum:=fun L=>by
    induction L with
    | nil=>intro _;simp
    | cons x L ihL =>
     intro g;rw [map_cons,map_cons,map_cons,List.sum_cons,List.sum_cons,Nat.mul_add];have a1:=g x (by simp);have a2:=ihL fun s hs=>g s (List.mem_cons_of_mem _ hs);omega
   have h3:=this t.l ih;rw [e1,e2,Nat.mul_add,Nat.mul_one];omega
noncomputable def mgS (a b:Tm):Int->Tm:=c9 (mgT a b).1
theorem a8d {a b:Tm} (ha:a.ten) (hb:b.ten) {t:Tm} (ht:t.ten):(b7 (mgS a b) t).rng/\(b7 (mgS a b) t).ok/\(b7 (mgS a b) t).size<=29550:=by
 have hT:=a1R ha hb;refine ⟨b9a hT.bdsOk ht.1.1,b8j ht.1.2 fun v=>a9B (fun b hb=>(hT.ok b hb).2) v,?_⟩;have h1:=b9Z (M:=2955) (by omega) (fun v hv=>c0W ha hb hv) t;have h2:2955*t.size<=2955*10:=Nat.mul_le_mul_left _ ht.2;exact Nat.le_trans h1 h2
def y7 (c:List Lt) (n:Nat):List Lt:=c.take n++c.drop (n+1)
theorem W9 {c:List Lt} {n:Nat} {l:Lt} (h:l∈y7 c n):l∈c:=by
 rcases mem_append.1 h with h | h
 ·exact List.mem_of_mem_take h
 ·exact List.mem_of_mem_drop h
theorem I7 {c:List Lt} {n:Nat} (h:n<c.length):(y7 c n).length+1=c.length:=by
 unfold y7;rw [length_append,length_take,List.length_drop];omega
noncomputable def b0j (c:List Lt) (n:Nat):Option (List Lt):=match c[n]? with
 | some l=>if l.neg=true/\(mgT l.a l.b).2=true then some ((y7 c n).map (Lt.rep (mgS l.a l.b))) else none
 | none=>none
noncomputable def S2 (c:List Lt):List (List Lt):=(s9 c).filterMap fun z=>b0j c z.toNat
noncomputable def a2V (a b:Tm):Bool:=decide (kb a b=1\/kb a b=2)
noncomputable def a9J (p q:Tm×Tm) (rest:List Lt):Option (List Lt):=
 if (mgT p.1 q.1).2=true/\a2V (b7 (mgS p.1 q.1) p.1) (b7 (mgS p.1 q.1) p.2)=true then some ((rest++[(⟨true,p.2,q.2⟩:Lt)]).map (Lt.rep (mgS p.1 q.1))) else none
def M2 (l:Lt):List (Tm×Tm):=[(l.a,l.b),(l.b,l.a)]
noncomputable def a8Z (p:Tm×Tm) (L:List (Tm×Tm)) (rest:List Lt):List (List Lt):=L.filterMap fun q=>a9J p q rest
noncomputable def a1U (L:List (Tm×Tm)) (o:Lt) (rest:List Lt):List (List Lt):=L.flatMap fun p=>a8Z p (M2 o) rest
noncomputable def a3H (c:List Lt) (l:Lt) (n m:Nat):List (List Lt):=match c[m]? with
 | some o=>if m≠n/\o.neg=false then a1U (M2 l) o (y7 c n) else []
 | none=>[]
noncomputable def a6r (c:List Lt) (n:Nat):List (List Lt):=match c[n]? with
 | some l=>if l.neg=true then [] else (List.range c.length).flatMap fun m=>a3H c l n m
 | none=>[]
noncomputable def a4u (c:List Lt):List (List Lt):=(s9 c).flatMap fun z=>a6r c z.toNat
theorem a3n {l:Lt} (h:l.ten):∀ p∈M2 l,p.1.ten/\p.2.ten:=fun p hp=>by
 simp only [M2,mem_cons,List.not_mem_nil,or_false] at hp;rcases hp with rfl | rfl
 ·exact h
 ·exact ⟨h.2,h.1⟩
theorem a9C (p:Tm×Tm) (L:List (Tm×Tm)) (rest:List Lt):(a8Z p L rest).length<=L.length:=List.length_filterMap_le _ _
theorem a1h:∀ (L:List (Tm×Tm)) (o:Lt) (rest:List Lt),(a1U L o rest).length<=2*L.length
 | [],o,rest=>by simp [a1U]
 | p::L,o,rest=>by
  have h1:=a9C p (M2 o) rest;have h2:=a1h L o rest;have e:a1U (p::L) o rest=a8Z p (M2 o) rest++a1U L o rest:=List.flatMap_cons;have h3:(M2 o).length=2:=rfl;rw [e,length_append,length_cons];omega
section
open Go.RowKit Go.MapKept Go.Shelf
attribute [local go_sem] Oper.semAt_some
noncomputable def c1J (p:Tm×Tm):List CV:=[p.1.cw,p.2.cw]
def c1L (v1 v2 v3 v4:Value) (x:Nat):List Value:=if x=0 then [.agg #[v1,v2],.agg #[v3,v4]] else [.agg #[v3,v4],.agg #[v1,v2]]
set_option maxRecDepth 100000 in
set_option maxHeartbeats 2000000 in
theorem b9c (l Bb ob:Nat) (v1 v2 v3 v4:Value) (R:Nat->Nat->Prop) (w:World) (hc:(R Bb (ob+1)/\w.cell? ⟨Bb,ob+1,none⟩=some v1)/\(R Bb (ob+2)/\w.cell? ⟨Bb,ob+2,none⟩=some v2)/\(R Bb (ob+3)/\w.cell? ⟨Bb,ob+3,none⟩=some v3)/\(R Bb (ob+4)/\w.cell? ⟨Bb,ob+4,none⟩=some v4))
  (J:List Nat->World->Prop)
  (hY:∀ pre (x:Nat) V,J pre V->x=pre.length/\x<2->YieldAt Fence.wide 1 Tryz.prog l (c1L v1 v2 v3 v4 x).toArray V fun e V'=>e = .returned (.bool true)/\J (pre++[x]) V'/\KpX w.heap.size (fun b=>¬ ∃ o,R b o) V V')
  (W:World) (hW:Below w.heap.size w W) (h0:J [] W) :
  CallsIn Fence.wide 2 Tryz.prog 81 #[.func (.yield l) #[] #[],.pointer (some ⟨Bb,ob,none⟩)] W fun e W'=>(∃ v,e = .returned v)/\∃ ys,ys=List.range 2/\J ys W':=by
 have fF:∀ {V:World},KpX w.heap.size (fun b=>¬ ∃ o,R b o) w V->V.cell? ⟨Bb,ob+1,none⟩=some v1/\V.cell? ⟨Bb,ob+2,none⟩=some v2/\V.cell? ⟨Bb,ob+3,none⟩=some v3/\V.cell? ⟨Bb,ob+4,none⟩=some v4:=fun {V} hV=>by
  have kJ:∀ b o u,R b o->w.cell? ⟨b,o,none⟩=some u->V.cell? ⟨b,o,none⟩=some u:=fun b o u hr hc=>by have hb:b<w.heap.size:=World.block_lt_of_cell? w _ hc;rw [World.cell?_of_block (w:=w) (hV b hb (fun hn=>hn ⟨o,hr⟩))];exact hc
  obtain ⟨⟨g1,g2⟩,⟨g3,g4⟩,⟨g5,g6⟩,g7,g8⟩:=hc;exact ⟨kJ _ _ _ g1 g2,kJ _ _ _ g3 g4,kJ _ _ _ g5 g6,kJ _ _ _ g7 g8⟩
 have pO:KpX w.heap.size (fun b=>¬ ∃ o,R b o) w W:=fun b hb _=>hW.block b hb;have HC:Hid (∀ {V:World},KpX w.heap.size (fun b=>¬ ∃ o,R b o) w V->V.cell? ⟨Bb,ob+1,none⟩=some v1/\V.cell? ⟨Bb,ob+2,none⟩=some v2/\V.cell? ⟨Bb,ob+3,none⟩=some v3/\V.cell? ⟨Bb,ob+4,none⟩=some v4):=fun {V} h=>fF h;clear fF hc;obtain ⟨c1,c2,c3,c4⟩:=HC.out pO;obtain ⟨fn,tmps,assign,body,hy,hR⟩:=hY [] 0 _ h0 ⟨rfl,by omega⟩;have hy:Sem.run Tryz.prog (Instr.yield l #[.agg #[v1,v2],.agg #[v3,v4]]) W = .ok (.round l fn tmps assign body) W:=hy;refine callsIn_of_wp Tryz.func81 rfl trivial ?_ rfl;simp only [Tryz.ntmps81,List.size_toArray,length_cons,length_nil,Nat.reduceAdd,Nat.reduceSub,Array.replicate_succ,Array.replicate_zero,List.push_toArray,List.append_toArray,List.nil_append,List.cons_append]
 gi_wp2
 refine hR.mono ?_;rintro e V3 ⟨rfl,sA,pF⟩;have hK3:KpX w.heap.size (fun b=>¬ ∃ o,R b o) w V3:=fun b' hb' kI=>(pF b' hb' kI).trans (pO b' hb' kI);clear c1 c2 c3 c4 hy hR;obtain ⟨c1,c2,c3,c4⟩:=HC.out hK3;obtain ⟨fn,tmps,assign,body,hy,hR⟩:=hY [0] 1 _ sA ⟨rfl,by omega⟩;have hy:Sem.run Tryz.prog (Instr.yield l #[.agg #[v3,v4],.agg #[v1,v2]]) V3 = .ok (.round l fn tmps assign body) V3:=hy
 gi_wp2
 refine hR.mono ?_;rintro e V4 ⟨rfl,hJ4,nH⟩
 gi_wp2
 go_end0
 exact ⟨⟨_,rfl⟩,_,rfl,hJ4⟩
theorem b6D {R:Nat->Nat->Prop} {w:World} {l:Lt} {xs:List Value} (h:Rep R w l.cw xs):∃ v0 v1 v2 v3 v4,xs=[v0,v1,v2,v3,v4]/\VRep R w l.a.cw (.agg #[v1,v2])/\VRep R w l.b.cw (.agg #[v3,v4]):=by
 obtain ⟨x1,y1,rfl,h1,h2⟩:=E8.1 h;obtain ⟨x2,y2,rfl,h3,h4⟩:=h2;obtain ⟨x3,y3,rfl,h5,h6⟩:=h4;have h6:y3=[]:=h6;subst h6;have l1:x1.length=1:=h1.len;have l2:x2.length=2:=h3.len;have l3:x3.length=2:=h5.len
 match x1,x2,x3,l1,l2,l3 with
 | [v0],[v1,v2],[v3,v4],_,_,_=>exact ⟨v0,v1,v2,v3,v4,rfl,⟨_,rfl,h3⟩,_,rfl,h5⟩
theorem a4y (l:Lt):b1U Tryz.prog 81 [.ptr l.cw] 2 c1J (M2 l):=by
 rintro w lb R ⟨u,us,rfl,h1,h2⟩;have h2:us=[]:=h2;subst h2;obtain ⟨b,off,xs,rfl,h3,h4⟩:=X7.1 h1;obtain ⟨v0,v1,v2,v3,v4,rfl,g1,g2⟩:=b6D h3;have hc:∀ i,i<5->R b (off+i)/\w.cell? ⟨b,off+i,none⟩=[v0,v1,v2,v3,v4][i]?:=fun i hi=>h4 i hi;refine ⟨c1L v1 v2 v3 v4,fun k=>by unfold c1L;split<;>rfl,fun k x hx=>?_,fun l2 J W hW hJ hY h0=>?_⟩
 ·match k,hx with
  | 0,hx=>cases hx;exact ⟨_,_,rfl,g1,_,_,rfl,g2,rfl⟩
  | 1,hx=>cases hx;exact ⟨_,_,rfl,g2,_,_,rfl,g1,rfl⟩
  | k+2,hx=>cases hx
 ·exact b9c l2 b off v1 v2 v3 v4 R w ⟨hc 1 (by omega),hc 2 (by omega),hc 3 (by omega),hc 4 (by omega)⟩ J hY W hW h0
theorem a5L (W:World) (l:Lt):AFun Tryz.prog W 55 [l.cw] (.val (.fn 81 0 [.ptr l.cw])):=by
 refine a9 (rs:=[.fn 81 0 [.ptr l.cw]]) Tryz.func55 Tryz.ntmps55 rfl rfl rfl rfl ?_;intro w U hW;refine aS (aR ?_);refine nc zd (nc ze ?_);refine AWp.wk (A4 1 rfl rfl rfl (s':=[]) trivial rfl rfl rfl) ?_;refine aS (aR ?_);refine nc zA (nc ze ?_);exact aT ⟨.inr rfl,rfl⟩
end
theorem a9M:(Tryz.prog.info? 44).map (fun i=>(i.zero,i.size,i.bytes))=some (some (.agg #[.bool false,.int .i64 0,.slice none 0 0,.int .i64 0,.slice none 0 0]),5,72):=by kernel_rfl
set_option maxRecDepth 100000 in
set_option maxHeartbeats 400000 in
theorem b3M (n:Nat) (hn:n<=2199023255552) (w:World) :
  Calls Tryz.prog 76 #[.slice none 0 0,.int .i64 (n:Int)] w fun e w'=>∃ v,e = .returned v/\w'.ownsRow w.heap.size 44 5 v 0 []/\Below w.heap.size w w':=by
 obtain ⟨i,dC,iE,eL,lG⟩:=info_parts a9M;rcases Nat.eq_zero_or_pos n with rfl | h0
 ·go_enter Tryz.func76,Tryz.ntmps76
  go_wp2
  go_ret
  exact ⟨_,rfl,World.ownsRow_nil _ _ _ _,bW _⟩
 ·have hr:=Lib.run_append_nil_zeros (P:=Tryz.prog) w 26 3 26 44 i (.agg #[.bool false,.int .i64 0,.slice none 0 0,.int .i64 0,.slice none 0 0]) .i64 .i64 Tryz.underlying26 Tryz.underlying3 dC iE n h0 (by rw [eL];omega) (by omega) (by rw [lG];omega)
  go_enter Tryz.func76,Tryz.ntmps76
  go_wp2_with (at_builtin;refine Lib.wpList_append_run _ rfl _ _ _ _ rfl _ _ rfl rfl _ _ hr ?_)
  go_wp2
  go_ret
  refine ⟨_,rfl,World.ownsRow_made w.drew _ _ (Nat.le_refl _) (grownCap_le_maxLen _ _ _ _ (by unfold maxLen;omega)) ?_,(Below.refl _ _).drew.alloc (Nat.le_refl _) _⟩;have:=grownCap_ge w n 0 44;simp [size_zeroCells]
  try omega
set_option maxRecDepth 100000 in
set_option maxHeartbeats 800000 in
theorem a8N (a:Option Addr) (m c:Nat) (A:Nat->Option Addr) (L C:Nat->Nat) (R:Nat->List Value) (w:World) (hr:Rw 5 w a m A L C R) (hm:m<=1000) (hs:b1z L m<=1099511627776) :
  Calls Tryz.prog 51 #[.slice a m c] w fun e w'=>∃ v,e = .returned v/\w'.ownsRow w.heap.size 44 5 v (b1z L m) (b0C R m)/\Below w.heap.size w w':=by
 obtain ⟨J,hJ⟩:∃ J:Nat->List Value,J=b0C R:=⟨_,rfl⟩
 obtain ⟨N,hN⟩:∃ N:Nat->Nat,N=b1z L:=⟨_,rfl⟩
 have HS:Hid (∀ k,J (k+1)=J k++R k):=fun k=>by rw [hJ];rfl
 have HSN:Hid (∀ k,N (k+1)=N k+L k):=fun k=>by rw [hN];rfl
 have HJ0:Hid (J 0=[]/\N 0=0):=by rw [hJ,hN];exact ⟨rfl,rfl⟩
 have HL:Hid (∀ k,k<=m->N k<=1099511627776):=fun k hk=>by rw [hN];exact Nat.le_trans (b8s L hk) hs
 have HR:Hid (∀ B w',Below B w w'->w.heap.size<=B->Rw 5 w' a m A L C R):=fun B w' hb hB=>hr.below hb hB;have HR0:Hid (Rw 5 w a m A L C R):=hr;rw [<-hJ,<-hN];clear hJ hs hr hN
 go_enter Tryz.func51,Tryz.ntmps51
 go_wp2
 go_loop [3,11] (fun s i=>∃ k x:Nat,i = .int .i64 (k:Int)/\k<=m/\s = .int .i64 (x:Int)/\x=N k) (fun s i=>m-(intOf i).toNat)
 case atStart=>exact ⟨0,0,rfl,by omega,rfl,by rw [HJ0.out.2]⟩
 case round =>
  obtain ⟨k,x,rfl,hk,rfl,hx⟩:=hrel;have HX:Hid (x=N k):=hx;have lT:x<=1099511627776:=by rw [hx];exact HL.out k hk
  clear hx;by_cases kA:k<m
  ·rcases HR0.out.2 with h0 | ⟨b,off,rfl,hb,hc⟩
   ·omega
   have eZ:=hc k kA;have HXX:Hid (x+L k=N (k+1)):=by show x+L k=_;rw [HSN.out k,<-HX.out]
   have oM:x+L k<=1099511627776:=by rw [HXX.out];exact HL.out (k+1) kA
   obtain ⟨Lk,fX⟩:∃ y,L k=y:=⟨_,rfl⟩
   obtain ⟨Ak,tN⟩:∃ y,A k=y:=⟨_,rfl⟩
   obtain ⟨Ck,uK⟩:∃ y,C k=y:=⟨_,rfl⟩
   rw [fX] at HXX oM;rw [fX,tN,uK] at eZ;clear fX tN uK hc
   go_wp2
   refine ⟨⟨k+1,x+Lk,by go_num,by omega,by go_num,HXX.out⟩,?_⟩;simp [intOf];omega
  ·obtain rfl:k=m:=by omega
   go_wp2_with fail
   refine (b3M x (by omega) w).mono ?_;rintro e w1 ⟨v1,rfl,sC,gC⟩
   go_wp2
   go_loopw [6,27] (fun u i wr=>∃ j:Nat,i = .int .i64 (j:Int)/\j<=k/\wr.ownsRow w.heap.size 44 5 u (N j) (J j)/\Below w.heap.size w wr) (fun _ i _=>k-(intOf i).toNat)
   case atStart=>exact ⟨0,rfl,by omega,by rw [HJ0.out.1,HJ0.out.2];exact sC,gC⟩
   case round =>
    obtain ⟨j,rfl,hj,yV,xM⟩:=hrel;by_cases kA:j<k
    ·obtain ⟨cC,dG,uA,fR⟩:=(HR.out _ _ xM (Nat.le_refl _)).1 j kA;rcases (HR.out _ _ xM (Nat.le_refl _)).2 with h0 | ⟨b,off,rfl,hb,hc⟩
     ·omega
     have eZ:=hc j kA;have hJl:N j+L j<=1099511627776:=by have:=HL.out (j+1) kA;rw [HSN.out j] at this;exact this
     have HSj':Hid (J (j+1)=J j++R j/\N (j+1)=N j+L j):=⟨HS.out j,HSN.out j⟩
     obtain ⟨Lk,fX⟩:∃ y,L j=y:=⟨_,rfl⟩
     obtain ⟨Ak,tN⟩:∃ y,A j=y:=⟨_,rfl⟩
     obtain ⟨Ck,uK⟩:∃ y,C j=y:=⟨_,rfl⟩
     obtain ⟨Rk,oP⟩:∃ y,R j=y:=⟨_,rfl⟩
     obtain ⟨Jk,hJk⟩:∃ y,J j=y:=⟨_,rfl⟩
     obtain ⟨Nk,yW⟩:∃ y,N j=y:=⟨_,rfl⟩
     rw [tN,oP] at dG;rw [oP] at fR;rw [fX,oP] at uA;rw [fX,tN,uK] at eZ;rw [fX,tN,uK] at cC;rw [hJk,oP,yW,fX] at HSj';rw [hJk,yW] at yV;rw [yW,fX] at hJl;have kD:=xM.size;have HRl:=hid uA;clear fX tN uK oP hJk yW hc uA
     go_wp2_with (at_builtin;refine X4 _ rfl _ _ 26 rfl w.heap.size 44 (.agg #[.bool false,.int .i64 0,.slice none 0 0,.int .i64 0,.slice none 0 0]) 5 72 Tryz.underlying26 a9M rfl (by decide) _ Nk Jk rfl yV Ak Lk Ck Rk rfl cC dG HRl.out fR ?d1 ?d2 kD ?_)
     case d1=>unfold maxLen;omega
     case d2=>omega
     intro v2 w2 mS yT;have kZ:=xM.trans (a8l yV yT kD);clear yT
     go_wp2
     go_roundw
     case rel=>exact ⟨j+1,by go_num,kA,by rw [HSj'.out.1,HSj'.out.2];exact mS,kZ⟩
     case measure=>simp [intOf];omega
    ·obtain rfl:j=k:=by omega
     go_wp2
     go_ret
     exact ⟨_,rfl,yV,xM⟩
theorem b0k {U:Nat->Nat->Prop} {w:World}:∀ {l:List (List Lt)} {ys:List Value},Sq ((l.map fun x=>CV.lst (x.map Lt.cv)).map fun c=>Rep U w c) ys ->
  ∃ (A:Nat->Option Addr) (L C:Nat->Nat) (R:Nat->List Value),∀ r x,l[r]?=some x->ys[r]?=some (.slice (A r) (L r) (C r))/\L r=x.length/\(A r=none->L r=0/\C r=0)/\At U w (A r) (R r)/\Sq ((x.map Lt.cv).map fun c=>Rep U w c) (R r)
 | [],ys,h=>⟨fun _=>none,fun _=>0,fun _=>0,fun _=>[],fun r x hx=>by simp at hx⟩
 | x::l,ys,h=>by
  obtain ⟨y1,y2,rfl,h1,h2⟩:=h;obtain ⟨a,n,c,rfl,g1,g2,g3,g4,zs,g5,g6⟩:=T5.1 h1;obtain ⟨A,L,C,R,hR⟩:=b0k (l:=l) h2;refine ⟨fun r=>match r with | 0=>a | r+1=>A r,fun r=>match r with | 0=>n | r+1=>L r,fun r=>match r with | 0=>c | r+1=>C r,fun r=>match r with | 0=>zs | r+1=>R r,fun r y hy=>?_⟩;cases r with
  | zero =>
   simp at hy;subst hy;exact ⟨rfl,by rw [g1,length_map],g4,g5,g6⟩
  | succ r =>
   simp at hy;exact hR r y hy
theorem b1m {U:Nat->Nat->Prop} {w:World} {l:List (List Lt)} {L:Nat->Nat} {R:Nat->List Value} (h:∀ r x,l[r]?=some x->L r=x.length/\Sq ((x.map Lt.cv).map fun c=>Rep U w c) (R r)) :
  ∀ k,k<=l.length->Sq (((l.take k).flatten.map Lt.cv).map fun c=>Rep U w c) (b0C R k)/\b1z L k=(l.take k).flatten.length:=by
 intro k
 induction k with
 | zero=>intro _;exact ⟨rfl,rfl⟩
 | succ k ih =>
  intro hk;obtain ⟨h1,h2⟩:=ih (by omega);obtain ⟨x,hx⟩:∃ x,l[k]?=some x:=⟨l[k],getElem?_eq_getElem (by omega)⟩
  obtain ⟨h3,h4⟩:=h k x hx;rw [take_add_one,hx,List.flatten_append,b0C,b1z,map_append,map_append,length_append,h2,h3];simp only [Option.toList_some,List.flatten_cons,List.flatten_nil,append_nil];exact ⟨B9 h1 h4,trivial⟩
theorem a8x (W:World) (l:List (List Lt)) (hl:l.length<=1000) (hs:l.flatten.length<=1099511627776):AFun Tryz.prog W 51 [.lst (l.map fun x=>CV.lst (x.map Lt.cv))] (.val (.lst (l.flatten.map Lt.cv))):=by
 refine ⟨C7 Tryz.func51 rfl rfl,.inl rfl,rfl,?_⟩;rintro U w vs hW ⟨u1,us1,rfl,h1,h3⟩;have h3:us1=[]:=h3;subst h3;obtain ⟨a,n,c,rfl,g1,g2,g3,g4,ys,g5,g6⟩:=l4.1 h1;rw [length_map] at g1;subst g1;obtain ⟨A,L,C,R,hR⟩:=b0k g6;obtain ⟨hj,hn⟩:=b1m (fun r x hx=>⟨(hR r x hx).2.1,(hR r x hx).2.2.2.2⟩) l.length (Nat.le_refl _);rw [take_length] at hj hn;have hrw:Rw 5 w a l.length A L C R:=by
  refine ⟨fun r hr=>?_,?_⟩
  ·obtain ⟨k1,k2,k3,k4,k5⟩:=hR r _ (getElem?_eq_getElem hr);refine ⟨k3,b0g k4,?_,R4 k5⟩;rw [C9 (n:=fun _=>5) (fun c hc xs hx=>by obtain ⟨t,ht,rfl⟩:=mem_map.1 hc;rw [hx.len];exact Lt.size_all [t] _ (by simp)) k5,k2]
   rw [List.map_const',List.sum_replicate_nat];simp
  ·by_cases hz:l.length=0
   ·exact .inl hz
   ·refine .inr ?_;have hc:=b0g g5;have rA:=(hR 0 _ (getElem?_eq_getElem (by omega:0<l.length))).1;rcases hc with hc | ⟨b,off,ha,hb,hc⟩
    ·rw [hc] at rA;simp at rA
    ·refine ⟨b,off,ha,hb,fun r hr=>?_⟩;have hy:=(hR r _ (getElem?_eq_getElem hr)).1;have kA:r<ys.length:=by
      rcases Nat.lt_or_ge r ys.length with h | h
      ·exact h
      ·rw [List.getElem?_eq_none h] at hy;cases hy
     rw [hc r kA,hy]
 refine (a8N a l.length c A L C R w hrw hl (by rw [hn];exact hs)).mono ?_;rintro e w' ⟨v,rfl,ho,hb⟩;obtain ⟨a',c',rfl,k1,k2,k3,k4⟩:=b0B ho;refine ⟨_,rfl,l4.2 ⟨a',_,c',rfl,by rw [hn,length_map],k1,k2,k3,_,k4.keep fun b o v h1 h2=>⟨.inr h1,h2⟩,hj.keep fun b o v h1 h2=>⟨.inl h1,?_⟩⟩,hb⟩;rw [hb.cell (World.block_lt_of_cell? w _ h2)];exact h2
def b2l:List (Option (List Value))->Option (List Value)
 | []=>some []
 | none::_=>none
 | some x::r=>match b2l r with | some y=>some (x++y) | none=>none
def plS (k:Nat) (v:Value) (l:List CV) (r:Option (List Value)):Option (List Value):=match k,v,l with
 | 0,v,[]=>match N1 v,G4 v with | true,false=>some [v] | _,_=>none
 | 1,.nilFunc,[]=>some [.slice none 0 0]
 | 2,.nilFunc,_=>r
 | _,_,_=>none
def plC:Nat->CV->Option (List Value)
 | 0,_=>none
 | n+1,⟨k,v,l⟩=>plS k v l (b2l (l.map (plC n)))
theorem a2s {U:Nat->Nat->Prop} {w:World} {n:Nat} (ih:∀ c vs,plC n c=some vs->Rep U w c vs/\vs.length=c.size):∀ {zs:List CV} {vs:List Value},b2l (zs.map (plC n))=some vs->∃ segs:List (List Value),segs.flatten=vs/\segs.map List.length=zs.map CV.size/\zs.length=segs.length/\∀ (i:Nat) (c:CV),zs[i]?=some c->∃ seg,segs[i]?=some seg/\Rep U w c seg
 | [],vs,h=>by
  simp [b2l] at h;subst h;exact ⟨[],rfl,rfl,rfl,fun i c hi=>by simp at hi⟩
 | z::zs,vs,h=>by
  rw [map_cons] at h;cases hz:plC n z with
  | none=>rw [hz] at h;simp [b2l] at h
  | some x =>
   rw [hz] at h;unfold b2l at h;split at h
   ·rename_i y hy;cases h;obtain ⟨segs,a1,a2,a3,a4⟩:=a2s ih hy;obtain ⟨b1,b2⟩:=ih z x hz;refine ⟨x::segs,by simp [a1],by simp [a2,b2],by simp [a3],fun i c hi=>?_⟩;cases i with
    | zero=>simp at hi;subst hi;exact ⟨x,rfl,b1⟩
    | succ i=>obtain ⟨seg,c1,c2⟩:=a4 i c (by simpa using hi);exact ⟨seg,by simpa using c1,c2⟩
   ·cases h
theorem a4R {U:Nat->Nat->Prop} {w:World}:∀ (n:Nat) (c:CV) (vs:List Value),plC n c=some vs->Rep U w c vs/\vs.length=c.size
 | 0,c,vs,h=>by cases h
 | n+1,⟨k,v,l⟩,vs,h=>by
  rw [plC] at h;unfold plS at h;split at h
  ·split at h
   ·rename_i h1 h2;cases h;exact ⟨(X3 h1).2 h2,rfl⟩
   ·cases h
  ·cases h;exact ⟨a7E U w,rfl⟩
  ·obtain ⟨segs,a1,a2,a3,a4⟩:=a2s (fun c vs h=>a4R (U:=U) (w:=w) n c vs h) h;refine ⟨?_,?_⟩
   ·show Rep U w (.row l) vs;rw [E8,<-a1];exact G9 a3 a4
   ·rw [CV.size_mk,if_pos rfl,<-a1,List.length_flatten,a2]
  ·cases h
section
variable {P:Program} {w0:World} {U0:UX} {nt:Nat} {ops:Array Oper} {o:Oper} {S:Nat->Option AV} {gs:List Nat} {d:Nat}
theorem b7d (zs:List CV) (hg:Gd w0 U0 nt ops o gs S) (hd:o.dst=some d) (hn:Nat.blt d nt=true) (h5:Nat.blt d 100000=true) {ty:TypeId} {it:TypeInfo} {cs:Array Value} (ho:o.op = .alloc ty) (hi:P.info? ty=some it) (hz:it.zero=some (.agg cs)) (h0:plC 6 (.row zs)=some cs.toList):AOp P w0 U0 nt ops o gs [(d,[])] S [(d,.bp d 0 []),(100000+d,.bx (.row zs))]:=by
 intro s hs hN a w ⟨D,hv,h⟩ Q K hK;rw [if_pos (hg s hs a w D hv h)];have gQ:Rep (Us w0 U0 D) w (.row zs) cs.toList:=(a4R 6 _ _ h0).1;have he:(execOp a.eval o).run P w = .ok (.value (.pointer (some ⟨w.heap.size,0,none⟩))) (w.alloc (.cells cs ty)):=by simp [execOp,ho,Instr.alloc,zeroValue,typeInfo,hi,hz,E0,Value.cells]
 unfold Oper.wp;rw [he,Oper.upon_value,hd];have:=h.newbox (d:=d) (av := .bx (.row zs)) (hN (d,[]) (by simp)).nr (bL hn) (bL h5) (.inl rfl) ty (fun _=>gQ) (fun _ hl=>absurd hl v8);rw [Array.toArray_toList] at this;exact hK _ _ ⟨_,_,this⟩
theorem zbM {P:Program} {w0:World} {U0:UX} {nt:Nat} {ops:Array Oper} {o:Oper} {S:Nat->Option AV} {gs:List Nat} {d:Nat} {ty:TypeId} {it:TypeInfo} {cs:Array Value} (zs:List CV) (p:Gd w0 U0 nt ops o gs S:=by exact gN rfl) (q:o.dst=some d:=by exact rfl) (r:Nat.blt d nt=true:=by exact rfl) (t:Nat.blt d 100000=true:=by exact rfl) (u:o.op = .alloc ty:=by exact rfl) (v:P.info? ty=some it:=by exact rfl) (x:it.zero=some (.agg cs):=by exact rfl) (y:plC 6 (.row zs)=some cs.toList:=by exact rfl):AOp P w0 U0 nt ops o gs [(d,[])] S [(d,.bp d 0 []),(100000+d,.bx (.row zs))]:=b7d zs p q r t u v x y
theorem b7e (zs:List CV) (hg:Gd w0 U0 nt ops o gs S) (hd:o.dst=some d) (hn:Nat.blt d nt=true) (h5:Nat.blt d 100000=true) {t:TypeId} {parts:Array (Nat×Operand)} {fs:Array Field} {it:TypeInfo} {cs:Array Value} {sz:List Nat} {r:List CV} (ho:o.op = .build t parts) (hu:P.underlying t=some (.struct fs)) (hi:P.info? t=some it) (hz:it.zero=some (.agg cs)) (kD:szO P fs.toList 0=some sz) (sF:zs.map CV.size=sz) (h0:b2l (zs.map (plC 6))=some cs.toList) (hr:N8 S parts.toList zs=some r) :
  AOp P w0 U0 nt ops o (gs++rds parts.toList) [] S [(d,.val (.row r))]:=
 i9 hg hd hn h5 (fun k hk=>List.mem_append_left _ hk) fun s hs a w D hv hm=>by
  obtain ⟨segs,e1,e2,e4,e5⟩:=a2s (U:=Us w0 U0 D) (w:=w) (a4R 6) h0;obtain ⟨g1,g2⟩:=T0 (U:=Us w0 U0 D) (w:=w) (ρ:=a.eval) (segs:=segs) hr (fun x hx c n q p rE=>A0 hm (fun k hk=>hs k (List.mem_append_right _ (a3l hx k hk))) rE) e4 e2 e5;obtain ⟨pl,h1,h2⟩:=a4P kD;have iG:=Z2 (place:=fun i=>pl.toArray[i]?) sz (fun i z hz=>by rw [List.getElem?_toArray,h2 i z hz,Nat.zero_add]) (parts.toList.map fun x=>(x.1,a.eval x.2)) segs cs e1.symm (by rw [e2,sF]) (fun x hx=>by rw [<-sF];exact g1 x hx);refine ⟨.agg (E7 segs (parts.toList.map fun x=>(x.1,a.eval x.2))).flatten.toArray,?_,l5 (I6.2 ⟨_,rfl,g2⟩)⟩;have hb:P.built t (parts.map fun x=>(x.1,a.eval x.2)).toList=some (E7 segs (parts.toList.map fun x=>(x.1,a.eval x.2))).flatten.toArray:=by unfold Program.built;rw [hi,hu];simp only [hz,h1];rw [Array.toList_map];exact iG
  have:=run_build w t _ _ hb;generalize a.eval=ρ at this |-;simp [execOp,ho,this]
theorem zbL {P:Program} {w0:World} {U0:UX} {nt:Nat} {ops:Array Oper} {o:Oper} {S:Nat->Option AV} {gs:List Nat} {d:Nat} {t:TypeId} {parts:Array (Nat×Operand)} {fs:Array Field} {it:TypeInfo} {cs:Array Value} {sz:List Nat} {r:List CV} (zs:List CV) (u:Gd w0 U0 nt ops o gs S:=by exact gN rfl) (v:o.dst=some d:=by exact rfl) (y:Nat.blt d nt=true:=by exact rfl) (A:Nat.blt d 100000=true:=by exact rfl) (B:o.op = .build t parts:=by exact rfl) (C:P.underlying t=some (.struct fs):=by exact rfl) (E:P.info? t=some it:=by exact rfl) (F:it.zero=some (.agg cs):=by exact rfl) (G:szO P fs.toList 0=some sz:=by exact rfl) (H:zs.map CV.size=sz:=by exact rfl) (h0:b2l (zs.map (plC 6))=some cs.toList:=by exact rfl) (hr:N8 S parts.toList zs=some r:=by exact rfl):AOp P w0 U0 nt ops o (gs++rds parts.toList) [] S [(d,.val (.row r))]:=b7e zs u v y A B C E F G H h0 hr
end
theorem b5A {c:List Lt} {s:Tm}:s∈G8 c↔∃ l∈c,s=l.a\/s=l.b:=by
 unfold G8;rw [mem_flatMap];constructor
 ·rintro ⟨l,hl,h⟩;exact ⟨l,hl,by simpa using h⟩
 ·rintro ⟨l,hl,h⟩;exact ⟨l,hl,by simpa using h⟩
section
variable {P:Program} {w0:World} {U0:UX} {nt:Nat} {s:AS}
theorem b8L (k n e0 z:Nat) (hk:Nat.ble 500000 k=true) (hn:(Nat.ble 200000 n&&Nat.blt n 400000)=true) (hz:Nat.blt 0 z=true) (hs:look s k=some ⟨0,.lst [],1,0,[]⟩) (hr:A6 s [(n,[])]=true) (oC:R6 s n=true):Wk w0 U0 nt s ((k,.sl n 0 0 z)::(n,.mrow e0 z [])::s):=by
 rintro a w ⟨D,hv,h⟩;have hk5:=Nat.le_of_ble_eq_true hk;have kN:=rnB hn;have fQ:RN n:=RW.rn kN;unfold RW at kN;have sN:look s n=none:=by
  cases e:look s n with
  | none=>rfl
  | some av =>
   unfold R6 at oC;rw [List.all_eq_true] at oC;have:=oC _ (B7 e);simp [Nat.beq_refl] at this
 have jR:R8 s n:=(q7 hr (n,[]) (by simp)).nr;obtain ⟨kH,bI⟩:∃ kH:Nat->Value,kH=fun x=>if x=n then .slice none 0 0 else hv x:=⟨_,rfl⟩
 have kP:∀ x,x≠n->kH x=hv x:=fun x hx=>by rw [bI];simp only [if_neg hx]
 have bJ:kH n = .slice none 0 0:=by rw [bI];simp
 obtain ⟨s',gL⟩:∃ s',s'=(k,AV.sl n 0 0 z)::(n,AV.mrow e0 z [])::s:=⟨_,rfl⟩
 rw [<-gL];have kC:∀ x,x≠k->x≠n->look s' x=look s x:=fun x h1 h2=>by rw [gL,lN (Ne.symm h1),lN (Ne.symm h2)]
 have oE:look s' k=some (.sl n 0 0 z):=by rw [gL,lS]
 have oF:look s' n=some (.mrow e0 z []):=by rw [gL,lN (by omega),lS]
 have hl:∀ q e,r7 s' q e↔r7 s q e:=fun q e=>by
  unfold r7;by_cases e1:q=k
  ·omega
  ·by_cases e2:q=n
   ·subst e2;rw [oF,sN];constructor<;>(rintro ⟨h1,_⟩;cases h1)
   ·rw [kC q e1 e2]
 have kL:a8 s'=a8 s:=by funext q;simp only [a8,hl]
 have lI:∀ {k' av v},look s k'=some av->AVRep (Us w0 U0 D) w hv (a8 s) av v->AVRep (Us w0 U0 D) w kH (a8 s) av v:=fun {k' av v} h1 h2 =>
  h2.move (fun _ _ _ h1 h2=>⟨h1,h2⟩) (fun _ h=>h) fun h3=>kP _ (a2e fQ (jR k' av h1).1 h3)
 refine ⟨D,kH,h.below,h.dfr,h.size,fun d av g1 g2=>?_,fun m o av g1 g2 g3 g4=>?_,fun m o o' av av' g1 g2 g3 g4 g5=>?_,fun k' av g1 g2=>?_,fun k' av g g1 g2 g3 g4=>?_,fun k' k2 av av' g g1 g2 g3 g4 g5 g6 g7 g8=>?_,fun k' v g1=>?_,h.dlt⟩
 ·rw [kC d (by omega) (by omega)] at g1;rw [kL];obtain ⟨v,h1,h2⟩:=h.slot d av g1 g2;exact ⟨v,h1,lI g1 h2⟩
 ·have jH:=F0 g4;unfold k7 at jH;unfold BN at g4;rw [kC (100000+m) (by omega) (by omega)] at g3;rw [kL,kP (100000+m) (by omega)];by_cases e:d9 m o=k
  ·rw [e,oE] at g1;cases g1;obtain ⟨v,h1,h2,h3⟩:=h.fld m o _ (by rw [e];exact hs) g2 g3 g4;have lO:v = .slice none 0 0:=by obtain ⟨q1,q2⟩:VRep (Us w0 U0 D) w (.lst []) v/\Tk hv (a8 s) ⟨0,.lst [],1,0,[]⟩ v.cells.toList:=h1;obtain ⟨mm,c,f1,f2⟩:=q2 (.inl rfl);simp only at f1;rw [Q0] at f1;cases f1;obtain ⟨ao,k,c,e1,_⟩:=l4.1 q1;rw [e1] at f2 |-;simpa [Value.cells,H5] using f2
   subst lO;refine ⟨.slice none 0 0,⟨fQ,?_⟩,rfl,h3⟩;show SlV (kH n) 0 0 z (.slice none 0 0);rw [bJ];exact N7 rfl (Nat.le_refl _) (.inl rfl)
  ·rw [kC _ e (by unfold d9;omega)] at g1;obtain ⟨v,h1,h2,h3⟩:=h.fld m o av g1 g2 g3 g4;exact ⟨v,lI g1 h1,h2,h3⟩
 ·have conv:∀ o (av:AV),look s' (d9 m o)=some av->∃ av',look s (d9 m o)=some av'/\av'.sz=av.sz:=fun o av f1=>by
   by_cases e:d9 m o=k
   ·rw [e,oE] at f1;cases f1;exact ⟨⟨0,.lst [],1,0,[]⟩,by rw [e];exact hs,rfl⟩
   ·rw [kC _ e (by unfold d9;omega)] at f1;exact ⟨av,f1,rfl⟩
  obtain ⟨a1,b1,c1⟩:=conv o av g1
  obtain ⟨a2,b2,c2⟩:=conv o' av' g2
  rw [<-c1];exact h.fdis m o o' a1 a2 b1 b2 g3 g4 g5
 ·unfold k7 at g2;rw [kL];by_cases e:k'=n
  ·subst e;rw [oF] at g1;cases g1;rw [bJ];exact ⟨[],World.ownsRow_nil _ _ _ _,bL hz,(fun c hc=>by cases hc),rfl⟩
  ·rw [kC k' (by omega) e] at g1;rw [kP k' e];exact (h.obj k' av g1 g2).move (fun _ _ _ h1 h2=>⟨h1,h2⟩) (fun ht hl=>⟨hl,by
    unfold H5;rw [kP _ (jR k' av g1).1]⟩) (fun _ _=>rfl)
 ·unfold k7 at g2;by_cases e:k'=n
  ·subst e;rw [bJ] at g4;cases g4
  ·rw [kC k' (by omega) e] at g1;rw [kP k' e] at g4 |-;exact h.blk k' av g g1 g2 g3 g4
 ·unfold k7 at g3 g4;by_cases e:k'=n
  ·subst e;rw [bJ] at g8;cases g8
  ·by_cases e2:k2=n
   ·subst e2;rw [bJ];intro h9;cases h9
   ·rw [kC k' (by omega) e] at g1;rw [kC k2 (by omega) e2] at g2;rw [kP k' e] at g8;rw [kP k2 e2];exact h.disj k' k2 av av' g g1 g2 g3 g4 g5 g6 g7 g8
 ·have:=U0.hf k' v g1;rw [kP k' (by omega)];exact h.fix k' v g1
end
theorem b3d {k:Nat}:∀ (l:List Nat) {ns:List Nd} {o:List Nat} {q},U2 k l ns o=some q->pw q.1=pw ns
 | [],ns,o,q,e=>by cases e;rfl
 | p::l,ns,o,q,e=>by
  rw [U2] at e;cases h:n5 k ns p with
  | none=>rw [h] at e;cases e
  | some q1 =>
   rw [h] at e;rw [b3d l e,b8a,T4 k h]
theorem b7p {k:Nat}:∀ (j i:Nat) {c:Cl} {o:List Nat} {q},a2Q k j i c o=some q->pw q.1.ns=pw c.ns
 | 0,_,_,_,_,e=>by cases e
 | j+1,i,c,o,q,e=>by
  rw [a2Q] at e;split at e
  ·cases e;rfl
  ·rename_i g hg;split at e
   ·cases e
   ·rename_i q1 h1;rw [b7p j _ e];show pw q1.1=_;rw [b3d _ h1,I5]
theorem c0C {c:Cl} {H r:Nat->Nat} {a b:Tm} (h:ClsC c H r [(a,b)]) (hv:O6 c.vr) (ha:a.ten) (hb:b.ten) (hn:c.ns.length<=a.size+b.size):c.vr.length<20:=by
 have hnd:(c.vr.map Prod.snd).Nodup:=by have h1:c.vr.Pairwise (fun a b=>a.1≠b.1):=List.pairwise_map.1 hv.1;refine List.pairwise_map.2 (List.Pairwise.imp_of_mem (fun {a b} ha hb mY e=>mY ?_) h1);have e1:=(h.vrt a.1 a.2 (F2 hv.1 ha)).2;have e2:=(h.vrt b.1 b.2 (F2 hv.1 hb)).2;rw [e] at e1;omega
 have kA:∀ x∈c.vr.map Prod.snd,x<c.ns.length/\(nT c.ns x).f<0:=fun x hx=>by obtain ⟨p,hp,rfl⟩:=mem_map.1 hx;have h1:=h.vrt p.1 p.2 (F2 hv.1 hp);have h2:=hv.2 p hp;refine ⟨h1.1,?_⟩;rw [h1.2];omega
 obtain ⟨n,m,h1,h2,e1,e2,_⟩:=h.pair (a,b) (by simp);have e1:nT c.ns n=a:=e1;have e2:nT c.ns m=b:=e2;have more:∀ x,x<c.ns.length->¬ (nT c.ns x).f<0->c.vr.length+1<=c.ns.length:=fun x hx hf=>by
  have:=a1A c.ns.length (l:=x::c.vr.map Prod.snd) (List.nodup_cons.2 ⟨fun hm=>hf (kA x hm).2,hnd⟩) (fun y hy=>by
   rcases mem_cons.1 hy with rfl | hy
   ·exact hx
   ·exact (kA y hy).1)
  simpa using this
 have cV:=c0S h hv;have dZ:=ha.2;have fP:=hb.2;by_cases f1:a.f<0
 ·by_cases f2:b.f<0
  ·have s1:=Tm.size_var f1;have s2:=Tm.size_var f2;omega
  ·have:=more m h2 (by rw [e2];exact f2);omega
 ·have:=more n h1 (by rw [e1];exact f1);omega
set_option maxHeartbeats 2000000 in
theorem a8E (W:World) (a b:Tm) (ha:a.ten) (hb:b.ten) (l:List (Tm×Tm)) (cV:l=[(a,b)]) (r:List Bd×Bool) (hT:ToldU l r):AFun Tryz.prog W 49 [.lst (l.map prv)] (.tup [.lst (r.1.map Bd.cv),.b r.2]):=by
 have hl:∀ p∈l,(p.1.rng/\p.1.ok)/\(p.2.rng/\p.2.ok):=fun p hp=>by rw [cV,mem_singleton] at hp;rw [hp];exact ⟨ha.1,hb.1⟩
 have hpz:b0J l=a.size+b.size:=by rw [cV];unfold b0J;simp
 have tS:b0J l<=1000:=by have:=ha.2;have:=hb.2;omega
 obtain ⟨k,j,e1,f1,f2⟩:=b1A l;have hj:=e1 k (Nat.le_refl _);have yC:=a6M k l j hj hl tS;refine a9 (rs:=[.lst (r.1.map Bd.cv),.b r.2]) Tryz.func49 Tryz.ntmps49 rfl rfl rfl rfl ?_;intro w U hW;refine aS (aR ?_);refine nc ze (nc ze ?_);refine aS (aR ?_);refine nc (zX (z:=b6i) (G:=fun k v h=>by first | (rw [hW.1] at h;cases h) | (have h2:=hU k v h;cases h2))) ?_;refine nc ze ?_;refine aS (aS (aR ?_));refine nc zl (nc zl (nc (zX (z:=yC) (G:=j8 (by first | rfl | kernel_rfl))) (nc zF ?_)));cases vT:j.2 with
 | false =>
  rw [hT.no (f1 vT)];refine aC rfl (fun hc=>?_) (fun hc=>by cases hc);refine aS (aR ?_);refine nc ze (nc ze ?_);exact aT (And.intro (.inr rfl) rfl)
 | true =>
  obtain ⟨cn,od,H,r',e2,g1,g2,g3,ki,hcn,n1,n2⟩:=f2 vT;obtain ⟨e3,e4⟩:=e2 k (Nat.le_refl _);obtain ⟨E',hI⟩:=a0R l hj (E:=[]) ⟨⟨id,id,Cls.nil,by show 0+i0 _ 0<=_;simp [i0]⟩,(fun x hx=>by cases hx),by show i0 _ 0<=_;simp [i0]⟩ rfl hl (by show i0 _ 0+_<=_;simpa [i0] using tS) vT;have hF:=hI.fitU;have eO:usB j.1.ns 0:=fun m=>by rw [b1Y hj];exact ⟨Int.le_refl _,Int.le_refl _⟩
  obtain ⟨jK,dY,qC,hhl⟩:=M9 k 0 e3 hF (by simpa using eO) (by omega) (fun h hm=>by cases hm) (Nat.le_refl _);have uI:=b0e k 0 e4 jK (fun h hm=>qC h (List.mem_filter.1 hm).1) (by decide) dY;have hnsl:od.1.ns.length<=1000:=Nat.le_trans (B5 _) uI.big;have oQ:∀ x∈od.2,x<od.1.ns.length:=fun x hx=>(ki.hd x hx).1;have lU:od.2.length<=1000:=Nat.le_trans (a1A _ ki.nd oQ) hnsl;have yX:=b6a k j.1 cn od e3 e4 hF eO lU;have cW:O6 od.1.vr:=b7G k 0 e4 (a4L k 0 e3 (b7r hj ⟨List.nodup_nil,fun p hp=>by cases hp⟩));have bQ:od.1.vr.length<20:=c0C (cV▸g1) cW ha hb (by
   have h1:=b7p k 0 e4;have h2:=a5a k 0 e3;have h3:=b7z hj;have h4:plc l=a.size+b.size:=by rw [cV];unfold plc;simp
   have h5:pw ([]:List Nd)=0:=rfl;have h6:=B5 od.1.ns;have h7:pw (⟨[],[],[]⟩:Cl).ns=0:=rfl;omega)
  have wC:∀ p∈od.1.vr,p.1<=9223372036854775807:=fun p hp=>by obtain ⟨v1,v2⟩:=g1.vrt p.1 p.2 (F2 cW.1 hp);have v3:=((Tm.rng_iff _).1 ((Z1 _).1 uI.trm p.2 v1).1).1;omega
  refine aC rfl (fun hc=>by cases hc) (fun hc=>aK ?_);by_cases h:od.2.length=cn.2.length
  ·have h9:decide ((od.2.length:Int)=cn.2.length)=true:=by rw [h];simp
   rw [h9] at yX;obtain ⟨k1,tm,e5,c1,c5,c2,hm⟩:=n2 h;have wX:=(TI.all (t:=(od.1,List.replicate od.1.ns.length tm0)) (N:=od.1.ns.length) ⟨uI,by simp,Nat.le_refl _⟩ (fun n hn=>oQ n (List.mem_reverse.1 hn)) (e5 k1 (Nat.le_refl _))).1.fit;have wO:=b4c k1 od.1 od.2 tm (e5 k1 (Nat.le_refl _)) uI c2 oQ lU c1 wX (by rw [c5];exact cW) (by rw [c5];omega);refine aS (aR ?_);refine nc zl (nc (zX (z:=yX) (G:=j8 (by first | rfl | kernel_rfl))) (nc zl (nc zx (nc zx (nc ze (nc ze ?_))))));refine aS (aS (aR ?_));refine nc zl (nc zF ?_);refine aC rfl (fun hc=>by cases hc) (fun hc=>aK ?_);refine aS (a8q 2 rfl rfl rfl rfl rfl rfl wO (by kernel_rfl) (fun σ=>by kernel_rfl) (fun σ=>by kernel_rfl) (fun σ=>rfl) (fun σ=>j8 (by kernel_rfl)) ?_);refine nc zl (nc zl ?_);refine ⟨rfl,⟨rfl,rfl,rfl,rfl,rfl,rfl,rfl,trivial⟩,fun σ hσ=>⟨by kernel_rfl,?_⟩⟩;obtain ⟨vr',hp,hσ1⟩:=hσ;rw [c5] at hp;obtain ⟨t1,t2,t3⟩:=b4F hT cW wC hp hσ1 hm;have dQ:σ.1.length<20:=by rw [hσ1,length_map,hp.length_eq];omega
   refine nc (zw (z:=b5n _ σ.1 dQ t3)) (nc ze (nc ze ?_));rw [t1];exact aT (And.intro (.inr rfl) rfl)
  ·have h9:decide ((od.2.length:Int)=cn.2.length)=false:=by rw [decide_eq_false_iff_not];omega
   rw [h9] at yX;rw [hT.no (n1 h)];refine aS (aR ?_);refine nc zl (nc (zX (z:=yX) (G:=j8 (by first | rfl | kernel_rfl))) (nc zl (nc zx (nc zx (nc ze (nc ze ?_))))));refine aS (aS (aR ?_));refine nc zl (nc zF ?_);refine aC rfl (fun hc=>?_) (fun hc=>by cases hc);refine aS (aR ?_);refine nc ze (nc ze ?_);exact aT (And.intro (.inr rfl) rfl)
set_option maxHeartbeats 2000000 in
theorem a8z (W:World) (a b:Tm) (ha:a.ten) (hb:b.ten) (r:List Bd×Bool) (hT:ToldU [(a,b)] r):AFun Tryz.prog W 27 [a.cw,b.cw] (.tup [.lst (r.1.map Bd.cv),.b r.2]):=by
 refine a9 (rs:=[.lst (r.1.map Bd.cv),.b r.2]) Tryz.func27 Tryz.ntmps27 rfl rfl rfl rfl ?_;intro w U hW;refine aS (aR ?_);refine nc zd (nc zd (nc ze (nc ze ?_)));refine aS (aR ?_);refine nc zy (nc zy (nc (zba [2,2]) (nc zC (nc (zw (z:=a8E _ a b ha hb [(a,b)] rfl r hT)) (nc zx (nc zx (nc ze (nc ze ?_))))))));exact aT (And.intro (.inr rfl) rfl)
theorem a2D (W:World) (x y:List Lt) (hl:x.length+y.length<=1000000):AFun Tryz.prog W 51 [.lst [.lst (x.map Lt.cv),.lst (y.map Lt.cv)]] (.val (.lst ((x++y).map Lt.cv))):=by
 have h:=a8x W [x,y] (by simp) (by simp;omega);have e:[x,y].flatten=x++y:=by simp
 rw [e] at h;exact h
theorem V8 (W:World) (c:List Lt) (n:Nat) (hn:n<c.length) (hl:c.length<=100000):AFun Tryz.prog W 29 [.lst (c.map Lt.cv),.i (n:Int)] (.val (.lst ((y7 c n).map Lt.cv))):=by
 have kD:=Lt.size_all c;have gA:=fun w=>a2D w (c.take n) (c.drop (n+1)) (by rw [length_take,List.length_drop];omega);rw [List.map_take,List.map_drop] at gA;have kF:(c.map Lt.cv).length=c.length:=length_map ..;refine a9 (rs:=[.lst ((y7 c n).map Lt.cv)]) Tryz.func29 Tryz.ntmps29 rfl rfl rfl rfl ?_;intro w U hW;refine aS (aR ?_);refine nc ze ?_;refine aS (aD (by kernel_rfl) (by kernel_rfl) ?_);refine nc zl (nc zl (nc zbq (nc zl (nc zl (nc zu (nc (zbr (lo:=n+1)) (nc zC (nc (zw (z:=gA w)) (nc ze ?_)))))))));refine ⟨by kernel_rfl,?_⟩;exact aT (And.intro (.inr rfl) rfl)
theorem b1h (W:World) (l:Lt) (ha:l.a.rng/\l.a.ok/\l.a.size<=29550) (hb:l.b.rng/\l.b.ok/\l.b.size<=29550):AFun Tryz.prog W 56 [l.cw] (.val (.b (a2V l.a l.b))):=by
 have hk:=fun w=>a8W w l.a l.b ha.1 ha.2.1 (by omega) hb.1 hb.2.1 (by omega);obtain ⟨k,kS⟩:∃ k,k=kb l.a l.b:=⟨_,rfl⟩
 have he:a2V l.a l.b=decide (k=1\/k=2):=by rw [kS];rfl
 rw [<-kS] at hk;rw [he];refine a9 (rs:=[.b (decide (k=1\/k=2))]) Tryz.func56 Tryz.ntmps56 rfl rfl rfl rfl ?_;intro w U hW;refine aS (aR ?_);refine nc zd (nc ze ?_);refine aS (aR ?_);refine nc zg (nc zh (nc zg (nc zh (nc (zw (z:=hk w)) (nc ze ?_)))));by_cases h1:k=1
 ·have g:decide (k=1)=true:=decide_eq_true h1;rw [decide_eq_true (Or.inl h1)];refine aS (aR ?_);refine nc zl (nc zt (nc zl (nc zH (nc zH (nc zJ (nc ze ?_))))));exact aT (And.intro (.inr rfl) rfl)
 ·have g:decide (k=1)=false:=decide_eq_false h1;have e:decide (k=1\/k=2)=decide (k=2):=by simp [h1]
  rw [e];refine aS (aR ?_);refine nc zl (nc zt (nc zl (nc (zl (p:=gb)) (nc (zt (r:=gb)) (nc zI (nc ze ?_))))));exact aT (And.intro (.inr rfl) rfl)
theorem b2T {c:List Lt} (hl:c.length<=100000) (h:∀ l∈c,(l.a.rng/\l.a.ok)/\l.b.rng/\l.b.ok):(⟨0,G8 c⟩:Tm).rng/\(⟨0,G8 c⟩:Tm).ok:=by
 have hm:∀ s∈G8 c,s.rng/\s.ok:=fun s hs=>by
  obtain ⟨l,hl,e⟩:=b5A.1 hs;rcases e with rfl | rfl
  ·exact (h l hl).1
  ·exact (h l hl).2
 have kF:=a9V c;exact ⟨(Tm.rng_iff _).2 ⟨by show _<=(0:Int)/\(0:Int)<=_;omega,fun s hs=>(hm s hs).1⟩,(Tm.ok_iff _).2 ⟨by show (G8 c).length<=_;omega,fun s hs=>(hm s hs).2⟩⟩
theorem a1P {c:List Lt} (h:∀ l∈c,l.ten):∀ l∈c,(l.a.rng/\l.a.ok)/\l.b.rng/\l.b.ok:=fun l hl=>⟨(h l hl).1.1,(h l hl).2.1⟩
theorem a0G (W:World) {a b:Tm} (ha:a.ten) (hb:b.ten) (c:List Lt) (hl:c.length<=100000) (hc:∀ l∈c,(l.a.rng/\l.a.ok)/\l.b.rng/\l.b.ok):AFun Tryz.prog W 28 [.lst ((mgT a b).1.map Bd.cv),.lst (c.map Lt.cv)] (.val (.lst ((c.map (Lt.rep (mgS a b))).map Lt.cv))):=by
 have hT:=a1R ha hb;obtain ⟨h1,h2⟩:=b2T hl hc;exact a4F W (mgT a b).1 c (by omega) (by have:=hT.len;omega) hT.bdsOk h1 h2
theorem a4m (W:World) {a b:Tm} (ha:a.ten) (hb:b.ten):AFun Tryz.prog W 27 [a.cw,b.cw] (.tup [.lst ((mgT a b).1.map Bd.cv),.b (mgT a b).2]):=
 a8z W a b ha hb _ (a1R ha hb).told
theorem b0r:∀ t:Tm,b7 (c9 []) t=t.strip:=fun t=>b1C t
theorem b8T (c:List Lt):c.map (Lt.rep (c9 []))=c.map Lt.strip:=by
 refine List.map_congr_left fun l _=>?_;unfold Lt.rep Lt.strip;rw [b0r,b0r]
theorem a6N (W:World) (c:List Lt) (i:Int) (hl:c.length<=100000) (hc:∀ l∈c,(l.a.rng/\l.a.ok)/\l.b.rng/\l.b.ok):AFun Tryz.prog W 18 [.lst (c.map Lt.cv),.i i] (.val (.lst (((if 0<=i/\i<c.length then y7 c i.toNat else c).map Lt.strip).map Lt.cv))):=by
 have dL:∀ (d:List Lt) (w:World),d.length<=100000->(∀ l∈d,(l.a.rng/\l.a.ok)/\l.b.rng/\l.b.ok)->AFun Tryz.prog w 28 [.lst [],.lst (d.map Lt.cv)] (.val (.lst ((d.map Lt.strip).map Lt.cv))):=fun d w h1 h2=>by obtain ⟨g1,g2⟩:=b2T h1 h2;have:=a4F w [] d (by omega) (by simp) (fun b hb=>by cases hb) g1 g2;rw [b8T] at this;exact this
 have kD:=Lt.size_all c;refine a9 (rs:=[.lst (((if 0<=i/\i<c.length then y7 c i.toNat else c).map Lt.strip).map Lt.cv)]) Tryz.func18 Tryz.ntmps18 rfl rfl rfl rfl ?_;intro w U hW;refine aS (aR ?_);refine nc ze ?_;by_cases h0:i>=0
 ·have g0:decide (i>=0)=true:=decide_eq_true h0;by_cases h1:i<c.length
  ·have g1:decide (i<((c.map Lt.cv).length:Int))=true:=decide_eq_true (by rw [length_map];exact h1);obtain ⟨n,rfl⟩:∃ n:Nat,i=(n:Int):=⟨i.toNat,by omega⟩
   rw [if_pos ⟨h0,h1⟩,Int.toNat_natCast];have hn:n<c.length:=by omega
   have lU:=I7 hn;refine aS (aS (aR ?_));refine nc zl (nc zG (nc zl (nc (zl (p:=gb)) (nc (zl (p:=gb)) (nc (zp (r:=gb)) (nc (zi (r:=gb)) (nc zJ ?_)))))));refine aC rfl (fun _=>?_) (fun h=>by rw [g1] at h;cases h);refine aR ?_;refine nc zl (nc zl (nc (zw (z:=V8 w c n hn hl)) (nc ze ?_)));refine aS (aR ?_);refine nc zl ?_;refine nc (zw (z:=dL (y7 c n) w (by omega) (fun l h=>hc l (W9 h)))) ?_;refine nc ze ?_;exact aT (And.intro (.inr rfl) rfl)
  ·have g1:decide (i<((c.map Lt.cv).length:Int))=false:=decide_eq_false (by rw [length_map];exact h1);rw [if_neg (by omega)];refine aS (aS (aR ?_));refine nc zl (nc zG (nc zl (nc (zl (p:=gb)) (nc (zl (p:=gb)) (nc (zp (r:=gb)) (nc (zi (r:=gb)) (nc zJ ?_)))))));refine aC rfl (fun h=>by rw [g1] at h;cases h) (fun _=>aK ?_);refine aS (aR ?_);refine nc zl (nc (zw (z:=dL c w hl hc)) (nc ze ?_));exact aT (And.intro (.inr rfl) rfl)
 ·have g0:decide (i>=0)=false:=decide_eq_false h0;rw [if_neg (by omega)];refine aS (aS (aR ?_));refine nc zl (nc zG (nc zl (nc zH (nc zH (nc zH (nc zH (nc zI ?_)))))));refine aC rfl (fun h=>by cases h) (fun _=>aK ?_);refine aS (aR ?_);refine nc zl (nc (zw (z:=dL c w hl hc)) (nc ze ?_));exact aT (And.intro (.inr rfl) rfl)
noncomputable def V5 (c:List Lt):CV := .lst (c.map Lt.cv)
theorem D8 (L:List (List Lt)):∀ x∈L.map V5,x.size=1:=by
 intro x hx;obtain ⟨c,_,rfl⟩:=mem_map.1 hx;rfl
noncomputable abbrev obE (L:List (List Lt)):AS:=[(450001,.obj),(35500100,.sl 300005 0 L.length 1),(300005,.mrow 26 1 (L.map V5))]
noncomputable abbrev b4Z:List CV:=[.b false,.row [.i 0,.lst []],.row [.i 0,.lst []]]
theorem b4n {p q:Tm×Tm} {L:List (Tm×Tm)} {rest:List Lt} {k:Nat} (h:L[k]?=some q):a8Z p (L.take (k+1)) rest=a8Z p (L.take k) rest++(a9J p q rest).toList:=by
 unfold a8Z;rw [take_add_one,h,List.filterMap_append];congr 1
theorem b3V {p:Tm×Tm} {L:List (Tm×Tm)} {o:Lt} {rest:List Lt} {k:Nat} (h:L[k]?=some p):a1U (L.take (k+1)) o rest=a1U (L.take k) o rest++a8Z p (M2 o) rest:=by
 unfold a1U;rw [take_add_one,h,List.flatMap_append];simp
set_option maxHeartbeats 8000000 in
theorem a6Z (W:World) (l o:Lt) (rest:List Lt) (hl:l.ten) (ho:o.ten) (hr:∀ x∈rest,x.ten) (hrl:rest.length<=1000):AFun Tryz.prog W 33 [l.cw,o.cw,.lst (rest.map Lt.cv)] (.val (.lst ((a1U (M2 l) o rest).map V5))):=by
 have iR:a9T Tryz.prog 81:=C7 Tryz.func81 rfl rfl;have jD:(M2 l).length=2:=rfl;have uL:(M2 o).length=2:=rfl;refine b5j Tryz.func33 Tryz.ntmps33 rfl rfl rfl rfl ?_;intro w U hW;refine Q4 (aR ?_);refine nc zd (nc zd (nc zd (nc ze ?_)));refine ⟨rfl,?_⟩;refine Q4 (aR ?_);refine nc (zbk 350001 (C:=fun v h=>by first | (rw [hW.1] at h;cases h) | (have h2:=hU _ v h;cases h2))) ?_;refine ⟨rfl,?_⟩;refine a7w ((A4 4 rfl rfl rfl (s':=[(3,.bp 3 0 []),(100003,.bx l.cw),(5,.bp 5 0 []),(100005,.bx (.lst (rest.map Lt.cv))),(7,.bp 350001 0 []),(450001,.obj),(35500100,⟨0,.lst [],1,0,[]⟩)]) ⟨rfl,rfl,rfl,rfl,rfl,rfl,rfl,trivial⟩ rfl rfl rfl).trans ((A4 5 rfl rfl rfl (s':=[(3,.bp 3 0 []),(100003,.bx l.cw),(4,.val (.ptr o.cw)),(7,.bp 350001 0 []),(450001,.obj),(35500100,⟨0,.lst [],1,0,[]⟩)]) ⟨rfl,rfl,rfl,rfl,rfl,rfl,trivial⟩ rfl rfl rfl).trans (b8L 35500100 300005 26 1 rfl rfl rfl rfl rfl rfl))) ?_;refine a6q (Q4 (aR ?_));refine nc zy (nc (zw (z:=a5L w l)) ?_);refine ⟨rfl,?_⟩;refine a4f ?_;refine a7w (a7 (s':=(16,AV.val (.fn 81 0 [.ptr l.cw]))::(4,.val (.ptr o.cw))::(5,.val (.ptr (.lst (rest.map Lt.cv))))::(7,.bp 350001 0 [])::obE []) ⟨rfl,rfl,rfl,rfl,rfl,rfl,rfl,trivial⟩) ?_;refine a6h (a8Q (α:=Tm×Tm) (encC:=c1J) (xs:=M2 l) (ps:=[17,18]) (fun k=>obE (a1U ((M2 l).take k) o rest)) [(4,.val (.ptr o.cw)),(5,.val (.ptr (.lst (rest.map Lt.cv)))),(7,.bp 350001 0 [])] rfl iR (a4y l) rfl ⟨rfl,rfl,rfl,trivial⟩ rfl ⟨rfl,rfl,rfl,trivial⟩ (fun k=>by kernel_rfl) (fun k=>by kernel_rfl) (fun k=>rfl) rfl (by kernel_rfl) (by kernel_rfl) ?_) ?_
 ·intro k p hp w U hU;have mZ:=a3n hl p (mem_of_getElem? hp);obtain ⟨L0,hL0⟩:∃ L0,L0=a1U ((M2 l).take k) o rest:=⟨_,rfl⟩
  have hL0l:L0.length<=4:=by
   have:=a1h ((M2 l).take k) o rest;rw [hL0];have h2:((M2 l).take k).length<=2:=by rw [length_take];omega
   omega
  rw [b3V hp,<-hL0];refine AWp.wk (a7 (s':=(17,AV.val p.1.cw)::(18,.val p.2.cw)::(4,.val (.ptr o.cw))::(5,.val (.ptr (.lst (rest.map Lt.cv))))::(7,.bp 350001 0 [])::obE L0) ⟨rfl,rfl,rfl,rfl,rfl,rfl,rfl,rfl,trivial⟩) ?_;refine aS (aR ?_);refine ne zk (nc zo ?_);refine aR ?_;refine ne zk (nc zo ?_);refine ⟨rfl,fun w'=>?_⟩;refine b2L ((A4 8 rfl rfl rfl (s':=(9,AV.bp 9 0 [])::(100009,.bx p.2.cw)::(4,.val (.ptr o.cw))::(5,.val (.ptr (.lst (rest.map Lt.cv))))::(7,.bp 350001 0 [])::obE L0) ⟨rfl,rfl,rfl,rfl,rfl,rfl,rfl,rfl,trivial⟩ rfl rfl (by kernel_rfl)).trans (A4 9 rfl rfl rfl (s':=(8,AV.val (.ptr p.1.cw))::(4,.val (.ptr o.cw))::(5,.val (.ptr (.lst (rest.map Lt.cv))))::(7,.bp 350001 0 [])::obE L0) ⟨rfl,rfl,rfl,rfl,rfl,rfl,rfl,trivial⟩ rfl rfl (by kernel_rfl))) ?_;refine a3L (b5g (aR ?_));refine nc zbC (nc (zw (z:=a5L w' o)) ?_);refine ⟨rfl,?_⟩;refine a3L ?_;refine b2L (a7 (s':=(20,AV.val (.fn 81 0 [.ptr o.cw]))::(5,.val (.ptr (.lst (rest.map Lt.cv))))::(7,.bp 350001 0 [])::(8,.val (.ptr p.1.cw))::(9,.val (.ptr p.2.cw))::obE (L0++[])) ⟨rfl,rfl,rfl,rfl,rfl,rfl,by rw [append_nil];rfl,by rw [append_nil];rfl,trivial⟩) ?_;refine b3x (b0z (α:=Tm×Tm) (encC:=c1J) (xs:=M2 o) (ps:=[21,22]) (fun j=>obE (L0++a8Z p ((M2 o).take j) rest)) [(5,.val (.ptr (.lst (rest.map Lt.cv)))),(7,.bp 350001 0 []),(8,.val (.ptr p.1.cw)),(9,.val (.ptr p.2.cw))] rfl iR (a4y o) rfl ⟨rfl,rfl,rfl,rfl,trivial⟩ rfl ⟨rfl,rfl,rfl,trivial⟩ (fun k=>by kernel_rfl) (fun k=>by kernel_rfl) (fun k=>rfl) rfl (by kernel_rfl) (by kernel_rfl) ?_) ?_
  ·intro j q hq w U hU;have xN:=a3n ho q (mem_of_getElem? hq);obtain ⟨L1,hL1⟩:∃ L1,L1=L0++a8Z p ((M2 o).take j) rest:=⟨_,rfl⟩
   have hL1l:L1.length<=6:=by
    have:=a9C p ((M2 o).take j) rest;have h2:((M2 o).take j).length<=2:=by rw [length_take];omega
    rw [hL1,length_append];omega
   rw [b4n hq,<-List.append_assoc,<-hL1];refine AWp.wk (a7 (s':=(21,AV.val q.1.cw)::(22,.val q.2.cw)::(5,.val (.ptr (.lst (rest.map Lt.cv))))::(7,.bp 350001 0 [])::(8,.val (.ptr p.1.cw))::(9,.val (.ptr p.2.cw))::obE L1) ⟨rfl,rfl,rfl,rfl,rfl,rfl,rfl,rfl,rfl,trivial⟩) ?_;refine aS (aR ?_);refine ne zk (nc zo ?_);refine aR ?_;refine ne zk (nc zo ?_);refine ⟨rfl,fun w'=>b8l ?_⟩;refine aB (aS (aR ?_));refine nc zbC (nc zy (nc (zw (z:=a4m w' mZ.1 xN.1)) (nc zl (nc zx (nc zx (nc ze (nc ze ?_)))))));have hrp:∀ t:Tm,t.ten->(b7 (mgS p.1 q.1) t).rng/\(b7 (mgS p.1 q.1) t).ok/\(b7 (mgS p.1 q.1) t).size<=29550:=fun t ht=>a8d mZ.1 xN.1 ht;obtain ⟨ok,kG⟩:∃ ok,ok=(mgT p.1 q.1).2:=⟨_,rfl⟩
   obtain ⟨ld,xO⟩:∃ ld,ld=a2V (b7 (mgS p.1 q.1) p.1) (b7 (mgS p.1 q.1) p.2):=⟨_,rfl⟩
   have hfc:a9J p q rest=if ok=true/\ld=true then some ((rest++[(⟨true,p.2,q.2⟩:Lt)]).map (Lt.rep (mgS p.1 q.1))) else none:=by unfold a9J;rw [kG,xO]
   have cS:=b1h w' (Lt.rep (mgS p.1 q.1) ⟨false,p.1,p.2⟩) (hrp _ mZ.1) (hrp _ mZ.2);have cS:AFun Tryz.prog w' 56 [(Lt.rep (mgS p.1 q.1) ⟨false,p.1,p.2⟩).cw] (.val (.b ld)):=by rw [xO];exact cS
   have hA1:=a0G w' mZ.1 xN.1 [⟨false,p.1,p.2⟩] (by simp) (fun l hl=>by rw [mem_singleton] at hl;subst hl;exact ⟨mZ.1.1,mZ.2.1⟩);refine AWp.wk (a7 (s':=(12,AV.val (.lst ((mgT p.1 q.1).1.map Bd.cv)))::(13,.val (.b ok))::(11,.bp 11 0 [])::(100011,.bx q.2.cw)::(5,.val (.ptr (.lst (rest.map Lt.cv))))::(7,.bp 350001 0 [])::(8,.val (.ptr p.1.cw))::(9,.val (.ptr p.2.cw))::obE L1) ⟨rfl,by rw [kG];rfl,rfl,rfl,rfl,rfl,rfl,rfl,rfl,rfl,rfl,trivial⟩) ?_;cases ok with
   | false =>
    have hn:a9J p q rest=none:=by rw [hfc,if_neg (by rintro ⟨h,_⟩;cases h)]
    rw [hn];refine aS (aS (aR ?_));refine nc zl (nc zF (nc zl (nc zH (nc zH (nc zH (nc zH (nc zH (nc zH (nc zH (nc zH (nc zH (nc zH (nc zJ ?_)))))))))))));refine aC rfl (fun _=>?_) (fun h=>by cases h);refine aE ?_;refine ⟨rfl,a7 ⟨rfl,?_,?_,trivial⟩⟩
    ·show some (AV.sl _ _ _ _)=some (AV.sl _ _ _ _);simp
    ·show some (AV.mrow _ _ _)=some (AV.mrow _ _ _);simp
   | true =>
    refine aS (aS (aR ?_));refine nc zl (nc zF (nc zl (nc (zl (p:=gb)) (nc (zbC (r:=gb)) (nc (zbC (r:=gb)) (nc (zbL b4Z (u:=gb)) (nc (zC (p:=gb)) (nc (zw (p:=gb) (z:=hA1)) (nc (zq (j:=0) (r:=gb) (H:=rfl) (hz:=Lt.size_all _)) (nc (zr (r:=gb)) (nc (zw (p:=gb) (z:=cS)) (nc (zF (r:=gb)) (nc zI ?_)))))))))))));cases ld with
    | false =>
     have hn:a9J p q rest=none:=by rw [hfc,if_neg (by rintro ⟨_,h⟩;cases h)]
     rw [hn];refine aC rfl (fun _=>?_) (fun h=>by cases h);refine aE ?_;refine ⟨rfl,a7 ⟨rfl,?_,?_,trivial⟩⟩
     ·show some (AV.sl _ _ _ _)=some (AV.sl _ _ _ _);simp
     ·show some (AV.mrow _ _ _)=some (AV.mrow _ _ _);simp
    | true =>
     have hy:a9J p q rest=some ((rest++[(⟨true,p.2,q.2⟩:Lt)]).map (Lt.rep (mgS p.1 q.1))):=by rw [hfc,if_pos ⟨rfl,rfl⟩]
     rw [hy];have gA:=a2D w' rest [⟨true,p.2,q.2⟩] (by simp;omega);have hA2:=a0G w' mZ.1 xN.1 (rest++[⟨true,p.2,q.2⟩]) (by simp;omega) (fun l hl=>by
      rcases mem_append.1 hl with h | h
      ·exact a1P hr l h
      ·rw [mem_singleton] at h;subst h;exact ⟨mZ.2.1,xN.2.1⟩)
     have hszc:=D8 L1;have hL1m:(L1.map V5).length=L1.length:=length_map ..;refine aC rfl (fun h=>by cases h) (fun _=>aK ?_);refine aS (aR ?_);refine nc zbC (nc zy (nc (zbL b4Z) (ne (zbM b4Z) (nc zo ?_))));refine aD (by kernel_rfl) (by kernel_rfl) ?_;refine nc z9 (nc zl (nc zbC (nc zy (nc zC (nc zC (nc (zw (z:=gA)) (nc (zw (z:=hA2)) (nc zC (ne (zbb 300006) (nc zbc ?_))))))))));refine ⟨by kernel_rfl,?_⟩;refine ⟨rfl,(a7 (s':=[(450001,.obj),(35500100,.sl 300006 0 (L1++[(rest++[(⟨true,p.2,q.2⟩:Lt)]).map (Lt.rep (mgS p.1 q.1))]).length 1),(300006,.mrow 26 1 ((L1++[(rest++[(⟨true,p.2,q.2⟩:Lt)]).map (Lt.rep (mgS p.1 q.1))]).map V5))]) ⟨rfl,?_,?_,trivial⟩).trans (o8 300006 300005 rfl rfl (by kernel_rfl) (by kernel_rfl))⟩
     ·show some (AV.sl _ _ _ _)=some (AV.sl _ _ _ _);rw [length_append,<-hL1m];rfl
     ·show some (AV.mrow _ _ _)=some (AV.mrow _ _ _);rw [map_append (f:=V5)];rfl
  ·rintro e s' ⟨rfl,m,rfl⟩;rw [take_length];refine ⟨rfl,rfl,rfl,?_⟩;exact a7 ⟨rfl,rfl,rfl,trivial⟩
 ·rintro e s' g ⟨rfl,rfl⟩;rw [take_length];refine ⟨rfl,rfl,?_⟩;refine aS (aR ?_);refine nc z9 (nc ze ?_);obtain ⟨R,hR⟩:∃ R,R=a1U (M2 l) o rest:=⟨_,rfl⟩
  rw [<-hR];refine aT ⟨⟨.inr rfl,[(6,AV.val (.lst (((R.map V5).drop 0).take R.length)))],?_,?_,trivial,rfl⟩,rfl⟩
  ·exact (a5n 6 300005 (e:=26) (z:=1) (lo:=0) (len:=R.length) (l:=R.map V5) rfl rfl rfl (.inl hW.2) (by simp) (s':=[(299999,.ob g 0)]) ⟨rfl,trivial⟩ rfl).trans (a7 ⟨rfl,rfl,trivial⟩)
  ·rw [List.drop_zero,List.take_of_length_le (by simp)];rfl
theorem b8J (l:List Tm) {v:Int} (hv:0<=v):b0V (-1-v) l=(vsL l).count v:=by
 unfold b0V vsL
 induction l with
 | nil=>rfl
 | cons t l ih =>
  rw [List.filter_cons,List.filter_cons];by_cases h:t.f = -1-v
  ·have h2:t.f<0:=by omega
   rw [if_pos (by simpa using h),if_pos (by simpa using h2),length_cons,ih,map_cons,List.count_cons];simp only [beq_iff_eq];rw [if_pos (by omega)]
  ·rw [if_neg (by simpa using h)];by_cases h2:t.f<0
   ·rw [if_pos (by simpa using h2),ih,map_cons,List.count_cons];simp only [beq_iff_eq];rw [if_neg (by omega)];rfl
   ·rw [if_neg (by simpa using h2)];exact ih
theorem a4z (W:World) (t:Tm) (v:Int) (hr:t.rng) (kG:t.ok) (lP:t.size<=90000000000) (hv:0<=v/\v<=9223372036854775807):AFun Tryz.prog W 116 [t.cw,.i v] (.val (.i (t.vs.count v:Nat))):=by
 rw [show t.vs.count v=b0V (-1-v) t.flat from (b8J t.flat hv.1).symm];refine a9 (rs:=[.i (b0V (-1-v) t.flat:Nat)]) Tryz.func116 Tryz.ntmps116 rfl rfl rfl rfl ?_;intro w U hW;refine aS (aR ?_);refine nc zd (nc ze ?_);refine aS (aR ?_);refine nc zy (nc (zw (z:=E5 w t kG lP)) (nc ze ?_));unfold Tm.size at lP;obtain ⟨l,hl⟩:∃ l,l=t.flat:=⟨_,rfl⟩
 rw [<-hl] at lP |-;have kD:=Tm.size_all l;refine aS (aR ?_);refine nc ze ?_;refine aS (aS (aR ?_));refine nc ze ?_;refine aB (b9 l.length (fun i=>[(1,.val (.i v)),(5,.val (.lst (l.map Tm.cv))),(6,.val (.i (b0V (-1-v) (l.take i):Nat))),(7,.val (.i i))]) (a7 ⟨rfl,rfl,rfl,rfl,trivial⟩) ?_);intro i hi;refine aS (aS (aR ?_));refine nc zl (nc zl (nc zp (nc zi ?_)));refine aC rfl (fun hc=>aK ?_) (fun hc=>aE ?_)
 ·have kY:i<l.length:=by simp only [length_map,decide_eq_true_eq] at hc;omega
  clear hc;obtain ⟨s,hs⟩:∃ s,l[i]?=some s:=⟨l[i],getElem?_eq_getElem kY⟩
  have gL:=Tm.map_at hs;have cE:l.take (i+1)=l.take i++[s]:=by rw [take_add_one,hs];rfl
  have jP:=b9F (-1-v) (l.take i);rw [length_take] at jP;refine aS (aB (aS (aR ?_)));refine nc zl (nc zl (nc (zq (H:=by assumption) (hz:=by first | assumption | exact sZ rfl | exact Tm.size_all _ | exact Bd.size_all _ | exact b8 _ | exact bys_size _ | exact Lt.size_all _)) (nc zN (nc zr (nc zl (nc zj (nc zt ?_)))))));refine aC rfl (fun hc=>?_) (fun hc=>aK ?_)
  ·have qW:s.f = -1-v:=by simpa using hc
   refine aR ?_;refine nc zl (nc zu (nc ze ?_));refine aR ?_;refine nc zl (nc zu (nc ze ?_));refine ⟨kY,a7 ⟨rfl,rfl,?_,rfl,trivial⟩⟩;rw [cE,a6x,if_pos qW];rfl
  ·have qW:¬ s.f = -1-v:=by simpa using hc
   refine aR ?_;refine nc zl (nc zu (nc ze ?_));refine ⟨kY,a7 ⟨rfl,rfl,?_,rfl,trivial⟩⟩;rw [cE,a6x,if_neg qW];rfl
 ·have kY:i=l.length:=by simp only [length_map,decide_eq_false_iff_not] at hc;omega
  subst kY;rw [take_length];refine aS (aR ?_);refine nc zl (nc ze ?_);exact aT ⟨.inr rfl,rfl⟩
theorem b6h (a b:Tm):cov a b↔∀ v∈b.nv,b.vs.count v<=a.vs.count v:=by
 unfold cov Tm.nv;constructor
 ·intro h v _;exact h v
 ·intro h v;by_cases hv:v∈b.vs
  ·exact h v ((a7F _ v).2 hv)
  ·rw [List.count_eq_zero_of_not_mem hv];omega
theorem c1q {t:Tm} (hr:t.rng):∀ v∈t.vs,0<=v/\v<=9223372036854775807:=by
 intro v hv;unfold Tm.vs vsL at hv;obtain ⟨s,hs,rfl⟩:=mem_map.1 hv;rw [List.mem_filter] at hs;have h1:=Tm.rng_flat hr s hs.1;have h2:s.f<0:=by simpa using hs.2
 omega
theorem a8O (W:World) (a b:Tm) (ha:a.rng) (jG:a.ok) (qI:a.size<=90000000000) (hb:b.rng) (iI:b.ok) (dG:b.size<=90000000000):AFun Tryz.prog W 83 [a.cw,b.cw] (.val (.b (b2p a b))):=by
 refine a9 (rs:=[.b (b2p a b)]) Tryz.func83 Tryz.ntmps83 rfl rfl rfl rfl ?_;intro w U hW;have bQ:=a6k b.flat;refine aS (aR ?_);refine nc zd (nc zd (nc ze ?_));have f1:=a2J w b hb iI dG;rw [b2h] at f1 bQ;refine aS (aR ?_);refine nc zy (nc (zw (z:=f1)) (nc ze ?_));have cW:∀ v∈b.nv,0<=v/\v<=9223372036854775807:=fun v hv=>c1q hb v ((a7F _ v).1 hv);have jE:=b6h a b;obtain ⟨l,hl⟩:∃ l,l=b.nv:=⟨_,rfl⟩
 rw [<-hl] at bQ cW jE |-;unfold Tm.size at dG;have kD:=b8 l;refine aS (aS (aR ?_));refine nc ze ?_;refine aB (l7 l.length (fun i=>∀ j v,j<i->l[j]?=some v->b.vs.count v<=a.vs.count v) (fun i=>[(2,.bp 2 0 []),(100002,.bx a.cw),(3,.bp 3 0 []),(100003,.bx b.cw),(5,.val (.lst (l.map CV.i))),(6,.val (.i i))]) (a7 ⟨rfl,rfl,rfl,rfl,rfl,rfl,trivial⟩) (fun j v hj=>by omega) ?_);intro i hi hI;refine aS (aS (aR ?_));refine nc zl (nc zl (nc zp (nc zi ?_)));refine aC rfl (fun hc=>aK ?_) (fun hc=>aE ?_)
 ·have kY:i<l.length:=by simp only [length_map,decide_eq_true_eq] at hc;omega
  clear hc;obtain ⟨v,hv⟩:∃ v,l[i]?=some v:=⟨l[i],getElem?_eq_getElem kY⟩
  have kH:=a7z hv;have wY:=mem_of_getElem? hv;have c1:=a4z w b v hb iI (by unfold Tm.size;omega) (cW v wY);have c2:=a4z w a v ha jG qI (cW v wY);refine aS (aB (aS (aD (by kernel_rfl) (by kernel_rfl) ?_)));refine nc zy (nc zl (nc zl (nc (zq (j:=i) (H:=kH) (hz:=kD)) (nc zr (nc (zw (z:=c1)) (nc zy (nc zl (nc zl (nc (zq (j:=i) (H:=kH) (hz:=kD)) (nc zr (nc (zw (z:=c2)) (nc zO ?_))))))))))));refine ⟨by kernel_rfl,?_⟩;refine aC rfl (fun hc=>?_) (fun hc=>aK ?_)
  ·have hn:¬ b.vs.count v<=a.vs.count v:=by have:=of_decide_eq_true hc;omega
   have pP:b2p a b=false:=by rw [<-Bool.not_eq_true,a1g,jE];exact fun h=>hn (h v wY)
   rw [pP];refine aS (aR ?_);refine nc ze ?_;exact aT ⟨.inr rfl,rfl⟩
  ·have hn:b.vs.count v<=a.vs.count v:=by have:=of_decide_eq_false hc;omega
   refine aR ?_;refine nc zl (nc zu (nc ze ?_));refine ⟨kY,fun j u hj hu=>?_,a7 ⟨rfl,rfl,rfl,rfl,rfl,rfl,trivial⟩⟩;rcases Nat.lt_or_ge j i with h | h
   ·exact hI j u h hu
   ·have:j=i:=by omega
    subst this;rw [hv] at hu;cases hu;exact hn
 ·have kY:i=l.length:=by simp only [length_map,decide_eq_false_iff_not] at hc;omega
  subst kY;have pP:b2p a b=true:=by
   rw [a1g,jE];intro v hv;obtain ⟨j,hj⟩:=List.getElem?_of_mem hv;refine hI j v ?_ hj;rcases Nat.lt_or_ge j l.length with h | h
   ·exact h
   ·rw [List.getElem?_eq_none h] at hj;cases hj
  rw [pP];refine aS (aR ?_);refine nc ze ?_;exact aT ⟨.inr rfl,rfl⟩
theorem a1M (a b:Tm):l8 a b=decide (kb a b=0):=by rw [Bool.eq_iff_iff,k8,decide_eq_true_iff,a7l]
set_option maxHeartbeats 2000000 in
theorem Q7 (W:World):∀ a:Tm,a.rng->a.ok->a.size<=90000000000->∀ b:Tm,b.rng->b.ok->b.size<=90000000000->AFun Tryz.prog W 58 [a.cw,b.cw] (.val (.b (decide (kb a b=1)))):=by
 intro a
 induction a using Tm.ind generalizing W with
 | h f l ih =>
 intro ha jG qI b hb iI dG;obtain ⟨a,yY⟩:∃ a,a=Tm.mk f l:=⟨_,rfl⟩
 have vW:a.f=f:=by rw [yY]
 have tZ:a.l=l:=by rw [yY]
 rw [<-yY] at ha jG qI |-;rw [<-tZ] at ih;clear yY vW tZ;have lC:=(Tm.ok_iff _).1 jG;have yQ:=(Tm.rng_iff _).1 ha;have jA:=(Tm.ok_iff _).1 iI;have qJ:=(Tm.rng_iff _).1 hb;have kD:=Tm.size_all a.l;have cR:=Tm.size_all b.l;obtain ⟨K,hK⟩:∃ K,K=decide (kb a b=1):=⟨_,rfl⟩
 rw [<-hK];refine a9 (rs:=[.b K]) Tryz.func58 Tryz.ntmps58 rfl rfl rfl rfl ?_;intro w U hW;refine aS (aR ?_);refine nc zd (nc zd (nc ze ?_));have s1:=A7 w a b jG iI;have c1:=a8O w a b ha jG qI hb iI dG;by_cases hs:l8 a b=true
 ·have hk:kb a b=0:=by rw [a1M] at hs;exact of_decide_eq_true hs
  rw [hs] at s1;rw [hK,hk];refine aS (aS (aR ?_));refine nc zy (nc zy (nc (zw (z:=s1)) (nc zl (nc zH (nc zH (nc zH (nc zH (nc zJ ?_))))))));refine aC rfl (fun hc=>?_) (fun hc=>by cases hc);refine aS (aR ?_);refine nc ze ?_;exact aT ⟨.inr rfl,rfl⟩
 have hs:l8 a b=false:=by simpa using hs
 have mR:kb a b≠0:=by rw [a1M] at hs;exact of_decide_eq_false hs
 rw [hs] at s1;by_cases jE:b2p a b=true
 case neg =>
  have hk:¬ kb a b=1:=fun h=>jE ((a1g a b).2 ((b7s a b).1 h).1);have jE:b2p a b=false:=by simpa using jE
  rw [jE] at c1;have xP:K=false:=by rw [hK];simpa using hk
  rw [xP];refine aS (aS (aR ?_));refine nc zy (nc zy (nc (zw (z:=s1)) (nc zl (nc (zy (p:=gb)) (nc (zy (p:=gb)) (nc (zw (p:=gb) (z:=c1)) (nc (zF (r:=gb)) (nc zI ?_))))))));refine aC rfl (fun hc=>?_) (fun hc=>by cases hc);refine aS (aR ?_);refine nc ze ?_;exact aT ⟨.inr rfl,rfl⟩
 have tH:=(a1g a b).1 jE;rw [jE] at c1;refine aS (aS (aR ?_));refine nc zy (nc zy (nc (zw (z:=s1)) (nc zl (nc (zy (p:=gb)) (nc (zy (p:=gb)) (nc (zw (p:=gb) (z:=c1)) (nc (zF (r:=gb)) (nc zI ?_))))))));refine aC rfl (fun hc=>by cases hc) (fun hc=>aK ?_);refine aS (aD (by kernel_rfl) (by kernel_rfl) ?_);refine nc zy (nc (zw (z:=E5 w a jG qI)) (nc zp (nc zy (nc (zw (z:=E5 w b iI dG)) (nc zp (nc ze (nc ze ?_)))))));refine ⟨by kernel_rfl,?_⟩;have ea:(a.flat.map Tm.cv).length=a.size:=length_map ..;have eb:(b.flat.map Tm.cv).length=b.size:=length_map ..;have qM:K=true↔b.size<a.size\/(a.size=b.size/\wi a b=1):=by rw [hK,decide_eq_true_iff,b7s];exact ⟨fun h=>h.2,fun h=>⟨tH,h⟩⟩
 refine AWp.wk (a7 (s':=[(2,AV.bp 2 0 []),(100002,.bx a.cw),(3,.bp 3 0 []),(100003,.bx b.cw),(5,.val (.i (a.size:Int))),(6,.val (.i (b.size:Int)))]) ⟨rfl,rfl,rfl,rfl,?_,?_,trivial⟩) ?_
 ·rw [<-ea];rfl
 ·rw [<-eb];rfl
 by_cases mO:a.size=b.size
 case neg =>
  have g:decide ((a.size:Int)≠(b.size:Int))=true:=by simp;omega
  have hr:decide ((a.size:Int)>(b.size:Int))=K:=by rw [Bool.eq_iff_iff,decide_eq_true_iff,qM];omega
  refine aS (aS (aR ?_));refine nc zl (nc zl (nc zE (nc zl (nc zH (nc zH (nc zH (nc zJ (nc zl (nc zH (nc zH (nc zH (nc zJ ?_))))))))))));refine aC rfl (fun hc=>?_) (fun hc=>by cases hc);refine aS (aR ?_);refine nc zl (nc zl (nc zO (nc ze ?_)));refine aT ⟨.inr rfl,?_⟩;rw [<-hr];rfl
 have g:decide ((a.size:Int)≠(b.size:Int))=false:=by simp;omega
 have hr:decide ((a.size:Int)>(b.size:Int))=false:=by simp;omega
 by_cases haf:a.f<0
 ·have g2:decide (a.f<0)=true:=by simpa using haf
  have xP:K=false:=by rw [<-Bool.not_eq_true,qM,b1E];omega
  refine aS (aS (aR ?_));refine nc zl (nc zl (nc zE (nc zl (nc (zg (r:=gb)) (nc (zh (r:=gb)) (nc (zi (r:=gb)) (nc zI (nc zl (nc zH (nc zH (nc zH (nc zJ ?_))))))))))));refine aC rfl (fun hc=>?_) (fun hc=>by cases hc);refine aS (aR ?_);refine nc zl (nc zl (nc zO (nc ze ?_)));refine aT ⟨.inr rfl,?_⟩;rw [xP,<-hr];rfl
 have g2:decide (a.f<0)=false:=by simpa using haf
 refine aS (aS (aR ?_));refine nc zl (nc zl (nc zE (nc zl (nc (zg (r:=gb)) (nc (zh (r:=gb)) (nc (zi (r:=gb)) (nc zI (nc zl (nc (zg (r:=gb)) (nc (zh (r:=gb)) (nc (zi (r:=gb)) (nc zI ?_))))))))))));refine aC rfl (fun hc=>?_) (fun hc=>aK ?_)
 ·have uD:b.f<0:=by simpa using hc
  have xP:K=false:=by rw [<-Bool.not_eq_true,qM,b1E];omega
  refine aS (aR ?_);refine nc zl (nc zl (nc zO (nc ze ?_)));refine aT ⟨.inr rfl,?_⟩;rw [xP,<-hr];rfl
 have uD:¬ b.f<0:=by simpa using hc
 clear hc;have hKw:K=true↔b.f<a.f\/(a.f=b.f/\(b.l.length<a.l.length\/(a.l.length=b.l.length/\kbs a.l b.l=1))):=by
  rw [qM,b1E];constructor
  ·rintro (h | ⟨_,_,_,h⟩)
   ·omega
   ·exact h
  ·intro h;exact .inr ⟨mO,haf,uD,h⟩
 refine aS (aS (aR ?_));refine nc zg (nc zh (nc zg (nc zh (nc zE ?_))));refine aC rfl (fun hc=>?_) (fun hc=>aK ?_)
 ·have kE:a.f≠b.f:=by simpa using hc
  have hr:decide (a.f>b.f)=K:=by rw [Bool.eq_iff_iff,decide_eq_true_iff,hKw];omega
  refine aS (aR ?_);refine nc zg (nc zh (nc zg (nc zh (nc zO (nc ze ?_)))));refine aT ⟨.inr rfl,?_⟩;rw [<-hr];rfl
 have lL:a.f=b.f:=by simpa using hc
 clear hc;refine aS (aS (aR ?_));refine nc zg (nc zh (nc zp (nc zg (nc zh (nc zp (nc zE ?_))))));refine aC rfl (fun hc=>?_) (fun hc=>aK ?_)
 ·have kE:a.l.length≠b.l.length:=by have:=of_decide_eq_true hc;simp only [length_map] at this;omega
  have hr:decide (((a.l.map Tm.cv).length:Int)>((b.l.map Tm.cv).length:Int))=K:=by rw [Bool.eq_iff_iff,decide_eq_true_iff,hKw,length_map,length_map];omega
  refine aS (aR ?_);refine nc zg (nc zh (nc zp (nc zg (nc zh (nc zp (nc zO (nc ze ?_)))))));refine aT ⟨.inr rfl,?_⟩;rw [<-hr];rfl
 have cI:a.l.length=b.l.length:=by have:=of_decide_eq_false hc;simp only [length_map] at this;omega
 clear hc;refine aS (aR ?_);refine nc ze ?_;refine aS ?_;refine aB (l7 a.l.length (fun k=>∀ (j:Nat) u v,j<k->a.l[j]?=some u->b.l[j]?=some v->kb u v=0) (fun k=>[(2,.bp 2 0 []),(100002,.bx a.cw),(3,.bp 3 0 []),(100003,.bx b.cw),(7,.val (.i k))]) (a7 ⟨rfl,rfl,rfl,rfl,rfl,trivial⟩) (fun j u v hj=>by omega) ?_);intro k hk hI;have kB:k<a.l.length:=by
  rcases Nat.lt_or_ge k a.l.length with h | h
  ·exact h
  ·exfalso;obtain ⟨e1,e2⟩:=a1u (l:=a.l) (m:=b.l) fun j u v hu hv=>hI j u v (by
    rcases Nat.lt_or_ge j a.l.length with h | h
    ·omega
    ·rw [List.getElem?_eq_none h] at hu;cases hu) hu hv
   apply mR;rw [K9,x8];unfold wi;rw [Tm.ps_of_sym (t:=a) (by omega),Tm.ps_of_sym (t:=b) (by omega),if_neg (by omega)];exact e2
 obtain ⟨x,hx⟩:∃ x,a.l[k]?=some x:=⟨a.l[k],getElem?_eq_getElem kB⟩
 obtain ⟨y,hy⟩:∃ y,b.l[k]?=some y:=⟨b.l[k]'(by omega),getElem?_eq_getElem (by omega)⟩
 have kI:=Tm.map_at hx;have gO:=Tm.map_at hy;have cD:=mem_of_getElem? hx;have mW:=mem_of_getElem? hy;have eN:=Tm.size_part (t:=a) (s:=x) (by rw [Tm.ps_of_sym (by omega)];exact cD);have eA:=Tm.size_part (t:=b) (s:=y) (by rw [Tm.ps_of_sym (by omega)];exact mW);have s2:=A7 w x y (lC.2 x cD) (jA.2 y mW);have qK:=ih x cD w (yQ.2 x cD) (lC.2 x cD) (by omega) y (qJ.2 y mW) (jA.2 y mW) (by omega);refine aS (aS (aD (by kernel_rfl) (by kernel_rfl) ?_));refine nc zg (nc zh (nc zl (nc (zq (j:=k) (H:=kI) (hz:=kD)) (nc zr (nc zg (nc zh (nc zl (nc (zq (j:=k) (H:=gO) (hz:=cR)) (nc zr (nc (zw (z:=s2)) ?_))))))))));refine ⟨by kernel_rfl,?_⟩;refine aC rfl (fun hc=>aK ?_) (fun hc=>aE ?_)
 ·have h0:kb x y=0:=by rw [a1M] at hc;exact of_decide_eq_true hc
  refine aB (aR ?_);refine nc zl (nc zu (nc ze ?_));refine ⟨kB,fun j u v hj hu hv=>?_,a7 ⟨rfl,rfl,rfl,rfl,rfl,trivial⟩⟩;rcases Nat.lt_or_ge j k with h | h
  ·exact hI j u v h hu hv
  ·have:j=k:=by omega
   subst this;rw [hx] at hu;rw [hy] at hv;cases hu;cases hv;exact h0
 ·have kE:kb x y≠0:=by rw [a1M] at hc;exact of_decide_eq_false hc
  obtain ⟨e1,e2⟩:=a7T hx hy kE hI;have hr:decide (kb x y=1)=K:=by rw [Bool.eq_iff_iff,decide_eq_true_iff,hKw,e2];omega
  rw [hr] at qK;refine aS (aD (by kernel_rfl) (by kernel_rfl) ?_);refine nc zg (nc zh (nc zl (nc (zq (j:=k) (H:=kI) (hz:=kD)) (nc zr (nc zg (nc zh (nc zl (nc (zq (j:=k) (H:=gO) (hz:=cR)) (nc zr (nc (zw (z:=qK)) (nc ze ?_)))))))))));refine ⟨by kernel_rfl,?_⟩;exact aT ⟨.inr rfl,rfl⟩
theorem a6V (W:World) (a b:Tm) (ha:a.rng) (jG:a.ok) (qI:a.size<=90000000000) (hb:b.rng) (iI:b.ok) (dG:b.size<=90000000000):AFun Tryz.prog W 35 [a.cw,b.cw] (.val (.i (kb a b))):=by
 refine a9 (rs:=[.i (kb a b)]) Tryz.func35 Tryz.ntmps35 rfl rfl rfl rfl ?_;intro w U hW;have s1:=A7 w a b jG iI;have g1:=Q7 w a ha jG qI b hb iI dG;have g2:=Q7 w b hb iI dG a ha jG qI;rw [a1M] at s1;rw [b9n a b] at g2;have h4:=a3N a b;have ht:=a1r h4;obtain ⟨k,hk⟩:∃ k,k=kb a b:=⟨_,rfl⟩
 rw [<-hk] at s1 g1 g2 h4 ht |-;refine aS (aR ?_);refine nc zd (nc zd (nc ze ?_));refine aS (aS (aR ?_));refine nc zy (nc zy (nc (zw (z:=s1)) ?_));refine aC rfl (fun hc=>?_) (fun hc=>aK ?_)
 ·have hc:=of_decide_eq_true hc;rw [hc];refine aS (aR ?_);refine nc ze ?_;exact aT ⟨.inr rfl,rfl⟩
 have h0:¬ k=0:=of_decide_eq_false hc;refine aS (aS (aR ?_));refine nc zy (nc zy (nc (zw (z:=g1)) ?_));refine aC rfl (fun hc=>?_) (fun hc=>aK ?_)
 ·have hc:=of_decide_eq_true hc;rw [hc];refine aS (aR ?_);refine nc ze ?_;exact aT ⟨.inr rfl,rfl⟩
 have h1:¬ k=1:=of_decide_eq_false hc;refine aS (aS (aR ?_));refine nc zy (nc zy (nc (zw (z:=g2)) ?_));refine aC rfl (fun hc=>?_) (fun hc=>aK ?_)
 ·have hc:=of_decide_eq_true hc;rw [ht.2.1.1 hc];refine aS (aR ?_);refine nc ze ?_;exact aT ⟨.inr rfl,rfl⟩
 have h2:¬ k = -1:=fun e=>of_decide_eq_false hc (ht.2.1.2 e);have bB:k=2:=by unfold K4 at h4;omega
 rw [bB];refine aS (aR ?_);refine nc ze ?_;exact aT ⟨.inr rfl,rfl⟩
theorem b0i (W:World) (l:Lt):AFun Tryz.prog W 140 [l.cw] (.val (.lst ((y8 l).map Tm.cv))):=by
 refine a9 (rs:=[.lst ((y8 l).map Tm.cv)]) Tryz.func140 Tryz.ntmps140 rfl rfl rfl rfl ?_;intro w U hW;refine aS (aR ?_);refine nc zd (nc ze ?_);refine aS (aS (aR ?_));refine nc zg (nc zh ?_);refine aC rfl (fun hc=>?_) (fun hc=>?_)
 ·have hc:l.neg=true:=hc;have e:CV.lst ((y8 l).map Tm.cv) = .lst [l.a.cw,l.a.cw,l.b.cw,l.b.cw]:=by unfold y8;rw [if_pos hc];simp only [map_cons,map_nil,Tm.cv_eq]
  rw [e];refine aS (aR ?_);refine nc zg (nc zh (nc zg (nc zh (nc zg (nc zh (nc zg (nc zh (nc zC (nc ze ?_)))))))));exact aT (And.intro (.inr rfl) rfl)
 ·have hc:l.neg=false:=hc;have e:CV.lst ((y8 l).map Tm.cv) = .lst [l.a.cw,l.b.cw]:=by unfold y8;rw [if_neg (by rw [hc];decide)];simp only [map_cons,map_nil,Tm.cv_eq]
  rw [e];refine aK ?_;refine aS (aR ?_);refine nc zg (nc zh (nc zg (nc zh (nc zC (nc ze ?_)))));exact aT (And.intro (.inr rfl) rfl)
def htK (h:Option Nat) (k:Nat):Bool:=match h with | some i=>decide (i<k) | none=>false
def usK (h:Option Nat) (u:List Bool) (k:Nat):List Bool:=match h with | some i=>if i<k then u.set i true else u | none=>u
theorem b5y (h:Option Nat):htK h 0=false:=by cases h<;>rfl
theorem b5q (h:Option Nat) (u:List Bool):usK h u 0=u:=by cases h<;>rfl
theorem c0Y {h:Option Nat} {k:Nat} (e:htK h k=true) (u:List Bool):htK h (k+1)=true/\usK h u (k+1)=usK h u k:=by
 cases h with
 | none=>cases e
 | some i =>
  have hi:i<k:=by simpa [htK] using e
  exact ⟨by simp [htK];omega,by simp only [usK];rw [if_pos (by omega),if_pos hi]⟩
theorem c1W {h:Option Nat} {k:Nat} (e:htK h k=false) (u:List Bool):usK h u k=u:=by
 cases h with
 | none=>rfl
 | some i =>
  have hi:¬ i<k:=by simpa [htK] using e
  simp only [usK];rw [if_neg hi]
theorem b2X {h:Option Nat} {k:Nat} (e:htK h k=false) (hn:h≠some k) (u:List Bool):htK h (k+1)=false/\usK h u (k+1)=u:=by
 cases h with
 | none=>exact ⟨rfl,rfl⟩
 | some i =>
  have hi:¬ i<k:=by simpa [htK] using e
  have hik:i≠k:=fun h=>hn (by rw [h]);exact ⟨by simp [htK];omega,by simp only [usK];rw [if_neg (by omega)]⟩
theorem b9l {k:Nat} (u:List Bool):htK (some k) (k+1)=true/\usK (some k) u (k+1)=u.set k true:=⟨by simp [htK],by simp only [usK];rw [if_pos (by omega)]⟩
theorem c0F {b:List Tm} {u:List Bool} {t:Tm} {k:Nat} {y:Tm} {f:Bool} (hy:b[k]?=some y) (hu:u[k]?=some f) (e:htK (a5V b u t) k=false):a5V b u t=some k↔(!f&&l8 t y)=true:=by
 have hz:(b.zip u)[k]?=some (y,f):=by rw [List.getElem?_zip_eq_some];exact ⟨hy,hu⟩
 obtain ⟨hk,hke⟩:=List.getElem?_eq_some_iff.1 hz;constructor
 ·intro h;unfold a5V at h;obtain ⟨h1,h2,_⟩:=List.findIdx?_eq_some_iff_getElem.1 h;rw [hke] at h2;exact h2
 ·intro h;cases hh:a5V b u t with
  | none =>
   unfold a5V at hh;have:=List.findIdx?_eq_none_iff.1 hh _ (mem_of_getElem? hz);rw [h] at this;cases this
  | some i =>
   rw [hh] at e;have hi:¬ i<k:=by simpa [htK] using e
   unfold a5V at hh;obtain ⟨h1,h2,h3⟩:=List.findIdx?_eq_some_iff_getElem.1 hh;by_cases hik:k<i
   ·have h4:=h3 k hik;rw [hke] at h4;exact absurd h h4
   ·have:i=k:=by omega
    rw [this]
theorem b7D {b:List Tm} {u:List Bool} {t:Tm} {i:Nat} (h:a5V b u t=some i):i<b.length:=by
 unfold a5V at h;obtain ⟨h1,_⟩:=List.findIdx?_eq_some_iff_getElem.1 h;rw [List.length_zip] at h1;omega
theorem c1m {u:List Bool} {k:Nat} {f:Bool} (h:u[k]?=some f):(u.map CV.b)[k]?=some (.b f):=by rw [List.getElem?_map,h];rfl
theorem c0a (h:Option Nat) (u:List Bool) (k:Nat):(usK h u k).length=u.length:=by
 cases h with
 | none=>rfl
 | some i=>simp only [usK];split<;>simp
theorem a2z (W:World) (a b:List Tm) (ha:∀ t∈a,t.ok) (hb:∀ t∈b,t.ok) (fT:a.length<=100000) (mJ:b.length<=100000):AFun Tryz.prog W 154 [.lst (a.map Tm.cv),.lst (b.map Tm.cv)] (.val (.lst ((a1s a b).map Tm.cv))):=by
 have hsa:=Tm.size_all a;have hsb:=Tm.size_all b;refine a9 (rs:=[.lst ((a1s a b).map Tm.cv)]) Tryz.func154 Tryz.ntmps154 rfl rfl rfl rfl ?_;intro w U hW;refine aS (aR ?_);refine nc ze ?_;refine aS (aR ?_);refine nc zl (nc zp (nc (zbj (k:=b.length) 300005) (nc ze ?_)));refine aS (aR ?_);refine nc ze ?_;refine aS (aS (aR ?_));refine nc ze ?_
 let st:Nat->List Tm->List Bool->AS:=fun i out u=>[(0,.val (.lst (a.map Tm.cv))),(1,.val (.lst (b.map Tm.cv))),(5,.sl 300005 0 b.length 1),(300005,.mrow 4 1 (u.map CV.b)),(6,.own (.lst (out.map Tm.cv)) 200056),(200056,.tok 51 2),(7,.val (.i i))]
 refine aB (p8 (fun j s=>∃ i out u,j=a.length-i/\i<=a.length/\u.length=b.length/\out++lsD (a.drop i) b u=a1s a b/\out.length<=i/\s=st i out u) (s':=st 0 [] (List.replicate b.length false)) ((v9 6 200056 51 2 rfl rfl rfl rfl rfl rfl rfl).trans (a7 ⟨rfl,rfl,rfl,?_,rfl,rfl,rfl,trivial⟩)) ⟨0,[],_,rfl,Nat.zero_le _,by simp,rfl,Nat.le_refl _,rfl⟩ ?_)
 ·show some (AV.mrow _ _ _)=some (AV.mrow _ _ _);rw [List.map_replicate];rfl
 rintro j s ⟨i,out,u,rfl,hi,hul,dA,lU,rfl⟩;refine aS (aS (aR ?_));refine nc zl (nc zl (nc zp (nc zi ?_)));refine aC rfl (fun kA=>?_) (fun kA=>?_)
 ·have kY:i<a.length:=by simpa using kA
  obtain ⟨t,ht⟩:∃ t,a[i]?=some t:=⟨a[i],getElem?_eq_getElem kY⟩
  have mH:=Tm.map_at ht;have fV:=ha t (mem_of_getElem? ht);have jY:a.drop i=t::a.drop (i+1):=b0p ht;obtain ⟨h,hh⟩:∃ h,h=a5V b u t:=⟨_,rfl⟩
  have hls1:h=none->lsD (a.drop i) b u=t::lsD (a.drop (i+1)) b u:=fun e=>by rw [jY,lsD,<-hh,e]
  have hls2:∀ k,h=some k->lsD (a.drop i) b u=lsD (a.drop (i+1)) b (u.set k true):=fun k e=>by rw [jY,lsD,<-hh,e]
  refine aK ?_;refine aS (aB (aS (aR ?_)));refine nc ze ?_;refine aS (aS (aR ?_));refine nc ze ?_
  let st2:Nat->AS:=fun k=>[(0,.val (.lst (a.map Tm.cv))),(1,.val (.lst (b.map Tm.cv))),(5,.sl 300005 0 b.length 1),(300005,.mrow 4 1 ((usK h u k).map CV.b)),(6,.own (.lst (out.map Tm.cv)) 200056),(200056,.tok 51 2),(7,.val (.i i)),(8,.val (.b (htK h k))),(9,.val (.i k))]
  refine aB (b9 b.length st2 (a7 ⟨rfl,rfl,rfl,by rw [b5q];rfl,rfl,rfl,rfl,by rw [b5y];rfl,rfl,trivial⟩) ?_);intro k hk;have hulk:=c0a h u k;refine aS (aS (aR ?_));refine nc zl (nc zl (nc zp (nc zi ?_)));refine aC rfl (fun gE=>?_) (fun gE=>?_)
  ·have kB:k<b.length:=by simpa using gE
   obtain ⟨y,hy⟩:∃ y,b[k]?=some y:=⟨b[k],getElem?_eq_getElem kB⟩
   have gO:=Tm.map_at hy;have hyo:=hb y (mem_of_getElem? hy);refine aK ?_;refine aS (aB ?_);cases tO:htK h k with
   | true =>
    obtain ⟨n1,n2⟩:=c0Y tO u;refine AWp.wk (a7 (s':=[(0,.val (.lst (a.map Tm.cv))),(1,.val (.lst (b.map Tm.cv))),(5,.sl 300005 0 b.length 1),(300005,.mrow 4 1 ((usK h u k).map CV.b)),(6,.own (.lst (out.map Tm.cv)) 200056),(200056,.tok 51 2),(7,.val (.i i)),(8,.val (.b true)),(9,.val (.i k))]) ⟨rfl,rfl,rfl,rfl,rfl,rfl,rfl,by rw [<-tO];rfl,rfl,trivial⟩) ?_;refine aS (aD (by kernel_rfl) (by kernel_rfl) ?_);refine nc zl (nc zF (nc zl (nc zH (nc zH (nc zH (nc zH (nc zH (nc zI (nc zl (nc zH (nc zH (nc zH (nc zH (nc zH (nc zH (nc zH (nc zH (nc zH (nc zI ?_)))))))))))))))))));refine ⟨by kernel_rfl,?_⟩;refine aC rfl (fun h=>by cases h) (fun _=>?_);refine aK ?_;refine aR ?_;refine nc zl (nc zu (nc ze ?_));refine ⟨kB,a7 ⟨rfl,rfl,rfl,?_,rfl,rfl,rfl,?_,rfl,trivial⟩⟩
    ·rw [n2];rfl
    ·rw [n1];rfl
   | false =>
    have eX:=c1W tO u;obtain ⟨f,hf⟩:∃ f,u[k]?=some f:=⟨u[k]'(by omega),getElem?_eq_getElem (by omega)⟩
    have pK:=c1m hf;have cM:=c0F hy hf (by rw [<-hh];exact tO);rw [<-hh] at cM;have hum:(u.map CV.b).length=b.length:=by rw [length_map];exact hul
    refine AWp.wk (a7 (s':=[(0,.val (.lst (a.map Tm.cv))),(1,.val (.lst (b.map Tm.cv))),(5,.sl 300005 0 b.length 1),(300005,.mrow 4 1 (u.map CV.b)),(6,.own (.lst (out.map Tm.cv)) 200056),(200056,.tok 51 2),(7,.val (.i i)),(8,.val (.b false)),(9,.val (.i k))]) ⟨rfl,rfl,rfl,by show some (AV.mrow _ _ _)=some (AV.mrow _ _ _);rw [eX],rfl,rfl,rfl,by rw [<-tO];rfl,rfl,trivial⟩) ?_;cases f with
    | true =>
     obtain ⟨n1,n2⟩:=b2X tO (fun e=>by have:=cM.1 e;cases this) u;refine aS (aD (by kernel_rfl) (by kernel_rfl) ?_);refine nc zl (nc zF (nc zl (nc (zl (p:=gb)) (nc (zl (p:=gb)) (nc (zP (k:=k) (p:=gb)) (nc (zQ (r:=gb) (G:=pK)) (nc (zF (r:=gb)) (nc zJ (nc zl (nc zH (nc zH (nc zH (nc zH (nc zH (nc zH (nc zH (nc zH (nc zH (nc zI ?_)))))))))))))))))));refine ⟨by kernel_rfl,?_⟩;refine aC rfl (fun h=>by cases h) (fun _=>?_);refine aK ?_;refine aR ?_;refine nc zl (nc zu (nc ze ?_));refine ⟨kB,a7 ⟨rfl,rfl,rfl,?_,rfl,rfl,rfl,?_,rfl,trivial⟩⟩
     ·rw [n2];rfl
     ·rw [n1];rfl
    | false =>
     refine aS (aD (by kernel_rfl) (by kernel_rfl) ?_);refine nc zl (nc zF (nc zl (nc (zl (p:=gb)) (nc (zl (p:=gb)) (nc (zP (k:=k) (p:=gb)) (nc (zQ (r:=gb) (G:=pK)) (nc (zF (r:=gb)) (nc zJ (nc zl (nc (zl (p:=gb)) (nc (zl (p:=gb)) (nc (zq (j:=i) (r:=gb) (H:=mH) (hz:=hsa)) (nc (zr (r:=gb)) (nc (zl (p:=gb)) (nc (zl (p:=gb)) (nc (zq (j:=k) (r:=gb) (H:=gO) (hz:=hsb)) (nc (zr (r:=gb)) (nc (zw (p:=gb) (z:=A7 w t y fV hyo)) (nc zJ ?_)))))))))))))))))));refine ⟨by kernel_rfl,?_⟩;refine aC rfl (fun fG=>?_) (fun fG=>?_)
     ·have fG:l8 t y=true:=fG;have he:h=some k:=cM.2 (by rw [fG];rfl);obtain ⟨n1,n2⟩:=b9l (k:=k) u;refine aS (aR ?_);refine nc zl (nc zl (nc (zP (k:=k)) (nc (zS (F:=pK)) ?_)));refine aR ?_;refine nc ze ?_;refine aR ?_;refine nc zl (nc zu (nc ze ?_));refine ⟨kB,a7 ⟨rfl,rfl,rfl,?_,rfl,rfl,rfl,?_,rfl,trivial⟩⟩
      ·show some (AV.mrow _ _ _)=some (AV.mrow _ _ _);rw [he,n2,List.map_set];rfl
      ·rw [he,n1];rfl
     ·have fG:l8 t y=false:=fG;obtain ⟨n1,n2⟩:=b2X tO (fun e=>by have:=cM.1 e;rw [fG] at this;cases this) u;refine aK ?_;refine aR ?_;refine nc zl (nc zu (nc ze ?_));refine ⟨kB,a7 ⟨rfl,rfl,rfl,?_,rfl,rfl,rfl,?_,rfl,trivial⟩⟩
      ·rw [n2];rfl
      ·rw [n1];rfl
  ·have kB:k=b.length:=by
    have:¬ k<b.length:=by simpa using gE
    omega
   subst kB;refine aE ?_;refine aS (aR ?_);refine nc zl (nc zF ?_);have hol2:(out.map Tm.cv).length<=i:=by rw [length_map];exact lU
   have fS:=Tm.size_all out;refine aC rfl (fun hn=>?_) (fun hn=>?_)
   ·have hn:(!htK h b.length)=true:=hn;have fJ:h=none:=by
     cases hc:h with
     | none=>rfl
     | some q =>
      rw [hc] at hn;have:=b7D (hh.symm.trans hc);simp [htK] at hn;omega
    have hls:=hls1 fJ;have eX:usK h u b.length=u:=by rw [fJ];rfl
    refine aR ?_;refine nc zl (nc zl (nc zl (nc (zq (j:=i) (H:=mH) (hz:=hsa)) (nc zr (nc zC (nc zD (nc ze ?_)))))));refine AWp.wk ((a7 (s':=[(0,.val (.lst (a.map Tm.cv))),(1,.val (.lst (b.map Tm.cv))),(5,.sl 300005 0 b.length 1),(300005,.mrow 4 1 (u.map CV.b)),(6,.own (.lst ((out++[t]).map Tm.cv)) 300056),(300056,.tok 51 2),(7,.val (.i i))]) ⟨rfl,rfl,rfl,by show some (AV.mrow _ _ _)=some (AV.mrow _ _ _);rw [eX],?_,rfl,rfl,trivial⟩).trans (o8 300056 200056 rfl rfl rfl rfl)) ?_
    ·show some (AV.own (.lst _) _)=some (AV.own (.lst _) _);rw [map_append,map_cons,map_nil,Tm.cv_eq t]
    refine aR ?_;refine nc zl (nc zu (nc ze ?_));refine ⟨a.length-(i+1),st (i+1) (out++[t]) u,by omega,⟨i+1,out++[t],u,rfl,by omega,hul,?_,by simp;omega,rfl⟩,a7 ⟨rfl,rfl,rfl,rfl,rfl,rfl,rfl,trivial⟩⟩;rw [<-dA,hls,List.append_assoc];rfl
   ·have hn:(!htK h b.length)=false:=hn;obtain ⟨q,hq⟩:∃ q,h=some q:=by
     cases hc:h with
     | none=>rw [hc] at hn;cases hn
     | some q=>exact ⟨q,rfl⟩
    have hql:=b7D (hh.symm.trans hq);have hls:=hls2 q hq;have eX:usK h u b.length=u.set q true:=by rw [hq];simp only [usK];rw [if_pos hql]
    refine aK ?_;refine AWp.wk (a7 (s':=[(0,.val (.lst (a.map Tm.cv))),(1,.val (.lst (b.map Tm.cv))),(5,.sl 300005 0 b.length 1),(300005,.mrow 4 1 ((u.set q true).map CV.b)),(6,.own (.lst (out.map Tm.cv)) 200056),(200056,.tok 51 2),(7,.val (.i i))]) ⟨rfl,rfl,rfl,by show some (AV.mrow _ _ _)=some (AV.mrow _ _ _);rw [eX],rfl,rfl,rfl,trivial⟩) ?_;refine aR ?_;refine nc zl (nc zu (nc ze ?_));refine ⟨a.length-(i+1),st (i+1) out (u.set q true),by omega,⟨i+1,out,u.set q true,rfl,by omega,by simp [hul],?_,by omega,rfl⟩,a7 ⟨rfl,rfl,rfl,rfl,rfl,rfl,rfl,trivial⟩⟩;rw [<-dA,hls]
 ·have kY:i=a.length:=by
   have:¬ i<a.length:=by simpa using kA
   omega
  subst kY;have he:a1s a b=out:=by rw [<-dA,List.drop_length,lsD,append_nil]
  rw [he];refine aE ?_;refine aS (aR ?_);refine nc zl (nc ze ?_);exact aT (And.intro (.inr rfl) rfl)
theorem a4E:∀ {a b:List Tm} {u:List Bool} {t:Tm},t∈lsD a b u->t∈a
 | [],b,u,t,h=>by unfold lsD at h;exact h
 | x::a,b,u,t,h=>by
  unfold lsD at h;split at h
  ·rcases mem_cons.1 h with rfl | h
   ·exact List.mem_cons_self
   ·exact List.mem_cons_of_mem _ (a4E h)
  ·exact List.mem_cons_of_mem _ (a4E h)
theorem a3t:∀ (a b:List Tm) (u:List Bool),(lsD a b u).length<=a.length
 | [],b,u=>by unfold lsD;exact Nat.le_refl _
 | x::a,b,u=>by
  unfold lsD;split
  ·have:=a3t a b u;simp;omega
  ·rename_i k _;have:=a3t a b (u.set k true);simp;omega
end Go.Proofs.YtglmoficcjphaaaGreat
