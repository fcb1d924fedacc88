/-
 EqWays EqConcat ClSort AbZero ClNmW AbNilF EqFns EqFac KbRef KbRef2 OrRef OrRef2 OrCom OrLw EqRes EqDoc ClNmX ClTtM ClRefN EqRef AbStr PrQuo EqRef2 EqRef3 EqAlive EqLw
-/
import Derived.Test.YtglmoficcjphaaaGreatMg10
import Derived.Test.YtglmoficcjphaaaGreatMg3
import Derived.Test.YtglmoficcjphaaaGreatMg2
import Derived.Test.YtglmoficcjphaaaGreatMg9
import Derived.Test.YtglmoficcjphaaaGreatMg4
import Derived.Test.YtglmoficcjphaaaGreatMg8
import Derived.Laws.Strings
import Derived.Laws.Strings3
import Derived.Laws.Concat
import Derived.Lib.Strings
import Derived.Laws.BytesArg
namespace Go.Proofs.YtglmoficcjphaaaGreat
open Go.RowKit Go.MapKept Go.Shelf
set_option linter.unusedVariables false
set_option linter.unusedSimpArgs false
attribute [local go_sem] Oper.semAt_some
noncomputable def b9L (p:Tm×Tm):List CV:=[p.1.cw,p.2.cw]
def b9T (v1 v2 v3 v4:Value) (x:Nat):List Value:=if x=0 then [.agg #[v1,v2],.agg #[v3,v4]] else [.agg #[v3,v4],.agg #[v1,v2]]
set_option maxRecDepth 100000 in
set_option maxHeartbeats 2000000 in
theorem b6X (l Bb ob:Nat) (v1 v2 v3 v4:Value) (R:Nat→Nat→Prop) (w:World) (hc:(R Bb (ob+1)∧w.cell? ⟨Bb,ob+1,none⟩=some v1)∧(R Bb (ob+2)∧w.cell? ⟨Bb,ob+2,none⟩=some v2)∧(R Bb (ob+3)∧w.cell? ⟨Bb,ob+3,none⟩=some v3)∧(R Bb (ob+4)∧w.cell? ⟨Bb,ob+4,none⟩=some v4))
  (J:List Nat→World→Prop)
  (hY:∀ pre (x:Nat) V,J pre V→x=pre.length∧x<2→YieldAt Fence.wide 1 Tryz.prog l (b9T v1 v2 v3 v4 x).toArray V fun e V'=>e = .returned (.bool true)∧J (pre++[x]) V'∧KpX w.heap.size (fun b=>¬ ∃ o,R b o) V V')
  (W:World) (hW:Below w.heap.size w W) (h0:J [] W) :
  CallsIn Fence.wide 2 Tryz.prog 81 #[.func (.yield l) #[] #[],.pointer (some ⟨Bb,ob,none⟩)] W fun e W'=>(∃ v,e = .returned v)∧∃ ys,ys=List.range 2∧J ys W':=by
 have hcs:∀ {V:World},KpX w.heap.size (fun b=>¬ ∃ o,R b o) w V→V.cell? ⟨Bb,ob+1,none⟩=some v1∧V.cell? ⟨Bb,ob+2,none⟩=some v2∧V.cell? ⟨Bb,ob+3,none⟩=some v3∧V.cell? ⟨Bb,ob+4,none⟩=some v4:=fun {V} hV=>by
  have hkeep:∀ b o u,R b o→w.cell? ⟨b,o,none⟩=some u→V.cell? ⟨b,o,none⟩=some u:=fun b o u hr hc=>by
   have hb:b<w.heap.size:=World.block_lt_of_cell? w _ hc
   rw [World.cell?_of_block (w:=w) (hV b hb (fun hn=>hn ⟨o,hr⟩))]
   exact hc
  obtain ⟨⟨g1,g2⟩,⟨g3,g4⟩,⟨g5,g6⟩,g7,g8⟩:=hc
  exact ⟨hkeep _ _ _ g1 g2,hkeep _ _ _ g3 g4,hkeep _ _ _ g5 g6,hkeep _ _ _ g7 g8⟩
 have hW0:KpX w.heap.size (fun b=>¬ ∃ o,R b o) w W:=fun b hb _=>hW.block b hb
 have HC:Hid (∀ {V:World},KpX w.heap.size (fun b=>¬ ∃ o,R b o) w V→V.cell? ⟨Bb,ob+1,none⟩=some v1∧V.cell? ⟨Bb,ob+2,none⟩=some v2∧V.cell? ⟨Bb,ob+3,none⟩=some v3∧V.cell? ⟨Bb,ob+4,none⟩=some v4):=fun {V} h=>hcs h
 clear hcs hc
 obtain ⟨c1,c2,c3,c4⟩:=HC.out hW0
 obtain ⟨fn,tmps,assign,body,hy,hR⟩:=hY [] 0 _ h0 ⟨rfl,by omega⟩
 have hy:Sem.run Tryz.prog (Instr.yield l #[.agg #[v1,v2],.agg #[v3,v4]]) W = .ok (.round l fn tmps assign body) W:=hy
 refine callsIn_of_wp Tryz.func81 rfl trivial ?_ rfl
 simp only [Tryz.ntmps81,List.size_toArray,List.length_cons,List.length_nil,Nat.reduceAdd,Nat.reduceSub,Array.replicate_succ,Array.replicate_zero,List.push_toArray,List.append_toArray,List.nil_append,List.cons_append]
 gi_wp2
 refine hR.mono ?_
 rintro e V3 ⟨rfl,hJ3,hk3⟩
 have hK3:KpX w.heap.size (fun b=>¬ ∃ o,R b o) w V3:=fun b' hb' hx'=>(hk3 b' hb' hx').trans (hW0 b' hb' hx')
 clear c1 c2 c3 c4 hy hR
 obtain ⟨c1,c2,c3,c4⟩:=HC.out hK3
 obtain ⟨fn,tmps,assign,body,hy,hR⟩:=hY [0] 1 _ hJ3 ⟨rfl,by omega⟩
 have hy:Sem.run Tryz.prog (Instr.yield l #[.agg #[v3,v4],.agg #[v1,v2]]) V3 = .ok (.round l fn tmps assign body) V3:=hy
 gi_wp2
 refine hR.mono ?_
 rintro e V4 ⟨rfl,hJ4,hk4⟩
 gi_wp2
 go_end0
 exact ⟨⟨_,rfl⟩,_,rfl,hJ4⟩
theorem b3C {R:Nat→Nat→Prop} {w:World} {l:Lt} {xs:List Value} (h:Rep R w l.cw xs):∃ v0 v1 v2 v3 v4,xs=[v0,v1,v2,v3,v4]∧VRep R w l.a.cw (.agg #[v1,v2])∧VRep R w l.b.cw (.agg #[v3,v4]):=by
 obtain ⟨x1,y1,rfl,h1,h2⟩:=E7.1 h
 obtain ⟨x2,y2,rfl,h3,h4⟩:=h2
 obtain ⟨x3,y3,rfl,h5,h6⟩:=h4
 have h6:y3=[]:=h6
 subst h6
 have l1:x1.length=1:=h1.len
 have l2:x2.length=2:=h3.len
 have l3:x3.length=2:=h5.len
 match x1,x2,x3,l1,l2,l3 with
 | [v0],[v1,v2],[v3,v4],_,_,_=>exact ⟨v0,v1,v2,v3,v4,rfl,⟨_,rfl,h3⟩,_,rfl,h5⟩
theorem a2L (l:Lt):b0C Tryz.prog 81 [.ptr l.cw] 2 b9L (K3 l):=by
 rintro w lb R ⟨u,us,rfl,h1,h2⟩
 have h2:us=[]:=h2
 subst h2
 obtain ⟨b,off,xs,rfl,h3,h4⟩:=U7.1 h1
 obtain ⟨v0,v1,v2,v3,v4,rfl,g1,g2⟩:=b3C h3
 have hc:∀ i,i<5→R b (off+i)∧w.cell? ⟨b,off+i,none⟩=[v0,v1,v2,v3,v4][i]?:=fun i hi=>h4 i hi
 refine ⟨b9T v1 v2 v3 v4,fun k=>by unfold b9T;split<;>rfl,fun k x hx=>?_,fun l2 J W hW hJ hY h0=>?_⟩
 ·match k,hx with
  | 0,hx=>cases hx;exact ⟨_,_,rfl,g1,_,_,rfl,g2,rfl⟩
  | 1,hx=>cases hx;exact ⟨_,_,rfl,g2,_,_,rfl,g1,rfl⟩
  | k+2,hx=>cases hx
 ·exact b6X l2 b off v1 v2 v3 v4 R w ⟨hc 1 (by omega),hc 2 (by omega),hc 3 (by omega),hc 4 (by omega)⟩ J hY W hW h0
theorem a5p (W:World) (l:Lt):AFun Tryz.prog W 55 [l.cw] (.val (.fn 81 0 [.ptr l.cw])):=by
 refine f0 (rs:=[.fn 81 0 [.ptr l.cw]]) Tryz.func55 Tryz.ntmps55 rfl rfl rfl rfl ?_
 intro w U hW
 refine aS (aR ?_)
 refine nc zd (nc ze ?_)
 refine AWp.wk (A5 1 rfl rfl rfl (s':=[]) trivial rfl rfl rfl) ?_
 refine aS (aR ?_)
 refine nc zB (nc ze ?_)
 exact aT ⟨.inr rfl,rfl⟩
end Go.Proofs.YtglmoficcjphaaaGreat
namespace Go.Proofs.YtglmoficcjphaaaGreat
open Go.RowKit
set_option linter.unusedVariables false
set_option linter.unusedSimpArgs false
theorem a8R:(Tryz.prog.info? 44).map (fun i=>(i.zero,i.size,i.bytes))=some (some (.agg #[.bool false,.int .i64 0,.slice none 0 0,.int .i64 0,.slice none 0 0]),5,72):=by kernel_rfl
set_option maxRecDepth 100000 in
set_option maxHeartbeats 400000 in
theorem b2r (n:Nat) (hn:n≤2199023255552) (w:World) :
  Calls Tryz.prog 76 #[.slice none 0 0,.int .i64 (n:Int)] w fun e w'=>∃ v,e = .returned v∧w'.ownsRow w.heap.size 44 5 v 0 []∧Below w.heap.size w w':=by
 obtain ⟨i,hi1,hi2,hi3,hi4⟩:=info_parts a8R
 rcases Nat.eq_zero_or_pos n with rfl | h0
 ·go_enter Tryz.func76,Tryz.ntmps76
  go_wp2
  go_ret
  exact ⟨_,rfl,World.ownsRow_nil _ _ _ _,bW _⟩
 ·have hr:=Lib.run_append_nil_zeros (P:=Tryz.prog) w 26 3 26 44 i (.agg #[.bool false,.int .i64 0,.slice none 0 0,.int .i64 0,.slice none 0 0]) .i64 .i64 Tryz.underlying26 Tryz.underlying3 hi1 hi2 n h0 (by rw [hi3];omega) (by omega) (by rw [hi4];omega)
  go_enter Tryz.func76,Tryz.ntmps76
  go_wp2_with (at_builtin;refine Lib.wpList_append_run _ rfl _ _ _ _ rfl _ _ rfl rfl _ _ hr ?_)
  go_wp2
  go_ret
  refine ⟨_,rfl,World.ownsRow_made w.drew _ _ (Nat.le_refl _) (grownCap_le_maxLen _ _ _ _ (by unfold maxLen;omega)) ?_,(Below.refl _ _).drew.alloc (Nat.le_refl _) _⟩
  have:=grownCap_ge w n 0 44
  simp [size_zeroCells]
  try omega
set_option maxRecDepth 100000 in
set_option maxHeartbeats 800000 in
theorem a7j (a:Option Addr) (m c:Nat) (A:Nat→Option Addr) (L C:Nat→Nat) (R:Nat→List Value) (w:World) (hr:Rw 5 w a m A L C R) (hm:m≤1000) (hs:a9X L m≤1099511627776) :
  Calls Tryz.prog 51 #[.slice a m c] w fun e w'=>∃ v,e = .returned v∧w'.ownsRow w.heap.size 44 5 v (a9X L m) (a9c R m)∧Below w.heap.size w w':=by
 obtain ⟨J,hJ⟩:∃ J:Nat→List Value,J=a9c R:=⟨_,rfl⟩
 obtain ⟨N,hN⟩:∃ N:Nat→Nat,N=a9X L:=⟨_,rfl⟩
 have HS:Hid (∀ k,J (k+1)=J k++R k):=fun k=>by rw [hJ];rfl
 have HSN:Hid (∀ k,N (k+1)=N k+L k):=fun k=>by rw [hN];rfl
 have HJ0:Hid (J 0=[]∧N 0=0):=by rw [hJ,hN];exact ⟨rfl,rfl⟩
 have HL:Hid (∀ k,k≤m→N k≤1099511627776):=fun k hk=>by rw [hN];exact Nat.le_trans (b7C L hk) hs
 have HR:Hid (∀ B w',Below B w w'→w.heap.size≤B→Rw 5 w' a m A L C R):=fun B w' hb hB=>hr.below hb hB
 have HR0:Hid (Rw 5 w a m A L C R):=hr
 rw [←hJ,←hN]
 clear hJ hs hr hN
 go_enter Tryz.func51,Tryz.ntmps51
 go_wp2
 go_loop [3,11] (fun s i=>∃ k x:Nat,i = .int .i64 (k:Int)∧k≤m∧s = .int .i64 (x:Int)∧x=N k) (fun s i=>m-(intOf i).toNat)
 case atStart=>exact ⟨0,0,rfl,by omega,rfl,by rw [HJ0.out.2]⟩
 case round =>
  obtain ⟨k,x,rfl,hk,rfl,hx⟩:=hrel
  have HX:Hid (x=N k):=hx
  have hx1:x≤1099511627776:=by rw [hx];exact HL.out k hk
  clear hx
  by_cases hlt:k<m
  ·rcases HR0.out.2 with h0 | ⟨b,off,rfl,hb,hc⟩
   ·omega
   have hck:=hc k hlt
   have HXX:Hid (x+L k=N (k+1)):=by show x+L k=_;rw [HSN.out k,←HX.out]
   have hx2:x+L k≤1099511627776:=by rw [HXX.out];exact HL.out (k+1) hlt
   obtain ⟨Lk,hLk⟩:∃ y,L k=y:=⟨_,rfl⟩
   obtain ⟨Ak,hAk⟩:∃ y,A k=y:=⟨_,rfl⟩
   obtain ⟨Ck,hCk⟩:∃ y,C k=y:=⟨_,rfl⟩
   rw [hLk] at HXX hx2
   rw [hLk,hAk,hCk] at hck
   clear hLk hAk hCk hc
   go_wp2
   refine ⟨⟨k+1,x+Lk,by go_num,by omega,by go_num,HXX.out⟩,?_⟩
   simp [intOf];omega
  ·obtain rfl:k=m:=by omega
   go_wp2_with fail
   refine (b2r x (by omega) w).mono ?_
   rintro e w1 ⟨v1,rfl,ho1,hb1⟩
   go_wp2
   go_loopw [6,27] (fun u i wr=>∃ j:Nat,i = .int .i64 (j:Int)∧j≤k∧wr.ownsRow w.heap.size 44 5 u (N j) (J j)∧Below w.heap.size w wr) (fun _ i _=>k-(intOf i).toNat)
   case atStart=>exact ⟨0,rfl,by omega,by rw [HJ0.out.1,HJ0.out.2];exact ho1,hb1⟩
   case round =>
    obtain ⟨j,rfl,hj,hoj,hbj⟩:=hrel
    by_cases hlt:j<k
    ·obtain ⟨hn1,hbs,hRl,hone⟩:=(HR.out _ _ hbj (Nat.le_refl _)).1 j hlt
     rcases (HR.out _ _ hbj (Nat.le_refl _)).2 with h0 | ⟨b,off,rfl,hb,hc⟩
     ·omega
     have hck:=hc j hlt
     have hJl:N j+L j≤1099511627776:=by
      have:=HL.out (j+1) hlt
      rw [HSN.out j] at this
      exact this
     have HSj':Hid (J (j+1)=J j++R j∧N (j+1)=N j+L j):=⟨HS.out j,HSN.out j⟩
     obtain ⟨Lk,hLk⟩:∃ y,L j=y:=⟨_,rfl⟩
     obtain ⟨Ak,hAk⟩:∃ y,A j=y:=⟨_,rfl⟩
     obtain ⟨Ck,hCk⟩:∃ y,C j=y:=⟨_,rfl⟩
     obtain ⟨Rk,hRk⟩:∃ y,R j=y:=⟨_,rfl⟩
     obtain ⟨Jk,hJk⟩:∃ y,J j=y:=⟨_,rfl⟩
     obtain ⟨Nk,hNk⟩:∃ y,N j=y:=⟨_,rfl⟩
     rw [hAk,hRk] at hbs
     rw [hRk] at hone
     rw [hLk,hRk] at hRl
     rw [hLk,hAk,hCk] at hck
     rw [hLk,hAk,hCk] at hn1
     rw [hJk,hRk,hNk,hLk] at HSj'
     rw [hJk,hNk] at hoj
     rw [hNk,hLk] at hJl
     have hsz:=hbj.size
     have HRl:=hid hRl
     clear hLk hAk hCk hRk hJk hNk hc hRl
     go_wp2_with (at_builtin;refine U5 _ rfl _ _ 26 rfl w.heap.size 44 (.agg #[.bool false,.int .i64 0,.slice none 0 0,.int .i64 0,.slice none 0 0]) 5 72 Tryz.underlying26 a8R rfl (by decide) _ Nk Jk rfl hoj Ak Lk Ck Rk rfl hn1 hbs HRl.out hone ?d1 ?d2 hsz ?_)
     case d1=>unfold maxLen;omega
     case d2=>omega
     intro v2 w2 ho2 hg2
     have hb2:=hbj.trans (a7t hoj hg2 hsz)
     clear hg2
     go_wp2
     go_roundw
     case rel=>exact ⟨j+1,by go_num,hlt,by rw [HSj'.out.1,HSj'.out.2];exact ho2,hb2⟩
     case measure=>simp [intOf];omega
    ·obtain rfl:j=k:=by omega
     go_wp2
     go_ret
     exact ⟨_,rfl,hoj,hbj⟩
set_option maxRecDepth 100000
theorem a8k {U:Nat→Nat→Prop} {w:World}:∀ {l:List (List Lt)} {ys:List Value},Sq ((l.map fun x=>CV.lst (x.map Lt.cv)).map fun c=>Rep U w c) ys →
  ∃ (A:Nat→Option Addr) (L C:Nat→Nat) (R:Nat→List Value),∀ r x,l[r]?=some x→ys[r]?=some (.slice (A r) (L r) (C r))∧L r=x.length∧(A r=none→L r=0∧C r=0)∧At U w (A r) (R r)∧Sq ((x.map Lt.cv).map fun c=>Rep U w c) (R r)
 | [],ys,h=>⟨fun _=>none,fun _=>0,fun _=>0,fun _=>[],fun r x hx=>by simp at hx⟩
 | x::l,ys,h=>by
  obtain ⟨y1,y2,rfl,h1,h2⟩:=h
  obtain ⟨a,n,c,rfl,g1,g2,g3,g4,zs,g5,g6⟩:=S3.1 h1
  obtain ⟨A,L,C,R,hR⟩:=a8k (l:=l) h2
  refine ⟨fun r=>match r with | 0=>a | r+1=>A r,fun r=>match r with | 0=>n | r+1=>L r,fun r=>match r with | 0=>c | r+1=>C r,fun r=>match r with | 0=>zs | r+1=>R r,fun r y hy=>?_⟩
  cases r with
  | zero =>
   simp at hy
   subst hy
   exact ⟨rfl,by rw [g1,List.length_map],g4,g5,g6⟩
  | succ r =>
   simp at hy
   exact hR r y hy
theorem a9l {U:Nat→Nat→Prop} {w:World} {l:List (List Lt)} {L:Nat→Nat} {R:Nat→List Value} (h:∀ r x,l[r]?=some x→L r=x.length∧Sq ((x.map Lt.cv).map fun c=>Rep U w c) (R r)) :
  ∀ k,k≤l.length→Sq (((l.take k).flatten.map Lt.cv).map fun c=>Rep U w c) (a9c R k)∧a9X L k=(l.take k).flatten.length:=by
 intro k
 induction k with
 | zero=>intro _;exact ⟨rfl,rfl⟩
 | succ k ih =>
  intro hk
  obtain ⟨h1,h2⟩:=ih (by omega)
  obtain ⟨x,hx⟩:∃ x,l[k]?=some x:=⟨l[k],List.getElem?_eq_getElem (by omega)⟩
  obtain ⟨h3,h4⟩:=h k x hx
  rw [List.take_add_one,hx,List.flatten_append,a9c,a9X,List.map_append,List.map_append,List.length_append,h2,h3]
  simp only [Option.toList_some,List.flatten_cons,List.flatten_nil,List.append_nil]
  exact ⟨B8 h1 h4,trivial⟩
theorem a7z (W:World) (l:List (List Lt)) (hl:l.length≤1000) (hs:l.flatten.length≤1099511627776):AFun Tryz.prog W 51 [.lst (l.map fun x=>CV.lst (x.map Lt.cv))] (.val (.lst (l.flatten.map Lt.cv))):=by
 refine ⟨C6 Tryz.func51 rfl rfl,.inl rfl,rfl,?_⟩
 rintro U w vs hW ⟨u1,us1,rfl,h1,h3⟩
 have h3:us1=[]:=h3
 subst h3
 obtain ⟨a,n,c,rfl,g1,g2,g3,g4,ys,g5,g6⟩:=j9.1 h1
 rw [List.length_map] at g1
 subst g1
 obtain ⟨A,L,C,R,hR⟩:=a8k g6
 obtain ⟨hj,hn⟩:=a9l (fun r x hx=>⟨(hR r x hx).2.1,(hR r x hx).2.2.2.2⟩) l.length (Nat.le_refl _)
 rw [List.take_length] at hj hn
 have hrw:Rw 5 w a l.length A L C R:=by
  refine ⟨fun r hr=>?_,?_⟩
  ·obtain ⟨k1,k2,k3,k4,k5⟩:=hR r _ (List.getElem?_eq_getElem hr)
   refine ⟨k3,a8J k4,?_,Q3 k5⟩
   rw [C7 (n:=fun _=>5) (fun c hc xs hx=>by
    obtain ⟨t,ht,rfl⟩:=List.mem_map.1 hc
    rw [hx.len]
    exact Lt.size_all [t] _ (by simp)) k5,k2]
   rw [List.map_const',List.sum_replicate_nat]
   simp
  ·by_cases hz:l.length=0
   ·exact .inl hz
   ·refine .inr ?_
    have hc:=a8J g5
    have hy0:=(hR 0 _ (List.getElem?_eq_getElem (by omega:0<l.length))).1
    rcases hc with hc | ⟨b,off,ha,hb,hc⟩
    ·rw [hc] at hy0;simp at hy0
    ·refine ⟨b,off,ha,hb,fun r hr=>?_⟩
     have hy:=(hR r _ (List.getElem?_eq_getElem hr)).1
     have hlt:r<ys.length:=by
      rcases Nat.lt_or_ge r ys.length with h | h
      ·exact h
      ·rw [List.getElem?_eq_none h] at hy;cases hy
     rw [hc r hlt,hy]
 refine (a7j a l.length c A L C R w hrw hl (by rw [hn];exact hs)).mono ?_
 rintro e w' ⟨v,rfl,ho,hb⟩
 obtain ⟨a',c',rfl,k1,k2,k3,k4⟩:=a9I ho
 refine ⟨_,rfl,j9.2 ⟨a',_,c',rfl,by rw [hn,List.length_map],k1,k2,k3,_,k4.keep fun b o v h1 h2=>⟨.inr h1,h2⟩,hj.keep fun b o v h1 h2=>⟨.inl h1,?_⟩⟩,hb⟩
 rw [hb.cell (World.block_lt_of_cell? w _ h2)]
 exact h2
end Go.Proofs.YtglmoficcjphaaaGreat
namespace Go.Proofs.YtglmoficcjphaaaGreat
open Go.RowKit
set_option linter.unusedVariables false
set_option linter.unusedSimpArgs false
set_option maxRecDepth 100000
noncomputable abbrev Sn.cw (s:Sn):CV := .row [s.lit.cw,s.look.cw]
noncomputable def Sn.cv (s:Sn):CV:=s.cw
def ltG {α:Type} (cmp:α→α→Int) (x y:α):Bool:=decide (cmp x y<0)
def ltO (x y:Int):Bool:=decide (x<y)
end Go.Proofs.YtglmoficcjphaaaGreat
namespace Go.Proofs.YtglmoficcjphaaaGreat
open Go.RowKit
set_option linter.unusedVariables false
set_option linter.unusedSimpArgs false
def b0Y:List (Option (List Value))→Option (List Value)
 | []=>some []
 | none::_=>none
 | some x::r=>match b0Y r with | some y=>some (x++y) | none=>none
def plS (k:Nat) (v:Value) (l:List CV) (r:Option (List Value)):Option (List Value):=match k,v,l with
 | 0,v,[]=>match M7 v,G1 v with | true,false=>some [v] | _,_=>none
 | 1,.nilFunc,[]=>some [.slice none 0 0]
 | 2,.nilFunc,_=>r
 | _,_,_=>none
def plC:Nat→CV→Option (List Value)
 | 0,_=>none
 | n+1,⟨k,v,l⟩=>plS k v l (b0Y (l.map (plC n)))
theorem a1r {U:Nat→Nat→Prop} {w:World} {n:Nat} (ih:∀ c vs,plC n c=some vs→Rep U w c vs∧vs.length=c.size):∀ {zs:List CV} {vs:List Value},b0Y (zs.map (plC n))=some vs→∃ segs:List (List Value),segs.flatten=vs∧segs.map List.length=zs.map CV.size∧zs.length=segs.length∧∀ (i:Nat) (c:CV),zs[i]?=some c→∃ seg,segs[i]?=some seg∧Rep U w c seg
 | [],vs,h=>by
  simp [b0Y] at h
  subst h
  exact ⟨[],rfl,rfl,rfl,fun i c hi=>by simp at hi⟩
 | z::zs,vs,h=>by
  rw [List.map_cons] at h
  cases hz:plC n z with
  | none=>rw [hz] at h;simp [b0Y] at h
  | some x =>
   rw [hz] at h
   unfold b0Y at h
   split at h
   ·rename_i y hy
    cases h
    obtain ⟨segs,a1,a2,a3,a4⟩:=a1r ih hy
    obtain ⟨b1,b2⟩:=ih z x hz
    refine ⟨x::segs,by simp [a1],by simp [a2,b2],by simp [a3],fun i c hi=>?_⟩
    cases i with
    | zero=>simp at hi;subst hi;exact ⟨x,rfl,b1⟩
    | succ i=>obtain ⟨seg,c1,c2⟩:=a4 i c (by simpa using hi);exact ⟨seg,by simpa using c1,c2⟩
   ·cases h
theorem a3T {U:Nat→Nat→Prop} {w:World}:∀ (n:Nat) (c:CV) (vs:List Value),plC n c=some vs→Rep U w c vs∧vs.length=c.size
 | 0,c,vs,h=>by cases h
 | n+1,⟨k,v,l⟩,vs,h=>by
  rw [plC] at h
  unfold plS at h
  split at h
  ·split at h
   ·rename_i h1 h2
    cases h
    exact ⟨(V2 h1).2 h2,rfl⟩
   ·cases h
  ·cases h
   exact ⟨a6c U w,rfl⟩
  ·obtain ⟨segs,a1,a2,a3,a4⟩:=a1r (fun c vs h=>a3T (U:=U) (w:=w) n c vs h) h
   refine ⟨?_,?_⟩
   ·show Rep U w (.row l) vs
    rw [E7,←a1]
    exact H3 a3 a4
   ·rw [CV.size_mk,if_pos rfl,←a1,List.length_flatten,a2]
  ·cases h
section
variable {P:Program} {w0:World} {U0:UX} {nt:Nat} {ops:Array Oper} {o:Oper} {S:Nat→Option AV} {gs:List Nat} {d:Nat}
theorem b4c (zs:List CV) (hg:Gd w0 U0 nt ops o gs S) (hd:o.dst=some d) (hn:Nat.blt d nt=true) (h5:Nat.blt d 100000=true) {ty:TypeId} {it:TypeInfo} {cs:Array Value} (ho:o.op = .alloc ty) (hi:P.info? ty=some it) (hz:it.zero=some (.agg cs)) (h0:plC 6 (.row zs)=some cs.toList):AOp P w0 U0 nt ops o gs [(d,[])] S [(d,.bp d 0 []),(100000+d,.bx (.row zs))]:=by
 intro s hs hN a w ⟨D,hv,h⟩ Q K hK
 rw [if_pos (hg s hs a w D hv h)]
 have hrep:Rep (Us w0 U0 D) w (.row zs) cs.toList:=(a3T 6 _ _ h0).1
 have he:(execOp a.eval o).run P w = .ok (.value (.pointer (some ⟨w.heap.size,0,none⟩))) (w.alloc (.cells cs ty)):=by
  simp [execOp,ho,Instr.alloc,zeroValue,typeInfo,hi,hz,D9,Value.cells]
 unfold Oper.wp
 rw [he,Oper.upon_value,hd]
 have:=h.newbox (d:=d) (av := .bx (.row zs)) (hN (d,[]) (by simp)).nr (bL hn) (bL h5) (.inl rfl) ty (fun _=>hrep) (fun _ hl=>absurd hl A4)
 rw [Array.toArray_toList] at this
 exact hK _ _ ⟨_,_,this⟩
theorem zbN {P:Program} {w0:World} {U0:UX} {nt:Nat} {ops:Array Oper} {o:Oper} {S:Nat→Option AV} {gs:List Nat} {d:Nat} {ty:TypeId} {it:TypeInfo} {cs:Array Value} (zs:List CV) (p:Gd w0 U0 nt ops o gs S:=by exact gN rfl) (q:o.dst=some d:=by exact rfl) (r:Nat.blt d nt=true:=by exact rfl) (t:Nat.blt d 100000=true:=by exact rfl) (u:o.op = .alloc ty:=by exact rfl) (v:P.info? ty=some it:=by exact rfl) (x:it.zero=some (.agg cs):=by exact rfl) (y:plC 6 (.row zs)=some cs.toList:=by exact rfl):AOp P w0 U0 nt ops o gs [(d,[])] S [(d,.bp d 0 []),(100000+d,.bx (.row zs))]:=b4c zs p q r t u v x y
theorem b4w (zs:List CV) (hg:Gd w0 U0 nt ops o gs S) (hd:o.dst=some d) (hn:Nat.blt d nt=true) (h5:Nat.blt d 100000=true) {t:TypeId} {parts:Array (Nat×Operand)} {fs:Array Field} {it:TypeInfo} {cs:Array Value} {sz:List Nat} {r:List CV} (ho:o.op = .build t parts) (hu:P.underlying t=some (.struct fs)) (hi:P.info? t=some it) (hz:it.zero=some (.agg cs)) (hsz:szO P fs.toList 0=some sz) (hzz:zs.map CV.size=sz) (h0:b0Y (zs.map (plC 6))=some cs.toList) (hr:N3 S parts.toList zs=some r) :
  AOp P w0 U0 nt ops o (gs++rds parts.toList) [] S [(d,.val (.row r))]:=
 i8 hg hd hn h5 (fun k hk=>List.mem_append_left _ hk) fun s hs a w D hv hm=>by
  obtain ⟨segs,e1,e2,e4,e5⟩:=a1r (U:=Us w0 U0 D) (w:=w) (a3T 6) h0
  obtain ⟨g1,g2⟩:=Q8 (U:=Us w0 U0 D) (w:=w) (ρ:=a.eval) (segs:=segs) hr (fun x hx c n q p hev=>y9 hm (fun k hk=>hs k (List.mem_append_right _ (a3t hx k hk))) hev) e4 e2 e5
  obtain ⟨pl,h1,h2⟩:=a4i hsz
  have hfill:=X8 (place:=fun i=>pl.toArray[i]?) sz (fun i z hz=>by rw [List.getElem?_toArray,h2 i z hz,Nat.zero_add]) (parts.toList.map fun x=>(x.1,a.eval x.2)) segs cs e1.symm (by rw [e2,hzz]) (fun x hx=>by rw [←hzz];exact g1 x hx)
  refine ⟨.agg (E4 segs (parts.toList.map fun x=>(x.1,a.eval x.2))).flatten.toArray,?_,k8 (I3.2 ⟨_,rfl,g2⟩)⟩
  have hb:P.built t (parts.map fun x=>(x.1,a.eval x.2)).toList=some (E4 segs (parts.toList.map fun x=>(x.1,a.eval x.2))).flatten.toArray:=by
   unfold Program.built
   rw [hi,hu]
   simp only [hz,h1]
   rw [Array.toList_map]
   exact hfill
  have:=run_build w t _ _ hb
  generalize a.eval=ρ at this ⊢
  simp [execOp,ho,this]
theorem zbM {P:Program} {w0:World} {U0:UX} {nt:Nat} {ops:Array Oper} {o:Oper} {S:Nat→Option AV} {gs:List Nat} {d:Nat} {t:TypeId} {parts:Array (Nat×Operand)} {fs:Array Field} {it:TypeInfo} {cs:Array Value} {sz:List Nat} {r:List CV} (zs:List CV) (u:Gd w0 U0 nt ops o gs S:=by exact gN rfl) (v:o.dst=some d:=by exact rfl) (y:Nat.blt d nt=true:=by exact rfl) (A:Nat.blt d 100000=true:=by exact rfl) (B:o.op = .build t parts:=by exact rfl) (C:P.underlying t=some (.struct fs):=by exact rfl) (E:P.info? t=some it:=by exact rfl) (F:it.zero=some (.agg cs):=by exact rfl) (G:szO P fs.toList 0=some sz:=by exact rfl) (H:zs.map CV.size=sz:=by exact rfl) (h0:b0Y (zs.map (plC 6))=some cs.toList:=by exact rfl) (hr:N3 S parts.toList zs=some r:=by exact rfl):AOp P w0 U0 nt ops o (gs++rds parts.toList) [] S [(d,.val (.row r))]:=b4w zs u v y A B C E F G H h0 hr
end
end Go.Proofs.YtglmoficcjphaaaGreat
namespace Go.Proofs.YtglmoficcjphaaaGreat
open Go.RowKit
set_option linter.unusedVariables false
set_option linter.unusedSimpArgs false
set_option maxRecDepth 100000
def eqF (p:Lt→Lt→Bool):List Lt→List Lt→Bool
 | [],[]=>true
 | x::c,y::d=>p x y&&eqF p c d
 | _,_=>false
def okCl (c:List Lt):Prop:=c.length≤12∧∀ l∈c,(l.a.rng∧l.a.ok∧l.a.size≤1000)∧(l.b.rng∧l.b.ok∧l.b.size≤1000)
theorem b4Y {c:List Lt} {s:Tm}:s∈F7 c↔∃ l∈c,s=l.a∨s=l.b:=by
 unfold F7
 rw [List.mem_flatMap]
 constructor
 ·rintro ⟨l,hl,h⟩
  exact ⟨l,hl,by simpa using h⟩
 ·rintro ⟨l,hl,h⟩
  exact ⟨l,hl,by simpa using h⟩
theorem okCl.rng {c:List Lt} (h:okCl c):∀ l∈c,l.rng:=fun l hl=>⟨(h.2 l hl).1.1,(h.2 l hl).2.1⟩
theorem okCl.ok {c:List Lt} (h:okCl c):∀ l∈c,l.a.ok∧l.b.ok:=fun l hl=>⟨(h.2 l hl).1.2.1,(h.2 l hl).2.2.1⟩
def Lt.z:Lt:=⟨false,⟨0,[]⟩,⟨0,[]⟩⟩
noncomputable abbrev ltZ:CV := .row [.b false,.row [.i 0,.lst []],.row [.i 0,.lst []]]
def c2X (c:List Lt) (g:Int→Int):List Bd:=b6u (b5Q c).nv ((b5B (b5Q c).nv.length).map g)
end Go.Proofs.YtglmoficcjphaaaGreat
namespace Go.Proofs.YtglmoficcjphaaaGreat
open Go.RowKit
set_option linter.unusedVariables false
set_option linter.unusedSimpArgs false
section
variable {P:Program} {w0:World} {U0:UX} {nt:Nat} {s:AS}
theorem b6y (k n e0 z:Nat) (hk:Nat.ble 500000 k=true) (hn:(Nat.ble 200000 n&&Nat.blt n 400000)=true) (hz:Nat.blt 0 z=true) (hs:look s k=some ⟨0,.lst [],1,0,[]⟩) (hr:A6 s [(n,[])]=true) (hnk:Q9 s n=true):Wk w0 U0 nt s ((k,.sl n 0 0 z)::(n,.mrow e0 z [])::s):=by
 rintro a w ⟨D,hv,h⟩
 have hk5:=Nat.le_of_ble_eq_true hk
 have hrn:=rnB hn
 have hrn':RN n:=RW.rn hrn
 unfold RW at hrn
 have hnk':look s n=none:=by
  cases e:look s n with
  | none=>rfl
  | some av =>
   unfold Q9 at hnk
   rw [List.all_eq_true] at hnk
   have:=hnk _ (B7 e)
   simp [Nat.beq_refl] at this
 have hnr:R4 s n:=(p6 hr (n,[]) (by simp)).nr
 obtain ⟨hv',hhv⟩:∃ hv':Nat→Value,hv'=fun x=>if x=n then .slice none 0 0 else hv x:=⟨_,rfl⟩
 have hvn:∀ x,x≠n→hv' x=hv x:=fun x hx=>by rw [hhv];simp only [if_neg hx]
 have hvd:hv' n = .slice none 0 0:=by rw [hhv];simp
 obtain ⟨s',hs'⟩:∃ s',s'=(k,AV.sl n 0 0 z)::(n,AV.mrow e0 z [])::s:=⟨_,rfl⟩
 rw [←hs']
 have hlk:∀ x,x≠k→x≠n→look s' x=look s x:=fun x h1 h2=>by rw [hs',lN (Ne.symm h1),lN (Ne.symm h2)]
 have hlkk:look s' k=some (.sl n 0 0 z):=by rw [hs',lS]
 have hlkn:look s' n=some (.mrow e0 z []):=by rw [hs',lN (by omega),lS]
 have hl:∀ q e,s7 s' q e↔s7 s q e:=fun q e=>by
  unfold s7
  by_cases e1:q=k
  ·omega
  ·by_cases e2:q=n
   ·subst e2
    rw [hlkn,hnk']
    constructor<;>(rintro ⟨h1,_⟩;cases h1)
   ·rw [hlk q e1 e2]
 have hl2:a8 s'=a8 s:=by funext q;simp only [a8,hl]
 have hmv:∀ {k' av v},look s k'=some av→AVRep (Us w0 U0 D) w hv (a8 s) av v→AVRep (Us w0 U0 D) w hv' (a8 s) av v:=fun {k' av v} h1 h2 =>
  h2.move (fun _ _ _ h1 h2=>⟨h1,h2⟩) (fun _ h=>h) fun h3=>hvn _ (a1g hrn' (hnr k' av h1).1 h3)
 refine ⟨D,hv',h.below,h.dfr,h.size,fun d av g1 g2=>?_,fun m o av g1 g2 g3 g4=>?_,fun m o o' av av' g1 g2 g3 g4 g5=>?_,fun k' av g1 g2=>?_,fun k' av g g1 g2 g3 g4=>?_,fun k' k2 av av' g g1 g2 g3 g4 g5 g6 g7 g8=>?_,fun k' v g1=>?_,h.dlt⟩
 ·rw [hlk d (by omega) (by omega)] at g1
  rw [hl2]
  obtain ⟨v,h1,h2⟩:=h.slot d av g1 g2
  exact ⟨v,h1,hmv g1 h2⟩
 ·have hbk:=E8 g4
  unfold j5 at hbk
  unfold BN at g4
  rw [hlk (100000+m) (by omega) (by omega)] at g3
  rw [hl2,hvn (100000+m) (by omega)]
  by_cases e:b9 m o=k
  ·rw [e,hlkk] at g1
   cases g1
   obtain ⟨v,h1,h2,h3⟩:=h.fld m o _ (by rw [e];exact hs) g2 g3 g4
   have hv0:v = .slice none 0 0:=by
    obtain ⟨q1,q2⟩:VRep (Us w0 U0 D) w (.lst []) v∧Tk hv (a8 s) ⟨0,.lst [],1,0,[]⟩ v.cells.toList:=h1
    obtain ⟨mm,c,f1,f2⟩:=q2 (.inl rfl)
    simp only at f1
    rw [P4] at f1
    cases f1
    obtain ⟨ao,k,c,e1,_⟩:=j9.1 q1
    rw [e1] at f2 ⊢
    simpa [Value.cells,H7] using f2
   subst hv0
   refine ⟨.slice none 0 0,⟨hrn',?_⟩,rfl,h3⟩
   show SlV (hv' n) 0 0 z (.slice none 0 0)
   rw [hvd]
   exact N2 rfl (Nat.le_refl _) (.inl rfl)
  ·rw [hlk _ e (by unfold b9;omega)] at g1
   obtain ⟨v,h1,h2,h3⟩:=h.fld m o av g1 g2 g3 g4
   exact ⟨v,hmv g1 h1,h2,h3⟩
 ·have conv:∀ o (av:AV),look s' (b9 m o)=some av→∃ av',look s (b9 m o)=some av'∧av'.sz=av.sz:=fun o av f1=>by
   by_cases e:b9 m o=k
   ·rw [e,hlkk] at f1
    cases f1
    exact ⟨⟨0,.lst [],1,0,[]⟩,by rw [e];exact hs,rfl⟩
   ·rw [hlk _ e (by unfold b9;omega)] at f1
    exact ⟨av,f1,rfl⟩
  obtain ⟨a1,b1,c1⟩:=conv o av g1
  obtain ⟨a2,b2,c2⟩:=conv o' av' g2
  rw [←c1]
  exact h.fdis m o o' a1 a2 b1 b2 g3 g4 g5
 ·unfold j5 at g2
  rw [hl2]
  by_cases e:k'=n
  ·subst e
   rw [hlkn] at g1
   cases g1
   rw [hvd]
   exact ⟨[],World.ownsRow_nil _ _ _ _,bL hz,(fun c hc=>by cases hc),rfl⟩
  ·rw [hlk k' (by omega) e] at g1
   rw [hvn k' e]
   exact (h.obj k' av g1 g2).move (fun _ _ _ h1 h2=>⟨h1,h2⟩) (fun ht hl=>⟨hl,by
    unfold H7
    rw [hvn _ (hnr k' av g1).1]⟩) (fun _ _=>rfl)
 ·unfold j5 at g2
  by_cases e:k'=n
  ·subst e
   rw [hvd] at g4
   cases g4
  ·rw [hlk k' (by omega) e] at g1
   rw [hvn k' e] at g4 ⊢
   exact h.blk k' av g g1 g2 g3 g4
 ·unfold j5 at g3 g4
  by_cases e:k'=n
  ·subst e
   rw [hvd] at g8
   cases g8
  ·by_cases e2:k2=n
   ·subst e2
    rw [hvd]
    intro h9;cases h9
   ·rw [hlk k' (by omega) e] at g1
    rw [hlk k2 (by omega) e2] at g2
    rw [hvn k' e] at g8
    rw [hvn k2 e2]
    exact h.disj k' k2 av av' g g1 g2 g3 g4 g5 g6 g7 g8
 ·have:=U0.hf k' v g1
  rw [hvn k' (by omega)]
  exact h.fix k' v g1
end
end Go.Proofs.YtglmoficcjphaaaGreat
namespace Go.Proofs.YtglmoficcjphaaaGreat
open Go.RowKit
set_option linter.unusedVariables false
set_option linter.unusedSimpArgs false
set_option maxRecDepth 100000
theorem a1P (W:World) (x y:List Lt) (hl:x.length+y.length≤1000000):AFun Tryz.prog W 51 [.lst [.lst (x.map Lt.cv),.lst (y.map Lt.cv)]] (.val (.lst ((x++y).map Lt.cv))):=by
 have h:=a7z W [x,y] (by simp) (by simp;omega)
 have e:[x,y].flatten=x++y:=by simp
 rw [e] at h
 exact h
theorem a1V (W:World) (c:List Lt) (n:Nat) (hn:n<c.length) (hl:c.length≤100000):AFun Tryz.prog W 29 [.lst (c.map Lt.cv),.i (n:Int)] (.val (.lst ((M6 c n).map Lt.cv))):=by
 have hsz:=Lt.size_all c
 have hc2:=fun w=>a1P w (c.take n) (c.drop (n+1)) (by rw [List.length_take,List.length_drop];omega)
 rw [List.map_take,List.map_drop] at hc2
 have hlen:(c.map Lt.cv).length=c.length:=List.length_map ..
 refine f0 (rs:=[.lst ((M6 c n).map Lt.cv)]) Tryz.func29 Tryz.ntmps29 rfl rfl rfl rfl ?_
 intro w U hW
 refine aS (aR ?_)
 refine nc ze ?_
 refine aS (aD (by kernel_rfl) (by kernel_rfl) ?_)
 refine nc zl (nc zl (nc zbL (nc zl (nc zl (nc zu (nc (zby (lo:=n+1)) (nc zD (nc (zw (z:=hc2 w)) (nc ze ?_)))))))))
 refine ⟨by kernel_rfl,?_⟩
 exact aT (And.intro (.inr rfl) rfl)
theorem a9g (W:World) (l:Lt) (ha:l.a.rng∧l.a.ok∧l.a.size≤29550) (hb:l.b.rng∧l.b.ok∧l.b.size≤29550):AFun Tryz.prog W 56 [l.cw] (.val (.b (a4K l.a l.b))):=by
 have hk:=fun w=>a7Y w l.a l.b ha.1 ha.2.1 (by omega) hb.1 hb.2.1 (by omega)
 obtain ⟨k,hkk⟩:∃ k,k=kb l.a l.b:=⟨_,rfl⟩
 have he:a4K l.a l.b=decide (k=1∨k=2):=by rw [hkk];rfl
 rw [←hkk] at hk
 rw [he]
 refine f0 (rs:=[.b (decide (k=1∨k=2))]) Tryz.func56 Tryz.ntmps56 rfl rfl rfl rfl ?_
 intro w U hW
 refine aS (aR ?_)
 refine nc zd (nc ze ?_)
 refine aS (aR ?_)
 refine nc zg (nc zh (nc zg (nc zh (nc (zw (z:=hk w)) (nc ze ?_)))))
 by_cases h1:k=1
 ·have g:decide (k=1)=true:=decide_eq_true h1
  rw [decide_eq_true (Or.inl h1)]
  refine aS (aR ?_)
  refine nc zl (nc zt (nc zl (nc zO (nc zO (nc zM (nc ze ?_))))))
  exact aT (And.intro (.inr rfl) rfl)
 ·have g:decide (k=1)=false:=decide_eq_false h1
  have e:decide (k=1∨k=2)=decide (k=2):=by simp [h1]
  rw [e]
  refine aS (aR ?_)
  refine nc zl (nc zt (nc zl (nc (zl (p:=gb)) (nc (zt (r:=gb)) (nc zP (nc ze ?_))))))
  exact aT (And.intro (.inr rfl) rfl)
theorem b7h {c:List Lt} (hl:c.length≤100000) (h:∀ l∈c,(l.a.rng∧l.a.ok)∧l.b.rng∧l.b.ok):(⟨0,F7 c⟩:Tm).rng∧(⟨0,F7 c⟩:Tm).ok:=by
 have hm:∀ s∈F7 c,s.rng∧s.ok:=fun s hs=>by
  obtain ⟨l,hl,e⟩:=b4Y.1 hs
  rcases e with rfl | rfl
  ·exact (h l hl).1
  ·exact (h l hl).2
 have hlen:=a8P c
 exact ⟨(Tm.rng_iff _).2 ⟨by show _≤(0:Int)∧(0:Int)≤_;omega,fun s hs=>(hm s hs).1⟩,(Tm.ok_iff _).2 ⟨by show (F7 c).length≤_;omega,fun s hs=>(hm s hs).2⟩⟩
theorem a6u {c:List Lt} (h:∀ l∈c,l.ten):∀ l∈c,(l.a.rng∧l.a.ok)∧l.b.rng∧l.b.ok:=fun l hl=>⟨(h l hl).1.1,(h l hl).2.1⟩
theorem Z3 (W:World) {a b:Tm} (ha:a.ten) (hb:b.ten) (c:List Lt) (hl:c.length≤100000) (hc:∀ l∈c,(l.a.rng∧l.a.ok)∧l.b.rng∧l.b.ok):AFun Tryz.prog W 28 [.lst ((mgT a b).1.map Bd.cv),.lst (c.map Lt.cv)] (.val (.lst ((c.map (Lt.rep (mgS a b))).map Lt.cv))):=by
 have hT:=S2 ha hb
 obtain ⟨h1,h2⟩:=b7h hl hc
 exact a9u W (mgT a b).1 c (by omega) (by have:=hT.len;omega) hT.bdsOk h1 h2
theorem a2Q (W:World) {a b:Tm} (ha:a.ten) (hb:b.ten):AFun Tryz.prog W 27 [a.cw,b.cw] (.tup [.lst ((mgT a b).1.map Bd.cv),.b (mgT a b).2]):=
 b0b W a b ha.1.1 ha.1.2 hb.1.1 hb.1.2 (by have:=ha.2;have:=hb.2;omega) _ (S2 ha hb).told
noncomputable def clC (c:List Lt):CV := .lst (c.map Lt.cv)
theorem a0E (L:List (List Lt)):∀ x∈L.map clC,x.size=1:=by
 intro x hx
 obtain ⟨c,_,rfl⟩:=List.mem_map.1 hx
 rfl
noncomputable abbrev obE (L:List (List Lt)):AS:=[(450001,.obj),(35500100,.sl 300005 0 L.length 1),(300005,.mrow 26 1 (L.map clC))]
noncomputable abbrev a8u:List CV:=[.b false,.row [.i 0,.lst []],.row [.i 0,.lst []]]
theorem b2q {p q:Tm×Tm} {L:List (Tm×Tm)} {rest:List Lt} {k:Nat} (h:L[k]?=some q):a7J p (L.take (k+1)) rest=a7J p (L.take k) rest++(a2l p q rest).toList:=by
 unfold a7J
 rw [List.take_add_one,h,List.filterMap_append]
 congr 1
theorem b1Q {p:Tm×Tm} {L:List (Tm×Tm)} {o:Lt} {rest:List Lt} {k:Nat} (h:L[k]?=some p):a0o (L.take (k+1)) o rest=a0o (L.take k) o rest++a7J p (K3 o) rest:=by
 unfold a0o
 rw [List.take_add_one,h,List.flatMap_append]
 simp
set_option maxHeartbeats 8000000 in
theorem a5Q (W:World) (l o:Lt) (rest:List Lt) (hl:l.ten) (ho:o.ten) (hr:∀ x∈rest,x.ten) (hrl:rest.length≤1000):AFun Tryz.prog W 33 [l.cw,o.cw,.lst (rest.map Lt.cv)] (.val (.lst ((a0o (K3 l) o rest).map clC))):=by
 have hent:a7S Tryz.prog 81:=C6 Tryz.func81 rfl rfl
 have hwl:(K3 l).length=2:=rfl
 have hwo:(K3 o).length=2:=rfl
 refine b4v Tryz.func33 Tryz.ntmps33 rfl rfl rfl rfl ?_
 intro w U hW
 refine O5 (aR ?_)
 refine nc zd (nc zd (nc zd (nc ze ?_)))
 refine ⟨rfl,?_⟩
 refine O5 (aR ?_)
 refine nc (zbj 350001 (C:=fun v h=>by first | (rw [hW.1] at h;cases h) | (have h2:=hU _ v h;cases h2))) ?_
 refine ⟨rfl,?_⟩
 refine a6t ((A5 4 rfl rfl rfl (s':=[(3,.bp 3 0 []),(100003,.bx l.cw),(5,.bp 5 0 []),(100005,.bx (.lst (rest.map Lt.cv))),(7,.bp 350001 0 []),(450001,.obj),(35500100,⟨0,.lst [],1,0,[]⟩)]) ⟨rfl,rfl,rfl,rfl,rfl,rfl,rfl,trivial⟩ rfl rfl rfl).trans ((A5 5 rfl rfl rfl (s':=[(3,.bp 3 0 []),(100003,.bx l.cw),(4,.val (.ptr o.cw)),(7,.bp 350001 0 []),(450001,.obj),(35500100,⟨0,.lst [],1,0,[]⟩)]) ⟨rfl,rfl,rfl,rfl,rfl,rfl,trivial⟩ rfl rfl rfl).trans (b6y 35500100 300005 26 1 rfl rfl rfl rfl rfl rfl))) ?_
 refine a5h (O5 (aR ?_))
 refine nc zy (nc (zw (z:=a5p w l)) ?_)
 refine ⟨rfl,?_⟩
 refine a3s ?_
 refine a6t (a7 (s':=(16,AV.val (.fn 81 0 [.ptr l.cw]))::(4,.val (.ptr o.cw))::(5,.val (.ptr (.lst (rest.map Lt.cv))))::(7,.bp 350001 0 [])::obE []) ⟨rfl,rfl,rfl,rfl,rfl,rfl,rfl,trivial⟩) ?_
 refine a5n (a7l (α:=Tm×Tm) (encC:=b9L) (xs:=K3 l) (ps:=[17,18]) (fun k=>obE (a0o ((K3 l).take k) o rest)) [(4,.val (.ptr o.cw)),(5,.val (.ptr (.lst (rest.map Lt.cv)))),(7,.bp 350001 0 [])] rfl hent (a2L l) rfl ⟨rfl,rfl,rfl,trivial⟩ rfl ⟨rfl,rfl,rfl,trivial⟩ (fun k=>by kernel_rfl) (fun k=>by kernel_rfl) (fun k=>rfl) rfl (by kernel_rfl) (by kernel_rfl) ?_) ?_
 ·intro k p hp w U hU
  have hpt:=b1r hl p (List.mem_of_getElem? hp)
  obtain ⟨L0,hL0⟩:∃ L0,L0=a0o ((K3 l).take k) o rest:=⟨_,rfl⟩
  have hL0l:L0.length≤4:=by
   have:=a0P ((K3 l).take k) o rest
   rw [hL0]
   have h2:((K3 l).take k).length≤2:=by rw [List.length_take];omega
   omega
  rw [b1Q hp,←hL0]
  refine AWp.wk (a7 (s':=(17,AV.val p.1.cw)::(18,.val p.2.cw)::(4,.val (.ptr o.cw))::(5,.val (.ptr (.lst (rest.map Lt.cv))))::(7,.bp 350001 0 [])::obE L0) ⟨rfl,rfl,rfl,rfl,rfl,rfl,rfl,rfl,trivial⟩) ?_
  refine aS (aR ?_)
  refine ne zk (nc zo ?_)
  refine aR ?_
  refine ne zk (nc zo ?_)
  refine ⟨rfl,fun w'=>?_⟩
  refine b0G ((A5 8 rfl rfl rfl (s':=(9,AV.bp 9 0 [])::(100009,.bx p.2.cw)::(4,.val (.ptr o.cw))::(5,.val (.ptr (.lst (rest.map Lt.cv))))::(7,.bp 350001 0 [])::obE L0) ⟨rfl,rfl,rfl,rfl,rfl,rfl,rfl,rfl,trivial⟩ rfl rfl (by kernel_rfl)).trans (A5 9 rfl rfl rfl (s':=(8,AV.val (.ptr p.1.cw))::(4,.val (.ptr o.cw))::(5,.val (.ptr (.lst (rest.map Lt.cv))))::(7,.bp 350001 0 [])::obE L0) ⟨rfl,rfl,rfl,rfl,rfl,rfl,rfl,trivial⟩ rfl rfl (by kernel_rfl))) ?_
  refine a2O (b3U (aR ?_))
  refine nc zbD (nc (zw (z:=a5p w' o)) ?_)
  refine ⟨rfl,?_⟩
  refine a2O ?_
  refine b0G (a7 (s':=(20,AV.val (.fn 81 0 [.ptr o.cw]))::(5,.val (.ptr (.lst (rest.map Lt.cv))))::(7,.bp 350001 0 [])::(8,.val (.ptr p.1.cw))::(9,.val (.ptr p.2.cw))::obE (L0++[])) ⟨rfl,rfl,rfl,rfl,rfl,rfl,by rw [List.append_nil];rfl,by rw [List.append_nil];rfl,trivial⟩) ?_
  refine b1O (a9F (α:=Tm×Tm) (encC:=b9L) (xs:=K3 o) (ps:=[21,22]) (fun j=>obE (L0++a7J p ((K3 o).take j) rest)) [(5,.val (.ptr (.lst (rest.map Lt.cv)))),(7,.bp 350001 0 []),(8,.val (.ptr p.1.cw)),(9,.val (.ptr p.2.cw))] rfl hent (a2L o) rfl ⟨rfl,rfl,rfl,rfl,trivial⟩ rfl ⟨rfl,rfl,rfl,trivial⟩ (fun k=>by kernel_rfl) (fun k=>by kernel_rfl) (fun k=>rfl) rfl (by kernel_rfl) (by kernel_rfl) ?_) ?_
  ·intro j q hq w U hU
   have hqt:=b1r ho q (List.mem_of_getElem? hq)
   obtain ⟨L1,hL1⟩:∃ L1,L1=L0++a7J p ((K3 o).take j) rest:=⟨_,rfl⟩
   have hL1l:L1.length≤6:=by
    have:=a7G p ((K3 o).take j) rest
    have h2:((K3 o).take j).length≤2:=by rw [List.length_take];omega
    rw [hL1,List.length_append]
    omega
   rw [b2q hq,←List.append_assoc,←hL1]
   refine AWp.wk (a7 (s':=(21,AV.val q.1.cw)::(22,.val q.2.cw)::(5,.val (.ptr (.lst (rest.map Lt.cv))))::(7,.bp 350001 0 [])::(8,.val (.ptr p.1.cw))::(9,.val (.ptr p.2.cw))::obE L1) ⟨rfl,rfl,rfl,rfl,rfl,rfl,rfl,rfl,rfl,trivial⟩) ?_
   refine aS (aR ?_)
   refine ne zk (nc zo ?_)
   refine aR ?_
   refine ne zk (nc zo ?_)
   refine ⟨rfl,fun w'=>b6L ?_⟩
   refine aB (aS (aR ?_))
   refine nc zbD (nc zy (nc (zw (z:=a2Q w' hpt.1 hqt.1)) (nc zl (nc zx (nc zx (nc ze (nc ze ?_)))))))
   have hrp:∀ t:Tm,t.ten→(b5 (mgS p.1 q.1) t).rng∧(b5 (mgS p.1 q.1) t).ok∧(b5 (mgS p.1 q.1) t).size≤29550:=fun t ht=>b9j hpt.1 hqt.1 ht
   obtain ⟨ok,hok⟩:∃ ok,ok=(mgT p.1 q.1).2:=⟨_,rfl⟩
   obtain ⟨ld,hld⟩:∃ ld,ld=a4K (b5 (mgS p.1 q.1) p.1) (b5 (mgS p.1 q.1) p.2):=⟨_,rfl⟩
   have hfc:a2l p q rest=if ok=true∧ld=true then some ((rest++[(⟨true,p.2,q.2⟩:Lt)]).map (Lt.rep (mgS p.1 q.1))) else none:=by unfold a2l;rw [hok,hld]
   have hlc:=a9g w' (Lt.rep (mgS p.1 q.1) ⟨false,p.1,p.2⟩) (hrp _ hpt.1) (hrp _ hpt.2)
   have hlc:AFun Tryz.prog w' 56 [(Lt.rep (mgS p.1 q.1) ⟨false,p.1,p.2⟩).cw] (.val (.b ld)):=by rw [hld];exact hlc
   have hA1:=Z3 w' hpt.1 hqt.1 [⟨false,p.1,p.2⟩] (by simp) (fun l hl=>by rw [List.mem_singleton] at hl;subst hl;exact ⟨hpt.1.1,hpt.2.1⟩)
   refine AWp.wk (a7 (s':=(12,AV.val (.lst ((mgT p.1 q.1).1.map Bd.cv)))::(13,.val (.b ok))::(11,.bp 11 0 [])::(100011,.bx q.2.cw)::(5,.val (.ptr (.lst (rest.map Lt.cv))))::(7,.bp 350001 0 [])::(8,.val (.ptr p.1.cw))::(9,.val (.ptr p.2.cw))::obE L1) ⟨rfl,by rw [hok];rfl,rfl,rfl,rfl,rfl,rfl,rfl,rfl,rfl,rfl,trivial⟩) ?_
   cases ok with
   | false =>
    have hn:a2l p q rest=none:=by rw [hfc,if_neg (by rintro ⟨h,_⟩;cases h)]
    rw [hn]
    refine aS (aS (aR ?_))
    refine nc zl (nc zX (nc zl (nc zO (nc zO (nc zO (nc zO (nc zO (nc zO (nc zO (nc zO (nc zO (nc zO (nc zM ?_)))))))))))))
    refine aC rfl (fun _=>?_) (fun h=>by cases h)
    refine aE ?_
    refine ⟨rfl,a7 ⟨rfl,?_,?_,trivial⟩⟩
    ·show some (AV.sl _ _ _ _)=some (AV.sl _ _ _ _);simp
    ·show some (AV.mrow _ _ _)=some (AV.mrow _ _ _);simp
   | true =>
    refine aS (aS (aR ?_))
    refine nc zl (nc zX (nc zl (nc (zl (p:=gb)) (nc (zbD (r:=gb)) (nc (zbD (r:=gb)) (nc (zbM a8u (u:=gb)) (nc (zD (p:=gb)) (nc (zw (p:=gb) (z:=hA1)) (nc (zq (j:=0) (r:=gb) (H:=rfl) (hz:=Lt.size_all _)) (nc (zr (r:=gb)) (nc (zw (p:=gb) (z:=hlc)) (nc (zX (r:=gb)) (nc zP ?_)))))))))))))
    cases ld with
    | false =>
     have hn:a2l p q rest=none:=by rw [hfc,if_neg (by rintro ⟨_,h⟩;cases h)]
     rw [hn]
     refine aC rfl (fun _=>?_) (fun h=>by cases h)
     refine aE ?_
     refine ⟨rfl,a7 ⟨rfl,?_,?_,trivial⟩⟩
     ·show some (AV.sl _ _ _ _)=some (AV.sl _ _ _ _);simp
     ·show some (AV.mrow _ _ _)=some (AV.mrow _ _ _);simp
    | true =>
     have hy:a2l p q rest=some ((rest++[(⟨true,p.2,q.2⟩:Lt)]).map (Lt.rep (mgS p.1 q.1))):=by rw [hfc,if_pos ⟨rfl,rfl⟩]
     rw [hy]
     have hc2:=a1P w' rest [⟨true,p.2,q.2⟩] (by simp;omega)
     have hA2:=Z3 w' hpt.1 hqt.1 (rest++[⟨true,p.2,q.2⟩]) (by simp;omega) (fun l hl=>by
      rcases List.mem_append.1 hl with h | h
      ·exact a6u hr l h
      ·rw [List.mem_singleton] at h;subst h;exact ⟨hpt.2.1,hqt.2.1⟩)
     have hszc:=a0E L1
     have hL1m:(L1.map clC).length=L1.length:=List.length_map ..
     refine aC rfl (fun h=>by cases h) (fun _=>aK ?_)
     refine aS (aR ?_)
     refine nc zbD (nc zy (nc (zbM a8u) (ne (zbN a8u) (nc zo ?_))))
     refine aD (by kernel_rfl) (by kernel_rfl) ?_
     refine nc z5 (nc zl (nc zbD (nc zy (nc zD (nc zD (nc (zw (z:=hc2)) (nc (zw (z:=hA2)) (nc zD (ne (z9 300006) (nc zba ?_))))))))))
     refine ⟨by kernel_rfl,?_⟩
     refine ⟨rfl,(a7 (s':=[(450001,.obj),(35500100,.sl 300006 0 (L1++[(rest++[(⟨true,p.2,q.2⟩:Lt)]).map (Lt.rep (mgS p.1 q.1))]).length 1),(300006,.mrow 26 1 ((L1++[(rest++[(⟨true,p.2,q.2⟩:Lt)]).map (Lt.rep (mgS p.1 q.1))]).map clC))]) ⟨rfl,?_,?_,trivial⟩).trans (A8 300006 300005 rfl rfl (by kernel_rfl) (by kernel_rfl))⟩
     ·show some (AV.sl _ _ _ _)=some (AV.sl _ _ _ _)
      rw [List.length_append,←hL1m];rfl
     ·show some (AV.mrow _ _ _)=some (AV.mrow _ _ _)
      rw [List.map_append (f:=clC)];rfl
  ·rintro e s' ⟨rfl,m,rfl⟩
   rw [List.take_length]
   refine ⟨rfl,rfl,rfl,?_⟩
   exact a7 ⟨rfl,rfl,rfl,trivial⟩
 ·rintro e s' g ⟨rfl,rfl⟩
  rw [List.take_length]
  refine ⟨rfl,rfl,?_⟩
  refine aS (aR ?_)
  refine nc z5 (nc ze ?_)
  obtain ⟨R,hR⟩:∃ R,R=a0o (K3 l) o rest:=⟨_,rfl⟩
  rw [←hR]
  refine aT ⟨⟨.inr rfl,[(6,AV.val (.lst (((R.map clC).drop 0).take R.length)))],?_,?_,trivial,rfl⟩,rfl⟩
  ·exact (a6Y 6 300005 (e:=26) (z:=1) (lo:=0) (len:=R.length) (l:=R.map clC) rfl rfl rfl (.inl hW.2) (by simp) (s':=[(299999,.ob g 0)]) ⟨rfl,trivial⟩ rfl).trans (a7 ⟨rfl,rfl,trivial⟩)
  ·rw [List.drop_zero,List.take_of_length_le (by simp)]
   rfl
def htK (h:Option Nat) (k:Nat):Bool:=match h with | some i=>decide (i<k) | none=>false
def usK (h:Option Nat) (u:List Bool) (k:Nat):List Bool:=match h with | some i=>if i<k then u.set i true else u | none=>u
noncomputable def c1F (X:List Tm) (y:Tm):Bool:=X.any fun x=>decide (kb x y=1)
theorem b1n (l:Lt):0<wtL l:=by have:=l.a.size_pos;unfold wtL;omega
noncomputable def orD (l:Lt):List (Tm×Tm):=(if kb l.a l.b>0 then [(l.a,l.b)] else [])++(if kb l.a l.b = -1∨kb l.a l.b=2 then [(l.b,l.a)] else [])
noncomputable def prL (p:Tm×Tm):CV := .lst [p.1.cw,p.2.cw]
theorem b5Z {x:List Int} {k:Nat} {z:Int} (h:x[k]?=some z):(x.map CV.i)[k]?=some (.i z):=by rw [List.getElem?_map,h];rfl
def al1:Lt:=⟨false,⟨1,[]⟩,⟨0,[]⟩⟩
def al2:Lt:=⟨true,⟨2,[]⟩,⟨0,[]⟩⟩
end Go.Proofs.YtglmoficcjphaaaGreat
namespace Go.Proofs.YtglmoficcjphaaaGreat
open Go.RowKit
set_option linter.unusedVariables false
set_option linter.unusedSimpArgs false
theorem b4K {a b:List Tm}:a6J a b=false↔¬ b5R a b:=by rw [←b5c,Bool.not_eq_true]
theorem b0N (c:List Lt):(I6 c).length≤c.length+1:=by
 unfold I6
 split
 ·simp
 ·have:=a6g c c.length;omega
end Go.Proofs.YtglmoficcjphaaaGreat
namespace Go.Proofs.YtglmoficcjphaaaGreat
open Go.RowKit
set_option linter.unusedVariables false
set_option linter.unusedSimpArgs false
set_option maxRecDepth 100000
theorem b5T (c:List Lt):∀ k:Nat,-1≤(hvK c k).1∧(hvK c k).1<k
 | 0=>⟨by show (-1:Int) ≤ -1;omega,by show (-1:Int)<_;omega⟩
 | k+1=>by
  obtain ⟨h1,h2⟩:=b5T c k
  unfold hvK
  split
  ·omega
  ·split
   ·simp only;omega
   ·omega
theorem b0m {c:List Lt} {z:Int} (h:z∈I6 c):0≤z∧z<c.length:=by
 unfold I6 at h
 split at h
 ·rw [List.mem_singleton] at h
  have:=b5T c c.length
  omega
 ·unfold gsK at h
  obtain ⟨i,hi,rfl⟩:=List.mem_map.1 h
  have:=List.mem_range.1 (List.mem_filter.1 hi).1
  omega
theorem a8U {c:List Lt} (h:∀ l∈c,l.ten):∀ l∈c,l.fit:=fun l hl=>⟨⟨(h l hl).1.1.1,(h l hl).1.1.2,by have:=(h l hl).1.2;omega⟩,(h l hl).2.1.1,(h l hl).2.1.2,by have:=(h l hl).2.2;omega⟩
noncomputable def Z8 (c:List Lt) (L:List Int) (k:Nat):List (List Lt):=(L.take k).filterMap fun z=>a8t c z.toNat
theorem b5m (c:List Lt) (L:List Int) (k:Nat):(Z8 c L k).length≤L.length:=by
 unfold Z8
 exact Nat.le_trans (List.length_filterMap_le _ _) (by rw [List.length_take];omega)
theorem b2g {c:List Lt} {L:List Int} {k:Nat} {n:Nat} (h:L[k]?=some (n:Int)):Z8 c L (k+1)=Z8 c L k++(a8t c n).toList:=by
 unfold Z8
 rw [List.take_add_one,h,List.filterMap_append]
 congr 1
theorem b0F {c:List Lt} (h:∀ l∈c,l.ten) (n:Nat):∀ l∈M6 c n,l.ten:=fun l hl=>h l (b4H hl)
set_option maxHeartbeats 4000000 in
theorem a3K (W:World) (c:List Lt) (hl:c.length≤100) (hc:∀ l∈c,l.ten):AFun Tryz.prog W 12 [.lst (c.map Lt.cv)] (.val (.lst ((a0A c).map clC))):=by
 have hsz:=Lt.size_all c
 have hLk:=fun w=>a5f w c (by omega) (a8U hc)
 have hLat:∀ z∈I6 c,0≤z∧z<c.length:=fun z hz=>b0m hz
 have hLl:(I6 c).length≤101:=by have:=b0N c;omega
 have hres:a0A c=Z8 c (I6 c) (I6 c).length:=by unfold a0A Z8;rw [List.take_length]
 rw [hres]
 obtain ⟨L,hL⟩:∃ L,L=I6 c:=⟨_,rfl⟩
 rw [←hL] at hLk hLat hLl ⊢
 have hszL:=t8 L
 refine f0 (rs:=[.lst ((Z8 c L L.length).map clC)]) Tryz.func12 Tryz.ntmps12 rfl rfl rfl rfl ?_
 intro w U hW
 refine aS (aR ?_)
 refine nc ze ?_
 refine aS (aR ?_)
 refine nc ze ?_
 refine aS (aS (aR ?_))
 refine nc zl (nc (zw (z:=hLk w)) (nc zp (nc zl ?_)))
 let st:Nat→AS:=fun k=>[(0,.val (.lst (c.map Lt.cv))),(3,.own (.lst ((Z8 c L k).map clC)) 200043),(200043,.tok 26 1),(9,.val (.lst (L.map CV.i))),(10,.val (.i (L.map CV.i).length)),(11,.val (.i k))]
 refine aB (p7 L.length st ((M4 3 200043 26 1 rfl rfl rfl rfl rfl rfl rfl).trans (a7 ⟨rfl,rfl,rfl,rfl,rfl,rfl,trivial⟩)) ?_)
 intro k hk
 refine aS (aR ?_)
 refine nc zi ?_
 refine aS (aC rfl (fun hlt=>?_) (fun hlt=>?_))
 ·have hkl:k<L.length:=by simpa using hlt
  obtain ⟨z,hz⟩:∃ z,L[k]?=some z:=⟨L[k],List.getElem?_eq_getElem hkl⟩
  obtain ⟨hz0,hz1⟩:=hLat z (List.mem_of_getElem? hz)
  obtain ⟨n,rfl⟩:∃ n:Nat,z=(n:Int):=⟨z.toNat,by omega⟩
  have hz':=b5Z hz
  have hn:n<c.length:=by omega
  obtain ⟨x,hx⟩:∃ x,c[n]?=some x:=⟨c[n],List.getElem?_eq_getElem hn⟩
  have hx':=Lt.map_at hx
  have hxt:=hc x (List.mem_of_getElem? hx)
  have hS:=b2g (c:=c) hz
  have hrc:a8t c n=if x.neg=true∧(mgT x.a x.b).2=true then some ((M6 c n).map (Lt.rep (mgS x.a x.b))) else none:=by unfold a8t;rw [hx]
  have hlen3:=b5m c L k
  have hlen4:((Z8 c L k).map clC).length≤101:=by rw [List.length_map];omega
  have hsz3:=a0E (Z8 c L k)
  refine aK ?_
  refine aS (aB (aS (aR ?_)))
  refine nc (zq (j:=k) (H:=hz') (hz:=hszL)) (nc zr (nc ze ?_))
  refine aS (aS (aR ?_))
  refine nc zl (nc zl (nc (zq (j:=n) (H:=hx') (hz:=hsz)) (nc zbK (nc zr (nc zX ?_)))))
  refine aC rfl (fun hb=>?_) (fun hb=>?_)
  ·have hb:(!x.neg)=true:=hb
   have hng:x.neg=false:=by simpa using hb
   have e:Z8 c L (k+1)=Z8 c L k:=by rw [hS,hrc,if_neg (by rw [hng];rintro ⟨h,_⟩;cases h)];simp
   refine aE ?_
   refine aR ?_
   refine nc zu (nc zl ?_)
   refine ⟨hkl,a7 ⟨rfl,?_,rfl,rfl,rfl,rfl,trivial⟩⟩
   rw [e];rfl
  ·have hb:(!x.neg)=false:=hb
   have hng:x.neg=true:=by simpa using hb
   refine aK ?_
   refine aS (aD (by kernel_rfl) (by kernel_rfl) ?_)
   refine nc zl (nc zl (nc (zq (j:=n) (H:=hx') (hz:=hsz)) (nc zbK (nc zr (nc zl (nc zl (nc (zq (j:=n) (H:=hx') (hz:=hsz)) (nc zbK (nc zr (nc (zw (z:=a2Q w hxt.1 hxt.2)) (nc zl (nc zx (nc zx (nc ze (nc ze ?_)))))))))))))))
   refine ⟨by kernel_rfl,?_⟩
   obtain ⟨ok,hok⟩:∃ ok,ok=(mgT x.a x.b).2:=⟨_,rfl⟩
   rw [←hok] at hrc
   refine aS (aR ?_)
   refine nc zl ?_
   refine AWp.wk (a7 (s':=[(0,.val (.lst (c.map Lt.cv))),(3,.own (.lst ((Z8 c L k).map clC)) 200043),(200043,.tok 26 1),(9,.val (.lst (L.map CV.i))),(10,.val (.i (L.map CV.i).length)),(11,.val (.i k)),(5,.val (.i (n:Int))),(6,.val (.lst ((mgT x.a x.b).1.map Bd.cv))),(35,.val (.b ok))]) ⟨rfl,rfl,rfl,rfl,rfl,rfl,rfl,rfl,by rw [hok];rfl,trivial⟩) ?_
   cases ok with
   | false =>
    have e:Z8 c L (k+1)=Z8 c L k:=by rw [hS,hrc,if_neg (by rintro ⟨_,h⟩;cases h)];simp
    refine aC rfl (fun h=>by cases h) (fun _=>aK ?_)
    refine aR ?_
    refine nc zu (nc zl ?_)
    refine ⟨hkl,a7 ⟨rfl,?_,rfl,rfl,rfl,rfl,trivial⟩⟩
    rw [e];rfl
   | true =>
    have e:Z8 c L (k+1)=Z8 c L k++[(M6 c n).map (Lt.rep (mgS x.a x.b))]:=by rw [hS,hrc,if_pos ⟨hng,rfl⟩];rfl
    have hol:=a8K hn
    refine aC rfl (fun _=>?_) (fun h=>by cases h)
    refine aR ?_
    refine nc zl (nc zl (nc zl (nc zl (nc (zw (z:=a1V w c n hn (by omega))) (nc (zw (z:=Z3 w hxt.1 hxt.2 (M6 c n) (by omega) (a6u (b0F hc n)))) (nc zD (nc zE (nc ze ?_))))))))
    refine aR ?_
    refine nc zu (nc zl ?_)
    refine ⟨hkl,(a7 (s':=[(0,.val (.lst (c.map Lt.cv))),(3,.own (.lst ((Z8 c L (k+1)).map clC)) 300043),(300043,.tok 26 1),(9,.val (.lst (L.map CV.i))),(10,.val (.i (L.map CV.i).length)),(11,.val (.i ((k+1:Nat):Int)))]) ⟨rfl,?_,rfl,rfl,rfl,rfl,trivial⟩).trans (A8 300043 200043 rfl rfl rfl rfl)⟩
    show some (AV.own (.lst _) _)=some (AV.own (.lst _) _)
    rw [e,List.map_append (f:=clC)]
    rfl
 ·have hkl:k=L.length:=by
   have:¬ k<L.length:=by simpa using hlt
   omega
  subst hkl
  refine aE ?_
  refine aS (aR ?_)
  refine nc zl (nc ze ?_)
  exact aT (And.intro (.inr rfl) rfl)
noncomputable def a1T (c:List Lt) (L:List Int) (k:Nat):List (List Lt):=(L.take k).flatMap fun z=>a4k c z.toNat
theorem b2M {c:List Lt} {L:List Int} {k:Nat} {n:Nat} (h:L[k]?=some (n:Int)):a1T c L (k+1)=a1T c L k++a4k c n:=by
 unfold a1T
 rw [List.take_add_one,h,List.flatMap_append]
 simp
noncomputable def a2j (c:List Lt) (l:Lt) (n m:Nat):List (List Lt):=(List.range m).flatMap fun j=>a3n c l n j
theorem a4R (c:List Lt) (l:Lt) (n m:Nat):a2j c l n (m+1)=a2j c l n m++a3n c l n m:=by
 unfold a2j
 rw [List.range_succ,List.flatMap_append]
 simp
theorem a3J (c:List Lt) (l:Lt) (n m:Nat):(a3n c l n m).length≤4:=by
 unfold a3n
 split
 ·split
  ·exact a0P _ _ _
  ·exact Nat.zero_le _
 ·exact Nat.zero_le _
theorem a4h (c:List Lt) (l:Lt) (n:Nat):∀ m,(a2j c l n m).length≤4*m
 | 0=>Nat.le_refl _
 | m+1=>by
  have h1:=a4h c l n m
  have h2:=a3J c l n m
  rw [a4R,List.length_append]
  omega
theorem b3O (c:List Lt) (n:Nat):(a4k c n).length≤4*c.length:=by
 unfold a4k
 split
 ·split
  ·exact Nat.zero_le _
  ·exact a4h c _ n c.length
 ·exact Nat.zero_le _
theorem a8G (c:List Lt):∀ (L:List Int) (k:Nat),(a1T c L k).length≤4*c.length*k
 | L,0=>by simp [a1T]
 | [],k+1=>by simp [a1T]
 | z::L,k+1=>by
  have h1:=a8G c L k
  have h2:=b3O c z.toNat
  have e:a1T c (z::L) (k+1)=a4k c z.toNat++a1T c L k:=by unfold a1T;rw [List.take_succ_cons,List.flatMap_cons]
  rw [e,List.length_append,Nat.mul_add,Nat.mul_one]
  omega
set_option maxHeartbeats 8000000 in
theorem a1M (W:World) (c:List Lt) (hl:c.length≤100) (hc:∀ l∈c,l.ten):AFun Tryz.prog W 14 [.lst (c.map Lt.cv)] (.val (.lst ((a9R c).map clC))):=by
 have hsz:=Lt.size_all c
 have hLk:=fun w=>a5f w c (by omega) (a8U hc)
 have hLat:∀ z∈I6 c,0≤z∧z<c.length:=fun z hz=>b0m hz
 have hLl:(I6 c).length≤101:=by have:=b0N c;omega
 have hres:a9R c=a1T c (I6 c) (I6 c).length:=by unfold a9R a1T;rw [List.take_length]
 rw [hres]
 obtain ⟨L,hL⟩:∃ L,L=I6 c:=⟨_,rfl⟩
 rw [←hL] at hLk hLat hLl ⊢
 have hszL:=t8 L
 have hclm:(c.map Lt.cv).length=c.length:=List.length_map ..
 refine f0 (rs:=[.lst ((a1T c L L.length).map clC)]) Tryz.func14 Tryz.ntmps14 rfl rfl rfl rfl ?_
 intro w U hW
 refine aS (aR ?_)
 refine nc ze ?_
 refine aS (aR ?_)
 refine nc ze ?_
 refine aS (aS (aR ?_))
 refine nc zl (nc (zw (z:=hLk w)) (nc zp (nc zl ?_)))
 let st:Nat→AS:=fun k=>[(0,.val (.lst (c.map Lt.cv))),(3,.own (.lst ((a1T c L k).map clC)) 200047),(200047,.tok 26 1),(10,.val (.lst (L.map CV.i))),(11,.val (.i (L.map CV.i).length)),(12,.val (.i k))]
 refine aB (p7 L.length st ((M4 3 200047 26 1 rfl rfl rfl rfl rfl rfl rfl).trans (a7 ⟨rfl,rfl,rfl,rfl,rfl,rfl,trivial⟩)) ?_)
 intro k hk
 refine aS (aR ?_)
 refine nc zi ?_
 refine aS (aC rfl (fun hlt=>?_) (fun hlt=>?_))
 ·have hkl:k<L.length:=by simpa using hlt
  obtain ⟨z,hz⟩:∃ z,L[k]?=some z:=⟨L[k],List.getElem?_eq_getElem hkl⟩
  obtain ⟨hz0,hz1⟩:=hLat z (List.mem_of_getElem? hz)
  obtain ⟨n,rfl⟩:∃ n:Nat,z=(n:Int):=⟨z.toNat,by omega⟩
  have hz':=b5Z hz
  have hn:n<c.length:=by omega
  obtain ⟨x,hx⟩:∃ x,c[n]?=some x:=⟨c[n],List.getElem?_eq_getElem hn⟩
  have hx':=Lt.map_at hx
  have hxt:=hc x (List.mem_of_getElem? hx)
  have hS:=b2M (c:=c) hz
  have hfl:a4k c n=if x.neg=true then [] else a2j c x n c.length:=by unfold a4k a2j;rw [hx]
  obtain ⟨A,hA⟩:∃ A,A=a1T c L k:=⟨_,rfl⟩
  have hAl:A.length≤40400:=by
   have h1:=a8G c L k
   have h2:4*c.length*k≤400*101:=Nat.mul_le_mul (by omega) (by omega)
   rw [hA];omega
  rw [←hA] at hS
  refine aK ?_
  refine aS (aB (aS (aR ?_)))
  refine nc (zq (j:=k) (H:=hz') (hz:=hszL)) (nc zr (nc ze ?_))
  refine aS (aS (aR ?_))
  refine nc zl (nc zl (nc (zq (j:=n) (H:=hx') (hz:=hsz)) (nc zbK (nc zr ?_))))
  refine AWp.wk (a7 (s':=[(0,.val (.lst (c.map Lt.cv))),(3,.own (.lst (A.map clC)) 200047),(200047,.tok 26 1),(10,.val (.lst (L.map CV.i))),(11,.val (.i (L.map CV.i).length)),(12,.val (.i k)),(5,.val (.i (n:Int))),(20,.val (.b x.neg))]) ⟨rfl,by rw [hA];rfl,rfl,rfl,rfl,rfl,rfl,rfl,trivial⟩) ?_
  refine aC rfl (fun hb=>?_) (fun hb=>?_)
  ·have hb:x.neg=true:=hb
   have e:a1T c L (k+1)=A:=by rw [hS,hfl,if_pos hb,List.append_nil]
   refine aE ?_
   refine aR ?_
   refine nc zu (nc zl ?_)
   refine ⟨hkl,a7 ⟨rfl,?_,rfl,rfl,rfl,rfl,trivial⟩⟩
   rw [e];rfl
  ·have hb:x.neg=false:=hb
   have e:a1T c L (k+1)=A++a2j c x n c.length:=by rw [hS,hfl,if_neg (by rw [hb];decide)]
   have hol:=a8K hn
   refine aK ?_
   refine aS (aR ?_)
   refine nc zl (nc zl (nc (zw (z:=a1V w c n hn (by omega))) (nc ze ?_)))
   refine aS (aR ?_)
   refine nc zl (nc zp (nc zl ?_))
   let st2:Nat→AS:=fun m=>[(0,.val (.lst (c.map Lt.cv))),(3,.own (.lst ((A++a2j c x n m).map clC)) 200047),(200047,.tok 26 1),(10,.val (.lst (L.map CV.i))),(11,.val (.i (L.map CV.i).length)),(12,.val (.i k)),(5,.val (.i (n:Int))),(6,.val (.lst ((M6 c n).map Lt.cv))),(24,.val (.lst (c.map Lt.cv))),(25,.val (.i (c.map Lt.cv).length)),(26,.val (.i m))]
   refine aB (p7 c.length st2 (a7 ⟨rfl,by show some (AV.own (.lst _) _)=some (AV.own (.lst _) _);rw [show a2j c x n 0=[] from rfl,List.append_nil],rfl,rfl,rfl,rfl,rfl,rfl,rfl,rfl,rfl,trivial⟩) ?_)
   intro m hm
   refine aS (aR ?_)
   refine nc zi ?_
   refine aS (aC rfl (fun hlt2=>?_) (fun hlt2=>?_))
   ·have hml:m<c.length:=by simpa using hlt2
    obtain ⟨y,hy⟩:∃ y,c[m]?=some y:=⟨c[m],List.getElem?_eq_getElem hml⟩
    have hy':=Lt.map_at hy
    have hyt:=hc y (List.mem_of_getElem? hy)
    have hMs:=a4R c x n m
    have hfn:a3n c x n m=if m≠n∧y.neg=false then a0o (K3 x) y (M6 c n) else []:=by unfold a3n;rw [hy]
    obtain ⟨B,hB⟩:∃ B,B=A++a2j c x n m:=⟨_,rfl⟩
    have hBl:B.length≤50000:=by
     have:=a4h c x n m
     rw [hB,List.length_append];omega
    have hMs':A++a2j c x n (m+1)=B++a3n c x n m:=by rw [hMs,hB,List.append_assoc]
    have hBm:(B.map clC).length≤50000:=by rw [List.length_map];exact hBl
    have hszB:=a0E B
    have hszO:=a0E (a0o (K3 x) y (M6 c n))
    have hOl:((a0o (K3 x) y (M6 c n)).map clC).length≤4:=by rw [List.length_map];exact a0P _ _ _
    refine aK ?_
    refine aS (aB (aS (aR ?_)))
    refine nc zl (nc (zq (j:=m) (H:=hy') (hz:=hsz)) (nc zr (nc (zbN a8u) (nc ze (nc zo ?_)))))
    refine AWp.wk (a7 (s':=[(0,.val (.lst (c.map Lt.cv))),(3,.own (.lst (B.map clC)) 200047),(200047,.tok 26 1),(10,.val (.lst (L.map CV.i))),(11,.val (.i (L.map CV.i).length)),(12,.val (.i k)),(5,.val (.i (n:Int))),(6,.val (.lst ((M6 c n).map Lt.cv))),(24,.val (.lst (c.map Lt.cv))),(25,.val (.i (c.map Lt.cv).length)),(26,.val (.i m)),(7,.val (.i m)),(8,.bp 8 0 []),(100008,.bx y.cw)]) ⟨rfl,by rw [hB];rfl,rfl,rfl,rfl,rfl,rfl,rfl,rfl,rfl,rfl,rfl,rfl,rfl,trivial⟩) ?_
    have hno:a3n c x n m=[]→∀ s:AS,SubL s [(0,.val (.lst (c.map Lt.cv))),(3,.own (.lst (B.map clC)) 200047),(200047,.tok 26 1),(10,.val (.lst (L.map CV.i))),(11,.val (.i (L.map CV.i).length)),(12,.val (.i k)),(5,.val (.i (n:Int))),(6,.val (.lst ((M6 c n).map Lt.cv))),(24,.val (.lst (c.map Lt.cv))),(25,.val (.i (c.map Lt.cv).length)),(26,.val (.i ((m+1:Nat):Int)))]→SubL s (st2 (m+1)):=fun h s hs=>by
     have e2:A++a2j c x n (m+1)=B:=by rw [hMs',h,List.append_nil]
     show SubL s [(0,.val (.lst (c.map Lt.cv))),(3,.own (.lst ((A++a2j c x n (m+1)).map clC)) 200047),(200047,.tok 26 1),(10,.val (.lst (L.map CV.i))),(11,.val (.i (L.map CV.i).length)),(12,.val (.i k)),(5,.val (.i (n:Int))),(6,.val (.lst ((M6 c n).map Lt.cv))),(24,.val (.lst (c.map Lt.cv))),(25,.val (.i (c.map Lt.cv).length)),(26,.val (.i ((m+1:Nat):Int)))]
     rw [e2]
     exact hs
    by_cases hmn:m=n
    ·have g:decide ((m:Int)=(n:Int))=true:=decide_eq_true (by omega)
     have g2:decide ((m:Int)≠(n:Int))=false:=decide_eq_false (by omega)
     refine aS (aR ?_)
     refine nc zl (nc zl (nc z7 (nc zl (nc zO (nc zO (nc zO (nc zP ?_)))))))
     refine aC rfl (fun h=>by cases h) (fun _=>aK ?_)
     refine aR ?_
     refine nc zu (nc zl ?_)
     exact ⟨hml,a7 (hno (by rw [hfn,if_neg (fun h=>h.1 hmn)]) _ ⟨rfl,rfl,rfl,rfl,rfl,rfl,rfl,rfl,rfl,rfl,rfl,trivial⟩)⟩
    ·have g:decide ((m:Int)=(n:Int))=false:=decide_eq_false (by omega)
     have g2:decide ((m:Int)≠(n:Int))=true:=decide_eq_true (by omega)
     refine aS (aR ?_)
     refine nc zl (nc zl (nc z7 (nc zl (nc (zg (r:=gb)) (nc (zh (r:=gb)) (nc (zX (r:=gb)) (nc zM ?_)))))))
     refine aC rfl (fun hq=>?_) (fun hq=>?_)
     ·have hq:(!y.neg)=true:=hq
      have hyn:y.neg=false:=by simpa using hq
      have e2:A++a2j c x n (m+1)=B++a0o (K3 x) y (M6 c n):=by rw [hMs',hfn,if_pos ⟨hmn,hyn⟩]
      refine aD (by kernel_rfl) (by kernel_rfl) ?_
      refine nc zl (nc zl (nc zl (nc (zq (j:=n) (H:=hx') (hz:=hsz)) (nc zr (nc zy (nc zl (nc (zw (z:=a5Q w x y (M6 c n) hxt hyt (b0F hc n) (by omega))) (nc zE (nc ze ?_)))))))))
      refine ⟨by kernel_rfl,?_⟩
      refine aR ?_
      refine nc zu (nc zl ?_)
      refine ⟨hml,(a7 (s':=[(0,.val (.lst (c.map Lt.cv))),(3,.own (.lst ((A++a2j c x n (m+1)).map clC)) 300047),(300047,.tok 26 1),(10,.val (.lst (L.map CV.i))),(11,.val (.i (L.map CV.i).length)),(12,.val (.i k)),(5,.val (.i (n:Int))),(6,.val (.lst ((M6 c n).map Lt.cv))),(24,.val (.lst (c.map Lt.cv))),(25,.val (.i (c.map Lt.cv).length)),(26,.val (.i ((m+1:Nat):Int)))]) ⟨rfl,?_,rfl,rfl,rfl,rfl,rfl,rfl,rfl,rfl,rfl,trivial⟩).trans (A8 300047 200047 rfl rfl rfl rfl)⟩
      show some (AV.own (.lst _) _)=some (AV.own (.lst _) _)
      rw [e2,List.map_append (f:=clC)]
     ·have hq:(!y.neg)=false:=hq
      have hyn:y.neg=true:=by simpa using hq
      refine aK ?_
      refine aR ?_
      refine nc zu (nc zl ?_)
      exact ⟨hml,a7 (hno (by rw [hfn,if_neg (fun h=>by rw [hyn] at h;cases h.2)]) _ ⟨rfl,rfl,rfl,rfl,rfl,rfl,rfl,rfl,rfl,rfl,rfl,trivial⟩)⟩
   ·have hml:m=c.length:=by
     have:¬ m<c.length:=by simpa using hlt2
     omega
    subst hml
    refine aE ?_
    refine aR ?_
    refine nc zu (nc zl ?_)
    refine ⟨hkl,a7 ⟨rfl,?_,rfl,rfl,rfl,rfl,trivial⟩⟩
    rw [e];rfl
 ·have hkl:k=L.length:=by
   have:¬ k<L.length:=by simpa using hlt
   omega
  subst hkl
  refine aE ?_
  refine aS (aR ?_)
  refine nc zl (nc ze ?_)
  exact aT (And.intro (.inr rfl) rfl)
def c1M (a b:Tm) (d:List Bd):Prop:=(∀ W,AFun Tryz.prog W 30 [.lst [a.cw],.lst [b.cw]] (.tup [.lst (d.map Bd.cv),.b (mgT a b).2]))∧d.length≤1000000∧(∀ x∈d,x.t.rng∧x.t.ok)∧d.map Bd.strip=(mgT a b).1.map Bd.strip
noncomputable def dT (a b:Tm):List Bd:=open Classical in if h:∃ d,c1M a b d then Classical.choose h else []
def c3t (c:List Lt) (i:Int) (k:Nat):List Lt:=(List.range k).filterMap fun j:Nat=>if (j:Int)=i then none else c[j]?
noncomputable def c0Y (c:List Lt) (i:Nat):Option (List Lt):=match c[i]? with
 | some x=>if x.neg=true∧(mgT x.a x.b).2=true∧(i:Int)∈I6 c then some ((M6 c i).map (b9S (dT x.a x.b))) else none
 | none=>none
noncomputable def c3n (c:List Lt) (k:Nat):List (List Lt):=(List.range k).filterMap (c0Y c)
def sdT (l:Lt) (n:Nat):Tm:=if n=0 then l.a else l.b
noncomputable def c0j (c:List Lt) (i j p q:Nat):Option (List Lt):=match c[i]?,c[j]? with
 | some x,some y =>
  if i=j∨x.neg=true∨y.neg=true∨(i:Int)∉I6 c then none
  else if (mgT (sdT x p) (sdT y q)).2=true∧a4K (b5 (mgS (sdT x p) (sdT y q)) (sdT x p)) (b5 (mgS (sdT x p) (sdT y q)) (sdT x (1-p)))=true then some ((M6 c i++[(⟨true,sdT x (1-p),sdT y (1-q)⟩:Lt)]).map (b9S (dT (sdT x p) (sdT y q))))
  else none
 | _,_=>none
noncomputable def c1b (c:List Lt) (N:Nat):Option (List Lt):=c0j c (N / 4 / c.length) (N / 4 % c.length) (N / 2 % 2) (N % 2)
noncomputable def c3e (c:List Lt) (k:Nat):List (List Lt):=(List.range k).filterMap (c1b c)
def stC (L:List (List Lt)):List (List Lt):=L.map (List.map Lt.strip)
theorem b5A (c:List Lt):∀ k:Nat,-1≤(hvK c k).1∧(hvK c k).1<k
 | 0=>⟨by show (-1:Int) ≤ -1;omega,by show (-1:Int)<_;omega⟩
 | k+1=>by
  obtain ⟨h1,h2⟩:=b5A c k
  unfold hvK
  split
  ·omega
  ·split
   ·simp only;omega
   ·omega
theorem a5m {β:Type} (g:Nat→List β) (h:Nat):∀ n,(List.range n).flatMap (fun i=>if i=h then g i else [])=if h<n then g h else []
 | 0=>by rw [if_neg (by omega)];rfl
 | n+1=>by
  rw [List.range_succ,List.flatMap_append,a5m g h n]
  by_cases h1:h<n
  ·rw [if_pos h1,if_pos (by omega)]
   simp only [List.flatMap_cons,List.flatMap_nil,List.append_nil]
   rw [if_neg (by omega),List.append_nil]
  ·rw [if_neg h1]
   simp only [List.flatMap_cons,List.flatMap_nil,List.append_nil,List.nil_append]
   by_cases h2:n=h
   ·rw [if_pos h2,if_pos (by omega),h2]
   ·rw [if_neg h2,if_neg (by omega)]
theorem a1N {α β:Type} (P:α→Bool) (g:α→List β):∀ L:List α,(L.filter P).flatMap g=L.flatMap fun i=>if P i=true then g i else []
 | []=>rfl
 | x::L=>by
  rw [List.flatMap_cons,←a1N P g L]
  by_cases h:P x=true
  ·rw [List.filter_cons_of_pos h,List.flatMap_cons,if_pos h]
  ·rw [List.filter_cons_of_neg h,if_neg h,List.nil_append]
theorem a2z {α β:Type} {f g:α→List β}:∀ {L:List α},(∀ x∈L,f x=g x)→L.flatMap f=L.flatMap g
 | [],_=>rfl
 | x::L,h=>by rw [List.flatMap_cons,List.flatMap_cons,h x (by simp),a2z fun y hy=>h y (List.mem_cons_of_mem _ hy)]
theorem b4k {β:Type} (c:List Lt) (g:Nat→List β):((I6 c).flatMap fun z=>g z.toNat)=(List.range c.length).flatMap fun i:Nat=>if (i:Int)∈I6 c then g i else []:=by
 unfold I6
 split
 ·rename_i h
  obtain ⟨h0,h1⟩:∃ h0:Nat,(hvK c c.length).1=(h0:Int):=⟨(hvK c c.length).1.toNat,by omega⟩
  have hlt:=(b5A c c.length).2
  rw [h1] at hlt ⊢
  have e:(fun i:Nat=>if (i:Int)∈[(h0:Int)] then g i else [])=fun i=>if i=h0 then g i else []:=by
   funext i
   by_cases hi:i=h0
   ·rw [if_pos hi,if_pos (by rw [hi];simp)]
   ·rw [if_neg hi,if_neg (by rw [List.mem_singleton];omega)]
  rw [e,a5m,if_pos (by omega)]
  simp
 ·unfold gsK
  rw [List.flatMap_map]
  have e1:(fun i:Nat=>g (i:Int).toNat)=g:=by funext i;rw [Int.toNat_natCast]
  show List.flatMap (fun i:Nat=>g (i:Int).toNat) _=_
  rw [e1,a1N]
  refine a2z fun i hi=>?_
  have hm:((i:Int)∈((List.range c.length).filter fun i:Nat=>a0n c (i:Int)).map fun i:Nat=>(i:Int))↔a0n c (i:Int)=true:=by
   rw [List.mem_map]
   constructor
   ·rintro ⟨j,hj,e⟩
    have:j=i:=by omega
    rw [←this]
    exact (List.mem_filter.1 hj).2
   ·intro h
    exact ⟨i,List.mem_filter.2 ⟨hi,h⟩,rfl⟩
  by_cases h:a0n c (i:Int)=true
  ·rw [if_pos h,if_pos (hm.2 h)]
  ·rw [if_neg h,if_neg (fun h2=>h (hm.1 h2))]
theorem b7Q {L:List Bd} (h:∀ b∈L,∃ u,b.t=p8 u) (v:Int):∃ u,b7 L v=p8 u:=by
 unfold b7
 cases hf:b6 L v with
 | none=>exact ⟨v,rfl⟩
 | some t =>
  have:∃ b∈L,b.t=t:=by
   clear h
   induction L with
   | nil=>cases hf
   | cons b L ih =>
    unfold b6 at hf
    split at hf
    ·exact ⟨b,by simp,by injection hf⟩
    ·obtain ⟨x,hx,e⟩:=ih hf
     exact ⟨x,List.mem_cons_of_mem _ hx,e⟩
  obtain ⟨b,hb,rfl⟩:=this
  obtain ⟨u,e⟩:=h b hb
  exact ⟨u,e⟩
theorem b2k {img:Int→Tm} (h:∀ v,∃ u,img v=p8 u) (t:Tm):(b5 img t).size=t.size:=by
 have:=b2y img t
 have e:(t.vs.map fun v=>(((img v).size:Nat):Int)-1).sum=0:=by
  generalize t.vs=l
  induction l with
  | nil=>rfl
  | cons v l ih =>
   obtain ⟨u,hu⟩:=h v
   rw [List.map_cons,List.sum_cons,ih,hu,V9];rfl
 rw [e] at this
 omega
theorem okCl.rep {c:List Lt} (hn:okCl c) {L:List Bd} (hL:∀ b∈L,∃ u,b.t=p8 u∧0≤u∧u≤24001):okCl (c.map (Lt.rep (b7 L))):=by
 refine ⟨by rw [List.length_map];exact hn.1,fun l hl=>?_⟩
 obtain ⟨x,hx,rfl⟩:=List.mem_map.1 hl
 have hv:∀ v,∃ u,b7 L v=p8 u:=b7Q fun b hb=>by obtain ⟨u,e,_⟩:=hL b hb;exact ⟨u,e⟩
 have hb:bdsOk L:=fun b hb=>by
  obtain ⟨u,e,h1,h2⟩:=hL b hb
  rw [e]
  exact ⟨a7H h1 (by omega),by rw [V9];omega⟩
 have key:∀ t:Tm,(t.rng∧t.ok∧t.size≤1000)→((b5 (b7 L) t).rng∧(b5 (b7 L) t).ok∧(b5 (b7 L) t).size≤1000):=fun t ht=>by
  refine ⟨a8I ht.1 fun v h1 h2=>(a2t hb h1 h2).1,b1g ht.2.1 fun v=>?_,by rw [b2k hv];exact ht.2.2⟩
  obtain ⟨u,hu⟩:=hv v
  rw [hu]
  exact b1F u
 exact ⟨key _ (hn.2 x hx).1,key _ (hn.2 x hx).2⟩
def snL (c:List Lt):List Sn:=c.map fun l=>c1e l (lkL l)
end Go.Proofs.YtglmoficcjphaaaGreat
namespace Go.Proofs.YtglmoficcjphaaaGreat
open Go.RowKit
set_option linter.unusedVariables false
set_option linter.unusedSimpArgs false
def alk (x y:Lt):Prop:=(x.a.strip=y.a.strip∧x.b.strip=y.b.strip)∨(x.a.strip=y.b.strip∧x.b.strip=y.a.strip)
def TautQ (c:List Lt):Prop:=(∃ l∈c,l.neg=false∧l.a.strip=l.b.strip)∨∃ x∈c,∃ y∈c,x.neg≠y.neg∧alk x y
def c1P (x y:Lt):Bool:=(x.neg&&!y.neg)&&(b3v x ⟨true,y.a,y.b⟩||b3v x ⟨true,y.b,y.a⟩)
def ttD (c:List Lt):Bool:=c.any fun x=>(!x.neg&&v8 x.a x.b)||c.any (c1P x)
theorem TautQ.rep {c:List Lt} (h:TautQ c) (img:Int→Tm):TautQ (c.map (Lt.rep img)):=by
 have key:∀ s t:Tm,s.strip=t.strip→(b5 img s).strip=(b5 img t).strip:=fun s t e=>by
  rw [←a1B img s,←a1B img t,e]
 rcases h with ⟨l,hl,hn,he⟩ | ⟨x,hx,y,hy,hn,he⟩
 ·exact .inl ⟨_,List.mem_map_of_mem hl,hn,key _ _ he⟩
 ·refine .inr ⟨_,List.mem_map_of_mem hx,_,List.mem_map_of_mem hy,hn,?_⟩
  rcases he with ⟨p,q⟩ | ⟨p,q⟩
  ·exact .inl ⟨key _ _ p,key _ _ q⟩
  ·exact .inr ⟨key _ _ p,key _ _ q⟩
end Go.Proofs.YtglmoficcjphaaaGreat
namespace Go.Proofs.YtglmoficcjphaaaGreat
open Go.RowKit
set_option linter.unusedVariables false
set_option linter.unusedSimpArgs false
set_option maxRecDepth 100000
def c3J (t:Tm):Tm:=l7 (b6u t.nv ((b5B t.nv.length).map fun _=>0)) t
def okL (l:Lt):Prop:=(l.a.rng∧l.a.ok∧l.a.size≤1000)∧(l.b.rng∧l.b.ok∧l.b.size≤1000)
end Go.Proofs.YtglmoficcjphaaaGreat
namespace Go.Proofs.YtglmoficcjphaaaGreat
open Go.RowKit
set_option linter.unusedVariables false
set_option linter.unusedSimpArgs false
abbrev sv (l:List UInt8):CV := .sc (.string ⟨l.toArray⟩)
section
variable {P:Program} {w0:World} {U0:UX} {nt:Nat} {ops:Array Oper} {o:Oper} {S:Nat→Option AV} {gs:List Nat} {d:Nat}
end
section
variable {P:Program} {w0:World} {U0:UX} {nt:Nat} {ops:Array Oper} {o:Oper} {S:Nat→Option AV} {gs:List Nat} {d:Nat}
end
end Go.Proofs.YtglmoficcjphaaaGreat
namespace Go.Proofs.YtglmoficcjphaaaGreat
open Go.RowKit
set_option linter.unusedVariables false
set_option linter.unusedSimpArgs false
set_option maxRecDepth 100000
def fa5:Tm:=⟨2,[⟨1,[]⟩]⟩
def vx5:Tm:=⟨-1,[]⟩
def px5:Tm:=⟨3,[⟨-1,[]⟩]⟩
def tt5:Tm:=⟨0,[]⟩
def cl5:List Lt:=[⟨true,vx5,fa5⟩,⟨false,px5,tt5⟩]
theorem b8C {t:Tm} (h1:t.rng) (h2:t.ok) (h3:t.size≤10):t.ten:=⟨⟨h1,h2⟩,h3⟩
theorem b1e:fa5.ten:=b8C (by simp [fa5,Tm.rng]) (by simp [fa5,Tm.ok]) (by simp [fa5,Tm.size,Tm.flat])
theorem b1h:vx5.ten:=b8C (by simp [vx5,Tm.rng]) (by simp [vx5,Tm.ok]) (by simp [vx5,Tm.size,Tm.flat])
theorem b7z:px5.ten:=b8C (by simp [px5,Tm.rng]) (by simp [px5,Tm.ok]) (by simp [px5,Tm.size,Tm.flat])
theorem b1v:tt5.ten:=b8C (by simp [tt5,Tm.rng]) (by simp [tt5,Tm.ok]) (by simp [tt5,Tm.size,Tm.flat])
theorem b8e:∀ l∈cl5,l.ten:=fun l hl=>by
 simp only [cl5,List.mem_cons,List.not_mem_nil,or_false] at hl
 rcases hl with rfl | rfl
 ·exact ⟨b1h,b1e⟩
 ·exact ⟨b7z,b1v⟩
theorem mg5:(mgT vx5 fa5).2=true∧mgS vx5 fa5 0=fa5:=by
 have hT:=S2 b1h b1e
 have hfr:∀ σ:Int→Tm,b5 σ fa5=fa5:=fun σ=>by simp [fa5,b5]
 have hvr:∀ σ:Int→Tm,b5 σ vx5=(σ 0).strip:=fun σ=>by simp [vx5,b5]
 have hfs:fa5.strip=fa5:=by simp [fa5,Tm.strip]
 have h2:(mgT vx5 fa5).2=true:=by
  cases h:(mgT vx5 fa5).2 with
  | true=>rfl
  | false =>
   exfalso
   refine (hT.no h).2 (fun _=>fa5) ?_
   rw [C8,hfr,hvr,hfs]
 refine ⟨h2,?_⟩
 have hm:=hT.yes h2
 have hu:=hm.uni
 rw [C8,hfr,hvr,hm.bare 0 (by omega)] at hu
 exact hu
theorem hv5:I6 cl5=[0]:=by
 have h:hvK cl5 2=(0,wtL ⟨true,vx5,fa5⟩):=by
  have h1:hvK cl5 1=(0,wtL ⟨true,vx5,fa5⟩):=by
   unfold hvK
   show (if (⟨true,vx5,fa5⟩:Lt).neg=true∧(hvK cl5 0).2<wtL ⟨true,vx5,fa5⟩ then _ else _)=_
   rw [if_pos ⟨rfl,b1n _⟩];rfl
  unfold hvK
  show (if (⟨false,px5,tt5⟩:Lt).neg=true∧_ then _ else hvK cl5 1)=_
  rw [if_neg (by intro h;cases h.1),h1]
 unfold I6
 show (if (hvK cl5 2).1≥0 then _ else _)=_
 rw [h,if_pos (by decide)]
 show [(hvK cl5 2).1]=[0]
 rw [h]
theorem c2e:a0A cl5=[[⟨false,⟨3,[fa5]⟩,tt5⟩]]:=by
 obtain ⟨h1,h2⟩:=mg5
 unfold a0A
 rw [hv5]
 have h3:a8t cl5 (0:Int).toNat=some [⟨false,⟨3,[fa5]⟩,tt5⟩]:=by
  unfold a8t
  show (if (⟨true,vx5,fa5⟩:Lt).neg=true∧(mgT vx5 fa5).2=true then some ((M6 cl5 0).map (Lt.rep (mgS vx5 fa5))) else none)=_
  rw [if_pos ⟨rfl,h1⟩]
  have e:M6 cl5 0=[⟨false,px5,tt5⟩]:=rfl
  rw [e]
  have e2:b5 (mgS vx5 fa5) px5=⟨3,[fa5]⟩:=by
   simp [px5,b5,h2]
   simp [fa5,Tm.strip]
  have e3:b5 (mgS vx5 fa5) tt5=tt5:=by simp [tt5,b5]
  simp only [List.map_cons,List.map_nil,Lt.rep,e2,e3]
 rw [List.filterMap_cons]
 simp only [h3]
 rfl
set_option maxHeartbeats 2000000 in
theorem a7p (W:World):AFun Tryz.prog W 7 [] (.val (.b true)):=by
 have hR:=fun w=>a3K w cl5 (by simp [cl5]) b8e
 rw [c2e] at hR
 have hc5:cl5.map Lt.cv=[.row [.b true,.row [.i (-1),.lst []],.row [.i 2,.lst [.row [.i 1,.lst []]]]],.row [.b false,.row [.i 3,.lst [.row [.i (-1),.lst []]]],.row [.i 0,.lst []]]]:=by simp [cl5,vx5,fa5,px5,tt5,Lt.cv,Tm.cv_eq]
 have hr5:([[⟨false,⟨3,[fa5]⟩,tt5⟩]]:List (List Lt)).map clC=[.lst [.row [.b false,.row [.i 3,.lst [.row [.i 2,.lst [.row [.i 1,.lst []]]]]],.row [.i 0,.lst []]]]]:=by simp [clC,fa5,tt5,Lt.cv,Tm.cv_eq]
 rw [hc5,hr5] at hR
 refine f0 (rs:=[.b true]) Tryz.func7 Tryz.ntmps7 rfl rfl rfl rfl ?_
 intro w U hW
 refine aS (aR ?_)
 refine nc ze ?_
 refine aS (aR ?_)
 refine nc zbO (nc zD (nc zn (nc zk (nc zo ?_))))
 refine aS (aR ?_)
 refine nc zbO (nc zy (nc (zbM a8u) (nc zbO (nc zD (nc (zbM [.i 0,.lst []]) (nc (zbM a8u) (nc zD (nc (zw (z:=hR w)) (nc ze ?_)))))))))
 refine aS (aR ?_)
 refine nc zl (nc zp (nc zt (nc zl (nc (zl (p:=gb)) (nc (zq (j:=0) (r:=gb) (H:=rfl) (hz:=sZ rfl)) (nc (zr (r:=gb)) (nc (zp (r:=gb)) (nc (zt (r:=gb)) (nc zM (nc zl (nc (zl (p:=gb)) (nc (zq (j:=0) (r:=gb) (H:=rfl) (hz:=sZ rfl)) (nc (zr (r:=gb)) (nc (zq (j:=0) (r:=gb) (H:=rfl) (hz:=sZ rfl)) (nc (zbK (r:=gb)) (nc (zbK (r:=gb)) (nc (zr (r:=gb)) (nc (zq (j:=0) (r:=gb) (H:=rfl) (hz:=sZ rfl)) (nc (zbK (r:=gb)) (nc (zr (r:=gb)) (nc (zt (r:=gb)) (nc zM (nc ze ?_)))))))))))))))))))))))
 exact aT (And.intro (.inr rfl) rfl)
theorem b3P {c:List Lt} {most:Nat} {size:Int} (h0:0≤size) (h1:size≤10) (h:W5 c most size=true):c.length≤most∧∀ l∈c,l.ten:=by
 obtain ⟨h2,h3⟩:=a1I h0 (by omega) h
 refine ⟨h2,fun l hl=>?_⟩
 obtain ⟨⟨⟨_,a1,a2⟩,_,a3⟩,⟨⟨_,b1,b2⟩,_,b3⟩⟩:=h3 l hl
 exact ⟨⟨⟨a1,a2⟩,by omega⟩,⟨b1,b2⟩,by omega⟩
def Tm.big5 (t:Tm):Prop:=t.rng∧t.ok∧t.size≤29550
def Lt.big5 (l:Lt):Prop:=l.a.big5∧l.b.big5
theorem b7D {c d:List Lt} (h:d∈a0A c):∃ n x,n<c.length∧(n:Int)∈I6 c∧c[n]?=some x∧x.neg=true∧(mgT x.a x.b).2=true∧d=(M6 c n).map (Lt.rep (mgS x.a x.b)):=by
 obtain ⟨z,hz,he⟩:=List.mem_filterMap.1 h
 obtain ⟨h0,h1⟩:=b0m hz
 unfold a8t at he
 split at he
 ·rename_i x hx
  split at he
  ·rename_i hg
   exact ⟨z.toNat,x,by omega,by rw [Int.toNat_of_nonneg h0];exact hz,hx,hg.1,hg.2,(Option.some.inj he).symm⟩
  ·cases he
 ·cases he
end Go.Proofs.YtglmoficcjphaaaGreat
