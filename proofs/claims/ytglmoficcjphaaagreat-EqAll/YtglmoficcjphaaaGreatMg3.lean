/-
 AbObj2 AbFld AbMap AbFull AbArr AbRoom AbBox AbIter AbRange AbRangeV AbMark AbNest AbNest2 AbNest3 AbNest4
-/
import Derived.Test.YtglmoficcjphaaaGreatMg2
import Derived.MapKept
import Derived.Laws.NewFold
import Derived.RangeFuncNested
namespace Go.Proofs.YtglmoficcjphaaaGreat
open List (all_cons all_eq_true append_assoc eq_nil_of_length_eq_zero ext_getElem? getElem?_append_left getElem?_append_right getElem?_eq_none getElem?_replicate length_append length_cons length_map length_nil length_set length_take map_append mem_append mem_append_left mem_append_right mem_cons mem_cons_of_mem mem_map mem_of_mem_take take_append_drop)
open Go.RowKit
set_option linter.unusedVariables false
set_option linter.unusedSimpArgs false
def U5 (P:Program) (e:TypeId):Option CV:=match P.info? e with
 | some it=>match it.zero with
  | some (.agg cs)=>match P.underlying e with
   | some (.struct fs)=>match szO P fs.toList 0 with
    | some sz=>match zsO sz cs.toList with | some zs=>some (.row zs) | none=>none
    | none=>none
   | _=>none
  | some v=>match N1 v with | true=>some (Q2 v) | false=>none
  | none=>none
 | none=>none
theorem K6 {P:Program} {e:TypeId} {c:CV} (h:U5 P e=some c):∃ it z,P.info? e=some it/\it.zero=some z/\∀ U w,Rep U w c z.cells.toList:=by
 unfold U5 at h;split at h
 ·rename_i it hi;split at h
  ·rename_i cs hz;refine ⟨it,_,hi,hz,fun U w=>?_⟩;split at h
   ·split at h
    ·split at h
     ·rename_i zs h0;cases h;obtain ⟨segs,e1,e2,e3,e4,e5⟩:=F9 (U:=U) (w:=w) h0;rw [E8];show Sq _ cs.toList;rw [<-e1];exact G9 e4 (fun i c hi=>by obtain ⟨seg,f1,f2,_⟩:=e5 i c hi;exact ⟨seg,f1,f2⟩)
     ·cases h
    ·cases h
   ·cases h
  ·rename_i v hz hv;refine ⟨it,_,hi,hv,fun U w=>?_⟩;split at h
   ·rename_i hp;cases h;have:=Y9 U w v hp;have hc:v.cells = #[v]:=by
     cases v with
     | agg cs=>exact absurd rfl (hz cs)
     | _=>rfl
    rw [hc];exact this
   ·cases h
  ·cases h
 ·cases h
section
variable {P:Program} {w0:World} {U0:UX} {nt:Nat} {ops:Array Oper} {o:Oper} {S:Nat->Option AV} {gs:List Nat} {d:Nat} {s:AS} {a:Act} {w:World} {D:Nat->Nat->Prop} {hv:Nat->Value}
theorem a7G {U:Nat->Nat->Prop} {c:CV} {xs:List Value} (h:Rep U w c xs):∀ k,Sq ((List.replicate k c).map fun c=>Rep U w c) (List.replicate k xs).flatten
 | 0=>rfl
 | k+1=>⟨_,_,rfl,h,a7G h k⟩
theorem N7 {v:Value} {k cap:Nat} {ao:Option Addr} {z:Nat} (h:v = .slice ao k cap) (hk:k<=cap) (hg:ao=none\/∃ g,ao=some ⟨g,0,none⟩):SlV v 0 k z v:=by
 refine ⟨ao,k,cap,ao,h,by rw [h];rfl,by omega,fun _=>rfl,fun _ g e=>by rw [Nat.zero_mul];exact e,Iff.rfl⟩
theorem a9c {e z:Nat} {v:Value} {k:Nat} {xs:List Value} (h:w.ownsRow 0 e z v k xs):∃ ao cap,v = .slice ao k cap/\k<=cap/\(ao=none\/∃ g,ao=some ⟨g,0,none⟩):=by
 rcases h.2 with ⟨rfl,rfl⟩ | ⟨g,cap,cur,rfl,_,h3,h4,h5,h6,h7⟩
 ·exact ⟨none,0,rfl,Nat.le_refl _,.inl rfl⟩
 ·exact ⟨_,cap,rfl,h4,.inr ⟨g,rfl⟩⟩
theorem b2F {Q:Exit->Act->World->Prop} {K:Act->World->Prop} (h:SimG w0 U0 nt s a w D hv) {n e size bytes:Nat} {z:Value} {t:TypeId} (hd:o.dst=some d) (eS:d<nt) (h5:d<100000) (hn:RW n) (hr:R8 s n) {x y:Operand} (ho:o.op = .call { callee := .builtin .append,args := #[x,y],argTypes := #[t,t] })
  (ht:P.underlying t=some (.slice e)) (hi:(P.info? e).map (fun i=>(i.zero,i.size,i.bytes))=some (some z,size,bytes)) (bU:z.cells.size=size) (kD:0<size) (eF:bytes<=1000)
  {l l2:List CV} (hl:∀ c∈l,c.size=size) (kL:∀ c∈l2,c.size=size) (bS:l.length+l2.length<=100000000000)
  {v:Value} (hx:a.eval x=v) (hy:VRep (Us w0 U0 D) w (.lst l2) (a.eval y)) {xs:List Value} (kT:w.ownsRow 0 e size v l.length xs) (rX:Sq (l.map fun c=>Rep (Us w0 U0 D) w c) xs)
  (gP:∀ g,v.ownBlock=some g->Mn w0 U0 (lcl n (.mrow e size (l++l2))) g/\(∀ o,¬ D g o)/\∀ q av,look s q=some av->k7 q->av.t≠7->q≠n->hb (hv q)≠some g)
  (hK:∀ a' w',Sim w0 U0 nt ((d,.sl n 0 (l.length+l2.length) size)::(n,.mrow e size (l++l2))::s) a' w'->K a' w'):o.wp P a w K Q:=by
 obtain ⟨ao2,m,c2,g1,g2,g3,g4,g6,ys2,g7,g8⟩:=l4.1 hy;have rK:ys2.length=m*size:=by rw [C9 (n:=CV.size) (fun c _ xs h=>h.len) g8,s5 kL,g2]
 have pS:(l.length+m)*bytes<=100000000000*1000:=Nat.mul_le_mul (by omega) eF;obtain ⟨v',w',r1,r2,r3,r4⟩:=b2e (P:=P) (ty:=o.type) ht hi bU kD (Nat.zero_le _) kT g6 g7 rK (R4 g8) (by unfold maxLen;omega) (by omega);have cF:∀ {u:Value} {k xs} {w:World},w.ownsRow 0 e size u k xs->hb u=u.ownBlock:=fun {u k xs w} h1=>by rcases h1.2 with ⟨rfl,rfl⟩ | ⟨g,cap,cur,rfl,_⟩<;>rfl
 have kZ:=cF r2;have bC:∀ b o u,Us w0 U0 D b o->w.cell? ⟨b,o,none⟩=some u->Us w0 U0 D b o/\w'.cell? ⟨b,o,none⟩=some u:=fun b o u hu hc=>by
  refine ⟨hu,?_⟩;have kA:b<w.heap.size:=World.block_lt_of_cell? w _ hc;have hnb:some b≠v.ownBlock:=fun e=>by obtain ⟨f1,f2,_⟩:=gP b e.symm;exact a3b hu f1 (f2 o) rfl
  rw [World.cell?_of_block (w:=w) (r3.block b kA hnb)];exact hc
 have hG:=h.newrow (avn := .mrow e size (l++l2)) (v':=v') (D':=D) (X:=fun b=>v.ownBlock=some b) hn hr (by simp) ⟨r3.os,r3.tape,r3.output,r3.size,fun b hb hx=>r3.block b hb fun e=>hx e.symm⟩ (fun b hb=>⟨(gP b hb).1,(gP b hb).2.2⟩) (fun g hg=>by
   rw [kZ] at hg;refine ⟨?_,(r2.lt g hg).2,fun o _ hd=>?_⟩
   ·rcases r4 with r4 | ⟨_,r4⟩
    ·exact .inl (r4▸hg)
    ·exact .inr (r4 g hg)
   ·rcases r4 with r4 | ⟨_,r4⟩
    ·exact (gP g (r4▸hg)).2.1 o hd
    ·have:=r4 g hg;have:=h.dlt _ _ hd;omega) (fun b o hd => .inl hd) (fun b o hd=>Nat.lt_of_lt_of_le (h.dlt _ _ hd) r3.size) bC (fun hv lv=>by
   refine ⟨xs++ys2,?_,kD,fun c hc=>?_,?_⟩
   ·show w'.ownsRow 0 e size v' (l++l2).length (xs++ys2);rw [length_append,<-g2];exact r2
   ·rcases mem_append.1 hc with hc | hc
    ·exact hl c hc
    ·exact kL c hc
   ·show Sq ((l++l2).map _) _;rw [map_append];exact B9 (Sq.keep bC rX) (Sq.keep bC g8))
 have he:(execOp a.eval o).run P w = .ok (.value v') w':=by generalize a.eval=ρ at hx g1 |-;simp [execOp,ho,resolve,invoke,builtin,hx,g1,r1,Result.andThen]
 unfold Oper.wp;rw [he,Oper.upon_value,hd];refine hK _ _ ⟨_,_,hG.put eS h5 ?_⟩;refine ⟨hn.rn,?_⟩;obtain ⟨a1,c1,e1,e2,e3⟩:=a9c r2;have:=N7 (z:=size) e1 e2 e3;show SlV ((fun x=>if x=n then v' else hv x) n) 0 (l.length+l2.length) size v';simp only [if_true];rw [<-g2];exact this
theorem b8K (nn:Nat) (hg:Gd w0 U0 nt ops o gs S) (hd:o.dst=some d) (hn:Nat.blt d nt=true) (h5:Nat.blt d 100000=true) {x y:Operand} {t e size bytes:Nat} {z:Value} {l2:List CV} {n q n2 q2 p2} (ho:o.op = .call { callee := .builtin .append,args := #[x,y],argTypes := #[t,t] }) (ht:P.underlying t=some (.slice e)) (hi:(P.info? e).map (fun i=>(i.zero,i.size,i.bytes))=some (some z,size,bytes)) (bU:Nat.beq z.cells.size size=true) (kD:Nat.blt 0 size=true) (eF:Nat.ble bytes 1000=true)
  (hx:ev S x=some ⟨0,.lst [],n,q,[]⟩) (hy:ev S y=some ⟨0,.lst l2,n2,q2,p2⟩) (eT:(Nat.ble 200000 n&&Nat.blt n 400000)=true) (bR:(Nat.ble 200000 nn&&Nat.blt nn 400000)=true) (kE:Nat.beq n nn=false) (dD:S n=some (.tok e size)) (kL:∀ c∈l2,c.size=size) (bS:l2.length<=100000000000) :
  AOp P w0 U0 nt ops o (gs++(rd x++(rd y++[n]))) [(nn,[])] S [(d,.sl nn 0 l2.length size),(nn,.mrow e size l2),(n,.no)]:=by
 intro s hs hN a w ⟨D,hv,h⟩ Q K hK;rw [if_pos (hg s (fun k hk=>hs k (mem_append_left _ hk)) a w D hv h)];obtain ⟨h1,h2⟩:VRep (Us w0 U0 D) w (.lst []) (a.eval x)/\Tk hv (a8 s) ⟨0,.lst [],n,q,[]⟩ (a.eval x).cells.toList:=k9 h (fun k hk=>hs k (mem_append_right _ (mem_append_left _ hk))) hx;have h3:=A0 h (fun k hk=>hs k (mem_append_right _ (mem_append_right _ (mem_append_left _ hk)))) hy;have kN:=rnB eT;have dW:=rnB bR;have kG:k7 n:=⟨by omega,by omega⟩
 have kC:=(hs n (by simp)).trans dD;have kK:r7 s n (e,size):=⟨kC,kN.1,kN.2⟩
 have hval:a.eval x=hv n:=by obtain ⟨m,c,g1,g2⟩:=h2 (.inr ⟨_,kK⟩);simp only at g1;rw [Q0] at g1;cases g1;obtain ⟨ao,k,c,e1,_⟩:=l4.1 h1;unfold H5 at g2;rw [if_neg (by show n≠1;omega)] at g2;rw [e1] at g2 |-;simpa [Value.cells] using g2
 obtain ⟨k,xs,g1,g2⟩:∃ k xs,w.ownsRow 0 e size (hv n) k xs/\0<size:=h.obj n _ kC kG;have cF:hb (hv n)=(hv n).ownBlock/\lenOf (hv n)=k:=by
  rcases g1.2 with ⟨e1,e2⟩ | ⟨g,cap,cur,e1,_⟩
  ·rw [e1,e2];exact ⟨rfl,rfl⟩
  ·rw [e1];exact ⟨rfl,rfl⟩
 have mR:k=0:=by obtain ⟨ao,k',c,e1,e2,_⟩:=l4.1 h1;rw [hval] at e1;rw [e1] at cF;have:k'=k:=cF.2;rw [<-this,e2];rfl
 subst mR;have nZ:xs=[]:=eq_nil_of_length_eq_zero (by simpa using g1.1);subst nZ;have uY:n≠nn:=fun e=>by rw [e,Nat.beq_refl] at kE;cases kE
 refine b2F (l:=[]) (n:=nn) (h.kill kG) hd (bL hn) (bL h5) dW (fun k av hk=>?_) ho ht hi (Nat.eq_of_beq_eq_true bU) (bL kD) (Nat.le_of_ble_eq_true eF) (fun c hc=>by cases hc) kL (by simpa using bS) hval h3 g1 rfl (fun g hg=>?_) (fun a' w' gL=>hK a' w' ?_)
 ·by_cases e:n=k
  ·subst e;rw [lS] at hk;cases hk;refine ⟨by show 0≠_;omega,?_⟩;have dS:fnm n=100000:=by
    unfold fnm;have:Nat.ble 500000 n=false:=by
     cases hb:Nat.ble 500000 n with
     | false=>rfl
     | true=>have:=Nat.le_of_ble_eq_true hb;omega
    rw [this]
   rw [dS];omega
  ·rw [lN e] at hk;exact (hN (nn,[]) (by simp)).nr k av hk
 ·rw [<-cF.1] at hg;obtain ⟨f1,f2,f3⟩:=h.blk n _ g kC kG (by simp) hg;rw [L6 rfl] at f1;refine ⟨?_,fun o=>f3 o fun _=>?_,fun q av h6 h7 h8 h9=>?_⟩
  ·rcases f1 with f1 | f1
   ·exact .inl f1
   ·exact absurd rfl f1.1
  ·rw [cF.2];simp
  ·have hq:n≠q:=fun e=>by subst e;rw [lS] at h6;cases h6;exact h8 rfl
   rw [lN hq] at h6;exact h.disj n q _ av g kC h6 kG h7 (by simp) h8 hq hg
 ·simpa using gL
theorem zW {P:Program} {w0:World} {U0:UX} {nt:Nat} {ops:Array Oper} {o:Oper} {S:Nat->Option AV} {gs:List Nat} {d:Nat} {x:Operand} {y:Operand} {t:Nat} {e:Nat} {size:Nat} {bytes:Nat} {z:Value} {l2:List CV} {n} {q} {n2} {q2} {p2} (nn:Nat) (p:Gd w0 U0 nt ops o gs S:=by exact gN rfl) (r:o.dst=some d:=by exact rfl) (u:Nat.blt d nt=true:=by exact rfl) (v:Nat.blt d 100000=true:=by exact rfl) (A:o.op = .call { callee := .builtin .append,args := #[x,y],argTypes := #[t,t] }:=by exact rfl) (B:P.underlying t=some (.slice e):=by exact rfl) (C:(P.info? e).map (fun i=>(i.zero,i.size,i.bytes))=some (some z,size,bytes):=by exact rfl) (E:Nat.beq z.cells.size size=true:=by exact rfl) (F:Nat.blt 0 size=true:=by exact rfl) (G:Nat.ble bytes 1000=true:=by exact rfl) (H:ev S x=some ⟨0,.lst [],n,q,[]⟩:=by exact rfl) (hy:ev S y=some ⟨0,.lst l2,n2,q2,p2⟩:=by exact rfl) (eT:(Nat.ble 200000 n&&Nat.blt n 400000)=true:=by exact rfl) (bR:(Nat.ble 200000 nn&&Nat.blt nn 400000)=true:=by exact rfl) (kE:Nat.beq n nn=false:=by exact rfl) (dD:S n=some (.tok e size):=by exact rfl) (kL:∀ c∈l2,c.size=size:=by first | assumption | exact sZ rfl | exact Tm.size_all _ | exact Bd.size_all _ | exact b8 _ | exact bys_size _ | exact Lt.size_all _) (bS:l2.length<=100000000000:=by first | omega | (simp only [length_map,length_append,length_cons,length_nil]<;>omega) | (simp<;>omega)):AOp P w0 U0 nt ops o (gs++(rd x++(rd y++[n]))) [(nn,[])] S [(d,.sl nn 0 l2.length size),(nn,.mrow e size l2),(n,.no)]:=b8K nn p r u v A B C E F G H hy eT bR kE dD kL bS
theorem c0M (nn:Nat) (hg:Gd w0 U0 nt ops o gs S) (hd:o.dst=some d) (hn:Nat.blt d nt=true) (h5:Nat.blt d 100000=true) {x y:Operand} {t e size bytes:Nat} {z:Value} {l l2:List CV} {n len n2 q2 p2} (ho:o.op = .call { callee := .builtin .append,args := #[x,y],argTypes := #[t,t] }) (ht:P.underlying t=some (.slice e)) (hi:(P.info? e).map (fun i=>(i.zero,i.size,i.bytes))=some (some z,size,bytes)) (bU:Nat.beq z.cells.size size=true) (eF:Nat.ble bytes 1000=true)
  (hx:ev S x=some (.sl n 0 len size)) (hy:ev S y=some ⟨0,.lst l2,n2,q2,p2⟩) (bR:(Nat.ble 200000 nn&&Nat.blt nn 400000)=true) (kE:(!Nat.beq n nn&&(Nat.blt n 300000||Nat.ble 300000 nn))=true) (dD:S n=some (.mrow e size l)) (kF:len=l.length) (kL:∀ c∈l2,c.size=size) (bS:l.length+l2.length<=100000000000) :
  AOp P w0 U0 nt ops o (gs++(rd x++(rd y++[n]))) [(nn,[])] S [(d,.sl nn 0 (l.length+l2.length) size),(nn,.mrow e size (l++l2)),(n,.no)]:=by
 intro s hs hN a w ⟨D,hv,h⟩ Q K hK;rw [if_pos (hg s (fun k hk=>hs k (mem_append_left _ hk)) a w D hv h)];obtain ⟨kN,dQ⟩:RN n/\SlV (hv n) 0 len size (a.eval x):=k9 h (fun k hk=>hs k (mem_append_right _ (mem_append_left _ hk))) hx;have h3:=A0 h (fun k hk=>hs k (mem_append_right _ (mem_append_right _ (mem_append_left _ hk)))) hy;have dW:=rnB bR;have fQ:=kN;unfold RN at fQ;have kG:k7 n:=⟨by omega,by omega⟩
 have kC:=(hs n (by simp)).trans dD;obtain ⟨xs,g1,g2,g3,g4⟩:=h.mrow kC kN;have hval:a.eval x=hv n:=by obtain ⟨ao,m,cap,ao',e1,e2,e3,e4,_⟩:=dQ;obtain ⟨ao2,cap2,f1,f2,f3⟩:=a9c g1;rw [f1] at e1 |-;injection e1 with e5 e6 e7;subst e5;subst e6;subst e7;rw [e2,e4 rfl,kF];rfl
 have cF:hb (hv n)=(hv n).ownBlock:=by
  rcases g1.2 with ⟨e1,e2⟩ | ⟨g,cap,cur,e1,_⟩
  ·rw [e1];rfl
  ·rw [e1];rfl
 rw [Bool.and_eq_true,Bool.or_eq_true] at kE;have uY:n≠nn:=fun e=>by rw [e,Nat.beq_refl] at kE;exact absurd kE.1 (by decide)
 refine b2F (l:=l) (n:=nn) (h.kill kG) hd (bL hn) (bL h5) dW (fun k av hk=>?_) ho ht hi (Nat.eq_of_beq_eq_true bU) g2 (Nat.le_of_ble_eq_true eF) g3 kL bS hval h3 g1 g4 (fun g hg=>?_) (fun a' w' gL=>hK a' w' gL)
 ·by_cases e:n=k
  ·subst e;rw [lS] at hk;cases hk;refine ⟨by show 0≠_;omega,?_⟩;have dS:fnm n=100000:=by
    unfold fnm;have:Nat.ble 500000 n=false:=by
     cases hb:Nat.ble 500000 n with
     | false=>rfl
     | true=>have:=Nat.le_of_ble_eq_true hb;omega
    rw [this]
   rw [dS];omega
  ·rw [lN e] at hk;exact (hN (nn,[]) (by simp)).nr k av hk
 ·rw [<-cF] at hg;obtain ⟨f1,f2,f3⟩:=h.blk n _ g kC kG (by simp) hg;refine ⟨?_,fun o=>f3 o (fun e=>by cases e),fun q av h6 h7 h8 h9=>?_⟩
  ·rcases f1 with f1 | f1
   ·exact .inl f1
   ·rcases kE.2 with h6 | h6
    ·rw [a1Q (bL h6)] at f1;exact absurd rfl f1.1
    ·exact .inr ⟨by rw [a4C (Nat.le_of_ble_eq_true h6)];simp,f1.2⟩
  ·have hq:n≠q:=fun e=>by subst e;rw [lS] at h6;cases h6;exact h8 rfl
   rw [lN hq] at h6;exact h.disj n q _ av g kC h6 kG h7 (by simp) h8 hq hg
theorem zbb {P:Program} {w0:World} {U0:UX} {nt:Nat} {ops:Array Oper} {o:Oper} {S:Nat->Option AV} {gs:List Nat} {d:Nat} {x:Operand} {y:Operand} {t:Nat} {e:Nat} {size:Nat} {bytes:Nat} {z:Value} {l:List CV} {l2:List CV} {n} {len} {n2} {q2} {p2} (nn:Nat) (p:Gd w0 U0 nt ops o gs S:=by exact gN rfl) (r:o.dst=some d:=by exact rfl) (u:Nat.blt d nt=true:=by exact rfl) (v:Nat.blt d 100000=true:=by exact rfl) (A:o.op = .call { callee := .builtin .append,args := #[x,y],argTypes := #[t,t] }:=by exact rfl) (B:P.underlying t=some (.slice e):=by exact rfl) (C:(P.info? e).map (fun i=>(i.zero,i.size,i.bytes))=some (some z,size,bytes):=by exact rfl) (E:Nat.beq z.cells.size size=true:=by exact rfl) (F:Nat.ble bytes 1000=true:=by exact rfl) (G:ev S x=some (.sl n 0 len size):=by exact rfl) (H:ev S y=some ⟨0,.lst l2,n2,q2,p2⟩:=by exact rfl) (bR:(Nat.ble 200000 nn&&Nat.blt nn 400000)=true:=by exact rfl) (kE:(!Nat.beq n nn&&(Nat.blt n 300000||Nat.ble 300000 nn))=true:=by exact rfl) (dD:S n=some (.mrow e size l):=by exact rfl) (kF:len=l.length:=by first | rfl | omega | (simp only [length_set,length_map,length_append,length_cons,length_nil]<;>omega) | (simp<;>omega)) (kL:∀ c∈l2,c.size=size:=by first | assumption | exact sZ rfl | exact Tm.size_all _ | exact Bd.size_all _ | exact b8 _ | exact bys_size _ | exact Lt.size_all _) (bS:l.length+l2.length<=100000000000:=by first | omega | (simp only [length_map,length_append,length_cons,length_nil]<;>omega) | (simp<;>omega)):AOp P w0 U0 nt ops o (gs++(rd x++(rd y++[n]))) [(nn,[])] S [(d,.sl nn 0 (l.length+l2.length) size),(nn,.mrow e size (l++l2)),(n,.no)]:=c0M nn p r u v A B C E F G H bR kE dD kF kL bS
theorem b6G (hg:Gd w0 U0 nt ops o gs S) (hd:o.dst=none) {x:Operand} {t e e':TypeId} {ts:Array TypeId} {n lo len z:Nat} {l:List CV} {zc:CV} (ho:o.op = .call { callee := .builtin .clear,args := #[x],argTypes:=ts }) (ht:ts[0]?=some t) (hu:P.underlying t=some (.slice e)) (oA:U5 P e=some zc) (hx:ev S x=some (.sl n lo len z)) (bP:S n=some (.mrow e' z l)) (sF:zc.size=z) (hl:lo+len<=l.length) :
  AOp P w0 U0 nt ops o (gs++(rd x++[n])) [] S [(n,.mrow e' z (l.take lo++(List.replicate len zc++l.drop (lo+len))))]:=by
 intro s hs hN a w ⟨D,hv,h⟩ Q K hK;rw [if_pos (hg s (fun k hk=>hs k (mem_append_left _ hk)) a w D hv h)];have hm:=(hs n (by simp)).trans bP;obtain ⟨kN,ao,m,cap,ao',h1,h2,h3,h4,h6,h7⟩:RN n/\SlV (hv n) lo len z (a.eval x):=k9 h (fun k hk=>hs k (mem_append_right _ (mem_append_left _ hk))) hx;obtain ⟨xs,g1,g2,g3,g4⟩:=h.mrow hm kN;obtain ⟨it,zv,i1,i2,i3⟩:=K6 oA;by_cases vK:len=0
 ·subst vK;have he:(execOp a.eval o).run P w = .ok (.value (.tuple #[])) w:=by generalize a.eval=ρ at h2 |-;cases ao'<;>simp [execOp,ho,resolve,invoke,builtin,Builtin.clear_,ht,h2,run_underlying hu]
  unfold Oper.wp;rw [he,Oper.upon_value,hd];have:l.take lo++(List.replicate 0 zc++l.drop (lo+0))=l:=by simp
  refine hK _ _ ⟨D,hv,h.congr fun k=>?_⟩;rw [this];by_cases e:n=k
  ·subst e;rw [List.cons_append,lS];exact hm.symm
  ·rw [List.cons_append,lN e];rfl
 obtain ⟨g,cap',cur,f1,f2,f3,f4,f6,f7,f8,f9⟩:=X2 g1 (by omega);obtain rfl:cap=cap':=by rw [f1] at h1;injection h1 with k1 k2 k3;exact k3.symm
 obtain rfl:ao=some ⟨g,0,none⟩:=by rw [f1] at h1;injection h1 with k1 k2 k3;exact k1.symm
 have ha:ao'=some ⟨g,lo*z,none⟩:=h6 (by omega) g rfl;subst ha;have sG:zv.cells.size=z:=by have:=(i3 (fun _ _=>True) w).len;rw [sF] at this;simpa using this
 obtain ⟨zs,bU⟩:∃ zs,zs=(List.replicate len zv.cells.toList).flatten:=⟨_,rfl⟩
 have cZ:zs.length=len*z:=by rw [bU];simp [sG]
 have hzc2:(Builtin.zeroCells zv.cells len).toList=zs:=by
  rw [bU];apply ext_getElem?;intro k;rw [H4 g2 _ (by intro v kH;rw [List.mem_replicate] at kH;rw [kH.2];simpa using sG)];unfold Builtin.zeroCells;rw [sG];by_cases hk:k<len*z
  ·have e1:k / z<len:=(Nat.div_lt_iff_lt_mul g2).2 hk;have e2:k % z<zv.cells.size:=by rw [sG];exact Nat.mod_lt _ g2
   simp [hk,getElem?_replicate,e1,e2]
  ·have e1:¬ k / z<len:=by rw [Nat.div_lt_iff_lt_mul g2];exact hk
   simp [hk,getElem?_replicate,e1]
 have fR:∀ v∈zs,v.oneCell'=true:=by intro v kH;rw [bU,List.mem_flatten] at kH;obtain ⟨r,jU,jB⟩:=kH;rw [List.mem_replicate] at jU;rw [jU.2] at jB;exact (i3 (fun _ _=>True) w).one v jB
 have jP:lo*z+len*z<=l.length*z:=by rw [<-Nat.add_mul];exact Nat.mul_le_mul_right _ hl
 have vL:l.length*z<=cap*z:=Nat.mul_le_mul_right _ f3;have dN:=run_storeCells_at (P:=P) g (lo*z) e' zs 0 cur w f2 (by rw [cZ,f6];omega) fR;rw [Nat.add_zero] at dN;have he:(execOp a.eval o).run P w = .ok (.value (.tuple #[])) (w.setRow g (cur.toList.take (lo*z)++zs++cur.toList.drop (lo*z+zs.length)).toArray):=by
  have sH:(zeroValue e).run P w = .ok zv w:=by simp [zeroValue,typeInfo,i1,i2]
  obtain ⟨len',rfl⟩:∃ k,len=k+1:=⟨len-1,by omega⟩
  generalize a.eval=ρ at h2 |-;simp [execOp,ho,resolve,invoke,builtin,Builtin.clear_,ht,h2,run_underlying hu,sH,hzc2,dN]
 unfold Oper.wp;rw [he,Oper.upon_value,hd];have kG:k7 n:=by unfold RN at kN;unfold k7;omega
 obtain ⟨l',eQ⟩:∃ l',l'=l.take lo++(List.replicate len zc++l.drop (lo+len)):=⟨_,rfl⟩
 have cI:l'.length=l.length:=by rw [eQ];simp;omega
 refine hK _ _ ?_;rw [<-eQ];refine ⟨_,_,h.store (av := .mrow e' z l') kG hm (by simp) (by simp) rfl (fun g' hn o _=>hn o (by simp)) (by simp) f9 f2 fun w' hw bC=>?_⟩;have gV:l=l.take lo++((l.drop lo).take len++(l.drop lo).drop len):=by rw [take_append_drop,take_append_drop]
 have g4':=g4;rw [gV,map_append,map_append] at g4';obtain ⟨y1,r1,e1,s1,s2⟩:=w8 g4';obtain ⟨y2,y3,e2,s3,s4⟩:=w8 s2;have nO:y1.length=lo*z:=by rw [C9 (n:=CV.size) (fun c _ xs h=>h.len) s1,s5 (fun c hc=>g3 c (mem_of_mem_take hc)),length_take,Nat.min_eq_left (by omega)]
 have jF:y2.length=len*z:=by rw [C9 (n:=CV.size) (fun c _ xs h=>h.len) s3,s5 (fun c hc=>g3 c (List.mem_of_mem_drop (mem_of_mem_take hc))),length_take,List.length_drop,Nat.min_eq_left (by omega)]
 have hy3:y1.length+(y2.length+y3.length)=l.length*z:=by have:=g1.1;rw [e1,e2] at this;simpa using this
 have eW:cur.toList=y1++(y2++(y3++cur.toList.drop (l.length*z))):=by
  conv=>lhs;rw [<-take_append_drop (l.length*z) cur.toList,f7,e1,e2]
  simp
 have cQ:cur.toList.take (lo*z)++zs++cur.toList.drop (lo*z+zs.length)=(y1++(zs++y3))++cur.toList.drop (l.length*z):=by
  have t1:cur.toList.take (lo*z)=y1:=by rw [eW,<-nO];simp
  have t2:cur.toList.drop (lo*z+zs.length)=y3++cur.toList.drop (l.length*z):=by
   rw [cZ,<-nO,<-jF]
   conv=>lhs;rw [eW]
   rw [<-append_assoc,List.drop_append_of_le_length (by simp)];simp
  rw [t1,t2];simp
 rw [cQ] at hw;refine ⟨y1++(zs++y3),⟨?_,.inr ⟨g,cap,_,?_,Nat.zero_le _,hw,?_,f4,?_,?_⟩⟩,g2,fun x hx=>?_,?_⟩
 ·show _=l'.length*z;rw [cI];simp only [length_append,cZ];omega
 ·show hv n = .slice _ l'.length cap;rw [cI];exact f1
 ·show l'.length<=cap;rw [cI];exact f3
 ·have:=congrArg List.length eW;rw [Array.length_toList,f6] at this;simp only [List.size_toArray,length_append,cZ] at this |-;show _=cap*z;omega
 ·show List.take (l'.length*z) _=_;rw [cI,List.take_append_of_le_length (by simp only [length_append,cZ];omega),List.take_of_length_le (by simp only [length_append,cZ];omega)]
 ·have hx:x∈l':=hx;rw [eQ,mem_append,mem_append] at hx;rcases hx with hx | hx | hx
  ·exact g3 x (mem_of_mem_take hx)
  ·rw [List.mem_replicate] at hx;rw [hx.2,sF];rfl
  ·exact g3 x (List.mem_of_mem_drop hx)
 ·show Sq (l'.map fun c=>Rep (Us w0 U0 D) w' c) _;rw [eQ,map_append,map_append];refine B9 (Sq.keep bC s1) (B9 ?_ ?_)
  ·rw [bU];exact a7G (i3 _ _) len
  ·rw [<-List.drop_drop];exact Sq.keep bC s4
theorem z0 {P:Program} {w0:World} {U0:UX} {nt:Nat} {ops:Array Oper} {o:Oper} {S:Nat->Option AV} {gs:List Nat} {x:Operand} {t:TypeId} {e:TypeId} {e':TypeId} {ts:Array TypeId} {n:Nat} {lo:Nat} {len:Nat} {z:Nat} {l:List CV} {zc:CV} (p:Gd w0 U0 nt ops o gs S:=by exact gN rfl) (q:o.dst=none:=by exact rfl) (u:o.op = .call { callee := .builtin .clear,args := #[x],argTypes:=ts }:=by exact rfl) (y:ts[0]?=some t:=by exact rfl) (A:P.underlying t=some (.slice e):=by exact rfl) (B:U5 P e=some zc:=by exact rfl) (C:ev S x=some (.sl n lo len z):=by exact rfl) (E:S n=some (.mrow e' z l):=by exact rfl) (F:zc.size=z:=by exact rfl) (G:lo+len<=l.length:=by first | rfl | omega | (simp only [length_set,length_map,length_append,length_cons,length_nil]<;>omega) | (simp<;>omega)):AOp P w0 U0 nt ops o (gs++(rd x++[n])) [] S [(n,.mrow e' z (l.take lo++(List.replicate len zc++l.drop (lo+len))))]:=b6G p q u y A B C E F G
theorem a5n (d n:Nat) {e z lo len:Nat} {l:List CV} (hs:look s d=some (.sl n lo len z)) (hm:look s n=some (.mrow e z l)) (hd:Nat.blt d 100000=true) (hloc:(∀ b,¬ U0.x b)\/n<300000) (kF:lo+len<=l.length) {s':AS} (kQ:SubL s s') (hk:R6 s' n=true):Wk w0 U0 nt s ((d,.val (.lst ((l.drop lo).take len)))::s'):=by
 rintro a w ⟨D,hv,h⟩;have hd:=bL hd;obtain ⟨v,g1,kN,ao,m,cap,ao',h1,h2,h3,h4,h6,h7⟩:∃ v,a.tmps[d]?=some v/\RN n/\SlV (hv n) lo len z v:=h.slot d _ hs hd;have h2:v = .slice ao' len (cap-lo):=h2;obtain ⟨xs,f1,f2,f3,f4⟩:=h.mrow hm kN;have fQ:=kN;unfold RN at fQ;have kG:k7 n:=⟨by omega,by omega⟩
 have oB:=kQ.sub;have gB:∀ av,look s' n≠some av:=fun av h8=>by have h9:=B7 h8;unfold R6 at hk;rw [all_eq_true] at hk;have:=hk _ h9;simp at this
 rcases f1.2 with ⟨e1,e2⟩ | ⟨g,cap',cur,e1,_,e3,e4,e5,e6,e7⟩
 ·
  have vK:l=[]:=eq_nil_of_length_eq_zero e2;subst vK;rw [e1] at h1;injection h1 with h1 h8 h9;subst h1;subst h8;subst h9;have pE:lo=0:=by simp at kF;omega
  have cV:len=0:=by simp at kF;omega
  subst pE;subst cV;have jG:ao'=none:=h7.2 rfl;refine ⟨D,hv,(h.sub oB).know hd g1 (l5 ?_)⟩;rw [h2,jG];exact l4.2 ⟨none,0,0,rfl,rfl,Nat.le_refl _,by unfold maxLen;omega,fun _=>⟨rfl,rfl⟩,[],.inl rfl,rfl⟩
 ·obtain rfl:cap=cap':=by rw [e1] at h1;injection h1 with k1 k2 k3;exact k3.symm
  obtain rfl:ao=some ⟨g,0,none⟩:=by rw [e1] at h1;injection h1 with k1 k2 k3;exact k1.symm
  have jM:hb (hv n)=some g:=by rw [e1];rfl
  obtain ⟨b1,b2,b3⟩:=h.blk n _ g hm kG (by simp) jM;have hge:w0.heap.size<=g:=by
   rcases b1 with b1 | b1
   ·exact b1
   ·rcases hloc with hloc | hloc
    ·exact absurd b1.2 (hloc g)
    ·exact absurd (a1Q hloc _) b1.1
  have hG:=(h.sub oB).moreD (g:=g) b2 fun k av eR uO lW xV=>h.disj n k _ av g hm (oB _ _ eR) kG uO (by simp) lW (fun e=>gB av (e▸eR)) jM xV;refine ⟨_,hv,hG.know hd g1 (l5 ?_)⟩;rw [h2];have bC:∀ b o v,Us w0 U0 D b o->w.cell? ⟨b,o,none⟩=some v->Us w0 U0 (fun b o=>D b o\/b=g) b o/\w.cell? ⟨b,o,none⟩=some v:=fun b o v hu hc=>⟨hu.imp id fun h=>⟨h.1,.inl h.2⟩,hc⟩
  have gV:l=l.take lo++((l.drop lo).take len++(l.drop lo).drop len):=by rw [take_append_drop,take_append_drop]
  have f4':=f4;rw [gV,map_append,map_append] at f4';obtain ⟨y1,r1,c1,s1,s2⟩:=w8 f4';obtain ⟨y2,y3,c2,s3,s4⟩:=w8 s2;have nO:y1.length=lo*z:=by rw [C9 (n:=CV.size) (fun c _ xs h=>h.len) s1,s5 (fun c hc=>f3 c (mem_of_mem_take hc)),length_take,Nat.min_eq_left (by omega)]
  refine l4.2 ⟨ao',len,cap-lo,rfl,by simp;omega,by omega,by omega,fun eR=>?_,y2,?_,Sq.keep bC s3⟩
  ·have:=h7.1 eR;cases this
  ·by_cases cS:lo<cap
   ·refine .inr ⟨g,lo*z,h6 cS g rfl,fun i hi=>⟨.inr ⟨hge,.inr rfl⟩,?_⟩⟩;have kA:lo*z+i<l.length*z:=by have:=f1.1;rw [c1,c2] at this;simp only [length_append] at this;omega
    rw [a1m f1 (by rw [e1];rfl) kA,c1,c2,<-nO,getElem?_append_right (by omega),getElem?_append_left (by omega)];congr 1;omega
   ·left;have:len=0:=by omega
    rw [this] at s3;exact s3
def Y5 (P:Program) (W:World) (fc:CV) (args:List CV) (r:AV):Prop:=AFunV P W fc args r\/∃ f,fc = .sc (.func (.func f) #[] #[])/\AFun P W f args r
theorem b9I {x:Operand} {xs:Array Operand} {ts:Array TypeId} {fc:CV} {cs:List CV} {r:AV} {n q p} (hg:Gd w0 U0 nt ops o gs S) (hd:o.dst=some d) (hn:Nat.blt d nt=true) (h5:Nat.blt d 100000=true)
  (ho:o.op = .call { callee := .value x,args:=xs,argTypes:=ts }) (hf:ev S x=some ⟨0,fc,n,q,p⟩) (hx:V1 S xs.toList=some cs) (hc:Y5 P w0 fc cs r):AOp P w0 U0 nt ops o (gs++(rd x++rdl xs.toList)) [] S [(d,r)]:=by
 rcases hc with hc | ⟨f,rfl,hc⟩
 ·exact b2u hg hd hn h5 ho hf hx hc
 intro s hs _ a w ⟨D,hv,h⟩ Q K hK;rw [if_pos (hg s (fun k hk=>hs k (mem_append_left _ hk)) a w D hv h)];have hargs:=D7 h (fun k hk=>hs k (mem_append_right _ (mem_append_right _ hk))) hx;have tU:=v7 h (fun k hk=>hs k (mem_append_right _ (mem_append_left _ hk))) hf;obtain ⟨h1,h2,h3,h4⟩:=hc;have gD:=h4 _ w _ trivial hargs;have he:(execOp a.eval o).run P w = .ok (.enter f (xs.toList.map a.eval).toArray) w:=by
  have dR:=h1 (xs.map a.eval) w;have cL:(xs.toList.map a.eval).toArray=xs.map a.eval:=by apply Array.ext';simp
  rw [cL];generalize a.eval=ρ at tU dR |-;simp [execOp,ho,resolve,invoke,Deferred.ofValue,tU,dR]
 unfold Oper.wp;rw [he,Oper.upon_enter];refine gD.mono ?_;rintro e w' ⟨v,rfl,h6,h7⟩;rw [hd];exact hK _ _ ⟨Dn D w w',hv,(h.growN h7).put (bL hn) (bL h5) (Q5 h2 h3 (X8 rfl h7.size h.below.size h6))⟩
theorem zR {P:Program} {w0:World} {U0:UX} {nt:Nat} {ops:Array Oper} {o:Oper} {S:Nat->Option AV} {gs:List Nat} {d:Nat} {x:Operand} {xs:Array Operand} {ts:Array TypeId} {fc:CV} {cs:List CV} {r:AV} {n} {q} {p} (t:Gd w0 U0 nt ops o gs S:=by exact gN rfl) (u:o.dst=some d:=by exact rfl) (y:Nat.blt d nt=true:=by exact rfl) (z:Nat.blt d 100000=true:=by exact rfl) (A:o.op = .call { callee := .value x,args:=xs,argTypes:=ts }:=by exact rfl) (B:ev S x=some ⟨0,fc,n,q,p⟩:=by exact rfl) (C:V1 S xs.toList=some cs:=by exact rfl) (E:Y5 P w0 fc cs r):AOp P w0 U0 nt ops o (gs++(rd x++rdl xs.toList)) [] S [(d,r)]:=b9I t u y z A B C E
theorem AWp.nil {c:Code} {Q:Exit->AS->Prop} (d:Nat) {l:List CV} (h5:Nat.blt d 100000=true) (hs:look s d=some (.val (.lst l))) (h1:l=[]->AWp P w0 U0 nt c Q ((d,⟨0,.lst [],1,0,[]⟩)::s)) (h2:AWp P w0 U0 nt c Q ((d,⟨16,.lst l,0,0,[]⟩)::s)):AWp P w0 U0 nt c Q s:=by
 intro M a w ⟨D,hv,h⟩;have h5:=bL h5;obtain ⟨v,g1,g2⟩:=h.slot d _ hs h5;have g2:VRep (Us w0 U0 D) w (.lst l) v:=g2.1;cases hn:G4 v with
 | false=>exact h2 M a w ⟨D,hv,h.know h5 g1 ⟨g2,hn⟩⟩
 | true =>
  have lO:=a9y hn;subst lO;obtain ⟨ao,n,cc,e1,e2,_⟩:=l4.1 g2;injection e1 with _ e3 _;have hl:l=[]:=eq_nil_of_length_eq_zero (by omega);subst hl;exact h1 rfl M a w ⟨D,hv,h.know h5 g1 ⟨g2,fun _=>⟨0,.lst [],rfl,rfl⟩⟩⟩
theorem c0J (d:Nat) {c:CV} (h5:Nat.blt d 100000=true) (hs:look s d=some ⟨16,c,0,0,[]⟩):Wk w0 U0 nt s ((d,.val c)::s):=by
 rintro a w ⟨D,hv,h⟩;have h5:=bL h5;obtain ⟨v,g1,g2⟩:=h.slot d _ hs h5;exact ⟨D,hv,h.know h5 g1 (l5 g2.1)⟩
theorem a6w {t e:TypeId} (hu:P.underlying t=some (.slice e)) (v:Value) (w:World) (hv:∃ ao n c,v = .slice ao n c/\(ao=none->n=0/\c=0)):(Op.equal t v (.slice none 0 0)).run P w = .ok (G4 v) w:=by
 obtain ⟨ao,n,c,rfl,h⟩:=hv;unfold Op.equal;rw [show Op.maxDepth=9999+1 from rfl,Op.equalIn];cases ao with
 | none=>obtain ⟨rfl,rfl⟩:=h rfl;simp [run_underlying hu,G4]
 | some ad=>simp [run_underlying hu,G4]
theorem b8U (hg:Gd w0 U0 nt ops o gs S) (hd:o.dst=some d) (hn:Nat.blt d nt=true) (h5:Nat.blt d 100000=true) {x:Operand} {t1 t2 e:TypeId} {q} (ho:o.op = .binOp .eql t1 x (.const (.slice none 0 0)) t2) (hu:P.underlying t1=some (.slice e)) (hx:ev S x=some ⟨0,.lst [],1,q,[]⟩):AOp P w0 U0 nt ops o (gs++rd x) [] S [(d,.val (.b true))]:=
 i9 hg hd hn h5 (fun k hk=>mem_append_left _ hk) fun s hs a w D hv hm=>by
  obtain ⟨h1,h2⟩:VRep (Us w0 U0 D) w (.lst []) (a.eval x)/\Tk hv (a8 s) ⟨0,.lst [],1,q,[]⟩ (a.eval x).cells.toList:=k9 hm (fun k hk=>hs k (mem_append_right _ hk)) hx;have eD:a.eval x = .slice none 0 0:=by obtain ⟨m,c,g1,g2⟩:=h2 (.inl rfl);simp only at g1;rw [Q0] at g1;cases g1;obtain ⟨ao,k,c,e1,_⟩:=l4.1 h1;rw [e1] at g2 |-;simpa [Value.cells,H5] using g2
  refine ⟨.bool true,?_,q9 rfl⟩;have hb:=a6w (P:=P) hu (.slice none 0 0) w ⟨none,0,0,rfl,fun _=>⟨rfl,rfl⟩⟩;have hc:a.eval (.const (.slice none 0 0)) = .slice none 0 0:=rfl;generalize a.eval=ρ at eD hc |-;simp [execOp,ho,eD,hc,eqGuard,binOp,hb,G4]
theorem zT {P:Program} {w0:World} {U0:UX} {nt:Nat} {ops:Array Oper} {o:Oper} {S:Nat->Option AV} {gs:List Nat} {d:Nat} {x:Operand} {t1:TypeId} {t2:TypeId} {e:TypeId} {q} (p:Gd w0 U0 nt ops o gs S:=by exact gN rfl) (r:o.dst=some d:=by exact rfl) (t:Nat.blt d nt=true:=by exact rfl) (u:Nat.blt d 100000=true:=by exact rfl) (v:o.op = .binOp .eql t1 x (.const (.slice none 0 0)) t2:=by exact rfl) (y:P.underlying t1=some (.slice e):=by exact rfl) (z:ev S x=some ⟨0,.lst [],1,q,[]⟩:=by exact rfl):AOp P w0 U0 nt ops o (gs++rd x) [] S [(d,.val (.b true))]:=b8U p r t u v y z
theorem b5L (hg:Gd w0 U0 nt ops o gs S) (hd:o.dst=some d) (hn:Nat.blt d nt=true) (h5:Nat.blt d 100000=true) {x:Operand} {t1 t2 e:TypeId} {l:List CV} {n q p} (ho:o.op = .binOp .eql t1 x (.const (.slice none 0 0)) t2) (hu:P.underlying t1=some (.slice e)) (hx:ev S x=some ⟨16,.lst l,n,q,p⟩):AOp P w0 U0 nt ops o (gs++rd x) [] S [(d,.val (.b false))]:=
 i9 hg hd hn h5 (fun k hk=>mem_append_left _ hk) fun s hs a w D hv hm=>by obtain ⟨h1,h2⟩:VRep (Us w0 U0 D) w (.lst l) (a.eval x)/\G4 (a.eval x)=false:=k9 hm (fun k hk=>hs k (mem_append_right _ hk)) hx;obtain ⟨ao,k,c,e1,e2,e3,e4,e5,_⟩:=l4.1 h1;refine ⟨.bool false,?_,q9 rfl⟩;have hb:=a6w (P:=P) hu (a.eval x) w ⟨ao,k,c,e1,e5⟩;rw [h2] at hb;have hc:a.eval (.const (.slice none 0 0)) = .slice none 0 0:=rfl;generalize a.eval=ρ at hb hc |-;simp [execOp,ho,hc,eqGuard,binOp,hb]
theorem zU {P:Program} {w0:World} {U0:UX} {nt:Nat} {ops:Array Oper} {o:Oper} {S:Nat->Option AV} {gs:List Nat} {d:Nat} {x:Operand} {t1:TypeId} {t2:TypeId} {e:TypeId} {l:List CV} {n} {q} {p} (r:Gd w0 U0 nt ops o gs S:=by exact gN rfl) (t:o.dst=some d:=by exact rfl) (u:Nat.blt d nt=true:=by exact rfl) (v:Nat.blt d 100000=true:=by exact rfl) (y:o.op = .binOp .eql t1 x (.const (.slice none 0 0)) t2:=by exact rfl) (z:P.underlying t1=some (.slice e):=by exact rfl) (A:ev S x=some ⟨16,.lst l,n,q,p⟩:=by exact rfl):AOp P w0 U0 nt ops o (gs++rd x) [] S [(d,.val (.b false))]:=b5L r t u v y z A
theorem b2d (d n e z:Nat) (hs:look s d=some ⟨0,.lst [],1,0,[]⟩) (h5:Nat.blt d 100000=true) (hn:(Nat.ble 200000 n&&Nat.blt n 400000)=true) (hz:Nat.blt 0 z=true) (hr:A6 s [(n,[])]=true):Wk w0 U0 nt s ((d,.sl n 0 0 z)::(n,.mrow e z [])::s):=by
 rintro a w ⟨D,hv,h⟩;have h5:=bL h5;have kN:=rnB hn;have hz:=bL hz;have hr:=(q7 hr (n,[]) (by simp)).nr;obtain ⟨v,g1,g2⟩:=h.slot d _ hs h5;have lO:v = .slice none 0 0:=by obtain ⟨h1,h2⟩:VRep (Us w0 U0 D) w (.lst []) v/\Tk hv (a8 s) ⟨0,.lst [],1,0,[]⟩ v.cells.toList:=g2;obtain ⟨m,c,f1,f2⟩:=h2 (.inl rfl);simp only at f1;rw [Q0] at f1;cases f1;obtain ⟨ao,k,c,e1,_⟩:=l4.1 h1;rw [e1] at f2 |-;simpa [Value.cells,H5] using f2
 have hG:=h.newrow (X:=fun _=>False) (avn := .mrow e z []) (v' := .slice none 0 0) kN hr (by simp) (BelowX.refl _ _) (fun b hb=>hb.elim) (fun g hg=>by cases hg) (fun b o hd => .inl hd) h.dlt (fun b o u h1 h2=>⟨h1,h2⟩) (fun hv lv=>⟨[],World.ownsRow_nil _ _ _ _,hz,(fun c hc=>by cases hc),rfl⟩);refine ⟨D,_,hG.know h5 g1 ⟨RW.rn kN,?_⟩⟩;show SlV ((fun x=>if x=n then Value.slice none 0 0 else hv x) n) 0 0 z v;simp only [if_true];rw [lO];exact N7 rfl (Nat.le_refl _) (.inl rfl)
end
section
variable {P:Program} {w0:World} {U0:UX} {nt:Nat} {ops:Array Oper} {o:Oper} {S:Nat->Option AV} {gs:List Nat} {d:Nat} {s:AS} {a:Act} {w:World} {D:Nat->Nat->Prop} {hv:Nat->Value}
def b9d (av:AV):Bool:=match Nat.beq av.t 0 with | true=>Nat.beq av.c.k 2 | false=>false
theorem b0q {U:Nat->Nat->Prop} {c:CV} {v:Value} (h:VRep U w c v) (hk:c.k≠2):v.cells = #[v]/\v.oneCell'=true:=by
 unfold VRep at h;rw [if_neg hk] at h;have h1:=h.one v (by simp);exact ⟨by cases v<;>first | rfl | simp [Value.oneCell'] at h1,h1⟩
def b3f (av:AV):Bool:=Nat.beq av.t 0||Nat.beq av.t 2||Nat.beq av.t 11||Nat.beq av.t 12||Nat.beq av.t 15
theorem a1X {v:Value} (h:v.oneCell'=true):v.cells = #[v]:=by cases v<;>first | rfl | simp [Value.oneCell'] at h
theorem a7p {U:Nat->Nat->Prop} {lv:Nat->Prop} {av:AV} {v:Value} (h:AVRep U w hv lv av v) (hf:b3f av=true) (ht:av.t≠0):v.cells = #[v]/\v.oneCell'=true:=by
 unfold b3f at hf;simp only [Bool.or_eq_true] at hf;unfold AVRep at h;rw [if_neg ht] at h;rcases hf with (((hf | hf) | hf) | hf) | hf<;>have hf:=Nat.eq_of_beq_eq_true hf
 ·exact absurd hf ht
 ·rw [if_pos hf] at h;rw [h.2];exact ⟨rfl,rfl⟩
 ·rw [if_neg (by omega),if_neg (by omega),if_neg (by omega),if_pos hf] at h;rw [h.2];exact ⟨rfl,rfl⟩
 ·rw [if_neg (by omega),if_neg (by omega),if_neg (by omega),if_neg (by omega),if_pos hf] at h;obtain ⟨_,ao,m,cap,ao',_,e,_⟩:=h;rw [e];exact ⟨rfl,rfl⟩
 ·rw [if_neg (by omega),if_neg (by omega),if_neg (by omega),if_neg (by omega),if_neg (by omega),if_pos hf] at h;exact ⟨a1X h.2.2,h.2.2⟩
theorem aLf (hg:Gd w0 U0 nt ops o gs S) (hd:o.dst=some d) (hn:Nat.blt d nt=true) (h5:Nat.blt d 100000=true) {x:Operand} {ty:TypeId} {ds:TypeDesc} {z n q:Nat} {p:List Nat} {k' v' l'} {av:AV} (ho:o.op = .load ty x) (hu:P.underlying ty=some ds) (hi:(P.info? ty).map (·.size)=some z) (hx:ev S x=some ⟨2,⟨k',v',l'⟩,n,q,p⟩) (hb:S (100000+n)=some .obj) (hf:S (d9 n q)=some av) (hq:Nat.blt q 100=true) (hz:av.sz=z) (hk:T7 ds=b9d av) (ht:b3f av=true):AOp P w0 U0 nt ops o (gs++(rd x++[100000+n,d9 n q])) [] S [(d,av)]:=
 i9 hg hd hn h5 (fun k hk=>mem_append_left _ hk) fun s hs a w D hv hm=>by
  obtain ⟨bH,h1⟩:BN n/\a.eval x = .pointer (some ⟨o6 (hv (100000+n)),q,none⟩):=k9 hm (fun k hk=>hs k (mem_append_right _ (mem_append_left _ hk))) hx;obtain ⟨v,g1,g2,g3⟩:=hm.fld n q av ((hs (d9 n q) (by simp)).trans hf) (bL hq) ((hs (100000+n) (by simp)).trans hb) bH;have kD:=B3 (P:=P) (w:=w) hi;refine ⟨v,?_,g1⟩;have hl:(loadVar ty ⟨o6 (hv (100000+n)),q,none⟩).run P w = .ok v w:=by
   cases pJ:b9d av with
   | true =>
    rw [pJ] at hk;unfold b9d at pJ;split at pJ
    ·rename_i dI;have dI:=Nat.eq_of_beq_eq_true dI;have bB:=Nat.eq_of_beq_eq_true pJ;unfold AVRep at g1;rw [if_pos dI] at g1;have g4:=g1.1;unfold VRep at g4;rw [if_pos bB] at g4;obtain ⟨xs,rfl,g5⟩:=g4;have jN:xs.length=z:=by rw [<-hz,<-g2];simp [Value.cells]
     have:=run_loadCells_list (P:=P) w ⟨o6 (hv (100000+n)),q,none⟩ xs (fun j u hj=>by
      have gK:j<xs.length:=by
       rcases Nat.lt_or_ge j xs.length with h | h
       ·exact h
       ·rw [getElem?_eq_none h] at hj;cases hj
      rw [a1d,g3 j (by simpa [Value.cells] using gK)];simpa [Value.cells] using hj)
     rw [jN] at this;simp [loadVar,Z7 hu,hk,kD,this]
    ·cases pJ
   | false =>
    rw [pJ] at hk;have gG:v.cells = #[v]:=by
     by_cases dI:av.t=0
     ·unfold b9d at pJ;rw [dI] at pJ;have bB:av.c.k≠2:=fun e=>by rw [e] at pJ;cases pJ
      unfold AVRep at g1;rw [if_pos dI] at g1;exact (b0q g1.1 bB).1
     ·exact (a7p g1 ht dI).1
    have:=g3 0 (by rw [gG];simp);rw [gG] at this;simp only [Nat.add_zero] at this;simp [loadVar,Z7 hu,hk,run_load,this]
  generalize a.eval=ρ at h1 |-;simp [execOp,ho,Instr.loadAt,Instr.sureAddr,h1,hl]
theorem z9 {P:Program} {w0:World} {U0:UX} {nt:Nat} {ops:Array Oper} {o:Oper} {S:Nat->Option AV} {gs:List Nat} {d:Nat} {x:Operand} {ty:TypeId} {ds:TypeDesc} {z:Nat} {n:Nat} {q:Nat} {p:List Nat} {k'} {v'} {l'} {av:AV} (r:Gd w0 U0 nt ops o gs S:=by exact gN rfl) (y:o.dst=some d:=by exact rfl) (A:Nat.blt d nt=true:=by exact rfl) (B:Nat.blt d 100000=true:=by exact rfl) (C:o.op = .load ty x:=by exact rfl) (E:P.underlying ty=some ds:=by exact rfl) (F:(P.info? ty).map (·.size)=some z:=by exact rfl) (G:ev S x=some ⟨2,⟨k',v',l'⟩,n,q,p⟩:=by exact rfl) (H:S (100000+n)=some .obj:=by exact rfl) (hf:S (d9 n q)=some av:=by exact rfl) (hq:Nat.blt q 100=true:=by exact rfl) (hz:av.sz=z:=by exact rfl) (hk:T7 ds=b9d av:=by exact rfl) (ht:b3f av=true:=by exact rfl):AOp P w0 U0 nt ops o (gs++(rd x++[100000+n,d9 n q])) [] S [(d,av)]:=aLf r y A B C E F G H hf hq hz hk ht
theorem SimG.storeF (h:SimG w0 U0 nt s a w D hv) {n q:Nat} (bH:BN n) (fI:look s (100000+n)=some .obj) (hq:q<100) {av0 av:AV} (h0:look s (d9 n q)=some av0) (kD:av.sz=av0.sz) (hz0:0<av.sz) {v:Value} (gX:AVRep (Us w0 U0 D) w hv (a8 s) av v) (cF:v.cells.size=av.sz) :
  ∃ g ys zs us ty,o6 (hv (100000+n))=g/\w.heap[g]?=some (.cells (ys++zs++us).toArray ty (0,0))/\ys.length=q/\zs.length=av.sz/\SimG w0 U0 nt ((d9 n q,av)::s) a (w.setRow g (ys++v.cells.toList++us).toArray) D hv:=by
 obtain ⟨g,xs,ty,e1,e2,e3⟩:=h.obj9 fI bH;have jM:hb (hv (100000+n))=some g:=by rw [e1];rfl
 obtain ⟨v0,f1,f2,f3⟩:=h.fld n q av0 h0 hq fI bH;obtain ⟨mO,kA,hD⟩:=h.blk (100000+n) _ g fI (F0 bH) (by simp) jM;have uR:∀ o,¬ D g o:=fun o=>hD o fun e=>by cases e
 have hqz:q+av.sz<=xs.size:=by have:=f3 (av.sz-1) (by rw [f2,<-kD];omega);rw [e2] at this;simp only [World.cell?,e3] at this;rw [Array.getElem?_eq_getElem (xs:=v0.cells) (by rw [f2,<-kD];omega)] at this;have h2:=(Array.getElem?_eq_some_iff.1 (by simpa using this)).1;omega
 obtain ⟨ys,eA⟩:∃ ys,ys=xs.toList.take q:=⟨_,rfl⟩
 obtain ⟨zs,bU⟩:∃ zs,zs=(xs.toList.drop q).take av.sz:=⟨_,rfl⟩
 obtain ⟨us,eX⟩:∃ us,us=(xs.toList.drop q).drop av.sz:=⟨_,rfl⟩
 have eN:xs.toList=ys++zs++us:=by rw [eA,bU,eX,append_assoc,take_append_drop,take_append_drop]
 have lY:ys.length=q:=by rw [eA];simp;omega
 have sG:zs.length=av.sz:=by rw [bU];simp;omega
 have bQ:v.cells.toList.length=av.sz:=by simpa using cF
 have kI:w.heap[g]?=some (.cells (ys++zs++us).toArray ty (0,0)):=by rw [<-eN,Array.toArray_toList];exact e3
 refine ⟨g,ys,zs,us,ty,e2,kI,lY,sG,?_⟩;obtain ⟨w',eM⟩:∃ w',w'=w.setRow g (ys++v.cells.toList++us).toArray:=⟨_,rfl⟩
 rw [<-eM];have eE:∀ k,k≠g->w'.heap[k]?=w.heap[k]?:=fun k hk=>by rw [eM];exact setRow_other w g k _ hk
 have cQ:w'.heap[g]?=some (.cells (ys++v.cells.toList++us).toArray ty (0,0)):=by rw [eM];exact setRow_heap w _ _ _ _ _ kI
 have kJ:∀ b o u,Us w0 U0 D b o->w.cell? ⟨b,o,none⟩=some u->Us w0 U0 D b o/\w'.cell? ⟨b,o,none⟩=some u:=fun b o u hu hc=>by
  refine ⟨hu,?_⟩;rw [eM,cell_setRow_other]
  ·exact hc
  ·exact a3b hu mO (uR o)
 have dA:∀ i,i<q\/q+av.sz<=i->w'.cell? ⟨g,i,none⟩=w.cell? ⟨g,i,none⟩:=fun i hi=>by
  simp only [World.cell?,cQ,kI];simp only [Option.isSome_none,Bool.false_eq_true,if_false,List.getElem?_toArray];rcases hi with hi | hi
  ·rw [append_assoc,append_assoc,getElem?_append_left (by omega),getElem?_append_left (by omega)]
  ·rw [getElem?_append_right (by simp only [length_append];omega),getElem?_append_right (by simp only [length_append];omega)];simp only [length_append,bQ,sG]
 have dK:∀ {m o:Nat},o<100->d9 m o=d9 n q->m=n/\o=q:=fun {m o} ho e=>by unfold d9 at e;omega
 have kC:∀ {k},k≠d9 n q->look ((d9 n q,av)::s) k=look s k:=fun {k} hk=>lN (Ne.symm hk);have hl:∀ m e,r7 ((d9 n q,av)::s) m e↔r7 s m e:=fun m e=>by
  unfold r7;constructor
  ·rintro ⟨g1,g2⟩;rw [kC (by unfold d9;omega)] at g1;exact ⟨g1,g2⟩
  ·rintro ⟨g1,g2⟩;exact ⟨by rw [kC (by unfold d9;omega)];exact g1,g2⟩
 have kL:a8 ((d9 n q,av)::s)=a8 s:=by funext k;simp only [a8,hl]
 have eH:w'.heap.size=w.heap.size:=by rw [eM,setRow_size]
 refine ⟨⟨?_,?_,?_,by rw [eH];exact h.below.size,fun k hk pB=>?_⟩,h.dfr,h.size,fun d av' g1 g2=>?_,fun m o av' g1 g2 g3 g4=>?_,fun m o o' av1 av2 g1 g2 g3 g4 g5=>?_,fun k av' g1 g2=>?_,fun k av' g' g1 g2 g3 g4=>?_,fun k k' av1 av2 g' g1 g2 g3 g4=>?_,h.fix,fun b o hd=>by rw [eH];exact h.dlt b o hd⟩
 ·rw [eM];exact h.below.os
 ·rw [eM];exact h.below.tape
 ·rw [eM];exact h.below.output
 ·rw [eE k]
  ·exact h.below.block k hk pB
  ·rintro rfl;rcases mO with h1 | h1
   ·omega
   ·exact pB h1.2
 ·rw [kC (by unfold d9;omega)] at g1;rw [kL];obtain ⟨u,g3,g4⟩:=h.slot d av' g1 g2;exact ⟨u,g3,g4.keep kJ⟩
 ·rw [kC (by unfold d9 BN at *;omega)] at g3;rw [kL];by_cases e:d9 m o=d9 n q
  ·obtain ⟨rfl,rfl⟩:=dK g2 e;rw [lS] at g1;cases g1;refine ⟨v,gX.keep kJ,cF,fun i hi=>?_⟩;rw [e2];simp only [World.cell?,cQ];simp only [Option.isSome_none,Bool.false_eq_true,if_false,List.getElem?_toArray];rw [append_assoc,getElem?_append_right (by omega),lY,show o+i-o=i by omega,getElem?_append_left (by omega)];simp
  ·rw [kC e] at g1;obtain ⟨u,k1,k2,k3⟩:=h.fld m o av' g1 g2 g3 g4;refine ⟨u,k1.keep kJ,k2,fun i hi=>?_⟩;by_cases em:m=n
   ·subst em;have ho:o≠q:=fun e3=>e (by rw [e3]);rw [e2];have k4:=k3 i hi;rw [e2] at k4;rw [dA]
    ·exact k4
    ·rcases Nat.lt_or_ge o q with h3 | h3
     ·have:=h.fdis m o q av' av0 g1 h0 g2 hq h3;rw [k2] at hi;omega
     ·have:=h.fdis m q o av0 av' h0 g1 hq g2 (by omega);omega
   ·obtain ⟨g2',_,_,c1,c2,c3⟩:=h.obj9 g3 g4;have kE:g2'≠g:=fun e3=>h.disj (100000+n) (100000+m) _ _ g fI g3 (F0 bH) (F0 g4) (by simp) (by simp) (by omega) jM (by rw [c1,e3];rfl);rw [c2];have k4:=k3 i hi;rw [c2] at k4;rw [World.cell?_of_block (w:=w) (eE g2' kE)];exact k4
 ·have conv:∀ {o:Nat} {aq:AV},o<100->look ((d9 n q,av)::s) (d9 m o)=some aq->∃ aq',look s (d9 m o)=some aq'/\aq'.sz=aq.sz:=fun {o aq} ho g6=>by
   by_cases e:d9 m o=d9 n q
   ·rw [e,lS] at g6;cases g6;exact ⟨av0,by rw [e];exact h0,kD.symm⟩
   ·rw [kC e] at g6;exact ⟨aq,g6,rfl⟩
  obtain ⟨b1,c1,c2⟩:=conv g3 g1
  obtain ⟨b2,c3,c4⟩:=conv g4 g2
  rw [<-c2];exact h.fdis m o o' b1 b2 c1 c3 g3 g4 g5
 ·have g2':=g2;unfold k7 at g2';rw [kC (by unfold d9;omega)] at g1;rw [kL];by_cases e:k=100000+n
  ·subst e;rw [fI] at g1;cases g1;exact ⟨g,_,ty,e1,cQ⟩
  ·by_cases h7:av'.t=7
   ·exact a3K h7
   ·exact (h.obj k av' g1 g2).move kJ (fun _ hx=>⟨hx,rfl⟩) fun g' fE=>eE g' fun e3=>h.disj (100000+n) k _ av' g fI g1 (F0 bH) g2 (by simp) h7 (Ne.symm e) jM (e3▸fE)
 ·have g2':=g2;unfold k7 at g2';rw [kC (by unfold d9;omega)] at g1;rw [eH];exact h.blk k av' g' g1 g2 g3 g4
 ·have g3':=g3;have g4':=g4;unfold k7 at g3' g4';rw [kC (by unfold d9;omega)] at g1 g2;exact h.disj k k' av1 av2 g' g1 g2 g3 g4
theorem a8C (hg:Gd w0 U0 nt ops o gs S) (hd:o.dst=none) {x y:Operand} {ty:TypeId} {z n q:Nat} {p:List Nat} {k' v' l'} {av0 av:AV} (ho:o.op = .store ty x y) (hi:(P.info? ty).map (·.size)=some z) (hx:ev S x=some ⟨2,⟨k',v',l'⟩,n,q,p⟩) (hb:S (100000+n)=some .obj) (hf:S (d9 n q)=some av0) (hy:ev S y=some av) (hq:Nat.blt q 100=true) (hz:av.sz=z) (hz0:av0.sz=z) (sI:Nat.blt 0 z=true) (ht:b3f av=true):AOp P w0 U0 nt ops o (gs++(rd x++(rd y++[100000+n,d9 n q]))) [] S [(d9 n q,av)]:=by
 intro s hs hN a w ⟨D,hv,h⟩ Q K hK;rw [if_pos (hg s (fun k hk=>hs k (mem_append_left _ hk)) a w D hv h)];obtain ⟨bH,h1⟩:BN n/\a.eval x = .pointer (some ⟨o6 (hv (100000+n)),q,none⟩):=k9 h (fun k hk=>hs k (mem_append_right _ (mem_append_left _ hk))) hx;have h2:=k9 h (fun k hk=>hs k (mem_append_right _ (mem_append_right _ (mem_append_left _ hk)))) hy;have fF:(a.eval y).cells.size=av.sz/\∀ u∈(a.eval y).cells.toList,u.oneCell'=true:=by
  by_cases dI:av.t=0
  ·have h3:=h2;unfold AVRep at h3;rw [if_pos dI] at h3;refine ⟨?_,h3.1.cells.one⟩;have:=h3.1.cells.len;unfold AV.sz;rw [dI];simpa using this
  ·obtain ⟨g1,g2⟩:=a7p h2 ht dI;rw [g1];refine ⟨?_,by simpa using g2⟩;unfold AV.sz;rw [U3 dI];rfl
 obtain ⟨g,ys,zs,us,t,e1,e2,e3,e4,e5⟩:=h.storeF bH ((hs (100000+n) (by simp)).trans hb) (bL hq) ((hs (d9 n q) (by simp)).trans hf) (hz.trans hz0.symm) (by rw [hz];exact bL sI) h2 fF.1;rw [e1] at h1;have jP:(a.eval y).cells.toList.length=av.sz:=by simpa using fF.1
 have kW:=H6 (P:=P) hi e2 e3 (v:=a.eval y) rfl (by rw [jP,e4]) (by rw [jP,hz]) fF.2;have he:(execOp a.eval o).run P w = .ok .skip (w.setRow g (ys++(a.eval y).cells.toList++us).toArray):=by generalize a.eval=ρ at h1 kW |-;simp [execOp,ho,Instr.storeAt,Instr.sureAddr,h1,kW]
 unfold Oper.wp;rw [he,Oper.upon_skip,hd];exact hK _ _ ⟨_,_,e5⟩
theorem zbc {P:Program} {w0:World} {U0:UX} {nt:Nat} {ops:Array Oper} {o:Oper} {S:Nat->Option AV} {gs:List Nat} {x:Operand} {y:Operand} {ty:TypeId} {z:Nat} {n:Nat} {q:Nat} {p:List Nat} {k'} {v'} {l'} {av0:AV} {av:AV} (r:Gd w0 U0 nt ops o gs S:=by exact gN rfl) (A:o.dst=none:=by exact rfl) (B:o.op = .store ty x y:=by exact rfl) (C:(P.info? ty).map (·.size)=some z:=by exact rfl) (E:ev S x=some ⟨2,⟨k',v',l'⟩,n,q,p⟩:=by exact rfl) (F:S (100000+n)=some .obj:=by exact rfl) (G:S (d9 n q)=some av0:=by exact rfl) (H:ev S y=some av:=by exact rfl) (hq:Nat.blt q 100=true:=by exact rfl) (hz:av.sz=z:=by exact rfl) (hz0:av0.sz=z:=by exact rfl) (sI:Nat.blt 0 z=true:=by exact rfl) (ht:b3f av=true:=by exact rfl):AOp P w0 U0 nt ops o (gs++(rd x++(rd y++[100000+n,d9 n q]))) [] S [(d9 n q,av)]:=a8C r A B C E F G H hq hz hz0 sI ht
theorem SimG.addF (h:SimG w0 U0 nt s a w D hv) {n q:Nat} (bH:BN n) (fI:look s (100000+n)=some .obj) (hq:q<100) {av:AV} {v:Value} (gX:AVRep (Us w0 U0 D) w hv (a8 s) av v) (cF:v.cells.size=av.sz) (hc:∀ i,i<v.cells.size->w.cell? ⟨o6 (hv (100000+n)),q+i,none⟩=v.cells[i]?) (ho:∀ o av',look s (d9 n o)=some av'->o<100->q+av.sz<=o):SimG w0 U0 nt ((d9 n q,av)::s) a w D hv:=by
 have dK:∀ {m o:Nat},o<100->d9 m o=d9 n q->m=n/\o=q:=fun {m o} ho e=>by unfold d9 at e;omega
 have kC:∀ {k},k≠d9 n q->look ((d9 n q,av)::s) k=look s k:=fun {k} hk=>lN (Ne.symm hk);have hl:∀ m e,r7 ((d9 n q,av)::s) m e↔r7 s m e:=fun m e=>by
  unfold r7;constructor
  ·rintro ⟨g1,g2⟩;rw [kC (by unfold d9;omega)] at g1;exact ⟨g1,g2⟩
  ·rintro ⟨g1,g2⟩;exact ⟨by rw [kC (by unfold d9;omega)];exact g1,g2⟩
 have kL:a8 ((d9 n q,av)::s)=a8 s:=by funext k;simp only [a8,hl]
 refine ⟨h.below,h.dfr,h.size,fun d av' g1 g2=>?_,fun m o av' g1 g2 g3 g4=>?_,fun m o o' av1 av2 g1 g2 g3 g4 g5=>?_,fun k av' g1 g2=>?_,fun k av' g' g1 g2 g3 g4=>?_,fun k k' av1 av2 g' g1 g2 g3 g4=>?_,h.fix,h.dlt⟩
 ·rw [kC (by unfold d9;omega)] at g1;rw [kL];exact h.slot d av' g1 g2
 ·rw [kC (by unfold d9 BN at *;omega)] at g3;rw [kL];by_cases e:d9 m o=d9 n q
  ·obtain ⟨rfl,rfl⟩:=dK g2 e;rw [lS] at g1;cases g1;exact ⟨v,gX,cF,hc⟩
  ·rw [kC e] at g1;exact h.fld m o av' g1 g2 g3 g4
 ·by_cases e1:d9 m o=d9 n q
  ·obtain ⟨rfl,rfl⟩:=dK g3 e1;rw [lS] at g1;cases g1;rw [kC (by unfold d9;omega)] at g2;exact ho o' av2 g2 g4
  ·rw [kC e1] at g1;by_cases e2:d9 m o'=d9 n q
   ·obtain ⟨rfl,rfl⟩:=dK g4 e2;have:=ho o av1 g1 g3;omega
   ·rw [kC e2] at g2;exact h.fdis m o o' av1 av2 g1 g2 g3 g4 g5
 ·have g2':=g2;unfold k7 at g2';rw [kC (by unfold d9;omega)] at g1;rw [kL];exact h.obj k av' g1 g2
 ·have g2':=g2;unfold k7 at g2';rw [kC (by unfold d9;omega)] at g1;exact h.blk k av' g' g1 g2 g3 g4
 ·have g3':=g3;have g4':=g4;unfold k7 at g3' g4';rw [kC (by unfold d9;omega)] at g1 g2;exact h.disj k k' av1 av2 g' g1 g2 g3 g4
def b1H (c:CV):AV:=⟨0,c,match a0u c with | true=>1 | false=>0,0,[]⟩
noncomputable def a0F (d:Nat):List CV->Nat->AS
 | [],_=>[]
 | c::cs,o=>(d9 d o,b1H c)::a0F d cs (o+c.size)
theorem a0z {d:Nat}:∀ {cs:List CV} {o k:Nat} {av:AV},look (a0F d cs o) k=some av->∃ o',o<=o'/\k=d9 d o'
 | [],_,_,_,h=>by simp [a0F,look] at h
 | c::cs,o,k,av,h=>by
  rw [a0F,d8] at h;split at h
  ·rename_i e;exact ⟨o,Nat.le_refl _,e.symm⟩
  ·obtain ⟨o',h1,h2⟩:=a0z h;exact ⟨o',by omega,h2⟩
theorem V6 {U:Nat->Nat->Prop} {c:CV} {xs:List Value} (h:Rep U w c xs):∃ v,VRep U w c v/\v.cells.toList=xs:=by
 by_cases hk:c.k=2
 ·exact ⟨.agg xs.toArray,by unfold VRep;rw [if_pos hk];exact ⟨xs,rfl,h⟩,by simp [Value.cells]⟩
 ·have h1:c.size=1:=by cases c with | mk k v l=>rw [CV.size_mk,if_neg hk]
  have hl:=h.len;rw [h1] at hl
  match xs,hl with
  | [v],_ =>
   refine ⟨v,by unfold VRep;rw [if_neg hk];exact h,?_⟩;rw [a1X (h.one v (by simp))]
theorem SimG.addFs (h:SimG w0 U0 nt s a w D hv) {n:Nat} (bH:BN n) (fI:look s (100000+n)=some .obj) (gB:∀ o av,look s (d9 n o)=some av->o<100->False) {g:Nat} (iA:o6 (hv (100000+n))=g):∀ {cs:List CV} {segs:List (List Value)} {o:Nat},cs.length=segs.length->(∀ (i:Nat) (c:CV),cs[i]?=some c->∃ seg,segs[i]?=some seg/\Rep (Us w0 U0 D) w c seg/\(a0u c=true->seg=[.slice none 0 0]))->(∀ i,i<segs.flatten.length->w.cell? ⟨g,o+i,none⟩=segs.flatten[i]?)->(∀ c∈cs,0<c.size)->o+segs.flatten.length<=100->SimG w0 U0 nt (a0F n cs o++s) a w D hv
 | [],_,_,_,_,_,_,_=>h
 | c::cs,[],_,hl,_,_,_,_=>by simp at hl
 | c::cs,seg::segs,o,hl,hr,hc,hp,pU=>by
  obtain ⟨seg',e1,e2,e3⟩:=hr 0 c rfl;simp at e1;subst e1;have dQ:=e2.len;have hcp:=hp c (by simp);rw [List.flatten_cons] at hc pU;rw [length_append] at pU;have ih:=h.addFs bH fI gB iA (cs:=cs) (segs:=segs) (o:=o+c.size) (by simpa using hl) (fun i c' hi=>hr (i+1) c' (by simpa using hi)) (fun i hi=>by have:=hc (seg.length+i) (by rw [length_append];omega);rw [getElem?_append_right (by omega),show seg.length+i-seg.length=i by omega] at this;rw [<-this,dQ,Nat.add_assoc]) (fun c' vM=>hp c' (mem_cons_of_mem _ vM)) (by omega)
  obtain ⟨v,g1,g2⟩:=V6 e2;have oC:∀ {k},100000<=k->k<500000->look (a0F n cs (o+c.size)++s) k=look s k:=fun {k} h1 h2=>by
   rw [b5];cases e:look (a0F n cs (o+c.size)) k with
   | none=>rfl
   | some av=>obtain ⟨o',_,rfl⟩:=a0z e;unfold d9 at h2;omega
  have jH:=F0 bH;unfold k7 at jH;refine ih.addF bH (by rw [oC jH.1 jH.2];exact fI) (by omega) (v:=v) ⟨g1,fun dD=>?_⟩ ?_ ?_ ?_
  ·refine ⟨0,c,Q0 c,?_⟩;show v.cells.toList[0]?=some (H5 hv (b1H c).n);unfold b1H at dD |-;cases eD:a0u c with
   | true =>
    rw [g2,e3 eD];rfl
   | false=>rw [eD] at dD;exact absurd dD v8
  ·rw [<-Array.length_toList,g2,dQ];rfl
  ·intro i hi;have gH:i<seg.length:=by rw [<-g2];simpa using hi
   have:=hc i (by rw [length_append];omega);rw [getElem?_append_left gH,<-g2,Array.getElem?_toList] at this;rw [iA];exact this
  ·intro o' av' h1 h2;rw [b5] at h1;cases e:look (a0F n cs (o+c.size)) (d9 n o') with
   | none=>rw [e] at h1;exact (gB o' av' h1 h2).elim
   | some av =>
    obtain ⟨o2,h3,h4⟩:=a0z e;unfold d9 at h4;show o+c.size<=o';omega
end
section
open Go.RowKit Go.MapKept
section
variable {P:Program} {w0:World} {U0:UX} {nt:Nat} {ops:Array Oper} {o:Oper} {S:Nat->Option AV} {gs:List Nat} {d:Nat} {s:AS} {a:Act} {w:World} {D:Nat->Nat->Prop} {hv:Nat->Value}
theorem SimG.upd (h:SimG w0 U0 nt s a w D hv) {k0:Nat} (h5:k7 k0) {av0 av:AV} (h0:look s k0=some av0) (dI:av0.t≠7) (nJ:av0.t≠9) (ht:av.t=av0.t) (hnd:∀ g,NoD D av0 (hv k0) g->NoD D av (hv k0) g) (rG:av.t≠6) {g:Nat} (hg:hb (hv k0)=some g) {w':World} (hos:w'.os=w.os) (htp:w'.tape=w.tape) (hou:w'.output=w.output) (eH:w'.heap.size=w.heap.size) (eE:∀ k,k≠g->w'.heap[k]?=w.heap[k]?) (pR:(∀ b o v,Us w0 U0 D b o->w.cell? ⟨b,o,none⟩=some v->Us w0 U0 D b o/\w'.cell? ⟨b,o,none⟩=some v)->OC (Us w0 U0 D) w' hv (a8 s) av (hv k0)) :
  SimG w0 U0 nt ((k0,av)::s) a w' D hv:=by
 obtain ⟨gR,iH,hD⟩:=h.blk k0 av0 g h0 h5 dI hg;have xW:=h5;unfold k7 at xW;have nL:av0.t≠6:=by rw [<-ht];exact rG
 have uR:∀ o,¬ D g o:=fun o=>hD o fun e=>absurd e nL;have rH:av ≠ .obj:=fun e=>nJ (by rw [<-ht,e]);have uS:av0 ≠ .obj:=fun e=>nJ (by rw [e]);have hl:∀ n e,r7 ((k0,av)::s) n e↔r7 s n e:=fun n e=>by
  unfold r7;by_cases e1:k0=n
  ·subst e1;rw [lS,h0];constructor
   ·rintro ⟨h1,_⟩;cases h1;exact absurd rfl rG
   ·rintro ⟨h1,_⟩;cases h1;exact absurd rfl nL
  ·rw [lN e1]
 have kL:a8 ((k0,av)::s)=a8 s:=by funext k;simp only [a8,hl]
 have kJ:∀ b o v,Us w0 U0 D b o->w.cell? ⟨b,o,none⟩=some v->Us w0 U0 D b o/\w'.cell? ⟨b,o,none⟩=some v:=fun b o v hu hc=>by refine ⟨hu,?_⟩;rw [World.cell?_of_block (w:=w) (eE b (a3b hu gR (uR o)))];exact hc
 refine ⟨⟨hos.trans h.below.os,htp.trans h.below.tape,hou.trans h.below.output,by rw [eH];exact h.below.size,fun k hk pB=>?_⟩,h.dfr,h.size,fun d av' h1 h2=>?_,fun n o av' h1 h2 h3 eR=>?_,fun n o o' av1 av2 h1 h2=>?_,fun k av' h1 h2=>?_,fun k av' g' h1 h2 h3 h4=>?_,fun k k' av1 av2 g' h1 h2 h3 h4 h6 h7 kE=>?_,h.fix,fun b o hd=>?_⟩
 ·rw [eE k]
  ·exact h.below.block k hk pB
  ·rintro rfl;rcases gR with h1 | h1
   ·omega
   ·exact pB h1.2
 ·rw [lN (by omega)] at h1;rw [kL];obtain ⟨v,h3,h4⟩:=h.slot d av' h1 h2;exact ⟨v,h3,h4.keep kJ⟩
 ·rw [lN (by unfold d9;omega)] at h1;have kE:k0≠100000+n:=fun e=>by subst e;rw [lS] at h3;cases h3;exact rH rfl
  rw [lN kE] at h3;rw [kL];obtain ⟨v,h4,h6,h7⟩:=h.fld n o av' h1 h2 h3 eR;refine ⟨v,h4.keep kJ,h6,fun i hi=>?_⟩;have iO:o6 (hv (100000+n))≠g:=by
   rintro e;obtain ⟨g2,ys,ty2,e1,e2,e3⟩:=h.obj9 h3 eR;have:hb (hv (100000+n))=some g:=by rw [e1];rw [e2] at e;rw [<-e];rfl
   exact h.disj k0 (100000+n) av0 _ g h0 h3 h5 (F0 eR) dI (by simp) kE hg this
  rw [World.cell?_of_block (w:=w) (eE _ iO)];exact h7 i hi
 ·rw [lN (by unfold d9;omega)] at h1 h2;exact h.fdis n o o' av1 av2 h1 h2
 ·rw [kL];by_cases e:k0=k
  ·subst e;rw [lS] at h1;cases h1;exact pR kJ
  ·rw [lN e] at h1;by_cases h7:av'.t=7
   ·exact a3K h7
   ·exact (h.obj k av' h1 h2).move kJ (fun _ hl=>⟨hl,rfl⟩) fun g' fE=>eE g' fun e2=>h.disj k0 k av0 av' g h0 h1 h5 h2 dI h7 e hg (e2▸fE)
 ·rw [eH];by_cases e:k0=k
  ·subst e;rw [lS] at h1;cases h1;obtain ⟨g1,g2,g3⟩:=h.blk k0 av0 g' h0 h5 dI h4;exact ⟨by rw [b1S ht];exact g1,g2,hnd g' g3⟩
  ·rw [lN e] at h1;exact h.blk k av' g' h1 h2 h3 h4
 ·have conv:∀ q (aq:AV),look ((k0,av)::s) q=some aq->aq.t≠7->∃ aq',look s q=some aq'/\aq'.t≠7:=fun q aq h8 h9=>by
   by_cases e:k0=q
   ·exact ⟨av0,by rw [<-e];exact h0,dI⟩
   ·rw [lN e] at h8;exact ⟨aq,h8,h9⟩
  obtain ⟨a1,b1,c1⟩:=conv k av1 h1 h6
  obtain ⟨a2,b2,c2⟩:=conv k' av2 h2 h7
  exact h.disj k k' a1 a2 g' b1 b2 h3 h4 c1 c2 kE
 ·rw [eH];exact h.dlt b o hd
theorem b9Y (nn:Nat) (hg:Gd w0 U0 nt ops o gs S) (hd:o.dst=some d) (hn:Nat.blt d nt=true) (h5:Nat.blt d 100000=true) {t:TypeId} (ho:o.op = .makeMap t none) (bR:(Nat.ble 200000 nn&&Nat.blt nn 400000)=true):AOp P w0 U0 nt ops o gs [(nn,[])] S [(d,.mref nn),(nn,.mp [])]:=by
 intro s hs hN a w ⟨D,hv,h⟩ Q K hK;rw [if_pos (hg s hs a w D hv h)];have kN:=rnB bR;have he:(execOp a.eval o).run P w = .ok (.value (.map (some w.heap.size))) (w.alloc (.map #[] 0)):=by simp [execOp,ho,Instr.makeMap,run_newObj_alloc]
 unfold Oper.wp;rw [he,Oper.upon_value,hd];have hb':Below w.heap.size w (w.alloc (.map #[] 0)):=(Below.refl _ _).alloc (Nat.le_refl _) _;have hG:=h.newrow (X:=fun _=>False) (avn := .mp []) (v' := .map (some w.heap.size)) (D':=D) kN (hN (nn,[]) (by simp)).nr (by simp) ((BelowX.refl _ w).step hb') (fun b hb=>hb.elim) (fun g hg=>by have hg:some w.heap.size=some g:=hg;cases hg;refine ⟨.inr (Nat.le_refl _),by simp,fun o _ hd=>?_⟩;have:=h.dlt _ _ hd;omega) (fun b o hd => .inl hd) (fun b o hd=>Nat.lt_of_lt_of_le (h.dlt _ _ hd) hb'.size) (N5 h.dlt hb' fun _ _ h=>h) (fun hv lv=>⟨w.heap.size,#[],0,rfl,t7 _ _,rfl,by simp,by simp⟩)
 refine hK _ _ ⟨_,_,hG.put (bL hn) (bL h5) ⟨RW.rn kN,?_,rfl⟩⟩;simp
theorem zbt {P:Program} {w0:World} {U0:UX} {nt:Nat} {ops:Array Oper} {o:Oper} {S:Nat->Option AV} {gs:List Nat} {d:Nat} {t:TypeId} (nn:Nat) (p:Gd w0 U0 nt ops o gs S:=by exact gN rfl) (q:o.dst=some d:=by exact rfl) (r:Nat.blt d nt=true:=by exact rfl) (u:Nat.blt d 100000=true:=by exact rfl) (v:o.op = .makeMap t none:=by exact rfl) (x:(Nat.ble 200000 nn&&Nat.blt nn 400000)=true:=by exact rfl):AOp P w0 U0 nt ops o gs [(nn,[])] S [(d,.mref nn),(nn,.mp [])]:=b9Y nn p q r u v x
theorem a7H {U:Nat->Nat->Prop}:∀ {l:List CV} {es:List MapEntry} {j:Nat} {c:CV},Ents U w l es->l[j]?=some c->∃ e,es[j]?=some e/\Ent U w c e
 | [],_,_,_,_,h=>by simp at h
 | x::l,es,0,c,⟨e,es',h1,h2,h3⟩,h=>by simp at h;subst h;exact ⟨e,by rw [h1];rfl,h2⟩
 | x::l,es,j+1,c,⟨e,es',h1,h2,h3⟩,h=>by
  obtain ⟨e',g1,g2⟩:=a7H h3 (j:=j) (c:=c) (by simpa using h);exact ⟨e',by rw [h1];simpa using g1,g2⟩
theorem a1K {U:Nat->Nat->Prop}:∀ {l:List CV} {es:List MapEntry},Ents U w l es->es.length=l.length
 | [],_,h=>by have h:_=[]:=h;rw [h];rfl
 | x::l,es,⟨e,es',h1,h2,h3⟩=>by rw [h1,length_cons,length_cons,a1K h3]
def x6 (k:IntKind) (l:List CV):Prop:=∀ r∈l,∃ i c,r = .row [.sc (.int k i),c]
def E3 (k:IntKind) (i:Int):List CV->Option CV
 | []=>none
 | ⟨_,_,[⟨_,.int k' j,_⟩,c]⟩::l=>if k'=k/\j=i then some c else E3 k i l
 | _::l=>E3 k i l
theorem O4 {k:IntKind} {i j:Int} {c:CV} {l:List CV}:E3 k i (.row [.sc (.int k j),c]::l)=if j=i then some c else E3 k i l:=by
 rw [E3];simp
theorem J7 {U:Nat->Nat->Prop} {k:IntKind} {i:Int}:∀ {l:List CV} {es:List MapEntry} (n:Nat),Ents U w l es->x6 k l ->
  (Instr.findNow (.int k) (.int k i) es n=some none/\E3 k i l=none)\/∃ j e c,Instr.findNow (.int k) (.int k i) es n=some (some (n+j,e.val))/\es[j]?=some e/\l[j]?=some (.row [.sc (.int k i),c])/\VRep U w c e.val/\e.key = .int k i/\E3 k i l=some c
 | [],es,n,h,_=>by have h:es=[]:=h;subst h;exact .inl ⟨rfl,rfl⟩
 | r::l,es,n,⟨e,es',h1,⟨k1,c1,g2,g3,g4,g5⟩,h3⟩,hk=>by
  obtain ⟨j0,c0,e1⟩:=hk r (by simp);rw [e1] at g2;injection g2 with _ _ g6;injection g6 with g6 g7;injection g7 with g7 _;subst g7;have cB:e.key = .int k j0:=by rw [g4,<-g6]
  subst h1;rw [e1,O4];by_cases hj:j0=i
  ·subst hj;right;refine ⟨0,e,c0,?_,rfl,rfl,g5,cB,by rw [if_pos rfl]⟩;simp [Instr.findNow,Instr.sameNow,cB]
  ·rw [if_neg hj];have hs:Instr.sameNow (.int k) (.int k i) e.key=some false:=by rw [cB];simp [Instr.sameNow];exact fun h=>hj h.symm
   rcases J7 (n+1) h3 (fun x hx=>hk x (mem_cons_of_mem _ hx)) with ⟨f1,f2⟩ | ⟨j,e',c,f1,f2,f3,f4,f5,f6⟩
   ·left;exact ⟨by simp [Instr.findNow,hs,f1],f2⟩
   ·right;refine ⟨j+1,e',c,?_,by simpa using f2,by simpa using f3,f4,f5,f6⟩;simp [Instr.findNow,hs,f1];omega
theorem b5D (hg:Gd w0 U0 nt ops o gs S) (hd:o.dst=some d) (hn:Nat.blt d nt=true) (h5:Nat.blt d 100000=true) {x y:Operand} {t kt et:TypeId} {k:IntKind} {i:Int} {n:Nat} {l:List CV} {zc:CV} {n' q' p'} (ho:o.op = .lookup t x y true) (hu:P.underlying t=some (.map kt et)) (eY:P.underlying kt=some (.int k)) (oA:U5 P et=some zc) (hx:ev S x=some (.mref n)) (hy:ev S y=some ⟨0,.sc (.int k i),n',q',p'⟩) (bP:S n=some (.mp l)) (hik:x6 k l) (hzr:∀ U w v,Rep U w zc v.cells.toList->(∃ it,P.info? et=some it/\it.zero=some v)->VRep U w zc v):AOp P w0 U0 nt ops o (gs++(rd x++(rd y++[n]))) [] S [(d,.tup [(E3 k i l).getD zc,.b (E3 k i l).isSome])]:=
 i9 hg hd hn h5 (fun k hk=>mem_append_left _ hk) fun s hs a w D hv hm=>by
  obtain ⟨kN,h1,_⟩:RN n/\a.eval x=hv n/\(a.eval x).oneCell'=true:=k9 hm (fun k hk=>hs k (mem_append_right _ (mem_append_left _ hk))) hx;have e2:=v7 hm (fun k hk=>hs k (mem_append_right _ (mem_append_right _ (mem_append_left _ hk)))) hy;have kG:k7 n:=by unfold RN at kN;unfold k7;omega
  obtain ⟨g,es,clock,g1,g2,g3,g4,g5⟩:∃ g es clock,hv n = .map (some g)/\w.heap[g]?=some (.map es clock)/\Ents (Us w0 U0 D) w l es.toList/\(∀ e∈es,e.born<clock)/\(es.toList.map (fun e:MapEntry=>e.born)).Nodup:=hm.obj n _ ((hs n (by simp)).trans bP) kG;obtain ⟨it,zv,i1,i2,i3⟩:=K6 oA;have eZ:=run_checkKey (P:=P) (w:=w) eY (k := .int k i) rfl es.isEmpty 9999;have hge:=Go.MapKept.run_getObj_map (P:=P) g2;rcases J7 0 g3 hik (i:=i) with ⟨f1,f2⟩ | ⟨j,e,c,f1,f2,f3,f4,f5,f6⟩
  ·have dK:=run_findKey (P:=P) (w:=w) eY f1;have sH:(zeroValue et).run P w = .ok zv w:=by simp [zeroValue,typeInfo,i1,i2]
   refine ⟨.tuple #[zv,.bool false],?_,?_⟩
   ·rw [g1] at h1;generalize a.eval=ρ at h1 e2 |-;simp [execOp,ho,Instr.lookup,run_underlying hu,h1,e2,hge,eZ,dK,sH]
   ·rw [f2];exact ⟨[zv,.bool false],rfl,zv,[.bool false],rfl,hzr _ _ zv (i3 _ _) ⟨it,i1,i2⟩,.bool false,[],rfl,n7.2 ⟨rfl,rfl⟩,rfl⟩
  ·have dK:=run_findKey (P:=P) (w:=w) eY f1;refine ⟨.tuple #[e.val,.bool true],?_,?_⟩
   ·rw [g1] at h1;generalize a.eval=ρ at h1 e2 |-;simp [execOp,ho,Instr.lookup,run_underlying hu,h1,e2,hge,eZ,dK]
   ·rw [f6];exact ⟨[e.val,.bool true],rfl,e.val,[.bool true],rfl,f4,.bool true,[],rfl,n7.2 ⟨rfl,rfl⟩,rfl⟩
theorem aNc (hg:Gd w0 U0 nt ops o gs S) (hd:o.dst=some d) (hn:Nat.blt d nt=true) (h5:Nat.blt d 100000=true) {x:Operand} {n q:Nat} {p:List Nat} {c:CV} (ho:o.op = .nilCheck x) (hx:ev S x=some ⟨2,c,n,q,p⟩):AOp P w0 U0 nt ops o (gs++rd x) [] S [(d,⟨2,c,n,q,p⟩)]:=
 i9 hg hd hn h5 (fun k hk=>mem_append_left _ hk) fun s hs a w D hv hm=>by obtain ⟨bH,h1⟩:BN n/\a.eval x = .pointer (some ⟨o6 (hv (100000+n)),q,none⟩):=k9 hm (fun k hk=>hs k (mem_append_right _ hk)) hx;refine ⟨.pointer (some ⟨o6 (hv (100000+n)),q,none⟩),?_,bH,rfl⟩;generalize a.eval=ρ at h1 |-;simp [execOp,ho,h1]
theorem z8 {P:Program} {w0:World} {U0:UX} {nt:Nat} {ops:Array Oper} {o:Oper} {S:Nat->Option AV} {gs:List Nat} {d:Nat} {x:Operand} {n:Nat} {q:Nat} {p:List Nat} {c:CV} (r:Gd w0 U0 nt ops o gs S:=by exact gN rfl) (t:o.dst=some d:=by exact rfl) (u:Nat.blt d nt=true:=by exact rfl) (v:Nat.blt d 100000=true:=by exact rfl) (y:o.op = .nilCheck x:=by exact rfl) (z:ev S x=some ⟨2,c,n,q,p⟩:=by exact rfl):AOp P w0 U0 nt ops o (gs++rd x) [] S [(d,⟨2,c,n,q,p⟩)]:=aNc r t u v y z
def a2u (k:IntKind) (i:Int) (c:CV):List CV->List CV
 | []=>[.row [.sc (.int k i),c]]
 | r::l=>match r with
  | ⟨_,_,[⟨_,.int k' j,_⟩,_]⟩=>if k'=k/\j=i then .row [.sc (.int k i),c]::l else r::a2u k i c l
  | _=>r::a2u k i c l
theorem a4Z {k:IntKind} {i j:Int} {c c':CV} {l:List CV}:a2u k i c (.row [.sc (.int k j),c']::l)=if j=i then .row [.sc (.int k i),c]::l else .row [.sc (.int k j),c']::a2u k i c l:=by
 rw [a2u];simp
theorem Z0 {k:IntKind} {i:Int} (c:CV):∀ {l:List CV},x6 k l->(E3 k i l=none->a2u k i c l=l++[.row [.sc (.int k i),c]])/\∀ j c',l[j]?=some (.row [.sc (.int k i),c'])->(∀ j' c'',j'<j->l[j']?≠some (.row [.sc (.int k i),c'']))->a2u k i c l=l.set j (.row [.sc (.int k i),c])
 | [],_=>⟨fun _=>rfl,fun j c' h=>by simp at h⟩
 | r::l,hk=>by
  obtain ⟨j0,c0,rfl⟩:=hk r (by simp);obtain ⟨ih1,ih2⟩:=Z0 c (l:=l) (fun x hx=>hk x (mem_cons_of_mem _ hx));rw [a4Z,O4];by_cases hj:j0=i
  ·subst hj;rw [if_pos rfl,if_pos rfl];refine ⟨(fun h=>by cases h),fun j c' h hf=>?_⟩;cases j with
   | zero=>rfl
   | succ j=>exact absurd rfl (hf 0 c0 (by omega))
  ·rw [if_neg hj,if_neg hj];refine ⟨fun h=>by rw [ih1 h];rfl,fun j c' h hf=>?_⟩;cases j with
   | zero =>
    simp at h;exact absurd h.1 hj
   | succ j =>
    rw [ih2 j c' (by simpa using h) fun j' c'' kA=>by have:=hf (j'+1) c'' (by omega);simpa using this];rfl
theorem a0K {U:Nat->Nat->Prop} {k:IntKind} {i:Int}:∀ {l:List CV} {es:List MapEntry} (n:Nat) {j:Nat} {v:Value},Ents U w l es->x6 k l->Instr.findNow (.int k) (.int k i) es n=some (some (n+j,v))->∀ j' c'',j'<j->l[j']?≠some (.row [.sc (.int k i),c''])
 | [],es,n,j,v,h,_,hf=>by have h:es=[]:=h;subst h;cases hf
 | r::l,es,n,j,v,⟨e,es',h1,⟨k1,c1,g2,g3,g4,g5⟩,h3⟩,hk,hf=>by
  obtain ⟨j0,c0,e1⟩:=hk r (by simp);rw [e1] at g2;injection g2 with _ _ g6;injection g6 with g6 g7;have cB:e.key = .int k j0:=by rw [g4,<-g6]
  subst h1;intro j' c'' kA hr;by_cases hj:j0=i
  ·subst hj;simp [Instr.findNow,Instr.sameNow,cB] at hf;omega
  ·have hs:Instr.sameNow (.int k) (.int k i) e.key=some false:=by rw [cB];simp [Instr.sameNow];exact fun h=>hj h.symm
   simp [Instr.findNow,hs] at hf;cases j' with
   | zero =>
    rw [e1] at hr;simp at hr;exact hj hr.1
   | succ j' =>
    obtain ⟨j2,rfl⟩:∃ j2,j=j2+1:=⟨j-1,by omega⟩
    exact a0K (n+1) (j:=j2) h3 (fun x hx=>hk x (mem_cons_of_mem _ hx)) (by rw [hf];congr 3;omega) j' c'' (by omega) (by simpa using hr)
theorem a4O {U:Nat->Nat->Prop} {r:CV} {e':MapEntry}:∀ {l:List CV} {es:List MapEntry} {j:Nat},Ents U w l es->Ent U w r e'->Ents U w (l.set j r) (es.set j e')
 | [],es,j,h,_=>by have h:es=[]:=h;subst h;exact rfl
 | x::l,es,0,⟨e,es',h1,h2,h3⟩,hr=>by rw [h1];exact ⟨e',es',rfl,hr,h3⟩
 | x::l,es,j+1,⟨e,es',h1,h2,h3⟩,hr=>by rw [h1];exact ⟨e,es'.set j e',rfl,h2,a4O h3 hr⟩
theorem a1Y {U:Nat->Nat->Prop} {r:CV} {e':MapEntry}:∀ {l:List CV} {es:List MapEntry},Ents U w l es->Ent U w r e'->Ents U w (l++[r]) (es++[e'])
 | [],es,h,hr=>by have h:es=[]:=h;subst h;exact ⟨e',[],rfl,hr,rfl⟩
 | x::l,es,⟨e,es',h1,h2,h3⟩,hr=>by rw [h1];exact ⟨e,es'++[e'],rfl,h2,a1Y h3 hr⟩
theorem b8O (hg:Gd w0 U0 nt ops o gs S) (hd:o.dst=none) {x y z:Operand} {t kt et:TypeId} {k:IntKind} {i:Int} {n:Nat} {l:List CV} {c:CV} {n' q' p' n2 q2 p2} (ho:o.op = .mapUpdate t x y z) (hu:P.underlying t=some (.map kt et)) (eY:P.underlying kt=some (.int k)) (hx:ev S x=some (.mref n)) (hy:ev S y=some ⟨0,.sc (.int k i),n',q',p'⟩) (hz:ev S z=some ⟨0,c,n2,q2,p2⟩) (bP:S n=some (.mp l)) (hik:x6 k l):AOp P w0 U0 nt ops o (gs++(rd x++(rd y++(rd z++[n])))) [] S [(n,.mp (a2u k i c l))]:=by
 intro s hs hN a w ⟨D,hv,h⟩ Q K hK;rw [if_pos (hg s (fun k hk=>hs k (mem_append_left _ hk)) a w D hv h)];have hm:=(hs n (by simp)).trans bP;obtain ⟨kN,h1,_⟩:RN n/\a.eval x=hv n/\(a.eval x).oneCell'=true:=k9 h (fun k hk=>hs k (mem_append_right _ (mem_append_left _ hk))) hx;have e2:=v7 h (fun k hk=>hs k (mem_append_right _ (mem_append_right _ (mem_append_left _ hk)))) hy;have e3:=A0 h (fun k hk=>hs k (mem_append_right _ (mem_append_right _ (mem_append_right _ (mem_append_left _ hk))))) hz;have kG:k7 n:=by unfold RN at kN;unfold k7;omega
 obtain ⟨g,es,clock,g1,g2,g3,g4,g5⟩:∃ g es clock,hv n = .map (some g)/\w.heap[g]?=some (.map es clock)/\Ents (Us w0 U0 D) w l es.toList/\(∀ e∈es,e.born<clock)/\(es.toList.map (fun e:MapEntry=>e.born)).Nodup:=h.obj n _ hm kG;have eZ:=run_checkKey (P:=P) (w:=w) eY (k := .int k i) rfl false 9999;have hge:=Go.MapKept.run_getObj_map (P:=P) g2;obtain ⟨p1,p2'⟩:=Z0 (i:=i) c hik;have fin:∀ (es':Array MapEntry) (clock':Nat),(execOp a.eval o).run P w = .ok .skip { w with heap:=w.heap.setIfInBounds g (.map es' clock') }->Ents (Us w0 U0 D) w (a2u k i c l) es'.toList->(∀ e∈es',e.born<clock')->(es'.toList.map (fun e:MapEntry=>e.born)).Nodup->o.wp P a w K Q:=fun es' clock' he k1 k2 k3=>by obtain ⟨q1,q2⟩:=heap_set (o':=Obj.map es' clock') g2;unfold Oper.wp;rw [he,Oper.upon_skip,hd];refine hK _ _ ⟨_,_,h.upd (av := .mp (a2u k i c l)) (g:=g) kG hm (by simp) (by simp) rfl (fun g' hn o _=>hn o (by simp)) (by simp) (by rw [g1];rfl) rfl rfl rfl (by simp) q2 fun bC=>?_⟩;exact ⟨g,es',clock',g1,q1,k1.keep bC,k2,k3⟩
 rcases J7 0 g3 hik (i:=i) with ⟨f1,f2⟩ | ⟨j,e,c',f1,f2,f3,f4,f5,f6⟩
 ·have dK:=run_findKey (P:=P) (w:=w) eY f1;refine fin (es.push { key := .int k i,val:=a.eval z,born:=clock }) (clock+1) ?_ ?_ ?_ ?_
  ·rw [g1] at h1;have fS:=run_setObj_map (P:=P) (Obj.map (es.push { key := .int k i,val:=a.eval z,born:=clock }) (clock+1)) g2;generalize a.eval=ρ at h1 e2 fS |-;simp [execOp,ho,Instr.mapUpdate,run_underlying hu,h1,e2,hge,eZ,dK,fS]
  ·rw [p1 f2,Array.toList_push];exact a1Y g3 ⟨.sc (.int k i),c,rfl,rfl,rfl,e3⟩
  ·intro e he;rcases Array.mem_push.1 he with he | rfl
   ·have:=g4 e he;omega
   ·exact Nat.lt_succ_self _
  ·rw [Array.toList_push,map_append,List.nodup_append];refine ⟨g5,by simp,fun a1 h1 b1 h2=>?_⟩;simp at h1 h2;obtain ⟨e,he,rfl⟩:=h1;have:=g4 e he;omega
 ·have dK:=run_findKey (P:=P) (w:=w) eY f1;rw [Nat.zero_add] at dK;have gK:j<es.size:=by have:=(List.getElem?_eq_some_iff.1 f2).1;simpa using this
  have vN:es[j]?=some e:=by rw [<-Array.getElem?_toList];exact f2
  have pV:(es.modify j fun e=>{ e with key := .int k i,val:=a.eval z }).toList=es.toList.set j { e with key := .int k i,val:=a.eval z }:=by
   rw [Array.toList_modify];apply ext_getElem?;intro q;rw [List.getElem?_modify,List.getElem?_set];by_cases hq:j=q
   ·subst hq;have:es[j]=e:=(Array.getElem?_eq_some_iff.1 vN).2;simp [gK,this]
   ·simp [hq]
  have cO:(es.modify j fun e=>{ e with key := .int k i,val:=a.eval z }).toList.map (fun e:MapEntry=>e.born)=es.toList.map (fun e:MapEntry=>e.born):=by
   rw [pV,List.map_set];apply ext_getElem?;intro q;rw [List.getElem?_set];by_cases hq:j=q
   ·subst hq;rw [if_pos rfl,if_pos (by simpa using gK),List.getElem?_map,f2];rfl
   ·rw [if_neg hq]
  refine fin (es.modify j fun e=>{ e with key := .int k i,val:=a.eval z }) clock ?_ ?_ ?_ ?_
  ·rw [g1] at h1;have fS:=run_setObj_map (P:=P) (Obj.map (es.modify j fun e=>{ e with key := .int k i,val:=a.eval z }) clock) g2;have dN:(Instr.keyThatStays (.int k i) (.int k i)).run P w = .ok (.int k i) w:=by simp [Instr.keyThatStays,Instr.sameBits]
   generalize a.eval=ρ at h1 e2 fS |-;simp [execOp,ho,Instr.mapUpdate,run_underlying hu,h1,e2,hge,eZ,dK,vN,f5,dN,fS]
  ·rw [pV,p2' j c' f3 (a0K 0 (j:=j) g3 hik f1)];exact a4O g3 ⟨.sc (.int k i),c,rfl,rfl,rfl,e3⟩
  ·intro e' he;have h6:e'.born∈(es.modify j fun e=>{ e with key := .int k i,val:=a.eval z }).toList.map (fun e:MapEntry=>e.born):=mem_map.2 ⟨e',Array.mem_toList_iff.2 he,rfl⟩;rw [cO] at h6;obtain ⟨e4,h7,h8⟩:=mem_map.1 h6;rw [<-h8];exact g4 e4 (by simpa using h7)
  ·rw [cO];exact g5
theorem zbg {P:Program} {w0:World} {U0:UX} {nt:Nat} {ops:Array Oper} {o:Oper} {S:Nat->Option AV} {gs:List Nat} {x:Operand} {y:Operand} {z:Operand} {t:TypeId} {kt:TypeId} {et:TypeId} {k:IntKind} {i:Int} {n:Nat} {l:List CV} {c:CV} {n'} {q'} {p'} {n2} {q2} {p2} (p:Gd w0 U0 nt ops o gs S:=by exact gN rfl) (r:o.dst=none:=by exact rfl) (u:o.op = .mapUpdate t x y z:=by exact rfl) (v:P.underlying t=some (.map kt et):=by exact rfl) (A:P.underlying kt=some (.int k):=by exact rfl) (B:ev S x=some (.mref n):=by exact rfl) (C:ev S y=some ⟨0,.sc (.int k i),n',q',p'⟩:=by exact rfl) (E:ev S z=some ⟨0,c,n2,q2,p2⟩:=by exact rfl) (F:S n=some (.mp l):=by exact rfl) (G:x6 k l):AOp P w0 U0 nt ops o (gs++(rd x++(rd y++(rd z++[n])))) [] S [(n,.mp (a2u k i c l))]:=b8O p r u v A B C E F G
end
end
section
variable {P:Program} {w0:World} {U0:UX} {nt:Nat} {ops:Array Oper} {o:Oper} {S:Nat->Option AV} {gs:List Nat} {d:Nat} {s:AS} {a:Act} {w:World} {D:Nat->Nat->Prop} {hv:Nat->Value}
theorem AOp.plain {R:List Nat} {N:List (Nat×List Nat)} {c:CV} {n q:Nat} {p:List Nat} (h5:Nat.blt d 100000=true) (h:AOp P w0 U0 nt ops o R N S [(d,⟨0,c,n,q,p⟩)]):AOp P w0 U0 nt ops o R N S [(d,.val c)]:=by
 intro s hs hN a w sJ Q K hK;refine h s hs hN a w sJ Q K fun a' w' gL=>hK a' w' ?_;obtain ⟨D,hv,hg⟩:=gL;obtain ⟨v,g1,g2⟩:=hg.slot d _ (lS _ _ _) (bL h5);refine ⟨D,hv,(hg.know (bL h5) g1 (l5 g2.1)).congr fun k=>?_⟩;show look ((d,AV.val c)::s) k=look ((d,AV.val c)::(d,_)::s) k;rw [d8,d8,d8];split<;>rfl
theorem b5m (hg:Gd w0 U0 nt ops o gs S) (hd:o.dst=some d) (hn:Nat.blt d nt=true) (h5:Nat.blt d 100000=true) {t:TypeId} {parts:Array (Nat×Operand)} {fs:Array Field} {it:TypeInfo} {cs:Array Value} {sz:List Nat} {zs r:List CV} {n:Nat} {p:List Nat} (ho:o.op = .build t parts) (hu:P.underlying t=some (.struct fs)) (hi:P.info? t=some it) (hz:it.zero=some (.agg cs)) (kD:szO P fs.toList 0=some sz) (h0:zsO sz cs.toList=some zs) (hr:N8 S parts.toList zs=some r) (hp:b0o zs parts.toList 0=(n,p)) :
  AOp P w0 U0 nt ops o (gs++rds parts.toList) [] S [(d,.val (.row r))]:=(b2q hg hd hn h5 ho hu hi hz kD h0 hr hp).plain h5
theorem zbP {P:Program} {w0:World} {U0:UX} {nt:Nat} {ops:Array Oper} {o:Oper} {S:Nat->Option AV} {gs:List Nat} {d:Nat} {t:TypeId} {parts:Array (Nat×Operand)} {fs:Array Field} {it:TypeInfo} {cs:Array Value} {sz:List Nat} {zs:List CV} {r:List CV} {n:Nat} {p:List Nat} (q:Gd w0 U0 nt ops o gs S:=by exact gN rfl) (u:o.dst=some d:=by exact rfl) (v:Nat.blt d nt=true:=by exact rfl) (x:Nat.blt d 100000=true:=by exact rfl) (y:o.op = .build t parts:=by exact rfl) (z:P.underlying t=some (.struct fs):=by exact rfl) (A:P.info? t=some it:=by exact rfl) (B:it.zero=some (.agg cs):=by exact rfl) (C:szO P fs.toList 0=some sz:=by exact rfl) (E:zsO sz cs.toList=some zs:=by exact rfl) (F:N8 S parts.toList zs=some r:=by exact rfl) (G:b0o zs parts.toList 0=(n,p):=by exact rfl):AOp P w0 U0 nt ops o (gs++rds parts.toList) [] S [(d,.val (.row r))]:=b5m q u v x y z A B C E F G
theorem b4H {t k e:TypeId} (hu:P.underlying t=some (.map k e)) (w:World):(Op.equal t (.map none) (.map none)).run P w = .ok true w:=by
 unfold Op.equal;rw [show Op.maxDepth=9999+1 from rfl,Op.equalIn];simp [run_underlying hu]
theorem b4j (z:List Value) (hz:0<z.length) (n:Nat):(madeCells z.toArray (n*z.length)).toList=(List.replicate n z).flatten:=by
 apply ext_getElem?;intro k;rw [H4 hz _ (fun v hv=>by rw [List.eq_of_mem_replicate hv])];have kF:(madeCells z.toArray (n*z.length)).toList.length=n*z.length:=by simp [size_madeCells]
 rcases Nat.lt_or_ge k (n*z.length) with h | h
 ·have hd:k / z.length<n:=by rw [Nat.div_lt_iff_lt_mul hz];exact h
  have hm:k % z.length<z.length:=Nat.mod_lt _ hz;rw [getElem?_replicate,if_pos hd];simp only [Option.bind_some];rw [List.getElem?_eq_getElem hm];simp [madeCells,h,hm]
 ·rw [getElem?_eq_none (by omega),getElem?_replicate,if_neg]
  ·rfl
  ·rw [Nat.not_lt,Nat.le_div_iff_mul_le hz];exact h
theorem c2A (nn:Nat) (hg:Gd w0 U0 nt ops o gs S) (hd:o.dst=some d) (hn:Nat.blt d nt=true) (h5:Nat.blt d 100000=true) {x y:Operand} {t e size bytes k:Nat} {z:Value} {zc:CV} {i1 i2:Int} {k1 k2:IntKind} {n1 q1 p1 n2 q2 p2} (ho:o.op = .makeSlice t x y) (ht:P.underlying t=some (.slice e)) (hi:(P.info? e).map (fun i=>(i.zero,i.size,i.bytes))=some (some z,size,bytes)) (oA:U5 P e=some zc) (bU:Nat.beq z.cells.size size=true) (sF:zc.size=size) (kD:Nat.blt 0 size=true) (eF:Nat.ble bytes 1000=true)
  (hx:ev S x=some ⟨0,.sc (.int k1 i1),n1,q1,p1⟩) (hy:ev S y=some ⟨0,.sc (.int k2 i2),n2,q2,p2⟩) (bR:(Nat.ble 200000 nn&&Nat.blt nn 400000)=true) (h1:i1=(k:Int)) (h2:i2=(k:Int)) (dZ:Nat.ble size 160=true) (bS:k<=100000) :
  AOp P w0 U0 nt ops o (gs++(rd x++rd y)) [(nn,[])] S [(d,.sl nn 0 k size),(nn,.mrow e size (List.replicate k zc))]:=by
 intro s hs hN a w ⟨D,hv,h⟩ Q K hK;rw [if_pos (hg s (fun k hk=>hs k (mem_append_left _ hk)) a w D hv h)];have e1:=v7 h (fun k hk=>hs k (mem_append_right _ (mem_append_left _ hk))) hx;have e2:=v7 h (fun k hk=>hs k (mem_append_right _ (mem_append_right _ hk))) hy;subst h1;subst h2;obtain ⟨i,dC,iE,eL,lG⟩:=info_parts hi;have kD:=bL kD;have eF:=Nat.le_of_ble_eq_true eF;have bU:=Nat.eq_of_beq_eq_true bU;have pS:bytes*k<=1000*100000:=Nat.mul_le_mul eF bS;have hk:k*size<=100000*160:=Nat.mul_le_mul bS (Nat.le_of_ble_eq_true dZ);obtain ⟨w',r1,r2,r3⟩:=run_makeSlice_full (P:=P) (w:=w) w.heap.size t e i z size ht dC iE eL k1 k2 k (by omega) (by rw [lG];omega) (by unfold maxLen;omega) (Nat.le_refl _);have dW:=rnB bR;obtain ⟨it,z',f1,f2,f3⟩:=K6 oA;rw [dC] at f1;cases f1;rw [iE] at f2;cases f2;have hmf:(madeCells z.cells (k*size)).toList=(List.replicate k z.cells.toList).flatten:=by have:=b4j z.cells.toList (by simpa [bU] using kD) k;simpa [bU] using this
 rw [hmf] at r2;have bC:∀ b o u,Us w0 U0 D b o->w.cell? ⟨b,o,none⟩=some u->Us w0 U0 D b o/\w'.cell? ⟨b,o,none⟩=some u:=fun b o u hu hc=>by refine ⟨hu,?_⟩;have kA:b<w.heap.size:=World.block_lt_of_cell? w _ hc;rw [World.cell?_of_block (w:=w) (r3.block b kA (by simp))];exact hc
 have hG:=h.newrow (avn := .mrow e size (List.replicate k zc)) (v' := .slice (some ⟨w.heap.size,0,none⟩) k k) (D':=D) (X:=fun _=>False) (n:=nn) dW (hN (nn,[]) (by simp)).nr (by simp) ⟨r3.os,r3.tape,r3.output,r3.size,fun b hb hx=>r3.block b hb (by simp)⟩ (fun b hb=>hb.elim) (fun g hg=>by
   have hg:(Value.slice (some ⟨w.heap.size,0,none⟩) k k).ownBlock=some g:=hg;refine ⟨.inr (r2.lt g hg).1,(r2.lt g hg).2,fun o _ hd=>?_⟩;have:=(r2.lt g hg).1;have:=h.dlt _ _ hd;omega) (fun b o hd => .inl hd) (fun b o hd=>Nat.lt_of_lt_of_le (h.dlt _ _ hd) r3.size) bC (fun hv lv=>by
   refine ⟨(List.replicate k z.cells.toList).flatten,?_,kD,fun c hc=>?_,a7G (f3 _ _) k⟩
   ·show w'.ownsRow 0 e size _ (List.replicate k zc).length _;rw [List.length_replicate];exact s7 r2 (Nat.zero_le _)
   ·rw [List.eq_of_mem_replicate hc];exact sF)
 have he:(execOp a.eval o).run P w = .ok (.value (.slice (some ⟨w.heap.size,0,none⟩) k k)) w':=by generalize a.eval=ρ at e1 e2 |-;simp [execOp,ho,e1,e2,r1]
 unfold Oper.wp;rw [he,Oper.upon_value,hd];refine hK _ _ ⟨_,_,hG.put (bL hn) (bL h5) ⟨RW.rn dW,?_⟩⟩;show SlV ((fun x=>if x=nn then Value.slice (some ⟨w.heap.size,0,none⟩) k k else hv x) nn) 0 k size _;simp only [if_true];exact N7 rfl (Nat.le_refl _) (.inr ⟨_,rfl⟩)
theorem zbj {P:Program} {w0:World} {U0:UX} {nt:Nat} {ops:Array Oper} {o:Oper} {S:Nat->Option AV} {gs:List Nat} {d:Nat} {x:Operand} {y:Operand} {t:Nat} {e:Nat} {size:Nat} {bytes:Nat} {k:Nat} {z:Value} {zc:CV} {i1:Int} {i2:Int} {k1:IntKind} {k2:IntKind} {n1} {q1} {p1} {n2} {q2} {p2} (nn:Nat) (p:Gd w0 U0 nt ops o gs S:=by exact gN rfl) (q:o.dst=some d:=by exact rfl) (r:Nat.blt d nt=true:=by exact rfl) (v:Nat.blt d 100000=true:=by exact rfl) (A:o.op = .makeSlice t x y:=by exact rfl) (B:P.underlying t=some (.slice e):=by exact rfl) (C:(P.info? e).map (fun i=>(i.zero,i.size,i.bytes))=some (some z,size,bytes):=by exact rfl) (E:U5 P e=some zc:=by exact rfl) (F:Nat.beq z.cells.size size=true:=by exact rfl) (G:zc.size=size:=by exact rfl) (H:Nat.blt 0 size=true:=by exact rfl) (eF:Nat.ble bytes 1000=true:=by exact rfl) (hx:ev S x=some ⟨0,.sc (.int k1 i1),n1,q1,p1⟩:=by exact rfl) (hy:ev S y=some ⟨0,.sc (.int k2 i2),n2,q2,p2⟩:=by exact rfl) (bR:(Nat.ble 200000 nn&&Nat.blt nn 400000)=true:=by exact rfl) (h1:i1=(k:Int):=by first | rfl | omega | (simp only [length_set,length_map,length_append,length_cons,length_nil]<;>omega) | (simp<;>omega)) (h2:i2=(k:Int):=by first | rfl | omega | (simp only [length_set,length_map,length_append,length_cons,length_nil]<;>omega) | (simp<;>omega)) (dZ:Nat.ble size 160=true:=by exact rfl) (bS:k<=100000:=by first | rfl | omega | (simp only [length_set,length_map,length_append,length_cons,length_nil]<;>omega) | (simp<;>omega)):AOp P w0 U0 nt ops o (gs++(rd x++rd y)) [(nn,[])] S [(d,.sl nn 0 k size),(nn,.mrow e size (List.replicate k zc))]:=c2A nn p q r v A B C E F G H eF hx hy bR h1 h2 dZ bS
end
section
variable {P:Program} {w0:World} {U0:UX} {nt:Nat} {ops:Array Oper} {o:Oper} {S:Nat->Option AV} {gs:List Nat} {d:Nat} {s:AS} {a:Act} {w:World} {D:Nat->Nat->Prop} {hv:Nat->Value}
theorem b5M (sz:List Nat) (hg:Gd w0 U0 nt ops o gs S) (hd:o.dst=some d) (hn:Nat.blt d nt=true) (h5:Nat.blt d 100000=true) {ty:TypeId} {it:TypeInfo} {cs:Array Value} {zs:List CV} (ho:o.op = .alloc ty) (hi:P.info? ty=some it) (hz:it.zero=some (.agg cs)) (h0:zsO sz cs.toList=some zs):AOp P w0 U0 nt ops o gs [(d,[])] S [(d,.bp d 0 []),(100000+d,.bx (.row zs))]:=by
 intro s hs hN a w ⟨D,hv,h⟩ Q K hK;rw [if_pos (hg s hs a w D hv h)];obtain ⟨segs,e1,e2,e3,e4,e5⟩:=F9 (U:=Us w0 U0 D) (w:=w) h0;have gQ:Rep (Us w0 U0 D) w (.row zs) cs.toList:=by rw [E8,<-e1];exact G9 e4 (fun i c hi=>by obtain ⟨seg,f1,f2,_⟩:=e5 i c hi;exact ⟨seg,f1,f2⟩)
 have he:(execOp a.eval o).run P w = .ok (.value (.pointer (some ⟨w.heap.size,0,none⟩))) (w.alloc (.cells cs ty)):=by simp [execOp,ho,Instr.alloc,zeroValue,typeInfo,hi,hz,E0,Value.cells]
 unfold Oper.wp;rw [he,Oper.upon_value,hd];have:=h.newbox (d:=d) (av := .bx (.row zs)) (hN (d,[]) (by simp)).nr (bL hn) (bL h5) (.inl rfl) ty (fun _=>gQ) (fun _ hl=>absurd hl v8);rw [Array.toArray_toList] at this;exact hK _ _ ⟨_,_,this⟩
theorem zbd {P:Program} {w0:World} {U0:UX} {nt:Nat} {ops:Array Oper} {o:Oper} {S:Nat->Option AV} {gs:List Nat} {d:Nat} {ty:TypeId} {it:TypeInfo} {cs:Array Value} {zs:List CV} (sz:List Nat) (p:Gd w0 U0 nt ops o gs S:=by exact gN rfl) (q:o.dst=some d:=by exact rfl) (r:Nat.blt d nt=true:=by exact rfl) (t:Nat.blt d 100000=true:=by exact rfl) (u:o.op = .alloc ty:=by exact rfl) (v:P.info? ty=some it:=by exact rfl) (x:it.zero=some (.agg cs):=by exact rfl) (y:zsO sz cs.toList=some zs:=by exact rfl):AOp P w0 U0 nt ops o gs [(d,[])] S [(d,.bp d 0 []),(100000+d,.bx (.row zs))]:=b5M sz p q r t u v x y
theorem b6U (sz:List Nat) (hg:Gd w0 U0 nt ops o gs S) (hd:o.dst=some d) (hn:Nat.blt d nt=true) (h5:Nat.blt d 100000=true) {t e:TypeId} {m z:Nat} {parts:Array (Nat×Operand)} {it ie:TypeInfo} {cs:Array Value} {zs r:List CV} (ho:o.op = .build t parts) (hu:P.underlying t=some (.array m e)) (hi:P.info? t=some it) (hie:P.info? e=some ie) (hz:it.zero=some (.agg cs)) (hez:ie.size=z) (kD:sz=List.replicate m z) (h0:zsO sz cs.toList=some zs) (hr:N8 S parts.toList zs=some r) :
  AOp P w0 U0 nt ops o (gs++rds parts.toList) [] S [(d,.val (.row r))]:=
 i9 hg hd hn h5 (fun k hk=>mem_append_left _ hk) fun s hs a w D hv hm=>by
  obtain ⟨segs,e1,e2,e3,e4,e5⟩:=F9 (U:=Us w0 U0 D) (w:=w) h0;have kF:segs.map List.length=zs.map CV.size:=by rw [e2,e3]
  obtain ⟨g1,g2⟩:=T0 (U:=Us w0 U0 D) (w:=w) (ρ:=a.eval) (segs:=segs) hr (fun x hx c n q p rE=>A0 hm (fun k hk=>hs k (mem_append_right _ (a3l hx k hk))) rE) e4 kF (fun i c hi=>by obtain ⟨seg,f1,f2,_⟩:=e5 i c hi;exact ⟨seg,f1,f2⟩);have iG:=Z2 (place:=fun i=>some (i*ie.size,ie.size)) sz (fun i z' iQ=>by
   rw [kD,getElem?_replicate] at iQ;split at iQ
   ·rename_i qT;cases iQ;rw [kD,List.take_replicate,List.sum_replicate_nat,hez,Nat.min_eq_left (Nat.le_of_lt qT)]
   ·cases iQ) (parts.toList.map fun x=>(x.1,a.eval x.2)) segs cs e1.symm e2 (fun x hx=>by rw [<-e3];exact g1 x hx)
  refine ⟨.agg (E7 segs (parts.toList.map fun x=>(x.1,a.eval x.2))).flatten.toArray,?_,l5 (I6.2 ⟨_,rfl,g2⟩)⟩;have hb:P.built t (parts.map fun x=>(x.1,a.eval x.2)).toList=some (E7 segs (parts.toList.map fun x=>(x.1,a.eval x.2))).flatten.toArray:=by unfold Program.built;rw [hi,hu];simp only [hz,hie];rw [Array.toList_map];exact iG
  have:=run_build w t _ _ hb;generalize a.eval=ρ at this |-;simp [execOp,ho,this]
theorem zba {P:Program} {w0:World} {U0:UX} {nt:Nat} {ops:Array Oper} {o:Oper} {S:Nat->Option AV} {gs:List Nat} {d:Nat} {t:TypeId} {e:TypeId} {m:Nat} {z:Nat} {parts:Array (Nat×Operand)} {it:TypeInfo} {ie:TypeInfo} {cs:Array Value} {zs:List CV} {r:List CV} (sz:List Nat) (u:Gd w0 U0 nt ops o gs S:=by exact gN rfl) (v:o.dst=some d:=by exact rfl) (y:Nat.blt d nt=true:=by exact rfl) (A:Nat.blt d 100000=true:=by exact rfl) (B:o.op = .build t parts:=by exact rfl) (C:P.underlying t=some (.array m e):=by exact rfl) (E:P.info? t=some it:=by exact rfl) (F:P.info? e=some ie:=by exact rfl) (G:it.zero=some (.agg cs):=by exact rfl) (H:ie.size=z:=by exact rfl) (kD:sz=List.replicate m z:=by exact rfl) (h0:zsO sz cs.toList=some zs:=by exact rfl) (hr:N8 S parts.toList zs=some r:=by exact rfl):AOp P w0 U0 nt ops o (gs++rds parts.toList) [] S [(d,.val (.row r))]:=b6U sz u v y A B C E F G H kD h0 hr
theorem c1j (j:Nat) (hg:Gd w0 U0 nt ops o gs S) (hd:o.dst=some d) (hn:Nat.blt d nt=true) (h5:Nat.blt d 100000=true) {x y:Operand} {ty e:TypeId} {m z n q:Nat} {p:List Nat} {k' v' l'} {i:Int} {kd:IntKind} {n2 q2 p2} (ho:o.op = .indexAddr ty x y) (hu:P.underlying ty=some (.array m e)) (hz:(P.info? e).map (·.size)=some z) (hx:ev S x=some ⟨2,⟨k',v',l'⟩,n,q,p⟩) (hy:ev S y=some ⟨0,.sc (.int kd i),n2,q2,p2⟩) (hi:i=(j:Int)) (hj:Nat.blt j m=true):AOp P w0 U0 nt ops o (gs++(rd x++rd y)) [] S [(d,.bp n (q+j*z) (p++[j]))]:=
 i9 hg hd hn h5 (fun k hk=>mem_append_left _ hk) fun s hs a w D hv hm=>by obtain ⟨bH,h1⟩:BN n/\a.eval x = .pointer (some ⟨o6 (hv (100000+n)),q,none⟩):=k9 hm (fun k hk=>hs k (mem_append_right _ (mem_append_left _ hk))) hx;have e2:=v7 hm (fun k hk=>hs k (mem_append_right _ (mem_append_right _ hk))) hy;have kD:=B3 (P:=P) (w:=w) hz;have hj:=bL hj;subst hi;refine ⟨.pointer (some ⟨o6 (hv (100000+n)),q+j*z,none⟩),?_,bH,rfl⟩;have bK:=a1d (o6 (hv (100000+n))) q (j*z);generalize a.eval=ρ at h1 e2 |-;simp [execOp,ho,Instr.indexAt,asIntOf,run_underlying hu,Instr.sureAddr,h1,e2,hj,kD,bK]
theorem zbe {P:Program} {w0:World} {U0:UX} {nt:Nat} {ops:Array Oper} {o:Oper} {S:Nat->Option AV} {gs:List Nat} {d:Nat} {x:Operand} {y:Operand} {ty:TypeId} {e:TypeId} {m:Nat} {z:Nat} {n:Nat} {q:Nat} {p:List Nat} {k'} {v'} {l'} {i:Int} {kd:IntKind} {n2} {q2} {p2} (j:Nat) (r:Gd w0 U0 nt ops o gs S:=by exact gN rfl) (t:o.dst=some d:=by exact rfl) (u:Nat.blt d nt=true:=by exact rfl) (v:Nat.blt d 100000=true:=by exact rfl) (A:o.op = .indexAddr ty x y:=by exact rfl) (B:P.underlying ty=some (.array m e):=by exact rfl) (C:(P.info? e).map (·.size)=some z:=by exact rfl) (E:ev S x=some ⟨2,⟨k',v',l'⟩,n,q,p⟩:=by exact rfl) (F:ev S y=some ⟨0,.sc (.int kd i),n2,q2,p2⟩:=by exact rfl) (G:i=(j:Int):=by exact rfl) (H:Nat.blt j m=true:=by exact rfl):AOp P w0 U0 nt ops o (gs++(rd x++rd y)) [] S [(d,.bp n (q+j*z) (p++[j]))]:=c1j j r t u v A B C E F G H
theorem b4O (hg:Gd w0 U0 nt ops o gs S) (hd:o.dst=some d) (hn:Nat.blt d nt=true) (h5:Nat.blt d 100000=true) {x y:Operand} {t kt et:TypeId} {k k2:IntKind} {i z2:Int} {n:Nat} {l:List CV} {n' q' p'} (ho:o.op = .lookup t x y true) (hu:P.underlying t=some (.map kt et)) (eY:P.underlying kt=some (.int k)) (eC:(P.info? et).map (·.zero)=some (some (.int k2 z2))) (oA:U5 P et=some (.sc (.int k2 z2))) (hx:ev S x=some (.mref n)) (hy:ev S y=some ⟨0,.sc (.int k i),n',q',p'⟩) (bP:S n=some (.mp l)) (hik:x6 k l):AOp P w0 U0 nt ops o (gs++(rd x++(rd y++[n]))) [] S [(d,.tup [(E3 k i l).getD (.sc (.int k2 z2)),.b (E3 k i l).isSome])]:=
 b5D hg hd hn h5 ho hu eY oA hx hy bP hik fun U w v _ hh=>by obtain ⟨it,h1,h2⟩:=hh;rw [h1,Option.map_some,h2] at eC;injection eC with eC;injection eC with eC;rw [eC];exact n7.2 ⟨rfl,rfl⟩
theorem zbf {P:Program} {w0:World} {U0:UX} {nt:Nat} {ops:Array Oper} {o:Oper} {S:Nat->Option AV} {gs:List Nat} {d:Nat} {x:Operand} {y:Operand} {t:TypeId} {kt:TypeId} {et:TypeId} {k:IntKind} {k2:IntKind} {i:Int} {z2:Int} {n:Nat} {l:List CV} {n'} {q'} {p'} (p:Gd w0 U0 nt ops o gs S:=by exact gN rfl) (q:o.dst=some d:=by exact rfl) (r:Nat.blt d nt=true:=by exact rfl) (u:Nat.blt d 100000=true:=by exact rfl) (z:o.op = .lookup t x y true:=by exact rfl) (A:P.underlying t=some (.map kt et):=by exact rfl) (B:P.underlying kt=some (.int k):=by exact rfl) (C:(P.info? et).map (·.zero)=some (some (.int k2 z2)):=by exact rfl) (E:U5 P et=some (.sc (.int k2 z2)):=by exact rfl) (F:ev S x=some (.mref n):=by exact rfl) (G:ev S y=some ⟨0,.sc (.int k i),n',q',p'⟩:=by exact rfl) (H:S n=some (.mp l):=by exact rfl) (hik:x6 k l):AOp P w0 U0 nt ops o (gs++(rd x++(rd y++[n]))) [] S [(d,.tup [(E3 k i l).getD (.sc (.int k2 z2)),.b (E3 k i l).isSome])]:=b4O p q r u z A B C E F G H hik
def b7C (s:AS) (n:Nat):Bool:=s.all fun p=>!((Nat.beq p.2.t 15||Nat.beq p.2.t 19)&&Nat.beq p.2.n n)
theorem c0P (n k:Nat) {e z:Nat} {l:List CV} (hm:look s n=some (.mrow e z l)) (hn:(Nat.ble 200000 n&&Nat.blt n 400000)=true) (kB:k<=l.length) (hr:b7C s n=true):Wk w0 U0 nt s ((n,.mrow e z (l.take k))::s):=by
 rintro a w ⟨D,hv,h⟩;have kN:=rnB hn;have hrn1:RN n:=RW.rn kN;obtain ⟨xs,f1,f2,f3,f4⟩:=h.mrow hm hrn1;obtain ⟨ao,cap,e1,e2,e3⟩:=Y0 f1;obtain ⟨kH,bI⟩:∃ kH:Nat->Value,kH=fun x=>if x=n then .slice ao k cap else hv x:=⟨_,rfl⟩
 have kP:∀ x,x≠n->kH x=hv x:=fun x hx=>by rw [bI];simp only [if_neg hx]
 have bJ:kH n = .slice ao k cap:=by rw [bI];simp
 have dG:∀ x,hb (kH x)=hb (hv x):=fun x=>by
  by_cases hx:x=n
  ·subst hx;rw [bJ,e1];cases ao<;>rfl
  ·rw [kP x hx]
 have jH:∀ x,o6 (kH x)=o6 (hv x):=fun x=>by unfold o6;rw [dG]
 have kC:∀ {k'},k'≠n->look ((n,AV.mrow e z (l.take k))::s) k'=look s k':=fun {k'} h1=>lN (Ne.symm h1);have hl:∀ q f,r7 ((n,AV.mrow e z (l.take k))::s) q f↔r7 s q f:=fun q f=>by
  unfold r7;by_cases e4:q=n
  ·subst e4;rw [lS,hm];constructor<;>(rintro ⟨h1,_⟩;cases h1)
  ·rw [kC e4]
 have kL:a8 ((n,AV.mrow e z (l.take k))::s)=a8 s:=by funext q;simp only [a8,hl]
 have sK:¬ a8 s n:=by
  rintro (h1 | ⟨f,h1⟩)
  ·omega
  ·rw [h1.1] at hm;cases hm
 have gQ:∀ {k' av v},look s k'=some av->AVRep (Us w0 U0 D) w hv (a8 s) av v->AVRep (Us w0 U0 D) w kH (a8 s) av v:=fun {k' av v} g1 g2=>by
  by_cases hc:hk av=n/\(av.t=11\/av.t=12\/av.t=15\/av.t=19)
  ·obtain ⟨c1,c2⟩:=hc;have ht2:av.t≠2:=by omega
   rw [I8.2 ht2] at c1;unfold AVRep at g2 |-;rw [if_neg (by omega),if_neg (by omega),if_neg (by omega),if_neg (by omega)] at g2 |-;rcases c2 with c2 | c2 | c2 | c2
   ·rw [if_pos c2] at g2 |-;rw [jH];exact g2
   ·rw [if_neg (by omega),if_pos c2] at g2 |-;obtain ⟨r1,a0,m,cp,a1,b1,b2,b3⟩:=g2;rw [c1,e1] at b1;injection b1 with i1 i2 i3;subst i1;subst i3;exact ⟨r1,ao,k,cap,a1,by rw [c1];exact bJ,b2,b3⟩
   all_goals
    unfold b7C at hr;rw [all_eq_true] at hr;have:=hr _ (B7 g1);simp only [c2,c1,Nat.beq_refl] at this;cases this
  ·refine g2.move (fun _ _ _ h1 h2=>⟨h1,h2⟩) (fun _ h1=>h1) fun hR=>?_;by_cases e4:hk av=n
   ·exfalso;rcases hR with ⟨r1,r2,r3⟩ | ⟨r1,r2⟩ | ⟨r1,r2⟩
    ·rw [I8.2 (by omega)] at e4;rw [e4] at r2;exact sK r2
    ·rw [I8.1 r1] at e4;unfold BN at r2;omega
    ·exact hc ⟨e4,r1⟩
   ·exact kP _ e4
 refine ⟨D,kH,h.below,h.dfr,h.size,fun d av g1 g2=>?_,fun m o av g1 g2 g3 g4=>?_,fun m o o' av av' g1 g2=>?_,fun k' av g1 g2=>?_,fun k' av g g1 g2 g3 g4=>?_,fun k' k2 av av' g g1 g2 g3 g4 g5 g6 g7 g8=>?_,fun k' v g1=>?_,h.dlt⟩
 ·rw [kC (by omega)] at g1;rw [kL];obtain ⟨v,h1,h2⟩:=h.slot d av g1 g2;exact ⟨v,h1,gQ g1 h2⟩
 ·rw [kC (by unfold d9;omega)] at g1;rw [kC (by unfold BN at g4;omega)] at g3;rw [kL,jH];obtain ⟨v,h1,h2⟩:=h.fld m o av g1 g2 g3 g4;exact ⟨v,gQ g1 h1,h2⟩
 ·rw [kC (by unfold d9;omega)] at g1 g2;exact h.fdis m o o' av av' g1 g2
 ·rw [kL];by_cases e4:k'=n
  ·subst e4;rw [lS] at g1;cases g1;rw [bJ];have hx:∃ ys zs,xs=ys++zs/\Sq ((l.take k).map fun c=>Rep (Us w0 U0 D) w c) ys:=by have f4':=f4;rw [<-take_append_drop k l,map_append] at f4';obtain ⟨y1,r1,q1,q2,q3⟩:=w8 f4';exact ⟨y1,r1,q1,q2⟩
   obtain ⟨ys,zs,q1,q2⟩:=hx;have lY:ys.length=k*z:=by rw [C9 (n:=CV.size) (fun c _ xs h=>h.len) q2,s5 (fun c hc=>f3 c (mem_of_mem_take hc)),length_take,Nat.min_eq_left kB]
   refine ⟨ys,⟨?_,?_⟩,f2,fun c hc=>f3 c (mem_of_mem_take hc),q2⟩
   ·show ys.length=(l.take k).length*z;rw [length_take,Nat.min_eq_left kB];exact lY
   ·show (Value.slice ao k cap=_/\(l.take k).length=0)\/_;rw [length_take,Nat.min_eq_left kB];rcases f1.2 with ⟨h1,h2⟩ | ⟨g,cap',cur,h1,h2,h3,h4,h6,h7,h8⟩
    ·rw [e1] at h1;injection h1 with i1 i2 i3;subst i1;subst i3;have:k=0:=by omega
     subst this;exact .inl ⟨rfl,rfl⟩
    ·rw [e1] at h1;injection h1 with i1 i2 i3;subst i1;subst i3;refine .inr ⟨g,cap,cur,rfl,h2,h3,by omega,h6,h7,?_⟩;have h8':cur.toList.take (l.length*z)=xs:=h8;have:cur.toList.take (k*z)=xs.take (k*z):=by rw [<-h8',List.take_take,Nat.min_eq_left (Nat.mul_le_mul_right z kB)]
     show List.take (k*z) cur.toList=ys;rw [this,q1,<-lY];exact List.take_left' rfl
  ·rw [kC e4] at g1;rw [kP k' e4];by_cases h7:av.t=7
   ·exact a3K h7
   ·refine (h.obj k' av g1 g2).move (fun _ _ _ h1 h2=>⟨h1,h2⟩) (fun _ h3=>⟨h3,?_⟩) fun _ _=>rfl;unfold H5;split
    ·rfl
    ·exact kP _ fun e5=>sK (e5▸h3)
 ·rw [dG] at g4;by_cases e4:k'=n
  ·subst e4;rw [lS] at g1;cases g1;obtain ⟨h1,h2,h3⟩:=h.blk k' _ g hm g2 (by simp) g4;exact ⟨h1,h2,fun o _=>h3 o fun e5=>by cases e5⟩
  ·rw [kC e4] at g1;obtain ⟨h1,h2,h3⟩:=h.blk k' av g g1 g2 g3 g4;rw [kP k' e4];exact ⟨h1,h2,h3⟩
 ·rw [dG] at g8 |-;have conv:∀ {x av},look ((n,AV.mrow e z (l.take k))::s) x=some av->av.t≠7->∃ av0,look s x=some av0/\av0.t≠7:=fun {x av} h1 h2=>by
   by_cases e4:x=n
   ·subst e4;exact ⟨_,hm,by simp⟩
   ·rw [kC e4] at h1;exact ⟨av,h1,h2⟩
  obtain ⟨b1,c1,c2⟩:=conv g1 g5
  obtain ⟨b2,c3,c4⟩:=conv g2 g6
  exact h.disj k' k2 b1 b2 g c1 c3 g3 g4 c2 c4 g7 g8
 ·have h1:=U0.hf k' v g1;rw [kP k' (by omega)];exact h.fix k' v g1
def SameS (S:Nat->Option AV) (ks:List Nat):AS->Prop
 | []=>True
 | (k,av)::l=>(l6 ks k=true\/S k=some av)/\SameS S ks l
theorem SameS.look {ks:List Nat}:∀ {l:AS},SameS S ks l->∀ {k av},look l k=some av->l6 ks k=false->S k=some av
 | [],_,k,av,h,_=>by cases h
 | (k',av')::l,⟨h1,h2⟩,k,av,h,hn=>by
  rw [d8] at h;split at h
  ·rename_i e;subst e;cases h;rcases h1 with h1 | h1
   ·rw [h1] at hn;cases hn
   ·exact h1
  ·exact SameS.look h2 h hn
theorem b5t (post':AS) {f:FuncId} {xs:Array Operand} {ts:Array TypeId} {avs:List AV} {r:AV} {pre post:AS} (hg:Gd w0 U0 nt ops o gs S) (hd:o.dst=some d) (hn:Nat.blt d nt=true) (h5:Nat.blt d 100000=true)
  (ho:o.op = .call { callee := .value (.func f),args:=xs,argTypes:=ts }) (hx:a7r S xs.toList=some avs) (hc:p9 P f pre avs r post) (hp:SubS S pre) (hl:pre.all E2=true) (hq:post.all (F6 (kO post))=true) (iN:(kO pre).all (l6 (kO post))=true) (hr:a5w (kO post) r=true) (hnb:∀ k v,U0.f k=some v->l6 (kO post) k=true->l6 (kO pre) k=true) (kQ:SubL post post') (oD:SameS S (kO post') post) (bC:(kO post).all (l6 (kO pre))=true) (kV:(kO post).all (Nat.ble 100000)=true) :
  AOp P w0 U0 nt ops o (gs++(rdl xs.toList++kO pre)) (E4 (kO pre) (kO post) (kO post)) S ((d,r)::post'):=by
 have h:=b2C hg hd hn h5 ho hx hc hp hl hq iN hr hnb;intro s hs hN a w sJ Q K hK;refine h s hs hN a w sJ Q K fun a' w' gL=>hK a' w' (gL.sub fun k av h1=>?_);have mU:=bL h5;have h1:look ((d,r)::(post'++s)) k=some av:=h1;show look ((d,r)::(post++s)) k=some av;rw [d8] at h1 |-;split
 ·rename_i e;rw [if_pos e] at h1;exact h1
 ·rename_i e;rw [if_neg e,b5] at h1;rw [b5];cases e1:look post' k with
  | some x=>rw [e1] at h1;cases h1;rw [kQ.sub k _ e1];rfl
  | none =>
   rw [e1] at h1;have h1:look s k=some av:=h1;cases e2:look post k with
   | none=>exact h1
   | some y =>
    have bB:l6 (kO post') k=false:=by
     cases e3:l6 (kO post') k with
     | false=>rfl
     | true=>obtain ⟨z,hz⟩:=I0 (y5 e3);rw [e1] at hz;cases hz
    have h3:=oD.look e2 bB;rw [all_eq_true] at bC;have h4:=bC k (f0 e2);have h5:=hs k (mem_append_right _ (mem_append_right _ (y5 h4)));rw [h5,h3] at h1;exact h1
theorem zbh {P:Program} {w0:World} {U0:UX} {nt:Nat} {ops:Array Oper} {o:Oper} {S:Nat->Option AV} {gs:List Nat} {d:Nat} {f:FuncId} {xs:Array Operand} {ts:Array TypeId} {avs:List AV} {r:AV} {pre:AS} {post:AS} (post':AS) (p:Gd w0 U0 nt ops o gs S:=by exact gN rfl) (q:o.dst=some d:=by exact rfl) (t:Nat.blt d nt=true:=by exact rfl) (u:Nat.blt d 100000=true:=by exact rfl) (A:o.op = .call { callee := .value (.func f),args:=xs,argTypes:=ts }:=by exact rfl) (B:a7r S xs.toList=some avs:=by exact rfl) (C:p9 P f pre avs r post) (E:SubS S pre:=by repeat (first | exact trivial | refine ⟨rfl,?_⟩)) (F:pre.all E2=true:=by first | rfl | kernel_rfl) (G:post.all (F6 (kO post))=true:=by first | rfl | kernel_rfl) (H:(kO pre).all (l6 (kO post))=true:=by first | rfl | kernel_rfl) (hr:a5w (kO post) r=true:=by first | rfl | kernel_rfl) (hnb:∀ k v,U0.f k=some v->l6 (kO post) k=true->l6 (kO pre) k=true) (kQ:SubL post post':=by repeat (first | exact trivial | refine ⟨rfl,?_⟩)) (oD:SameS S (kO post') post:=by repeat (first | exact trivial | refine ⟨.inl rfl,?_⟩ | refine ⟨.inr rfl,?_⟩)) (bC:(kO post).all (l6 (kO pre))=true:=by first | rfl | kernel_rfl) (kV:(kO post).all (Nat.ble 100000)=true:=by first | rfl | kernel_rfl):AOp P w0 U0 nt ops o (gs++(rdl xs.toList++kO pre)) (E4 (kO pre) (kO post) (kO post)) S ((d,r)::post'):=b5t post' p q t u A B C E F G H hr hnb kQ oD bC kV
end
section
variable {P:Program} {w0:World} {U0:UX} {nt:Nat} {ops:Array Oper} {o:Oper} {S:Nat->Option AV} {gs:List Nat} {d:Nat} {s:AS} {a:Act} {w:World} {D:Nat->Nat->Prop} {hv:Nat->Value}
end
section
open Go.RowKit Go.MapKept
section
variable {P:Program} {w0:World} {U0:UX} {nt:Nat} {ops:Array Oper} {o:Oper} {S:Nat->Option AV} {gs:List Nat} {d:Nat} {s:AS} {a:Act} {w:World} {D:Nat->Nat->Prop} {hv:Nat->Value}
theorem a6l {x y:AV} {k m n:Nat} {e:Nat×Nat} (hk:k<200000) (hm:m<200000\/400000<=m):r7 ((k,x)::(m,y)::s) n e↔r7 s n e:=by
 unfold r7;constructor
 ·rintro ⟨h1,h2⟩;rw [lN (by omega),lN (by omega)] at h1;exact ⟨h1,h2⟩
 ·rintro ⟨h1,h2⟩;exact ⟨by rw [lN (by omega),lN (by omega)];exact h1,h2⟩
theorem a4B {lv:Nat->Prop} {a:AV} {d:Nat} (hd:BN d) (dD:∀ n,lv n->n=1\/RN n) (hr:a.n≠d) (h:Rn lv a):hk a≠100000+d:=by
 unfold BN at hd;rcases h with ⟨h1,h2,h3⟩ | ⟨h1,h2⟩ | ⟨h1,h2⟩
 ·rw [I8.2 (by omega)];rcases dD _ h2 with h4 | h4
  ·exact absurd h4 h3
  ·unfold RN at h4;omega
 ·rw [I8.1 h1];omega
 ·rw [I8.2 (by omega)];unfold RN at h2;omega
theorem SimG.newboxN (h:SimG w0 U0 nt s a w D hv) {nn:Nat} (bH:BN nn) (hnf:∀ v,U0.f (100000+nn)=some v->False) (hr:R8 s nn) (hd:d<nt) (h5:d<100000) {av:AV} (gX:av.t=5\/av = .obj) {xs:List Value} (ty:TypeId) (gQ:av.t=5->Rep (Us w0 U0 D) w av.c xs) (cE:av.t=5->Tk hv (a8 s) av xs) :
  SimG w0 U0 nt ((d,.bp nn 0 [])::(100000+nn,av)::s) (a.put (some d) (.pointer (some ⟨w.heap.size,0,none⟩))) (w.alloc (.cells xs.toArray ty)) D (fun k=>if k=100000+nn then .pointer (some ⟨w.heap.size,0,none⟩) else hv k):=by
 have jV:=bH;unfold BN at jV;have hb':Below w.heap.size w (w.alloc (.cells xs.toArray ty)):=(Below.refl _ _).alloc (Nat.le_refl _) _;have hG:=h.grow' hb';obtain ⟨s',gL⟩:∃ s',s'=(d,AV.bp nn 0 [])::(100000+nn,av)::s:=⟨_,rfl⟩
 obtain ⟨kH,bI⟩:∃ kH:Nat->Value,kH=fun k=>if k=100000+nn then .pointer (some ⟨w.heap.size,0,none⟩) else hv k:=⟨_,rfl⟩
 rw [<-gL,<-bI];have hl:∀ n e,r7 s' n e↔r7 s n e:=fun n e=>by rw [gL];exact a6l (by omega) (by unfold BN at bH;omega)
 have kL:a8 s'=a8 s:=by funext n;simp only [a8,hl]
 have kC:∀ k,k≠d->k≠100000+nn->look s' k=look s k:=fun k h1 h2=>by rw [gL,lN (Ne.symm h1),lN (Ne.symm h2)]
 have tT:look s' (100000+nn)=some av:=by rw [gL,lN (by omega),lS]
 have kP:∀ k,k≠100000+nn->kH k=hv k:=fun k hk=>by rw [bI];simp only [if_neg hk]
 have bJ:kH (100000+nn) = .pointer (some ⟨w.heap.size,0,none⟩):=by rw [bI];simp
 have hid:∀ b o v,Us w0 U0 D b o->(w.alloc (.cells xs.toArray ty)).cell? ⟨b,o,none⟩=some v->Us w0 U0 D b o/\(w.alloc (.cells xs.toArray ty)).cell? ⟨b,o,none⟩=some v:=fun _ _ _ h1 h2=>⟨h1,h2⟩
 have lI:∀ {k av' v},look s k=some av'->AVRep (Us w0 U0 D) (w.alloc (.cells xs.toArray ty)) hv (a8 s) av' v->AVRep (Us w0 U0 D) (w.alloc (.cells xs.toArray ty)) kH (a8 s) av' v:=fun {k av' v} h1 h2 =>
  h2.move hid (fun _ h=>h) fun h3=>kP _ (a4B bH (fun n=>D9) (hr k av' h1).1 h3)
 refine ⟨hG.below,h.dfr,by simp [Act.put,h.size],fun d' av' h1 h2=>?_,fun n o av' h1 h2 h3 eR=>?_,fun n o o' av1 av2 h1 h2 h3 h4=>?_,fun k av' h1 h2=>?_,fun k av' g h1 h2 h3 h4=>?_,fun k k' av1 av2 g h1 h2 h3 h4 h6 h7 kE=>?_,fun n g h1=>?_,hG.dlt⟩
 ·rw [kL];by_cases e:d=d'
  ·subst e;rw [gL,lS] at h1;cases h1;refine ⟨.pointer (some ⟨w.heap.size,0,none⟩),by simp [Act.put,h.size,hd],?_⟩;unfold AVRep;simp only [if_true];exact ⟨bH,by rw [bJ];rfl⟩
  ·rw [kC d' (Ne.symm e) (by omega)] at h1;obtain ⟨v',h3,h4⟩:=hG.slot d' av' h1 h2;exact ⟨v',by simp [Act.put,e,h3],lI h1 h4⟩
 ·rw [kC _ (by unfold d9;omega) (by unfold d9;omega)] at h1;have hn:=(hr _ _ h1).2.1;rw [N6 h2] at hn;rw [kC _ (by omega) (by omega)] at h3;rw [kL];obtain ⟨v,h4,h6,h7⟩:=hG.fld n o av' h1 h2 h3 eR;refine ⟨v,lI h1 h4,h6,?_⟩;rw [kP _ (by omega)];exact h7
 ·rw [kC _ (by unfold d9;omega) (by unfold d9;omega)] at h1 h2;exact h.fdis n o o' av1 av2 h1 h2 h3 h4
 ·rw [kL];by_cases e:k=100000+nn
  ·subst e;rw [tT] at h1;cases h1;rw [bJ];unfold OC;rcases gX with gX | rfl
   ·rw [if_pos gX];refine ⟨w.heap.size,xs,ty,rfl,t7 _ _,(gQ gX).keep (N5 h.dlt hb' fun _ _ h=>h),fun hl=>?_⟩;obtain ⟨m,c,g1,g2⟩:=cE gX hl;refine ⟨m,c,g1,?_⟩;rw [g2];unfold H5;rcases D9 hl with h6 | h6
    ·rw [if_pos h6,if_pos h6]
    ·unfold RN at h6;rw [kP _ (by omega)]
   ·simp only [if_true];exact ⟨w.heap.size,xs.toArray,ty,rfl,t7 _ _⟩
  ·have qP:=h2;unfold k7 at qP;rw [kC k (by omega) e] at h1;rw [kP k e];refine (hG.obj k av' h1 h2).move hid (fun _ hl=>⟨hl,?_⟩) (fun _ _=>rfl);unfold H5;rcases D9 hl with h6 | h6
   ·rw [if_pos h6,if_pos h6]
   ·unfold RN at h6;rw [kP _ (by omega)]
 ·by_cases e:k=100000+nn
  ·subst e;rw [bJ] at h4;have h4:some w.heap.size=some g:=h4;cases h4;refine ⟨.inl h.below.size,by simp,fun o _ hd=>?_⟩;have:=h.dlt _ _ hd;omega
  ·have qP:=h2;unfold k7 at qP;rw [kC k (by omega) e] at h1;rw [kP k e] at h4 |-;exact hG.blk k av' g h1 h2 h3 h4
 ·have uQ:=h3;have rF:=h4;unfold k7 at uQ rF;by_cases e1:k=100000+nn
  ·have e2:k'≠100000+nn:=fun e=>kE (e1.trans e.symm);rw [kC k' (by omega) e2] at h2;rw [e1,bJ,kP k' e2];intro h8 h9;have:=(h.blk k' av2 g h2 h4 h7 h9).2.1;have h8:some w.heap.size=some g:=h8;cases h8;omega
  ·rw [kC k (by omega) e1] at h1;by_cases e2:k'=100000+nn
   ·rw [e2,bJ,kP k e1];intro h8 h9;have:=(h.blk k av1 g h1 h3 h6 h8).2.1;have h9:some w.heap.size=some g:=h9;cases h9;omega
   ·rw [kC k' (by omega) e2] at h2;rw [kP k e1,kP k' e2];exact h.disj k k' av1 av2 g h1 h2 h3 h4 h6 h7 kE
 ·have:=U0.hf n g h1;rw [kP _ (fun e=>hnf g (by rw [<-e];exact h1))];exact h.fix n g h1
theorem b3o (nn:Nat) (hg:Gd w0 U0 nt ops o gs S) (hd:o.dst=some d) (hn:Nat.blt d nt=true) (h5:Nat.blt d 100000=true) {ty:TypeId} {fs:Array Field} {it:TypeInfo} {cs:Array Value} {sz:List Nat} {zs:List CV} (ho:o.op = .alloc ty) (hu:P.underlying ty=some (.struct fs)) (hi:P.info? ty=some it) (hz:it.zero=some (.agg cs)) (kD:szO P fs.toList 0=some sz) (h0:zsO sz cs.toList=some zs) (hp:(sz.all fun z=>Nat.blt 0 z)=true) (pU:Nat.ble cs.size 100=true) (sL:(Nat.blt nn 100000||(Nat.ble 350000 nn&&Nat.blt nn 400000))=true) (hnf:∀ v,U0.f (100000+nn)=some v->False):AOp P w0 U0 nt ops o gs [(nn,[])] S (a0F nn zs 0++[(d,.bp nn 0 []),(100000+nn,.obj)]):=by
 intro s hs hN a w ⟨D,hv,h⟩ Q K hK;rw [if_pos (hg s hs a w D hv h)];have mU:=bL h5;have bH:BN nn:=by
  rcases Bool.or_eq_true_iff.1 sL with h1 | h1
  ·exact .inl (bL h1)
  ·rw [Bool.and_eq_true] at h1;exact .inr ⟨Nat.le_of_ble_eq_true h1.1,bL h1.2⟩
 have jV:=bH;unfold BN at jV;have he:(execOp a.eval o).run P w = .ok (.value (.pointer (some ⟨w.heap.size,0,none⟩))) (w.alloc (.cells cs ty)):=by simp [execOp,ho,Instr.alloc,zeroValue,typeInfo,hi,hz,E0,Value.cells]
 unfold Oper.wp;rw [he,Oper.upon_value,hd];have hr:=(hN (nn,[]) (by simp)).nr;have hG:=h.newboxN (d:=d) (av := .obj) bH hnf hr (bL hn) mU (.inr rfl) (xs:=cs.toList) ty (fun e=>by cases e) (fun e=>by cases e);rw [Array.toArray_toList] at hG;obtain ⟨segs,e1,e2,e3,e4,e5⟩:=F9 (U:=Us w0 U0 D) (w:=w.alloc (.cells cs ty)) h0
 suffices sM:SimG w0 U0 nt (a0F nn zs 0++((d,AV.bp nn 0 [])::(100000+nn,AV.obj)::s)) (a.put (some d) (.pointer (some ⟨w.heap.size,0,none⟩))) (w.alloc (.cells cs ty)) D (fun k=>if k=100000+nn then .pointer (some ⟨w.heap.size,0,none⟩) else hv k) by
  exact hK _ _ ⟨D,_,by rw [append_assoc];exact sM⟩
 refine hG.addFs (n:=nn) (g:=w.heap.size) bH (by rw [lN (by omega),lS]) (fun q av h1 h2=>?_) (by simp only [if_true];rfl) e4 e5 (fun i gH=>?_) (fun c hc=>?_) (by rw [e1];have:=Nat.le_of_ble_eq_true pU;simpa using this)
 ·rw [lN (by unfold d9;omega),lN (by unfold d9;omega)] at h1;have:=(hr _ _ h1).2.1;rw [N6 h2] at this;exact this rfl
 ·rw [e1] at gH |-;rw [Nat.zero_add];have:=t7 w (.cells cs ty);simp only [World.cell?,this];simp
 ·rw [all_eq_true] at hp;have:c.size∈sz:=by rw [<-e3];exact mem_map.2 ⟨c,hc,rfl⟩
  exact bL (hp _ this)
theorem zby {P:Program} {w0:World} {U0:UX} {nt:Nat} {ops:Array Oper} {o:Oper} {S:Nat->Option AV} {gs:List Nat} {d:Nat} {ty:TypeId} {fs:Array Field} {it:TypeInfo} {cs:Array Value} {sz:List Nat} {zs:List CV} (nn:Nat) (p:Gd w0 U0 nt ops o gs S:=by exact gN rfl) (r:o.dst=some d:=by exact rfl) (t:Nat.blt d nt=true:=by exact rfl) (u:Nat.blt d 100000=true:=by exact rfl) (x:o.op = .alloc ty:=by exact rfl) (y:P.underlying ty=some (.struct fs):=by exact rfl) (A:P.info? ty=some it:=by exact rfl) (B:it.zero=some (.agg cs):=by exact rfl) (C:szO P fs.toList 0=some sz:=by exact rfl) (E:zsO sz cs.toList=some zs:=by exact rfl) (F:(sz.all fun z=>Nat.blt 0 z)=true:=by exact rfl) (G:Nat.ble cs.size 100=true:=by exact rfl) (H:(Nat.blt nn 100000||(Nat.ble 350000 nn&&Nat.blt nn 400000))=true:=by exact rfl) (hnf:∀ v,U0.f (100000+nn)=some v->False):AOp P w0 U0 nt ops o gs [(nn,[])] S (a0F nn zs 0++[(d,.bp nn 0 []),(100000+nn,.obj)]):=b3o nn p r t u x y A B C E F G H hnf
theorem c1T (hg:Gd w0 U0 nt ops o gs S) (hd:o.dst=some d) (hn:Nat.blt d nt=true) (h5:Nat.blt d 100000=true) {x:Operand} {i:Int} {ty:TypeId} {n q p} (ho:o.op = .unOp .neg ty x) (hx:ev S x=some ⟨0,.sc (.int .i64 i),n,q,p⟩) (hb : -9223372036854775808<i/\i<=9223372036854775808):AOp P w0 U0 nt ops o (gs++rd x) [] S [(d,.val (.i (-i)))]:=
 i9 hg hd hn h5 (fun k hk=>mem_append_left _ hk) fun s hs a w D hv hm=>by
  have h1:=v7 hm (fun k hk=>hs k (mem_append_right _ hk)) hx;have hw:IntKind.i64.wrap (-i) = -i:=by rw [IntKind.wrap_i64];omega
  generalize a.eval=ρ at h1 |-;exact ⟨.int .i64 (-i),by simp [execOp,ho,h1,Op.unary,go_sem,hw],q9 rfl⟩
theorem zbw {P:Program} {w0:World} {U0:UX} {nt:Nat} {ops:Array Oper} {o:Oper} {S:Nat->Option AV} {gs:List Nat} {d:Nat} {x:Operand} {i:Int} {ty:TypeId} {n} {q} {p} (r:Gd w0 U0 nt ops o gs S:=by exact gN rfl) (t:o.dst=some d:=by exact rfl) (u:Nat.blt d nt=true:=by exact rfl) (v:Nat.blt d 100000=true:=by exact rfl) (y:o.op = .unOp .neg ty x:=by exact rfl) (z:ev S x=some ⟨0,.sc (.int .i64 i),n,q,p⟩:=by exact rfl) (A : -9223372036854775808<i/\i<=9223372036854775808:=by first | omega | (constructor<;>omega)):AOp P w0 U0 nt ops o (gs++rd x) [] S [(d,.val (.i (-i)))]:=c1T r t u v y z A
theorem b1g {t k e:TypeId} (hu:P.underlying t=some (.map k e)) (g:Nat) (w:World):(Op.equal t (.map (some g)) (.map none)).run P w = .ok false w:=by
 unfold Op.equal;rw [show Op.maxDepth=9999+1 from rfl,Op.equalIn];simp [run_underlying hu]
theorem b1k (hg:Gd w0 U0 nt ops o gs S) (hd:o.dst=some d) (hn:Nat.blt d nt=true) (h5:Nat.blt d 100000=true) {x:Operand} {t1 t2 e k:TypeId} {n:Nat} {l:List CV} (ho:o.op = .binOp .eql t1 x (.const (.map none)) t2) (hu:P.underlying t1=some (.map k e)) (hx:ev S x=some (.mref n)) (bP:S n=some (.mp l)):AOp P w0 U0 nt ops o (gs++(rd x++[n])) [] S [(d,.val (.b false))]:=
 i9 hg hd hn h5 (fun k hk=>mem_append_left _ hk) fun s hs a w D hv hm=>by
  obtain ⟨kN,h1,_⟩:RN n/\a.eval x=hv n/\(a.eval x).oneCell'=true:=k9 hm (fun k hk=>hs k (mem_append_right _ (mem_append_left _ hk))) hx;have kG:k7 n:=by unfold RN at kN;unfold k7;omega
  obtain ⟨g,es,clock,g1,g2,g3,g4,g5⟩:∃ g es clock,hv n = .map (some g)/\w.heap[g]?=some (.map es clock)/\Ents (Us w0 U0 D) w l es.toList/\(∀ e∈es,e.born<clock)/\(es.toList.map (fun e:MapEntry=>e.born)).Nodup:=hm.obj n _ ((hs n (by simp)).trans bP) kG;rw [g1] at h1;have hb:=b1g (P:=P) hu g w;have hc:a.eval (.const (.map none)) = .map none:=rfl;refine ⟨.bool false,?_,q9 rfl⟩;generalize a.eval=ρ at h1 hc |-;simp [execOp,ho,h1,hc,eqGuard,binOp,hb]
theorem zbx {P:Program} {w0:World} {U0:UX} {nt:Nat} {ops:Array Oper} {o:Oper} {S:Nat->Option AV} {gs:List Nat} {d:Nat} {x:Operand} {t1:TypeId} {t2:TypeId} {e:TypeId} {k:TypeId} {n:Nat} {l:List CV} (p:Gd w0 U0 nt ops o gs S:=by exact gN rfl) (q:o.dst=some d:=by exact rfl) (r:Nat.blt d nt=true:=by exact rfl) (t:Nat.blt d 100000=true:=by exact rfl) (u:o.op = .binOp .eql t1 x (.const (.map none)) t2:=by exact rfl) (v:P.underlying t1=some (.map k e):=by exact rfl) (y:ev S x=some (.mref n):=by exact rfl) (z:S n=some (.mp l):=by exact rfl):AOp P w0 U0 nt ops o (gs++(rd x++[n])) [] S [(d,.val (.b false))]:=b1k p q r t u v y z
theorem b3W (hg:Gd w0 U0 nt ops o gs S) (hd:o.dst=some d) (hn:Nat.blt d nt=true) (h5:Nat.blt d 100000=true) {x y:Operand} {t kt et:TypeId} {k k2:IntKind} {i z2:Int} {n:Nat} {l:List CV} {n' q' p'} (ho:o.op = .lookup t x y false) (hu:P.underlying t=some (.map kt et)) (eY:P.underlying kt=some (.int k)) (eC:(P.info? et).map (·.zero)=some (some (.int k2 z2))) (oA:U5 P et=some (.sc (.int k2 z2))) (hx:ev S x=some (.mref n)) (hy:ev S y=some ⟨0,.sc (.int k i),n',q',p'⟩) (bP:S n=some (.mp l)) (hik:x6 k l):AOp P w0 U0 nt ops o (gs++(rd x++(rd y++[n]))) [] S [(d,.val ((E3 k i l).getD (.sc (.int k2 z2))))]:=
 i9 hg hd hn h5 (fun k hk=>mem_append_left _ hk) fun s hs a w D hv hm=>by
  obtain ⟨kN,h1,_⟩:RN n/\a.eval x=hv n/\(a.eval x).oneCell'=true:=k9 hm (fun k hk=>hs k (mem_append_right _ (mem_append_left _ hk))) hx;have e2:=v7 hm (fun k hk=>hs k (mem_append_right _ (mem_append_right _ (mem_append_left _ hk)))) hy;have kG:k7 n:=by unfold RN at kN;unfold k7;omega
  obtain ⟨g,es,clock,g1,g2,g3,g4,g5⟩:∃ g es clock,hv n = .map (some g)/\w.heap[g]?=some (.map es clock)/\Ents (Us w0 U0 D) w l es.toList/\(∀ e∈es,e.born<clock)/\(es.toList.map (fun e:MapEntry=>e.born)).Nodup:=hm.obj n _ ((hs n (by simp)).trans bP) kG;obtain ⟨it,zv,i1,i2,i3⟩:=K6 oA;have eZ:=run_checkKey (P:=P) (w:=w) eY (k := .int k i) rfl es.isEmpty 9999;have hge:=Go.MapKept.run_getObj_map (P:=P) g2;rcases J7 0 g3 hik (i:=i) with ⟨f1,f2⟩ | ⟨j,e,c,f1,f2,f3,f4,f5,f6⟩
  ·have dK:=run_findKey (P:=P) (w:=w) eY f1;have sH:(zeroValue et).run P w = .ok zv w:=by simp [zeroValue,typeInfo,i1,i2]
   rw [i1,Option.map_some,i2] at eC;injection eC with eC;injection eC with eC;refine ⟨zv,?_,?_⟩
   ·rw [g1] at h1;generalize a.eval=ρ at h1 e2 |-;simp [execOp,ho,Instr.lookup,run_underlying hu,h1,e2,hge,eZ,dK,sH]
   ·rw [f2,eC];exact q9 rfl
  ·have dK:=run_findKey (P:=P) (w:=w) eY f1;refine ⟨e.val,?_,?_⟩
   ·rw [g1] at h1;generalize a.eval=ρ at h1 e2 |-;simp [execOp,ho,Instr.lookup,run_underlying hu,h1,e2,hge,eZ,dK]
   ·rw [f6];exact l5 f4
theorem zbu {P:Program} {w0:World} {U0:UX} {nt:Nat} {ops:Array Oper} {o:Oper} {S:Nat->Option AV} {gs:List Nat} {d:Nat} {x:Operand} {y:Operand} {t:TypeId} {kt:TypeId} {et:TypeId} {k:IntKind} {k2:IntKind} {i:Int} {z2:Int} {n:Nat} {l:List CV} {n'} {q'} {p'} (p:Gd w0 U0 nt ops o gs S:=by exact gN rfl) (q:o.dst=some d:=by exact rfl) (r:Nat.blt d nt=true:=by exact rfl) (u:Nat.blt d 100000=true:=by exact rfl) (v:o.op = .lookup t x y false:=by exact rfl) (z:P.underlying t=some (.map kt et):=by exact rfl) (A:P.underlying kt=some (.int k):=by exact rfl) (B:(P.info? et).map (·.zero)=some (some (.int k2 z2)):=by exact rfl) (C:U5 P et=some (.sc (.int k2 z2)):=by exact rfl) (E:ev S x=some (.mref n):=by exact rfl) (F:ev S y=some ⟨0,.sc (.int k i),n',q',p'⟩:=by exact rfl) (G:S n=some (.mp l):=by exact rfl) (H:x6 k l):AOp P w0 U0 nt ops o (gs++(rd x++(rd y++[n]))) [] S [(d,.val ((E3 k i l).getD (.sc (.int k2 z2))))]:=b3W p q r u v z A B C E F G H
theorem a6U (hg:Gd w0 U0 nt ops o gs S) (hd:o.dst=some d) (hn:Nat.blt d nt=true) (h5:Nat.blt d 100000=true) {x:Operand} {t1 t2 e k:TypeId} {n:Nat} {c:CV} {m q p} (ho:o.op = .binOp .eql t1 x (.const (.map none)) t2) (hu:P.underlying t1=some (.map k e)) (hx:ev S x=some (.mref n)) (bP:S n=some ⟨17,c,m,q,p⟩):AOp P w0 U0 nt ops o (gs++(rd x++[n])) [] S [(d,.val (.b true))]:=
 i9 hg hd hn h5 (fun k hk=>mem_append_left _ hk) fun s hs a w D hv hm=>by
  obtain ⟨kN,h1,_⟩:RN n/\a.eval x=hv n/\(a.eval x).oneCell'=true:=k9 hm (fun k hk=>hs k (mem_append_right _ (mem_append_left _ hk))) hx;have kG:k7 n:=by unfold RN at kN;unfold k7;omega
  have g1:hv n = .map none:=(show OX _ _ _ _ from hm.obj n _ ((hs n (by simp)).trans bP) kG).1.1 rfl;rw [g1] at h1;have hb:=b4H (P:=P) hu w;have hc:a.eval (.const (.map none)) = .map none:=rfl;refine ⟨.bool true,?_,q9 rfl⟩;generalize a.eval=ρ at h1 hc |-;simp [execOp,ho,h1,hc,eqGuard,binOp,hb]
theorem zbs {P:Program} {w0:World} {U0:UX} {nt:Nat} {ops:Array Oper} {o:Oper} {S:Nat->Option AV} {gs:List Nat} {d:Nat} {x:Operand} {t1:TypeId} {t2:TypeId} {e:TypeId} {k:TypeId} {n:Nat} {c:CV} {m} {q} {p} (r:Gd w0 U0 nt ops o gs S:=by exact gN rfl) (t:o.dst=some d:=by exact rfl) (u:Nat.blt d nt=true:=by exact rfl) (v:Nat.blt d 100000=true:=by exact rfl) (y:o.op = .binOp .eql t1 x (.const (.map none)) t2:=by exact rfl) (z:P.underlying t1=some (.map k e):=by exact rfl) (A:ev S x=some (.mref n):=by exact rfl) (B:S n=some ⟨17,c,m,q,p⟩:=by exact rfl):AOp P w0 U0 nt ops o (gs++(rd x++[n])) [] S [(d,.val (.b true))]:=a6U r t u v y z A B
theorem b9T (k n:Nat) (hk:Nat.ble 500000 k=true) (hn:(Nat.ble 200000 n&&Nat.blt n 400000)=true) (hs:look s k=some (.val (.sc (.map none)))) (hr:A6 s [(n,[])]=true) (oC:R6 s n=true):Wk w0 U0 nt s ((k,.mref n)::(n,.nmap)::s):=by
 rintro a w ⟨D,hv,h⟩;have hk5:=Nat.le_of_ble_eq_true hk;have kN:=rnB hn;have fQ:RN n:=RW.rn kN;unfold RW at kN;have sN:look s n=none:=by
  cases e:look s n with
  | none=>rfl
  | some av =>
   unfold R6 at oC;rw [all_eq_true] at oC;have:=oC _ (B7 e);simp [Nat.beq_refl] at this
 have jR:R8 s n:=(q7 hr (n,[]) (by simp)).nr;obtain ⟨kH,bI⟩:∃ kH:Nat->Value,kH=fun x=>if x=n then .map none else hv x:=⟨_,rfl⟩
 have kP:∀ x,x≠n->kH x=hv x:=fun x hx=>by rw [bI];simp only [if_neg hx]
 have bJ:kH n = .map none:=by rw [bI];simp
 obtain ⟨s',gL⟩:∃ s',s'=(k,AV.mref n)::(n,AV.nmap)::s:=⟨_,rfl⟩
 rw [<-gL];have kC:∀ x,x≠k->x≠n->look s' x=look s x:=fun x h1 h2=>by rw [gL,lN (Ne.symm h1),lN (Ne.symm h2)]
 have oE:look s' k=some (.mref n):=by rw [gL,lS]
 have oF:look s' n=some .nmap:=by rw [gL,lN (by omega),lS]
 have hl:∀ q e,r7 s' q e↔r7 s q e:=fun q e=>by
  unfold r7;by_cases e1:q=k
  ·omega
  ·by_cases e2:q=n
   ·subst e2;rw [oF,sN];constructor<;>(rintro ⟨h1,_⟩;cases h1)
   ·rw [kC q e1 e2]
 have kL:a8 s'=a8 s:=by funext q;simp only [a8,hl]
 have lI:∀ {k' av v},look s k'=some av->AVRep (Us w0 U0 D) w hv (a8 s) av v->AVRep (Us w0 U0 D) w kH (a8 s) av v:=fun {k' av v} h1 h2 =>
  h2.move (fun _ _ _ h1 h2=>⟨h1,h2⟩) (fun _ h=>h) fun h3=>kP _ (a2e fQ (jR k' av h1).1 h3)
 refine ⟨D,kH,h.below,h.dfr,h.size,fun d av g1 g2=>?_,fun m o av g1 g2 g3 g4=>?_,fun m o o' av av' g1 g2 g3 g4 g5=>?_,fun k' av g1 g2=>?_,fun k' av g g1 g2 g3 g4=>?_,fun k' k2 av av' g g1 g2 g3 g4 g5 g6 g7 g8=>?_,fun k' v g1=>?_,h.dlt⟩
 ·rw [kC d (by omega) (by omega)] at g1;rw [kL];obtain ⟨v,h1,h2⟩:=h.slot d av g1 g2;exact ⟨v,h1,lI g1 h2⟩
 ·have jH:=F0 g4;unfold k7 at jH;unfold BN at g4;rw [kC (100000+m) (by omega) (by omega)] at g3;rw [kL,kP (100000+m) (by omega)];by_cases e:d9 m o=k
  ·rw [e,oE] at g1;cases g1;obtain ⟨v,h1,h2,h3⟩:=h.fld m o _ (by rw [e];exact hs) g2 g3 g4;obtain ⟨h4,_⟩:=n7.1 h1.1;subst h4;exact ⟨.map none,⟨fQ,bJ.symm,rfl⟩,rfl,h3⟩
  ·rw [kC _ e (by unfold d9;omega)] at g1;obtain ⟨v,h1,h2,h3⟩:=h.fld m o av g1 g2 g3 g4;exact ⟨v,lI g1 h1,h2,h3⟩
 ·have conv:∀ o (av:AV),look s' (d9 m o)=some av->∃ av',look s (d9 m o)=some av'/\av'.sz=av.sz:=fun o av f1=>by
   by_cases e:d9 m o=k
   ·rw [e,oE] at f1;cases f1;exact ⟨.val (.sc (.map none)),by rw [e];exact hs,rfl⟩
   ·rw [kC _ e (by unfold d9;omega)] at f1;exact ⟨av,f1,rfl⟩
  obtain ⟨a1,b1,c1⟩:=conv o av g1
  obtain ⟨a2,b2,c2⟩:=conv o' av' g2
  rw [<-c1];exact h.fdis m o o' a1 a2 b1 b2 g3 g4 g5
 ·unfold k7 at g2;rw [kL];by_cases e:k'=n
  ·subst e;rw [oF] at g1;cases g1;rw [bJ];exact ⟨⟨fun _=>rfl,(fun e=>by cases e)⟩,(fun e=>by cases e),(fun e=>by cases e),(fun e=>by cases e)⟩
  ·rw [kC k' (by omega) e] at g1;rw [kP k' e];exact (h.obj k' av g1 g2).move (fun _ _ _ h1 h2=>⟨h1,h2⟩) (fun ht hl=>⟨hl,by
    unfold H5;rw [kP _ (jR k' av g1).1]⟩) (fun _ _=>rfl)
 ·unfold k7 at g2;by_cases e:k'=n
  ·subst e;rw [bJ] at g4;cases g4
  ·rw [kC k' (by omega) e] at g1;rw [kP k' e] at g4 |-;exact h.blk k' av g g1 g2 g3 g4
 ·unfold k7 at g3 g4;by_cases e:k'=n
  ·subst e;rw [bJ] at g8;cases g8
  ·by_cases e2:k2=n
   ·subst e2;rw [bJ];intro h9;cases h9
   ·rw [kC k' (by omega) e] at g1;rw [kC k2 (by omega) e2] at g2;rw [kP k' e] at g8;rw [kP k2 e2];exact h.disj k' k2 av av' g g1 g2 g3 g4 g5 g6 g7 g8
 ·have:=U0.hf k' v g1;rw [kP k' (by omega)];exact h.fix k' v g1
end
def a5Y (L D:Nat) (Kp:World->World->Prop) (I:World->Prop) (W:World):Exit->Act->World->Prop
 | .normal,_,W'=>W'.heap[L]?=W.heap[L]?/\W'.heap[D]?=W.heap[D]?/\Kp W W'/\I W'
 | _,_,_=>False
section
variable {α:Type} {P:Program}
theorem b3D {g:Operand} {ps:Array Tmp} {assign body:Code} {Q:Exit->Act->World->Prop} {a:Act} {w:World} {gf:Nat} {lb:Array Value}
  (hg:a.eval g = .func (.func gf) #[] lb) (eg:∀ args w,(callFunc gf args).run P w = .ok (.enter gf args) w)
  {encs:α->Array Value} {Ok:List α->α->Prop} {Kp:World->World->Prop} {S:List α->Prop} (fO:Z9 P gf lb encs (fun pre x _=>Ok pre x) Kp S w)
  (iK:∀ {A B C:World},Kp A B->Kp B C->Kp A C)
  (iL:∀ (W:World) (l:Nat) (o':Obj),w.heap.size<=l->Kp W (W.putObj l o'))
  (gW:∀ x,(encs x).size=ps.size) (I:List α->World->Prop) (hI:∀ pre A B,I pre A->Below A.heap.size A B->I pre B)
  (dP:∀ (pre:List α) (A:World) (r r':Loop),I pre A->A.heap[w.heap.size+1]?=some (.loop r)->I pre (A.putObj (w.heap.size+1) (.loop r')))
  (h0:∀ r:Loop,I [] ((w.alloc (.deferred (some []))).alloc (.loop r))) (a₁:α->Act)
  (bX:∀ (x:α) (W:World) (K:Act->World->Prop),K (a₁ x) W ->
   assign.wpIn (Fence.wide.inRound (w.heap.size+1)) 1 P (Exit.then K (fun _ _ _=>False)) { tmps:=(ps.zip (encs x)).foldl (fun t (p,v)=>t.setIfInBounds p v) a.tmps,defers:=[] } W)
  (fH:∀ (pre:List α) (x:α) (W:World),I pre W->Ok pre x->w.heap.size+2<=W.heap.size->body.wpIn (Fence.wide.inRound (w.heap.size+1)) 1 P (a5Y (w.heap.size+1) w.heap.size Kp (I (pre++[x])) W) (a₁ x) W)
  (bE:∀ (xs:List α) (W:World),S xs->I xs W->W.heap[w.heap.size]?=some (.deferred (some []))->Q .normal { a with defers:={ target := .collected w.heap.size,args := #[] }::a.defers } W) :
  (Code.rangeFunc g ps assign body).wpIn Fence.wide 3 P Q a w:=by
 refine wpIn_rangeFunc fun fn dS=>?_;obtain ⟨D,hD⟩:∃ D,D=w.heap.size:=⟨_,rfl⟩
 rw [<-hD] at dP bX fH bE iL;obtain ⟨W1,cP⟩:∃ W1,W1=(w.alloc (.deferred (some []))).alloc (.loop (p6 fn a.tmps ps assign body D .ready)):=⟨_,rfl⟩
 have below1:Below w.heap.size w W1:=by rw [cP];exact ((Below.refl _ w).alloc (Nat.le_refl _) _).alloc (by simp) _
 have atL:W1.heap[D+1]?=some (.loop (p6 fn a.tmps ps assign body D .ready)):=by have:=World.alloc_heap_new (w.alloc (.deferred (some []))) (.loop (p6 fn a.tmps ps assign body D .ready));rw [World.size_alloc,<-hD,<-cP] at this;exact this
 have atD:W1.heap[D]?=some (.deferred (some [])):=by have h:=World.alloc_heap_new w (.deferred (some []));rw [<-hD] at h;rw [cP,Below.heap_alloc _ _ _ (by simp;omega)];exact h
 refine ⟨D+1,[{ target := .collected D,args := #[] }],W1,{ target := .fn (.func gf) lb,args := #[.func (.yield (D+1)) #[] #[]] },W1,gf,#[.func (.yield (D+1)) #[] #[]]++lb,W1,?_,?_,fun _ _=>trivial,?_,(fun _=>by omega),?_⟩
 ·rw [cP,hD];exact run_enterLoop_outer _ _ _ _ _
 ·simp only [resolve,hg];simp [go_sem]
 ·simp [invoke,go_sem,eg]
 refine (fO (D+1) (fun pre V=>I pre V/\V.heap[D+1]?=some (.loop (p6 fn a.tmps ps assign body D .ready))/\V.heap[D]?=some (.deferred (some []))) W1 below1 ?abides ?rounds ⟨by rw [cP];exact h0 _,atL,atD⟩).mono ?after
 case abides =>
  rintro pre A B ⟨h1,h2,h3⟩ hb;exact ⟨hI _ _ _ h1 hb,(hb.block _ (Array.getElem?_eq_some_iff.1 h2).1).trans h2,(hb.block _ (Array.getElem?_eq_some_iff.1 h3).1).trans h3⟩
 case rounds =>
  rintro pre x V ⟨h1,h2,h3⟩ hx;have kA:=(Array.getElem?_eq_some_iff.1 h2).1;have hy:=run_yield (P:=P) (args:=encs x) h2 (gW x);refine ⟨fn,_,assign,body,hy,roundIn_of_wpIn dS (bX x V _ ⟨_,run_beginRound h2 rfl,?_⟩)⟩;have b2:(V.putObj (D+1) (.loop (p6 fn a.tmps ps assign body D .busy))).heap[D+1]?=some (.loop (p6 fn a.tmps ps assign body D .busy)):=World.putObj_heap_same kA;have b3:(V.putObj (D+1) (.loop (p6 fn a.tmps ps assign body D .busy))).heap[D]?=some (.deferred (some [])):=(World.putObj_heap_other (by omega)).trans h3;refine wpIn_mono (fH pre x (V.putObj (D+1) (.loop (p6 fn a.tmps ps assign body D .busy))) (dP _ _ _ _ h1 h2) hx (by rw [World.putObj_size];omega)) ?_;rintro e a3 U hp;cases e with
  | normal =>
   obtain ⟨k0,k1,k2,k3⟩:=hp;have u2:=k0.trans b2;have u3:=k1.trans b3;have hr:=run_endRound (P:=P) none u2;refine ⟨_,_,hr,rfl,⟨dP _ _ _ _ k3 u2,World.putObj_heap_same (Array.getElem?_eq_some_iff.1 u2).1,(World.putObj_heap_other (by omega)).trans u3⟩,?_⟩;exact iK (iK (iL _ _ _ (by omega)) k2) (iL _ _ _ (by omega))
  | ret=>exact hp.elim
  | exit _=>exact hp.elim
  | goto _=>exact hp.elim
  | panic _=>exact hp.elim
  | outgrown=>exact hp.elim
 case after =>
  rintro e V ⟨⟨v,rfl⟩,xs,hS,h1,h2,h3⟩;exact ⟨none,_,run_endLoop (P:=P) h2 (by simp [p6]),bE xs _ hS (dP _ _ _ _ h1 h2) ((World.putObj_heap_other (by omega)).trans h3)⟩
end
section
variable {P:Program} {w0:World} {U0:UX} {nt:Nat} {ops:Array Oper} {o:Oper} {S:Nat->Option AV} {gs:List Nat} {d:Nat} {s:AS} {a:Act} {w:World} {D:Nat->Nat->Prop} {hv:Nat->Value}
abbrev AV.ob (g o:Nat):AV:=⟨20,.sc (.pointer (some ⟨g,0,none⟩)),0,o,[]⟩
theorem SimG.newob (h:SimG w0 U0 nt s a w D hv) {n o:Nat} (hn:RW n) (hr:R8 s n) {x:Obj} (hx:∀ xs ty fl,x ≠ .cells xs ty fl) (ho:o=0->x = .deferred (some [])):SimG w0 U0 nt ((n,.ob w.heap.size o)::s) a (w.alloc x) D (fun k=>if k=n then .pointer (some ⟨w.heap.size,0,none⟩) else hv k):=by
 have hb':Below w.heap.size w (w.alloc x):=(Below.refl _ _).alloc (Nat.le_refl _) _;exact h.newrow (X:=fun _=>False) (avn := .ob w.heap.size o) (v' := .pointer (some ⟨w.heap.size,0,none⟩)) (D':=D) hn hr (fun e=>by cases e) ((BelowX.refl _ w).step hb') (fun b hb=>hb.elim) (fun g hg=>by have hg:some w.heap.size=some g:=hg;cases hg;refine ⟨.inr (Nat.le_refl _),by simp,fun o _ hd=>?_⟩;have:=h.dlt _ _ hd;omega) (fun b o hd => .inl hd) (fun b o hd=>Nat.lt_of_lt_of_le (h.dlt _ _ hd) hb'.size) (N5 h.dlt hb' fun _ _ h=>h) (fun hv lv=>⟨⟨(fun e=>by cases e),(fun e=>by cases e)⟩,fun _=>⟨rfl,w.heap.size,x,rfl,t7 _ _,hx,ho⟩,(fun e=>by cases e),(fun e=>by cases e)⟩)
theorem SimG.putob (h:SimG w0 U0 nt s a w D hv) {n o o':Nat} (hn:RW n) {g:Nat} (hs:look s n=some (.ob g o)) {x:Obj} (hx:∀ xs ty fl,x ≠ .cells xs ty fl) (ho:o'=0->x = .deferred (some [])):SimG w0 U0 nt ((n,.ob g o')::s) a (w.putObj g x) D hv/\g<w.heap.size/\hv n = .pointer (some ⟨g,0,none⟩)/\∃ y,w.heap[g]?=some y/\(o=0->y = .deferred (some [])):=by
 have kG:k7 n:=by unfold RW at hn;unfold k7;omega
 have hO:OX _ _ _ _:=h.obj n _ hs kG;obtain ⟨e1,g',y,e2,e3,e4,e5⟩:=hO.2.1 rfl;have e1:hv n = .pointer (some ⟨g,0,none⟩):=e1;have hg:g'=g:=by rw [e1] at e2;injection e2 with e2;injection e2 with e2;injection e2 with e2;exact e2.symm
 subst hg;have kA:g'<w.heap.size:=(Array.getElem?_eq_some_iff.1 e3).1;refine ⟨h.upd (av := .ob g' o') (w':=w.putObj g' x) kG hs (fun e=>by cases e) (fun e=>by cases e) rfl (fun g hh o ho=>hh o fun e=>by cases e) (fun e=>by cases e) (g:=g') (by rw [e1];rfl) rfl rfl rfl (by simp) (fun k hk=>World.putObj_heap_other hk) fun hc=>⟨⟨(fun e=>by cases e),(fun e=>by cases e)⟩,fun _=>⟨e1,g',x,e1,World.putObj_heap_same kA,hx,ho⟩,(fun e=>by cases e),(fun e=>by cases e)⟩,kA,e1,y,e3,e5⟩
theorem SimG.frame {V:UX} {pre sl:AS} (h:SimG w V 0 pre ⟨#[],[]⟩ w (fun _ _=>False) hv) (bM:(kO pre).all (Nat.ble 100000)=true) (dQ:(kO sl).all (fun k=>Nat.blt k 100000)=true) {tmps:Array Value} (kD:tmps.size=nt)
  (hsv:∀ d av,look sl d=some av->∃ v,tmps[d]?=some v/\AVRep (Us w V (fun _ _=>False)) w hv (a8 pre) av v):SimG w V nt (sl++pre) ⟨tmps,[]⟩ w (fun _ _=>False) hv:=by
 have kV:∀ {k av},look pre k=some av->100000<=k:=fun {k av} h1=>by rw [all_eq_true] at bM;exact Nat.le_of_ble_eq_true (bM k (f0 h1))
 have dE:∀ {k av},look sl k=some av->k<100000:=fun {k av} h1=>by rw [all_eq_true] at dQ;exact bL (dQ k (f0 h1))
 have kC:∀ {k},100000<=k->look (sl++pre) k=look pre k:=fun {k} h1=>by
  rw [b5];cases h2:look sl k with
  | none=>rfl
  | some av=>have:=dE h2;omega
 have kK:a8 (sl++pre)=a8 pre:=by
  funext n;unfold a8 r7;apply propext;constructor
  ·rintro (h1 | ⟨e,h1,h2,h3⟩)
   ·exact .inl h1
   ·rw [kC (by omega)] at h1;exact .inr ⟨e,h1,h2,h3⟩
  ·rintro (h1 | ⟨e,h1,h2,h3⟩)
   ·exact .inl h1
   ·exact .inr ⟨e,by rw [kC (by omega)];exact h1,h2,h3⟩
 refine ⟨h.below,rfl,kD,fun d av h1 h2=>?_,fun n o av h1 h2 h3 h4=>?_,fun n o o' av av' h1 h2=>?_,fun k av h1 h2=>?_,fun k av g h1 h2=>?_,fun k k' av av' g h1 h2 h3 h4=>?_,h.fix,fun b o hd=>hd.elim⟩
 ·rw [b5] at h1;cases h3:look sl d with
  | none=>rw [h3] at h1;have:=kV h1;omega
  | some av' =>
   rw [h3] at h1;cases h1;rw [kK];exact hsv d av h3
 ·rw [kC (by unfold d9;omega)] at h1;rw [kC (by omega)] at h3;rw [kK];exact h.fld n o av h1 h2 h3 h4
 ·rw [kC (by unfold d9;omega)] at h1 h2;exact h.fdis n o o' av av' h1 h2
 ·rw [kC h2.1] at h1;rw [kK];exact h.obj k av h1 h2
 ·rw [kC h2.1] at h1;exact h.blk k av g h1 h2
 ·rw [kC h3.1] at h1;rw [kC h4.1] at h2;exact h.disj k k' av av' g h1 h2 h3 h4
theorem SimG.bare (h:SimG w0 U0 nt s a w D hv) {post:AS} (hp:Sub s post) (gF:(kO post).all (Nat.ble 100000)=true):SimG w0 U0 0 post ⟨#[],[]⟩ w D hv:=by
 have hS:=h.sub hp;have bG:∀ {k av},look post k=some av->100000<=k:=fun {k av} h1=>by rw [all_eq_true] at gF;exact Nat.le_of_ble_eq_true (gF k (f0 h1))
 exact ⟨hS.below,rfl,rfl,fun d av h7 h8=>by have:=bG h7;omega,hS.fld,hS.fdis,hS.obj,hS.blk,hS.disj,hS.fix,hS.dlt⟩
end
def KpX (n0:Nat) (X:Nat->Prop) (V V':World):Prop:=∀ b,b<n0->¬ X b->V'.heap[b]?=V.heap[b]?
def c0v {α:Type} (P:Program) (gf:Nat) (caps:List CV) (encC:α->List CV) (xs:List α):Prop:=
 ∀ (w:World) (lb:List Value) (R:Nat->Nat->Prop),VReps R w caps lb->Z9 P gf lb.toArray (fun x=>((encC x).map CV.v).toArray) (fun pre x _=>xs[pre.length]?=some x) (KpX w.heap.size fun b=>¬ ∃ o,R b o) (fun ys=>ys=xs) w
def c0q:List Oper->Option (List (Nat×Nat))
 | []=>some []
 | o::os=>match o.dst,o.op,o.guard,c0q os with
  | some d,.assign (.tmp t),none,some r=>some ((d,t)::r)
  | _,_,_,_=>none
def b4Y:List (Nat×Nat)->Array Value->Array Value
 | [],tm=>tm
 | (d,t)::r,tm=>b4Y r (tm.setIfInBounds d (tm.getD t undef))
def b8P:List (Nat×Nat)->AS->AS
 | [],s=>s
 | (d,t)::r,s=>b8P r ((d,match look s t with | some av=>av | none => .no)::s)
def a4r:List Tmp->List Value->Array Value->Array Value
 | p::ps,v::vs,tm=>a4r ps vs (tm.setIfInBounds p v)
 | _,_,tm=>tm
def a9N:List Tmp->List CV->AS->AS
 | p::ps,c::cs,s=>a9N ps cs ((p,.val c)::s)
 | _,_,s=>s
def SlOk (R:AV->Value->Prop) (s:AS) (tm:Array Value):Prop:=∀ d av,look s d=some av->∃ v,tm[d]?=some v/\R av v
theorem SlOk.set {R:AV->Value->Prop} {s:AS} {tm:Array Value} (h:SlOk R s tm) {d:Nat} (hd:d<tm.size) {av:AV} {v:Value} (hv:R av v):SlOk R ((d,av)::s) (tm.setIfInBounds d v):=by
 intro d' av' h1;rw [d8] at h1;split at h1
 ·rename_i e;subst e;cases h1;exact ⟨v,by simp [hd],hv⟩
 ·rename_i e;obtain ⟨u,h2,h3⟩:=h d' av' h1;exact ⟨u,by rw [Array.getElem?_setIfInBounds_ne (by omega)];exact h2,h3⟩
theorem SlOk.asg {R:AV->Value->Prop} (gB:∀ v,R .no v):∀ {al:List (Nat×Nat)} {s:AS} {tm:Array Value},SlOk R s tm->(al.all fun p=>Nat.blt p.1 tm.size)=true->SlOk R (b8P al s) (b4Y al tm)/\(b4Y al tm).size=tm.size
 | [],s,tm,h,_=>⟨h,rfl⟩
 | (d,t)::r,s,tm,h,hl=>by
  rw [all_cons,Bool.and_eq_true] at hl;have hd:=bL hl.1;have:=SlOk.asg gB (al:=r) (s:=(d,match look s t with | some av=>av | none => .no)::s) (tm:=tm.setIfInBounds d (tm.getD t undef)) (h.set hd ?_) (by rw [Array.size_setIfInBounds];exact hl.2)
  ·exact ⟨this.1,by rw [b4Y,this.2,Array.size_setIfInBounds]⟩
  ·cases e:look s t with
   | none=>exact gB _
   | some av =>
    obtain ⟨v,h1,h2⟩:=h t av e;show R av _;simp only [Array.getD_eq_getD_getElem?,h1,Option.getD_some];exact h2
theorem SlOk.par {R:AV->Value->Prop}:∀ {ps:List Tmp} {cs:List CV} {s:AS} {tm:Array Value},SlOk R s tm->(ps.all fun p=>Nat.blt p tm.size)=true->(∀ c∈cs,R (.val c) c.v)->SlOk R (a9N ps cs s) (a4r ps (cs.map CV.v) tm)/\(a4r ps (cs.map CV.v) tm).size=tm.size
 | [],cs,s,tm,h,_,_=>⟨by cases cs<;>exact h,by cases cs<;>rfl⟩
 | p::ps,[],s,tm,h,_,_=>⟨h,rfl⟩
 | p::ps,c::cs,s,tm,h,hl,hc=>by
  rw [all_cons,Bool.and_eq_true] at hl;have:=SlOk.par (ps:=ps) (cs:=cs) (s:=(p,.val c)::s) (tm:=tm.setIfInBounds p c.v) (h.set (bL hl.1) (hc c (by simp))) (by rw [Array.size_setIfInBounds];exact hl.2) (fun c' vM=>hc c' (mem_cons_of_mem _ vM));exact ⟨this.1,by show (a4r ps (cs.map CV.v) (tm.setIfInBounds p c.v)).size=_;rw [this.2,Array.size_setIfInBounds]⟩
theorem a7k:∀ (ps:List Tmp) (vs:List Value) (tm:Array Value),(ps.toArray.zip vs.toArray).foldl (fun t (p,v)=>t.setIfInBounds p v) tm=a4r ps vs tm:=by
 intro ps vs tm;rw [List.zip_toArray,List.foldl_toArray]
 induction ps generalizing vs tm with
 | nil=>cases vs<;>rfl
 | cons p ps ih =>
  cases vs with
  | nil=>rfl
  | cons v vs=>rw [List.zip_cons_cons,List.foldl_cons];exact ih vs _
theorem b2D {P:Program} {ro:Option Nat} {ops:Array Oper} {Q:Exit->Act->World->Prop}:∀ {l:List Oper} {al:List (Nat×Nat)} {tm:Array Value} {ds:List Deferred} {w:World},c0q l=some al->Q .normal ⟨b4Y al tm,ds⟩ w->wpListIn (B2 ro) 1 P ops Q l ⟨tm,ds⟩ w
 | [],al,tm,ds,w,h,hq=>by cases h;exact hq
 | o::os,al,tm,ds,w,h,hq=>by
  rw [c0q] at h;split at h
  ·rename_i d t r h1 h2 h3 h4;cases h;unfold wpListIn;rw [if_pos (by simp [Region.wanted,h3])];refine ⟨fun _ _=>trivial,?_⟩;have hs:(o.semAt (B2 ro).round (Act.eval ⟨tm,ds⟩))=pure (.value (tm.getD t undef)):=by rw [Oper.semAt_eq _ _ _ (fun c hc=>by rw [h2] at hc;cases hc)];simp only [execOp,h2];rfl
   rw [hs];show wpListIn _ _ _ _ _ _ _ _;rw [h1];exact b2D h4 hq
  ·cases h
section
variable {P:Program} {w0:World} {U0:UX} {nt:Nat} {s:AS}
theorem b7L {n m:Nat} {c:Code} {Q:Exit->Act->World->Prop} {a:Act} {w:World} (h:c.wpIn Fence.wide n P Q a w):c.wpIn Fence.wide m P Q a w:=
 fun b k cs h1 h2 _=>h b k cs h1 h2 (room_wide _)
def a3f (P:Program) (w0:World) (U0:UX) (nt:Nat) (c:Code) (Q:Exit->AS->Nat->Prop) (s:AS):Prop:=
 ∀ a w,Sim w0 U0 nt s a w->c.wpIn Fence.wide 1 P (fun e a' w'=>∃ s' a'' g,Q e s' g/\Sim w0 U0 nt s' a'' w'/\a'=wdA a'' [⟨.collected g,#[]⟩]/\look s' 299999=some (.ob g 0)) a w
theorem Q4 {x y:Code} {Q:Exit->AS->Nat->Prop} (h:AWp P w0 U0 nt x (fun e s'=>e = .normal/\a3f P w0 U0 nt y Q s') s):a3f P w0 U0 nt (.seq x y) Q s:=fun a w hs=>by
 have:=h ⟨none,[]⟩ a w hs;unfold WP at this;rw [a0i hs.df] at this;refine wpIn_seq (wpIn_mono this ?_);rintro e a' w' ⟨a'',rfl,s',⟨rfl,h2⟩,h3⟩;show Code.wpIn _ _ _ _ _ _ _;rw [a0i h3.df];exact h2 a'' w' h3
theorem a6q {x y:Code} {Q:Exit->AS->Nat->Prop} (h:a3f P w0 U0 nt x (fun e s' g=>e = .normal/\AWp P w0 U0 nt y (fun e s2=>Q e s2 g/\look s2 299999=some (.ob g 0)) s') s):a3f P w0 U0 nt (.seq x y) Q s:=fun a w hs=>by
 refine wpIn_seq (wpIn_mono (h a w hs) ?_);rintro e a' w' ⟨s',a'',g,⟨rfl,h2⟩,h3,rfl,h4⟩;show Code.wpIn _ _ _ _ _ _ _;refine wpIn_mono (h2 ⟨none,[⟨.collected g,#[]⟩]⟩ a'' w' h3) ?_;rintro e b w2 ⟨b',rfl,s2,⟨h5,h6⟩,h7⟩;exact ⟨s2,b',g,h5,h7,rfl,h6⟩
theorem a4f {id:Nat} {c:Code} {Q:Exit->AS->Nat->Prop} (h:a3f P w0 U0 nt c (fun e s' g=>e = .normal/\Q .normal s' g) s):a3f P w0 U0 nt (.block id c) Q s:=fun a w hs=>by
 refine wpIn_block (wpIn_mono (h a w hs) ?_);rintro e a' w' ⟨s',a'',g,⟨rfl,h2⟩,h3⟩;exact ⟨s',a'',g,h2,h3⟩
theorem b1w {α:Type} {g:Operand} {ps:List Tmp} {rid:Nat} {l:List Oper} {body:Code} {gf:Nat} {caps:List CV} {encC:α->List CV} {xs:List α} {al:List (Nat×Nat)} {n1 q1 p1} (ob:Nat->AS) (sl:AS)
  (iA:ev (look s) g=some ⟨0,.fn gf 0 caps,n1,q1,p1⟩) (iR:a9T P gf) (hG:c0v P gf caps encC xs)
  (hasg:c0q l=some al) (fT:(al.all fun p=>Nat.blt p.1 nt&&Nat.blt p.1 100000)=true) (gW:(ps.all fun p=>Nat.blt p nt&&Nat.blt p 100000)=true) (hsc:∀ x∈xs,∀ c∈encC x,∃ v,c = .sc v/\v.oneCell'=true) (kF:∀ x,(encC x).length=ps.length)
  (dQ:SubL s sl) (cT:(kO sl).all (fun k=>Nat.blt k 100000)=true) (oG:SubL s (ob 0))
  (kX:∀ k,(ob k).all E2=true) (gI:∀ k,(ob k).all (F6 (kO (ob k)))=true) (kM:∀ k,kO (ob k)=kO (ob 0))
  (mE:((kO (ob 0)).all fun k=>Nat.ble 300000 k)=true) (jR:A6 s ((299999,[])::(299998,[])::E4 (kO (ob 0)) (kO (ob 0)) (kO (ob 0)))=true)
  (jC:((E4 (kO (ob 0)) (kO (ob 0)) (kO (ob 0))).all fun q=>!Nat.beq q.1 0&&(!Nat.beq q.1 100000&&!Nat.beq q.1 1100000))=true)
  (gJ:∀ k x,xs[k]?=some x->∀ (w:World) (U:UX),(∀ k' v,U.f k'=some v->l6 (kO (ob k)) k'=true)->AWp P w U nt body (fun e s'=>e = .normal/\Wk w U nt s' (ob (k+1))) (b8P al (a9N ps (encC x) sl)++ob k)) :
  a3f P w0 U0 nt (.rangeFunc g ps.toArray (.region rid l.toArray false) body) (fun e s' m=>e = .normal/\s'=ob xs.length++((299998,.ob (m+1) 1)::(299999,.ob m 0)::s)) s:=by
 rintro a w ⟨D0,lO,h⟩;obtain ⟨ys,lb,e1,e2,e3,e4⟩:=T6.1 (A0 h (fun k _=>rfl) iA);have eA:ys=[]:=eq_nil_of_length_eq_zero e2;subst eA;have iS:VReps (Us w0 U0 D0) w caps lb:=P7 e4 (by simpa using e3);obtain ⟨lp,cG⟩:∃ lp:AS,lp=(299998,AV.ob (w.heap.size+1) 1)::(299999,AV.ob w.heap.size 0)::s:=⟨_,rfl⟩
 have mV:=q7 jR;have cU:∀ {k av k'},look (ob k) k'=some av->300000<=k':=fun {k av k'} h1=>by rw [all_eq_true] at mE;refine Nat.le_of_ble_eq_true (mE k' ?_);rw [<-kM k];exact f0 h1
 have hL:look lp 299998=some (.ob (w.heap.size+1) 1):=by rw [cG,lS]
 have vO:look lp 299999=some (.ob w.heap.size 0):=by rw [cG,lN (by omega),lS]
 have dL:∀ {k k':Nat},k'<300000->look (ob k++lp) k'=look lp k':=fun {k k'} h1=>by
  rw [b5];cases e:look (ob k) k' with
  | none=>rfl
  | some av=>have:=cU e;omega
 have dB:∀ k,Sub (ob k++lp) (ob k):=fun k k' av h1=>by rw [b5,h1];rfl
 let I:List α->World->Prop:=fun pre V=>∃ D hv,(∀ b o,D0 b o->D b o)/\SimG w0 U0 nt (ob pre.length++lp) a V D hv
 have dP:∀ (pre:List α) (A:World) (r r':Loop),I pre A->A.heap[w.heap.size+1]?=some (.loop r)->I pre (A.putObj (w.heap.size+1) (.loop r')):=by
  rintro pre A r r' ⟨D,hv,hd,hS⟩ hr;obtain ⟨h1,_⟩:=hS.putob (n:=299998) (o:=1) (o':=1) (by unfold RW;omega) (by rw [dL (by omega)];exact hL) (x := .loop r') (fun _ _ _ e=>by cases e) (fun e=>by cases e);refine ⟨D,hv,hd,h1.congr fun k=>?_⟩;rw [d8];split
  ·rename_i e;subst e;rw [dL (by omega)];exact hL
  ·rfl
 have fY:∀ {k},k<300000->look (ob 0) k=none:=fun {k} hk=>by
  cases e:look (ob 0) k with
  | none=>rfl
  | some av=>have:=cU e;omega
 have h0:∀ r:Loop,I [] ((w.alloc (.deferred (some []))).alloc (.loop r)):=fun r=>by
  have h1:=h.newob (n:=299999) (o:=0) (by unfold RW;omega) (mV (299999,[]) (by simp)).nr (x := .deferred (some [])) (fun _ _ _ e=>by cases e) (fun _=>rfl);have sO:R8 ((299999,AV.ob w.heap.size 0)::s) 299998:=fun k av hk=>by
   rw [d8] at hk;split at hk
   ·rename_i e;subst e;cases hk;exact ⟨by show (0:Nat)≠299998;decide,by decide,by decide⟩
   ·exact (mV (299998,[]) (by simp)).nr k av hk
  have h2:=h1.newob (n:=299998) (o:=1) (by unfold RW;omega) sO (x := .loop r) (fun _ _ _ e=>by cases e) (fun e=>by cases e);rw [show (w.alloc (.deferred (some []))).heap.size=w.heap.size+1 by simp,<-cG] at h2;refine ⟨D0,_,fun _ _ h=>h,h2.congr fun k=>?_⟩;show look (ob 0++lp) k=_;rw [b5];cases e:look (ob 0) k with
  | none=>rfl
  | some av =>
   have h3:=cU e;have h4:=oG.sub k av e;show some av=_;rw [cG,lN (by omega),lN (by omega),h4]
 have jD:(w.heap.size+1)=(w.heap.size+1):=rfl;refine b7L (b3D (gf:=gf) (lb:=lb.toArray) (by rw [e1]) iR (Ok:=fun pre x=>xs[pre.length]?=some x) (hG w lb (Us w0 U0 D0) iS) (fun {A B C} h1 h2 b hb hx=>(h2 b hb hx).trans (h1 b hb hx)) (fun W l o' hl b hb hx=>World.putObj_heap_other (by omega)) (fun x=>by simp [kF]) I (fun pre A B ⟨D,hv,hd,hS⟩ hb=>⟨D,hv,hd,hS.grow' hb⟩) dP h0
  (fun x=>⟨b4Y al (a4r ps ((encC x).map CV.v) a.tmps),[]⟩) (fun x W K hK=>?_) (fun pre x W hI hx kD=>?_) (fun ys W eA hI hD=>?_))
 ·rw [a7k];exact wpIn_region_lit (b2D (ro:=some (w.heap.size+1)) hasg hK)
 ·obtain ⟨D,hv,hd,hS⟩:=hI;obtain ⟨k,hk⟩:∃ k,k=pre.length:=⟨_,rfl⟩
  rw [<-hk] at hx hS;obtain ⟨V,v1,v2,v3,v4,v5,v6⟩:=hS.lend (dB k) (kX k);have iT:((kO (ob k)).all (Nat.ble 100000))=true:=by rw [kM k,all_eq_true];intro q hq;have:=Nat.le_of_ble_eq_true (all_eq_true.1 mE q hq);exact Nat.ble_eq_true_of_le (by omega)
  have sP:SlOk (fun av v=>AVRep (Us W V (fun _ _=>False)) W hv (a8 (ob k)) av v) sl a.tmps:=fun d av h1=>by
   have mU:d<100000:=by rw [all_eq_true] at cT;exact bL (cT d (f0 h1))
   have h2:look (ob k++lp) d=some av:=by rw [dL (by omega),cG,lN (by omega),lN (by omega)];exact dQ.sub d av h1
   obtain ⟨v,h3,h4⟩:=hS.slot d av h2 mU;exact ⟨v,h3,h4.move v6 (fun _ h5=>h5.imp id fun ⟨e,he⟩=>⟨e,dB k _ _ he.1,he.2⟩) fun _=>rfl⟩
  have mF:=sP.par (ps:=ps) (cs:=encC x) (by
   rw [all_eq_true] at gW |-;intro p hp;have:=gW p hp;rw [Bool.and_eq_true] at this;rw [hS.size];exact this.1) (fun c hc=>by obtain ⟨v,rfl,gG⟩:=hsc x (List.mem_of_getElem? hx) c hc;exact q9 gG)
  have qU:=mF.1.asg (fun v=>by unfold AVRep;simp) (al:=al) (by
   rw [all_eq_true] at fT |-;intro p hp;have:=fT p hp;rw [Bool.and_eq_true] at this;rw [mF.2,hS.size];exact this.1)
  have kB:(kO (b8P al (a9N ps (encC x) sl))).all (fun k=>Nat.blt k 100000)=true:=by
   have fU:∀ (ps:List Tmp) (cs:List CV) (sl:AS),(ps.all fun p=>Nat.blt p nt&&Nat.blt p 100000)=true->(kO sl).all (fun k=>Nat.blt k 100000)=true->(kO (a9N ps cs sl)).all (fun k=>Nat.blt k 100000)=true:=by
    intro ps
    induction ps with
    | nil=>intro cs sl _ h;cases cs<;>exact h
    | cons p ps ih =>
     intro cs sl h1 h2;cases cs with
     | nil=>exact h2
     | cons c cs =>
      rw [all_cons,Bool.and_eq_true] at h1;have h3:=h1.1;rw [Bool.and_eq_true] at h3;refine ih cs ((p,.val c)::sl) h1.2 ?_;show ((p::kO sl).all _)=true;rw [all_cons,Bool.and_eq_true];exact ⟨h3.2,h2⟩
   have dX:∀ (al:List (Nat×Nat)) (sl:AS),(al.all fun p=>Nat.blt p.1 nt&&Nat.blt p.1 100000)=true->(kO sl).all (fun k=>Nat.blt k 100000)=true->(kO (b8P al sl)).all (fun k=>Nat.blt k 100000)=true:=by
    intro al
    induction al with
    | nil=>intro sl _ h;exact h
    | cons p al ih =>
     intro sl h1 h2;obtain ⟨d,t⟩:=p;rw [all_cons,Bool.and_eq_true] at h1;have h3:=h1.1;rw [Bool.and_eq_true] at h3;refine ih _ h1.2 ?_;show ((d::kO sl).all _)=true;rw [all_cons,Bool.and_eq_true];exact ⟨h3.2,h2⟩
   exact dX _ _ fT (fU _ _ _ gW cT)
  have hF:=v2.frame (nt:=nt) iT kB (tmps:=b4Y al (a4r ps ((encC x).map CV.v) a.tmps)) (by rw [qU.2,mF.2];exact hS.size) qU.1;have hR:=gJ k x hx W V v1 ⟨some (w.heap.size+1),[]⟩ _ W ⟨_,hv,hF⟩;refine wpIn_mono hR ?_;rintro e a' W' ⟨a'',rfl,s',⟨rfl,h5⟩,h6⟩;obtain ⟨D',kH,h7⟩:=h5 a'' W' h6;have h8:=h7.bare (post:=ob (k+1)) (fun _ _ h=>h) (by rw [kM (k+1),<-kM k];exact iT);have mP:∀ b,b<W.heap.size->¬ V.x b->W'.heap[b]?=W.heap[b]?:=fun b hb hx=>h8.below.block b hb hx;have pT:∀ {b kk o},kk=299998\/kk=299999->look lp kk=some (.ob b o)->¬ V.x b:=fun {b kk o} kS h9 hb=>by
   obtain ⟨q,av,g1,g2,g3⟩:=(v3 b).1 hb;have hq:=cU g1;have gX:av.t≠7:=by
    have h3:=G1 (kX k) g1;unfold E2 at h3;unfold k7 at g2;have h4:Nat.ble 500000 q=false:=by
     cases e:Nat.ble 500000 q with
     | false=>rfl
     | true=>have:=Nat.le_of_ble_eq_true e;omega
    simp only [h4,Bool.and_eq_true,Bool.not_eq_true'] at h3;intro e;rw [e] at h3;exact absurd h3.1.2 (by decide)
   have oH:k7 kk:=by unfold k7;omega
   have hO:OX (Us w0 U0 D) W (.ob b o) (hv kk):=hS.obj kk (.ob b o) (by rw [dL (by omega)];exact h9) oH;have hval:hv kk = .pointer (some ⟨b,0,none⟩):=(hO.2.1 rfl).1;exact hS.disj q kk av _ b (dB k _ _ g1) (by rw [dL (by omega)];exact h9) g2 oH gX (fun e=>by cases e) (by omega) g3 (by rw [hval];rfl)
  have oI:=pT (.inl rfl) hL;have tX:=pT (.inr rfl) vO;have tY:∀ q∈E4 (kO (ob 0)) (kO (ob 0)) (kO (ob 0)),q.1≠0/\100000≠q.1/\100000+1000000≠q.1:=fun q hq=>by rw [all_eq_true] at jC;have:=jC q hq;simp only [Bool.and_eq_true,Bool.not_eq_true'] at this;obtain ⟨g1,g2,g3⟩:=this;exact ⟨(fun e=>by rw [e] at g1;cases g1),(fun e=>by rw [<-e] at g2;cases g2),(fun e=>by rw [<-e] at g3;cases g3)⟩
  obtain ⟨D2,gU,h9,_,nW⟩:=hS.back (dB k) (kX k) (gI (k+1)) (by rw [kM (k+1),kM k,all_eq_true];intro q hq;exact r8 hq) (fun q hq=>by
   rw [kM (k+1),kM k] at hq;intro kk av kS jO;have eB:=mV q (by simp only [mem_cons];exact .inr (.inr hq));rw [b5] at kS;cases e:look (ob k) kk with
   | some av' =>
    exfalso;have eI:l6 q.2 kk=true:=by
     have:∀ (P1 P2 ks:List Nat),q∈E4 P1 P2 ks->q.2=P1++P2:=by
      intro P1 P2 ks
      induction ks with
      | nil=>intro h;cases h
      | cons y ys ih =>
       intro h;unfold E4 at h;split at h
       ·exact ih h
       ·rcases mem_cons.1 h with rfl | h
        ·rfl
        ·exact ih h
       ·exact ih h
       ·rcases mem_cons.1 h with rfl | h
        ·rfl
        ·exact ih h
       ·rcases mem_cons.1 h with rfl | h
        ·rfl
        ·exact ih h
       ·rcases mem_cons.1 h with rfl | h
        ·rfl
        ·exact ih h
     rw [this _ _ _ hq];refine r8 (mem_append_left _ ?_);rw [<-kM k];exact f0 e
    rw [eI] at jO;cases jO
   | none =>
    rw [e] at kS;have kS:look lp kk=some av:=kS;rw [cG,d8] at kS;split at kS
    ·rename_i e2;injection kS with kS;obtain ⟨g1,g2,g3⟩:=tY q hq;rw [<-e2,<-kS];exact ⟨fun e=>g1 e.symm,g2,g3⟩
    ·rw [d8] at kS;split at kS
     ·rename_i e2;injection kS with kS;obtain ⟨g1,g2,g3⟩:=tY q hq;rw [<-e2,<-kS];exact ⟨fun e=>g1 e.symm,g2,g3⟩
     ·exact eB kk av kS jO) (fun q v hq1 eB=>by rw [kM (k+1),<-kM k] at eB;exact eB) v3 v4 v5 v2 h8
  refine ⟨mP _ (by omega) oI,mP _ (by omega) tX,fun b hb hx=>?_,D2,gU,fun b o hb=>nW b o (hd b o hb),?_⟩
  ·obtain ⟨o,ho⟩:=Classical.not_not.1 hx;refine mP b (by omega) fun kZ=>?_;obtain ⟨q,av,g1,g2,g3⟩:=(v3 b).1 kZ;have hq:=cU g1;have gX:av.t≠7/\av.t≠6:=by
    have h3:=G1 (kX k) g1;unfold E2 at h3;unfold k7 at g2;have h4:Nat.ble 500000 q=false:=by
     cases e:Nat.ble 500000 q with
     | false=>rfl
     | true=>have:=Nat.le_of_ble_eq_true e;omega
    simp only [h4,Bool.and_eq_true,Bool.not_eq_true'] at h3;exact ⟨(fun e=>by rw [e] at h3;exact absurd h3.1.2 (by decide)),(fun e=>by rw [e] at h3;exact absurd h3.1.1.2 (by decide))⟩
   obtain ⟨f1,f2,f3⟩:=hS.blk q av b (dB k _ _ g1) g2 gX.1 g3;have mS:Us w0 U0 D b o:=ho.imp id fun h=>⟨h.1,hd _ _ h.2⟩
   exact a3b mS f1 (f3 o fun e=>absurd e gX.2) rfl
  ·have iU:(pre++[x]).length=k+1:=by rw [length_append,hk];rfl
   rw [iU];refine h9.sub fun q av hq=>?_;rw [b5] at hq |-;cases e:look (ob (k+1)) q with
   | some av'=>rw [e] at hq;exact hq
   | none =>
    rw [e] at hq;have hq:look lp q=some av:=hq;show look (ob k++lp) q=some av;rw [b5];cases e2:look (ob k) q with
    | none=>exact hq
    | some av' =>
     exfalso;have h1:=f0 e2;rw [kM k,<-kM (k+1)] at h1;obtain ⟨av2,h2⟩:∃ av2,look (ob (k+1)) q=some av2:=by
      clear e;generalize ob (k+1)=L at h1
      induction L with
      | nil=>cases h1
      | cons y L ih =>
       obtain ⟨q',av2⟩:=y;rw [d8];by_cases e3:q'=q
       ·exact ⟨av2,if_pos e3⟩
       ·rw [if_neg e3];rcases mem_cons.1 h1 with h1 | h1
        ·exact absurd h1.symm e3
        ·exact ih h1
     rw [e] at h2;cases h2
 ·subst eA;obtain ⟨D,hv,hd,hS⟩:=hI;refine ⟨_,a,w.heap.size,⟨rfl,rfl⟩,⟨D,hv,by rw [cG] at hS;exact hS⟩,by show _=wdA a _;unfold wdA;rw [h.dfr],?_⟩;have:=dL (k:=ys.length) (k':=299999) (by omega);rw [vO,cG] at this;exact this
end
def b1U {α:Type} (P:Program) (gf:Nat) (caps:List CV) (m:Nat) (encC:α->List CV) (xs:List α):Prop:=
 ∀ (w:World) (lb:List Value) (R:Nat->Nat->Prop),VReps R w caps lb->∃ vals:Nat->List Value,(∀ k,(vals k).length=m)/\(∀ k x,xs[k]?=some x->VReps R w (encC x) (vals k)) /\
  Z9 P gf lb.toArray (fun k=>(vals k).toArray) (fun pre k _=>k=pre.length/\k<xs.length) (KpX w.heap.size fun b=>¬ ∃ o,R b o) (fun ys=>ys=List.range xs.length) w
theorem SlOk.parV {R:AV->Value->Prop} {U:Nat->Nat->Prop} {w:World} (hR:∀ c v,VRep U w c v->R (.val c) v):∀ {ps:List Tmp} {cs:List CV} {vs:List Value} {s:AS} {tm:Array Value},SlOk R s tm->(ps.all fun p=>Nat.blt p tm.size)=true->VReps U w cs vs->SlOk R (a9N ps cs s) (a4r ps vs tm)/\(a4r ps vs tm).size=tm.size
 | [],cs,vs,s,tm,h,_,_=>⟨by cases cs<;>exact h,rfl⟩
 | p::ps,[],vs,s,tm,h,_,hv=>by
  have hv:vs=[]:=hv;subst hv;exact ⟨h,rfl⟩
 | p::ps,c::cs,vs,s,tm,h,hl,⟨u,us,e,h1,h2⟩=>by
  subst e;rw [all_cons,Bool.and_eq_true] at hl;have:=SlOk.parV hR (ps:=ps) (cs:=cs) (vs:=us) (s:=(p,.val c)::s) (tm:=tm.setIfInBounds p u) (h.set (bL hl.1) (hR c u h1)) (by rw [Array.size_setIfInBounds];exact hl.2) h2;exact ⟨this.1,by show (a4r ps us (tm.setIfInBounds p u)).size=_;rw [this.2,Array.size_setIfInBounds]⟩
section
variable {P:Program} {w0:World} {U0:UX} {nt:Nat} {s:AS}
end
section
variable {P:Program} {w0:World} {U0:UX} {nt:Nat} {ops:Array Oper} {o:Oper} {S:Nat->Option AV} {gs:List Nat} {d:Nat} {s:AS} {a:Act} {w:World} {D:Nat->Nat->Prop} {hv:Nat->Value}
theorem a6h {c:Code} {Q Q':Exit->AS->Nat->Prop} (h:a3f P w0 U0 nt c Q s) (hq:∀ e s g,Q e s g->Q' e s g):a3f P w0 U0 nt c Q' s:=fun a w hs =>
 wpIn_mono (h a w hs) fun e a' w' ⟨s',a'',g,h1,h2⟩=>⟨s',a'',g,hq _ _ _ h1,h2⟩
theorem a7w {c:Code} {Q:Exit->AS->Nat->Prop} {s':AS} (h:Wk w0 U0 nt s s') (h2:a3f P w0 U0 nt c Q s'):a3f P w0 U0 nt c Q s:=fun a w hs=>h2 a w (h a w hs)
theorem b4h {f : FuncId} {fn : Func} {c : Code} {pre post : AS} {args : List AV} {r : AV} (hf : P.funcs[f]? = some fn) (hn : fn.ntmps = nt) (bF : (fn.name == "runtime.NumGoroutine") = false) (hb : fn.body = some c) (hl : Nat.ble args.length nt = true) (dO : Nat.blt nt 100000 = true) (bM : (kO pre).all (Nat.ble 100000) = true) (gF : (kO post).all (Nat.ble 100000) = true)
  (h:∀ (w:World) (U:UX),(∀ k v,U.f k=some v->l6 (kO pre) k=true)->a3f P w U nt c (fun e s' g=>(e = .normal\/e = .ret)/\∃ s2,Wk w U nt s' ((299999,.ob g 0)::s2)/\b7y P s2 fn.results.toList=some r/\SubL s2 post/\look s2 299999=none) (F7 args 0++pre)):p9 P f pre args r post:=by
 refine ⟨C7 hf bF (by rw [hb];rfl),fun U w hv a0 vs hU gZ hargs=>?_⟩;have kF:=hargs.len;refine callsIn_wide.1 (callsIn_of_wp_marks (F:=Fence.wide) (n:=1) hf hb trivial ?_ rfl);have cV:=Nat.le_of_ble_eq_true hl;have dO:=bL dO;have kV:∀ {k av},look pre k=some av->100000<=k:=fun {k av} h1=>by rw [all_eq_true] at bM;exact Nat.le_of_ble_eq_true (bM k (f0 h1))
 have kC:∀ {k},100000<=k->look (F7 args 0++pre) k=look pre k:=fun {k} h1=>by
  rw [b5];cases h2:look (F7 args 0) k with
  | none=>rfl
  | some av =>
   obtain ⟨_,h3⟩:=x7 h2;rw [Nat.sub_zero,getElem?_eq_none (by omega)] at h3;cases h3
 have kK:a8 (F7 args 0++pre)=a8 pre:=by
  funext n;unfold a8 r7;apply propext;constructor
  ·rintro (h1 | ⟨e,h1,h2,h3⟩)
   ·exact .inl h1
   ·rw [kC (by omega)] at h1;exact .inr ⟨e,h1,h2,h3⟩
  ·rintro (h1 | ⟨e,h1,h2,h3⟩)
   ·exact .inl h1
   ·exact .inr ⟨e,by rw [kC (by omega)];exact h1,h2,h3⟩
 have hs:Sim w U nt (F7 args 0++pre) { tmps:=vs.toArray++Array.replicate (fn.ntmps-vs.toArray.size) undef,defers:=[] } w:=by
  refine ⟨fun _ _=>False,hv,gZ.below,rfl,by simp [hn];omega,fun d av h1 h2=>?_,fun n o av h1 h2 h3 h4=>?_,fun n o o' av av' h1 h2=>?_,fun k av h1 h2=>?_,fun k av g h1 h2=>?_,fun k k' av av' g h1 h2 h3 h4=>?_,gZ.fix,fun b o hd=>hd.elim⟩
  ·rw [b5] at h1;cases h3:look (F7 args 0) d with
   | none =>
    rw [h3] at h1;have:=kV h1;omega
   | some av' =>
    rw [h3] at h1;cases h1;obtain ⟨_,h4⟩:=x7 h3;rw [Nat.sub_zero] at h4;obtain ⟨v,h6,h7⟩:=hargs.at h4;have hdl:d<vs.length:=by
     rcases Nat.lt_or_ge d vs.length with h | h
     ·exact h
     ·rw [getElem?_eq_none h] at h6;cases h6
    rw [kK];refine ⟨v,?_,h7⟩;rw [Array.getElem?_append_left (by simpa using hdl)];simpa using h6
  ·rw [kC (by unfold d9;omega)] at h1;rw [kC (by omega)] at h3;rw [kK];exact gZ.fld n o av h1 h2 h3 h4
  ·rw [kC (by unfold d9;omega)] at h1 h2;exact gZ.fdis n o o' av av' h1 h2
  ·rw [kC h2.1] at h1;rw [kK];exact gZ.obj k av h1 h2
  ·rw [kC h2.1] at h1;exact gZ.blk k av g h1 h2
  ·rw [kC h3.1] at h1;rw [kC h4.1] at h2;exact gZ.disj k k' av av' g h1 h2 h3 h4
 refine wpIn_mono (h w U hU _ w hs) ?_;rintro e a' w' ⟨s',a'',g,⟨h1,s2,g1,g2,g3,g4⟩,h3,rfl,g5⟩;obtain ⟨D',kH,h4⟩:=g1 a'' w' h3;obtain ⟨h5,h6,h7,y,h8,h9⟩:=h4.putob (n:=299999) (o:=0) (o':=1) (by unfold RW;omega) (lS _ _ _) (x := .deferred none) (fun _ _ _ e=>by cases e) (fun e=>by cases e);have h9:=h9 rfl;subst h9;have hS:=h5.sub (s':=s2) fun k av hk=>by
  have kE:(299999:Nat)≠k:=fun e=>by rw [<-e,g4] at hk;cases hk
  rw [lN kE,lN kE];exact hk
 obtain ⟨v,i1,i2⟩:=X5 hS g2;have bG:∀ {k av},look post k=some av->100000<=k:=fun {k av} h1=>by rw [all_eq_true] at gF;exact Nat.le_of_ble_eq_true (gF k (f0 h1))
 have iV:=hS.sub g3.sub;have mT:SimG w U 0 post ⟨#[],[]⟩ (w'.putObj g (.deferred none)) D' kH:=⟨iV.below,rfl,rfl,fun d av h7 h8=>by have:=bG h7;omega,iV.fld,iV.fdis,iV.obj,iV.blk,iV.disj,iV.fix,iV.dlt⟩
 have gI:LeavesInM Fence.wide 1 P fn a''.tmps (fun e w'=>∃ v D' kH a',e = .returned v/\SimG w U 0 post a' w' D' kH/\AVRep (Us w U D') w' kH (a8 post) r v) [⟨.collected g,#[]⟩] .returning w':=
  ⟨(fun e=>by cases e),.inl ⟨g,_,rfl,run_takeDeferred h8,v,i1,v,D',kH,_,rfl,mT,i2.move (fun _ _ _ h1 h2=>⟨h1,h2⟩) (fun _ h7=>h7.imp id fun ⟨e,he⟩=>⟨e,g3.sub _ _ he.1,he.2⟩) fun _=>rfl⟩⟩
 rcases h1 with rfl | rfl
 ·exact gI
 ·exact gI
theorem c0V (nn:Nat) (hg:Gd w0 U0 nt ops o gs S) (hd:o.dst=some d) (hn:Nat.blt d nt=true) (h5:Nat.blt d 100000=true) {x:Operand} {ty:TypeId} {av:AV} (ho:o.op = .box ty x) (hx:ev S x=some av) (kD:Nat.beq av.sz 1=true) (fR:((Nat.beq av.t 0&&!Nat.beq av.c.k 2)||Nat.beq av.t 2||Nat.beq av.t 12||Nat.beq av.t 15)=true) (sL:(Nat.blt nn 100000||(Nat.ble 350000 nn&&Nat.blt nn 400000))=true) (eT:Nat.beq av.n nn=false) (hnf:∀ v,U0.f (100000+nn)=some v->False):AOp P w0 U0 nt ops o (gs++rd x) [(nn,[])] S [(d9 nn 0,av),(d,.bp nn 0 []),(100000+nn,.obj)]:=by
 intro s hs hN a w ⟨D,hv,h⟩ Q K hK;rw [if_pos (hg s (fun k hk=>hs k (mem_append_left _ hk)) a w D hv h)];have mU:=bL h5;have bH:BN nn:=by
  rcases Bool.or_eq_true_iff.1 sL with h1 | h1
  ·exact .inl (bL h1)
  ·rw [Bool.and_eq_true] at h1;exact .inr ⟨Nat.le_of_ble_eq_true h1.1,bL h1.2⟩
 have jV:=bH;unfold BN at jV;have gQ:=k9 h (fun k hk=>hs k (mem_append_right _ hk)) hx;have kU:(a.eval x).cells = #[a.eval x]:=by
  have vP:(av.t=0/\av.c.k≠2)\/(av.t≠0/\b3f av=true):=by
   simp only [Bool.or_eq_true,Bool.and_eq_true,Bool.not_eq_true'] at fR;rcases fR with ((⟨h1,h2⟩ | h1) | h1) | h1
   ·exact .inl ⟨Nat.eq_of_beq_eq_true h1,fun e=>by rw [e] at h2;cases h2⟩
   all_goals (refine .inr ⟨fun e=>(by rw [e] at h1;cases h1),?_⟩;unfold b3f;rw [h1];simp)
  rcases vP with ⟨h1,h2⟩ | ⟨h1,h2⟩
  ·unfold AVRep at gQ;rw [if_pos h1] at gQ;exact (b0q gQ.1 h2).1
  ·exact (a7p gQ h2 h1).1
 have he:(execOp a.eval o).run P w = .ok (.value (.pointer (some ⟨w.heap.size,0,none⟩))) (w.alloc (.cells #[a.eval x] ty)):=by generalize a.eval=ρ at kU |-;simp [execOp,ho,Instr.box,E0,kU]
 unfold Oper.wp;rw [he,Oper.upon_value,hd];have hr:=(hN (nn,[]) (by simp)).nr;have hG:=h.newboxN (d:=d) (av := .obj) bH hnf hr (bL hn) mU (.inr rfl) (xs:=[a.eval x]) ty (fun e=>by cases e) (fun e=>by cases e);have hb':Below w.heap.size w (w.alloc (.cells #[a.eval x] ty)):=(Below.refl _ _).alloc (Nat.le_refl _) _;have kL:a8 ((d,AV.bp nn 0 [])::(100000+nn,AV.obj)::s)=a8 s:=by funext n;simp only [a8,a6l (show d<200000 by omega) (show 100000+nn<200000\/400000<=100000+nn by omega)]
 refine hK _ _ ⟨D,_,hG.addF bH (by rw [lN (by omega),lS]) (by omega) (av:=av) (v:=a.eval x) ?_ ?_ ?_ ?_⟩
 ·rw [kL];refine gQ.move (N5 h.dlt hb' fun _ _ h=>h) (fun _ h=>h) fun h3=>?_;have fA:hk av≠100000+nn:=by refine a4B bH (fun n=>D9) ?_ h3;exact fun e=>by rw [e,Nat.beq_refl] at eT;cases eT
  simp only [if_neg fA]
 ·rw [kU,Nat.eq_of_beq_eq_true kD];rfl
 ·intro i hi;rw [kU] at hi |-;have hi:i=0:=by simp at hi;omega
  subst hi;simp only [if_true];show (w.alloc (.cells #[a.eval x] ty)).cell? ⟨w.heap.size,0+0,none⟩=_;have:=t7 w (.cells #[a.eval x] ty);simp only [World.cell?,this];simp
 ·intro o' av' h1 h2;exfalso;rw [lN (by unfold d9;omega),lN (by unfold d9;omega)] at h1;have:=(hr _ _ h1).2.1;rw [N6 h2] at this;exact this rfl
theorem zbi {P:Program} {w0:World} {U0:UX} {nt:Nat} {ops:Array Oper} {o:Oper} {S:Nat->Option AV} {gs:List Nat} {d:Nat} {x:Operand} {ty:TypeId} {av:AV} (nn:Nat) (p:Gd w0 U0 nt ops o gs S:=by exact gN rfl) (q:o.dst=some d:=by exact rfl) (r:Nat.blt d nt=true:=by exact rfl) (u:Nat.blt d 100000=true:=by exact rfl) (y:o.op = .box ty x:=by exact rfl) (z:ev S x=some av:=by exact rfl) (A:Nat.beq av.sz 1=true:=by exact rfl) (B:((Nat.beq av.t 0&&!Nat.beq av.c.k 2)||Nat.beq av.t 2||Nat.beq av.t 12||Nat.beq av.t 15)=true:=by exact rfl) (C:(Nat.blt nn 100000||(Nat.ble 350000 nn&&Nat.blt nn 400000))=true:=by exact rfl) (E:Nat.beq av.n nn=false:=by exact rfl) (F:∀ v,U0.f (100000+nn)=some v->False):AOp P w0 U0 nt ops o (gs++rd x) [(nn,[])] S [(d9 nn 0,av),(d,.bp nn 0 []),(100000+nn,.obj)]:=c0V nn p q r u y z A B C E F
theorem b4k (nn:Nat) (hg:Gd w0 U0 nt ops o gs S) (hd:o.dst=some d) (hn:Nat.blt d nt=true) (h5:Nat.blt d 100000=true) {ty:TypeId} {v:Value} {av:AV} (ho:o.op = .alloc ty) (hi:(P.info? ty).map (·.zero)=some (some v)) (gX:(v = .slice none 0 0/\av=⟨0,.lst [],1,0,[]⟩)\/(v.oneCell'=true/\av = .val (.sc v))) (sL:(Nat.blt nn 100000||(Nat.ble 350000 nn&&Nat.blt nn 400000))=true) (eT:Nat.beq 1 nn=false) (vQ:Nat.beq 0 nn=false) (hnf:∀ v,U0.f (100000+nn)=some v->False):AOp P w0 U0 nt ops o gs [(nn,[])] S [(d9 nn 0,av),(d,.bp nn 0 []),(100000+nn,.obj)]:=by
 intro s hs hN a w ⟨D,hv,h⟩ Q K hK;rw [if_pos (hg s hs a w D hv h)];have mU:=bL h5;have bH:BN nn:=by
  rcases Bool.or_eq_true_iff.1 sL with h1 | h1
  ·exact .inl (bL h1)
  ·rw [Bool.and_eq_true] at h1;exact .inr ⟨Nat.le_of_ble_eq_true h1.1,bL h1.2⟩
 have jV:=bH;unfold BN at jV;have gG:v.oneCell'=true:=by
  rcases gX with ⟨rfl,_⟩ | ⟨h1,_⟩
  ·rfl
  ·exact h1
 have kU:=a1X gG;obtain ⟨it,i1,i2⟩:∃ it,P.info? ty=some it/\it.zero=some v:=by
  cases e:P.info? ty with
  | none=>rw [e] at hi;cases hi
  | some it=>rw [e,Option.map_some] at hi;exact ⟨it,rfl,by injection hi⟩
 have he:(execOp a.eval o).run P w = .ok (.value (.pointer (some ⟨w.heap.size,0,none⟩))) (w.alloc (.cells #[v] ty)):=by simp [execOp,ho,Instr.alloc,zeroValue,typeInfo,i1,i2,E0,kU]
 unfold Oper.wp;rw [he,Oper.upon_value,hd];have hr:=(hN (nn,[]) (by simp)).nr;have hG:=h.newboxN (d:=d) (av := .obj) bH hnf hr (bL hn) mU (.inr rfl) (xs:=[v]) ty (fun e=>by cases e) (fun e=>by cases e);refine hK _ _ ⟨D,_,hG.addF bH (by rw [lN (by omega),lS]) (by omega) (av:=av) (v:=v) ?_ ?_ ?_ ?_⟩
 ·rcases gX with ⟨rfl,rfl⟩ | ⟨h1,rfl⟩
  ·exact ⟨l4.2 ⟨none,0,0,rfl,rfl,Nat.le_refl _,by decide,fun _=>⟨rfl,rfl⟩,[],.inl rfl,rfl⟩,fun _=>⟨0,.lst [],rfl,rfl⟩⟩
  ·exact q9 h1
 ·rw [kU];rcases gX with ⟨rfl,rfl⟩ | ⟨h1,rfl⟩<;>rfl
 ·intro i hi;rw [kU] at hi |-;have hi:i=0:=by simp at hi;omega
  subst hi;simp only [if_true];show (w.alloc (.cells #[v] ty)).cell? ⟨w.heap.size,0+0,none⟩=_;have:=t7 w (.cells #[v] ty);simp only [World.cell?,this];simp
 ·intro o' av' h1 h2;exfalso;rw [lN (by unfold d9;omega),lN (by unfold d9;omega)] at h1;have:=(hr _ _ h1).2.1;rw [N6 h2] at this;exact this rfl
theorem zbk {P:Program} {w0:World} {U0:UX} {nt:Nat} {ops:Array Oper} {o:Oper} {S:Nat->Option AV} {gs:List Nat} {d:Nat} {ty:TypeId} {v:Value} {av:AV} (nn:Nat) (p:Gd w0 U0 nt ops o gs S:=by exact gN rfl) (q:o.dst=some d:=by exact rfl) (r:Nat.blt d nt=true:=by exact rfl) (t:Nat.blt d 100000=true:=by exact rfl) (u:o.op = .alloc ty:=by exact rfl) (x:(P.info? ty).map (·.zero)=some (some v):=by exact rfl) (y:(v = .slice none 0 0/\av=⟨0,.lst [],1,0,[]⟩)\/(v.oneCell'=true/\av = .val (.sc v)):=by first | exact .inl ⟨rfl,rfl⟩ | exact .inr ⟨rfl,rfl⟩) (z:(Nat.blt nn 100000||(Nat.ble 350000 nn&&Nat.blt nn 400000))=true:=by exact rfl) (A:Nat.beq 1 nn=false:=by exact rfl) (B:Nat.beq 0 nn=false:=by exact rfl) (C:∀ v,U0.f (100000+nn)=some v->False):AOp P w0 U0 nt ops o gs [(nn,[])] S [(d9 nn 0,av),(d,.bp nn 0 []),(100000+nn,.obj)]:=b4k nn p q r t u x y z A B C
theorem c2v (nn:Nat) (hg:Gd w0 U0 nt ops o gs S) (hd:o.dst=some d) (hn:Nat.blt d nt=true) (h5:Nat.blt d 100000=true) {x y:Operand} {t e size bytes k:Nat} {z:Value} {i1 i2:Int} {k1 k2:IntKind} {n1 q1 p1 n2 q2 p2} (ho:o.op = .makeSlice t x y) (ht:P.underlying t=some (.slice e)) (hi:(P.info? e).map (fun i=>(i.zero,i.size,i.bytes))=some (some z,size,bytes)) (kD:Nat.blt 0 size=true) (eF:Nat.ble bytes 1000=true)
  (hx:ev S x=some ⟨0,.sc (.int k1 i1),n1,q1,p1⟩) (hy:ev S y=some ⟨0,.sc (.int k2 i2),n2,q2,p2⟩) (bR:(Nat.ble 200000 nn&&Nat.blt nn 400000)=true) (h1:i1=0) (h2:i2=(k:Int)) (bS:k<=1000000000) :
  AOp P w0 U0 nt ops o (gs++(rd x++rd y)) [(nn,[])] S [(d,.sl nn 0 0 size),(nn,.mrow e size [])]:=by
 intro s hs hN a w ⟨D,hv,h⟩ Q K hK;rw [if_pos (hg s (fun k hk=>hs k (mem_append_left _ hk)) a w D hv h)];have e1:=v7 h (fun k hk=>hs k (mem_append_right _ (mem_append_left _ hk))) hx;have e2:=v7 h (fun k hk=>hs k (mem_append_right _ (mem_append_right _ hk))) hy;subst h1;subst h2;obtain ⟨i,dC,iE,eL,lG⟩:=info_parts hi;have kD:=bL kD;have eF:=Nat.le_of_ble_eq_true eF;have pS:bytes*k<=1000*1000000000:=Nat.mul_le_mul eF bS;obtain ⟨w',r1,r2,r3⟩:=run_make_own (P:=P) (w:=w) w.heap.size t e i z size ht dC iE eL k1 k2 k (by rw [lG];omega) (by unfold maxLen;omega) (Nat.le_refl _);have dW:=rnB bR;have bC:∀ b o u,Us w0 U0 D b o->w.cell? ⟨b,o,none⟩=some u->Us w0 U0 D b o/\w'.cell? ⟨b,o,none⟩=some u:=fun b o u hu hc=>by refine ⟨hu,?_⟩;have kA:b<w.heap.size:=World.block_lt_of_cell? w _ hc;rw [World.cell?_of_block (w:=w) (r3.block b kA (by simp))];exact hc
 have hG:=h.newrow (avn := .mrow e size []) (v' := .slice (some ⟨w.heap.size,0,none⟩) 0 k) (D':=D) (X:=fun _=>False) (n:=nn) dW (hN (nn,[]) (by simp)).nr (by simp) ⟨r3.os,r3.tape,r3.output,r3.size,fun b hb hx=>r3.block b hb (by simp)⟩ (fun b hb=>hb.elim) (fun g hg=>by have hg:(Value.slice (some ⟨w.heap.size,0,none⟩) 0 k).ownBlock=some g:=hg;refine ⟨.inr (r2.lt g hg).1,(r2.lt g hg).2,fun o _ hd=>?_⟩;have:=(r2.lt g hg).1;have:=h.dlt _ _ hd;omega) (fun b o hd => .inl hd) (fun b o hd=>Nat.lt_of_lt_of_le (h.dlt _ _ hd) r3.size) bC (fun hv lv=>⟨[],s7 r2 (Nat.zero_le _),kD,(fun c hc=>by cases hc),rfl⟩)
 have he:(execOp a.eval o).run P w = .ok (.value (.slice (some ⟨w.heap.size,0,none⟩) 0 k)) w':=by generalize a.eval=ρ at e1 e2 |-;simp [execOp,ho,e1,e2,r1]
 unfold Oper.wp;rw [he,Oper.upon_value,hd];refine hK _ _ ⟨_,_,hG.put (bL hn) (bL h5) ⟨RW.rn dW,?_⟩⟩;show SlV ((fun x=>if x=nn then Value.slice (some ⟨w.heap.size,0,none⟩) 0 k else hv x) nn) 0 0 size _;simp only [if_true];exact N7 rfl (Nat.zero_le _) (.inr ⟨_,rfl⟩)
theorem zbl {P:Program} {w0:World} {U0:UX} {nt:Nat} {ops:Array Oper} {o:Oper} {S:Nat->Option AV} {gs:List Nat} {d:Nat} {x:Operand} {y:Operand} {t:Nat} {e:Nat} {size:Nat} {bytes:Nat} {k:Nat} {z:Value} {i1:Int} {i2:Int} {k1:IntKind} {k2:IntKind} {n1} {q1} {p1} {n2} {q2} {p2} (nn:Nat) (p:Gd w0 U0 nt ops o gs S:=by exact gN rfl) (q:o.dst=some d:=by exact rfl) (r:Nat.blt d nt=true:=by exact rfl) (v:Nat.blt d 100000=true:=by exact rfl) (A:o.op = .makeSlice t x y:=by exact rfl) (B:P.underlying t=some (.slice e):=by exact rfl) (C:(P.info? e).map (fun i=>(i.zero,i.size,i.bytes))=some (some z,size,bytes):=by exact rfl) (E:Nat.blt 0 size=true:=by exact rfl) (F:Nat.ble bytes 1000=true:=by exact rfl) (G:ev S x=some ⟨0,.sc (.int k1 i1),n1,q1,p1⟩:=by exact rfl) (H:ev S y=some ⟨0,.sc (.int k2 i2),n2,q2,p2⟩:=by exact rfl) (bR:(Nat.ble 200000 nn&&Nat.blt nn 400000)=true:=by exact rfl) (h1:i1=0:=by exact rfl) (h2:i2=(k:Int):=by first | rfl | omega | (simp only [length_set,length_map,length_append,length_cons,length_nil]<;>omega) | (simp<;>omega)) (bS:k<=1000000000:=by first | rfl | omega | (simp only [length_set,length_map,length_append,length_cons,length_nil]<;>omega) | (simp<;>omega)):AOp P w0 U0 nt ops o (gs++(rd x++rd y)) [(nn,[])] S [(d,.sl nn 0 0 size),(nn,.mrow e size [])]:=c2v nn p q r v A B C E F G H bR h1 h2 bS
end
theorem b5r {w:World} {l:Nat} {y:Obj} (hy:w.heap[l]?=some y) (pD:∀ xs ty fl,y ≠ .cells xs ty fl) {b o:Nat} {v:Value} (h:w.cell? ⟨b,o,none⟩=some v):b≠l:=by
 rintro rfl;cases y with
 | cells xs ty fl=>exact pD _ _ _ rfl
 | _=>simp [World.cell?,hy] at h
theorem a2S {w:World} {l:Nat} {y x:Obj} (h:w.heap[l]?=some y):(w.putObj l x).putObj l y=w:=by
 obtain ⟨kA,he⟩:=Array.getElem?_eq_some_iff.1 h;have:(w.heap.setIfInBounds l x).setIfInBounds l y=w.heap:=by
  refine Array.ext (by simp) fun i h1 h2=>?_;rw [Array.getElem_setIfInBounds,Array.getElem_setIfInBounds]
  ·split
   ·rename_i e;subst e;exact he.symm
   ·rfl
  ·simpa using h2
 unfold World.putObj;rw [this]
section
variable {P:Program} {w0:World} {U0:UX} {nt:Nat} {s:AS} {a:Act} {w:World} {D:Nat->Nat->Prop} {hv:Nat->Value}
theorem SimG.rebase (h:SimG w0 U0 nt s a w D hv) {l:Nat} {y:Obj} (hy:w0.heap[l]?=some y) (hx:¬ U0.x l) (pD:∀ xs ty fl,y ≠ .cells xs ty fl) (x:Obj):SimG (w0.putObj l x) U0 nt s a (w.putObj l x) D hv:=by
 have hl:l<w0.heap.size:=(Array.getElem?_eq_some_iff.1 hy).1;have jF:w.heap[l]?=some y:=(h.below.block l hl hx).trans hy;have kL:l<w.heap.size:=(Array.getElem?_eq_some_iff.1 jF).1;have kU:∀ b o v,w.cell? ⟨b,o,none⟩=some v->(w.putObj l x).cell? ⟨b,o,none⟩=some v:=fun b o v hc=>by rw [World.cell?_of_block (w:=w) (World.putObj_heap_other (b5r jF pD hc))];exact hc
 have hUs:Us (w0.putObj l x) U0 D=Us w0 U0 D:=by funext b o;unfold Us;rw [World.putObj_size]
 have hMn:∀ t g,Mn w0 U0 t g->Mn (w0.putObj l x) U0 t g:=fun t g h=>by unfold Mn at h |-;rw [World.putObj_size];exact h
 have kE:∀ k av g,look s k=some av->k7 k->av.t≠7->hb (hv k)=some g->g≠l:=fun k av g h1 h2 h3 h4 e=>by
  obtain ⟨g1,_,_⟩:=h.blk k av g h1 h2 h3 h4;subst e;rcases g1 with g1 | g1
  ·omega
  ·exact hx g1.2
 have hk:∀ b o v,Us w0 U0 D b o->w.cell? ⟨b,o,none⟩=some v->Us w0 U0 D b o/\(w.putObj l x).cell? ⟨b,o,none⟩=some v:=fun b o v h1 h2=>⟨h1,kU _ _ _ h2⟩
 refine ⟨⟨h.below.os,h.below.tape,h.below.output,by rw [World.putObj_size,World.putObj_size];exact h.below.size,fun k hk vR=>?_⟩,h.dfr,h.size,fun d av h1 h2=>?_,fun n o av h1 h2 h3 h4=>?_,h.fdis,fun k av h1 h2=>?_,fun k av g h1 h2 h3 h4=>?_,h.disj,h.fix,fun b o hd=>by rw [World.putObj_size];exact h.dlt b o hd⟩
 ·rw [World.putObj_size] at hk;by_cases e:k=l
  ·subst e;rw [World.putObj_heap_same kL,World.putObj_heap_same hl]
  ·rw [World.putObj_heap_other e,World.putObj_heap_other e];exact h.below.block k hk vR
 ·rw [hUs];obtain ⟨v,h3,h4⟩:=h.slot d av h1 h2;exact ⟨v,h3,h4.keep hk⟩
 ·rw [hUs];obtain ⟨v,h5,h6,h7⟩:=h.fld n o av h1 h2 h3 h4;refine ⟨v,h5.keep hk,h6,fun i hi=>?_⟩;have h8:=h7 i hi;rw [Array.getElem?_eq_getElem hi] at h8 |-;exact kU _ _ _ h8
 ·rw [hUs];by_cases h7:av.t=7
  ·exact a3K h7
  ·exact (h.obj k av h1 h2).move hk (fun _ h3=>⟨h3,rfl⟩) fun g hg=>World.putObj_heap_other (kE k av g h1 h2 h7 hg)
 ·rw [World.putObj_size];obtain ⟨g1,g2,g3⟩:=h.blk k av g h1 h2 h3 h4;exact ⟨hMn _ _ g1,g2,g3⟩
def a5m (P:Program) (w0:World) (U0:UX) (nt:Nat) (c:Code) (Q:Exit->AS->Prop) (s:AS):Prop:=
 ∀ M a w l₀ r₀,M.r=some l₀->w0.heap[l₀]?=some (.loop r₀)->¬ U0.x l₀->Sim w0 U0 nt s a w->WP P M c (fun e a' w'=>∃ s',Q e s'/\Sim w0 U0 nt s' a' w') a w
theorem b8l {c:Code} {Q:Exit->AS->Prop} (h:AWp P w0 U0 nt c Q s):a5m P w0 U0 nt c Q s:=fun M a w _ _ _ _ _ hs=>h M a w hs
theorem b3x {c:Code} {Q Q':Exit->AS->Prop} (h:a5m P w0 U0 nt c Q s) (hq:∀ e s,Q e s->Q' e s):a5m P w0 U0 nt c Q' s:=fun M a w l r h1 h2 h3 hs =>
 I3 (h M a w l r h1 h2 h3 hs) fun e a' w' ⟨s',g1,g2⟩=>⟨s',hq _ _ g1,g2⟩
theorem b2L {c:Code} {Q:Exit->AS->Prop} {s':AS} (h:Wk w0 U0 nt s s') (h2:a5m P w0 U0 nt c Q s'):a5m P w0 U0 nt c Q s:=fun M a w l r g1 g2 g3 hs=>h2 M a w l r g1 g2 g3 (h a w hs)
theorem b5g {x y:Code} {Q:Exit->AS->Prop} (h:AWp P w0 U0 nt x (fun e s'=>e = .normal/\a5m P w0 U0 nt y Q s') s):a5m P w0 U0 nt (.seq x y) Q s:=fun M a w l r h1 h2 h3 hs =>
 b7u (I3 (h M a w hs) fun e a' w' ⟨s',⟨he,hn⟩,gL⟩=>by subst he;exact hn M a' w' l r h1 h2 h3 gL)
theorem a3L {id:Nat} {c:Code} {Q:Exit->AS->Prop} (h:a5m P w0 U0 nt c (fun e s'=>e = .normal/\Q .normal s') s):a5m P w0 U0 nt (.block id c) Q s:=fun M a w l r h1 h2 h3 hs =>
 a9m (I3 (h M a w l r h1 h2 h3 hs) fun e a' w' ⟨s',⟨he,hn⟩,gL⟩=>by subst he;exact ⟨s',hn,gL⟩)
end
section
variable {α:Type} {P:Program}
theorem b3A {g:Operand} {ps:Array Tmp} {assign body:Code} {Q:Exit->Act->World->Prop} {a:Act} {w:World} {gf:Nat} {lb:Array Value}
  (hg:a.eval g = .func (.func gf) #[] lb) (eg:∀ args w,(callFunc gf args).run P w = .ok (.enter gf args) w)
  {encs:α->Array Value} {Ok:List α->α->Prop} {Kp:World->World->Prop} {S:List α->Prop} (fO:Z9 P gf lb encs (fun pre x _=>Ok pre x) Kp S w)
  (iK:∀ {A B C:World},Kp A B->Kp B C->Kp A C)
  (iL:∀ (W:World) (l:Nat) (o':Obj),w.heap.size<=l->Kp W (W.putObj l o'))
  (gW:∀ x,(encs x).size=ps.size) (I:List α->World->Prop) (hI:∀ pre A B,I pre A->Below A.heap.size A B->I pre B)
  (dP:∀ (pre:List α) (A:World) (r r':Loop),I pre A->A.heap[w.heap.size+1]?=some (.loop r)->I pre (A.putObj (w.heap.size+1) (.loop r')))
  (h0:∀ r:Loop,I [] ((w.alloc (.deferred (some []))).alloc (.loop r)))
  (gJ:∀ (pre:List α) (x:α) (W:World) (r0:Loop),I pre W->Ok pre x->w.heap.size+2<=W.heap.size->W.heap[w.heap.size+1]?=some (.loop r0) ->
   assign.wpIn (Fence.wide.inRound (w.heap.size+1)) 1 P (Exit.then (fun a' W'=>W'.heap[w.heap.size+1]?=some (.loop r0)/\W'.heap[w.heap.size]?=W.heap[w.heap.size]?/\Kp W W' /\
    ∀ rb:Loop,body.wpIn (Fence.wide.inRound (w.heap.size+1)) 1 P (a5Y (w.heap.size+1) w.heap.size Kp (I (pre++[x])) (W'.putObj (w.heap.size+1) (.loop rb))) a' (W'.putObj (w.heap.size+1) (.loop rb))) (fun _ _ _=>False))
    { tmps:=(ps.zip (encs x)).foldl (fun t (p,v)=>t.setIfInBounds p v) a.tmps,defers:=[] } W)
  (bE:∀ (xs:List α) (W:World),S xs->I xs W->W.heap[w.heap.size]?=some (.deferred (some []))->Q .normal { a with defers:={ target := .collected w.heap.size,args := #[] }::a.defers } W) :
  (Code.rangeFunc g ps assign body).wpIn Fence.wide 3 P Q a w:=by
 refine wpIn_rangeFunc fun fn dS=>?_;obtain ⟨D,hD⟩:∃ D,D=w.heap.size:=⟨_,rfl⟩
 rw [<-hD] at dP gJ bE iL;obtain ⟨W1,cP⟩:∃ W1,W1=(w.alloc (.deferred (some []))).alloc (.loop (p6 fn a.tmps ps assign body D .ready)):=⟨_,rfl⟩
 have below1:Below w.heap.size w W1:=by rw [cP];exact ((Below.refl _ w).alloc (Nat.le_refl _) _).alloc (by simp) _
 have atL:W1.heap[D+1]?=some (.loop (p6 fn a.tmps ps assign body D .ready)):=by have:=World.alloc_heap_new (w.alloc (.deferred (some []))) (.loop (p6 fn a.tmps ps assign body D .ready));rw [World.size_alloc,<-hD,<-cP] at this;exact this
 have atD:W1.heap[D]?=some (.deferred (some [])):=by have h:=World.alloc_heap_new w (.deferred (some []));rw [<-hD] at h;rw [cP,Below.heap_alloc _ _ _ (by simp;omega)];exact h
 refine ⟨D+1,[{ target := .collected D,args := #[] }],W1,{ target := .fn (.func gf) lb,args := #[.func (.yield (D+1)) #[] #[]] },W1,gf,#[.func (.yield (D+1)) #[] #[]]++lb,W1,?_,?_,fun _ _=>trivial,?_,(fun _=>by omega),?_⟩
 ·rw [cP,hD];exact run_enterLoop_outer _ _ _ _ _
 ·simp only [resolve,hg];simp [go_sem]
 ·simp [invoke,go_sem,eg]
 refine (fO (D+1) (fun pre V=>I pre V/\V.heap[D+1]?=some (.loop (p6 fn a.tmps ps assign body D .ready))/\V.heap[D]?=some (.deferred (some []))) W1 below1 ?abides ?rounds ⟨by rw [cP];exact h0 _,atL,atD⟩).mono ?after
 case abides =>
  rintro pre A B ⟨h1,h2,h3⟩ hb;exact ⟨hI _ _ _ h1 hb,(hb.block _ (Array.getElem?_eq_some_iff.1 h2).1).trans h2,(hb.block _ (Array.getElem?_eq_some_iff.1 h3).1).trans h3⟩
 case rounds =>
  rintro pre x V ⟨h1,h2,h3⟩ hx;have kA:=(Array.getElem?_eq_some_iff.1 h2).1;have hy:=run_yield (P:=P) (args:=encs x) h2 (gW x);refine ⟨fn,_,assign,body,hy,roundIn_of_wpIn dS (wpIn_mono (gJ pre x V _ h1 hx (by omega) h2) ?_)⟩;rintro e a' W' hp;cases e with
  | normal =>
   obtain ⟨p1,p2,p3,p4⟩:=hp;have jQ:=(Array.getElem?_eq_some_iff.1 p1).1;have u1:W'.heap[D]?=some (.deferred (some [])):=p2.trans h3;refine ⟨_,run_beginRound p1 rfl,?_⟩;have b2:(W'.putObj (D+1) (.loop (p6 fn a.tmps ps assign body D .busy))).heap[D+1]?=some (.loop (p6 fn a.tmps ps assign body D .busy)):=World.putObj_heap_same jQ;have b3:(W'.putObj (D+1) (.loop (p6 fn a.tmps ps assign body D .busy))).heap[D]?=some (.deferred (some [])):=(World.putObj_heap_other (by omega)).trans u1;refine wpIn_mono (p4 (p6 fn a.tmps ps assign body D .busy)) ?_;rintro e a3 U hp;cases e with
   | normal =>
    obtain ⟨k0,k1,k2,k3⟩:=hp;have u2:=k0.trans b2;have u3:=k1.trans b3;have hr:=run_endRound (P:=P) none u2;refine ⟨_,_,hr,rfl,⟨dP _ _ _ _ k3 u2,World.putObj_heap_same (Array.getElem?_eq_some_iff.1 u2).1,(World.putObj_heap_other (by omega)).trans u3⟩,?_⟩;exact iK p3 (iK (iK (iL _ _ _ (by omega)) k2) (iL _ _ _ (by omega)))
   | ret=>exact hp.elim
   | exit _=>exact hp.elim
   | goto _=>exact hp.elim
   | panic _=>exact hp.elim
   | outgrown=>exact hp.elim
  | ret=>exact hp.elim
  | exit _=>exact hp.elim
  | goto _=>exact hp.elim
  | panic _=>exact hp.elim
  | outgrown=>exact hp.elim
 case after =>
  rintro e V ⟨⟨v,rfl⟩,xs,hS,h1,h2,h3⟩;exact ⟨none,_,run_endLoop (P:=P) h2 (by simp [p6]),bE xs _ hS (dP _ _ _ _ h1 h2) ((World.putObj_heap_other (by omega)).trans h3)⟩
def b3N (L:Nat) (Kp:World->World->Prop) (I:World->Prop) (W:World):Exit->Act->World->Prop
 | .normal,_,W'=>W'.heap[L]?=W.heap[L]?/\Kp W W'/\I W'
 | _,_,_=>False
theorem b3F {g:Operand} {ps:Array Tmp} {assign body:Code} {Q:Exit->Act->World->Prop} {a:Act} {w:World} {gf:Nat} {lb:Array Value} {l₀:Nat} {r₀:Loop} (hl₀:w.heap[l₀]?=some (.loop r₀))
  (hg:a.eval g = .func (.func gf) #[] lb) (eg:∀ args w,(callFunc gf args).run P w = .ok (.enter gf args) w)
  {encs:α->Array Value} {Ok:List α->α->Prop} {Kp:World->World->Prop} {S:List α->Prop} (fO:Z9 P gf lb encs (fun pre x _=>Ok pre x) Kp S w)
  (iK:∀ {A B C:World},Kp A B->Kp B C->Kp A C)
  (iL:∀ (W:World) (l:Nat) (o':Obj),w.heap.size<=l->Kp W (W.putObj l o'))
  (gW:∀ x,(encs x).size=ps.size) (I:List α->World->Prop) (hI:∀ pre A B,I pre A->Below A.heap.size A B->I pre B)
  (dP:∀ (pre:List α) (A:World) (r r':Loop),I pre A->A.heap[w.heap.size]?=some (.loop r)->I pre (A.putObj w.heap.size (.loop r')))
  (h0:∀ r:Loop,I [] (w.alloc (.loop r)))
  (gJ:∀ (pre:List α) (x:α) (W:World) (r0:Loop),I pre W->Ok pre x->w.heap.size+1<=W.heap.size->W.heap[w.heap.size]?=some (.loop r0) ->
   assign.wpIn (Fence.wide.inRound w.heap.size) 1 P (Exit.then (fun a' W'=>W'.heap[w.heap.size]?=some (.loop r0)/\Kp W W' /\
    ∀ rb:Loop,body.wpIn (Fence.wide.inRound w.heap.size) 1 P (b3N w.heap.size Kp (I (pre++[x])) (W'.putObj w.heap.size (.loop rb))) a' (W'.putObj w.heap.size (.loop rb))) (fun _ _ _=>False))
    { tmps:=(ps.zip (encs x)).foldl (fun t (p,v)=>t.setIfInBounds p v) a.tmps,defers:=[] } W)
  (bE:∀ (xs:List α) (W:World),S xs->I xs W->Q .normal a W) :
  (Code.rangeFunc g ps assign body).wpIn (B2 (some l₀)) 3 P Q a w:=by
 refine wpIn_rangeFunc fun fn dS=>?_;obtain ⟨D,hD⟩:∃ D,D=w.heap.size:=⟨_,rfl⟩
 rw [<-hD] at dP gJ iL;obtain ⟨W1,cP⟩:∃ W1,W1=w.alloc (.loop (p6 fn a.tmps ps assign body r₀.defers .ready)):=⟨_,rfl⟩
 have below1:Below w.heap.size w W1:=by rw [cP];exact (Below.refl _ w).alloc (Nat.le_refl _) _
 have atL:W1.heap[D]?=some (.loop (p6 fn a.tmps ps assign body r₀.defers .ready)):=by have:=World.alloc_heap_new w (.loop (p6 fn a.tmps ps assign body r₀.defers .ready));rw [<-hD,<-cP] at this;exact this
 refine ⟨D,[],W1,{ target := .fn (.func gf) lb,args := #[.func (.yield D) #[] #[]] },W1,gf,#[.func (.yield D) #[] #[]]++lb,W1,?_,?_,fun _ _=>trivial,?_,(fun _=>by omega),?_⟩
 ·rw [cP,hD];exact run_enterLoop_inner hl₀ _ _ _ _ _
 ·simp only [resolve,hg];simp [go_sem]
 ·simp [invoke,go_sem,eg]
 show CallsIn Fence.wide 2 P gf _ _ _;refine (fO D (fun pre V=>I pre V/\V.heap[D]?=some (.loop (p6 fn a.tmps ps assign body r₀.defers .ready))) W1 below1 ?abides ?rounds ⟨by rw [cP];exact h0 _,atL⟩).mono ?after
 case abides =>
  rintro pre A B ⟨h1,h2⟩ hb;exact ⟨hI _ _ _ h1 hb,(hb.block _ (Array.getElem?_eq_some_iff.1 h2).1).trans h2⟩
 case rounds =>
  rintro pre x V ⟨h1,h2⟩ hx;have kA:=(Array.getElem?_eq_some_iff.1 h2).1;have hy:=run_yield (P:=P) (args:=encs x) h2 (gW x);refine ⟨fn,_,assign,body,hy,roundIn_of_wpIn dS (wpIn_mono (gJ pre x V _ h1 hx (by omega) h2) ?_)⟩;rintro e a' W' hp;cases e with
  | normal =>
   obtain ⟨p1,p3,p4⟩:=hp;have jQ:=(Array.getElem?_eq_some_iff.1 p1).1;refine ⟨_,run_beginRound p1 rfl,?_⟩;have b2:(W'.putObj D (.loop (p6 fn a.tmps ps assign body r₀.defers .busy))).heap[D]?=some (.loop (p6 fn a.tmps ps assign body r₀.defers .busy)):=World.putObj_heap_same jQ;refine wpIn_mono (p4 (p6 fn a.tmps ps assign body r₀.defers .busy)) ?_;rintro e a3 U hp;cases e with
   | normal =>
    obtain ⟨k0,k2,k3⟩:=hp;have u2:=k0.trans b2;have hr:=run_endRound (P:=P) none u2;refine ⟨_,_,hr,rfl,⟨dP _ _ _ _ k3 u2,World.putObj_heap_same (Array.getElem?_eq_some_iff.1 u2).1⟩,?_⟩;exact iK p3 (iK (iK (iL _ _ _ (by omega)) k2) (iL _ _ _ (by omega)))
   | ret=>exact hp.elim
   | exit _=>exact hp.elim
   | goto _=>exact hp.elim
   | panic _=>exact hp.elim
   | outgrown=>exact hp.elim
  | ret=>exact hp.elim
  | exit _=>exact hp.elim
  | goto _=>exact hp.elim
  | panic _=>exact hp.elim
  | outgrown=>exact hp.elim
 case after =>
  rintro e V ⟨⟨v,rfl⟩,xs,hS,h1,h2⟩;exact ⟨none,_,run_endLoop (P:=P) h2 (by simp [p6]),bE xs _ hS (dP _ _ _ _ h1 h2)⟩
end
theorem L7 {P1 P2:List Nat}:∀ {ks:List Nat} {q:Nat×List Nat},q∈E4 P1 P2 ks->q.2=P1++P2
 | [],q,h=>by cases h
 | y::ys,q,h=>by
  unfold E4 at h;split at h
  ·exact L7 h
  ·rcases mem_cons.1 h with rfl | h
   ·rfl
   ·exact L7 h
  ·exact L7 h
  ·rcases mem_cons.1 h with rfl | h
   ·rfl
   ·exact L7 h
  ·rcases mem_cons.1 h with rfl | h
   ·rfl
   ·exact L7 h
  ·rcases mem_cons.1 h with rfl | h
   ·rfl
   ·exact L7 h
theorem a8S:∀ (nt:Nat) (ps:List Tmp) (cs:List CV) (sl:AS),(ps.all fun p=>Nat.blt p nt&&Nat.blt p 100000)=true->(kO sl).all (fun k=>Nat.blt k 100000)=true->(kO (a9N ps cs sl)).all (fun k=>Nat.blt k 100000)=true
 | nt,[],cs,sl,_,h=>by cases cs<;>exact h
 | nt,p::ps,[],sl,h1,h2=>h2
 | nt,p::ps,c::cs,sl,h1,h2=>by
  rw [all_cons,Bool.and_eq_true] at h1;have h3:=h1.1;rw [Bool.and_eq_true] at h3;refine a8S nt ps cs ((p,.val c)::sl) h1.2 ?_;show ((p::kO sl).all _)=true;rw [all_cons,Bool.and_eq_true];exact ⟨h3.2,h2⟩
section
variable {P:Program} {w0:World} {U0:UX} {nt:Nat} {s:AS} {a:Act} {W:World} {D:Nat->Nat->Prop} {hv:Nat->Value}
theorem a7X {ob lp:AS} (hS:SimG w0 U0 nt (ob++lp) a W D hv) (kX:ob.all E2=true) (mE:((kO ob).all fun k=>Nat.ble 300000 k)=true) {V:UX} (v3:∀ b,V.x b↔∃ k av,look ob k=some av/\k7 k/\hb (hv k)=some b) {b kk o:Nat} (kS:kk=299998\/kk=299999) (h9:look (ob++lp) kk=some (.ob b o)):¬ V.x b:=fun hb=>by
 obtain ⟨q,av,g1,g2,g3⟩:=(v3 b).1 hb;have hq:300000<=q:=Nat.le_of_ble_eq_true (all_eq_true.1 mE q (f0 g1));have gX:av.t≠7:=by
  have h3:=G1 kX g1;unfold E2 at h3;unfold k7 at g2;have h4:Nat.ble 500000 q=false:=by
   cases e:Nat.ble 500000 q with
   | false=>rfl
   | true=>have:=Nat.le_of_ble_eq_true e;omega
  simp only [h4,Bool.and_eq_true,Bool.not_eq_true'] at h3;intro e;rw [e] at h3;exact absurd h3.1.2 (by decide)
 have oH:k7 kk:=by unfold k7;omega
 have hO:OX (Us w0 U0 D) W (.ob b o) (hv kk):=hS.obj kk (.ob b o) h9 oH;have hval:hv kk = .pointer (some ⟨b,0,none⟩):=(hO.2.1 rfl).1;have kQ:look (ob++lp) q=some av:=by rw [b5,g1];rfl
 exact hS.disj q kk av _ b kQ h9 g2 oH gX (fun e=>by cases e) (by omega) g3 (by rw [hval];rfl)
theorem b2H {ob lp:AS} (hS:SimG w0 U0 nt (ob++lp) a W D hv) (kX:ob.all E2=true) {V:UX} (v3:∀ b,V.x b↔∃ k av,look ob k=some av/\k7 k/\hb (hv k)=some b) {b o:Nat} (mS:Us w0 U0 D b o):¬ V.x b:=fun hb=>by
 obtain ⟨q,av,g1,g2,g3⟩:=(v3 b).1 hb;have gX:av.t≠7/\av.t≠6:=by
  have h3:=G1 kX g1;unfold E2 at h3;unfold k7 at g2;have h4:Nat.ble 500000 q=false:=by
   cases e:Nat.ble 500000 q with
   | false=>rfl
   | true=>have:=Nat.le_of_ble_eq_true e;omega
  simp only [h4,Bool.and_eq_true,Bool.not_eq_true'] at h3;exact ⟨(fun e=>by rw [e] at h3;exact absurd h3.1.2 (by decide)),(fun e=>by rw [e] at h3;exact absurd h3.1.1.2 (by decide))⟩
 have kQ:look (ob++lp) q=some av:=by rw [b5,g1];rfl
 obtain ⟨f1,f2,f3⟩:=hS.blk q av b kQ g2 gX.1 g3;exact a3b mS f1 (f3 o fun e=>absurd e gX.2) rfl
theorem a3D {ps:List Tmp} {assign body:Code} {sl:AS} {ob ob':AS} {lp:AS} {L:Nat} {r0:Loop} {cs:List CV} {vs:List Value} {V:UX}
  (hS:SimG w0 U0 nt (ob++lp) a W D hv) (hL:look lp 299998=some (.ob L 1)) (qV:W.heap[L]?=some (.loop r0))
  (v2:SimG W V 0 ob ⟨#[],[]⟩ W (fun _ _=>False) hv) (v3:∀ b,V.x b↔∃ k av,look ob k=some av/\k7 k/\hb (hv k)=some b) (v4:∀ k,l6 (kO ob) k=true->400000<=k->k<500000->V.f k=some (hv k)) (v5:∀ b o,V.m b o↔Us w0 U0 D b o)
  (v6:∀ b o u,Us w0 U0 D b o->W.cell? ⟨b,o,none⟩=some u->Us W V (fun _ _=>False) b o/\W.cell? ⟨b,o,none⟩=some u)
  (gW:(ps.all fun p=>Nat.blt p nt&&Nat.blt p 100000)=true) (cT:(kO sl).all (fun k=>Nat.blt k 100000)=true) (dQ:∀ d av,look sl d=some av->look (ob++lp) d=some av)
  (kX:ob.all E2=true) (gI:ob'.all (F6 (kO ob'))=true) (kM:kO ob'=kO ob) (mE:((kO ob).all fun k=>Nat.ble 300000 k)=true)
  (mV:∀ q∈E4 (kO ob) (kO ob) (kO ob),NoRefE lp q)
  (cF:VReps (Us W V (fun _ _=>False)) W cs vs)
  (gJ:AWp P W V nt assign (fun e s1=>e = .normal/\∀ w',a5m P w' V nt body (fun e s'=>e = .normal/\Wk w' V nt s' ob') s1) (a9N ps cs sl++ob)) :
  assign.wpIn (B2 (some L)) 1 P (Exit.then (fun a' W'=>W'.heap[L]?=some (.loop r0)/\(∀ b,b<W.heap.size->¬ V.x b->W'.heap[b]?=W.heap[b]?) /\
   ∀ rb:Loop,body.wpIn (B2 (some L)) 1 P (fun e a3 W3=>e = .normal/\W3.heap[L]?=some (.loop rb)/\(∀ b,b<W.heap.size->¬ V.x b->W3.heap[b]?=(W.putObj L (.loop rb)).heap[b]?)/\W.heap.size<=W3.heap.size/\∃ D2 gU,(∀ b o,D b o->D2 b o)/\SimG w0 U0 nt (ob'++lp) a W3 D2 gU) a' (W'.putObj L (.loop rb))) (fun _ _ _=>False))
   ⟨a4r ps vs a.tmps,[]⟩ W:=by
 have kA:L<W.heap.size:=(Array.getElem?_eq_some_iff.1 qV).1;have cU:∀ {av k'},look ob k'=some av->300000<=k':=fun {av k'} h1=>Nat.le_of_ble_eq_true (all_eq_true.1 mE k' (f0 h1));have dL:∀ {k':Nat},k'<300000->look (ob++lp) k'=look lp k':=fun {k'} h1=>by
  rw [b5];cases e:look ob k' with
  | none=>rfl
  | some av=>have:=cU e;omega
 have oI:¬ V.x L:=a7X hS kX mE v3 (.inl rfl) (by rw [dL (by omega)];exact hL);have oJ:∀ (r:Loop) xs ty fl,Obj.loop r ≠ .cells xs ty fl:=fun r xs ty fl e=>by cases e
 have iT:((kO ob).all (Nat.ble 100000))=true:=by rw [all_eq_true];intro q hq;have:=Nat.le_of_ble_eq_true (all_eq_true.1 mE q hq);exact Nat.ble_eq_true_of_le (by omega)
 have sP:SlOk (fun av v=>AVRep (Us W V (fun _ _=>False)) W hv (a8 ob) av v) sl a.tmps:=fun d av h1=>by
  have mU:d<100000:=by rw [all_eq_true] at cT;exact bL (cT d (f0 h1))
  obtain ⟨v,h3,h4⟩:=hS.slot d av (dQ d av h1) mU;exact ⟨v,h3,h4.move v6 (fun _ h5=>h5.imp id fun ⟨e,he⟩=>⟨e,by rw [b5,he.1];rfl,he.2⟩) fun _=>rfl⟩
 have mF:=sP.parV (U:=Us W V (fun _ _=>False)) (w:=W) (fun c v h=>l5 h) (ps:=ps) (cs:=cs) (vs:=vs) (by
  rw [all_eq_true] at gW |-;intro p hp;have:=gW p hp;rw [Bool.and_eq_true] at this;rw [hS.size];exact this.1) cF
 have hF:=v2.frame (nt:=nt) iT (a8S nt ps cs sl gW cT) (tmps:=a4r ps vs a.tmps) (by rw [mF.2];exact hS.size) mF.1;refine wpIn_mono (gJ ⟨some L,[]⟩ _ W ⟨_,hv,hF⟩) ?_;rintro e a' W' ⟨a'',rfl,s1,⟨rfl,bS⟩,D1,gG,h1⟩;refine ⟨(h1.below.block L kA oI).trans qV,fun b hb hx=>h1.below.block b hb hx,fun rb=>?_⟩;have h2:=h1.rebase qV oI (oJ _) (.loop rb);refine wpIn_mono (bS (W.putObj L (.loop rb)) ⟨some L,[]⟩ a'' _ L rb rfl (World.putObj_heap_same kA) oI ⟨_,_,h2⟩) ?_;rintro e a3 W3 ⟨a4,rfl,s2,⟨rfl,hw⟩,fP⟩;obtain ⟨D3,oK,h3⟩:=hw a4 W3 fP;have h4:=h3.bare (post:=ob') (fun _ _ h=>h) (by rw [kM];exact iT);have e3:W3.heap[L]?=some (.loop rb):=(h4.below.block L (by rw [World.putObj_size];exact kA) oI).trans (World.putObj_heap_same kA);refine ⟨rfl,e3,fun b hb hx=>h4.below.block b (by rw [World.putObj_size];exact hb) hx,by have:=h4.below.size;rw [World.putObj_size] at this;exact this,?_⟩;have h5:=h4.rebase (l:=L) (y := .loop rb) (World.putObj_heap_same kA) oI (oJ _) (.loop r0);rw [a2S qV] at h5;obtain ⟨D2,gU,h9,_,nW⟩:=hS.back (fun k' av h1=>by rw [b5,h1];rfl) kX gI (by rw [kM,all_eq_true];intro q hq;exact r8 hq) (fun q hq=>by
  rw [kM] at hq;intro kk av kS jO;rw [b5] at kS;cases e:look ob kk with
  | some av' =>
   exfalso;have eI:l6 q.2 kk=true:=by rw [L7 hq];exact r8 (mem_append_left _ (f0 e))
   rw [eI] at jO;cases jO
  | none =>
   rw [e] at kS;exact mV q hq kk av kS jO) (fun q v hq1 eB=>by rw [kM] at eB;exact eB) v3 v4 v5 v2 h5
 have kS:look (ob'++(ob++lp)) 299998=some (.ob L 1):=by
  rw [b5];cases e:look ob' 299998 with
  | none=>rw [Option.none_or,dL (by omega)];exact hL
  | some av =>
   have h1:=f0 e;rw [kM] at h1;obtain ⟨av2,h2⟩:=I0 h1;have:=cU h2;omega
 obtain ⟨eR,_⟩:=h9.putob (n:=299998) (o:=1) (o':=1) (by unfold RW;omega) kS (x := .loop rb) (oJ _) (fun e=>by cases e);have hlt3:L<W3.heap.size:=(Array.getElem?_eq_some_iff.1 e3).1;rw [a2S e3] at eR;refine ⟨D2,gU,nW,eR.sub fun q av hq=>?_⟩;rw [b5] at hq;rw [d8];split
 ·rename_i e;subst e;rw [b5] at kS;cases e:look ob' 299998 with
  | some av' =>
   have h1:=f0 e;rw [kM] at h1;obtain ⟨av2,h2⟩:=I0 h1;have:=cU h2;omega
  | none =>
   rw [e,Option.none_or,hL] at hq;exact hq
 ·rw [b5];cases e:look ob' q with
  | some av'=>rw [e] at hq;exact hq
  | none =>
   rw [e] at hq;have hq:look lp q=some av:=hq;rw [Option.none_or,b5];cases e2:look ob q with
   | none=>exact hq
   | some av' =>
    exfalso;have h1:=f0 e2;rw [<-kM] at h1;obtain ⟨av2,h2⟩:=I0 h1;rw [e] at h2;cases h2
end
section
variable {P:Program} {w0:World} {U0:UX} {nt:Nat} {s:AS}
theorem a8Q {α:Type} {g:Operand} {ps:List Tmp} {assign body:Code} {gf:Nat} {caps:List CV} {encC:α->List CV} {xs:List α} {n1 q1 p1} (ob:Nat->AS) (sl:AS)
  (iA:ev (look s) g=some ⟨0,.fn gf 0 caps,n1,q1,p1⟩) (iR:a9T P gf) (hG:b1U P gf caps ps.length encC xs)
  (gW:(ps.all fun p=>Nat.blt p nt&&Nat.blt p 100000)=true)
  (dQ:SubL s sl) (cT:(kO sl).all (fun k=>Nat.blt k 100000)=true) (oG:SubL s (ob 0))
  (kX:∀ k,(ob k).all E2=true) (gI:∀ k,(ob k).all (F6 (kO (ob k)))=true) (kM:∀ k,kO (ob k)=kO (ob 0))
  (mE:((kO (ob 0)).all fun k=>Nat.ble 300000 k)=true) (jR:A6 s ((299999,[])::(299998,[])::E4 (kO (ob 0)) (kO (ob 0)) (kO (ob 0)))=true)
  (jC:((E4 (kO (ob 0)) (kO (ob 0)) (kO (ob 0))).all fun q=>!Nat.beq q.1 0&&(!Nat.beq q.1 100000&&!Nat.beq q.1 1100000))=true)
  (gJ:∀ k x,xs[k]?=some x->∀ (w:World) (U:UX),(∀ k' v,U.f k'=some v->l6 (kO (ob k)) k'=true)->AWp P w U nt assign (fun e s1=>e = .normal/\∀ w',a5m P w' U nt body (fun e s'=>e = .normal/\Wk w' U nt s' (ob (k+1))) s1) (a9N ps (encC x) sl++ob k)) :
  a3f P w0 U0 nt (.rangeFunc g ps.toArray assign body) (fun e s' m=>e = .normal/\s'=ob xs.length++((299998,.ob (m+1) 1)::(299999,.ob m 0)::s)) s:=by
 rintro a w ⟨D0,lO,h⟩;obtain ⟨ys,lb,e1,e2,e3,e4⟩:=T6.1 (A0 h (fun k _=>rfl) iA);have eA:ys=[]:=eq_nil_of_length_eq_zero e2;subst eA;have iS:VReps (Us w0 U0 D0) w caps lb:=P7 e4 (by simpa using e3);obtain ⟨vals,bQ,cW,hGv⟩:=hG w lb (Us w0 U0 D0) iS;have kA:∀ {V:World} {b:Nat},V.heap[b]?=w.heap[b]?->b<w.heap.size->b<V.heap.size:=fun {V b} h1 h2=>by
  rcases Nat.lt_or_ge b V.heap.size with h | h
  ·exact h
  ·rw [Array.getElem?_eq_none h,Array.getElem?_eq_getElem h2] at h1;cases h1
 obtain ⟨lp,cG⟩:∃ lp:AS,lp=(299998,AV.ob (w.heap.size+1) 1)::(299999,AV.ob w.heap.size 0)::s:=⟨_,rfl⟩
 have mV:=q7 jR;have iW:∀ k,((kO (ob k)).all fun k=>Nat.ble 300000 k)=true:=fun k=>by rw [kM k];exact mE
 have cU:∀ {k av k'},look (ob k) k'=some av->300000<=k':=fun {k av k'} h1=>Nat.le_of_ble_eq_true (all_eq_true.1 (iW k) k' (f0 h1));have hL:look lp 299998=some (.ob (w.heap.size+1) 1):=by rw [cG,lS]
 have vO:look lp 299999=some (.ob w.heap.size 0):=by rw [cG,lN (by omega),lS]
 have dL:∀ {k k':Nat},k'<300000->look (ob k++lp) k'=look lp k':=fun {k k'} h1=>by
  rw [b5];cases e:look (ob k) k' with
  | none=>rfl
  | some av=>have:=cU e;omega
 have dB:∀ k,Sub (ob k++lp) (ob k):=fun k k' av h1=>by rw [b5,h1];rfl
 let I:List Nat->World->Prop:=fun pre V=>∃ D hv,(∀ b o,D0 b o->D b o)/\KpX w.heap.size (fun b=>¬ ∃ o,Us w0 U0 D0 b o) w V/\SimG w0 U0 nt (ob pre.length++lp) a V D hv
 have dP:∀ (pre:List Nat) (A:World) (r r':Loop),I pre A->A.heap[w.heap.size+1]?=some (.loop r)->I pre (A.putObj (w.heap.size+1) (.loop r')):=by
  rintro pre A r r' ⟨D,hv,hd,hK,hS⟩ hr;obtain ⟨h1,_⟩:=hS.putob (n:=299998) (o:=1) (o':=1) (by unfold RW;omega) (by rw [dL (by omega)];exact hL) (x := .loop r') (fun _ _ _ e=>by cases e) (fun e=>by cases e);refine ⟨D,hv,hd,fun b hb hx=>(World.putObj_heap_other (by omega)).trans (hK b hb hx),h1.congr fun k=>?_⟩;rw [d8];split
  ·rename_i e;subst e;rw [dL (by omega)];exact hL
  ·rfl
 have h0:∀ r:Loop,I [] ((w.alloc (.deferred (some []))).alloc (.loop r)):=fun r=>by
  have h1:=h.newob (n:=299999) (o:=0) (by unfold RW;omega) (mV (299999,[]) (by simp)).nr (x := .deferred (some [])) (fun _ _ _ e=>by cases e) (fun _=>rfl);have sO:R8 ((299999,AV.ob w.heap.size 0)::s) 299998:=fun k av hk=>by
   rw [d8] at hk;split at hk
   ·rename_i e;subst e;cases hk;exact ⟨by show (0:Nat)≠299998;decide,by decide,by decide⟩
   ·exact (mV (299998,[]) (by simp)).nr k av hk
  have h2:=h1.newob (n:=299998) (o:=1) (by unfold RW;omega) sO (x := .loop r) (fun _ _ _ e=>by cases e) (fun e=>by cases e);rw [show (w.alloc (.deferred (some []))).heap.size=w.heap.size+1 by simp,<-cG] at h2;refine ⟨D0,_,fun _ _ h=>h,fun b hb _=>(((Below.refl _ w).alloc (Nat.le_refl _) _).alloc (by simp) _).block b hb,h2.congr fun k=>?_⟩;show look (ob 0++lp) k=_;rw [b5];cases e:look (ob 0) k with
  | none=>rfl
  | some av =>
   have h3:=cU e;have h4:=oG.sub k av e;show some av=_;rw [cG,lN (by omega),lN (by omega),h4]
 have tY:∀ q∈E4 (kO (ob 0)) (kO (ob 0)) (kO (ob 0)),q.1≠0/\100000≠q.1/\100000+1000000≠q.1:=fun q hq=>by rw [all_eq_true] at jC;have:=jC q hq;simp only [Bool.and_eq_true,Bool.not_eq_true'] at this;obtain ⟨g1,g2,g3⟩:=this;exact ⟨(fun e=>by rw [e] at g1;cases g1),(fun e=>by rw [<-e] at g2;cases g2),(fun e=>by rw [<-e] at g3;cases g3)⟩
 have oI:∀ q∈E4 (kO (ob 0)) (kO (ob 0)) (kO (ob 0)),NoRefE lp q:=fun q hq kk av kS jO=>by
  have eB:=mV q (by simp only [mem_cons];exact .inr (.inr hq));obtain ⟨g1,g2,g3⟩:=tY q hq;rw [cG,d8] at kS;split at kS
  ·rename_i e2;injection kS with kS;rw [<-e2,<-kS];exact ⟨fun e=>g1 e.symm,g2,g3⟩
  ·rw [d8] at kS;split at kS
   ·rename_i e2;injection kS with kS;rw [<-e2,<-kS];exact ⟨fun e=>g1 e.symm,g2,g3⟩
   ·exact eB kk av kS jO
 refine b7L (b3A (gf:=gf) (lb:=lb.toArray) (by rw [e1]) iR (Ok:=fun pre x=>x=pre.length/\x<xs.length) hGv (fun {A B C} h1 h2 b hb hx=>(h2 b hb hx).trans (h1 b hb hx)) (fun W l o' hl b hb hx=>World.putObj_heap_other (by omega)) (fun x=>by simp [bQ]) I (fun pre A B ⟨D,hv,hd,hK,hS⟩ hb=>⟨D,hv,hd,fun b kZ hx=>(hb.block b (kA (hK b kZ hx) kZ)).trans (hK b kZ hx),hS.grow' hb⟩) dP h0
  (fun pre x W r0 hI hx kD qV=>?_) (fun ys W eA hI hD=>?_))
 ·obtain ⟨D,hv,hd,hK,hS⟩:=hI;obtain ⟨k,hk⟩:∃ k,k=pre.length:=⟨_,rfl⟩
  rw [<-hk] at hx hS;obtain ⟨vR,jN⟩:=hx;obtain ⟨y,hy⟩:∃ y,xs[k]?=some y:=⟨xs[k]'(by omega),List.getElem?_eq_getElem (by omega)⟩
  obtain ⟨V,v1,v2,v3,v4,v5,v6⟩:=hS.lend (dB k) (kX k);have jT:VReps (Us W V (fun _ _=>False)) W (encC y) (vals x):=by rw [vR];refine (cW k y hy).keep fun b o u hu hc=>v6 b o u (hu.imp id fun h=>⟨h.1,hd _ _ h.2⟩) ?_;have hb:b<w.heap.size:=World.block_lt_of_cell? w _ hc;rw [World.cell?_of_block (w:=w) (hK b hb (fun hn=>hn ⟨o,hu⟩))];exact hc
  have tX:¬ V.x w.heap.size:=a7X hS (kX k) (iW k) v3 (.inr rfl) (by rw [dL (by omega)];exact vO);have hnLx:¬ V.x (w.heap.size+1):=a7X hS (kX k) (iW k) v3 (.inl rfl) (by rw [dL (by omega)];exact hL);have cJ:∀ b,b<w.heap.size->¬ (¬ ∃ o,Us w0 U0 D0 b o)->¬ V.x b:=fun b hb hx kZ=>by obtain ⟨o,ho⟩:=Classical.not_not.1 hx;exact b2H hS (kX k) v3 (ho.imp id fun h=>⟨h.1,hd _ _ h.2⟩) kZ
  have iU:(pre++[x]).length=k+1:=by rw [length_append,hk];rfl
  have hRC:=a3D (ps:=ps) (assign:=assign) (body:=body) (sl:=sl) (ob':=ob (k+1)) (cs:=encC y) (vs:=vals x) hS hL qV v2 v3 v4 v5 v6 gW cT (fun d av h1=>by
   have mU:d<100000:=by rw [all_eq_true] at cT;exact bL (cT d (f0 h1))
   rw [dL (by omega),cG,lN (by omega),lN (by omega)];exact dQ.sub d av h1) (kX k) (gI (k+1)) (by rw [kM (k+1),kM k]) (iW k) (by rw [kM k];exact oI) jT (gJ k y hy W V v1)
  have sI:(ps.toArray.zip (vals x).toArray).foldl (fun t (p,v)=>t.setIfInBounds p v) a.tmps=a4r ps (vals x) a.tmps:=a7k ps (vals x) a.tmps;rw [sI];refine wpIn_mono hRC ?_;rintro e a' W' hp;cases e with
  | normal =>
   obtain ⟨p1,p2,p3⟩:=hp;refine ⟨p1,p2 _ (by omega) tX,fun b hb hx=>p2 b (by omega) (cJ b hb hx),fun rb=>wpIn_mono (p3 rb) ?_⟩;rintro e a3 W3 ⟨rfl,q1,q2,q4,D2,gU,q3,q5⟩;have hW':∀ b,b<W.heap.size->b≠w.heap.size+1->¬ V.x b->W3.heap[b]?=(W'.putObj (w.heap.size+1) (.loop rb)).heap[b]?:=fun b hb kE hx=>by rw [q2 b hb hx,World.putObj_heap_other kE,World.putObj_heap_other kE,p2 b hb hx]
   refine ⟨?_,hW' _ (by omega) (by omega) tX,fun b hb hx=>hW' b (by omega) (by omega) (cJ b hb hx),D2,gU,fun b o hb=>q3 b o (hd b o hb),fun b hb hx=>?_,?_⟩
   ·have nV:=(Array.getElem?_eq_some_iff.1 p1).1;rw [q1,World.putObj_heap_same nV]
   ·have h1:=cJ b hb hx;rw [q2 b (by omega) h1,World.putObj_heap_other (by omega)];exact hK b hb hx
   ·rw [iU];exact q5
  | ret=>exact hp.elim
  | exit _=>exact hp.elim
  | goto _=>exact hp.elim
  | panic _=>exact hp.elim
  | outgrown=>exact hp.elim
 ·subst eA;obtain ⟨D,hv,hd,hK,hS⟩:=hI;rw [List.length_range] at hS;refine ⟨_,a,w.heap.size,⟨rfl,rfl⟩,⟨D,hv,by rw [cG] at hS;exact hS⟩,by show _=wdA a _;unfold wdA;rw [h.dfr],?_⟩;have:=dL (k:=xs.length) (k':=299999) (by omega);rw [vO,cG] at this;exact this
theorem b0z {α:Type} {g:Operand} {ps:List Tmp} {assign body:Code} {gf:Nat} {caps:List CV} {encC:α->List CV} {xs:List α} {n1 q1 p1} (ob:Nat->AS) (sl:AS)
  (iA:ev (look s) g=some ⟨0,.fn gf 0 caps,n1,q1,p1⟩) (iR:a9T P gf) (hG:b1U P gf caps ps.length encC xs)
  (gW:(ps.all fun p=>Nat.blt p nt&&Nat.blt p 100000)=true)
  (dQ:SubL s sl) (cT:(kO sl).all (fun k=>Nat.blt k 100000)=true) (oG:SubL s (ob 0))
  (kX:∀ k,(ob k).all E2=true) (gI:∀ k,(ob k).all (F6 (kO (ob k)))=true) (kM:∀ k,kO (ob k)=kO (ob 0))
  (mE:((kO (ob 0)).all fun k=>Nat.ble 300000 k)=true) (jR:A6 s ((299998,[])::E4 (kO (ob 0)) (kO (ob 0)) (kO (ob 0)))=true)
  (jC:((E4 (kO (ob 0)) (kO (ob 0)) (kO (ob 0))).all fun q=>!Nat.beq q.1 0&&(!Nat.beq q.1 100000&&!Nat.beq q.1 1100000))=true)
  (gJ:∀ k x,xs[k]?=some x->∀ (w:World) (U:UX),(∀ k' v,U.f k'=some v->l6 (kO (ob k)) k'=true)->AWp P w U nt assign (fun e s1=>e = .normal/\∀ w',a5m P w' U nt body (fun e s'=>e = .normal/\Wk w' U nt s' (ob (k+1))) s1) (a9N ps (encC x) sl++ob k)) :
  a5m P w0 U0 nt (.rangeFunc g ps.toArray assign body) (fun e s'=>e = .normal/\∃ m,s'=ob xs.length++((299998,.ob m 1)::s)) s:=by
 rintro M a w l₀ r₀ hMr hl₀ mP ⟨D0,lO,h⟩;have eU:w.heap[l₀]?=some (.loop r₀):=(h.below.block l₀ (Array.getElem?_eq_some_iff.1 hl₀).1 mP).trans hl₀;obtain ⟨ys,lb,e1,e2,e3,e4⟩:=T6.1 (A0 h (fun k _=>rfl) iA);have eA:ys=[]:=eq_nil_of_length_eq_zero e2;subst eA;have iS:VReps (Us w0 U0 D0) w caps lb:=P7 e4 (by simpa using e3);obtain ⟨vals,bQ,cW,hGv⟩:=hG w lb (Us w0 U0 D0) iS;have kA:∀ {V:World} {b:Nat},V.heap[b]?=w.heap[b]?->b<w.heap.size->b<V.heap.size:=fun {V b} h1 h2=>by
  rcases Nat.lt_or_ge b V.heap.size with h | h
  ·exact h
  ·rw [Array.getElem?_eq_none h,Array.getElem?_eq_getElem h2] at h1;cases h1
 obtain ⟨lp,cG⟩:∃ lp:AS,lp=(299998,AV.ob w.heap.size 1)::s:=⟨_,rfl⟩
 have mV:=q7 jR;have iW:∀ k,((kO (ob k)).all fun k=>Nat.ble 300000 k)=true:=fun k=>by rw [kM k];exact mE
 have cU:∀ {k av k'},look (ob k) k'=some av->300000<=k':=fun {k av k'} h1=>Nat.le_of_ble_eq_true (all_eq_true.1 (iW k) k' (f0 h1));have hL:look lp 299998=some (.ob w.heap.size 1):=by rw [cG,lS]
 have dL:∀ {k k':Nat},k'<300000->look (ob k++lp) k'=look lp k':=fun {k k'} h1=>by
  rw [b5];cases e:look (ob k) k' with
  | none=>rfl
  | some av=>have:=cU e;omega
 have dB:∀ k,Sub (ob k++lp) (ob k):=fun k k' av h1=>by rw [b5,h1];rfl
 let I:List Nat->World->Prop:=fun pre V=>∃ D hv,(∀ b o,D0 b o->D b o)/\KpX w.heap.size (fun b=>¬ ∃ o,Us w0 U0 D0 b o) w V/\SimG w0 U0 nt (ob pre.length++lp) a V D hv
 have dP:∀ (pre:List Nat) (A:World) (r r':Loop),I pre A->A.heap[w.heap.size]?=some (.loop r)->I pre (A.putObj w.heap.size (.loop r')):=by
  rintro pre A r r' ⟨D,hv,hd,hK,hS⟩ hr;obtain ⟨h1,_⟩:=hS.putob (n:=299998) (o:=1) (o':=1) (by unfold RW;omega) (by rw [dL (by omega)];exact hL) (x := .loop r') (fun _ _ _ e=>by cases e) (fun e=>by cases e);refine ⟨D,hv,hd,fun b hb hx=>(World.putObj_heap_other (by omega)).trans (hK b hb hx),h1.congr fun k=>?_⟩;rw [d8];split
  ·rename_i e;subst e;rw [dL (by omega)];exact hL
  ·rfl
 have h0:∀ r:Loop,I [] (w.alloc (.loop r)):=fun r=>by
  have h2:=h.newob (n:=299998) (o:=1) (by unfold RW;omega) (mV (299998,[]) (by simp)).nr (x := .loop r) (fun _ _ _ e=>by cases e) (fun e=>by cases e);rw [<-cG] at h2;refine ⟨D0,_,fun _ _ h=>h,fun b hb _=>((Below.refl _ w).alloc (Nat.le_refl _) _).block b hb,h2.congr fun k=>?_⟩;show look (ob 0++lp) k=_;rw [b5];cases e:look (ob 0) k with
  | none=>rfl
  | some av =>
   have h3:=cU e;have h4:=oG.sub k av e;show some av=_;rw [cG,lN (by omega),h4]
 have tY:∀ q∈E4 (kO (ob 0)) (kO (ob 0)) (kO (ob 0)),q.1≠0/\100000≠q.1/\100000+1000000≠q.1:=fun q hq=>by rw [all_eq_true] at jC;have:=jC q hq;simp only [Bool.and_eq_true,Bool.not_eq_true'] at this;obtain ⟨g1,g2,g3⟩:=this;exact ⟨(fun e=>by rw [e] at g1;cases g1),(fun e=>by rw [<-e] at g2;cases g2),(fun e=>by rw [<-e] at g3;cases g3)⟩
 have oI:∀ q∈E4 (kO (ob 0)) (kO (ob 0)) (kO (ob 0)),NoRefE lp q:=fun q hq kk av kS jO=>by
  have eB:=mV q (by simp only [mem_cons];exact .inr hq);obtain ⟨g1,g2,g3⟩:=tY q hq;rw [cG,d8] at kS;split at kS
  ·rename_i e2;injection kS with kS;rw [<-e2,<-kS];exact ⟨fun e=>g1 e.symm,g2,g3⟩
  ·exact eB kk av kS jO
 have had:wdA a M.ds={ wdA a M.ds with defers:=M.ds }:=rfl;have mG:(Code.rangeFunc g ps.toArray assign body).wpIn (B2 (some l₀)) 3 P (a8c M fun e a' w'=>∃ s',(e = .normal/\∃ m,s'=ob xs.length++((299998,.ob m 1)::s))/\Sim w0 U0 nt s' a' w') (wdA a M.ds) w:=by
  refine b3F (gf:=gf) (lb:=lb.toArray) eU (by rw [a0q,e1]) iR (Ok:=fun pre x=>x=pre.length/\x<xs.length) hGv (fun {A B C} h1 h2 b hb hx=>(h2 b hb hx).trans (h1 b hb hx)) (fun W l o' hl b hb hx=>World.putObj_heap_other (by omega)) (fun x=>by simp [bQ]) I (fun pre A B ⟨D,hv,hd,hK,hS⟩ hb=>⟨D,hv,hd,fun b kZ hx=>(hb.block b (kA (hK b kZ hx) kZ)).trans (hK b kZ hx),hS.grow' hb⟩) dP h0
   (fun pre x W r0 hI hx kD qV=>?_) (fun ys W eA hI=>?_)
  ·obtain ⟨D,hv,hd,hK,hS⟩:=hI;obtain ⟨k,hk⟩:∃ k,k=pre.length:=⟨_,rfl⟩
   rw [<-hk] at hx hS;obtain ⟨vR,jN⟩:=hx;obtain ⟨y,hy⟩:∃ y,xs[k]?=some y:=⟨xs[k]'(by omega),List.getElem?_eq_getElem (by omega)⟩
   obtain ⟨V,v1,v2,v3,v4,v5,v6⟩:=hS.lend (dB k) (kX k);have jT:VReps (Us W V (fun _ _=>False)) W (encC y) (vals x):=by rw [vR];refine (cW k y hy).keep fun b o u hu hc=>v6 b o u (hu.imp id fun h=>⟨h.1,hd _ _ h.2⟩) ?_;have hb:b<w.heap.size:=World.block_lt_of_cell? w _ hc;rw [World.cell?_of_block (w:=w) (hK b hb (fun hn=>hn ⟨o,hu⟩))];exact hc
   have hnLx:¬ V.x w.heap.size:=a7X hS (kX k) (iW k) v3 (.inl rfl) (by rw [dL (by omega)];exact hL);have cJ:∀ b,b<w.heap.size->¬ (¬ ∃ o,Us w0 U0 D0 b o)->¬ V.x b:=fun b hb hx kZ=>by obtain ⟨o,ho⟩:=Classical.not_not.1 hx;exact b2H hS (kX k) v3 (ho.imp id fun h=>⟨h.1,hd _ _ h.2⟩) kZ
   have iU:(pre++[x]).length=k+1:=by rw [length_append,hk];rfl
   have hRC:=a3D (ps:=ps) (assign:=assign) (body:=body) (sl:=sl) (ob':=ob (k+1)) (cs:=encC y) (vs:=vals x) hS hL qV v2 v3 v4 v5 v6 gW cT (fun d av h1=>by
    have mU:d<100000:=by rw [all_eq_true] at cT;exact bL (cT d (f0 h1))
    rw [dL (by omega),cG,lN (by omega)];exact dQ.sub d av h1) (kX k) (gI (k+1)) (by rw [kM (k+1),kM k]) (iW k) (by rw [kM k];exact oI) jT (gJ k y hy W V v1)
   have sI:(ps.toArray.zip (vals x).toArray).foldl (fun t (p,v)=>t.setIfInBounds p v) (wdA a M.ds).tmps=a4r ps (vals x) a.tmps:=a7k ps (vals x) a.tmps;rw [sI];refine wpIn_mono hRC ?_;rintro e a' W' hp;cases e with
   | normal =>
    obtain ⟨p1,p2,p3⟩:=hp;refine ⟨p1,fun b hb hx=>p2 b (by omega) (cJ b hb hx),fun rb=>wpIn_mono (p3 rb) ?_⟩;rintro e a3 W3 ⟨rfl,q1,q2,q4,D2,gU,q3,q5⟩;have hW':∀ b,b<W.heap.size->b≠w.heap.size->¬ V.x b->W3.heap[b]?=(W'.putObj w.heap.size (.loop rb)).heap[b]?:=fun b hb kE hx=>by rw [q2 b hb hx,World.putObj_heap_other kE,World.putObj_heap_other kE,p2 b hb hx]
    refine ⟨?_,fun b hb hx=>hW' b (by omega) (by omega) (cJ b hb hx),D2,gU,fun b o hb=>q3 b o (hd b o hb),fun b hb hx=>?_,?_⟩
    ·have nV:=(Array.getElem?_eq_some_iff.1 p1).1;rw [q1,World.putObj_heap_same nV]
    ·have h1:=cJ b hb hx;rw [q2 b (by omega) h1,World.putObj_heap_other (by omega)];exact hK b hb hx
    ·rw [iU];exact q5
   | ret=>exact hp.elim
   | exit _=>exact hp.elim
   | goto _=>exact hp.elim
   | panic _=>exact hp.elim
   | outgrown=>exact hp.elim
  ·subst eA;obtain ⟨D,hv,hd,hK,hS⟩:=hI;rw [List.length_range] at hS;exact ⟨a,rfl,_,⟨rfl,w.heap.size,rfl⟩,⟨D,hv,by rw [cG] at hS;exact hS⟩⟩
 unfold WP;rw [hMr];exact fun b k cs h1 h2 _=>mG b k cs h1 h2 (room_wide _)
end
section
variable {P:Program} {nt:Nat}
theorem b4a {f:FuncId} {fn:Func} {c:Code} {pre post:AS} {args:List AV} {r:AV} (hf:P.funcs[f]?=some fn) (hn:fn.ntmps=nt) (hb:fn.body=some c) (hl:Nat.ble args.length nt=true) (dO:Nat.blt nt 100000=true) (bM:(kO pre).all (Nat.ble 100000)=true) (gF:(kO post).all (Nat.ble 100000)=true) {w:World} {U:UX}
  (h:a3f P w U nt c (fun e s' g=>(e = .normal\/e = .ret)/\∃ s2,Wk w U nt s' ((299999,.ob g 0)::s2)/\b7y P s2 fn.results.toList=some r/\SubL s2 post/\look s2 299999=none) (F7 args 0++pre)) {hv:Nat->Value} {a0:Act} {vs:List Value} (gZ:SimG w U 0 pre a0 w (fun _ _=>False) hv) (hargs:AVReps (Us w U (fun _ _=>False)) w hv (a8 pre) args vs) :
  Calls P f vs.toArray w fun e w'=>∃ v D' kH a',e = .returned v/\SimG w U 0 post a' w' D' kH/\AVRep (Us w U D') w' kH (a8 post) r v:=by
 have kF:=hargs.len;refine callsIn_wide.1 (callsIn_of_wp_marks (F:=Fence.wide) (n:=1) hf hb trivial ?_ rfl);have cV:=Nat.le_of_ble_eq_true hl;have dO:=bL dO;have kV:∀ {k av},look pre k=some av->100000<=k:=fun {k av} h1=>by rw [all_eq_true] at bM;exact Nat.le_of_ble_eq_true (bM k (f0 h1))
 have kC:∀ {k},100000<=k->look (F7 args 0++pre) k=look pre k:=fun {k} h1=>by
  rw [b5];cases h2:look (F7 args 0) k with
  | none=>rfl
  | some av =>
   obtain ⟨_,h3⟩:=x7 h2;rw [Nat.sub_zero,getElem?_eq_none (by omega)] at h3;cases h3
 have kK:a8 (F7 args 0++pre)=a8 pre:=by
  funext n;unfold a8 r7;apply propext;constructor
  ·rintro (h1 | ⟨e,h1,h2,h3⟩)
   ·exact .inl h1
   ·rw [kC (by omega)] at h1;exact .inr ⟨e,h1,h2,h3⟩
  ·rintro (h1 | ⟨e,h1,h2,h3⟩)
   ·exact .inl h1
   ·exact .inr ⟨e,by rw [kC (by omega)];exact h1,h2,h3⟩
 have hs:Sim w U nt (F7 args 0++pre) { tmps:=vs.toArray++Array.replicate (fn.ntmps-vs.toArray.size) undef,defers:=[] } w:=by
  refine ⟨fun _ _=>False,hv,gZ.below,rfl,by simp [hn];omega,fun d av h1 h2=>?_,fun n o av h1 h2 h3 h4=>?_,fun n o o' av av' h1 h2=>?_,fun k av h1 h2=>?_,fun k av g h1 h2=>?_,fun k k' av av' g h1 h2 h3 h4=>?_,gZ.fix,fun b o hd=>hd.elim⟩
  ·rw [b5] at h1;cases h3:look (F7 args 0) d with
   | none =>
    rw [h3] at h1;have:=kV h1;omega
   | some av' =>
    rw [h3] at h1;cases h1;obtain ⟨_,h4⟩:=x7 h3;rw [Nat.sub_zero] at h4;obtain ⟨v,h6,h7⟩:=hargs.at h4;have hdl:d<vs.length:=by
     rcases Nat.lt_or_ge d vs.length with h | h
     ·exact h
     ·rw [getElem?_eq_none h] at h6;cases h6
    rw [kK];refine ⟨v,?_,h7⟩;rw [Array.getElem?_append_left (by simpa using hdl)];simpa using h6
  ·rw [kC (by unfold d9;omega)] at h1;rw [kC (by omega)] at h3;rw [kK];exact gZ.fld n o av h1 h2 h3 h4
  ·rw [kC (by unfold d9;omega)] at h1 h2;exact gZ.fdis n o o' av av' h1 h2
  ·rw [kC h2.1] at h1;rw [kK];exact gZ.obj k av h1 h2
  ·rw [kC h2.1] at h1;exact gZ.blk k av g h1 h2
  ·rw [kC h3.1] at h1;rw [kC h4.1] at h2;exact gZ.disj k k' av av' g h1 h2 h3 h4
 refine wpIn_mono (h _ w hs) ?_;rintro e a' w' ⟨s',a'',g,⟨h1,s2,g1,g2,g3,g4⟩,h3,rfl,g5⟩;obtain ⟨D',kH,h4⟩:=g1 a'' w' h3;obtain ⟨h5,h6,h7,y,h8,h9⟩:=h4.putob (n:=299999) (o:=0) (o':=1) (by unfold RW;omega) (lS _ _ _) (x := .deferred none) (fun _ _ _ e=>by cases e) (fun e=>by cases e);have h9:=h9 rfl;subst h9;have hS:=h5.sub (s':=s2) fun k av hk=>by
  have kE:(299999:Nat)≠k:=fun e=>by rw [<-e,g4] at hk;cases hk
  rw [lN kE,lN kE];exact hk
 obtain ⟨v,i1,i2⟩:=X5 hS g2;have bG:∀ {k av},look post k=some av->100000<=k:=fun {k av} h1=>by rw [all_eq_true] at gF;exact Nat.le_of_ble_eq_true (gF k (f0 h1))
 have iV:=hS.sub g3.sub;have mT:SimG w U 0 post ⟨#[],[]⟩ (w'.putObj g (.deferred none)) D' kH:=⟨iV.below,rfl,rfl,fun d av h7 h8=>by have:=bG h7;omega,iV.fld,iV.fdis,iV.obj,iV.blk,iV.disj,iV.fix,iV.dlt⟩
 have gI:LeavesInM Fence.wide 1 P fn a''.tmps (fun e w'=>∃ v D' kH a',e = .returned v/\SimG w U 0 post a' w' D' kH/\AVRep (Us w U D') w' kH (a8 post) r v) [⟨.collected g,#[]⟩] .returning w':=
  ⟨(fun e=>by cases e),.inl ⟨g,_,rfl,run_takeDeferred h8,v,i1,v,D',kH,_,rfl,mT,i2.move (fun _ _ _ h1 h2=>⟨h1,h2⟩) (fun _ h7=>h7.imp id fun ⟨e,he⟩=>⟨e,g3.sub _ _ he.1,he.2⟩) fun _=>rfl⟩⟩
 rcases h1 with rfl | rfl
 ·exact gI
 ·exact gI
theorem b5j {W : World} {f : FuncId} {fn : Func} {c : Code} {args : List CV} {r : CV} (hf : P.funcs[f]? = some fn) (hn : fn.ntmps = nt) (bF : (fn.name == "runtime.NumGoroutine") = false) (hb : fn.body = some c) (hl : Nat.ble (args.map AV.val).length nt = true) (dO : Nat.blt nt 100000 = true)
  (h:∀ (w:World) (U:UX),Hw w w U->a3f P w U nt c (fun e s' g=>(e = .normal\/e = .ret)/\∃ s2,Wk w U nt s' ((299999,.ob g 0)::s2)/\b7y P s2 fn.results.toList=some (.val r)/\SubL s2 []/\look s2 299999=none) (F7 (args.map AV.val) 0++[])):AFun P W f args (.val r):=by
 refine ⟨C7 hf bF (by rw [hb];rfl),.inl rfl,rfl,fun U w vs _ hv=>?_⟩;obtain ⟨V,hV⟩:∃ V:UX,V=⟨U,fun _=>False,fun _=>none,fun k v e=>by cases e⟩:=⟨_,rfl⟩
 have eX:∀ b o v,U b o->w.cell? ⟨b,o,none⟩=some v->Us w V (fun _ _=>False) b o/\w.cell? ⟨b,o,none⟩=some v:=fun b o v h1 h2=>⟨.inl ⟨World.block_lt_of_cell? w _ h2,by rw [hV];exact h1,by rw [hV];exact fun h=>h⟩,h2⟩
 have hS:SimG w V 0 [] ⟨#[],[]⟩ w (fun _ _=>False) (fun _ => .slice none 0 0):=⟨BelowX.refl _ _,rfl,rfl,(fun d av h=>by cases h),(fun n o av h=>by cases h),(fun n o o' av av' h=>by cases h),(fun k av h=>by cases h),(fun k av g h=>by cases h),(fun k k' av av' g h=>by cases h),(fun k v h=>by rw [hV] at h;cases h),fun b o h=>h.elim⟩
 have hargs:∀ (cs:List CV) (vs:List Value),VReps U w cs vs->AVReps (Us w V (fun _ _=>False)) w (fun _ => .slice none 0 0) (a8 []) (cs.map AV.val) vs:=by
  intro cs
  induction cs with
  | nil=>intro vs h;exact h
  | cons a cs ih =>
   rintro vs ⟨u,us,rfl,h1,h2⟩;exact ⟨u,us,rfl,l5 (h1.keep eX),ih us h2⟩
 refine (b4a (post:=[]) hf hn hb hl dO rfl rfl (h w V ⟨fun _=>by rw [hV],fun b hb=>by rw [hV] at hb;exact hb⟩) hS (hargs args vs hv)).mono ?_;rintro e w' ⟨v,D',kH,a',rfl,h1,h2⟩;refine ⟨v,rfl,?_,h1.below.below fun k hk=>by rw [hV] at hk;exact hk⟩;have h3:VRep (Us w V D') w' r v:=by have:VRep (Us w V D') w' r v/\Tk kH (a8 []) (.val r) v.cells.toList:=h2;exact this.1
 show VRep _ w' r v;refine h3.keep fun b o u hu hc=>⟨?_,hc⟩
 rcases hu with hu | hu
 ·left;have:=hu.2.1;rw [hV] at this;exact this
 ·exact .inr hu.1
end
end
end Go.Proofs.YtglmoficcjphaaaGreat
