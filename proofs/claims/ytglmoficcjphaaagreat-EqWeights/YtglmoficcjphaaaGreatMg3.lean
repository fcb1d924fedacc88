/-
 AbObj2 AbFld AbMap AbFull AbArr AbRoom AbBox AbIter AbRange AbRangeV AbMark AbNest AbNest2 AbNest3 AbNest4 SbFns SbApply SbVars TmSm SbSmall TmOrd RfSame RfLess RfFlat RfVars AbOf SbVnt SbRen
-/
import Derived.Test.YtglmoficcjphaaaGreatMg2
import Derived.MapKept
import Derived.Laws.NewFold
import Derived.RangeFuncNested
namespace Go.Proofs.YtglmoficcjphaaaGreat
open Go.RowKit
set_option linter.unusedVariables false
set_option linter.unusedSimpArgs false
def S0 (P:Program) (e:TypeId):Option CV:=match P.info? e with
 | some it=>match it.zero with
  | some (.agg cs)=>match P.underlying e with
   | some (.struct fs)=>match szO P fs.toList 0 with
    | some sz=>match zsO sz cs.toList with | some zs=>some (.row zs) | none=>none
    | none=>none
   | _=>none
  | some v=>match M3 v with | true=>some (O7 v) | false=>none
  | none=>none
 | none=>none
theorem J1 {P:Program} {e:TypeId} {c:CV} (h:S0 P e=some c):∃ it z,P.info? e=some it∧it.zero=some z∧∀ U w,Rep U w c z.cells.toList:=by
 unfold S0 at h
 split at h
 ·rename_i it hi
  split at h
  ·rename_i cs hz
   refine ⟨it,_,hi,hz,fun U w=>?_⟩
   split at h
   ·split at h
    ·split at h
     ·rename_i zs h0
      cases h
      obtain ⟨segs,e1,e2,e3,e4,e5⟩:=E6 (U:=U) (w:=w) h0
      rw [F5]
      show Sq _ cs.toList
      rw [←e1]
      exact G0 e4 (fun i c hi=>by obtain ⟨seg,f1,f2,_⟩:=e5 i c hi;exact ⟨seg,f1,f2⟩)
     ·cases h
    ·cases h
   ·cases h
  ·rename_i v hz hv
   refine ⟨it,_,hi,hv,fun U w=>?_⟩
   split at h
   ·rename_i hp
    cases h
    have:=U9 U w v hp
    have hc:v.cells = #[v]:=by
     cases v with
     | agg cs=>exact absurd rfl (hz cs)
     | _=>rfl
    rw [hc]
    exact this
   ·cases h
  ·cases h
 ·cases h
section
variable {P:Program} {w0:World} {U0:UX} {nt:Nat} {ops:Array Oper} {o:Oper} {S:Nat→Option AV} {gs:List Nat} {d:Nat} {s:AS} {a:Act} {w:World} {D:Nat→Nat→Prop} {hv:Nat→Value}
theorem a5L {U:Nat→Nat→Prop} {c:CV} {xs:List Value} (h:Rep U w c xs):∀ k,Sq ((List.replicate k c).map fun c=>Rep U w c) (List.replicate k xs).flatten
 | 0=>rfl
 | k+1=>⟨_,_,rfl,h,a5L h k⟩
theorem R2 {v:Value} {k cap:Nat} {ao:Option Addr} {z:Nat} (h:v = .slice ao k cap) (hk:k≤cap) (hg:ao=none∨∃ g,ao=some ⟨g,0,none⟩):SlV v 0 k z v:=by
 refine ⟨ao,k,cap,ao,h,by rw [h];rfl,by omega,fun _=>rfl,fun _ g e=>by rw [Nat.zero_mul];exact e,Iff.rfl⟩
theorem a8u {e z:Nat} {v:Value} {k:Nat} {xs:List Value} (h:w.ownsRow 0 e z v k xs):∃ ao cap,v = .slice ao k cap∧k≤cap∧(ao=none∨∃ g,ao=some ⟨g,0,none⟩):=by
 rcases h.2 with ⟨rfl,rfl⟩ | ⟨g,cap,cur,rfl,_,h3,h4,h5,h6,h7⟩
 ·exact ⟨none,0,rfl,Nat.le_refl _,.inl rfl⟩
 ·exact ⟨_,cap,rfl,h4,.inr ⟨g,rfl⟩⟩
theorem b0w {Q:Exit→Act→World→Prop} {K:Act→World→Prop} (h:SimG w0 U0 nt s a w D hv) {n e size bytes:Nat} {z:Value} {t:TypeId} (hd:o.dst=some d) (hdn:d<nt) (h5:d<100000) (hn:RW n) (hr:U4 s n) {x y:Operand} (ho:o.op = .call { callee := .builtin .append,args := #[x,y],argTypes := #[t,t] })
  (ht:P.underlying t=some (.slice e)) (hi:(P.info? e).map (fun i=>(i.zero,i.size,i.bytes))=some (some z,size,bytes)) (hzs:z.cells.size=size) (hsz:0<size) (hbt:bytes≤1000)
  {l l2:List CV} (hl:∀ c∈l,c.size=size) (hl2:∀ c∈l2,c.size=size) (hbd:l.length+l2.length≤100000000000)
  {v:Value} (hx:a.eval x=v) (hy:VRep (Us w0 U0 D) w (.lst l2) (a.eval y)) {xs:List Value} (hown:w.ownsRow 0 e size v l.length xs) (hsq:Sq (l.map fun c=>Rep (Us w0 U0 D) w c) xs)
  (hroom:∀ g,v.ownBlock=some g→Mn w0 U0 (lcl n (.mrow e size (l++l2))) g∧(∀ o,¬ D g o)∧∀ q av,look s q=some av→k9 q→av.t≠7→q≠n→hb (hv q)≠some g)
  (hK:∀ a' w',Sim w0 U0 nt ((d,.sl n 0 (l.length+l2.length) size)::(n,.mrow e size (l++l2))::s) a' w'→K a' w'):o.wp P a w K Q:=by
 obtain ⟨ao2,m,c2,g1,g2,g3,g4,g6,ys2,g7,g8⟩:=j5.1 hy
 have hyl2:ys2.length=m*size:=by rw [C5 (n:=CV.size) (fun c _ xs h=>h.len) g8,r5 hl2,g2]
 have hmul:(l.length+m)*bytes≤100000000000*1000:=Nat.mul_le_mul (by omega) hbt
 obtain ⟨v',w',r1,r2,r3,r4⟩:=b1j (P:=P) (ty:=o.type) ht hi hzs hsz (Nat.zero_le _) hown g6 g7 hyl2 (P6 g8) (by unfold maxLen;omega) (by omega)
 have hvs:∀ {u:Value} {k xs} {w:World},w.ownsRow 0 e size u k xs→hb u=u.ownBlock:=fun {u k xs w} h1=>by
  rcases h1.2 with ⟨rfl,rfl⟩ | ⟨g,cap,cur,rfl,_⟩<;>rfl
 have hb2:=hvs r2
 have hkp:∀ b o u,Us w0 U0 D b o→w.cell? ⟨b,o,none⟩=some u→Us w0 U0 D b o∧w'.cell? ⟨b,o,none⟩=some u:=fun b o u hu hc=>by
  refine ⟨hu,?_⟩
  have hlt:b<w.heap.size:=World.block_lt_of_cell? w _ hc
  have hnb:some b≠v.ownBlock:=fun e=>by
   obtain ⟨f1,f2,_⟩:=hroom b e.symm
   exact a3b hu f1 (f2 o) rfl
  rw [World.cell?_of_block (w:=w) (r3.block b hlt hnb)]
  exact hc
 have hG:=h.newrow (avn := .mrow e size (l++l2)) (v':=v') (D':=D) (X:=fun b=>v.ownBlock=some b) hn hr (by simp) ⟨r3.os,r3.tape,r3.output,r3.size,fun b hb hx=>r3.block b hb fun e=>hx e.symm⟩ (fun b hb=>⟨(hroom b hb).1,(hroom b hb).2.2⟩) (fun g hg=>by
   rw [hb2] at hg
   refine ⟨?_,(r2.lt g hg).2,fun o _ hd=>?_⟩
   ·rcases r4 with r4 | ⟨_,r4⟩
    ·exact .inl (r4▸hg)
    ·exact .inr (r4 g hg)
   ·rcases r4 with r4 | ⟨_,r4⟩
    ·exact (hroom g (r4▸hg)).2.1 o hd
    ·have:=r4 g hg
     have:=h.dlt _ _ hd
     omega) (fun b o hd => .inl hd) (fun b o hd=>Nat.lt_of_lt_of_le (h.dlt _ _ hd) r3.size) hkp (fun hv lv=>by
   refine ⟨xs++ys2,?_,hsz,fun c hc=>?_,?_⟩
   ·show w'.ownsRow 0 e size v' (l++l2).length (xs++ys2)
    rw [List.length_append,←g2]
    exact r2
   ·rcases List.mem_append.1 hc with hc | hc
    ·exact hl c hc
    ·exact hl2 c hc
   ·show Sq ((l++l2).map _) _
    rw [List.map_append]
    exact B6 (Sq.keep hkp hsq) (Sq.keep hkp g8))
 have he:(execOp a.eval o).run P w = .ok (.value v') w':=by
  generalize a.eval=ρ at hx g1 ⊢
  simp [execOp,ho,resolve,invoke,builtin,hx,g1,r1,Result.andThen]
 unfold Oper.wp
 rw [he,Oper.upon_value,hd]
 refine hK _ _ ⟨_,_,hG.put hdn h5 ?_⟩
 refine ⟨hn.rn,?_⟩
 obtain ⟨a1,c1,e1,e2,e3⟩:=a8u r2
 have:=R2 (z:=size) e1 e2 e3
 show SlV ((fun x=>if x=n then v' else hv x) n) 0 (l.length+l2.length) size v'
 simp only [if_true]
 rw [←g2]
 exact this
theorem b7l (nn:Nat) (hg:Gd w0 U0 nt ops o gs S) (hd:o.dst=some d) (hn:Nat.blt d nt=true) (h5:Nat.blt d 100000=true) {x y:Operand} {t e size bytes:Nat} {z:Value} {l2:List CV} {n q n2 q2 p2} (ho:o.op = .call { callee := .builtin .append,args := #[x,y],argTypes := #[t,t] }) (ht:P.underlying t=some (.slice e)) (hi:(P.info? e).map (fun i=>(i.zero,i.size,i.bytes))=some (some z,size,bytes)) (hzs:Nat.beq z.cells.size size=true) (hsz:Nat.blt 0 size=true) (hbt:Nat.ble bytes 1000=true)
  (hx:ev S x=some ⟨0,.lst [],n,q,[]⟩) (hy:ev S y=some ⟨0,.lst l2,n2,q2,p2⟩) (hnn:(Nat.ble 200000 n&&Nat.blt n 400000)=true) (hn2:(Nat.ble 200000 nn&&Nat.blt nn 400000)=true) (hne:Nat.beq n nn=false) (hlv:S n=some (.tok e size)) (hl2:∀ c∈l2,c.size=size) (hbd:l2.length≤100000000000) :
  AOp P w0 U0 nt ops o (gs++(rd x++(rd y++[n]))) [(nn,[])] S [(d,.sl nn 0 l2.length size),(nn,.mrow e size l2),(n,.no)]:=by
 intro s hs hN a w ⟨D,hv,h⟩ Q K hK
 rw [if_pos (hg s (fun k hk=>hs k (List.mem_append_left _ hk)) a w D hv h)]
 obtain ⟨h1,h2⟩:VRep (Us w0 U0 D) w (.lst []) (a.eval x)∧Tk hv (a8 s) ⟨0,.lst [],n,q,[]⟩ (a.eval x).cells.toList:=i9 h (fun k hk=>hs k (List.mem_append_right _ (List.mem_append_left _ hk))) hx
 have h3:=A0 h (fun k hk=>hs k (List.mem_append_right _ (List.mem_append_right _ (List.mem_append_left _ hk)))) hy
 have hrn:=rnB hnn
 have hrn2:=rnB hn2
 have hok:k9 n:=⟨by omega,by omega⟩
 have hlk:=(hs n (by simp)).trans hlv
 have hlive:r9 s n (e,size):=⟨hlk,hrn.1,hrn.2⟩
 have hval:a.eval x=hv n:=by
  obtain ⟨m,c,g1,g2⟩:=h2 (.inr ⟨_,hlive⟩)
  simp only at g1
  rw [R8] at g1
  cases g1
  obtain ⟨ao,k,c,e1,_⟩:=j5.1 h1
  unfold G9 at g2
  rw [if_neg (by show n≠1;omega)] at g2
  rw [e1] at g2 ⊢
  simpa [Value.cells] using g2
 obtain ⟨k,xs,g1,g2⟩:∃ k xs,w.ownsRow 0 e size (hv n) k xs∧0<size:=h.obj n _ hlk hok
 have hvs:hb (hv n)=(hv n).ownBlock∧lenOf (hv n)=k:=by
  rcases g1.2 with ⟨e1,e2⟩ | ⟨g,cap,cur,e1,_⟩
  ·rw [e1,e2];exact ⟨rfl,rfl⟩
  ·rw [e1];exact ⟨rfl,rfl⟩
 have hk0:k=0:=by
  obtain ⟨ao,k',c,e1,e2,_⟩:=j5.1 h1
  rw [hval] at e1
  rw [e1] at hvs
  have:k'=k:=hvs.2
  rw [←this,e2];rfl
 subst hk0
 have hx0:xs=[]:=List.eq_nil_of_length_eq_zero (by simpa using g1.1)
 subst hx0
 have hne':n≠nn:=fun e=>by rw [e,Nat.beq_refl] at hne;cases hne
 refine b0w (l:=[]) (n:=nn) (h.kill hok) hd (bL hn) (bL h5) hrn2 (fun k av hk=>?_) ho ht hi (Nat.eq_of_beq_eq_true hzs) (bL hsz) (Nat.le_of_ble_eq_true hbt) (fun c hc=>by cases hc) hl2 (by simpa using hbd) hval h3 g1 rfl (fun g hg=>?_) (fun a' w' hs'=>hK a' w' ?_)
 ·by_cases e:n=k
  ·subst e
   rw [lS] at hk
   cases hk
   refine ⟨by show 0≠_;omega,?_⟩
   have hfn:fnm n=100000:=by
    unfold fnm
    have:Nat.ble 500000 n=false:=by
     cases hb:Nat.ble 500000 n with
     | false=>rfl
     | true=>have:=Nat.le_of_ble_eq_true hb;omega
    rw [this]
   rw [hfn]
   omega
  ·rw [lN e] at hk;exact (hN (nn,[]) (by simp)).nr k av hk
 ·rw [←hvs.1] at hg
  obtain ⟨f1,f2,f3⟩:=h.blk n _ g hlk hok (by simp) hg
  rw [J5 rfl] at f1
  refine ⟨?_,fun o=>f3 o fun _=>?_,fun q av h6 h7 h8 h9=>?_⟩
  ·rcases f1 with f1 | f1
   ·exact .inl f1
   ·exact absurd rfl f1.1
  ·rw [hvs.2];simp
  ·have hq:n≠q:=fun e=>by subst e;rw [lS] at h6;cases h6;exact h8 rfl
   rw [lN hq] at h6
   exact h.disj n q _ av g hlk h6 hok h7 (by simp) h8 hq hg
 ·simpa using hs'
theorem zU {P:Program} {w0:World} {U0:UX} {nt:Nat} {ops:Array Oper} {o:Oper} {S:Nat→Option AV} {gs:List Nat} {d:Nat} {x:Operand} {y:Operand} {t:Nat} {e:Nat} {size:Nat} {bytes:Nat} {z:Value} {l2:List CV} {n} {q} {n2} {q2} {p2} (nn:Nat) (p:Gd w0 U0 nt ops o gs S:=by exact gN rfl) (r:o.dst=some d:=by exact rfl) (u:Nat.blt d nt=true:=by exact rfl) (v:Nat.blt d 100000=true:=by exact rfl) (A:o.op = .call { callee := .builtin .append,args := #[x,y],argTypes := #[t,t] }:=by exact rfl) (B:P.underlying t=some (.slice e):=by exact rfl) (C:(P.info? e).map (fun i=>(i.zero,i.size,i.bytes))=some (some z,size,bytes):=by exact rfl) (E:Nat.beq z.cells.size size=true:=by exact rfl) (F:Nat.blt 0 size=true:=by exact rfl) (G:Nat.ble bytes 1000=true:=by exact rfl) (H:ev S x=some ⟨0,.lst [],n,q,[]⟩:=by exact rfl) (hy:ev S y=some ⟨0,.lst l2,n2,q2,p2⟩:=by exact rfl) (hnn:(Nat.ble 200000 n&&Nat.blt n 400000)=true:=by exact rfl) (hn2:(Nat.ble 200000 nn&&Nat.blt nn 400000)=true:=by exact rfl) (hne:Nat.beq n nn=false:=by exact rfl) (hlv:S n=some (.tok e size):=by exact rfl) (hl2:∀ c∈l2,c.size=size:=by first | assumption | exact sZ rfl | exact Tm.size_all _ | exact Bd.size_all _ | exact i7 _ | exact bys_size _ | exact Lt.size_all _) (hbd:l2.length≤100000000000:=by first | omega | (simp only [List.length_map,List.length_append,List.length_cons,List.length_nil]<;>omega) | (simp<;>omega)):AOp P w0 U0 nt ops o (gs++(rd x++(rd y++[n]))) [(nn,[])] S [(d,.sl nn 0 l2.length size),(nn,.mrow e size l2),(n,.no)]:=b7l nn p r u v A B C E F G H hy hnn hn2 hne hlv hl2 hbd
theorem b9w (nn:Nat) (hg:Gd w0 U0 nt ops o gs S) (hd:o.dst=some d) (hn:Nat.blt d nt=true) (h5:Nat.blt d 100000=true) {x y:Operand} {t e size bytes:Nat} {z:Value} {l l2:List CV} {n len n2 q2 p2} (ho:o.op = .call { callee := .builtin .append,args := #[x,y],argTypes := #[t,t] }) (ht:P.underlying t=some (.slice e)) (hi:(P.info? e).map (fun i=>(i.zero,i.size,i.bytes))=some (some z,size,bytes)) (hzs:Nat.beq z.cells.size size=true) (hbt:Nat.ble bytes 1000=true)
  (hx:ev S x=some (.sl n 0 len size)) (hy:ev S y=some ⟨0,.lst l2,n2,q2,p2⟩) (hn2:(Nat.ble 200000 nn&&Nat.blt nn 400000)=true) (hne:(!Nat.beq n nn&&(Nat.blt n 300000||Nat.ble 300000 nn))=true) (hlv:S n=some (.mrow e size l)) (hlen:len=l.length) (hl2:∀ c∈l2,c.size=size) (hbd:l.length+l2.length≤100000000000) :
  AOp P w0 U0 nt ops o (gs++(rd x++(rd y++[n]))) [(nn,[])] S [(d,.sl nn 0 (l.length+l2.length) size),(nn,.mrow e size (l++l2)),(n,.no)]:=by
 intro s hs hN a w ⟨D,hv,h⟩ Q K hK
 rw [if_pos (hg s (fun k hk=>hs k (List.mem_append_left _ hk)) a w D hv h)]
 obtain ⟨hrn,hsl⟩:RN n∧SlV (hv n) 0 len size (a.eval x):=i9 h (fun k hk=>hs k (List.mem_append_right _ (List.mem_append_left _ hk))) hx
 have h3:=A0 h (fun k hk=>hs k (List.mem_append_right _ (List.mem_append_right _ (List.mem_append_left _ hk)))) hy
 have hrn2:=rnB hn2
 have hrn':=hrn
 unfold RN at hrn'
 have hok:k9 n:=⟨by omega,by omega⟩
 have hlk:=(hs n (by simp)).trans hlv
 obtain ⟨xs,g1,g2,g3,g4⟩:=h.mrow hlk hrn
 have hval:a.eval x=hv n:=by
  obtain ⟨ao,m,cap,ao',e1,e2,e3,e4,_⟩:=hsl
  obtain ⟨ao2,cap2,f1,f2,f3⟩:=a8u g1
  rw [f1] at e1 ⊢
  injection e1 with e5 e6 e7
  subst e5;subst e6;subst e7
  rw [e2,e4 rfl,hlen];rfl
 have hvs:hb (hv n)=(hv n).ownBlock:=by
  rcases g1.2 with ⟨e1,e2⟩ | ⟨g,cap,cur,e1,_⟩
  ·rw [e1];rfl
  ·rw [e1];rfl
 rw [Bool.and_eq_true,Bool.or_eq_true] at hne
 have hne':n≠nn:=fun e=>by rw [e,Nat.beq_refl] at hne;exact absurd hne.1 (by decide)
 refine b0w (l:=l) (n:=nn) (h.kill hok) hd (bL hn) (bL h5) hrn2 (fun k av hk=>?_) ho ht hi (Nat.eq_of_beq_eq_true hzs) g2 (Nat.le_of_ble_eq_true hbt) g3 hl2 hbd hval h3 g1 g4 (fun g hg=>?_) (fun a' w' hs'=>hK a' w' hs')
 ·by_cases e:n=k
  ·subst e
   rw [lS] at hk
   cases hk
   refine ⟨by show 0≠_;omega,?_⟩
   have hfn:fnm n=100000:=by
    unfold fnm
    have:Nat.ble 500000 n=false:=by
     cases hb:Nat.ble 500000 n with
     | false=>rfl
     | true=>have:=Nat.le_of_ble_eq_true hb;omega
    rw [this]
   rw [hfn]
   omega
  ·rw [lN e] at hk;exact (hN (nn,[]) (by simp)).nr k av hk
 ·rw [←hvs] at hg
  obtain ⟨f1,f2,f3⟩:=h.blk n _ g hlk hok (by simp) hg
  refine ⟨?_,fun o=>f3 o (fun e=>by cases e),fun q av h6 h7 h8 h9=>?_⟩
  ·rcases f1 with f1 | f1
   ·exact .inl f1
   ·rcases hne.2 with h6 | h6
    ·rw [a1b (bL h6)] at f1;exact absurd rfl f1.1
    ·exact .inr ⟨by rw [a2H (Nat.le_of_ble_eq_true h6)];simp,f1.2⟩
  ·have hq:n≠q:=fun e=>by subst e;rw [lS] at h6;cases h6;exact h8 rfl
   rw [lN hq] at h6
   exact h.disj n q _ av g hlk h6 hok h7 (by simp) h8 hq hg
theorem z9 {P:Program} {w0:World} {U0:UX} {nt:Nat} {ops:Array Oper} {o:Oper} {S:Nat→Option AV} {gs:List Nat} {d:Nat} {x:Operand} {y:Operand} {t:Nat} {e:Nat} {size:Nat} {bytes:Nat} {z:Value} {l:List CV} {l2:List CV} {n} {len} {n2} {q2} {p2} (nn:Nat) (p:Gd w0 U0 nt ops o gs S:=by exact gN rfl) (r:o.dst=some d:=by exact rfl) (u:Nat.blt d nt=true:=by exact rfl) (v:Nat.blt d 100000=true:=by exact rfl) (A:o.op = .call { callee := .builtin .append,args := #[x,y],argTypes := #[t,t] }:=by exact rfl) (B:P.underlying t=some (.slice e):=by exact rfl) (C:(P.info? e).map (fun i=>(i.zero,i.size,i.bytes))=some (some z,size,bytes):=by exact rfl) (E:Nat.beq z.cells.size size=true:=by exact rfl) (F:Nat.ble bytes 1000=true:=by exact rfl) (G:ev S x=some (.sl n 0 len size):=by exact rfl) (H:ev S y=some ⟨0,.lst l2,n2,q2,p2⟩:=by exact rfl) (hn2:(Nat.ble 200000 nn&&Nat.blt nn 400000)=true:=by exact rfl) (hne:(!Nat.beq n nn&&(Nat.blt n 300000||Nat.ble 300000 nn))=true:=by exact rfl) (hlv:S n=some (.mrow e size l):=by exact rfl) (hlen:len=l.length:=by first | rfl | omega | (simp only [List.length_set,List.length_map,List.length_append,List.length_cons,List.length_nil]<;>omega) | (simp<;>omega)) (hl2:∀ c∈l2,c.size=size:=by first | assumption | exact sZ rfl | exact Tm.size_all _ | exact Bd.size_all _ | exact i7 _ | exact bys_size _ | exact Lt.size_all _) (hbd:l.length+l2.length≤100000000000:=by first | omega | (simp only [List.length_map,List.length_append,List.length_cons,List.length_nil]<;>omega) | (simp<;>omega)):AOp P w0 U0 nt ops o (gs++(rd x++(rd y++[n]))) [(nn,[])] S [(d,.sl nn 0 (l.length+l2.length) size),(nn,.mrow e size (l++l2)),(n,.no)]:=b9w nn p r u v A B C E F G H hn2 hne hlv hlen hl2 hbd
theorem b4a (hg:Gd w0 U0 nt ops o gs S) (hd:o.dst=none) {x:Operand} {t e e':TypeId} {ts:Array TypeId} {n lo len z:Nat} {l:List CV} {zc:CV} (ho:o.op = .call { callee := .builtin .clear,args := #[x],argTypes:=ts }) (ht:ts[0]?=some t) (hu:P.underlying t=some (.slice e)) (hzc:S0 P e=some zc) (hx:ev S x=some (.sl n lo len z)) (hm':S n=some (.mrow e' z l)) (hzz:zc.size=z) (hl:lo+len≤l.length) :
  AOp P w0 U0 nt ops o (gs++(rd x++[n])) [] S [(n,.mrow e' z (l.take lo++(List.replicate len zc++l.drop (lo+len))))]:=by
 intro s hs hN a w ⟨D,hv,h⟩ Q K hK
 rw [if_pos (hg s (fun k hk=>hs k (List.mem_append_left _ hk)) a w D hv h)]
 have hm:=(hs n (by simp)).trans hm'
 obtain ⟨hrn,ao,m,cap,ao',h1,h2,h3,h4,h6,h7⟩:RN n∧SlV (hv n) lo len z (a.eval x):=i9 h (fun k hk=>hs k (List.mem_append_right _ (List.mem_append_left _ hk))) hx
 obtain ⟨xs,g1,g2,g3,g4⟩:=h.mrow hm hrn
 obtain ⟨it,zv,i1,i2,i3⟩:=J1 hzc
 by_cases hl0:len=0
 ·subst hl0
  have he:(execOp a.eval o).run P w = .ok (.value (.tuple #[])) w:=by
   generalize a.eval=ρ at h2 ⊢
   cases ao'<;>simp [execOp,ho,resolve,invoke,builtin,Builtin.clear_,ht,h2,run_underlying hu]
  unfold Oper.wp
  rw [he,Oper.upon_value,hd]
  have:l.take lo++(List.replicate 0 zc++l.drop (lo+0))=l:=by simp
  refine hK _ _ ⟨D,hv,h.congr fun k=>?_⟩
  rw [this]
  by_cases e:n=k
  ·subst e;rw [List.cons_append,lS];exact hm.symm
  ·rw [List.cons_append,lN e];rfl
 obtain ⟨g,cap',cur,f1,f2,f3,f4,f6,f7,f8,f9⟩:=T7 g1 (by omega)
 obtain rfl:cap=cap':=by rw [f1] at h1;injection h1 with k1 k2 k3;exact k3.symm
 obtain rfl:ao=some ⟨g,0,none⟩:=by rw [f1] at h1;injection h1 with k1 k2 k3;exact k1.symm
 have ha:ao'=some ⟨g,lo*z,none⟩:=h6 (by omega) g rfl
 subst ha
 have hzl:zv.cells.size=z:=by have:=(i3 (fun _ _=>True) w).len;rw [hzz] at this;simpa using this
 obtain ⟨zs,hzs⟩:∃ zs,zs=(List.replicate len zv.cells.toList).flatten:=⟨_,rfl⟩
 have hzsl:zs.length=len*z:=by rw [hzs];simp [hzl]
 have hzc2:(Builtin.zeroCells zv.cells len).toList=zs:=by
  rw [hzs]
  apply List.ext_getElem?
  intro k
  rw [J3 g2 _ (by intro v hv';rw [List.mem_replicate] at hv';rw [hv'.2];simpa using hzl)]
  unfold Builtin.zeroCells
  rw [hzl]
  by_cases hk:k<len*z
  ·have e1:k / z<len:=(Nat.div_lt_iff_lt_mul g2).2 hk
   have e2:k % z<zv.cells.size:=by rw [hzl];exact Nat.mod_lt _ g2
   simp [hk,List.getElem?_replicate,e1,e2]
  ·have e1:¬ k / z<len:=by rw [Nat.div_lt_iff_lt_mul g2];exact hk
   simp [hk,List.getElem?_replicate,e1]
 have hone:∀ v∈zs,v.oneCell'=true:=by
  intro v hv'
  rw [hzs,List.mem_flatten] at hv'
  obtain ⟨r,hr1,hr2⟩:=hv'
  rw [List.mem_replicate] at hr1
  rw [hr1.2] at hr2
  exact (i3 (fun _ _=>True) w).one v hr2
 have hcl:lo*z+len*z≤l.length*z:=by rw [←Nat.add_mul];exact Nat.mul_le_mul_right _ hl
 have hcap:l.length*z≤cap*z:=Nat.mul_le_mul_right _ f3
 have hst:=run_storeCells_at (P:=P) g (lo*z) e' zs 0 cur w f2 (by rw [hzsl,f6];omega) hone
 rw [Nat.add_zero] at hst
 have he:(execOp a.eval o).run P w = .ok (.value (.tuple #[])) (w.setRow g (cur.toList.take (lo*z)++zs++cur.toList.drop (lo*z+zs.length)).toArray):=by
  have hzv:(zeroValue e).run P w = .ok zv w:=by simp [zeroValue,typeInfo,i1,i2]
  obtain ⟨len',rfl⟩:∃ k,len=k+1:=⟨len-1,by omega⟩
  generalize a.eval=ρ at h2 ⊢
  simp [execOp,ho,resolve,invoke,builtin,Builtin.clear_,ht,h2,run_underlying hu,hzv,hzc2,hst]
 unfold Oper.wp
 rw [he,Oper.upon_value,hd]
 have hok:k9 n:=by unfold RN at hrn;unfold k9;omega
 obtain ⟨l',hl'⟩:∃ l',l'=l.take lo++(List.replicate len zc++l.drop (lo+len)):=⟨_,rfl⟩
 have hll:l'.length=l.length:=by rw [hl'];simp;omega
 refine hK _ _ ?_
 rw [←hl']
 refine ⟨_,_,h.store (av := .mrow e' z l') hok hm (by simp) (by simp) rfl (fun g' hn o _=>hn o (by simp)) (by simp) f9 f2 fun w' hw hkp=>?_⟩
 have hsplit:l=l.take lo++((l.drop lo).take len++(l.drop lo).drop len):=by rw [List.take_append_drop,List.take_append_drop]
 have g4':=g4
 rw [hsplit,List.map_append,List.map_append] at g4'
 obtain ⟨y1,r1,e1,s1,s2⟩:=t9 g4'
 obtain ⟨y2,y3,e2,s3,s4⟩:=t9 s2
 have hy1:y1.length=lo*z:=by rw [C5 (n:=CV.size) (fun c _ xs h=>h.len) s1,r5 (fun c hc=>g3 c (List.mem_of_mem_take hc)),List.length_take,Nat.min_eq_left (by omega)]
 have hy2:y2.length=len*z:=by rw [C5 (n:=CV.size) (fun c _ xs h=>h.len) s3,r5 (fun c hc=>g3 c (List.mem_of_mem_drop (List.mem_of_mem_take hc))),List.length_take,List.length_drop,Nat.min_eq_left (by omega)]
 have hy3:y1.length+(y2.length+y3.length)=l.length*z:=by have:=g1.1;rw [e1,e2] at this;simpa using this
 have hcur:cur.toList=y1++(y2++(y3++cur.toList.drop (l.length*z))):=by
  conv=>lhs;rw [←List.take_append_drop (l.length*z) cur.toList,f7,e1,e2]
  simp
 have hnew:cur.toList.take (lo*z)++zs++cur.toList.drop (lo*z+zs.length)=(y1++(zs++y3))++cur.toList.drop (l.length*z):=by
  have t1:cur.toList.take (lo*z)=y1:=by rw [hcur,←hy1];simp
  have t2:cur.toList.drop (lo*z+zs.length)=y3++cur.toList.drop (l.length*z):=by
   rw [hzsl,←hy1,←hy2]
   conv=>lhs;rw [hcur]
   rw [←List.append_assoc,List.drop_append_of_le_length (by simp)]
   simp
  rw [t1,t2]
  simp
 rw [hnew] at hw
 refine ⟨y1++(zs++y3),⟨?_,.inr ⟨g,cap,_,?_,Nat.zero_le _,hw,?_,f4,?_,?_⟩⟩,g2,fun x hx=>?_,?_⟩
 ·show _=l'.length*z
  rw [hll]
  simp only [List.length_append,hzsl]
  omega
 ·show hv n = .slice _ l'.length cap
  rw [hll];exact f1
 ·show l'.length≤cap
  rw [hll];exact f3
 ·have:=congrArg List.length hcur
  rw [Array.length_toList,f6] at this
  simp only [List.size_toArray,List.length_append,hzsl] at this ⊢
  show _=cap*z
  omega
 ·show List.take (l'.length*z) _=_
  rw [hll,List.take_append_of_le_length (by simp only [List.length_append,hzsl];omega),List.take_of_length_le (by simp only [List.length_append,hzsl];omega)]
 ·have hx:x∈l':=hx
  rw [hl',List.mem_append,List.mem_append] at hx
  rcases hx with hx | hx | hx
  ·exact g3 x (List.mem_of_mem_take hx)
  ·rw [List.mem_replicate] at hx;rw [hx.2,hzz];rfl
  ·exact g3 x (List.mem_of_mem_drop hx)
 ·show Sq (l'.map fun c=>Rep (Us w0 U0 D) w' c) _
  rw [hl',List.map_append,List.map_append]
  refine B6 (Sq.keep hkp s1) (B6 ?_ ?_)
  ·rw [hzs];exact a5L (i3 _ _) len
  ·rw [←List.drop_drop]
   exact Sq.keep hkp s4
theorem zY {P:Program} {w0:World} {U0:UX} {nt:Nat} {ops:Array Oper} {o:Oper} {S:Nat→Option AV} {gs:List Nat} {x:Operand} {t:TypeId} {e:TypeId} {e':TypeId} {ts:Array TypeId} {n:Nat} {lo:Nat} {len:Nat} {z:Nat} {l:List CV} {zc:CV} (p:Gd w0 U0 nt ops o gs S:=by exact gN rfl) (q:o.dst=none:=by exact rfl) (u:o.op = .call { callee := .builtin .clear,args := #[x],argTypes:=ts }:=by exact rfl) (y:ts[0]?=some t:=by exact rfl) (A:P.underlying t=some (.slice e):=by exact rfl) (B:S0 P e=some zc:=by exact rfl) (C:ev S x=some (.sl n lo len z):=by exact rfl) (E:S n=some (.mrow e' z l):=by exact rfl) (F:zc.size=z:=by exact rfl) (G:lo+len≤l.length:=by first | rfl | omega | (simp only [List.length_set,List.length_map,List.length_append,List.length_cons,List.length_nil]<;>omega) | (simp<;>omega)):AOp P w0 U0 nt ops o (gs++(rd x++[n])) [] S [(n,.mrow e' z (l.take lo++(List.replicate len zc++l.drop (lo+len))))]:=b4a p q u y A B C E F G
theorem b0l (d n:Nat) {e z lo len:Nat} {l:List CV} (hs:look s d=some (.sl n lo len z)) (hm:look s n=some (.mrow e z l)) (hd:Nat.blt d 100000=true) (hloc:(∀ b,¬ U0.x b)∨n<300000) (hlen:lo+len≤l.length) {s':AS} (hsub:SubL s s') (hk:W7 s' n=true):Wk w0 U0 nt s ((d,.val (.lst ((l.drop lo).take len)))::s'):=by
 rintro a w ⟨D,hv,h⟩
 have hd:=bL hd
 obtain ⟨v,g1,hrn,ao,m,cap,ao',h1,h2,h3,h4,h6,h7⟩:∃ v,a.tmps[d]?=some v∧RN n∧SlV (hv n) lo len z v:=h.slot d _ hs hd
 have h2:v = .slice ao' len (cap-lo):=h2
 obtain ⟨xs,f1,f2,f3,f4⟩:=h.mrow hm hrn
 have hrn':=hrn
 unfold RN at hrn'
 have hok:k9 n:=⟨by omega,by omega⟩
 have hsub':=hsub.sub
 have hno:∀ av,look s' n≠some av:=fun av h8=>by
  have h9:=C9 h8
  unfold W7 at hk
  rw [List.all_eq_true] at hk
  have:=hk _ h9
  simp at this
 rcases f1.2 with ⟨e1,e2⟩ | ⟨g,cap',cur,e1,_,e3,e4,e5,e6,e7⟩
 ·
  have hl0:l=[]:=List.eq_nil_of_length_eq_zero e2
  subst hl0
  rw [e1] at h1
  injection h1 with h1 h8 h9
  subst h1;subst h8;subst h9
  have hlo:lo=0:=by simp at hlen;omega
  have hle:len=0:=by simp at hlen;omega
  subst hlo;subst hle
  have hao:ao'=none:=h7.2 rfl
  refine ⟨D,hv,(h.sub hsub').know hd g1 (k8 ?_)⟩
  rw [h2,hao]
  exact j5.2 ⟨none,0,0,rfl,rfl,Nat.le_refl _,by unfold maxLen;omega,fun _=>⟨rfl,rfl⟩,[],.inl rfl,rfl⟩
 ·obtain rfl:cap=cap':=by rw [e1] at h1;injection h1 with k1 k2 k3;exact k3.symm
  obtain rfl:ao=some ⟨g,0,none⟩:=by rw [e1] at h1;injection h1 with k1 k2 k3;exact k1.symm
  have hgb:hb (hv n)=some g:=by rw [e1];rfl
  obtain ⟨b1,b2,b3⟩:=h.blk n _ g hm hok (by simp) hgb
  have hge:w0.heap.size≤g:=by
   rcases b1 with b1 | b1
   ·exact b1
   ·rcases hloc with hloc | hloc
    ·exact absurd b1.2 (hloc g)
    ·exact absurd (a1b hloc _) b1.1
  have hG:=(h.sub hsub').moreD (g:=g) b2 fun k av h10 h11 h12 h13=>h.disj n k _ av g hm (hsub' _ _ h10) hok h11 (by simp) h12 (fun e=>hno av (e▸h10)) hgb h13
  refine ⟨_,hv,hG.know hd g1 (k8 ?_)⟩
  rw [h2]
  have hkp:∀ b o v,Us w0 U0 D b o→w.cell? ⟨b,o,none⟩=some v→Us w0 U0 (fun b o=>D b o∨b=g) b o∧w.cell? ⟨b,o,none⟩=some v:=fun b o v hu hc=>⟨hu.imp id fun h=>⟨h.1,.inl h.2⟩,hc⟩
  have hsplit:l=l.take lo++((l.drop lo).take len++(l.drop lo).drop len):=by rw [List.take_append_drop,List.take_append_drop]
  have f4':=f4
  rw [hsplit,List.map_append,List.map_append] at f4'
  obtain ⟨y1,r1,c1,s1,s2⟩:=t9 f4'
  obtain ⟨y2,y3,c2,s3,s4⟩:=t9 s2
  have hy1:y1.length=lo*z:=by rw [C5 (n:=CV.size) (fun c _ xs h=>h.len) s1,r5 (fun c hc=>f3 c (List.mem_of_mem_take hc)),List.length_take,Nat.min_eq_left (by omega)]
  refine j5.2 ⟨ao',len,cap-lo,rfl,by simp;omega,by omega,by omega,fun h10=>?_,y2,?_,Sq.keep hkp s3⟩
  ·have:=h7.1 h10;cases this
  ·by_cases hlc:lo<cap
   ·refine .inr ⟨g,lo*z,h6 hlc g rfl,fun i hi=>⟨.inr ⟨hge,.inr rfl⟩,?_⟩⟩
    have hlt:lo*z+i<l.length*z:=by
     have:=f1.1
     rw [c1,c2] at this
     simp only [List.length_append] at this
     omega
    rw [a0Q f1 (by rw [e1];rfl) hlt,c1,c2,←hy1,List.getElem?_append_right (by omega),List.getElem?_append_left (by omega)]
    congr 1
    omega
   ·left
    have:len=0:=by omega
    rw [this] at s3
    exact s3
def L4 (P:Program) (W:World) (fc:CV) (args:List CV) (r:AV):Prop:=AFunV P W fc args r∨∃ f,fc = .sc (.func (.func f) #[] #[])∧AFun P W f args r
theorem b7j {x:Operand} {xs:Array Operand} {ts:Array TypeId} {fc:CV} {cs:List CV} {r:AV} {n q p} (hg:Gd w0 U0 nt ops o gs S) (hd:o.dst=some d) (hn:Nat.blt d nt=true) (h5:Nat.blt d 100000=true)
  (ho:o.op = .call { callee := .value x,args:=xs,argTypes:=ts }) (hf:ev S x=some ⟨0,fc,n,q,p⟩) (hx:Y3 S xs.toList=some cs) (hc:L4 P w0 fc cs r):AOp P w0 U0 nt ops o (gs++(rd x++rdl xs.toList)) [] S [(d,r)]:=by
 rcases hc with hc | ⟨f,rfl,hc⟩
 ·exact b1o hg hd hn h5 ho hf hx hc
 intro s hs _ a w ⟨D,hv,h⟩ Q K hK
 rw [if_pos (hg s (fun k hk=>hs k (List.mem_append_left _ hk)) a w D hv h)]
 have hargs:=E7 h (fun k hk=>hs k (List.mem_append_right _ (List.mem_append_right _ hk))) hx
 have hfv:=s9 h (fun k hk=>hs k (List.mem_append_right _ (List.mem_append_left _ hk))) hf
 obtain ⟨h1,h2,h3,h4⟩:=hc
 have hcall:=h4 _ w _ trivial hargs
 have he:(execOp a.eval o).run P w = .ok (.enter f (xs.toList.map a.eval).toArray) w:=by
  have hen:=h1 (xs.map a.eval) w
  have harr:(xs.toList.map a.eval).toArray=xs.map a.eval:=by apply Array.ext';simp
  rw [harr]
  generalize a.eval=ρ at hfv hen ⊢
  simp [execOp,ho,resolve,invoke,Deferred.ofValue,hfv,hen]
 unfold Oper.wp
 rw [he,Oper.upon_enter]
 refine hcall.mono ?_
 rintro e w' ⟨v,rfl,h6,h7⟩
 rw [hd]
 exact hK _ _ ⟨Dn D w w',hv,(h.growN h7).put (bL hn) (bL h5) (O5 h2 h3 (T8 rfl h7.size h.below.size h6))⟩
theorem zK {P:Program} {w0:World} {U0:UX} {nt:Nat} {ops:Array Oper} {o:Oper} {S:Nat→Option AV} {gs:List Nat} {d:Nat} {x:Operand} {xs:Array Operand} {ts:Array TypeId} {fc:CV} {cs:List CV} {r:AV} {n} {q} {p} (t:Gd w0 U0 nt ops o gs S:=by exact gN rfl) (u:o.dst=some d:=by exact rfl) (y:Nat.blt d nt=true:=by exact rfl) (z:Nat.blt d 100000=true:=by exact rfl) (A:o.op = .call { callee := .value x,args:=xs,argTypes:=ts }:=by exact rfl) (B:ev S x=some ⟨0,fc,n,q,p⟩:=by exact rfl) (C:Y3 S xs.toList=some cs:=by exact rfl) (E:L4 P w0 fc cs r):AOp P w0 U0 nt ops o (gs++(rd x++rdl xs.toList)) [] S [(d,r)]:=b7j t u y z A B C E
theorem AWp.nil {c:Code} {Q:Exit→AS→Prop} (d:Nat) {l:List CV} (h5:Nat.blt d 100000=true) (hs:look s d=some (.val (.lst l))) (h1:l=[]→AWp P w0 U0 nt c Q ((d,⟨0,.lst [],1,0,[]⟩)::s)) (h2:AWp P w0 U0 nt c Q ((d,⟨16,.lst l,0,0,[]⟩)::s)):AWp P w0 U0 nt c Q s:=by
 intro M a w ⟨D,hv,h⟩
 have h5:=bL h5
 obtain ⟨v,g1,g2⟩:=h.slot d _ hs h5
 have g2:VRep (Us w0 U0 D) w (.lst l) v:=g2.1
 cases hn:E9 v with
 | false=>exact h2 M a w ⟨D,hv,h.know h5 g1 ⟨g2,hn⟩⟩
 | true =>
  have hv0:=a8e hn
  subst hv0
  obtain ⟨ao,n,cc,e1,e2,_⟩:=j5.1 g2
  injection e1 with _ e3 _
  have hl:l=[]:=List.eq_nil_of_length_eq_zero (by omega)
  subst hl
  exact h1 rfl M a w ⟨D,hv,h.know h5 g1 ⟨g2,fun _=>⟨0,.lst [],rfl,rfl⟩⟩⟩
theorem b9c (d:Nat) {c:CV} (h5:Nat.blt d 100000=true) (hs:look s d=some ⟨16,c,0,0,[]⟩):Wk w0 U0 nt s ((d,.val c)::s):=by
 rintro a w ⟨D,hv,h⟩
 have h5:=bL h5
 obtain ⟨v,g1,g2⟩:=h.slot d _ hs h5
 exact ⟨D,hv,h.know h5 g1 (k8 g2.1)⟩
theorem a5b {t e:TypeId} (hu:P.underlying t=some (.slice e)) (v:Value) (w:World) (hv:∃ ao n c,v = .slice ao n c∧(ao=none→n=0∧c=0)):(Op.equal t v (.slice none 0 0)).run P w = .ok (E9 v) w:=by
 obtain ⟨ao,n,c,rfl,h⟩:=hv
 unfold Op.equal
 rw [show Op.maxDepth=9999+1 from rfl,Op.equalIn]
 cases ao with
 | none=>obtain ⟨rfl,rfl⟩:=h rfl;simp [run_underlying hu,E9]
 | some ad=>simp [run_underlying hu,E9]
theorem b6L (hg:Gd w0 U0 nt ops o gs S) (hd:o.dst=some d) (hn:Nat.blt d nt=true) (h5:Nat.blt d 100000=true) {x:Operand} {t1 t2 e:TypeId} {q} (ho:o.op = .binOp .eql t1 x (.const (.slice none 0 0)) t2) (hu:P.underlying t1=some (.slice e)) (hx:ev S x=some ⟨0,.lst [],1,q,[]⟩):AOp P w0 U0 nt ops o (gs++rd x) [] S [(d,.val (.b true))]:=
 d9 hg hd hn h5 (fun k hk=>List.mem_append_left _ hk) fun s hs a w D hv hm=>by
  obtain ⟨h1,h2⟩:VRep (Us w0 U0 D) w (.lst []) (a.eval x)∧Tk hv (a8 s) ⟨0,.lst [],1,q,[]⟩ (a.eval x).cells.toList:=i9 hm (fun k hk=>hs k (List.mem_append_right _ hk)) hx
  have hnil:a.eval x = .slice none 0 0:=by
   obtain ⟨m,c,g1,g2⟩:=h2 (.inl rfl)
   simp only at g1
   rw [R8] at g1
   cases g1
   obtain ⟨ao,k,c,e1,_⟩:=j5.1 h1
   rw [e1] at g2 ⊢
   simpa [Value.cells,G9] using g2
  refine ⟨.bool true,?_,p7 rfl⟩
  have hb:=a5b (P:=P) hu (.slice none 0 0) w ⟨none,0,0,rfl,fun _=>⟨rfl,rfl⟩⟩
  have hc:a.eval (.const (.slice none 0 0)) = .slice none 0 0:=rfl
  generalize a.eval=ρ at hnil hc ⊢
  simp [execOp,ho,hnil,hc,eqGuard,binOp,hb,E9]
theorem zQ {P:Program} {w0:World} {U0:UX} {nt:Nat} {ops:Array Oper} {o:Oper} {S:Nat→Option AV} {gs:List Nat} {d:Nat} {x:Operand} {t1:TypeId} {t2:TypeId} {e:TypeId} {q} (p:Gd w0 U0 nt ops o gs S:=by exact gN rfl) (r:o.dst=some d:=by exact rfl) (t:Nat.blt d nt=true:=by exact rfl) (u:Nat.blt d 100000=true:=by exact rfl) (v:o.op = .binOp .eql t1 x (.const (.slice none 0 0)) t2:=by exact rfl) (y:P.underlying t1=some (.slice e):=by exact rfl) (z:ev S x=some ⟨0,.lst [],1,q,[]⟩:=by exact rfl):AOp P w0 U0 nt ops o (gs++rd x) [] S [(d,.val (.b true))]:=b6L p r t u v y z
theorem b5k (hg:Gd w0 U0 nt ops o gs S) (hd:o.dst=some d) (hn:Nat.blt d nt=true) (h5:Nat.blt d 100000=true) {x:Operand} {t1 t2 e:TypeId} {l:List CV} {n q p} (ho:o.op = .binOp .eql t1 x (.const (.slice none 0 0)) t2) (hu:P.underlying t1=some (.slice e)) (hx:ev S x=some ⟨16,.lst l,n,q,p⟩):AOp P w0 U0 nt ops o (gs++rd x) [] S [(d,.val (.b false))]:=
 d9 hg hd hn h5 (fun k hk=>List.mem_append_left _ hk) fun s hs a w D hv hm=>by
  obtain ⟨h1,h2⟩:VRep (Us w0 U0 D) w (.lst l) (a.eval x)∧E9 (a.eval x)=false:=i9 hm (fun k hk=>hs k (List.mem_append_right _ hk)) hx
  obtain ⟨ao,k,c,e1,e2,e3,e4,e5,_⟩:=j5.1 h1
  refine ⟨.bool false,?_,p7 rfl⟩
  have hb:=a5b (P:=P) hu (a.eval x) w ⟨ao,k,c,e1,e5⟩
  rw [h2] at hb
  have hc:a.eval (.const (.slice none 0 0)) = .slice none 0 0:=rfl
  generalize a.eval=ρ at hb hc ⊢
  simp [execOp,ho,hc,eqGuard,binOp,hb]
theorem zR {P:Program} {w0:World} {U0:UX} {nt:Nat} {ops:Array Oper} {o:Oper} {S:Nat→Option AV} {gs:List Nat} {d:Nat} {x:Operand} {t1:TypeId} {t2:TypeId} {e:TypeId} {l:List CV} {n} {q} {p} (r:Gd w0 U0 nt ops o gs S:=by exact gN rfl) (t:o.dst=some d:=by exact rfl) (u:Nat.blt d nt=true:=by exact rfl) (v:Nat.blt d 100000=true:=by exact rfl) (y:o.op = .binOp .eql t1 x (.const (.slice none 0 0)) t2:=by exact rfl) (z:P.underlying t1=some (.slice e):=by exact rfl) (A:ev S x=some ⟨16,.lst l,n,q,p⟩:=by exact rfl):AOp P w0 U0 nt ops o (gs++rd x) [] S [(d,.val (.b false))]:=b5k r t u v y z A
theorem b6l (d n e z:Nat) (hs:look s d=some ⟨0,.lst [],1,0,[]⟩) (h5:Nat.blt d 100000=true) (hn:(Nat.ble 200000 n&&Nat.blt n 400000)=true) (hz:Nat.blt 0 z=true) (hr:D7 s [(n,[])]=true):Wk w0 U0 nt s ((d,.sl n 0 0 z)::(n,.mrow e z [])::s):=by
 rintro a w ⟨D,hv,h⟩
 have h5:=bL h5
 have hrn:=rnB hn
 have hz:=bL hz
 have hr:=(t8 hr (n,[]) (by simp)).nr
 obtain ⟨v,g1,g2⟩:=h.slot d _ hs h5
 have hv0:v = .slice none 0 0:=by
  obtain ⟨h1,h2⟩:VRep (Us w0 U0 D) w (.lst []) v∧Tk hv (a8 s) ⟨0,.lst [],1,0,[]⟩ v.cells.toList:=g2
  obtain ⟨m,c,f1,f2⟩:=h2 (.inl rfl)
  simp only at f1
  rw [R8] at f1
  cases f1
  obtain ⟨ao,k,c,e1,_⟩:=j5.1 h1
  rw [e1] at f2 ⊢
  simpa [Value.cells,G9] using f2
 have hG:=h.newrow (X:=fun _=>False) (avn := .mrow e z []) (v' := .slice none 0 0) hrn hr (by simp) (BelowX.refl _ _) (fun b hb=>hb.elim) (fun g hg=>by cases hg) (fun b o hd => .inl hd) h.dlt (fun b o u h1 h2=>⟨h1,h2⟩) (fun hv lv=>⟨[],World.ownsRow_nil _ _ _ _,hz,(fun c hc=>by cases hc),rfl⟩)
 refine ⟨D,_,hG.know h5 g1 ⟨RW.rn hrn,?_⟩⟩
 show SlV ((fun x=>if x=n then Value.slice none 0 0 else hv x) n) 0 0 z v
 simp only [if_true]
 rw [hv0]
 exact R2 rfl (Nat.le_refl _) (.inl rfl)
end
section
variable {P:Program} {w0:World} {U0:UX} {nt:Nat} {ops:Array Oper} {o:Oper} {S:Nat→Option AV} {gs:List Nat} {d:Nat} {s:AS} {a:Act} {w:World} {D:Nat→Nat→Prop} {hv:Nat→Value}
def b7t (av:AV):Bool:=match Nat.beq av.t 0 with | true=>Nat.beq av.c.k 2 | false=>false
theorem a7A {U:Nat→Nat→Prop} {c:CV} {v:Value} (h:VRep U w c v) (hk:c.k≠2):v.cells = #[v]∧v.oneCell'=true:=by
 unfold VRep at h
 rw [if_neg hk] at h
 have h1:=h.one v (by simp)
 exact ⟨by cases v<;>first | rfl | simp [Value.oneCell'] at h1,h1⟩
def b1d (av:AV):Bool:=Nat.beq av.t 0||Nat.beq av.t 2||Nat.beq av.t 11||Nat.beq av.t 12||Nat.beq av.t 15
theorem a1C {v:Value} (h:v.oneCell'=true):v.cells = #[v]:=by cases v<;>first | rfl | simp [Value.oneCell'] at h
theorem a5X {U:Nat→Nat→Prop} {lv:Nat→Prop} {av:AV} {v:Value} (h:AVRep U w hv lv av v) (hf:b1d av=true) (ht:av.t≠0):v.cells = #[v]∧v.oneCell'=true:=by
 unfold b1d at hf
 simp only [Bool.or_eq_true] at hf
 unfold AVRep at h
 rw [if_neg ht] at h
 rcases hf with (((hf | hf) | hf) | hf) | hf<;>have hf:=Nat.eq_of_beq_eq_true hf
 ·exact absurd hf ht
 ·rw [if_pos hf] at h;rw [h.2];exact ⟨rfl,rfl⟩
 ·rw [if_neg (by omega),if_neg (by omega),if_neg (by omega),if_pos hf] at h;rw [h.2];exact ⟨rfl,rfl⟩
 ·rw [if_neg (by omega),if_neg (by omega),if_neg (by omega),if_neg (by omega),if_pos hf] at h
  obtain ⟨_,ao,m,cap,ao',_,e,_⟩:=h
  rw [e];exact ⟨rfl,rfl⟩
 ·rw [if_neg (by omega),if_neg (by omega),if_neg (by omega),if_neg (by omega),if_neg (by omega),if_pos hf] at h
  exact ⟨a1C h.2.2,h.2.2⟩
theorem aLf (hg:Gd w0 U0 nt ops o gs S) (hd:o.dst=some d) (hn:Nat.blt d nt=true) (h5:Nat.blt d 100000=true) {x:Operand} {ty:TypeId} {ds:TypeDesc} {z n q:Nat} {p:List Nat} {k' v' l'} {av:AV} (ho:o.op = .load ty x) (hu:P.underlying ty=some ds) (hi:(P.info? ty).map (·.size)=some z) (hx:ev S x=some ⟨2,⟨k',v',l'⟩,n,q,p⟩) (hb:S (100000+n)=some .obj) (hf:S (b9 n q)=some av) (hq:Nat.blt q 100=true) (hz:av.sz=z) (hk:R6 ds=b7t av) (ht:b1d av=true):AOp P w0 U0 nt ops o (gs++(rd x++[100000+n,b9 n q])) [] S [(d,av)]:=
 d9 hg hd hn h5 (fun k hk=>List.mem_append_left _ hk) fun s hs a w D hv hm=>by
  obtain ⟨hbn,h1⟩:BN n∧a.eval x = .pointer (some ⟨o0 (hv (100000+n)),q,none⟩):=i9 hm (fun k hk=>hs k (List.mem_append_right _ (List.mem_append_left _ hk))) hx
  obtain ⟨v,g1,g2,g3⟩:=hm.fld n q av ((hs (b9 n q) (by simp)).trans hf) (bL hq) ((hs (100000+n) (by simp)).trans hb) hbn
  have hsz:=A7 (P:=P) (w:=w) hi
  refine ⟨v,?_,g1⟩
  have hl:(loadVar ty ⟨o0 (hv (100000+n)),q,none⟩).run P w = .ok v w:=by
   cases hag:b7t av with
   | true =>
    rw [hag] at hk
    unfold b7t at hag
    split at hag
    ·rename_i ht0
     have ht0:=Nat.eq_of_beq_eq_true ht0
     have hk2:=Nat.eq_of_beq_eq_true hag
     unfold AVRep at g1
     rw [if_pos ht0] at g1
     have g4:=g1.1
     unfold VRep at g4
     rw [if_pos hk2] at g4
     obtain ⟨xs,rfl,g5⟩:=g4
     have hxl:xs.length=z:=by rw [←hz,←g2];simp [Value.cells]
     have:=run_loadCells_list (P:=P) w ⟨o0 (hv (100000+n)),q,none⟩ xs (fun j u hj=>by
      have hjl:j<xs.length:=by
       rcases Nat.lt_or_ge j xs.length with h | h
       ·exact h
       ·rw [List.getElem?_eq_none h] at hj;cases hj
      rw [a0q,g3 j (by simpa [Value.cells] using hjl)]
      simpa [Value.cells] using hj)
     rw [hxl] at this
     simp [loadVar,V5 hu,hk,hsz,this]
    ·cases hag
   | false =>
    rw [hag] at hk
    have hv1:v.cells = #[v]:=by
     by_cases ht0:av.t=0
     ·unfold b7t at hag
      rw [ht0] at hag
      have hk2:av.c.k≠2:=fun e=>by rw [e] at hag;cases hag
      unfold AVRep at g1
      rw [if_pos ht0] at g1
      exact (a7A g1.1 hk2).1
     ·exact (a5X g1 ht ht0).1
    have:=g3 0 (by rw [hv1];simp)
    rw [hv1] at this
    simp only [Nat.add_zero] at this
    simp [loadVar,V5 hu,hk,run_load,this]
  generalize a.eval=ρ at h1 ⊢
  simp [execOp,ho,Instr.loadAt,Instr.sureAddr,h1,hl]
theorem z5 {P:Program} {w0:World} {U0:UX} {nt:Nat} {ops:Array Oper} {o:Oper} {S:Nat→Option AV} {gs:List Nat} {d:Nat} {x:Operand} {ty:TypeId} {ds:TypeDesc} {z:Nat} {n:Nat} {q:Nat} {p:List Nat} {k'} {v'} {l'} {av:AV} (r:Gd w0 U0 nt ops o gs S:=by exact gN rfl) (y:o.dst=some d:=by exact rfl) (A:Nat.blt d nt=true:=by exact rfl) (B:Nat.blt d 100000=true:=by exact rfl) (C:o.op = .load ty x:=by exact rfl) (E:P.underlying ty=some ds:=by exact rfl) (F:(P.info? ty).map (·.size)=some z:=by exact rfl) (G:ev S x=some ⟨2,⟨k',v',l'⟩,n,q,p⟩:=by exact rfl) (H:S (100000+n)=some .obj:=by exact rfl) (hf:S (b9 n q)=some av:=by exact rfl) (hq:Nat.blt q 100=true:=by exact rfl) (hz:av.sz=z:=by exact rfl) (hk:R6 ds=b7t av:=by exact rfl) (ht:b1d av=true:=by exact rfl):AOp P w0 U0 nt ops o (gs++(rd x++[100000+n,b9 n q])) [] S [(d,av)]:=aLf r y A B C E F G H hf hq hz hk ht
theorem SimG.storeF (h:SimG w0 U0 nt s a w D hv) {n q:Nat} (hbn:BN n) (hob:look s (100000+n)=some .obj) (hq:q<100) {av0 av:AV} (h0:look s (b9 n q)=some av0) (hsz:av.sz=av0.sz) (hz0:0<av.sz) {v:Value} (hav:AVRep (Us w0 U0 D) w hv (a8 s) av v) (hvs:v.cells.size=av.sz) :
  ∃ g ys zs us ty,o0 (hv (100000+n))=g∧w.heap[g]?=some (.cells (ys++zs++us).toArray ty (0,0))∧ys.length=q∧zs.length=av.sz∧SimG w0 U0 nt ((b9 n q,av)::s) a (w.setRow g (ys++v.cells.toList++us).toArray) D hv:=by
 obtain ⟨g,xs,ty,e1,e2,e3⟩:=h.obj9 hob hbn
 have hgb:hb (hv (100000+n))=some g:=by rw [e1];rfl
 obtain ⟨v0,f1,f2,f3⟩:=h.fld n q av0 h0 hq hob hbn
 obtain ⟨hmn,hlt,hD⟩:=h.blk (100000+n) _ g hob (F4 hbn) (by simp) hgb
 have hD':∀ o,¬ D g o:=fun o=>hD o fun e=>by cases e
 have hqz:q+av.sz≤xs.size:=by
  have:=f3 (av.sz-1) (by rw [f2,←hsz];omega)
  rw [e2] at this
  simp only [World.cell?,e3] at this
  rw [Array.getElem?_eq_getElem (xs:=v0.cells) (by rw [f2,←hsz];omega)] at this
  have h2:=(Array.getElem?_eq_some_iff.1 (by simpa using this)).1
  omega
 obtain ⟨ys,hys⟩:∃ ys,ys=xs.toList.take q:=⟨_,rfl⟩
 obtain ⟨zs,hzs⟩:∃ zs,zs=(xs.toList.drop q).take av.sz:=⟨_,rfl⟩
 obtain ⟨us,hus⟩:∃ us,us=(xs.toList.drop q).drop av.sz:=⟨_,rfl⟩
 have hxs:xs.toList=ys++zs++us:=by rw [hys,hzs,hus,List.append_assoc,List.take_append_drop,List.take_append_drop]
 have hyl:ys.length=q:=by rw [hys];simp;omega
 have hzl:zs.length=av.sz:=by rw [hzs];simp;omega
 have hvl:v.cells.toList.length=av.sz:=by simpa using hvs
 have hx':w.heap[g]?=some (.cells (ys++zs++us).toArray ty (0,0)):=by rw [←hxs,Array.toArray_toList];exact e3
 refine ⟨g,ys,zs,us,ty,e2,hx',hyl,hzl,?_⟩
 obtain ⟨w',hw'⟩:∃ w',w'=w.setRow g (ys++v.cells.toList++us).toArray:=⟨_,rfl⟩
 rw [←hw']
 have hoth:∀ k,k≠g→w'.heap[k]?=w.heap[k]?:=fun k hk=>by rw [hw'];exact setRow_other w g k _ hk
 have hnew:w'.heap[g]?=some (.cells (ys++v.cells.toList++us).toArray ty (0,0)):=by rw [hw'];exact setRow_heap w _ _ _ _ _ hx'
 have hkeep:∀ b o u,Us w0 U0 D b o→w.cell? ⟨b,o,none⟩=some u→Us w0 U0 D b o∧w'.cell? ⟨b,o,none⟩=some u:=fun b o u hu hc=>by
  refine ⟨hu,?_⟩
  rw [hw',cell_setRow_other]
  ·exact hc
  ·exact a3b hu hmn (hD' o)
 have hout:∀ i,i<q∨q+av.sz≤i→w'.cell? ⟨g,i,none⟩=w.cell? ⟨g,i,none⟩:=fun i hi=>by
  simp only [World.cell?,hnew,hx']
  simp only [Option.isSome_none,Bool.false_eq_true,if_false,List.getElem?_toArray]
  rcases hi with hi | hi
  ·rw [List.append_assoc,List.append_assoc,List.getElem?_append_left (by omega),List.getElem?_append_left (by omega)]
  ·rw [List.getElem?_append_right (by simp only [List.length_append];omega),List.getElem?_append_right (by simp only [List.length_append];omega)]
   simp only [List.length_append,hvl,hzl]
 have hfk:∀ {m o:Nat},o<100→b9 m o=b9 n q→m=n∧o=q:=fun {m o} ho e=>by unfold b9 at e;omega
 have hlk:∀ {k},k≠b9 n q→look ((b9 n q,av)::s) k=look s k:=fun {k} hk=>lN (Ne.symm hk)
 have hl:∀ m e,r9 ((b9 n q,av)::s) m e↔r9 s m e:=fun m e=>by
  unfold r9
  constructor
  ·rintro ⟨g1,g2⟩;rw [hlk (by unfold b9;omega)] at g1;exact ⟨g1,g2⟩
  ·rintro ⟨g1,g2⟩;exact ⟨by rw [hlk (by unfold b9;omega)];exact g1,g2⟩
 have hl2:a8 ((b9 n q,av)::s)=a8 s:=by funext k;simp only [a8,hl]
 have hsize:w'.heap.size=w.heap.size:=by rw [hw',setRow_size]
 refine ⟨⟨?_,?_,?_,by rw [hsize];exact h.below.size,fun k hk hkx=>?_⟩,h.dfr,h.size,fun d av' g1 g2=>?_,fun m o av' g1 g2 g3 g4=>?_,fun m o o' av1 av2 g1 g2 g3 g4 g5=>?_,fun k av' g1 g2=>?_,fun k av' g' g1 g2 g3 g4=>?_,fun k k' av1 av2 g' g1 g2 g3 g4=>?_,h.fix,fun b o hd=>by rw [hsize];exact h.dlt b o hd⟩
 ·rw [hw'];exact h.below.os
 ·rw [hw'];exact h.below.tape
 ·rw [hw'];exact h.below.output
 ·rw [hoth k]
  ·exact h.below.block k hk hkx
  ·rintro rfl
   rcases hmn with h1 | h1
   ·omega
   ·exact hkx h1.2
 ·rw [hlk (by unfold b9;omega)] at g1
  rw [hl2]
  obtain ⟨u,g3,g4⟩:=h.slot d av' g1 g2
  exact ⟨u,g3,g4.keep hkeep⟩
 ·rw [hlk (by unfold b9 BN at *;omega)] at g3
  rw [hl2]
  by_cases e:b9 m o=b9 n q
  ·obtain ⟨rfl,rfl⟩:=hfk g2 e
   rw [lS] at g1
   cases g1
   refine ⟨v,hav.keep hkeep,hvs,fun i hi=>?_⟩
   rw [e2]
   simp only [World.cell?,hnew]
   simp only [Option.isSome_none,Bool.false_eq_true,if_false,List.getElem?_toArray]
   rw [List.append_assoc,List.getElem?_append_right (by omega),hyl,show o+i-o=i by omega,List.getElem?_append_left (by omega)]
   simp
  ·rw [hlk e] at g1
   obtain ⟨u,k1,k2,k3⟩:=h.fld m o av' g1 g2 g3 g4
   refine ⟨u,k1.keep hkeep,k2,fun i hi=>?_⟩
   by_cases em:m=n
   ·subst em
    have ho:o≠q:=fun e3=>e (by rw [e3])
    rw [e2]
    have k4:=k3 i hi
    rw [e2] at k4
    rw [hout]
    ·exact k4
    ·rcases Nat.lt_or_ge o q with h3 | h3
     ·have:=h.fdis m o q av' av0 g1 h0 g2 hq h3
      rw [k2] at hi
      omega
     ·have:=h.fdis m q o av0 av' h0 g1 hq g2 (by omega)
      omega
   ·obtain ⟨g2',_,_,c1,c2,c3⟩:=h.obj9 g3 g4
    have hne:g2'≠g:=fun e3=>h.disj (100000+n) (100000+m) _ _ g hob g3 (F4 hbn) (F4 g4) (by simp) (by simp) (by omega) hgb (by rw [c1,e3];rfl)
    rw [c2]
    have k4:=k3 i hi
    rw [c2] at k4
    rw [World.cell?_of_block (w:=w) (hoth g2' hne)]
    exact k4
 ·have conv:∀ {o:Nat} {aq:AV},o<100→look ((b9 n q,av)::s) (b9 m o)=some aq→∃ aq',look s (b9 m o)=some aq'∧aq'.sz=aq.sz:=fun {o aq} ho g6=>by
   by_cases e:b9 m o=b9 n q
   ·rw [e,lS] at g6
    cases g6
    exact ⟨av0,by rw [e];exact h0,hsz.symm⟩
   ·rw [hlk e] at g6;exact ⟨aq,g6,rfl⟩
  obtain ⟨b1,c1,c2⟩:=conv g3 g1
  obtain ⟨b2,c3,c4⟩:=conv g4 g2
  rw [←c2]
  exact h.fdis m o o' b1 b2 c1 c3 g3 g4 g5
 ·have g2':=g2
  unfold k9 at g2'
  rw [hlk (by unfold b9;omega)] at g1
  rw [hl2]
  by_cases e:k=100000+n
  ·subst e
   rw [hob] at g1
   cases g1
   exact ⟨g,_,ty,e1,hnew⟩
  ·by_cases h7:av'.t=7
   ·exact a4v h7
   ·exact (h.obj k av' g1 g2).move hkeep (fun _ hx=>⟨hx,rfl⟩) fun g' hg'=>hoth g' fun e3=>h.disj (100000+n) k _ av' g hob g1 (F4 hbn) g2 (by simp) h7 (Ne.symm e) hgb (e3▸hg')
 ·have g2':=g2
  unfold k9 at g2'
  rw [hlk (by unfold b9;omega)] at g1
  rw [hsize]
  exact h.blk k av' g' g1 g2 g3 g4
 ·have g3':=g3
  have g4':=g4
  unfold k9 at g3' g4'
  rw [hlk (by unfold b9;omega)] at g1 g2
  exact h.disj k k' av1 av2 g' g1 g2 g3 g4
theorem a6R (hg:Gd w0 U0 nt ops o gs S) (hd:o.dst=none) {x y:Operand} {ty:TypeId} {z n q:Nat} {p:List Nat} {k' v' l'} {av0 av:AV} (ho:o.op = .store ty x y) (hi:(P.info? ty).map (·.size)=some z) (hx:ev S x=some ⟨2,⟨k',v',l'⟩,n,q,p⟩) (hb:S (100000+n)=some .obj) (hf:S (b9 n q)=some av0) (hy:ev S y=some av) (hq:Nat.blt q 100=true) (hz:av.sz=z) (hz0:av0.sz=z) (hzp:Nat.blt 0 z=true) (ht:b1d av=true):AOp P w0 U0 nt ops o (gs++(rd x++(rd y++[100000+n,b9 n q]))) [] S [(b9 n q,av)]:=by
 intro s hs hN a w ⟨D,hv,h⟩ Q K hK
 rw [if_pos (hg s (fun k hk=>hs k (List.mem_append_left _ hk)) a w D hv h)]
 obtain ⟨hbn,h1⟩:BN n∧a.eval x = .pointer (some ⟨o0 (hv (100000+n)),q,none⟩):=i9 h (fun k hk=>hs k (List.mem_append_right _ (List.mem_append_left _ hk))) hx
 have h2:=i9 h (fun k hk=>hs k (List.mem_append_right _ (List.mem_append_right _ (List.mem_append_left _ hk)))) hy
 have hcs:(a.eval y).cells.size=av.sz∧∀ u∈(a.eval y).cells.toList,u.oneCell'=true:=by
  by_cases ht0:av.t=0
  ·have h3:=h2
   unfold AVRep at h3
   rw [if_pos ht0] at h3
   refine ⟨?_,h3.1.cells.one⟩
   have:=h3.1.cells.len
   unfold AV.sz
   rw [ht0]
   simpa using this
  ·obtain ⟨g1,g2⟩:=a5X h2 ht ht0
   rw [g1]
   refine ⟨?_,by simpa using g2⟩
   unfold AV.sz
   rw [S1 ht0]
   rfl
 obtain ⟨g,ys,zs,us,t,e1,e2,e3,e4,e5⟩:=h.storeF hbn ((hs (100000+n) (by simp)).trans hb) (bL hq) ((hs (b9 n q) (by simp)).trans hf) (hz.trans hz0.symm) (by rw [hz];exact bL hzp) h2 hcs.1
 rw [e1] at h1
 have hcl:(a.eval y).cells.toList.length=av.sz:=by simpa using hcs.1
 have hrun:=F8 (P:=P) hi e2 e3 (v:=a.eval y) rfl (by rw [hcl,e4]) (by rw [hcl,hz]) hcs.2
 have he:(execOp a.eval o).run P w = .ok .skip (w.setRow g (ys++(a.eval y).cells.toList++us).toArray):=by
  generalize a.eval=ρ at h1 hrun ⊢
  simp [execOp,ho,Instr.storeAt,Instr.sureAddr,h1,hrun]
 unfold Oper.wp
 rw [he,Oper.upon_skip,hd]
 exact hK _ _ ⟨_,_,e5⟩
theorem zba {P:Program} {w0:World} {U0:UX} {nt:Nat} {ops:Array Oper} {o:Oper} {S:Nat→Option AV} {gs:List Nat} {x:Operand} {y:Operand} {ty:TypeId} {z:Nat} {n:Nat} {q:Nat} {p:List Nat} {k'} {v'} {l'} {av0:AV} {av:AV} (r:Gd w0 U0 nt ops o gs S:=by exact gN rfl) (A:o.dst=none:=by exact rfl) (B:o.op = .store ty x y:=by exact rfl) (C:(P.info? ty).map (·.size)=some z:=by exact rfl) (E:ev S x=some ⟨2,⟨k',v',l'⟩,n,q,p⟩:=by exact rfl) (F:S (100000+n)=some .obj:=by exact rfl) (G:S (b9 n q)=some av0:=by exact rfl) (H:ev S y=some av:=by exact rfl) (hq:Nat.blt q 100=true:=by exact rfl) (hz:av.sz=z:=by exact rfl) (hz0:av0.sz=z:=by exact rfl) (hzp:Nat.blt 0 z=true:=by exact rfl) (ht:b1d av=true:=by exact rfl):AOp P w0 U0 nt ops o (gs++(rd x++(rd y++[100000+n,b9 n q]))) [] S [(b9 n q,av)]:=a6R r A B C E F G H hq hz hz0 hzp ht
theorem SimG.addF (h:SimG w0 U0 nt s a w D hv) {n q:Nat} (hbn:BN n) (hob:look s (100000+n)=some .obj) (hq:q<100) {av:AV} {v:Value} (hav:AVRep (Us w0 U0 D) w hv (a8 s) av v) (hvs:v.cells.size=av.sz) (hc:∀ i,i<v.cells.size→w.cell? ⟨o0 (hv (100000+n)),q+i,none⟩=v.cells[i]?) (ho:∀ o av',look s (b9 n o)=some av'→o<100→q+av.sz≤o):SimG w0 U0 nt ((b9 n q,av)::s) a w D hv:=by
 have hfk:∀ {m o:Nat},o<100→b9 m o=b9 n q→m=n∧o=q:=fun {m o} ho e=>by unfold b9 at e;omega
 have hlk:∀ {k},k≠b9 n q→look ((b9 n q,av)::s) k=look s k:=fun {k} hk=>lN (Ne.symm hk)
 have hl:∀ m e,r9 ((b9 n q,av)::s) m e↔r9 s m e:=fun m e=>by
  unfold r9
  constructor
  ·rintro ⟨g1,g2⟩;rw [hlk (by unfold b9;omega)] at g1;exact ⟨g1,g2⟩
  ·rintro ⟨g1,g2⟩;exact ⟨by rw [hlk (by unfold b9;omega)];exact g1,g2⟩
 have hl2:a8 ((b9 n q,av)::s)=a8 s:=by funext k;simp only [a8,hl]
 refine ⟨h.below,h.dfr,h.size,fun d av' g1 g2=>?_,fun m o av' g1 g2 g3 g4=>?_,fun m o o' av1 av2 g1 g2 g3 g4 g5=>?_,fun k av' g1 g2=>?_,fun k av' g' g1 g2 g3 g4=>?_,fun k k' av1 av2 g' g1 g2 g3 g4=>?_,h.fix,h.dlt⟩
 ·rw [hlk (by unfold b9;omega)] at g1
  rw [hl2]
  exact h.slot d av' g1 g2
 ·rw [hlk (by unfold b9 BN at *;omega)] at g3
  rw [hl2]
  by_cases e:b9 m o=b9 n q
  ·obtain ⟨rfl,rfl⟩:=hfk g2 e
   rw [lS] at g1
   cases g1
   exact ⟨v,hav,hvs,hc⟩
  ·rw [hlk e] at g1
   exact h.fld m o av' g1 g2 g3 g4
 ·by_cases e1:b9 m o=b9 n q
  ·obtain ⟨rfl,rfl⟩:=hfk g3 e1
   rw [lS] at g1
   cases g1
   rw [hlk (by unfold b9;omega)] at g2
   exact ho o' av2 g2 g4
  ·rw [hlk e1] at g1
   by_cases e2:b9 m o'=b9 n q
   ·obtain ⟨rfl,rfl⟩:=hfk g4 e2
    have:=ho o av1 g1 g3
    omega
   ·rw [hlk e2] at g2
    exact h.fdis m o o' av1 av2 g1 g2 g3 g4 g5
 ·have g2':=g2
  unfold k9 at g2'
  rw [hlk (by unfold b9;omega)] at g1
  rw [hl2]
  exact h.obj k av' g1 g2
 ·have g2':=g2
  unfold k9 at g2'
  rw [hlk (by unfold b9;omega)] at g1
  exact h.blk k av' g' g1 g2 g3 g4
 ·have g3':=g3
  have g4':=g4
  unfold k9 at g3' g4'
  rw [hlk (by unfold b9;omega)] at g1 g2
  exact h.disj k k' av1 av2 g' g1 g2 g3 g4
def a9U (c:CV):AV:=⟨0,c,match X7 c with | true=>1 | false=>0,0,[]⟩
noncomputable def Y9 (d:Nat):List CV→Nat→AS
 | [],_=>[]
 | c::cs,o=>(b9 d o,a9U c)::Y9 d cs (o+c.size)
theorem Z5 {d:Nat}:∀ {cs:List CV} {o k:Nat} {av:AV},look (Y9 d cs o) k=some av→∃ o',o≤o'∧k=b9 d o'
 | [],_,_,_,h=>by simp [Y9,look] at h
 | c::cs,o,k,av,h=>by
  rw [Y9,f0] at h
  split at h
  ·rename_i e;exact ⟨o,Nat.le_refl _,e.symm⟩
  ·obtain ⟨o',h1,h2⟩:=Z5 h
   exact ⟨o',by omega,h2⟩
theorem S7 {U:Nat→Nat→Prop} {c:CV} {xs:List Value} (h:Rep U w c xs):∃ v,VRep U w c v∧v.cells.toList=xs:=by
 by_cases hk:c.k=2
 ·exact ⟨.agg xs.toArray,by unfold VRep;rw [if_pos hk];exact ⟨xs,rfl,h⟩,by simp [Value.cells]⟩
 ·have h1:c.size=1:=by cases c with | mk k v l=>rw [CV.size_mk,if_neg hk]
  have hl:=h.len
  rw [h1] at hl
  match xs,hl with
  | [v],_ =>
   refine ⟨v,by unfold VRep;rw [if_neg hk];exact h,?_⟩
   rw [a1C (h.one v (by simp))]
theorem SimG.addFs (h:SimG w0 U0 nt s a w D hv) {n:Nat} (hbn:BN n) (hob:look s (100000+n)=some .obj) (hno:∀ o av,look s (b9 n o)=some av→o<100→False) {g:Nat} (hgv:o0 (hv (100000+n))=g):∀ {cs:List CV} {segs:List (List Value)} {o:Nat},cs.length=segs.length→(∀ (i:Nat) (c:CV),cs[i]?=some c→∃ seg,segs[i]?=some seg∧Rep (Us w0 U0 D) w c seg∧(X7 c=true→seg=[.slice none 0 0]))→(∀ i,i<segs.flatten.length→w.cell? ⟨g,o+i,none⟩=segs.flatten[i]?)→(∀ c∈cs,0<c.size)→o+segs.flatten.length≤100→SimG w0 U0 nt (Y9 n cs o++s) a w D hv
 | [],_,_,_,_,_,_,_=>h
 | c::cs,[],_,hl,_,_,_,_=>by simp at hl
 | c::cs,seg::segs,o,hl,hr,hc,hp,h100=>by
  obtain ⟨seg',e1,e2,e3⟩:=hr 0 c rfl
  simp at e1
  subst e1
  have hsl:=e2.len
  have hcp:=hp c (by simp)
  rw [List.flatten_cons] at hc h100
  rw [List.length_append] at h100
  have ih:=h.addFs hbn hob hno hgv (cs:=cs) (segs:=segs) (o:=o+c.size) (by simpa using hl) (fun i c' hi=>hr (i+1) c' (by simpa using hi)) (fun i hi=>by
   have:=hc (seg.length+i) (by rw [List.length_append];omega)
   rw [List.getElem?_append_right (by omega),show seg.length+i-seg.length=i by omega] at this
   rw [←this,hsl,Nat.add_assoc]) (fun c' hc'=>hp c' (List.mem_cons_of_mem _ hc')) (by omega)
  obtain ⟨v,g1,g2⟩:=S7 e2
  have hnk:∀ {k},100000≤k→k<500000→look (Y9 n cs (o+c.size)++s) k=look s k:=fun {k} h1 h2=>by
   rw [i0]
   cases e:look (Y9 n cs (o+c.size)) k with
   | none=>rfl
   | some av=>obtain ⟨o',_,rfl⟩:=Z5 e;unfold b9 at h2;omega
  have hbk:=F4 hbn
  unfold k9 at hbk
  refine ih.addF hbn (by rw [hnk hbk.1 hbk.2];exact hob) (by omega) (v:=v) ⟨g1,fun hlv=>?_⟩ ?_ ?_ ?_
  ·refine ⟨0,c,R8 c,?_⟩
   show v.cells.toList[0]?=some (G9 hv (a9U c).n)
   unfold a9U at hlv ⊢
   cases hnil:X7 c with
   | true =>
    rw [g2,e3 hnil];rfl
   | false=>rw [hnil] at hlv;exact absurd hlv B3
  ·rw [←Array.length_toList,g2,hsl];rfl
  ·intro i hi
   have hi':i<seg.length:=by rw [←g2];simpa using hi
   have:=hc i (by rw [List.length_append];omega)
   rw [List.getElem?_append_left hi',←g2,Array.getElem?_toList] at this
   rw [hgv];exact this
  ·intro o' av' h1 h2
   rw [i0] at h1
   cases e:look (Y9 n cs (o+c.size)) (b9 n o') with
   | none=>rw [e] at h1;exact (hno o' av' h1 h2).elim
   | some av =>
    obtain ⟨o2,h3,h4⟩:=Z5 e
    unfold b9 at h4
    show o+c.size≤o'
    omega
end
end Go.Proofs.YtglmoficcjphaaaGreat
namespace Go.Proofs.YtglmoficcjphaaaGreat
open Go.RowKit Go.MapKept
set_option linter.unusedVariables false
set_option linter.unusedSimpArgs false
section
variable {P:Program} {w0:World} {U0:UX} {nt:Nat} {ops:Array Oper} {o:Oper} {S:Nat→Option AV} {gs:List Nat} {d:Nat} {s:AS} {a:Act} {w:World} {D:Nat→Nat→Prop} {hv:Nat→Value}
theorem SimG.upd (h:SimG w0 U0 nt s a w D hv) {k0:Nat} (h5:k9 k0) {av0 av:AV} (h0:look s k0=some av0) (ht0:av0.t≠7) (hobj:av0.t≠9) (ht:av.t=av0.t) (hnd:∀ g,NoD D av0 (hv k0) g→NoD D av (hv k0) g) (ht6:av.t≠6) {g:Nat} (hg:hb (hv k0)=some g) {w':World} (hos:w'.os=w.os) (htp:w'.tape=w.tape) (hou:w'.output=w.output) (hsize:w'.heap.size=w.heap.size) (hoth:∀ k,k≠g→w'.heap[k]?=w.heap[k]?) (hoc:(∀ b o v,Us w0 U0 D b o→w.cell? ⟨b,o,none⟩=some v→Us w0 U0 D b o∧w'.cell? ⟨b,o,none⟩=some v)→OC (Us w0 U0 D) w' hv (a8 s) av (hv k0)) :
  SimG w0 U0 nt ((k0,av)::s) a w' D hv:=by
 obtain ⟨hbase,hlt0,hD⟩:=h.blk k0 av0 g h0 h5 ht0 hg
 have h5':=h5
 unfold k9 at h5'
 have ht6':av0.t≠6:=by rw [←ht];exact ht6
 have hD':∀ o,¬ D g o:=fun o=>hD o fun e=>absurd e ht6'
 have hne9:av ≠ .obj:=fun e=>hobj (by rw [←ht,e])
 have hne90:av0 ≠ .obj:=fun e=>hobj (by rw [e])
 have hl:∀ n e,r9 ((k0,av)::s) n e↔r9 s n e:=fun n e=>by
  unfold r9
  by_cases e1:k0=n
  ·subst e1
   rw [lS,h0]
   constructor
   ·rintro ⟨h1,_⟩;cases h1;exact absurd rfl ht6
   ·rintro ⟨h1,_⟩;cases h1;exact absurd rfl ht6'
  ·rw [lN e1]
 have hl2:a8 ((k0,av)::s)=a8 s:=by funext k;simp only [a8,hl]
 have hkeep:∀ b o v,Us w0 U0 D b o→w.cell? ⟨b,o,none⟩=some v→Us w0 U0 D b o∧w'.cell? ⟨b,o,none⟩=some v:=fun b o v hu hc=>by
  refine ⟨hu,?_⟩
  rw [World.cell?_of_block (w:=w) (hoth b (a3b hu hbase (hD' o)))]
  exact hc
 refine ⟨⟨hos.trans h.below.os,htp.trans h.below.tape,hou.trans h.below.output,by rw [hsize];exact h.below.size,fun k hk hkx=>?_⟩,h.dfr,h.size,fun d av' h1 h2=>?_,fun n o av' h1 h2 h3 h10=>?_,fun n o o' av1 av2 h1 h2=>?_,fun k av' h1 h2=>?_,fun k av' g' h1 h2 h3 h4=>?_,fun k k' av1 av2 g' h1 h2 h3 h4 h6 h7 hne=>?_,h.fix,fun b o hd=>?_⟩
 ·rw [hoth k]
  ·exact h.below.block k hk hkx
  ·rintro rfl
   rcases hbase with h1 | h1
   ·omega
   ·exact hkx h1.2
 ·rw [lN (by omega)] at h1
  rw [hl2]
  obtain ⟨v,h3,h4⟩:=h.slot d av' h1 h2
  exact ⟨v,h3,h4.keep hkeep⟩
 ·rw [lN (by unfold b9;omega)] at h1
  have hne:k0≠100000+n:=fun e=>by subst e;rw [lS] at h3;cases h3;exact hne9 rfl
  rw [lN hne] at h3
  rw [hl2]
  obtain ⟨v,h4,h6,h7⟩:=h.fld n o av' h1 h2 h3 h10
  refine ⟨v,h4.keep hkeep,h6,fun i hi=>?_⟩
  have hng:o0 (hv (100000+n))≠g:=by
   rintro e
   obtain ⟨g2,ys,ty2,e1,e2,e3⟩:=h.obj9 h3 h10
   have:hb (hv (100000+n))=some g:=by rw [e1];rw [e2] at e;rw [←e];rfl
   exact h.disj k0 (100000+n) av0 _ g h0 h3 h5 (F4 h10) ht0 (by simp) hne hg this
  rw [World.cell?_of_block (w:=w) (hoth _ hng)]
  exact h7 i hi
 ·rw [lN (by unfold b9;omega)] at h1 h2
  exact h.fdis n o o' av1 av2 h1 h2
 ·rw [hl2]
  by_cases e:k0=k
  ·subst e
   rw [lS] at h1
   cases h1
   exact hoc hkeep
  ·rw [lN e] at h1
   by_cases h7:av'.t=7
   ·exact a4v h7
   ·exact (h.obj k av' h1 h2).move hkeep (fun _ hl=>⟨hl,rfl⟩) fun g' hg'=>hoth g' fun e2=>h.disj k0 k av0 av' g h0 h1 h5 h2 ht0 h7 e hg (e2▸hg')
 ·rw [hsize]
  by_cases e:k0=k
  ·subst e
   rw [lS] at h1
   cases h1
   obtain ⟨g1,g2,g3⟩:=h.blk k0 av0 g' h0 h5 ht0 h4
   exact ⟨by rw [b5L ht];exact g1,g2,hnd g' g3⟩
  ·rw [lN e] at h1
   exact h.blk k av' g' h1 h2 h3 h4
 ·have conv:∀ q (aq:AV),look ((k0,av)::s) q=some aq→aq.t≠7→∃ aq',look s q=some aq'∧aq'.t≠7:=fun q aq h8 h9=>by
   by_cases e:k0=q
   ·exact ⟨av0,by rw [←e];exact h0,ht0⟩
   ·rw [lN e] at h8;exact ⟨aq,h8,h9⟩
  obtain ⟨a1,b1,c1⟩:=conv k av1 h1 h6
  obtain ⟨a2,b2,c2⟩:=conv k' av2 h2 h7
  exact h.disj k k' a1 a2 g' b1 b2 h3 h4 c1 c2 hne
 ·rw [hsize];exact h.dlt b o hd
theorem b7W (nn:Nat) (hg:Gd w0 U0 nt ops o gs S) (hd:o.dst=some d) (hn:Nat.blt d nt=true) (h5:Nat.blt d 100000=true) {t:TypeId} (ho:o.op = .makeMap t none) (hn2:(Nat.ble 200000 nn&&Nat.blt nn 400000)=true):AOp P w0 U0 nt ops o gs [(nn,[])] S [(d,.mref nn),(nn,.mp [])]:=by
 intro s hs hN a w ⟨D,hv,h⟩ Q K hK
 rw [if_pos (hg s hs a w D hv h)]
 have hrn:=rnB hn2
 have he:(execOp a.eval o).run P w = .ok (.value (.map (some w.heap.size))) (w.alloc (.map #[] 0)):=by
  simp [execOp,ho,Instr.makeMap,run_newObj_alloc]
 unfold Oper.wp
 rw [he,Oper.upon_value,hd]
 have hb':Below w.heap.size w (w.alloc (.map #[] 0)):=(Below.refl _ _).alloc (Nat.le_refl _) _
 have hG:=h.newrow (X:=fun _=>False) (avn := .mp []) (v' := .map (some w.heap.size)) (D':=D) hrn (hN (nn,[]) (by simp)).nr (by simp) ((BelowX.refl _ w).step hb') (fun b hb=>hb.elim) (fun g hg=>by
   have hg:some w.heap.size=some g:=hg
   cases hg
   refine ⟨.inr (Nat.le_refl _),by simp,fun o _ hd=>?_⟩
   have:=h.dlt _ _ hd
   omega) (fun b o hd => .inl hd) (fun b o hd=>Nat.lt_of_lt_of_le (h.dlt _ _ hd) hb'.size) (M9 h.dlt hb' fun _ _ h=>h) (fun hv lv=>⟨w.heap.size,#[],0,rfl,s5 _ _,rfl,by simp,by simp⟩)
 refine hK _ _ ⟨_,_,hG.put (bL hn) (bL h5) ⟨RW.rn hrn,?_,rfl⟩⟩
 simp
theorem zbt {P:Program} {w0:World} {U0:UX} {nt:Nat} {ops:Array Oper} {o:Oper} {S:Nat→Option AV} {gs:List Nat} {d:Nat} {t:TypeId} (nn:Nat) (p:Gd w0 U0 nt ops o gs S:=by exact gN rfl) (q:o.dst=some d:=by exact rfl) (r:Nat.blt d nt=true:=by exact rfl) (u:Nat.blt d 100000=true:=by exact rfl) (v:o.op = .makeMap t none:=by exact rfl) (x:(Nat.ble 200000 nn&&Nat.blt nn 400000)=true:=by exact rfl):AOp P w0 U0 nt ops o gs [(nn,[])] S [(d,.mref nn),(nn,.mp [])]:=b7W nn p q r u v x
theorem a6s {U:Nat→Nat→Prop}:∀ {l:List CV} {es:List MapEntry} {j:Nat} {c:CV},Ents U w l es→l[j]?=some c→∃ e,es[j]?=some e∧Ent U w c e
 | [],_,_,_,_,h=>by simp at h
 | x::l,es,0,c,⟨e,es',h1,h2,h3⟩,h=>by simp at h;subst h;exact ⟨e,by rw [h1];rfl,h2⟩
 | x::l,es,j+1,c,⟨e,es',h1,h2,h3⟩,h=>by
  obtain ⟨e',g1,g2⟩:=a6s h3 (j:=j) (c:=c) (by simpa using h)
  exact ⟨e',by rw [h1];simpa using g1,g2⟩
theorem a0C {U:Nat→Nat→Prop}:∀ {l:List CV} {es:List MapEntry},Ents U w l es→es.length=l.length
 | [],_,h=>by have h:_=[]:=h;rw [h];rfl
 | x::l,es,⟨e,es',h1,h2,h3⟩=>by rw [h1,List.length_cons,List.length_cons,a0C h3]
def w8 (k:IntKind) (l:List CV):Prop:=∀ r∈l,∃ i c,r = .row [.sc (.int k i),c]
def D6 (k:IntKind) (i:Int):List CV→Option CV
 | []=>none
 | ⟨_,_,[⟨_,.int k' j,_⟩,c]⟩::l=>if k'=k∧j=i then some c else D6 k i l
 | _::l=>D6 k i l
theorem O2 {k:IntKind} {i j:Int} {c:CV} {l:List CV}:D6 k i (.row [.sc (.int k j),c]::l)=if j=i then some c else D6 k i l:=by
 rw [D6];simp
theorem I5 {U:Nat→Nat→Prop} {k:IntKind} {i:Int}:∀ {l:List CV} {es:List MapEntry} (n:Nat),Ents U w l es→w8 k l →
  (Instr.findNow (.int k) (.int k i) es n=some none∧D6 k i l=none)∨∃ j e c,Instr.findNow (.int k) (.int k i) es n=some (some (n+j,e.val))∧es[j]?=some e∧l[j]?=some (.row [.sc (.int k i),c])∧VRep U w c e.val∧e.key = .int k i∧D6 k i l=some c
 | [],es,n,h,_=>by have h:es=[]:=h;subst h;exact .inl ⟨rfl,rfl⟩
 | r::l,es,n,⟨e,es',h1,⟨k1,c1,g2,g3,g4,g5⟩,h3⟩,hk=>by
  obtain ⟨j0,c0,e1⟩:=hk r (by simp)
  rw [e1] at g2
  injection g2 with _ _ g6
  injection g6 with g6 g7
  injection g7 with g7 _
  subst g7
  have hkey:e.key = .int k j0:=by rw [g4,←g6]
  subst h1
  rw [e1,O2]
  by_cases hj:j0=i
  ·subst hj
   right
   refine ⟨0,e,c0,?_,rfl,rfl,g5,hkey,by rw [if_pos rfl]⟩
   simp [Instr.findNow,Instr.sameNow,hkey]
  ·rw [if_neg hj]
   have hs:Instr.sameNow (.int k) (.int k i) e.key=some false:=by
    rw [hkey]
    simp [Instr.sameNow]
    exact fun h=>hj h.symm
   rcases I5 (n+1) h3 (fun x hx=>hk x (List.mem_cons_of_mem _ hx)) with ⟨f1,f2⟩ | ⟨j,e',c,f1,f2,f3,f4,f5,f6⟩
   ·left;exact ⟨by simp [Instr.findNow,hs,f1],f2⟩
   ·right
    refine ⟨j+1,e',c,?_,by simpa using f2,by simpa using f3,f4,f5,f6⟩
    simp [Instr.findNow,hs,f1]
    omega
theorem b3X (hg:Gd w0 U0 nt ops o gs S) (hd:o.dst=some d) (hn:Nat.blt d nt=true) (h5:Nat.blt d 100000=true) {x y:Operand} {t kt et:TypeId} {k:IntKind} {i:Int} {n:Nat} {l:List CV} {zc:CV} {n' q' p'} (ho:o.op = .lookup t x y true) (hu:P.underlying t=some (.map kt et)) (huk:P.underlying kt=some (.int k)) (hzc:S0 P et=some zc) (hx:ev S x=some (.mref n)) (hy:ev S y=some ⟨0,.sc (.int k i),n',q',p'⟩) (hm':S n=some (.mp l)) (hik:w8 k l) (hzr:∀ U w v,Rep U w zc v.cells.toList→(∃ it,P.info? et=some it∧it.zero=some v)→VRep U w zc v):AOp P w0 U0 nt ops o (gs++(rd x++(rd y++[n]))) [] S [(d,.tup [(D6 k i l).getD zc,.b (D6 k i l).isSome])]:=
 d9 hg hd hn h5 (fun k hk=>List.mem_append_left _ hk) fun s hs a w D hv hm=>by
  obtain ⟨hrn,h1,_⟩:RN n∧a.eval x=hv n∧(a.eval x).oneCell'=true:=i9 hm (fun k hk=>hs k (List.mem_append_right _ (List.mem_append_left _ hk))) hx
  have e2:=s9 hm (fun k hk=>hs k (List.mem_append_right _ (List.mem_append_right _ (List.mem_append_left _ hk)))) hy
  have hok:k9 n:=by unfold RN at hrn;unfold k9;omega
  obtain ⟨g,es,clock,g1,g2,g3,g4,g5⟩:∃ g es clock,hv n = .map (some g)∧w.heap[g]?=some (.map es clock)∧Ents (Us w0 U0 D) w l es.toList∧(∀ e∈es,e.born<clock)∧(es.toList.map (fun e:MapEntry=>e.born)).Nodup:=hm.obj n _ ((hs n (by simp)).trans hm') hok
  obtain ⟨it,zv,i1,i2,i3⟩:=J1 hzc
  have hck:=run_checkKey (P:=P) (w:=w) huk (k := .int k i) rfl es.isEmpty 9999
  have hge:=Go.MapKept.run_getObj_map (P:=P) g2
  rcases I5 0 g3 hik (i:=i) with ⟨f1,f2⟩ | ⟨j,e,c,f1,f2,f3,f4,f5,f6⟩
  ·have hfk:=run_findKey (P:=P) (w:=w) huk f1
   have hzv:(zeroValue et).run P w = .ok zv w:=by simp [zeroValue,typeInfo,i1,i2]
   refine ⟨.tuple #[zv,.bool false],?_,?_⟩
   ·rw [g1] at h1
    generalize a.eval=ρ at h1 e2 ⊢
    simp [execOp,ho,Instr.lookup,run_underlying hu,h1,e2,hge,hck,hfk,hzv]
   ·rw [f2]
    exact ⟨[zv,.bool false],rfl,zv,[.bool false],rfl,hzr _ _ zv (i3 _ _) ⟨it,i1,i2⟩,.bool false,[],rfl,l8.2 ⟨rfl,rfl⟩,rfl⟩
  ·have hfk:=run_findKey (P:=P) (w:=w) huk f1
   refine ⟨.tuple #[e.val,.bool true],?_,?_⟩
   ·rw [g1] at h1
    generalize a.eval=ρ at h1 e2 ⊢
    simp [execOp,ho,Instr.lookup,run_underlying hu,h1,e2,hge,hck,hfk]
   ·rw [f6]
    exact ⟨[e.val,.bool true],rfl,e.val,[.bool true],rfl,f4,.bool true,[],rfl,l8.2 ⟨rfl,rfl⟩,rfl⟩
theorem aNc (hg:Gd w0 U0 nt ops o gs S) (hd:o.dst=some d) (hn:Nat.blt d nt=true) (h5:Nat.blt d 100000=true) {x:Operand} {n q:Nat} {p:List Nat} {c:CV} (ho:o.op = .nilCheck x) (hx:ev S x=some ⟨2,c,n,q,p⟩):AOp P w0 U0 nt ops o (gs++rd x) [] S [(d,⟨2,c,n,q,p⟩)]:=
 d9 hg hd hn h5 (fun k hk=>List.mem_append_left _ hk) fun s hs a w D hv hm=>by
  obtain ⟨hbn,h1⟩:BN n∧a.eval x = .pointer (some ⟨o0 (hv (100000+n)),q,none⟩):=i9 hm (fun k hk=>hs k (List.mem_append_right _ hk)) hx
  refine ⟨.pointer (some ⟨o0 (hv (100000+n)),q,none⟩),?_,hbn,rfl⟩
  generalize a.eval=ρ at h1 ⊢
  simp [execOp,ho,h1]
theorem z4 {P:Program} {w0:World} {U0:UX} {nt:Nat} {ops:Array Oper} {o:Oper} {S:Nat→Option AV} {gs:List Nat} {d:Nat} {x:Operand} {n:Nat} {q:Nat} {p:List Nat} {c:CV} (r:Gd w0 U0 nt ops o gs S:=by exact gN rfl) (t:o.dst=some d:=by exact rfl) (u:Nat.blt d nt=true:=by exact rfl) (v:Nat.blt d 100000=true:=by exact rfl) (y:o.op = .nilCheck x:=by exact rfl) (z:ev S x=some ⟨2,c,n,q,p⟩:=by exact rfl):AOp P w0 U0 nt ops o (gs++rd x) [] S [(d,⟨2,c,n,q,p⟩)]:=aNc r t u v y z
def a1Q (k:IntKind) (i:Int) (c:CV):List CV→List CV
 | []=>[.row [.sc (.int k i),c]]
 | r::l=>match r with
  | ⟨_,_,[⟨_,.int k' j,_⟩,_]⟩=>if k'=k∧j=i then .row [.sc (.int k i),c]::l else r::a1Q k i c l
  | _=>r::a1Q k i c l
theorem a3R {k:IntKind} {i j:Int} {c c':CV} {l:List CV}:a1Q k i c (.row [.sc (.int k j),c']::l)=if j=i then .row [.sc (.int k i),c]::l else .row [.sc (.int k j),c']::a1Q k i c l:=by
 rw [a1Q];simp
theorem U6 {k:IntKind} {i:Int} (c:CV):∀ {l:List CV},w8 k l→(D6 k i l=none→a1Q k i c l=l++[.row [.sc (.int k i),c]])∧∀ j c',l[j]?=some (.row [.sc (.int k i),c'])→(∀ j' c'',j'<j→l[j']?≠some (.row [.sc (.int k i),c'']))→a1Q k i c l=l.set j (.row [.sc (.int k i),c])
 | [],_=>⟨fun _=>rfl,fun j c' h=>by simp at h⟩
 | r::l,hk=>by
  obtain ⟨j0,c0,rfl⟩:=hk r (by simp)
  obtain ⟨ih1,ih2⟩:=U6 c (l:=l) (fun x hx=>hk x (List.mem_cons_of_mem _ hx))
  rw [a3R,O2]
  by_cases hj:j0=i
  ·subst hj
   rw [if_pos rfl,if_pos rfl]
   refine ⟨(fun h=>by cases h),fun j c' h hf=>?_⟩
   cases j with
   | zero=>rfl
   | succ j=>exact absurd rfl (hf 0 c0 (by omega))
  ·rw [if_neg hj,if_neg hj]
   refine ⟨fun h=>by rw [ih1 h];rfl,fun j c' h hf=>?_⟩
   cases j with
   | zero =>
    simp at h
    exact absurd h.1 hj
   | succ j =>
    rw [ih2 j c' (by simpa using h) fun j' c'' hlt=>by have:=hf (j'+1) c'' (by omega);simpa using this]
    rfl
theorem Z4 {U:Nat→Nat→Prop} {k:IntKind} {i:Int}:∀ {l:List CV} {es:List MapEntry} (n:Nat) {j:Nat} {v:Value},Ents U w l es→w8 k l→Instr.findNow (.int k) (.int k i) es n=some (some (n+j,v))→∀ j' c'',j'<j→l[j']?≠some (.row [.sc (.int k i),c''])
 | [],es,n,j,v,h,_,hf=>by have h:es=[]:=h;subst h;cases hf
 | r::l,es,n,j,v,⟨e,es',h1,⟨k1,c1,g2,g3,g4,g5⟩,h3⟩,hk,hf=>by
  obtain ⟨j0,c0,e1⟩:=hk r (by simp)
  rw [e1] at g2
  injection g2 with _ _ g6
  injection g6 with g6 g7
  have hkey:e.key = .int k j0:=by rw [g4,←g6]
  subst h1
  intro j' c'' hlt hr
  by_cases hj:j0=i
  ·subst hj
   simp [Instr.findNow,Instr.sameNow,hkey] at hf
   omega
  ·have hs:Instr.sameNow (.int k) (.int k i) e.key=some false:=by
    rw [hkey]
    simp [Instr.sameNow]
    exact fun h=>hj h.symm
   simp [Instr.findNow,hs] at hf
   cases j' with
   | zero =>
    rw [e1] at hr
    simp at hr
    exact hj hr.1
   | succ j' =>
    obtain ⟨j2,rfl⟩:∃ j2,j=j2+1:=⟨j-1,by omega⟩
    exact Z4 (n+1) (j:=j2) h3 (fun x hx=>hk x (List.mem_cons_of_mem _ hx)) (by rw [hf];congr 3;omega) j' c'' (by omega) (by simpa using hr)
theorem a3O {U:Nat→Nat→Prop} {r:CV} {e':MapEntry}:∀ {l:List CV} {es:List MapEntry} {j:Nat},Ents U w l es→Ent U w r e'→Ents U w (l.set j r) (es.set j e')
 | [],es,j,h,_=>by have h:es=[]:=h;subst h;exact rfl
 | x::l,es,0,⟨e,es',h1,h2,h3⟩,hr=>by rw [h1];exact ⟨e',es',rfl,hr,h3⟩
 | x::l,es,j+1,⟨e,es',h1,h2,h3⟩,hr=>by rw [h1];exact ⟨e,es'.set j e',rfl,h2,a3O h3 hr⟩
theorem a1s {U:Nat→Nat→Prop} {r:CV} {e':MapEntry}:∀ {l:List CV} {es:List MapEntry},Ents U w l es→Ent U w r e'→Ents U w (l++[r]) (es++[e'])
 | [],es,h,hr=>by have h:es=[]:=h;subst h;exact ⟨e',[],rfl,hr,rfl⟩
 | x::l,es,⟨e,es',h1,h2,h3⟩,hr=>by rw [h1];exact ⟨e,es'++[e'],rfl,h2,a1s h3 hr⟩
theorem b6s (hg:Gd w0 U0 nt ops o gs S) (hd:o.dst=none) {x y z:Operand} {t kt et:TypeId} {k:IntKind} {i:Int} {n:Nat} {l:List CV} {c:CV} {n' q' p' n2 q2 p2} (ho:o.op = .mapUpdate t x y z) (hu:P.underlying t=some (.map kt et)) (huk:P.underlying kt=some (.int k)) (hx:ev S x=some (.mref n)) (hy:ev S y=some ⟨0,.sc (.int k i),n',q',p'⟩) (hz:ev S z=some ⟨0,c,n2,q2,p2⟩) (hm':S n=some (.mp l)) (hik:w8 k l):AOp P w0 U0 nt ops o (gs++(rd x++(rd y++(rd z++[n])))) [] S [(n,.mp (a1Q k i c l))]:=by
 intro s hs hN a w ⟨D,hv,h⟩ Q K hK
 rw [if_pos (hg s (fun k hk=>hs k (List.mem_append_left _ hk)) a w D hv h)]
 have hm:=(hs n (by simp)).trans hm'
 obtain ⟨hrn,h1,_⟩:RN n∧a.eval x=hv n∧(a.eval x).oneCell'=true:=i9 h (fun k hk=>hs k (List.mem_append_right _ (List.mem_append_left _ hk))) hx
 have e2:=s9 h (fun k hk=>hs k (List.mem_append_right _ (List.mem_append_right _ (List.mem_append_left _ hk)))) hy
 have e3:=A0 h (fun k hk=>hs k (List.mem_append_right _ (List.mem_append_right _ (List.mem_append_right _ (List.mem_append_left _ hk))))) hz
 have hok:k9 n:=by unfold RN at hrn;unfold k9;omega
 obtain ⟨g,es,clock,g1,g2,g3,g4,g5⟩:∃ g es clock,hv n = .map (some g)∧w.heap[g]?=some (.map es clock)∧Ents (Us w0 U0 D) w l es.toList∧(∀ e∈es,e.born<clock)∧(es.toList.map (fun e:MapEntry=>e.born)).Nodup:=h.obj n _ hm hok
 have hck:=run_checkKey (P:=P) (w:=w) huk (k := .int k i) rfl false 9999
 have hge:=Go.MapKept.run_getObj_map (P:=P) g2
 obtain ⟨p1,p2'⟩:=U6 (i:=i) c hik
 have fin:∀ (es':Array MapEntry) (clock':Nat),(execOp a.eval o).run P w = .ok .skip { w with heap:=w.heap.setIfInBounds g (.map es' clock') }→Ents (Us w0 U0 D) w (a1Q k i c l) es'.toList→(∀ e∈es',e.born<clock')→(es'.toList.map (fun e:MapEntry=>e.born)).Nodup→o.wp P a w K Q:=fun es' clock' he k1 k2 k3=>by
  obtain ⟨q1,q2⟩:=heap_set (o':=Obj.map es' clock') g2
  unfold Oper.wp
  rw [he,Oper.upon_skip,hd]
  refine hK _ _ ⟨_,_,h.upd (av := .mp (a1Q k i c l)) (g:=g) hok hm (by simp) (by simp) rfl (fun g' hn o _=>hn o (by simp)) (by simp) (by rw [g1];rfl) rfl rfl rfl (by simp) q2 fun hkp=>?_⟩
  exact ⟨g,es',clock',g1,q1,k1.keep hkp,k2,k3⟩
 rcases I5 0 g3 hik (i:=i) with ⟨f1,f2⟩ | ⟨j,e,c',f1,f2,f3,f4,f5,f6⟩
 ·have hfk:=run_findKey (P:=P) (w:=w) huk f1
  refine fin (es.push { key := .int k i,val:=a.eval z,born:=clock }) (clock+1) ?_ ?_ ?_ ?_
  ·rw [g1] at h1
   have hso:=run_setObj_map (P:=P) (Obj.map (es.push { key := .int k i,val:=a.eval z,born:=clock }) (clock+1)) g2
   generalize a.eval=ρ at h1 e2 hso ⊢
   simp [execOp,ho,Instr.mapUpdate,run_underlying hu,h1,e2,hge,hck,hfk,hso]
  ·rw [p1 f2,Array.toList_push]
   exact a1s g3 ⟨.sc (.int k i),c,rfl,rfl,rfl,e3⟩
  ·intro e he
   rcases Array.mem_push.1 he with he | rfl
   ·have:=g4 e he;omega
   ·exact Nat.lt_succ_self _
  ·rw [Array.toList_push,List.map_append,List.nodup_append]
   refine ⟨g5,by simp,fun a1 h1 b1 h2=>?_⟩
   simp at h1 h2
   obtain ⟨e,he,rfl⟩:=h1
   have:=g4 e he
   omega
 ·have hfk:=run_findKey (P:=P) (w:=w) huk f1
  rw [Nat.zero_add] at hfk
  have hjl:j<es.size:=by
   have:=(List.getElem?_eq_some_iff.1 f2).1
   simpa using this
  have hej:es[j]?=some e:=by rw [←Array.getElem?_toList];exact f2
  have hmod:(es.modify j fun e=>{ e with key := .int k i,val:=a.eval z }).toList=es.toList.set j { e with key := .int k i,val:=a.eval z }:=by
   rw [Array.toList_modify]
   apply List.ext_getElem?
   intro q
   rw [List.getElem?_modify,List.getElem?_set]
   by_cases hq:j=q
   ·subst hq
    have:es[j]=e:=(Array.getElem?_eq_some_iff.1 hej).2
    simp [hjl,this]
   ·simp [hq]
  have hbr:(es.modify j fun e=>{ e with key := .int k i,val:=a.eval z }).toList.map (fun e:MapEntry=>e.born)=es.toList.map (fun e:MapEntry=>e.born):=by
   rw [hmod,List.map_set]
   apply List.ext_getElem?
   intro q
   rw [List.getElem?_set]
   by_cases hq:j=q
   ·subst hq
    rw [if_pos rfl,if_pos (by simpa using hjl),List.getElem?_map,f2]
    rfl
   ·rw [if_neg hq]
  refine fin (es.modify j fun e=>{ e with key := .int k i,val:=a.eval z }) clock ?_ ?_ ?_ ?_
  ·rw [g1] at h1
   have hso:=run_setObj_map (P:=P) (Obj.map (es.modify j fun e=>{ e with key := .int k i,val:=a.eval z }) clock) g2
   have hst:(Instr.keyThatStays (.int k i) (.int k i)).run P w = .ok (.int k i) w:=by simp [Instr.keyThatStays,Instr.sameBits]
   generalize a.eval=ρ at h1 e2 hso ⊢
   simp [execOp,ho,Instr.mapUpdate,run_underlying hu,h1,e2,hge,hck,hfk,hej,f5,hst,hso]
  ·rw [hmod,p2' j c' f3 (Z4 0 (j:=j) g3 hik f1)]
   exact a3O g3 ⟨.sc (.int k i),c,rfl,rfl,rfl,e3⟩
  ·intro e' he
   have h6:e'.born∈(es.modify j fun e=>{ e with key := .int k i,val:=a.eval z }).toList.map (fun e:MapEntry=>e.born):=List.mem_map.2 ⟨e',Array.mem_toList_iff.2 he,rfl⟩
   rw [hbr] at h6
   obtain ⟨e4,h7,h8⟩:=List.mem_map.1 h6
   rw [←h8]
   exact g4 e4 (by simpa using h7)
  ·rw [hbr];exact g5
theorem zbf {P:Program} {w0:World} {U0:UX} {nt:Nat} {ops:Array Oper} {o:Oper} {S:Nat→Option AV} {gs:List Nat} {x:Operand} {y:Operand} {z:Operand} {t:TypeId} {kt:TypeId} {et:TypeId} {k:IntKind} {i:Int} {n:Nat} {l:List CV} {c:CV} {n'} {q'} {p'} {n2} {q2} {p2} (p:Gd w0 U0 nt ops o gs S:=by exact gN rfl) (r:o.dst=none:=by exact rfl) (u:o.op = .mapUpdate t x y z:=by exact rfl) (v:P.underlying t=some (.map kt et):=by exact rfl) (A:P.underlying kt=some (.int k):=by exact rfl) (B:ev S x=some (.mref n):=by exact rfl) (C:ev S y=some ⟨0,.sc (.int k i),n',q',p'⟩:=by exact rfl) (E:ev S z=some ⟨0,c,n2,q2,p2⟩:=by exact rfl) (F:S n=some (.mp l):=by exact rfl) (G:w8 k l):AOp P w0 U0 nt ops o (gs++(rd x++(rd y++(rd z++[n])))) [] S [(n,.mp (a1Q k i c l))]:=b6s p r u v A B C E F G
end
end Go.Proofs.YtglmoficcjphaaaGreat
namespace Go.Proofs.YtglmoficcjphaaaGreat
open Go.RowKit
set_option linter.unusedVariables false
set_option linter.unusedSimpArgs false
section
variable {P:Program} {w0:World} {U0:UX} {nt:Nat} {ops:Array Oper} {o:Oper} {S:Nat→Option AV} {gs:List Nat} {d:Nat} {s:AS} {a:Act} {w:World} {D:Nat→Nat→Prop} {hv:Nat→Value}
theorem AOp.plain {R:List Nat} {N:List (Nat×List Nat)} {c:CV} {n q:Nat} {p:List Nat} (h5:Nat.blt d 100000=true) (h:AOp P w0 U0 nt ops o R N S [(d,⟨0,c,n,q,p⟩)]):AOp P w0 U0 nt ops o R N S [(d,.val c)]:=by
 intro s hs hN a w hsim Q K hK
 refine h s hs hN a w hsim Q K fun a' w' hs'=>hK a' w' ?_
 obtain ⟨D,hv,hg⟩:=hs'
 obtain ⟨v,g1,g2⟩:=hg.slot d _ (lS _ _ _) (bL h5)
 refine ⟨D,hv,(hg.know (bL h5) g1 (k8 g2.1)).congr fun k=>?_⟩
 show look ((d,AV.val c)::s) k=look ((d,AV.val c)::(d,_)::s) k
 rw [f0,f0,f0]
 split<;>rfl
theorem b4J (hg:Gd w0 U0 nt ops o gs S) (hd:o.dst=some d) (hn:Nat.blt d nt=true) (h5:Nat.blt d 100000=true) {t:TypeId} {parts:Array (Nat×Operand)} {fs:Array Field} {it:TypeInfo} {cs:Array Value} {sz:List Nat} {zs r:List CV} {n:Nat} {p:List Nat} (ho:o.op = .build t parts) (hu:P.underlying t=some (.struct fs)) (hi:P.info? t=some it) (hz:it.zero=some (.agg cs)) (hsz:szO P fs.toList 0=some sz) (h0:zsO sz cs.toList=some zs) (hr:N0 S parts.toList zs=some r) (hp:a7w zs parts.toList 0=(n,p)) :
  AOp P w0 U0 nt ops o (gs++rds parts.toList) [] S [(d,.val (.row r))]:=(b0p hg hd hn h5 ho hu hi hz hsz h0 hr hp).plain h5
theorem zbN {P:Program} {w0:World} {U0:UX} {nt:Nat} {ops:Array Oper} {o:Oper} {S:Nat→Option AV} {gs:List Nat} {d:Nat} {t:TypeId} {parts:Array (Nat×Operand)} {fs:Array Field} {it:TypeInfo} {cs:Array Value} {sz:List Nat} {zs:List CV} {r:List CV} {n:Nat} {p:List Nat} (q:Gd w0 U0 nt ops o gs S:=by exact gN rfl) (u:o.dst=some d:=by exact rfl) (v:Nat.blt d nt=true:=by exact rfl) (x:Nat.blt d 100000=true:=by exact rfl) (y:o.op = .build t parts:=by exact rfl) (z:P.underlying t=some (.struct fs):=by exact rfl) (A:P.info? t=some it:=by exact rfl) (B:it.zero=some (.agg cs):=by exact rfl) (C:szO P fs.toList 0=some sz:=by exact rfl) (E:zsO sz cs.toList=some zs:=by exact rfl) (F:N0 S parts.toList zs=some r:=by exact rfl) (G:a7w zs parts.toList 0=(n,p):=by exact rfl):AOp P w0 U0 nt ops o (gs++rds parts.toList) [] S [(d,.val (.row r))]:=b4J q u v x y z A B C E F G
theorem b1O {t k e:TypeId} (hu:P.underlying t=some (.map k e)) (w:World):(Op.equal t (.map none) (.map none)).run P w = .ok true w:=by
 unfold Op.equal
 rw [show Op.maxDepth=9999+1 from rfl,Op.equalIn]
 simp [run_underlying hu]
theorem b1N (z:List Value) (hz:0<z.length) (n:Nat):(madeCells z.toArray (n*z.length)).toList=(List.replicate n z).flatten:=by
 apply List.ext_getElem?
 intro k
 rw [J3 hz _ (fun v hv=>by rw [List.eq_of_mem_replicate hv])]
 have hlen:(madeCells z.toArray (n*z.length)).toList.length=n*z.length:=by simp [size_madeCells]
 rcases Nat.lt_or_ge k (n*z.length) with h | h
 ·have hd:k / z.length<n:=by rw [Nat.div_lt_iff_lt_mul hz];exact h
  have hm:k % z.length<z.length:=Nat.mod_lt _ hz
  rw [List.getElem?_replicate,if_pos hd]
  simp only [Option.bind_some]
  rw [List.getElem?_eq_getElem hm]
  simp [madeCells,h,hm]
 ·rw [List.getElem?_eq_none (by omega),List.getElem?_replicate,if_neg]
  ·rfl
  ·rw [Nat.not_lt,Nat.le_div_iff_mul_le hz];exact h
theorem c0F (nn:Nat) (hg:Gd w0 U0 nt ops o gs S) (hd:o.dst=some d) (hn:Nat.blt d nt=true) (h5:Nat.blt d 100000=true) {x y:Operand} {t e size bytes k:Nat} {z:Value} {zc:CV} {i1 i2:Int} {k1 k2:IntKind} {n1 q1 p1 n2 q2 p2} (ho:o.op = .makeSlice t x y) (ht:P.underlying t=some (.slice e)) (hi:(P.info? e).map (fun i=>(i.zero,i.size,i.bytes))=some (some z,size,bytes)) (hzc:S0 P e=some zc) (hzs:Nat.beq z.cells.size size=true) (hzz:zc.size=size) (hsz:Nat.blt 0 size=true) (hbt:Nat.ble bytes 1000=true)
  (hx:ev S x=some ⟨0,.sc (.int k1 i1),n1,q1,p1⟩) (hy:ev S y=some ⟨0,.sc (.int k2 i2),n2,q2,p2⟩) (hn2:(Nat.ble 200000 nn&&Nat.blt nn 400000)=true) (h1:i1=(k:Int)) (h2:i2=(k:Int)) (hs1:Nat.ble size 160=true) (hbd:k≤100000) :
  AOp P w0 U0 nt ops o (gs++(rd x++rd y)) [(nn,[])] S [(d,.sl nn 0 k size),(nn,.mrow e size (List.replicate k zc))]:=by
 intro s hs hN a w ⟨D,hv,h⟩ Q K hK
 rw [if_pos (hg s (fun k hk=>hs k (List.mem_append_left _ hk)) a w D hv h)]
 have e1:=s9 h (fun k hk=>hs k (List.mem_append_right _ (List.mem_append_left _ hk))) hx
 have e2:=s9 h (fun k hk=>hs k (List.mem_append_right _ (List.mem_append_right _ hk))) hy
 subst h1
 subst h2
 obtain ⟨i,hi1,hi2,hi3,hi4⟩:=info_parts hi
 have hsz:=bL hsz
 have hbt:=Nat.le_of_ble_eq_true hbt
 have hzs:=Nat.eq_of_beq_eq_true hzs
 have hmul:bytes*k≤1000*100000:=Nat.mul_le_mul hbt hbd
 have hk:k*size≤100000*160:=Nat.mul_le_mul hbd (Nat.le_of_ble_eq_true hs1)
 obtain ⟨w',r1,r2,r3⟩:=run_makeSlice_full (P:=P) (w:=w) w.heap.size t e i z size ht hi1 hi2 hi3 k1 k2 k (by omega) (by rw [hi4];omega) (by unfold maxLen;omega) (Nat.le_refl _)
 have hrn2:=rnB hn2
 obtain ⟨it,z',f1,f2,f3⟩:=J1 hzc
 rw [hi1] at f1
 cases f1
 rw [hi2] at f2
 cases f2
 have hmf:(madeCells z.cells (k*size)).toList=(List.replicate k z.cells.toList).flatten:=by
  have:=b1N z.cells.toList (by simpa [hzs] using hsz) k
  simpa [hzs] using this
 rw [hmf] at r2
 have hkp:∀ b o u,Us w0 U0 D b o→w.cell? ⟨b,o,none⟩=some u→Us w0 U0 D b o∧w'.cell? ⟨b,o,none⟩=some u:=fun b o u hu hc=>by
  refine ⟨hu,?_⟩
  have hlt:b<w.heap.size:=World.block_lt_of_cell? w _ hc
  rw [World.cell?_of_block (w:=w) (r3.block b hlt (by simp))]
  exact hc
 have hG:=h.newrow (avn := .mrow e size (List.replicate k zc)) (v' := .slice (some ⟨w.heap.size,0,none⟩) k k) (D':=D) (X:=fun _=>False) (n:=nn) hrn2 (hN (nn,[]) (by simp)).nr (by simp) ⟨r3.os,r3.tape,r3.output,r3.size,fun b hb hx=>r3.block b hb (by simp)⟩ (fun b hb=>hb.elim) (fun g hg=>by
   have hg:(Value.slice (some ⟨w.heap.size,0,none⟩) k k).ownBlock=some g:=hg
   refine ⟨.inr (r2.lt g hg).1,(r2.lt g hg).2,fun o _ hd=>?_⟩
   have:=(r2.lt g hg).1
   have:=h.dlt _ _ hd
   omega) (fun b o hd => .inl hd) (fun b o hd=>Nat.lt_of_lt_of_le (h.dlt _ _ hd) r3.size) hkp (fun hv lv=>by
   refine ⟨(List.replicate k z.cells.toList).flatten,?_,hsz,fun c hc=>?_,a5L (f3 _ _) k⟩
   ·show w'.ownsRow 0 e size _ (List.replicate k zc).length _
    rw [List.length_replicate]
    exact r7 r2 (Nat.zero_le _)
   ·rw [List.eq_of_mem_replicate hc];exact hzz)
 have he:(execOp a.eval o).run P w = .ok (.value (.slice (some ⟨w.heap.size,0,none⟩) k k)) w':=by
  generalize a.eval=ρ at e1 e2 ⊢
  simp [execOp,ho,e1,e2,r1]
 unfold Oper.wp
 rw [he,Oper.upon_value,hd]
 refine hK _ _ ⟨_,_,hG.put (bL hn) (bL h5) ⟨RW.rn hrn2,?_⟩⟩
 show SlV ((fun x=>if x=nn then Value.slice (some ⟨w.heap.size,0,none⟩) k k else hv x) nn) 0 k size _
 simp only [if_true]
 exact R2 rfl (Nat.le_refl _) (.inr ⟨_,rfl⟩)
theorem zbj {P:Program} {w0:World} {U0:UX} {nt:Nat} {ops:Array Oper} {o:Oper} {S:Nat→Option AV} {gs:List Nat} {d:Nat} {x:Operand} {y:Operand} {t:Nat} {e:Nat} {size:Nat} {bytes:Nat} {k:Nat} {z:Value} {zc:CV} {i1:Int} {i2:Int} {k1:IntKind} {k2:IntKind} {n1} {q1} {p1} {n2} {q2} {p2} (nn:Nat) (p:Gd w0 U0 nt ops o gs S:=by exact gN rfl) (q:o.dst=some d:=by exact rfl) (r:Nat.blt d nt=true:=by exact rfl) (v:Nat.blt d 100000=true:=by exact rfl) (A:o.op = .makeSlice t x y:=by exact rfl) (B:P.underlying t=some (.slice e):=by exact rfl) (C:(P.info? e).map (fun i=>(i.zero,i.size,i.bytes))=some (some z,size,bytes):=by exact rfl) (E:S0 P e=some zc:=by exact rfl) (F:Nat.beq z.cells.size size=true:=by exact rfl) (G:zc.size=size:=by exact rfl) (H:Nat.blt 0 size=true:=by exact rfl) (hbt:Nat.ble bytes 1000=true:=by exact rfl) (hx:ev S x=some ⟨0,.sc (.int k1 i1),n1,q1,p1⟩:=by exact rfl) (hy:ev S y=some ⟨0,.sc (.int k2 i2),n2,q2,p2⟩:=by exact rfl) (hn2:(Nat.ble 200000 nn&&Nat.blt nn 400000)=true:=by exact rfl) (h1:i1=(k:Int):=by first | rfl | omega | (simp only [List.length_set,List.length_map,List.length_append,List.length_cons,List.length_nil]<;>omega) | (simp<;>omega)) (h2:i2=(k:Int):=by first | rfl | omega | (simp only [List.length_set,List.length_map,List.length_append,List.length_cons,List.length_nil]<;>omega) | (simp<;>omega)) (hs1:Nat.ble size 160=true:=by exact rfl) (hbd:k≤100000:=by first | rfl | omega | (simp only [List.length_set,List.length_map,List.length_append,List.length_cons,List.length_nil]<;>omega) | (simp<;>omega)):AOp P w0 U0 nt ops o (gs++(rd x++rd y)) [(nn,[])] S [(d,.sl nn 0 k size),(nn,.mrow e size (List.replicate k zc))]:=c0F nn p q r v A B C E F G H hbt hx hy hn2 h1 h2 hs1 hbd
end
section
variable {P:Program} {w0:World} {U0:UX} {nt:Nat} {ops:Array Oper} {o:Oper} {S:Nat→Option AV} {gs:List Nat} {d:Nat} {s:AS} {a:Act} {w:World} {D:Nat→Nat→Prop} {hv:Nat→Value}
theorem b4k (sz:List Nat) (hg:Gd w0 U0 nt ops o gs S) (hd:o.dst=some d) (hn:Nat.blt d nt=true) (h5:Nat.blt d 100000=true) {ty:TypeId} {it:TypeInfo} {cs:Array Value} {zs:List CV} (ho:o.op = .alloc ty) (hi:P.info? ty=some it) (hz:it.zero=some (.agg cs)) (h0:zsO sz cs.toList=some zs):AOp P w0 U0 nt ops o gs [(d,[])] S [(d,.bp d 0 []),(100000+d,.bx (.row zs))]:=by
 intro s hs hN a w ⟨D,hv,h⟩ Q K hK
 rw [if_pos (hg s hs a w D hv h)]
 obtain ⟨segs,e1,e2,e3,e4,e5⟩:=E6 (U:=Us w0 U0 D) (w:=w) h0
 have hrep:Rep (Us w0 U0 D) w (.row zs) cs.toList:=by
  rw [F5,←e1]
  exact G0 e4 (fun i c hi=>by obtain ⟨seg,f1,f2,_⟩:=e5 i c hi;exact ⟨seg,f1,f2⟩)
 have he:(execOp a.eval o).run P w = .ok (.value (.pointer (some ⟨w.heap.size,0,none⟩))) (w.alloc (.cells cs ty)):=by
  simp [execOp,ho,Instr.alloc,zeroValue,typeInfo,hi,hz,F9,Value.cells]
 unfold Oper.wp
 rw [he,Oper.upon_value,hd]
 have:=h.newbox (d:=d) (av := .bx (.row zs)) (hN (d,[]) (by simp)).nr (bL hn) (bL h5) (.inl rfl) ty (fun _=>hrep) (fun _ hl=>absurd hl B3)
 rw [Array.toArray_toList] at this
 exact hK _ _ ⟨_,_,this⟩
theorem zbb {P:Program} {w0:World} {U0:UX} {nt:Nat} {ops:Array Oper} {o:Oper} {S:Nat→Option AV} {gs:List Nat} {d:Nat} {ty:TypeId} {it:TypeInfo} {cs:Array Value} {zs:List CV} (sz:List Nat) (p:Gd w0 U0 nt ops o gs S:=by exact gN rfl) (q:o.dst=some d:=by exact rfl) (r:Nat.blt d nt=true:=by exact rfl) (t:Nat.blt d 100000=true:=by exact rfl) (u:o.op = .alloc ty:=by exact rfl) (v:P.info? ty=some it:=by exact rfl) (x:it.zero=some (.agg cs):=by exact rfl) (y:zsO sz cs.toList=some zs:=by exact rfl):AOp P w0 U0 nt ops o gs [(d,[])] S [(d,.bp d 0 []),(100000+d,.bx (.row zs))]:=b4k sz p q r t u v x y
theorem b3G (sz:List Nat) (hg:Gd w0 U0 nt ops o gs S) (hd:o.dst=some d) (hn:Nat.blt d nt=true) (h5:Nat.blt d 100000=true) {t e:TypeId} {m z:Nat} {parts:Array (Nat×Operand)} {it ie:TypeInfo} {cs:Array Value} {zs r:List CV} (ho:o.op = .build t parts) (hu:P.underlying t=some (.array m e)) (hi:P.info? t=some it) (hie:P.info? e=some ie) (hz:it.zero=some (.agg cs)) (hez:ie.size=z) (hsz:sz=List.replicate m z) (h0:zsO sz cs.toList=some zs) (hr:N0 S parts.toList zs=some r) :
  AOp P w0 U0 nt ops o (gs++rds parts.toList) [] S [(d,.val (.row r))]:=
 d9 hg hd hn h5 (fun k hk=>List.mem_append_left _ hk) fun s hs a w D hv hm=>by
  obtain ⟨segs,e1,e2,e3,e4,e5⟩:=E6 (U:=Us w0 U0 D) (w:=w) h0
  have hlen:segs.map List.length=zs.map CV.size:=by rw [e2,e3]
  obtain ⟨g1,g2⟩:=Q2 (U:=Us w0 U0 D) (w:=w) (ρ:=a.eval) (segs:=segs) hr (fun x hx c n q p hev=>A0 hm (fun k hk=>hs k (List.mem_append_right _ (a2U hx k hk))) hev) e4 hlen (fun i c hi=>by obtain ⟨seg,f1,f2,_⟩:=e5 i c hi;exact ⟨seg,f1,f2⟩)
  have hfill:=W6 (place:=fun i=>some (i*ie.size,ie.size)) sz (fun i z' hz'=>by
   rw [hsz,List.getElem?_replicate] at hz'
   split at hz'
   ·rename_i him
    cases hz'
    rw [hsz,List.take_replicate,List.sum_replicate_nat,hez,Nat.min_eq_left (Nat.le_of_lt him)]
   ·cases hz') (parts.toList.map fun x=>(x.1,a.eval x.2)) segs cs e1.symm e2 (fun x hx=>by rw [←e3];exact g1 x hx)
  refine ⟨.agg (D8 segs (parts.toList.map fun x=>(x.1,a.eval x.2))).flatten.toArray,?_,k8 (H6.2 ⟨_,rfl,g2⟩)⟩
  have hb:P.built t (parts.map fun x=>(x.1,a.eval x.2)).toList=some (D8 segs (parts.toList.map fun x=>(x.1,a.eval x.2))).flatten.toArray:=by
   unfold Program.built
   rw [hi,hu]
   simp only [hz,hie]
   rw [Array.toList_map]
   exact hfill
  have:=run_build w t _ _ hb
  generalize a.eval=ρ at this ⊢
  simp [execOp,ho,this]
theorem z8 {P:Program} {w0:World} {U0:UX} {nt:Nat} {ops:Array Oper} {o:Oper} {S:Nat→Option AV} {gs:List Nat} {d:Nat} {t:TypeId} {e:TypeId} {m:Nat} {z:Nat} {parts:Array (Nat×Operand)} {it:TypeInfo} {ie:TypeInfo} {cs:Array Value} {zs:List CV} {r:List CV} (sz:List Nat) (u:Gd w0 U0 nt ops o gs S:=by exact gN rfl) (v:o.dst=some d:=by exact rfl) (y:Nat.blt d nt=true:=by exact rfl) (A:Nat.blt d 100000=true:=by exact rfl) (B:o.op = .build t parts:=by exact rfl) (C:P.underlying t=some (.array m e):=by exact rfl) (E:P.info? t=some it:=by exact rfl) (F:P.info? e=some ie:=by exact rfl) (G:it.zero=some (.agg cs):=by exact rfl) (H:ie.size=z:=by exact rfl) (hsz:sz=List.replicate m z:=by exact rfl) (h0:zsO sz cs.toList=some zs:=by exact rfl) (hr:N0 S parts.toList zs=some r:=by exact rfl):AOp P w0 U0 nt ops o (gs++rds parts.toList) [] S [(d,.val (.row r))]:=b3G sz u v y A B C E F G H hsz h0 hr
theorem b8Q (j:Nat) (hg:Gd w0 U0 nt ops o gs S) (hd:o.dst=some d) (hn:Nat.blt d nt=true) (h5:Nat.blt d 100000=true) {x y:Operand} {ty e:TypeId} {m z n q:Nat} {p:List Nat} {k' v' l'} {i:Int} {kd:IntKind} {n2 q2 p2} (ho:o.op = .indexAddr ty x y) (hu:P.underlying ty=some (.array m e)) (hz:(P.info? e).map (·.size)=some z) (hx:ev S x=some ⟨2,⟨k',v',l'⟩,n,q,p⟩) (hy:ev S y=some ⟨0,.sc (.int kd i),n2,q2,p2⟩) (hi:i=(j:Int)) (hj:Nat.blt j m=true):AOp P w0 U0 nt ops o (gs++(rd x++rd y)) [] S [(d,.bp n (q+j*z) (p++[j]))]:=
 d9 hg hd hn h5 (fun k hk=>List.mem_append_left _ hk) fun s hs a w D hv hm=>by
  obtain ⟨hbn,h1⟩:BN n∧a.eval x = .pointer (some ⟨o0 (hv (100000+n)),q,none⟩):=i9 hm (fun k hk=>hs k (List.mem_append_right _ (List.mem_append_left _ hk))) hx
  have e2:=s9 hm (fun k hk=>hs k (List.mem_append_right _ (List.mem_append_right _ hk))) hy
  have hsz:=A7 (P:=P) (w:=w) hz
  have hj:=bL hj
  subst hi
  refine ⟨.pointer (some ⟨o0 (hv (100000+n)),q+j*z,none⟩),?_,hbn,rfl⟩
  have hadd:=a0q (o0 (hv (100000+n))) q (j*z)
  generalize a.eval=ρ at h1 e2 ⊢
  simp [execOp,ho,Instr.indexAt,asIntOf,run_underlying hu,Instr.sureAddr,h1,e2,hj,hsz,hadd]
theorem zbd {P:Program} {w0:World} {U0:UX} {nt:Nat} {ops:Array Oper} {o:Oper} {S:Nat→Option AV} {gs:List Nat} {d:Nat} {x:Operand} {y:Operand} {ty:TypeId} {e:TypeId} {m:Nat} {z:Nat} {n:Nat} {q:Nat} {p:List Nat} {k'} {v'} {l'} {i:Int} {kd:IntKind} {n2} {q2} {p2} (j:Nat) (r:Gd w0 U0 nt ops o gs S:=by exact gN rfl) (t:o.dst=some d:=by exact rfl) (u:Nat.blt d nt=true:=by exact rfl) (v:Nat.blt d 100000=true:=by exact rfl) (A:o.op = .indexAddr ty x y:=by exact rfl) (B:P.underlying ty=some (.array m e):=by exact rfl) (C:(P.info? e).map (·.size)=some z:=by exact rfl) (E:ev S x=some ⟨2,⟨k',v',l'⟩,n,q,p⟩:=by exact rfl) (F:ev S y=some ⟨0,.sc (.int kd i),n2,q2,p2⟩:=by exact rfl) (G:i=(j:Int):=by exact rfl) (H:Nat.blt j m=true:=by exact rfl):AOp P w0 U0 nt ops o (gs++(rd x++rd y)) [] S [(d,.bp n (q+j*z) (p++[j]))]:=b8Q j r t u v A B C E F G H
theorem b2b (hg:Gd w0 U0 nt ops o gs S) (hd:o.dst=some d) (hn:Nat.blt d nt=true) (h5:Nat.blt d 100000=true) {x y:Operand} {t kt et:TypeId} {k k2:IntKind} {i z2:Int} {n:Nat} {l:List CV} {n' q' p'} (ho:o.op = .lookup t x y true) (hu:P.underlying t=some (.map kt et)) (huk:P.underlying kt=some (.int k)) (hz2:(P.info? et).map (·.zero)=some (some (.int k2 z2))) (hzc:S0 P et=some (.sc (.int k2 z2))) (hx:ev S x=some (.mref n)) (hy:ev S y=some ⟨0,.sc (.int k i),n',q',p'⟩) (hm':S n=some (.mp l)) (hik:w8 k l):AOp P w0 U0 nt ops o (gs++(rd x++(rd y++[n]))) [] S [(d,.tup [(D6 k i l).getD (.sc (.int k2 z2)),.b (D6 k i l).isSome])]:=
 b3X hg hd hn h5 ho hu huk hzc hx hy hm' hik fun U w v _ hh=>by
  obtain ⟨it,h1,h2⟩:=hh
  rw [h1,Option.map_some,h2] at hz2
  injection hz2 with hz2
  injection hz2 with hz2
  rw [hz2]
  exact l8.2 ⟨rfl,rfl⟩
theorem zbe {P:Program} {w0:World} {U0:UX} {nt:Nat} {ops:Array Oper} {o:Oper} {S:Nat→Option AV} {gs:List Nat} {d:Nat} {x:Operand} {y:Operand} {t:TypeId} {kt:TypeId} {et:TypeId} {k:IntKind} {k2:IntKind} {i:Int} {z2:Int} {n:Nat} {l:List CV} {n'} {q'} {p'} (p:Gd w0 U0 nt ops o gs S:=by exact gN rfl) (q:o.dst=some d:=by exact rfl) (r:Nat.blt d nt=true:=by exact rfl) (u:Nat.blt d 100000=true:=by exact rfl) (z:o.op = .lookup t x y true:=by exact rfl) (A:P.underlying t=some (.map kt et):=by exact rfl) (B:P.underlying kt=some (.int k):=by exact rfl) (C:(P.info? et).map (·.zero)=some (some (.int k2 z2)):=by exact rfl) (E:S0 P et=some (.sc (.int k2 z2)):=by exact rfl) (F:ev S x=some (.mref n):=by exact rfl) (G:ev S y=some ⟨0,.sc (.int k i),n',q',p'⟩:=by exact rfl) (H:S n=some (.mp l):=by exact rfl) (hik:w8 k l):AOp P w0 U0 nt ops o (gs++(rd x++(rd y++[n]))) [] S [(d,.tup [(D6 k i l).getD (.sc (.int k2 z2)),.b (D6 k i l).isSome])]:=b2b p q r u z A B C E F G H hik
def b5w (s:AS) (n:Nat):Bool:=s.all fun p=>!((Nat.beq p.2.t 15||Nat.beq p.2.t 19)&&Nat.beq p.2.n n)
theorem b9A (n k:Nat) {e z:Nat} {l:List CV} (hm:look s n=some (.mrow e z l)) (hn:(Nat.ble 200000 n&&Nat.blt n 400000)=true) (hkl:k≤l.length) (hr:b5w s n=true):Wk w0 U0 nt s ((n,.mrow e z (l.take k))::s):=by
 rintro a w ⟨D,hv,h⟩
 have hrn:=rnB hn
 have hrn1:RN n:=RW.rn hrn
 obtain ⟨xs,f1,f2,f3,f4⟩:=h.mrow hm hrn1
 obtain ⟨ao,cap,e1,e2,e3⟩:=U1 f1
 obtain ⟨hv',hhv⟩:∃ hv':Nat→Value,hv'=fun x=>if x=n then .slice ao k cap else hv x:=⟨_,rfl⟩
 have hvn:∀ x,x≠n→hv' x=hv x:=fun x hx=>by rw [hhv];simp only [if_neg hx]
 have hvd:hv' n = .slice ao k cap:=by rw [hhv];simp
 have hbs:∀ x,hb (hv' x)=hb (hv x):=fun x=>by
  by_cases hx:x=n
  ·subst hx;rw [hvd,e1];cases ao<;>rfl
  ·rw [hvn x hx]
 have hbk:∀ x,o0 (hv' x)=o0 (hv x):=fun x=>by unfold o0;rw [hbs]
 have hlk:∀ {k'},k'≠n→look ((n,AV.mrow e z (l.take k))::s) k'=look s k':=fun {k'} h1=>lN (Ne.symm h1)
 have hl:∀ q f,r9 ((n,AV.mrow e z (l.take k))::s) q f↔r9 s q f:=fun q f=>by
  unfold r9
  by_cases e4:q=n
  ·subst e4
   rw [lS,hm]
   constructor<;>(rintro ⟨h1,_⟩;cases h1)
  ·rw [hlk e4]
 have hl2:a8 ((n,AV.mrow e z (l.take k))::s)=a8 s:=by funext q;simp only [a8,hl]
 have hnl:¬ a8 s n:=by
  rintro (h1 | ⟨f,h1⟩)
  ·omega
  ·rw [h1.1] at hm;cases hm
 have hrep:∀ {k' av v},look s k'=some av→AVRep (Us w0 U0 D) w hv (a8 s) av v→AVRep (Us w0 U0 D) w hv' (a8 s) av v:=fun {k' av v} g1 g2=>by
  by_cases hc:hk av=n∧(av.t=11∨av.t=12∨av.t=15∨av.t=19)
  ·obtain ⟨c1,c2⟩:=hc
   have ht2:av.t≠2:=by omega
   rw [H9.2 ht2] at c1
   unfold AVRep at g2 ⊢
   rw [if_neg (by omega),if_neg (by omega),if_neg (by omega),if_neg (by omega)] at g2 ⊢
   rcases c2 with c2 | c2 | c2 | c2
   ·rw [if_pos c2] at g2 ⊢;rw [hbk];exact g2
   ·rw [if_neg (by omega),if_pos c2] at g2 ⊢
    obtain ⟨r1,a0,m,cp,a1,b1,b2,b3⟩:=g2
    rw [c1,e1] at b1
    injection b1 with i1 i2 i3
    subst i1;subst i3
    exact ⟨r1,ao,k,cap,a1,by rw [c1];exact hvd,b2,b3⟩
   all_goals
    unfold b5w at hr
    rw [List.all_eq_true] at hr
    have:=hr _ (C9 g1)
    simp only [c2,c1,Nat.beq_refl] at this
    cases this
  ·refine g2.move (fun _ _ _ h1 h2=>⟨h1,h2⟩) (fun _ h1=>h1) fun hR=>?_
   by_cases e4:hk av=n
   ·exfalso
    rcases hR with ⟨r1,r2,r3⟩ | ⟨r1,r2⟩ | ⟨r1,r2⟩
    ·rw [H9.2 (by omega)] at e4;rw [e4] at r2;exact hnl r2
    ·rw [H9.1 r1] at e4;unfold BN at r2;omega
    ·exact hc ⟨e4,r1⟩
   ·exact hvn _ e4
 refine ⟨D,hv',h.below,h.dfr,h.size,fun d av g1 g2=>?_,fun m o av g1 g2 g3 g4=>?_,fun m o o' av av' g1 g2=>?_,fun k' av g1 g2=>?_,fun k' av g g1 g2 g3 g4=>?_,fun k' k2 av av' g g1 g2 g3 g4 g5 g6 g7 g8=>?_,fun k' v g1=>?_,h.dlt⟩
 ·rw [hlk (by omega)] at g1
  rw [hl2]
  obtain ⟨v,h1,h2⟩:=h.slot d av g1 g2
  exact ⟨v,h1,hrep g1 h2⟩
 ·rw [hlk (by unfold b9;omega)] at g1
  rw [hlk (by unfold BN at g4;omega)] at g3
  rw [hl2,hbk]
  obtain ⟨v,h1,h2⟩:=h.fld m o av g1 g2 g3 g4
  exact ⟨v,hrep g1 h1,h2⟩
 ·rw [hlk (by unfold b9;omega)] at g1 g2
  exact h.fdis m o o' av av' g1 g2
 ·rw [hl2]
  by_cases e4:k'=n
  ·subst e4
   rw [lS] at g1
   cases g1
   rw [hvd]
   have hx:∃ ys zs,xs=ys++zs∧Sq ((l.take k).map fun c=>Rep (Us w0 U0 D) w c) ys:=by
    have f4':=f4
    rw [←List.take_append_drop k l,List.map_append] at f4'
    obtain ⟨y1,r1,q1,q2,q3⟩:=t9 f4'
    exact ⟨y1,r1,q1,q2⟩
   obtain ⟨ys,zs,q1,q2⟩:=hx
   have hyl:ys.length=k*z:=by rw [C5 (n:=CV.size) (fun c _ xs h=>h.len) q2,r5 (fun c hc=>f3 c (List.mem_of_mem_take hc)),List.length_take,Nat.min_eq_left hkl]
   refine ⟨ys,⟨?_,?_⟩,f2,fun c hc=>f3 c (List.mem_of_mem_take hc),q2⟩
   ·show ys.length=(l.take k).length*z
    rw [List.length_take,Nat.min_eq_left hkl];exact hyl
   ·show (Value.slice ao k cap=_∧(l.take k).length=0)∨_
    rw [List.length_take,Nat.min_eq_left hkl]
    rcases f1.2 with ⟨h1,h2⟩ | ⟨g,cap',cur,h1,h2,h3,h4,h6,h7,h8⟩
    ·rw [e1] at h1
     injection h1 with i1 i2 i3
     subst i1;subst i3
     have:k=0:=by omega
     subst this
     exact .inl ⟨rfl,rfl⟩
    ·rw [e1] at h1
     injection h1 with i1 i2 i3
     subst i1;subst i3
     refine .inr ⟨g,cap,cur,rfl,h2,h3,by omega,h6,h7,?_⟩
     have h8':cur.toList.take (l.length*z)=xs:=h8
     have:cur.toList.take (k*z)=xs.take (k*z):=by
      rw [←h8',List.take_take,Nat.min_eq_left (Nat.mul_le_mul_right z hkl)]
     show List.take (k*z) cur.toList=ys
     rw [this,q1,←hyl]
     exact List.take_left' rfl
  ·rw [hlk e4] at g1
   rw [hvn k' e4]
   by_cases h7:av.t=7
   ·exact a4v h7
   ·refine (h.obj k' av g1 g2).move (fun _ _ _ h1 h2=>⟨h1,h2⟩) (fun _ h3=>⟨h3,?_⟩) fun _ _=>rfl
    unfold G9
    split
    ·rfl
    ·exact hvn _ fun e5=>hnl (e5▸h3)
 ·rw [hbs] at g4
  by_cases e4:k'=n
  ·subst e4
   rw [lS] at g1
   cases g1
   obtain ⟨h1,h2,h3⟩:=h.blk k' _ g hm g2 (by simp) g4
   exact ⟨h1,h2,fun o _=>h3 o fun e5=>by cases e5⟩
  ·rw [hlk e4] at g1
   obtain ⟨h1,h2,h3⟩:=h.blk k' av g g1 g2 g3 g4
   rw [hvn k' e4]
   exact ⟨h1,h2,h3⟩
 ·rw [hbs] at g8 ⊢
  have conv:∀ {x av},look ((n,AV.mrow e z (l.take k))::s) x=some av→av.t≠7→∃ av0,look s x=some av0∧av0.t≠7:=fun {x av} h1 h2=>by
   by_cases e4:x=n
   ·subst e4;exact ⟨_,hm,by simp⟩
   ·rw [hlk e4] at h1;exact ⟨av,h1,h2⟩
  obtain ⟨b1,c1,c2⟩:=conv g1 g5
  obtain ⟨b2,c3,c4⟩:=conv g2 g6
  exact h.disj k' k2 b1 b2 g c1 c3 g3 g4 c2 c4 g7 g8
 ·have h1:=U0.hf k' v g1
  rw [hvn k' (by omega)]
  exact h.fix k' v g1
def SameS (S:Nat→Option AV) (ks:List Nat):AS→Prop
 | []=>True
 | (k,av)::l=>(n4 ks k=true∨S k=some av)∧SameS S ks l
theorem SameS.look {ks:List Nat}:∀ {l:AS},SameS S ks l→∀ {k av},look l k=some av→n4 ks k=false→S k=some av
 | [],_,k,av,h,_=>by cases h
 | (k',av')::l,⟨h1,h2⟩,k,av,h,hn=>by
  rw [f0] at h
  split at h
  ·rename_i e
   subst e
   cases h
   rcases h1 with h1 | h1
   ·rw [h1] at hn;cases hn
   ·exact h1
  ·exact SameS.look h2 h hn
theorem b4q (post':AS) {f:FuncId} {xs:Array Operand} {ts:Array TypeId} {avs:List AV} {r:AV} {pre post:AS} (hg:Gd w0 U0 nt ops o gs S) (hd:o.dst=some d) (hn:Nat.blt d nt=true) (h5:Nat.blt d 100000=true)
  (ho:o.op = .call { callee := .value (.func f),args:=xs,argTypes:=ts }) (hx:a6d S xs.toList=some avs) (hc:p6 P f pre avs r post) (hp:SubS S pre) (hl:pre.all L9=true) (hq:post.all (I6 (kO post))=true) (hks:(kO pre).all (n4 (kO post))=true) (hr:a4c (kO post) r=true) (hnb:∀ k v,U0.f k=some v→n4 (kO post) k=true→n4 (kO pre) k=true) (hsub:SubL post post') (hsame:SameS S (kO post') post) (hkp:(kO post).all (n4 (kO pre))=true) (hlow:(kO post).all (Nat.ble 100000)=true) :
  AOp P w0 U0 nt ops o (gs++(rdl xs.toList++kO pre)) (L1 (kO pre) (kO post) (kO post)) S ((d,r)::post'):=by
 have h:=b0X hg hd hn h5 ho hx hc hp hl hq hks hr hnb
 intro s hs hN a w hsim Q K hK
 refine h s hs hN a w hsim Q K fun a' w' hs'=>hK a' w' (hs'.sub fun k av h1=>?_)
 have hd5:=bL h5
 have h1:look ((d,r)::(post'++s)) k=some av:=h1
 show look ((d,r)::(post++s)) k=some av
 rw [f0] at h1 ⊢
 split
 ·rename_i e;rw [if_pos e] at h1;exact h1
 ·rename_i e
  rw [if_neg e,i0] at h1
  rw [i0]
  cases e1:look post' k with
  | some x=>rw [e1] at h1;cases h1;rw [hsub.sub k _ e1];rfl
  | none =>
   rw [e1] at h1
   have h1:look s k=some av:=h1
   cases e2:look post k with
   | none=>exact h1
   | some y =>
    have hk2:n4 (kO post') k=false:=by
     cases e3:n4 (kO post') k with
     | false=>rfl
     | true=>obtain ⟨z,hz⟩:=W9 (x8 e3);rw [e1] at hz;cases hz
    have h3:=hsame.look e2 hk2
    rw [List.all_eq_true] at hkp
    have h4:=hkp k (j8 e2)
    have h5:=hs k (List.mem_append_right _ (List.mem_append_right _ (x8 h4)))
    rw [h5,h3] at h1
    exact h1
theorem zbh {P:Program} {w0:World} {U0:UX} {nt:Nat} {ops:Array Oper} {o:Oper} {S:Nat→Option AV} {gs:List Nat} {d:Nat} {f:FuncId} {xs:Array Operand} {ts:Array TypeId} {avs:List AV} {r:AV} {pre:AS} {post:AS} (post':AS) (p:Gd w0 U0 nt ops o gs S:=by exact gN rfl) (q:o.dst=some d:=by exact rfl) (t:Nat.blt d nt=true:=by exact rfl) (u:Nat.blt d 100000=true:=by exact rfl) (A:o.op = .call { callee := .value (.func f),args:=xs,argTypes:=ts }:=by exact rfl) (B:a6d S xs.toList=some avs:=by exact rfl) (C:p6 P f pre avs r post) (E:SubS S pre:=by repeat (first | exact trivial | refine ⟨rfl,?_⟩)) (F:pre.all L9=true:=by first | rfl | kernel_rfl) (G:post.all (I6 (kO post))=true:=by first | rfl | kernel_rfl) (H:(kO pre).all (n4 (kO post))=true:=by first | rfl | kernel_rfl) (hr:a4c (kO post) r=true:=by first | rfl | kernel_rfl) (hnb:∀ k v,U0.f k=some v→n4 (kO post) k=true→n4 (kO pre) k=true) (hsub:SubL post post':=by repeat (first | exact trivial | refine ⟨rfl,?_⟩)) (hsame:SameS S (kO post') post:=by repeat (first | exact trivial | refine ⟨.inl rfl,?_⟩ | refine ⟨.inr rfl,?_⟩)) (hkp:(kO post).all (n4 (kO pre))=true:=by first | rfl | kernel_rfl) (hlow:(kO post).all (Nat.ble 100000)=true:=by first | rfl | kernel_rfl):AOp P w0 U0 nt ops o (gs++(rdl xs.toList++kO pre)) (L1 (kO pre) (kO post) (kO post)) S ((d,r)::post'):=b4q post' p q t u A B C E F G H hr hnb hsub hsame hkp hlow
end
section
variable {P:Program} {w0:World} {U0:UX} {nt:Nat} {ops:Array Oper} {o:Oper} {S:Nat→Option AV} {gs:List Nat} {d:Nat} {s:AS} {a:Act} {w:World} {D:Nat→Nat→Prop} {hv:Nat→Value}
def noL (ds:List Nat):AS:=ds.map fun d=>(d,AV.no)
end
end Go.Proofs.YtglmoficcjphaaaGreat
namespace Go.Proofs.YtglmoficcjphaaaGreat
open Go.RowKit Go.MapKept
set_option linter.unusedVariables false
set_option linter.unusedSimpArgs false
section
variable {P:Program} {w0:World} {U0:UX} {nt:Nat} {ops:Array Oper} {o:Oper} {S:Nat→Option AV} {gs:List Nat} {d:Nat} {s:AS} {a:Act} {w:World} {D:Nat→Nat→Prop} {hv:Nat→Value}
theorem a4X {x y:AV} {k m n:Nat} {e:Nat×Nat} (hk:k<200000) (hm:m<200000∨400000≤m):r9 ((k,x)::(m,y)::s) n e↔r9 s n e:=by
 unfold r9
 constructor
 ·rintro ⟨h1,h2⟩
  rw [lN (by omega),lN (by omega)] at h1
  exact ⟨h1,h2⟩
 ·rintro ⟨h1,h2⟩
  exact ⟨by rw [lN (by omega),lN (by omega)];exact h1,h2⟩
theorem a2Y {lv:Nat→Prop} {a:AV} {d:Nat} (hd:BN d) (hlv:∀ n,lv n→n=1∨RN n) (hr:a.n≠d) (h:Rn lv a):hk a≠100000+d:=by
 unfold BN at hd
 rcases h with ⟨h1,h2,h3⟩ | ⟨h1,h2⟩ | ⟨h1,h2⟩
 ·rw [H9.2 (by omega)]
  rcases hlv _ h2 with h4 | h4
  ·exact absurd h4 h3
  ·unfold RN at h4;omega
 ·rw [H9.1 h1];omega
 ·rw [H9.2 (by omega)];unfold RN at h2;omega
theorem SimG.newboxN (h:SimG w0 U0 nt s a w D hv) {nn:Nat} (hbn:BN nn) (hnf:∀ v,U0.f (100000+nn)=some v→False) (hr:U4 s nn) (hd:d<nt) (h5:d<100000) {av:AV} (hav:av.t=5∨av = .obj) {xs:List Value} (ty:TypeId) (hrep:av.t=5→Rep (Us w0 U0 D) w av.c xs) (htk:av.t=5→Tk hv (a8 s) av xs) :
  SimG w0 U0 nt ((d,.bp nn 0 [])::(100000+nn,av)::s) (a.put (some d) (.pointer (some ⟨w.heap.size,0,none⟩))) (w.alloc (.cells xs.toArray ty)) D (fun k=>if k=100000+nn then .pointer (some ⟨w.heap.size,0,none⟩) else hv k):=by
 have hbn1:=hbn
 unfold BN at hbn1
 have hb':Below w.heap.size w (w.alloc (.cells xs.toArray ty)):=(Below.refl _ _).alloc (Nat.le_refl _) _
 have hG:=h.grow' hb'
 obtain ⟨s',hs'⟩:∃ s',s'=(d,AV.bp nn 0 [])::(100000+nn,av)::s:=⟨_,rfl⟩
 obtain ⟨hv',hhv⟩:∃ hv':Nat→Value,hv'=fun k=>if k=100000+nn then .pointer (some ⟨w.heap.size,0,none⟩) else hv k:=⟨_,rfl⟩
 rw [←hs',←hhv]
 have hl:∀ n e,r9 s' n e↔r9 s n e:=fun n e=>by rw [hs'];exact a4X (by omega) (by unfold BN at hbn;omega)
 have hl2:a8 s'=a8 s:=by funext n;simp only [a8,hl]
 have hlk:∀ k,k≠d→k≠100000+nn→look s' k=look s k:=fun k h1 h2=>by rw [hs',lN (Ne.symm h1),lN (Ne.symm h2)]
 have hlb:look s' (100000+nn)=some av:=by rw [hs',lN (by omega),lS]
 have hvn:∀ k,k≠100000+nn→hv' k=hv k:=fun k hk=>by rw [hhv];simp only [if_neg hk]
 have hvd:hv' (100000+nn) = .pointer (some ⟨w.heap.size,0,none⟩):=by rw [hhv];simp
 have hid:∀ b o v,Us w0 U0 D b o→(w.alloc (.cells xs.toArray ty)).cell? ⟨b,o,none⟩=some v→Us w0 U0 D b o∧(w.alloc (.cells xs.toArray ty)).cell? ⟨b,o,none⟩=some v:=fun _ _ _ h1 h2=>⟨h1,h2⟩
 have hmv:∀ {k av' v},look s k=some av'→AVRep (Us w0 U0 D) (w.alloc (.cells xs.toArray ty)) hv (a8 s) av' v→AVRep (Us w0 U0 D) (w.alloc (.cells xs.toArray ty)) hv' (a8 s) av' v:=fun {k av' v} h1 h2 =>
  h2.move hid (fun _ h=>h) fun h3=>hvn _ (a2Y hbn (fun n=>D4) (hr k av' h1).1 h3)
 refine ⟨hG.below,h.dfr,by simp [Act.put,h.size],fun d' av' h1 h2=>?_,fun n o av' h1 h2 h3 h10=>?_,fun n o o' av1 av2 h1 h2 h3 h4=>?_,fun k av' h1 h2=>?_,fun k av' g h1 h2 h3 h4=>?_,fun k k' av1 av2 g h1 h2 h3 h4 h6 h7 hne=>?_,fun n g h1=>?_,hG.dlt⟩
 ·rw [hl2]
  by_cases e:d=d'
  ·subst e
   rw [hs',lS] at h1
   cases h1
   refine ⟨.pointer (some ⟨w.heap.size,0,none⟩),by simp [Act.put,h.size,hd],?_⟩
   unfold AVRep
   simp only [if_true]
   exact ⟨hbn,by rw [hvd];rfl⟩
  ·rw [hlk d' (Ne.symm e) (by omega)] at h1
   obtain ⟨v',h3,h4⟩:=hG.slot d' av' h1 h2
   exact ⟨v',by simp [Act.put,e,h3],hmv h1 h4⟩
 ·rw [hlk _ (by unfold b9;omega) (by unfold b9;omega)] at h1
  have hn:=(hr _ _ h1).2.1
  rw [M6 h2] at hn
  rw [hlk _ (by omega) (by omega)] at h3
  rw [hl2]
  obtain ⟨v,h4,h6,h7⟩:=hG.fld n o av' h1 h2 h3 h10
  refine ⟨v,hmv h1 h4,h6,?_⟩
  rw [hvn _ (by omega)]
  exact h7
 ·rw [hlk _ (by unfold b9;omega) (by unfold b9;omega)] at h1 h2
  exact h.fdis n o o' av1 av2 h1 h2 h3 h4
 ·rw [hl2]
  by_cases e:k=100000+nn
  ·subst e
   rw [hlb] at h1
   cases h1
   rw [hvd]
   unfold OC
   rcases hav with hav | rfl
   ·rw [if_pos hav]
    refine ⟨w.heap.size,xs,ty,rfl,s5 _ _,(hrep hav).keep (M9 h.dlt hb' fun _ _ h=>h),fun hl=>?_⟩
    obtain ⟨m,c,g1,g2⟩:=htk hav hl
    refine ⟨m,c,g1,?_⟩
    rw [g2]
    unfold G9
    rcases D4 hl with h6 | h6
    ·rw [if_pos h6,if_pos h6]
    ·unfold RN at h6
     rw [hvn _ (by omega)]
   ·simp only [if_true]
    exact ⟨w.heap.size,xs.toArray,ty,rfl,s5 _ _⟩
  ·have h2':=h2
   unfold k9 at h2'
   rw [hlk k (by omega) e] at h1
   rw [hvn k e]
   refine (hG.obj k av' h1 h2).move hid (fun _ hl=>⟨hl,?_⟩) (fun _ _=>rfl)
   unfold G9
   rcases D4 hl with h6 | h6
   ·rw [if_pos h6,if_pos h6]
   ·unfold RN at h6
    rw [hvn _ (by omega)]
 ·by_cases e:k=100000+nn
  ·subst e
   rw [hvd] at h4
   have h4:some w.heap.size=some g:=h4
   cases h4
   refine ⟨.inl h.below.size,by simp,fun o _ hd=>?_⟩
   have:=h.dlt _ _ hd
   omega
  ·have h2':=h2
   unfold k9 at h2'
   rw [hlk k (by omega) e] at h1
   rw [hvn k e] at h4 ⊢
   exact hG.blk k av' g h1 h2 h3 h4
 ·have h3':=h3
  have h4':=h4
  unfold k9 at h3' h4'
  by_cases e1:k=100000+nn
  ·have e2:k'≠100000+nn:=fun e=>hne (e1.trans e.symm)
   rw [hlk k' (by omega) e2] at h2
   rw [e1,hvd,hvn k' e2]
   intro h8 h9
   have:=(h.blk k' av2 g h2 h4 h7 h9).2.1
   have h8:some w.heap.size=some g:=h8
   cases h8
   omega
  ·rw [hlk k (by omega) e1] at h1
   by_cases e2:k'=100000+nn
   ·rw [e2,hvd,hvn k e1]
    intro h8 h9
    have:=(h.blk k av1 g h1 h3 h6 h8).2.1
    have h9:some w.heap.size=some g:=h9
    cases h9
    omega
   ·rw [hlk k' (by omega) e2] at h2
    rw [hvn k e1,hvn k' e2]
    exact h.disj k k' av1 av2 g h1 h2 h3 h4 h6 h7 hne
 ·have:=U0.hf n g h1
  rw [hvn _ (fun e=>hnf g (by rw [←e];exact h1))]
  exact h.fix n g h1
theorem b2k (nn:Nat) (hg:Gd w0 U0 nt ops o gs S) (hd:o.dst=some d) (hn:Nat.blt d nt=true) (h5:Nat.blt d 100000=true) {ty:TypeId} {fs:Array Field} {it:TypeInfo} {cs:Array Value} {sz:List Nat} {zs:List CV} (ho:o.op = .alloc ty) (hu:P.underlying ty=some (.struct fs)) (hi:P.info? ty=some it) (hz:it.zero=some (.agg cs)) (hsz:szO P fs.toList 0=some sz) (h0:zsO sz cs.toList=some zs) (hp:(sz.all fun z=>Nat.blt 0 z)=true) (h100:Nat.ble cs.size 100=true) (hbb:(Nat.blt nn 100000||(Nat.ble 350000 nn&&Nat.blt nn 400000))=true) (hnf:∀ v,U0.f (100000+nn)=some v→False):AOp P w0 U0 nt ops o gs [(nn,[])] S (Y9 nn zs 0++[(d,.bp nn 0 []),(100000+nn,.obj)]):=by
 intro s hs hN a w ⟨D,hv,h⟩ Q K hK
 rw [if_pos (hg s hs a w D hv h)]
 have hd5:=bL h5
 have hbn:BN nn:=by
  rcases Bool.or_eq_true_iff.1 hbb with h1 | h1
  ·exact .inl (bL h1)
  ·rw [Bool.and_eq_true] at h1;exact .inr ⟨Nat.le_of_ble_eq_true h1.1,bL h1.2⟩
 have hbn1:=hbn
 unfold BN at hbn1
 have he:(execOp a.eval o).run P w = .ok (.value (.pointer (some ⟨w.heap.size,0,none⟩))) (w.alloc (.cells cs ty)):=by
  simp [execOp,ho,Instr.alloc,zeroValue,typeInfo,hi,hz,F9,Value.cells]
 unfold Oper.wp
 rw [he,Oper.upon_value,hd]
 have hr:=(hN (nn,[]) (by simp)).nr
 have hG:=h.newboxN (d:=d) (av := .obj) hbn hnf hr (bL hn) hd5 (.inr rfl) (xs:=cs.toList) ty (fun e=>by cases e) (fun e=>by cases e)
 rw [Array.toArray_toList] at hG
 obtain ⟨segs,e1,e2,e3,e4,e5⟩:=E6 (U:=Us w0 U0 D) (w:=w.alloc (.cells cs ty)) h0
 suffices hfin:SimG w0 U0 nt (Y9 nn zs 0++((d,AV.bp nn 0 [])::(100000+nn,AV.obj)::s)) (a.put (some d) (.pointer (some ⟨w.heap.size,0,none⟩))) (w.alloc (.cells cs ty)) D (fun k=>if k=100000+nn then .pointer (some ⟨w.heap.size,0,none⟩) else hv k) by
  exact hK _ _ ⟨D,_,by rw [List.append_assoc];exact hfin⟩
 refine hG.addFs (n:=nn) (g:=w.heap.size) hbn (by rw [lN (by omega),lS]) (fun q av h1 h2=>?_) (by simp only [if_true];rfl) e4 e5 (fun i hi'=>?_) (fun c hc=>?_) (by rw [e1];have:=Nat.le_of_ble_eq_true h100;simpa using this)
 ·rw [lN (by unfold b9;omega),lN (by unfold b9;omega)] at h1
  have:=(hr _ _ h1).2.1
  rw [M6 h2] at this
  exact this rfl
 ·rw [e1] at hi' ⊢
  rw [Nat.zero_add]
  have:=s5 w (.cells cs ty)
  simp only [World.cell?,this]
  simp
 ·rw [List.all_eq_true] at hp
  have:c.size∈sz:=by rw [←e3];exact List.mem_map.2 ⟨c,hc,rfl⟩
  exact bL (hp _ this)
theorem zbA {P:Program} {w0:World} {U0:UX} {nt:Nat} {ops:Array Oper} {o:Oper} {S:Nat→Option AV} {gs:List Nat} {d:Nat} {ty:TypeId} {fs:Array Field} {it:TypeInfo} {cs:Array Value} {sz:List Nat} {zs:List CV} (nn:Nat) (p:Gd w0 U0 nt ops o gs S:=by exact gN rfl) (r:o.dst=some d:=by exact rfl) (t:Nat.blt d nt=true:=by exact rfl) (u:Nat.blt d 100000=true:=by exact rfl) (x:o.op = .alloc ty:=by exact rfl) (y:P.underlying ty=some (.struct fs):=by exact rfl) (A:P.info? ty=some it:=by exact rfl) (B:it.zero=some (.agg cs):=by exact rfl) (C:szO P fs.toList 0=some sz:=by exact rfl) (E:zsO sz cs.toList=some zs:=by exact rfl) (F:(sz.all fun z=>Nat.blt 0 z)=true:=by exact rfl) (G:Nat.ble cs.size 100=true:=by exact rfl) (H:(Nat.blt nn 100000||(Nat.ble 350000 nn&&Nat.blt nn 400000))=true:=by exact rfl) (hnf:∀ v,U0.f (100000+nn)=some v→False):AOp P w0 U0 nt ops o gs [(nn,[])] S (Y9 nn zs 0++[(d,.bp nn 0 []),(100000+nn,.obj)]):=b2k nn p r t u x y A B C E F G H hnf
theorem c0O (hg:Gd w0 U0 nt ops o gs S) (hd:o.dst=some d) (hn:Nat.blt d nt=true) (h5:Nat.blt d 100000=true) {x:Operand} {i:Int} {ty:TypeId} {n q p} (ho:o.op = .unOp .neg ty x) (hx:ev S x=some ⟨0,.sc (.int .i64 i),n,q,p⟩) (hb : -9223372036854775808<i∧i≤9223372036854775808):AOp P w0 U0 nt ops o (gs++rd x) [] S [(d,.val (.i (-i)))]:=
 d9 hg hd hn h5 (fun k hk=>List.mem_append_left _ hk) fun s hs a w D hv hm=>by
  have h1:=s9 hm (fun k hk=>hs k (List.mem_append_right _ hk)) hx
  have hw:IntKind.i64.wrap (-i) = -i:=by rw [IntKind.wrap_i64];omega
  generalize a.eval=ρ at h1 ⊢
  exact ⟨.int .i64 (-i),by simp [execOp,ho,h1,Op.unary,go_sem,hw],p7 rfl⟩
theorem zbw {P:Program} {w0:World} {U0:UX} {nt:Nat} {ops:Array Oper} {o:Oper} {S:Nat→Option AV} {gs:List Nat} {d:Nat} {x:Operand} {i:Int} {ty:TypeId} {n} {q} {p} (r:Gd w0 U0 nt ops o gs S:=by exact gN rfl) (t:o.dst=some d:=by exact rfl) (u:Nat.blt d nt=true:=by exact rfl) (v:Nat.blt d 100000=true:=by exact rfl) (y:o.op = .unOp .neg ty x:=by exact rfl) (z:ev S x=some ⟨0,.sc (.int .i64 i),n,q,p⟩:=by exact rfl) (A : -9223372036854775808<i∧i≤9223372036854775808:=by first | omega | (constructor<;>omega)):AOp P w0 U0 nt ops o (gs++rd x) [] S [(d,.val (.i (-i)))]:=c0O r t u v y z A
theorem a9l {t k e:TypeId} (hu:P.underlying t=some (.map k e)) (g:Nat) (w:World):(Op.equal t (.map (some g)) (.map none)).run P w = .ok false w:=by
 unfold Op.equal
 rw [show Op.maxDepth=9999+1 from rfl,Op.equalIn]
 simp [run_underlying hu]
theorem a9n (hg:Gd w0 U0 nt ops o gs S) (hd:o.dst=some d) (hn:Nat.blt d nt=true) (h5:Nat.blt d 100000=true) {x:Operand} {t1 t2 e k:TypeId} {n:Nat} {l:List CV} (ho:o.op = .binOp .eql t1 x (.const (.map none)) t2) (hu:P.underlying t1=some (.map k e)) (hx:ev S x=some (.mref n)) (hm':S n=some (.mp l)):AOp P w0 U0 nt ops o (gs++(rd x++[n])) [] S [(d,.val (.b false))]:=
 d9 hg hd hn h5 (fun k hk=>List.mem_append_left _ hk) fun s hs a w D hv hm=>by
  obtain ⟨hrn,h1,_⟩:RN n∧a.eval x=hv n∧(a.eval x).oneCell'=true:=i9 hm (fun k hk=>hs k (List.mem_append_right _ (List.mem_append_left _ hk))) hx
  have hok:k9 n:=by unfold RN at hrn;unfold k9;omega
  obtain ⟨g,es,clock,g1,g2,g3,g4,g5⟩:∃ g es clock,hv n = .map (some g)∧w.heap[g]?=some (.map es clock)∧Ents (Us w0 U0 D) w l es.toList∧(∀ e∈es,e.born<clock)∧(es.toList.map (fun e:MapEntry=>e.born)).Nodup:=hm.obj n _ ((hs n (by simp)).trans hm') hok
  rw [g1] at h1
  have hb:=a9l (P:=P) hu g w
  have hc:a.eval (.const (.map none)) = .map none:=rfl
  refine ⟨.bool false,?_,p7 rfl⟩
  generalize a.eval=ρ at h1 hc ⊢
  simp [execOp,ho,h1,hc,eqGuard,binOp,hb]
theorem zbx {P:Program} {w0:World} {U0:UX} {nt:Nat} {ops:Array Oper} {o:Oper} {S:Nat→Option AV} {gs:List Nat} {d:Nat} {x:Operand} {t1:TypeId} {t2:TypeId} {e:TypeId} {k:TypeId} {n:Nat} {l:List CV} (p:Gd w0 U0 nt ops o gs S:=by exact gN rfl) (q:o.dst=some d:=by exact rfl) (r:Nat.blt d nt=true:=by exact rfl) (t:Nat.blt d 100000=true:=by exact rfl) (u:o.op = .binOp .eql t1 x (.const (.map none)) t2:=by exact rfl) (v:P.underlying t1=some (.map k e):=by exact rfl) (y:ev S x=some (.mref n):=by exact rfl) (z:S n=some (.mp l):=by exact rfl):AOp P w0 U0 nt ops o (gs++(rd x++[n])) [] S [(d,.val (.b false))]:=a9n p q r t u v y z
theorem b2e (hg:Gd w0 U0 nt ops o gs S) (hd:o.dst=some d) (hn:Nat.blt d nt=true) (h5:Nat.blt d 100000=true) {x y:Operand} {t kt et:TypeId} {k k2:IntKind} {i z2:Int} {n:Nat} {l:List CV} {n' q' p'} (ho:o.op = .lookup t x y false) (hu:P.underlying t=some (.map kt et)) (huk:P.underlying kt=some (.int k)) (hz2:(P.info? et).map (·.zero)=some (some (.int k2 z2))) (hzc:S0 P et=some (.sc (.int k2 z2))) (hx:ev S x=some (.mref n)) (hy:ev S y=some ⟨0,.sc (.int k i),n',q',p'⟩) (hm':S n=some (.mp l)) (hik:w8 k l):AOp P w0 U0 nt ops o (gs++(rd x++(rd y++[n]))) [] S [(d,.val ((D6 k i l).getD (.sc (.int k2 z2))))]:=
 d9 hg hd hn h5 (fun k hk=>List.mem_append_left _ hk) fun s hs a w D hv hm=>by
  obtain ⟨hrn,h1,_⟩:RN n∧a.eval x=hv n∧(a.eval x).oneCell'=true:=i9 hm (fun k hk=>hs k (List.mem_append_right _ (List.mem_append_left _ hk))) hx
  have e2:=s9 hm (fun k hk=>hs k (List.mem_append_right _ (List.mem_append_right _ (List.mem_append_left _ hk)))) hy
  have hok:k9 n:=by unfold RN at hrn;unfold k9;omega
  obtain ⟨g,es,clock,g1,g2,g3,g4,g5⟩:∃ g es clock,hv n = .map (some g)∧w.heap[g]?=some (.map es clock)∧Ents (Us w0 U0 D) w l es.toList∧(∀ e∈es,e.born<clock)∧(es.toList.map (fun e:MapEntry=>e.born)).Nodup:=hm.obj n _ ((hs n (by simp)).trans hm') hok
  obtain ⟨it,zv,i1,i2,i3⟩:=J1 hzc
  have hck:=run_checkKey (P:=P) (w:=w) huk (k := .int k i) rfl es.isEmpty 9999
  have hge:=Go.MapKept.run_getObj_map (P:=P) g2
  rcases I5 0 g3 hik (i:=i) with ⟨f1,f2⟩ | ⟨j,e,c,f1,f2,f3,f4,f5,f6⟩
  ·have hfk:=run_findKey (P:=P) (w:=w) huk f1
   have hzv:(zeroValue et).run P w = .ok zv w:=by simp [zeroValue,typeInfo,i1,i2]
   rw [i1,Option.map_some,i2] at hz2
   injection hz2 with hz2
   injection hz2 with hz2
   refine ⟨zv,?_,?_⟩
   ·rw [g1] at h1
    generalize a.eval=ρ at h1 e2 ⊢
    simp [execOp,ho,Instr.lookup,run_underlying hu,h1,e2,hge,hck,hfk,hzv]
   ·rw [f2,hz2]
    exact p7 rfl
  ·have hfk:=run_findKey (P:=P) (w:=w) huk f1
   refine ⟨e.val,?_,?_⟩
   ·rw [g1] at h1
    generalize a.eval=ρ at h1 e2 ⊢
    simp [execOp,ho,Instr.lookup,run_underlying hu,h1,e2,hge,hck,hfk]
   ·rw [f6]
    exact k8 f4
theorem zbu {P:Program} {w0:World} {U0:UX} {nt:Nat} {ops:Array Oper} {o:Oper} {S:Nat→Option AV} {gs:List Nat} {d:Nat} {x:Operand} {y:Operand} {t:TypeId} {kt:TypeId} {et:TypeId} {k:IntKind} {k2:IntKind} {i:Int} {z2:Int} {n:Nat} {l:List CV} {n'} {q'} {p'} (p:Gd w0 U0 nt ops o gs S:=by exact gN rfl) (q:o.dst=some d:=by exact rfl) (r:Nat.blt d nt=true:=by exact rfl) (u:Nat.blt d 100000=true:=by exact rfl) (v:o.op = .lookup t x y false:=by exact rfl) (z:P.underlying t=some (.map kt et):=by exact rfl) (A:P.underlying kt=some (.int k):=by exact rfl) (B:(P.info? et).map (·.zero)=some (some (.int k2 z2)):=by exact rfl) (C:S0 P et=some (.sc (.int k2 z2)):=by exact rfl) (E:ev S x=some (.mref n):=by exact rfl) (F:ev S y=some ⟨0,.sc (.int k i),n',q',p'⟩:=by exact rfl) (G:S n=some (.mp l):=by exact rfl) (H:w8 k l):AOp P w0 U0 nt ops o (gs++(rd x++(rd y++[n]))) [] S [(d,.val ((D6 k i l).getD (.sc (.int k2 z2))))]:=b2e p q r u v z A B C E F G H
theorem a5A (hg:Gd w0 U0 nt ops o gs S) (hd:o.dst=some d) (hn:Nat.blt d nt=true) (h5:Nat.blt d 100000=true) {x:Operand} {t1 t2 e k:TypeId} {n:Nat} {c:CV} {m q p} (ho:o.op = .binOp .eql t1 x (.const (.map none)) t2) (hu:P.underlying t1=some (.map k e)) (hx:ev S x=some (.mref n)) (hm':S n=some ⟨17,c,m,q,p⟩):AOp P w0 U0 nt ops o (gs++(rd x++[n])) [] S [(d,.val (.b true))]:=
 d9 hg hd hn h5 (fun k hk=>List.mem_append_left _ hk) fun s hs a w D hv hm=>by
  obtain ⟨hrn,h1,_⟩:RN n∧a.eval x=hv n∧(a.eval x).oneCell'=true:=i9 hm (fun k hk=>hs k (List.mem_append_right _ (List.mem_append_left _ hk))) hx
  have hok:k9 n:=by unfold RN at hrn;unfold k9;omega
  have g1:hv n = .map none:=(show OX _ _ _ _ from hm.obj n _ ((hs n (by simp)).trans hm') hok).1.1 rfl
  rw [g1] at h1
  have hb:=b1O (P:=P) hu w
  have hc:a.eval (.const (.map none)) = .map none:=rfl
  refine ⟨.bool true,?_,p7 rfl⟩
  generalize a.eval=ρ at h1 hc ⊢
  simp [execOp,ho,h1,hc,eqGuard,binOp,hb]
theorem zbs {P:Program} {w0:World} {U0:UX} {nt:Nat} {ops:Array Oper} {o:Oper} {S:Nat→Option AV} {gs:List Nat} {d:Nat} {x:Operand} {t1:TypeId} {t2:TypeId} {e:TypeId} {k:TypeId} {n:Nat} {c:CV} {m} {q} {p} (r:Gd w0 U0 nt ops o gs S:=by exact gN rfl) (t:o.dst=some d:=by exact rfl) (u:Nat.blt d nt=true:=by exact rfl) (v:Nat.blt d 100000=true:=by exact rfl) (y:o.op = .binOp .eql t1 x (.const (.map none)) t2:=by exact rfl) (z:P.underlying t1=some (.map k e):=by exact rfl) (A:ev S x=some (.mref n):=by exact rfl) (B:S n=some ⟨17,c,m,q,p⟩:=by exact rfl):AOp P w0 U0 nt ops o (gs++(rd x++[n])) [] S [(d,.val (.b true))]:=a5A r t u v y z A B
theorem b6i (k n:Nat) (hk:Nat.ble 500000 k=true) (hn:(Nat.ble 200000 n&&Nat.blt n 400000)=true) (hs:look s k=some (.val (.sc (.map none)))) (hr:D7 s [(n,[])]=true) (hnk:W7 s n=true):Wk w0 U0 nt s ((k,.mref n)::(n,.nmap)::s):=by
 rintro a w ⟨D,hv,h⟩
 have hk5:=Nat.le_of_ble_eq_true hk
 have hrn:=rnB hn
 have hrn':RN n:=RW.rn hrn
 unfold RW at hrn
 have hnk':look s n=none:=by
  cases e:look s n with
  | none=>rfl
  | some av =>
   unfold W7 at hnk
   rw [List.all_eq_true] at hnk
   have:=hnk _ (C9 e)
   simp [Nat.beq_refl] at this
 have hnr:U4 s n:=(t8 hr (n,[]) (by simp)).nr
 obtain ⟨hv',hhv⟩:∃ hv':Nat→Value,hv'=fun x=>if x=n then .map none else hv x:=⟨_,rfl⟩
 have hvn:∀ x,x≠n→hv' x=hv x:=fun x hx=>by rw [hhv];simp only [if_neg hx]
 have hvd:hv' n = .map none:=by rw [hhv];simp
 obtain ⟨s',hs'⟩:∃ s',s'=(k,AV.mref n)::(n,AV.nmap)::s:=⟨_,rfl⟩
 rw [←hs']
 have hlk:∀ x,x≠k→x≠n→look s' x=look s x:=fun x h1 h2=>by rw [hs',lN (Ne.symm h1),lN (Ne.symm h2)]
 have hlkk:look s' k=some (.mref n):=by rw [hs',lS]
 have hlkn:look s' n=some .nmap:=by rw [hs',lN (by omega),lS]
 have hl:∀ q e,r9 s' q e↔r9 s q e:=fun q e=>by
  unfold r9
  by_cases e1:q=k
  ·omega
  ·by_cases e2:q=n
   ·subst e2
    rw [hlkn,hnk']
    constructor<;>(rintro ⟨h1,_⟩;cases h1)
   ·rw [hlk q e1 e2]
 have hl2:a8 s'=a8 s:=by funext q;simp only [a8,hl]
 have hmv:∀ {k' av v},look s k'=some av→AVRep (Us w0 U0 D) w hv (a8 s) av v→AVRep (Us w0 U0 D) w hv' (a8 s) av v:=fun {k' av v} h1 h2 =>
  h2.move (fun _ _ _ h1 h2=>⟨h1,h2⟩) (fun _ h=>h) fun h3=>hvn _ (a5g hrn' (hnr k' av h1).1 h3)
 refine ⟨D,hv',h.below,h.dfr,h.size,fun d av g1 g2=>?_,fun m o av g1 g2 g3 g4=>?_,fun m o o' av av' g1 g2 g3 g4 g5=>?_,fun k' av g1 g2=>?_,fun k' av g g1 g2 g3 g4=>?_,fun k' k2 av av' g g1 g2 g3 g4 g5 g6 g7 g8=>?_,fun k' v g1=>?_,h.dlt⟩
 ·rw [hlk d (by omega) (by omega)] at g1
  rw [hl2]
  obtain ⟨v,h1,h2⟩:=h.slot d av g1 g2
  exact ⟨v,h1,hmv g1 h2⟩
 ·have hbk:=F4 g4
  unfold k9 at hbk
  unfold BN at g4
  rw [hlk (100000+m) (by omega) (by omega)] at g3
  rw [hl2,hvn (100000+m) (by omega)]
  by_cases e:b9 m o=k
  ·rw [e,hlkk] at g1
   cases g1
   obtain ⟨v,h1,h2,h3⟩:=h.fld m o _ (by rw [e];exact hs) g2 g3 g4
   obtain ⟨h4,_⟩:=l8.1 h1.1
   subst h4
   exact ⟨.map none,⟨hrn',hvd.symm,rfl⟩,rfl,h3⟩
  ·rw [hlk _ e (by unfold b9;omega)] at g1
   obtain ⟨v,h1,h2,h3⟩:=h.fld m o av g1 g2 g3 g4
   exact ⟨v,hmv g1 h1,h2,h3⟩
 ·have conv:∀ o (av:AV),look s' (b9 m o)=some av→∃ av',look s (b9 m o)=some av'∧av'.sz=av.sz:=fun o av f1=>by
   by_cases e:b9 m o=k
   ·rw [e,hlkk] at f1
    cases f1
    exact ⟨.val (.sc (.map none)),by rw [e];exact hs,rfl⟩
   ·rw [hlk _ e (by unfold b9;omega)] at f1
    exact ⟨av,f1,rfl⟩
  obtain ⟨a1,b1,c1⟩:=conv o av g1
  obtain ⟨a2,b2,c2⟩:=conv o' av' g2
  rw [←c1]
  exact h.fdis m o o' a1 a2 b1 b2 g3 g4 g5
 ·unfold k9 at g2
  rw [hl2]
  by_cases e:k'=n
  ·subst e
   rw [hlkn] at g1
   cases g1
   rw [hvd]
   exact ⟨⟨fun _=>rfl,(fun e=>by cases e)⟩,(fun e=>by cases e),(fun e=>by cases e),(fun e=>by cases e)⟩
  ·rw [hlk k' (by omega) e] at g1
   rw [hvn k' e]
   exact (h.obj k' av g1 g2).move (fun _ _ _ h1 h2=>⟨h1,h2⟩) (fun ht hl=>⟨hl,by
    unfold G9
    rw [hvn _ (hnr k' av g1).1]⟩) (fun _ _=>rfl)
 ·unfold k9 at g2
  by_cases e:k'=n
  ·subst e
   rw [hvd] at g4
   cases g4
  ·rw [hlk k' (by omega) e] at g1
   rw [hvn k' e] at g4 ⊢
   exact h.blk k' av g g1 g2 g3 g4
 ·unfold k9 at g3 g4
  by_cases e:k'=n
  ·subst e
   rw [hvd] at g8
   cases g8
  ·by_cases e2:k2=n
   ·subst e2
    rw [hvd]
    intro h9;cases h9
   ·rw [hlk k' (by omega) e] at g1
    rw [hlk k2 (by omega) e2] at g2
    rw [hvn k' e] at g8
    rw [hvn k2 e2]
    exact h.disj k' k2 av av' g g1 g2 g3 g4 g5 g6 g7 g8
 ·have:=U0.hf k' v g1
  rw [hvn k' (by omega)]
  exact h.fix k' v g1
end
def b2i (L D:Nat) (Kp:World→World→Prop) (I:World→Prop) (W:World):Exit→Act→World→Prop
 | .normal,_,W'=>W'.heap[L]?=W.heap[L]?∧W'.heap[D]?=W.heap[D]?∧Kp W W'∧I W'
 | _,_,_=>False
section
variable {α:Type} {P:Program}
theorem b1P {g:Operand} {ps:Array Tmp} {assign body:Code} {Q:Exit→Act→World→Prop} {a:Act} {w:World} {gf:Nat} {lb:Array Value}
  (hg:a.eval g = .func (.func gf) #[] lb) (eg:∀ args w,(callFunc gf args).run P w = .ok (.enter gf args) w)
  {encs:α→Array Value} {Ok:List α→α→Prop} {Kp:World→World→Prop} {S:List α→Prop} (hseq:a0D P gf lb encs (fun pre x _=>Ok pre x) Kp S w)
  (hKt:∀ {A B C:World},Kp A B→Kp B C→Kp A C)
  (hKb:∀ (W:World) (l:Nat) (o':Obj),w.heap.size≤l→Kp W (W.putObj l o'))
  (hps:∀ x,(encs x).size=ps.size) (I:List α→World→Prop) (hI:∀ pre A B,I pre A→Below A.heap.size A B→I pre B)
  (hIp:∀ (pre:List α) (A:World) (r r':Loop),I pre A→A.heap[w.heap.size+1]?=some (.loop r)→I pre (A.putObj (w.heap.size+1) (.loop r')))
  (h0:∀ r:Loop,I [] ((w.alloc (.deferred (some []))).alloc (.loop r))) (a₁:α→Act)
  (hassign:∀ (x:α) (W:World) (K:Act→World→Prop),K (a₁ x) W →
   assign.wpIn (Fence.wide.inRound (w.heap.size+1)) 1 P (Exit.then K (fun _ _ _=>False)) { tmps:=(ps.zip (encs x)).foldl (fun t (p,v)=>t.setIfInBounds p v) a.tmps,defers:=[] } W)
  (hbody:∀ (pre:List α) (x:α) (W:World),I pre W→Ok pre x→w.heap.size+2≤W.heap.size→body.wpIn (Fence.wide.inRound (w.heap.size+1)) 1 P (b2i (w.heap.size+1) w.heap.size Kp (I (pre++[x])) W) (a₁ x) W)
  (hdone:∀ (xs:List α) (W:World),S xs→I xs W→W.heap[w.heap.size]?=some (.deferred (some []))→Q .normal { a with defers:={ target := .collected w.heap.size,args := #[] }::a.defers } W) :
  (Code.rangeFunc g ps assign body).wpIn Fence.wide 3 P Q a w:=by
 refine wpIn_rangeFunc fun fn hfn=>?_
 obtain ⟨D,hD⟩:∃ D,D=w.heap.size:=⟨_,rfl⟩
 rw [←hD] at hIp hassign hbody hdone hKb
 obtain ⟨W1,hW1⟩:∃ W1,W1=(w.alloc (.deferred (some []))).alloc (.loop (y6 fn a.tmps ps assign body D .ready)):=⟨_,rfl⟩
 have below1:Below w.heap.size w W1:=by rw [hW1];exact ((Below.refl _ w).alloc (Nat.le_refl _) _).alloc (by simp) _
 have atL:W1.heap[D+1]?=some (.loop (y6 fn a.tmps ps assign body D .ready)):=by
  have:=World.alloc_heap_new (w.alloc (.deferred (some []))) (.loop (y6 fn a.tmps ps assign body D .ready))
  rw [World.size_alloc,←hD,←hW1] at this
  exact this
 have atD:W1.heap[D]?=some (.deferred (some [])):=by
  have h:=World.alloc_heap_new w (.deferred (some []))
  rw [←hD] at h
  rw [hW1,Below.heap_alloc _ _ _ (by simp;omega)]
  exact h
 refine ⟨D+1,[{ target := .collected D,args := #[] }],W1,{ target := .fn (.func gf) lb,args := #[.func (.yield (D+1)) #[] #[]] },W1,gf,#[.func (.yield (D+1)) #[] #[]]++lb,W1,?_,?_,fun _ _=>trivial,?_,(fun _=>by omega),?_⟩
 ·rw [hW1,hD];exact run_enterLoop_outer _ _ _ _ _
 ·simp only [resolve,hg]
  simp [go_sem]
 ·simp [invoke,go_sem,eg]
 refine (hseq (D+1) (fun pre V=>I pre V∧V.heap[D+1]?=some (.loop (y6 fn a.tmps ps assign body D .ready))∧V.heap[D]?=some (.deferred (some []))) W1 below1 ?abides ?rounds ⟨by rw [hW1];exact h0 _,atL,atD⟩).mono ?after
 case abides =>
  rintro pre A B ⟨h1,h2,h3⟩ hb
  exact ⟨hI _ _ _ h1 hb,(hb.block _ (Array.getElem?_eq_some_iff.1 h2).1).trans h2,(hb.block _ (Array.getElem?_eq_some_iff.1 h3).1).trans h3⟩
 case rounds =>
  rintro pre x V ⟨h1,h2,h3⟩ hx
  have hlt:=(Array.getElem?_eq_some_iff.1 h2).1
  have hy:=run_yield (P:=P) (args:=encs x) h2 (hps x)
  refine ⟨fn,_,assign,body,hy,roundIn_of_wpIn hfn (hassign x V _ ⟨_,run_beginRound h2 rfl,?_⟩)⟩
  have b2:(V.putObj (D+1) (.loop (y6 fn a.tmps ps assign body D .busy))).heap[D+1]?=some (.loop (y6 fn a.tmps ps assign body D .busy)):=World.putObj_heap_same hlt
  have b3:(V.putObj (D+1) (.loop (y6 fn a.tmps ps assign body D .busy))).heap[D]?=some (.deferred (some [])):=(World.putObj_heap_other (by omega)).trans h3
  refine wpIn_mono (hbody pre x (V.putObj (D+1) (.loop (y6 fn a.tmps ps assign body D .busy))) (hIp _ _ _ _ h1 h2) hx (by rw [World.putObj_size];omega)) ?_
  rintro e a3 U hp
  cases e with
  | normal =>
   obtain ⟨k0,k1,k2,k3⟩:=hp
   have u2:=k0.trans b2
   have u3:=k1.trans b3
   have hr:=run_endRound (P:=P) none u2
   refine ⟨_,_,hr,rfl,⟨hIp _ _ _ _ k3 u2,World.putObj_heap_same (Array.getElem?_eq_some_iff.1 u2).1,(World.putObj_heap_other (by omega)).trans u3⟩,?_⟩
   exact hKt (hKt (hKb _ _ _ (by omega)) k2) (hKb _ _ _ (by omega))
  | ret=>exact hp.elim
  | exit _=>exact hp.elim
  | goto _=>exact hp.elim
  | panic _=>exact hp.elim
  | outgrown=>exact hp.elim
 case after =>
  rintro e V ⟨⟨v,rfl⟩,xs,hS,h1,h2,h3⟩
  exact ⟨none,_,run_endLoop (P:=P) h2 (by simp [y6]),hdone xs _ hS (hIp _ _ _ _ h1 h2) ((World.putObj_heap_other (by omega)).trans h3)⟩
end
section
variable {P:Program} {w0:World} {U0:UX} {nt:Nat} {ops:Array Oper} {o:Oper} {S:Nat→Option AV} {gs:List Nat} {d:Nat} {s:AS} {a:Act} {w:World} {D:Nat→Nat→Prop} {hv:Nat→Value}
abbrev AV.ob (g o:Nat):AV:=⟨20,.sc (.pointer (some ⟨g,0,none⟩)),0,o,[]⟩
theorem SimG.newob (h:SimG w0 U0 nt s a w D hv) {n o:Nat} (hn:RW n) (hr:U4 s n) {x:Obj} (hx:∀ xs ty fl,x ≠ .cells xs ty fl) (ho:o=0→x = .deferred (some [])):SimG w0 U0 nt ((n,.ob w.heap.size o)::s) a (w.alloc x) D (fun k=>if k=n then .pointer (some ⟨w.heap.size,0,none⟩) else hv k):=by
 have hb':Below w.heap.size w (w.alloc x):=(Below.refl _ _).alloc (Nat.le_refl _) _
 exact h.newrow (X:=fun _=>False) (avn := .ob w.heap.size o) (v' := .pointer (some ⟨w.heap.size,0,none⟩)) (D':=D) hn hr (fun e=>by cases e) ((BelowX.refl _ w).step hb') (fun b hb=>hb.elim) (fun g hg=>by
   have hg:some w.heap.size=some g:=hg
   cases hg
   refine ⟨.inr (Nat.le_refl _),by simp,fun o _ hd=>?_⟩
   have:=h.dlt _ _ hd
   omega) (fun b o hd => .inl hd) (fun b o hd=>Nat.lt_of_lt_of_le (h.dlt _ _ hd) hb'.size) (M9 h.dlt hb' fun _ _ h=>h) (fun hv lv=>⟨⟨(fun e=>by cases e),(fun e=>by cases e)⟩,fun _=>⟨rfl,w.heap.size,x,rfl,s5 _ _,hx,ho⟩,(fun e=>by cases e),(fun e=>by cases e)⟩)
theorem SimG.putob (h:SimG w0 U0 nt s a w D hv) {n o o':Nat} (hn:RW n) {g:Nat} (hs:look s n=some (.ob g o)) {x:Obj} (hx:∀ xs ty fl,x ≠ .cells xs ty fl) (ho:o'=0→x = .deferred (some [])):SimG w0 U0 nt ((n,.ob g o')::s) a (w.putObj g x) D hv∧g<w.heap.size∧hv n = .pointer (some ⟨g,0,none⟩)∧∃ y,w.heap[g]?=some y∧(o=0→y = .deferred (some [])):=by
 have hok:k9 n:=by unfold RW at hn;unfold k9;omega
 have hO:OX _ _ _ _:=h.obj n _ hs hok
 obtain ⟨e1,g',y,e2,e3,e4,e5⟩:=hO.2.1 rfl
 have e1:hv n = .pointer (some ⟨g,0,none⟩):=e1
 have hg:g'=g:=by rw [e1] at e2;injection e2 with e2;injection e2 with e2;injection e2 with e2;exact e2.symm
 subst hg
 have hlt:g'<w.heap.size:=(Array.getElem?_eq_some_iff.1 e3).1
 refine ⟨h.upd (av := .ob g' o') (w':=w.putObj g' x) hok hs (fun e=>by cases e) (fun e=>by cases e) rfl (fun g hh o ho=>hh o fun e=>by cases e) (fun e=>by cases e) (g:=g') (by rw [e1];rfl) rfl rfl rfl (by simp) (fun k hk=>World.putObj_heap_other hk) fun hc=>⟨⟨(fun e=>by cases e),(fun e=>by cases e)⟩,fun _=>⟨e1,g',x,e1,World.putObj_heap_same hlt,hx,ho⟩,(fun e=>by cases e),(fun e=>by cases e)⟩,hlt,e1,y,e3,e5⟩
theorem SimG.frame {V:UX} {pre sl:AS} (h:SimG w V 0 pre ⟨#[],[]⟩ w (fun _ _=>False) hv) (hpre:(kO pre).all (Nat.ble 100000)=true) (hsl:(kO sl).all (fun k=>Nat.blt k 100000)=true) {tmps:Array Value} (hsz:tmps.size=nt)
  (hsv:∀ d av,look sl d=some av→∃ v,tmps[d]?=some v∧AVRep (Us w V (fun _ _=>False)) w hv (a8 pre) av v):SimG w V nt (sl++pre) ⟨tmps,[]⟩ w (fun _ _=>False) hv:=by
 have hlow:∀ {k av},look pre k=some av→100000≤k:=fun {k av} h1=>by
  rw [List.all_eq_true] at hpre
  exact Nat.le_of_ble_eq_true (hpre k (j8 h1))
 have hup:∀ {k av},look sl k=some av→k<100000:=fun {k av} h1=>by
  rw [List.all_eq_true] at hsl
  exact bL (hsl k (j8 h1))
 have hlk:∀ {k},100000≤k→look (sl++pre) k=look pre k:=fun {k} h1=>by
  rw [i0]
  cases h2:look sl k with
  | none=>rfl
  | some av=>have:=hup h2;omega
 have hlive:a8 (sl++pre)=a8 pre:=by
  funext n
  unfold a8 r9
  apply propext
  constructor
  ·rintro (h1 | ⟨e,h1,h2,h3⟩)
   ·exact .inl h1
   ·rw [hlk (by omega)] at h1;exact .inr ⟨e,h1,h2,h3⟩
  ·rintro (h1 | ⟨e,h1,h2,h3⟩)
   ·exact .inl h1
   ·exact .inr ⟨e,by rw [hlk (by omega)];exact h1,h2,h3⟩
 refine ⟨h.below,rfl,hsz,fun d av h1 h2=>?_,fun n o av h1 h2 h3 h4=>?_,fun n o o' av av' h1 h2=>?_,fun k av h1 h2=>?_,fun k av g h1 h2=>?_,fun k k' av av' g h1 h2 h3 h4=>?_,h.fix,fun b o hd=>hd.elim⟩
 ·rw [i0] at h1
  cases h3:look sl d with
  | none=>rw [h3] at h1;have:=hlow h1;omega
  | some av' =>
   rw [h3] at h1
   cases h1
   rw [hlive]
   exact hsv d av h3
 ·rw [hlk (by unfold b9;omega)] at h1
  rw [hlk (by omega)] at h3
  rw [hlive]
  exact h.fld n o av h1 h2 h3 h4
 ·rw [hlk (by unfold b9;omega)] at h1 h2
  exact h.fdis n o o' av av' h1 h2
 ·rw [hlk h2.1] at h1;rw [hlive];exact h.obj k av h1 h2
 ·rw [hlk h2.1] at h1;exact h.blk k av g h1 h2
 ·rw [hlk h3.1] at h1;rw [hlk h4.1] at h2;exact h.disj k k' av av' g h1 h2 h3 h4
theorem SimG.bare (h:SimG w0 U0 nt s a w D hv) {post:AS} (hp:Sub s post) (hpost:(kO post).all (Nat.ble 100000)=true):SimG w0 U0 0 post ⟨#[],[]⟩ w D hv:=by
 have hS:=h.sub hp
 have hlow2:∀ {k av},look post k=some av→100000≤k:=fun {k av} h1=>by
  rw [List.all_eq_true] at hpost
  exact Nat.le_of_ble_eq_true (hpost k (j8 h1))
 exact ⟨hS.below,rfl,rfl,fun d av h7 h8=>by have:=hlow2 h7;omega,hS.fld,hS.fdis,hS.obj,hS.blk,hS.disj,hS.fix,hS.dlt⟩
end
def KpX (n0:Nat) (X:Nat→Prop) (V V':World):Prop:=∀ b,b<n0→¬ X b→V'.heap[b]?=V.heap[b]?
def b8y {α:Type} (P:Program) (gf:Nat) (caps:List CV) (encC:α→List CV) (xs:List α):Prop:=
 ∀ (w:World) (lb:List Value) (R:Nat→Nat→Prop),VReps R w caps lb→a0D P gf lb.toArray (fun x=>((encC x).map CV.v).toArray) (fun pre x _=>xs[pre.length]?=some x) (KpX w.heap.size fun b=>¬ ∃ o,R b o) (fun ys=>ys=xs) w
def b8G:List Oper→Option (List (Nat×Nat))
 | []=>some []
 | o::os=>match o.dst,o.op,o.guard,b8G os with
  | some d,.assign (.tmp t),none,some r=>some ((d,t)::r)
  | _,_,_,_=>none
def b3m:List (Nat×Nat)→Array Value→Array Value
 | [],tm=>tm
 | (d,t)::r,tm=>b3m r (tm.setIfInBounds d (tm.getD t undef))
def b6H:List (Nat×Nat)→AS→AS
 | [],s=>s
 | (d,t)::r,s=>b6H r ((d,match look s t with | some av=>av | none => .no)::s)
def b3o:List Tmp→List Value→Array Value→Array Value
 | p::ps,v::vs,tm=>b3o ps vs (tm.setIfInBounds p v)
 | _,_,tm=>tm
def b7B:List Tmp→List CV→AS→AS
 | p::ps,c::cs,s=>b7B ps cs ((p,.val c)::s)
 | _,_,s=>s
def SlOk (R:AV→Value→Prop) (s:AS) (tm:Array Value):Prop:=∀ d av,look s d=some av→∃ v,tm[d]?=some v∧R av v
theorem SlOk.set {R:AV→Value→Prop} {s:AS} {tm:Array Value} (h:SlOk R s tm) {d:Nat} (hd:d<tm.size) {av:AV} {v:Value} (hv:R av v):SlOk R ((d,av)::s) (tm.setIfInBounds d v):=by
 intro d' av' h1
 rw [f0] at h1
 split at h1
 ·rename_i e;subst e;cases h1;exact ⟨v,by simp [hd],hv⟩
 ·rename_i e
  obtain ⟨u,h2,h3⟩:=h d' av' h1
  exact ⟨u,by rw [Array.getElem?_setIfInBounds_ne (by omega)];exact h2,h3⟩
theorem SlOk.asg {R:AV→Value→Prop} (hno:∀ v,R .no v):∀ {al:List (Nat×Nat)} {s:AS} {tm:Array Value},SlOk R s tm→(al.all fun p=>Nat.blt p.1 tm.size)=true→SlOk R (b6H al s) (b3m al tm)∧(b3m al tm).size=tm.size
 | [],s,tm,h,_=>⟨h,rfl⟩
 | (d,t)::r,s,tm,h,hl=>by
  rw [List.all_cons,Bool.and_eq_true] at hl
  have hd:=bL hl.1
  have:=SlOk.asg hno (al:=r) (s:=(d,match look s t with | some av=>av | none => .no)::s) (tm:=tm.setIfInBounds d (tm.getD t undef)) (h.set hd ?_) (by rw [Array.size_setIfInBounds];exact hl.2)
  ·exact ⟨this.1,by rw [b3m,this.2,Array.size_setIfInBounds]⟩
  ·cases e:look s t with
   | none=>exact hno _
   | some av =>
    obtain ⟨v,h1,h2⟩:=h t av e
    show R av _
    simp only [Array.getD_eq_getD_getElem?,h1,Option.getD_some]
    exact h2
theorem SlOk.par {R:AV→Value→Prop}:∀ {ps:List Tmp} {cs:List CV} {s:AS} {tm:Array Value},SlOk R s tm→(ps.all fun p=>Nat.blt p tm.size)=true→(∀ c∈cs,R (.val c) c.v)→SlOk R (b7B ps cs s) (b3o ps (cs.map CV.v) tm)∧(b3o ps (cs.map CV.v) tm).size=tm.size
 | [],cs,s,tm,h,_,_=>⟨by cases cs<;>exact h,by cases cs<;>rfl⟩
 | p::ps,[],s,tm,h,_,_=>⟨h,rfl⟩
 | p::ps,c::cs,s,tm,h,hl,hc=>by
  rw [List.all_cons,Bool.and_eq_true] at hl
  have:=SlOk.par (ps:=ps) (cs:=cs) (s:=(p,.val c)::s) (tm:=tm.setIfInBounds p c.v) (h.set (bL hl.1) (hc c (by simp))) (by rw [Array.size_setIfInBounds];exact hl.2) (fun c' hc'=>hc c' (List.mem_cons_of_mem _ hc'))
  exact ⟨this.1,by show (b3o ps (cs.map CV.v) (tm.setIfInBounds p c.v)).size=_;rw [this.2,Array.size_setIfInBounds]⟩
theorem b7R:∀ (ps:List Tmp) (vs:List Value) (tm:Array Value),(ps.toArray.zip vs.toArray).foldl (fun t (p,v)=>t.setIfInBounds p v) tm=b3o ps vs tm:=by
 intro ps vs tm
 rw [List.zip_toArray,List.foldl_toArray]
 induction ps generalizing vs tm with
 | nil=>cases vs<;>rfl
 | cons p ps ih =>
  cases vs with
  | nil=>rfl
  | cons v vs=>rw [List.zip_cons_cons,List.foldl_cons];exact ih vs _
theorem b0A {P:Program} {ro:Option Nat} {ops:Array Oper} {Q:Exit→Act→World→Prop}:∀ {l:List Oper} {al:List (Nat×Nat)} {tm:Array Value} {ds:List Deferred} {w:World},b8G l=some al→Q .normal ⟨b3m al tm,ds⟩ w→wpListIn (E2 ro) 1 P ops Q l ⟨tm,ds⟩ w
 | [],al,tm,ds,w,h,hq=>by cases h;exact hq
 | o::os,al,tm,ds,w,h,hq=>by
  rw [b8G] at h
  split at h
  ·rename_i d t r h1 h2 h3 h4
   cases h
   unfold wpListIn
   rw [if_pos (by simp [Region.wanted,h3])]
   refine ⟨fun _ _=>trivial,?_⟩
   have hs:(o.semAt (E2 ro).round (Act.eval ⟨tm,ds⟩))=pure (.value (tm.getD t undef)):=by
    rw [Oper.semAt_eq _ _ _ (fun c hc=>by rw [h2] at hc;cases hc)]
    simp only [execOp,h2]
    rfl
   rw [hs]
   show wpListIn _ _ _ _ _ _ _ _
   rw [h1]
   exact b0A h4 hq
  ·cases h
section
variable {P:Program} {w0:World} {U0:UX} {nt:Nat} {s:AS}
theorem b8X {n m:Nat} {c:Code} {Q:Exit→Act→World→Prop} {a:Act} {w:World} (h:c.wpIn Fence.wide n P Q a w):c.wpIn Fence.wide m P Q a w:=
 fun b k cs h1 h2 _=>h b k cs h1 h2 (room_wide _)
def a4K (P:Program) (w0:World) (U0:UX) (nt:Nat) (c:Code) (Q:Exit→AS→Nat→Prop) (s:AS):Prop:=
 ∀ a w,Sim w0 U0 nt s a w→c.wpIn Fence.wide 1 P (fun e a' w'=>∃ s' a'' g,Q e s' g∧Sim w0 U0 nt s' a'' w'∧a'=wdA a'' [⟨.collected g,#[]⟩]∧look s' 299999=some (.ob g 0)) a w
theorem a3x {x y:Code} {Q:Exit→AS→Nat→Prop} (h:AWp P w0 U0 nt x (fun e s'=>e = .normal∧a4K P w0 U0 nt y Q s') s):a4K P w0 U0 nt (.seq x y) Q s:=fun a w hs=>by
 have:=h ⟨none,[]⟩ a w hs
 unfold WP at this
 rw [X9 hs.df] at this
 refine wpIn_seq (wpIn_mono this ?_)
 rintro e a' w' ⟨a'',rfl,s',⟨rfl,h2⟩,h3⟩
 show Code.wpIn _ _ _ _ _ _ _
 rw [X9 h3.df]
 exact h2 a'' w' h3
theorem b1L {x y:Code} {Q:Exit→AS→Nat→Prop} (h:a4K P w0 U0 nt x (fun e s' g=>e = .normal∧AWp P w0 U0 nt y (fun e s2=>Q e s2 g∧look s2 299999=some (.ob g 0)) s') s):a4K P w0 U0 nt (.seq x y) Q s:=fun a w hs=>by
 refine wpIn_seq (wpIn_mono (h a w hs) ?_)
 rintro e a' w' ⟨s',a'',g,⟨rfl,h2⟩,h3,rfl,h4⟩
 show Code.wpIn _ _ _ _ _ _ _
 refine wpIn_mono (h2 ⟨none,[⟨.collected g,#[]⟩]⟩ a'' w' h3) ?_
 rintro e b w2 ⟨b',rfl,s2,⟨h5,h6⟩,h7⟩
 exact ⟨s2,b',g,h5,h7,rfl,h6⟩
theorem a9d {id:Nat} {c:Code} {Q:Exit→AS→Nat→Prop} (h:a4K P w0 U0 nt c (fun e s' g=>e = .normal∧Q .normal s' g) s):a4K P w0 U0 nt (.block id c) Q s:=fun a w hs=>by
 refine wpIn_block (wpIn_mono (h a w hs) ?_)
 rintro e a' w' ⟨s',a'',g,⟨rfl,h2⟩,h3⟩
 exact ⟨s',a'',g,h2,h3⟩
theorem a9s {α:Type} {g:Operand} {ps:List Tmp} {rid:Nat} {l:List Oper} {body:Code} {gf:Nat} {caps:List CV} {encC:α→List CV} {xs:List α} {al:List (Nat×Nat)} {n1 q1 p1} (ob:Nat→AS) (sl:AS)
  (hgv:ev (look s) g=some ⟨0,.fn gf 0 caps,n1,q1,p1⟩) (hent:b3k P gf) (hG:b8y P gf caps encC xs)
  (hasg:b8G l=some al) (hal:(al.all fun p=>Nat.blt p.1 nt&&Nat.blt p.1 100000)=true) (hps:(ps.all fun p=>Nat.blt p nt&&Nat.blt p 100000)=true) (hsc:∀ x∈xs,∀ c∈encC x,∃ v,c = .sc v∧v.oneCell'=true) (hlen:∀ x,(encC x).length=ps.length)
  (hsl:SubL s sl) (hslk:(kO sl).all (fun k=>Nat.blt k 100000)=true) (hob0:SubL s (ob 0))
  (hlend:∀ k,(ob k).all L9=true) (hleave:∀ k,(ob k).all (I6 (kO (ob k)))=true) (hkeys:∀ k,kO (ob k)=kO (ob 0))
  (hko:((kO (ob 0)).all fun k=>Nat.ble 300000 k)=true) (hnr:D7 s ((299999,[])::(299998,[])::L1 (kO (ob 0)) (kO (ob 0)) (kO (ob 0)))=true)
  (hnm:((L1 (kO (ob 0)) (kO (ob 0)) (kO (ob 0))).all fun q=>!Nat.beq q.1 0&&(!Nat.beq q.1 100000&&!Nat.beq q.1 1100000))=true)
  (hround:∀ k x,xs[k]?=some x→∀ (w:World) (U:UX),(∀ k' v,U.f k'=some v→n4 (kO (ob k)) k'=true)→AWp P w U nt body (fun e s'=>e = .normal∧Wk w U nt s' (ob (k+1))) (b6H al (b7B ps (encC x) sl)++ob k)) :
  a4K P w0 U0 nt (.rangeFunc g ps.toArray (.region rid l.toArray false) body) (fun e s' m=>e = .normal∧s'=ob xs.length++((299998,.ob (m+1) 1)::(299999,.ob m 0)::s)) s:=by
 rintro a w ⟨D0,hv0,h⟩
 obtain ⟨ys,lb,e1,e2,e3,e4⟩:=a1h.1 (A0 h (fun k _=>rfl) hgv)
 have hys:ys=[]:=List.eq_nil_of_length_eq_zero e2
 subst hys
 have hcaps:VReps (Us w0 U0 D0) w caps lb:=a0B e4 (by simpa using e3)
 obtain ⟨lp,hlp⟩:∃ lp:AS,lp=(299998,AV.ob (w.heap.size+1) 1)::(299999,AV.ob w.heap.size 0)::s:=⟨_,rfl⟩
 have hnE:=t8 hnr
 have hlk3:∀ {k av k'},look (ob k) k'=some av→300000≤k':=fun {k av k'} h1=>by
  rw [List.all_eq_true] at hko
  refine Nat.le_of_ble_eq_true (hko k' ?_)
  rw [←hkeys k]
  exact j8 h1
 have hL:look lp 299998=some (.ob (w.heap.size+1) 1):=by rw [hlp,lS]
 have hDf:look lp 299999=some (.ob w.heap.size 0):=by rw [hlp,lN (by omega),lS]
 have hap:∀ {k k':Nat},k'<300000→look (ob k++lp) k'=look lp k':=fun {k k'} h1=>by
  rw [i0]
  cases e:look (ob k) k' with
  | none=>rfl
  | some av=>have:=hlk3 e;omega
 have hsubo:∀ k,Sub (ob k++lp) (ob k):=fun k k' av h1=>by rw [i0,h1];rfl
 let I:List α→World→Prop:=fun pre V=>∃ D hv,(∀ b o,D0 b o→D b o)∧SimG w0 U0 nt (ob pre.length++lp) a V D hv
 have hIp:∀ (pre:List α) (A:World) (r r':Loop),I pre A→A.heap[w.heap.size+1]?=some (.loop r)→I pre (A.putObj (w.heap.size+1) (.loop r')):=by
  rintro pre A r r' ⟨D,hv,hd,hS⟩ hr
  obtain ⟨h1,_⟩:=hS.putob (n:=299998) (o:=1) (o':=1) (by unfold RW;omega) (by rw [hap (by omega)];exact hL) (x := .loop r') (fun _ _ _ e=>by cases e) (fun e=>by cases e)
  refine ⟨D,hv,hd,h1.congr fun k=>?_⟩
  rw [f0]
  split
  ·rename_i e;subst e;rw [hap (by omega)];exact hL
  ·rfl
 have hk1:∀ {k},k<300000→look (ob 0) k=none:=fun {k} hk=>by
  cases e:look (ob 0) k with
  | none=>rfl
  | some av=>have:=hlk3 e;omega
 have h0:∀ r:Loop,I [] ((w.alloc (.deferred (some []))).alloc (.loop r)):=fun r=>by
  have h1:=h.newob (n:=299999) (o:=0) (by unfold RW;omega) (hnE (299999,[]) (by simp)).nr (x := .deferred (some [])) (fun _ _ _ e=>by cases e) (fun _=>rfl)
  have hnr2:U4 ((299999,AV.ob w.heap.size 0)::s) 299998:=fun k av hk=>by
   rw [f0] at hk
   split at hk
   ·rename_i e;subst e;cases hk;exact ⟨by show (0:Nat)≠299998;decide,by decide,by decide⟩
   ·exact (hnE (299998,[]) (by simp)).nr k av hk
  have h2:=h1.newob (n:=299998) (o:=1) (by unfold RW;omega) hnr2 (x := .loop r) (fun _ _ _ e=>by cases e) (fun e=>by cases e)
  rw [show (w.alloc (.deferred (some []))).heap.size=w.heap.size+1 by simp,←hlp] at h2
  refine ⟨D0,_,fun _ _ h=>h,h2.congr fun k=>?_⟩
  show look (ob 0++lp) k=_
  rw [i0]
  cases e:look (ob 0) k with
  | none=>rfl
  | some av =>
   have h3:=hlk3 e
   have h4:=hob0.sub k av e
   show some av=_
   rw [hlp,lN (by omega),lN (by omega),h4]
 have hwl:(w.heap.size+1)=(w.heap.size+1):=rfl
 refine b8X (b1P (gf:=gf) (lb:=lb.toArray) (by rw [e1]) hent (Ok:=fun pre x=>xs[pre.length]?=some x) (hG w lb (Us w0 U0 D0) hcaps) (fun {A B C} h1 h2 b hb hx=>(h2 b hb hx).trans (h1 b hb hx)) (fun W l o' hl b hb hx=>World.putObj_heap_other (by omega)) (fun x=>by simp [hlen]) I (fun pre A B ⟨D,hv,hd,hS⟩ hb=>⟨D,hv,hd,hS.grow' hb⟩) hIp h0
  (fun x=>⟨b3m al (b3o ps ((encC x).map CV.v) a.tmps),[]⟩) (fun x W K hK=>?_) (fun pre x W hI hx hsz=>?_) (fun ys W hys hI hD=>?_))
 ·rw [b7R]
  exact wpIn_region_lit (b0A (ro:=some (w.heap.size+1)) hasg hK)
 ·obtain ⟨D,hv,hd,hS⟩:=hI
  obtain ⟨k,hk⟩:∃ k,k=pre.length:=⟨_,rfl⟩
  rw [←hk] at hx hS
  obtain ⟨V,v1,v2,v3,v4,v5,v6⟩:=hS.lend (hsubo k) (hlend k)
  have hbig:((kO (ob k)).all (Nat.ble 100000))=true:=by
   rw [hkeys k,List.all_eq_true]
   intro q hq
   have:=Nat.le_of_ble_eq_true (List.all_eq_true.1 hko q hq)
   exact Nat.ble_eq_true_of_le (by omega)
  have hslv:SlOk (fun av v=>AVRep (Us W V (fun _ _=>False)) W hv (a8 (ob k)) av v) sl a.tmps:=fun d av h1=>by
   have hd5:d<100000:=by
    rw [List.all_eq_true] at hslk
    exact bL (hslk d (j8 h1))
   have h2:look (ob k++lp) d=some av:=by
    rw [hap (by omega),hlp,lN (by omega),lN (by omega)]
    exact hsl.sub d av h1
   obtain ⟨v,h3,h4⟩:=hS.slot d av h2 hd5
   exact ⟨v,h3,h4.move v6 (fun _ h5=>h5.imp id fun ⟨e,he⟩=>⟨e,hsubo k _ _ he.1,he.2⟩) fun _=>rfl⟩
  have hpar:=hslv.par (ps:=ps) (cs:=encC x) (by
   rw [List.all_eq_true] at hps ⊢
   intro p hp
   have:=hps p hp
   rw [Bool.and_eq_true] at this
   rw [hS.size];exact this.1) (fun c hc=>by
    obtain ⟨v,rfl,hv1⟩:=hsc x (List.mem_of_getElem? hx) c hc
    exact p7 hv1)
  have hasg2:=hpar.1.asg (fun v=>by unfold AVRep;simp) (al:=al) (by
   rw [List.all_eq_true] at hal ⊢
   intro p hp
   have:=hal p hp
   rw [Bool.and_eq_true] at this
   rw [hpar.2,hS.size];exact this.1)
  have hkl:(kO (b6H al (b7B ps (encC x) sl))).all (fun k=>Nat.blt k 100000)=true:=by
   have hp1:∀ (ps:List Tmp) (cs:List CV) (sl:AS),(ps.all fun p=>Nat.blt p nt&&Nat.blt p 100000)=true→(kO sl).all (fun k=>Nat.blt k 100000)=true→(kO (b7B ps cs sl)).all (fun k=>Nat.blt k 100000)=true:=by
    intro ps
    induction ps with
    | nil=>intro cs sl _ h;cases cs<;>exact h
    | cons p ps ih =>
     intro cs sl h1 h2
     cases cs with
     | nil=>exact h2
     | cons c cs =>
      rw [List.all_cons,Bool.and_eq_true] at h1
      have h3:=h1.1
      rw [Bool.and_eq_true] at h3
      refine ih cs ((p,.val c)::sl) h1.2 ?_
      show ((p::kO sl).all _)=true
      rw [List.all_cons,Bool.and_eq_true]
      exact ⟨h3.2,h2⟩
   have hp2:∀ (al:List (Nat×Nat)) (sl:AS),(al.all fun p=>Nat.blt p.1 nt&&Nat.blt p.1 100000)=true→(kO sl).all (fun k=>Nat.blt k 100000)=true→(kO (b6H al sl)).all (fun k=>Nat.blt k 100000)=true:=by
    intro al
    induction al with
    | nil=>intro sl _ h;exact h
    | cons p al ih =>
     intro sl h1 h2
     obtain ⟨d,t⟩:=p
     rw [List.all_cons,Bool.and_eq_true] at h1
     have h3:=h1.1
     rw [Bool.and_eq_true] at h3
     refine ih _ h1.2 ?_
     show ((d::kO sl).all _)=true
     rw [List.all_cons,Bool.and_eq_true]
     exact ⟨h3.2,h2⟩
   exact hp2 _ _ hal (hp1 _ _ _ hps hslk)
  have hF:=v2.frame (nt:=nt) hbig hkl (tmps:=b3m al (b3o ps ((encC x).map CV.v) a.tmps)) (by rw [hasg2.2,hpar.2];exact hS.size) hasg2.1
  have hR:=hround k x hx W V v1 ⟨some (w.heap.size+1),[]⟩ _ W ⟨_,hv,hF⟩
  refine wpIn_mono hR ?_
  rintro e a' W' ⟨a'',rfl,s',⟨rfl,h5⟩,h6⟩
  obtain ⟨D',hv',h7⟩:=h5 a'' W' h6
  have h8:=h7.bare (post:=ob (k+1)) (fun _ _ h=>h) (by rw [hkeys (k+1),←hkeys k];exact hbig)
  have hnx:∀ b,b<W.heap.size→¬ V.x b→W'.heap[b]?=W.heap[b]?:=fun b hb hx=>h8.below.block b hb hx
  have hnob:∀ {b kk o},kk=299998∨kk=299999→look lp kk=some (.ob b o)→¬ V.x b:=fun {b kk o} hkk h9 hb=>by
   obtain ⟨q,av,g1,g2,g3⟩:=(v3 b).1 hb
   have hq:=hlk3 g1
   have hav:av.t≠7:=by
    have h3:=K6 (hlend k) g1
    unfold L9 at h3
    unfold k9 at g2
    have h4:Nat.ble 500000 q=false:=by
     cases e:Nat.ble 500000 q with
     | false=>rfl
     | true=>have:=Nat.le_of_ble_eq_true e;omega
    simp only [h4,Bool.and_eq_true,Bool.not_eq_true'] at h3
    intro e
    rw [e] at h3
    exact absurd h3.1.2 (by decide)
   have hkk':k9 kk:=by unfold k9;omega
   have hO:OX (Us w0 U0 D) W (.ob b o) (hv kk):=hS.obj kk (.ob b o) (by rw [hap (by omega)];exact h9) hkk'
   have hval:hv kk = .pointer (some ⟨b,0,none⟩):=(hO.2.1 rfl).1
   exact hS.disj q kk av _ b (hsubo k _ _ g1) (by rw [hap (by omega)];exact h9) g2 hkk' hav (fun e=>by cases e) (by omega) g3 (by rw [hval];rfl)
  have hnL:=hnob (.inl rfl) hL
  have hnD:=hnob (.inr rfl) hDf
  have hqn:∀ q∈L1 (kO (ob 0)) (kO (ob 0)) (kO (ob 0)),q.1≠0∧100000≠q.1∧100000+1000000≠q.1:=fun q hq=>by
   rw [List.all_eq_true] at hnm
   have:=hnm q hq
   simp only [Bool.and_eq_true,Bool.not_eq_true'] at this
   obtain ⟨g1,g2,g3⟩:=this
   exact ⟨(fun e=>by rw [e] at g1;cases g1),(fun e=>by rw [←e] at g2;cases g2),(fun e=>by rw [←e] at g3;cases g3)⟩
  obtain ⟨D2,hv2,h9,_,hD2⟩:=hS.back (hsubo k) (hlend k) (hleave (k+1)) (by rw [hkeys (k+1),hkeys k,List.all_eq_true];intro q hq;exact s7 hq) (fun q hq=>by
   rw [hkeys (k+1),hkeys k] at hq
   intro kk av hkk hex
   have hq2:=hnE q (by simp only [List.mem_cons];exact .inr (.inr hq))
   rw [i0] at hkk
   cases e:look (ob k) kk with
   | some av' =>
    exfalso
    have hin:n4 q.2 kk=true:=by
     have:∀ (P1 P2 ks:List Nat),q∈L1 P1 P2 ks→q.2=P1++P2:=by
      intro P1 P2 ks
      induction ks with
      | nil=>intro h;cases h
      | cons y ys ih =>
       intro h
       unfold L1 at h
       split at h
       ·exact ih h
       ·rcases List.mem_cons.1 h with rfl | h
        ·rfl
        ·exact ih h
       ·exact ih h
       ·rcases List.mem_cons.1 h with rfl | h
        ·rfl
        ·exact ih h
       ·rcases List.mem_cons.1 h with rfl | h
        ·rfl
        ·exact ih h
       ·rcases List.mem_cons.1 h with rfl | h
        ·rfl
        ·exact ih h
     rw [this _ _ _ hq]
     refine s7 (List.mem_append_left _ ?_)
     rw [←hkeys k]
     exact j8 e
    rw [hin] at hex
    cases hex
   | none =>
    rw [e] at hkk
    have hkk:look lp kk=some av:=hkk
    rw [hlp,f0] at hkk
    split at hkk
    ·rename_i e2
     injection hkk with hkk
     obtain ⟨g1,g2,g3⟩:=hqn q hq
     rw [←e2,←hkk]
     exact ⟨fun e=>g1 e.symm,g2,g3⟩
    ·rw [f0] at hkk
     split at hkk
     ·rename_i e2
      injection hkk with hkk
      obtain ⟨g1,g2,g3⟩:=hqn q hq
      rw [←e2,←hkk]
      exact ⟨fun e=>g1 e.symm,g2,g3⟩
     ·exact hq2 kk av hkk hex) (fun q v hq1 hq2=>by rw [hkeys (k+1),←hkeys k] at hq2;exact hq2) v3 v4 v5 v2 h8
  refine ⟨hnx _ (by omega) hnL,hnx _ (by omega) hnD,fun b hb hx=>?_,D2,hv2,fun b o hb=>hD2 b o (hd b o hb),?_⟩
  ·obtain ⟨o,ho⟩:=Classical.not_not.1 hx
   refine hnx b (by omega) fun hb2=>?_
   obtain ⟨q,av,g1,g2,g3⟩:=(v3 b).1 hb2
   have hq:=hlk3 g1
   have hav:av.t≠7∧av.t≠6:=by
    have h3:=K6 (hlend k) g1
    unfold L9 at h3
    unfold k9 at g2
    have h4:Nat.ble 500000 q=false:=by
     cases e:Nat.ble 500000 q with
     | false=>rfl
     | true=>have:=Nat.le_of_ble_eq_true e;omega
    simp only [h4,Bool.and_eq_true,Bool.not_eq_true'] at h3
    exact ⟨(fun e=>by rw [e] at h3;exact absurd h3.1.2 (by decide)),(fun e=>by rw [e] at h3;exact absurd h3.1.1.2 (by decide))⟩
   obtain ⟨f1,f2,f3⟩:=hS.blk q av b (hsubo k _ _ g1) g2 hav.1 g3
   have ho2:Us w0 U0 D b o:=ho.imp id fun h=>⟨h.1,hd _ _ h.2⟩
   exact a3b ho2 f1 (f3 o fun e=>absurd e hav.2) rfl
  ·have hlen2:(pre++[x]).length=k+1:=by rw [List.length_append,hk];rfl
   rw [hlen2]
   refine h9.sub fun q av hq=>?_
   rw [i0] at hq ⊢
   cases e:look (ob (k+1)) q with
   | some av'=>rw [e] at hq;exact hq
   | none =>
    rw [e] at hq
    have hq:look lp q=some av:=hq
    show look (ob k++lp) q=some av
    rw [i0]
    cases e2:look (ob k) q with
    | none=>exact hq
    | some av' =>
     exfalso
     have h1:=j8 e2
     rw [hkeys k,←hkeys (k+1)] at h1
     obtain ⟨av2,h2⟩:∃ av2,look (ob (k+1)) q=some av2:=by
      clear e
      generalize ob (k+1)=L at h1
      induction L with
      | nil=>cases h1
      | cons y L ih =>
       obtain ⟨q',av2⟩:=y
       rw [f0]
       by_cases e3:q'=q
       ·exact ⟨av2,if_pos e3⟩
       ·rw [if_neg e3]
        rcases List.mem_cons.1 h1 with h1 | h1
        ·exact absurd h1.symm e3
        ·exact ih h1
     rw [e] at h2;cases h2
 ·subst hys
  obtain ⟨D,hv,hd,hS⟩:=hI
  refine ⟨_,a,w.heap.size,⟨rfl,rfl⟩,⟨D,hv,by rw [hlp] at hS;exact hS⟩,by show _=wdA a _;unfold wdA;rw [h.dfr],?_⟩
  have:=hap (k:=ys.length) (k':=299999) (by omega)
  rw [hDf,hlp] at this
  exact this
end
def c1R {α:Type} (P:Program) (gf:Nat) (caps:List CV) (m:Nat) (encC:α→List CV) (xs:List α):Prop:=
 ∀ (w:World) (lb:List Value) (R:Nat→Nat→Prop),VReps R w caps lb→∃ vals:Nat→List Value,(∀ k,(vals k).length=m)∧(∀ k x,xs[k]?=some x→VReps R w (encC x) (vals k)) ∧
  a0D P gf lb.toArray (fun k=>(vals k).toArray) (fun pre k _=>k=pre.length∧k<xs.length) (KpX w.heap.size fun b=>¬ ∃ o,R b o) (fun ys=>ys=List.range xs.length) w
section
variable {P:Program} {w0:World} {U0:UX} {nt:Nat} {s:AS}
end
section
variable {P:Program} {w0:World} {U0:UX} {nt:Nat} {ops:Array Oper} {o:Oper} {S:Nat→Option AV} {gs:List Nat} {d:Nat} {s:AS} {a:Act} {w:World} {D:Nat→Nat→Prop} {hv:Nat→Value}
theorem b2d {c:Code} {Q Q':Exit→AS→Nat→Prop} (h:a4K P w0 U0 nt c Q s) (hq:∀ e s g,Q e s g→Q' e s g):a4K P w0 U0 nt c Q' s:=fun a w hs =>
 wpIn_mono (h a w hs) fun e a' w' ⟨s',a'',g,h1,h2⟩=>⟨s',a'',g,hq _ _ _ h1,h2⟩
theorem b7k {c:Code} {Q:Exit→AS→Nat→Prop} {s':AS} (h:Wk w0 U0 nt s s') (h2:a4K P w0 U0 nt c Q s'):a4K P w0 U0 nt c Q s:=fun a w hs=>h2 a w (h a w hs)
theorem b2E {f : FuncId} {fn : Func} {c : Code} {pre post : AS} {args : List AV} {r : AV} (hf : P.funcs[f]? = some fn) (hn : fn.ntmps = nt) (hname : (fn.name == "runtime.NumGoroutine") = false) (hb : fn.body = some c) (hl : Nat.ble args.length nt = true) (hnt : Nat.blt nt 100000 = true) (hpre : (kO pre).all (Nat.ble 100000) = true) (hpost : (kO post).all (Nat.ble 100000) = true)
  (h:∀ (w:World) (U:UX),(∀ k v,U.f k=some v→n4 (kO pre) k=true)→a4K P w U nt c (fun e s' g=>(e = .normal∨e = .ret)∧∃ s2,Wk w U nt s' ((299999,.ob g 0)::s2)∧b8I P s2 fn.results.toList=some r∧SubL s2 post∧look s2 299999=none) (J6 args 0++pre)):p6 P f pre args r post:=by
 refine ⟨C1 hf hname (by rw [hb];rfl),fun U w hv a0 vs hU hpS hargs=>?_⟩
 have hlen:=hargs.len
 refine callsIn_wide.1 (callsIn_of_wp_marks (F:=Fence.wide) (n:=1) hf hb trivial ?_ rfl)
 have hle:=Nat.le_of_ble_eq_true hl
 have hnt:=bL hnt
 have hlow:∀ {k av},look pre k=some av→100000≤k:=fun {k av} h1=>by
  rw [List.all_eq_true] at hpre
  exact Nat.le_of_ble_eq_true (hpre k (j8 h1))
 have hlk:∀ {k},100000≤k→look (J6 args 0++pre) k=look pre k:=fun {k} h1=>by
  rw [i0]
  cases h2:look (J6 args 0) k with
  | none=>rfl
  | some av =>
   obtain ⟨_,h3⟩:=B7 h2
   rw [Nat.sub_zero,List.getElem?_eq_none (by omega)] at h3
   cases h3
 have hlive:a8 (J6 args 0++pre)=a8 pre:=by
  funext n
  unfold a8 r9
  apply propext
  constructor
  ·rintro (h1 | ⟨e,h1,h2,h3⟩)
   ·exact .inl h1
   ·rw [hlk (by omega)] at h1;exact .inr ⟨e,h1,h2,h3⟩
  ·rintro (h1 | ⟨e,h1,h2,h3⟩)
   ·exact .inl h1
   ·exact .inr ⟨e,by rw [hlk (by omega)];exact h1,h2,h3⟩
 have hs:Sim w U nt (J6 args 0++pre) { tmps:=vs.toArray++Array.replicate (fn.ntmps-vs.toArray.size) undef,defers:=[] } w:=by
  refine ⟨fun _ _=>False,hv,hpS.below,rfl,by simp [hn];omega,fun d av h1 h2=>?_,fun n o av h1 h2 h3 h4=>?_,fun n o o' av av' h1 h2=>?_,fun k av h1 h2=>?_,fun k av g h1 h2=>?_,fun k k' av av' g h1 h2 h3 h4=>?_,hpS.fix,fun b o hd=>hd.elim⟩
  ·rw [i0] at h1
   cases h3:look (J6 args 0) d with
   | none =>
    rw [h3] at h1
    have:=hlow h1
    omega
   | some av' =>
    rw [h3] at h1
    cases h1
    obtain ⟨_,h4⟩:=B7 h3
    rw [Nat.sub_zero] at h4
    obtain ⟨v,h6,h7⟩:=hargs.at h4
    have hdl:d<vs.length:=by
     rcases Nat.lt_or_ge d vs.length with h | h
     ·exact h
     ·rw [List.getElem?_eq_none h] at h6;cases h6
    rw [hlive]
    refine ⟨v,?_,h7⟩
    rw [Array.getElem?_append_left (by simpa using hdl)]
    simpa using h6
  ·rw [hlk (by unfold b9;omega)] at h1
   rw [hlk (by omega)] at h3
   rw [hlive]
   exact hpS.fld n o av h1 h2 h3 h4
  ·rw [hlk (by unfold b9;omega)] at h1 h2
   exact hpS.fdis n o o' av av' h1 h2
  ·rw [hlk h2.1] at h1;rw [hlive];exact hpS.obj k av h1 h2
  ·rw [hlk h2.1] at h1;exact hpS.blk k av g h1 h2
  ·rw [hlk h3.1] at h1;rw [hlk h4.1] at h2;exact hpS.disj k k' av av' g h1 h2 h3 h4
 refine wpIn_mono (h w U hU _ w hs) ?_
 rintro e a' w' ⟨s',a'',g,⟨h1,s2,g1,g2,g3,g4⟩,h3,rfl,g5⟩
 obtain ⟨D',hv',h4⟩:=g1 a'' w' h3
 obtain ⟨h5,h6,h7,y,h8,h9⟩:=h4.putob (n:=299999) (o:=0) (o':=1) (by unfold RW;omega) (lS _ _ _) (x := .deferred none) (fun _ _ _ e=>by cases e) (fun e=>by cases e)
 have h9:=h9 rfl
 subst h9
 have hS:=h5.sub (s':=s2) fun k av hk=>by
  have hne:(299999:Nat)≠k:=fun e=>by rw [←e,g4] at hk;cases hk
  rw [lN hne,lN hne];exact hk
 obtain ⟨v,i1,i2⟩:=a0F hS g2
 have hlow2:∀ {k av},look post k=some av→100000≤k:=fun {k av} h1=>by
  rw [List.all_eq_true] at hpost
  exact Nat.le_of_ble_eq_true (hpost k (j8 h1))
 have hSp:=hS.sub g3.sub
 have hS0:SimG w U 0 post ⟨#[],[]⟩ (w'.putObj g (.deferred none)) D' hv':=⟨hSp.below,rfl,rfl,fun d av h7 h8=>by have:=hlow2 h7;omega,hSp.fld,hSp.fdis,hSp.obj,hSp.blk,hSp.disj,hSp.fix,hSp.dlt⟩
 have hleave:LeavesInM Fence.wide 1 P fn a''.tmps (fun e w'=>∃ v D' hv' a',e = .returned v∧SimG w U 0 post a' w' D' hv'∧AVRep (Us w U D') w' hv' (a8 post) r v) [⟨.collected g,#[]⟩] .returning w':=
  ⟨(fun e=>by cases e),.inl ⟨g,_,rfl,run_takeDeferred h8,v,i1,v,D',hv',_,rfl,hS0,i2.move (fun _ _ _ h1 h2=>⟨h1,h2⟩) (fun _ h7=>h7.imp id fun ⟨e,he⟩=>⟨e,g3.sub _ _ he.1,he.2⟩) fun _=>rfl⟩⟩
 rcases h1 with rfl | rfl
 ·exact hleave
 ·exact hleave
theorem b9f (nn:Nat) (hg:Gd w0 U0 nt ops o gs S) (hd:o.dst=some d) (hn:Nat.blt d nt=true) (h5:Nat.blt d 100000=true) {x:Operand} {ty:TypeId} {av:AV} (ho:o.op = .box ty x) (hx:ev S x=some av) (hsz:Nat.beq av.sz 1=true) (hone:((Nat.beq av.t 0&&!Nat.beq av.c.k 2)||Nat.beq av.t 2||Nat.beq av.t 12||Nat.beq av.t 15)=true) (hbb:(Nat.blt nn 100000||(Nat.ble 350000 nn&&Nat.blt nn 400000))=true) (hnn:Nat.beq av.n nn=false) (hnf:∀ v,U0.f (100000+nn)=some v→False):AOp P w0 U0 nt ops o (gs++rd x) [(nn,[])] S [(b9 nn 0,av),(d,.bp nn 0 []),(100000+nn,.obj)]:=by
 intro s hs hN a w ⟨D,hv,h⟩ Q K hK
 rw [if_pos (hg s (fun k hk=>hs k (List.mem_append_left _ hk)) a w D hv h)]
 have hd5:=bL h5
 have hbn:BN nn:=by
  rcases Bool.or_eq_true_iff.1 hbb with h1 | h1
  ·exact .inl (bL h1)
  ·rw [Bool.and_eq_true] at h1;exact .inr ⟨Nat.le_of_ble_eq_true h1.1,bL h1.2⟩
 have hbn1:=hbn
 unfold BN at hbn1
 have hrep:=i9 h (fun k hk=>hs k (List.mem_append_right _ hk)) hx
 have hcell:(a.eval x).cells = #[a.eval x]:=by
  have hone':(av.t=0∧av.c.k≠2)∨(av.t≠0∧b1d av=true):=by
   simp only [Bool.or_eq_true,Bool.and_eq_true,Bool.not_eq_true'] at hone
   rcases hone with ((⟨h1,h2⟩ | h1) | h1) | h1
   ·exact .inl ⟨Nat.eq_of_beq_eq_true h1,fun e=>by rw [e] at h2;cases h2⟩
   all_goals (refine .inr ⟨fun e=>(by rw [e] at h1;cases h1),?_⟩;unfold b1d;rw [h1];simp)
  rcases hone' with ⟨h1,h2⟩ | ⟨h1,h2⟩
  ·unfold AVRep at hrep
   rw [if_pos h1] at hrep
   exact (a7A hrep.1 h2).1
  ·exact (a5X hrep h2 h1).1
 have he:(execOp a.eval o).run P w = .ok (.value (.pointer (some ⟨w.heap.size,0,none⟩))) (w.alloc (.cells #[a.eval x] ty)):=by
  generalize a.eval=ρ at hcell ⊢
  simp [execOp,ho,Instr.box,F9,hcell]
 unfold Oper.wp
 rw [he,Oper.upon_value,hd]
 have hr:=(hN (nn,[]) (by simp)).nr
 have hG:=h.newboxN (d:=d) (av := .obj) hbn hnf hr (bL hn) hd5 (.inr rfl) (xs:=[a.eval x]) ty (fun e=>by cases e) (fun e=>by cases e)
 have hb':Below w.heap.size w (w.alloc (.cells #[a.eval x] ty)):=(Below.refl _ _).alloc (Nat.le_refl _) _
 have hl2:a8 ((d,AV.bp nn 0 [])::(100000+nn,AV.obj)::s)=a8 s:=by
  funext n
  simp only [a8,a4X (show d<200000 by omega) (show 100000+nn<200000∨400000≤100000+nn by omega)]
 refine hK _ _ ⟨D,_,hG.addF hbn (by rw [lN (by omega),lS]) (by omega) (av:=av) (v:=a.eval x) ?_ ?_ ?_ ?_⟩
 ·rw [hl2]
  refine hrep.move (M9 h.dlt hb' fun _ _ h=>h) (fun _ h=>h) fun h3=>?_
  have hkn:hk av≠100000+nn:=by
   refine a2Y hbn (fun n=>D4) ?_ h3
   exact fun e=>by rw [e,Nat.beq_refl] at hnn;cases hnn
  simp only [if_neg hkn]
 ·rw [hcell,Nat.eq_of_beq_eq_true hsz];rfl
 ·intro i hi
  rw [hcell] at hi ⊢
  have hi:i=0:=by simp at hi;omega
  subst hi
  simp only [if_true]
  show (w.alloc (.cells #[a.eval x] ty)).cell? ⟨w.heap.size,0+0,none⟩=_
  have:=s5 w (.cells #[a.eval x] ty)
  simp only [World.cell?,this]
  simp
 ·intro o' av' h1 h2
  exfalso
  rw [lN (by unfold b9;omega),lN (by unfold b9;omega)] at h1
  have:=(hr _ _ h1).2.1
  rw [M6 h2] at this
  exact this rfl
theorem zbi {P:Program} {w0:World} {U0:UX} {nt:Nat} {ops:Array Oper} {o:Oper} {S:Nat→Option AV} {gs:List Nat} {d:Nat} {x:Operand} {ty:TypeId} {av:AV} (nn:Nat) (p:Gd w0 U0 nt ops o gs S:=by exact gN rfl) (q:o.dst=some d:=by exact rfl) (r:Nat.blt d nt=true:=by exact rfl) (u:Nat.blt d 100000=true:=by exact rfl) (y:o.op = .box ty x:=by exact rfl) (z:ev S x=some av:=by exact rfl) (A:Nat.beq av.sz 1=true:=by exact rfl) (B:((Nat.beq av.t 0&&!Nat.beq av.c.k 2)||Nat.beq av.t 2||Nat.beq av.t 12||Nat.beq av.t 15)=true:=by exact rfl) (C:(Nat.blt nn 100000||(Nat.ble 350000 nn&&Nat.blt nn 400000))=true:=by exact rfl) (E:Nat.beq av.n nn=false:=by exact rfl) (F:∀ v,U0.f (100000+nn)=some v→False):AOp P w0 U0 nt ops o (gs++rd x) [(nn,[])] S [(b9 nn 0,av),(d,.bp nn 0 []),(100000+nn,.obj)]:=b9f nn p q r u y z A B C E F
theorem b2c (nn:Nat) (hg:Gd w0 U0 nt ops o gs S) (hd:o.dst=some d) (hn:Nat.blt d nt=true) (h5:Nat.blt d 100000=true) {ty:TypeId} {v:Value} {av:AV} (ho:o.op = .alloc ty) (hi:(P.info? ty).map (·.zero)=some (some v)) (hav:(v = .slice none 0 0∧av=⟨0,.lst [],1,0,[]⟩)∨(v.oneCell'=true∧av = .val (.sc v))) (hbb:(Nat.blt nn 100000||(Nat.ble 350000 nn&&Nat.blt nn 400000))=true) (hnn:Nat.beq 1 nn=false) (hn0:Nat.beq 0 nn=false) (hnf:∀ v,U0.f (100000+nn)=some v→False):AOp P w0 U0 nt ops o gs [(nn,[])] S [(b9 nn 0,av),(d,.bp nn 0 []),(100000+nn,.obj)]:=by
 intro s hs hN a w ⟨D,hv,h⟩ Q K hK
 rw [if_pos (hg s hs a w D hv h)]
 have hd5:=bL h5
 have hbn:BN nn:=by
  rcases Bool.or_eq_true_iff.1 hbb with h1 | h1
  ·exact .inl (bL h1)
  ·rw [Bool.and_eq_true] at h1;exact .inr ⟨Nat.le_of_ble_eq_true h1.1,bL h1.2⟩
 have hbn1:=hbn
 unfold BN at hbn1
 have hv1:v.oneCell'=true:=by
  rcases hav with ⟨rfl,_⟩ | ⟨h1,_⟩
  ·rfl
  ·exact h1
 have hcell:=a1C hv1
 obtain ⟨it,i1,i2⟩:∃ it,P.info? ty=some it∧it.zero=some v:=by
  cases e:P.info? ty with
  | none=>rw [e] at hi;cases hi
  | some it=>rw [e,Option.map_some] at hi;exact ⟨it,rfl,by injection hi⟩
 have he:(execOp a.eval o).run P w = .ok (.value (.pointer (some ⟨w.heap.size,0,none⟩))) (w.alloc (.cells #[v] ty)):=by
  simp [execOp,ho,Instr.alloc,zeroValue,typeInfo,i1,i2,F9,hcell]
 unfold Oper.wp
 rw [he,Oper.upon_value,hd]
 have hr:=(hN (nn,[]) (by simp)).nr
 have hG:=h.newboxN (d:=d) (av := .obj) hbn hnf hr (bL hn) hd5 (.inr rfl) (xs:=[v]) ty (fun e=>by cases e) (fun e=>by cases e)
 refine hK _ _ ⟨D,_,hG.addF hbn (by rw [lN (by omega),lS]) (by omega) (av:=av) (v:=v) ?_ ?_ ?_ ?_⟩
 ·rcases hav with ⟨rfl,rfl⟩ | ⟨h1,rfl⟩
  ·exact ⟨j5.2 ⟨none,0,0,rfl,rfl,Nat.le_refl _,by decide,fun _=>⟨rfl,rfl⟩,[],.inl rfl,rfl⟩,fun _=>⟨0,.lst [],rfl,rfl⟩⟩
  ·exact p7 h1
 ·rw [hcell]
  rcases hav with ⟨rfl,rfl⟩ | ⟨h1,rfl⟩<;>rfl
 ·intro i hi
  rw [hcell] at hi ⊢
  have hi:i=0:=by simp at hi;omega
  subst hi
  simp only [if_true]
  show (w.alloc (.cells #[v] ty)).cell? ⟨w.heap.size,0+0,none⟩=_
  have:=s5 w (.cells #[v] ty)
  simp only [World.cell?,this]
  simp
 ·intro o' av' h1 h2
  exfalso
  rw [lN (by unfold b9;omega),lN (by unfold b9;omega)] at h1
  have:=(hr _ _ h1).2.1
  rw [M6 h2] at this
  exact this rfl
theorem zbk {P:Program} {w0:World} {U0:UX} {nt:Nat} {ops:Array Oper} {o:Oper} {S:Nat→Option AV} {gs:List Nat} {d:Nat} {ty:TypeId} {v:Value} {av:AV} (nn:Nat) (p:Gd w0 U0 nt ops o gs S:=by exact gN rfl) (q:o.dst=some d:=by exact rfl) (r:Nat.blt d nt=true:=by exact rfl) (t:Nat.blt d 100000=true:=by exact rfl) (u:o.op = .alloc ty:=by exact rfl) (x:(P.info? ty).map (·.zero)=some (some v):=by exact rfl) (y:(v = .slice none 0 0∧av=⟨0,.lst [],1,0,[]⟩)∨(v.oneCell'=true∧av = .val (.sc v)):=by first | exact .inl ⟨rfl,rfl⟩ | exact .inr ⟨rfl,rfl⟩) (z:(Nat.blt nn 100000||(Nat.ble 350000 nn&&Nat.blt nn 400000))=true:=by exact rfl) (A:Nat.beq 1 nn=false:=by exact rfl) (B:Nat.beq 0 nn=false:=by exact rfl) (C:∀ v,U0.f (100000+nn)=some v→False):AOp P w0 U0 nt ops o gs [(nn,[])] S [(b9 nn 0,av),(d,.bp nn 0 []),(100000+nn,.obj)]:=b2c nn p q r t u x y z A B C
theorem c1g (nn:Nat) (hg:Gd w0 U0 nt ops o gs S) (hd:o.dst=some d) (hn:Nat.blt d nt=true) (h5:Nat.blt d 100000=true) {x y:Operand} {t e size bytes k:Nat} {z:Value} {i1 i2:Int} {k1 k2:IntKind} {n1 q1 p1 n2 q2 p2} (ho:o.op = .makeSlice t x y) (ht:P.underlying t=some (.slice e)) (hi:(P.info? e).map (fun i=>(i.zero,i.size,i.bytes))=some (some z,size,bytes)) (hsz:Nat.blt 0 size=true) (hbt:Nat.ble bytes 1000=true)
  (hx:ev S x=some ⟨0,.sc (.int k1 i1),n1,q1,p1⟩) (hy:ev S y=some ⟨0,.sc (.int k2 i2),n2,q2,p2⟩) (hn2:(Nat.ble 200000 nn&&Nat.blt nn 400000)=true) (h1:i1=0) (h2:i2=(k:Int)) (hbd:k≤1000000000) :
  AOp P w0 U0 nt ops o (gs++(rd x++rd y)) [(nn,[])] S [(d,.sl nn 0 0 size),(nn,.mrow e size [])]:=by
 intro s hs hN a w ⟨D,hv,h⟩ Q K hK
 rw [if_pos (hg s (fun k hk=>hs k (List.mem_append_left _ hk)) a w D hv h)]
 have e1:=s9 h (fun k hk=>hs k (List.mem_append_right _ (List.mem_append_left _ hk))) hx
 have e2:=s9 h (fun k hk=>hs k (List.mem_append_right _ (List.mem_append_right _ hk))) hy
 subst h1
 subst h2
 obtain ⟨i,hi1,hi2,hi3,hi4⟩:=info_parts hi
 have hsz:=bL hsz
 have hbt:=Nat.le_of_ble_eq_true hbt
 have hmul:bytes*k≤1000*1000000000:=Nat.mul_le_mul hbt hbd
 obtain ⟨w',r1,r2,r3⟩:=run_make_own (P:=P) (w:=w) w.heap.size t e i z size ht hi1 hi2 hi3 k1 k2 k (by rw [hi4];omega) (by unfold maxLen;omega) (Nat.le_refl _)
 have hrn2:=rnB hn2
 have hkp:∀ b o u,Us w0 U0 D b o→w.cell? ⟨b,o,none⟩=some u→Us w0 U0 D b o∧w'.cell? ⟨b,o,none⟩=some u:=fun b o u hu hc=>by
  refine ⟨hu,?_⟩
  have hlt:b<w.heap.size:=World.block_lt_of_cell? w _ hc
  rw [World.cell?_of_block (w:=w) (r3.block b hlt (by simp))]
  exact hc
 have hG:=h.newrow (avn := .mrow e size []) (v' := .slice (some ⟨w.heap.size,0,none⟩) 0 k) (D':=D) (X:=fun _=>False) (n:=nn) hrn2 (hN (nn,[]) (by simp)).nr (by simp) ⟨r3.os,r3.tape,r3.output,r3.size,fun b hb hx=>r3.block b hb (by simp)⟩ (fun b hb=>hb.elim) (fun g hg=>by
   have hg:(Value.slice (some ⟨w.heap.size,0,none⟩) 0 k).ownBlock=some g:=hg
   refine ⟨.inr (r2.lt g hg).1,(r2.lt g hg).2,fun o _ hd=>?_⟩
   have:=(r2.lt g hg).1
   have:=h.dlt _ _ hd
   omega) (fun b o hd => .inl hd) (fun b o hd=>Nat.lt_of_lt_of_le (h.dlt _ _ hd) r3.size) hkp (fun hv lv=>⟨[],r7 r2 (Nat.zero_le _),hsz,(fun c hc=>by cases hc),rfl⟩)
 have he:(execOp a.eval o).run P w = .ok (.value (.slice (some ⟨w.heap.size,0,none⟩) 0 k)) w':=by
  generalize a.eval=ρ at e1 e2 ⊢
  simp [execOp,ho,e1,e2,r1]
 unfold Oper.wp
 rw [he,Oper.upon_value,hd]
 refine hK _ _ ⟨_,_,hG.put (bL hn) (bL h5) ⟨RW.rn hrn2,?_⟩⟩
 show SlV ((fun x=>if x=nn then Value.slice (some ⟨w.heap.size,0,none⟩) 0 k else hv x) nn) 0 0 size _
 simp only [if_true]
 exact R2 rfl (Nat.zero_le _) (.inr ⟨_,rfl⟩)
theorem zbl {P:Program} {w0:World} {U0:UX} {nt:Nat} {ops:Array Oper} {o:Oper} {S:Nat→Option AV} {gs:List Nat} {d:Nat} {x:Operand} {y:Operand} {t:Nat} {e:Nat} {size:Nat} {bytes:Nat} {k:Nat} {z:Value} {i1:Int} {i2:Int} {k1:IntKind} {k2:IntKind} {n1} {q1} {p1} {n2} {q2} {p2} (nn:Nat) (p:Gd w0 U0 nt ops o gs S:=by exact gN rfl) (q:o.dst=some d:=by exact rfl) (r:Nat.blt d nt=true:=by exact rfl) (v:Nat.blt d 100000=true:=by exact rfl) (A:o.op = .makeSlice t x y:=by exact rfl) (B:P.underlying t=some (.slice e):=by exact rfl) (C:(P.info? e).map (fun i=>(i.zero,i.size,i.bytes))=some (some z,size,bytes):=by exact rfl) (E:Nat.blt 0 size=true:=by exact rfl) (F:Nat.ble bytes 1000=true:=by exact rfl) (G:ev S x=some ⟨0,.sc (.int k1 i1),n1,q1,p1⟩:=by exact rfl) (H:ev S y=some ⟨0,.sc (.int k2 i2),n2,q2,p2⟩:=by exact rfl) (hn2:(Nat.ble 200000 nn&&Nat.blt nn 400000)=true:=by exact rfl) (h1:i1=0:=by exact rfl) (h2:i2=(k:Int):=by first | rfl | omega | (simp only [List.length_set,List.length_map,List.length_append,List.length_cons,List.length_nil]<;>omega) | (simp<;>omega)) (hbd:k≤1000000000:=by first | rfl | omega | (simp only [List.length_set,List.length_map,List.length_append,List.length_cons,List.length_nil]<;>omega) | (simp<;>omega)):AOp P w0 U0 nt ops o (gs++(rd x++rd y)) [(nn,[])] S [(d,.sl nn 0 0 size),(nn,.mrow e size [])]:=c1g nn p q r v A B C E F G H hn2 h1 h2 hbd
end
section
variable {P:Program} {w0:World} {U0:UX} {nt:Nat} {s:AS} {a:Act} {w:World} {D:Nat→Nat→Prop} {hv:Nat→Value}
def c3n (P:Program) (w0:World) (U0:UX) (nt:Nat) (c:Code) (Q:Exit→AS→Prop) (s:AS):Prop:=
 ∀ M a w l₀ r₀,M.r=some l₀→w0.heap[l₀]?=some (.loop r₀)→¬ U0.x l₀→Sim w0 U0 nt s a w→WP P M c (fun e a' w'=>∃ s',Q e s'∧Sim w0 U0 nt s' a' w') a w
end
section
variable {α:Type} {P:Program}
def b9V (L:Nat) (Kp:World→World→Prop) (I:World→Prop) (W:World):Exit→Act→World→Prop
 | .normal,_,W'=>W'.heap[L]?=W.heap[L]?∧Kp W W'∧I W'
 | _,_,_=>False
end
section
variable {P:Program} {w0:World} {U0:UX} {nt:Nat} {s:AS} {a:Act} {W:World} {D:Nat→Nat→Prop} {hv:Nat→Value}
end
section
variable {P:Program} {w0:World} {U0:UX} {nt:Nat} {s:AS}
end
section
variable {P:Program} {nt:Nat}
end
end Go.Proofs.YtglmoficcjphaaaGreat
namespace Go.Proofs.YtglmoficcjphaaaGreat
open Go.RowKit
set_option linter.unusedVariables false
set_option linter.unusedSimpArgs false
set_option maxRecDepth 100000
theorem Q7 (W:World) (t:Tm):AFun Tryz.prog W 85 [t.cw] (.val (.b (decide (t.f<0)))):=by
 refine b6 (rs:=[.b (decide (t.f<0))]) Tryz.func85 Tryz.ntmps85 rfl rfl rfl rfl ?_
 intro w U hW
 refine aS (aR ?_)
 refine nc zd (nc ze ?_)
 refine aS (aR ?_)
 refine nc zg (nc zh (nc zi (nc ze ?_)))
 exact aT ⟨.inr rfl,rfl⟩
theorem S5 (W:World) (t:Tm) (h1 : -9223372036854775808≤t.f) (h2:t.f<0):AFun Tryz.prog W 87 [t.cw] (.val (.i (-1-t.f))):=by
 refine b6 (rs:=[.i (-1-t.f)]) Tryz.func87 Tryz.ntmps87 rfl rfl rfl rfl ?_
 intro w U hW
 refine aS (aR ?_)
 refine nc zd (nc ze ?_)
 refine aS (aR ?_)
 refine nc zg (nc zh (nc zj (nc ze ?_)))
 exact aT ⟨.inr rfl,rfl⟩
theorem Y0 (W:World) (v:Int) (h1:0≤v) (h2:v≤9223372036854775807):AFun Tryz.prog W 61 [.i v] (.val (p5 v).cw):=by
 refine b6 (rs:=[(p5 v).cw]) Tryz.func61 Tryz.ntmps61 rfl rfl rfl rfl ?_
 intro w U hW
 refine aS (aR ?_)
 refine nc zk ?_
 refine aS (aR ?_)
 refine nc zl (nc zj (nc zn (nc zo ?_)))
 exact aT ⟨.inr rfl,rfl⟩
theorem b3Q (W:World) (l:List Bd) (v:Int) (hl:l.length≤90000000000):AFun Tryz.prog W 137 [.lst (l.map Bd.cv),.i v] (.tup [((b0 l v).getD ⟨0,[]⟩).cw,.b (b0 l v).isSome]):=by
 have hsz:=Bd.size_all l
 refine b6 (rs:=[((b0 l v).getD ⟨0,[]⟩).cw,.b (b0 l v).isSome]) Tryz.func137 Tryz.ntmps137 rfl rfl rfl rfl ?_
 intro w U hW
 refine aS (aR ?_)
 refine nc zk (nc ze ?_)
 refine aS (aS (aR ?_))
 refine nc zl (nc zp (nc zl ?_))
 refine aB (y0 l.length (fun k=>∀ i c,i<k→l[i]?=some c→c.v≠v) (fun k=>[(1,.val (.i v)),(4,.bp 4 0 []),(100004,⟨5,.row [.i 0,.lst []],1,0,[1]⟩),(8,.val (.lst (l.map Bd.cv))),(9,.val (.i (l.map Bd.cv).length)),(10,.val (.i k))]) (a7 ⟨rfl,rfl,rfl,rfl,rfl,rfl,trivial⟩) (by omega) ?_)
 intro k hk hI
 refine aS (aR ?_)
 refine nc zi ?_
 refine aS (aC rfl (fun hc=>?_) (fun hc=>?_))
 ·simp only [List.length_map,decide_eq_true_eq] at hc
  have hkl:k<l.length:=by omega
  obtain ⟨b,hb⟩:∃ t,l[k]?=some t:=⟨l[k],List.getElem?_eq_getElem hkl⟩
  have hb':=Bd.map_at hb
  refine aK ?_
  refine aS (aB (aS (aR ?_)))
  refine nc (zq (H:=by assumption) (hz:=by first | assumption | exact sZ rfl | exact Tm.size_all _ | exact Bd.size_all _ | exact i7 _ | exact bys_size _ | exact Lt.size_all _)) (nc zr (nc zk (nc zo ?_)))
  refine aS (aR ?_)
  refine nc zg (nc zh (nc zl (nc zt ?_)))
  refine aC rfl (fun hc2=>?_) (fun hc2=>?_)
  ·simp only [decide_eq_true_eq] at hc2
   have hf:=b3v hb hc2 hI
   rw [hf]
   refine aS (aR ?_)
   refine nc zg (nc zh (nc zo (nc ze ?_)))
   exact aT (And.intro (.inr rfl) rfl)
  ·simp only [decide_eq_false_iff_not] at hc2
   refine aK ?_
   refine aR ?_
   refine nc zu (nc zl ?_)
   refine ⟨hkl,fun i c hi hcc=>?_,a7 ⟨rfl,rfl,rfl,rfl,rfl,rfl,trivial⟩⟩
   rcases Nat.lt_or_ge i k with h | h
   ·exact hI i c h hcc
   ·obtain rfl:i=k:=by omega
    rw [hb] at hcc
    cases hcc
    exact hc2
 ·simp only [List.length_map,decide_eq_false_iff_not] at hc
  have hkl:k=l.length:=by omega
  have hf:b0 l v=none:=A6 fun b hb=>by
   obtain ⟨i,hi,he⟩:=List.mem_iff_getElem.1 hb
   exact hI i b (by omega) (by rw [List.getElem?_eq_getElem hi,he])
  rw [hf]
  refine aE ?_
  refine aS (aR ?_)
  refine nc zn (nc zo (nc ze ?_))
  exact aT (And.intro (.inr rfl) rfl)
theorem b1z (W:World) (l:List Bd) (v:Int) (hl:l.length≤90000000000) (h1:0≤v) (h2:v≤9223372036854775807):AFun Tryz.prog W 110 [.lst (l.map Bd.cv),.i v] (.val (b5 l v).cw):=by
 refine b6 (rs:=[(b5 l v).cw]) Tryz.func110 Tryz.ntmps110 rfl rfl rfl rfl ?_
 intro w U hW
 refine aS (aR ?_)
 refine nc zk ?_
 refine aS (aS (aR ?_))
 refine nc zl (nc zl (nc (zw (z:=b3Q w l v hl)) (nc zl (nc zx (nc zx (nc zk (nc zo (nc ze ?_))))))))
 refine aS (aR ?_)
 refine nc zl ?_
 unfold b5
 refine aC rfl (fun hc=>?_) (fun hc=>?_)
 ·obtain ⟨t,ht⟩:=Option.isSome_iff_exists.1 hc
  rw [ht]
  refine aS (aR ?_)
  refine nc zy (nc zo ?_)
  exact aT (And.intro (.inr rfl) rfl)
 ·have ht:b0 l v=none:=by simpa using hc
  rw [ht]
  refine aK ?_
  refine aS (aR ?_)
  refine nc zl (nc (zw (z:=Y0 w v h1 h2)) (nc zo ?_))
  exact aT (And.intro (.inr rfl) rfl)
theorem a8Y (W:World) (l:List Bd) (hl:l.length≤64):AFun Tryz.prog W 75 [.lst (l.map Bd.cv)] (.val (.fn 110 1 [.lst (l.map Bd.cv)])):=by
 refine b6 (rs:=[.fn 110 1 [.lst (l.map Bd.cv)]]) Tryz.func75 Tryz.ntmps75 rfl rfl rfl rfl ?_
 intro w U hW
 refine aS (aR ?_)
 refine nc ze ?_
 refine aS (aS (aR ?_))
 refine nc zl (nc zp (nc zA ?_))
 refine aC rfl (fun hc=>?_) (fun hc=>?_)
 ·refine aS (aR ?_)
  refine nc zl (nc zB (nc ze ?_))
  exact aT (And.intro (.inr rfl) rfl)
 ·simp only [List.length_map,decide_eq_false_iff_not] at hc
  omega
theorem a6P (W:World) (fc:CV) (img:Int→Tm) (hI:∀ v,0≤v→v≤9223372036854775807→AFunV Tryz.prog W fc [.i v] (.val (img v).cw)∧(img v).rng∧(img v).size≤90000000000):∀ t:Tm,t.rng→t.ok→AFun Tryz.prog W 59 [t.cw,fc] (.val (a9 img t).cw):=by
 intro t
 induction t using Tm.ind with
 | h f l ih =>
 intro hr hok
 have hok:=(Tm.ok_iff _).1 hok
 have hr:=(Tm.rng_iff _).1 hr
 simp only at hok hr
 have hsz:=Tm.size_all l
 refine b6 (rs:=[(a9 img ⟨f,l⟩).cw]) Tryz.func59 Tryz.ntmps59 rfl rfl rfl rfl ?_
 intro w U hW
 refine aS (aR ?_)
 refine nc zd (nc zk ?_)
 refine aS (aS (aR ?_))
 refine nc zy ?_
 refine nc (zw (z:=Q7 w ⟨f,l⟩)) ?_
 refine aC rfl (fun hc=>?_) (fun hc=>?_)
 ·have hf:f<0:=by simpa using hc
  rw [i8 hf]
  obtain ⟨i1,i2,i3⟩:=hI (-1-f) (by omega) (by omega)
  refine aS (aR ?_)
  refine nc zl (nc zy ?_)
  refine nc (zw (z:=S5 w ⟨f,l⟩ hr.1.1 hf)) ?_
  refine nc (zC (E:=i1.up hW)) (nc (zw (z:=a1y w i2 i3)) (nc zo ?_))
  exact aT (And.intro (.inr rfl) rfl)
 ·have hf:¬ f<0:=by simpa using hc
  rw [d8 hf]
  refine aK ?_
  refine aS (aR ?_)
  refine nc ze ?_
  refine aS (aS (aR ?_))
  refine nc zg (nc zh (nc zp (nc zl ?_)))
  refine aB (o5 l.length (fun k=>[(1,.val fc),(2,.bp 2 0 []),(100002,.bx (Tm.cw ⟨f,l⟩)),(4,.bp 4 0 []),(100004,⟨5,.row [.i 0,.lst []],1,0,[1]⟩),(5,.own (.lst ((l.take k).map fun t=>(a9 img t).cv)) 200027),(200027,.tok 42 2),(16,.val (.lst (l.map Tm.cv))),(17,.val (.i (l.map Tm.cv).length)),(18,.val (.i k))])
   ((O6 5 200027 42 2 rfl rfl rfl rfl rfl rfl rfl).trans (a7 ⟨rfl,rfl,rfl,rfl,rfl,rfl,rfl,rfl,rfl,rfl,trivial⟩)) ?_)
  intro k hk
  refine aS (aR ?_)
  refine nc zi ?_
  refine aS (aC rfl (fun hc=>?_) (fun hc=>?_))
  ·have hkl:k<l.length:=by
    simp only [List.length_map,decide_eq_true_eq] at hc
    omega
   obtain ⟨t,ht⟩:∃ t,l[k]?=some t:=⟨l[k],List.getElem?_eq_getElem hkl⟩
   have ht':=Tm.map_at ht
   have htm:=List.mem_of_getElem? ht
   have hsz2:∀ c∈(l.take k).map fun t=>(a9 img t).cv,c.size=2:=by
    intro c hc
    obtain ⟨t,_,rfl⟩:=List.mem_map.1 hc
    exact Tm.size_cv _
   refine aK ?_
   refine aS (aB (aS (aR ?_)))
   refine nc (zq (H:=by assumption) (hz:=by first | assumption | exact sZ rfl | exact Tm.size_all _ | exact Bd.size_all _ | exact i7 _ | exact bys_size _ | exact Lt.size_all _)) (nc zr (nc zk (nc zo ?_)))
   refine aR ?_
   refine nc zl (nc zy (nc zl (nc (zw (z:=(ih t htm (hr.2 t htm) (hok.2 t htm)).up hW)) (nc zD (nc zE (nc ze ?_))))))
   refine aR ?_
   refine nc zu (nc zl ?_)
   refine ⟨hkl,Wk.trans (a7 (s':=[(1,.val fc),(2,.bp 2 0 []),(100002,.bx (Tm.cw ⟨f,l⟩)),(4,.bp 4 0 []),(100004,⟨5,.row [.i 0,.lst []],1,0,[1]⟩),(5,.own (.lst ((l.take (k+1)).map fun t=>(a9 img t).cv)) 300027),(300027,.tok 42 2),(16,.val (.lst (l.map Tm.cv))),(17,.val (.i (l.map Tm.cv).length)),(18,.val (.i ((k+1:Nat):Int)))]) ⟨rfl,rfl,rfl,rfl,rfl,?_,rfl,rfl,rfl,rfl,trivial⟩) (C3 300027 200027 rfl rfl rfl rfl)⟩
   rw [List.take_add_one,ht,List.map_append]
   simp only [Option.toList_some,List.map_cons,List.map_nil,Tm.cv_eq]
   rfl
  ·have hkl:k=l.length:=by
    simp only [List.length_map,decide_eq_false_iff_not] at hc
    omega
   subst hkl
   rw [List.take_length]
   refine aE ?_
   refine aS (aR ?_)
   refine nc zg (nc zh (nc zl (nc zn (nc zo ?_))))
   refine aT (And.intro (.inr rfl) ?_)
   unfold Tm.cw
   rw [List.map_map]
   rfl
theorem a7Z {v:Int} (h1:0≤v) (h2:v≤9223372036854775807):(p5 v).rng:=(Tm.rng_iff _).2 ⟨by show _ ≤ -1-v ∧ -1-v≤_;omega,fun s hs=>by cases hs⟩
theorem V2 (v:Int):(p5 v).size=1:=by
 rw [Tm.size_eq]
 have:(p5 v).ps=[]:=by unfold Tm.ps p5;simp
 rw [this];rfl
theorem G4:∀ {l:List Bd} {v:Int} {t:Tm},b0 l v=some t→∃ b∈l,b.t=t∧b.v=v
 | [],v,t,h=>by cases h
 | b::l,v,t,h=>by
  rw [b0] at h
  split at h
  ·rename_i e;cases h;exact ⟨b,by simp,rfl,e⟩
  ·obtain ⟨c,h1,h2⟩:=G4 h
   exact ⟨c,List.mem_cons_of_mem _ h1,h2⟩
def bdsOk (l:List Bd):Prop:=∀ b∈l,b.t.rng∧b.t.size≤90000000000
theorem a1a {l:List Bd} (h:bdsOk l) {v:Int} (h1:0≤v) (h2:v≤9223372036854775807):(b5 l v).rng∧(b5 l v).size≤90000000000:=by
 unfold b5
 cases hf:b0 l v with
 | none=>exact ⟨a7Z h1 h2,by show (p5 v).size≤_;rw [V2];omega⟩
 | some t =>
  obtain ⟨b,hb,e,_⟩:=G4 hf
  show t.rng∧t.size≤_
  rw [←e]
  exact h b hb
theorem b1u (W:World) (l:List Bd) (t:Tm) (hl:l.length≤64) (hb:bdsOk l) (hr:t.rng) (hok:t.ok):AFun Tryz.prog W 50 [.lst (l.map Bd.cv),t.cw] (.val (a9 (b5 l) t).cw):=by
 refine b6 (rs:=[(a9 (b5 l) t).cw]) Tryz.func50 Tryz.ntmps50 rfl rfl rfl rfl ?_
 intro w U hW
 refine aS (aR ?_)
 refine nc zd (nc zk ?_)
 refine aS (aD (by kernel_rfl) (by kernel_rfl) ?_)
 refine nc zy (nc zl (nc (zw (z:=a8Y w l hl)) ?_))
 refine nc (zw (z:=a6P w _ (b5 l) (fun v h1 h2=>⟨⟨_,_,_,rfl,b1z w l v (by omega) h1 h2⟩,a1a hb h1 h2⟩) t hr hok)) ?_
 refine nc zo ?_
 refine ⟨by kernel_rfl,?_⟩
 exact aT (And.intro (.inr rfl) rfl)
def upV (by_ v:Int):Int:=v+min by_ (9223372036854775807-v)
end Go.Proofs.YtglmoficcjphaaaGreat
namespace Go.Proofs.YtglmoficcjphaaaGreat
set_option linter.unusedVariables false
set_option linter.unusedSimpArgs false
def vsL (l:List Tm):List Int:=(l.filter fun s=>decide (s.f<0)).map fun s => -1-s.f
def Tm.vs (t:Tm):List Int:=vsL t.flat
theorem a2A (l m:List Tm):vsL (l++m)=vsL l++vsL m:=by simp [vsL]
theorem S9 (l:List Tm):vsL (l.flatMap Tm.flat)=l.flatMap Tm.vs:=by
 induction l with
 | nil=>rfl
 | cons t l ih=>rw [List.flatMap_cons,a2A,ih,List.flatMap_cons];rfl
theorem Tm.vs_var {t:Tm} (h:t.f<0):t.vs=[-1-t.f]:=by
 unfold Tm.vs
 rw [Tm.flat_eq,Tm.ps_of_var h]
 simp [vsL,h]
theorem Tm.vs_sym {t:Tm} (h:¬ t.f<0):t.vs=t.l.flatMap Tm.vs:=by
 unfold Tm.vs
 rw [Tm.flat_eq,Tm.ps_of_sym (by omega),show t::t.l.flatMap Tm.flat=[t]++t.l.flatMap Tm.flat from rfl,a2A,S9]
 simp [vsL,h]
 rfl
theorem Tm.strip_vs (t:Tm):t.strip.vs=t.vs:=by
 induction t using Tm.indp with
 | h t ih =>
  by_cases h:t.f<0
  ·rw [Tm.vs_var h,Tm.vs_var (by rw [Tm.strip_f];exact h),Tm.strip_f]
  ·rw [Tm.vs_sym h,Tm.vs_sym (by rw [Tm.strip_f];exact h),Tm.strip_l]
   rw [Tm.ps_of_sym (by omega)] at ih ⊢
   rw [List.flatMap_def,List.flatMap_def,List.map_map]
   congr 1
   exact List.map_congr_left fun s hs=>ih s hs
theorem a6m (img:Int→Tm) (t:Tm):(a9 img t).vs=t.vs.flatMap fun v=>(img v).vs:=by
 induction t using Tm.indp with
 | h t ih =>
  by_cases h:t.f<0
  ·rw [i8 h,Tm.vs_var h,Tm.strip_vs];simp
  ·rw [d8 h,Tm.vs_sym h,Tm.vs_sym (t:=⟨t.f,_⟩) h]
   rw [Tm.ps_of_sym (by omega)] at ih
   simp only
   rw [List.flatMap_assoc,List.flatMap_def,List.map_map,List.flatMap_def]
   congr 1
   exact List.map_congr_left fun s hs=>ih s hs
theorem Tm.size_sym {t:Tm} (h:¬ t.f<0):t.size=1+(t.l.map Tm.size).sum:=by
 rw [Tm.size_eq,Tm.ps_of_sym (by omega),List.length_flatMap]
 rfl
theorem Tm.size_var {t:Tm} (h:t.f<0):t.size=1:=by
 rw [Tm.size_eq,Tm.ps_of_var h];rfl
theorem a4p {l:List Tm} {f g:Tm→Int} (h:∀ s∈l,f s=g s):(l.map f).sum=(l.map g).sum:=by
 rw [List.map_congr_left h]
theorem a2a (l:List Tm) (g:Int→Int):((l.flatMap Tm.vs).map g).sum=(l.map fun s=>(s.vs.map g).sum).sum:=by
 induction l with
 | nil=>rfl
 | cons t l ih=>rw [List.flatMap_cons,List.map_append,List.sum_append_int,ih,List.map_cons,List.sum_cons]
theorem a7R (l:List Nat):((l.sum:Nat):Int)=(l.map fun n:Nat=>(n:Int)).sum:=by
 induction l with
 | nil=>rfl
 | cons n l ih=>rw [List.sum_cons,List.map_cons,List.sum_cons,←ih];omega
theorem b7z (l:List Tm) (f g:Tm→Int):(l.map fun s=>f s+g s).sum=(l.map f).sum+(l.map g).sum:=by
 induction l with
 | nil=>rfl
 | cons t l ih=>simp only [List.map_cons,List.sum_cons,ih];omega
theorem a5e (img:Int→Tm) (t:Tm):((a9 img t).size:Int)=t.size+(t.vs.map fun v=>((img v).size:Int)-1).sum:=by
 induction t using Tm.indp with
 | h t ih =>
  by_cases h:t.f<0
  ·rw [i8 h,Tm.vs_var h,Tm.strip_size,Tm.size_var h];simp;omega
  ·rw [d8 h,Tm.vs_sym h,Tm.size_sym h,Tm.size_sym (t:=⟨t.f,_⟩) h,a2a]
   rw [Tm.ps_of_sym (by omega)] at ih
   simp only
   rw [Int.natCast_add,Int.natCast_add,a7R,a7R,List.map_map,List.map_map,List.map_map,Int.add_assoc,←b7z]
   congr 1
   exact a4p fun s hs=>ih s hs
def c2D (acc:List Int) (v:Int):List Int:=if v∈acc then acc else acc++[v]
def nub (l:List Int):List Int:=l.foldl c2D []
theorem b4Z (l:List Int) (v:Int):nub (l++[v])=if v∈nub l then nub l else nub l++[v]:=by
 unfold nub
 rw [List.foldl_append]
 rfl
theorem b3Z {α:Type} {Q:List α→Prop} (h0:Q []) (h1:∀ l x,Q l→Q (l++[x])):∀ l,Q l:=by
 intro l
 have:∀ n (l:List α),l.length=n→Q l:=by
  intro n
  induction n with
  | zero=>intro l hl;rw [List.eq_nil_of_length_eq_zero hl];exact h0
  | succ n ih =>
   intro l hl
   have hne:l≠[]:=fun e=>by rw [e] at hl;simp at hl
   rw [←List.dropLast_concat_getLast hne]
   exact h1 _ _ (ih _ (by simp [hl]))
 exact this _ l rfl
theorem r6 (t:Tm):∀ v∈t.vs,0≤v:=by
 intro v hv
 obtain ⟨s,hs,rfl⟩:=List.mem_map.1 hv
 have:=(List.mem_filter.1 hs).2
 simp at this
 omega
end Go.Proofs.YtglmoficcjphaaaGreat
namespace Go.Proofs.YtglmoficcjphaaaGreat
open Go.RowKit
set_option linter.unusedVariables false
set_option linter.unusedSimpArgs false
def Tm.sm:Tm→Prop
 | ⟨f,l⟩=>(-1000≤f∧f≤1000)∧∀ t∈l,Tm.sm t
theorem Tm.sm_iff (t:Tm):t.sm↔(-1000≤t.f∧t.f≤1000)∧∀ s∈t.l,s.sm:=by cases t;rw [Tm.sm]
theorem b4m (t:Tm):∀ most deep,0≤n5 t most deep→t.sm:=by
 induction t using Tm.ind with
 | h f l ih =>
  intro most deep h
  rw [a1k] at h
  split at h
  ·omega
  ·rename_i hc
   refine (Tm.sm_iff _).2 ⟨⟨by show -1000≤f;omega,by show f≤1000;omega⟩,?_⟩
   have:∀ (l:List Tm) (m d:Int),(∀ t∈l,∀ most deep,0≤n5 t most deep→t.sm)→0≤F7 l m d→∀ t∈l,t.sm:=by
    intro l
    induction l with
    | nil=>intro m d _ _ t ht;cases ht
    | cons y ys ih2 =>
     intro m d hl h t ht
     rw [L8] at h
     split at h
     ·omega
     ·have hy:0≤n5 y m d:=by
       rcases Int.lt_or_le (n5 y m d) 0 with h1 | h1
       ·rw [a2F ys d h1] at h;omega
       ·exact h1
      rcases List.mem_cons.1 ht with rfl | ht
      ·exact hl t (by simp) m d hy
      ·exact ih2 (n5 y m d) d (fun s hs=>hl s (List.mem_cons_of_mem _ hs)) h t ht
   exact this l _ _ ih h
theorem Tm.sm_rng {t:Tm} (h:t.sm):t.rng:=by
 induction t using Tm.ind with
 | h f l ih =>
  obtain ⟨h1,h2⟩:=(Tm.sm_iff _).1 h
  exact (Tm.rng_iff _).2 ⟨by simp only at h1 ⊢;omega,fun s hs=>ih s hs (h2 s hs)⟩
theorem Tm.wt_ok {t:Tm} (h:t.wt≤1000000):t.ok:=by
 induction t using Tm.ind with
 | h f l ih =>
  rw [Tm.wt_eq] at h
  simp only at h
  have:=Tm.wts_len l
  exact (Tm.ok_iff _).2 ⟨by simp only;omega,fun s hs=>ih s hs (by have:s.wt≤Tm.wts l:=Tm.wts_mem hs;omega)⟩
theorem Tm.strip_rng {t:Tm} (h:t.rng):t.strip.rng:=by
 induction t using Tm.indp with
 | h t ih =>
  obtain ⟨h1,h2⟩:=(Tm.rng_iff _).1 h
  refine (Tm.rng_iff _).2 ⟨by rw [Tm.strip_f];exact h1,fun s hs=>?_⟩
  rw [Tm.strip_l] at hs
  obtain ⟨u,hu,rfl⟩:=List.mem_map.1 hs
  exact ih u hu (h2 u (Tm.ps_mem hu).1)
theorem Tm.strip_ok {t:Tm} (h:t.ok):t.strip.ok:=by
 induction t using Tm.indp with
 | h t ih =>
  obtain ⟨h1,h2⟩:=(Tm.ok_iff _).1 h
  refine (Tm.ok_iff _).2 ⟨?_,fun s hs=>?_⟩
  ·rw [Tm.strip_l,List.length_map]
   unfold Tm.ps
   split
   ·simp
   ·exact h1
  ·rw [Tm.strip_l] at hs
   obtain ⟨u,hu,rfl⟩:=List.mem_map.1 hs
   exact ih u hu (h2 u (Tm.ps_mem hu).1)
theorem a7z {f:Int} (h1 : -9223372036854775808≤f) (h2:f≤9223372036854775807):(Tm.mk f []).rng:=(Tm.rng_iff _).2 ⟨⟨h1,h2⟩,fun s hs=>by cases hs⟩
theorem b7V (f:Int):(Tm.mk f []).ok:=(Tm.ok_iff _).2 ⟨by show 0≤_;omega,fun s hs=>by cases hs⟩
end Go.Proofs.YtglmoficcjphaaaGreat
namespace Go.Proofs.YtglmoficcjphaaaGreat
open Go.RowKit
set_option linter.unusedVariables false
set_option linter.unusedSimpArgs false
set_option maxRecDepth 100000
theorem a3E {img:Int→Tm} {t:Tm} (h:t.rng) (hi:∀ v,0≤v→v≤9223372036854775807→(img v).rng):(a9 img t).rng:=by
 induction t using Tm.ind with
 | h f l ih =>
  obtain ⟨h1,h2⟩:=(Tm.rng_iff _).1 h
  simp only at h1 h2
  by_cases hf:f<0
  ·rw [i8 hf];exact Tm.strip_rng (hi _ (by simp only;omega) (by simp only;omega))
  ·rw [d8 hf]
   refine (Tm.rng_iff _).2 ⟨h1,fun s hs=>?_⟩
   obtain ⟨u,hu,rfl⟩:=List.mem_map.1 hs
   exact ih u hu (h2 u hu)
theorem a6n {img:Int→Tm} {t:Tm} (h:t.ok) (hi:∀ v,(img v).ok):(a9 img t).ok:=by
 induction t using Tm.ind with
 | h f l ih =>
  obtain ⟨h1,h2⟩:=(Tm.ok_iff _).1 h
  simp only at h1 h2
  by_cases hf:f<0
  ·rw [i8 hf];exact Tm.strip_ok (hi _)
  ·rw [d8 hf]
   refine (Tm.ok_iff _).2 ⟨by simpa using h1,fun s hs=>?_⟩
   obtain ⟨u,hu,rfl⟩:=List.mem_map.1 hs
   exact ih u hu (h2 u hu)
theorem b0I (v:Int):(p5 v).ok:=(Tm.ok_iff _).2 ⟨by show 0≤_;omega,fun s hs=>by cases hs⟩
theorem a7p {l:List Bd} (h:∀ b∈l,b.t.ok) (v:Int):(b5 l v).ok:=by
 unfold b5
 cases hf:b0 l v with
 | none=>exact b0I v
 | some t =>
  obtain ⟨b,hb,e,_⟩:=G4 hf
  show t.ok
  rw [←e]
  exact h b hb
end Go.Proofs.YtglmoficcjphaaaGreat
namespace Go.Proofs.YtglmoficcjphaaaGreat
set_option linter.unusedVariables false
set_option linter.unusedSimpArgs false
theorem q8 (x y:Int):(y7 x y = -1∧x<y)∨(y7 x y=0∧x=y)∨(y7 x y=1∧y<x):=by
 unfold y7
 split
 ·exact .inl ⟨rfl,by assumption⟩
 ·split
  ·exact .inr (.inr ⟨rfl,by assumption⟩)
  ·exact .inr (.inl ⟨rfl,by omega⟩)
def rank (x:Int):Int×Int:=if x<0 then (0,-1-x) else (1,x)
theorem G2 (x y:Int):(a5f x y = -1∧((x<0∧y<0∧y<x)∨(¬ (x<0∧y<0)∧x<y)))∨(a5f x y=0∧x=y)∨(a5f x y=1∧((x<0∧y<0∧x<y)∨(¬ (x<0∧y<0)∧y<x))):=by
 unfold a5f
 split
 ·have:=q8 (-1-x) (-1-y)
  omega
 ·have:=q8 x y
  omega
structure c2N (c:Int):Prop where
 three:c = -1∨c=0∨c=1
theorem I3 (a:Tm):∀ b,v9 a b=0↔a.strip=b.strip:=by
 induction a using Tm.indp with
 | h a ih =>
  intro b
  rw [J7,Tm.strip_eq a,Tm.strip_eq b]
  have hL:∀ (l m:List Tm),(∀ s∈l,∀ b,v9 s b=0↔s.strip=b.strip)→(I9 l m=0↔l.map Tm.strip=m.map Tm.strip):=by
   intro l
   induction l with
   | nil=>intro m _;cases m<;>simp [H4,Y5,X8]
   | cons y ys ih2 =>
    intro m hl
    cases m with
    | nil=>simp [H4,Y5,X8]
    | cons z zs =>
     rw [B4,List.map_cons,List.map_cons,List.cons.injEq,←hl y (by simp) z,←ih2 zs (fun s hs=>hl s (List.mem_cons_of_mem _ hs))]
     by_cases h:v9 y z=0<;>simp [h]
  rw [Tm.mk.injEq]
  by_cases h1:a.f=b.f
  ·rw [if_neg (by simp [h1])]
   by_cases h2:a.ps.length=b.ps.length
   ·rw [if_neg (by simp [h2]),hL _ _ ih]
    simp [h1]
   ·rw [if_pos h2]
    constructor
    ·intro h3
     have:=q8 a.ps.length b.ps.length
     omega
    ·rintro ⟨_,h3⟩
     exact absurd (by simpa using congrArg List.length h3) h2
  ·rw [if_pos h1]
   constructor
   ·intro h3
    have:=G2 a.f b.f
    omega
   ·rintro ⟨h3,_⟩
    exact absurd h3 h1
theorem a5m (a:Tm):∀ b,v9 b a = - v9 a b:=by
 induction a using Tm.indp with
 | h a ih =>
  intro b
  rw [J7 b a,J7 a b]
  have hL:∀ (l m:List Tm),(∀ s∈l,∀ b,v9 b s = - v9 s b)→I9 m l = - I9 l m:=by
   intro l
   induction l with
   | nil=>intro m _;cases m<;>simp [H4,Y5,X8]
   | cons y ys ih2 =>
    intro m hl
    cases m with
    | nil=>simp [H4,Y5,X8]
    | cons z zs =>
     rw [B4,B4,hl y (by simp) z,ih2 zs (fun s hs=>hl s (List.mem_cons_of_mem _ hs))]
     by_cases h:v9 y z=0<;>simp [h]
  by_cases h1:a.f=b.f
  ·by_cases h2:a.ps.length=b.ps.length
   ·simp only [h1,h2,ne_eq,not_true_eq_false,if_false]
    exact hL _ _ ih
   ·have h2':¬ b.ps.length=a.ps.length:=fun e=>h2 e.symm
    simp only [h1,h2,h2',ne_eq,not_true_eq_false,not_false_eq_true,if_false,if_true]
    have:=q8 a.ps.length b.ps.length
    have:=q8 b.ps.length a.ps.length
    omega
  ·have h1':¬ b.f=a.f:=fun e=>h1 e.symm
   simp only [h1,h1',ne_eq,not_false_eq_true,if_true]
   have:=G2 a.f b.f
   have:=G2 b.f a.f
   omega
theorem a1J (a:Tm):∀ b,v9 a.strip b=v9 a b:=by
 induction a using Tm.indp with
 | h a ih =>
  intro b
  rw [J7 a.strip b,J7 a b,Tm.strip_f,Tm.strip_ps,List.length_map]
  have hL:∀ (l m:List Tm),(∀ s∈l,∀ b,v9 s.strip b=v9 s b)→I9 (l.map Tm.strip) m=I9 l m:=by
   intro l
   induction l with
   | nil=>intro m _;rfl
   | cons y ys ih2 =>
    intro m hl
    cases m with
    | nil=>simp [H4,Y5,X8]
    | cons z zs=>rw [List.map_cons,B4,B4,hl y (by simp) z,ih2 zs (fun s hs=>hl s (List.mem_cons_of_mem _ hs))]
  rw [hL _ _ ih]
theorem a3n {a a':Tm} (h:a.strip=a'.strip) (b:Tm):v9 a b=v9 a' b:=by rw [←a1J a,←a1J a',h]
def a2P (p q r:Int):Prop:=p≤0→q≤0→r≤0∧(r=0→p=0∧q=0)
theorem a1n {p1 q1 r1 p2 q2 r2:Int} (g1:a2P p1 q1 r1) (g2:a2P p2 q2 r2) (g3:p1=0→r1=q1):a2P (if p1≠0 then p1 else p2) (if q1≠0 then q1 else q2) (if r1≠0 then r1 else r2):=by
 unfold a2P at *
 intro hp hq
 split at hp<;>split at hq<;>split<;>first | omega | (simp_all;done) | (simp_all;omega)
theorem a0p {a b:Tm} (h:a.f≠b.f):v9 a b=a5f a.f b.f:=by rw [J7,if_pos h]
theorem a0r {a b:Tm} (h:a.f=b.f) (h2:a.ps.length≠b.ps.length):v9 a b=y7 a.ps.length b.ps.length:=by rw [J7,if_neg (by simp [h]),if_pos h2]
theorem a4d {a b:Tm} (h:a.f=b.f) (h2:a.ps.length=b.ps.length):v9 a b=I9 a.ps b.ps:=by rw [J7,if_neg (by simp [h]),if_neg (by simp [h2])]
theorem a2y (a:Tm):∀ b c,a2P (v9 a b) (v9 b c) (v9 a c):=by
 induction a using Tm.indp with
 | h a ih =>
  intro b c hp hq
  have hL:∀ (l m n:List Tm),l.length=m.length→m.length=n.length→(∀ s∈l,∀ b c,a2P (v9 s b) (v9 b c) (v9 s c))→a2P (I9 l m) (I9 m n) (I9 l n):=by
   intro l
   induction l with
   | nil =>
    intro m n h1 h2 _
    have:m=[]:=List.eq_nil_of_length_eq_zero (by simpa using h1.symm)
    subst this
    have:n=[]:=List.eq_nil_of_length_eq_zero (by simpa using h2.symm)
    subst this
    simp [H4,a2P]
   | cons y ys ih2 =>
    intro m n h1 h2 hl
    cases m with
    | nil=>simp at h1
    | cons z zs =>
     cases n with
     | nil=>simp at h2
     | cons u us =>
      have g1:=hl y (by simp) z u
      have g2:=ih2 zs us (by simpa using h1) (by simpa using h2) (fun s hs=>hl s (List.mem_cons_of_mem _ hs))
      have g3:v9 y z=0→v9 y u=v9 z u:=fun e=>a3n ((I3 _ _).1 e) u
      rw [B4,B4,B4]
      exact a1n g1 g2 g3
  have hab:=G2 a.f b.f
  have hbc:=G2 b.f c.f
  have hac:=G2 a.f c.f
  have zab:=q8 a.ps.length b.ps.length
  have zbc:=q8 b.ps.length c.ps.length
  have zac:=q8 a.ps.length c.ps.length
  by_cases f1:a.f=b.f<;>by_cases f2:b.f=c.f
  ·have f3:a.f=c.f:=f1.trans f2
   by_cases l1:a.ps.length=b.ps.length<;>by_cases l2:b.ps.length=c.ps.length
   ·rw [a4d f1 l1] at hp ⊢
    rw [a4d f2 l2] at hq ⊢
    rw [a4d f3 (l1.trans l2)]
    exact hL _ _ _ l1 l2 ih hp hq
   ·rw [a4d f1 l1] at hp ⊢
    rw [a0r f2 l2] at hq ⊢
    rw [a0r f3 (by omega)]
    clear hL ih
    omega
   ·rw [a0r f1 l1] at hp ⊢
    rw [a4d f2 l2] at hq ⊢
    rw [a0r f3 (by omega)]
    clear hL ih
    omega
   ·rw [a0r f1 l1] at hp ⊢
    rw [a0r f2 l2] at hq ⊢
    by_cases l3:a.ps.length=c.ps.length
    ·omega
    ·rw [a0r f3 l3]
     clear hL ih
     omega
  ·have f3:a.f≠c.f:=by omega
   rw [a0p f2] at hq ⊢
   rw [a0p f3]
   clear hL ih
   omega
  ·have f3:a.f≠c.f:=by omega
   rw [a0p f1] at hp ⊢
   rw [a0p f3]
   clear hL ih
   omega
  ·rw [a0p f1] at hp ⊢
   rw [a0p f2] at hq ⊢
   by_cases f3:a.f=c.f
   ·omega
   ·rw [a0p f3]
    clear hL ih
    omega
theorem N3 (a b:Tm):B0 a b=true↔a.strip=b.strip:=by
 unfold B0
 rw [beq_iff_eq]
 exact I3 a b
end Go.Proofs.YtglmoficcjphaaaGreat
namespace Go.Proofs.YtglmoficcjphaaaGreat
open Go.RowKit
set_option linter.unusedVariables false
set_option linter.unusedSimpArgs false
set_option maxRecDepth 100000
set_option maxHeartbeats 1000000 in
theorem b5x (W:World):∀ (t:Tm),t.ok→AFun Tryz.prog W 25 [t.cw] (.val t.cw):=by
 intro t
 induction t using Tm.ind with
 | h f l ih =>
 intro hok
 obtain ⟨hl,hok⟩:=(Tm.ok_iff _).1 hok
 simp only at hl hok
 refine b6 (rs:=[Tm.cw ⟨f,l⟩]) Tryz.func25 Tryz.ntmps25 rfl rfl rfl rfl ?_
 intro w U hW
 refine aS (aR ?_)
 refine nc zd (nc zk ?_)
 refine aS (aR ?_)
 refine nc zg (nc zh (nc zn (nc zk (nc zo ?_))))
 refine aS (aS (aR ?_))
 refine nc ze ?_
 refine aB (o5 l.length (fun k=>[(1,.bp 1 0 []),(100001,.bx (Tm.cw ⟨f,l⟩)),(2,.bp 2 0 []),(100002,⟨5,.row [.i 0,.lst []],1,0,[1]⟩),(3,.bp 3 0 []),(100003,⟨5,.row [.i f,.lst ((l.take k).map Tm.cv)],200024,0,[1]⟩),(200024,.tok 42 2),(4,.val (.i k))])
  ((O6 100003 200024 42 2 rfl rfl rfl rfl rfl rfl rfl).trans (a7 ⟨rfl,rfl,rfl,rfl,rfl,rfl,rfl,rfl,trivial⟩)) ?_)
 intro k hk
 refine aS (aS (aR ?_))
 refine nc zl (nc zg (nc zh (nc zp (nc zi ?_))))
 refine aC rfl (fun hc=>?_) (fun hc=>?_)
 ·simp only [List.length_map,decide_eq_true_eq] at hc
  have hkl:k<l.length:=by omega
  obtain ⟨t,ht⟩:∃ t,l[k]?=some t:=⟨l[k],List.getElem?_eq_getElem hkl⟩
  refine aK ?_
  refine aS (aB (aD (by kernel_rfl) (by kernel_rfl) ?_))
  refine nc zg (nc zF (nc zg (nc zh (nc zl (nc (zq (j:=_) (H:=Tm.map_at ht) (hz:=Tm.size_all l)) (nc zr (nc (zw (z:=(ih t (List.mem_of_getElem? ht) (hok t (List.mem_of_getElem? ht))).up hW)) (nc zD (nc zE (nc zg (nc zG ?_)))))))))))
  refine ⟨by kernel_rfl,?_⟩
  refine aR ?_
  refine nc zl (nc zu (nc ze ?_))
  refine ⟨hkl,Wk.trans (a7 (s':=[(1,.bp 1 0 []),(100001,.bx (Tm.cw ⟨f,l⟩)),(2,.bp 2 0 []),(100002,⟨5,.row [.i 0,.lst []],1,0,[1]⟩),(3,.bp 3 0 []),(100003,⟨5,.row [.i f,.lst ((l.take (k+1)).map Tm.cv)],300024,0,[1]⟩),(300024,.tok 42 2),(4,.val (.i ((k+1:Nat):Int)))]) ⟨rfl,rfl,rfl,rfl,rfl,?_,rfl,rfl,trivial⟩) (C3 300024 200024 rfl rfl rfl rfl)⟩
  rw [List.take_add_one,ht,List.map_append]
  simp only [Option.toList_some,List.map_cons,List.map_nil,Tm.cv_eq]
  rfl
 ·refine aE ?_
  have hkl:k=l.length:=by
   simp only [List.length_map,decide_eq_false_iff_not] at hc
   omega
  subst hkl
  rw [List.take_length]
  refine aS (aR ?_)
  refine nc zy (nc zo ?_)
  exact aT ⟨.inr rfl,rfl⟩
def b8W (b:Bd):Bool:=decide (0≤b.v)&&(decide (b.v≤1000)&&decide (0≤n5 b.t 20 10))
def c1P (l:List Bd):Bool:=l.all b8W&&decide (l.length≤8)
def l7 (l:List Bd):Tm→Tm
 | ⟨f,ts⟩=>if f<0 then b5 l (-1-f) else ⟨f,ts.map (l7 l)⟩
theorem a3Q {l:List Bd} {t:Tm} (h:t.f<0):l7 l t=b5 l (-1-t.f):=by cases t;rw [l7,if_pos h]
theorem a3N {l:List Bd} {t:Tm} (h:¬ t.f<0):l7 l t=⟨t.f,t.l.map (l7 l)⟩:=by cases t;rw [l7,if_neg h]
theorem a6e {l:List Bd} {t:Tm} (h:t.ok) (hi:∀ b∈l,b.t.ok):(l7 l t).ok:=by
 induction t using Tm.ind with
 | h f ts ih =>
  obtain ⟨h1,h2⟩:=(Tm.ok_iff _).1 h
  simp only at h1 h2
  by_cases hf:f<0
  ·rw [a3Q hf];exact a7p hi _
  ·rw [a3N hf]
   refine (Tm.ok_iff _).2 ⟨by simpa using h1,fun s hs=>?_⟩
   obtain ⟨u,hu,rfl⟩:=List.mem_map.1 hs
   exact ih u hu (h2 u hu)
end Go.Proofs.YtglmoficcjphaaaGreat
namespace Go.Proofs.YtglmoficcjphaaaGreat
set_option linter.unusedVariables false
set_option linter.unusedSimpArgs false
theorem V1 {f g:Int→Tm} {t:Tm} (h:∀ v∈t.vs,f v=g v):a9 f t=a9 g t:=by
 induction t using Tm.indp with
 | h t ih =>
  by_cases hf:t.f<0
  ·rw [Tm.vs_var hf] at h
   rw [i8 hf,i8 hf,h _ (by simp)]
  ·rw [Tm.vs_sym hf] at h
   rw [Tm.ps_of_sym (by omega)] at ih
   rw [d8 hf,d8 hf]
   congr 1
   exact List.map_congr_left fun s hs=>ih s hs fun v hv=>h v (List.mem_flatMap.2 ⟨s,hs,hv⟩)
theorem y5 (v:Int):(p5 v).strip=p5 v:=by
 rw [Tm.strip_eq]
 have:(p5 v).ps=[]:=by unfold Tm.ps p5;simp
 rw [this];rfl
theorem b0h (t:Tm):a9 p5 t=t.strip:=by
 induction t using Tm.indp with
 | h t ih =>
  by_cases hf:t.f<0
  ·rw [i8 hf,y5,Tm.strip_eq,Tm.ps_of_var hf]
   unfold p5
   rw [show -1-(-1-t.f)=t.f by omega];rfl
  ·rw [Tm.ps_of_sym (by omega)] at ih
   rw [d8 hf,Tm.strip_eq,Tm.ps_of_sym (by omega)]
   congr 1
   exact List.map_congr_left fun s hs=>ih s hs
theorem a1B (img:Int→Tm) (t:Tm):a9 img t.strip=a9 img t:=by
 induction t using Tm.indp with
 | h t ih =>
  by_cases hf:t.f<0
  ·rw [i8 hf,i8 (by rw [Tm.strip_f];exact hf),Tm.strip_f]
  ·rw [Tm.ps_of_sym (by omega)] at ih
   rw [d8 hf,d8 (by rw [Tm.strip_f];exact hf),Tm.strip_f,Tm.strip_l,Tm.ps_of_sym (by omega),List.map_map]
   congr 1
   exact List.map_congr_left fun s hs=>ih s hs
theorem x0 (img:Int→Tm) (t:Tm):(a9 img t).strip=a9 img t:=by
 induction t using Tm.indp with
 | h t ih =>
  by_cases hf:t.f<0
  ·rw [i8 hf,Tm.strip_strip]
  ·rw [Tm.ps_of_sym (by omega)] at ih
   rw [d8 hf,Tm.strip_eq,Tm.ps_of_sym (t:=⟨t.f,_⟩) (by show 0≤t.f;omega)]
   simp only [List.map_map]
   congr 1
   exact List.map_congr_left fun s hs=>ih s hs
def c2z:List Int→Int→Nat
 | [],_=>0
 | x::l,v=>if x=v then 0 else c2z l v+1
def b3q (a b:List Int):List Bd:=List.zipWith (fun v u=>⟨v,p5 u⟩) a b
def a3r (n:Nat):List Int:=(List.range n).map fun i:Nat=>(i:Int)
def Tm.nv (t:Tm):List Int:=nub t.vs
def c3p (t:Tm):Tm:=a9 (b5 (b3q t.nv (a3r t.nv.length))) t
def c2v (a b:Tm):Bool:=decide (a.nv.length=b.nv.length)&&B0 (a9 (b5 (b3q a.nv b.nv)) a) b
end Go.Proofs.YtglmoficcjphaaaGreat
