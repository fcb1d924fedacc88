/-
 UnFns8 AbBack UnFns9 AbMapR AbEnds UnFns10 SmFns SmMath
-/
import Derived.Test.YtglmoficcjphaaaGreatMg6
import Derived.Test.YtglmoficcjphaaaGreatMg3
import Derived.Test.YtglmoficcjphaaaGreatMg2
import Derived.Test.YtglmoficcjphaaaGreatMg5
import Derived.Maps.RangeRun
import Derived.Test.YtglmoficcjphaaaGreatMg4
namespace Go.Proofs.YtglmoficcjphaaaGreat
open Go.RowKit
set_option linter.unusedVariables false
set_option linter.unusedSimpArgs false
set_option maxRecDepth 100000
theorem a4d:∀ (N:Nat) {l:List Nat},l.Nodup→(∀ x∈l,x<N)→l.length≤N
 | 0,l,_,h=>by
  cases l with
  | nil=>simp
  | cons a l=>exact absurd (h a (by simp)) (by omega)
 | N+1,l,hn,h=>by
  have h1:(l.filter fun x=>decide (x≠N)).length≤N:=a4d N (List.Pairwise.filter _ hn) fun x hx=>by
   obtain ⟨h2,h3⟩:=List.mem_filter.1 hx
   have:=h x h2
   have:x≠N:=by simpa using h3
   omega
  have h2:l.length≤(l.filter fun x=>decide (x≠N)).length+1:=by
   clear h h1
   induction l with
   | nil=>simp
   | cons a l ih =>
    rw [List.nodup_cons] at hn
    by_cases e:a=N
    ·subst e
     rw [List.filter_cons,if_neg (by simp),List.length_cons]
     have:l.filter (fun x=>decide (x≠a))=l:=List.filter_eq_self.2 fun x hx=>by
      simp only [ne_eq,decide_eq_true_eq]
      exact fun e=>hn.1 (e▸hx)
     rw [this]
     omega
    ·rw [List.filter_cons,if_pos (by simpa using e),List.length_cons,List.length_cons]
     have:=ih hn.2
     omega
  omega
theorem a8N:∀ (k:Nat) {c:Cl} {q} {E} {M:Nat},N1 k c=some q→Inv c E M→q.2=true→Inv q.1 E M∧q.1.ps=[]
 | 0,_,_,_,_,e,_,_=>by cases e
 | k+1,c,q,E,M,e,h,hq=>by
  rw [N1] at e
  cases hg:c.ps.getLast? with
  | none=>rw [hg] at e;cases e;exact ⟨h,List.getLast?_eq_none_iff.1 hg⟩
  | some p =>
   rw [hg] at e
   simp only at e
   cases hj:C0 k ⟨c.ns,c.vr,c.ps.dropLast⟩ p.1 p.2 with
   | none=>rw [hj] at e;cases e
   | some qq =>
    rw [hj] at e
    simp only at e
    split at e
    ·rename_i h2;exact a8N k e ((h.join hg hj).2 h2) hq
    ·rename_i h2;cases e;exact absurd hq h2
theorem a0s {k:Nat}:∀ (l:List (Tm×Tm)) {c:Cl} {q} {E},r8 k l c=some q→Inv c E 2000001→c.ps=[]→(∀ p∈l,(p.1.rng∧p.1.ok)∧(p.2.rng∧p.2.ok))→pw c.ns+a9n l≤1000→q.2=true→∃ E',Inv q.1 E' 2000001
 | [],c,q,E,e,h,_,_,_,_=>by cases e;exact ⟨E,h⟩
 | p::l,c,q,E,e,h,hps,hl,hb,hq=>by
  have hb:pw c.ns+(p.1.size+p.2.size+a9n l)≤1000:=hb
  rw [r8] at e
  cases hr:N1 k (openC c p) with
  | none=>rw [hr] at e;cases e
  | some qr =>
   rw [hr] at e
   simp only at e
   obtain ⟨h1,h2⟩:=hl p (by simp)
   have hI:=h.opn hps h1 h2 (by omega)
   split at e
   ·rename_i h3
    obtain ⟨g1,g2⟩:=a8N k hr hI h3
    have hp:=b5S k hr
    rw [a6s] at hp
    exact a0s l e g1 g2 (fun x hx=>hl x (List.mem_cons_of_mem _ hx)) (by omega) hq
   ·rename_i h3;cases e;exact absurd hq h3
theorem a8X {k:Nat}:∀ (j i:Nat) {c:Cl} {o:List Nat} {q},a3e k j i c o=some q→FitU c→(∀ h∈o,h<c.ns.length)→∀ {B:Int},0≤B→usB c.ns B→FitU q.1
 | 0,_,_,_,_,e,_,_,_,_,_=>by cases e
 | j+1,i,c,o,q,e,hF,ho,B,hB,hu=>by
  rw [a3e] at e
  cases hi:o[i]? with
  | none=>rw [hi] at e;cases e;exact hF
  | some g =>
   rw [hi] at e
   simp only at e
   have hg:=ho g (List.mem_of_getElem? hi)
   have hp:=hF.parts hg
   have hsn:=Y5 hF.kid hg
   cases hd:a0g k (List.range' (pC c g).2.1 ((pC c g).2.2-(pC c g).2.1)) (pC c g).1.ns o with
   | none=>rw [hd] at e;cases e
   | some qd =>
    rw [hd] at e
    simp only at e
    have hge:c.ns.length≤(pC c g).1.ns.length:=A0
    obtain ⟨g1,g2,g3,g4,g5⟩:=K1 (vr:=(pC c g).1.vr) (ps:=(pC c g).1.ps) _ hd hp (fun p hp2=>by rw [List.mem_range'_1] at hp2;omega) (hu.parts hB g) (fun x hx=>by have:=ho x hx;omega)
    exact a8X j (i+1) e g1 (fun x hx=>by show x<qd.1.length;rw [g2];exact g5 x hx) (by omega) g3
noncomputable def c3f (a b:Tm):Bool:=@decide (∃ τ,uni τ [(a,b)]) (Classical.propDecidable _)
end Go.Proofs.YtglmoficcjphaaaGreat
namespace Go.Proofs.YtglmoficcjphaaaGreat
open Go.RowKit Go.MapKept Go.Shelf
set_option linter.unusedVariables false
set_option linter.unusedSimpArgs false
attribute [local go_sem] Oper.semAt_some
def c1g (x:Nat×Int):List CV:=[.i (x.1:Int),.i x.2]
def L5 (L:List Int):List (Nat×Int):=(List.range L.length).reverse.map fun i=>(i,L.getD i 0)
theorem a1p (L:List Int):(L5 L).length=L.length:=by simp [L5]
theorem a3Z {L:List Int} {k:Nat} (h:k<L.length):(L5 L)[k]?=some (L.length-1-k,L.getD (L.length-1-k) 0):=by
 unfold L5
 rw [List.getElem?_map,List.getElem?_reverse (by simpa using h)]
 simp only [List.length_range]
 rw [List.getElem?_range (by omega)]
 rfl
set_option maxRecDepth 100000 in
set_option maxHeartbeats 2000000 in
theorem b6P (l Bb ob:Nat) (L:List Int) (R:Nat→Nat→Prop) (w:World) (ao:Option Addr) (cap:Nat) (hbox:w.cell? ⟨Bb,ob,none⟩=some (.slice ao L.length cap)) (hRb:R Bb ob) (hat:At R w ao (L.map (Value.int .i64))) (hl:L.length≤1000000000)
  (J:List (Nat×Int)→World→Prop) (hJ:∀ pre A B,J pre A→Below A.heap.size A B→J pre B)
  (hY:∀ pre (x:Nat×Int) V,J pre V→(L5 L)[pre.length]?=some x→YieldAt Fence.wide 1 Tryz.prog l #[.int .i64 (x.1:Int),.int .i64 x.2] V fun e V'=>e = .returned (.bool true)∧J (pre++[x]) V'∧KpX w.heap.size (fun b=>¬ ∃ o,R b o) V V')
  (W:World) (hW:Below w.heap.size w W) (h0:J [] W) :
  CallsIn Fence.wide 2 Tryz.prog 152 #[.func (.yield l) #[] #[],.pointer (some ⟨Bb,ob,none⟩)] W fun e W'=>(∃ v,e = .returned v)∧∃ ys,ys=L5 L∧J ys W':=by
 have hcs:∀ {V:World},KpX w.heap.size (fun b=>¬ ∃ o,R b o) w V→V.cell? ⟨Bb,ob,none⟩=some (.slice ao L.length cap)∧∀ i,i<L.length→∃ b off,ao=some ⟨b,off,none⟩∧V.cell? ⟨b,off+i,none⟩=some (.int .i64 (L.getD i 0)):=fun {V} hV=>by
  have hkeep:∀ b o u,R b o→w.cell? ⟨b,o,none⟩=some u→V.cell? ⟨b,o,none⟩=some u:=fun b o u hr hc=>by
   have hb:b<w.heap.size:=World.block_lt_of_cell? w _ hc
   rw [World.cell?_of_block (w:=w) (hV b hb (fun hn=>hn ⟨o,hr⟩))]
   exact hc
  refine ⟨hkeep _ _ _ hRb hbox,fun i hi=>?_⟩
  rcases hat with h1 | ⟨b,off,h1,h2⟩
  ·have:=congrArg List.length h1
   rw [List.length_map] at this
   simp at this
   subst this
   simp at hi
  ·obtain ⟨h3,h4⟩:=h2 i (by simpa using hi)
   refine ⟨b,off,h1,hkeep _ _ _ h3 ?_⟩
   rw [h4,List.getElem?_map,List.getElem?_eq_getElem hi,List.getD_eq_getElem?_getD,List.getElem?_eq_getElem hi]
   rfl
 have hW0:KpX w.heap.size (fun b=>¬ ∃ o,R b o) w W:=fun b hb _=>hW.block b hb
 obtain ⟨n,hn⟩:∃ n,n=L.length:=⟨_,rfl⟩
 have HN:Hid (n=L.length):=hn
 have HC:Hid (∀ {V:World},KpX w.heap.size (fun b=>¬ ∃ o,R b o) w V→V.cell? ⟨Bb,ob,none⟩=some (.slice ao n cap)∧∀ i,i<n→∃ b off,ao=some ⟨b,off,none⟩∧V.cell? ⟨b,off+i,none⟩=some (.int .i64 (L.getD i 0))):=by
  rw [hn];exact fun {V} h=>hcs h
 have hl':n≤1000000000:=by omega
 clear hcs hbox hat hn hl hRb
 obtain ⟨hb0,_⟩:=HC.out hW0
 refine callsIn_of_wp Tryz.func152 rfl trivial ?_ rfl
 simp only [Tryz.ntmps152,List.size_toArray,List.length_cons,List.length_nil,Nat.reduceAdd,Nat.reduceSub,Array.replicate_succ,Array.replicate_zero,List.push_toArray,List.append_toArray,List.nil_append,List.cons_append]
 gi_wp2
 gi_loopw [3] (fun iv wr=>∃ (z:Int) (k:Nat),iv = .int .i64 z∧z=(n:Int)-1-k∧k≤n∧J ((L5 L).take k) wr∧KpX w.heap.size (fun b=>¬ ∃ o,R b o) w wr) (fun iv wr=>(intOf iv+1).toNat)
 case atStart=>exact ⟨_,0,rfl,by omega,by omega,by simpa using h0,hW0⟩
 case round =>
  obtain ⟨z,k,rfl,hz,hk,hJr,hKr⟩:=hrel
  clear hb0 h0 hW0
  obtain ⟨hb1,hc1⟩:=HC.out hKr
  by_cases hkn:k=n
  ·have hz1:z = -1:=by omega
   subst hz1
   gi_wp2
   go_end0
   refine ⟨⟨_,rfl⟩,_,rfl,?_⟩
   rw [hkn,HN.out,←a1p,List.take_length] at hJr
   exact hJr
  ·obtain ⟨j,hj⟩:∃ j:Nat,j=n-1-k:=⟨_,rfl⟩
   have hzj:z=(j:Int):=by omega
   have hjn:j<n:=by omega
   subst hzj
   obtain ⟨b,off,rfl,hc2⟩:=hc1 j hjn
   have hx:(L5 L)[((L5 L).take k).length]?=some (j,L.getD j 0):=by
    have hkl:k<L.length:=by have:=HN.out;omega
    rw [List.length_take,a1p,Nat.min_eq_left (by omega),a3Z hkl,←HN.out,←hj]
   obtain ⟨fn,tmps,assign,body,hy,hR⟩:=hY _ _ _ hJr hx
   have HX:Hid (((L5 L).take k)++[(j,L.getD j 0)]=(L5 L).take (k+1)):=by
    have hkl:k<L.length:=by have:=HN.out;omega
    show _=_
    rw [List.take_add_one,a3Z hkl,←HN.out,←hj]
    rfl
   obtain ⟨v,hv⟩:∃ v,v=L.getD j 0:=⟨_,rfl⟩
   rw [←hv] at hc2 hR
   have HX2:=HX.out
   rw [←hv] at HX2
   have HX3:Hid (((L5 L).take k)++[(j,v)]=(L5 L).take (k+1)):=HX2
   clear HX HX2 hx hc1
   have hy:Sem.run Tryz.prog (Instr.yield l #[.int .i64 (j:Int),.int .i64 v]) wr = .ok (.round l fn tmps assign body) wr:=by rw [hv];exact hy
   clear hv
   have HJ:Hid (j=n-1-k∧k<n):=⟨hj,by omega⟩
   clear hj hz hkn hk
   gi_wp2
   refine hR.mono ?_
   rintro e V3 ⟨rfl,hJ3,hk3⟩
   gi_wp2
   go_roundw
   case rel=>exact ⟨_,k+1,rfl,by have:=HJ.out;omega,by have:=HJ.out;omega,by have:=hJ3;rw [HX3.out] at this;exact this,fun b' hb' hx'=>(hk3 b' hb' hx').trans (hKr b' hb' hx')⟩
   case measure=>simp [intOf]
theorem a9q (L:List Int) (hl:L.length≤1000000000):b8v Tryz.prog 152 [.ptr (.lst (L.map CV.i))] c1g (L5 L):=by
 rintro w lb R ⟨u,us,rfl,h1,h2⟩
 have h2:us=[]:=h2
 subst h2
 obtain ⟨b,off,xs,rfl,h3,h4⟩:=U7.1 h1
 obtain ⟨v,g1,g2⟩:=U1 h3
 obtain ⟨ao,n,cap,rfl,e1,e2,e3,e4,ys,e5,e6⟩:=j9.1 g1
 rw [List.length_map] at e1
 subst e1
 have hxs:xs=[.slice ao L.length cap]:=by rw [←g2];rfl
 subst hxs
 obtain ⟨h5,h6⟩:=h4 0 (by simp)
 have hys:ys=L.map (Value.int .i64):=by
  have:∀ (l:List Int) (zs:List Value),Sq ((l.map CV.i).map fun c=>Rep R w c) zs→zs=l.map (Value.int .i64):=by
   intro l
   induction l with
   | nil=>intro zs h;exact h
   | cons x l ih =>
    intro zs h
    obtain ⟨us,bs,rfl,k1,k2⟩:=h
    rw [List.map_cons,ih bs k2]
    have k3:us=[.int .i64 x]:=by
     obtain ⟨v,j1,j2⟩:=U1 k1
     obtain ⟨j3,_⟩:=n9.1 j1
     subst j3
     rw [←j2];rfl
    rw [k3];rfl
  exact this L ys e6
 subst hys
 intro l J W hW hJ hY h0
 exact b6P l b off L R w ao cap (by simpa using h6) (by simpa using h5) e5 hl J hJ hY W hW h0
theorem b4x (W:World) (L:List Int):AFun Tryz.prog W 130 [.lst (L.map CV.i)] (.val (.fn 152 0 [.ptr (.lst (L.map CV.i))])):=by
 refine f0 (rs:=[.fn 152 0 [.ptr (.lst (L.map CV.i))]]) Tryz.func130 Tryz.ntmps130 rfl rfl rfl rfl ?_
 intro w U hW
 refine aS (aR ?_)
 refine nc zd (nc ze ?_)
 refine AWp.wk (A5 1 rfl rfl rfl (s':=[]) trivial rfl rfl rfl) ?_
 refine aS (aR ?_)
 refine nc zB (nc ze ?_)
 exact aT ⟨.inr rfl,rfl⟩
end Go.Proofs.YtglmoficcjphaaaGreat
namespace Go.Proofs.YtglmoficcjphaaaGreat
open Go.RowKit
set_option linter.unusedVariables false
set_option linter.unusedSimpArgs false
set_option maxRecDepth 100000
def S9 (k:Nat) (t:Cl×List Tm) (n:Nat):Option (Cl×List Tm):=match V7 k t.2 (List.range' (pC t.1 n).2.1 ((pC t.1 n).2.2-(pC t.1 n).2.1)) (pC t.1 n).1.ns [] with
 | none=>none
 | some q=>some (⟨q.1,(pC t.1 n).1.vr,(pC t.1 n).1.ps⟩,t.2.set n ⟨(nT q.1 n).f,q.2⟩)
theorem y7 (k n:Nat) (o:List Nat) (c:Cl) (out:List Tm):A7 k (n::o) c out=(S9 k (c,out) n).bind fun t=>A7 k o t.1 t.2:=by
 rw [A7,S9]
 simp only
 cases V7 k out (List.range' (pC c n).2.1 ((pC c n).2.2-(pC c n).2.1)) (pC c n).1.ns []<;>rfl
theorem a1S (k:Nat):∀ (o:List Nat) (n:Nat) (c:Cl) (out:List Tm),A7 k (o++[n]) c out=(A7 k o c out).bind fun t=>S9 k t n
 | [],n,c,out=>by
  rw [List.nil_append,y7]
  show _=S9 k (c,out) n
  cases S9 k (c,out) n<;>rfl
 | m::o,n,c,out=>by
  rw [List.cons_append,y7,y7]
  cases S9 k (c,out) m with
  | none=>rfl
  | some t=>exact a1S k o n t.1 t.2
theorem T6 {k:Nat}:∀ {o:List Nat} {c:Cl} {out:List Tm} {q},A7 k o c out=some q→∀ j,∃ t,A7 k (o.take j) c out=some t
 | [],c,out,q,h,j=>⟨(c,out),by rw [List.take_nil];rfl⟩
 | n::o,c,out,q,h,0=>⟨(c,out),rfl⟩
 | n::o,c,out,q,h,j+1=>by
  rw [y7] at h
  rw [List.take_succ_cons,y7]
  cases e:S9 k (c,out) n with
  | none=>rw [e] at h;cases h
  | some t=>rw [e] at h;exact T6 (o:=o) h j
structure TI (N:Nat) (t:Cl×List Tm):Prop where
 fit:FitU t.1
 out:t.2.length=N
 len:N≤t.1.ns.length
theorem a0c {k:Nat} {vr ps} {out:List Tm}:∀ (l:List Nat) {ns:List Nd} {ts:List Tm} {q},V7 k out l ns ts=some q→FitU ⟨ns,vr,ps⟩→(∀ p∈l,p<ns.length)→FitU ⟨q.1,vr,ps⟩∧q.1.length=ns.length∧q.2.length=ts.length+l.length
 | [],ns,ts,q,h,hF,_=>by
  have h:some (ns,ts)=some q:=h
  cases h
  exact ⟨hF,rfl,rfl⟩
 | p::l,ns,ts,q,h,hF,hl=>by
  rw [V7] at h
  cases hd:n8 k ns p with
  | none=>rw [hd] at h;cases h
  | some r =>
   rw [hd] at h
   obtain ⟨h1,h2,h3⟩:=FitU.head hF (hl p (by simp)) hd
   obtain ⟨g1,g2,g3⟩:=a0c l h h1 fun p' hp'=>by rw [h2];exact hl p' (List.mem_cons_of_mem _ hp')
   exact ⟨g1,by rw [g2,h2],by rw [g3];simp;omega⟩
theorem TI.step {k N:Nat} {t t':Cl×List Tm} {n:Nat} (h:TI N t) (hn:n<t.1.ns.length) (hs:S9 k t n=some t'):TI N t'∧t.1.ns.length≤t'.1.ns.length:=by
 unfold S9 at hs
 have hFp:=h.fit.parts hn
 have htl:(pC t.1 n).2.2≤(pC t.1 n).1.ns.length:=Y5 h.fit.kid hn
 have hfr:(pC t.1 n).2.1≤(pC t.1 n).2.2:=O4.1
 have hgrow:t.1.ns.length≤(pC t.1 n).1.ns.length:=A0
 split at hs
 ·cases hs
 ·rename_i q hq
  cases hs
  obtain ⟨g1,g2,g3⟩:=a0c (vr:=(pC t.1 n).1.vr) (ps:=(pC t.1 n).1.ps) _ hq hFp fun p hp=>by
   rw [List.mem_range'] at hp
   obtain ⟨i,hi,rfl⟩:=hp
   omega
  refine ⟨⟨g1,by simp only [List.length_set];exact h.out,?_⟩,?_⟩
  ·show N≤q.1.length;rw [g2];exact Nat.le_trans h.len hgrow
  ·show _≤q.1.length;rw [g2];exact hgrow
theorem TI.all {k N:Nat}:∀ {o:List Nat} {t q:Cl×List Tm},TI N t→(∀ n∈o,n<N)→A7 k o t.1 t.2=some q→TI N q∧t.1.ns.length≤q.1.ns.length
 | [],t,q,h,_,hq=>by
  have hq:some (t.1,t.2)=some q:=hq
  cases hq
  exact ⟨h,Nat.le_refl _⟩
 | n::o,t,q,h,ho,hq=>by
  rw [y7] at hq
  cases e:S9 k (t.1,t.2) n with
  | none=>rw [e] at hq;cases hq
  | some t' =>
   rw [e] at hq
   obtain ⟨h1,h2⟩:=h.step (t':=t') (n:=n) (Nat.lt_of_lt_of_le (ho n (by simp)) h.len) e
   obtain ⟨h3,h4⟩:=TI.all h1 (fun m hm=>ho m (List.mem_cons_of_mem _ hm)) hq
   exact ⟨h3,Nat.le_trans h2 h4⟩
noncomputable abbrev obT (N:Nat) (t:Cl×List Tm):AS:=(450002,AV.obj)::(35500200,.bp 350001 0 [])::(450003,.obj)::(35500300,.sl 300005 0 N 2)::(300005,.mrow 42 2 (t.2.map Tm.cv))::r5 t.1
theorem b4t {out:List Tm} {n:Nat} {x:Tm}:(out.set n x).map Tm.cv=(out.map Tm.cv).set n x.cw:=by rw [List.map_set,Tm.cv_eq]
noncomputable abbrev obF (N:Nat) (c:Cl) (out:List Tm):AS:=(450002,AV.obj)::(35500200,.bp 350001 0 [])::(450003,.obj)::(35500300,.sl 300005 0 N 2)::(300005,.mrow 42 2 (out.map Tm.cv))::M5 c
set_option maxHeartbeats 8000000 in
theorem a9x (fu:Nat) (c0:Cl) (od:List Nat) (q:Cl×List Tm) (hq:A7 fu od.reverse c0 (List.replicate c0.ns.length tm0)=some q) (hF:FitU c0) (hlq:q.1.ns.length=c0.ns.length) (hod:∀ n∈od,n<c0.ns.length) (hol:od.length≤1000):p9 Tryz.prog 106 (r5 c0) [.bp 350001 0 [],.val (l9 od)] (.sl 300005 0 c0.ns.length 2) ((300005,.mrow 42 2 (q.2.map Tm.cv))::r5 q.1):=by
 obtain ⟨N,hN⟩:∃ N,N=c0.ns.length:=⟨_,rfl⟩
 have hl:N≤1000:=by rw [hN];exact Nat.le_trans (C5 _) hF.big
 obtain ⟨out0,hout⟩:∃ out0,out0=List.replicate N tm0:=⟨_,rfl⟩
 obtain ⟨tk,htk⟩:∃ tk:Nat→Cl×List Tm,∀ k,A7 fu (od.reverse.take k) c0 out0=some (tk k):=by
  rw [←hN,←hout] at hq
  exact ⟨fun k=>Classical.choose (T6 hq k),fun k=>Classical.choose_spec (T6 hq k)⟩
 rw [←hN] at hq hlq hod ⊢
 rw [←hout] at hq
 have hI0:TI N (c0,out0):=⟨hF,by rw [hout,List.length_replicate],by show N≤c0.ns.length;omega⟩
 have hIk:∀ k,TI N (tk k)∧(tk k).1.ns.length=N:=fun k=>by
  have ho:∀ n∈od.reverse.take k,n<N:=fun n hn=>hod n (List.mem_reverse.1 (List.mem_of_mem_take hn))
  obtain ⟨h1,h2⟩:=TI.all (t:=(c0,out0)) hI0 ho (htk k)
  refine ⟨h1,?_⟩
  have hrest:∃ q',A7 fu (od.reverse.drop k) (tk k).1 (tk k).2=some q'∧q'=q:=by
   have happ:∀ (a b:List Nat) (c:Cl) (o:List Tm),A7 fu (a++b) c o=(A7 fu a c o).bind fun t=>A7 fu b t.1 t.2:=by
    intro a
    induction a with
    | nil=>intro b c o;rfl
    | cons x a ih =>
     intro b c o
     rw [List.cons_append,y7,y7]
     cases S9 fu (c,o) x with
     | none=>rfl
     | some t=>exact ih b t.1 t.2
   have:=happ (od.reverse.take k) (od.reverse.drop k) c0 out0
   rw [List.take_append_drop,hq,htk k] at this
   exact ⟨q,this.symm,rfl⟩
  obtain ⟨q',h3,rfl⟩:=hrest
  obtain ⟨_,h4⟩:=TI.all h1 (fun n hn=>hod n (List.mem_reverse.1 (List.mem_of_mem_drop hn))) h3
  have:=h1.len
  omega
 have hend:tk od.length=q:=by
  have:=htk od.length
  rw [List.take_of_length_le (by simp),hq] at this
  injection this with this
  exact this.symm
 have hstart:tk 0=(c0,out0):=by
  have:=htk 0
  have h2:some (c0,out0)=some (tk 0):=this
  injection h2 with h2
  exact h2.symm
 have hints:(l9 od) = .lst ((od.map fun n:Nat=>(n:Int)).map CV.i):=by unfold l9;rw [List.map_map];rfl
 have hxlen:(L5 (od.map fun n:Nat=>(n:Int))).length=od.length:=by rw [a1p,List.length_map]
 have hbk:∀ W,AFun Tryz.prog W 130 [l9 od] (.val (.fn 152 0 [.ptr (.lst ((od.map fun n:Nat=>(n:Int)).map CV.i))])):=fun W=>by rw [hints];exact b4x W _
 refine b3d Tryz.func106 Tryz.ntmps106 rfl rfl rfl rfl rfl rfl ?_
 intro w U hU
 refine O5 (aR ?_)
 refine ne (zbh 350002 (F:=fun v h=>by first | (rw [hW.1] at h;cases h) | (have h2:=hU _ v h;cases h2))) ?_
 refine nc ze ?_
 refine ⟨rfl,?_⟩
 refine O5 (aR ?_)
 refine nc z5 (nc z4 (nc zg (nc z5 (nc zV (ne (zbi (k:=N) 300005) ?_)))))
 refine ne (zbj 350003 (C:=fun v h=>by first | (rw [hW.1] at h;cases h) | (have h2:=hU _ v h;cases h2))) ?_
 refine nc zba ?_
 refine ⟨rfl,?_⟩
 refine a5h (O5 (aR ?_))
 refine nc zl (nc (zw (z:=hbk w)) ?_)
 refine ⟨rfl,?_⟩
 refine a3s ?_
 refine a6t (a7 (s':=(2,AV.bp 350002 0 [])::(5,.bp 350003 0 [])::(19,.val (.fn 152 0 [.ptr (.lst ((od.map fun n:Nat=>(n:Int)).map CV.i))]))::obT N (tk 0)) ⟨rfl,rfl,rfl,by kernel_rfl,by kernel_rfl,by kernel_rfl,by kernel_rfl,?_,rfl,?_,rfl,?_,?_,?_,?_,trivial⟩) ?_
 ·rw [hstart,hout,List.map_replicate];rfl
 ·rw [hstart];rfl
 ·rw [hstart];rfl
 ·rw [hstart];rfl
 ·rw [hstart];rfl
 ·rw [hstart];rfl
 refine a5n (a9S (α:=Nat×Int) (encC:=c1g) (xs:=L5 (od.map fun n:Nat=>(n:Int))) (al:=[(7,21)]) (fun k=>obT N (tk k)) [(2,AV.bp 350002 0 []),(5,.bp 350003 0 [])] rfl (C6 Tryz.func152 rfl rfl) (a9q _ (by rw [List.length_map];omega)) rfl rfl rfl (fun x _ c hc=>?_) (fun x=>rfl) ⟨rfl,rfl,trivial⟩ rfl ⟨rfl,rfl,rfl,rfl,rfl,rfl,rfl,rfl,rfl,rfl,rfl,rfl,trivial⟩ (fun k=>by kernel_rfl) (fun k=>by kernel_rfl) (fun k=>rfl) rfl (by kernel_rfl) (by kernel_rfl) ?_) ?_
 ·rcases List.mem_cons.1 hc with rfl | hc
  ·exact ⟨_,rfl,rfl⟩
  ·rw [List.mem_singleton] at hc;subst hc;exact ⟨_,rfl,rfl⟩
 ·intro k x hx w U hU
  have hkl:k<od.length:=by
   rcases Nat.lt_or_ge k od.length with h | h
   ·exact h
   ·rw [List.getElem?_eq_none (by omega)] at hx;cases hx
  obtain ⟨n,hn⟩:∃ n,od.reverse[k]?=some n:=⟨od.reverse[k]'(by simpa using hkl),List.getElem?_eq_getElem (by simpa using hkl)⟩
  have hnN:n<N:=hod n (List.mem_reverse.1 (List.mem_of_getElem? hn))
  obtain ⟨i,hxe⟩:∃ i:Nat,x=(i,(n:Int)):=by
   rw [a3Z (by rw [List.length_map];exact hkl)] at hx
   injection hx with hx
   refine ⟨(od.map fun n:Nat=>(n:Int)).length-1-k,?_⟩
   rw [←hx]
   congr 1
   rw [List.length_map,List.getD_eq_getElem?_getD,List.getElem?_map]
   rw [List.getElem?_reverse hkl] at hn
   rw [hn];rfl
  rw [hxe]
  clear hx hxe
  obtain ⟨hI,hIl⟩:=hIk k
  have hstep:S9 fu (tk k) n=some (tk (k+1)):=by
   have:=htk (k+1)
   rw [List.take_add_one,hn] at this
   have:=(a1S fu (od.reverse.take k) n c0 out0).symm.trans this
   rw [htk k] at this
   exact this
  obtain ⟨hI1,hIl1⟩:=hIk (k+1)
  obtain ⟨t,ht⟩:∃ t,t=tk k:=⟨_,rfl⟩
  obtain ⟨t',ht'⟩:∃ t',t'=tk (k+1):=⟨_,rfl⟩
  rw [←ht] at hI hIl hstep hU ⊢
  rw [←ht'] at hstep hI1 hIl1 ⊢
  clear ht ht'
  obtain ⟨c,out⟩:=t
  have hFc:FitU c:=hI.fit
  have hol':out.length=N:=hI.out
  have hcl:c.ns.length=N:=hIl
  have hnc:n<c.ns.length:=by omega
  have hFp:=hFc.parts hnc
  have hlp:(pC c n).1.ns.length≤1000:=Nat.le_trans (C5 _) hFp.big
  have hpc:=K5 c n hnc hFc.trm (by omega) (hFc.kid.fi hnc (by omega))
  have hft:(pC c n).2.1≤(pC c n).2.2:=O4.1
  have htl:(pC c n).2.2≤(pC c n).1.ns.length:=Y5 hFc.kid hnc
  have hgr:c.ns.length≤(pC c n).1.ns.length:=A0
  unfold S9 at hstep
  simp only at hstep
  obtain ⟨c2,hc2⟩:∃ c2,c2=(pC c n).1:=⟨_,rfl⟩
  obtain ⟨fr,hfr⟩:∃ x,x=(pC c n).2.1:=⟨_,rfl⟩
  obtain ⟨to,hto⟩:∃ x,x=(pC c n).2.2:=⟨_,rfl⟩
  rw [←hc2] at hFp hlp hpc htl hgr hstep
  rw [←hfr,←hto] at hpc hft hstep
  rw [←hto] at htl
  clear hfr hto hc2
  cases hlq:V7 fu out (List.range' fr (to-fr)) c2.ns [] with
  | none=>rw [hlq] at hstep;cases hstep
  | some lq =>
  rw [hlq] at hstep
  simp only at hstep
  have hstep:=Option.some.inj hstep
  subst hstep
  have hc2N:c2.ns.length=N:=by
   have h1:lq.1.length=N:=hIl1
   obtain ⟨_,h2,_⟩:=a0c (vr:=c2.vr) (ps:=c2.ps) _ hlq hFp fun p hp=>by
    rw [List.mem_range'] at hp
    obtain ⟨i,hi,rfl⟩:=hp
    omega
   omega
  refine AWp.wk (a7 (s':=(7,AV.val (.i (n:Int)))::(2,.bp 350002 0 [])::(5,.bp 350003 0 [])::obT N (c,out)) ⟨rfl,rfl,rfl,rfl,rfl,rfl,rfl,rfl,rfl,rfl,rfl,rfl,rfl,rfl,rfl,trivial⟩) ?_
  refine aB (aS (aR ?_))
  refine nc z5 (nc zl (ne (z0 (z:=hpc) (G:=i7 (by first | rfl | kernel_rfl))) (nc zl (nc zx (nc zx (nc ze (nc ze ?_)))))))
  refine aS (aR ?_)
  refine nc zl (nc zl (nc zj (ne (zbk (k:=(to-fr)) 200031) (nc ze ?_))))
  refine aS (aS (aR ?_))
  refine nc zl (nc ze ?_)
  refine AWp.wk ((a7 (s':=(7,AV.val (.i (n:Int)))::(2,.bp 350002 0 [])::(5,.bp 350003 0 [])::(9,.val (.i (to:Int)))::(10,.sl 200031 0 0 2)::(11,.val (.i (fr:Int)))::(200031,.mrow 42 2 [])::obT N (c2,out)) ⟨rfl,rfl,rfl,rfl,rfl,rfl,rfl,rfl,rfl,rfl,rfl,rfl,rfl,rfl,rfl,rfl,rfl,rfl,rfl,trivial⟩).trans (v7 300001 400001 rfl rfl (b5O hU (by kernel_rfl)) (by kernel_rfl) (by kernel_rfl) (by kernel_rfl))) ?_
  obtain ⟨st,hst⟩:∃ st:Nat→List Nd→List Tm→AS,st=fun i ns1 ts=>(7,AV.val (.i (n:Int)))::(2,.bp 350002 0 [])::(5,.bp 350003 0 [])::(9,.val (.i (to:Int)))::(10,.sl 200031 0 ts.length 2)::(11,.val (.i ((fr+i:Nat):Int)))::(200031,.mrow 42 2 (ts.map Tm.cv))::obF N ⟨ns1,c2.vr,c2.ps⟩ out:=⟨_,rfl⟩
  refine aB (l6 (fun m s=>∃ i ns1 ts,i+m=to-fr∧V7 fu out (List.range' (fr+i) m) ns1 ts=some lq∧FitU ⟨ns1,c2.vr,c2.ps⟩∧ns1.length=N∧ts.length=i∧s=st i ns1 ts) (n:=to-fr) (s':=st 0 c2.ns []) (by rw [hst];exact a7 ⟨rfl,rfl,rfl,rfl,rfl,rfl,rfl,rfl,rfl,rfl,rfl,rfl,rfl,rfl,rfl,rfl,rfl,rfl,rfl,trivial⟩) ⟨0,c2.ns,[],by omega,hlq,hFp,hc2N,rfl,rfl⟩ ?_)
  rintro m s ⟨i2,ns1,ts,him,hlc,hF3,hl3,hts,rfl⟩
  rw [hst]
  refine aS (aS (aR ?_))
  refine nc zl (nc zl (nc zi ?_))
  cases m with
  | zero =>
   have hlc:some (ns1,ts)=some lq:=hlc
   have hlc:=Option.some.inj hlc
   subst hlc
   refine aC rfl (fun hc=>?_) (fun hc=>?_)
   ·exfalso
    have:((fr+i2:Nat):Int)<to:=by simpa using hc
    omega
   refine aE ?_
   obtain ⟨y,hy⟩:=N4 (ns:=ns1) (n:=n) (by omega)
   have hy':=Nd.map_at hy
   have hlm:(ns1.map Nd.cv).length=ns1.length:=List.length_map ..
   have hlo:(out.map Tm.cv).length=out.length:=List.length_map ..
   obtain ⟨z,hz⟩:∃ z,out[n]?=some z:=⟨out[n]'(by omega),List.getElem?_eq_getElem (by omega)⟩
   have hz':=Tm.map_at hz
   have hyf:(nT ns1 n).f=y.t.f:=by unfold nT;rw [o9 hy]
   have htl':(ts.map Tm.cv).length=ts.length:=List.length_map ..
   refine AWp.wk (a6Y 10 200031 rfl rfl rfl (.inr (by decide)) (by rw [htl'];omega) (s':=(7,AV.val (.i (n:Int)))::(2,.bp 350002 0 [])::(5,.bp 350003 0 [])::obF N ⟨ns1,c2.vr,c2.ps⟩ out) ⟨rfl,rfl,rfl,rfl,rfl,rfl,rfl,rfl,rfl,rfl,rfl,rfl,rfl,rfl,rfl,trivial⟩ (by kernel_rfl)) ?_
   rw [List.drop_zero,List.take_of_length_le (by rw [htl'];omega)]
   refine aD (by kernel_rfl) (by kernel_rfl) ?_
   refine nc z5 (nc zl (nc z5 (nc z4 (nc zg (nc z5 (nc zl (nc (zI (k:=n)) (nc z3 (nc z3 (nc (zJ (G:=hy')) (nc zl (nc zn (nc (zI (k:=n)) (nc (zN (F:=hz')) ?_))))))))))))))
   refine ⟨by kernel_rfl,rfl,?_⟩
   refine (a7 (s':=obF N ⟨ns1,c2.vr,c2.ps⟩ (out.set n ⟨(nT ns1 n).f,ts⟩)) ⟨rfl,rfl,rfl,rfl,?_,rfl,rfl,rfl,rfl,rfl,rfl,rfl,trivial⟩).trans (v7 400001 300001 rfl rfl (a4D U (by decide)) (by kernel_rfl) (by kernel_rfl) (by kernel_rfl))
   rw [b4t,hyf];rfl
  | succ m =>
   have hp1:fr+i2<ns1.length:=by omega
   rw [List.range'_succ,V7] at hlc
   cases hd2:n8 fu ns1 (fr+i2) with
   | none=>rw [hd2] at hlc;cases hlc
   | some r2 =>
   rw [hd2] at hlc
   simp only at hlc
   obtain ⟨hF4,hl4,hr4⟩:=FitU.head hF3 hp1 hd2
   have hdc2:=J4 c2.vr c2.ps fu ns1 (fr+i2) r2 hd2 hF3.up hp1 (by omega)
   have hcst:M5 ⟨r2.1,c2.vr,c2.ps⟩=[(450001,.obj),(35500100,.sl 400001 0 ns1.length 5),(35500101,.mref 300003),(35500102,.sl 300002 0 c2.ps.length 2),(400001,.mrow 140 5 (r2.1.map Nd.cv)),(300003,.mp (c2.vr.map vrv)),(300002,.mrow 164 2 (c2.ps.map psv))]:=by simp only [M5,hl4]
   rw [hcst] at hdc2
   obtain ⟨z,hz⟩:∃ z,out[r2.2]?=some z:=⟨out[r2.2]'(by omega),List.getElem?_eq_getElem (by omega)⟩
   have hz':=Tm.map_at hz
   have hlo:(out.map Tm.cv).length=out.length:=List.length_map ..
   have htl':(ts.map Tm.cv).length=ts.length:=List.length_map ..
   have htz:=Tm.size_all ts
   have hgd:out.getD r2.2 tm0=z:=by rw [List.getD_eq_getElem?_getD,hz];rfl
   rw [hgd] at hlc
   refine aC rfl (fun hc=>?_) (fun hc=>?_)
   case refine_2 =>
    have:¬ ((fr+i2:Nat):Int)<to:=by simpa using hc
    omega
   refine aK ?_
   refine aS (aB (aD (by kernel_rfl) (by kernel_rfl) ?_))
   refine nc zl (nc z5 (nc z5 (nc zl (ne (zbg ([(400001,.mrow 140 5 (r2.1.map Nd.cv))]) (C:=hdc2) (hnb:=i7 (by first | rfl | kernel_rfl))) (nc (zI (k:=r2.2)) (nc (zJ (G:=hz')) (nc zD (ne (z9 200046) (nc ze ?_)))))))))
   refine ⟨by kernel_rfl,?_⟩
   refine aR ?_
   refine nc zl (nc zu (nc ze ?_))
   refine ⟨m,st (i2+1) r2.1 (ts++[z]),by omega,⟨i2+1,r2.1,ts++[z],by omega,by rw [show fr+(i2+1)=fr+i2+1 by omega];exact hlc,hF4,by omega,by rw [List.length_append];simp;omega,by rw [hst]⟩,?_⟩
   rw [hst]
   refine (a7 (s':=(7,AV.val (.i (n:Int)))::(2,.bp 350002 0 [])::(5,.bp 350003 0 [])::(9,.val (.i (to:Int)))::(10,.sl 200046 0 (ts++[z]).length 2)::(11,.val (.i ((fr+(i2+1):Nat):Int)))::(200046,.mrow 42 2 ((ts++[z]).map Tm.cv))::obF N ⟨r2.1,c2.vr,c2.ps⟩ out) ⟨rfl,rfl,rfl,rfl,?_,rfl,?_,rfl,rfl,rfl,rfl,rfl,rfl,?_,rfl,rfl,rfl,rfl,rfl,trivial⟩).trans (A8 200046 200031 rfl rfl (by kernel_rfl) (by kernel_rfl))
   ·rw [List.length_append,←htl'];rfl
   ·rw [List.map_append,List.map_singleton,Tm.cv_eq];rfl
   ·show _=some (AV.sl 400001 0 r2.1.length 5);rw [hl4];rfl
 ·rintro e s' g ⟨rfl,rfl⟩
  rw [hxlen,hend]
  refine ⟨rfl,rfl,?_⟩
  refine aS (aR ?_)
  refine nc z5 (nc ze ?_)
  refine aT ⟨⟨.inr rfl,[(4,AV.sl 300005 0 N 2),(300005,.mrow 42 2 (q.2.map Tm.cv))]++r5 q.1,?_,rfl,⟨rfl,rfl,rfl,rfl,rfl,rfl,rfl,rfl,trivial⟩,rfl⟩,rfl⟩
  exact a7 ⟨rfl,rfl,rfl,rfl,rfl,rfl,rfl,rfl,rfl,rfl,trivial⟩
end Go.Proofs.YtglmoficcjphaaaGreat
namespace Go.Proofs.YtglmoficcjphaaaGreat
open Go.RowKit Go.MapKept
open Go.ChangeMaps (setBlock)
set_option linter.unusedVariables false
set_option linter.unusedSimpArgs false
section
variable {P:Program} {w0:World} {U0:UX} {nt:Nat} {ops:Array Oper} {o:Oper} {S:Nat→Option AV} {gs:List Nat} {d:Nat} {s:AS} {a:Act} {w:World} {D:Nat→Nat→Prop} {hv:Nat→Value}
abbrev AV.stm (l:List CV) (b clock:Nat) (bs:List Nat):AV:=⟨22,.lst l,0,0,b::clock::bs⟩
abbrev AV.itr (b since c0:Nat) (seen:List Nat):AV:=⟨21,.row [],0,0,b::since::c0::seen⟩
theorem SimG.retag (h:SimG w0 U0 nt s a w D hv) {n:Nat} (hok:j5 n) {av0 av:AV} (hs:look s n=some av0) (h6:av0.t≠6) (h7:av0.t≠7) (h9:av0.t≠9) (g6:av.t≠6) (g7:av.t≠7) (g9:av.t≠9) (hoc:OC (Us w0 U0 D) w hv (a8 s) av (hv n)):SimG w0 U0 nt ((n,av)::s) a w D hv:=by
 have hok':=hok
 unfold j5 at hok'
 have hlk:∀ {k},k≠n→look ((n,av)::s) k=look s k:=fun {k} hk=>lN (Ne.symm hk)
 have hl:∀ m e,s7 ((n,av)::s) m e↔s7 s m e:=fun m e=>by
  unfold s7
  by_cases e1:m=n
  ·subst e1
   rw [lS,hs]
   constructor
   ·rintro ⟨h1,_⟩;injection h1 with h1;rw [h1] at g6;exact absurd rfl g6
   ·rintro ⟨h1,_⟩;injection h1 with h1;rw [h1] at h6;exact absurd rfl h6
  ·rw [hlk e1]
 have hl2:a8 ((n,av)::s)=a8 s:=by funext k;simp only [a8,hl]
 refine ⟨h.below,h.dfr,h.size,fun d' av' h1 h2=>?_,fun m o' av' h1 h2 h3 h4=>?_,fun m o1 o2 av1 av2 h1 h2=>?_,fun k av' h1 h2=>?_,fun k av' g h1 h2 h3 h4=>?_,fun k k' av1 av2 g h1 h2 h3 h4 h5 h8 h10=>?_,h.fix,h.dlt⟩
 ·rw [hlk (by omega)] at h1;rw [hl2];exact h.slot d' av' h1 h2
 ·rw [hlk (by unfold b9;omega)] at h1
  have hne:100000+m≠n:=fun e=>by rw [e,lS] at h3;injection h3 with h3;rw [h3] at g9;exact absurd rfl g9
  rw [hlk hne] at h3
  rw [hl2]
  exact h.fld m o' av' h1 h2 h3 h4
 ·rw [hlk (by unfold b9;omega)] at h1 h2
  exact h.fdis m o1 o2 av1 av2 h1 h2
 ·rw [hl2]
  by_cases e1:k=n
  ·subst e1;rw [lS] at h1;cases h1;exact hoc
  ·rw [hlk e1] at h1;exact h.obj k av' h1 h2
 ·by_cases e1:k=n
  ·subst e1
   rw [lS] at h1;cases h1
   obtain ⟨f1,f2,f3⟩:=h.blk k av0 g hs h2 h7 h4
   refine ⟨?_,f2,fun o ho hd=>f3 o (fun e=>absurd e h6) hd⟩
   unfold Mn lcl at f1 ⊢
   rcases f1 with f1 | ⟨f1,f1'⟩
   ·exact .inl f1
   ·refine .inr ⟨?_,f1'⟩
    cases e2:Nat.blt k 300000 with
    | true=>rw [e2] at f1;exact absurd rfl f1
    | false=>exact g6
  ·rw [hlk e1] at h1;exact h.blk k av' g h1 h2 h3 h4
 ·have conv:∀ q (aq:AV),look ((n,av)::s) q=some aq→aq.t≠7→∃ aq',look s q=some aq'∧aq'.t≠7:=fun q aq f1 f2=>by
   by_cases e1:q=n
   ·subst e1;exact ⟨av0,hs,h7⟩
   ·rw [hlk e1] at f1;exact ⟨aq,f1,f2⟩
  obtain ⟨a1,b1,c1⟩:=conv k av1 h1 h5
  obtain ⟨a2,b2,c2⟩:=conv k' av2 h2 h8
  exact h.disj k k' a1 a2 g b1 b2 h3 h4 c1 c2 h10
theorem AWp.stamps {c:Code} {Q:Exit→AS→Prop} (n:Nat) {l:List CV} (hn:(Nat.ble 200000 n&&Nat.blt n 450000)=true) (hm:look s n=some (.mp l)) (h:∀ b clock bs,bs.length=l.length→bs.Nodup→(∀ x∈bs,x<clock)→AWp P w0 U0 nt c Q ((n,.stm l b clock bs)::s)):AWp P w0 U0 nt c Q s:=by
 intro M a w ⟨D,hv,hS⟩
 have hrn:=rnF hn
 have hok:j5 n:=by unfold RN at hrn;unfold j5;omega
 obtain ⟨g,es,clock,g1,g2,g3,g4,g5⟩:∃ g es clock,hv n = .map (some g)∧w.heap[g]?=some (.map es clock)∧Ents (Us w0 U0 D) w l es.toList∧(∀ e∈es,e.born<clock)∧(es.toList.map (fun e:MapEntry=>e.born)).Nodup:=hS.obj n _ hm hok
 refine h g clock (es.toList.map (fun e:MapEntry=>e.born)) (by rw [List.length_map,a0N g3]) g5 (fun x hx=>?_) M a w ⟨D,hv,hS.retag hok hm (fun e=>by cases e) (fun e=>by cases e) (fun e=>by cases e) (fun e=>by cases e) (fun e=>by cases e) (fun e=>by cases e) ?_⟩
 ·obtain ⟨e,he,rfl⟩:=List.mem_map.1 hx
  exact g4 e (by simpa using he)
 ·exact ⟨⟨(fun e=>by cases e),(fun e=>by cases e)⟩,(fun e=>by cases e),(fun e=>by cases e),fun _=>⟨g,clock,es,g1,rfl,g2,g3,g4,g5⟩⟩
theorem b5f (n:Nat) {l:List CV} {b clock:Nat} {bs:List Nat} (hn:(Nat.ble 200000 n&&Nat.blt n 450000)=true) (hm:look s n=some (.stm l b clock bs)):Wk w0 U0 nt s ((n,.mp l)::s):=by
 rintro a w ⟨D,hv,hS⟩
 have hrn:=rnF hn
 have hok:j5 n:=by unfold RN at hrn;unfold j5;omega
 obtain ⟨g,ck,es,g1,g2,g3,g4,g5,g6⟩:=(show OX _ _ _ _ from hS.obj n _ hm hok).2.2.2 rfl
 exact ⟨D,hv,hS.retag hok hm (fun e=>by cases e) (fun e=>by cases e) (fun e=>by cases e) (fun e=>by cases e) (fun e=>by cases e) (fun e=>by cases e) ⟨g,es,ck,g1,g3,g4,g5,g6⟩⟩
theorem b5b (nn:Nat) (hg:Gd w0 U0 nt ops o gs S) (hd:o.dst=some d) (hn:Nat.blt d nt=true) (h5:Nat.blt d 100000=true) {x:Operand} {t kt et:TypeId} {n b clock:Nat} {l:List CV} {bs:List Nat} (ho:o.op = .range t x) (hu:P.underlying t=some (.map kt et)) (hx:ev S x=some (.mref n)) (hm':S n=some (.stm l b clock bs)) (hn2:(Nat.ble 200000 nn&&Nat.blt nn 400000)=true):AOp P w0 U0 nt ops o (gs++(rd x++[n])) [(nn,[])] S [(d,.mref nn),(nn,.itr b clock clock [])]:=by
 intro s hs hN a w ⟨D,hv,h⟩ Q K hK
 rw [if_pos (hg s (fun k hk=>hs k (List.mem_append_left _ hk)) a w D hv h)]
 have hrn:=rnB hn2
 obtain ⟨hrm,h1,_⟩:RN n∧a.eval x=hv n∧(a.eval x).oneCell'=true:=j8 h (fun k hk=>hs k (List.mem_append_right _ (List.mem_append_left _ hk))) hx
 have hok:j5 n:=by unfold RN at hrm;unfold j5;omega
 obtain ⟨g,ck,es,g1,g2,g3,g4,g5,g6⟩:=(show OX _ _ _ _ from h.obj n _ ((hs n (by simp)).trans hm') hok).2.2.2 rfl
 have hbb:b=g∧clock=ck:=by
  have g2:b::clock::bs=g::ck::es.toList.map (·.born):=g2
  injection g2 with g2 g2'
  injection g2' with g2'
  exact ⟨g2,g2'⟩
 obtain ⟨rfl,rfl⟩:=hbb
 rw [g1] at h1
 have he:(execOp a.eval o).run P w = .ok (.value (.pointer (some ⟨w.heap.size,0,none⟩))) (w.alloc (.mapIter (some b) clock #[] clock)):=by
  have hge:=Go.MapKept.run_getObj_map (P:=P) g3
  generalize a.eval=ρ at h1 ⊢
  simp [execOp,ho,Instr.range,run_underlying hu,h1,hge,run_newObj_alloc]
 unfold Oper.wp
 rw [he,Oper.upon_value,hd]
 have hb':Below w.heap.size w (w.alloc (.mapIter (some b) clock #[] clock)):=(Below.refl _ _).alloc (Nat.le_refl _) _
 have hG:=h.newrow (X:=fun _=>False) (avn := .itr b clock clock []) (v' := .pointer (some ⟨w.heap.size,0,none⟩)) (D':=D) hrn (hN (nn,[]) (by simp)).nr (fun e=>by cases e) ((BelowX.refl _ w).step hb') (fun b hb=>hb.elim) (fun g hg=>by
   have hg:some w.heap.size=some g:=hg
   cases hg
   refine ⟨.inr (Nat.le_refl _),by simp,fun o _ hd=>?_⟩
   have:=h.dlt _ _ hd
   omega) (fun b o hd => .inl hd) (fun b o hd=>Nat.lt_of_lt_of_le (h.dlt _ _ hd) hb'.size) (M8 h.dlt hb' fun _ _ h=>h) (fun hv lv=>⟨⟨(fun e=>by cases e),(fun e=>by cases e)⟩,(fun e=>by cases e),fun _=>⟨w.heap.size,b,clock,clock,[],rfl,rfl,t6 _ _⟩,(fun e=>by cases e)⟩)
 refine hK _ _ ⟨_,_,hG.put (bL hn) (bL h5) ⟨RW.rn hrn,?_,rfl⟩⟩
 simp
theorem zbm {P:Program} {w0:World} {U0:UX} {nt:Nat} {ops:Array Oper} {o:Oper} {S:Nat→Option AV} {gs:List Nat} {d:Nat} {x:Operand} {t:TypeId} {kt:TypeId} {et:TypeId} {n:Nat} {b:Nat} {clock:Nat} {l:List CV} {bs:List Nat} (nn:Nat) (p:Gd w0 U0 nt ops o gs S:=by exact gN rfl) (q:o.dst=some d:=by exact rfl) (r:Nat.blt d nt=true:=by exact rfl) (u:Nat.blt d 100000=true:=by exact rfl) (v:o.op = .range t x:=by exact rfl) (y:P.underlying t=some (.map kt et):=by exact rfl) (z:ev S x=some (.mref n):=by exact rfl) (A:S n=some (.stm l b clock bs):=by exact rfl) (B:(Nat.ble 200000 nn&&Nat.blt nn 400000)=true:=by exact rfl):AOp P w0 U0 nt ops o (gs++(rd x++[n])) [(nn,[])] S [(d,.mref nn),(nn,.itr b clock clock [])]:=b5b nn p q r u v y z A B
theorem b4f (hg:Gd w0 U0 nt ops o gs S) (hd:o.dst=some d) (hn:Nat.blt d nt=true) (h5:Nat.blt d 100000=true) {x:Operand} {n nn b since clock j z:Nat} {k:IntKind} {i:Int} {vc:CV} {l:List CV} {bs seen:List Nat} (ho:o.op = .entry x) (hx:ev S x=some (.mref nn)) (hI:S nn=some (.itr b since clock (seen++[z]))) (hm':S n=some (.stm l b clock bs)) (hrn:(Nat.ble 200000 n&&Nat.blt n 450000)=true) (hz:bs[j]?=some z) (hl:l[j]?=some (.row [.sc (.int k i),vc])):AOp P w0 U0 nt ops o (gs++(rd x++[nn,n])) [] S [(d,.tup [.sc (.int k i),vc])]:=
 i8 hg hd hn h5 (fun k hk=>List.mem_append_left _ hk) fun s hs a w D hv hm=>by
  obtain ⟨hrm,h1,_⟩:RN nn∧a.eval x=hv nn∧(a.eval x).oneCell'=true:=j8 hm (fun k hk=>hs k (List.mem_append_right _ (List.mem_append_left _ hk))) hx
  have hok:j5 nn:=by unfold RN at hrm;unfold j5;omega
  have hrn:=rnF hrn
  have hok2:j5 n:=by unfold RN at hrn;unfold j5;omega
  obtain ⟨r,b1,s1,c1,seen1,f1,f2,f3⟩:=(show OX _ _ _ _ from hm.obj nn _ ((hs nn (by simp)).trans hI) hok).2.2.1 rfl
  obtain ⟨g,ck,es,g1,g2,g3,g4,g5,g6⟩:=(show OX _ _ _ _ from hm.obj n _ ((hs n (by simp)).trans hm') hok2).2.2.2 rfl
  have f2:b::since::clock::(seen++[z])=b1::s1::c1::seen1:=f2
  injection f2 with f2 f2'
  injection f2' with f2' f2''
  injection f2'' with f2'' f2'''
  subst f2;subst f2';subst f2'';subst f2'''
  have g2:b::clock::bs=g::ck::es.toList.map (·.born):=g2
  injection g2 with g2 g2'
  injection g2' with g2' g2''
  subst g2;subst g2';subst g2''
  obtain ⟨e,e1,e2⟩:=a6n g4 hl
  have hez:e.born=z:=by rw [List.getElem?_map,e1] at hz;injection hz
  have hr:w.heap[r]?=some (.mapIter (some b) since (seen.toArray.push e.born) clock):=by rw [f3,hez];simp
  have hrun:=run_entry_at (P:=P) w r b since seen.toArray es clock e hr g3 (List.mem_of_getElem? e1) g6
  rw [f1] at h1
  obtain ⟨kc,vc',j1,j2,j3,j4⟩:=e2
  injection j1 with _ _ j1
  injection j1 with j1 j1'
  injection j1' with j1'
  subst j1;subst j1'
  refine ⟨.tuple #[e.key,e.val],?_,[e.key,e.val],rfl,e.key,[e.val],rfl,?_,e.val,[],rfl,j4,rfl⟩
  ·generalize a.eval=ρ at h1 ⊢
   simp [execOp,ho,h1,hrun]
  ·rw [j3];exact n9.2 ⟨rfl,rfl⟩
theorem zbn {P:Program} {w0:World} {U0:UX} {nt:Nat} {ops:Array Oper} {o:Oper} {S:Nat→Option AV} {gs:List Nat} {d:Nat} {x:Operand} {n:Nat} {nn:Nat} {b:Nat} {since:Nat} {clock:Nat} {j:Nat} {z:Nat} {k:IntKind} {i:Int} {vc:CV} {l:List CV} {bs:List Nat} {seen:List Nat} (p:Gd w0 U0 nt ops o gs S:=by exact gN rfl) (q:o.dst=some d:=by exact rfl) (t:Nat.blt d nt=true:=by exact rfl) (u:Nat.blt d 100000=true:=by exact rfl) (v:o.op = .entry x:=by exact rfl) (y:ev S x=some (.mref nn):=by exact rfl) (A:S nn=some (.itr b since clock (seen++[z])):=by exact rfl) (B:S n=some (.stm l b clock bs):=by exact rfl) (C:(Nat.ble 200000 n&&Nat.blt n 450000)=true:=by exact rfl) (E:bs[j]?=some z) (F:l[j]?=some (.row [.sc (.int k i),vc])):AOp P w0 U0 nt ops o (gs++(rd x++[nn,n])) [] S [(d,.tup [.sc (.int k i),vc])]:=b4f p q t u v y A B C E F
theorem b2A {id d1:Nat} {o1:Oper} {l2:List Oper} {Q:Exit→AS→Prop} {it:Operand} {n nn b since c0 clock:Nat} {l:List CV} {bs seen:List Nat} {k:IntKind} (hd1:o1.dst=some d1) (ho1:o1.op = .next it false) (hg1:o1.guard=none) (hn1:Nat.blt d1 nt=true) (h51:Nat.blt d1 100000=true) (hit:ev (look s) it=some (.mref nn)) (hI:look s nn=some (.itr b since c0 seen)) (hM:look s n=some (.stm l b clock bs)) (hrn:(Nat.ble 200000 n&&Nat.blt n 450000)=true) (hik:x6 k l) (hsince:∀ x∈bs,x<since) (hsc:since≤c0)
  (hend:(∀ x∈bs,x∈seen)→Run P w0 U0 nt (o1::l2).toArray l2 ((d1,.tup [.b false])::s) [] fun s' _=>Q .normal s')
  (hgo:∀ (j x:Nat) (i:Int) (vc:CV),bs[j]?=some x→l[j]?=some (.row [.sc (.int k i),vc])→x∉seen→Run P w0 U0 nt (o1::l2).toArray l2 ((d1,.tup [.b true,.sc (.int k i),vc])::(nn,.itr b since clock (seen++[x]))::s) [] fun s' _=>Q .normal s') :
  AWp P w0 U0 nt (.region id (o1::l2).toArray false) Q s:=by
 intro M a w ⟨D,hv,h⟩
 refine wpIn_region_lit ?_
 have hrn:=rnF hrn
 have hok2:j5 n:=by unfold RN at hrn;unfold j5;omega
 obtain ⟨hrm,h1,_⟩:RN nn∧a.eval it=hv nn∧(a.eval it).oneCell'=true:=j8 h (fun k _=>rfl) hit
 have hok:j5 nn:=by unfold RN at hrm;unfold j5;omega
 obtain ⟨r,b1,s1,c1,seen1,f1,f2,f3⟩:=(show OX _ _ _ _ from h.obj nn _ hI hok).2.2.1 rfl
 obtain ⟨g,ck,es,g1,g2,g3,g4,g5,g6⟩:=(show OX _ _ _ _ from h.obj n _ hM hok2).2.2.2 rfl
 have f2:b::since::c0::seen=b1::s1::c1::seen1:=f2
 injection f2 with f2 f2'
 injection f2' with f2' f2''
 injection f2'' with f2'' f2'''
 subst f2;subst f2';subst f2'';subst f2'''
 have g2:b::clock::bs=g::ck::es.toList.map (·.born):=g2
 injection g2 with g2 g2'
 injection g2' with g2' g2''
 subst g2;subst g2';subst g2''
 rw [f1] at h1
 unfold wpListIn
 rw [if_pos (by simp [Region.wanted,hg1])]
 refine ⟨fun _ _=>trivial,?_⟩
 rw [Y9,Oper.semAt_eq _ _ _ (fun c hc=>by rw [ho1] at hc;cases hc)]
 have hold:∀ x∈es.toList,x.born<since:=fun x hx=>hsince _ (List.mem_map.2 ⟨x,hx,rfl⟩)
 rcases run_next_at (P:=P) w o1.type r b since c0 seen.toArray es clock f3 g3 hold hsc with ⟨e0,e1⟩ | ⟨e,he,w1,hw1,e1⟩
 ·have hrun:(execOp a.eval o1).run P w = .ok (.value (.tuple #[.bool false])) w:=by
   generalize a.eval=ρ at h1 ⊢
   simp [execOp,ho1,h1,e1]
  rw [hrun]
  show wpListIn _ _ _ _ _ _ _ _
  rw [hd1,←Y6]
  refine U3 (hend fun x hx=>?_) (fun s' t' a w h1 h2=>⟨a,rfl,s',h1,h2⟩) _ _ ⟨D,hv,h.put (bL hn1) (bL h51) ⟨[.bool false],rfl,.bool false,[],rfl,n9.2 ⟨rfl,rfl⟩,rfl⟩⟩
  obtain ⟨e,he,rfl⟩:=List.mem_map.1 hx
  apply Classical.byContradiction
  intro hns
  have hmem:e∈leftOf es seen.toArray:=by
   unfold leftOf
   simp
   exact ⟨by simpa using he,hns⟩
  have:=Array.size_pos_of_mem hmem
  omega
 ·have hrun:(execOp a.eval o1).run P w = .ok (.value (.tuple #[.bool true,e.key,e.val])) (setBlock w1 r (.mapIter (some b) since (seen.toArray.push e.born) clock)):=by
   generalize a.eval=ρ at h1 ⊢
   simp [execOp,ho1,h1,e1]
  rw [hrun]
  show wpListIn _ _ _ _ _ _ _ _
  rw [hd1,←Y6]
  have he2:e∈es.toList∧e.born∉seen:=by
   unfold leftOf at he
   simp at he
   exact ⟨by simpa using he.1,he.2⟩
  obtain ⟨j,hj⟩:=List.getElem?_of_mem he2.1
  have hlj:∃ c,l[j]?=some c∧Ent (Us w0 U0 D) w c e:=by
   have hlen:=a0N g4
   have hjl:j<l.length:=by
    rcases Nat.lt_or_ge j es.toList.length with h | h
    ·rw [←hlen];exact h
    ·rw [List.getElem?_eq_none h] at hj;cases hj
   obtain ⟨e',k1,k2⟩:=a6n g4 (List.getElem?_eq_getElem hjl)
   rw [hj] at k1
   cases k1
   exact ⟨_,List.getElem?_eq_getElem hjl,k2⟩
  obtain ⟨c,hc,hce⟩:=hlj
  obtain ⟨i,vc,rfl⟩:=hik c (List.mem_of_getElem? hc)
  obtain ⟨kc,vc',j1,j2,j3,j4⟩:=hce
  injection j1 with _ _ j1
  injection j1 with j1 j1'
  injection j1' with j1'
  subst j1;subst j1'
  have h2:SimG w0 U0 nt s a w1 D hv:=by
   rcases hw1 with rfl | rfl
   ·exact h
   ·exact h.grow' (Below.drew (Below.refl _ _))
  have hheap:w1.heap=w.heap:=by rcases hw1 with rfl | rfl<;>rfl
  have hrlt:r<w1.heap.size:=by rw [hheap];exact (Array.getElem?_eq_some_iff.1 f3).1
  have h3:=h2.upd (av := .itr b since clock (seen++[e.born])) (w':=setBlock w1 r (.mapIter (some b) since (seen.toArray.push e.born) clock)) hok hI (fun e=>by cases e) (fun e=>by cases e) rfl (fun g hh o ho=>hh o fun e=>by cases e) (fun e=>by cases e) (g:=r) (by rw [f1];rfl) rfl rfl rfl (by simp [setBlock]) (fun q hq=>by simp [setBlock,Array.getElem?_setIfInBounds_ne (Ne.symm hq)]) fun hkp=>⟨⟨(fun e=>by cases e),(fun e=>by cases e)⟩,(fun e=>by cases e),fun _=>⟨r,b,since,clock,seen++[e.born],f1,rfl,by simp [setBlock,hrlt]⟩,(fun e=>by cases e)⟩
  have hval:VRep (Us w0 U0 D) (setBlock w1 r (.mapIter (some b) since (seen.toArray.push e.born) clock)) vc e.val:=by
   refine j4.keep fun b' o' u hu hcell=>⟨hu,?_⟩
   have hne:b'≠r:=fun e=>by
    subst e
    simp [World.cell?,f3] at hcell
   rw [World.cell?_of_block (w:=w) (w':=setBlock w1 r _) (by simp [setBlock,Array.getElem?_setIfInBounds_ne (Ne.symm hne),hheap])]
   exact hcell
  refine U3 (hgo j e.born i vc (by rw [List.getElem?_map,hj];rfl) hc he2.2) (fun s' t' a w h1 h2=>⟨a,rfl,s',h1,h2⟩) _ _ ⟨D,hv,h3.put (bL hn1) (bL h51) ⟨[.bool true,e.key,e.val],rfl,.bool true,_,rfl,n9.2 ⟨rfl,rfl⟩,e.key,_,rfl,?_,e.val,[],rfl,hval,rfl⟩⟩
  rw [j3];exact n9.2 ⟨rfl,rfl⟩
end
end Go.Proofs.YtglmoficcjphaaaGreat
namespace Go.Proofs.YtglmoficcjphaaaGreat
open Go.RowKit Go.MapKept
set_option linter.unusedVariables false
set_option linter.unusedSimpArgs false
def AFunE {Sg:Type} (P:Program) (f:FuncId) (pre:AS) (args:List AV) (R:Sg→Prop) (r:Sg→AV) (post:Sg→AS):Prop:=
 a7S P f∧∀ (U:UX) (w:World) (hv:Nat→Value) (a0:Act) (vs:List Value),(∀ k v,U.f k=some v→l8 (kO pre) k=true)→SimG w U 0 pre a0 w (fun _ _=>False) hv→AVReps (Us w U (fun _ _=>False)) w hv (a8 pre) args vs →
  Calls P f vs.toArray w fun e w'=>∃ σ,R σ∧∃ v D' hv' a',e = .returned v∧SimG w U 0 (post σ) a' w' D' hv'∧AVRep (Us w U D') w' hv' (a8 (post σ)) (r σ) v
section
variable {P:Program} {w0:World} {U0:UX} {nt:Nat} {ops:Array Oper} {o:Oper} {S:Nat→Option AV} {gs:List Nat} {d:Nat} {s:AS} {a:Act} {w:World} {D:Nat→Nat→Prop} {hv:Nat→Value}
theorem I2 {Sg : Type} {R : Sg → Prop} {r : Sg → AV} {post : Sg → AS} {f : FuncId} {fn : Func} {c : Code} {pre : AS} {args : List AV} (hf : P.funcs[f]? = some fn) (hn : fn.ntmps = nt) (hname : (fn.name == "runtime.NumGoroutine") = false) (hb : fn.body = some c) (hl : Nat.ble args.length nt = true) (hnt : Nat.blt nt 100000 = true) (hpre : (kO pre).all (Nat.ble 100000) = true) (hpost : ∀ σ, (kO (post σ)).all (Nat.ble 100000) = true)
  (h:∀ (w:World) (U:UX),(∀ k v,U.f k=some v→l8 (kO pre) k=true)→AWp P w U nt c (fun e s'=>(e = .normal∨e = .ret)∧∃ σ,R σ∧b9X P w U nt fn s' (r σ) (post σ)) (F6 args 0++pre)):AFunE P f pre args R r post:=by
 refine ⟨C6 hf hname (by rw [hb];rfl),fun U w hv a0 vs hU hpS hargs=>?_⟩
 have hlen:=hargs.len
 refine calls_of_wp hf hb ?_
 have hle:=Nat.le_of_ble_eq_true hl
 have hnt:=bL hnt
 have hlow:∀ {k av},look pre k=some av→100000≤k:=fun {k av} h1=>by
  rw [List.all_eq_true] at hpre
  exact Nat.le_of_ble_eq_true (hpre k (d8 h1))
 have hlk:∀ {k},100000≤k→look (F6 args 0++pre) k=look pre k:=fun {k} h1=>by
  rw [a9]
  cases h2:look (F6 args 0) k with
  | none=>rfl
  | some av =>
   obtain ⟨_,h3⟩:=x8 h2
   rw [Nat.sub_zero,List.getElem?_eq_none (by omega)] at h3
   cases h3
 have hlive:a8 (F6 args 0++pre)=a8 pre:=by
  funext n
  unfold a8 s7
  apply propext
  constructor
  ·rintro (h1 | ⟨e,h1,h2,h3⟩)
   ·exact .inl h1
   ·rw [hlk (by omega)] at h1;exact .inr ⟨e,h1,h2,h3⟩
  ·rintro (h1 | ⟨e,h1,h2,h3⟩)
   ·exact .inl h1
   ·exact .inr ⟨e,by rw [hlk (by omega)];exact h1,h2,h3⟩
 have hs:Sim w U nt (F6 args 0++pre) { tmps:=vs.toArray++Array.replicate (fn.ntmps-vs.toArray.size) undef,defers:=[] } w:=by
  refine ⟨fun _ _=>False,hv,hpS.below,rfl,by simp [hn];omega,fun d av h1 h2=>?_,fun n o av h1 h2 h3 h4=>?_,fun n o o' av av' h1 h2=>?_,fun k av h1 h2=>?_,fun k av g h1 h2=>?_,fun k k' av av' g h1 h2 h3 h4=>?_,hpS.fix,fun b o hd=>hd.elim⟩
  ·rw [a9] at h1
   cases h3:look (F6 args 0) d with
   | none =>
    rw [h3] at h1
    have:=hlow h1
    omega
   | some av' =>
    rw [h3] at h1
    cases h1
    obtain ⟨_,h4⟩:=x8 h3
    rw [Nat.sub_zero] at h4
    obtain ⟨v,h6,h7⟩:=hargs.at h4
    have hdl:d<vs.length:=by
     rcases Nat.lt_or_ge d vs.length with h | h
     ·exact h
     ·rw [List.getElem?_eq_none h] at h6;cases h6
    rw [hlive]
    refine ⟨v,?_,h7⟩
    rw [Array.getElem?_append_left (by simpa using hdl)]
    simpa using h6
  ·rw [hlk (by unfold b9;omega)] at h1
   rw [hlk (by omega)] at h3
   rw [hlive]
   exact hpS.fld n o av h1 h2 h3 h4
  ·rw [hlk (by unfold b9;omega)] at h1 h2
   exact hpS.fdis n o o' av av' h1 h2
  ·rw [hlk h2.1] at h1;rw [hlive];exact hpS.obj k av h1 h2
  ·rw [hlk h2.1] at h1;exact hpS.blk k av g h1 h2
  ·rw [hlk h3.1] at h1;rw [hlk h4.1] at h2;exact hpS.disj k k' av av' g h1 h2 h3 h4
 refine wp_mono ((h w U hU ⟨none,[]⟩ _ w hs).wp rfl (fun e a w ⟨s,_,h⟩=>h.df)) ?_
 rintro e a' w' ⟨s',⟨h1,σ,hσ,s2,g1,g2,g3⟩,h3⟩
 obtain ⟨D',hv',h4⟩:=g1 a' w' h3
 obtain ⟨v,h5,h6⟩:=V5 h4 g2
 have hS:=h4.sub g3.sub
 have hpost:=hpost σ
 have hlow2:∀ {k av},look (post σ) k=some av→100000≤k:=fun {k av} h1=>by
  rw [List.all_eq_true] at hpost
  exact Nat.le_of_ble_eq_true (hpost k (d8 h1))
 have hS0:SimG w U 0 (post σ) ⟨#[],[]⟩ w' D' hv':=⟨hS.below,rfl,rfl,fun d av h7 h8=>by have:=hlow2 h7;omega,hS.fld,hS.fdis,hS.obj,hS.blk,hS.disj,hS.fix,hS.dlt⟩
 rcases h1 with rfl | rfl
 ·exact ⟨h4.dfr,v,h5,σ,hσ,v,D',hv',_,rfl,hS0,h6.move (fun _ _ _ h1 h2=>⟨h1,h2⟩) (fun _ h7=>h7.imp id fun ⟨e,he⟩=>⟨e,g3.sub _ _ he.1,he.2⟩) fun _=>rfl⟩
 ·exact ⟨h4.dfr,v,h5,σ,hσ,v,D',hv',_,rfl,hS0,h6.move (fun _ _ _ h1 h2=>⟨h1,h2⟩) (fun _ h7=>h7.imp id fun ⟨e,he⟩=>⟨e,g3.sub _ _ he.1,he.2⟩) fun _=>rfl⟩
theorem N0 (hg:Gd w0 U0 nt ops o gs S) (hd:o.dst=some d) (hn:Nat.blt d nt=true) (h5:Nat.blt d 100000=true) {x:Operand} {ts:Array TypeId} {t kt et:TypeId} {n:Nat} {l:List CV} (ho:o.op = .call { callee := .builtin .len,args := #[x],argTypes:=ts }) (ht:ts[0]?=some t) (hu:P.underlying t=some (.map kt et)) (hx:ev S x=some (.mref n)) (hm':S n=some (.mp l)):AOp P w0 U0 nt ops o (gs++(rd x++[n])) [] S [(d,.val (.i l.length))]:=
 i8 hg hd hn h5 (fun k hk=>List.mem_append_left _ hk) fun s hs a w D hv hm=>by
  obtain ⟨hrn,h1,_⟩:RN n∧a.eval x=hv n∧(a.eval x).oneCell'=true:=j8 hm (fun k hk=>hs k (List.mem_append_right _ (List.mem_append_left _ hk))) hx
  have hok:j5 n:=by unfold RN at hrn;unfold j5;omega
  obtain ⟨g,es,clock,g1,g2,g3,g4,g5⟩:∃ g es clock,hv n = .map (some g)∧w.heap[g]?=some (.map es clock)∧Ents (Us w0 U0 D) w l es.toList∧(∀ e∈es,e.born<clock)∧(es.toList.map (fun e:MapEntry=>e.born)).Nodup:=hm.obj n _ ((hs n (by simp)).trans hm') hok
  rw [g1] at h1
  have hge:=Go.MapKept.run_getObj_map (P:=P) g2
  have hlen:es.size=l.length:=by have:=a0N g3;simpa using this
  refine ⟨.int .i64 (l.length:Int),?_,q8 rfl⟩
  generalize a.eval=ρ at h1 ⊢
  simp [execOp,ho,resolve,invoke,builtin,Builtin.len_,ht,h1,hge,hlen,goInt,run_underlying hu,go_sem]
theorem zbl {P:Program} {w0:World} {U0:UX} {nt:Nat} {ops:Array Oper} {o:Oper} {S:Nat→Option AV} {gs:List Nat} {d:Nat} {x:Operand} {ts:Array TypeId} {t:TypeId} {kt:TypeId} {et:TypeId} {n:Nat} {l:List CV} (p:Gd w0 U0 nt ops o gs S:=by exact gN rfl) (q:o.dst=some d:=by exact rfl) (r:Nat.blt d nt=true:=by exact rfl) (u:Nat.blt d 100000=true:=by exact rfl) (v:o.op = .call { callee := .builtin .len,args := #[x],argTypes:=ts }:=by exact rfl) (y:ts[0]?=some t:=by exact rfl) (z:P.underlying t=some (.map kt et):=by exact rfl) (A:ev S x=some (.mref n):=by exact rfl) (B:S n=some (.mp l):=by exact rfl):AOp P w0 U0 nt ops o (gs++(rd x++[n])) [] S [(d,.val (.i l.length))]:=N0 p q r u v y z A B
theorem a8w {M:Md} {ops:Array Oper} {Q:Exit→Act→World→Prop} {l2:List Oper}:∀ {l:List Oper} {s:AS} {acc:List (List Nat×List (Nat×List Nat)×AS)} {K:AS→List (List Nat×List (Nat×List Nat)×AS)→Prop},Run P w0 U0 nt ops l s acc K→(∀ s' t' a w,K s' t'→Sim w0 U0 nt s' a w→wpListIn (B0 M.r) 1 P ops Q l2 (wdA a M.ds) w)→∀ a w,Sim w0 U0 nt s a w→wpListIn (B0 M.r) 1 P ops Q (l++l2) (wdA a M.ds) w
 | [],s,acc,K,h,hK,a,w,hs=>hK s acc a w h hs
 | o::os,s,acc,K,⟨R,N,e,h1,h2,h3⟩,hK,a,w,hs=>by
  rw [List.cons_append]
  unfold wpListIn
  exact b0u (h1 s (fun _ _=>rfl) (p6 h2)) hs (fun a' w' hs'=>a8w h3 hK a' w' hs')
theorem s9 {Sg:Type} {R:Sg→Prop} {r:Sg→AV} {post:Sg→AS} {id:Nat} {l:List Oper} {Q:Exit→AS→Prop} (j:Nat) {f:FuncId} {xs:Array Operand} {ts:Array TypeId} {pre:AS} {args:List AV} {dd:Nat} {oo:Oper} (hj:l[j]?=some oo) (hgo:oo.guard=none) (hdo:oo.dst=some dd) (hnd:Nat.blt dd nt=true) (h5d:Nat.blt dd 100000=true)
  (hoo:oo.op = .call { callee := .value (.func f),args:=xs,argTypes:=ts }) (hc:AFunE P f pre args R r post) (hl:pre.all E2=true) (hq:∀ σ,(post σ).all (F4 (kO (post σ)))=true) (hks:∀ σ,(kO pre).all (l8 (kO (post σ)))=true) (hr:∀ σ,a4o (kO (post σ)) (r σ)=true) (hnb:∀ σ k v,U0.f k=some v→l8 (kO (post σ)) k=true→l8 (kO pre) k=true)
  (h:Run P w0 U0 nt l.toArray (l.take j) s [] fun s1 _=>a6K (look s1) xs.toList=some args∧SubL s1 pre∧∀ σ,R σ→A6 s1 (E0 (kO pre) (kO (post σ)) (kO (post σ)))=true∧Run P w0 U0 nt l.toArray (l.drop (j+1)) ((dd,r σ)::(post σ++s1)) [] fun s' _=>Q .normal s'):AWp P w0 U0 nt (.region id l.toArray false) Q s:=by
 intro M a w hs
 refine wpIn_region_lit ?_
 have hsplit:l=l.take j++oo::l.drop (j+1):=by
  have hjl:j<l.length:=by
   rcases Nat.lt_or_ge j l.length with h | h
   ·exact h
   ·rw [List.getElem?_eq_none h] at hj;cases hj
  conv=>lhs;rw [←List.take_append_drop j l]
  congr 1
  rw [List.drop_eq_getElem_cons hjl]
  rw [List.getElem?_eq_getElem hjl] at hj
  injection hj with hj
  rw [hj]
 have key:wpListIn (B0 M.r) 1 P l.toArray (a6S M fun e a' w'=>∃ s',Q e s'∧Sim w0 U0 nt s' a' w') (l.take j++oo::l.drop (j+1)) (wdA a M.ds) w:=by
  refine a8w h ?_ a w hs
  rintro s1 _ a w ⟨hx,hp,hrest⟩ ⟨D,hv,h⟩
  have hargs:=a0C h (fun k _=>rfl) hx
  have hsub:Sub s1 pre:=hp.sub
  obtain ⟨V,v1,v2,v3,v4,v5,v6⟩:=h.lend hsub hl
  obtain ⟨h1,h2⟩:=hc
  have hcall:=h2 V w hv ⟨#[],[]⟩ _ v1 v2 (hargs.imp fun c _ v hcv=>hcv.move v6 (fun _ h3=>h3.imp (fun h=>h) fun ⟨e,he⟩=>⟨e,hsub _ _ he.1,he.2⟩) fun _=>rfl)
  have he:(execOp a.eval oo).run P w = .ok (.enter f (xs.toList.map a.eval).toArray) w:=by
   have hf:a.eval (.func f) = .func (.func f) #[] #[]:=rfl
   have hen:=h1 (xs.map a.eval) w
   have harr:(xs.toList.map a.eval).toArray=xs.map a.eval:=by apply Array.ext';simp
   rw [harr]
   generalize a.eval=ρ at hf hen ⊢
   simp [execOp,hoo,resolve,invoke,Deferred.ofValue,hf,hen]
  unfold wpListIn
  rw [if_pos (by simp [Region.wanted,hgo])]
  refine ⟨fun _ _=>trivial,?_⟩
  rw [Y9,Oper.semAt_eq _ _ _ (fun c hc=>by rw [hoo] at hc;cases hc),he]
  refine ⟨(fun hh=>by cases hh),a5A (hcall.mono ?_)⟩
  rintro e w' ⟨σ,hσ,v,D',hv',a',rfl,h6,h7⟩
  obtain ⟨hnr,hrun⟩:=hrest σ hσ
  show wpListIn _ _ _ _ _ _ _ _
  rw [hdo,←Y6]
  obtain ⟨D2,hv2,h8,h9,_⟩:=h.back hsub hl (hq σ) (hks σ) (p6 hnr) (hnb σ) v3 v4 v5 v2 h6
  exact U3 hrun (fun s' t' a w h1 h2=>⟨a,rfl,s',h1,h2⟩) _ _ ⟨D2,hv2,h8.put (bL hnd) (bL h5d) (h9 (r σ) v (hr σ) h7)⟩
 rw [←hsplit] at key
 exact key
end
end Go.Proofs.YtglmoficcjphaaaGreat
namespace Go.Proofs.YtglmoficcjphaaaGreat
open Go.RowKit
set_option linter.unusedVariables false
set_option linter.unusedSimpArgs false
set_option maxRecDepth 100000
noncomputable abbrev a8m (b ck:Nat) (bs:List Nat) (c:Cl):AS:=[(450001,.obj),(35500100,.sl 400001 0 c.ns.length 5),(35500101,.mref 300003),(35500102,.sl 300002 0 c.ps.length 2),(400001,.mrow 140 5 (c.ns.map Nd.cv)),(300003,.stm (c.vr.map vrv) b ck bs),(300002,.mrow 164 2 (c.ps.map psv))]
set_option maxHeartbeats 2000000 in
theorem b0f (b ck:Nat) (bs:List Nat) (vr:List (Int×Nat)) (ps:List (Nat×Nat)) (k:Nat) (ns:List Nd) (n:Nat) (r:List Nd×Nat) (hc:n8 k ns n=some r) (hup:upOk ns) (hn:n<ns.length) (hl:ns.length≤1000000):p9 Tryz.prog 105 (a8m b ck bs ⟨ns,vr,ps⟩) [.bp 350001 0 [],.val (.i (n:Int))] (.val (.i (r.2:Int))) (a8m b ck bs ⟨r.1,vr,ps⟩):=by
 refine k9 Tryz.func105 Tryz.ntmps105 rfl rfl rfl rfl rfl rfl ?_
 intro w U hU
 refine aS (aR ?_)
 refine nc ze ?_
 refine aS (aB (l6 (fun j s=>∃ ns n,n8 j ns n=some r∧upOk ns∧n<ns.length∧ns.length≤1000000∧s=(0,AV.bp 350001 0 [])::(1,.val (.i (n:Int)))::a8m b ck bs ⟨ns,vr,ps⟩) (n:=k) (s':=(0,AV.bp 350001 0 [])::(1,.val (.i (n:Int)))::a8m b ck bs ⟨ns,vr,ps⟩) (a7 ⟨rfl,rfl,rfl,rfl,rfl,rfl,rfl,rfl,rfl,trivial⟩) ⟨ns,n,hc,hup,hn,hl,rfl⟩ ?_))
 rintro j s ⟨ns,n,hc,hup,hn,hl,rfl⟩
 cases j with
 | zero=>cases hc
 | succ j =>
 rw [n8] at hc
 obtain ⟨x,hx⟩:=N4 hn
 have hx':=Nd.map_at hx
 have hxu:nU ns n=x.up:=by unfold nU;rw [o9 hx]
 have hlm:(ns.map Nd.cv).length=ns.length:=List.length_map ..
 refine aS (aS (aR ?_))
 refine nc zl (nc z4 (nc zg (nc z5 (nc zl (nc (zI (k:=n)) (nc z3 (nc (zJ (G:=hx')) (nc zl (nc z7 ?_)))))))))
 refine aC rfl (fun hne=>?_) (fun hne=>?_)
 ·have hne:x.up≠n:=by
   intro e
   rw [e] at hne
   simp at hne
  rw [if_neg (by rw [hxu];exact hne)] at hc
  have hy0:x.up<ns.length:=by rw [←hxu];exact hup n hn
  obtain ⟨y,hy⟩:=N4 hy0
  have hy':=Nd.map_at hy
  have hyu:nU ns (nU ns n)=y.up:=by rw [hxu];unfold nU;rw [o9 hy]
  rw [hyu] at hc
  have hyl:y.up<ns.length:=by rw [←hyu];exact hup _ (by rw [hxu];exact hy0)
  refine aK ?_
  refine aB (aS (aD (by kernel_rfl) (by kernel_rfl) ?_))
  refine nc zl (nc z4 (nc zg (nc z5 (nc zl (nc zl (nc z4 (nc zg (nc z5 (nc zl (nc z4 (nc zg (nc z5 (nc zl (nc (zI (k:=n)) (nc z3 (nc (zJ (G:=hx')) (nc (zI (k:=x.up)) (nc z3 (nc (zJ (G:=hy')) (nc (zI (k:=n)) (nc z3 (nc (zN (F:=hx')) ?_))))))))))))))))))))))
  refine ⟨by kernel_rfl,?_⟩
  obtain ⟨ns1,h1⟩:∃ ns1,ns1=setUp ns n y.up:=⟨_,rfl⟩
  have hm1:ns1.map Nd.cv=(ns.map Nd.cv).set n (Nd.cw { x with up:=y.up }):=by rw [h1];exact O3 hx
  have hl1:ns1.length=ns.length:=by rw [h1,F9]
  have hx1:ns1[n]?=some { x with up:=y.up }:=by rw [h1];exact a8z hx
  have hx1':=Nd.map_at hx1
  have hxu1:nU ns1 n=y.up:=by unfold nU;rw [o9 hx1]
  rw [←h1,hxu1] at hc
  have hlm1:(ns1.map Nd.cv).length=ns1.length:=List.length_map ..
  refine AWp.wk (a7 (s':=(0,AV.bp 350001 0 [])::(1,.val (.i (n:Int)))::a8m b ck bs ⟨ns1,vr,ps⟩) ⟨rfl,rfl,rfl,?_,rfl,rfl,?_,rfl,rfl,trivial⟩) ?_
  ·show _=some (AV.sl 400001 0 ns1.length 5);rw [hl1];rfl
  ·show _=some (AV.mrow 140 5 (ns1.map Nd.cv));rw [hm1];rfl
  refine aR ?_
  refine nc zl (nc z4 (nc zg (nc z5 (nc zl (nc (zI (k:=n)) (nc z3 (nc (zJ (G:=hx1')) (nc ze ?_))))))))
  exact ⟨j,(0,AV.bp 350001 0 [])::(1,.val (.i (y.up:Int)))::a8m b ck bs ⟨ns1,vr,ps⟩,by omega,⟨ns1,y.up,hc,by rw [h1];exact hup.set hyl,by rw [hl1];exact hyl,by rw [hl1];exact hl,rfl⟩,a7 ⟨rfl,rfl,rfl,rfl,rfl,rfl,rfl,rfl,rfl,trivial⟩⟩
 ·have hne:x.up=n:=by
   have:=of_decide_eq_false hne
   simp only [ne_eq,Decidable.not_not] at this
   omega
  rw [if_pos (by rw [hxu];exact hne)] at hc
  cases hc
  refine aE ?_
  refine aS (aR ?_)
  refine nc zl (nc ze ?_)
  exact aT ⟨.inr rfl,_,Wk.refl _,rfl,rfl,rfl,rfl,rfl,rfl,rfl,rfl,trivial⟩
def J7 (vr:List (Int×Nat)) (g:Nat→Tm) (js:List Nat):List Bd:=js.map fun j=>⟨(vr.getD j (0,0)).1,g (vr.getD j (0,0)).2⟩
theorem b5q {l:List Nat} (h:l.Nodup):∀ {i j x:Nat},l[i]?=some x→l[j]?=some x→i=j:=by
 induction l with
 | nil=>intro i j x h1;simp at h1
 | cons y l ih =>
  intro i j x h1 h2
  rw [List.nodup_cons] at h
  cases i with
  | zero =>
   cases j with
   | zero=>rfl
   | succ j =>
    simp at h1 h2
    subst h1
    exact absurd (List.mem_of_getElem? h2) h.1
  | succ i =>
   cases j with
   | zero =>
    simp at h1 h2
    subst h2
    exact absurd (List.mem_of_getElem? h1) h.1
   | succ j =>
    simp at h1 h2
    rw [ih h.2 h1 h2]
theorem a9L {n:Nat} {js:List Nat} (hn:js.Nodup) (hl:∀ j∈js,j<n) (ha:∀ j,j<n→j∈js):js.Perm (List.range n):=
 (List.perm_ext_iff_of_nodup hn List.nodup_range).2 fun j=>by
  rw [List.mem_range]
  exact ⟨hl j,ha j⟩
theorem a5g {n:Nat} {l:List Nat} (hn:l.Nodup) (hl:∀ j∈l,j<n):l.length≤n:=by
 have h:l.Perm ((List.range n).filter fun x=>decide (x∈l)):=(List.perm_ext_iff_of_nodup hn (List.nodup_range.filter _)).2 fun x=>by
  rw [List.mem_filter,List.mem_range,decide_eq_true_eq]
  exact ⟨fun h=>⟨hl x h,h⟩,fun h=>h.2⟩
 have h2:=List.length_filter_le (fun x=>decide (x∈l)) (List.range n)
 rw [h.length_eq]
 rw [List.length_range] at h2
 exact h2
theorem a9o {vr:List (Int×Nat)} {g:Nat→Tm} {js:List Nat} (h:js.Perm (List.range vr.length)):∃ vr':List (Int×Nat),vr'.Perm vr∧J7 vr g js=vr'.map fun p=>(⟨p.1,g p.2⟩:Bd):=by
 refine ⟨js.map fun j=>vr.getD j (0,0),?_,by unfold J7;rw [List.map_map];rfl⟩
 refine (h.map _).trans ?_
 have:(List.range vr.length).map (fun j=>vr.getD j (0,0))=vr:=by
  apply List.ext_getElem?
  intro i
  rw [List.getElem?_map]
  rcases Nat.lt_or_ge i vr.length with hi | hi
  ·rw [List.getElem?_range hi,Option.map_some,List.getD_eq_getElem?_getD,List.getElem?_eq_getElem hi];rfl
  ·rw [List.getElem?_eq_none (by simpa using hi),List.getElem?_eq_none hi];rfl
 rw [this]
set_option maxHeartbeats 8000000 in
theorem b3a (fu:Nat) (c0:Cl) (od:List Nat) (q:Cl×List Tm) (hq:A7 fu od.reverse c0 (List.replicate c0.ns.length tm0)=some q) (hF:FitU c0) (hlq:q.1.ns.length=c0.ns.length) (hod:∀ n∈od,n<c0.ns.length) (hol:od.length≤1000) {H r:Nat→Nat} {E} (hC:ClsC q.1 H r E) (hFq:FitU q.1) (hvr:Q4 q.1.vr) (hvl:q.1.vr.length≤100000) :
  AFunE (Sg:=List Bd×Cl) Tryz.prog 73 (r5 c0) [.bp 350001 0 [],.val (l9 od)] (fun σ=>∃ vr':List (Int×Nat),vr'.Perm q.1.vr∧σ.1=vr'.map fun p=>(⟨p.1,q.2.getD (H p.2) tm0⟩:Bd)) (fun σ => .val (.lst (σ.1.map Bd.cv))) (fun σ=>r5 σ.2):=by
 have hterms:=a9x fu c0 od q hq hF hlq hod hol
 have hout:q.2.length=c0.ns.length:=(TI.all (t:=(c0,List.replicate c0.ns.length tm0)) (N:=c0.ns.length) ⟨hF,by simp,Nat.le_refl _⟩ (fun n hn=>hod n (List.mem_reverse.1 hn)) hq).1.out
 obtain ⟨N,hN⟩:∃ N,N=c0.ns.length:=⟨_,rfl⟩
 have hNl:N≤1000:=by rw [hN];exact Nat.le_trans (C5 _) hF.big
 rw [←hN] at hterms hlq hout
 obtain ⟨c,out⟩:=q
 simp only at hC hFq hvr hvl hlq hout hterms ⊢
 obtain ⟨ns0,vr,ps⟩:=c
 simp only at hC hFq hvr hvl hlq hout hterms ⊢
 have hvm:∀ (j:Nat) (p:Int×Nat),vr[j]?=some p→p.2<N:=fun j p hp=>by
  have:=(N9 hvr.1 (v:=p.1) (m:=p.2)).2 (List.mem_of_getElem? hp)
  have:=(hC.vrt p.1 p.2 this).1
  simp only at this
  omega
 have hlv:(vr.map vrv).length=vr.length:=List.length_map ..
 refine I2 Tryz.func73 Tryz.ntmps73 rfl rfl rfl rfl rfl (fun σ=>rfl) ?_
 intro w U hU
 refine aS (aR ?_)
 refine nc ze ?_
 refine aS (aR ?_)
 refine nc zl (nc zl (nc (z0 (z:=hterms) (G:=i7 (by first | rfl | kernel_rfl))) (nc ze ?_)))
 refine aS (aR ?_)
 refine nc zl (nc z4 (nc zg (nc z5 (nc zbl (ne (zbk (k:=(vr.map vrv).length) 200017) (nc ze ?_))))))
 refine AWp.wk ((a7 (s':=(0,AV.bp 350001 0 [])::(5,.sl 300005 0 N 2)::(6,.sl 200017 0 0 3)::(200017,.mrow 99 3 [])::(300005,.mrow 42 2 (out.map Tm.cv))::r5 ⟨ns0,vr,ps⟩) ⟨rfl,rfl,rfl,rfl,rfl,rfl,rfl,rfl,rfl,rfl,rfl,rfl,trivial⟩).trans (v7 300001 400001 rfl rfl (b5O hU (by kernel_rfl)) (by kernel_rfl) (by kernel_rfl) (by kernel_rfl))) ?_
 refine AWp.stamps 300003 (l:=vr.map vrv) rfl rfl fun b ck bs hbl hbn hbc=>?_
 rw [hlv] at hbl
 refine aS (aS (aR ?_))
 refine nc zl (nc z4 (nc zg (nc z5 (ne (zbm 300022) ?_))))
 obtain ⟨g,hg⟩:∃ g:Nat→Tm,g=fun m=>out.getD (H m) tm0:=⟨_,rfl⟩
 obtain ⟨st,hst⟩:∃ st:List Nat→List Nd→AS,st=fun js ns1=>(0,AV.bp 350001 0 [])::(5,.sl 300005 0 N 2)::(6,.sl 200017 0 js.length 3)::(22,.mref 300022)::(300022,.itr b ck ck (js.map fun j=>bs.getD j 0))::(200017,.mrow 99 3 ((J7 vr g js).map Bd.cv))::(300005,.mrow 42 2 (out.map Tm.cv))::a8m b ck bs ⟨ns1,vr,ps⟩:=⟨_,rfl⟩
 refine aB (l6 (fun m s=>∃ js ns1,m+js.length=vr.length∧js.Nodup∧(∀ j∈js,j<vr.length)∧ClsC ⟨ns1,vr,ps⟩ H r E∧FitU ⟨ns1,vr,ps⟩∧ns1.length=N∧s=st js ns1) (n:=vr.length) (s':=st [] ns0) (by rw [hst];exact a7 ⟨rfl,rfl,rfl,rfl,rfl,rfl,rfl,rfl,rfl,rfl,rfl,rfl,rfl,rfl,trivial⟩) ⟨[],ns0,rfl,List.nodup_nil,(fun j hj=>by cases hj),hC,hFq,hlq,rfl⟩ ?_)
 rintro m s ⟨js,ns1,hm,hjn,hjl,hC1,hF1,hl1,rfl⟩
 rw [hst]
 refine aS (b2A (n:=300003) (k := .i64) rfl rfl rfl rfl rfl rfl rfl rfl rfl (a3b vr) hbc (Nat.le_refl _) (fun hall=>?_) (fun j x i vc hj hl hx=>?_))
 ·refine ⟨_,_,_,aX (gN rfl) rfl rfl rfl rfl rfl rfl,(by first | rfl | kernel_rfl),?_⟩
  refine aS (aC rfl (fun hc=>by cases hc) (fun _=>aE ?_))
  have hcov:∀ j,j<vr.length→j∈js:=fun j hj=>by
   have hjb:j<bs.length:=by omega
   have h1:=hall (bs[j]) (List.getElem_mem hjb)
   obtain ⟨j',h2,h3⟩:=List.mem_map.1 h1
   have hj':=hjl j' h2
   have hjb':j'<bs.length:=by omega
   rw [List.getD_eq_getElem?_getD,List.getElem?_eq_getElem hjb'] at h3
   have h3:bs[j']=bs[j]:=h3
   have:=b5q hbn (List.getElem?_eq_getElem hjb') (by rw [h3];exact List.getElem?_eq_getElem hjb)
   rw [←this];exact h2
  obtain ⟨vr',hp,hb⟩:=a9o (g:=g) (a9L hjn hjl hcov)
  have hbl2:((J7 vr g js).map Bd.cv).length=js.length:=by rw [List.length_map];unfold J7;rw [List.length_map]
  refine AWp.wk (a6Y 6 200017 rfl rfl rfl (.inr (by decide)) (by rw [hbl2];omega) (s':=a8m b ck bs ⟨ns1,vr,ps⟩) ⟨rfl,rfl,rfl,rfl,rfl,rfl,rfl,trivial⟩ (by kernel_rfl)) ?_
  rw [List.drop_zero,List.take_of_length_le (by rw [hbl2];omega)]
  refine aS (aR ?_)
  refine nc zl (nc ze ?_)
  refine aT ⟨.inr rfl,(J7 vr g js,⟨ns1,vr,ps⟩),⟨vr',hp,by rw [hb,hg]⟩,_,((a7 (s':=(4,AV.val (.lst ((J7 vr g js).map Bd.cv)))::a8m b ck bs ⟨ns1,vr,ps⟩) ⟨rfl,rfl,rfl,rfl,rfl,rfl,rfl,rfl,trivial⟩).trans (b5f 300003 rfl rfl)).trans ((a7 (s':=(4,AV.val (.lst ((J7 vr g js).map Bd.cv)))::M5 ⟨ns1,vr,ps⟩) ⟨rfl,rfl,rfl,rfl,rfl,rfl,rfl,rfl,trivial⟩).trans (v7 400001 300001 rfl rfl (a4D U (by decide)) (by kernel_rfl) (by kernel_rfl) (by kernel_rfl))),rfl,rfl,rfl,rfl,rfl,rfl,rfl,rfl,trivial⟩
 ·refine ⟨_,_,_,aX (gN rfl) rfl rfl rfl rfl rfl rfl,(by first | rfl | kernel_rfl),?_⟩
  refine aS (aC rfl (fun _=>aK ?_) (fun hc=>by cases hc))
  have hjl2:j<vr.length:=by
   rcases Nat.lt_or_ge j bs.length with h | h
   ·omega
   ·rw [List.getElem?_eq_none h] at hj;cases hj
  obtain ⟨p,hp⟩:∃ p,vr[j]?=some p:=⟨vr[j],List.getElem?_eq_getElem hjl2⟩
  have hpi:i=p.1∧vc = .i (p.2:Int):=by
   rw [List.getElem?_map,hp] at hl
   have hl:some (CV.row [.i p.1,.i (p.2:Int)])=some (.row [.sc (.int .i64 i),vc]):=hl
   injection hl with hl
   injection hl with _ _ hl
   injection hl with hl hl'
   injection hl' with hl'
   injection hl with _ hl
   injection hl with _ hl
   exact ⟨hl.symm,hl'.symm⟩
  obtain ⟨rfl,rfl⟩:=hpi
  have hpN:=hvm j p hp
  obtain ⟨ns2,hd,hC2,hl2,_⟩:=ClsC.head (r p.2+1) hC1 (n:=p.2) (by omega) (by omega)
  obtain ⟨hF2,_,hr2⟩:=FitU.head hF1 (by omega) hd
  have hHN:H p.2<N:=by have:H p.2<ns1.length:=hr2;omega
  have hdc:=b0f b ck bs vr ps (r p.2+1) ns1 p.2 (ns2,H p.2) hd hF1.up (by omega) (by omega)
  obtain ⟨z,hz⟩:∃ z,out[H p.2]?=some z:=⟨out[H p.2]'(by omega),List.getElem?_eq_getElem (by omega)⟩
  have hz':=Tm.map_at hz
  have hlo:(out.map Tm.cv).length=out.length:=List.length_map ..
  have hgz:g p.2=z:=by rw [hg];show out.getD (H p.2) tm0=z;rw [List.getD_eq_getElem?_getD,hz];rfl
  have hbl2:((J7 vr g js).map Bd.cv).length=js.length:=by rw [List.length_map];unfold J7;rw [List.length_map]
  have hbl3:(J7 vr g js).length=js.length:=by unfold J7;rw [List.length_map]
  have hbz:=Bd.size_all (J7 vr g js)
  have hjs:js.length≤100000:=by omega
  have hnotin:j∉js:=fun hmem=>hx (List.mem_map.2 ⟨j,hmem,by rw [List.getD_eq_getElem?_getD,hj];rfl⟩)
  have hsnoc:J7 vr g (js++[j])=J7 vr g js++[⟨p.1,z⟩]:=by
   unfold J7
   rw [List.map_append,List.map_singleton,List.getD_eq_getElem?_getD,hp]
   show _++[(⟨p.1,g p.2⟩:Bd)]=_
   rw [hgz]
  have hnd:(js++[j]).Nodup:=by
   rw [List.nodup_append]
   exact ⟨hjn,by simp,fun a ha b hb=>by rw [List.mem_singleton] at hb;subst hb;exact fun e=>hnotin (e▸ha)⟩
  have hlt:∀ x∈js++[j],x<vr.length:=fun x hx=>by
   rcases List.mem_append.1 hx with h | h
   ·exact hjl x h
   ·rw [List.mem_singleton] at h;omega
  refine aB (aS (aR ?_))
  refine nc (zbn (n:=300003) (E:=hj) (F:=hl)) (nc zx (nc zx (nc ze (nc ze ?_))))
  refine aR ?_
  refine nc zl (nc zl (nc zl (nc zl (nc zl (nc (z0 (z:=hdc) (G:=i7 (by first | rfl | kernel_rfl))) (nc (zI (k:=H p.2)) (nc (zJ (G:=hz')) (nc zn (nc zD (ne (z9 200038) (nc ze ?_)))))))))))
  refine ⟨m-1,st (js++[j]) ns2,?_,⟨js++[j],ns2,?_,?_,?_,hC2,hF2,by omega,by rw [hst]⟩,?_⟩
  ·have h2:=a5g hnd hlt
   rw [List.length_append] at h2
   simp at h2
   omega
  ·have h2:=a5g hnd hlt
   rw [List.length_append] at h2 ⊢
   simp at h2 ⊢
   omega
  ·exact hnd
  ·exact hlt
  ·rw [hst]
   refine (a7 (s':=(0,AV.bp 350001 0 [])::(5,.sl 300005 0 N 2)::(6,.sl 200038 0 (js++[j]).length 3)::(22,.mref 300022)::(300022,.itr b ck ck ((js++[j]).map fun j=>bs.getD j 0))::(200038,.mrow 99 3 ((J7 vr g (js++[j])).map Bd.cv))::(300005,.mrow 42 2 (out.map Tm.cv))::a8m b ck bs ⟨ns2,vr,ps⟩) ⟨rfl,rfl,?_,rfl,?_,?_,rfl,rfl,rfl,rfl,rfl,rfl,rfl,rfl,trivial⟩).trans (A8 200038 200017 rfl rfl (by kernel_rfl) (by kernel_rfl))
   ·rw [List.length_append,←hbl2];rfl
   ·rw [List.map_append,List.map_singleton,List.getD_eq_getElem?_getD,hj];rfl
   ·rw [hsnoc,List.map_append,List.map_singleton];rfl
def swG (n a b:Nat) (G:Nat→Option Bd) (t:Nat):Option Bd:=if a≤t∧t<a+n then G (t-a+b) else if b≤t∧t<b+n then G (t-b+a) else G t
def rtG (a m b:Nat) (G:Nat→Option Bd) (t:Nat):Option Bd:=if a≤t∧t<a+(b-m) then G (t-a+m) else if a+(b-m)≤t∧t<b then G (t-(b-m)) else G t
theorem b3D {n a b:Nat} (h:a+n<b) (G:Nat→Option Bd) (t:Nat):swG (n+1) a b G t=if t=a+n then G (b+n) else if t=b+n then G (a+n) else swG n a b G t:=by
 unfold swG
 by_cases h1:t=a+n
 ·subst h1
  rw [if_pos (by omega),if_pos rfl,show a+n-a+b=b+n by omega]
 ·rw [if_neg h1]
  by_cases h2:t=b+n
  ·subst h2
   rw [if_neg (by omega),if_pos (by omega),if_pos rfl,show b+n-b+a=a+n by omega]
  ·rw [if_neg h2]
   by_cases h3:a≤t∧t<a+n
   ·rw [if_pos (by omega),if_pos h3]
   ·rw [if_neg (by omega),if_neg h3]
    by_cases h4:b≤t∧t<b+n
    ·rw [if_pos (by omega),if_pos h4]
    ·rw [if_neg (by omega),if_neg h4]
theorem b7f {i j m:Nat} (hi:i≤m) (hj:j<i) (G:Nat→Option Bd) (t:Nat):rtG (m-i+j) m (m+j) (swG j (m-i) m G) t=rtG (m-i) m (m+j) G t:=by
 unfold rtG swG
 have e1:m+j-m=j:=by omega
 rw [e1]
 by_cases c1:m-i≤t∧t<m-i+j
 ·rw [if_neg (by omega),if_neg (by omega),if_pos c1,if_pos c1]
 ·by_cases c2:m-i+j≤t∧t<m-i+j+j
  ·rw [if_pos c2,if_neg (by omega),if_pos (by omega),if_neg c1]
   by_cases c3:m-i+j≤t∧t<m+j
   ·rw [if_pos c3];congr 1;omega
   ·omega
  ·rw [if_neg c2,if_neg c1]
   by_cases c3:m-i+j≤t∧t<m+j
   ·rw [if_pos c3,if_pos (by omega),if_neg (by omega),if_neg (by omega),if_neg c1]
   ·rw [if_neg c3,if_neg (by omega),if_neg c1,if_neg (by omega)]
theorem b4V {i j m:Nat} (hi:i≤m) (hj:i<j) (G:Nat→Option Bd) (t:Nat):rtG (m-i) m (m+(j-i)) (swG i (m-i) (m+j-i) G) t=rtG (m-i) m (m+j) G t:=by
 unfold rtG swG
 have e1:m+j-m=j:=by omega
 have e2:m+(j-i)-m=j-i:=by omega
 rw [e1,e2]
 by_cases c1:m-i≤t∧t<m-i+(j-i)
 ·rw [if_pos c1,if_pos (show m-i≤t∧t<m-i+j by omega),if_neg (by omega),if_neg (by omega)]
 ·rw [if_neg c1]
  by_cases c2:m-i+(j-i)≤t∧t<m+(j-i)
  ·rw [if_pos c2,if_pos (show m-i≤t∧t<m-i+j by omega),if_pos (by omega)]
   congr 1;omega
  ·rw [if_neg c2]
   by_cases c3:m-i≤t∧t<m-i+j
   ·omega
   ·rw [if_neg c3]
    by_cases c4:m-i+j≤t∧t<m+j
    ·rw [if_pos c4,if_neg (by omega),if_pos (by omega)]
     congr 1;omega
    ·rw [if_neg c4,if_neg (by omega),if_neg (by omega)]
theorem b7N {i m:Nat} (hi:i≤m) (G:Nat→Option Bd) (t:Nat):swG i (m-i) m G t=rtG (m-i) m (m+i) G t:=by
 unfold rtG swG
 rw [show m+i-m=i by omega]
 by_cases c1:m-i≤t∧t<m-i+i
 ·rw [if_pos c1,if_pos c1]
 ·rw [if_neg c1,if_neg c1]
  by_cases c2:m≤t∧t<m+i
  ·rw [if_pos c2,if_pos (by omega)];congr 1;omega
  ·rw [if_neg c2,if_neg (by omega)]
def IsG (L:List Bd) (n:Nat) (G:Nat→Option Bd):Prop:=L.length=n∧∀ t,L[t]?=G t
theorem J0 {L:List Bd} {t:Nat} (h:t<L.length):∃ x,L[t]?=some x:=⟨L[t],List.getElem?_eq_getElem h⟩
noncomputable abbrev rwB (L:List Bd):AS:=[(400000,.mrow 99 3 (L.map Bd.cv))]
set_option maxHeartbeats 2000000 in
theorem a1e (fc:CV) (L:List Bd) (a b n:Nat) (hab:a+n≤b) (hb:b+n≤L.length) (hl:L.length≤1000000):AFunE (Sg:=List Bd) Tryz.prog 162 (rwB L) [.sl 400000 0 L.length 3,.val (.i a),.val (.i b),.val (.i n),.val fc] (fun σ=>IsG σ L.length (swG n a b fun t=>L[t]?)) (fun _ => .tup []) (fun σ=>rwB σ):=by
 refine I2 Tryz.func162 Tryz.ntmps162 rfl rfl rfl rfl rfl (fun σ=>rfl) ?_
 intro w U hU
 refine aS (aR ?_)
 refine nc ze ?_
 obtain ⟨st,hst⟩:∃ st:Nat→List Bd→AS,st=fun i M=>(0,AV.sl 400000 0 L.length 3)::(1,.val (.i a))::(2,.val (.i b))::(3,.val (.i n))::(10,.val (.i (i:Nat)))::rwB M:=⟨_,rfl⟩
 refine aB (l6 (fun k s=>∃ i M,i+k=n∧IsG M L.length (swG i a b fun t=>L[t]?)∧s=st i M) (n:=n) (s':=st 0 L) (by rw [hst];exact a7 ⟨rfl,rfl,rfl,rfl,rfl,rfl,trivial⟩) ⟨0,L,by omega,⟨rfl,fun t=>by unfold swG;rw [if_neg (by omega),if_neg (by omega)]⟩,rfl⟩ ?_)
 rintro k s ⟨i,M,hik,hM,rfl⟩
 rw [hst]
 refine aS (aS (aR ?_))
 refine nc zl (nc zl (nc zi ?_))
 refine aC rfl (fun hc=>aK ?_) (fun hc=>aE ?_)
 ·have hin:i<n:=by
   have:(i:Int)<n:=by simpa using hc
   omega
  have hMl:=hM.1
  obtain ⟨x,hx⟩:=J0 (L:=M) (t:=a+i) (by omega)
  obtain ⟨y,hy⟩:=J0 (L:=M) (t:=b+i) (by omega)
  have hx':=Bd.map_at hx
  have hy':=Bd.map_at hy
  have hlm:(M.map Bd.cv).length=M.length:=List.length_map ..
  have hy2:((M.map Bd.cv).set (a+i) y.cw)[b+i]?=some y.cw:=by rw [List.getElem?_set_ne (by omega)];exact hy'
  refine aS (aB (aD (by kernel_rfl) (by kernel_rfl) ?_))
  refine nc zl (nc zl (nc zl (nc zu (nc zl (nc zl (nc zl (nc zu (nc zl (nc zl (nc zl (nc zu (nc (zI (k:=b+i)) (nc (zJ (G:=hy')) (nc zl (nc zl (nc zl (nc zu (nc (zI (k:=a+i)) (nc (zJ (G:=hx')) (nc (zI (k:=a+i)) (nc (zN (F:=hx')) (nc (zI (k:=b+i)) (nc (zN (F:=hy2)) ?_)))))))))))))))))))))))
  refine ⟨by kernel_rfl,?_⟩
  refine aR ?_
  refine nc zl (nc zu (nc ze ?_))
  refine ⟨k-1,st (i+1) ((M.set (a+i) y).set (b+i) x),by omega,⟨i+1,(M.set (a+i) y).set (b+i) x,by omega,⟨by rw [List.length_set,List.length_set];exact hMl,fun t=>?_⟩,by rw [hst]⟩,?_⟩
  ·have gx:=hM.2 (a+i)
   have gy:=hM.2 (b+i)
   rw [hx] at gx
   rw [hy] at gy
   rw [b3D (by omega)]
   have hLa:swG i a b (fun t=>L[t]?) (a+i)=L[a+i]?:=by unfold swG;rw [if_neg (by omega),if_neg (by omega)]
   have hLb:swG i a b (fun t=>L[t]?) (b+i)=L[b+i]?:=by unfold swG;rw [if_neg (by omega),if_neg (by omega)]
   rw [hLa] at gx
   rw [hLb] at gy
   rw [List.getElem?_set,List.getElem?_set]
   by_cases c1:t=a+i
   ·rw [if_pos c1,if_neg (by omega),if_pos c1.symm,if_pos (by omega),gy]
   ·rw [if_neg c1]
    by_cases c2:t=b+i
    ·rw [if_pos c2,if_pos c2.symm,if_pos (show b+i<(M.set (a+i) y).length by rw [List.length_set];omega),gx]
    ·rw [if_neg c2,if_neg (by omega),if_neg (by omega)]
     exact hM.2 t
  ·rw [hst]
   refine a7 ⟨rfl,rfl,rfl,rfl,rfl,?_,trivial⟩
   rw [←t9,←t9];rfl
 ·have hin:i=n:=by
   have:¬ (i:Int)<n:=by simpa using hc
   omega
  subst hin
  exact ⟨.inl rfl,M,hM,_,Wk.refl _,rfl,rfl,trivial⟩
set_option maxHeartbeats 2000000 in
theorem a9W (fc:CV) (L:List Bd) (a m b:Nat) (ham:a<m) (hmb:m<b) (hb:b≤L.length) (hl:L.length≤1000000):AFunE (Sg:=List Bd) Tryz.prog 161 (rwB L) [.sl 400000 0 L.length 3,.val (.i a),.val (.i m),.val (.i b),.val fc] (fun σ=>IsG σ L.length (rtG a m b fun t=>L[t]?)) (fun _ => .tup []) (fun σ=>rwB σ):=by
 refine I2 Tryz.func161 Tryz.ntmps161 rfl rfl rfl rfl rfl (fun σ=>rfl) ?_
 intro w U hU
 refine aS (aR ?_)
 refine nc zl (nc zl (nc zj (nc ze ?_)))
 refine aS (aR ?_)
 refine nc zl (nc zl (nc zj (nc ze ?_)))
 obtain ⟨N,hN⟩:∃ N,N=L.length:=⟨_,rfl⟩
 rw [←hN] at hb hl ⊢
 obtain ⟨st,hst⟩:∃ st:Nat→Nat→List Bd→AS,st=fun i j M=>(0,AV.sl 400000 0 N 3)::(2,.val (.i m))::(4,.val fc)::(10,.val (.i (i:Nat)))::(11,.val (.i (j:Nat)))::rwB M:=⟨_,rfl⟩
 refine aS (aB (l6 (fun k s=>∃ i j M,k=i+j∧0<i∧0<j∧i≤m∧m+j≤N∧M.length=N∧(∀ t,rtG (m-i) m (m+j) (fun t=>M[t]?) t=rtG a m b (fun t=>L[t]?) t)∧s=st i j M) (n:=(m-a)+(b-m)) (s':=st (m-a) (b-m) L) (by
  rw [hst]
  refine a7 ⟨?_,rfl,rfl,?_,?_,rfl,trivial⟩
  ·rw [hN];rfl
  ·show _=some (AV.val (.i (((m-a:Nat):Nat):Int)))
   rw [show ((m-a:Nat):Int)=(m:Int)-a by omega];rfl
  ·show _=some (AV.val (.i (((b-m:Nat):Nat):Int)))
   rw [show ((b-m:Nat):Int)=(b:Int)-m by omega];rfl) ⟨m-a,b-m,L,rfl,by omega,by omega,by omega,by omega,hN.symm,fun t=>by rw [show m-(m-a)=a by omega,show m+(b-m)=b by omega],rfl⟩ ?_))
 rintro k s ⟨i,j,M,rfl,hi,hj,him,hjN,hMl,hrt,rfl⟩
 rw [hst]
 refine aS (aS (aR ?_))
 refine nc zl (nc zl (nc z7 ?_))
 by_cases hij:i=j
 ·subst hij
  refine aC rfl (fun hc=>by simp at hc) (fun _=>aE ?_)
  have hsw:=a1e fc M (m-i) m i (by omega) (by omega) (by omega)
  rw [hMl] at hsw
  refine s9 7 rfl rfl rfl rfl rfl rfl hsw (by kernel_rfl) (fun σ=>by kernel_rfl) (fun σ=>by kernel_rfl) (fun σ=>rfl) (fun σ=>i7 (by kernel_rfl)) ?_
  refine nc zl (nc zl (nc zl (nc zj (nc zl (nc zl (nc zl ?_))))))
  refine ⟨?_,⟨rfl,trivial⟩,fun σ hσ=>⟨by kernel_rfl,?_⟩⟩
  ·show some [AV.sl 400000 0 N 3,.val (.i ((m:Int)-(i:Nat))),.val (.i m),.val (.i (i:Nat)),.val fc]=_
   rw [show ((m:Int)-(i:Nat))=((m-i:Nat):Int) by omega]
  ·refine ⟨.inl rfl,σ,⟨hσ.1,fun t=>?_⟩,_,Wk.refl _,rfl,rfl,trivial⟩
   rw [hσ.2,b7N him]
   exact hrt t
 ·refine aC rfl (fun _=>aK ?_) (fun hc=>?_)
  case refine_2 =>
   have hc:=of_decide_eq_false hc
   simp only [ne_eq,Decidable.not_not] at hc
   omega
  refine aB (aS (aR ?_))
  refine nc zl (nc zl (nc zH ?_))
  rcases Nat.lt_or_ge j i with hji | hji
  ·refine aC rfl (fun _=>?_) (fun hc=>?_)
   case refine_2 =>
    have:¬ ((i:Nat):Int)>(j:Nat):=by simpa using hc
    omega
   have hsw:=a1e fc M (m-i) m j (by omega) (by omega) (by omega)
   rw [hMl] at hsw
   refine aS (s9 7 rfl rfl rfl rfl rfl rfl hsw (by kernel_rfl) (fun σ=>by kernel_rfl) (fun σ=>by kernel_rfl) (fun σ=>rfl) (fun σ=>i7 (by kernel_rfl)) ?_)
   refine nc zl (nc zl (nc zl (nc zj (nc zl (nc zl (nc zl ?_))))))
   refine ⟨?_,⟨rfl,trivial⟩,fun σ hσ=>⟨by kernel_rfl,?_⟩⟩
   ·show some [AV.sl 400000 0 N 3,.val (.i ((m:Int)-(i:Nat))),.val (.i m),.val (.i (j:Nat)),.val fc]=_
    rw [show ((m:Int)-(i:Nat))=((m-i:Nat):Int) by omega]
   refine aR ?_
   refine nc zl (nc zl (nc zj (nc ze ?_)))
   refine ⟨(i-j)+j,st (i-j) j σ,by omega,⟨i-j,j,σ,rfl,by omega,hj,by omega,hjN,hσ.1,fun t=>?_,by rw [hst]⟩,?_⟩
   ·rw [←hrt t,←b7f him hji,show m-i+j=m-(i-j) by omega]
    congr 1
    funext t
    exact hσ.2 t
   ·rw [hst]
    refine a7 ⟨rfl,rfl,rfl,?_,rfl,rfl,trivial⟩
    rw [show ((i-j:Nat):Int)=(i:Int)-j by omega];rfl
  ·refine aC rfl (fun hc=>?_) (fun _=>?_)
   ·exfalso
    have:((i:Nat):Int)>(j:Nat):=by simpa using hc
    omega
   have hsw:=a1e fc M (m-i) (m+j-i) i (by omega) (by omega) (by omega)
   rw [hMl] at hsw
   refine aS (s9 11 rfl rfl rfl rfl rfl rfl hsw (by kernel_rfl) (fun σ=>by kernel_rfl) (fun σ=>by kernel_rfl) (fun σ=>rfl) (fun σ=>i7 (by kernel_rfl)) ?_)
   refine nc zl (nc zl (nc zl (nc zj (nc zl (nc zl (nc zu (nc zl (nc zj (nc zl (nc zl ?_))))))))))
   refine ⟨?_,⟨rfl,trivial⟩,fun σ hσ=>⟨by kernel_rfl,?_⟩⟩
   ·show some [AV.sl 400000 0 N 3,.val (.i ((m:Int)-(i:Nat))),.val (.i ((m:Int)+(j:Nat)-(i:Nat))),.val (.i (i:Nat)),.val fc]=_
    rw [show ((m:Int)-(i:Nat))=((m-i:Nat):Int) by omega,show ((m:Int)+(j:Nat)-(i:Nat))=((m+j-i:Nat):Int) by omega]
   refine aR ?_
   refine nc zl (nc zl (nc zj (nc ze ?_)))
   refine ⟨i+(j-i),st i (j-i) σ,by omega,⟨i,j-i,σ,rfl,hi,by omega,him,by omega,hσ.1,fun t=>?_,by rw [hst]⟩,?_⟩
   ·have h:=b4V (i:=i) (j:=j) him (by omega) (fun t=>M[t]?) t
    rw [←hrt t,←h]
    congr 1
    funext t
    exact hσ.2 t
   ·rw [hst]
    refine a7 ⟨rfl,rfl,rfl,rfl,?_,rfl,trivial⟩
    rw [show ((j-i:Nat):Int)=(j:Int)-i by omega];rfl
end Go.Proofs.YtglmoficcjphaaaGreat
namespace Go.Proofs.YtglmoficcjphaaaGreat
open Go.RowKit
set_option linter.unusedVariables false
set_option linter.unusedSimpArgs false
def pc (L:List Bd) (a m:Nat):List Bd:=(L.drop a).take (m-a)
theorem Y4 {L:List Bd} {a m:Nat} (hm:m≤L.length):(pc L a m).length=m-a:=by unfold pc;rw [List.length_take,List.length_drop];omega
theorem a3o {L:List Bd} {a m t:Nat} (h:t<m-a):(pc L a m)[t]?=L[a+t]?:=by unfold pc;rw [List.getElem?_take,if_pos h,List.getElem?_drop]
theorem b1i {L:List Bd} (X Y Z W:List Bd) (t:Nat):(X++(Y++(Z++W)))[t]?=if t<X.length then X[t]? else if t<X.length+Y.length then Y[t-X.length]? else if t<X.length+Y.length+Z.length then Z[t-X.length-Y.length]? else W[t-X.length-Y.length-Z.length]?:=by
 rw [List.getElem?_append]
 by_cases h1:t<X.length
 ·rw [if_pos h1,if_pos h1]
 ·rw [if_neg h1,if_neg h1,List.getElem?_append]
  by_cases h2:t-X.length<Y.length
  ·rw [if_pos h2,if_pos (by omega)]
  ·rw [if_neg h2,if_neg (by omega),List.getElem?_append]
   by_cases h3:t-X.length-Y.length<Z.length
   ·rw [if_pos h3,if_pos (by omega)]
   ·rw [if_neg h3,if_neg (by omega)]
theorem b6E {L:List Bd} {a m b:Nat} (ham:a≤m) (hmb:m≤b) (hb:b≤L.length):pc L 0 a++(pc L a m++(pc L m b++pc L b L.length))=L:=by
 apply List.ext_getElem?
 intro t
 rw [b1i (L:=L),Y4 (by omega),Y4 (by omega),Y4 (by omega)]
 by_cases h1:t<a-0
 ·rw [if_pos h1,a3o (by omega)];congr 1;omega
 ·rw [if_neg h1]
  by_cases h2:t<a-0+(m-a)
  ·rw [if_pos h2,a3o (by omega)];congr 1;omega
  ·rw [if_neg h2]
   by_cases h3:t<a-0+(m-a)+(b-m)
   ·rw [if_pos h3,a3o (by omega)];congr 1;omega
   ·rw [if_neg h3]
    by_cases h4:t<L.length
    ·rw [a3o (by omega)];congr 1;omega
    ·rw [List.getElem?_eq_none (by rw [Y4 (Nat.le_refl _)];omega),List.getElem?_eq_none (by omega)]
theorem b7B {L σ:List Bd} {a m b:Nat} (ham:a≤m) (hmb:m≤b) (hb:b≤L.length) (h:IsG σ L.length (rtG a m b fun t=>L[t]?)):σ=pc L 0 a++(pc L m b++(pc L a m++pc L b L.length)):=by
 apply List.ext_getElem?
 intro t
 rw [h.2,b1i (L:=L),Y4 (by omega),Y4 (by omega),Y4 (by omega)]
 unfold rtG
 by_cases h1:t<a-0
 ·rw [if_pos h1,a3o (by omega),if_neg (by omega),if_neg (by omega)];congr 1;omega
 ·rw [if_neg h1]
  by_cases h2:t<a-0+(b-m)
  ·rw [if_pos h2,a3o (by omega),if_pos (by omega)];congr 1;omega
  ·rw [if_neg h2]
   by_cases h3:t<a-0+(b-m)+(m-a)
   ·rw [if_pos h3,a3o (by omega),if_neg (by omega),if_pos (by omega)];congr 1;omega
   ·rw [if_neg h3,if_neg (by omega),if_neg (by omega)]
    by_cases h4:t<L.length
    ·rw [a3o (by omega)];congr 1;omega
    ·rw [List.getElem?_eq_none (l:=pc L b L.length) (by rw [Y4 (Nat.le_refl _)];omega)];exact List.getElem?_eq_none (by omega)
theorem b7P {L σ:List Bd} {a m b:Nat} (ham:a≤m) (hmb:m≤b) (hb:b≤L.length) (h:IsG σ L.length (rtG a m b fun t=>L[t]?)):σ.Perm L:=by
 rw [b7B ham hmb hb h]
 conv=>rhs;rw [←b6E ham hmb hb]
 apply List.Perm.append_left
 rw [←List.append_assoc,←List.append_assoc]
 exact List.Perm.append_right _ List.perm_append_comm
def srtB (L:List Bd) (a b:Nat):Prop:=∀ i j x y,a≤i→i<j→j<b→L[i]?=some x→L[j]?=some y→x.v≤y.v
structure Mg (a b:Nat) (L σ:List Bd):Prop where
 len:σ.length=L.length
 out:∀ t,t<a∨b≤t→σ[t]?=L[t]?
 ins:∀ t,a≤t→t<b→∃ t',a≤t'∧t'<b∧σ[t]?=L[t']?
 perm:σ.Perm L
theorem Mg.refl (a b:Nat) (L:List Bd):Mg a b L L:=⟨rfl,fun _ _=>rfl,fun t h h'=>⟨t,h,h',rfl⟩,List.Perm.refl _⟩
theorem Mg.trans {a b:Nat} {L M N:List Bd} (h:Mg a b L M) (h':Mg a b M N):Mg a b L N:=by
 refine ⟨h'.len.trans h.len,fun t ht=>(h'.out t ht).trans (h.out t ht),fun t h1 h2=>?_,h'.perm.trans h.perm⟩
 obtain ⟨u,u1,u2,u3⟩:=h'.ins t h1 h2
 obtain ⟨v,v1,v2,v3⟩:=h.ins u u1 u2
 exact ⟨v,v1,v2,u3.trans v3⟩
theorem Mg.mono {a b c d:Nat} {L σ:List Bd} (h:Mg a b L σ) (hc:c≤a) (hd:b≤d):Mg c d L σ:=by
 refine ⟨h.len,fun t ht=>h.out t (by omega),fun t h1 h2=>?_,h.perm⟩
 by_cases ht:a≤t∧t<b
 ·obtain ⟨u,u1,u2,u3⟩:=h.ins t ht.1 ht.2
  exact ⟨u,by omega,by omega,u3⟩
 ·exact ⟨t,h1,h2,h.out t (by omega)⟩
theorem Mg.rt {L σ:List Bd} {a m b:Nat} (ham:a≤m) (hmb:m≤b) (hb:b≤L.length) (h:IsG σ L.length (rtG a m b fun t=>L[t]?)):Mg a b L σ:=by
 refine ⟨h.1,fun t ht=>?_,fun t h1 h2=>?_,b7P ham hmb hb h⟩
 ·rw [h.2];unfold rtG;rw [if_neg (by omega),if_neg (by omega)]
 ·by_cases c:t<a+(b-m)
  ·exact ⟨t-a+m,by omega,by omega,by rw [h.2];unfold rtG;rw [if_pos (by omega)]⟩
  ·exact ⟨t-(b-m),by omega,by omega,by rw [h.2];unfold rtG;rw [if_neg (by omega),if_pos (by omega)]⟩
theorem a9e {L:List Bd} {a m b:Nat} (ham:a≤m) (hmb:m≤b) (h:a=m∨m=b):IsG L L.length (rtG a m b fun t=>L[t]?):=by
 refine ⟨rfl,fun t=>?_⟩
 unfold rtG
 by_cases c1:a≤t∧t<a+(b-m)
 ·rw [if_pos c1];congr 1;omega
 ·rw [if_neg c1]
  by_cases c2:a+(b-m)≤t∧t<b
  ·rw [if_pos c2];congr 1;omega
  ·rw [if_neg c2]
theorem srtB.sub {L:List Bd} {a b c d:Nat} (h:srtB L a b) (hc:a≤c) (hd:d≤b):srtB L c d:=fun i j x y h1 h2 h3 h4 h5=>h i j x y (by omega) h2 (by omega) h4 h5
theorem srtB.same {L M:List Bd} {a b:Nat} (h:srtB L a b) (e:∀ t,a≤t→t<b→M[t]?=L[t]?):srtB M a b:=fun i j x y h1 h2 h3 h4 h5=>h i j x y h1 h2 h3 (by rw [←e i (by omega) (by omega)];exact h4) (by rw [←e j (by omega) (by omega)];exact h5)
theorem srtB.shift {L M:List Bd} {a b c d:Nat} (h:srtB L a b) (e:∀ t,c≤t→t<d→a≤t+a-c∧t+a-c<b∧M[t]?=L[t+a-c]?):srtB M c d:=fun i j x y h1 h2 h3 h4 h5=>by
 obtain ⟨i1,i2,i3⟩:=e i (by omega) (by omega)
 obtain ⟨j1,j2,j3⟩:=e j (by omega) (by omega)
 exact h (i+a-c) (j+a-c) x y i1 (by omega) j2 (by rw [←i3];exact h4) (by rw [←j3];exact h5)
def leB (L:List Bd) (a b c d:Nat):Prop:=∀ i j x y,a≤i→i<b→c≤j→j<d→L[i]?=some x→L[j]?=some y→x.v≤y.v
theorem srtB.glue {L:List Bd} {a m b:Nat} (h1:srtB L a m) (h2:srtB L m b) (h3:leB L a m m b):srtB L a b:=fun i j x y k1 k2 k3 k4 k5=>by
 by_cases c:j<m
 ·exact h1 i j x y k1 k2 c k4 k5
 ·by_cases d:m≤i
  ·exact h2 i j x y d k2 k3 k4 k5
  ·exact h3 i j x y k1 (by omega) (by omega) k3 k4 k5
theorem leB.mg {L σ:List Bd} {a m b:Nat} (h:leB L a m m b) (ham:a≤m) (hmb:m≤b) (hm:Mg a m L σ∨Mg m b L σ):leB σ a m m b:=fun i j x y k1 k2 k3 k4 k5 k6=>by
 rcases hm with hm | hm
 ·obtain ⟨u,u1,u2,u3⟩:=hm.ins i k1 k2
  exact h u j x y u1 u2 k3 k4 (by rw [←u3];exact k5) (by rw [←hm.out j (by omega)];exact k6)
 ·obtain ⟨u,u1,u2,u3⟩:=hm.ins j k3 k4
  exact h i u x y k1 k2 u1 u2 (by rw [←hm.out i (by omega)];exact k5) (by rw [←u3];exact k6)
theorem a0e {L σ:List Bd} {a m b s e mid:Nat} (has:a≤s) (hsm:s≤m) (hme:m≤e) (heb:e≤b) (hb:b≤L.length) (hse:s+(e-m)=mid) (h1:srtB L a m) (h2:srtB L m b) (hlo:leB L a s e b) (hhi:leB L m e s m) (h:IsG σ L.length (rtG s m e fun t=>L[t]?)) :
  srtB σ a s∧srtB σ s mid∧srtB σ mid e∧srtB σ e b∧leB σ a mid mid b:=by
 have ha:∀ t,t<s→σ[t]?=L[t]?:=fun t ht=>by rw [h.2];unfold rtG;rw [if_neg (by omega),if_neg (by omega)]
 have hs:∀ t,s≤t→t<mid→σ[t]?=L[t+m-s]?:=fun t ht ht'=>by rw [h.2];unfold rtG;rw [if_pos (by omega)];congr 1;omega
 have hm:∀ t,mid≤t→t<e→σ[t]?=L[t+s-mid]?:=fun t ht ht'=>by rw [h.2];unfold rtG;rw [if_neg (by omega),if_pos (by omega)];congr 1;omega
 have he:∀ t,e≤t→σ[t]?=L[t]?:=fun t ht=>by rw [h.2];unfold rtG;rw [if_neg (by omega),if_neg (by omega)]
 refine ⟨(h1.sub (Nat.le_refl _) hsm).same fun t _ ht=>ha t ht,(h2.sub (Nat.le_refl m) heb).shift fun t k1 k2=>⟨by omega,by omega,hs t k1 k2⟩,(h1.sub has (Nat.le_refl m)).shift fun t k1 k2=>⟨by omega,by omega,hm t k1 k2⟩,(h2.sub hme (Nat.le_refl b)).same fun t ht _=>he t ht,?_⟩
 intro i j x y k1 k2 k3 k4 k5 k6
 by_cases ci:i<s
 ·rw [ha i ci] at k5
  by_cases cj:j<e
  ·rw [hm j k3 cj] at k6
   exact h1 i (j+s-mid) x y k1 (by omega) (by omega) k5 k6
  ·rw [he j (by omega)] at k6
   exact hlo i j x y k1 ci (by omega) k4 k5 k6
 ·rw [hs i (by omega) k2] at k5
  by_cases cj:j<e
  ·rw [hm j k3 cj] at k6
   exact hhi (i+m-s) (j+s-mid) x y (by omega) (by omega) (by omega) (by omega) k5 k6
  ·rw [he j (by omega)] at k6
   exact h2 (i+m-s) j x y (by omega) (by omega) k4 k5 k6
structure Cut (L:List Bd) (n s0 s r0:Nat):Prop where
 lo:∀ c x y,s0≤c→c<s→L[c]?=some x→L[n-1-c]?=some y→x.v≤y.v
 hi:∀ c x y,s≤c→c<r0→L[c]?=some x→L[n-1-c]?=some y→y.v<x.v
theorem Cut.sides {L:List Bd} {a m b s n s0 r0:Nat} (hb:b≤L.length) (ham:a<m) (hmb:m<b) (hn:n=(a+b) / 2+m) (h0:(m>(a+b) / 2∧s0=n-b∧r0=(a+b) / 2)∨(m≤(a+b) / 2∧s0=a∧r0=m)) (h1:srtB L a m) (h2:srtB L m b) (hs0:s0≤s) (hs:s≤r0) (hc:Cut L n s0 s r0) :
  a≤s∧s≤m∧m≤n-s∧n-s≤b∧s+(n-s-m)=(a+b) / 2∧leB L a s (n-s) b∧leB L m (n-s) s m:=by
 have hmid:a≤(a+b) / 2∧(a+b) / 2<b∧(a+b) / 2+(a+b) / 2≤a+b∧a+b≤(a+b) / 2+(a+b) / 2+1:=by omega
 obtain ⟨mid,hM⟩:∃ mid,mid=(a+b) / 2:=⟨_,rfl⟩
 rw [←hM] at hmid hn h0 ⊢
 obtain ⟨q1,q2,q3,q4⟩:=hmid
 clear hM
 refine ⟨by omega,by omega,by omega,by omega,by omega,?_,?_⟩
 ·intro i j x y k1 k2 k3 k4 k5 k6
  have hss:s0<s:=by omega
  obtain ⟨x',hx'⟩:=J0 (L:=L) (t:=s-1) (by omega)
  obtain ⟨y',hy'⟩:=J0 (L:=L) (t:=n-s) (by omega)
  have e1:=hc.lo (s-1) x' y' (by omega) (by omega) hx' (by rw [show n-1-(s-1)=n-s by omega];exact hy')
  have e2:x.v≤x'.v:=by
   by_cases c:i=s-1
   ·rw [c,hx'] at k5;cases k5;exact Int.le_refl _
   ·exact h1 i (s-1) x x' k1 (by omega) (by omega) k5 hx'
  have e3:y'.v≤y.v:=by
   by_cases c:j=n-s
   ·rw [c,hy'] at k6;cases k6;exact Int.le_refl _
   ·exact h2 (n-s) j y' y (by omega) (by omega) k4 hy' k6
  omega
 ·intro i j x y k1 k2 k3 k4 k5 k6
  have hss:s<r0:=by omega
  obtain ⟨x',hx'⟩:=J0 (L:=L) (t:=s) (by omega)
  obtain ⟨y',hy'⟩:=J0 (L:=L) (t:=n-1-s) (by omega)
  have e1:=hc.hi s x' y' (by omega) (by omega) hx' hy'
  have e2:x'.v≤y.v:=by
   by_cases c:j=s
   ·rw [c,hx'] at k6;cases k6;exact Int.le_refl _
   ·exact h1 s j x' y (by omega) (by omega) k4 hx' k6
  have e3:x.v≤y'.v:=by
   by_cases c:i=n-1-s
   ·rw [c,hy'] at k5;cases k5;exact Int.le_refl _
   ·exact h2 i (n-1-s) x y' k1 (by omega) (by omega) k5 hy'
  omega
end Go.Proofs.YtglmoficcjphaaaGreat
