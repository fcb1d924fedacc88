/-
 SuTop SuPr
-/
import Derived.Test.YteegmcfobgpemaaGreatMg11
namespace Go.Proofs.YteegmcfobgpemaaGreat
open List (append_nil length_append length_cons length_map length_nil mem_cons mem_map)
open Go.RowKit
set_option linter.unusedVariables false
set_option linter.unusedSimpArgs false
set_option maxRecDepth 100000
theorem X6:∀ (l:List Int) (m:Int),m<=l.foldl max m/\(∀ v∈l,v<=l.foldl max m)/\∀ N,m<N->(∀ v∈l,v<N)->l.foldl max m<N
 | [],m=>⟨Int.le_refl _,(fun v h=>by cases h),fun N h _=>h⟩
 | x::l,m=>by
  obtain ⟨h1,h2,h3⟩:=X6 l (max m x);refine ⟨?_,fun v hv=>?_,fun N hm hl=>h3 N ?_ fun v hv=>hl v (List.mem_cons_of_mem _ hv)⟩
  ·show m<=l.foldl max (max m x);omega
  ·show v<=l.foldl max (max m x);rcases mem_cons.1 hv with rfl | hv
   ·omega
   ·exact h2 v hv
  ·have:=hl x (by simp);omega
def cvs (c:List Lt):List Int:=c.flatMap fun l=>l.a.vs++l.b.vs
theorem c0x {c:List Lt} {l:Lt} (h:l∈c):∀ v∈l.a.vs,v∈cvs c:=fun v hv=>List.mem_flatMap.2 ⟨l,h,List.mem_append_left _ hv⟩
theorem b7U {c:List Lt} {l:Lt} (h:l∈c):∀ v∈l.b.vs,v∈cvs c:=fun v hv=>List.mem_flatMap.2 ⟨l,h,List.mem_append_right _ hv⟩
theorem a7H (c:List Lt):Y2 c=(cvs c).foldl max (-1):=by
 have hm:∀ (l:List Int) (m:Int),-1<=m->l.foldl max m=max m (l.foldl max (-1)):=fun l=>by
  induction l with
  | nil=>intro m h;show m=max m (-1);omega
  | cons x l ih =>
   intro m h;show l.foldl max (max m x)=max m (l.foldl max (max (-1) x));rw [ih _ (by omega),ih (max (-1) x) (by omega)];omega
 have key:∀ (c:List Lt) (m:Int),-1<=m->c.foldl (fun m l=>max (max m (U4 l.a.flat)) (U4 l.b.flat)) m=(cvs c).foldl max m:=fun c=>by
  induction c with
  | nil=>intro m _;rfl
  | cons l c ih =>
   intro m h;have e1:U4 l.a.flat=l.a.vs.foldl max (-1):=b2M _;have e2:U4 l.b.flat=l.b.vs.foldl max (-1):=b2M _;show c.foldl _ (max (max m (U4 l.a.flat)) (U4 l.b.flat))=((l.a.vs++l.b.vs)++cvs c).foldl max m;have g1:=(X6 l.a.vs (-1)).1;rw [ih _ (by rw [e1];omega),List.foldl_append,List.foldl_append,hm l.a.vs m h,hm l.b.vs _ (by omega),e1,e2]
 exact key c (-1) (Int.le_refl _)
theorem a2T (c:List Lt) : -1<=Y2 c:=by rw [a7H];exact (X6 _ _).1
theorem b9T {c:List Lt} {v:Int} (h:v∈cvs c):v<=Y2 c:=by rw [a7H];exact (X6 _ _).2.1 v h
theorem b1X {c:List Lt} {N:Int} (hN:0<=N) (h:∀ v∈cvs c,v<N):Y2 c<N:=by rw [a7H];exact (X6 _ _).2.2 N (by omega) h
noncomputable def rnC (c d:List Lt):List Lt:=d.map (Lt.rep (shV (Y2 c+1)))
theorem b1J (c d:List Lt):(rnC c d).length=d.length:=length_map ..
theorem b7v {t:Tm} (h:t.s16) {b N:Int} (hb:0<=b) (hbN:b+N<=1000000000000) (hN:∀ v∈t.vs,v<N):(a8 (shV b) t).s16:=by
 have e:a8 (shV b) t=a8 (fun v=>q7 (upV (max b 0) v)) t:=D7 fun v hv=>by have h1:=hN v hv;have h2:=o5 t v hv;show q7 _=q7 _;congr 1;unfold upV;omega
 refine ⟨⟨?_,?_⟩,by rw [a3v hb];exact h.2⟩
 ·by_cases hv0:t.vs=[]
  ·have e2:a8 (shV b) t=a8 q7 t:=D7 fun v hv=>by rw [hv0] at hv;cases hv
   rw [e2,a2R];exact Tm.strip_rng h.1.1
  ·obtain ⟨v0,hv⟩:=List.exists_mem_of_ne_nil _ hv0;have h1:=hN v0 hv;have h2:=o5 t v0 hv;rw [e];exact a9K h.1.1 fun v h1 h2=>a4w (a8j h1 h2 (by omega)).1 (a8j h1 h2 (by omega)).2
 ·exact b3d h.1.2 fun v=>b2h _
theorem b2a {c d:List Lt} {N:Int} (hN:0<=N/\N<=1000000) (hc:∀ v∈cvs c,v<N) (hd:∀ l∈d,l.s16) (hv:∀ v∈cvs d,v<N):∀ l∈rnC c d,l.s16:=fun l hl=>by
 obtain ⟨x,hx,rfl⟩:=mem_map.1 hl;have h1:=a2T c;have h2:=b1X hN.1 hc;exact ⟨b7v (hd x hx).1 (N:=N) (by omega) (by omega) fun v h=>hv v (c0x hx v h),b7v (hd x hx).2 (N:=N) (by omega) (by omega) fun v h=>hv v (b7U hx v h)⟩
theorem a7q {c:List Lt} (h:∀ l∈c,l.s16):∀ l∈c,l.rok:=fun l hl=>(h l hl).rok
theorem b6c (W:World) {c d:List Lt} {N:Int} (hN:0<=N/\N<=1000000) (hdl:d.length<=1000) (hc:∀ v∈cvs c,v<N) (hd:∀ l∈d,l.s16) (hv:∀ v∈cvs d,v<N):AFun Tryz.prog W 18 [.lst (d.map Lt.cv),.i (Y2 c+1)] (.val (.lst ((rnC c d).map Lt.cv))):=by
 obtain ⟨h1,h2⟩:=a7j (by omega) (a7q hd);have h:=a8V W d (Y2 c+1) (by omega) h1 h2;have g1:=a2T c;have g2:=b1X hN.1 hc;have e:d.map (Lt.rep fun v=>q7 (upV (max (Y2 c+1) 0) v))=rnC c d:=List.map_congr_left fun l hl=>by
  have e:∀ t:Tm,(∀ v∈t.vs,v∈cvs d)->a8 (fun v=>q7 (upV (max (Y2 c+1) 0) v)) t=a8 (shV (Y2 c+1)) t:=fun t ht=>D7 fun v gI=>by have h3:=hv v (ht v gI);have h4:=o5 t v gI;show q7 _=q7 _;congr 1;unfold upV;omega
  unfold Lt.rep;rw [e _ (c0x hl),e _ (b7U hl)]
 rw [e] at h;exact h
noncomputable def lkM (free:Bool) (c:List Lt):List Int:=if free=true then upL c.length else P3 c
noncomputable def ldM (free:Bool):Tm->Tm->Bool:=if free=true then fun _ _=>true else C9
noncomputable def mtM (free:Bool) (c d:List Lt):List Mt:=W0 (v9 c) (B7 (ldM free) c (lkM free c)) (B7 (ldM free) d (lkM free d))
noncomputable def a4n (free:Bool) (c d:List Lt):List (List Lt):=a6u (ldM free) c (rnC c d) (mtM free c (rnC c d))
theorem c1k {n:Nat} {z:Int} (h:z∈upL n):0<=z/\z<n:=by
 obtain ⟨k,hk,rfl⟩:=mem_map.1 h;have:=List.mem_range.1 hk;omega
theorem b1r (free:Bool) (c:List Lt):∀ n∈lkM free c,0<=n/\n<c.length:=fun n hn=>by
 unfold lkM at hn;split at hn
 ·exact c1k hn
 ·exact c0C hn
theorem a8v (free:Bool) (c:List Lt):(lkM free c).length<=c.length+1:=by
 unfold lkM;split
 ·rw [b8i];omega
 ·exact b9n c
theorem a8q {free:Bool} {c d:List Lt} {m:Mt} (h:m∈mtM free c d):MtOk c d m:=c0H (b1r free c) (b1r free d) h
structure Pr2 (free:Bool) (c d:List Lt):Prop where
 N:∃ N:Int,(0<=N/\N<=1000000)/\(∀ v∈cvs c,v<N)/\∀ v∈cvs d,v<N
 cl:c.length<=10
 dl:d.length<=10
 cs:∀ l∈c,l.s16
 ds:∀ l∈d,l.s16
 pr:∀ m∈mtM free c (rnC c d),PrOk m.fr.a m.pt
theorem Pr2.rn {free:Bool} {c d:List Lt} (h:Pr2 free c d):∀ l∈rnC c d,l.s16:=by
 obtain ⟨N,h1,h2,h3⟩:=h.N;exact b2a h1 h2 h.ds h3
theorem b2R {ld:Tm->Tm->Bool} {c:List Lt} {L:List Int} (hc:∀ l∈c,l.s16) {w:Wy} (h:w∈B7 ld c L):w.a.s16/\w.b.s16:=by
 obtain ⟨_,l,h1,h2,_⟩:=a3H h;have:=hc l (List.mem_of_getElem? h1);rcases h2 with ⟨e1,e2⟩ | ⟨e1,e2⟩
 ·rw [e1,e2];exact this
 ·rw [e1,e2];exact ⟨this.2,this.1⟩
theorem b3i {free:Bool} {c d:List Lt} (hc:c.length<=10) (hd:d.length<=10) (hs:∀ l∈d,l.s16):(mtM free c d).length<=22*(22*16):=by
 have h1:=a8f (ldM free) c (lkM free c);have h2:=a8f (ldM free) d (lkM free d);have h3:=a8v free c;have h4:=a8v free d;refine Nat.le_trans (b8O _ _ _ 16 fun w hw=>(b2R hs hw).1.2) (Nat.mul_le_mul (by omega) (Nat.mul_le_mul (by omega) (Nat.le_refl _)))
theorem b5E {free:Bool} {c d:List Lt} (hc:c.length<=10) (hd:d.length<=10) (hs:∀ l∈rnC c d,l.s16):(a4n free c d).length<=7744:=
 Nat.le_trans (List.length_filterMap_le _ _) (b3i hc (by rw [b1J];exact hd) hs)
theorem b3X (free:Bool) (fl fd:Nat) (W:World) (c d:List Lt) (h:Pr2 free c d) (hfl:∀ w (x:List Lt),x.length<=1000->(∀ l∈x,l.s16)->AFun Tryz.prog w fl [.lst (x.map Lt.cv)] (.val (.lst ((lkM free x).map CV.i)))) (qH:∀ w (a b:Tm),a.rng/\a.ok/\a.size<=1000000->b.rng/\b.ok/\b.size<=1000000->AFun Tryz.prog w fd [a.cw,b.cw] (.val (.b (ldM free a b)))):AFun Tryz.prog W 39 [ruC fl fd,.lst (c.map Lt.cv),.lst (d.map Lt.cv)] (.val (.lst ((a4n free c d).map clC))):=by
 obtain ⟨N,n1,n2,n3⟩:=h.N;have hr:=h.rn;have hdl:=h.dl;have eF:=h.cl;have tZ:=b1J c d;have g1:=a2T c;have g2:=b1X n1.1 n2;have l1:=a8v free c;have l2:=a8v free (rnC c d);have hb:∀ t:Tm,t.s16->t.rng/\t.ok/\t.size<=1000000:=fun t ht=>⟨ht.1.1,ht.1.2,by have:=ht.2;omega⟩
 have hml:=b3i (free:=free) eF (by rw [tZ];exact hdl) hr;exact a5h W fl fd (ldM free) c d (rnC c d) (lkM free c) (lkM free (rnC c d)) (Y2 c) (by omega) (by omega) (by omega) (a7q h.cs) (a7q hr) (fun w=>b6x w c (by omega) fun l hl=>⟨(h.cs l hl).1.1.1,(h.cs l hl).2.1.1⟩) (fun w=>b6c w n1 (by omega) n2 h.ds n3) (fun w=>hfl w c (by omega) h.cs) (fun w=>hfl w _ (by omega) hr) (b1r free c) (b1r free _) (by omega) (by omega)
  (fun w l hl=>by
   have hs:l.s16:=by
    rcases hl with hl | hl
    ·exact h.cs l hl
    ·exact hr l hl
   exact ⟨qH w _ _ (hb _ hs.1) (hb _ hs.2),qH w _ _ (hb _ hs.2) (hb _ hs.1)⟩) (fun w hw=>by have:=(b2R hr hw).1.2;omega) (fun w hw=>b1r free c _ (a3H hw).1) (by unfold mtM at hml;omega)
  (fun m hm=>b5Q qH (by omega) (by omega) h.cs hr (a8q hm) (h.pr m hm))
theorem b8Q {P:Program} {W:World} {f fl fd:Nat} {a b:CV} {r:AV} (h:AFun P W f [ruC fl fd,a,b] r):AFun P W f [.row [.sc (.func (.func fl) #[] #[]),.sc (.func (.func fd) #[] #[])],a,b] r:=by
 refine ⟨h.1,h.2.1,h.2.2.1,fun U w vs hW hv=>h.2.2.2 U w vs hW ?_⟩;obtain ⟨u,us,rfl,h1,h2⟩:=hv;refine ⟨u,us,rfl,?_,h2⟩;have key:∀ (f:Nat) (xs:List Value),Rep U w (.sc (.func (.func f) #[] #[])) xs->Rep U w (.fn f 0 []) xs:=fun f xs hx=>by obtain ⟨rfl,_⟩:=K0.1 hx;exact b7J.2 ⟨[],[],rfl,rfl,rfl,fun c hc=>by cases hc⟩
 obtain ⟨xs,e,y1,z1,e1,s1,y2,z2,e2,s2,s3⟩:=E8.1 h1;exact E8.2 ⟨xs,e,y1,z1,e1,key _ _ s1,y2,z2,e2,key _ _ s2,s3⟩
theorem a3m (W:World) (c d:List Lt) (h:Pr2 false c d):AFun Tryz.prog W 13 [.lst (c.map Lt.cv),.lst (d.map Lt.cv)] (.val (.lst ((a4n false c d).map clC))):=by
 have hf:=fun w=>b3X false 37 38 w c d h (fun w x hx hs=>by
  have:=b3O w x (by omega) fun l hl=>?_
  ·exact this
  ·exact ⟨⟨(hs l hl).1.1.1,(hs l hl).1.1.2,by have:=(hs l hl).1.2;omega⟩,(hs l hl).2.1.1,(hs l hl).2.1.2,by have:=(hs l hl).2.2;omega⟩) (fun w a b ha hb=>a8C w a b ha hb)
 refine c9 (rs:=[.lst ((a4n false c d).map clC)]) Tryz.func13 Tryz.ntmps13 rfl rfl rfl rfl ?_;intro w U hW;refine aS (aR ?_);refine nc ze ?_;refine aS (aR ?_);refine nc (zbN [.sc .nilFunc,.sc .nilFunc]) (nc zl (nc zl (nc (zk (z:=b8Q (hf w))) (nc ze ?_))));exact aT (And.intro (.inr rfl) rfl)
theorem b2C {free:Bool} {c d:List Lt} {z:List Lt} (h:z∈a4n free c d):∃ m,m∈mtM free c (rnC c d)/\(mgT m.fr.a m.pt).2=true/\z=(E6 m c (rnC c d)).map (Lt.rep (mgS m.fr.a m.pt)):=by
 obtain ⟨m,hm,he⟩:=List.mem_filterMap.1 h;unfold a2X at he;split at he
 ·rename_i hg;exact ⟨m,hm,hg.1,(Option.some.inj he).symm⟩
 ·cases he
theorem b8F {free:Bool} {c d:List Lt} (hp:Pr2 free c d) {z:List Lt} (h:z∈a4n free c d):z.length+1=c.length+d.length/\∀ l∈z,l.rok/\l.a.size<=100000/\l.b.size<=100000:=by
 obtain ⟨m,hm,_,rfl⟩:=b2C h;have hk:=a8q hm;have rB:=hp.pr m hm;refine ⟨by rw [length_map,<-b1J c d];exact a9n hk,fun l hl=>?_⟩;obtain ⟨x,hx,rfl⟩:=mem_map.1 hl;obtain ⟨h1,h2,h3⟩:=hk.lits hp.cs hp.rn x hx;obtain ⟨a1,a2,a3⟩:=rB.rep h1.1;obtain ⟨b1,b2,b3⟩:=rB.rep h1.2;have m1:=Nat.mul_le_mul_left 2955 h2;have m2:=Nat.mul_le_mul_left 2955 h3;exact ⟨⟨⟨a1,a2⟩,b1,b2⟩,by show (a8 _ x.a).size<=_;omega,by show (a8 _ x.b).size<=_;omega⟩
theorem a7u:∀ {p:List Int} {t s:Tm},atP p t=some s->t.ok->s.ok
 | [],t,s,h,hr=>by cases h;exact hr
 | k::ks,t,s,h,hr=>by
  rw [atP] at h;cases hp:t.pa k with
  | none=>rw [hp] at h;cases h
  | some u =>
   rw [hp] at h;exact a7u (p:=ks) h (((Tm.ok_iff _).1 hr).2 u (Tm.ps_mem (a5w hp)).1)
theorem P4 {t:Tm} (h:t.ten):t.s16:=⟨h.1,Nat.le_trans h.2 (by omega)⟩
theorem c1j {p:List Int} {t s:Tm} (h:atP p t=some s) (ht:t.ten):s.ten:=⟨⟨(a2U h ht.1.1).1,a7u h ht.1.2⟩,Nat.le_trans (a2U h ht.1.1).2 ht.2⟩
theorem c1H {c d:List Lt} (hd:∀ l∈d,l.ten) (h:∀ l∈rnC c d,l.s16):∀ l∈rnC c d,l.ten:=fun l hl=>by
 have hs:=h l hl;obtain ⟨x,hx,rfl⟩:=mem_map.1 hl;have g1:=a2T c;exact ⟨⟨hs.1.1,by show (a8 _ x.a).size<=10;rw [a3v (by omega)];exact (hd x hx).1.2⟩,hs.2.1,by show (a8 _ x.b).size<=10;rw [a3v (by omega)];exact (hd x hx).2.2⟩
theorem MtOk.ft {c d:List Lt} {m:Mt} (h:MtOk c d m) (hc:∀ l∈c,l.ten):m.fr.a.ten/\m.fr.b.ten:=by
 obtain ⟨l,h1,h2,_⟩:=h.fr;have:=hc l (List.mem_of_getElem? h1);rcases h2 with ⟨e1,e2⟩ | ⟨e1,e2⟩
 ·rw [e1,e2];exact this
 ·rw [e1,e2];exact ⟨this.2,this.1⟩
theorem MtOk.tt {c d:List Lt} {m:Mt} (h:MtOk c d m) (hd:∀ l∈d,l.ten):m.ti.a.ten/\m.ti.b.ten:=by
 obtain ⟨l,h1,h2⟩:=h.ti;have:=hd l (List.mem_of_getElem? h1);rcases h2 with ⟨e1,e2⟩ | ⟨e1,e2⟩
 ·rw [e1,e2];exact this
 ·rw [e1,e2];exact ⟨this.2,this.1⟩
theorem c2w {c d:List Lt} (free:Bool) {N:Int} (hN:0<=N/\N<=1000000) (hv:∀ v∈cvs c,v<N) (hw:∀ v∈cvs d,v<N) (eF:c.length<=10) (hdl:d.length<=10) (hc:∀ l∈c,l.ten) (hd:∀ l∈d,l.ten):Pr2 free c d:=by
 have cs:∀ l∈c,l.s16:=fun l hl=>⟨P4 (hc l hl).1,P4 (hc l hl).2⟩
 have ds:∀ l∈d,l.s16:=fun l hl=>⟨P4 (hd l hl).1,P4 (hd l hl).2⟩
 have hr:=c1H hd (b2a hN hv ds hw);refine ⟨⟨N,hN,hv,hw⟩,eF,hdl,cs,ds,fun m hm=>?_⟩;have hk:=a8q hm;exact b1Y (hk.ft hc).1 (c1j hk.at_ (hk.tt hr).1)
theorem a7S (l:Lt) (h:l.neg=false):P3 [l]=[0]:=by
 have h1:hvK [l] 1=(-1,0):=by unfold hvK;show (if l.neg=true/\_ then _ else hvK [l] 0)=_;rw [if_neg (by rw [h];rintro ⟨h,_⟩;cases h)];rfl
 have hg:c1Y [l] l=true:=by
  unfold c1Y;rw [List.any_eq_false.2 fun x hx=>by
   have:x=l:=by simpa using hx
   rw [this,b6H.2 (b8u _)];decide]
  rfl
 unfold P3;show (if (hvK [l] 1).1>=0 then _ else gsK [l] 1)=_;rw [h1,if_neg (by decide)];have g0:a3l [l] 0=true:=hg;unfold gsK;have e:List.range 1=[0]:=rfl;rw [e,List.filter_cons_of_pos (by exact g0)];rfl
theorem a9k {a b:Tm} (h:PrOk a b) (h1:¬ a.f<0) (h2:¬ b.f<0) (h3:a.f≠b.f):(mgT a b).2=false:=by
 cases e:(mgT a b).2 with
 | false=>rfl
 | true =>
  exfalso;have hu:=(h.tell.yes e).uni;rw [B4,d8 h1,d8 h2] at hu;injection hu with e1 _;exact h3 e1
theorem B0 {a b:Tm} (h:kb a b=1):C9 a b=true/\C9 b a=false:=by
 refine ⟨decide_eq_true (.inl h),decide_eq_false ?_⟩;rw [a7X a b,h];decide
def x6:Tm:=⟨-1,[]⟩
def o6:Tm:=⟨1,[]⟩
def fx6:Tm:=⟨3,[x6]⟩
def fo6:Tm:=⟨3,[o6]⟩
def pf6:Tm:=⟨4,[fo6]⟩
def po6:Tm:=⟨4,[o6]⟩
def t6:Tm:=⟨0,[]⟩
def c6:List Lt:=[⟨false,fx6,x6⟩]
def d6:List Lt:=[⟨false,pf6,t6⟩]
theorem c0S:x6.ten:=⟨⟨by simp [x6,Tm.rng],by simp [x6,Tm.ok]⟩,by simp [x6,Tm.size,Tm.flat]⟩
theorem c1b:o6.ten:=⟨⟨by simp [o6,Tm.rng],by simp [o6,Tm.ok]⟩,by simp [o6,Tm.size,Tm.flat]⟩
theorem a4p:fx6.ten:=⟨⟨by simp [fx6,x6,Tm.rng],by simp [fx6,x6,Tm.ok]⟩,by simp [fx6,x6,Tm.size,Tm.flat]⟩
theorem b9R:fo6.ten:=⟨⟨by simp [fo6,o6,Tm.rng],by simp [fo6,o6,Tm.ok]⟩,by simp [fo6,o6,Tm.size,Tm.flat]⟩
theorem b3h:pf6.ten:=⟨⟨by simp [pf6,fo6,o6,Tm.rng],by simp [pf6,fo6,o6,Tm.ok]⟩,by simp [pf6,fo6,o6,Tm.size,Tm.flat]⟩
theorem b7p:t6.ten:=⟨⟨by simp [t6,Tm.rng],by simp [t6,Tm.ok]⟩,by simp [t6,Tm.size,Tm.flat]⟩
theorem c1o:∀ l∈c6,l.ten:=fun l hl=>by
 simp only [c6,mem_cons,List.not_mem_nil,or_false] at hl;subst hl;exact ⟨a4p,c0S⟩
theorem c1G:∀ l∈d6,l.ten:=fun l hl=>by
 simp only [d6,mem_cons,List.not_mem_nil,or_false] at hl;subst hl;exact ⟨b3h,b7p⟩
theorem b2W (σ:Int->Tm):a8 σ fo6=fo6:=by simp [fo6,o6,a8]
theorem b2P (σ:Int->Tm):a8 σ pf6=pf6:=by simp [pf6,fo6,o6,a8]
theorem a5g (σ:Int->Tm):a8 σ t6=t6:=by simp [t6,a8]
theorem b7K (σ:Int->Tm):a8 σ x6=(σ 0).strip:=by simp [x6,a8]
theorem a7T (σ:Int->Tm):a8 σ fx6=⟨3,[(σ 0).strip]⟩:=by simp [fx6,x6,a8]
theorem pr6:Pr2 false c6 d6:=by
 have e1:cvs c6=[0,0]:=by simp [cvs,c6,fx6,x6,Tm.vs,vsL,Tm.flat]
 have e2:cvs d6=[]:=by simp [cvs,d6,pf6,fo6,o6,t6,Tm.vs,vsL,Tm.flat]
 exact c2w false (N:=1) (by omega) (fun v hv=>by rw [e1] at hv;simp at hv;omega) (fun v hv=>by rw [e2] at hv;cases hv) (by simp [c6]) (by simp [d6]) c1o c1G
theorem mg6:(mgT fx6 fo6).2=true/\(mgS fx6 fo6 0).strip=o6:=by
 have hT:=b2S a4p b9R;have h2:(mgT fx6 fo6).2=true:=by
  cases h:(mgT fx6 fo6).2 with
  | true=>rfl
  | false =>
   exfalso;refine (hT.no h).2 (fun _=>o6) ?_;rw [B4,a7T,b2W];simp [fo6,o6,Tm.strip]
 refine ⟨h2,?_⟩;have hu:=(hT.yes h2).uni;rw [B4,a7T,b2W] at hu;have hu:(⟨3,[(mgS fx6 fo6 0).strip]⟩:Tm)=⟨3,[o6]⟩:=hu;injection hu with _ h3;injection h3
theorem c3c:kb fx6 x6=1:=b7R (p:=[0]) rfl (by simp)
theorem c3E:kb fo6 o6=1:=b7R (p:=[0]) rfl (by simp)
theorem c1Z:kb pf6 t6=1:=by
 rw [a5A];refine ⟨?_,.inl ?_⟩
 ·intro v;have:t6.vs=[]:=by simp [t6,Tm.vs,vsL,Tm.flat]
  rw [this];simp
 ·simp [pf6,fo6,o6,t6,Tm.size,Tm.flat]
theorem c3C:a4n false c6 d6=[[⟨false,po6,t6⟩]]:=by
 have er:rnC c6 d6=d6:=by unfold rnC d6;simp only [List.map_cons,List.map_nil,Lt.rep,b2P,a5g]
 have w1:B7 C9 c6 (P3 c6)=[⟨0,fx6,x6⟩]:=by rw [show P3 c6=[0] from a7S _ rfl];show a4j C9 c6 0++[]=_;rw [append_nil];show ([⟨0,fx6,x6⟩,⟨0,x6,fx6⟩]:List Wy).filter (fun w=>C9 w.a w.b)=_;simp [List.filter_cons,(B0 c3c).1,(B0 c3c).2]
 have w2:B7 C9 d6 (P3 d6)=[⟨0,pf6,t6⟩]:=by rw [show P3 d6=[0] from a7S _ rfl];show a4j C9 d6 0++[]=_;rw [append_nil];show ([⟨0,pf6,t6⟩,⟨0,t6,pf6⟩]:List Wy).filter (fun w=>C9 w.a w.b)=_;simp [List.filter_cons,(B0 c1Z).1,(B0 c1Z).2]
 have e0:sy pf6 []=[([],pf6),([0],fo6),([0,0],o6)]:=by rw [Z0,if_neg (by show ¬ (4:Int)<0;decide),show pf6.l=[fo6] from rfl,H3,M0,append_nil,Z0,if_neg (by show ¬ (3:Int)<0;decide),show fo6.l=[o6] from rfl,H3,M0,append_nil,Z0,if_neg (by show ¬ (1:Int)<0;decide),show o6.l=[] from rfl,M0];rfl
 have em:mtM false c6 d6=[⟨⟨0,fx6,x6⟩,⟨0,pf6,t6⟩,[],pf6⟩,⟨⟨0,fx6,x6⟩,⟨0,pf6,t6⟩,[0],fo6⟩,⟨⟨0,fx6,x6⟩,⟨0,pf6,t6⟩,[0,0],o6⟩]:=by unfold mtM;show W0 (v9 c6) (B7 C9 c6 (P3 c6)) (B7 C9 d6 (P3 d6))=_;rw [w1,w2];show mtN (v9 c6) _ _++[]=_;rw [append_nil];unfold mtN;rw [if_neg (by show ¬ v9 c6 0=true;decide)];show mtI _ _++[]=_;rw [append_nil];unfold mtI;simp only [e0];rfl
 obtain ⟨g1,g2⟩:=mg6;unfold a4n;rw [er,em];have f1:a2X (ldM false) c6 d6 ⟨⟨0,fx6,x6⟩,⟨0,pf6,t6⟩,[],pf6⟩=none:=by unfold a2X;rw [if_neg];rintro ⟨h,_⟩;have:=a9k (b1Y a4p b3h) (by show ¬ (3:Int)<0;decide) (by show ¬ (4:Int)<0;decide) (by show (3:Int)≠4;decide);rw [this] at h;cases h
 have f3:a2X (ldM false) c6 d6 ⟨⟨0,fx6,x6⟩,⟨0,pf6,t6⟩,[0,0],o6⟩=none:=by unfold a2X;rw [if_neg];rintro ⟨h,_⟩;have:=a9k (b1Y a4p c1b) (by show ¬ (3:Int)<0;decide) (by show ¬ (1:Int)<0;decide) (by show (3:Int)≠1;decide);rw [this] at h;cases h
 have f2:a2X (ldM false) c6 d6 ⟨⟨0,fx6,x6⟩,⟨0,pf6,t6⟩,[0],fo6⟩=some [⟨false,po6,t6⟩]:=by
  unfold a2X;simp only [a7T,b7K,b2P,a5g,g2];rw [if_pos ⟨g1,(B0 c3E).1,(B0 c1Z).1⟩];have ej:E6 ⟨⟨0,fx6,x6⟩,⟨0,pf6,t6⟩,[0],fo6⟩ c6 d6=[⟨false,⟨4,[x6]⟩,t6⟩]:=by
   unfold E6;have e1:(C8 x6 [0] pf6).getD ⟨0,[]⟩=⟨4,[x6]⟩:=by simp [C8,pf6,Tm.pa,Tm.ps,x6,Tm.strip]
   rw [e1];rfl
  rw [ej];have e2:a8 (mgS fx6 fo6) ⟨4,[x6]⟩=po6:=by
   have:a8 (mgS fx6 fo6) ⟨4,[x6]⟩=⟨4,[a8 (mgS fx6 fo6) x6]⟩:=by rw [d8 (by show ¬ (4:Int)<0;decide)];rfl
   rw [this,b7K,g2];rfl
  simp only [List.map_cons,List.map_nil,Lt.rep,e2,a5g]
 unfold a6u;rw [List.filterMap_cons,f1,List.filterMap_cons,f2,List.filterMap_cons,f3];rfl
theorem b1S (W:World) (t:CV) (f:Int) (l:List CV) (ht:t = .row [.i f,.lst l]):AFun Tryz.prog W 23 [t] (.val (.row [.i 3,.lst [t]])):=by
 subst ht;refine c9 (rs:=[.row [.i 3,.lst [.row [.i f,.lst l]]]]) Tryz.func23 Tryz.ntmps23 rfl rfl rfl rfl ?_;intro w U hW;refine aS (aR ?_);refine nc zd (nc zw ?_);refine aS (aR ?_);refine nc zj (nc zy (nc zC (nc zx ?_)));exact aT (And.intro (.inr rfl) rfl)
theorem c0U (W:World) (t:CV) (f:Int) (l:List CV) (ht:t = .row [.i f,.lst l]):AFun Tryz.prog W 24 [t] (.val (.row [.i 4,.lst [t]])):=by
 subst ht;refine c9 (rs:=[.row [.i 4,.lst [.row [.i f,.lst l]]]]) Tryz.func24 Tryz.ntmps24 rfl rfl rfl rfl ?_;intro w U hW;refine aS (aR ?_);refine nc zd (nc zw ?_);refine aS (aR ?_);refine nc zj (nc zy (nc zC (nc zx ?_)));exact aT (And.intro (.inr rfl) rfl)
set_option maxHeartbeats 4000000 in
theorem a9c (W:World):AFun Tryz.prog W 7 [] (.val (.b true)):=by
 have hR:=fun w=>a3m w c6 d6 pr6;rw [c3C] at hR;have hc:c6.map Lt.cv=[.row [.b false,.row [.i 3,.lst [.row [.i (-1),.lst []]]],.row [.i (-1),.lst []]]]:=by simp [c6,fx6,x6,Lt.cv,Tm.cv_eq]
 have hd:d6.map Lt.cv=[.row [.b false,.row [.i 4,.lst [.row [.i 3,.lst [.row [.i 1,.lst []]]]]],.row [.i 0,.lst []]]]:=by simp [d6,pf6,fo6,o6,t6,Lt.cv,Tm.cv_eq]
 have hr:([[⟨false,po6,t6⟩]]:List (List Lt)).map clC=[.lst [.row [.b false,.row [.i 4,.lst [.row [.i 1,.lst []]]],.row [.i 0,.lst []]]]]:=by simp [clC,po6,o6,t6,Lt.cv,Tm.cv_eq]
 rw [hc,hd,hr] at hR;have a1:=fun w t f l ht=>b1S w t f l ht;have k1:∀ w,P7 Tryz.prog w (.sc (.func (.func 23) #[] #[])) [.row [.i (-1),.lst []]] (.val (.row [.i 3,.lst [.row [.i (-1),.lst []]]])):=fun w => .inr ⟨_,rfl,b1S w _ _ _ rfl⟩;have k2:∀ w,P7 Tryz.prog w (.sc (.func (.func 23) #[] #[])) [.row [.i 1,.lst []]] (.val (.row [.i 3,.lst [.row [.i 1,.lst []]]])):=fun w => .inr ⟨_,rfl,b1S w _ _ _ rfl⟩;have k3:∀ w,P7 Tryz.prog w (.sc (.func (.func 24) #[] #[])) [.row [.i 3,.lst [.row [.i 1,.lst []]]]] (.val (.row [.i 4,.lst [.row [.i 3,.lst [.row [.i 1,.lst []]]]]])):=fun w => .inr ⟨_,rfl,c0U w _ _ _ rfl⟩;refine c9 (rs:=[.b true]) Tryz.func7 Tryz.ntmps7 rfl rfl rfl rfl ?_;intro w U hW;refine aS (aR ?_);refine nc ze ?_;refine aS (aR ?_);refine nc (zbN [.i 0,.lst []]) (nc zw (nc zx ?_));refine aS (aR ?_);refine nc ze ?_;refine aS (aR ?_);refine nc ze ?_;refine aS (aD (by kernel_rfl) (by kernel_rfl) ?_);refine nc zl (nc zj (nc (zQ (E:=k1 w)) (nc zj (nc (zbN b0J) (nc zy (nc zl (nc zl (nc (zbN [.i 0,.lst []]) (nc (zQ (E:=k2 w)) (nc (zQ (E:=k3 w)) (nc (zbN b0J) (nc zy (nc (zk (z:=hR w)) (nc ze ?_))))))))))))));refine ⟨by kernel_rfl,?_⟩;refine aS (aR ?_);refine nc zl (nc zo (nc zD (nc zl (nc (zl (p:=gb)) (nc (zt (j:=0) (r:=gb) (H:=rfl) (hz:=sZ rfl)) (nc (zu (r:=gb)) (nc (zo (r:=gb)) (nc (zD (r:=gb)) (nc zp (nc zl (nc (zl (p:=gb)) (nc (zt (j:=0) (r:=gb) (H:=rfl) (hz:=sZ rfl)) (nc (zu (r:=gb)) (nc (zt (j:=0) (r:=gb) (H:=rfl) (hz:=sZ rfl)) (nc (zbH (r:=gb)) (nc (zbH (r:=gb)) (nc (zu (r:=gb)) (nc (zt (j:=0) (r:=gb) (H:=rfl) (hz:=sZ rfl)) (nc (zbH (r:=gb)) (nc (zu (r:=gb)) (nc (zD (r:=gb)) (nc zp (nc ze ?_)))))))))))))))))))))));exact aT (And.intro (.inr rfl) rfl)
end Go.Proofs.YteegmcfobgpemaaGreat
