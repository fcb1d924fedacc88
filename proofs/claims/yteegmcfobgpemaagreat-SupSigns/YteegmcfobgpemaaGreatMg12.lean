/-
 SuUni SuMath KbRef KbRef2 OrRef OrRef2 OrCom OrLw EqRes EqDoc ClNmX ClTtM ClRefN EqRef AbStr PrQuo EqRef2 EqRef3 EqAlive EqLw MtMath MtMath2 EqVnt ClTop SuTop SuPr
-/
import Derived.Test.YteegmcfobgpemaaGreatMg11
import Derived.Test.YteegmcfobgpemaaGreatMg10
import Derived.Test.YteegmcfobgpemaaGreatMg9
import Derived.Test.YteegmcfobgpemaaGreatMg4
import Derived.Test.YteegmcfobgpemaaGreatMg8
import Derived.Laws.Strings
import Derived.Laws.Strings3
import Derived.Laws.Concat
import Derived.Lib.Strings
import Derived.Laws.BytesArg
import Derived.Test.YteegmcfobgpemaaGreatMg5
namespace Go.Proofs.YteegmcfobgpemaaGreat
open List (append_nil length_append length_cons length_map length_nil map_cons mem_append mem_append_left mem_append_right mem_cons mem_filter mem_flatMap mem_map mem_of_getElem? mem_singleton not_mem_nil)
open Go.RowKit
set_option linter.unusedVariables false
set_option linter.unusedSimpArgs false
set_option maxRecDepth 100000
set_option maxHeartbeats 2000000 in
theorem a8u (W:World) (a b:Tm) (ha:(a.rng/\a.ok)/\a.size<=16) (hb:(b.rng/\b.ok)/\b.size<=16) (sX:∀ τ,uni τ [(a,b)]->a.ten/\b.ten) (l:List (Tm×Tm)) (dC:l=[(a,b)]) (r:List Bd×Bool) (hT:ToldU l r):AFun Tryz.prog W 92 [.lst (l.map prv)] (.tup [.lst (r.1.map Bd.cv),.b r.2]):=by
 have hl:∀ p∈l,(p.1.rng/\p.1.ok)/\(p.2.rng/\p.2.ok):=fun p hp=>by rw [dC,mem_singleton] at hp;rw [hp];exact ⟨ha.1,hb.1⟩
 have hpz:b0u l=a.size+b.size:=by rw [dC];unfold b0u;simp
 have lZ:b0u l<=1000:=by have:=ha.2;have:=hb.2;omega
 obtain ⟨k,j,e1,f1,f2⟩:=b0A l;have hj:=e1 k (Nat.le_refl _);have xJ:=a6A k l j hj hl lZ;refine b9 (rs:=[.lst (r.1.map Bd.cv),.b r.2]) Tryz.func92 Tryz.ntmps92 rfl rfl rfl rfl ?_;intro w U hW;refine aS (aR ?_);refine nc ze (nc ze ?_);refine aS (aR ?_);refine nc (zW (z:=b5S) (G:=fun k v h=>by first | (rw [hW.1] at h;cases h) | (have h2:=hU k v h;cases h2))) ?_;refine nc ze ?_;refine aS (aS (aR ?_));refine nc zl (nc zl (nc (zW (z:=xJ) (G:=i0 (by first | rfl | kernel_rfl))) (nc zZ ?_)));cases iB:j.2 with
 | false =>
  rw [hT.no (f1 iB)];refine aC rfl (fun hc=>?_) (fun hc=>by cases hc);refine aS (aR ?_);refine nc ze (nc ze ?_);exact aT (And.intro (.inr rfl) rfl)
 | true =>
  obtain ⟨cn,od,H,r',e2,g1,g2,g3,ki,xQ,n1,n2⟩:=f2 iB;obtain ⟨e3,e4⟩:=e2 k (Nat.le_refl _);obtain ⟨E',hI⟩:=a0A l hj (E:=[]) ⟨⟨id,id,Cls.nil,by show 0+i8 _ 0<=_;simp [i8]⟩,(fun x hx=>by cases hx),by show i8 _ 0<=_;simp [i8]⟩ rfl hl (by show i8 _ 0+_<=_;simpa [i8] using lZ) iB;have hF:=hI.fitU;have eK:usB j.1.ns 0:=fun m=>by rw [b1r hj];exact ⟨Int.le_refl _,Int.le_refl _⟩
  obtain ⟨fE,dP,pQ,hhl⟩:=N9 k 0 e3 hF (by simpa using eK) (by omega) (fun h hm=>by cases hm) (Nat.le_refl _);have tM:=a9b k 0 e4 fE (fun h hm=>pQ h (mem_filter.1 hm).1) (by decide) dP;have hnsl:od.1.ns.length<=1000:=Nat.le_trans (C2 _) tM.big;have oF:∀ x∈od.2,x<od.1.ns.length:=fun x hx=>(ki.hd x hx).1;have sK:od.2.length<=1000:=Nat.le_trans (a1f _ ki.nd oF) hnsl;have yE:=b5p k j.1 cn od e3 e4 hF eK sK;have fG:P4 od.1.vr:=b7v k 0 e4 (a4z k 0 e3 (b7b hj ⟨List.nodup_nil,fun p hp=>by cases hp⟩));have qJ:∀ p∈od.1.vr,p.1<=9223372036854775807:=fun p hp=>by obtain ⟨v1,v2⟩:=g1.vrt p.1 p.2 (F8 fG.1 hp);have v3:=((Tm.rng_iff _).1 ((Z2 _).1 tM.trm p.2 v1).1).1;omega
  refine aC rfl (fun hc=>by cases hc) (fun hc=>aK ?_);by_cases h:od.2.length=cn.2.length
  ·have h9:decide ((od.2.length:Int)=cn.2.length)=true:=by rw [h];simp
   rw [h9] at yE;obtain ⟨k1,tm,e5,c1,c5,c2,hm⟩:=n2 h;have hu:=(hm (od.1.vr.map fun p=>(⟨p.1,tm.2.getD (H p.2) tm0⟩:Bd)) (fun v=>a3f fG.1 (List.Perm.refl _) (fun n=>tm.2.getD (H n) tm0) v)).uni;rw [dC] at hu;obtain ⟨ha10,hb10⟩:=sX _ hu;have dA:od.1.vr.length<20:=c0v (dC▸g1) fG ha10 hb10 (by
    have h1:=b6L k 0 e4;have h2:=a4v k 0 e3;have h3:=b7w hj;have h4:plc l=a.size+b.size:=by rw [dC];unfold plc;simp
    have h5:pw ([]:List Nd)=0:=rfl;have h6:=C2 od.1.ns;have h7:pw (⟨[],[],[]⟩:Cl).ns=0:=rfl;omega)
   have wF:=(TI.all (t:=(od.1,List.replicate od.1.ns.length tm0)) (N:=od.1.ns.length) ⟨tM,by simp,Nat.le_refl _⟩ (fun n hn=>oF n (List.mem_reverse.1 hn)) (e5 k1 (Nat.le_refl _))).1.fit;have vV:=b3R k1 od.1 od.2 tm (e5 k1 (Nat.le_refl _)) tM c2 oF sK c1 wF (by rw [c5];exact fG) (by rw [c5];omega);refine aS (aR ?_);refine nc zl (nc (zW (z:=yE) (G:=i0 (by first | rfl | kernel_rfl))) (nc zl (nc zE (nc zE (nc ze (nc ze ?_))))));refine aS (aS (aR ?_));refine nc zl (nc zZ ?_);refine aC rfl (fun hc=>by cases hc) (fun hc=>aK ?_);refine aS (a8w 2 rfl rfl rfl rfl rfl rfl vV (by kernel_rfl) (fun σ=>by kernel_rfl) (fun σ=>by kernel_rfl) (fun σ=>rfl) (fun σ=>i0 (by kernel_rfl)) ?_);refine nc zl (nc zl ?_);refine ⟨rfl,⟨rfl,rfl,rfl,rfl,rfl,rfl,rfl,trivial⟩,fun σ hσ=>⟨by kernel_rfl,?_⟩⟩;obtain ⟨vr',hp,hσ1⟩:=hσ;rw [c5] at hp;obtain ⟨t1,t2,t3⟩:=b4r hT fG qJ hp hσ1 hm;have dE:σ.1.length<20:=by rw [hσ1,length_map,hp.length_eq];omega
   refine nc (zk (z:=b6A _ σ.1 dE t3)) (nc ze (nc ze ?_));rw [t1];exact aT (And.intro (.inr rfl) rfl)
  ·have h9:decide ((od.2.length:Int)=cn.2.length)=false:=by rw [decide_eq_false_iff_not];omega
   rw [h9] at yE;rw [hT.no (n1 h)];refine aS (aR ?_);refine nc zl (nc (zW (z:=yE) (G:=i0 (by first | rfl | kernel_rfl))) (nc zl (nc zE (nc zE (nc ze (nc ze ?_))))));refine aS (aS (aR ?_));refine nc zl (nc zZ ?_);refine aC rfl (fun hc=>?_) (fun hc=>by cases hc);refine aS (aR ?_);refine nc ze (nc ze ?_);exact aT (And.intro (.inr rfl) rfl)
set_option maxHeartbeats 2000000 in
theorem a8e (W:World) (a b:Tm) (ha:(a.rng/\a.ok)/\a.size<=16) (hb:(b.rng/\b.ok)/\b.size<=16) (sX:∀ τ,uni τ [(a,b)]->a.ten/\b.ten) (r:List Bd×Bool) (hT:ToldU [(a,b)] r):AFun Tryz.prog W 65 [a.cw,b.cw] (.tup [.lst (r.1.map Bd.cv),.b r.2]):=by
 refine b9 (rs:=[.lst (r.1.map Bd.cv),.b r.2]) Tryz.func65 Tryz.ntmps65 rfl rfl rfl rfl ?_;intro w U hW;refine aS (aR ?_);refine nc zd (nc zd (nc ze (nc ze ?_)));refine aS (aR ?_);refine nc zj (nc zj (nc (z9 [2,2]) (nc zy (nc (zk (z:=a8u _ a b ha hb sX [(a,b)] rfl r hT)) (nc zE (nc zE (nc ze (nc ze ?_))))))));exact aT (And.intro (.inr rfl) rfl)
theorem a3j (u:Tm):∀ (p:List Int) (t z:Tm),F9 u p t=some z->z.strip=z
 | [],t,z,h=>by cases h;exact Tm.strip_strip u
 | k::ks,t,z,h=>by
  rw [F9] at h;cases hp:t.pa k with
  | none=>rw [hp] at h;cases h
  | some x =>
   rw [hp,Option.bind_some] at h;cases hv:F9 u ks x with
   | none=>rw [hv] at h;cases h
   | some v =>
    rw [hv,Option.map_some] at h;have h:=Option.some.inj h;subst h;have hf:=a7O hp;rw [Tm.strip_eq,Tm.ps_of_sym (t:=⟨t.f,_⟩) (by show 0<=t.f;omega)];simp only;rw [List.map_append,map_cons,S3,S3,a3j u ks x v hv]
theorem b3n {t:Tm} (h:t.size<=10000000000):t.strip.ok:=by
 induction t using Tm.indp with
 | h t ih =>
  have hs:=Tm.size_eq t;refine (Tm.ok_iff _).2 ⟨?_,fun s gC=>?_⟩
  ·rw [Tm.strip_l,length_map];have:∀ l:List Tm,l.length<=(l.flatMap Tm.flat).length:=by
    intro l
    induction l with
    | nil=>exact Nat.le_refl _
    | cons x l ih =>
     rw [List.flatMap_cons,length_append,length_cons];have:0<x.flat.length:=by rw [Tm.flat_eq];simp
     omega
   have:=this t.ps;omega
  ·rw [Tm.strip_l] at gC;obtain ⟨x,hx,rfl⟩:=mem_map.1 gC;refine ih x hx ?_;have:=t7 Tm.flat hx;have h2:x.size=x.flat.length:=rfl;omega
theorem b2J:∀ (l:List Tm) (i:Nat) (pl:List Int) (q:List Int×Tm),q∈syL l i pl->∃ j x,l[j]?=some x/\q∈sy x (pl++[((i+j:Nat):Int)])
 | [],i,pl,q,h=>by rw [T4] at h;cases h
 | t::l,i,pl,q,h=>by
  rw [N1] at h;rcases mem_append.1 h with h | h
  ·exact ⟨0,t,rfl,h⟩
  ·obtain ⟨j,x,h1,h2⟩:=b2J l (i+1) pl q h;exact ⟨j+1,x,by simpa using h1,by rw [show i+(j+1)=i+1+j by omega];exact h2⟩
theorem c0w (t:Tm):∀ (pl:List Int) (q:List Int×Tm),q∈sy t pl->∃ p,q.1=pl++p/\atP p t=some q.2/\¬ q.2.f<0/\p.length<t.size:=by
 induction t using Tm.ind with
 | h f l ih =>
  intro pl q hq;rw [a2v] at hq;split at hq
  ·cases hq
  ·rename_i hf;rcases mem_cons.1 hq with rfl | hq
   ·exact ⟨[],by simp,rfl,hf,Tm.size_pos _⟩
   ·obtain ⟨j,x,h1,h2⟩:=b2J l 0 pl q hq;obtain ⟨p,e1,e2,e3,e4⟩:=ih x (mem_of_getElem? h1) _ q h2;refine ⟨((0+j:Nat):Int)::p,by rw [e1,List.append_assoc];rfl,?_,e3,?_⟩
    ·have hpa:(Tm.mk f l).pa ((0+j:Nat):Int)=some x:=by unfold Tm.pa;rw [if_pos (by omega),Int.toNat_natCast,Nat.zero_add,Tm.ps_of_sym (by show 0<=f;have:¬ f<0:=hf;omega)];exact h1
     rw [atP,hpa];exact e2
    ·have:=a4A (show ¬ f<0 from hf) h1;rw [length_cons];omega
theorem b2t:∀ (l:List Tm) (i:Nat) (pl:List Int),(∀ t∈l,∀ pl,(sy t pl).length<=t.flat.length)->(syL l i pl).length<=(l.flatMap Tm.flat).length
 | [],_,_,_=>by simp [T4]
 | t::l,i,pl,h=>by
  rw [N1,length_append,List.flatMap_cons,length_append];have h1:=h t (by simp) (pl++[(i:Int)]);have h2:=b2t l (i+1) pl fun s hs=>h s (List.mem_cons_of_mem _ hs);omega
theorem c0i (t:Tm):∀ pl,(sy t pl).length<=t.size:=by
 induction t using Tm.ind with
 | h f l ih =>
  intro pl;rw [a2v];split
  ·simp
  ·rename_i hf;have h1:=b2t l 0 pl ih;have h2:(Tm.mk f l).size=1+(l.flatMap Tm.flat).length:=by rw [Tm.size_eq,Tm.ps_of_sym (by show 0<=f;have:¬ f<0:=hf;omega)]
   rw [length_cons,h2];show (syL l 0 pl).length+1<=_;omega
theorem a1q {ld:Tm->Tm->Bool} {c:List Lt} {L:List Int} {w:Wy} (h:w∈F4 ld c L):w.n∈L/\∃ l,c[w.n.toNat]?=some l/\(((w.a=l.a/\w.b=l.b)\/(w.a=l.b/\w.b=l.a))/\ld w.a w.b=true):=by
 obtain ⟨n,hn,hw⟩:=mem_flatMap.1 h;unfold a5X at hw;split at hw
 ·rename_i l hl;obtain ⟨h1,h2⟩:=mem_filter.1 hw;simp only [wy2,mem_cons,not_mem_nil,or_false] at h1;rcases h1 with rfl | rfl
  ·exact ⟨hn,l,hl,.inl ⟨rfl,rfl⟩,h2⟩
  ·exact ⟨hn,l,hl,.inr ⟨rfl,rfl⟩,h2⟩
 ·cases hw
theorem a7w (ld:Tm->Tm->Bool) (c:List Lt):∀ L:List Int,(F4 ld c L).length<=2*L.length
 | []=>Nat.zero_le _
 | n::L=>by
  have h1:=a7w ld c L;have h2:(a5X ld c n).length<=2:=by
   unfold a5X;split
   ·exact List.length_filter_le _ _
   ·exact Nat.zero_le _
  show (a5X ld c n++F4 ld c L).length<=_;rw [length_append,length_cons];omega
theorem b1M {neg:Int->Bool} {src tgt:List Wy} {m:Mt} (h:m∈Z7 neg src tgt):m.fr∈src/\neg m.fr.n=false/\m.ti∈tgt/\(m.pl,m.pt)∈sy m.ti.a []:=by
 obtain ⟨f,hf,h⟩:=mem_flatMap.1 h;unfold mtN at h;split at h
 ·cases h
 ·rename_i hn;obtain ⟨i,hi,h⟩:=mem_flatMap.1 h;obtain ⟨q,hq,rfl⟩:=mem_map.1 h;exact ⟨hf,by simpa using hn,hi,hq⟩
theorem b8u (neg:Int->Bool) (src tgt:List Wy) (N:Nat) (h:∀ w∈tgt,w.a.size<=N):(Z7 neg src tgt).length<=src.length*(tgt.length*N):=by
 have h1:∀ f (T:List Wy),(∀ w∈T,w.a.size<=N)->(mtF T f).length<=T.length*N:=fun f T=>by
  induction T with
  | nil=>intro _;exact Nat.zero_le _
  | cons i T ih =>
   intro hT;have a1:=ih fun w hw=>hT w (List.mem_cons_of_mem _ hw);have a2:=Nat.le_trans (c0i i.a []) (hT i (by simp));show (mtI f i++mtF T f).length<=_;have a3:(mtI f i).length=(sy i.a []).length:=length_map ..;rw [length_append,length_cons,Nat.add_mul,a3];omega
 induction src with
 | nil=>exact Nat.zero_le _
 | cons f S ih =>
  have h2:(mtN neg tgt f).length<=tgt.length*N:=by
   unfold mtN;split
   ·exact Nat.zero_le _
   ·exact h1 f tgt h
  show (mtN neg tgt f++Z7 neg S tgt).length<=_;rw [length_append,length_cons,Nat.add_mul,Nat.one_mul];omega
def Tm.s16 (t:Tm):Prop:=(t.rng/\t.ok)/\t.size<=16
def PrOk (a b:Tm):Prop:=a.s16/\b.s16/\∀ τ,uni τ [(a,b)]->a.ten/\b.ten
theorem PrOk.tiny {a b:Tm} (h:PrOk a b):a5o [(a,b)]:=fun p hp=>by
 rw [mem_singleton] at hp;subst hp;exact ⟨h.1,h.2.1⟩
theorem b1D {a b:Tm} (ha:a.ten) (hb:b.ten):PrOk a b:=⟨⟨ha.1,Nat.le_trans ha.2 (by omega)⟩,⟨hb.1,Nat.le_trans hb.2 (by omega)⟩,fun _ _=>⟨ha,hb⟩⟩
theorem PrOk.tell {a b:Tm} (h:PrOk a b):Tells8 [(a,b)] (mgT a b):=by
 obtain ⟨n,r,_,_,_,h⟩:=b2g (l:=[(a,b)]) (by simp) h.tiny;rw [b9N h];exact h
theorem PrOk.img {a b:Tm} (h:PrOk a b) {v:Int} (hv:0<=v):(f0 (mgT a b).1 v).size<=2955:=by
 cases h2:(mgT a b).2 with
 | true =>
  obtain ⟨ha,hb⟩:=h.2.2 _ (h.tell.yes h2).uni;exact c1a ha hb hv
 | false =>
  rw [(h.tell.no h2).1];show (r5 v).size<=_;rw [Tm.size_var (by rw [s6];omega)];omega
theorem PrOk.un {a b:Tm} (h:PrOk a b) (W:World):AFun Tryz.prog W 65 [a.cw,b.cw] (.tup [.lst ((mgT a b).1.map Bd.cv),.b (mgT a b).2]):=a8e W a b h.1 h.2.1 h.2.2 _ h.tell.told
theorem PrOk.rep {a b:Tm} (h:PrOk a b) {t:Tm} (ht:t.rng/\t.ok):(a9 (mgS a b) t).rng/\(a9 (mgS a b) t).ok/\(a9 (mgS a b) t).size<=2955*t.size:=
 ⟨b8D h.tell.bdsOk ht.1,b2q ht.2 fun v=>a9Y (fun b hb=>(h.tell.ok b hb).2) v,b9m (M:=2955) (by omega) (fun v hv=>h.img hv) t⟩
theorem PrOk.ap {a b:Tm} (h:PrOk a b) {t:Tm} (ht:t.rng/\t.ok) (W:World):AFun Tryz.prog W 66 [.lst ((mgT a b).1.map Bd.cv),t.cw] (.val (a9 (mgS a b) t).cw):=
 a3d W (mgT a b).1 t (by have:=h.tell.len;omega) h.tell.bdsOk ht.1 ht.2
theorem PrOk.ca {a b:Tm} (h:PrOk a b) (W:World) (c:List Lt) (hl:c.length<=100000) (hc:∀ l∈c,l.rok):AFun Tryz.prog W 67 [.lst ((mgT a b).1.map Bd.cv),.lst (c.map Lt.cv)] (.val (.lst ((c.map (Lt.rep (mgS a b))).map Lt.cv))):=by
 obtain ⟨h1,h2⟩:=a7u hl hc;exact a3T W (mgT a b).1 c (by omega) (by have:=h.tell.len;omega) h.tell.bdsOk h1 h2
def Lt.s16 (l:Lt):Prop:=l.a.s16/\l.b.s16
theorem Lt.s16.rok {l:Lt} (h:l.s16):l.rok:=⟨h.1.1,h.2.1⟩
structure MtOk (c d:List Lt) (m:Mt):Prop where
 i:0<=m.fr.n/\m.fr.n<c.length
 j:0<=m.ti.n/\m.ti.n<d.length
 fr:∃ l,c[m.fr.n.toNat]?=some l/\((m.fr.a=l.a/\m.fr.b=l.b)\/(m.fr.a=l.b/\m.fr.b=l.a))/\l.neg=false
 ti:∃ l,d[m.ti.n.toNat]?=some l/\((m.ti.a=l.a/\m.ti.b=l.b)\/(m.ti.a=l.b/\m.ti.b=l.a))
 at_:atP m.pl m.ti.a=some m.pt
 sym:¬ m.pt.f<0
 pl:m.pl.length<m.ti.a.size
theorem c0N {ld:Tm->Tm->Bool} {c d:List Lt} {L M:List Int} (hL:∀ n∈L,0<=n/\n<c.length) (hM:∀ n∈M,0<=n/\n<d.length) {m:Mt} (h:m∈Z7 (x9 c) (F4 ld c L) (F4 ld d M)):MtOk c d m:=by
 obtain ⟨h1,h2,h3,h4⟩:=b1M h;obtain ⟨a1,l,a2,a3,a4⟩:=a1q h1;obtain ⟨b1,k,b2,b3,b4⟩:=a1q h3;obtain ⟨p,e1,e2,e3,e4⟩:=c0w m.ti.a [] _ h4;have e1:m.pl=p:=e1;subst e1;refine ⟨hL _ a1,hM _ b1,⟨l,a2,a3,?_⟩,⟨k,b2,b3⟩,e2,e3,e4⟩;unfold x9 at h2;rw [a2] at h2;exact h2
theorem MtOk.fs {c d:List Lt} {m:Mt} (h:MtOk c d m) (hc:∀ l∈c,l.s16):m.fr.a.s16/\m.fr.b.s16:=by
 obtain ⟨l,h1,h2,_⟩:=h.fr;have:=hc l (mem_of_getElem? h1);rcases h2 with ⟨e1,e2⟩ | ⟨e1,e2⟩
 ·rw [e1,e2];exact this
 ·rw [e1,e2];exact ⟨this.2,this.1⟩
theorem MtOk.ts {c d:List Lt} {m:Mt} (h:MtOk c d m) (hd:∀ l∈d,l.s16):m.ti.a.s16/\m.ti.b.s16:=by
 obtain ⟨l,h1,h2⟩:=h.ti;have:=hd l (mem_of_getElem? h1);rcases h2 with ⟨e1,e2⟩ | ⟨e1,e2⟩
 ·rw [e1,e2];exact this
 ·rw [e1,e2];exact ⟨this.2,this.1⟩
theorem MtOk.put {c d:List Lt} {m:Mt} (h:MtOk c d m) (hc:∀ l∈c,l.s16) (hd:∀ l∈d,l.s16):∃ z,F9 m.fr.b m.pl m.ti.a=some z/\(z.rng/\z.ok)/\z.size+m.pt.size=m.ti.a.size+m.fr.b.size:=by
 obtain ⟨f1,f2⟩:=h.fs hc;obtain ⟨t1,t2⟩:=h.ts hd;obtain ⟨z,g1,g2,g3,g4,g5⟩:=a4a m.fr.b f2.1.1 m.pl m.ti.a m.pt t1.1.1 h.at_;refine ⟨z,g1,⟨g2,?_⟩,g5⟩;have e:=a3j m.fr.b m.pl m.ti.a z g1;rw [<-e];exact b3n (by have:=t1.2;have:=f2.2;omega)
theorem MtOk.lits {c d:List Lt} {m:Mt} (h:MtOk c d m) (hc:∀ l∈c,l.s16) (hd:∀ l∈d,l.s16):∀ l∈G3 m c d,l.rok/\l.a.size<=31/\l.b.size<=31:=fun l hl=>by
 have st:∀ x:Lt,x.s16->x.strip.rok/\x.strip.a.size<=31/\x.strip.b.size<=31:=fun x hx=>by
  refine ⟨⟨⟨Tm.strip_rng hx.1.1.1,Tm.strip_ok hx.1.1.2⟩,Tm.strip_rng hx.2.1.1,Tm.strip_ok hx.2.1.2⟩,?_,?_⟩
  ·show x.a.strip.size<=31;rw [Tm.strip_size];have:=hx.1.2;omega
  ·show x.b.strip.size<=31;rw [Tm.strip_size];have:=hx.2.2;omega
 unfold G3 at hl;rcases mem_append.1 hl with hl | hl
 ·obtain ⟨x,hx,rfl⟩:=mem_map.1 hl;exact st x (hc x (a4p hx))
 ·rcases mem_append.1 hl with hl | hl
  ·obtain ⟨x,hx,rfl⟩:=mem_map.1 hl;exact st x (hd x (a4p hx))
  ·rw [mem_singleton] at hl;subst hl;obtain ⟨z,g1,g2,g3⟩:=h.put hc hd;obtain ⟨t1,t2⟩:=h.ts hd;obtain ⟨f1,f2⟩:=h.fs hc;rw [g1];have:=m.pt.size_pos;have:=t1.2;have:=t2.2;have:=f2.2;exact ⟨⟨g2,t2.1⟩,by show z.size<=31;omega,by show m.ti.b.size<=31;omega⟩
theorem a9v {c d:List Lt} {m:Mt} (h:MtOk c d m):(G3 m c d).length+1=c.length+d.length:=by
 unfold G3;have h1:=J1 (c:=c) (n:=m.fr.n.toNat) (by have:=h.i;omega);have h2:=J1 (c:=d) (n:=m.ti.n.toNat) (by have:=h.j;omega);rw [length_append,length_append,length_map,length_map];simp;omega
theorem b5L {fd:Nat} {ld:Tm->Tm->Bool} {c d:List Lt} {m:Mt} (tQ:∀ w (a b:Tm),a.rng/\a.ok/\a.size<=1000000->b.rng/\b.ok/\b.size<=1000000->AFun Tryz.prog w fd [a.cw,b.cw] (.val (.b (ld a b)))) (dK:c.length<=1000) (hdl:d.length<=1000) (hc:∀ l∈c,l.s16) (hd:∀ l∈d,l.s16) (h:MtOk c d m) (hp:PrOk m.fr.a m.pt):b9L fd ld c d m:=by
 obtain ⟨f1,f2⟩:=h.fs hc;obtain ⟨t1,t2⟩:=h.ts hd;have hb:∀ t:Tm,t.s16->(a9 (mgS m.fr.a m.pt) t).rng/\(a9 (mgS m.fr.a m.pt) t).ok/\(a9 (mgS m.fr.a m.pt) t).size<=1000000:=fun t ht=>by obtain ⟨g1,g2,g3⟩:=hp.rep ht.1;refine ⟨g1,g2,?_⟩;have:=Nat.mul_le_mul_left 2955 ht.2;omega
 refine ⟨hp.un,fun w t ht=>hp.ap ?_ w,fun w=>tQ w _ _ (hb _ f1) (hb _ f2),fun w=>tQ w _ _ (hb _ t1) (hb _ t2),fun w=>hp.ca w _ (by have:=a9v h;omega) (fun l hl=>(h.lits hc hd l hl).1),h.i,h.j,⟨f2.1.1,by have:=f2.2;omega⟩,⟨t1.1.1,by have:=t1.2;omega⟩,by have:=h.pl;have:=t1.2;omega⟩;rcases ht with rfl | rfl | rfl | rfl
 ·exact f1.1
 ·exact f2.1
 ·exact t1.1
 ·exact t2.1
def al1:Lt:=⟨false,⟨1,[]⟩,⟨0,[]⟩⟩
theorem b6x {a b:List Tm}:a7z a b=false↔¬ b7P a b:=by rw [<-b6v,Bool.not_eq_true]
theorem b8i (c:List Lt):(a0b c).length<=c.length+1:=by
 unfold a0b;split
 ·simp
 ·have:=a7v c c.length;omega
theorem b6J (c:List Lt):∀ k:Nat,-1<=(hvK c k).1/\(hvK c k).1<k
 | 0=>⟨by show (-1:Int) <= -1;omega,by show (-1:Int)<_;omega⟩
 | k+1=>by
  obtain ⟨h1,h2⟩:=b6J c k;unfold hvK;split
  ·omega
  ·split
   ·simp only;omega
   ·omega
theorem c0C {c:List Lt} {z:Int} (h:z∈a0b c):0<=z/\z<c.length:=by
 unfold a0b at h;split at h
 ·rw [mem_singleton] at h;have:=b6J c c.length;omega
 ·unfold gsK at h;obtain ⟨i,hi,rfl⟩:=mem_map.1 h;have:=List.mem_range.1 (mem_filter.1 hi).1;omega
abbrev sv (l:List UInt8):CV := .sc (.string ⟨l.toArray⟩)
section
variable {P:Program} {w0:World} {U0:UX} {nt:Nat} {ops:Array Oper} {o:Oper} {S:Nat->Option AV} {gs:List Nat} {d:Nat}
end
section
variable {P:Program} {w0:World} {U0:UX} {nt:Nat} {ops:Array Oper} {o:Oper} {S:Nat->Option AV} {gs:List Nat} {d:Nat}
end
theorem a9R {c:List Lt} {most:Nat} {size:Int} (h0:0<=size) (h1:size<=10) (h:U5 c most size=true):c.length<=most/\∀ l∈c,l.ten:=by
 obtain ⟨h2,h3⟩:=W5 h0 (by omega) h;refine ⟨h2,fun l hl=>?_⟩;obtain ⟨⟨⟨_,a1,a2⟩,_,a3⟩,⟨⟨_,b1,b2⟩,_,b3⟩⟩:=h3 l hl;exact ⟨⟨⟨a1,a2⟩,by omega⟩,⟨b1,b2⟩,by omega⟩
abbrev shV (n:Int):Int->Tm:=fun v=>r5 (v+n)
theorem a7o {n:Int} (hn:0<=n) (t:Tm):(a9 (shV n) t).size=t.size:=b5r (g:=fun v=>v+n) fun v hv=>by have:=p9 t v hv;omega
theorem b7f (c:List Lt):∀ k,k<=c.length->(0<=(hvK c k).1->∃ x,c[(hvK c k).1.toNat]?=some x/\x.neg=true)/\((hvK c k).1<0->(hvK c k).2=0/\∀ j,j<k->∀ x,c[j]?=some x->x.neg=false)
 | 0,_=>⟨fun h=>absurd h (by show ¬ (0:Int) <= -1;decide),fun _=>⟨rfl,fun j hj=>absurd hj (by omega)⟩⟩
 | k+1,hk=>by
  obtain ⟨h1,h2⟩:=b7f c k (by omega);obtain ⟨x,hx⟩:∃ x,c[k]?=some x:=⟨c[k],List.getElem?_eq_getElem (by omega)⟩
  have e:hvK c (k+1)=if x.neg=true/\(hvK c k).2<wtL x then ((k:Int),wtL x) else hvK c k:=by conv=>lhs;unfold hvK;rw [hx]
  rw [e];by_cases h:x.neg=true/\(hvK c k).2<wtL x
  ·rw [if_pos h];exact ⟨fun _=>⟨x,by rw [Int.toNat_natCast];exact hx,h.1⟩,fun hl=>by have:(k:Int)<0:=hl;omega⟩
  ·rw [if_neg h];refine ⟨h1,fun hl=>⟨(h2 hl).1,fun j hj y hy=>?_⟩⟩;obtain ⟨h3,h4⟩:=h2 hl;by_cases hjk:j<k
   ·exact h4 j hjk y hy
   ·have:j=k:=by omega
    subst this;rw [hx] at hy;cases hy;cases hg:x.neg with
    | false=>rfl
    | true =>
     exfalso;apply h;have:=x.a.size_pos;refine ⟨hg,?_⟩;rw [h3];unfold wtL;omega
section
variable {P:Program} {w0:World} {U0:UX} {nt:Nat} {ops:Array Oper} {o:Oper} {S:Nat->Option AV} {gs:List Nat} {d:Nat}
theorem c0V (hg:Gd w0 U0 nt ops o gs S) (hd:o.dst=some d) (hn:Nat.blt d nt=true) (h5:Nat.blt d 100000=true) {x y z:Operand} {ts:Array TypeId} {k:IntKind} {i j l:Int} {n q p n' q' p' n2 q2 p2} (ho:o.op = .call { callee := .builtin .max,args := #[x,y,z],argTypes:=ts }) (hx:ev S x=some ⟨0,.sc (.int k i),n,q,p⟩) (hy:ev S y=some ⟨0,.sc (.int k j),n',q',p'⟩) (hz:ev S z=some ⟨0,.sc (.int k l),n2,q2,p2⟩):AOp P w0 U0 nt ops o (gs++(rd x++(rd y++rd z))) [] S [(d,.val (.sc (.int k (max (max i j) l))))]:=
 j9 hg hd hn h5 (fun k hk=>mem_append_left _ hk) fun s hs a w D hv hm=>by have e1:=v7 hm (fun k hk=>hs k (mem_append_right _ (mem_append_left _ hk))) hx;have e2:=v7 hm (fun k hk=>hs k (mem_append_right _ (mem_append_right _ (mem_append_left _ hk)))) hy;have e3:=v7 hm (fun k hk=>hs k (mem_append_right _ (mem_append_right _ (mem_append_right _ hk)))) hz;refine ⟨.int k (max (max i j) l),?_,p8 rfl⟩;generalize a.eval=ρ at e1 e2 e3 |-;simp [execOp,ho,resolve,invoke,builtin,Builtin.max_,Builtin.max2,e1,e2,e3];split<;>split<;>omega
theorem zbO {P:Program} {w0:World} {U0:UX} {nt:Nat} {ops:Array Oper} {o:Oper} {S:Nat->Option AV} {gs:List Nat} {d:Nat} {x:Operand} {y:Operand} {z:Operand} {ts:Array TypeId} {k:IntKind} {i:Int} {j:Int} {l:Int} {n} {q} {p} {n'} {q'} {p'} {n2} {q2} {p2} (r:Gd w0 U0 nt ops o gs S:=by exact gN rfl) (t:o.dst=some d:=by exact rfl) (u:Nat.blt d nt=true:=by exact rfl) (v:Nat.blt d 100000=true:=by exact rfl) (A:o.op = .call { callee := .builtin .max,args := #[x,y,z],argTypes:=ts }:=by exact rfl) (B:ev S x=some ⟨0,.sc (.int k i),n,q,p⟩:=by exact rfl) (C:ev S y=some ⟨0,.sc (.int k j),n',q',p'⟩:=by exact rfl) (E:ev S z=some ⟨0,.sc (.int k l),n2,q2,p2⟩:=by exact rfl):AOp P w0 U0 nt ops o (gs++(rd x++(rd y++rd z))) [] S [(d,.val (.sc (.int k (max (max i j) l))))]:=c0V r t u v A B C E
end
def a1s (c:List Lt):Int:=c.foldl (fun m l=>max (max m (T3 l.a.flat)) (T3 l.b.flat)) (-1)
theorem b5b (W:World) (c:List Lt) (hn:c.length<=1000000) (hc:∀ l∈c,l.rng):AFun Tryz.prog W 63 [.lst (c.map Lt.cv)] (.val (.i (a1s c))):=by
 have kC:=Lt.size_all c;refine b9 (rs:=[.i (a1s c)]) Tryz.func63 Tryz.ntmps63 rfl rfl rfl rfl ?_;intro w U hW;refine aS (aR ?_);refine nc ze ?_;refine aS (aR ?_);refine nc ze ?_;refine aS (aS (aR ?_));refine nc zl (nc zo (nc zl ?_));refine aB (l9 c.length (fun k=>[(3,.val (.i (a1s (c.take k)))),(6,.val (.lst (c.map Lt.cv))),(7,.val (.i (c.map Lt.cv).length)),(8,.val (.i k))]) (a7 ⟨rfl,rfl,rfl,rfl,trivial⟩) ?_);intro k hk;refine aS (aR ?_);refine nc zi ?_;refine aS (aC rfl (fun kA=>?_) (fun kA=>?_))
 ·have kE:k<c.length:=by simpa using kA
  obtain ⟨x,hx⟩:∃ x,c[k]?=some x:=⟨c[k],List.getElem?_eq_getElem kE⟩
  have kU:=Lt.map_at hx;have dG:=mem_of_getElem? hx;have s1:=b2K w (hc x dG).1;have s2:=b2K w (hc x dG).2;have cZ:a1s (c.take (k+1))=max (max (a1s (c.take k)) (T3 x.a.flat)) (T3 x.b.flat):=by unfold a1s;rw [List.take_add_one,hx,List.foldl_append];rfl
  refine aK ?_;refine aS (aB (aS (aR ?_)));refine nc (zt (j:=k) (H:=kU) (hz:=kC)) (nc zu (nc zw (nc zx ?_)));refine aD (by kernel_rfl) (by kernel_rfl) ?_;refine nc zl (nc zg (nc zh (nc (zk (z:=s1)) (nc zg (nc zh (nc (zk (z:=s2)) (nc zbO (nc ze ?_))))))));refine ⟨by kernel_rfl,?_⟩;refine aR ?_;refine nc zA (nc zl ?_);exact ⟨kE,a7 ⟨by rw [cZ];rfl,rfl,rfl,rfl,trivial⟩⟩
 ·have kE:k=c.length:=by
   have:¬ k<c.length:=by simpa using kA
   omega
  subst kE;rw [List.take_length];refine aE ?_;refine aS (aR ?_);refine nc zl (nc ze ?_);exact aT (And.intro (.inr rfl) rfl)
theorem a0X:∀ (l:List Int) (m:Int),m<=l.foldl max m/\(∀ v∈l,v<=l.foldl max m)/\∀ N,m<N->(∀ v∈l,v<N)->l.foldl max m<N
 | [],m=>⟨Int.le_refl _,(fun v h=>by cases h),fun N h _=>h⟩
 | x::l,m=>by
  obtain ⟨h1,h2,h3⟩:=a0X l (max m x);refine ⟨?_,fun v hv=>?_,fun N hm hl=>h3 N ?_ fun v hv=>hl v (List.mem_cons_of_mem _ hv)⟩
  ·show m<=l.foldl max (max m x);omega
  ·show v<=l.foldl max (max m x);rcases mem_cons.1 hv with rfl | hv
   ·omega
   ·exact h2 v hv
  ·have:=hl x (by simp);omega
def cvs (c:List Lt):List Int:=c.flatMap fun l=>l.a.vs++l.b.vs
theorem b9U {c:List Lt} {l:Lt} (h:l∈c):∀ v∈l.a.vs,v∈cvs c:=fun v hv=>mem_flatMap.2 ⟨l,h,mem_append_left _ hv⟩
theorem b9M {c:List Lt} {l:Lt} (h:l∈c):∀ v∈l.b.vs,v∈cvs c:=fun v hv=>mem_flatMap.2 ⟨l,h,mem_append_right _ hv⟩
theorem b1V (c:List Lt):a1s c=(cvs c).foldl max (-1):=by
 have hm:∀ (l:List Int) (m:Int),-1<=m->l.foldl max m=max m (l.foldl max (-1)):=fun l=>by
  induction l with
  | nil=>intro m h;show m=max m (-1);omega
  | cons x l ih =>
   intro m h;show l.foldl max (max m x)=max m (l.foldl max (max (-1) x));rw [ih _ (by omega),ih (max (-1) x) (by omega)];omega
 have key:∀ (c:List Lt) (m:Int),-1<=m->c.foldl (fun m l=>max (max m (T3 l.a.flat)) (T3 l.b.flat)) m=(cvs c).foldl max m:=fun c=>by
  induction c with
  | nil=>intro m _;rfl
  | cons l c ih =>
   intro m h;have e1:T3 l.a.flat=l.a.vs.foldl max (-1):=b1Q _;have e2:T3 l.b.flat=l.b.vs.foldl max (-1):=b1Q _;show c.foldl _ (max (max m (T3 l.a.flat)) (T3 l.b.flat))=((l.a.vs++l.b.vs)++cvs c).foldl max m;have g1:=(a0X l.a.vs (-1)).1;rw [ih _ (by rw [e1];omega),List.foldl_append,List.foldl_append,hm l.a.vs m h,hm l.b.vs _ (by omega),e1,e2]
 exact key c (-1) (Int.le_refl _)
theorem a7Z (c:List Lt) : -1<=a1s c:=by rw [b1V];exact (a0X _ _).1
theorem b1m {c:List Lt} {N:Int} (hN:0<=N) (h:∀ v∈cvs c,v<N):a1s c<N:=by rw [b1V];exact (a0X _ _).2.2 N (by omega) h
noncomputable def rnC (c d:List Lt):List Lt:=d.map (Lt.rep (shV (a1s c+1)))
theorem b1o (c d:List Lt):(rnC c d).length=d.length:=length_map ..
theorem b7i {t:Tm} (h:t.s16) {b N:Int} (hb:0<=b) (hbN:b+N<=1000000000000) (hN:∀ v∈t.vs,v<N):(a9 (shV b) t).s16:=by
 have e:a9 (shV b) t=a9 (fun v=>r5 (upV (max b 0) v)) t:=I8 fun v hv=>by have h1:=hN v hv;have h2:=p9 t v hv;show r5 _=r5 _;congr 1;unfold upV;omega
 refine ⟨⟨?_,?_⟩,by rw [a7o hb];exact h.2⟩
 ·by_cases hv0:t.vs=[]
  ·have e2:a9 (shV b) t=a9 r5 t:=I8 fun v hv=>by rw [hv0] at hv;cases hv
   rw [e2,a7M];exact Tm.strip_rng h.1.1
  ·obtain ⟨v0,hv⟩:=List.exists_mem_of_ne_nil _ hv0;have h1:=hN v0 hv;have h2:=p9 t v0 hv;rw [e];exact a8U h.1.1 fun v h1 h2=>a4u (a7R h1 h2 (by omega)).1 (a7R h1 h2 (by omega)).2
 ·exact b2q h.1.2 fun v=>b2H _
theorem b7a {c d:List Lt} {N:Int} (hN:0<=N/\N<=1000000) (hc:∀ v∈cvs c,v<N) (hd:∀ l∈d,l.s16) (hv:∀ v∈cvs d,v<N):∀ l∈rnC c d,l.s16:=fun l hl=>by
 obtain ⟨x,hx,rfl⟩:=mem_map.1 hl;have h1:=a7Z c;have h2:=b1m hN.1 hc;exact ⟨b7i (hd x hx).1 (N:=N) (by omega) (by omega) fun v h=>hv v (b9U hx v h),b7i (hd x hx).2 (N:=N) (by omega) (by omega) fun v h=>hv v (b9M hx v h)⟩
theorem a7k {c:List Lt} (h:∀ l∈c,l.s16):∀ l∈c,l.rok:=fun l hl=>(h l hl).rok
theorem b5o (W:World) {c d:List Lt} {N:Int} (hN:0<=N/\N<=1000000) (hdl:d.length<=1000) (hc:∀ v∈cvs c,v<N) (hd:∀ l∈d,l.s16) (hv:∀ v∈cvs d,v<N):AFun Tryz.prog W 18 [.lst (d.map Lt.cv),.i (a1s c+1)] (.val (.lst ((rnC c d).map Lt.cv))):=by
 obtain ⟨h1,h2⟩:=a7u (by omega) (a7k hd);have h:=a8n W d (a1s c+1) (by omega) h1 h2;have g1:=a7Z c;have g2:=b1m hN.1 hc;have e:d.map (Lt.rep fun v=>r5 (upV (max (a1s c+1) 0) v))=rnC c d:=List.map_congr_left fun l hl=>by
  have e:∀ t:Tm,(∀ v∈t.vs,v∈cvs d)->a9 (fun v=>r5 (upV (max (a1s c+1) 0) v)) t=a9 (shV (a1s c+1)) t:=fun t ht=>I8 fun v gI=>by have h3:=hv v (ht v gI);have h4:=p9 t v gI;show r5 _=r5 _;congr 1;unfold upV;omega
  unfold Lt.rep;rw [e _ (b9U hl),e _ (b9M hl)]
 rw [e] at h;exact h
noncomputable def lkM (free:Bool) (c:List Lt):List Int:=if free=true then upL c.length else a0b c
noncomputable def ldM (free:Bool):Tm->Tm->Bool:=if free=true then fun _ _=>true else U6
noncomputable def mtM (free:Bool) (c d:List Lt):List Mt:=Z7 (x9 c) (F4 (ldM free) c (lkM free c)) (F4 (ldM free) d (lkM free d))
noncomputable def a0a (free:Bool) (c d:List Lt):List (List Lt):=a5C (ldM free) c (rnC c d) (mtM free c (rnC c d))
theorem c0q {n:Nat} {z:Int} (h:z∈upL n):0<=z/\z<n:=by
 obtain ⟨k,hk,rfl⟩:=mem_map.1 h;have:=List.mem_range.1 hk;omega
theorem b0y (free:Bool) (c:List Lt):∀ n∈lkM free c,0<=n/\n<c.length:=fun n hn=>by
 unfold lkM at hn;split at hn
 ·exact c0q hn
 ·exact c0C hn
theorem a8a (free:Bool) (c:List Lt):(lkM free c).length<=c.length+1:=by
 unfold lkM;split
 ·rw [a7f];omega
 ·exact b8i c
theorem b1c {free:Bool} {c d:List Lt} {m:Mt} (h:m∈mtM free c d):MtOk c d m:=c0N (b0y free c) (b0y free d) h
structure Pr2 (free:Bool) (c d:List Lt):Prop where
 N:∃ N:Int,(0<=N/\N<=1000000)/\(∀ v∈cvs c,v<N)/\∀ v∈cvs d,v<N
 cl:c.length<=10
 dl:d.length<=10
 cs:∀ l∈c,l.s16
 ds:∀ l∈d,l.s16
 pr:∀ m∈mtM free c (rnC c d),PrOk m.fr.a m.pt
theorem Pr2.rn {free:Bool} {c d:List Lt} (h:Pr2 free c d):∀ l∈rnC c d,l.s16:=by
 obtain ⟨N,h1,h2,h3⟩:=h.N;exact b7a h1 h2 h.ds h3
theorem b2y {ld:Tm->Tm->Bool} {c:List Lt} {L:List Int} (hc:∀ l∈c,l.s16) {w:Wy} (h:w∈F4 ld c L):w.a.s16/\w.b.s16:=by
 obtain ⟨_,l,h1,h2,_⟩:=a1q h;have:=hc l (mem_of_getElem? h1);rcases h2 with ⟨e1,e2⟩ | ⟨e1,e2⟩
 ·rw [e1,e2];exact this
 ·rw [e1,e2];exact ⟨this.2,this.1⟩
theorem b2O {free:Bool} {c d:List Lt} (hc:c.length<=10) (hd:d.length<=10) (hs:∀ l∈d,l.s16):(mtM free c d).length<=22*(22*16):=by
 have h1:=a7w (ldM free) c (lkM free c);have h2:=a7w (ldM free) d (lkM free d);have h3:=a8a free c;have h4:=a8a free d;refine Nat.le_trans (b8u _ _ _ 16 fun w hw=>(b2y hs hw).1.2) (Nat.mul_le_mul (by omega) (Nat.mul_le_mul (by omega) (Nat.le_refl _)))
theorem b5x {free:Bool} {c d:List Lt} (hc:c.length<=10) (hd:d.length<=10) (hs:∀ l∈rnC c d,l.s16):(a0a free c d).length<=7744:=
 Nat.le_trans (List.length_filterMap_le _ _) (b2O hc (by rw [b1o];exact hd) hs)
theorem a6v (free:Bool) (fl fd:Nat) (W:World) (c d:List Lt) (h:Pr2 free c d) (hfl:∀ w (x:List Lt),x.length<=1000->(∀ l∈x,l.s16)->AFun Tryz.prog w fl [.lst (x.map Lt.cv)] (.val (.lst ((lkM free x).map CV.i)))) (jX:∀ w (a b:Tm),a.rng/\a.ok/\a.size<=1000000->b.rng/\b.ok/\b.size<=1000000->AFun Tryz.prog w fd [a.cw,b.cw] (.val (.b (ldM free a b)))):AFun Tryz.prog W 39 [ruC fl fd,.lst (c.map Lt.cv),.lst (d.map Lt.cv)] (.val (.lst ((a0a free c d).map clC))):=by
 obtain ⟨N,n1,n2,n3⟩:=h.N;have hr:=h.rn;have hdl:=h.dl;have dK:=h.cl;have tP:=b1o c d;have g1:=a7Z c;have g2:=b1m n1.1 n2;have l1:=a8a free c;have l2:=a8a free (rnC c d);have hb:∀ t:Tm,t.s16->t.rng/\t.ok/\t.size<=1000000:=fun t ht=>⟨ht.1.1,ht.1.2,by have:=ht.2;omega⟩
 have hml:=b2O (free:=free) dK (by rw [tP];exact hdl) hr;exact a5g W fl fd (ldM free) c d (rnC c d) (lkM free c) (lkM free (rnC c d)) (a1s c) (by omega) (by omega) (by omega) (a7k h.cs) (a7k hr) (fun w=>b5b w c (by omega) fun l hl=>⟨(h.cs l hl).1.1.1,(h.cs l hl).2.1.1⟩) (fun w=>b5o w n1 (by omega) n2 h.ds n3) (fun w=>hfl w c (by omega) h.cs) (fun w=>hfl w _ (by omega) hr) (b0y free c) (b0y free _) (by omega) (by omega)
  (fun w l hl=>by
   have hs:l.s16:=by
    rcases hl with hl | hl
    ·exact h.cs l hl
    ·exact hr l hl
   exact ⟨jX w _ _ (hb _ hs.1) (hb _ hs.2),jX w _ _ (hb _ hs.2) (hb _ hs.1)⟩) (fun w hw=>by have:=(b2y hr hw).1.2;omega) (fun w hw=>b0y free c _ (a1q hw).1) (by unfold mtM at hml;omega)
  (fun m hm=>b5L jX (by omega) (by omega) h.cs hr (b1c hm) (h.pr m hm))
theorem b2o {P:Program} {W:World} {f fl fd:Nat} {a b:CV} {r:AV} (h:AFun P W f [ruC fl fd,a,b] r):AFun P W f [.row [.sc (.func (.func fl) #[] #[]),.sc (.func (.func fd) #[] #[])],a,b] r:=by
 refine ⟨h.1,h.2.1,h.2.2.1,fun U w vs hW hv=>h.2.2.2 U w vs hW ?_⟩;obtain ⟨u,us,rfl,h1,h2⟩:=hv;refine ⟨u,us,rfl,?_,h2⟩;have key:∀ (f:Nat) (xs:List Value),Rep U w (.sc (.func (.func f) #[] #[])) xs->Rep U w (.fn f 0 []) xs:=fun f xs hx=>by obtain ⟨rfl,_⟩:=J7.1 hx;exact b6I.2 ⟨[],[],rfl,rfl,rfl,fun c hc=>by cases hc⟩
 obtain ⟨xs,e,y1,z1,e1,s1,y2,z2,e2,s2,s3⟩:=E3.1 h1;exact E3.2 ⟨xs,e,y1,z1,e1,key _ _ s1,y2,z2,e2,key _ _ s2,s3⟩
theorem a4b (W:World) (c d:List Lt) (h:Pr2 false c d):AFun Tryz.prog W 13 [.lst (c.map Lt.cv),.lst (d.map Lt.cv)] (.val (.lst ((a0a false c d).map clC))):=by
 have hf:=fun w=>a6v false 37 38 w c d h (fun w x hx hs=>by
  have:=b4p w x (by omega) fun l hl=>?_
  ·exact this
  ·exact ⟨⟨(hs l hl).1.1.1,(hs l hl).1.1.2,by have:=(hs l hl).1.2;omega⟩,(hs l hl).2.1.1,(hs l hl).2.1.2,by have:=(hs l hl).2.2;omega⟩) (fun w a b ha hb=>a8p w a b ha hb)
 refine b9 (rs:=[.lst ((a0a false c d).map clC)]) Tryz.func13 Tryz.ntmps13 rfl rfl rfl rfl ?_;intro w U hW;refine aS (aR ?_);refine nc ze ?_;refine aS (aR ?_);refine nc (zbM [.sc .nilFunc,.sc .nilFunc]) (nc zl (nc zl (nc (zk (z:=b2o (hf w))) (nc ze ?_))));exact aT (And.intro (.inr rfl) rfl)
theorem b1d (W:World) (c d:List Lt) (h:Pr2 true c d):AFun Tryz.prog W 15 [.lst (c.map Lt.cv),.lst (d.map Lt.cv)] (.val (.lst ((a0a true c d).map clC))):=by
 have hf:=fun w=>a6v true 41 42 w c d h (fun w x hx hs=>a6M w x (by omega)) (fun w a b _ _=>a6I w a b);refine b9 (rs:=[.lst ((a0a true c d).map clC)]) Tryz.func15 Tryz.ntmps15 rfl rfl rfl rfl ?_;intro w U hW;refine aS (aR ?_);refine nc ze ?_;refine aS (aR ?_);refine nc (zbM [.sc .nilFunc,.sc .nilFunc]) (nc zl (nc zl (nc (zk (z:=b2o (hf w))) (nc ze ?_))));exact aT (And.intro (.inr rfl) rfl)
theorem a7h {free:Bool} {c d:List Lt} {z:List Lt} (h:z∈a0a free c d):∃ m,m∈mtM free c (rnC c d)/\(mgT m.fr.a m.pt).2=true/\z=(G3 m c (rnC c d)).map (Lt.rep (mgS m.fr.a m.pt)):=by
 obtain ⟨m,hm,he⟩:=List.mem_filterMap.1 h;unfold a2Y at he;split at he
 ·rename_i hg;exact ⟨m,hm,hg.1,(Option.some.inj he).symm⟩
 ·cases he
theorem b7H {free:Bool} {c d:List Lt} (hp:Pr2 free c d) {z:List Lt} (h:z∈a0a free c d):z.length+1=c.length+d.length/\∀ l∈z,l.rok/\l.a.size<=100000/\l.b.size<=100000:=by
 obtain ⟨m,hm,_,rfl⟩:=a7h h;have hk:=b1c hm;have hpr:=hp.pr m hm;refine ⟨by rw [length_map,<-b1o c d];exact a9v hk,fun l hl=>?_⟩;obtain ⟨x,hx,rfl⟩:=mem_map.1 hl;obtain ⟨h1,h2,h3⟩:=hk.lits hp.cs hp.rn x hx;obtain ⟨a1,a2,a3⟩:=hpr.rep h1.1;obtain ⟨b1,b2,b3⟩:=hpr.rep h1.2;have m1:=Nat.mul_le_mul_left 2955 h2;have m2:=Nat.mul_le_mul_left 2955 h3;exact ⟨⟨⟨a1,a2⟩,b1,b2⟩,by show (a9 _ x.a).size<=_;omega,by show (a9 _ x.b).size<=_;omega⟩
theorem b2r:∀ {p:List Int} {t s:Tm},atP p t=some s->t.ok->s.ok
 | [],t,s,h,hr=>by cases h;exact hr
 | k::ks,t,s,h,hr=>by
  rw [atP] at h;cases hp:t.pa k with
  | none=>rw [hp] at h;cases h
  | some u =>
   rw [hp] at h;exact b2r (p:=ks) h (((Tm.ok_iff _).1 hr).2 u (Tm.ps_mem (a4O hp)).1)
theorem a2P {t:Tm} (h:t.ten):t.s16:=⟨h.1,Nat.le_trans h.2 (by omega)⟩
theorem c0k {p:List Int} {t s:Tm} (h:atP p t=some s) (ht:t.ten):s.ten:=⟨⟨(b1B h ht.1.1).1,b2r h ht.1.2⟩,Nat.le_trans (b1B h ht.1.1).2 ht.2⟩
theorem b9X {c d:List Lt} (hd:∀ l∈d,l.ten) (h:∀ l∈rnC c d,l.s16):∀ l∈rnC c d,l.ten:=fun l hl=>by
 have hs:=h l hl;obtain ⟨x,hx,rfl⟩:=mem_map.1 hl;have g1:=a7Z c;exact ⟨⟨hs.1.1,by show (a9 _ x.a).size<=10;rw [a7o (by omega)];exact (hd x hx).1.2⟩,hs.2.1,by show (a9 _ x.b).size<=10;rw [a7o (by omega)];exact (hd x hx).2.2⟩
theorem MtOk.ft {c d:List Lt} {m:Mt} (h:MtOk c d m) (hc:∀ l∈c,l.ten):m.fr.a.ten/\m.fr.b.ten:=by
 obtain ⟨l,h1,h2,_⟩:=h.fr;have:=hc l (mem_of_getElem? h1);rcases h2 with ⟨e1,e2⟩ | ⟨e1,e2⟩
 ·rw [e1,e2];exact this
 ·rw [e1,e2];exact ⟨this.2,this.1⟩
theorem MtOk.tt {c d:List Lt} {m:Mt} (h:MtOk c d m) (hd:∀ l∈d,l.ten):m.ti.a.ten/\m.ti.b.ten:=by
 obtain ⟨l,h1,h2⟩:=h.ti;have:=hd l (mem_of_getElem? h1);rcases h2 with ⟨e1,e2⟩ | ⟨e1,e2⟩
 ·rw [e1,e2];exact this
 ·rw [e1,e2];exact ⟨this.2,this.1⟩
theorem b9I {c d:List Lt} (free:Bool) {N:Int} (hN:0<=N/\N<=1000000) (hv:∀ v∈cvs c,v<N) (hw:∀ v∈cvs d,v<N) (dK:c.length<=10) (hdl:d.length<=10) (hc:∀ l∈c,l.ten) (hd:∀ l∈d,l.ten):Pr2 free c d:=by
 have cs:∀ l∈c,l.s16:=fun l hl=>⟨a2P (hc l hl).1,a2P (hc l hl).2⟩
 have ds:∀ l∈d,l.s16:=fun l hl=>⟨a2P (hd l hl).1,a2P (hd l hl).2⟩
 have hr:=b9X hd (b7a hN hv ds hw);refine ⟨⟨N,hN,hv,hw⟩,dK,hdl,cs,ds,fun m hm=>?_⟩;have hk:=b1c hm;exact b1D (hk.ft hc).1 (c0k hk.at_ (hk.tt hr).1)
theorem b7d {c:List Lt} (h:∀ l∈c,l.a.sm/\l.b.sm):∀ v∈cvs c,v<1000:=fun v hv=>by
 obtain ⟨l,hl,hv⟩:=mem_flatMap.1 hv;have key:∀ t:Tm,t.sm->∀ v∈t.vs,v<1000:=fun t h=>c1U (fun s hs=>(Tm.sm_flat h s hs).1);rcases mem_append.1 hv with hv | hv
 ·exact key _ (h l hl).1 v hv
 ·exact key _ (h l hl).2 v hv
theorem b1P (l:Lt) (h:l.neg=false):a0b [l]=[0]:=by
 have h1:hvK [l] 1=(-1,0):=by unfold hvK;show (if l.neg=true/\_ then _ else hvK [l] 0)=_;rw [if_neg (by rw [h];rintro ⟨h,_⟩;cases h)];rfl
 have hg:c1t [l] l=true:=by
  unfold c1t;rw [List.any_eq_false.2 fun x hx=>by
   have:x=l:=by simpa using hx
   rw [this,b6x.2 (b9g _)];decide]
  rfl
 unfold a0b;show (if (hvK [l] 1).1>=0 then _ else gsK [l] 1)=_;rw [h1,if_neg (by decide)];have g0:a2V [l] 0=true:=hg;unfold gsK;have e:List.range 1=[0]:=rfl;rw [e,List.filter_cons_of_pos (by exact g0)];rfl
theorem a9y {a b:Tm} (h:PrOk a b) (h1:¬ a.f<0) (h2:¬ b.f<0) (h3:a.f≠b.f):(mgT a b).2=false:=by
 cases e:(mgT a b).2 with
 | false=>rfl
 | true =>
  exfalso;have hu:=(h.tell.yes e).uni;rw [F7,j5 h1,j5 h2] at hu;injection hu with e1 _;exact h3 e1
theorem Q1 {a b:Tm} (h:kb a b=1):U6 a b=true/\U6 b a=false:=by
 refine ⟨decide_eq_true (.inl h),decide_eq_false ?_⟩;rw [b8T a b,h];decide
def x6:Tm:=⟨-1,[]⟩
def o6:Tm:=⟨1,[]⟩
def fx6:Tm:=⟨3,[x6]⟩
def fo6:Tm:=⟨3,[o6]⟩
def pf6:Tm:=⟨4,[fo6]⟩
def po6:Tm:=⟨4,[o6]⟩
def t6:Tm:=⟨0,[]⟩
def c6:List Lt:=[⟨false,fx6,x6⟩]
def d6:List Lt:=[⟨false,pf6,t6⟩]
theorem c1f:x6.ten:=⟨⟨by simp [x6,Tm.rng],by simp [x6,Tm.ok]⟩,by simp [x6,Tm.size,Tm.flat]⟩
theorem c0H:o6.ten:=⟨⟨by simp [o6,Tm.rng],by simp [o6,Tm.ok]⟩,by simp [o6,Tm.size,Tm.flat]⟩
theorem a3X:fx6.ten:=⟨⟨by simp [fx6,x6,Tm.rng],by simp [fx6,x6,Tm.ok]⟩,by simp [fx6,x6,Tm.size,Tm.flat]⟩
theorem b8J:fo6.ten:=⟨⟨by simp [fo6,o6,Tm.rng],by simp [fo6,o6,Tm.ok]⟩,by simp [fo6,o6,Tm.size,Tm.flat]⟩
theorem b2E:pf6.ten:=⟨⟨by simp [pf6,fo6,o6,Tm.rng],by simp [pf6,fo6,o6,Tm.ok]⟩,by simp [pf6,fo6,o6,Tm.size,Tm.flat]⟩
theorem c0d:t6.ten:=⟨⟨by simp [t6,Tm.rng],by simp [t6,Tm.ok]⟩,by simp [t6,Tm.size,Tm.flat]⟩
theorem c0y:∀ l∈c6,l.ten:=fun l hl=>by
 simp only [c6,mem_cons,not_mem_nil,or_false] at hl;subst hl;exact ⟨a3X,c1f⟩
theorem c0o:∀ l∈d6,l.ten:=fun l hl=>by
 simp only [d6,mem_cons,not_mem_nil,or_false] at hl;subst hl;exact ⟨b2E,c0d⟩
theorem b2U (σ:Int->Tm):a9 σ fo6=fo6:=by simp [fo6,o6,a9]
theorem b2W (σ:Int->Tm):a9 σ pf6=pf6:=by simp [pf6,fo6,o6,a9]
theorem b1C (σ:Int->Tm):a9 σ t6=t6:=by simp [t6,a9]
theorem b7u (σ:Int->Tm):a9 σ x6=(σ 0).strip:=by simp [x6,a9]
theorem a7m (σ:Int->Tm):a9 σ fx6=⟨3,[(σ 0).strip]⟩:=by simp [fx6,x6,a9]
theorem pr6:Pr2 false c6 d6:=by
 have e1:cvs c6=[0,0]:=by simp [cvs,c6,fx6,x6,Tm.vs,vsL,Tm.flat]
 have e2:cvs d6=[]:=by simp [cvs,d6,pf6,fo6,o6,t6,Tm.vs,vsL,Tm.flat]
 exact b9I false (N:=1) (by omega) (fun v hv=>by rw [e1] at hv;simp at hv;omega) (fun v hv=>by rw [e2] at hv;cases hv) (by simp [c6]) (by simp [d6]) c0y c0o
theorem mg6:(mgT fx6 fo6).2=true/\(mgS fx6 fo6 0).strip=o6:=by
 have hT:=b2N a3X b8J;have h2:(mgT fx6 fo6).2=true:=by
  cases h:(mgT fx6 fo6).2 with
  | true=>rfl
  | false =>
   exfalso;refine (hT.no h).2 (fun _=>o6) ?_;rw [F7,a7m,b2U];simp [fo6,o6,Tm.strip]
 refine ⟨h2,?_⟩;have hu:=(hT.yes h2).uni;rw [F7,a7m,b2U] at hu;have hu:(⟨3,[(mgS fx6 fo6 0).strip]⟩:Tm)=⟨3,[o6]⟩:=hu;injection hu with _ h3;injection h3
theorem c2t:kb fx6 x6=1:=b9R (p:=[0]) rfl (by simp)
theorem c2O:kb fo6 o6=1:=b9R (p:=[0]) rfl (by simp)
theorem c1p:kb pf6 t6=1:=by
 rw [b6N];refine ⟨?_,.inl ?_⟩
 ·intro v;have:t6.vs=[]:=by simp [t6,Tm.vs,vsL,Tm.flat]
  rw [this];simp
 ·simp [pf6,fo6,o6,t6,Tm.size,Tm.flat]
theorem c2K:a0a false c6 d6=[[⟨false,po6,t6⟩]]:=by
 have er:rnC c6 d6=d6:=by unfold rnC d6;simp only [map_cons,List.map_nil,Lt.rep,b2W,b1C]
 have w1:F4 U6 c6 (a0b c6)=[⟨0,fx6,x6⟩]:=by rw [show a0b c6=[0] from b1P _ rfl];show a5X U6 c6 0++[]=_;rw [append_nil];show ([⟨0,fx6,x6⟩,⟨0,x6,fx6⟩]:List Wy).filter (fun w=>U6 w.a w.b)=_;simp [List.filter_cons,(Q1 c2t).1,(Q1 c2t).2]
 have w2:F4 U6 d6 (a0b d6)=[⟨0,pf6,t6⟩]:=by rw [show a0b d6=[0] from b1P _ rfl];show a5X U6 d6 0++[]=_;rw [append_nil];show ([⟨0,pf6,t6⟩,⟨0,t6,pf6⟩]:List Wy).filter (fun w=>U6 w.a w.b)=_;simp [List.filter_cons,(Q1 c1p).1,(Q1 c1p).2]
 have e0:sy pf6 []=[([],pf6),([0],fo6),([0,0],o6)]:=by rw [a2v,if_neg (by show ¬ (4:Int)<0;decide),show pf6.l=[fo6] from rfl,N1,T4,append_nil,a2v,if_neg (by show ¬ (3:Int)<0;decide),show fo6.l=[o6] from rfl,N1,T4,append_nil,a2v,if_neg (by show ¬ (1:Int)<0;decide),show o6.l=[] from rfl,T4];rfl
 have em:mtM false c6 d6=[⟨⟨0,fx6,x6⟩,⟨0,pf6,t6⟩,[],pf6⟩,⟨⟨0,fx6,x6⟩,⟨0,pf6,t6⟩,[0],fo6⟩,⟨⟨0,fx6,x6⟩,⟨0,pf6,t6⟩,[0,0],o6⟩]:=by unfold mtM;show Z7 (x9 c6) (F4 U6 c6 (a0b c6)) (F4 U6 d6 (a0b d6))=_;rw [w1,w2];show mtN (x9 c6) _ _++[]=_;rw [append_nil];unfold mtN;rw [if_neg (by show ¬ x9 c6 0=true;decide)];show mtI _ _++[]=_;rw [append_nil];unfold mtI;simp only [e0];rfl
 obtain ⟨g1,g2⟩:=mg6;unfold a0a;rw [er,em];have f1:a2Y (ldM false) c6 d6 ⟨⟨0,fx6,x6⟩,⟨0,pf6,t6⟩,[],pf6⟩=none:=by unfold a2Y;rw [if_neg];rintro ⟨h,_⟩;have:=a9y (b1D a3X b2E) (by show ¬ (3:Int)<0;decide) (by show ¬ (4:Int)<0;decide) (by show (3:Int)≠4;decide);rw [this] at h;cases h
 have f3:a2Y (ldM false) c6 d6 ⟨⟨0,fx6,x6⟩,⟨0,pf6,t6⟩,[0,0],o6⟩=none:=by unfold a2Y;rw [if_neg];rintro ⟨h,_⟩;have:=a9y (b1D a3X c0H) (by show ¬ (3:Int)<0;decide) (by show ¬ (1:Int)<0;decide) (by show (3:Int)≠1;decide);rw [this] at h;cases h
 have f2:a2Y (ldM false) c6 d6 ⟨⟨0,fx6,x6⟩,⟨0,pf6,t6⟩,[0],fo6⟩=some [⟨false,po6,t6⟩]:=by
  unfold a2Y;simp only [a7m,b7u,b2W,b1C,g2];rw [if_pos ⟨g1,(Q1 c2O).1,(Q1 c1p).1⟩];have ej:G3 ⟨⟨0,fx6,x6⟩,⟨0,pf6,t6⟩,[0],fo6⟩ c6 d6=[⟨false,⟨4,[x6]⟩,t6⟩]:=by
   unfold G3;have e1:(F9 x6 [0] pf6).getD ⟨0,[]⟩=⟨4,[x6]⟩:=by simp [F9,pf6,Tm.pa,Tm.ps,x6,Tm.strip]
   rw [e1];rfl
  rw [ej];have e2:a9 (mgS fx6 fo6) ⟨4,[x6]⟩=po6:=by
   have:a9 (mgS fx6 fo6) ⟨4,[x6]⟩=⟨4,[a9 (mgS fx6 fo6) x6]⟩:=by rw [j5 (by show ¬ (4:Int)<0;decide)];rfl
   rw [this,b7u,g2];rfl
  simp only [map_cons,List.map_nil,Lt.rep,e2,b1C]
 unfold a5C;rw [List.filterMap_cons,f1,List.filterMap_cons,f2,List.filterMap_cons,f3];rfl
theorem b1x (W:World) (t:CV) (f:Int) (l:List CV) (ht:t = .row [.i f,.lst l]):AFun Tryz.prog W 23 [t] (.val (.row [.i 3,.lst [t]])):=by
 subst ht;refine b9 (rs:=[.row [.i 3,.lst [.row [.i f,.lst l]]]]) Tryz.func23 Tryz.ntmps23 rfl rfl rfl rfl ?_;intro w U hW;refine aS (aR ?_);refine nc zd (nc zw ?_);refine aS (aR ?_);refine nc zj (nc zy (nc zC (nc zx ?_)));exact aT (And.intro (.inr rfl) rfl)
theorem c0P (W:World) (t:CV) (f:Int) (l:List CV) (ht:t = .row [.i f,.lst l]):AFun Tryz.prog W 24 [t] (.val (.row [.i 4,.lst [t]])):=by
 subst ht;refine b9 (rs:=[.row [.i 4,.lst [.row [.i f,.lst l]]]]) Tryz.func24 Tryz.ntmps24 rfl rfl rfl rfl ?_;intro w U hW;refine aS (aR ?_);refine nc zd (nc zw ?_);refine aS (aR ?_);refine nc zj (nc zy (nc zC (nc zx ?_)));exact aT (And.intro (.inr rfl) rfl)
set_option maxHeartbeats 4000000 in
theorem a8F (W:World):AFun Tryz.prog W 7 [] (.val (.b true)):=by
 have hR:=fun w=>a4b w c6 d6 pr6;rw [c2K] at hR;have hc:c6.map Lt.cv=[.row [.b false,.row [.i 3,.lst [.row [.i (-1),.lst []]]],.row [.i (-1),.lst []]]]:=by simp [c6,fx6,x6,Lt.cv,Tm.cv_eq]
 have hd:d6.map Lt.cv=[.row [.b false,.row [.i 4,.lst [.row [.i 3,.lst [.row [.i 1,.lst []]]]]],.row [.i 0,.lst []]]]:=by simp [d6,pf6,fo6,o6,t6,Lt.cv,Tm.cv_eq]
 have hr:([[⟨false,po6,t6⟩]]:List (List Lt)).map clC=[.lst [.row [.b false,.row [.i 4,.lst [.row [.i 1,.lst []]]],.row [.i 0,.lst []]]]]:=by simp [clC,po6,o6,t6,Lt.cv,Tm.cv_eq]
 rw [hc,hd,hr] at hR;have a1:=fun w t f l ht=>b1x w t f l ht;have k1:∀ w,N3 Tryz.prog w (.sc (.func (.func 23) #[] #[])) [.row [.i (-1),.lst []]] (.val (.row [.i 3,.lst [.row [.i (-1),.lst []]]])):=fun w => .inr ⟨_,rfl,b1x w _ _ _ rfl⟩;have k2:∀ w,N3 Tryz.prog w (.sc (.func (.func 23) #[] #[])) [.row [.i 1,.lst []]] (.val (.row [.i 3,.lst [.row [.i 1,.lst []]]])):=fun w => .inr ⟨_,rfl,b1x w _ _ _ rfl⟩;have k3:∀ w,N3 Tryz.prog w (.sc (.func (.func 24) #[] #[])) [.row [.i 3,.lst [.row [.i 1,.lst []]]]] (.val (.row [.i 4,.lst [.row [.i 3,.lst [.row [.i 1,.lst []]]]]])):=fun w => .inr ⟨_,rfl,c0P w _ _ _ rfl⟩;refine b9 (rs:=[.b true]) Tryz.func7 Tryz.ntmps7 rfl rfl rfl rfl ?_;intro w U hW;refine aS (aR ?_);refine nc ze ?_;refine aS (aR ?_);refine nc (zbM [.i 0,.lst []]) (nc zw (nc zx ?_));refine aS (aR ?_);refine nc ze ?_;refine aS (aR ?_);refine nc ze ?_;refine aS (aD (by kernel_rfl) (by kernel_rfl) ?_);refine nc zl (nc zj (nc (zQ (E:=k1 w)) (nc zj (nc (zbM b7o) (nc zy (nc zl (nc zl (nc (zbM [.i 0,.lst []]) (nc (zQ (E:=k2 w)) (nc (zQ (E:=k3 w)) (nc (zbM b7o) (nc zy (nc (zk (z:=hR w)) (nc ze ?_))))))))))))));refine ⟨by kernel_rfl,?_⟩;refine aS (aR ?_);refine nc zl (nc zo (nc zD (nc zl (nc (zl (p:=gb)) (nc (zt (j:=0) (r:=gb) (H:=rfl) (hz:=sZ rfl)) (nc (zu (r:=gb)) (nc (zo (r:=gb)) (nc (zD (r:=gb)) (nc zp (nc zl (nc (zl (p:=gb)) (nc (zt (j:=0) (r:=gb) (H:=rfl) (hz:=sZ rfl)) (nc (zu (r:=gb)) (nc (zt (j:=0) (r:=gb) (H:=rfl) (hz:=sZ rfl)) (nc (zbG (r:=gb)) (nc (zbG (r:=gb)) (nc (zu (r:=gb)) (nc (zt (j:=0) (r:=gb) (H:=rfl) (hz:=sZ rfl)) (nc (zbG (r:=gb)) (nc (zu (r:=gb)) (nc (zD (r:=gb)) (nc zp (nc ze ?_)))))))))))))))))))))));exact aT (And.intro (.inr rfl) rfl)
end Go.Proofs.YteegmcfobgpemaaGreat
