/-
 AbCall AbObj2 AbFld AbMap AbFull AbArr AbRoom AbBox AbIter AbRange AbRangeV AbMark AbNest AbNest2 AbNest3
-/
import Derived.Test.YteegmcfobgpemaaGreatMg2
import Derived.MapKept
import Derived.Laws.NewFold
import Derived.RangeFuncNested
namespace Go.Proofs.YteegmcfobgpemaaGreat
open List (all_cons all_eq_true append_assoc cons_append eq_nil_of_length_eq_zero ext_getElem? getElem?_append_left getElem?_append_right getElem?_eq_none getElem?_replicate length_append length_cons length_map length_nil length_set length_take map_append mem_append mem_append_left mem_append_right mem_cons mem_cons_of_mem mem_map mem_of_mem_take take_append_drop)
open Go.RowKit
set_option linter.unusedVariables false
set_option linter.unusedSimpArgs false
def AVReps (U:Nat->Nat->Prop) (w:World) (hv:Nat->Value) (lv:Nat->Prop):List AV->List Value->Prop
 | [],vs=>vs=[]
 | c::cs,vs=>∃ u us,vs=u::us/\AVRep U w hv lv c u/\AVReps U w hv lv cs us
theorem AVReps.len {U:Nat->Nat->Prop} {w:World} {hv:Nat->Value} {lv:Nat->Prop}:∀ {l:List AV} {vs:List Value},AVReps U w hv lv l vs->vs.length=l.length
 | [],_,h=>by have h:_=[]:=h;rw [h];rfl
 | c::cs,vs,⟨u,us,e,h1,h2⟩=>by rw [e,length_cons,length_cons,AVReps.len h2]
theorem AVReps.at {U:Nat->Nat->Prop} {w:World} {hv:Nat->Value} {lv:Nat->Prop}:∀ {l:List AV} {vs:List Value},AVReps U w hv lv l vs->∀ {i:Nat} {c:AV},l[i]?=some c->∃ v,vs[i]?=some v/\AVRep U w hv lv c v
 | [],_,_,i,c,hi=>by simp at hi
 | c'::cs,vs,⟨u,us,e,h1,h2⟩,0,c,hi=>by
  simp only [List.getElem?_cons_zero,Option.some.injEq] at hi;exact ⟨u,by rw [e];rfl,hi▸h1⟩
 | c'::cs,vs,⟨u,us,e,h1,h2⟩,i+1,c,hi=>by
  obtain ⟨v,h3,h4⟩:=AVReps.at h2 (i:=i) (c:=c) (by simpa using hi);exact ⟨v,by rw [e];simpa using h3,h4⟩
theorem AVReps.imp {U V:Nat->Nat->Prop} {w w':World} {hv kG:Nat->Value} {lv lv':Nat->Prop}:∀ {l:List AV} {vs:List Value},(∀ c∈l,∀ v,AVRep U w hv lv c v->AVRep V w' kG lv' c v)->AVReps U w hv lv l vs->AVReps V w' kG lv' l vs
 | [],_,_,h=>h
 | c::cs,vs,hc,⟨u,us,e,h1,h2⟩=>⟨u,us,e,hc c (by simp) u h1,AVReps.imp (fun x hx=>hc x (mem_cons_of_mem _ hx)) h2⟩
def r5 (P:Program) (f:FuncId) (pre:AS) (args:List AV) (r:AV) (post:AS):Prop:=
 a2V P f/\∀ (U:UX) (w:World) (hv:Nat->Value) (a0:Act) (vs:List Value),(∀ k v,U.f k=some v->l7 (kO pre) k=true)->SimG w U 0 pre a0 w (fun _ _=>False) hv->AVReps (Us w U (fun _ _=>False)) w hv (a9 pre) args vs ->
  Calls P f vs.toArray w fun e w'=>∃ v D' kG a',e = .returned v/\SimG w U 0 post a' w' D' kG/\AVRep (Us w U D') w' kG (a9 post) r v
def a4u (S:Nat->Option AV):List Operand->Option (List AV)
 | []=>some []
 | x::xs=>match ev S x,a4u S xs with
  | some c,some cs=>some (c::cs)
  | _,_=>none
def SubS (S:Nat->Option AV):AS->Prop
 | []=>True
 | (k,av)::s=>S k=some av/\SubS S s
theorem SubS.look {S:Nat->Option AV}:∀ {s:AS},SubS S s->∀ {k av},look s k=some av->S k=some av
 | [],_,k,av,h=>by simp [Go.Proofs.YteegmcfobgpemaaGreat.look] at h
 | (k',av')::s,⟨h1,h2⟩,k,av,h=>by
  rw [j8] at h;split at h
  ·rename_i e;subst e;cases h;exact h1
  ·exact SubS.look h2 h
def E4 (p:Nat×AV):Bool:=match Nat.ble 500000 p.1 with
 | true=>true
 | false=>Nat.ble 300000 p.1&&!Nat.beq p.2.t 6&&!Nat.beq p.2.t 7&&(Nat.blt p.1 450000||Nat.beq p.2.t 5||Nat.beq p.2.t 9||Nat.beq p.2.t 23)
def a2W (ks:List Nat) (av:AV):Bool:=match Nat.beq av.t 0||Nat.beq av.t 5 with
 | true=>Nat.ble av.n 1
 | false=>match Nat.beq av.t 2||Nat.beq av.t 11||Nat.beq av.t 12||Nat.beq av.t 15||Nat.beq av.t 19 with
  | true=>l7 ks (hk av)
  | false=>true
def G1 (ks:List Nat) (p:Nat×AV):Bool:=Nat.ble 200000 p.1&&!Nat.beq p.2.t 6&&a2W ks p.2&&(match Nat.ble 500000 p.1 with | true=>Nat.ble 350000 (fnm p.1)&&Nat.blt (fnm p.1) 400000&&l7 ks (100000+fnm p.1) | false=>true)
def I8 (pre post:List Nat):List Nat->List (Nat×List Nat)
 | []=>[]
 | k::ks=>match Nat.ble 500000 k,Nat.blt k 400000,Nat.blt k 450000,l7 pre k with
  | true,_,_,_=>I8 pre post ks
  | false,true,_,_=>(k,pre++post)::I8 pre post ks
  | false,false,true,true=>I8 pre post ks
  | false,false,true,false=>(k,pre++post)::I8 pre post ks
  | false,false,false,true=>(k-100000+1000000,pre++post)::I8 pre post ks
  | false,false,false,false=>(k-100000,pre++post)::I8 pre post ks
theorem a8h {a b:Nat} (h:b<a):Nat.ble a b=false:=by
 cases e:Nat.ble a b with
 | false=>rfl
 | true=>have:=Nat.le_of_ble_eq_true e;omega
theorem a5x {a b:Nat} (h:b<=a):Nat.blt a b=false:=by
 cases e:Nat.blt a b with
 | false=>rfl
 | true=>have:=bL e;omega
theorem a7C {a b:Nat} (h:a<b):Nat.blt a b=true:=by simp [Nat.blt_eq,h]
theorem a1O {pre post:List Nat} {x:Nat} {ks:List Nat} {q:Nat×List Nat} (h:q∈I8 pre post ks):q∈I8 pre post (x::ks):=by
 unfold I8;split
 ·exact h
 ·exact mem_cons_of_mem _ h
 ·exact h
 ·exact mem_cons_of_mem _ h
 ·exact mem_cons_of_mem _ h
 ·exact mem_cons_of_mem _ h
theorem a9h {pre post:List Nat}:∀ {ks:List Nat} {k:Nat},k∈ks->k<450000->(k<400000\/l7 pre k=false)->(k,pre++post)∈I8 pre post ks
 | x::ks,k,h,hk,hp=>by
  rcases mem_cons.1 h with rfl | h
  ·unfold I8;rw [a8h (by omega:k<500000)];by_cases h4:k<400000
   ·rw [a7C h4];simp
   ·rw [a5x (by omega:400000<=k),a7C hk];rcases hp with hp | hp
    ·omega
    ·rw [hp];simp
  ·exact a1O (a9h h hk hp)
theorem b0x {pre post:List Nat}:∀ {ks:List Nat} {k:Nat},k∈ks->450000<=k->k<500000->l7 pre k=false->(k-100000,pre++post)∈I8 pre post ks
 | x::ks,k,h,hk,gW,hp=>by
  rcases mem_cons.1 h with rfl | h
  ·unfold I8;rw [a8h (by omega:k<500000),a5x (by omega:400000<=k),a5x hk,hp];simp
  ·exact a1O (b0x h hk gW hp)
theorem a6m {pre post:List Nat}:∀ {ks:List Nat} {k:Nat},k∈ks->450000<=k->k<500000->l7 pre k=true->(k-100000+1000000,pre++post)∈I8 pre post ks
 | x::ks,k,h,hk,gW,hp=>by
  rcases mem_cons.1 h with rfl | h
  ·unfold I8;rw [a8h (by omega:k<500000),a5x (by omega:400000<=k),a5x hk,hp];simp
  ·exact a1O (a6m h hk gW hp)
theorem i8 {s:AS} {k:Nat} {av:AV} (h:look s k=some av):k∈kO s:=mem_map.2 ⟨_,C7 h,rfl⟩
theorem Q8 {s:AS} {k:Nat} (h:k∈kO s):∃ av,look s k=some av:=by
 induction s with
 | nil=>simp [kO] at h
 | cons p s ih =>
  obtain ⟨d,x⟩:=p;by_cases e:d=k
  ·exact ⟨x,by rw [j8,if_pos e]⟩
  ·rw [lN e];refine ih ?_;simp only [kO,List.map_cons,mem_cons] at h |-;rcases h with h | h
   ·exact absurd h.symm e
   ·exact h
theorem b9 {e s:AS} {k:Nat}:look (e++s) k=(look e k).or (look s k):=by
 induction e with
 | nil=>rfl
 | cons p e ih =>
  obtain ⟨d,x⟩:=p;by_cases h:d=k
  ·subst h;rw [cons_append,lS,lS];rfl
  ·rw [cons_append,lN h,lN h,ih]
theorem b9U {s:AS} {k:Nat} (h:l7 (kO s) k=false):look s k=none:=by
 cases e:look s k with
 | none=>rfl
 | some av=>rw [s8 (i8 e)] at h;cases h
theorem H9 {q:Nat×AV->Bool} {s:AS} (h:s.all q=true) {k:Nat} {av:AV} (h1:look s k=some av):q (k,av)=true:=by
 rw [all_eq_true] at h;exact h _ (C7 h1)
section
variable {P:Program} {w0:World} {U0:UX} {nt:Nat} {ops:Array Oper} {o:Oper} {S:Nat->Option AV} {gs:List Nat} {d:Nat} {s:AS} {a:Act} {w:World} {D:Nat->Nat->Prop} {hv:Nat->Value}
theorem R0 (h:SimG w0 U0 nt s a w D hv):∀ {xs:List Operand} {cs:List AV},(∀ k∈rdl xs,look s k=S k)->a4u S xs=some cs->AVReps (Us w0 U0 D) w hv (a9 s) cs (xs.map a.eval)
 | [],cs,_,he=>by simp [a4u] at he;subst he;rfl
 | x::xs,cs,hs,he=>by
  unfold a4u at he;split at he
  ·rename_i c cs' h1 h2;cases he;exact ⟨a.eval x,xs.map a.eval,rfl,l9 h (fun k hk=>hs k (mem_append_left _ hk)) h1,R0 h (fun k hk=>hs k (mem_append_right _ hk)) h2⟩
  ·cases he
theorem SimG.lend (h:SimG w0 U0 nt s a w D hv) {pre:AS} (hp:Sub s pre) (hl:pre.all E4=true):∃ V:UX,(∀ k v,V.f k=some v->l7 (kO pre) k=true)/\SimG w V 0 pre ⟨#[],[]⟩ w (fun _ _=>False) hv/\(∀ b,V.x b↔∃ k av,look pre k=some av/\l8 k/\hb (hv k)=some b)/\(∀ k,l7 (kO pre) k=true->400000<=k->k<500000->V.f k=some (hv k))/\(∀ b o,V.m b o↔Us w0 U0 D b o)/\∀ b o u,Us w0 U0 D b o->w.cell? ⟨b,o,none⟩=some u->Us w V (fun _ _=>False) b o/\w.cell? ⟨b,o,none⟩=some u:=by
 classical
 have kB:∀ {k av},look pre k=some av->l8 k->300000<=k/\av.t≠6/\av.t≠7/\True:=fun {k av} h1 h2=>by
  have h3:=H9 hl h1;unfold l8 at h2;unfold E4 at h3;have h4:Nat.ble 500000 k=false:=by
   cases e:Nat.ble 500000 k with
   | false=>rfl
   | true=>have:=Nat.le_of_ble_eq_true e;omega
  simp only [h4,Bool.and_eq_true,Bool.or_eq_true,Bool.not_eq_true'] at h3;obtain ⟨⟨⟨h5,h6⟩,h7⟩,h8⟩:=h3;refine ⟨Nat.le_of_ble_eq_true h5,(fun e=>by rw [e] at h6;cases h6),(fun e=>by rw [e] at h7;cases h7),trivial⟩
 let isB:Nat->Prop:=fun k=>400000<=k/\k<500000/\l7 (kO pre) k=true
 let V:UX:=⟨Us w0 U0 D,fun b=>∃ k av,look pre k=some av/\l8 k/\hb (hv k)=some b,fun k=>if isB k then some (hv k) else none,fun k v (h1:(if isB k then some (hv k) else none)=some v)=>by
  split at h1
  ·rename_i h2;exact ⟨h2.1,h2.2.1⟩
  ·cases h1⟩
 have kM:∀ b o u,Us w0 U0 D b o->w.cell? ⟨b,o,none⟩=some u->Us w V (fun _ _=>False) b o/\w.cell? ⟨b,o,none⟩=some u:=fun b o u hu hc=>by refine ⟨.inl ⟨World.block_lt_of_cell? w _ hc,hu,?_⟩,hc⟩;rintro ⟨k,av,h1,h2,h3⟩;obtain ⟨g1,g2,g3,_⟩:=kB h1 h2;obtain ⟨f1,f2,f3⟩:=h.blk k av b (hp _ _ h1) h2 g3 h3;exact a2M hu f1 (f3 o fun e=>absurd e g2) rfl
 have iT:∀ n,a9 pre n->a9 s n:=fun n h1=>h1.imp id fun ⟨e,he⟩=>⟨e,hp _ _ he.1,he.2⟩
 refine ⟨V,fun n g h1=>?_,⟨BelowX.refl _ _,rfl,rfl,fun d av h1 h2=>?_,fun n o av h1 h2 h3 h4=>?_,fun n o o' av av' h1 h2=>h.fdis n o o' av av' (hp _ _ h1) (hp _ _ h2),fun k av h1 h2=>?_,fun k av g h1 h2 h3 h4=>?_,fun k k' av av' g h1 h2=>h.disj k k' av av' g (hp _ _ h1) (hp _ _ h2),fun n g h1=>?_,fun b o hd=>hd.elim⟩,fun b=>Iff.rfl,fun k h1 h2 h3=>?_,fun b o=>Iff.rfl,kM⟩
 ·have h1:(if isB n then some (hv n) else none)=some g:=h1;split at h1
  ·rename_i h2;exact h2.2.2
  ·cases h1
 ·have h3:=H9 hl h1;unfold E4 at h3;have h4:Nat.ble 500000 d=false:=by
   cases e:Nat.ble 500000 d with
   | false=>rfl
   | true=>have:=Nat.le_of_ble_eq_true e;omega
  simp only [h4,Bool.and_eq_true] at h3;have:=Nat.le_of_ble_eq_true h3.1.1.1;omega
 ·obtain ⟨v,h6,h7⟩:=h.fld n o av (hp _ _ h1) h2 (hp _ _ h3) h4;exact ⟨v,h6.move kM (fun _=>iT _) fun _=>rfl,h7⟩
 ·exact (h.obj k av (hp _ _ h1) h2).move kM (fun _ h3=>⟨iT _ h3,rfl⟩) fun _ _=>rfl
 ·obtain ⟨g1,g2,g3,_⟩:=kB h1 h2;obtain ⟨f1,f2,f3⟩:=h.blk k av g (hp _ _ h1) h2 h3 h4;exact ⟨.inr ⟨by rw [P0 g1];exact g2,k,av,h1,h2,h4⟩,f2,fun _ _ h=>h⟩
 ·have h1:(if isB n then some (hv n) else none)=some g:=h1;split at h1
  ·cases h1;rfl
  ·cases h1
 ·show (if isB k then some (hv k) else none)=some (hv k);rw [if_pos ⟨h2,h3,h1⟩]
theorem SimG.back (h:SimG w0 U0 nt s a w D hv) {pre post:AS} (hp:Sub s pre) (hl:pre.all E4=true) (hq:post.all (G1 (kO post))=true) (jN:(kO pre).all (l7 (kO post))=true) (hN:∀ q∈I8 (kO pre) (kO post) (kO post),NoRefE s q) (hnb:∀ k v,U0.f k=some v->l7 (kO post) k=true->l7 (kO pre) k=true)
  {V:UX} (hVx:∀ b,V.x b↔∃ k av,look pre k=some av/\l8 k/\hb (hv k)=some b) (hVf:∀ k,l7 (kO pre) k=true->400000<=k->k<500000->V.f k=some (hv k)) (hVm:∀ b o,V.m b o↔Us w0 U0 D b o) (gE:SimG w V 0 pre ⟨#[],[]⟩ w (fun _ _=>False) hv)
  {w':World} {D':Nat->Nat->Prop} {kG:Nat->Value} {a':Act} (h':SimG w V 0 post a' w' D' kG) :
  ∃ D'' uU,SimG w0 U0 nt (post++s) a w' D'' uU/\(∀ r v,a2W (kO post) r=true->AVRep (Us w V D') w' kG (a9 post) r v->AVRep (Us w0 U0 D'') w' uU (a9 (post++s)) r v)/\∀ b o,D b o->D'' b o:=by
 classical
 have kB:∀ {k av},look pre k=some av->l8 k->300000<=k/\av.t≠6/\av.t≠7/\True:=fun {k av} h1 h2=>by
  have h3:=H9 hl h1;unfold l8 at h2;unfold E4 at h3;have h4:Nat.ble 500000 k=false:=by
   cases e:Nat.ble 500000 k with
   | false=>rfl
   | true=>have:=Nat.le_of_ble_eq_true e;omega
  simp only [h4,Bool.and_eq_true,Bool.or_eq_true,Bool.not_eq_true'] at h3;obtain ⟨⟨⟨h5,h6⟩,h7⟩,h8⟩:=h3;refine ⟨Nat.le_of_ble_eq_true h5,(fun e=>by rw [e] at h6;cases h6),(fun e=>by rw [e] at h7;cases h7),trivial⟩
 have qS:∀ {k av},look post k=some av->200000<=k/\av.t≠6/\a2W (kO post) av=true:=fun {k av} h1=>by have h3:=H9 hq h1;unfold G1 at h3;simp only [Bool.and_eq_true,Bool.not_eq_true'] at h3;exact ⟨Nat.le_of_ble_eq_true h3.1.1.1,(fun e=>by rw [e] at h3;exact absurd h3.1.1.2 (by decide)),h3.1.2⟩
 have hqf:∀ {n o av},look post (f0 n o)=some av->o<100->350000<=n/\n<400000/\l7 (kO post) (100000+n)=true:=fun {n o av} h1 h2=>by have h3:=H9 hq h1;unfold G1 at h3;have h4:Nat.ble 500000 (f0 n o)=true:=Nat.ble_eq_true_of_le (by unfold f0;omega);simp only [h4,O9 h2,Bool.and_eq_true] at h3;exact ⟨Nat.le_of_ble_eq_true h3.2.1.1,bL h3.2.1.2,h3.2.2⟩
 have kJ:∀ {k},l7 (kO pre) k=true->l7 (kO post) k=true:=fun {k} h1=>by rw [all_eq_true] at jN;exact jN k (y0 h1)
 obtain ⟨D2,pU⟩:∃ D2:Nat->Nat->Prop,D2=fun b o=>D b o\/(w.heap.size<=b/\D' b o):=⟨_,rfl⟩
 obtain ⟨gI,gK⟩:∃ gI:Nat->Value,gI=fun k=>if l7 (kO post) k=true then kG k else hv k:=⟨_,rfl⟩
 have nM:∀ {k},l7 (kO post) k=true->gI k=kG k:=fun {k} h1=>by rw [gK];simp only [h1,if_true]
 have kR:∀ {k},l7 (kO post) k=false->gI k=hv k:=fun {k} h1=>by rw [gK];simp [h1]
 obtain ⟨s2,nN⟩:∃ s2,s2=post++s:=⟨_,rfl⟩
 have hly:∀ {k av},look post k=some av->look s2 k=some av:=fun {k av} h1=>by rw [nN,b9,h1];rfl
 have cK:∀ {k av},look s2 k=some av->look post k=some av\/(l7 (kO post) k=false/\look s k=some av):=fun {k av} h1=>by
  cases e:l7 (kO post) k with
  | true =>
   obtain ⟨av',h2⟩:=Q8 (y0 e);rw [hly h2] at h1;cases h1;exact .inl h2
  | false =>
   rw [nN,b9,b9U e] at h1;exact .inr ⟨rfl,h1⟩
 have kI:∀ n e,t7 s2 n e->l7 (kO post) n=false/\t7 s n e:=fun n e ⟨h1,h2⟩=>by
  rcases cK h1 with h3 | ⟨h3,h4⟩
  ·exact absurd rfl (qS h3).2.1
  ·exact ⟨h3,h4,h2⟩
 have iT:∀ n,a9 s2 n->a9 s n:=fun n h1=>h1.imp id fun ⟨e,he⟩=>⟨e,(kI n e he).2⟩
 have lO:=h'.below
 have lW:∀ b,b<w.heap.size->¬ V.x b->w'.heap[b]?=w.heap[b]?:=lO.block;have fE:∀ b o u,Us w0 U0 D b o->w.cell? ⟨b,o,none⟩=some u->Us w0 U0 D2 b o/\w'.cell? ⟨b,o,none⟩=some u:=fun b o u hu hc=>by
  refine ⟨hu.imp id fun h1=>⟨h1.1,by rw [pU];exact .inl h1.2⟩,?_⟩;have iX:¬ V.x b:=fun hx=>by obtain ⟨k,av,h1,h2,h3⟩:=(hVx b).1 hx;obtain ⟨g1,g2,g3,_⟩:=kB h1 h2;obtain ⟨f1,f2,f3⟩:=h.blk k av b (hp _ _ h1) h2 g3 h3;exact a2M hu f1 (f3 o fun e=>absurd e g2) rfl
  rw [World.cell?_of_block (w:=w) (lW b (World.block_lt_of_cell? w _ hc) iX)];exact hc
 have gW:∀ b o u,Us w V D' b o->w'.cell? ⟨b,o,none⟩=some u->Us w0 U0 D2 b o/\w'.cell? ⟨b,o,none⟩=some u:=fun b o u hu hc=>by
  refine ⟨?_,hc⟩;rcases hu with ⟨h1,h2,h3⟩ | ⟨h1,h2⟩
  ·exact ((hVm b o).1 h2).imp id fun h4=>⟨h4.1,by rw [pU];exact .inl h4.2⟩
  ·exact .inr ⟨Nat.le_trans h.below.size h1,by rw [pU];exact .inr ⟨h1,h2⟩⟩
 have fR:∀ k,400000<=k->k<500000->l7 (kO pre) k=true->kG k=hv k:=fun k h2 h3 h1=>h'.fix k _ (hVf k h1 h2 h3);have jK:∀ {k av n},look s k=some av->l7 (kO post) k=false->RN n->l7 (kO post) n=true->(n<400000\/l7 (kO pre) n=false)->av.n≠n:=fun {k av n} h1 h2 h3 h4 h6=>by
  have h5:=hN _ (a9h (pre:=kO pre) (post:=kO post) (y0 h4) h3.2 h6);refine (h5 k av h1 ?_).1;cases e:l7 (kO pre++kO post) k with
  | false=>rfl
  | true =>
   rcases mem_append.1 (y0 e) with e | e
   ·rw [kJ (s8 e)] at h2;cases h2
   ·rw [s8 e] at h2;cases h2
 have dQ:∀ {k av n},look s k=some av->l7 (kO post) k=false->BN n->350000<=n->l7 (kO post) (100000+n)=true->l7 (kO pre) (100000+n)=false->av.n≠n/\fnm k≠n/\fnm k+1000000≠n:=fun {k av n} h1 h2 h3 h6 h4 h5=>by
  unfold BN at h3;have h7:=hN _ (b0x (pre:=kO pre) (post:=kO post) (y0 h4) (by omega) (by omega) h5);rw [show 100000+n-100000=n by omega] at h7;refine h7 k av h1 ?_;cases e:l7 (kO pre++kO post) k with
  | false=>rfl
  | true =>
   rcases mem_append.1 (y0 e) with e | e
   ·rw [kJ (s8 e)] at h2;cases h2
   ·rw [s8 e] at h2;cases h2
 have rY:∀ {n o av},look s (f0 n o)=some av->l7 (kO post) (f0 n o)=false->o<100->350000<=n->n<400000->l7 (kO post) (100000+n)=true->False:=fun {n o av} h1 h2 h3 h4 h5 h6=>by
  cases e:l7 (kO pre) (100000+n) with
  | false =>
   have:=(dQ h1 h2 (.inr ⟨h4,h5⟩) h4 h6 e).2.1;rw [O9 h3] at this;exact this rfl
  | true =>
   have h7:=hN _ (a6m (pre:=kO pre) (post:=kO post) (y0 h6) (by omega) (by omega) e);have h8:=(h7 (f0 n o) av h1 (by
    cases e:l7 (kO pre++kO post) (f0 n o) with
    | false=>rfl
    | true =>
     rcases mem_append.1 (y0 e) with e | e
     ·rw [kJ (s8 e)] at h2;cases h2
     ·rw [s8 e] at h2;cases h2)).2.2
   rw [O9 h3] at h8;apply h8;show n+1000000=100000+n-100000+1000000;omega
 have cD:∀ {k av v},look s k=some av->l7 (kO post) k=false->AVRep (Us w0 U0 D) w hv (a9 s) av v->AVRep (Us w0 U0 D2) w' gI (a9 s2) av v:=fun {k av v} h1 h2 h3 =>
  h3.move fE (fun _=>iT _) fun hR=>by
   cases e:l7 (kO post) (hk av) with
   | false=>exact kR e
   | true =>
    rcases hR with ⟨r1,r2,r3⟩ | ⟨r1,r2⟩ | ⟨r1,r2⟩
    ·rw [K5.2 (by omega)] at e;rcases r2 with r4 | ⟨_,r4⟩
     ·exact absurd r4 r3
     ·exact absurd rfl (jK h1 h2 ⟨r4.2.1,Nat.lt_trans r4.2.2 (by omega)⟩ e (.inl r4.2.2))
    ·rw [K5.1 r1] at e |-;rw [nM e];cases e2:l7 (kO pre) (100000+av.n) with
     | true =>
      obtain ⟨av',h7⟩:=Q8 (y0 e);have:=(qS h7).1;unfold BN at r2;exact fR _ (by omega) (by omega) e2
     | false =>
      have h6:350000<=av.n:=by obtain ⟨av',h7⟩:=Q8 (y0 e);have:=(qS h7).1;unfold BN at r2;omega
      exact absurd rfl (dQ h1 h2 r2 h6 e e2).1
    ·rw [K5.2 (by omega)] at e |-;cases e2:l7 (kO pre) av.n with
     | false=>exact absurd rfl (jK h1 h2 r2 e (.inr e2))
     | true =>
      by_cases h4:av.n<400000
      ·exact absurd rfl (jK h1 h2 r2 e (.inl h4))
      ·have:=r2.2;rw [nM e];exact fR _ (by omega) (by omega) e2
 have lM:∀ {av v},a2W (kO post) av=true->AVRep (Us w V D') w' kG (a9 post) av v->AVRep (Us w0 U0 D2) w' gI (a9 s2) av v:=fun {av v} h1 h2=>by
  unfold a2W at h1;refine h2.move gW (fun h3 h4=>?_) fun hR=>?_
  ·rw [h3] at h1;have h1:Nat.ble av.n 1=true:=h1;have:=Nat.le_of_ble_eq_true h1;rcases E9 h4 with h5 | h5
   ·exact .inl h5
   ·unfold RN at h5;omega
  ·rcases hR with ⟨r1,r2,r3⟩ | ⟨r1,r2⟩ | ⟨r1,r2⟩
   ·rw [r1] at h1;have h1:Nat.ble av.n 1=true:=h1;have:=Nat.le_of_ble_eq_true h1;rcases E9 r2 with h5 | h5
    ·exact absurd h5 r3
    ·unfold RN at h5;omega
   ·rw [r1] at h1;have h1:l7 (kO post) (hk av)=true:=h1;exact nM h1
   ·rcases r1 with r1 | r1 | r1 | r1<;>(rw [r1] at h1;have h1:l7 (kO post) (hk av)=true:=h1;exact nM h1)
 refine ⟨D2,gI,?_,fun r v h1 h2=>by rw [<-nN];exact lM h1 h2,fun b o hd=>by rw [pU];exact .inl hd⟩;rw [<-nN]
 have nO:∀ {k av g},look s k=some av->l7 (kO post) k=false->l8 k->av.t≠7->hb (hv k)=some g->¬ V.x g:=fun {k av g} h1 h2 h3 h4 h5 hx=>by obtain ⟨k',av',f1,f2,f3⟩:=(hVx g).1 hx;refine h.disj k k' av av' g h1 (hp _ _ f1) h3 f2 h4 (kB f1 f2).2.2.1 (fun e=>?_) h5 f3;rw [e,kJ (s8 (i8 f1))] at h2;cases h2
 have nP:∀ {g},V.x g->∃ k av,look s k=some av/\l8 k/\av.t≠7/\av.t≠6/\l7 (kO post) k=true/\hb (hv k)=some g:=fun {g} hx=>by obtain ⟨k',av',f1,f2,f3⟩:=(hVx g).1 hx;obtain ⟨g1,g2,g3,_⟩:=kB f1 f2;exact ⟨k',av',hp _ _ f1,f2,g3,g2,kJ (s8 (i8 f1)),f3⟩
 refine ⟨⟨lO.os.trans h.below.os,lO.tape.trans h.below.tape,lO.output.trans h.below.output,Nat.le_trans h.below.size lO.size,fun b hb hx=>?_⟩,h.dfr,h.size,fun d av h1 h2=>?_,fun n o av h1 h2 h3 h4=>?_,fun n o o' av av' h1 h2 h3 h4 h5=>?_,fun k av h1 h2=>?_,fun k av g h1 h2 h3 h4=>?_,fun k k' av av' g h1 h2 h3 h4 h5 h6 kE=>?_,fun n g h1=>?_,fun b o hd=>?_⟩
 ·rw [lW b (Nat.lt_of_lt_of_le hb h.below.size) fun hv=>?_]
  ·exact h.below.block b hb hx
  ·obtain ⟨k,av,f1,f2,f3,f4,f5,f6⟩:=nP hv;rcases (h.blk k av b f1 f2 f3 f6).1 with f7 | f7
   ·omega
   ·exact hx f7.2
 ·rcases cK h1 with h3 | ⟨h3,h4⟩
  ·have:=(qS h3).1;omega
  ·obtain ⟨v,f1,f2⟩:=h.slot d av h4 h2;exact ⟨v,f1,cD h4 h3 f2⟩
 ·have bF:=cK h3;rcases cK h1 with h5 | ⟨h5,h6⟩
  ·rcases bF with h7 | ⟨h7,h8⟩
   ·obtain ⟨v,f1,f2,f3⟩:=h'.fld n o av h5 h2 h7 h4;refine ⟨v,lM (qS h5).2.2 f1,f2,?_⟩;rw [nM (s8 (i8 h7))];exact f3
   ·rw [(hqf h5 h2).2.2] at h7;cases h7
  ·rcases bF with h7 | ⟨h7,h8⟩
   ·have h8:=(qS h7).1;have rD:=h4;unfold BN at rD;exact (rY h6 h5 h2 (by omega) (by omega) (s8 (i8 h7))).elim
   ·obtain ⟨v,f1,f2,f3⟩:=h.fld n o av h6 h2 h8 h4;refine ⟨v,cD h6 h5 f1,f2,fun i hi=>?_⟩;rw [kR h7];have f4:=f3 i hi;obtain ⟨g2,ys,ty2,e1,e2,e3⟩:=h.obj9 h8 h4;rw [e2] at f4 |-;rw [World.cell?_of_block (w:=w) (lW g2 (Array.getElem?_eq_some_iff.1 e3).1 (nO h8 h7 (G3 h4) (by simp) (by rw [e1];rfl)))];exact f4
 ·rcases cK h1 with f1 | ⟨f1,f2⟩
  ·rcases cK h2 with f3 | ⟨f3,f4⟩
   ·exact h'.fdis n o o' av av' f1 f3 h3 h4 h5
   ·obtain ⟨g1,g2,g3⟩:=hqf f1 h3;exact (rY f4 f3 h4 g1 g2 g3).elim
  ·rcases cK h2 with f3 | ⟨f3,f4⟩
   ·obtain ⟨g1,g2,g3⟩:=hqf f3 h4;exact (rY f2 f1 h3 g1 g2 g3).elim
   ·exact h.fdis n o o' av av' f2 f4 h3 h4 h5
 ·rcases cK h1 with h3 | ⟨h3,h4⟩
  ·rw [nM (s8 (i8 h3))];refine (h'.obj k av h3 h2).move gW (fun h5 h6=>?_) fun _ _=>rfl;have h7:=(qS h3).2.2;unfold a2W at h7;rw [h5] at h7;have h7:Nat.ble av.n 1=true:=h7;have:=Nat.le_of_ble_eq_true h7;rcases E9 h6 with h8 | h8
   ·exact ⟨.inl h8,by rw [h8];rfl⟩
   ·unfold RN at h8;omega
  ·rw [kR h3];by_cases h7:av.t=7
   ·exact a2L h7
   ·refine (h.obj k av h4 h2).move fE (fun h5 h6=>⟨iT _ h6,?_⟩) fun g hg=>lW g (h.blk k av g h4 h2 h7 hg).2.1 (nO h4 h3 h2 h7 hg);unfold I2;by_cases h8:av.n=1
    ·rw [if_pos h8,if_pos h8]
    ·rw [if_neg h8,if_neg h8];rcases h6 with h6 | ⟨e,he⟩
     ·exact absurd h6 h8
     ·rw [kR (kI _ _ he).1]
 ·rcases cK h1 with h5 | ⟨h5,h6⟩
  ·rw [nM (s8 (i8 h5))] at h4 |-;obtain ⟨f1,f2,f3⟩:=h'.blk k av g h5 h2 h3 h4;have rE:=(qS h5).2.1;refine ⟨?_,f2,fun o _ hd=>?_⟩
   ·rcases f1 with f1 | ⟨f1,f4⟩
    ·exact .inl (Nat.le_trans h.below.size f1)
    ·obtain ⟨k1,av1,e1,e2,e3,e4,e5,e6⟩:=nP f4;rcases (h.blk k1 av1 g e1 e2 e3 e6).1 with e7 | e7
     ·exact .inl e7
     ·exact .inr ⟨f1,e7.2⟩
   ·rw [pU] at hd;rcases hd with hd | hd
    ·rcases f1 with f1 | ⟨f1,f4⟩
     ·have:=h.dlt _ _ hd;omega
     ·obtain ⟨k1,av1,e1,e2,e3,e4,e5,e6⟩:=nP f4;exact (h.blk k1 av1 g e1 e2 e3 e6).2.2 o (fun e=>absurd e e4) hd
    ·exact f3 o (fun e=>absurd e rE) hd.2
  ·rw [kR h5] at h4 |-;obtain ⟨f1,f2,f3⟩:=h.blk k av g h6 h2 h3 h4;refine ⟨f1,Nat.lt_of_lt_of_le f2 lO.size,fun o ho hd=>?_⟩;rw [pU] at hd;rcases hd with hd | hd
   ·exact f3 o ho hd
   ·omega
 ·have uV:∀ {k k' av av'},look post k=some av->l8 k->av.t≠7->look s k'=some av'->l7 (kO post) k'=false->l8 k'->av'.t≠7->hb (kG k)=some g->hb (hv k')≠some g:=fun {k k' av av'} e1 e2 e3 e4 e5 e6 e7 e8 e9=>by
   rcases (h'.blk k av g e1 e2 e3 e8).1 with f1 | f1
   ·have:=(h.blk k' av' g e4 e6 e7 e9).2.1;omega
   ·exact nO e4 e5 e6 e7 e9 f1.2
  rcases cK h1 with e1 | ⟨e1,e2⟩
  ·rw [nM (s8 (i8 e1))];rcases cK h2 with e3 | ⟨e3,e4⟩
   ·rw [nM (s8 (i8 e3))];exact h'.disj k k' av av' g e1 e3 h3 h4 h5 h6 kE
   ·rw [kR e3];exact uV e1 h3 h5 e4 e3 h4 h6
  ·rw [kR e1];rcases cK h2 with e3 | ⟨e3,e4⟩
   ·rw [nM (s8 (i8 e3))];exact fun f1 f2=>uV e3 h4 h6 e2 e1 h3 h5 f2 f1
   ·rw [kR e3];exact h.disj k k' av av' g e2 e4 h3 h4 h5 h6 kE
 ·cases e:l7 (kO post) n with
  | false=>rw [kR e];exact h.fix n g h1
  | true =>
   rw [nM e];have h2:=U0.hf n g h1;rw [fR n h2.1 h2.2 (hnb n g h1 e)];exact h.fix n g h1
 ·rw [pU] at hd;rcases hd with hd | hd
  ·exact Nat.lt_of_lt_of_le (h.dlt b o hd) lO.size
  ·exact h'.dlt b o hd.2
def nbB (pre post:List Nat):Bool:=post.all fun k=>match Nat.ble 400000 k&&Nat.blt k 500000 with | true=>l7 pre k | false=>true
theorem i0 {pre post:List Nat} (h:nbB pre post=true):∀ k v,U0.f k=some v->l7 post k=true->l7 pre k=true:=fun k v h1 h2=>by
 have h3:=U0.hf k v h1;unfold nbB at h;rw [all_eq_true] at h;have h4:=h _ (y0 h2);rw [Nat.ble_eq_true_of_le h3.1,a7C h3.2] at h4;exact h4
theorem b3s {f:FuncId} {xs:Array Operand} {ts:Array TypeId} {avs:List AV} {r:AV} {pre post:AS} (hg:Gd w0 U0 nt ops o gs S) (hd:o.dst=some d) (hn:Nat.blt d nt=true) (h5:Nat.blt d 100000=true)
  (ho:o.op = .call { callee := .value (.func f),args:=xs,argTypes:=ts }) (hx:a4u S xs.toList=some avs) (hc:r5 P f pre avs r post) (hp:SubS S pre) (hl:pre.all E4=true) (hq:post.all (G1 (kO post))=true) (jN:(kO pre).all (l7 (kO post))=true) (hr:a2W (kO post) r=true) (hnb:∀ k v,U0.f k=some v->l7 (kO post) k=true->l7 (kO pre) k=true) :
  AOp P w0 U0 nt ops o (gs++(rdl xs.toList++kO pre)) (I8 (kO pre) (kO post) (kO post)) S ((d,r)::post):=by
 intro s hs hN a w ⟨D,hv,h⟩ Q K hK;rw [if_pos (hg s (fun k hk=>hs k (mem_append_left _ hk)) a w D hv h)];have hargs:=R0 h (fun k hk=>hs k (mem_append_right _ (mem_append_left _ hk))) hx;have kJ:Sub s pre:=fun k av h1=>(hs k (mem_append_right _ (mem_append_right _ (i8 h1)))).trans (hp.look h1);obtain ⟨V,v1,v2,v3,v4,v5,v6⟩:=h.lend kJ hl;obtain ⟨h1,h2⟩:=hc;have kK:=h2 V w hv ⟨#[],[]⟩ _ v1 v2 (hargs.imp fun c _ v lE=>lE.move v6 (fun _ h3=>h3.imp id fun ⟨e,he⟩=>⟨e,kJ _ _ he.1,he.2⟩) fun _=>rfl);have he:(execOp a.eval o).run P w = .ok (.enter f (xs.toList.map a.eval).toArray) w:=by
  have hf:a.eval (.func f) = .func (.func f) #[] #[]:=rfl;have cR:=h1 (xs.map a.eval) w;have gR:(xs.toList.map a.eval).toArray=xs.map a.eval:=by apply Array.ext';simp
  rw [gR];generalize a.eval=ρ at hf cR |-;simp [execOp,ho,resolve,invoke,Deferred.ofValue,hf,cR]
 unfold Oper.wp;rw [he,Oper.upon_enter];refine kK.mono ?_;rintro e w' ⟨v,D',kG,a',rfl,h6,h7⟩;rw [hd];obtain ⟨D2,gI,h8,h9⟩:=h.back kJ hl hq jN hN hnb v3 v4 v5 v2 h6;exact hK _ _ ⟨D2,gI,h8.put (bL hn) (bL h5) (h9.1 r v hr h7)⟩
theorem zW {P:Program} {w0:World} {U0:UX} {nt:Nat} {ops:Array Oper} {o:Oper} {S:Nat->Option AV} {gs:List Nat} {d:Nat} {f:FuncId} {xs:Array Operand} {ts:Array TypeId} {avs:List AV} {r:AV} {pre:AS} {post:AS} (p:Gd w0 U0 nt ops o gs S:=by exact gN rfl) (q:o.dst=some d:=by exact rfl) (t:Nat.blt d nt=true:=by exact rfl) (u:Nat.blt d 100000=true:=by exact rfl) (x:o.op = .call { callee := .value (.func f),args:=xs,argTypes:=ts }:=by exact rfl) (y:a4u S xs.toList=some avs:=by exact rfl) (z:r5 P f pre avs r post) (A:SubS S pre:=by repeat (first | exact trivial | refine ⟨rfl,?_⟩)) (B:pre.all E4=true:=by first | rfl | kernel_rfl) (C:post.all (G1 (kO post))=true:=by first | rfl | kernel_rfl) (E:(kO pre).all (l7 (kO post))=true:=by first | rfl | kernel_rfl) (F:a2W (kO post) r=true:=by first | rfl | kernel_rfl) (G:∀ k v,U0.f k=some v->l7 (kO post) k=true->l7 (kO pre) k=true):AOp P w0 U0 nt ops o (gs++(rdl xs.toList++kO pre)) (I8 (kO pre) (kO post) (kO post)) S ((d,r)::post):=b3s p q t u x y z A B C E F G
def C3:List AV->Nat->AS
 | [],_=>[]
 | c::cs,i=>(i,c)::C3 cs (i+1)
theorem w8:∀ {cs:List AV} {i k:Nat} {av:AV},look (C3 cs i) k=some av->i<=k/\cs[k-i]?=some av
 | [],_,_,_,h=>by simp [C3,look] at h
 | c::cs,i,k,av,h=>by
  rw [C3,j8] at h;split at h
  ·rename_i e;subst e;cases h;exact ⟨Nat.le_refl _,by simp⟩
  ·rename_i e;obtain ⟨h1,h2⟩:=w8 h;refine ⟨by omega,?_⟩;rw [show k-i=(k-(i+1))+1 by omega];simpa using h2
noncomputable def b5b (P:Program) (s:AS) (rs:List ResultVar):Option AV:=match rs with
 | [.tmp t]=>match Nat.blt t 100000,look s t with
  | true,some ⟨0,c,_,_,_⟩=>some (.val c)
  | true,some av=>some av
  | _,_=>none
 | rs=>match a9Z P s rs with | some cs=>some (M5 cs) | none=>none
theorem R2 (h:SimG w0 U0 nt s a w D hv) {fn:Func} {r:AV} (hr:b5b P s fn.results.toList=some r):∃ v,(results fn a.tmps).run P w = .ok v w/\AVRep (Us w0 U0 D) w hv (a9 s) r v:=by
 unfold b5b at hr;split at hr
 ·rename_i t ht;have iV:fn.results = #[.tmp t]:=by apply Array.ext';simpa using ht
  have jO:∀ v,a.tmps[t]?=some v->(results fn a.tmps).run P w = .ok v w:=fun v hv=>by rw [a4v,iV];simp [b7w,Array.getD_eq_getD_getElem?,hv]
  split at hr
  ·rename_i c n q p h1 h2;cases hr;obtain ⟨v,h3,h4⟩:=h.slot t _ h2 (bL h1);exact ⟨v,jO v h3,n4 h4.1⟩
  ·rename_i av h1 h2;cases hr;obtain ⟨v,h3,h4⟩:=h.slot t _ h2 (bL h1);exact ⟨v,jO v h3,h4⟩
  ·cases hr
 ·split at hr
  ·rename_i cs h1;cases hr;obtain ⟨v,h2,h3⟩:=a7J h h1;refine ⟨v,h2,R5 ?_ ?_ h3⟩
   ·unfold M5;split
    ·exact .inl rfl
    ·exact .inr rfl
   ·unfold M5;split<;>rfl
  ·cases hr
def b8s (P:Program) (w0:World) (U0:UX) (nt:Nat) (fn:Func) (s:AS) (r:AV) (post:AS):Prop:=∃ s',Wk w0 U0 nt s s'/\b5b P s' fn.results.toList=some r/\SubL s' post
theorem l6 {f : FuncId} {fn : Func} {c : Code} {pre post : AS} {args : List AV} {r : AV} (hf : P.funcs[f]? = some fn) (hn : fn.ntmps = nt) (gL : (fn.name == "runtime.NumGoroutine") = false) (hb : fn.body = some c) (hl : Nat.ble args.length nt = true) (cE : Nat.blt nt 100000 = true) (gC : (kO pre).all (Nat.ble 100000) = true) (kQ : (kO post).all (Nat.ble 100000) = true)
  (h:∀ (w:World) (U:UX),(∀ k v,U.f k=some v->l7 (kO pre) k=true)->AWp P w U nt c (fun e s'=>(e = .normal\/e = .ret)/\b8s P w U nt fn s' r post) (C3 args 0++pre)):r5 P f pre args r post:=by
 refine ⟨x9 hf gL (by rw [hb];rfl),fun U w hv a0 vs hU gE hargs=>?_⟩;have kD:=hargs.len;refine calls_of_wp hf hb ?_;have cY:=Nat.le_of_ble_eq_true hl;have cE:=bL cE;have kV:∀ {k av},look pre k=some av->100000<=k:=fun {k av} h1=>by rw [all_eq_true] at gC;exact Nat.le_of_ble_eq_true (gC k (i8 h1))
 have kB:∀ {k},100000<=k->look (C3 args 0++pre) k=look pre k:=fun {k} h1=>by
  rw [b9];cases h2:look (C3 args 0) k with
  | none=>rfl
  | some av =>
   obtain ⟨_,h3⟩:=w8 h2;rw [Nat.sub_zero,getElem?_eq_none (by omega)] at h3;cases h3
 have kI:a9 (C3 args 0++pre)=a9 pre:=by
  funext n;unfold a9 t7;apply propext;constructor
  ·rintro (h1 | ⟨e,h1,h2,h3⟩)
   ·exact .inl h1
   ·rw [kB (by omega)] at h1;exact .inr ⟨e,h1,h2,h3⟩
  ·rintro (h1 | ⟨e,h1,h2,h3⟩)
   ·exact .inl h1
   ·exact .inr ⟨e,by rw [kB (by omega)];exact h1,h2,h3⟩
 have hs:Sim w U nt (C3 args 0++pre) { tmps:=vs.toArray++Array.replicate (fn.ntmps-vs.toArray.size) undef,defers:=[] } w:=by
  refine ⟨fun _ _=>False,hv,gE.below,rfl,by simp [hn];omega,fun d av h1 h2=>?_,fun n o av h1 h2 h3 h4=>?_,fun n o o' av av' h1 h2=>?_,fun k av h1 h2=>?_,fun k av g h1 h2=>?_,fun k k' av av' g h1 h2 h3 h4=>?_,gE.fix,fun b o hd=>hd.elim⟩
  ·rw [b9] at h1;cases h3:look (C3 args 0) d with
   | none =>
    rw [h3] at h1;have:=kV h1;omega
   | some av' =>
    rw [h3] at h1;cases h1;obtain ⟨_,h4⟩:=w8 h3;rw [Nat.sub_zero] at h4;obtain ⟨v,h6,h7⟩:=hargs.at h4;have hdl:d<vs.length:=by
     rcases Nat.lt_or_ge d vs.length with h | h
     ·exact h
     ·rw [getElem?_eq_none h] at h6;cases h6
    rw [kI];refine ⟨v,?_,h7⟩;rw [Array.getElem?_append_left (by simpa using hdl)];simpa using h6
  ·rw [kB (by unfold f0;omega)] at h1;rw [kB (by omega)] at h3;rw [kI];exact gE.fld n o av h1 h2 h3 h4
  ·rw [kB (by unfold f0;omega)] at h1 h2;exact gE.fdis n o o' av av' h1 h2
  ·rw [kB h2.1] at h1;rw [kI];exact gE.obj k av h1 h2
  ·rw [kB h2.1] at h1;exact gE.blk k av g h1 h2
  ·rw [kB h3.1] at h1;rw [kB h4.1] at h2;exact gE.disj k k' av av' g h1 h2 h3 h4
 refine wp_mono ((h w U hU ⟨none,[]⟩ _ w hs).wp rfl (fun e a w ⟨s,_,h⟩=>h.df)) ?_;rintro e a' w' ⟨s',⟨h1,s2,g1,g2,g3⟩,h3⟩;obtain ⟨D',kG,h4⟩:=g1 a' w' h3;obtain ⟨v,h5,h6⟩:=R2 h4 g2;have hS:=h4.sub g3.sub;have gT:∀ {k av},look post k=some av->100000<=k:=fun {k av} h1=>by rw [all_eq_true] at kQ;exact Nat.le_of_ble_eq_true (kQ k (i8 h1))
 have jP:SimG w U 0 post ⟨#[],[]⟩ w' D' kG:=⟨hS.below,rfl,rfl,fun d av h7 h8=>by have:=gT h7;omega,hS.fld,hS.fdis,hS.obj,hS.blk,hS.disj,hS.fix,hS.dlt⟩
 rcases h1 with rfl | rfl
 ·exact ⟨h4.dfr,v,h5,v,D',kG,_,rfl,jP,h6.move (fun _ _ _ h1 h2=>⟨h1,h2⟩) (fun _ h7=>h7.imp id fun ⟨e,he⟩=>⟨e,g3.sub _ _ he.1,he.2⟩) fun _=>rfl⟩
 ·exact ⟨h4.dfr,v,h5,v,D',kG,_,rfl,jP,h6.move (fun _ _ _ h1 h2=>⟨h1,h2⟩) (fun _ h7=>h7.imp id fun ⟨e,he⟩=>⟨e,g3.sub _ _ he.1,he.2⟩) fun _=>rfl⟩
end
def V8 (P:Program) (e:TypeId):Option CV:=match P.info? e with
 | some it=>match it.zero with
  | some (.agg cs)=>match P.underlying e with
   | some (.struct fs)=>match szO P fs.toList 0 with
    | some sz=>match zsO sz cs.toList with | some zs=>some (.row zs) | none=>none
    | none=>none
   | _=>none
  | some v=>match O8 v with | true=>some (R1 v) | false=>none
  | none=>none
 | none=>none
theorem M7 {P:Program} {e:TypeId} {c:CV} (h:V8 P e=some c):∃ it z,P.info? e=some it/\it.zero=some z/\∀ U w,Rep U w c z.cells.toList:=by
 unfold V8 at h;split at h
 ·rename_i it hi;split at h
  ·rename_i cs hz;refine ⟨it,_,hi,hz,fun U w=>?_⟩;split at h
   ·split at h
    ·split at h
     ·rename_i zs h0;cases h;obtain ⟨segs,e1,e2,e3,e4,e5⟩:=H8 (U:=U) (w:=w) h0;rw [I4];show Sq _ cs.toList;rw [<-e1];exact I5 e4 (fun i c hi=>by obtain ⟨seg,f1,f2,_⟩:=e5 i c hi;exact ⟨seg,f1,f2⟩)
     ·cases h
    ·cases h
   ·cases h
  ·rename_i v hz hv;refine ⟨it,_,hi,hv,fun U w=>?_⟩;split at h
   ·rename_i hp;cases h;have:=a0b U w v hp;have hc:v.cells = #[v]:=by
     cases v with
     | agg cs=>exact absurd rfl (hz cs)
     | _=>rfl
    rw [hc];exact this
   ·cases h
  ·cases h
 ·cases h
section
variable {P:Program} {w0:World} {U0:UX} {nt:Nat} {ops:Array Oper} {o:Oper} {S:Nat->Option AV} {gs:List Nat} {d:Nat} {s:AS} {a:Act} {w:World} {D:Nat->Nat->Prop} {hv:Nat->Value}
theorem a7B {U:Nat->Nat->Prop} {c:CV} {xs:List Value} (h:Rep U w c xs):∀ k,Sq ((List.replicate k c).map fun c=>Rep U w c) (List.replicate k xs).flatten
 | 0=>rfl
 | k+1=>⟨_,_,rfl,h,a7B h k⟩
theorem I3 {v:Value} {k cap:Nat} {ao:Option Addr} {z:Nat} (h:v = .slice ao k cap) (hk:k<=cap) (hg:ao=none\/∃ g,ao=some ⟨g,0,none⟩):SlV v 0 k z v:=by
 refine ⟨ao,k,cap,ao,h,by rw [h];rfl,by omega,fun _=>rfl,fun _ g e=>by rw [Nat.zero_mul];exact e,Iff.rfl⟩
theorem a5b {e z:Nat} {v:Value} {k:Nat} {xs:List Value} (h:w.ownsRow 0 e z v k xs):∃ ao cap,v = .slice ao k cap/\k<=cap/\(ao=none\/∃ g,ao=some ⟨g,0,none⟩):=by
 rcases h.2 with ⟨rfl,rfl⟩ | ⟨g,cap,cur,rfl,_,h3,h4,h5,h6,h7⟩
 ·exact ⟨none,0,rfl,Nat.le_refl _,.inl rfl⟩
 ·exact ⟨_,cap,rfl,h4,.inr ⟨g,rfl⟩⟩
theorem b2r {Q:Exit->Act->World->Prop} {K:Act->World->Prop} (h:SimG w0 U0 nt s a w D hv) {n e size bytes:Nat} {z:Value} {t:TypeId} (hd:o.dst=some d) (eB:d<nt) (h5:d<100000) (hn:RW n) (hr:S3 s n) {x y:Operand} (ho:o.op = .call { callee := .builtin .append,args := #[x,y],argTypes := #[t,t] })
  (ht:P.underlying t=some (.slice e)) (hi:(P.info? e).map (fun i=>(i.zero,i.size,i.bytes))=some (some z,size,bytes)) (bH:z.cells.size=size) (kC:0<size) (dL:bytes<=1000)
  {l l2:List CV} (hl:∀ c∈l,c.size=size) (kL:∀ c∈l2,c.size=size) (bP:l.length+l2.length<=100000000000)
  {v:Value} (hx:a.eval x=v) (hy:VRep (Us w0 U0 D) w (.lst l2) (a.eval y)) {xs:List Value} (kT:w.ownsRow 0 e size v l.length xs) (rS:Sq (l.map fun c=>Rep (Us w0 U0 D) w c) xs)
  (hroom:∀ g,v.ownBlock=some g->Mn w0 U0 (lcl n (.mrow e size (l++l2))) g/\(∀ o,¬ D g o)/\∀ q av,look s q=some av->l8 q->av.t≠7->q≠n->hb (hv q)≠some g)
  (hK:∀ a' w',Sim w0 U0 nt ((d,.sl n 0 (l.length+l2.length) size)::(n,.mrow e size (l++l2))::s) a' w'->K a' w'):o.wp P a w K Q:=by
 obtain ⟨ao2,m,c2,g1,g2,g3,g4,g6,ys2,g7,g8⟩:=l5.1 hy;have jH:ys2.length=m*size:=by rw [A5 (n:=CV.size) (fun c _ xs h=>h.len) g8,r8 kL,g2]
 have nA:(l.length+m)*bytes<=100000000000*1000:=Nat.mul_le_mul (by omega) dL;obtain ⟨v',w',r1,r2,r3,r4⟩:=b2n (P:=P) (ty:=o.type) ht hi bH kC (Nat.zero_le _) kT g6 g7 jH (F5 g8) (by unfold maxLen;omega) (by omega);have cX:∀ {u:Value} {k xs} {w:World},w.ownsRow 0 e size u k xs->hb u=u.ownBlock:=fun {u k xs w} h1=>by rcases h1.2 with ⟨rfl,rfl⟩ | ⟨g,cap,cur,rfl,_⟩<;>rfl
 have gV:=cX r2;have bC:∀ b o u,Us w0 U0 D b o->w.cell? ⟨b,o,none⟩=some u->Us w0 U0 D b o/\w'.cell? ⟨b,o,none⟩=some u:=fun b o u hu hc=>by
  refine ⟨hu,?_⟩;have kA:b<w.heap.size:=World.block_lt_of_cell? w _ hc;have hnb:some b≠v.ownBlock:=fun e=>by obtain ⟨f1,f2,_⟩:=hroom b e.symm;exact a2M hu f1 (f2 o) rfl
  rw [World.cell?_of_block (w:=w) (r3.block b kA hnb)];exact hc
 have hG:=h.newrow (avn := .mrow e size (l++l2)) (v':=v') (D':=D) (X:=fun b=>v.ownBlock=some b) hn hr (by simp) ⟨r3.os,r3.tape,r3.output,r3.size,fun b hb hx=>r3.block b hb fun e=>hx e.symm⟩ (fun b hb=>⟨(hroom b hb).1,(hroom b hb).2.2⟩) (fun g hg=>by
   rw [gV] at hg;refine ⟨?_,(r2.lt g hg).2,fun o _ hd=>?_⟩
   ·rcases r4 with r4 | ⟨_,r4⟩
    ·exact .inl (r4▸hg)
    ·exact .inr (r4 g hg)
   ·rcases r4 with r4 | ⟨_,r4⟩
    ·exact (hroom g (r4▸hg)).2.1 o hd
    ·have:=r4 g hg;have:=h.dlt _ _ hd;omega) (fun b o hd => .inl hd) (fun b o hd=>Nat.lt_of_lt_of_le (h.dlt _ _ hd) r3.size) bC (fun hv lv=>by
   refine ⟨xs++ys2,?_,kC,fun c hc=>?_,?_⟩
   ·show w'.ownsRow 0 e size v' (l++l2).length (xs++ys2);rw [length_append,<-g2];exact r2
   ·rcases mem_append.1 hc with hc | hc
    ·exact hl c hc
    ·exact kL c hc
   ·show Sq ((l++l2).map _) _;rw [map_append];exact x8 (Sq.keep bC rS) (Sq.keep bC g8))
 have he:(execOp a.eval o).run P w = .ok (.value v') w':=by generalize a.eval=ρ at hx g1 |-;simp [execOp,ho,resolve,invoke,builtin,hx,g1,r1,Result.andThen]
 unfold Oper.wp;rw [he,Oper.upon_value,hd];refine hK _ _ ⟨_,_,hG.put eB h5 ?_⟩;refine ⟨hn.rn,?_⟩;obtain ⟨a1,c1,e1,e2,e3⟩:=a5b r2;have:=I3 (z:=size) e1 e2 e3;show SlV ((fun x=>if x=n then v' else hv x) n) 0 (l.length+l2.length) size v';simp only [if_true];rw [<-g2];exact this
theorem b8h (nn:Nat) (hg:Gd w0 U0 nt ops o gs S) (hd:o.dst=some d) (hn:Nat.blt d nt=true) (h5:Nat.blt d 100000=true) {x y:Operand} {t e size bytes:Nat} {z:Value} {l2:List CV} {n q n2 q2 p2} (ho:o.op = .call { callee := .builtin .append,args := #[x,y],argTypes := #[t,t] }) (ht:P.underlying t=some (.slice e)) (hi:(P.info? e).map (fun i=>(i.zero,i.size,i.bytes))=some (some z,size,bytes)) (bH:Nat.beq z.cells.size size=true) (kC:Nat.blt 0 size=true) (dL:Nat.ble bytes 1000=true)
  (hx:ev S x=some ⟨0,.lst [],n,q,[]⟩) (hy:ev S y=some ⟨0,.lst l2,n2,q2,p2⟩) (iJ:(Nat.ble 200000 n&&Nat.blt n 400000)=true) (bR:(Nat.ble 200000 nn&&Nat.blt nn 400000)=true) (kE:Nat.beq n nn=false) (bX:S n=some (.tok e size)) (kL:∀ c∈l2,c.size=size) (bP:l2.length<=100000000000) :
  AOp P w0 U0 nt ops o (gs++(rd x++(rd y++[n]))) [(nn,[])] S [(d,.sl nn 0 l2.length size),(nn,.mrow e size l2),(n,.no)]:=by
 intro s hs hN a w ⟨D,hv,h⟩ Q K hK;rw [if_pos (hg s (fun k hk=>hs k (mem_append_left _ hk)) a w D hv h)];obtain ⟨h1,h2⟩:VRep (Us w0 U0 D) w (.lst []) (a.eval x)/\Tk hv (a9 s) ⟨0,.lst [],n,q,[]⟩ (a.eval x).cells.toList:=l9 h (fun k hk=>hs k (mem_append_right _ (mem_append_left _ hk))) hx;have h3:=y7 h (fun k hk=>hs k (mem_append_right _ (mem_append_right _ (mem_append_left _ hk)))) hy;have kN:=rnB iJ;have dR:=rnB bR;have kH:l8 n:=⟨by omega,by omega⟩
 have kB:=(hs n (by simp)).trans bX;have kI:t7 s n (e,size):=⟨kB,kN.1,kN.2⟩
 have hval:a.eval x=hv n:=by obtain ⟨m,c,g1,g2⟩:=h2 (.inr ⟨_,kI⟩);simp only at g1;rw [R6] at g1;cases g1;obtain ⟨ao,k,c,e1,_⟩:=l5.1 h1;unfold I2 at g2;rw [if_neg (by show n≠1;omega)] at g2;rw [e1] at g2 |-;simpa [Value.cells] using g2
 obtain ⟨k,xs,g1,g2⟩:∃ k xs,w.ownsRow 0 e size (hv n) k xs/\0<size:=h.obj n _ kB kH;have cX:hb (hv n)=(hv n).ownBlock/\lenOf (hv n)=k:=by
  rcases g1.2 with ⟨e1,e2⟩ | ⟨g,cap,cur,e1,_⟩
  ·rw [e1,e2];exact ⟨rfl,rfl⟩
  ·rw [e1];exact ⟨rfl,rfl⟩
 have oU:k=0:=by obtain ⟨ao,k',c,e1,e2,_⟩:=l5.1 h1;rw [hval] at e1;rw [e1] at cX;have:k'=k:=cX.2;rw [<-this,e2];rfl
 subst oU;have jQ:xs=[]:=eq_nil_of_length_eq_zero (by simpa using g1.1);subst jQ;have uK:n≠nn:=fun e=>by rw [e,Nat.beq_refl] at kE;cases kE
 refine b2r (l:=[]) (n:=nn) (h.kill kH) hd (bL hn) (bL h5) dR (fun k av hk=>?_) ho ht hi (Nat.eq_of_beq_eq_true bH) (bL kC) (Nat.le_of_ble_eq_true dL) (fun c hc=>by cases hc) kL (by simpa using bP) hval h3 g1 rfl (fun g hg=>?_) (fun a' w' gD=>hK a' w' ?_)
 ·by_cases e:n=k
  ·subst e;rw [lS] at hk;cases hk;refine ⟨by show 0≠_;omega,?_⟩;have dM:fnm n=100000:=by
    unfold fnm;have:Nat.ble 500000 n=false:=by
     cases hb:Nat.ble 500000 n with
     | false=>rfl
     | true=>have:=Nat.le_of_ble_eq_true hb;omega
    rw [this]
   rw [dM];omega
  ·rw [lN e] at hk;exact (hN (nn,[]) (by simp)).nr k av hk
 ·rw [<-cX.1] at hg;obtain ⟨f1,f2,f3⟩:=h.blk n _ g kB kH (by simp) hg;rw [N0 rfl] at f1;refine ⟨?_,fun o=>f3 o fun _=>?_,fun q av h6 h7 h8 h9=>?_⟩
  ·rcases f1 with f1 | f1
   ·exact .inl f1
   ·exact absurd rfl f1.1
  ·rw [cX.2];simp
  ·have hq:n≠q:=fun e=>by subst e;rw [lS] at h6;cases h6;exact h8 rfl
   rw [lN hq] at h6;exact h.disj n q _ av g kB h6 kH h7 (by simp) h8 hq hg
 ·simpa using gD
theorem zV {P:Program} {w0:World} {U0:UX} {nt:Nat} {ops:Array Oper} {o:Oper} {S:Nat->Option AV} {gs:List Nat} {d:Nat} {x:Operand} {y:Operand} {t:Nat} {e:Nat} {size:Nat} {bytes:Nat} {z:Value} {l2:List CV} {n} {q} {n2} {q2} {p2} (nn:Nat) (p:Gd w0 U0 nt ops o gs S:=by exact gN rfl) (r:o.dst=some d:=by exact rfl) (u:Nat.blt d nt=true:=by exact rfl) (v:Nat.blt d 100000=true:=by exact rfl) (A:o.op = .call { callee := .builtin .append,args := #[x,y],argTypes := #[t,t] }:=by exact rfl) (B:P.underlying t=some (.slice e):=by exact rfl) (C:(P.info? e).map (fun i=>(i.zero,i.size,i.bytes))=some (some z,size,bytes):=by exact rfl) (E:Nat.beq z.cells.size size=true:=by exact rfl) (F:Nat.blt 0 size=true:=by exact rfl) (G:Nat.ble bytes 1000=true:=by exact rfl) (H:ev S x=some ⟨0,.lst [],n,q,[]⟩:=by exact rfl) (hy:ev S y=some ⟨0,.lst l2,n2,q2,p2⟩:=by exact rfl) (iJ:(Nat.ble 200000 n&&Nat.blt n 400000)=true:=by exact rfl) (bR:(Nat.ble 200000 nn&&Nat.blt nn 400000)=true:=by exact rfl) (kE:Nat.beq n nn=false:=by exact rfl) (bX:S n=some (.tok e size):=by exact rfl) (kL:∀ c∈l2,c.size=size:=by first | assumption | exact sZ rfl | exact Tm.size_all _ | exact Bd.size_all _ | exact p8 _ | exact bys_size _ | exact Lt.size_all _) (bP:l2.length<=100000000000:=by first | omega | (simp only [length_map,length_append,length_cons,length_nil]<;>omega) | (simp<;>omega)):AOp P w0 U0 nt ops o (gs++(rd x++(rd y++[n]))) [(nn,[])] S [(d,.sl nn 0 l2.length size),(nn,.mrow e size l2),(n,.no)]:=b8h nn p r u v A B C E F G H hy iJ bR kE bX kL bP
theorem c1h (nn:Nat) (hg:Gd w0 U0 nt ops o gs S) (hd:o.dst=some d) (hn:Nat.blt d nt=true) (h5:Nat.blt d 100000=true) {x y:Operand} {t e size bytes:Nat} {z:Value} {l l2:List CV} {n len n2 q2 p2} (ho:o.op = .call { callee := .builtin .append,args := #[x,y],argTypes := #[t,t] }) (ht:P.underlying t=some (.slice e)) (hi:(P.info? e).map (fun i=>(i.zero,i.size,i.bytes))=some (some z,size,bytes)) (bH:Nat.beq z.cells.size size=true) (dL:Nat.ble bytes 1000=true)
  (hx:ev S x=some (.sl n 0 len size)) (hy:ev S y=some ⟨0,.lst l2,n2,q2,p2⟩) (bR:(Nat.ble 200000 nn&&Nat.blt nn 400000)=true) (kE:(!Nat.beq n nn&&(Nat.blt n 300000||Nat.ble 300000 nn))=true) (bX:S n=some (.mrow e size l)) (kD:len=l.length) (kL:∀ c∈l2,c.size=size) (bP:l.length+l2.length<=100000000000) :
  AOp P w0 U0 nt ops o (gs++(rd x++(rd y++[n]))) [(nn,[])] S [(d,.sl nn 0 (l.length+l2.length) size),(nn,.mrow e size (l++l2)),(n,.no)]:=by
 intro s hs hN a w ⟨D,hv,h⟩ Q K hK;rw [if_pos (hg s (fun k hk=>hs k (mem_append_left _ hk)) a w D hv h)];obtain ⟨kN,dH⟩:RN n/\SlV (hv n) 0 len size (a.eval x):=l9 h (fun k hk=>hs k (mem_append_right _ (mem_append_left _ hk))) hx;have h3:=y7 h (fun k hk=>hs k (mem_append_right _ (mem_append_right _ (mem_append_left _ hk)))) hy;have dR:=rnB bR;have fU:=kN;unfold RN at fU;have kH:l8 n:=⟨by omega,by omega⟩
 have kB:=(hs n (by simp)).trans bX;obtain ⟨xs,g1,g2,g3,g4⟩:=h.mrow kB kN;have hval:a.eval x=hv n:=by obtain ⟨ao,m,cap,ao',e1,e2,e3,e4,_⟩:=dH;obtain ⟨ao2,cap2,f1,f2,f3⟩:=a5b g1;rw [f1] at e1 |-;injection e1 with e5 e6 e7;subst e5;subst e6;subst e7;rw [e2,e4 rfl,kD];rfl
 have cX:hb (hv n)=(hv n).ownBlock:=by
  rcases g1.2 with ⟨e1,e2⟩ | ⟨g,cap,cur,e1,_⟩
  ·rw [e1];rfl
  ·rw [e1];rfl
 rw [Bool.and_eq_true,Bool.or_eq_true] at kE;have uK:n≠nn:=fun e=>by rw [e,Nat.beq_refl] at kE;exact absurd kE.1 (by decide)
 refine b2r (l:=l) (n:=nn) (h.kill kH) hd (bL hn) (bL h5) dR (fun k av hk=>?_) ho ht hi (Nat.eq_of_beq_eq_true bH) g2 (Nat.le_of_ble_eq_true dL) g3 kL bP hval h3 g1 g4 (fun g hg=>?_) (fun a' w' gD=>hK a' w' gD)
 ·by_cases e:n=k
  ·subst e;rw [lS] at hk;cases hk;refine ⟨by show 0≠_;omega,?_⟩;have dM:fnm n=100000:=by
    unfold fnm;have:Nat.ble 500000 n=false:=by
     cases hb:Nat.ble 500000 n with
     | false=>rfl
     | true=>have:=Nat.le_of_ble_eq_true hb;omega
    rw [this]
   rw [dM];omega
  ·rw [lN e] at hk;exact (hN (nn,[]) (by simp)).nr k av hk
 ·rw [<-cX] at hg;obtain ⟨f1,f2,f3⟩:=h.blk n _ g kB kH (by simp) hg;refine ⟨?_,fun o=>f3 o (fun e=>by cases e),fun q av h6 h7 h8 h9=>?_⟩
  ·rcases f1 with f1 | f1
   ·exact .inl f1
   ·rcases kE.2 with h6 | h6
    ·rw [a1H (bL h6)] at f1;exact absurd rfl f1.1
    ·exact .inr ⟨by rw [P0 (Nat.le_of_ble_eq_true h6)];simp,f1.2⟩
  ·have hq:n≠q:=fun e=>by subst e;rw [lS] at h6;cases h6;exact h8 rfl
   rw [lN hq] at h6;exact h.disj n q _ av g kB h6 kH h7 (by simp) h8 hq hg
theorem zbb {P:Program} {w0:World} {U0:UX} {nt:Nat} {ops:Array Oper} {o:Oper} {S:Nat->Option AV} {gs:List Nat} {d:Nat} {x:Operand} {y:Operand} {t:Nat} {e:Nat} {size:Nat} {bytes:Nat} {z:Value} {l:List CV} {l2:List CV} {n} {len} {n2} {q2} {p2} (nn:Nat) (p:Gd w0 U0 nt ops o gs S:=by exact gN rfl) (r:o.dst=some d:=by exact rfl) (u:Nat.blt d nt=true:=by exact rfl) (v:Nat.blt d 100000=true:=by exact rfl) (A:o.op = .call { callee := .builtin .append,args := #[x,y],argTypes := #[t,t] }:=by exact rfl) (B:P.underlying t=some (.slice e):=by exact rfl) (C:(P.info? e).map (fun i=>(i.zero,i.size,i.bytes))=some (some z,size,bytes):=by exact rfl) (E:Nat.beq z.cells.size size=true:=by exact rfl) (F:Nat.ble bytes 1000=true:=by exact rfl) (G:ev S x=some (.sl n 0 len size):=by exact rfl) (H:ev S y=some ⟨0,.lst l2,n2,q2,p2⟩:=by exact rfl) (bR:(Nat.ble 200000 nn&&Nat.blt nn 400000)=true:=by exact rfl) (kE:(!Nat.beq n nn&&(Nat.blt n 300000||Nat.ble 300000 nn))=true:=by exact rfl) (bX:S n=some (.mrow e size l):=by exact rfl) (kD:len=l.length:=by first | rfl | omega | (simp only [length_set,length_map,length_append,length_cons,length_nil]<;>omega) | (simp<;>omega)) (kL:∀ c∈l2,c.size=size:=by first | assumption | exact sZ rfl | exact Tm.size_all _ | exact Bd.size_all _ | exact p8 _ | exact bys_size _ | exact Lt.size_all _) (bP:l.length+l2.length<=100000000000:=by first | omega | (simp only [length_map,length_append,length_cons,length_nil]<;>omega) | (simp<;>omega)):AOp P w0 U0 nt ops o (gs++(rd x++(rd y++[n]))) [(nn,[])] S [(d,.sl nn 0 (l.length+l2.length) size),(nn,.mrow e size (l++l2)),(n,.no)]:=c1h nn p r u v A B C E F G H bR kE bX kD kL bP
theorem b6p (hg:Gd w0 U0 nt ops o gs S) (hd:o.dst=none) {x:Operand} {t e e':TypeId} {ts:Array TypeId} {n lo len z:Nat} {l:List CV} {zc:CV} (ho:o.op = .call { callee := .builtin .clear,args := #[x],argTypes:=ts }) (ht:ts[0]?=some t) (hu:P.underlying t=some (.slice e)) (jB:V8 P e=some zc) (hx:ev S x=some (.sl n lo len z)) (bQ:S n=some (.mrow e' z l)) (rZ:zc.size=z) (hl:lo+len<=l.length) :
  AOp P w0 U0 nt ops o (gs++(rd x++[n])) [] S [(n,.mrow e' z (l.take lo++(List.replicate len zc++l.drop (lo+len))))]:=by
 intro s hs hN a w ⟨D,hv,h⟩ Q K hK;rw [if_pos (hg s (fun k hk=>hs k (mem_append_left _ hk)) a w D hv h)];have hm:=(hs n (by simp)).trans bQ;obtain ⟨kN,ao,m,cap,ao',h1,h2,h3,h4,h6,h7⟩:RN n/\SlV (hv n) lo len z (a.eval x):=l9 h (fun k hk=>hs k (mem_append_right _ (mem_append_left _ hk))) hx;obtain ⟨xs,g1,g2,g3,g4⟩:=h.mrow hm kN;obtain ⟨it,zv,i1,i2,i3⟩:=M7 jB;by_cases uW:len=0
 ·subst uW;have he:(execOp a.eval o).run P w = .ok (.value (.tuple #[])) w:=by generalize a.eval=ρ at h2 |-;cases ao'<;>simp [execOp,ho,resolve,invoke,builtin,Builtin.clear_,ht,h2,run_underlying hu]
  unfold Oper.wp;rw [he,Oper.upon_value,hd];have:l.take lo++(List.replicate 0 zc++l.drop (lo+0))=l:=by simp
  refine hK _ _ ⟨D,hv,h.congr fun k=>?_⟩;rw [this];by_cases e:n=k
  ·subst e;rw [cons_append,lS];exact hm.symm
  ·rw [cons_append,lN e];rfl
 obtain ⟨g,cap',cur,f1,f2,f3,f4,f6,f7,f8,f9⟩:=X9 g1 (by omega);obtain rfl:cap=cap':=by rw [f1] at h1;injection h1 with k1 k2 k3;exact k3.symm
 obtain rfl:ao=some ⟨g,0,none⟩:=by rw [f1] at h1;injection h1 with k1 k2 k3;exact k1.symm
 have ha:ao'=some ⟨g,lo*z,none⟩:=h6 (by omega) g rfl;subst ha;have pV:zv.cells.size=z:=by have:=(i3 (fun _ _=>True) w).len;rw [rZ] at this;simpa using this
 obtain ⟨zs,bH⟩:∃ zs,zs=(List.replicate len zv.cells.toList).flatten:=⟨_,rfl⟩
 have cP:zs.length=len*z:=by rw [bH];simp [pV]
 have hzc2:(Builtin.zeroCells zv.cells len).toList=zs:=by
  rw [bH];apply ext_getElem?;intro k;rw [M9 g2 _ (by intro v kG;rw [List.mem_replicate] at kG;rw [kG.2];simpa using pV)];unfold Builtin.zeroCells;rw [pV];by_cases hk:k<len*z
  ·have e1:k / z<len:=(Nat.div_lt_iff_lt_mul g2).2 hk;have e2:k % z<zv.cells.size:=by rw [pV];exact Nat.mod_lt _ g2
   simp [hk,getElem?_replicate,e1,e2]
  ·have e1:¬ k / z<len:=by rw [Nat.div_lt_iff_lt_mul g2];exact hk
   simp [hk,getElem?_replicate,e1]
 have dP:∀ v∈zs,v.oneCell'=true:=by intro v kG;rw [bH,List.mem_flatten] at kG;obtain ⟨r,iM,iY⟩:=kG;rw [List.mem_replicate] at iM;rw [iM.2] at iY;exact (i3 (fun _ _=>True) w).one v iY
 have eF:lo*z+len*z<=l.length*z:=by rw [<-Nat.add_mul];exact Nat.mul_le_mul_right _ hl
 have pW:l.length*z<=cap*z:=Nat.mul_le_mul_right _ f3;have dD:=run_storeCells_at (P:=P) g (lo*z) e' zs 0 cur w f2 (by rw [cP,f6];omega) dP;rw [Nat.add_zero] at dD;have he:(execOp a.eval o).run P w = .ok (.value (.tuple #[])) (w.setRow g (cur.toList.take (lo*z)++zs++cur.toList.drop (lo*z+zs.length)).toArray):=by
  have sC:(zeroValue e).run P w = .ok zv w:=by simp [zeroValue,typeInfo,i1,i2]
  obtain ⟨len',rfl⟩:∃ k,len=k+1:=⟨len-1,by omega⟩
  generalize a.eval=ρ at h2 |-;simp [execOp,ho,resolve,invoke,builtin,Builtin.clear_,ht,h2,run_underlying hu,sC,hzc2,dD]
 unfold Oper.wp;rw [he,Oper.upon_value,hd];have kH:l8 n:=by unfold RN at kN;unfold l8;omega
 obtain ⟨l',cA⟩:∃ l',l'=l.take lo++(List.replicate len zc++l.drop (lo+len)):=⟨_,rfl⟩
 have dI:l'.length=l.length:=by rw [cA];simp;omega
 refine hK _ _ ?_;rw [<-cA];refine ⟨_,_,h.store (av := .mrow e' z l') kH hm (by simp) (by simp) rfl (fun g' hn o _=>hn o (by simp)) (by simp) f9 f2 fun w' hw bC=>?_⟩;have gS:l=l.take lo++((l.drop lo).take len++(l.drop lo).drop len):=by rw [take_append_drop,take_append_drop]
 have g4':=g4;rw [gS,map_append,map_append] at g4';obtain ⟨y1,r1,e1,s1,s2⟩:=x0 g4';obtain ⟨y2,y3,e2,s3,s4⟩:=x0 s2;have lP:y1.length=lo*z:=by rw [A5 (n:=CV.size) (fun c _ xs h=>h.len) s1,r8 (fun c hc=>g3 c (mem_of_mem_take hc)),length_take,Nat.min_eq_left (by omega)]
 have iE:y2.length=len*z:=by rw [A5 (n:=CV.size) (fun c _ xs h=>h.len) s3,r8 (fun c hc=>g3 c (List.mem_of_mem_drop (mem_of_mem_take hc))),length_take,List.length_drop,Nat.min_eq_left (by omega)]
 have hy3:y1.length+(y2.length+y3.length)=l.length*z:=by have:=g1.1;rw [e1,e2] at this;simpa using this
 have eZ:cur.toList=y1++(y2++(y3++cur.toList.drop (l.length*z))):=by
  conv=>lhs;rw [<-take_append_drop (l.length*z) cur.toList,f7,e1,e2]
  simp
 have bU:cur.toList.take (lo*z)++zs++cur.toList.drop (lo*z+zs.length)=(y1++(zs++y3))++cur.toList.drop (l.length*z):=by
  have t1:cur.toList.take (lo*z)=y1:=by rw [eZ,<-lP];simp
  have t2:cur.toList.drop (lo*z+zs.length)=y3++cur.toList.drop (l.length*z):=by
   rw [cP,<-lP,<-iE]
   conv=>lhs;rw [eZ]
   rw [<-append_assoc,List.drop_append_of_le_length (by simp)];simp
  rw [t1,t2];simp
 rw [bU] at hw;refine ⟨y1++(zs++y3),⟨?_,.inr ⟨g,cap,_,?_,Nat.zero_le _,hw,?_,f4,?_,?_⟩⟩,g2,fun x hx=>?_,?_⟩
 ·show _=l'.length*z;rw [dI];simp only [length_append,cP];omega
 ·show hv n = .slice _ l'.length cap;rw [dI];exact f1
 ·show l'.length<=cap;rw [dI];exact f3
 ·have:=congrArg List.length eZ;rw [Array.length_toList,f6] at this;simp only [List.size_toArray,length_append,cP] at this |-;show _=cap*z;omega
 ·show List.take (l'.length*z) _=_;rw [dI,List.take_append_of_le_length (by simp only [length_append,cP];omega),List.take_of_length_le (by simp only [length_append,cP];omega)]
 ·have hx:x∈l':=hx;rw [cA,mem_append,mem_append] at hx;rcases hx with hx | hx | hx
  ·exact g3 x (mem_of_mem_take hx)
  ·rw [List.mem_replicate] at hx;rw [hx.2,rZ];rfl
  ·exact g3 x (List.mem_of_mem_drop hx)
 ·show Sq (l'.map fun c=>Rep (Us w0 U0 D) w' c) _;rw [cA,map_append,map_append];refine x8 (Sq.keep bC s1) (x8 ?_ ?_)
  ·rw [bH];exact a7B (i3 _ _) len
  ·rw [<-List.drop_drop];exact Sq.keep bC s4
theorem z0 {P:Program} {w0:World} {U0:UX} {nt:Nat} {ops:Array Oper} {o:Oper} {S:Nat->Option AV} {gs:List Nat} {x:Operand} {t:TypeId} {e:TypeId} {e':TypeId} {ts:Array TypeId} {n:Nat} {lo:Nat} {len:Nat} {z:Nat} {l:List CV} {zc:CV} (p:Gd w0 U0 nt ops o gs S:=by exact gN rfl) (q:o.dst=none:=by exact rfl) (u:o.op = .call { callee := .builtin .clear,args := #[x],argTypes:=ts }:=by exact rfl) (y:ts[0]?=some t:=by exact rfl) (A:P.underlying t=some (.slice e):=by exact rfl) (B:V8 P e=some zc:=by exact rfl) (C:ev S x=some (.sl n lo len z):=by exact rfl) (E:S n=some (.mrow e' z l):=by exact rfl) (F:zc.size=z:=by exact rfl) (G:lo+len<=l.length:=by first | rfl | omega | (simp only [length_set,length_map,length_append,length_cons,length_nil]<;>omega) | (simp<;>omega)):AOp P w0 U0 nt ops o (gs++(rd x++[n])) [] S [(n,.mrow e' z (l.take lo++(List.replicate len zc++l.drop (lo+len))))]:=b6p p q u y A B C E F G
theorem a8s (d n:Nat) {e z lo len:Nat} {l:List CV} (hs:look s d=some (.sl n lo len z)) (hm:look s n=some (.mrow e z l)) (hd:Nat.blt d 100000=true) (hloc:(∀ b,¬ U0.x b)\/n<300000) (kD:lo+len<=l.length) {s':AS} (kJ:SubL s s') (hk:S5 s' n=true):Wk w0 U0 nt s ((d,.val (.lst ((l.drop lo).take len)))::s'):=by
 rintro a w ⟨D,hv,h⟩;have hd:=bL hd;obtain ⟨v,g1,kN,ao,m,cap,ao',h1,h2,h3,h4,h6,h7⟩:∃ v,a.tmps[d]?=some v/\RN n/\SlV (hv n) lo len z v:=h.slot d _ hs hd;have h2:v = .slice ao' len (cap-lo):=h2;obtain ⟨xs,f1,f2,f3,f4⟩:=h.mrow hm kN;have fU:=kN;unfold RN at fU;have kH:l8 n:=⟨by omega,by omega⟩
 have nQ:=kJ.sub;have gA:∀ av,look s' n≠some av:=fun av h8=>by have h9:=C7 h8;unfold S5 at hk;rw [all_eq_true] at hk;have:=hk _ h9;simp at this
 rcases f1.2 with ⟨e1,e2⟩ | ⟨g,cap',cur,e1,_,e3,e4,e5,e6,e7⟩
 ·
  have uW:l=[]:=eq_nil_of_length_eq_zero e2;subst uW;rw [e1] at h1;injection h1 with h1 h8 h9;subst h1;subst h8;subst h9;have fQ:lo=0:=by simp at kD;omega
  have cY:len=0:=by simp at kD;omega
  subst fQ;subst cY;have hao:ao'=none:=h7.2 rfl;refine ⟨D,hv,(h.sub nQ).know hd g1 (n4 ?_)⟩;rw [h2,hao];exact l5.2 ⟨none,0,0,rfl,rfl,Nat.le_refl _,by unfold maxLen;omega,fun _=>⟨rfl,rfl⟩,[],.inl rfl,rfl⟩
 ·obtain rfl:cap=cap':=by rw [e1] at h1;injection h1 with k1 k2 k3;exact k3.symm
  obtain rfl:ao=some ⟨g,0,none⟩:=by rw [e1] at h1;injection h1 with k1 k2 k3;exact k1.symm
  have jG:hb (hv n)=some g:=by rw [e1];rfl
  obtain ⟨b1,b2,b3⟩:=h.blk n _ g hm kH (by simp) jG;have dX:w0.heap.size<=g:=by
   rcases b1 with b1 | b1
   ·exact b1
   ·rcases hloc with hloc | hloc
    ·exact absurd b1.2 (hloc g)
    ·exact absurd (a1H hloc _) b1.1
  have hG:=(h.sub nQ).moreD (g:=g) b2 fun k av dB uC lI xN=>h.disj n k _ av g hm (nQ _ _ dB) kH uC (by simp) lI (fun e=>gA av (e▸dB)) jG xN;refine ⟨_,hv,hG.know hd g1 (n4 ?_)⟩;rw [h2];have bC:∀ b o v,Us w0 U0 D b o->w.cell? ⟨b,o,none⟩=some v->Us w0 U0 (fun b o=>D b o\/b=g) b o/\w.cell? ⟨b,o,none⟩=some v:=fun b o v hu hc=>⟨hu.imp id fun h=>⟨h.1,.inl h.2⟩,hc⟩
  have gS:l=l.take lo++((l.drop lo).take len++(l.drop lo).drop len):=by rw [take_append_drop,take_append_drop]
  have f4':=f4;rw [gS,map_append,map_append] at f4';obtain ⟨y1,r1,c1,s1,s2⟩:=x0 f4';obtain ⟨y2,y3,c2,s3,s4⟩:=x0 s2;have lP:y1.length=lo*z:=by rw [A5 (n:=CV.size) (fun c _ xs h=>h.len) s1,r8 (fun c hc=>f3 c (mem_of_mem_take hc)),length_take,Nat.min_eq_left (by omega)]
  refine l5.2 ⟨ao',len,cap-lo,rfl,by simp;omega,by omega,by omega,fun dB=>?_,y2,?_,Sq.keep bC s3⟩
  ·have:=h7.1 dB;cases this
  ·by_cases cK:lo<cap
   ·refine .inr ⟨g,lo*z,h6 cK g rfl,fun i hi=>⟨.inr ⟨dX,.inr rfl⟩,?_⟩⟩;have kA:lo*z+i<l.length*z:=by have:=f1.1;rw [c1,c2] at this;simp only [length_append] at this;omega
    rw [Y3 f1 (by rw [e1];rfl) kA,c1,c2,<-lP,getElem?_append_right (by omega),getElem?_append_left (by omega)];congr 1;omega
   ·left;have:len=0:=by omega
    rw [this] at s3;exact s3
def P7 (P:Program) (W:World) (fc:CV) (args:List CV) (r:AV):Prop:=AFunV P W fc args r\/∃ f,fc = .sc (.func (.func f) #[] #[])/\AFun P W f args r
theorem b9b {x:Operand} {xs:Array Operand} {ts:Array TypeId} {fc:CV} {cs:List CV} {r:AV} {n q p} (hg:Gd w0 U0 nt ops o gs S) (hd:o.dst=some d) (hn:Nat.blt d nt=true) (h5:Nat.blt d 100000=true)
  (ho:o.op = .call { callee := .value x,args:=xs,argTypes:=ts }) (hf:ev S x=some ⟨0,fc,n,q,p⟩) (hx:a0q S xs.toList=some cs) (hc:P7 P w0 fc cs r):AOp P w0 U0 nt ops o (gs++(rd x++rdl xs.toList)) [] S [(d,r)]:=by
 rcases hc with hc | ⟨f,rfl,hc⟩
 ·exact a7s hg hd hn h5 ho hf hx hc
 intro s hs _ a w ⟨D,hv,h⟩ Q K hK;rw [if_pos (hg s (fun k hk=>hs k (mem_append_left _ hk)) a w D hv h)];have hargs:=H5 h (fun k hk=>hs k (mem_append_right _ (mem_append_right _ hk))) hx;have nD:=v7 h (fun k hk=>hs k (mem_append_right _ (mem_append_left _ hk))) hf;obtain ⟨h1,h2,h3,h4⟩:=hc;have kK:=h4 _ w _ trivial hargs;have he:(execOp a.eval o).run P w = .ok (.enter f (xs.toList.map a.eval).toArray) w:=by
  have cR:=h1 (xs.map a.eval) w;have gR:(xs.toList.map a.eval).toArray=xs.map a.eval:=by apply Array.ext';simp
  rw [gR];generalize a.eval=ρ at nD cR |-;simp [execOp,ho,resolve,invoke,Deferred.ofValue,nD,cR]
 unfold Oper.wp;rw [he,Oper.upon_enter];refine kK.mono ?_;rintro e w' ⟨v,rfl,h6,h7⟩;rw [hd];exact hK _ _ ⟨Dn D w w',hv,(h.growN h7).put (bL hn) (bL h5) (R5 h2 h3 (Y1 rfl h7.size h.below.size h6))⟩
theorem zQ {P:Program} {w0:World} {U0:UX} {nt:Nat} {ops:Array Oper} {o:Oper} {S:Nat->Option AV} {gs:List Nat} {d:Nat} {x:Operand} {xs:Array Operand} {ts:Array TypeId} {fc:CV} {cs:List CV} {r:AV} {n} {q} {p} (t:Gd w0 U0 nt ops o gs S:=by exact gN rfl) (u:o.dst=some d:=by exact rfl) (y:Nat.blt d nt=true:=by exact rfl) (z:Nat.blt d 100000=true:=by exact rfl) (A:o.op = .call { callee := .value x,args:=xs,argTypes:=ts }:=by exact rfl) (B:ev S x=some ⟨0,fc,n,q,p⟩:=by exact rfl) (C:a0q S xs.toList=some cs:=by exact rfl) (E:P7 P w0 fc cs r):AOp P w0 U0 nt ops o (gs++(rd x++rdl xs.toList)) [] S [(d,r)]:=b9b t u y z A B C E
theorem AWp.nil {c:Code} {Q:Exit->AS->Prop} (d:Nat) {l:List CV} (h5:Nat.blt d 100000=true) (hs:look s d=some (.val (.lst l))) (h1:l=[]->AWp P w0 U0 nt c Q ((d,⟨0,.lst [],1,0,[]⟩)::s)) (h2:AWp P w0 U0 nt c Q ((d,⟨16,.lst l,0,0,[]⟩)::s)):AWp P w0 U0 nt c Q s:=by
 intro M a w ⟨D,hv,h⟩;have h5:=bL h5;obtain ⟨v,g1,g2⟩:=h.slot d _ hs h5;have g2:VRep (Us w0 U0 D) w (.lst l) v:=g2.1;cases hn:H6 v with
 | false=>exact h2 M a w ⟨D,hv,h.know h5 g1 ⟨g2,hn⟩⟩
 | true =>
  have hv0:=b0w hn;subst hv0;obtain ⟨ao,n,cc,e1,e2,_⟩:=l5.1 g2;injection e1 with _ e3 _;have hl:l=[]:=eq_nil_of_length_eq_zero (by omega);subst hl;exact h1 rfl M a w ⟨D,hv,h.know h5 g1 ⟨g2,fun _=>⟨0,.lst [],rfl,rfl⟩⟩⟩
theorem c1r (d:Nat) {c:CV} (h5:Nat.blt d 100000=true) (hs:look s d=some ⟨16,c,0,0,[]⟩):Wk w0 U0 nt s ((d,.val c)::s):=by
 rintro a w ⟨D,hv,h⟩;have h5:=bL h5;obtain ⟨v,g1,g2⟩:=h.slot d _ hs h5;exact ⟨D,hv,h.know h5 g1 (n4 g2.1)⟩
theorem a6z {t e:TypeId} (hu:P.underlying t=some (.slice e)) (v:Value) (w:World) (hv:∃ ao n c,v = .slice ao n c/\(ao=none->n=0/\c=0)):(Op.equal t v (.slice none 0 0)).run P w = .ok (H6 v) w:=by
 obtain ⟨ao,n,c,rfl,h⟩:=hv;unfold Op.equal;rw [show Op.maxDepth=9999+1 from rfl,Op.equalIn];cases ao with
 | none=>obtain ⟨rfl,rfl⟩:=h rfl;simp [run_underlying hu,H6]
 | some ad=>simp [run_underlying hu,H6]
theorem b8Y (hg:Gd w0 U0 nt ops o gs S) (hd:o.dst=some d) (hn:Nat.blt d nt=true) (h5:Nat.blt d 100000=true) {x:Operand} {t1 t2 e:TypeId} {q} (ho:o.op = .binOp .eql t1 x (.const (.slice none 0 0)) t2) (hu:P.underlying t1=some (.slice e)) (hx:ev S x=some ⟨0,.lst [],1,q,[]⟩):AOp P w0 U0 nt ops o (gs++rd x) [] S [(d,.val (.b true))]:=
 j9 hg hd hn h5 (fun k hk=>mem_append_left _ hk) fun s hs a w D hv hm=>by
  obtain ⟨h1,h2⟩:VRep (Us w0 U0 D) w (.lst []) (a.eval x)/\Tk hv (a9 s) ⟨0,.lst [],1,q,[]⟩ (a.eval x).cells.toList:=l9 hm (fun k hk=>hs k (mem_append_right _ hk)) hx;have cV:a.eval x = .slice none 0 0:=by obtain ⟨m,c,g1,g2⟩:=h2 (.inl rfl);simp only at g1;rw [R6] at g1;cases g1;obtain ⟨ao,k,c,e1,_⟩:=l5.1 h1;rw [e1] at g2 |-;simpa [Value.cells,I2] using g2
  refine ⟨.bool true,?_,p6 rfl⟩;have hb:=a6z (P:=P) hu (.slice none 0 0) w ⟨none,0,0,rfl,fun _=>⟨rfl,rfl⟩⟩;have hc:a.eval (.const (.slice none 0 0)) = .slice none 0 0:=rfl;generalize a.eval=ρ at cV hc |-;simp [execOp,ho,cV,hc,eqGuard,binOp,hb,H6]
theorem zS {P:Program} {w0:World} {U0:UX} {nt:Nat} {ops:Array Oper} {o:Oper} {S:Nat->Option AV} {gs:List Nat} {d:Nat} {x:Operand} {t1:TypeId} {t2:TypeId} {e:TypeId} {q} (p:Gd w0 U0 nt ops o gs S:=by exact gN rfl) (r:o.dst=some d:=by exact rfl) (t:Nat.blt d nt=true:=by exact rfl) (u:Nat.blt d 100000=true:=by exact rfl) (v:o.op = .binOp .eql t1 x (.const (.slice none 0 0)) t2:=by exact rfl) (y:P.underlying t1=some (.slice e):=by exact rfl) (z:ev S x=some ⟨0,.lst [],1,q,[]⟩:=by exact rfl):AOp P w0 U0 nt ops o (gs++rd x) [] S [(d,.val (.b true))]:=b8Y p r t u v y z
theorem b5G (hg:Gd w0 U0 nt ops o gs S) (hd:o.dst=some d) (hn:Nat.blt d nt=true) (h5:Nat.blt d 100000=true) {x:Operand} {t1 t2 e:TypeId} {l:List CV} {n q p} (ho:o.op = .binOp .eql t1 x (.const (.slice none 0 0)) t2) (hu:P.underlying t1=some (.slice e)) (hx:ev S x=some ⟨16,.lst l,n,q,p⟩):AOp P w0 U0 nt ops o (gs++rd x) [] S [(d,.val (.b false))]:=
 j9 hg hd hn h5 (fun k hk=>mem_append_left _ hk) fun s hs a w D hv hm=>by obtain ⟨h1,h2⟩:VRep (Us w0 U0 D) w (.lst l) (a.eval x)/\H6 (a.eval x)=false:=l9 hm (fun k hk=>hs k (mem_append_right _ hk)) hx;obtain ⟨ao,k,c,e1,e2,e3,e4,e5,_⟩:=l5.1 h1;refine ⟨.bool false,?_,p6 rfl⟩;have hb:=a6z (P:=P) hu (a.eval x) w ⟨ao,k,c,e1,e5⟩;rw [h2] at hb;have hc:a.eval (.const (.slice none 0 0)) = .slice none 0 0:=rfl;generalize a.eval=ρ at hb hc |-;simp [execOp,ho,hc,eqGuard,binOp,hb]
theorem zT {P:Program} {w0:World} {U0:UX} {nt:Nat} {ops:Array Oper} {o:Oper} {S:Nat->Option AV} {gs:List Nat} {d:Nat} {x:Operand} {t1:TypeId} {t2:TypeId} {e:TypeId} {l:List CV} {n} {q} {p} (r:Gd w0 U0 nt ops o gs S:=by exact gN rfl) (t:o.dst=some d:=by exact rfl) (u:Nat.blt d nt=true:=by exact rfl) (v:Nat.blt d 100000=true:=by exact rfl) (y:o.op = .binOp .eql t1 x (.const (.slice none 0 0)) t2:=by exact rfl) (z:P.underlying t1=some (.slice e):=by exact rfl) (A:ev S x=some ⟨16,.lst l,n,q,p⟩:=by exact rfl):AOp P w0 U0 nt ops o (gs++rd x) [] S [(d,.val (.b false))]:=b5G r t u v y z A
theorem b8K (d n e z:Nat) (hs:look s d=some ⟨0,.lst [],1,0,[]⟩) (h5:Nat.blt d 100000=true) (hn:(Nat.ble 200000 n&&Nat.blt n 400000)=true) (hz:Nat.blt 0 z=true) (hr:y8 s [(n,[])]=true):Wk w0 U0 nt s ((d,.sl n 0 0 z)::(n,.mrow e z [])::s):=by
 rintro a w ⟨D,hv,h⟩;have h5:=bL h5;have kN:=rnB hn;have hz:=bL hz;have hr:=(q6 hr (n,[]) (by simp)).nr;obtain ⟨v,g1,g2⟩:=h.slot d _ hs h5;have hv0:v = .slice none 0 0:=by obtain ⟨h1,h2⟩:VRep (Us w0 U0 D) w (.lst []) v/\Tk hv (a9 s) ⟨0,.lst [],1,0,[]⟩ v.cells.toList:=g2;obtain ⟨m,c,f1,f2⟩:=h2 (.inl rfl);simp only at f1;rw [R6] at f1;cases f1;obtain ⟨ao,k,c,e1,_⟩:=l5.1 h1;rw [e1] at f2 |-;simpa [Value.cells,I2] using f2
 have hG:=h.newrow (X:=fun _=>False) (avn := .mrow e z []) (v' := .slice none 0 0) kN hr (by simp) (BelowX.refl _ _) (fun b hb=>hb.elim) (fun g hg=>by cases hg) (fun b o hd => .inl hd) h.dlt (fun b o u h1 h2=>⟨h1,h2⟩) (fun hv lv=>⟨[],World.ownsRow_nil _ _ _ _,hz,(fun c hc=>by cases hc),rfl⟩);refine ⟨D,_,hG.know h5 g1 ⟨RW.rn kN,?_⟩⟩;show SlV ((fun x=>if x=n then Value.slice none 0 0 else hv x) n) 0 0 z v;simp only [if_true];rw [hv0];exact I3 rfl (Nat.le_refl _) (.inl rfl)
end
section
variable {P:Program} {w0:World} {U0:UX} {nt:Nat} {ops:Array Oper} {o:Oper} {S:Nat->Option AV} {gs:List Nat} {d:Nat} {s:AS} {a:Act} {w:World} {D:Nat->Nat->Prop} {hv:Nat->Value}
def b9H (av:AV):Bool:=match Nat.beq av.t 0 with | true=>Nat.beq av.c.k 2 | false=>false
theorem a9F {U:Nat->Nat->Prop} {c:CV} {v:Value} (h:VRep U w c v) (hk:c.k≠2):v.cells = #[v]/\v.oneCell'=true:=by
 unfold VRep at h;rw [if_neg hk] at h;have h1:=h.one v (by simp);exact ⟨by cases v<;>first | rfl | simp [Value.oneCell'] at h1,h1⟩
def b3u (av:AV):Bool:=Nat.beq av.t 0||Nat.beq av.t 2||Nat.beq av.t 11||Nat.beq av.t 12||Nat.beq av.t 15
theorem a1Q {v:Value} (h:v.oneCell'=true):v.cells = #[v]:=by cases v<;>first | rfl | simp [Value.oneCell'] at h
theorem a8c {U:Nat->Nat->Prop} {lv:Nat->Prop} {av:AV} {v:Value} (h:AVRep U w hv lv av v) (hf:b3u av=true) (ht:av.t≠0):v.cells = #[v]/\v.oneCell'=true:=by
 unfold b3u at hf;simp only [Bool.or_eq_true] at hf;unfold AVRep at h;rw [if_neg ht] at h;rcases hf with (((hf | hf) | hf) | hf) | hf<;>have hf:=Nat.eq_of_beq_eq_true hf
 ·exact absurd hf ht
 ·rw [if_pos hf] at h;rw [h.2];exact ⟨rfl,rfl⟩
 ·rw [if_neg (by omega),if_neg (by omega),if_neg (by omega),if_pos hf] at h;rw [h.2];exact ⟨rfl,rfl⟩
 ·rw [if_neg (by omega),if_neg (by omega),if_neg (by omega),if_neg (by omega),if_pos hf] at h;obtain ⟨_,ao,m,cap,ao',_,e,_⟩:=h;rw [e];exact ⟨rfl,rfl⟩
 ·rw [if_neg (by omega),if_neg (by omega),if_neg (by omega),if_neg (by omega),if_neg (by omega),if_pos hf] at h;exact ⟨a1Q h.2.2,h.2.2⟩
theorem aLf (hg:Gd w0 U0 nt ops o gs S) (hd:o.dst=some d) (hn:Nat.blt d nt=true) (h5:Nat.blt d 100000=true) {x:Operand} {ty:TypeId} {ds:TypeDesc} {z n q:Nat} {p:List Nat} {k' v' l'} {av:AV} (ho:o.op = .load ty x) (hu:P.underlying ty=some ds) (hi:(P.info? ty).map (·.size)=some z) (hx:ev S x=some ⟨2,⟨k',v',l'⟩,n,q,p⟩) (hb:S (100000+n)=some .obj) (hf:S (f0 n q)=some av) (hq:Nat.blt q 100=true) (hz:av.sz=z) (hk:U5 ds=b9H av) (ht:b3u av=true):AOp P w0 U0 nt ops o (gs++(rd x++[100000+n,f0 n q])) [] S [(d,av)]:=
 j9 hg hd hn h5 (fun k hk=>mem_append_left _ hk) fun s hs a w D hv hm=>by
  obtain ⟨bJ,h1⟩:BN n/\a.eval x = .pointer (some ⟨p7 (hv (100000+n)),q,none⟩):=l9 hm (fun k hk=>hs k (mem_append_right _ (mem_append_left _ hk))) hx;obtain ⟨v,g1,g2,g3⟩:=hm.fld n q av ((hs (f0 n q) (by simp)).trans hf) (bL hq) ((hs (100000+n) (by simp)).trans hb) bJ;have kC:=C2 (P:=P) (w:=w) hi;refine ⟨v,?_,g1⟩;have hl:(loadVar ty ⟨p7 (hv (100000+n)),q,none⟩).run P w = .ok v w:=by
   cases oY:b9H av with
   | true =>
    rw [oY] at hk;unfold b9H at oY;split at oY
    ·rename_i cW;have cW:=Nat.eq_of_beq_eq_true cW;have gW:=Nat.eq_of_beq_eq_true oY;unfold AVRep at g1;rw [if_pos cW] at g1;have g4:=g1.1;unfold VRep at g4;rw [if_pos gW] at g4;obtain ⟨xs,rfl,g5⟩:=g4;have lK:xs.length=z:=by rw [<-hz,<-g2];simp [Value.cells]
     have:=run_loadCells_list (P:=P) w ⟨p7 (hv (100000+n)),q,none⟩ xs (fun j u hj=>by
      have gJ:j<xs.length:=by
       rcases Nat.lt_or_ge j xs.length with h | h
       ·exact h
       ·rw [getElem?_eq_none h] at hj;cases hj
      rw [V7,g3 j (by simpa [Value.cells] using gJ)];simpa [Value.cells] using hj)
     rw [lK] at this;simp [loadVar,a0a hu,hk,kC,this]
    ·cases oY
   | false =>
    rw [oY] at hk;have gB:v.cells = #[v]:=by
     by_cases cW:av.t=0
     ·unfold b9H at oY;rw [cW] at oY;have gW:av.c.k≠2:=fun e=>by rw [e] at oY;cases oY
      unfold AVRep at g1;rw [if_pos cW] at g1;exact (a9F g1.1 gW).1
     ·exact (a8c g1 ht cW).1
    have:=g3 0 (by rw [gB];simp);rw [gB] at this;simp only [Nat.add_zero] at this;simp [loadVar,a0a hu,hk,run_load,this]
  generalize a.eval=ρ at h1 |-;simp [execOp,ho,Instr.loadAt,Instr.sureAddr,h1,hl]
theorem z8 {P:Program} {w0:World} {U0:UX} {nt:Nat} {ops:Array Oper} {o:Oper} {S:Nat->Option AV} {gs:List Nat} {d:Nat} {x:Operand} {ty:TypeId} {ds:TypeDesc} {z:Nat} {n:Nat} {q:Nat} {p:List Nat} {k'} {v'} {l'} {av:AV} (r:Gd w0 U0 nt ops o gs S:=by exact gN rfl) (y:o.dst=some d:=by exact rfl) (A:Nat.blt d nt=true:=by exact rfl) (B:Nat.blt d 100000=true:=by exact rfl) (C:o.op = .load ty x:=by exact rfl) (E:P.underlying ty=some ds:=by exact rfl) (F:(P.info? ty).map (·.size)=some z:=by exact rfl) (G:ev S x=some ⟨2,⟨k',v',l'⟩,n,q,p⟩:=by exact rfl) (H:S (100000+n)=some .obj:=by exact rfl) (hf:S (f0 n q)=some av:=by exact rfl) (hq:Nat.blt q 100=true:=by exact rfl) (hz:av.sz=z:=by exact rfl) (hk:U5 ds=b9H av:=by exact rfl) (ht:b3u av=true:=by exact rfl):AOp P w0 U0 nt ops o (gs++(rd x++[100000+n,f0 n q])) [] S [(d,av)]:=aLf r y A B C E F G H hf hq hz hk ht
theorem SimG.storeF (h:SimG w0 U0 nt s a w D hv) {n q:Nat} (bJ:BN n) (bF:look s (100000+n)=some .obj) (hq:q<100) {av0 av:AV} (h0:look s (f0 n q)=some av0) (kC:av.sz=av0.sz) (hz0:0<av.sz) {v:Value} (bB:AVRep (Us w0 U0 D) w hv (a9 s) av v) (cX:v.cells.size=av.sz) :
  ∃ g ys zs us ty,p7 (hv (100000+n))=g/\w.heap[g]?=some (.cells (ys++zs++us).toArray ty (0,0))/\ys.length=q/\zs.length=av.sz/\SimG w0 U0 nt ((f0 n q,av)::s) a (w.setRow g (ys++v.cells.toList++us).toArray) D hv:=by
 obtain ⟨g,xs,ty,e1,e2,e3⟩:=h.obj9 bF bJ;have jG:hb (hv (100000+n))=some g:=by rw [e1];rfl
 obtain ⟨v0,f1,f2,f3⟩:=h.fld n q av0 h0 hq bF bJ;obtain ⟨pK,kA,hD⟩:=h.blk (100000+n) _ g bF (G3 bJ) (by simp) jG;have qM:∀ o,¬ D g o:=fun o=>hD o fun e=>by cases e
 have hqz:q+av.sz<=xs.size:=by have:=f3 (av.sz-1) (by rw [f2,<-kC];omega);rw [e2] at this;simp only [World.cell?,e3] at this;rw [Array.getElem?_eq_getElem (xs:=v0.cells) (by rw [f2,<-kC];omega)] at this;have h2:=(Array.getElem?_eq_some_iff.1 (by simpa using this)).1;omega
 obtain ⟨ys,eX⟩:∃ ys,ys=xs.toList.take q:=⟨_,rfl⟩
 obtain ⟨zs,bH⟩:∃ zs,zs=(xs.toList.drop q).take av.sz:=⟨_,rfl⟩
 obtain ⟨us,fV⟩:∃ us,us=(xs.toList.drop q).drop av.sz:=⟨_,rfl⟩
 have eV:xs.toList=ys++zs++us:=by rw [eX,bH,fV,append_assoc,take_append_drop,take_append_drop]
 have iW:ys.length=q:=by rw [eX];simp;omega
 have pV:zs.length=av.sz:=by rw [bH];simp;omega
 have dE:v.cells.toList.length=av.sz:=by simpa using cX
 have kS:w.heap[g]?=some (.cells (ys++zs++us).toArray ty (0,0)):=by rw [<-eV,Array.toArray_toList];exact e3
 refine ⟨g,ys,zs,us,ty,e2,kS,iW,pV,?_⟩;obtain ⟨w',eP⟩:∃ w',w'=w.setRow g (ys++v.cells.toList++us).toArray:=⟨_,rfl⟩
 rw [<-eP];have eA:∀ k,k≠g->w'.heap[k]?=w.heap[k]?:=fun k hk=>by rw [eP];exact setRow_other w g k _ hk
 have bU:w'.heap[g]?=some (.cells (ys++v.cells.toList++us).toArray ty (0,0)):=by rw [eP];exact setRow_heap w _ _ _ _ _ kS
 have kM:∀ b o u,Us w0 U0 D b o->w.cell? ⟨b,o,none⟩=some u->Us w0 U0 D b o/\w'.cell? ⟨b,o,none⟩=some u:=fun b o u hu hc=>by
  refine ⟨hu,?_⟩;rw [eP,cell_setRow_other]
  ·exact hc
  ·exact a2M hu pK (qM o)
 have fA:∀ i,i<q\/q+av.sz<=i->w'.cell? ⟨g,i,none⟩=w.cell? ⟨g,i,none⟩:=fun i hi=>by
  simp only [World.cell?,bU,kS];simp only [Option.isSome_none,Bool.false_eq_true,if_false,List.getElem?_toArray];rcases hi with hi | hi
  ·rw [append_assoc,append_assoc,getElem?_append_left (by omega),getElem?_append_left (by omega)]
  ·rw [getElem?_append_right (by simp only [length_append];omega),getElem?_append_right (by simp only [length_append];omega)];simp only [length_append,dE,pV]
 have cZ:∀ {m o:Nat},o<100->f0 m o=f0 n q->m=n/\o=q:=fun {m o} ho e=>by unfold f0 at e;omega
 have kB:∀ {k},k≠f0 n q->look ((f0 n q,av)::s) k=look s k:=fun {k} hk=>lN (Ne.symm hk);have hl:∀ m e,t7 ((f0 n q,av)::s) m e↔t7 s m e:=fun m e=>by
  unfold t7;constructor
  ·rintro ⟨g1,g2⟩;rw [kB (by unfold f0;omega)] at g1;exact ⟨g1,g2⟩
  ·rintro ⟨g1,g2⟩;exact ⟨by rw [kB (by unfold f0;omega)];exact g1,g2⟩
 have kL:a9 ((f0 n q,av)::s)=a9 s:=by funext k;simp only [a9,hl]
 have eH:w'.heap.size=w.heap.size:=by rw [eP,setRow_size]
 refine ⟨⟨?_,?_,?_,by rw [eH];exact h.below.size,fun k hk oR=>?_⟩,h.dfr,h.size,fun d av' g1 g2=>?_,fun m o av' g1 g2 g3 g4=>?_,fun m o o' av1 av2 g1 g2 g3 g4 g5=>?_,fun k av' g1 g2=>?_,fun k av' g' g1 g2 g3 g4=>?_,fun k k' av1 av2 g' g1 g2 g3 g4=>?_,h.fix,fun b o hd=>by rw [eH];exact h.dlt b o hd⟩
 ·rw [eP];exact h.below.os
 ·rw [eP];exact h.below.tape
 ·rw [eP];exact h.below.output
 ·rw [eA k]
  ·exact h.below.block k hk oR
  ·rintro rfl;rcases pK with h1 | h1
   ·omega
   ·exact oR h1.2
 ·rw [kB (by unfold f0;omega)] at g1;rw [kL];obtain ⟨u,g3,g4⟩:=h.slot d av' g1 g2;exact ⟨u,g3,g4.keep kM⟩
 ·rw [kB (by unfold f0 BN at *;omega)] at g3;rw [kL];by_cases e:f0 m o=f0 n q
  ·obtain ⟨rfl,rfl⟩:=cZ g2 e;rw [lS] at g1;cases g1;refine ⟨v,bB.keep kM,cX,fun i hi=>?_⟩;rw [e2];simp only [World.cell?,bU];simp only [Option.isSome_none,Bool.false_eq_true,if_false,List.getElem?_toArray];rw [append_assoc,getElem?_append_right (by omega),iW,show o+i-o=i by omega,getElem?_append_left (by omega)];simp
  ·rw [kB e] at g1;obtain ⟨u,k1,k2,k3⟩:=h.fld m o av' g1 g2 g3 g4;refine ⟨u,k1.keep kM,k2,fun i hi=>?_⟩;by_cases em:m=n
   ·subst em;have ho:o≠q:=fun e3=>e (by rw [e3]);rw [e2];have k4:=k3 i hi;rw [e2] at k4;rw [fA]
    ·exact k4
    ·rcases Nat.lt_or_ge o q with h3 | h3
     ·have:=h.fdis m o q av' av0 g1 h0 g2 hq h3;rw [k2] at hi;omega
     ·have:=h.fdis m q o av0 av' h0 g1 hq g2 (by omega);omega
   ·obtain ⟨g2',_,_,c1,c2,c3⟩:=h.obj9 g3 g4;have kE:g2'≠g:=fun e3=>h.disj (100000+n) (100000+m) _ _ g bF g3 (G3 bJ) (G3 g4) (by simp) (by simp) (by omega) jG (by rw [c1,e3];rfl);rw [c2];have k4:=k3 i hi;rw [c2] at k4;rw [World.cell?_of_block (w:=w) (eA g2' kE)];exact k4
 ·have conv:∀ {o:Nat} {aq:AV},o<100->look ((f0 n q,av)::s) (f0 m o)=some aq->∃ aq',look s (f0 m o)=some aq'/\aq'.sz=aq.sz:=fun {o aq} ho g6=>by
   by_cases e:f0 m o=f0 n q
   ·rw [e,lS] at g6;cases g6;exact ⟨av0,by rw [e];exact h0,kC.symm⟩
   ·rw [kB e] at g6;exact ⟨aq,g6,rfl⟩
  obtain ⟨b1,c1,c2⟩:=conv g3 g1
  obtain ⟨b2,c3,c4⟩:=conv g4 g2
  rw [<-c2];exact h.fdis m o o' b1 b2 c1 c3 g3 g4 g5
 ·have g2':=g2;unfold l8 at g2';rw [kB (by unfold f0;omega)] at g1;rw [kL];by_cases e:k=100000+n
  ·subst e;rw [bF] at g1;cases g1;exact ⟨g,_,ty,e1,bU⟩
  ·by_cases h7:av'.t=7
   ·exact a2L h7
   ·exact (h.obj k av' g1 g2).move kM (fun _ hx=>⟨hx,rfl⟩) fun g' dC=>eA g' fun e3=>h.disj (100000+n) k _ av' g bF g1 (G3 bJ) g2 (by simp) h7 (Ne.symm e) jG (e3▸dC)
 ·have g2':=g2;unfold l8 at g2';rw [kB (by unfold f0;omega)] at g1;rw [eH];exact h.blk k av' g' g1 g2 g3 g4
 ·have g3':=g3;have g4':=g4;unfold l8 at g3' g4';rw [kB (by unfold f0;omega)] at g1 g2;exact h.disj k k' av1 av2 g' g1 g2 g3 g4
theorem a8Q (hg:Gd w0 U0 nt ops o gs S) (hd:o.dst=none) {x y:Operand} {ty:TypeId} {z n q:Nat} {p:List Nat} {k' v' l'} {av0 av:AV} (ho:o.op = .store ty x y) (hi:(P.info? ty).map (·.size)=some z) (hx:ev S x=some ⟨2,⟨k',v',l'⟩,n,q,p⟩) (hb:S (100000+n)=some .obj) (hf:S (f0 n q)=some av0) (hy:ev S y=some av) (hq:Nat.blt q 100=true) (hz:av.sz=z) (hz0:av0.sz=z) (uX:Nat.blt 0 z=true) (ht:b3u av=true):AOp P w0 U0 nt ops o (gs++(rd x++(rd y++[100000+n,f0 n q]))) [] S [(f0 n q,av)]:=by
 intro s hs hN a w ⟨D,hv,h⟩ Q K hK;rw [if_pos (hg s (fun k hk=>hs k (mem_append_left _ hk)) a w D hv h)];obtain ⟨bJ,h1⟩:BN n/\a.eval x = .pointer (some ⟨p7 (hv (100000+n)),q,none⟩):=l9 h (fun k hk=>hs k (mem_append_right _ (mem_append_left _ hk))) hx;have h2:=l9 h (fun k hk=>hs k (mem_append_right _ (mem_append_right _ (mem_append_left _ hk)))) hy;have fN:(a.eval y).cells.size=av.sz/\∀ u∈(a.eval y).cells.toList,u.oneCell'=true:=by
  by_cases cW:av.t=0
  ·have h3:=h2;unfold AVRep at h3;rw [if_pos cW] at h3;refine ⟨?_,h3.1.cells.one⟩;have:=h3.1.cells.len;unfold AV.sz;rw [cW];simpa using this
  ·obtain ⟨g1,g2⟩:=a8c h2 ht cW;rw [g1];refine ⟨?_,by simpa using g2⟩;unfold AV.sz;rw [V9 cW];rfl
 obtain ⟨g,ys,zs,us,t,e1,e2,e3,e4,e5⟩:=h.storeF bJ ((hs (100000+n) (by simp)).trans hb) (bL hq) ((hs (f0 n q) (by simp)).trans hf) (hz.trans hz0.symm) (by rw [hz];exact bL uX) h2 fN.1;rw [e1] at h1;have eF:(a.eval y).cells.toList.length=av.sz:=by simpa using fN.1
 have kZ:=J0 (P:=P) hi e2 e3 (v:=a.eval y) rfl (by rw [eF,e4]) (by rw [eF,hz]) fN.2;have he:(execOp a.eval o).run P w = .ok .skip (w.setRow g (ys++(a.eval y).cells.toList++us).toArray):=by generalize a.eval=ρ at h1 kZ |-;simp [execOp,ho,Instr.storeAt,Instr.sureAddr,h1,kZ]
 unfold Oper.wp;rw [he,Oper.upon_skip,hd];exact hK _ _ ⟨_,_,e5⟩
theorem zbc {P:Program} {w0:World} {U0:UX} {nt:Nat} {ops:Array Oper} {o:Oper} {S:Nat->Option AV} {gs:List Nat} {x:Operand} {y:Operand} {ty:TypeId} {z:Nat} {n:Nat} {q:Nat} {p:List Nat} {k'} {v'} {l'} {av0:AV} {av:AV} (r:Gd w0 U0 nt ops o gs S:=by exact gN rfl) (A:o.dst=none:=by exact rfl) (B:o.op = .store ty x y:=by exact rfl) (C:(P.info? ty).map (·.size)=some z:=by exact rfl) (E:ev S x=some ⟨2,⟨k',v',l'⟩,n,q,p⟩:=by exact rfl) (F:S (100000+n)=some .obj:=by exact rfl) (G:S (f0 n q)=some av0:=by exact rfl) (H:ev S y=some av:=by exact rfl) (hq:Nat.blt q 100=true:=by exact rfl) (hz:av.sz=z:=by exact rfl) (hz0:av0.sz=z:=by exact rfl) (uX:Nat.blt 0 z=true:=by exact rfl) (ht:b3u av=true:=by exact rfl):AOp P w0 U0 nt ops o (gs++(rd x++(rd y++[100000+n,f0 n q]))) [] S [(f0 n q,av)]:=a8Q r A B C E F G H hq hz hz0 uX ht
theorem SimG.addF (h:SimG w0 U0 nt s a w D hv) {n q:Nat} (bJ:BN n) (bF:look s (100000+n)=some .obj) (hq:q<100) {av:AV} {v:Value} (bB:AVRep (Us w0 U0 D) w hv (a9 s) av v) (cX:v.cells.size=av.sz) (hc:∀ i,i<v.cells.size->w.cell? ⟨p7 (hv (100000+n)),q+i,none⟩=v.cells[i]?) (ho:∀ o av',look s (f0 n o)=some av'->o<100->q+av.sz<=o):SimG w0 U0 nt ((f0 n q,av)::s) a w D hv:=by
 have cZ:∀ {m o:Nat},o<100->f0 m o=f0 n q->m=n/\o=q:=fun {m o} ho e=>by unfold f0 at e;omega
 have kB:∀ {k},k≠f0 n q->look ((f0 n q,av)::s) k=look s k:=fun {k} hk=>lN (Ne.symm hk);have hl:∀ m e,t7 ((f0 n q,av)::s) m e↔t7 s m e:=fun m e=>by
  unfold t7;constructor
  ·rintro ⟨g1,g2⟩;rw [kB (by unfold f0;omega)] at g1;exact ⟨g1,g2⟩
  ·rintro ⟨g1,g2⟩;exact ⟨by rw [kB (by unfold f0;omega)];exact g1,g2⟩
 have kL:a9 ((f0 n q,av)::s)=a9 s:=by funext k;simp only [a9,hl]
 refine ⟨h.below,h.dfr,h.size,fun d av' g1 g2=>?_,fun m o av' g1 g2 g3 g4=>?_,fun m o o' av1 av2 g1 g2 g3 g4 g5=>?_,fun k av' g1 g2=>?_,fun k av' g' g1 g2 g3 g4=>?_,fun k k' av1 av2 g' g1 g2 g3 g4=>?_,h.fix,h.dlt⟩
 ·rw [kB (by unfold f0;omega)] at g1;rw [kL];exact h.slot d av' g1 g2
 ·rw [kB (by unfold f0 BN at *;omega)] at g3;rw [kL];by_cases e:f0 m o=f0 n q
  ·obtain ⟨rfl,rfl⟩:=cZ g2 e;rw [lS] at g1;cases g1;exact ⟨v,bB,cX,hc⟩
  ·rw [kB e] at g1;exact h.fld m o av' g1 g2 g3 g4
 ·by_cases e1:f0 m o=f0 n q
  ·obtain ⟨rfl,rfl⟩:=cZ g3 e1;rw [lS] at g1;cases g1;rw [kB (by unfold f0;omega)] at g2;exact ho o' av2 g2 g4
  ·rw [kB e1] at g1;by_cases e2:f0 m o'=f0 n q
   ·obtain ⟨rfl,rfl⟩:=cZ g4 e2;have:=ho o av1 g1 g3;omega
   ·rw [kB e2] at g2;exact h.fdis m o o' av1 av2 g1 g2 g3 g4 g5
 ·have g2':=g2;unfold l8 at g2';rw [kB (by unfold f0;omega)] at g1;rw [kL];exact h.obj k av' g1 g2
 ·have g2':=g2;unfold l8 at g2';rw [kB (by unfold f0;omega)] at g1;exact h.blk k av' g' g1 g2 g3 g4
 ·have g3':=g3;have g4':=g4;unfold l8 at g3' g4';rw [kB (by unfold f0;omega)] at g1 g2;exact h.disj k k' av1 av2 g' g1 g2 g3 g4
def b1Q (c:CV):AV:=⟨0,c,match a0l c with | true=>1 | false=>0,0,[]⟩
noncomputable def a0F (d:Nat):List CV->Nat->AS
 | [],_=>[]
 | c::cs,o=>(f0 d o,b1Q c)::a0F d cs (o+c.size)
theorem a0w {d:Nat}:∀ {cs:List CV} {o k:Nat} {av:AV},look (a0F d cs o) k=some av->∃ o',o<=o'/\k=f0 d o'
 | [],_,_,_,h=>by simp [a0F,look] at h
 | c::cs,o,k,av,h=>by
  rw [a0F,j8] at h;split at h
  ·rename_i e;exact ⟨o,Nat.le_refl _,e.symm⟩
  ·obtain ⟨o',h1,h2⟩:=a0w h;exact ⟨o',by omega,h2⟩
theorem X3 {U:Nat->Nat->Prop} {c:CV} {xs:List Value} (h:Rep U w c xs):∃ v,VRep U w c v/\v.cells.toList=xs:=by
 by_cases hk:c.k=2
 ·exact ⟨.agg xs.toArray,by unfold VRep;rw [if_pos hk];exact ⟨xs,rfl,h⟩,by simp [Value.cells]⟩
 ·have h1:c.size=1:=by cases c with | mk k v l=>rw [CV.size_mk,if_neg hk]
  have hl:=h.len;rw [h1] at hl
  match xs,hl with
  | [v],_ =>
   refine ⟨v,by unfold VRep;rw [if_neg hk];exact h,?_⟩;rw [a1Q (h.one v (by simp))]
theorem SimG.addFs (h:SimG w0 U0 nt s a w D hv) {n:Nat} (bJ:BN n) (bF:look s (100000+n)=some .obj) (gA:∀ o av,look s (f0 n o)=some av->o<100->False) {g:Nat} (iB:p7 (hv (100000+n))=g):∀ {cs:List CV} {segs:List (List Value)} {o:Nat},cs.length=segs.length->(∀ (i:Nat) (c:CV),cs[i]?=some c->∃ seg,segs[i]?=some seg/\Rep (Us w0 U0 D) w c seg/\(a0l c=true->seg=[.slice none 0 0]))->(∀ i,i<segs.flatten.length->w.cell? ⟨g,o+i,none⟩=segs.flatten[i]?)->(∀ c∈cs,0<c.size)->o+segs.flatten.length<=100->SimG w0 U0 nt (a0F n cs o++s) a w D hv
 | [],_,_,_,_,_,_,_=>h
 | c::cs,[],_,hl,_,_,_,_=>by simp at hl
 | c::cs,seg::segs,o,hl,hr,hc,hp,pX=>by
  obtain ⟨seg',e1,e2,e3⟩:=hr 0 c rfl;simp at e1;subst e1;have dH:=e2.len;have hcp:=hp c (by simp);rw [List.flatten_cons] at hc pX;rw [length_append] at pX;have ih:=h.addFs bJ bF gA iB (cs:=cs) (segs:=segs) (o:=o+c.size) (by simpa using hl) (fun i c' hi=>hr (i+1) c' (by simpa using hi)) (fun i hi=>by have:=hc (seg.length+i) (by rw [length_append];omega);rw [getElem?_append_right (by omega),show seg.length+i-seg.length=i by omega] at this;rw [<-this,dH,Nat.add_assoc]) (fun c' uY=>hp c' (mem_cons_of_mem _ uY)) (by omega)
  obtain ⟨v,g1,g2⟩:=X3 e2;have nR:∀ {k},100000<=k->k<500000->look (a0F n cs (o+c.size)++s) k=look s k:=fun {k} h1 h2=>by
   rw [b9];cases e:look (a0F n cs (o+c.size)) k with
   | none=>rfl
   | some av=>obtain ⟨o',_,rfl⟩:=a0w e;unfold f0 at h2;omega
  have fI:=G3 bJ;unfold l8 at fI;refine ih.addF bJ (by rw [nR fI.1 fI.2];exact bF) (by omega) (v:=v) ⟨g1,fun bX=>?_⟩ ?_ ?_ ?_
  ·refine ⟨0,c,R6 c,?_⟩;show v.cells.toList[0]?=some (I2 hv (b1Q c).n);unfold b1Q at bX |-;cases cV:a0l c with
   | true =>
    rw [g2,e3 cV];rfl
   | false=>rw [cV] at bX;exact absurd bX A3
  ·rw [<-Array.length_toList,g2,dH];rfl
  ·intro i hi;have gH:i<seg.length:=by rw [<-g2];simpa using hi
   have:=hc i (by rw [length_append];omega);rw [getElem?_append_left gH,<-g2,Array.getElem?_toList] at this;rw [iB];exact this
  ·intro o' av' h1 h2;rw [b9] at h1;cases e:look (a0F n cs (o+c.size)) (f0 n o') with
   | none=>rw [e] at h1;exact (gA o' av' h1 h2).elim
   | some av =>
    obtain ⟨o2,h3,h4⟩:=a0w e;unfold f0 at h4;show o+c.size<=o';omega
end
section
open Go.RowKit Go.MapKept
section
variable {P:Program} {w0:World} {U0:UX} {nt:Nat} {ops:Array Oper} {o:Oper} {S:Nat->Option AV} {gs:List Nat} {d:Nat} {s:AS} {a:Act} {w:World} {D:Nat->Nat->Prop} {hv:Nat->Value}
theorem SimG.upd (h:SimG w0 U0 nt s a w D hv) {k0:Nat} (h5:l8 k0) {av0 av:AV} (h0:look s k0=some av0) (cW:av0.t≠7) (mY:av0.t≠9) (ht:av.t=av0.t) (hnd:∀ g,NoD D av0 (hv k0) g->NoD D av (hv k0) g) (rE:av.t≠6) {g:Nat} (hg:hb (hv k0)=some g) {w':World} (hos:w'.os=w.os) (htp:w'.tape=w.tape) (hou:w'.output=w.output) (eH:w'.heap.size=w.heap.size) (eA:∀ k,k≠g->w'.heap[k]?=w.heap[k]?) (pI:(∀ b o v,Us w0 U0 D b o->w.cell? ⟨b,o,none⟩=some v->Us w0 U0 D b o/\w'.cell? ⟨b,o,none⟩=some v)->OC (Us w0 U0 D) w' hv (a9 s) av (hv k0)) :
  SimG w0 U0 nt ((k0,av)::s) a w' D hv:=by
 obtain ⟨gQ,iI,hD⟩:=h.blk k0 av0 g h0 h5 cW hg;have xO:=h5;unfold l8 at xO;have mZ:av0.t≠6:=by rw [<-ht];exact rE
 have qM:∀ o,¬ D g o:=fun o=>hD o fun e=>absurd e mZ;have rF:av ≠ .obj:=fun e=>mY (by rw [<-ht,e]);have uG:av0 ≠ .obj:=fun e=>mY (by rw [e]);have hl:∀ n e,t7 ((k0,av)::s) n e↔t7 s n e:=fun n e=>by
  unfold t7;by_cases e1:k0=n
  ·subst e1;rw [lS,h0];constructor
   ·rintro ⟨h1,_⟩;cases h1;exact absurd rfl rE
   ·rintro ⟨h1,_⟩;cases h1;exact absurd rfl mZ
  ·rw [lN e1]
 have kL:a9 ((k0,av)::s)=a9 s:=by funext k;simp only [a9,hl]
 have kM:∀ b o v,Us w0 U0 D b o->w.cell? ⟨b,o,none⟩=some v->Us w0 U0 D b o/\w'.cell? ⟨b,o,none⟩=some v:=fun b o v hu hc=>by refine ⟨hu,?_⟩;rw [World.cell?_of_block (w:=w) (eA b (a2M hu gQ (qM o)))];exact hc
 refine ⟨⟨hos.trans h.below.os,htp.trans h.below.tape,hou.trans h.below.output,by rw [eH];exact h.below.size,fun k hk oR=>?_⟩,h.dfr,h.size,fun d av' h1 h2=>?_,fun n o av' h1 h2 h3 dB=>?_,fun n o o' av1 av2 h1 h2=>?_,fun k av' h1 h2=>?_,fun k av' g' h1 h2 h3 h4=>?_,fun k k' av1 av2 g' h1 h2 h3 h4 h6 h7 kE=>?_,h.fix,fun b o hd=>?_⟩
 ·rw [eA k]
  ·exact h.below.block k hk oR
  ·rintro rfl;rcases gQ with h1 | h1
   ·omega
   ·exact oR h1.2
 ·rw [lN (by omega)] at h1;rw [kL];obtain ⟨v,h3,h4⟩:=h.slot d av' h1 h2;exact ⟨v,h3,h4.keep kM⟩
 ·rw [lN (by unfold f0;omega)] at h1;have kE:k0≠100000+n:=fun e=>by subst e;rw [lS] at h3;cases h3;exact rF rfl
  rw [lN kE] at h3;rw [kL];obtain ⟨v,h4,h6,h7⟩:=h.fld n o av' h1 h2 h3 dB;refine ⟨v,h4.keep kM,h6,fun i hi=>?_⟩;have lX:p7 (hv (100000+n))≠g:=by
   rintro e;obtain ⟨g2,ys,ty2,e1,e2,e3⟩:=h.obj9 h3 dB;have:hb (hv (100000+n))=some g:=by rw [e1];rw [e2] at e;rw [<-e];rfl
   exact h.disj k0 (100000+n) av0 _ g h0 h3 h5 (G3 dB) cW (by simp) kE hg this
  rw [World.cell?_of_block (w:=w) (eA _ lX)];exact h7 i hi
 ·rw [lN (by unfold f0;omega)] at h1 h2;exact h.fdis n o o' av1 av2 h1 h2
 ·rw [kL];by_cases e:k0=k
  ·subst e;rw [lS] at h1;cases h1;exact pI kM
  ·rw [lN e] at h1;by_cases h7:av'.t=7
   ·exact a2L h7
   ·exact (h.obj k av' h1 h2).move kM (fun _ hl=>⟨hl,rfl⟩) fun g' dC=>eA g' fun e2=>h.disj k0 k av0 av' g h0 h1 h5 h2 cW h7 e hg (e2▸dC)
 ·rw [eH];by_cases e:k0=k
  ·subst e;rw [lS] at h1;cases h1;obtain ⟨g1,g2,g3⟩:=h.blk k0 av0 g' h0 h5 cW h4;exact ⟨by rw [b7u ht];exact g1,g2,hnd g' g3⟩
  ·rw [lN e] at h1;exact h.blk k av' g' h1 h2 h3 h4
 ·have conv:∀ q (aq:AV),look ((k0,av)::s) q=some aq->aq.t≠7->∃ aq',look s q=some aq'/\aq'.t≠7:=fun q aq h8 h9=>by
   by_cases e:k0=q
   ·exact ⟨av0,by rw [<-e];exact h0,cW⟩
   ·rw [lN e] at h8;exact ⟨aq,h8,h9⟩
  obtain ⟨a1,b1,c1⟩:=conv k av1 h1 h6
  obtain ⟨a2,b2,c2⟩:=conv k' av2 h2 h7
  exact h.disj k k' a1 a2 g' b1 b2 h3 h4 c1 c2 kE
 ·rw [eH];exact h.dlt b o hd
theorem b9E (nn:Nat) (hg:Gd w0 U0 nt ops o gs S) (hd:o.dst=some d) (hn:Nat.blt d nt=true) (h5:Nat.blt d 100000=true) {t:TypeId} (ho:o.op = .makeMap t none) (bR:(Nat.ble 200000 nn&&Nat.blt nn 400000)=true):AOp P w0 U0 nt ops o gs [(nn,[])] S [(d,.mref nn),(nn,.mp [])]:=by
 intro s hs hN a w ⟨D,hv,h⟩ Q K hK;rw [if_pos (hg s hs a w D hv h)];have kN:=rnB bR;have he:(execOp a.eval o).run P w = .ok (.value (.map (some w.heap.size))) (w.alloc (.map #[] 0)):=by simp [execOp,ho,Instr.makeMap,run_newObj_alloc]
 unfold Oper.wp;rw [he,Oper.upon_value,hd];have hb':Below w.heap.size w (w.alloc (.map #[] 0)):=(Below.refl _ _).alloc (Nat.le_refl _) _;have hG:=h.newrow (X:=fun _=>False) (avn := .mp []) (v' := .map (some w.heap.size)) (D':=D) kN (hN (nn,[]) (by simp)).nr (by simp) ((BelowX.refl _ w).step hb') (fun b hb=>hb.elim) (fun g hg=>by have hg:some w.heap.size=some g:=hg;cases hg;refine ⟨.inr (Nat.le_refl _),by simp,fun o _ hd=>?_⟩;have:=h.dlt _ _ hd;omega) (fun b o hd => .inl hd) (fun b o hd=>Nat.lt_of_lt_of_le (h.dlt _ _ hd) hb'.size) (P5 h.dlt hb' fun _ _ h=>h) (fun hv lv=>⟨w.heap.size,#[],0,rfl,w7 _ _,rfl,by simp,by simp⟩)
 refine hK _ _ ⟨_,_,hG.put (bL hn) (bL h5) ⟨RW.rn kN,?_,rfl⟩⟩;simp
theorem zbq {P:Program} {w0:World} {U0:UX} {nt:Nat} {ops:Array Oper} {o:Oper} {S:Nat->Option AV} {gs:List Nat} {d:Nat} {t:TypeId} (nn:Nat) (p:Gd w0 U0 nt ops o gs S:=by exact gN rfl) (q:o.dst=some d:=by exact rfl) (r:Nat.blt d nt=true:=by exact rfl) (u:Nat.blt d 100000=true:=by exact rfl) (v:o.op = .makeMap t none:=by exact rfl) (x:(Nat.ble 200000 nn&&Nat.blt nn 400000)=true:=by exact rfl):AOp P w0 U0 nt ops o gs [(nn,[])] S [(d,.mref nn),(nn,.mp [])]:=b9E nn p q r u v x
theorem a7h {U:Nat->Nat->Prop}:∀ {l:List CV} {es:List MapEntry} {j:Nat} {c:CV},Ents U w l es->l[j]?=some c->∃ e,es[j]?=some e/\Ent U w c e
 | [],_,_,_,_,h=>by simp at h
 | x::l,es,0,c,⟨e,es',h1,h2,h3⟩,h=>by simp at h;subst h;exact ⟨e,by rw [h1];rfl,h2⟩
 | x::l,es,j+1,c,⟨e,es',h1,h2,h3⟩,h=>by
  obtain ⟨e',g1,g2⟩:=a7h h3 (j:=j) (c:=c) (by simpa using h);exact ⟨e',by rw [h1];simpa using g1,g2⟩
theorem a1j {U:Nat->Nat->Prop}:∀ {l:List CV} {es:List MapEntry},Ents U w l es->es.length=l.length
 | [],_,h=>by have h:_=[]:=h;rw [h];rfl
 | x::l,es,⟨e,es',h1,h2,h3⟩=>by rw [h1,length_cons,length_cons,a1j h3]
def y6 (k:IntKind) (l:List CV):Prop:=∀ r∈l,∃ i c,r = .row [.sc (.int k i),c]
def F4 (k:IntKind) (i:Int):List CV->Option CV
 | []=>none
 | ⟨_,_,[⟨_,.int k' j,_⟩,c]⟩::l=>if k'=k/\j=i then some c else F4 k i l
 | _::l=>F4 k i l
theorem Q7 {k:IntKind} {i j:Int} {c:CV} {l:List CV}:F4 k i (.row [.sc (.int k j),c]::l)=if j=i then some c else F4 k i l:=by
 rw [F4];simp
theorem L3 {U:Nat->Nat->Prop} {k:IntKind} {i:Int}:∀ {l:List CV} {es:List MapEntry} (n:Nat),Ents U w l es->y6 k l ->
  (Instr.findNow (.int k) (.int k i) es n=some none/\F4 k i l=none)\/∃ j e c,Instr.findNow (.int k) (.int k i) es n=some (some (n+j,e.val))/\es[j]?=some e/\l[j]?=some (.row [.sc (.int k i),c])/\VRep U w c e.val/\e.key = .int k i/\F4 k i l=some c
 | [],es,n,h,_=>by have h:es=[]:=h;subst h;exact .inl ⟨rfl,rfl⟩
 | r::l,es,n,⟨e,es',h1,⟨k1,c1,g2,g3,g4,g5⟩,h3⟩,hk=>by
  obtain ⟨j0,c0,e1⟩:=hk r (by simp);rw [e1] at g2;injection g2 with _ _ g6;injection g6 with g6 g7;injection g7 with g7 _;subst g7;have cF:e.key = .int k j0:=by rw [g4,<-g6]
  subst h1;rw [e1,Q7];by_cases hj:j0=i
  ·subst hj;right;refine ⟨0,e,c0,?_,rfl,rfl,g5,cF,by rw [if_pos rfl]⟩;simp [Instr.findNow,Instr.sameNow,cF]
  ·rw [if_neg hj];have hs:Instr.sameNow (.int k) (.int k i) e.key=some false:=by rw [cF];simp [Instr.sameNow];exact fun h=>hj h.symm
   rcases L3 (n+1) h3 (fun x hx=>hk x (mem_cons_of_mem _ hx)) with ⟨f1,f2⟩ | ⟨j,e',c,f1,f2,f3,f4,f5,f6⟩
   ·left;exact ⟨by simp [Instr.findNow,hs,f1],f2⟩
   ·right;refine ⟨j+1,e',c,?_,by simpa using f2,by simpa using f3,f4,f5,f6⟩;simp [Instr.findNow,hs,f1];omega
theorem b5C (hg:Gd w0 U0 nt ops o gs S) (hd:o.dst=some d) (hn:Nat.blt d nt=true) (h5:Nat.blt d 100000=true) {x y:Operand} {t kt et:TypeId} {k:IntKind} {i:Int} {n:Nat} {l:List CV} {zc:CV} {n' q' p'} (ho:o.op = .lookup t x y true) (hu:P.underlying t=some (.map kt et)) (fB:P.underlying kt=some (.int k)) (jB:V8 P et=some zc) (hx:ev S x=some (.mref n)) (hy:ev S y=some ⟨0,.sc (.int k i),n',q',p'⟩) (bQ:S n=some (.mp l)) (hik:y6 k l) (hzr:∀ U w v,Rep U w zc v.cells.toList->(∃ it,P.info? et=some it/\it.zero=some v)->VRep U w zc v):AOp P w0 U0 nt ops o (gs++(rd x++(rd y++[n]))) [] S [(d,.tup [(F4 k i l).getD zc,.b (F4 k i l).isSome])]:=
 j9 hg hd hn h5 (fun k hk=>mem_append_left _ hk) fun s hs a w D hv hm=>by
  obtain ⟨kN,h1,_⟩:RN n/\a.eval x=hv n/\(a.eval x).oneCell'=true:=l9 hm (fun k hk=>hs k (mem_append_right _ (mem_append_left _ hk))) hx;have e2:=v7 hm (fun k hk=>hs k (mem_append_right _ (mem_append_right _ (mem_append_left _ hk)))) hy;have kH:l8 n:=by unfold RN at kN;unfold l8;omega
  obtain ⟨g,es,clock,g1,g2,g3,g4,g5⟩:∃ g es clock,hv n = .map (some g)/\w.heap[g]?=some (.map es clock)/\Ents (Us w0 U0 D) w l es.toList/\(∀ e∈es,e.born<clock)/\(es.toList.map (fun e:MapEntry=>e.born)).Nodup:=hm.obj n _ ((hs n (by simp)).trans bQ) kH;obtain ⟨it,zv,i1,i2,i3⟩:=M7 jB;have dO:=run_checkKey (P:=P) (w:=w) fB (k := .int k i) rfl es.isEmpty 9999;have dX:=Go.MapKept.run_getObj_map (P:=P) g2;rcases L3 0 g3 hik (i:=i) with ⟨f1,f2⟩ | ⟨j,e,c,f1,f2,f3,f4,f5,f6⟩
  ·have cZ:=run_findKey (P:=P) (w:=w) fB f1;have sC:(zeroValue et).run P w = .ok zv w:=by simp [zeroValue,typeInfo,i1,i2]
   refine ⟨.tuple #[zv,.bool false],?_,?_⟩
   ·rw [g1] at h1;generalize a.eval=ρ at h1 e2 |-;simp [execOp,ho,Instr.lookup,run_underlying hu,h1,e2,dX,dO,cZ,sC]
   ·rw [f2];exact ⟨[zv,.bool false],rfl,zv,[.bool false],rfl,hzr _ _ zv (i3 _ _) ⟨it,i1,i2⟩,.bool false,[],rfl,n8.2 ⟨rfl,rfl⟩,rfl⟩
  ·have cZ:=run_findKey (P:=P) (w:=w) fB f1;refine ⟨.tuple #[e.val,.bool true],?_,?_⟩
   ·rw [g1] at h1;generalize a.eval=ρ at h1 e2 |-;simp [execOp,ho,Instr.lookup,run_underlying hu,h1,e2,dX,dO,cZ]
   ·rw [f6];exact ⟨[e.val,.bool true],rfl,e.val,[.bool true],rfl,f4,.bool true,[],rfl,n8.2 ⟨rfl,rfl⟩,rfl⟩
theorem aNc (hg:Gd w0 U0 nt ops o gs S) (hd:o.dst=some d) (hn:Nat.blt d nt=true) (h5:Nat.blt d 100000=true) {x:Operand} {n q:Nat} {p:List Nat} {c:CV} (ho:o.op = .nilCheck x) (hx:ev S x=some ⟨2,c,n,q,p⟩):AOp P w0 U0 nt ops o (gs++rd x) [] S [(d,⟨2,c,n,q,p⟩)]:=
 j9 hg hd hn h5 (fun k hk=>mem_append_left _ hk) fun s hs a w D hv hm=>by obtain ⟨bJ,h1⟩:BN n/\a.eval x = .pointer (some ⟨p7 (hv (100000+n)),q,none⟩):=l9 hm (fun k hk=>hs k (mem_append_right _ hk)) hx;refine ⟨.pointer (some ⟨p7 (hv (100000+n)),q,none⟩),?_,bJ,rfl⟩;generalize a.eval=ρ at h1 |-;simp [execOp,ho,h1]
theorem z7 {P:Program} {w0:World} {U0:UX} {nt:Nat} {ops:Array Oper} {o:Oper} {S:Nat->Option AV} {gs:List Nat} {d:Nat} {x:Operand} {n:Nat} {q:Nat} {p:List Nat} {c:CV} (r:Gd w0 U0 nt ops o gs S:=by exact gN rfl) (t:o.dst=some d:=by exact rfl) (u:Nat.blt d nt=true:=by exact rfl) (v:Nat.blt d 100000=true:=by exact rfl) (y:o.op = .nilCheck x:=by exact rfl) (z:ev S x=some ⟨2,c,n,q,p⟩:=by exact rfl):AOp P w0 U0 nt ops o (gs++rd x) [] S [(d,⟨2,c,n,q,p⟩)]:=aNc r t u v y z
def a2s (k:IntKind) (i:Int) (c:CV):List CV->List CV
 | []=>[.row [.sc (.int k i),c]]
 | r::l=>match r with
  | ⟨_,_,[⟨_,.int k' j,_⟩,_]⟩=>if k'=k/\j=i then .row [.sc (.int k i),c]::l else r::a2s k i c l
  | _=>r::a2s k i c l
theorem a4A {k:IntKind} {i j:Int} {c c':CV} {l:List CV}:a2s k i c (.row [.sc (.int k j),c']::l)=if j=i then .row [.sc (.int k i),c]::l else .row [.sc (.int k j),c']::a2s k i c l:=by
 rw [a2s];simp
theorem Z5 {k:IntKind} {i:Int} (c:CV):∀ {l:List CV},y6 k l->(F4 k i l=none->a2s k i c l=l++[.row [.sc (.int k i),c]])/\∀ j c',l[j]?=some (.row [.sc (.int k i),c'])->(∀ j' c'',j'<j->l[j']?≠some (.row [.sc (.int k i),c'']))->a2s k i c l=l.set j (.row [.sc (.int k i),c])
 | [],_=>⟨fun _=>rfl,fun j c' h=>by simp at h⟩
 | r::l,hk=>by
  obtain ⟨j0,c0,rfl⟩:=hk r (by simp);obtain ⟨ih1,ih2⟩:=Z5 c (l:=l) (fun x hx=>hk x (mem_cons_of_mem _ hx));rw [a4A,Q7];by_cases hj:j0=i
  ·subst hj;rw [if_pos rfl,if_pos rfl];refine ⟨(fun h=>by cases h),fun j c' h hf=>?_⟩;cases j with
   | zero=>rfl
   | succ j=>exact absurd rfl (hf 0 c0 (by omega))
  ·rw [if_neg hj,if_neg hj];refine ⟨fun h=>by rw [ih1 h];rfl,fun j c' h hf=>?_⟩;cases j with
   | zero =>
    simp at h;exact absurd h.1 hj
   | succ j =>
    rw [ih2 j c' (by simpa using h) fun j' c'' kA=>by have:=hf (j'+1) c'' (by omega);simpa using this];rfl
theorem a0v {U:Nat->Nat->Prop} {k:IntKind} {i:Int}:∀ {l:List CV} {es:List MapEntry} (n:Nat) {j:Nat} {v:Value},Ents U w l es->y6 k l->Instr.findNow (.int k) (.int k i) es n=some (some (n+j,v))->∀ j' c'',j'<j->l[j']?≠some (.row [.sc (.int k i),c''])
 | [],es,n,j,v,h,_,hf=>by have h:es=[]:=h;subst h;cases hf
 | r::l,es,n,j,v,⟨e,es',h1,⟨k1,c1,g2,g3,g4,g5⟩,h3⟩,hk,hf=>by
  obtain ⟨j0,c0,e1⟩:=hk r (by simp);rw [e1] at g2;injection g2 with _ _ g6;injection g6 with g6 g7;have cF:e.key = .int k j0:=by rw [g4,<-g6]
  subst h1;intro j' c'' kA hr;by_cases hj:j0=i
  ·subst hj;simp [Instr.findNow,Instr.sameNow,cF] at hf;omega
  ·have hs:Instr.sameNow (.int k) (.int k i) e.key=some false:=by rw [cF];simp [Instr.sameNow];exact fun h=>hj h.symm
   simp [Instr.findNow,hs] at hf;cases j' with
   | zero =>
    rw [e1] at hr;simp at hr;exact hj hr.1
   | succ j' =>
    obtain ⟨j2,rfl⟩:∃ j2,j=j2+1:=⟨j-1,by omega⟩
    exact a0v (n+1) (j:=j2) h3 (fun x hx=>hk x (mem_cons_of_mem _ hx)) (by rw [hf];congr 3;omega) j' c'' (by omega) (by simpa using hr)
theorem a4D {U:Nat->Nat->Prop} {r:CV} {e':MapEntry}:∀ {l:List CV} {es:List MapEntry} {j:Nat},Ents U w l es->Ent U w r e'->Ents U w (l.set j r) (es.set j e')
 | [],es,j,h,_=>by have h:es=[]:=h;subst h;exact rfl
 | x::l,es,0,⟨e,es',h1,h2,h3⟩,hr=>by rw [h1];exact ⟨e',es',rfl,hr,h3⟩
 | x::l,es,j+1,⟨e,es',h1,h2,h3⟩,hr=>by rw [h1];exact ⟨e,es'.set j e',rfl,h2,a4D h3 hr⟩
theorem a1P {U:Nat->Nat->Prop} {r:CV} {e':MapEntry}:∀ {l:List CV} {es:List MapEntry},Ents U w l es->Ent U w r e'->Ents U w (l++[r]) (es++[e'])
 | [],es,h,hr=>by have h:es=[]:=h;subst h;exact ⟨e',[],rfl,hr,rfl⟩
 | x::l,es,⟨e,es',h1,h2,h3⟩,hr=>by rw [h1];exact ⟨e,es'++[e'],rfl,h2,a1P h3 hr⟩
theorem b9o (hg:Gd w0 U0 nt ops o gs S) (hd:o.dst=none) {x y z:Operand} {t kt et:TypeId} {k:IntKind} {i:Int} {n:Nat} {l:List CV} {c:CV} {n' q' p' n2 q2 p2} (ho:o.op = .mapUpdate t x y z) (hu:P.underlying t=some (.map kt et)) (fB:P.underlying kt=some (.int k)) (hx:ev S x=some (.mref n)) (hy:ev S y=some ⟨0,.sc (.int k i),n',q',p'⟩) (hz:ev S z=some ⟨0,c,n2,q2,p2⟩) (bQ:S n=some (.mp l)) (hik:y6 k l):AOp P w0 U0 nt ops o (gs++(rd x++(rd y++(rd z++[n])))) [] S [(n,.mp (a2s k i c l))]:=by
 intro s hs hN a w ⟨D,hv,h⟩ Q K hK;rw [if_pos (hg s (fun k hk=>hs k (mem_append_left _ hk)) a w D hv h)];have hm:=(hs n (by simp)).trans bQ;obtain ⟨kN,h1,_⟩:RN n/\a.eval x=hv n/\(a.eval x).oneCell'=true:=l9 h (fun k hk=>hs k (mem_append_right _ (mem_append_left _ hk))) hx;have e2:=v7 h (fun k hk=>hs k (mem_append_right _ (mem_append_right _ (mem_append_left _ hk)))) hy;have e3:=y7 h (fun k hk=>hs k (mem_append_right _ (mem_append_right _ (mem_append_right _ (mem_append_left _ hk))))) hz;have kH:l8 n:=by unfold RN at kN;unfold l8;omega
 obtain ⟨g,es,clock,g1,g2,g3,g4,g5⟩:∃ g es clock,hv n = .map (some g)/\w.heap[g]?=some (.map es clock)/\Ents (Us w0 U0 D) w l es.toList/\(∀ e∈es,e.born<clock)/\(es.toList.map (fun e:MapEntry=>e.born)).Nodup:=h.obj n _ hm kH;have dO:=run_checkKey (P:=P) (w:=w) fB (k := .int k i) rfl false 9999;have dX:=Go.MapKept.run_getObj_map (P:=P) g2;obtain ⟨p1,p2'⟩:=Z5 (i:=i) c hik;have fin:∀ (es':Array MapEntry) (clock':Nat),(execOp a.eval o).run P w = .ok .skip { w with heap:=w.heap.setIfInBounds g (.map es' clock') }->Ents (Us w0 U0 D) w (a2s k i c l) es'.toList->(∀ e∈es',e.born<clock')->(es'.toList.map (fun e:MapEntry=>e.born)).Nodup->o.wp P a w K Q:=fun es' clock' he k1 k2 k3=>by obtain ⟨q1,q2⟩:=heap_set (o':=Obj.map es' clock') g2;unfold Oper.wp;rw [he,Oper.upon_skip,hd];refine hK _ _ ⟨_,_,h.upd (av := .mp (a2s k i c l)) (g:=g) kH hm (by simp) (by simp) rfl (fun g' hn o _=>hn o (by simp)) (by simp) (by rw [g1];rfl) rfl rfl rfl (by simp) q2 fun bC=>?_⟩;exact ⟨g,es',clock',g1,q1,k1.keep bC,k2,k3⟩
 rcases L3 0 g3 hik (i:=i) with ⟨f1,f2⟩ | ⟨j,e,c',f1,f2,f3,f4,f5,f6⟩
 ·have cZ:=run_findKey (P:=P) (w:=w) fB f1;refine fin (es.push { key := .int k i,val:=a.eval z,born:=clock }) (clock+1) ?_ ?_ ?_ ?_
  ·rw [g1] at h1;have nV:=run_setObj_map (P:=P) (Obj.map (es.push { key := .int k i,val:=a.eval z,born:=clock }) (clock+1)) g2;generalize a.eval=ρ at h1 e2 nV |-;simp [execOp,ho,Instr.mapUpdate,run_underlying hu,h1,e2,dX,dO,cZ,nV]
  ·rw [p1 f2,Array.toList_push];exact a1P g3 ⟨.sc (.int k i),c,rfl,rfl,rfl,e3⟩
  ·intro e he;rcases Array.mem_push.1 he with he | rfl
   ·have:=g4 e he;omega
   ·exact Nat.lt_succ_self _
  ·rw [Array.toList_push,map_append,List.nodup_append];refine ⟨g5,by simp,fun a1 h1 b1 h2=>?_⟩;simp at h1 h2;obtain ⟨e,he,rfl⟩:=h1;have:=g4 e he;omega
 ·have cZ:=run_findKey (P:=P) (w:=w) fB f1;rw [Nat.zero_add] at cZ;have gJ:j<es.size:=by have:=(List.getElem?_eq_some_iff.1 f2).1;simpa using this
  have uZ:es[j]?=some e:=by rw [<-Array.getElem?_toList];exact f2
  have pY:(es.modify j fun e=>{ e with key := .int k i,val:=a.eval z }).toList=es.toList.set j { e with key := .int k i,val:=a.eval z }:=by
   rw [Array.toList_modify];apply ext_getElem?;intro q;rw [List.getElem?_modify,List.getElem?_set];by_cases hq:j=q
   ·subst hq;have:es[j]=e:=(Array.getElem?_eq_some_iff.1 uZ).2;simp [gJ,this]
   ·simp [hq]
  have cJ:(es.modify j fun e=>{ e with key := .int k i,val:=a.eval z }).toList.map (fun e:MapEntry=>e.born)=es.toList.map (fun e:MapEntry=>e.born):=by
   rw [pY,List.map_set];apply ext_getElem?;intro q;rw [List.getElem?_set];by_cases hq:j=q
   ·subst hq;rw [if_pos rfl,if_pos (by simpa using gJ),List.getElem?_map,f2];rfl
   ·rw [if_neg hq]
  refine fin (es.modify j fun e=>{ e with key := .int k i,val:=a.eval z }) clock ?_ ?_ ?_ ?_
  ·rw [g1] at h1;have nV:=run_setObj_map (P:=P) (Obj.map (es.modify j fun e=>{ e with key := .int k i,val:=a.eval z }) clock) g2;have dD:(Instr.keyThatStays (.int k i) (.int k i)).run P w = .ok (.int k i) w:=by simp [Instr.keyThatStays,Instr.sameBits]
   generalize a.eval=ρ at h1 e2 nV |-;simp [execOp,ho,Instr.mapUpdate,run_underlying hu,h1,e2,dX,dO,cZ,uZ,f5,dD,nV]
  ·rw [pY,p2' j c' f3 (a0v 0 (j:=j) g3 hik f1)];exact a4D g3 ⟨.sc (.int k i),c,rfl,rfl,rfl,e3⟩
  ·intro e' he;have h6:e'.born∈(es.modify j fun e=>{ e with key := .int k i,val:=a.eval z }).toList.map (fun e:MapEntry=>e.born):=mem_map.2 ⟨e',Array.mem_toList_iff.2 he,rfl⟩;rw [cJ] at h6;obtain ⟨e4,h7,h8⟩:=mem_map.1 h6;rw [<-h8];exact g4 e4 (by simpa using h7)
  ·rw [cJ];exact g5
theorem zbg {P:Program} {w0:World} {U0:UX} {nt:Nat} {ops:Array Oper} {o:Oper} {S:Nat->Option AV} {gs:List Nat} {x:Operand} {y:Operand} {z:Operand} {t:TypeId} {kt:TypeId} {et:TypeId} {k:IntKind} {i:Int} {n:Nat} {l:List CV} {c:CV} {n'} {q'} {p'} {n2} {q2} {p2} (p:Gd w0 U0 nt ops o gs S:=by exact gN rfl) (r:o.dst=none:=by exact rfl) (u:o.op = .mapUpdate t x y z:=by exact rfl) (v:P.underlying t=some (.map kt et):=by exact rfl) (A:P.underlying kt=some (.int k):=by exact rfl) (B:ev S x=some (.mref n):=by exact rfl) (C:ev S y=some ⟨0,.sc (.int k i),n',q',p'⟩:=by exact rfl) (E:ev S z=some ⟨0,c,n2,q2,p2⟩:=by exact rfl) (F:S n=some (.mp l):=by exact rfl) (G:y6 k l):AOp P w0 U0 nt ops o (gs++(rd x++(rd y++(rd z++[n])))) [] S [(n,.mp (a2s k i c l))]:=b9o p r u v A B C E F G
end
end
section
variable {P:Program} {w0:World} {U0:UX} {nt:Nat} {ops:Array Oper} {o:Oper} {S:Nat->Option AV} {gs:List Nat} {d:Nat} {s:AS} {a:Act} {w:World} {D:Nat->Nat->Prop} {hv:Nat->Value}
theorem b4s {t k e:TypeId} (hu:P.underlying t=some (.map k e)) (w:World):(Op.equal t (.map none) (.map none)).run P w = .ok true w:=by
 unfold Op.equal;rw [show Op.maxDepth=9999+1 from rfl,Op.equalIn];simp [run_underlying hu]
theorem b6A {t ty e:TypeId} {z:Value} {size bytes:Nat} (ht:P.underlying t=some (.slice e)) (hi:(P.info? e).map (fun i=>(i.zero,i.size,i.bytes))=some (some z,size,bytes)) (bH:z.cells.size=size) (kC:0<size)
  {ao1:Option Addr} {n:Nat} {xs:List Value} {U:Nat->Nat->Prop} (vA:ao1=none->n=0) (kW:At U w ao1 xs) (eI:xs.length=n*size) {ao:Option Addr} {m c:Nat} {ys:List Value} (cV:ao=none->m=0) (hb:At U w ao ys) (hl:ys.length=m*size) (h1:∀ u∈ys,u.oneCell'=true) (hm:0<m) (oP:n+m<=maxLen) (gZ:(n+m)*bytes<=140737488355328) :
  ∃ v' w',Sem.run P (Builtin.append_ #[t,t] ty #[.slice ao1 n n,.slice ao m c]) w = .ok v' w'/\w'.ownsRow w.heap.size e size v' (n+m) (xs++ys)/\w.grownBy w' none:=by
 obtain ⟨i,bT,cO,cN,fD⟩:=info_parts hi;have bI:∀ {ad:Addr} {zs:List Value},At U w (some ad) zs->∀ j u,zs[j]?=some u->w.cell? (ad.add j)=some u:=fun {ad zs} hA j u hj=>by
  have gJ:j<zs.length:=by
   rcases Nat.lt_or_ge j zs.length with h | h
   ·exact h
   ·rw [getElem?_eq_none h] at hj;cases hj
  rcases hA with rfl | ⟨b,off,ha,hc⟩
  ·simp at gJ
  ·cases ha;rw [V7,(hc j gJ).2,hj]
 cases ao with
 | none=>have:=cV rfl;omega
 | some ad =>
  cases ao1 with
  | none =>
   have hn:=vA rfl;subst hn;have:xs=[]:=eq_nil_of_length_eq_zero (by simpa using eI);subst this;obtain ⟨v',w',hr,ho,hg,_⟩:=run_append_own (P:=P) w w.heap.size t ty e i z size bytes ht bT cO cN fD bH kC (.slice none 0 0) 0 [] (World.ownsRow_nil _ _ _ _) ad m c ys hl (bI hb) h1 oP gZ (Nat.le_refl _);exact ⟨v',w',hr,ho,hg⟩
  | some ad1=>exact run_append_arg_grows (P:=P) w t ty e i z size bytes ht bT cO cN fD bH kC ad1 n n xs eI (bI kW) ad m c ys hl (bI hb) (by omega) oP gZ
theorem b4E (z:List Value) (hz:0<z.length) (n:Nat):(madeCells z.toArray (n*z.length)).toList=(List.replicate n z).flatten:=by
 apply ext_getElem?;intro k;rw [M9 hz _ (fun v hv=>by rw [List.eq_of_mem_replicate hv])];have kD:(madeCells z.toArray (n*z.length)).toList.length=n*z.length:=by simp [size_madeCells]
 rcases Nat.lt_or_ge k (n*z.length) with h | h
 ·have hd:k / z.length<n:=by rw [Nat.div_lt_iff_lt_mul hz];exact h
  have hm:k % z.length<z.length:=Nat.mod_lt _ hz;rw [getElem?_replicate,if_pos hd];simp only [Option.bind_some];rw [List.getElem?_eq_getElem hm];simp [madeCells,h,hm]
 ·rw [getElem?_eq_none (by omega),getElem?_replicate,if_neg]
  ·rfl
  ·rw [Nat.not_lt,Nat.le_div_iff_mul_le hz];exact h
theorem c2G (nn:Nat) (hg:Gd w0 U0 nt ops o gs S) (hd:o.dst=some d) (hn:Nat.blt d nt=true) (h5:Nat.blt d 100000=true) {x y:Operand} {t e size bytes k:Nat} {z:Value} {zc:CV} {i1 i2:Int} {k1 k2:IntKind} {n1 q1 p1 n2 q2 p2} (ho:o.op = .makeSlice t x y) (ht:P.underlying t=some (.slice e)) (hi:(P.info? e).map (fun i=>(i.zero,i.size,i.bytes))=some (some z,size,bytes)) (jB:V8 P e=some zc) (bH:Nat.beq z.cells.size size=true) (rZ:zc.size=size) (kC:Nat.blt 0 size=true) (dL:Nat.ble bytes 1000=true)
  (hx:ev S x=some ⟨0,.sc (.int k1 i1),n1,q1,p1⟩) (hy:ev S y=some ⟨0,.sc (.int k2 i2),n2,q2,p2⟩) (bR:(Nat.ble 200000 nn&&Nat.blt nn 400000)=true) (h1:i1=(k:Int)) (h2:i2=(k:Int)) (dT:Nat.ble size 160=true) (bP:k<=100000) :
  AOp P w0 U0 nt ops o (gs++(rd x++rd y)) [(nn,[])] S [(d,.sl nn 0 k size),(nn,.mrow e size (List.replicate k zc))]:=by
 intro s hs hN a w ⟨D,hv,h⟩ Q K hK;rw [if_pos (hg s (fun k hk=>hs k (mem_append_left _ hk)) a w D hv h)];have e1:=v7 h (fun k hk=>hs k (mem_append_right _ (mem_append_left _ hk))) hx;have e2:=v7 h (fun k hk=>hs k (mem_append_right _ (mem_append_right _ hk))) hy;subst h1;subst h2;obtain ⟨i,bT,cO,cN,fD⟩:=info_parts hi;have kC:=bL kC;have dL:=Nat.le_of_ble_eq_true dL;have bH:=Nat.eq_of_beq_eq_true bH;have nA:bytes*k<=1000*100000:=Nat.mul_le_mul dL bP;have hk:k*size<=100000*160:=Nat.mul_le_mul bP (Nat.le_of_ble_eq_true dT);obtain ⟨w',r1,r2,r3⟩:=run_makeSlice_full (P:=P) (w:=w) w.heap.size t e i z size ht bT cO cN k1 k2 k (by omega) (by rw [fD];omega) (by unfold maxLen;omega) (Nat.le_refl _);have dR:=rnB bR;obtain ⟨it,z',f1,f2,f3⟩:=M7 jB;rw [bT] at f1;cases f1;rw [cO] at f2;cases f2;have hmf:(madeCells z.cells (k*size)).toList=(List.replicate k z.cells.toList).flatten:=by have:=b4E z.cells.toList (by simpa [bH] using kC) k;simpa [bH] using this
 rw [hmf] at r2;have bC:∀ b o u,Us w0 U0 D b o->w.cell? ⟨b,o,none⟩=some u->Us w0 U0 D b o/\w'.cell? ⟨b,o,none⟩=some u:=fun b o u hu hc=>by refine ⟨hu,?_⟩;have kA:b<w.heap.size:=World.block_lt_of_cell? w _ hc;rw [World.cell?_of_block (w:=w) (r3.block b kA (by simp))];exact hc
 have hG:=h.newrow (avn := .mrow e size (List.replicate k zc)) (v' := .slice (some ⟨w.heap.size,0,none⟩) k k) (D':=D) (X:=fun _=>False) (n:=nn) dR (hN (nn,[]) (by simp)).nr (by simp) ⟨r3.os,r3.tape,r3.output,r3.size,fun b hb hx=>r3.block b hb (by simp)⟩ (fun b hb=>hb.elim) (fun g hg=>by
   have hg:(Value.slice (some ⟨w.heap.size,0,none⟩) k k).ownBlock=some g:=hg;refine ⟨.inr (r2.lt g hg).1,(r2.lt g hg).2,fun o _ hd=>?_⟩;have:=(r2.lt g hg).1;have:=h.dlt _ _ hd;omega) (fun b o hd => .inl hd) (fun b o hd=>Nat.lt_of_lt_of_le (h.dlt _ _ hd) r3.size) bC (fun hv lv=>by
   refine ⟨(List.replicate k z.cells.toList).flatten,?_,kC,fun c hc=>?_,a7B (f3 _ _) k⟩
   ·show w'.ownsRow 0 e size _ (List.replicate k zc).length _;rw [List.length_replicate];exact r9 r2 (Nat.zero_le _)
   ·rw [List.eq_of_mem_replicate hc];exact rZ)
 have he:(execOp a.eval o).run P w = .ok (.value (.slice (some ⟨w.heap.size,0,none⟩) k k)) w':=by generalize a.eval=ρ at e1 e2 |-;simp [execOp,ho,e1,e2,r1]
 unfold Oper.wp;rw [he,Oper.upon_value,hd];refine hK _ _ ⟨_,_,hG.put (bL hn) (bL h5) ⟨RW.rn dR,?_⟩⟩;show SlV ((fun x=>if x=nn then Value.slice (some ⟨w.heap.size,0,none⟩) k k else hv x) nn) 0 k size _;simp only [if_true];exact I3 rfl (Nat.le_refl _) (.inr ⟨_,rfl⟩)
theorem zbj {P:Program} {w0:World} {U0:UX} {nt:Nat} {ops:Array Oper} {o:Oper} {S:Nat->Option AV} {gs:List Nat} {d:Nat} {x:Operand} {y:Operand} {t:Nat} {e:Nat} {size:Nat} {bytes:Nat} {k:Nat} {z:Value} {zc:CV} {i1:Int} {i2:Int} {k1:IntKind} {k2:IntKind} {n1} {q1} {p1} {n2} {q2} {p2} (nn:Nat) (p:Gd w0 U0 nt ops o gs S:=by exact gN rfl) (q:o.dst=some d:=by exact rfl) (r:Nat.blt d nt=true:=by exact rfl) (v:Nat.blt d 100000=true:=by exact rfl) (A:o.op = .makeSlice t x y:=by exact rfl) (B:P.underlying t=some (.slice e):=by exact rfl) (C:(P.info? e).map (fun i=>(i.zero,i.size,i.bytes))=some (some z,size,bytes):=by exact rfl) (E:V8 P e=some zc:=by exact rfl) (F:Nat.beq z.cells.size size=true:=by exact rfl) (G:zc.size=size:=by exact rfl) (H:Nat.blt 0 size=true:=by exact rfl) (dL:Nat.ble bytes 1000=true:=by exact rfl) (hx:ev S x=some ⟨0,.sc (.int k1 i1),n1,q1,p1⟩:=by exact rfl) (hy:ev S y=some ⟨0,.sc (.int k2 i2),n2,q2,p2⟩:=by exact rfl) (bR:(Nat.ble 200000 nn&&Nat.blt nn 400000)=true:=by exact rfl) (h1:i1=(k:Int):=by first | rfl | omega | (simp only [length_set,length_map,length_append,length_cons,length_nil]<;>omega) | (simp<;>omega)) (h2:i2=(k:Int):=by first | rfl | omega | (simp only [length_set,length_map,length_append,length_cons,length_nil]<;>omega) | (simp<;>omega)) (dT:Nat.ble size 160=true:=by exact rfl) (bP:k<=100000:=by first | rfl | omega | (simp only [length_set,length_map,length_append,length_cons,length_nil]<;>omega) | (simp<;>omega)):AOp P w0 U0 nt ops o (gs++(rd x++rd y)) [(nn,[])] S [(d,.sl nn 0 k size),(nn,.mrow e size (List.replicate k zc))]:=c2G nn p q r v A B C E F G H dL hx hy bR h1 h2 dT bP
end
section
variable {P:Program} {w0:World} {U0:UX} {nt:Nat} {ops:Array Oper} {o:Oper} {S:Nat->Option AV} {gs:List Nat} {d:Nat} {s:AS} {a:Act} {w:World} {D:Nat->Nat->Prop} {hv:Nat->Value}
theorem b5m (sz:List Nat) (hg:Gd w0 U0 nt ops o gs S) (hd:o.dst=some d) (hn:Nat.blt d nt=true) (h5:Nat.blt d 100000=true) {ty:TypeId} {it:TypeInfo} {cs:Array Value} {zs:List CV} (ho:o.op = .alloc ty) (hi:P.info? ty=some it) (hz:it.zero=some (.agg cs)) (h0:zsO sz cs.toList=some zs):AOp P w0 U0 nt ops o gs [(d,[])] S [(d,.bp d 0 []),(100000+d,.bx (.row zs))]:=by
 intro s hs hN a w ⟨D,hv,h⟩ Q K hK;rw [if_pos (hg s hs a w D hv h)];obtain ⟨segs,e1,e2,e3,e4,e5⟩:=H8 (U:=Us w0 U0 D) (w:=w) h0;have gG:Rep (Us w0 U0 D) w (.row zs) cs.toList:=by rw [I4,<-e1];exact I5 e4 (fun i c hi=>by obtain ⟨seg,f1,f2,_⟩:=e5 i c hi;exact ⟨seg,f1,f2⟩)
 have he:(execOp a.eval o).run P w = .ok (.value (.pointer (some ⟨w.heap.size,0,none⟩))) (w.alloc (.cells cs ty)):=by simp [execOp,ho,Instr.alloc,zeroValue,typeInfo,hi,hz,B8,Value.cells]
 unfold Oper.wp;rw [he,Oper.upon_value,hd];have:=h.newbox (d:=d) (av := .bx (.row zs)) (hN (d,[]) (by simp)).nr (bL hn) (bL h5) (.inl rfl) ty (fun _=>gG) (fun _ hl=>absurd hl A3);rw [Array.toArray_toList] at this;exact hK _ _ ⟨_,_,this⟩
theorem zbd {P:Program} {w0:World} {U0:UX} {nt:Nat} {ops:Array Oper} {o:Oper} {S:Nat->Option AV} {gs:List Nat} {d:Nat} {ty:TypeId} {it:TypeInfo} {cs:Array Value} {zs:List CV} (sz:List Nat) (p:Gd w0 U0 nt ops o gs S:=by exact gN rfl) (q:o.dst=some d:=by exact rfl) (r:Nat.blt d nt=true:=by exact rfl) (t:Nat.blt d 100000=true:=by exact rfl) (u:o.op = .alloc ty:=by exact rfl) (v:P.info? ty=some it:=by exact rfl) (x:it.zero=some (.agg cs):=by exact rfl) (y:zsO sz cs.toList=some zs:=by exact rfl):AOp P w0 U0 nt ops o gs [(d,[])] S [(d,.bp d 0 []),(100000+d,.bx (.row zs))]:=b5m sz p q r t u v x y
theorem b6Z (sz:List Nat) (hg:Gd w0 U0 nt ops o gs S) (hd:o.dst=some d) (hn:Nat.blt d nt=true) (h5:Nat.blt d 100000=true) {t e:TypeId} {m z:Nat} {parts:Array (Nat×Operand)} {it ie:TypeInfo} {cs:Array Value} {zs r:List CV} (ho:o.op = .build t parts) (hu:P.underlying t=some (.array m e)) (hi:P.info? t=some it) (hie:P.info? e=some ie) (hz:it.zero=some (.agg cs)) (hez:ie.size=z) (kC:sz=List.replicate m z) (h0:zsO sz cs.toList=some zs) (hr:V5 S parts.toList zs=some r) :
  AOp P w0 U0 nt ops o (gs++rds parts.toList) [] S [(d,.val (.row r))]:=
 j9 hg hd hn h5 (fun k hk=>mem_append_left _ hk) fun s hs a w D hv hm=>by
  obtain ⟨segs,e1,e2,e3,e4,e5⟩:=H8 (U:=Us w0 U0 D) (w:=w) h0;have kD:segs.map List.length=zs.map CV.size:=by rw [e2,e3]
  obtain ⟨g1,g2⟩:=T5 (U:=Us w0 U0 D) (w:=w) (ρ:=a.eval) (segs:=segs) hr (fun x hx c n q p rC=>y7 hm (fun k hk=>hs k (mem_append_right _ (a3V hx k hk))) rC) e4 kD (fun i c hi=>by obtain ⟨seg,f1,f2,_⟩:=e5 i c hi;exact ⟨seg,f1,f2⟩);have iH:=Y5 (place:=fun i=>some (i*ie.size,ie.size)) sz (fun i z' jC=>by
   rw [kC,getElem?_replicate] at jC;split at jC
   ·rename_i tM;cases jC;rw [kC,List.take_replicate,List.sum_replicate_nat,hez,Nat.min_eq_left (Nat.le_of_lt tM)]
   ·cases jC) (parts.toList.map fun x=>(x.1,a.eval x.2)) segs cs e1.symm e2 (fun x hx=>by rw [<-e3];exact g1 x hx)
  refine ⟨.agg (F9 segs (parts.toList.map fun x=>(x.1,a.eval x.2))).flatten.toArray,?_,n4 (E8.2 ⟨_,rfl,g2⟩)⟩;have hb:P.built t (parts.map fun x=>(x.1,a.eval x.2)).toList=some (F9 segs (parts.toList.map fun x=>(x.1,a.eval x.2))).flatten.toArray:=by unfold Program.built;rw [hi,hu];simp only [hz,hie];rw [Array.toList_map];exact iH
  have:=run_build w t _ _ hb;generalize a.eval=ρ at this |-;simp [execOp,ho,this]
theorem zba {P:Program} {w0:World} {U0:UX} {nt:Nat} {ops:Array Oper} {o:Oper} {S:Nat->Option AV} {gs:List Nat} {d:Nat} {t:TypeId} {e:TypeId} {m:Nat} {z:Nat} {parts:Array (Nat×Operand)} {it:TypeInfo} {ie:TypeInfo} {cs:Array Value} {zs:List CV} {r:List CV} (sz:List Nat) (u:Gd w0 U0 nt ops o gs S:=by exact gN rfl) (v:o.dst=some d:=by exact rfl) (y:Nat.blt d nt=true:=by exact rfl) (A:Nat.blt d 100000=true:=by exact rfl) (B:o.op = .build t parts:=by exact rfl) (C:P.underlying t=some (.array m e):=by exact rfl) (E:P.info? t=some it:=by exact rfl) (F:P.info? e=some ie:=by exact rfl) (G:it.zero=some (.agg cs):=by exact rfl) (H:ie.size=z:=by exact rfl) (kC:sz=List.replicate m z:=by exact rfl) (h0:zsO sz cs.toList=some zs:=by exact rfl) (hr:V5 S parts.toList zs=some r:=by exact rfl):AOp P w0 U0 nt ops o (gs++rds parts.toList) [] S [(d,.val (.row r))]:=b6Z sz u v y A B C E F G H kC h0 hr
theorem c1d (j:Nat) (hg:Gd w0 U0 nt ops o gs S) (hd:o.dst=some d) (hn:Nat.blt d nt=true) (h5:Nat.blt d 100000=true) {x y:Operand} {ty e:TypeId} {m z n q:Nat} {p:List Nat} {k' v' l'} {i:Int} {kd:IntKind} {n2 q2 p2} (ho:o.op = .indexAddr ty x y) (hu:P.underlying ty=some (.array m e)) (hz:(P.info? e).map (·.size)=some z) (hx:ev S x=some ⟨2,⟨k',v',l'⟩,n,q,p⟩) (hy:ev S y=some ⟨0,.sc (.int kd i),n2,q2,p2⟩) (hi:i=(j:Int)) (hj:Nat.blt j m=true):AOp P w0 U0 nt ops o (gs++(rd x++rd y)) [] S [(d,.bp n (q+j*z) (p++[j]))]:=
 j9 hg hd hn h5 (fun k hk=>mem_append_left _ hk) fun s hs a w D hv hm=>by obtain ⟨bJ,h1⟩:BN n/\a.eval x = .pointer (some ⟨p7 (hv (100000+n)),q,none⟩):=l9 hm (fun k hk=>hs k (mem_append_right _ (mem_append_left _ hk))) hx;have e2:=v7 hm (fun k hk=>hs k (mem_append_right _ (mem_append_right _ hk))) hy;have kC:=C2 (P:=P) (w:=w) hz;have hj:=bL hj;subst hi;refine ⟨.pointer (some ⟨p7 (hv (100000+n)),q+j*z,none⟩),?_,bJ,rfl⟩;have bM:=V7 (p7 (hv (100000+n))) q (j*z);generalize a.eval=ρ at h1 e2 |-;simp [execOp,ho,Instr.indexAt,asIntOf,run_underlying hu,Instr.sureAddr,h1,e2,hj,kC,bM]
theorem zbe {P:Program} {w0:World} {U0:UX} {nt:Nat} {ops:Array Oper} {o:Oper} {S:Nat->Option AV} {gs:List Nat} {d:Nat} {x:Operand} {y:Operand} {ty:TypeId} {e:TypeId} {m:Nat} {z:Nat} {n:Nat} {q:Nat} {p:List Nat} {k'} {v'} {l'} {i:Int} {kd:IntKind} {n2} {q2} {p2} (j:Nat) (r:Gd w0 U0 nt ops o gs S:=by exact gN rfl) (t:o.dst=some d:=by exact rfl) (u:Nat.blt d nt=true:=by exact rfl) (v:Nat.blt d 100000=true:=by exact rfl) (A:o.op = .indexAddr ty x y:=by exact rfl) (B:P.underlying ty=some (.array m e):=by exact rfl) (C:(P.info? e).map (·.size)=some z:=by exact rfl) (E:ev S x=some ⟨2,⟨k',v',l'⟩,n,q,p⟩:=by exact rfl) (F:ev S y=some ⟨0,.sc (.int kd i),n2,q2,p2⟩:=by exact rfl) (G:i=(j:Int):=by exact rfl) (H:Nat.blt j m=true:=by exact rfl):AOp P w0 U0 nt ops o (gs++(rd x++rd y)) [] S [(d,.bp n (q+j*z) (p++[j]))]:=c1d j r t u v A B C E F G H
theorem b4i (hg:Gd w0 U0 nt ops o gs S) (hd:o.dst=some d) (hn:Nat.blt d nt=true) (h5:Nat.blt d 100000=true) {x y:Operand} {t kt et:TypeId} {k k2:IntKind} {i z2:Int} {n:Nat} {l:List CV} {n' q' p'} (ho:o.op = .lookup t x y true) (hu:P.underlying t=some (.map kt et)) (fB:P.underlying kt=some (.int k)) (dY:(P.info? et).map (·.zero)=some (some (.int k2 z2))) (jB:V8 P et=some (.sc (.int k2 z2))) (hx:ev S x=some (.mref n)) (hy:ev S y=some ⟨0,.sc (.int k i),n',q',p'⟩) (bQ:S n=some (.mp l)) (hik:y6 k l):AOp P w0 U0 nt ops o (gs++(rd x++(rd y++[n]))) [] S [(d,.tup [(F4 k i l).getD (.sc (.int k2 z2)),.b (F4 k i l).isSome])]:=
 b5C hg hd hn h5 ho hu fB jB hx hy bQ hik fun U w v _ hh=>by obtain ⟨it,h1,h2⟩:=hh;rw [h1,Option.map_some,h2] at dY;injection dY with dY;injection dY with dY;rw [dY];exact n8.2 ⟨rfl,rfl⟩
theorem zbf {P:Program} {w0:World} {U0:UX} {nt:Nat} {ops:Array Oper} {o:Oper} {S:Nat->Option AV} {gs:List Nat} {d:Nat} {x:Operand} {y:Operand} {t:TypeId} {kt:TypeId} {et:TypeId} {k:IntKind} {k2:IntKind} {i:Int} {z2:Int} {n:Nat} {l:List CV} {n'} {q'} {p'} (p:Gd w0 U0 nt ops o gs S:=by exact gN rfl) (q:o.dst=some d:=by exact rfl) (r:Nat.blt d nt=true:=by exact rfl) (u:Nat.blt d 100000=true:=by exact rfl) (z:o.op = .lookup t x y true:=by exact rfl) (A:P.underlying t=some (.map kt et):=by exact rfl) (B:P.underlying kt=some (.int k):=by exact rfl) (C:(P.info? et).map (·.zero)=some (some (.int k2 z2)):=by exact rfl) (E:V8 P et=some (.sc (.int k2 z2)):=by exact rfl) (F:ev S x=some (.mref n):=by exact rfl) (G:ev S y=some ⟨0,.sc (.int k i),n',q',p'⟩:=by exact rfl) (H:S n=some (.mp l):=by exact rfl) (hik:y6 k l):AOp P w0 U0 nt ops o (gs++(rd x++(rd y++[n]))) [] S [(d,.tup [(F4 k i l).getD (.sc (.int k2 z2)),.b (F4 k i l).isSome])]:=b4i p q r u z A B C E F G H hik
def b7e (s:AS) (n:Nat):Bool:=s.all fun p=>!((Nat.beq p.2.t 15||Nat.beq p.2.t 19)&&Nat.beq p.2.n n)
theorem c1n (n k:Nat) {e z:Nat} {l:List CV} (hm:look s n=some (.mrow e z l)) (hn:(Nat.ble 200000 n&&Nat.blt n 400000)=true) (kF:k<=l.length) (hr:b7e s n=true):Wk w0 U0 nt s ((n,.mrow e z (l.take k))::s):=by
 rintro a w ⟨D,hv,h⟩;have kN:=rnB hn;have hrn1:RN n:=RW.rn kN;obtain ⟨xs,f1,f2,f3,f4⟩:=h.mrow hm hrn1;obtain ⟨ao,cap,e1,e2,e3⟩:=L2 f1;obtain ⟨kG,gK⟩:∃ kG:Nat->Value,kG=fun x=>if x=n then .slice ao k cap else hv x:=⟨_,rfl⟩
 have kR:∀ x,x≠n->kG x=hv x:=fun x hx=>by rw [gK];simp only [if_neg hx]
 have bK:kG n = .slice ao k cap:=by rw [gK];simp
 have eR:∀ x,hb (kG x)=hb (hv x):=fun x=>by
  by_cases hx:x=n
  ·subst hx;rw [bK,e1];cases ao<;>rfl
  ·rw [kR x hx]
 have fI:∀ x,p7 (kG x)=p7 (hv x):=fun x=>by unfold p7;rw [eR]
 have kB:∀ {k'},k'≠n->look ((n,AV.mrow e z (l.take k))::s) k'=look s k':=fun {k'} h1=>lN (Ne.symm h1);have hl:∀ q f,t7 ((n,AV.mrow e z (l.take k))::s) q f↔t7 s q f:=fun q f=>by
  unfold t7;by_cases e4:q=n
  ·subst e4;rw [lS,hm];constructor<;>(rintro ⟨h1,_⟩;cases h1)
  ·rw [kB e4]
 have kL:a9 ((n,AV.mrow e z (l.take k))::s)=a9 s:=by funext q;simp only [a9,hl]
 have sD:¬ a9 s n:=by
  rintro (h1 | ⟨f,h1⟩)
  ·omega
  ·rw [h1.1] at hm;cases hm
 have gG:∀ {k' av v},look s k'=some av->AVRep (Us w0 U0 D) w hv (a9 s) av v->AVRep (Us w0 U0 D) w kG (a9 s) av v:=fun {k' av v} g1 g2=>by
  by_cases hc:hk av=n/\(av.t=11\/av.t=12\/av.t=15\/av.t=19)
  ·obtain ⟨c1,c2⟩:=hc;have ht2:av.t≠2:=by omega
   rw [K5.2 ht2] at c1;unfold AVRep at g2 |-;rw [if_neg (by omega),if_neg (by omega),if_neg (by omega),if_neg (by omega)] at g2 |-;rcases c2 with c2 | c2 | c2 | c2
   ·rw [if_pos c2] at g2 |-;rw [fI];exact g2
   ·rw [if_neg (by omega),if_pos c2] at g2 |-;obtain ⟨r1,a0,m,cp,a1,b1,b2,b3⟩:=g2;rw [c1,e1] at b1;injection b1 with i1 i2 i3;subst i1;subst i3;exact ⟨r1,ao,k,cap,a1,by rw [c1];exact bK,b2,b3⟩
   all_goals
    unfold b7e at hr;rw [all_eq_true] at hr;have:=hr _ (C7 g1);simp only [c2,c1,Nat.beq_refl] at this;cases this
  ·refine g2.move (fun _ _ _ h1 h2=>⟨h1,h2⟩) (fun _ h1=>h1) fun hR=>?_;by_cases e4:hk av=n
   ·exfalso;rcases hR with ⟨r1,r2,r3⟩ | ⟨r1,r2⟩ | ⟨r1,r2⟩
    ·rw [K5.2 (by omega)] at e4;rw [e4] at r2;exact sD r2
    ·rw [K5.1 r1] at e4;unfold BN at r2;omega
    ·exact hc ⟨e4,r1⟩
   ·exact kR _ e4
 refine ⟨D,kG,h.below,h.dfr,h.size,fun d av g1 g2=>?_,fun m o av g1 g2 g3 g4=>?_,fun m o o' av av' g1 g2=>?_,fun k' av g1 g2=>?_,fun k' av g g1 g2 g3 g4=>?_,fun k' k2 av av' g g1 g2 g3 g4 g5 g6 g7 g8=>?_,fun k' v g1=>?_,h.dlt⟩
 ·rw [kB (by omega)] at g1;rw [kL];obtain ⟨v,h1,h2⟩:=h.slot d av g1 g2;exact ⟨v,h1,gG g1 h2⟩
 ·rw [kB (by unfold f0;omega)] at g1;rw [kB (by unfold BN at g4;omega)] at g3;rw [kL,fI];obtain ⟨v,h1,h2⟩:=h.fld m o av g1 g2 g3 g4;exact ⟨v,gG g1 h1,h2⟩
 ·rw [kB (by unfold f0;omega)] at g1 g2;exact h.fdis m o o' av av' g1 g2
 ·rw [kL];by_cases e4:k'=n
  ·subst e4;rw [lS] at g1;cases g1;rw [bK];have hx:∃ ys zs,xs=ys++zs/\Sq ((l.take k).map fun c=>Rep (Us w0 U0 D) w c) ys:=by have f4':=f4;rw [<-take_append_drop k l,map_append] at f4';obtain ⟨y1,r1,q1,q2,q3⟩:=x0 f4';exact ⟨y1,r1,q1,q2⟩
   obtain ⟨ys,zs,q1,q2⟩:=hx;have iW:ys.length=k*z:=by rw [A5 (n:=CV.size) (fun c _ xs h=>h.len) q2,r8 (fun c hc=>f3 c (mem_of_mem_take hc)),length_take,Nat.min_eq_left kF]
   refine ⟨ys,⟨?_,?_⟩,f2,fun c hc=>f3 c (mem_of_mem_take hc),q2⟩
   ·show ys.length=(l.take k).length*z;rw [length_take,Nat.min_eq_left kF];exact iW
   ·show (Value.slice ao k cap=_/\(l.take k).length=0)\/_;rw [length_take,Nat.min_eq_left kF];rcases f1.2 with ⟨h1,h2⟩ | ⟨g,cap',cur,h1,h2,h3,h4,h6,h7,h8⟩
    ·rw [e1] at h1;injection h1 with i1 i2 i3;subst i1;subst i3;have:k=0:=by omega
     subst this;exact .inl ⟨rfl,rfl⟩
    ·rw [e1] at h1;injection h1 with i1 i2 i3;subst i1;subst i3;refine .inr ⟨g,cap,cur,rfl,h2,h3,by omega,h6,h7,?_⟩;have h8':cur.toList.take (l.length*z)=xs:=h8;have:cur.toList.take (k*z)=xs.take (k*z):=by rw [<-h8',List.take_take,Nat.min_eq_left (Nat.mul_le_mul_right z kF)]
     show List.take (k*z) cur.toList=ys;rw [this,q1,<-iW];exact List.take_left' rfl
  ·rw [kB e4] at g1;rw [kR k' e4];by_cases h7:av.t=7
   ·exact a2L h7
   ·refine (h.obj k' av g1 g2).move (fun _ _ _ h1 h2=>⟨h1,h2⟩) (fun _ h3=>⟨h3,?_⟩) fun _ _=>rfl;unfold I2;split
    ·rfl
    ·exact kR _ fun e5=>sD (e5▸h3)
 ·rw [eR] at g4;by_cases e4:k'=n
  ·subst e4;rw [lS] at g1;cases g1;obtain ⟨h1,h2,h3⟩:=h.blk k' _ g hm g2 (by simp) g4;exact ⟨h1,h2,fun o _=>h3 o fun e5=>by cases e5⟩
  ·rw [kB e4] at g1;obtain ⟨h1,h2,h3⟩:=h.blk k' av g g1 g2 g3 g4;rw [kR k' e4];exact ⟨h1,h2,h3⟩
 ·rw [eR] at g8 |-;have conv:∀ {x av},look ((n,AV.mrow e z (l.take k))::s) x=some av->av.t≠7->∃ av0,look s x=some av0/\av0.t≠7:=fun {x av} h1 h2=>by
   by_cases e4:x=n
   ·subst e4;exact ⟨_,hm,by simp⟩
   ·rw [kB e4] at h1;exact ⟨av,h1,h2⟩
  obtain ⟨b1,c1,c2⟩:=conv g1 g5
  obtain ⟨b2,c3,c4⟩:=conv g2 g6
  exact h.disj k' k2 b1 b2 g c1 c3 g3 g4 c2 c4 g7 g8
 ·have h1:=U0.hf k' v g1;rw [kR k' (by omega)];exact h.fix k' v g1
def SameS (S:Nat->Option AV) (ks:List Nat):AS->Prop
 | []=>True
 | (k,av)::l=>(l7 ks k=true\/S k=some av)/\SameS S ks l
theorem SameS.look {ks:List Nat}:∀ {l:AS},SameS S ks l->∀ {k av},look l k=some av->l7 ks k=false->S k=some av
 | [],_,k,av,h,_=>by cases h
 | (k',av')::l,⟨h1,h2⟩,k,av,h,hn=>by
  rw [j8] at h;split at h
  ·rename_i e;subst e;cases h;rcases h1 with h1 | h1
   ·rw [h1] at hn;cases hn
   ·exact h1
  ·exact SameS.look h2 h hn
theorem b5p (post':AS) {f:FuncId} {xs:Array Operand} {ts:Array TypeId} {avs:List AV} {r:AV} {pre post:AS} (hg:Gd w0 U0 nt ops o gs S) (hd:o.dst=some d) (hn:Nat.blt d nt=true) (h5:Nat.blt d 100000=true)
  (ho:o.op = .call { callee := .value (.func f),args:=xs,argTypes:=ts }) (hx:a4u S xs.toList=some avs) (hc:r5 P f pre avs r post) (hp:SubS S pre) (hl:pre.all E4=true) (hq:post.all (G1 (kO post))=true) (jN:(kO pre).all (l7 (kO post))=true) (hr:a2W (kO post) r=true) (hnb:∀ k v,U0.f k=some v->l7 (kO post) k=true->l7 (kO pre) k=true) (kJ:SubL post post') (nW:SameS S (kO post') post) (bC:(kO post).all (l7 (kO pre))=true) (kV:(kO post).all (Nat.ble 100000)=true) :
  AOp P w0 U0 nt ops o (gs++(rdl xs.toList++kO pre)) (I8 (kO pre) (kO post) (kO post)) S ((d,r)::post'):=by
 have h:=b3s hg hd hn h5 ho hx hc hp hl hq jN hr hnb;intro s hs hN a w hsim Q K hK;refine h s hs hN a w hsim Q K fun a' w' gD=>hK a' w' (gD.sub fun k av h1=>?_);have mM:=bL h5;have h1:look ((d,r)::(post'++s)) k=some av:=h1;show look ((d,r)::(post++s)) k=some av;rw [j8] at h1 |-;split
 ·rename_i e;rw [if_pos e] at h1;exact h1
 ·rename_i e;rw [if_neg e,b9] at h1;rw [b9];cases e1:look post' k with
  | some x=>rw [e1] at h1;cases h1;rw [kJ.sub k _ e1];rfl
  | none =>
   rw [e1] at h1;have h1:look s k=some av:=h1;cases e2:look post k with
   | none=>exact h1
   | some y =>
    have gW:l7 (kO post') k=false:=by
     cases e3:l7 (kO post') k with
     | false=>rfl
     | true=>obtain ⟨z,hz⟩:=Q8 (y0 e3);rw [e1] at hz;cases hz
    have h3:=nW.look e2 gW;rw [all_eq_true] at bC;have h4:=bC k (i8 e2);have h5:=hs k (mem_append_right _ (mem_append_right _ (y0 h4)));rw [h5,h3] at h1;exact h1
theorem zbh {P:Program} {w0:World} {U0:UX} {nt:Nat} {ops:Array Oper} {o:Oper} {S:Nat->Option AV} {gs:List Nat} {d:Nat} {f:FuncId} {xs:Array Operand} {ts:Array TypeId} {avs:List AV} {r:AV} {pre:AS} {post:AS} (post':AS) (p:Gd w0 U0 nt ops o gs S:=by exact gN rfl) (q:o.dst=some d:=by exact rfl) (t:Nat.blt d nt=true:=by exact rfl) (u:Nat.blt d 100000=true:=by exact rfl) (A:o.op = .call { callee := .value (.func f),args:=xs,argTypes:=ts }:=by exact rfl) (B:a4u S xs.toList=some avs:=by exact rfl) (C:r5 P f pre avs r post) (E:SubS S pre:=by repeat (first | exact trivial | refine ⟨rfl,?_⟩)) (F:pre.all E4=true:=by first | rfl | kernel_rfl) (G:post.all (G1 (kO post))=true:=by first | rfl | kernel_rfl) (H:(kO pre).all (l7 (kO post))=true:=by first | rfl | kernel_rfl) (hr:a2W (kO post) r=true:=by first | rfl | kernel_rfl) (hnb:∀ k v,U0.f k=some v->l7 (kO post) k=true->l7 (kO pre) k=true) (kJ:SubL post post':=by repeat (first | exact trivial | refine ⟨rfl,?_⟩)) (nW:SameS S (kO post') post:=by repeat (first | exact trivial | refine ⟨.inl rfl,?_⟩ | refine ⟨.inr rfl,?_⟩)) (bC:(kO post).all (l7 (kO pre))=true:=by first | rfl | kernel_rfl) (kV:(kO post).all (Nat.ble 100000)=true:=by first | rfl | kernel_rfl):AOp P w0 U0 nt ops o (gs++(rdl xs.toList++kO pre)) (I8 (kO pre) (kO post) (kO post)) S ((d,r)::post'):=b5p post' p q t u A B C E F G H hr hnb kJ nW bC kV
end
section
variable {P:Program} {w0:World} {U0:UX} {nt:Nat} {ops:Array Oper} {o:Oper} {S:Nat->Option AV} {gs:List Nat} {d:Nat} {s:AS} {a:Act} {w:World} {D:Nat->Nat->Prop} {hv:Nat->Value}
theorem AWp.handle {c:Code} {Q:Exit->AS->Prop} (d n:Nat) {e z:Nat} {l:List CV} (hd:Nat.blt d nt=true) (h5:Nat.blt d 100000=true) (hm:look s n=some (.mrow e z l)) (hn:(Nat.ble 200000 n&&Nat.blt n 450000)=true) (h:∀ ao cap,l.length<=cap->(ao=none->l.length=0/\cap=0)->AWp P w0 U0 nt c Q ((d,.hdl (.slice ao l.length cap) n)::s)):AWp P w0 U0 nt c Q s:=by
 intro M a w ⟨D,hv,hs⟩;have kN:RN n:=rnF hn;obtain ⟨xs,f1,_⟩:=hs.mrow hm kN;obtain ⟨ao,cap,e1,e2,_⟩:=L2 f1;have eB:d<a.tmps.size:=by rw [hs.size];exact bL hd
 have e3:ao=none->l.length=0/\cap=0:=fun e=>by
  rcases f1.2 with ⟨b1,b2⟩ | ⟨g,cap',cur,b1,_⟩
  ·rw [e1] at b1;injection b1 with _ _ i3;exact ⟨b2,i3⟩
  ·rw [e1,e] at b1;cases b1
 exact h ao cap e2 e3 M a w ⟨D,hv,hs.know (bL h5) (Array.getElem?_eq_getElem eB) ⟨kN,e1⟩⟩
theorem c1a (yy dh dh2:Nat) (hg:Gd w0 U0 nt ops o gs S) (hd:o.dst=some d) (hn:Nat.blt d nt=true) (h5:Nat.blt d 100000=true) {x y:Operand} {t e size bytes:Nat} {z:Value} {l l2:List CV} {n len cap n2 q2 p2} {ao:Option Addr} (ho:o.op = .call { callee := .builtin .append,args := #[x,y],argTypes := #[t,t] }) (ht:P.underlying t=some (.slice e)) (hi:(P.info? e).map (fun i=>(i.zero,i.size,i.bytes))=some (some z,size,bytes))
  (hx:ev S x=some (.sl n 0 len size)) (hy:ev S y=some ⟨0,.lst l2,n2,q2,p2⟩) (bX:S n=some (.mrow e size l)) (nX:S dh=some (.hdl (.slice ao l.length cap) n)) (lY:(Nat.ble 300000 yy&&Nat.blt yy 450000)=true) (mN:(Nat.blt dh 100000&&(Nat.blt dh2 100000&&(Nat.blt dh2 nt&&!Nat.beq n yy)))=true) (fS:(Nat.ble 300000 n&&Nat.blt n 450000)=true) (hf:U0.f yy=none) (kD:len=l.length) (kL:∀ c∈l2,c.size=size) (gM:0<l2.length) (hroom:l.length+l2.length<=cap) :
  AOp P w0 U0 nt ops o (gs++(rd x++(rd y++[n,dh]))) [(yy,[])] S [(d,.sl yy 0 (l.length+l2.length) size),(dh2,.hdl (.slice ao (l.length+l2.length) cap) yy),(yy,.mrow e size (l++l2)),(n,.no)]:=by
 intro s hs hN a w ⟨D,hv,h⟩ Q K hK;rw [if_pos (hg s (fun k hk=>hs k (mem_append_left _ hk)) a w D hv h)];simp only [Bool.and_eq_true] at mN lY fS;obtain ⟨hdh1,hdh2,hdh3,hny⟩:=mN;have hny:n≠yy:=fun e=>by rw [e,Nat.beq_refl] at hny;cases hny
 have lP:=Nat.le_of_ble_eq_true lY.1;have iE:=bL lY.2;have bS:=Nat.le_of_ble_eq_true fS.1;have hn2':=bL fS.2;have lZ:RN yy:=⟨by omega,iE⟩
 obtain ⟨kN,dH⟩:RN n/\SlV (hv n) 0 len size (a.eval x):=l9 h (fun k hk=>hs k (mem_append_right _ (mem_append_left _ hk))) hx;have h3:=y7 h (fun k hk=>hs k (mem_append_right _ (mem_append_right _ (mem_append_left _ hk)))) hy;have kH:l8 n:=⟨by omega,by omega⟩
 have kB:=(hs n (by simp)).trans bX;obtain ⟨xs,g1,g2,g3,g4⟩:=h.mrow kB kN;obtain ⟨_,_,gK⟩:∃ v,a.tmps[dh]?=some v/\RN n/\hv n = .slice ao l.length cap:=h.slot dh _ ((hs dh (by simp)).trans nX) (bL hdh1);have gK:=gK.2;have hval:a.eval x = .slice ao l.length cap:=by obtain ⟨ao1,m1,cap1,ao',e1,e2,e3,e4,_⟩:=dH;rw [gK] at e1;injection e1 with i1 i2 i3;subst i1;subst i2;subst i3;rw [e2,e4 rfl,kD];rfl
 obtain ⟨ao2,m,c2,k1,k2,k3,k4,k6,ys2,k7,k8⟩:=l5.1 h3;have jH:ys2.length=m*size:=by rw [A5 (n:=CV.size) (fun c _ xs h=>h.len) k8,r8 kL,k2]
 obtain ⟨i,bT,cO,cN,fD⟩:=info_parts hi;rcases g1.2 with ⟨b1,b2⟩ | ⟨g,cap',cur,b1,b2,b3,b4,b5,b6,b7⟩
 ·exfalso;rw [gK] at b1;injection b1 with _ _ i3;omega
 rw [gK] at b1;injection b1 with i1 i2 i3;subst i1;subst i3;cases ao2 with
 | none=>exfalso;have:=(k6 rfl).1;omega
 | some ad =>
 have bY:∀ j u,ys2[j]?=some u->w.cell? (ad.add j)=some u:=fun j u hj=>by
  have gJ:j<ys2.length:=by
   rcases Nat.lt_or_ge j ys2.length with h | h
   ·exact h
   ·rw [getElem?_eq_none h] at hj;cases hj
  rcases k7 with rfl | ⟨b,off,ha,hc⟩
  ·simp at gJ
  ·cases ha;rw [V7,(hc j gJ).2,hj]
 have kT:w.ownsRow 0 e size (.slice (some ⟨g,0,none⟩) l.length cap) l.length xs:=by rw [<-gK];exact g1
 obtain ⟨w',r1,r2,r3⟩:=run_append_fits (P:=P) w 0 t o.type e i size ht bT cN g l.length cap xs kT ad m c2 ys2 jH bY (F5 k8) (by omega);have qT:hb (hv n)=some g:=by rw [gK];rfl
 obtain ⟨f1,f2,f3⟩:=h.blk n _ g kB kH (by simp) qT;have qM:∀ o,¬ D g o:=fun o=>f3 o fun e=>by cases e
 have bC:∀ b o u,Us w0 U0 D b o->w.cell? ⟨b,o,none⟩=some u->Us w0 U0 D b o/\w'.cell? ⟨b,o,none⟩=some u:=fun b o u hu hc=>by refine ⟨hu,?_⟩;have kA:b<w.heap.size:=World.block_lt_of_cell? w _ hc;have hnb:some b≠some g:=fun e=>a2M hu f1 (qM o) (by injection e);rw [World.cell?_of_block (w:=w) (r3.block b kA hnb)];exact hc
 have pK:Mn w0 U0 (lcl yy (.mrow e size (l++l2))) g:=by rw [P0 bS] at f1;rw [P0 lP];exact f1
 have hG:=(h.kill kH).newrowF (n:=yy) (avn := .mrow e size (l++l2)) (v' := .slice (some ⟨g,0,none⟩) (l.length+m) cap) (D':=D) (X:=fun b=>b=g) lZ hf (fun k av hk=>by
   by_cases e:n=k
   ·subst e;rw [lS] at hk;cases hk;have dM:fnm n=100000:=by unfold fnm;rw [a8h (by omega:n<500000)]
    rw [dM];exact ⟨by show 0≠_;omega,by omega,by omega⟩
   ·rw [lN e] at hk;exact (hN (yy,[]) (by simp)).nr k av hk) (by simp) ⟨r3.os,r3.tape,r3.output,r3.size,fun b hb hx=>r3.block b hb fun e=>hx (by injection e)⟩ (fun b hb=>by
   subst hb;refine ⟨pK,fun q av h6 h7 h8 h9=>?_⟩;have hq:n≠q:=fun e=>by subst e;rw [lS] at h6;cases h6;exact h8 rfl
   rw [lN hq] at h6;exact h.disj n q _ av b kB h6 kH h7 (by simp) h8 hq qT) (fun g' dC=>by
   have dC:some g=some g':=dC;cases dC;exact ⟨.inl rfl,Nat.lt_of_lt_of_le f2 r3.size,fun o _=>qM o⟩) (fun b o hd => .inl hd) (fun b o hd=>Nat.lt_of_lt_of_le (h.dlt _ _ hd) r3.size) bC (fun hv lv=>by
   refine ⟨xs++ys2,?_,g2,fun c hc=>?_,?_⟩
   ·show w'.ownsRow 0 e size _ (l++l2).length (xs++ys2);rw [length_append,<-k2];exact r2
   ·rcases mem_append.1 hc with hc | hc
    ·exact g3 c hc
    ·exact kL c hc
   ·show Sq ((l++l2).map _) _;rw [map_append];exact x8 (Sq.keep bC g4) (Sq.keep bC k8))
 have he:(execOp a.eval o).run P w = .ok (.value (.slice (some ⟨g,0,none⟩) (l.length+m) cap)) w':=by generalize a.eval=ρ at hval k1 |-;simp [execOp,ho,resolve,invoke,builtin,hval,k1,r1,Result.andThen]
 unfold Oper.wp;rw [he,Oper.upon_value,hd];have bU:(fun x=>if x=yy then Value.slice (some ⟨g,0,none⟩) (l.length+m) cap else hv x) yy = .slice (some ⟨g,0,none⟩) (l.length+m) cap:=by simp
 have eB:dh2<a.tmps.size:=by rw [h.size];exact bL hdh3
 have hG2:=hG.know (d:=dh2) (av := .hdl (.slice (some ⟨g,0,none⟩) (l.length+l2.length) cap) yy) (bL hdh2) (Array.getElem?_eq_getElem eB) ⟨lZ,by rw [<-k2];exact bU⟩;refine hK _ _ ⟨_,_,hG2.put (bL hn) (bL h5) ⟨lZ,?_⟩⟩;show SlV ((fun x=>if x=yy then Value.slice (some ⟨g,0,none⟩) (l.length+m) cap else hv x) yy) 0 (l.length+l2.length) size _;rw [bU,<-k2];exact I3 rfl (by omega) (.inr ⟨_,rfl⟩)
theorem zbJ {P:Program} {w0:World} {U0:UX} {nt:Nat} {ops:Array Oper} {o:Oper} {S:Nat->Option AV} {gs:List Nat} {d:Nat} {x:Operand} {y:Operand} {t:Nat} {e:Nat} {size:Nat} {bytes:Nat} {z:Value} {l:List CV} {l2:List CV} {n} {len} {cap} {n2} {q2} {p2} {ao:Option Addr} (yy:Nat) (dh:Nat) (dh2:Nat) (p:Gd w0 U0 nt ops o gs S:=by exact gN rfl) (r:o.dst=some d:=by exact rfl) (A:Nat.blt d nt=true:=by exact rfl) (B:Nat.blt d 100000=true:=by exact rfl) (C:o.op = .call { callee := .builtin .append,args := #[x,y],argTypes := #[t,t] }:=by exact rfl) (E:P.underlying t=some (.slice e):=by exact rfl) (F:(P.info? e).map (fun i=>(i.zero,i.size,i.bytes))=some (some z,size,bytes):=by exact rfl) (G:ev S x=some (.sl n 0 len size):=by exact rfl) (H:ev S y=some ⟨0,.lst l2,n2,q2,p2⟩:=by exact rfl) (bX:S n=some (.mrow e size l):=by exact rfl) (nX:S dh=some (.hdl (.slice ao l.length cap) n):=by exact rfl) (lY:(Nat.ble 300000 yy&&Nat.blt yy 450000)=true:=by exact rfl) (mN:(Nat.blt dh 100000&&(Nat.blt dh2 100000&&(Nat.blt dh2 nt&&!Nat.beq n yy)))=true:=by exact rfl) (fS:(Nat.ble 300000 n&&Nat.blt n 450000)=true:=by exact rfl) (hf:U0.f yy=none) (kD:len=l.length:=by first | rfl | omega | (simp only [length_set,length_map,length_append,length_cons,length_nil]<;>omega) | (simp<;>omega)) (kL:∀ c∈l2,c.size=size:=by first | assumption | exact sZ rfl | exact Tm.size_all _ | exact Bd.size_all _ | exact p8 _ | exact bys_size _ | exact Lt.size_all _) (gM:0<l2.length:=by simp) (hroom:l.length+l2.length<=cap):AOp P w0 U0 nt ops o (gs++(rd x++(rd y++[n,dh]))) [(yy,[])] S [(d,.sl yy 0 (l.length+l2.length) size),(dh2,.hdl (.slice ao (l.length+l2.length) cap) yy),(yy,.mrow e size (l++l2)),(n,.no)]:=c1a yy dh dh2 p r A B C E F G H bX nX lY mN fS hf kD kL gM hroom
theorem c1I (yy dh:Nat) (hg:Gd w0 U0 nt ops o gs S) (hd:o.dst=some d) (hn:Nat.blt d nt=true) (h5:Nat.blt d 100000=true) {x y:Operand} {t e size bytes:Nat} {z:Value} {l l2:List CV} {n len n2 q2 p2} {ao:Option Addr} (ho:o.op = .call { callee := .builtin .append,args := #[x,y],argTypes := #[t,t] }) (ht:P.underlying t=some (.slice e)) (hi:(P.info? e).map (fun i=>(i.zero,i.size,i.bytes))=some (some z,size,bytes)) (bH:Nat.beq z.cells.size size=true) (dL:Nat.ble bytes 1000=true)
  (hx:ev S x=some (.sl n 0 len size)) (hy:ev S y=some ⟨0,.lst l2,n2,q2,p2⟩) (bX:S n=some (.mrow e size l)) (nX:S dh=some (.hdl (.slice ao l.length l.length) n)) (lY:(Nat.ble 200000 yy&&Nat.blt yy 450000)=true) (mN:Nat.blt dh 100000=true) (hf:U0.f yy=none) (kD:len=l.length) (kL:∀ c∈l2,c.size=size) (gM:0<l2.length) (bP:l.length+l2.length<=100000000000) :
  AOp P w0 U0 nt ops o (gs++(rd x++(rd y++[n,dh]))) [(yy,[])] S [(d,.sl yy 0 (l.length+l2.length) size),(yy,.mrow e size (l++l2))]:=by
 intro s hs hN a w ⟨D,hv,h⟩ Q K hK;rw [if_pos (hg s (fun k hk=>hs k (mem_append_left _ hk)) a w D hv h)];have lZ:RN yy:=rnF lY;obtain ⟨kN,dH⟩:RN n/\SlV (hv n) 0 len size (a.eval x):=l9 h (fun k hk=>hs k (mem_append_right _ (mem_append_left _ hk))) hx;have h3:=y7 h (fun k hk=>hs k (mem_append_right _ (mem_append_right _ (mem_append_left _ hk)))) hy;have kB:=(hs n (by simp)).trans bX;obtain ⟨xs,g1,g2,g3,g4⟩:=h.mrow kB kN;obtain ⟨_,_,gK⟩:∃ v,a.tmps[dh]?=some v/\RN n/\hv n = .slice ao l.length l.length:=h.slot dh _ ((hs dh (by simp)).trans nX) (bL mN);have gK:=gK.2;have hval:a.eval x = .slice ao l.length l.length:=by obtain ⟨ao1,m1,cap1,ao',e1,e2,e3,e4,_⟩:=dH;rw [gK] at e1;injection e1 with i1 i2 i3;subst i1;subst i2;subst i3;rw [e2,e4 rfl,kD];rfl
 obtain ⟨ao2,m,c2,k1,k2,k3,k4,k6,ys2,k7,k8⟩:=l5.1 h3;have jH:ys2.length=m*size:=by rw [A5 (n:=CV.size) (fun c _ xs h=>h.len) k8,r8 kL,k2]
 have hAt:At (fun _ _=>True) w ao xs/\(ao=none->l.length=0):=by
  rw [gK] at g1;rcases g1.2 with ⟨b1,b2⟩ | ⟨g,cap',cur,b1,b2,b3,b4,b5,b6,b7⟩
  ·injection b1 with i1 i2 i3;exact ⟨.inl (eq_nil_of_length_eq_zero (by rw [g1.1,i2];simp)),fun _=>i2⟩
  ·injection b1 with i1 i2 i3;subst i1;refine ⟨.inr ⟨g,0,rfl,fun j hj=>⟨trivial,?_⟩⟩,fun e=>by cases e⟩;rw [Nat.zero_add];exact Y3 g1 (g:=g) rfl (by rw [<-g1.1];exact hj)
 have hAt2:At (fun _ _=>True) w ao2 ys2:=by
  rcases k7 with k7 | ⟨b,off,ha,hc⟩
  ·exact .inl k7
  ·exact .inr ⟨b,off,ha,fun j hj=>⟨trivial,(hc j hj).2⟩⟩
 have nA:(l.length+m)*bytes<=100000000000*1000:=Nat.mul_le_mul (by omega) (Nat.le_of_ble_eq_true dL);obtain ⟨v',w',r1,r2,r3⟩:=b6A (P:=P) (ty:=o.type) ht hi (Nat.eq_of_beq_eq_true bH) g2 hAt.2 hAt.1 g1.1 (fun h=>(k6 h).1) hAt2 jH (c:=c2) (F5 k8) (by omega) (by unfold maxLen;omega) (by omega);have gV:hb v'=v'.ownBlock:=by rcases r2.2 with ⟨rfl,_⟩ | ⟨g,cap,cur,rfl,_⟩<;>rfl
 have bC:∀ b o u,Us w0 U0 D b o->w.cell? ⟨b,o,none⟩=some u->Us w0 U0 D b o/\w'.cell? ⟨b,o,none⟩=some u:=fun b o u hu hc=>by refine ⟨hu,?_⟩;have kA:b<w.heap.size:=World.block_lt_of_cell? w _ hc;rw [World.cell?_of_block (w:=w) (r3.block b kA (by simp))];exact hc
 have hG:=h.newrowF (n:=yy) (avn := .mrow e size (l++l2)) (v':=v') (D':=D) (X:=fun _=>False) lZ hf (hN (yy,[]) (by simp)).nr (by simp) ⟨r3.os,r3.tape,r3.output,r3.size,fun b hb hx=>r3.block b hb (by simp)⟩ (fun b hb=>hb.elim) (fun g hg=>by
   rw [gV] at hg;refine ⟨.inr (r2.lt g hg).1,(r2.lt g hg).2,fun o _ hd=>?_⟩;have:=(r2.lt g hg).1;have:=h.dlt _ _ hd;omega) (fun b o hd => .inl hd) (fun b o hd=>Nat.lt_of_lt_of_le (h.dlt _ _ hd) r3.size) bC (fun hv lv=>by
   refine ⟨xs++ys2,?_,g2,fun c hc=>?_,?_⟩
   ·show w'.ownsRow 0 e size v' (l++l2).length (xs++ys2);rw [length_append,<-k2];exact r9 r2 (Nat.zero_le _)
   ·rcases mem_append.1 hc with hc | hc
    ·exact g3 c hc
    ·exact kL c hc
   ·show Sq ((l++l2).map _) _;rw [map_append];exact x8 (Sq.keep bC g4) (Sq.keep bC k8))
 have he:(execOp a.eval o).run P w = .ok (.value v') w':=by generalize a.eval=ρ at hval k1 |-;simp [execOp,ho,resolve,invoke,builtin,hval,k1,r1,Result.andThen]
 unfold Oper.wp;rw [he,Oper.upon_value,hd];refine hK _ _ ⟨_,_,hG.put (bL hn) (bL h5) ⟨lZ,?_⟩⟩;obtain ⟨a1,c1,q1,q2,q3⟩:=a5b (r9 r2 (Nat.zero_le _));have:=I3 (z:=size) q1 q2 q3;show SlV ((fun x=>if x=yy then v' else hv x) yy) 0 (l.length+l2.length) size v';simp only [if_true];rw [<-k2];exact this
theorem zbL {P:Program} {w0:World} {U0:UX} {nt:Nat} {ops:Array Oper} {o:Oper} {S:Nat->Option AV} {gs:List Nat} {d:Nat} {x:Operand} {y:Operand} {t:Nat} {e:Nat} {size:Nat} {bytes:Nat} {z:Value} {l:List CV} {l2:List CV} {n} {len} {n2} {q2} {p2} {ao:Option Addr} (yy:Nat) (dh:Nat) (p:Gd w0 U0 nt ops o gs S:=by exact gN rfl) (q:o.dst=some d:=by exact rfl) (r:Nat.blt d nt=true:=by exact rfl) (A:Nat.blt d 100000=true:=by exact rfl) (B:o.op = .call { callee := .builtin .append,args := #[x,y],argTypes := #[t,t] }:=by exact rfl) (C:P.underlying t=some (.slice e):=by exact rfl) (E:(P.info? e).map (fun i=>(i.zero,i.size,i.bytes))=some (some z,size,bytes):=by exact rfl) (F:Nat.beq z.cells.size size=true:=by exact rfl) (G:Nat.ble bytes 1000=true:=by exact rfl) (H:ev S x=some (.sl n 0 len size):=by exact rfl) (hy:ev S y=some ⟨0,.lst l2,n2,q2,p2⟩:=by exact rfl) (bX:S n=some (.mrow e size l):=by exact rfl) (nX:S dh=some (.hdl (.slice ao l.length l.length) n):=by exact rfl) (lY:(Nat.ble 200000 yy&&Nat.blt yy 450000)=true:=by exact rfl) (mN:Nat.blt dh 100000=true:=by exact rfl) (hf:U0.f yy=none) (kD:len=l.length:=by first | rfl | omega | (simp only [length_set,length_map,length_append,length_cons,length_nil]<;>omega) | (simp<;>omega)) (kL:∀ c∈l2,c.size=size:=by first | assumption | exact sZ rfl | exact Tm.size_all _ | exact Bd.size_all _ | exact p8 _ | exact bys_size _ | exact Lt.size_all _) (gM:0<l2.length:=by simp) (bP:l.length+l2.length<=100000000000:=by first | omega | (simp only [length_map,length_append,length_cons,length_nil]<;>omega) | (simp<;>omega)):AOp P w0 U0 nt ops o (gs++(rd x++(rd y++[n,dh]))) [(yy,[])] S [(d,.sl yy 0 (l.length+l2.length) size),(yy,.mrow e size (l++l2))]:=c1I yy dh p q r A B C E F G H hy bX nX lY mN hf kD kL gM bP
theorem a9P (X Y dh dh2 k:Nat) {e z m cap:Nat} {l:List CV} {ao:Option Addr} (hY:look s Y=some (.mrow e z l)) (hX:look s X=some .no) (h1:look s dh=some (.hdl (.slice ao k cap) X)) (h2:look s dh2=some (.hdl (.slice ao m cap) Y)) (mN:(Nat.blt dh 100000&&Nat.blt dh2 100000)=true) (hXb:(Nat.ble 300000 X&&Nat.blt X 450000)=true) (hYb:(Nat.ble 300000 Y&&Nat.blt Y 450000)=true) (hk:k<=l.length):Wk w0 U0 nt s ((X,.mrow e z (l.take k))::(Y,.no)::s):=by
 rintro a w ⟨D,hv,h⟩;simp only [Bool.and_eq_true] at mN hXb hYb;have x1:=Nat.le_of_ble_eq_true hXb.1;have x2:=bL hXb.2;have y1:=Nat.le_of_ble_eq_true hYb.1;have y2:=bL hYb.2;have tN:X≠Y:=fun e=>by rw [e,hY] at hX;cases hX
 obtain ⟨_,_,_,hvX⟩:∃ v,a.tmps[dh]?=some v/\RN X/\hv X = .slice ao k cap:=h.slot dh _ h1 (bL mN.1);obtain ⟨_,_,hrY,hvY⟩:∃ v,a.tmps[dh2]?=some v/\RN Y/\hv Y = .slice ao m cap:=h.slot dh2 _ h2 (bL mN.2);obtain ⟨xs,f1,f2,f3,f4⟩:=h.mrow hY hrY;have hoX:l8 X:=⟨by omega,by omega⟩
 have hoY:l8 Y:=⟨by omega,by omega⟩
 have vB:hb (hv X)=hb (hv Y):=by rw [hvX,hvY];cases ao<;>rfl
 obtain ⟨s',gD⟩:∃ s',s'=(X,AV.mrow e z (l.take k))::(Y,AV.no)::s:=⟨_,rfl⟩
 rw [<-gD];have hlX:look s' X=some (.mrow e z (l.take k)):=by rw [gD,lS]
 have xV:look s' Y=some .no:=by rw [gD,lN tN,lS]
 have fQ:∀ {q},q≠X->q≠Y->look s' q=look s q:=fun {q} a1 a2=>by rw [gD,lN (Ne.symm a1),lN (Ne.symm a2)]
 have hl:∀ q f,t7 s' q f↔t7 s q f:=fun q f=>by
  unfold t7;by_cases e1:q=X
  ·subst e1;rw [hlX,hX];constructor<;>(rintro ⟨a1,_⟩;cases a1)
  ·by_cases e2:q=Y
   ·subst e2;rw [xV,hY];constructor<;>(rintro ⟨a1,_⟩;cases a1)
   ·rw [fQ e1 e2]
 have kL:a9 s'=a9 s:=by funext q;simp only [a9,hl]
 refine ⟨D,hv,h.below,h.dfr,h.size,fun d av g1 g2=>?_,fun q o av g1 g2 g3 g4=>?_,fun q o o' av av' g1 g2=>?_,fun q av g1 g2=>?_,fun q av g g1 g2 g3 g4=>?_,fun q q' av av' g g1 g2 g3 g4 g5 g6 g7 g8=>?_,h.fix,h.dlt⟩
 ·rw [fQ (by omega) (by omega)] at g1;rw [kL];exact h.slot d av g1 g2
 ·rw [fQ (by unfold f0;omega) (by unfold f0;omega)] at g1;rw [fQ (by unfold BN at g4;omega) (by unfold BN at g4;omega)] at g3;rw [kL];exact h.fld q o av g1 g2 g3 g4
 ·rw [fQ (by unfold f0;omega) (by unfold f0;omega)] at g1 g2;exact h.fdis q o o' av av' g1 g2
 ·rw [kL];by_cases e1:q=X
  ·subst e1;rw [hlX] at g1;cases g1;rw [hvX];obtain ⟨ys,zs,q1,q2⟩:∃ ys zs,xs=ys++zs/\Sq ((l.take k).map fun c=>Rep (Us w0 U0 D) w c) ys:=by have f4':=f4;rw [<-take_append_drop k l,map_append] at f4';obtain ⟨y1,r1,q1,q2,q3⟩:=x0 f4';exact ⟨y1,r1,q1,q2⟩
   have iW:ys.length=k*z:=by rw [A5 (n:=CV.size) (fun c _ xs h=>h.len) q2,r8 (fun c hc=>f3 c (mem_of_mem_take hc)),length_take,Nat.min_eq_left hk]
   refine ⟨ys,⟨?_,?_⟩,f2,fun c hc=>f3 c (mem_of_mem_take hc),q2⟩
   ·show ys.length=(l.take k).length*z;rw [length_take,Nat.min_eq_left hk];exact iW
   ·show (Value.slice ao k cap=_/\(l.take k).length=0)\/_;rw [length_take,Nat.min_eq_left hk];rcases f1.2 with ⟨b1,b2⟩ | ⟨g,cap',cur,b1,b2,b3,b4,b6,b7,b8⟩
    ·rw [hvY] at b1;injection b1 with i1 i2 i3;subst i1;subst i3;have:k=0:=by omega
     subst this;exact .inl ⟨rfl,rfl⟩
    ·rw [hvY] at b1;injection b1 with i1 i2 i3;subst i1;subst i3;refine .inr ⟨g,cap,cur,rfl,b2,b3,by omega,b6,b7,?_⟩;have b8':cur.toList.take (l.length*z)=xs:=b8;have:cur.toList.take (k*z)=xs.take (k*z):=by rw [<-b8',List.take_take,Nat.min_eq_left (Nat.mul_le_mul_right z hk)]
     show List.take (k*z) cur.toList=ys;rw [this,q1,<-iW];exact List.take_left' rfl
  ·by_cases e2:q=Y
   ·subst e2;rw [xV] at g1;cases g1;exact a2L rfl
   ·rw [fQ e1 e2] at g1;exact h.obj q av g1 g2
 ·by_cases e1:q=X
  ·subst e1;rw [hlX] at g1;cases g1;rw [vB] at g4;obtain ⟨a1,a2,a3⟩:=h.blk Y _ g hY hoY (by simp) g4;rw [P0 y1] at a1;rw [P0 x1];exact ⟨a1,a2,fun o _=>a3 o fun e=>by cases e⟩
  ·by_cases e2:q=Y
   ·subst e2;rw [xV] at g1;cases g1;exact absurd rfl g3
   ·rw [fQ e1 e2] at g1;exact h.blk q av g g1 g2 g3 g4
 ·have conv:∀ {q av},look s' q=some av->av.t≠7->(q=X/\hb (hv q)=hb (hv Y))\/(q≠Y/\look s q=some av):=fun {q av} a1 a2=>by
   by_cases e1:q=X
   ·exact .inl ⟨e1,by rw [e1];exact vB⟩
   ·by_cases e2:q=Y
    ·subst e2;rw [xV] at a1;cases a1;exact absurd rfl a2
    ·rw [fQ e1 e2] at a1;exact .inr ⟨e2,a1⟩
  rcases conv g1 g5 with ⟨c1,c2⟩ | ⟨c1,c2⟩
  ·rcases conv g2 g6 with ⟨c3,c4⟩ | ⟨c3,c4⟩
   ·exact absurd (c1.trans c3.symm) g7
   ·rw [c2] at g8;exact h.disj Y q' _ av' g hY c4 hoY g4 (by simp) g6 (Ne.symm c3) g8
  ·rcases conv g2 g6 with ⟨c3,c4⟩ | ⟨c3,c4⟩
   ·rw [c4];exact h.disj q Y av _ g c2 hY g3 hoY g5 (by simp) c1 g8
   ·exact h.disj q q' av av' g c2 c4 g3 g4 g5 g6 g7 g8
end
section
open Go.RowKit Go.MapKept
section
variable {P:Program} {w0:World} {U0:UX} {nt:Nat} {ops:Array Oper} {o:Oper} {S:Nat->Option AV} {gs:List Nat} {d:Nat} {s:AS} {a:Act} {w:World} {D:Nat->Nat->Prop} {hv:Nat->Value}
theorem a6A {x y:AV} {k m n:Nat} {e:Nat×Nat} (hk:k<200000) (hm:m<200000\/400000<=m):t7 ((k,x)::(m,y)::s) n e↔t7 s n e:=by
 unfold t7;constructor
 ·rintro ⟨h1,h2⟩;rw [lN (by omega),lN (by omega)] at h1;exact ⟨h1,h2⟩
 ·rintro ⟨h1,h2⟩;exact ⟨by rw [lN (by omega),lN (by omega)];exact h1,h2⟩
theorem a3p {lv:Nat->Prop} {a:AV} {d:Nat} (hd:BN d) (bX:∀ n,lv n->n=1\/RN n) (hr:a.n≠d) (h:Rn lv a):hk a≠100000+d:=by
 unfold BN at hd;rcases h with ⟨h1,h2,h3⟩ | ⟨h1,h2⟩ | ⟨h1,h2⟩
 ·rw [K5.2 (by omega)];rcases bX _ h2 with h4 | h4
  ·exact absurd h4 h3
  ·unfold RN at h4;omega
 ·rw [K5.1 h1];omega
 ·rw [K5.2 (by omega)];unfold RN at h2;omega
theorem SimG.newboxN (h:SimG w0 U0 nt s a w D hv) {nn:Nat} (bJ:BN nn) (hnf:∀ v,U0.f (100000+nn)=some v->False) (hr:S3 s nn) (hd:d<nt) (h5:d<100000) {av:AV} (bB:av.t=5\/av = .obj) {xs:List Value} (ty:TypeId) (gG:av.t=5->Rep (Us w0 U0 D) w av.c xs) (dK:av.t=5->Tk hv (a9 s) av xs) :
  SimG w0 U0 nt ((d,.bp nn 0 [])::(100000+nn,av)::s) (a.put (some d) (.pointer (some ⟨w.heap.size,0,none⟩))) (w.alloc (.cells xs.toArray ty)) D (fun k=>if k=100000+nn then .pointer (some ⟨w.heap.size,0,none⟩) else hv k):=by
 have jR:=bJ;unfold BN at jR;have hb':Below w.heap.size w (w.alloc (.cells xs.toArray ty)):=(Below.refl _ _).alloc (Nat.le_refl _) _;have hG:=h.grow' hb';obtain ⟨s',gD⟩:∃ s',s'=(d,AV.bp nn 0 [])::(100000+nn,av)::s:=⟨_,rfl⟩
 obtain ⟨kG,gK⟩:∃ kG:Nat->Value,kG=fun k=>if k=100000+nn then .pointer (some ⟨w.heap.size,0,none⟩) else hv k:=⟨_,rfl⟩
 rw [<-gD,<-gK];have hl:∀ n e,t7 s' n e↔t7 s n e:=fun n e=>by rw [gD];exact a6A (by omega) (by unfold BN at bJ;omega)
 have kL:a9 s'=a9 s:=by funext n;simp only [a9,hl]
 have kB:∀ k,k≠d->k≠100000+nn->look s' k=look s k:=fun k h1 h2=>by rw [gD,lN (Ne.symm h1),lN (Ne.symm h2)]
 have uE:look s' (100000+nn)=some av:=by rw [gD,lN (by omega),lS]
 have kR:∀ k,k≠100000+nn->kG k=hv k:=fun k hk=>by rw [gK];simp only [if_neg hk]
 have bK:kG (100000+nn) = .pointer (some ⟨w.heap.size,0,none⟩):=by rw [gK];simp
 have hid:∀ b o v,Us w0 U0 D b o->(w.alloc (.cells xs.toArray ty)).cell? ⟨b,o,none⟩=some v->Us w0 U0 D b o/\(w.alloc (.cells xs.toArray ty)).cell? ⟨b,o,none⟩=some v:=fun _ _ _ h1 h2=>⟨h1,h2⟩
 have jZ:∀ {k av' v},look s k=some av'->AVRep (Us w0 U0 D) (w.alloc (.cells xs.toArray ty)) hv (a9 s) av' v->AVRep (Us w0 U0 D) (w.alloc (.cells xs.toArray ty)) kG (a9 s) av' v:=fun {k av' v} h1 h2 =>
  h2.move hid (fun _ h=>h) fun h3=>kR _ (a3p bJ (fun n=>E9) (hr k av' h1).1 h3)
 refine ⟨hG.below,h.dfr,by simp [Act.put,h.size],fun d' av' h1 h2=>?_,fun n o av' h1 h2 h3 dB=>?_,fun n o o' av1 av2 h1 h2 h3 h4=>?_,fun k av' h1 h2=>?_,fun k av' g h1 h2 h3 h4=>?_,fun k k' av1 av2 g h1 h2 h3 h4 h6 h7 kE=>?_,fun n g h1=>?_,hG.dlt⟩
 ·rw [kL];by_cases e:d=d'
  ·subst e;rw [gD,lS] at h1;cases h1;refine ⟨.pointer (some ⟨w.heap.size,0,none⟩),by simp [Act.put,h.size,hd],?_⟩;unfold AVRep;simp only [if_true];exact ⟨bJ,by rw [bK];rfl⟩
  ·rw [kB d' (Ne.symm e) (by omega)] at h1;obtain ⟨v',h3,h4⟩:=hG.slot d' av' h1 h2;exact ⟨v',by simp [Act.put,e,h3],jZ h1 h4⟩
 ·rw [kB _ (by unfold f0;omega) (by unfold f0;omega)] at h1;have hn:=(hr _ _ h1).2.1;rw [O9 h2] at hn;rw [kB _ (by omega) (by omega)] at h3;rw [kL];obtain ⟨v,h4,h6,h7⟩:=hG.fld n o av' h1 h2 h3 dB;refine ⟨v,jZ h1 h4,h6,?_⟩;rw [kR _ (by omega)];exact h7
 ·rw [kB _ (by unfold f0;omega) (by unfold f0;omega)] at h1 h2;exact h.fdis n o o' av1 av2 h1 h2 h3 h4
 ·rw [kL];by_cases e:k=100000+nn
  ·subst e;rw [uE] at h1;cases h1;rw [bK];unfold OC;rcases bB with bB | rfl
   ·rw [if_pos bB];refine ⟨w.heap.size,xs,ty,rfl,w7 _ _,(gG bB).keep (P5 h.dlt hb' fun _ _ h=>h),fun hl=>?_⟩;obtain ⟨m,c,g1,g2⟩:=dK bB hl;refine ⟨m,c,g1,?_⟩;rw [g2];unfold I2;rcases E9 hl with h6 | h6
    ·rw [if_pos h6,if_pos h6]
    ·unfold RN at h6;rw [kR _ (by omega)]
   ·simp only [if_true];exact ⟨w.heap.size,xs.toArray,ty,rfl,w7 _ _⟩
  ·have qL:=h2;unfold l8 at qL;rw [kB k (by omega) e] at h1;rw [kR k e];refine (hG.obj k av' h1 h2).move hid (fun _ hl=>⟨hl,?_⟩) (fun _ _=>rfl);unfold I2;rcases E9 hl with h6 | h6
   ·rw [if_pos h6,if_pos h6]
   ·unfold RN at h6;rw [kR _ (by omega)]
 ·by_cases e:k=100000+nn
  ·subst e;rw [bK] at h4;have h4:some w.heap.size=some g:=h4;cases h4;refine ⟨.inl h.below.size,by simp,fun o _ hd=>?_⟩;have:=h.dlt _ _ hd;omega
  ·have qL:=h2;unfold l8 at qL;rw [kB k (by omega) e] at h1;rw [kR k e] at h4 |-;exact hG.blk k av' g h1 h2 h3 h4
 ·have uF:=h3;have rD:=h4;unfold l8 at uF rD;by_cases e1:k=100000+nn
  ·have e2:k'≠100000+nn:=fun e=>kE (e1.trans e.symm);rw [kB k' (by omega) e2] at h2;rw [e1,bK,kR k' e2];intro h8 h9;have:=(h.blk k' av2 g h2 h4 h7 h9).2.1;have h8:some w.heap.size=some g:=h8;cases h8;omega
  ·rw [kB k (by omega) e1] at h1;by_cases e2:k'=100000+nn
   ·rw [e2,bK,kR k e1];intro h8 h9;have:=(h.blk k av1 g h1 h3 h6 h8).2.1;have h9:some w.heap.size=some g:=h9;cases h9;omega
   ·rw [kB k' (by omega) e2] at h2;rw [kR k e1,kR k' e2];exact h.disj k k' av1 av2 g h1 h2 h3 h4 h6 h7 kE
 ·have:=U0.hf n g h1;rw [kR _ (fun e=>hnf g (by rw [<-e];exact h1))];exact h.fix n g h1
theorem b3y (nn:Nat) (hg:Gd w0 U0 nt ops o gs S) (hd:o.dst=some d) (hn:Nat.blt d nt=true) (h5:Nat.blt d 100000=true) {ty:TypeId} {fs:Array Field} {it:TypeInfo} {cs:Array Value} {sz:List Nat} {zs:List CV} (ho:o.op = .alloc ty) (hu:P.underlying ty=some (.struct fs)) (hi:P.info? ty=some it) (hz:it.zero=some (.agg cs)) (kC:szO P fs.toList 0=some sz) (h0:zsO sz cs.toList=some zs) (hp:(sz.all fun z=>Nat.blt 0 z)=true) (pX:Nat.ble cs.size 100=true) (sE:(Nat.blt nn 100000||(Nat.ble 350000 nn&&Nat.blt nn 400000))=true) (hnf:∀ v,U0.f (100000+nn)=some v->False):AOp P w0 U0 nt ops o gs [(nn,[])] S (a0F nn zs 0++[(d,.bp nn 0 []),(100000+nn,.obj)]):=by
 intro s hs hN a w ⟨D,hv,h⟩ Q K hK;rw [if_pos (hg s hs a w D hv h)];have mM:=bL h5;have bJ:BN nn:=by
  rcases Bool.or_eq_true_iff.1 sE with h1 | h1
  ·exact .inl (bL h1)
  ·rw [Bool.and_eq_true] at h1;exact .inr ⟨Nat.le_of_ble_eq_true h1.1,bL h1.2⟩
 have jR:=bJ;unfold BN at jR;have he:(execOp a.eval o).run P w = .ok (.value (.pointer (some ⟨w.heap.size,0,none⟩))) (w.alloc (.cells cs ty)):=by simp [execOp,ho,Instr.alloc,zeroValue,typeInfo,hi,hz,B8,Value.cells]
 unfold Oper.wp;rw [he,Oper.upon_value,hd];have hr:=(hN (nn,[]) (by simp)).nr;have hG:=h.newboxN (d:=d) (av := .obj) bJ hnf hr (bL hn) mM (.inr rfl) (xs:=cs.toList) ty (fun e=>by cases e) (fun e=>by cases e);rw [Array.toArray_toList] at hG;obtain ⟨segs,e1,e2,e3,e4,e5⟩:=H8 (U:=Us w0 U0 D) (w:=w.alloc (.cells cs ty)) h0
 suffices hfin:SimG w0 U0 nt (a0F nn zs 0++((d,AV.bp nn 0 [])::(100000+nn,AV.obj)::s)) (a.put (some d) (.pointer (some ⟨w.heap.size,0,none⟩))) (w.alloc (.cells cs ty)) D (fun k=>if k=100000+nn then .pointer (some ⟨w.heap.size,0,none⟩) else hv k) by
  exact hK _ _ ⟨D,_,by rw [append_assoc];exact hfin⟩
 refine hG.addFs (n:=nn) (g:=w.heap.size) bJ (by rw [lN (by omega),lS]) (fun q av h1 h2=>?_) (by simp only [if_true];rfl) e4 e5 (fun i gH=>?_) (fun c hc=>?_) (by rw [e1];have:=Nat.le_of_ble_eq_true pX;simpa using this)
 ·rw [lN (by unfold f0;omega),lN (by unfold f0;omega)] at h1;have:=(hr _ _ h1).2.1;rw [O9 h2] at this;exact this rfl
 ·rw [e1] at gH |-;rw [Nat.zero_add];have:=w7 w (.cells cs ty);simp only [World.cell?,this];simp
 ·rw [all_eq_true] at hp;have:c.size∈sz:=by rw [<-e3];exact mem_map.2 ⟨c,hc,rfl⟩
  exact bL (hp _ this)
theorem zbw {P:Program} {w0:World} {U0:UX} {nt:Nat} {ops:Array Oper} {o:Oper} {S:Nat->Option AV} {gs:List Nat} {d:Nat} {ty:TypeId} {fs:Array Field} {it:TypeInfo} {cs:Array Value} {sz:List Nat} {zs:List CV} (nn:Nat) (p:Gd w0 U0 nt ops o gs S:=by exact gN rfl) (r:o.dst=some d:=by exact rfl) (t:Nat.blt d nt=true:=by exact rfl) (u:Nat.blt d 100000=true:=by exact rfl) (x:o.op = .alloc ty:=by exact rfl) (y:P.underlying ty=some (.struct fs):=by exact rfl) (A:P.info? ty=some it:=by exact rfl) (B:it.zero=some (.agg cs):=by exact rfl) (C:szO P fs.toList 0=some sz:=by exact rfl) (E:zsO sz cs.toList=some zs:=by exact rfl) (F:(sz.all fun z=>Nat.blt 0 z)=true:=by exact rfl) (G:Nat.ble cs.size 100=true:=by exact rfl) (H:(Nat.blt nn 100000||(Nat.ble 350000 nn&&Nat.blt nn 400000))=true:=by exact rfl) (hnf:∀ v,U0.f (100000+nn)=some v->False):AOp P w0 U0 nt ops o gs [(nn,[])] S (a0F nn zs 0++[(d,.bp nn 0 []),(100000+nn,.obj)]):=b3y nn p r t u x y A B C E F G H hnf
theorem c2N (hg:Gd w0 U0 nt ops o gs S) (hd:o.dst=some d) (hn:Nat.blt d nt=true) (h5:Nat.blt d 100000=true) {x:Operand} {i:Int} {ty:TypeId} {n q p} (ho:o.op = .unOp .neg ty x) (hx:ev S x=some ⟨0,.sc (.int .i64 i),n,q,p⟩) (hb : -9223372036854775808<i/\i<=9223372036854775808):AOp P w0 U0 nt ops o (gs++rd x) [] S [(d,.val (.i (-i)))]:=
 j9 hg hd hn h5 (fun k hk=>mem_append_left _ hk) fun s hs a w D hv hm=>by
  have h1:=v7 hm (fun k hk=>hs k (mem_append_right _ hk)) hx;have hw:IntKind.i64.wrap (-i) = -i:=by rw [IntKind.wrap_i64];omega
  generalize a.eval=ρ at h1 |-;exact ⟨.int .i64 (-i),by simp [execOp,ho,h1,Op.unary,go_sem,hw],p6 rfl⟩
theorem zbs {P:Program} {w0:World} {U0:UX} {nt:Nat} {ops:Array Oper} {o:Oper} {S:Nat->Option AV} {gs:List Nat} {d:Nat} {x:Operand} {i:Int} {ty:TypeId} {n} {q} {p} (r:Gd w0 U0 nt ops o gs S:=by exact gN rfl) (t:o.dst=some d:=by exact rfl) (u:Nat.blt d nt=true:=by exact rfl) (v:Nat.blt d 100000=true:=by exact rfl) (y:o.op = .unOp .neg ty x:=by exact rfl) (z:ev S x=some ⟨0,.sc (.int .i64 i),n,q,p⟩:=by exact rfl) (A : -9223372036854775808<i/\i<=9223372036854775808:=by first | omega | (constructor<;>omega)):AOp P w0 U0 nt ops o (gs++rd x) [] S [(d,.val (.i (-i)))]:=c2N r t u v y z A
theorem b1A {t k e:TypeId} (hu:P.underlying t=some (.map k e)) (g:Nat) (w:World):(Op.equal t (.map (some g)) (.map none)).run P w = .ok false w:=by
 unfold Op.equal;rw [show Op.maxDepth=9999+1 from rfl,Op.equalIn];simp [run_underlying hu]
theorem b1q (hg:Gd w0 U0 nt ops o gs S) (hd:o.dst=some d) (hn:Nat.blt d nt=true) (h5:Nat.blt d 100000=true) {x:Operand} {t1 t2 e k:TypeId} {n:Nat} {l:List CV} (ho:o.op = .binOp .eql t1 x (.const (.map none)) t2) (hu:P.underlying t1=some (.map k e)) (hx:ev S x=some (.mref n)) (bQ:S n=some (.mp l)):AOp P w0 U0 nt ops o (gs++(rd x++[n])) [] S [(d,.val (.b false))]:=
 j9 hg hd hn h5 (fun k hk=>mem_append_left _ hk) fun s hs a w D hv hm=>by
  obtain ⟨kN,h1,_⟩:RN n/\a.eval x=hv n/\(a.eval x).oneCell'=true:=l9 hm (fun k hk=>hs k (mem_append_right _ (mem_append_left _ hk))) hx;have kH:l8 n:=by unfold RN at kN;unfold l8;omega
  obtain ⟨g,es,clock,g1,g2,g3,g4,g5⟩:∃ g es clock,hv n = .map (some g)/\w.heap[g]?=some (.map es clock)/\Ents (Us w0 U0 D) w l es.toList/\(∀ e∈es,e.born<clock)/\(es.toList.map (fun e:MapEntry=>e.born)).Nodup:=hm.obj n _ ((hs n (by simp)).trans bQ) kH;rw [g1] at h1;have hb:=b1A (P:=P) hu g w;have hc:a.eval (.const (.map none)) = .map none:=rfl;refine ⟨.bool false,?_,p6 rfl⟩;generalize a.eval=ρ at h1 hc |-;simp [execOp,ho,h1,hc,eqGuard,binOp,hb]
theorem zbt {P:Program} {w0:World} {U0:UX} {nt:Nat} {ops:Array Oper} {o:Oper} {S:Nat->Option AV} {gs:List Nat} {d:Nat} {x:Operand} {t1:TypeId} {t2:TypeId} {e:TypeId} {k:TypeId} {n:Nat} {l:List CV} (p:Gd w0 U0 nt ops o gs S:=by exact gN rfl) (q:o.dst=some d:=by exact rfl) (r:Nat.blt d nt=true:=by exact rfl) (t:Nat.blt d 100000=true:=by exact rfl) (u:o.op = .binOp .eql t1 x (.const (.map none)) t2:=by exact rfl) (v:P.underlying t1=some (.map k e):=by exact rfl) (y:ev S x=some (.mref n):=by exact rfl) (z:S n=some (.mp l):=by exact rfl):AOp P w0 U0 nt ops o (gs++(rd x++[n])) [] S [(d,.val (.b false))]:=b1q p q r t u v y z
theorem b4J (hg:Gd w0 U0 nt ops o gs S) (hd:o.dst=some d) (hn:Nat.blt d nt=true) (h5:Nat.blt d 100000=true) {x y:Operand} {t kt et:TypeId} {k k2:IntKind} {i z2:Int} {n:Nat} {l:List CV} {n' q' p'} (ho:o.op = .lookup t x y false) (hu:P.underlying t=some (.map kt et)) (fB:P.underlying kt=some (.int k)) (dY:(P.info? et).map (·.zero)=some (some (.int k2 z2))) (jB:V8 P et=some (.sc (.int k2 z2))) (hx:ev S x=some (.mref n)) (hy:ev S y=some ⟨0,.sc (.int k i),n',q',p'⟩) (bQ:S n=some (.mp l)) (hik:y6 k l):AOp P w0 U0 nt ops o (gs++(rd x++(rd y++[n]))) [] S [(d,.val ((F4 k i l).getD (.sc (.int k2 z2))))]:=
 j9 hg hd hn h5 (fun k hk=>mem_append_left _ hk) fun s hs a w D hv hm=>by
  obtain ⟨kN,h1,_⟩:RN n/\a.eval x=hv n/\(a.eval x).oneCell'=true:=l9 hm (fun k hk=>hs k (mem_append_right _ (mem_append_left _ hk))) hx;have e2:=v7 hm (fun k hk=>hs k (mem_append_right _ (mem_append_right _ (mem_append_left _ hk)))) hy;have kH:l8 n:=by unfold RN at kN;unfold l8;omega
  obtain ⟨g,es,clock,g1,g2,g3,g4,g5⟩:∃ g es clock,hv n = .map (some g)/\w.heap[g]?=some (.map es clock)/\Ents (Us w0 U0 D) w l es.toList/\(∀ e∈es,e.born<clock)/\(es.toList.map (fun e:MapEntry=>e.born)).Nodup:=hm.obj n _ ((hs n (by simp)).trans bQ) kH;obtain ⟨it,zv,i1,i2,i3⟩:=M7 jB;have dO:=run_checkKey (P:=P) (w:=w) fB (k := .int k i) rfl es.isEmpty 9999;have dX:=Go.MapKept.run_getObj_map (P:=P) g2;rcases L3 0 g3 hik (i:=i) with ⟨f1,f2⟩ | ⟨j,e,c,f1,f2,f3,f4,f5,f6⟩
  ·have cZ:=run_findKey (P:=P) (w:=w) fB f1;have sC:(zeroValue et).run P w = .ok zv w:=by simp [zeroValue,typeInfo,i1,i2]
   rw [i1,Option.map_some,i2] at dY;injection dY with dY;injection dY with dY;refine ⟨zv,?_,?_⟩
   ·rw [g1] at h1;generalize a.eval=ρ at h1 e2 |-;simp [execOp,ho,Instr.lookup,run_underlying hu,h1,e2,dX,dO,cZ,sC]
   ·rw [f2,dY];exact p6 rfl
  ·have cZ:=run_findKey (P:=P) (w:=w) fB f1;refine ⟨e.val,?_,?_⟩
   ·rw [g1] at h1;generalize a.eval=ρ at h1 e2 |-;simp [execOp,ho,Instr.lookup,run_underlying hu,h1,e2,dX,dO,cZ]
   ·rw [f6];exact n4 f4
theorem zbr {P:Program} {w0:World} {U0:UX} {nt:Nat} {ops:Array Oper} {o:Oper} {S:Nat->Option AV} {gs:List Nat} {d:Nat} {x:Operand} {y:Operand} {t:TypeId} {kt:TypeId} {et:TypeId} {k:IntKind} {k2:IntKind} {i:Int} {z2:Int} {n:Nat} {l:List CV} {n'} {q'} {p'} (p:Gd w0 U0 nt ops o gs S:=by exact gN rfl) (q:o.dst=some d:=by exact rfl) (r:Nat.blt d nt=true:=by exact rfl) (u:Nat.blt d 100000=true:=by exact rfl) (v:o.op = .lookup t x y false:=by exact rfl) (z:P.underlying t=some (.map kt et):=by exact rfl) (A:P.underlying kt=some (.int k):=by exact rfl) (B:(P.info? et).map (·.zero)=some (some (.int k2 z2)):=by exact rfl) (C:V8 P et=some (.sc (.int k2 z2)):=by exact rfl) (E:ev S x=some (.mref n):=by exact rfl) (F:ev S y=some ⟨0,.sc (.int k i),n',q',p'⟩:=by exact rfl) (G:S n=some (.mp l):=by exact rfl) (H:y6 k l):AOp P w0 U0 nt ops o (gs++(rd x++(rd y++[n]))) [] S [(d,.val ((F4 k i l).getD (.sc (.int k2 z2))))]:=b4J p q r u v z A B C E F G H
theorem a6Q (hg:Gd w0 U0 nt ops o gs S) (hd:o.dst=some d) (hn:Nat.blt d nt=true) (h5:Nat.blt d 100000=true) {x:Operand} {t1 t2 e k:TypeId} {n:Nat} {c:CV} {m q p} (ho:o.op = .binOp .eql t1 x (.const (.map none)) t2) (hu:P.underlying t1=some (.map k e)) (hx:ev S x=some (.mref n)) (bQ:S n=some ⟨17,c,m,q,p⟩):AOp P w0 U0 nt ops o (gs++(rd x++[n])) [] S [(d,.val (.b true))]:=
 j9 hg hd hn h5 (fun k hk=>mem_append_left _ hk) fun s hs a w D hv hm=>by
  obtain ⟨kN,h1,_⟩:RN n/\a.eval x=hv n/\(a.eval x).oneCell'=true:=l9 hm (fun k hk=>hs k (mem_append_right _ (mem_append_left _ hk))) hx;have kH:l8 n:=by unfold RN at kN;unfold l8;omega
  have g1:hv n = .map none:=(show OX _ _ _ _ from hm.obj n _ ((hs n (by simp)).trans bQ) kH).1.1 rfl;rw [g1] at h1;have hb:=b4s (P:=P) hu w;have hc:a.eval (.const (.map none)) = .map none:=rfl;refine ⟨.bool true,?_,p6 rfl⟩;generalize a.eval=ρ at h1 hc |-;simp [execOp,ho,h1,hc,eqGuard,binOp,hb]
theorem zbp {P:Program} {w0:World} {U0:UX} {nt:Nat} {ops:Array Oper} {o:Oper} {S:Nat->Option AV} {gs:List Nat} {d:Nat} {x:Operand} {t1:TypeId} {t2:TypeId} {e:TypeId} {k:TypeId} {n:Nat} {c:CV} {m} {q} {p} (r:Gd w0 U0 nt ops o gs S:=by exact gN rfl) (t:o.dst=some d:=by exact rfl) (u:Nat.blt d nt=true:=by exact rfl) (v:Nat.blt d 100000=true:=by exact rfl) (y:o.op = .binOp .eql t1 x (.const (.map none)) t2:=by exact rfl) (z:P.underlying t1=some (.map k e):=by exact rfl) (A:ev S x=some (.mref n):=by exact rfl) (B:S n=some ⟨17,c,m,q,p⟩:=by exact rfl):AOp P w0 U0 nt ops o (gs++(rd x++[n])) [] S [(d,.val (.b true))]:=a6Q r t u v y z A B
theorem b8E (k n:Nat) (hk:Nat.ble 500000 k=true) (hn:(Nat.ble 200000 n&&Nat.blt n 400000)=true) (hs:look s k=some (.val (.sc (.map none)))) (hr:y8 s [(n,[])]=true) (nR:S5 s n=true):Wk w0 U0 nt s ((k,.mref n)::(n,.nmap)::s):=by
 rintro a w ⟨D,hv,h⟩;have hk5:=Nat.le_of_ble_eq_true hk;have kN:=rnB hn;have fU:RN n:=RW.rn kN;unfold RW at kN;have sF:look s n=none:=by
  cases e:look s n with
  | none=>rfl
  | some av =>
   unfold S5 at nR;rw [all_eq_true] at nR;have:=nR _ (C7 e);simp [Nat.beq_refl] at this
 have jJ:S3 s n:=(q6 hr (n,[]) (by simp)).nr;obtain ⟨kG,gK⟩:∃ kG:Nat->Value,kG=fun x=>if x=n then .map none else hv x:=⟨_,rfl⟩
 have kR:∀ x,x≠n->kG x=hv x:=fun x hx=>by rw [gK];simp only [if_neg hx]
 have bK:kG n = .map none:=by rw [gK];simp
 obtain ⟨s',gD⟩:∃ s',s'=(k,AV.mref n)::(n,AV.nmap)::s:=⟨_,rfl⟩
 rw [<-gD];have kB:∀ x,x≠k->x≠n->look s' x=look s x:=fun x h1 h2=>by rw [gD,lN (Ne.symm h1),lN (Ne.symm h2)]
 have nY:look s' k=some (.mref n):=by rw [gD,lS]
 have nZ:look s' n=some .nmap:=by rw [gD,lN (by omega),lS]
 have hl:∀ q e,t7 s' q e↔t7 s q e:=fun q e=>by
  unfold t7;by_cases e1:q=k
  ·omega
  ·by_cases e2:q=n
   ·subst e2;rw [nZ,sF];constructor<;>(rintro ⟨h1,_⟩;cases h1)
   ·rw [kB q e1 e2]
 have kL:a9 s'=a9 s:=by funext q;simp only [a9,hl]
 have jZ:∀ {k' av v},look s k'=some av->AVRep (Us w0 U0 D) w hv (a9 s) av v->AVRep (Us w0 U0 D) w kG (a9 s) av v:=fun {k' av v} h1 h2 =>
  h2.move (fun _ _ _ h1 h2=>⟨h1,h2⟩) (fun _ h=>h) fun h3=>kR _ (a1R fU (jJ k' av h1).1 h3)
 refine ⟨D,kG,h.below,h.dfr,h.size,fun d av g1 g2=>?_,fun m o av g1 g2 g3 g4=>?_,fun m o o' av av' g1 g2 g3 g4 g5=>?_,fun k' av g1 g2=>?_,fun k' av g g1 g2 g3 g4=>?_,fun k' k2 av av' g g1 g2 g3 g4 g5 g6 g7 g8=>?_,fun k' v g1=>?_,h.dlt⟩
 ·rw [kB d (by omega) (by omega)] at g1;rw [kL];obtain ⟨v,h1,h2⟩:=h.slot d av g1 g2;exact ⟨v,h1,jZ g1 h2⟩
 ·have fI:=G3 g4;unfold l8 at fI;unfold BN at g4;rw [kB (100000+m) (by omega) (by omega)] at g3;rw [kL,kR (100000+m) (by omega)];by_cases e:f0 m o=k
  ·rw [e,nY] at g1;cases g1;obtain ⟨v,h1,h2,h3⟩:=h.fld m o _ (by rw [e];exact hs) g2 g3 g4;obtain ⟨h4,_⟩:=n8.1 h1.1;subst h4;exact ⟨.map none,⟨fU,bK.symm,rfl⟩,rfl,h3⟩
  ·rw [kB _ e (by unfold f0;omega)] at g1;obtain ⟨v,h1,h2,h3⟩:=h.fld m o av g1 g2 g3 g4;exact ⟨v,jZ g1 h1,h2,h3⟩
 ·have conv:∀ o (av:AV),look s' (f0 m o)=some av->∃ av',look s (f0 m o)=some av'/\av'.sz=av.sz:=fun o av f1=>by
   by_cases e:f0 m o=k
   ·rw [e,nY] at f1;cases f1;exact ⟨.val (.sc (.map none)),by rw [e];exact hs,rfl⟩
   ·rw [kB _ e (by unfold f0;omega)] at f1;exact ⟨av,f1,rfl⟩
  obtain ⟨a1,b1,c1⟩:=conv o av g1
  obtain ⟨a2,b2,c2⟩:=conv o' av' g2
  rw [<-c1];exact h.fdis m o o' a1 a2 b1 b2 g3 g4 g5
 ·unfold l8 at g2;rw [kL];by_cases e:k'=n
  ·subst e;rw [nZ] at g1;cases g1;rw [bK];exact ⟨⟨fun _=>rfl,(fun e=>by cases e)⟩,(fun e=>by cases e),(fun e=>by cases e),(fun e=>by cases e)⟩
  ·rw [kB k' (by omega) e] at g1;rw [kR k' e];exact (h.obj k' av g1 g2).move (fun _ _ _ h1 h2=>⟨h1,h2⟩) (fun ht hl=>⟨hl,by
    unfold I2;rw [kR _ (jJ k' av g1).1]⟩) (fun _ _=>rfl)
 ·unfold l8 at g2;by_cases e:k'=n
  ·subst e;rw [bK] at g4;cases g4
  ·rw [kB k' (by omega) e] at g1;rw [kR k' e] at g4 |-;exact h.blk k' av g g1 g2 g3 g4
 ·unfold l8 at g3 g4;by_cases e:k'=n
  ·subst e;rw [bK] at g8;cases g8
  ·by_cases e2:k2=n
   ·subst e2;rw [bK];intro h9;cases h9
   ·rw [kB k' (by omega) e] at g1;rw [kB k2 (by omega) e2] at g2;rw [kR k' e] at g8;rw [kR k2 e2];exact h.disj k' k2 av av' g g1 g2 g3 g4 g5 g6 g7 g8
 ·have:=U0.hf k' v g1;rw [kR k' (by omega)];exact h.fix k' v g1
end
def b3H (L D:Nat) (Kp:World->World->Prop) (I:World->Prop) (W:World):Exit->Act->World->Prop
 | .normal,_,W'=>W'.heap[L]?=W.heap[L]?/\W'.heap[D]?=W.heap[D]?/\Kp W W'/\I W'
 | _,_,_=>False
section
variable {α:Type} {P:Program}
theorem b4p {g:Operand} {ps:Array Tmp} {assign body:Code} {Q:Exit->Act->World->Prop} {a:Act} {w:World} {gf:Nat} {lb:Array Value}
  (hg:a.eval g = .func (.func gf) #[] lb) (eg:∀ args w,(callFunc gf args).run P w = .ok (.enter gf args) w)
  {encs:α->Array Value} {Ok:List α->α->Prop} {Kp:World->World->Prop} {S:List α->Prop} (nG:a2J P gf lb encs (fun pre x _=>Ok pre x) Kp S w)
  (pP:∀ {A B C:World},Kp A B->Kp B C->Kp A C)
  (pQ:∀ (W:World) (l:Nat) (o':Obj),w.heap.size<=l->Kp W (W.putObj l o'))
  (bE:∀ x,(encs x).size=ps.size) (I:List α->World->Prop) (hI:∀ pre A B,I pre A->Below A.heap.size A B->I pre B)
  (lC:∀ (pre:List α) (A:World) (r r':Loop),I pre A->A.heap[w.heap.size+1]?=some (.loop r)->I pre (A.putObj (w.heap.size+1) (.loop r')))
  (h0:∀ r:Loop,I [] ((w.alloc (.deferred (some []))).alloc (.loop r))) (a₁:α->Act)
  (cB:∀ (x:α) (W:World) (K:Act->World->Prop),K (a₁ x) W ->
   assign.wpIn (Fence.wide.inRound (w.heap.size+1)) 1 P (Exit.then K (fun _ _ _=>False)) { tmps:=(ps.zip (encs x)).foldl (fun t (p,v)=>t.setIfInBounds p v) a.tmps,defers:=[] } W)
  (fF:∀ (pre:List α) (x:α) (W:World),I pre W->Ok pre x->w.heap.size+2<=W.heap.size->body.wpIn (Fence.wide.inRound (w.heap.size+1)) 1 P (b3H (w.heap.size+1) w.heap.size Kp (I (pre++[x])) W) (a₁ x) W)
  (dF:∀ (xs:List α) (W:World),S xs->I xs W->W.heap[w.heap.size]?=some (.deferred (some []))->Q .normal { a with defers:={ target := .collected w.heap.size,args := #[] }::a.defers } W) :
  (Code.rangeFunc g ps assign body).wpIn Fence.wide 3 P Q a w:=by
 refine wpIn_rangeFunc fun fn dM=>?_;obtain ⟨D,hD⟩:∃ D,D=w.heap.size:=⟨_,rfl⟩
 rw [<-hD] at lC cB fF dF pQ;obtain ⟨W1,gX⟩:∃ W1,W1=(w.alloc (.deferred (some []))).alloc (.loop (o8 fn a.tmps ps assign body D .ready)):=⟨_,rfl⟩
 have below1:Below w.heap.size w W1:=by rw [gX];exact ((Below.refl _ w).alloc (Nat.le_refl _) _).alloc (by simp) _
 have atL:W1.heap[D+1]?=some (.loop (o8 fn a.tmps ps assign body D .ready)):=by have:=World.alloc_heap_new (w.alloc (.deferred (some []))) (.loop (o8 fn a.tmps ps assign body D .ready));rw [World.size_alloc,<-hD,<-gX] at this;exact this
 have atD:W1.heap[D]?=some (.deferred (some [])):=by have h:=World.alloc_heap_new w (.deferred (some []));rw [<-hD] at h;rw [gX,Below.heap_alloc _ _ _ (by simp;omega)];exact h
 refine ⟨D+1,[{ target := .collected D,args := #[] }],W1,{ target := .fn (.func gf) lb,args := #[.func (.yield (D+1)) #[] #[]] },W1,gf,#[.func (.yield (D+1)) #[] #[]]++lb,W1,?_,?_,fun _ _=>trivial,?_,(fun _=>by omega),?_⟩
 ·rw [gX,hD];exact run_enterLoop_outer _ _ _ _ _
 ·simp only [resolve,hg];simp [go_sem]
 ·simp [invoke,go_sem,eg]
 refine (nG (D+1) (fun pre V=>I pre V/\V.heap[D+1]?=some (.loop (o8 fn a.tmps ps assign body D .ready))/\V.heap[D]?=some (.deferred (some []))) W1 below1 ?abides ?rounds ⟨by rw [gX];exact h0 _,atL,atD⟩).mono ?after
 case abides =>
  rintro pre A B ⟨h1,h2,h3⟩ hb;exact ⟨hI _ _ _ h1 hb,(hb.block _ (Array.getElem?_eq_some_iff.1 h2).1).trans h2,(hb.block _ (Array.getElem?_eq_some_iff.1 h3).1).trans h3⟩
 case rounds =>
  rintro pre x V ⟨h1,h2,h3⟩ hx;have kA:=(Array.getElem?_eq_some_iff.1 h2).1;have hy:=run_yield (P:=P) (args:=encs x) h2 (bE x);refine ⟨fn,_,assign,body,hy,roundIn_of_wpIn dM (cB x V _ ⟨_,run_beginRound h2 rfl,?_⟩)⟩;have b2:(V.putObj (D+1) (.loop (o8 fn a.tmps ps assign body D .busy))).heap[D+1]?=some (.loop (o8 fn a.tmps ps assign body D .busy)):=World.putObj_heap_same kA;have b3:(V.putObj (D+1) (.loop (o8 fn a.tmps ps assign body D .busy))).heap[D]?=some (.deferred (some [])):=(World.putObj_heap_other (by omega)).trans h3;refine wpIn_mono (fF pre x (V.putObj (D+1) (.loop (o8 fn a.tmps ps assign body D .busy))) (lC _ _ _ _ h1 h2) hx (by rw [World.putObj_size];omega)) ?_;rintro e a3 U hp;cases e with
  | normal =>
   obtain ⟨k0,k1,k2,k3⟩:=hp;have u2:=k0.trans b2;have u3:=k1.trans b3;have hr:=run_endRound (P:=P) none u2;refine ⟨_,_,hr,rfl,⟨lC _ _ _ _ k3 u2,World.putObj_heap_same (Array.getElem?_eq_some_iff.1 u2).1,(World.putObj_heap_other (by omega)).trans u3⟩,?_⟩;exact pP (pP (pQ _ _ _ (by omega)) k2) (pQ _ _ _ (by omega))
  | ret=>exact hp.elim
  | exit _=>exact hp.elim
  | goto _=>exact hp.elim
  | panic _=>exact hp.elim
  | outgrown=>exact hp.elim
 case after =>
  rintro e V ⟨⟨v,rfl⟩,xs,hS,h1,h2,h3⟩;exact ⟨none,_,run_endLoop (P:=P) h2 (by simp [o8]),dF xs _ hS (lC _ _ _ _ h1 h2) ((World.putObj_heap_other (by omega)).trans h3)⟩
end
section
variable {P:Program} {w0:World} {U0:UX} {nt:Nat} {ops:Array Oper} {o:Oper} {S:Nat->Option AV} {gs:List Nat} {d:Nat} {s:AS} {a:Act} {w:World} {D:Nat->Nat->Prop} {hv:Nat->Value}
abbrev AV.ob (g o:Nat):AV:=⟨20,.sc (.pointer (some ⟨g,0,none⟩)),0,o,[]⟩
theorem SimG.newob (h:SimG w0 U0 nt s a w D hv) {n o:Nat} (hn:RW n) (hr:S3 s n) {x:Obj} (hx:∀ xs ty fl,x ≠ .cells xs ty fl) (ho:o=0->x = .deferred (some [])):SimG w0 U0 nt ((n,.ob w.heap.size o)::s) a (w.alloc x) D (fun k=>if k=n then .pointer (some ⟨w.heap.size,0,none⟩) else hv k):=by
 have hb':Below w.heap.size w (w.alloc x):=(Below.refl _ _).alloc (Nat.le_refl _) _;exact h.newrow (X:=fun _=>False) (avn := .ob w.heap.size o) (v' := .pointer (some ⟨w.heap.size,0,none⟩)) (D':=D) hn hr (fun e=>by cases e) ((BelowX.refl _ w).step hb') (fun b hb=>hb.elim) (fun g hg=>by have hg:some w.heap.size=some g:=hg;cases hg;refine ⟨.inr (Nat.le_refl _),by simp,fun o _ hd=>?_⟩;have:=h.dlt _ _ hd;omega) (fun b o hd => .inl hd) (fun b o hd=>Nat.lt_of_lt_of_le (h.dlt _ _ hd) hb'.size) (P5 h.dlt hb' fun _ _ h=>h) (fun hv lv=>⟨⟨(fun e=>by cases e),(fun e=>by cases e)⟩,fun _=>⟨rfl,w.heap.size,x,rfl,w7 _ _,hx,ho⟩,(fun e=>by cases e),(fun e=>by cases e)⟩)
theorem SimG.putob (h:SimG w0 U0 nt s a w D hv) {n o o':Nat} (hn:RW n) {g:Nat} (hs:look s n=some (.ob g o)) {x:Obj} (hx:∀ xs ty fl,x ≠ .cells xs ty fl) (ho:o'=0->x = .deferred (some [])):SimG w0 U0 nt ((n,.ob g o')::s) a (w.putObj g x) D hv/\g<w.heap.size/\hv n = .pointer (some ⟨g,0,none⟩)/\∃ y,w.heap[g]?=some y/\(o=0->y = .deferred (some [])):=by
 have kH:l8 n:=by unfold RW at hn;unfold l8;omega
 have hO:OX _ _ _ _:=h.obj n _ hs kH;obtain ⟨e1,g',y,e2,e3,e4,e5⟩:=hO.2.1 rfl;have e1:hv n = .pointer (some ⟨g,0,none⟩):=e1;have hg:g'=g:=by rw [e1] at e2;injection e2 with e2;injection e2 with e2;injection e2 with e2;exact e2.symm
 subst hg;have kA:g'<w.heap.size:=(Array.getElem?_eq_some_iff.1 e3).1;refine ⟨h.upd (av := .ob g' o') (w':=w.putObj g' x) kH hs (fun e=>by cases e) (fun e=>by cases e) rfl (fun g hh o ho=>hh o fun e=>by cases e) (fun e=>by cases e) (g:=g') (by rw [e1];rfl) rfl rfl rfl (by simp) (fun k hk=>World.putObj_heap_other hk) fun hc=>⟨⟨(fun e=>by cases e),(fun e=>by cases e)⟩,fun _=>⟨e1,g',x,e1,World.putObj_heap_same kA,hx,ho⟩,(fun e=>by cases e),(fun e=>by cases e)⟩,kA,e1,y,e3,e5⟩
theorem SimG.frame {V:UX} {pre sl:AS} (h:SimG w V 0 pre ⟨#[],[]⟩ w (fun _ _=>False) hv) (gC:(kO pre).all (Nat.ble 100000)=true) (dH:(kO sl).all (fun k=>Nat.blt k 100000)=true) {tmps:Array Value} (kC:tmps.size=nt)
  (hsv:∀ d av,look sl d=some av->∃ v,tmps[d]?=some v/\AVRep (Us w V (fun _ _=>False)) w hv (a9 pre) av v):SimG w V nt (sl++pre) ⟨tmps,[]⟩ w (fun _ _=>False) hv:=by
 have kV:∀ {k av},look pre k=some av->100000<=k:=fun {k av} h1=>by rw [all_eq_true] at gC;exact Nat.le_of_ble_eq_true (gC k (i8 h1))
 have cS:∀ {k av},look sl k=some av->k<100000:=fun {k av} h1=>by rw [all_eq_true] at dH;exact bL (dH k (i8 h1))
 have kB:∀ {k},100000<=k->look (sl++pre) k=look pre k:=fun {k} h1=>by
  rw [b9];cases h2:look sl k with
  | none=>rfl
  | some av=>have:=cS h2;omega
 have kI:a9 (sl++pre)=a9 pre:=by
  funext n;unfold a9 t7;apply propext;constructor
  ·rintro (h1 | ⟨e,h1,h2,h3⟩)
   ·exact .inl h1
   ·rw [kB (by omega)] at h1;exact .inr ⟨e,h1,h2,h3⟩
  ·rintro (h1 | ⟨e,h1,h2,h3⟩)
   ·exact .inl h1
   ·exact .inr ⟨e,by rw [kB (by omega)];exact h1,h2,h3⟩
 refine ⟨h.below,rfl,kC,fun d av h1 h2=>?_,fun n o av h1 h2 h3 h4=>?_,fun n o o' av av' h1 h2=>?_,fun k av h1 h2=>?_,fun k av g h1 h2=>?_,fun k k' av av' g h1 h2 h3 h4=>?_,h.fix,fun b o hd=>hd.elim⟩
 ·rw [b9] at h1;cases h3:look sl d with
  | none=>rw [h3] at h1;have:=kV h1;omega
  | some av' =>
   rw [h3] at h1;cases h1;rw [kI];exact hsv d av h3
 ·rw [kB (by unfold f0;omega)] at h1;rw [kB (by omega)] at h3;rw [kI];exact h.fld n o av h1 h2 h3 h4
 ·rw [kB (by unfold f0;omega)] at h1 h2;exact h.fdis n o o' av av' h1 h2
 ·rw [kB h2.1] at h1;rw [kI];exact h.obj k av h1 h2
 ·rw [kB h2.1] at h1;exact h.blk k av g h1 h2
 ·rw [kB h3.1] at h1;rw [kB h4.1] at h2;exact h.disj k k' av av' g h1 h2 h3 h4
theorem SimG.bare (h:SimG w0 U0 nt s a w D hv) {post:AS} (hp:Sub s post) (kQ:(kO post).all (Nat.ble 100000)=true):SimG w0 U0 0 post ⟨#[],[]⟩ w D hv:=by
 have hS:=h.sub hp;have gT:∀ {k av},look post k=some av->100000<=k:=fun {k av} h1=>by rw [all_eq_true] at kQ;exact Nat.le_of_ble_eq_true (kQ k (i8 h1))
 exact ⟨hS.below,rfl,rfl,fun d av h7 h8=>by have:=gT h7;omega,hS.fld,hS.fdis,hS.obj,hS.blk,hS.disj,hS.fix,hS.dlt⟩
end
def KpX (n0:Nat) (X:Nat->Prop) (V V':World):Prop:=∀ b,b<n0->¬ X b->V'.heap[b]?=V.heap[b]?
def c0z {α:Type} (P:Program) (gf:Nat) (caps:List CV) (encC:α->List CV) (xs:List α):Prop:=
 ∀ (w:World) (lb:List Value) (R:Nat->Nat->Prop),VReps R w caps lb->a2J P gf lb.toArray (fun x=>((encC x).map CV.v).toArray) (fun pre x _=>xs[pre.length]?=some x) (KpX w.heap.size fun b=>¬ ∃ o,R b o) (fun ys=>ys=xs) w
def c0r:List Oper->Option (List (Nat×Nat))
 | []=>some []
 | o::os=>match o.dst,o.op,o.guard,c0r os with
  | some d,.assign (.tmp t),none,some r=>some ((d,t)::r)
  | _,_,_,_=>none
def b5d:List (Nat×Nat)->Array Value->Array Value
 | [],tm=>tm
 | (d,t)::r,tm=>b5d r (tm.setIfInBounds d (tm.getD t undef))
def b8G:List (Nat×Nat)->AS->AS
 | [],s=>s
 | (d,t)::r,s=>b8G r ((d,match look s t with | some av=>av | none => .no)::s)
def a5Y:List Tmp->List Value->Array Value->Array Value
 | p::ps,v::vs,tm=>a5Y ps vs (tm.setIfInBounds p v)
 | _,_,tm=>tm
def b9z:List Tmp->List CV->AS->AS
 | p::ps,c::cs,s=>b9z ps cs ((p,.val c)::s)
 | _,_,s=>s
def SlOk (R:AV->Value->Prop) (s:AS) (tm:Array Value):Prop:=∀ d av,look s d=some av->∃ v,tm[d]?=some v/\R av v
theorem SlOk.set {R:AV->Value->Prop} {s:AS} {tm:Array Value} (h:SlOk R s tm) {d:Nat} (hd:d<tm.size) {av:AV} {v:Value} (hv:R av v):SlOk R ((d,av)::s) (tm.setIfInBounds d v):=by
 intro d' av' h1;rw [j8] at h1;split at h1
 ·rename_i e;subst e;cases h1;exact ⟨v,by simp [hd],hv⟩
 ·rename_i e;obtain ⟨u,h2,h3⟩:=h d' av' h1;exact ⟨u,by rw [Array.getElem?_setIfInBounds_ne (by omega)];exact h2,h3⟩
theorem SlOk.asg {R:AV->Value->Prop} (gA:∀ v,R .no v):∀ {al:List (Nat×Nat)} {s:AS} {tm:Array Value},SlOk R s tm->(al.all fun p=>Nat.blt p.1 tm.size)=true->SlOk R (b8G al s) (b5d al tm)/\(b5d al tm).size=tm.size
 | [],s,tm,h,_=>⟨h,rfl⟩
 | (d,t)::r,s,tm,h,hl=>by
  rw [all_cons,Bool.and_eq_true] at hl;have hd:=bL hl.1;have:=SlOk.asg gA (al:=r) (s:=(d,match look s t with | some av=>av | none => .no)::s) (tm:=tm.setIfInBounds d (tm.getD t undef)) (h.set hd ?_) (by rw [Array.size_setIfInBounds];exact hl.2)
  ·exact ⟨this.1,by rw [b5d,this.2,Array.size_setIfInBounds]⟩
  ·cases e:look s t with
   | none=>exact gA _
   | some av =>
    obtain ⟨v,h1,h2⟩:=h t av e;show R av _;simp only [Array.getD_eq_getD_getElem?,h1,Option.getD_some];exact h2
theorem SlOk.par {R:AV->Value->Prop}:∀ {ps:List Tmp} {cs:List CV} {s:AS} {tm:Array Value},SlOk R s tm->(ps.all fun p=>Nat.blt p tm.size)=true->(∀ c∈cs,R (.val c) c.v)->SlOk R (b9z ps cs s) (a5Y ps (cs.map CV.v) tm)/\(a5Y ps (cs.map CV.v) tm).size=tm.size
 | [],cs,s,tm,h,_,_=>⟨by cases cs<;>exact h,by cases cs<;>rfl⟩
 | p::ps,[],s,tm,h,_,_=>⟨h,rfl⟩
 | p::ps,c::cs,s,tm,h,hl,hc=>by
  rw [all_cons,Bool.and_eq_true] at hl;have:=SlOk.par (ps:=ps) (cs:=cs) (s:=(p,.val c)::s) (tm:=tm.setIfInBounds p c.v) (h.set (bL hl.1) (hc c (by simp))) (by rw [Array.size_setIfInBounds];exact hl.2) (fun c' uY=>hc c' (mem_cons_of_mem _ uY));exact ⟨this.1,by show (a5Y ps (cs.map CV.v) (tm.setIfInBounds p c.v)).size=_;rw [this.2,Array.size_setIfInBounds]⟩
theorem b2f:∀ (ps:List Tmp) (vs:List Value) (tm:Array Value),(ps.toArray.zip vs.toArray).foldl (fun t (p,v)=>t.setIfInBounds p v) tm=a5Y ps vs tm:=by
 intro ps vs tm;rw [List.zip_toArray,List.foldl_toArray]
 induction ps generalizing vs tm with
 | nil=>cases vs<;>rfl
 | cons p ps ih =>
  cases vs with
  | nil=>rfl
  | cons v vs=>rw [List.zip_cons_cons,List.foldl_cons];exact ih vs _
theorem b2F {P:Program} {ro:Option Nat} {ops:Array Oper} {Q:Exit->Act->World->Prop}:∀ {l:List Oper} {al:List (Nat×Nat)} {tm:Array Value} {ds:List Deferred} {w:World},c0r l=some al->Q .normal ⟨b5d al tm,ds⟩ w->wpListIn (A8 ro) 1 P ops Q l ⟨tm,ds⟩ w
 | [],al,tm,ds,w,h,hq=>by cases h;exact hq
 | o::os,al,tm,ds,w,h,hq=>by
  rw [c0r] at h;split at h
  ·rename_i d t r h1 h2 h3 h4;cases h;unfold wpListIn;rw [if_pos (by simp [Region.wanted,h3])];refine ⟨fun _ _=>trivial,?_⟩;have hs:(o.semAt (A8 ro).round (Act.eval ⟨tm,ds⟩))=pure (.value (tm.getD t undef)):=by rw [Oper.semAt_eq _ _ _ (fun c hc=>by rw [h2] at hc;cases hc)];simp only [execOp,h2];rfl
   rw [hs];show wpListIn _ _ _ _ _ _ _ _;rw [h1];exact b2F h4 hq
  ·cases h
section
variable {P:Program} {w0:World} {U0:UX} {nt:Nat} {s:AS}
theorem b7g {n m:Nat} {c:Code} {Q:Exit->Act->World->Prop} {a:Act} {w:World} (h:c.wpIn Fence.wide n P Q a w):c.wpIn Fence.wide m P Q a w:=
 fun b k cs h1 h2 _=>h b k cs h1 h2 (room_wide _)
def a1G (P:Program) (w0:World) (U0:UX) (nt:Nat) (c:Code) (Q:Exit->AS->Nat->Prop) (s:AS):Prop:=
 ∀ a w,Sim w0 U0 nt s a w->c.wpIn Fence.wide 1 P (fun e a' w'=>∃ s' a'' g,Q e s' g/\Sim w0 U0 nt s' a'' w'/\a'=wdA a'' [⟨.collected g,#[]⟩]/\look s' 299999=some (.ob g 0)) a w
theorem I0 {x y:Code} {Q:Exit->AS->Nat->Prop} (h:AWp P w0 U0 nt x (fun e s'=>e = .normal/\a1G P w0 U0 nt y Q s') s):a1G P w0 U0 nt (.seq x y) Q s:=fun a w hs=>by
 have:=h ⟨none,[]⟩ a w hs;unfold WP at this;rw [a0h hs.df] at this;refine wpIn_seq (wpIn_mono this ?_);rintro e a' w' ⟨a'',rfl,s',⟨rfl,h2⟩,h3⟩;show Code.wpIn _ _ _ _ _ _ _;rw [a0h h3.df];exact h2 a'' w' h3
theorem a5V {x y:Code} {Q:Exit->AS->Nat->Prop} (h:a1G P w0 U0 nt x (fun e s' g=>e = .normal/\AWp P w0 U0 nt y (fun e s2=>Q e s2 g/\look s2 299999=some (.ob g 0)) s') s):a1G P w0 U0 nt (.seq x y) Q s:=fun a w hs=>by
 refine wpIn_seq (wpIn_mono (h a w hs) ?_);rintro e a' w' ⟨s',a'',g,⟨rfl,h2⟩,h3,rfl,h4⟩;show Code.wpIn _ _ _ _ _ _ _;refine wpIn_mono (h2 ⟨none,[⟨.collected g,#[]⟩]⟩ a'' w' h3) ?_;rintro e b w2 ⟨b',rfl,s2,⟨h5,h6⟩,h7⟩;exact ⟨s2,b',g,h5,h7,rfl,h6⟩
theorem a0E {id:Nat} {c:Code} {Q:Exit->AS->Nat->Prop} (h:a1G P w0 U0 nt c (fun e s' g=>e = .normal/\Q .normal s' g) s):a1G P w0 U0 nt (.block id c) Q s:=fun a w hs=>by
 refine wpIn_block (wpIn_mono (h a w hs) ?_);rintro e a' w' ⟨s',a'',g,⟨rfl,h2⟩,h3⟩;exact ⟨s',a'',g,h2,h3⟩
theorem b0K {α:Type} {g:Operand} {ps:List Tmp} {rid:Nat} {l:List Oper} {body:Code} {gf:Nat} {caps:List CV} {encC:α->List CV} {xs:List α} {al:List (Nat×Nat)} {n1 q1 p1} (ob:Nat->AS) (sl:AS)
  (iB:ev (look s) g=some ⟨0,.fn gf 0 caps,n1,q1,p1⟩) (oA:a2V P gf) (hG:c0z P gf caps encC xs)
  (hasg:c0r l=some al) (fJ:(al.all fun p=>Nat.blt p.1 nt&&Nat.blt p.1 100000)=true) (bE:(ps.all fun p=>Nat.blt p nt&&Nat.blt p 100000)=true) (lF:∀ x∈xs,∀ c∈encC x,∃ v,c = .sc v/\v.oneCell'=true) (kD:∀ x,(encC x).length=ps.length)
  (dH:SubL s sl) (cQ:(kO sl).all (fun k=>Nat.blt k 100000)=true) (oB:SubL s (ob 0))
  (fK:∀ k,(ob k).all E4=true) (cL:∀ k,(ob k).all (G1 (kO (ob k)))=true) (gU:∀ k,kO (ob k)=kO (ob 0))
  (vC:((kO (ob 0)).all fun k=>Nat.ble 300000 k)=true) (jJ:y8 s ((299999,[])::(299998,[])::I8 (kO (ob 0)) (kO (ob 0)) (kO (ob 0)))=true)
  (oS:((I8 (kO (ob 0)) (kO (ob 0)) (kO (ob 0))).all fun q=>!Nat.beq q.1 0&&(!Nat.beq q.1 100000&&!Nat.beq q.1 1100000))=true)
  (cM:∀ k x,xs[k]?=some x->∀ (w:World) (U:UX),(∀ k' v,U.f k'=some v->l7 (kO (ob k)) k'=true)->AWp P w U nt body (fun e s'=>e = .normal/\Wk w U nt s' (ob (k+1))) (b8G al (b9z ps (encC x) sl)++ob k)) :
  a1G P w0 U0 nt (.rangeFunc g ps.toArray (.region rid l.toArray false) body) (fun e s' m=>e = .normal/\s'=ob xs.length++((299998,.ob (m+1) 1)::(299999,.ob m 0)::s)) s:=by
 rintro a w ⟨D0,hv0,h⟩;obtain ⟨ys,lb,e1,e2,e3,e4⟩:=T9.1 (y7 h (fun k _=>rfl) iB);have eX:ys=[]:=eq_nil_of_length_eq_zero e2;subst eX;have eJ:VReps (Us w0 U0 D0) w caps lb:=R8 e4 (by simpa using e3);obtain ⟨lp,cG⟩:∃ lp:AS,lp=(299998,AV.ob (w.heap.size+1) 1)::(299999,AV.ob w.heap.size 0)::s:=⟨_,rfl⟩
 have oZ:=q6 jJ;have eK:∀ {k av k'},look (ob k) k'=some av->300000<=k':=fun {k av k'} h1=>by rw [all_eq_true] at vC;refine Nat.le_of_ble_eq_true (vC k' ?_);rw [<-gU k];exact i8 h1
 have hL:look lp 299998=some (.ob (w.heap.size+1) 1):=by rw [cG,lS]
 have hDf:look lp 299999=some (.ob w.heap.size 0):=by rw [cG,lN (by omega),lS]
 have fW:∀ {k k':Nat},k'<300000->look (ob k++lp) k'=look lp k':=fun {k k'} h1=>by
  rw [b9];cases e:look (ob k) k' with
  | none=>rfl
  | some av=>have:=eK e;omega
 have iO:∀ k,Sub (ob k++lp) (ob k):=fun k k' av h1=>by rw [b9,h1];rfl
 let I:List α->World->Prop:=fun pre V=>∃ D hv,(∀ b o,D0 b o->D b o)/\SimG w0 U0 nt (ob pre.length++lp) a V D hv
 have lC:∀ (pre:List α) (A:World) (r r':Loop),I pre A->A.heap[w.heap.size+1]?=some (.loop r)->I pre (A.putObj (w.heap.size+1) (.loop r')):=by
  rintro pre A r r' ⟨D,hv,hd,hS⟩ hr;obtain ⟨h1,_⟩:=hS.putob (n:=299998) (o:=1) (o':=1) (by unfold RW;omega) (by rw [fW (by omega)];exact hL) (x := .loop r') (fun _ _ _ e=>by cases e) (fun e=>by cases e);refine ⟨D,hv,hd,h1.congr fun k=>?_⟩;rw [j8];split
  ·rename_i e;subst e;rw [fW (by omega)];exact hL
  ·rfl
 have fE:∀ {k},k<300000->look (ob 0) k=none:=fun {k} hk=>by
  cases e:look (ob 0) k with
  | none=>rfl
  | some av=>have:=eK e;omega
 have h0:∀ r:Loop,I [] ((w.alloc (.deferred (some []))).alloc (.loop r)):=fun r=>by
  have h1:=h.newob (n:=299999) (o:=0) (by unfold RW;omega) (oZ (299999,[]) (by simp)).nr (x := .deferred (some [])) (fun _ _ _ e=>by cases e) (fun _=>rfl);have sG:S3 ((299999,AV.ob w.heap.size 0)::s) 299998:=fun k av hk=>by
   rw [j8] at hk;split at hk
   ·rename_i e;subst e;cases hk;exact ⟨by show (0:Nat)≠299998;decide,by decide,by decide⟩
   ·exact (oZ (299998,[]) (by simp)).nr k av hk
  have h2:=h1.newob (n:=299998) (o:=1) (by unfold RW;omega) sG (x := .loop r) (fun _ _ _ e=>by cases e) (fun e=>by cases e);rw [show (w.alloc (.deferred (some []))).heap.size=w.heap.size+1 by simp,<-cG] at h2;refine ⟨D0,_,fun _ _ h=>h,h2.congr fun k=>?_⟩;show look (ob 0++lp) k=_;rw [b9];cases e:look (ob 0) k with
  | none=>rfl
  | some av =>
   have h3:=eK e;have h4:=oB.sub k av e;show some av=_;rw [cG,lN (by omega),lN (by omega),h4]
 have eQ:(w.heap.size+1)=(w.heap.size+1):=rfl;refine b7g (b4p (gf:=gf) (lb:=lb.toArray) (by rw [e1]) oA (Ok:=fun pre x=>xs[pre.length]?=some x) (hG w lb (Us w0 U0 D0) eJ) (fun {A B C} h1 h2 b hb hx=>(h2 b hb hx).trans (h1 b hb hx)) (fun W l o' hl b hb hx=>World.putObj_heap_other (by omega)) (fun x=>by simp [kD]) I (fun pre A B ⟨D,hv,hd,hS⟩ hb=>⟨D,hv,hd,hS.grow' hb⟩) lC h0
  (fun x=>⟨b5d al (a5Y ps ((encC x).map CV.v) a.tmps),[]⟩) (fun x W K hK=>?_) (fun pre x W hI hx kC=>?_) (fun ys W eX hI hD=>?_))
 ·rw [b2f];exact wpIn_region_lit (b2F (ro:=some (w.heap.size+1)) hasg hK)
 ·obtain ⟨D,hv,hd,hS⟩:=hI;obtain ⟨k,hk⟩:∃ k,k=pre.length:=⟨_,rfl⟩
  rw [<-hk] at hx hS;obtain ⟨V,v1,v2,v3,v4,v5,v6⟩:=hS.lend (iO k) (fK k);have oC:((kO (ob k)).all (Nat.ble 100000))=true:=by rw [gU k,all_eq_true];intro q hq;have:=Nat.le_of_ble_eq_true (all_eq_true.1 vC q hq);exact Nat.ble_eq_true_of_le (by omega)
  have sH:SlOk (fun av v=>AVRep (Us W V (fun _ _=>False)) W hv (a9 (ob k)) av v) sl a.tmps:=fun d av h1=>by
   have mM:d<100000:=by rw [all_eq_true] at cQ;exact bL (cQ d (i8 h1))
   have h2:look (ob k++lp) d=some av:=by rw [fW (by omega),cG,lN (by omega),lN (by omega)];exact dH.sub d av h1
   obtain ⟨v,h3,h4⟩:=hS.slot d av h2 mM;exact ⟨v,h3,h4.move v6 (fun _ h5=>h5.imp id fun ⟨e,he⟩=>⟨e,iO k _ _ he.1,he.2⟩) fun _=>rfl⟩
  have mA:=sH.par (ps:=ps) (cs:=encC x) (by
   rw [all_eq_true] at bE |-;intro p hp;have:=bE p hp;rw [Bool.and_eq_true] at this;rw [hS.size];exact this.1) (fun c hc=>by obtain ⟨v,rfl,gB⟩:=lF x (List.mem_of_getElem? hx) c hc;exact p6 gB)
  have qU:=mA.1.asg (fun v=>by unfold AVRep;simp) (al:=al) (by
   rw [all_eq_true] at fJ |-;intro p hp;have:=fJ p hp;rw [Bool.and_eq_true] at this;rw [mA.2,hS.size];exact this.1)
  have kF:(kO (b8G al (b9z ps (encC x) sl))).all (fun k=>Nat.blt k 100000)=true:=by
   have fX:∀ (ps:List Tmp) (cs:List CV) (sl:AS),(ps.all fun p=>Nat.blt p nt&&Nat.blt p 100000)=true->(kO sl).all (fun k=>Nat.blt k 100000)=true->(kO (b9z ps cs sl)).all (fun k=>Nat.blt k 100000)=true:=by
    intro ps
    induction ps with
    | nil=>intro cs sl _ h;cases cs<;>exact h
    | cons p ps ih =>
     intro cs sl h1 h2;cases cs with
     | nil=>exact h2
     | cons c cs =>
      rw [all_cons,Bool.and_eq_true] at h1;have h3:=h1.1;rw [Bool.and_eq_true] at h3;refine ih cs ((p,.val c)::sl) h1.2 ?_;show ((p::kO sl).all _)=true;rw [all_cons,Bool.and_eq_true];exact ⟨h3.2,h2⟩
   have dZ:∀ (al:List (Nat×Nat)) (sl:AS),(al.all fun p=>Nat.blt p.1 nt&&Nat.blt p.1 100000)=true->(kO sl).all (fun k=>Nat.blt k 100000)=true->(kO (b8G al sl)).all (fun k=>Nat.blt k 100000)=true:=by
    intro al
    induction al with
    | nil=>intro sl _ h;exact h
    | cons p al ih =>
     intro sl h1 h2;obtain ⟨d,t⟩:=p;rw [all_cons,Bool.and_eq_true] at h1;have h3:=h1.1;rw [Bool.and_eq_true] at h3;refine ih _ h1.2 ?_;show ((d::kO sl).all _)=true;rw [all_cons,Bool.and_eq_true];exact ⟨h3.2,h2⟩
   exact dZ _ _ fJ (fX _ _ _ bE cQ)
  have hF:=v2.frame (nt:=nt) oC kF (tmps:=b5d al (a5Y ps ((encC x).map CV.v) a.tmps)) (by rw [qU.2,mA.2];exact hS.size) qU.1;have hR:=cM k x hx W V v1 ⟨some (w.heap.size+1),[]⟩ _ W ⟨_,hv,hF⟩;refine wpIn_mono hR ?_;rintro e a' W' ⟨a'',rfl,s',⟨rfl,h5⟩,h6⟩;obtain ⟨D',kG,h7⟩:=h5 a'' W' h6;have h8:=h7.bare (post:=ob (k+1)) (fun _ _ h=>h) (by rw [gU (k+1),<-gU k];exact oC);have iX:∀ b,b<W.heap.size->¬ V.x b->W'.heap[b]?=W.heap[b]?:=fun b hb hx=>h8.below.block b hb hx;have pM:∀ {b kk o},kk=299998\/kk=299999->look lp kk=some (.ob b o)->¬ V.x b:=fun {b kk o} gF h9 hb=>by
   obtain ⟨q,av,g1,g2,g3⟩:=(v3 b).1 hb;have hq:=eK g1;have bB:av.t≠7:=by
    have h3:=H9 (fK k) g1;unfold E4 at h3;unfold l8 at g2;have h4:Nat.ble 500000 q=false:=by
     cases e:Nat.ble 500000 q with
     | false=>rfl
     | true=>have:=Nat.le_of_ble_eq_true e;omega
    simp only [h4,Bool.and_eq_true,Bool.not_eq_true'] at h3;intro e;rw [e] at h3;exact absurd h3.1.2 (by decide)
   have oD:l8 kk:=by unfold l8;omega
   have hO:OX (Us w0 U0 D) W (.ob b o) (hv kk):=hS.obj kk (.ob b o) (by rw [fW (by omega)];exact h9) oD;have hval:hv kk = .pointer (some ⟨b,0,none⟩):=(hO.2.1 rfl).1;exact hS.disj q kk av _ b (iO k _ _ g1) (by rw [fW (by omega)];exact h9) g2 oD bB (fun e=>by cases e) (by omega) g3 (by rw [hval];rfl)
  have pA:=pM (.inl rfl) hL;have hnD:=pM (.inr rfl) hDf;have hqn:∀ q∈I8 (kO (ob 0)) (kO (ob 0)) (kO (ob 0)),q.1≠0/\100000≠q.1/\100000+1000000≠q.1:=fun q hq=>by rw [all_eq_true] at oS;have:=oS q hq;simp only [Bool.and_eq_true,Bool.not_eq_true'] at this;obtain ⟨g1,g2,g3⟩:=this;exact ⟨(fun e=>by rw [e] at g1;cases g1),(fun e=>by rw [<-e] at g2;cases g2),(fun e=>by rw [<-e] at g3;cases g3)⟩
  obtain ⟨D2,gI,h9,_,pU⟩:=hS.back (iO k) (fK k) (cL (k+1)) (by rw [gU (k+1),gU k,all_eq_true];intro q hq;exact s8 hq) (fun q hq=>by
   rw [gU (k+1),gU k] at hq;intro kk av gF nC;have fH:=oZ q (by simp only [mem_cons];exact .inr (.inr hq));rw [b9] at gF;cases e:look (ob k) kk with
   | some av' =>
    exfalso;have fY:l7 q.2 kk=true:=by
     have:∀ (P1 P2 ks:List Nat),q∈I8 P1 P2 ks->q.2=P1++P2:=by
      intro P1 P2 ks
      induction ks with
      | nil=>intro h;cases h
      | cons y ys ih =>
       intro h;unfold I8 at h;split at h
       ·exact ih h
       ·rcases mem_cons.1 h with rfl | h
        ·rfl
        ·exact ih h
       ·exact ih h
       ·rcases mem_cons.1 h with rfl | h
        ·rfl
        ·exact ih h
       ·rcases mem_cons.1 h with rfl | h
        ·rfl
        ·exact ih h
       ·rcases mem_cons.1 h with rfl | h
        ·rfl
        ·exact ih h
     rw [this _ _ _ hq];refine s8 (mem_append_left _ ?_);rw [<-gU k];exact i8 e
    rw [fY] at nC;cases nC
   | none =>
    rw [e] at gF;have gF:look lp kk=some av:=gF;rw [cG,j8] at gF;split at gF
    ·rename_i e2;injection gF with gF;obtain ⟨g1,g2,g3⟩:=hqn q hq;rw [<-e2,<-gF];exact ⟨fun e=>g1 e.symm,g2,g3⟩
    ·rw [j8] at gF;split at gF
     ·rename_i e2;injection gF with gF;obtain ⟨g1,g2,g3⟩:=hqn q hq;rw [<-e2,<-gF];exact ⟨fun e=>g1 e.symm,g2,g3⟩
     ·exact fH kk av gF nC) (fun q v hq1 fH=>by rw [gU (k+1),<-gU k] at fH;exact fH) v3 v4 v5 v2 h8
  refine ⟨iX _ (by omega) pA,iX _ (by omega) hnD,fun b hb hx=>?_,D2,gI,fun b o hb=>pU b o (hd b o hb),?_⟩
  ·obtain ⟨o,ho⟩:=Classical.not_not.1 hx;refine iX b (by omega) fun gV=>?_;obtain ⟨q,av,g1,g2,g3⟩:=(v3 b).1 gV;have hq:=eK g1;have bB:av.t≠7/\av.t≠6:=by
    have h3:=H9 (fK k) g1;unfold E4 at h3;unfold l8 at g2;have h4:Nat.ble 500000 q=false:=by
     cases e:Nat.ble 500000 q with
     | false=>rfl
     | true=>have:=Nat.le_of_ble_eq_true e;omega
    simp only [h4,Bool.and_eq_true,Bool.not_eq_true'] at h3;exact ⟨(fun e=>by rw [e] at h3;exact absurd h3.1.2 (by decide)),(fun e=>by rw [e] at h3;exact absurd h3.1.1.2 (by decide))⟩
   obtain ⟨f1,f2,f3⟩:=hS.blk q av b (iO k _ _ g1) g2 bB.1 g3;have iZ:Us w0 U0 D b o:=ho.imp id fun h=>⟨h.1,hd _ _ h.2⟩
   exact a2M iZ f1 (f3 o fun e=>absurd e bB.2) rfl
  ·have vE:(pre++[x]).length=k+1:=by rw [length_append,hk];rfl
   rw [vE];refine h9.sub fun q av hq=>?_;rw [b9] at hq |-;cases e:look (ob (k+1)) q with
   | some av'=>rw [e] at hq;exact hq
   | none =>
    rw [e] at hq;have hq:look lp q=some av:=hq;show look (ob k++lp) q=some av;rw [b9];cases e2:look (ob k) q with
    | none=>exact hq
    | some av' =>
     exfalso;have h1:=i8 e2;rw [gU k,<-gU (k+1)] at h1;obtain ⟨av2,h2⟩:∃ av2,look (ob (k+1)) q=some av2:=by
      clear e;generalize ob (k+1)=L at h1
      induction L with
      | nil=>cases h1
      | cons y L ih =>
       obtain ⟨q',av2⟩:=y;rw [j8];by_cases e3:q'=q
       ·exact ⟨av2,if_pos e3⟩
       ·rw [if_neg e3];rcases mem_cons.1 h1 with h1 | h1
        ·exact absurd h1.symm e3
        ·exact ih h1
     rw [e] at h2;cases h2
 ·subst eX;obtain ⟨D,hv,hd,hS⟩:=hI;refine ⟨_,a,w.heap.size,⟨rfl,rfl⟩,⟨D,hv,by rw [cG] at hS;exact hS⟩,by show _=wdA a _;unfold wdA;rw [h.dfr],?_⟩;have:=fW (k:=ys.length) (k':=299999) (by omega);rw [hDf,cG] at this;exact this
end
section
variable {P:Program} {w0:World} {U0:UX} {nt:Nat} {s:AS}
end
section
variable {P:Program} {w0:World} {U0:UX} {nt:Nat} {ops:Array Oper} {o:Oper} {S:Nat->Option AV} {gs:List Nat} {d:Nat} {s:AS} {a:Act} {w:World} {D:Nat->Nat->Prop} {hv:Nat->Value}
theorem a1L {c:Code} {Q Q':Exit->AS->Nat->Prop} (h:a1G P w0 U0 nt c Q s) (hq:∀ e s g,Q e s g->Q' e s g):a1G P w0 U0 nt c Q' s:=fun a w hs =>
 wpIn_mono (h a w hs) fun e a' w' ⟨s',a'',g,h1,h2⟩=>⟨s',a'',g,hq _ _ _ h1,h2⟩
theorem a1B {c:Code} {Q:Exit->AS->Nat->Prop} {s':AS} (h:Wk w0 U0 nt s s') (h2:a1G P w0 U0 nt c Q s'):a1G P w0 U0 nt c Q s:=fun a w hs=>h2 a w (h a w hs)
theorem b3M {f : FuncId} {fn : Func} {c : Code} {pre post : AS} {args : List AV} {r : AV} (hf : P.funcs[f]? = some fn) (hn : fn.ntmps = nt) (gL : (fn.name == "runtime.NumGoroutine") = false) (hb : fn.body = some c) (hl : Nat.ble args.length nt = true) (cE : Nat.blt nt 100000 = true) (gC : (kO pre).all (Nat.ble 100000) = true) (kQ : (kO post).all (Nat.ble 100000) = true)
  (h:∀ (w:World) (U:UX),(∀ k v,U.f k=some v->l7 (kO pre) k=true)->a1G P w U nt c (fun e s' g=>(e = .normal\/e = .ret)/\∃ s2,Wk w U nt s' ((299999,.ob g 0)::s2)/\b5b P s2 fn.results.toList=some r/\SubL s2 post/\look s2 299999=none) (C3 args 0++pre)):r5 P f pre args r post:=by
 refine ⟨x9 hf gL (by rw [hb];rfl),fun U w hv a0 vs hU gE hargs=>?_⟩;have kD:=hargs.len;refine callsIn_wide.1 (callsIn_of_wp_marks (F:=Fence.wide) (n:=1) hf hb trivial ?_ rfl);have cY:=Nat.le_of_ble_eq_true hl;have cE:=bL cE;have kV:∀ {k av},look pre k=some av->100000<=k:=fun {k av} h1=>by rw [all_eq_true] at gC;exact Nat.le_of_ble_eq_true (gC k (i8 h1))
 have kB:∀ {k},100000<=k->look (C3 args 0++pre) k=look pre k:=fun {k} h1=>by
  rw [b9];cases h2:look (C3 args 0) k with
  | none=>rfl
  | some av =>
   obtain ⟨_,h3⟩:=w8 h2;rw [Nat.sub_zero,getElem?_eq_none (by omega)] at h3;cases h3
 have kI:a9 (C3 args 0++pre)=a9 pre:=by
  funext n;unfold a9 t7;apply propext;constructor
  ·rintro (h1 | ⟨e,h1,h2,h3⟩)
   ·exact .inl h1
   ·rw [kB (by omega)] at h1;exact .inr ⟨e,h1,h2,h3⟩
  ·rintro (h1 | ⟨e,h1,h2,h3⟩)
   ·exact .inl h1
   ·exact .inr ⟨e,by rw [kB (by omega)];exact h1,h2,h3⟩
 have hs:Sim w U nt (C3 args 0++pre) { tmps:=vs.toArray++Array.replicate (fn.ntmps-vs.toArray.size) undef,defers:=[] } w:=by
  refine ⟨fun _ _=>False,hv,gE.below,rfl,by simp [hn];omega,fun d av h1 h2=>?_,fun n o av h1 h2 h3 h4=>?_,fun n o o' av av' h1 h2=>?_,fun k av h1 h2=>?_,fun k av g h1 h2=>?_,fun k k' av av' g h1 h2 h3 h4=>?_,gE.fix,fun b o hd=>hd.elim⟩
  ·rw [b9] at h1;cases h3:look (C3 args 0) d with
   | none =>
    rw [h3] at h1;have:=kV h1;omega
   | some av' =>
    rw [h3] at h1;cases h1;obtain ⟨_,h4⟩:=w8 h3;rw [Nat.sub_zero] at h4;obtain ⟨v,h6,h7⟩:=hargs.at h4;have hdl:d<vs.length:=by
     rcases Nat.lt_or_ge d vs.length with h | h
     ·exact h
     ·rw [getElem?_eq_none h] at h6;cases h6
    rw [kI];refine ⟨v,?_,h7⟩;rw [Array.getElem?_append_left (by simpa using hdl)];simpa using h6
  ·rw [kB (by unfold f0;omega)] at h1;rw [kB (by omega)] at h3;rw [kI];exact gE.fld n o av h1 h2 h3 h4
  ·rw [kB (by unfold f0;omega)] at h1 h2;exact gE.fdis n o o' av av' h1 h2
  ·rw [kB h2.1] at h1;rw [kI];exact gE.obj k av h1 h2
  ·rw [kB h2.1] at h1;exact gE.blk k av g h1 h2
  ·rw [kB h3.1] at h1;rw [kB h4.1] at h2;exact gE.disj k k' av av' g h1 h2 h3 h4
 refine wpIn_mono (h w U hU _ w hs) ?_;rintro e a' w' ⟨s',a'',g,⟨h1,s2,g1,g2,g3,g4⟩,h3,rfl,g5⟩;obtain ⟨D',kG,h4⟩:=g1 a'' w' h3;obtain ⟨h5,h6,h7,y,h8,h9⟩:=h4.putob (n:=299999) (o:=0) (o':=1) (by unfold RW;omega) (lS _ _ _) (x := .deferred none) (fun _ _ _ e=>by cases e) (fun e=>by cases e);have h9:=h9 rfl;subst h9;have hS:=h5.sub (s':=s2) fun k av hk=>by
  have kE:(299999:Nat)≠k:=fun e=>by rw [<-e,g4] at hk;cases hk
  rw [lN kE,lN kE];exact hk
 obtain ⟨v,i1,i2⟩:=R2 hS g2;have gT:∀ {k av},look post k=some av->100000<=k:=fun {k av} h1=>by rw [all_eq_true] at kQ;exact Nat.le_of_ble_eq_true (kQ k (i8 h1))
 have iP:=hS.sub g3.sub;have jP:SimG w U 0 post ⟨#[],[]⟩ (w'.putObj g (.deferred none)) D' kG:=⟨iP.below,rfl,rfl,fun d av h7 h8=>by have:=gT h7;omega,iP.fld,iP.fdis,iP.obj,iP.blk,iP.disj,iP.fix,iP.dlt⟩
 have cL:LeavesInM Fence.wide 1 P fn a''.tmps (fun e w'=>∃ v D' kG a',e = .returned v/\SimG w U 0 post a' w' D' kG/\AVRep (Us w U D') w' kG (a9 post) r v) [⟨.collected g,#[]⟩] .returning w':=
  ⟨(fun e=>by cases e),.inl ⟨g,_,rfl,run_takeDeferred h8,v,i1,v,D',kG,_,rfl,jP,i2.move (fun _ _ _ h1 h2=>⟨h1,h2⟩) (fun _ h7=>h7.imp id fun ⟨e,he⟩=>⟨e,g3.sub _ _ he.1,he.2⟩) fun _=>rfl⟩⟩
 rcases h1 with rfl | rfl
 ·exact cL
 ·exact cL
theorem c1f (nn:Nat) (hg:Gd w0 U0 nt ops o gs S) (hd:o.dst=some d) (hn:Nat.blt d nt=true) (h5:Nat.blt d 100000=true) {x:Operand} {ty:TypeId} {av:AV} (ho:o.op = .box ty x) (hx:ev S x=some av) (kC:Nat.beq av.sz 1=true) (dP:((Nat.beq av.t 0&&!Nat.beq av.c.k 2)||Nat.beq av.t 2||Nat.beq av.t 12||Nat.beq av.t 15)=true) (sE:(Nat.blt nn 100000||(Nat.ble 350000 nn&&Nat.blt nn 400000))=true) (iJ:Nat.beq av.n nn=false) (hnf:∀ v,U0.f (100000+nn)=some v->False):AOp P w0 U0 nt ops o (gs++rd x) [(nn,[])] S [(f0 nn 0,av),(d,.bp nn 0 []),(100000+nn,.obj)]:=by
 intro s hs hN a w ⟨D,hv,h⟩ Q K hK;rw [if_pos (hg s (fun k hk=>hs k (mem_append_left _ hk)) a w D hv h)];have mM:=bL h5;have bJ:BN nn:=by
  rcases Bool.or_eq_true_iff.1 sE with h1 | h1
  ·exact .inl (bL h1)
  ·rw [Bool.and_eq_true] at h1;exact .inr ⟨Nat.le_of_ble_eq_true h1.1,bL h1.2⟩
 have jR:=bJ;unfold BN at jR;have gG:=l9 h (fun k hk=>hs k (mem_append_right _ hk)) hx;have kX:(a.eval x).cells = #[a.eval x]:=by
  have vF:(av.t=0/\av.c.k≠2)\/(av.t≠0/\b3u av=true):=by
   simp only [Bool.or_eq_true,Bool.and_eq_true,Bool.not_eq_true'] at dP;rcases dP with ((⟨h1,h2⟩ | h1) | h1) | h1
   ·exact .inl ⟨Nat.eq_of_beq_eq_true h1,fun e=>by rw [e] at h2;cases h2⟩
   all_goals (refine .inr ⟨fun e=>(by rw [e] at h1;cases h1),?_⟩;unfold b3u;rw [h1];simp)
  rcases vF with ⟨h1,h2⟩ | ⟨h1,h2⟩
  ·unfold AVRep at gG;rw [if_pos h1] at gG;exact (a9F gG.1 h2).1
  ·exact (a8c gG h2 h1).1
 have he:(execOp a.eval o).run P w = .ok (.value (.pointer (some ⟨w.heap.size,0,none⟩))) (w.alloc (.cells #[a.eval x] ty)):=by generalize a.eval=ρ at kX |-;simp [execOp,ho,Instr.box,B8,kX]
 unfold Oper.wp;rw [he,Oper.upon_value,hd];have hr:=(hN (nn,[]) (by simp)).nr;have hG:=h.newboxN (d:=d) (av := .obj) bJ hnf hr (bL hn) mM (.inr rfl) (xs:=[a.eval x]) ty (fun e=>by cases e) (fun e=>by cases e);have hb':Below w.heap.size w (w.alloc (.cells #[a.eval x] ty)):=(Below.refl _ _).alloc (Nat.le_refl _) _;have kL:a9 ((d,AV.bp nn 0 [])::(100000+nn,AV.obj)::s)=a9 s:=by funext n;simp only [a9,a6A (show d<200000 by omega) (show 100000+nn<200000\/400000<=100000+nn by omega)]
 refine hK _ _ ⟨D,_,hG.addF bJ (by rw [lN (by omega),lS]) (by omega) (av:=av) (v:=a.eval x) ?_ ?_ ?_ ?_⟩
 ·rw [kL];refine gG.move (P5 h.dlt hb' fun _ _ h=>h) (fun _ h=>h) fun h3=>?_;have oE:hk av≠100000+nn:=by refine a3p bJ (fun n=>E9) ?_ h3;exact fun e=>by rw [e,Nat.beq_refl] at iJ;cases iJ
  simp only [if_neg oE]
 ·rw [kX,Nat.eq_of_beq_eq_true kC];rfl
 ·intro i hi;rw [kX] at hi |-;have hi:i=0:=by simp at hi;omega
  subst hi;simp only [if_true];show (w.alloc (.cells #[a.eval x] ty)).cell? ⟨w.heap.size,0+0,none⟩=_;have:=w7 w (.cells #[a.eval x] ty);simp only [World.cell?,this];simp
 ·intro o' av' h1 h2;exfalso;rw [lN (by unfold f0;omega),lN (by unfold f0;omega)] at h1;have:=(hr _ _ h1).2.1;rw [O9 h2] at this;exact this rfl
theorem zbi {P:Program} {w0:World} {U0:UX} {nt:Nat} {ops:Array Oper} {o:Oper} {S:Nat->Option AV} {gs:List Nat} {d:Nat} {x:Operand} {ty:TypeId} {av:AV} (nn:Nat) (p:Gd w0 U0 nt ops o gs S:=by exact gN rfl) (q:o.dst=some d:=by exact rfl) (r:Nat.blt d nt=true:=by exact rfl) (u:Nat.blt d 100000=true:=by exact rfl) (y:o.op = .box ty x:=by exact rfl) (z:ev S x=some av:=by exact rfl) (A:Nat.beq av.sz 1=true:=by exact rfl) (B:((Nat.beq av.t 0&&!Nat.beq av.c.k 2)||Nat.beq av.t 2||Nat.beq av.t 12||Nat.beq av.t 15)=true:=by exact rfl) (C:(Nat.blt nn 100000||(Nat.ble 350000 nn&&Nat.blt nn 400000))=true:=by exact rfl) (E:Nat.beq av.n nn=false:=by exact rfl) (F:∀ v,U0.f (100000+nn)=some v->False):AOp P w0 U0 nt ops o (gs++rd x) [(nn,[])] S [(f0 nn 0,av),(d,.bp nn 0 []),(100000+nn,.obj)]:=c1f nn p q r u y z A B C E F
theorem b4N (nn:Nat) (hg:Gd w0 U0 nt ops o gs S) (hd:o.dst=some d) (hn:Nat.blt d nt=true) (h5:Nat.blt d 100000=true) {ty:TypeId} {v:Value} {av:AV} (ho:o.op = .alloc ty) (hi:(P.info? ty).map (·.zero)=some (some v)) (bB:(v = .slice none 0 0/\av=⟨0,.lst [],1,0,[]⟩)\/(v.oneCell'=true/\av = .val (.sc v))) (sE:(Nat.blt nn 100000||(Nat.ble 350000 nn&&Nat.blt nn 400000))=true) (iJ:Nat.beq 1 nn=false) (tO:Nat.beq 0 nn=false) (hnf:∀ v,U0.f (100000+nn)=some v->False):AOp P w0 U0 nt ops o gs [(nn,[])] S [(f0 nn 0,av),(d,.bp nn 0 []),(100000+nn,.obj)]:=by
 intro s hs hN a w ⟨D,hv,h⟩ Q K hK;rw [if_pos (hg s hs a w D hv h)];have mM:=bL h5;have bJ:BN nn:=by
  rcases Bool.or_eq_true_iff.1 sE with h1 | h1
  ·exact .inl (bL h1)
  ·rw [Bool.and_eq_true] at h1;exact .inr ⟨Nat.le_of_ble_eq_true h1.1,bL h1.2⟩
 have jR:=bJ;unfold BN at jR;have gB:v.oneCell'=true:=by
  rcases bB with ⟨rfl,_⟩ | ⟨h1,_⟩
  ·rfl
  ·exact h1
 have kX:=a1Q gB;obtain ⟨it,i1,i2⟩:∃ it,P.info? ty=some it/\it.zero=some v:=by
  cases e:P.info? ty with
  | none=>rw [e] at hi;cases hi
  | some it=>rw [e,Option.map_some] at hi;exact ⟨it,rfl,by injection hi⟩
 have he:(execOp a.eval o).run P w = .ok (.value (.pointer (some ⟨w.heap.size,0,none⟩))) (w.alloc (.cells #[v] ty)):=by simp [execOp,ho,Instr.alloc,zeroValue,typeInfo,i1,i2,B8,kX]
 unfold Oper.wp;rw [he,Oper.upon_value,hd];have hr:=(hN (nn,[]) (by simp)).nr;have hG:=h.newboxN (d:=d) (av := .obj) bJ hnf hr (bL hn) mM (.inr rfl) (xs:=[v]) ty (fun e=>by cases e) (fun e=>by cases e);refine hK _ _ ⟨D,_,hG.addF bJ (by rw [lN (by omega),lS]) (by omega) (av:=av) (v:=v) ?_ ?_ ?_ ?_⟩
 ·rcases bB with ⟨rfl,rfl⟩ | ⟨h1,rfl⟩
  ·exact ⟨l5.2 ⟨none,0,0,rfl,rfl,Nat.le_refl _,by decide,fun _=>⟨rfl,rfl⟩,[],.inl rfl,rfl⟩,fun _=>⟨0,.lst [],rfl,rfl⟩⟩
  ·exact p6 h1
 ·rw [kX];rcases bB with ⟨rfl,rfl⟩ | ⟨h1,rfl⟩<;>rfl
 ·intro i hi;rw [kX] at hi |-;have hi:i=0:=by simp at hi;omega
  subst hi;simp only [if_true];show (w.alloc (.cells #[v] ty)).cell? ⟨w.heap.size,0+0,none⟩=_;have:=w7 w (.cells #[v] ty);simp only [World.cell?,this];simp
 ·intro o' av' h1 h2;exfalso;rw [lN (by unfold f0;omega),lN (by unfold f0;omega)] at h1;have:=(hr _ _ h1).2.1;rw [O9 h2] at this;exact this rfl
theorem zbk {P:Program} {w0:World} {U0:UX} {nt:Nat} {ops:Array Oper} {o:Oper} {S:Nat->Option AV} {gs:List Nat} {d:Nat} {ty:TypeId} {v:Value} {av:AV} (nn:Nat) (p:Gd w0 U0 nt ops o gs S:=by exact gN rfl) (q:o.dst=some d:=by exact rfl) (r:Nat.blt d nt=true:=by exact rfl) (t:Nat.blt d 100000=true:=by exact rfl) (u:o.op = .alloc ty:=by exact rfl) (x:(P.info? ty).map (·.zero)=some (some v):=by exact rfl) (y:(v = .slice none 0 0/\av=⟨0,.lst [],1,0,[]⟩)\/(v.oneCell'=true/\av = .val (.sc v)):=by first | exact .inl ⟨rfl,rfl⟩ | exact .inr ⟨rfl,rfl⟩) (z:(Nat.blt nn 100000||(Nat.ble 350000 nn&&Nat.blt nn 400000))=true:=by exact rfl) (A:Nat.beq 1 nn=false:=by exact rfl) (B:Nat.beq 0 nn=false:=by exact rfl) (C:∀ v,U0.f (100000+nn)=some v->False):AOp P w0 U0 nt ops o gs [(nn,[])] S [(f0 nn 0,av),(d,.bp nn 0 []),(100000+nn,.obj)]:=b4N nn p q r t u x y z A B C
theorem c2B (nn:Nat) (hg:Gd w0 U0 nt ops o gs S) (hd:o.dst=some d) (hn:Nat.blt d nt=true) (h5:Nat.blt d 100000=true) {x y:Operand} {t e size bytes k:Nat} {z:Value} {i1 i2:Int} {k1 k2:IntKind} {n1 q1 p1 n2 q2 p2} (ho:o.op = .makeSlice t x y) (ht:P.underlying t=some (.slice e)) (hi:(P.info? e).map (fun i=>(i.zero,i.size,i.bytes))=some (some z,size,bytes)) (kC:Nat.blt 0 size=true) (dL:Nat.ble bytes 1000=true)
  (hx:ev S x=some ⟨0,.sc (.int k1 i1),n1,q1,p1⟩) (hy:ev S y=some ⟨0,.sc (.int k2 i2),n2,q2,p2⟩) (bR:(Nat.ble 200000 nn&&Nat.blt nn 400000)=true) (h1:i1=0) (h2:i2=(k:Int)) (bP:k<=1000000000) :
  AOp P w0 U0 nt ops o (gs++(rd x++rd y)) [(nn,[])] S [(d,.sl nn 0 0 size),(nn,.mrow e size [])]:=by
 intro s hs hN a w ⟨D,hv,h⟩ Q K hK;rw [if_pos (hg s (fun k hk=>hs k (mem_append_left _ hk)) a w D hv h)];have e1:=v7 h (fun k hk=>hs k (mem_append_right _ (mem_append_left _ hk))) hx;have e2:=v7 h (fun k hk=>hs k (mem_append_right _ (mem_append_right _ hk))) hy;subst h1;subst h2;obtain ⟨i,bT,cO,cN,fD⟩:=info_parts hi;have kC:=bL kC;have dL:=Nat.le_of_ble_eq_true dL;have nA:bytes*k<=1000*1000000000:=Nat.mul_le_mul dL bP;obtain ⟨w',r1,r2,r3⟩:=run_make_own (P:=P) (w:=w) w.heap.size t e i z size ht bT cO cN k1 k2 k (by rw [fD];omega) (by unfold maxLen;omega) (Nat.le_refl _);have dR:=rnB bR;have bC:∀ b o u,Us w0 U0 D b o->w.cell? ⟨b,o,none⟩=some u->Us w0 U0 D b o/\w'.cell? ⟨b,o,none⟩=some u:=fun b o u hu hc=>by refine ⟨hu,?_⟩;have kA:b<w.heap.size:=World.block_lt_of_cell? w _ hc;rw [World.cell?_of_block (w:=w) (r3.block b kA (by simp))];exact hc
 have hG:=h.newrow (avn := .mrow e size []) (v' := .slice (some ⟨w.heap.size,0,none⟩) 0 k) (D':=D) (X:=fun _=>False) (n:=nn) dR (hN (nn,[]) (by simp)).nr (by simp) ⟨r3.os,r3.tape,r3.output,r3.size,fun b hb hx=>r3.block b hb (by simp)⟩ (fun b hb=>hb.elim) (fun g hg=>by have hg:(Value.slice (some ⟨w.heap.size,0,none⟩) 0 k).ownBlock=some g:=hg;refine ⟨.inr (r2.lt g hg).1,(r2.lt g hg).2,fun o _ hd=>?_⟩;have:=(r2.lt g hg).1;have:=h.dlt _ _ hd;omega) (fun b o hd => .inl hd) (fun b o hd=>Nat.lt_of_lt_of_le (h.dlt _ _ hd) r3.size) bC (fun hv lv=>⟨[],r9 r2 (Nat.zero_le _),kC,(fun c hc=>by cases hc),rfl⟩)
 have he:(execOp a.eval o).run P w = .ok (.value (.slice (some ⟨w.heap.size,0,none⟩) 0 k)) w':=by generalize a.eval=ρ at e1 e2 |-;simp [execOp,ho,e1,e2,r1]
 unfold Oper.wp;rw [he,Oper.upon_value,hd];refine hK _ _ ⟨_,_,hG.put (bL hn) (bL h5) ⟨RW.rn dR,?_⟩⟩;show SlV ((fun x=>if x=nn then Value.slice (some ⟨w.heap.size,0,none⟩) 0 k else hv x) nn) 0 0 size _;simp only [if_true];exact I3 rfl (Nat.zero_le _) (.inr ⟨_,rfl⟩)
theorem zbl {P:Program} {w0:World} {U0:UX} {nt:Nat} {ops:Array Oper} {o:Oper} {S:Nat->Option AV} {gs:List Nat} {d:Nat} {x:Operand} {y:Operand} {t:Nat} {e:Nat} {size:Nat} {bytes:Nat} {k:Nat} {z:Value} {i1:Int} {i2:Int} {k1:IntKind} {k2:IntKind} {n1} {q1} {p1} {n2} {q2} {p2} (nn:Nat) (p:Gd w0 U0 nt ops o gs S:=by exact gN rfl) (q:o.dst=some d:=by exact rfl) (r:Nat.blt d nt=true:=by exact rfl) (v:Nat.blt d 100000=true:=by exact rfl) (A:o.op = .makeSlice t x y:=by exact rfl) (B:P.underlying t=some (.slice e):=by exact rfl) (C:(P.info? e).map (fun i=>(i.zero,i.size,i.bytes))=some (some z,size,bytes):=by exact rfl) (E:Nat.blt 0 size=true:=by exact rfl) (F:Nat.ble bytes 1000=true:=by exact rfl) (G:ev S x=some ⟨0,.sc (.int k1 i1),n1,q1,p1⟩:=by exact rfl) (H:ev S y=some ⟨0,.sc (.int k2 i2),n2,q2,p2⟩:=by exact rfl) (bR:(Nat.ble 200000 nn&&Nat.blt nn 400000)=true:=by exact rfl) (h1:i1=0:=by exact rfl) (h2:i2=(k:Int):=by first | rfl | omega | (simp only [length_set,length_map,length_append,length_cons,length_nil]<;>omega) | (simp<;>omega)) (bP:k<=1000000000:=by first | rfl | omega | (simp only [length_set,length_map,length_append,length_cons,length_nil]<;>omega) | (simp<;>omega)):AOp P w0 U0 nt ops o (gs++(rd x++rd y)) [(nn,[])] S [(d,.sl nn 0 0 size),(nn,.mrow e size [])]:=c2B nn p q r v A B C E F G H bR h1 h2 bP
end
theorem b5U {w:World} {l:Nat} {y:Obj} (hy:w.heap[l]?=some y) (mJ:∀ xs ty fl,y ≠ .cells xs ty fl) {b o:Nat} {v:Value} (h:w.cell? ⟨b,o,none⟩=some v):b≠l:=by
 rintro rfl;cases y with
 | cells xs ty fl=>exact mJ _ _ _ rfl
 | _=>simp [World.cell?,hy] at h
theorem a8A {w:World} {l:Nat} {y x:Obj} (h:w.heap[l]?=some y):(w.putObj l x).putObj l y=w:=by
 obtain ⟨kA,he⟩:=Array.getElem?_eq_some_iff.1 h;have:(w.heap.setIfInBounds l x).setIfInBounds l y=w.heap:=by
  refine Array.ext (by simp) fun i h1 h2=>?_;rw [Array.getElem_setIfInBounds,Array.getElem_setIfInBounds]
  ·split
   ·rename_i e;subst e;exact he.symm
   ·rfl
  ·simpa using h2
 unfold World.putObj;rw [this]
section
variable {P:Program} {w0:World} {U0:UX} {nt:Nat} {s:AS} {a:Act} {w:World} {D:Nat->Nat->Prop} {hv:Nat->Value}
theorem SimG.rebase (h:SimG w0 U0 nt s a w D hv) {l:Nat} {y:Obj} (hy:w0.heap[l]?=some y) (hx:¬ U0.x l) (mJ:∀ xs ty fl,y ≠ .cells xs ty fl) (x:Obj):SimG (w0.putObj l x) U0 nt s a (w.putObj l x) D hv:=by
 have hl:l<w0.heap.size:=(Array.getElem?_eq_some_iff.1 hy).1;have iE:w.heap[l]?=some y:=(h.below.block l hl hx).trans hy;have kL:l<w.heap.size:=(Array.getElem?_eq_some_iff.1 iE).1;have kX:∀ b o v,w.cell? ⟨b,o,none⟩=some v->(w.putObj l x).cell? ⟨b,o,none⟩=some v:=fun b o v hc=>by rw [World.cell?_of_block (w:=w) (World.putObj_heap_other (b5U iE mJ hc))];exact hc
 have hUs:Us (w0.putObj l x) U0 D=Us w0 U0 D:=by funext b o;unfold Us;rw [World.putObj_size]
 have hMn:∀ t g,Mn w0 U0 t g->Mn (w0.putObj l x) U0 t g:=fun t g h=>by unfold Mn at h |-;rw [World.putObj_size];exact h
 have kE:∀ k av g,look s k=some av->l8 k->av.t≠7->hb (hv k)=some g->g≠l:=fun k av g h1 h2 h3 h4 e=>by
  obtain ⟨g1,_,_⟩:=h.blk k av g h1 h2 h3 h4;subst e;rcases g1 with g1 | g1
  ·omega
  ·exact hx g1.2
 have hk:∀ b o v,Us w0 U0 D b o->w.cell? ⟨b,o,none⟩=some v->Us w0 U0 D b o/\(w.putObj l x).cell? ⟨b,o,none⟩=some v:=fun b o v h1 h2=>⟨h1,kX _ _ _ h2⟩
 refine ⟨⟨h.below.os,h.below.tape,h.below.output,by rw [World.putObj_size,World.putObj_size];exact h.below.size,fun k hk hxk=>?_⟩,h.dfr,h.size,fun d av h1 h2=>?_,fun n o av h1 h2 h3 h4=>?_,h.fdis,fun k av h1 h2=>?_,fun k av g h1 h2 h3 h4=>?_,h.disj,h.fix,fun b o hd=>by rw [World.putObj_size];exact h.dlt b o hd⟩
 ·rw [World.putObj_size] at hk;by_cases e:k=l
  ·subst e;rw [World.putObj_heap_same kL,World.putObj_heap_same hl]
  ·rw [World.putObj_heap_other e,World.putObj_heap_other e];exact h.below.block k hk hxk
 ·rw [hUs];obtain ⟨v,h3,h4⟩:=h.slot d av h1 h2;exact ⟨v,h3,h4.keep hk⟩
 ·rw [hUs];obtain ⟨v,h5,h6,h7⟩:=h.fld n o av h1 h2 h3 h4;refine ⟨v,h5.keep hk,h6,fun i hi=>?_⟩;have h8:=h7 i hi;rw [Array.getElem?_eq_getElem hi] at h8 |-;exact kX _ _ _ h8
 ·rw [hUs];by_cases h7:av.t=7
  ·exact a2L h7
  ·exact (h.obj k av h1 h2).move hk (fun _ h3=>⟨h3,rfl⟩) fun g hg=>World.putObj_heap_other (kE k av g h1 h2 h7 hg)
 ·rw [World.putObj_size];obtain ⟨g1,g2,g3⟩:=h.blk k av g h1 h2 h3 h4;exact ⟨hMn _ _ g1,g2,g3⟩
def a5y (P:Program) (w0:World) (U0:UX) (nt:Nat) (c:Code) (Q:Exit->AS->Prop) (s:AS):Prop:=
 ∀ M a w l₀ r₀,M.r=some l₀->w0.heap[l₀]?=some (.loop r₀)->¬ U0.x l₀->Sim w0 U0 nt s a w->WP P M c (fun e a' w'=>∃ s',Q e s'/\Sim w0 U0 nt s' a' w') a w
theorem a1F {c:Code} {Q:Exit->AS->Prop} (h:AWp P w0 U0 nt c Q s):a5y P w0 U0 nt c Q s:=fun M a w _ _ _ _ _ hs=>h M a w hs
theorem a6O {c:Code} {Q Q':Exit->AS->Prop} (h:a5y P w0 U0 nt c Q s) (hq:∀ e s,Q e s->Q' e s):a5y P w0 U0 nt c Q' s:=fun M a w l r h1 h2 h3 hs =>
 J9 (h M a w l r h1 h2 h3 hs) fun e a' w' ⟨s',g1,g2⟩=>⟨s',hq _ _ g1,g2⟩
theorem a8d {c:Code} {Q:Exit->AS->Prop} {s':AS} (h:Wk w0 U0 nt s s') (h2:a5y P w0 U0 nt c Q s'):a5y P w0 U0 nt c Q s:=fun M a w l r g1 g2 g3 hs=>h2 M a w l r g1 g2 g3 (h a w hs)
theorem a4O {x y:Code} {Q:Exit->AS->Prop} (h:AWp P w0 U0 nt x (fun e s'=>e = .normal/\a5y P w0 U0 nt y Q s') s):a5y P w0 U0 nt (.seq x y) Q s:=fun M a w l r h1 h2 h3 hs =>
 b7o (J9 (h M a w hs) fun e a' w' ⟨s',⟨he,hn⟩,gD⟩=>by subst he;exact hn M a' w' l r h1 h2 h3 gD)
theorem T6 {id:Nat} {c:Code} {Q:Exit->AS->Prop} (h:a5y P w0 U0 nt c (fun e s'=>e = .normal/\Q .normal s') s):a5y P w0 U0 nt (.block id c) Q s:=fun M a w l r h1 h2 h3 hs =>
 b0c (J9 (h M a w l r h1 h2 h3 hs) fun e a' w' ⟨s',⟨he,hn⟩,gD⟩=>by subst he;exact ⟨s',hn,gD⟩)
end
section
variable {α:Type} {P:Program}
end
section
variable {P:Program} {w0:World} {U0:UX} {nt:Nat} {s:AS} {a:Act} {W:World} {D:Nat->Nat->Prop} {hv:Nat->Value}
theorem b7r {ob lp:AS} (hS:SimG w0 U0 nt (ob++lp) a W D hv) (fK:ob.all E4=true) (vC:((kO ob).all fun k=>Nat.ble 300000 k)=true) {V:UX} (v3:∀ b,V.x b↔∃ k av,look ob k=some av/\l8 k/\hb (hv k)=some b) {b kk o:Nat} (gF:kk=299998\/kk=299999) (h9:look (ob++lp) kk=some (.ob b o)):¬ V.x b:=fun hb=>by
 obtain ⟨q,av,g1,g2,g3⟩:=(v3 b).1 hb;have hq:300000<=q:=Nat.le_of_ble_eq_true (all_eq_true.1 vC q (i8 g1));have bB:av.t≠7:=by
  have h3:=H9 fK g1;unfold E4 at h3;unfold l8 at g2;have h4:Nat.ble 500000 q=false:=by
   cases e:Nat.ble 500000 q with
   | false=>rfl
   | true=>have:=Nat.le_of_ble_eq_true e;omega
  simp only [h4,Bool.and_eq_true,Bool.not_eq_true'] at h3;intro e;rw [e] at h3;exact absurd h3.1.2 (by decide)
 have oD:l8 kk:=by unfold l8;omega
 have hO:OX (Us w0 U0 D) W (.ob b o) (hv kk):=hS.obj kk (.ob b o) h9 oD;have hval:hv kk = .pointer (some ⟨b,0,none⟩):=(hO.2.1 rfl).1;have kJ:look (ob++lp) q=some av:=by rw [b9,g1];rfl
 exact hS.disj q kk av _ b kJ h9 g2 oD bB (fun e=>by cases e) (by omega) g3 (by rw [hval];rfl)
end
section
variable {P:Program} {w0:World} {U0:UX} {nt:Nat} {s:AS}
end
end
end Go.Proofs.YteegmcfobgpemaaGreat
