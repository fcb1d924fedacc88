/-
 AbCall AbObj2 AbFld AbMap AbFull AbArr AbRoom AbBox AbIter AbRange AbRangeV AbMark AbNest AbNest2 AbNest3 AbNest4 AbDel AbRowO AbHdl AbYield AbMapR AbMapT AbQ RwXt AbZ RwClone AbEnds
-/
import Derived.Test.YtekboofbedakcaaGreatMg2
import Derived.MapKept
import Derived.Laws.NewFold
import Derived.RangeFuncNested
import Derived.Maps.RangeRun
namespace Go.Proofs.YtekboofbedakcaaGreat
open Go.RowKit
set_option linter.unusedVariables false
set_option linter.unusedSimpArgs false
def AVReps (U:Nat→Nat→Prop) (w:World) (hv:Nat→Value) (lv:Nat→Prop):List AV→List Value→Prop
 | [],vs=>vs=[]
 | c::cs,vs=>∃ u us,vs=u::us∧AVRep U w hv lv c u∧AVReps U w hv lv cs us
theorem AVReps.len {U:Nat→Nat→Prop} {w:World} {hv:Nat→Value} {lv:Nat→Prop}:∀ {l:List AV} {vs:List Value},AVReps U w hv lv l vs→vs.length=l.length
 | [],_,h=>by have h:_=[]:=h;rw [h];rfl
 | c::cs,vs,⟨u,us,e,h1,h2⟩=>by rw [e,List.length_cons,List.length_cons,AVReps.len h2]
theorem AVReps.at {U:Nat→Nat→Prop} {w:World} {hv:Nat→Value} {lv:Nat→Prop}:∀ {l:List AV} {vs:List Value},AVReps U w hv lv l vs→∀ {i:Nat} {c:AV},l[i]?=some c→∃ v,vs[i]?=some v∧AVRep U w hv lv c v
 | [],_,_,i,c,hi=>by simp at hi
 | c'::cs,vs,⟨u,us,e,h1,h2⟩,0,c,hi=>by
  simp only [List.getElem?_cons_zero,Option.some.injEq] at hi
  exact ⟨u,by rw [e];rfl,hi▸h1⟩
 | c'::cs,vs,⟨u,us,e,h1,h2⟩,i+1,c,hi=>by
  obtain ⟨v,h3,h4⟩:=AVReps.at h2 (i:=i) (c:=c) (by simpa using hi)
  exact ⟨v,by rw [e];simpa using h3,h4⟩
theorem AVReps.imp {U V:Nat→Nat→Prop} {w w':World} {hv hv':Nat→Value} {lv lv':Nat→Prop}:∀ {l:List AV} {vs:List Value},(∀ c∈l,∀ v,AVRep U w hv lv c v→AVRep V w' hv' lv' c v)→AVReps U w hv lv l vs→AVReps V w' hv' lv' l vs
 | [],_,_,h=>h
 | c::cs,vs,hc,⟨u,us,e,h1,h2⟩=>⟨u,us,e,hc c (by simp) u h1,AVReps.imp (fun x hx=>hc x (List.mem_cons_of_mem _ hx)) h2⟩
def q6 (P:Program) (f:FuncId) (pre:AS) (args:List AV) (r:AV) (post:AS):Prop:=
 b4m P f∧∀ (U:UX) (w:World) (hv:Nat→Value) (a0:Act) (vs:List Value),(∀ k v,U.f k=some v→o9 (kO pre) k=true)→SimG w U 0 pre a0 w (fun _ _=>False) hv→AVReps (Us w U (fun _ _=>False)) w hv (b6 pre) args vs →
  Calls P f vs.toArray w fun e w'=>∃ v D' hv' a',e = .returned v∧SimG w U 0 post a' w' D' hv'∧AVRep (Us w U D') w' hv' (b6 post) r v
def a9t (S:Nat→Option AV):List Operand→Option (List AV)
 | []=>some []
 | x::xs=>match ev S x,a9t S xs with
  | some c,some cs=>some (c::cs)
  | _,_=>none
def SubS (S:Nat→Option AV):AS→Prop
 | []=>True
 | (k,av)::s=>S k=some av∧SubS S s
theorem SubS.look {S:Nat→Option AV}:∀ {s:AS},SubS S s→∀ {k av},look s k=some av→S k=some av
 | [],_,k,av,h=>by simp [Go.Proofs.YtekboofbedakcaaGreat.look] at h
 | (k',av')::s,⟨h1,h2⟩,k,av,h=>by
  rw [r7] at h
  split at h
  ·rename_i e;subst e;cases h;exact h1
  ·exact SubS.look h2 h
def Y0 (p:Nat×AV):Bool:=match Nat.ble 500000 p.1 with
 | true=>true
 | false=>Nat.ble 300000 p.1&&!Nat.beq p.2.t 6&&!Nat.beq p.2.t 7&&(Nat.blt p.1 450000||Nat.beq p.2.t 5||Nat.beq p.2.t 9||Nat.beq p.2.t 23)
def a7K (ks:List Nat) (av:AV):Bool:=match Nat.beq av.t 0||Nat.beq av.t 5 with
 | true=>Nat.ble av.n 1
 | false=>match Nat.beq av.t 2||Nat.beq av.t 11||Nat.beq av.t 12||Nat.beq av.t 15||Nat.beq av.t 19 with
  | true=>o9 ks (hk av)
  | false=>true
def Q1 (ks:List Nat) (p:Nat×AV):Bool:=Nat.ble 200000 p.1&&!Nat.beq p.2.t 6&&a7K ks p.2&&(match Nat.ble 500000 p.1 with | true=>Nat.ble 350000 (fnm p.1)&&Nat.blt (fnm p.1) 400000&&o9 ks (100000+fnm p.1) | false=>true)
def W9 (pre post:List Nat):List Nat→List (Nat×List Nat)
 | []=>[]
 | k::ks=>match Nat.ble 500000 k,Nat.blt k 400000,Nat.blt k 450000,o9 pre k with
  | true,_,_,_=>W9 pre post ks
  | false,true,_,_=>(k,pre++post)::W9 pre post ks
  | false,false,true,true=>W9 pre post ks
  | false,false,true,false=>(k,pre++post)::W9 pre post ks
  | false,false,false,true=>(k-100000+1000000,pre++post)::W9 pre post ks
  | false,false,false,false=>(k-100000,pre++post)::W9 pre post ks
theorem a9b {a b:Nat} (h:b<a):Nat.ble a b=false:=by
 cases e:Nat.ble a b with
 | false=>rfl
 | true=>have:=Nat.le_of_ble_eq_true e;omega
theorem a4a {a b:Nat} (h:b≤a):Nat.blt a b=false:=by
 cases e:Nat.blt a b with
 | false=>rfl
 | true=>have:=bL e;omega
theorem a5r {a b:Nat} (h:a<b):Nat.blt a b=true:=by simp [Nat.blt_eq,h]
theorem a1f {pre post:List Nat} {x:Nat} {ks:List Nat} {q:Nat×List Nat} (h:q∈W9 pre post ks):q∈W9 pre post (x::ks):=by
 unfold W9
 split
 ·exact h
 ·exact List.mem_cons_of_mem _ h
 ·exact h
 ·exact List.mem_cons_of_mem _ h
 ·exact List.mem_cons_of_mem _ h
 ·exact List.mem_cons_of_mem _ h
theorem a6X {pre post:List Nat}:∀ {ks:List Nat} {k:Nat},k∈ks→k<450000→(k<400000∨o9 pre k=false)→(k,pre++post)∈W9 pre post ks
 | x::ks,k,h,hk,hp=>by
  rcases List.mem_cons.1 h with rfl | h
  ·unfold W9
   rw [a9b (by omega:k<500000)]
   by_cases h4:k<400000
   ·rw [a5r h4];simp
   ·rw [a4a (by omega:400000≤k),a5r hk]
    rcases hp with hp | hp
    ·omega
    ·rw [hp];simp
  ·exact a1f (a6X h hk hp)
theorem a6Z {pre post:List Nat}:∀ {ks:List Nat} {k:Nat},k∈ks→450000≤k→k<500000→o9 pre k=false→(k-100000,pre++post)∈W9 pre post ks
 | x::ks,k,h,hk,hk2,hp=>by
  rcases List.mem_cons.1 h with rfl | h
  ·unfold W9
   rw [a9b (by omega:k<500000),a4a (by omega:400000≤k),a4a hk,hp]
   simp
  ·exact a1f (a6Z h hk hk2 hp)
theorem a4E {pre post:List Nat}:∀ {ks:List Nat} {k:Nat},k∈ks→450000≤k→k<500000→o9 pre k=true→(k-100000+1000000,pre++post)∈W9 pre post ks
 | x::ks,k,h,hk,hk2,hp=>by
  rcases List.mem_cons.1 h with rfl | h
  ·unfold W9
   rw [a9b (by omega:k<500000),a4a (by omega:400000≤k),a4a hk,hp]
   simp
  ·exact a1f (a4E h hk hk2 hp)
theorem t8 {s:AS} {k:Nat} {av:AV} (h:look s k=some av):k∈kO s:=List.mem_map.2 ⟨_,C7 h,rfl⟩
theorem a0Z {s:AS} {k:Nat} (h:k∈kO s):∃ av,look s k=some av:=by
 induction s with
 | nil=>simp [kO] at h
 | cons p s ih =>
  obtain ⟨d,x⟩:=p
  by_cases e:d=k
  ·exact ⟨x,by rw [r7,if_pos e]⟩
  ·rw [lN e]
   refine ih ?_
   simp only [kO,List.map_cons,List.mem_cons] at h ⊢
   rcases h with h | h
   ·exact absurd h.symm e
   ·exact h
theorem D3 {e s:AS} {k:Nat}:look (e++s) k=(look e k).or (look s k):=by
 induction e with
 | nil=>rfl
 | cons p e ih =>
  obtain ⟨d,x⟩:=p
  by_cases h:d=k
  ·subst h;rw [List.cons_append,lS,lS];rfl
  ·rw [List.cons_append,lN h,lN h,ih]
theorem b6m {s:AS} {k:Nat} (h:o9 (kO s) k=false):look s k=none:=by
 cases e:look s k with
 | none=>rfl
 | some av=>rw [v7 (t8 e)] at h;cases h
theorem R9 {q:Nat×AV→Bool} {s:AS} (h:s.all q=true) {k:Nat} {av:AV} (h1:look s k=some av):q (k,av)=true:=by
 rw [List.all_eq_true] at h
 exact h _ (C7 h1)
section
variable {P:Program} {w0:World} {U0:UX} {nt:Nat} {ops:Array Oper} {o:Oper} {S:Nat→Option AV} {gs:List Nat} {d:Nat} {s:AS} {a:Act} {w:World} {D:Nat→Nat→Prop} {hv:Nat→Value}
theorem a3y (h:SimG w0 U0 nt s a w D hv):∀ {xs:List Operand} {cs:List AV},(∀ k∈rdl xs,look s k=S k)→a9t S xs=some cs→AVReps (Us w0 U0 D) w hv (b6 s) cs (xs.map a.eval)
 | [],cs,_,he=>by simp [a9t] at he;subst he;rfl
 | x::xs,cs,hs,he=>by
  unfold a9t at he
  split at he
  ·rename_i c cs' h1 h2
   cases he
   exact ⟨a.eval x,xs.map a.eval,rfl,j6 h (fun k hk=>hs k (List.mem_append_left _ hk)) h1,a3y h (fun k hk=>hs k (List.mem_append_right _ hk)) h2⟩
  ·cases he
theorem SimG.lend (h:SimG w0 U0 nt s a w D hv) {pre:AS} (hp:Sub s pre) (hl:pre.all Y0=true):∃ V:UX,(∀ k v,V.f k=some v→o9 (kO pre) k=true)∧SimG w V 0 pre ⟨#[],[]⟩ w (fun _ _=>False) hv∧(∀ b,V.x b↔∃ k av,look pre k=some av∧n7 k∧hb (hv k)=some b)∧(∀ k,o9 (kO pre) k=true→400000≤k→k<500000→V.f k=some (hv k))∧(∀ b o,V.m b o↔Us w0 U0 D b o)∧∀ b o u,Us w0 U0 D b o→w.cell? ⟨b,o,none⟩=some u→Us w V (fun _ _=>False) b o∧w.cell? ⟨b,o,none⟩=some u:=by
 classical
 have hlk:∀ {k av},look pre k=some av→n7 k→300000≤k∧av.t≠6∧av.t≠7∧True:=fun {k av} h1 h2=>by
  have h3:=R9 hl h1
  unfold n7 at h2
  unfold Y0 at h3
  have h4:Nat.ble 500000 k=false:=by
   cases e:Nat.ble 500000 k with
   | false=>rfl
   | true=>have:=Nat.le_of_ble_eq_true e;omega
  simp only [h4,Bool.and_eq_true,Bool.or_eq_true,Bool.not_eq_true'] at h3
  obtain ⟨⟨⟨h5,h6⟩,h7⟩,h8⟩:=h3
  refine ⟨Nat.le_of_ble_eq_true h5,(fun e=>by rw [e] at h6;cases h6),(fun e=>by rw [e] at h7;cases h7),trivial⟩
 let isB:Nat→Prop:=fun k=>400000≤k∧k<500000∧o9 (kO pre) k=true
 let V:UX:=⟨Us w0 U0 D,fun b=>∃ k av,look pre k=some av∧n7 k∧hb (hv k)=some b,fun k=>if isB k then some (hv k) else none,fun k v (h1:(if isB k then some (hv k) else none)=some v)=>by
  split at h1
  ·rename_i h2;exact ⟨h2.1,h2.2.1⟩
  ·cases h1⟩
 have hkeep:∀ b o u,Us w0 U0 D b o→w.cell? ⟨b,o,none⟩=some u→Us w V (fun _ _=>False) b o∧w.cell? ⟨b,o,none⟩=some u:=fun b o u hu hc=>by
  refine ⟨.inl ⟨World.block_lt_of_cell? w _ hc,hu,?_⟩,hc⟩
  rintro ⟨k,av,h1,h2,h3⟩
  obtain ⟨g1,g2,g3,_⟩:=hlk h1 h2
  obtain ⟨f1,f2,f3⟩:=h.blk k av b (hp _ _ h1) h2 g3 h3
  exact a4i hu f1 (f3 o fun e=>absurd e g2) rfl
 have hln:∀ n,b6 pre n→b6 s n:=fun n h1=>h1.imp id fun ⟨e,he⟩=>⟨e,hp _ _ he.1,he.2⟩
 refine ⟨V,fun n g h1=>?_,⟨BelowX.refl _ _,rfl,rfl,fun d av h1 h2=>?_,fun n o av h1 h2 h3 h4=>?_,fun n o o' av av' h1 h2=>h.fdis n o o' av av' (hp _ _ h1) (hp _ _ h2),fun k av h1 h2=>?_,fun k av g h1 h2 h3 h4=>?_,fun k k' av av' g h1 h2=>h.disj k k' av av' g (hp _ _ h1) (hp _ _ h2),fun n g h1=>?_,fun b o hd=>hd.elim⟩,fun b=>Iff.rfl,fun k h1 h2 h3=>?_,fun b o=>Iff.rfl,hkeep⟩
 ·have h1:(if isB n then some (hv n) else none)=some g:=h1
  split at h1
  ·rename_i h2;exact h2.2.2
  ·cases h1
 ·have h3:=R9 hl h1
  unfold Y0 at h3
  have h4:Nat.ble 500000 d=false:=by
   cases e:Nat.ble 500000 d with
   | false=>rfl
   | true=>have:=Nat.le_of_ble_eq_true e;omega
  simp only [h4,Bool.and_eq_true] at h3
  have:=Nat.le_of_ble_eq_true h3.1.1.1
  omega
 ·obtain ⟨v,h6,h7⟩:=h.fld n o av (hp _ _ h1) h2 (hp _ _ h3) h4
  exact ⟨v,h6.move hkeep (fun _=>hln _) fun _=>rfl,h7⟩
 ·exact (h.obj k av (hp _ _ h1) h2).move hkeep (fun _ h3=>⟨hln _ h3,rfl⟩) fun _ _=>rfl
 ·obtain ⟨g1,g2,g3,_⟩:=hlk h1 h2
  obtain ⟨f1,f2,f3⟩:=h.blk k av g (hp _ _ h1) h2 h3 h4
  exact ⟨.inr ⟨by rw [a2A g1];exact g2,k,av,h1,h2,h4⟩,f2,fun _ _ h=>h⟩
 ·have h1:(if isB n then some (hv n) else none)=some g:=h1
  split at h1
  ·cases h1;rfl
  ·cases h1
 ·show (if isB k then some (hv k) else none)=some (hv k)
  rw [if_pos ⟨h2,h3,h1⟩]
theorem SimG.back (h:SimG w0 U0 nt s a w D hv) {pre post:AS} (hp:Sub s pre) (hl:pre.all Y0=true) (hq:post.all (Q1 (kO post))=true) (hks:(kO pre).all (o9 (kO post))=true) (hN:∀ q∈W9 (kO pre) (kO post) (kO post),NoRefE s q) (hnb:∀ k v,U0.f k=some v→o9 (kO post) k=true→o9 (kO pre) k=true)
  {V:UX} (hVx:∀ b,V.x b↔∃ k av,look pre k=some av∧n7 k∧hb (hv k)=some b) (hVf:∀ k,o9 (kO pre) k=true→400000≤k→k<500000→V.f k=some (hv k)) (hVm:∀ b o,V.m b o↔Us w0 U0 D b o) (hpS:SimG w V 0 pre ⟨#[],[]⟩ w (fun _ _=>False) hv)
  {w':World} {D':Nat→Nat→Prop} {hv':Nat→Value} {a':Act} (h':SimG w V 0 post a' w' D' hv') :
  ∃ D'' hv'',SimG w0 U0 nt (post++s) a w' D'' hv''∧(∀ r v,a7K (kO post) r=true→AVRep (Us w V D') w' hv' (b6 post) r v→AVRep (Us w0 U0 D'') w' hv'' (b6 (post++s)) r v)∧∀ b o,D b o→D'' b o:=by
 classical
 have hlk:∀ {k av},look pre k=some av→n7 k→300000≤k∧av.t≠6∧av.t≠7∧True:=fun {k av} h1 h2=>by
  have h3:=R9 hl h1
  unfold n7 at h2
  unfold Y0 at h3
  have h4:Nat.ble 500000 k=false:=by
   cases e:Nat.ble 500000 k with
   | false=>rfl
   | true=>have:=Nat.le_of_ble_eq_true e;omega
  simp only [h4,Bool.and_eq_true,Bool.or_eq_true,Bool.not_eq_true'] at h3
  obtain ⟨⟨⟨h5,h6⟩,h7⟩,h8⟩:=h3
  refine ⟨Nat.le_of_ble_eq_true h5,(fun e=>by rw [e] at h6;cases h6),(fun e=>by rw [e] at h7;cases h7),trivial⟩
 have hqk:∀ {k av},look post k=some av→200000≤k∧av.t≠6∧a7K (kO post) av=true:=fun {k av} h1=>by
  have h3:=R9 hq h1
  unfold Q1 at h3
  simp only [Bool.and_eq_true,Bool.not_eq_true'] at h3
  exact ⟨Nat.le_of_ble_eq_true h3.1.1.1,(fun e=>by rw [e] at h3;exact absurd h3.1.1.2 (by decide)),h3.1.2⟩
 have hqf:∀ {n o av},look post (c8 n o)=some av→o<100→350000≤n∧n<400000∧o9 (kO post) (100000+n)=true:=fun {n o av} h1 h2=>by
  have h3:=R9 hq h1
  unfold Q1 at h3
  have h4:Nat.ble 500000 (c8 n o)=true:=Nat.ble_eq_true_of_le (by unfold c8;omega)
  simp only [h4,W6 h2,Bool.and_eq_true] at h3
  exact ⟨Nat.le_of_ble_eq_true h3.2.1.1,bL h3.2.1.2,h3.2.2⟩
 have hsub:∀ {k},o9 (kO pre) k=true→o9 (kO post) k=true:=fun {k} h1=>by
  rw [List.all_eq_true] at hks
  exact hks k (B6 h1)
 obtain ⟨D2,hD2⟩:∃ D2:Nat→Nat→Prop,D2=fun b o=>D b o∨(w.heap.size≤b∧D' b o):=⟨_,rfl⟩
 obtain ⟨hv2,hhv⟩:∃ hv2:Nat→Value,hv2=fun k=>if o9 (kO post) k=true then hv' k else hv k:=⟨_,rfl⟩
 have hvy:∀ {k},o9 (kO post) k=true→hv2 k=hv' k:=fun {k} h1=>by rw [hhv];simp only [h1,if_true]
 have hvn:∀ {k},o9 (kO post) k=false→hv2 k=hv k:=fun {k} h1=>by rw [hhv];simp [h1]
 obtain ⟨s2,hs2⟩:∃ s2,s2=post++s:=⟨_,rfl⟩
 have hly:∀ {k av},look post k=some av→look s2 k=some av:=fun {k av} h1=>by rw [hs2,D3,h1];rfl
 have hlc:∀ {k av},look s2 k=some av→look post k=some av∨(o9 (kO post) k=false∧look s k=some av):=fun {k av} h1=>by
  cases e:o9 (kO post) k with
  | true =>
   obtain ⟨av',h2⟩:=a0Z (B6 e)
   rw [hly h2] at h1
   cases h1
   exact .inl h2
  | false =>
   rw [hs2,D3,b6m e] at h1
   exact .inr ⟨rfl,h1⟩
 have hlive:∀ n e,y6 s2 n e→o9 (kO post) n=false∧y6 s n e:=fun n e ⟨h1,h2⟩=>by
  rcases hlc h1 with h3 | ⟨h3,h4⟩
  ·exact absurd rfl (hqk h3).2.1
  ·exact ⟨h3,h4,h2⟩
 have hln:∀ n,b6 s2 n→b6 s n:=fun n h1=>h1.imp id fun ⟨e,he⟩=>⟨e,(hlive n e he).2⟩
 have hbw:=h'.below
 have hold:∀ b,b<w.heap.size→¬ V.x b→w'.heap[b]?=w.heap[b]?:=hbw.block
 have hk1:∀ b o u,Us w0 U0 D b o→w.cell? ⟨b,o,none⟩=some u→Us w0 U0 D2 b o∧w'.cell? ⟨b,o,none⟩=some u:=fun b o u hu hc=>by
  refine ⟨hu.imp id fun h1=>⟨h1.1,by rw [hD2];exact .inl h1.2⟩,?_⟩
  have hnx:¬ V.x b:=fun hx=>by
   obtain ⟨k,av,h1,h2,h3⟩:=(hVx b).1 hx
   obtain ⟨g1,g2,g3,_⟩:=hlk h1 h2
   obtain ⟨f1,f2,f3⟩:=h.blk k av b (hp _ _ h1) h2 g3 h3
   exact a4i hu f1 (f3 o fun e=>absurd e g2) rfl
  rw [World.cell?_of_block (w:=w) (hold b (World.block_lt_of_cell? w _ hc) hnx)]
  exact hc
 have hk2:∀ b o u,Us w V D' b o→w'.cell? ⟨b,o,none⟩=some u→Us w0 U0 D2 b o∧w'.cell? ⟨b,o,none⟩=some u:=fun b o u hu hc=>by
  refine ⟨?_,hc⟩
  rcases hu with ⟨h1,h2,h3⟩ | ⟨h1,h2⟩
  ·exact ((hVm b o).1 h2).imp id fun h4=>⟨h4.1,by rw [hD2];exact .inl h4.2⟩
  ·exact .inr ⟨Nat.le_trans h.below.size h1,by rw [hD2];exact .inr ⟨h1,h2⟩⟩
 have hbx:∀ k,400000≤k→k<500000→o9 (kO pre) k=true→hv' k=hv k:=fun k h2 h3 h1=>h'.fix k _ (hVf k h1 h2 h3)
 have hrow:∀ {k av n},look s k=some av→o9 (kO post) k=false→RN n→o9 (kO post) n=true→(n<400000∨o9 (kO pre) n=false)→av.n≠n:=fun {k av n} h1 h2 h3 h4 h6=>by
  have h5:=hN _ (a6X (pre:=kO pre) (post:=kO post) (B6 h4) h3.2 h6)
  refine (h5 k av h1 ?_).1
  cases e:o9 (kO pre++kO post) k with
  | false=>rfl
  | true =>
   rcases List.mem_append.1 (B6 e) with e | e
   ·rw [hsub (v7 e)] at h2;cases h2
   ·rw [v7 e] at h2;cases h2
 have hbox:∀ {k av n},look s k=some av→o9 (kO post) k=false→BN n→350000≤n→o9 (kO post) (100000+n)=true→o9 (kO pre) (100000+n)=false→av.n≠n∧fnm k≠n∧fnm k+1000000≠n:=fun {k av n} h1 h2 h3 h6 h4 h5=>by
  unfold BN at h3
  have h7:=hN _ (a6Z (pre:=kO pre) (post:=kO post) (B6 h4) (by omega) (by omega) h5)
  rw [show 100000+n-100000=n by omega] at h7
  refine h7 k av h1 ?_
  cases e:o9 (kO pre++kO post) k with
  | false=>rfl
  | true =>
   rcases List.mem_append.1 (B6 e) with e | e
   ·rw [hsub (v7 e)] at h2;cases h2
   ·rw [v7 e] at h2;cases h2
 have hfno:∀ {n o av},look s (c8 n o)=some av→o9 (kO post) (c8 n o)=false→o<100→350000≤n→n<400000→o9 (kO post) (100000+n)=true→False:=fun {n o av} h1 h2 h3 h4 h5 h6=>by
  cases e:o9 (kO pre) (100000+n) with
  | false =>
   have:=(hbox h1 h2 (.inr ⟨h4,h5⟩) h4 h6 e).2.1
   rw [W6 h3] at this
   exact this rfl
  | true =>
   have h7:=hN _ (a4E (pre:=kO pre) (post:=kO post) (B6 h6) (by omega) (by omega) e)
   have h8:=(h7 (c8 n o) av h1 (by
    cases e:o9 (kO pre++kO post) (c8 n o) with
    | false=>rfl
    | true =>
     rcases List.mem_append.1 (B6 e) with e | e
     ·rw [hsub (v7 e)] at h2;cases h2
     ·rw [v7 e] at h2;cases h2)).2.2
   rw [W6 h3] at h8
   apply h8
   show n+1000000=100000+n-100000+1000000
   omega
 have hm1:∀ {k av v},look s k=some av→o9 (kO post) k=false→AVRep (Us w0 U0 D) w hv (b6 s) av v→AVRep (Us w0 U0 D2) w' hv2 (b6 s2) av v:=fun {k av v} h1 h2 h3 =>
  h3.move hk1 (fun _=>hln _) fun hR=>by
   cases e:o9 (kO post) (hk av) with
   | false=>exact hvn e
   | true =>
    rcases hR with ⟨r1,r2,r3⟩ | ⟨r1,r2⟩ | ⟨r1,r2⟩
    ·rw [M1.2 (by omega)] at e
     rcases r2 with r4 | ⟨_,r4⟩
     ·exact absurd r4 r3
     ·exact absurd rfl (hrow h1 h2 ⟨r4.2.1,Nat.lt_trans r4.2.2 (by omega)⟩ e (.inl r4.2.2))
    ·rw [M1.1 r1] at e ⊢
     rw [hvy e]
     cases e2:o9 (kO pre) (100000+av.n) with
     | true =>
      obtain ⟨av',h7⟩:=a0Z (B6 e)
      have:=(hqk h7).1
      unfold BN at r2
      exact hbx _ (by omega) (by omega) e2
     | false =>
      have h6:350000≤av.n:=by
       obtain ⟨av',h7⟩:=a0Z (B6 e)
       have:=(hqk h7).1
       unfold BN at r2
       omega
      exact absurd rfl (hbox h1 h2 r2 h6 e e2).1
    ·rw [M1.2 (by omega)] at e ⊢
     cases e2:o9 (kO pre) av.n with
     | false=>exact absurd rfl (hrow h1 h2 r2 e (.inr e2))
     | true =>
      by_cases h4:av.n<400000
      ·exact absurd rfl (hrow h1 h2 r2 e (.inl h4))
      ·have:=r2.2
       rw [hvy e]
       exact hbx _ (by omega) (by omega) e2
 have hm2:∀ {av v},a7K (kO post) av=true→AVRep (Us w V D') w' hv' (b6 post) av v→AVRep (Us w0 U0 D2) w' hv2 (b6 s2) av v:=fun {av v} h1 h2=>by
  unfold a7K at h1
  refine h2.move hk2 (fun h3 h4=>?_) fun hR=>?_
  ·rw [h3] at h1
   have h1:Nat.ble av.n 1=true:=h1
   have:=Nat.le_of_ble_eq_true h1
   rcases E8 h4 with h5 | h5
   ·exact .inl h5
   ·unfold RN at h5;omega
  ·rcases hR with ⟨r1,r2,r3⟩ | ⟨r1,r2⟩ | ⟨r1,r2⟩
   ·rw [r1] at h1
    have h1:Nat.ble av.n 1=true:=h1
    have:=Nat.le_of_ble_eq_true h1
    rcases E8 r2 with h5 | h5
    ·exact absurd h5 r3
    ·unfold RN at h5;omega
   ·rw [r1] at h1
    have h1:o9 (kO post) (hk av)=true:=h1
    exact hvy h1
   ·rcases r1 with r1 | r1 | r1 | r1<;>(rw [r1] at h1;have h1:o9 (kO post) (hk av)=true:=h1;exact hvy h1)
 refine ⟨D2,hv2,?_,fun r v h1 h2=>by rw [←hs2];exact hm2 h1 h2,fun b o hd=>by rw [hD2];exact .inl hd⟩
 rw [←hs2]
 have hnotx:∀ {k av g},look s k=some av→o9 (kO post) k=false→n7 k→av.t≠7→hb (hv k)=some g→¬ V.x g:=fun {k av g} h1 h2 h3 h4 h5 hx=>by
  obtain ⟨k',av',f1,f2,f3⟩:=(hVx g).1 hx
  refine h.disj k k' av av' g h1 (hp _ _ f1) h3 f2 h4 (hlk f1 f2).2.2.1 (fun e=>?_) h5 f3
  rw [e,hsub (v7 (t8 f1))] at h2
  cases h2
 have hlent:∀ {g},V.x g→∃ k av,look s k=some av∧n7 k∧av.t≠7∧av.t≠6∧o9 (kO post) k=true∧hb (hv k)=some g:=fun {g} hx=>by
  obtain ⟨k',av',f1,f2,f3⟩:=(hVx g).1 hx
  obtain ⟨g1,g2,g3,_⟩:=hlk f1 f2
  exact ⟨k',av',hp _ _ f1,f2,g3,g2,hsub (v7 (t8 f1)),f3⟩
 refine ⟨⟨hbw.os.trans h.below.os,hbw.tape.trans h.below.tape,hbw.output.trans h.below.output,Nat.le_trans h.below.size hbw.size,fun b hb hx=>?_⟩,h.dfr,h.size,fun d av h1 h2=>?_,fun n o av h1 h2 h3 h4=>?_,fun n o o' av av' h1 h2 h3 h4 h5=>?_,fun k av h1 h2=>?_,fun k av g h1 h2 h3 h4=>?_,fun k k' av av' g h1 h2 h3 h4 h5 h6 hne=>?_,fun n g h1=>?_,fun b o hd=>?_⟩
 ·rw [hold b (Nat.lt_of_lt_of_le hb h.below.size) fun hv=>?_]
  ·exact h.below.block b hb hx
  ·obtain ⟨k,av,f1,f2,f3,f4,f5,f6⟩:=hlent hv
   rcases (h.blk k av b f1 f2 f3 f6).1 with f7 | f7
   ·omega
   ·exact hx f7.2
 ·rcases hlc h1 with h3 | ⟨h3,h4⟩
  ·have:=(hqk h3).1;omega
  ·obtain ⟨v,f1,f2⟩:=h.slot d av h4 h2
   exact ⟨v,f1,hm1 h4 h3 f2⟩
 ·have hob:=hlc h3
  rcases hlc h1 with h5 | ⟨h5,h6⟩
  ·rcases hob with h7 | ⟨h7,h8⟩
   ·obtain ⟨v,f1,f2,f3⟩:=h'.fld n o av h5 h2 h7 h4
    refine ⟨v,hm2 (hqk h5).2.2 f1,f2,?_⟩
    rw [hvy (v7 (t8 h7))]
    exact f3
   ·rw [(hqf h5 h2).2.2] at h7;cases h7
  ·rcases hob with h7 | ⟨h7,h8⟩
   ·have h8:=(hqk h7).1
    have h4':=h4
    unfold BN at h4'
    exact (hfno h6 h5 h2 (by omega) (by omega) (v7 (t8 h7))).elim
   ·obtain ⟨v,f1,f2,f3⟩:=h.fld n o av h6 h2 h8 h4
    refine ⟨v,hm1 h6 h5 f1,f2,fun i hi=>?_⟩
    rw [hvn h7]
    have f4:=f3 i hi
    obtain ⟨g2,ys,ty2,e1,e2,e3⟩:=h.obj9 h8 h4
    rw [e2] at f4 ⊢
    rw [World.cell?_of_block (w:=w) (hold g2 (Array.getElem?_eq_some_iff.1 e3).1 (hnotx h8 h7 (F4 h4) (by simp) (by rw [e1];rfl)))]
    exact f4
 ·rcases hlc h1 with f1 | ⟨f1,f2⟩
  ·rcases hlc h2 with f3 | ⟨f3,f4⟩
   ·exact h'.fdis n o o' av av' f1 f3 h3 h4 h5
   ·obtain ⟨g1,g2,g3⟩:=hqf f1 h3
    exact (hfno f4 f3 h4 g1 g2 g3).elim
  ·rcases hlc h2 with f3 | ⟨f3,f4⟩
   ·obtain ⟨g1,g2,g3⟩:=hqf f3 h4
    exact (hfno f2 f1 h3 g1 g2 g3).elim
   ·exact h.fdis n o o' av av' f2 f4 h3 h4 h5
 ·rcases hlc h1 with h3 | ⟨h3,h4⟩
  ·rw [hvy (v7 (t8 h3))]
   refine (h'.obj k av h3 h2).move hk2 (fun h5 h6=>?_) fun _ _=>rfl
   have h7:=(hqk h3).2.2
   unfold a7K at h7
   rw [h5] at h7
   have h7:Nat.ble av.n 1=true:=h7
   have:=Nat.le_of_ble_eq_true h7
   rcases E8 h6 with h8 | h8
   ·exact ⟨.inl h8,by rw [h8];rfl⟩
   ·unfold RN at h8;omega
  ·rw [hvn h3]
   by_cases h7:av.t=7
   ·exact a5Y h7
   ·refine (h.obj k av h4 h2).move hk1 (fun h5 h6=>⟨hln _ h6,?_⟩) fun g hg=>hold g (h.blk k av g h4 h2 h7 hg).2.1 (hnotx h4 h3 h2 h7 hg)
    unfold J5
    by_cases h8:av.n=1
    ·rw [if_pos h8,if_pos h8]
    ·rw [if_neg h8,if_neg h8]
     rcases h6 with h6 | ⟨e,he⟩
     ·exact absurd h6 h8
     ·rw [hvn (hlive _ _ he).1]
 ·rcases hlc h1 with h5 | ⟨h5,h6⟩
  ·rw [hvy (v7 (t8 h5))] at h4 ⊢
   obtain ⟨f1,f2,f3⟩:=h'.blk k av g h5 h2 h3 h4
   have ht6:=(hqk h5).2.1
   refine ⟨?_,f2,fun o _ hd=>?_⟩
   ·rcases f1 with f1 | ⟨f1,f4⟩
    ·exact .inl (Nat.le_trans h.below.size f1)
    ·obtain ⟨k1,av1,e1,e2,e3,e4,e5,e6⟩:=hlent f4
     rcases (h.blk k1 av1 g e1 e2 e3 e6).1 with e7 | e7
     ·exact .inl e7
     ·exact .inr ⟨f1,e7.2⟩
   ·rw [hD2] at hd
    rcases hd with hd | hd
    ·rcases f1 with f1 | ⟨f1,f4⟩
     ·have:=h.dlt _ _ hd;omega
     ·obtain ⟨k1,av1,e1,e2,e3,e4,e5,e6⟩:=hlent f4
      exact (h.blk k1 av1 g e1 e2 e3 e6).2.2 o (fun e=>absurd e e4) hd
    ·exact f3 o (fun e=>absurd e ht6) hd.2
  ·rw [hvn h5] at h4 ⊢
   obtain ⟨f1,f2,f3⟩:=h.blk k av g h6 h2 h3 h4
   refine ⟨f1,Nat.lt_of_lt_of_le f2 hbw.size,fun o ho hd=>?_⟩
   rw [hD2] at hd
   rcases hd with hd | hd
   ·exact f3 o ho hd
   ·omega
 ·have hmix:∀ {k k' av av'},look post k=some av→n7 k→av.t≠7→look s k'=some av'→o9 (kO post) k'=false→n7 k'→av'.t≠7→hb (hv' k)=some g→hb (hv k')≠some g:=fun {k k' av av'} e1 e2 e3 e4 e5 e6 e7 e8 e9=>by
   rcases (h'.blk k av g e1 e2 e3 e8).1 with f1 | f1
   ·have:=(h.blk k' av' g e4 e6 e7 e9).2.1;omega
   ·exact hnotx e4 e5 e6 e7 e9 f1.2
  rcases hlc h1 with e1 | ⟨e1,e2⟩
  ·rw [hvy (v7 (t8 e1))]
   rcases hlc h2 with e3 | ⟨e3,e4⟩
   ·rw [hvy (v7 (t8 e3))]
    exact h'.disj k k' av av' g e1 e3 h3 h4 h5 h6 hne
   ·rw [hvn e3]
    exact hmix e1 h3 h5 e4 e3 h4 h6
  ·rw [hvn e1]
   rcases hlc h2 with e3 | ⟨e3,e4⟩
   ·rw [hvy (v7 (t8 e3))]
    exact fun f1 f2=>hmix e3 h4 h6 e2 e1 h3 h5 f2 f1
   ·rw [hvn e3]
    exact h.disj k k' av av' g e2 e4 h3 h4 h5 h6 hne
 ·cases e:o9 (kO post) n with
  | false=>rw [hvn e];exact h.fix n g h1
  | true =>
   rw [hvy e]
   have h2:=U0.hf n g h1
   rw [hbx n h2.1 h2.2 (hnb n g h1 e)]
   exact h.fix n g h1
 ·rw [hD2] at hd
  rcases hd with hd | hd
  ·exact Nat.lt_of_lt_of_le (h.dlt b o hd) hbw.size
  ·exact h'.dlt b o hd.2
def nbB (pre post:List Nat):Bool:=post.all fun k=>match Nat.ble 400000 k&&Nat.blt k 500000 with | true=>o9 pre k | false=>true
theorem j8 {pre post:List Nat} (h:nbB pre post=true):∀ k v,U0.f k=some v→o9 post k=true→o9 pre k=true:=fun k v h1 h2=>by
 have h3:=U0.hf k v h1
 unfold nbB at h
 rw [List.all_eq_true] at h
 have h4:=h _ (B6 h2)
 rw [Nat.ble_eq_true_of_le h3.1,a5r h3.2] at h4
 exact h4
theorem b4Y {f:FuncId} {xs:Array Operand} {ts:Array TypeId} {avs:List AV} {r:AV} {pre post:AS} (hg:Gd w0 U0 nt ops o gs S) (hd:o.dst=some d) (hn:Nat.blt d nt=true) (h5:Nat.blt d 100000=true)
  (ho:o.op = .call { callee := .value (.func f),args:=xs,argTypes:=ts }) (hx:a9t S xs.toList=some avs) (hc:q6 P f pre avs r post) (hp:SubS S pre) (hl:pre.all Y0=true) (hq:post.all (Q1 (kO post))=true) (hks:(kO pre).all (o9 (kO post))=true) (hr:a7K (kO post) r=true) (hnb:∀ k v,U0.f k=some v→o9 (kO post) k=true→o9 (kO pre) k=true) :
  AOp P w0 U0 nt ops o (gs++(rdl xs.toList++kO pre)) (W9 (kO pre) (kO post) (kO post)) S ((d,r)::post):=by
 intro s hs hN a w ⟨D,hv,h⟩ Q K hK
 rw [if_pos (hg s (fun k hk=>hs k (List.mem_append_left _ hk)) a w D hv h)]
 have hargs:=a3y h (fun k hk=>hs k (List.mem_append_right _ (List.mem_append_left _ hk))) hx
 have hsub:Sub s pre:=fun k av h1=>(hs k (List.mem_append_right _ (List.mem_append_right _ (t8 h1)))).trans (hp.look h1)
 obtain ⟨V,v1,v2,v3,v4,v5,v6⟩:=h.lend hsub hl
 obtain ⟨h1,h2⟩:=hc
 have hcall:=h2 V w hv ⟨#[],[]⟩ _ v1 v2 (hargs.imp fun c _ v hcv=>hcv.move v6 (fun _ h3=>h3.imp id fun ⟨e,he⟩=>⟨e,hsub _ _ he.1,he.2⟩) fun _=>rfl)
 have he:(execOp a.eval o).run P w = .ok (.enter f (xs.toList.map a.eval).toArray) w:=by
  have hf:a.eval (.func f) = .func (.func f) #[] #[]:=rfl
  have hen:=h1 (xs.map a.eval) w
  have harr:(xs.toList.map a.eval).toArray=xs.map a.eval:=by apply Array.ext';simp
  rw [harr]
  generalize a.eval=ρ at hf hen ⊢
  simp [execOp,ho,resolve,invoke,Deferred.ofValue,hf,hen]
 unfold Oper.wp
 rw [he,Oper.upon_enter]
 refine hcall.mono ?_
 rintro e w' ⟨v,D',hv',a',rfl,h6,h7⟩
 rw [hd]
 obtain ⟨D2,hv2,h8,h9⟩:=h.back hsub hl hq hks hN hnb v3 v4 v5 v2 h6
 exact hK _ _ ⟨D2,hv2,h8.put (bL hn) (bL h5) (h9.1 r v hr h7)⟩
theorem z9 {P:Program} {w0:World} {U0:UX} {nt:Nat} {ops:Array Oper} {o:Oper} {S:Nat→Option AV} {gs:List Nat} {d:Nat} {f:FuncId} {xs:Array Operand} {ts:Array TypeId} {avs:List AV} {r:AV} {pre:AS} {post:AS} (p:Gd w0 U0 nt ops o gs S:=by exact gN rfl) (q:o.dst=some d:=by exact rfl) (t:Nat.blt d nt=true:=by exact rfl) (u:Nat.blt d 100000=true:=by exact rfl) (x:o.op = .call { callee := .value (.func f),args:=xs,argTypes:=ts }:=by exact rfl) (y:a9t S xs.toList=some avs:=by exact rfl) (z:q6 P f pre avs r post) (A:SubS S pre:=by repeat (first | exact trivial | refine ⟨rfl,?_⟩)) (B:pre.all Y0=true) (C:post.all (Q1 (kO post))=true) (E:(kO pre).all (o9 (kO post))=true:=by first | rfl | kernel_rfl) (F:a7K (kO post) r=true:=by first | rfl | kernel_rfl) (G:∀ k v,U0.f k=some v→o9 (kO post) k=true→o9 (kO pre) k=true):AOp P w0 U0 nt ops o (gs++(rdl xs.toList++kO pre)) (W9 (kO pre) (kO post) (kO post)) S ((d,r)::post):=b4Y p q t u x y z A B C E F G
def a7d:List AV→Nat→AS
 | [],_=>[]
 | c::cs,i=>(i,c)::a7d cs (i+1)
theorem a1l:∀ {cs:List AV} {i k:Nat} {av:AV},look (a7d cs i) k=some av→i≤k∧cs[k-i]?=some av
 | [],_,_,_,h=>by simp [a7d,look] at h
 | c::cs,i,k,av,h=>by
  rw [a7d,r7] at h
  split at h
  ·rename_i e;subst e;cases h;exact ⟨Nat.le_refl _,by simp⟩
  ·rename_i e
   obtain ⟨h1,h2⟩:=a1l h
   refine ⟨by omega,?_⟩
   rw [show k-i=(k-(i+1))+1 by omega]
   simpa using h2
noncomputable def b7Q (P:Program) (s:AS) (rs:List ResultVar):Option AV:=match rs with
 | [.tmp t]=>match Nat.blt t 100000,look s t with
  | true,some ⟨0,c,_,_,_⟩=>some (.val c)
  | true,some av=>some av
  | _,_=>none
 | rs=>match a5U P s rs with | some cs=>some (A4 cs) | none=>none
theorem b3w (h:SimG w0 U0 nt s a w D hv) {fn:Func} {r:AV} (hr:b7Q P s fn.results.toList=some r):∃ v,(results fn a.tmps).run P w = .ok v w∧AVRep (Us w0 U0 D) w hv (b6 s) r v:=by
 unfold b7Q at hr
 split at hr
 ·rename_i t ht
  have hrs:fn.results = #[.tmp t]:=by apply Array.ext';simpa using ht
  have hres:∀ v,a.tmps[t]?=some v→(results fn a.tmps).run P w = .ok v w:=fun v hv=>by
   rw [a2R,hrs]
   simp [b4d,Array.getD_eq_getD_getElem?,hv]
  split at hr
  ·rename_i c n q p h1 h2
   cases hr
   obtain ⟨v,h3,h4⟩:=h.slot t _ h2 (bL h1)
   exact ⟨v,hres v h3,i7 h4.1⟩
  ·rename_i av h1 h2
   cases hr
   obtain ⟨v,h3,h4⟩:=h.slot t _ h2 (bL h1)
   exact ⟨v,hres v h3,h4⟩
  ·cases hr
 ·split at hr
  ·rename_i cs h1
   cases hr
   obtain ⟨v,h2,h3⟩:=a2m h h1
   refine ⟨v,h2,J6 ?_ ?_ h3⟩
   ·unfold A4;split
    ·exact .inl rfl
    ·exact .inr rfl
   ·unfold A4;split<;>rfl
  ·cases hr
def b9m (P:Program) (w0:World) (U0:UX) (nt:Nat) (fn:Func) (s:AS) (r:AV) (post:AS):Prop:=∃ s',Wk w0 U0 nt s s'∧b7Q P s' fn.results.toList=some r∧SubL s' post
theorem i8 {f : FuncId} {fn : Func} {c : Code} {pre post : AS} {args : List AV} {r : AV} (hf : P.funcs[f]? = some fn) (hn : fn.ntmps = nt) (hname : (fn.name == "runtime.NumGoroutine") = false) (hb : fn.body = some c) (hl : Nat.ble args.length nt = true) (hnt : Nat.blt nt 100000 = true) (hpre : (kO pre).all (Nat.ble 100000) = true) (hpost : (kO post).all (Nat.ble 100000) = true)
  (h:∀ (w:World) (U:UX),(∀ k v,U.f k=some v→o9 (kO pre) k=true)→AWp P w U nt c (fun e s'=>(e = .normal∨e = .ret)∧b9m P w U nt fn s' r post) (a7d args 0++pre)):q6 P f pre args r post:=by
 refine ⟨r9 hf hname (by rw [hb];rfl),fun U w hv a0 vs hU hpS hargs=>?_⟩
 have hlen:=hargs.len
 refine calls_of_wp hf hb ?_
 have hle:=Nat.le_of_ble_eq_true hl
 have hnt:=bL hnt
 have hlow:∀ {k av},look pre k=some av→100000≤k:=fun {k av} h1=>by
  rw [List.all_eq_true] at hpre
  exact Nat.le_of_ble_eq_true (hpre k (t8 h1))
 have hlk:∀ {k},100000≤k→look (a7d args 0++pre) k=look pre k:=fun {k} h1=>by
  rw [D3]
  cases h2:look (a7d args 0) k with
  | none=>rfl
  | some av =>
   obtain ⟨_,h3⟩:=a1l h2
   rw [Nat.sub_zero,List.getElem?_eq_none (by omega)] at h3
   cases h3
 have hlive:b6 (a7d args 0++pre)=b6 pre:=by
  funext n
  unfold b6 y6
  apply propext
  constructor
  ·rintro (h1 | ⟨e,h1,h2,h3⟩)
   ·exact .inl h1
   ·rw [hlk (by omega)] at h1;exact .inr ⟨e,h1,h2,h3⟩
  ·rintro (h1 | ⟨e,h1,h2,h3⟩)
   ·exact .inl h1
   ·exact .inr ⟨e,by rw [hlk (by omega)];exact h1,h2,h3⟩
 have hs:Sim w U nt (a7d args 0++pre) { tmps:=vs.toArray++Array.replicate (fn.ntmps-vs.toArray.size) undef,defers:=[] } w:=by
  refine ⟨fun _ _=>False,hv,hpS.below,rfl,by simp [hn];omega,fun d av h1 h2=>?_,fun n o av h1 h2 h3 h4=>?_,fun n o o' av av' h1 h2=>?_,fun k av h1 h2=>?_,fun k av g h1 h2=>?_,fun k k' av av' g h1 h2 h3 h4=>?_,hpS.fix,fun b o hd=>hd.elim⟩
  ·rw [D3] at h1
   cases h3:look (a7d args 0) d with
   | none =>
    rw [h3] at h1
    have:=hlow h1
    omega
   | some av' =>
    rw [h3] at h1
    cases h1
    obtain ⟨_,h4⟩:=a1l h3
    rw [Nat.sub_zero] at h4
    obtain ⟨v,h6,h7⟩:=hargs.at h4
    have hdl:d<vs.length:=by
     rcases Nat.lt_or_ge d vs.length with h | h
     ·exact h
     ·rw [List.getElem?_eq_none h] at h6;cases h6
    rw [hlive]
    refine ⟨v,?_,h7⟩
    rw [Array.getElem?_append_left (by simpa using hdl)]
    simpa using h6
  ·rw [hlk (by unfold c8;omega)] at h1
   rw [hlk (by omega)] at h3
   rw [hlive]
   exact hpS.fld n o av h1 h2 h3 h4
  ·rw [hlk (by unfold c8;omega)] at h1 h2
   exact hpS.fdis n o o' av av' h1 h2
  ·rw [hlk h2.1] at h1;rw [hlive];exact hpS.obj k av h1 h2
  ·rw [hlk h2.1] at h1;exact hpS.blk k av g h1 h2
  ·rw [hlk h3.1] at h1;rw [hlk h4.1] at h2;exact hpS.disj k k' av av' g h1 h2 h3 h4
 refine wp_mono ((h w U hU ⟨none,[]⟩ _ w hs).wp rfl (fun e a w ⟨s,_,h⟩=>h.df)) ?_
 rintro e a' w' ⟨s',⟨h1,s2,g1,g2,g3⟩,h3⟩
 obtain ⟨D',hv',h4⟩:=g1 a' w' h3
 obtain ⟨v,h5,h6⟩:=b3w h4 g2
 have hS:=h4.sub g3.sub
 have hlow2:∀ {k av},look post k=some av→100000≤k:=fun {k av} h1=>by
  rw [List.all_eq_true] at hpost
  exact Nat.le_of_ble_eq_true (hpost k (t8 h1))
 have hS0:SimG w U 0 post ⟨#[],[]⟩ w' D' hv':=⟨hS.below,rfl,rfl,fun d av h7 h8=>by have:=hlow2 h7;omega,hS.fld,hS.fdis,hS.obj,hS.blk,hS.disj,hS.fix,hS.dlt⟩
 rcases h1 with rfl | rfl
 ·exact ⟨h4.dfr,v,h5,v,D',hv',_,rfl,hS0,h6.move (fun _ _ _ h1 h2=>⟨h1,h2⟩) (fun _ h7=>h7.imp id fun ⟨e,he⟩=>⟨e,g3.sub _ _ he.1,he.2⟩) fun _=>rfl⟩
 ·exact ⟨h4.dfr,v,h5,v,D',hv',_,rfl,hS0,h6.move (fun _ _ _ h1 h2=>⟨h1,h2⟩) (fun _ h7=>h7.imp id fun ⟨e,he⟩=>⟨e,g3.sub _ _ he.1,he.2⟩) fun _=>rfl⟩
end
def a0x (P:Program) (e:TypeId):Option CV:=match P.info? e with
 | some it=>match it.zero with
  | some (.agg cs)=>match P.underlying e with
   | some (.struct fs)=>match szO P fs.toList 0 with
    | some sz=>match zsO sz cs.toList with | some zs=>some (.row zs) | none=>none
    | none=>none
   | _=>none
  | some v=>match L6 v with | true=>some (N5 v) | false=>none
  | none=>none
 | none=>none
theorem P4 {P:Program} {e:TypeId} {c:CV} (h:a0x P e=some c):∃ it z,P.info? e=some it∧it.zero=some z∧∀ U w,Rep U w c z.cells.toList:=by
 unfold a0x at h
 split at h
 ·rename_i it hi
  split at h
  ·rename_i cs hz
   refine ⟨it,_,hi,hz,fun U w=>?_⟩
   split at h
   ·split at h
    ·split at h
     ·rename_i zs h0
      cases h
      obtain ⟨segs,e1,e2,e3,e4,e5⟩:=J7 (U:=U) (w:=w) h0
      rw [s8]
      show Sq _ cs.toList
      rw [←e1]
      exact I6 e4 (fun i c hi=>by obtain ⟨seg,f1,f2,_⟩:=e5 i c hi;exact ⟨seg,f1,f2⟩)
     ·cases h
    ·cases h
   ·cases h
  ·rename_i v hz hv
   refine ⟨it,_,hi,hv,fun U w=>?_⟩
   split at h
   ·rename_i hp
    cases h
    have:=U4 U w v hp
    have hc:v.cells = #[v]:=by
     cases v with
     | agg cs=>exact absurd rfl (hz cs)
     | _=>rfl
    rw [hc]
    exact this
   ·cases h
  ·cases h
 ·cases h
section
variable {P:Program} {w0:World} {U0:UX} {nt:Nat} {ops:Array Oper} {o:Oper} {S:Nat→Option AV} {gs:List Nat} {d:Nat} {s:AS} {a:Act} {w:World} {D:Nat→Nat→Prop} {hv:Nat→Value}
theorem a5H {U:Nat→Nat→Prop} {c:CV} {xs:List Value} (h:Rep U w c xs):∀ k,Sq ((List.replicate k c).map fun c=>Rep U w c) (List.replicate k xs).flatten
 | 0=>rfl
 | k+1=>⟨_,_,rfl,h,a5H h k⟩
theorem a2F {v:Value} {k cap:Nat} {ao:Option Addr} {z:Nat} (h:v = .slice ao k cap) (hk:k≤cap) (hg:ao=none∨∃ g,ao=some ⟨g,0,none⟩):SlV v 0 k z v:=by
 refine ⟨ao,k,cap,ao,h,by rw [h];rfl,by omega,fun _=>rfl,fun _ g e=>by rw [Nat.zero_mul];exact e,Iff.rfl⟩
theorem a3l {e z:Nat} {v:Value} {k:Nat} {xs:List Value} (h:w.ownsRow 0 e z v k xs):∃ ao cap,v = .slice ao k cap∧k≤cap∧(ao=none∨∃ g,ao=some ⟨g,0,none⟩):=by
 rcases h.2 with ⟨rfl,rfl⟩ | ⟨g,cap,cur,rfl,_,h3,h4,h5,h6,h7⟩
 ·exact ⟨none,0,rfl,Nat.le_refl _,.inl rfl⟩
 ·exact ⟨_,cap,rfl,h4,.inr ⟨g,rfl⟩⟩
theorem b4Q {Q:Exit→Act→World→Prop} {K:Act→World→Prop} (h:SimG w0 U0 nt s a w D hv) {n e size bytes:Nat} {z:Value} {t:TypeId} (hd:o.dst=some d) (hdn:d<nt) (h5:d<100000) (hn:RW n) (hr:a0n s n) {x y:Operand} (ho:o.op = .call { callee := .builtin .append,args := #[x,y],argTypes := #[t,t] })
  (ht:P.underlying t=some (.slice e)) (hi:(P.info? e).map (fun i=>(i.zero,i.size,i.bytes))=some (some z,size,bytes)) (hzs:z.cells.size=size) (hsz:0<size) (hbt:bytes≤1000)
  {l l2:List CV} (hl:∀ c∈l,c.size=size) (hl2:∀ c∈l2,c.size=size) (hbd:l.length+l2.length≤100000000000)
  {v:Value} (hx:a.eval x=v) (hy:VRep (Us w0 U0 D) w (.lst l2) (a.eval y)) {xs:List Value} (hown:w.ownsRow 0 e size v l.length xs) (hsq:Sq (l.map fun c=>Rep (Us w0 U0 D) w c) xs)
  (hroom:∀ g,v.ownBlock=some g→Mn w0 U0 (lcl n (.mrow e size (l++l2))) g∧(∀ o,¬ D g o)∧∀ q av,look s q=some av→n7 q→av.t≠7→q≠n→hb (hv q)≠some g)
  (hK:∀ a' w',Sim w0 U0 nt ((d,.sl n 0 (l.length+l2.length) size)::(n,.mrow e size (l++l2))::s) a' w'→K a' w'):o.wp P a w K Q:=by
 obtain ⟨ao2,m,c2,g1,g2,g3,g4,g6,ys2,g7,g8⟩:=d8.1 hy
 have hyl2:ys2.length=m*size:=by rw [F7 (n:=CV.size) (fun c _ xs h=>h.len) g8,w8 hl2,g2]
 have hmul:(l.length+m)*bytes≤100000000000*1000:=Nat.mul_le_mul (by omega) hbt
 obtain ⟨v',w',r1,r2,r3,r4⟩:=b0a (P:=P) (ty:=o.type) ht hi hzs hsz (Nat.zero_le _) hown g6 g7 hyl2 (O4 g8) (by unfold maxLen;omega) (by omega)
 have hvs:∀ {u:Value} {k xs} {w:World},w.ownsRow 0 e size u k xs→hb u=u.ownBlock:=fun {u k xs w} h1=>by
  rcases h1.2 with ⟨rfl,rfl⟩ | ⟨g,cap,cur,rfl,_⟩<;>rfl
 have hb2:=hvs r2
 have hkp:∀ b o u,Us w0 U0 D b o→w.cell? ⟨b,o,none⟩=some u→Us w0 U0 D b o∧w'.cell? ⟨b,o,none⟩=some u:=fun b o u hu hc=>by
  refine ⟨hu,?_⟩
  have hlt:b<w.heap.size:=World.block_lt_of_cell? w _ hc
  have hnb:some b≠v.ownBlock:=fun e=>by
   obtain ⟨f1,f2,_⟩:=hroom b e.symm
   exact a4i hu f1 (f2 o) rfl
  rw [World.cell?_of_block (w:=w) (r3.block b hlt hnb)]
  exact hc
 have hG:=h.newrow (avn := .mrow e size (l++l2)) (v':=v') (D':=D) (X:=fun b=>v.ownBlock=some b) hn hr (by simp) ⟨r3.os,r3.tape,r3.output,r3.size,fun b hb hx=>r3.block b hb fun e=>hx e.symm⟩ (fun b hb=>⟨(hroom b hb).1,(hroom b hb).2.2⟩) (fun g hg=>by
   rw [hb2] at hg
   refine ⟨?_,(r2.lt g hg).2,fun o _ hd=>?_⟩
   ·rcases r4 with r4 | ⟨_,r4⟩
    ·exact .inl (r4▸hg)
    ·exact .inr (r4 g hg)
   ·rcases r4 with r4 | ⟨_,r4⟩
    ·exact (hroom g (r4▸hg)).2.1 o hd
    ·have:=r4 g hg
     have:=h.dlt _ _ hd
     omega) (fun b o hd => .inl hd) (fun b o hd=>Nat.lt_of_lt_of_le (h.dlt _ _ hd) r3.size) hkp (fun hv lv=>by
   refine ⟨xs++ys2,?_,hsz,fun c hc=>?_,?_⟩
   ·show w'.ownsRow 0 e size v' (l++l2).length (xs++ys2)
    rw [List.length_append,←g2]
    exact r2
   ·rcases List.mem_append.1 hc with hc | hc
    ·exact hl c hc
    ·exact hl2 c hc
   ·show Sq ((l++l2).map _) _
    rw [List.map_append]
    exact D6 (Sq.keep hkp hsq) (Sq.keep hkp g8))
 have he:(execOp a.eval o).run P w = .ok (.value v') w':=by
  generalize a.eval=ρ at hx g1 ⊢
  simp [execOp,ho,resolve,invoke,builtin,hx,g1,r1,Result.andThen]
 unfold Oper.wp
 rw [he,Oper.upon_value,hd]
 refine hK _ _ ⟨_,_,hG.put hdn h5 ?_⟩
 refine ⟨hn.rn,?_⟩
 obtain ⟨a1,c1,e1,e2,e3⟩:=a3l r2
 have:=a2F (z:=size) e1 e2 e3
 show SlV ((fun x=>if x=n then v' else hv x) n) 0 (l.length+l2.length) size v'
 simp only [if_true]
 rw [←g2]
 exact this
theorem b7n (nn:Nat) (hg:Gd w0 U0 nt ops o gs S) (hd:o.dst=some d) (hn:Nat.blt d nt=true) (h5:Nat.blt d 100000=true) {x y:Operand} {t e size bytes:Nat} {z:Value} {l l2:List CV} {n len n2 q2 p2} (ho:o.op = .call { callee := .builtin .append,args := #[x,y],argTypes := #[t,t] }) (ht:P.underlying t=some (.slice e)) (hi:(P.info? e).map (fun i=>(i.zero,i.size,i.bytes))=some (some z,size,bytes)) (hzs:Nat.beq z.cells.size size=true) (hbt:Nat.ble bytes 1000=true)
  (hx:ev S x=some (.sl n 0 len size)) (hy:ev S y=some ⟨0,.lst l2,n2,q2,p2⟩) (hn2:(Nat.ble 200000 nn&&Nat.blt nn 400000)=true) (hne:(!Nat.beq n nn&&(Nat.blt n 300000||Nat.ble 300000 nn))=true) (hlv:S n=some (.mrow e size l)) (hlen:len=l.length) (hl2:∀ c∈l2,c.size=size) (hbd:l.length+l2.length≤100000000000) :
  AOp P w0 U0 nt ops o (gs++(rd x++(rd y++[n]))) [(nn,[])] S [(d,.sl nn 0 (l.length+l2.length) size),(nn,.mrow e size (l++l2)),(n,.no)]:=by
 intro s hs hN a w ⟨D,hv,h⟩ Q K hK
 rw [if_pos (hg s (fun k hk=>hs k (List.mem_append_left _ hk)) a w D hv h)]
 obtain ⟨hrn,hsl⟩:RN n∧SlV (hv n) 0 len size (a.eval x):=j6 h (fun k hk=>hs k (List.mem_append_right _ (List.mem_append_left _ hk))) hx
 have h3:=C2 h (fun k hk=>hs k (List.mem_append_right _ (List.mem_append_right _ (List.mem_append_left _ hk)))) hy
 have hrn2:=rnB hn2
 have hrn':=hrn
 unfold RN at hrn'
 have hok:n7 n:=⟨by omega,by omega⟩
 have hlk:=(hs n (by simp)).trans hlv
 obtain ⟨xs,g1,g2,g3,g4⟩:=h.mrow hlk hrn
 have hval:a.eval x=hv n:=by
  obtain ⟨ao,m,cap,ao',e1,e2,e3,e4,_⟩:=hsl
  obtain ⟨ao2,cap2,f1,f2,f3⟩:=a3l g1
  rw [f1] at e1 ⊢
  injection e1 with e5 e6 e7
  subst e5;subst e6;subst e7
  rw [e2,e4 rfl,hlen];rfl
 have hvs:hb (hv n)=(hv n).ownBlock:=by
  rcases g1.2 with ⟨e1,e2⟩ | ⟨g,cap,cur,e1,_⟩
  ·rw [e1];rfl
  ·rw [e1];rfl
 rw [Bool.and_eq_true,Bool.or_eq_true] at hne
 have hne':n≠nn:=fun e=>by rw [e,Nat.beq_refl] at hne;exact absurd hne.1 (by decide)
 refine b4Q (l:=l) (n:=nn) (h.kill hok) hd (bL hn) (bL h5) hrn2 (fun k av hk=>?_) ho ht hi (Nat.eq_of_beq_eq_true hzs) g2 (Nat.le_of_ble_eq_true hbt) g3 hl2 hbd hval h3 g1 g4 (fun g hg=>?_) (fun a' w' hs'=>hK a' w' hs')
 ·by_cases e:n=k
  ·subst e
   rw [lS] at hk
   cases hk
   refine ⟨by show 0≠_;omega,?_⟩
   have hfn:fnm n=100000:=by
    unfold fnm
    have:Nat.ble 500000 n=false:=by
     cases hb:Nat.ble 500000 n with
     | false=>rfl
     | true=>have:=Nat.le_of_ble_eq_true hb;omega
    rw [this]
   rw [hfn]
   omega
  ·rw [lN e] at hk;exact (hN (nn,[]) (by simp)).nr k av hk
 ·rw [←hvs] at hg
  obtain ⟨f1,f2,f3⟩:=h.blk n _ g hlk hok (by simp) hg
  refine ⟨?_,fun o=>f3 o (fun e=>by cases e),fun q av h6 h7 h8 h9=>?_⟩
  ·rcases f1 with f1 | f1
   ·exact .inl f1
   ·rcases hne.2 with h6 | h6
    ·rw [a0F (bL h6)] at f1;exact absurd rfl f1.1
    ·exact .inr ⟨by rw [a2A (Nat.le_of_ble_eq_true h6)];simp,f1.2⟩
  ·have hq:n≠q:=fun e=>by subst e;rw [lS] at h6;cases h6;exact h8 rfl
   rw [lN hq] at h6
   exact h.disj n q _ av g hlk h6 hok h7 (by simp) h8 hq hg
theorem zbg {P:Program} {w0:World} {U0:UX} {nt:Nat} {ops:Array Oper} {o:Oper} {S:Nat→Option AV} {gs:List Nat} {d:Nat} {x:Operand} {y:Operand} {t:Nat} {e:Nat} {size:Nat} {bytes:Nat} {z:Value} {l:List CV} {l2:List CV} {n} {len} {n2} {q2} {p2} (nn:Nat) (p:Gd w0 U0 nt ops o gs S:=by exact gN rfl) (r:o.dst=some d:=by exact rfl) (u:Nat.blt d nt=true:=by exact rfl) (v:Nat.blt d 100000=true:=by exact rfl) (A:o.op = .call { callee := .builtin .append,args := #[x,y],argTypes := #[t,t] }:=by exact rfl) (B:P.underlying t=some (.slice e):=by exact rfl) (C:(P.info? e).map (fun i=>(i.zero,i.size,i.bytes))=some (some z,size,bytes):=by exact rfl) (E:Nat.beq z.cells.size size=true:=by exact rfl) (F:Nat.ble bytes 1000=true:=by exact rfl) (G:ev S x=some (.sl n 0 len size):=by exact rfl) (H:ev S y=some ⟨0,.lst l2,n2,q2,p2⟩:=by exact rfl) (hn2:(Nat.ble 200000 nn&&Nat.blt nn 400000)=true:=by exact rfl) (hne:(!Nat.beq n nn&&(Nat.blt n 300000||Nat.ble 300000 nn))=true:=by exact rfl) (hlv:S n=some (.mrow e size l):=by exact rfl) (hlen:len=l.length:=by first | rfl | omega | (simp only [List.length_set,List.length_map,List.length_append,List.length_cons,List.length_nil]<;>omega) | (simp<;>omega)) (hl2:∀ c∈l2,c.size=size:=by first | assumption | exact sZ rfl | exact Tm.size_all _ | exact Bd.size_all _ | exact b8 _ | exact bys_size _ | exact Lt.size_all _) (hbd:l.length+l2.length≤100000000000:=by first | omega | (simp only [List.length_map,List.length_append,List.length_cons,List.length_nil]<;>omega) | (simp<;>omega)):AOp P w0 U0 nt ops o (gs++(rd x++(rd y++[n]))) [(nn,[])] S [(d,.sl nn 0 (l.length+l2.length) size),(nn,.mrow e size (l++l2)),(n,.no)]:=b7n nn p r u v A B C E F G H hn2 hne hlv hlen hl2 hbd
theorem b2z (hg:Gd w0 U0 nt ops o gs S) (hd:o.dst=none) {x:Operand} {t e e':TypeId} {ts:Array TypeId} {n lo len z:Nat} {l:List CV} {zc:CV} (ho:o.op = .call { callee := .builtin .clear,args := #[x],argTypes:=ts }) (ht:ts[0]?=some t) (hu:P.underlying t=some (.slice e)) (hzc:a0x P e=some zc) (hx:ev S x=some (.sl n lo len z)) (hm':S n=some (.mrow e' z l)) (hzz:zc.size=z) (hl:lo+len≤l.length) :
  AOp P w0 U0 nt ops o (gs++(rd x++[n])) [] S [(n,.mrow e' z (l.take lo++(List.replicate len zc++l.drop (lo+len))))]:=by
 intro s hs hN a w ⟨D,hv,h⟩ Q K hK
 rw [if_pos (hg s (fun k hk=>hs k (List.mem_append_left _ hk)) a w D hv h)]
 have hm:=(hs n (by simp)).trans hm'
 obtain ⟨hrn,ao,m,cap,ao',h1,h2,h3,h4,h6,h7⟩:RN n∧SlV (hv n) lo len z (a.eval x):=j6 h (fun k hk=>hs k (List.mem_append_right _ (List.mem_append_left _ hk))) hx
 obtain ⟨xs,g1,g2,g3,g4⟩:=h.mrow hm hrn
 obtain ⟨it,zv,i1,i2,i3⟩:=P4 hzc
 by_cases hl0:len=0
 ·subst hl0
  have he:(execOp a.eval o).run P w = .ok (.value (.tuple #[])) w:=by
   generalize a.eval=ρ at h2 ⊢
   cases ao'<;>simp [execOp,ho,resolve,invoke,builtin,Builtin.clear_,ht,h2,run_underlying hu]
  unfold Oper.wp
  rw [he,Oper.upon_value,hd]
  have:l.take lo++(List.replicate 0 zc++l.drop (lo+0))=l:=by simp
  refine hK _ _ ⟨D,hv,h.congr fun k=>?_⟩
  rw [this]
  by_cases e:n=k
  ·subst e;rw [List.cons_append,lS];exact hm.symm
  ·rw [List.cons_append,lN e];rfl
 obtain ⟨g,cap',cur,f1,f2,f3,f4,f6,f7,f8,f9⟩:=a0v g1 (by omega)
 obtain rfl:cap=cap':=by rw [f1] at h1;injection h1 with k1 k2 k3;exact k3.symm
 obtain rfl:ao=some ⟨g,0,none⟩:=by rw [f1] at h1;injection h1 with k1 k2 k3;exact k1.symm
 have ha:ao'=some ⟨g,lo*z,none⟩:=h6 (by omega) g rfl
 subst ha
 have hzl:zv.cells.size=z:=by have:=(i3 (fun _ _=>True) w).len;rw [hzz] at this;simpa using this
 obtain ⟨zs,hzs⟩:∃ zs,zs=(List.replicate len zv.cells.toList).flatten:=⟨_,rfl⟩
 have hzsl:zs.length=len*z:=by rw [hzs];simp [hzl]
 have hzc2:(Builtin.zeroCells zv.cells len).toList=zs:=by
  rw [hzs]
  apply List.ext_getElem?
  intro k
  rw [J0 g2 _ (by intro v hv';rw [List.mem_replicate] at hv';rw [hv'.2];simpa using hzl)]
  unfold Builtin.zeroCells
  rw [hzl]
  by_cases hk:k<len*z
  ·have e1:k / z<len:=(Nat.div_lt_iff_lt_mul g2).2 hk
   have e2:k % z<zv.cells.size:=by rw [hzl];exact Nat.mod_lt _ g2
   simp [hk,List.getElem?_replicate,e1,e2]
  ·have e1:¬ k / z<len:=by rw [Nat.div_lt_iff_lt_mul g2];exact hk
   simp [hk,List.getElem?_replicate,e1]
 have hone:∀ v∈zs,v.oneCell'=true:=by
  intro v hv'
  rw [hzs,List.mem_flatten] at hv'
  obtain ⟨r,hr1,hr2⟩:=hv'
  rw [List.mem_replicate] at hr1
  rw [hr1.2] at hr2
  exact (i3 (fun _ _=>True) w).one v hr2
 have hcl:lo*z+len*z≤l.length*z:=by rw [←Nat.add_mul];exact Nat.mul_le_mul_right _ hl
 have hcap:l.length*z≤cap*z:=Nat.mul_le_mul_right _ f3
 have hst:=run_storeCells_at (P:=P) g (lo*z) e' zs 0 cur w f2 (by rw [hzsl,f6];omega) hone
 rw [Nat.add_zero] at hst
 have he:(execOp a.eval o).run P w = .ok (.value (.tuple #[])) (w.setRow g (cur.toList.take (lo*z)++zs++cur.toList.drop (lo*z+zs.length)).toArray):=by
  have hzv:(zeroValue e).run P w = .ok zv w:=by simp [zeroValue,typeInfo,i1,i2]
  obtain ⟨len',rfl⟩:∃ k,len=k+1:=⟨len-1,by omega⟩
  generalize a.eval=ρ at h2 ⊢
  simp [execOp,ho,resolve,invoke,builtin,Builtin.clear_,ht,h2,run_underlying hu,hzv,hzc2,hst]
 unfold Oper.wp
 rw [he,Oper.upon_value,hd]
 have hok:n7 n:=by unfold RN at hrn;unfold n7;omega
 obtain ⟨l',hl'⟩:∃ l',l'=l.take lo++(List.replicate len zc++l.drop (lo+len)):=⟨_,rfl⟩
 have hll:l'.length=l.length:=by rw [hl'];simp;omega
 refine hK _ _ ?_
 rw [←hl']
 refine ⟨_,_,h.store (av := .mrow e' z l') hok hm (by simp) (by simp) rfl (fun g' hn o _=>hn o (by simp)) (by simp) f9 f2 fun w' hw hkp=>?_⟩
 have hsplit:l=l.take lo++((l.drop lo).take len++(l.drop lo).drop len):=by rw [List.take_append_drop,List.take_append_drop]
 have g4':=g4
 rw [hsplit,List.map_append,List.map_append] at g4'
 obtain ⟨y1,r1,e1,s1,s2⟩:=G7 g4'
 obtain ⟨y2,y3,e2,s3,s4⟩:=G7 s2
 have hy1:y1.length=lo*z:=by rw [F7 (n:=CV.size) (fun c _ xs h=>h.len) s1,w8 (fun c hc=>g3 c (List.mem_of_mem_take hc)),List.length_take,Nat.min_eq_left (by omega)]
 have hy2:y2.length=len*z:=by rw [F7 (n:=CV.size) (fun c _ xs h=>h.len) s3,w8 (fun c hc=>g3 c (List.mem_of_mem_drop (List.mem_of_mem_take hc))),List.length_take,List.length_drop,Nat.min_eq_left (by omega)]
 have hy3:y1.length+(y2.length+y3.length)=l.length*z:=by have:=g1.1;rw [e1,e2] at this;simpa using this
 have hcur:cur.toList=y1++(y2++(y3++cur.toList.drop (l.length*z))):=by
  conv=>lhs;rw [←List.take_append_drop (l.length*z) cur.toList,f7,e1,e2]
  simp
 have hnew:cur.toList.take (lo*z)++zs++cur.toList.drop (lo*z+zs.length)=(y1++(zs++y3))++cur.toList.drop (l.length*z):=by
  have t1:cur.toList.take (lo*z)=y1:=by rw [hcur,←hy1];simp
  have t2:cur.toList.drop (lo*z+zs.length)=y3++cur.toList.drop (l.length*z):=by
   rw [hzsl,←hy1,←hy2]
   conv=>lhs;rw [hcur]
   rw [←List.append_assoc,List.drop_append_of_le_length (by simp)]
   simp
  rw [t1,t2]
  simp
 rw [hnew] at hw
 refine ⟨y1++(zs++y3),⟨?_,.inr ⟨g,cap,_,?_,Nat.zero_le _,hw,?_,f4,?_,?_⟩⟩,g2,fun x hx=>?_,?_⟩
 ·show _=l'.length*z
  rw [hll]
  simp only [List.length_append,hzsl]
  omega
 ·show hv n = .slice _ l'.length cap
  rw [hll];exact f1
 ·show l'.length≤cap
  rw [hll];exact f3
 ·have:=congrArg List.length hcur
  rw [Array.length_toList,f6] at this
  simp only [List.size_toArray,List.length_append,hzsl] at this ⊢
  show _=cap*z
  omega
 ·show List.take (l'.length*z) _=_
  rw [hll,List.take_append_of_le_length (by simp only [List.length_append,hzsl];omega),List.take_of_length_le (by simp only [List.length_append,hzsl];omega)]
 ·have hx:x∈l':=hx
  rw [hl',List.mem_append,List.mem_append] at hx
  rcases hx with hx | hx | hx
  ·exact g3 x (List.mem_of_mem_take hx)
  ·rw [List.mem_replicate] at hx;rw [hx.2,hzz];rfl
  ·exact g3 x (List.mem_of_mem_drop hx)
 ·show Sq (l'.map fun c=>Rep (Us w0 U0 D) w' c) _
  rw [hl',List.map_append,List.map_append]
  refine D6 (Sq.keep hkp s1) (D6 ?_ ?_)
  ·rw [hzs];exact a5H (i3 _ _) len
  ·rw [←List.drop_drop]
   exact Sq.keep hkp s4
theorem zbD {P:Program} {w0:World} {U0:UX} {nt:Nat} {ops:Array Oper} {o:Oper} {S:Nat→Option AV} {gs:List Nat} {x:Operand} {t:TypeId} {e:TypeId} {e':TypeId} {ts:Array TypeId} {n:Nat} {lo:Nat} {len:Nat} {z:Nat} {l:List CV} {zc:CV} (p:Gd w0 U0 nt ops o gs S:=by exact gN rfl) (q:o.dst=none:=by exact rfl) (u:o.op = .call { callee := .builtin .clear,args := #[x],argTypes:=ts }:=by exact rfl) (y:ts[0]?=some t:=by exact rfl) (A:P.underlying t=some (.slice e):=by exact rfl) (B:a0x P e=some zc:=by exact rfl) (C:ev S x=some (.sl n lo len z):=by exact rfl) (E:S n=some (.mrow e' z l):=by exact rfl) (F:zc.size=z:=by exact rfl) (G:lo+len≤l.length:=by first | rfl | omega | (simp only [List.length_set,List.length_map,List.length_append,List.length_cons,List.length_nil]<;>omega) | (simp<;>omega)):AOp P w0 U0 nt ops o (gs++(rd x++[n])) [] S [(n,.mrow e' z (l.take lo++(List.replicate len zc++l.drop (lo+len))))]:=b2z p q u y A B C E F G
theorem b4q (d n:Nat) {e z lo len:Nat} {l:List CV} (hs:look s d=some (.sl n lo len z)) (hm:look s n=some (.mrow e z l)) (hd:Nat.blt d 100000=true) (hloc:(∀ b,¬ U0.x b)∨n<300000) (hlen:lo+len≤l.length) {s':AS} (hsub:SubL s s') (hk:T3 s' n=true):Wk w0 U0 nt s ((d,.val (.lst ((l.drop lo).take len)))::s'):=by
 rintro a w ⟨D,hv,h⟩
 have hd:=bL hd
 obtain ⟨v,g1,hrn,ao,m,cap,ao',h1,h2,h3,h4,h6,h7⟩:∃ v,a.tmps[d]?=some v∧RN n∧SlV (hv n) lo len z v:=h.slot d _ hs hd
 have h2:v = .slice ao' len (cap-lo):=h2
 obtain ⟨xs,f1,f2,f3,f4⟩:=h.mrow hm hrn
 have hrn':=hrn
 unfold RN at hrn'
 have hok:n7 n:=⟨by omega,by omega⟩
 have hsub':=hsub.sub
 have hno:∀ av,look s' n≠some av:=fun av h8=>by
  have h9:=C7 h8
  unfold T3 at hk
  rw [List.all_eq_true] at hk
  have:=hk _ h9
  simp at this
 rcases f1.2 with ⟨e1,e2⟩ | ⟨g,cap',cur,e1,_,e3,e4,e5,e6,e7⟩
 ·
  have hl0:l=[]:=List.eq_nil_of_length_eq_zero e2
  subst hl0
  rw [e1] at h1
  injection h1 with h1 h8 h9
  subst h1;subst h8;subst h9
  have hlo:lo=0:=by simp at hlen;omega
  have hle:len=0:=by simp at hlen;omega
  subst hlo;subst hle
  have hao:ao'=none:=h7.2 rfl
  refine ⟨D,hv,(h.sub hsub').know hd g1 (i7 ?_)⟩
  rw [h2,hao]
  exact d8.2 ⟨none,0,0,rfl,rfl,Nat.le_refl _,by unfold maxLen;omega,fun _=>⟨rfl,rfl⟩,[],.inl rfl,rfl⟩
 ·obtain rfl:cap=cap':=by rw [e1] at h1;injection h1 with k1 k2 k3;exact k3.symm
  obtain rfl:ao=some ⟨g,0,none⟩:=by rw [e1] at h1;injection h1 with k1 k2 k3;exact k1.symm
  have hgb:hb (hv n)=some g:=by rw [e1];rfl
  obtain ⟨b1,b2,b3⟩:=h.blk n _ g hm hok (by simp) hgb
  have hge:w0.heap.size≤g:=by
   rcases b1 with b1 | b1
   ·exact b1
   ·rcases hloc with hloc | hloc
    ·exact absurd b1.2 (hloc g)
    ·exact absurd (a0F hloc _) b1.1
  have hG:=(h.sub hsub').moreD (g:=g) b2 fun k av h10 h11 h12 h13=>h.disj n k _ av g hm (hsub' _ _ h10) hok h11 (by simp) h12 (fun e=>hno av (e▸h10)) hgb h13
  refine ⟨_,hv,hG.know hd g1 (i7 ?_)⟩
  rw [h2]
  have hkp:∀ b o v,Us w0 U0 D b o→w.cell? ⟨b,o,none⟩=some v→Us w0 U0 (fun b o=>D b o∨b=g) b o∧w.cell? ⟨b,o,none⟩=some v:=fun b o v hu hc=>⟨hu.imp id fun h=>⟨h.1,.inl h.2⟩,hc⟩
  have hsplit:l=l.take lo++((l.drop lo).take len++(l.drop lo).drop len):=by rw [List.take_append_drop,List.take_append_drop]
  have f4':=f4
  rw [hsplit,List.map_append,List.map_append] at f4'
  obtain ⟨y1,r1,c1,s1,s2⟩:=G7 f4'
  obtain ⟨y2,y3,c2,s3,s4⟩:=G7 s2
  have hy1:y1.length=lo*z:=by rw [F7 (n:=CV.size) (fun c _ xs h=>h.len) s1,w8 (fun c hc=>f3 c (List.mem_of_mem_take hc)),List.length_take,Nat.min_eq_left (by omega)]
  refine d8.2 ⟨ao',len,cap-lo,rfl,by simp;omega,by omega,by omega,fun h10=>?_,y2,?_,Sq.keep hkp s3⟩
  ·have:=h7.1 h10;cases this
  ·by_cases hlc:lo<cap
   ·refine .inr ⟨g,lo*z,h6 hlc g rfl,fun i hi=>⟨.inr ⟨hge,.inr rfl⟩,?_⟩⟩
    have hlt:lo*z+i<l.length*z:=by
     have:=f1.1
     rw [c1,c2] at this
     simp only [List.length_append] at this
     omega
    rw [a0t f1 (by rw [e1];rfl) hlt,c1,c2,←hy1,List.getElem?_append_right (by omega),List.getElem?_append_left (by omega)]
    congr 1
    omega
   ·left
    have:len=0:=by omega
    rw [this] at s3
    exact s3
def K7 (P:Program) (W:World) (fc:CV) (args:List CV) (r:AV):Prop:=AFunV P W fc args r∨∃ f,fc = .sc (.func (.func f) #[] #[])∧AFun P W f args r
theorem b4R {x:Operand} {xs:Array Operand} {ts:Array TypeId} {fc:CV} {cs:List CV} {r:AV} {n q p} (hg:Gd w0 U0 nt ops o gs S) (hd:o.dst=some d) (hn:Nat.blt d nt=true) (h5:Nat.blt d 100000=true)
  (ho:o.op = .call { callee := .value x,args:=xs,argTypes:=ts }) (hf:ev S x=some ⟨0,fc,n,q,p⟩) (hx:P7 S xs.toList=some cs) (hc:K7 P w0 fc cs r):AOp P w0 U0 nt ops o (gs++(rd x++rdl xs.toList)) [] S [(d,r)]:=by
 rcases hc with hc | ⟨f,rfl,hc⟩
 ·exact a9U hg hd hn h5 ho hf hx hc
 intro s hs _ a w ⟨D,hv,h⟩ Q K hK
 rw [if_pos (hg s (fun k hk=>hs k (List.mem_append_left _ hk)) a w D hv h)]
 have hargs:=A8 h (fun k hk=>hs k (List.mem_append_right _ (List.mem_append_right _ hk))) hx
 have hfv:=s6 h (fun k hk=>hs k (List.mem_append_right _ (List.mem_append_left _ hk))) hf
 obtain ⟨h1,h2,h3,h4⟩:=hc
 have hcall:=h4 _ w _ trivial hargs
 have he:(execOp a.eval o).run P w = .ok (.enter f (xs.toList.map a.eval).toArray) w:=by
  have hen:=h1 (xs.map a.eval) w
  have harr:(xs.toList.map a.eval).toArray=xs.map a.eval:=by apply Array.ext';simp
  rw [harr]
  generalize a.eval=ρ at hfv hen ⊢
  simp [execOp,ho,resolve,invoke,Deferred.ofValue,hfv,hen]
 unfold Oper.wp
 rw [he,Oper.upon_enter]
 refine hcall.mono ?_
 rintro e w' ⟨v,rfl,h6,h7⟩
 rw [hd]
 exact hK _ _ ⟨Dn D w w',hv,(h.growN h7).put (bL hn) (bL h5) (J6 h2 h3 (S4 rfl h7.size h.below.size h6))⟩
theorem zX {P:Program} {w0:World} {U0:UX} {nt:Nat} {ops:Array Oper} {o:Oper} {S:Nat→Option AV} {gs:List Nat} {d:Nat} {x:Operand} {xs:Array Operand} {ts:Array TypeId} {fc:CV} {cs:List CV} {r:AV} {n} {q} {p} (t:Gd w0 U0 nt ops o gs S:=by exact gN rfl) (u:o.dst=some d:=by exact rfl) (y:Nat.blt d nt=true:=by exact rfl) (z:Nat.blt d 100000=true:=by exact rfl) (A:o.op = .call { callee := .value x,args:=xs,argTypes:=ts }:=by exact rfl) (B:ev S x=some ⟨0,fc,n,q,p⟩:=by exact rfl) (C:P7 S xs.toList=some cs:=by exact rfl) (E:K7 P w0 fc cs r):AOp P w0 U0 nt ops o (gs++(rd x++rdl xs.toList)) [] S [(d,r)]:=b4R t u y z A B C E
theorem b0g (d n e z:Nat) (hs:look s d=some ⟨0,.lst [],1,0,[]⟩) (h5:Nat.blt d 100000=true) (hn:(Nat.ble 200000 n&&Nat.blt n 400000)=true) (hz:Nat.blt 0 z=true) (hr:D1 s [(n,[])]=true):Wk w0 U0 nt s ((d,.sl n 0 0 z)::(n,.mrow e z [])::s):=by
 rintro a w ⟨D,hv,h⟩
 have h5:=bL h5
 have hrn:=rnB hn
 have hz:=bL hz
 have hr:=(y9 hr (n,[]) (by simp)).nr
 obtain ⟨v,g1,g2⟩:=h.slot d _ hs h5
 have hv0:v = .slice none 0 0:=by
  obtain ⟨h1,h2⟩:VRep (Us w0 U0 D) w (.lst []) v∧Tk hv (b6 s) ⟨0,.lst [],1,0,[]⟩ v.cells.toList:=g2
  obtain ⟨m,c,f1,f2⟩:=h2 (.inl rfl)
  simp only at f1
  rw [a0h] at f1
  cases f1
  obtain ⟨ao,k,c,e1,_⟩:=d8.1 h1
  rw [e1] at f2 ⊢
  simpa [Value.cells,J5] using f2
 have hG:=h.newrow (X:=fun _=>False) (avn := .mrow e z []) (v' := .slice none 0 0) hrn hr (by simp) (BelowX.refl _ _) (fun b hb=>hb.elim) (fun g hg=>by cases hg) (fun b o hd => .inl hd) h.dlt (fun b o u h1 h2=>⟨h1,h2⟩) (fun hv lv=>⟨[],World.ownsRow_nil _ _ _ _,hz,(fun c hc=>by cases hc),rfl⟩)
 refine ⟨D,_,hG.know h5 g1 ⟨RW.rn hrn,?_⟩⟩
 show SlV ((fun x=>if x=n then Value.slice none 0 0 else hv x) n) 0 0 z v
 simp only [if_true]
 rw [hv0]
 exact a2F rfl (Nat.le_refl _) (.inl rfl)
end
section
variable {P:Program} {w0:World} {U0:UX} {nt:Nat} {ops:Array Oper} {o:Oper} {S:Nat→Option AV} {gs:List Nat} {d:Nat} {s:AS} {a:Act} {w:World} {D:Nat→Nat→Prop} {hv:Nat→Value}
def b5m (av:AV):Bool:=match Nat.beq av.t 0 with | true=>Nat.beq av.c.k 2 | false=>false
theorem b2M {U:Nat→Nat→Prop} {c:CV} {v:Value} (h:VRep U w c v) (hk:c.k≠2):v.cells = #[v]∧v.oneCell'=true:=by
 unfold VRep at h
 rw [if_neg hk] at h
 have h1:=h.one v (by simp)
 exact ⟨by cases v<;>first | rfl | simp [Value.oneCell'] at h1,h1⟩
def b4i (av:AV):Bool:=Nat.beq av.t 0||Nat.beq av.t 2||Nat.beq av.t 11||Nat.beq av.t 12||Nat.beq av.t 15
theorem a4q {v:Value} (h:v.oneCell'=true):v.cells = #[v]:=by cases v<;>first | rfl | simp [Value.oneCell'] at h
theorem b0q {U:Nat→Nat→Prop} {lv:Nat→Prop} {av:AV} {v:Value} (h:AVRep U w hv lv av v) (hf:b4i av=true) (ht:av.t≠0):v.cells = #[v]∧v.oneCell'=true:=by
 unfold b4i at hf
 simp only [Bool.or_eq_true] at hf
 unfold AVRep at h
 rw [if_neg ht] at h
 rcases hf with (((hf | hf) | hf) | hf) | hf<;>have hf:=Nat.eq_of_beq_eq_true hf
 ·exact absurd hf ht
 ·rw [if_pos hf] at h;rw [h.2];exact ⟨rfl,rfl⟩
 ·rw [if_neg (by omega),if_neg (by omega),if_neg (by omega),if_pos hf] at h;rw [h.2];exact ⟨rfl,rfl⟩
 ·rw [if_neg (by omega),if_neg (by omega),if_neg (by omega),if_neg (by omega),if_pos hf] at h
  obtain ⟨_,ao,m,cap,ao',_,e,_⟩:=h
  rw [e];exact ⟨rfl,rfl⟩
 ·rw [if_neg (by omega),if_neg (by omega),if_neg (by omega),if_neg (by omega),if_neg (by omega),if_pos hf] at h
  exact ⟨a4q h.2.2,h.2.2⟩
theorem aLf (hg:Gd w0 U0 nt ops o gs S) (hd:o.dst=some d) (hn:Nat.blt d nt=true) (h5:Nat.blt d 100000=true) {x:Operand} {ty:TypeId} {ds:TypeDesc} {z n q:Nat} {p:List Nat} {k' v' l'} {av:AV} (ho:o.op = .load ty x) (hu:P.underlying ty=some ds) (hi:(P.info? ty).map (·.size)=some z) (hx:ev S x=some ⟨2,⟨k',v',l'⟩,n,q,p⟩) (hb:S (100000+n)=some .obj) (hf:S (c8 n q)=some av) (hq:Nat.blt q 100=true) (hz:av.sz=z) (hk:K1 ds=b5m av) (ht:b4i av=true):AOp P w0 U0 nt ops o (gs++(rd x++[100000+n,c8 n q])) [] S [(d,av)]:=
 d7 hg hd hn h5 (fun k hk=>List.mem_append_left _ hk) fun s hs a w D hv hm=>by
  obtain ⟨hbn,h1⟩:BN n∧a.eval x = .pointer (some ⟨o8 (hv (100000+n)),q,none⟩):=j6 hm (fun k hk=>hs k (List.mem_append_right _ (List.mem_append_left _ hk))) hx
  obtain ⟨v,g1,g2,g3⟩:=hm.fld n q av ((hs (c8 n q) (by simp)).trans hf) (bL hq) ((hs (100000+n) (by simp)).trans hb) hbn
  have hsz:=B4 (P:=P) (w:=w) hi
  refine ⟨v,?_,g1⟩
  have hl:(loadVar ty ⟨o8 (hv (100000+n)),q,none⟩).run P w = .ok v w:=by
   cases hag:b5m av with
   | true =>
    rw [hag] at hk
    unfold b5m at hag
    split at hag
    ·rename_i ht0
     have ht0:=Nat.eq_of_beq_eq_true ht0
     have hk2:=Nat.eq_of_beq_eq_true hag
     unfold AVRep at g1
     rw [if_pos ht0] at g1
     have g4:=g1.1
     unfold VRep at g4
     rw [if_pos hk2] at g4
     obtain ⟨xs,rfl,g5⟩:=g4
     have hxl:xs.length=z:=by rw [←hz,←g2];simp [Value.cells]
     have:=run_loadCells_list (P:=P) w ⟨o8 (hv (100000+n)),q,none⟩ xs (fun j u hj=>by
      have hjl:j<xs.length:=by
       rcases Nat.lt_or_ge j xs.length with h | h
       ·exact h
       ·rw [List.getElem?_eq_none h] at hj;cases hj
      rw [X4,g3 j (by simpa [Value.cells] using hjl)]
      simpa [Value.cells] using hj)
     rw [hxl] at this
     simp [loadVar,M8 hu,hk,hsz,this]
    ·cases hag
   | false =>
    rw [hag] at hk
    have hv1:v.cells = #[v]:=by
     by_cases ht0:av.t=0
     ·unfold b5m at hag
      rw [ht0] at hag
      have hk2:av.c.k≠2:=fun e=>by rw [e] at hag;cases hag
      unfold AVRep at g1
      rw [if_pos ht0] at g1
      exact (b2M g1.1 hk2).1
     ·exact (b0q g1 ht ht0).1
    have:=g3 0 (by rw [hv1];simp)
    rw [hv1] at this
    simp only [Nat.add_zero] at this
    simp [loadVar,M8 hu,hk,run_load,this]
  generalize a.eval=ρ at h1 ⊢
  simp [execOp,ho,Instr.loadAt,Instr.sureAddr,h1,hl]
theorem z0 {P:Program} {w0:World} {U0:UX} {nt:Nat} {ops:Array Oper} {o:Oper} {S:Nat→Option AV} {gs:List Nat} {d:Nat} {x:Operand} {ty:TypeId} {ds:TypeDesc} {z:Nat} {n:Nat} {q:Nat} {p:List Nat} {k'} {v'} {l'} {av:AV} (r:Gd w0 U0 nt ops o gs S:=by exact gN rfl) (y:o.dst=some d:=by exact rfl) (A:Nat.blt d nt=true:=by exact rfl) (B:Nat.blt d 100000=true:=by exact rfl) (C:o.op = .load ty x:=by exact rfl) (E:P.underlying ty=some ds:=by exact rfl) (F:(P.info? ty).map (·.size)=some z:=by exact rfl) (G:ev S x=some ⟨2,⟨k',v',l'⟩,n,q,p⟩:=by exact rfl) (H:S (100000+n)=some .obj:=by exact rfl) (hf:S (c8 n q)=some av:=by exact rfl) (hq:Nat.blt q 100=true:=by exact rfl) (hz:av.sz=z:=by exact rfl) (hk:K1 ds=b5m av:=by exact rfl) (ht:b4i av=true:=by exact rfl):AOp P w0 U0 nt ops o (gs++(rd x++[100000+n,c8 n q])) [] S [(d,av)]:=aLf r y A B C E F G H hf hq hz hk ht
theorem SimG.storeF (h:SimG w0 U0 nt s a w D hv) {n q:Nat} (hbn:BN n) (hob:look s (100000+n)=some .obj) (hq:q<100) {av0 av:AV} (h0:look s (c8 n q)=some av0) (hsz:av.sz=av0.sz) (hz0:0<av.sz) {v:Value} (hav:AVRep (Us w0 U0 D) w hv (b6 s) av v) (hvs:v.cells.size=av.sz) :
  ∃ g ys zs us ty,o8 (hv (100000+n))=g∧w.heap[g]?=some (.cells (ys++zs++us).toArray ty (0,0))∧ys.length=q∧zs.length=av.sz∧SimG w0 U0 nt ((c8 n q,av)::s) a (w.setRow g (ys++v.cells.toList++us).toArray) D hv:=by
 obtain ⟨g,xs,ty,e1,e2,e3⟩:=h.obj9 hob hbn
 have hgb:hb (hv (100000+n))=some g:=by rw [e1];rfl
 obtain ⟨v0,f1,f2,f3⟩:=h.fld n q av0 h0 hq hob hbn
 obtain ⟨hmn,hlt,hD⟩:=h.blk (100000+n) _ g hob (F4 hbn) (by simp) hgb
 have hD':∀ o,¬ D g o:=fun o=>hD o fun e=>by cases e
 have hqz:q+av.sz≤xs.size:=by
  have:=f3 (av.sz-1) (by rw [f2,←hsz];omega)
  rw [e2] at this
  simp only [World.cell?,e3] at this
  rw [Array.getElem?_eq_getElem (xs:=v0.cells) (by rw [f2,←hsz];omega)] at this
  have h2:=(Array.getElem?_eq_some_iff.1 (by simpa using this)).1
  omega
 obtain ⟨ys,hys⟩:∃ ys,ys=xs.toList.take q:=⟨_,rfl⟩
 obtain ⟨zs,hzs⟩:∃ zs,zs=(xs.toList.drop q).take av.sz:=⟨_,rfl⟩
 obtain ⟨us,hus⟩:∃ us,us=(xs.toList.drop q).drop av.sz:=⟨_,rfl⟩
 have hxs:xs.toList=ys++zs++us:=by rw [hys,hzs,hus,List.append_assoc,List.take_append_drop,List.take_append_drop]
 have hyl:ys.length=q:=by rw [hys];simp;omega
 have hzl:zs.length=av.sz:=by rw [hzs];simp;omega
 have hvl:v.cells.toList.length=av.sz:=by simpa using hvs
 have hx':w.heap[g]?=some (.cells (ys++zs++us).toArray ty (0,0)):=by rw [←hxs,Array.toArray_toList];exact e3
 refine ⟨g,ys,zs,us,ty,e2,hx',hyl,hzl,?_⟩
 obtain ⟨w',hw'⟩:∃ w',w'=w.setRow g (ys++v.cells.toList++us).toArray:=⟨_,rfl⟩
 rw [←hw']
 have hoth:∀ k,k≠g→w'.heap[k]?=w.heap[k]?:=fun k hk=>by rw [hw'];exact setRow_other w g k _ hk
 have hnew:w'.heap[g]?=some (.cells (ys++v.cells.toList++us).toArray ty (0,0)):=by rw [hw'];exact setRow_heap w _ _ _ _ _ hx'
 have hkeep:∀ b o u,Us w0 U0 D b o→w.cell? ⟨b,o,none⟩=some u→Us w0 U0 D b o∧w'.cell? ⟨b,o,none⟩=some u:=fun b o u hu hc=>by
  refine ⟨hu,?_⟩
  rw [hw',cell_setRow_other]
  ·exact hc
  ·exact a4i hu hmn (hD' o)
 have hout:∀ i,i<q∨q+av.sz≤i→w'.cell? ⟨g,i,none⟩=w.cell? ⟨g,i,none⟩:=fun i hi=>by
  simp only [World.cell?,hnew,hx']
  simp only [Option.isSome_none,Bool.false_eq_true,if_false,List.getElem?_toArray]
  rcases hi with hi | hi
  ·rw [List.append_assoc,List.append_assoc,List.getElem?_append_left (by omega),List.getElem?_append_left (by omega)]
  ·rw [List.getElem?_append_right (by simp only [List.length_append];omega),List.getElem?_append_right (by simp only [List.length_append];omega)]
   simp only [List.length_append,hvl,hzl]
 have hfk:∀ {m o:Nat},o<100→c8 m o=c8 n q→m=n∧o=q:=fun {m o} ho e=>by unfold c8 at e;omega
 have hlk:∀ {k},k≠c8 n q→look ((c8 n q,av)::s) k=look s k:=fun {k} hk=>lN (Ne.symm hk)
 have hl:∀ m e,y6 ((c8 n q,av)::s) m e↔y6 s m e:=fun m e=>by
  unfold y6
  constructor
  ·rintro ⟨g1,g2⟩;rw [hlk (by unfold c8;omega)] at g1;exact ⟨g1,g2⟩
  ·rintro ⟨g1,g2⟩;exact ⟨by rw [hlk (by unfold c8;omega)];exact g1,g2⟩
 have hl2:b6 ((c8 n q,av)::s)=b6 s:=by funext k;simp only [b6,hl]
 have hsize:w'.heap.size=w.heap.size:=by rw [hw',setRow_size]
 refine ⟨⟨?_,?_,?_,by rw [hsize];exact h.below.size,fun k hk hkx=>?_⟩,h.dfr,h.size,fun d av' g1 g2=>?_,fun m o av' g1 g2 g3 g4=>?_,fun m o o' av1 av2 g1 g2 g3 g4 g5=>?_,fun k av' g1 g2=>?_,fun k av' g' g1 g2 g3 g4=>?_,fun k k' av1 av2 g' g1 g2 g3 g4=>?_,h.fix,fun b o hd=>by rw [hsize];exact h.dlt b o hd⟩
 ·rw [hw'];exact h.below.os
 ·rw [hw'];exact h.below.tape
 ·rw [hw'];exact h.below.output
 ·rw [hoth k]
  ·exact h.below.block k hk hkx
  ·rintro rfl
   rcases hmn with h1 | h1
   ·omega
   ·exact hkx h1.2
 ·rw [hlk (by unfold c8;omega)] at g1
  rw [hl2]
  obtain ⟨u,g3,g4⟩:=h.slot d av' g1 g2
  exact ⟨u,g3,g4.keep hkeep⟩
 ·rw [hlk (by unfold c8 BN at *;omega)] at g3
  rw [hl2]
  by_cases e:c8 m o=c8 n q
  ·obtain ⟨rfl,rfl⟩:=hfk g2 e
   rw [lS] at g1
   cases g1
   refine ⟨v,hav.keep hkeep,hvs,fun i hi=>?_⟩
   rw [e2]
   simp only [World.cell?,hnew]
   simp only [Option.isSome_none,Bool.false_eq_true,if_false,List.getElem?_toArray]
   rw [List.append_assoc,List.getElem?_append_right (by omega),hyl,show o+i-o=i by omega,List.getElem?_append_left (by omega)]
   simp
  ·rw [hlk e] at g1
   obtain ⟨u,k1,k2,k3⟩:=h.fld m o av' g1 g2 g3 g4
   refine ⟨u,k1.keep hkeep,k2,fun i hi=>?_⟩
   by_cases em:m=n
   ·subst em
    have ho:o≠q:=fun e3=>e (by rw [e3])
    rw [e2]
    have k4:=k3 i hi
    rw [e2] at k4
    rw [hout]
    ·exact k4
    ·rcases Nat.lt_or_ge o q with h3 | h3
     ·have:=h.fdis m o q av' av0 g1 h0 g2 hq h3
      rw [k2] at hi
      omega
     ·have:=h.fdis m q o av0 av' h0 g1 hq g2 (by omega)
      omega
   ·obtain ⟨g2',_,_,c1,c2,c3⟩:=h.obj9 g3 g4
    have hne:g2'≠g:=fun e3=>h.disj (100000+n) (100000+m) _ _ g hob g3 (F4 hbn) (F4 g4) (by simp) (by simp) (by omega) hgb (by rw [c1,e3];rfl)
    rw [c2]
    have k4:=k3 i hi
    rw [c2] at k4
    rw [World.cell?_of_block (w:=w) (hoth g2' hne)]
    exact k4
 ·have conv:∀ {o:Nat} {aq:AV},o<100→look ((c8 n q,av)::s) (c8 m o)=some aq→∃ aq',look s (c8 m o)=some aq'∧aq'.sz=aq.sz:=fun {o aq} ho g6=>by
   by_cases e:c8 m o=c8 n q
   ·rw [e,lS] at g6
    cases g6
    exact ⟨av0,by rw [e];exact h0,hsz.symm⟩
   ·rw [hlk e] at g6;exact ⟨aq,g6,rfl⟩
  obtain ⟨b1,c1,c2⟩:=conv g3 g1
  obtain ⟨b2,c3,c4⟩:=conv g4 g2
  rw [←c2]
  exact h.fdis m o o' b1 b2 c1 c3 g3 g4 g5
 ·have g2':=g2
  unfold n7 at g2'
  rw [hlk (by unfold c8;omega)] at g1
  rw [hl2]
  by_cases e:k=100000+n
  ·subst e
   rw [hob] at g1
   cases g1
   exact ⟨g,_,ty,e1,hnew⟩
  ·by_cases h7:av'.t=7
   ·exact a5Y h7
   ·exact (h.obj k av' g1 g2).move hkeep (fun _ hx=>⟨hx,rfl⟩) fun g' hg'=>hoth g' fun e3=>h.disj (100000+n) k _ av' g hob g1 (F4 hbn) g2 (by simp) h7 (Ne.symm e) hgb (e3▸hg')
 ·have g2':=g2
  unfold n7 at g2'
  rw [hlk (by unfold c8;omega)] at g1
  rw [hsize]
  exact h.blk k av' g' g1 g2 g3 g4
 ·have g3':=g3
  have g4':=g4
  unfold n7 at g3' g4'
  rw [hlk (by unfold c8;omega)] at g1 g2
  exact h.disj k k' av1 av2 g' g1 g2 g3 g4
theorem a6I (hg:Gd w0 U0 nt ops o gs S) (hd:o.dst=none) {x y:Operand} {ty:TypeId} {z n q:Nat} {p:List Nat} {k' v' l'} {av0 av:AV} (ho:o.op = .store ty x y) (hi:(P.info? ty).map (·.size)=some z) (hx:ev S x=some ⟨2,⟨k',v',l'⟩,n,q,p⟩) (hb:S (100000+n)=some .obj) (hf:S (c8 n q)=some av0) (hy:ev S y=some av) (hq:Nat.blt q 100=true) (hz:av.sz=z) (hz0:av0.sz=z) (hzp:Nat.blt 0 z=true) (ht:b4i av=true):AOp P w0 U0 nt ops o (gs++(rd x++(rd y++[100000+n,c8 n q]))) [] S [(c8 n q,av)]:=by
 intro s hs hN a w ⟨D,hv,h⟩ Q K hK
 rw [if_pos (hg s (fun k hk=>hs k (List.mem_append_left _ hk)) a w D hv h)]
 obtain ⟨hbn,h1⟩:BN n∧a.eval x = .pointer (some ⟨o8 (hv (100000+n)),q,none⟩):=j6 h (fun k hk=>hs k (List.mem_append_right _ (List.mem_append_left _ hk))) hx
 have h2:=j6 h (fun k hk=>hs k (List.mem_append_right _ (List.mem_append_right _ (List.mem_append_left _ hk)))) hy
 have hcs:(a.eval y).cells.size=av.sz∧∀ u∈(a.eval y).cells.toList,u.oneCell'=true:=by
  by_cases ht0:av.t=0
  ·have h3:=h2
   unfold AVRep at h3
   rw [if_pos ht0] at h3
   refine ⟨?_,h3.1.cells.one⟩
   have:=h3.1.cells.len
   unfold AV.sz
   rw [ht0]
   simpa using this
  ·obtain ⟨g1,g2⟩:=b0q h2 ht ht0
   rw [g1]
   refine ⟨?_,by simpa using g2⟩
   unfold AV.sz
   rw [Q3 ht0]
   rfl
 obtain ⟨g,ys,zs,us,t,e1,e2,e3,e4,e5⟩:=h.storeF hbn ((hs (100000+n) (by simp)).trans hb) (bL hq) ((hs (c8 n q) (by simp)).trans hf) (hz.trans hz0.symm) (by rw [hz];exact bL hzp) h2 hcs.1
 rw [e1] at h1
 have hcl:(a.eval y).cells.toList.length=av.sz:=by simpa using hcs.1
 have hrun:=C0 (P:=P) hi e2 e3 (v:=a.eval y) rfl (by rw [hcl,e4]) (by rw [hcl,hz]) hcs.2
 have he:(execOp a.eval o).run P w = .ok .skip (w.setRow g (ys++(a.eval y).cells.toList++us).toArray):=by
  generalize a.eval=ρ at h1 hrun ⊢
  simp [execOp,ho,Instr.storeAt,Instr.sureAddr,h1,hrun]
 unfold Oper.wp
 rw [he,Oper.upon_skip,hd]
 exact hK _ _ ⟨_,_,e5⟩
theorem zbf {P:Program} {w0:World} {U0:UX} {nt:Nat} {ops:Array Oper} {o:Oper} {S:Nat→Option AV} {gs:List Nat} {x:Operand} {y:Operand} {ty:TypeId} {z:Nat} {n:Nat} {q:Nat} {p:List Nat} {k'} {v'} {l'} {av0:AV} {av:AV} (r:Gd w0 U0 nt ops o gs S:=by exact gN rfl) (A:o.dst=none:=by exact rfl) (B:o.op = .store ty x y:=by exact rfl) (C:(P.info? ty).map (·.size)=some z:=by exact rfl) (E:ev S x=some ⟨2,⟨k',v',l'⟩,n,q,p⟩:=by exact rfl) (F:S (100000+n)=some .obj:=by exact rfl) (G:S (c8 n q)=some av0:=by exact rfl) (H:ev S y=some av:=by exact rfl) (hq:Nat.blt q 100=true:=by exact rfl) (hz:av.sz=z:=by exact rfl) (hz0:av0.sz=z:=by exact rfl) (hzp:Nat.blt 0 z=true:=by exact rfl) (ht:b4i av=true:=by exact rfl):AOp P w0 U0 nt ops o (gs++(rd x++(rd y++[100000+n,c8 n q]))) [] S [(c8 n q,av)]:=a6I r A B C E F G H hq hz hz0 hzp ht
theorem SimG.addF (h:SimG w0 U0 nt s a w D hv) {n q:Nat} (hbn:BN n) (hob:look s (100000+n)=some .obj) (hq:q<100) {av:AV} {v:Value} (hav:AVRep (Us w0 U0 D) w hv (b6 s) av v) (hvs:v.cells.size=av.sz) (hc:∀ i,i<v.cells.size→w.cell? ⟨o8 (hv (100000+n)),q+i,none⟩=v.cells[i]?) (ho:∀ o av',look s (c8 n o)=some av'→o<100→q+av.sz≤o):SimG w0 U0 nt ((c8 n q,av)::s) a w D hv:=by
 have hfk:∀ {m o:Nat},o<100→c8 m o=c8 n q→m=n∧o=q:=fun {m o} ho e=>by unfold c8 at e;omega
 have hlk:∀ {k},k≠c8 n q→look ((c8 n q,av)::s) k=look s k:=fun {k} hk=>lN (Ne.symm hk)
 have hl:∀ m e,y6 ((c8 n q,av)::s) m e↔y6 s m e:=fun m e=>by
  unfold y6
  constructor
  ·rintro ⟨g1,g2⟩;rw [hlk (by unfold c8;omega)] at g1;exact ⟨g1,g2⟩
  ·rintro ⟨g1,g2⟩;exact ⟨by rw [hlk (by unfold c8;omega)];exact g1,g2⟩
 have hl2:b6 ((c8 n q,av)::s)=b6 s:=by funext k;simp only [b6,hl]
 refine ⟨h.below,h.dfr,h.size,fun d av' g1 g2=>?_,fun m o av' g1 g2 g3 g4=>?_,fun m o o' av1 av2 g1 g2 g3 g4 g5=>?_,fun k av' g1 g2=>?_,fun k av' g' g1 g2 g3 g4=>?_,fun k k' av1 av2 g' g1 g2 g3 g4=>?_,h.fix,h.dlt⟩
 ·rw [hlk (by unfold c8;omega)] at g1
  rw [hl2]
  exact h.slot d av' g1 g2
 ·rw [hlk (by unfold c8 BN at *;omega)] at g3
  rw [hl2]
  by_cases e:c8 m o=c8 n q
  ·obtain ⟨rfl,rfl⟩:=hfk g2 e
   rw [lS] at g1
   cases g1
   exact ⟨v,hav,hvs,hc⟩
  ·rw [hlk e] at g1
   exact h.fld m o av' g1 g2 g3 g4
 ·by_cases e1:c8 m o=c8 n q
  ·obtain ⟨rfl,rfl⟩:=hfk g3 e1
   rw [lS] at g1
   cases g1
   rw [hlk (by unfold c8;omega)] at g2
   exact ho o' av2 g2 g4
  ·rw [hlk e1] at g1
   by_cases e2:c8 m o'=c8 n q
   ·obtain ⟨rfl,rfl⟩:=hfk g4 e2
    have:=ho o av1 g1 g3
    omega
   ·rw [hlk e2] at g2
    exact h.fdis m o o' av1 av2 g1 g2 g3 g4 g5
 ·have g2':=g2
  unfold n7 at g2'
  rw [hlk (by unfold c8;omega)] at g1
  rw [hl2]
  exact h.obj k av' g1 g2
 ·have g2':=g2
  unfold n7 at g2'
  rw [hlk (by unfold c8;omega)] at g1
  exact h.blk k av' g' g1 g2 g3 g4
 ·have g3':=g3
  have g4':=g4
  unfold n7 at g3' g4'
  rw [hlk (by unfold c8;omega)] at g1 g2
  exact h.disj k k' av1 av2 g' g1 g2 g3 g4
def a8X (c:CV):AV:=⟨0,c,match V6 c with | true=>1 | false=>0,0,[]⟩
noncomputable def Z0 (d:Nat):List CV→Nat→AS
 | [],_=>[]
 | c::cs,o=>(c8 d o,a8X c)::Z0 d cs (o+c.size)
theorem Y4 {d:Nat}:∀ {cs:List CV} {o k:Nat} {av:AV},look (Z0 d cs o) k=some av→∃ o',o≤o'∧k=c8 d o'
 | [],_,_,_,h=>by simp [Z0,look] at h
 | c::cs,o,k,av,h=>by
  rw [Z0,r7] at h
  split at h
  ·rename_i e;exact ⟨o,Nat.le_refl _,e.symm⟩
  ·obtain ⟨o',h1,h2⟩:=Y4 h
   exact ⟨o',by omega,h2⟩
theorem a6l {U:Nat→Nat→Prop} {c:CV} {xs:List Value} (h:Rep U w c xs):∃ v,VRep U w c v∧v.cells.toList=xs:=by
 by_cases hk:c.k=2
 ·exact ⟨.agg xs.toArray,by unfold VRep;rw [if_pos hk];exact ⟨xs,rfl,h⟩,by simp [Value.cells]⟩
 ·have h1:c.size=1:=by cases c with | mk k v l=>rw [CV.size_mk,if_neg hk]
  have hl:=h.len
  rw [h1] at hl
  match xs,hl with
  | [v],_ =>
   refine ⟨v,by unfold VRep;rw [if_neg hk];exact h,?_⟩
   rw [a4q (h.one v (by simp))]
theorem SimG.addFs (h:SimG w0 U0 nt s a w D hv) {n:Nat} (hbn:BN n) (hob:look s (100000+n)=some .obj) (hno:∀ o av,look s (c8 n o)=some av→o<100→False) {g:Nat} (hgv:o8 (hv (100000+n))=g):∀ {cs:List CV} {segs:List (List Value)} {o:Nat},cs.length=segs.length→(∀ (i:Nat) (c:CV),cs[i]?=some c→∃ seg,segs[i]?=some seg∧Rep (Us w0 U0 D) w c seg∧(V6 c=true→seg=[.slice none 0 0]))→(∀ i,i<segs.flatten.length→w.cell? ⟨g,o+i,none⟩=segs.flatten[i]?)→(∀ c∈cs,0<c.size)→o+segs.flatten.length≤100→SimG w0 U0 nt (Z0 n cs o++s) a w D hv
 | [],_,_,_,_,_,_,_=>h
 | c::cs,[],_,hl,_,_,_,_=>by simp at hl
 | c::cs,seg::segs,o,hl,hr,hc,hp,h100=>by
  obtain ⟨seg',e1,e2,e3⟩:=hr 0 c rfl
  simp at e1
  subst e1
  have hsl:=e2.len
  have hcp:=hp c (by simp)
  rw [List.flatten_cons] at hc h100
  rw [List.length_append] at h100
  have ih:=h.addFs hbn hob hno hgv (cs:=cs) (segs:=segs) (o:=o+c.size) (by simpa using hl) (fun i c' hi=>hr (i+1) c' (by simpa using hi)) (fun i hi=>by
   have:=hc (seg.length+i) (by rw [List.length_append];omega)
   rw [List.getElem?_append_right (by omega),show seg.length+i-seg.length=i by omega] at this
   rw [←this,hsl,Nat.add_assoc]) (fun c' hc'=>hp c' (List.mem_cons_of_mem _ hc')) (by omega)
  obtain ⟨v,g1,g2⟩:=a6l e2
  have hnk:∀ {k},100000≤k→k<500000→look (Z0 n cs (o+c.size)++s) k=look s k:=fun {k} h1 h2=>by
   rw [D3]
   cases e:look (Z0 n cs (o+c.size)) k with
   | none=>rfl
   | some av=>obtain ⟨o',_,rfl⟩:=Y4 e;unfold c8 at h2;omega
  have hbk:=F4 hbn
  unfold n7 at hbk
  refine ih.addF hbn (by rw [hnk hbk.1 hbk.2];exact hob) (by omega) (v:=v) ⟨g1,fun hlv=>?_⟩ ?_ ?_ ?_
  ·refine ⟨0,c,a0h c,?_⟩
   show v.cells.toList[0]?=some (J5 hv (a8X c).n)
   unfold a8X at hlv ⊢
   cases hnil:V6 c with
   | true =>
    rw [g2,e3 hnil];rfl
   | false=>rw [hnil] at hlv;exact absurd hlv y0
  ·rw [←Array.length_toList,g2,hsl];rfl
  ·intro i hi
   have hi':i<seg.length:=by rw [←g2];simpa using hi
   have:=hc i (by rw [List.length_append];omega)
   rw [List.getElem?_append_left hi',←g2,Array.getElem?_toList] at this
   rw [hgv];exact this
  ·intro o' av' h1 h2
   rw [D3] at h1
   cases e:look (Z0 n cs (o+c.size)) (c8 n o') with
   | none=>rw [e] at h1;exact (hno o' av' h1 h2).elim
   | some av =>
    obtain ⟨o2,h3,h4⟩:=Y4 e
    unfold c8 at h4
    show o+c.size≤o'
    omega
end
end Go.Proofs.YtekboofbedakcaaGreat
namespace Go.Proofs.YtekboofbedakcaaGreat
open Go.RowKit Go.MapKept
set_option linter.unusedVariables false
set_option linter.unusedSimpArgs false
section
variable {P:Program} {w0:World} {U0:UX} {nt:Nat} {ops:Array Oper} {o:Oper} {S:Nat→Option AV} {gs:List Nat} {d:Nat} {s:AS} {a:Act} {w:World} {D:Nat→Nat→Prop} {hv:Nat→Value}
theorem SimG.upd (h:SimG w0 U0 nt s a w D hv) {k0:Nat} (h5:n7 k0) {av0 av:AV} (h0:look s k0=some av0) (ht0:av0.t≠7) (hobj:av0.t≠9) (ht:av.t=av0.t) (hnd:∀ g,NoD D av0 (hv k0) g→NoD D av (hv k0) g) (ht6:av.t≠6) {g:Nat} (hg:hb (hv k0)=some g) {w':World} (hos:w'.os=w.os) (htp:w'.tape=w.tape) (hou:w'.output=w.output) (hsize:w'.heap.size=w.heap.size) (hoth:∀ k,k≠g→w'.heap[k]?=w.heap[k]?) (hoc:(∀ b o v,Us w0 U0 D b o→w.cell? ⟨b,o,none⟩=some v→Us w0 U0 D b o∧w'.cell? ⟨b,o,none⟩=some v)→OC (Us w0 U0 D) w' hv (b6 s) av (hv k0)) :
  SimG w0 U0 nt ((k0,av)::s) a w' D hv:=by
 obtain ⟨hbase,hlt0,hD⟩:=h.blk k0 av0 g h0 h5 ht0 hg
 have h5':=h5
 unfold n7 at h5'
 have ht6':av0.t≠6:=by rw [←ht];exact ht6
 have hD':∀ o,¬ D g o:=fun o=>hD o fun e=>absurd e ht6'
 have hne9:av ≠ .obj:=fun e=>hobj (by rw [←ht,e])
 have hne90:av0 ≠ .obj:=fun e=>hobj (by rw [e])
 have hl:∀ n e,y6 ((k0,av)::s) n e↔y6 s n e:=fun n e=>by
  unfold y6
  by_cases e1:k0=n
  ·subst e1
   rw [lS,h0]
   constructor
   ·rintro ⟨h1,_⟩;cases h1;exact absurd rfl ht6
   ·rintro ⟨h1,_⟩;cases h1;exact absurd rfl ht6'
  ·rw [lN e1]
 have hl2:b6 ((k0,av)::s)=b6 s:=by funext k;simp only [b6,hl]
 have hkeep:∀ b o v,Us w0 U0 D b o→w.cell? ⟨b,o,none⟩=some v→Us w0 U0 D b o∧w'.cell? ⟨b,o,none⟩=some v:=fun b o v hu hc=>by
  refine ⟨hu,?_⟩
  rw [World.cell?_of_block (w:=w) (hoth b (a4i hu hbase (hD' o)))]
  exact hc
 refine ⟨⟨hos.trans h.below.os,htp.trans h.below.tape,hou.trans h.below.output,by rw [hsize];exact h.below.size,fun k hk hkx=>?_⟩,h.dfr,h.size,fun d av' h1 h2=>?_,fun n o av' h1 h2 h3 h10=>?_,fun n o o' av1 av2 h1 h2=>?_,fun k av' h1 h2=>?_,fun k av' g' h1 h2 h3 h4=>?_,fun k k' av1 av2 g' h1 h2 h3 h4 h6 h7 hne=>?_,h.fix,fun b o hd=>?_⟩
 ·rw [hoth k]
  ·exact h.below.block k hk hkx
  ·rintro rfl
   rcases hbase with h1 | h1
   ·omega
   ·exact hkx h1.2
 ·rw [lN (by omega)] at h1
  rw [hl2]
  obtain ⟨v,h3,h4⟩:=h.slot d av' h1 h2
  exact ⟨v,h3,h4.keep hkeep⟩
 ·rw [lN (by unfold c8;omega)] at h1
  have hne:k0≠100000+n:=fun e=>by subst e;rw [lS] at h3;cases h3;exact hne9 rfl
  rw [lN hne] at h3
  rw [hl2]
  obtain ⟨v,h4,h6,h7⟩:=h.fld n o av' h1 h2 h3 h10
  refine ⟨v,h4.keep hkeep,h6,fun i hi=>?_⟩
  have hng:o8 (hv (100000+n))≠g:=by
   rintro e
   obtain ⟨g2,ys,ty2,e1,e2,e3⟩:=h.obj9 h3 h10
   have:hb (hv (100000+n))=some g:=by rw [e1];rw [e2] at e;rw [←e];rfl
   exact h.disj k0 (100000+n) av0 _ g h0 h3 h5 (F4 h10) ht0 (by simp) hne hg this
  rw [World.cell?_of_block (w:=w) (hoth _ hng)]
  exact h7 i hi
 ·rw [lN (by unfold c8;omega)] at h1 h2
  exact h.fdis n o o' av1 av2 h1 h2
 ·rw [hl2]
  by_cases e:k0=k
  ·subst e
   rw [lS] at h1
   cases h1
   exact hoc hkeep
  ·rw [lN e] at h1
   by_cases h7:av'.t=7
   ·exact a5Y h7
   ·exact (h.obj k av' h1 h2).move hkeep (fun _ hl=>⟨hl,rfl⟩) fun g' hg'=>hoth g' fun e2=>h.disj k0 k av0 av' g h0 h1 h5 h2 ht0 h7 e hg (e2▸hg')
 ·rw [hsize]
  by_cases e:k0=k
  ·subst e
   rw [lS] at h1
   cases h1
   obtain ⟨g1,g2,g3⟩:=h.blk k0 av0 g' h0 h5 ht0 h4
   exact ⟨by rw [a9g ht];exact g1,g2,hnd g' g3⟩
  ·rw [lN e] at h1
   exact h.blk k av' g' h1 h2 h3 h4
 ·have conv:∀ q (aq:AV),look ((k0,av)::s) q=some aq→aq.t≠7→∃ aq',look s q=some aq'∧aq'.t≠7:=fun q aq h8 h9=>by
   by_cases e:k0=q
   ·exact ⟨av0,by rw [←e];exact h0,ht0⟩
   ·rw [lN e] at h8;exact ⟨aq,h8,h9⟩
  obtain ⟨a1,b1,c1⟩:=conv k av1 h1 h6
  obtain ⟨a2,b2,c2⟩:=conv k' av2 h2 h7
  exact h.disj k k' a1 a2 g' b1 b2 h3 h4 c1 c2 hne
 ·rw [hsize];exact h.dlt b o hd
theorem b5i (nn:Nat) (hg:Gd w0 U0 nt ops o gs S) (hd:o.dst=some d) (hn:Nat.blt d nt=true) (h5:Nat.blt d 100000=true) {t:TypeId} (ho:o.op = .makeMap t none) (hn2:(Nat.ble 200000 nn&&Nat.blt nn 400000)=true):AOp P w0 U0 nt ops o gs [(nn,[])] S [(d,.mref nn),(nn,.mp [])]:=by
 intro s hs hN a w ⟨D,hv,h⟩ Q K hK
 rw [if_pos (hg s hs a w D hv h)]
 have hrn:=rnB hn2
 have he:(execOp a.eval o).run P w = .ok (.value (.map (some w.heap.size))) (w.alloc (.map #[] 0)):=by
  simp [execOp,ho,Instr.makeMap,run_newObj_alloc]
 unfold Oper.wp
 rw [he,Oper.upon_value,hd]
 have hb':Below w.heap.size w (w.alloc (.map #[] 0)):=(Below.refl _ _).alloc (Nat.le_refl _) _
 have hG:=h.newrow (X:=fun _=>False) (avn := .mp []) (v' := .map (some w.heap.size)) (D':=D) hrn (hN (nn,[]) (by simp)).nr (by simp) ((BelowX.refl _ w).step hb') (fun b hb=>hb.elim) (fun g hg=>by
   have hg:some w.heap.size=some g:=hg
   cases hg
   refine ⟨.inr (Nat.le_refl _),by simp,fun o _ hd=>?_⟩
   have:=h.dlt _ _ hd
   omega) (fun b o hd => .inl hd) (fun b o hd=>Nat.lt_of_lt_of_le (h.dlt _ _ hd) hb'.size) (a0S h.dlt hb' fun _ _ h=>h) (fun hv lv=>⟨w.heap.size,#[],0,rfl,D9 _ _,rfl,by simp,by simp⟩)
 refine hK _ _ ⟨_,_,hG.put (bL hn) (bL h5) ⟨RW.rn hrn,?_,rfl⟩⟩
 simp
theorem zbm {P:Program} {w0:World} {U0:UX} {nt:Nat} {ops:Array Oper} {o:Oper} {S:Nat→Option AV} {gs:List Nat} {d:Nat} {t:TypeId} (nn:Nat) (p:Gd w0 U0 nt ops o gs S:=by exact gN rfl) (q:o.dst=some d:=by exact rfl) (r:Nat.blt d nt=true:=by exact rfl) (u:Nat.blt d 100000=true:=by exact rfl) (v:o.op = .makeMap t none:=by exact rfl) (x:(Nat.ble 200000 nn&&Nat.blt nn 400000)=true:=by exact rfl):AOp P w0 U0 nt ops o gs [(nn,[])] S [(d,.mref nn),(nn,.mp [])]:=b5i nn p q r u v x
def C4 (k:IntKind) (l:List CV):Prop:=∀ r∈l,∃ i c,r = .row [.sc (.int k i),c]
def K6 (k:IntKind) (i:Int):List CV→Option CV
 | []=>none
 | ⟨_,_,[⟨_,.int k' j,_⟩,c]⟩::l=>if k'=k∧j=i then some c else K6 k i l
 | _::l=>K6 k i l
theorem M3 {k:IntKind} {i j:Int} {c:CV} {l:List CV}:K6 k i (.row [.sc (.int k j),c]::l)=if j=i then some c else K6 k i l:=by
 rw [K6];simp
theorem H5 {U:Nat→Nat→Prop} {k:IntKind} {i:Int}:∀ {l:List CV} {es:List MapEntry} (n:Nat),Ents U w l es→C4 k l →
  (Instr.findNow (.int k) (.int k i) es n=some none∧K6 k i l=none)∨∃ j e c,Instr.findNow (.int k) (.int k i) es n=some (some (n+j,e.val))∧es[j]?=some e∧l[j]?=some (.row [.sc (.int k i),c])∧VRep U w c e.val∧e.key = .int k i∧K6 k i l=some c
 | [],es,n,h,_=>by have h:es=[]:=h;subst h;exact .inl ⟨rfl,rfl⟩
 | r::l,es,n,⟨e,es',h1,⟨k1,c1,g2,g3,g4,g5⟩,h3⟩,hk=>by
  obtain ⟨j0,c0,e1⟩:=hk r (by simp)
  rw [e1] at g2
  injection g2 with _ _ g6
  injection g6 with g6 g7
  injection g7 with g7 _
  subst g7
  have hkey:e.key = .int k j0:=by rw [g4,←g6]
  subst h1
  rw [e1,M3]
  by_cases hj:j0=i
  ·subst hj
   right
   refine ⟨0,e,c0,?_,rfl,rfl,g5,hkey,by rw [if_pos rfl]⟩
   simp [Instr.findNow,Instr.sameNow,hkey]
  ·rw [if_neg hj]
   have hs:Instr.sameNow (.int k) (.int k i) e.key=some false:=by
    rw [hkey]
    simp [Instr.sameNow]
    exact fun h=>hj h.symm
   rcases H5 (n+1) h3 (fun x hx=>hk x (List.mem_cons_of_mem _ hx)) with ⟨f1,f2⟩ | ⟨j,e',c,f1,f2,f3,f4,f5,f6⟩
   ·left;exact ⟨by simp [Instr.findNow,hs,f1],f2⟩
   ·right
    refine ⟨j+1,e',c,?_,by simpa using f2,by simpa using f3,f4,f5,f6⟩
    simp [Instr.findNow,hs,f1]
    omega
theorem aNc (hg:Gd w0 U0 nt ops o gs S) (hd:o.dst=some d) (hn:Nat.blt d nt=true) (h5:Nat.blt d 100000=true) {x:Operand} {n q:Nat} {p:List Nat} {c:CV} (ho:o.op = .nilCheck x) (hx:ev S x=some ⟨2,c,n,q,p⟩):AOp P w0 U0 nt ops o (gs++rd x) [] S [(d,⟨2,c,n,q,p⟩)]:=
 d7 hg hd hn h5 (fun k hk=>List.mem_append_left _ hk) fun s hs a w D hv hm=>by
  obtain ⟨hbn,h1⟩:BN n∧a.eval x = .pointer (some ⟨o8 (hv (100000+n)),q,none⟩):=j6 hm (fun k hk=>hs k (List.mem_append_right _ hk)) hx
  refine ⟨.pointer (some ⟨o8 (hv (100000+n)),q,none⟩),?_,hbn,rfl⟩
  generalize a.eval=ρ at h1 ⊢
  simp [execOp,ho,h1]
theorem zZ {P:Program} {w0:World} {U0:UX} {nt:Nat} {ops:Array Oper} {o:Oper} {S:Nat→Option AV} {gs:List Nat} {d:Nat} {x:Operand} {n:Nat} {q:Nat} {p:List Nat} {c:CV} (r:Gd w0 U0 nt ops o gs S:=by exact gN rfl) (t:o.dst=some d:=by exact rfl) (u:Nat.blt d nt=true:=by exact rfl) (v:Nat.blt d 100000=true:=by exact rfl) (y:o.op = .nilCheck x:=by exact rfl) (z:ev S x=some ⟨2,c,n,q,p⟩:=by exact rfl):AOp P w0 U0 nt ops o (gs++rd x) [] S [(d,⟨2,c,n,q,p⟩)]:=aNc r t u v y z
def a0O (k:IntKind) (i:Int) (c:CV):List CV→List CV
 | []=>[.row [.sc (.int k i),c]]
 | r::l=>match r with
  | ⟨_,_,[⟨_,.int k' j,_⟩,_]⟩=>if k'=k∧j=i then .row [.sc (.int k i),c]::l else r::a0O k i c l
  | _=>r::a0O k i c l
theorem a0q {k:IntKind} {i j:Int} {c c':CV} {l:List CV}:a0O k i c (.row [.sc (.int k j),c']::l)=if j=i then .row [.sc (.int k i),c]::l else .row [.sc (.int k j),c']::a0O k i c l:=by
 rw [a0O];simp
theorem a1b {k:IntKind} {i:Int} (c:CV):∀ {l:List CV},C4 k l→(K6 k i l=none→a0O k i c l=l++[.row [.sc (.int k i),c]])∧∀ j c',l[j]?=some (.row [.sc (.int k i),c'])→(∀ j' c'',j'<j→l[j']?≠some (.row [.sc (.int k i),c'']))→a0O k i c l=l.set j (.row [.sc (.int k i),c])
 | [],_=>⟨fun _=>rfl,fun j c' h=>by simp at h⟩
 | r::l,hk=>by
  obtain ⟨j0,c0,rfl⟩:=hk r (by simp)
  obtain ⟨ih1,ih2⟩:=a1b c (l:=l) (fun x hx=>hk x (List.mem_cons_of_mem _ hx))
  rw [a0q,M3]
  by_cases hj:j0=i
  ·subst hj
   rw [if_pos rfl,if_pos rfl]
   refine ⟨(fun h=>by cases h),fun j c' h hf=>?_⟩
   cases j with
   | zero=>rfl
   | succ j=>exact absurd rfl (hf 0 c0 (by omega))
  ·rw [if_neg hj,if_neg hj]
   refine ⟨fun h=>by rw [ih1 h];rfl,fun j c' h hf=>?_⟩
   cases j with
   | zero =>
    simp at h
    exact absurd h.1 hj
   | succ j =>
    rw [ih2 j c' (by simpa using h) fun j' c'' hlt=>by have:=hf (j'+1) c'' (by omega);simpa using this]
    rfl
theorem X8 {U:Nat→Nat→Prop} {k:IntKind} {i:Int}:∀ {l:List CV} {es:List MapEntry} (n:Nat) {j:Nat} {v:Value},Ents U w l es→C4 k l→Instr.findNow (.int k) (.int k i) es n=some (some (n+j,v))→∀ j' c'',j'<j→l[j']?≠some (.row [.sc (.int k i),c''])
 | [],es,n,j,v,h,_,hf=>by have h:es=[]:=h;subst h;cases hf
 | r::l,es,n,j,v,⟨e,es',h1,⟨k1,c1,g2,g3,g4,g5⟩,h3⟩,hk,hf=>by
  obtain ⟨j0,c0,e1⟩:=hk r (by simp)
  rw [e1] at g2
  injection g2 with _ _ g6
  injection g6 with g6 g7
  have hkey:e.key = .int k j0:=by rw [g4,←g6]
  subst h1
  intro j' c'' hlt hr
  by_cases hj:j0=i
  ·subst hj
   simp [Instr.findNow,Instr.sameNow,hkey] at hf
   omega
  ·have hs:Instr.sameNow (.int k) (.int k i) e.key=some false:=by
    rw [hkey]
    simp [Instr.sameNow]
    exact fun h=>hj h.symm
   simp [Instr.findNow,hs] at hf
   cases j' with
   | zero =>
    rw [e1] at hr
    simp at hr
    exact hj hr.1
   | succ j' =>
    obtain ⟨j2,rfl⟩:∃ j2,j=j2+1:=⟨j-1,by omega⟩
    exact X8 (n+1) (j:=j2) h3 (fun x hx=>hk x (List.mem_cons_of_mem _ hx)) (by rw [hf];congr 3;omega) j' c'' (by omega) (by simpa using hr)
theorem a3q {U:Nat→Nat→Prop} {r:CV} {e':MapEntry}:∀ {l:List CV} {es:List MapEntry} {j:Nat},Ents U w l es→Ent U w r e'→Ents U w (l.set j r) (es.set j e')
 | [],es,j,h,_=>by have h:es=[]:=h;subst h;exact rfl
 | x::l,es,0,⟨e,es',h1,h2,h3⟩,hr=>by rw [h1];exact ⟨e',es',rfl,hr,h3⟩
 | x::l,es,j+1,⟨e,es',h1,h2,h3⟩,hr=>by rw [h1];exact ⟨e,es'.set j e',rfl,h2,a3q h3 hr⟩
theorem a1g {U:Nat→Nat→Prop} {r:CV} {e':MapEntry}:∀ {l:List CV} {es:List MapEntry},Ents U w l es→Ent U w r e'→Ents U w (l++[r]) (es++[e'])
 | [],es,h,hr=>by have h:es=[]:=h;subst h;exact ⟨e',[],rfl,hr,rfl⟩
 | x::l,es,⟨e,es',h1,h2,h3⟩,hr=>by rw [h1];exact ⟨e,es'++[e'],rfl,h2,a1g h3 hr⟩
theorem b5u (hg:Gd w0 U0 nt ops o gs S) (hd:o.dst=none) {x y z:Operand} {t kt et:TypeId} {k:IntKind} {i:Int} {n:Nat} {l:List CV} {c:CV} {n' q' p' n2 q2 p2} (ho:o.op = .mapUpdate t x y z) (hu:P.underlying t=some (.map kt et)) (huk:P.underlying kt=some (.int k)) (hx:ev S x=some (.mref n)) (hy:ev S y=some ⟨0,.sc (.int k i),n',q',p'⟩) (hz:ev S z=some ⟨0,c,n2,q2,p2⟩) (hm':S n=some (.mp l)) (hik:C4 k l):AOp P w0 U0 nt ops o (gs++(rd x++(rd y++(rd z++[n])))) [] S [(n,.mp (a0O k i c l))]:=by
 intro s hs hN a w ⟨D,hv,h⟩ Q K hK
 rw [if_pos (hg s (fun k hk=>hs k (List.mem_append_left _ hk)) a w D hv h)]
 have hm:=(hs n (by simp)).trans hm'
 obtain ⟨hrn,h1,_⟩:RN n∧a.eval x=hv n∧(a.eval x).oneCell'=true:=j6 h (fun k hk=>hs k (List.mem_append_right _ (List.mem_append_left _ hk))) hx
 have e2:=s6 h (fun k hk=>hs k (List.mem_append_right _ (List.mem_append_right _ (List.mem_append_left _ hk)))) hy
 have e3:=C2 h (fun k hk=>hs k (List.mem_append_right _ (List.mem_append_right _ (List.mem_append_right _ (List.mem_append_left _ hk))))) hz
 have hok:n7 n:=by unfold RN at hrn;unfold n7;omega
 obtain ⟨g,es,clock,g1,g2,g3,g4,g5⟩:∃ g es clock,hv n = .map (some g)∧w.heap[g]?=some (.map es clock)∧Ents (Us w0 U0 D) w l es.toList∧(∀ e∈es,e.born<clock)∧(es.toList.map (fun e:MapEntry=>e.born)).Nodup:=h.obj n _ hm hok
 have hck:=run_checkKey (P:=P) (w:=w) huk (k := .int k i) rfl false 9999
 have hge:=Go.MapKept.run_getObj_map (P:=P) g2
 obtain ⟨p1,p2'⟩:=a1b (i:=i) c hik
 have fin:∀ (es':Array MapEntry) (clock':Nat),(execOp a.eval o).run P w = .ok .skip { w with heap:=w.heap.setIfInBounds g (.map es' clock') }→Ents (Us w0 U0 D) w (a0O k i c l) es'.toList→(∀ e∈es',e.born<clock')→(es'.toList.map (fun e:MapEntry=>e.born)).Nodup→o.wp P a w K Q:=fun es' clock' he k1 k2 k3=>by
  obtain ⟨q1,q2⟩:=heap_set (o':=Obj.map es' clock') g2
  unfold Oper.wp
  rw [he,Oper.upon_skip,hd]
  refine hK _ _ ⟨_,_,h.upd (av := .mp (a0O k i c l)) (g:=g) hok hm (by simp) (by simp) rfl (fun g' hn o _=>hn o (by simp)) (by simp) (by rw [g1];rfl) rfl rfl rfl (by simp) q2 fun hkp=>?_⟩
  exact ⟨g,es',clock',g1,q1,k1.keep hkp,k2,k3⟩
 rcases H5 0 g3 hik (i:=i) with ⟨f1,f2⟩ | ⟨j,e,c',f1,f2,f3,f4,f5,f6⟩
 ·have hfk:=run_findKey (P:=P) (w:=w) huk f1
  refine fin (es.push { key := .int k i,val:=a.eval z,born:=clock }) (clock+1) ?_ ?_ ?_ ?_
  ·rw [g1] at h1
   have hso:=run_setObj_map (P:=P) (Obj.map (es.push { key := .int k i,val:=a.eval z,born:=clock }) (clock+1)) g2
   generalize a.eval=ρ at h1 e2 hso ⊢
   simp [execOp,ho,Instr.mapUpdate,run_underlying hu,h1,e2,hge,hck,hfk,hso]
  ·rw [p1 f2,Array.toList_push]
   exact a1g g3 ⟨.sc (.int k i),c,rfl,rfl,rfl,e3⟩
  ·intro e he
   rcases Array.mem_push.1 he with he | rfl
   ·have:=g4 e he;omega
   ·exact Nat.lt_succ_self _
  ·rw [Array.toList_push,List.map_append,List.nodup_append]
   refine ⟨g5,by simp,fun a1 h1 b1 h2=>?_⟩
   simp at h1 h2
   obtain ⟨e,he,rfl⟩:=h1
   have:=g4 e he
   omega
 ·have hfk:=run_findKey (P:=P) (w:=w) huk f1
  rw [Nat.zero_add] at hfk
  have hjl:j<es.size:=by
   have:=(List.getElem?_eq_some_iff.1 f2).1
   simpa using this
  have hej:es[j]?=some e:=by rw [←Array.getElem?_toList];exact f2
  have hmod:(es.modify j fun e=>{ e with key := .int k i,val:=a.eval z }).toList=es.toList.set j { e with key := .int k i,val:=a.eval z }:=by
   rw [Array.toList_modify]
   apply List.ext_getElem?
   intro q
   rw [List.getElem?_modify,List.getElem?_set]
   by_cases hq:j=q
   ·subst hq
    have:es[j]=e:=(Array.getElem?_eq_some_iff.1 hej).2
    simp [hjl,this]
   ·simp [hq]
  have hbr:(es.modify j fun e=>{ e with key := .int k i,val:=a.eval z }).toList.map (fun e:MapEntry=>e.born)=es.toList.map (fun e:MapEntry=>e.born):=by
   rw [hmod,List.map_set]
   apply List.ext_getElem?
   intro q
   rw [List.getElem?_set]
   by_cases hq:j=q
   ·subst hq
    rw [if_pos rfl,if_pos (by simpa using hjl),List.getElem?_map,f2]
    rfl
   ·rw [if_neg hq]
  refine fin (es.modify j fun e=>{ e with key := .int k i,val:=a.eval z }) clock ?_ ?_ ?_ ?_
  ·rw [g1] at h1
   have hso:=run_setObj_map (P:=P) (Obj.map (es.modify j fun e=>{ e with key := .int k i,val:=a.eval z }) clock) g2
   have hst:(Instr.keyThatStays (.int k i) (.int k i)).run P w = .ok (.int k i) w:=by simp [Instr.keyThatStays,Instr.sameBits]
   generalize a.eval=ρ at h1 e2 hso ⊢
   simp [execOp,ho,Instr.mapUpdate,run_underlying hu,h1,e2,hge,hck,hfk,hej,f5,hst,hso]
  ·rw [hmod,p2' j c' f3 (X8 0 (j:=j) g3 hik f1)]
   exact a3q g3 ⟨.sc (.int k i),c,rfl,rfl,rfl,e3⟩
  ·intro e' he
   have h6:e'.born∈(es.modify j fun e=>{ e with key := .int k i,val:=a.eval z }).toList.map (fun e:MapEntry=>e.born):=List.mem_map.2 ⟨e',Array.mem_toList_iff.2 he,rfl⟩
   rw [hbr] at h6
   obtain ⟨e4,h7,h8⟩:=List.mem_map.1 h6
   rw [←h8]
   exact g4 e4 (by simpa using h7)
  ·rw [hbr];exact g5
theorem zbo {P:Program} {w0:World} {U0:UX} {nt:Nat} {ops:Array Oper} {o:Oper} {S:Nat→Option AV} {gs:List Nat} {x:Operand} {y:Operand} {z:Operand} {t:TypeId} {kt:TypeId} {et:TypeId} {k:IntKind} {i:Int} {n:Nat} {l:List CV} {c:CV} {n'} {q'} {p'} {n2} {q2} {p2} (p:Gd w0 U0 nt ops o gs S:=by exact gN rfl) (r:o.dst=none:=by exact rfl) (u:o.op = .mapUpdate t x y z:=by exact rfl) (v:P.underlying t=some (.map kt et):=by exact rfl) (A:P.underlying kt=some (.int k):=by exact rfl) (B:ev S x=some (.mref n):=by exact rfl) (C:ev S y=some ⟨0,.sc (.int k i),n',q',p'⟩:=by exact rfl) (E:ev S z=some ⟨0,c,n2,q2,p2⟩:=by exact rfl) (F:S n=some (.mp l):=by exact rfl) (G:C4 k l):AOp P w0 U0 nt ops o (gs++(rd x++(rd y++(rd z++[n])))) [] S [(n,.mp (a0O k i c l))]:=b5u p r u v A B C E F G
end
end Go.Proofs.YtekboofbedakcaaGreat
namespace Go.Proofs.YtekboofbedakcaaGreat
open Go.RowKit
set_option linter.unusedVariables false
set_option linter.unusedSimpArgs false
section
variable {P:Program} {w0:World} {U0:UX} {nt:Nat} {ops:Array Oper} {o:Oper} {S:Nat→Option AV} {gs:List Nat} {d:Nat} {s:AS} {a:Act} {w:World} {D:Nat→Nat→Prop} {hv:Nat→Value}
theorem a4N (hm:SimG w0 U0 nt s a w D hv) {x:Operand} {ty e:TypeId} {l:List CV} {n q:Nat} (ho:o.op = .load ty x) (hu:P.underlying ty=some (.slice e)) (hx:BN n∧a.eval x = .pointer (some ⟨o8 (hv (100000+n)),q,none⟩)) (hb:look s (100000+n)=some .obj) {n3 q3 p3} (hf:look s (c8 n q)=some ⟨18,.lst l,n3,q3,p3⟩) (hq:q<100):∃ v,(execOp a.eval o).run P w = .ok (.value v) w∧VRep (Us w0 U0 D) w (.lst l) v∧∃ ao n,v = .slice ao n n:=by
 obtain ⟨hbn,h1⟩:=hx
 obtain ⟨v,g1,g2,g3⟩:=hm.fld n q _ hf hq hb hbn
 have g1:VRep (Us w0 U0 D) w (.lst l) v∧∃ ao n,v = .slice ao n n:=g1
 obtain ⟨g4,ao,k,rfl⟩:=g1
 refine ⟨_,?_,g4,ao,k,rfl⟩
 have:=g3 0 (by simp [Value.cells])
 simp only [Nat.add_zero,Value.cells] at this
 have hl:(loadVar ty ⟨o8 (hv (100000+n)),q,none⟩).run P w = .ok (.slice ao k k) w:=by
  simp [loadVar,M8 hu,K1,run_load,this]
 generalize a.eval=ρ at h1 ⊢
 simp [execOp,ho,Instr.loadAt,Instr.sureAddr,h1,hl]
theorem a6F (hg:Gd w0 U0 nt ops o gs S) (hd:o.dst=some d) (hn:Nat.blt d nt=true) (h5:Nat.blt d 100000=true) {x:Operand} {ty e:TypeId} {n q:Nat} {p:List Nat} {k' v' l'} {l:List CV} (ho:o.op = .load ty x) (hu:P.underlying ty=some (.slice e)) (hx:ev S x=some ⟨2,⟨k',v',l'⟩,n,q,p⟩) (hb:S (100000+n)=some .obj) {n3 q3 p3} (hf:S (c8 n q)=some ⟨18,.lst l,n3,q3,p3⟩) (hq:Nat.blt q 100=true):AOp P w0 U0 nt ops o (gs++(rd x++[100000+n,c8 n q])) [] S [(d,.full (.lst l))]:=
 d7 hg hd hn h5 (fun k hk=>List.mem_append_left _ hk) fun s hs a w D hv hm=>by
  obtain ⟨v,h1,h2,h3⟩:=a4N (P:=P) hm ho hu (j6 hm (fun k hk=>hs k (List.mem_append_right _ (List.mem_append_left _ hk))) hx) ((hs (100000+n) (by simp)).trans hb) ((hs (c8 n q) (by simp)).trans hf) (bL hq)
  exact ⟨v,h1,h2,h3⟩
theorem zbd {P:Program} {w0:World} {U0:UX} {nt:Nat} {ops:Array Oper} {o:Oper} {S:Nat→Option AV} {gs:List Nat} {d:Nat} {x:Operand} {ty:TypeId} {e:TypeId} {n:Nat} {q:Nat} {p:List Nat} {k'} {v'} {l'} {l:List CV} {n3} {q3} {p3} (r:Gd w0 U0 nt ops o gs S:=by exact gN rfl) (t:o.dst=some d:=by exact rfl) (u:Nat.blt d nt=true:=by exact rfl) (y:Nat.blt d 100000=true:=by exact rfl) (z:o.op = .load ty x:=by exact rfl) (A:P.underlying ty=some (.slice e):=by exact rfl) (B:ev S x=some ⟨2,⟨k',v',l'⟩,n,q,p⟩:=by exact rfl) (C:S (100000+n)=some .obj:=by exact rfl) (E:S (c8 n q)=some ⟨18,.lst l,n3,q3,p3⟩:=by exact rfl) (F:Nat.blt q 100=true:=by exact rfl):AOp P w0 U0 nt ops o (gs++(rd x++[100000+n,c8 n q])) [] S [(d,.full (.lst l))]:=a6F r t u y z A B C E F
theorem a5n (hg:Gd w0 U0 nt ops o gs S) (hd:o.dst=some d) (hn:Nat.blt d nt=true) (h5:Nat.blt d 100000=true) {x:Operand} {ty e:TypeId} {n q:Nat} {p:List Nat} {k' v' l'} {l:List CV} (ho:o.op = .load ty x) (hu:P.underlying ty=some (.slice e)) (hx:ev S x=some ⟨2,⟨k',v',l'⟩,n,q,p⟩) (hb:S (100000+n)=some .obj) {n3 q3 p3} (hf:S (c8 n q)=some ⟨18,.lst l,n3,q3,p3⟩) (hq:Nat.blt q 100=true):AOp P w0 U0 nt ops o (gs++(rd x++[100000+n,c8 n q])) [] S [(d,.val (.lst l))]:=
 d7 hg hd hn h5 (fun k hk=>List.mem_append_left _ hk) fun s hs a w D hv hm=>by
  obtain ⟨v,h1,h2,h3⟩:=a4N (P:=P) hm ho hu (j6 hm (fun k hk=>hs k (List.mem_append_right _ (List.mem_append_left _ hk))) hx) ((hs (100000+n) (by simp)).trans hb) ((hs (c8 n q) (by simp)).trans hf) (bL hq)
  exact ⟨v,h1,i7 h2⟩
theorem z8 {P:Program} {w0:World} {U0:UX} {nt:Nat} {ops:Array Oper} {o:Oper} {S:Nat→Option AV} {gs:List Nat} {d:Nat} {x:Operand} {ty:TypeId} {e:TypeId} {n:Nat} {q:Nat} {p:List Nat} {k'} {v'} {l'} {l:List CV} {n3} {q3} {p3} (r:Gd w0 U0 nt ops o gs S:=by exact gN rfl) (t:o.dst=some d:=by exact rfl) (u:Nat.blt d nt=true:=by exact rfl) (y:Nat.blt d 100000=true:=by exact rfl) (z:o.op = .load ty x:=by exact rfl) (A:P.underlying ty=some (.slice e):=by exact rfl) (B:ev S x=some ⟨2,⟨k',v',l'⟩,n,q,p⟩:=by exact rfl) (C:S (100000+n)=some .obj:=by exact rfl) (E:S (c8 n q)=some ⟨18,.lst l,n3,q3,p3⟩:=by exact rfl) (F:Nat.blt q 100=true:=by exact rfl):AOp P w0 U0 nt ops o (gs++(rd x++[100000+n,c8 n q])) [] S [(d,.val (.lst l))]:=a5n r t u y z A B C E F
theorem a1i {t k e:TypeId} (hu:P.underlying t=some (.map k e)) (w:World):(Op.equal t (.map none) (.map none)).run P w = .ok true w:=by
 unfold Op.equal
 rw [show Op.maxDepth=9999+1 from rfl,Op.equalIn]
 simp [run_underlying hu]
theorem b7D (hg:Gd w0 U0 nt ops o gs S) (hd:o.dst=some d) (hn:Nat.blt d nt=true) (h5:Nat.blt d 100000=true) {x:Operand} {t1 t2 e k:TypeId} {n q p} (ho:o.op = .binOp .eql t1 x (.const (.map none)) t2) (hu:P.underlying t1=some (.map k e)) (hx:ev S x=some ⟨0,.sc (.map none),n,q,p⟩):AOp P w0 U0 nt ops o (gs++rd x) [] S [(d,.val (.b true))]:=
 d7 hg hd hn h5 (fun k hk=>List.mem_append_left _ hk) fun s hs a w D hv hm=>by
  have h1:=s6 hm (fun k hk=>hs k (List.mem_append_right _ hk)) hx
  have hb:=a1i (P:=P) hu w
  have hc:a.eval (.const (.map none)) = .map none:=rfl
  refine ⟨.bool true,?_,m7 rfl⟩
  generalize a.eval=ρ at h1 hc ⊢
  simp [execOp,ho,h1,hc,eqGuard,binOp,hb]
theorem zba {P:Program} {w0:World} {U0:UX} {nt:Nat} {ops:Array Oper} {o:Oper} {S:Nat→Option AV} {gs:List Nat} {d:Nat} {x:Operand} {t1:TypeId} {t2:TypeId} {e:TypeId} {k:TypeId} {n} {q} {p} (r:Gd w0 U0 nt ops o gs S:=by exact gN rfl) (t:o.dst=some d:=by exact rfl) (u:Nat.blt d nt=true:=by exact rfl) (v:Nat.blt d 100000=true:=by exact rfl) (y:o.op = .binOp .eql t1 x (.const (.map none)) t2:=by exact rfl) (z:P.underlying t1=some (.map k e):=by exact rfl) (A:ev S x=some ⟨0,.sc (.map none),n,q,p⟩:=by exact rfl):AOp P w0 U0 nt ops o (gs++rd x) [] S [(d,.val (.b true))]:=b7D r t u v y z A
theorem b6P (hg:Gd w0 U0 nt ops o gs S) (hd:o.dst=some d) (hn:Nat.blt d nt=true) (h5:Nat.blt d 100000=true) {x:Operand} {t1 t2 e k:TypeId} {n q p} (ho:o.op = .binOp .neq t1 x (.const (.map none)) t2) (hu:P.underlying t1=some (.map k e)) (hx:ev S x=some ⟨0,.sc (.map none),n,q,p⟩):AOp P w0 U0 nt ops o (gs++rd x) [] S [(d,.val (.b false))]:=
 d7 hg hd hn h5 (fun k hk=>List.mem_append_left _ hk) fun s hs a w D hv hm=>by
  have h1:=s6 hm (fun k hk=>hs k (List.mem_append_right _ hk)) hx
  have hb:=a1i (P:=P) hu w
  have hc:a.eval (.const (.map none)) = .map none:=rfl
  refine ⟨.bool false,?_,m7 rfl⟩
  generalize a.eval=ρ at h1 hc ⊢
  simp [execOp,ho,h1,hc,eqGuard,binOp,hb]
theorem z7 {P:Program} {w0:World} {U0:UX} {nt:Nat} {ops:Array Oper} {o:Oper} {S:Nat→Option AV} {gs:List Nat} {d:Nat} {x:Operand} {t1:TypeId} {t2:TypeId} {e:TypeId} {k:TypeId} {n} {q} {p} (r:Gd w0 U0 nt ops o gs S:=by exact gN rfl) (t:o.dst=some d:=by exact rfl) (u:Nat.blt d nt=true:=by exact rfl) (v:Nat.blt d 100000=true:=by exact rfl) (y:o.op = .binOp .neq t1 x (.const (.map none)) t2:=by exact rfl) (z:P.underlying t1=some (.map k e):=by exact rfl) (A:ev S x=some ⟨0,.sc (.map none),n,q,p⟩:=by exact rfl):AOp P w0 U0 nt ops o (gs++rd x) [] S [(d,.val (.b false))]:=b6P r t u v y z A
theorem b3c {t ty e:TypeId} {z:Value} {size bytes:Nat} (ht:P.underlying t=some (.slice e)) (hi:(P.info? e).map (fun i=>(i.zero,i.size,i.bytes))=some (some z,size,bytes)) (hzs:z.cells.size=size) (hsz:0<size)
  {ao1:Option Addr} {n:Nat} {xs:List Value} {U:Nat→Nat→Prop} (hnil1:ao1=none→n=0) (hb1:At U w ao1 xs) (hl1:xs.length=n*size) {ao:Option Addr} {m c:Nat} {ys:List Value} (hnil:ao=none→m=0) (hb:At U w ao ys) (hl:ys.length=m*size) (h1:∀ u∈ys,u.oneCell'=true) (hm:0<m) (h63:n+m≤maxLen) (hbytes:(n+m)*bytes≤140737488355328) :
  ∃ v' w',Sem.run P (Builtin.append_ #[t,t] ty #[.slice ao1 n n,.slice ao m c]) w = .ok v' w'∧w'.ownsRow w.heap.size e size v' (n+m) (xs++ys)∧w.grownBy w' none:=by
 obtain ⟨i,hi1,hi2,hi3,hi4⟩:=info_parts hi
 have hat:∀ {ad:Addr} {zs:List Value},At U w (some ad) zs→∀ j u,zs[j]?=some u→w.cell? (ad.add j)=some u:=fun {ad zs} hA j u hj=>by
  have hjl:j<zs.length:=by
   rcases Nat.lt_or_ge j zs.length with h | h
   ·exact h
   ·rw [List.getElem?_eq_none h] at hj;cases hj
  rcases hA with rfl | ⟨b,off,ha,hc⟩
  ·simp at hjl
  ·cases ha
   rw [X4,(hc j hjl).2,hj]
 cases ao with
 | none=>have:=hnil rfl;omega
 | some ad =>
  cases ao1 with
  | none =>
   have hn:=hnil1 rfl
   subst hn
   have:xs=[]:=List.eq_nil_of_length_eq_zero (by simpa using hl1)
   subst this
   obtain ⟨v',w',hr,ho,hg,_⟩:=run_append_own (P:=P) w w.heap.size t ty e i z size bytes ht hi1 hi2 hi3 hi4 hzs hsz (.slice none 0 0) 0 [] (World.ownsRow_nil _ _ _ _) ad m c ys hl (hat hb) h1 h63 hbytes (Nat.le_refl _)
   exact ⟨v',w',hr,ho,hg⟩
  | some ad1=>exact run_append_arg_grows (P:=P) w t ty e i z size bytes ht hi1 hi2 hi3 hi4 hzs hsz ad1 n n xs hl1 (hat hb1) ad m c ys hl (hat hb) (by omega) h63 hbytes
theorem b7v (nn:Nat) (hg:Gd w0 U0 nt ops o gs S) (hd:o.dst=some d) (hn:Nat.blt d nt=true) (h5:Nat.blt d 100000=true) {x y:Operand} {t e size bytes:Nat} {z:Value} {l l2:List CV} {n2 q2 p2} (ho:o.op = .call { callee := .builtin .append,args := #[x,y],argTypes := #[t,t] }) (ht:P.underlying t=some (.slice e)) (hi:(P.info? e).map (fun i=>(i.zero,i.size,i.bytes))=some (some z,size,bytes)) (hzs:Nat.beq z.cells.size size=true) (hsz:Nat.blt 0 size=true) (hbt:Nat.ble bytes 1000=true)
  (hx:ev S x=some (.full (.lst l))) (hy:ev S y=some ⟨0,.lst l2,n2,q2,p2⟩) (hn2:(Nat.ble 200000 nn&&Nat.blt nn 400000)=true) (hpos:Nat.blt 0 l2.length=true) (hl:∀ c∈l,c.size=size) (hl2:∀ c∈l2,c.size=size) (hbd:l.length+l2.length≤100000000000) :
  AOp P w0 U0 nt ops o (gs++(rd x++rd y)) [(nn,[])] S [(d,.sl nn 0 (l.length+l2.length) size),(nn,.mrow e size (l++l2))]:=by
 intro s hs hN a w ⟨D,hv,h⟩ Q K hK
 rw [if_pos (hg s (fun k hk=>hs k (List.mem_append_left _ hk)) a w D hv h)]
 obtain ⟨h1,ao,n,hvx⟩:VRep (Us w0 U0 D) w (.lst l) (a.eval x)∧∃ ao n,a.eval x = .slice ao n n:=j6 h (fun k hk=>hs k (List.mem_append_right _ (List.mem_append_left _ hk))) hx
 have h3:=C2 h (fun k hk=>hs k (List.mem_append_right _ (List.mem_append_right _ hk))) hy
 rw [hvx] at h1
 obtain ⟨ao',n',cap,e1,e2,e3,e4,e5,ys,e6,e7⟩:=d8.1 h1
 injection e1 with f1 f2 f3
 subst f1;subst f2;subst f3
 obtain ⟨ao2,m,c2,g1,g2,g3,g4,g6,ys2,g7,g8⟩:=d8.1 h3
 have hyl:ys.length=n*size:=by rw [F7 (n:=CV.size) (fun c _ xs h=>h.len) e7,w8 hl,e2]
 have hyl2:ys2.length=m*size:=by rw [F7 (n:=CV.size) (fun c _ xs h=>h.len) g8,w8 hl2,g2]
 have hbt:=Nat.le_of_ble_eq_true hbt
 have hsz:=bL hsz
 have hpos:=bL hpos
 have hmul:(n+m)*bytes≤100000000000*1000:=Nat.mul_le_mul (by omega) hbt
 obtain ⟨v',w',r1,r2,r3⟩:=b3c (P:=P) (ty:=o.type) ht hi (Nat.eq_of_beq_eq_true hzs) hsz (fun h=>(e5 h).1) e6 hyl (fun h=>(g6 h).1) g7 hyl2 (c:=c2) (O4 g8) (by omega) (by unfold maxLen;omega) (by omega)
 have hrn2:=rnB hn2
 have hb2:hb v'=v'.ownBlock:=by
  rcases r2.2 with ⟨rfl,_⟩ | ⟨g,cap,cur,rfl,_⟩<;>rfl
 have hkp:∀ b o u,Us w0 U0 D b o→w.cell? ⟨b,o,none⟩=some u→Us w0 U0 D b o∧w'.cell? ⟨b,o,none⟩=some u:=fun b o u hu hc=>by
  refine ⟨hu,?_⟩
  have hlt:b<w.heap.size:=World.block_lt_of_cell? w _ hc
  rw [World.cell?_of_block (w:=w) (r3.block b hlt (by simp))]
  exact hc
 have hG:=h.newrow (avn := .mrow e size (l++l2)) (v':=v') (D':=D) (X:=fun _=>False) (n:=nn) hrn2 (hN (nn,[]) (by simp)).nr (by simp) ⟨r3.os,r3.tape,r3.output,r3.size,fun b hb hx=>r3.block b hb (by simp)⟩ (fun b hb=>hb.elim) (fun g hg=>by
   rw [hb2] at hg
   refine ⟨.inr (r2.lt g hg).1,(r2.lt g hg).2,fun o _ hd=>?_⟩
   have:=(r2.lt g hg).1
   have:=h.dlt _ _ hd
   omega) (fun b o hd => .inl hd) (fun b o hd=>Nat.lt_of_lt_of_le (h.dlt _ _ hd) r3.size) hkp (fun hv lv=>by
   refine ⟨ys++ys2,?_,hsz,fun c hc=>?_,?_⟩
   ·show w'.ownsRow 0 e size v' (l++l2).length (ys++ys2)
    rw [List.length_append,←e2,←g2]
    exact p7 r2 (Nat.zero_le _)
   ·rcases List.mem_append.1 hc with hc | hc
    ·exact hl c hc
    ·exact hl2 c hc
   ·show Sq ((l++l2).map _) _
    rw [List.map_append]
    exact D6 (Sq.keep hkp e7) (Sq.keep hkp g8))
 have he:(execOp a.eval o).run P w = .ok (.value v') w':=by
  generalize a.eval=ρ at hvx g1 ⊢
  simp [execOp,ho,resolve,invoke,builtin,hvx,g1,r1,Result.andThen]
 unfold Oper.wp
 rw [he,Oper.upon_value,hd]
 refine hK _ _ ⟨_,_,hG.put (bL hn) (bL h5) ?_⟩
 refine ⟨RW.rn hrn2,?_⟩
 obtain ⟨a1,c1,k1,k2,k3⟩:=a3l (p7 r2 (Nat.zero_le _))
 have:=a2F (z:=size) k1 k2 k3
 show SlV ((fun x=>if x=nn then v' else hv x) nn) 0 (l.length+l2.length) size v'
 simp only [if_true]
 rw [←e2,←g2]
 exact this
theorem zbe {P:Program} {w0:World} {U0:UX} {nt:Nat} {ops:Array Oper} {o:Oper} {S:Nat→Option AV} {gs:List Nat} {d:Nat} {x:Operand} {y:Operand} {t:Nat} {e:Nat} {size:Nat} {bytes:Nat} {z:Value} {l:List CV} {l2:List CV} {n2} {q2} {p2} (nn:Nat) (p:Gd w0 U0 nt ops o gs S:=by exact gN rfl) (q:o.dst=some d:=by exact rfl) (r:Nat.blt d nt=true:=by exact rfl) (v:Nat.blt d 100000=true:=by exact rfl) (A:o.op = .call { callee := .builtin .append,args := #[x,y],argTypes := #[t,t] }:=by exact rfl) (B:P.underlying t=some (.slice e):=by exact rfl) (C:(P.info? e).map (fun i=>(i.zero,i.size,i.bytes))=some (some z,size,bytes):=by exact rfl) (E:Nat.beq z.cells.size size=true:=by exact rfl) (F:Nat.blt 0 size=true:=by exact rfl) (G:Nat.ble bytes 1000=true:=by exact rfl) (H:ev S x=some (.full (.lst l)):=by exact rfl) (hy:ev S y=some ⟨0,.lst l2,n2,q2,p2⟩:=by exact rfl) (hn2:(Nat.ble 200000 nn&&Nat.blt nn 400000)=true:=by exact rfl) (hpos:Nat.blt 0 l2.length=true:=by exact rfl) (hl:∀ c∈l,c.size=size:=by first | assumption | exact sZ rfl | exact Tm.size_all _ | exact Bd.size_all _ | exact b8 _ | exact bys_size _ | exact Lt.size_all _) (hl2:∀ c∈l2,c.size=size:=by first | assumption | exact sZ rfl | exact Tm.size_all _ | exact Bd.size_all _ | exact b8 _ | exact bys_size _ | exact Lt.size_all _) (hbd:l.length+l2.length≤100000000000:=by first | omega | (simp only [List.length_map,List.length_append,List.length_cons,List.length_nil]<;>omega) | (simp<;>omega)):AOp P w0 U0 nt ops o (gs++(rd x++rd y)) [(nn,[])] S [(d,.sl nn 0 (l.length+l2.length) size),(nn,.mrow e size (l++l2))]:=b7v nn p q r v A B C E F G H hy hn2 hpos hl hl2 hbd
theorem b1x (z:List Value) (hz:0<z.length) (n:Nat):(madeCells z.toArray (n*z.length)).toList=(List.replicate n z).flatten:=by
 apply List.ext_getElem?
 intro k
 rw [J0 hz _ (fun v hv=>by rw [List.eq_of_mem_replicate hv])]
 have hlen:(madeCells z.toArray (n*z.length)).toList.length=n*z.length:=by simp [size_madeCells]
 rcases Nat.lt_or_ge k (n*z.length) with h | h
 ·have hd:k / z.length<n:=by rw [Nat.div_lt_iff_lt_mul hz];exact h
  have hm:k % z.length<z.length:=Nat.mod_lt _ hz
  rw [List.getElem?_replicate,if_pos hd]
  simp only [Option.bind_some]
  rw [List.getElem?_eq_getElem hm]
  simp [madeCells,h,hm]
 ·rw [List.getElem?_eq_none (by omega),List.getElem?_replicate,if_neg]
  ·rfl
  ·rw [Nat.not_lt,Nat.le_div_iff_mul_le hz];exact h
theorem b8o (nn:Nat) (hg:Gd w0 U0 nt ops o gs S) (hd:o.dst=some d) (hn:Nat.blt d nt=true) (h5:Nat.blt d 100000=true) {x y:Operand} {t e size bytes k:Nat} {z:Value} {zc:CV} {i1 i2:Int} {k1 k2:IntKind} {n1 q1 p1 n2 q2 p2} (ho:o.op = .makeSlice t x y) (ht:P.underlying t=some (.slice e)) (hi:(P.info? e).map (fun i=>(i.zero,i.size,i.bytes))=some (some z,size,bytes)) (hzc:a0x P e=some zc) (hzs:Nat.beq z.cells.size size=true) (hzz:zc.size=size) (hsz:Nat.blt 0 size=true) (hbt:Nat.ble bytes 1000=true)
  (hx:ev S x=some ⟨0,.sc (.int k1 i1),n1,q1,p1⟩) (hy:ev S y=some ⟨0,.sc (.int k2 i2),n2,q2,p2⟩) (hn2:(Nat.ble 200000 nn&&Nat.blt nn 400000)=true) (h1:i1=(k:Int)) (h2:i2=(k:Int)) (hs1:Nat.ble size 160=true) (hbd:k≤100000) :
  AOp P w0 U0 nt ops o (gs++(rd x++rd y)) [(nn,[])] S [(d,.sl nn 0 k size),(nn,.mrow e size (List.replicate k zc))]:=by
 intro s hs hN a w ⟨D,hv,h⟩ Q K hK
 rw [if_pos (hg s (fun k hk=>hs k (List.mem_append_left _ hk)) a w D hv h)]
 have e1:=s6 h (fun k hk=>hs k (List.mem_append_right _ (List.mem_append_left _ hk))) hx
 have e2:=s6 h (fun k hk=>hs k (List.mem_append_right _ (List.mem_append_right _ hk))) hy
 subst h1
 subst h2
 obtain ⟨i,hi1,hi2,hi3,hi4⟩:=info_parts hi
 have hsz:=bL hsz
 have hbt:=Nat.le_of_ble_eq_true hbt
 have hzs:=Nat.eq_of_beq_eq_true hzs
 have hmul:bytes*k≤1000*100000:=Nat.mul_le_mul hbt hbd
 have hk:k*size≤100000*160:=Nat.mul_le_mul hbd (Nat.le_of_ble_eq_true hs1)
 obtain ⟨w',r1,r2,r3⟩:=run_makeSlice_full (P:=P) (w:=w) w.heap.size t e i z size ht hi1 hi2 hi3 k1 k2 k (by omega) (by rw [hi4];omega) (by unfold maxLen;omega) (Nat.le_refl _)
 have hrn2:=rnB hn2
 obtain ⟨it,z',f1,f2,f3⟩:=P4 hzc
 rw [hi1] at f1
 cases f1
 rw [hi2] at f2
 cases f2
 have hmf:(madeCells z.cells (k*size)).toList=(List.replicate k z.cells.toList).flatten:=by
  have:=b1x z.cells.toList (by simpa [hzs] using hsz) k
  simpa [hzs] using this
 rw [hmf] at r2
 have hkp:∀ b o u,Us w0 U0 D b o→w.cell? ⟨b,o,none⟩=some u→Us w0 U0 D b o∧w'.cell? ⟨b,o,none⟩=some u:=fun b o u hu hc=>by
  refine ⟨hu,?_⟩
  have hlt:b<w.heap.size:=World.block_lt_of_cell? w _ hc
  rw [World.cell?_of_block (w:=w) (r3.block b hlt (by simp))]
  exact hc
 have hG:=h.newrow (avn := .mrow e size (List.replicate k zc)) (v' := .slice (some ⟨w.heap.size,0,none⟩) k k) (D':=D) (X:=fun _=>False) (n:=nn) hrn2 (hN (nn,[]) (by simp)).nr (by simp) ⟨r3.os,r3.tape,r3.output,r3.size,fun b hb hx=>r3.block b hb (by simp)⟩ (fun b hb=>hb.elim) (fun g hg=>by
   have hg:(Value.slice (some ⟨w.heap.size,0,none⟩) k k).ownBlock=some g:=hg
   refine ⟨.inr (r2.lt g hg).1,(r2.lt g hg).2,fun o _ hd=>?_⟩
   have:=(r2.lt g hg).1
   have:=h.dlt _ _ hd
   omega) (fun b o hd => .inl hd) (fun b o hd=>Nat.lt_of_lt_of_le (h.dlt _ _ hd) r3.size) hkp (fun hv lv=>by
   refine ⟨(List.replicate k z.cells.toList).flatten,?_,hsz,fun c hc=>?_,a5H (f3 _ _) k⟩
   ·show w'.ownsRow 0 e size _ (List.replicate k zc).length _
    rw [List.length_replicate]
    exact p7 r2 (Nat.zero_le _)
   ·rw [List.eq_of_mem_replicate hc];exact hzz)
 have he:(execOp a.eval o).run P w = .ok (.value (.slice (some ⟨w.heap.size,0,none⟩) k k)) w':=by
  generalize a.eval=ρ at e1 e2 ⊢
  simp [execOp,ho,e1,e2,r1]
 unfold Oper.wp
 rw [he,Oper.upon_value,hd]
 refine hK _ _ ⟨_,_,hG.put (bL hn) (bL h5) ⟨RW.rn hrn2,?_⟩⟩
 show SlV ((fun x=>if x=nn then Value.slice (some ⟨w.heap.size,0,none⟩) k k else hv x) nn) 0 k size _
 simp only [if_true]
 exact a2F rfl (Nat.le_refl _) (.inr ⟨_,rfl⟩)
theorem zbh {P:Program} {w0:World} {U0:UX} {nt:Nat} {ops:Array Oper} {o:Oper} {S:Nat→Option AV} {gs:List Nat} {d:Nat} {x:Operand} {y:Operand} {t:Nat} {e:Nat} {size:Nat} {bytes:Nat} {k:Nat} {z:Value} {zc:CV} {i1:Int} {i2:Int} {k1:IntKind} {k2:IntKind} {n1} {q1} {p1} {n2} {q2} {p2} (nn:Nat) (p:Gd w0 U0 nt ops o gs S:=by exact gN rfl) (q:o.dst=some d:=by exact rfl) (r:Nat.blt d nt=true:=by exact rfl) (v:Nat.blt d 100000=true:=by exact rfl) (A:o.op = .makeSlice t x y:=by exact rfl) (B:P.underlying t=some (.slice e):=by exact rfl) (C:(P.info? e).map (fun i=>(i.zero,i.size,i.bytes))=some (some z,size,bytes):=by exact rfl) (E:a0x P e=some zc:=by exact rfl) (F:Nat.beq z.cells.size size=true:=by exact rfl) (G:zc.size=size:=by exact rfl) (H:Nat.blt 0 size=true:=by exact rfl) (hbt:Nat.ble bytes 1000=true:=by exact rfl) (hx:ev S x=some ⟨0,.sc (.int k1 i1),n1,q1,p1⟩:=by exact rfl) (hy:ev S y=some ⟨0,.sc (.int k2 i2),n2,q2,p2⟩:=by exact rfl) (hn2:(Nat.ble 200000 nn&&Nat.blt nn 400000)=true:=by exact rfl) (h1:i1=(k:Int):=by first | rfl | omega | (simp only [List.length_set,List.length_map,List.length_append,List.length_cons,List.length_nil]<;>omega) | (simp<;>omega)) (h2:i2=(k:Int):=by first | rfl | omega | (simp only [List.length_set,List.length_map,List.length_append,List.length_cons,List.length_nil]<;>omega) | (simp<;>omega)) (hs1:Nat.ble size 160=true:=by exact rfl) (hbd:k≤100000:=by first | rfl | omega | (simp only [List.length_set,List.length_map,List.length_append,List.length_cons,List.length_nil]<;>omega) | (simp<;>omega)):AOp P w0 U0 nt ops o (gs++(rd x++rd y)) [(nn,[])] S [(d,.sl nn 0 k size),(nn,.mrow e size (List.replicate k zc))]:=b8o nn p q r v A B C E F G H hbt hx hy hn2 h1 h2 hs1 hbd
end
section
variable {P:Program} {w0:World} {U0:UX} {nt:Nat} {ops:Array Oper} {o:Oper} {S:Nat→Option AV} {gs:List Nat} {d:Nat} {s:AS} {a:Act} {w:World} {D:Nat→Nat→Prop} {hv:Nat→Value}
end
section
variable {P:Program} {w0:World} {U0:UX} {nt:Nat} {ops:Array Oper} {o:Oper} {S:Nat→Option AV} {gs:List Nat} {d:Nat} {s:AS} {a:Act} {w:World} {D:Nat→Nat→Prop} {hv:Nat→Value}
end
end Go.Proofs.YtekboofbedakcaaGreat
namespace Go.Proofs.YtekboofbedakcaaGreat
open Go.RowKit Go.MapKept
set_option linter.unusedVariables false
set_option linter.unusedSimpArgs false
section
variable {P:Program} {w0:World} {U0:UX} {nt:Nat} {ops:Array Oper} {o:Oper} {S:Nat→Option AV} {gs:List Nat} {d:Nat} {s:AS} {a:Act} {w:World} {D:Nat→Nat→Prop} {hv:Nat→Value}
theorem b0z {x y:AV} {k m n:Nat} {e:Nat×Nat} (hk:k<200000) (hm:m<200000∨400000≤m):y6 ((k,x)::(m,y)::s) n e↔y6 s n e:=by
 unfold y6
 constructor
 ·rintro ⟨h1,h2⟩
  rw [lN (by omega),lN (by omega)] at h1
  exact ⟨h1,h2⟩
 ·rintro ⟨h1,h2⟩
  exact ⟨by rw [lN (by omega),lN (by omega)];exact h1,h2⟩
theorem a8D {lv:Nat→Prop} {a:AV} {d:Nat} (hd:BN d) (hlv:∀ n,lv n→n=1∨RN n) (hr:a.n≠d) (h:Rn lv a):hk a≠100000+d:=by
 unfold BN at hd
 rcases h with ⟨h1,h2,h3⟩ | ⟨h1,h2⟩ | ⟨h1,h2⟩
 ·rw [M1.2 (by omega)]
  rcases hlv _ h2 with h4 | h4
  ·exact absurd h4 h3
  ·unfold RN at h4;omega
 ·rw [M1.1 h1];omega
 ·rw [M1.2 (by omega)];unfold RN at h2;omega
theorem SimG.newboxN (h:SimG w0 U0 nt s a w D hv) {nn:Nat} (hbn:BN nn) (hnf:∀ v,U0.f (100000+nn)=some v→False) (hr:a0n s nn) (hd:d<nt) (h5:d<100000) {av:AV} (hav:av.t=5∨av = .obj) {xs:List Value} (ty:TypeId) (hrep:av.t=5→Rep (Us w0 U0 D) w av.c xs) (htk:av.t=5→Tk hv (b6 s) av xs) :
  SimG w0 U0 nt ((d,.bp nn 0 [])::(100000+nn,av)::s) (a.put (some d) (.pointer (some ⟨w.heap.size,0,none⟩))) (w.alloc (.cells xs.toArray ty)) D (fun k=>if k=100000+nn then .pointer (some ⟨w.heap.size,0,none⟩) else hv k):=by
 have hbn1:=hbn
 unfold BN at hbn1
 have hb':Below w.heap.size w (w.alloc (.cells xs.toArray ty)):=(Below.refl _ _).alloc (Nat.le_refl _) _
 have hG:=h.grow' hb'
 obtain ⟨s',hs'⟩:∃ s',s'=(d,AV.bp nn 0 [])::(100000+nn,av)::s:=⟨_,rfl⟩
 obtain ⟨hv',hhv⟩:∃ hv':Nat→Value,hv'=fun k=>if k=100000+nn then .pointer (some ⟨w.heap.size,0,none⟩) else hv k:=⟨_,rfl⟩
 rw [←hs',←hhv]
 have hl:∀ n e,y6 s' n e↔y6 s n e:=fun n e=>by rw [hs'];exact b0z (by omega) (by unfold BN at hbn;omega)
 have hl2:b6 s'=b6 s:=by funext n;simp only [b6,hl]
 have hlk:∀ k,k≠d→k≠100000+nn→look s' k=look s k:=fun k h1 h2=>by rw [hs',lN (Ne.symm h1),lN (Ne.symm h2)]
 have hlb:look s' (100000+nn)=some av:=by rw [hs',lN (by omega),lS]
 have hvn:∀ k,k≠100000+nn→hv' k=hv k:=fun k hk=>by rw [hhv];simp only [if_neg hk]
 have hvd:hv' (100000+nn) = .pointer (some ⟨w.heap.size,0,none⟩):=by rw [hhv];simp
 have K3:∀ b o v,Us w0 U0 D b o→(w.alloc (.cells xs.toArray ty)).cell? ⟨b,o,none⟩=some v→Us w0 U0 D b o∧(w.alloc (.cells xs.toArray ty)).cell? ⟨b,o,none⟩=some v:=fun _ _ _ h1 h2=>⟨h1,h2⟩
 have hmv:∀ {k av' v},look s k=some av'→AVRep (Us w0 U0 D) (w.alloc (.cells xs.toArray ty)) hv (b6 s) av' v→AVRep (Us w0 U0 D) (w.alloc (.cells xs.toArray ty)) hv' (b6 s) av' v:=fun {k av' v} h1 h2 =>
  h2.move K3 (fun _ h=>h) fun h3=>hvn _ (a8D hbn (fun n=>E8) (hr k av' h1).1 h3)
 refine ⟨hG.below,h.dfr,by simp [Act.put,h.size],fun d' av' h1 h2=>?_,fun n o av' h1 h2 h3 h10=>?_,fun n o o' av1 av2 h1 h2 h3 h4=>?_,fun k av' h1 h2=>?_,fun k av' g h1 h2 h3 h4=>?_,fun k k' av1 av2 g h1 h2 h3 h4 h6 h7 hne=>?_,fun n g h1=>?_,hG.dlt⟩
 ·rw [hl2]
  by_cases e:d=d'
  ·subst e
   rw [hs',lS] at h1
   cases h1
   refine ⟨.pointer (some ⟨w.heap.size,0,none⟩),by simp [Act.put,h.size,hd],?_⟩
   unfold AVRep
   simp only [if_true]
   exact ⟨hbn,by rw [hvd];rfl⟩
  ·rw [hlk d' (Ne.symm e) (by omega)] at h1
   obtain ⟨v',h3,h4⟩:=hG.slot d' av' h1 h2
   exact ⟨v',by simp [Act.put,e,h3],hmv h1 h4⟩
 ·rw [hlk _ (by unfold c8;omega) (by unfold c8;omega)] at h1
  have hn:=(hr _ _ h1).2.1
  rw [W6 h2] at hn
  rw [hlk _ (by omega) (by omega)] at h3
  rw [hl2]
  obtain ⟨v,h4,h6,h7⟩:=hG.fld n o av' h1 h2 h3 h10
  refine ⟨v,hmv h1 h4,h6,?_⟩
  rw [hvn _ (by omega)]
  exact h7
 ·rw [hlk _ (by unfold c8;omega) (by unfold c8;omega)] at h1 h2
  exact h.fdis n o o' av1 av2 h1 h2 h3 h4
 ·rw [hl2]
  by_cases e:k=100000+nn
  ·subst e
   rw [hlb] at h1
   cases h1
   rw [hvd]
   unfold OC
   rcases hav with hav | rfl
   ·rw [if_pos hav]
    refine ⟨w.heap.size,xs,ty,rfl,D9 _ _,(hrep hav).keep (a0S h.dlt hb' fun _ _ h=>h),fun hl=>?_⟩
    obtain ⟨m,c,g1,g2⟩:=htk hav hl
    refine ⟨m,c,g1,?_⟩
    rw [g2]
    unfold J5
    rcases E8 hl with h6 | h6
    ·rw [if_pos h6,if_pos h6]
    ·unfold RN at h6
     rw [hvn _ (by omega)]
   ·simp only [if_true]
    exact ⟨w.heap.size,xs.toArray,ty,rfl,D9 _ _⟩
  ·have h2':=h2
   unfold n7 at h2'
   rw [hlk k (by omega) e] at h1
   rw [hvn k e]
   refine (hG.obj k av' h1 h2).move K3 (fun _ hl=>⟨hl,?_⟩) (fun _ _=>rfl)
   unfold J5
   rcases E8 hl with h6 | h6
   ·rw [if_pos h6,if_pos h6]
   ·unfold RN at h6
    rw [hvn _ (by omega)]
 ·by_cases e:k=100000+nn
  ·subst e
   rw [hvd] at h4
   have h4:some w.heap.size=some g:=h4
   cases h4
   refine ⟨.inl h.below.size,by simp,fun o _ hd=>?_⟩
   have:=h.dlt _ _ hd
   omega
  ·have h2':=h2
   unfold n7 at h2'
   rw [hlk k (by omega) e] at h1
   rw [hvn k e] at h4 ⊢
   exact hG.blk k av' g h1 h2 h3 h4
 ·have h3':=h3
  have h4':=h4
  unfold n7 at h3' h4'
  by_cases e1:k=100000+nn
  ·have e2:k'≠100000+nn:=fun e=>hne (e1.trans e.symm)
   rw [hlk k' (by omega) e2] at h2
   rw [e1,hvd,hvn k' e2]
   intro h8 h9
   have:=(h.blk k' av2 g h2 h4 h7 h9).2.1
   have h8:some w.heap.size=some g:=h8
   cases h8
   omega
  ·rw [hlk k (by omega) e1] at h1
   by_cases e2:k'=100000+nn
   ·rw [e2,hvd,hvn k e1]
    intro h8 h9
    have:=(h.blk k av1 g h1 h3 h6 h8).2.1
    have h9:some w.heap.size=some g:=h9
    cases h9
    omega
   ·rw [hlk k' (by omega) e2] at h2
    rw [hvn k e1,hvn k' e2]
    exact h.disj k k' av1 av2 g h1 h2 h3 h4 h6 h7 hne
 ·have:=U0.hf n g h1
  rw [hvn _ (fun e=>hnf g (by rw [←e];exact h1))]
  exact h.fix n g h1
theorem b0O (nn:Nat) (hg:Gd w0 U0 nt ops o gs S) (hd:o.dst=some d) (hn:Nat.blt d nt=true) (h5:Nat.blt d 100000=true) {ty:TypeId} {fs:Array Field} {it:TypeInfo} {cs:Array Value} {sz:List Nat} {zs:List CV} (ho:o.op = .alloc ty) (hu:P.underlying ty=some (.struct fs)) (hi:P.info? ty=some it) (hz:it.zero=some (.agg cs)) (hsz:szO P fs.toList 0=some sz) (h0:zsO sz cs.toList=some zs) (hp:(sz.all fun z=>Nat.blt 0 z)=true) (h100:Nat.ble cs.size 100=true) (hbb:(Nat.blt nn 100000||(Nat.ble 350000 nn&&Nat.blt nn 400000))=true) (hnf:∀ v,U0.f (100000+nn)=some v→False):AOp P w0 U0 nt ops o gs [(nn,[])] S (Z0 nn zs 0++[(d,.bp nn 0 []),(100000+nn,.obj)]):=by
 intro s hs hN a w ⟨D,hv,h⟩ Q K hK
 rw [if_pos (hg s hs a w D hv h)]
 have hd5:=bL h5
 have hbn:BN nn:=by
  rcases Bool.or_eq_true_iff.1 hbb with h1 | h1
  ·exact .inl (bL h1)
  ·rw [Bool.and_eq_true] at h1;exact .inr ⟨Nat.le_of_ble_eq_true h1.1,bL h1.2⟩
 have hbn1:=hbn
 unfold BN at hbn1
 have he:(execOp a.eval o).run P w = .ok (.value (.pointer (some ⟨w.heap.size,0,none⟩))) (w.alloc (.cells cs ty)):=by
  simp [execOp,ho,Instr.alloc,zeroValue,typeInfo,hi,hz,I9,Value.cells]
 unfold Oper.wp
 rw [he,Oper.upon_value,hd]
 have hr:=(hN (nn,[]) (by simp)).nr
 have hG:=h.newboxN (d:=d) (av := .obj) hbn hnf hr (bL hn) hd5 (.inr rfl) (xs:=cs.toList) ty (fun e=>by cases e) (fun e=>by cases e)
 rw [Array.toArray_toList] at hG
 obtain ⟨segs,e1,e2,e3,e4,e5⟩:=J7 (U:=Us w0 U0 D) (w:=w.alloc (.cells cs ty)) h0
 suffices hfin:SimG w0 U0 nt (Z0 nn zs 0++((d,AV.bp nn 0 [])::(100000+nn,AV.obj)::s)) (a.put (some d) (.pointer (some ⟨w.heap.size,0,none⟩))) (w.alloc (.cells cs ty)) D (fun k=>if k=100000+nn then .pointer (some ⟨w.heap.size,0,none⟩) else hv k) by
  exact hK _ _ ⟨D,_,by rw [List.append_assoc];exact hfin⟩
 refine hG.addFs (n:=nn) (g:=w.heap.size) hbn (by rw [lN (by omega),lS]) (fun q av h1 h2=>?_) (by simp only [if_true];rfl) e4 e5 (fun i hi'=>?_) (fun c hc=>?_) (by rw [e1];have:=Nat.le_of_ble_eq_true h100;simpa using this)
 ·rw [lN (by unfold c8;omega),lN (by unfold c8;omega)] at h1
  have:=(hr _ _ h1).2.1
  rw [W6 h2] at this
  exact this rfl
 ·rw [e1] at hi' ⊢
  rw [Nat.zero_add]
  have:=D9 w (.cells cs ty)
  simp only [World.cell?,this]
  simp
 ·rw [List.all_eq_true] at hp
  have:c.size∈sz:=by rw [←e3];exact List.mem_map.2 ⟨c,hc,rfl⟩
  exact bL (hp _ this)
theorem zbt {P:Program} {w0:World} {U0:UX} {nt:Nat} {ops:Array Oper} {o:Oper} {S:Nat→Option AV} {gs:List Nat} {d:Nat} {ty:TypeId} {fs:Array Field} {it:TypeInfo} {cs:Array Value} {sz:List Nat} {zs:List CV} (nn:Nat) (p:Gd w0 U0 nt ops o gs S:=by exact gN rfl) (r:o.dst=some d:=by exact rfl) (t:Nat.blt d nt=true:=by exact rfl) (u:Nat.blt d 100000=true:=by exact rfl) (x:o.op = .alloc ty:=by exact rfl) (y:P.underlying ty=some (.struct fs):=by exact rfl) (A:P.info? ty=some it:=by exact rfl) (B:it.zero=some (.agg cs):=by exact rfl) (C:szO P fs.toList 0=some sz:=by exact rfl) (E:zsO sz cs.toList=some zs:=by exact rfl) (F:(sz.all fun z=>Nat.blt 0 z)=true:=by exact rfl) (G:Nat.ble cs.size 100=true:=by exact rfl) (H:(Nat.blt nn 100000||(Nat.ble 350000 nn&&Nat.blt nn 400000))=true:=by exact rfl) (hnf:∀ v,U0.f (100000+nn)=some v→False):AOp P w0 U0 nt ops o gs [(nn,[])] S (Z0 nn zs 0++[(d,.bp nn 0 []),(100000+nn,.obj)]):=b0O nn p r t u x y A B C E F G H hnf
theorem b8x (hg:Gd w0 U0 nt ops o gs S) (hd:o.dst=some d) (hn:Nat.blt d nt=true) (h5:Nat.blt d 100000=true) {x:Operand} {i:Int} {ty:TypeId} {n q p} (ho:o.op = .unOp .neg ty x) (hx:ev S x=some ⟨0,.sc (.int .i64 i),n,q,p⟩) (hb : -9223372036854775808<i∧i≤9223372036854775808):AOp P w0 U0 nt ops o (gs++rd x) [] S [(d,.val (.i (-i)))]:=
 d7 hg hd hn h5 (fun k hk=>List.mem_append_left _ hk) fun s hs a w D hv hm=>by
  have h1:=s6 hm (fun k hk=>hs k (List.mem_append_right _ hk)) hx
  have hw:IntKind.i64.wrap (-i) = -i:=by rw [IntKind.wrap_i64];omega
  generalize a.eval=ρ at h1 ⊢
  exact ⟨.int .i64 (-i),by simp [execOp,ho,h1,Op.unary,go_sem,hw],m7 rfl⟩
theorem zbq {P:Program} {w0:World} {U0:UX} {nt:Nat} {ops:Array Oper} {o:Oper} {S:Nat→Option AV} {gs:List Nat} {d:Nat} {x:Operand} {i:Int} {ty:TypeId} {n} {q} {p} (r:Gd w0 U0 nt ops o gs S:=by exact gN rfl) (t:o.dst=some d:=by exact rfl) (u:Nat.blt d nt=true:=by exact rfl) (v:Nat.blt d 100000=true:=by exact rfl) (y:o.op = .unOp .neg ty x:=by exact rfl) (z:ev S x=some ⟨0,.sc (.int .i64 i),n,q,p⟩:=by exact rfl) (A : -9223372036854775808<i∧i≤9223372036854775808:=by first | omega | (constructor<;>omega)):AOp P w0 U0 nt ops o (gs++rd x) [] S [(d,.val (.i (-i)))]:=b8x r t u v y z A
theorem a8z {t k e:TypeId} (hu:P.underlying t=some (.map k e)) (g:Nat) (w:World):(Op.equal t (.map (some g)) (.map none)).run P w = .ok false w:=by
 unfold Op.equal
 rw [show Op.maxDepth=9999+1 from rfl,Op.equalIn]
 simp [run_underlying hu]
theorem a8N (hg:Gd w0 U0 nt ops o gs S) (hd:o.dst=some d) (hn:Nat.blt d nt=true) (h5:Nat.blt d 100000=true) {x:Operand} {t1 t2 e k:TypeId} {n:Nat} {l:List CV} (ho:o.op = .binOp .eql t1 x (.const (.map none)) t2) (hu:P.underlying t1=some (.map k e)) (hx:ev S x=some (.mref n)) (hm':S n=some (.mp l)):AOp P w0 U0 nt ops o (gs++(rd x++[n])) [] S [(d,.val (.b false))]:=
 d7 hg hd hn h5 (fun k hk=>List.mem_append_left _ hk) fun s hs a w D hv hm=>by
  obtain ⟨hrn,h1,_⟩:RN n∧a.eval x=hv n∧(a.eval x).oneCell'=true:=j6 hm (fun k hk=>hs k (List.mem_append_right _ (List.mem_append_left _ hk))) hx
  have hok:n7 n:=by unfold RN at hrn;unfold n7;omega
  obtain ⟨g,es,clock,g1,g2,g3,g4,g5⟩:∃ g es clock,hv n = .map (some g)∧w.heap[g]?=some (.map es clock)∧Ents (Us w0 U0 D) w l es.toList∧(∀ e∈es,e.born<clock)∧(es.toList.map (fun e:MapEntry=>e.born)).Nodup:=hm.obj n _ ((hs n (by simp)).trans hm') hok
  rw [g1] at h1
  have hb:=a8z (P:=P) hu g w
  have hc:a.eval (.const (.map none)) = .map none:=rfl
  refine ⟨.bool false,?_,m7 rfl⟩
  generalize a.eval=ρ at h1 hc ⊢
  simp [execOp,ho,h1,hc,eqGuard,binOp,hb]
theorem zbr {P:Program} {w0:World} {U0:UX} {nt:Nat} {ops:Array Oper} {o:Oper} {S:Nat→Option AV} {gs:List Nat} {d:Nat} {x:Operand} {t1:TypeId} {t2:TypeId} {e:TypeId} {k:TypeId} {n:Nat} {l:List CV} (p:Gd w0 U0 nt ops o gs S:=by exact gN rfl) (q:o.dst=some d:=by exact rfl) (r:Nat.blt d nt=true:=by exact rfl) (t:Nat.blt d 100000=true:=by exact rfl) (u:o.op = .binOp .eql t1 x (.const (.map none)) t2:=by exact rfl) (v:P.underlying t1=some (.map k e):=by exact rfl) (y:ev S x=some (.mref n):=by exact rfl) (z:S n=some (.mp l):=by exact rfl):AOp P w0 U0 nt ops o (gs++(rd x++[n])) [] S [(d,.val (.b false))]:=a8N p q r t u v y z
theorem b0F (hg:Gd w0 U0 nt ops o gs S) (hd:o.dst=some d) (hn:Nat.blt d nt=true) (h5:Nat.blt d 100000=true) {x y:Operand} {t kt et:TypeId} {k k2:IntKind} {i z2:Int} {n:Nat} {l:List CV} {n' q' p'} (ho:o.op = .lookup t x y false) (hu:P.underlying t=some (.map kt et)) (huk:P.underlying kt=some (.int k)) (hz2:(P.info? et).map (·.zero)=some (some (.int k2 z2))) (hzc:a0x P et=some (.sc (.int k2 z2))) (hx:ev S x=some (.mref n)) (hy:ev S y=some ⟨0,.sc (.int k i),n',q',p'⟩) (hm':S n=some (.mp l)) (hik:C4 k l):AOp P w0 U0 nt ops o (gs++(rd x++(rd y++[n]))) [] S [(d,.val ((K6 k i l).getD (.sc (.int k2 z2))))]:=
 d7 hg hd hn h5 (fun k hk=>List.mem_append_left _ hk) fun s hs a w D hv hm=>by
  obtain ⟨hrn,h1,_⟩:RN n∧a.eval x=hv n∧(a.eval x).oneCell'=true:=j6 hm (fun k hk=>hs k (List.mem_append_right _ (List.mem_append_left _ hk))) hx
  have e2:=s6 hm (fun k hk=>hs k (List.mem_append_right _ (List.mem_append_right _ (List.mem_append_left _ hk)))) hy
  have hok:n7 n:=by unfold RN at hrn;unfold n7;omega
  obtain ⟨g,es,clock,g1,g2,g3,g4,g5⟩:∃ g es clock,hv n = .map (some g)∧w.heap[g]?=some (.map es clock)∧Ents (Us w0 U0 D) w l es.toList∧(∀ e∈es,e.born<clock)∧(es.toList.map (fun e:MapEntry=>e.born)).Nodup:=hm.obj n _ ((hs n (by simp)).trans hm') hok
  obtain ⟨it,zv,i1,i2,i3⟩:=P4 hzc
  have hck:=run_checkKey (P:=P) (w:=w) huk (k := .int k i) rfl es.isEmpty 9999
  have hge:=Go.MapKept.run_getObj_map (P:=P) g2
  rcases H5 0 g3 hik (i:=i) with ⟨f1,f2⟩ | ⟨j,e,c,f1,f2,f3,f4,f5,f6⟩
  ·have hfk:=run_findKey (P:=P) (w:=w) huk f1
   have hzv:(zeroValue et).run P w = .ok zv w:=by simp [zeroValue,typeInfo,i1,i2]
   rw [i1,Option.map_some,i2] at hz2
   injection hz2 with hz2
   injection hz2 with hz2
   refine ⟨zv,?_,?_⟩
   ·rw [g1] at h1
    generalize a.eval=ρ at h1 e2 ⊢
    simp [execOp,ho,Instr.lookup,run_underlying hu,h1,e2,hge,hck,hfk,hzv]
   ·rw [f2,hz2]
    exact m7 rfl
  ·have hfk:=run_findKey (P:=P) (w:=w) huk f1
   refine ⟨e.val,?_,?_⟩
   ·rw [g1] at h1
    generalize a.eval=ρ at h1 e2 ⊢
    simp [execOp,ho,Instr.lookup,run_underlying hu,h1,e2,hge,hck,hfk]
   ·rw [f6]
    exact i7 f4
theorem zbn {P:Program} {w0:World} {U0:UX} {nt:Nat} {ops:Array Oper} {o:Oper} {S:Nat→Option AV} {gs:List Nat} {d:Nat} {x:Operand} {y:Operand} {t:TypeId} {kt:TypeId} {et:TypeId} {k:IntKind} {k2:IntKind} {i:Int} {z2:Int} {n:Nat} {l:List CV} {n'} {q'} {p'} (p:Gd w0 U0 nt ops o gs S:=by exact gN rfl) (q:o.dst=some d:=by exact rfl) (r:Nat.blt d nt=true:=by exact rfl) (u:Nat.blt d 100000=true:=by exact rfl) (v:o.op = .lookup t x y false:=by exact rfl) (z:P.underlying t=some (.map kt et):=by exact rfl) (A:P.underlying kt=some (.int k):=by exact rfl) (B:(P.info? et).map (·.zero)=some (some (.int k2 z2)):=by exact rfl) (C:a0x P et=some (.sc (.int k2 z2)):=by exact rfl) (E:ev S x=some (.mref n):=by exact rfl) (F:ev S y=some ⟨0,.sc (.int k i),n',q',p'⟩:=by exact rfl) (G:S n=some (.mp l):=by exact rfl) (H:C4 k l):AOp P w0 U0 nt ops o (gs++(rd x++(rd y++[n]))) [] S [(d,.val ((K6 k i l).getD (.sc (.int k2 z2))))]:=b0F p q r u v z A B C E F G H
theorem a5c (hg:Gd w0 U0 nt ops o gs S) (hd:o.dst=some d) (hn:Nat.blt d nt=true) (h5:Nat.blt d 100000=true) {x:Operand} {t1 t2 e k:TypeId} {n:Nat} {c:CV} {m q p} (ho:o.op = .binOp .eql t1 x (.const (.map none)) t2) (hu:P.underlying t1=some (.map k e)) (hx:ev S x=some (.mref n)) (hm':S n=some ⟨17,c,m,q,p⟩):AOp P w0 U0 nt ops o (gs++(rd x++[n])) [] S [(d,.val (.b true))]:=
 d7 hg hd hn h5 (fun k hk=>List.mem_append_left _ hk) fun s hs a w D hv hm=>by
  obtain ⟨hrn,h1,_⟩:RN n∧a.eval x=hv n∧(a.eval x).oneCell'=true:=j6 hm (fun k hk=>hs k (List.mem_append_right _ (List.mem_append_left _ hk))) hx
  have hok:n7 n:=by unfold RN at hrn;unfold n7;omega
  have g1:hv n = .map none:=(show OX _ _ _ _ from hm.obj n _ ((hs n (by simp)).trans hm') hok).1.1 rfl
  rw [g1] at h1
  have hb:=a1i (P:=P) hu w
  have hc:a.eval (.const (.map none)) = .map none:=rfl
  refine ⟨.bool true,?_,m7 rfl⟩
  generalize a.eval=ρ at h1 hc ⊢
  simp [execOp,ho,h1,hc,eqGuard,binOp,hb]
theorem zbl {P:Program} {w0:World} {U0:UX} {nt:Nat} {ops:Array Oper} {o:Oper} {S:Nat→Option AV} {gs:List Nat} {d:Nat} {x:Operand} {t1:TypeId} {t2:TypeId} {e:TypeId} {k:TypeId} {n:Nat} {c:CV} {m} {q} {p} (r:Gd w0 U0 nt ops o gs S:=by exact gN rfl) (t:o.dst=some d:=by exact rfl) (u:Nat.blt d nt=true:=by exact rfl) (v:Nat.blt d 100000=true:=by exact rfl) (y:o.op = .binOp .eql t1 x (.const (.map none)) t2:=by exact rfl) (z:P.underlying t1=some (.map k e):=by exact rfl) (A:ev S x=some (.mref n):=by exact rfl) (B:S n=some ⟨17,c,m,q,p⟩:=by exact rfl):AOp P w0 U0 nt ops o (gs++(rd x++[n])) [] S [(d,.val (.b true))]:=a5c r t u v y z A B
theorem b4W (k n:Nat) (hk:Nat.ble 500000 k=true) (hn:(Nat.ble 200000 n&&Nat.blt n 400000)=true) (hs:look s k=some (.val (.sc (.map none)))) (hr:D1 s [(n,[])]=true) (hnk:T3 s n=true):Wk w0 U0 nt s ((k,.mref n)::(n,.nmap)::s):=by
 rintro a w ⟨D,hv,h⟩
 have hk5:=Nat.le_of_ble_eq_true hk
 have hrn:=rnB hn
 have hrn':RN n:=RW.rn hrn
 unfold RW at hrn
 have hnk':look s n=none:=by
  cases e:look s n with
  | none=>rfl
  | some av =>
   unfold T3 at hnk
   rw [List.all_eq_true] at hnk
   have:=hnk _ (C7 e)
   simp [Nat.beq_refl] at this
 have hnr:a0n s n:=(y9 hr (n,[]) (by simp)).nr
 obtain ⟨hv',hhv⟩:∃ hv':Nat→Value,hv'=fun x=>if x=n then .map none else hv x:=⟨_,rfl⟩
 have hvn:∀ x,x≠n→hv' x=hv x:=fun x hx=>by rw [hhv];simp only [if_neg hx]
 have hvd:hv' n = .map none:=by rw [hhv];simp
 obtain ⟨s',hs'⟩:∃ s',s'=(k,AV.mref n)::(n,AV.nmap)::s:=⟨_,rfl⟩
 rw [←hs']
 have hlk:∀ x,x≠k→x≠n→look s' x=look s x:=fun x h1 h2=>by rw [hs',lN (Ne.symm h1),lN (Ne.symm h2)]
 have hlkk:look s' k=some (.mref n):=by rw [hs',lS]
 have hlkn:look s' n=some .nmap:=by rw [hs',lN (by omega),lS]
 have hl:∀ q e,y6 s' q e↔y6 s q e:=fun q e=>by
  unfold y6
  by_cases e1:q=k
  ·omega
  ·by_cases e2:q=n
   ·subst e2
    rw [hlkn,hnk']
    constructor<;>(rintro ⟨h1,_⟩;cases h1)
   ·rw [hlk q e1 e2]
 have hl2:b6 s'=b6 s:=by funext q;simp only [b6,hl]
 have hmv:∀ {k' av v},look s k'=some av→AVRep (Us w0 U0 D) w hv (b6 s) av v→AVRep (Us w0 U0 D) w hv' (b6 s) av v:=fun {k' av v} h1 h2 =>
  h2.move (fun _ _ _ h1 h2=>⟨h1,h2⟩) (fun _ h=>h) fun h3=>hvn _ (a4J hrn' (hnr k' av h1).1 h3)
 refine ⟨D,hv',h.below,h.dfr,h.size,fun d av g1 g2=>?_,fun m o av g1 g2 g3 g4=>?_,fun m o o' av av' g1 g2 g3 g4 g5=>?_,fun k' av g1 g2=>?_,fun k' av g g1 g2 g3 g4=>?_,fun k' k2 av av' g g1 g2 g3 g4 g5 g6 g7 g8=>?_,fun k' v g1=>?_,h.dlt⟩
 ·rw [hlk d (by omega) (by omega)] at g1
  rw [hl2]
  obtain ⟨v,h1,h2⟩:=h.slot d av g1 g2
  exact ⟨v,h1,hmv g1 h2⟩
 ·have hbk:=F4 g4
  unfold n7 at hbk
  unfold BN at g4
  rw [hlk (100000+m) (by omega) (by omega)] at g3
  rw [hl2,hvn (100000+m) (by omega)]
  by_cases e:c8 m o=k
  ·rw [e,hlkk] at g1
   cases g1
   obtain ⟨v,h1,h2,h3⟩:=h.fld m o _ (by rw [e];exact hs) g2 g3 g4
   obtain ⟨h4,_⟩:=b5.1 h1.1
   subst h4
   exact ⟨.map none,⟨hrn',hvd.symm,rfl⟩,rfl,h3⟩
  ·rw [hlk _ e (by unfold c8;omega)] at g1
   obtain ⟨v,h1,h2,h3⟩:=h.fld m o av g1 g2 g3 g4
   exact ⟨v,hmv g1 h1,h2,h3⟩
 ·have conv:∀ o (av:AV),look s' (c8 m o)=some av→∃ av',look s (c8 m o)=some av'∧av'.sz=av.sz:=fun o av f1=>by
   by_cases e:c8 m o=k
   ·rw [e,hlkk] at f1
    cases f1
    exact ⟨.val (.sc (.map none)),by rw [e];exact hs,rfl⟩
   ·rw [hlk _ e (by unfold c8;omega)] at f1
    exact ⟨av,f1,rfl⟩
  obtain ⟨a1,b1,c1⟩:=conv o av g1
  obtain ⟨a2,b2,c2⟩:=conv o' av' g2
  rw [←c1]
  exact h.fdis m o o' a1 a2 b1 b2 g3 g4 g5
 ·unfold n7 at g2
  rw [hl2]
  by_cases e:k'=n
  ·subst e
   rw [hlkn] at g1
   cases g1
   rw [hvd]
   exact ⟨⟨fun _=>rfl,(fun e=>by cases e)⟩,(fun e=>by cases e),(fun e=>by cases e),(fun e=>by cases e)⟩
  ·rw [hlk k' (by omega) e] at g1
   rw [hvn k' e]
   exact (h.obj k' av g1 g2).move (fun _ _ _ h1 h2=>⟨h1,h2⟩) (fun ht hl=>⟨hl,by
    unfold J5
    rw [hvn _ (hnr k' av g1).1]⟩) (fun _ _=>rfl)
 ·unfold n7 at g2
  by_cases e:k'=n
  ·subst e
   rw [hvd] at g4
   cases g4
  ·rw [hlk k' (by omega) e] at g1
   rw [hvn k' e] at g4 ⊢
   exact h.blk k' av g g1 g2 g3 g4
 ·unfold n7 at g3 g4
  by_cases e:k'=n
  ·subst e
   rw [hvd] at g8
   cases g8
  ·by_cases e2:k2=n
   ·subst e2
    rw [hvd]
    intro h9;cases h9
   ·rw [hlk k' (by omega) e] at g1
    rw [hlk k2 (by omega) e2] at g2
    rw [hvn k' e] at g8
    rw [hvn k2 e2]
    exact h.disj k' k2 av av' g g1 g2 g3 g4 g5 g6 g7 g8
 ·have:=U0.hf k' v g1
  rw [hvn k' (by omega)]
  exact h.fix k' v g1
end
section
variable {α:Type} {P:Program}
end
section
variable {P:Program} {w0:World} {U0:UX} {nt:Nat} {ops:Array Oper} {o:Oper} {S:Nat→Option AV} {gs:List Nat} {d:Nat} {s:AS} {a:Act} {w:World} {D:Nat→Nat→Prop} {hv:Nat→Value}
end
def KpX (n0:Nat) (X:Nat→Prop) (V V':World):Prop:=∀ b,b<n0→¬ X b→V'.heap[b]?=V.heap[b]?
def b7K:List Oper→Option (List (Nat×Nat))
 | []=>some []
 | o::os=>match o.dst,o.op,o.guard,b7K os with
  | some d,.assign (.tmp t),none,some r=>some ((d,t)::r)
  | _,_,_,_=>none
def a6T:List (Nat×Nat)→Array Value→Array Value
 | [],tm=>tm
 | (d,t)::r,tm=>a6T r (tm.setIfInBounds d (tm.getD t undef))
def a7b:List Tmp→List Value→Array Value→Array Value
 | p::ps,v::vs,tm=>a7b ps vs (tm.setIfInBounds p v)
 | _,_,tm=>tm
theorem a0G:∀ (ps:List Tmp) (vs:List Value) (tm:Array Value),(ps.toArray.zip vs.toArray).foldl (fun t (p,v)=>t.setIfInBounds p v) tm=a7b ps vs tm:=by
 intro ps vs tm
 rw [List.zip_toArray,List.foldl_toArray]
 induction ps generalizing vs tm with
 | nil=>cases vs<;>rfl
 | cons p ps ih =>
  cases vs with
  | nil=>rfl
  | cons v vs=>rw [List.zip_cons_cons,List.foldl_cons];exact ih vs _
theorem a0K {P:Program} {ro:Option Nat} {ops:Array Oper} {Q:Exit→Act→World→Prop}:∀ {l:List Oper} {al:List (Nat×Nat)} {tm:Array Value} {ds:List Deferred} {w:World},b7K l=some al→Q .normal ⟨a6T al tm,ds⟩ w→wpListIn (s9 ro) 1 P ops Q l ⟨tm,ds⟩ w
 | [],al,tm,ds,w,h,hq=>by cases h;exact hq
 | o::os,al,tm,ds,w,h,hq=>by
  rw [b7K] at h
  split at h
  ·rename_i d t r h1 h2 h3 h4
   cases h
   unfold wpListIn
   rw [if_pos (by simp [Region.wanted,h3])]
   refine ⟨fun _ _=>trivial,?_⟩
   have hs:(o.semAt (s9 ro).round (Act.eval ⟨tm,ds⟩))=pure (.value (tm.getD t undef)):=by
    rw [Oper.semAt_eq _ _ _ (fun c hc=>by rw [h2] at hc;cases hc)]
    simp only [execOp,h2]
    rfl
   rw [hs]
   show wpListIn _ _ _ _ _ _ _ _
   rw [h1]
   exact a0K h4 hq
  ·cases h
section
variable {P:Program} {w0:World} {U0:UX} {nt:Nat} {s:AS}
theorem a6b {n m:Nat} {c:Code} {Q:Exit→Act→World→Prop} {a:Act} {w:World} (h:c.wpIn Fence.wide n P Q a w):c.wpIn Fence.wide m P Q a w:=
 fun b k cs h1 h2 _=>h b k cs h1 h2 (room_wide _)
end
section
variable {P:Program} {w0:World} {U0:UX} {nt:Nat} {s:AS}
end
section
variable {P:Program} {w0:World} {U0:UX} {nt:Nat} {ops:Array Oper} {o:Oper} {S:Nat→Option AV} {gs:List Nat} {d:Nat} {s:AS} {a:Act} {w:World} {D:Nat→Nat→Prop} {hv:Nat→Value}
end
section
variable {P:Program} {w0:World} {U0:UX} {nt:Nat} {s:AS} {a:Act} {w:World} {D:Nat→Nat→Prop} {hv:Nat→Value}
end
section
variable {α:Type} {P:Program}
end
section
variable {P:Program} {w0:World} {U0:UX} {nt:Nat} {s:AS} {a:Act} {W:World} {D:Nat→Nat→Prop} {hv:Nat→Value}
end
section
variable {P:Program} {w0:World} {U0:UX} {nt:Nat} {s:AS}
end
section
variable {P:Program} {nt:Nat}
end
end Go.Proofs.YtekboofbedakcaaGreat
namespace Go.Proofs.YtekboofbedakcaaGreat
open Go.RowKit
set_option linter.unusedVariables false
set_option linter.unusedSimpArgs false
section
variable {P:Program} {w0:World} {U0:UX} {nt:Nat} {ops:Array Oper} {o:Oper} {S:Nat→Option AV} {gs:List Nat} {d:Nat} {s:AS} {a:Act} {w:World} {D:Nat→Nat→Prop} {hv:Nat→Value}
end
end Go.Proofs.YtekboofbedakcaaGreat
namespace Go.Proofs.YtekboofbedakcaaGreat
open Go.RowKit
set_option linter.unusedVariables false
set_option linter.unusedSimpArgs false
set_option maxRecDepth 100000
end Go.Proofs.YtekboofbedakcaaGreat
namespace Go.Proofs.YtekboofbedakcaaGreat
open Go.RowKit
set_option linter.unusedVariables false
set_option linter.unusedSimpArgs false
section
variable {P:Program} {w0:World} {U0:UX} {nt:Nat} {ops:Array Oper} {o:Oper} {S:Nat→Option AV} {gs:List Nat} {d:Nat} {s:AS} {a:Act} {w:World} {D:Nat→Nat→Prop} {hv:Nat→Value}
def topX:UX:=⟨fun _ _=>True,fun _=>False,fun _=>none,fun _ _ h=>by cases h⟩
end
end Go.Proofs.YtekboofbedakcaaGreat
namespace Go.Proofs.YtekboofbedakcaaGreat
open Go.RowKit Go.MapKept
set_option linter.unusedVariables false
set_option linter.unusedSimpArgs false
section
variable {P:Program} {w0:World} {U0:UX} {nt:Nat} {s:AS} {a:Act} {w:World} {D:Nat→Nat→Prop} {hv:Nat→Value}
abbrev L8 (l:Nat):CV := .sc (.func (.yield l) #[] #[])
def b9t (P:Program) (w0:World) (U0:UX) (nt:Nat) (ops:Array Oper) (o:Oper) (s e:AS):Prop:=
 ∀ (M:Md) a w,Sim w0 U0 nt s a w→∀ (Q:Exit→Act→World→Prop) (K:Act→World→Prop),(∀ a' w',Sim w0 U0 nt (e++s) a' w'→K (wdA a' M.ds) w') →
  if Region.wanted o (yielded ops (wdA a M.ds).tmps)=true then o.wpIn (s9 M.r) 1 P (wdA a M.ds) w K Q else (∀ f,o.about P w (wdA a M.ds).eval=some f→(s9 M.r).fn f)∧K ((wdA a M.ds).put o.dst undef) w
def b6z (P:Program) (w0:World) (U0:UX) (nt:Nat) (ops:Array Oper) (o:Oper) (R:List Nat) (N:List (Nat×List Nat)) (S:Nat→Option AV) (e:AS):Prop:=
 ∀ s,(∀ k∈R,look s k=S k)→(∀ q∈N,NoRefE s q)→b9t P w0 U0 nt ops o s e
def a9D (P:Program) (w0:World) (U0:UX) (nt:Nat) (ops:Array Oper):List Oper→AS→(AS→Prop)→Prop
 | [],s,K=>K s
 | o::os,s,K=>∃ (R:List Nat) (N:List (Nat×List Nat)) (e:AS),b6z P w0 U0 nt ops o R N (look s) e∧D1 s N=true∧a9D P w0 U0 nt ops os (e++s) K
theorem AOp.y {ops:Array Oper} {o:Oper} {R:List Nat} {N:List (Nat×List Nat)} {S:Nat→Option AV} {e:AS} (h:AOp P w0 U0 nt ops o R N S e):b6z P w0 U0 nt ops o R N S e:=fun s h1 h2 M a w hs Q K hK=>a9n (h s h1 h2) hs hK
theorem J3 {ops:Array Oper} {o:Oper} {os:List Oper} {s e:AS} {K:AS→Prop} {R:List Nat} {N:List (Nat×List Nat)} (h1:b6z P w0 U0 nt ops o R N (look s) e) (h2:D1 s N=true) (h3:a9D P w0 U0 nt ops os (e++s) K):a9D P w0 U0 nt ops (o::os) s K:=⟨R,N,e,h1,h2,h3⟩
theorem a1h {ops:Array Oper} {M:Md} {Q:Exit→Act→World→Prop}:∀ {l:List Oper} {s:AS} {K:AS→Prop},a9D P w0 U0 nt ops l s K→(∀ s' a w,K s'→Sim w0 U0 nt s' a w→Q .normal (wdA a M.ds) w)→∀ a w,Sim w0 U0 nt s a w→wpListIn (s9 M.r) 1 P ops Q l (wdA a M.ds) w
 | [],s,K,h,hK,a,w,hs=>hK s a w h hs
 | o::os,s,K,⟨R,N,e,h1,h2,h3⟩,hK,a,w,hs=>by
  unfold wpListIn
  exact h1 s (fun _ _=>rfl) (y9 h2) M a w hs _ _ (fun a' w' hs'=>a1h h3 hK a' w' hs')
theorem K5 {id:Nat} {l:List Oper} {Q:Exit→AS→Prop} {s:AS} (h:a9D P w0 U0 nt l.toArray l s fun s'=>Q .normal s'):AWp P w0 U0 nt (.region id l.toArray false) Q s:=
 fun M a w hs=>wpIn_region_lit (a1h (M:=M) h (fun s' a w h1 h2=>⟨a,rfl,s',h1,h2⟩) a w hs)
theorem a1C {m m':Nat} {ro:Option Nat} {l:Nat} {f:FuncId} {tmps:Array Value} {assign body:Code} {R:Ending→World→Prop} (h:RoundIn Fence.wide m P l f tmps assign body w R):RoundIn (s9 ro) m' P l f tmps assign body w R:=
 ⟨trivial,fun c cs _=>by
  obtain ⟨e,w',h1,h2⟩:=h.2 c cs (room_wide _)
  refine ⟨e,w',h1,?_⟩
  cases e<;>exact h2⟩
variable {ops:Array Oper} {o:Oper} {S:Nat→Option AV} {gs:List Nat} {d:Nat}
end
end Go.Proofs.YtekboofbedakcaaGreat
namespace Go.Proofs.YtekboofbedakcaaGreat
open Go.RowKit Go.MapKept
open Go.ChangeMaps (setBlock)
set_option linter.unusedVariables false
set_option linter.unusedSimpArgs false
section
variable {P:Program} {w0:World} {U0:UX} {nt:Nat} {ops:Array Oper} {o:Oper} {S:Nat→Option AV} {gs:List Nat} {d:Nat} {s:AS} {a:Act} {w:World} {D:Nat→Nat→Prop} {hv:Nat→Value}
end
end Go.Proofs.YtekboofbedakcaaGreat
namespace Go.Proofs.YtekboofbedakcaaGreat
open Go.RowKit Go.MapKept
set_option linter.unusedVariables false
set_option linter.unusedSimpArgs false
set_option maxRecDepth 100000
section
variable {P:Program} {w0:World} {U0:UX} {nt:Nat} {ops:Array Oper} {o:Oper} {S:Nat→Option AV} {gs:List Nat} {d:Nat} {s:AS} {a:Act} {w:World} {D:Nat→Nat→Prop} {hv:Nat→Value}
theorem b5y {U:Nat→Nat→Prop} {w:World} {v:Value} {et:TypeId} (hz2:(P.info? et).map (·.zero)=some (some (.agg #[.int .i64 0,.slice none 0 0]))) (hr:Rep U w (.row [.i 0,.lst []]) v.cells.toList) (hh:∃ it,P.info? et=some it∧it.zero=some v):VRep U w (.row [.i 0,.lst []]) v:=by
 obtain ⟨it,h1,h2⟩:=hh
 rw [h1,Option.map_some,h2] at hz2
 injection hz2 with hz2
 injection hz2 with hz2
 subst hz2
 exact ⟨_,rfl,hr⟩
end
end Go.Proofs.YtekboofbedakcaaGreat
namespace Go.Proofs.YtekboofbedakcaaGreat
open Go.RowKit Go.MapKept
set_option linter.unusedVariables false
set_option linter.unusedSimpArgs false
def QUp (q:(Nat→Nat→Prop)→World→Prop):Prop:=∀ (U V:Nat→Nat→Prop) (w w':World),q U w→Below w.heap.size w w'→(∀ b o,b<w.heap.size→U b o→V b o)→q V w'
def Y7 (P:Program) (q:(Nat→Nat→Prop)→World→Prop) (f:FuncId) (args:List CV) (r:AV):Prop:=
 b4m P f∧(r.t=0∨r.t=4)∧r.n=0∧∀ (U:Nat→Nat→Prop) (w:World) (vs:List Value),q U w→VReps U w args vs →
  Calls P f vs.toArray w fun e w'=>∃ v,e = .returned v∧RR (fun b o=>U b o∨w.heap.size≤b) w' r v∧Below w.heap.size w w'
def a6c (P:Program) (q:(Nat→Nat→Prop)→World→Prop) (fc:CV) (args:List CV) (r:AV):Prop:=∃ f n l,fc = .fn f n l∧Y7 P q f (l.take n++(args++l.drop n)) r
section
variable {P:Program} {w0:World} {U0:UX} {nt:Nat} {ops:Array Oper} {o:Oper} {S:Nat→Option AV} {gs:List Nat} {d:Nat} {s:AS} {a:Act} {w:World} {D:Nat→Nat→Prop} {hv:Nat→Value} {q:(Nat→Nat→Prop)→World→Prop}
theorem SimG.atQ {W:World} (h:SimG w0 U0 nt s a w D hv) (hQ:QUp q) (hW:Hw W w0 U0) (hq:q U0.m w0):q (Us w0 U0 D) w:=
 hQ _ _ _ _ hq (h.below.below hW.2) fun b o hb hu => .inl ⟨hb,hu,hW.2 b⟩
theorem b6i {W:World} (hQ:QUp q) (hW:Hw W w0 U0) (hq:q U0.m w0) {f:FuncId} {xs:Array Operand} {ts:Array TypeId} {cs:List CV} {r:AV} (hg:Gd w0 U0 nt ops o gs S) (hd:o.dst=some d) (hn:Nat.blt d nt=true) (h5:Nat.blt d 100000=true)
  (ho:o.op = .call { callee := .value (.func f),args:=xs,argTypes:=ts }) (hx:P7 S xs.toList=some cs) (hc:Y7 P q f cs r):AOp P w0 U0 nt ops o (gs++rdl xs.toList) [] S [(d,r)]:=by
 intro s hs _ a w ⟨D,hv,h⟩ Q K hK
 rw [if_pos (hg s (fun k hk=>hs k (List.mem_append_left _ hk)) a w D hv h)]
 have hargs:=A8 h (fun k hk=>hs k (List.mem_append_right _ hk)) hx
 obtain ⟨h1,h2,h3,h4⟩:=hc
 have hcall:=h4 _ w _ (h.atQ hQ hW hq) hargs
 have he:(execOp a.eval o).run P w = .ok (.enter f (xs.toList.map a.eval).toArray) w:=by
  have hf:a.eval (.func f) = .func (.func f) #[] #[]:=rfl
  have hen:=h1 (xs.map a.eval) w
  have harr:(xs.toList.map a.eval).toArray=xs.map a.eval:=by apply Array.ext';simp
  rw [harr]
  generalize a.eval=ρ at hf hen ⊢
  simp [execOp,ho,resolve,invoke,Deferred.ofValue,hf,hen]
 unfold Oper.wp
 rw [he,Oper.upon_enter]
 refine hcall.mono ?_
 rintro e w' ⟨v,rfl,h6,h7⟩
 rw [hd]
 refine hK _ _ ⟨Dn D w w',hv,(h.growN h7).put (bL hn) (bL h5) (J6 h2 h3 (S4 rfl h7.size h.below.size h6))⟩
theorem zr {P:Program} {w0:World} {U0:UX} {nt:Nat} {ops:Array Oper} {o:Oper} {S:Nat→Option AV} {gs:List Nat} {d:Nat} {q:(Nat→Nat→Prop)→World→Prop} {W:World} {f:FuncId} {xs:Array Operand} {ts:Array TypeId} {cs:List CV} {r:AV} (hQ:QUp q) (hW:Hw W w0 U0) (hq:q U0.m w0) (p:Gd w0 U0 nt ops o gs S:=by exact gN rfl) (t:o.dst=some d:=by exact rfl) (u:Nat.blt d nt=true:=by exact rfl) (x:Nat.blt d 100000=true:=by exact rfl) (y:o.op = .call { callee := .value (.func f),args:=xs,argTypes:=ts }:=by exact rfl) (z:P7 S xs.toList=some cs:=by exact rfl) (A:Y7 P q f cs r):AOp P w0 U0 nt ops o (gs++rdl xs.toList) [] S [(d,r)]:=b6i hQ hW hq p t u x y z A
theorem b2p {W:World} (hQ:QUp q) (hW:Hw W w0 U0) (hq:q U0.m w0) {x:Operand} {xs:Array Operand} {ts:Array TypeId} {fc:CV} {cs:List CV} {r:AV} {n q' p} (hg:Gd w0 U0 nt ops o gs S) (hd:o.dst=some d) (hn:Nat.blt d nt=true) (h5:Nat.blt d 100000=true)
  (ho:o.op = .call { callee := .value x,args:=xs,argTypes:=ts }) (hf:ev S x=some ⟨0,fc,n,q',p⟩) (hx:P7 S xs.toList=some cs) (hc:a6c P q fc cs r):AOp P w0 U0 nt ops o (gs++(rd x++rdl xs.toList)) [] S [(d,r)]:=by
 intro s hs _ a w ⟨D,hv,h⟩ Q K hK
 rw [if_pos (hg s (fun k hk=>hs k (List.mem_append_left _ hk)) a w D hv h)]
 have hargs:=A8 h (fun k hk=>hs k (List.mem_append_right _ (List.mem_append_right _ hk))) hx
 have hfv:=C2 h (fun k hk=>hs k (List.mem_append_right _ (List.mem_append_left _ hk))) hf
 obtain ⟨f,m,l,rfl,h1,h2,h3,h4⟩:=hc
 obtain ⟨ys,zs,e1,e2,e3,e4⟩:=P9.1 hfv
 obtain ⟨s1,s2⟩:=VReps.split (N7 e4 e3)
 rw [e2] at s1 s2
 have hcall:=h4 _ w _ (h.atQ hQ hW hq) (s1.append (hargs.append s2))
 have he:(execOp a.eval o).run P w = .ok (.enter f (ys++(xs.toList.map a.eval++zs)).toArray) w:=by
  have hen:=h1 (ys.toArray++(xs.map a.eval++zs.toArray)) w
  have harr:(ys++(xs.toList.map a.eval++zs)).toArray=ys.toArray++(xs.map a.eval++zs.toArray):=by apply Array.ext';simp
  rw [harr]
  generalize a.eval=ρ at e1 hen ⊢
  simp [execOp,ho,resolve,invoke,Deferred.ofValue,e1,hen]
 unfold Oper.wp
 rw [he,Oper.upon_enter]
 refine hcall.mono ?_
 rintro e w' ⟨v,rfl,h6,h7⟩
 rw [hd]
 refine hK _ _ ⟨Dn D w w',hv,(h.growN h7).put (bL hn) (bL h5) (J6 h2 h3 (S4 rfl h7.size h.below.size h6))⟩
theorem zbA {P:Program} {w0:World} {U0:UX} {nt:Nat} {ops:Array Oper} {o:Oper} {S:Nat→Option AV} {gs:List Nat} {d:Nat} {q:(Nat→Nat→Prop)→World→Prop} {W:World} {x:Operand} {xs:Array Operand} {ts:Array TypeId} {fc:CV} {cs:List CV} {r:AV} {n} {q'} {p} (hQ:QUp q) (hW:Hw W w0 U0) (hq:q U0.m w0) (t:Gd w0 U0 nt ops o gs S:=by exact gN rfl) (u:o.dst=some d:=by exact rfl) (y:Nat.blt d nt=true:=by exact rfl) (z:Nat.blt d 100000=true:=by exact rfl) (A:o.op = .call { callee := .value x,args:=xs,argTypes:=ts }:=by exact rfl) (B:ev S x=some ⟨0,fc,n,q',p⟩:=by exact rfl) (C:P7 S xs.toList=some cs:=by exact rfl) (E:a6c P q fc cs r):AOp P w0 U0 nt ops o (gs++(rd x++rdl xs.toList)) [] S [(d,r)]:=b2p hQ hW hq t u y z A B C E
def a7N (b g:Nat) (l:List CV) (U:Nat→Nat→Prop) (w:World):Prop:=
 w.cell? ⟨b,0,none⟩=some (.map (some g))∧∃ es clock,w.heap[g]?=some (.map es clock)∧Ents U w l es.toList
theorem a2t (b g:Nat) (l:List CV):QUp (a7N b g l):=by
 rintro U V w w' ⟨h1,es,clock,h2,h3⟩ hb hU
 have hcell:∀ (b o:Nat) (v:Value),w.cell? ⟨b,o,none⟩=some v→b<w.heap.size∧w'.cell? ⟨b,o,none⟩=some v:=fun b o v hc=>by
  have hlt:=World.block_lt_of_cell? w _ hc
  refine ⟨hlt,?_⟩
  have:=hb.block b hlt
  simp only [World.cell?] at hc ⊢
  rw [this]
  exact hc
 have hg:g<w.heap.size:=by
  rcases Nat.lt_or_ge g w.heap.size with h | h
  ·exact h
  ·rw [Array.getElem?_eq_none h] at h2;cases h2
 exact ⟨(hcell _ _ _ h1).2,es,clock,by rw [hb.block g hg];exact h2,h3.keep fun b o v hu hc=>⟨hU b o (hcell b o v hc).1 hu,(hcell b o v hc).2⟩⟩
theorem b4Z {W:World} {b g:Nat} {l:List CV} (hW:Hw W w0 U0) (hq:a7N b g l U0.m w0) (hg:Gd w0 U0 nt ops o gs S) (hd:o.dst=some d) (hn:Nat.blt d nt=true) (h5:Nat.blt d 100000=true) {x:Operand} {ty:TypeId} {ds:TypeDesc} {n q p} (ho:o.op = .load ty x) (hu:P.underlying ty=some ds) (hi:(P.info? ty).map (·.size)=some 1) (hx:ev S x=some ⟨0,.sc (.pointer (some ⟨b,0,none⟩)),n,q,p⟩) (hk:K1 ds=false):AOp P w0 U0 nt ops o (gs++rd x) [] S [(d,.val (.sc (.map (some g))))]:=
 d7 hg hd hn h5 (fun k hk=>List.mem_append_left _ hk) fun s hs a w D hv hm=>by
  have h1:=s6 hm (fun k hk=>hs k (List.mem_append_right _ hk)) hx
  obtain ⟨h2,_⟩:=hm.atQ (a2t b g l) hW hq
  obtain ⟨v,h4,h6,_⟩:=q8 (c := .sc (.map (some g))) (U:=Us w0 U0 D) (w:=w) (b:=b) (off:=0) (xs:=[.map (some g)]) hu hi hk rfl (t7.2 ⟨rfl,rfl⟩) (fun i hi=>by
   have:i=0:=by simp at hi;omega
   subst this
   exact h2)
  refine ⟨v,?_,i7 h6⟩
  generalize a.eval=ρ at h1 ⊢
  simp [execOp,ho,Instr.loadAt,Instr.sureAddr,h1,h4]
theorem zby {P:Program} {w0:World} {U0:UX} {nt:Nat} {ops:Array Oper} {o:Oper} {S:Nat→Option AV} {gs:List Nat} {d:Nat} {q} {W:World} {b:Nat} {g:Nat} {l:List CV} {x:Operand} {ty:TypeId} {ds:TypeDesc} {n} {p} (hW:Hw W w0 U0) (hq:a7N b g l U0.m w0) (r:Gd w0 U0 nt ops o gs S:=by exact gN rfl) (t:o.dst=some d:=by exact rfl) (u:Nat.blt d nt=true:=by exact rfl) (y:Nat.blt d 100000=true:=by exact rfl) (z:o.op = .load ty x:=by exact rfl) (A:P.underlying ty=some ds:=by exact rfl) (B:(P.info? ty).map (·.size)=some 1:=by exact rfl) (C:ev S x=some ⟨0,.sc (.pointer (some ⟨b,0,none⟩)),n,q,p⟩:=by exact rfl) (E:K1 ds=false:=by exact rfl):AOp P w0 U0 nt ops o (gs++rd x) [] S [(d,.val (.sc (.map (some g))))]:=b4Z hW hq r t u y z A B C E
theorem b1G {W:World} {b g:Nat} {l:List CV} (hW:Hw W w0 U0) (hq:a7N b g l U0.m w0) (hg:Gd w0 U0 nt ops o gs S) (hd:o.dst=some d) (hn:Nat.blt d nt=true) (h5:Nat.blt d 100000=true) {x y:Operand} {t kt et:TypeId} {k:IntKind} {i:Int} {n0 q0 p0 n' q' p'} (ho:o.op = .lookup t x y true) (hu:P.underlying t=some (.map kt et)) (huk:P.underlying kt=some (.int k)) (hz2:(P.info? et).map (·.zero)=some (some (.agg #[.int .i64 0,.slice none 0 0]))) (hzc:a0x P et=some (.row [.i 0,.lst []])) (hx:ev S x=some ⟨0,.sc (.map (some g)),n0,q0,p0⟩) (hy:ev S y=some ⟨0,.sc (.int k i),n',q',p'⟩) (hik:C4 k l) {r:Option CV} (hlr:K6 k i l=r):AOp P w0 U0 nt ops o (gs++(rd x++rd y)) [] S [(d,.tup [r.getD (.row [.i 0,.lst []]),.b r.isSome])]:=
 d7 hg hd hn h5 (fun k hk=>List.mem_append_left _ hk) fun s hs a w D hv hm=>by
  have h1:=s6 hm (fun k hk=>hs k (List.mem_append_right _ (List.mem_append_left _ hk))) hx
  have e2:=s6 hm (fun k hk=>hs k (List.mem_append_right _ (List.mem_append_right _ hk))) hy
  subst hlr
  obtain ⟨_,es,clock,g2,g3⟩:=hm.atQ (a2t b g l) hW hq
  obtain ⟨it,zv,i1,i2,i3⟩:=P4 hzc
  have hck:=run_checkKey (P:=P) (w:=w) huk (k := .int k i) rfl es.isEmpty 9999
  have hge:=Go.MapKept.run_getObj_map (P:=P) g2
  rcases H5 0 g3 hik (i:=i) with ⟨f1,f2⟩ | ⟨j,e,c,f1,f2,f3,f4,f5,f6⟩
  ·have hfk:=run_findKey (P:=P) (w:=w) huk f1
   have hzv:(zeroValue et).run P w = .ok zv w:=by simp [zeroValue,typeInfo,i1,i2]
   refine ⟨.tuple #[zv,.bool false],?_,?_⟩
   ·generalize a.eval=ρ at h1 e2 ⊢
    simp [execOp,ho,Instr.lookup,run_underlying hu,h1,e2,hge,hck,hfk,hzv]
   ·rw [f2]
    have hr:=i3 (Us w0 U0 D) w
    exact ⟨[zv,.bool false],rfl,zv,[.bool false],rfl,b5y hz2 hr ⟨it,i1,i2⟩,.bool false,[],rfl,b5.2 ⟨rfl,rfl⟩,rfl⟩
  ·have hfk:=run_findKey (P:=P) (w:=w) huk f1
   refine ⟨.tuple #[e.val,.bool true],?_,?_⟩
   ·generalize a.eval=ρ at h1 e2 ⊢
    simp [execOp,ho,Instr.lookup,run_underlying hu,h1,e2,hge,hck,hfk]
   ·rw [f6]
    exact ⟨[e.val,.bool true],rfl,e.val,[.bool true],rfl,f4,.bool true,[],rfl,b5.2 ⟨rfl,rfl⟩,rfl⟩
theorem zbz {P:Program} {w0:World} {U0:UX} {nt:Nat} {ops:Array Oper} {o:Oper} {S:Nat→Option AV} {gs:List Nat} {d:Nat} {W:World} {b:Nat} {g:Nat} {l:List CV} {x:Operand} {y:Operand} {t:TypeId} {kt:TypeId} {et:TypeId} {k:IntKind} {i:Int} {n0} {q0} {p0} {n'} {q'} {p'} {r:Option CV} (hW:Hw W w0 U0) (hq:a7N b g l U0.m w0) (p:Gd w0 U0 nt ops o gs S:=by exact gN rfl) (u:o.dst=some d:=by exact rfl) (v:Nat.blt d nt=true:=by exact rfl) (z:Nat.blt d 100000=true:=by exact rfl) (A:o.op = .lookup t x y true:=by exact rfl) (B:P.underlying t=some (.map kt et):=by exact rfl) (C:P.underlying kt=some (.int k):=by exact rfl) (E:(P.info? et).map (·.zero)=some (some (.agg #[.int .i64 0,.slice none 0 0])):=by exact rfl) (F:a0x P et=some (.row [.i 0,.lst []]):=by exact rfl) (G:ev S x=some ⟨0,.sc (.map (some g)),n0,q0,p0⟩:=by exact rfl) (H:ev S y=some ⟨0,.sc (.int k i),n',q',p'⟩:=by exact rfl) (hik:C4 k l) (hlr:K6 k i l=r):AOp P w0 U0 nt ops o (gs++(rd x++rd y)) [] S [(d,.tup [r.getD (.row [.i 0,.lst []]),.b r.isSome])]:=b1G hW hq p u v z A B C E F G H hik hlr
theorem N8 {f : FuncId} {fn : Func} {c : Code} {args rs : List CV} (hf : P.funcs[f]? = some fn) (hn : fn.ntmps = nt) (hname : (fn.name == "runtime.NumGoroutine") = false) (hb : fn.body = some c) (hl : Nat.ble args.length nt = true) (hnt : Nat.blt nt 100000 = true)
  (h:∀ (w:World) (U:UX),Hw w w U→q U.m w→AWp P w U nt c (fun e s'=>(e = .normal∨e = .ret)∧a5U P s' fn.results.toList=some rs) (Z5 args 0)):Y7 P q f args (A4 rs):=by
 have hr2:((A4 rs).t=0∨(A4 rs).t=4)∧(A4 rs).n=0:=by
  unfold A4
  split
  ·exact ⟨.inl rfl,rfl⟩
  ·exact ⟨.inr rfl,rfl⟩
 refine ⟨r9 hf hname (by rw [hb];rfl),hr2.1,hr2.2,fun U w vs hq hargs=>?_⟩
 have hlen:=hargs.len
 refine calls_of_wp hf hb ?_
 have hle:=Nat.le_of_ble_eq_true hl
 have hnt:=bL hnt
 have hno:∀ {k av},100000≤k→look (Z5 args 0) k=some av→False:=fun {k av} h1 h2=>by rw [T2 (by omega)] at h2;cases h2
 obtain ⟨V,hV⟩:∃ V:UX,V=⟨U,fun _=>False,fun _=>none,fun _ _ h=>by cases h⟩:=⟨_,rfl⟩
 have hs:Sim w V nt (Z5 args 0) { tmps:=vs.toArray++Array.replicate (fn.ntmps-vs.toArray.size) undef,defers:=[] } w:=by
  refine ⟨fun _ _=>False,fun _ => .slice none 0 0,BelowX.refl _ _,rfl,by simp [hn];omega,fun d av h1 h2=>?_,fun n o av h1=>(hno (by unfold c8;omega) h1).elim,fun n o o' av av' h1=>(hno (by unfold c8;omega) h1).elim,fun k av h1 h2=>(hno h2.1 h1).elim,fun k av g h1 h2=>(hno h2.1 h1).elim,fun k k' av av' g h1 h2 h3=>(hno h3.1 h1).elim,fun n g h1=>(by rw [hV] at h1;cases h1),fun b o hd=>hd.elim⟩
  obtain ⟨_,c',h3,rfl⟩:=H6 h1
  rw [Nat.sub_zero] at h3
  obtain ⟨v,h4,h5⟩:=hargs.at h3
  have hdl:d<vs.length:=by
   rcases Nat.lt_or_ge d vs.length with h | h
   ·exact h
   ·rw [List.getElem?_eq_none h] at h4;cases h4
  refine ⟨v,?_,i7 (h5.keep fun b o v hu hc=>⟨.inl ⟨World.block_lt_of_cell? w _ hc,by rw [hV];exact ⟨hu,fun h=>h⟩⟩,hc⟩)⟩
  rw [Array.getElem?_append_left (by simpa using hdl)]
  simpa using h4
 refine wp_mono ((h w V (by rw [hV];exact ⟨fun _=>rfl,fun _ h=>h⟩) (by rw [hV];exact hq) ⟨none,[]⟩ _ w hs).wp rfl (fun e a w ⟨s,_,h⟩=>h.df)) ?_
 rintro e a' w' ⟨s',⟨h1,h2⟩,D,hv,h3⟩
 obtain ⟨v,h4,h5⟩:=a2m h3 h2
 have hR:RR (fun b o=>U b o∨w.heap.size≤b) w' (A4 rs) v:=by
  have hk:∀ b o u,Us w V D b o→w'.cell? ⟨b,o,none⟩=some u→(U b o∨w.heap.size≤b)∧w'.cell? ⟨b,o,none⟩=some u:=fun b o u hu hc=>⟨hu.imp (fun h=>by rw [hV] at h;exact h.2.1) fun h=>h.1,hc⟩
  unfold RR at h5 ⊢
  split
  ·rename_i ht
   rw [if_pos ht] at h5
   obtain ⟨vs,h6,h7⟩:=h5
   exact ⟨vs,h6,h7.keep hk⟩
  ·rename_i ht
   rw [if_neg ht] at h5
   exact h5.keep hk
 have hbw:Below w.heap.size w w':=h3.below.below (by rw [hV];exact fun _ h=>h)
 rcases h1 with rfl | rfl
 ·exact ⟨h3.dfr,v,h4,v,rfl,hR,hbw⟩
 ·exact ⟨h3.dfr,v,h4,v,rfl,hR,hbw⟩
end
end Go.Proofs.YtekboofbedakcaaGreat
namespace Go.Proofs.YtekboofbedakcaaGreat
open Go.RowKit
set_option linter.unusedVariables false
def XT.tm:XT→Tm
 | ⟨f,a,c,l⟩=>⟨f,l.map XT.tm⟩
theorem XT.tm_eq (x:XT):x.tm=⟨x.f,x.l.map XT.tm⟩:=by
 cases x with
 | mk f a c l=>rw [XT.tm]
theorem XT.tm_f (x:XT):x.tm.f=x.f:=by rw [XT.tm_eq]
theorem XT.tm_l (x:XT):x.tm.l=x.l.map XT.tm:=by rw [XT.tm_eq]
theorem XT.cv_eq (x:XT):x.cv = .row [.i x.f,.lst (x.l.map XT.cv)]:=by
 cases x with
 | mk f a c l =>
  have hl:∀ l:List XT,XT.rec_1 (motive_1:=fun _=>CV) (motive_2:=fun _=>List CV) (fun f _ _ _ ih => .row [.i f,.lst ih]) [] (fun _ _ a b=>a::b) l=l.map XT.cv:=by
   intro l
   induction l with
   | nil=>rfl
   | cons c cs ih=>rw [List.map_cons,←ih];rfl
  show CV.row [.i f,.lst _]=CV.row [.i f,.lst _]
  rw [←hl]
theorem XT.cv_tm:∀ x:XT,x.cv=x.tm.cv:=by
 intro x
 induction x using XT.ind with
 | h f a c l ih =>
  rw [XT.cv_eq,Tm.cv_eq,XT.tm_eq]
  show CV.row [.i f,.lst (l.map XT.cv)]=CV.row [.i f,.lst ((l.map XT.tm).map Tm.cv)]
  rw [List.map_map,List.map_congr_left (g:=Tm.cv∘XT.tm) fun y hy=>ih y hy]
theorem a0i (l:List XT):l.map XT.cv=(l.map XT.tm).map Tm.cv:=by
 rw [List.map_map]
 exact List.map_congr_left fun y _=>y.cv_tm
theorem a9h:∀ l:List XT,(l.flatMap XT.cs).length=l.length*2
 | []=>rfl
 | x::l=>by rw [List.flatMap_cons,List.length_append,a9h l,List.length_cons];show 2+_=_;omega
theorem b6C:∀ {l:List XT} {i:Nat} {y:XT},l[i]?=some y→(l.flatMap XT.cs)[2*i]?=some (.int .i64 y.f)∧(l.flatMap XT.cs)[2*i+1]?=some y.h
 | [],i,y,h=>by simp at h
 | x::l,0,y,h=>by
  simp only [List.getElem?_cons_zero,Option.some.injEq] at h
  subst h
  rw [List.flatMap_cons]
  exact ⟨rfl,rfl⟩
 | x::l,i+1,y,h=>by
  obtain ⟨h1,h2⟩:=b6C (l:=l) (i:=i) (y:=y) (by simpa using h)
  rw [List.flatMap_cons]
  have e:∀ k,(x.cs++l.flatMap XT.cs)[2+k]?=(l.flatMap XT.cs)[k]?:=fun k=>by
   rw [List.getElem?_append_right (by show 2≤2+k;omega)]
   congr 1
   show 2+k-2=k
   omega
  rw [show 2*(i+1)=2+2*i by omega,e,show 2+2*i+1=2+(2*i+1) by omega,e]
  exact ⟨h1,h2⟩
theorem b7h (l:List XT):∀ u∈l.flatMap XT.cs,u.oneCell'=true:=by
 intro u hu
 obtain ⟨x,_,hx⟩:=List.mem_flatMap.1 hu
 unfold XT.cs XT.h at hx
 simp only [List.mem_cons,List.not_mem_nil,or_false] at hx
 rcases hx with rfl | rfl<;>rfl
def Fz (w:World) (b:Nat):Prop:=∃ cur ty,w.heap[b]?=some (.cells cur ty (0,0))
theorem Fz.same {w w':World} {b:Nat} (h:Fz w b) (he:w'.heap[b]?=w.heap[b]?):Fz w' b:=by
 obtain ⟨cur,ty,h⟩:=h
 exact ⟨cur,ty,he.trans h⟩
theorem Fz.bw {w w':World} {b:Nat} (h:Fz w b) (hb:Below w.heap.size w w'):Fz w' b:=by
 obtain ⟨cur,ty,h⟩:=h
 exact ⟨cur,ty,(hb.block b (Array.getElem?_eq_some_iff.1 h).1).trans h⟩
def OwnX (e:TypeId) (w:World) (base:Nat) (v:Value) (xs:List XT):Prop:=w.ownsRow base e 2 v xs.length (xs.flatMap XT.cs)∧(∀ x∈xs,XR (fun b _=>base≤b) w x)∧(xs.flatMap XT.bl).Nodup∧∀ b∈xs.flatMap XT.bl,v.ownBlock≠some b∧Fz w b
theorem OwnX.nil (e:TypeId) (w:World) (base:Nat):OwnX e w base (.slice none 0 0) []:=⟨World.ownsRow_nil _ _ _ _,(fun x hx=>by cases hx),List.nodup_nil,(fun b hb=>by cases hb)⟩
theorem XR.bw {n:Nat} {w w':World} {x:XT} (h:XR (fun b _=>n≤b) w x) (hb:Below w.heap.size w w'):XR (fun b _=>n≤b) w' x:=h.keep fun b o v hu hc=>⟨hu,by rw [hb.cell (p:=⟨b,o,none⟩) (World.block_lt_of_cell? w _ hc)];exact hc⟩
theorem OwnX.bw {e:TypeId} {w w':World} {base:Nat} {v:Value} {xs:List XT} (h:OwnX e w base v xs) (hb:Below w.heap.size w w'):OwnX e w' base v xs:=
 ⟨C5 h.1 hb (Nat.le_refl _),fun x hx=>(h.2.1 x hx).bw hb,h.2.2.1,fun b hb2=>⟨(h.2.2.2 b hb2).1,(h.2.2.2 b hb2).2.bw hb⟩⟩
theorem OwnX.lt {e:TypeId} {w:World} {base:Nat} {v:Value} {xs:List XT} (h:OwnX e w base v xs) {g:Nat} (hg:v.ownBlock=some g):base≤g∧g<w.heap.size:=h.1.lt g hg
theorem a9k {n:Nat} {w:World} {xs:List XT} (h:∀ x∈xs,XR (fun b _=>n≤b) w x):∀ b∈xs.flatMap XT.bl,n≤b∧b<w.heap.size:=by
 intro b hb
 obtain ⟨x,hx,hbx⟩:=List.mem_flatMap.1 hb
 obtain ⟨h1,o,h2⟩:=(h x hx).lt b hbx
 exact ⟨h2,h1⟩
theorem j7 {w w':World} {b o:Nat} (h:w'.heap[b]?=w.heap[b]?):w'.cell? ⟨b,o,none⟩=w.cell? ⟨b,o,none⟩:=by
 simp only [World.cell?];rw [h]
theorem b6K {P:Program} {w:World} {B:Nat} (hB:B≤w.heap.size) (t e:TypeId) (z:Value) (bytes:Nat) (ht:P.underlying t=some (.slice e)) (hi:(P.info? e).map (fun i=>(i.zero,i.size,i.bytes))=some (some z,2,bytes)) (hzs:z.cells.size=2) (hbt:bytes≤1000)
  {v:Value} {xs:List XT} {x:XT} (h:OwnX e w B v xs) (hx:XR (fun b _=>B≤b) w x) (hnd:x.bl.Nodup) (hfz:∀ b∈x.bl,Fz w b) (hdis:∀ b∈x.bl,b∉xs.flatMap XT.bl) (hvx:∀ b∈x.bl,v.ownBlock≠some b) (hn:xs.length≤100000000000) :
  ∃ a' c' w',Sem.run P (Builtin.append_ #[t,t] t #[v,.slice (some ⟨w.heap.size,0,none⟩) 1 1]) (w.alloc (.cells x.cs.toArray e)) = .ok (.slice a' (xs.length+1) c') w'∧OwnX e w' B (.slice a' (xs.length+1) c') (xs++[x])∧Below B w w':=by
 obtain ⟨h1,h2,h3,h4⟩:=h
 obtain ⟨a',c',w',hr,ho,hb,hk,hv⟩:=a3h (P:=P) hB t e z 2 bytes ht hi hzs (by decide) v xs.length (xs.flatMap XT.cs) x.cs h1 rfl (by simpa using b7h [x]) hn hbt
 have hall:=a9k h2
 have hxl:=fun b hb=>hx.lt b hb
 have hown:∀ b,b<w.heap.size→v.ownBlock≠some b→(Value.slice a' (xs.length+1) c').ownBlock≠some b:=fun b hb hne e=>by
  rcases hv b e with e' | e'
  ·exact hne e'
  ·omega
 refine ⟨a',c',w',hr,⟨?_,fun y hy=>?_,?_,fun b hb=>?_⟩,hb⟩
 ·rw [List.length_append,List.flatMap_append]
  simpa using ho
 ·rw [List.mem_append,List.mem_singleton] at hy
  rcases hy with hy | rfl
  ·exact (h2 y hy).keepB fun b o u hb hu hc=>by
    have hm:b∈xs.flatMap XT.bl:=List.mem_flatMap.2 ⟨y,hy,hb⟩
    exact ⟨hu,by rw [j7 (hk b (hall b hm).2 (h4 b hm).1)];exact hc⟩
  ·exact hx.keepB fun b o u hb hu hc=>⟨hu,by rw [j7 (hk b (hxl b hb).1 (hvx b hb))];exact hc⟩
 ·rw [List.flatMap_append,List.nodup_append]
  refine ⟨h3,by simpa using hnd,?_⟩
  intro b hb b' hb' e
  subst e
  exact hdis b (by simpa using hb') hb
 ·rw [List.flatMap_append,List.mem_append] at hb
  rcases hb with hb | hb
  ·exact ⟨hown b (hall b hb).2 (h4 b hb).1,(h4 b hb).2.same (hk b (hall b hb).2 (h4 b hb).1)⟩
  ·have hb:b∈x.bl:=by simpa using hb
   exact ⟨hown b (hxl b hb).1 (hvx b hb),(hfz b hb).same (hk b (hxl b hb).1 (hvx b hb))⟩
theorem OwnX.xk {e:TypeId} {w:World} {base:Nat} {a:Option Addr} {n c:Nat} {xs:List XT} (h:OwnX e w base (.slice a n c) xs) (f:Int):n=xs.length∧XR (fun b _=>base≤b) w ⟨f,a,c,xs⟩∧(XT.mk f a c xs).bl.Nodup∧∀ b∈(XT.mk f a c xs).bl,Fz w b:=by
 obtain ⟨h1,h2,h3,h4⟩:=h
 obtain ⟨a',c',e1,e2,e3,e4,e5⟩:=A3 h1
 cases e1
 have hbb:∀ b∈(XT.mk f a c xs).bb,a.map (·.block)=some b:=fun b hb=>by
  unfold XT.bb at hb
  split at hb
  ·rename_i ad y ys q1 q2
   have q1:a=some ad:=q1
   rw [List.mem_singleton] at hb
   rw [q1,hb];rfl
  ·cases hb
 refine ⟨rfl,?_,?_,?_⟩
 ·rw [L4]
  refine ⟨⟨e2,e3,fun h=>by have:=e4 h;exact this,?_⟩,h2⟩
  rcases e5 with h | ⟨b,off,ha,hlt,hc⟩
  ·have hx:xs=[]:=by
    have:=a9h xs
    rw [h] at this
    exact List.eq_nil_of_length_eq_zero (by simp at this;omega)
   subst hx
   exact ⟨0,0,fun h=>absurd rfl h,fun i y hy=>by simp at hy⟩
  ·subst ha
   have hbase:xs≠[]→base≤b:=fun hne=>by
    rcases h1.2 with ⟨q1,q2⟩ | ⟨g,cap,cur,q1,q2,_⟩
    ·cases q1
    ·cases q1;exact q2
   refine ⟨b,off,fun _=>rfl,fun i y hy=>?_⟩
   have hil:i<xs.length:=by
    rcases Nat.lt_or_ge i xs.length with h | h
    ·exact h
    ·rw [List.getElem?_eq_none h] at hy;cases hy
   have hy2:xs[i]?=some y:=hy
   obtain ⟨k1,k2⟩:=b6C hy2
   have hl:=a9h xs
   have hne:xs≠[]:=fun e=>by rw [e] at hil;simp at hil
   exact ⟨⟨hbase hne,by rw [hc (2*i) (by omega),k1]⟩,hbase hne,by rw [hc (2*i+1) (by omega),k2]⟩
 ·rw [XT.bl_eq,List.nodup_append]
  refine ⟨?_,h3,?_⟩
  ·unfold XT.bb;split<;>simp
  ·rintro b hb b' hb' rfl
   have h5:=hbb b hb
   cases ha:a with
   | none=>rw [ha] at h5;cases h5
   | some ad =>
    rw [ha] at h5
    have h5:ad.block=b:=by simpa using h5
    refine (h4 b hb').1 ?_
    rcases h1.2 with ⟨q1,q2⟩ | ⟨g,cap,cur,q1,q2,_⟩
    ·rw [ha] at q1;cases q1
    ·rw [ha] at q1
     injection q1 with q1 _ _
     injection q1 with q1
     subst q1
     rw [ha]
     show (Value.slice (some ⟨g,0,none⟩) xs.length c).ownBlock=some b
     rw [←h5]
     rfl
 ·intro b hb
  rw [XT.bl_eq,List.mem_append] at hb
  rcases hb with hb | hb
  ·have h5:=hbb b hb
   rcases h1.2 with ⟨q1,q2⟩ | ⟨g,cap,cur,q1,q2,q3,_⟩
   ·injection q1 with q1 _ _;rw [q1] at h5;cases h5
   ·injection q1 with q1 _ _
    rw [q1] at h5
    have h5:g=b:=by simpa using h5
    subst h5
    exact ⟨_,_,q3⟩
  ·exact (h4 b hb).2
end Go.Proofs.YtekboofbedakcaaGreat
namespace Go.Proofs.YtekboofbedakcaaGreat
open Go.RowKit Go.MapKept
set_option linter.unusedVariables false
set_option linter.unusedSimpArgs false
def LdOk (U:Nat→Nat→Prop) (w:World) (b off:Nat) (c:CV):Prop:=∃ xs,Rep U w c xs∧∀ i,i<xs.length→U b (off+i)∧w.cell? ⟨b,off+i,none⟩=xs[i]?
abbrev v8 (b off:Nat):CV := .sc (.pointer (some ⟨b,off,none⟩))
def XAt (U:Nat→Nat→Prop) (w:World) (b off:Nat) (x:XT):Prop:=XR U w x∧(U b off∧w.cell? ⟨b,off,none⟩=some (.int .i64 x.f))∧(U b (off+1)∧w.cell? ⟨b,off+1,none⟩=some x.h)
theorem XAt.keep {U V:Nat→Nat→Prop} {w w':World} {b off:Nat} {x:XT} (hs:∀ b o v,U b o→w.cell? ⟨b,o,none⟩=some v→V b o∧w'.cell? ⟨b,o,none⟩=some v) (h:XAt U w b off x):XAt V w' b off x:=⟨h.1.keep hs,hs _ _ _ h.2.1.1 h.2.1.2,hs _ _ _ h.2.2.1 h.2.2.2⟩
theorem a7h {α β:Type} (p q:α→β):∀ (l:List α) (i:Nat),i<(l.flatMap fun y=>[p y,q y]).length→∃ y,l[i / 2]?=some y∧(l.flatMap fun y=>[p y,q y])[i]?=some (if i % 2=0 then p y else q y)
 | [],i,h=>by simp at h
 | x::l,0,h=>⟨x,rfl,rfl⟩
 | x::l,1,h=>⟨x,rfl,rfl⟩
 | x::l,i+2,h=>by
  rw [List.flatMap_cons,List.length_append] at h
  obtain ⟨y,h1,h2⟩:=a7h p q l i (by simp at h ⊢;omega)
  refine ⟨y,by rw [show (i+2) / 2=i / 2+1 by omega];exact h1,?_⟩
  rw [List.flatMap_cons,show (i+2) % 2=i % 2 by omega,←h2]
  rw [List.getElem?_append_right (by simp)]
  simp
theorem H4 {U:Nat→Nat→Prop} {w:World}:∀ {x:XT},XR U w x→Rep U w (.lst (x.l.map XT.cv)) [x.h]:=by
 intro x
 induction x using XT.ind with
 | h f a c l ih =>
  intro h
  rw [L4] at h
  obtain ⟨⟨h1,h2,h3,g,off,h4,h5⟩,h6⟩:=h
  have hsq:∀ l':List XT,(∀ y∈l',y∈l)→Sq ((l'.map XT.cv).map fun c=>Rep U w c) (l'.flatMap fun y=>[.int .i64 y.f,y.h]):=by
   intro l'
   induction l' with
   | nil=>intro _;rfl
   | cons y l' ih2 =>
    intro hm
    refine ⟨[.int .i64 y.f,y.h],_,rfl,?_,ih2 fun z hz=>hm z (List.mem_cons_of_mem _ hz)⟩
    show Rep U w y.cv _
    rw [XT.cv_eq]
    exact s8.2 ⟨[.int .i64 y.f],[y.h],rfl,F3 _ _,[y.h],[],rfl,ih y (hm y (by simp)) (h6 y (hm y (by simp))),rfl⟩
  refine I0.2 ⟨a,l.length,c,rfl,by simp,h1,h2,h3,_,?_,hsq l fun _ h=>h⟩
  by_cases hl:l=[]
  ·exact .inl (by rw [hl];rfl)
  ·refine .inr ⟨g,off,h4 hl,fun i hi=>?_⟩
   obtain ⟨y,hy,hv⟩:=a7h (fun y:XT=>Value.int .i64 y.f) XT.h l i hi
   obtain ⟨⟨a1,a2⟩,b1,b2⟩:=h5 (i / 2) y hy
   rw [hv]
   by_cases he:i % 2=0
   ·rw [if_pos he]
    rw [show 2*(i / 2)=i by omega] at a1 a2
    exact ⟨a1,a2⟩
   ·rw [if_neg he]
    rw [show 2*(i / 2)+1=i by omega] at b1 b2
    exact ⟨b1,b2⟩
theorem XAt.ld {U:Nat→Nat→Prop} {w:World} {b off:Nat} {x:XT} (h:XAt U w b off x):LdOk U w b off x.tm.cw:=by
 refine ⟨[.int .i64 x.f,x.h],?_,fun i hi=>?_⟩
 ·rw [←Tm.cv_eq,←XT.cv_tm,XT.cv_eq]
  exact s8.2 ⟨[.int .i64 x.f],[x.h],rfl,F3 _ _,[x.h],[],rfl,H4 h.1,rfl⟩
 ·match i,hi with
  | 0,_=>exact h.2.1
  | 1,_=>exact h.2.2
theorem XAt.ldl {U:Nat→Nat→Prop} {w:World} {b off:Nat} {x:XT} (h:XAt U w b off x):LdOk U w b (off+1) (.lst (x.tm.l.map Tm.cv)):=by
 refine ⟨[x.h],?_,fun i hi=>?_⟩
 ·rw [XT.tm_l,←a0i];exact H4 h.1
 ·match i,hi with
  | 0,_=>exact h.2.2
theorem XAt.ldh {U:Nat→Nat→Prop} {w:World} {b off:Nat} {x:XT} (h:XAt U w b off x):LdOk U w b (off+1) (.sc x.h):=by
 refine ⟨[x.h],t7.2 ⟨rfl,rfl⟩,fun i hi=>?_⟩
 match i,hi with
 | 0,_=>exact h.2.2
theorem XAt.child {U:Nat→Nat→Prop} {w:World} {b off:Nat} {x y:XT} (h:XAt U w b off x) {i:Nat} (hy:x.l[i]?=some y):∃ g o1,x.a=some ⟨g,o1,none⟩∧XAt U w g (o1+2*i) y:=by
 obtain ⟨⟨h1,h2,h3,g,o1,h4,h5⟩,h6⟩:=L4.1 h.1
 have hne:x.l≠[]:=fun e=>by rw [e] at hy;simp at hy
 obtain ⟨a1,a2⟩:=h5 i y hy
 exact ⟨g,o1,h4 hne,h6 y (List.mem_of_getElem? hy),a1,by rw [Nat.add_assoc];exact a2⟩
section
variable {P:Program} {w0:World} {U0:UX} {nt:Nat} {ops:Array Oper} {o:Oper} {S:Nat→Option AV} {gs:List Nat} {d:Nat}
theorem LdOk.now {W:World} (hW:Hw W w0 U0) {b off:Nat} {c:CV} (h:LdOk U0.m w0 b off c) {s:AS} {a:Act} {w:World} {D:Nat→Nat→Prop} {hv:Nat→Value} (hm:SimG w0 U0 nt s a w D hv):LdOk (Us w0 U0 D) w b off c:=by
 have hb:=hm.below.below hW.2
 have hk:∀ b o v,U0.m b o→w0.cell? ⟨b,o,none⟩=some v→Us w0 U0 D b o∧w.cell? ⟨b,o,none⟩=some v:=fun b o v hu hc=>by
  have hlt:=World.block_lt_of_cell? w0 _ hc
  exact ⟨.inl ⟨hlt,hu,hW.2 b⟩,by rw [j7 (hb.block b hlt)];exact hc⟩
 obtain ⟨xs,h1,h2⟩:=h
 refine ⟨xs,h1.keep hk,fun i hi=>?_⟩
 obtain ⟨h3,h4⟩:=h2 i hi
 rw [List.getElem?_eq_getElem hi] at h4 ⊢
 exact hk _ _ _ h3 h4
theorem b0c {W:World} (hW:Hw W w0 U0) {b off:Nat} {c:CV} (hq:LdOk U0.m w0 b off c) (hg:Gd w0 U0 nt ops o gs S) (hd:o.dst=some d) (hn:Nat.blt d nt=true) (h5:Nat.blt d 100000=true) {x:Operand} {ty:TypeId} {ds:TypeDesc} {z n q p} (ho:o.op = .load ty x) (hu:P.underlying ty=some ds) (hi:(P.info? ty).map (·.size)=some z) (hx:ev S x=some ⟨0,v8 b off,n,q,p⟩) (hk:K1 ds=Nat.beq c.k 2) (hz:c.size=z):AOp P w0 U0 nt ops o (gs++rd x) [] S [(d,.val c)]:=
 d7 hg hd hn h5 (fun k hk=>List.mem_append_left _ hk) fun s hs a w D hv hm=>by
  have h1:=s6 hm (fun k hk=>hs k (List.mem_append_right _ hk)) hx
  obtain ⟨xs,h2,h3⟩:=hq.now hW hm
  obtain ⟨v,h4,h6,_⟩:=q8 hu hi hk hz h2 (b:=b) (off:=off) (fun i hi=>(h3 i hi).2)
  refine ⟨v,?_,i7 h6⟩
  generalize a.eval=ρ at h1 ⊢
  simp [execOp,ho,Instr.loadAt,Instr.sureAddr,h1,h4]
theorem zl {P:Program} {w0:World} {U0:UX} {nt:Nat} {ops:Array Oper} {o:Oper} {S:Nat→Option AV} {gs:List Nat} {d:Nat} {W:World} {b:Nat} {off:Nat} {c:CV} {x:Operand} {ty:TypeId} {ds:TypeDesc} {z} {n} {q} {p} (hW:Hw W w0 U0) (hq:LdOk U0.m w0 b off c) (r:Gd w0 U0 nt ops o gs S:=by exact gN rfl) (t:o.dst=some d:=by exact rfl) (u:Nat.blt d nt=true:=by exact rfl) (y:Nat.blt d 100000=true:=by exact rfl) (A:o.op = .load ty x:=by exact rfl) (B:P.underlying ty=some ds:=by exact rfl) (C:(P.info? ty).map (·.size)=some z:=by exact rfl) (E:ev S x=some ⟨0,v8 b off,n,q,p⟩:=by exact rfl) (F:K1 ds=Nat.beq c.k 2:=by exact rfl) (G:c.size=z:=by exact rfl):AOp P w0 U0 nt ops o (gs++rd x) [] S [(d,.val c)]:=b0c hW hq r t u y A B C E F G
theorem E6 (hg:Gd w0 U0 nt ops o gs S) (hd:o.dst=some d) (hn:Nat.blt d nt=true) (h5:Nat.blt d 100000=true) {b off:Nat} {x:Operand} {ty:TypeId} {fs:Array Field} {i:Nat} {f:Field} {z n q p} (ho:o.op = .fieldAddr ty x i) (hu:P.underlying ty=some (.struct fs)) (hf:fs[i]?=some f) (hz:(P.info? f.type).map (·.size)=some z) (hz0:Nat.beq z 0=false) (hx:ev S x=some ⟨0,v8 b off,n,q,p⟩):AOp P w0 U0 nt ops o (gs++rd x) [] S [(d,.val (v8 b (off+f.offset)))]:=
 d7 hg hd hn h5 (fun k hk=>List.mem_append_left _ hk) fun s hs a w D hv hm=>by
  have h1:=s6 hm (fun k hk=>hs k (List.mem_append_right _ hk)) hx
  have hsz:=B4 (P:=P) (w:=w) hz
  have hz1:z≠0:=fun e=>by rw [e] at hz0;cases hz0
  refine ⟨.pointer (some ⟨b,off+f.offset,none⟩),?_,m7 rfl⟩
  have hadd:=X4 b off f.offset
  generalize a.eval=ρ at h1 ⊢
  simp [execOp,ho,Instr.fieldAt,run_underlying hu,hf,Instr.sureAddr,h1,fieldPlace,hsz,hz1,hadd]
theorem zo {P:Program} {w0:World} {U0:UX} {nt:Nat} {ops:Array Oper} {o:Oper} {S:Nat→Option AV} {gs:List Nat} {d:Nat} {b:Nat} {off:Nat} {x:Operand} {ty:TypeId} {fs:Array Field} {i:Nat} {f:Field} {z} {n} {q} {p} (r:Gd w0 U0 nt ops o gs S:=by exact gN rfl) (t:o.dst=some d:=by exact rfl) (u:Nat.blt d nt=true:=by exact rfl) (v:Nat.blt d 100000=true:=by exact rfl) (y:o.op = .fieldAddr ty x i:=by exact rfl) (A:P.underlying ty=some (.struct fs):=by exact rfl) (B:fs[i]?=some f:=by exact rfl) (C:(P.info? f.type).map (·.size)=some z:=by exact rfl) (E:Nat.beq z 0=false:=by exact rfl) (F:ev S x=some ⟨0,v8 b off,n,q,p⟩:=by exact rfl):AOp P w0 U0 nt ops o (gs++rd x) [] S [(d,.val (v8 b (off+f.offset)))]:=E6 r t u v y A B C E F
theorem b4s (hg:Gd w0 U0 nt ops o gs S) (hd:o.dst=some d) (hn:Nat.blt d nt=true) (h5:Nat.blt d 100000=true) {b off:Nat} {x:Operand} {n q p} (ho:o.op = .nilCheck x) (hx:ev S x=some ⟨0,v8 b off,n,q,p⟩):AOp P w0 U0 nt ops o (gs++rd x) [] S [(d,.val (v8 b off))]:=
 d7 hg hd hn h5 (fun k hk=>List.mem_append_left _ hk) fun s hs a w D hv hm=>by
  have h1:=s6 hm (fun k hk=>hs k (List.mem_append_right _ hk)) hx
  refine ⟨.pointer (some ⟨b,off,none⟩),?_,m7 rfl⟩
  generalize a.eval=ρ at h1 ⊢
  simp [execOp,ho,h1]
theorem zk {P:Program} {w0:World} {U0:UX} {nt:Nat} {ops:Array Oper} {o:Oper} {S:Nat→Option AV} {gs:List Nat} {d:Nat} {b:Nat} {off:Nat} {x:Operand} {n} {q} {p} (r:Gd w0 U0 nt ops o gs S:=by exact gN rfl) (t:o.dst=some d:=by exact rfl) (u:Nat.blt d nt=true:=by exact rfl) (v:Nat.blt d 100000=true:=by exact rfl) (y:o.op = .nilCheck x:=by exact rfl) (z:ev S x=some ⟨0,v8 b off,n,q,p⟩:=by exact rfl):AOp P w0 U0 nt ops o (gs++rd x) [] S [(d,.val (v8 b off))]:=b4s r t u v y z
theorem E7 (j:Nat) (hg:Gd w0 U0 nt ops o gs S) (hd:o.dst=some d) (hn:Nat.blt d nt=true) (h5:Nat.blt d 100000=true) {g off len cap z:Nat} {ao:Option Addr} {x y:Operand} {ty e:TypeId} {kd:IntKind} {i:Int} {n q p n' q' p'} (ho:o.op = .indexAddr ty x y) (hu:P.underlying ty=some (.slice e)) (hi:(P.info? e).map (·.size)=some z) (hx:ev S x=some ⟨0,.sc (.slice ao len cap),n,q,p⟩) (hy:ev S y=some ⟨0,.sc (.int kd i),n',q',p'⟩) (ha:ao=some ⟨g,off,none⟩) (hij:i=(j:Int)) (hj:j<len):AOp P w0 U0 nt ops o (gs++(rd x++rd y)) [] S [(d,.val (v8 g (off+j*z)))]:=
 d7 hg hd hn h5 (fun k hk=>List.mem_append_left _ hk) fun s hs a w D hv hm=>by
  have e1:=s6 hm (fun k hk=>hs k (List.mem_append_right _ (List.mem_append_left _ hk))) hx
  have e2:=s6 hm (fun k hk=>hs k (List.mem_append_right _ (List.mem_append_right _ hk))) hy
  have hsz:=B4 (P:=P) (w:=w) hi
  subst hij
  subst ha
  refine ⟨.pointer (some ⟨g,off+j*z,none⟩),?_,m7 rfl⟩
  have hadd:=X4 g off (j*z)
  generalize a.eval=ρ at e1 e2 ⊢
  simp [execOp,ho,Instr.indexAt,asIntOf,e1,e2,run_underlying hu,hj,hsz,hadd]
theorem zq {P:Program} {w0:World} {U0:UX} {nt:Nat} {ops:Array Oper} {o:Oper} {S:Nat→Option AV} {gs:List Nat} {d:Nat} {g:Nat} {off:Nat} {len:Nat} {cap:Nat} {z:Nat} {ao:Option Addr} {x:Operand} {y:Operand} {ty:TypeId} {e:TypeId} {kd:IntKind} {i:Int} {n} {q} {p} {n'} {q'} {p'} (j:Nat) (r:Gd w0 U0 nt ops o gs S:=by exact gN rfl) (t:o.dst=some d:=by exact rfl) (u:Nat.blt d nt=true:=by exact rfl) (v:Nat.blt d 100000=true:=by exact rfl) (A:o.op = .indexAddr ty x y:=by exact rfl) (B:P.underlying ty=some (.slice e):=by exact rfl) (C:(P.info? e).map (·.size)=some z:=by exact rfl) (E:ev S x=some ⟨0,.sc (.slice ao len cap),n,q,p⟩:=by exact rfl) (F:ev S y=some ⟨0,.sc (.int kd i),n',q',p'⟩:=by exact rfl) (G:ao=some ⟨g,off,none⟩) (H:i=(j:Int):=by first | rfl | omega | (simp only [List.length_set,List.length_map,List.length_append,List.length_cons,List.length_nil]<;>omega) | (simp<;>omega)) (hj:j<len:=by first | rfl | omega | (simp only [List.length_set,List.length_map,List.length_append,List.length_cons,List.length_nil]<;>omega) | (simp<;>omega)):AOp P w0 U0 nt ops o (gs++(rd x++rd y)) [] S [(d,.val (v8 g (off+j*z)))]:=E7 j r t u v A B C E F G H hj
end
section
variable {P:Program} {w0:World} {U0:UX} {nt:Nat} {ops:Array Oper} {o:Oper} {S:Nat→Option AV} {gs:List Nat} {d:Nat}
theorem b7o (hg:Gd w0 U0 nt ops o gs S) (hd:o.dst=some d) (hn:Nat.blt d nt=true) (h5:Nat.blt d 100000=true) {x:Operand} {ts:Array TypeId} {ao:Option Addr} {len cap:Nat} {n q p} (ho:o.op = .call { callee := .builtin .len,args := #[x],argTypes:=ts }) (hu:((ts[0]?).bind fun t=>(P.underlying t).bind fun d=>match d with | .slice e=>some e | _=>none).isSome=true) (hx:ev S x=some ⟨0,.sc (.slice ao len cap),n,q,p⟩):AOp P w0 U0 nt ops o (gs++rd x) [] S [(d,.val (.i len))]:=
 d7 hg hd hn h5 (fun k hk=>List.mem_append_left _ hk) fun s hs a w D hv hm=>by
  have e1:=s6 hm (fun k hk=>hs k (List.mem_append_right _ hk)) hx
  refine ⟨.int .i64 len,?_,m7 rfl⟩
  cases ht:ts[0]? with
  | none=>rw [ht] at hu;cases hu
  | some t =>
   rw [ht] at hu
   cases hd':P.underlying t with
   | none=>simp [hd'] at hu
   | some ds =>
    cases ds with
    | slice e =>
     generalize a.eval=ρ at e1 ⊢
     simp [execOp,ho,resolve,invoke,builtin,Builtin.len_,ht,e1,goInt,run_underlying hd',go_sem]
    | _=>simp [hd'] at hu
theorem zbx {P:Program} {w0:World} {U0:UX} {nt:Nat} {ops:Array Oper} {o:Oper} {S:Nat→Option AV} {gs:List Nat} {d:Nat} {x:Operand} {ts:Array TypeId} {ao:Option Addr} {len:Nat} {cap:Nat} {n} {q} {p} (r:Gd w0 U0 nt ops o gs S:=by exact gN rfl) (u:o.dst=some d:=by exact rfl) (v:Nat.blt d nt=true:=by exact rfl) (y:Nat.blt d 100000=true:=by exact rfl) (z:o.op = .call { callee := .builtin .len,args := #[x],argTypes:=ts }:=by exact rfl) (A:((ts[0]?).bind fun t=>(P.underlying t).bind fun d=>match d with | .slice e=>some e | _=>none).isSome=true:=by exact rfl) (B:ev S x=some ⟨0,.sc (.slice ao len cap),n,q,p⟩:=by exact rfl):AOp P w0 U0 nt ops o (gs++rd x) [] S [(d,.val (.i len))]:=b7o r u v y z A B
end
/-! ### Ends of two kinds -/
def UE:UX:=⟨fun _ _=>False,fun _=>False,fun _=>none,fun _ _ h=>by cases h⟩
structure a8m (X:Nat→Prop) (F:World→World→Prop):Prop where
 up:∀ A B C,F A B→Below B.heap.size B C→F A C
 pre:∀ A B C,Below A.heap.size A B→F B C→F A C
 out:∀ A B,F A B→A.heap.size≤B.heap.size∧∀ b,¬ X b→b<A.heap.size→B.heap[b]?=A.heap[b]?
def YT (P:Program) (w0:World) (l:Nat) (cs:List CV):Prop:=∀ (R:Nat→Nat→Prop) (w:World) (vs:List Value),Below w0.heap.size w0 w→VReps R w cs vs→YieldAt Fence.wide 1 P l vs.toArray w fun e w'=>e = .returned (.bool true)∧Below w.heap.size w w'
def YF (P:Program) (w0:World) (l:Nat) (cs:List CV) (F:World→World→Prop):Prop:=∀ (R:Nat→Nat→Prop) (w:World) (vs:List Value),Below w0.heap.size w0 w→VReps R w cs vs→YieldAt Fence.wide 1 P l vs.toArray w fun e w'=>e = .returned (.bool false)∧F w w'
theorem YT.up {P:Program} {w0 w:World} {l:Nat} {cs:List CV} (h:YT P w0 l cs) (hb:Below w0.heap.size w0 w):YT P w l cs:=fun R w' vs h1 h2=>h R w' vs (hb.trans (h1.mono hb.size)) h2
theorem YF.up {P:Program} {w0 w:World} {l:Nat} {cs:List CV} {F:World→World→Prop} (h:YF P w0 l cs F) (hb:Below w0.heap.size w0 w):YF P w l cs F:=fun R w' vs h1 h2=>h R w' vs (hb.trans (h1.mono hb.size)) h2
def a6g (P:Program) (q:(Nat→Nat→Prop)→World→Prop) (f:FuncId) (args:List CV) (r:AV) (F:World→World→Prop):Prop:=
 b4m P f∧(r.t=0∨r.t=4)∧r.n=0∧∀ (U:Nat→Nat→Prop) (w:World) (vs:List Value),q U w→VReps U w args vs →
  Calls P f vs.toArray w fun e w'=>∃ v,e = .returned v∧RR (fun _ _=>False) w' r v∧F w w'
section
variable {P:Program} {w0:World} {U0:UX} {nt:Nat} {s:AS} {F:World→Prop}
def AWpZ (P:Program) (w0:World) (U0:UX) (nt:Nat) (F:World→Prop) (c:Code) (Q Qf:Exit→AS→Prop) (s:AS):Prop:=
 ∀ M a w,Sim w0 U0 nt s a w→WP P M c (fun e a' w'=>(∃ s',Q e s'∧Sim w0 U0 nt s' a' w')∨∃ w1 s',F w1∧Qf e s'∧Sim w1 UE nt s' a' w') a w
variable {Q Qf:Exit→AS→Prop}
theorem q9 {c:Code} (h:AWp P w0 U0 nt c Q s):AWpZ P w0 U0 nt F c Q Qf s:=fun M a w hs=>F0 (h M a w hs) fun _ _ _ h => .inl h
theorem AWpZ.wk {c:Code} {s':AS} (h:Wk w0 U0 nt s s') (h2:AWpZ P w0 U0 nt F c Q Qf s'):AWpZ P w0 U0 nt F c Q Qf s:=fun M a w hs=>h2 M a w (h a w hs)
def b8d (P:Program) (w0:World) (U0:UX) (nt:Nat) (F:World→Prop) (y:Code) (Q Qf:Exit→AS→Prop):Exit→AS→Prop
 | .normal,s=>AWpZ P w0 U0 nt F y Q Qf s
 | e,s=>Q e s
def b7j (P:Program) (nt:Nat) (F:World→Prop) (y:Code) (Qf:Exit→AS→Prop):Exit→AS→Prop
 | .normal,s=>∀ w1,F w1→AWp P w1 UE nt y Qf s
 | e,s=>Qf e s
theorem i9 {x y:Code} (h:AWpZ P w0 U0 nt F x (b8d P w0 U0 nt F y Q Qf) (b7j P nt F y Qf) s):AWpZ P w0 U0 nt F (.seq x y) Q Qf s:=fun M a w hs =>
 b4p (F0 (h M a w hs) fun e a' w' h=>by
  rcases h with ⟨s',h1,h2⟩ | ⟨w1,s',h0,h1,h2⟩
  ·cases e with
   | normal=>exact h1 M a' w' h2
   | _=>exact .inl ⟨s',h1,h2⟩
  ·cases e with
   | normal=>exact F0 (h1 w1 h0 M a' w' h2) fun _ _ _ ⟨s2,k1,k2⟩ => .inr ⟨w1,s2,h0,k1,k2⟩
   | _=>exact .inr ⟨w1,s',h0,h1,h2⟩)
theorem a4y {id:Nat} {Q:Exit→AS→Prop} {e:Exit} {s:AS} {X:Exit→Act→World→Prop} {a:Act} {w:World} (h:X0 id Q e s) (hX:∀ e,Q e s→X e a w):Exit.inBlock id X e a w:=by
 cases e with
 | exit id' =>
  by_cases e:id'=id
  ·subst e
   simp only [X0,Nat.beq_refl] at h
   simp only [Exit.inBlock,if_true]
   exact hX _ h
  ·have:Nat.beq id' id=false:=by
    cases hb:Nat.beq id' id with
    | false=>rfl
    | true=>exact absurd (Nat.eq_of_beq_eq_true hb) e
   simp only [X0,this] at h
   simp only [Exit.inBlock,if_neg e]
   exact hX _ h
 | _=>exact hX _ h
theorem D0 {id:Nat} {c:Code} (h:AWpZ P w0 U0 nt F c (X0 id Q) (X0 id Qf) s):AWpZ P w0 U0 nt F (.block id c) Q Qf s:=fun M a w hs =>
 a7u (F0 (h M a w hs) fun e a' w' h=>by
  rcases h with ⟨s',h1,h2⟩ | ⟨w1,s',h0,h1,h2⟩
  ·exact a4y h1 fun e h => .inl ⟨s',h,h2⟩
  ·exact a4y h1 fun e h => .inr ⟨w1,s',h0,h,h2⟩)
def b7d (Qf:Exit→AS→Prop):Exit→AS→Prop
 | .normal,_=>False
 | e,s=>Qf e s
theorem R5 {c:Code} (N:Nat) (I:Nat→Prop) (st:Nat→AS) (hs0:Wk w0 U0 nt s (st 0)) (hI:I 0) (hr:∀ k,k≤N→I k→AWpZ P w0 U0 nt F c (a9z w0 U0 nt I st N k Q) (b7d Qf) (st k)):AWpZ P w0 U0 nt F (.loop c) Q Qf s:=fun M a w hs=>by
 classical
 let p:Act→World→Nat→Prop:=fun a w n=>∃ k,k≤N∧I k∧n=N-k∧Sim w0 U0 nt (st k) a w
 let μ:Act→World→Nat:=fun a w=>if h:∃ n,p a w n then Classical.choose (b2e _ h) else 0
 have hμ:∀ a w n,p a w n→p a w (μ a w)∧μ a w≤n:=fun a w n hn=>by
  have h:∃ n,p a w n:=⟨n,hn⟩
  have:=Classical.choose_spec (b2e _ h)
  simp only [μ,dif_pos h]
  exact ⟨this.1,this.2 n hn⟩
 refine b0b (fun a w=>∃ n,p a w n) μ ⟨N-0,0,Nat.zero_le _,hI,rfl,hs0 a w hs⟩ (fun a w ⟨n,k,_,_,_,h2⟩=>h2.df) ?_
 rintro a w ⟨n,hn⟩
 obtain ⟨⟨k,h1,h2,h3,h4⟩,_⟩:=hμ a w n hn
 refine F0 (hr k h1 h2 M a w h4) ?_
 intro e a' w' h
 rcases h with ⟨s',g1,g2⟩ | ⟨w1,s',g0,g1,g2⟩
 ·cases e with
  | normal =>
   have:=hμ a' w' (N-(k+1)) ⟨k+1,g1.1,g1.2.1,rfl,g1.2.2 a' w' g2⟩
   exact ⟨⟨_,this.1⟩,by have:=g1.1;omega⟩
  | _=>exact .inl ⟨s',g1,g2⟩
 ·cases e with
  | normal=>exact g1.elim
  | _=>exact .inr ⟨w1,s',g0,g1,g2⟩
abbrev kpS (kp:List (Nat×Value)):AS:=kp.map fun q=>(q.1,.val (.sc q.2))
theorem b4S {a:Act} {w w':World} (hs:Sim w0 U0 nt s a w) {dd:Nat} (hn:Nat.blt dd nt=true) (h5:Nat.blt dd 100000=true) {r:AV} {v:Value} (hr:(r.t=0∨r.t=4)∧r.n=0) (hv:RR (fun _ _=>False) w' r v) (kp:List (Nat×Value)) (hkp:SubL s (kpS kp)) (hk5:(kp.all fun q=>Nat.blt q.1 100000)=true):Sim w' UE nt ((dd,r)::kpS kp) (a.put (some dd) v) w':=by
 obtain ⟨D,hv0,h⟩:=hs
 rw [List.all_eq_true] at hk5
 have hlow:∀ {k av},look (kpS kp) k=some av→∃ q∈kp,k=q.1∧av = .val (.sc q.2):=fun {k av} h1=>by
  obtain ⟨q,hq,he⟩:=List.mem_map.1 (C7 h1)
  injection he with e1 e2
  exact ⟨q,hq,e1.symm,e2.symm⟩
 have hlt:∀ {k av},look (kpS kp) k=some av→k<100000:=fun {k av} h1=>by
  obtain ⟨q,hq,rfl,_⟩:=hlow h1
  exact bL (hk5 q hq)
 have h0:SimG w' UE nt (kpS kp) a w' (fun _ _=>False) (fun _ => .slice none 0 0):=by
  refine ⟨BelowX.refl _ _,h.dfr,h.size,fun d av h1 h2=>?_,fun n o av h1 h2 h3 h4=>?_,fun n o o' av av' h1 h2=>?_,fun k av h1 h2=>?_,fun k av g h1 h2=>?_,fun k k' av av' g h1 h2 h3 h4=>?_,fun k v h1=>(by cases h1),fun b o hd=>hd.elim⟩
  ·obtain ⟨q,hq,rfl,rfl⟩:=hlow h1
   obtain ⟨v,g1,g2⟩:=h.slot q.1 _ (hkp.sub _ _ h1) h2
   obtain ⟨rfl,g3⟩:=b5.1 g2.1
   exact ⟨_,g1,m7 g3⟩
  ·have:=hlt h1;unfold c8 at this;omega
  ·have:=hlt h1;unfold c8 at this;omega
  ·have:=hlt h1;have:=h2.1;omega
  ·have:=hlt h1;have:=h2.1;omega
  ·have:=hlt h1;have:=h3.1;omega
 refine ⟨_,_,h0.put (bL hn) (bL h5) (J6 hr.1 hr.2 ?_)⟩
 unfold RR at hv ⊢
 split
 ·rename_i ht
  rw [if_pos ht] at hv
  obtain ⟨vs,h1,h2⟩:=hv
  exact ⟨vs,h1,h2.keep fun b o v hu _=>hu.elim⟩
 ·rename_i ht
  rw [if_neg ht] at hv
  exact hv.keep fun b o v hu _=>hu.elim
def b7O (P:Program) (w0:World) (U0:UX) (nt:Nat) (ops:Array Oper) (o:Oper) (F:World→Prop) (r:AV) (s:AS):Prop:=
 ((r.t=0∨r.t=4)∧r.n=0)∧∀ (M:Md) a w,Sim w0 U0 nt s a w→∀ (Q:Exit→Act→World→Prop) (K:Act→World→Prop),(∀ w' v,F w'→RR (fun _ _=>False) w' r v→K ((wdA a M.ds).put o.dst v) w') →
  Region.wanted o (yielded ops (wdA a M.ds).tmps)=true∧o.wpIn (s9 M.r) 1 P (wdA a M.ds) w K Q
theorem a7C {M:Md} {ops:Array Oper} {Q:Exit→Act→World→Prop} {l2:List Oper}:∀ {l:List Oper} {s:AS} {K:AS→Prop},a9D P w0 U0 nt ops l s K→(∀ s' a w,K s'→Sim w0 U0 nt s' a w→wpListIn (s9 M.r) 1 P ops Q l2 (wdA a M.ds) w)→∀ a w,Sim w0 U0 nt s a w→wpListIn (s9 M.r) 1 P ops Q (l++l2) (wdA a M.ds) w
 | [],s,K,h,hK,a,w,hs=>hK s a w h hs
 | o::os,s,K,⟨R,N,e,h1,h2,h3⟩,hK,a,w,hs=>by
  rw [List.cons_append]
  unfold wpListIn
  exact h1 s (fun _ _=>rfl) (y9 h2) M a w hs _ _ (fun a' w' hs'=>a7C h3 hK a' w' hs')
theorem A0 {id:Nat} {l:List Oper} (j:Nat) (kp:List (Nat×Value)) {oo:Oper} {dd:Nat} {r:AV} (hj:l[j]?=some oo) (hdo:oo.dst=some dd) (hnd:Nat.blt dd nt=true) (h5d:Nat.blt dd 100000=true)
  (hk5:(kp.all fun q=>Nat.blt q.1 100000)=true) (h:a9D P w0 U0 nt l.toArray (l.take j) s fun s1=>SubL s1 (kpS kp)∧b7O P w0 U0 nt l.toArray oo F r s1) (h2:∀ w1,F w1→a9D P w1 UE nt l.toArray (l.drop (j+1)) ((dd,r)::kpS kp) fun s'=>Qf .normal s'):AWpZ P w0 U0 nt F (.region id l.toArray false) Q Qf s:=by
 intro M a w hs
 refine wpIn_region_lit ?_
 have hsplit:l=l.take j++oo::l.drop (j+1):=by
  have hjl:j<l.length:=by
   rcases Nat.lt_or_ge j l.length with h | h
   ·exact h
   ·rw [List.getElem?_eq_none h] at hj;cases hj
  conv=>lhs;rw [←List.take_append_drop j l]
  congr 1
  rw [List.drop_eq_getElem_cons hjl]
  rw [List.getElem?_eq_getElem hjl] at hj
  injection hj with hj
  rw [hj]
 have key:wpListIn (s9 M.r) 1 P l.toArray (a4g M fun e a' w'=>(∃ s',Q e s'∧Sim w0 U0 nt s' a' w')∨∃ w1 s',F w1∧Qf e s'∧Sim w1 UE nt s' a' w') (l.take j++oo::l.drop (j+1)) (wdA a M.ds) w:=by
  refine a7C h ?_ a w hs
  rintro s1 a w ⟨hkp,hr,hF⟩ hs1
  unfold wpListIn
  obtain ⟨_,hF⟩:=hF M a w hs1 (a4g M fun e a' w'=>(∃ s',Q e s'∧Sim w0 U0 nt s' a' w')∨∃ w1 s',F w1∧Qf e s'∧Sim w1 UE nt s' a' w') (wpListIn (s9 M.r) 1 P l.toArray (a4g M fun e a' w'=>(∃ s',Q e s'∧Sim w0 U0 nt s' a' w')∨∃ w1 s',F w1∧Qf e s'∧Sim w1 UE nt s' a' w') (l.drop (j+1))) (fun w' v hf hv=>by
   rw [hdo,←a1Y]
   exact a1h (h2 w' hf) (fun s' a2 w2 k1 k2=>⟨a2,rfl,.inr ⟨w',s',hf,k1,k2⟩⟩) _ _ (b4S hs1 hnd h5d hr hv kp hkp hk5))
  rw [if_pos ‹_›]
  exact hF
 rw [←hsplit] at key
 exact key
variable {ops:Array Oper} {o:Oper} {S:Nat→Option AV} {gs:List Nat} {d:Nat}
theorem a1M {M:Md} {a:Act} {w:World} {x:Operand} {xs:Array Operand} {ts:Array TypeId} {l:Nat} {fn:FuncId} {tm:Array Value} {assign body:Code} (ho:o.op = .call { callee := .value x,args:=xs,argTypes:=ts }) (hfv:a.eval x = .func (.yield l) #[] #[]) (hy:(Instr.yield l (xs.toList.map a.eval).toArray).run P w = .ok (.round l fn tm assign body) w):(o.semAt (s9 M.r).round (wdA a M.ds).eval).run P w = .ok (.round l fn tm assign body) w:=by
 rw [Oper.semAt_eq _ _ _ (fun c hc=>by rw [ho] at hc;cases hc),a0Q]
 have harr:(xs.toList.map a.eval).toArray=xs.map a.eval:=by apply Array.ext';simp
 rw [harr] at hy
 generalize a.eval=ρ at hfv hy ⊢
 simp [execOp,ho,resolve,invoke,Deferred.ofValue,hfv,hy]
theorem J8 {W:World} (hW:Hw W w0 U0) {l:Nat} {cs:List CV} (hY:YT P w0 l cs) (hg:Gd w0 U0 nt ops o gs S) (hd:o.dst=some d) (hn:Nat.blt d nt=true) (h5:Nat.blt d 100000=true) {x:Operand} {xs:Array Operand} {ts:Array TypeId} {n q p} (ho:o.op = .call { callee := .value x,args:=xs,argTypes:=ts }) (hf:ev S x=some ⟨0,L8 l,n,q,p⟩) (hx:P7 S xs.toList=some cs):b6z P w0 U0 nt ops o (gs++(rd x++rdl xs.toList)) [] S [(d,.val (.b true))]:=by
 intro s hs hN M a w ⟨D,hv,h⟩ Q K hK
 show if Region.wanted o (yielded ops a.tmps)=true then _ else _
 rw [if_pos (hg s (fun k hk=>hs k (List.mem_append_left _ hk)) a w D hv h)]
 have hfv:a.eval x = .func (.yield l) #[] #[]:=s6 h (fun k hk=>hs k (List.mem_append_right _ (List.mem_append_left _ hk))) hf
 have hargs:=A8 h (fun k hk=>hs k (List.mem_append_right _ (List.mem_append_right _ hk))) hx
 obtain ⟨fn,tm,assign,body,hy,hR⟩:=hY _ w _ (h.below.below hW.2) hargs
 refine ⟨fun _ _=>trivial,?_⟩
 rw [a1M ho hfv hy,Oper.uponIn_round]
 refine ⟨(fun hh=>by cases hh),(a1C (ro:=M.r) hR).mono ?_⟩
 rintro e w' ⟨rfl,hb⟩
 have h10:=hK _ _ ⟨D,hv,(h.grow' hb).put (bL hn) (bL h5) (av := .val (.b true)) (v := .bool true) (m7 rfl)⟩
 rw [hd]
 exact h10
theorem O8 {W:World} (hW:Hw W w0 U0) {X:Nat→Prop} {F:World→World→Prop} (hF:a8m X F) {l:Nat} {cs:List CV} (hY:YF P w0 l cs F) {s:AS} (hg:Gd w0 U0 nt ops o gs (look s)) {x:Operand} {xs:Array Operand} {ts:Array TypeId} {n q p} (ho:o.op = .call { callee := .value x,args:=xs,argTypes:=ts }) (hf:ev (look s) x=some ⟨0,L8 l,n,q,p⟩) (hx:P7 (look s) xs.toList=some cs):b7O P w0 U0 nt ops o (F w0) (.val (.b false)) s:=by
 refine ⟨⟨.inl rfl,rfl⟩,fun M a w ⟨D,hv,h⟩ Q K hK=>⟨hg s (fun _ _=>rfl) a w D hv h,?_⟩⟩
 have hfv:a.eval x = .func (.yield l) #[] #[]:=s6 h (fun k hk=>rfl) hf
 have hargs:=A8 h (fun k hk=>rfl) hx
 obtain ⟨fn,tm,assign,body,hy,hR⟩:=hY _ w _ (h.below.below hW.2) hargs
 refine ⟨fun _ _=>trivial,?_⟩
 rw [a1M ho hfv hy,Oper.uponIn_round]
 refine ⟨(fun hh=>by cases hh),(a1C (ro:=M.r) hR).mono ?_⟩
 rintro e w' ⟨rfl,hb⟩
 exact hK w' (.bool false) (hF.pre _ _ _ (h.below.below hW.2) hb) (b5.2 ⟨rfl,rfl⟩)
theorem a1k {W:World} {X:Nat→Prop} {F:World→World→Prop} (hF:a8m X F) {q:(Nat→Nat→Prop)→World→Prop} (hQ:QUp q) (hW:Hw W w0 U0) (hq:q U0.m w0) {f:FuncId} {cs:List CV} {r:AV} (hc:a6g P q f cs r F) {s:AS} (hg:Gd w0 U0 nt ops o gs (look s)) {xs:Array Operand} {ts:Array TypeId} (ho:o.op = .call { callee := .value (.func f),args:=xs,argTypes:=ts }) (hx:P7 (look s) xs.toList=some cs):b7O P w0 U0 nt ops o (F w0) r s:=by
 obtain ⟨h1,h2,h3,h4⟩:=hc
 refine ⟨⟨h2,h3⟩,fun M a w ⟨D,hv,h⟩ Q K hK=>⟨hg s (fun _ _=>rfl) a w D hv h,?_⟩⟩
 have hargs:=A8 h (fun k hk=>rfl) hx
 have hcall:=h4 _ w _ (h.atQ hQ hW hq) hargs
 have he:(execOp a.eval o).run P w = .ok (.enter f (xs.toList.map a.eval).toArray) w:=by
  have hf:a.eval (.func f) = .func (.func f) #[] #[]:=rfl
  have hen:=h1 (xs.map a.eval) w
  have harr:(xs.toList.map a.eval).toArray=xs.map a.eval:=by apply Array.ext';simp
  rw [harr]
  generalize a.eval=ρ at hf hen ⊢
  simp [execOp,ho,resolve,invoke,Deferred.ofValue,hf,hen]
 refine ⟨fun _ _=>trivial,?_⟩
 rw [a0Q,Oper.semAt_eq _ _ _ (fun c hc=>by rw [ho] at hc;cases hc),he]
 refine ⟨(fun hh=>by cases hh),a0V (hcall.mono ?_)⟩
 rintro e w' ⟨v,rfl,h6,h7⟩
 exact hK w' v (hF.pre _ _ _ (h.below.below hW.2) h7) h6
theorem a7R {U V:Nat→Nat→Prop} {w:World}:∀ {cs:List CV} {vs:List Value},(∀ c∈cs,∃ v,c = .sc v)→VReps U w cs vs→VReps V w cs vs
 | [],_,_,h=>h
 | c::cs,vs,hc,⟨u,us,e,h1,h2⟩=>by
  obtain ⟨v,rfl⟩:=hc c (by simp)
  exact ⟨u,us,e,b5.2 (b5.1 h1),a7R (fun c h=>hc c (List.mem_cons_of_mem _ h)) h2⟩
theorem b8u {U V:Nat→Nat→Prop} {w:World} {rs:List CV} {v:Value} (hc:∀ c∈rs,∃ v,c = .sc v) (h:RR U w (A4 rs) v):RR V w (A4 rs) v:=by
 match rs,hc,h with
 | [],_,h=>exact h
 | [c],hc,h =>
  obtain ⟨u,rfl⟩:=hc c (by simp)
  exact b5.2 (b5.1 h)
 | c::d::rs,hc,h =>
  obtain ⟨vs,h1,h2⟩:=h
  exact ⟨vs,h1,a7R hc h2⟩
theorem a3E {X : Nat → Prop} {F : World → World → Prop} {q : (Nat → Nat → Prop) → World → Prop} {f : FuncId} {fn : Func} {c : Code} {args rs : List CV} (hf : P.funcs[f]? = some fn) (hn : fn.ntmps = nt) (hname : (fn.name == "runtime.NumGoroutine") = false) (hb : fn.body = some c) (hl : Nat.ble args.length nt = true) (hnt : Nat.blt nt 100000 = true) (hF : a8m X F) (hsc : ∀ c ∈ rs, ∃ v, c = .sc v)
  (h:∀ (w:World) (U:UX),Hw w w U→q U.m w→AWpZ P w U nt (F w) c (fun _ _=>False) (fun e s'=>(e = .normal∨e = .ret)∧a5U P s' fn.results.toList=some rs) (Z5 args 0)):a6g P q f args (A4 rs) F:=by
 have hr2:((A4 rs).t=0∨(A4 rs).t=4)∧(A4 rs).n=0:=by
  unfold A4
  split
  ·exact ⟨.inl rfl,rfl⟩
  ·exact ⟨.inr rfl,rfl⟩
 refine ⟨r9 hf hname (by rw [hb];rfl),hr2.1,hr2.2,fun U w vs hq hargs=>?_⟩
 have hlen:=hargs.len
 refine calls_of_wp hf hb ?_
 have hle:=Nat.le_of_ble_eq_true hl
 have hnt:=bL hnt
 have hno:∀ {k av},100000≤k→look (Z5 args 0) k=some av→False:=fun {k av} h1 h2=>by rw [T2 (by omega)] at h2;cases h2
 obtain ⟨V,hV⟩:∃ V:UX,V=⟨U,fun _=>False,fun _=>none,fun _ _ h=>by cases h⟩:=⟨_,rfl⟩
 have hs:Sim w V nt (Z5 args 0) { tmps:=vs.toArray++Array.replicate (fn.ntmps-vs.toArray.size) undef,defers:=[] } w:=by
  refine ⟨fun _ _=>False,fun _ => .slice none 0 0,BelowX.refl _ _,rfl,by simp [hn];omega,fun d av h1 h2=>?_,fun n o av h1=>(hno (by unfold c8;omega) h1).elim,fun n o o' av av' h1=>(hno (by unfold c8;omega) h1).elim,fun k av h1 h2=>(hno h2.1 h1).elim,fun k av g h1 h2=>(hno h2.1 h1).elim,fun k k' av av' g h1 h2 h3=>(hno h3.1 h1).elim,fun n g h1=>(by rw [hV] at h1;cases h1),fun b o hd=>hd.elim⟩
  obtain ⟨_,c',h3,rfl⟩:=H6 h1
  rw [Nat.sub_zero] at h3
  obtain ⟨v,h4,h5⟩:=hargs.at h3
  have hdl:d<vs.length:=by
   rcases Nat.lt_or_ge d vs.length with h | h
   ·exact h
   ·rw [List.getElem?_eq_none h] at h4;cases h4
  refine ⟨v,?_,i7 (h5.keep fun b o v hu hc=>⟨.inl ⟨World.block_lt_of_cell? w _ hc,by rw [hV];exact ⟨hu,fun h=>h⟩⟩,hc⟩)⟩
  rw [Array.getElem?_append_left (by simpa using hdl)]
  simpa using h4
 have hwp:=h w V (by rw [hV];exact ⟨fun _=>rfl,fun _ h=>h⟩) (by rw [hV];exact hq) ⟨none,[]⟩ _ w hs
 refine wp_mono (hwp.wp rfl (fun e a w h=>by
  rcases h with ⟨s,h0,_⟩ | ⟨_,_,_,_,h⟩
  ·exact h0.elim
  ·exact h.df)) ?_
 rintro e a' w' (⟨s',h0,_⟩ | ⟨w1,s',h0,⟨h1,h2⟩,D,hv,h3⟩)
 ·exact h0.elim
 obtain ⟨v,h4,h5⟩:=a2m h3 h2
 have hbel:Below w1.heap.size w1 w':=h3.below.below (fun k hk=>hk)
 have hR:RR (fun _ _=>False) w' (A4 rs) v:=b8u hsc h5
 rcases h1 with rfl | rfl
 ·exact ⟨h3.dfr,v,h4,v,rfl,hR,hF.up _ _ _ h0 hbel⟩
 ·exact ⟨h3.dfr,v,h4,v,rfl,hR,hF.up _ _ _ h0 hbel⟩
end
end Go.Proofs.YtekboofbedakcaaGreat
namespace Go.Proofs.YtekboofbedakcaaGreat
open Go.RowKit
set_option linter.unusedVariables false
set_option linter.unusedSimpArgs false
def a2d (w:World) (t:Tm) (e:Ending) (w':World):Prop:=∃ x a n c,x.tm=t.strip∧x.f=t.f∧x.h = .slice a n c∧e = .returned (.agg #[.int .i64 t.f,.slice a n c])∧XR (fun b _=>w.heap.size≤b) w' x∧x.bl.Nodup∧(∀ b∈x.bl,Fz w' b)∧Below w.heap.size w w'
set_option maxRecDepth 100000 in
set_option maxHeartbeats 800000 in
theorem a3P {U:Nat→Prop} {l:List Tm} {a:Option Addr} {n c:Nat} {w:World} (h:Las U w l a n c) (hn:n≤90000000000)
  (hC:∀ t∈l,∀ (a:Option Addr) (n c:Nat) (w':World),Tat U w' t a n c→Calls Tryz.prog 25 #[.agg #[.int .i64 t.f,.slice a n c]] w' (a2d w' t)) :
  Calls Tryz.prog 31 #[.slice a n c] w fun e w'=>∃ xs a c,xs.map XT.tm=l.map Tm.strip∧e = .returned (.slice a xs.length c)∧OwnX 37 w' w.heap.size (.slice a xs.length c) xs∧Below w.heap.size w w':=by
 have HL:=K3 h.len
 have HA:Hid (∀ w',Below w.heap.size w w'→Las U w' l a n c):=fun w' hb=>h.bw hb
 have HC:=K3 hC
 clear h hC
 go_enter Tryz.func31,Tryz.ntmps31
 go_wp2
 go_loopw [3,8] (fun vv i wr=>∃ (k:Nat) (av:Option Addr) (cv:Nat) (xs:List XT),vv = .slice av k cv∧i = .int .i64 (k:Int)∧k≤n∧xs.map XT.tm=(l.take k).map Tm.strip∧OwnX 37 wr w.heap.size (.slice av k cv) xs∧Below w.heap.size w wr) (fun _ i _=>n-(intOf i).toNat)
 case atStart=>exact ⟨0,_,_,[],rfl,rfl,by omega,rfl,OwnX.nil _ _ _,bW _⟩
 case round =>
  obtain ⟨k,av,cv,xs,rfl,rfl,hk,hxs,ho,hbr⟩:=hrel
  by_cases hlt:k<n
  ·obtain ⟨b,off,s,a',n',c',rfl,hU,hlt',hs,hT,e1,e2⟩:=(HA.out wr hbr).at hlt
   have HS:=K3 hs
   clear hs
   have hb1:Below wr.heap.size wr (wr.alloc (.cells #[.int .i64 s.f,.slice a' n' c'] 37)):=bA (bW _) _
   have HCall:=K3 (HC.out s (List.mem_of_getElem? HS.out) a' n' c' _ (hT.bw hb1))
   have HF:=K3 hT.wf
   have HApp:Hid (∀ w1 x a1 n1 c1,Below wr.heap.size wr w1→x.tm=s.strip→x.f=s.f→x.h = .slice a1 n1 c1→XR (fun b _=>wr.heap.size+1≤b) w1 x→x.bl.Nodup→(∀ b∈x.bl,Fz w1 b)→∃ a' c' w',Sem.run Tryz.prog (Builtin.append_ #[35,35] 35 #[.slice av k cv,.slice (some ⟨w1.heap.size,0,none⟩) 1 1]) (w1.alloc (.cells #[.int .i64 s.f,.slice a1 n1 c1] 37)) = .ok (.slice a' (k+1) c') w'∧(∃ xs,xs.map XT.tm=(l.take (k+1)).map Tm.strip∧OwnX 37 w' w.heap.size (.slice a' (k+1) c') xs)∧Below w.heap.size w w'):=by
    intro w1 x a1 n1 c1 hw1 hxt hxf hxh hxr hxn hxz
    have ho1:=ho.bw hw1
    have hkl:xs.length=k:=by have:=congrArg List.length hxs;simp only [List.length_map,List.length_take] at this;have:=HL.out;omega
    have hsz:=hbr.size
    have hall:=a9k ho.2.1
    obtain ⟨a',c',w',hr,h1,h2⟩:=b6K (P:=Tryz.prog) (B:=w.heap.size) (Nat.le_trans hbr.size hw1.size) 35 37 _ 32 Tryz.underlying35 a0J rfl (by decide) ho1 (x:=x) (hxr.keep fun b o u hu hc=>⟨by omega,hc⟩) hxn hxz (fun b hb hb2=>by
     obtain ⟨_,o,q⟩:=hxr.lt b hb
     have:=(hall b hb2).2
     omega) (fun b hb e=>by
     obtain ⟨_,o,q⟩:=hxr.lt b hb
     have:=(ho.lt e).2
     omega) (by omega)
    rw [hkl] at hr h1
    refine ⟨a',c',w',?_,⟨xs++[x],?_,h1⟩,(hbr.trans (hw1.mono hbr.size)).trans h2⟩
    ·rw [←hr]
     unfold XT.cs
     rw [hxf,hxh]
    ·rw [List.take_add_one,HS.out,List.map_append,List.map_append,hxs]
     simp [hxt]
   clear ho hT
   go_wp2_with (first
    | (go_at_call 25;refine HCall.out.mono ?_;rintro e w1 ⟨x1,a1,n1,c1,hxt,hxf,hxh,rfl,hxr,hxn,hxz,hb1'⟩;rw [World.size_alloc] at hxr;obtain ⟨a2,c2,w2,hr2,ho2,hb2⟩:=HApp.out w1 x1 a1 n1 c1 (bN hb1 hb1') hxt hxf hxh hxr hxn hxz;clear hxt hxf hxh hxr hxn hxz)
    | (at_builtin;refine G0 _ rfl _ _ _ rfl _ _ rfl rfl _ _ hr2 ?_))
   go_wp2
   go_roundw
   case rel =>
    obtain ⟨xs2,hxs2,ho2⟩:=ho2
    exact ⟨k+1,_,_,xs2,rfl,by go_num,by omega,hxs2,ho2,hb2⟩
   case measure=>simp [intOf];omega
  ·have HE:Hid (l.take k=l):=List.take_of_length_le (by have:=HL.out;omega)
   rw [HE.out] at hxs
   have HK:Hid (k=xs.length):=by show _=_;have:=HL.out;have h2:=congrArg List.length hxs;simp only [List.length_map] at h2;omega
   go_wp2
   go_ret
   exact ⟨xs,av,cv,hxs,by rw [←HK.out];rfl,by rw [←HK.out];exact ho,hbr⟩
set_option maxRecDepth 100000 in
set_option maxHeartbeats 800000 in
theorem P6 {U:Nat→Prop}:∀ (t:Tm) (a:Option Addr) (n c:Nat) (w:World),Tat U w t a n c→t.size≤90000000000→Calls Tryz.prog 25 #[.agg #[.int .i64 t.f,.slice a n c]] w (a2d w t):=by
 intro t
 induction t using Tm.indp with
 | h t ih =>
  intro a n c w ht hsz
  obtain ⟨w0,hw0⟩:∃ w0,w0=(w.alloc (.cells #[.int .i64 t.f,.slice a n c] 37)).alloc (.cells #[.int .i64 0,.slice none 0 0] 37):=⟨_,rfl⟩
  have HX:Hid (∀ w1,Below w0.heap.size w0 w1→w1.heap[w.heap.size+1]?=some (.cells #[.int .i64 0,.slice none 0 0] 37 (0,0))):=fun w1 hb=>by
   have h1:=World.alloc_heap_new (w.alloc (.cells #[.int .i64 t.f,.slice a n c] 37)) (.cells #[.int .i64 0,.slice none 0 0] 37)
   rw [World.size_alloc,←hw0] at h1
   exact (hb.block _ (Array.getElem?_eq_some_iff.1 h1).1).trans h1
  have HB:Hid (∀ w1,Below w0.heap.size w0 w1→((w1.cell? ⟨w.heap.size,0,none⟩=some (.int .i64 t.f)∧w1.cell? ⟨w.heap.size,1,none⟩=some (.slice a n c))∧(w1.cell? ⟨w.heap.size+1,0,none⟩=some (.int .i64 0)∧w1.cell? ⟨w.heap.size+1,1,none⟩=some (.slice none 0 0)))∧(w1.frozen? ⟨w.heap.size+1,0,none⟩=false∧w1.frozen? ⟨w.heap.size+1,1,none⟩=false)):=fun w1 hb=>by
   refine ⟨?_,I4 (HX.out w1 hb)⟩
   rw [hw0] at hb;exact b6f hb
  have HW:=K3 hw0
  have HB0:Hid (Below w.heap.size w w0):=by rw [hw0];exact bA (bA (bW _) _) _
  clear hw0
  have HP:Hid (∀ w1,Below w0.heap.size w0 w1→Calls Tryz.prog 43 #[.agg #[.int .i64 t.f,.slice a n c]] w1 fun e w'=>Below w1.heap.size w1 w'∧∃ a' n' c',e = .returned (.slice a' n' c')∧Las U w' t.ps a' n' c'):=fun w1 hb=>H1 (ht.bw (bN HB0.out hb))
  have hlp:=t.len_ps
  have HC:Hid (∀ w1 a' n' c',Las U w1 t.ps a' n' c'→Calls Tryz.prog 31 #[.slice a' n' c'] w1 fun e w'=>∃ xs a c,xs.map XT.tm=t.ps.map Tm.strip∧e = .returned (.slice a xs.length c)∧OwnX 37 w' w1.heap.size (.slice a xs.length c) xs∧Below w1.heap.size w1 w'):=fun w1 a' n' c' h=>a3P h (by have:=h.1;omega) (fun s hs a n c w' h'=>ih s hs a n c w' h' (by have:=Tm.size_part hs;omega))
  have HST:Hid (∀ w1 x y,Below w0.heap.size w0 w1→((w1.setCell ⟨w.heap.size+1,0,none⟩ x).setCell ⟨w.heap.size+1,1,none⟩ y).cell? ⟨w.heap.size,0,none⟩=some (.int .i64 t.f)∧((w1.setCell ⟨w.heap.size+1,0,none⟩ x).setCell ⟨w.heap.size+1,1,none⟩ y).cell? ⟨w.heap.size,1,none⟩=some (.slice a n c)):=fun w1 x y hb=>by
   have h1:=(HB.out w1 hb).1.1
   have h2:((w1.setCell ⟨w.heap.size+1,0,none⟩ x).setCell ⟨w.heap.size+1,1,none⟩ y).heap[w.heap.size]?=w1.heap[w.heap.size]?:=by
    rw [Below.heap_setCell _ _ _ _ (by show w.heap.size≠w.heap.size+1;omega),Below.heap_setCell _ _ _ _ (by show w.heap.size≠w.heap.size+1;omega)]
   exact ⟨(I1 h2).trans h1.1,(I1 h2).trans h1.2⟩
  have hq:Below w0.heap.size w0 w0:=bW _
  obtain ⟨⟨⟨c1,c2⟩,c3,c4⟩,c5,c6⟩:=HB.out w0 hq
  clear ih ht
  go_enter Tryz.func25,Tryz.ntmps25
  go_wp2_with fail
  rw [←HW.out]
  go_region_held3 (fun w'=>w'.cell? ⟨w.heap.size,0,none⟩=some (.int .i64 t.f)∧w'.cell? ⟨w.heap.size,1,none⟩=some (.slice a n c)) (first | (refine (HB.out _ ?_).1.1;with_reducible exact hq) | (refine (HB.out _ ?_).1.1;with_reducible exact bD hq) | (refine HST.out _ _ _ ?_;with_reducible exact hq))
   (first
    | (go_at_call 43;refine (HP.out _ (by first | with_reducible exact hq | with_reducible exact bD hq)).mono ?_;rintro e w2 ⟨hb2,a2,n2,c2,rfl,hl2⟩;replace hq:=bN (by first | with_reducible exact hq | with_reducible exact bD hq) hb2;clear hb2;dsimp only)
    | (go_at_call 31;refine (HC.out _ _ _ _ hl2).mono ?_;rintro e w3 ⟨xs3,a3,c3,hx3,rfl,ho3,hb3⟩;have hq2:=hq;replace hq:=bN (by first | with_reducible exact hq | with_reducible exact bD hq) hb3;obtain ⟨⟨_,d3,d4⟩,d5,d6⟩:=HB.out _ hq;dsimp only))
  go_wp2_with fail
  refine bodyPost_ret (V8 (g:=w.heap.size+1) rfl (E1 (HX.out _ hq) _ _)) rfl ?_
  have hle:w0.heap.size≤w2.heap.size:=hq2.size
  have hw0:w0.heap.size=w.heap.size+2:=by rw [HW.out];simp
  obtain ⟨_,hxr,hxn,hxz⟩:=ho3.xk t.f
  refine ⟨⟨t.f,a3,c3,xs3⟩,a3,_,c3,?_,rfl,rfl,rfl,?_,hxn,fun b hb=>(hxz b hb).same ?_,?_⟩
  ·rw [XT.tm_eq,Tm.strip_eq,←hx3]
  ·refine hxr.keep fun b o u hu hc=>⟨by omega,?_⟩
   have h2:b≠w.heap.size+1:=by omega
   rw [j7 (by rw [Below.heap_setCell _ _ _ _ (by show b≠w.heap.size+1;omega),Below.heap_setCell _ _ _ _ (by show b≠w.heap.size+1;omega)]:_=(w3.heap[b]?:Option Obj))]
   exact hc
  ·have h1:=(hxr.lt b hb).2
   obtain ⟨_,h1⟩:=h1
   have h2:b≠w.heap.size+1:=by omega
   rw [Below.heap_setCell _ _ _ _ (by show b≠w.heap.size+1;omega),Below.heap_setCell _ _ _ _ (by show b≠w.heap.size+1;omega)]
  ·exact ((bN HB0.out hq).setCell (p:=⟨w.heap.size+1,0,none⟩) (by show w.heap.size≤w.heap.size+1;omega) _).setCell (p:=⟨w.heap.size+1,1,none⟩) (by show w.heap.size≤w.heap.size+1;omega) _
end Go.Proofs.YtekboofbedakcaaGreat
namespace Go.Proofs.YtekboofbedakcaaGreat
open Go.RowKit Go.MapKept
set_option linter.unusedVariables false
set_option linter.unusedSimpArgs false
section
variable {P:Program} {w0:World} {U0:UX} {nt:Nat} {ops:Array Oper} {o:Oper} {S:Nat→Option AV} {gs:List Nat} {d:Nat} {s:AS} {a:Act} {w:World} {D:Nat→Nat→Prop} {hv:Nat→Value}
end
end Go.Proofs.YtekboofbedakcaaGreat
