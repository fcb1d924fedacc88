/-
 CodeMem RowMem AbXt AbMem AbSim AbStep AbData AbStep2 AbStep3 AbApp AbWalk AbRegion AbCode
-/
import Derived.WalkKit
import Derived.WalkLawsBesides
import Derived.WalkSpells
import Derived.Lib.AppendStr
import Derived.Laws.Tables
import Derived.Laws.CopyRow
import Derived.Great.BuildSlice
import Derived.RegionTactic
import Derived.RangeFuncIn
import Derived.RangeFuncLeaves
import Derived.TacticsIn
namespace Go.Proofs.YtekboofbedakcaaGreat
open Go.RowKit
set_option linter.unusedVariables false
theorem U7 {P:Program} {ops:Array Oper} {Q:Exit→Act→World→Prop} {a:Act} {w:World} {rest:List Oper} {o:Oper} (hgd:Region.wanted o (yielded ops a.tmps)=true)
  (h:∀ K:Act→World→Prop,(∀ a w,wpList P ops Q rest a w→K a w)→o.wp P a w K Q):wpList P ops Q (o::rest) a w:=
 wpList_step fun K hK=>by rw [if_pos hgd];exact h K hK
def Cs (w:World) (a:Option Addr) (xs:List Value):Prop:=
 xs=[]∨∃ b off,a=some ⟨b,off,none⟩∧b<w.heap.size∧∀ i,i<xs.length→w.cell? ⟨b,off+i,none⟩=xs[i]?
theorem Cs.below {B:Nat} {w w':World} {a:Option Addr} {xs:List Value} (h:Cs w a xs) (hb:Below B w w') (hB:w.heap.size≤B):Cs w' a xs:=by
 rcases h with h | ⟨b,off,ha,hlt,hc⟩
 ·exact .inl h
 ·exact .inr ⟨b,off,ha,Nat.lt_of_lt_of_le hlt hb.size,fun i hi=>by rw [hb.cell (by show b<B;omega)];exact hc i hi⟩
theorem A3 {w:World} {base:Nat} {e:TypeId} {size:Nat} {v:Value} {n:Nat} {xs:List Value} (h:w.ownsRow base e size v n xs) :
  ∃ a c,v = .slice a n c∧n≤c∧c≤maxLen∧(a=none→n=0∧c=0)∧Cs w a xs:=by
 have ho:=h
 obtain ⟨h1,h2⟩:=h
 rcases h2 with ⟨rfl,rfl⟩ | ⟨g,cap,cur,rfl,hb,hh,hn,hm,hs,ht⟩
 ·exact ⟨none,0,rfl,by omega,by simp,fun _=>⟨rfl,rfl⟩,.inl (List.eq_nil_of_length_eq_zero (by omega))⟩
 ·refine ⟨_,cap,rfl,hn,hm,(fun h=>by cases h),.inr ⟨g,0,rfl,?_,fun i hi=>?_⟩⟩
  ·rcases Nat.lt_or_ge g w.heap.size with h | h
   ·exact h
   ·rw [Array.getElem?_eq_none h] at hh;cases hh
  ·rw [show 0+i=i by omega]
   exact ho.cellAt i (by omega)
theorem p7 {w:World} {base base':Nat} {e:TypeId} {size:Nat} {v:Value} {n:Nat} {xs:List Value} (h:w.ownsRow base e size v n xs) (hb:base'≤base):w.ownsRow base' e size v n xs:=by
 obtain ⟨h1,h2⟩:=h
 refine ⟨h1,?_⟩
 rcases h2 with h2 | ⟨g,cap,cur,rfl,hg,r⟩
 ·exact .inl h2
 ·exact .inr ⟨g,cap,cur,rfl,by omega,r⟩
theorem C5 {B:Nat} {w w':World} {base:Nat} {e:TypeId} {size:Nat} {v:Value} {n:Nat} {xs:List Value} (h:w.ownsRow base e size v n xs) (hb:Below B w w') (hB:w.heap.size≤B):w'.ownsRow base e size v n xs:=by
 obtain ⟨h1,h2⟩:=h
 refine ⟨h1,?_⟩
 rcases h2 with h2 | ⟨g,cap,cur,rfl,hg,hh,r⟩
 ·exact .inl h2
 ·refine .inr ⟨g,cap,cur,rfl,hg,?_,r⟩
  rw [hb.block g]
  ·exact hh
  ·rcases Nat.lt_or_ge g w.heap.size with h | h
   ·omega
   ·rw [Array.getElem?_eq_none h] at hh;cases hh
theorem a1A {base:Nat} {w w':World} {e:TypeId} {size:Nat} {v:Value} {n:Nat} {xs:List Value} (hown:w.ownsRow base e size v n xs) (hg:w.grownBy w' v.ownBlock) (hbase:base≤w.heap.size):Below base w w':=
 (Below.refl _ _).grown hg hbase fun k hk=>(hown.lt k hk).1
theorem Cs.new (w:World) (xs:List Value) (t:TypeId):Cs (w.alloc (.cells xs.toArray t)) (some ⟨w.heap.size,0,none⟩) xs:=by
 refine .inr ⟨_,0,rfl,by simp,fun i hi=>?_⟩
 have e:(⟨w.heap.size,0+i,none⟩:Addr)=⟨w.heap.size,i,none⟩:=by rw [Nat.zero_add]
 rw [e,World.cell?_alloc_mark]
 simp
theorem G6 {P:Program} (w:World) {ops:Array Oper} {rest:List Oper} {o:Oper} {a:Act} {Q:Exit→Act→World→Prop} (hgd:Region.wanted o (yielded ops a.tmps)=true) (s x:Operand) (t:TypeId)
  (ho:o.op = .call { callee := .builtin .append,args := #[s,x],argTypes := #[t,t] })
  (base:Nat) (e:TypeId) (z:Value) (size bytes:Nat) (ht:P.underlying t=some (.slice e)) (hi:(P.info? e).map (fun i=>(i.zero,i.size,i.bytes))=some (some z,size,bytes)) (hzs:z.cells.size=size) (hsz:0<size)
  (v:Value) (n:Nat) (xs:List Value) (hs:a.eval s=v) (hown:w.ownsRow base e size v n xs)
  (ao:Option Addr) (m c:Nat) (ys:List Value) (hx:a.eval x = .slice ao m c) (hnil:ao=none→m=0∧c=0) (hb:Cs w ao ys) (hl:ys.length=m*size) (h1:∀ u∈ys,u.oneCell'=true)
  (h63:n+m≤maxLen) (hbytes:(n+m)*bytes≤140737488355328) (hbase:base≤w.heap.size)
  (h:∀ v' w',w'.ownsRow base e size v' (n+m) (xs++ys)→w.grownBy w' v.ownBlock→wpList P ops Q rest (a.put o.dst v') w'):wpList P ops Q (o::rest) a w:=by
 obtain ⟨i,hi1,hi2,hi3,hi4⟩:=info_parts hi
 refine U7 hgd fun K hK=>?_
 cases ao with
 | none =>
  obtain ⟨rfl,rfl⟩:=hnil rfl
  have:ys=[]:=List.eq_nil_of_length_eq_zero (by omega)
  subst this
  have hrun:=run_append_owned_none (P:=P) (w:=w) base t o.type e i size ht hi1 v _ _ hown
  unfold Oper.wp
  simp [execOp,ho,resolve,invoke,builtin,hs,hx,hrun,Result.andThen]
  exact hK _ _ (h v w (by simpa using hown) (World.grownBy.refl _ _))
 | some ad =>
  refine wp_append_own w s x t ho base e i z size bytes ht hi1 hi2 hi3 hi4 hzs hsz v _ _ hs hown ad m c ys hx hl ?_ h1 h63 hbytes hbase ?_
  ·intro j u hj
   have hjl:j<ys.length:=by
    rcases Nat.lt_or_ge j ys.length with h | h
    ·exact h
    ·rw [List.getElem?_eq_none h] at hj;cases hj
   rcases hb with rfl | ⟨b,off,ha,hlt,hc⟩
   ·simp at hjl
   ·cases ha
    have e:(⟨b,off,none⟩:Addr).add j=⟨b,off+j,none⟩:=by simp [Addr.add]
    rw [e,hc j hjl,hj]
  ·intro v' w' h5 h6 _
   exact hK _ _ (h v' w' h5 h6)
structure XT where
 f:Int
 a:Option Addr
 c:Nat
 l:List XT
theorem XT.ind {Q:XT→Prop} (h:∀ f a c l,(∀ t∈l,Q t)→Q ⟨f,a,c,l⟩):∀ t,Q t:=by
 intro t
 induction hn:SizeOf.sizeOf t using Nat.strongRecOn generalizing t with
 | ind n ih =>
  cases t with
  | mk f a c l =>
   refine h f a c l fun s hs=>ih (SizeOf.sizeOf s) ?_ s rfl
   have:=List.sizeOf_lt_of_mem hs
   simp at hn
   omega
def XT.h (x:XT):Value := .slice x.a x.l.length x.c
def XT.cs (x:XT):List Value:=[.int .i64 x.f,x.h]
def XK (U:Nat→Nat→Prop) (w:World) (x:XT):Prop:=
 x.l.length≤x.c∧x.c≤maxLen∧(x.a=none→x.l.length=0∧x.c=0)∧∃ g off,(x.l≠[]→x.a=some ⟨g,off,none⟩)∧∀ i y,x.l[i]?=some y→(U g (off+2*i)∧w.cell? ⟨g,off+2*i,none⟩=some (.int .i64 y.f))∧(U g (off+(2*i+1))∧w.cell? ⟨g,off+(2*i+1),none⟩=some y.h)
def XR (U:Nat→Nat→Prop) (w:World):XT→Prop
 | ⟨f,a,c,l⟩=>XK U w ⟨f,a,c,l⟩∧∀ y∈l,XR U w y
theorem L4 {U:Nat→Nat→Prop} {w:World} {x:XT}:XR U w x↔XK U w x∧∀ y∈x.l,XR U w y:=by
 cases x with
 | mk f a c l=>rw [XR]
def XT.bb (x:XT):List Nat:=match x.a,x.l with
 | some ad,_::_=>[ad.block]
 | _,_=>[]
def XT.bl:XT→List Nat
 | ⟨f,a,c,l⟩=>(XT.mk f a c l).bb++(l.map XT.bl).flatten
theorem XT.bl_eq (x:XT):x.bl=x.bb++x.l.flatMap XT.bl:=by
 cases x with
 | mk f a c l=>rw [XT.bl,←List.flatMap_def]
theorem XK.keep {U V:Nat→Nat→Prop} {w w':World} {x:XT} (hs:∀ b o v,b∈x.bb→U b o→w.cell? ⟨b,o,none⟩=some v→V b o∧w'.cell? ⟨b,o,none⟩=some v) (h:XK U w x):XK V w' x:=by
 obtain ⟨h1,h2,h3,g,off,h4,h5⟩:=h
 refine ⟨h1,h2,h3,g,off,h4,fun i y hy=>?_⟩
 obtain ⟨⟨a1,a2⟩,b1,b2⟩:=h5 i y hy
 have hb:g∈x.bb:=by
  have hne:x.l≠[]:=fun e=>by rw [e] at hy;simp at hy
  have:=h4 hne
  unfold XT.bb
  rw [this]
  cases hl:x.l with
  | nil=>exact absurd hl hne
  | cons _ _=>simp
 exact ⟨hs _ _ _ hb a1 a2,hs _ _ _ hb b1 b2⟩
theorem XR.keepB {U V:Nat→Nat→Prop} {w w':World}:∀ {x:XT},(∀ b o v,b∈x.bl→U b o→w.cell? ⟨b,o,none⟩=some v→V b o∧w'.cell? ⟨b,o,none⟩=some v)→XR U w x→XR V w' x:=by
 intro x
 induction x using XT.ind with
 | h f a c l ih =>
  intro hs h
  rw [L4] at h ⊢
  rw [XT.bl_eq] at hs
  refine ⟨h.1.keep fun b o v hb=>hs b o v (List.mem_append_left _ hb),fun y hy=>ih y hy (fun b o v hb=>hs b o v (List.mem_append_right _ (List.mem_flatMap.2 ⟨y,hy,hb⟩))) (h.2 y hy)⟩
theorem XR.keep {U V:Nat→Nat→Prop} {w w':World} (hs:∀ b o v,U b o→w.cell? ⟨b,o,none⟩=some v→V b o∧w'.cell? ⟨b,o,none⟩=some v) {x:XT} (h:XR U w x):XR V w' x:=h.keepB fun b o v _=>hs b o v
theorem XK.lt {U:Nat→Nat→Prop} {w:World} {x:XT} (h:XK U w x):∀ b∈x.bb,b<w.heap.size∧∃ o,U b o:=by
 obtain ⟨h1,h2,h3,g,off,h4,h5⟩:=h
 intro b hb
 unfold XT.bb at hb
 split at hb
 ·rename_i ad y ys e1 e2
  have:=h4 (by rw [e2];simp)
  rw [e1] at this
  cases this
  simp only [List.mem_singleton] at hb
  subst hb
  obtain ⟨⟨a1,a2⟩,_⟩:=h5 0 y (by rw [e2];rfl)
  exact ⟨World.block_lt_of_cell? w _ a2,_,a1⟩
 ·cases hb
theorem XR.lt {U:Nat→Nat→Prop} {w:World}:∀ {x:XT},XR U w x→∀ b∈x.bl,b<w.heap.size∧∃ o,U b o:=by
 intro x
 induction x using XT.ind with
 | h f a c l ih =>
  intro h b hb
  rw [L4] at h
  rw [XT.bl_eq,List.mem_append,List.mem_flatMap] at hb
  rcases hb with hb | ⟨y,hy,hb⟩
  ·exact h.1.lt b hb
  ·exact ih y hy (h.2 y hy) b hb
def nOf:Value→Nat
 | .int _ z=>z.toNat
 | _=>0
structure CV where
 k:Nat
 v:Value
 l:List CV
abbrev CV.sc (v:Value):CV:=⟨0,v,[]⟩
abbrev CV.i (z:Int):CV:=⟨0,.int .i64 z,[]⟩
abbrev CV.b (z:Bool):CV:=⟨0,.bool z,[]⟩
abbrev CV.lst (l:List CV):CV:=⟨1,.nilFunc,l⟩
abbrev CV.row (l:List CV):CV:=⟨2,.nilFunc,l⟩
abbrev CV.ptr (c:CV):CV:=⟨4,.nilFunc,[c]⟩
abbrev CV.fn (f n:Nat) (l:List CV):CV:=⟨10+n,.func (.func f) #[] #[],l⟩
abbrev CV.own (n:Nat) (l:List CV):CV:=⟨6,.int .i64 (n:Int),l⟩
noncomputable def XT.cv (x:XT):CV:=XT.rec (motive_1:=fun _=>CV) (motive_2:=fun _=>List CV) (fun f _ _ _ ih => .row [.i f,.lst ih]) [] (fun _ _ a b=>a::b) x
noncomputable def CV.size (c:CV):Nat:=CV.rec (motive_1:=fun _=>Nat) (motive_2:=fun _=>Nat) (fun k _ _ ih=>match Nat.beq k 2 with | true=>ih | false=>1) 0 (fun _ _ a b=>a+b) c
theorem CV.size_mk (k:Nat) (v:Value) (l:List CV):(CV.mk k v l).size=if k=2 then (l.map CV.size).sum else 1:=by
 have hl:∀ l:List CV,CV.rec_1 (motive_1:=fun _=>Nat) (motive_2:=fun _=>Nat) (fun k _ _ ih=>match Nat.beq k 2 with | true=>ih | false=>1) 0 (fun _ _ a b=>a+b) l=(l.map CV.size).sum:=by
  intro l
  induction l with
  | nil=>rfl
  | cons c cs ih=>rw [List.map_cons,List.sum_cons,←ih];rfl
 rw [←hl]
 by_cases h:k=2
 ·subst h;rfl
 ·rw [if_neg h]
  have:Nat.beq k 2=false:=by
   cases e:Nat.beq k 2 with
   | false=>rfl
   | true=>exact absurd (Nat.eq_of_beq_eq_true e) h
  show (match Nat.beq k 2 with | true=>_ | false=>1)=1
  rw [this]
def Sq:List (List Value→Prop)→List Value→Prop
 | [],xs=>xs=[]
 | p::ps,xs=>∃ ys zs,xs=ys++zs∧p ys∧Sq ps zs
def At (U:Nat→Nat→Prop) (w:World) (a:Option Addr) (xs:List Value):Prop:=
 xs=[]∨∃ b off,a=some ⟨b,off,none⟩∧∀ i,i<xs.length→U b (off+i)∧w.cell? ⟨b,off+i,none⟩=xs[i]?
def Rep (U:Nat→Nat→Prop) (w:World):CV→List Value→Prop
 | ⟨k,v,l⟩,xs =>
  if k=2 then Sq (l.map fun c=>Rep U w c) xs
  else if k=1 then ∃ a n c,xs=[.slice a n c]∧n=l.length∧n≤c∧c≤maxLen∧(a=none→n=0∧c=0)∧∃ ys,At U w a ys∧Sq (l.map fun c=>Rep U w c) ys
  else if k=4 then ∃ b off ys,xs=[.pointer (some ⟨b,off,none⟩)]∧Sq (l.map fun c=>Rep U w c) ys∧∀ i,i<ys.length→U b (off+i)∧w.cell? ⟨b,off+i,none⟩=ys[i]?
  else if k=6 then ∃ x:XT,xs=[x.h]∧x.l.map XT.cv=l∧XR (fun b o=>U b o∧nOf v≤b) w x∧x.bl.Nodup
  else if 10≤k then ∃ (fn:Fn) (ys zs:List Value),v = .func fn #[] #[]∧xs=[.func fn ys.toArray zs.toArray]∧ys.length+10=k∧Sq (l.map fun c=>Rep U w c) (ys++zs)∧∀ c∈l,c.k≠2
  else xs=[v]∧v.oneCell'=true
theorem t7 {U:Nat→Nat→Prop} {w:World} {v:Value} {xs:List Value}:Rep U w (.sc v) xs↔xs=[v]∧v.oneCell'=true:=by
 rw [Rep];simp
theorem I0 {U:Nat→Nat→Prop} {w:World} {l:List CV} {xs:List Value}:Rep U w (.lst l) xs↔∃ a n c,xs=[.slice a n c]∧n=l.length∧n≤c∧c≤maxLen∧(a=none→n=0∧c=0)∧∃ ys,At U w a ys∧Sq (l.map fun c=>Rep U w c) ys:=by
 rw [Rep];simp
theorem s8 {U:Nat→Nat→Prop} {w:World} {l:List CV} {xs:List Value}:Rep U w (.row l) xs↔Sq (l.map fun c=>Rep U w c) xs:=by
 rw [Rep];simp
theorem b5l {U:Nat→Nat→Prop} {w:World} {c:CV} {xs:List Value}:Rep U w (.ptr c) xs↔∃ b off ys,xs=[.pointer (some ⟨b,off,none⟩)]∧Rep U w c ys∧∀ i,i<ys.length→U b (off+i)∧w.cell? ⟨b,off+i,none⟩=ys[i]?:=by
 rw [Rep,if_neg (by decide),if_neg (by decide),if_pos rfl]
 constructor
 ·rintro ⟨b,off,ys,h1,⟨y1,y2,e,h2,h3⟩,h4⟩
  have h3:y2=[]:=h3
  subst h3
  rw [List.append_nil] at e
  subst e
  exact ⟨b,off,ys,h1,h2,h4⟩
 ·rintro ⟨b,off,ys,h1,h2,h3⟩
  exact ⟨b,off,ys,h1,⟨ys,[],by simp,h2,rfl⟩,h3⟩
theorem a9Y {U:Nat→Nat→Prop} {w:World} {n:Nat} {l:List CV} {xs:List Value}:Rep U w (.own n l) xs↔∃ x:XT,xs=[x.h]∧x.l.map XT.cv=l∧XR (fun b o=>U b o∧n≤b) w x∧x.bl.Nodup:=by
 rw [Rep];simp [nOf]
theorem b7A {U:Nat→Nat→Prop} {w:World} {f n:Nat} {l:List CV} {xs:List Value}:Rep U w (.fn f n l) xs↔∃ (ys zs:List Value),xs=[.func (.func f) ys.toArray zs.toArray]∧ys.length=n∧Sq (l.map fun c=>Rep U w c) (ys++zs)∧∀ c∈l,c.k≠2:=by
 rw [Rep,if_neg (by omega),if_neg (by omega),if_neg (by omega),if_neg (by omega),if_pos (by omega)]
 constructor
 ·rintro ⟨fn,ys,zs,h1,h2,h3,h4⟩
  injection h1 with h1 _ _
  subst h1
  exact ⟨ys,zs,h2,by omega,h4⟩
 ·rintro ⟨ys,zs,h2,h3,h4⟩
  exact ⟨_,ys,zs,rfl,h2,by omega,h4⟩
theorem F3 {U:Nat→Nat→Prop} {w:World} (k:IntKind) (z:Int):Rep U w (.sc (.int k z)) [.int k z]:=t7.2 ⟨rfl,rfl⟩
theorem b3u {U:Nat→Nat→Prop} {w:World} (z:Bool):Rep U w (.b z) [.bool z]:=t7.2 ⟨rfl,rfl⟩
theorem CV.ind {Q:CV→Prop} (h:∀ k v l,(∀ c∈l,Q c)→Q ⟨k,v,l⟩):∀ c,Q c:=by
 intro t
 induction hn:SizeOf.sizeOf t using Nat.strongRecOn generalizing t with
 | ind n ih =>
  cases t with
  | mk k v l =>
   refine h k v l fun s hs=>ih (SizeOf.sizeOf s) ?_ s rfl
   have:=List.sizeOf_lt_of_mem hs
   simp at hn
   omega
theorem a2c {f g:CV→List Value→Prop}:∀ {l:List CV},(∀ c∈l,∀ xs,f c xs→g c xs)→∀ {xs:List Value},Sq (l.map f) xs→Sq (l.map g) xs
 | [],_,_,h=>h
 | c::cs,h,xs,⟨ys,zs,e,h1,h2⟩=>⟨ys,zs,e,h c (by simp) _ h1,a2c (fun d hd=>h d (List.mem_cons_of_mem _ hd)) h2⟩
theorem F7 {f:CV→List Value→Prop} {n:CV→Nat}:∀ {l:List CV},(∀ c∈l,∀ xs,f c xs→xs.length=n c)→∀ {xs:List Value},Sq (l.map f) xs→xs.length=(l.map n).sum
 | [],_,_,h=>by have h:_=[]:=h;rw [h];rfl
 | c::cs,h,xs,⟨ys,zs,e,h1,h2⟩=>by
  have:=h c (by simp) _ h1
  have:=F7 (fun d hd=>h d (List.mem_cons_of_mem _ hd)) h2
  rw [e,List.length_append,List.map_cons,List.sum_cons]
  omega
theorem Rep.len {U:Nat→Nat→Prop} {w:World}:∀ {c:CV} {xs:List Value},Rep U w c xs→xs.length=c.size:=by
 intro c
 induction c using CV.ind with
 | h k v l ih =>
  intro xs h
  rw [Rep] at h
  rw [CV.size_mk]
  by_cases hk:k=2
  ·rw [if_pos hk] at h ⊢
   exact F7 ih h
  ·rw [if_neg hk] at h ⊢
   by_cases hk1:k=1
   ·rw [if_pos hk1] at h
    obtain ⟨a,n,c,rfl,_⟩:=h
    rfl
   ·rw [if_neg hk1] at h
    by_cases hk4:k=4
    ·rw [if_pos hk4] at h
     obtain ⟨b,off,ys,rfl,_⟩:=h
     rfl
    ·rw [if_neg hk4] at h
     by_cases hk6:k=6
     ·rw [if_pos hk6] at h
      obtain ⟨x,rfl,_⟩:=h
      rfl
     rw [if_neg hk6] at h
     by_cases hk10:10≤k
     ·rw [if_pos hk10] at h
      obtain ⟨fn,ys,zs,_,rfl,_⟩:=h
      rfl
     ·rw [if_neg hk10] at h
      rw [h.1];rfl
theorem a9a {f:CV→List Value→Prop}:∀ {l:List CV},(∀ c∈l,∀ xs,f c xs→∀ u∈xs,u.oneCell'=true)→∀ {xs:List Value},Sq (l.map f) xs→∀ u∈xs,u.oneCell'=true
 | [],_,_,h=>by have h:_=[]:=h;rw [h];simp
 | c::cs,h,xs,⟨ys,zs,e,h1,h2⟩=>by
  intro u hu
  rw [e,List.mem_append] at hu
  rcases hu with hu | hu
  ·exact h c (by simp) _ h1 u hu
  ·exact a9a (fun d hd=>h d (List.mem_cons_of_mem _ hd)) h2 u hu
theorem Rep.one {U:Nat→Nat→Prop} {w:World}:∀ {c:CV} {xs:List Value},Rep U w c xs→∀ u∈xs,u.oneCell'=true:=by
 intro c
 induction c using CV.ind with
 | h k v l ih =>
  intro xs h
  rw [Rep] at h
  by_cases hk:k=2
  ·rw [if_pos hk] at h
   exact a9a ih h
  ·rw [if_neg hk] at h
   by_cases hk1:k=1
   ·rw [if_pos hk1] at h
    obtain ⟨a,n,c,rfl,_⟩:=h
    simp [Value.oneCell']
   ·rw [if_neg hk1] at h
    by_cases hk4:k=4
    ·rw [if_pos hk4] at h
     obtain ⟨b,off,ys,rfl,_⟩:=h
     simp [Value.oneCell']
    ·rw [if_neg hk4] at h
     by_cases hk6:k=6
     ·rw [if_pos hk6] at h
      obtain ⟨x,rfl,_⟩:=h
      simp [XT.h,Value.oneCell']
     rw [if_neg hk6] at h
     by_cases hk10:10≤k
     ·rw [if_pos hk10] at h
      obtain ⟨fn,ys,zs,_,rfl,_⟩:=h
      simp [Value.oneCell']
     ·rw [if_neg hk10] at h
      rw [h.1]
      simpa using h.2
theorem At.keep {U V:Nat→Nat→Prop} {w w':World} {a:Option Addr} {xs:List Value} (h:At U w a xs) (hs:∀ b o v,U b o→w.cell? ⟨b,o,none⟩=some v→V b o∧w'.cell? ⟨b,o,none⟩=some v):At V w' a xs:=by
 rcases h with h | ⟨b,off,ha,hc⟩
 ·exact .inl h
 ·refine .inr ⟨b,off,ha,fun i hi=>?_⟩
  obtain ⟨h1,h2⟩:=hc i hi
  rw [List.getElem?_eq_getElem hi] at h2 ⊢
  exact hs b (off+i) _ h1 h2
theorem Rep.keep {U V:Nat→Nat→Prop} {w w':World} (hs:∀ b o v,U b o→w.cell? ⟨b,o,none⟩=some v→V b o∧w'.cell? ⟨b,o,none⟩=some v):∀ {c:CV} {xs:List Value},Rep U w c xs→Rep V w' c xs:=by
 intro c
 induction c using CV.ind with
 | h k v l ih =>
  intro xs h
  rw [Rep] at h ⊢
  by_cases hk:k=2
  ·rw [if_pos hk] at h ⊢
   exact a2c (fun c hc xs h=>ih c hc h) h
  ·rw [if_neg hk] at h ⊢
   by_cases hk1:k=1
   ·rw [if_pos hk1] at h ⊢
    obtain ⟨a,n,c,h1,h2,h3,h4,h5,ys,h6,h7⟩:=h
    exact ⟨a,n,c,h1,h2,h3,h4,h5,ys,h6.keep hs,a2c (fun c hc xs h=>ih c hc h) h7⟩
   ·rw [if_neg hk1] at h ⊢
    by_cases hk4:k=4
    ·rw [if_pos hk4] at h ⊢
     obtain ⟨b,off,ys,h1,h2,h3⟩:=h
     refine ⟨b,off,ys,h1,a2c (fun c hc xs h=>ih c hc h) h2,fun i hi=>?_⟩
     obtain ⟨h7,h8⟩:=h3 i hi
     rw [List.getElem?_eq_getElem hi] at h8 ⊢
     exact hs _ _ _ h7 h8
    ·rw [if_neg hk4] at h ⊢
     by_cases hk6:k=6
     ·rw [if_pos hk6] at h ⊢
      obtain ⟨x,h1,h2,h3,h4⟩:=h
      exact ⟨x,h1,h2,h3.keep fun b o v hu hc=>⟨⟨(hs b o v hu.1 hc).1,hu.2⟩,(hs b o v hu.1 hc).2⟩,h4⟩
     rw [if_neg hk6] at h ⊢
     by_cases hk10:10≤k
     ·rw [if_pos hk10] at h ⊢
      obtain ⟨fn,ys,zs,h1,h2,h3,h4,h5⟩:=h
      exact ⟨fn,ys,zs,h1,h2,h3,a2c (fun c hc xs h=>ih c hc h) h4,h5⟩
     ·rw [if_neg hk10] at h ⊢
      exact h
theorem Sq.keep {U V:Nat→Nat→Prop} {w w':World} (hs:∀ b o v,U b o→w.cell? ⟨b,o,none⟩=some v→V b o∧w'.cell? ⟨b,o,none⟩=some v) {l:List CV} {xs:List Value} (h:Sq (l.map fun c=>Rep U w c) xs):Sq (l.map fun c=>Rep V w' c) xs:=a2c (fun c _ xs h=>h.keep hs) h
theorem D6 {ps qs:List (List Value→Prop)}:∀ {xs ys:List Value},Sq ps xs→Sq qs ys→Sq (ps++qs) (xs++ys):=by
 induction ps with
 | nil=>intro xs ys h1 h2;have h1:xs=[]:=h1;rw [h1];exact h2
 | cons p ps ih =>
  rintro xs ys ⟨a,b,rfl,h3,h4⟩ h2
  exact ⟨a,b++ys,List.append_assoc _ _ _,h3,ih h4 h2⟩
theorem G7 {ps qs:List (List Value→Prop)}:∀ {xs:List Value},Sq (ps++qs) xs→∃ ys zs,xs=ys++zs∧Sq ps ys∧Sq qs zs:=by
 induction ps with
 | nil=>intro xs h;exact ⟨[],xs,rfl,rfl,h⟩
 | cons p ps ih =>
  rintro xs ⟨a,b,rfl,h3,h4⟩
  obtain ⟨y,z,rfl,h5,h6⟩:=ih h4
  exact ⟨a++y,z,(List.append_assoc _ _ _).symm,⟨a,y,rfl,h3,h5⟩,h6⟩
theorem b1L {p:List Value→Prop} {xs:List Value} (h:p xs):Sq [p] xs:=⟨xs,[],by simp,h,rfl⟩
def VRep (U:Nat→Nat→Prop) (w:World) (c:CV) (v:Value):Prop:=
 if c.k=2 then ∃ xs:List Value,v = .agg xs.toArray∧Rep U w c xs else Rep U w c [v]
theorem VRep.keep {U V:Nat→Nat→Prop} {w w':World} (hs:∀ b o v,U b o→w.cell? ⟨b,o,none⟩=some v→V b o∧w'.cell? ⟨b,o,none⟩=some v) {c:CV} {v:Value} (h:VRep U w c v):VRep V w' c v:=by
 unfold VRep at h ⊢
 split
 ·rename_i hk
  rw [if_pos hk] at h
  obtain ⟨xs,h1,h2⟩:=h
  exact ⟨xs,h1,h2.keep hs⟩
 ·rename_i hk
  rw [if_neg hk] at h
  exact h.keep hs
theorem VRep.mono {U V:Nat→Nat→Prop} {w:World} (hU:∀ b o,U b o→V b o) {c:CV} {v:Value} (h:VRep U w c v):VRep V w c v:=h.keep fun b o v h1 h2=>⟨hU b o h1,h2⟩
theorem VRep.cells {U:Nat→Nat→Prop} {w:World} {c:CV} {v:Value} (h:VRep U w c v):Rep U w c v.cells.toList:=by
 unfold VRep at h
 split at h
 ·obtain ⟨xs,rfl,h2⟩:=h
  simpa [Value.cells] using h2
 ·have h1:=h.one v (by simp)
  have:v.cells = #[v]:=by cases v<;>first | rfl | simp [Value.oneCell'] at h1
  rw [this]
  exact h
theorem b5 {U:Nat→Nat→Prop} {w:World} {v u:Value}:VRep U w (.sc v) u↔u=v∧v.oneCell'=true:=by
 rw [show VRep U w (.sc v) u=Rep U w (.sc v) [u] from rfl,t7];simp
theorem d8 {U:Nat→Nat→Prop} {w:World} {l:List CV} {u:Value}:VRep U w (.lst l) u↔∃ a n c,u = .slice a n c∧n=l.length∧n≤c∧c≤maxLen∧(a=none→n=0∧c=0)∧∃ ys,At U w a ys∧Sq (l.map fun c=>Rep U w c) ys:=by
 rw [show VRep U w (.lst l) u=Rep U w (.lst l) [u] from rfl,I0];simp
theorem A5 {U:Nat→Nat→Prop} {w:World} {l:List CV} {u:Value}:VRep U w (.row l) u↔∃ xs:List Value,u = .agg xs.toArray∧Sq (l.map fun c=>Rep U w c) xs:=by
 rw [show VRep U w (.row l) u=∃ xs:List Value,u = .agg xs.toArray∧Rep U w (.row l) xs from rfl]
 simp only [s8]
noncomputable def Z3:List CV→Nat→Option (Nat×CV)
 | [],_=>none
 | c::cs,0=>some (0,c)
 | c::cs,i+1=>match Z3 cs i with | some (n,x)=>some (c.size+n,x) | none=>none
noncomputable def CV.at:CV→List Nat→Option (Nat×CV)
 | c,[]=>some (0,c)
 | ⟨k,_,l⟩,i::p=>match Nat.beq k 2,Z3 l i with
  | true,some (n,c)=>match c.at p with | some (m,x)=>some (n+m,x) | none=>none
  | _,_=>none
theorem T9 {f:CV→List Value→Prop} (hf:∀ c xs,f c xs→xs.length=c.size):∀ {l:List CV} {i n:Nat} {c:CV},Z3 l i=some (n,c)→l[i]?=some c∧∀ {xs:List Value},Sq (l.map f) xs→∃ ys zs us,xs=ys++zs++us∧ys.length=n∧f c zs∧∀ (c':CV) (zs':List Value),f c' zs'→Sq ((l.set i c').map f) (ys++zs'++us)
 | [],_,_,_,h=>by simp [Z3] at h
 | c::cs,0,n,c',h=>by
  simp [Z3] at h
  obtain ⟨rfl,rfl⟩:=h
  refine ⟨rfl,fun {xs} ⟨ys,zs,e,h1,h2⟩=>⟨[],ys,zs,by simp [e],rfl,h1,fun c' zs' h3=>⟨zs',zs,by simp,h3,h2⟩⟩⟩
 | c::cs,i+1,n,c',h=>by
  unfold Z3 at h
  split at h
  ·rename_i m x hx
   cases h
   obtain ⟨e0,ih⟩:=T9 hf hx
   refine ⟨by simpa using e0,fun {xs} ⟨ys,zs,e,h1,h2⟩=>?_⟩
   obtain ⟨y2,z2,u2,e2,e3,e4,e5⟩:=ih h2
   refine ⟨ys++y2,z2,u2,by rw [e,e2];simp,by rw [List.length_append,hf _ _ h1,e3],e4,fun c' zs' h3=>⟨ys,y2++zs'++u2,by simp,h1,e5 c' zs' h3⟩⟩
  ·cases h
theorem a5A {U:Nat→Nat→Prop} {w:World}:∀ {p:List Nat} {c:CV} {n:Nat} {c':CV} {xs:List Value},c.at p=some (n,c')→Rep U w c xs→∃ ys zs us,xs=ys++zs++us∧ys.length=n∧Rep U w c' zs
 | [],c,n,c',xs,h,hr=>by
  cases c
  simp [CV.at] at h
  obtain ⟨rfl,rfl⟩:=h
  exact ⟨[],xs,[],by simp,rfl,hr⟩
 | i::p,⟨k,v,l⟩,n,c',xs,h,hr=>by
  unfold CV.at at h
  split at h
  ·rename_i n1 c1 hk h1
   split at h
   ·rename_i m x h2
    cases h
    have hk:k=2:=Nat.eq_of_beq_eq_true hk
    subst hk
    rw [Rep,if_pos rfl] at hr
    obtain ⟨_,h3⟩:=T9 (f:=fun c=>Rep U w c) (fun c xs h=>h.len) h1
    obtain ⟨ys,zs,us,e,e1,e2,_⟩:=h3 hr
    obtain ⟨y2,z2,u2,e3,e4,e5⟩:=a5A h2 e2
    exact ⟨ys++y2,z2,u2++us,by rw [e,e3];simp,by rw [List.length_append,e1,e4],e5⟩
   ·cases h
  ·cases h
theorem At.new {U:Nat→Nat→Prop} (w:World) (xs:List Value) (t:TypeId) (hU:∀ i,i<xs.length→U w.heap.size i):At U (w.alloc (.cells xs.toArray t)) (some ⟨w.heap.size,0,none⟩) xs:=by
 refine .inr ⟨_,0,rfl,fun i hi=>⟨by rw [Nat.zero_add];exact hU i hi,?_⟩⟩
 have e:(⟨w.heap.size,0+i,none⟩:Addr)=⟨w.heap.size,i,none⟩:=by rw [Nat.zero_add]
 rw [e,World.cell?_alloc_mark]
 simp
structure AV where
 t:Nat
 c:CV
 n:Nat
 o:Nat
 p:List Nat
abbrev AV.val (c:CV):AV:=⟨0,c,0,0,[]⟩
abbrev AV.own (c:CV) (n:Nat):AV:=⟨0,c,n,0,[]⟩
abbrev AV.bp (n o:Nat) (p:List Nat):AV:=⟨2,.row [],n,o,p⟩
abbrev AV.ad (c:CV):AV:=⟨3,c,0,0,[]⟩
abbrev AV.tup (l:List CV):AV:=⟨4,.row l,0,0,[]⟩
abbrev AV.bx (c:CV):AV:=⟨5,c,0,0,[]⟩
abbrev AV.tok (e z:Nat):AV:=⟨6,.row [],0,e,[z]⟩
abbrev AV.no:AV:=⟨7,.row [],0,0,[]⟩
abbrev AV.obj:AV:=⟨9,.row [],0,0,[]⟩
abbrev AV.el (n o:Nat) (p:List Nat):AV:=⟨11,.row [],n,o,p⟩
abbrev AV.sl (n lo len z:Nat):AV:=⟨12,.row [],n,lo,[len,z]⟩
abbrev AV.mrow (e z:Nat) (l:List CV):AV:=⟨13,.lst l,0,e,[z]⟩
abbrev AV.mp (l:List CV):AV:=⟨14,.lst l,0,0,[]⟩
abbrev AV.nmap:AV:=⟨17,.lst [],0,0,[]⟩
abbrev AV.mref (n:Nat):AV:=⟨15,.row [],n,0,[]⟩
abbrev AV.full (c:CV):AV:=⟨18,c,0,0,[]⟩
abbrev AS:=List (Nat×AV)
def look:AS→Nat→Option AV
 | [],_=>none
 | (d,a)::s,k=>match Nat.beq d k with | true=>some a | false=>look s k
theorem lS (s:AS) (d:Nat) (a:AV):look ((d,a)::s) d=some a:=by simp [look,Nat.beq_refl]
theorem lN {s:AS} {d k:Nat} {a:AV} (h:d≠k):look ((d,a)::s) k=look s k:=by
 have:Nat.beq d k=false:=by
  cases e:Nat.beq d k with
  | false=>rfl
  | true=>exact absurd (Nat.eq_of_beq_eq_true e) h
 simp [look,this]
theorem r7 (s:AS) (d k:Nat) (a:AV):look ((d,a)::s) k=if d=k then some a else look s k:=by
 by_cases h:d=k
 ·subst h;rw [lS,if_pos rfl]
 ·rw [lN h,if_neg h]
def y6 (s:AS) (n:Nat) (e:Nat×Nat):Prop:=look s n=some (.tok e.1 e.2)∧200000≤n∧n<400000
def b6 (s:AS) (n:Nat):Prop:=n=1∨∃ e,y6 s n e
def J5 (hv:Nat→Value) (n:Nat):Value:=if n=1 then .slice none 0 0 else hv n
def Tk (hv:Nat→Value) (lv:Nat→Prop) (a:AV) (xs:List Value):Prop:=lv a.n→∃ m c,a.c.at a.p=some (m,c)∧xs[m]?=some (J5 hv a.n)
def hb:Value→Option Nat
 | .pointer (some a)=>some a.block
 | .slice (some a) _ _=>some a.block
 | .map (some r)=>some r
 | _=>none
def o8 (v:Value):Nat:=(hb v).getD 0
def b4C:Value→Nat
 | .slice _ n _=>n
 | _=>0
def zOf (av:AV):Nat:=match av.p with | z::_=>z | []=>0
def zSl (av:AV):Nat:=match av.p with | _::z::_=>z | _=>0
def SlV (v0:Value) (lo len z:Nat) (v:Value):Prop:=∃ ao m cap ao',v0 = .slice ao m cap∧v = .slice ao' len (cap-lo)∧lo+len≤cap∧(lo=0→ao'=ao)∧(lo<cap→∀ g,ao=some ⟨g,0,none⟩→ao'=some ⟨g,lo*z,none⟩)∧(ao'=none↔ao=none)
noncomputable def AV.sz (av:AV):Nat:=match Nat.beq av.t 0 with | true=>av.c.size | false=>1
def BN (n:Nat):Prop:=n<100000∨(350000≤n∧n<400000)
def RN (n:Nat):Prop:=200000≤n∧n<450000
def RW (n:Nat):Prop:=200000≤n∧n<400000
theorem RW.rn {n:Nat} (h:RW n):RN n:=by unfold RW at h;unfold RN;omega
def hk (av:AV):Nat:=match Nat.beq av.t 2 with | true=>100000+av.n | false=>av.n
def VReps (U:Nat→Nat→Prop) (w:World):List CV→List Value→Prop
 | [],vs=>vs=[]
 | c::cs,vs=>∃ u us,vs=u::us∧VRep U w c u∧VReps U w cs us
theorem VReps.keep {U V:Nat→Nat→Prop} {w w':World} (hs:∀ b o v,U b o→w.cell? ⟨b,o,none⟩=some v→V b o∧w'.cell? ⟨b,o,none⟩=some v):∀ {l:List CV} {vs:List Value},VReps U w l vs→VReps V w' l vs
 | [],_,h=>h
 | c::cs,vs,⟨u,us,e,h1,h2⟩=>⟨u,us,e,h1.keep hs,VReps.keep hs h2⟩
theorem VReps.len {U:Nat→Nat→Prop} {w:World}:∀ {l:List CV} {vs:List Value},VReps U w l vs→vs.length=l.length
 | [],_,h=>by have h:_=[]:=h;rw [h];rfl
 | c::cs,vs,⟨u,us,e,h1,h2⟩=>by rw [e,List.length_cons,List.length_cons,VReps.len h2]
theorem VReps.at {U:Nat→Nat→Prop} {w:World}:∀ {l:List CV} {vs:List Value},VReps U w l vs→∀ {i:Nat} {c:CV},l[i]?=some c→∃ v,vs[i]?=some v∧VRep U w c v
 | [],_,_,i,c,hi=>by simp at hi
 | c'::cs,vs,⟨u,us,e,h1,h2⟩,0,c,hi=>by
  simp only [List.getElem?_cons_zero,Option.some.injEq] at hi
  exact ⟨u,by rw [e];rfl,hi▸h1⟩
 | c'::cs,vs,⟨u,us,e,h1,h2⟩,i+1,c,hi=>by
  obtain ⟨v,h3,h4⟩:=VReps.at h2 (i:=i) (c:=c) (by simpa using hi)
  exact ⟨v,by rw [e];simpa using h3,h4⟩
def M2:Value→Bool
 | .slice none 0 0=>true
 | _=>false
def AVRep (U:Nat→Nat→Prop) (w:World) (hv:Nat→Value) (lv:Nat→Prop) (a:AV) (v:Value):Prop:=
 if a.t=0 then VRep U w a.c v∧Tk hv lv a v.cells.toList
 else if a.t=2 then BN a.n∧v = .pointer (some ⟨o8 (hv (100000+a.n)),a.o,none⟩)
 else if a.t=3 then ∃ b off xs,v = .pointer (some ⟨b,off,none⟩)∧Rep U w a.c xs∧∀ i,i<xs.length→U b (off+i)∧w.cell? ⟨b,off+i,none⟩=xs[i]?
 else if a.t=4 then ∃ vs:List Value,v = .tuple vs.toArray∧VReps U w a.c.l vs
 else if a.t=11 then RN a.n∧v = .pointer (some ⟨o8 (hv a.n),a.o,none⟩)
 else if a.t=12 then RN a.n∧SlV (hv a.n) a.o (zOf a) (zSl a) v
 else if a.t=15 then RN a.n∧v=hv a.n∧v.oneCell'=true
 else if a.t=16 then VRep U w a.c v∧M2 v=false
 else if a.t=18 then VRep U w a.c v∧∃ ao n,v = .slice ao n n
 else if a.t=19 then RN a.n∧hv a.n=a.c.v
 else True
def Rn (lv:Nat→Prop) (a:AV):Prop:=(a.t=0∧lv a.n∧a.n≠1)∨(a.t=2∧BN a.n)∨((a.t=11∨a.t=12∨a.t=15∨a.t=19)∧RN a.n)
theorem M1 {a:AV}:(a.t=2→hk a=100000+a.n)∧(a.t≠2→hk a=a.n):=by
 unfold hk
 constructor
 ·intro h;rw [h]
 ·intro h
  cases e:Nat.beq a.t 2 with
  | false=>rfl
  | true=>exact absurd (Nat.eq_of_beq_eq_true e) h
theorem AVRep.move {U V:Nat→Nat→Prop} {w w':World} {hv hv':Nat→Value} {lv lv':Nat→Prop} (hs:∀ b o v,U b o→w.cell? ⟨b,o,none⟩=some v→V b o∧w'.cell? ⟨b,o,none⟩=some v) {a:AV} {v:Value} (hl:a.t=0→lv' a.n→lv a.n) (hh:Rn lv' a→hv' (hk a)=hv (hk a)) (h:AVRep U w hv lv a v):AVRep V w' hv' lv' a v:=by
 unfold AVRep at h ⊢
 by_cases h0:a.t=0
 ·rw [if_pos h0] at h ⊢
  refine ⟨h.1.keep hs,fun h1=>?_⟩
  obtain ⟨m,c,h2,h3⟩:=h.2 (hl h0 h1)
  refine ⟨m,c,h2,?_⟩
  rw [h3]
  unfold J5
  by_cases h4:a.n=1
  ·rw [if_pos h4,if_pos h4]
  ·have:=hh (.inl ⟨h0,h1,h4⟩)
   rw [M1.2 (by omega)] at this
   rw [this]
 rw [if_neg h0] at h ⊢
 by_cases h2:a.t=2
 ·rw [if_pos h2] at h ⊢
  have:=hh (.inr (.inl ⟨h2,h.1⟩))
  rw [M1.1 h2] at this
  rw [this];exact h
 rw [if_neg h2] at h ⊢
 by_cases h3:a.t=3
 ·rw [if_pos h3] at h ⊢
  obtain ⟨b,off,xs,h4,h5,h6⟩:=h
  refine ⟨b,off,xs,h4,h5.keep hs,fun i hi=>?_⟩
  obtain ⟨h7,h8⟩:=h6 i hi
  rw [List.getElem?_eq_getElem hi] at h8 ⊢
  exact hs _ _ _ h7 h8
 rw [if_neg h3] at h ⊢
 by_cases h4:a.t=4
 ·rw [if_pos h4] at h ⊢
  obtain ⟨vs,h5,h6⟩:=h
  exact ⟨vs,h5,h6.keep hs⟩
 rw [if_neg h4] at h ⊢
 have hR:(a.t=11∨a.t=12∨a.t=15∨a.t=19)→RN a.n→hv' a.n=hv a.n:=fun h6 h5=>by
  have:=hh (.inr (.inr ⟨h6,h5⟩))
  rwa [M1.2 h2] at this
 by_cases h11:a.t=11
 ·rw [if_pos h11] at h ⊢;rw [hR (.inl h11) h.1];exact h
 rw [if_neg h11] at h ⊢
 by_cases h12:a.t=12
 ·rw [if_pos h12] at h ⊢;rw [hR (.inr (.inl h12)) h.1];exact h
 rw [if_neg h12] at h ⊢
 by_cases h15:a.t=15
 ·rw [if_pos h15] at h ⊢;rw [hR (.inr (.inr (.inl h15))) h.1];exact h
 rw [if_neg h15] at h ⊢
 by_cases h16:a.t=16
 ·rw [if_pos h16] at h ⊢;exact ⟨h.1.keep hs,h.2⟩
 rw [if_neg h16] at h ⊢
 by_cases h18:a.t=18
 ·rw [if_pos h18] at h ⊢;exact ⟨h.1.keep hs,h.2⟩
 rw [if_neg h18] at h ⊢
 by_cases h19:a.t=19
 ·rw [if_pos h19] at h ⊢;rw [hR (.inr (.inr (.inr h19))) h.1];exact h
 rw [if_neg h19]
 trivial
theorem b1g {lv:Nat→Prop} {a:AV} {d:Nat} (hd:d<100000) (hlv:∀ n,lv n→n=1∨RN n) (hr:a.n≠d) (h:Rn lv a):hk a≠100000+d:=by
 rcases h with ⟨h1,h2,h3⟩ | ⟨h1,h2⟩ | ⟨h1,h2⟩
 ·rw [M1.2 (by omega)]
  rcases hlv _ h2 with h4 | h4
  ·exact absurd h4 h3
  ·unfold RN at h4;omega
 ·rw [M1.1 h1];omega
 ·rw [M1.2 (by omega)];unfold RN at h2;omega
theorem a4J {lv:Nat→Prop} {a:AV} {n:Nat} (hn:RN n) (hr:a.n≠n) (h:Rn lv a):hk a≠n:=by
 rcases h with ⟨h1,h2,h3⟩ | ⟨h1,h2⟩ | ⟨h1,h2⟩
 ·rw [M1.2 (by omega)];exact hr
 ·rw [M1.1 h1];unfold BN at h2;unfold RN at hn;omega
 ·rw [M1.2 (by omega)];exact hr
theorem E8 {s:AS} {n:Nat} (h:b6 s n):n=1∨RN n:=h.imp id fun ⟨e,he⟩=>⟨he.2.1,Nat.lt_trans he.2.2 (by omega)⟩
theorem AVRep.keep {U V:Nat→Nat→Prop} {w w':World} {hv:Nat→Value} {lv:Nat→Prop} (hs:∀ b o v,U b o→w.cell? ⟨b,o,none⟩=some v→V b o∧w'.cell? ⟨b,o,none⟩=some v) {a:AV} {v:Value} (h:AVRep U w hv lv a v):AVRep V w' hv lv a v:=h.move hs (fun _ h=>h) (fun _=>rfl)
def Ent (U:Nat→Nat→Prop) (w:World) (c:CV) (e:MapEntry):Prop:=∃ k v:CV,c = .row [k,v]∧k.k=0∧e.key=k.v∧VRep U w v e.val
def Ents (U:Nat→Nat→Prop) (w:World):List CV→List MapEntry→Prop
 | [],es=>es=[]
 | c::cs,es=>∃ e es',es=e::es'∧Ent U w c e∧Ents U w cs es'
theorem Ents.keep {U V:Nat→Nat→Prop} {w w':World} (hs:∀ b o v,U b o→w.cell? ⟨b,o,none⟩=some v→V b o∧w'.cell? ⟨b,o,none⟩=some v):∀ {l:List CV} {es:List MapEntry},Ents U w l es→Ents V w' l es
 | [],_,h=>h
 | c::cs,es,⟨e,es',h1,⟨k,v,h2,h3,h4,h5⟩,h6⟩=>⟨e,es',h1,⟨k,v,h2,h3,h4,h5.keep hs⟩,Ents.keep hs h6⟩
def OX (U:Nat→Nat→Prop) (w:World) (av:AV) (v:Value):Prop:=
 ((av.t=17→v = .map none)∧(av.t=23→∃ g nv,v = .pointer (some ⟨g,0,none⟩)∧w.heap[g]?=some (.cells #[nv,.pointer none,.slice none 0 0] av.o (0,0))∧VRep U w av.c nv)) ∧
 (av.t=20→v=av.c.v∧∃ g x,v = .pointer (some ⟨g,0,none⟩)∧w.heap[g]?=some x∧(∀ xs ty fl,x ≠ .cells xs ty fl)∧(av.o=0→x = .deferred (some []))) ∧
 (av.t=21→∃ r b since c0 seen,v = .pointer (some ⟨r,0,none⟩)∧av.p=b::since::c0::seen∧w.heap[r]?=some (.mapIter (some b) since seen.toArray c0)) ∧
 (av.t=22→∃ b clock es,v = .map (some b)∧av.p=b::clock::es.toList.map (·.born)∧w.heap[b]?=some (.map es clock)∧Ents U w av.c.l es.toList∧(∀ e∈es,e.born<clock)∧(es.toList.map (·.born)).Nodup)
theorem a5Z {U:Nat→Nat→Prop} {w:World} {av:AV} {v:Value} (h:av.t<17):OX U w av v:=⟨⟨fun e=>by omega,fun e=>by omega⟩,fun e=>by omega,fun e=>by omega,fun e=>by omega⟩
theorem OX.move {U V:Nat→Nat→Prop} {w w':World} (hs:∀ b o v,U b o→w.cell? ⟨b,o,none⟩=some v→V b o∧w'.cell? ⟨b,o,none⟩=some v) {av:AV} {v:Value} (hblk:∀ g,hb v=some g→w'.heap[g]?=w.heap[g]?) (h:OX U w av v):OX V w' av v:=by
 obtain ⟨h1,h2,h3,h4⟩:=h
 refine ⟨⟨h1.1,fun e=>?_⟩,fun e=>?_,fun e=>?_,fun e=>?_⟩
 ·obtain ⟨g,nv,g1,g2,g3⟩:=h1.2 e
  exact ⟨g,nv,g1,by rw [hblk g (by rw [g1];rfl)];exact g2,g3.keep hs⟩
 ·obtain ⟨g1,g,x,g2,g3,g4⟩:=h2 e
  exact ⟨g1,g,x,g2,by rw [hblk g (by rw [g2];rfl)];exact g3,g4⟩
 ·obtain ⟨r,b,since,c0,seen,g1,g2,g3⟩:=h3 e
  exact ⟨r,b,since,c0,seen,g1,g2,by rw [hblk r (by rw [g1];rfl)];exact g3⟩
 ·obtain ⟨b,clock,es,g1,g2,g3,g4,g5⟩:=h4 e
  exact ⟨b,clock,es,g1,g2,by rw [hblk b (by rw [g1];rfl)];exact g3,g4.keep hs,g5⟩
def OC (U:Nat→Nat→Prop) (w:World) (hv:Nat→Value) (lv:Nat→Prop) (av:AV) (v:Value):Prop:=
 if av.t=5 then ∃ g xs ty,v = .pointer (some ⟨g,0,none⟩)∧w.heap[g]?=some (.cells xs.toArray ty (0,0))∧Rep U w av.c xs∧Tk hv lv av xs
 else if av.t=6 then ∃ k xs,w.ownsRow 0 av.o (zOf av) v k xs∧0<zOf av
 else if av.t=9 then ∃ g xs ty,v = .pointer (some ⟨g,0,none⟩)∧w.heap[g]?=some (.cells xs ty (0,0))
 else if av.t=13 then ∃ xs,w.ownsRow 0 av.o (zOf av) v av.c.l.length xs∧0<zOf av∧(∀ c∈av.c.l,c.size=zOf av)∧Sq (av.c.l.map fun c=>Rep U w c) xs
 else if av.t=14 then ∃ g es clock,v = .map (some g)∧w.heap[g]?=some (.map es clock)∧Ents U w av.c.l es.toList∧(∀ e∈es,e.born<clock)∧(es.toList.map (·.born)).Nodup
 else OX U w av v
theorem a0d {w w':World} {base:Nat} {e:TypeId} {z:Nat} {v:Value} {k:Nat} {xs:List Value} (h:w.ownsRow base e z v k xs) (hb:∀ g,hb v=some g→w'.heap[g]?=w.heap[g]?):w'.ownsRow base e z v k xs:=by
 refine ⟨h.1,?_⟩
 rcases h.2 with h6 | ⟨g,cap,cur,h6,h7,h8,h9⟩
 ·exact .inl h6
 ·refine .inr ⟨g,cap,cur,h6,h7,?_,h9⟩
  rw [hb g (by rw [h6];rfl)]
  exact h8
theorem OC.move {U V:Nat→Nat→Prop} {w w':World} {hv hv':Nat→Value} {lv lv':Nat→Prop} (hs:∀ b o v,U b o→w.cell? ⟨b,o,none⟩=some v→V b o∧w'.cell? ⟨b,o,none⟩=some v) {av:AV} {v:Value} (hl:av.t=5→lv' av.n→lv av.n∧J5 hv' av.n=J5 hv av.n) (hblk:∀ g,hb v=some g→w'.heap[g]?=w.heap[g]?) (h:OC U w hv lv av v):OC V w' hv' lv' av v:=by
 unfold OC at h ⊢
 by_cases h5:av.t=5
 ·rw [if_pos h5] at h ⊢
  obtain ⟨g,xs,ty,e,h1,h2,h3⟩:=h
  refine ⟨g,xs,ty,e,by rw [hblk g (by rw [e];rfl)];exact h1,h2.keep hs,fun h4=>?_⟩
  obtain ⟨h6,h7⟩:=hl h5 h4
  obtain ⟨m,c,h8,h9⟩:=h3 h6
  exact ⟨m,c,h8,by rw [h9,h7]⟩
 rw [if_neg h5] at h ⊢
 by_cases h6:av.t=6
 ·rw [if_pos h6] at h ⊢
  obtain ⟨k,xs,h1,h2⟩:=h
  exact ⟨k,xs,a0d h1 hblk,h2⟩
 rw [if_neg h6] at h ⊢
 by_cases h9:av.t=9
 ·rw [if_pos h9] at h ⊢
  obtain ⟨g,xs,ty,e,h1⟩:=h
  exact ⟨g,xs,ty,e,by rw [hblk g (by rw [e];rfl)];exact h1⟩
 rw [if_neg h9] at h ⊢
 by_cases h13:av.t=13
 ·rw [if_pos h13] at h ⊢
  obtain ⟨xs,h1,h2,h3,h4⟩:=h
  exact ⟨xs,a0d h1 hblk,h2,h3,h4.keep hs⟩
 rw [if_neg h13] at h ⊢
 by_cases h14:av.t=14
 ·rw [if_pos h14] at h ⊢
  obtain ⟨g,es,clock,e,h1,h2,h3⟩:=h
  exact ⟨g,es,clock,e,by rw [hblk g (by rw [e];rfl)];exact h1,h2.keep hs,h3⟩
 rw [if_neg h14] at h ⊢
 exact h.move hs hblk
structure UX where
 m:Nat→Nat→Prop
 x:Nat→Prop
 f:Nat→Option Value
 hf:∀ k v,f k=some v→400000≤k∧k<500000
structure BelowX (X:Nat→Prop) (w w':World):Prop where
 os:w'.os=w.os
 tape:w'.tape=w.tape
 output:w'.output=w.output
 size:w.heap.size≤w'.heap.size
 block:∀ k,k<w.heap.size→¬ X k→w'.heap[k]?=w.heap[k]?
theorem BelowX.refl (X:Nat→Prop) (w:World):BelowX X w w:=⟨rfl,rfl,rfl,Nat.le_refl _,fun _ _ _=>rfl⟩
theorem BelowX.step {X:Nat→Prop} {w w1 w2:World} (h:BelowX X w w1) (h2:Below w1.heap.size w1 w2):BelowX X w w2:=
 ⟨h2.os.trans h.os,h2.tape.trans h.tape,h2.output.trans h.output,Nat.le_trans h.size h2.size,fun k hk hx=>(h2.block k (Nat.lt_of_lt_of_le hk h.size)).trans (h.block k hk hx)⟩
theorem BelowX.below {X:Nat→Prop} {w w1:World} (h:BelowX X w w1) (hx:∀ k,¬ X k):Below w.heap.size w w1:=
 ⟨h.os,h.tape,h.output,h.size,fun k hk=>h.block k hk (hx k)⟩
section
variable (w0:World) (U0:UX) (nt:Nat)
def Us (D:Nat→Nat→Prop) (b o:Nat):Prop:=(b<w0.heap.size∧U0.m b o∧¬ U0.x b)∨(w0.heap.size≤b∧D b o)
def Mn (t g:Nat):Prop:=w0.heap.size≤g∨(t≠6∧U0.x g)
def NoD (D:Nat→Nat→Prop) (av:AV) (v:Value) (g:Nat):Prop:=∀ o,(av.t=6→b4C v*zOf av≤o)→¬ D g o
def lcl (k:Nat) (av:AV):Nat:=match Nat.blt k 300000 with | true=>6 | false=>av.t
def n7 (k:Nat):Prop:=100000≤k∧k<500000
def c8 (n o:Nat):Nat:=500000+(100*n+o)
structure SimG (s:AS) (a:Act) (w:World) (D:Nat→Nat→Prop) (hv:Nat→Value):Prop where
 below:BelowX U0.x w0 w
 dfr:a.defers=[]
 size:a.tmps.size=nt
 slot:∀ d av,look s d=some av→d<100000→∃ v,a.tmps[d]?=some v∧AVRep (Us w0 U0 D) w hv (b6 s) av v
 fld:∀ n o av,look s (c8 n o)=some av→o<100→look s (100000+n)=some .obj→BN n→∃ v,AVRep (Us w0 U0 D) w hv (b6 s) av v∧v.cells.size=av.sz∧∀ i,i<v.cells.size→w.cell? ⟨o8 (hv (100000+n)),o+i,none⟩=v.cells[i]?
 fdis:∀ n o o' av av',look s (c8 n o)=some av→look s (c8 n o')=some av'→o<100→o'<100→o<o'→o+av.sz≤o'
 obj:∀ k av,look s k=some av→n7 k→OC (Us w0 U0 D) w hv (b6 s) av (hv k)
 blk:∀ k av g,look s k=some av→n7 k→av.t≠7→hb (hv k)=some g→Mn w0 U0 (lcl k av) g∧g<w.heap.size∧NoD D av (hv k) g
 disj:∀ k k' av av' g,look s k=some av→look s k'=some av'→n7 k→n7 k'→av.t≠7→av'.t≠7→k≠k'→hb (hv k)=some g→hb (hv k')≠some g
 fix:∀ k v,U0.f k=some v→hv k=v
 dlt:∀ b o,D b o→b<w.heap.size
def Sim (s:AS) (a:Act) (w:World):Prop:=∃ D hv,SimG w0 U0 nt s a w D hv
end
section
variable {w0:World} {U0:UX} {nt:Nat} {s:AS} {a:Act} {w:World} {D:Nat→Nat→Prop} {hv:Nat→Value}
theorem SimG.congr (h:SimG w0 U0 nt s a w D hv) {s':AS} (he:∀ k,look s' k=look s k):SimG w0 U0 nt s' a w D hv:=by
 have hl:∀ n e,y6 s' n e↔y6 s n e:=fun n e=>by unfold y6;rw [he]
 have hl2:b6 s'=b6 s:=by funext n;simp only [b6,hl]
 refine ⟨h.below,h.dfr,h.size,fun d av h1 h2=>?_,fun n o av h1 h2 h3 h4=>?_,fun n o o' av av' h1 h2=>?_,fun k av h1 h2=>?_,fun k av g h1=>?_,fun k k' av av' g h1 h2=>?_,h.fix,h.dlt⟩
 ·rw [he] at h1;rw [hl2];exact h.slot d av h1 h2
 ·rw [he] at h1 h3;rw [hl2];exact h.fld n o av h1 h2 h3 h4
 ·rw [he] at h1 h2;exact h.fdis n o o' av av' h1 h2
 ·rw [he] at h1;rw [hl2];exact h.obj k av h1 h2
 ·rw [he] at h1;exact h.blk k av g h1
 ·rw [he] at h1 h2;exact h.disj k k' av av' g h1 h2
def Sub (s s':AS):Prop:=∀ k av,look s' k=some av→look s k=some av
theorem SimG.sub (h:SimG w0 U0 nt s a w D hv) {s':AS} (hs:Sub s s'):SimG w0 U0 nt s' a w D hv:=by
 have hl:∀ n e,y6 s' n e→y6 s n e:=fun n e h1=>⟨hs _ _ h1.1,h1.2⟩
 have hln:∀ n,b6 s' n→b6 s n:=fun n h1=>h1.imp id fun ⟨e,he⟩=>⟨e,hl _ _ he⟩
 have hk:∀ b o v,Us w0 U0 D b o→w.cell? ⟨b,o,none⟩=some v→Us w0 U0 D b o∧w.cell? ⟨b,o,none⟩=some v:=fun _ _ _ h1 h2=>⟨h1,h2⟩
 refine ⟨h.below,h.dfr,h.size,fun d av h1 h2=>?_,fun n o av h1 h2 h3 h4=>?_,fun n o o' av av' h1 h2=>h.fdis n o o' av av' (hs _ _ h1) (hs _ _ h2),fun k av h1 h2=>?_,fun k av g h1=>h.blk k av g (hs _ _ h1),fun k k' av av' g h1 h2=>h.disj k k' av av' g (hs _ _ h1) (hs _ _ h2),h.fix,h.dlt⟩
 ·obtain ⟨v,h3,h4⟩:=h.slot d av (hs _ _ h1) h2
  exact ⟨v,h3,h4.move hk (fun _=>hln _) (fun _=>rfl)⟩
 ·obtain ⟨v,h6,h5⟩:=h.fld n o av (hs _ _ h1) h2 (hs _ _ h3) h4
  exact ⟨v,h6.move hk (fun _=>hln _) (fun _=>rfl),h5⟩
 ·exact (h.obj k av (hs _ _ h1) h2).move hk (fun _ h3=>⟨hln _ h3,rfl⟩) (fun _ _=>rfl)
theorem Sim.sub (h:Sim w0 U0 nt s a w) {s':AS} (hs:Sub s s'):Sim w0 U0 nt s' a w:=by
 obtain ⟨D,hv,h⟩:=h
 exact ⟨D,hv,h.sub hs⟩
theorem SimG.put (h:SimG w0 U0 nt s a w D hv) {d:Nat} {av:AV} {v:Value} (hd:d<nt) (h5:d<100000) (hav:AVRep (Us w0 U0 D) w hv (b6 s) av v):SimG w0 U0 nt ((d,av)::s) (a.put (some d) v) w D hv:=by
 have hlk:∀ k,100000≤k→look ((d,av)::s) k=look s k:=fun k hk=>lN (by omega)
 have hl:∀ n e,y6 ((d,av)::s) n e↔y6 s n e:=fun n e=>by
  unfold y6
  constructor
  ·rintro ⟨h1,h2⟩;rw [hlk _ (by omega)] at h1;exact ⟨h1,h2⟩
  ·rintro ⟨h1,h2⟩;exact ⟨by rw [hlk _ (by omega)];exact h1,h2⟩
 have hl2:b6 ((d,av)::s)=b6 s:=by funext n;simp only [b6,hl]
 refine ⟨h.below,h.dfr,by simp [Act.put,h.size],fun d' av' h1 h2=>?_,fun n o av h1 h2 h3 h4=>?_,fun n o o' av av' h1 h2=>?_,fun k av h1 h2=>?_,fun k av g h1 h2=>?_,fun k k' av av' g h1 h2 h3 h4=>?_,h.fix,h.dlt⟩
 ·rw [hl2]
  by_cases e:d=d'
  ·subst e
   rw [lS] at h1
   cases h1
   exact ⟨v,by simp [Act.put,h.size,hd],hav⟩
  ·rw [lN e] at h1
   obtain ⟨v',h3,h4⟩:=h.slot d' av' h1 h2
   exact ⟨v',by simp [Act.put,e,h3],h4⟩
 ·rw [hlk _ (by unfold c8;omega)] at h1;rw [hlk _ (by omega)] at h3;rw [hl2];exact h.fld n o av h1 h2 h3 h4
 ·rw [hlk _ (by unfold c8;omega)] at h1 h2;exact h.fdis n o o' av av' h1 h2
 ·rw [hlk _ h2.1] at h1;rw [hl2];exact h.obj k av h1 h2
 ·rw [hlk _ h2.1] at h1;exact h.blk k av g h1 h2
 ·rw [hlk _ h3.1] at h1;rw [hlk _ h4.1] at h2;exact h.disj k k' av av' g h1 h2 h3 h4
theorem a4i {b o t g:Nat} (hu:Us w0 U0 D b o) (hm:Mn w0 U0 t g) (hd:¬ D g o):b≠g:=by
 rintro rfl
 rcases hu with ⟨h1,_,h2⟩ | ⟨_,h2⟩
 ·rcases hm with h3 | h3
  ·omega
  ·exact h2 h3.2
 ·exact hd h2
theorem a0S {w':World} (hd:∀ b o,D b o→b<w.heap.size) (hb:Below w.heap.size w w') {D':Nat→Nat→Prop} (hD:∀ b o,D b o→D' b o):∀ b o v,Us w0 U0 D b o→w.cell? ⟨b,o,none⟩=some v→Us w0 U0 D' b o∧w'.cell? ⟨b,o,none⟩=some v:=by
 intro b o v hu hc
 have hlt:b<w.heap.size:=World.block_lt_of_cell? w _ hc
 refine ⟨?_,by rw [hb.cell (p:=⟨b,o,none⟩) hlt];exact hc⟩
 rcases hu with h | h
 ·exact .inl h
 ·exact .inr ⟨h.1,hD _ _ h.2⟩
theorem a2A {k:Nat} (h:300000≤k) (av:AV):lcl k av=av.t:=by
 unfold lcl
 have:Nat.blt k 300000=false:=by
  cases e:Nat.blt k 300000 with
  | false=>rfl
  | true =>
   have:k<300000:=by simpa [Nat.blt_eq] using e
   omega
 rw [this]
theorem a0F {k:Nat} (h:k<300000) (av:AV):lcl k av=6:=by
 unfold lcl
 rw [show Nat.blt k 300000=true by simp [Nat.blt_eq];omega]
theorem M0 {k:Nat} {av:AV} (h:av.t=6):lcl k av=6:=by
 unfold lcl
 cases Nat.blt k 300000 with
 | false=>exact h
 | true=>rfl
theorem a9g {k:Nat} {av av':AV} (h:av'.t=av.t):lcl k av'=lcl k av:=by unfold lcl;rw [h]
theorem F4 {n:Nat} (h:BN n):n7 (100000+n):=by unfold BN at h;unfold n7;omega
theorem SimG.obj9 (h:SimG w0 U0 nt s a w D hv) {n:Nat} (h1:look s (100000+n)=some .obj) (h2:BN n):∃ g xs ty,hv (100000+n) = .pointer (some ⟨g,0,none⟩)∧o8 (hv (100000+n))=g∧w.heap[g]?=some (.cells xs ty (0,0)):=by
 obtain ⟨g,xs,ty,e,h3⟩:∃ g xs ty,hv (100000+n) = .pointer (some ⟨g,0,none⟩)∧w.heap[g]?=some (.cells xs ty (0,0)):=h.obj (100000+n) _ h1 (F4 h2)
 exact ⟨g,xs,ty,e,by rw [e];rfl,h3⟩
theorem SimG.grow (h:SimG w0 U0 nt s a w D hv) {w':World} (hb':Below w.heap.size w w') {D':Nat→Nat→Prop} (hD:∀ b o,D b o→D' b o) (hN:∀ b o,D' b o→D b o∨w.heap.size≤b) (hL:∀ b o,D' b o→b<w'.heap.size):SimG w0 U0 nt s a w' D' hv:=by
 have hk:=a0S (w0:=w0) (U0:=U0) h.dlt hb' hD
 have hblk:∀ k av g,look s k=some av→n7 k→av.t≠7→hb (hv k)=some g→w'.heap[g]?=w.heap[g]?:=fun k av g h1 h2 h3 h4=>hb'.block g (h.blk k av g h1 h2 h3 h4).2.1
 refine ⟨h.below.step hb',h.dfr,h.size,fun d av h1 h2=>?_,fun n o av h1 h2 h3 h4=>?_,h.fdis,fun k av h1 h2=>?_,fun k av g h1 h2 h3 h4=>?_,h.disj,h.fix,hL⟩
 ·obtain ⟨v,h3,h4⟩:=h.slot d av h1 h2
  exact ⟨v,h3,h4.keep hk⟩
 ·obtain ⟨v,h7,h5,h6⟩:=h.fld n o av h1 h2 h3 h4
  refine ⟨v,h7.keep hk,h5,fun i hi=>?_⟩
  have h7:=h6 i hi
  rw [Array.getElem?_eq_getElem hi] at h7 ⊢
  have hlt:o8 (hv (100000+n))<w.heap.size:=World.block_lt_of_cell? w _ h7
  rw [hb'.cell (p:=⟨o8 (hv (100000+n)),o+i,none⟩) hlt]
  exact h7
 ·by_cases h7:av.t=7
  ·unfold OC
   rw [if_neg (by omega),if_neg (by omega),if_neg (by omega),if_neg (by omega),if_neg (by omega)]
   exact a5Z (by omega)
  ·exact (h.obj k av h1 h2).move hk (fun _ h3=>⟨h3,rfl⟩) fun g hg=>hblk k av g h1 h2 h7 hg
 ·obtain ⟨g1,g2,g3⟩:=h.blk k av g h1 h2 h3 h4
  refine ⟨g1,Nat.lt_of_lt_of_le g2 hb'.size,fun o ho hd=>?_⟩
  rcases hN _ _ hd with h7 | h7
  ·exact g3 o ho h7
  ·omega
theorem SimG.grow' (h:SimG w0 U0 nt s a w D hv) {w':World} (hb:Below w.heap.size w w'):SimG w0 U0 nt s a w' D hv:=
 h.grow hb (fun _ _ h=>h) (fun _ _ h => .inl h) fun b o hd=>Nat.lt_of_lt_of_le (h.dlt b o hd) hb.size
def Dn (D:Nat→Nat→Prop) (w w':World) (b o:Nat):Prop:=D b o∨(w.heap.size≤b∧b<w'.heap.size)
theorem SimG.growN (h:SimG w0 U0 nt s a w D hv) {w':World} (hb:Below w.heap.size w w'):SimG w0 U0 nt s a w' (Dn D w w') hv:=
 h.grow hb (fun _ _ h => .inl h) (fun b o hd=>hd.imp id fun h=>h.1) fun b o hd=>by
  rcases hd with hd | hd
  ·exact Nat.lt_of_lt_of_le (h.dlt b o hd) hb.size
  ·exact hd.2
theorem a5Y {U:Nat→Nat→Prop} {lv:Nat→Prop} {v:Value} {av:AV} (h:av.t=7):OC U w hv lv av v:=by
 unfold OC
 rw [if_neg (by omega),if_neg (by omega),if_neg (by omega),if_neg (by omega),if_neg (by omega)]
 exact a5Z (by omega)
end
end Go.Proofs.YtekboofbedakcaaGreat
namespace Go.Proofs.YtekboofbedakcaaGreat
open Go.RowKit
set_option linter.unusedVariables false
set_option linter.unusedSimpArgs false
def o9 (l:List Nat) (n:Nat):Bool:=l.any fun m=>Nat.beq m n
theorem v7 {l:List Nat} {n:Nat} (h:n∈l):o9 l n=true:=List.any_eq_true.2 ⟨n,h,Nat.beq_refl n⟩
theorem B6 {l:List Nat} {n:Nat} (h:o9 l n=true):n∈l:=by
 obtain ⟨m,h1,h2⟩:=List.any_eq_true.1 h
 rw [←Nat.eq_of_beq_eq_true h2];exact h1
def fnm (k:Nat):Nat:=match Nat.ble 500000 k with | true=>(k-500000) / 100 | false=>100000
def b4x (k:Nat):Nat:=match Nat.ble 500000 k with | true=>(k+99500000) / 100 | false=>1100000
theorem a9v (k:Nat):b4x k=fnm k+1000000:=by
 cases e:Nat.ble 500000 k with
 | false =>
  have h1:b4x k=1100000:=by unfold b4x;rw [e]
  have h2:fnm k=100000:=by unfold fnm;rw [e]
  omega
 | true =>
  have h1:b4x k=(k+99500000) / 100:=by unfold b4x;rw [e]
  have h2:fnm k=(k-500000) / 100:=by unfold fnm;rw [e]
  have:=Nat.le_of_ble_eq_true e
  omega
theorem W6 {n o:Nat} (h:o<100):fnm (c8 n o)=n:=by
 unfold fnm c8
 rw [Nat.ble_eq_true_of_le (by omega)]
 simp only
 omega
def a0n (s:AS) (n:Nat):Prop:=∀ k av,look s k=some av→av.n≠n∧fnm k≠n∧fnm k+1000000≠n
def NoRefE (s:AS) (q:Nat×List Nat):Prop:=∀ k av,look s k=some av→o9 q.2 k=false→av.n≠q.1∧fnm k≠q.1∧fnm k+1000000≠q.1
theorem NoRefE.nr {s:AS} {n:Nat} (h:NoRefE s (n,[])):a0n s n:=fun k av h1=>h k av h1 rfl
section
variable (P:Program) (w0:World) (U0:UX) (nt:Nat) (ops:Array Oper)
def Stp (o:Oper) (s e:AS):Prop:=
 ∀ a w,Sim w0 U0 nt s a w→∀ (Q:Exit→Act→World→Prop) (K:Act→World→Prop),(∀ a' w',Sim w0 U0 nt (e++s) a' w'→K a' w') →
  if Region.wanted o (yielded ops a.tmps)=true then o.wp P a w K Q else K (a.put o.dst undef) w
def AOp (o:Oper) (R:List Nat) (N:List (Nat×List Nat)) (S:Nat→Option AV) (e:AS):Prop:=
 ∀ s,(∀ k∈R,look s k=S k)→(∀ q∈N,NoRefE s q)→Stp P w0 U0 nt ops o s e
def Gd (o:Oper) (gs:List Nat) (S:Nat→Option AV):Prop:=
 ∀ s,(∀ k∈gs,look s k=S k)→∀ a w D hv,SimG w0 U0 nt s a w D hv→Region.wanted o (yielded ops a.tmps)=true
def Go (o:Oper) (gs:List Nat) (S:Nat→Option AV):Prop:=
 ∀ s,(∀ k∈gs,look s k=S k)→∀ a w D hv,SimG w0 U0 nt s a w D hv→Region.wanted o (yielded ops a.tmps)=false
end
section
variable {P:Program} {w0:World} {U0:UX} {nt:Nat} {ops:Array Oper} {o:Oper} {S:Nat→Option AV} {gs:List Nat} {d:Nat}
theorem bL {a b:Nat} (h:Nat.blt a b=true):a<b:=by simpa [Nat.blt_eq] using h
theorem gN (h:o.guard=none):Gd w0 U0 nt ops o [] S:=fun s _ a w D hv _=>by simp [Region.wanted,h]
theorem a4u {j:Nat} {b:Bool} (hj:(ops[j]?).bind (·.dst)=some d) (h5:Nat.blt d 100000=true) {s:AS} (hs:look s d=some (.val (.b b))) {a:Act} {w:World} {D:Nat→Nat→Prop} {hv:Nat→Value} (h:SimG w0 U0 nt s a w D hv):yielded ops a.tmps j=some b:=by
 obtain ⟨v,h1,h2⟩:=h.slot d _ hs (bL h5)
 have h3:VRep (Us w0 U0 D) w (.b b) v:=h2.1
 rw [b5] at h3
 simp [yielded,hj,h1,h3.1]
theorem b4D {j:Nat} {b c:Bool} (hg:o.guard=some (j,b)) (hj:(ops[j]?).bind (·.dst)=some d) (h5:Nat.blt d 100000=true) (hS:S d=some (.val (.b c))) (hc:c=b):Gd w0 U0 nt ops o [d] S:=fun s hs a w D hv h=>by
 subst hc
 have:=a4u hj h5 ((hs d (by simp)).trans hS) h
 simp [Region.wanted,hg,this]
theorem gc {w0:World} {U0:UX} {nt:Nat} {ops:Array Oper} {o:Oper} {S:Nat→Option AV} {d:Nat} {j:Nat} {b c:Bool} (hg:o.guard=some (j,b):=by exact rfl) (hj:(ops[j]?).bind (·.dst)=some d:=by exact rfl) (h5:Nat.blt d 100000=true:=by exact rfl) (hS:S d=some (.val (.b c)):=by exact rfl) (hc:c=b:=by first | rfl | assumption | (simp;done)):Gd w0 U0 nt ops o [d] S:=b4D hg hj h5 hS hc
theorem b6R {j:Nat} {b c:Bool} (hg:o.guard=some (j,c)) (hj:(ops[j]?).bind (·.dst)=some d) (h5:Nat.blt d 100000=true) (hS:S d=some (.val (.b b))) (hbc:b=!c):Go w0 U0 nt ops o [d] S:=fun s hs a w D hv h=>by
 have:=a4u hj h5 ((hs d (by simp)).trans hS) h
 subst hbc
 simp only [Region.wanted,hg,this]
 cases c<;>rfl
theorem gd {w0:World} {U0:UX} {nt:Nat} {ops:Array Oper} {o:Oper} {S:Nat→Option AV} {d:Nat} {j:Nat} {b c:Bool} (hg:o.guard=some (j,c):=by exact rfl) (hj:(ops[j]?).bind (·.dst)=some d:=by exact rfl) (h5:Nat.blt d 100000=true:=by exact rfl) (hS:S d=some (.val (.b b)):=by exact rfl) (hc:b=!c:=by first | rfl | assumption | (simp;done) | (simp [*];done)):Go w0 U0 nt ops o [d] S:=b6R hg hj h5 hS hc
theorem a2G {d':Nat} (hg:Go w0 U0 nt ops o gs S) (hd:o.dst=some d') (hn:Nat.blt d' nt=true) (h5:Nat.blt d' 100000=true):AOp P w0 U0 nt ops o gs [] S [(d',.no)]:=by
 intro s hs _ a w ⟨D,hv,h⟩ Q K hK
 rw [if_neg (by rw [hg s hs a w D hv h];simp),hd]
 exact hK _ _ ⟨D,hv,h.put (bL hn) (bL h5) (by unfold AVRep;simp)⟩
theorem zM {P:Program} {w0:World} {U0:UX} {nt:Nat} {ops:Array Oper} {o:Oper} {S:Nat→Option AV} {gs:List Nat} {d':Nat} (p:Go w0 U0 nt ops o gs S:=by exact gd) (q:o.dst=some d':=by exact rfl) (r:Nat.blt d' nt=true:=by exact rfl) (t:Nat.blt d' 100000=true:=by exact rfl):AOp P w0 U0 nt ops o gs [] S [(d',.no)]:=a2G p q r t
theorem d7 {R:List Nat} {av:AV} (hg:Gd w0 U0 nt ops o gs S) (hd:o.dst=some d) (hn:Nat.blt d nt=true) (h5:Nat.blt d 100000=true) (hR:∀ k∈gs,k∈R)
  (h:∀ s,(∀ k∈R,look s k=S k)→∀ a w D hv,SimG w0 U0 nt s a w D hv→∃ v,(execOp a.eval o).run P w = .ok (.value v) w∧AVRep (Us w0 U0 D) w hv (b6 s) av v):AOp P w0 U0 nt ops o R [] S [(d,av)]:=by
 intro s hs _ a w ⟨D,hv,hm⟩ Q K hK
 obtain ⟨v,h1,h2⟩:=h s hs a w D hv hm
 rw [if_pos (hg s (fun k hk=>hs k (hR k hk)) a w D hv hm)]
 unfold Oper.wp
 rw [h1,Oper.upon_value,hd]
 exact hK _ _ ⟨D,hv,hm.put (bL hn) (bL h5) h2⟩
def N5 (v:Value):CV:=match M2 v with | true => .lst [] | false => .sc v
def a2j:Value→CV
 | .agg cs => .row (cs.toList.map N5)
 | v=>N5 v
def L6:Value→Bool
 | .slice none 0 0=>true
 | .slice _ _ _ | .agg _ | .tuple _=>false
 | _=>true
def b3W:Value→Bool
 | .agg cs=>cs.toList.all L6
 | v=>L6 v
def a5x (v:Value):Option AV:=match b3W v with | true=>some ⟨0,a2j v,(match M2 v with | true=>1 | false=>0),0,[]⟩ | false=>none
theorem b5t {P:Program} {t:TypeId} (hu:P.underlying t=some .bool) (i j:Bool) (w:World):(Op.equal t (.bool i) (.bool j)).run P w = .ok (i == j) w:=by
 unfold Op.equal
 rw [show Op.maxDepth=9999+1 from rfl,Op.equalIn]
 simp [run_underlying hu]
def ev (S:Nat→Option AV):Operand→Option AV
 | .tmp t=>match Nat.blt t 100000 with | true=>S t | false=>none
 | .const v=>a5x v
 | .func f=>some (.val (.sc (.func (.func f) #[] #[])))
 | .global _=>none
def rd:Operand→List Nat
 | .tmp t=>[t]
 | _=>[]
theorem a5v (U:Nat→Nat→Prop) (w:World):Rep U w (.lst []) [.slice none 0 0]:=I0.2 ⟨none,0,0,rfl,rfl,Nat.le_refl _,by unfold maxLen;omega,fun _=>⟨rfl,rfl⟩,[],.inl rfl,rfl⟩
theorem U4 (U:Nat→Nat→Prop) (w:World) (v:Value) (h:L6 v=true):Rep U w (N5 v) [v]:=by
 unfold L6 at h
 split at h
 ·exact a5v U w
 ·cases h
 ·cases h
 ·cases h
 ·rename_i h1 h2 h3 h4
  have:M2 v=false:=by unfold M2;split<;>simp_all
  unfold N5
  rw [this]
  refine t7.2 ⟨rfl,?_⟩
  cases v<;>simp_all [Value.oneCell']
theorem a6U (U:Nat→Nat→Prop) (w:World):∀ (l:List Value),l.all L6=true→Sq ((l.map N5).map fun c=>Rep U w c) l
 | [],_=>rfl
 | v::l,h=>by
  rw [List.all_cons,Bool.and_eq_true] at h
  exact ⟨[v],l,rfl,U4 U w v h.1,a6U U w l h.2⟩
theorem b1p {U:Nat→Nat→Prop} {w:World} {v:Value} (h:Rep U w (N5 v) [v]):VRep U w (N5 v) v:=by
 unfold VRep
 rw [if_neg]
 ·exact h
 ·unfold N5;split<;>simp
theorem a8f (U:Nat→Nat→Prop) (w:World) (v:Value) (h:b3W v=true):VRep U w (a2j v) v:=by
 cases v with
 | agg cs =>
  unfold a2j
  rw [A5]
  exact ⟨cs.toList,by simp,a6U U w cs.toList h⟩
 | _=>exact b1p (U4 U w _ h)
theorem y0 {s:AS}:¬ b6 s 0:=by
 rintro (h | ⟨e,h⟩)
 ·cases h
 ·exact absurd h.2 (by decide)
theorem j6 {s:AS} {a:Act} {w:World} {D:Nat→Nat→Prop} {hv:Nat→Value} (h:SimG w0 U0 nt s a w D hv) {x:Operand} {av:AV} (hs:∀ k∈rd x,look s k=S k) (hx:ev S x=some av):AVRep (Us w0 U0 D) w hv (b6 s) av (a.eval x):=by
 cases x with
 | tmp t =>
  have hx:(match Nat.blt t 100000 with | true=>S t | false=>none)=some av:=hx
  split at hx
  ·rename_i hb
   obtain ⟨v,h1,h2⟩:=h.slot t av ((hs t (by simp [rd])).trans hx) (bL hb)
   have:a.eval (.tmp t)=v:=by simp [Act.eval,h1]
   rw [this];exact h2
  ·cases hx
 | const v =>
  have hx:a5x v=some av:=hx
  unfold a5x at hx
  split at hx
  ·rename_i hp
   cases hx
   refine ⟨a8f _ _ v hp,fun h1=>?_⟩
   cases hv:M2 v with
   | true =>
    simp only [hv]
    refine ⟨0,a2j v,by simp [CV.at],?_⟩
    unfold M2 at hv
    split at hv
    ·simp [Value.cells,J5,Act.eval]
    ·cases hv
   | false=>simp only [hv] at h1;exact absurd h1 y0
  ·cases hx
 | func f =>
  cases hx
  exact ⟨b5.2 ⟨rfl,rfl⟩,fun h1=>absurd h1 y0⟩
 | global g=>cases hx
theorem C2 {s:AS} {a:Act} {w:World} {D:Nat→Nat→Prop} {hv:Nat→Value} (h:SimG w0 U0 nt s a w D hv) {x:Operand} {c:CV} {n o p} (hs:∀ k∈rd x,look s k=S k) (hx:ev S x=some ⟨0,c,n,o,p⟩):VRep (Us w0 U0 D) w c (a.eval x):=(j6 h hs hx).1
theorem s6 {s:AS} {a:Act} {w:World} {D:Nat→Nat→Prop} {hv:Nat→Value} (h:SimG w0 U0 nt s a w D hv) {x:Operand} {v:Value} {n o p} (hs:∀ k∈rd x,look s k=S k) (hx:ev S x=some ⟨0,.sc v,n,o,p⟩):a.eval x=v:=(b5.1 (C2 h hs hx)).1
theorem m7 {U:Nat→Nat→Prop} {w:World} {hv:Nat→Value} {s:AS} {v:Value} (h:v.oneCell'=true):AVRep U w hv (b6 s) (.val (.sc v)) v:=
 ⟨b5.2 ⟨rfl,h⟩,fun h1=>absurd h1 y0⟩
theorem i7 {U:Nat→Nat→Prop} {w:World} {hv:Nat→Value} {s:AS} {c:CV} {v:Value} (h:VRep U w c v):AVRep U w hv (b6 s) (.val c) v:=
 ⟨h,fun h1=>absurd h1 y0⟩
section
variable (hg:Gd w0 U0 nt ops o gs S) (hd:o.dst=some d) (hn:Nat.blt d nt=true) (h5:Nat.blt d 100000=true)
include hg hd hn h5
theorem aM {x:Operand} {av:AV} (ho:o.op = .move x) (hx:ev S x=some av):AOp P w0 U0 nt ops o (gs++rd x) [] S [(d,av)]:=
 d7 hg hd hn h5 (fun k hk=>List.mem_append_left _ hk) fun s hs a w D hv hm =>
  ⟨a.eval x,by simp [execOp,ho],j6 hm (fun k hk=>hs k (List.mem_append_right _ hk)) hx⟩
theorem aA {x:Operand} {av:AV} (ho:o.op = .assign x) (hx:ev S x=some av):AOp P w0 U0 nt ops o (gs++rd x) [] S [(d,av)]:=
 d7 hg hd hn h5 (fun k hk=>List.mem_append_left _ hk) fun s hs a w D hv hm =>
  ⟨a.eval x,by simp [execOp,ho],j6 hm (fun k hk=>hs k (List.mem_append_right _ hk)) hx⟩
theorem b4k {c x y:Operand} {b:Bool} {av:AV} {n q p} (ho:o.op = .pick c x y) (hc:ev S c=some ⟨0,.b b,n,q,p⟩) (hx:ev S (bif b then x else y)=some av):AOp P w0 U0 nt ops o (gs++(rd c++(rd x++rd y))) [] S [(d,av)]:=
 d7 hg hd hn h5 (fun k hk=>List.mem_append_left _ hk) fun s hs a w D hv hm=>by
  have h1:=s6 hm (fun k hk=>hs k (List.mem_append_right _ (List.mem_append_left _ hk))) hc
  refine ⟨a.eval (bif b then x else y),?_,j6 hm (fun k hk=>hs k (List.mem_append_right _ (List.mem_append_right _ ?_))) hx⟩
  ·generalize a.eval=ρ at h1 ⊢
   cases b<;>simp [execOp,ho,h1,asBool,go_sem]
  ·cases b
   ·exact List.mem_append_right _ hk
   ·exact List.mem_append_left _ hk
theorem aPt {c x y:Operand} {b:Bool} {av:AV} {n q p} (ho:o.op = .pick c x y) (hc:ev S c=some ⟨0,.b b,n,q,p⟩) (hb:b=true) (hx:ev S x=some av):AOp P w0 U0 nt ops o (gs++(rd c++(rd x++rd y))) [] S [(d,av)]:=b4k hg hd hn h5 ho hc (by rw [hb];exact hx)
theorem aPf {c x y:Operand} {b:Bool} {av:AV} {n q p} (ho:o.op = .pick c x y) (hc:ev S c=some ⟨0,.b b,n,q,p⟩) (hb:b=false) (hx:ev S y=some av):AOp P w0 U0 nt ops o (gs++(rd c++(rd x++rd y))) [] S [(d,av)]:=b4k hg hd hn h5 ho hc (by rw [hb];exact hx)
theorem Q5 {x:Operand} {b:Bool} {ty:TypeId} {n q p} (ho:o.op = .unOp .not ty x) (hx:ev S x=some ⟨0,.b b,n,q,p⟩):AOp P w0 U0 nt ops o (gs++rd x) [] S [(d,.val (.b (!b)))]:=
 d7 hg hd hn h5 (fun k hk=>List.mem_append_left _ hk) fun s hs a w D hv hm=>by
  have h1:=s6 hm (fun k hk=>hs k (List.mem_append_right _ hk)) hx
  generalize a.eval=ρ at h1 ⊢
  exact ⟨.bool !b,by simp [execOp,ho,h1,Op.unary,go_sem],m7 rfl⟩
theorem C8 {x y:Operand} {op:BinOp} {t1 t2:TypeId} {k:IntKind} {i j:Int} {n q p n' q' p'} {r:Value} (ho:o.op = .binOp op t1 x y t2) (hx:ev S x=some ⟨0,.sc (.int k i),n,q,p⟩) (hy:ev S y=some ⟨0,.sc (.int k j),n',q',p'⟩) (hr:∀ w,(binOp op t1 (.int k i) (.int k j)).run P w = .ok r w) (h1:r.oneCell'=true):AOp P w0 U0 nt ops o (gs++(rd x++rd y)) [] S [(d,.val (.sc r))]:=
 d7 hg hd hn h5 (fun k hk=>List.mem_append_left _ hk) fun s hs a w D hv hm=>by
  have e1:=s6 hm (fun k hk=>hs k (List.mem_append_right _ (List.mem_append_left _ hk))) hx
  have e2:=s6 hm (fun k hk=>hs k (List.mem_append_right _ (List.mem_append_right _ hk))) hy
  refine ⟨r,?_,m7 h1⟩
  have:=hr w
  generalize a.eval=ρ at e1 e2 ⊢
  cases op<;>simp [binOp,go_sem] at this<;>simp [execOp,ho,e1,e2,eqGuard,binOp,this,go_sem]
theorem b8f {x y:Operand} {t1 t2:TypeId} {i j:Int} {n q p n' q' p'} (ho:o.op = .binOp .add t1 x y t2) (hx:ev S x=some ⟨0,.i i,n,q,p⟩) (hy:ev S y=some ⟨0,.i j,n',q',p'⟩) (hr : -9223372036854775808≤i+j∧i+j≤9223372036854775807):AOp P w0 U0 nt ops o (gs++(rd x++rd y)) [] S [(d,.val (.i (i+j)))]:=
 C8 hg hd hn h5 ho hx hy (fun w=>by
  have:IntKind.i64.wrap (i+j)=i+j:=by rw [IntKind.wrap_i64];omega
  simp [binOp,Op.intArith,this,go_sem]) rfl
theorem b8I {x y:Operand} {t1 t2:TypeId} {i j:Int} {n q p n' q' p'} (ho:o.op = .binOp .sub t1 x y t2) (hx:ev S x=some ⟨0,.i i,n,q,p⟩) (hy:ev S y=some ⟨0,.i j,n',q',p'⟩) (hr : -9223372036854775808≤i-j∧i-j≤9223372036854775807):AOp P w0 U0 nt ops o (gs++(rd x++rd y)) [] S [(d,.val (.i (i-j)))]:=
 C8 hg hd hn h5 ho hx hy (fun w=>by
  have:IntKind.i64.wrap (i-j)=i-j:=by rw [IntKind.wrap_i64];omega
  simp [binOp,Op.intArith,this,go_sem]) rfl
theorem b8H {x y:Operand} {t1 t2:TypeId} {i j:Int} {n q p n' q' p'} (ho:o.op = .binOp .mul t1 x y t2) (hx:ev S x=some ⟨0,.i i,n,q,p⟩) (hy:ev S y=some ⟨0,.i j,n',q',p'⟩) (hr : -9223372036854775808≤i*j∧i*j≤9223372036854775807):AOp P w0 U0 nt ops o (gs++(rd x++rd y)) [] S [(d,.val (.i (i*j)))]:=
 C8 hg hd hn h5 ho hx hy (fun w=>by
  have:IntKind.i64.wrap (i*j)=i*j:=by rw [IntKind.wrap_i64];omega
  simp [binOp,Op.intArith,this,go_sem]) rfl
theorem b8m {x y:Operand} {t1 t2:TypeId} {k:IntKind} {i j:Int} {n q p n' q' p'} (ho:o.op = .binOp .rem t1 x y t2) (hx:ev S x=some ⟨0,.sc (.int k i),n,q,p⟩) (hy:ev S y=some ⟨0,.sc (.int k j),n',q',p'⟩) (hr:j≠0):AOp P w0 U0 nt ops o (gs++(rd x++rd y)) [] S [(d,.val (.sc (.int k (i.tmod j))))]:=
 C8 hg hd hn h5 ho hx hy (fun w=>by simp [binOp,Op.intDiv,hr,go_sem]) rfl
theorem b8K {x y:Operand} {t1 t2:TypeId} {k:IntKind} {i j:Int} {n q p n' q' p'} (ho:o.op = .binOp .eql t1 x y t2) (hx:ev S x=some ⟨0,.sc (.int k i),n,q,p⟩) (hy:ev S y=some ⟨0,.sc (.int k j),n',q',p'⟩):AOp P w0 U0 nt ops o (gs++(rd x++rd y)) [] S [(d,.val (.b (decide (i=j))))]:=
 C8 hg hd hn h5 ho hx hy (fun w=>by simp [binOp,Op.intCmp,go_sem];first | rfl | exact (by cases h:decide (i=j)<;>simp_all)) rfl
theorem b8E {x y:Operand} {t1 t2:TypeId} {k:IntKind} {i j:Int} {n q p n' q' p'} (ho:o.op = .binOp .neq t1 x y t2) (hx:ev S x=some ⟨0,.sc (.int k i),n,q,p⟩) (hy:ev S y=some ⟨0,.sc (.int k j),n',q',p'⟩):AOp P w0 U0 nt ops o (gs++(rd x++rd y)) [] S [(d,.val (.b (decide (i≠j))))]:=
 C8 hg hd hn h5 ho hx hy (fun w=>by by_cases h:i=j<;>simp [binOp,Op.intCmp,go_sem,h]) rfl
theorem b8e {x y:Operand} {t1 t2:TypeId} {k:IntKind} {i j:Int} {n q p n' q' p'} (ho:o.op = .binOp .lss t1 x y t2) (hx:ev S x=some ⟨0,.sc (.int k i),n,q,p⟩) (hy:ev S y=some ⟨0,.sc (.int k j),n',q',p'⟩):AOp P w0 U0 nt ops o (gs++(rd x++rd y)) [] S [(d,.val (.b (decide (i<j))))]:=
 C8 hg hd hn h5 ho hx hy (fun w=>by simp [binOp,Op.intCmp,go_sem]) rfl
theorem b8D {x y:Operand} {t1 t2:TypeId} {k:IntKind} {i j:Int} {n q p n' q' p'} (ho:o.op = .binOp .leq t1 x y t2) (hx:ev S x=some ⟨0,.sc (.int k i),n,q,p⟩) (hy:ev S y=some ⟨0,.sc (.int k j),n',q',p'⟩):AOp P w0 U0 nt ops o (gs++(rd x++rd y)) [] S [(d,.val (.b (decide (i≤j))))]:=
 C8 hg hd hn h5 ho hx hy (fun w=>by simp [binOp,Op.intCmp,go_sem]) rfl
theorem b8F {x y:Operand} {t1 t2:TypeId} {k:IntKind} {i j:Int} {n q p n' q' p'} (ho:o.op = .binOp .gtr t1 x y t2) (hx:ev S x=some ⟨0,.sc (.int k i),n,q,p⟩) (hy:ev S y=some ⟨0,.sc (.int k j),n',q',p'⟩):AOp P w0 U0 nt ops o (gs++(rd x++rd y)) [] S [(d,.val (.b (decide (i>j))))]:=
 C8 hg hd hn h5 ho hx hy (fun w=>by simp [binOp,Op.intCmp,go_sem]) rfl
theorem b8k {x y:Operand} {t1 t2:TypeId} {k:IntKind} {i j:Int} {n q p n' q' p'} (ho:o.op = .binOp .geq t1 x y t2) (hx:ev S x=some ⟨0,.sc (.int k i),n,q,p⟩) (hy:ev S y=some ⟨0,.sc (.int k j),n',q',p'⟩):AOp P w0 U0 nt ops o (gs++(rd x++rd y)) [] S [(d,.val (.b (decide (i≥j))))]:=
 C8 hg hd hn h5 ho hx hy (fun w=>by simp [binOp,Op.intCmp,go_sem]) rfl
theorem b8J {x y:Operand} {t1 t2:TypeId} {i j:Bool} {n q p n' q' p'} (ho:o.op = .binOp .neq t1 x y t2) (hu:P.underlying t1=some .bool) (hx:ev S x=some ⟨0,.b i,n,q,p⟩) (hy:ev S y=some ⟨0,.b j,n',q',p'⟩):AOp P w0 U0 nt ops o (gs++(rd x++rd y)) [] S [(d,.val (.b (i != j)))]:=
 d7 hg hd hn h5 (fun k hk=>List.mem_append_left _ hk) fun s hs a w D hv hm=>by
  have e1:=s6 hm (fun k hk=>hs k (List.mem_append_right _ (List.mem_append_left _ hk))) hx
  have e2:=s6 hm (fun k hk=>hs k (List.mem_append_right _ (List.mem_append_right _ hk))) hy
  refine ⟨.bool (i != j),?_,m7 rfl⟩
  generalize a.eval=ρ at e1 e2 ⊢
  have hb:=b5t hu i j w
  simp [execOp,ho,e1,e2,eqGuard,binOp,hb]
  cases i<;>cases j<;>rfl
theorem b7r {x:Operand} {src dst:TypeId} {k k':IntKind} {i:Int} {ds:TypeDesc} {n q p} (ho:o.op = .convert src dst x) (hs1:P.underlying src=some ds) (hu:P.underlying dst=some (.int k')) (hx:ev S x=some ⟨0,.sc (.int k i),n,q,p⟩) (hw:k'.wrap i=i):AOp P w0 U0 nt ops o (gs++rd x) [] S [(d,.val (.sc (.int k' i)))]:=
 d7 hg hd hn h5 (fun k hk=>List.mem_append_left _ hk) fun s hs a w D hv hm=>by
  have e1:=s6 hm (fun k hk=>hs k (List.mem_append_right _ hk)) hx
  refine ⟨.int k' i,?_,m7 rfl⟩
  generalize a.eval=ρ at e1 ⊢
  simp [execOp,ho,e1,convert,Conv.intToInt,run_underlying hs1,run_underlying hu,hw,go_sem]
theorem b8G {x:Operand} {t e:TypeId} {ts:Array TypeId} {l:List CV} {n q p} (ho:o.op = .call { callee := .builtin .len,args := #[x],argTypes:=ts }) (ht:ts[0]?=some t) (hu:P.underlying t=some (.slice e)) (hx:ev S x=some ⟨0,.lst l,n,q,p⟩):AOp P w0 U0 nt ops o (gs++rd x) [] S [(d,.val (.i l.length))]:=
 d7 hg hd hn h5 (fun k hk=>List.mem_append_left _ hk) fun s hs a w D hv hm=>by
  obtain ⟨b,m,c,h1,h2,_⟩:=d8.1 (C2 hm (fun k hk=>hs k (List.mem_append_right _ hk)) hx)
  refine ⟨.int .i64 l.length,?_,m7 rfl⟩
  generalize a.eval=ρ at h1 ⊢
  simp [execOp,ho,resolve,invoke,builtin,Builtin.len_,ht,h1,h2,goInt,run_underlying hu,go_sem]
end
theorem zd {P:Program} {w0:World} {U0:UX} {nt:Nat} {ops:Array Oper} {o:Oper} {S:Nat→Option AV} {gs:List Nat} {d:Nat} {x:Operand} {av:AV} (p:Gd w0 U0 nt ops o gs S:=by exact gN rfl) (q:o.dst=some d:=by exact rfl) (r:Nat.blt d nt=true:=by exact rfl) (t:Nat.blt d 100000=true:=by exact rfl) (u:o.op = .assign x:=by exact rfl) (v:ev S x=some av:=by exact rfl):AOp P w0 U0 nt ops o (gs++rd x) [] S [(d,av)]:=aA p q r t u v
theorem zh {P:Program} {w0:World} {U0:UX} {nt:Nat} {ops:Array Oper} {o:Oper} {S:Nat→Option AV} {gs:List Nat} {d:Nat} {x:Operand} {y:Operand} {t1:TypeId} {t2:TypeId} {k:IntKind} {i:Int} {j:Int} {n} {q} {p} {n'} {q'} {p'} (r:Gd w0 U0 nt ops o gs S:=by exact gN rfl) (t:o.dst=some d:=by exact rfl) (u:Nat.blt d nt=true:=by exact rfl) (v:Nat.blt d 100000=true:=by exact rfl) (z:o.op = .binOp .lss t1 x y t2:=by exact rfl) (A:ev S x=some ⟨0,.sc (.int k i),n,q,p⟩:=by exact rfl) (B:ev S y=some ⟨0,.sc (.int k j),n',q',p'⟩:=by exact rfl):AOp P w0 U0 nt ops o (gs++(rd x++rd y)) [] S [(d,.val (.b (decide (i<j))))]:=b8e r t u v z A B
theorem zi {P:Program} {w0:World} {U0:UX} {nt:Nat} {ops:Array Oper} {o:Oper} {S:Nat→Option AV} {gs:List Nat} {d:Nat} {x:Operand} {y:Operand} {t1:TypeId} {t2:TypeId} {i:Int} {j:Int} {n} {q} {p} {n'} {q'} {p'} (r:Gd w0 U0 nt ops o gs S:=by exact gN rfl) (t:o.dst=some d:=by exact rfl) (u:Nat.blt d nt=true:=by exact rfl) (v:Nat.blt d 100000=true:=by exact rfl) (z:o.op = .binOp .sub t1 x y t2:=by exact rfl) (A:ev S x=some ⟨0,.i i,n,q,p⟩:=by exact rfl) (B:ev S y=some ⟨0,.i j,n',q',p'⟩:=by exact rfl) (C : -9223372036854775808≤i-j∧i-j≤9223372036854775807:=by first | omega | (simp only [List.length_map,List.length_append,List.length_cons,List.length_nil]<;>omega) | (simp<;>omega)):AOp P w0 U0 nt ops o (gs++(rd x++rd y)) [] S [(d,.val (.i (i-j)))]:=b8I r t u v z A B C
theorem zj {P:Program} {w0:World} {U0:UX} {nt:Nat} {ops:Array Oper} {o:Oper} {S:Nat→Option AV} {gs:List Nat} {d:Nat} {x:Operand} {av:AV} (p:Gd w0 U0 nt ops o gs S:=by exact gN rfl) (q:o.dst=some d:=by exact rfl) (r:Nat.blt d nt=true:=by exact rfl) (t:Nat.blt d 100000=true:=by exact rfl) (u:o.op = .move x:=by exact rfl) (v:ev S x=some av:=by exact rfl):AOp P w0 U0 nt ops o (gs++rd x) [] S [(d,av)]:=aM p q r t u v
theorem zp {P:Program} {w0:World} {U0:UX} {nt:Nat} {ops:Array Oper} {o:Oper} {S:Nat→Option AV} {gs:List Nat} {d:Nat} {x:Operand} {t:TypeId} {e:TypeId} {ts:Array TypeId} {l:List CV} {n} {q} {p} (r:Gd w0 U0 nt ops o gs S:=by exact gN rfl) (u:o.dst=some d:=by exact rfl) (v:Nat.blt d nt=true:=by exact rfl) (y:Nat.blt d 100000=true:=by exact rfl) (z:o.op = .call { callee := .builtin .len,args := #[x],argTypes:=ts }:=by exact rfl) (A:ts[0]?=some t:=by exact rfl) (B:P.underlying t=some (.slice e):=by exact rfl) (C:ev S x=some ⟨0,.lst l,n,q,p⟩:=by exact rfl):AOp P w0 U0 nt ops o (gs++rd x) [] S [(d,.val (.i l.length))]:=b8G r u v y z A B C
theorem zt {P:Program} {w0:World} {U0:UX} {nt:Nat} {ops:Array Oper} {o:Oper} {S:Nat→Option AV} {gs:List Nat} {d:Nat} {x:Operand} {b:Bool} {ty:TypeId} {n} {q} {p} (r:Gd w0 U0 nt ops o gs S:=by exact gN rfl) (t:o.dst=some d:=by exact rfl) (u:Nat.blt d nt=true:=by exact rfl) (v:Nat.blt d 100000=true:=by exact rfl) (y:o.op = .unOp .not ty x:=by exact rfl) (z:ev S x=some ⟨0,.b b,n,q,p⟩:=by exact rfl):AOp P w0 U0 nt ops o (gs++rd x) [] S [(d,.val (.b (!b)))]:=Q5 r t u v y z
theorem zu {P:Program} {w0:World} {U0:UX} {nt:Nat} {ops:Array Oper} {o:Oper} {S:Nat→Option AV} {gs:List Nat} {d:Nat} {x:Operand} {y:Operand} {t1:TypeId} {t2:TypeId} {i:Int} {j:Int} {n} {q} {p} {n'} {q'} {p'} (r:Gd w0 U0 nt ops o gs S:=by exact gN rfl) (t:o.dst=some d:=by exact rfl) (u:Nat.blt d nt=true:=by exact rfl) (v:Nat.blt d 100000=true:=by exact rfl) (z:o.op = .binOp .add t1 x y t2:=by exact rfl) (A:ev S x=some ⟨0,.i i,n,q,p⟩:=by exact rfl) (B:ev S y=some ⟨0,.i j,n',q',p'⟩:=by exact rfl) (C : -9223372036854775808≤i+j∧i+j≤9223372036854775807:=by first | omega | (simp only [List.length_map,List.length_append,List.length_cons,List.length_nil]<;>omega) | (simp<;>omega)):AOp P w0 U0 nt ops o (gs++(rd x++rd y)) [] S [(d,.val (.i (i+j)))]:=b8f r t u v z A B C
theorem zC {P:Program} {w0:World} {U0:UX} {nt:Nat} {ops:Array Oper} {o:Oper} {S:Nat→Option AV} {gs:List Nat} {d:Nat} {x:Operand} {y:Operand} {t1:TypeId} {t2:TypeId} {k:IntKind} {i:Int} {j:Int} {n} {q} {p} {n'} {q'} {p'} (r:Gd w0 U0 nt ops o gs S:=by exact gN rfl) (t:o.dst=some d:=by exact rfl) (u:Nat.blt d nt=true:=by exact rfl) (v:Nat.blt d 100000=true:=by exact rfl) (z:o.op = .binOp .eql t1 x y t2:=by exact rfl) (A:ev S x=some ⟨0,.sc (.int k i),n,q,p⟩:=by exact rfl) (B:ev S y=some ⟨0,.sc (.int k j),n',q',p'⟩:=by exact rfl):AOp P w0 U0 nt ops o (gs++(rd x++rd y)) [] S [(d,.val (.b (decide (i=j))))]:=b8K r t u v z A B
theorem zF {P:Program} {w0:World} {U0:UX} {nt:Nat} {ops:Array Oper} {o:Oper} {S:Nat→Option AV} {gs:List Nat} {d:Nat} {x:Operand} {y:Operand} {t1:TypeId} {t2:TypeId} {k:IntKind} {i:Int} {j:Int} {n} {q} {p} {n'} {q'} {p'} (r:Gd w0 U0 nt ops o gs S:=by exact gN rfl) (t:o.dst=some d:=by exact rfl) (u:Nat.blt d nt=true:=by exact rfl) (v:Nat.blt d 100000=true:=by exact rfl) (z:o.op = .binOp .leq t1 x y t2:=by exact rfl) (A:ev S x=some ⟨0,.sc (.int k i),n,q,p⟩:=by exact rfl) (B:ev S y=some ⟨0,.sc (.int k j),n',q',p'⟩:=by exact rfl):AOp P w0 U0 nt ops o (gs++(rd x++rd y)) [] S [(d,.val (.b (decide (i≤j))))]:=b8D r t u v z A B
theorem zK {P:Program} {w0:World} {U0:UX} {nt:Nat} {ops:Array Oper} {o:Oper} {S:Nat→Option AV} {gs:List Nat} {d:Nat} {x:Operand} {y:Operand} {t1:TypeId} {t2:TypeId} {k:IntKind} {i:Int} {j:Int} {n} {q} {p} {n'} {q'} {p'} (r:Gd w0 U0 nt ops o gs S:=by exact gN rfl) (t:o.dst=some d:=by exact rfl) (u:Nat.blt d nt=true:=by exact rfl) (v:Nat.blt d 100000=true:=by exact rfl) (z:o.op = .binOp .neq t1 x y t2:=by exact rfl) (A:ev S x=some ⟨0,.sc (.int k i),n,q,p⟩:=by exact rfl) (B:ev S y=some ⟨0,.sc (.int k j),n',q',p'⟩:=by exact rfl):AOp P w0 U0 nt ops o (gs++(rd x++rd y)) [] S [(d,.val (.b (decide (i≠j))))]:=b8E r t u v z A B
theorem zL {P:Program} {w0:World} {U0:UX} {nt:Nat} {ops:Array Oper} {o:Oper} {S:Nat→Option AV} {gs:List Nat} {d:Nat} {x:Operand} {y:Operand} {t1:TypeId} {t2:TypeId} {k:IntKind} {i:Int} {j:Int} {n} {q} {p} {n'} {q'} {p'} (r:Gd w0 U0 nt ops o gs S:=by exact gN rfl) (t:o.dst=some d:=by exact rfl) (u:Nat.blt d nt=true:=by exact rfl) (v:Nat.blt d 100000=true:=by exact rfl) (z:o.op = .binOp .geq t1 x y t2:=by exact rfl) (A:ev S x=some ⟨0,.sc (.int k i),n,q,p⟩:=by exact rfl) (B:ev S y=some ⟨0,.sc (.int k j),n',q',p'⟩:=by exact rfl):AOp P w0 U0 nt ops o (gs++(rd x++rd y)) [] S [(d,.val (.b (decide (i≥j))))]:=b8k r t u v z A B
theorem zN {P:Program} {w0:World} {U0:UX} {nt:Nat} {ops:Array Oper} {o:Oper} {S:Nat→Option AV} {gs:List Nat} {d:Nat} {c:Operand} {x:Operand} {y:Operand} {b:Bool} {av:AV} {n} {q} {p} (r:Gd w0 U0 nt ops o gs S:=by exact gN rfl) (t:o.dst=some d:=by exact rfl) (u:Nat.blt d nt=true:=by exact rfl) (v:Nat.blt d 100000=true:=by exact rfl) (z:o.op = .pick c x y:=by exact rfl) (A:ev S c=some ⟨0,.b b,n,q,p⟩:=by exact rfl) (B:b=false:=by first | rfl | assumption | (simp;done)) (C:ev S y=some av:=by exact rfl):AOp P w0 U0 nt ops o (gs++(rd c++(rd x++rd y))) [] S [(d,av)]:=aPf r t u v z A B C
theorem zO {P:Program} {w0:World} {U0:UX} {nt:Nat} {ops:Array Oper} {o:Oper} {S:Nat→Option AV} {gs:List Nat} {d:Nat} {c:Operand} {x:Operand} {y:Operand} {b:Bool} {av:AV} {n} {q} {p} (r:Gd w0 U0 nt ops o gs S:=by exact gN rfl) (t:o.dst=some d:=by exact rfl) (u:Nat.blt d nt=true:=by exact rfl) (v:Nat.blt d 100000=true:=by exact rfl) (z:o.op = .pick c x y:=by exact rfl) (A:ev S c=some ⟨0,.b b,n,q,p⟩:=by exact rfl) (B:b=true:=by first | rfl | assumption | (simp;done)) (C:ev S x=some av:=by exact rfl):AOp P w0 U0 nt ops o (gs++(rd c++(rd x++rd y))) [] S [(d,av)]:=aPt r t u v z A B C
theorem zT {P:Program} {w0:World} {U0:UX} {nt:Nat} {ops:Array Oper} {o:Oper} {S:Nat→Option AV} {gs:List Nat} {d:Nat} {x:Operand} {y:Operand} {t1:TypeId} {t2:TypeId} {k:IntKind} {i:Int} {j:Int} {n} {q} {p} {n'} {q'} {p'} (r:Gd w0 U0 nt ops o gs S:=by exact gN rfl) (t:o.dst=some d:=by exact rfl) (u:Nat.blt d nt=true:=by exact rfl) (v:Nat.blt d 100000=true:=by exact rfl) (z:o.op = .binOp .gtr t1 x y t2:=by exact rfl) (A:ev S x=some ⟨0,.sc (.int k i),n,q,p⟩:=by exact rfl) (B:ev S y=some ⟨0,.sc (.int k j),n',q',p'⟩:=by exact rfl):AOp P w0 U0 nt ops o (gs++(rd x++rd y)) [] S [(d,.val (.b (decide (i>j))))]:=b8F r t u v z A B
theorem zbv {P:Program} {w0:World} {U0:UX} {nt:Nat} {ops:Array Oper} {o:Oper} {S:Nat→Option AV} {gs:List Nat} {d:Nat} {x:Operand} {y:Operand} {t1:TypeId} {t2:TypeId} {i:Bool} {j:Bool} {n} {q} {p} {n'} {q'} {p'} (r:Gd w0 U0 nt ops o gs S:=by exact gN rfl) (t:o.dst=some d:=by exact rfl) (u:Nat.blt d nt=true:=by exact rfl) (v:Nat.blt d 100000=true:=by exact rfl) (z:o.op = .binOp .neq t1 x y t2:=by exact rfl) (A:P.underlying t1=some .bool:=by exact rfl) (B:ev S x=some ⟨0,.b i,n,q,p⟩:=by exact rfl) (C:ev S y=some ⟨0,.b j,n',q',p'⟩:=by exact rfl):AOp P w0 U0 nt ops o (gs++(rd x++rd y)) [] S [(d,.val (.b (i != j)))]:=b8J r t u v z A B C
theorem zbB {P:Program} {w0:World} {U0:UX} {nt:Nat} {ops:Array Oper} {o:Oper} {S:Nat→Option AV} {gs:List Nat} {d:Nat} {x:Operand} {y:Operand} {t1:TypeId} {t2:TypeId} {i:Int} {j:Int} {n} {q} {p} {n'} {q'} {p'} (r:Gd w0 U0 nt ops o gs S:=by exact gN rfl) (t:o.dst=some d:=by exact rfl) (u:Nat.blt d nt=true:=by exact rfl) (v:Nat.blt d 100000=true:=by exact rfl) (z:o.op = .binOp .mul t1 x y t2:=by exact rfl) (A:ev S x=some ⟨0,.i i,n,q,p⟩:=by exact rfl) (B:ev S y=some ⟨0,.i j,n',q',p'⟩:=by exact rfl) (C : -9223372036854775808≤i*j∧i*j≤9223372036854775807:=by first | omega | (simp only [List.length_map,List.length_append,List.length_cons,List.length_nil]<;>omega) | (simp<;>omega)):AOp P w0 U0 nt ops o (gs++(rd x++rd y)) [] S [(d,.val (.i (i*j)))]:=b8H r t u v z A B C
theorem zbF {P:Program} {w0:World} {U0:UX} {nt:Nat} {ops:Array Oper} {o:Oper} {S:Nat→Option AV} {gs:List Nat} {d:Nat} {x:Operand} {src:TypeId} {dst:TypeId} {k:IntKind} {k':IntKind} {i:Int} {ds:TypeDesc} {n} {q} {p} (r:Gd w0 U0 nt ops o gs S:=by exact gN rfl) (t:o.dst=some d:=by exact rfl) (u:Nat.blt d nt=true:=by exact rfl) (v:Nat.blt d 100000=true:=by exact rfl) (y:o.op = .convert src dst x:=by exact rfl) (z:P.underlying src=some ds:=by exact rfl) (A:P.underlying dst=some (.int k'):=by exact rfl) (B:ev S x=some ⟨0,.sc (.int k i),n,q,p⟩:=by exact rfl) (C:k'.wrap i=i:=by first | rfl | (rw [IntKind.wrap_i64];omega) | assumption):AOp P w0 U0 nt ops o (gs++rd x) [] S [(d,.val (.sc (.int k' i)))]:=b7r r t u v y z A B C
theorem zbH {P:Program} {w0:World} {U0:UX} {nt:Nat} {ops:Array Oper} {o:Oper} {S:Nat→Option AV} {gs:List Nat} {d:Nat} {x:Operand} {y:Operand} {t1:TypeId} {t2:TypeId} {k:IntKind} {i:Int} {j:Int} {n} {q} {p} {n'} {q'} {p'} (r:Gd w0 U0 nt ops o gs S:=by exact gN rfl) (t:o.dst=some d:=by exact rfl) (u:Nat.blt d nt=true:=by exact rfl) (v:Nat.blt d 100000=true:=by exact rfl) (z:o.op = .binOp .rem t1 x y t2:=by exact rfl) (A:ev S x=some ⟨0,.sc (.int k i),n,q,p⟩:=by exact rfl) (B:ev S y=some ⟨0,.sc (.int k j),n',q',p'⟩:=by exact rfl) (C:j≠0:=by first | decide | assumption):AOp P w0 U0 nt ops o (gs++(rd x++rd y)) [] S [(d,.val (.sc (.int k (i.tmod j))))]:=b8m r t u v z A B C
end
theorem a4k (off:Nat):∀ (vs:List Value) (j:Nat) (cells:Array Value),off+j+vs.length≤cells.size→((vs.zipIdx j).foldl (fun cs (x:Value×Nat)=>cs.setIfInBounds (off+x.2) x.1) cells).toList=cells.toList.take (off+j)++vs++cells.toList.drop (off+j+vs.length)
 | [],j,cells,h=>by simp
 | v::vs,j,cells,h=>by
  rw [List.zipIdx_cons,List.foldl_cons,a4k off vs (j+1) _ (by simp at h ⊢;omega)]
  have:=list_seg_step cells.toList (off+j) v vs (by simp at h ⊢;omega)
  simp only [Array.toList_setIfInBounds,Nat.add_assoc,List.length_cons] at this ⊢
  exact this
def F8:List (List Value)→List (Nat×Value)→List (List Value)
 | segs,[]=>segs
 | segs,(i,v)::ps=>F8 (segs.set i v.cells.toList) ps
theorem a1O:∀ (segs:List (List Value)) (i:Nat) (seg vs:List Value),segs[i]?=some seg→vs.length=seg.length →
  (segs.set i vs).flatten=segs.flatten.take ((segs.take i).map List.length).sum++vs++segs.flatten.drop (((segs.take i).map List.length).sum+vs.length)
 | [],i,seg,vs,h,_=>by simp at h
 | s::segs,0,seg,vs,h,hl=>by
  simp only [List.getElem?_cons_zero,Option.some.injEq] at h
  subst h
  simp [List.drop_append,hl]
 | s::segs,i+1,seg,vs,h,hl=>by
  have ih:=a1O segs i seg vs (by simpa using h) hl
  rw [List.set_cons_succ,List.flatten_cons,ih,List.flatten_cons,List.take_succ_cons,List.map_cons,List.sum_cons]
  rw [List.take_append,List.drop_append,List.take_of_length_le (by omega:s.length≤s.length+_),List.drop_eq_nil_of_le (by omega:s.length≤s.length+_+vs.length)]
  simp only [List.nil_append,List.append_assoc]
  congr 4
  ·omega
  ·omega
theorem a0W (place:Nat→Option (Nat×Nat)) (sz:List Nat) (hpl:∀ i z,sz[i]?=some z→place i=some ((sz.take i).sum,z)):∀ (parts:List (Nat×Value)) (segs:List (List Value)) (cells:Array Value),cells.toList=segs.flatten→segs.map List.length=sz→(∀ x∈parts,sz[x.1]?=some x.2.cells.size) →
  Instr.fill place cells parts=some (F8 segs parts).flatten.toArray
 | [],segs,cells,hc,_,_=>by rw [Instr.fill,F8,←hc]
 | (i,v)::ps,segs,cells,hc,hsz,hp=>by
  have h1:=hp (i,v) (by simp)
  simp only at h1
  have h2:=hpl i _ h1
  have hsz':=hsz
  rw [←hsz,List.getElem?_map] at h1
  obtain ⟨seg,h3,h4⟩:∃ seg,segs[i]?=some seg∧seg.length=v.cells.size:=by
   cases hs:segs[i]? with
   | none=>rw [hs] at h1;simp at h1
   | some seg=>rw [hs] at h1;simp at h1;exact ⟨seg,rfl,h1⟩
  have hoff:(sz.take i).sum=((segs.take i).map List.length).sum:=by rw [←hsz,List.map_take]
  have hlen:((segs.take i).map List.length).sum+v.cells.size≤cells.size:=by
   rw [show cells.size=segs.flatten.length by rw [←hc];simp,←h4]
   have hi:i<segs.length:=by
    rcases Nat.lt_or_ge i segs.length with h | h
    ·exact h
    ·rw [List.getElem?_eq_none h] at h3;cases h3
   rw [List.getElem?_eq_getElem hi] at h3
   have:segs=segs.take i++seg::segs.drop (i+1):=by
    rw [←Option.some.inj h3,List.getElem_cons_drop,List.take_append_drop]
   conv=>rhs;rw [this]
   simp only [List.flatten_append,List.flatten_cons,List.length_append,List.length_flatten]
   omega
  rw [Instr.fill,h2]
  simp only
  rw [if_neg (by rw [hoff];simp only [ne_eq,not_true_eq_false,decide_false,Bool.false_or,decide_eq_true_eq];omega)]
  rw [F8]
  refine a0W place sz hpl ps (segs.set i v.cells.toList) _ ?_ ?_ (fun x hx=>hp x (List.mem_cons_of_mem _ hx))
  ·have hz:v.cells.zipIdx=(v.cells.toList.zipIdx 0).toArray:=by apply Array.ext';simp
   rw [hz]
   have:=a4k (sz.take i).sum v.cells.toList 0 cells (by rw [hoff];simp only [Array.length_toList,Nat.add_zero];omega)
   simp only [List.foldl_toArray'] at this ⊢
   rw [a1O segs i seg _ h3 (by simp [h4]),←hc,←hoff]
   simpa using this
  ·rw [List.map_set,hsz]
   apply List.ext_getElem?
   intro j
   rw [List.getElem?_set]
   split
   ·rename_i e
    subst e
    split
    ·rename_i hl
     have:=hp (i,v) (by simp)
     simp only at this
     rw [this]
     simp
    ·rename_i hl
     rw [List.getElem?_eq_none (by omega)]
   ·rfl
noncomputable def a7f:List CV→Nat→CV→Option (List CV)
 | [],_,_=>none
 | c::cs,0,x=>match Nat.beq c.size x.size with | true=>some (x::cs) | false=>none
 | c::cs,i+1,x=>match a7f cs i x with | some r=>some (c::r) | none=>none
theorem T8:∀ {l:List CV} {i:Nat} {x:CV} {r:List CV},a7f l i x=some r→r=l.set i x∧∃ c,l[i]?=some c∧c.size=x.size
 | [],_,_,_,h=>by simp [a7f] at h
 | c::cs,0,x,r,h=>by
  unfold a7f at h
  split at h
  ·rename_i hb
   cases h
   exact ⟨rfl,c,rfl,Nat.eq_of_beq_eq_true hb⟩
  ·cases h
 | c::cs,i+1,x,r,h=>by
  unfold a7f at h
  split at h
  ·rename_i r' hr
   cases h
   obtain ⟨h1,c',h2,h3⟩:=T8 hr
   exact ⟨by rw [h1];rfl,c',by simpa using h2,h3⟩
  ·cases h
def zsO:List Nat→List Value→Option (List CV)
 | [],[]=>some []
 | 1::sz,v::vs=>match L6 v,M2 v,zsO sz vs with | true,true,some r=>some (.lst []::r) | true,false,some r=>some (.sc v::r) | _,_,_=>none
 | 2::sz,u::v::vs=>match L6 u,L6 v,M2 u,M2 v,zsO sz vs with | true,true,false,true,some r=>some (.row [.sc u,.lst []]::r) | _,_,_,_,_=>none
 | _,_=>none
def V6:CV→Bool
 | ⟨1,_,[]⟩=>true
 | _=>false
theorem b3f {v:Value} (h:M2 v=true):v = .slice none 0 0:=by
 unfold M2 at h
 split at h
 ·rfl
 ·cases h
theorem S1 {U:Nat→Nat→Prop} {w:World} {v:Value} (h:L6 v=true):(M2 v=true→Rep U w (.lst []) [v])∧(M2 v=false→Rep U w (.sc v) [v]):=by
 have:=U4 U w v h
 unfold N5 at this
 constructor<;>intro h1<;>rw [h1] at this<;>exact this
theorem J7 {U:Nat→Nat→Prop} {w:World}:∀ {sz:List Nat} {vs:List Value} {r:List CV},zsO sz vs=some r→∃ segs:List (List Value),segs.flatten=vs∧segs.map List.length=sz∧r.map CV.size=sz∧r.length=segs.length∧∀ (i:Nat) (c:CV),r[i]?=some c→∃ seg,segs[i]?=some seg∧Rep U w c seg∧(V6 c=true→seg=[.slice none 0 0])
 | [],vs,r,h=>by
  cases vs with
  | nil=>simp [zsO] at h;subst h;exact ⟨[],rfl,rfl,rfl,rfl,fun i c hi=>by simp at hi⟩
  | cons v vs=>simp [zsO] at h
 | z::sz,vs,r,h=>by
  unfold zsO at h
  split at h
  ·rename_i heq;cases heq
  ·rename_i sz' v vs' heq
   injection heq with e1 e2
   subst e1;subst e2
   split at h
   ·rename_i r' h1 h2 h3
    cases h
    obtain ⟨segs,a1,a2,a3,a5,a4⟩:=J7 (U:=U) (w:=w) h3
    refine ⟨[v]::segs,by simp [a1],by simp [a2],by rw [List.map_cons,a3];rfl,by simp [a5],fun i c hi=>?_⟩
    cases i with
    | zero=>simp at hi;subst hi;exact ⟨[v],rfl,(S1 h1).1 h2,fun _=>by rw [b3f h2]⟩
    | succ i=>obtain ⟨seg,b1,b2⟩:=a4 i c (by simpa using hi);exact ⟨seg,by simpa using b1,b2⟩
   ·rename_i r' h1 h2 h3
    cases h
    obtain ⟨segs,a1,a2,a3,a5,a4⟩:=J7 (U:=U) (w:=w) h3
    refine ⟨[v]::segs,by simp [a1],by simp [a2],by rw [List.map_cons,a3];rfl,by simp [a5],fun i c hi=>?_⟩
    cases i with
    | zero=>simp at hi;subst hi;exact ⟨[v],rfl,(S1 h1).2 h2,fun h=>by simp [V6] at h⟩
    | succ i=>obtain ⟨seg,b1,b2⟩:=a4 i c (by simpa using hi);exact ⟨seg,by simpa using b1,b2⟩
   ·cases h
  ·rename_i sz' u v vs' heq
   injection heq with e1 e2
   subst e1;subst e2
   split at h
   ·rename_i r' h1 h2 h3 h4 h5
    cases h
    obtain ⟨segs,a1,a2,a3,a5,a4⟩:=J7 (U:=U) (w:=w) h5
    refine ⟨[u,v]::segs,by simp [a1],by simp [a2],by rw [List.map_cons,a3];rfl,by simp [a5],fun i c hi=>?_⟩
    cases i with
    | zero =>
     simp at hi;subst hi
     refine ⟨[u,v],rfl,s8.2 ⟨[u],[v],rfl,(S1 h1).2 h3,[v],[],rfl,(S1 h2).1 h4,rfl⟩,fun h=>by simp [V6] at h⟩
    | succ i=>obtain ⟨seg,b1,b2⟩:=a4 i c (by simpa using hi);exact ⟨seg,by simpa using b1,b2⟩
   ·cases h
  ·cases h
theorem I6 {U:Nat→Nat→Prop} {w:World}:∀ {r:List CV} {segs:List (List Value)},r.length=segs.length→(∀ (i:Nat) (c:CV),r[i]?=some c→∃ seg,segs[i]?=some seg∧Rep U w c seg)→Sq (r.map fun c=>Rep U w c) segs.flatten
 | [],[],_,_=>rfl
 | [],s::segs,h,_=>by simp at h
 | c::r,[],h,_=>by simp at h
 | c::r,s::segs,h,h2=>by
  obtain ⟨seg,e1,e2⟩:=h2 0 c rfl
  simp at e1
  subst e1
  refine ⟨s,segs.flatten,rfl,e2,I6 (by simpa using h) fun i c' hi=>?_⟩
  obtain ⟨seg,f1,f2⟩:=h2 (i+1) c' (by simpa using hi)
  exact ⟨seg,by simpa using f1,f2⟩
noncomputable def X7 (S:Nat→Option AV):List (Nat×Operand)→List CV→Option (List CV)
 | [],zs=>some zs
 | (i,x)::ps,zs=>match ev S x with
  | some ⟨0,c,_,_,_⟩=>match a7f zs i c with | some zs'=>X7 S ps zs' | none=>none
  | _=>none
def rds:List (Nat×Operand)→List Nat
 | []=>[]
 | x::ps=>rd x.2++rds ps
theorem Y9 {S:Nat→Option AV} {U:Nat→Nat→Prop} {w:World} {ρ:Operand→Value}:∀ {parts:List (Nat×Operand)} {zs r:List CV} {segs:List (List Value)},X7 S parts zs=some r→(∀ x∈parts,∀ c n q p,ev S x.2=some ⟨0,c,n,q,p⟩→VRep U w c (ρ x.2))→zs.length=segs.length→segs.map List.length=zs.map CV.size→(∀ (i:Nat) (c:CV),zs[i]?=some c→∃ seg,segs[i]?=some seg∧Rep U w c seg) →
  (∀ x∈parts.map (fun x=>(x.1,ρ x.2)),(zs.map CV.size)[x.1]?=some x.2.cells.size)∧Sq (r.map fun c=>Rep U w c) (F8 segs (parts.map fun x=>(x.1,ρ x.2))).flatten
 | [],zs,r,segs,h,_,h2,_,h3=>by
  simp [X7] at h
  subst h
  exact ⟨by simp,I6 h2 h3⟩
 | (i,x)::ps,zs,r,segs,h,hv,h2,h4,h3=>by
  unfold X7 at h
  split at h
  ·rename_i c n q p hev
   split at h
   ·rename_i zs' hset
    obtain ⟨e1,c0,e2,e3⟩:=T8 hset
    have hx:=hv (i,x) (by simp) c n q p hev
    have hrep:=hx.cells
    have hlen:=hrep.len
    obtain ⟨seg,e4,e5⟩:=h3 i c0 e2
    have hi:i<zs.length:=by
     rcases Nat.lt_or_ge i zs.length with h | h
     ·exact h
     ·rw [List.getElem?_eq_none h] at e2;cases e2
    have hsz:zs'.map CV.size=zs.map CV.size:=by
     rw [e1,List.map_set]
     apply List.ext_getElem?
     intro j
     rw [List.getElem?_set]
     split
     ·rename_i e
      subst e
      rw [if_pos (by simpa using hi),List.getElem?_map,e2,Option.map_some,e3]
     ·rfl
    have h4':(segs.set i (ρ x).cells.toList).map List.length=segs.map List.length:=by
     rw [List.map_set]
     apply List.ext_getElem?
     intro j
     rw [List.getElem?_set]
     split
     ·rename_i e
      subst e
      rw [if_pos (by simp;omega),List.getElem?_map,e4,Option.map_some,hlen,←e3,e5.len]
     ·rfl
    obtain ⟨g1,g2⟩:=Y9 (segs:=segs.set i (ρ x).cells.toList) h (fun y hy=>hv y (List.mem_cons_of_mem _ hy)) (by rw [e1];simp [h2]) (by rw [h4',h4,hsz]) (fun j c' hj=>by
     rw [e1,List.getElem?_set] at hj
     rw [List.getElem?_set]
     split at hj
     ·rename_i e
      subst e
      cases hj
      exact ⟨(ρ x).cells.toList,by rw [if_pos rfl,if_pos (by omega)],hrep⟩
     ·rename_i e
      obtain ⟨seg',f1,f2⟩:=h3 j c' hj
      exact ⟨seg',by rw [if_neg e];exact f1,f2⟩)
    refine ⟨fun y hy=>?_,g2⟩
    rw [List.map_cons,List.mem_cons] at hy
    rcases hy with rfl | hy
    ·simp only [List.getElem?_map,e2,Option.map_some,e3,←hlen,Array.length_toList]
    ·rw [←hsz];exact g1 y hy
   ·cases h
  ·cases h
def RR (U:Nat→Nat→Prop) (w:World) (r:AV) (v:Value):Prop:=
 if r.t=4 then ∃ vs:List Value,v = .tuple vs.toArray∧VReps U w r.c.l vs else VRep U w r.c v
def b4m (P:Program) (f:FuncId):Prop:=∀ args w,(callFunc f args).run P w = .ok (.enter f args) w
theorem r9 {P : Program} {f : FuncId} {fn : Func} (hf : P.funcs[f]? = some fn) (hn : (fn.name == "runtime.NumGoroutine") = false) (hb : fn.body.isNone = false) : b4m P f := by
 intro args w
 have hn' : fn.name ≠ "runtime.NumGoroutine" := by simpa using hn
 have hb':fn.body≠none:=by cases h:fn.body<;>simp_all
 simp [callFunc,hf,hn',hb',go_sem]
def Hw (W w:World) (U:UX):Prop:=(∀ n,U.f n=none)∧∀ b,¬ U.x b
def AFun (P:Program) (W:World) (f:FuncId) (args:List CV) (r:AV):Prop:=
 b4m P f∧(r.t=0∨r.t=4)∧r.n=0∧∀ (U:Nat→Nat→Prop) (w:World) (vs:List Value),True→VReps U w args vs →
  Calls P f vs.toArray w fun e w'=>∃ v,e = .returned v∧RR (fun b o=>U b o∨w.heap.size≤b) w' r v∧Below w.heap.size w w'
theorem AFun.up {P:Program} {W w:World} {f:FuncId} {args:List CV} {r:AV} {U:UX} (h:AFun P W f args r) (hW:Hw W w U):AFun P w f args r:=
 ⟨h.1,h.2.1,h.2.2.1,fun U w' vs hw hv=>h.2.2.2 U w' vs trivial hv⟩
noncomputable def P7 (S:Nat→Option AV):List Operand→Option (List CV)
 | []=>some []
 | x::xs=>match ev S x,P7 S xs with
  | some ⟨0,c,_,_,_⟩,some cs=>some (c::cs)
  | _,_=>none
def rdl:List Operand→List Nat
 | []=>[]
 | x::xs=>rd x++rdl xs
section
variable {P:Program} {w0:World} {U0:UX} {nt:Nat} {ops:Array Oper} {o:Oper} {S:Nat→Option AV} {gs:List Nat} {d:Nat} {s:AS} {a:Act} {w:World} {D:Nat→Nat→Prop} {hv:Nat→Value}
theorem SimG.box (h:SimG w0 U0 nt s a w D hv) {n:Nat} {c:CV} {m q p} (h1:look s (100000+n)=some ⟨5,c,m,q,p⟩) (h2:n<400000):∃ g xs ty,hv (100000+n) = .pointer (some ⟨g,0,none⟩)∧w.heap[g]?=some (.cells xs.toArray ty (0,0))∧Rep (Us w0 U0 D) w c xs∧Tk hv (b6 s) ⟨5,c,m,q,p⟩ xs:=h.obj (100000+n) _ h1 ⟨by omega,by omega⟩
theorem A8 (h:SimG w0 U0 nt s a w D hv):∀ {xs:List Operand} {cs:List CV},(∀ k∈rdl xs,look s k=S k)→P7 S xs=some cs→VReps (Us w0 U0 D) w cs (xs.map a.eval)
 | [],cs,_,he=>by simp [P7] at he;subst he;rfl
 | x::xs,cs,hs,he=>by
  unfold P7 at he
  split at he
  ·rename_i c n q p cs' h1 h2
   cases he
   exact ⟨a.eval x,xs.map a.eval,rfl,C2 h (fun k hk=>hs k (List.mem_append_left _ hk)) h1,A8 h (fun k hk=>hs k (List.mem_append_right _ hk)) h2⟩
  ·cases he
theorem S4 {W:World} (hW:W.heap.size=w.heap.size) {w':World} (hsz:w.heap.size≤w'.heap.size) (hbase:w0.heap.size≤w.heap.size) {r:AV} {v:Value} (h:RR (fun b o=>Us w0 U0 D b o∨W.heap.size≤b) w' r v):RR (Us w0 U0 (Dn D w w')) w' r v:=by
 have hk:∀ b o v,(Us w0 U0 D b o∨W.heap.size≤b)→w'.cell? ⟨b,o,none⟩=some v→Us w0 U0 (Dn D w w') b o∧w'.cell? ⟨b,o,none⟩=some v:=by
  intro b o v hu hc
  refine ⟨?_,hc⟩
  rcases hu with (h | h) | h
  ·exact .inl h
  ·exact .inr ⟨h.1,.inl h.2⟩
  ·exact .inr ⟨by omega,.inr ⟨by omega,World.block_lt_of_cell? w' _ hc⟩⟩
 unfold RR at h ⊢
 split
 ·rename_i ht
  rw [if_pos ht] at h
  obtain ⟨vs,h1,h2⟩:=h
  exact ⟨vs,h1,h2.keep hk⟩
 ·rename_i ht
  rw [if_neg ht] at h
  exact h.keep hk
theorem J6 {U:Nat→Nat→Prop} {r:AV} {v:Value} (ht:r.t=0∨r.t=4) (hn:r.n=0) (h:RR U w r v):AVRep U w hv (b6 s) r v:=by
 unfold RR at h
 unfold AVRep
 rcases ht with ht | ht
 ·rw [if_pos ht]
  rw [if_neg (by omega)] at h
  exact ⟨h,fun hl=>by rw [hn] at hl;exact absurd hl y0⟩
 ·rw [if_neg (by omega),if_neg (by omega),if_neg (by omega),if_pos ht]
  rw [if_pos ht] at h
  exact h
theorem b4r {f:FuncId} {xs:Array Operand} {ts:Array TypeId} {cs:List CV} {r:AV} (hg:Gd w0 U0 nt ops o gs S) (hd:o.dst=some d) (hn:Nat.blt d nt=true) (h5:Nat.blt d 100000=true)
  (ho:o.op = .call { callee := .value (.func f),args:=xs,argTypes:=ts }) (hx:P7 S xs.toList=some cs) (hc:AFun P w0 f cs r):AOp P w0 U0 nt ops o (gs++rdl xs.toList) [] S [(d,r)]:=by
 intro s hs _ a w ⟨D,hv,h⟩ Q K hK
 rw [if_pos (hg s (fun k hk=>hs k (List.mem_append_left _ hk)) a w D hv h)]
 have hargs:=A8 h (fun k hk=>hs k (List.mem_append_right _ hk)) hx
 obtain ⟨h1,h2,h3,h4⟩:=hc
 have hcall:=h4 _ w _ trivial hargs
 have he:(execOp a.eval o).run P w = .ok (.enter f (xs.toList.map a.eval).toArray) w:=by
  have hf:a.eval (.func f) = .func (.func f) #[] #[]:=rfl
  have hen:=h1 (xs.map a.eval) w
  have harr:(xs.toList.map a.eval).toArray=xs.map a.eval:=by apply Array.ext';simp
  rw [harr]
  generalize a.eval=ρ at hf hen ⊢
  simp [execOp,ho,resolve,invoke,Deferred.ofValue,hf,hen]
 unfold Oper.wp
 rw [he,Oper.upon_enter]
 refine hcall.mono ?_
 rintro e w' ⟨v,rfl,h6,h7⟩
 rw [hd]
 refine hK _ _ ⟨Dn D w w',hv,(h.growN h7).put (bL hn) (bL h5) (J6 h2 h3 (S4 rfl h7.size h.below.size h6))⟩
theorem zn {P:Program} {w0:World} {U0:UX} {nt:Nat} {ops:Array Oper} {o:Oper} {S:Nat→Option AV} {gs:List Nat} {d:Nat} {f:FuncId} {xs:Array Operand} {ts:Array TypeId} {cs:List CV} {r:AV} (p:Gd w0 U0 nt ops o gs S:=by exact gN rfl) (q:o.dst=some d:=by exact rfl) (t:Nat.blt d nt=true:=by exact rfl) (u:Nat.blt d 100000=true:=by exact rfl) (x:o.op = .call { callee := .value (.func f),args:=xs,argTypes:=ts }:=by exact rfl) (y:P7 S xs.toList=some cs:=by exact rfl) (z:AFun P w0 f cs r):AOp P w0 U0 nt ops o (gs++rdl xs.toList) [] S [(d,r)]:=b4r p q t u x y z
def b5z:List CV→Nat→Option CV
 | [],_=>none
 | c::_,0=>some c
 | _::cs,i+1=>b5z cs i
theorem a9S:∀ (l:List CV) (i:Nat),b5z l i=l[i]?
 | [],_=>rfl
 | c::cs,0=>rfl
 | c::cs,i+1=>by rw [b5z,a9S cs i];rfl
section
variable (hg:Gd w0 U0 nt ops o gs S) (hd:o.dst=some d) (hn:Nat.blt d nt=true) (h5:Nat.blt d 100000=true)
include hg hd hn h5
theorem aX {x:Operand} {i:Nat} {l:List CV} {c:CV} {k v n q p} (ho:o.op = .extract x i) (hx:ev S x=some ⟨4,⟨k,v,l⟩,n,q,p⟩) (hi:b5z l i=some c):AOp P w0 U0 nt ops o (gs++rd x) [] S [(d,.val c)]:=
 d7 hg hd hn h5 (fun k hk=>List.mem_append_left _ hk) fun s hs a w D hv hm=>by
  obtain ⟨vs,h1,h2⟩:∃ vs:List Value,a.eval x = .tuple vs.toArray∧VReps (Us w0 U0 D) w l vs:=j6 hm (fun k hk=>hs k (List.mem_append_right _ hk)) hx
  rw [a9S] at hi
  obtain ⟨u,h3,h4⟩:=h2.at hi
  refine ⟨u,?_,i7 h4⟩
  generalize a.eval=ρ at h1 ⊢
  simp [execOp,ho,Instr.extract,h1,h3]
def K1:TypeDesc→Bool
 | .struct _ | .array _ _=>true
 | _=>false
omit hg hd hn h5 in
theorem M8 {ty:TypeId} {ds:TypeDesc} (hu:P.underlying ty=some ds) (w:World):(isAgg ty).run P w = .ok (K1 ds) w:=by
 cases ds<;>simp [isAgg,run_underlying hu,K1]
omit hg hd hn h5 in
theorem q8 {ty:TypeId} {ds:TypeDesc} {z:Nat} (hu:P.underlying ty=some ds) (hi:(P.info? ty).map (·.size)=some z) {U:Nat→Nat→Prop} {c:CV} (hk:K1 ds=Nat.beq c.k 2) (hz:c.size=z) {b off:Nat} {xs:List Value} (hr:Rep U w c xs) (hc:∀ i,i<xs.length→w.cell? ⟨b,off+i,none⟩=xs[i]?) :
  ∃ v,(loadVar ty ⟨b,off,none⟩).run P w = .ok v w∧VRep U w c v∧v.cells.toList=xs:=by
 have hadd:∀ j,(⟨b,off,none⟩:Addr).add j=⟨b,off+j,none⟩:=fun j=>by unfold Addr.add;split<;>simp_all
 have hsz:(sizeOf ty).run P w = .ok z w:=by
  cases hi':P.info? ty with
  | none=>rw [hi'] at hi;simp at hi
  | some i=>rw [hi'] at hi;simp at hi;simp [sizeOf,typeInfo,hi',hi]
 cases hb:K1 ds with
 | true =>
  rw [hb] at hk
  have hk2:c.k=2:=Nat.eq_of_beq_eq_true hk.symm
  have hl:xs.length=z:=by rw [hr.len,hz]
  refine ⟨.agg xs.toArray,?_,by unfold VRep;rw [if_pos hk2];exact ⟨xs,rfl,hr⟩,by simp [Value.cells]⟩
  have:=run_loadCells_list (P:=P) w ⟨b,off,none⟩ xs (fun j v hj=>by
   have hjl:j<xs.length:=by
    rcases Nat.lt_or_ge j xs.length with h | h
    ·exact h
    ·rw [List.getElem?_eq_none h] at hj;cases hj
   rw [hadd,hc j hjl,hj])
  rw [hl] at this
  simp [loadVar,M8 hu,hb,hsz,this]
 | false =>
  rw [hb] at hk
  have hk2:c.k≠2:=fun e=>by rw [e] at hk;cases hk
  have h1:c.size=1:=by cases c with | mk k v l=>rw [CV.size_mk,if_neg hk2]
  have hl:xs.length=1:=by rw [hr.len,h1]
  obtain ⟨v,rfl⟩:∃ v,xs=[v]:=by
   match xs,hl with
   | [v],_=>exact ⟨v,rfl⟩
  have h0:=hc 0 (by simp)
  refine ⟨v,?_,by unfold VRep;rw [if_neg hk2];exact hr,?_⟩
  ·simp only [Nat.add_zero,List.getElem?_cons_zero] at h0
   simp [loadVar,M8 hu,hb,run_load,h0]
  ·have hv:VRep U w c v:=by unfold VRep;rw [if_neg hk2];exact hr
   have h1:=hr.one v (by simp)
   cases v<;>first | rfl | simp [Value.oneCell'] at h1
theorem b1n {x:Operand} {ty:TypeId} {ds:TypeDesc} {z:Nat} {c:CV} {n q p} (ho:o.op = .load ty x) (hu:P.underlying ty=some ds) (hi:(P.info? ty).map (·.size)=some z) (hx:ev S x=some ⟨3,c,n,q,p⟩) (hk:K1 ds=Nat.beq c.k 2) (hz:c.size=z):AOp P w0 U0 nt ops o (gs++rd x) [] S [(d,.val c)]:=
 d7 hg hd hn h5 (fun k hk=>List.mem_append_left _ hk) fun s hs a w D hv hm=>by
  obtain ⟨b,off,xs,h1,h2,h3⟩:∃ b off xs,a.eval x = .pointer (some ⟨b,off,none⟩)∧Rep (Us w0 U0 D) w c xs∧∀ i,i<xs.length→Us w0 U0 D b (off+i)∧w.cell? ⟨b,off+i,none⟩=xs[i]?:=j6 hm (fun k hk=>hs k (List.mem_append_right _ hk)) hx
  obtain ⟨v,h4,h6,_⟩:=q8 hu hi hk hz h2 (fun i hi=>(h3 i hi).2)
  refine ⟨v,?_,i7 h6⟩
  generalize a.eval=ρ at h1 ⊢
  simp [execOp,ho,Instr.loadAt,Instr.sureAddr,h1,h4]
omit hg hd hn h5 in
theorem H0 {g:Nat} {xs:List Value} {ty:TypeId} (h:w.heap[g]?=some (.cells xs.toArray ty (0,0))) {ys zs us:List Value} (e:xs=ys++zs++us):∀ i,i<zs.length→w.cell? ⟨g,ys.length+i,none⟩=zs[i]?:=by
 intro i hi
 simp [World.cell?,h,e,List.getElem?_append,hi]
omit hg hd hn h5 in
theorem a5q {x:Operand} {ty:TypeId} {ds:TypeDesc} {z:Nat} {c c':CV} {n q p n' q' p' k' v' l'} (ho:o.op = .load ty x) (hu:P.underlying ty=some ds) (hi:(P.info? ty).map (·.size)=some z) (hx:ev S x=some ⟨2,⟨k',v',l'⟩,n,q,p⟩) (hn5:Nat.blt n 400000=true) (hb:S (100000+n)=some ⟨5,c,n',q',p'⟩) (hat:c.at p=some (q,c')) (hk:K1 ds=Nat.beq c'.k 2) (hz:c'.size=z)
  (hs:∀ k∈rd x++[100000+n],look s k=S k) (hm:SimG w0 U0 nt s a w D hv):∃ v xs ys zs us,(execOp a.eval o).run P w = .ok (.value v) w∧VRep (Us w0 U0 D) w c' v∧xs=ys++zs++us∧ys.length=q∧v.cells.toList=zs∧Rep (Us w0 U0 D) w c xs∧Tk hv (b6 s) ⟨5,c,n',q',p'⟩ xs:=by
 have h1:a.eval x = .pointer (some ⟨o8 (hv (100000+n)),q,none⟩):=(j6 hm (fun k hk=>hs k (List.mem_append_left _ hk)) hx).2
 obtain ⟨g,xs,t,hg,h2,h3,h4⟩:=hm.box ((hs _ (List.mem_append_right _ (by simp))).trans hb) (bL hn5)
 have hg:o8 (hv (100000+n))=g:=by rw [hg];rfl
 rw [hg] at h1
 obtain ⟨ys,zs,us,e,e1,e2⟩:=a5A hat h3
 obtain ⟨v,h6,h7,h8⟩:=q8 hu hi hk hz e2 (b:=g) (off:=q) (fun i hi=>by rw [←e1];exact H0 h2 e i hi)
 refine ⟨v,xs,ys,zs,us,?_,h7,e,e1,h8,h3,h4⟩
 generalize a.eval=ρ at h1 ⊢
 simp [execOp,ho,Instr.loadAt,Instr.sureAddr,h1,h6]
theorem aL {x:Operand} {ty:TypeId} {ds:TypeDesc} {z:Nat} {c:CV} {n q n' q' p' k' v' l'} (ho:o.op = .load ty x) (hu:P.underlying ty=some ds) (hi:(P.info? ty).map (·.size)=some z) (hx:ev S x=some ⟨2,⟨k',v',l'⟩,n,q,[]⟩) (hn5:Nat.blt n 400000=true) (hb:S (100000+n)=some ⟨5,c,n',q',p'⟩) (hq:q=0) (hk:K1 ds=Nat.beq c.k 2) (hz:c.size=z):AOp P w0 U0 nt ops o (gs++(rd x++[100000+n])) [] S [(d,⟨0,c,n',0,p'⟩)]:=
 d7 hg hd hn h5 (fun k hk=>List.mem_append_left _ hk) fun s hs a w D hv hm=>by
  subst hq
  obtain ⟨v,xs,ys,zs,us,h1,h2,e,e1,h3,h4,h6⟩:=a5q ho hu hi hx hn5 hb (by cases c;rfl) hk hz (fun k hk=>hs k (List.mem_append_right _ hk)) hm
  refine ⟨v,h1,h2,fun hl=>?_⟩
  obtain ⟨m,c',g1,g2⟩:=h6 hl
  refine ⟨m,c',g1,?_⟩
  have:ys=[]:=List.eq_nil_of_length_eq_zero e1
  have hlen:us=[]:=by
   have h7:=h4.len
   have h8:=h2.cells.len
   rw [h3] at h8
   rw [e,this] at h7
   simp at h7
   exact List.eq_nil_of_length_eq_zero (by omega)
  rw [h3]
  rw [e,this,hlen] at g2
  simpa using g2
theorem a8Q {x:Operand} {ty:TypeId} {ds:TypeDesc} {z:Nat} {c c':CV} {n q n' q' p k' v' l'} (ho:o.op = .load ty x) (hu:P.underlying ty=some ds) (hi:(P.info? ty).map (·.size)=some z) (hx:ev S x=some ⟨2,⟨k',v',l'⟩,n,q,p⟩) (hn5:Nat.blt n 400000=true) (hb:S (100000+n)=some ⟨5,c,n',q',p⟩) (hat:c.at p=some (q,c')) (hk:K1 ds=Nat.beq c'.k 2) (hz:c'.size=z) (hz1:Nat.beq c'.size 1=true):AOp P w0 U0 nt ops o (gs++(rd x++[100000+n])) [] S [(d,⟨0,c',n',0,[]⟩)]:=
 d7 hg hd hn h5 (fun k hk=>List.mem_append_left _ hk) fun s hs a w D hv hm=>by
  obtain ⟨v,xs,ys,zs,us,h1,h2,e,e1,h3,h4,h6⟩:=a5q ho hu hi hx hn5 hb hat hk hz (fun k hk=>hs k (List.mem_append_right _ hk)) hm
  refine ⟨v,h1,h2,fun hl=>?_⟩
  obtain ⟨m,c'',g1,g2⟩:=h6 hl
  simp only at g1
  rw [hat] at g1
  cases g1
  refine ⟨0,c',by cases c';rfl,?_⟩
  have h8:=h2.cells.len
  have h1':=Nat.eq_of_beq_eq_true hz1
  rw [h3] at h8 ⊢
  rw [e,←e1] at g2
  rw [List.append_assoc,List.getElem?_append_right (Nat.le_refl _),Nat.sub_self,List.getElem?_append_left (by omega)] at g2
  exact g2
theorem aLb {x:Operand} {ty:TypeId} {ds:TypeDesc} {z:Nat} {c c':CV} {n q p n' q' p' k' v' l'} (ho:o.op = .load ty x) (hu:P.underlying ty=some ds) (hi:(P.info? ty).map (·.size)=some z) (hx:ev S x=some ⟨2,⟨k',v',l'⟩,n,q,p⟩) (hn5:Nat.blt n 400000=true) (hb:S (100000+n)=some ⟨5,c,n',q',p'⟩) (hat:c.at p=some (q,c')) (hk:K1 ds=Nat.beq c'.k 2) (hz:c'.size=z):AOp P w0 U0 nt ops o (gs++(rd x++[100000+n])) [] S [(d,.val c')]:=
 d7 hg hd hn h5 (fun k hk=>List.mem_append_left _ hk) fun s hs a w D hv hm=>by
  obtain ⟨v,xs,ys,zs,us,h1,h2,_⟩:=a5q ho hu hi hx hn5 hb hat hk hz (fun k hk=>hs k (List.mem_append_right _ hk)) hm
  exact ⟨v,h1,i7 h2⟩
theorem aF {x:Operand} {ty:TypeId} {fs:Array Field} {i:Nat} {f:Field} {n q p k' v' l' z} (ho:o.op = .fieldAddr ty x i) (hu:P.underlying ty=some (.struct fs)) (hf:fs[i]?=some f) (hz:(P.info? f.type).map (·.size)=some z) (hz0:Nat.beq z 0=false) (hx:ev S x=some ⟨2,⟨k',v',l'⟩,n,q,p⟩):AOp P w0 U0 nt ops o (gs++rd x) [] S [(d,.bp n (q+f.offset) (p++[i]))]:=
 d7 hg hd hn h5 (fun k hk=>List.mem_append_left _ hk) fun s hs a w D hv hm=>by
  obtain ⟨hbn,h1⟩:BN n∧a.eval x = .pointer (some ⟨o8 (hv (100000+n)),q,none⟩):=j6 hm (fun k hk=>hs k (List.mem_append_right _ hk)) hx
  have hsz:(sizeOf f.type).run P w = .ok z w:=by
   cases hi':P.info? f.type with
   | none=>rw [hi'] at hz;simp at hz
   | some i=>rw [hi'] at hz;simp at hz;simp [sizeOf,typeInfo,hi',hz]
  have hz1:z≠0:=fun e=>by rw [e] at hz0;cases hz0
  have hadd:(⟨o8 (hv (100000+n)),q,none⟩:Addr).add f.offset=⟨o8 (hv (100000+n)),q+f.offset,none⟩:=by unfold Addr.add;split<;>simp_all
  refine ⟨.pointer (some ⟨o8 (hv (100000+n)),q+f.offset,none⟩),?_,hbn,rfl⟩
  generalize a.eval=ρ at h1 ⊢
  simp [execOp,ho,Instr.fieldAt,run_underlying hu,hf,Instr.sureAddr,h1,fieldPlace,hsz,hz1,hadd]
theorem a7Z {x:Operand} {ty:TypeId} {fs:Array Field} {i:Nat} {f:Field} {l:List CV} {c:CV} {m:Nat} {v' n q p z} (ho:o.op = .fieldAddr ty x i) (hu:P.underlying ty=some (.struct fs)) (hf:fs[i]?=some f) (hz:(P.info? f.type).map (·.size)=some z) (hz0:Nat.beq z 0=false) (hx:ev S x=some ⟨3,⟨2,v',l⟩,n,q,p⟩) (hc:Z3 l i=some (m,c)) (hm:m=f.offset):AOp P w0 U0 nt ops o (gs++rd x) [] S [(d,.ad c)]:=
 d7 hg hd hn h5 (fun k hk=>List.mem_append_left _ hk) fun s hs a w D hv hmm=>by
  obtain ⟨b,off,xs,h1,h2,h3⟩:∃ b off xs,a.eval x = .pointer (some ⟨b,off,none⟩)∧Rep (Us w0 U0 D) w ⟨2,v',l⟩ xs∧∀ i,i<xs.length→Us w0 U0 D b (off+i)∧w.cell? ⟨b,off+i,none⟩=xs[i]?:=j6 hmm (fun k hk=>hs k (List.mem_append_right _ hk)) hx
  have hsz:(sizeOf f.type).run P w = .ok z w:=by
   cases hi':P.info? f.type with
   | none=>rw [hi'] at hz;simp at hz
   | some i=>rw [hi'] at hz;simp at hz;simp [sizeOf,typeInfo,hi',hz]
  have hz1:z≠0:=fun e=>by rw [e] at hz0;cases hz0
  have hadd:(⟨b,off,none⟩:Addr).add f.offset=⟨b,off+f.offset,none⟩:=by unfold Addr.add;split<;>simp_all
  rw [Rep,if_pos rfl] at h2
  obtain ⟨_,h4⟩:=T9 (f:=fun c=>Rep (Us w0 U0 D) w c) (fun c xs h=>h.len) hc
  obtain ⟨ys,zs,us,e,e1,e2,_⟩:=h4 h2
  refine ⟨.pointer (some ⟨b,off+f.offset,none⟩),?_,b,off+f.offset,zs,rfl,e2,fun i hi=>?_⟩
  ·generalize a.eval=ρ at h1 ⊢
   simp [execOp,ho,Instr.fieldAt,run_underlying hu,hf,Instr.sureAddr,h1,fieldPlace,hsz,hz1,hadd]
  ·have:=h3 (ys.length+i) (by rw [e];simp;omega)
   rw [e,e1,hm] at this
   rw [Nat.add_assoc]
   refine ⟨this.1,this.2.trans ?_⟩
   rw [←hm,←e1,List.append_assoc,List.getElem?_append_right (by omega),List.getElem?_append_left (by omega)]
   congr 1
   omega
omit hg hd hn h5 in
theorem w8 {l:List CV} {z:Nat} (h:∀ c∈l,c.size=z):(l.map CV.size).sum=l.length*z:=by
 induction l with
 | nil=>simp
 | cons c cs ih =>
  rw [List.map_cons,List.sum_cons,ih (fun x hx=>h x (List.mem_cons_of_mem _ hx)),h c (by simp),List.length_cons,Nat.add_mul]
  omega
omit hg hd hn h5 in
theorem b4H {U:Nat→Nat→Prop} {z:Nat}:∀ {l:List CV} {xs:List Value} {i:Nat} {c:CV},(∀ c∈l,c.size=z)→Sq (l.map fun c=>Rep U w c) xs→l[i]?=some c→∃ ys zs us,xs=ys++zs++us∧ys.length=i*z∧Rep U w c zs:=by
 intro l xs i c hz h hi
 have hil:i<l.length:=by
  rcases Nat.lt_or_ge i l.length with h | h
  ·exact h
  ·rw [List.getElem?_eq_none h] at hi;cases hi
 have hl:l=l.take i++c::l.drop (i+1):=by
  rw [List.getElem?_eq_getElem hil] at hi
  rw [←Option.some.inj hi,List.getElem_cons_drop,List.take_append_drop]
 rw [hl,List.map_append] at h
 obtain ⟨ys,zs,e,h1,h2⟩:=G7 h
 obtain ⟨z1,z2,e2,h3,h4⟩:=h2
 refine ⟨ys,z1,z2,by rw [e,e2];simp,?_,h3⟩
 rw [F7 (n:=CV.size) (fun c _ xs h=>h.len) h1,w8 (fun c hc=>hz c (List.mem_of_mem_take hc)),List.length_take,Nat.min_eq_left (by omega)]
theorem b5d {x y:Operand} {ty e:TypeId} {l:List CV} {i:Int} {j:Nat} {c:CV} {z:Nat} {k:IntKind} {n q p n' q' p'} (ho:o.op = .indexAddr ty x y) (hu:P.underlying ty=some (.slice e)) (hi:(P.info? e).map (·.size)=some z) (hx:ev S x=some ⟨0,.lst l,n,q,p⟩) (hy:ev S y=some ⟨0,.sc (.int k i),n',q',p'⟩) (hij:i=(j:Int)) (hc:l[j]?=some c) (hz0:Nat.blt 0 z=true) (hz:∀ c∈l,c.size=z):AOp P w0 U0 nt ops o (gs++(rd x++rd y)) [] S [(d,.ad c)]:=
 d7 hg hd hn h5 (fun k hk=>List.mem_append_left _ hk) fun s hs a w D hv hm=>by
  obtain ⟨ao,m,cap,h1,h2,h3,h4,h6,ys,h7,h8⟩:=d8.1 (C2 hm (fun k hk=>hs k (List.mem_append_right _ (List.mem_append_left _ hk))) hx)
  have e2:=s6 hm (fun k hk=>hs k (List.mem_append_right _ (List.mem_append_right _ hk))) hy
  have hjl:j<l.length:=by
   rcases Nat.lt_or_ge j l.length with h | h
   ·exact h
   ·rw [List.getElem?_eq_none h] at hc;cases hc
  obtain ⟨y1,z1,u1,e3,e4,e5⟩:=b4H hz h8 hc
  have hsz:(sizeOf e).run P w = .ok z w:=by
   cases hi':P.info? e with
   | none=>rw [hi'] at hi;simp at hi
   | some i=>rw [hi'] at hi;simp at hi;simp [sizeOf,typeInfo,hi',hi]
  subst hij
  have hz0':=hz0
  rcases h7 with rfl | ⟨b,off,rfl,hcell⟩
  ·have hz0:z1=[]:=by
    have:=congrArg List.length e3
    simp at this
    exact List.eq_nil_of_length_eq_zero (by omega)
   cases ao with
   | none=>have:=h6 rfl;omega
   | some ad =>
    have:=e5.len
    rw [hz0,hz c (List.mem_of_getElem? hc)] at this
    have hpos:=bL hz0'
    simp at this
    omega
  ·have hadd:(⟨b,off,none⟩:Addr).add (j*z)=⟨b,off+j*z,none⟩:=by unfold Addr.add;split<;>simp_all
   refine ⟨.pointer (some ⟨b,off+j*z,none⟩),?_,b,off+j*z,z1,rfl,e5,fun i hi=>?_⟩
   ·have hlt:j<m:=by omega
    generalize a.eval=ρ at h1 e2 ⊢
    simp [execOp,ho,Instr.indexAt,asIntOf,h1,e2,run_underlying hu,hlt,hsz,hadd]
   ·have:=hcell (y1.length+i) (by rw [e3];simp;omega)
    rw [e4] at this
    rw [Nat.add_assoc]
    refine ⟨this.1,this.2.trans ?_⟩
    rw [e3,←e4,List.append_assoc,List.getElem?_append_right (by omega),List.getElem?_append_left (by omega)]
    congr 1
    omega
end
theorem ze {P:Program} {w0:World} {U0:UX} {nt:Nat} {ops:Array Oper} {o:Oper} {S:Nat→Option AV} {gs:List Nat} {d:Nat} {x:Operand} {ty:TypeId} {fs:Array Field} {i:Nat} {f:Field} {n} {q} {p} {k'} {v'} {l'} {z} (r:Gd w0 U0 nt ops o gs S:=by exact gN rfl) (t:o.dst=some d:=by exact rfl) (u:Nat.blt d nt=true:=by exact rfl) (v:Nat.blt d 100000=true:=by exact rfl) (y:o.op = .fieldAddr ty x i:=by exact rfl) (A:P.underlying ty=some (.struct fs):=by exact rfl) (B:fs[i]?=some f:=by exact rfl) (C:(P.info? f.type).map (·.size)=some z:=by exact rfl) (E:Nat.beq z 0=false:=by exact rfl) (F:ev S x=some ⟨2,⟨k',v',l'⟩,n,q,p⟩:=by exact rfl):AOp P w0 U0 nt ops o (gs++rd x) [] S [(d,.bp n (q+f.offset) (p++[i]))]:=aF r t u v y A B C E F
theorem zg {P:Program} {w0:World} {U0:UX} {nt:Nat} {ops:Array Oper} {o:Oper} {S:Nat→Option AV} {gs:List Nat} {d:Nat} {x:Operand} {ty:TypeId} {ds:TypeDesc} {z:Nat} {c:CV} {c':CV} {n} {q} {p} {n'} {q'} {p'} {k'} {v'} {l'} (r:Gd w0 U0 nt ops o gs S:=by exact gN rfl) (t:o.dst=some d:=by exact rfl) (u:Nat.blt d nt=true:=by exact rfl) (y:Nat.blt d 100000=true:=by exact rfl) (A:o.op = .load ty x:=by exact rfl) (B:P.underlying ty=some ds:=by exact rfl) (C:(P.info? ty).map (·.size)=some z:=by exact rfl) (E:ev S x=some ⟨2,⟨k',v',l'⟩,n,q,p⟩:=by exact rfl) (F:Nat.blt n 400000=true:=by exact rfl) (G:S (100000+n)=some ⟨5,c,n',q',p'⟩:=by exact rfl) (H:c.at p=some (q,c'):=by exact rfl) (hk:K1 ds=Nat.beq c'.k 2:=by exact rfl) (hz:c'.size=z:=by exact rfl):AOp P w0 U0 nt ops o (gs++(rd x++[100000+n])) [] S [(d,.val c')]:=aLb r t u y A B C E F G H hk hz
theorem zz {P:Program} {w0:World} {U0:UX} {nt:Nat} {ops:Array Oper} {o:Oper} {S:Nat→Option AV} {gs:List Nat} {d:Nat} {x:Operand} {y:Operand} {ty:TypeId} {e:TypeId} {l:List CV} {i:Int} {j:Nat} {c:CV} {z:Nat} {k:IntKind} {n} {q} {p} {n'} {q'} {p'} (r:Gd w0 U0 nt ops o gs S:=by exact gN rfl) (t:o.dst=some d:=by exact rfl) (u:Nat.blt d nt=true:=by exact rfl) (v:Nat.blt d 100000=true:=by exact rfl) (A:o.op = .indexAddr ty x y:=by exact rfl) (B:P.underlying ty=some (.slice e):=by exact rfl) (C:(P.info? e).map (·.size)=some z:=by exact rfl) (E:ev S x=some ⟨0,.lst l,n,q,p⟩:=by exact rfl) (F:ev S y=some ⟨0,.sc (.int k i),n',q',p'⟩:=by exact rfl) (G:i=(j:Int):=by exact rfl) (H:l[j]?=some c) (hz0:Nat.blt 0 z=true:=by exact rfl) (hz:∀ c∈l,c.size=z):AOp P w0 U0 nt ops o (gs++(rd x++rd y)) [] S [(d,.ad c)]:=b5d r t u v A B C E F G H hz0 hz
theorem zA {P:Program} {w0:World} {U0:UX} {nt:Nat} {ops:Array Oper} {o:Oper} {S:Nat→Option AV} {gs:List Nat} {d:Nat} {x:Operand} {ty:TypeId} {ds:TypeDesc} {z:Nat} {c:CV} {n} {q} {p} (r:Gd w0 U0 nt ops o gs S:=by exact gN rfl) (t:o.dst=some d:=by exact rfl) (u:Nat.blt d nt=true:=by exact rfl) (y:Nat.blt d 100000=true:=by exact rfl) (A:o.op = .load ty x:=by exact rfl) (B:P.underlying ty=some ds:=by exact rfl) (C:(P.info? ty).map (·.size)=some z:=by exact rfl) (E:ev S x=some ⟨3,c,n,q,p⟩:=by exact rfl) (F:K1 ds=Nat.beq c.k 2:=by exact rfl) (G:c.size=z:=by exact rfl):AOp P w0 U0 nt ops o (gs++rd x) [] S [(d,.val c)]:=b1n r t u y A B C E F G
theorem zD {P:Program} {w0:World} {U0:UX} {nt:Nat} {ops:Array Oper} {o:Oper} {S:Nat→Option AV} {gs:List Nat} {d:Nat} {x:Operand} {i:Nat} {l:List CV} {c:CV} {k} {v} {n} {q} {p} (r:Gd w0 U0 nt ops o gs S:=by exact gN rfl) (t:o.dst=some d:=by exact rfl) (y:Nat.blt d nt=true:=by exact rfl) (z:Nat.blt d 100000=true:=by exact rfl) (A:o.op = .extract x i:=by exact rfl) (B:ev S x=some ⟨4,⟨k,v,l⟩,n,q,p⟩:=by exact rfl) (C:b5z l i=some c:=by exact rfl):AOp P w0 U0 nt ops o (gs++rd x) [] S [(d,.val c)]:=aX r t y z A B C
theorem zE {P:Program} {w0:World} {U0:UX} {nt:Nat} {ops:Array Oper} {o:Oper} {S:Nat→Option AV} {gs:List Nat} {d:Nat} {x:Operand} {ty:TypeId} {ds:TypeDesc} {z:Nat} {c:CV} {n} {q} {n'} {q'} {p'} {k'} {v'} {l'} (p:Gd w0 U0 nt ops o gs S:=by exact gN rfl) (r:o.dst=some d:=by exact rfl) (t:Nat.blt d nt=true:=by exact rfl) (u:Nat.blt d 100000=true:=by exact rfl) (y:o.op = .load ty x:=by exact rfl) (A:P.underlying ty=some ds:=by exact rfl) (B:(P.info? ty).map (·.size)=some z:=by exact rfl) (C:ev S x=some ⟨2,⟨k',v',l'⟩,n,q,[]⟩:=by exact rfl) (E:Nat.blt n 400000=true:=by exact rfl) (F:S (100000+n)=some ⟨5,c,n',q',p'⟩:=by exact rfl) (G:q=0:=by exact rfl) (H:K1 ds=Nat.beq c.k 2:=by exact rfl) (hz:c.size=z:=by exact rfl):AOp P w0 U0 nt ops o (gs++(rd x++[100000+n])) [] S [(d,⟨0,c,n',0,p'⟩)]:=aL p r t u y A B C E F G H hz
theorem zP {P:Program} {w0:World} {U0:UX} {nt:Nat} {ops:Array Oper} {o:Oper} {S:Nat→Option AV} {gs:List Nat} {d:Nat} {x:Operand} {ty:TypeId} {ds:TypeDesc} {z:Nat} {c:CV} {c':CV} {n} {q} {n'} {q'} {p} {k'} {v'} {l'} (r:Gd w0 U0 nt ops o gs S:=by exact gN rfl) (t:o.dst=some d:=by exact rfl) (u:Nat.blt d nt=true:=by exact rfl) (y:Nat.blt d 100000=true:=by exact rfl) (A:o.op = .load ty x:=by exact rfl) (B:P.underlying ty=some ds:=by exact rfl) (C:(P.info? ty).map (·.size)=some z:=by exact rfl) (E:ev S x=some ⟨2,⟨k',v',l'⟩,n,q,p⟩:=by exact rfl) (F:Nat.blt n 400000=true:=by exact rfl) (G:S (100000+n)=some ⟨5,c,n',q',p⟩:=by exact rfl) (H:c.at p=some (q,c'):=by exact rfl) (hk:K1 ds=Nat.beq c'.k 2:=by exact rfl) (hz:c'.size=z:=by exact rfl) (hz1:Nat.beq c'.size 1=true:=by exact rfl):AOp P w0 U0 nt ops o (gs++(rd x++[100000+n])) [] S [(d,⟨0,c',n',0,[]⟩)]:=a8Q r t u y A B C E F G H hk hz hz1
theorem zS {P:Program} {w0:World} {U0:UX} {nt:Nat} {ops:Array Oper} {o:Oper} {S:Nat→Option AV} {gs:List Nat} {d:Nat} {x:Operand} {ty:TypeId} {fs:Array Field} {i:Nat} {f:Field} {l:List CV} {c:CV} {m:Nat} {v'} {n} {q} {p} {z} (r:Gd w0 U0 nt ops o gs S:=by exact gN rfl) (t:o.dst=some d:=by exact rfl) (u:Nat.blt d nt=true:=by exact rfl) (v:Nat.blt d 100000=true:=by exact rfl) (y:o.op = .fieldAddr ty x i:=by exact rfl) (A:P.underlying ty=some (.struct fs):=by exact rfl) (B:fs[i]?=some f:=by exact rfl) (C:(P.info? f.type).map (·.size)=some z:=by exact rfl) (E:Nat.beq z 0=false:=by exact rfl) (F:ev S x=some ⟨3,⟨2,v',l⟩,n,q,p⟩:=by exact rfl) (G:Z3 l i=some (m,c):=by exact rfl) (H:m=f.offset:=by exact rfl):AOp P w0 U0 nt ops o (gs++rd x) [] S [(d,.ad c)]:=a7Z r t u v y A B C E F G H
end
noncomputable def CV.upO:CV→List Nat→CV→Option CV
 | c,[],x=>match Nat.beq c.size x.size with | true=>some x | false=>none
 | ⟨k,v,l⟩,i::p,x=>match Nat.beq k 2,Z3 l i with
  | true,some (_,c)=>match c.upO p x with
   | some c'=>match a7f l i c' with | some l'=>some ⟨k,v,l'⟩ | none=>none
   | none=>none
  | _,_=>none
theorem a0h (c:CV):c.at []=some (0,c):=by cases c;rfl
theorem a7D:∀ {l l':List CV} {i n:Nat} {c c':CV},Z3 l i=some (n,c)→a7f l i c'=some l'→Z3 l' i=some (n,c')
 | [],_,_,_,_,_,h,_=>by simp [Z3] at h
 | c::cs,l',0,n,c0,c',h,h2=>by
  unfold a7f at h2
  split at h2
  ·cases h2;simp [Z3] at h ⊢;exact h.1
  ·cases h2
 | c::cs,l',i+1,n,c0,c',h,h2=>by
  unfold a7f at h2
  split at h2
  ·rename_i r hr
   cases h2
   unfold Z3 at h
   split at h
   ·rename_i m x hx
    cases h
    rw [Z3,a7D hx hr]
   ·cases h
  ·cases h2
theorem a0m {U:Nat→Nat→Prop} {w:World}:∀ {p:List Nat} {c c2 x c':CV} {n:Nat} {xs:List Value},c.at p=some (n,c')→c.upO p x=some c2→c2.at p=some (n,x)∧(Rep U w c xs→∃ ys zs us,xs=ys++zs++us∧ys.length=n∧zs.length=x.size∧∀ vs,Rep U w x vs→Rep U w c2 (ys++vs++us))
 | [],c,c2,x,c',n,xs,h,h2=>by
  cases c with
  | mk k v l =>
   unfold CV.upO at h2
   split at h2
   ·rename_i hb
    cases h2
    simp [CV.at] at h
    obtain ⟨rfl,rfl⟩:=h
    refine ⟨a0h _,fun hr=>⟨[],xs,[],by simp,rfl,by rw [hr.len];exact Nat.eq_of_beq_eq_true hb,fun vs hv=>by simpa using hv⟩⟩
   ·cases h2
 | i::p,⟨k,v,l⟩,c2,x,c',n,xs,h,h2=>by
  unfold CV.at at h
  split at h
  ·rename_i n1 c1 hk h1
   split at h
   ·rename_i m y hy
    cases h
    unfold CV.upO at h2
    rw [hk,h1] at h2
    simp only at h2
    split at h2
    ·rename_i c1' hc1
     split at h2
     ·rename_i l' hl'
      cases h2
      obtain ⟨ih1,ih2⟩:=a0m (xs:=[]) (U:=U) (w:=w) hy hc1
      refine ⟨by rw [CV.at,hk,a7D h1 hl'];simp only [ih1],fun hr=>?_⟩
      have hk2:k=2:=Nat.eq_of_beq_eq_true hk
      subst hk2
      rw [Rep,if_pos rfl] at hr
      obtain ⟨_,h3⟩:=T9 (f:=fun c=>Rep U w c) (fun c xs h=>h.len) h1
      obtain ⟨ys,zs,us,e,e1,e2,e3⟩:=h3 hr
      obtain ⟨_,ih3⟩:=a0m (xs:=zs) (U:=U) (w:=w) hy hc1
      obtain ⟨y2,z2,u2,e4,e5,e6,e7⟩:=ih3 e2
      refine ⟨ys++y2,z2,u2++us,by rw [e,e4];simp,by rw [List.length_append,e1,e5],e6,fun vs hv=>?_⟩
      have:=e3 c1' (y2++vs++u2) (e7 vs hv)
      rw [(T8 hl').1,Rep,if_pos rfl]
      simpa using this
     ·cases h2
    ·cases h2
   ·cases h
  ·cases h
def b0p:List CV→List (Nat×Operand)→Nat→Nat×List Nat
 | [],_,_=>(0,[])
 | c::cs,ps,i=>match V6 c,ps.any (fun x=>Nat.beq x.1 i) with
  | true,false=>(1,[i])
  | _,_=>b0p cs ps (i+1)
theorem a0U:∀ {l:List CV} {ps:List (Nat×Operand)} {i n:Nat} {p:List Nat},b0p l ps i=(n,p)→n=0∨∃ j c,n=1∧p=[i+j]∧l[j]?=some c∧V6 c=true∧∀ x∈ps,x.1≠i+j
 | [],_,_,_,_,h=>by simp [b0p] at h;exact .inl h.1.symm
 | c::cs,ps,i,n,p,h=>by
  unfold b0p at h
  split at h
  ·rename_i h1 h2
   cases h
   refine .inr ⟨0,c,rfl,rfl,rfl,h1,fun x hx e=>?_⟩
   rw [List.any_eq_false] at h2
   have:=h2 x hx
   rw [e] at this
   simp at this
  ·rcases a0U h with h | ⟨j,c',h1,h2,h3,h4,h5⟩
   ·exact .inl h
   ·exact .inr ⟨j+1,c',h1,by rw [h2];congr 1;omega,by simpa using h3,h4,fun x hx=>by have:=h5 x hx;omega⟩
theorem Z7:∀ {ps:List (Nat×Value)} {segs:List (List Value)} {i:Nat},(∀ x∈ps,x.1≠i)→(F8 segs ps)[i]?=segs[i]?
 | [],_,_,_=>rfl
 | (j,v)::ps,segs,i,h=>by
  rw [F8,Z7 (fun x hx=>h x (List.mem_cons_of_mem _ hx)),List.getElem?_set,if_neg (h (j,v) (by simp))]
theorem a2M:∀ {ps:List (Nat×Value)} {segs:List (List Value)},(∀ x∈ps,(segs.map List.length)[x.1]?=some x.2.cells.size)→(F8 segs ps).map List.length=segs.map List.length
 | [],_,_=>rfl
 | (j,v)::ps,segs,h=>by
  have h1:=h (j,v) (by simp)
  simp only at h1
  have h2:(segs.set j v.cells.toList).map List.length=segs.map List.length:=by
   rw [List.map_set]
   apply List.ext_getElem?
   intro k
   rw [List.getElem?_set]
   split
   ·rename_i e
    subst e
    split
    ·rw [h1];simp
    ·rename_i hl;rw [List.getElem?_eq_none (by omega)]
   ·rfl
  rw [F8,a2M (by rw [h2];exact fun x hx=>h x (List.mem_cons_of_mem _ hx)),h2]
theorem a5L:∀ {segs:List (List Value)} {i:Nat} {v:Value},segs[i]?=some [v]→segs.flatten[((segs.map List.length).take i).sum]?=some v
 | [],_,_,h=>by simp at h
 | s::segs,0,v,h=>by simp at h;subst h;simp
 | s::segs,i+1,v,h=>by
  have:=a5L (segs:=segs) (i:=i) (v:=v) (by simpa using h)
  simp only [List.flatten_cons,List.map_cons,List.take_succ_cons,List.sum_cons]
  rw [List.getElem?_append_right (by omega)]
  rw [show s.length+((segs.map List.length).take i).sum-s.length=((segs.map List.length).take i).sum by omega]
  exact this
theorem a5I:∀ {l:List CV} {i:Nat} {c:CV},l[i]?=some c→Z3 l i=some (((l.map CV.size).take i).sum,c)
 | [],_,_,h=>by simp at h
 | x::l,0,c,h=>by simp at h;subst h;simp [Z3]
 | x::l,i+1,c,h=>by
  rw [Z3,a5I (l:=l) (i:=i) (c:=c) (by simpa using h)]
  simp
def szO (P:Program):List Field→Nat→Option (List Nat)
 | [],_=>some []
 | f::fs,o=>match Nat.beq f.offset o,P.info? f.type with
  | true,some i=>match szO P fs (o+i.size) with | some r=>some (i.size::r) | none=>none
  | _,_=>none
theorem a3H {P:Program}:∀ {fs:List Field} {o:Nat} {sz:List Nat},szO P fs o=some sz→∃ pl,fs.mapM (fun f=>(P.info? f.type).map fun i=>(f.offset,i.size))=some pl∧∀ i z,sz[i]?=some z→pl[i]?=some (o+(sz.take i).sum,z)
 | [],_,sz,h=>by simp [szO] at h;subst h;exact ⟨[],rfl,fun i z hi=>by simp at hi⟩
 | f::fs,o,sz,h=>by
  unfold szO at h
  split at h
  ·rename_i i h1 h2
   split at h
   ·rename_i r hr
    cases h
    obtain ⟨pl,h3,h4⟩:=a3H hr
    refine ⟨(f.offset,i.size)::pl,by simp [List.mapM_cons,h2,h3],fun j z hj=>?_⟩
    cases j with
    | zero=>simp at hj ⊢;exact ⟨Nat.eq_of_beq_eq_true h1,hj⟩
    | succ j =>
     have:=h4 j z (by simpa using hj)
     simp only [List.getElem?_cons_succ,List.take_succ_cons,List.sum_cons]
     rw [this]
     simp only [Option.some.injEq,Prod.mk.injEq,and_true]
     omega
   ·cases h
  ·cases h
section
variable {P:Program} {w0:World} {U0:UX} {nt:Nat} {ops:Array Oper} {o:Oper} {S:Nat→Option AV} {gs:List Nat} {d:Nat} {s:AS} {a:Act} {w:World} {D:Nat→Nat→Prop} {hv:Nat→Value}
theorem a5F:∀ {ps:List (Nat×Operand)} {x:Nat×Operand},x∈ps→∀ k∈rd x.2,k∈rds ps
 | y::ps,x,h,k,hk=>by
  rcases List.mem_cons.1 h with rfl | h
  ·exact List.mem_append_left _ hk
  ·exact List.mem_append_right _ (a5F h k hk)
theorem a2l {S:Nat→Option AV}:∀ {ps:List (Nat×Operand)} {zs r:List CV},X7 S ps zs=some r→r.map CV.size=zs.map CV.size
 | [],zs,r,h=>by simp [X7] at h;rw [h]
 | (i,x)::ps,zs,r,h=>by
  unfold X7 at h
  split at h
  ·split at h
   ·rename_i zs' hset
    rw [a2l h]
    obtain ⟨e1,c0,e2,e3⟩:=T8 hset
    rw [e1,List.map_set]
    apply List.ext_getElem?
    intro j
    rw [List.getElem?_set]
    split
    ·rename_i e
     subst e
     split
     ·rw [List.getElem?_map,e2,Option.map_some,e3]
     ·rename_i hl
      rw [List.getElem?_eq_none (by omega)]
    ·rfl
   ·cases h
  ·cases h
theorem b0y (hg:Gd w0 U0 nt ops o gs S) (hd:o.dst=some d) (hn:Nat.blt d nt=true) (h5:Nat.blt d 100000=true) {t:TypeId} {parts:Array (Nat×Operand)} {fs:Array Field} {it:TypeInfo} {cs:Array Value} {sz:List Nat} {zs r:List CV} {n:Nat} {p:List Nat} (ho:o.op = .build t parts) (hu:P.underlying t=some (.struct fs)) (hi:P.info? t=some it) (hz:it.zero=some (.agg cs)) (hsz:szO P fs.toList 0=some sz) (h0:zsO sz cs.toList=some zs) (hr:X7 S parts.toList zs=some r) (hp:b0p zs parts.toList 0=(n,p)) :
  AOp P w0 U0 nt ops o (gs++rds parts.toList) [] S [(d,⟨0,.row r,n,0,p⟩)]:=
 d7 hg hd hn h5 (fun k hk=>List.mem_append_left _ hk) fun s hs a w D hv hm=>by
  obtain ⟨segs,e1,e2,e3,e4,e5⟩:=J7 (U:=Us w0 U0 D) (w:=w) h0
  have hlen:segs.map List.length=zs.map CV.size:=by rw [e2,e3]
  obtain ⟨g1,g2⟩:=Y9 (U:=Us w0 U0 D) (w:=w) (ρ:=a.eval) (segs:=segs) hr (fun x hx c n q p hev=>C2 hm (fun k hk=>hs k (List.mem_append_right _ (a5F hx k hk))) hev) e4 hlen (fun i c hi=>by obtain ⟨seg,f1,f2,_⟩:=e5 i c hi;exact ⟨seg,f1,f2⟩)
  obtain ⟨pl,h1,h2⟩:=a3H hsz
  have hfill:=a0W (place:=fun i=>pl.toArray[i]?) sz (fun i z hz=>by rw [List.getElem?_toArray,h2 i z hz,Nat.zero_add]) (parts.toList.map fun x=>(x.1,a.eval x.2)) segs cs e1.symm e2 (fun x hx=>by rw [←e3];exact g1 x hx)
  refine ⟨.agg (F8 segs (parts.toList.map fun x=>(x.1,a.eval x.2))).flatten.toArray,?_,A5.2 ⟨_,rfl,g2⟩,fun hl=>?_⟩
  ·have hb:P.built t (parts.map fun x=>(x.1,a.eval x.2)).toList=some (F8 segs (parts.toList.map fun x=>(x.1,a.eval x.2))).flatten.toArray:=by
    unfold Program.built
    rw [hi,hu]
    simp only [hz,h1]
    rw [Array.toList_map]
    exact hfill
   have:=run_build w t _ _ hb
   generalize a.eval=ρ at this ⊢
   simp [execOp,ho,this]
  ·rcases a0U hp with rfl | ⟨j,c,rfl,rfl,f1,f2,f3⟩
   ·exact absurd hl y0
   ·obtain ⟨seg,f4,_,f5⟩:=e5 j c f1
    rw [f5 f2] at f4
    have hj:(F8 segs (parts.toList.map fun x=>(x.1,a.eval x.2)))[j]?=some [.slice none 0 0]:=by
     rw [Z7,f4]
     intro x hx
     rw [List.mem_map] at hx
     obtain ⟨y,hy,rfl⟩:=hx
     have:=f3 y hy
     simp only at this ⊢
     omega
    have hat:=a5L hj
    rw [a2M (fun x hx=>by rw [hlen];exact g1 x hx),hlen] at hat
    have hrs:=a2l hr
    obtain ⟨rj,hrj⟩:∃ c',r[j]?=some c':=by
     have:j<r.length:=by
      rw [←List.length_map (f:=CV.size),hrs,List.length_map]
      rcases Nat.lt_or_ge j zs.length with h | h
      ·exact h
      ·rw [List.getElem?_eq_none h] at f1;cases f1
     exact ⟨r[j],List.getElem?_eq_getElem this⟩
    refine ⟨((r.map CV.size).take j).sum,rj,?_,?_⟩
    ·simp only [Nat.zero_add]
     rw [CV.at,a5I hrj]
     simp only [a0h]
     rfl
    ·rw [hrs]
     simpa [Value.cells,J5] using hat
theorem zx {P:Program} {w0:World} {U0:UX} {nt:Nat} {ops:Array Oper} {o:Oper} {S:Nat→Option AV} {gs:List Nat} {d:Nat} {t:TypeId} {parts:Array (Nat×Operand)} {fs:Array Field} {it:TypeInfo} {cs:Array Value} {sz:List Nat} {zs:List CV} {r:List CV} {n:Nat} {p:List Nat} (u:Gd w0 U0 nt ops o gs S:=by exact gN rfl) (v:o.dst=some d:=by exact rfl) (A:Nat.blt d nt=true:=by exact rfl) (B:Nat.blt d 100000=true:=by exact rfl) (C:o.op = .build t parts:=by exact rfl) (E:P.underlying t=some (.struct fs):=by exact rfl) (F:P.info? t=some it:=by exact rfl) (G:it.zero=some (.agg cs):=by exact rfl) (H:szO P fs.toList 0=some sz:=by exact rfl) (h0:zsO sz cs.toList=some zs:=by exact rfl) (hr:X7 S parts.toList zs=some r:=by exact rfl) (hp:b0p zs parts.toList 0=(n,p):=by exact rfl):AOp P w0 U0 nt ops o (gs++rds parts.toList) [] S [(d,⟨0,.row r,n,0,p⟩)]:=b0y u v A B C E F G H h0 hr hp
theorem D9 (w:World) (o:Obj):(w.alloc o).heap[w.heap.size]?=some o:=by
 show (w.heap.push o)[w.heap.size]?=some o
 simp
theorem b3e {x y:AV} {k m n:Nat} {e:Nat×Nat} (hk:k<200000) (hm:m<200000):y6 ((k,x)::(m,y)::s) n e↔y6 s n e:=by
 unfold y6
 constructor
 ·rintro ⟨h1,h2⟩
  rw [lN (by omega),lN (by omega)] at h1
  exact ⟨h1,h2⟩
 ·rintro ⟨h1,h2⟩
  exact ⟨by rw [lN (by omega),lN (by omega)];exact h1,h2⟩
theorem SimG.newbox (h:SimG w0 U0 nt s a w D hv) (hr:a0n s d) (hd:d<nt) (h5:d<100000) {av:AV} (hav:av.t=5∨av = .obj) {xs:List Value} (ty:TypeId) (hrep:av.t=5→Rep (Us w0 U0 D) w av.c xs) (htk:av.t=5→Tk hv (b6 s) av xs) :
  SimG w0 U0 nt ((d,.bp d 0 [])::(100000+d,av)::s) (a.put (some d) (.pointer (some ⟨w.heap.size,0,none⟩))) (w.alloc (.cells xs.toArray ty)) D (fun k=>if k=100000+d then .pointer (some ⟨w.heap.size,0,none⟩) else hv k):=by
 have hb':Below w.heap.size w (w.alloc (.cells xs.toArray ty)):=(Below.refl _ _).alloc (Nat.le_refl _) _
 have hG:=h.grow' hb'
 obtain ⟨s',hs'⟩:∃ s',s'=(d,AV.bp d 0 [])::(100000+d,av)::s:=⟨_,rfl⟩
 obtain ⟨hv',hhv⟩:∃ hv':Nat→Value,hv'=fun k=>if k=100000+d then .pointer (some ⟨w.heap.size,0,none⟩) else hv k:=⟨_,rfl⟩
 rw [←hs',←hhv]
 have hl:∀ n e,y6 s' n e↔y6 s n e:=fun n e=>by rw [hs'];exact b3e (by omega) (by omega)
 have hl2:b6 s'=b6 s:=by funext n;simp only [b6,hl]
 have hlk:∀ k,k≠d→k≠100000+d→look s' k=look s k:=fun k h1 h2=>by rw [hs',lN (Ne.symm h1),lN (Ne.symm h2)]
 have hlb:look s' (100000+d)=some av:=by rw [hs',lN (by omega),lS]
 have hvn:∀ k,k≠100000+d→hv' k=hv k:=fun k hk=>by rw [hhv];simp only [if_neg hk]
 have hvd:hv' (100000+d) = .pointer (some ⟨w.heap.size,0,none⟩):=by rw [hhv];simp
 have K3:∀ b o v,Us w0 U0 D b o→(w.alloc (.cells xs.toArray ty)).cell? ⟨b,o,none⟩=some v→Us w0 U0 D b o∧(w.alloc (.cells xs.toArray ty)).cell? ⟨b,o,none⟩=some v:=fun _ _ _ h1 h2=>⟨h1,h2⟩
 have hmv:∀ {k av' v},look s k=some av'→AVRep (Us w0 U0 D) (w.alloc (.cells xs.toArray ty)) hv (b6 s) av' v→AVRep (Us w0 U0 D) (w.alloc (.cells xs.toArray ty)) hv' (b6 s) av' v:=fun {k av' v} h1 h2 =>
  h2.move K3 (fun _ h=>h) fun h3=>hvn _ (b1g h5 (fun n=>E8) (hr k av' h1).1 h3)
 refine ⟨hG.below,h.dfr,by simp [Act.put,h.size],fun d' av' h1 h2=>?_,fun n o av' h1 h2 h3 h10=>?_,fun n o o' av1 av2 h1 h2 h3 h4=>?_,fun k av' h1 h2=>?_,fun k av' g h1 h2 h3 h4=>?_,fun k k' av1 av2 g h1 h2 h3 h4 h6 h7 hne=>?_,fun n g h1=>?_,hG.dlt⟩
 ·rw [hl2]
  by_cases e:d=d'
  ·subst e
   rw [hs',lS] at h1
   cases h1
   refine ⟨.pointer (some ⟨w.heap.size,0,none⟩),by simp [Act.put,h.size,hd],?_⟩
   unfold AVRep
   simp only [if_true]
   exact ⟨.inl h5,by rw [hvd];rfl⟩
  ·rw [hlk d' (Ne.symm e) (by omega)] at h1
   obtain ⟨v',h3,h4⟩:=hG.slot d' av' h1 h2
   exact ⟨v',by simp [Act.put,e,h3],hmv h1 h4⟩
 ·rw [hlk _ (by unfold c8;omega) (by unfold c8;omega)] at h1
  have hn:=(hr _ _ h1).2.1
  rw [W6 h2] at hn
  rw [hlk _ (by omega) (by omega)] at h3
  rw [hl2]
  obtain ⟨v,h4,h6,h7⟩:=hG.fld n o av' h1 h2 h3 h10
  refine ⟨v,hmv h1 h4,h6,?_⟩
  rw [hvn _ (by omega)]
  exact h7
 ·rw [hlk _ (by unfold c8;omega) (by unfold c8;omega)] at h1 h2
  exact h.fdis n o o' av1 av2 h1 h2 h3 h4
 ·rw [hl2]
  by_cases e:k=100000+d
  ·subst e
   rw [hlb] at h1
   cases h1
   rw [hvd]
   unfold OC
   rcases hav with hav | rfl
   ·rw [if_pos hav]
    refine ⟨w.heap.size,xs,ty,rfl,D9 _ _,(hrep hav).keep (a0S h.dlt hb' fun _ _ h=>h),fun hl=>?_⟩
    obtain ⟨m,c,g1,g2⟩:=htk hav hl
    refine ⟨m,c,g1,?_⟩
    rw [g2]
    unfold J5
    rcases E8 hl with h6 | h6
    ·rw [if_pos h6,if_pos h6]
    ·unfold RN at h6
     rw [hvn _ (by omega)]
   ·simp only [if_true]
    exact ⟨w.heap.size,xs.toArray,ty,rfl,D9 _ _⟩
  ·have h2':=h2
   unfold n7 at h2'
   rw [hlk k (by omega) e] at h1
   rw [hvn k e]
   refine (hG.obj k av' h1 h2).move K3 (fun _ hl=>⟨hl,?_⟩) (fun _ _=>rfl)
   unfold J5
   rcases E8 hl with h6 | h6
   ·rw [if_pos h6,if_pos h6]
   ·unfold RN at h6
    rw [hvn _ (by omega)]
 ·by_cases e:k=100000+d
  ·subst e
   rw [hvd] at h4
   have h4:some w.heap.size=some g:=h4
   cases h4
   refine ⟨.inl h.below.size,by simp,fun o _ hd=>?_⟩
   have:=h.dlt _ _ hd
   omega
  ·have h2':=h2
   unfold n7 at h2'
   rw [hlk k (by omega) e] at h1
   rw [hvn k e] at h4 ⊢
   exact hG.blk k av' g h1 h2 h3 h4
 ·have h3':=h3
  have h4':=h4
  unfold n7 at h3' h4'
  by_cases e1:k=100000+d
  ·have e2:k'≠100000+d:=fun e=>hne (e1.trans e.symm)
   rw [hlk k' (by omega) e2] at h2
   rw [e1,hvd,hvn k' e2]
   intro h8 h9
   have:=(h.blk k' av2 g h2 h4 h7 h9).2.1
   have h8:some w.heap.size=some g:=h8
   cases h8
   omega
  ·rw [hlk k (by omega) e1] at h1
   by_cases e2:k'=100000+d
   ·rw [e2,hvd,hvn k e1]
    intro h8 h9
    have:=(h.blk k av1 g h1 h3 h6 h8).2.1
    have h9:some w.heap.size=some g:=h9
    cases h9
    omega
   ·rw [hlk k' (by omega) e2] at h2
    rw [hvn k e1,hvn k' e2]
    exact h.disj k k' av1 av2 g h1 h2 h3 h4 h6 h7 hne
 ·have:=U0.hf n g h1
  rw [hvn _ (by omega)]
  exact h.fix n g h1
theorem I9 (ty:TypeId) (v:Value) (w:World):(newVar ty v).run P w = .ok ⟨w.heap.size,0,none⟩ (w.alloc (.cells v.cells ty)):=by
 simp [newVar,newRow]
section
variable (hg:Gd w0 U0 nt ops o gs S) (hd:o.dst=some d) (hn:Nat.blt d nt=true) (h5:Nat.blt d 100000=true)
include hg hd hn h5
theorem b8n {x:Operand} {ty:TypeId} {c:CV} {n q p} (ho:o.op = .box ty x) (hx:ev S x=some ⟨0,c,n,q,p⟩):AOp P w0 U0 nt ops o (gs++rd x) [(d,[])] S [(d,.bp d 0 []),(100000+d,⟨5,c,n,0,p⟩)]:=by
 intro s hs hN a w ⟨D,hv,h⟩ Q K hK
 rw [if_pos (hg s (fun k hk=>hs k (List.mem_append_left _ hk)) a w D hv h)]
 obtain ⟨h1,h2⟩:VRep (Us w0 U0 D) w c (a.eval x)∧Tk hv (b6 s) ⟨0,c,n,q,p⟩ (a.eval x).cells.toList:=j6 h (fun k hk=>hs k (List.mem_append_right _ hk)) hx
 have he:(execOp a.eval o).run P w = .ok (.value (.pointer (some ⟨w.heap.size,0,none⟩))) (w.alloc (.cells (a.eval x).cells ty)):=by
  generalize a.eval=ρ
  simp [execOp,ho,Instr.box,I9]
 unfold Oper.wp
 rw [he,Oper.upon_value,hd]
 have:=h.newbox (d:=d) (av:=⟨5,c,n,0,p⟩) (hN (d,[]) (by simp)).nr (bL hn) (bL h5) (.inl rfl) ty (fun _=>h1.cells) (fun _=>h2)
 rw [Array.toArray_toList] at this
 exact hK _ _ ⟨_,_,this⟩
theorem b5Q {ty:TypeId} {fs:Array Field} {it:TypeInfo} {cs:Array Value} {sz:List Nat} {zs:List CV} {n:Nat} {p:List Nat} (ho:o.op = .alloc ty) (hu:P.underlying ty=some (.struct fs)) (hi:P.info? ty=some it) (hz:it.zero=some (.agg cs)) (hsz:szO P fs.toList 0=some sz) (h0:zsO sz cs.toList=some zs) (hp:b0p zs [] 0=(n,p)):AOp P w0 U0 nt ops o gs [(d,[])] S [(d,.bp d 0 []),(100000+d,⟨5,.row zs,n,0,p⟩)]:=by
 intro s hs hN a w ⟨D,hv,h⟩ Q K hK
 rw [if_pos (hg s hs a w D hv h)]
 obtain ⟨segs,e1,e2,e3,e4,e5⟩:=J7 (U:=Us w0 U0 D) (w:=w) h0
 have hrep:Rep (Us w0 U0 D) w (.row zs) cs.toList:=by
  rw [s8,←e1]
  exact I6 e4 (fun i c hi=>by obtain ⟨seg,f1,f2,_⟩:=e5 i c hi;exact ⟨seg,f1,f2⟩)
 have htk:Tk hv (b6 s) ⟨5,.row zs,n,0,p⟩ cs.toList:=fun hl=>by
  rcases a0U hp with rfl | ⟨j,c,rfl,rfl,f1,f2,f3⟩
  ·exact absurd hl y0
  ·obtain ⟨seg,f4,_,f5⟩:=e5 j c f1
   rw [f5 f2] at f4
   have hat:=a5L f4
   rw [e2,e1] at hat
   refine ⟨((zs.map CV.size).take j).sum,c,?_,?_⟩
   ·simp only [Nat.zero_add]
    rw [CV.at,a5I f1]
    simp only [a0h]
    rfl
   ·rw [e3]
    simpa [J5] using hat
 have he:(execOp a.eval o).run P w = .ok (.value (.pointer (some ⟨w.heap.size,0,none⟩))) (w.alloc (.cells cs ty)):=by
  simp [execOp,ho,Instr.alloc,zeroValue,typeInfo,hi,hz,I9,Value.cells]
 unfold Oper.wp
 rw [he,Oper.upon_value,hd]
 have:=h.newbox (d:=d) (av:=⟨5,.row zs,n,0,p⟩) (hN (d,[]) (by simp)).nr (bL hn) (bL h5) (.inl rfl) ty (fun _=>hrep) (fun _=>htk)
 rw [Array.toArray_toList] at this
 exact hK _ _ ⟨_,_,this⟩
end
theorem zb {P:Program} {w0:World} {U0:UX} {nt:Nat} {ops:Array Oper} {o:Oper} {S:Nat→Option AV} {gs:List Nat} {d:Nat} {x:Operand} {ty:TypeId} {c:CV} {n} {q} {p} (r:Gd w0 U0 nt ops o gs S:=by exact gN rfl) (t:o.dst=some d:=by exact rfl) (u:Nat.blt d nt=true:=by exact rfl) (v:Nat.blt d 100000=true:=by exact rfl) (y:o.op = .box ty x:=by exact rfl) (z:ev S x=some ⟨0,c,n,q,p⟩:=by exact rfl):AOp P w0 U0 nt ops o (gs++rd x) [(d,[])] S [(d,.bp d 0 []),(100000+d,⟨5,c,n,0,p⟩)]:=b8n r t u v y z
theorem zw {P:Program} {w0:World} {U0:UX} {nt:Nat} {ops:Array Oper} {o:Oper} {S:Nat→Option AV} {gs:List Nat} {d:Nat} {ty:TypeId} {fs:Array Field} {it:TypeInfo} {cs:Array Value} {sz:List Nat} {zs:List CV} {n:Nat} {p:List Nat} (q:Gd w0 U0 nt ops o gs S:=by exact gN rfl) (r:o.dst=some d:=by exact rfl) (t:Nat.blt d nt=true:=by exact rfl) (u:Nat.blt d 100000=true:=by exact rfl) (v:o.op = .alloc ty:=by exact rfl) (x:P.underlying ty=some (.struct fs):=by exact rfl) (y:P.info? ty=some it:=by exact rfl) (z:it.zero=some (.agg cs):=by exact rfl) (A:szO P fs.toList 0=some sz:=by exact rfl) (B:zsO sz cs.toList=some zs:=by exact rfl) (C:b0p zs [] 0=(n,p):=by exact rfl):AOp P w0 U0 nt ops o gs [(d,[])] S [(d,.bp d 0 []),(100000+d,⟨5,.row zs,n,0,p⟩)]:=b5Q q r t u v x y z A B C
theorem SimG.store (h:SimG w0 U0 nt s a w D hv) {k0:Nat} (h5:n7 k0) {av0 av:AV} (h0:look s k0=some av0) (ht0:av0.t≠7) (hobj:av0.t≠9) (ht:av.t=av0.t) (hnd:∀ g,NoD D av0 (hv k0) g→NoD D av (hv k0) g) (ht6:av.t≠6) {g:Nat} (hg:hb (hv k0)=some g) {xs:Array Value} {xs':List Value} {ty:TypeId} (hx:w.heap[g]?=some (.cells xs ty (0,0))) (hoc:∀ w',w'.heap[g]?=some (.cells xs'.toArray ty (0,0))→(∀ b o v,Us w0 U0 D b o→w.cell? ⟨b,o,none⟩=some v→Us w0 U0 D b o∧w'.cell? ⟨b,o,none⟩=some v)→OC (Us w0 U0 D) w' hv (b6 s) av (hv k0)) :
  SimG w0 U0 nt ((k0,av)::s) a (w.setRow g xs'.toArray) D hv:=by
 obtain ⟨hbase,hlt0,hD⟩:=h.blk k0 av0 g h0 h5 ht0 hg
 have h5':=h5
 unfold n7 at h5'
 have ht6':av0.t≠6:=by rw [←ht];exact ht6
 have hD':∀ o,¬ D g o:=fun o=>hD o fun e=>absurd e ht6'
 have hne9:av ≠ .obj:=fun e=>hobj (by rw [←ht,e])
 have hne90:av0 ≠ .obj:=fun e=>hobj (by rw [e])
 have hl:∀ n e,y6 ((k0,av)::s) n e↔y6 s n e:=fun n e=>by
  unfold y6
  by_cases e1:k0=n
  ·subst e1
   rw [lS,h0]
   constructor
   ·rintro ⟨h1,_⟩;cases h1;exact absurd rfl ht6
   ·rintro ⟨h1,_⟩;cases h1;exact absurd rfl ht6'
  ·rw [lN e1]
 have hl2:b6 ((k0,av)::s)=b6 s:=by funext k;simp only [b6,hl]
 have hoth:∀ k,k≠g→(w.setRow g xs'.toArray).heap[k]?=w.heap[k]?:=fun k hk=>setRow_other w g k _ hk
 have hkeep:∀ b o v,Us w0 U0 D b o→w.cell? ⟨b,o,none⟩=some v→Us w0 U0 D b o∧(w.setRow g xs'.toArray).cell? ⟨b,o,none⟩=some v:=fun b o v hu hc=>by
  refine ⟨hu,?_⟩
  rw [cell_setRow_other]
  ·exact hc
  ·exact a4i hu hbase (hD' o)
 refine ⟨⟨h.below.os,h.below.tape,h.below.output,by rw [setRow_size];exact h.below.size,fun k hk hkx=>?_⟩,h.dfr,h.size,fun d av' h1 h2=>?_,fun n o av' h1 h2 h3 h10=>?_,fun n o o' av1 av2 h1 h2=>?_,fun k av' h1 h2=>?_,fun k av' g' h1 h2 h3 h4=>?_,fun k k' av1 av2 g' h1 h2 h3 h4 h6 h7 hne=>?_,h.fix,fun b o hd=>?_⟩
 ·rw [hoth k]
  ·exact h.below.block k hk hkx
  ·rintro rfl
   rcases hbase with h1 | h1
   ·omega
   ·exact hkx h1.2
 ·rw [lN (by omega)] at h1
  rw [hl2]
  obtain ⟨v,h3,h4⟩:=h.slot d av' h1 h2
  exact ⟨v,h3,h4.keep hkeep⟩
 ·rw [lN (by unfold c8;omega)] at h1
  have hne:k0≠100000+n:=fun e=>by subst e;rw [lS] at h3;cases h3;exact hne9 rfl
  rw [lN hne] at h3
  rw [hl2]
  obtain ⟨v,h4,h6,h7⟩:=h.fld n o av' h1 h2 h3 h10
  refine ⟨v,h4.keep hkeep,h6,fun i hi=>?_⟩
  rw [cell_setRow_other]
  ·exact h7 i hi
  ·show o8 (hv (100000+n))≠g
   rintro e
   obtain ⟨g2,ys,ty2,e1,e2,e3⟩:=h.obj9 h3 h10
   have:hb (hv (100000+n))=some g:=by rw [e1];rw [e2] at e;rw [←e];rfl
   exact h.disj k0 (100000+n) av0 _ g h0 h3 h5 (F4 h10) ht0 (by simp) hne hg this
 ·rw [lN (by unfold c8;omega)] at h1 h2
  exact h.fdis n o o' av1 av2 h1 h2
 ·rw [hl2]
  by_cases e:k0=k
  ·subst e
   rw [lS] at h1
   cases h1
   exact hoc _ (setRow_heap w _ _ _ _ _ hx) hkeep
  ·rw [lN e] at h1
   by_cases h7:av'.t=7
   ·exact a5Y h7
   ·exact (h.obj k av' h1 h2).move hkeep (fun _ hl=>⟨hl,rfl⟩) fun g' hg'=>hoth g' fun e2=>h.disj k0 k av0 av' g h0 h1 h5 h2 ht0 h7 e hg (e2▸hg')
 ·rw [setRow_size]
  by_cases e:k0=k
  ·subst e
   rw [lS] at h1
   cases h1
   obtain ⟨g1,g2,g3⟩:=h.blk k0 av0 g' h0 h5 ht0 h4
   exact ⟨by rw [a9g ht];exact g1,g2,hnd g' g3⟩
  ·rw [lN e] at h1
   exact h.blk k av' g' h1 h2 h3 h4
 ·have conv:∀ q (aq:AV),look ((k0,av)::s) q=some aq→aq.t≠7→∃ aq',look s q=some aq'∧aq'.t≠7:=fun q aq h8 h9=>by
   by_cases e:k0=q
   ·exact ⟨av0,by rw [←e];exact h0,ht0⟩
   ·rw [lN e] at h8;exact ⟨aq,h8,h9⟩
  obtain ⟨a1,b1,c1⟩:=conv k av1 h1 h6
  obtain ⟨a2,b2,c2⟩:=conv k' av2 h2 h7
  exact h.disj k k' a1 a2 g' b1 b2 h3 h4 c1 c2 hne
 ·rw [setRow_size];exact h.dlt b o hd
theorem C0 {ty:TypeId} {z:Nat} (hi:(P.info? ty).map (·.size)=some z) {g q:Nat} {ys zs us vs:List Value} {t:TypeId} (hg:w.heap[g]?=some (.cells (ys++zs++us).toArray t (0,0))) (hq:ys.length=q) {v:Value} (hv:v.cells.toList=vs) (hl:vs.length=zs.length) (hz:vs.length=z) (h1:∀ u∈vs,u.oneCell'=true) :
  (storeVar ty ⟨g,q,none⟩ v).run P w = .ok () (w.setRow g (ys++vs++us).toArray):=by
 have hsz:(sizeOf ty).run P w = .ok z w:=by
  cases hi':P.info? ty with
  | none=>rw [hi'] at hi;simp at hi
  | some i=>rw [hi'] at hi;simp at hi;simp [sizeOf,typeInfo,hi',hi]
 have hc:v.cells.size=z:=by rw [←Array.length_toList,hv,hz]
 have hst:=run_storeCells_at (P:=P) g q t vs 0 (ys++zs++us).toArray w hg (by simp;omega) h1
 have e1:((ys++zs++us).toArray.toList.take (q+0)++vs++(ys++zs++us).toArray.toList.drop (q+0+vs.length))=ys++vs++us:=by
  subst hq
  simp [List.drop_append,hl]
 rw [e1] at hst
 simp [storeVar,hsz,hc,hv,hst]
theorem b5O (hg:Gd w0 U0 nt ops o gs S) (hd:o.dst=none) {x y:Operand} {ty:TypeId} {z:Nat} {c c' c2 v:CV} {n q p n' q' p' k1 v1 l1 m1 q1} (ho:o.op = .store ty x y) (hi:(P.info? ty).map (·.size)=some z) (hx:ev S x=some ⟨2,⟨k1,v1,l1⟩,n,q,p⟩) (hn5:Nat.blt n 400000=true) (hb:S (100000+n)=some ⟨5,c,n',q',p'⟩) (hy:ev S y=some ⟨0,v,m1,q1,[]⟩) (hat:c.at p=some (q,c')) (hup:c.upO p v=some c2) (hz:v.size=z) :
  AOp P w0 U0 nt ops o (gs++(rd x++(rd y++[100000+n]))) [] S [(100000+n,⟨5,c2,m1,0,p⟩)]:=by
 intro s hs hN a w ⟨D,hv,h⟩ Q K hK
 rw [if_pos (hg s (fun k hk=>hs k (List.mem_append_left _ hk)) a w D hv h)]
 have hb':=(hs (100000+n) (by simp)).trans hb
 have h1:a.eval x = .pointer (some ⟨o8 (hv (100000+n)),q,none⟩):=(j6 h (fun k hk=>hs k (List.mem_append_right _ (List.mem_append_left _ hk))) hx).2
 obtain ⟨h2,h2t⟩:VRep (Us w0 U0 D) w v (a.eval y)∧Tk hv (b6 s) ⟨0,v,m1,q1,[]⟩ (a.eval y).cells.toList:=j6 h (fun k hk=>hs k (List.mem_append_right _ (List.mem_append_right _ (List.mem_append_left _ hk)))) hy
 obtain ⟨g,xs,t,hgv,h3,h4,_⟩:=h.box hb' (bL hn5)
 have hgb:o8 (hv (100000+n))=g:=by rw [hgv];rfl
 rw [hgb] at h1
 obtain ⟨u1,u2⟩:=a0m (U:=Us w0 U0 D) (w:=w) (xs:=xs) hat hup
 obtain ⟨ys,zs,us,e,e1,e2,e3⟩:=u2 h4
 have hvl:=h2.cells.len
 subst e
 have hrun:=C0 (P:=P) hi h3 e1 (v:=a.eval y) rfl (by rw [hvl,e2]) (by rw [hvl,hz]) h2.cells.one
 have he:(execOp a.eval o).run P w = .ok .skip (w.setRow g (ys++(a.eval y).cells.toList++us).toArray):=by
  generalize a.eval=ρ at h1 hrun ⊢
  simp [execOp,ho,Instr.storeAt,Instr.sureAddr,h1,hrun]
 unfold Oper.wp
 rw [he,Oper.upon_skip,hd]
 have hlt5:=bL hn5
 refine hK _ _ ⟨_,_,h.store (av:=⟨5,c2,m1,0,p⟩) ⟨by omega,by omega⟩ hb' (by simp) (by simp) rfl (fun g' hn o _=>hn o (by simp)) (by simp) (by rw [hgv];rfl) h3 fun w' hw hkp=>?_⟩
 unfold OC
 simp only [if_true]
 refine ⟨g,_,t,hgv,hw,(e3 _ h2.cells).keep hkp,fun hl=>?_⟩
 obtain ⟨m,c3,g1,g2⟩:=h2t hl
 simp only at g1
 rw [a0h] at g1
 cases g1
 refine ⟨q,v,u1,?_⟩
 rw [←e1,List.append_assoc,List.getElem?_append_right (Nat.le_refl _),Nat.sub_self,List.getElem?_append_left]
 ·exact g2
 ·rcases Nat.lt_or_ge 0 (a.eval y).cells.toList.length with h | h
  ·exact h
  ·rw [List.getElem?_eq_none h] at g2;cases g2
theorem zQ {P:Program} {w0:World} {U0:UX} {nt:Nat} {ops:Array Oper} {o:Oper} {S:Nat→Option AV} {gs:List Nat} {x:Operand} {y:Operand} {ty:TypeId} {z:Nat} {c:CV} {c':CV} {c2:CV} {v:CV} {n} {q} {p} {n'} {q'} {p'} {k1} {v1} {l1} {m1} {q1} (r:Gd w0 U0 nt ops o gs S:=by exact gN rfl) (u:o.dst=none:=by exact rfl) (A:o.op = .store ty x y:=by exact rfl) (B:(P.info? ty).map (·.size)=some z:=by exact rfl) (C:ev S x=some ⟨2,⟨k1,v1,l1⟩,n,q,p⟩:=by exact rfl) (E:Nat.blt n 400000=true:=by exact rfl) (F:S (100000+n)=some ⟨5,c,n',q',p'⟩:=by exact rfl) (G:ev S y=some ⟨0,v,m1,q1,[]⟩:=by exact rfl) (H:c.at p=some (q,c'):=by exact rfl) (hup:c.upO p v=some c2:=by exact rfl) (hz:v.size=z:=by exact rfl):AOp P w0 U0 nt ops o (gs++(rd x++(rd y++[100000+n]))) [] S [(100000+n,⟨5,c2,m1,0,p⟩)]:=b5O r u A B C E F G H hup hz
theorem aSt (hg:Gd w0 U0 nt ops o gs S) (hd:o.dst=none) {x y:Operand} {ty:TypeId} {z:Nat} {c v:CV} {n q n' q' p' k1 v1 l1 m1 q1 p1} (ho:o.op = .store ty x y) (hi:(P.info? ty).map (·.size)=some z) (hx:ev S x=some ⟨2,⟨k1,v1,l1⟩,n,q,[]⟩) (hq:q=0) (hn5:Nat.blt n 400000=true) (hb:S (100000+n)=some ⟨5,c,n',q',p'⟩) (hy:ev S y=some ⟨0,v,m1,q1,p1⟩) (hcz:c.size=z) (hz:v.size=z) :
  AOp P w0 U0 nt ops o (gs++(rd x++(rd y++[100000+n]))) [] S [(100000+n,⟨5,v,m1,0,p1⟩)]:=by
 intro s hs hN a w ⟨D,hv,h⟩ Q K hK
 subst hq
 rw [if_pos (hg s (fun k hk=>hs k (List.mem_append_left _ hk)) a w D hv h)]
 have hb':=(hs (100000+n) (by simp)).trans hb
 have h1:a.eval x = .pointer (some ⟨o8 (hv (100000+n)),0,none⟩):=(j6 h (fun k hk=>hs k (List.mem_append_right _ (List.mem_append_left _ hk))) hx).2
 obtain ⟨h2,h2t⟩:VRep (Us w0 U0 D) w v (a.eval y)∧Tk hv (b6 s) ⟨0,v,m1,q1,p1⟩ (a.eval y).cells.toList:=j6 h (fun k hk=>hs k (List.mem_append_right _ (List.mem_append_right _ (List.mem_append_left _ hk)))) hy
 obtain ⟨g,xs,t,hgv,h3,h4,_⟩:=h.box hb' (bL hn5)
 have hgb:o8 (hv (100000+n))=g:=by rw [hgv];rfl
 rw [hgb] at h1
 have hvl:=h2.cells.len
 have hxl:=h4.len
 have hrun:=C0 (P:=P) (ys:=[]) (zs:=xs) (us:=[]) (q:=0) (z:=z) hi (by simpa using h3) rfl (v:=a.eval y) rfl (by rw [hvl,hz,hxl,hcz]) (by rw [hvl,hz]) h2.cells.one
 simp only [List.nil_append,List.append_nil] at hrun
 have he:(execOp a.eval o).run P w = .ok .skip (w.setRow g (a.eval y).cells.toList.toArray):=by
  generalize a.eval=ρ at h1 hrun ⊢
  simp [execOp,ho,Instr.storeAt,Instr.sureAddr,h1,hrun]
 unfold Oper.wp
 rw [he,Oper.upon_skip,hd]
 have hlt5:=bL hn5
 refine hK _ _ ⟨_,_,h.store (av:=⟨5,v,m1,0,p1⟩) ⟨by omega,by omega⟩ hb' (by simp) (by simp) rfl (fun g' hn o _=>hn o (by simp)) (by simp) (by rw [hgv];rfl) h3 fun w' hw hkp=>?_⟩
 unfold OC
 simp only [if_true]
 exact ⟨g,_,t,hgv,hw,h2.cells.keep hkp,h2t⟩
theorem zy {P:Program} {w0:World} {U0:UX} {nt:Nat} {ops:Array Oper} {o:Oper} {S:Nat→Option AV} {gs:List Nat} {x:Operand} {y:Operand} {ty:TypeId} {z:Nat} {c:CV} {v:CV} {n} {q} {n'} {q'} {p'} {k1} {v1} {l1} {m1} {q1} {p1} (p:Gd w0 U0 nt ops o gs S:=by exact gN rfl) (r:o.dst=none:=by exact rfl) (u:o.op = .store ty x y:=by exact rfl) (A:(P.info? ty).map (·.size)=some z:=by exact rfl) (B:ev S x=some ⟨2,⟨k1,v1,l1⟩,n,q,[]⟩:=by exact rfl) (C:q=0:=by exact rfl) (E:Nat.blt n 400000=true:=by exact rfl) (F:S (100000+n)=some ⟨5,c,n',q',p'⟩:=by exact rfl) (G:ev S y=some ⟨0,v,m1,q1,p1⟩:=by exact rfl) (H:c.size=z:=by exact rfl) (hz:v.size=z:=by exact rfl):AOp P w0 U0 nt ops o (gs++(rd x++(rd y++[100000+n]))) [] S [(100000+n,⟨5,v,m1,0,p1⟩)]:=aSt p r u A B C E F G H hz
end
theorem J0 {s:Nat} (hs:0<s):∀ (vs:List (List Value)),(∀ v∈vs,v.length=s)→∀ k,vs.flatten[k]?=(vs[k / s]?).bind (fun v=>v[k % s]?)
 | [],_,k=>by simp
 | v::vs,h,k=>by
  have hv:=h v (by simp)
  rw [List.flatten_cons]
  by_cases hk:k<s
  ·rw [List.getElem?_append_left (by omega),Nat.div_eq_of_lt hk,Nat.mod_eq_of_lt hk]
   simp
  ·rw [List.getElem?_append_right (by omega),J0 hs vs (fun u hu=>h u (List.mem_cons_of_mem _ hu)),hv]
   have e1:k / s=(k-s) / s+1:=by
    rw [←Nat.add_div_right _ hs];congr 1;omega
   have e2:k % s=(k-s) % s:=by
    conv=>lhs;rw [show k=(k-s)+s by omega,Nat.add_mod_right]
   rw [e1,e2]
   simp
def a4j:List (Nat×Operand)→Nat→Bool
 | [],_=>true
 | x::ps,i=>match Nat.beq x.1 i with | true=>a4j ps (i+1) | false=>false
theorem Y6:∀ {ps:List (Nat×Operand)} {i:Nat},a4j ps i=true→∀ (ρ:Operand→Value),(ps.map fun x=>(x.1,ρ x.2))=((ps.map fun x=>ρ x.2).zipIdx i).map fun x=>(x.2,x.1)
 | [],_,_,_=>rfl
 | x::ps,i,h,ρ=>by
  unfold a4j at h
  split at h
  ·rename_i hb
   have:=Nat.eq_of_beq_eq_true hb
   rw [List.map_cons,Y6 h ρ,List.map_cons,List.zipIdx_cons,List.map_cons,this]
  ·cases h
noncomputable def a4f:List CV→Nat→Bool
 | [],_=>true
 | c::cs,z=>match Nat.beq c.size z with | true=>a4f cs z | false=>false
theorem sZ:∀ {l:List CV} {z:Nat},a4f l z=true→∀ c∈l,c.size=z
 | [],_,_,c,hc=>by simp at hc
 | x::l,z,h,c,hc=>by
  unfold a4f at h
  split at h
  ·rename_i hb
   rcases List.mem_cons.1 hc with rfl | hc
   ·exact Nat.eq_of_beq_eq_true hb
   ·exact sZ h c hc
  ·cases h
theorem R7 {U:Nat→Nat→Prop} {w:World}:∀ {cs:List CV} {vs:List Value},VReps U w cs vs→Sq (cs.map fun c=>Rep U w c) (vs.map fun v=>v.cells.toList).flatten
 | [],vs,h=>by have h:vs=[]:=h;rw [h];rfl
 | c::cs,vs,⟨u,us,e,h1,h2⟩=>by
  rw [e]
  exact ⟨u.cells.toList,(us.map fun v=>v.cells.toList).flatten,rfl,h1.cells,R7 h2⟩
theorem Z1 {U:Nat→Nat→Prop} {w:World} {z:Nat}:∀ {cs:List CV} {vs:List Value},VReps U w cs vs→(∀ c∈cs,c.size=z)→∀ v∈vs,v.cells.size=z
 | [],vs,h,_=>by have h:vs=[]:=h;rw [h];simp
 | c::cs,vs,⟨u,us,e,h1,h2⟩,hz=>by
  intro v hv
  rw [e] at hv
  rcases List.mem_cons.1 hv with rfl | hv
  ·rw [←Array.length_toList,h1.cells.len,hz c (by simp)]
  ·exact Z1 h2 (fun x hx=>hz x (List.mem_cons_of_mem _ hx)) v hv
section
variable {P:Program} {w0:World} {U0:UX} {nt:Nat} {ops:Array Oper} {o:Oper} {S:Nat→Option AV} {gs:List Nat} {d:Nat} {s:AS} {a:Act} {w:World} {D:Nat→Nat→Prop} {hv:Nat→Value}
theorem b7u {o:Obj} (hbase:w0.heap.size≤w.heap.size) (i:Nat):Us w0 U0 (Dn D w (w.alloc o)) w.heap.size i := .inr ⟨hbase,.inr ⟨Nat.le_refl _,by simp⟩⟩
theorem b3O (hg:Gd w0 U0 nt ops o gs S) (hd:o.dst=some d) (hn:Nat.blt d nt=true) (h5:Nat.blt d 100000=true) {t e:TypeId} {len:Nat} {parts:Array (Nat×Operand)} {ie:TypeInfo} {z:Value} {cs:List CV} (ho:o.op = .buildSlice t len parts) (hu:P.underlying t=some (.slice e)) (hi:P.info? e=some ie) (hz:ie.zero=some z) (hdn:a4j parts.toList 0=true) (hx:P7 S (parts.toList.map (·.2))=some cs) (hl:Nat.beq cs.length len=true) (hsz:a4f cs ie.size=true) (hp:Nat.blt 0 (len*ie.size)=true) (h24:Nat.ble (len*ie.size) 16777216=true) :
  AOp P w0 U0 nt ops o (gs++rdl (parts.toList.map (·.2))) [] S [(d,.val (.lst cs))]:=by
 intro s hs hN a w ⟨D,hv,h⟩ Q K hK
 rw [if_pos (hg s (fun k hk=>hs k (List.mem_append_left _ hk)) a w D hv h)]
 have hvr:=A8 h (fun k hk=>hs k (List.mem_append_right _ hk)) hx
 rw [List.map_map] at hvr
 have hlen:cs.length=len:=Nat.eq_of_beq_eq_true hl
 have hvl:=hvr.len
 have hpos:=bL hp
 have hs0:0<ie.size:=Nat.pos_of_ne_zero fun e=>by rw [e] at hpos;simp at hpos
 have hsizes:=Z1 hvr (sZ hsz)
 obtain ⟨vs,hvs⟩:∃ vs,vs=parts.toList.map (a.eval∘(·.2)):=⟨_,rfl⟩
 rw [←hvs] at hvr hvl hsizes
 obtain ⟨r,hf,hrs,hrk⟩:=Great.fill_dense hs0 vs 0 ((Array.range (len*ie.size)).map (z.cells[·% z.cells.size]!)) hsizes (by simp;rw [hvl,hlen];exact Nat.le_refl _)
 have hr:r.toList=(vs.map fun v=>v.cells.toList).flatten:=by
  apply List.ext_getElem?
  intro k
  rw [J0 hs0 _ (by intro v hvr';rw [List.mem_map] at hvr';obtain ⟨u,hu,rfl⟩:=hvr';simpa using hsizes u hu)]
  have:=hrk k
  rw [←Array.getElem?_toList] at this
  simp only [Nat.zero_mul,Nat.zero_le,true_and,Nat.zero_add] at this
  rw [this]
  by_cases hk:k<vs.length*ie.size
  ·rw [if_pos hk]
   simp only [Nat.sub_zero,List.getElem?_map]
   cases vs[k / ie.size]?<;>simp
  ·rw [if_neg hk,Array.getElem?_eq_none (by simp;rw [←hlen,←hvl];omega)]
   rw [List.getElem?_map,List.getElem?_eq_none (by rw [Nat.le_div_iff_mul_le hs0];omega)]
   rfl
 have he:(execOp a.eval o).run P w = .ok (.value (.slice (some ⟨w.heap.size,0,none⟩) len len)) (w.alloc (.cells r e)):=by
  have h24':=Nat.le_of_ble_eq_true h24
  have hparts:(parts.map fun x=>(x.1,a.eval x.2)).toList=(vs.zipIdx 0).map fun x=>(x.2,x.1):=by
   rw [Array.toList_map,Y6 hdn a.eval,hvs]
   rfl
  have:=run_buildSlice (P:=P) w t e len (parts.map fun x=>(x.1,a.eval x.2)) r ie z hu hi hz (by omega) (by omega) (by rw [hparts];exact hf)
  generalize a.eval=ρ at this ⊢
  simp [execOp,ho,this]
 unfold Oper.wp
 rw [he,Oper.upon_value,hd]
 have hb:Below w.heap.size w (w.alloc (.cells r e)):=(Below.refl _ _).alloc (Nat.le_refl _) _
 refine hK _ _ ⟨_,hv,(h.growN hb).put (bL hn) (bL h5) (i7 (d8.2 ⟨_,len,len,rfl,hlen.symm,Nat.le_refl _,?_,(fun h=>by cases h),r.toList,?_,?_⟩))⟩
 ·have:=Nat.le_of_ble_eq_true h24
  have:len≤len*ie.size:=Nat.le_mul_of_pos_right _ hs0
  unfold maxLen;omega
 ·have:=At.new (U:=Us w0 U0 (Dn D w (w.alloc (.cells r e)))) w r.toList e (fun i _=>b7u h.below.size i)
  rw [Array.toArray_toList] at this
  exact this
 ·rw [hr]
  exact (R7 hvr).keep (a0S h.dlt hb fun _ _ h => .inl h)
theorem zI {P:Program} {w0:World} {U0:UX} {nt:Nat} {ops:Array Oper} {o:Oper} {S:Nat→Option AV} {gs:List Nat} {d:Nat} {t:TypeId} {e:TypeId} {len:Nat} {parts:Array (Nat×Operand)} {ie:TypeInfo} {z:Value} {cs:List CV} (p:Gd w0 U0 nt ops o gs S:=by exact gN rfl) (q:o.dst=some d:=by exact rfl) (y:Nat.blt d nt=true:=by exact rfl) (A:Nat.blt d 100000=true:=by exact rfl) (B:o.op = .buildSlice t len parts:=by exact rfl) (C:P.underlying t=some (.slice e):=by exact rfl) (E:P.info? e=some ie:=by exact rfl) (F:ie.zero=some z:=by exact rfl) (G:a4j parts.toList 0=true:=by exact rfl) (H:P7 S (parts.toList.map (·.2))=some cs:=by exact rfl) (hl:Nat.beq cs.length len=true:=by exact rfl) (hsz:a4f cs ie.size=true:=by exact rfl) (hp:Nat.blt 0 (len*ie.size)=true:=by exact rfl) (h24:Nat.ble (len*ie.size) 16777216=true:=by exact rfl):AOp P w0 U0 nt ops o (gs++rdl (parts.toList.map (·.2))) [] S [(d,.val (.lst cs))]:=b3O p q y A B C E F G H hl hsz hp h24
theorem SimG.kill (h:SimG w0 U0 nt s a w D hv) {n:Nat} (hn:n7 n):SimG w0 U0 nt ((n,.no)::s) a w D hv:=by
 unfold n7 at hn
 have hlk:∀ {k av},look ((n,AV.no)::s) k=some av→av.t≠7→look s k=some av:=fun {k av} h1 h2=>by
  by_cases e:n=k
  ·subst e;rw [lS] at h1;cases h1;exact absurd rfl h2
  ·rw [lN e] at h1;exact h1
 have hl:∀ m e,y6 ((n,AV.no)::s) m e→y6 s m e:=fun m e ⟨h1,h2⟩=>⟨hlk h1 (by simp),h2⟩
 have hln:∀ m,b6 ((n,AV.no)::s) m→b6 s m:=fun m h1=>h1.imp id fun ⟨e,he⟩=>⟨e,hl _ _ he⟩
 have K3:∀ b o v,Us w0 U0 D b o→w.cell? ⟨b,o,none⟩=some v→Us w0 U0 D b o∧w.cell? ⟨b,o,none⟩=some v:=fun _ _ _ h1 h2=>⟨h1,h2⟩
 refine ⟨h.below,h.dfr,h.size,fun d av h1 h2=>?_,fun k o av h1 h2 h3 h4=>?_,fun k o o' av av' h1 h2=>?_,fun k av h1 h2=>?_,fun k av g h1 h2 h3=>h.blk k av g (hlk h1 h3) h2 h3,fun k k' av av' g h1 h2 h3 h4 h5 h6=>h.disj k k' av av' g (hlk h1 h5) (hlk h2 h6) h3 h4 h5 h6,h.fix,h.dlt⟩
 ·rw [lN (by omega)] at h1
  obtain ⟨v,h3,h4⟩:=h.slot d av h1 h2
  exact ⟨v,h3,h4.move K3 (fun _=>hln _) fun _=>rfl⟩
 ·rw [lN (by unfold c8;omega)] at h1
  obtain ⟨v,h5,h6⟩:=h.fld k o av h1 h2 (hlk h3 (by simp)) h4
  exact ⟨v,h5.move K3 (fun _=>hln _) fun _=>rfl,h6⟩
 ·rw [lN (by unfold c8;omega)] at h1 h2
  exact h.fdis k o o' av av' h1 h2
 ·by_cases h7:av.t=7
  ·exact a5Y h7
  ·exact (h.obj k av (hlk h1 h7) h2).move K3 (fun _ h3=>⟨hln _ h3,rfl⟩) fun _ _=>rfl
theorem SimG.newrowF (h:SimG w0 U0 nt s a w D hv) {n:Nat} (hnw:RN n) (hf:U0.f n=none) (hr:a0n s n) {avn:AV} (hno:avn ≠ .obj) {w':World} {v':Value} {D':Nat→Nat→Prop} {X:Nat→Prop} (hgr:BelowX X w w')
  (hX:∀ b,X b→Mn w0 U0 (lcl n avn) b∧∀ q av,look s q=some av→n7 q→av.t≠7→q≠n→hb (hv q)≠some b)
  (hv':∀ g,hb v'=some g→(X g∨w.heap.size≤g)∧g<w'.heap.size∧NoD D' avn v' g)
  (hD:∀ b o,D' b o→D b o∨hb v'=some b) (hDlt:∀ b o,D' b o→b<w'.heap.size)
  (hk:∀ b o u,Us w0 U0 D b o→w.cell? ⟨b,o,none⟩=some u→Us w0 U0 D' b o∧w'.cell? ⟨b,o,none⟩=some u)
  (hoc:∀ hv lv,OC (Us w0 U0 D') w' hv lv avn v') :
  SimG w0 U0 nt ((n,avn)::s) a w' D' (fun x=>if x=n then v' else hv x):=by
 obtain ⟨hv2,hhv⟩:∃ hv2:Nat→Value,hv2=fun x=>if x=n then v' else hv x:=⟨_,rfl⟩
 rw [←hhv]
 have hvn:∀ k,k≠n→hv2 k=hv k:=fun k hk=>by rw [hhv];simp only [if_neg hk]
 have hvd:hv2 n=v':=by rw [hhv];simp
 have hn:=hnw
 have hn':=hnw
 unfold RN at hn'
 have hlk:∀ {k},k≠n→look ((n,avn)::s) k=look s k:=fun {k} hk=>lN (Ne.symm hk)
 have hl:∀ q f,y6 ((n,avn)::s) q f→q≠n→y6 s q f:=fun q f ⟨h1,h2⟩ hne=>by rw [hlk hne] at h1;exact ⟨h1,h2⟩
 have hln:∀ {k av},look s k=some av→b6 ((n,avn)::s) av.n→b6 s av.n:=fun {k av} h1 h2=>h2.imp id fun ⟨f,hf⟩=>⟨f,hl _ _ hf (hr k av h1).1⟩
 have hmv:∀ {k av v},look s k=some av→AVRep (Us w0 U0 D) w hv (b6 s) av v→AVRep (Us w0 U0 D') w' hv2 (b6 ((n,avn)::s)) av v:=fun {k av v} h1 h2 =>
  h2.move hk (fun _=>hln h1) fun h3=>hvn _ (a4J hn (hr k av h1).1 h3)
 have hblk:∀ k av g,look s k=some av→n7 k→av.t≠7→k≠n→hb (hv k)=some g→w'.heap[g]?=w.heap[g]?:=fun k av g h1 h2 h3 h4 h5 =>
  hgr.block g (h.blk k av g h1 h2 h3 h5).2.1 fun hx=>(hX g hx).2 k av h1 h2 h3 h4 h5
 have hmn:∀ g,hb v'=some g→Mn w0 U0 (lcl n avn) g:=fun g hg=>by
  rcases (hv' g hg).1 with h1 | h1
  ·exact (hX g h1).1
  ·exact .inl (Nat.le_trans h.below.size h1)
 have hsep:∀ k av g,look s k=some av→n7 k→av.t≠7→k≠n→hb (hv k)=some g→hb v'≠some g:=fun k av g h1 h2 h3 h4 h5 h6=>by
  rcases (hv' g h6).1 with h7 | h7
  ·exact (hX g h7).2 k av h1 h2 h3 h4 h5
  ·have:=(h.blk k av g h1 h2 h3 h5).2.1
   omega
 refine ⟨⟨hgr.os.trans h.below.os,hgr.tape.trans h.below.tape,hgr.output.trans h.below.output,Nat.le_trans h.below.size hgr.size,fun b hb hx=>?_⟩,h.dfr,h.size,fun d av h1 h2=>?_,fun m o av h1 h2 h3 h4=>?_,fun m o o' av av' h1 h2=>?_,fun k av h1 h2=>?_,fun k av g h1 h2 h3 h4=>?_,fun k k' av av' g h1 h2 h3 h4 h5 h6 hne=>?_,fun m g h1=>?_,hDlt⟩
 ·have hlt:=Nat.lt_of_lt_of_le hb h.below.size
  rw [hgr.block b hlt fun e=>?_]
  ·exact h.below.block b hb hx
  ·rcases (hX b e).1 with h1 | h1
   ·omega
   ·exact hx h1.2
 ·rw [hlk (by omega)] at h1
  obtain ⟨u,h3,h4⟩:=h.slot d av h1 h2
  exact ⟨u,h3,hmv h1 h4⟩
 ·rw [hlk (by unfold c8;omega)] at h1
  have hne:100000+m≠n:=fun e=>by rw [e,lS] at h3;cases h3;exact hno rfl
  rw [hlk hne] at h3
  obtain ⟨u,h5,h6,h7⟩:=h.fld m o av h1 h2 h3 h4
  refine ⟨u,hmv h1 h5,h6,fun i hi=>?_⟩
  rw [hvn _ hne]
  have h8:=h7 i hi
  obtain ⟨g2,ys,ty2,e1,e2,e3⟩:=h.obj9 h3 h4
  have:=hblk (100000+m) _ g2 h3 (F4 h4) (by simp) hne (by rw [e1];rfl)
  rw [e2] at h8 ⊢
  rw [World.cell?_of_block (w:=w) this];exact h8
 ·rw [hlk (by unfold c8;omega)] at h1 h2
  exact h.fdis m o o' av av' h1 h2
 ·by_cases e:k=n
  ·subst e
   rw [lS] at h1
   cases h1
   rw [hvd]
   exact hoc _ _
  ·rw [hlk e] at h1
   rw [hvn k e]
   by_cases h7:av.t=7
   ·exact a5Y h7
   ·refine (h.obj k av h1 h2).move hk (fun _ h3=>⟨hln h1 h3,?_⟩) fun g hg=>hblk k av g h1 h2 h7 e hg
    unfold J5
    by_cases h8:av.n=1
    ·rw [if_pos h8,if_pos h8]
    ·rw [hvn _ (hr k av h1).1]
 ·by_cases e:k=n
  ·subst e
   rw [lS] at h1
   cases h1
   rw [hvd] at h4 ⊢
   exact ⟨hmn g h4,(hv' g h4).2⟩
  ·rw [hlk e] at h1
   rw [hvn k e] at h4 ⊢
   obtain ⟨g1,g2,g3⟩:=h.blk k av g h1 h2 h3 h4
   refine ⟨g1,Nat.lt_of_lt_of_le g2 hgr.size,fun o ho hd=>?_⟩
   rcases hD g o hd with h5 | h5
   ·exact g3 o ho h5
   ·exact hsep k av g h1 h2 h3 e h4 h5
 ·by_cases e1:k=n
  ·have e2:k'≠n:=fun e=>hne (e1.trans e.symm)
   rw [hlk e2] at h2
   rw [e1,hvd,hvn k' e2]
   exact fun h7 h8=>hsep k' av' g h2 h4 h6 e2 h8 h7
  ·rw [hlk e1] at h1
   by_cases e2:k'=n
   ·rw [e2,hvd,hvn k e1]
    exact fun h7 h8=>hsep k av g h1 h3 h5 e1 h7 h8
   ·rw [hlk e2] at h2
    rw [hvn k e1,hvn k' e2]
    exact h.disj k k' av av' g h1 h2 h3 h4 h5 h6 hne
 ·have:=U0.hf m g h1
  rw [hvn _ (fun e=>by rw [e,hf] at h1;cases h1)]
  exact h.fix m g h1
theorem SimG.newrow (h:SimG w0 U0 nt s a w D hv) {n:Nat} (hnw:RW n) (hr:a0n s n) {avn:AV} (hno:avn ≠ .obj) {w':World} {v':Value} {D':Nat→Nat→Prop} {X:Nat→Prop} (hgr:BelowX X w w')
  (hX:∀ b,X b→Mn w0 U0 (lcl n avn) b∧∀ q av,look s q=some av→n7 q→av.t≠7→q≠n→hb (hv q)≠some b)
  (hv':∀ g,hb v'=some g→(X g∨w.heap.size≤g)∧g<w'.heap.size∧NoD D' avn v' g)
  (hD:∀ b o,D' b o→D b o∨hb v'=some b) (hDlt:∀ b o,D' b o→b<w'.heap.size)
  (hk:∀ b o u,Us w0 U0 D b o→w.cell? ⟨b,o,none⟩=some u→Us w0 U0 D' b o∧w'.cell? ⟨b,o,none⟩=some u)
  (hoc:∀ hv lv,OC (Us w0 U0 D') w' hv lv avn v') :
  SimG w0 U0 nt ((n,avn)::s) a w' D' (fun x=>if x=n then v' else hv x):=h.newrowF hnw.rn (by
 cases e:U0.f n with
 | none=>rfl
 | some v=>have:=(U0.hf n v e).1;unfold RW at hnw;omega) hr hno hgr hX hv' hD hDlt hk hoc
def Da (D:Nat→Nat→Prop) (v:Value) (n:Nat) (b o:Nat):Prop:=D b o∨(v.ownBlock=some b∧o<n)
theorem a0t {base:Nat} {e:TypeId} {z:Nat} {v:Value} {k:Nat} {xs:List Value} (h:w.ownsRow base e z v k xs) {g o:Nat} (hg:v.ownBlock=some g) (ho:o<k*z):w.cell? ⟨g,o,none⟩=xs[o]?:=by
 obtain ⟨h1,h2⟩:=h
 rcases h2 with ⟨rfl,_⟩ | ⟨g',cap,cur,rfl,hb,hh,hn,hm,hs,ht⟩
 ·cases hg
 ·cases hg
  simp only [World.cell?,hh]
  rw [←ht,List.getElem?_take,if_pos ho]
  simp
theorem SimG.app (h:SimG w0 U0 nt s a w D hv) {n e z k m:Nat} (hn:RW n) (hr:a0n s n) {v v':Value} {xs ys:List Value} {w':World} (hown:w.ownsRow 0 e z v k xs) (hz:0<z)
  (hroom:∀ g,v.ownBlock=some g→Mn w0 U0 6 g∧(∀ o,k*z≤o→¬ D g o)∧∀ q av,look s q=some av→n7 q→av.t≠7→q≠n→hb (hv q)≠some g)
  (ho':w'.ownsRow 0 e z v' (k+m) (xs++ys)) (hgr:w.grownBy w' v.ownBlock) (hv':v'.ownBlock=v.ownBlock∨(w.grownBy w' none∧∀ g,v'.ownBlock=some g→w.heap.size≤g)) :
  SimG w0 U0 nt ((n,.tok e z)::s) a w' (Da D v' ((k+m)*z)) (fun x=>if x=n then v' else hv x)∧∀ b o u,Us w0 U0 D b o→w.cell? ⟨b,o,none⟩=some u→Us w0 U0 (Da D v' ((k+m)*z)) b o∧w'.cell? ⟨b,o,none⟩=some u:=by
 have hvs:∀ {u:Value} {k xs} {w:World},w.ownsRow 0 e z u k xs→(hb u=u.ownBlock∧b4C u=k):=fun {u k xs w} h1=>by
  rcases h1.2 with ⟨rfl,rfl⟩ | ⟨g,cap,cur,rfl,_⟩
  ·exact ⟨rfl,rfl⟩
  ·exact ⟨rfl,rfl⟩
 obtain ⟨hb1,_⟩:=hvs hown
 obtain ⟨hb2,hl2⟩:=hvs ho'
 have hv'lt:∀ g,v'.ownBlock=some g→g<w'.heap.size:=fun g hg=>(ho'.lt g hg).2
 have hk:∀ b o u,Us w0 U0 D b o→w.cell? ⟨b,o,none⟩=some u→Us w0 U0 (Da D v' ((k+m)*z)) b o∧w'.cell? ⟨b,o,none⟩=some u:=fun b o u hu hc=>by
  have hlt:b<w.heap.size:=World.block_lt_of_cell? w _ hc
  refine ⟨hu.imp id fun h1=>⟨h1.1,.inl h1.2⟩,?_⟩
  by_cases hb:v.ownBlock=some b
  ·obtain ⟨hm,hf,_⟩:=hroom b hb
   have hoz:o<k*z:=by
    rcases Nat.lt_or_ge o (k*z) with h1 | h1
    ·exact h1
    ·exact absurd rfl (a4i hu hm (hf o h1))
   have hxl:xs.length=k*z:=hown.1
   rcases hv' with h1 | ⟨h1,_⟩
   ·have e1:=a0t hown hb hoz
    have e2:=a0t ho' (h1.trans hb) (Nat.lt_of_lt_of_le hoz (Nat.mul_le_mul_right _ (Nat.le_add_right _ _)))
    rw [e2,List.getElem?_append_left (by omega),←e1,hc]
   ·rw [World.cell?_of_block (w:=w) (h1.block b hlt (by simp))];exact hc
  ·rw [World.cell?_of_block (w:=w) (hgr.block b hlt fun e=>hb e.symm)];exact hc
 refine ⟨h.newrow (X:=fun b=>v.ownBlock=some b) hn hr (by simp) ⟨hgr.os,hgr.tape,hgr.output,hgr.size,fun b hb hx=>hgr.block b hb fun e=>hx e.symm⟩ (fun b hb=>⟨by rw [M0 rfl];exact (hroom b hb).1,(hroom b hb).2.2⟩) (fun g hg=>?_) (fun b o hd=>hd.imp id fun h1=>by rw [hb2];exact h1.1) (fun b o hd=>?_) hk (fun hv lv=>?_),hk⟩
 ·rw [hb2] at hg
  have h1:v.ownBlock=some g∨w.heap.size≤g:=by
   rcases hv' with h1 | ⟨_,h1⟩
   ·exact .inl (h1▸hg)
   ·exact .inr (h1 g hg)
  refine ⟨h1,hv'lt g hg,fun o ho hd=>?_⟩
  have ho:=ho rfl
  rw [hl2] at ho
  rcases hd with hd | hd
  ·rcases h1 with h1 | h1
   ·exact (hroom g h1).2.1 o (Nat.le_trans (Nat.mul_le_mul_right _ (Nat.le_add_right _ _)) ho) hd
   ·have:=h.dlt _ _ hd
    omega
  ·have ho:(k+m)*z≤o:=ho
   omega
 ·rcases hd with hd | hd
  ·exact Nat.lt_of_lt_of_le (h.dlt _ _ hd) hgr.size
  ·exact hv'lt b hd.1
 ·unfold OC
  exact ⟨k+m,xs++ys,ho',hz⟩
theorem b0a {P:Program} {t ty e:TypeId} {z:Value} {size bytes:Nat} (ht:P.underlying t=some (.slice e)) (hi:(P.info? e).map (fun i=>(i.zero,i.size,i.bytes))=some (some z,size,bytes)) (hzs:z.cells.size=size) (hsz:0<size)
  {v:Value} {n:Nat} {xs:List Value} {base:Nat} (hbase:base≤w.heap.size) (hown:w.ownsRow base e size v n xs) {ao:Option Addr} {m c:Nat} {ys:List Value} {U:Nat→Nat→Prop} (hnil:ao=none→m=0∧c=0) (hb:At U w ao ys) (hl:ys.length=m*size) (h1:∀ u∈ys,u.oneCell'=true) (h63:n+m≤maxLen) (hbytes:(n+m)*bytes≤140737488355328) :
  ∃ v' w',Sem.run P (Builtin.append_ #[t,t] ty #[v,.slice ao m c]) w = .ok v' w'∧w'.ownsRow base e size v' (n+m) (xs++ys)∧w.grownBy w' v.ownBlock∧(v'.ownBlock=v.ownBlock∨(w.grownBy w' none∧∀ g,v'.ownBlock=some g→w.heap.size≤g)):=by
 obtain ⟨i,hi1,hi2,hi3,hi4⟩:=info_parts hi
 cases ao with
 | none =>
  obtain ⟨rfl,rfl⟩:=hnil rfl
  have:ys=[]:=List.eq_nil_of_length_eq_zero (by omega)
  subst this
  exact ⟨v,w,run_append_owned_none (P:=P) (w:=w) base t ty e i size ht hi1 v _ _ hown,by simpa using hown,World.grownBy.refl _ _,.inl rfl⟩
 | some ad =>
  have hnews:∀ j u,ys[j]?=some u→w.cell? (ad.add j)=some u:=by
   intro j u hj
   have hjl:j<ys.length:=by
    rcases Nat.lt_or_ge j ys.length with h | h
    ·exact h
    ·rw [List.getElem?_eq_none h] at hj;cases hj
   rcases hb with rfl | ⟨b,off,ha,hc⟩
   ·simp at hjl
   ·cases ha
    rw [show (⟨b,off,none⟩:Addr).add j=⟨b,off+j,none⟩ by unfold Addr.add;split<;>simp_all,(hc j hjl).2,hj]
  rcases hown.2 with ⟨rfl,rfl⟩ | ⟨g,cap,cur,rfl,hbg,hg,hnc,hcm,hcs,htake⟩
  ·have hx:xs=[]:=List.eq_nil_of_length_eq_zero (by simpa using hown.1)
   subst hx
   obtain ⟨v',w',hr,ho,hg,_⟩:=run_append_own (P:=P) w w.heap.size t ty e i z size bytes ht hi1 hi2 hi3 hi4 hzs hsz (.slice none 0 0) 0 [] (World.ownsRow_nil _ _ _ _) ad m c ys hl hnews h1 h63 hbytes (Nat.le_refl _)
   exact ⟨v',w',hr,p7 ho hbase,hg,.inr ⟨hg,fun g hg=>(ho.lt g hg).1⟩⟩
  ·by_cases hroom:n+m≤cap
   ·obtain ⟨w',hr,ho,hgr⟩:=run_append_fits (P:=P) w base t ty e i size ht hi1 hi3 g n cap xs hown ad m c ys hl hnews h1 hroom
    exact ⟨_,w',hr,ho,hgr,.inl rfl⟩
   ·obtain ⟨v',w',hr,ho,hgr⟩:=run_append_arg_grows (P:=P) w t ty e i z size bytes ht hi1 hi2 hi3 hi4 hzs hsz ⟨g,0,none⟩ n cap xs hown.1 (hown.cells (g:=g) rfl) ad m c ys hl hnews (by omega) h63 hbytes
    exact ⟨v',w',hr,p7 ho hbase,hgr.but _,.inr ⟨hgr,fun g hg=>(ho.lt g hg).1⟩⟩
theorem b2o {base:Nat} {e:TypeId} {z:Nat} {v:Value} {k:Nat} {xs ys:List Value} {U:Nat→Nat→Prop} {ao:Option Addr} {n c:Nat} (h:w.ownsRow base e z v k xs) (hv:v = .slice ao n c) (ha:At U w ao ys) (hl:ys.length=k*z):xs=ys∧k=n:=by
 have hk:k=n:=by
  rcases h.2 with ⟨h1,h2⟩ | ⟨g,cap,cur,h1,_⟩
  ·rw [hv] at h1;cases h1;exact h2
  ·rw [hv] at h1;cases h1;rfl
 refine ⟨?_,hk⟩
 rcases ha with rfl | ⟨b,off,rfl,hc⟩
 ·exact List.eq_nil_of_length_eq_zero (by rw [h.1];simpa using hl.symm)
 ·apply List.ext_getElem?
  intro j
  by_cases hj:j<k*z
  ·have hoff:off=0:=by
    rcases h.2 with ⟨h1,h2⟩ | ⟨g,cap,cur,h1,_⟩
    ·rw [hv] at h1;cases h1
    ·rw [hv] at h1;cases h1;rfl
   have e1:=a0t h (g:=b) (by rw [hv];rfl) hj
   have e2:=(hc j (by omega)).2
   rw [hoff,Nat.zero_add] at e2
   rw [←e1,←e2]
  ·rw [List.getElem?_eq_none (by rw [h.1];omega),List.getElem?_eq_none (by omega)]
theorem O4 {U:Nat→Nat→Prop} {l:List CV} {xs:List Value} (h:Sq (l.map fun c=>Rep U w c) xs):∀ u∈xs,u.oneCell'=true:=a9a (fun c _ xs h=>h.one) h
theorem b6S {Q:Exit→Act→World→Prop} {K:Act→World→Prop} (h:SimG w0 U0 nt s a w D hv) {n e size bytes:Nat} {z:Value} {t:TypeId} (hd:o.dst=some d) (hdn:d<nt) (h5:d<100000) (hn:RW n) (hr:a0n s n) {x y:Operand} (ho:o.op = .call { callee := .builtin .append,args := #[x,y],argTypes := #[t,t] })
  (ht:P.underlying t=some (.slice e)) (hi:(P.info? e).map (fun i=>(i.zero,i.size,i.bytes))=some (some z,size,bytes)) (hzs:z.cells.size=size) (hsz:0<size) (hbt:bytes≤1000)
  {l l2:List CV} (hl:∀ c∈l,c.size=size) (hl2:∀ c∈l2,c.size=size) (hbd:l.length+l2.length≤100000000000)
  {v:Value} (hx:a.eval x=v) (hvr:VRep (Us w0 U0 D) w (.lst l) v) (hy:VRep (Us w0 U0 D) w (.lst l2) (a.eval y)) {k:Nat} {xs:List Value} (hown:w.ownsRow 0 e size v k xs)
  (hroom:∀ g,v.ownBlock=some g→Mn w0 U0 6 g∧(∀ o,k*size≤o→¬ D g o)∧∀ q av,look s q=some av→n7 q→av.t≠7→q≠n→hb (hv q)≠some g)
  (hK:∀ a' w',Sim w0 U0 nt ((d,.own (.lst (l++l2)) n)::(n,.tok e size)::s) a' w'→K a' w'):o.wp P a w K Q:=by
 obtain ⟨ao,k2,c,h1,h2,h3,h4,h6,ys,h7,h8⟩:=d8.1 hvr
 obtain ⟨ao2,m,c2,g1,g2,g3,g4,g6,ys2,g7,g8⟩:=d8.1 hy
 have hyl:ys.length=k2*size:=by rw [F7 (n:=CV.size) (fun c _ xs h=>h.len) h8,w8 hl,h2]
 have hyl2:ys2.length=m*size:=by rw [F7 (n:=CV.size) (fun c _ xs h=>h.len) g8,w8 hl2,g2]
 have hk:k=k2:=by
  rcases hown.2 with ⟨e1,e2⟩ | ⟨g,cap,cur,e1,_⟩
  ·rw [h1] at e1;cases e1;exact e2
  ·rw [h1] at e1;cases e1;rfl
 subst hk
 obtain ⟨exy,_⟩:=b2o hown h1 h7 hyl
 subst exy
 have hmul:(k+m)*bytes≤100000000000*1000:=Nat.mul_le_mul (by omega) hbt
 obtain ⟨v',w',r1,r2,r3,r4⟩:=b0a (P:=P) (ty:=o.type) ht hi hzs hsz (Nat.zero_le _) hown g6 g7 hyl2 (O4 g8) (by unfold maxLen;omega) (by omega)
 obtain ⟨s1,s2⟩:=h.app hn hr hown hsz hroom r2 r3 r4
 have he:(execOp a.eval o).run P w = .ok (.value v') w':=by
  generalize a.eval=ρ at hx g1 ⊢
  simp [execOp,ho,resolve,invoke,builtin,hx,g1,r1,Result.andThen]
 unfold Oper.wp
 rw [he,Oper.upon_value,hd]
 refine hK _ _ ⟨_,_,s1.put hdn h5 ⟨?_,fun _=>?_⟩⟩
 ·obtain ⟨a1,c1,e1,e2,e3,e4,e5⟩:=A3 r2
  refine d8.2 ⟨a1,k+m,c1,e1,by rw [List.length_append,←h2,←g2],e2,e3,e4,xs++ys2,?_,?_⟩
  ·rcases e5 with e5 | ⟨b,off,ha,hlt,hc⟩
   ·exact .inl e5
   ·refine .inr ⟨b,off,ha,fun i hi=>⟨.inr ⟨?_,.inr ⟨?_,?_⟩⟩,hc i hi⟩⟩
    ·have hbo:v'.ownBlock=some b:=by rw [e1,ha];rfl
     rcases r4 with r4 | ⟨_,r4⟩
     ·rcases (hroom b (r4▸hbo)).1 with h1 | h1
      ·exact h1
      ·exact absurd rfl h1.1
     ·exact Nat.le_trans h.below.size (r4 b hbo)
    ·rw [e1,ha];rfl
    ·rcases r2.2 with ⟨e6,_⟩ | ⟨g,cap,cur,e6,_⟩
     ·rw [e1,ha] at e6;cases e6
     ·rw [e1,ha] at e6;cases e6
      have:=r2.1
      omega
  ·rw [List.map_append]
   exact D6 (h8.keep s2) (g8.keep s2)
 ·refine ⟨0,.lst (l++l2),rfl,?_⟩
  have:v'.cells.toList=[v']:=by
   obtain ⟨a1,c1,e1,_⟩:=A3 r2
   rw [e1];rfl
  rw [this]
  unfold J5
  rw [if_neg (by show n≠1;unfold RW at hn;omega)]
  simp
theorem b8A (hg:Gd w0 U0 nt ops o gs S) (hd:o.dst=some d) (hn:Nat.blt d nt=true) (h5:Nat.blt d 100000=true) {x y:Operand} {t e size bytes:Nat} {z:Value} {l l2:List CV} {n q n2 q2 p2} (ho:o.op = .call { callee := .builtin .append,args := #[x,y],argTypes := #[t,t] }) (ht:P.underlying t=some (.slice e)) (hi:(P.info? e).map (fun i=>(i.zero,i.size,i.bytes))=some (some z,size,bytes)) (hzs:Nat.beq z.cells.size size=true) (hsz:Nat.blt 0 size=true) (hbt:Nat.ble bytes 1000=true)
  (hx:ev S x=some ⟨0,.lst l,n,q,[]⟩) (hy:ev S y=some ⟨0,.lst l2,n2,q2,p2⟩) (hnn:Nat.ble 200000 n=true) (hnx':Nat.blt n 400000=true) (hne:Nat.beq n (300000+d)=false) (hlv:S n=some (.tok e size)) (hl:∀ c∈l,c.size=size) (hl2:∀ c∈l2,c.size=size) (hbd:l.length+l2.length≤100000000000) :
  AOp P w0 U0 nt ops o (gs++(rd x++(rd y++[n]))) [(300000+d,[])] S [(d,.own (.lst (l++l2)) (300000+d)),(300000+d,.tok e size),(n,.no)]:=by
 intro s hs hN a w ⟨D,hv,h⟩ Q K hK
 rw [if_pos (hg s (fun k hk=>hs k (List.mem_append_left _ hk)) a w D hv h)]
 obtain ⟨h1,h2⟩:VRep (Us w0 U0 D) w (.lst l) (a.eval x)∧Tk hv (b6 s) ⟨0,.lst l,n,q,[]⟩ (a.eval x).cells.toList:=j6 h (fun k hk=>hs k (List.mem_append_right _ (List.mem_append_left _ hk))) hx
 have h3:=C2 h (fun k hk=>hs k (List.mem_append_right _ (List.mem_append_right _ (List.mem_append_left _ hk)))) hy
 have hn2:200000≤n:=Nat.le_of_ble_eq_true hnn
 have hnx:=bL hnx'
 have hok:n7 n:=⟨by omega,by omega⟩
 have hlk:=(hs n (by simp)).trans hlv
 have hlive:y6 s n (e,size):=⟨hlk,hn2,hnx⟩
 have hval:a.eval x=hv n:=by
  obtain ⟨m,c,g1,g2⟩:=h2 (.inr ⟨_,hlive⟩)
  simp only at g1
  rw [a0h] at g1
  cases g1
  obtain ⟨ao,k,c,e1,_⟩:=d8.1 h1
  unfold J5 at g2
  rw [if_neg (by show n≠1;omega)] at g2
  rw [e1] at g2 ⊢
  simpa [Value.cells] using g2
 obtain ⟨k,xs,g1,g2⟩:∃ k xs,w.ownsRow 0 e size (hv n) k xs∧0<size:=h.obj n _ hlk hok
 have hvs:hb (hv n)=(hv n).ownBlock∧b4C (hv n)=k:=by
  rcases g1.2 with ⟨e1,e2⟩ | ⟨g,cap,cur,e1,_⟩
  ·rw [e1,e2];exact ⟨rfl,rfl⟩
  ·rw [e1];exact ⟨rfl,rfl⟩
 have hne':n≠300000+d:=fun e=>by rw [e,Nat.beq_refl] at hne;cases hne
 have hkill:=h.kill hok
 have h5':=bL h5
 refine b6S (n:=300000+d) hkill hd (bL hn) (bL h5) ⟨by omega,by omega⟩ (fun k av hk=>?_) ho ht hi (Nat.eq_of_beq_eq_true hzs) (bL hsz) (Nat.le_of_ble_eq_true hbt) hl hl2 hbd hval (hval▸h1) h3 g1 (fun g hg=>?_) (fun a' w' hs'=>hK a' w' ?_)
 ·by_cases e:n=k
  ·subst e
   rw [lS] at hk
   cases hk
   refine ⟨by show 0≠_;omega,?_⟩
   have:Nat.ble 500000 n=false:=by
    cases hb:Nat.ble 500000 n with
    | false=>rfl
    | true=>have:=Nat.le_of_ble_eq_true hb;omega
   have hfn:fnm n=100000:=by unfold fnm;rw [this]
   rw [hfn]
   omega
  ·rw [lN e] at hk;exact (hN (300000+d,[]) (by simp)).nr k av hk
 ·rw [←hvs.1] at hg
  obtain ⟨f1,f2,f3⟩:=h.blk n _ g hlk hok (by simp) hg
  refine ⟨by rw [M0 rfl] at f1;exact f1,fun o ho=>f3 o fun _=>?_,fun q av h6 h7 h8 h9=>?_⟩
  ·rw [hvs.2];exact ho
  ·have hq:n≠q:=fun e=>by subst e;rw [lS] at h6;cases h6;exact h8 rfl
   rw [lN hq] at h6
   exact h.disj n q _ av g hlk h6 hok h7 (by simp) h8 hq hg
 ·exact hs'
theorem zJ {P:Program} {w0:World} {U0:UX} {nt:Nat} {ops:Array Oper} {o:Oper} {S:Nat→Option AV} {gs:List Nat} {d:Nat} {x:Operand} {y:Operand} {t:Nat} {e:Nat} {size:Nat} {bytes:Nat} {z:Value} {l:List CV} {l2:List CV} {n} {q} {n2} {q2} {p2} (p:Gd w0 U0 nt ops o gs S:=by exact gN rfl) (r:o.dst=some d:=by exact rfl) (u:Nat.blt d nt=true:=by exact rfl) (v:Nat.blt d 100000=true:=by exact rfl) (A:o.op = .call { callee := .builtin .append,args := #[x,y],argTypes := #[t,t] }:=by exact rfl) (B:P.underlying t=some (.slice e):=by exact rfl) (C:(P.info? e).map (fun i=>(i.zero,i.size,i.bytes))=some (some z,size,bytes):=by exact rfl) (E:Nat.beq z.cells.size size=true:=by exact rfl) (F:Nat.blt 0 size=true:=by exact rfl) (G:Nat.ble bytes 1000=true:=by exact rfl) (H:ev S x=some ⟨0,.lst l,n,q,[]⟩:=by exact rfl) (hy:ev S y=some ⟨0,.lst l2,n2,q2,p2⟩:=by exact rfl) (hnn:Nat.ble 200000 n=true:=by exact rfl) (hnx':Nat.blt n 400000=true:=by exact rfl) (hne:Nat.beq n (300000+d)=false:=by exact rfl) (hlv:S n=some (.tok e size):=by exact rfl) (hl:∀ c∈l,c.size=size:=by first | assumption | exact sZ rfl | exact Tm.size_all _ | exact Bd.size_all _ | exact b8 _ | exact bys_size _ | exact Lt.size_all _) (hl2:∀ c∈l2,c.size=size:=by first | assumption | exact sZ rfl | exact Tm.size_all _ | exact Bd.size_all _ | exact b8 _ | exact bys_size _ | exact Lt.size_all _) (hbd:l.length+l2.length≤100000000000:=by first | omega | (simp only [List.length_map,List.length_append,List.length_cons,List.length_nil]<;>omega) | (simp<;>omega)):AOp P w0 U0 nt ops o (gs++(rd x++(rd y++[n]))) [(300000+d,[])] S [(d,.own (.lst (l++l2)) (300000+d)),(300000+d,.tok e size),(n,.no)]:=b8A p r u v A B C E F G H hy hnn hnx' hne hlv hl hl2 hbd
end
structure Md where
 r:Option Nat
 ds:List Deferred
def s9 (ro:Option Nat):Fence:={ Fence.wide with round:=ro }
def wdA (a:Act) (ds:List Deferred):Act:={ a with defers:=ds }
theorem a0Q (a:Act) (ds:List Deferred):(wdA a ds).eval=a.eval:=by funext o;cases o<;>rfl
theorem a1Y (a:Act) (ds:List Deferred) (d:Option Tmp) (v:Value):wdA (a.put d v) ds=(wdA a ds).put d v:=by cases d<;>rfl
theorem V5 {a:Act} (h:a.defers=[]):wdA a []=a:=by cases a;simp [wdA] at *;exact h
def a4g (M:Md) (Q:Exit→Act→World→Prop) (e:Exit) (a':Act) (w':World):Prop:=∃ a'':Act,a'=wdA a'' M.ds∧Q e a'' w'
def WP (P:Program) (M:Md) (c:Code) (Q:Exit→Act→World→Prop) (a:Act) (w:World):Prop:=c.wpIn (s9 M.r) 1 P (a4g M Q) (wdA a M.ds) w
section
variable {P:Program} {M:Md} {Q:Exit→Act→World→Prop} {a:Act} {w:World}
theorem F0 {c:Code} {Q':Exit→Act→World→Prop} (h:WP P M c Q a w) (hq:∀ e a w,Q e a w→Q' e a w):WP P M c Q' a w:=
 wpIn_mono h fun e a' w' ⟨a'',h1,h2⟩=>⟨a'',h1,hq _ _ _ h2⟩
theorem b6k (h:Q .normal a w):WP P M .skip Q a w:=wpIn_skip ⟨a,rfl,h⟩
theorem b7e (h:Q .ret a w):WP P M .ret Q a w:=wpIn_ret ⟨a,rfl,h⟩
theorem b6d {id:Nat} (h:Q (.exit id) a w):WP P M (.exit id) Q a w:=wpIn_exit ⟨a,rfl,h⟩
theorem b4p {x y:Code} (h:WP P M x (Exit.then (WP P M y Q) Q) a w):WP P M (.seq x y) Q a w:=
 wpIn_seq (wpIn_mono h fun e a' w' ⟨a'',h1,h2⟩=>by
  cases e with
  | normal=>subst h1;exact h2
  | _=>exact ⟨a'',h1,h2⟩)
theorem a7u {id:Nat} {c:Code} (h:WP P M c (Exit.inBlock id Q) a w):WP P M (.block id c) Q a w:=
 wpIn_block (wpIn_mono h fun e a' w' ⟨a'',h1,h2⟩=>by
  cases e with
  | exit id' =>
   simp only [Exit.inBlock] at h2 ⊢
   split
   ·rename_i e;rw [if_pos e] at h2;exact ⟨a'',h1,h2⟩
   ·rename_i e;rw [if_neg e] at h2;exact ⟨a'',h1,h2⟩
  | _=>exact ⟨a'',h1,h2⟩)
theorem a5j {c:Operand} {x y:Code} (hc:a.eval c = .bool true) (h:WP P M x Q a w):WP P M (.cond c x y) Q a w:=wpIn_cond_true (by rw [a0Q];exact hc) h
theorem a3Z {c:Operand} {x y:Code} (hc:a.eval c = .bool false) (h:WP P M y Q a w):WP P M (.cond c x y) Q a w:=wpIn_cond_false (by rw [a0Q];exact hc) h
theorem b8B (a:Act) (x y:List Deferred):wdA (wdA a x) y=wdA a y:=rfl
theorem b0b {c:Code} (I:Act→World→Prop) (μ:Act→World→Nat) (h₀:I a w) (hI:∀ a w,I a w→a.defers=[])
  (round:∀ a w,I a w→WP P M c (Exit.then (fun a' w'=>I a' w'∧μ a' w'<μ a w) Q) a w):WP P M (.loop c) Q a w:=by
 refine wpIn_loop (fun a' w'=>∃ a'':Act,a'=wdA a'' M.ds∧I a'' w') (fun a' w'=>μ (wdA a' []) w') ⟨a,rfl,h₀⟩ ?_
 rintro a' w' ⟨a'',rfl,h⟩
 refine wpIn_mono (round a'' w' h) ?_
 rintro e b w2 ⟨b',rfl,h2⟩
 cases e with
 | normal =>
  obtain ⟨h3,h4⟩:=h2
  refine ⟨⟨b',rfl,h3⟩,?_⟩
  simp only [b8B]
  rw [V5 (hI _ _ h3),V5 (hI _ _ h)]
  exact h4
 | _=>exact ⟨b',rfl,h2⟩
theorem WP.wp {c:Code} (h:WP P ⟨none,[]⟩ c Q a w) (ha:a.defers=[]) (hQ:∀ e a w,Q e a w→a.defers=[]):c.wp P Q a w:=by
 have h2:c.wpIn Fence.wide 1 P (a4g ⟨none,[]⟩ Q) a w:=by
  have:=h
  unfold WP at this
  rw [V5 ha] at this
  exact this
 refine wpIn_wide.1 (wpIn_mono h2 ?_)
 rintro e a' w' ⟨a'',rfl,h3⟩
 rw [V5 (hQ _ _ _ h3)]
 exact h3
theorem a0V {ro:Option Nat} {n:Nat} {f:FuncId} {args:Array Value} {w:World} {R:Ending→World→Prop} (h:Calls P f args w R):CallsIn (s9 ro) n P f args w R:=
 (callsIn_wide (n:=n)).2 h
theorem b2G {ro:Option Nat} {n:Nat} {row:String} {args:Array Value} {w:World} {R:Value→World→Prop} (h:Rows P row args w R):RowsIn (s9 ro) n P row args w R:=by
 intro c cs _
 obtain ⟨v,w',h1,h2⟩:=h c cs
 exact ⟨v,w',h1,stepsIn_wide.2 h2⟩
theorem b8t {o:Oper} {K:Act→World→Prop} {Q':Exit→Act→World→Prop} (h:o.wp P a w (fun a' w'=>a'.defers=[]∧K (wdA a' M.ds) w') (fun _ _ _=>False)) (ha:a.defers=[]):o.wpIn (s9 M.r) 1 P (wdA a M.ds) w K Q':=by
 refine ⟨fun _ _=>trivial,?_⟩
 rw [a0Q]
 have hs:(o.semAt (s9 M.r).round a.eval)=execOp a.eval o∨∃ c,o.op = .defer c:=by
  by_cases hd:∃ c,o.op = .defer c
  ·exact .inr hd
  ·exact .inl (Oper.semAt_eq _ _ _ fun c hc=>hd ⟨c,hc⟩)
 unfold Oper.wp at h
 rcases hs with hs | ⟨c,hc⟩
 ·rw [hs]
  generalize (execOp a.eval o).run P w=r at h ⊢
  cases r with
  | ok n w' =>
   cases n with
   | value v=>have h:=h.2;rw [a1Y] at h;exact h
   | skip=>have h:=h.2;rw [a1Y] at h;exact h
   | defer d =>
    exfalso
    have:=h.1
    (cases hd:o.dst<;>simp [Act.put,hd] at this)
   | enter f args =>
    refine ⟨(fun hh=>by cases hh),a0V (Calls.mono h fun e w2 he=>?_)⟩
    cases e with
    | returned v=>have he:=he.2;rw [a1Y] at he;exact he
    | panicked ch=>exact he.elim
    | outgrown=>obtain ⟨_,_,hf⟩:=he;exact hf.elim
   | row row args =>
    refine ⟨(fun hh=>by cases hh),b2G (Rows.mono h fun v w2 he=>?_)⟩
    have he:=he.2;rw [a1Y] at he;exact he
   | _=>exact h.elim
  | halt x w'=>cases x<;>exact h.elim
 ·exfalso
  have he:execOp a.eval o=(do let d ←resolve a.eval c o.type;pure (Next.defer d)):=by simp only [execOp,hc]
  rw [he] at h
  cases hr:(resolve a.eval c o.type).run P w with
  | ok d w' =>
   simp [hr] at h
   have:=h.1
   (cases hd:o.dst<;>simp [Act.put,hd] at this)
  | halt x w'=>simp [hr] at h;cases x<;>exact h.elim
def W7 (P:Program) (M:Md) (ops:Array Oper) (Q:Exit→Act→World→Prop) (i:Nat) (K:Act→World→Prop) (a:Act) (w:World):Prop:=
 match ops[i]? with
 | none=>K a w
 | some o=>if Region.wanted o (yielded ops a.tmps) then o.wpIn (s9 M.r) 1 P a w K Q else (∀ f,o.about P w a.eval=some f→(s9 M.r).fn f)∧K (a.put o.dst undef) w
theorem a4X {ops:Array Oper} (i:Nat) (rest:List Nat) (a:Act) (w:World):wpOpsIn (s9 M.r) 1 P ops Q (i::rest) a w=W7 P M ops Q i (wpOpsIn (s9 M.r) 1 P ops Q rest) a w:=by
 cases h:ops[i]?<;>simp [wpOpsIn,W7,h]
theorem a6L {o:Oper} {a:Act} {w:World} {K K':Act→World→Prop} {Q:Exit→Act→World→Prop} (h:∀ a w,K a w→K' a w) (hh:o.wpIn (s9 M.r) 1 P a w K Q):o.wpIn (s9 M.r) 1 P a w K' Q:=by
 refine ⟨hh.1,?_⟩
 have hh:=hh.2
 generalize (o.semAt (s9 M.r).round a.eval).run P w=r at *
 cases r with
 | ok n w' =>
  cases n<;>simp only [Oper.uponIn] at hh ⊢ <;>
   first
    | exact h _ _ hh
    | exact ⟨hh.1,hh.2.mono (fun e w'' he=>by cases e<;>first | exact h _ _ he | exact he)⟩
    | exact ⟨hh.1,hh.2.mono (fun _ _ he=>h _ _ he)⟩
 | halt x w'=>cases x<;>simp only [Oper.uponIn] at hh ⊢ <;> exact hh
theorem a1N {ops:Array Oper} {i:Nat} {a:Act} {w:World} {K K':Act→World→Prop} {Q:Exit→Act→World→Prop} (h:∀ a w,K a w→K' a w) (hh:W7 P M ops Q i K a w):W7 P M ops Q i K' a w:=by
 unfold W7 at *
 split
 ·exact h _ _ (by simpa [*] using hh)
 ·rename_i o ho
  simp only [ho] at hh
  split
  ·rename_i hw;rw [if_pos hw] at hh;exact a6L h hh
  ·rename_i hw;rw [if_neg hw] at hh;exact ⟨hh.1,h _ _ hh.2⟩
def a3f (P:Program) (M:Md) (md:Region.Mode) (ops:Array Oper) (Q:Exit→Act→World→Prop):Nat→Array Bool→Act→World→Prop
 | 0,listed,a,w=>Region.ready md ops listed=[]∧Q .normal a w
 | fuel+1,listed,a,w =>
  (Region.ready md ops listed=[]→Q .normal a w) ∧
  ∀ i∈Region.ready md ops listed,W7 P M ops Q i (a3f P M md ops Q fuel (listed.setIfInBounds i true)) a w
theorem a3S {md:Region.Mode} {ops:Array Oper}:∀ (fuel t:Nat) (listed:Array Bool) (a:Act) (w:World),a3f P M md ops Q fuel listed a w→wpOpsIn (s9 M.r) 1 P ops Q (Region.linearise.go md ops fuel t listed []) a w:=by
 intro fuel
 induction fuel with
 | zero=>intro t listed a w h;simpa [Region.linearise.go,wpOpsIn] using h.2
 | succ fuel ih =>
  intro t listed a w h
  obtain ⟨h₀,h₁⟩:=h
  simp only [Region.linearise.go]
  change wpOpsIn (s9 M.r) 1 P ops Q (match (Region.ready md ops listed)[t % (Region.ready md ops listed).length]? with
   | some i=>Region.linearise.go md ops fuel (t / (Region.ready md ops listed).length) (listed.setIfInBounds i true) [i]
   | none=>[].reverse) a w
  cases hi:(Region.ready md ops listed)[t % (Region.ready md ops listed).length]? with
  | none =>
   have hnil:Region.ready md ops listed=[]:=by
    cases hr:Region.ready md ops listed with
    | nil=>rfl
    | cons x xs =>
     rw [hr] at hi
     have hlt:t % (x::xs).length<(x::xs).length:=Nat.mod_lt _ (by simp)
     simp at hi
     simp at hlt
     omega
   simpa [wpOpsIn] using h₀ hnil
  | some i =>
   simp only []
   rw [linearise_go_acc,List.reverse_singleton,List.singleton_append,a4X]
   exact a1N (fun a w=>ih _ _ a w) (h₁ i (List.mem_of_getElem? hi))
theorem a3X {id:Nat} {ops:Array Oper} (hm:P.follows .mixedOrders=true) (h:a3f P M .any ops (a4g M Q) ops.size (Array.replicate ops.size false) (wdA a M.ds) { w with drawn:=w.drawn+1 }):WP P M (.region id ops true) Q a w:=
 wpIn_region_draw fun t=>by
  simp only [Region.schedule,hm,Bool.true_or,if_true]
  exact a3S ops.size t _ _ _ h
end
def b3Z (q:Nat×List Nat) (p:Nat×AV):Bool:=match o9 q.2 p.1 with | true=>false | false=>Nat.beq p.2.n q.1||(Nat.beq (fnm p.1) q.1||Nat.beq (b4x p.1) q.1)
theorem a9A {q:Nat×List Nat} {p:Nat×AV} (h:b3Z q p=false):o9 q.2 p.1=false→p.2.n≠q.1∧fnm p.1≠q.1∧fnm p.1+1000000≠q.1:=fun h1=>by
 unfold b3Z at h
 rw [h1,a9v] at h
 simp only [Bool.or_eq_false_iff] at h
 exact ⟨fun e=>by rw [e,Nat.beq_refl] at h;exact absurd h.1 (by simp),fun e=>by rw [e,Nat.beq_refl] at h;exact absurd h.2.1 (by simp),fun e=>by rw [e,Nat.beq_refl] at h;exact absurd h.2.2 (by simp)⟩
theorem b3r {q:Nat×List Nat} {p:Nat×AV} (h1:o9 q.2 p.1=false) (h:¬ (p.2.n≠q.1∧fnm p.1≠q.1∧fnm p.1+1000000≠q.1)):b3Z q p=true:=by
 unfold b3Z
 rw [h1,a9v]
 simp only [Bool.or_eq_true]
 by_cases e:p.2.n=q.1
 ·left;rw [e,Nat.beq_refl]
 ·right
  by_cases e2:fnm p.1=q.1
  ·left;rw [e2,Nat.beq_refl]
  ·right
   have:fnm p.1+1000000=q.1:=Decidable.byContradiction fun e3=>h ⟨e,e2,e3⟩
   rw [this,Nat.beq_refl]
def D1 (s:AS) (N:List (Nat×List Nat)):Bool:=s.all fun p=>N.all fun q=>!b3Z q p
theorem C7:∀ {s:AS} {k:Nat} {av:AV},look s k=some av→(k,av)∈s
 | [],_,_,h=>by simp [look] at h
 | (d,x)::s,k,av,h=>by
  rw [r7] at h
  split at h
  ·rename_i e;subst e;cases h;simp
  ·exact List.mem_cons_of_mem _ (C7 h)
theorem y9 {s:AS} {N:List (Nat×List Nat)} (h:D1 s N=true):∀ q∈N,NoRefE s q:=by
 intro q hq k av hk he
 unfold D1 at h
 rw [List.all_eq_true] at h
 have h1:=h _ (C7 hk)
 rw [List.all_eq_true] at h1
 have h2:=h1 q hq
 simp only [Bool.not_eq_true'] at h2
 exact a9A h2 he
section
variable (P:Program) (w0:World) (U0:UX) (nt:Nat)
def Run (ops:Array Oper):List Oper→AS→List (List Nat×List (Nat×List Nat)×AS)→(AS→List (List Nat×List (Nat×List Nat)×AS)→Prop)→Prop
 | [],s,acc,K=>K s acc
 | o::os,s,acc,K=>∃ (R:List Nat) (N:List (Nat×List Nat)) (e:AS),AOp P w0 U0 nt ops o R N (look s) e∧D1 s N=true∧Run ops os (e++s) (acc++[(R,N,e)]) K
def AWp (c:Code) (Q:Exit→AS→Prop) (s:AS):Prop:=
 ∀ M a w,Sim w0 U0 nt s a w→WP P M c (fun e a' w'=>∃ s',Q e s'∧Sim w0 U0 nt s' a' w') a w
end
section
variable {P:Program} {w0:World} {U0:UX} {nt:Nat}
theorem Sim.df {s:AS} {a:Act} {w:World} (h:Sim w0 U0 nt s a w):a.defers=[]:=by obtain ⟨D,hv,h⟩:=h;exact h.dfr
theorem a9n {ops:Array Oper} {o:Oper} {M:Md} {Q:Exit→Act→World→Prop} {s e:AS} (h:Stp P w0 U0 nt ops o s e) {a:Act} {w:World} (hs:Sim w0 U0 nt s a w) {K:Act→World→Prop} (hK:∀ a' w',Sim w0 U0 nt (e++s) a' w'→K (wdA a' M.ds) w') :
  if Region.wanted o (yielded ops (wdA a M.ds).tmps)=true then o.wpIn (s9 M.r) 1 P (wdA a M.ds) w K Q else (∀ f,o.about P w (wdA a M.ds).eval=some f→(s9 M.r).fn f)∧K ((wdA a M.ds).put o.dst undef) w:=by
 have:=h a w hs (fun _ _ _=>False) (fun a' w'=>a'.defers=[]∧K (wdA a' M.ds) w') (fun a' w' hs'=>⟨hs'.df,hK a' w' hs'⟩)
 show if Region.wanted o (yielded ops a.tmps)=true then _ else _
 split
 ·rename_i hw;rw [if_pos hw] at this;exact b8t this hs.df
 ·rename_i hw;rw [if_neg hw,a1Y] at this;exact ⟨fun _ _=>trivial,this.2⟩
theorem a7n {ops:Array Oper} {M:Md} {Q:Exit→Act→World→Prop}:∀ {l:List Oper} {s:AS} {acc:List (List Nat×List (Nat×List Nat)×AS)} {K:AS→List (List Nat×List (Nat×List Nat)×AS)→Prop},Run P w0 U0 nt ops l s acc K→(∀ s' t' a w,K s' t'→Sim w0 U0 nt s' a w→Q .normal (wdA a M.ds) w)→∀ a w,Sim w0 U0 nt s a w→wpListIn (s9 M.r) 1 P ops Q l (wdA a M.ds) w
 | [],s,acc,K,h,hK,a,w,hs=>hK s acc a w h hs
 | o::os,s,acc,K,⟨R,N,e,h1,h2,h3⟩,hK,a,w,hs=>by
  unfold wpListIn
  exact a9n (h1 s (fun _ _=>rfl) (y9 h2)) hs (fun a' w' hs'=>a7n h3 hK a' w' hs')
theorem nx {ops:Array Oper} {o:Oper} {os:List Oper} {s e:AS} {acc:List (List Nat×List (Nat×List Nat)×AS)} {K:AS→List (List Nat×List (Nat×List Nat)×AS)→Prop} {R:List Nat} {N:List (Nat×List Nat)} (h1:AOp P w0 U0 nt ops o R N (look s) e) (h2:D1 s N=true) (h3:Run P w0 U0 nt ops os (e++s) (acc++[(R,N,e)]) K):Run P w0 U0 nt ops (o::os) s acc K:=⟨R,N,e,h1,h2,h3⟩
theorem nc {P:Program} {w0:World} {U0:UX} {nt:Nat} {ops:Array Oper} {o:Oper} {os:List Oper} {s e:AS} {acc:List (List Nat×List (Nat×List Nat)×AS)} {K:AS→List (List Nat×List (Nat×List Nat)×AS)→Prop} {R:List Nat} {N:List (Nat×List Nat)} (h1:AOp P w0 U0 nt ops o R N (look s) e) (h3:Run P w0 U0 nt ops os (e++s) (acc++[(R,N,e)]) K) (h2:D1 s N=true:=by rfl):Run P w0 U0 nt ops (o::os) s acc K:=⟨R,N,e,h1,h2,h3⟩
theorem ne {P:Program} {w0:World} {U0:UX} {nt:Nat} {ops:Array Oper} {o:Oper} {os:List Oper} {s e:AS} {acc:List (List Nat×List (Nat×List Nat)×AS)} {K:AS→List (List Nat×List (Nat×List Nat)×AS)→Prop} {R:List Nat} {N:List (Nat×List Nat)} (h1:AOp P w0 U0 nt ops o R N (look s) e) (h3:Run P w0 U0 nt ops os (e++s) (acc++[(R,N,e)]) K) (h2:D1 s N=true:=by kernel_rfl):Run P w0 U0 nt ops (o::os) s acc K:=⟨R,N,e,h1,h2,h3⟩
theorem aR {id:Nat} {l:List Oper} {Q:Exit→AS→Prop} {s:AS} (h:Run P w0 U0 nt l.toArray l s [] fun s' _=>Q .normal s'):AWp P w0 U0 nt (.region id l.toArray false) Q s:=
 fun M a w hs=>wpIn_region_lit (a7n (M:=M) h (fun s' t' a w h1 h2=>⟨a,rfl,s',h1,h2⟩) a w hs)
def C6 (L:Nat→Bool):Nat→List AS→AS→AS
 | _,[],s=>s
 | i,e::es,s=>C6 L (i+1) es (bif L i then e++s else s)
def wr (e:AS) (k:Nat):Prop:=∃ av,(k,av)∈e
theorem G4:∀ (e s:AS) (k:Nat),(look (e++s) k=look e k∧wr e k)∨(look (e++s) k=look s k∧¬ wr e k)
 | [],s,k => .inr ⟨rfl,fun ⟨av,h⟩=>by cases h⟩
 | (d,x)::e,s,k=>by
  by_cases h:d=k
  ·subst h
   exact .inl ⟨by rw [List.cons_append,lS,lS],x,by simp⟩
  ·rw [List.cons_append,lN h,lN h]
   rcases G4 e s k with ⟨h1,av,h2⟩ | ⟨h1,h2⟩
   ·exact .inl ⟨h1,av,List.mem_cons_of_mem _ h2⟩
   ·refine .inr ⟨h1,fun ⟨av,h3⟩=>?_⟩
    rcases List.mem_cons.1 h3 with h4 | h4
    ·cases h4;exact h rfl
    ·exact h2 ⟨av,h4⟩
theorem a2h {e s s':AS} {k:Nat} (h:look s k=look s' k):look (e++s) k=look (e++s') k:=by
 rcases G4 e s k with ⟨h1,h2⟩ | ⟨h1,h2⟩
 ·rcases G4 e s' k with ⟨h3,h4⟩ | ⟨h3,h4⟩
  ·rw [h1,h3]
  ·exact absurd h2 h4
 ·rcases G4 e s' k with ⟨h3,h4⟩ | ⟨h3,h4⟩
  ·exact absurd h4 h2
  ·rw [h1,h3,h]
theorem H9 {L L':Nat→Bool} {k:Nat}:∀ {es:List AS} {i:Nat} {s s':AS},(∀ j e,es[j]?=some e→wr e k→L (i+j)=L' (i+j))→look s k=look s' k→look (C6 L i es s) k=look (C6 L' i es s') k
 | [],_,_,_,_,h=>h
 | e::es,i,s,s',h,hs=>by
  refine H9 (es:=es) (i:=i+1) (fun j e' hj hw=>?_) ?_
  ·have:=h (j+1) e' (by simpa using hj) hw
   rwa [show i+(j+1)=i+1+j by omega] at this
  ·have h0:wr e k→L i=L' i:=fun hw=>by simpa using h 0 e rfl hw
   by_cases hw:wr e k
   ·rw [h0 hw]
    cases L' i with
    | true=>exact a2h hs
    | false=>exact hs
   ·have hne:∀ s:AS,look (e++s) k=look s k:=fun s=>by
     rcases G4 e s k with ⟨_,h2⟩ | ⟨h1,_⟩
     ·exact absurd h2 hw
     ·exact h1
    cases L i<;>cases L' i<;>simp only [cond_true,cond_false,hne]<;>exact hs
theorem a7G {L:Nat→Bool}:∀ {es:List AS} {i:Nat} {s:AS} {p:Nat×AV},p∈C6 L i es s→p∈s∨∃ j e,es[j]?=some e∧L (i+j)=true∧p∈e
 | [],_,_,_,h => .inl h
 | e::es,i,s,p,h=>by
  rcases a7G (es:=es) (i:=i+1) h with h1 | ⟨j,e',h1,h2,h3⟩
  ·cases hL:L i with
   | true =>
    rw [hL,cond_true,List.mem_append] at h1
    rcases h1 with h1 | h1
    ·exact .inr ⟨0,e,rfl,hL,h1⟩
    ·exact .inl h1
   | false=>rw [hL,cond_false] at h1;exact .inl h1
  ·exact .inr ⟨j+1,e',by simpa using h1,by rw [←h2];congr 1;omega,h3⟩
theorem a0Y {L:Nat→Bool}:∀ {es:List AS} {i:Nat} {s:AS} {p:Nat×AV},p∈s→p∈C6 L i es s
 | [],_,_,_,h=>h
 | e::es,i,s,p,h=>by
  rw [C6]
  refine a0Y ?_
  cases L i with
  | true=>exact List.mem_append_right _ h
  | false=>exact h
theorem a9q {L:Nat→Bool}:∀ {es:List AS} {i j:Nat} {s e:AS} {p:Nat×AV},es[j]?=some e→L (i+j)=true→p∈e→p∈C6 L i es s
 | [],_,_,_,_,_,h,_,_=>by simp at h
 | x::es,i,0,s,e,p,h,hL,hp=>by
  simp at h;subst h
  rw [C6]
  refine a0Y ?_
  rw [show L i=true by simpa using hL]
  exact List.mem_append_left _ hp
 | x::es,i,j+1,s,e,p,h,hL,hp=>by
  rw [C6]
  exact a9q (j:=j) (by simpa using h) (by rw [←hL];congr 1;omega) hp
theorem b0f {L L':Nat→Bool} {i:Nat} {e:AS} (hi:L i=false) (hi':L' i=true) (ho:∀ j,j≠i→L' j=L j):∀ {es:List AS} {m:Nat} {s:AS},m≤i→es[i-m]?=some e→(∀ j e',es[j]?=some e'→i<m+j→L (m+j)=true→∀ k,wr e k→¬ wr e' k)→∀ k,look (C6 L' m es s) k=look (e++C6 L m es s) k
 | [],m,s,_,h,_,k=>by simp at h
 | e0::es,m,s,hm,h,hw,k=>by
  by_cases hmi:m=i
  ·subst hmi
   simp only [Nat.sub_self,List.getElem?_cons_zero,Option.some.injEq] at h
   subst h
   rw [C6,C6,hi,hi',cond_true,cond_false]
   have e1:look (C6 L' (m+1) es (e0++s)) k=look (C6 L (m+1) es (e0++s)) k:=H9 (fun j e' hj _=>ho _ (by omega)) rfl
   rw [e1]
   rcases G4 e0 (C6 L (m+1) es s) k with ⟨h1,h2⟩ | ⟨h1,h2⟩
   ·rw [h1]
    have e2:look (C6 L (m+1) es (e0++s)) k=look (C6 (fun _=>false) (m+1) es (e0++s)) k:=H9 (fun j e' hj hwr=>by
     cases hL:L (m+1+j) with
     | false=>rfl
     | true=>exact absurd hwr (hw (j+1) e' (by simpa using hj) (by omega) (by rw [←hL];congr 1;omega) k h2)) rfl
    rw [e2]
    have e3:∀ (es:List AS) (m:Nat) (s:AS),C6 (fun _=>false) m es s=s:=by
     intro es
     induction es with
     | nil=>intro m s;rfl
     | cons e es ih=>intro m s;rw [C6];exact ih _ _
    rw [e3]
    rcases G4 e0 s k with ⟨h3,_⟩ | ⟨_,h4⟩
    ·exact h3
    ·exact absurd h2 h4
   ·rw [h1]
    refine H9 (fun j e' hj _=>rfl) ?_
    rcases G4 e0 s k with ⟨_,h4⟩ | ⟨h3,_⟩
    ·exact absurd h4 h2
    ·exact h3
  ·rw [C6,C6,ho m hmi]
   refine b0f hi hi' ho (es:=es) (m:=m+1) (by omega) ?_ (fun j e' hj h1 h2=>hw (j+1) e' (by simpa using hj) (by omega) (by rw [←h2];congr 1;omega)) k
   rw [show i-m=(i-(m+1))+1 by omega] at h
   simpa using h
def msk (ms:List Nat):List Edge→Nat
 | []=>0
 | e::es=>(bif Region.binds .any e then (2 ^ e.on) ||| ms.getD e.on 0 else 0) ||| msk ms es
def b4F:List Oper→List Nat→List Nat
 | [],ms=>ms
 | o::os,ms=>b4F os (ms++[msk ms o.after.toList])
theorem b0k {ms:List Nat} {i:Nat}:∀ {es:List Edge},(msk ms es).testBit i=true→∃ e∈es,Region.binds .any e=true∧(e.on=i∨(ms.getD e.on 0).testBit i=true)
 | [],h=>by simp [msk] at h
 | e::es,h=>by
  rw [msk,Nat.testBit_or,Bool.or_eq_true] at h
  rcases h with h | h
  ·cases hb:Region.binds .any e with
   | false=>rw [hb] at h;simp at h
   | true =>
    rw [hb,cond_true,Nat.testBit_or,Bool.or_eq_true,Nat.testBit_two_pow] at h
    refine ⟨e,by simp,hb,h.imp (fun h=>by simpa using h) id⟩
  ·obtain ⟨e',h1,h2⟩:=b0k h
   exact ⟨e',List.mem_cons_of_mem _ h1,h2⟩
theorem O1 {L:Nat→Bool} {all:List Oper} (hL:∀ (j:Nat) (o:Oper),all[j]?=some o→L j=true→∀ e∈o.after,Region.binds .any e=true→L e.on=true):∀ {l:List Oper} {ms:List Nat},(∀ j o,l[j]?=some o→all[ms.length+j]?=some o)→(∀ (j m i:Nat),ms[j]?=some m→m.testBit i=true→L j=true→L i=true)→∀ (j m i:Nat),(b4F l ms)[j]?=some m→m.testBit i=true→L j=true→L i=true
 | [],ms,_,h=>h
 | o::os,ms,ha,h=>by
  refine O1 hL (l:=os) (ms:=ms++[msk ms o.after.toList]) (fun j o' hj=>?_) (fun j m i hj hb hl=>?_)
  ·have:=ha (j+1) o' (by simpa using hj)
   simpa [Nat.add_assoc,Nat.add_comm 1 j] using this
  ·rw [List.getElem?_append] at hj
   split at hj
   ·exact h j m i hj hb hl
   ·rename_i hlt
    have hj0:j=ms.length:=by
     rcases Nat.lt_or_ge 0 (j-ms.length) with h1 | h1
     ·rw [List.getElem?_eq_none (by simp;omega)] at hj;cases hj
     ·omega
    subst hj0
    simp at hj
    subst hj
    obtain ⟨e,h1,h2,h3⟩:=b0k hb
    have hLe:=hL ms.length o (by simpa using ha 0 o rfl) hl e (by simpa using h1) h2
    rcases h3 with h3 | h3
    ·rw [←h3];exact hLe
    ·cases hm:ms[e.on]? with
     | none=>rw [List.getD_eq_getElem?_getD,hm] at h3;simp at h3
     | some m' =>
      rw [List.getD_eq_getElem?_getD,hm] at h3
      exact h e.on m' i hm h3 hLe
abbrev TrL:=List (List Nat×List (Nat×List Nat)×AS)
def b7L (l m:List Nat):Bool:=l.any fun n=>o9 m n
theorem a5B {l m:List Nat} {n:Nat} (h1:n∈l) (h2:n∈m):b7L l m=true:=List.any_eq_true.2 ⟨n,h1,v7 h2⟩
def kO (e:AS):List Nat:=e.map (·.1)
def b6w (N:List (Nat×List Nat)) (e:AS):Bool:=N.any fun q=>e.any fun p=>b3Z q p
def U3 (a b:List Nat×List (Nat×List Nat)×AS):Bool:=b7L (kO a.2.2) (b.1++kO b.2.2)||b7L (kO b.2.2) a.1||b6w a.2.1 b.2.2
def b3X (t:List Nat×List (Nat×List Nat)×AS) (i:Nat):TrL→List Nat→Bool
 | [],_=>true
 | u::us,m::ms=>(!U3 t u||m.testBit i)&&b3X t i us ms
 | _::_,[]=>false
def chk:TrL→List Nat→Nat→Bool
 | [],_,_=>true
 | t::ts,m::ms,i=>b3X t i ts ms&&chk ts ms (i+1)
 | _::_,[],_=>false
theorem a4m {t:List Nat×List (Nat×List Nat)×AS} {i:Nat}:∀ {us:TrL} {ms:List Nat},b3X t i us ms=true→∀ (j:Nat) (u:List Nat×List (Nat×List Nat)×AS),us[j]?=some u→U3 t u=true→∃ m:Nat,ms[j]?=some m∧m.testBit i=true
 | [],_,_,j,u,hj,_=>by simp at hj
 | u::us,[],h,_,_,_,_=>by simp [b3X] at h
 | u::us,m::ms,h,0,u',hj,hc=>by
  simp at hj;subst hj
  rw [b3X,Bool.and_eq_true,hc] at h
  exact ⟨m,rfl,by simpa using h.1⟩
 | u::us,m::ms,h,j+1,u',hj,hc=>by
  rw [b3X,Bool.and_eq_true] at h
  obtain ⟨m',h1,h2⟩:=a4m h.2 j u' (by simpa using hj) hc
  exact ⟨m',by simpa using h1,h2⟩
theorem a3n:∀ {tr:TrL} {ms:List Nat} {b:Nat},chk tr ms b=true→∀ (i j:Nat) (t u:List Nat×List (Nat×List Nat)×AS),i<j→tr[i]?=some t→tr[j]?=some u→U3 t u=true→∃ m:Nat,ms[j]?=some m∧m.testBit (b+i)=true
 | [],_,_,_,i,_,_,_,_,hi,_,_=>by simp at hi
 | t::ts,[],_,h,_,_,_,_,_,_,_,_=>by simp [chk] at h
 | t::ts,m::ms,b,h,0,j,t',u,hij,hi,hj,hc=>by
  simp at hi;subst hi
  rw [chk,Bool.and_eq_true] at h
  obtain ⟨j,rfl⟩:∃ k,j=k+1:=⟨j-1,by omega⟩
  obtain ⟨m',h1,h2⟩:=a4m h.1 j u (by simpa using hj) hc
  exact ⟨m',by simpa using h1,h2⟩
 | t::ts,m::ms,b,h,i+1,j,t',u,hij,hi,hj,hc=>by
  rw [chk,Bool.and_eq_true] at h
  obtain ⟨j,rfl⟩:∃ k,j=k+1:=⟨j-1,by omega⟩
  obtain ⟨m',h1,h2⟩:=a3n h.2 i j t' u (by omega) (by simpa using hi) (by simpa using hj) hc
  exact ⟨m',by simpa using h1,by rw [←h2];congr 1;omega⟩
def a2D (s:AS) (tr:TrL) (i:Nat):AS:=C6 (fun j=>decide (j<i)) 0 (tr.map (·.2.2)) s
theorem a6O {L L':Nat→Bool}:∀ {es:List AS} {i:Nat} {s:AS},(∀ j,j<es.length→L (i+j)=L' (i+j))→C6 L i es s=C6 L' i es s
 | [],_,_,_=>rfl
 | e::es,i,s,h=>by
  rw [C6,C6,show L i=L' i by simpa using h 0 (by simp)]
  exact a6O fun j hj=>by have:=h (j+1) (by simp;omega);rwa [show i+(j+1)=i+1+j by omega] at this
theorem a1r {L:Nat→Bool}:∀ {es:List AS} {i:Nat} {s:AS},(∀ j,j<es.length→L (i+j)=false)→C6 L i es s=s
 | [],_,_,_=>rfl
 | e::es,i,s,h=>by
  rw [C6,show L i=false by simpa using h 0 (by simp)]
  exact a1r fun j hj=>by have:=h (j+1) (by simp;omega);rwa [show i+(j+1)=i+1+j by omega] at this
theorem a4U {ops:Array Oper}:∀ {l:List Oper} {s:AS} {acc:TrL} {K:AS→TrL→Prop},Run P w0 U0 nt ops l s acc K→∃ tr:TrL,tr.length=l.length∧K (a2D s tr tr.length) (acc++tr)∧∀ i o t,l[i]?=some o→tr[i]?=some t→AOp P w0 U0 nt ops o t.1 t.2.1 (look (a2D s tr i)) t.2.2∧D1 (a2D s tr i) t.2.1=true
 | [],s,acc,K,h=>⟨[],rfl,by rw [List.append_nil];exact h,fun i o t hi=>by simp at hi⟩
 | o::os,s,acc,K,⟨R,N,e,h1,h2,h3⟩=>by
  obtain ⟨tr,g1,g2,g3⟩:=a4U h3
  have hst:∀ i,a2D s ((R,N,e)::tr) (i+1)=a2D (e++s) tr i:=fun i=>by
   unfold a2D
   rw [List.map_cons,C6]
   simp only [Nat.zero_lt_succ,decide_true,cond_true,Nat.zero_add]
   have hsh:∀ (es:List AS) (b:Nat) (s:AS),C6 (fun j=>decide (j<i+1)) (b+1) es s=C6 (fun j=>decide (j<i)) b es s:=by
    intro es
    induction es with
    | nil=>intro b s;rfl
    | cons e es ih =>
     intro b s
     rw [C6,C6,ih]
     congr 1
     have:decide (b+1<i+1)=decide (b<i):=by simp
     rw [this]
   exact hsh _ 0 _
  refine ⟨(R,N,e)::tr,by simp [g1],?_,fun i o' t hi ht=>?_⟩
  ·rw [List.length_cons,hst]
   rw [List.append_assoc,List.singleton_append] at g2
   exact g2
  ·cases i with
   | zero =>
    simp at hi ht
    subst hi;subst ht
    have:a2D s ((R,N,e)::tr) 0=s:=a1r fun j _=>by simp
    rw [this]
    exact ⟨h1,h2⟩
   | succ i =>
    rw [hst]
    exact g3 i o' t (by simpa using hi) (by simpa using ht)
end
section
variable {P:Program} {M:Md} {ops:Array Oper} {Q:Exit→Act→World→Prop} {md:Region.Mode}
def a4e (listed:Array Bool):Nat:=listed.toList.countP (fun b=>!b)
theorem b1d {listed:Array Bool} {i:Nat} (h:listed.getD i true=false):a4e (listed.setIfInBounds i true)+1=a4e listed:=by
 have hlt:i<listed.size:=by
  rcases Nat.lt_or_ge i listed.size with h1 | h1
  ·exact h1
  ·simp [Array.getD,Nat.not_lt.2 h1] at h
 have hi:listed.toList[i]'(by simpa using hlt)=false:=by simpa [Array.getD,hlt] using h
 unfold a4e
 rw [Array.toList_setIfInBounds,List.countP_set (by simpa using hlt)]
 have hpos:0<listed.toList.countP (fun b=>!b):=List.countP_pos_iff.2 ⟨_,List.getElem_mem (by simpa using hlt),by simp [hi]⟩
 rw [hi]
 simp only [Bool.not_false,Bool.not_true,if_true,Bool.false_eq_true,if_false]
 omega
theorem a8E {listed:Array Bool} (h:a4e listed=0) {i:Nat} (hi:i<listed.size):listed.getD i true=true:=by
 unfold a4e at h
 rw [List.countP_eq_zero] at h
 have:=h (listed.toList[i]'(by simpa using hi)) (List.getElem_mem _)
 simpa [Array.getD,hi] using this
theorem a8W (I:Array Bool→Act→World→Prop) (hord:∀ (i:Nat) (o:Oper),ops[i]?=some o→∀ e∈o.after,Region.binds md e=true→e.on<i) (hsz:∀ listed a w,I listed a w→listed.size=ops.size)
  (hstep:∀ (listed:Array Bool) (a:Act) (w:World) (i:Nat) (o:Oper),I listed a w→ops[i]?=some o→listed.getD i true=false→(∀ e∈o.after,Region.binds md e=true→listed.getD e.on false=true)→W7 P M ops Q i (I (listed.setIfInBounds i true)) a w)
  (hdone:∀ listed a w,I listed a w→(∀ i,i<ops.size→listed.getD i true=true)→Q .normal a w) :
  ∀ (fuel:Nat) (listed:Array Bool) (a:Act) (w:World),I listed a w→a4e listed≤fuel→a3f P M md ops Q fuel listed a w:=by
 have hready:∀ listed a w,I listed a w→Region.ready md ops listed=[]→Q .normal a w:=by
  intro listed a w hI hr
  refine hdone listed a w hI ?_
  intro i
  induction i using Nat.strongRecOn with
  | ind i ih =>
   intro hi
   rcases hb:listed.getD i true with _ | _
   ·exfalso
    have hm:i∈Region.ready md ops listed:=by
     refine mem_ready.2 ⟨hb,ops[i],Array.getElem?_eq_getElem hi,fun e he hbd=>?_⟩
     have hlt:=hord i _ (Array.getElem?_eq_getElem hi) e he hbd
     have h1:=ih e.on hlt (by omega)
     have hs:=hsz listed a w hI
     have h2:e.on<listed.size:=by omega
     simpa [Array.getD,h2] using h1
    rw [hr] at hm
    cases hm
   ·rfl
 intro fuel
 induction fuel with
 | zero =>
  intro listed a w hI hl
  have hr:Region.ready md ops listed=[]:=by
   rw [List.eq_nil_iff_forall_not_mem]
   intro i hi
   obtain ⟨h1,o,ho,_⟩:=mem_ready.1 hi
   have h2:=a8E (Nat.le_zero.1 hl) (i:=i) (by have:=hsz listed a w hI;have:=(Array.getElem?_eq_some_iff.1 ho).1;omega)
   rw [h1] at h2
   cases h2
  exact ⟨hr,hready listed a w hI hr⟩
 | succ fuel ih =>
  intro listed a w hI hl
  refine ⟨hready listed a w hI,fun i hi=>?_⟩
  obtain ⟨h1,o,ho,h2⟩:=mem_ready.1 hi
  refine a1N (fun a' w' h'=>ih _ _ _ h' ?_) (hstep listed a w i o hI ho h1 h2)
  have:=b1d h1
  omega
end
def b5H:List Oper→Nat→Bool
 | [],_=>true
 | o::os,i=>(o.after.toList.all fun e=>!Region.binds .any e||Nat.blt e.on i)&&b5H os (i+1)
theorem a4z:∀ {l:List Oper} {b:Nat},b5H l b=true→∀ i o,l[i]?=some o→∀ e∈o.after,Region.binds .any e=true→e.on<b+i
 | [],_,_,i,o,hi=>by simp at hi
 | x::l,b,h,0,o,hi=>by
  simp at hi;subst hi
  rw [b5H,Bool.and_eq_true,List.all_eq_true] at h
  intro e he hb
  have h2:=h.1 e (by simpa using he)
  rw [hb,Bool.not_true,Bool.false_or] at h2
  have:=bL h2
  omega
 | x::l,b,h,i+1,o,hi=>by
  rw [b5H,Bool.and_eq_true] at h
  intro e he hb
  have:=a4z h.2 i o (by simpa using hi) e he hb
  omega
section
variable {P:Program} {w0:World} {U0:UX} {nt:Nat}
theorem Sim.congr {s s':AS} {a:Act} {w:World} (h:Sim w0 U0 nt s a w) (he:∀ k,look s' k=look s k):Sim w0 U0 nt s' a w:=by
 obtain ⟨D,hv,h⟩:=h
 exact ⟨D,hv,h.congr he⟩
theorem a0B {listed:Array Bool} {i j:Nat} (b:Bool) (hj:j≠i):(listed.setIfInBounds i true).getD j b=listed.getD j b:=by
 simp [Array.getD_eq_getD_getElem?,Array.getElem?_setIfInBounds,Ne.symm hj]
theorem O7 {listed:Array Bool} {i:Nat} (hi:i<listed.size) (b c:Bool):listed.getD i b=listed.getD i c:=by
 simp [Array.getD,hi]
theorem aD {id:Nat} {l:List Oper} {Q:Exit→AS→Prop} {s:AS} (hm:P.follows .mixedOrders=true) (hord:b5H l 0=true) (h:Run P w0 U0 nt l.toArray l s [] fun s' tr=>chk tr (b4F l []) 0=true∧Q .normal s'):AWp P w0 U0 nt (.region id l.toArray true) Q s:=by
 intro M a w hs
 obtain ⟨tr,hlen,⟨hchk,hQ⟩,hop⟩:=a4U h
 rw [List.nil_append] at hchk
 refine a3X hm ?_
 obtain ⟨es,hes⟩:∃ es:List AS,es=tr.map (·.2.2):=⟨_,rfl⟩
 have hel:es.length=l.length:=by rw [hes,List.length_map,hlen]
 have hdrew:Sim w0 U0 nt s a { w with drawn:=w.drawn+1 }:=by
  obtain ⟨D,hv,hG⟩:=hs
  exact ⟨D,hv,hG.grow' (Below.drew (Below.refl _ _))⟩
 let LL:Array Bool→Nat→Bool:=fun listed i=>listed.getD i false
 let Cl:Array Bool→Prop:=fun listed=>∀ (j:Nat) (o:Oper),l[j]?=some o→LL listed j=true→∀ e∈o.after,Region.binds .any e=true→LL listed e.on=true
 refine a8W (M:=M) (md := .any) (fun listed b w=>∃ a,b=wdA a M.ds∧listed.size=l.toArray.size∧Cl listed∧Sim w0 U0 nt (C6 (LL listed) 0 es s) a w) (fun i o ho e he hb=>?_) (fun _ _ _ ⟨_,_,h⟩=>h.1) ?_ ?_ _ _ _ _ ⟨a,rfl,by simp,?_,?_⟩ ?_
 ·rw [List.getElem?_toArray] at ho
  have:=a4z hord i o ho e he hb
  omega
 ·rintro listed _ w i o ⟨a,rfl,h1,h2,h3⟩ ho hl hr
  rw [List.getElem?_toArray] at ho
  have hil:i<l.length:=by
   rcases Nat.lt_or_ge i l.length with h | h
   ·exact h
   ·rw [List.getElem?_eq_none h] at ho;cases ho
  have hsz:listed.size=l.length:=by rw [h1];simp
  obtain ⟨t,ht⟩:∃ t,tr[i]?=some t:=⟨tr[i]'(by omega),List.getElem?_eq_getElem (by omega)⟩
  have hei:es[i]?=some t.2.2:=by rw [hes,List.getElem?_map,ht];rfl
  have hLi:LL listed i=false:=by show listed.getD i false=false;rw [O7 (by omega) false true];exact hl
  have hmask:=O1 (L:=LL listed) (all:=l) h2 (l:=l) (ms:=[]) (fun j o hj=>by simpa using hj) (fun j m i hj=>by simp at hj)
  have hcl':Cl (listed.setIfInBounds i true):=fun j o' hj hLj e he hb=>by
   have hset:∀ q,LL listed q=true→LL (listed.setIfInBounds i true) q=true:=fun q hq=>by
    by_cases hqi:q=i
    ·subst hqi;rw [hLi] at hq;cases hq
    ·show (listed.setIfInBounds i true).getD q false=true
     rw [a0B false hqi];exact hq
   by_cases hji:j=i
   ·subst hji
    rw [ho] at hj
    cases hj
    exact hset _ (hr e he hb)
   ·refine hset _ (h2 j o' hj ?_ e he hb)
    have hLj:(listed.setIfInBounds i true).getD j false=true:=hLj
    rw [a0B false hji] at hLj
    exact hLj
  have hmask':=O1 (L:=LL (listed.setIfInBounds i true)) (all:=l) hcl' (l:=l) (ms:=[]) (fun j o hj=>by simpa using hj) (fun j m i hj=>by simp at hj)
  have hon:LL (listed.setIfInBounds i true) i=true:=by
   show (listed.setIfInBounds i true).getD i false=true
   simp [Array.getD_eq_getD_getElem?,hsz,hil]
  have hahead:∀ j u,tr[j]?=some u→j<i→U3 u t=true→LL listed j=true:=fun j u hj hji hc=>by
   obtain ⟨m,g1,g2⟩:=a3n hchk j i u t hji hj ht hc
   have g3:(listed.setIfInBounds i true).getD j false=true:=hmask' i m j g1 (by simpa using g2) hon
   rw [a0B false (by omega)] at g3
   exact g3
  have hbehind:∀ j u,tr[j]?=some u→i<j→U3 t u=true→LL listed j=false:=fun j u hj hji hc=>by
   obtain ⟨m,g1,g2⟩:=a3n hchk i j t u hji ht hj hc
   cases hL:LL listed j with
   | false=>rfl
   | true =>
    have:=hmask j m i g1 (by simpa using g2) hL
    rw [hLi] at this
    cases this
  obtain ⟨hA,hN⟩:=hop i o t ho ht
  have hstate:∀ k∈t.1,look (C6 (LL listed) 0 es s) k=look (a2D s tr i) k:=fun k hk=>by
   unfold a2D
   rw [←hes]
   refine H9 (fun j e' hj hw=>?_) rfl
   rw [Nat.zero_add]
   rw [hes,List.getElem?_map] at hj
   cases htj:tr[j]? with
   | none=>rw [htj] at hj;cases hj
   | some u =>
    rw [htj] at hj
    cases hj
    obtain ⟨av,hav⟩:=hw
    have hkm:k∈kO u.2.2:=List.mem_map.2 ⟨(k,av),hav,rfl⟩
    by_cases hji:j<i
    ·rw [hahead j u htj hji (by unfold U3;rw [a5B hkm (List.mem_append_left _ hk)];rfl)]
     simp [hji]
    ·by_cases hji2:j=i
     ·subst hji2;rw [hLi];simp
     ·rw [hbehind j u htj (by omega) (by unfold U3;rw [a5B hkm hk];simp)]
      simp;omega
  have hnoref:∀ n∈t.2.1,NoRefE (C6 (LL listed) 0 es s) n:=fun n hn k av hk hex=>Decidable.byContradiction fun e=>by
   have hall:∀ p∈a2D s tr i,o9 n.2 p.1=false→p.2.n≠n.1∧fnm p.1≠n.1∧fnm p.1+1000000≠n.1:=fun p hp he=>by
    unfold D1 at hN
    rw [List.all_eq_true] at hN
    have g1:=hN p hp
    rw [List.all_eq_true] at g1
    have g2:=g1 n hn
    simp only [Bool.not_eq_true'] at g2
    exact a9A g2 he
   rcases a7G (C7 hk) with g1 | ⟨j,e',g1,g2,g3⟩
   ·exact e (hall _ (a0Y g1) hex)
   ·rw [Nat.zero_add] at g2
    rw [hes,List.getElem?_map] at g1
    cases htj:tr[j]? with
    | none=>rw [htj] at g1;cases g1
    | some u =>
     rw [htj] at g1
     cases g1
     by_cases hji:j<i
     ·refine e (hall (k,av) ?_ hex)
      unfold a2D
      exact a9q (j:=j) (by rw [List.getElem?_map,htj];rfl) (by simp [hji]) g3
     ·by_cases hji2:j=i
      ·subst hji2;rw [hLi] at g2;cases g2
      ·have hc:U3 t u=true:=by
        have hm2:b6w t.2.1 u.2.2=true:=List.any_eq_true.2 ⟨n,hn,List.any_eq_true.2 ⟨(k,av),g3,b3r hex e⟩⟩
        unfold U3
        rw [hm2]
        simp
       rw [hbehind j u htj (by omega) hc] at g2
       cases g2
  have:=a9n (M:=M) (Q:=a4g M fun e a' w'=>∃ s',Q e s'∧Sim w0 U0 nt s' a' w') (hA _ hstate hnoref) h3 (K:=fun b w=>∃ a,b=wdA a M.ds∧(listed.setIfInBounds i true).size=l.toArray.size∧Cl (listed.setIfInBounds i true)∧Sim w0 U0 nt (C6 (LL (listed.setIfInBounds i true)) 0 es s) a w) (fun a' w' hs'=>⟨a',rfl,by simpa using h1,?_,?_⟩)
  ·unfold W7
   rw [List.getElem?_toArray,ho]
   exact this
  ·exact hcl'
  ·refine hs'.congr fun k=>?_
   refine b0f hLi hon (fun j hj=>a0B false hj) (Nat.zero_le _) (by simpa using hei) (fun j e' hj hlt hL k hw hw'=>?_) k
   rw [Nat.zero_add] at hlt hL
   rw [hes,List.getElem?_map] at hj
   cases htj:tr[j]? with
   | none=>rw [htj] at hj;cases hj
   | some u =>
    rw [htj] at hj
    cases hj
    obtain ⟨av,hav⟩:=hw
    obtain ⟨av',hav'⟩:=hw'
    have hc:U3 t u=true:=by
     have hm1:k∈kO t.2.2:=List.mem_map.2 ⟨(k,av),hav,rfl⟩
     have hm2:k∈kO u.2.2:=List.mem_map.2 ⟨(k,av'),hav',rfl⟩
     unfold U3
     rw [a5B hm1 (List.mem_append_right _ hm2)]
     rfl
    rw [hbehind j u htj hlt hc] at hL
    cases hL
 ·rintro listed _ w ⟨a,rfl,h1,h2,h3⟩ hall
  refine ⟨a,rfl,a2D s tr tr.length,hQ,?_⟩
  have:C6 (LL listed) 0 es s=a2D s tr tr.length:=by
   unfold a2D
   rw [←hes]
   refine a6O fun j hj=>?_
   have hjl:j<l.length:=by omega
   have g1:=hall j (by simpa using hjl)
   show listed.getD (0+j) false=_
   rw [Nat.zero_add,O7 (by rw [h1];simpa using hjl) false true,g1]
   simp;omega
  rw [←this]
  exact h3
 ·intro j o hj hL
  have hL:(Array.replicate l.toArray.size false).getD j false=true:=hL
  simp [Array.getD_eq_getD_getElem?] at hL
  cases hx:(Array.replicate l.length false)[j]? with
  | none=>rw [hx] at hL;cases hL
  | some b =>
   rw [hx] at hL
   rw [Array.getElem?_replicate] at hx
   split at hx
   ·cases hx;cases hL
   ·cases hx
 ·have:C6 (LL (Array.replicate l.toArray.size false)) 0 es s=s:=a1r fun j hj=>by
   show (Array.replicate l.toArray.size false).getD (0+j) false=false
   simp only [Array.getD_eq_getD_getElem?,Array.getElem?_replicate]
   split<;>rfl
  rw [this]
  exact hdrew
 ·unfold a4e
  refine Nat.le_trans List.countP_le_length ?_
  simp
end
section
variable {P:Program} {w0:World} {U0:UX} {nt:Nat} {Q:Exit→AS→Prop} {s:AS}
def Wk (w0:World) (U0:UX) (nt:Nat) (s s':AS):Prop:=∀ a w,Sim w0 U0 nt s a w→Sim w0 U0 nt s' a w
theorem Wk.refl (s:AS):Wk w0 U0 nt s s:=fun _ _ h=>h
theorem Wk.trans {s s' s'':AS} (h:Wk w0 U0 nt s s') (h2:Wk w0 U0 nt s' s''):Wk w0 U0 nt s s'':=fun a w h3=>h2 a w (h a w h3)
theorem AWp.wk {c:Code} {s s':AS} (h:Wk w0 U0 nt s s') (h2:AWp P w0 U0 nt c Q s'):AWp P w0 U0 nt c Q s:=fun M a w hs=>h2 M a w (h a w hs)
def SubL (s:AS):AS→Prop
 | []=>True
 | (k,av)::s'=>look s k=some av∧SubL s s'
theorem SubL.sub {s:AS}:∀ {s':AS},SubL s s'→Sub s s'
 | [],_,k,av,h=>by simp [look] at h
 | (k',av')::s',⟨h1,h2⟩,k,av,h=>by
  rw [r7] at h
  split at h
  ·rename_i e;subst e;cases h;exact h1
  ·exact SubL.sub h2 k av h
theorem a7 {s s':AS} (h:SubL s s'):Wk w0 U0 nt s s':=fun a w hs=>hs.sub h.sub
theorem aK (h:Q .normal s):AWp P w0 U0 nt .skip Q s:=fun M a w hs=>b6k ⟨s,h,hs⟩
theorem aT (h:Q .ret s):AWp P w0 U0 nt .ret Q s:=fun M a w hs=>b7e ⟨s,h,hs⟩
theorem aE {id:Nat} (h:Q (.exit id) s):AWp P w0 U0 nt (.exit id) Q s:=fun M a w hs=>b6d ⟨s,h,hs⟩
def b8v (P:Program) (w0:World) (U0:UX) (nt:Nat) (y:Code) (Q:Exit→AS→Prop):Exit→AS→Prop
 | .normal,s=>AWp P w0 U0 nt y Q s
 | e,s=>Q e s
theorem aS {x y:Code} (h:AWp P w0 U0 nt x (b8v P w0 U0 nt y Q) s):AWp P w0 U0 nt (.seq x y) Q s:=fun M a w hs =>
 b4p (F0 (h M a w hs) fun e a' w' ⟨s',h1,h2⟩=>by
  cases e with
  | normal=>exact h1 M a' w' h2
  | _=>exact ⟨s',h1,h2⟩)
def b9o (w0:World) (U0:UX) (nt:Nat) (st:AS) (Q:Exit→AS→Prop):Exit→AS→Prop
 | .normal,s=>Wk w0 U0 nt s st
 | e,s=>Q e s
theorem b5j {x y:Code} (st:AS) (hx:AWp P w0 U0 nt x (b9o w0 U0 nt st Q) s) (hy:AWp P w0 U0 nt y Q st):AWp P w0 U0 nt (.seq x y) Q s:=
 aS fun M a w hs=>F0 (hx M a w hs) fun e a' w' ⟨s',h1,h2⟩=>by
  cases e with
  | normal=>exact ⟨st,hy,h1 a' w' h2⟩
  | _=>exact ⟨s',h1,h2⟩
def X0 (id:Nat) (Q:Exit→AS→Prop):Exit→AS→Prop
 | .exit id',s=>match Nat.beq id' id with | true=>Q .normal s | false=>Q (.exit id') s
 | e,s=>Q e s
theorem aB {id:Nat} {c:Code} (h:AWp P w0 U0 nt c (X0 id Q) s):AWp P w0 U0 nt (.block id c) Q s:=fun M a w hs =>
 a7u (F0 (h M a w hs) fun e a' w' ⟨s',h1,h2⟩=>by
  cases e with
  | exit id' =>
   by_cases e:id'=id
   ·subst e
    simp only [X0,Nat.beq_refl] at h1
    simp only [Exit.inBlock,if_true]
    exact ⟨s',h1,h2⟩
   ·have:Nat.beq id' id=false:=by
     cases hb:Nat.beq id' id with
     | false=>rfl
     | true=>exact absurd (Nat.eq_of_beq_eq_true hb) e
    simp only [X0,this] at h1
    simp only [Exit.inBlock,if_neg e]
    exact ⟨s',h1,h2⟩
  | _=>exact ⟨s',h1,h2⟩)
theorem aC {c:Operand} {x y:Code} {b:Bool} {n q p} (hc:ev (look s) c=some ⟨0,.b b,n,q,p⟩) (ht:b=true→AWp P w0 U0 nt x Q s) (hf:b=false→AWp P w0 U0 nt y Q s):AWp P w0 U0 nt (.cond c x y) Q s:=fun M a w hs=>by
 obtain ⟨D,hv,h⟩:=hs
 have e:=s6 h (fun k _=>rfl) hc
 cases b with
 | true=>exact a5j e (ht rfl M a w ⟨D,hv,h⟩)
 | false=>exact a3Z e (hf rfl M a w ⟨D,hv,h⟩)
theorem b2e (p:Nat→Prop) (h:∃ n,p n):∃ n,p n∧∀ m,p m→n≤m:=by
 obtain ⟨n,hn⟩:=h
 induction n using Nat.strongRecOn with
 | ind n ih =>
  by_cases hx:∃ m,m<n∧p m
  ·obtain ⟨m,h1,h2⟩:=hx
   exact ih m h1 h2
  ·exact ⟨n,hn,fun m hm=>Nat.le_of_not_lt fun hlt=>hx ⟨m,hlt,hm⟩⟩
def b8w (w0:World) (U0:UX) (nt:Nat) (J:Nat→AS→Prop) (n:Nat) (Q:Exit→AS→Prop):Exit→AS→Prop
 | .normal,s=>∃ m s',m<n∧J m s'∧Wk w0 U0 nt s s'
 | e,s=>Q e s
theorem C9 {c:Code} (J:Nat→AS→Prop) {n:Nat} {s':AS} (hs0:Wk w0 U0 nt s s') (h0:J n s') (hr:∀ n s,J n s→AWp P w0 U0 nt c (b8w w0 U0 nt J n Q) s):AWp P w0 U0 nt (.loop c) Q s:=fun M a w hs=>by
 classical
 let p:Act→World→Nat→Prop:=fun a w n=>∃ s,J n s∧Sim w0 U0 nt s a w
 let μ:Act→World→Nat:=fun a w=>if h:∃ n,p a w n then Classical.choose (b2e _ h) else 0
 have hμ:∀ a w n,p a w n→p a w (μ a w)∧μ a w≤n:=fun a w n hn=>by
  have h:∃ n,p a w n:=⟨n,hn⟩
  have:=Classical.choose_spec (b2e _ h)
  simp only [μ,dif_pos h]
  exact ⟨this.1,this.2 n hn⟩
 refine b0b (fun a w=>∃ n,p a w n) μ ⟨n,s',h0,hs0 a w hs⟩ (fun a w ⟨n,s,h1,h2⟩=>h2.df) ?_
 rintro a w ⟨n,hn⟩
 obtain ⟨⟨s1,h1,h2⟩,_⟩:=hμ a w n hn
 refine F0 (hr _ s1 h1 M a w h2) ?_
 rintro e a' w' ⟨s2,h3,h4⟩
 cases e with
 | normal =>
  obtain ⟨m,s3,h5,h6,h7⟩:=h3
  have:=hμ a' w' m ⟨s3,h6,h7 a' w' h4⟩
  exact ⟨⟨_,this.1⟩,by omega⟩
 | _=>exact ⟨s2,h3,h4⟩
def b7l (w0:World) (U0:UX) (nt:Nat) (st:Nat→AS) (N k:Nat) (Q:Exit→AS→Prop):Exit→AS→Prop
 | .normal,s=>k<N∧Wk w0 U0 nt s (st (k+1))
 | e,s=>Q e s
theorem b9 {c:Code} (N:Nat) (st:Nat→AS) (hs0:Wk w0 U0 nt s (st 0)) (hr:∀ k,k≤N→AWp P w0 U0 nt c (b7l w0 U0 nt st N k Q) (st k)):AWp P w0 U0 nt (.loop c) Q s:=by
 refine C9 (fun n s=>∃ k,k≤N∧n=N-k∧s=st k) (n:=N) hs0 ⟨0,Nat.zero_le _,rfl,rfl⟩ ?_
 rintro n s ⟨k,hk,rfl,rfl⟩ M a w hs
 refine F0 (hr k hk M a w hs) ?_
 rintro e a' w' ⟨s',h1,h2⟩
 cases e with
 | normal=>exact ⟨s',⟨N-(k+1),st (k+1),by have:=h1.1;omega,⟨k+1,h1.1,rfl,rfl⟩,h1.2⟩,h2⟩
 | _=>exact ⟨s',h1,h2⟩
def a9z (w0:World) (U0:UX) (nt:Nat) (I:Nat→Prop) (st:Nat→AS) (N k:Nat) (Q:Exit→AS→Prop):Exit→AS→Prop
 | .normal,s=>k<N∧I (k+1)∧Wk w0 U0 nt s (st (k+1))
 | e,s=>Q e s
theorem p6 {c:Code} (N:Nat) (I:Nat→Prop) (st:Nat→AS) (hs0:Wk w0 U0 nt s (st 0)) (hI:I 0) (hr:∀ k,k≤N→I k→AWp P w0 U0 nt c (a9z w0 U0 nt I st N k Q) (st k)):AWp P w0 U0 nt (.loop c) Q s:=by
 refine C9 (fun n s=>∃ k,k≤N∧I k∧n=N-k∧s=st k) (n:=N) hs0 ⟨0,Nat.zero_le _,hI,rfl,rfl⟩ ?_
 rintro n s ⟨k,hk,hI,rfl,rfl⟩ M a w hs
 refine F0 (hr k hk hI M a w hs) ?_
 rintro e a' w' ⟨s',h1,h2⟩
 cases e with
 | normal=>exact ⟨s',⟨N-(k+1),st (k+1),by have:=h1.1;omega,⟨k+1,h1.1,h1.2.1,rfl,rfl⟩,h1.2.2⟩,h2⟩
 | _=>exact ⟨s',h1,h2⟩
def Z5:List CV→Nat→AS
 | [],_=>[]
 | c::cs,i=>(i,.val c)::Z5 cs (i+1)
theorem H6:∀ {cs:List CV} {i k:Nat} {av:AV},look (Z5 cs i) k=some av→i≤k∧∃ c,cs[k-i]?=some c∧av = .val c
 | [],_,_,_,h=>by simp [Z5,look] at h
 | c::cs,i,k,av,h=>by
  rw [Z5,r7] at h
  split at h
  ·rename_i e;subst e;cases h;exact ⟨Nat.le_refl _,c,by simp,rfl⟩
  ·rename_i e
   obtain ⟨h1,c',h2,h3⟩:=H6 h
   refine ⟨by omega,c',?_,h3⟩
   rw [show k-i=(k-(i+1))+1 by omega]
   simpa using h2
noncomputable def a5U (P:Program) (s:AS):List ResultVar→Option (List CV)
 | []=>some []
 | .tmp t::rs=>match Nat.blt t 100000,look s t,a5U P s rs with
  | true,some ⟨0,c,_,_,_⟩,some cs=>some (c::cs)
  | _,_,_=>none
 | .cell t ty::rs=>match Nat.blt t 100000,look s t,P.underlying ty,P.info? ty,a5U P s rs with
  | true,some ⟨2,_,n,0,[]⟩,some ds,some it,some cs=>match Nat.blt n 400000,look s (100000+n) with
   | true,some ⟨5,c,_,_,_⟩=>match Nat.beq c.size it.size,K1 ds,Nat.beq c.k 2 with
    | true,true,true=>some (c::cs)
    | true,false,false=>some (c::cs)
    | _,_,_=>none
   | _,_=>none
  | _,_,_,_,_=>none
def b4d (tmps:Array Value):ResultVar→Sem Value
 | .tmp t=>pure (tmps.getD t undef)
 | .cell b t=>do loadVar t (←asAddr (tmps.getD b undef))
theorem a2R (fn:Func) (tmps:Array Value):results fn tmps=(do let vs ←fn.results.mapM (b4d tmps);pure (if h:vs.size=1 then vs[0] else .tuple vs)):=by
 unfold results
 congr 1
theorem a1s {a:Act} {w:World} {D:Nat→Nat→Prop} {hv:Nat→Value} (h:SimG w0 U0 nt s a w D hv):∀ {rs:List ResultVar} {cs:List CV},a5U P s rs=some cs→∃ vs:List Value,VReps (Us w0 U0 D) w cs vs∧(rs.mapM (b4d a.tmps)).run P w = .ok vs w
 | [],cs,hr=>by simp [a5U] at hr;subst hr;exact ⟨[],rfl,by simp⟩
 | .tmp t::rs,cs,hr=>by
  unfold a5U at hr
  split at hr
  ·rename_i c n q p cs' h1 h2 h3
   cases hr
   obtain ⟨vs,h4,h5⟩:=a1s h h3
   obtain ⟨v,h6,h7⟩:=h.slot t _ h2 (bL h1)
   refine ⟨v::vs,⟨v,vs,rfl,h7.1,h4⟩,?_⟩
   have:a.tmps.getD t undef=v:=by simp [Array.getD_eq_getD_getElem?,h6]
   simp [List.mapM_cons,b4d,this,h5]
  ·cases hr
 | .cell t ty::rs,cs,hr=>by
  unfold a5U at hr
  split at hr
  ·rename_i c0 n ds it cs' h1 h2 h3 h4 h5
   split at hr
   ·rename_i c n' q p g1 g2
    obtain ⟨vs,h6,h7⟩:=a1s h h5
    obtain ⟨v,h8,h9⟩:=h.slot t _ h2 (bL h1)
    obtain ⟨g,xs,tt,hgv,b1,b2,_⟩:=h.box g2 (bL g1)
    have hv1:v = .pointer (some ⟨o8 (hv (100000+n)),0,none⟩):=h9.2
    have hgb:o8 (hv (100000+n))=g:=by rw [hgv];rfl
    rw [hgb] at hv1
    have hk:K1 ds=Nat.beq c.k 2∧c.size=it.size∧cs=c::cs':=by
     split at hr
     ·rename_i e1 e2 e3;cases hr;exact ⟨by rw [e2,e3],Nat.eq_of_beq_eq_true e1,rfl⟩
     ·rename_i e1 e2 e3;cases hr;exact ⟨by rw [e2,e3],Nat.eq_of_beq_eq_true e1,rfl⟩
     ·cases hr
    obtain ⟨hk1,hk2,rfl⟩:=hk
    obtain ⟨u,l1,l2,_⟩:=q8 (P:=P) (w:=w) h3 (by rw [h4];rfl) hk1 hk2 b2 (b:=g) (off:=0) (fun i hi=>by
     have:=H0 (ys:=[]) (us:=[]) b1 (by simp) i hi
     simpa using this)
    refine ⟨u::vs,⟨u,vs,rfl,l2,h6⟩,?_⟩
    have:a.tmps.getD t undef = .pointer (some ⟨g,0,none⟩):=by simp [Array.getD_eq_getD_getElem?,h8,hv1]
    simp [List.mapM_cons,b4d,this,asAddr,l1,h7]
   ·cases hr
  ·cases hr
def A4:List CV→AV
 | [c] => .val c
 | cs => .tup cs
theorem a2m {a:Act} {w:World} {D:Nat→Nat→Prop} {hv:Nat→Value} (h:SimG w0 U0 nt s a w D hv) {fn:Func} {cs:List CV} (hr:a5U P s fn.results.toList=some cs):∃ v,(results fn a.tmps).run P w = .ok v w∧RR (Us w0 U0 D) w (A4 cs) v:=by
 obtain ⟨vs,h1,h2⟩:=a1s h hr
 have hm:(fn.results.mapM (b4d a.tmps)).run P w = .ok vs.toArray w:=by
  rw [Array.mapM_eq_mapM_toList]
  simp [h2]
 have hlen:=h1.len
 refine ⟨if hv:vs.toArray.size=1 then vs.toArray[0] else .tuple vs.toArray,?_,?_⟩
 ·rw [a2R]
  simp [hm]
 ·match cs,vs,h1,hlen with
  | [c],vs,⟨u,us,e,h3,h4⟩,_ =>
   have h4:us=[]:=h4
   subst h4;subst e
   simpa [A4,RR] using h3
  | [],vs,h1,hlen =>
   have:vs=[]:=h1
   subst this
   exact ⟨[],rfl,rfl⟩
  | c1::c2::cs,vs,h1,hlen =>
   have:vs.toArray.size≠1:=by simp at hlen ⊢;omega
   rw [dif_neg this]
   exact ⟨vs,rfl,h1⟩
theorem T2 {args:List CV} {k:Nat} (hl:args.length≤k):look (Z5 args 0) k=none:=by
 cases h1:look (Z5 args 0) k with
 | none=>rfl
 | some av =>
  obtain ⟨_,c',h3,_⟩:=H6 h1
  rw [Nat.sub_zero,List.getElem?_eq_none hl] at h3
  cases h3
theorem a8 {W : World} {f : FuncId} {fn : Func} {c : Code} {args rs : List CV} (hf : P.funcs[f]? = some fn) (hn : fn.ntmps = nt) (hname : (fn.name == "runtime.NumGoroutine") = false) (hb : fn.body = some c) (hl : Nat.ble args.length nt = true) (hnt : Nat.blt nt 100000 = true)
  (h:∀ (w:World) (U:UX),Hw W w U→AWp P w U nt c (fun e s'=>(e = .normal∨e = .ret)∧a5U P s' fn.results.toList=some rs) (Z5 args 0)):AFun P W f args (A4 rs):=by
 have hr2:((A4 rs).t=0∨(A4 rs).t=4)∧(A4 rs).n=0:=by
  unfold A4
  split
  ·exact ⟨.inl rfl,rfl⟩
  ·exact ⟨.inr rfl,rfl⟩
 refine ⟨r9 hf hname (by rw [hb];rfl),hr2.1,hr2.2,fun U w vs hW hargs=>?_⟩
 have hlen:=hargs.len
 refine calls_of_wp hf hb ?_
 have hle:=Nat.le_of_ble_eq_true hl
 have hnt:=bL hnt
 have hno:∀ {k av},100000≤k→look (Z5 args 0) k=some av→False:=fun {k av} h1 h2=>by rw [T2 (by omega)] at h2;cases h2
 obtain ⟨V,hV⟩:∃ V:UX,V=⟨U,fun _=>False,fun _=>none,fun _ _ h=>by cases h⟩:=⟨_,rfl⟩
 have hs:Sim w V nt (Z5 args 0) { tmps:=vs.toArray++Array.replicate (fn.ntmps-vs.toArray.size) undef,defers:=[] } w:=by
  refine ⟨fun _ _=>False,fun _ => .slice none 0 0,BelowX.refl _ _,rfl,by simp [hn];omega,fun d av h1 h2=>?_,fun n o av h1=>(hno (by unfold c8;omega) h1).elim,fun n o o' av av' h1=>(hno (by unfold c8;omega) h1).elim,fun k av h1 h2=>(hno h2.1 h1).elim,fun k av g h1 h2=>(hno h2.1 h1).elim,fun k k' av av' g h1 h2 h3=>(hno h3.1 h1).elim,fun n g h1=>(by rw [hV] at h1;cases h1),fun b o hd=>hd.elim⟩
  obtain ⟨_,c',h3,rfl⟩:=H6 h1
  rw [Nat.sub_zero] at h3
  obtain ⟨v,h4,h5⟩:=hargs.at h3
  have hdl:d<vs.length:=by
   rcases Nat.lt_or_ge d vs.length with h | h
   ·exact h
   ·rw [List.getElem?_eq_none h] at h4;cases h4
  refine ⟨v,?_,i7 (h5.keep fun b o v hu hc=>⟨.inl ⟨World.block_lt_of_cell? w _ hc,by rw [hV];exact ⟨hu,fun h=>h⟩⟩,hc⟩)⟩
  rw [Array.getElem?_append_left (by simpa using hdl)]
  simpa using h4
 refine wp_mono ((h w V (by rw [hV];exact ⟨fun _=>rfl,fun _ h=>h⟩) ⟨none,[]⟩ _ w hs).wp rfl (fun e a w ⟨s,_,h⟩=>h.df)) ?_
 rintro e a' w' ⟨s',⟨h1,h2⟩,D,hv,h3⟩
 obtain ⟨v,h4,h5⟩:=a2m h3 h2
 have hR:RR (fun b o=>U b o∨w.heap.size≤b) w' (A4 rs) v:=by
  have hk:∀ b o u,Us w V D b o→w'.cell? ⟨b,o,none⟩=some u→(U b o∨w.heap.size≤b)∧w'.cell? ⟨b,o,none⟩=some u:=fun b o u hu hc=>⟨hu.imp (fun h=>by rw [hV] at h;exact h.2.1) fun h=>h.1,hc⟩
  unfold RR at h5 ⊢
  split
  ·rename_i ht
   rw [if_pos ht] at h5
   obtain ⟨vs,h6,h7⟩:=h5
   exact ⟨vs,h6,h7.keep hk⟩
  ·rename_i ht
   rw [if_neg ht] at h5
   exact h5.keep hk
 have hbw:Below w.heap.size w w':=h3.below.below (by rw [hV];exact fun _ h=>h)
 rcases h1 with rfl | rfl
 ·exact ⟨h3.dfr,v,h4,v,rfl,hR,hbw⟩
 ·exact ⟨h3.dfr,v,h4,v,rfl,hR,hbw⟩
end
end Go.Proofs.YtekboofbedakcaaGreat
