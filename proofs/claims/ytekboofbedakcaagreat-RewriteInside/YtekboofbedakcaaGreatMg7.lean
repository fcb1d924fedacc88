/-
 RwFirst RwPut RwTerm ClMath KbRef KbRef2 RwOf AbKind CodeMath CodeLen CodePut CodePutMore RefSame CodeRef CodeAlive CodeReadMath CodeRead CodeUint CodeText CodeBackMath ClBy ClCode ClPut ClGet ClGet2 ClLen TmAlive TmAb6 ClTaut ClA ClB RwRules KbMath3 MtParts MtParts2 MtParts3 RwLess MtAlive MtDoc MtRef MtVs AbZero
-/
import Derived.Test.YtekboofbedakcaaGreatMg6
import Derived.Test.YtekboofbedakcaaGreatMg2
import Derived.Deep.WholeRow
import Derived.Laws.CopyRow
import Derived.Test.YtekboofbedakcaaGreatMg4
import Derived.Test.YtekboofbedakcaaGreatMg3
import Derived.WalkKit
import Derived.Test.YtekboofbedakcaaGreatChecked
import Derived.WalkLawsBesides
import Derived.WalkSpells
import Derived.Test.YtekboofbedakcaaGreatMg1
import Derived.Laws.BitsAllLaws
import Derived.Deep.QuietTactic
import Derived.BigQuiet
import Derived.Laws.BytesArg
import Derived.Test.YtekboofbedakcaaGreatMg5
namespace Go.Proofs.YtekboofbedakcaaGreat
open Go.RowKit
set_option linter.unusedVariables false
set_option linter.unusedSimpArgs false
set_option maxRecDepth 100000
section
variable {P:Program} {ops:Array Oper} {o:Oper} {os:List Oper} {a:Act} {w:World} {Q:Exit→Act→World→Prop} {ro:Option Nat}
theorem L5 (hg:o.guard=none) {v:Value} {w':World} (hnd:∀ c,o.op ≠ .defer c) (he:(execOp a.eval o).run P w = .ok (.value v) w') (h:wpListIn (s9 ro) 1 P ops Q os (a.put o.dst v) w'):wpListIn (s9 ro) 1 P ops Q (o::os) a w:=by
 unfold wpListIn
 rw [if_pos (by simp [Region.wanted,hg])]
 refine ⟨fun _ _=>trivial,?_⟩
 rw [Oper.semAt_eq _ _ _ (fun c hc=>absurd hc (hnd c)),he]
 exact h
theorem I5 (hg:o.guard=none) (hd:o.dst=none) {w':World} (hnd:∀ c,o.op ≠ .defer c) (he:(execOp a.eval o).run P w = .ok .skip w') (h:wpListIn (s9 ro) 1 P ops Q os a w'):wpListIn (s9 ro) 1 P ops Q (o::os) a w:=by
 unfold wpListIn
 rw [if_pos (by simp [Region.wanted,hg])]
 refine ⟨fun _ _=>trivial,?_⟩
 rw [Oper.semAt_eq _ _ _ (fun c hc=>absurd hc (hnd c)),he]
 show wpListIn _ _ _ _ _ _ (a.put o.dst undef) w'
 rw [hd]
 exact h
variable {ρ:Operand→Value}
theorem a5J {ty:TypeId} {x:Operand} {i b off z:Nat} {fs:Array Field} {f:Field} (ho:o.op = .fieldAddr ty x i) (hu:P.underlying ty=some (.struct fs)) (hf:fs[i]?=some f) (hz:(P.info? f.type).map (·.size)=some z) (hz0:Nat.beq z 0=false) (hx:ρ x = .pointer (some ⟨b,off,none⟩)):(execOp ρ o).run P w = .ok (.value (.pointer (some ⟨b,off+f.offset,none⟩))) w:=by
 have hsz:=B4 (P:=P) (w:=w) hz
 have hz1:z≠0:=fun e=>by rw [e] at hz0;cases hz0
 have hadd:=X4 b off f.offset
 simp [execOp,ho,Instr.fieldAt,run_underlying hu,hf,Instr.sureAddr,hx,fieldPlace,hsz,hz1,hadd]
theorem a6d {ty:TypeId} {x:Operand} {b off z:Nat} {ds:TypeDesc} {c:CV} {v:Value} (ho:o.op = .load ty x) (hu:P.underlying ty=some ds) (hi:(P.info? ty).map (·.size)=some z) (hx:ρ x = .pointer (some ⟨b,off,none⟩)) (hq:LdOk (fun _ _=>True) w b off c) (hk:K1 ds=Nat.beq c.k 2) (hz:c.size=z) (hv:∀ u,VRep (fun _ _=>True) w c u→u=v):(execOp ρ o).run P w = .ok (.value v) w:=by
 obtain ⟨xs,h2,h3⟩:=hq
 obtain ⟨u,h4,h6,_⟩:=q8 hu hi hk hz h2 (b:=b) (off:=off) (fun i hi=>(h3 i hi).2)
 have:=hv u h6
 subst this
 simp [execOp,ho,Instr.loadAt,Instr.sureAddr,hx,h4]
theorem b8r {x:Operand} {b off:Nat} (ho:o.op = .nilCheck x) (hx:ρ x = .pointer (some ⟨b,off,none⟩)):(execOp ρ o).run P w = .ok (.value (.pointer (some ⟨b,off,none⟩))) w:=by
 simp [execOp,ho,hx]
theorem b5f {ty:TypeId} {v:Value} (ho:o.op = .alloc ty) (hi:(P.info? ty).map (·.zero)=some (some v)):(execOp ρ o).run P w = .ok (.value (.pointer (some ⟨w.heap.size,0,none⟩))) (w.alloc (.cells v.cells ty)):=by
 cases hi':P.info? ty with
 | none=>rw [hi'] at hi;simp at hi
 | some i =>
  rw [hi'] at hi
  simp at hi
  simp [execOp,ho,Instr.alloc,zeroValue,typeInfo,hi',hi,I9]
theorem I3 {ty:TypeId} {x y:Operand} {z g q:Nat} {ys zs us vs:List Value} {t:TypeId} (ho:o.op = .store ty x y) (hi:(P.info? ty).map (·.size)=some z) (hx:ρ x = .pointer (some ⟨g,q,none⟩)) (hg:w.heap[g]?=some (.cells (ys++zs++us).toArray t (0,0))) (hq:ys.length=q) (hv:(ρ y).cells.toList=vs) (hl:vs.length=zs.length) (hz:vs.length=z) (h1:∀ u∈vs,u.oneCell'=true):(execOp ρ o).run P w = .ok .skip (w.setRow g (ys++vs++us).toArray):=by
 have hrun:=C0 (P:=P) hi hg hq hv hl hz h1
 simp [execOp,ho,Instr.storeAt,Instr.sureAddr,hx,hrun]
end
theorem i01 {v:Value} {i:Nat} (h:i<[v].length):i=0:=by simpa using h
theorem S9 {w:World} {b:Nat} {cs:Array Value} {ty:TypeId} {fl:Nat×Nat} (h:w.heap[b]?=some (.cells cs ty fl)) {off:Nat} {c:CV} {xs:List Value} (hr:Rep (fun _ _=>True) w c xs) (hx:∀ i,i<xs.length→cs[off+i]?=xs[i]?):LdOk (fun _ _=>True) w b off c:=by
 refine ⟨xs,hr,fun i hi=>⟨trivial,?_⟩⟩
 rw [←hx i hi]
 simp [World.cell?,h]
theorem a9M {α:Type} (x y:α):∀ (o:Nat) (l:List α),o+1<l.length→l.take o++[x,y]++l.drop (o+2)=(l.set o x).set (o+1) y
 | 0,a::b::l,_=>rfl
 | 0,[],h=>by simp at h
 | 0,[_],h=>by simp at h
 | o+1,[],h=>by simp at h
 | o+1,a::l,h=>by
  have:=a9M x y o l (by simpa using h)
  simp only [List.take_succ_cons,List.cons_append,List.drop_succ_cons,List.set_cons_succ]
  rw [←this]
theorem b2A:∀ {t s:Tm},t.cv=s.cv→t=s:=by
 intro t
 induction t using Tm.ind with
 | h f l ih =>
  intro s h
  cases s with
  | mk g m =>
   rw [Tm.cv_eq,Tm.cv_eq] at h
   injection h with _ _ h
   injection h with h1 h2
   injection h1 with _ h1 _
   injection h1 with _ h1
   injection h2 with h2 _
   injection h2 with _ _ h2
   have h1:f=g:=h1
   have h2:l.map Tm.cv=m.map Tm.cv:=h2
   subst h1
   have:∀ (l' m':List Tm),(∀ t∈l',t∈l)→l'.map Tm.cv=m'.map Tm.cv→l'=m':=by
    intro l'
    induction l' with
    | nil=>intro m' _ e;cases m' with
     | nil=>rfl
     | cons _ _=>cases e
    | cons t l' ih2 =>
     intro m' hm e
     cases m' with
     | nil=>cases e
     | cons u m' =>
      rw [List.map_cons,List.map_cons] at e
      injection e with e1 e2
      rw [ih t (hm t (by simp)) e1,ih2 m' (fun s hs=>hm s (List.mem_cons_of_mem _ hs)) e2]
   rw [this l m (fun _ h=>h) h2]
def StG (w:World) (g o:Nat) (f:Int) (h:Value) (B:World):Prop:=(∀ k,k<w.heap.size→k≠g→B.heap[k]?=w.heap[k]?)∧∃ cur ty,w.heap[g]?=some (.cells cur ty (0,0))∧B.heap[g]?=some (.cells ((cur.setIfInBounds o (.int .i64 f)).setIfInBounds (o+1) h) ty (0,0))
theorem b3M (t:Tm):(⟨t.f,t.l⟩:Tm)=t:=by cases t;rfl
theorem S3 {w:World} {ty:TypeId} {ds:TypeDesc} {g:Nat} {x:Value} {t:TypeId} (hu:Tryz.prog.underlying ty=some ds) (hi:(Tryz.prog.info? ty).map (·.size)=some 1) (hk:K1 ds=false) (hx:x.oneCell'=true) (h:w.heap[g]?=some (.cells #[x] t (0,0))):(loadVar ty ⟨g,0,none⟩).run Tryz.prog w = .ok x w:=by
 obtain ⟨xs,h2,h3⟩:=S9 h (off:=0) (c := .sc x) (xs:=[x]) (t7.2 ⟨rfl,hx⟩) (fun i hi=>by rw [i01 hi];rfl)
 obtain ⟨u,h4,h6,_⟩:=q8 (c := .sc x) hu hi hk rfl h2 (b:=g) (off:=0) (fun i hi=>(h3 i hi).2)
 rw [(b5.1 h6).1] at h4
 exact h4
theorem V1 {tmps:Array Value} {w:World} {g:Nat} {z:Int} {c:Bool} (hp:tmps.getD 2 undef = .pointer (some ⟨g,0,none⟩)) (hp3:tmps.getD 3 undef = .pointer (some ⟨g+1,0,none⟩)) (h1:w.heap[g]?=some (.cells #[.int .i64 z] 3 (0,0))) (h2:w.heap[g+1]?=some (.cells #[.bool c] 4 (0,0))) :
  (results Tryz.f26 tmps).run Tryz.prog w = .ok (.tuple #[.int .i64 z,.bool c]) w:=by
 have hp':tmps[2]?.getD undef = .pointer (some ⟨g,0,none⟩):=by simpa using hp
 have hp3':tmps[3]?.getD undef = .pointer (some ⟨g+1,0,none⟩):=by simpa using hp3
 have l1:=S3 Tryz.underlying3 (by kernel_rfl) rfl rfl h1
 have l2:=S3 Tryz.underlying4 (by kernel_rfl) rfl rfl h2
 simp [results,hp',hp3',asAddr,l1,l2]
set_option maxHeartbeats 4000000 in
theorem a1n (R:List RuT) (hR:∀ r∈R,b2i r) (hRl:R.length≤1000000) (x:XT) (b off:Nat) (bb:Bool) (U:Nat→Nat→Prop) (w:World) (hx:XAt U w b off x) (hsz:∀ p b' o' y,x.adr b off p=some (b',o',y)→0≤y.f→y.tm.rng∧y.tm.size≤90000000000)
  (hbb:bb=(o6 (l7 R) x.tm).isNone) (hpl:∀ p,o6 (l7 R) x.tm=some p→∃ b' o' y,x.adr b off p=some (b',o',y)∧0≤y.f∧l7 R y.tm=true∧Fz w b')
  (v:Value) (hv:VRep U w (a8L b off R) v) :
  Calls Tryz.prog 26 #[v] w fun e V=>(bb=true→e = .returned (.tuple #[.int .i64 0,.bool false])∧Below w.heap.size w V) ∧
   (bb=false→∃ p b' o' y r xs,o6 (l7 R) x.tm=some p∧x.adr b off p=some (b',o',y)∧R.find? (fun r=>(mt r.a y.tm []).1)=some r∧e = .returned (.tuple #[.int .i64 r.id,.bool true])∧xs.tm=usR r y.tm∧XR (fun k _=>w.heap.size≤k) V xs∧xs.bl.Nodup∧StG w b' o' xs.f xs.h V∧(V.os=w.os∧V.tape=w.tape∧V.output=w.output∧w.heap.size≤V.heap.size)):=by
 obtain ⟨ys,lb,rfl,e2,e3,e4⟩:=P9.1 hv
 have hys:ys=[]:=List.eq_nil_of_length_eq_zero e2
 subst hys
 have hcaps:=N7 e4 (by simpa using e3)
 refine a1t Tryz.func26 rfl (a6b (n:=3) ?_)
 simp only [Tryz.ntmps26,List.size_toArray,List.length_cons,List.length_nil,Nat.reduceAdd,Nat.reduceSub,Array.replicate_succ,Array.replicate_zero,List.push_toArray,List.append_toArray,List.nil_append,List.cons_append]
 gi_wp2
 rename_i Q9 K9 hK9
 obtain ⟨wl,hwl⟩:∃ wl,wl=(w.alloc (.cells #[.int .i64 0] 3)).alloc (.cells #[.bool false] 4):=⟨_,rfl⟩
 rw [←hwl]
 have hszl:wl.heap.size=w.heap.size+2:=by rw [hwl];simp
 have hb0:Below w.heap.size w wl:=by rw [hwl];exact bA (bA (bW _) _) _
 have hbx2:wl.heap[w.heap.size]?=some (.cells #[.int .i64 0] 3 (0,0)):=by
  have h1:=World.alloc_heap_new w (.cells #[.int .i64 0] 3)
  rw [hwl,Below.heap_alloc _ _ _ (by simp)]
  exact h1
 have hbx3:wl.heap[w.heap.size+1]?=some (.cells #[.bool false] 4 (0,0)):=by
  have h1:=World.alloc_heap_new (w.alloc (.cells #[.int .i64 0] 3)) (.cells #[.bool false] 4)
  rw [World.size_alloc,←hwl] at h1
  exact h1
 clear hwl
 have hxl:XAt (fun _ _=>True) wl b off x:=hx.keep fun b o v hu hc=>⟨trivial,by rw [j7 (hb0.block b (World.block_lt_of_cell? w _ hc))];exact hc⟩
 obtain ⟨G,hGd⟩:∃ G:World→Prop,G=fun B=>∃ p b' o' y r xs,o6 (l7 R) x.tm=some p∧x.adr b off p=some (b',o',y)∧R.find? (fun r=>(mt r.a y.tm []).1)=some r∧xs.tm=usR r y.tm∧XR (fun k _=>w.heap.size≤k) B xs∧xs.bl.Nodup∧StG w b' o' xs.f xs.h B∧B.heap[w.heap.size]?=some (.cells #[.int .i64 r.id] 3 (0,0))∧B.heap[w.heap.size+1]?=some (.cells #[.bool true] 4 (0,0)):=⟨_,rfl⟩
 have hG:a9o (w.heap.size+2) G:=by
  rw [hGd]
  have hlt:∀ {B:World} {k:Nat} {o:Obj},B.heap[k]?=some o→k<B.heap.size:=fun h=>(Array.getElem?_eq_some_iff.1 h).1
  refine ⟨fun B C ⟨p,b',o',y,r,xs,g1,g2,g3,g4,g5,g6,⟨g7,cur,ty,g8,g9⟩,g10,g11⟩ hb=>⟨p,b',o',y,r,xs,g1,g2,g3,g4,g5.bw hb,g6,⟨fun k hk hne=>?_,cur,ty,g8,(hb.block _ (hlt g9)).trans g9⟩,(hb.block _ (hlt g10)).trans g10,(hb.block _ (hlt g11)).trans g11⟩,fun B l o o' hl ho hc hc' ⟨p,b',o1,y,r,xs,g1,g2,g3,g4,g5,g6,⟨g7,cur,ty,g8,g9⟩,g10,g11⟩=>⟨p,b',o1,y,r,xs,g1,g2,g3,g4,?_,g6,⟨fun k hk hne=>(World.putObj_heap_other (by omega)).trans (g7 k hk hne),cur,ty,g8,?_⟩,(World.putObj_heap_other (by omega)).trans g10,(World.putObj_heap_other (by omega)).trans g11⟩⟩
  ·have h1:=g7 k hk hne
   rw [Array.getElem?_eq_getElem hk] at h1
   have h2:=hb.block k (hlt h1)
   rw [h2,h1,Array.getElem?_eq_getElem hk]
  ·refine g5.keep fun k q v hu hcell=>⟨hu,?_⟩
   by_cases hkl:k=l
   ·subst hkl
    simp only [World.cell?,ho] at hcell
    cases o with
    | cells c e f=>cases hc
    | _=>simp at hcell
   ·rw [j7 (World.putObj_heap_other (fun e=>hkl e))];exact hcell
  ·have:=hlt g8
   exact (World.putObj_heap_other (by omega)).trans g9
 refine a1x (gf:=44) (lb:=lb.toArray) rfl (r9 Tryz.func44 rfl rfl) bb (X:=fun k=>(∃ p o' y,o6 (l7 R) x.tm=some p∧x.adr b off p=some (k,o',y))∨k=w.heap.size∨k=w.heap.size+1) hG (by omega) ?hX
  (fun _ _=>False) (fun vs A=>∃ p b' o' y r Rr,o6 (l7 R) x.tm=some p∧x.adr b off p=some (b',o',y)∧R.find? (fun r=>(mt r.a y.tm []).1)=some r∧VReps Rr A [b8M r.id b' o' wl.heap.size (usR r y.tm)] vs)
  ?ps ?it ?rt ?rf ?done ?stop
 case hX =>
  rintro k (⟨p,o',y,h1,h2⟩ | rfl | rfl)
  ·obtain ⟨b2,o2,y2,g1,_,_,cur,ty,g4⟩:=hpl p h1
   rw [h2] at g1
   cases g1
   have:=(Array.getElem?_eq_some_iff.1 g4).1
   omega
  ·omega
  ·omega
 case ps =>
  rintro vs A (h | ⟨p,b',o',y,r,Rr,_,_,_,h⟩)
  ·exact h.elim
  ·exact h.len
 case it =>
  intro l W N2 X2 G2 hG2 hN2 hX2 hW hT hF
  have hbw:Below w.heap.size w W:=hb0.trans (hW.mono hb0.size)
  have hxW:XAt (fun _ _=>True) W b off x:=hx.keep fun b o v hu hc=>⟨trivial,by rw [j7 (hbw.block b (World.block_lt_of_cell? w _ hc))];exact hc⟩
  have hva:VReps (fun _ _=>True) W [L8 l,.ptr (v8 b off),.ptr (.lst (R.map RuT.cv))] (.func (.yield l) #[] #[]::lb):=by
   refine ⟨_,_,rfl,b5.2 ⟨rfl,rfl⟩,?_⟩
   exact (hcaps.keep (V:=fun _ _=>True) (w':=W) fun bb o v _ hc=>⟨trivial,by rw [j7 (hbw.block bb (World.block_lt_of_cell? w _ hc))];exact hc⟩)
  have harr:(#[Value.func (.yield l) #[] #[]]++lb.toArray)=(Value.func (.yield l) #[] #[]::lb).toArray:=by simp
  rw [harr]
  exact b9s R hR hRl l x b off wl.heap.size N2 X2 G2 hG2 bb _ W hxW hsz hbb hN2 hX2 hW.size (fun p b' o' y r k1 k2 k3 Rr A vs k4 k5=>hF vs A ⟨p,b',o',y,r,Rr,k1,k2,k3,k5⟩ k4) (fun p hp=>by obtain ⟨b',o',y,g1,g2,g3,_⟩:=hpl p hp;exact ⟨b',o',y,g1,g2,g3⟩) _ hva
 case rt =>
  rintro vs A r h
  exact h.elim
 case rf =>
  rintro vs A rec ⟨p,b',o',y,r,Rr,h1,h2,h3,u,us,rfl,h4,h5⟩ hA hL hA2
  have h5:us=[]:=h5
  subst h5
  obtain ⟨xs',rfl,y1,z1,e1,f1,y2,z2,e2',f2,y3,z3,e3',f3,f4⟩:=A5.1 h4
  have f4:z3=[]:=f4
  subst f4
  obtain ⟨rfl,_⟩:=t7.1 f1
  obtain ⟨rfl,_⟩:=t7.1 f2
  obtain ⟨y4,z4,e4',f5,y5,z5,e5,f6,f7⟩:=s8.1 f3
  have f7:z5=[]:=f7
  subst f7
  obtain ⟨rfl,_⟩:=t7.1 f5
  obtain ⟨xs,rfl,k1,k2,k3⟩:=a9Y.1 f6
  subst e5;subst e4';subst e3';subst e2';subst e1
  obtain ⟨b2,o2,y2',g1,_,_,cur,ty,g4⟩:=hpl p h1
  rw [h2] at g1
  cases g1
  have hcvs:(xs.l.map XT.tm)=(usR r y.tm).l:=by
   have e:=k1
   rw [a0i] at e
   have:=b2A (t:=⟨0,xs.l.map XT.tm⟩) (s:=⟨0,(usR r y.tm).l⟩) (by rw [Tm.cv_eq,Tm.cv_eq];show CV.row [.i 0,.lst ((xs.l.map XT.tm).map Tm.cv)]=CV.row [.i 0,.lst ((usR r y.tm).l.map Tm.cv)];rw [e])
   injection this
  have hbA:Below w.heap.size w A:=hb0.trans (hA.mono hb0.size)
  have hAs:=hA.size
  have hblt:b'<w.heap.size:=(Array.getElem?_eq_some_iff.1 g4).1
  have hyw:=hx.adr h2
  have hq0:cur[o']?=some (.int .i64 y.f):=by have:=hyw.2.1.2;simpa [World.cell?,g4] using this
  have hq1:cur[o'+1]?=some y.h:=by have:=hyw.2.2.2;simpa [World.cell?,g4] using this
  have hol:o'+1<cur.toList.length:=by
   have:=(Array.getElem?_eq_some_iff.1 hq1).1
   simpa using this
  obtain ⟨h9,hh9⟩:∃ h9,h9=xs.h:=⟨_,rfl⟩
  have h91:h9.oneCell'=true:=by rw [hh9];rfl
  rw [←hh9]
  obtain ⟨f9,hf9⟩:∃ f9,f9=(usR r y.tm).f:=⟨_,rfl⟩
  rw [←hf9]
  have hW1:(A.alloc (.cells (Value.agg #[.int .i64 0,.pointer none,.int .i64 0,.slice none 0 0]).cells 99)).setRow A.heap.size ([]++[Value.int .i64 r.id,.pointer (some ⟨b',o',none⟩),.int .i64 f9,h9]++[]).toArray=A.alloc (.cells #[.int .i64 r.id,.pointer (some ⟨b',o',none⟩),.int .i64 f9,h9] 99):=World.setRow_alloc_new _ _ _ _
  obtain ⟨A1,hA1⟩:∃ A1,A1=A.alloc (.cells #[.int .i64 r.id,.pointer (some ⟨b',o',none⟩),.int .i64 f9,h9] 99):=⟨_,rfl⟩
  have hA1b:Below A.heap.size A A1:=by rw [hA1];exact bA (bW _) _
  have hA1s:A1.heap.size=A.heap.size+1:=by rw [hA1];simp
  obtain ⟨A',hA'⟩:∃ A',A'=A1.putObj (wl.heap.size+1) (.loop { rec with state := .busy }):=⟨_,rfl⟩
  have hA's:A'.heap.size=A.heap.size+1:=by rw [hA',World.putObj_size,hA1s]
  have hkA:∀ k,k≠wl.heap.size+1→k<A.heap.size→A'.heap[k]?=A.heap[k]?:=fun k hk hlt=>by rw [hA',World.putObj_heap_other (fun e=>hk e)];exact hA1b.block k hlt
  have hkw:∀ k,k<w.heap.size→A'.heap[k]?=w.heap[k]?:=fun k hk=>(hkA k (by omega) (by omega)).trans (hbA.block k hk)
  have hbox:A'.heap[A.heap.size]?=some (.cells #[.int .i64 r.id,.pointer (some ⟨b',o',none⟩),.int .i64 f9,h9] 99 (0,0)):=by
   rw [hA',World.putObj_heap_other (by omega),hA1]
   exact World.alloc_heap_new _ _
  have hcur:A'.heap[b']?=some (.cells (cur.toList.take o'++(cur.toList.drop o').take 2++cur.toList.drop (o'+2)).toArray ty (0,0)):=by
   rw [hkw b' hblt,g4]
   congr 2
   apply Array.ext'
   simp only [List.append_assoc]
   rw [←List.drop_drop,List.take_append_drop,List.take_append_drop]
  rw [a0G [6]]
  show Code.wpIn (Fence.wide.inRound (wl.heap.size+1)) 1 _ _ _ { tmps := #[.func (.func 44) #[] lb.toArray,undef,.pointer (some ⟨w.heap.size,0,none⟩),.pointer (some ⟨w.heap.size+1,0,none⟩),undef,.func (.func 44) #[] lb.toArray,.agg #[.int .i64 r.id,.pointer (some ⟨b',o',none⟩),.int .i64 f9,h9],undef,undef,undef,undef,undef,undef,undef],defers:=[] } _
  refine wpIn_region_lit (L5 rfl (fun c h=>by cases h) (b5f (v := .agg #[.int .i64 0,.pointer none,.int .i64 0,.slice none 0 0]) rfl (by kernel_rfl)) ?_)
  refine I5 rfl rfl (fun c h=>by cases h) (I3 (ys:=[]) (zs:=[.int .i64 0,.pointer none,.int .i64 0,.slice none 0 0]) (us:=[]) (vs:=[.int .i64 r.id,.pointer (some ⟨b',o',none⟩),.int .i64 f9,h9]) (z:=4) rfl (by kernel_rfl) rfl (World.alloc_heap_new _ _) rfl rfl rfl rfl (fun u hu=>by
   simp only [List.mem_cons,List.not_mem_nil,or_false] at hu
   rcases hu with rfl | rfl | rfl | rfl<;>first | rfl | exact h91)) ?_
  rw [hW1,←hA1]
  refine ⟨hA1b,?_⟩
  rw [←hA']
  refine wpIn_block (wpIn_seq (wpIn_region_lit ?_))
  refine L5 rfl (fun c h=>by cases h) (a5J (b:=A.heap.size) (off:=0) rfl Tryz.underlying99 rfl (z:=1) (by kernel_rfl) rfl rfl) ?_
  simp only [Act.put,List.setIfInBounds_toArray,List.set_cons_zero,List.set_cons_succ]
  refine L5 rfl (fun c h=>by cases h) (a6d (b:=A.heap.size) (off:=1) (c:=v8 b' o') (z:=1) (ds:=_) rfl Tryz.underlying79 (by kernel_rfl) rfl (S9 hbox (xs:=[.pointer (some ⟨b',o',none⟩)]) (t7.2 ⟨rfl,rfl⟩) (fun i hi=>by rw [i01 hi];rfl)) rfl rfl (fun u hu=>(b5.1 hu).1)) ?_
  simp only [Act.put,List.setIfInBounds_toArray,List.set_cons_zero,List.set_cons_succ]
  refine L5 rfl (fun c h=>by cases h) (a5J (b:=A.heap.size) (off:=0) rfl Tryz.underlying99 rfl (z:=2) (by kernel_rfl) rfl rfl) ?_
  simp only [Act.put,List.setIfInBounds_toArray,List.set_cons_zero,List.set_cons_succ]
  refine L5 rfl (fun c h=>by cases h) (a6d (b:=A.heap.size) (off:=2) (c := .row [.i f9,.sc h9]) (z:=2) (ds:=_) rfl Tryz.underlying37 (by kernel_rfl) rfl (S9 hbox (xs:=[.int .i64 f9,h9]) (s8.2 ⟨[.int .i64 f9],[h9],rfl,F3 _ _,[h9],[],rfl,t7.2 ⟨rfl,h91⟩,rfl⟩) (fun i hi=>by
   have:i=0∨i=1:=by simp at hi;omega
   rcases this with rfl | rfl<;>rfl)) rfl rfl (v := .agg #[.int .i64 f9,h9]) (fun u hu=>by
   obtain ⟨xs2,rfl,y1,z1,q1,q2,y2,z2,q3,q4,q5⟩:=A5.1 hu
   have q5:z2=[]:=q5
   subst q5
   obtain ⟨rfl,_⟩:=t7.1 q2
   obtain ⟨rfl,_⟩:=t7.1 q4
   rw [q1,q3]
   rfl)) ?_
  simp only [Act.put,List.setIfInBounds_toArray,List.set_cons_zero,List.set_cons_succ]
  refine L5 rfl (fun c h=>by cases h) (b8r (b:=b') (off:=o') rfl rfl) ?_
  simp only [Act.put,List.setIfInBounds_toArray,List.set_cons_zero,List.set_cons_succ]
  refine I5 rfl rfl (fun c h=>by cases h) (I3 (g:=b') (q:=o') (vs:=[.int .i64 f9,h9]) (z:=2) rfl (by kernel_rfl) rfl hcur (by rw [List.length_take];omega) rfl (by rw [List.length_take,List.length_drop];show 2=_;omega) rfl (fun u hu=>by
   simp only [List.mem_cons,List.not_mem_nil,or_false] at hu
   rcases hu with rfl | rfl<;>first | rfl | exact h91)) ?_
  obtain ⟨W3,hW3⟩:∃ W3,W3=A'.setRow b' (cur.toList.take o'++[Value.int .i64 f9,h9]++cur.toList.drop (o'+2)).toArray:=⟨_,rfl⟩
  rw [←hW3]
  have hb3:W3.heap[b']?=some (.cells (cur.toList.take o'++[Value.int .i64 f9,h9]++cur.toList.drop (o'+2)).toArray ty (0,0)):=by rw [hW3];exact setRow_heap _ _ _ _ _ _ hcur
  have hk3:∀ k,k≠b'→W3.heap[k]?=A'.heap[k]?:=fun k hk=>by rw [hW3];exact setRow_other _ _ _ _ hk
  have hbox3:=(hk3 A.heap.size (by omega)).trans hbox
  have h23:W3.heap[w.heap.size]?=some (.cells ([]++[Value.int .i64 0]++[]).toArray 3 (0,0)):=(hk3 _ (by omega)).trans ((hkA _ (by omega) (by omega)).trans ((hA.block _ (by omega)).trans hbx2))
  have h33:W3.heap[w.heap.size+1]?=some (.cells ([]++[Value.bool false]++[]).toArray 4 (0,0)):=(hk3 _ (by omega)).trans ((hkA _ (by omega) (by omega)).trans ((hA.block _ (by omega)).trans hbx3))
  show Code.wpIn _ _ _ _ _ _ _
  refine wpIn_seq (wpIn_region_lit ?_)
  refine L5 rfl (fun c h=>by cases h) (a5J (b:=A.heap.size) (off:=0) rfl Tryz.underlying99 rfl (z:=1) (by kernel_rfl) rfl rfl) ?_
  simp only [Act.put,List.setIfInBounds_toArray,List.set_cons_zero,List.set_cons_succ]
  refine L5 rfl (fun c h=>by cases h) (a6d (b:=A.heap.size) (off:=0) (c := .i r.id) (z:=1) (ds:=_) rfl Tryz.underlying3 (by kernel_rfl) rfl (S9 hbox3 (xs:=[.int .i64 r.id]) (t7.2 ⟨rfl,rfl⟩) (fun i hi=>by rw [i01 hi];rfl)) rfl rfl (fun u hu=>(b5.1 hu).1)) ?_
  simp only [Act.put,List.setIfInBounds_toArray,List.set_cons_zero,List.set_cons_succ]
  refine I5 rfl rfl (fun c h=>by cases h) (I3 (g:=w.heap.size) (q:=0) (vs:=[.int .i64 r.id]) (z:=1) rfl (by kernel_rfl) rfl h23 rfl rfl rfl rfl (by simp [Value.oneCell'])) ?_
  obtain ⟨W4,hW4⟩:∃ W4,W4=W3.setRow w.heap.size ([]++[Value.int .i64 r.id]++[]).toArray:=⟨_,rfl⟩
  rw [←hW4]
  have hb4:W4.heap[w.heap.size]?=some (.cells #[.int .i64 r.id] 3 (0,0)):=by rw [hW4];exact setRow_heap _ _ _ _ _ _ h23
  have hk4:∀ k,k≠w.heap.size→W4.heap[k]?=W3.heap[k]?:=fun k hk=>by rw [hW4];exact setRow_other _ _ _ _ hk
  have h34:=(hk4 (w.heap.size+1) (by omega)).trans h33
  refine I5 rfl rfl (fun c h=>by cases h) (I3 (g:=w.heap.size+1) (q:=0) (vs:=[.bool true]) (z:=1) rfl (by kernel_rfl) rfl h34 rfl rfl rfl rfl (by simp [Value.oneCell'])) ?_
  obtain ⟨W5,hW5⟩:∃ W5,W5=W4.setRow (w.heap.size+1) ([]++[Value.bool true]++[]).toArray:=⟨_,rfl⟩
  rw [←hW5]
  have hb5:W5.heap[w.heap.size+1]?=some (.cells #[.bool true] 4 (0,0)):=by rw [hW5];exact setRow_heap _ _ _ _ _ _ h34
  have hk5:∀ k,k≠w.heap.size+1→W5.heap[k]?=W4.heap[k]?:=fun k hk=>by rw [hW5];exact setRow_other _ _ _ _ hk
  have hk:∀ k,k≠b'→k≠w.heap.size→k≠w.heap.size+1→W5.heap[k]?=A'.heap[k]?:=fun k e1 e2 e3=>(hk5 k e3).trans ((hk4 k e2).trans (hk3 k e1))
  show Code.wpIn _ _ _ _ _ _ _
  refine wpIn_ret ⟨rfl,⟨by rw [hW5,hW4,hW3];exact ⟨rfl,rfl,rfl⟩,by rw [hW5,hW4,hW3];simp,fun k hx hkl=>hk k (fun e=>hx (.inl ⟨p,o',y,h1,by rw [e];exact h2⟩)) (fun e=>hx (.inr (.inl e))) (fun e=>hx (.inr (.inr e))),?_⟩⟩
  rw [hGd]
  have hxsb:∀ k∈xs.bl,wl.heap.size≤k∧k<A.heap.size:=fun k hkb=>by
   obtain ⟨q1,q,q2⟩:=k2.lt k hkb
   exact ⟨q2.2,q1⟩
  refine ⟨p,b',o',y,r,⟨f9,xs.a,xs.c,xs.l⟩,h1,h2,h3,by rw [XT.tm_eq,hf9];show Tm.mk _ (xs.l.map XT.tm)=_;rw [hcvs];exact b3M _,?_,?_,⟨fun k hkl hne=>(hk k hne (by omega) (by omega)).trans (hkw k hkl),cur,ty,g4,?_⟩,(hk5 _ (by omega)).trans hb4,hb5⟩
  ·have h5:XR (fun k _=>w.heap.size≤k) W5 xs:=k2.keepB fun k q v hkb hu hcell=>by
    obtain ⟨q1,q2⟩:=hxsb k hkb
    refine ⟨by omega,?_⟩
    have hnL:k≠wl.heap.size+1:=fun e=>by
     subst e
     simp [World.cell?,hL] at hcell
    rw [j7 ((hk k (by omega) (by omega) (by omega)).trans (hkA k hnL q2))]
    exact hcell
   rw [L4] at h5 ⊢
   exact h5
  ·have h6:=k3
   rw [XT.bl_eq] at h6 ⊢
   exact h6
  ·rw [hk5 b' (by omega),hk4 b' (by omega),hb3]
   congr 2
   apply Array.ext'
   rw [a9M _ _ o' cur.toList hol]
   show _=((cur.setIfInBounds o' (.int .i64 f9)).setIfInBounds (o'+1) (XT.mk f9 xs.a xs.c xs.l).h).toList
   rw [hh9]
   simp [XT.h]
 case done =>
  intro hb W hW hD
  refine hK9 _ _ (a6b (n:=1) (wpIn_seq (wpIn_region_lit ?_)))
  have h2:W.heap[w.heap.size]?=some (.cells ([]++[Value.int .i64 0]++[]).toArray 3 (0,0)):=(hW.block _ (by omega)).trans hbx2
  have h3:W.heap[w.heap.size+1]?=some (.cells ([]++[Value.bool false]++[]).toArray 4 (0,0)):=(hW.block _ (by omega)).trans hbx3
  refine I5 (ro:=none) rfl rfl (fun c h=>by cases h) (I3 (g:=w.heap.size) (q:=0) (vs:=[.int .i64 0]) (z:=1) rfl (by kernel_rfl) rfl h2 rfl rfl rfl rfl (by simp [Value.oneCell'])) ?_
  have e2:W.setRow w.heap.size ([]++[Value.int .i64 0]++[]).toArray=W:=setRow_self _ _ _ _ _ h2
  rw [e2]
  refine I5 (ro:=none) rfl rfl (fun c h=>by cases h) (I3 (g:=w.heap.size+1) (q:=0) (vs:=[.bool false]) (z:=1) rfl (by kernel_rfl) rfl h3 rfl rfl rfl rfl (by simp [Value.oneCell'])) ?_
  have e3:W.setRow (w.heap.size+1) ([]++[Value.bool false]++[]).toArray=W:=setRow_self _ _ _ _ _ h3
  rw [e3]
  show Code.wpIn _ _ _ _ _ _ _
  have hDl:=(Array.getElem?_eq_some_iff.1 hD).1
  refine wpIn_ret ⟨.inr rfl,wl.heap.size,rfl,hD,.tuple #[.int .i64 0,.bool false],V1 (g:=w.heap.size) rfl rfl ((World.putObj_heap_other (by omega)).trans h2) ((World.putObj_heap_other (by omega)).trans h3),fun _=>⟨rfl,?_⟩,fun h=>?_⟩
  ·have h5:Below w.heap.size w W:=hb0.trans (hW.mono hb0.size)
   exact ⟨h5.os,h5.tape,h5.output,by rw [World.putObj_size];exact h5.size,fun k hk=>(World.putObj_heap_other (by omega)).trans (h5.block k hk)⟩
  ·rw [hb] at h
   cases h
 case stop =>
  rintro hb W ⟨⟨k1,k2,k3⟩,hWs,hW,hGW⟩ hD
  have hGW2:=hG.book _ _ _ (.deferred none) (by omega) hD rfl rfl hGW
  rw [hGd] at hGW2
  obtain ⟨p,b',o',y,r,xs,g1,g2,g3,g4,g5,g6,g7,g8,g9⟩:=hGW2
  refine ⟨.inr rfl,wl.heap.size,rfl,hD,.tuple #[.int .i64 r.id,.bool true],V1 (g:=w.heap.size) rfl rfl g8 g9,fun h=>?_,fun _=>⟨p,b',o',y,r,xs,g1,g2,g3,rfl,g4,g5,g6,g7,k1.trans hb0.os,k2.trans hb0.tape,k3.trans hb0.output,?_⟩⟩
  ·rw [hb] at h
   cases h
  ·rw [World.putObj_size];omega
end Go.Proofs.YtekboofbedakcaaGreat
namespace Go.Proofs.YtekboofbedakcaaGreat
open Go.RowKit
set_option linter.unusedVariables false
set_option linter.unusedSimpArgs false
def atN:Tm→List Nat→Option Tm
 | t,[]=>some t
 | t,i::p=>match t.l[i]? with
  | some s=>atN s p
  | none=>none
def puN:Tm→List Nat→Tm→Tm
 | _,[],u=>u
 | t,i::p,u=>match t.l[i]? with
  | some s=>⟨t.f,t.l.set i (puN s p u)⟩
  | none=>t
theorem a0g:∀ {p:List Nat} {x:XT} {b off b' o':Nat} {y:XT},x.adr b off p=some (b',o',y)→atN x.tm p=some y.tm
 | [],x,b,off,b',o',y,h=>by
  rw [XT.adr] at h
  cases h
  rfl
 | i::p,x,b,off,b',o',y,h=>by
  rw [XT.adr] at h
  split at h
  ·rename_i z ad hz ha
   rw [atN,XT.tm_l,List.getElem?_map,hz]
   exact a0g h
  ·cases h
theorem a6h:∀ {p:List Nat} {x:XT} {b off:Nat} {U:Nat→Nat→Prop} {w:World} {y:Tm},XR U w x→atN x.tm p=some y→∃ b' o' z,x.adr b off p=some (b',o',z)∧z.tm=y
 | [],x,b,off,U,w,y,h,e=>by
  rw [atN] at e
  cases e
  exact ⟨b,off,x,rfl,rfl⟩
 | i::p,x,b,off,U,w,y,h,e=>by
  rw [atN,XT.tm_l,List.getElem?_map] at e
  cases hz:x.l[i]? with
  | none=>rw [hz] at e;cases e
  | some z =>
   rw [hz] at e
   have e:atN z.tm p=some y:=e
   obtain ⟨⟨_,_,_,g,o1,h4,_⟩,h6⟩:=L4.1 h
   have ha:=h4 (fun e=>by rw [e] at hz;simp at hz)
   obtain ⟨b',o',z',h7,h8⟩:=a6h (b:=g) (off:=o1+2*i) (h6 z (List.mem_of_getElem? hz)) e
   exact ⟨b',o',z',by rw [XT.adr_cons hz ha];exact h7,h8⟩
theorem M4 (hit:Tm→Bool):∀ {t:Tm} {p:List Nat},o6 hit t=some p→∃ y,atN t p=some y∧0≤y.f∧hit y=true:=by
 intro t
 induction t using Tm.ind with
 | h f l ih =>
  intro p h
  rw [D8] at h
  split at h
  ·cases h
  rename_i hf
  split at h
  ·rename_i hh
   cases h
   exact ⟨_,rfl,by have hf:¬ f<0:=hf;show 0≤f;omega,hh⟩
  have key:∀ (l':List Tm) (n:Nat),(∀ s∈l',s∈l)→a3b n (l'.map (o6 hit))=some p→∃ i q s,p=(n+i)::q∧l'[i]?=some s∧o6 hit s=some q:=by
   intro l'
   induction l' with
   | nil=>intro n _ h;simp [a3b] at h
   | cons s l' ih2 =>
    intro n hm h
    rw [List.map_cons] at h
    cases hs:o6 hit s with
    | some q =>
     rw [hs,a3b] at h
     cases h
     exact ⟨0,q,s,rfl,rfl,hs⟩
    | none =>
     rw [hs,a3b] at h
     obtain ⟨i,q,s',h1,h2,h3⟩:=ih2 (n+1) (fun s hs=>hm s (List.mem_cons_of_mem _ hs)) h
     exact ⟨i+1,q,s',by rw [h1];congr 1;omega,by simpa using h2,h3⟩
  obtain ⟨i,q,s,h1,h2,h3⟩:=key l 0 (fun _ h=>h) h
  obtain ⟨y,h4,h5⟩:=ih s (List.mem_of_getElem? h2) h3
  refine ⟨y,?_,h5⟩
  rw [h1,atN,Nat.zero_add]
  show (match l[i]? with | some s=>atN s q | none=>none)=_
  rw [h2]
  exact h4
theorem b0Z {t s:Tm} (h:t.strip=t) (hs:s∈t.l):s.strip=s∧s∈t.ps:=by
 rw [Tm.strip_eq] at h
 have h2:t.ps.map Tm.strip=t.l:=by
  have:=congrArg Tm.l h
  exact this
 have hlen:t.ps=t.l:=by
  unfold Tm.ps at h2 ⊢
  split
  ·rename_i hf
   rw [if_pos hf] at h2
   exact h2
  ·rfl
 rw [hlen] at h2 ⊢
 have:∀ l:List Tm,l.map Tm.strip=l→∀ s∈l,s.strip=s:=by
  intro l
  induction l with
  | nil=>intro _ s hs;cases hs
  | cons a l ih =>
   intro e s hs
   rw [List.map_cons] at e
   injection e with e1 e2
   rcases List.mem_cons.1 hs with rfl | hs
   ·exact e1
   ·exact ih e2 s hs
 exact ⟨this t.l h2 s hs,hs⟩
theorem T0:∀ {p:List Nat} {t y:Tm},t.strip=t→t.rng→atN t p=some y→y.strip=y∧y.rng∧y.size≤t.size
 | [],t,y,h1,h2,e=>by
  rw [atN] at e
  cases e
  exact ⟨h1,h2,Nat.le_refl _⟩
 | i::p,t,y,h1,h2,e=>by
  rw [atN] at e
  split at e
  ·rename_i s hs
   have hm:=List.mem_of_getElem? hs
   obtain ⟨k1,k2⟩:=b0Z h1 hm
   obtain ⟨k3,k4,k5⟩:=T0 k1 (((Tm.rng_iff _).1 h2).2 s hm) e
   have:=Tm.size_part k2
   exact ⟨k3,k4,by omega⟩
  ·cases e
theorem a0j:∀ {p:List Nat} {x:XT} {b off b' o':Nat} {y:XT},x.adr b off p=some (b',o',y)→(p=[]∧b'=b∧o'=off)∨(p≠[]∧b'∈x.bl)
 | [],x,b,off,b',o',y,h=>by
  rw [XT.adr] at h
  cases h
  exact .inl ⟨rfl,rfl,rfl⟩
 | i::p,x,b,off,b',o',y,h=>by
  refine .inr ⟨by simp,?_⟩
  rw [XT.adr] at h
  split at h
  ·rename_i z ad hz ha
   rw [XT.bl_eq,List.mem_append]
   rcases a0j h with ⟨_,h1,_⟩ | ⟨_,h1⟩
   ·left
    unfold XT.bb
    rw [ha]
    cases hl:x.l with
    | nil=>rw [hl] at hz;simp at hz
    | cons _ _=>simp [h1]
   ·exact .inr (List.mem_flatMap.2 ⟨z,List.mem_of_getElem? hz,h1⟩)
  ·cases h
theorem a5f {x z:XT} {i:Nat} (hz:x.l[i]?=some z) {ad:Addr} (ha:x.a=some ad) (h:x.bl.Nodup):(ad.block::z.bl).Nodup∧∀ j y,x.l[j]?=some y→j≠i→∀ b∈y.bl,b≠ad.block∧b∉z.bl:=by
 rw [XT.bl_eq,List.nodup_append] at h
 obtain ⟨_,h2,h3⟩:=h
 have hbb:ad.block∈x.bb:=by
  unfold XT.bb
  rw [ha]
  cases hl:x.l with
  | nil=>rw [hl] at hz;simp at hz
  | cons _ _=>simp
 have hnd:∀ y∈x.l,y.bl.Nodup:=fun y hy=>by
  have:∀ l:List XT,(l.flatMap XT.bl).Nodup→∀ y∈l,y.bl.Nodup:=by
   intro l
   induction l with
   | nil=>intro _ y hy;cases hy
   | cons a l ih =>
    intro h y hy
    rw [List.flatMap_cons,List.nodup_append] at h
    rcases List.mem_cons.1 hy with rfl | hy
    ·exact h.1
    ·exact ih h.2.1 y hy
  exact this _ h2 y hy
 have hdis:∀ (l:List XT),(l.flatMap XT.bl).Nodup→∀ (i j:Nat) (y z:XT),l[i]?=some z→l[j]?=some y→j≠i→∀ b∈y.bl,b∉z.bl:=by
  intro l
  induction l with
  | nil=>intro _ i j y z h;simp at h
  | cons a l ih =>
   intro h i j y z hi hj hne b hb hbz
   rw [List.flatMap_cons,List.nodup_append] at h
   match i,j with
   | 0,0=>exact hne rfl
   | 0,j+1 =>
    simp only [List.getElem?_cons_zero,Option.some.injEq] at hi
    subst hi
    exact h.2.2 b hbz b (List.mem_flatMap.2 ⟨y,List.mem_of_getElem? (by simpa using hj),hb⟩) rfl
   | i+1,0 =>
    simp only [List.getElem?_cons_zero,Option.some.injEq] at hj
    subst hj
    exact h.2.2 b hb b (List.mem_flatMap.2 ⟨z,List.mem_of_getElem? (by simpa using hi),hbz⟩) rfl
   | i+1,j+1=>exact ih h.2.1 i j y z (by simpa using hi) (by simpa using hj) (by omega) b hb hbz
 refine ⟨List.nodup_cons.2 ⟨fun hb=>h3 _ hbb _ (List.mem_flatMap.2 ⟨z,List.mem_of_getElem? hz,hb⟩) rfl,hnd z (List.mem_of_getElem? hz)⟩,fun j y hy hne b hb=>⟨fun e=>h3 _ hbb _ (List.mem_flatMap.2 ⟨y,List.mem_of_getElem? hy,hb⟩) e.symm,hdis _ h2 i j y z hz hy hne b hb⟩⟩
theorem a5y {n:Nat} {w V:World}:∀ (p:List Nat) (x:XT) (b off b' o':Nat) (y xs:XT),XAt (fun k _=>n≤k) w b off x→(b::x.bl).Nodup→x.adr b off p=some (b',o',y)→StG w b' o' xs.f xs.h V→XR (fun k _=>n≤k) V xs→∃ x',x'.tm=puN x.tm p xs.tm∧XAt (fun k _=>n≤k) V b off x'∧∀ k∈x'.bl,k∈x.bl∨k∈xs.bl
 | [],x,b,off,b',o',y,xs,hx,hnd,ha,hst,hxs=>by
  rw [XT.adr] at ha
  cases ha
  obtain ⟨h1,cur,ty,h2,h3⟩:=hst
  have hq0:cur[off]?=some (.int .i64 x.f):=by have:=hx.2.1.2;simpa [World.cell?,h2] using this
  have hq1:cur[off+1]?=some x.h:=by have:=hx.2.2.2;simpa [World.cell?,h2] using this
  have l1:=(Array.getElem?_eq_some_iff.1 hq0).1
  have l2:=(Array.getElem?_eq_some_iff.1 hq1).1
  refine ⟨xs,rfl,⟨hxs,⟨hx.2.1.1,?_⟩,hx.2.2.1,?_⟩,fun k hk => .inr hk⟩
  ·simp [World.cell?,h3,Array.getElem?_setIfInBounds,l1]
  ·simp [World.cell?,h3,Array.getElem?_setIfInBounds,l2]
 | i::p,x,b,off,b',o',y,xs,hx,hnd,ha,hst,hxs=>by
  have hbl:=a0j ha
  rw [XT.adr] at ha
  split at ha
  ·rename_i z ad hz had
   obtain ⟨g,o1,h1,h2⟩:=hx.child hz
   rw [had] at h1
   cases h1
   rw [List.nodup_cons] at hnd
   obtain ⟨k1,k2⟩:=a5f hz had hnd.2
   have hne:b≠b':=by
    rcases hbl with ⟨e,_⟩ | ⟨_,hb⟩
    ·cases e
    ·exact fun e=>hnd.1 (e▸hb)
   obtain ⟨z',q1,q2,q3⟩:=a5y p z g (o1+2*i) b' o' y xs h2 k1 ha hst hxs
   have hbz:=a0j ha
   have hil:i<x.l.length:=by
    rcases Nat.lt_or_ge i x.l.length with h | h
    ·exact h
    ·rw [List.getElem?_eq_none h] at hz;cases hz
   obtain ⟨s1,cur,ty,s2,s3⟩:=hst
   have hblk:∀ k,k≠b'→k<w.heap.size→V.heap[k]?=w.heap[k]?:=fun k e hk=>s1 k hk e
   refine ⟨⟨x.f,x.a,x.c,x.l.set i z'⟩,?_,⟨?_,?_,?_⟩,?_⟩
   ·rw [XT.tm_eq,puN,XT.tm_l,List.getElem?_map,hz]
    show Tm.mk x.f ((x.l.set i z').map XT.tm)=Tm.mk x.tm.f ((x.l.map XT.tm).set i (puN z.tm p xs.tm))
    rw [XT.tm_f,List.map_set,q1]
   ·obtain ⟨⟨c1,c2,c3,g',o1',c4,c5⟩,c6⟩:=L4.1 hx.1
    have c4':=c4 (fun e=>by rw [e] at hz;simp at hz)
    rw [had] at c4'
    cases c4'
    rw [L4]
    refine ⟨⟨by show (x.l.set i z').length≤x.c;rw [List.length_set];exact c1,c2,fun h=>by have:=c3 h;rw [List.length_set];exact this,g,o1,fun _=>had,fun j u hu=>?_⟩,fun u hu=>?_⟩
    ·have hu:(x.l.set i z')[j]?=some u:=hu
     by_cases hji:j=i
     ·subst hji
      rw [List.getElem?_set_self hil] at hu
      cases hu
      exact ⟨q2.2.1,by rw [←Nat.add_assoc];exact q2.2.2⟩
     ·rw [List.getElem?_set_ne (fun e=>hji e.symm)] at hu
      obtain ⟨⟨d1,d2⟩,d3,d4⟩:=c5 j u hu
      have hcell:∀ o v,w.cell? ⟨g,o,none⟩=some v→(g=b'→o≠o'∧o≠o'+1)→V.cell? ⟨g,o,none⟩=some v:=fun o v hc hoo=>by
       by_cases hg:g=b'
       ·subst hg
        obtain ⟨e1,e2⟩:=hoo rfl
        simp only [World.cell?,s2] at hc
        simp only [World.cell?,s3]
        have hc:cur[o]?=some v:=by simpa using hc
        simp [Array.getElem?_setIfInBounds,Ne.symm e1,Ne.symm e2,hc]
       ·rw [j7 (hblk g hg (World.block_lt_of_cell? w _ hc))];exact hc
      have hoo:g=b'→o'=o1+2*i:=fun e=>by
       rcases hbz with ⟨_,_,h⟩ | ⟨_,h⟩
       ·exact h
       ·rw [List.nodup_cons] at k1
        exact absurd (e▸h) k1.1
      exact ⟨⟨d1,hcell _ _ d2 fun e=>by have:=hoo e;omega⟩,d3,hcell _ _ d4 fun e=>by have:=hoo e;omega⟩
    ·have hu:u∈x.l.set i z':=hu
     obtain ⟨j,hj⟩:=List.getElem?_of_mem hu
     by_cases hji:j=i
     ·subst hji
      rw [List.getElem?_set_self hil] at hj
      cases hj
      exact q2.1
     ·rw [List.getElem?_set_ne (fun e=>hji e.symm)] at hj
      refine (c6 u (List.mem_of_getElem? hj)).keepB fun k o v hk hu hc=>⟨hu,?_⟩
      obtain ⟨e1,e2⟩:=k2 j u hj hji k hk
      have:k≠b':=by
       rcases hbz with ⟨_,h,_⟩ | ⟨_,h⟩
       ·rw [h];exact e1
       ·exact fun e=>e2 (e▸h)
      rw [j7 (hblk k this (World.block_lt_of_cell? w _ hc))]
      exact hc
   ·refine ⟨hx.2.1.1,?_⟩
    rw [j7 (hblk b hne (World.block_lt_of_cell? w _ hx.2.1.2))]
    exact hx.2.1.2
   ·refine ⟨hx.2.2.1,?_⟩
    rw [j7 (hblk b hne (World.block_lt_of_cell? w _ hx.2.2.2))]
    have:=hx.2.2.2
    unfold XT.h at this ⊢
    rw [List.length_set]
    exact this
   ·intro k hk
    rw [XT.bl_eq,List.mem_append,List.mem_flatMap] at hk
    rw [XT.bl_eq,List.mem_append,List.mem_flatMap]
    rcases hk with hk | ⟨u,hu,hk⟩
    ·left;left
     unfold XT.bb at hk ⊢
     have hk:k∈(match x.a,x.l.set i z' with | some ad,_::_=>[ad.block] | _,_=>[]):=hk
     rw [had] at hk ⊢
     cases hl:x.l with
     | nil=>rw [hl] at hz;simp at hz
     | cons u0 us0 =>
      cases hl2:x.l.set i z' with
      | nil=>rw [hl2] at hk;cases hk
      | cons _ _=>rw [hl2] at hk;exact hk
    ·have hu:u∈x.l.set i z':=hu
     obtain ⟨j,hj⟩:=List.getElem?_of_mem hu
     by_cases hji:j=i
     ·subst hji
      rw [List.getElem?_set_self hil] at hj
      cases hj
      rcases q3 k hk with h | h
      ·exact .inl (.inr ⟨z,List.mem_of_getElem? hz,h⟩)
      ·exact .inr h
     ·rw [List.getElem?_set_ne (fun e=>hji e.symm)] at hj
      exact .inl (.inr ⟨u,List.mem_of_getElem? hj,hk⟩)
  ·cases ha
end Go.Proofs.YtekboofbedakcaaGreat
namespace Go.Proofs.YtekboofbedakcaaGreat
open Go.RowKit
set_option linter.unusedVariables false
set_option linter.unusedSimpArgs false
set_option maxRecDepth 100000
noncomputable def trm (R:List RuT) (t:Tm):Option (Tm×Int):=match o6 (l7 R) t with
 | none=>none
 | some p=>match atN t p with
  | none=>none
  | some y=>match R.find? (fun r=>(mt r.a y []).1) with
   | none=>none
   | some r=>some (puN t p (usR r y),r.id)
theorem a0C {R:List RuT} {t:Tm} (h:o6 (l7 R) t=none):trm R t=none:=by unfold trm;rw [h]
theorem a0w {R:List RuT} {t y:Tm} {p:List Nat} {r:RuT} (h:o6 (l7 R) t=some p) (h2:atN t p=some y) (h3:R.find? (fun r=>(mt r.a y []).1)=some r):trm R t=some (puN t p (usR r y),r.id):=by
 unfold trm
 rw [h]
 simp only
 rw [h2]
 simp only
 rw [h3]
theorem Z6 {tmps:Array Value} {w:World} {g:Nat} {x y u v:Value} (hp:tmps.getD 4 undef = .pointer (some ⟨g,0,none⟩)) (h5:tmps.getD 5 undef=u) (h6:tmps.getD 6 undef=v) (hg:w.heap[g]?=some (.cells #[x,y] 37 (0,0))) :
  (results Tryz.f10 tmps).run Tryz.prog w = .ok (.tuple #[.agg #[x,y],u,v]) w:=by
 have hp':tmps[4]?.getD undef = .pointer (some ⟨g,0,none⟩):=by simpa using hp
 have h5':tmps[5]?.getD undef=u:=by simpa using h5
 have h6':tmps[6]?.getD undef=v:=by simpa using h6
 simp [results,hp',h5',h6',asAddr,run_loadVar_row w g _ 37 #[x,y] (0,0) _ hg Tryz.underlying37 rfl G9]
theorem a4d {w1:World} {g:Nat} {x y:Value} (h:w1.heap[g]?=some (.cells #[x,y] 37 (0,0))):(w1.cell? ⟨g,0,none⟩=some x∧w1.cell? ⟨g,1,none⟩=some y)∧(w1.frozen? ⟨g,0,none⟩=false∧w1.frozen? ⟨g,1,none⟩=false):=⟨⟨by simp [World.cell?,h],by simp [World.cell?,h]⟩,I4 h⟩
set_option maxHeartbeats 4000000 in
theorem U1 (W:World) (R:List RuT) (hR:∀ r∈R,b2i r) (hRl:R.length≤1000000) (t:Tm) (hr:t.rng) (hs:t.size≤90000000000) :
  AFun Tryz.prog W 10 [.lst (R.map RuT.cv),t.cw] (match trm R t.strip with | none => .tup [t.strip.cw,.i 0,.b false] | some (s,id) => .tup [s.cw,.i id,.b true]):=by
 refine ⟨r9 Tryz.func10 rfl rfl,by cases trm R t.strip<;>exact .inr rfl,by cases trm R t.strip<;>rfl,?_⟩
 obtain ⟨rv,hrv⟩:∃ rv,rv=(match trm R t.strip with | none=>AV.tup [t.strip.cw,.i 0,.b false] | some (s,id) => .tup [s.cw,.i id,.b true]):=⟨_,rfl⟩
 rw [←hrv]
 have HRV:=K3 hrv
 clear hrv
 rintro U w vs _ ⟨u1,us1,rfl,h1,u2,us2,rfl,h2,h3⟩
 have h3:us2=[]:=h3
 subst h3
 obtain ⟨a0,n0,c0,rfl,hn0,_⟩:=d8.1 h1
 rw [List.length_map] at hn0
 obtain ⟨a,n,c,rfl,hta⟩:=k9 hr h2
 obtain ⟨w0,hw0⟩:∃ w0,w0=(w.alloc (.cells #[.int .i64 t.f,.slice a n c] 37)).alloc (.cells #[.int .i64 0,.slice none 0 0] 37):=⟨_,rfl⟩
 have hX0:w0.heap[w.heap.size]?=some (.cells #[.int .i64 t.f,.slice a n c] 37 (0,0)):=by
  rw [hw0,Below.heap_alloc _ _ _ (by simp)]
  exact World.alloc_heap_new _ _
 have hX1:w0.heap[w.heap.size+1]?=some (.cells #[.int .i64 0,.slice none 0 0] 37 (0,0)):=by
  have h1:=World.alloc_heap_new (w.alloc (.cells #[.int .i64 t.f,.slice a n c] 37)) (.cells #[.int .i64 0,.slice none 0 0] 37)
  rw [World.size_alloc,←hw0] at h1
  exact h1
 have hw0s:w0.heap.size=w.heap.size+2:=by rw [hw0];simp
 have HB0:Hid (Below w.heap.size w w0):=by rw [hw0];exact bA (bA (bW _) _) _
 have HX:Hid (∀ w1,Below w0.heap.size w0 w1→w1.heap[w.heap.size]?=some (.cells #[.int .i64 t.f,.slice a n c] 37 (0,0))∧w1.heap[w.heap.size+1]?=some (.cells #[.int .i64 0,.slice none 0 0] 37 (0,0))):=fun w1 hb=>⟨(hb.block _ (by omega)).trans hX0,(hb.block _ (by omega)).trans hX1⟩
 have HCl:Hid (∀ w1,Below w0.heap.size w0 w1→Calls Tryz.prog 25 #[.agg #[.int .i64 t.f,.slice a n c]] w1 (a2d w1 t)):=fun w1 hb=>P6 t a n c w1 (hta.bw (bN HB0.out hb)) hs
 have hP:∀ (w1:World) (x1:XT) (a1:Option Addr) (n1 c1:Nat),Below w0.heap.size w0 w1→x1.tm=t.strip→x1.f=t.f→x1.h = .slice a1 n1 c1→XR (fun b _=>w0.heap.size≤b) w1 x1→(∀ b∈x1.bl,Fz w1 b) →
   ∀ w2,w2=((w1.setCell ⟨w.heap.size,0,none⟩ (.int .i64 t.f)).setCell ⟨w.heap.size,1,none⟩ (.slice a1 n1 c1))→Below w.heap.size w w2∧w0.heap.size≤w2.heap.size∧XAt (fun b _=>w.heap.size≤b) w2 w.heap.size 0 x1∧(∀ b∈w.heap.size::x1.bl,Fz w2 b)∧w2.heap[w.heap.size+1]?=some (.cells #[.int .i64 0,.slice none 0 0] 37 (0,0)):=by
  intro w1 x1 a1 n1 c1 hb hxt hxf hxh hxr hxz w2 hw2
  have hk:∀ k,k≠w.heap.size→w2.heap[k]?=w1.heap[k]?:=fun k hk=>by
   rw [hw2,Below.heap_setCell _ _ _ _ hk,Below.heap_setCell _ _ _ _ hk]
  have hbx:w2.heap[w.heap.size]?=some (.cells #[.int .i64 t.f,.slice a1 n1 c1] 37 (0,0)):=by
   rw [hw2];exact E1 (HX.out w1 hb).1 _ _
  have hs2:w2.heap.size=w1.heap.size:=by rw [hw2];simp
  have hb1s:=hb.size
  refine ⟨?_,by omega,⟨hxr.keepB fun b o v hbb hu hc=>⟨by omega,?_⟩,⟨Nat.le_refl _,?_⟩,Nat.le_refl _,?_⟩,fun b hbb=>?_,?_⟩
  ·rw [hw2]
   exact ((bN HB0.out hb).setCell (p:=⟨w.heap.size,0,none⟩) (Nat.le_refl _) _).setCell (p:=⟨w.heap.size,1,none⟩) (Nat.le_refl _) _
  ·have hne:b≠w.heap.size:=by omega
   rw [j7 (hk b hne)];exact hc
  ·rw [hxf];exact (a4d hbx).1.1
  ·rw [hxh];exact (a4d hbx).1.2
  ·rcases List.mem_cons.1 hbb with rfl | hbb
   ·exact ⟨_,_,hbx⟩
   ·obtain ⟨_,_,q⟩:=hxr.lt b hbb
    exact (hxz b hbb).same (hk b (by omega))
  ·rw [hk _ (by omega)];exact (HX.out w1 hb).2
 have HP:=K3 hP
 clear hP
 have HU:Hid (∀ w2,Below w.heap.size w w2→Calls Tryz.prog 27 #[.slice a0 n0 c0,.pointer (some ⟨w.heap.size,0,none⟩)] w2 fun e w3=>∃ v,e = .returned v∧VRep (fun _ _=>True) w3 (a8L w.heap.size 0 R) v∧Below w2.heap.size w2 w3):=fun w2 hb=>by
  refine ((T6 w w.heap.size 0 R).2.2.2 (fun _ _=>True) w2 [_,_] trivial ⟨_,_,rfl,h1.keep fun b o v _ hc=>⟨trivial,by rw [j7 (hb.block b (World.block_lt_of_cell? w _ hc))];exact hc⟩,_,_,rfl,b5.2 ⟨rfl,rfl⟩,rfl⟩).mono ?_
  rintro e w3 ⟨v,rfl,h4,h5⟩
  exact ⟨v,rfl,VRep.mono (fun _ _ _=>trivial) h4,h5⟩
 have hrs:=D4 t hr
 have HF:Hid (∀ (x1:XT) (w3:World) (v3:Value),x1.tm=t.strip→XAt (fun b _=>w.heap.size≤b) w3 w.heap.size 0 x1→(w.heap.size::x1.bl).Nodup→(∀ b∈w.heap.size::x1.bl,Fz w3 b)→VRep (fun _ _=>True) w3 (a8L w.heap.size 0 R) v3→w.heap.size≤w3.heap.size →
   Calls Tryz.prog 26 #[v3] w3 fun e V=>(o6 (l7 R) t.strip=none→e = .returned (.tuple #[.int .i64 0,.bool false])∧Below w3.heap.size w3 V)∧(∀ p,o6 (l7 R) t.strip=some p→∃ s id x',trm R t.strip=some (s,id)∧e = .returned (.tuple #[.int .i64 id,.bool true])∧x'.tm=s∧XAt (fun b _=>w.heap.size≤b) V w.heap.size 0 x'∧(∀ k,k<w3.heap.size→k∉w.heap.size::x1.bl→V.heap[k]?=w3.heap[k]?)∧(∀ k∈x'.bl,k∈x1.bl∨w3.heap.size≤k)∧V.os=w3.os∧V.tape=w3.tape∧V.output=w3.output∧w3.heap.size≤V.heap.size)):=fun x1 w3 v3 hxt hx hnd hfz hv3 hws=>by
  have hx2:XAt (fun _ _=>True) w3 w.heap.size 0 x1:=hx.keep fun _ _ _ _ hc=>⟨trivial,hc⟩
  refine (a1n R hR hRl x1 w.heap.size 0 (o6 (l7 R) x1.tm).isNone _ w3 hx2 (fun p b' o' y hadr _=>?_) rfl (fun p hp=>?_) v3 hv3).mono ?_
  ·have h5:=a0g hadr
   rw [hxt] at h5
   obtain ⟨_,k2,k3⟩:=T0 (Tm.strip_strip t) hrs h5
   rw [Tm.strip_size] at k3
   exact ⟨k2,by omega⟩
  ·obtain ⟨y,h5,h6,h7⟩:=M4 _ hp
   obtain ⟨b',o',z,h8,rfl⟩:=a6h (b:=w.heap.size) (off:=0) hx.1 h5
   refine ⟨b',o',z,h8,by rw [←XT.tm_f];exact h6,h7,hfz b' ?_⟩
   rcases a0j h8 with ⟨_,h9,_⟩ | ⟨_,h9⟩
   ·rw [h9];simp
   ·exact List.mem_cons_of_mem _ h9
  ·rintro e V ⟨k1,k2⟩
   rw [hxt] at k1 k2
   refine ⟨fun h=>k1 (by rw [h];rfl),fun p hp=>?_⟩
   obtain ⟨p',b',o',y,r,xs,g1,g2,g3,g4,g5,g6,g7,g8,g9,g10,g11,g12⟩:=k2 (by rw [hp];rfl)
   rw [hp] at g1
   cases g1
   have h5:=a0g g2
   rw [hxt] at h5
   obtain ⟨x',q1,q2,q3⟩:=a5y p x1 w.heap.size 0 b' o' y xs hx hnd g2 g8 (g6.keep fun b o v hu hc=>⟨by omega,hc⟩)
   refine ⟨_,_,x',a0w hp h5 g3,g4,by rw [q1,hxt,g5],q2,fun k hk hnk=>g8.1 k hk fun e=>hnk ?_,fun k hk=>(q3 k hk).imp id fun h=>(g6.lt k h).2.choose_spec,g9,g10,g11,g12⟩
   rw [e]
   rcases a0j g2 with ⟨_,h9,_⟩ | ⟨_,h9⟩
   ·rw [h9];simp
   ·exact List.mem_cons_of_mem _ h9
 have HW:=K3 hw0
 clear hw0
 have hq:Below w0.heap.size w0 w0:=bW _
 obtain ⟨⟨c1,c2⟩,f1,f2⟩:=a4d (HX.out w0 hq).1
 obtain ⟨⟨c3,c4⟩,f3,f4⟩:=a4d (HX.out w0 hq).2
 go_enter Tryz.func10,Tryz.ntmps10
 go_wp2_with fail
 rw [←HW.out]
 go_wp2_with (first
  | (go_at_call 27;obtain ⟨w2,hw2⟩:∃ w2,w2=((w1.setCell ⟨w.heap.size,0,none⟩ (.int .i64 t.f)).setCell ⟨w.heap.size,1,none⟩ (.slice a1 n1 c1')):=⟨_,rfl⟩;rw [←hw2];obtain ⟨p1,p2,p3,p4,p5⟩:=HP.out w1 x1 a1 n1 c1' hb1 hxt hxf hxh hxr hxz w2 hw2;clear hw2;have hcl:=HU.out w2 p1;simp only [hn0] at hcl;refine hcl.mono ?_;rintro e w3 ⟨v3,rfl,hv3,hb3⟩;dsimp only)
  | (go_at_call 25;refine (HCl.out _ hq).mono ?_;rintro e w1 ⟨x1,a1,n1,c1',hxt,hxf,hxh,rfl,hxr,hxn,hxz,hb1⟩;obtain ⟨⟨d1,d2⟩,g1,g2⟩:=a4d (HX.out w1 hb1).1;dsimp only))
 have hnd:(w.heap.size::x1.bl).Nodup:=List.nodup_cons.2 ⟨fun h=>by
  obtain ⟨_,_,q⟩:=hxr.lt _ h
  omega,hxn⟩
 have hx3:XAt (fun b _=>w.heap.size≤b) w3 w.heap.size 0 x1:=p3.keep fun b o v hu hc=>⟨hu,by rw [j7 (hb3.block b (World.block_lt_of_cell? w2 _ hc))];exact hc⟩
 have hz3:∀ b∈w.heap.size::x1.bl,Fz w3 b:=fun b hb=>(p4 b hb).bw hb3
 have hr3:w3.heap[w.heap.size+1]?=some (.cells #[.int .i64 0,.slice none 0 0] 37 (0,0)):=(hb3.block _ (by omega)).trans p5
 have hb3':Below w.heap.size w w3:=p1.trans (hb3.mono p1.size)
 have hs3:=hb3.size
 refine Calls.mono (HF.out x1 w3 v3 hxt hx3 hnd hz3 hv3 hb3'.size) ?_
 rintro e V ⟨k1,k2⟩
 have hnr:w.heap.size+1∉w.heap.size::x1.bl:=fun h=>by
  rcases List.mem_cons.1 h with h | h
  ·omega
  ·obtain ⟨_,_,q⟩:=hxr.lt _ h
   omega
 cases hfst:o6 (l7 R) t.strip with
 | none =>
  obtain ⟨rfl,hbV⟩:=k1 hfst
  clear k1 k2
  have hxV:XAt (fun b _=>w.heap.size≤b) V w.heap.size 0 x1:=hx3.keep fun b o v hu hc=>⟨hu,by rw [j7 (hbV.block b (World.block_lt_of_cell? w3 _ hc))];exact hc⟩
  have hrV:=(hbV.block _ (by omega)).trans hr3
  obtain ⟨⟨e3,e4⟩,i1,i2⟩:=a4d hrV
  have e1:=hxV.2.1.2
  have e2:=hxV.2.2.2
  rw [hxf] at e1
  rw [hxh] at e2
  rw [Nat.zero_add] at e2
  dsimp only
  go_wp2_with fail
  refine bodyPost_ret (Z6 (u := .int .i64 0) (v := .bool false) (g:=w.heap.size+1) rfl rfl rfl (E1 hrV _ _)) rfl ?_
  have hrv:=HRV.out
  rw [a0C hfst] at hrv
  rw [hrv]
  refine ⟨_,rfl,⟨[_,_,_],rfl,_,_,rfl,?_,_,_,rfl,b5.2 ⟨rfl,rfl⟩,_,_,rfl,b5.2 ⟨rfl,rfl⟩,rfl⟩,?_⟩
  ·refine A5.2 ⟨[.int .i64 t.f,.slice a1 n1 c1'],rfl,[.int .i64 t.f],[.slice a1 n1 c1'],rfl,by rw [Tm.strip_f];exact F3 _ _,[.slice a1 n1 c1'],[],rfl,?_,rfl⟩
   rw [←hxt,XT.tm_l,←a0i,←hxh]
   refine H4 (hxV.1.keepB fun b o v hbb hu hc=>⟨.inr hu,?_⟩)
   obtain ⟨_,_,q⟩:=hxr.lt b hbb
   rw [j7 (by rw [Below.heap_setCell _ _ _ _ (by show b≠w.heap.size+1;omega),Below.heap_setCell _ _ _ _ (by show b≠w.heap.size+1;omega)]:_=(V.heap[b]?:Option Obj))]
   exact hc
  ·have h5:Below w.heap.size w V:=hb3'.trans (hbV.mono hb3'.size)
   exact (h5.setCell (p:=⟨w.heap.size+1,0,none⟩) (by show w.heap.size≤w.heap.size+1;omega) _).setCell (p:=⟨w.heap.size+1,1,none⟩) (by show w.heap.size≤w.heap.size+1;omega) _
 | some p =>
  obtain ⟨s,id,x',g1,rfl,g3,hxV,g5,gb,g6,g7,g8,g9⟩:=k2 p hfst
  clear k1 k2
  have hrV:=(g5 _ (by omega) hnr).trans hr3
  obtain ⟨⟨e3,e4⟩,i1,i2⟩:=a4d hrV
  have e1:=hxV.2.1.2
  have e2:=hxV.2.2.2
  rw [Nat.zero_add] at e2
  obtain ⟨a9,n9,c9,h9⟩:∃ a n c,x'.h = .slice a n c:=⟨_,_,_,rfl⟩
  rw [h9] at e2
  dsimp only
  go_wp2_with fail
  refine bodyPost_ret (Z6 (u := .int .i64 id) (v := .bool true) (g:=w.heap.size+1) rfl rfl rfl (E1 hrV _ _)) rfl ?_
  have hrv:=HRV.out
  rw [g1] at hrv
  rw [hrv]
  refine ⟨_,rfl,⟨[_,_,_],rfl,_,_,rfl,?_,_,_,rfl,b5.2 ⟨rfl,rfl⟩,_,_,rfl,b5.2 ⟨rfl,rfl⟩,rfl⟩,?_⟩
  ·refine A5.2 ⟨[.int .i64 x'.f,.slice a9 n9 c9],rfl,[.int .i64 x'.f],[.slice a9 n9 c9],rfl,by rw [←g3,XT.tm_f];exact F3 _ _,[.slice a9 n9 c9],[],rfl,?_,rfl⟩
   rw [←g3,XT.tm_l,←a0i,←h9]
   refine H4 (hxV.1.keepB fun b o v hbb hu hc=>⟨.inr hu,?_⟩)
   have hne:b≠w.heap.size+1:=by
    rcases gb b hbb with h | h
    ·obtain ⟨_,_,q⟩:=hxr.lt b h
     omega
    ·omega
   rw [j7 (by rw [Below.heap_setCell _ _ _ _ hne,Below.heap_setCell _ _ _ _ hne]:_=(V.heap[b]?:Option Obj))]
   exact hc
  ·have h5:Below w.heap.size w V:=⟨g6.trans hb3'.os,g7.trans hb3'.tape,g8.trans hb3'.output,by have:=hb3'.size;omega,fun k hk=>(g5 k (by omega) fun h=>by
    rcases List.mem_cons.1 h with h | h
    ·omega
    ·obtain ⟨_,_,q⟩:=hxr.lt _ h
     omega).trans (hb3'.block k hk)⟩
   exact (h5.setCell (p:=⟨w.heap.size+1,0,none⟩) (by show w.heap.size≤w.heap.size+1;omega) _).setCell (p:=⟨w.heap.size+1,1,none⟩) (by show w.heap.size≤w.heap.size+1;omega) _
end Go.Proofs.YtekboofbedakcaaGreat
namespace Go.Proofs.YtekboofbedakcaaGreat
open Go.RowKit
set_option linter.unusedVariables false
structure Lt where
 neg:Bool
 a:Tm
 b:Tm
noncomputable abbrev Lt.cw (l:Lt):CV := .row [.b l.neg,l.a.cw,l.b.cw]
noncomputable def Lt.cv (l:Lt):CV:=l.cw
theorem Lt.size_all (c:List Lt):∀ x∈c.map Lt.cv,x.size=5:=by
 intro x hx
 obtain ⟨l,_,rfl⟩:=List.mem_map.1 hx
 rfl
theorem Lt.map_at {c:List Lt} {i:Nat} {l:Lt} (h:c[i]?=some l):(c.map Lt.cv)[i]?=some l.cw:=by rw [List.getElem?_map,h];rfl
def Lt.strip (l:Lt):Lt:=⟨l.neg,l.a.strip,l.b.strip⟩
def Lt.rng (l:Lt):Prop:=l.a.rng∧l.b.rng
end Go.Proofs.YtekboofbedakcaaGreat
namespace Go.Proofs.YtekboofbedakcaaGreat
open Go.RowKit
set_option linter.unusedVariables false
set_option linter.unusedSimpArgs false
set_option maxRecDepth 100000
theorem b5J (l:List Tm) {v:Int} (hv:0≤v):a8P (-1-v) l=(vsL l).count v:=by
 unfold a8P vsL
 induction l with
 | nil=>rfl
 | cons t l ih =>
  rw [List.filter_cons,List.filter_cons]
  by_cases h:t.f = -1-v
  ·have h2:t.f<0:=by omega
   rw [if_pos (by simpa using h),if_pos (by simpa using h2),List.length_cons,ih,List.map_cons,List.count_cons]
   simp only [beq_iff_eq]
   rw [if_pos (by omega)]
  ·rw [if_neg (by simpa using h)]
   by_cases h2:t.f<0
   ·rw [if_pos (by simpa using h2),ih,List.map_cons,List.count_cons]
    simp only [beq_iff_eq]
    rw [if_neg (by omega)]
    rfl
   ·rw [if_neg (by simpa using h2)];exact ih
theorem a2L (W:World) (t:Tm) (v:Int) (hr:t.rng) (hok:t.ok) (hts:t.size≤90000000000) (hv:0≤v∧v≤9223372036854775807):AFun Tryz.prog W 105 [t.cw,.i v] (.val (.i (t.vs.count v:Nat))):=by
 rw [show t.vs.count v=a8P (-1-v) t.flat from (b5J t.flat hv.1).symm]
 refine a8 (rs:=[.i (a8P (-1-v) t.flat:Nat)]) Tryz.func105 Tryz.ntmps105 rfl rfl rfl rfl ?_
 intro w U hW
 refine aS (aR ?_)
 refine nc zb (nc zd ?_)
 refine aS (aR ?_)
 refine nc zE (nc (zn (z:=L1 w t hok hts)) (nc zd ?_))
 unfold Tm.size at hts
 obtain ⟨l,hl⟩:∃ l,l=t.flat:=⟨_,rfl⟩
 rw [←hl] at hts ⊢
 have hsz:=Tm.size_all l
 refine aS (aR ?_)
 refine nc zd ?_
 refine aS (aS (aR ?_))
 refine nc zd ?_
 refine aB (b9 l.length (fun i=>[(1,.val (.i v)),(5,.val (.lst (l.map Tm.cv))),(6,.val (.i (a8P (-1-v) (l.take i):Nat))),(7,.val (.i i))]) (a7 ⟨rfl,rfl,rfl,rfl,trivial⟩) ?_)
 intro i hi
 refine aS (aS (aR ?_))
 refine nc zj (nc zj (nc zp (nc zh ?_)))
 refine aC rfl (fun hc=>aK ?_) (fun hc=>aE ?_)
 ·have hil:i<l.length:=by
   simp only [List.length_map,decide_eq_true_eq] at hc
   omega
  clear hc
  obtain ⟨s,hs⟩:∃ s,l[i]?=some s:=⟨l[i],List.getElem?_eq_getElem hil⟩
  have hs':=Tm.map_at hs
  have htk:l.take (i+1)=l.take i++[s]:=by rw [List.take_add_one,hs];rfl
  have hcl:=b5I (-1-v) (l.take i)
  rw [List.length_take] at hcl
  refine aS (aB (aS (aR ?_)))
  refine nc zj (nc zj (nc (zz (H:=by assumption) (hz:=by first | assumption | exact sZ rfl | exact Tm.size_all _ | exact Bd.size_all _ | exact b8 _ | exact bys_size _ | exact Lt.size_all _)) (nc zS (nc zA (nc zj (nc zi (nc zC ?_)))))))
  refine aC rfl (fun hc=>?_) (fun hc=>aK ?_)
  ·have hsf:s.f = -1-v:=by simpa using hc
   refine aR ?_
   refine nc zj (nc zu (nc zd ?_))
   refine aR ?_
   refine nc zj (nc zu (nc zd ?_))
   refine ⟨hil,a7 ⟨rfl,rfl,?_,rfl,trivial⟩⟩
   rw [htk,a4s,if_pos hsf]
   rfl
  ·have hsf:¬ s.f = -1-v:=by simpa using hc
   refine aR ?_
   refine nc zj (nc zu (nc zd ?_))
   refine ⟨hil,a7 ⟨rfl,rfl,?_,rfl,trivial⟩⟩
   rw [htk,a4s,if_neg hsf]
   rfl
 ·have hil:i=l.length:=by
   simp only [List.length_map,decide_eq_false_iff_not] at hc
   omega
  subst hil
  rw [List.take_length]
  refine aS (aR ?_)
  refine nc zj (nc zd ?_)
  exact aT ⟨.inr rfl,rfl⟩
theorem b3v (a b:Tm):cov a b↔∀ v∈b.nv,b.vs.count v≤a.vs.count v:=by
 unfold cov Tm.nv
 constructor
 ·intro h v _;exact h v
 ·intro h v
  by_cases hv:v∈b.vs
  ·exact h v ((a5R _ v).2 hv)
  ·rw [List.count_eq_zero_of_not_mem hv];omega
theorem b6Q {t:Tm} (hr:t.rng):∀ v∈t.vs,0≤v∧v≤9223372036854775807:=by
 intro v hv
 unfold Tm.vs vsL at hv
 obtain ⟨s,hs,rfl⟩:=List.mem_map.1 hv
 rw [List.mem_filter] at hs
 have h1:=Tm.rng_flat hr s hs.1
 have h2:s.f<0:=by simpa using hs.2
 omega
theorem a6m (W:World) (a b:Tm) (ha:a.rng) (hao:a.ok) (has:a.size≤90000000000) (hb:b.rng) (hbo:b.ok) (hbs:b.size≤90000000000):AFun Tryz.prog W 75 [a.cw,b.cw] (.val (.b (b0o a b))):=by
 refine a8 (rs:=[.b (b0o a b)]) Tryz.func75 Tryz.ntmps75 rfl rfl rfl rfl ?_
 intro w U hW
 have hvl:=a1j b.flat
 refine aS (aR ?_)
 refine nc zb (nc zb (nc zd ?_))
 have f1:=a6J w b hb hbo hbs
 rw [a9G] at f1 hvl
 refine aS (aR ?_)
 refine nc zE (nc (zn (z:=f1)) (nc zd ?_))
 have hvr:∀ v∈b.nv,0≤v∧v≤9223372036854775807:=fun v hv=>b6Q hb v ((a5R _ v).1 hv)
 have hcv:=b3v a b
 obtain ⟨l,hl⟩:∃ l,l=b.nv:=⟨_,rfl⟩
 rw [←hl] at hvl hvr hcv ⊢
 unfold Tm.size at hbs
 have hsz:=b8 l
 refine aS (aS (aR ?_))
 refine nc zd ?_
 refine aB (p6 l.length (fun i=>∀ j v,j<i→l[j]?=some v→b.vs.count v≤a.vs.count v) (fun i=>[(2,.bp 2 0 []),(100002,.bx a.cw),(3,.bp 3 0 []),(100003,.bx b.cw),(5,.val (.lst (l.map CV.i))),(6,.val (.i i))]) (a7 ⟨rfl,rfl,rfl,rfl,rfl,rfl,trivial⟩) (fun j v hj=>by omega) ?_)
 intro i hi hI
 refine aS (aS (aR ?_))
 refine nc zj (nc zj (nc zp (nc zh ?_)))
 refine aC rfl (fun hc=>aK ?_) (fun hc=>aE ?_)
 ·have hil:i<l.length:=by
   simp only [List.length_map,decide_eq_true_eq] at hc
   omega
  clear hc
  obtain ⟨v,hv⟩:∃ v,l[i]?=some v:=⟨l[i],List.getElem?_eq_getElem hil⟩
  have hv':=C3 hv
  have hvm:=List.mem_of_getElem? hv
  have c1:=a2L w b v hb hbo (by unfold Tm.size;omega) (hvr v hvm)
  have c2:=a2L w a v ha hao has (hvr v hvm)
  refine aS (aB (aS (aD (by kernel_rfl) (by kernel_rfl) ?_)))
  refine nc zE (nc zj (nc zj (nc (zz (j:=i) (H:=hv') (hz:=hsz)) (nc zA (nc (zn (z:=c1)) (nc zE (nc zj (nc zj (nc (zz (j:=i) (H:=hv') (hz:=hsz)) (nc zA (nc (zn (z:=c2)) (nc zT ?_))))))))))))
  refine ⟨by kernel_rfl,?_⟩
  refine aC rfl (fun hc=>?_) (fun hc=>aK ?_)
  ·have hn:¬ b.vs.count v≤a.vs.count v:=by
    have:=of_decide_eq_true hc
    omega
   have hcf:b0o a b=false:=by
    rw [←Bool.not_eq_true,a0u,hcv]
    exact fun h=>hn (h v hvm)
   rw [hcf]
   refine aS (aR ?_)
   refine nc zd ?_
   exact aT ⟨.inr rfl,rfl⟩
  ·have hn:b.vs.count v≤a.vs.count v:=by
    have:=of_decide_eq_false hc
    omega
   refine aR ?_
   refine nc zj (nc zu (nc zd ?_))
   refine ⟨hil,fun j u hj hu=>?_,a7 ⟨rfl,rfl,rfl,rfl,rfl,rfl,trivial⟩⟩
   rcases Nat.lt_or_ge j i with h | h
   ·exact hI j u h hu
   ·have:j=i:=by omega
    subst this
    rw [hv] at hu
    cases hu
    exact hn
 ·have hil:i=l.length:=by
   simp only [List.length_map,decide_eq_false_iff_not] at hc
   omega
  subst hil
  have hcf:b0o a b=true:=by
   rw [a0u,hcv]
   intro v hv
   obtain ⟨j,hj⟩:=List.getElem?_of_mem hv
   refine hI j v ?_ hj
   rcases Nat.lt_or_ge j l.length with h | h
   ·exact h
   ·rw [List.getElem?_eq_none h] at hj;cases hj
  rw [hcf]
  refine aS (aR ?_)
  refine nc zd ?_
  exact aT ⟨.inr rfl,rfl⟩
theorem a2I (a b:Tm):A9 a b=decide (kb a b=0):=by rw [Bool.eq_iff_iff,x7,decide_eq_true_iff,a5Q]
set_option maxHeartbeats 2000000 in
theorem Z8 (W:World):∀ a:Tm,a.rng→a.ok→a.size≤90000000000→∀ b:Tm,b.rng→b.ok→b.size≤90000000000→AFun Tryz.prog W 42 [a.cw,b.cw] (.val (.b (decide (kb a b=1)))):=by
 intro a
 induction a using Tm.ind generalizing W with
 | h f l ih =>
 intro ha hao has b hb hbo hbs
 obtain ⟨a,hae⟩:∃ a,a=Tm.mk f l:=⟨_,rfl⟩
 have hfa:a.f=f:=by rw [hae]
 have hla:a.l=l:=by rw [hae]
 rw [←hae] at ha hao has ⊢
 rw [←hla] at ih
 clear hae hfa hla
 have hok':=(Tm.ok_iff _).1 hao
 have hr':=(Tm.rng_iff _).1 ha
 have hbok':=(Tm.ok_iff _).1 hbo
 have hbr':=(Tm.rng_iff _).1 hb
 have hsz:=Tm.size_all a.l
 have hsz2:=Tm.size_all b.l
 obtain ⟨K,hK⟩:∃ K,K=decide (kb a b=1):=⟨_,rfl⟩
 rw [←hK]
 refine a8 (rs:=[.b K]) Tryz.func42 Tryz.ntmps42 rfl rfl rfl rfl ?_
 intro w U hW
 refine aS (aR ?_)
 refine nc zb (nc zb (nc zd ?_))
 have s1:=L2 w a b hao hbo
 have c1:=a6m w a b ha hao has hb hbo hbs
 by_cases hs:A9 a b=true
 ·have hk:kb a b=0:=by rw [a2I] at hs;exact of_decide_eq_true hs
  rw [hs] at s1
  rw [hK,hk]
  refine aS (aS (aR ?_))
  refine nc zE (nc zE (nc (zn (z:=s1)) (nc zj (nc zM (nc zM (nc zM (nc zM (nc zO ?_))))))))
  refine aC rfl (fun hc=>?_) (fun hc=>by cases hc)
  refine aS (aR ?_)
  refine nc zd ?_
  exact aT ⟨.inr rfl,rfl⟩
 have hs:A9 a b=false:=by simpa using hs
 have hk0:kb a b≠0:=by rw [a2I] at hs;exact of_decide_eq_false hs
 rw [hs] at s1
 by_cases hcv:b0o a b=true
 case neg =>
  have hk:¬ kb a b=1:=fun h=>hcv ((a0u a b).2 ((a6e a b).1 h).1)
  have hcv:b0o a b=false:=by simpa using hcv
  rw [hcv] at c1
  have hK0:K=false:=by rw [hK];simpa using hk
  rw [hK0]
  refine aS (aS (aR ?_))
  refine nc zE (nc zE (nc (zn (z:=s1)) (nc zj (nc (zE (p:=gc)) (nc (zE (p:=gc)) (nc (zn (p:=gc) (z:=c1)) (nc (zt (r:=gc)) (nc zN ?_))))))))
  refine aC rfl (fun hc=>?_) (fun hc=>by cases hc)
  refine aS (aR ?_)
  refine nc zd ?_
  exact aT ⟨.inr rfl,rfl⟩
 have hcov:=(a0u a b).1 hcv
 rw [hcv] at c1
 refine aS (aS (aR ?_))
 refine nc zE (nc zE (nc (zn (z:=s1)) (nc zj (nc (zE (p:=gc)) (nc (zE (p:=gc)) (nc (zn (p:=gc) (z:=c1)) (nc (zt (r:=gc)) (nc zN ?_))))))))
 refine aC rfl (fun hc=>by cases hc) (fun hc=>aK ?_)
 refine aS (aD (by kernel_rfl) (by kernel_rfl) ?_)
 refine nc zE (nc (zn (z:=L1 w a hao has)) (nc zp (nc zE (nc (zn (z:=L1 w b hbo hbs)) (nc zp (nc zd (nc zd ?_)))))))
 refine ⟨by kernel_rfl,?_⟩
 have ea:(a.flat.map Tm.cv).length=a.size:=List.length_map ..
 have eb:(b.flat.map Tm.cv).length=b.size:=List.length_map ..
 have hKeq:K=true↔b.size<a.size∨(a.size=b.size∧wi a b=1):=by
  rw [hK,decide_eq_true_iff,a6e]
  exact ⟨fun h=>h.2,fun h=>⟨hcov,h⟩⟩
 refine AWp.wk (a7 (s':=[(2,AV.bp 2 0 []),(100002,.bx a.cw),(3,.bp 3 0 []),(100003,.bx b.cw),(5,.val (.i (a.size:Int))),(6,.val (.i (b.size:Int)))]) ⟨rfl,rfl,rfl,rfl,?_,?_,trivial⟩) ?_
 ·rw [←ea];rfl
 ·rw [←eb];rfl
 by_cases hmn:a.size=b.size
 case neg =>
  have g:decide ((a.size:Int)≠(b.size:Int))=true:=by simp;omega
  have hr:decide ((a.size:Int)>(b.size:Int))=K:=by
   rw [Bool.eq_iff_iff,decide_eq_true_iff,hKeq]
   omega
  refine aS (aS (aR ?_))
  refine nc zj (nc zj (nc zK (nc zj (nc zM (nc zM (nc zM (nc zO (nc zj (nc zM (nc zM (nc zM (nc zO ?_))))))))))))
  refine aC rfl (fun hc=>?_) (fun hc=>by cases hc)
  refine aS (aR ?_)
  refine nc zj (nc zj (nc zT (nc zd ?_)))
  refine aT ⟨.inr rfl,?_⟩
  rw [←hr];rfl
 have g:decide ((a.size:Int)≠(b.size:Int))=false:=by simp;omega
 have hr:decide ((a.size:Int)>(b.size:Int))=false:=by simp;omega
 by_cases haf:a.f<0
 ·have g2:decide (a.f<0)=true:=by simpa using haf
  have hK0:K=false:=by
   rw [←Bool.not_eq_true,hKeq,a9l]
   omega
  refine aS (aS (aR ?_))
  refine nc zj (nc zj (nc zK (nc zj (nc (ze (r:=gc)) (nc (zg (r:=gc)) (nc (zh (r:=gc)) (nc zN (nc zj (nc zM (nc zM (nc zM (nc zO ?_))))))))))))
  refine aC rfl (fun hc=>?_) (fun hc=>by cases hc)
  refine aS (aR ?_)
  refine nc zj (nc zj (nc zT (nc zd ?_)))
  refine aT ⟨.inr rfl,?_⟩
  rw [hK0,←hr];rfl
 have g2:decide (a.f<0)=false:=by simpa using haf
 refine aS (aS (aR ?_))
 refine nc zj (nc zj (nc zK (nc zj (nc (ze (r:=gc)) (nc (zg (r:=gc)) (nc (zh (r:=gc)) (nc zN (nc zj (nc (ze (r:=gc)) (nc (zg (r:=gc)) (nc (zh (r:=gc)) (nc zN ?_))))))))))))
 refine aC rfl (fun hc=>?_) (fun hc=>aK ?_)
 ·have hbf:b.f<0:=by simpa using hc
  have hK0:K=false:=by
   rw [←Bool.not_eq_true,hKeq,a9l]
   omega
  refine aS (aR ?_)
  refine nc zj (nc zj (nc zT (nc zd ?_)))
  refine aT ⟨.inr rfl,?_⟩
  rw [hK0,←hr];rfl
 have hbf:¬ b.f<0:=by simpa using hc
 clear hc
 have hKw:K=true↔b.f<a.f∨(a.f=b.f∧(b.l.length<a.l.length∨(a.l.length=b.l.length∧kbs a.l b.l=1))):=by
  rw [hKeq,a9l]
  constructor
  ·rintro (h | ⟨_,_,_,h⟩)
   ·omega
   ·exact h
  ·intro h;exact .inr ⟨hmn,haf,hbf,h⟩
 refine aS (aS (aR ?_))
 refine nc ze (nc zg (nc ze (nc zg (nc zK ?_))))
 refine aC rfl (fun hc=>?_) (fun hc=>aK ?_)
 ·have hne:a.f≠b.f:=by simpa using hc
  have hr:decide (a.f>b.f)=K:=by
   rw [Bool.eq_iff_iff,decide_eq_true_iff,hKw]
   omega
  refine aS (aR ?_)
  refine nc ze (nc zg (nc ze (nc zg (nc zT (nc zd ?_)))))
  refine aT ⟨.inr rfl,?_⟩
  rw [←hr];rfl
 have hff:a.f=b.f:=by simpa using hc
 clear hc
 refine aS (aS (aR ?_))
 refine nc ze (nc zg (nc zp (nc ze (nc zg (nc zp (nc zK ?_))))))
 refine aC rfl (fun hc=>?_) (fun hc=>aK ?_)
 ·have hne:a.l.length≠b.l.length:=by
   have:=of_decide_eq_true hc
   simp only [List.length_map] at this
   omega
  have hr:decide (((a.l.map Tm.cv).length:Int)>((b.l.map Tm.cv).length:Int))=K:=by
   rw [Bool.eq_iff_iff,decide_eq_true_iff,hKw,List.length_map,List.length_map]
   omega
  refine aS (aR ?_)
  refine nc ze (nc zg (nc zp (nc ze (nc zg (nc zp (nc zT (nc zd ?_)))))))
  refine aT ⟨.inr rfl,?_⟩
  rw [←hr];rfl
 have hll:a.l.length=b.l.length:=by
  have:=of_decide_eq_false hc
  simp only [List.length_map] at this
  omega
 clear hc
 refine aS (aR ?_)
 refine nc zd ?_
 refine aS ?_
 refine aB (p6 a.l.length (fun k=>∀ (j:Nat) u v,j<k→a.l[j]?=some u→b.l[j]?=some v→kb u v=0) (fun k=>[(2,.bp 2 0 []),(100002,.bx a.cw),(3,.bp 3 0 []),(100003,.bx b.cw),(7,.val (.i k))]) (a7 ⟨rfl,rfl,rfl,rfl,rfl,trivial⟩) (fun j u v hj=>by omega) ?_)
 intro k hk hI
 have hkl:k<a.l.length:=by
  rcases Nat.lt_or_ge k a.l.length with h | h
  ·exact h
  ·exfalso
   obtain ⟨e1,e2⟩:=a0y (l:=a.l) (m:=b.l) fun j u v hu hv=>hI j u v (by
    rcases Nat.lt_or_ge j a.l.length with h | h
    ·omega
    ·rw [List.getElem?_eq_none h] at hu;cases hu) hu hv
   apply hk0
   rw [I7,y7]
   unfold wi
   rw [Tm.ps_of_sym (t:=a) (by omega),Tm.ps_of_sym (t:=b) (by omega),if_neg (by omega)]
   exact e2
 obtain ⟨x,hx⟩:∃ x,a.l[k]?=some x:=⟨a.l[k],List.getElem?_eq_getElem hkl⟩
 obtain ⟨y,hy⟩:∃ y,b.l[k]?=some y:=⟨b.l[k]'(by omega),List.getElem?_eq_getElem (by omega)⟩
 have hx':=Tm.map_at hx
 have hy':=Tm.map_at hy
 have hxm:=List.mem_of_getElem? hx
 have hym:=List.mem_of_getElem? hy
 have hxs:=Tm.size_part (t:=a) (s:=x) (by rw [Tm.ps_of_sym (by omega)];exact hxm)
 have hys:=Tm.size_part (t:=b) (s:=y) (by rw [Tm.ps_of_sym (by omega)];exact hym)
 have s2:=L2 w x y (hok'.2 x hxm) (hbok'.2 y hym)
 have hrec:=ih x hxm w (hr'.2 x hxm) (hok'.2 x hxm) (by omega) y (hbr'.2 y hym) (hbok'.2 y hym) (by omega)
 refine aS (aS (aD (by kernel_rfl) (by kernel_rfl) ?_))
 refine nc ze (nc zg (nc zj (nc (zz (j:=k) (H:=hx') (hz:=hsz)) (nc zA (nc ze (nc zg (nc zj (nc (zz (j:=k) (H:=hy') (hz:=hsz2)) (nc zA (nc (zn (z:=s2)) ?_))))))))))
 refine ⟨by kernel_rfl,?_⟩
 refine aC rfl (fun hc=>aK ?_) (fun hc=>aE ?_)
 ·have h0:kb x y=0:=by rw [a2I] at hc;exact of_decide_eq_true hc
  refine aB (aR ?_)
  refine nc zj (nc zu (nc zd ?_))
  refine ⟨hkl,fun j u v hj hu hv=>?_,a7 ⟨rfl,rfl,rfl,rfl,rfl,trivial⟩⟩
  rcases Nat.lt_or_ge j k with h | h
  ·exact hI j u v h hu hv
  ·have:j=k:=by omega
   subst this
   rw [hx] at hu
   rw [hy] at hv
   cases hu;cases hv
   exact h0
 ·have hne:kb x y≠0:=by rw [a2I] at hc;exact of_decide_eq_false hc
  obtain ⟨e1,e2⟩:=a6f hx hy hne hI
  have hr:decide (kb x y=1)=K:=by
   rw [Bool.eq_iff_iff,decide_eq_true_iff,hKw,e2]
   omega
  rw [hr] at hrec
  refine aS (aD (by kernel_rfl) (by kernel_rfl) ?_)
  refine nc ze (nc zg (nc zj (nc (zz (j:=k) (H:=hx') (hz:=hsz)) (nc zA (nc ze (nc zg (nc zj (nc (zz (j:=k) (H:=hy') (hz:=hsz2)) (nc zA (nc (zn (z:=hrec)) (nc zd ?_)))))))))))
  refine ⟨by kernel_rfl,?_⟩
  exact aT ⟨.inr rfl,rfl⟩
abbrev ruZ:CV := .row [.i 0,.row [.i 0,.lst []],.row [.i 0,.lst []]]
def Lt.ok17 (l:Lt):Prop:=(l.a.rng∧l.a.ok∧l.a.size≤1000000)∧(l.b.rng∧l.b.ok∧l.b.size≤1000000)
noncomputable def ofR (id:Int):List Lt→Option RuT
 | [l]=>if l.neg=true then none else if kb l.a l.b=1 then some ⟨id,l.a.strip,l.b.strip⟩ else if kb l.b l.a=1 then some ⟨id,l.b.strip,l.a.strip⟩ else none
 | _=>none
noncomputable def ofD (id:Int):List Lt→Option RuT
 | [l]=>if l.neg=true then none else if kb l.a l.b=1 then some ⟨id,l.a,l.b⟩ else if kb l.b l.a=1 then some ⟨id,l.b,l.a⟩ else none
 | _=>none
theorem a0T (id:Int) (a b:Tm):ofR id [⟨false,a,b⟩]=if kb a b=1 then some ⟨id,a.strip,b.strip⟩ else if kb b a=1 then some ⟨id,b.strip,a.strip⟩ else none:=by
 simp [ofR]
theorem a2p (id:Int) (a b:Tm):ofD id [⟨false,a,b⟩]=if kb a b=1 then some ⟨id,a,b⟩ else if kb b a=1 then some ⟨id,b,a⟩ else none:=by
 simp [ofD]
noncomputable def ruE (o:Option RuT):AV:=match o with
 | none => .tup [ruZ,.b false]
 | some r => .tup [r.cw,.b true]
theorem a6S (W:World) (id:Int) (c:List Lt) (h:c.length≠1):AFun Tryz.prog W 18 [.i id,.lst (c.map Lt.cv)] (.tup [ruZ,.b false]):=by
 have g:decide (((c.map Lt.cv).length:Int)≠1)=true:=by simp;omega
 refine a8 (rs:=[ruZ,.b false]) Tryz.func18 Tryz.ntmps18 rfl rfl rfl rfl ?_
 intro w U hW
 refine aS (aR ?_)
 refine nc zw (nc zd ?_)
 refine aS (aS (aR ?_))
 refine nc zj (nc zp (nc zK (nc zj (nc zM (nc zM (nc zM (nc zM (nc zO ?_))))))))
 refine aC rfl (fun _=>?_) (fun hc=>by cases hc)
 refine aS (aR ?_)
 refine nc zx (nc zy (nc zd ?_))
 exact aT ⟨.inr rfl,rfl⟩
theorem b4K (W:World) (id:Int) (a b:Tm):AFun Tryz.prog W 18 [.i id,.lst ([(⟨true,a,b⟩:Lt)].map Lt.cv)] (.tup [ruZ,.b false]):=by
 have hl':([(⟨true,a,b⟩:Lt)].map Lt.cv)[0]?=some (Lt.mk true a b).cw:=rfl
 have hz:=Lt.size_all [(⟨true,a,b⟩:Lt)]
 refine a8 (rs:=[ruZ,.b false]) Tryz.func18 Tryz.ntmps18 rfl rfl rfl rfl ?_
 intro w U hW
 refine aS (aR ?_)
 refine nc zw (nc zd ?_)
 refine aS (aS (aR ?_))
 refine nc zj (nc zp (nc zK (nc zj (nc (zj (p:=gc)) (nc (zz (j:=0) (r:=gc) (H:=hl') (hz:=hz)) (nc (zS (r:=gc)) (nc (zA (r:=gc)) (nc zN ?_))))))))
 refine aC rfl (fun _=>?_) (fun hc=>by cases hc)
 refine aS (aR ?_)
 refine nc zx (nc zy (nc zd ?_))
 exact aT ⟨.inr rfl,rfl⟩
set_option maxHeartbeats 1000000 in
theorem b4O (W:World) (id:Int) (a b:Tm) (hl:(Lt.mk false a b).ok17):AFun Tryz.prog W 18 [.i id,.lst ([(⟨false,a,b⟩:Lt)].map Lt.cv)] (ruE (ofR id [⟨false,a,b⟩])):=by
 obtain ⟨⟨har,hao,has⟩,hbr,hbo,hbs⟩:=hl
 have har:a.rng:=har
 have hao:a.ok:=hao
 have has:a.size≤1000000:=has
 have hbr:b.rng:=hbr
 have hbo:b.ok:=hbo
 have hbs:b.size≤1000000:=hbs
 have hl':([(⟨false,a,b⟩:Lt)].map Lt.cv)[0]?=some (Lt.mk false a b).cw:=rfl
 have hz:=Lt.size_all [(⟨false,a,b⟩:Lt)]
 have hk:=fun w=>a7H w a b har hao (by omega) hbr hbo (by omega)
 have hca:=fun w=>D7 w har (by omega:a.size≤90000000000)
 have hcb:=fun w=>D7 w hbr (by omega:b.size≤90000000000)
 by_cases h1:kb a b=1
 ·have e:ofR id [(⟨false,a,b⟩:Lt)]=some ⟨id,a.strip,b.strip⟩:=by rw [a0T,if_pos h1]
  rw [e]
  rw [h1] at hk
  show AFun _ _ _ _ (.tup [RuT.cw ⟨id,a.strip,b.strip⟩,.b true])
  refine a8 (rs:=[RuT.cw ⟨id,a.strip,b.strip⟩,.b true]) Tryz.func18 Tryz.ntmps18 rfl rfl rfl rfl ?_
  intro w U hW
  refine aS (aR ?_)
  refine nc zw (nc zd ?_)
  refine aS (aS (aR ?_))
  refine nc zj (nc zp (nc zK (nc zj (nc (zj (p:=gc)) (nc (zz (j:=0) (r:=gc) (H:=hl') (hz:=hz)) (nc (zS (r:=gc)) (nc (zA (r:=gc)) (nc zN ?_))))))))
  refine aC rfl (fun hc=>by cases hc) (fun _=>aK ?_)
  refine aS (aD (by kernel_rfl) (by kernel_rfl) ?_)
  refine nc zj (nc (zz (j:=0) (H:=hl') (hz:=hz)) (nc zS (nc zA (nc zj (nc (zz (j:=0) (H:=hl') (hz:=hz)) (nc zS (nc zA (nc zw (nc zw (nc zy (nc zy ?_)))))))))))
  refine ⟨by kernel_rfl,?_⟩
  refine aS (aS (aR ?_))
  refine nc zE (nc zE (nc (zn (z:=hk w)) ?_))
  refine aB (aS (aR ?_))
  refine nc zC (nc zd ?_)
  refine aC rfl (fun _=>?_) (fun hc=>by cases hc)
  refine aS (aD (by kernel_rfl) (by kernel_rfl) ?_)
  refine nc zj (nc zE (nc (zn (z:=hca w)) (nc zE (nc (zn (z:=hcb w)) (nc zx (nc zy (nc zd ?_)))))))
  refine ⟨by kernel_rfl,?_⟩
  exact aT ⟨.inr rfl,rfl⟩
 by_cases h2:kb b a=1
 ·have e:ofR id [(⟨false,a,b⟩:Lt)]=some ⟨id,b.strip,a.strip⟩:=by rw [a0T,if_neg h1,if_pos h2]
  rw [e]
  have h3:kb a b = -1:=by rw [a5N b a,h2];rfl
  rw [h3] at hk
  show AFun _ _ _ _ (.tup [RuT.cw ⟨id,b.strip,a.strip⟩,.b true])
  refine a8 (rs:=[RuT.cw ⟨id,b.strip,a.strip⟩,.b true]) Tryz.func18 Tryz.ntmps18 rfl rfl rfl rfl ?_
  intro w U hW
  refine aS (aR ?_)
  refine nc zw (nc zd ?_)
  refine aS (aS (aR ?_))
  refine nc zj (nc zp (nc zK (nc zj (nc (zj (p:=gc)) (nc (zz (j:=0) (r:=gc) (H:=hl') (hz:=hz)) (nc (zS (r:=gc)) (nc (zA (r:=gc)) (nc zN ?_))))))))
  refine aC rfl (fun hc=>by cases hc) (fun _=>aK ?_)
  refine aS (aD (by kernel_rfl) (by kernel_rfl) ?_)
  refine nc zj (nc (zz (j:=0) (H:=hl') (hz:=hz)) (nc zS (nc zA (nc zj (nc (zz (j:=0) (H:=hl') (hz:=hz)) (nc zS (nc zA (nc zw (nc zw (nc zy (nc zy ?_)))))))))))
  refine ⟨by kernel_rfl,?_⟩
  refine aS (aS (aR ?_))
  refine nc zE (nc zE (nc (zn (z:=hk w)) ?_))
  refine aB (aS (aR ?_))
  refine nc zC (nc zd ?_)
  refine aC rfl (fun hc=>by cases hc) (fun _=>?_)
  refine aS (aR ?_)
  refine nc zC (nc zd ?_)
  refine aC rfl (fun _=>?_) (fun hc=>by cases hc)
  refine aS (aD (by kernel_rfl) (by kernel_rfl) ?_)
  refine nc zj (nc zE (nc (zn (z:=hcb w)) (nc zE (nc (zn (z:=hca w)) (nc zx (nc zy (nc zd ?_)))))))
  refine ⟨by kernel_rfl,?_⟩
  exact aT ⟨.inr rfl,rfl⟩
 have e:ofR id [(⟨false,a,b⟩:Lt)]=none:=by rw [a0T,if_neg h1,if_neg h2]
 rw [e]
 have h3:decide (kb a b = -1)=false:=decide_eq_false fun h=>h2 (by rw [a5N a b,h];rfl)
 have h1:decide (kb a b=1)=false:=decide_eq_false h1
 obtain ⟨kv,hkv⟩:∃ kv,kv=kb a b:=⟨_,rfl⟩
 rw [←hkv] at hk h1 h3
 show AFun _ _ _ _ (.tup [ruZ,.b false])
 refine a8 (rs:=[ruZ,.b false]) Tryz.func18 Tryz.ntmps18 rfl rfl rfl rfl ?_
 intro w U hW
 refine aS (aR ?_)
 refine nc zw (nc zd ?_)
 refine aS (aS (aR ?_))
 refine nc zj (nc zp (nc zK (nc zj (nc (zj (p:=gc)) (nc (zz (j:=0) (r:=gc) (H:=hl') (hz:=hz)) (nc (zS (r:=gc)) (nc (zA (r:=gc)) (nc zN ?_))))))))
 refine aC rfl (fun hc=>by cases hc) (fun _=>aK ?_)
 refine aS (aD (by kernel_rfl) (by kernel_rfl) ?_)
 refine nc zj (nc (zz (j:=0) (H:=hl') (hz:=hz)) (nc zS (nc zA (nc zj (nc (zz (j:=0) (H:=hl') (hz:=hz)) (nc zS (nc zA (nc zw (nc zw (nc zy (nc zy ?_)))))))))))
 refine ⟨by kernel_rfl,?_⟩
 refine aS (aS (aR ?_))
 refine nc zE (nc zE (nc (zn (z:=hk w)) ?_))
 refine aB (aS (aR ?_))
 refine nc zC (nc zd ?_)
 refine aC rfl (fun hc=>by rw [h1] at hc;cases hc) (fun _=>?_)
 refine aS (aR ?_)
 refine nc zC (nc zd ?_)
 refine aC rfl (fun hc=>by rw [h3] at hc;cases hc) (fun _=>aK ?_)
 refine aS (aR ?_)
 refine nc zx (nc zy (nc zd ?_))
 exact aT ⟨.inr rfl,rfl⟩
theorem b0l (W:World) (id:Int) (c:List Lt) (hc:∀ l∈c,l.ok17):AFun Tryz.prog W 18 [.i id,.lst (c.map Lt.cv)] (ruE (ofR id c)):=by
 match c,hc with
 | [],_=>exact a6S W id [] (by simp)
 | [⟨true,a,b⟩],_ =>
  have:=b4K W id a b
  exact this
 | [⟨false,a,b⟩],h=>exact b4O W id a b (h _ (by simp))
 | x::y::c,_=>exact a6S W id (x::y::c) (by simp)
theorem a7Q (W:World) (id:Int) (c:List Lt) (h:c.length≠1):AFun Tryz.prog W 22 [.i id,.lst (c.map Lt.cv)] (.tup [ruZ,.b false]):=by
 have g:decide (((c.map Lt.cv).length:Int)≠1)=true:=by simp;omega
 refine a8 (rs:=[ruZ,.b false]) Tryz.func22 Tryz.ntmps22 rfl rfl rfl rfl ?_
 intro w U hW
 refine aS (aR ?_)
 refine nc zw (nc zd ?_)
 refine aS (aS (aR ?_))
 refine nc zj (nc zp (nc zK (nc zj (nc zM (nc zM (nc zM (nc zM (nc zO ?_))))))))
 refine aC rfl (fun _=>?_) (fun hc=>by cases hc)
 refine aS (aR ?_)
 refine nc zx (nc zy (nc zd ?_))
 exact aT ⟨.inr rfl,rfl⟩
theorem b5h (W:World) (id:Int) (a b:Tm):AFun Tryz.prog W 22 [.i id,.lst ([(⟨true,a,b⟩:Lt)].map Lt.cv)] (.tup [ruZ,.b false]):=by
 have hl':([(⟨true,a,b⟩:Lt)].map Lt.cv)[0]?=some (Lt.mk true a b).cw:=rfl
 have hz:=Lt.size_all [(⟨true,a,b⟩:Lt)]
 refine a8 (rs:=[ruZ,.b false]) Tryz.func22 Tryz.ntmps22 rfl rfl rfl rfl ?_
 intro w U hW
 refine aS (aR ?_)
 refine nc zw (nc zd ?_)
 refine aS (aS (aR ?_))
 refine nc zj (nc zp (nc zK (nc zj (nc (zj (p:=gc)) (nc (zz (j:=0) (r:=gc) (H:=hl') (hz:=hz)) (nc (zS (r:=gc)) (nc (zA (r:=gc)) (nc zN ?_))))))))
 refine aC rfl (fun _=>?_) (fun hc=>by cases hc)
 refine aS (aR ?_)
 refine nc zx (nc zy (nc zd ?_))
 exact aT ⟨.inr rfl,rfl⟩
set_option maxHeartbeats 1000000 in
theorem b5g (W:World) (id:Int) (a b:Tm) (hl:(Lt.mk false a b).ok17):AFun Tryz.prog W 22 [.i id,.lst ([(⟨false,a,b⟩:Lt)].map Lt.cv)] (ruE (ofD id [⟨false,a,b⟩])):=by
 obtain ⟨⟨har,hao,has⟩,hbr,hbo,hbs⟩:=hl
 have har:a.rng:=har
 have hao:a.ok:=hao
 have has:a.size≤1000000:=has
 have hbr:b.rng:=hbr
 have hbo:b.ok:=hbo
 have hbs:b.size≤1000000:=hbs
 have hl':([(⟨false,a,b⟩:Lt)].map Lt.cv)[0]?=some (Lt.mk false a b).cw:=rfl
 have hz:=Lt.size_all [(⟨false,a,b⟩:Lt)]
 have hk:=fun w=>Z8 w a har hao (by omega) b hbr hbo (by omega)
 have hk2:=fun w=>Z8 w b hbr hbo (by omega) a har hao (by omega)
 by_cases h1:kb a b=1
 ·have e:ofD id [(⟨false,a,b⟩:Lt)]=some ⟨id,a,b⟩:=by rw [a2p,if_pos h1]
  rw [e]
  rw [decide_eq_true h1] at hk
  show AFun _ _ _ _ (.tup [RuT.cw ⟨id,a,b⟩,.b true])
  refine a8 (rs:=[RuT.cw ⟨id,a,b⟩,.b true]) Tryz.func22 Tryz.ntmps22 rfl rfl rfl rfl ?_
  intro w U hW
  refine aS (aR ?_)
  refine nc zw (nc zd ?_)
  refine aS (aS (aR ?_))
  refine nc zj (nc zp (nc zK (nc zj (nc (zj (p:=gc)) (nc (zz (j:=0) (r:=gc) (H:=hl') (hz:=hz)) (nc (zS (r:=gc)) (nc (zA (r:=gc)) (nc zN ?_))))))))
  refine aC rfl (fun hc=>by cases hc) (fun _=>aK ?_)
  refine aS (aS (aD (by kernel_rfl) (by kernel_rfl) ?_))
  refine nc zj (nc (zz (j:=0) (H:=hl') (hz:=hz)) (nc zS (nc zA (nc zj (nc (zz (j:=0) (H:=hl') (hz:=hz)) (nc zS (nc zA (nc (zn (z:=hk w)) ?_))))))))
  refine ⟨by kernel_rfl,?_⟩
  refine aC rfl (fun _=>?_) (fun hc=>by cases hc)
  refine aS (aD (by kernel_rfl) (by kernel_rfl) ?_)
  refine nc zj (nc zj (nc (zz (j:=0) (H:=hl') (hz:=hz)) (nc zS (nc zA (nc zj (nc (zz (j:=0) (H:=hl') (hz:=hz)) (nc zS (nc zA (nc zx (nc zy (nc zd ?_)))))))))))
  refine ⟨by kernel_rfl,?_⟩
  exact aT ⟨.inr rfl,rfl⟩
 rw [decide_eq_false h1] at hk
 by_cases h2:kb b a=1
 ·have e:ofD id [(⟨false,a,b⟩:Lt)]=some ⟨id,b,a⟩:=by rw [a2p,if_neg h1,if_pos h2]
  rw [e]
  rw [decide_eq_true h2] at hk2
  show AFun _ _ _ _ (.tup [RuT.cw ⟨id,b,a⟩,.b true])
  refine a8 (rs:=[RuT.cw ⟨id,b,a⟩,.b true]) Tryz.func22 Tryz.ntmps22 rfl rfl rfl rfl ?_
  intro w U hW
  refine aS (aR ?_)
  refine nc zw (nc zd ?_)
  refine aS (aS (aR ?_))
  refine nc zj (nc zp (nc zK (nc zj (nc (zj (p:=gc)) (nc (zz (j:=0) (r:=gc) (H:=hl') (hz:=hz)) (nc (zS (r:=gc)) (nc (zA (r:=gc)) (nc zN ?_))))))))
  refine aC rfl (fun hc=>by cases hc) (fun _=>aK ?_)
  refine aS (aS (aD (by kernel_rfl) (by kernel_rfl) ?_))
  refine nc zj (nc (zz (j:=0) (H:=hl') (hz:=hz)) (nc zS (nc zA (nc zj (nc (zz (j:=0) (H:=hl') (hz:=hz)) (nc zS (nc zA (nc (zn (z:=hk w)) ?_))))))))
  refine ⟨by kernel_rfl,?_⟩
  refine aC rfl (fun hc=>by cases hc) (fun _=>aK ?_)
  refine aS (aS (aD (by kernel_rfl) (by kernel_rfl) ?_))
  refine nc zj (nc (zz (j:=0) (H:=hl') (hz:=hz)) (nc zS (nc zA (nc zj (nc (zz (j:=0) (H:=hl') (hz:=hz)) (nc zS (nc zA (nc (zn (z:=hk2 w)) ?_))))))))
  refine ⟨by kernel_rfl,?_⟩
  refine aC rfl (fun _=>?_) (fun hc=>by cases hc)
  refine aS (aD (by kernel_rfl) (by kernel_rfl) ?_)
  refine nc zj (nc zj (nc (zz (j:=0) (H:=hl') (hz:=hz)) (nc zS (nc zA (nc zj (nc (zz (j:=0) (H:=hl') (hz:=hz)) (nc zS (nc zA (nc zx (nc zy (nc zd ?_)))))))))))
  refine ⟨by kernel_rfl,?_⟩
  exact aT ⟨.inr rfl,rfl⟩
 have e:ofD id [(⟨false,a,b⟩:Lt)]=none:=by rw [a2p,if_neg h1,if_neg h2]
 rw [e]
 rw [decide_eq_false h2] at hk2
 show AFun _ _ _ _ (.tup [ruZ,.b false])
 refine a8 (rs:=[ruZ,.b false]) Tryz.func22 Tryz.ntmps22 rfl rfl rfl rfl ?_
 intro w U hW
 refine aS (aR ?_)
 refine nc zw (nc zd ?_)
 refine aS (aS (aR ?_))
 refine nc zj (nc zp (nc zK (nc zj (nc (zj (p:=gc)) (nc (zz (j:=0) (r:=gc) (H:=hl') (hz:=hz)) (nc (zS (r:=gc)) (nc (zA (r:=gc)) (nc zN ?_))))))))
 refine aC rfl (fun hc=>by cases hc) (fun _=>aK ?_)
 refine aS (aS (aD (by kernel_rfl) (by kernel_rfl) ?_))
 refine nc zj (nc (zz (j:=0) (H:=hl') (hz:=hz)) (nc zS (nc zA (nc zj (nc (zz (j:=0) (H:=hl') (hz:=hz)) (nc zS (nc zA (nc (zn (z:=hk w)) ?_))))))))
 refine ⟨by kernel_rfl,?_⟩
 refine aC rfl (fun hc=>by cases hc) (fun _=>aK ?_)
 refine aS (aS (aD (by kernel_rfl) (by kernel_rfl) ?_))
 refine nc zj (nc (zz (j:=0) (H:=hl') (hz:=hz)) (nc zS (nc zA (nc zj (nc (zz (j:=0) (H:=hl') (hz:=hz)) (nc zS (nc zA (nc (zn (z:=hk2 w)) ?_))))))))
 refine ⟨by kernel_rfl,?_⟩
 refine aC rfl (fun hc=>by cases hc) (fun _=>aK ?_)
 refine aS (aR ?_)
 refine nc zx (nc zy (nc zd ?_))
 exact aT ⟨.inr rfl,rfl⟩
theorem b4N (W:World) (id:Int) (c:List Lt) (hc:∀ l∈c,l.ok17):AFun Tryz.prog W 22 [.i id,.lst (c.map Lt.cv)] (ruE (ofD id c)):=by
 match c,hc with
 | [],_=>exact a7Q W id [] (by simp)
 | [⟨true,a,b⟩],_ =>
  have:=b5h W id a b
  exact this
 | [⟨false,a,b⟩],h=>exact b5g W id a b (h _ (by simp))
 | x::y::c,_=>exact a7Q W id (x::y::c) (by simp)
end Go.Proofs.YtekboofbedakcaaGreat
namespace Go.Proofs.YtekboofbedakcaaGreat
open Go.RowKit
set_option linter.unusedVariables false
set_option linter.unusedSimpArgs false
section
variable {P:Program} {w0:World} {U0:UX} {nt:Nat} {ops:Array Oper} {o:Oper} {S:Nat→Option AV} {gs:List Nat} {d:Nat}
variable (hg:Gd w0 U0 nt ops o gs S) (hd:o.dst=some d) (hn:Nat.blt d nt=true) (h5:Nat.blt d 100000=true)
include hg hd hn h5
end
end Go.Proofs.YtekboofbedakcaaGreat
namespace Go.Proofs.YtekboofbedakcaaGreat
set_option linter.unusedVariables false
end Go.Proofs.YtekboofbedakcaaGreat
namespace Go.Proofs.YtekboofbedakcaaGreat
open Go.RowKit
set_option linter.unusedVariables false
end Go.Proofs.YtekboofbedakcaaGreat
namespace Go.Proofs.YtekboofbedakcaaGreat
set_option linter.unusedVariables false
set_option linter.unusedSimpArgs false
end Go.Proofs.YtekboofbedakcaaGreat
namespace Go.Proofs.YtekboofbedakcaaGreat
open Go.RowKit
set_option linter.unusedVariables false
set_option linter.unusedSimpArgs false
set_option maxRecDepth 100000
abbrev by8 (z:Int):CV := .sc (.int .u8 z)
theorem a4L (W:World) (l:Lt):AFun Tryz.prog W 92 [l.cw] (.val (by8 (if l.neg then 1 else 0))):=by
 refine a8 (rs:=[by8 (if l.neg then 1 else 0)]) Tryz.func92 Tryz.ntmps92 rfl rfl rfl rfl ?_
 intro w U hW
 refine aS (aR ?_)
 refine nc zb (nc zd ?_)
 refine aS (aS (aR ?_))
 refine nc ze (nc zg ?_)
 refine aC rfl (fun hc=>?_) (fun hc=>?_)
 ·refine aS (aR ?_)
  refine nc zd ?_
  rw [if_pos hc]
  exact aT (And.intro (.inr rfl) rfl)
 ·refine aK ?_
  refine aS (aR ?_)
  refine nc zd ?_
  rw [if_neg (by rw [hc];simp)]
  exact aT (And.intro (.inr rfl) rfl)
def b5w (n:Nat):Int:=if n=0 then 0 else if n=1 then 1 else if n<4 then 2 else if n<8 then 3 else 4
set_option maxHeartbeats 4000000 in
theorem b0L (n:Nat) (h:n≤12) (w:World):Calls Tryz.prog 126 #[.int .u64 (n:Int)] w fun e w'=>e = .returned (.int .i64 (b5w n))∧w'=w:=by
 have hn:n=0∨n=1∨n=2∨n=3∨n=4∨n=5∨n=6∨n=7∨n=8∨n=9∨n=10∨n=11∨n=12:=by omega
 rcases hn with rfl | rfl | rfl | rfl | rfl | rfl | rfl | rfl | rfl | rfl | rfl | rfl | rfl
 all_goals
  go_enter Tryz.func126,Tryz.ntmps126
  go_wp2
  go_ret
  exact ⟨by kernel_rfl,rfl⟩
theorem b0T (W:World) (n:Nat) (h:n≤12):AFun Tryz.prog W 126 [.sc (.int .u64 (n:Int))] (.val (.i (b5w n))):=by
 refine ⟨r9 Tryz.func126 rfl rfl,.inl rfl,rfl,?_⟩
 rintro U w vs _ ⟨u1,us1,rfl,g1,g3⟩
 have g3:us1=[]:=g3
 subst g3
 obtain ⟨rfl,_⟩:=b5.1 g1
 refine (b0L n h w).mono ?_
 rintro e w' ⟨rfl,rfl⟩
 exact ⟨_,rfl,b5.2 ⟨rfl,rfl⟩,Below.refl _ _⟩
theorem b5c (W:World) (n:Nat) (h:n≤12):AFun Tryz.prog W 95 [.sc (.int .u64 (n:Int))] (.val (.i (b5w n))):=by
 refine a8 (rs:=[.i (b5w n)]) Tryz.func95 Tryz.ntmps95 rfl rfl rfl rfl ?_
 intro w U hW
 refine aS (aR ?_)
 refine nc zd ?_
 refine aS (aC rfl (fun hc=>by cases hc) (fun hc=>aK ?_))
 refine aS (aR ?_)
 refine nc zj (nc (zn (z:=b0T w n h)) (nc zd ?_))
 exact aT (And.intro (.inr rfl) rfl)
end Go.Proofs.YtekboofbedakcaaGreat
namespace Go.Proofs.YtekboofbedakcaaGreat
open Go.RowKit
set_option linter.unusedVariables false
set_option linter.unusedSimpArgs false
end Go.Proofs.YtekboofbedakcaaGreat
namespace Go.Proofs.YtekboofbedakcaaGreat
open Go.RowKit
set_option linter.unusedVariables false
set_option linter.unusedSimpArgs false
set_option maxRecDepth 100000
theorem R1 (W:World) {t s:Tm} (ht:t.rng) (hs:s.rng):AFun Tryz.prog W 41 [t.cw,s.cw] (.val (.i (t6 t s))):=by
 refine ⟨r9 Tryz.func41 rfl rfl,.inl rfl,rfl,?_⟩
 rintro U w vs hW ⟨u1,us1,rfl,h1,u2,us2,rfl,h2,h3⟩
 have h3:us2=[]:=h3
 subst h3
 obtain ⟨a,n,c,rfl,h4⟩:=k9 ht h1
 obtain ⟨a',n',c',rfl,h5⟩:=k9 hs h2
 refine (a1D t s a a' n c n' c' w h4 h5).mono ?_
 rintro e w' ⟨rfl,hb⟩
 exact ⟨_,rfl,b5.2 ⟨rfl,rfl⟩,hb⟩
def a0I (x y:Lt):Int:=if t6 x.a y.a≠0 then t6 x.a y.a else t6 x.b y.b
def a7P (l:Lt):Lt:=⟨l.neg,l.b,l.a⟩
def okC (c:List Lt):Prop:=∀ l∈c,l.a.rng∧l.b.rng
theorem a3N (W:World) (l:Lt) (h:l.a.rng∧l.b.rng):AFun Tryz.prog W 87 [l.cw] (.val (.b (decide (t6 l.a l.b≥0)))):=by
 refine a8 (rs:=[.b (decide (t6 l.a l.b≥0))]) Tryz.func87 Tryz.ntmps87 rfl rfl rfl rfl ?_
 intro w U hW
 refine aS (aR ?_)
 refine nc zb (nc zd ?_)
 refine aS (aR ?_)
 refine nc ze (nc zg (nc ze (nc zg (nc (zn (z:=R1 w h.1 h.2)) (nc zL (nc zd ?_))))))
 exact aT (And.intro (.inr rfl) rfl)
theorem a3d (W:World) (l:Lt):AFun Tryz.prog W 88 [l.cw] (.val (a7P l).cw):=by
 refine a8 (rs:=[(a7P l).cw]) Tryz.func88 Tryz.ntmps88 rfl rfl rfl rfl ?_
 intro w U hW
 refine aS (aR ?_)
 refine nc zb (nc zw ?_)
 refine aS (aR ?_)
 refine nc ze (nc zg (nc ze (nc zg (nc ze (nc zg (nc zx (nc zy ?_)))))))
 exact aT (And.intro (.inr rfl) rfl)
theorem b0M (W:World) (x y:Lt) (hx:x.a.rng∧x.b.rng) (hy:y.a.rng∧y.b.rng):AFun Tryz.prog W 93 [x.cw,y.cw] (.val (.i (a0I x y))):=by
 refine a8 (rs:=[.i (a0I x y)]) Tryz.func93 Tryz.ntmps93 rfl rfl rfl rfl ?_
 intro w U hW
 refine aS (aR ?_)
 refine nc zb (nc zb (nc zd ?_))
 refine aS (aS (aR ?_))
 refine nc ze (nc zg (nc ze (nc zg (nc (zn (z:=R1 w hx.1 hy.1)) (nc zd ?_)))))
 refine aS (aR ?_)
 refine nc zj (nc zK ?_)
 refine aC rfl (fun hc=>?_) (fun hc=>?_)
 ·have e:a0I x y=t6 x.a y.a:=by unfold a0I;rw [if_pos (by simpa using hc)]
  rw [e]
  refine aS (aR ?_)
  refine nc zj (nc zd ?_)
  exact aT (And.intro (.inr rfl) rfl)
 ·have e:a0I x y=t6 x.b y.b:=by unfold a0I;rw [if_neg (by simpa using hc)]
  rw [e]
  refine aK ?_
  refine aS (aR ?_)
  refine nc ze (nc zg (nc ze (nc zg (nc (zn (z:=R1 w hx.2 hy.2)) (nc zd ?_)))))
  exact aT (And.intro (.inr rfl) rfl)
def a9K (size:Int) (l:Lt):Bool:=decide (0≤f0 l.a size 8)&&decide (0≤f0 l.b size 8)
def Q2 (c:List Lt) (most:Nat) (size:Int):Bool:=decide (c.length≤most)&&c.all (a9K size)
set_option maxHeartbeats 1000000 in
theorem a8s (W:World) (c:List Lt) (most:Nat) (size:Int) (hm:most≤1000) (h0:0≤size) (h1:size≤60) (hr:okC c):AFun Tryz.prog W 20 [.lst (c.map Lt.cv),.i (most:Int),.i size] (.val (.b (Q2 c most size))):=by
 have hsz:=Lt.size_all c
 refine a8 (rs:=[.b (Q2 c most size)]) Tryz.func20 Tryz.ntmps20 rfl rfl rfl rfl ?_
 intro w U hW
 refine aS (aR ?_)
 refine nc zd ?_
 refine aS (aS (aR ?_))
 refine nc zj (nc zp (nc zj (nc zT ?_)))
 refine aC rfl (fun hc=>?_) (fun hc=>?_)
 ·have hno:Q2 c most size=false:=by
   have:=of_decide_eq_true hc
   rw [List.length_map] at this
   unfold Q2
   rw [show decide (c.length≤most)=false by rw [decide_eq_false_iff_not];omega]
   rfl
  rw [hno]
  refine aS (aR ?_)
  refine nc zd ?_
  exact aT (And.intro (.inr rfl) rfl)
 have hl:c.length≤most:=by
  have:=of_decide_eq_false hc
  rw [List.length_map] at this
  omega
 refine aK ?_
 refine aS (aS (aR ?_))
 refine nc zd ?_
 refine aB (p6 c.length (fun k=>∀ l∈c.take k,a9K size l=true) (fun k=>[(0,.val (.lst (c.map Lt.cv))),(2,.val (.i size)),(7,.val (.i k))]) (a7 ⟨rfl,rfl,rfl,trivial⟩) (by simp) ?_)
 intro k hk hI
 refine aS (aS (aR ?_))
 refine nc zj (nc zj (nc zp (nc zh ?_)))
 refine aC rfl (fun hlt=>?_) (fun hlt=>?_)
 ·have hkl:k<c.length:=by simpa using hlt
  obtain ⟨x,hx⟩:∃ x,c[k]?=some x:=⟨c[k],List.getElem?_eq_getElem hkl⟩
  have hx':=Lt.map_at hx
  have hxm:=List.mem_of_getElem? hx
  have sa:=M9 w x.a size 8 (hr x hxm).1 h0 h1 (by decide) (by decide)
  have sb:=M9 w x.b size 8 (hr x hxm).2 h0 h1 (by decide) (by decide)
  have hno:a9K size x=false→Q2 c most size=false:=fun h=>by
   unfold Q2
   rw [show c.all (a9K size)=false from List.all_eq_false.2 ⟨x,hxm,by rw [h];simp⟩,Bool.and_false]
  refine aK ?_
  by_cases ha:f0 x.a size 8<0
  ·have ga:decide (f0 x.a size 8<0)=true:=by simpa using ha
   rw [hno (by unfold a9K;rw [show decide (0≤f0 x.a size 8)=false by rw [decide_eq_false_iff_not];omega];rfl)]
   refine aS (aB (aS (aR ?_)))
   refine nc zj (nc zj (nc (zz (j:=k) (H:=hx') (hz:=hsz)) (nc zS (nc zA (nc zj (nc (zn (z:=sa)) (nc zh (nc zj (nc zM (nc zM (nc zM (nc zM (nc zM (nc zM (nc zM (nc zM (nc zO ?_)))))))))))))))))
   refine aC rfl (fun hc2=>?_) (fun hc2=>by cases hc2)
   refine aS (aR ?_)
   refine nc zd ?_
   exact aT (And.intro (.inr rfl) rfl)
  ·have ga:decide (f0 x.a size 8<0)=false:=by simpa using ha
   refine aS (aB (aS (aR ?_)))
   refine nc zj (nc zj (nc (zz (j:=k) (H:=hx') (hz:=hsz)) (nc zS (nc zA (nc zj (nc (zn (z:=sa)) (nc zh (nc zj (nc (zj (p:=gc)) (nc (zj (p:=gc)) (nc (zz (j:=k) (r:=gc) (H:=hx') (hz:=hsz)) (nc (zS (r:=gc)) (nc (zA (r:=gc)) (nc (zj (p:=gc)) (nc (zn (p:=gc) (z:=sb)) (nc (zh (r:=gc)) (nc zN ?_)))))))))))))))))
   refine aC rfl (fun hc2=>?_) (fun hc2=>?_)
   ·have hb:=of_decide_eq_true hc2
    rw [hno (by unfold a9K;rw [show decide (0≤f0 x.b size 8)=false by rw [decide_eq_false_iff_not];omega];simp)]
    refine aS (aR ?_)
    refine nc zd ?_
    exact aT (And.intro (.inr rfl) rfl)
   ·have hb:=of_decide_eq_false hc2
    refine aK ?_
    refine aR ?_
    refine nc zj (nc zu (nc zd ?_))
    refine ⟨hkl,?_,a7 ⟨rfl,rfl,rfl,trivial⟩⟩
    intro y hy
    rw [List.take_add_one,hx,List.mem_append] at hy
    rcases hy with hy | hy
    ·exact hI y hy
    ·simp at hy
     rw [hy]
     unfold a9K
     rw [show decide (0≤f0 x.a size 8)=true by rw [decide_eq_true_eq];omega,show decide (0≤f0 x.b size 8)=true by rw [decide_eq_true_eq];omega]
     rfl
 ·have hkl:k=c.length:=by
   have:¬ k<c.length:=by simpa using hlt
   omega
  subst hkl
  rw [List.take_length] at hI
  have hyes:Q2 c most size=true:=by
   unfold Q2
   rw [show decide (c.length≤most)=true by simpa using hl,Bool.true_and]
   exact List.all_eq_true.2 hI
  rw [hyes]
  refine aE ?_
  refine aS (aR ?_)
  refine nc zd ?_
  exact aT (And.intro (.inr rfl) rfl)
theorem a1H {c:List Lt} {most:Nat} {size:Int} (h0:0≤size) (h1:size≤60) (h:Q2 c most size=true):c.length≤most∧∀ l∈c,((l.a.sm∧l.a.rng∧l.a.ok)∧(l.a.wt:Int)≤size∧(l.a.size:Int)≤size)∧((l.b.sm∧l.b.rng∧l.b.ok)∧(l.b.wt:Int)≤size∧(l.b.size:Int)≤size):=by
 unfold Q2 at h
 rw [Bool.and_eq_true,decide_eq_true_eq] at h
 refine ⟨h.1,fun l hl=>?_⟩
 have hf:=List.all_eq_true.1 h.2 l hl
 unfold a9K at hf
 rw [Bool.and_eq_true,decide_eq_true_eq,decide_eq_true_eq] at hf
 have key:∀ t:Tm,0≤f0 t size 8→(t.sm∧t.rng∧t.ok)∧(t.wt:Int)≤size∧(t.size:Int)≤size:=fun t ht=>by
  have hsm:=a7B t _ _ ht
  have hwt:(t.wt:Int)≤size:=by have:=(O3 t size 8 h0).2.2 ht;omega
  have:=t.size_wt
  exact ⟨⟨hsm,Tm.sm_rng hsm,Tm.wt_ok (t:=t) (by omega)⟩,hwt,by omega⟩
 exact ⟨key _ hf.1,key _ hf.2⟩
set_option maxHeartbeats 1000000 in
theorem b1V (W:World) (c:List Lt) (hl:c.length≤1000000) (hc:∀ l∈c,l.a.ok∧l.b.ok):AFun Tryz.prog W 21 [.lst (c.map Lt.cv)] (.val (.lst ((c.map id).map Lt.cv))):=by
 have hsz:=Lt.size_all c
 refine a8 (rs:=[.lst ((c.map id).map Lt.cv)]) Tryz.func21 Tryz.ntmps21 rfl rfl rfl rfl ?_
 intro w U hW
 refine aS (aR ?_)
 refine nc zd ?_
 refine aS (aR ?_)
 refine nc zd ?_
 refine aS (aS (aR ?_))
 refine nc zd ?_
 refine aB (b9 c.length (fun k=>[(0,.val (.lst (c.map Lt.cv))),(3,.own (.lst (((c.take k).map id).map Lt.cv)) 200031),(200031,.tok 54 5),(4,.val (.i k))]) ((E4 3 200031 54 5 rfl rfl rfl rfl rfl rfl rfl).trans (a7 ⟨rfl,rfl,rfl,rfl,trivial⟩)) ?_)
 intro k hk
 have hks:=Lt.size_all ((c.take k).map id)
 refine aS (aS (aR ?_))
 refine nc zj (nc zj (nc zp (nc zh ?_)))
 refine aC rfl (fun hlt=>?_) (fun hlt=>?_)
 ·have hkl:k<c.length:=by simpa using hlt
  obtain ⟨x,hx⟩:∃ x,c[k]?=some x:=⟨c[k],List.getElem?_eq_getElem hkl⟩
  have hx':=Lt.map_at hx
  have hxm:=List.mem_of_getElem? hx
  have hkn:(((c.take k).map id).map Lt.cv).length≤1000000:=by rw [List.length_map,List.length_map,List.length_take];omega
  refine aK ?_
  refine aS (aB (aD (by kernel_rfl) (by kernel_rfl) ?_))
  refine nc zj (nc zj (nc zj (nc (zz (j:=k) (H:=hx') (hz:=hsz)) (nc zS (nc zA (nc zj (nc zj (nc (zz (j:=k) (H:=hx') (hz:=hsz)) (nc zS (nc zA (nc (zn (z:=a3Q w x.a (hc x hxm).1)) (nc zj (nc zj (nc (zz (j:=k) (H:=hx') (hz:=hsz)) (nc zS (nc zA (nc (zn (z:=a3Q w x.b (hc x hxm).2)) (nc zx (nc zI (nc zJ (nc zd ?_)))))))))))))))))))))
  refine ⟨by kernel_rfl,?_⟩
  refine aR ?_
  refine nc zj (nc zu (nc zd ?_))
  refine ⟨hkl,Wk.trans (a7 (s':=[(0,.val (.lst (c.map Lt.cv))),(3,.own (.lst (((c.take (k+1)).map id).map Lt.cv)) 300031),(300031,.tok 54 5),(4,.val (.i ((k+1:Nat):Int)))]) ⟨rfl,?_,rfl,rfl,trivial⟩) (v9 300031 200031 rfl rfl rfl rfl)⟩
  rw [List.take_add_one,hx,List.map_append,List.map_append]
  rfl
 ·have hkl:k=c.length:=by
   have:¬ k<c.length:=by simpa using hlt
   omega
  subst hkl
  rw [List.take_length]
  refine aE ?_
  refine aS (aR ?_)
  refine nc zj (nc zd ?_)
  exact aT (And.intro (.inr rfl) rfl)
theorem b2n (W:World) (c:List Lt) (hl:c.length≤1000000) (hc:∀ l∈c,l.a.ok∧l.b.ok):AFun Tryz.prog W 21 [.lst (c.map Lt.cv)] (.val (.lst (c.map Lt.cv))):=by
 have:=b1V W c hl hc
 rw [List.map_id] at this
 exact this
noncomputable def cl7 (c:List Lt):CV := .lst (c.map Lt.cv)
theorem a7j (L:List (List Lt)):∀ c∈L.map cl7,c.size=1:=by
 intro c hc
 obtain ⟨b,_,rfl⟩:=List.mem_map.1 hc
 rfl
theorem b4h {L:List (List Lt)} {i:Nat} {c:List Lt} (h:L[i]?=some c):(L.map cl7)[i]?=some (.lst (c.map Lt.cv)):=by rw [List.getElem?_map,h];rfl
def N3 (L:List (List Lt)) (most:Nat):Bool:=(L.all fun c=>Q2 c 3 8)&&decide (L.length≤most)
theorem a8t (W:World) (L:List (List Lt)) (most:Nat) (hm:most≤1000) (hr:∀ c∈L,okC c) (hL:L.length≤9223372036854775807):AFun Tryz.prog W 5 [.lst (L.map cl7),.i (most:Int)] (.val (.b (N3 L most))):=by
 have hsz:=a7j L
 refine a8 (rs:=[.b (N3 L most)]) Tryz.func5 Tryz.ntmps5 rfl rfl rfl rfl ?_
 intro w U hW
 refine aS (aR ?_)
 refine nc zd ?_
 refine aS (aS (aR ?_))
 refine nc zd ?_
 refine aB (p6 L.length (fun k=>∀ c∈L.take k,Q2 c 3 8=true) (fun k=>[(0,.val (.lst (L.map cl7))),(1,.val (.i (most:Int))),(5,.val (.i k))]) (a7 ⟨rfl,rfl,rfl,trivial⟩) (fun c hc=>by simp at hc) ?_)
 intro k hk hI
 refine aS (aS (aR ?_))
 refine nc zj (nc zj (nc zp (nc zh ?_)))
 refine aC rfl (fun hlt=>?_) (fun hlt=>?_)
 ·have hkl:k<L.length:=by simpa using hlt
  obtain ⟨c,hc⟩:∃ c,L[k]?=some c:=⟨L[k],List.getElem?_eq_getElem hkl⟩
  have hc':=b4h hc
  have hcm:=List.mem_of_getElem? hc
  refine aK ?_
  obtain ⟨v,hv⟩:∃ v,v=Q2 c 3 8:=⟨_,rfl⟩
  have hf:=fun w=>a8s w c 3 8 (by omega) (by omega) (by omega) (hr c hcm)
  rw [←hv] at hf
  refine aS (aB (aS (aR ?_)))
  refine nc zj (nc zj (nc (zz (j:=k) (H:=hc') (hz:=hsz)) (nc zA (nc (zn (z:=hf w)) (nc zt ?_)))))
  cases v with
  | false =>
   refine aC rfl (fun _=>?_) (fun hc=>by cases hc)
   refine aS (aR ?_)
   refine nc zd ?_
   have e:N3 L most=false:=by
    unfold N3
    rw [List.all_eq_false.2 ⟨c,hcm,by rw [←hv];simp⟩,Bool.false_and]
   rw [e]
   exact aT ⟨.inr rfl,rfl⟩
  | true =>
   refine aC rfl (fun hc=>by cases hc) (fun _=>aK ?_)
   refine aR ?_
   refine nc zj (nc zu (nc zd ?_))
   refine ⟨hkl,fun d hd=>?_,a7 ⟨rfl,rfl,rfl,trivial⟩⟩
   rw [List.take_add_one,hc,List.mem_append] at hd
   rcases hd with hd | hd
   ·exact hI d hd
   ·have:d=c:=by simpa using hd
    rw [this,←hv]
 ·have hkl:k=L.length:=by
   have:¬ k<L.length:=by simpa using hlt
   omega
  subst hkl
  rw [List.take_length] at hI
  refine aE ?_
  refine aS (aR ?_)
  refine nc zj (nc zp (nc zj (nc zF (nc zd ?_))))
  have e:N3 L most=decide (((L.map cl7).length:Int)≤(most:Int)):=by
   unfold N3
   rw [List.all_eq_true.2 hI,Bool.true_and,List.length_map]
   simp
  rw [e]
  exact aT ⟨.inr rfl,rfl⟩
noncomputable def rsK (L:List (List Lt)) (k:Nat):List RuT:=(List.range k).filterMap fun i:Nat=>(L[i]?).bind (ofR ((i:Int)+1))
noncomputable def dsK (L:List (List Lt)) (k:Nat):List RuT:=(List.range k).filterMap fun i:Nat=>(L[i]?).bind (ofD ((i:Int)+1))
theorem b3j {L:List (List Lt)} {k:Nat} {c:List Lt} (h:L[k]?=some c):rsK L (k+1)=rsK L k++(ofR ((k:Int)+1) c).toList:=by
 unfold rsK
 rw [List.range_succ,List.filterMap_append]
 congr 1
 simp only [List.filterMap_cons,List.filterMap_nil,h,Option.bind_some]
 cases ofR ((k:Int)+1) c<;>rfl
theorem b2m {L:List (List Lt)} {k:Nat} {c:List Lt} (h:L[k]?=some c):dsK L (k+1)=dsK L k++(ofD ((k:Int)+1) c).toList:=by
 unfold dsK
 rw [List.range_succ,List.filterMap_append]
 congr 1
 simp only [List.filterMap_cons,List.filterMap_nil,h,Option.bind_some]
 cases ofD ((k:Int)+1) c<;>rfl
theorem a9Z (L:List (List Lt)) (k:Nat):(rsK L k).length≤k:=by
 have:=List.length_filterMap_le (fun i:Nat=>(L[i]?).bind (ofR ((i:Int)+1))) (List.range k)
 rw [List.length_range] at this
 exact this
theorem b5M (L:List (List Lt)) (k:Nat):(dsK L k).length≤k:=by
 have:=List.length_filterMap_le (fun i:Nat=>(L[i]?).bind (ofD ((i:Int)+1))) (List.range k)
 rw [List.length_range] at this
 exact this
theorem b0e (id:Int) (c:List Lt):(ofR id c=none∧ofD id c=none)∨∃ r s,ofR id c=some r∧ofD id c=some s∧r.id=id∧r.a=s.a.strip∧r.b=s.b.strip∧kb s.a s.b=1∧∃ l,c=[l]∧((s.a=l.a∧s.b=l.b)∨(s.a=l.b∧s.b=l.a)):=by
 match c with
 | []=>exact .inl ⟨rfl,rfl⟩
 | x::y::c=>exact .inl ⟨rfl,rfl⟩
 | [⟨true,a,b⟩]=>exact .inl ⟨by simp [ofR],by simp [ofD]⟩
 | [⟨false,a,b⟩] =>
  rw [a0T,a2p]
  by_cases h1:kb a b=1
  ·rw [if_pos h1,if_pos h1]
   exact .inr ⟨_,_,rfl,rfl,rfl,rfl,rfl,h1,_,rfl,.inl ⟨rfl,rfl⟩⟩
  ·rw [if_neg h1,if_neg h1]
   by_cases h2:kb b a=1
   ·rw [if_pos h2,if_pos h2]
    exact .inr ⟨_,_,rfl,rfl,rfl,rfl,rfl,h2,_,rfl,.inr ⟨rfl,rfl⟩⟩
   ·rw [if_neg h2,if_neg h2]
    exact .inl ⟨rfl,rfl⟩
theorem F5:∀ t:Tm,t.ok→t.strip.ok:=by
 intro t
 induction t using Tm.ind with
 | h f l ih =>
  intro h
  rw [Tm.ok] at h
  rw [Tm.strip_eq,Tm.ok]
  have hl:(Tm.mk f l).ps.length≤l.length:=by
   unfold Tm.ps
   split
   ·simp
   ·exact Nat.le_refl _
  refine ⟨by rw [List.length_map];omega,fun s hs=>?_⟩
  obtain ⟨u,hu,rfl⟩:=List.mem_map.1 hs
  exact ih u (Tm.ps_mem hu).1 (h.2 u (Tm.ps_mem hu).1)
set_option maxHeartbeats 4000000 in
theorem a6s (W:World) (L:List (List Lt)) (hL:L.length≤1000) (hc:∀ c∈L,c.length≤1000∧∀ l∈c,l.ok17):AFun Tryz.prog W 8 [.lst (L.map cl7)] (.tup [.lst ((rsK L L.length).map RuT.cv),.lst ((dsK L L.length).map RuT.cv),.b true]):=by
 have hsz:=a7j L
 refine a8 (rs:=[.lst ((rsK L L.length).map RuT.cv),.lst ((dsK L L.length).map RuT.cv),.b true]) Tryz.func8 Tryz.ntmps8 rfl rfl rfl rfl ?_
 intro w U hW
 refine aS (aR ?_)
 refine nc zd (nc zd (nc zd ?_))
 refine aS (aR ?_)
 refine nc zd ?_
 refine aS (aR ?_)
 refine nc zd ?_
 refine aS (aS (aR ?_))
 refine nc zd ?_
 refine aB (b9 L.length (fun k=>[(0,.val (.lst (L.map cl7))),(7,.val (.i k)),(5,.own (.lst ((rsK L k).map RuT.cv)) 200074),(200074,.tok 59 5),(6,.own (.lst ((dsK L k).map RuT.cv)) 200078),(200078,.tok 69 5)])
  (((E4 5 200074 59 5 rfl rfl rfl rfl rfl rfl rfl).trans (E4 6 200078 69 5 rfl rfl rfl rfl rfl rfl rfl)).trans (a7 ⟨rfl,rfl,rfl,rfl,rfl,rfl,trivial⟩)) ?_)
 intro k hk
 have hrz:=RuT.size_all (rsK L k)
 have hdz:=RuT.size_all (dsK L k)
 have hrl:=a9Z L k
 have hdl:=b5M L k
 have hrl2:((rsK L k).map RuT.cv).length≤1000:=by rw [List.length_map];omega
 have hdl2:((dsK L k).map RuT.cv).length≤1000:=by rw [List.length_map];omega
 refine aS (aS (aR ?_))
 refine nc zj (nc zj (nc zp (nc zh ?_)))
 refine aC rfl (fun hlt=>?_) (fun hlt=>?_)
 ·have hkl:k<L.length:=by simpa using hlt
  obtain ⟨c,hcc⟩:∃ c,L[k]?=some c:=⟨L[k],List.getElem?_eq_getElem hkl⟩
  have hc':=b4h hcc
  have hcm:=List.mem_of_getElem? hcc
  obtain ⟨hcl,hcl17⟩:=hc c hcm
  refine aK ?_
  have h11:=fun w=>b2n w c (by omega) fun l hl=>⟨(hcl17 l hl).1.2.1,(hcl17 l hl).2.2.1⟩
  have hO:=fun w=>b0l w ((k:Int)+1) c hcl17
  have hD:=fun w=>b4N w ((k:Int)+1) c hcl17
  have hsr:=b3j hcc
  have hsd:=b2m hcc
  rcases b0e ((k:Int)+1) c with ⟨e1,e2⟩ | ⟨r,s,e1,e2,e3,e4,e5,_,l,e6,e7⟩
  ·rw [e1] at hO hsr
   rw [e2] at hD hsd
   refine aS (aB (aS (aR ?_)))
   refine nc zj (nc zu (nc zj (nc zj (nc (zz (j:=k) (H:=hc') (hz:=hsz)) (nc zA (nc (zn (z:=h11 w)) (nc (zn (z:=hO w)) (nc zj (nc zD (nc zD (nc zw (nc zy (nc zd ?_)))))))))))))
   refine aS (aR ?_)
   refine nc zj (nc zu (nc zj (nc zj (nc (zz (j:=k) (H:=hc') (hz:=hsz)) (nc zA (nc (zn (z:=hD w)) (nc zj (nc zD (nc zD (nc zw (nc zy (nc zd ?_))))))))))))
   refine aS (aS (aD (by kernel_rfl) (by kernel_rfl) ?_))
   refine nc zj (nc zj (nc zbv (nc zj (nc (zj (p:=gc)) (nc (zj (p:=gc)) (nc Z2 (nc Z2 (nc Z2 (nc Z2 (nc Z2 (nc Z2 (nc (Z2 (p:=o7 rfl rfl rfl rfl)) (nc (Z2 (p:=o7 rfl rfl rfl rfl)) (nc (Z2 (p:=o7 rfl rfl rfl rfl)) (nc (Z2 (p:=o7 rfl rfl rfl rfl)) (nc (Z2 (p:=o7 rfl rfl rfl rfl)) (nc (Z2 (p:=o7 rfl rfl rfl rfl)) (nc (Z2 (p:=o7 rfl rfl rfl rfl)) (nc Z2 (nc Z2 (nc (Z2 (p:=o7 rfl rfl rfl rfl)) (nc (Z2 (p:=o7 rfl rfl rfl rfl)) (nc (Z2 (p:=o7 rfl rfl rfl rfl)) ?_)))))))))))))))))))))))
   refine nc (Z2 (p:=o7 rfl rfl rfl rfl)) (nc (Z2 (p:=o7 rfl rfl rfl rfl)) (nc (Z2 (p:=o7 rfl rfl rfl rfl)) (nc (Z2 (p:=o7 rfl rfl rfl rfl)) (nc Z2 (nc (zN (r:=gc)) (nc zN ?_))))))
   refine ⟨by kernel_rfl,?_⟩
   refine aC rfl (fun hc=>by cases hc) (fun _=>aK ?_)
   refine aS (aR ?_)
   refine nc zj ?_
   refine aC rfl (fun hc=>by cases hc) (fun _=>aK ?_)
   refine aR ?_
   refine nc zj (nc zu (nc zd ?_))
   refine ⟨hkl,a7 ⟨rfl,rfl,?_,rfl,?_,rfl,trivial⟩⟩
   ·rw [hsr];simp only [Option.toList_none,List.append_nil];rfl
   ·rw [hsd];simp only [Option.toList_none,List.append_nil];rfl
  ·rw [e1] at hO hsr
   rw [e2] at hD hsd
   have hl17:=hcl17 l (by rw [e6];simp)
   have hsao:s.a.ok∧s.b.ok:=by
    rcases e7 with ⟨q1,q2⟩ | ⟨q1,q2⟩
    ·rw [q1,q2];exact ⟨hl17.1.2.1,hl17.2.2.1⟩
    ·rw [q1,q2];exact ⟨hl17.2.2.1,hl17.1.2.1⟩
   have hra:r.a.ok:=by rw [e4];exact F5 _ hsao.1
   have hrb:r.b.ok:=by rw [e5];exact F5 _ hsao.2
   have hT1:=fun w=>b4z w r.a hra
   have hT2:=fun w=>b4z w r.b hrb
   have hS1:∀ w,AFun Tryz.prog w 23 [r.a.strip.cw,s.a.cw] (.val (.b true)):=fun w=>by
    have:=L2 w r.a.strip s.a (F5 _ hra) hsao.1
    rw [(x7 _ _).2 (by rw [e4,Tm.strip_strip,Tm.strip_strip])] at this
    exact this
   have hS2:∀ w,AFun Tryz.prog w 23 [r.b.strip.cw,s.b.cw] (.val (.b true)):=fun w=>by
    have:=L2 w r.b.strip s.b (F5 _ hrb) hsao.2
    rw [(x7 _ _).2 (by rw [e5,Tm.strip_strip,Tm.strip_strip])] at this
    exact this
   have K3:decide (r.id≠(k:Int)+1)=false:=by simp [e3]
   have hid2:decide (r.id=(k:Int)+1)=true:=by simp [e3]
   refine aS (aB (aS (aR ?_)))
   refine nc zj (nc zu (nc zj (nc zj (nc (zz (j:=k) (H:=hc') (hz:=hsz)) (nc zA (nc (zn (z:=h11 w)) (nc (zn (z:=hO w)) (nc zj (nc zD (nc zD (nc zw (nc zy (nc zd ?_)))))))))))))
   refine aS (aR ?_)
   refine nc zj (nc zu (nc zj (nc zj (nc (zz (j:=k) (H:=hc') (hz:=hsz)) (nc zA (nc (zn (z:=hD w)) (nc zj (nc zD (nc zD (nc zw (nc zy (nc zd ?_))))))))))))
   refine aS (aS (aD (by kernel_rfl) (by kernel_rfl) ?_))
   refine nc zj (nc zj (nc zbv (nc zj (nc (zj (p:=gc)) (nc (zj (p:=gc)) (nc (ze (r:=gc)) (nc (zg (r:=gc)) (nc (zj (p:=gc)) (nc (zu (r:=gc)) (nc (zK (r:=gc)) (nc (zj (p:=gc)) (nc (ze (r:=gc)) (nc (zg (r:=gc)) (nc (zn (p:=gc) (z:=hT1 w)) (nc (ze (r:=gc)) (nc (zg (r:=gc)) (nc (zn (p:=gc) (z:=hS1 w)) (nc (zt (r:=gc)) (nc (zN (r:=gc)) (nc (zj (p:=gc)) (nc (ze (r:=gc)) (nc (zg (r:=gc)) (nc (zn (p:=gc) (z:=hT2 w)) ?_)))))))))))))))))))))))
   refine nc (ze (r:=gc)) (nc (zg (r:=gc)) (nc (zn (p:=gc) (z:=hS2 w)) (nc (zt (r:=gc)) (nc (zN (r:=gc)) (nc (zO (r:=gc)) (nc zN ?_))))))
   refine ⟨by kernel_rfl,?_⟩
   refine aC rfl (fun hc=>by cases hc) (fun _=>aK ?_)
   refine aS (aR ?_)
   refine nc zj ?_
   refine aC rfl (fun _=>?_) (fun hc=>by cases hc)
   refine aS (aR ?_)
   refine nc zj (nc zE (nc zI (nc zJ (nc zd ?_))))
   refine aR ?_
   refine nc zj (nc zE (nc zI (nc zJ (nc zd ?_))))
   refine aR ?_
   refine nc zj (nc zu (nc zd ?_))
   refine ⟨hkl,((a7 (s':=[(0,.val (.lst (L.map cl7))),(7,.val (.i ((k+1:Nat):Int))),(5,.own (.lst ((rsK L (k+1)).map RuT.cv)) 300074),(300074,.tok 59 5),(6,.own (.lst ((dsK L (k+1)).map RuT.cv)) 300078),(300078,.tok 69 5)]) ⟨rfl,rfl,?_,rfl,?_,rfl,trivial⟩).trans (v9 300074 200074 rfl rfl rfl rfl)).trans (v9 300078 200078 rfl rfl rfl rfl)⟩
   ·rw [hsr,List.map_append];rfl
   ·rw [hsd,List.map_append];rfl
 ·have hkl:k=L.length:=by
   have:¬ k<L.length:=by simpa using hlt
   omega
  subst hkl
  refine aE ?_
  refine aS (aR ?_)
  refine nc zj (nc zj (nc zd (nc zd (nc zd ?_))))
  exact aT (And.intro (.inr rfl) rfl)
end Go.Proofs.YtekboofbedakcaaGreat
namespace Go.Proofs.YtekboofbedakcaaGreat
set_option linter.unusedVariables false
set_option linter.unusedSimpArgs false
end Go.Proofs.YtekboofbedakcaaGreat
namespace Go.Proofs.YtekboofbedakcaaGreat
open Go.RowKit
set_option linter.unusedVariables false
set_option linter.unusedSimpArgs false
set_option maxRecDepth 100000
theorem b6n (t u:Tm):puN t [] u=u:=by unfold puN;rfl
theorem b1c {R:List RuT} {x:Tm} (h:trm R x=none):o6 (l7 R) x=none:=by
 cases e:o6 (l7 R) x with
 | none=>rfl
 | some p =>
  obtain ⟨y,h1,_,h2⟩:=M4 _ e
  obtain ⟨r,hr,h3⟩:=List.any_eq_true.1 h2
  cases e3:R.find? (fun r=>(mt r.a y []).1) with
  | none=>exact absurd h3 (by simpa using List.find?_eq_none.1 e3 r hr)
  | some r=>rw [a0w e h1 e3] at h;cases h
theorem b1E {t s:Tm} (hf:¬ t.f<0) (hs:s∈t.l):s.size+t.l.length≤t.size:=by
 have hps:t.ps=t.l:=Tm.ps_of_sym (by omega)
 rw [Tm.size_eq t,hps]
 generalize t.l=l at hs
 induction l with
 | nil=>cases hs
 | cons x l ih =>
  have h1:∀ x:Tm,1≤x.flat.length:=fun x=>by have:=Tm.size_eq x;unfold Tm.size at this;omega
  have hlen:∀ l:List Tm,l.length≤(l.flatMap Tm.flat).length:=fun l=>by
   induction l with
   | nil=>simp
   | cons y l ih=>have:=h1 y;rw [List.flatMap_cons,List.length_append,List.length_cons];omega
  rw [List.flatMap_cons,List.length_append,List.length_cons]
  rcases List.mem_cons.1 hs with rfl | hs
  ·have:=hlen l;unfold Tm.size;omega
  ·have:=ih hs;have:=h1 x;omega
end Go.Proofs.YtekboofbedakcaaGreat
namespace Go.Proofs.YtekboofbedakcaaGreat
set_option linter.unusedVariables false
end Go.Proofs.YtekboofbedakcaaGreat
namespace Go.Proofs.YtekboofbedakcaaGreat
open Go.RowKit
set_option linter.unusedVariables false
set_option linter.unusedSimpArgs false
set_option maxRecDepth 100000
end Go.Proofs.YtekboofbedakcaaGreat
namespace Go.Proofs.YtekboofbedakcaaGreat
set_option linter.unusedVariables false
set_option linter.unusedSimpArgs false
theorem O2 {t:Tm} {most deep:Int} (h0:0≤most) (h1:most≤60) (h:0≤f0 t most deep):t.sm∧t.rng∧t.ok∧(t.size:Int)≤most:=by
 have hsm:=a7B t _ _ h
 have hwt:(t.wt:Int)≤most:=by have:=(O3 t most deep h0).2.2 h;omega
 have:=t.size_wt
 exact ⟨hsm,Tm.sm_rng hsm,Tm.wt_ok (t:=t) (by omega),by omega⟩
end Go.Proofs.YtekboofbedakcaaGreat
namespace Go.Proofs.YtekboofbedakcaaGreat
open Go.RowKit
set_option linter.unusedVariables false
set_option linter.unusedSimpArgs false
def a9J:List (Option (List Value))→Option (List Value)
 | []=>some []
 | none::_=>none
 | some x::r=>match a9J r with | some y=>some (x++y) | none=>none
def plS (k:Nat) (v:Value) (l:List CV) (r:Option (List Value)):Option (List Value):=match k,v,l with
 | 0,v,[]=>match L6 v,M2 v with | true,false=>some [v] | _,_=>none
 | 1,.nilFunc,[]=>some [.slice none 0 0]
 | 2,.nilFunc,_=>r
 | _,_,_=>none
def plC:Nat→CV→Option (List Value)
 | 0,_=>none
 | n+1,⟨k,v,l⟩=>plS k v l (a9J (l.map (plC n)))
theorem a1o {U:Nat→Nat→Prop} {w:World} {n:Nat} (ih:∀ c vs,plC n c=some vs→Rep U w c vs∧vs.length=c.size):∀ {zs:List CV} {vs:List Value},a9J (zs.map (plC n))=some vs→∃ segs:List (List Value),segs.flatten=vs∧segs.map List.length=zs.map CV.size∧zs.length=segs.length∧∀ (i:Nat) (c:CV),zs[i]?=some c→∃ seg,segs[i]?=some seg∧Rep U w c seg
 | [],vs,h=>by
  simp [a9J] at h
  subst h
  exact ⟨[],rfl,rfl,rfl,fun i c hi=>by simp at hi⟩
 | z::zs,vs,h=>by
  rw [List.map_cons] at h
  cases hz:plC n z with
  | none=>rw [hz] at h;simp [a9J] at h
  | some x =>
   rw [hz] at h
   unfold a9J at h
   split at h
   ·rename_i y hy
    cases h
    obtain ⟨segs,a1,a2,a3,a4⟩:=a1o ih hy
    obtain ⟨b1,b2⟩:=ih z x hz
    refine ⟨x::segs,by simp [a1],by simp [a2,b2],by simp [a3],fun i c hi=>?_⟩
    cases i with
    | zero=>simp at hi;subst hi;exact ⟨x,rfl,b1⟩
    | succ i=>obtain ⟨seg,c1,c2⟩:=a4 i c (by simpa using hi);exact ⟨seg,by simpa using c1,c2⟩
   ·cases h
theorem a3J {U:Nat→Nat→Prop} {w:World}:∀ (n:Nat) (c:CV) (vs:List Value),plC n c=some vs→Rep U w c vs∧vs.length=c.size
 | 0,c,vs,h=>by cases h
 | n+1,⟨k,v,l⟩,vs,h=>by
  rw [plC] at h
  unfold plS at h
  split at h
  ·split at h
   ·rename_i h1 h2
    cases h
    exact ⟨(S1 h1).2 h2,rfl⟩
   ·cases h
  ·cases h
   exact ⟨a5v U w,rfl⟩
  ·obtain ⟨segs,a1,a2,a3,a4⟩:=a1o (fun c vs h=>a3J (U:=U) (w:=w) n c vs h) h
   refine ⟨?_,?_⟩
   ·show Rep U w (.row l) vs
    rw [s8,←a1]
    exact I6 a3 a4
   ·rw [CV.size_mk,if_pos rfl,←a1,List.length_flatten,a2]
  ·cases h
section
variable {P:Program} {w0:World} {U0:UX} {nt:Nat} {ops:Array Oper} {o:Oper} {S:Nat→Option AV} {gs:List Nat} {d:Nat}
theorem b2P (zs:List CV) (hg:Gd w0 U0 nt ops o gs S) (hd:o.dst=some d) (hn:Nat.blt d nt=true) (h5:Nat.blt d 100000=true) {ty:TypeId} {it:TypeInfo} {cs:Array Value} (ho:o.op = .alloc ty) (hi:P.info? ty=some it) (hz:it.zero=some (.agg cs)) (h0:plC 6 (.row zs)=some cs.toList):AOp P w0 U0 nt ops o gs [(d,[])] S [(d,.bp d 0 []),(100000+d,.bx (.row zs))]:=by
 intro s hs hN a w ⟨D,hv,h⟩ Q K hK
 rw [if_pos (hg s hs a w D hv h)]
 have hrep:Rep (Us w0 U0 D) w (.row zs) cs.toList:=(a3J 6 _ _ h0).1
 have he:(execOp a.eval o).run P w = .ok (.value (.pointer (some ⟨w.heap.size,0,none⟩))) (w.alloc (.cells cs ty)):=by
  simp [execOp,ho,Instr.alloc,zeroValue,typeInfo,hi,hz,I9,Value.cells]
 unfold Oper.wp
 rw [he,Oper.upon_value,hd]
 have:=h.newbox (d:=d) (av := .bx (.row zs)) (hN (d,[]) (by simp)).nr (bL hn) (bL h5) (.inl rfl) ty (fun _=>hrep) (fun _ hl=>absurd hl y0)
 rw [Array.toArray_toList] at this
 exact hK _ _ ⟨_,_,this⟩
theorem zbG {P:Program} {w0:World} {U0:UX} {nt:Nat} {ops:Array Oper} {o:Oper} {S:Nat→Option AV} {gs:List Nat} {d:Nat} {ty:TypeId} {it:TypeInfo} {cs:Array Value} (zs:List CV) (p:Gd w0 U0 nt ops o gs S:=by exact gN rfl) (q:o.dst=some d:=by exact rfl) (r:Nat.blt d nt=true:=by exact rfl) (t:Nat.blt d 100000=true:=by exact rfl) (u:o.op = .alloc ty:=by exact rfl) (v:P.info? ty=some it:=by exact rfl) (x:it.zero=some (.agg cs):=by exact rfl) (y:plC 6 (.row zs)=some cs.toList:=by exact rfl):AOp P w0 U0 nt ops o gs [(d,[])] S [(d,.bp d 0 []),(100000+d,.bx (.row zs))]:=b2P zs p q r t u v x y
theorem b2k (zs:List CV) (hg:Gd w0 U0 nt ops o gs S) (hd:o.dst=some d) (hn:Nat.blt d nt=true) (h5:Nat.blt d 100000=true) {t:TypeId} {parts:Array (Nat×Operand)} {fs:Array Field} {it:TypeInfo} {cs:Array Value} {sz:List Nat} {r:List CV} (ho:o.op = .build t parts) (hu:P.underlying t=some (.struct fs)) (hi:P.info? t=some it) (hz:it.zero=some (.agg cs)) (hsz:szO P fs.toList 0=some sz) (hzz:zs.map CV.size=sz) (h0:a9J (zs.map (plC 6))=some cs.toList) (hr:X7 S parts.toList zs=some r) :
  AOp P w0 U0 nt ops o (gs++rds parts.toList) [] S [(d,.val (.row r))]:=
 d7 hg hd hn h5 (fun k hk=>List.mem_append_left _ hk) fun s hs a w D hv hm=>by
  obtain ⟨segs,e1,e2,e4,e5⟩:=a1o (U:=Us w0 U0 D) (w:=w) (a3J 6) h0
  obtain ⟨g1,g2⟩:=Y9 (U:=Us w0 U0 D) (w:=w) (ρ:=a.eval) (segs:=segs) hr (fun x hx c n q p hev=>C2 hm (fun k hk=>hs k (List.mem_append_right _ (a5F hx k hk))) hev) e4 e2 e5
  obtain ⟨pl,h1,h2⟩:=a3H hsz
  have hfill:=a0W (place:=fun i=>pl.toArray[i]?) sz (fun i z hz=>by rw [List.getElem?_toArray,h2 i z hz,Nat.zero_add]) (parts.toList.map fun x=>(x.1,a.eval x.2)) segs cs e1.symm (by rw [e2,hzz]) (fun x hx=>by rw [←hzz];exact g1 x hx)
  refine ⟨.agg (F8 segs (parts.toList.map fun x=>(x.1,a.eval x.2))).flatten.toArray,?_,i7 (A5.2 ⟨_,rfl,g2⟩)⟩
  have hb:P.built t (parts.map fun x=>(x.1,a.eval x.2)).toList=some (F8 segs (parts.toList.map fun x=>(x.1,a.eval x.2))).flatten.toArray:=by
   unfold Program.built
   rw [hi,hu]
   simp only [hz,h1]
   rw [Array.toList_map]
   exact hfill
  have:=run_build w t _ _ hb
  generalize a.eval=ρ at this ⊢
  simp [execOp,ho,this]
theorem zbw {P:Program} {w0:World} {U0:UX} {nt:Nat} {ops:Array Oper} {o:Oper} {S:Nat→Option AV} {gs:List Nat} {d:Nat} {t:TypeId} {parts:Array (Nat×Operand)} {fs:Array Field} {it:TypeInfo} {cs:Array Value} {sz:List Nat} {r:List CV} (zs:List CV) (u:Gd w0 U0 nt ops o gs S:=by exact gN rfl) (v:o.dst=some d:=by exact rfl) (y:Nat.blt d nt=true:=by exact rfl) (A:Nat.blt d 100000=true:=by exact rfl) (B:o.op = .build t parts:=by exact rfl) (C:P.underlying t=some (.struct fs):=by exact rfl) (E:P.info? t=some it:=by exact rfl) (F:it.zero=some (.agg cs):=by exact rfl) (G:szO P fs.toList 0=some sz:=by exact rfl) (H:zs.map CV.size=sz:=by exact rfl) (h0:a9J (zs.map (plC 6))=some cs.toList:=by exact rfl) (hr:X7 S parts.toList zs=some r:=by exact rfl):AOp P w0 U0 nt ops o (gs++rds parts.toList) [] S [(d,.val (.row r))]:=b2k zs u v y A B C E F G H h0 hr
end
end Go.Proofs.YtekboofbedakcaaGreat
