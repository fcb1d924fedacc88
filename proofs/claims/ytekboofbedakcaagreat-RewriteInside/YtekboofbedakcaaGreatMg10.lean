/-
 RwOnc3 TmPlE
-/
import Derived.Test.YtekboofbedakcaaGreatMg9
import Derived.Test.YtekboofbedakcaaGreatMg5
namespace Go.Proofs.YtekboofbedakcaaGreat
open Go.RowKit
set_option linter.unusedVariables false
set_option linter.unusedSimpArgs false
set_option maxRecDepth 100000
theorem B1 {w:World} {b:Nat} {x:Value} {t:TypeId} (h:w.heap[b]?=some (.cells #[x] t (0,0))):w.cell? ⟨b,0,none⟩=some x∧w.frozen? ⟨b,0,none⟩=false:=by
 simp [World.cell?,World.frozen?,h]
theorem b6E {w:World} {b:Nat} {x:Value} {t:TypeId} (h:w.heap[b]?=some (.cells #[x] t (0,0))) (y:Value):(w.setCell ⟨b,0,none⟩ y).heap[b]?=some (.cells #[y] t (0,0)):=by
 obtain ⟨hlt,hk⟩:=Array.getElem?_eq_some_iff.1 h
 show (w.heap.modify b _)[b]?=_
 rw [Array.getElem?_eq_getElem (by rw [Array.size_modify];exact hlt),Array.getElem_modify_self,hk]
 rfl
theorem OwnL.kept {e:TypeId} {w w':World} {base:Nat} {v:Value} {xs:List LX} (h:OwnL e w base v xs) (hk:∀ k,base≤k→k<w.heap.size→w'.heap[k]?=w.heap[k]?):OwnL e w' base v xs:=by
 refine ⟨⟨h.1.1,?_⟩,fun x hx=>(h.2.1 x hx).keepB fun b o u hb hn hc=>⟨hn,by rw [j7 (hk b hn (World.block_lt_of_cell? w _ hc))];exact hc⟩,h.2.2.1,fun b hb=>⟨(h.2.2.2 b hb).1,(h.2.2.2 b hb).2.same (hk b (a2b h.2.1 b hb).1 (a2b h.2.1 b hb).2)⟩⟩
 rcases h.1.2 with h2 | ⟨g,cap,cur,q1,q2,q3,q4⟩
 ·exact .inl h2
 ·exact .inr ⟨g,cap,cur,q1,q2,(hk g q2 (Array.getElem?_eq_some_iff.1 q3).1).trans q3,q4⟩
structure b7P (R:List RuT) (ls:List LX) (g m:Nat) (l:LX) (sec:Bool) (p:List Nat) (b' o':Nat) (y:XT) (d:List Lt) (s:Tm) (id:Int):Prop where
 at_:ls[m]?=some l
 before:∀ j x,j<m→ls[j]?=some x→a5V R x.lt
 first:sec=true→o6 (l7 R) l.a.tm=none
 hit:o6 (l7 R) (l.sd sec).tm=some p
 adr:(l.sd sec).adr g (m*5+sdo sec) p=some (b',o',y)
 use:trm R (l.sd sec).tm=some (s,id)
 all:onc R (ls.map LX.lt)=some (d,id)
 put:∀ x':XT,x'.tm=s→(ls.set m (l.put sec x')).map LX.lt=d
theorem b9r {R:List RuT} {n g:Nat} {w:World} {ls:List LX} (hx:∀ x∈ls,XRl n w x) {q:List Lt×Int} (h:onc R (ls.map LX.lt)=some q):∃ m l sec p b' o' y s,b7P R ls g m l sec p b' o' y q.1 s q.2:=by
 rcases a0D R (ls.map LX.lt) with ⟨h1,_⟩ | ⟨m,z,h1,h2,h3⟩
 ·rw [h1] at h;cases h
 ·rw [List.getElem?_map] at h1
  obtain ⟨l,hl,rfl⟩:=Option.map_eq_some_iff.1 h1
  have hxl:=hx l (List.mem_of_getElem? hl)
  have hbef:∀ j x,j<m→ls[j]?=some x→a5V R x.lt:=fun j x hj hxj=>h2 j _ hj (by rw [List.getElem?_map,hxj];rfl)
  rcases h3 with ⟨p,s,id,k1,k2,k3⟩ | ⟨k0,p,s,id,k1,k2,k3⟩
  ·rw [h] at k3
   cases k3
   obtain ⟨y,e1,_⟩:=M4 _ k1
   obtain ⟨b',o',z,e2,_⟩:=a6h (b:=g) (off:=m*5+sdo false) hxl.1 e1
   exact ⟨m,l,false,p,b',o',z,s,hl,hbef,(fun e=>by cases e),k1,e2,k2,h,fun x' hx'=>by rw [List.map_set,←hx'];rfl⟩
  ·rw [h] at k3
   cases k3
   obtain ⟨y,e1,_⟩:=M4 _ k1
   obtain ⟨b',o',z,e2,_⟩:=a6h (b:=g) (off:=m*5+sdo true) hxl.2 e1
   exact ⟨m,l,true,p,b',o',z,s,hl,hbef,(fun _=>k0),k1,e2,k2,h,fun x' hx'=>by rw [List.map_set,←hx'];rfl⟩
theorem OwnL.vrep {e:TypeId} {w:World} {n cap:Nat} {a:Option Addr} {ls:List LX} (h:OwnL e w n (.slice a ls.length cap) ls):VRep (fun b _=>n≤b) w (.lst ((ls.map LX.lt).map Lt.cv)) (.slice a ls.length cap):=by
 rcases Nat.eq_zero_or_pos ls.length with h0 | h0
 ·have:=List.eq_nil_of_length_eq_zero h0
  subst this
  obtain ⟨a',c',e1,e2,e3,e4,_⟩:=A3 h.1
  injection e1 with e1 _ e6
  subst e1;subst e6
  exact d8.2 ⟨_,_,_,rfl,rfl,e2,e3,(fun h=>e4 h),[],.inl rfl,rfl⟩
 ·rcases h.1.2 with ⟨_,q⟩ | ⟨g,c9,cur,q1,q2,_⟩
  ·omega
  ·injection q1 with q1 _ q3
   subst q1;subst q3
   obtain ⟨c1,c2,c3,c4,c5,c6,c7⟩:=h.cells
   exact U5 c1 c3 c4 h0 c7 h.2.1
theorem OwnL.xat {e:TypeId} {w:World} {n g cap:Nat} {a:Option Addr} {ls:List LX} (h:OwnL e w n (.slice a ls.length cap) ls) (hg:0<ls.length→a=some ⟨g,0,none⟩) {i:Nat} {l:LX} (hl:ls[i]?=some l) (sec:Bool):XAt (fun k _=>n≤k) w g (i*5+sdo sec) (l.sd sec)∧∀ p b' o' y,(l.sd sec).adr g (i*5+sdo sec) p=some (b',o',y)→Fz w b'∧n≤b'∧b'<w.heap.size:=by
 have hil:i<ls.length:=(List.getElem?_eq_some_iff.1 hl).1
 have ha:=hg (by omega)
 subst ha
 obtain ⟨c1,c2,c3,c4,c5,c6,c7⟩:=h.cells
 have hxl:=h.2.1 l (List.mem_of_getElem? hl)
 have hxr:XR (fun k _=>n≤k) w (l.sd sec):=by
  cases sec
  ·exact hxl.1
  ·exact hxl.2
 have hcs:l.cs[sdo sec]?=some (.int .i64 (l.sd sec).f)∧l.cs[sdo sec+1]?=some (l.sd sec).h:=by cases sec<;>exact ⟨rfl,rfl⟩
 refine ⟨⟨hxr,⟨c1,c7 i l hl _ _ hcs.1⟩,c1,by have:=c7 i l hl _ _ hcs.2;rw [←Nat.add_assoc] at this;exact this⟩,fun p b' o' y hadr=>?_⟩
 rcases a0j hadr with ⟨_,q1,q2⟩ | ⟨_,q⟩
 ·rw [q1];exact ⟨c5,c1,c2⟩
 ·have hm:b'∈ls.flatMap LX.bl:=List.mem_flatMap.2 ⟨l,List.mem_of_getElem? hl,l.sd_bl sec b' q⟩
  exact ⟨(h.2.2.2 b' hm).2,a2b h.2.1 b' hm⟩
theorem Z4 {tmps:Array Value} {w:World} {g:Nat} {z:Int} {c:Bool} {v:Value} (hv:v.oneCell'=true) (hp:tmps.getD 4 undef = .pointer (some ⟨g,0,none⟩)) (hp3:tmps.getD 5 undef = .pointer (some ⟨g+1,0,none⟩)) (hp4:tmps.getD 6 undef = .pointer (some ⟨g+2,0,none⟩)) (h0:w.heap[g]?=some (.cells #[v] 51 (0,0))) (h1:w.heap[g+1]?=some (.cells #[.int .i64 z] 3 (0,0))) (h2:w.heap[g+2]?=some (.cells #[.bool c] 4 (0,0))) :
  (results Tryz.f16 tmps).run Tryz.prog w = .ok (.tuple #[v,.int .i64 z,.bool c]) w:=by
 have hp':tmps[4]?.getD undef = .pointer (some ⟨g,0,none⟩):=by simpa using hp
 have hp3':tmps[5]?.getD undef = .pointer (some ⟨g+1,0,none⟩):=by simpa using hp3
 have hp4':tmps[6]?.getD undef = .pointer (some ⟨g+2,0,none⟩):=by simpa using hp4
 have l0:=S3 Tryz.underlying51 (by kernel_rfl) rfl hv h0
 have l1:=S3 Tryz.underlying3 (by kernel_rfl) rfl rfl h1
 have l2:=S3 Tryz.underlying4 (by kernel_rfl) rfl rfl h2
 simp [results,hp',hp3',hp4',asAddr,l0,l1,l2]
theorem a8G (w:World) (o0 o1 o2 o3 o4:Obj):(((((w.alloc o0).alloc o1).alloc o2).alloc o3).alloc o4).heap[w.heap.size]?=some o0∧(((((w.alloc o0).alloc o1).alloc o2).alloc o3).alloc o4).heap[w.heap.size+1]?=some o1∧(((((w.alloc o0).alloc o1).alloc o2).alloc o3).alloc o4).heap[w.heap.size+2]?=some o2∧(((((w.alloc o0).alloc o1).alloc o2).alloc o3).alloc o4).heap[w.heap.size+3]?=some o3∧(((((w.alloc o0).alloc o1).alloc o2).alloc o3).alloc o4).heap[w.heap.size+4]?=some o4:=by
 have k0:=World.alloc_heap_new w o0
 have k1:=World.alloc_heap_new (w.alloc o0) o1
 have k2:=World.alloc_heap_new ((w.alloc o0).alloc o1) o2
 have k3:=World.alloc_heap_new (((w.alloc o0).alloc o1).alloc o2) o3
 have k4:=World.alloc_heap_new ((((w.alloc o0).alloc o1).alloc o2).alloc o3) o4
 simp only [World.size_alloc,Nat.add_assoc,Nat.reduceAdd] at k0 k1 k2 k3 k4
 refine ⟨?_,?_,?_,?_,k4⟩
 ·rw [Below.heap_alloc _ _ _ (by simp only [World.size_alloc];omega),Below.heap_alloc _ _ _ (by simp only [World.size_alloc];omega),Below.heap_alloc _ _ _ (by simp only [World.size_alloc];omega),Below.heap_alloc _ _ _ (by simp only [World.size_alloc];omega)]
  exact k0
 ·rw [Below.heap_alloc _ _ _ (by simp only [World.size_alloc];omega),Below.heap_alloc _ _ _ (by simp only [World.size_alloc];omega),Below.heap_alloc _ _ _ (by simp only [World.size_alloc];omega)]
  exact k1
 ·rw [Below.heap_alloc _ _ _ (by simp only [World.size_alloc];omega),Below.heap_alloc _ _ _ (by simp only [World.size_alloc];omega)]
  exact k2
 ·rw [Below.heap_alloc _ _ _ (by simp only [World.size_alloc];omega)]
  exact k3
section
variable {P:Program} {o:Oper} {w:World} {ρ:Operand→Value}
theorem b3Y {x:Operand} {v:Value} (ho:o.op = .move x) (hx:ρ x=v):(execOp ρ o).run P w = .ok (.value v) w:=by
 simp [execOp,ho,hx]
end
theorem a8H {a:Act} {k:Nat} {v:Value} (h:a.tmps[k]?=some v):a.eval (.tmp k)=v:=by
 show a.tmps.getD k undef=v
 rw [Array.getD_eq_getD_getElem?,h]
 rfl
theorem r5 {a:Act} {d k:Nat} {v u:Value} (h:a.tmps[k]?=some u) (hne:d≠k):(a.put (some d) v).tmps[k]?=some u:=by
 show (a.tmps.setIfInBounds d v)[k]?=_
 rw [Array.getElem?_setIfInBounds_ne hne]
 exact h
theorem a1u {a:Act} {d:Nat} {v:Value} (h:d<a.tmps.size):(a.put (some d) v).tmps[d]?=some v:=by
 show (a.tmps.setIfInBounds d v)[d]?=_
 rw [Array.getElem?_setIfInBounds_self_of_lt h]
theorem R8 {a:Act} {d:Nat} {v:Value}:(a.put (some d) v).tmps.size=a.tmps.size:=by
 show (a.tmps.setIfInBounds d v).size=_
 rw [Array.size_setIfInBounds]
set_option maxHeartbeats 4000000 in
theorem b0D (W0:World) (R:List RuT) (hR:∀ r∈R,b2i r) (hRl:R.length≤1000000) (c:List Lt) (hl:c.length≤1000000) (hc:∀ l∈c,l.a.rng∧l.a.size≤90000000000∧l.b.rng∧l.b.size≤90000000000) :
  AFun Tryz.prog W0 16 [.lst (R.map RuT.cv),.lst (c.map Lt.cv)] (match onc R (c.map Lt.strip) with | none => .tup [.lst ((c.map Lt.strip).map Lt.cv),.i 0,.b false] | some (d,id) => .tup [.lst (d.map Lt.cv),.i id,.b true]):=by
 refine ⟨r9 Tryz.func16 rfl rfl,by cases onc R (c.map Lt.strip)<;>exact .inr rfl,by cases onc R (c.map Lt.strip)<;>rfl,?_⟩
 obtain ⟨rv,hrv⟩:∃ rv,rv=(match onc R (c.map Lt.strip) with | none=>AV.tup [.lst ((c.map Lt.strip).map Lt.cv),.i 0,.b false] | some (d,id) => .tup [.lst (d.map Lt.cv),.i id,.b true]):=⟨_,rfl⟩
 rw [←hrv]
 have HRV:=K3 hrv
 clear hrv
 rintro U w vs _ ⟨u1,us1,rfl,h1,u2,us2,rfl,h2,h3⟩
 have h3:us2=[]:=h3
 subst h3
 obtain ⟨a0,n0,c0,rfl,hn0,_⟩:=d8.1 h1
 rw [List.length_map] at hn0
 subst hn0
 have h1:=h1.mono (V:=fun _ _=>True) fun _ _ _=>trivial
 obtain ⟨ac,cc,rfl,g0,off0,hac,hat⟩:=b7z h2 fun l hl=>⟨(hc l hl).1,(hc l hl).2.2.1⟩
 have hg0:0<c.length→g0<w.heap.size:=fun hp=>by
  obtain ⟨_,_,_,_,_,_,_,_,h⟩:=hat 0 c[0] (List.getElem?_eq_getElem hp)
  exact World.block_lt_of_cell? w _ (h 0 _ rfl)
 obtain ⟨wz,hwz⟩:∃ wz,wz=((((w.alloc (.cells #[.slice a0 R.length c0] 31)).alloc (.cells #[.slice ac c.length cc] 51)).alloc (.cells #[.slice none 0 0] 51)).alloc (.cells #[.int .i64 0] 3)).alloc (.cells #[.bool false] 4):=⟨_,rfl⟩
 have hb0:Below w.heap.size w wz:=by rw [hwz];exact bA (bA (bA (bA (bA (bW _) _) _) _) _) _
 have hzs:wz.heap.size=w.heap.size+5:=by rw [hwz];simp
 have hX:=a8G w (.cells #[.slice a0 R.length c0] 31) (.cells #[.slice ac c.length cc] 51) (.cells #[.slice none 0 0] 51) (.cells #[.int .i64 0] 3) (.cells #[.bool false] 4)
 rw [←hwz] at hX
 have HCl:Hid (∀ w1,Below w.heap.size w w1→Calls Tryz.prog 38 #[.slice ac c.length cc] w1 fun e w'=>∃ ls a c1,ls.map LX.lt=c.map Lt.strip∧e = .returned (.slice a ls.length c1)∧OwnL 54 w' w1.heap.size (.slice a ls.length c1) ls∧Below w1.heap.size w1 w'):=fun w1 hb=>a8g c w1 ac cc g0 off0 hac (fun hp=>by have:=hg0 hp;have:=hb.size;omega) hl (fun l hl=>⟨(hc l hl).2.1,(hc l hl).2.2.2⟩) fun i l hil=>by
  obtain ⟨la,na,ca,lb,nb,cb,k1,k2,k3⟩:=hat i l hil
  have hp:0<c.length:=by have:=(List.getElem?_eq_some_iff.1 hil).1;omega
  exact ⟨la,na,ca,lb,nb,cb,k1.bw hb,k2.bw hb,fun k u hk=>by rw [j7 (hb.block g0 (hg0 hp))];exact k3 k u hk⟩
 have HS:Hid (∀ w1 v,v.oneCell'=true→Calls Tryz.prog 39 #[v] w1 fun e w'=>∃ lb:List Value,e = .returned (.func (.func 70) #[] lb.toArray)∧VReps (fun _ _=>True) w' [.ptr (.sc v)] lb∧Below w1.heap.size w1 w'):=fun w1 v hv=>by
  refine ((a7Y w1 v hv).2.2.2 (fun _ _=>True) w1 [v] trivial ⟨_,_,rfl,b5.2 ⟨rfl,hv⟩,rfl⟩).mono ?_
  rintro e w' ⟨u,rfl,hu,hb⟩
  have hu:VRep (fun b o=>True∨w1.heap.size≤b) w' (.fn 70 0 [.ptr (.sc v)]) u:=hu
  obtain ⟨ys,lb,rfl,e2,e3,e4⟩:=P9.1 hu
  have hys:ys=[]:=List.eq_nil_of_length_eq_zero e2
  subst hys
  exact ⟨lb,rfl,(N7 e4 (by simpa using e3)).keep (V:=fun _ _=>True) (w':=w') fun _ _ _ _ hc=>⟨trivial,hc⟩,hb⟩
 have HRP:Hid (∀ A:World,(∀ k,k<w.heap.size→A.heap[k]?=w.heap[k]?)→A.heap[w.heap.size]?=some (.cells #[.slice a0 R.length c0] 31 (0,0))→VRep (fun _ _=>True) A (.ptr (.lst (R.map RuT.cv))) (.pointer (some ⟨w.heap.size,0,none⟩))):=fun A hk h=>by
  have h4:VRep (fun _ _=>True) A (.lst (R.map RuT.cv)) (.slice a0 R.length c0):=h1.keep fun b o v _ hc=>⟨trivial,by rw [j7 (hk b (World.block_lt_of_cell? w _ hc))];exact hc⟩
  refine a3C.2 ⟨w.heap.size,0,[.slice a0 R.length c0],rfl,h4,fun i hi=>⟨trivial,?_⟩⟩
  rw [i01 hi]
  exact (B1 h).1
 have HRL:Hid (∀ A:World,(∀ k,k<w.heap.size→A.heap[k]?=w.heap[k]?)→VRep (fun _ _=>True) A (.lst (R.map RuT.cv)) (.slice a0 R.length c0)):=fun A hk=>h1.keep fun b o v _ hc=>⟨trivial,by rw [j7 (hk b (World.block_lt_of_cell? w _ hc))];exact hc⟩
 have HW:=K3 hwz
 have HX:=K3 hX
 clear hwz hat hac hX
 refine a1t Tryz.func16 rfl (a6b (n:=3) ?_)
 simp only [Tryz.ntmps16,List.size_toArray,List.length_cons,List.length_nil,Nat.reduceAdd,Nat.reduceSub,Array.replicate_succ,Array.replicate_zero,List.push_toArray,List.append_toArray,List.nil_append,List.cons_append]
 gi_wp2
 rw [←HW.out]
 obtain ⟨hf0,hf1⟩:=B1 HX.out.2.1
 gi_wp2_with (first
  | (refine ⟨trivial,?_⟩;gi_at_call 38;refine (callsIn_wide.2 (HCl.out _ hb0)).mono ?_;rintro e w1 ⟨ls,a1,c1,hls,rfl,hown,hb1⟩;have hc1:=(hb1.block (w.heap.size+1) (by omega)).trans HX.out.2.1;obtain ⟨hg1,hg2⟩:=B1 hc1;dsimp only))
 obtain ⟨w2,hw2⟩:∃ w2,w2=w1.setCell ⟨w.heap.size+1,0,none⟩ (.slice a1 ls.length c1):=⟨_,rfl⟩
 have hb1s:=hb1.size
 have hk2:∀ k,k≠w.heap.size+1→w2.heap[k]?=w1.heap[k]?:=fun k hk=>by rw [hw2,Below.heap_setCell _ _ _ _ hk]
 have hs2:w2.heap.size=w1.heap.size:=by rw [hw2];simp
 have hbx2:w2.heap[w.heap.size+1]?=some (.cells #[.slice a1 ls.length c1] 51 (0,0)):=by rw [hw2];exact b6E hc1 _
 have hB2:Below w.heap.size w w2:=by
  rw [hw2]
  exact (hb0.trans (hb1.mono (by omega))).setCell (p:=⟨w.heap.size+1,0,none⟩) (by show w.heap.size≤w.heap.size+1;omega) _
 gi_wp2_with (first
  | (refine ⟨trivial,?_⟩;gi_at_call 39;rw [←hw2];refine (callsIn_wide.2 (HS.out w2 _ rfl)).mono ?_;rintro e w3 ⟨lb,rfl,hlb,hb3⟩;dsimp only))
 have hs3:=hb3.size
 have hB3:Below w.heap.size w w3:=hB2.trans (hb3.mono hB2.size)
 have HB3K:Hid (∀ k,k<w.heap.size→w3.heap[k]?=w.heap[k]?):=fun k hk=>hB3.block k hk
 have hown3:OwnL 54 w3 wz.heap.size (.slice a1 ls.length c1) ls:=(hown.kept fun k hk _=>hk2 k (by omega)).bw hb3
 have hlt3:∀ k,k<wz.heap.size→k≠w.heap.size+1→w3.heap[k]?=wz.heap[k]?:=fun k hk hne=>(hb3.block _ (by omega)).trans ((hk2 _ hne).trans (hb1.block _ hk))
 have q0:=(hlt3 w.heap.size (by omega) (by omega)).trans HX.out.1
 have q1:=(hb3.block (w.heap.size+1) (by omega)).trans hbx2
 have q2:=(hlt3 (w.heap.size+2) (by omega) (by omega)).trans HX.out.2.2.1
 have q3:=(hlt3 (w.heap.size+3) (by omega) (by omega)).trans HX.out.2.2.2.1
 have q4:=(hlt3 (w.heap.size+4) (by omega) (by omega)).trans HX.out.2.2.2.2
 have hlen:ls.length=c.length:=by have:=congrArg List.length hls;simpa using this
 have hfa:∀ (i:Nat) (l:LX) (sec:Bool),ls[i]?=some l→(l.sd sec).tm.strip=(l.sd sec).tm∧(l.sd sec).tm.rng∧(l.sd sec).tm.size≤90000000000:=fun i l sec hil=>by
  have hm:LX.lt l∈c.map Lt.strip:=by rw [←hls];exact List.mem_map.2 ⟨l,List.mem_of_getElem? hil,rfl⟩
  obtain ⟨z,hz,e⟩:=List.mem_map.1 hm
  obtain ⟨z1,z2,z3,z4⟩:=hc z hz
  have ea:l.a.tm=z.a.strip:=(congrArg Lt.a e).symm
  have eb:l.b.tm=z.b.strip:=(congrArg Lt.b e).symm
  cases sec
  ·show l.a.tm.strip=l.a.tm∧l.a.tm.rng∧l.a.tm.size≤_
   rw [ea]
   exact ⟨Tm.strip_strip _,D4 _ z1,by rw [Tm.strip_size];exact z2⟩
  ·show l.b.tm.strip=l.b.tm∧l.b.tm.rng∧l.b.tm.size≤_
   rw [eb]
   exact ⟨Tm.strip_strip _,D4 _ z3,by rw [Tm.strip_size];exact z4⟩
 obtain ⟨g,hg⟩:∃ g,0<ls.length→a1=some ⟨g,0,none⟩:=by
  rcases hown3.1.2 with ⟨_,h⟩ | ⟨g,cap,cur,h,_⟩
  ·exact ⟨0,fun hp=>by omega⟩
  ·injection h with h _ _
   exact ⟨g,fun _=>h⟩
 obtain ⟨bb,hbb⟩:∃ bb,bb=(onc R (ls.map LX.lt)).isNone:=⟨_,rfl⟩
 obtain ⟨G,hGd⟩:∃ G:World→Prop,G=fun B=>∃ d id,onc R (ls.map LX.lt)=some (d,id)∧B.heap[w.heap.size+2]?=some (.cells #[.slice a1 ls.length c1] 51 (0,0))∧B.heap[w.heap.size+3]?=some (.cells #[.int .i64 id] 3 (0,0))∧B.heap[w.heap.size+4]?=some (.cells #[.bool true] 4 (0,0))∧VRep (fun b _=>wz.heap.size≤b) B (.lst (d.map Lt.cv)) (.slice a1 ls.length c1):=⟨_,rfl⟩
 have hG:a9o w3.heap.size G:=by
  rw [hGd]
  have hlt:∀ {B:World} {k:Nat} {o:Obj},B.heap[k]?=some o→k<B.heap.size:=fun h=>(Array.getElem?_eq_some_iff.1 h).1
  refine ⟨fun B C ⟨d,id,g1,g2,g3,g4,g5⟩ hb=>⟨d,id,g1,(hb.block _ (hlt g2)).trans g2,(hb.block _ (hlt g3)).trans g3,(hb.block _ (hlt g4)).trans g4,g5.keep fun b o v hu hcell=>⟨hu,by rw [j7 (hb.block b (World.block_lt_of_cell? B _ hcell))];exact hcell⟩⟩,fun B l o o' hl ho hc hc' ⟨d,id,g1,g2,g3,g4,g5⟩=>⟨d,id,g1,(World.putObj_heap_other (by omega)).trans g2,(World.putObj_heap_other (by omega)).trans g3,(World.putObj_heap_other (by omega)).trans g4,g5.keep fun k q v hu hcell=>⟨hu,?_⟩⟩⟩
  by_cases hkl:k=l
  ·subst hkl
   simp only [World.cell?,ho] at hcell
   cases o with
   | cells c e f=>cases hc
   | _=>simp at hcell
  ·rw [j7 (World.putObj_heap_other (fun e=>hkl e))];exact hcell
 rename_i Q9 K9 hK9
 refine (a1x (gf:=70) (lb:=lb.toArray) rfl (r9 Tryz.func70 rfl rfl) bb (N:=w3.heap.size)
  (X:=fun k=>(∃ m l sec p o' y d s id,b7P R ls g m l sec p k o' y d s id)∨k=w.heap.size+2∨k=w.heap.size+3∨k=w.heap.size+4) (G:=G) hG (Nat.le_refl _) ?hX
  (fun vs _=>∃ (i:Nat) (l:LX) (sec:Bool),ls[i]?=some l∧o6 (l7 R) (l.sd sec).tm=none∧vs=[.pointer (some ⟨g,i*5+sdo sec,none⟩)])
  (fun vs _=>∃ m l sec p b' o' y d s id,b7P R ls g m l sec p b' o' y d s id∧vs=[.pointer (some ⟨g,m*5+sdo sec,none⟩)])
  ?ps ?it ?rt ?rf ?done ?stop)
 case hX =>
  rintro k (⟨m,l,sec,p,o',y,d,s,id,h⟩ | rfl | rfl | rfl)
  ·exact ((hown3.xat hg h.at_ sec).2 _ _ _ _ h.adr).2.2
  ·omega
  ·omega
  ·omega
 case ps =>
  rintro vs A (⟨i,l,sec,_,_,rfl⟩ | ⟨m,l,sec,p,b',o',y,d,s,id,_,rfl⟩)<;>rfl
 case it =>
  intro l W N2 X2 G2 hG2 hN2 hX2 hW hT hF
  have hva:VReps (fun _ _=>True) W [L8 l,.ptr (.sc (.slice a1 ls.length c1))] (.func (.yield l) #[] #[]::lb):=by
   refine ⟨_,_,rfl,b5.2 ⟨rfl,rfl⟩,?_⟩
   exact (hlb.keep (V:=fun _ _=>True) (w':=W) fun bb o v _ hc=>⟨trivial,by rw [j7 (hW.block bb (World.block_lt_of_cell? w3 _ hc))];exact hc⟩)
  have harr:(#[Value.func (.yield l) #[] #[]]++lb.toArray)=(Value.func (.yield l) #[] #[]::lb).toArray:=by simp
  rw [harr]
  have hyt:∀ (i:Nat) (x:LX) (sec:Bool),ls[i]?=some x→o6 (l7 R) (x.sd sec).tm=none→YT Tryz.prog W l [v8 g (0+i*5+sdo sec)]:=fun i x sec hix hnx Rr A vs k4 k5=>by
   obtain ⟨u,us,rfl,k6,k7⟩:=k5
   have k7:us=[]:=k7
   subst k7
   obtain ⟨rfl,_⟩:=b5.1 k6
   exact hT _ A ⟨i,x,sec,hix,hnx,by rw [Nat.zero_add]⟩ k4
  cases hcb:onc R (ls.map LX.lt) with
  | none =>
   have hbt:bb=true:=by rw [hbb,hcb];rfl
   have hno:∀ x∈ls,a5V R x.lt:=by
    rcases a0D R (ls.map LX.lt) with ⟨_,h⟩ | ⟨m,z,_,_,⟨p,s,id,_,_,h⟩ | ⟨_,p,s,id,_,_,h⟩⟩
    ·exact fun x hx=>h _ (List.mem_map.2 ⟨x,hx,rfl⟩)
    ·rw [hcb] at h;cases h
    ·rw [hcb] at h;cases h
   have hq:SQ Tryz.prog l g 0 ls.length (fun _ _=>True) W:=fun i hi=>by
    obtain ⟨x,hx⟩:∃ x,ls[i]?=some x:=⟨ls[i],List.getElem?_eq_getElem hi⟩
    have hnx:=hno x (List.mem_of_getElem? hx)
    exact ⟨hyt i x false hx hnx.1,hyt i x true hx hnx.2⟩
   refine ((b2K l g 0 ls.length c1 a1 hg (by omega)).2.2.2 _ W _ hq hva).mono ?_
   rintro e V ⟨v,rfl,_,hb⟩
   exact ⟨⟨v,rfl⟩,fun _=>hb,fun h=>by rw [hbt] at h;cases h⟩
  | some q =>
   have hbf:bb=false:=by rw [hbb,hcb];rfl
   obtain ⟨m,x,sec,p,b',o',y,s,hh⟩:=b9r (g:=g) hown3.2.1 hcb
   have hyf:YF Tryz.prog W l [v8 g (0+m*5+sdo sec)] (FR X2 G2):=fun Rr A vs k4 k5=>by
    obtain ⟨u,us,rfl,k6,k7⟩:=k5
    have k7:us=[]:=k7
    subst k7
    obtain ⟨rfl,_⟩:=b5.1 k6
    exact hF _ A ⟨m,x,sec,p,b',o',y,q.1,s,q.2,hh,by rw [Nat.zero_add]⟩ k4
   have hq:SQF Tryz.prog (FR X2 G2) l g 0 m sec (fun _ _=>True) W:=by
    refine ⟨fun i hi=>?_,fun e=>?_,fun e=>?_⟩
    ·have hml:m<ls.length:=(List.getElem?_eq_some_iff.1 hh.at_).1
     obtain ⟨z,hz⟩:∃ z,ls[i]?=some z:=⟨ls[i],List.getElem?_eq_getElem (by omega)⟩
     have hnx:=hh.before i z hi hz
     exact ⟨hyt i z false hz hnx.1,hyt i z true hz hnx.2⟩
    ·subst e;exact hyf
    ·subst e;exact ⟨hyt m x false hh.at_ (hh.first rfl),hyf⟩
   refine ((b3a (FR X2 G2) (U8 hG2) l g 0 ls.length c1 a1 hg (by omega) m (List.getElem?_eq_some_iff.1 hh.at_).1 sec).2.2.2 _ W _ hq hva).mono ?_
   rintro e V ⟨v,rfl,_,hb⟩
   exact ⟨⟨v,rfl⟩,(fun h=>by rw [hbf] at h;cases h),fun _=>hb⟩
 case rt =>
  rintro vs A rec ⟨i,l,sec,hil,hno9,rfl⟩ hA hL hA2
  obtain ⟨A',hA'⟩:∃ A',A'=A.putObj (w3.heap.size+1) (.loop { rec with state := .busy }):=⟨_,rfl⟩
  have hAk:∀ k,k<w3.heap.size→A'.heap[k]?=w3.heap[k]?:=fun k hk=>by rw [hA',World.putObj_heap_other (by omega)];exact hA.block k hk
  obtain ⟨f1,f2,f3⟩:=hfa i l sec hil
  have hx9:XAt (fun _ _=>True) A' g (i*5+sdo sec) (l.sd sec):=(hown3.xat hg hil sec).1.keep fun b o v _ hc=>⟨trivial,by rw [j7 (hAk b (World.block_lt_of_cell? w3 _ hc))];exact hc⟩
  have hR9:VRep (fun _ _=>True) A' (.ptr (.lst (R.map RuT.cv))) (.pointer (some ⟨w.heap.size,0,none⟩)):=HRP.out A' (fun k hk=>(hAk k (by omega)).trans (HB3K.out k hk)) ((hAk _ (by omega)).trans q0)
  have hfirst:=b3s R hR hRl (l.sd sec) g (i*5+sdo sec) (fun p b' o' y hadr _=>by
   obtain ⟨_,m2,m3⟩:=T0 f1 f2 (a0g hadr)
   exact ⟨m2,by omega⟩) hno9
  rw [a0G [14]]
  refine wpIn_region_lit (a0K (ro:=some (w3.heap.size+1)) (al:=[(7,14)]) rfl ?_)
  refine ⟨Below.refl _ _,?_⟩
  rw [←hA']
  have hf:∀ q∈[(2,CV.ptr (.lst (R.map RuT.cv))),(7,v8 g (i*5+sdo sec))],∃ v,(a6T [(7,14)] (a7b [14] [.pointer (some ⟨g,i*5+sdo sec,none⟩)] #[.slice a0 R.length c0,.slice ac c.length cc,.pointer (some ⟨w.heap.size,0,none⟩),.pointer (some ⟨w.heap.size+1,0,none⟩),.pointer (some ⟨w.heap.size+1+1,0,none⟩),.pointer (some ⟨w.heap.size+1+1+1,0,none⟩),.pointer (some ⟨w.heap.size+1+1+1+1,0,none⟩),undef,undef,undef,.slice ac c.length cc,.slice a1 ls.length c1,.slice a1 ls.length c1,.func (.func 70) #[] lb.toArray,undef,undef,undef,undef,undef,undef,undef,undef,undef,undef,undef,undef]))[q.1]?=some v∧VRep (fun _ _=>True) A' q.2 v:=by
   intro q hq
   simp only [List.mem_cons,List.not_mem_nil,or_false] at hq
   rcases hq with rfl | rfl
   ·exact ⟨_,rfl,hR9⟩
   ·exact ⟨_,rfl,b5.2 ⟨rfl,rfl⟩⟩
  refine wpIn_mono ((?_:AWp Tryz.prog A' topX 26 _ (fun e _=>e = .normal) [(2,.val (.ptr (.lst (R.map RuT.cv)))),(7,.val (v8 g (i*5+sdo sec)))]) ⟨some (w3.heap.size+1),[]⟩ _ _ (a0r _ rfl hf rfl)) ?_
  ·have hW:=a6i A'
   have hQ:QUp (fun (U:Nat→Nat→Prop) w=>XAt U w g (i*5+sdo sec) (l.sd sec)):=fun U V w w' h hb hU=>h.keep fun b o v hu hc=>by
    have hlt:b<w.heap.size:=World.block_lt_of_cell? w _ hc
    exact ⟨hU b o hlt hu,by rw [j7 (hb.block b hlt)];exact hc⟩
   have hq:(fun (U:Nat→Nat→Prop) w=>XAt U w g (i*5+sdo sec) (l.sd sec)) topX.m A':=hx9
   refine aB (aS (aR ?_))
   refine nc zY (nc zj (nc (zn (z:=T6 A' g (i*5+sdo sec) R)) (nc (zr hQ hW hq (A:=hfirst)) (nc zj (nc zD (nc zD (nc zd (nc zd ?_))))))))
   refine aS (aR ?_)
   refine nc zj ?_
   exact aC rfl (fun hc=>by cases hc) (fun _=>aK rfl)
  ·rintro e a3 B ⟨a4,rfl,s',rfl,D',hv',h3⟩
   have h4:=h3.below.below fun k h=>h
   rw [show A'.heap.size=A.heap.size by rw [hA',World.putObj_size]] at h4
   exact ⟨rfl,h4⟩
 case rf =>
  rintro vs A rec ⟨m,l,sec,p,b',o',y,d,s,id,hh,rfl⟩ hA hL hA2
  obtain ⟨hxa,hfzs⟩:=hown3.xat hg hh.at_ sec
  obtain ⟨z1,z2,z3⟩:=hfzs _ _ _ _ hh.adr
  obtain ⟨f1,f2,f3⟩:=hfa m l sec hh.at_
  have hpos:0<ls.length:=by have:=(List.getElem?_eq_some_iff.1 hh.at_).1;omega
  obtain ⟨o1,ho1⟩:∃ o1,o1=m*5+sdo sec:=⟨_,rfl⟩
  have hadr:=hh.adr
  rw [←ho1] at hxa hadr
  obtain ⟨A',hA'⟩:∃ A',A'=A.putObj (w3.heap.size+1) (.loop { rec with state := .busy }):=⟨_,rfl⟩
  have hAs:A'.heap.size=A.heap.size:=by rw [hA',World.putObj_size]
  have hAk:∀ k,k<w3.heap.size→A'.heap[k]?=w3.heap[k]?:=fun k hk=>by rw [hA',World.putObj_heap_other (by omega)];exact hA.block k hk
  have hxA:XAt (fun _ _=>True) A' g o1 (l.sd sec):=hxa.keep fun b o v _ hc=>⟨trivial,by rw [j7 (hAk b (World.block_lt_of_cell? w3 _ hc))];exact hc⟩
  have hR9:VRep (fun _ _=>True) A' (.lst (R.map RuT.cv)) (.slice a0 R.length c0):=HRL.out A' (fun k hk=>(hAk k (by omega)).trans (HB3K.out k hk))
  have HU:Hid (Calls Tryz.prog 27 #[.slice a0 R.length c0,.pointer (some ⟨g,o1,none⟩)] A' fun e V=>∃ v,e = .returned v∧VRep (fun _ _=>True) V (a8L g o1 R) v∧Below A'.heap.size A' V):=by
   refine ((T6 A' g o1 R).2.2.2 (fun _ _=>True) A' [_,_] trivial ⟨_,_,rfl,hR9,_,_,rfl,b5.2 ⟨rfl,rfl⟩,rfl⟩).mono ?_
   rintro e V ⟨v,rfl,h4,h5⟩
   exact ⟨v,rfl,VRep.mono (fun _ _ _=>trivial) h4,h5⟩
  have HF:Hid (∀ (A2:World) (v:Value),Below A'.heap.size A' A2→VRep (fun _ _=>True) A2 (a8L g o1 R) v→Calls Tryz.prog 26 #[v] A2 fun e V=>e = .returned (.tuple #[.int .i64 id,.bool true])∧VRep (fun b _=>wz.heap.size≤b) V (.lst (d.map Lt.cv)) (.slice a1 ls.length c1)∧(∀ k,k<A2.heap.size→k≠b'→V.heap[k]?=A2.heap[k]?)∧V.os=A2.os∧V.tape=A2.tape∧V.output=A2.output∧A2.heap.size≤V.heap.size):=fun A2 v hb2 hv=>by
   have hs2:=hb2.size
   have hA2k:∀ k,k<w3.heap.size→A2.heap[k]?=w3.heap[k]?:=fun k hk=>(hb2.block k (by have:=hA.size;omega)).trans (hAk k hk)
   have hx2:XAt (fun _ _=>True) A2 g o1 (l.sd sec):=hxA.keep fun b o v _ hc=>⟨trivial,by rw [j7 (hb2.block b (World.block_lt_of_cell? A' _ hc))];exact hc⟩
   refine (a1n R hR hRl (l.sd sec) g o1 false _ A2 hx2 (fun p b' o' y hadr _=>?_) (by rw [hh.hit];rfl) (fun p' hp'=>?_) v hv).mono ?_
   ·obtain ⟨_,m2,m3⟩:=T0 f1 f2 (a0g hadr)
    exact ⟨m2,by omega⟩
   ·rw [hh.hit] at hp'
    cases hp'
    obtain ⟨y',e1,e2,e3⟩:=M4 _ hh.hit
    have e4:=a0g hadr
    rw [e1] at e4
    cases e4
    exact ⟨b',o',y,hadr,by rw [←XT.tm_f];exact e2,e3,z1.same (hA2k b' z3)⟩
   ·rintro e V ⟨_,k2⟩
    obtain ⟨p',b2,o2,y2,r,xs,g1,g2,g3,rfl,g5,g6,g7,g8,g9,g10,g11,g12⟩:=k2 rfl
    rw [hh.hit] at g1
    cases g1
    rw [hadr] at g2
    cases g2
    have htr:=hh.use
    rw [a0w hh.hit (a0g hadr) g3] at htr
    simp only [Option.some.injEq,Prod.mk.injEq] at htr
    obtain ⟨t1,t2⟩:=htr
    have hownA:OwnL 54 A2 wz.heap.size (.slice a1 ls.length c1) ls:=hown3.kept fun k _ hk=>hA2k k hk
    rw [hg hpos] at hownA
    have hadr2:=hadr
    rw [ho1] at hadr2
    obtain ⟨x',u1,u2,_⟩:=b7s hownA hh.at_ sec hadr2 g8 (g6.keep fun b o v hu hc=>⟨by have:=hA.size;omega,hc⟩)
    rw [hh.put x' (by rw [u1,g5,t1]),←hg hpos] at u2
    exact ⟨by rw [t2],u2,g8.1,g9,g10,g11,g12⟩
  have hRP9:VRep (fun _ _=>True) A' (.ptr (.lst (R.map RuT.cv))) (.pointer (some ⟨w.heap.size,0,none⟩)):=HRP.out A' (fun k hk=>(hAk k (by omega)).trans (HB3K.out k hk)) ((hAk _ (by omega)).trans q0)
  have hAsz:=hA.size
  have hGv:a9o w3.heap.size (fun V:World=>VRep (fun b _=>wz.heap.size≤b) V (.lst (d.map Lt.cv)) (.slice a1 ls.length c1)):=by
   refine ⟨fun B C g5 hb=>g5.keep fun b o v hu hcell=>⟨hu,by rw [j7 (hb.block b (World.block_lt_of_cell? B _ hcell))];exact hcell⟩,fun B l o o' hl ho hc hc' g5=>g5.keep fun k q v hu hcell=>⟨hu,?_⟩⟩
   by_cases hkl:k=l
   ·subst hkl
    simp only [World.cell?,ho] at hcell
    cases o with
    | cells c e f=>cases hc
    | _=>simp at hcell
   ·rw [j7 (World.putObj_heap_other (fun e=>hkl e))];exact hcell
  obtain ⟨F,hFd⟩:∃ F:World→World→Prop,F=FR (fun k=>k=b') (fun V:World=>VRep (fun b _=>wz.heap.size≤b) V (.lst (d.map Lt.cv)) (.slice a1 ls.length c1)):=⟨_,rfl⟩
  have hFU:a8m (fun k=>k=b') F:=by rw [hFd];exact U8 hGv
  have hcall:a6g Tryz.prog (fun _ B=>Below A'.heap.size A' B) 26 [a8L g o1 R] (.tup [.i id,.b true]) F:=by
   refine ⟨r9 Tryz.func26 rfl rfl,.inr rfl,rfl,?_⟩
   rintro U2 A2 vs hb2 ⟨u,us,rfl,k1,k2⟩
   have k2:us=[]:=k2
   subst k2
   refine (HF.out A2 u hb2 (VRep.mono (fun _ _ _=>trivial) k1)).mono ?_
   rintro e V ⟨rfl,u1,u2,u3,u4,u5,u6⟩
   exact ⟨_,rfl,⟨[_,_],rfl,_,_,rfl,b5.2 ⟨rfl,rfl⟩,_,_,rfl,b5.2 ⟨rfl,rfl⟩,rfl⟩,by rw [hFd];exact ⟨⟨u3,u4,u5⟩,u6,fun k hk hlt=>u2 k hlt hk,u1⟩⟩
  rw [a0G [14]]
  rw [←ho1]
  refine wpIn_region_lit (a0K (ro:=some (w3.heap.size+1)) (al:=[(7,14)]) rfl ?_)
  refine ⟨Below.refl _ _,?_⟩
  rw [←hA']
  have hf:∀ q∈[(2,CV.ptr (.lst (R.map RuT.cv))),(7,v8 g o1),(3,.sc (.pointer (some ⟨w.heap.size+1,0,none⟩))),(4,.sc (.pointer (some ⟨w.heap.size+2,0,none⟩))),(5,.sc (.pointer (some ⟨w.heap.size+3,0,none⟩))),(6,.sc (.pointer (some ⟨w.heap.size+4,0,none⟩)))],∃ v,(a6T [(7,14)] (a7b [14] [.pointer (some ⟨g,o1,none⟩)] #[.slice a0 R.length c0,.slice ac c.length cc,.pointer (some ⟨w.heap.size,0,none⟩),.pointer (some ⟨w.heap.size+1,0,none⟩),.pointer (some ⟨w.heap.size+1+1,0,none⟩),.pointer (some ⟨w.heap.size+1+1+1,0,none⟩),.pointer (some ⟨w.heap.size+1+1+1+1,0,none⟩),undef,undef,undef,.slice ac c.length cc,.slice a1 ls.length c1,.slice a1 ls.length c1,.func (.func 70) #[] lb.toArray,undef,undef,undef,undef,undef,undef,undef,undef,undef,undef,undef,undef]))[q.1]?=some v∧VRep (fun _ _=>True) A' q.2 v:=by
   intro q hq
   simp only [List.mem_cons,List.not_mem_nil,or_false] at hq
   rcases hq with rfl | rfl | rfl | rfl | rfl | rfl
   ·exact ⟨_,rfl,hRP9⟩
   ·exact ⟨_,rfl,b5.2 ⟨rfl,rfl⟩⟩
   ·exact ⟨_,rfl,b5.2 ⟨rfl,rfl⟩⟩
   ·exact ⟨_,rfl,b5.2 ⟨rfl,rfl⟩⟩
   ·exact ⟨_,rfl,b5.2 ⟨rfl,rfl⟩⟩
   ·exact ⟨_,rfl,b5.2 ⟨rfl,rfl⟩⟩
  refine wpIn_block (wpIn_seq ?_)
  refine wpIn_mono ((?_:AWpZ Tryz.prog A' topX 26 (F A') _ (fun _ _=>False) (fun e s'=>e = .normal∧look s' 8=some (.val (.i id))∧look s' 9=some (.val (.b true))∧look s' 3=some (.val (.sc (.pointer (some ⟨w.heap.size+1,0,none⟩))))∧look s' 4=some (.val (.sc (.pointer (some ⟨w.heap.size+2,0,none⟩))))∧look s' 5=some (.val (.sc (.pointer (some ⟨w.heap.size+3,0,none⟩))))∧look s' 6=some (.val (.sc (.pointer (some ⟨w.heap.size+4,0,none⟩))))) [(2,.val (.ptr (.lst (R.map RuT.cv)))),(7,.val (v8 g o1)),(3,.val (.sc (.pointer (some ⟨w.heap.size+1,0,none⟩)))),(4,.val (.sc (.pointer (some ⟨w.heap.size+2,0,none⟩)))),(5,.val (.sc (.pointer (some ⟨w.heap.size+3,0,none⟩)))),(6,.val (.sc (.pointer (some ⟨w.heap.size+4,0,none⟩))))]) ⟨some (w3.heap.size+1),[]⟩ _ _ (a0r _ rfl hf rfl)) ?_
  ·have hW:=a6i A'
   have hQ:QUp (fun (_:Nat→Nat→Prop) B=>Below A'.heap.size A' B):=fun U V w w' h hb hU=>h.trans (hb.mono h.size)
   have hq:(fun (_:Nat→Nat→Prop) B=>Below A'.heap.size A' B) topX.m A':=Below.refl _ _
   refine A0 (r := .tup [.i id,.b true]) 3 [(3,.pointer (some ⟨w.heap.size+1,0,none⟩)),(4,.pointer (some ⟨w.heap.size+2,0,none⟩)),(5,.pointer (some ⟨w.heap.size+3,0,none⟩)),(6,.pointer (some ⟨w.heap.size+4,0,none⟩))] rfl rfl rfl rfl rfl ?_ (fun w1 hw1=>?_)
   ·skip
    (refine J3 (AOp.y (s5 (gN rfl) rfl rfl rfl rfl rfl rfl rfl rfl rfl)) rfl ?_)
    (refine J3 (AOp.y (aM (gN rfl) rfl rfl rfl rfl rfl)) rfl ?_)
    (refine J3 (AOp.y (b4r (gN rfl) rfl rfl rfl rfl rfl (T6 A' g o1 R))) rfl ?_)
    exact ⟨⟨rfl,rfl,rfl,rfl,trivial⟩,a1k hFU hQ hW hq hcall (gN rfl) rfl rfl⟩
   ·skip
    (refine J3 (AOp.y (aM (gN rfl) rfl rfl rfl rfl rfl)) rfl ?_)
    (refine J3 (AOp.y (aX (gN rfl) rfl rfl rfl rfl rfl rfl)) rfl ?_)
    (refine J3 (AOp.y (aX (gN rfl) rfl rfl rfl rfl rfl rfl)) rfl ?_)
    (refine J3 (AOp.y (aA (gN rfl) rfl rfl rfl rfl rfl)) rfl ?_)
    (refine J3 (AOp.y (aA (gN rfl) rfl rfl rfl rfl rfl)) rfl ?_)
    exact ⟨rfl,rfl,rfl,rfl,rfl,rfl,rfl⟩
  ·rintro e a3 V ⟨a4,rfl,(⟨s',h,_⟩ | ⟨w9,s',hF1,⟨rfl,l8,l9,l3,l4,l5,l6⟩,D',hv',h3⟩)⟩
   ·exact h.elim
   have h4:=h3.below.below fun k h=>h
   rw [hFd] at hF1
   obtain ⟨⟨u3,u4,u5⟩,u6,u2,u1⟩:=(U8 hGv).up _ _ _ hF1 h4
   have hsz4:=h3.size
   obtain ⟨x8,m8,n8⟩:=h3.slot 8 _ l8 (by omega)
   obtain ⟨rfl,_⟩:=b5.1 n8.1
   obtain ⟨x9,m9,n9⟩:=h3.slot 9 _ l9 (by omega)
   obtain ⟨rfl,_⟩:=b5.1 n9.1
   obtain ⟨x3,m3,n3⟩:=h3.slot 3 _ l3 (by omega)
   obtain ⟨rfl,_⟩:=b5.1 n3.1
   obtain ⟨x4,m4,n4⟩:=h3.slot 4 _ l4 (by omega)
   obtain ⟨rfl,_⟩:=b5.1 n4.1
   obtain ⟨x5,m5,n5⟩:=h3.slot 5 _ l5 (by omega)
   obtain ⟨rfl,_⟩:=b5.1 n5.1
   obtain ⟨x6,m6,n6⟩:=h3.slot 6 _ l6 (by omega)
   obtain ⟨rfl,_⟩:=b5.1 n6.1
   have hVk:∀ k,k<wz.heap.size→V.heap[k]?=w3.heap[k]?:=fun k hk=>(u2 k (by omega) (by omega)).trans (hAk k (by omega))
   have v1:=(hVk (w.heap.size+1) (by omega)).trans q1
   have v2:V.heap[w.heap.size+2]?=some (.cells ([]++[Value.slice none 0 0]++[]).toArray 51 (0,0)):=(hVk (w.heap.size+2) (by omega)).trans q2
   have v3:V.heap[w.heap.size+3]?=some (.cells ([]++[Value.int .i64 0]++[]).toArray 3 (0,0)):=(hVk (w.heap.size+3) (by omega)).trans q3
   have v4:V.heap[w.heap.size+4]?=some (.cells ([]++[Value.bool false]++[]).toArray 4 (0,0)):=(hVk (w.heap.size+4) (by omega)).trans q4
   clear hA' hFd hcall HF HU h3 n8 n9 n3 n4 n5 n6
   show Code.wpIn _ _ _ _ _ _ _
   refine wpIn_seq (wpIn_region_lit (L5 rfl (fun c h=>by cases h) (b3Y rfl (a8H m9)) ?_))
   show Code.wpIn _ _ _ _ _ _ _
   refine wpIn_cond_true (a8H (a1u (by show 22<a4.tmps.size;omega))) ?_
   refine wpIn_seq (wpIn_region_lit ?_)
   refine L5 rfl (fun c h=>by cases h) (a6d (b:=w.heap.size+1) (off:=0) (c := .sc (.slice a1 ls.length c1)) (z:=1) (ds:=_) rfl Tryz.underlying51 (by kernel_rfl) (a8H (r5 m3 (by decide))) (S9 v1 (xs:=[.slice a1 ls.length c1]) (t7.2 ⟨rfl,rfl⟩) (fun i hi=>by rw [i01 hi];rfl)) rfl rfl (fun u hu=>(b5.1 hu).1)) ?_
   refine L5 rfl (fun c h=>by cases h) (b3Y rfl (a8H (r5 (r5 m8 (by decide)) (by decide)))) ?_
   refine I5 rfl rfl (fun c h=>by cases h) (I3 (g:=w.heap.size+2) (q:=0) (vs:=[.slice a1 ls.length c1]) (z:=1) rfl (by kernel_rfl) (a8H (r5 (r5 (r5 m4 (by decide)) (by decide)) (by decide))) v2 rfl (by rw [a8H (r5 (a1u (a:=Act.put _ _ _) (by rw [R8];show 23<a4.tmps.size;omega)) (by decide))];rfl) rfl rfl (by simp [Value.oneCell'])) ?_
   obtain ⟨W1,hW1⟩:∃ W1,W1=V.setRow (w.heap.size+2) ([]++[Value.slice a1 ls.length c1]++[]).toArray:=⟨_,rfl⟩
   rw [←hW1]
   have b2:W1.heap[w.heap.size+2]?=some (.cells #[.slice a1 ls.length c1] 51 (0,0)):=by rw [hW1];exact setRow_heap _ _ _ _ _ _ v2
   have k1:∀ k,k≠w.heap.size+2→W1.heap[k]?=V.heap[k]?:=fun k hk=>by rw [hW1];exact setRow_other _ _ _ _ hk
   refine I5 rfl rfl (fun c h=>by cases h) (I3 (g:=w.heap.size+3) (q:=0) (vs:=[.int .i64 id]) (z:=1) rfl (by kernel_rfl) (a8H (r5 (r5 (r5 m5 (by decide)) (by decide)) (by decide))) ((k1 _ (by omega)).trans v3) rfl (by rw [a8H (a1u (a:=Act.put _ _ _) (by rw [R8,R8];show 24<a4.tmps.size;omega))];rfl) rfl rfl (by simp [Value.oneCell'])) ?_
   obtain ⟨W2,hW2⟩:∃ W2,W2=W1.setRow (w.heap.size+3) ([]++[Value.int .i64 id]++[]).toArray:=⟨_,rfl⟩
   rw [←hW2]
   have b3:W2.heap[w.heap.size+3]?=some (.cells #[.int .i64 id] 3 (0,0)):=by rw [hW2];exact setRow_heap _ _ _ _ _ _ ((k1 _ (by omega)).trans v3)
   have k2:∀ k,k≠w.heap.size+3→W2.heap[k]?=W1.heap[k]?:=fun k hk=>by rw [hW2];exact setRow_other _ _ _ _ hk
   refine I5 rfl rfl (fun c h=>by cases h) (I3 (g:=w.heap.size+4) (q:=0) (vs:=[.bool true]) (z:=1) rfl (by kernel_rfl) (a8H (r5 (r5 (r5 m6 (by decide)) (by decide)) (by decide))) ((k2 _ (by omega)).trans ((k1 _ (by omega)).trans v4)) rfl rfl rfl rfl (by simp [Value.oneCell'])) ?_
   obtain ⟨W3,hW3⟩:∃ W3,W3=W2.setRow (w.heap.size+4) ([]++[Value.bool true]++[]).toArray:=⟨_,rfl⟩
   rw [←hW3]
   have b4:W3.heap[w.heap.size+4]?=some (.cells #[.bool true] 4 (0,0)):=by rw [hW3];exact setRow_heap _ _ _ _ _ _ ((k2 _ (by omega)).trans ((k1 _ (by omega)).trans v4))
   have k3:∀ k,k≠w.heap.size+4→W3.heap[k]?=W2.heap[k]?:=fun k hk=>by rw [hW3];exact setRow_other _ _ _ _ hk
   have kk:∀ k,k≠w.heap.size+2→k≠w.heap.size+3→k≠w.heap.size+4→W3.heap[k]?=V.heap[k]?:=fun k e2 e3 e4=>(k3 k e4).trans ((k2 k e3).trans (k1 k e2))
   show Code.wpIn _ _ _ _ _ _ _
   refine wpIn_ret ⟨rfl,⟨by rw [hW3,hW2,hW1];exact ⟨u3,u4,u5⟩,by rw [hW3,hW2,hW1];simpa using u6,fun k hx hkl=>?_,?_⟩⟩
   ·exact (kk k (fun e=>hx (.inr (.inl e))) (fun e=>hx (.inr (.inr (.inl e)))) (fun e=>hx (.inr (.inr (.inr e))))).trans (u2 k (fun e=>hx (.inl ⟨m,l,sec,p,o',y,d,s,id,by rw [e];exact hh⟩)) hkl)
   ·rw [hGd]
    refine ⟨d,id,hh.all,(k3 _ (by omega)).trans ((k2 _ (by omega)).trans b2),(k3 _ (by omega)).trans b3,b4,u1.keep fun b o v hu hc=>⟨hu,?_⟩⟩
    rw [j7 (kk b (by omega) (by omega) (by omega))]
    exact hc
 case done =>
  intro hb V hV hD
  have hDl:=(Array.getElem?_eq_some_iff.1 hD).1
  obtain ⟨r1,r2⟩:=B1 ((hV.block _ (by omega)).trans q1)
  obtain ⟨_,r4⟩:=B1 ((hV.block _ (by omega)).trans q2)
  obtain ⟨_,r6⟩:=B1 ((hV.block _ (by omega)).trans q3)
  obtain ⟨_,r8⟩:=B1 ((hV.block _ (by omega)).trans q4)
  refine hK9 _ _ ?_
  gi_wp2
  obtain ⟨V4,hV4⟩:∃ V4,V4=((V.setCell ⟨w.heap.size+2,0,none⟩ (.slice a1 c.length c1)).setCell ⟨w.heap.size+3,0,none⟩ (.int .i64 0)).setCell ⟨w.heap.size+4,0,none⟩ (.bool false):=⟨_,rfl⟩
  have k4:∀ k,k≠w.heap.size+2→k≠w.heap.size+3→k≠w.heap.size+4→V4.heap[k]?=V.heap[k]?:=fun k e2 e3 e4=>by
   rw [hV4,Below.heap_setCell _ _ _ _ e4,Below.heap_setCell _ _ _ _ e3,Below.heap_setCell _ _ _ _ e2]
  have b2:V4.heap[w.heap.size+2]?=some (.cells #[.slice a1 c.length c1] 51 (0,0)):=by
   rw [hV4,Below.heap_setCell _ _ _ _ (by show w.heap.size+2≠w.heap.size+4;omega),Below.heap_setCell _ _ _ _ (by show w.heap.size+2≠w.heap.size+3;omega)]
   exact b6E ((hV.block _ (by omega)).trans q2) _
  have b3:V4.heap[w.heap.size+3]?=some (.cells #[.int .i64 0] 3 (0,0)):=by
   rw [hV4,Below.heap_setCell _ _ _ _ (by show w.heap.size+3≠w.heap.size+4;omega)]
   refine b6E (x := .int .i64 0) ?_ _
   rw [Below.heap_setCell _ _ _ _ (by show w.heap.size+3≠w.heap.size+2;omega)]
   exact (hV.block _ (by omega)).trans q3
  have b4:V4.heap[w.heap.size+4]?=some (.cells #[.bool false] 4 (0,0)):=by
   rw [hV4]
   refine b6E (x := .bool false) ?_ _
   rw [Below.heap_setCell _ _ _ _ (by show w.heap.size+4≠w.heap.size+3;omega),Below.heap_setCell _ _ _ _ (by show w.heap.size+4≠w.heap.size+2;omega)]
   exact (hV.block _ (by omega)).trans q4
  have hbV:Below w.heap.size w V4:=by
   rw [hV4]
   exact (((hB3.trans (hV.mono hB3.size)).setCell (p:=⟨w.heap.size+2,0,none⟩) (by show w.heap.size≤w.heap.size+2;omega) _).setCell (p:=⟨w.heap.size+3,0,none⟩) (by show w.heap.size≤w.heap.size+3;omega) _).setCell (p:=⟨w.heap.size+4,0,none⟩) (by show w.heap.size≤w.heap.size+4;omega) _
  have hnone:onc R (ls.map LX.lt)=none:=by
   cases h:onc R (ls.map LX.lt) with
   | none=>rfl
   | some q=>rw [hbb,h] at hb;cases hb
  have hrv:=HRV.out
  rw [←hls,hnone] at hrv
  show RQ Tryz.prog Tryz.f16 _ Exit.ret _ (((V.setCell ⟨w.heap.size+2,0,none⟩ (.slice a1 c.length c1)).setCell ⟨w.heap.size+3,0,none⟩ (.int .i64 0)).setCell ⟨w.heap.size+4,0,none⟩ (.bool false))
  rw [←hV4]
  refine ⟨.inr rfl,w3.heap.size,rfl,(k4 _ (by omega) (by omega) (by omega)).trans hD,.tuple #[.slice a1 c.length c1,.int .i64 0,.bool false],Z4 (g:=w.heap.size+2) rfl rfl rfl rfl ((World.putObj_heap_other (by omega)).trans b2) ((World.putObj_heap_other (by omega)).trans b3) ((World.putObj_heap_other (by omega)).trans b4),_,rfl,?_,?_⟩
  ·rw [hrv]
   refine ⟨[_,_,_],rfl,_,_,rfl,?_,_,_,rfl,b5.2 ⟨rfl,rfl⟩,_,_,rfl,b5.2 ⟨rfl,rfl⟩,rfl⟩
   have:=hown3.vrep
   rw [hlen] at this
   exact this.keep fun b o u hu hcell=>⟨.inr (by omega),by
    have hb3':=World.block_lt_of_cell? w3 _ hcell
    have hb3':b<w3.heap.size:=hb3'
    rw [j7 ((World.putObj_heap_other (by omega)).trans ((k4 b (by omega) (by omega) (by omega)).trans (hV.block b hb3')))]
    exact hcell⟩
  ·exact ⟨hbV.os,hbV.tape,hbV.output,by rw [World.putObj_size];exact hbV.size,fun k hk=>(World.putObj_heap_other (by omega)).trans (hbV.block k hk)⟩
 case stop =>
  rintro hb V ⟨⟨k1,k2,k3⟩,hVs,hV,hGV⟩ hD
  have hGV2:=hG.book _ _ _ (.deferred none) (by omega) hD rfl rfl hGV
  rw [hGd] at hGV2
  obtain ⟨d,id,g1,g2,g3,g4,g5⟩:=hGV2
  have hrv:=HRV.out
  rw [←hls,g1] at hrv
  refine ⟨.inr rfl,w3.heap.size,rfl,hD,.tuple #[.slice a1 ls.length c1,.int .i64 id,.bool true],Z4 (g:=w.heap.size+2) rfl rfl rfl rfl g2 g3 g4,_,rfl,?_,?_⟩
  ·rw [hrv]
   refine ⟨[_,_,_],rfl,_,_,rfl,?_,_,_,rfl,b5.2 ⟨rfl,rfl⟩,_,_,rfl,b5.2 ⟨rfl,rfl⟩,rfl⟩
   exact g5.mono fun b o hu => .inr (by omega)
  ·refine ⟨k1.trans hB3.os,k2.trans hB3.tape,k3.trans hB3.output,by rw [World.putObj_size];have:=hB3.size;omega,fun k hk=>?_⟩
   rw [World.putObj_heap_other (by omega)]
   refine (hV k (fun hx=>?_) (by omega)).trans (hB3.block k hk)
   rcases hx with ⟨m,l,sec,p,o',y,d,s,id,h⟩ | rfl | rfl | rfl
   ·have:=((hown3.xat hg h.at_ sec).2 _ _ _ _ h.adr).2.1
    omega
   ·omega
   ·omega
   ·omega
noncomputable abbrev b7U (p:List Int):CV:=CV.lst (p.map CV.i)
theorem b0V (l:List (List Int)):∀ c∈l.map b7U,c.size=1:=by
 intro c hc
 obtain ⟨p,_,rfl⟩:=List.mem_map.1 hc
 rfl
theorem b6c {l:List (List Int)} {i:Nat} {p:List Int} (h:l[i]?=some p):(l.map b7U)[i]?=some (.lst (p.map CV.i)):=by rw [List.getElem?_map,h];rfl
end Go.Proofs.YtekboofbedakcaaGreat
