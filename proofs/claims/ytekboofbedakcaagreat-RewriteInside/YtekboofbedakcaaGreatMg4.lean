/-
 RwFill RwWalk SbFns SbApply SbVars TmSm SbSmall TmOrd RfSame RfLess RfFlat RfVars AbOf SbVnt SbRen
-/
import Derived.Test.YtekboofbedakcaaGreatMg3
import Derived.Test.YtekboofbedakcaaGreatMg2
import Derived.Maps.OwnRows
namespace Go.Proofs.YtekboofbedakcaaGreat
open Go.RowKit Go.MapKept
set_option linter.unusedVariables false
set_option linter.unusedSimpArgs false
set_option maxRecDepth 100000
theorem X9 (W:World) (t:Tm):AFun Tryz.prog W 106 [t.cw] (.val (.b (decide (t.f<0)))):=by
 refine a8 (rs:=[.b (decide (t.f<0))]) Tryz.func106 Tryz.ntmps106 rfl rfl rfl rfl ?_
 intro w U hW
 refine aS (aR ?_)
 refine nc zb (nc zd ?_)
 refine aS (aR ?_)
 refine nc ze (nc zg (nc zh (nc zd ?_)))
 exact aT ⟨.inr rfl,rfl⟩
theorem a6C (W:World) (t:Tm) (h1 : -9223372036854775808≤t.f) (h2:t.f<0):AFun Tryz.prog W 110 [t.cw] (.val (.i (-1-t.f))):=by
 refine a8 (rs:=[.i (-1-t.f)]) Tryz.func110 Tryz.ntmps110 rfl rfl rfl rfl ?_
 intro w U hW
 refine aS (aR ?_)
 refine nc zb (nc zd ?_)
 refine aS (aR ?_)
 refine nc ze (nc zg (nc zi (nc zd ?_)))
 exact aT ⟨.inr rfl,rfl⟩
theorem a2s {U:Nat→Prop} {t:Tm} {a:Option Addr} {n c:Nat} {w:World} (h:Tat U w t a n c):Calls Tryz.prog 106 #[.agg #[.int .i64 t.f,.slice a n c]] w fun e w'=>e = .returned (.bool (decide (t.f<0)))∧Below w.heap.size w w':=by
 refine ((X9 w t).2.2.2 _ w [_] trivial ⟨_,_,rfl,R0 h,rfl⟩).mono ?_
 rintro e w' ⟨v,rfl,h1,h2⟩
 obtain ⟨rfl,_⟩:=b5.1 h1
 exact ⟨rfl,h2⟩
theorem a6n {U:Nat→Prop} {t:Tm} {a:Option Addr} {n c:Nat} {w:World} (h:Tat U w t a n c) (hf:t.f<0):Calls Tryz.prog 110 #[.agg #[.int .i64 t.f,.slice a n c]] w fun e w'=>e = .returned (.int .i64 (-1-t.f))∧Below w.heap.size w w':=by
 have hr:=h.wf
 refine ((a6C w t (by omega) hf).2.2.2 _ w [_] trivial ⟨_,_,rfl,R0 h,rfl⟩).mono ?_
 rintro e w' ⟨v,rfl,h1,h2⟩
 obtain ⟨rfl,_⟩:=b5.1 h1
 exact ⟨rfl,h2⟩
def J2 (B:Int→Option Tm):Tm→Tm
 | ⟨f,l⟩=>if f<0 then ((B (-1-f)).getD ⟨0,[]⟩).strip else ⟨f,l.map (J2 B)⟩
theorem a3K (B:Int→Option Tm) (t:Tm):J2 B t=if t.f<0 then ((B (-1-t.f)).getD ⟨0,[]⟩).strip else ⟨t.f,t.l.map (J2 B)⟩:=by
 cases t with
 | mk f l=>rw [J2]
def U6 (B:Int→Option Tm):Tm→Prop
 | ⟨f,l⟩=>if f<0 then ∃ s,B (-1-f)=some s∧s.size≤90000000000 else l.length≤90000000000∧∀ x∈l,U6 B x
theorem a2N (B:Int→Option Tm) (t:Tm):U6 B t↔if t.f<0 then ∃ s,B (-1-t.f)=some s∧s.size≤90000000000 else t.l.length≤90000000000∧∀ x∈t.l,U6 B x:=by
 cases t with
 | mk f l=>rw [U6]
def MapT (w:World) (g:Nat) (B:Int→Option Tm):Prop:=∃ es clock,w.heap[g]?=some (.map es clock)∧∀ v t,B v=some t→∃ j a n c,Instr.findNow (.int .i64) (.int .i64 v) es.toList 0=some (some (j,.agg #[.int .i64 t.f,.slice a n c]))∧Tat (fun _=>True) w t a n c
theorem MapT.bw {w w':World} {g:Nat} {B:Int→Option Tm} (h:MapT w g B) (hb:Below w.heap.size w w'):MapT w' g B:=by
 obtain ⟨es,clock,h1,h2⟩:=h
 refine ⟨es,clock,(hb.block g (Array.getElem?_eq_some_iff.1 h1).1).trans h1,fun v t hv=>?_⟩
 obtain ⟨j,a,n,c,h3,h4⟩:=h2 v t hv
 exact ⟨j,a,n,c,h3,h4.bw hb⟩
theorem b3o {w:World} {g:Nat} {B:Int→Option Tm} (h:MapT w g B) {v:Int} {t:Tm} (hv:B v=some t):∃ a n c,(Instr.lookup 108 (.map (some g)) (.int .i64 v) false).run Tryz.prog w = .ok (.agg #[.int .i64 t.f,.slice a n c]) w∧Tat (fun _=>True) w t a n c:=by
 obtain ⟨es,clock,h1,h2⟩:=h
 obtain ⟨j,a,n,c,h3,h4⟩:=h2 v t hv
 have huk:Tryz.prog.underlying 3=some (.int .i64):=by kernel_rfl
 have hu:Tryz.prog.underlying 108=some (.map 3 37):=by kernel_rfl
 have hck:=run_checkKey (P:=Tryz.prog) (w:=w) huk (k := .int .i64 v) rfl es.isEmpty 9999
 have hge:=Go.MapKept.run_getObj_map (P:=Tryz.prog) h1
 have hfk:=run_findKey (P:=Tryz.prog) (w:=w) huk h3
 exact ⟨a,n,c,by simp [Instr.lookup,run_underlying hu,hge,hck,hfk],h4⟩
theorem a5e {P:Program} (w:World) {ops:Array Oper} {rest:List Oper} {o:Oper} {a:Act} {Q:Exit→Act→World→Prop} (hg:o.guard=none) (t:TypeId) (m x:Operand) (hop:o.op=Op.lookup t m x false) (mv xv:Value) (hm:a.eval m=mv) (hx:a.eval x=xv) (r:Value) (hrun:(Instr.lookup t mv xv false).run P w = .ok r w) (hK:wpList P ops Q rest (a.put o.dst r) w):wpList P ops Q (o::rest) a w:=by
 refine wpList_plain hg fun K' hK'=>?_
 unfold Oper.wp
 simp [execOp,hop,hm,hx,hrun,Result.andThen]
 exact hK' _ _ hK
theorem a0a {tmps:Array Value} {w:World} {g:Nat} {x y:Value} (hp:tmps.getD 4 undef = .pointer (some ⟨g,0,none⟩)) (hg:w.heap[g]?=some (.cells #[x,y] 37 (0,0))) :
  (results Tryz.f82 tmps).run Tryz.prog w = .ok (.agg #[x,y]) w:=by
 have hp':tmps[4]?.getD undef = .pointer (some ⟨g,0,none⟩):=by simpa using hp
 simp [results,hp',asAddr,run_loadVar_row w g _ 37 #[x,y] (0,0) _ hg Tryz.underlying37 rfl G9]
def b6F (w:World) (t:Tm) (e:Ending) (w':World):Prop:=∃ x a n c,x.tm=t∧x.f=t.f∧x.h = .slice a n c∧e = .returned (.agg #[.int .i64 t.f,.slice a n c])∧XR (fun b _=>w.heap.size≤b) w' x∧x.bl.Nodup∧(∀ b∈x.bl,Fz w' b)∧Below w.heap.size w w'
set_option maxRecDepth 100000 in
set_option maxHeartbeats 1600000 in
theorem a6y {B:Int→Option Tm} {g:Nat}:∀ (t:Tm) (U:Nat→Prop) (a:Option Addr) (n c:Nat) (w:World),Tat U w t a n c→MapT w g B→U6 B t→Calls Tryz.prog 82 #[.agg #[.int .i64 t.f,.slice a n c],.map (some g)] w (b6F w (J2 B t)):=by
 intro t
 induction t using Tm.ind with
 | h f l ih =>
  intro U a n c w ht hM hF
  have HT:Hid (∀ w1,Below w.heap.size w w1→Tat U w1 ⟨f,l⟩ a n c):=fun w1 hb=>ht.bw hb
  have HM:Hid (∀ w1,Below w.heap.size w w1→MapT w1 g B):=fun w1 hb=>hM.bw hb
  have hFi:=(a2N B ⟨f,l⟩).1 hF
  obtain ⟨w0,hw0⟩:∃ w0,w0=(w.alloc (.cells #[.int .i64 f,.slice a n c] 37)).alloc (.cells #[.int .i64 0,.slice none 0 0] 37):=⟨_,rfl⟩
  have HX:Hid (∀ w1,Below w0.heap.size w0 w1→w1.heap[w.heap.size+1]?=some (.cells #[.int .i64 0,.slice none 0 0] 37 (0,0))):=fun w1 hb=>by
   have h1:=World.alloc_heap_new (w.alloc (.cells #[.int .i64 f,.slice a n c] 37)) (.cells #[.int .i64 0,.slice none 0 0] 37)
   rw [World.size_alloc,←hw0] at h1
   exact (hb.block _ (Array.getElem?_eq_some_iff.1 h1).1).trans h1
  have HB:Hid (∀ w1,Below w0.heap.size w0 w1→((w1.cell? ⟨w.heap.size,0,none⟩=some (.int .i64 f)∧w1.cell? ⟨w.heap.size,1,none⟩=some (.slice a n c))∧(w1.cell? ⟨w.heap.size+1,0,none⟩=some (.int .i64 0)∧w1.cell? ⟨w.heap.size+1,1,none⟩=some (.slice none 0 0)))∧(w1.frozen? ⟨w.heap.size+1,0,none⟩=false∧w1.frozen? ⟨w.heap.size+1,1,none⟩=false)):=fun w1 hb=>by
   refine ⟨?_,I4 (HX.out w1 hb)⟩
   rw [hw0] at hb;exact b6f hb
  have HW:=K3 hw0
  have HB0:Hid (Below w.heap.size w w0):=by rw [hw0];exact bA (bA (bW _) _) _
  have hw02:Hid (w0.heap.size=w.heap.size+2):=by show _=_;rw [hw0];simp
  clear hw0 hM hF
  have hq:Below w0.heap.size w0 w0:=bW _
  obtain ⟨⟨⟨c1,c2⟩,c3,c4⟩,c5,c6⟩:=HB.out w0 hq
  by_cases hf:f<0
  ·rw [if_pos (show (Tm.mk f l).f<0 from hf)] at hFi
   obtain ⟨s,hs,hsz⟩:=hFi
   have HV:Hid (∀ w1,Below w0.heap.size w0 w1→Calls Tryz.prog 106 #[.agg #[.int .i64 f,.slice a n c]] w1 fun e w'=>e = .returned (.bool true)∧Below w1.heap.size w1 w'):=fun w1 hb=>(a2s (HT.out w1 (bN HB0.out hb))).mono fun e w' ⟨h1,h2⟩=>⟨by rw [h1];simp [hf],h2⟩
   have HN:Hid (∀ w1,Below w0.heap.size w0 w1→Calls Tryz.prog 110 #[.agg #[.int .i64 f,.slice a n c]] w1 fun e w'=>e = .returned (.int .i64 (-1-f))∧Below w1.heap.size w1 w'):=fun w1 hb=>a6n (HT.out w1 (bN HB0.out hb)) hf
   have HLk:Hid (∀ w1,Below w0.heap.size w0 w1→∃ a n c,(Instr.lookup 108 (.map (some g)) (.int .i64 (-1-f)) false).run Tryz.prog w1 = .ok (.agg #[.int .i64 s.f,.slice a n c]) w1∧Tat (fun _=>True) w1 s a n c):=fun w1 hb=>b3o (HM.out w1 (bN HB0.out hb)) hs
   have HC:Hid (∀ w1 a n c,Tat (fun _=>True) w1 s a n c→Calls Tryz.prog 25 #[.agg #[.int .i64 s.f,.slice a n c]] w1 (a2d w1 s)):=fun w1 a n c h=>P6 s a n c w1 h hsz
   clear ih ht
   go_enter Tryz.func82,Tryz.ntmps82
   go_wp2_with fail
   rw [←HW.out]
   go_wp2_with (first
    | (go_at_call 106;refine (HV.out _ hq).mono ?_;rintro e w1 ⟨rfl,hb1⟩;obtain ⟨⟨⟨c1,c2⟩,c3,c4⟩,c5,c6⟩:=HB.out w1 hb1;dsimp only)
    | (go_at_call 110;refine (HN.out _ hb1).mono ?_;rintro e w2 ⟨rfl,hb2⟩;have hb2':=bN hb1 hb2;obtain ⟨a4,n4,c4',hrun,hta⟩:=HLk.out w2 hb2';dsimp only)
    | (at_lookup;refine a5e _ rfl _ _ _ rfl _ _ rfl rfl _ hrun ?_)
    | (go_at_call 25;refine (HC.out _ _ _ _ hta).mono ?_;rintro e w3 ⟨x1,a1,n1,c1',hxt,hxf,hxh,rfl,hxr,hxn,hxz,hb3⟩;have hb3':=bN hb2' hb3;obtain ⟨⟨_,d3,d4⟩,d5,d6⟩:=HB.out w3 hb3';dsimp only))
   refine bodyPost_ret (a0a (g:=w.heap.size+1) rfl (E1 (HX.out _ hb3') _ _)) rfl ?_
   have e:J2 B ⟨f,l⟩=s.strip:=by rw [a3K,if_pos hf];simp [hs]
   have hle:=hb2'.size
   have hw0:=hw02.out
   refine ⟨x1,a1,n1,c1',by rw [e];exact hxt,by rw [e,Tm.strip_f];exact hxf,hxh,by rw [e,Tm.strip_f],?_,hxn,fun b hb=>(hxz b hb).same ?_,?_⟩
   ·refine hxr.keep fun b o u hu hc=>⟨by omega,?_⟩
    rw [j7 (by rw [Below.heap_setCell _ _ _ _ (by show b≠w.heap.size+1;omega),Below.heap_setCell _ _ _ _ (by show b≠w.heap.size+1;omega)]:_=(w3.heap[b]?:Option Obj))]
    exact hc
   ·obtain ⟨_,_,h1⟩:=hxr.lt b hb
    rw [Below.heap_setCell _ _ _ _ (by show b≠w.heap.size+1;omega),Below.heap_setCell _ _ _ _ (by show b≠w.heap.size+1;omega)]
   ·exact ((bN HB0.out hb3').setCell (p:=⟨w.heap.size+1,0,none⟩) (by show w.heap.size≤w.heap.size+1;omega) _).setCell (p:=⟨w.heap.size+1,1,none⟩) (by show w.heap.size≤w.heap.size+1;omega) _
  ·rw [if_neg (show ¬ (Tm.mk f l).f<0 from hf)] at hFi
   obtain ⟨hln,hFi⟩:=hFi
   have HV:Hid (∀ w1,Below w0.heap.size w0 w1→Calls Tryz.prog 106 #[.agg #[.int .i64 f,.slice a n c]] w1 fun e w'=>e = .returned (.bool false)∧Below w1.heap.size w1 w'):=fun w1 hb=>(a2s (HT.out w1 (bN HB0.out hb))).mono fun e w' ⟨h1,h2⟩=>⟨by rw [h1];simp [hf],h2⟩
   have HA:Hid (∀ w',Below w0.heap.size w0 w'→Las U w' l a n c):=fun w' hb=>(L9.1 (HT.out w' (bN HB0.out hb))).2
   have HL:=K3 (L9.1 ht).2.len
   have hnb:n≤90000000000:=by have h1:=HL.out;have h2:l.length≤90000000000:=hln;omega
   have HC:Hid (∀ s∈l,∀ (a:Option Addr) (n c:Nat) (w':World),Below w0.heap.size w0 w'→Tat U w' s a n c→Calls Tryz.prog 82 #[.agg #[.int .i64 s.f,.slice a n c],.map (some g)] w' (b6F w' (J2 B s))):=fun s hs a n c w' hb h=>ih s hs U a n c w' h (HM.out w' (bN HB0.out hb)) (hFi s hs)
   clear ih ht hFi
   go_enter Tryz.func82,Tryz.ntmps82
   go_wp2_with fail
   rw [←HW.out]
   go_wp2_with (first
    | (go_at_call 106;refine (HV.out _ hq).mono ?_;rintro e w1 ⟨rfl,hb1⟩;obtain ⟨⟨⟨c1,c2⟩,c3,c4⟩,c5,c6⟩:=HB.out w1 hb1;dsimp only))
   go_loopw [5,18] (fun vv i wr=>∃ (k:Nat) (av:Option Addr) (cv:Nat) (xs:List XT),vv = .slice av k cv∧i = .int .i64 (k:Int)∧k≤n∧xs.map XT.tm=(l.take k).map (J2 B)∧OwnX 37 wr w0.heap.size (.slice av k cv) xs∧Below w0.heap.size w0 wr) (fun _ i _=>n-(intOf i).toNat)
   case atStart=>exact ⟨0,_,_,[],rfl,rfl,by omega,rfl,OwnX.nil _ _ _,hb1⟩
   case round =>
    obtain ⟨k,av,cv,xs,rfl,rfl,hk,hxs,ho,hbr⟩:=hrel
    by_cases hlt:k<n
    ·obtain ⟨b,off,s,a',n',c',rfl,hU,hlt',hs,hT,e1,e2⟩:=(HA.out wr hbr).at hlt
     have HS:=K3 hs
     clear hs
     have hb1:Below wr.heap.size wr (wr.alloc (.cells #[.int .i64 s.f,.slice a' n' c'] 37)):=bA (bW _) _
     have HCall:=K3 (HC.out s (List.mem_of_getElem? HS.out) a' n' c' _ (bN hbr hb1) (hT.bw hb1))
     have HApp:Hid (∀ w1 x a1 n1 c1,Below wr.heap.size wr w1→x.tm=J2 B s→x.f=(J2 B s).f→x.h = .slice a1 n1 c1→XR (fun b _=>wr.heap.size+1≤b) w1 x→x.bl.Nodup→(∀ b∈x.bl,Fz w1 b)→∃ a' c' w',Sem.run Tryz.prog (Builtin.append_ #[35,35] 35 #[.slice av k cv,.slice (some ⟨w1.heap.size,0,none⟩) 1 1]) (w1.alloc (.cells #[.int .i64 (J2 B s).f,.slice a1 n1 c1] 37)) = .ok (.slice a' (k+1) c') w'∧(∃ xs,xs.map XT.tm=(l.take (k+1)).map (J2 B)∧OwnX 37 w' w0.heap.size (.slice a' (k+1) c') xs)∧Below w0.heap.size w0 w'):=by
      intro w1 x a1 n1 c1 hw1 hxt hxf hxh hxr hxn hxz
      have ho1:=ho.bw hw1
      have hkl:xs.length=k:=by have:=congrArg List.length hxs;simp only [List.length_map,List.length_take] at this;have:=HL.out;omega
      have hsz:=hbr.size
      have hall:=a9k ho.2.1
      obtain ⟨a',c',w',hr,h1,h2⟩:=b6K (P:=Tryz.prog) (B:=w0.heap.size) (Nat.le_trans hbr.size hw1.size) 35 37 _ 32 Tryz.underlying35 a0J rfl (by decide) ho1 (x:=x) (hxr.keep fun b o u hu hc=>⟨by omega,hc⟩) hxn hxz (fun b hb hb2=>by
       obtain ⟨_,o,q⟩:=hxr.lt b hb
       have:=(hall b hb2).2
       omega) (fun b hb e=>by
       obtain ⟨_,o,q⟩:=hxr.lt b hb
       have:=(ho.lt e).2
       omega) (by have:=HL.out;omega)
      rw [hkl] at hr h1
      refine ⟨a',c',w',?_,⟨xs++[x],?_,h1⟩,(hbr.trans (hw1.mono hbr.size)).trans h2⟩
      ·rw [←hr]
       unfold XT.cs
       rw [hxf,hxh]
      ·rw [List.take_add_one,HS.out,List.map_append,List.map_append,hxs]
       simp [hxt]
     clear ho hT
     go_wp2_with (first
      | (go_at_call 82;refine HCall.out.mono ?_;rintro e w1 ⟨x1,a1,n1,c1,hxt,hxf,hxh,rfl,hxr,hxn,hxz,hb1'⟩;rw [World.size_alloc] at hxr;obtain ⟨a2,c2,w2,hr2,ho2,hb2⟩:=HApp.out w1 x1 a1 n1 c1 (bN hb1 hb1') hxt hxf hxh hxr hxn hxz;clear hxt hxf hxh hxr hxn hxz)
      | (at_builtin;refine G0 _ rfl _ _ _ rfl _ _ rfl rfl _ _ hr2 ?_))
     go_wp2
     go_roundw
     case rel =>
      obtain ⟨xs2,hxs2,ho2⟩:=ho2
      exact ⟨k+1,_,_,xs2,rfl,by go_num,by omega,hxs2,ho2,hb2⟩
     case measure=>simp [intOf];omega
    ·have HE:Hid (l.take k=l):=List.take_of_length_le (by have:=HL.out;omega)
     rw [HE.out] at hxs
     have HK:Hid (k=xs.length):=by show _=_;have:=HL.out;have h2:=congrArg List.length hxs;simp only [List.length_map] at h2;omega
     obtain ⟨⟨⟨c1,c2⟩,c3,c4⟩,c5,c6⟩:=HB.out wr hbr
     go_wp2
     rw [HK.out] at ho ⊢
     refine bodyPost_ret (a0a (g:=w.heap.size+1) rfl (E1 (HX.out _ hbr) _ _)) rfl ?_
     obtain ⟨_,hxr,hxn,hxz⟩:=ho.xk f
     have hw0:=hw02.out
     have e:J2 B ⟨f,l⟩=⟨f,l.map (J2 B)⟩:=by rw [a3K,if_neg (show ¬ f<0 by omega)]
     refine ⟨⟨f,av,cv,xs⟩,av,_,cv,by rw [e,XT.tm_eq,←hxs],by rw [e],rfl,by rw [e],?_,hxn,fun b hb=>(hxz b hb).same ?_,?_⟩
     ·refine hxr.keep fun b o u hu hc=>⟨by omega,?_⟩
      rw [j7 (by rw [Below.heap_setCell _ _ _ _ (by show b≠w.heap.size+1;omega),Below.heap_setCell _ _ _ _ (by show b≠w.heap.size+1;omega)]:_=(wr.heap[b]?:Option Obj))]
      exact hc
     ·obtain ⟨_,_,h1⟩:=hxr.lt b hb
      rw [Below.heap_setCell _ _ _ _ (by show b≠w.heap.size+1;omega),Below.heap_setCell _ _ _ _ (by show b≠w.heap.size+1;omega)]
     ·exact ((bN HB0.out hbr).setCell (p:=⟨w.heap.size+1,0,none⟩) (by show w.heap.size≤w.heap.size+1;omega) _).setCell (p:=⟨w.heap.size+1,1,none⟩) (by show w.heap.size≤w.heap.size+1;omega) _
end Go.Proofs.YtekboofbedakcaaGreat
namespace Go.Proofs.YtekboofbedakcaaGreat
open Go.RowKit
set_option linter.unusedVariables false
set_option linter.unusedSimpArgs false
set_option maxRecDepth 100000
def a3b:Nat→List (Option (List Nat))→Option (List Nat)
 | _,[]=>none
 | n,some p::_=>some (n::p)
 | n,none::l=>a3b (n+1) l
def o6 (hit:Tm→Bool):Tm→Option (List Nat)
 | ⟨f,l⟩=>if f<0 then none else if hit ⟨f,l⟩=true then some [] else a3b 0 (l.map (o6 hit))
theorem D8 (hit:Tm→Bool) (t:Tm):o6 hit t=if t.f<0 then none else if hit t=true then some [] else a3b 0 (t.l.map (o6 hit)):=by
 cases t with
 | mk f l=>rw [o6]
theorem M7:∀ {n:Nat} {l:List (Option (List Nat))},a3b n l=none↔∀ o∈l,o=none
 | n,[]=>by simp [a3b]
 | n,some p::l=>by simp [a3b]
 | n,none::l=>by rw [a3b,M7];simp
theorem b0j:∀ {n k:Nat} {l:List (Option (List Nat))} {p:List Nat},(∀ j,j<k→l[j]?=some none)→l[k]?=some (some p)→a3b n l=some ((n+k)::p)
 | n,0,o::l,p,_,h=>by
  simp only [List.getElem?_cons_zero,Option.some.injEq] at h
  subst h
  rfl
 | n,k+1,o::l,p,h1,h=>by
  have:=h1 0 (by omega)
  simp only [List.getElem?_cons_zero,Option.some.injEq] at this
  subst this
  rw [a3b,b0j (n:=n+1) (k:=k) (fun j hj=>by have:=h1 (j+1) (by omega);simpa using this) (by simpa using h)]
  congr 2;omega
 | n,k,[],p,_,h=>by simp at h
def XT.adr:XT→Nat→Nat→List Nat→Option (Nat×Nat×XT)
 | x,b,o,[]=>some (b,o,x)
 | x,b,o,i::p=>match x.l[i]?,x.a with
  | some y,some ad=>XT.adr y ad.block (ad.off+2*i) p
  | _,_=>none
theorem XT.adr_cons {x y:XT} {b o i g off:Nat} {p:List Nat} (hy:x.l[i]?=some y) (ha:x.a=some ⟨g,off,none⟩):x.adr b o (i::p)=y.adr g (off+2*i) p:=by
 rw [XT.adr,hy,ha]
def WQ (P:Program) (hit:Tm→Bool) (F:World→World→Prop) (l:Nat) (x:XT) (b off:Nat) (U:Nat→Nat→Prop) (w:World):Prop:=
 XAt U w b off x∧(∀ p b' o' y,x.adr b off p=some (b',o',y)→0≤y.f→hit y.tm=false→YT P w l [v8 b' o'])∧∀ p b' o' y,o6 hit x.tm=some p→x.adr b off p=some (b',o',y)→YF P w l [v8 b' o'] F
theorem b2d (P:Program) (hit:Tm→Bool) (F:World→World→Prop) (l:Nat) (x:XT) (b off:Nat):QUp (WQ P hit F l x b off):=by
 rintro U V w w' ⟨h1,h2,h3⟩ hb hU
 refine ⟨h1.keep fun b o v hu hc=>?_,fun p b' o' y k1 k2 k3=>(h2 p b' o' y k1 k2 k3).up hb,fun p b' o' y k1 k2=>(h3 p b' o' y k1 k2).up hb⟩
 have hlt:=World.block_lt_of_cell? w _ hc
 exact ⟨hU b o hlt hu,by rw [j7 (hb.block b hlt)];exact hc⟩
theorem WQ.child {P:Program} {hit:Tm→Bool} {F:World→World→Prop} {l:Nat} {x y:XT} {b off:Nat} {U:Nat→Nat→Prop} {w:World} (h:WQ P hit F l x b off U w) {i:Nat} (hy:x.l[i]?=some y) (hf:¬ x.f<0) (hh:hit x.tm=false) (hi:∀ j,j<i→∀ z,x.l[j]?=some z→o6 hit z.tm=none):∃ g o1,x.a=some ⟨g,o1,none⟩∧WQ P hit F l y g (o1+2*i) U w:=by
 obtain ⟨h1,h2,h3⟩:=h
 obtain ⟨g,o1,ha,h4⟩:=h1.child hy
 refine ⟨g,o1,ha,h4,fun p b' o' z k1 k2 k3=>h2 (i::p) b' o' z (by rw [XT.adr_cons hy ha];exact k1) k2 k3,fun p b' o' z k1 k2=>h3 (i::p) b' o' z ?_ (by rw [XT.adr_cons hy ha];exact k2)⟩
 rw [D8,XT.tm_f,if_neg hf,hh,XT.tm_l,List.map_map]
 simp only [Bool.false_eq_true,if_false]
 rw [b0j (n:=0) (k:=i) (p:=p) (fun j hj=>?_) (by rw [List.getElem?_map,hy];simp [k1])]
 ·simp
 ·rw [List.getElem?_map]
  have hjl:j<x.l.length:=by
   rcases Nat.lt_or_ge i x.l.length with h | h
   ·omega
   ·rw [List.getElem?_eq_none h] at hy;cases hy
  rw [List.getElem?_eq_getElem hjl]
  simp [hi j hj _ (List.getElem?_eq_getElem hjl)]
theorem b0C {hit:Tm→Bool} {x:XT} (hf:¬ x.f<0) (h:o6 hit x.tm=none):hit x.tm=false∧∀ y∈x.l,o6 hit y.tm=none:=by
 rw [D8,XT.tm_f,if_neg hf] at h
 cases hh:hit x.tm with
 | true=>rw [hh] at h;simp at h
 | false =>
  refine ⟨rfl,fun y hy=>?_⟩
  rw [hh,XT.tm_l,List.map_map] at h
  simp only [Bool.false_eq_true,if_false] at h
  exact M7.1 h _ (List.mem_map.2 ⟨y,hy,rfl⟩)
set_option maxHeartbeats 1000000 in
theorem a9r (hit:Tm→Bool) (F:World→World→Prop) (l:Nat):∀ (x:XT) (b off:Nat),o6 hit x.tm=none→Y7 Tryz.prog (WQ Tryz.prog hit F l x b off) 79 [v8 b off,L8 l] (.val (.b true)):=by
 intro x
 induction x using XT.ind with
 | h f a c xl ih =>
 intro b off hn
 refine N8 (rs:=[.b true]) Tryz.func79 Tryz.ntmps79 rfl rfl rfl rfl ?_
 intro w U hW hq0
 obtain ⟨h1,h2,h3⟩:=id hq0
 have hlen:xl.length≤9223372036854775807:=by
  have:=(L4.1 h1.1).1
  have k1:xl.length≤c:=this.1
  have k2:c≤maxLen:=this.2.1
  unfold maxLen at k2
  omega
 refine aS (aR ?_)
 refine nc zd ?_
 refine aS (aS (aR ?_))
 refine nc zj (nc zk (nc (zl hW (h1.ld)) (nc (zn (z:=X9 w _)) ?_)))
 refine aC rfl (fun hc=>?_) (fun hc=>?_)
 ·refine aS (aR ?_)
  refine nc zd ?_
  exact aT ⟨.inr rfl,rfl⟩
 have hf:¬ f<0:=by rw [XT.tm_f] at hc;simpa using hc
 obtain ⟨hh,hkids⟩:=b0C (x:=⟨f,a,c,xl⟩) hf hn
 refine aK ?_
 have hY:=h2 [] b off _ rfl (by show 0≤f;omega) hh
 refine aS (aS (K5 ?_))
 (refine J3 (AOp.y (aM (gN rfl) rfl rfl rfl rfl rfl)) rfl ?_)
 (refine J3 (AOp.y (aM (gN rfl) rfl rfl rfl rfl rfl)) rfl ?_)
 (refine J3 (J8 hW (hY) (gN rfl) rfl rfl rfl rfl rfl rfl) rfl ?_)
 (refine J3 (AOp.y (Q5 (gN rfl) rfl rfl rfl rfl rfl)) rfl ?_)
 refine aC rfl (fun hc=>by cases hc) (fun _=>aK ?_)
 refine AWp.wk (a7 (s':=[(0,.val (v8 b off)),(1,.val (L8 l))]) ⟨rfl,rfl,trivial⟩) ?_
 refine aS (aS (aR ?_))
 refine nc zj (nc zk (nc zo (nc (zl hW (h1.ldl)) (nc zp (nc zj ?_)))))
 have hml:((XT.mk f a c xl).tm.l.map Tm.cv).length=xl.length:=by rw [List.length_map,XT.tm_l,List.length_map]
 refine aB (b9 xl.length (fun k=>[(0,.val (v8 b off)),(1,.val (L8 l)),(18,.val (.i xl.length)),(19,.val (.i k))]) (a7 ⟨rfl,rfl,?_,rfl,trivial⟩) ?_)
 ·rw [←hml];rfl
 intro k hk
 refine aS (aR ?_)
 refine nc zh ?_
 refine aS (aC rfl (fun hlt=>?_) (fun hlt=>aE ?_))
 ·have hkl:k<xl.length:=by simpa using hlt
  obtain ⟨y,hy⟩:∃ y,xl[k]?=some y:=⟨xl[k],List.getElem?_eq_getElem hkl⟩
  obtain ⟨g,o1,ha,hq⟩:=hq0.child (x:=⟨f,a,c,xl⟩) hy hf hh (fun j hj z hz=>hkids z (List.mem_of_getElem? hz))
  have hQ:=b2d Tryz.prog hit F l y g (o1+2*k)
  have hcall:=ih y (List.mem_of_getElem? hy) g (o1+2*k) (hkids y (List.mem_of_getElem? hy))
  rw [Nat.mul_comm 2 k] at hq hQ hcall
  refine aK ?_
  refine aS (aB (aS (aR ?_)))
  refine nc zj (nc zd ?_)
  refine aS (aR ?_)
  refine nc zj (nc zk (nc zo (nc (zl hW (h1.ldh)) (nc zj (nc (zq (k) (G:=ha)) (nc zj (nc (zr hQ hW hq (A:=hcall)) (nc zt ?_))))))))
  refine aC rfl (fun hc=>by cases hc) (fun _=>aK ?_)
  refine aR ?_
  refine nc zu (nc zj ?_)
  exact ⟨hkl,a7 ⟨rfl,rfl,rfl,rfl,trivial⟩⟩
 ·show AWp _ _ _ _ _ _ _
  refine aS (aR ?_)
  refine nc zd ?_
  exact aT ⟨.inr rfl,rfl⟩
set_option maxHeartbeats 1000000 in
theorem b5Z (hit:Tm→Bool) {X:Nat→Prop} (F:World→World→Prop) (hFU:a8m X F) (l:Nat):∀ (x:XT) (b off:Nat),o6 hit x.tm≠none→a6g Tryz.prog (WQ Tryz.prog hit F l x b off) 79 [v8 b off,L8 l] (.val (.b false)) F:=by
 intro x
 induction x using XT.ind with
 | h f a c xl ih =>
 intro b off hn
 refine a3E (rs:=[.b false]) Tryz.func79 Tryz.ntmps79 rfl rfl rfl rfl hFU (fun c hc=>⟨.bool false,by simpa using hc⟩) ?_
 intro w U hW hq0
 obtain ⟨h1,h2,h3⟩:=id hq0
 have hlen:xl.length≤9223372036854775807:=by
  have:=(L4.1 h1.1).1
  have k1:xl.length≤c:=this.1
  have k2:c≤maxLen:=this.2.1
  unfold maxLen at k2
  omega
 have hf:¬ f<0:=fun hf=>hn (by rw [D8,XT.tm_f,if_pos hf])
 have hdf:decide ((XT.mk f a c xl).tm.f<0)=false:=by rw [XT.tm_f];simpa using hf
 have hiv:AFun Tryz.prog w 106 [(XT.mk f a c xl).tm.cw] (.val (.b false)):=by
  have:=X9 w (XT.mk f a c xl).tm
  rw [hdf] at this
  exact this
 refine i9 (q9 (aR ?_))
 refine nc zd ?_
 show AWpZ _ _ _ _ _ _ _ _ _
 refine i9 (q9 (aS (aR ?_)))
 refine nc zj (nc zk (nc (zl hW (h1.ld)) (nc (zn (z:=hiv)) ?_)))
 refine aC rfl (fun hc=>by cases hc) (fun hc=>aK ?_)
 show AWpZ _ _ _ _ _ _ _ _ _
 refine AWpZ.wk (a7 (s':=[(0,.val (v8 b off)),(1,.val (L8 l))]) ⟨rfl,rfl,trivial⟩) ?_
 by_cases hh:hit (XT.mk f a c xl).tm=true
 ·have hY:=h3 [] b off _ (by rw [D8,XT.tm_f,if_neg hf,if_pos hh]) rfl
  refine i9 (i9 (A0 (r := .val (.b false)) 2 [] rfl rfl rfl rfl rfl ?_ (fun w1 hw1=>?_)))
  ·skip
   (refine J3 (AOp.y (aM (gN rfl) rfl rfl rfl rfl rfl)) rfl ?_)
   (refine J3 (AOp.y (aM (gN rfl) rfl rfl rfl rfl rfl)) rfl ?_)
   exact ⟨trivial,O8 hW hFU hY (gN rfl) rfl rfl rfl⟩
  ·skip
   (refine J3 (AOp.y (Q5 (gN rfl) rfl rfl rfl rfl rfl)) rfl ?_)
   intro w1 hw1
   refine aC rfl (fun _=>?_) (fun hc=>by cases hc)
   refine aS (aR ?_)
   refine nc zd ?_
   exact aT ⟨.inr rfl,rfl⟩
 have hh:hit (XT.mk f a c xl).tm=false:=by simpa using hh
 have hY:=h2 [] b off _ rfl (by show 0≤f;omega) hh
 refine i9 (q9 (aS (K5 ?_)))
 (refine J3 (AOp.y (aM (gN rfl) rfl rfl rfl rfl rfl)) rfl ?_)
 (refine J3 (AOp.y (aM (gN rfl) rfl rfl rfl rfl rfl)) rfl ?_)
 (refine J3 (J8 hW (hY) (gN rfl) rfl rfl rfl rfl rfl rfl) rfl ?_)
 (refine J3 (AOp.y (Q5 (gN rfl) rfl rfl rfl rfl rfl)) rfl ?_)
 refine aC rfl (fun hc=>by cases hc) (fun _=>aK ?_)
 show AWpZ _ _ _ _ _ _ _ _ _
 refine AWpZ.wk (a7 (s':=[(0,.val (v8 b off)),(1,.val (L8 l))]) ⟨rfl,rfl,trivial⟩) ?_
 have hml:((XT.mk f a c xl).tm.l.map Tm.cv).length=xl.length:=by rw [List.length_map,XT.tm_l,List.length_map]
 refine i9 (i9 (q9 (aR ?_)))
 refine nc zj (nc zk (nc zo (nc (zl hW (h1.ldl)) (nc zp (nc zj ?_)))))
 show AWpZ _ _ _ _ _ _ _ _ _
 refine D0 (R5 xl.length (fun k=>∀ j,j<k→∀ z,xl[j]?=some z→o6 hit z.tm=none) (fun k=>[(0,.val (v8 b off)),(1,.val (L8 l)),(18,.val (.i xl.length)),(19,.val (.i k))]) (a7 ⟨rfl,rfl,?_,rfl,trivial⟩) (fun j hj=>by omega) ?_)
 ·rw [←hml];rfl
 intro k hk hI
 refine i9 (q9 (aR ?_))
 refine nc zh ?_
 show AWpZ _ _ _ _ _ _ _ _ _
 refine i9 (q9 (aC rfl (fun hlt=>?_) (fun hlt=>aE ?_)))
 ·have hkl:k<xl.length:=by simpa using hlt
  obtain ⟨y,hy⟩:∃ y,xl[k]?=some y:=⟨xl[k],List.getElem?_eq_getElem hkl⟩
  obtain ⟨g,o1,ha,hq⟩:=hq0.child (x:=⟨f,a,c,xl⟩) hy hf hh hI
  have hQ:=b2d Tryz.prog hit F l y g (o1+2*k)
  refine aK ?_
  show AWpZ _ _ _ _ _ _ _ _ _
  by_cases hy1:o6 hit y.tm=none
  ·have hcall:=a9r hit F l y g (o1+2*k) hy1
   rw [Nat.mul_comm 2 k] at hq hQ hcall
   refine q9 ?_
   refine aS (aB (aS (aR ?_)))
   refine nc zj (nc zd ?_)
   refine aS (aR ?_)
   refine nc zj (nc zk (nc zo (nc (zl hW (h1.ldh)) (nc zj (nc (zq (k) (G:=ha)) (nc zj (nc (zr hQ hW hq (A:=hcall)) (nc zt ?_))))))))
   refine aC rfl (fun hc=>by cases hc) (fun _=>aK ?_)
   refine aR ?_
   refine nc zu (nc zj ?_)
   refine ⟨hkl,fun j hj z hz=>?_,a7 ⟨rfl,rfl,rfl,rfl,trivial⟩⟩
   by_cases hjk:j=k
   ·subst hjk
    rw [hy] at hz
    cases hz
    exact hy1
   ·exact hI j (by omega) z hz
  ·have hcall:=ih y (List.mem_of_getElem? hy) g (o1+2*k) hy1
   rw [Nat.mul_comm 2 k] at hq hQ hcall
   refine i9 (D0 (i9 (q9 (aR ?_))))
   refine nc zj (nc zd ?_)
   show AWpZ _ _ _ _ _ _ _ _ _
   refine i9 (A0 (r := .val (.b false)) 7 [] rfl rfl rfl rfl rfl ?_ (fun w1 hw1=>?_))
   ·skip
    (refine J3 (AOp.y (aM (gN rfl) rfl rfl rfl rfl rfl)) rfl ?_)
    (refine J3 (AOp.y (b4s (gN rfl) rfl rfl rfl rfl rfl)) rfl ?_)
    (refine J3 (AOp.y (E6 (gN rfl) rfl rfl rfl rfl rfl rfl rfl rfl rfl)) rfl ?_)
    (refine J3 (AOp.y (b0c hW (h1.ldh) (gN rfl) rfl rfl rfl rfl rfl rfl rfl rfl rfl)) rfl ?_)
    (refine J3 (AOp.y (aM (gN rfl) rfl rfl rfl rfl rfl)) rfl ?_)
    (refine J3 (AOp.y (E7 (k) (gN rfl) rfl rfl rfl rfl rfl rfl rfl rfl (ha) (by first | rfl | omega | (simp only [List.length_set,List.length_map,List.length_append,List.length_cons,List.length_nil]<;>omega) | (simp<;>omega)) (by first | rfl | omega | (simp only [List.length_set,List.length_map,List.length_append,List.length_cons,List.length_nil]<;>omega) | (simp<;>omega)))) rfl ?_)
    (refine J3 (AOp.y (aM (gN rfl) rfl rfl rfl rfl rfl)) rfl ?_)
    exact ⟨trivial,a1k hFU hQ hW hq hcall (gN rfl) rfl rfl⟩
   ·skip
    (refine J3 (AOp.y (Q5 (gN rfl) rfl rfl rfl rfl rfl)) rfl ?_)
    intro w1 hw1
    refine aC rfl (fun _=>?_) (fun hc=>by cases hc)
    refine aS (aR ?_)
    refine nc zd ?_
    exact aT ⟨.inr rfl,rfl⟩
 ·exfalso
  have hkl:k=xl.length:=by
   have:¬ k<xl.length:=by simpa using hlt
   omega
  subst hkl
  refine hn ?_
  rw [D8,XT.tm_f,if_neg hf,hh,XT.tm_l,List.map_map]
  simp only [Bool.false_eq_true,if_false]
  refine M7.2 fun o ho=>?_
  obtain ⟨z,hz,rfl⟩:=List.mem_map.1 ho
  obtain ⟨j,hj⟩:=List.getElem?_of_mem hz
  have hjl:j<xl.length:=by
   rcases Nat.lt_or_ge j xl.length with h | h
   ·exact h
   ·rw [List.getElem?_eq_none h] at hj;cases hj
  exact hI j hjl z hj
theorem a2Q (W:World) (t:Tm):AFun Tryz.prog W 49 [t.cw] (.val (.b (decide (t.f<0)))):=by
 refine a8 (rs:=[.b (decide (t.f<0))]) Tryz.func49 Tryz.ntmps49 rfl rfl rfl rfl ?_
 intro w U hW
 refine aS (aR ?_)
 refine nc zb (nc zd ?_)
 refine aS (aR ?_)
 refine nc ze (nc zg (nc zh (nc zd ?_)))
 exact aT ⟨.inr rfl,rfl⟩
theorem a1K (W:World) (t:Tm) (h1 : -9223372036854775808≤t.f) (h2:t.f<0):AFun Tryz.prog W 50 [t.cw] (.val (.i (-1-t.f))):=by
 refine a8 (rs:=[.i (-1-t.f)]) Tryz.func50 Tryz.ntmps50 rfl rfl rfl rfl ?_
 intro w U hW
 refine aS (aR ?_)
 refine nc zb (nc zd ?_)
 refine aS (aR ?_)
 refine nc ze (nc zg (nc zi (nc zd ?_)))
 exact aT ⟨.inr rfl,rfl⟩
theorem V2 (W:World) (v:Int) (h1:0≤v) (h2:v≤9223372036854775807):AFun Tryz.prog W 54 [.i v] (.val (K2 v).cw):=by
 refine a8 (rs:=[(K2 v).cw]) Tryz.func54 Tryz.ntmps54 rfl rfl rfl rfl ?_
 intro w U hW
 refine aS (aR ?_)
 refine nc zw ?_
 refine aS (aR ?_)
 refine nc zj (nc zi (nc zx (nc zy ?_)))
 exact aT ⟨.inr rfl,rfl⟩
theorem b2X (W:World) (l:List Bd) (v:Int) (hl:l.length≤90000000000):AFun Tryz.prog W 84 [.lst (l.map Bd.cv),.i v] (.tup [((b7 l v).getD ⟨0,[]⟩).cw,.b (b7 l v).isSome]):=by
 have hsz:=Bd.size_all l
 refine a8 (rs:=[((b7 l v).getD ⟨0,[]⟩).cw,.b (b7 l v).isSome]) Tryz.func84 Tryz.ntmps84 rfl rfl rfl rfl ?_
 intro w U hW
 refine aS (aR ?_)
 refine nc zw (nc zd ?_)
 refine aS (aS (aR ?_))
 refine nc zj (nc zp (nc zj ?_))
 refine aB (p6 l.length (fun k=>∀ i c,i<k→l[i]?=some c→c.v≠v) (fun k=>[(1,.val (.i v)),(4,.bp 4 0 []),(100004,⟨5,.row [.i 0,.lst []],1,0,[1]⟩),(8,.val (.lst (l.map Bd.cv))),(9,.val (.i (l.map Bd.cv).length)),(10,.val (.i k))]) (a7 ⟨rfl,rfl,rfl,rfl,rfl,rfl,trivial⟩) (by omega) ?_)
 intro k hk hI
 refine aS (aR ?_)
 refine nc zh ?_
 refine aS (aC rfl (fun hc=>?_) (fun hc=>?_))
 ·simp only [List.length_map,decide_eq_true_eq] at hc
  have hkl:k<l.length:=by omega
  obtain ⟨b,hb⟩:∃ t,l[k]?=some t:=⟨l[k],List.getElem?_eq_getElem hkl⟩
  have hb':=Bd.map_at hb
  refine aK ?_
  refine aS (aB (aS (aR ?_)))
  refine nc (zz (H:=by assumption) (hz:=by first | assumption | exact sZ rfl | exact Tm.size_all _ | exact Bd.size_all _ | exact b8 _ | exact bys_size _ | exact Lt.size_all _)) (nc zA (nc zw (nc zy ?_)))
  refine aS (aR ?_)
  refine nc ze (nc zg (nc zj (nc zC ?_)))
  refine aC rfl (fun hc2=>?_) (fun hc2=>?_)
  ·simp only [decide_eq_true_eq] at hc2
   have hf:=b3F hb hc2 hI
   rw [hf]
   refine aS (aR ?_)
   refine nc ze (nc zg (nc zy (nc zd ?_)))
   exact aT (And.intro (.inr rfl) rfl)
  ·simp only [decide_eq_false_iff_not] at hc2
   refine aK ?_
   refine aR ?_
   refine nc zu (nc zj ?_)
   refine ⟨hkl,fun i c hi hcc=>?_,a7 ⟨rfl,rfl,rfl,rfl,rfl,rfl,trivial⟩⟩
   rcases Nat.lt_or_ge i k with h | h
   ·exact hI i c h hcc
   ·obtain rfl:i=k:=by omega
    rw [hb] at hcc
    cases hcc
    exact hc2
 ·simp only [List.length_map,decide_eq_false_iff_not] at hc
  have hkl:k=l.length:=by omega
  have hf:b7 l v=none:=a3j fun b hb=>by
   obtain ⟨i,hi,he⟩:=List.mem_iff_getElem.1 hb
   exact hI i b (by omega) (by rw [List.getElem?_eq_getElem hi,he])
  rw [hf]
  refine aE ?_
  refine aS (aR ?_)
  refine nc zx (nc zy (nc zd ?_))
  exact aT (And.intro (.inr rfl) rfl)
theorem b1W (W:World) (l:List Bd) (v:Int) (hl:l.length≤90000000000) (h1:0≤v) (h2:v≤9223372036854775807):AFun Tryz.prog W 51 [.lst (l.map Bd.cv),.i v] (.val (t9 l v).cw):=by
 refine a8 (rs:=[(t9 l v).cw]) Tryz.func51 Tryz.ntmps51 rfl rfl rfl rfl ?_
 intro w U hW
 refine aS (aR ?_)
 refine nc zw ?_
 refine aS (aS (aR ?_))
 refine nc zj (nc zj (nc (zn (z:=b2X w l v hl)) (nc zj (nc zD (nc zD (nc zw (nc zy (nc zd ?_))))))))
 refine aS (aR ?_)
 refine nc zj ?_
 unfold t9
 refine aC rfl (fun hc=>?_) (fun hc=>?_)
 ·obtain ⟨t,ht⟩:=Option.isSome_iff_exists.1 hc
  rw [ht]
  refine aS (aR ?_)
  refine nc zE (nc zy ?_)
  exact aT (And.intro (.inr rfl) rfl)
 ·have ht:b7 l v=none:=by simpa using hc
  rw [ht]
  refine aK ?_
  refine aS (aR ?_)
  refine nc zj (nc (zn (z:=V2 w v h1 h2)) (nc zy ?_))
  exact aT (And.intro (.inr rfl) rfl)
theorem a8k (W:World) (l:List Bd) (hl:l.length≤64):AFun Tryz.prog W 33 [.lst (l.map Bd.cv)] (.val (.fn 51 1 [.lst (l.map Bd.cv)])):=by
 refine a8 (rs:=[.fn 51 1 [.lst (l.map Bd.cv)]]) Tryz.func33 Tryz.ntmps33 rfl rfl rfl rfl ?_
 intro w U hW
 refine aS (aR ?_)
 refine nc zd ?_
 refine aS (aS (aR ?_))
 refine nc zj (nc zp (nc zF ?_))
 refine aC rfl (fun hc=>?_) (fun hc=>?_)
 ·refine aS (aR ?_)
  refine nc zj (nc zG (nc zd ?_))
  exact aT (And.intro (.inr rfl) rfl)
 ·simp only [List.length_map,decide_eq_false_iff_not] at hc
  omega
theorem a6D (W:World) (fc:CV) (img:Int→Tm) (hI:∀ v,0≤v→v≤9223372036854775807→AFunV Tryz.prog W fc [.i v] (.val (img v).cw)∧(img v).rng∧(img v).size≤90000000000):∀ t:Tm,t.rng→t.ok→AFun Tryz.prog W 32 [t.cw,fc] (.val (o5 img t).cw):=by
 intro t
 induction t using Tm.ind with
 | h f l ih =>
 intro hr hok
 have hok:=(Tm.ok_iff _).1 hok
 have hr:=(Tm.rng_iff _).1 hr
 simp only at hok hr
 have hsz:=Tm.size_all l
 refine a8 (rs:=[(o5 img ⟨f,l⟩).cw]) Tryz.func32 Tryz.ntmps32 rfl rfl rfl rfl ?_
 intro w U hW
 refine aS (aR ?_)
 refine nc zb (nc zw ?_)
 refine aS (aS (aR ?_))
 refine nc zE ?_
 refine nc (zn (z:=a2Q w ⟨f,l⟩)) ?_
 refine aC rfl (fun hc=>?_) (fun hc=>?_)
 ·have hf:f<0:=by simpa using hc
  rw [p8 hf]
  obtain ⟨i1,i2,i3⟩:=hI (-1-f) (by omega) (by omega)
  refine aS (aR ?_)
  refine nc zj (nc zE ?_)
  refine nc (zn (z:=a1K w ⟨f,l⟩ hr.1.1 hf)) ?_
  refine nc (zH (E:=i1.up hW)) (nc (zn (z:=D7 w i2 i3)) (nc zy ?_))
  exact aT (And.intro (.inr rfl) rfl)
 ·have hf:¬ f<0:=by simpa using hc
  rw [k8 hf]
  refine aK ?_
  refine aS (aR ?_)
  refine nc zd ?_
  refine aS (aS (aR ?_))
  refine nc ze (nc zg (nc zp (nc zj ?_)))
  refine aB (b9 l.length (fun k=>[(1,.val fc),(2,.bp 2 0 []),(100002,.bx (Tm.cw ⟨f,l⟩)),(4,.bp 4 0 []),(100004,⟨5,.row [.i 0,.lst []],1,0,[1]⟩),(5,.own (.lst ((l.take k).map fun t=>(o5 img t).cv)) 200027),(200027,.tok 37 2),(16,.val (.lst (l.map Tm.cv))),(17,.val (.i (l.map Tm.cv).length)),(18,.val (.i k))])
   ((E4 5 200027 37 2 rfl rfl rfl rfl rfl rfl rfl).trans (a7 ⟨rfl,rfl,rfl,rfl,rfl,rfl,rfl,rfl,rfl,rfl,trivial⟩)) ?_)
  intro k hk
  refine aS (aR ?_)
  refine nc zh ?_
  refine aS (aC rfl (fun hc=>?_) (fun hc=>?_))
  ·have hkl:k<l.length:=by
    simp only [List.length_map,decide_eq_true_eq] at hc
    omega
   obtain ⟨t,ht⟩:∃ t,l[k]?=some t:=⟨l[k],List.getElem?_eq_getElem hkl⟩
   have ht':=Tm.map_at ht
   have htm:=List.mem_of_getElem? ht
   have hsz2:∀ c∈(l.take k).map fun t=>(o5 img t).cv,c.size=2:=by
    intro c hc
    obtain ⟨t,_,rfl⟩:=List.mem_map.1 hc
    exact Tm.size_cv _
   refine aK ?_
   refine aS (aB (aS (aR ?_)))
   refine nc (zz (H:=by assumption) (hz:=by first | assumption | exact sZ rfl | exact Tm.size_all _ | exact Bd.size_all _ | exact b8 _ | exact bys_size _ | exact Lt.size_all _)) (nc zA (nc zw (nc zy ?_)))
   refine aR ?_
   refine nc zj (nc zE (nc zj (nc (zn (z:=(ih t htm (hr.2 t htm) (hok.2 t htm)).up hW)) (nc zI (nc zJ (nc zd ?_))))))
   refine aR ?_
   refine nc zu (nc zj ?_)
   refine ⟨hkl,Wk.trans (a7 (s':=[(1,.val fc),(2,.bp 2 0 []),(100002,.bx (Tm.cw ⟨f,l⟩)),(4,.bp 4 0 []),(100004,⟨5,.row [.i 0,.lst []],1,0,[1]⟩),(5,.own (.lst ((l.take (k+1)).map fun t=>(o5 img t).cv)) 300027),(300027,.tok 37 2),(16,.val (.lst (l.map Tm.cv))),(17,.val (.i (l.map Tm.cv).length)),(18,.val (.i ((k+1:Nat):Int)))]) ⟨rfl,rfl,rfl,rfl,rfl,?_,rfl,rfl,rfl,rfl,trivial⟩) (v9 300027 200027 rfl rfl rfl rfl)⟩
   rw [List.take_add_one,ht,List.map_append]
   simp only [Option.toList_some,List.map_cons,List.map_nil,Tm.cv_eq]
   rfl
  ·have hkl:k=l.length:=by
    simp only [List.length_map,decide_eq_false_iff_not] at hc
    omega
   subst hkl
   rw [List.take_length]
   refine aE ?_
   refine aS (aR ?_)
   refine nc ze (nc zg (nc zj (nc zx (nc zy ?_))))
   refine aT (And.intro (.inr rfl) ?_)
   unfold Tm.cw
   rw [List.map_map]
   rfl
theorem a3o {v:Int} (h1:0≤v) (h2:v≤9223372036854775807):(K2 v).rng:=(Tm.rng_iff _).2 ⟨by show _ ≤ -1-v ∧ -1-v≤_;omega,fun s hs=>by cases hs⟩
theorem M5 (v:Int):(K2 v).size=1:=by
 rw [Tm.size_eq]
 have:(K2 v).ps=[]:=by unfold Tm.ps K2;simp
 rw [this];rfl
theorem a1p:∀ {l:List Bd} {v:Int} {t:Tm},b7 l v=some t→∃ b∈l,b.t=t∧b.v=v
 | [],v,t,h=>by cases h
 | b::l,v,t,h=>by
  rw [b7] at h
  split at h
  ·rename_i e;cases h;exact ⟨b,by simp,rfl,e⟩
  ·obtain ⟨c,h1,h2⟩:=a1p h
   exact ⟨c,List.mem_cons_of_mem _ h1,h2⟩
def a2B (l:List Bd):Prop:=∀ b∈l,b.t.rng∧b.t.size≤90000000000
theorem a2Y {l:List Bd} (h:a2B l) {v:Int} (h1:0≤v) (h2:v≤9223372036854775807):(t9 l v).rng∧(t9 l v).size≤90000000000:=by
 unfold t9
 cases hf:b7 l v with
 | none=>exact ⟨a3o h1 h2,by show (K2 v).size≤_;rw [M5];omega⟩
 | some t =>
  obtain ⟨b,hb,e,_⟩:=a1p hf
  show t.rng∧t.size≤_
  rw [←e]
  exact h b hb
theorem a4F (W:World) (l:List Bd) (t:Tm) (hl:l.length≤64) (hb:a2B l) (hr:t.rng) (hok:t.ok):AFun Tryz.prog W 14 [.lst (l.map Bd.cv),t.cw] (.val (o5 (t9 l) t).cw):=by
 refine a8 (rs:=[(o5 (t9 l) t).cw]) Tryz.func14 Tryz.ntmps14 rfl rfl rfl rfl ?_
 intro w U hW
 refine aS (aR ?_)
 refine nc zb (nc zw ?_)
 refine aS (aD (by kernel_rfl) (by kernel_rfl) ?_)
 refine nc zE (nc zj (nc (zn (z:=a8k w l hl)) ?_))
 refine nc (zn (z:=a6D w _ (t9 l) (fun v h1 h2=>⟨⟨_,_,_,rfl,b1W w l v (by omega) h1 h2⟩,a2Y hb h1 h2⟩) t hr hok)) ?_
 refine nc zy ?_
 refine ⟨by kernel_rfl,?_⟩
 exact aT (And.intro (.inr rfl) rfl)
end Go.Proofs.YtekboofbedakcaaGreat
namespace Go.Proofs.YtekboofbedakcaaGreat
set_option linter.unusedVariables false
set_option linter.unusedSimpArgs false
def vsL (l:List Tm):List Int:=(l.filter fun s=>decide (s.f<0)).map fun s => -1-s.f
def Tm.vs (t:Tm):List Int:=vsL t.flat
theorem a2P (l m:List Tm):vsL (l++m)=vsL l++vsL m:=by simp [vsL]
theorem R3 (l:List Tm):vsL (l.flatMap Tm.flat)=l.flatMap Tm.vs:=by
 induction l with
 | nil=>rfl
 | cons t l ih=>rw [List.flatMap_cons,a2P,ih,List.flatMap_cons];rfl
theorem Tm.vs_var {t:Tm} (h:t.f<0):t.vs=[-1-t.f]:=by
 unfold Tm.vs
 rw [Tm.flat_eq,Tm.ps_of_var h]
 simp [vsL,h]
theorem Tm.vs_sym {t:Tm} (h:¬ t.f<0):t.vs=t.l.flatMap Tm.vs:=by
 unfold Tm.vs
 rw [Tm.flat_eq,Tm.ps_of_sym (by omega),show t::t.l.flatMap Tm.flat=[t]++t.l.flatMap Tm.flat from rfl,a2P,R3]
 simp [vsL,h]
 rfl
theorem Tm.strip_vs (t:Tm):t.strip.vs=t.vs:=by
 induction t using Tm.indp with
 | h t ih =>
  by_cases h:t.f<0
  ·rw [Tm.vs_var h,Tm.vs_var (by rw [Tm.strip_f];exact h),Tm.strip_f]
  ·rw [Tm.vs_sym h,Tm.vs_sym (by rw [Tm.strip_f];exact h),Tm.strip_l]
   rw [Tm.ps_of_sym (by omega)] at ih ⊢
   rw [List.flatMap_def,List.flatMap_def,List.map_map]
   congr 1
   exact List.map_congr_left fun s hs=>ih s hs
theorem Tm.size_sym {t:Tm} (h:¬ t.f<0):t.size=1+(t.l.map Tm.size).sum:=by
 rw [Tm.size_eq,Tm.ps_of_sym (by omega),List.length_flatMap]
 rfl
theorem Tm.size_var {t:Tm} (h:t.f<0):t.size=1:=by
 rw [Tm.size_eq,Tm.ps_of_var h];rfl
theorem a3M {l:List Tm} {f g:Tm→Int} (h:∀ s∈l,f s=g s):(l.map f).sum=(l.map g).sum:=by
 rw [List.map_congr_left h]
theorem a1Q (l:List Tm) (g:Int→Int):((l.flatMap Tm.vs).map g).sum=(l.map fun s=>(s.vs.map g).sum).sum:=by
 induction l with
 | nil=>rfl
 | cons t l ih=>rw [List.flatMap_cons,List.map_append,List.sum_append_int,ih,List.map_cons,List.sum_cons]
theorem a7c (l:List Nat):((l.sum:Nat):Int)=(l.map fun n:Nat=>(n:Int)).sum:=by
 induction l with
 | nil=>rfl
 | cons n l ih=>rw [List.sum_cons,List.map_cons,List.sum_cons,←ih];omega
theorem b5X (l:List Tm) (f g:Tm→Int):(l.map fun s=>f s+g s).sum=(l.map f).sum+(l.map g).sum:=by
 induction l with
 | nil=>rfl
 | cons t l ih=>simp only [List.map_cons,List.sum_cons,ih];omega
theorem a4R (img:Int→Tm) (t:Tm):((o5 img t).size:Int)=t.size+(t.vs.map fun v=>((img v).size:Int)-1).sum:=by
 induction t using Tm.indp with
 | h t ih =>
  by_cases h:t.f<0
  ·rw [p8 h,Tm.vs_var h,Tm.strip_size,Tm.size_var h];simp;omega
  ·rw [k8 h,Tm.vs_sym h,Tm.size_sym h,Tm.size_sym (t:=⟨t.f,_⟩) h,a1Q]
   rw [Tm.ps_of_sym (by omega)] at ih
   simp only
   rw [Int.natCast_add,Int.natCast_add,a7c,a7c,List.map_map,List.map_map,List.map_map,Int.add_assoc,←b5X]
   congr 1
   exact a3M fun s hs=>ih s hs
def b0u (acc:List Int) (v:Int):List Int:=if v∈acc then acc else acc++[v]
def nub (l:List Int):List Int:=l.foldl b0u []
theorem a3s (l:List Int) (v:Int):nub (l++[v])=if v∈nub l then nub l else nub l++[v]:=by
 unfold nub
 rw [List.foldl_append]
 rfl
theorem a3m {α:Type} {Q:List α→Prop} (h0:Q []) (h1:∀ l x,Q l→Q (l++[x])):∀ l,Q l:=by
 intro l
 have:∀ n (l:List α),l.length=n→Q l:=by
  intro n
  induction n with
  | zero=>intro l hl;rw [List.eq_nil_of_length_eq_zero hl];exact h0
  | succ n ih =>
   intro l hl
   have hne:l≠[]:=fun e=>by rw [e] at hl;simp at hl
   rw [←List.dropLast_concat_getLast hne]
   exact h1 _ _ (ih _ (by simp [hl]))
 exact this _ l rfl
theorem a5R (l:List Int):∀ v,v∈nub l↔v∈l:=by
 induction l using a3m with
 | h0=>intro v;rfl
 | h1 l x ih =>
  intro v
  rw [a3s,List.mem_append,←ih]
  split
  ·rename_i hx
   simp only [List.mem_singleton]
   exact ⟨fun h => .inl h,fun h=>h.elim id fun e=>e▸hx⟩
  ·rw [List.mem_append]
theorem b1U (l:List Tm):B0 l=nub (vsL l):=by
 have:∀ (l:List Tm) (acc:List Int),l.foldl a2f acc=(vsL l).foldl b0u acc:=by
  intro l
  induction l with
  | nil=>intro acc;rfl
  | cons t l ih =>
   intro acc
   rw [List.foldl_cons,ih]
   by_cases h:t.f<0
   ·have:vsL (t::l)=(-1-t.f)::vsL l:=by simp [vsL,h]
    rw [this,List.foldl_cons]
    congr 1
    unfold a2f b0u
    rw [if_pos h]
   ·have:vsL (t::l)=vsL l:=by simp [vsL,h]
    rw [this]
    congr 1
    unfold a2f
    rw [if_neg h]
 exact this l []
end Go.Proofs.YtekboofbedakcaaGreat
namespace Go.Proofs.YtekboofbedakcaaGreat
open Go.RowKit
set_option linter.unusedVariables false
set_option linter.unusedSimpArgs false
def Tm.sm:Tm→Prop
 | ⟨f,l⟩=>(-1000≤f∧f≤1000)∧∀ t∈l,Tm.sm t
theorem Tm.sm_iff (t:Tm):t.sm↔(-1000≤t.f∧t.f≤1000)∧∀ s∈t.l,s.sm:=by cases t;rw [Tm.sm]
theorem a7B (t:Tm):∀ most deep,0≤f0 t most deep→t.sm:=by
 induction t using Tm.ind with
 | h f l ih =>
  intro most deep h
  rw [a1v] at h
  split at h
  ·omega
  ·rename_i hc
   refine (Tm.sm_iff _).2 ⟨⟨by show -1000≤f;omega,by show f≤1000;omega⟩,?_⟩
   have:∀ (l:List Tm) (m d:Int),(∀ t∈l,∀ most deep,0≤f0 t most deep→t.sm)→0≤F6 l m d→∀ t∈l,t.sm:=by
    intro l
    induction l with
    | nil=>intro m d _ _ t ht;cases ht
    | cons y ys ih2 =>
     intro m d hl h t ht
     rw [K8] at h
     split at h
     ·omega
     ·have hy:0≤f0 y m d:=by
       rcases Int.lt_or_le (f0 y m d) 0 with h1 | h1
       ·rw [a2S ys d h1] at h;omega
       ·exact h1
      rcases List.mem_cons.1 ht with rfl | ht
      ·exact hl t (by simp) m d hy
      ·exact ih2 (f0 y m d) d (fun s hs=>hl s (List.mem_cons_of_mem _ hs)) h t ht
   exact this l _ _ ih h
theorem Tm.sm_rng {t:Tm} (h:t.sm):t.rng:=by
 induction t using Tm.ind with
 | h f l ih =>
  obtain ⟨h1,h2⟩:=(Tm.sm_iff _).1 h
  exact (Tm.rng_iff _).2 ⟨by simp only at h1 ⊢;omega,fun s hs=>ih s hs (h2 s hs)⟩
theorem Tm.wt_ok {t:Tm} (h:t.wt≤1000000):t.ok:=by
 induction t using Tm.ind with
 | h f l ih =>
  rw [Tm.wt_eq] at h
  simp only at h
  have:=Tm.wts_len l
  exact (Tm.ok_iff _).2 ⟨by simp only;omega,fun s hs=>ih s hs (by have:s.wt≤Tm.wts l:=Tm.wts_mem hs;omega)⟩
theorem Tm.strip_rng {t:Tm} (h:t.rng):t.strip.rng:=by
 induction t using Tm.indp with
 | h t ih =>
  obtain ⟨h1,h2⟩:=(Tm.rng_iff _).1 h
  refine (Tm.rng_iff _).2 ⟨by rw [Tm.strip_f];exact h1,fun s hs=>?_⟩
  rw [Tm.strip_l] at hs
  obtain ⟨u,hu,rfl⟩:=List.mem_map.1 hs
  exact ih u hu (h2 u (Tm.ps_mem hu).1)
theorem Tm.strip_ok {t:Tm} (h:t.ok):t.strip.ok:=by
 induction t using Tm.indp with
 | h t ih =>
  obtain ⟨h1,h2⟩:=(Tm.ok_iff _).1 h
  refine (Tm.ok_iff _).2 ⟨?_,fun s hs=>?_⟩
  ·rw [Tm.strip_l,List.length_map]
   unfold Tm.ps
   split
   ·simp
   ·exact h1
  ·rw [Tm.strip_l] at hs
   obtain ⟨u,hu,rfl⟩:=List.mem_map.1 hs
   exact ih u hu (h2 u (Tm.ps_mem hu).1)
theorem a7O {f:Int} (h1 : -9223372036854775808≤f) (h2:f≤9223372036854775807):(Tm.mk f []).rng:=(Tm.rng_iff _).2 ⟨⟨h1,h2⟩,fun s hs=>by cases hs⟩
theorem a9R (f:Int):(Tm.mk f []).ok:=(Tm.ok_iff _).2 ⟨by show 0≤_;omega,fun s hs=>by cases hs⟩
theorem a4x (f:Int):(Tm.mk f []).size=1:=by
 rw [Tm.size_eq]
 have:(Tm.mk f []).ps=[]:=by unfold Tm.ps;simp
 rw [this];rfl
end Go.Proofs.YtekboofbedakcaaGreat
namespace Go.Proofs.YtekboofbedakcaaGreat
open Go.RowKit
set_option linter.unusedVariables false
set_option linter.unusedSimpArgs false
set_option maxRecDepth 100000
theorem a7s {img:Int→Tm} {t:Tm} (h:t.rng) (hi:∀ v,0≤v→v≤9223372036854775807→(img v).rng):(o5 img t).rng:=by
 induction t using Tm.ind with
 | h f l ih =>
  obtain ⟨h1,h2⟩:=(Tm.rng_iff _).1 h
  simp only at h1 h2
  by_cases hf:f<0
  ·rw [p8 hf];exact Tm.strip_rng (hi _ (by simp only;omega) (by simp only;omega))
  ·rw [k8 hf]
   refine (Tm.rng_iff _).2 ⟨h1,fun s hs=>?_⟩
   obtain ⟨u,hu,rfl⟩:=List.mem_map.1 hs
   exact ih u hu (h2 u hu)
theorem b4J {img:Int→Tm} {t:Tm} (h:t.ok) (hi:∀ v,(img v).ok):(o5 img t).ok:=by
 induction t using Tm.ind with
 | h f l ih =>
  obtain ⟨h1,h2⟩:=(Tm.ok_iff _).1 h
  simp only at h1 h2
  by_cases hf:f<0
  ·rw [p8 hf];exact Tm.strip_ok (hi _)
  ·rw [k8 hf]
   refine (Tm.ok_iff _).2 ⟨by simpa using h1,fun s hs=>?_⟩
   obtain ⟨u,hu,rfl⟩:=List.mem_map.1 hs
   exact ih u hu (h2 u hu)
theorem b5e (v:Int):(K2 v).ok:=(Tm.ok_iff _).2 ⟨by show 0≤_;omega,fun s hs=>by cases hs⟩
end Go.Proofs.YtekboofbedakcaaGreat
namespace Go.Proofs.YtekboofbedakcaaGreat
set_option linter.unusedVariables false
set_option linter.unusedSimpArgs false
theorem d9 (x y:Int):(B3 x y = -1∧x<y)∨(B3 x y=0∧x=y)∨(B3 x y=1∧y<x):=by
 unfold B3
 split
 ·exact .inl ⟨rfl,by assumption⟩
 ·split
  ·exact .inr (.inr ⟨rfl,by assumption⟩)
  ·exact .inr (.inl ⟨rfl,by omega⟩)
theorem F9 (x y:Int):(a4l x y = -1∧((x<0∧y<0∧y<x)∨(¬ (x<0∧y<0)∧x<y)))∨(a4l x y=0∧x=y)∨(a4l x y=1∧((x<0∧y<0∧x<y)∨(¬ (x<0∧y<0)∧y<x))):=by
 unfold a4l
 split
 ·have:=d9 (-1-x) (-1-y)
  omega
 ·have:=d9 x y
  omega
theorem H7 (a:Tm):∀ b,t6 a b=0↔a.strip=b.strip:=by
 induction a using Tm.indp with
 | h a ih =>
  intro b
  rw [J1,Tm.strip_eq a,Tm.strip_eq b]
  have hL:∀ (l m:List Tm),(∀ s∈l,∀ b,t6 s b=0↔s.strip=b.strip)→(H8 l m=0↔l.map Tm.strip=m.map Tm.strip):=by
   intro l
   induction l with
   | nil=>intro m _;cases m<;>simp [G5,X5,X3]
   | cons y ys ih2 =>
    intro m hl
    cases m with
    | nil=>simp [G5,X5,X3]
    | cons z zs =>
     rw [B7,List.map_cons,List.map_cons,List.cons.injEq,←hl y (by simp) z,←ih2 zs (fun s hs=>hl s (List.mem_cons_of_mem _ hs))]
     by_cases h:t6 y z=0<;>simp [h]
  rw [Tm.mk.injEq]
  by_cases h1:a.f=b.f
  ·rw [if_neg (by simp [h1])]
   by_cases h2:a.ps.length=b.ps.length
   ·rw [if_neg (by simp [h2]),hL _ _ ih]
    simp [h1]
   ·rw [if_pos h2]
    constructor
    ·intro h3
     have:=d9 a.ps.length b.ps.length
     omega
    ·rintro ⟨_,h3⟩
     exact absurd (by simpa using congrArg List.length h3) h2
  ·rw [if_pos h1]
   constructor
   ·intro h3
    have:=F9 a.f b.f
    omega
   ·rintro ⟨h3,_⟩
    exact absurd h3 h1
theorem a4B (a:Tm):∀ b,t6 b a = - t6 a b:=by
 induction a using Tm.indp with
 | h a ih =>
  intro b
  rw [J1 b a,J1 a b]
  have hL:∀ (l m:List Tm),(∀ s∈l,∀ b,t6 b s = - t6 s b)→H8 m l = - H8 l m:=by
   intro l
   induction l with
   | nil=>intro m _;cases m<;>simp [G5,X5,X3]
   | cons y ys ih2 =>
    intro m hl
    cases m with
    | nil=>simp [G5,X5,X3]
    | cons z zs =>
     rw [B7,B7,hl y (by simp) z,ih2 zs (fun s hs=>hl s (List.mem_cons_of_mem _ hs))]
     by_cases h:t6 y z=0<;>simp [h]
  by_cases h1:a.f=b.f
  ·by_cases h2:a.ps.length=b.ps.length
   ·simp only [h1,h2,ne_eq,not_true_eq_false,if_false]
    exact hL _ _ ih
   ·have h2':¬ b.ps.length=a.ps.length:=fun e=>h2 e.symm
    simp only [h1,h2,h2',ne_eq,not_true_eq_false,not_false_eq_true,if_false,if_true]
    have:=d9 a.ps.length b.ps.length
    have:=d9 b.ps.length a.ps.length
    omega
  ·have h1':¬ b.f=a.f:=fun e=>h1 e.symm
   simp only [h1,h1',ne_eq,not_false_eq_true,if_true]
   have:=F9 a.f b.f
   have:=F9 b.f a.f
   omega
theorem a1G (a:Tm):∀ b,t6 a.strip b=t6 a b:=by
 induction a using Tm.indp with
 | h a ih =>
  intro b
  rw [J1 a.strip b,J1 a b,Tm.strip_f,Tm.strip_ps,List.length_map]
  have hL:∀ (l m:List Tm),(∀ s∈l,∀ b,t6 s.strip b=t6 s b)→H8 (l.map Tm.strip) m=H8 l m:=by
   intro l
   induction l with
   | nil=>intro m _;rfl
   | cons y ys ih2 =>
    intro m hl
    cases m with
    | nil=>simp [G5,X5,X3]
    | cons z zs=>rw [List.map_cons,B7,B7,hl y (by simp) z,ih2 zs (fun s hs=>hl s (List.mem_cons_of_mem _ hs))]
  rw [hL _ _ ih]
theorem a3e {a a':Tm} (h:a.strip=a'.strip) (b:Tm):t6 a b=t6 a' b:=by rw [←a1G a,←a1G a',h]
def a3c (p q r:Int):Prop:=p≤0→q≤0→r≤0∧(r=0→p=0∧q=0)
theorem a0X {p1 q1 r1 p2 q2 r2:Int} (g1:a3c p1 q1 r1) (g2:a3c p2 q2 r2) (g3:p1=0→r1=q1):a3c (if p1≠0 then p1 else p2) (if q1≠0 then q1 else q2) (if r1≠0 then r1 else r2):=by
 unfold a3c at *
 intro hp hq
 split at hp<;>split at hq<;>split<;>first | omega | (simp_all;done) | (simp_all;omega)
theorem a0k {a b:Tm} (h:a.f≠b.f):t6 a b=a4l a.f b.f:=by rw [J1,if_pos h]
theorem a0f {a b:Tm} (h:a.f=b.f) (h2:a.ps.length≠b.ps.length):t6 a b=B3 a.ps.length b.ps.length:=by rw [J1,if_neg (by simp [h]),if_pos h2]
theorem a3U {a b:Tm} (h:a.f=b.f) (h2:a.ps.length=b.ps.length):t6 a b=H8 a.ps b.ps:=by rw [J1,if_neg (by simp [h]),if_neg (by simp [h2])]
theorem a2O (a:Tm):∀ b c,a3c (t6 a b) (t6 b c) (t6 a c):=by
 induction a using Tm.indp with
 | h a ih =>
  intro b c hp hq
  have hL:∀ (l m n:List Tm),l.length=m.length→m.length=n.length→(∀ s∈l,∀ b c,a3c (t6 s b) (t6 b c) (t6 s c))→a3c (H8 l m) (H8 m n) (H8 l n):=by
   intro l
   induction l with
   | nil =>
    intro m n h1 h2 _
    have:m=[]:=List.eq_nil_of_length_eq_zero (by simpa using h1.symm)
    subst this
    have:n=[]:=List.eq_nil_of_length_eq_zero (by simpa using h2.symm)
    subst this
    simp [G5,a3c]
   | cons y ys ih2 =>
    intro m n h1 h2 hl
    cases m with
    | nil=>simp at h1
    | cons z zs =>
     cases n with
     | nil=>simp at h2
     | cons u us =>
      have g1:=hl y (by simp) z u
      have g2:=ih2 zs us (by simpa using h1) (by simpa using h2) (fun s hs=>hl s (List.mem_cons_of_mem _ hs))
      have g3:t6 y z=0→t6 y u=t6 z u:=fun e=>a3e ((H7 _ _).1 e) u
      rw [B7,B7,B7]
      exact a0X g1 g2 g3
  have hab:=F9 a.f b.f
  have hbc:=F9 b.f c.f
  have hac:=F9 a.f c.f
  have zab:=d9 a.ps.length b.ps.length
  have zbc:=d9 b.ps.length c.ps.length
  have zac:=d9 a.ps.length c.ps.length
  by_cases f1:a.f=b.f<;>by_cases f2:b.f=c.f
  ·have f3:a.f=c.f:=f1.trans f2
   by_cases l1:a.ps.length=b.ps.length<;>by_cases l2:b.ps.length=c.ps.length
   ·rw [a3U f1 l1] at hp ⊢
    rw [a3U f2 l2] at hq ⊢
    rw [a3U f3 (l1.trans l2)]
    exact hL _ _ _ l1 l2 ih hp hq
   ·rw [a3U f1 l1] at hp ⊢
    rw [a0f f2 l2] at hq ⊢
    rw [a0f f3 (by omega)]
    clear hL ih
    omega
   ·rw [a0f f1 l1] at hp ⊢
    rw [a3U f2 l2] at hq ⊢
    rw [a0f f3 (by omega)]
    clear hL ih
    omega
   ·rw [a0f f1 l1] at hp ⊢
    rw [a0f f2 l2] at hq ⊢
    by_cases l3:a.ps.length=c.ps.length
    ·omega
    ·rw [a0f f3 l3]
     clear hL ih
     omega
  ·have f3:a.f≠c.f:=by omega
   rw [a0k f2] at hq ⊢
   rw [a0k f3]
   clear hL ih
   omega
  ·have f3:a.f≠c.f:=by omega
   rw [a0k f1] at hp ⊢
   rw [a0k f3]
   clear hL ih
   omega
  ·rw [a0k f1] at hp ⊢
   rw [a0k f2] at hq ⊢
   by_cases f3:a.f=c.f
   ·omega
   ·rw [a0k f3]
    clear hL ih
    omega
theorem x7 (a b:Tm):A9 a b=true↔a.strip=b.strip:=by
 unfold A9
 rw [beq_iff_eq]
 exact H7 a b
end Go.Proofs.YtekboofbedakcaaGreat
namespace Go.Proofs.YtekboofbedakcaaGreat
open Go.RowKit
set_option linter.unusedVariables false
set_option linter.unusedSimpArgs false
set_option maxRecDepth 100000
theorem a9m {a b:Tm} (h:A9 a b=true):a.f=b.f:=by
 have:=(x7 a b).1 h
 rw [←Tm.strip_f,this,Tm.strip_f]
theorem b3l {a b:Tm} (h:a.f≠b.f):A9 a b=false:=by
 cases hs:A9 a b with
 | false=>rfl
 | true=>exact absurd (a9m hs) h
theorem b3k {a b:Tm} (h:a.f=b.f) (hf:a.f<0):A9 a b=true:=by
 rw [x7,Tm.strip_eq,Tm.strip_eq,Tm.ps_of_var hf,Tm.ps_of_var (by omega),h]
theorem a3t {a b:Tm} (h:a.f=b.f) (hf:¬ a.f<0):A9 a b=true↔a.l.map Tm.strip=b.l.map Tm.strip:=by
 rw [x7,Tm.strip_eq,Tm.strip_eq,Tm.ps_of_sym (by omega),Tm.ps_of_sym (by omega),h]
 simp
theorem b2W {a b:Tm} (hf:¬ a.f<0) (hl:a.l.length≠b.l.length):A9 a b=false:=by
 cases hs:A9 a b with
 | false=>rfl
 | true =>
  have:=congrArg List.length ((a3t (a9m hs) hf).1 hs)
  simp at this
  exact absurd this hl
theorem b4L {a b:Tm} (hf:¬ a.f<0) {i:Nat} {x y:Tm} (hx:a.l[i]?=some x) (hy:b.l[i]?=some y) (h:A9 x y=false):A9 a b=false:=by
 cases hs:A9 a b with
 | false=>rfl
 | true =>
  have:=congrArg (fun l=>l[i]?) ((a3t (a9m hs) hf).1 hs)
  simp only [List.getElem?_map,hx,hy,Option.map_some,Option.some.injEq] at this
  rw [(x7 x y).2 this] at h
  cases h
theorem b2Z {a b:Tm} (h:a.f=b.f) (hf:¬ a.f<0) (hl:a.l.length=b.l.length) (hi:∀ i x y,i<a.l.length→a.l[i]?=some x→b.l[i]?=some y→A9 x y=true):A9 a b=true:=by
 rw [a3t h hf]
 apply List.ext_getElem?
 intro i
 rw [List.getElem?_map,List.getElem?_map]
 by_cases hil:i<a.l.length
 ·have hx:=List.getElem?_eq_getElem hil
  have hy:=List.getElem?_eq_getElem (l:=b.l) (i:=i) (by omega)
  rw [hx,hy]
  exact congrArg some ((x7 _ _).1 (hi i _ _ hil hx hy))
 ·rw [List.getElem?_eq_none (by omega),List.getElem?_eq_none (by omega)]
set_option maxHeartbeats 1000000 in
theorem L2 (W:World):∀ (a b:Tm),a.ok→b.ok→AFun Tryz.prog W 23 [a.cw,b.cw] (.val (.b (A9 a b))):=by
 intro a
 induction a using Tm.ind with
 | h f l ih =>
 intro b hoa hob
 obtain ⟨hla,hoa⟩:=(Tm.ok_iff _).1 hoa
 obtain ⟨hlb,hob⟩:=(Tm.ok_iff _).1 hob
 simp only at hla hoa
 have hsz:=Tm.size_all l
 have hsz2:=Tm.size_all b.l
 refine a8 (rs:=[.b (A9 ⟨f,l⟩ b)]) Tryz.func23 Tryz.ntmps23 rfl rfl rfl rfl ?_
 intro w U hW
 refine aS (aR ?_)
 refine nc zb (nc zb (nc zd ?_))
 refine aS (aS (aR ?_))
 refine nc ze (nc zg (nc ze (nc zg (nc zK ?_))))
 refine aC rfl (fun hc=>?_) (fun hc=>aK ?_)
 ·have hne:f≠b.f:=by simpa using hc
  rw [b3l (a:=⟨f,l⟩) hne]
  refine aS (aR ?_)
  refine nc zd ?_
  exact aT (And.intro (.inr rfl) rfl)
 have hfe:f=b.f:=by simpa using hc
 clear hc
 refine aS (aS (aR ?_))
 refine nc ze (nc zg (nc zh ?_))
 refine aC rfl (fun hc=>?_) (fun hc=>aK ?_)
 ·have hneg:f<0:=by simpa using hc
  rw [b3k (a:=⟨f,l⟩) hfe hneg]
  refine aS (aR ?_)
  refine nc zd ?_
  exact aT (And.intro (.inr rfl) rfl)
 have hnn:¬ f<0:=by simpa using hc
 clear hc
 refine aS (aS (aR ?_))
 refine nc ze (nc zg (nc zp (nc ze (nc zg (nc zp (nc zK ?_))))))
 refine aC rfl (fun hc=>?_) (fun hc=>aK ?_)
 ·have hne:l.length≠b.l.length:=by
   simp only [List.length_map,decide_eq_true_eq] at hc
   omega
  rw [b2W (a:=⟨f,l⟩) hnn hne]
  refine aS (aR ?_)
  refine nc zd ?_
  exact aT (And.intro (.inr rfl) rfl)
 have hle:l.length=b.l.length:=by
  simp only [List.length_map,decide_eq_false_iff_not,ne_eq,Decidable.not_not] at hc
  omega
 clear hc
 refine aS (aS (aR ?_))
 refine nc zd ?_
 refine aB (p6 l.length (fun k=>∀ i x y,i<k→l[i]?=some x→b.l[i]?=some y→A9 x y=true) (fun k=>[(2,.bp 2 0 []),(100002,.bx (Tm.cw ⟨f,l⟩)),(3,.bp 3 0 []),(100003,.bx b.cw),(5,.val (.i k))]) (a7 ⟨rfl,rfl,rfl,rfl,rfl,trivial⟩) (by omega) ?_)
 intro k hk hI
 refine aS (aS (aR ?_))
 refine nc zj (nc ze (nc zg (nc zp (nc zh ?_))))
 refine aC rfl (fun hc=>aK ?_) (fun hc=>aE ?_)
 ·have hkl:k<l.length:=by
   simp only [List.length_map,decide_eq_true_eq] at hc
   omega
  clear hc
  obtain ⟨x,hx⟩:∃ x,l[k]?=some x:=⟨l[k],List.getElem?_eq_getElem hkl⟩
  obtain ⟨y,hy⟩:∃ y,b.l[k]?=some y:=⟨b.l[k]'(by omega),List.getElem?_eq_getElem (by omega)⟩
  have hx':=Tm.map_at hx
  have hy':=Tm.map_at hy
  have hxm:=List.mem_of_getElem? hx
  have hym:=List.mem_of_getElem? hy
  refine aS (aB (aS (aD (by kernel_rfl) (by kernel_rfl) ?_)))
  refine nc ze (nc zg (nc zj (nc (zz (H:=by assumption) (hz:=by first | assumption | exact sZ rfl | exact Tm.size_all _ | exact Bd.size_all _ | exact b8 _ | exact bys_size _ | exact Lt.size_all _)) (nc zA (nc ze (nc zg (nc zj (nc (zz (H:=by assumption) (hz:=by first | assumption | exact sZ rfl | exact Tm.size_all _ | exact Bd.size_all _ | exact b8 _ | exact bys_size _ | exact Lt.size_all _)) (nc zA (nc (zn (z:=(ih x hxm y (hoa x hxm) (hob y hym)).up hW)) (nc zt ?_)))))))))))
  refine ⟨by kernel_rfl,?_⟩
  refine aC rfl (fun hc=>?_) (fun hc=>aK ?_)
  ·have hs:A9 x y=false:=by simpa using hc
   rw [b4L (a:=⟨f,l⟩) hnn hx hy hs]
   refine aS (aR ?_)
   refine nc zd ?_
   exact aT (And.intro (.inr rfl) rfl)
  have hs:A9 x y=true:=by simpa using hc
  clear hc
  refine aR ?_
  refine nc zj (nc zu (nc zd ?_))
  refine ⟨hkl,fun i x' y' hi h1 h2=>?_,a7 ⟨rfl,rfl,rfl,rfl,rfl,trivial⟩⟩
  rcases Nat.lt_or_ge i k with h | h
  ·exact hI i x' y' h h1 h2
  ·obtain rfl:i=k:=by omega
   rw [hx] at h1;rw [hy] at h2
   cases h1;cases h2
   exact hs
 ·have hkl:k=l.length:=by
   simp only [List.length_map,decide_eq_false_iff_not] at hc
   omega
  subst hkl
  rw [b2Z (a:=⟨f,l⟩) hfe hnn hle hI]
  refine aS (aR ?_)
  refine nc zd ?_
  exact aT (And.intro (.inr rfl) rfl)
set_option maxHeartbeats 1000000 in
theorem b4z (W:World):∀ (t:Tm),t.ok→AFun Tryz.prog W 24 [t.cw] (.val t.strip.cw):=by
 intro t
 induction t using Tm.ind with
 | h f l ih =>
 intro hok
 obtain ⟨hl,hok⟩:=(Tm.ok_iff _).1 hok
 simp only at hl hok
 have hsz:=Tm.size_all l
 refine a8 (rs:=[(Tm.strip ⟨f,l⟩).cw]) Tryz.func24 Tryz.ntmps24 rfl rfl rfl rfl ?_
 intro w U hW
 refine aS (aR ?_)
 refine nc zb (nc zw ?_)
 refine aS (aR ?_)
 refine nc ze (nc zg (nc zx (nc zw (nc zy ?_))))
 refine aS (aS (aR ?_))
 refine nc zd ?_
 by_cases hf:f<0
 ·have hg:decide (f≥0)=false:=by simpa using hf
  rw [show (Tm.strip ⟨f,l⟩)=⟨f,[]⟩ by rw [Tm.strip_eq,Tm.ps_of_var (t:=⟨f,l⟩) hf];rfl]
  refine aB (b9 0 (fun k=>[(1,.bp 1 0 []),(100001,.bx (Tm.cw ⟨f,l⟩)),(2,.bp 2 0 []),(100002,⟨5,.row [.i 0,.lst []],1,0,[1]⟩),(3,.bp 3 0 []),(100003,⟨5,.row [.i f,.lst []],1,0,[1]⟩),(4,.val (.i k))]) (a7 ⟨rfl,rfl,rfl,rfl,rfl,rfl,rfl,trivial⟩) ?_)
  intro k hk
  refine aS (aS (aR ?_))
  refine nc ze (nc zg (nc zL (nc zj (nc zM (nc zM (nc zM (nc zM (nc zM (nc zN ?_)))))))))
  refine aC rfl (fun hc=>by cases hc) (fun hc=>aE ?_)
  refine aS (aR ?_)
  refine nc zE (nc zy ?_)
  exact aT (And.intro (.inr rfl) rfl)
 have hg:decide (f≥0)=true:=by simp only [decide_eq_true_eq];omega
 rw [show (Tm.strip ⟨f,l⟩)=⟨f,l.map Tm.strip⟩ by rw [Tm.strip_eq,Tm.ps_of_sym (t:=⟨f,l⟩) (by show 0≤f;omega)]]
 refine aB (b9 l.length (fun k=>[(1,.bp 1 0 []),(100001,.bx (Tm.cw ⟨f,l⟩)),(2,.bp 2 0 []),(100002,⟨5,.row [.i 0,.lst []],1,0,[1]⟩),(3,.bp 3 0 []),(100003,⟨5,.row [.i f,.lst (((l.take k).map Tm.strip).map Tm.cv)],200029,0,[1]⟩),(200029,.tok 25 2),(4,.val (.i k))])
  ((E4 100003 200029 25 2 rfl rfl rfl rfl rfl rfl rfl).trans (a7 ⟨rfl,rfl,rfl,rfl,rfl,rfl,rfl,rfl,trivial⟩)) ?_)
 intro k hk
 refine aS (aS (aR ?_))
 refine nc ze (nc zg (nc zL (nc zj (nc (zj (p:=gc)) (nc (ze (r:=gc)) (nc (zg (r:=gc)) (nc (zp (r:=gc)) (nc (zh (r:=gc)) (nc zO ?_)))))))))
 refine aC rfl (fun hc=>aK ?_) (fun hc=>aE ?_)
 ·have hkl:k<l.length:=by
   simp only [List.length_map,decide_eq_true_eq] at hc
   omega
  clear hc
  obtain ⟨t,ht⟩:∃ t,l[k]?=some t:=⟨l[k],List.getElem?_eq_getElem hkl⟩
  have ht':=Tm.map_at ht
  have htm:=List.mem_of_getElem? ht
  refine aS (aB (aD (by kernel_rfl) (by kernel_rfl) ?_))
  refine nc ze (nc zP (nc ze (nc zg (nc zj (nc (zz (H:=by assumption) (hz:=by first | assumption | exact sZ rfl | exact Tm.size_all _ | exact Bd.size_all _ | exact b8 _ | exact bys_size _ | exact Lt.size_all _)) (nc zA (nc (zn (z:=(ih t htm (hok t htm)).up hW)) (nc zI (nc zJ (nc ze (nc zQ ?_)))))))))))
  refine ⟨by kernel_rfl,?_⟩
  refine aR ?_
  refine nc zj (nc zu (nc zd ?_))
  refine ⟨hkl,Wk.trans (a7 (s':=[(1,.bp 1 0 []),(100001,.bx (Tm.cw ⟨f,l⟩)),(2,.bp 2 0 []),(100002,⟨5,.row [.i 0,.lst []],1,0,[1]⟩),(3,.bp 3 0 []),(100003,⟨5,.row [.i f,.lst (((l.take (k+1)).map Tm.strip).map Tm.cv)],300029,0,[1]⟩),(300029,.tok 25 2),(4,.val (.i ((k+1:Nat):Int)))]) ⟨rfl,rfl,rfl,rfl,rfl,?_,rfl,rfl,trivial⟩) (v9 300029 200029 rfl rfl rfl rfl)⟩
  rw [List.take_add_one,ht,List.map_append,List.map_append]
  simp only [Option.toList_some,List.map_cons,List.map_nil,Tm.cv_eq]
  rfl
 ·have hkl:k=l.length:=by
   simp only [List.length_map,decide_eq_false_iff_not] at hc
   omega
  subst hkl
  rw [List.take_length]
  refine aS (aR ?_)
  refine nc zE (nc zy ?_)
  exact aT (And.intro (.inr rfl) rfl)
theorem V9 (l:List Tm) (k:Nat):((l.take k).flatMap Tm.flat).length≤(l.flatMap Tm.flat).length:=by
 conv=>rhs;rw [←List.take_append_drop k l,List.flatMap_append,List.length_append]
 omega
set_option maxHeartbeats 1000000 in
theorem L1 (W:World):∀ (t:Tm),t.ok→t.size≤90000000000→AFun Tryz.prog W 76 [t.cw] (.val (.lst (t.flat.map Tm.cv))):=by
 intro t
 induction t using Tm.ind with
 | h f l ih =>
 intro hok hts
 obtain ⟨hl,hok⟩:=(Tm.ok_iff _).1 hok
 simp only at hl hok
 have hsz:=Tm.size_all l
 refine a8 (rs:=[.lst ((Tm.flat ⟨f,l⟩).map Tm.cv)]) Tryz.func76 Tryz.ntmps76 rfl rfl rfl rfl ?_
 intro w U hW
 refine aS (aR ?_)
 refine nc zb (nc zd ?_)
 refine aS (aR ?_)
 refine nc zE (nc zR (nc zd ?_))
 refine aS (aS (aR ?_))
 refine nc zd ?_
 have e0:look [(3,AV.own (.lst [Tm.cw ⟨f,l⟩]) 300006)] 3=some (.own (.lst ([Tm.mk f l].map Tm.cv)) 300006):=by
  simp only [List.map_cons,List.map_nil,Tm.cv_eq]
  rfl
 by_cases hf:f<0
 ·have hg:decide (f≥0)=false:=by simpa using hf
  rw [show Tm.flat ⟨f,l⟩=[⟨f,l⟩] by rw [Tm.flat_eq,Tm.ps_of_var (t:=⟨f,l⟩) hf];rfl]
  refine aB (b9 0 (fun k=>[(1,.bp 1 0 []),(100001,.bx (Tm.cw ⟨f,l⟩)),(3,.val (.lst ([Tm.mk f l].map Tm.cv))),(4,.val (.i k))]) (Wk.trans (a7 (s':=[(1,.bp 1 0 []),(100001,.bx (Tm.cw ⟨f,l⟩)),(3,.own (.lst ([Tm.mk f l].map Tm.cv)) 300006),(4,.val (.i (0:Nat)))]) ⟨rfl,rfl,e0,rfl,trivial⟩) (b3C 3 rfl)) ?_)
  intro k hk
  refine aS (aS (aR ?_))
  refine nc ze (nc zg (nc zL (nc zj (nc zM (nc zM (nc zM (nc zM (nc zM (nc zN ?_)))))))))
  refine aC rfl (fun hc=>by cases hc) (fun hc=>aE ?_)
  refine aS (aR ?_)
  refine nc zj (nc zd ?_)
  exact aT (And.intro (.inr rfl) rfl)
 have hg:decide (f≥0)=true:=by simp only [decide_eq_true_eq];omega
 have hfl:Tm.flat ⟨f,l⟩=⟨f,l⟩::l.flatMap Tm.flat:=by rw [Tm.flat_eq,Tm.ps_of_sym (t:=⟨f,l⟩) (by show 0≤f;omega)]
 unfold Tm.size at hts
 rw [hfl] at hts ⊢
 rw [List.length_cons] at hts
 refine aB (b9 l.length (fun k=>[(1,.bp 1 0 []),(100001,.bx (Tm.cw ⟨f,l⟩)),(3,.own (.lst ((Tm.mk f l::(l.take k).flatMap Tm.flat).map Tm.cv)) 200026),(200026,.tok 25 2),(4,.val (.i k))])
  (Wk.trans (a7 (s':=[(1,.bp 1 0 []),(100001,.bx (Tm.cw ⟨f,l⟩)),(3,.own (.lst ([Tm.mk f l].map Tm.cv)) 300006),(300006,.tok 25 2),(4,.val (.i (0:Nat)))]) ⟨rfl,rfl,e0,rfl,rfl,trivial⟩) (v9 300006 200026 rfl rfl rfl rfl)) ?_)
 intro k hk
 refine aS (aS (aR ?_))
 refine nc ze (nc zg (nc zL (nc zj (nc (zj (p:=gc)) (nc (ze (r:=gc)) (nc (zg (r:=gc)) (nc (zp (r:=gc)) (nc (zh (r:=gc)) (nc zO ?_)))))))))
 refine aC rfl (fun hc=>aK ?_) (fun hc=>aE ?_)
 ·have hkl:k<l.length:=by
   simp only [List.length_map,decide_eq_true_eq] at hc
   omega
  clear hc
  obtain ⟨t,ht⟩:∃ t,l[k]?=some t:=⟨l[k],List.getElem?_eq_getElem hkl⟩
  have ht':=Tm.map_at ht
  have htm:=List.mem_of_getElem? ht
  have hb1:=V9 l k
  have hb2:=s7 Tm.flat htm
  have hb3:=V9 l (k+1)
  rw [List.take_add_one,ht,List.flatMap_append,List.length_append] at hb3
  simp only [Option.toList_some,List.flatMap_cons,List.flatMap_nil,List.append_nil] at hb3
  refine aS (aB (aR ?_))
  refine nc zj (nc ze (nc zg (nc zj (nc (zz (H:=by assumption) (hz:=by first | assumption | exact sZ rfl | exact Tm.size_all _ | exact Bd.size_all _ | exact b8 _ | exact bys_size _ | exact Lt.size_all _)) (nc zA (nc (zn (z:=(ih t htm (hok t htm) (by unfold Tm.size;omega)).up hW)) (nc zJ (nc zd ?_))))))))
  refine aR ?_
  refine nc zj (nc zu (nc zd ?_))
  refine ⟨hkl,Wk.trans (a7 (s':=[(1,.bp 1 0 []),(100001,.bx (Tm.cw ⟨f,l⟩)),(3,.own (.lst ((Tm.mk f l::(l.take (k+1)).flatMap Tm.flat).map Tm.cv)) 300026),(300026,.tok 25 2),(4,.val (.i ((k+1:Nat):Int)))]) ⟨rfl,rfl,?_,rfl,rfl,trivial⟩) (v9 300026 200026 rfl rfl rfl rfl)⟩
  rw [List.take_add_one,ht,List.flatMap_append,←List.cons_append,List.map_append]
  simp only [Option.toList_some,List.flatMap_cons,List.flatMap_nil,List.append_nil]
  rfl
 ·have hkl:k=l.length:=by
   simp only [List.length_map,decide_eq_false_iff_not] at hc
   omega
  subst hkl
  rw [List.take_length]
  refine aS (aR ?_)
  refine nc zj (nc zd ?_)
  exact aT (And.intro (.inr rfl) rfl)
theorem Tm.rng_flat {t:Tm} (h:t.rng):∀ s∈t.flat,-9223372036854775808≤s.f∧s.f≤9223372036854775807:=by
 induction t using Tm.indp with
 | h t ih =>
  intro s hs
  rw [Tm.flat_eq] at hs
  rcases List.mem_cons.1 hs with rfl | hs
  ·exact ((Tm.rng_iff _).1 h).1
  ·obtain ⟨u,hu,hs⟩:=List.mem_flatMap.1 hs
   exact ih u hu (((Tm.rng_iff _).1 h).2 u (Tm.ps_mem hu).1) s hs
theorem W8 {l:List Int} {k:Nat} {x n:Int} (h:l[k]?=some x):n∈l.take (k+1)↔n∈l.take k∨x=n:=by
 rw [List.take_add_one,h,List.mem_append]
 simp [eq_comm]
set_option maxHeartbeats 2000000 in
theorem a6J (W:World) (t:Tm) (hr:t.rng) (hok:t.ok) (hts:t.size≤90000000000):AFun Tryz.prog W 104 [t.cw] (.val (.lst ((B0 t.flat).map CV.i))):=by
 refine a8 (rs:=[.lst ((B0 t.flat).map CV.i)]) Tryz.func104 Tryz.ntmps104 rfl rfl rfl rfl ?_
 intro w U hW
 refine aS (aR ?_)
 refine nc zb (nc zd ?_)
 refine aS (aR ?_)
 refine nc zE (nc (zn (z:=L1 w t hok hts)) (nc zd ?_))
 have hrf:=Tm.rng_flat hr
 unfold Tm.size at hts
 obtain ⟨l,hl⟩:∃ l,l=t.flat:=⟨_,rfl⟩
 rw [←hl] at hrf hts ⊢
 have hsz:=Tm.size_all l
 refine aS (aR ?_)
 refine nc zd ?_
 refine aS (aS (aR ?_))
 refine nc zd ?_
 refine aB (b9 l.length (fun i=>[(3,.val (.lst (l.map Tm.cv))),(4,.own (.lst ((B0 (l.take i)).map CV.i)) 200049),(200049,.tok 3 1),(5,.val (.i i))])
  ((E4 4 200049 3 1 rfl rfl rfl rfl rfl rfl rfl).trans (a7 ⟨rfl,rfl,rfl,rfl,trivial⟩)) ?_)
 intro i hi
 refine aS (aS (aR ?_))
 refine nc zj (nc zj (nc zp (nc zh ?_)))
 refine aC rfl (fun hc=>aK ?_) (fun hc=>aE ?_)
 ·have hil:i<l.length:=by
   simp only [List.length_map,decide_eq_true_eq] at hc
   omega
  clear hc
  obtain ⟨s,hs⟩:∃ s,l[i]?=some s:=⟨l[i],List.getElem?_eq_getElem hil⟩
  have hs':=Tm.map_at hs
  have hsr:=hrf s (List.mem_of_getElem? hs)
  have htk:l.take (i+1)=l.take i++[s]:=by rw [List.take_add_one,hs];rfl
  have hvl:=a1j (l.take i)
  rw [List.length_take] at hvl
  refine aS (aB (aS (aS (aR ?_))))
  refine nc zj (nc zj (nc (zz (H:=by assumption) (hz:=by first | assumption | exact sZ rfl | exact Tm.size_all _ | exact Bd.size_all _ | exact b8 _ | exact bys_size _ | exact Lt.size_all _)) (nc zS (nc zA (nc zL ?_)))))
  refine aC rfl (fun hc=>aE ?_) (fun hc=>aK ?_)
  ·have hsf:¬ s.f<0:=by
    simp only [decide_eq_true_eq] at hc
    omega
   refine aR ?_
   refine nc zj (nc zu (nc zd ?_))
   refine ⟨hil,a7 ⟨rfl,?_,rfl,rfl,trivial⟩⟩
   rw [htk,O5]
   unfold a2f
   rw [if_neg hsf]
   rfl
  have hsf:s.f<0:=by
   simp only [decide_eq_false_iff_not] at hc
   omega
  clear hc
  refine aS (aR ?_)
  refine nc zj (nc zj (nc (zz (H:=by assumption) (hz:=by first | assumption | exact sZ rfl | exact Tm.size_all _ | exact Bd.size_all _ | exact b8 _ | exact bys_size _ | exact Lt.size_all _)) (nc zS (nc zA (nc zi (nc zd ?_))))))
  refine aS (aR ?_)
  refine nc zd ?_
  obtain ⟨n,hn⟩:∃ n,n = -1-s.f:=⟨_,rfl⟩
  obtain ⟨out,ho⟩:∃ out,out=B0 (l.take i):=⟨_,rfl⟩
  rw [←ho] at hvl ⊢
  have hoz:=b8 out
  refine aS (aS (aR ?_))
  refine nc zd ?_
  refine aB (b9 out.length (fun k=>[(3,.val (.lst (l.map Tm.cv))),(4,.own (.lst (out.map CV.i)) 200049),(200049,.tok 3 1),(5,.val (.i i)),(6,.val (.i n)),(7,.val (.b (decide (n∈out.take k)))),(8,.val (.i k))]) (a7 ⟨rfl,rfl,rfl,rfl,by rw [hn];rfl,rfl,rfl,trivial⟩) ?_)
  intro k hk
  refine aS (aS (aR ?_))
  refine nc zj (nc zj (nc zp (nc zh ?_)))
  refine aC rfl (fun hc=>aK ?_) (fun hc=>aE ?_)
  ·have hkl:k<out.length:=by
    simp only [List.length_map,decide_eq_true_eq] at hc
    omega
   clear hc
   obtain ⟨x,hx⟩:∃ x,out[k]?=some x:=⟨out[k],List.getElem?_eq_getElem hkl⟩
   have hx':=C3 hx
   by_cases hm:n∈out.take k
   ·have hg:decide (n∈out.take k)=true:=by simpa using hm
    refine aS (aB (aR ?_))
    refine nc zj (nc zj (nc zM (nc zM (nc zM (nc zM (nc zM (nc zM (nc zO (nc zd ?_)))))))))
    refine aR ?_
    refine nc zj (nc zu (nc zd ?_))
    refine ⟨hkl,a7 ⟨rfl,rfl,rfl,rfl,rfl,?_,rfl,trivial⟩⟩
    have:decide (n∈out.take (k+1))=true:=by rw [decide_eq_true_eq,W8 hx];exact .inl hm
    rw [this]
    rfl
   ·have hg:decide (n∈out.take k)=false:=by simpa using hm
    refine aS (aB (aR ?_))
    refine nc zj (nc zj (nc (zj (p:=gc)) (nc (zj (p:=gc)) (nc (zz (r:=gc) (H:=by assumption) (hz:=by first | assumption | exact sZ rfl | exact Tm.size_all _ | exact Bd.size_all _ | exact b8 _ | exact bys_size _ | exact Lt.size_all _)) (nc (zA (r:=gc)) (nc (zj (p:=gc)) (nc (zC (r:=gc)) (nc zN (nc zd ?_)))))))))
    refine aR ?_
    refine nc zj (nc zu (nc zd ?_))
    refine ⟨hkl,a7 ⟨rfl,rfl,rfl,rfl,rfl,?_,rfl,trivial⟩⟩
    have:decide (n∈out.take (k+1))=decide (x=n):=by rw [decide_eq_decide,W8 hx];simp [hm]
    rw [this]
    rfl
  ·have hkl:k=out.length:=by
    simp only [List.length_map,decide_eq_false_iff_not] at hc
    omega
   subst hkl
   rw [List.take_length]
   refine aS (aR ?_)
   refine nc zj (nc zt ?_)
   refine aC rfl (fun hc=>?_) (fun hc=>aK ?_)
   ·have hm:n∉out:=by simpa using hc
    refine aR ?_
    refine nc zj (nc zj (nc zI (nc zJ (nc zd ?_))))
    refine aR ?_
    refine nc zj (nc zu (nc zd ?_))
    refine ⟨hil,Wk.trans (a7 (s':=[(3,.val (.lst (l.map Tm.cv))),(4,.own (.lst ((B0 (l.take (i+1))).map CV.i)) 300049),(300049,.tok 3 1),(5,.val (.i ((i+1:Nat):Int)))]) ⟨rfl,?_,rfl,rfl,trivial⟩) (v9 300049 200049 rfl rfl rfl rfl)⟩
    have:B0 (l.take (i+1))=out++[n]:=by
     rw [htk,O5,←ho]
     unfold a2f
     rw [if_pos hsf,←hn,if_neg hm]
    rw [this,List.map_append]
    rfl
   ·have hm:n∈out:=by simpa using hc
    refine aR ?_
    refine nc zj (nc zu (nc zd ?_))
    refine ⟨hil,a7 ⟨rfl,?_,rfl,rfl,trivial⟩⟩
    have:B0 (l.take (i+1))=out:=by
     rw [htk,O5,←ho]
     unfold a2f
     rw [if_pos hsf,←hn,if_pos hm]
    rw [this]
    rfl
 ·have hil:i=l.length:=by
   simp only [List.length_map,decide_eq_false_iff_not] at hc
   omega
  subst hil
  rw [List.take_length]
  refine aS (aR ?_)
  refine nc zj (nc zd ?_)
  exact aT (And.intro (.inr rfl) rfl)
set_option maxHeartbeats 1000000 in
theorem a3Q (W:World):∀ (t:Tm),t.ok→AFun Tryz.prog W 9 [t.cw] (.val t.cw):=by
 intro t
 induction t using Tm.ind with
 | h f l ih =>
 intro hok
 obtain ⟨hl,hok⟩:=(Tm.ok_iff _).1 hok
 simp only at hl hok
 refine a8 (rs:=[Tm.cw ⟨f,l⟩]) Tryz.func9 Tryz.ntmps9 rfl rfl rfl rfl ?_
 intro w U hW
 refine aS (aR ?_)
 refine nc zb (nc zw ?_)
 refine aS (aR ?_)
 refine nc ze (nc zg (nc zx (nc zw (nc zy ?_))))
 refine aS (aS (aR ?_))
 refine nc zd ?_
 refine aB (b9 l.length (fun k=>[(1,.bp 1 0 []),(100001,.bx (Tm.cw ⟨f,l⟩)),(2,.bp 2 0 []),(100002,⟨5,.row [.i 0,.lst []],1,0,[1]⟩),(3,.bp 3 0 []),(100003,⟨5,.row [.i f,.lst ((l.take k).map Tm.cv)],200024,0,[1]⟩),(200024,.tok 37 2),(4,.val (.i k))])
  ((E4 100003 200024 37 2 rfl rfl rfl rfl rfl rfl rfl).trans (a7 ⟨rfl,rfl,rfl,rfl,rfl,rfl,rfl,rfl,trivial⟩)) ?_)
 intro k hk
 refine aS (aS (aR ?_))
 refine nc zj (nc ze (nc zg (nc zp (nc zh ?_))))
 refine aC rfl (fun hc=>?_) (fun hc=>?_)
 ·simp only [List.length_map,decide_eq_true_eq] at hc
  have hkl:k<l.length:=by omega
  obtain ⟨t,ht⟩:∃ t,l[k]?=some t:=⟨l[k],List.getElem?_eq_getElem hkl⟩
  refine aK ?_
  refine aS (aB (aD (by kernel_rfl) (by kernel_rfl) ?_))
  refine nc ze (nc zP (nc ze (nc zg (nc zj (nc (zz (j:=_) (H:=Tm.map_at ht) (hz:=Tm.size_all l)) (nc zA (nc (zn (z:=(ih t (List.mem_of_getElem? ht) (hok t (List.mem_of_getElem? ht))).up hW)) (nc zI (nc zJ (nc ze (nc zQ ?_)))))))))))
  refine ⟨by kernel_rfl,?_⟩
  refine aR ?_
  refine nc zj (nc zu (nc zd ?_))
  refine ⟨hkl,Wk.trans (a7 (s':=[(1,.bp 1 0 []),(100001,.bx (Tm.cw ⟨f,l⟩)),(2,.bp 2 0 []),(100002,⟨5,.row [.i 0,.lst []],1,0,[1]⟩),(3,.bp 3 0 []),(100003,⟨5,.row [.i f,.lst ((l.take (k+1)).map Tm.cv)],300024,0,[1]⟩),(300024,.tok 37 2),(4,.val (.i ((k+1:Nat):Int)))]) ⟨rfl,rfl,rfl,rfl,rfl,?_,rfl,rfl,trivial⟩) (v9 300024 200024 rfl rfl rfl rfl)⟩
  rw [List.take_add_one,ht,List.map_append]
  simp only [Option.toList_some,List.map_cons,List.map_nil,Tm.cv_eq]
  rfl
 ·refine aE ?_
  have hkl:k=l.length:=by
   simp only [List.length_map,decide_eq_false_iff_not] at hc
   omega
  subst hkl
  rw [List.take_length]
  refine aS (aR ?_)
  refine nc zE (nc zy ?_)
  exact aT ⟨.inr rfl,rfl⟩
set_option maxHeartbeats 1000000 in
theorem b5Y (W:World) (l:List Bd) (hl:l.length≤1000000) (hok:∀ b∈l,b.t.ok):AFun Tryz.prog W 13 [.lst (l.map Bd.cv)] (.val (.lst (l.map Bd.cv))):=by
 have hsz:=Bd.size_all l
 refine a8 (rs:=[.lst (l.map Bd.cv)]) Tryz.func13 Tryz.ntmps13 rfl rfl rfl rfl ?_
 intro w U hW
 refine aS (aR ?_)
 refine nc zd ?_
 refine aS (aR ?_)
 refine nc zd ?_
 refine aS (aS (aR ?_))
 refine nc zd ?_
 refine aB (b9 l.length (fun k=>[(0,.val (.lst (l.map Bd.cv))),(3,.own (.lst ((l.take k).map Bd.cv)) 200025),(200025,.tok 85 3),(4,.val (.i k))])
  ((E4 3 200025 85 3 rfl rfl rfl rfl rfl rfl rfl).trans (a7 ⟨rfl,rfl,rfl,rfl,trivial⟩)) ?_)
 intro k hk
 refine aS (aS (aR ?_))
 refine nc zj (nc zj (nc zp (nc zh ?_)))
 refine aC rfl (fun hc=>aK ?_) (fun hc=>aE ?_)
 ·have hkl:k<l.length:=by
   simp only [List.length_map,decide_eq_true_eq] at hc
   omega
  clear hc
  obtain ⟨b,hb⟩:∃ b,l[k]?=some b:=⟨l[k],List.getElem?_eq_getElem hkl⟩
  have hb':=Bd.map_at hb
  refine aS (aB (aD (by kernel_rfl) (by kernel_rfl) ?_))
  refine nc zj (nc zj (nc zj (nc (zz (H:=by assumption) (hz:=by first | assumption | exact sZ rfl | exact Tm.size_all _ | exact Bd.size_all _ | exact b8 _ | exact bys_size _ | exact Lt.size_all _)) (nc zS (nc zA (nc zj (nc zj (nc (zz (H:=by assumption) (hz:=by first | assumption | exact sZ rfl | exact Tm.size_all _ | exact Bd.size_all _ | exact b8 _ | exact bys_size _ | exact Lt.size_all _)) (nc zS (nc zA (nc (zn (z:=a3Q w b.t (hok b (List.mem_of_getElem? hb)))) (nc zx (nc zI (nc zJ (nc zd ?_)))))))))))))))
  refine ⟨by kernel_rfl,?_⟩
  refine aR ?_
  refine nc zj (nc zu (nc zd ?_))
  refine ⟨hkl,Wk.trans (a7 (s':=[(0,.val (.lst (l.map Bd.cv))),(3,.own (.lst ((l.take (k+1)).map Bd.cv)) 300025),(300025,.tok 85 3),(4,.val (.i ((k+1:Nat):Int)))]) ⟨rfl,?_,rfl,rfl,trivial⟩) (v9 300025 200025 rfl rfl rfl rfl)⟩
  rw [List.take_add_one,hb,List.map_append]
  rfl
 ·have hkl:k=l.length:=by
   simp only [List.length_map,decide_eq_false_iff_not] at hc
   omega
  subst hkl
  rw [List.take_length]
  refine aS (aR ?_)
  refine nc zj (nc zd ?_)
  exact aT (And.intro (.inr rfl) rfl)
def Q4 (b:Bd):Bool:=decide (0≤b.v)&&(decide (b.v≤1000)&&decide (0≤f0 b.t 20 10))
def N4 (l:List Bd):Bool:=l.all Q4&&decide (l.length≤8)
theorem a3k {l:List Bd} {b:Bd} (hb:b∈l) (h:Q4 b=false):N4 l=false:=by
 unfold N4
 have:l.all Q4=false:=by
  rw [List.all_eq_false]
  exact ⟨b,hb,by simp [h]⟩
 rw [this];rfl
set_option maxHeartbeats 2000000 in
theorem b1f (W:World) (l:List Bd) (hl:l.length≤9223372036854775807) (hr:∀ b∈l,b.t.rng):AFun Tryz.prog W 7 [.lst (l.map Bd.cv)] (.val (.b (N4 l))):=by
 have hsz:=Bd.size_all l
 refine a8 (rs:=[.b (N4 l)]) Tryz.func7 Tryz.ntmps7 rfl rfl rfl rfl ?_
 intro w U hW
 refine aS (aR ?_)
 refine nc zd ?_
 refine aS (aS (aR ?_))
 refine nc zd ?_
 refine aB (p6 l.length (fun k=>∀ b∈l.take k,Q4 b=true) (fun k=>[(0,.val (.lst (l.map Bd.cv))),(3,.val (.i k))]) (a7 ⟨rfl,rfl,trivial⟩) (by simp) ?_)
 intro k hk hI
 refine aS (aS (aR ?_))
 refine nc zj (nc zj (nc zp (nc zh ?_)))
 refine aC rfl (fun hc=>aK ?_) (fun hc=>aE ?_)
 ·have hkl:k<l.length:=by
   simp only [List.length_map,decide_eq_true_eq] at hc
   omega
  clear hc
  obtain ⟨b,hb⟩:∃ b,l[k]?=some b:=⟨l[k],List.getElem?_eq_getElem hkl⟩
  have hb':=Bd.map_at hb
  have hbm:=List.mem_of_getElem? hb
  have htk:l.take (k+1)=l.take k++[b]:=by rw [List.take_add_one,hb];rfl
  by_cases h1:b.v<0
  ·have g1:decide (b.v<0)=true:=by simpa using h1
   refine aS (aB (aS (aR ?_)))
   refine nc zj (nc zj (nc (zz (H:=by assumption) (hz:=by first | assumption | exact sZ rfl | exact Tm.size_all _ | exact Bd.size_all _ | exact b8 _ | exact bys_size _ | exact Lt.size_all _)) (nc zS (nc zA (nc zh (nc zj (nc zM (nc zM (nc zM (nc zM (nc zM (nc zM (nc zO (nc zj (nc zM (nc zM (nc zM (nc zM (nc zM (nc zM (nc zM (nc zO ?_))))))))))))))))))))))
   refine aC rfl (fun hc=>?_) (fun hc=>by cases hc)
   rw [a3k hbm (by unfold Q4;simp;omega)]
   refine aS (aR ?_)
   refine nc zd ?_
   exact aT (And.intro (.inr rfl) rfl)
  have g1:decide (b.v<0)=false:=by simpa using h1
  by_cases h2:b.v>1000
  ·have g2:decide (b.v>1000)=true:=by simpa using h2
   refine aS (aB (aS (aR ?_)))
   refine nc zj (nc zj (nc (zz (H:=by assumption) (hz:=by first | assumption | exact sZ rfl | exact Tm.size_all _ | exact Bd.size_all _ | exact b8 _ | exact bys_size _ | exact Lt.size_all _)) (nc zS (nc zA (nc zh (nc zj (nc (zj (p:=gc)) (nc (zj (p:=gc)) (nc (zz (r:=gc) (H:=by assumption) (hz:=by first | assumption | exact sZ rfl | exact Tm.size_all _ | exact Bd.size_all _ | exact b8 _ | exact bys_size _ | exact Lt.size_all _)) (nc (zS (r:=gc)) (nc (zA (r:=gc)) (nc (zT (r:=gc)) (nc zN (nc zj (nc zM (nc zM (nc zM (nc zM (nc zM (nc zM (nc zM (nc zO ?_))))))))))))))))))))))
   refine aC rfl (fun hc=>?_) (fun hc=>by cases hc)
   rw [a3k hbm (by unfold Q4;simp;omega)]
   refine aS (aR ?_)
   refine nc zd ?_
   exact aT (And.intro (.inr rfl) rfl)
  have g2:decide (b.v>1000)=false:=by simpa using h2
  refine aS (aB (aS (aR ?_)))
  refine nc zj (nc zj (nc (zz (H:=by assumption) (hz:=by first | assumption | exact sZ rfl | exact Tm.size_all _ | exact Bd.size_all _ | exact b8 _ | exact bys_size _ | exact Lt.size_all _)) (nc zS (nc zA (nc zh (nc zj (nc (zj (p:=gc)) (nc (zj (p:=gc)) (nc (zz (r:=gc) (H:=by assumption) (hz:=by first | assumption | exact sZ rfl | exact Tm.size_all _ | exact Bd.size_all _ | exact b8 _ | exact bys_size _ | exact Lt.size_all _)) (nc (zS (r:=gc)) (nc (zA (r:=gc)) (nc (zT (r:=gc)) (nc zN (nc zj (nc (zj (p:=gc)) (nc (zj (p:=gc)) (nc (zz (r:=gc) (H:=by assumption) (hz:=by first | assumption | exact sZ rfl | exact Tm.size_all _ | exact Bd.size_all _ | exact b8 _ | exact bys_size _ | exact Lt.size_all _)) (nc (zS (r:=gc)) (nc (zA (r:=gc)) (nc (zn (p:=gc) (z:=M9 w b.t 20 10 (hr b hbm) (by decide) (by decide) (by decide) (by decide))) (nc (zh (r:=gc)) (nc zN ?_))))))))))))))))))))))
  refine aC rfl (fun hc=>?_) (fun hc=>aK ?_)
  ·have h3:f0 b.t 20 10<0:=by simpa using hc
   rw [a3k hbm (by unfold Q4;simp;omega)]
   refine aS (aR ?_)
   refine nc zd ?_
   exact aT (And.intro (.inr rfl) rfl)
  have h3:¬ f0 b.t 20 10<0:=by simpa using hc
  refine aR ?_
  refine nc zj (nc zu (nc zd ?_))
  refine ⟨hkl,fun x hx=>?_,a7 ⟨rfl,rfl,trivial⟩⟩
  rw [htk] at hx
  rcases List.mem_append.1 hx with hx | hx
  ·exact hI x hx
  ·rw [List.mem_singleton.1 hx]
   unfold Q4
   simp
   omega
 ·have hkl:k=l.length:=by
   simp only [List.length_map,decide_eq_false_iff_not] at hc
   omega
  subst hkl
  rw [List.take_length] at hI
  have e:N4 l=decide (l.length≤8):=by
   unfold N4
   rw [List.all_eq_true.2 hI];rfl
  rw [e]
  refine aS (aR ?_)
  refine nc zj (nc zp (nc zF (nc zd ?_)))
  refine aT (And.intro (.inr rfl) ?_)
  have e2:decide (((l.map Bd.cv).length:Int)≤8)=decide (l.length≤8):=by
   rw [List.length_map,decide_eq_decide];omega
  exact congrArg (fun x=>some [CV.b x]) e2
end Go.Proofs.YtekboofbedakcaaGreat
namespace Go.Proofs.YtekboofbedakcaaGreat
set_option linter.unusedVariables false
set_option linter.unusedSimpArgs false
theorem a4n {f g:Int→Tm} {t:Tm} (h:∀ v∈t.vs,f v=g v):o5 f t=o5 g t:=by
 induction t using Tm.indp with
 | h t ih =>
  by_cases hf:t.f<0
  ·rw [Tm.vs_var hf] at h
   rw [p8 hf,p8 hf,h _ (by simp)]
  ·rw [Tm.vs_sym hf] at h
   rw [Tm.ps_of_sym (by omega)] at ih
   rw [k8 hf,k8 hf]
   congr 1
   exact List.map_congr_left fun s hs=>ih s hs fun v hv=>h v (List.mem_flatMap.2 ⟨s,hs,hv⟩)
theorem a4O (img:Int→Tm) (t:Tm):o5 img t.strip=o5 img t:=by
 induction t using Tm.indp with
 | h t ih =>
  by_cases hf:t.f<0
  ·rw [p8 hf,p8 (by rw [Tm.strip_f];exact hf),Tm.strip_f]
  ·rw [Tm.ps_of_sym (by omega)] at ih
   rw [k8 hf,k8 (by rw [Tm.strip_f];exact hf),Tm.strip_f,Tm.strip_l,Tm.ps_of_sym (by omega),List.map_map]
   congr 1
   exact List.map_congr_left fun s hs=>ih s hs
theorem a7o (img:Int→Tm) (t:Tm):(o5 img t).strip=o5 img t:=by
 induction t using Tm.indp with
 | h t ih =>
  by_cases hf:t.f<0
  ·rw [p8 hf,Tm.strip_strip]
  ·rw [Tm.ps_of_sym (by omega)] at ih
   rw [k8 hf,Tm.strip_eq,Tm.ps_of_sym (t:=⟨t.f,_⟩) (by show 0≤t.f;omega)]
   simp only [List.map_map]
   congr 1
   exact List.map_congr_left fun s hs=>ih s hs
theorem b1S (l:List Int):(nub l).Nodup:=by
 induction l using a3m with
 | h0=>exact List.nodup_nil
 | h1 l x ih =>
  rw [a3s]
  split
  ·exact ih
  ·rename_i hx
   rw [List.nodup_append]
   refine ⟨ih,by simp,fun a ha b hb e=>?_⟩
   rw [List.mem_singleton] at hb
   exact hx (by rw [←hb,←e];exact ha)
def b2h:List Int→Int→Nat
 | [],_=>0
 | x::l,v=>if x=v then 0 else b2h l v+1
theorem b0d:∀ {l:List Int} {v:Int},v∈l→b2h l v<l.length
 | x::l,v,h=>by
  rw [b2h]
  split
  ·simp
  ·rename_i e
   have:=b0d (l:=l) (v:=v) ((List.mem_cons.1 h).resolve_left fun c=>e c.symm)
   simp;omega
def a6V (a b:List Int):List Bd:=List.zipWith (fun v u=>⟨v,K2 u⟩) a b
def a0P (n:Nat):List Int:=(List.range n).map fun i:Nat=>(i:Int)
theorem a5T {n i:Nat} (h:i<n):(a0P n)[i]?=some (i:Int):=by
 unfold a0P
 rw [List.getElem?_map,List.getElem?_range h];rfl
theorem S5 (n:Nat):(a0P n).length=n:=by simp [a0P]
theorem a9p:∀ {a b:List Int} {v:Int},a.length=b.length→v∈a→t9 (a6V a b) v=K2 (b.getD (b2h a v) 0)
 | x::a,y::b,v,hl,h=>by
  show ((b7 (⟨x,K2 y⟩::a6V a b) v).getD (K2 v))=_
  rw [b7,b2h]
  split
  ·rfl
  ·rename_i e
   have:=a9p (a:=a) (b:=b) (v:=v) (by simpa using hl) ((List.mem_cons.1 h).resolve_left fun c=>e c.symm)
   rw [List.getD_cons_succ]
   exact this
theorem b5P {l:List Int} {i:Nat} {v:Int} (h:l[i]?=some v):l.getD i 0=v:=by rw [List.getD_eq_getElem?_getD,h];rfl
def Tm.nv (t:Tm):List Int:=nub t.vs
theorem a9G (t:Tm):B0 t.flat=t.nv:=b1U _
end Go.Proofs.YtekboofbedakcaaGreat
