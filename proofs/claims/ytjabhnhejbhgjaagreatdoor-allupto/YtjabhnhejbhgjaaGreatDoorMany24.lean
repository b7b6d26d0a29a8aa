import Derived.Test.YtjabhnhejbhgjaaGreatDoorMany22
import Derived.Test.YtjabhnhejbhgjaaGreatDoorMany21
import Derived.Test.YtjabhnhejbhgjaaGreatDoorMany23
import Derived.Test.YtjabhnhejbhgjaaGreatDoorMany20
import Derived.Test.YtjabhnhejbhgjaaGreatDoorMany8
import Derived.BigQuiet
set_option maxRecDepth 100000
set_option maxHeartbeats 8000000
namespace Go.Proofs.YtjabhnhejbhgjaaGreatDoor
open Go.RowKit
theorem Cfg.b{K N S:Nat}(h:Cfg K N S):cfgB (K:Int) (N:Int) (S:Int)=true:=by
 obtain⟨k1,k8,kn,n16,s1,s8⟩:=h;simp only[cfgB,Bool.and_eq_true,winB_iff];omega
theorem set_getD{α:Type}(l:List α)(i:Nat)(d:α):l.set i (l.getD i d)=l:=by
 refine List.ext_getElem? (fun j=>?_);rw[List.getElem?_set];split
 ·rename_i e;subst e
  split
  ·rename_i h;simp[List.getD,h]
  ·rename_i h;rw[List.getElem?_eq_none (by omega)]
 ·rfl
theorem Snd.setD_self(s:Snd)(i q:Nat):s.setD i q (dat (oat s.os i).ds q)=s:=by
 have h:(oat s.os i).setD q (dat (oat s.os i).ds q)=oat s.os i:=by
  unfold Ob.setD dat;rw[set_getD]
 unfold Snd.setD;rw[h];unfold oat;rw[set_getD]
theorem RPGives.packet{K N S:Nat}{l:List Gf.F}{w w':World}{e:Ending}(h:RPGives K N S l w e w')(hp:parseE K N S l=none):
 ∃(x3 x4 M c6 n5 c5:Nat) (a5 a6:Option Addr),e=.returned (.tuple #[.agg #[.int .i64 (bt l 0:Int),.int .i64 (bt l 1:Int),.int .i64 (lenOf l:Int),.int .i64 x3,.int .i64 x4,.slice a5 n5 c5,.slice a6 M c6],.agg #[.int .i64 0,.int .i64 (-1)]])/\
  (¬ bt l 0=1->M=bt (l.drop 4) 0/\w'.ownsRow w.heap.size 122 2 (.slice a6 M c6) M (lackCells (l.drop 4) M))/\Below w.heap.size w w':=by
 obtain⟨h1,hb⟩:=h;rw[hp]at h1;by_cases hk:bt l 0=1
 ·simp only[if_pos hk]at h1
  obtain⟨a,c1,he,_⟩:=h1;exact⟨_,_,0,0,_,_,a,none,he,fun h=>absurd hk h,hb⟩
 ·simp only[if_neg hk]at h1
  obtain⟨a,c1,he,ho⟩:=h1;exact⟨0,0,_,c1,0,0,none,a,he,fun _=>⟨rfl,ho⟩,hb⟩
def RHearGives(s:Snd)(r:Rsn)(l:List Gf.F)(c B rb:Nat)(w:World)(e:Ending)(w':World):Prop:=
 match parseE s.K s.N s.S l with
 | some (ec,k)=>e=.returned (.agg #[.int .i64 ec,.int .i64 k])/\Below w.heap.size w w'
 | none=>
  if s.os.length<=bt l 1 then e=.returned (.agg #[.int .i64 6,.int .i64 1])/\Below w.heap.size w w'
  else if lenOf l≠(oat s.os (bt l 1)).l.length then e=.returned (.agg #[.int .i64 6,.int .i64 2])/\Below w.heap.size w w'
  else if bt l 0=1 then e=.returned (.agg #[.int .i64 5,.int .i64 0])/\Below w.heap.size w w'
  else e=.returned (.agg #[.int .i64 0,.int .i64 (-1)])/\∃ r',RAt w' B rb r'/\Sim (s.askN (bt l 1) (l.drop 4) (bt (l.drop 4) 0)) r' c/\But (r.foot rb) w w'/\∀ b,r'.foot rb b↔r.foot rb b
theorem Sim.ask{s:Snd}{r:Rsn}{c i M:Nat}{m:List Gf.F}(ok:s.Ok)(hi:i<s.os.length)(hv:∀ k,k<M->bt m (1+2*k)<s.Q i/\bt m (1+2*k+1)<=8){k:Nat}(hk:k<M)(h:Sim (s.askN i m k) r c):
 (dat (oat r.os i).ds (bt m (1+2*k))).1<=8/\bt m (1+2*k)<(oat r.os i).ds.length/\i<r.os.length/\(bt m (1+2*k+1)<=(dat (oat r.os i).ds (bt m (1+2*k))).1->Sim (s.askN i m (k+1)) r c)/\
  ((dat (oat r.os i).ds (bt m (1+2*k))).1<bt m (1+2*k+1)->Sim (s.askN i m (k+1)) (r.setD i (bt m (1+2*k)) (bt m (1+2*k+1),(dat (oat r.os i).ds (bt m (1+2*k))).2)) c):=by
 obtain⟨hok,hQ⟩:=Snd.askN_ok ok hi hv k (by omega);have hi':i<(s.askN i m k).os.length:=by rw[askN_len];exact hi
 have hq:bt m (1+2*k)<(s.askN i m k).Q i:=by rw[hQ];exact(hv k hk).1
 obtain⟨h1,h2,h3⟩:=h.d i _ hi' hq;have h8:=(hok.debt i _ hi' hq).1;refine⟨by omega,by rw[h.dl i hi'];exact hq,by rw[h.len];exact hi',fun hle=>?_,fun hlt=>?_⟩
 ·have e:s.askN i m (k+1)=s.askN i m k:=by
   have h5:max (dat (oat (s.askN i m k).os i).ds (bt m (1+2*k))).1 (bt m (1+2*k+1))=(dat (oat (s.askN i m k).os i).ds (bt m (1+2*k))).1:=by omega
   show(s.askN i m k).setD i _ (max _ _,_)=_;rw[h5];exact Snd.setD_self _ _ _
  rw[e];exact h
 ·have h5:max (dat (oat (s.askN i m k).os i).ds (bt m (1+2*k))).1 (bt m (1+2*k+1))=bt m (1+2*k+1):=by omega
  show Sim ((s.askN i m k).setD i _ (max _ _,_)) _ c;rw[h5];exact h.setD hok hi' hq rfl h2 h3 (Nat.le_refl _)
theorem rhear_any{B rb b o n c cc:Nat}{a:Option Addr}{l:List Gf.F}{s:Snd}{r:Rsn}{w:World}(h:RAt w B rb r)(ok:s.Ok)(sim:Sim s r cc)(hl:l.length=n)(hn:n<=c)(hn2:n<=140737488355328)(ha:0<n->a=some ⟨b,o,none⟩)(hB:Bs w b o l)(hb:0<n->b<w.heap.size):
 Calls Tryz.prog 120 #[.pointer (some ⟨rb,0,none⟩),.slice a n c] w (RHearGives s r l cc B rb w):=by
 have hE0:=heap_alloc_new w (.cells #[.int .i64 0,.int .i64 0] 139);have hb0:Below w.heap.size w (w.alloc (.cells #[.int .i64 0,.int .i64 0] 139)):=(Below.refl _ _).alloc (Nat.le_refl _) _;have hr0:=h.above hb0;obtain⟨c0,c1,c2,_,_,_⟩:=hr0.cells;rw[sim.K]at c0;rw[sim.N]at c1;rw[sim.S]at c2;have hP:=rparse_ok a b o n c s.K s.N s.S l (w.alloc (.cells #[.int .i64 0,.int .i64 0] 139)) ok.cfg ok.cfg.b hl hn hn2 ha (fun i hi=>by rw[hb0.cell (lt_of_cell (hB i hi))];exact hB i hi) (fun h0=>by have:=hb h0;simp;omega);obtain⟨E,hEe⟩:∃ x,x=w.heap.size:=⟨_,rfl⟩;rw[<- hEe]at hE0;go_enter Tryz.func120,Tryz.ntmps120;go_upto_region 1 with fail;generalize w.alloc (.cells #[.int .i64 0,.int .i64 0] 139)=W0 at *;rw[<- hEe];have HEE:Hid (E=w.heap.size):=hEe;clear hEe;go_wp2_with fail;refine hP.mono ?_;intro e w1 hG
 cases hpe:parseE s.K s.N s.S l with
 | some ep=>
  obtain⟨ec,ek⟩:=ep;obtain⟨h1,hb1⟩:=hG;rw[hpe]at h1;obtain rfl:=h1;obtain⟨ei,_,hec⟩:=parseE_code hpe;have he0:¬(ec:Int)=0:=by omega
  clear hec;clear hP c0 c1 c2;go_upto_region 2 with fail;have hb2:Below w1.heap.size w1 ((w1.alloc (.cells #[.int .i64 0,.int .i64 0,.int .i64 0,.int .i64 0,.int .i64 0,.slice none 0 0,.slice none 0 0] 60)).alloc (.cells #[.int .i64 ec,.int .i64 ek] 139)):=((Below.refl _ _).alloc (Nat.le_refl _) _).alloc (by simp) _;have hX2:=heap_alloc_new (w1.alloc (.cells #[.int .i64 0,.int .i64 0,.int .i64 0,.int .i64 0,.int .i64 0,.slice none 0 0,.slice none 0 0] 60)) (.cells #[.int .i64 ec,.int .i64 ek] 139);have esz:(w1.alloc (.cells #[.int .i64 0,.int .i64 0,.int .i64 0,.int .i64 0,.int .i64 0,.slice none 0 0,.slice none 0 0] 60)).heap.size=w1.heap.size+1:=by simp
  rw[esz]at hX2;generalize (w1.alloc (.cells #[.int .i64 0,.int .i64 0,.int .i64 0,.int .i64 0,.int .i64 0,.slice none 0 0,.slice none 0 0] 60)).alloc (.cells #[.int .i64 ec,.int .i64 ek] 139)=W2 at *;clear esz;have hE2:=(hb2.block E (Nat.lt_of_lt_of_le (lt_of_block hE0) hb1.size)).trans ((hb1.block E (lt_of_block hE0)).trans hE0);have hbw2:Below w.heap.size w W2:=(hb0.trans (hb1.mono hb0.size)).trans (hb2.mono (Nat.le_trans hb0.size hb1.size));obtain⟨v0,v1,_,_⟩:=twoE hX2;obtain⟨y0,y1,f0,f1⟩:=twoE hE2;obtain⟨p1,p2⟩:=putE W2 E _ _ (.int .i64 ec) (.int .i64 ek) _ hE2;obtain⟨q0,q1,_,_⟩:=twoE p1;have hfin:Below w.heap.size w _:=hbw2.trans (p2.toBelow hbw2.size (fun k hk q=>by have:=HEE.out;omega));clear hX2 hE2;go_wp2_with fail;refine bodyPost_ret (v:=.agg #[.int .i64 ec,.int .i64 ek]) (by simp[results,Tryz.results120,go_sem,q0,q1]) rfl ?_;unfold RHearGives;rw[hpe];exact⟨rfl,hfin⟩
 | none=>
  obtain⟨hkd,hle,hob⟩:=parse_head hpe;obtain⟨x3,x4,M,c6,n5,c5,a5,a6,rfl,hask,hb1⟩:=hG.packet hpe;clear hP c0 c1 c2 hG;go_upto_region 2 with fail;have hb2:Below w1.heap.size w1 ((w1.alloc (.cells #[.int .i64 (bt l 0:Int),.int .i64 (bt l 1:Int),.int .i64 (lenOf l:Int),.int .i64 x3,.int .i64 x4,.slice a5 n5 c5,.slice a6 M c6] 60)).alloc (.cells #[.int .i64 0,.int .i64 (-1)] 139)):=((Below.refl _ _).alloc (Nat.le_refl _) _).alloc (by simp) _;have hP2:((w1.alloc (.cells #[.int .i64 (bt l 0:Int),.int .i64 (bt l 1:Int),.int .i64 (lenOf l:Int),.int .i64 x3,.int .i64 x4,.slice a5 n5 c5,.slice a6 M c6] 60)).alloc (.cells #[.int .i64 0,.int .i64 (-1)] 139)).heap[w1.heap.size]?=some (.cells #[.int .i64 (bt l 0:Int),.int .i64 (bt l 1:Int),.int .i64 (lenOf l:Int),.int .i64 x3,.int .i64 x4,.slice a5 n5 c5,.slice a6 M c6] 60 (0,0)):=(Below.heap_alloc _ _ _ (by simp)).trans (heap_alloc_new w1 _);have hX2:=heap_alloc_new (w1.alloc (.cells #[.int .i64 (bt l 0:Int),.int .i64 (bt l 1:Int),.int .i64 (lenOf l:Int),.int .i64 x3,.int .i64 x4,.slice a5 n5 c5,.slice a6 M c6] 60)) (.cells #[.int .i64 0,.int .i64 (-1)] 139);have esz:(w1.alloc (.cells #[.int .i64 (bt l 0:Int),.int .i64 (bt l 1:Int),.int .i64 (lenOf l:Int),.int .i64 x3,.int .i64 x4,.slice a5 n5 c5,.slice a6 M c6] 60)).heap.size=w1.heap.size+1:=by simp
  rw[esz]at hX2;generalize (w1.alloc (.cells #[.int .i64 (bt l 0:Int),.int .i64 (bt l 1:Int),.int .i64 (lenOf l:Int),.int .i64 x3,.int .i64 x4,.slice a5 n5 c5,.slice a6 M c6] 60)).alloc (.cells #[.int .i64 0,.int .i64 (-1)] 139)=W2 at *;clear esz;have hE2:=(hb2.block E (Nat.lt_of_lt_of_le (lt_of_block hE0) hb1.size)).trans ((hb1.block E (lt_of_block hE0)).trans hE0);have hbw1:Below w.heap.size w w1:=hb0.trans (hb1.mono hb0.size);have hbw2:Below w.heap.size w W2:=hbw1.trans (hb2.mono hbw1.size);have hask2:Hid (¬ bt l 0=1->M=bt (l.drop 4) 0/\W2.ownsRow w.heap.size 122 2 (.slice a6 M c6) M (lackCells (l.drop 4) M)):=fun hk=>⟨(hask hk).1,own_base2 (own_of_block (hask hk).2 (fun x hx=>hb2.block _ ((hask hk).2.lt x hx).2)) hb0.size⟩
  have hpbn:w.heap.size<=w1.heap.size:=hbw1.size;have h2:=h.above hbw2;obtain⟨v0,v1,_,_⟩:=twoE hX2;clear hask hX2;obtain⟨eb,heb⟩:∃ x,x=w1.heap.size+1:=⟨_,rfl⟩;rw[<- heb]at v0 v1 ⊢;obtain⟨pb,hpb⟩:∃ x,x=w1.heap.size:=⟨_,rfl⟩;rw[<- hpb]at hP2 hpbn ⊢;clear heb hpb hb2 hb1 hb0 hbw1 hr0 hE0
  have HG:Hid (∀(e:Ending) (w':World),RHearGives s r l cc B rb w e w'=(if s.os.length<=bt l 1 then e=.returned (.agg #[.int .i64 6,.int .i64 1])/\Below w.heap.size w w'
   else if lenOf l≠(oat s.os (bt l 1)).l.length then e=.returned (.agg #[.int .i64 6,.int .i64 2])/\Below w.heap.size w w'
   else if bt l 0=1 then e=.returned (.agg #[.int .i64 5,.int .i64 0])/\Below w.heap.size w w'
   else e=.returned (.agg #[.int .i64 0,.int .i64 (-1)])/\∃ r',RAt w' B rb r'/\Sim (s.askN (bt l 1) (l.drop 4) (bt (l.drop 4) 0)) r' cc/\But (r.foot rb) w w'/\∀ b,r'.foot rb b↔r.foot rb b)):=fun e w'=>by
   unfold RHearGives;rw[hpe]
  have HASK:Hid (¬ bt l 0=1->lenOf l=(oat s.os (bt l 1)).l.length->∀ k,k<bt (l.drop 4) 0->bt (l.drop 4) (1+2*k)<s.Q (bt l 1)/\bt (l.drop 4) (1+2*k+1)<=8):=fun h3 h4=>Snd.asksQ ok hpe h4 h3
  have HPUT:Hid (∀(W3:World) (z0 z1:Int),Below W2.heap.size W2 W3->(W3.cell? ⟨E,0,none⟩=some (.int .i64 0)/\W3.cell? ⟨E,1,none⟩=some (.int .i64 0)/\W3.frozen? ⟨E,0,none⟩=false/\W3.frozen? ⟨E,1,none⟩=false)/\((W3.setCell ⟨E,0,none⟩ (.int .i64 z0)).setCell ⟨E,1,none⟩ (.int .i64 z1)).cell? ⟨E,0,none⟩=some (.int .i64 z0)/\((W3.setCell ⟨E,0,none⟩ (.int .i64 z0)).setCell ⟨E,1,none⟩ (.int .i64 z1)).cell? ⟨E,1,none⟩=some (.int .i64 z1)/\Below w.heap.size w ((W3.setCell ⟨E,0,none⟩ (.int .i64 z0)).setCell ⟨E,1,none⟩ (.int .i64 z1))):=fun W3 z0 z1 hb3=>by
   have hE3:=(hb3.block E (lt_of_block hE2)).trans hE2;obtain⟨p1,p2⟩:=putE W3 E _ _ (.int .i64 z0) (.int .i64 z1) _ hE3;have hbw3:Below w.heap.size w W3:=hbw2.trans (hb3.mono hbw2.size);exact⟨twoE hE3,(twoE p1).1,(twoE p1).2.1,hbw3.trans (p2.toBelow hbw3.size (fun k hk q=>by have:=HEE.out;omega))⟩
  obtain⟨va,vc,hvo,_⟩:=own_form2 h2.own;have hlenE:=sim.len;obtain⟨_,_,_,c3,_,_⟩:=h2.cells;rw[hvo,hlenE]at c3;have hfew:=ok.few;obtain⟨kd,hkde⟩:∃ x,x=bt l 0:=⟨_,rfl⟩;obtain⟨ob,hobe⟩:∃ x,x=bt l 1:=⟨_,rfl⟩;obtain⟨ln,hlne⟩:∃ x,x=lenOf l:=⟨_,rfl⟩;rw[<- hkde,<- hobe,<- hlne]at hP2;rw[<- hkde]at hkd hask2 HG HASK ⊢;rw[<- hobe]at hob HG HASK ⊢;rw[<- hlne]at hle HG HASK ⊢;obtain⟨y0,y1,y2,_,_,_,y6⟩:=pk7 hP2;clear hkde hobe hlne hpe;by_cases hA:s.os.length<=ob
  ·have hA1:(s.os.length:Int)<=(ob:Int):=by omega
   go_upto_region 4 with fail
   go_quiet (fail)
   obtain⟨W3,hW3⟩:∃ x,x=W2.drewN nq:=⟨_,rfl⟩;rw[<- hW3];have hb23:Below W2.heap.size W2 W3:=below_drew hW3;obtain⟨⟨e0,e1,f0,f1⟩,q0,q1,hfin⟩:=HPUT.out W3 6 1 hb23;clear hW3;go_wp2_with fail;refine bodyPost_ret (v:=.agg #[.int .i64 6,.int .i64 1]) (by simp[results,Tryz.results120,go_sem,q0,q1]) rfl ?_;rw[HG.out,if_pos hA];exact⟨rfl,hfin⟩
  ·have hA1:¬(s.os.length:Int)<=(ob:Int):=by omega
   have hobl:ob<s.os.length:=by omega
   have hobr:ob<r.os.length:=by omega
   go_upto_region 4 with fail
   go_quiet (fail)
   go_upto_region 6 with fail;obtain⟨W3,hW3⟩:∃ x,x=W2.drewN nq:=⟨_,rfl⟩;rw[<- hW3];have hb23:Below W2.heap.size W2 W3:=below_drew hW3;clear hW3 y0 y1 y2 y6 c3;have h3:=h2.above hb23;have hP3:=(hb23.block _ (lt_of_block hP2)).trans hP2;obtain⟨y0,y1,y2,_,_,_,y6⟩:=pk7 hP3;obtain⟨g,cp,hv,hcp,hl2⟩:=h3.list (by omega);have t0:=hl2 ob hobr;unfold Ob.bv at t0;rw[sim.l ob hobl]at t0;obtain⟨_,_,_,c3,_,_⟩:=h3.cells;rw[hv,hlenE]at c3;have hol2:=ok.len ob hobl;obtain⟨ol,hol⟩:∃ x,x=(oat s.os ob).l.length:=⟨_,rfl⟩;rw[<- hol]at t0 hol2;have HOL:Hid (ol=(oat s.os ob).l.length):=hol;generalize (oat r.os ob).a=oa at t0;generalize (oat r.os ob).c=oc at t0;clear hol hl2 hv;have hlt1:(0:Int)<=(ob:Int):=by omega
   have hlt2:(ob:Int)<(s.os.length:Int):=by omega
   by_cases hL:ln=ol
   ·have hL1:(ln:Int)=(ol:Int):=by omega
    go_quiet (fail)
    go_upto_region 8 with fail;obtain⟨W4,hW4⟩:∃ x,x=W3.drewN nq:=⟨_,rfl⟩;rw[<- hW4];have hb34:Below W3.heap.size W3 W4:=below_drew hW4;have hb24:Below W2.heap.size W2 W4:=hb23.trans (hb34.mono hb23.size);clear hW4 y0 y1 y2 y6 c3 t0;have hP4:=(hb24.block _ (lt_of_block hP2)).trans hP2;obtain⟨y0,y1,y2,_,_,_,y6⟩:=pk7 hP4;rcases hkd with hkd|hkd
    ·have hk2:¬(kd:Int)=2:=by omega
     obtain⟨⟨e0,e1,f0,f1⟩,q0,q1,hfin⟩:=HPUT.out W4 5 0 hb24;go_wp2_with fail;refine bodyPost_ret (v:=.agg #[.int .i64 5,.int .i64 0]) (by simp[results,Tryz.results120,go_sem,q0,q1]) rfl ?_;rw[HG.out,if_neg (by omega),if_neg (by rw[<- HOL.out];omega),if_pos hkd];exact⟨rfl,hfin⟩
    ·have hk2:(kd:Int)=2:=by omega
     obtain⟨hM,hrow⟩:=hask2.out (by omega);have hrow4:W4.ownsRow w.heap.size 122 2 (.slice a6 M c6) M (lackCells (l.drop 4) M):=own_of_block hrow (fun x hx=>hb24.block _ (hrow.lt x hx).2);have hM2:M<256:=by rw[hM];exact bt_lt _ _
     have HVA:Hid (∀ k,k<M->bt (l.drop 4) (1+2*k)<s.Q ob/\bt (l.drop 4) (1+2*k+1)<=8):=fun k hk=>HASK.out (by omega) (by rw[hL];exact HOL.out) k (by rw[<- hM];exact hk)
     have HM:Hid (M=bt (l.drop 4) 0):=hM;have HOK:Hid s.Ok:=ok;have h4:=h2.above hb24;have hE4:=(hb24.block _ (lt_of_block hE2)).trans hE2;have hbw4:Below w.heap.size w W4:=hbw2.trans (hb24.mono hbw2.size);have HPN:Hid (w.heap.size<=pb/\E=w.heap.size):=⟨hpbn,HEE.out⟩;generalize l.drop 4=m at *;have HR0:Hid (RAt w B rb r):=h;clear hM hask2 hrow HASK h3 hP3 hb34 hb23 h2 hvo;go_upto_region 11 with fail
     go_loopw[7,8] (fun t _ wr=>∃ k:Nat,k<=M/\t=.int .i64 k/\∃ r',RAt wr B rb r'/\Sim (s.askN ob m k) r' cc/\But (r.foot rb) w wr/\Hid (∀ b,r'.foot rb b↔r.foot rb b)/\Hid (wr.heap[pb]?=some (.cells #[.int .i64 kd,.int .i64 ob,.int .i64 ln,.int .i64 x3,.int .i64 x4,.slice a5 n5 c5,.slice a6 M c6] 60 (0,0)))/\Hid (wr.ownsRow w.heap.size 122 2 (.slice a6 M c6) M (lackCells m M))/\Hid (wr.heap[E]?=some (.cells #[.int .i64 0,.int .i64 0] 139 (0,0)))) (fun t _ _=>M - (intOf t).toNat)
     case atStart=>exact⟨0,by omega,rfl,r,h4,sim,Below.but hbw4 (r.foot rb) (fun k hk q=>absurd hk q),fun b=>Iff.rfl,hP4,hrow4,hE4⟩
     case round=>
      obtain⟨k,hkM,rfl,r',hRA,hSi,hBu,hft,hPr,hRr,hEr⟩:=hrel;clear y0 y1 y2 y6;by_cases hlt:k<M
      ·have hlt1:(k:Int)<(M:Int):=by omega
       have hlt0:(0:Int)<=(k:Int):=by omega
       obtain⟨ho8,hqd,hir,hSle,hSlt⟩:=Sim.ask HOK.out hobl HVA.out hlt hSi;have hrl:r'.os.length=s.os.length:=by rw[hSi.len,askN_len]
       obtain⟨gb,cb,hvb,_,hlb⟩:=hRA.listB (by omega);have t1:=hlb ob hir;unfold Ob.dv at t1;obtain⟨_,_,_,_,c4,_⟩:=hRA.cells;rw[hvb,hrl]at c4;obtain⟨e0,_⟩:=hRA.debt hir hqd;have fz:=hRA.frozenD hir (bt m (1+2*k)*2);obtain⟨ga,ca,hv6,_,_⟩:=hRr.out.form (by omega);simp only[Value.slice.injEq]at hv6;obtain⟨rfl,-,-⟩:=hv6;have eadd:∀ j,(⟨ga,0,none⟩:Addr).add j=⟨ga,j,none⟩:=fun j=>by unfold Addr.add;split<;>simp_all
       have x0:=hRr.out.cells (g:=ga) rfl (k*2) _ (lackCells_get m M k hlt).1;have x1:=hRr.out.cells (g:=ga) rfl (k*2+1) _ (lackCells_get m M k hlt).2;rw[eadd]at x0 x1;have hq256:=bt_lt m (1+2*k);have hy256:=bt_lt m (1+2*k+1);have hdgw:(oat r'.os ob).dg<w.heap.size:=(HR0.out.foot_lt ((hft.out _).1 (.inr (.inr (.inr ⟨ob,hir,.inl rfl⟩))))).2;have hdgf:r.foot rb (oat r'.os ob).dg:=(hft.out _).1 (.inr (.inr (.inr ⟨ob,hir,.inl rfl⟩)));have HSO:Hid (∀ W,RAt W B rb r'->RAt (W.setCell ⟨(oat r'.os ob).dg,bt m (1+2*k)*2,none⟩ (.int .i64 ((bt m (1+2*k+1):Nat):Int))) B rb (r'.setD ob (bt m (1+2*k)) (bt m (1+2*k+1),(dat (oat r'.os ob).ds (bt m (1+2*k))).2))/\But (fun b=>b=(oat r'.os ob).dg) W (W.setCell ⟨(oat r'.os ob).dg,bt m (1+2*k)*2,none⟩ (.int .i64 ((bt m (1+2*k+1):Nat):Int)))):=fun W hW=>hW.owed hir hqd _
       have HFT:Hid (∀ d b,(r'.setD ob (bt m (1+2*k)) d).foot rb b↔r.foot rb b):=fun d b=>(Rsn.foot_setD hir _ d rb b).trans (hft.out b)
       obtain⟨r2,hr2⟩:∃ x,x=r'.setD ob (bt m (1+2*k)) (bt m (1+2*k+1),(dat (oat r'.os ob).ds (bt m (1+2*k))).2):=⟨_,rfl⟩;have HFT2:Hid (∀ b,r2.foot rb b↔r.foot rb b):=by rw[hr2];exact HFT.out _
       rw[<- hr2]at HSO hSlt;clear hr2 HFT;have HSle:Hid _:=hSle;have HSlt:Hid _:=hSlt;clear hSle hSlt;have hdn:bt m (1+2*k)<(oat r'.os ob).ds.length:=hqd
       have hdl:(oat r'.os ob).ds.length<=100000:=by
        obtain⟨hok2,hQ2⟩:=Snd.askN_ok HOK.out hobl HVA.out k (by omega);have h7:=hSi.dl ob (by rw[askN_len];exact hobl);rw[hQ2]at h7;obtain⟨k1,k8,kn,n16,s1,s8⟩:=HOK.out.cfg;have h71:=partsN_le (a:=s.T ob) k1;have h81:=symN_range (S:=s.S) (len:=(oat s.os ob).l.length) s1;have h91:=HOK.out.len ob hobl;have h92:s.T ob=symN s.S (oat s.os ob).l.length:=rfl;have h93:s.Q ob=partsN (s.T ob) s.K:=rfl;omega
       obtain⟨dg,hdg⟩:∃ x,x=(oat r'.os ob).dg:=⟨_,rfl⟩;rw[<- hdg]at t1 e0 fz HSO hdgw hdgf;obtain⟨dn,hdne⟩:∃ x,x=(oat r'.os ob).ds.length:=⟨_,rfl⟩;rw[<- hdne]at t1 hdn hdl;obtain⟨od,hod⟩:∃ x,x=(dat (oat r'.os ob).ds (bt m (1+2*k))).1:=⟨_,rfl⟩;rw[<- hod]at e0 ho8 HSle HSlt;obtain⟨qb,hqb⟩:∃ x,x=bt m (1+2*k):=⟨_,rfl⟩;obtain⟨yb,hyb⟩:∃ x,x=bt m (1+2*k+1):=⟨_,rfl⟩;rw[<- hqb]at e0 x0 fz hdn HSO hq256;rw[<- hyb]at x1 hy256 HSO HSle HSlt;clear hdg hdne hod hqb hyb hqd eadd hlb hvb;have hlt3:(0:Int)<=(qb:Int):=by omega
       have hlt4:(qb:Int)<(dn:Int):=by omega
       have FIN:Hid (∀(W6 W7:World) (r9:Rsn),Below wr.heap.size wr W6->But (fun b=>b=dg) W6 W7->RAt W7 B rb r9->Sim (s.askN ob m (k+1)) r9 cc->(∀ b,r9.foot rb b↔r.foot rb b)->∃ r',RAt W7 B rb r'/\Sim (s.askN ob m (k+1)) r' cc/\But (r.foot rb) w W7/\Hid (∀ b,r'.foot rb b↔r.foot rb b)/\Hid (W7.heap[pb]?=some (.cells #[.int .i64 kd,.int .i64 ob,.int .i64 ln,.int .i64 x3,.int .i64 x4,.slice a5 n5 c5,.slice (some ⟨ga,0,none⟩) M c6] 60 (0,0)))/\Hid (W7.ownsRow w.heap.size 122 2 (.slice (some ⟨ga,0,none⟩) M c6) M (lackCells m M))/\Hid (W7.heap[E]?=some (.cells #[.int .i64 0,.int .i64 0] 139 (0,0)))):=fun W6 W7 r9 hb6 hB7 hR9 hS9 hf9=>by
        have hP6:=(hb6.block pb (lt_of_block hPr.out)).trans hPr.out;have hE6:=(hb6.block E (lt_of_block hEr.out)).trans hEr.out;have hR6:W6.ownsRow w.heap.size 122 2 (.slice (some ⟨ga,0,none⟩) M c6) M (lackCells m M):=own_of_block hRr.out (fun x hx=>hb6.block _ (hRr.out.lt x hx).2);have hBu6:=hBu.below hb6 (fun _ hi q=>absurd (Nat.lt_of_lt_of_le hi hBu.size) q);obtain⟨n1,n2⟩:=HPN.out;exact⟨r9,hR9,hS9,hBu6.trans (hB7.wide (fun x _ q=>by rw[q];exact hdgf)),hf9,(hB7.block pb (lt_of_block hP6) (by omega)).trans hP6,hB7.own hR6 (fun x hx q=>by have:=(hR6.lt x hx).1;omega),(hB7.block E (lt_of_block hE6) (by omega)).trans hE6⟩
       obtain⟨y0,y1,y2,_,_,_,y6⟩:=pk7 hPr.out;go_upto_region 13 with fail
       go_quiet (fail)
       go_upto_region 14 with fail;obtain⟨W5,hW5⟩:∃ x,x=wr.drewN nq:=⟨_,rfl⟩;rw[<- hW5];have hb5:Below wr.heap.size wr W5:=below_drew hW5;have y6':=y6;have x1':=x1;have e0':=e0;rw[<- hb5.cell (lt_of_cell y6)]at y6';rw[<- hb5.cell (lt_of_cell x1)]at x1';rw[<- hb5.cell (lt_of_cell e0)]at e0';clear hW5 y0 y1 y2 y6 x0 x1 e0 t1 c4;by_cases hmx:yb<=od
       ·have hm2:¬(od:Int)<(yb:Int):=by omega
        go_quiet (fail)
        obtain⟨W6,hW6⟩:∃ x,x=W5.drewN nq:=⟨_,rfl⟩;rw[<- hW6];have hb56:Below W5.heap.size W5 W6:=below_drew hW6;have hb6:Below wr.heap.size wr W6:=hb5.trans (hb56.mono hb5.size);clear hW6;go_wp2_with fail
        go_roundw
        case rel=>exact⟨k+1,by omega,by go_num,FIN.out W6 W6 r' hb6 (But.refl _ _) (hRA.above hb6) (HSle.out hmx) hft.out⟩
        case measure=>simp[intOf];omega
       ·have hm2:(od:Int)<(yb:Int):=by omega
        go_quiet (fail)
        obtain⟨W6,hW6⟩:∃ x,x=W5.drewN nq:=⟨_,rfl⟩;rw[<- hW6];have hb56:Below W5.heap.size W5 W6:=below_drew hW6;have hb6:Below wr.heap.size wr W6:=hb5.trans (hb56.mono hb5.size);have y6:=y6';have x1:=x1';have e0:=e0';rw[<- hb56.cell (lt_of_cell y6')]at y6;rw[<- hb56.cell (lt_of_cell x1')]at x1;rw[<- hb56.cell (lt_of_cell e0')]at e0;have fz6:W6.frozen? ⟨dg,qb*2,none⟩=false:=by rw[hb6.frozen (p:=⟨dg,qb*2,none⟩) (Nat.lt_of_lt_of_le hdgw hBu.size)];exact fz
        obtain⟨hS7,hB7⟩:=HSO.out W6 (hRA.above hb6);clear hW6 y6' x1' e0' fz;go_wp2_with fail
        go_roundw
        case rel=>exact⟨k+1,by omega,by go_num,FIN.out W6 _ r2 hb6 hB7 hS7 (HSlt.out (by omega)) HFT2.out⟩
        case measure=>simp[intOf];omega
      ·obtain rfl:k=M:=by omega
       have hlt1:¬(k:Int)<(k:Int):=by omega
       obtain⟨y0,y1,y2,_,_,_,y6⟩:=pk7 hPr.out;go_wp2_with fail;refine(none_err _).mono ?_;rintro e w9 ⟨rfl,hb9⟩;have hE9:=(hb9.block E (lt_of_block hEr.out)).trans hEr.out;obtain⟨e0,e1,f0,f1⟩:=twoE hE9;obtain⟨p1,p2⟩:=putE w9 E _ _ (.int .i64 0) (.int .i64 (-1)) _ hE9;obtain⟨q0,q1,_,_⟩:=twoE p1;have hR9:=hRA.above hb9;have hBu9:=hBu.below hb9 (fun _ hi q=>absurd (Nat.lt_of_lt_of_le hi hBu.size) q);clear y0 y1 y2 y6;go_wp2_with fail;refine bodyPost_ret (v:=.agg #[.int .i64 0,.int .i64 (-1)]) (by simp[results,Tryz.results120,go_sem,q0,q1]) rfl ?_;rw[HG.out,if_neg (by omega),if_neg (by rw[<- HOL.out];omega),if_neg (by omega)];refine⟨rfl,r',hR9.kept (fun b hb'=>p2.block b (hR9.foot_lt hb').2 (hR9.ne hE9 b hb')),?_,hBu9.then p2 (fun i hi q=>by have:=HPN.out.2;omega),hft.out⟩;rw[<- HM.out];exact hSi
   ·have hL1:¬(ln:Int)=(ol:Int):=by omega
    go_quiet (fail)
    obtain⟨W4,hW4⟩:∃ x,x=W3.drewN nq:=⟨_,rfl⟩;rw[<- hW4];have hb34:Below W3.heap.size W3 W4:=below_drew hW4;have hb24:Below W2.heap.size W2 W4:=hb23.trans (hb34.mono hb23.size);clear hW4 y0 y1 y2 y6 c3 t0;obtain⟨⟨e0,e1,f0,f1⟩,q0,q1,hfin⟩:=HPUT.out W4 6 2 hb24;go_wp2_with fail;refine bodyPost_ret (v:=.agg #[.int .i64 6,.int .i64 2]) (by simp[results,Tryz.results120,go_sem,q0,q1]) rfl ?_;rw[HG.out,if_neg (by omega),if_pos (by rw[<- HOL.out];exact hL)];exact⟨rfl,hfin⟩
theorem told_says{A:Nat->Addr}{B:Nat}{w:World}{v:Value}{z:Int×Int}(hE:Errs A B w)(h:VSays A w v z):
 Calls Tryz.prog 56 #[v] w fun e w'=>e=.returned (.agg #[.int .i64 z.1,.int .i64 z.2])/\Below w.heap.size w w':=by
 rcases h with⟨rfl,rfl⟩|⟨i,hi,rfl,rfl⟩|⟨i,pb,hi,h1,rfl,h2⟩
 ·exact told_nil w
 ·exact told_err A B i hi w hE
 ·rw[h1]
  exact told_bad A B i hi pb z.2 w hE h2
theorem RHearGives.one{s:Snd}{r:Rsn}{l:List Gf.F}{c B rb:Nat}{w w':World}{e:Ending}(h:RHearGives s r l c B rb w e w')(hR:RAt w B rb r)(sim:Sim s r c):
 e=.returned (.agg #[.int .i64 (hearZ s l).1,.int .i64 (hearZ s l).2])/\∃ r',RAt w' B rb r'/\Sim (hearS s l) r' c/\But (r.foot rb) w w'/\∀ b,r'.foot rb b↔r.foot rb b:=by
 unfold RHearGives at h;unfold hearZ hearS;have hbb:∀ {w':World},Below w.heap.size w w'->But (r.foot rb) w w':=fun hb=>Below.but hb _ (fun i hi q=>absurd hi q)
 cases hp:parseE s.K s.N s.S l with
 | some ep=>
  obtain⟨c',k⟩:=ep;rw[hp]at h;obtain⟨rfl,hb⟩:=h;exact⟨rfl,r,hR.above hb,sim,hbb hb,fun b=>Iff.rfl⟩
 | none=>
  rw[hp]at h;simp only at h ⊢;by_cases h1:s.os.length<=bt l 1
  ·rw[if_pos h1]at h ⊢
   rw[if_pos h1];obtain⟨rfl,hb⟩:=h;exact⟨rfl,r,hR.above hb,sim,hbb hb,fun b=>Iff.rfl⟩
  ·rw[if_neg h1]at h ⊢
   rw[if_neg h1];by_cases h2:lenOf l≠(oat s.os (bt l 1)).l.length
   ·rw[if_pos h2]at h ⊢
    rw[if_pos h2];obtain⟨rfl,hb⟩:=h;exact⟨rfl,r,hR.above hb,sim,hbb hb,fun b=>Iff.rfl⟩
   ·rw[if_neg h2]at h ⊢
    rw[if_neg h2];by_cases h3:bt l 0=1
    ·rw[if_pos h3]at h ⊢
     rw[if_pos h3];obtain⟨rfl,hb⟩:=h;exact⟨rfl,r,hR.above hb,sim,hbb hb,fun b=>Iff.rfl⟩
    ·rw[if_neg h3]at h ⊢
     rw[if_neg h3];obtain⟨rfl,r',h4,h5,h6,h7⟩:=h;exact⟨rfl,r',h4,h5,h6,h7⟩
def PhB(A:Nat->Addr)(B0:Nat)(R:Rst)(own0:Nat->Nat)(W0:World)(hb:Nat)(hs:HS)(es:List Ent)(ps:List Pr)(W:World):Prop:=∃ own,WJ A B0 R own W hb hs es ps/\Fr own0 W0 own W
def PhG(A:Nat->Addr)(B0:Nat)(R:Rst)(own0:Nat->Nat)(W0:World)(hb:Nat)(hs:HS)(es:List Ent)(ps:List Pr)(G:Nat)(v1:Value)(W:World):Prop:=∃ own,WJ A B0 R own W hb {hs with in_:=v1} es ps/\Fr own0 W0 own W/\∀ b,(b=G∨v1.ownBlock=some b)->own b=0/\b<W.heap.size
section
variable {A:Nat->Addr}{B0:Nat}{R:Rst}{own0:Nat->Nat}{W0 W W':World}{hb:Nat}{hs:HS}{es:List Ent}{ps:List Pr}
theorem PhB.above(h:PhB A B0 R own0 W0 hb hs es ps W)(hbe:Below W.heap.size W W'):PhB A B0 R own0 W0 hb hs es ps W':=by
 obtain⟨own,hJ,hF⟩:=h;exact⟨_,hJ.above 0 hbe,hF.trans (Fr.above 0 hbe)⟩
theorem PhB.block(h:PhB A B0 R own0 W0 hb hs es ps W){g:Nat}(hg:g<W0.heap.size)(h1:own0 g=1):W.heap[g]?=W0.heap[g]?:=by
 obtain⟨own,_,hF⟩:=h;exact(hF.keep g hg h1).2
theorem PhG.b{G:Nat}{v1:Value}(h:PhG A B0 R own0 W0 hb hs es ps G v1 W):PhB A B0 R own0 W0 hb {hs with in_:=v1} es ps W:=by
 obtain⟨own,hJ,hF,_⟩:=h;exact⟨own,hJ,hF⟩
structure LowH(hs:HS)(es:List Ent)(G:Nat):Prop where
 sv:∀ b,hs.sv.ownBlock=some b->b<G
 out:∀ b,hs.out.ownBlock=some b->b<G
 marks:∀ b,hs.marks.ownBlock=some b->b<G
 each:∀ e ∈ es,∀ b,e.v.ownBlock=some b->b<G
theorem WJ.lowH{own:Nat->Nat}(h:WJ A B0 R own W hb hs es ps):LowH hs es W.heap.size:=
 ⟨fun b hg=>(h.sown.lt b hg).2,fun b hg=>(h.outs.own.lt b hg).2,fun b hg=>(h.outs.marks.lt b hg).2,fun _ he _ hg=>h.ltE he hg⟩
theorem WJ.stepB{own:Nat->Nat}{hs':HS}{S:Nat->Prop}{G:Nat}(h:WJ A B0 R own W hb hs es ps)(hbu:But S W W')(hS:∀ b,b<W.heap.size->S b->own b=0)(hH:HAt W' hb hs')(hv:hs'.sv=hs.sv)(hx:hs'.rv=hs.rv/\hs'.objs=hs.objs/\hs'.bmarks=hs.bmarks)(ho:hs'.out=hs.out)(hm:hs'.marks=hs.marks)(hn:∀ b,S b->b=hb∨G<=b)(hl:LowH hs es G):
 WJ A B0 R (ownN own W.heap.size 0) W' hb hs' es ps:=by
 have hne:∀ {B n sz:Nat} {e:TypeId} {v:Value} {xs:List Value},W.ownsRow B e sz v n xs->e≠81->(∀ b,v.ownBlock=some b->b<G)->∀ g,v.ownBlock=some g->¬ S g:=fun hown e1 hlt g hg q=>by
  rcases hn g q with q|q
  ·exact own_ne hown hg h.hands e1 q
  ·have:=hlt g hg;omega
 refine h.stepH hbu hS hH ?_ hv hx (hne h.sown (by decide) hl.sv) (fun b hg=>?_) (fun b hg=>?_) (fun e he b hg=>?_)
 ·rw[ho,hm]
  exact h.outs.but hbu (hne h.outs.own (by decide) hl.out) (hne h.outs.marks (by decide) hl.marks) (fun e he g hg q=>by
   rcases hn g q with q|q
   ·exact(h.outs.each e he).1.ne_hands h.hands g hg q
   ·have:=hl.each e he g hg;omega)
 ·rw[ho]at hg
  rw[ownN_old (h.outs.own.lt b hg).2];exact h.oO b hg
 ·rw[hm]at hg
  rw[ownN_old (h.outs.marks.lt b hg).2];exact h.oM b hg
 ·rw[ownN_old (h.ltE he hg)];exact h.oE e he b hg
theorem OpB.raw{a:Option Addr}{b o n c:Nat}{l:List Gf.F}{own:Nat->Nat}{w:World}(h:OpB own w a b o n c l):RawIn w ⟨.slice a n c,l⟩:=by
 refine⟨a,c,by show Value.slice a n c=.slice a l.length c;rw[h.len],fun h0=>⟨b,o,h.adr (by have:=h.len;have:0<l.length:=h0;omega),h.bs⟩⟩
theorem wbytes{a:Option Addr}{b o n c:Nat}{l:List Gf.F}(h0:PhB A B0 R own0 W0 hb hs es ps W)(hin:hs.in_=.slice none 0 0)(hO:OpB own0 W0 a b o n c l):
 Calls Tryz.prog 81 #[.pointer (some ⟨hb,2,none⟩),.slice a n c] W fun e W'=>
  ∃ G v1,e=.returned (.slice (some ⟨G,0,none⟩) n (n+2))/\PhG A B0 R own0 W0 hb hs es ps G v1 W'/\Lent W' G v1 [⟨.slice a n c,l⟩] [G] 1/\W0.heap.size<=G/\LowH hs es G:=by
 obtain⟨own,hJ,hF⟩:=h0;have hOW:=hO.fr hF;refine(bytes_any hb W.heap.size n 0 hs ⟨.slice a n c,l⟩ [] W hO.len (by have:=hO.few;omega) (by omega) hJ.hands (by rw[hin];exact World.ownsRow_nil ..) (Nat.le_refl _) hOW.raw).mono ?_;rintro e w1 ⟨v1,rfl,hG1,hH1,hO1,hv1,hb1⟩
 have hbut:But (fun b=>b=hb) W w1:=hb1.wide (fun k _ q=>by
  rw[hin]at q;rcases q with q|q
  ·exact q
  ·simp[Value.ownBlock]at q)
 have hJ1:=hJ.stepB (hs':={hs with in_:=v1}) (G:=W.heap.size) hbut (fun b _ q=>by rw[q];exact hJ.oH) hH1 rfl ⟨rfl,rfl,rfl⟩ rfl rfl (fun b q=>.inl q) hJ.lowH;refine⟨W.heap.size,v1,rfl,⟨_,hJ1,hF.trans (Fr.but hbut (fun b _ q=>by rw[q,hJ.oH];omega)),?_⟩,⟨rfl,?_,?_,?_,?_⟩,hF.size,hJ.lowH⟩
 ·intro b q
  rcases q with rfl|q
  ·exact⟨ownN_new (Nat.le_refl _),hG1.lt⟩
  ·exact⟨ownN_new (hO1.lt b q).1,(hO1.lt b q).2⟩
 ·have e:lentCells [⟨.slice a n c,l⟩] [W.heap.size] 1=[.slice (some ⟨W.heap.size,0,none⟩) (n+2) (n+2),.slice a n c]:=by
   simp[lentCells,gat,wat,hO.len]
  rw[e];exact hO1
 ·intro i hi
  obtain rfl:i=0:=by omega
  exact Nat.le_refl _
 ·intro i hi
  obtain rfl:i=0:=by omega
  exact hG1
 ·intro i j hi hj _
  omega
theorem HS.nilIn(hs:HS)(v1:Value)(h:hs.Nil):({({hs with in_:=v1}:HS)with in_:=.slice none 0 0,rows:=.slice none 0 0,ints:=.slice none 0 0,iwant:=.slice none 0 0}:HS)=hs:=by
 have h1:=h.in0;have h2:=h.rows0;have h3:=h.ints0;have h4:=h.want0;cases hs
 simp_all
theorem wback{a:Option Addr}{b o n c G:Nat}{l:List Gf.F}{v1:Value}(lv:Value)(h0:PhG A B0 R own0 W0 hb hs es ps G v1 W)(hnil:hs.Nil)(hO:OpB own0 W0 a b o n c l)(hL:Lent W G v1 [⟨.slice a n c,l⟩] [G] 1)(hG:W0.heap.size<=G)(hlow:LowH hs es G)(hbl:hb<W0.heap.size):
 Calls Tryz.prog 82 #[.pointer (some ⟨hb,2,none⟩),lv] W fun e W'=>e=.returned (.bool true)/\PhB A B0 R own0 W0 hb hs es ps W'/\But (fun b=>b=hb∨b=G) W W':=by
 obtain⟨own,hJ,hF,hX⟩:=h0;have hOW:=hO.fr hF;refine(back0_any lv hb G (G+1) 1 0 0 0 0 0 0 0 0 0 0 rfl none none {hs with in_:=v1} [⟨.slice a n c,l⟩] [G] [] W (by omega) (by omega) hJ.hands hL ?_ ?_ ?_ ?_).mono ?_
 ·intro i hi
  obtain rfl:i=0:=by omega
  exact Nat.lt_succ_self _
 ·intro i hi
  obtain rfl:i=0:=by omega
  refine⟨hOW.raw,?_,?_⟩
  ·show l.length<=_
   have:=hO.few;have:=hO.len;omega
  ·intro h0 g hg
   have h0':0<n:=by have:=hO.len;have:0<l.length:=h0;omega
   have h1:=hO.adr h0';have h2:=(hO.free h0').1;have hg':(Value.slice a n c).ownBlock=some g:=hg;rw[h1]at hg';have hq:b=g:=by simpa [Value.ownBlock] using hg'
   omega
 ·exact⟨by omega,by show World.ownsRow _ _ _ _ hs.rows _ _;rw[hnil.rows0];exact World.ownsRow_nil ..,fun h=>absurd h (by omega)⟩
 ·exact⟨by omega,by show World.ownsRow _ _ _ _ hs.ints _ _;rw[hnil.ints0];exact World.ownsRow_nil ..,by show World.ownsRow _ _ _ _ hs.iwant _ _;rw[hnil.want0];exact World.ownsRow_nil ..,fun h=>absurd h (by omega)⟩
 ·rintro e w3 ⟨rfl,hH3,hb3⟩
  have hH3':HAt w3 hb hs:=by rw[<- hs.nilIn v1 hnil];exact hH3
  have hb3':But (fun b=>b=hb∨b=G) W w3:=hb3.wide (fun k _ q=>by
   rcases q with q|q
   ·exact .inl q
   ·exact .inr (by omega))
  have h00:∀ b,b<W.heap.size->(b=hb∨b=G)->own b=0:=fun b _ q=>by
   rcases q with q|q
   ·rw[q];exact hJ.oH
   ·rw[q];exact(hX G (.inl rfl)).1
  have hJ3:=hJ.stepB (hs':=hs) (G:=G) hb3' h00 hH3' rfl ⟨rfl,rfl,rfl⟩ rfl rfl (fun b q=>by
   rcases q with q|q
   ·exact .inl q
   ·exact .inr (by omega)) ⟨hlow.sv,hlow.out,hlow.marks,hlow.each⟩
  exact⟨rfl,⟨_,hJ3,hF.trans (Fr.but hb3' (fun b hb' q=>by rw[h00 b hb' q];omega))⟩,hb3'⟩
theorem PhG.stepS{G i:Nat}{v1:Value}{rs:List Raw}{s':Snd}(h:PhG A B0 R own0 W0 hb hs es ps G v1 W)(hL:Lent W G v1 rs [G] 1)(hi:i<ps.length)(hbu:But ((pat ps i).s.foot (pat ps i).sb) W W')(hS:SAt W' (hb+1) (pat ps i).sb s')(ok:s'.Ok)(hf:∀ b,s'.foot (pat ps i).sb b->(pat ps i).s.foot (pat ps i).sb b∨W.heap.size<=b):
 PhG A B0 R own0 W0 hb hs es (ps.set i {pat ps i with s:=s'}) G v1 W'/\Lent W' G v1 rs [G] 1:=by
 obtain⟨own,hJ,hF,hX⟩:=h
 have hX2:∀ b,(b=G∨v1.ownBlock=some b)->¬(pat ps i).s.foot (pat ps i).sb b:=fun b q p=>by
  have h1:=(hX b q).1;have h2:=hJ.oS i b hi p;omega
 refine⟨⟨_,hJ.stepS (k:=4*i+2) hi hbu hS ok (fun b q=>?_),hF.trans (Fr.but hbu (fun b _ q=>by rw[hJ.oS i b hi q];omega)),fun b q=>⟨by rw[ownN_old (hX b q).2];exact(hX b q).1,Nat.lt_of_lt_of_le (hX b q).2 hbu.size⟩⟩,hL.kept hbu (fun g hg=>hX2 g (.inr hg)) (fun j hj=>?_)⟩
 ·rcases hf b q with q|q
  ·rw[ownN_old (hJ.ltS hi q)];exact hJ.oS i b hi q
  ·exact ownN_new q
 ·obtain rfl:j=0:=by omega
  exact hX2 G (.inl rfl)
theorem PhB.stepR{i:Nat}{r':Rsn}(h:PhB A B0 R own0 W0 hb hs es ps W)(hi:i<ps.length)(hbu:But ((pat ps i).r.foot (pat ps i).rb) W W')(hS:RAt W' (hb+1) (pat ps i).rb r')(hf:∀ b,r'.foot (pat ps i).rb b->(pat ps i).r.foot (pat ps i).rb b∨W.heap.size<=b):
 PhB A B0 R own0 W0 hb hs es (ps.set i {pat ps i with r:=r'}) W':=by
 obtain⟨own,hJ,hF⟩:=h;refine⟨_,hJ.stepR (k:=4*i+3) hi hbu hS (fun b q=>?_),hF.trans (Fr.but hbu (fun b _ q=>by rw[hJ.oR i b hi q];omega))⟩;rcases hf b q with q|q
 ·rw[ownN_old (hJ.ltR hi q)];exact hJ.oR i b hi q
 ·exact ownN_new q
end
theorem RAt.neB{w:World}{B rb E:Nat}{r:Rsn}{cs:Array Value}(h:RAt w B rb r)(hE:w.heap[E]?=some (.cells cs 168 (0,0))):¬ r.foot rb E:=by
 intro hb;rcases hb with q|q|q|⟨i,hi,q|q⟩
 ·have hk:=h.blk
  rw[<- q,hE]at hk;simp only[Option.some.injEq,Obj.cells.injEq]at hk;exact absurd hk.2.1 (by decide)
 ·exact own_ne h.own q hE (by decide) rfl
 ·exact own_ne h.ownB q hE (by decide) rfl
 ·have hk:=(h.debts i hi).2
  rw[<- q,hE]at hk;simp only[Option.some.injEq,Obj.cells.injEq]at hk;exact absurd hk.2.1 (by decide)
 ·exact own_ne (h.bytes i hi) q hE (by decide) rfl
theorem marked_bs9{w:World}{g:Nat}{l:List Gf.F}(h:Blk w g (marked l)):Bs w g 0 l:=by
 have:=h.bsN l.length
 rwa [marked_take]at this
theorem ne_typ{w:World}{g k:Nat}{cs cs':Array Value}{t t':TypeId}{f f':Nat×Nat}(h:w.heap[g]?=some (.cells cs t f))(h':w.heap[k]?=some (.cells cs' t' f'))(hne:t≠t'):¬ g=k:=by
 intro q;rw[q,h']at h;simp only[Option.some.injEq,Obj.cells.injEq]at h;exact hne h.2.1.symm
section
variable {A:Nat->Addr}{B0:Nat}{R:Rst}{own0:Nat->Nat}{W0 W W':World}{hb t i:Nat}{hs:HS}{es:List Ent}{ps:List Pr}{a:Option Addr}{b o n c:Nat}{l:List Gf.F}
theorem PhB.errs(h:PhB A B0 R own0 W0 hb hs es ps W):Errs A B0 W:=by
 obtain⟨own,hJ,_⟩:=h;exact hJ.errs
theorem whear{G:Nat}{v1:Value}(h:PhG A B0 R own0 W0 hb hs es ps G v1 W)(hi:i<ps.length)(hO:OpB own0 W0 a b o n c l)(hL:Lent W G v1 [⟨.slice a n c,l⟩] [G] 1):
 Calls Tryz.prog 16 #[.pointer (some ⟨(pat ps i).sb,0,none⟩),.slice (some ⟨G,0,none⟩) n (n+2)] W fun e W'=>
  ∃ v,e=.returned v/\VSays A W' v (hearZ (pat ps i).s l)/\PhG A B0 R own0 W0 hb hs es (ps.set i {pat ps i with s:=hearS (pat ps i).s l}) G v1 W'/\Lent W' G v1 [⟨.slice a n c,l⟩] [G] 1:=by
 have h':=h;obtain⟨own,hJ,hF,hX⟩:=h';have hG:Blk W G (marked l):=hL.blk 0 (by omega);have hlt:=hJ.hands.lt;have htl:=hJ.typLow;have hfew:=hO.few;refine(hear_any (hJ.snd i hi).1 (hJ.snd i hi).2 hJ.errs hJ.typ (by omega) hO.len (by omega) (by omega) (by omega) (fun _=>rfl) (marked_bs9 hG) (fun _=>hG.lt)).mono ?_;intro e W' hG';obtain⟨v,rfl,hv,hS,hok,hbu,hft⟩:=hG'.one (hJ.snd i hi).1 (hJ.snd i hi).2;obtain⟨h1,h2⟩:=h.stepS hL hi hbu hS hok (fun b q=>.inl ((hft b).1 q));exact⟨v,rfl,hv,h1,h2⟩
theorem wrhear{v:Value}{z:Int×Int}(h:PhB A B0 R own0 W0 hb hs es (ps.set i {pat ps i with s:=hearS (pat ps i).s l}) W)(hi:i<ps.length)(ok:(pat ps i).s.Ok)(sim:Sim (pat ps i).s (pat ps i).r t)(hO:OpB own0 W0 a b o n c l)(hv:VSays A W v z):
 Calls Tryz.prog 120 #[.pointer (some ⟨(pat ps i).rb,0,none⟩),.slice a n c] W fun e W'=>
  e=.returned (.agg #[.int .i64 (hearZ (pat ps i).s l).1,.int .i64 (hearZ (pat ps i).s l).2])/\VSays A W' v z/\∃ r',PhB A B0 R own0 W0 hb hs es ((ps.set i {pat ps i with s:=hearS (pat ps i).s l}).set i {pat (ps.set i {pat ps i with s:=hearS (pat ps i).s l}) i with r:=r'}) W'/\Sim (hearS (pat ps i).s l) r' t:=by
 have h':=h;obtain⟨own,hJ,hF⟩:=h';have hOW:=hO.fr hF;have hfew:=hO.few;have hi1:i<(ps.set i {pat ps i with s:=hearS (pat ps i).s l}).length:=by simpa using hi
 have hpr:pat (ps.set i {pat ps i with s:=hearS (pat ps i).s l}) i={pat ps i with s:=hearS (pat ps i).s l}:=by rw[pat_set hi,if_pos rfl]
 have hR:RAt W (hb+1) (pat ps i).rb (pat ps i).r:=by
  have:=hJ.rsn i hi1;rw[hpr]at this;exact this
 refine(rhear_any hR ok sim hO.len hO.cap (by omega) hO.adr hOW.bs (fun h0=>(hOW.free h0).1)).mono ?_;intro e W' hG';obtain⟨rfl,r',hR',hs',hbu,hft⟩:=hG'.one hR sim;refine⟨rfl,hv.kept (fun pb cs hp=>hbu.block pb (lt_of_block hp) (hR.neB hp)),r',?_,hs'⟩;exact h.stepR hi1 (by rw[hpr];exact hbu) (by rw[hpr];exact hR') (fun b q=>.inl (by rw[hpr]at q ⊢;exact(hft b).1 q))
theorem WI.phase{own:Nat->Nat}{w:World}{s':Snd}{r':Rsn}(hI:WI A B0 R own w hb t hs es ps)(hi:i<ps.length)(hF0:Fr own w own0 W0)(h:PhB A B0 R own0 W0 hb hs es ((ps.set i {pat ps i with s:=s'}).set i {pat (ps.set i {pat ps i with s:=s'}) i with r:=r'}) W)(sim:Sim s' r' (t+1)):WStep A B0 R own w hb (t+1) ps.length W:=by
 obtain⟨own',hJ,hF⟩:=h;obtain⟨N,h1,h2⟩:=hI.n;exact⟨own',hs,es,_,hI.pair hi hJ sim ⟨N,h1,by omega⟩ (by have:=hI.fewE;omega) hI.nil,by simp,hF0.trans hF⟩
end
theorem wtell_any{A:Nat->Addr}{B0:Nat}{R:Rst}{own:Nat->Nat}{w:World}{hb t i:Nat}{hs:HS}{es:List Ent}{ps:List Pr}{a:Option Addr}{b o n c:Nat}{l:List Gf.F}(hI:WI A B0 R own w hb t hs es ps)(hi:i<ps.length)(hOw:OpB own w a b o n c l):
 Calls Tryz.prog 84 #[.pointer (some ⟨hb,0,none⟩),.agg #[.pointer (some ⟨(pat ps i).sb,0,none⟩),.pointer (some ⟨(pat ps i).rb,0,none⟩)],.slice a n c] w fun e w'=>e=.returned (.bool true)/\WStep A B0 R own w hb (t+1) ps.length w':=by
 have hbe:Below w.heap.size w (w.alloc (.cells #[.pointer (some ⟨(pat ps i).sb,0,none⟩),.pointer (some ⟨(pat ps i).rb,0,none⟩)] 89)):=(Below.refl _ _).alloc (Nat.le_refl _) _;have hJ0:=hI.toWJ.above 1 hbe;have hF0:Fr own w (ownN own w.heap.size 1) _:=Fr.above 1 hbe;have hX0:=heap_alloc_new w (.cells #[.pointer (some ⟨(pat ps i).sb,0,none⟩),.pointer (some ⟨(pat ps i).rb,0,none⟩)] 89);have hO0:ownN own w.heap.size 1 w.heap.size=1:=ownN_new (Nat.le_refl _);go_enter Tryz.func84,Tryz.ntmps84;go_upto_region 1 with fail;generalize w.alloc (.cells #[.pointer (some ⟨(pat ps i).sb,0,none⟩),.pointer (some ⟨(pat ps i).rb,0,none⟩)] 89)=W0 at *;generalize ownN own w.heap.size 1=own0 at *;have hO:=hOw.fr hF0;have hP0:PhB A B0 R own0 W0 hb hs es ps W0:=⟨own0,hJ0,Fr.refl _ _⟩;have HI:Hid (WI A B0 R own w hb t hs es ps):=hI;have HF0:Hid (Fr own w own0 W0):=hF0;have hbl:hb<W0.heap.size:=Nat.lt_of_lt_of_le hI.hands.lt hF0.size
 have HBX:Hid (∀(hs:HS) (ps':List Pr) W,PhB A B0 R own0 W0 hb hs es ps' W->W.cell? ⟨w.heap.size,0,none⟩=some (.pointer (some ⟨(pat ps i).sb,0,none⟩))/\W.cell? ⟨w.heap.size,1,none⟩=some (.pointer (some ⟨(pat ps i).rb,0,none⟩))):=fun hs ps' W h=>by
  have:=(h.block (lt_of_block hX0) hO0).trans hX0;exact⟨(twoE this).1,(twoE this).2.1⟩
 obtain⟨x0,x1⟩:=HBX.out _ _ _ hP0;have HBY:Hid (∀ W,PhB A B0 R own0 W0 hb hs es ps W->Calls Tryz.prog 81 #[.pointer (some ⟨hb,2,none⟩),.slice a n c] W fun e W'=>∃ G v1,e=.returned (.slice (some ⟨G,0,none⟩) n (n+2))/\PhG A B0 R own0 W0 hb hs es ps G v1 W'/\Lent W' G v1 [⟨.slice a n c,l⟩] [G] 1/\W0.heap.size<=G/\LowH hs es G):=fun W h=>wbytes h hI.nil.in0 hO
 have HHR:Hid (∀ W G v1,PhG A B0 R own0 W0 hb hs es ps G v1 W->Lent W G v1 [⟨.slice a n c,l⟩] [G] 1->Calls Tryz.prog 16 #[.pointer (some ⟨(pat ps i).sb,0,none⟩),.slice (some ⟨G,0,none⟩) n (n+2)] W fun e W'=>∃ v,e=.returned v/\VSays A W' v (hearZ (pat ps i).s l)/\PhG A B0 R own0 W0 hb hs es (ps.set i {pat ps i with s:=hearS (pat ps i).s l}) G v1 W'/\Lent W' G v1 [⟨.slice a n c,l⟩] [G] 1):=fun W G v1 h hL=>whear h hi hO hL
 have hP0d:PhB A B0 R own0 W0 hb hs es ps W0.drew:=hP0.above ((Below.refl _ _).drew);have hok:=(hI.snd i hi).2;have hsim:=hI.sim i hi;have HRH:Hid (∀ W v z,PhB A B0 R own0 W0 hb hs es (ps.set i {pat ps i with s:=hearS (pat ps i).s l}) W->VSays A W v z->Calls Tryz.prog 120 #[.pointer (some ⟨(pat ps i).rb,0,none⟩),.slice a n c] W fun e W'=>e=.returned (.agg #[.int .i64 (hearZ (pat ps i).s l).1,.int .i64 (hearZ (pat ps i).s l).2])/\VSays A W' v z/\∃ r',PhB A B0 R own0 W0 hb hs es ((ps.set i {pat ps i with s:=hearS (pat ps i).s l}).set i {pat (ps.set i {pat ps i with s:=hearS (pat ps i).s l}) i with r:=r'}) W'/\Sim (hearS (pat ps i).s l) r' t):=fun W v z h hv=>wrhear h hi hok hsim hO hv
 clear hX0 hO0 hJ0 hI hbe hF0
 go_cut[7] (fun v wx=>∃ G v1,VSays A wx v (hearZ (pat ps i).s l)/\PhG A B0 R own0 W0 hb hs es (ps.set i {pat ps i with s:=hearS (pat ps i).s l}) G v1 wx/\Lent wx G v1 [⟨.slice a n c,l⟩] [G] 1/\W0.heap.size<=G/\LowH hs es G)
 case first=>
  go_region_with (first
   | (go_at_call 81;refine(HBY.out _ hP0d).mono ?_;rintro e w1 ⟨G,v1,rfl,hG1,hL1,hle1,hlow1⟩;obtain⟨x0',x1'⟩:=HBX.out _ _ _ hG1.b)
   | (go_at_call 16;refine(HHR.out _ _ _ hG1 hL1).mono ?_;rintro e w2 ⟨v,rfl,hv,hG2,hL2⟩))
  all_goals go_wp2_with fail
  all_goals go_meet
  all_goals exact⟨G,v1,hv,hG2,hL2,hle1,hlow1⟩
 case rest=>
  obtain⟨G,v1,hv,hG,hL,hle,hlow⟩:=hcut;have HBK:Hid (Calls Tryz.prog 82 #[.pointer (some ⟨hb,2,none⟩),.slice none 0 0] wc fun e W'=>e=.returned (.bool true)/\PhB A B0 R own0 W0 hb hs es (ps.set i {pat ps i with s:=hearS (pat ps i).s l}) W'/\But (fun b=>b=hb∨b=G) wc W'):=wback _ hG HI.out.nil hO hL hle hlow hbl;clear x0 x1;go_wp2_with fail;refine HBK.out.mono ?_;rintro e w3 ⟨rfl,hP3,hb3⟩
  have hv3:VSays A w3 u7 (hearZ (pat ps i).s l):=hv.kept (fun pb cs hp=>hb3.block pb (lt_of_block hp) (fun q=>by
   obtain⟨_,hJ,_⟩:=hG;rcases q with q|q
   ·exact ne_typ hp hJ.hands (by decide) q
   ·exact ne_typ hp (hL.blk 0 (by omega)) (by decide) q))
  have HTD:Hid (∀ W,VSays A W u7 (hearZ (pat ps i).s l)->Errs A B0 W->Calls Tryz.prog 56 #[u7] W fun e w'=>e=.returned (.agg #[.int .i64 (hearZ (pat ps i).s l).1,.int .i64 (hearZ (pat ps i).s l).2])/\Below W.heap.size W w'):=fun W h1 h2=>told_says h2 h1
  have HFIN:Hid (∀ r' W,PhB A B0 R own0 W0 hb hs es ((ps.set i {pat ps i with s:=hearS (pat ps i).s l}).set i {pat (ps.set i {pat ps i with s:=hearS (pat ps i).s l}) i with r:=r'}) W->Sim (hearS (pat ps i).s l) r' t->WStep A B0 R own w hb (t+1) ps.length W):=fun r' W h hs'=>HI.out.phase hi HF0.out h (hs'.more (by omega))
  clear hv hG hL hle hlow HBK hb3;go_upto_region 3 with fail;have hP3d:PhB A B0 R own0 W0 hb hs es (ps.set i {pat ps i with s:=hearS (pat ps i).s l}) w3.drew:=hP3.above ((Below.refl _ _).drew);have hv3d:VSays A w3.drew u7 (hearZ (pat ps i).s l):=hv3.below ((Below.refl _ _).drew);obtain⟨x0,x1⟩:=HBX.out _ _ _ hP3;generalize hearZ (pat ps i).s l=Z at *;obtain⟨z0,z1⟩:=Z;simp only at *
  go_region_with (first
   | (go_at_call 56;first
    | (refine(HTD.out _ hv5 hP5.errs).mono ?_;rintro e w6 ⟨rfl,hb6⟩)
    | (refine(HTD.out _ hv3d hP3d.errs).mono ?_;rintro e w4 ⟨rfl,hb4⟩;have hP4:=hP3d.above hb4;have hv4:=hv3d.below hb4;obtain⟨x0',x1'⟩:=HBX.out _ _ _ hP4))
   | (go_at_call 120;first
    | (refine(HRH.out _ _ _ hP4 hv4).mono ?_;rintro e w5 ⟨rfl,hv5,r',hP5,hs5⟩)
    | (refine(HRH.out _ _ _ hP3d hv3d).mono ?_;rintro e w5 ⟨rfl,hv5,r',hP5,hs5⟩)))
  all_goals go_wp2_with fail
  all_goals go_ret
  all_goals first
   | exact⟨rfl,HFIN.out _ _ (hP5.above hb6) hs5⟩
   | exact⟨rfl,HFIN.out _ _ hP5 hs5⟩
theorem HAt.setV{w:World}{hb:Nat}{s:HS}(h:HAt w hb s)(v:Value):HAt (w.setCell ⟨hb,0,none⟩ v) hb {s with sv:=v}:=by unfold HAt;rw[heap_setCell_same w hb 0 _ _ _ h];rfl
theorem Tryz.info_sender:(Tryz.prog.info? 89).map (fun i=>(i.zero,i.size,i.bytes))=some (some (.agg #[.pointer none,.pointer none]),2,16):=by kernel_rfl
theorem Tryz.sender_parts:∃ i,Tryz.prog.info? 89=some i/\i.zero=some (.agg #[.pointer none,.pointer none])/\i.size=2/\i.bytes=16:=by
 obtain⟨i,hi,h⟩:=Option.map_eq_some_iff.1 Tryz.info_sender;simp only[Prod.mk.injEq]at h;exact⟨i,hi,h.1,h.2.1,h.2.2⟩
structure Opv where
 kd:Int
 on:Int
 tt:Int
 a:Int
 K:Int
 N:Int
 S:Int
 p:Option Addr
 n:Nat
 c:Nat
def Opv.cells(q:Opv):Array Value:=#[.int .i64 q.kd,.int .i64 q.on,.int .i64 q.tt,.int .i64 q.a,.int .i64 q.K,.int .i64 q.N,.int .i64 q.S,.slice q.p q.n q.c]
theorem WI.made{A:Nat->Addr}{B0:Nat}{R:Rst}{own:Nat->Nat}{w w1 w2 w3 W:World}{hb t K N S sb rb g cap:Nat}{hs:HS}{es:List Ent}{ps:List Pr}{ob:Obj}(hI:WI A B0 R own w hb t hs es ps)(hcf:Cfg K N S)(hb1:Below w.heap.size w w1)(hS:SAt w1 w.heap.size sb (snd0 K N S))(hb2:Below w1.heap.size w1 w2)(hR:RAt w2 w1.heap.size rb (rsn0 K N S))(hb3:Below w2.heap.size w2 w3)
 (hg:(w3.alloc ob).grownBy W hs.sv.ownBlock) (hown:W.ownsRow (hb+1) 89 2 (.slice (some ⟨g,0,none⟩) (ps.length+1) cap) (ps.length+1) (flat2 (prVals ps)++[.pointer (some ⟨sb,0,none⟩),.pointer (some ⟨rb,0,none⟩)])) (hlie:hs.sv.ownBlock=some g∨g=w3.heap.size+1):
 ∃ own' ps',WI A B0 R own' (W.setCell ⟨hb,0,none⟩ (.slice (some ⟨g,0,none⟩) (ps.length+1) cap)) hb (t+1) {hs with sv:=.slice (some ⟨g,0,none⟩) (ps.length+1) cap} es ps'/\ps'.length=ps.length+1/\Fr own w own' (W.setCell ⟨hb,0,none⟩ (.slice (some ⟨g,0,none⟩) (ps.length+1) cap))/\
  ∀(k:Nat) (cs:Array Value) (t:TypeId),w3.heap[k]?=some (Obj.cells cs t (0,0))->t≠89->t≠81->(W.setCell ⟨hb,0,none⟩ (.slice (some ⟨g,0,none⟩) (ps.length+1) cap)).heap[k]?=w3.heap[k]?:=by
 have h1:=hI.toWJ.above (4*ps.length+2) hb1;have h2:=h1.above (4*ps.length+3) hb2;have h3:=h2.above 0 hb3;have h4:=h3.above 0 ((Below.refl _ w3).alloc (Nat.le_refl _) ob);have f1:=Fr.above (own:=own) (4*ps.length+2) hb1;have f2:=Fr.above (own:=ownN own w.heap.size (4*ps.length+2)) (4*ps.length+3) hb2;have f3:=Fr.above (own:=ownN (ownN own w.heap.size (4*ps.length+2)) w1.heap.size (4*ps.length+3)) 0 hb3;have f4:=Fr.above (own:=ownN (ownN (ownN own w.heap.size (4*ps.length+2)) w1.heap.size (4*ps.length+3)) w2.heap.size 0) 0 ((Below.refl _ w3).alloc (Nat.le_refl _) ob);have f5:=((f1.trans f2).trans f3).trans f4;have hlt:=hI.hands.lt;have e1:=hb1.size;have e2:=hb2.size;have e3:=hb3.size;have hS2:SAt w2 w.heap.size sb (snd0 K N S):=hS.above hb2;have hS3:SAt w3 w.heap.size sb (snd0 K N S):=hS2.above hb3;have hS4:SAt (w3.alloc ob) w.heap.size sb (snd0 K N S):=hS3.above ((Below.refl _ w3).alloc (Nat.le_refl _) ob);have hR3:RAt w3 w1.heap.size rb (rsn0 K N S):=hR.above hb3;have hR4:RAt (w3.alloc ob) w1.heap.size rb (rsn0 K N S):=hR3.above ((Below.refl _ w3).alloc (Nat.le_refl _) ob);have hbu:But (fun b=>b=hb∨hs.sv.ownBlock=some b) (w3.alloc ob) (W.setCell ⟨hb,0,none⟩ (.slice (some ⟨g,0,none⟩) (ps.length+1) cap)):=((But.refl _ (w3.alloc ob)).grown hg (fun k hk=>.inl (.inr hk))).setCell (p:=⟨hb,0,none⟩) (.inl (.inl rfl)) _;have hHW:HAt W hb hs:=h4.hands.kept (grown_block hg h4.hands.lt (fun q=>own_ne h4.sown q h4.hands (by decide) rfl));have hO:=But.setCell (S:=fun b=>b=hb) (But.refl _ W) (p:=⟨hb,0,none⟩) (.inl rfl) (.slice (some ⟨g,0,none⟩) (ps.length+1) cap)
 have hJ:=h4.push (p:=⟨snd0 K N S,sb,rsn0 K N S,rb⟩) hbu (fun b _ q=>q) (hHW.setV _) (hO.own hown (fun k hk q=>own_ne hown hk hHW (by decide) q)) (fun b hb'=>by
  have hg':g=b:=by simpa [Value.ownBlock] using hb'
  subst hg';rcases hlie with q|q
  ·exact .inl q
  ·exact .inr (by simp;omega)) (hS4.lower (by omega)) (snd0_ok hcf) (hR4.lower (by omega)) (fun b q=>?_) (fun b q=>?_)
 ·refine⟨_,_,⟨hJ,fun j hj=>?_,?_,?_,?_,⟨hI.nil.in0,hI.nil.rows0,hI.nil.ints0,hI.nil.want0,hI.nil.outer0,hI.nil.omarks0,hI.nil.lacks0⟩⟩,by simp,f5.trans (Fr.but hbu (fun b _ q=>?_)),fun k cs t hk n1 n2=>?_⟩
  ·by_cases e:j<ps.length
   ·rw[pat_push ps _ j e]
    exact(hI.sim j e).more (by omega)
   ·obtain rfl:j=ps.length:=by simp at hj;omega
    rw[pat_last];exact(sim0 K N S).more (by omega)
  ·obtain⟨N',n1,n2⟩:=hI.n
   exact⟨N',n1,by omega⟩
  ·have:=hI.fewE;omega
  ·have:=hI.fewP;simp;omega
  ·rcases q with rfl|q
   ·rw[h4.oH];omega
   ·rw[h4.oV b q];omega
  ·have hkl:=lt_of_block hk
   rw[hbu.block k (by simp;omega) (fun q=>?_)]
   ·exact Below.heap_alloc w3 ob k hkl
   ·rcases q with q|q
    ·exact ne_typ hk h3.hands n2 q
    ·exact own_ne h3.sown q hk (fun e=>n1 e.symm) rfl
 ·have hlt4:=(hS.foot_lt q)
  rw[ownN_old (by omega),ownN_old (by omega),ownN_old hlt4.2,ownN_new hlt4.1]
 ·have hlt4:=(hR.foot_lt q)
  rw[ownN_old (by omega),ownN_old hlt4.2,ownN_new hlt4.1]
theorem wsends_new{A:Nat->Addr}{B0:Nat}{R:Rst}{own:Nat->Nat}{w:World}{hb t:Nat}{hs:HS}{es:List Ent}{ps:List Pr}{q:Opv}(hI:WI A B0 R own w hb t hs es ps)(hk:q.kd=1)(ht:t<=200000000):
 Calls Tryz.prog 51 #[.pointer (some ⟨hb,0,none⟩),.agg q.cells] w fun e w'=>e=.returned (.bool true)/\WStep A B0 R own w hb (t+1) (if cfgB q.K q.N q.S=true then ps.length+1 else ps.length) w':=by
 have hbe:Below w.heap.size w (w.alloc (.cells q.cells 83)):=(Below.refl _ _).alloc (Nat.le_refl _) _;have hI0:=hI.above 1 hbe;have hF0:Fr own w (ownN own w.heap.size 1) _:=Fr.above 1 hbe;have hX0:=heap_alloc_new w (.cells q.cells 83);obtain⟨kd,on,tt,qa,K,N,S,p,n,c⟩:=q;simp only[Opv.cells]at *;obtain rfl:=hk;have hfP:=hI.fewP;go_enter Tryz.func51,Tryz.ntmps51;go_upto_region 1 with fail;generalize w.alloc (.cells #[.int .i64 1,.int .i64 on,.int .i64 tt,.int .i64 qa,.int .i64 K,.int .i64 N,.int .i64 S,.slice p n c] 83)=W0 at *;generalize ownN own w.heap.size 1=own0 at *;obtain⟨bx,hbx⟩:∃ x,x=w.heap.size:=⟨_,rfl⟩;rw[<- hbx]at hX0 ⊢;have hcell:∀ {W:World},W.heap[bx]?=some (.cells #[.int .i64 1,.int .i64 on,.int .i64 tt,.int .i64 qa,.int .i64 K,.int .i64 N,.int .i64 S,.slice p n c] 83 (0,0))->W.cell? ⟨bx,0,none⟩=some (.int .i64 1)/\W.cell? ⟨bx,4,none⟩=some (.int .i64 K)/\W.cell? ⟨bx,5,none⟩=some (.int .i64 N)/\W.cell? ⟨bx,6,none⟩=some (.int .i64 S):=fun {W} h=>⟨cell_of_row W bx 0 _ _ _ h,cell_of_row W bx 4 _ _ _ h,cell_of_row W bx 5 _ _ _ h,cell_of_row W bx 6 _ _ _ h⟩
 have HCL:Hid _:=@hcell;clear hcell hbx;have HI0:Hid (WI A B0 R own0 W0 hb t hs es ps):=hI0;have HF0:Hid (Fr own w own0 W0):=hF0;have hE:=hI0.errs;clear hI hF0 hbe hI0;obtain⟨x0,x4,x5,x6⟩:=HCL.out hX0
 cases hcb:cfgB K N S with
 | true=>
  obtain⟨k,n',s,rfl,rfl,rfl,hcf⟩:=cfgB_cfg hcb;go_wp2_with fail;refine(newSender_ok k n' s hcb W0).mono ?_;rintro e w1 ⟨sb,rfl,hS1,hb1⟩;have hX1:=(hb1.block bx (lt_of_block hX0)).trans hX0;clear x0 x4 x5 x6;obtain⟨x0,x4,x5,x6⟩:=HCL.out hX1;go_wp2_with fail;refine(rnewSender_ok k n' s hcb w1).mono ?_;rintro e w2 ⟨rb,rfl,hR2,hb2⟩;have hb12:Below W0.heap.size W0 w2:=hb1.trans (hb2.mono hb1.size);have hE2:=heap_alloc_new w2 (.cells #[.int .i64 0,.int .i64 (-1)] 139);have hb3:Below w2.heap.size w2 (w2.alloc (.cells #[.int .i64 0,.int .i64 (-1)] 139)):=(Below.refl _ _).alloc (Nat.le_refl _) _;clear x0 x4 x5 x6;go_upto_region 4 with fail;generalize w2.alloc (.cells #[.int .i64 0,.int .i64 (-1)] 139)=w3 at *;have hb13:Below W0.heap.size W0 w3:=hb12.trans (hb3.mono hb12.size);have hJ3:=HI0.out.toWJ.above 0 hb13;have hH3:=hJ3.hands;have hl3:=hH3.lt;obtain⟨va,vc,hva,_⟩:=own_form2 hJ3.sown;have HVA:Hid (hs.sv=.slice va ps.length vc):=hva;have c0:w3.cell? ⟨hb,0,none⟩=some (.slice va ps.length vc):=by rw[cell_of_row w3 hb 0 _ _ _ hH3];show some hs.sv=_;rw[hva]
  obtain⟨iS,hiS,hiS0,hiS1,hiS2⟩:=Tryz.sender_parts
  have HOW:Hid (∀ ob:Obj,(w3.alloc ob).ownsRow (hb+1) 89 2 (.slice va ps.length vc) ps.length (flat2 (prVals ps))):=fun ob=>by
   have:=hJ3.sown;rw[HVA.out]at this;exact this.alloc ob
  have HMX:Hid (ps.length+1<=maxLen):=by show _<=_;unfold maxLen;omega
  have HK5:Hid (∀ ob w5,(w3.alloc ob).grownBy w5 (Value.slice va ps.length vc).ownBlock->w5.cell? ⟨hb,0,none⟩=some (.slice va ps.length vc)/\w5.frozen? ⟨hb,0,none⟩=false):=fun ob w5 hg=>by
   have hk:w5.heap[hb]?=w3.heap[hb]?:=(grown_block hg (by simp;omega) (fun q=>by rw[<- HVA.out]at q;exact own_ne hJ3.sown q hH3 (by decide) rfl)).trans (Below.heap_alloc w3 ob hb hl3);have hblk:=hk.trans hH3;exact⟨by rw[cell_of_row w5 hb 0 _ _ _ hblk];show some hs.sv=_;rw[HVA.out],frozen_of_row w5 hb 0 _ _ hblk⟩
  have HNW:Hid (∀ u ∈ [Value.pointer (some ⟨sb,0,none⟩),.pointer (some ⟨rb,0,none⟩)],u.oneCell'=true):=fun u hu=>by simp at hu;rcases hu with rfl|rfl<;>rfl
  have hn3:¬ hb=w3.heap.size:=Nat.ne_of_lt hl3;obtain⟨eb,heb⟩:∃ x,x=w2.heap.size:=⟨_,rfl⟩;rw[<- heb]at hE2 ⊢
  have HMAD:Hid (∀(W:World) (g cap:Nat) (ob:Obj),(w3.alloc ob).grownBy W hs.sv.ownBlock->W.ownsRow (hb+1) 89 2 (.slice (some ⟨g,0,none⟩) (ps.length+1) cap) (ps.length+1) (flat2 (prVals ps)++[.pointer (some ⟨sb,0,none⟩),.pointer (some ⟨rb,0,none⟩)])->(hs.sv.ownBlock=some g∨g=w3.heap.size+1)->WStep A B0 R own w hb (t+1) (ps.length+1) (W.setCell ⟨hb,0,none⟩ (.slice (some ⟨g,0,none⟩) (ps.length+1) cap))/\(W.setCell ⟨hb,0,none⟩ (.slice (some ⟨g,0,none⟩) (ps.length+1) cap)).heap[eb]?=some (.cells #[.int .i64 0,.int .i64 (-1)] 139 (0,0))):=fun W g cap ob h1 h2 h3=>by
   obtain⟨own',ps',m1,m2,m3,m4⟩:=HI0.out.made hcf hb1 hS1 hb2 hR2 hb3 h1 h2 h3;exact⟨⟨own',_,es,ps',m1,m2,HF0.out.trans m3⟩,(m4 eb _ _ hE2 (by decide) (by decide)).trans hE2⟩
  clear hva hJ3 hH3 heb hE2 hX0 hX1;go_wp2_with (at_builtin;refine wpList_append_lies _ rfl _ _ _ rfl (hb+1) 89 iS (.agg #[.pointer none,.pointer none]) 2 16 Tryz.underlying70 hiS hiS0 hiS1 hiS2 rfl (by omega) (.slice va ps.length vc) ps.length (flat2 (prVals ps)) rfl (HOW.out _) ⟨w3.heap.size,0,none⟩ 1 1 [.pointer (some ⟨sb,0,none⟩),.pointer (some ⟨rb,0,none⟩)] rfl rfl (cell_two_at w3 _ _ _ _ rfl) HNW.out (by omega) HMX.out (by omega) (by simp;omega) (w3.heap.size+1) (by simp) ?_);intro g5 cap5 w5 hown5 hgr5 hlie5 hlt5;obtain⟨k5,f5⟩:=HK5.out _ _ hgr5;go_upto_region 6 with fail;obtain⟨hW6,hE6⟩:=HMAD.out w5 g5 cap5 _ (by rw[HVA.out];exact hgr5) hown5 (by rw[HVA.out];exact hlie5);generalize w5.setCell ⟨hb,0,none⟩ (.slice (some ⟨g5,0,none⟩) (ps.length+1) cap5)=W6 at *;clear k5 f5 hown5 hgr5 hlie5 hlt5 c0 HOW HK5 HMAD hb1 hS1 hb2 hR2 hb12 hb13 hb3;obtain⟨y0,y1,_,_⟩:=twoE hE6;have HE7:Hid (∀ w7,Below W6.heap.size W6 w7->w7.cell? ⟨eb,0,none⟩=some (.int .i64 0)/\w7.cell? ⟨eb,1,none⟩=some (.int .i64 (-1))):=fun w7 hb7=>⟨by rw[hb7.cell (lt_of_cell y0)];exact y0,by rw[hb7.cell (lt_of_cell y1)];exact y1⟩
  have HFIN:Hid (∀ w7,Below W6.heap.size W6 w7->WStep A B0 R own w hb (t+1) (ps.length+1) w7):=fun w7 hb7=>by
   obtain⟨own',hs',es',ps',m1,m2,m3⟩:=hW6;exact⟨_,_,_,_,m1.above 0 hb7,m2,m3.trans (Fr.above 0 hb7)⟩
  clear hW6 hE6
  go_region_held3 (fun w'=>w'.cell? ⟨eb,0,none⟩=some (.int .i64 0)/\w'.cell? ⟨eb,1,none⟩=some (.int .i64 (-1))) (first | go_keep|exact hkeep) (first
   | (go_at_call 56;refine(told_nil _).mono ?_;rintro e w7 ⟨rfl,hb7⟩;(have hbX:Below W6.heap.size W6 w7:=by first | exact Below.undraw hb7|exact hb7);have hkeep:=HE7.out w7 hbX;obtain⟨y0',y1'⟩:=hkeep))
  all_goals go_wp2_with fail
  all_goals go_ret
  all_goals exact⟨rfl,HFIN.out _ hbX⟩
 | false=>
  go_wp2_with fail;refine(newSender_no A B0 K N S hcb W0 hE).mono ?_;rintro e w1 ⟨rfl,hb1⟩;have hX1:=(hb1.block bx (lt_of_block hX0)).trans hX0;have hE1:=hE.shrink _ hb1;clear x0 x4 x5 x6;obtain⟨x0,x4,x5,x6⟩:=HCL.out hX1;go_wp2_with fail;refine(rnewSender_no K N S hcb w1).mono ?_;rintro e w2 ⟨rfl,hb2⟩;have hb12:Below W0.heap.size W0 w2:=hb1.trans (hb2.mono hb1.size);have hE2:=heap_alloc_new w2 (.cells #[.int .i64 1,.int .i64 (-1)] 139);have hb3:Below w2.heap.size w2 (w2.alloc (.cells #[.int .i64 1,.int .i64 (-1)] 139)):=(Below.refl _ _).alloc (Nat.le_refl _) _;clear x0 x4 x5 x6;go_upto_region 4 with fail;generalize w2.alloc (.cells #[.int .i64 1,.int .i64 (-1)] 139)=W6 at *;have hb16:Below W0.heap.size W0 W6:=hb12.trans (hb3.mono hb12.size);have hEr6:=hE.shrink _ hb16;obtain⟨eb,heb⟩:∃ x,x=w2.heap.size:=⟨_,rfl⟩;rw[<- heb]at hE2 ⊢;obtain⟨y0,y1,_,_⟩:=twoE hE2;have HE7:Hid (∀ w7,Below W6.heap.size W6 w7->w7.cell? ⟨eb,0,none⟩=some (.int .i64 1)/\w7.cell? ⟨eb,1,none⟩=some (.int .i64 (-1))):=fun w7 hb7=>⟨by rw[hb7.cell (lt_of_cell y0)];exact y0,by rw[hb7.cell (lt_of_cell y1)];exact y1⟩
  have HFIN:Hid (∀ w7,Below W6.heap.size W6 w7->WStep A B0 R own w hb (t+1) ps.length w7):=fun w7 hb7=>by
   have hb17:=hb16.trans (hb7.mono hb16.size);exact⟨_,_,_,_,(HI0.out.above 0 hb17).more (by omega),rfl,HF0.out.trans (Fr.above 0 hb17)⟩
  have HTD:Hid (∀ W,Below W6.heap.size W6 W->Calls Tryz.prog 56 #[E A 1] W fun e w'=>e=.returned (.agg #[.int .i64 1,.int .i64 (-1)])/\Below W.heap.size W w'):=fun W hW=>told_err A B0 0 (by omega) W (hEr6.shrink _ hW)
  have hdr:Below W6.heap.size W6 W6.drew:=(Below.refl _ _).drew;clear heb hE2 hX0 hX1 hb1 hb2 hb12 hb3 hb16;go_upto_region 6 with fail
  go_region_held3 (fun w'=>w'.cell? ⟨eb,0,none⟩=some (.int .i64 1)/\w'.cell? ⟨eb,1,none⟩=some (.int .i64 (-1))) (first | go_keep|exact hkeep) (first
   | (go_at_call 56;refine(HTD.out _ hdr).mono ?_;rintro e w7 ⟨rfl,hb7⟩;(have hbX:Below W6.heap.size W6 w7:=by first | exact Below.undraw hb7|exact hb7);have hkeep:=HE7.out w7 hbX;obtain⟨y0',y1'⟩:=hkeep))
  all_goals go_wp2_with fail
  all_goals go_ret
  all_goals exact⟨rfl,HFIN.out _ hbX⟩
def pickN(c:Int)(n:Nat):Nat:=(if c<0 then -(c+1) else c).toNat%n
theorem pickN_lt(c:Int){n:Nat}(h:1<=n):pickN c n<n:=Nat.mod_lt _ h
theorem pick_any(c:Int)(n:Nat)(hn:1<=n)(hn2:n<=1000000000)(hc:-9223372036854775808<=c/\c<=9223372036854775807)(w:World):
 Calls Tryz.prog 80 #[.int .i64 c,.int .i64 n] w fun e w'=>e=.returned (.int .i64 (pickN c n:Int))/\w'=w:=by
 have hn0:¬ n=0:=by omega
 have hn1:¬(n:Int)=0:=by omega
 by_cases h:c<0
 ·obtain⟨m,rfl⟩:∃ m:Nat,c=-(m:Int) - 1:=⟨(-(c+1)).toNat,by omega⟩
  obtain⟨r,hr⟩:∃ r:Nat,r=m%n:=⟨_,rfl⟩
  have hp:pickN (-(m:Int) - 1) n=r:=by
   unfold pickN;rw[if_pos h,show -(-(m:Int) - 1+1)=(m:Int) by omega,hr];simp
  have ht:(m:Int).tmod (n:Int)=(r:Int):=by rw[Int.tmod_eq_emod_of_nonneg (by omega),hr];push_cast;rfl
  have he:(m:Int)%(n:Int)=(r:Int):=by rw[hr];push_cast;rfl
  have hlt2:r<n:=by rw[hr];exact Nat.mod_lt _ hn
  have hq1:-(m:Int) - 1+1=-(m:Int):=by omega
  rw[hp];clear hp hr;go_enter Tryz.func80,Tryz.ntmps80;go_wp2;go_ret;exact⟨rfl,rfl⟩
 ·obtain⟨m,rfl⟩:∃ m:Nat,c=(m:Int):=⟨c.toNat,by omega⟩
  obtain⟨r,hr⟩:∃ r:Nat,r=m%n:=⟨_,rfl⟩;have hp:pickN (m:Int) n=r:=by unfold pickN;rw[if_neg h,hr];simp
  have ht:(m:Int).tmod (n:Int)=(r:Int):=by rw[Int.tmod_eq_emod_of_nonneg (by omega),hr];push_cast;rfl
  have he:(m:Int)%(n:Int)=(r:Int):=by rw[hr];push_cast;rfl
  have hlt2:r<n:=by rw[hr];exact Nat.mod_lt _ hn
  rw[hp];clear hp hr;go_enter Tryz.func80,Tryz.ntmps80;go_wp2;go_ret;exact⟨rfl,rfl⟩
def enqZ(s:Snd)(l:List Gf.F):Int×Int:=if 255<l.length then(2,-1) else if s.os.length=16 then(3,-1) else(0,-1)
def enqM(s:Snd)(l:List Gf.F):Int:=if 255<l.length then 0 else if s.os.length=16 then 0 else(s.os.length:Int)
def EnqTo(s:Snd)(l:List Gf.F)(s':Snd):Prop:=((255<l.length∨s.os.length=16)/\s'=s)∨(l.length<=255/\s.os.length<16/\∃ o vo,o.l=l/\o.ds=debts0 (partsN (symN s.S l.length) s.K)/\s'=s.enq o vo)
theorem EnqGives.one{A:Nat->Addr}{s:Snd}{l:List Gf.F}{B sb:Nat}{w w':World}{e:Ending}(h:EnqGives A s l B sb w e w')(hS:SAt w B sb s)(ok:s.Ok):
 ∃ v s',e=.returned (.tuple #[.int .i64 (enqM s l),v])/\VSays A w' v (enqZ s l)/\EnqTo s l s'/\SAt w' B sb s'/\s'.Ok/\But (s.foot sb) w w'/\∀ b,s'.foot sb b->s.foot sb b∨w.heap.size<=b:=by
 have hbb:∀ {w':World},Below w.heap.size w w'->But (s.foot sb) w w':=fun hb=>Below.but hb _ (fun i hi q=>absurd hi q)
 unfold enqM enqZ;rcases h with⟨h1,rfl,hb⟩|⟨h1,h2,rfl,hb⟩|⟨h1,h2,rfl,o,vo,h3,h4,h5,h6,h7⟩
 ·rw[if_pos h1,if_pos h1]
  exact⟨_,s,rfl,.inr (.inl ⟨1,by omega,rfl,rfl⟩),.inl ⟨.inl h1,rfl⟩,hS.above hb,ok,hbb hb,fun b q=>.inl q⟩
 ·have hn:¬ 255<l.length:=by omega
  simp only[if_neg hn,if_pos h2];exact⟨_,s,rfl,.inr (.inl ⟨2,by omega,rfl,rfl⟩),.inl ⟨.inr h2,rfl⟩,hS.above hb,ok,hbb hb,fun b q=>.inl q⟩
 ·have hn:¬ 255<l.length:=by omega
  have hn2:¬ s.os.length=16:=by omega
  simp only[if_neg hn,if_neg hn2];exact⟨_,_,rfl,.inl ⟨rfl,rfl⟩,.inr ⟨h1,h2,o,vo,h3,h4,rfl⟩,h5,s.enq_ok ok h2 (by rw[h3];exact h1) (by rw[h4,h3]),h6,h7⟩
theorem REnqGives.one{s s':Snd}{r:Rsn}{l:List Gf.F}{c B rb:Nat}{w w':World}{e:Ending}(h:REnqGives r l B rb w e w')(hR:RAt w B rb r)(ok:s.Ok)(sim:Sim s r c)(hs:EnqTo s l s'):
 e=.returned (.tuple #[.int .i64 (enqM s l),.agg #[.int .i64 (enqZ s l).1,.int .i64 (enqZ s l).2]])/\∃ r',RAt w' B rb r'/\Sim s' r' c/\But (r.foot rb) w w'/\∀ b,r'.foot rb b->r.foot rb b∨w.heap.size<=b:=by
 have hbb:∀ {w':World},Below w.heap.size w w'->But (r.foot rb) w w':=fun hb=>Below.but hb _ (fun i hi q=>absurd hi q)
 have hlen:=sim.len;unfold enqM enqZ;rcases h with⟨h1,rfl,hb⟩|⟨h1,h2,rfl,hb⟩|⟨h1,h2,rfl,o,va,vb,h3,h4,h5,h6,h7⟩
 ·rw[if_pos h1,if_pos h1]
  rcases hs with⟨_,rfl⟩|⟨g1,_⟩
  ·exact⟨rfl,r,hR.above hb,sim,hbb hb,fun b q=>.inl q⟩
  ·omega
 ·have hn:¬ 255<l.length:=by omega
  have hn2:s.os.length=16:=by omega
  rw[if_neg hn,if_pos hn2,if_neg hn,if_pos hn2];rcases hs with⟨_,rfl⟩|⟨_,g1,_⟩
  ·exact⟨rfl,r,hR.above hb,sim,hbb hb,fun b q=>.inl q⟩
  ·omega
 ·have hn:¬ 255<l.length:=by omega
  have hn2:¬ s.os.length=16:=by omega
  simp only[if_neg hn,if_neg hn2];rcases hs with⟨g1,_⟩|⟨g1,g2,o1,vo,g3,g4,rfl⟩
  ·rcases g1 with g1|g1<;>omega
  ·refine⟨by rw[hlen],_,h5,sim.enq ok (by rw[h3,g3]) ?_ (by rw[g4,g3]),h6,h7⟩
   rw[h4,g3,sim.S,sim.K]
section
variable {A:Nat->Addr}{B0:Nat}{R:Rst}{own0:Nat->Nat}{W0 W W':World}{hb t i:Nat}{hs:HS}{es:List Ent}{ps:List Pr}{a:Option Addr}{b o n c:Nat}{l:List Gf.F}
theorem wenq{G:Nat}{v1:Value}(h:PhG A B0 R own0 W0 hb hs es ps G v1 W)(hi:i<ps.length)(hO:OpB own0 W0 a b o n c l)(hL:Lent W G v1 [⟨.slice a n c,l⟩] [G] 1):
 Calls Tryz.prog 35 #[.pointer (some ⟨(pat ps i).sb,0,none⟩),.slice (some ⟨G,0,none⟩) n (n+2)] W fun e W'=>
  ∃ v s',e=.returned (.tuple #[.int .i64 (enqM (pat ps i).s l),v])/\VSays A W' v (enqZ (pat ps i).s l)/\EnqTo (pat ps i).s l s'/\PhG A B0 R own0 W0 hb hs es (ps.set i {pat ps i with s:=s'}) G v1 W'/\Lent W' G v1 [⟨.slice a n c,l⟩] [G] 1:=by
 have h':=h;obtain⟨own,hJ,hF,hX⟩:=h';have hG:Blk W G (marked l):=hL.blk 0 (by omega);have hfew:=hO.few;refine(enqueue_any (hJ.snd i hi).1 (hJ.snd i hi).2 hJ.errs hO.len (by omega) (.inl rfl) (marked_bs9 hG)).mono ?_;intro e W' hG';obtain⟨v,s',rfl,hv,he,hS,hok,hbu,hft⟩:=hG'.one (hJ.snd i hi).1 (hJ.snd i hi).2;obtain⟨h1,h2⟩:=h.stepS hL hi hbu hS hok hft;exact⟨v,s',rfl,hv,he,h1,h2⟩
theorem wrenq{v:Value}{z:Int×Int}{s':Snd}(h:PhB A B0 R own0 W0 hb hs es (ps.set i {pat ps i with s:=s'}) W)(hi:i<ps.length)(ok:(pat ps i).s.Ok)(sim:Sim (pat ps i).s (pat ps i).r t)(he:EnqTo (pat ps i).s l s')(hO:OpB own0 W0 a b o n c l)(hv:VSays A W v z):
 Calls Tryz.prog 83 #[.pointer (some ⟨(pat ps i).rb,0,none⟩),.slice a n c] W fun e W'=>
  e=.returned (.tuple #[.int .i64 (enqM (pat ps i).s l),.agg #[.int .i64 (enqZ (pat ps i).s l).1,.int .i64 (enqZ (pat ps i).s l).2]])/\VSays A W' v z/\∃ r',PhB A B0 R own0 W0 hb hs es ((ps.set i {pat ps i with s:=s'}).set i {pat (ps.set i {pat ps i with s:=s'}) i with r:=r'}) W'/\Sim s' r' t:=by
 have h':=h;obtain⟨own,hJ,hF⟩:=h';have hOW:=hO.fr hF;have hfew:=hO.few;have hi1:i<(ps.set i {pat ps i with s:=s'}).length:=by simpa using hi
 have hpr:pat (ps.set i {pat ps i with s:=s'}) i={pat ps i with s:=s'}:=by rw[pat_set hi,if_pos rfl]
 have hR:RAt W (hb+1) (pat ps i).rb (pat ps i).r:=by
  have:=hJ.rsn i hi1;rw[hpr]at this;exact this
 have hlt:=hJ.hands.lt;refine(renqueue_any hR (by omega) (by rw[sim.K,sim.N,sim.S];exact ok.cfg) (by rw[sim.len];exact ok.few) hO.len (by omega) hO.adr hOW.bs).mono ?_;intro e W' hG';obtain⟨rfl,r',hR',hs',hbu,hft⟩:=hG'.one hR ok sim he;refine⟨rfl,hv.kept (fun pb cs hp=>hbu.block pb (lt_of_block hp) (hR.neB hp)),r',?_,hs'⟩;exact h.stepR hi1 (by rw[hpr];exact hbu) (by rw[hpr];exact hR') (fun b q=>by rw[hpr]at q ⊢;exact hft b q)
end
theorem WStep.from{A:Nat->Addr}{B0:Nat}{R:Rst}{own own1:Nat->Nat}{w w1 w':World}{hb t n:Nat}(h:WStep A B0 R own1 w1 hb t n w')(hF:Fr own w own1 w1):WStep A B0 R own w hb t n w':=by
 obtain⟨own',hs',es',ps',m1,m2,m3⟩:=h;exact⟨own',hs',es',ps',m1,m2,hF.trans m3⟩
theorem sender_cells{A:Nat->Addr}{B0:Nat}{R:Rst}{own:Nat->Nat}{w:World}{hb:Nat}{hs:HS}{es:List Ent}{ps:List Pr}(h:WJ A B0 R own w hb hs es ps)(h0:0<ps.length):
 ∃ g c,hs.sv=.slice (some ⟨g,0,none⟩) ps.length c/\∀ j,j<ps.length->w.cell? ⟨g,j*2,none⟩=some (.pointer (some ⟨(pat ps j).sb,0,none⟩))/\w.cell? ⟨g,j*2+1,none⟩=some (.pointer (some ⟨(pat ps j).rb,0,none⟩)):=by
 obtain⟨g,c,hv,_,_⟩:=h.sown.form h0;refine⟨g,c,hv,fun j hj=>?_⟩;have eadd:∀ j,(⟨g,0,none⟩:Addr).add j=⟨g,j,none⟩:=fun j=>by unfold Addr.add;split<;>simp_all
 have hp:(prVals ps)[j]?=some (.pointer (some ⟨(pat ps j).sb,0,none⟩),.pointer (some ⟨(pat ps j).rb,0,none⟩)):=by unfold prVals;rw[List.getElem?_map,pat_some hj];rfl
 have x0:=h.sown.cells (g:=g) (by rw[hv];rfl) (2*j) _ (by rw[flat2_get0,hp];rfl);have x1:=h.sown.cells (g:=g) (by rw[hv];rfl) (2*j+1) _ (by rw[flat2_get1,hp];rfl);rw[eadd]at x0 x1;rw[Nat.mul_comm j 2];exact⟨x0,x1⟩
theorem wsends_old{A:Nat->Addr}{B0:Nat}{R:Rst}{own:Nat->Nat}{w:World}{hb t b o:Nat}{hs:HS}{es:List Ent}{ps:List Pr}{q:Opv}{l:List Gf.F}(hI:WI A B0 R own w hb t hs es ps)(hk:¬ q.kd=1)(ht:t<=200000000)(hon:-9223372036854775808<=q.on/\q.on<=9223372036854775807)(hOw:OpB own w q.p b o q.n q.c l):
 Calls Tryz.prog 51 #[.pointer (some ⟨hb,0,none⟩),.agg q.cells] w fun e w'=>e=.returned (.bool true)/\WStep A B0 R own w hb (t+1) ps.length w':=by
 have hbe:Below w.heap.size w (w.alloc (.cells q.cells 83)):=(Below.refl _ _).alloc (Nat.le_refl _) _;have hI0:=hI.above 1 hbe;have hF0:Fr own w (ownN own w.heap.size 1) _:=Fr.above 1 hbe;have hO0:ownN own w.heap.size 1 w.heap.size=1:=ownN_new (Nat.le_refl _);have hX0:=heap_alloc_new w (.cells q.cells 83);obtain⟨kd,on,tt,qa,K,N,S,p,n,c⟩:=q;simp only[Opv.cells]at *;have hfP:=hI.fewP;go_enter Tryz.func51,Tryz.ntmps51;go_upto_region 1 with fail;generalize w.alloc (.cells #[.int .i64 kd,.int .i64 on,.int .i64 tt,.int .i64 qa,.int .i64 K,.int .i64 N,.int .i64 S,.slice p n c] 83)=W0 at *;generalize ownN own w.heap.size 1=own0 at *;have hOb:=hOw.fr hF0;obtain⟨bx,hbx⟩:∃ x,x=w.heap.size:=⟨_,rfl⟩;rw[<- hbx]at hX0 hO0 ⊢;have HF0:Hid (Fr own w own0 W0):=hF0;clear hbx hF0 hbe hI hOw
 have HCL:Hid (∀(W:World) (own':Nat->Nat),Fr own0 W0 own' W->W.cell? ⟨bx,0,none⟩=some (.int .i64 kd)/\W.cell? ⟨bx,1,none⟩=some (.int .i64 on)/\W.cell? ⟨bx,7,none⟩=some (.slice p n c)):=fun W own' hF=>by
  have h:=((hF.keep bx (lt_of_block hX0) hO0).2).trans hX0;exact⟨cell_of_row W bx 0 _ _ _ h,cell_of_row W bx 1 _ _ _ h,cell_of_row W bx 7 _ _ _ h⟩
 obtain⟨x0,x1,x7⟩:=HCL.out W0 own0 (Fr.refl _ _);obtain⟨va,vc,hva,_⟩:=own_form2 hI0.sown;have c0:W0.cell? ⟨hb,0,none⟩=some (.slice va ps.length vc):=by rw[cell_of_row W0 hb 0 _ _ _ hI0.hands];show some hs.sv=_;rw[hva]
 by_cases hz:ps.length=0
 ·have hz1:(ps.length:Int)=0:=by omega
  have HI0:Hid (WI A B0 R own0 W0 hb t hs es ps):=hI0;clear hI0 hX0;go_wp2_with fail;go_ret;exact⟨rfl,_,_,_,_,HI0.out.more (by omega),rfl,HF0.out⟩
 ·have hz1:¬(ps.length:Int)=0:=by omega
  obtain⟨g,gc,hsv,hsc⟩:=sender_cells hI0.toWJ (by omega);rw[hva]at hsv;simp only[Value.slice.injEq]at hsv;obtain⟨rfl,-,-⟩:=hsv;obtain⟨j,hj⟩:∃ x,x=pickN on ps.length:=⟨_,rfl⟩;have hjl:j<ps.length:=by rw[hj];exact pickN_lt _ (by omega)
  obtain⟨t0,t1⟩:=hsc j hjl;have HPK:Hid (∀ W,Calls Tryz.prog 80 #[.int .i64 on,.int .i64 (ps.length:Int)] W fun e w'=>e=.returned (.int .i64 j)/\w'=W):=fun W=>by rw[hj];exact pick_any on ps.length (by omega) (by omega) hon W
  have HI0:Hid (WI A B0 R own0 W0 hb t hs es ps):=hI0;have hgl:=lt_of_cell t0;have hbl:=lt_of_cell x1;have hhl:=lt_of_cell c0;have n1:¬ g=W0.heap.size:=Nat.ne_of_lt hgl;have n2:¬ bx=W0.heap.size:=Nat.ne_of_lt hbl;have n3:¬ hb=W0.heap.size:=Nat.ne_of_lt hhl;have hj1:(0:Int)<=(j:Int):=by omega
  have hj2:(j:Int)<(ps.length:Int):=by omega
  obtain⟨sb,hsb⟩:∃ x,x=(pat ps j).sb:=⟨_,rfl⟩;obtain⟨rb,hrb⟩:∃ x,x=(pat ps j).rb:=⟨_,rfl⟩;rw[<- hsb]at t0;rw[<- hrb]at t1;have HSB:Hid (sb=(pat ps j).sb/\rb=(pat ps j).rb):=⟨hsb,hrb⟩;clear hj hsc hva hX0 hO0 hI0 hsb hrb;go_upto_region 9 with fail
  go_cut[9] (fun v wx=>∃ X,v=.pointer (some ⟨X,0,none⟩)/\wx.heap[X]?=some (.cells #[.pointer (some ⟨sb,0,none⟩),.pointer (some ⟨rb,0,none⟩)] 89 (0,0))/\W0.heap.size<=X/\Below W0.heap.size W0 wx)
  case first=>
   go_region_held3 (fun w'=>w'.cell? ⟨hb,0,none⟩=some (.slice (some ⟨g,0,none⟩) ps.length vc)/\w'.cell? ⟨bx,1,none⟩=some (.int .i64 on)/\w'.cell? ⟨g,j*2,none⟩=some (.pointer (some ⟨sb,0,none⟩))/\w'.cell? ⟨g,j*2+1,none⟩=some (.pointer (some ⟨rb,0,none⟩))) (go_keep) (first
    | (go_at_call 80;refine(HPK.out _).mono ?_;rintro e w' ⟨rfl,rfl⟩))
   all_goals go_wp2_with fail
   all_goals go_meet
   all_goals exact⟨W0.heap.size,rfl,heap_alloc_new W0 _,Nat.le_refl _,((Below.refl _ _).alloc (Nat.le_refl _) _).drew⟩
  case rest=>
   obtain⟨X,rfl,hX,hXl,hbx⟩:=hcut;clear x0 x1 x7 t0 t1 c0 hgl hbl hhl n1 n2 n3;generalize hWW:wc=W1 at *;clear hWW;have hI1:=HI0.out.above 1 hbx;have hF1:Fr own0 W0 (ownN own0 W0.heap.size 1) W1:=Fr.above 1 hbx;have hOX:ownN own0 W0.heap.size 1 X=1:=ownN_new hXl;have hO1:=hOb.fr hF1;have HF01:Hid (Fr own w (ownN own0 W0.heap.size 1) W1):=HF0.out.trans hF1;generalize ownN own0 W0.heap.size 1=own1 at *
   have HC1:Hid (∀(W:World) (own':Nat->Nat),Fr own1 W1 own' W->W.cell? ⟨bx,0,none⟩=some (.int .i64 kd)/\W.cell? ⟨bx,7,none⟩=some (.slice p n c)/\W.cell? ⟨X,0,none⟩=some (.pointer (some ⟨sb,0,none⟩))/\W.cell? ⟨X,1,none⟩=some (.pointer (some ⟨rb,0,none⟩))):=fun W own' hF=>by
    obtain⟨z0,_,z7⟩:=HCL.out W own' (hF1.trans hF);obtain⟨u0,u1,_,_⟩:=twoE (((hF.keep X (lt_of_block hX) hOX).2).trans hX);exact⟨z0,z7,u0,u1⟩
   obtain⟨x0,x7,y0,y1⟩:=HC1.out W1 own1 (Fr.refl _ _);have HI1:Hid (WI A B0 R own1 W1 hb t hs es ps):=hI1;clear hX hXl hbx hF1 hOX HCL HF0 hI1;by_cases hk3:kd=3
   ·subst hk3
    have HNX:Hid (Calls Tryz.prog 28 #[.pointer (some ⟨hb,0,none⟩),.agg #[.pointer (some ⟨sb,0,none⟩),.pointer (some ⟨rb,0,none⟩)]] W1 fun e w'=>∃ v,e=.returned (.tuple #[v,.bool true])/\WStep A B0 R own1 W1 hb (t+1) ps.length w'):=by
     show Calls _ _ _ _ _;rw[HSB.out.1,HSB.out.2];exact wnext_any HI1.out hjl ht
    go_wp2_with fail;refine HNX.out.mono ?_;rintro e w' ⟨v,rfl,hW⟩;go_wp2_with fail;go_ret;exact⟨rfl,hW.from HF01.out⟩
   ·by_cases hk2:kd=2
    ·subst hk2
     have hP0:PhB A B0 R own1 W1 hb hs es ps W1:=⟨own1,HI1.out.toWJ,Fr.refl _ _⟩;have hbl:hb<W1.heap.size:=HI1.out.hands.lt
     have HBX:Hid (∀(hs:HS) (ps':List Pr) W,PhB A B0 R own1 W1 hb hs es ps' W->W.cell? ⟨bx,7,none⟩=some (.slice p n c)/\W.cell? ⟨X,0,none⟩=some (.pointer (some ⟨sb,0,none⟩))/\W.cell? ⟨X,1,none⟩=some (.pointer (some ⟨rb,0,none⟩))):=fun hs ps' W h=>by
      obtain⟨own',_,hF⟩:=h;exact(HC1.out W own' hF).2
     have HBY:Hid (∀ W,PhB A B0 R own1 W1 hb hs es ps W->Calls Tryz.prog 81 #[.pointer (some ⟨hb,2,none⟩),.slice p n c] W fun e W'=>∃ G v1,e=.returned (.slice (some ⟨G,0,none⟩) n (n+2))/\PhG A B0 R own1 W1 hb hs es ps G v1 W'/\Lent W' G v1 [⟨.slice p n c,l⟩] [G] 1/\W1.heap.size<=G/\LowH hs es G):=fun W h=>wbytes h HI1.out.nil.in0 hO1
     have HHR:Hid (∀ W G v1,PhG A B0 R own1 W1 hb hs es ps G v1 W->Lent W G v1 [⟨.slice p n c,l⟩] [G] 1->Calls Tryz.prog 35 #[.pointer (some ⟨sb,0,none⟩),.slice (some ⟨G,0,none⟩) n (n+2)] W fun e W'=>∃ v s',e=.returned (.tuple #[.int .i64 (enqM (pat ps j).s l),v])/\VSays A W' v (enqZ (pat ps j).s l)/\EnqTo (pat ps j).s l s'/\PhG A B0 R own1 W1 hb hs es (ps.set j {pat ps j with s:=s'}) G v1 W'/\Lent W' G v1 [⟨.slice p n c,l⟩] [G] 1):=fun W G v1 h hL=>by
      rw[HSB.out.1];exact wenq h hjl hO1 hL
     have hP0d:PhB A B0 R own1 W1 hb hs es ps W1.drew:=hP0.above ((Below.refl _ _).drew)
     have HRH:Hid (∀ W v z s',PhB A B0 R own1 W1 hb hs es (ps.set j {pat ps j with s:=s'}) W->EnqTo (pat ps j).s l s'->VSays A W v z->Calls Tryz.prog 83 #[.pointer (some ⟨rb,0,none⟩),.slice p n c] W fun e W'=>e=.returned (.tuple #[.int .i64 (enqM (pat ps j).s l),.agg #[.int .i64 (enqZ (pat ps j).s l).1,.int .i64 (enqZ (pat ps j).s l).2]])/\VSays A W' v z/\∃ r',PhB A B0 R own1 W1 hb hs es ((ps.set j {pat ps j with s:=s'}).set j {pat (ps.set j {pat ps j with s:=s'}) j with r:=r'}) W'/\Sim s' r' t):=fun W v z s' h he hv=>by
      rw[HSB.out.2];exact wrenq h hjl (HI1.out.snd j hjl).2 (HI1.out.sim j hjl) he hO1 hv
     have HFIN:Hid (∀ s' r' W,PhB A B0 R own1 W1 hb hs es ((ps.set j {pat ps j with s:=s'}).set j {pat (ps.set j {pat ps j with s:=s'}) j with r:=r'}) W->Sim s' r' t->WStep A B0 R own w hb (t+1) ps.length W):=fun s' r' W h hs'=>(HI1.out.phase hjl (Fr.refl _ _) h (hs'.more (by omega))).from HF01.out
     generalize enqM (pat ps j).s l=em at *;generalize enqZ (pat ps j).s l=Z at *;obtain⟨z0,z1⟩:=Z;simp only at HRH;go_upto_region 12 with fail
     go_cut[10,11] (fun m v wx=>∃ G v1 s',m=.int .i64 em/\VSays A wx v (z0,z1)/\EnqTo (pat ps j).s l s'/\PhG A B0 R own1 W1 hb hs es (ps.set j {pat ps j with s:=s'}) G v1 wx/\Lent wx G v1 [⟨.slice p n c,l⟩] [G] 1/\W1.heap.size<=G/\LowH hs es G)
     case first=>
      go_region_with (first
       | (go_at_call 81;refine(HBY.out _ hP0d).mono ?_;rintro e w1 ⟨G,v1,rfl,hG1,hL1,hle1,hlow1⟩;obtain⟨x7',y0',y1'⟩:=HBX.out _ _ _ hG1.b)
       | (go_at_call 35;refine(HHR.out _ _ _ hG1 hL1).mono ?_;rintro e w2 ⟨v,s',rfl,hv,he,hG2,hL2⟩))
      all_goals go_wp2_with fail
      all_goals go_meet
      all_goals exact⟨G,v1,s',rfl,hv,he,hG2,hL2,hle1,hlow1⟩
     case rest=>
      obtain⟨G,v1,s',rfl,hv,he,hG,hL,hle,hlow⟩:=hcut;have HBK:Hid (Calls Tryz.prog 82 #[.pointer (some ⟨hb,2,none⟩),.slice none 0 0] wc fun e W'=>e=.returned (.bool true)/\PhB A B0 R own1 W1 hb hs es (ps.set j {pat ps j with s:=s'}) W'/\But (fun b=>b=hb∨b=G) wc W'):=wback _ hG HI1.out.nil hO1 hL hle hlow hbl;clear x0 x7 y0 y1;go_wp2_with fail;refine HBK.out.mono ?_;rintro e w3 ⟨rfl,hP3,hb3⟩
      have hv3:VSays A w3 u11 (z0,z1):=hv.kept (fun pb cs hp=>hb3.block pb (lt_of_block hp) (fun q=>by
       obtain⟨_,hJ,_⟩:=hG;rcases q with q|q
       ·exact ne_typ hp hJ.hands (by decide) q
       ·exact ne_typ hp (hL.blk 0 (by omega)) (by decide) q))
      clear hv hG hL hle hlow HBK hb3;obtain⟨x7,y0,y1⟩:=HBX.out _ _ _ hP3;go_wp2_with fail;refine(HRH.out w3 u11 (z0,z1) s' hP3 he hv3).mono ?_;rintro e w5 ⟨rfl,hv5,r',hP5,hs5⟩;have hb6:Below w5.heap.size w5 (w5.alloc (.cells #[.int .i64 z0,.int .i64 z1] 139)):=(Below.refl _ _).alloc (Nat.le_refl _) _;have hE6:=heap_alloc_new w5 (.cells #[.int .i64 z0,.int .i64 z1] 139);clear x7 y0 y1;go_upto_region 15 with fail;generalize w5.alloc (.cells #[.int .i64 z0,.int .i64 z1] 139)=W6 at *;have hP6:=hP5.above hb6;have hv6:=hv5.below hb6;obtain⟨eb,heb⟩:∃ x,x=w5.heap.size:=⟨_,rfl⟩;rw[<- heb]at hE6 ⊢;obtain⟨e0,e1,_,_⟩:=twoE hE6;have HE7:Hid (∀ w7,Below W6.heap.size W6 w7->w7.cell? ⟨eb,0,none⟩=some (.int .i64 z0)/\w7.cell? ⟨eb,1,none⟩=some (.int .i64 z1)):=fun w7 hb7=>⟨by rw[hb7.cell (lt_of_cell e0)];exact e0,by rw[hb7.cell (lt_of_cell e1)];exact e1⟩
      have HTD:Hid (∀ W,Below W6.heap.size W6 W->Calls Tryz.prog 56 #[u11] W fun e w'=>e=.returned (.agg #[.int .i64 z0,.int .i64 z1])/\Below W.heap.size W w'):=fun W hW=>told_says (z:=(z0,z1)) (hP6.above hW).errs (hv6.below hW)
      have hdr:Below W6.heap.size W6 W6.drew:=(Below.refl _ _).drew;clear heb hE6 hb6 hP5 hv5 hv3 hP3
      go_region_held3 (fun w'=>w'.cell? ⟨eb,0,none⟩=some (.int .i64 z0)/\w'.cell? ⟨eb,1,none⟩=some (.int .i64 z1)) (first | go_keep|exact hkeep) (first
       | (go_at_call 56;refine(HTD.out _ hdr).mono ?_;rintro e w7 ⟨rfl,hb7⟩;(have hbX:Below W6.heap.size W6 w7:=by first | exact Below.undraw hb7|exact hb7);have hkeep:=HE7.out w7 hbX;obtain⟨y0',y1'⟩:=hkeep))
      all_goals go_wp2_with fail
      all_goals go_ret
      all_goals exact⟨rfl,HFIN.out _ _ _ (hP6.above hbX) hs5⟩
    ·have HTL:Hid (Calls Tryz.prog 84 #[.pointer (some ⟨hb,0,none⟩),.agg #[.pointer (some ⟨sb,0,none⟩),.pointer (some ⟨rb,0,none⟩)],.slice p n c] W1 fun e w'=>e=.returned (.bool true)/\WStep A B0 R own1 W1 hb (t+1) ps.length w'):=by
      show Calls _ _ _ _ _;rw[HSB.out.1,HSB.out.2];exact wtell_any HI1.out hjl hO1
     go_wp2_with fail;refine HTL.out.mono ?_;rintro e w' ⟨rfl,hW⟩;go_wp2_with fail;go_ret;exact⟨rfl,hW.from HF01.out⟩
def Opv.more(q:Opv)(m:Nat):Nat:=if q.kd=1/\cfgB q.K q.N q.S=true then m+1 else m
theorem wsends_any{A:Nat->Addr}{B0:Nat}{R:Rst}{own:Nat->Nat}{w:World}{hb t b o:Nat}{hs:HS}{es:List Ent}{ps:List Pr}{q:Opv}{l:List Gf.F}(hI:WI A B0 R own w hb t hs es ps)(ht:t<=200000000)(hon:-9223372036854775808<=q.on/\q.on<=9223372036854775807)(hOw:OpB own w q.p b o q.n q.c l):
 Calls Tryz.prog 51 #[.pointer (some ⟨hb,0,none⟩),.agg q.cells] w fun e w'=>e=.returned (.bool true)/\WStep A B0 R own w hb (t+1) (q.more ps.length) w':=by
 unfold Opv.more;by_cases hk:q.kd=1
 ·refine(wsends_new hI hk ht).mono ?_
  rintro e w' ⟨h1,h2⟩;refine⟨h1,?_⟩;by_cases hc:cfgB q.K q.N q.S=true
  ·rw[if_pos hc]at h2
   rw[if_pos ⟨hk,hc⟩];exact h2
  ·rw[if_neg hc]at h2
   rw[if_neg (fun h=>hc h.2)];exact h2
 ·refine(wsends_old hI hk ht hon hOw).mono ?_
  rintro e w' ⟨h1,h2⟩;rw[if_neg (fun h=>hk h.1)];exact⟨h1,h2⟩
theorem wplays_any{A:Nat->Addr}{B0:Nat}{R:Rst}{own:Nat->Nat}{w:World}{hb t b o:Nat}{hs:HS}{es:List Ent}{ps:List Pr}{q:Opv}{l:List Gf.F}(hI:WI A B0 R own w hb t hs es ps)(hk:q.kd<=4)(ht:t<=200000000)(hon:-9223372036854775808<=q.on/\q.on<=9223372036854775807)(hOw:OpB own w q.p b o q.n q.c l):
 Calls Tryz.prog 26 #[.pointer (some ⟨hb,0,none⟩),.agg q.cells] w fun e w'=>e=.returned (.bool true)/\WStep A B0 R own w hb (t+1) (q.more ps.length) w':=by
 have hbe:Below w.heap.size w (w.alloc (.cells q.cells 83)):=(Below.refl _ _).alloc (Nat.le_refl _) _;have hI0:=hI.above 1 hbe;have hF0:Fr own w (ownN own w.heap.size 1) _:=Fr.above 1 hbe;have hX0:=heap_alloc_new w (.cells q.cells 83);have hOb:=hOw.fr hF0;have HS0:Hid (Calls Tryz.prog 51 #[.pointer (some ⟨hb,0,none⟩),.agg q.cells] (w.alloc (.cells q.cells 83)) fun e w'=>e=.returned (.bool true)/\WStep A B0 R own w hb (t+1) (q.more ps.length) w'):=(wsends_any hI0 ht hon hOb).mono (fun e w' ⟨h1,h2⟩=>⟨h1,h2.from hF0⟩)
 have HN:Hid (¬ q.kd=1->WStep A B0 R own w hb (t+1) (q.more ps.length) (w.alloc (.cells q.cells 83))):=fun h=>by
  unfold Opv.more;rw[if_neg (fun h'=>h h'.1)];exact⟨_,_,_,_,hI0.more (by omega),rfl,hF0⟩
 have hex:WStep A B0 R own w hb (t+1)=WStep A B0 R own w hb (t+1):=rfl;generalize hm:q.more ps.length=M at *;clear hm hI0 hF0 hOb hOw hI hbe hex;obtain⟨kd,on,tt,qa,K,N,S,p,n,c⟩:=q;simp only[Opv.cells]at *;go_enter Tryz.func26,Tryz.ntmps26;go_upto_region 1 with fail;generalize w.alloc (.cells #[.int .i64 kd,.int .i64 on,.int .i64 tt,.int .i64 qa,.int .i64 K,.int .i64 N,.int .i64 S,.slice p n c] 83)=W0 at *;obtain⟨bx,hbx⟩:∃ x,x=w.heap.size:=⟨_,rfl⟩;rw[<- hbx]at hX0 ⊢;have x0:W0.cell? ⟨bx,0,none⟩=some (.int .i64 kd):=cell_of_row W0 bx 0 _ _ _ hX0;have x1:W0.cell? ⟨bx,1,none⟩=some (.int .i64 on):=cell_of_row W0 bx 1 _ _ _ hX0;have x2:W0.cell? ⟨bx,2,none⟩=some (.int .i64 tt):=cell_of_row W0 bx 2 _ _ _ hX0;have x3:W0.cell? ⟨bx,3,none⟩=some (.int .i64 qa):=cell_of_row W0 bx 3 _ _ _ hX0;have x4:W0.cell? ⟨bx,4,none⟩=some (.int .i64 K):=cell_of_row W0 bx 4 _ _ _ hX0;have x5:W0.cell? ⟨bx,5,none⟩=some (.int .i64 N):=cell_of_row W0 bx 5 _ _ _ hX0;have x6:W0.cell? ⟨bx,6,none⟩=some (.int .i64 S):=cell_of_row W0 bx 6 _ _ _ hX0;have x7:W0.cell? ⟨bx,7,none⟩=some (.slice p n c):=cell_of_row W0 bx 7 _ _ _ hX0;clear hX0 hbx;by_cases h1:kd=1
 ·subst h1
  go_wp2_with fail;refine HS0.out.mono ?_;rintro e w' ⟨rfl,hW⟩;go_wp2_with fail;go_ret;exact⟨rfl,hW⟩
 ·have hN:=HN.out h1
  by_cases h2:kd=2
  ·subst h2
   go_wp2_with fail;refine HS0.out.mono ?_;rintro e w' ⟨rfl,hW⟩;go_wp2_with fail;go_ret;exact⟨rfl,hW⟩
  ·by_cases h3:kd=3
   ·subst h3
    go_wp2_with fail;refine HS0.out.mono ?_;rintro e w' ⟨rfl,hW⟩;go_wp2_with fail;go_ret;exact⟨rfl,hW⟩
   ·by_cases h4:kd=4
    ·subst h4
     go_wp2_with fail;refine HS0.out.mono ?_;rintro e w' ⟨rfl,hW⟩;go_wp2_with fail;go_ret;exact⟨rfl,hW⟩
    ·have h5:¬ kd=5:=by omega
     have h6:¬ kd=6:=by omega
     have h7:¬ kd=7:=by omega
     have h8:¬ kd=8:=by omega
     have h9:¬ kd=9:=by omega
     have h10:¬ kd=10:=by omega
     go_wp2_with fail;go_ret;exact⟨rfl,hN⟩
structure Opb extends Opv where
 b:Nat
 o:Nat
 l:List Gf.F
def qat(qs:List Opb)(i:Nat):Opb:=qs.getD i ⟨⟨0,0,0,0,0,0,0,none,0,0⟩,0,0,[]⟩
structure OpsAt(own:Nat->Nat)(w:World)(lb lo:Nat)(qs:List Opb):Prop where
 cell:∀ i,i<qs.length->∀ k,k<8->w.cell? ⟨lb,lo+i*8+k,none⟩=(qat qs i).cells[k]?
 bytes:∀ i,i<qs.length->OpB own w (qat qs i).p (qat qs i).b (qat qs i).o (qat qs i).n (qat qs i).c (qat qs i).l
 on:∀ i,i<qs.length->-9223372036854775808<=(qat qs i).on/\(qat qs i).on<=9223372036854775807
 free:0<qs.length->lb<w.heap.size/\own lb=1
theorem OpsAt.fr{own own':Nat->Nat}{w w':World}{lb lo:Nat}{qs:List Opb}(h:OpsAt own w lb lo qs)(hf:Fr own w own' w'):OpsAt own' w' lb lo qs:=by
 refine⟨fun i hi k hk=>?_,fun i hi=>(h.bytes i hi).fr hf,h.on,fun h0=>?_⟩
 ·obtain⟨h1,h2⟩:=h.free (by omega)
  have hk':=(hf.keep lb h1 h2).2;have hc:w'.cell? ⟨lb,lo+i*8+k,none⟩=w.cell? ⟨lb,lo+i*8+k,none⟩:=World.cell?_of_block (w:=w) (a:=⟨lb,lo+i*8+k,none⟩) hk';rw[hc];exact h.cell i hi k hk
 ·obtain⟨h1,h2⟩:=h.free h0
  exact⟨Nat.lt_of_lt_of_le h1 hf.size,(hf.keep lb h1 h2).1⟩
structure Pt where
 ps:List Gf.F
 pv:Value
 rs:List Row
 sv:Value
def pt0:Pt:=⟨[],.slice none 0 0,[],.slice none 0 0⟩
def gpt(ts:List Pt)(i:Nat):Pt:=ts.getD i pt0
theorem gpt_some{ts:List Pt}{i:Nat}(h:i<ts.length):ts[i]?=some (gpt ts i):=by simp[gpt,List.getD,h]
theorem gpt_set{ts:List Pt}{i:Nat}(hi:i<ts.length)(p:Pt)(j:Nat):gpt (ts.set i p) j=if i=j then p else gpt ts j:=by
 unfold gpt;rw[List.getD_eq_getElem?_getD,List.getD_eq_getElem?_getD,List.getElem?_set];split
 ·rename_i e;subst e;simp
 ·rfl
structure Kn where
 len:Nat
 K:Nat
 N:Nat
 S:Nat
 ts:List Pt
 bg:Nat
def Kn.T(k:Kn):Nat:=symN k.S k.len
def ptVals(ts:List Pt):List (Value×Value):=ts.map fun p=>(p.pv,p.sv)
structure Kn.Ok(k:Kn):Prop where
 cfg:Cfg k.K k.N k.S
 len:k.len<=255
 blocks:k.ts.length=partsN k.T k.K
 few:∀ i,i<k.ts.length->(gpt k.ts i).rs.length<=srcN k.K k.T i
 same:∀ i,i<k.ts.length->(gpt k.ts i).ps.length=(gpt k.ts i).rs.length
 size:∀ i,i<k.ts.length->∀ r ∈(gpt k.ts i).rs,r.l.length=k.S/\r.o=0
def Kn.foot(k:Kn)(kb b:Nat):Prop:=b=kb∨b=k.bg∨∃ i,i<k.ts.length/\((gpt k.ts i).pv.ownBlock=some b∨(gpt k.ts i).sv.ownBlock=some b∨∃ r ∈(gpt k.ts i).rs,r.b=b)
structure KAt(w:World)(B kb:Nat)(k:Kn):Prop where
 low:B<=kb
 blk:w.heap[kb]?=some (.cells #[.int .i64 (k.len:Int),.int .i64 (k.K:Int),.int .i64 (k.N:Int),.int .i64 (k.S:Int),.int .i64 (k.T:Int),.slice (some ⟨k.bg,0,none⟩) k.ts.length k.ts.length] 155 (0,0))
 low2:B<=k.bg
 row:w.heap[k.bg]?=some (.cells (flat2 (ptVals k.ts)).toArray 174 (0,0))
 places:∀ i,i<k.ts.length->w.ownsRow B 5 1 (gpt k.ts i).pv (gpt k.ts i).ps.length (encL (gpt k.ts i).ps)
 syms:∀ i,i<k.ts.length->w.ownsRow B 33 1 (gpt k.ts i).sv (gpt k.ts i).rs.length ((gpt k.ts i).rs.map Row.val)
 bytes:∀ i,i<k.ts.length->∀ r ∈(gpt k.ts i).rs,B<=r.b/\w.ownsRow B 5 1 r.val r.l.length (encL r.l)
 apartP:∀ i j,i<k.ts.length->j<k.ts.length->∀ g,(gpt k.ts i).pv.ownBlock=some g->(gpt k.ts j).pv.ownBlock=some g->i=j
 apartS:∀ i j,i<k.ts.length->j<k.ts.length->∀ g,(gpt k.ts i).sv.ownBlock=some g->(gpt k.ts j).sv.ownBlock=some g->i=j
 apartR:∀ i j,i<k.ts.length->j<k.ts.length->∀ g,(gpt k.ts i).pv.ownBlock=some g->∀ r ∈(gpt k.ts j).rs,r.b≠g
theorem Row.own(r:Row):r.val.ownBlock=some r.b↔True:=by simp[Row.val,Value.ownBlock]
theorem KAt.foot_lt{w:World}{B kb:Nat}{k:Kn}(h:KAt w B kb k){b:Nat}(hb:k.foot kb b):B<=b/\b<w.heap.size:=by
 rcases hb with rfl|rfl|⟨i,hi,hb|hb|⟨r,hr,rfl⟩⟩
 ·exact⟨h.low,lt_of_block h.blk⟩
 ·exact⟨h.low2,lt_of_block h.row⟩
 ·exact(h.places i hi).lt b hb
 ·exact(h.syms i hi).lt b hb
 ·exact⟨(h.bytes i hi r hr).1,((h.bytes i hi r hr).2.lt r.b (r.own.2 trivial)).2⟩
theorem KAt.kept{w w':World}{B kb:Nat}{k:Kn}(h:KAt w B kb k)(hk:∀ b,k.foot kb b->w'.heap[b]?=w.heap[b]?):KAt w' B kb k:=
 ⟨h.low,(hk kb (.inl rfl)).trans h.blk,h.low2,(hk _ (.inr (.inl rfl))).trans h.row,
  fun i hi=>own_of_block (h.places i hi) (fun g hg=>hk g (.inr (.inr ⟨i,hi,.inl hg⟩))),fun i hi=>own_of_block (h.syms i hi) (fun g hg=>hk g (.inr (.inr ⟨i,hi,.inr (.inl hg)⟩))),
  fun i hi r hr=>⟨(h.bytes i hi r hr).1,own_of_block (h.bytes i hi r hr).2 (fun g hg=>hk g (.inr (.inr ⟨i,hi,.inr (.inr ⟨r,hr,by simpa [Row.val,Value.ownBlock] using hg⟩)⟩)))⟩,h.apartP,h.apartS,h.apartR⟩
theorem KAt.above{w w':World}{B kb:Nat}{k:Kn}(h:KAt w B kb k)(hb:Below w.heap.size w w'):KAt w' B kb k:=h.kept (fun b q=>hb.block b (h.foot_lt q).2)
theorem KAt.cells{w:World}{B kb:Nat}{k:Kn}(h:KAt w B kb k):
 w.cell? ⟨kb,0,none⟩=some (.int .i64 (k.len:Int))/\w.cell? ⟨kb,1,none⟩=some (.int .i64 (k.K:Int))/\w.cell? ⟨kb,2,none⟩=some (.int .i64 (k.N:Int))/\w.cell? ⟨kb,3,none⟩=some (.int .i64 (k.S:Int))/\w.cell? ⟨kb,4,none⟩=some (.int .i64 (k.T:Int))/\w.cell? ⟨kb,5,none⟩=some (.slice (some ⟨k.bg,0,none⟩) k.ts.length k.ts.length):=
 ⟨cell_of_row w _ 0 _ _ _ h.blk,cell_of_row w _ 1 _ _ _ h.blk,cell_of_row w _ 2 _ _ _ h.blk,cell_of_row w _ 3 _ _ _ h.blk,cell_of_row w _ 4 _ _ _ h.blk,cell_of_row w _ 5 _ _ _ h.blk⟩
theorem KAt.part{w:World}{B kb:Nat}{k:Kn}(h:KAt w B kb k){i:Nat}(hi:i<k.ts.length):w.cell? ⟨k.bg,i*2,none⟩=some (gpt k.ts i).pv/\w.cell? ⟨k.bg,i*2+1,none⟩=some (gpt k.ts i).sv:=by
 refine⟨?_,?_⟩
 ·rw[cell_of_row w _ _ _ _ _ h.row,Nat.mul_comm i 2,List.getElem?_toArray,flat2_get0,ptVals,List.getElem?_map,gpt_some hi];rfl
 ·rw[cell_of_row w _ _ _ _ _ h.row,Nat.mul_comm i 2,List.getElem?_toArray,flat2_get1,ptVals,List.getElem?_map,gpt_some hi];rfl
theorem glength_any{w:World}{B kb:Nat}{k:Kn}(h:KAt w B kb k):
 Calls Tryz.prog 38 #[.pointer (some ⟨kb,0,none⟩)] w fun e w'=>e=.returned (.int .i64 (k.len:Int))/\w'=w:=by
 obtain⟨c0,_⟩:=h.cells;go_enter Tryz.func38,Tryz.ntmps38;go_wp2_with fail;go_ret;exact⟨rfl,rfl⟩
theorem glack_any{w:World}{B kb i:Nat}{k:Kn}(h:KAt w B kb k)(ok:k.Ok)(hi:i<k.ts.length):
 Calls Tryz.prog 64 #[.pointer (some ⟨kb,0,none⟩),.int .i64 i] w fun e w'=>e=.returned (.int .i64 ((srcN k.K k.T i - (gpt k.ts i).rs.length:Nat):Int))/\Below w.heap.size w w':=by
 obtain⟨c0,c1,c2,c3,c4,c5⟩:=h.cells;obtain⟨_,t1⟩:=h.part hi;obtain⟨k1,k8,kn,n16,s1,s8⟩:=ok.cfg;have hTr:=symN_range (S:=k.S) (len:=k.len) s1;have hTe:k.T=symN k.S k.len:=rfl;have hlen:=ok.len;have hq:i<partsN k.T k.K:=by rw[<- ok.blocks];exact hi
 have hiK:i*k.K<k.T:=partsN_mul k1 hq;have hQl:=partsN_le (a:=k.T) k1;have hfew:=ok.few i hi;have hsr:srcN k.K k.T i<=8:=by unfold srcN;omega
 obtain⟨sa,sc,hsv,_⟩:=own_form2 (h.syms i hi);rw[hsv]at t1;have HSC:Hid (∀ W,Calls Tryz.prog 74 #[.agg #[.int .i64 (k.K:Int),.int .i64 (k.N:Int),.int .i64 (k.S:Int),.int .i64 (k.T:Int)],.int .i64 i] W fun e w'=>e=.returned (.int .i64 (srcN k.K k.T i:Int))/\Below W.heap.size W w'):=fun W=>sources_any k.K k.N k.S k.T i (by omega) hiK W
 have hbl:=ok.blocks;have hi2:k.ts.length<=1000:=by omega
 obtain⟨m,hm⟩:∃ x,x=k.ts.length:=⟨_,rfl⟩;rw[<- hm]at c5 hi hi2;generalize k.T=T at *;generalize srcN k.K T i=sn at *;generalize (gpt k.ts i).rs.length=rn at *;have hsub:(sn:Int) - (rn:Int)=((sn - rn:Nat):Int):=by omega
 obtain⟨df,hdf⟩:∃ x,x=sn - rn:=⟨_,rfl⟩;rw[<- hdf]at hsub ⊢;have hdf2:df<=8:=by omega
 have hwr:IntKind.i64.wrap (df:Int)=(df:Int):=by rw[IntKind.wrap_i64];omega
 have hlt1:(0:Int)<=(i:Int):=by omega
 have hlt2:(i:Int)<(m:Int):=by omega
 clear hdf hm hbl hq hiK hQl hTe hsv hTr;go_enter Tryz.func64,Tryz.ntmps64;go_upto_region 1 with fail
 go_region_held3 (fun w'=>w'.cell? ⟨kb,1,none⟩=some (.int .i64 (k.K:Int))/\w'.cell? ⟨kb,2,none⟩=some (.int .i64 (k.N:Int))/\w'.cell? ⟨kb,3,none⟩=some (.int .i64 (k.S:Int))/\w'.cell? ⟨kb,4,none⟩=some (.int .i64 T)/\w'.cell? ⟨kb,5,none⟩=some (.slice (some ⟨k.bg,0,none⟩) m m)/\w'.cell? ⟨k.bg,i*2+1,none⟩=some (.slice sa rn sc)) (first | go_keep|exact hkeep) (first
  | (go_at_call 74;refine(HSC.out _).mono ?_;rintro e w1 ⟨rfl,hb1⟩;have hkeep:w1.cell? ⟨kb,1,none⟩=some (.int .i64 (k.K:Int))/\w1.cell? ⟨kb,2,none⟩=some (.int .i64 (k.N:Int))/\w1.cell? ⟨kb,3,none⟩=some (.int .i64 (k.S:Int))/\w1.cell? ⟨kb,4,none⟩=some (.int .i64 T)/\w1.cell? ⟨kb,5,none⟩=some (.slice (some ⟨k.bg,0,none⟩) m m)/\w1.cell? ⟨k.bg,i*2+1,none⟩=some (.slice sa rn sc):=⟨by rw[hb1.cell (lt_of_cell c1)];exact c1,by rw[hb1.cell (lt_of_cell c2)];exact c2,by rw[hb1.cell (lt_of_cell c3)];exact c3,by rw[hb1.cell (lt_of_cell c4)];exact c4,by rw[hb1.cell (lt_of_cell c5)];exact c5,by rw[hb1.cell (lt_of_cell t1)];exact t1⟩))
 all_goals go_wp2_with fail
 all_goals go_ret
 all_goals exact⟨rfl,Below.undraw hb1⟩
def Kn.lk(k:Kn)(i:Nat):Nat:=srcN k.K k.T i - (gpt k.ts i).rs.length
def Kn.lks(k:Kn):Nat->List (Nat×Nat)
 | 0=>[]
 | n+1=>if 0<k.lk n then k.lks n++[(n,k.lk n)] else k.lks n
theorem Kn.lks_le(k:Kn):∀ n,(k.lks n).length<=n
 | 0=>Nat.le_refl _
 | n+1=>by
  unfold Kn.lks;have:=k.lks_le n;split
  ·simp;omega
  ·omega
theorem Tryz.info_lackZ:(Tryz.prog.info? 122).map (fun i=>(i.zero,i.size,i.bytes))=some (some (.agg #[.int .i64 0,.int .i64 0]),2,16):=by kernel_rfl
theorem Tryz.lackZ_parts:∃ i,Tryz.prog.info? 122=some i/\i.zero=some (.agg #[.int .i64 0,.int .i64 0])/\i.size=2/\i.bytes=16:=by
 obtain⟨i,hi,h⟩:=Option.map_eq_some_iff.1 Tryz.info_lackZ;simp only[Prod.mk.injEq]at h;exact⟨i,hi,h.1,h.2.1,h.2.2⟩
theorem cell_two_atZ(w:World)(u v:Value)(t:TypeId)(H:Nat)(hH:H=w.heap.size):∀ j x,[u,v][j]?=some x->(w.alloc (.cells #[u,v] t)).cell? ((⟨H,0,none⟩:Addr).add j)=some x:=by
 intro j x hj;subst hH;have e:(⟨w.heap.size,0,none⟩:Addr).add j=⟨w.heap.size,j,none⟩:=by unfold Addr.add;split<;>simp_all
 rw[e,cell_of_row _ _ j _ _ _ (heap_alloc_new w (.cells #[u,v] t)),List.getElem?_toArray];exact hj
theorem glacks_any{w:World}{B kb:Nat}{k:Kn}(h:KAt w B kb k)(ok:k.Ok):
 Calls Tryz.prog 39 #[.pointer (some ⟨kb,0,none⟩)] w fun e w'=>
  ∃ v,e=.returned v/\w'.ownsRow w.heap.size 122 2 v (k.lks k.ts.length).length (flat2 (debtVals (k.lks k.ts.length)))/\Below w.heap.size w w':=by
 obtain⟨_,_,_,_,_,c5⟩:=h.cells;obtain⟨k1,k8,kn,n16,s1,s8⟩:=ok.cfg;have hTr:=symN_range (S:=k.S) (len:=k.len) s1;have hTe:k.T=symN k.S k.len:=rfl;have hlen:=ok.len;have hQl:=partsN_le (a:=k.T) k1;have hbl:=ok.blocks;obtain⟨iL,hiL,hiL0,hiL1,hiL2⟩:=Tryz.lackZ_parts;obtain⟨Q,hQ⟩:∃ x,x=k.ts.length:=⟨_,rfl⟩;have hQ2:Q<=300:=by omega
 rw[<- hQ]at c5 ⊢;have HLK:Hid (∀ W i,i<Q->KAt W B kb k->Calls Tryz.prog 64 #[.pointer (some ⟨kb,0,none⟩),.int .i64 i] W fun e w'=>e=.returned (.int .i64 (k.lk i:Int))/\Below W.heap.size W w'):=fun W i hi hK=>glack_any hK ok (by omega)
 have HL8:Hid (∀ i,i<Q->k.lk i<=8):=fun i hi=>by unfold Kn.lk srcN;omega
 have HLE:Hid (∀ n,(k.lks n).length<=n):=k.lks_le;clear hQ hbl hQl hTe hTr;go_enter Tryz.func39,Tryz.ntmps39;go_wp2_with fail;clear c5
 go_loopw[3,4,5,11] (fun v _ _ t wr=>∃ i:Nat,i<=Q/\t=.int .i64 i/\wr.ownsRow w.heap.size 122 2 v (k.lks i).length (flat2 (debtVals (k.lks i)))/\Below w.heap.size w wr) (fun _ _ _ t _=>Q - (intOf t).toNat)
 case atStart=>exact⟨0,by omega,rfl,World.ownsRow_nil ..,Below.refl _ _⟩
 case round=>
  obtain⟨i,hi,rfl,hown,hbr⟩:=hrel;by_cases hlt:i<Q
  ·have hlt1:(i:Int)<(Q:Int):=by omega
   have hKr:=h.above hbr;have h8:=HL8.out i hlt;have hle:=HLE.out i;have HC:=HLK.out wr i hlt hKr;have HLS:Hid (k.lks (i+1)=if 0<k.lk i then k.lks i++[(i,k.lk i)] else k.lks i):=rfl;obtain⟨d,hd⟩:∃ x,x=k.lk i:=⟨_,rfl⟩;rw[<- hd]at HC h8 HLS;obtain⟨X,hX⟩:∃ x,x=k.lks i:=⟨_,rfl⟩;rw[<- hX]at hown hle HLS;clear hd hX;obtain⟨xa,xc,hxv,_⟩:=own_form2 hown;obtain⟨wA,hwA⟩:∃ x,x=wr:=⟨wr,rfl⟩;subst hwA;obtain rfl:=hxv;go_wp2_with fail;refine HC.mono ?_;rintro e w1 ⟨rfl,hb1⟩;have hb01:=hbr.trans (hb1.mono hbr.size);have hs1:=hb01.size;have hown1:w1.ownsRow w.heap.size 122 2 (.slice xa X.length xc) X.length (flat2 (debtVals X)):=own_of_block hown (fun g hg=>hb1.block g (hown.lt g hg).2);by_cases hpos:0<d
   ·have hpos1:(0:Int)<(d:Int):=by omega
    have HMX:Hid (X.length+1<=maxLen):=by show _<=_;unfold maxLen;omega
    have HNW:Hid (∀ u ∈ [Value.int .i64 i,.int .i64 d],u.oneCell'=true):=fun u hu=>by simp at hu;rcases hu with rfl|rfl<;>rfl
    go_wp2_with (at_builtin;refine wpList_append_lies _ rfl _ _ _ rfl w.heap.size 122 iL (.agg #[.int .i64 0,.int .i64 0]) 2 16 Tryz.underlying58 hiL hiL0 hiL1 hiL2 rfl (by omega) (.slice xa X.length xc) X.length (flat2 (debtVals X)) rfl (hown1.alloc _) ⟨w1.heap.size,0,none⟩ 1 1 [.int .i64 i,.int .i64 d] rfl rfl (cell_two_atZ w1 _ _ _ _ rfl) HNW.out (by omega) HMX.out (by omega) (by simp;omega) (w1.heap.size+1) (by simp) ?_);intro g6 cap6 w6 hown6 hgr6 hlie6 hlt6;go_wp2_with fail
    go_roundw
    case rel=>
     refine⟨i+1,by omega,by go_num,?_,((hb01.alloc hs1 _).grown hgr6 (by simp;omega) (fun t ht=>(hown1.lt t ht).1))⟩;rw[HLS.out,if_pos hpos];have e:flat2 (debtVals (X++[(i,d)]))=flat2 (debtVals X)++[.int .i64 i,.int .i64 d]:=by simp[debtVals,flat2_append];rfl
     rw[e,List.length_append];exact hown6
    case measure=>simp[intOf];omega
   ·have hpos1:¬(0:Int)<(d:Int):=by omega
    go_wp2_with fail
    go_roundw
    case rel=>
     refine⟨i+1,by omega,by go_num,?_,hb01⟩;rw[HLS.out,if_neg hpos];exact hown1
    case measure=>simp[intOf];omega
  ·obtain rfl:i=Q:=by omega
   have hlt1:¬(i:Int)<(i:Int):=by omega
   go_wp2_with fail;go_ret;exact⟨_,rfl,hown,hbr⟩
end Go.Proofs.YtjabhnhejbhgjaaGreatDoor
