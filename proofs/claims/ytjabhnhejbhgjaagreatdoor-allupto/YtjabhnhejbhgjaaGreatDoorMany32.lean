import Derived.Test.YtjabhnhejbhgjaaGreatDoorMany31
import Derived.Test.YtjabhnhejbhgjaaGreatDoorMany24
import Derived.Deep.CutRange
import Derived.Test.YtjabhnhejbhgjaaGreatDoorMany23
import Derived.Test.YtjabhnhejbhgjaaGreatDoorMany30
set_option maxRecDepth 100000
set_option maxHeartbeats 8000000
namespace Go.Proofs.YtjabhnhejbhgjaaGreatDoor
open Go.RowKit
theorem has_gen(a:Option Addr)(g c n:Nat)(l:List Int)(v:Int)(w:World)(hl:l.length=n)(hn:n<=140737488355328)(ha:0<n->a=some ⟨g,0,none⟩)(hZ:Zs w g 0 l):
 Calls Tryz.prog 136 #[.slice a n c,.int .i64 v] w fun e w'=>e=.returned (.bool (hasB l n v))/\w'=w:=by
 by_cases h0:n=0
 ·subst h0
  have hf:hasB l 0 v=false:=by
   cases h:hasB l 0 v
   ·rfl
   ·obtain⟨i,hi,_⟩:=(hasB_iff l 0 v).1 h
    omega
  rw[hf];clear hf hZ ha hl;go_enter Tryz.func136,Tryz.ntmps136;go_wp2_with fail
  go_loopw[5] (fun t wr=>t=.int .i64 0/\wr=w) (fun _ _=>0)
  case atStart=>exact⟨rfl,rfl⟩
  case round=>
   obtain⟨rfl,rfl⟩:=hrel;go_wp2_with fail;go_ret;exact⟨rfl,rfl⟩
 ·rw[ha (by omega)]
  exact has_any g c n l v w hl hn hZ
theorem RPGives.both{K N S:Nat}{l:List Gf.F}{w w':World}{e:Ending}(h:RPGives K N S l w e w')(hp:parseE K N S l=none)(hS:1<=S):
 ∃(x3 x4 M c6 n5 c5:Nat) (a5 a6:Option Addr),e=.returned (.tuple #[.agg #[.int .i64 (bt l 0:Int),.int .i64 (bt l 1:Int),.int .i64 (lenOf l:Int),.int .i64 x3,.int .i64 x4,.slice a5 n5 c5,.slice a6 M c6],.agg #[.int .i64 0,.int .i64 (-1)]])/\
  (bt l 0=1->x3=bt (l.drop 4) 0/\x4=bt (l.drop 4) 1/\n5=S/\(a6=none/\M=0/\c6=0)/\∃ g,a5=some ⟨g,0,none⟩/\w'.ownsRow w.heap.size 5 1 (.slice (some ⟨g,0,none⟩) S c5) S (encL ((l.drop 4).drop 2)))/\Below w.heap.size w w':=by
 obtain⟨h1,hb⟩:=h;rw[hp]at h1;by_cases hk:bt l 0=1
 ·simp only[if_pos hk]at h1
  obtain⟨a,c1,he,hown⟩:=h1;obtain⟨g,cap,hv,_,_⟩:=hown.form (by omega);simp only[Value.slice.injEq]at hv;obtain⟨rfl,-,-⟩:=hv;exact⟨_,_,0,0,S,c1,_,none,he,fun _=>⟨rfl,rfl,rfl,⟨rfl,rfl,rfl⟩,g,rfl,hown⟩,hb⟩
 ·simp only[if_neg hk]at h1
  obtain⟨a,c1,he,ho⟩:=h1;exact⟨0,0,_,c1,0,0,none,a,he,fun h=>absurd h hk,hb⟩
theorem hasB_wh(wh:List Nat)(m:Nat):hasB (wh.map fun n:Nat=>(n:Int)) wh.length (m:Int)=decide (m ∈ wh):=by
 have h1:hasB (wh.map fun n:Nat=>(n:Int)) wh.length (m:Int)=true↔m ∈ wh:=by
  rw[hasB_iff];constructor
  ·rintro⟨i,hi,e⟩
   have:zat (wh.map fun n:Nat=>(n:Int)) i=(wh[i]:Int):=by simp[zat,List.getD,hi]
   rw[this]at e;have e':wh[i]=m:=by omega
   rw[<- e'];exact List.getElem_mem hi
  ·intro h
   obtain⟨i,hi⟩:=List.mem_iff_getElem?.1 h;have hil:i<wh.length:=(List.getElem?_eq_some_iff.1 hi).1;refine⟨i,hil,?_⟩;simp[zat,List.getD,hi]
 by_cases h:m ∈ wh
 ·rw[decide_eq_true h,h1];exact h
 ·rw[decide_eq_false h]
  cases hb:hasB (wh.map fun n:Nat=>(n:Int)) wh.length (m:Int)
  ·rfl
  ·exact absurd (h1.1 hb) h
theorem RrAt.zs{w:World}{B rb:Nat}{r:Rrv}(h:RrAt w B rb r):∃ g,(0<r.wh.length->∃ c,r.wv=.slice (some ⟨g,0,none⟩) r.wh.length c)/\Zs w g 0 (r.wh.map fun n:Nat=>(n:Int)):=by
 by_cases h0:0<r.wh.length
 ·obtain⟨g,c,hv,_,_⟩:=h.wown.form h0
  have ho:=h.wown;rw[hv]at ho;refine⟨g,fun _=>⟨c,hv⟩,own_zs (B:=B) (c:=c) (n:=r.wh.length) ?_ (by simp)⟩;have e:encZ (r.wh.map fun n:Nat=>(n:Int))=r.wh.map fun n:Nat=>Value.int .i64 n:=by simp[encZ]
  rw[e];exact ho
 ·refine⟨0,fun h=>absurd h h0,fun i hi=>?_⟩
  simp at hi;omega
theorem cell_three_at(w:World)(u v x:Value)(t:TypeId)(H:Nat)(hH:H=w.heap.size):∀ j y,[u,v,x][j]?=some y->(w.alloc (.cells #[u,v,x] t)).cell? ((⟨H,0,none⟩:Addr).add j)=some y:=by
 intro j y hj;subst hH;rw[addr0,cell_of_row _ _ j _ _ _ (heap_alloc_new w (.cells #[u,v,x] t))];simpa using hj
theorem fit_begin{q:Rrv}(h:q.Fit){m len:Nat}{kv:Value}(hm:m<16)(hl:len<=255)(h4:q.kn.length<4):(q.begin m len kv).Fit:=by
 have hle:(q.begin m len kv).kn.length=q.kn.length+1:=by simp[Rrv.begin]
 refine⟨h.cfg,by omega,fun i hi=>?_,h.wh,h.tk⟩;rw[hle]at hi;by_cases e:i<q.kn.length
 ·have:prat (q.begin m len kv).kn i=prat q.kn i:=prat_push _ _ _ e
  rw[this];exact h.part i e
 ·obtain rfl:i=q.kn.length:=by omega
  have:prat (q.begin m len kv).kn q.kn.length=⟨m,len,[],.slice none 0 0⟩:=prat_last _ _;rw[this];exact fit0 hm hl
theorem RrAt.neE{w:World}{B rb E:Nat}{r:Rrv}{cs:Array Value}(h:RrAt w B rb r)(hE:w.heap[E]?=some (.cells cs 139 (0,0))):¬ r.foot rb E:=by
 intro hb;rcases hb with q|q|q|q|⟨t,ht,q⟩|⟨i,hi,q|⟨p,hp,q⟩⟩
 ·exact ne_typ9 h.blk (q ▸ hE) (by decide) rfl
 ·exact own_ne h.kown q hE (by decide) rfl
 ·exact own_ne h.wown q hE (by decide) rfl
 ·exact own_ne h.town q hE (by decide) rfl
 ·obtain⟨_,⟨cs',h2⟩,_⟩:=h.objs t ht
  exact ne_typ9 h2 (q ▸ hE) (by decide) rfl
 ·exact own_ne (h.pown i hi) q hE (by decide) rfl
 ·obtain⟨_,⟨cs',h2⟩,_⟩:=h.rows i hi p hp
  exact ne_typ9 h2 (q ▸ hE) (by decide) rfl
theorem cell_seven_at(w:World)(u0 u1 u2 u3 u4 u5 u6:Value)(t:TypeId)(H:Nat)(hH:H=w.heap.size):∀ j y,[u0,u1,u2,u3,u4,u5,u6][j]?=some y->(w.alloc (.cells #[u0,u1,u2,u3,u4,u5,u6] t)).cell? ((⟨H,0,none⟩:Addr).add j)=some y:=by
 intro j y hj;subst hH;rw[addr0,cell_of_row _ _ j _ _ _ (heap_alloc_new w (.cells #[u0,u1,u2,u3,u4,u5,u6] t))];simpa using hj
theorem Tryz.info_pkt9:(Tryz.prog.info? 60).map (fun i=>(i.zero,i.size,i.bytes))=some (some (.agg #[.int .i64 0,.int .i64 0,.int .i64 0,.int .i64 0,.int .i64 0,.slice none 0 0,.slice none 0 0]),7,88):=by kernel_rfl
theorem Tryz.pkt_parts:∃ i,Tryz.prog.info? 60=some i/\i.zero=some (.agg #[.int .i64 0,.int .i64 0,.int .i64 0,.int .i64 0,.int .i64 0,.slice none 0 0,.slice none 0 0])/\i.size=7/\i.bytes=88:=by
 obtain⟨i,hi,h⟩:=Option.map_eq_some_iff.1 Tryz.info_pkt9;simp only[Prod.mk.injEq]at h;exact⟨i,hi,h.1,h.2.1,h.2.2⟩
theorem own_setN{w:World}{B g n c i sz:Nat}{e:TypeId}{xs:List Value}{u:Value}(h:w.ownsRow B e sz (.slice (some ⟨g,0,none⟩) n c) n xs):(w.setCell ⟨g,i,none⟩ u).ownsRow B e sz (.slice (some ⟨g,0,none⟩) n c) n (xs.set i u):=by
 have hl:=h.1;rcases h.2 with⟨h1,_⟩|⟨g',cap,cur,h1,h2,h3,h4,h5,h6,h7⟩
 ·cases h1
 ·simp only[Value.slice.injEq,Option.some.injEq,Addr.mk.injEq]at h1
  obtain⟨⟨rfl,_⟩,_,rfl⟩:=h1;refine⟨by simpa using hl,.inr ⟨g,c,cur.setIfInBounds i u,rfl,h2,heap_setCell_same _ _ _ _ _ _ h3,h4,h5,by simpa using h6,?_⟩⟩;rw[<- h7,Array.toList_setIfInBounds,List.take_set]
theorem flat_setP:∀ {kn:List Prt} {k:Nat} (_:k<kn.length) {p:Pk} {pv:Value},(kn.set k ((prat kn k).more p pv)).flatMap Prt.cells=(kn.flatMap Prt.cells).set (k*3+2) pv
 | [],k,h,_,_=>by simp at h
 | x :: kn,0,_,p,pv=>by
  simp[prat,Prt.more,Prt.cells]
 | x :: kn,k+1,h,p,pv=>by
  have ih:=flat_setP (kn:=kn) (k:=k) (by simpa using h) (p:=p) (pv:=pv);have e:prat (x :: kn) (k+1)=prat kn k:=by simp[prat,List.getD]
  rw[e,List.set_cons_succ,List.flatMap_cons,List.flatMap_cons,ih,List.set_append_right _ _ (by simp[Prt.cells];omega)];congr 2;simp[Prt.cells];omega
theorem fit_add{q:Rrv}(h:q.Fit){k:Nat}{p:Pk}{pv:Value}(hk:k<q.kn.length)(hp:p.blk<partsN (symN q.S (prat q.kn k).len) q.K/\p.plc<256/\p.d.l.length=q.S)(hu:(prat q.kn k).use q.K q.S p.blk p.plc):(q.add k p pv).Fit:=by
 have hle:(q.add k p pv).kn.length=q.kn.length:=by simp[Rrv.add]
 refine⟨h.cfg,by rw[hle];exact h.few,fun i hi=>?_,h.wh,h.tk⟩;rw[hle]at hi;have hat:prat (q.add k p pv).kn i=if k=i then(prat q.kn k).more p pv else prat q.kn i:=prat_set hk _ i;rw[hat];split
 ·exact(h.part k hk).more hp hu.2 hu.1
 ·exact h.part i hi
structure HAdd(q q1:Rrv)(k x3 x4 dg c5:Nat)(d:List Gf.F)(pv:Value)(w wx:World)(B rb E:Nat):Prop where
 at_:RrAt wx B rb (q1.add k ⟨x3,x4,⟨dg,0,c5,d⟩⟩ pv)
 but:But (q.foot rb) w wx
 feet:∀ b,(q1.add k ⟨x3,x4,⟨dg,0,c5,d⟩⟩ pv).foot rb b->q.foot rb b∨w.heap.size<=b
 err:wx.heap[E]?=some (.cells #[.int .i64 0,.int .i64 0] 139 (0,0))
structure HBeg(q:Rrv)(ob ln k:Nat)(q1:Rrv)(w wx:World)(B rb E pb x3 x4 dg c5:Nat)(d:List Gf.F):Prop where
 beg:QBegun q ob ln k q1
 at_:RrAt wx B rb q1
 lt:k<q1.kn.length
 fit:q1.Fit
 cfg:q1.K=q.K/\q1.N=q.N/\q1.S=q.S
 part:(prat q1.kn k).n=ob/\(prat q1.kn k).len=ln
 but:But (q.foot rb) w wx
 feet:∀ b,q1.foot rb b->q.foot rb b∨w.heap.size<=b
 pkt:wx.heap[pb]?=some (.cells #[.int .i64 ((1:Nat):Int),.int .i64 ob,.int .i64 ln,.int .i64 x3,.int .i64 x4,.slice (some ⟨dg,0,none⟩) q.S c5,.slice none 0 0] 60 (0,0))
 err:wx.heap[E]?=some (.cells #[.int .i64 0,.int .i64 0] 139 (0,0))
 row:wx.ownsRow w.heap.size 5 1 (.slice (some ⟨dg,0,none⟩) q.S c5) q.S (encL d)
theorem rrHear_any{B rb b o n c:Nat}{a:Option Addr}{l:List Gf.F}{q:Rrv}{w:World}(h:RrAt w B rb q)(fit:q.Fit)(hl:l.length=n)(hn:n<=c)(hn2:n<=140737488355328)(ha:0<n->a=some ⟨b,o,none⟩)(hB:Bs w b o l)(hb:0<n->b<w.heap.size):
 Calls Tryz.prog 121 #[.pointer (some ⟨rb,0,none⟩),.slice a n c] w (RrHears q l B rb w):=by
 have hE0:=heap_alloc_new w (.cells #[.int .i64 0,.int .i64 0] 139);have hb0:Below w.heap.size w (w.alloc (.cells #[.int .i64 0,.int .i64 0] 139)):=(Below.refl _ _).alloc (Nat.le_refl _) _;have hr0:=h.above hb0;obtain⟨c0,c1,c2,-,-,-,c6⟩:=hr0.cells;have hP:=rparse_ok a b o n c q.K q.N q.S l (w.alloc (.cells #[.int .i64 0,.int .i64 0] 139)) fit.cfg fit.cfg.b hl hn hn2 ha (fun i hi=>by rw[hb0.cell (lt_of_cell (hB i hi))];exact hB i hi) (fun h0=>by have:=hb h0;simp;omega);obtain⟨E,hEe⟩:∃ x,x=w.heap.size:=⟨_,rfl⟩;rw[<- hEe]at hE0;have HFIT:Hid q.Fit:=fit;obtain⟨k1,k8,kn,n16,s1,s8⟩:=fit.cfg;clear fit;go_enter Tryz.func121,Tryz.ntmps121;go_upto_region 1 with fail;generalize w.alloc (.cells #[.int .i64 0,.int .i64 0] 139)=W0 at *;rw[<- hEe];have HEE:Hid (E=w.heap.size):=hEe;clear hEe
 have HPUT:Hid (∀(W2 W3:World) (z0 z1:Int),Below w.heap.size w W2->W2.heap[E]?=some (.cells #[.int .i64 0,.int .i64 0] 139 (0,0))->Below W2.heap.size W2 W3->(W3.cell? ⟨E,0,none⟩=some (.int .i64 0)/\W3.cell? ⟨E,1,none⟩=some (.int .i64 0)/\W3.frozen? ⟨E,0,none⟩=false/\W3.frozen? ⟨E,1,none⟩=false)/\((W3.setCell ⟨E,0,none⟩ (.int .i64 z0)).setCell ⟨E,1,none⟩ (.int .i64 z1)).cell? ⟨E,0,none⟩=some (.int .i64 z0)/\((W3.setCell ⟨E,0,none⟩ (.int .i64 z0)).setCell ⟨E,1,none⟩ (.int .i64 z1)).cell? ⟨E,1,none⟩=some (.int .i64 z1)/\Below w.heap.size w ((W3.setCell ⟨E,0,none⟩ (.int .i64 z0)).setCell ⟨E,1,none⟩ (.int .i64 z1))/\But (fun b=>b=E) W3 ((W3.setCell ⟨E,0,none⟩ (.int .i64 z0)).setCell ⟨E,1,none⟩ (.int .i64 z1))):=fun W2 W3 z0 z1 hbw2 hE2 hb3=>by
  have hE3:=(hb3.block E (lt_of_block hE2)).trans hE2;obtain⟨p1,p2⟩:=putE W3 E _ _ (.int .i64 z0) (.int .i64 z1) _ hE3;have hbw3:Below w.heap.size w W3:=hbw2.trans (hb3.mono hbw2.size);exact⟨twoE hE3,(twoE p1).1,(twoE p1).2.1,hbw3.trans (p2.toBelow hbw3.size (fun k hk q=>by have:=HEE.out;omega)),p2⟩
 cases hs:q.shut with
 | true=>
  rw[hs]at c6;go_wp2_with fail;refine(plain_err 8 _).mono ?_;rintro e w2 ⟨rfl,hb2⟩;obtain⟨⟨y0,y1,f0,f1⟩,q0,q1,hfin,_⟩:=HPUT.out W0 w2 8 (-1) hb0 hE0 hb2;clear c0 c1 c2 c6 hP;go_wp2_with fail;refine bodyPost_ret (v:=.agg #[.int .i64 8,.int .i64 (-1)]) (by simp[results,Tryz.results121,go_sem,q0,q1]) rfl ?_;unfold RrHears;rw[if_pos hs];exact⟨rfl,hfin⟩
 | false=>
  rw[hs]at c6;have hns:¬ q.shut=true:=by rw[hs];simp
  have HNS:Hid (¬ q.shut=true):=hns;clear hs hns;go_wp2_with fail;refine hP.mono ?_;intro e w1 hG
  cases hpe:parseE q.K q.N q.S l with
  | some ep=>
   obtain⟨ec,ek⟩:=ep;obtain⟨h1,hb1⟩:=hG;rw[hpe]at h1;obtain rfl:=h1;obtain⟨ei,_,hec⟩:=parseE_code hpe;have he0:¬(ec:Int)=0:=by omega
   clear hec;clear hP c0 c1 c2 c6;go_upto_region 4 with fail;have hb2:Below w1.heap.size w1 ((w1.alloc (.cells #[.int .i64 0,.int .i64 0,.int .i64 0,.int .i64 0,.int .i64 0,.slice none 0 0,.slice none 0 0] 60)).alloc (.cells #[.int .i64 ec,.int .i64 ek] 139)):=((Below.refl _ _).alloc (Nat.le_refl _) _).alloc (by simp) _;have hX2:=heap_alloc_new (w1.alloc (.cells #[.int .i64 0,.int .i64 0,.int .i64 0,.int .i64 0,.int .i64 0,.slice none 0 0,.slice none 0 0] 60)) (.cells #[.int .i64 ec,.int .i64 ek] 139);have esz:(w1.alloc (.cells #[.int .i64 0,.int .i64 0,.int .i64 0,.int .i64 0,.int .i64 0,.slice none 0 0,.slice none 0 0] 60)).heap.size=w1.heap.size+1:=by simp
   rw[esz]at hX2;generalize (w1.alloc (.cells #[.int .i64 0,.int .i64 0,.int .i64 0,.int .i64 0,.int .i64 0,.slice none 0 0,.slice none 0 0] 60)).alloc (.cells #[.int .i64 ec,.int .i64 ek] 139)=W2 at *;clear esz;have hb02:Below W0.heap.size W0 W2:=hb1.trans (hb2.mono hb1.size);obtain⟨⟨y0,y1,f0,f1⟩,q0,q1,hfin,_⟩:=HPUT.out W0 W2 (ec:Int) (ek:Int) hb0 hE0 hb02;obtain⟨v0,v1,-,-⟩:=twoE hX2;clear hX2;go_wp2_with fail;refine bodyPost_ret (v:=.agg #[.int .i64 ec,.int .i64 ek]) (by simp[results,Tryz.results121,go_sem,q0,q1]) rfl ?_;unfold RrHears;rw[if_neg HNS.out,hpe];exact⟨rfl,hfin⟩
  | none=>
   obtain⟨hkd,hle,hob⟩:=parse_head hpe
   have HG:Hid (∀(e:Ending) (w':World),RrHears q l B rb w e w'=(if ¬ bt l 0=1∨bt l 1 ∈ q.wh then e=.returned (.agg #[.int .i64 0,.int .i64 (-1)])/\Below w.heap.size w w'
    else(∃ k,findP q.kn (bt l 1) q.kn.length=some k/\(prat q.kn k).len≠lenOf l/\e=.returned (.agg #[.int .i64 6,.int .i64 2])/\Below w.heap.size w w')∨
     (findP q.kn (bt l 1) q.kn.length=none/\q.kn.length=4/\e=.returned (.agg #[.int .i64 3,.int .i64 (-1)])/\Below w.heap.size w w')∨
     (e=.returned (.agg #[.int .i64 0,.int .i64 (-1)])/\But (q.foot rb) w w'/\∃ k q1 q',QBegun q (bt l 1) (lenOf l) k q1/\QKept q1 k (bt (l.drop 4) 0) (bt (l.drop 4) 1) ((l.drop 4).drop 2) q'/\RrAt w' B rb q'/\∀ b,q'.foot rb b->q.foot rb b∨w.heap.size<=b))):=fun e w'=>by
    unfold RrHears;rw[if_neg HNS.out,hpe]
   obtain⟨zg,hzg,hZ0⟩:=hr0.zs;obtain⟨wa,wc',hwv,_⟩:=own_form2 hr0.wown;have HWV:Hid (q.wv=.slice wa q.wh.length wc'):=hwv
   have HHAS:Hid (∀ X,RrAt X B rb q->Calls Tryz.prog 136 #[.slice wa q.wh.length wc',.int .i64 (bt l 1:Int)] X fun e w'=>e=.returned (.bool (decide (bt l 1 ∈ q.wh)))/\w'=X):=fun X hX=>by
    obtain⟨zg,hzg,hZ⟩:=hX.zs;rw[<- hasB_wh];refine has_gen wa zg wc' q.wh.length _ _ X (by simp) (by have:=HFIT.out.wh;omega) (fun h0=>?_) hZ;obtain⟨c',hv'⟩:=hzg h0;rw[hwv]at hv';simp only[Value.slice.injEq]at hv';exact hv'.1
   clear hzg hZ0 hwv;obtain⟨x3,x4,M,c6',n5,c5,a5,a6,rfl,hdat,hb1⟩:=hG.both hpe s1;clear hP c0 c1 c2 c6 hG;go_upto_region 4 with fail;have hb2:Below w1.heap.size w1 ((w1.alloc (.cells #[.int .i64 (bt l 0:Int),.int .i64 (bt l 1:Int),.int .i64 (lenOf l:Int),.int .i64 x3,.int .i64 x4,.slice a5 n5 c5,.slice a6 M c6'] 60)).alloc (.cells #[.int .i64 0,.int .i64 (-1)] 139)):=((Below.refl _ _).alloc (Nat.le_refl _) _).alloc (by simp) _;have hP2:((w1.alloc (.cells #[.int .i64 (bt l 0:Int),.int .i64 (bt l 1:Int),.int .i64 (lenOf l:Int),.int .i64 x3,.int .i64 x4,.slice a5 n5 c5,.slice a6 M c6'] 60)).alloc (.cells #[.int .i64 0,.int .i64 (-1)] 139)).heap[w1.heap.size]?=some (.cells #[.int .i64 (bt l 0:Int),.int .i64 (bt l 1:Int),.int .i64 (lenOf l:Int),.int .i64 x3,.int .i64 x4,.slice a5 n5 c5,.slice a6 M c6'] 60 (0,0)):=(Below.heap_alloc _ _ _ (by simp)).trans (heap_alloc_new w1 _);have hX2:=heap_alloc_new (w1.alloc (.cells #[.int .i64 (bt l 0:Int),.int .i64 (bt l 1:Int),.int .i64 (lenOf l:Int),.int .i64 x3,.int .i64 x4,.slice a5 n5 c5,.slice a6 M c6'] 60)) (.cells #[.int .i64 0,.int .i64 (-1)] 139);have esz:(w1.alloc (.cells #[.int .i64 (bt l 0:Int),.int .i64 (bt l 1:Int),.int .i64 (lenOf l:Int),.int .i64 x3,.int .i64 x4,.slice a5 n5 c5,.slice a6 M c6'] 60)).heap.size=w1.heap.size+1:=by simp
   rw[esz]at hX2;generalize (w1.alloc (.cells #[.int .i64 (bt l 0:Int),.int .i64 (bt l 1:Int),.int .i64 (lenOf l:Int),.int .i64 x3,.int .i64 x4,.slice a5 n5 c5,.slice a6 M c6'] 60)).alloc (.cells #[.int .i64 0,.int .i64 (-1)] 139)=W2 at *;clear esz;have hb02:Below W0.heap.size W0 W2:=hb1.trans (hb2.mono hb1.size);have hbw2:Below w.heap.size w W2:=hb0.trans (hb02.mono hb0.size);have hE2:=(hb02.block E (lt_of_block hE0)).trans hE0;have hr2:=hr0.above hb02
   have HDAT:Hid (bt l 0=1->x3=bt (l.drop 4) 0/\x4=bt (l.drop 4) 1/\n5=q.S/\(a6=none/\M=0/\c6'=0)/\∃ g,a5=some ⟨g,0,none⟩/\W2.ownsRow w.heap.size 5 1 (.slice (some ⟨g,0,none⟩) q.S c5) q.S (encL ((l.drop 4).drop 2))):=fun hk=>by
    obtain⟨d1,d2,d3,d4,g,d5,d6⟩:=hdat hk;exact⟨d1,d2,d3,d4,g,d5,own_base2 (own_of_block d6 (fun x hx=>hb2.block _ (d6.lt x hx).2)) hb0.size⟩
   obtain⟨v0,v1,-,-⟩:=twoE hX2;obtain⟨eb,heb⟩:∃ x,x=w1.heap.size+1:=⟨_,rfl⟩;rw[<- heb]at v0 v1 ⊢;obtain⟨pb,hpb⟩:∃ x,x=w1.heap.size:=⟨_,rfl⟩;rw[<- hpb]at hP2 ⊢;have hpbn:w.heap.size<=pb:=by rw[hpb];exact Nat.le_trans hb0.size hb1.size
   have HH2:Hid (RrAt W2 B rb q):=hr2;have HE2:Hid (W2.heap[E]?=some (.cells #[.int .i64 0,.int .i64 0] 139 (0,0))):=hE2;have HBW:Hid (Below w.heap.size w W2):=hbw2;have y4:W2.cell? ⟨rb,4,none⟩=some (.slice wa q.wh.length wc'):=by rw[<- HWV.out];exact cell_of_row W2 _ 4 _ _ _ hr2.blk
   have HH0:Hid (RrAt w B rb q):=h;clear heb hpb hb02 hb2 hb1 hb0 hr0 hE0 hX2 hdat h hr2 hE2 hbw2;obtain⟨kd,hkde⟩:∃ x,x=bt l 0:=⟨_,rfl⟩;obtain⟨ob,hobe⟩:∃ x,x=bt l 1:=⟨_,rfl⟩;obtain⟨ln,hlne⟩:∃ x,x=lenOf l:=⟨_,rfl⟩
   have HPE:Hid (kd=1->x3<partsN (symN q.S ln) q.K/\((l.drop 4).drop 2).length=q.S):=fun hk=>by
    have hk':bt l 0=1:=by rw[<- hkde];exact hk
    obtain⟨d1,_⟩:=HDAT.out hk';have:=parse_dataE hpe hk';rw[hlne,d1];exact this
   rw[<- hkde]at hkd HG HDAT hP2 ⊢;rw[<- hobe]at hob HG HHAS hP2 ⊢;rw[<- hlne]at hle HG hP2 ⊢;have HP2:Hid (W2.heap[pb]?=some (.cells #[.int .i64 kd,.int .i64 ob,.int .i64 ln,.int .i64 x3,.int .i64 x4,.slice a5 n5 c5,.slice a6 M c6'] 60 (0,0))):=hP2;obtain⟨y0p,y1p,y2p,-,-,-,-⟩:=pk7 hP2;have HHA:Hid (∀ nq,Calls Tryz.prog 136 #[.slice wa q.wh.length wc',.int .i64 ob] (W2.drewN nq) fun e w'=>e=.returned (.bool (decide (ob ∈ q.wh)))/\w'=W2.drewN nq):=fun nq=>HHAS.out _ (HH2.out.kept (fun _ _=>rfl))
   clear hkde hobe hlne hpe HHAS hP2;generalize hD4:l.drop 4=l4 at *;clear hD4;obtain⟨wn,hwn⟩:∃ x,x=q.wh.length:=⟨_,rfl⟩;rw[<- hwn]at y4 HHA;clear hwn;by_cases hsk:¬ kd=1∨ob ∈ q.wh
   ·have hwd:(kd=2/\True)∨(kd=1/\ob ∈ q.wh):=by
     rcases hkd with hk|hk
     ·exact .inr ⟨hk,hsk.elim (fun x=>absurd hk x) id⟩
     ·exact .inl ⟨hk,trivial⟩
    have HSK:Hid (¬ kd=1∨ob ∈ q.wh):=hsk;clear hsk;go_upto_region 6 with fail
    go_quiet (first | (go_at_call 136;refine Calls.quiet_of_same (HHA.out _)))
    go_upto_region 7 with fail;obtain⟨W3,hW3⟩:∃ x,x=W2.drewN nq:=⟨_,rfl⟩;rw[<- hW3];have hb23:Below W2.heap.size W2 W3:=below_drew hW3;clear hW3 y0p y1p y2p y4 v0 v1 HHA;have hP3:=(hb23.block _ (lt_of_block HP2.out)).trans HP2.out;obtain⟨y0,y1,y2,-,-,-,-⟩:=pk7 hP3;clear hP3;rcases hwd with⟨hk,_⟩|⟨hk,hmem⟩
    ·subst hk
     generalize decide (ob ∈ q.wh)=hm at *;go_wp2_with fail;refine(none_err _).mono ?_;rintro e w4 ⟨rfl,hb4⟩;obtain⟨⟨f0,f1,f2,f3⟩,q0,q1,hfin,_⟩:=HPUT.out W2 w4 0 (-1) HBW.out HE2.out (hb23.trans (hb4.mono hb23.size));clear y0 y1 y2;go_wp2_with fail;refine bodyPost_ret (v:=.agg #[.int .i64 0,.int .i64 (-1)]) (by simp[results,Tryz.results121,go_sem,q0,q1]) rfl ?_;rw[HG.out,if_pos HSK.out];exact⟨rfl,hfin⟩
    ·subst hk
     have hk2:¬((1:Nat):Int)=2:=by omega
     have hdm:decide (ob ∈ q.wh)=true:=decide_eq_true hmem;rw[hdm];clear hdm hmem;go_wp2_with fail;refine(none_err _).mono ?_;rintro e w4 ⟨rfl,hb4⟩;obtain⟨⟨f0,f1,f2,f3⟩,q0,q1,hfin,_⟩:=HPUT.out W2 w4 0 (-1) HBW.out HE2.out (hb23.trans (hb4.mono hb23.size));clear y0 y1 y2;go_wp2_with fail;refine bodyPost_ret (v:=.agg #[.int .i64 0,.int .i64 (-1)]) (by simp[results,Tryz.results121,go_sem,q0,q1]) rfl ?_;rw[HG.out,if_pos HSK.out];exact⟨rfl,hfin⟩
   ·have hk1:kd=1:=Classical.byContradiction fun x=>hsk (.inl x)
    have hmem:¬ ob ∈ q.wh:=fun x=>hsk (.inr x)
    obtain⟨dx3,dx4,dn5,⟨da6,dM,dc6⟩,dg,da5,hrow⟩:=HDAT.out hk1;obtain⟨hblk,hdl⟩:=HPE.out hk1;subst hk1 da6 dM dc6 da5 dn5;rw[decide_eq_false hmem]at HHA
    have HGC:Hid (∀(e:Ending) (w':World),((∃ k,findP q.kn ob q.kn.length=some k/\(prat q.kn k).len≠ln/\e=.returned (.agg #[.int .i64 6,.int .i64 2])/\Below w.heap.size w w')∨
     (findP q.kn ob q.kn.length=none/\q.kn.length=4/\e=.returned (.agg #[.int .i64 3,.int .i64 (-1)])/\Below w.heap.size w w')∨
     (e=.returned (.agg #[.int .i64 0,.int .i64 (-1)])/\But (q.foot rb) w w'/\∃ k q1 q',QBegun q ob ln k q1/\QKept q1 k x3 x4 (l4.drop 2) q'/\RrAt w' B rb q'/\∀ b,q'.foot rb b->q.foot rb b∨w.heap.size<=b))->RrHears q l B rb w e w'):=fun e w' hx=>by
     rw[HG.out,if_neg hsk,<- dx3,<- dx4];exact hx
    have HROW:Hid (W2.ownsRow w.heap.size 5 1 (.slice (some ⟨dg,0,none⟩) q.S c5) q.S (encL (l4.drop 2))):=hrow;have HBK:Hid (x3<partsN (symN q.S ln) q.K/\(l4.drop 2).length=q.S):=⟨hblk,hdl⟩;have hx4:x4<256:=by rw[dx4];exact bt_lt _ _
    have hx3:x3<=300:=by
     have h1:=symN_range (S:=q.S) (len:=ln) s1;have h2:=partsN_le (a:=symN q.S ln) k1;omega
    clear hrow hblk hdl HDAT HPE HG dx3 dx4 hmem hsk hkd;have hk2:¬((1:Nat):Int)=2:=by omega
    go_upto_region 6 with fail
    go_quiet (first | (go_at_call 136;refine Calls.quiet_of_same (HHA.out _)))
    go_upto_region 7 with fail;obtain⟨W3,hW3⟩:∃ x,x=W2.drewN nq:=⟨_,rfl⟩;rw[<- hW3];have hb23:Below W2.heap.size W2 W3:=below_drew hW3;clear hW3 y0p y1p y2p y4 v0 v1 HHA;have hP3:=(hb23.block _ (lt_of_block HP2.out)).trans HP2.out;have hr3:=HH2.out.above hb23;have hE3:=(hb23.block _ (lt_of_block HE2.out)).trans HE2.out;have hbw3:=HBW.out.trans (hb23.mono HBW.out.size);have hrow3:=own_of_block HROW.out (fun g hg=>hb23.block g (HROW.out.lt g hg).2);obtain⟨y0,y1,y2,-,-,-,-⟩:=pk7 hP3;obtain⟨ka,kc,hkv,_⟩:=own_form2 hr3.kown;have c3:W3.cell? ⟨rb,3,none⟩=some (.slice ka q.kn.length kc):=by rw[<- hkv];exact cell_of_row W3 _ 3 _ _ _ hr3.blk
    have HKN:Hid (∀ i,i<q.kn.length->∃ g,ka=some ⟨g,0,none⟩/\W3.cell? ⟨g,i*3,none⟩=some (.int .i64 ((prat q.kn i).n:Int))/\W3.cell? ⟨g,i*3+1,none⟩=some (.int .i64 ((prat q.kn i).len:Int))/\W3.cell? ⟨g,i*3+2,none⟩=some (prat q.kn i).pv):=fun i hi=>by
     obtain⟨g,c,hv,z⟩:=hr3.known hi;rw[hkv]at hv;simp only[Value.slice.injEq]at hv;exact⟨g,hv.1,z⟩
    have HKV:Hid (q.kv=.slice ka q.kn.length kc):=hkv;have HR3:Hid (RrAt W3 B rb q):=hr3;have HP3:Hid (W3.heap[pb]?=some (.cells #[.int .i64 ((1:Nat):Int),.int .i64 ob,.int .i64 ln,.int .i64 x3,.int .i64 x4,.slice (some ⟨dg,0,none⟩) q.S c5,.slice none 0 0] 60 (0,0))):=hP3;have HE3:Hid (W3.heap[E]?=some (.cells #[.int .i64 0,.int .i64 0] 139 (0,0))):=hE3;have HBW3:Hid (Below w.heap.size w W3):=hbw3;have HRO3:Hid (W3.ownsRow w.heap.size 5 1 (.slice (some ⟨dg,0,none⟩) q.S c5) q.S (encL (l4.drop 2))):=hrow3;have hfew:=HFIT.out.few;obtain⟨m,hm⟩:∃ x,x=q.kn.length:=⟨_,rfl⟩;have HM:Hid (m=q.kn.length):=hm;rw[<- hm]at c3 HKN hfew;clear hm hkv hr3 hP3 hE3 hbw3 hrow3 hb23 HH2 HP2 HE2 HBW HROW;go_wp2_with fail;clear y0 y2
    go_loopw[8,9] (fun t8 t9 wr=>∃ i nq:Nat,i<=m/\t9=.int .i64 i/\t8=bestV (findP q.kn ob i)/\wr=W3.drewN nq) (fun _ t _=>m - (intOf t).toNat)
    case atStart=>exact⟨0,0,by omega,rfl,rfl,rfl⟩
    case round=>
     obtain⟨i,nq,hi,rfl,rfl,rfl⟩:=hrel;by_cases hlt:i<m
     ·have hlt1:(i:Int)<(m:Int):=by omega
      have hlt0:(0:Int)<=(i:Int):=by omega
      obtain⟨g,rfl,z0,_,_⟩:=HKN.out i hlt;have HN:Hid (findP q.kn ob (i+1)=if(prat q.kn i).n=ob then some i else findP q.kn ob i):=rfl;obtain⟨ni,hni⟩:∃ x,x=(prat q.kn i).n:=⟨_,rfl⟩;rw[<- hni]at z0 HN;clear hni;by_cases hc:ni=ob
      ·subst hc
       go_upto_region 13 with fail
       go_quiet (fail)
       go_wp2_with fail
       go_roundw
       case rel=>exact⟨i+1,_,by omega,by go_num,by rw[HN.out,if_pos rfl];rfl,rfl⟩
       case measure=>simp[intOf];omega
      ·have hc1:¬(ni:Int)=(ob:Int):=by omega
       go_upto_region 13 with fail
       go_quiet (fail)
       go_wp2_with fail
       go_roundw
       case rel=>exact⟨i+1,_,by omega,by go_num,by rw[HN.out,if_neg hc],rfl⟩
       case measure=>simp[intOf];omega
     ·obtain rfl:i=m:=by omega
      have hlt1:¬(i:Int)<(i:Int):=by omega
      have hb34:Below W3.heap.size W3 (W3.drewN nq):=below_drew rfl;have hP4:=(hb34.block _ (lt_of_block HP3.out)).trans HP3.out;go_upto_region 15 with fail;generalize W3.drewN nq=W4 at *;obtain⟨-,y1',y2,-,-,-,-⟩:=pk7 hP4;have c3':W4.cell? ⟨rb,3,none⟩=some (.slice ka i kc):=by rw[hb34.cell (lt_of_cell c3)];exact c3
      have HK4:Hid (∀ j,j<i->∃ g,ka=some ⟨g,0,none⟩/\W4.cell? ⟨g,j*3,none⟩=some (.int .i64 ((prat q.kn j).n:Int))/\W4.cell? ⟨g,j*3+1,none⟩=some (.int .i64 ((prat q.kn j).len:Int))/\W4.cell? ⟨g,j*3+2,none⟩=some (prat q.kn j).pv):=fun j hj=>by
       obtain⟨g,e1,e2,e3,e4⟩:=HKN.out j hj;exact⟨g,e1,by rw[hb34.cell (lt_of_cell e2)];exact e2,by rw[hb34.cell (lt_of_cell e3)];exact e3,by rw[hb34.cell (lt_of_cell e4)];exact e4⟩
      clear c3 y1 y1' HKN hP4;obtain⟨fp,hfp⟩:∃ x,x=findP q.kn ob i:=⟨_,rfl⟩;have HFP:Hid (fp=findP q.kn ob q.kn.length):=by show _=_;rw[hfp,HM.out]
      have HFS:Hid (∀ k,fp=some k->k<i/\(prat q.kn k).n=ob):=fun k hk=>findP_some (by rw[<- hfp];exact hk)
      rw[<- hfp];clear hfp;obtain⟨eA,heA⟩:∃ x:Bool,x=(match fp with | some k=>decide ((prat q.kn k).len≠ln)|none=>false):=⟨_,rfl⟩
      go_cut[79] from 65 to 79 (fun t wx=>t=.bool eA/\∃ n',wx=W4.drewN n')
      case first=>
       cases fp with
       | none=>
        simp only at heA;subst heA;unfold bestV;simp only
        go_quiet (fail)
        go_wp2_with fail
        go_meet
        exact⟨rfl,_,rfl⟩
       | some k=>
        obtain⟨hkl,_⟩:=HFS.out k rfl;obtain⟨g,rfl,_,z1,_⟩:=HK4.out k hkl;have hk0:(0:Int)<=(k:Int):=by omega
        have hk1:(k:Int)<(i:Int):=by omega
        simp only at heA;generalize (prat q.kn k).len=kl at *;unfold bestV;simp only;by_cases hc:kl=ln
        ·subst hc
         have e:eA=false:=by rw[heA];simp
         subst e;clear heA
         go_quiet (fail)
         go_wp2_with fail
         go_meet
         exact⟨rfl,_,rfl⟩
        ·have hc1:¬(kl:Int)=(ln:Int):=by omega
         have hc2:((kl:Int) != (ln:Int))=true:=bne_iff_ne.2 hc1;have e:eA=true:=by rw[heA];simp[hc]
         subst e;clear heA
         go_quiet (fail)
         go_wp2_with fail
         go_meet
         exact⟨by first | rfl|rw[hc2],_,rfl⟩
      case rest=>
       obtain⟨ht79,n',rfl⟩:=hcut;subst ht79;have hb45:Below W4.heap.size W4 (W4.drewN n'):=below_drew rfl;have hb35:Below W3.heap.size W3 (W4.drewN n'):=hb34.trans (hb45.mono hb34.size);have c35:(W4.drewN n').cell? ⟨rb,3,none⟩=some (.slice ka i kc):=c3';generalize W4.drewN n'=W5 at *;clear hb45 y2 c3' HK4
       cases eA with
       | true=>
        have HA:Hid (∃ k,findP q.kn ob q.kn.length=some k/\(prat q.kn k).len≠ln):=by
         rw[<- HFP.out]
         cases fp with
         | none=>simp at heA
         | some k=>exact⟨k,rfl,by simpa using heA⟩
        clear heA;obtain⟨⟨f0,f1,f2,f3⟩,q0,q1,hfin,_⟩:=HPUT.out W3 W5 6 2 HBW3.out HE3.out hb35;clear c35;go_wp2_with fail;refine bodyPost_ret (v:=.agg #[.int .i64 6,.int .i64 2]) (by simp[results,Tryz.results121,go_sem,q0,q1]) rfl ?_;obtain⟨k,e1,e2⟩:=HA.out;exact HGC.out _ _ (.inl ⟨k,e1,e2,rfl,hfin⟩)
       | false=>
        have HA:Hid (∀ k,findP q.kn ob q.kn.length=some k->(prat q.kn k).len=ln):=fun k hk=>by
         rw[<- HFP.out]at hk;subst hk;simpa using heA
        clear heA;go_upto_region 17 with fail;obtain⟨eB,heB⟩:∃ x:Bool,x=(match fp with | some _=>false|none=>decide (i=4)):=⟨_,rfl⟩
        go_cut[90] from 81 to 90 (fun t wx=>t=.bool eB/\wx=W5)
        case first=>
         cases fp with
         | some k=>
          simp only at heB;subst heB;have hk0:¬(k:Int)<0:=by omega
          unfold bestV;simp only;go_wp2_with fail
          go_meet
          exact⟨rfl,rfl⟩
         | none=>
          simp only at heB;unfold bestV;simp only;by_cases h4:i=4
          ·subst h4
           have e:eB=true:=by rw[heB];simp
           subst e;clear heB;go_wp2_with fail
           go_meet
           exact⟨rfl,rfl⟩
          ·have e:eB=false:=by rw[heB];simp[h4]
           subst e;have h41:¬(i:Int)=4:=by omega
           have h42:((i:Int)==4)=false:=beq_eq_false_iff_ne.2 h41;clear heB;go_wp2_with fail
           go_meet
           exact⟨by first | rfl|rw[h42],rfl⟩
        case rest=>
         obtain⟨ht90,hwc⟩:=hcut;subst ht90;subst hwc;obtain⟨W5,rfl⟩:∃ x,x=wc:=⟨wc,rfl⟩
         cases eB with
         | true=>
          have HB4:Hid (findP q.kn ob q.kn.length=none/\q.kn.length=4):=by
           rw[<- HFP.out,<- HM.out]
           cases fp with
           | some k=>simp at heB
           | none=>exact⟨rfl,by simpa using heB⟩
          clear heB c35;go_wp2_with fail;refine(plain_err 3 _).mono ?_;rintro e w6 ⟨rfl,hb6⟩;obtain⟨⟨f0,f1,f2,f3⟩,q0,q1,hfin,_⟩:=HPUT.out W3 w6 3 (-1) HBW3.out HE3.out (hb35.trans (hb6.mono hb35.size));go_wp2_with fail;refine bodyPost_ret (v:=.agg #[.int .i64 3,.int .i64 (-1)]) (by simp[results,Tryz.results121,go_sem,q0,q1]) rfl ?_;exact HGC.out _ _ (.inr (.inl ⟨HB4.out.1,HB4.out.2,rfl,hfin⟩))
         | false=>
          have HB4:Hid (fp=none->¬ i=4):=fun h=>by
           subst h;simpa using heB
          clear heB;go_upto_region 19 with fail;obtain⟨eC,heC⟩:∃ x:Bool,x=(match fp with | some _=>false|none=>true):=⟨_,rfl⟩
          go_cut[93] from 92 to 93 (fun t wx=>t=.bool eC/\wx=W5)
          case first=>
           cases fp with
           | some k=>
            simp only at heC;subst heC;have hk0:¬(k:Int)<0:=by omega
            unfold bestV;simp only;go_wp2_with fail
            go_meet
            exact⟨rfl,rfl⟩
           | none=>
            simp only at heC;subst heC;unfold bestV;simp only;go_wp2_with fail
            go_meet
            exact⟨rfl,rfl⟩
          case rest=>
           obtain⟨ht93,hwc⟩:=hcut;subst ht93;subst hwc;obtain⟨W5,rfl⟩:∃ x,x=wc:=⟨wc,rfl⟩;have HR5:Hid (RrAt W5 B rb q):=HR3.out.above hb35;have HP5:Hid (W5.heap[pb]?=some (.cells #[.int .i64 ((1:Nat):Int),.int .i64 ob,.int .i64 ln,.int .i64 x3,.int .i64 x4,.slice (some ⟨dg,0,none⟩) q.S c5,.slice none 0 0] 60 (0,0))):=(hb35.block _ (lt_of_block HP3.out)).trans HP3.out;have HE5:Hid (W5.heap[E]?=some (.cells #[.int .i64 0,.int .i64 0] 139 (0,0))):=(hb35.block _ (lt_of_block HE3.out)).trans HE3.out;have HBW5:Hid (Below w.heap.size w W5):=HBW3.out.trans (hb35.mono HBW3.out.size);have HRO5:Hid (W5.ownsRow w.heap.size 5 1 (.slice (some ⟨dg,0,none⟩) q.S c5) q.S (encL (l4.drop 2))):=own_of_block HRO3.out (fun g hg=>hb35.block g (HRO3.out.lt g hg).2);clear hb35 hb34 HR3 HP3 HE3 HBW3 HRO3;go_upto_if 93 with fail
           go_cut[8] from 94 to 113 (fun t wx=>∃(k:Nat) (q1:Rrv),t=.int .i64 k/\HBeg q ob ln k q1 w wx B rb E pb x3 x4 dg c5 (l4.drop 2))
           case first=>
            cases fp with
            | some k=>
             simp only at heC;subst heC;obtain⟨hkl,hkn⟩:=HFS.out k rfl
             have HBG:Hid (HBeg q ob ln k q w W5 B rb E pb x3 x4 dg c5 (l4.drop 2)):=by
              have hfk:findP q.kn ob q.kn.length=some k:=HFP.out.symm;exact⟨.inl ⟨hfk,HA.out k hfk,rfl⟩,HR5.out,by rw[<- HM.out];exact hkl,HFIT.out,⟨rfl,rfl,rfl⟩,⟨hkn,HA.out k hfk⟩,Below.but HBW5.out _ (fun i h1 h2=>absurd h1 h2),fun b z=>.inl z,HP5.out,HE5.out,HRO5.out⟩
             unfold bestV;simp only;clear c35;go_wp2_with fail
             go_meet
             exact⟨k,q,rfl,HBG.out⟩
            | none=>
             simp only at heC;subst heC;unfold bestV;simp only;obtain⟨iP,hiP,hiP0,hiP1,hiP2⟩:=Tryz.part_parts;have hfk:findP q.kn ob q.kn.length=none:=HFP.out.symm;have hi4:i<4:=by have:=HB4.out rfl;omega
             have HFK:Hid (findP q.kn ob q.kn.length=none):=hfk
             have hOk:W5.ownsRow B 204 3 (.slice ka i kc) i (q.kn.flatMap Prt.cells):=by
              have:=HR5.out.kown;rw[HKV.out,<- HM.out]at this;exact this
             obtain⟨-,y1,y2,-,-,-,-⟩:=pk7 HP5.out;have hrl:=lt_of_block HR5.out.blk;have hBB:B<=W5.heap.size:=Nat.le_trans HR5.out.low (Nat.le_of_lt hrl);have HMK:Hid (∀ o,(W5.alloc o).drew.ownsRow B 204 3 (.slice ka i kc) i (q.kn.flatMap Prt.cells)):=fun o=>hOk.alloc o
             have HM3:Hid (∀ o,B<=(W5.alloc o).drew.heap.size):=fun o=>by simp;omega
             have hmo:∀ u ∈ [Value.int .i64 ob,.int .i64 ln,.slice none 0 0],u.oneCell'=true:=by intro u hu;simp at hu;rcases hu with rfl|rfl|rfl<;>rfl
             have hm1:i+1<=maxLen:=by unfold maxLen;omega
             have hm2:(i+1)*40<=140737488355328:=by omega
             have hbn3:rb≠W5.heap.size:=Nat.ne_of_lt hrl
             have HSE:Hid (∀ o w4,(W5.alloc o).drew.grownBy w4 (Value.slice ka i kc).ownBlock->w4.cell? ⟨rb,3,none⟩=some (.slice ka i kc)/\w4.frozen? ⟨rb,3,none⟩=false/\w4.heap[rb]?=W5.heap[rb]?):=fun o w4 hg=>by
              have hk':w4.heap[rb]?=W5.heap[rb]?:=by
               rw[grown_block hg (by simp;omega) (fun q'=>own_ne hOk q' HR5.out.blk (by decide) rfl)];exact Below.heap_alloc W5 o rb hrl
              have hblk4:=hk'.trans HR5.out.blk;exact⟨by rw[cell_of_row w4 _ 3 _ _ _ hblk4,HM.out,<- HKV.out];rfl,frozen_of_row w4 rb 3 _ _ hblk4,hk'⟩
             have HPA:Hid (∀ w4 kv,But (fun b=>(Value.slice ka i kc).ownBlock=some b) W5 w4->w4.heap[rb]?=W5.heap[rb]?->w4.ownsRow B 204 3 kv (i+1) (q.kn.flatMap Prt.cells++[.int .i64 ob,.int .i64 ln,.slice none 0 0])->(∀ g',kv.ownBlock=some g'->(Value.slice ka i kc).ownBlock=some g'∨W5.heap.size<=g')->HBeg q ob ln i (q.begin ob ln kv) w (w4.setCell ⟨rb,3,none⟩ kv) B rb E pb x3 x4 dg c5 (l4.drop 2)/\(w4.setCell ⟨rb,3,none⟩ kv).cell? ⟨rb,3,none⟩=some kv):=fun w4 kv hb4 hrb4 hown4 hkvn=>by
              have hblk4:=hrb4.trans HR5.out.blk;have h5:=heap_setCell_same w4 rb 3 _ _ kv hblk4;have hb5:But (fun b=>b=rb∨q.kv.ownBlock=some b) W5 (w4.setCell ⟨rb,3,none⟩ kv):=But.setCell (hb4.wide (fun b _ z=>.inr (by rw[HKV.out,<- HM.out];exact z))) (p:=⟨rb,3,none⟩) (.inl (.inl rfl)) _;have ho5:=own_of_block hown4 (fun g' hg'=>Below.heap_setCell w4 ⟨rb,3,none⟩ kv g' (own_ne hown4 hg' hblk4 (by decide)));have hR6:=HR5.out.begin (m:=ob) (len:=ln) hb5 h5 (by rw[<- HM.out];exact ho5)
              have hne:∀ {g:Nat} {cs:Array Value} {t:TypeId},W5.heap[g]?=some (.cells cs t (0,0))->t≠200->t≠204->(w4.setCell ⟨rb,3,none⟩ kv).heap[g]?=W5.heap[g]?:=fun hg h1 h2=>hb5.block _ (lt_of_block hg) (fun z=>by
               rcases z with z|z
               ·exact ne_typ9 hg HR5.out.blk h1 z
               ·exact own_ne HR5.out.kown z hg (fun x=>h2 x.symm) rfl)
              have hft:∀ b,(q.begin ob ln kv).foot rb b->q.foot rb b∨w.heap.size<=b:=fun b z=>Rrv.begin_foot (H:=w.heap.size) (fun g' hg'=>(hkvn g' hg').imp (fun x=>by rw[HKV.out,<- HM.out];exact x) (fun x=>Nat.le_trans HBW5.out.size x)) z
              have hla:prat (q.begin ob ln kv).kn q.kn.length=⟨ob,ln,[],.slice none 0 0⟩:=prat_last _ _;have hle':(q.begin ob ln kv).kn.length=q.kn.length+1:=by simp[Rrv.begin]
              refine⟨⟨.inr ⟨HFK.out,by rw[<- HM.out];omega,HM.out,kv,rfl⟩,hR6,by rw[hle',<- HM.out];omega,fit_begin HFIT.out hob hle (by rw[<- HM.out];exact hi4),⟨rfl,rfl,rfl⟩,?_,?_,hft,(hne HP5.out (by decide) (by decide)).trans HP5.out,(hne HE5.out (by decide) (by decide)).trans HE5.out,?_⟩,by rw[cell_of_row _ rb 3 _ _ _ h5];rfl⟩
              ·rw[HM.out,hla];exact⟨rfl,rfl⟩
              ·exact((Below.but HBW5.out _ (fun i h1 h2=>absurd h1 h2)).trans (hb5.wide (fun b _ z=>z.elim .inl (fun x=>.inr (.inl x)))))
              ·exact own_of_block HRO5.out (fun g hg=>by
                obtain⟨cs,hcs⟩:=own_block HRO5.out hg;exact hne hcs (by decide) (by decide))
             clear hOk hfk;go_wp2_with fail
             go_region_law ((refine step_append_lies _ (by rfl) _ _ _ (by rfl) B 204 iP (.agg #[.int .i64 0,.int .i64 0,.slice none 0 0]) 3 40 Tryz.underlying198 hiP hiP0 hiP1 hiP2 rfl (by omega) (.slice ka i kc) i (q.kn.flatMap Prt.cells) (by rfl) (HMK.out _) ⟨W5.heap.size,0,none⟩ 1 1 [.int .i64 ob,.int .i64 ln,.slice none 0 0] (by rfl) rfl (cell_three_at W5 _ _ _ _ _ rfl) hmo Nat.one_pos hm1 hm2 (HM3.out _) (W5.heap.size+1) (by simp) ?_;intro g2 cap2 w4 hown4 hgr4 hlie4 hlt4;have hf64:=(HSE.out _ _ hgr4).2.1;have hc64:=(HSE.out _ _ hgr4).1))
             all_goals
              obtain⟨_,_,hrb4⟩:=HSE.out _ _ hgr4;have hb4:But (fun b=>(Value.slice ka i kc).ownBlock=some b) W5 w4:=((But.refl _ W5).alloc _).drew.grown hgr4 (fun k hk=>.inl hk)
              obtain⟨hBG,hc66⟩:=HPA.out w4 (.slice (some ⟨g2,0,none⟩) (i+1) cap2) hb4 hrb4 hown4 (fun g' hg'=>by
               have e:g2=g':=by simpa [Value.ownBlock] using hg'
               subst e;rcases hlie4 with z|z
               ·exact .inl z
               ·exact .inr (by omega))
              have HBG:Hid (HBeg q ob ln i (q.begin ob ln (.slice (some ⟨g2,0,none⟩) (i+1) cap2)) w (w4.setCell ⟨rb,3,none⟩ (.slice (some ⟨g2,0,none⟩) (i+1) cap2)) B rb E pb x3 x4 dg c5 (l4.drop 2)):=hBG;generalize w4.setCell ⟨rb,3,none⟩ (.slice (some ⟨g2,0,none⟩) (i+1) cap2)=w6 at *;clear hBG hown4 hgr4 hlie4 hlt4 hf64 hc64 hrb4 hb4;have hsub:((i+1:Nat):Int) - 1=(i:Int):=by omega
              have hwr:IntKind.i64.wrap (((i+1:Nat):Int) - 1)=(i:Int):=by rw[IntKind.wrap_i64];omega
              go_wp2_with fail
              go_meet
              exact⟨i,_,by go_num,HBG.out⟩
           case rest=>
            obtain⟨k,q1,ht8,hBG⟩:=hcut;subst ht8;obtain⟨W6,rfl⟩:∃ x,x=wc:=⟨wc,rfl⟩;have HBG:Hid (HBeg q ob ln k q1 w W6 B rb E pb x3 x4 dg c5 (l4.drop 2)):=hBG;clear heC c35 HR5 HP5 HE5 HBW5 HRO5 HA HB4 HFS HFP HKV HM hfew hlt1;obtain⟨g,gc,hkv,z0,z1,z2⟩:=hBG.at_.known hBG.lt;rw[hBG.part.1]at z0;rw[hBG.part.2]at z1;obtain⟨pa,pc,hpv,_⟩:=own_form2 (hBG.at_.pown k hBG.lt);rw[hpv]at z2;obtain⟨-,-,y2,y3,y4,-,-⟩:=pk7 hBG.pkt;obtain⟨d0,d1,d2,-,-,-,-⟩:=hBG.at_.cells;rw[hBG.cfg.1]at d0;rw[hBG.cfg.2.1]at d1;rw[hBG.cfg.2.2]at d2;have c3:W6.cell? ⟨rb,3,none⟩=some (.slice (some ⟨g,0,none⟩) q1.kn.length gc):=by rw[<- hkv];exact cell_of_row W6 _ 3 _ _ _ hBG.at_.blk
            have hk0:(0:Int)<=(k:Int):=by omega
            have hklt:=hBG.lt;have hps2:=(hBG.fit.ok.part k hBG.lt).2.2
            have HKW:Hid (∀ X,Below W6.heap.size W6 X->Calls Tryz.prog 95 #[.agg #[.int .i64 ob,.int .i64 ln,.slice pa (prat q1.kn k).ps.length pc],.int .i64 x3,.int .i64 x4] X fun e w'=>e=.returned (.tuple #[.int .i64 ((ofB (prat q1.kn k).ps x3).length:Int),.bool (decide (x4 ∈(ofB (prat q1.kn k).ps x3).map Pk.plc))])/\Below X.heap.size X w'):=fun X hX=>by
             have hRX:=HBG.out.at_.above hX;have:=knows_any (b:=x3) (pl:=(x4:Int)) (hRX.pown k hBG.lt) rfl hps2 (by omega);rw[cntP_all,hBG.part.1,hBG.part.2,hpv]at this
             have e:hasP (prat q1.kn k).ps x3 (x4:Int) (prat q1.kn k).ps.length=decide (x4 ∈(ofB (prat q1.kn k).ps x3).map Pk.plc):=by
              have h1:=hasP_all (prat q1.kn k).ps x3 x4;by_cases hx:x4 ∈(ofB (prat q1.kn k).ps x3).map Pk.plc
              ·rw[decide_eq_true hx,h1];exact hx
              ·rw[decide_eq_false hx]
               cases hb:hasP (prat q1.kn k).ps x3 (x4:Int) (prat q1.kn k).ps.length
               ·rfl
               ·exact absurd (h1.1 hb) hx
             rw[e]at this;exact this
            have HSRC:Hid (∀ X,Calls Tryz.prog 96 #[.agg #[.int .i64 (q.K:Int),.int .i64 (q.N:Int),.int .i64 (q.S:Int)],.int .i64 ln,.int .i64 x3] X fun e w'=>e=.returned (.int .i64 (srcN q.K (symN q.S ln) x3:Int))/\Below X.heap.size X w'):=fun X=>rsources_any q.K q.N q.S ln x3 HFIT.out.cfg (by omega) (partsN_mul k1 HBK.out.1) X
            have hcl:(ofB (prat q1.kn k).ps x3).length<=1000:=by
             have h1:(ofB (prat q1.kn k).ps x3).length<=(prat q1.kn k).ps.length:=List.length_filter_le _ _;omega
            have HUSE:Hid ((prat q1.kn k).use q1.K q1.S x3 x4↔¬ x4 ∈(ofB (prat q1.kn k).ps x3).map Pk.plc/\(ofB (prat q1.kn k).ps x3).length<srcN q.K (symN q.S ln) x3):=by
             show _↔_;unfold Prt.use;rw[hBG.cfg.1,hBG.cfg.2.2,hBG.part.2]
            have hs8':srcN q.K (symN q.S ln) x3<=8:=by unfold srcN;omega
            obtain⟨mm,hmm⟩:∃ x,x=q1.kn.length:=⟨_,rfl⟩;have HMM:Hid (mm=q1.kn.length):=hmm;rw[<- hmm]at c3 hklt;have hk1:(k:Int)<(mm:Int):=by omega
            obtain⟨Lp,hLp⟩:∃ x,x=(prat q1.kn k).ps.length:=⟨_,rfl⟩;have HLP:Hid (Lp=(prat q1.kn k).ps.length):=hLp;rw[<- hLp]at z2 HKW;obtain⟨cn,hcn⟩:∃ x,x=(ofB (prat q1.kn k).ps x3).length:=⟨_,rfl⟩;rw[<- hcn]at HKW hcl HUSE;obtain⟨isb,his⟩:∃ x,x=decide (x4 ∈(ofB (prat q1.kn k).ps x3).map Pk.plc):=⟨_,rfl⟩;rw[<- his]at HKW;have HIS:Hid (isb=true↔x4 ∈(ofB (prat q1.kn k).ps x3).map Pk.plc):=by show _↔_;rw[his];exact decide_eq_true_iff
            obtain⟨sn,hsn⟩:∃ x,x=srcN q.K (symN q.S ln) x3:=⟨_,rfl⟩;rw[<- hsn]at HSRC HUSE hs8';have HGV:Hid (q1.kv=.slice (some ⟨g,0,none⟩) mm gc):=by show _=_;rw[hmm];exact hkv
            have HPV:Hid ((prat q1.kn k).pv=.slice pa Lp pc):=by show _=_;rw[hLp];exact hpv
            clear hBG hkv hpv hmm hLp hcn his hsn hps2;go_upto_region 22 with fail
            go_region_held3 (fun w'=>w'.cell? ⟨rb,3,none⟩=some (.slice (some ⟨g,0,none⟩) mm gc)/\w'.cell? ⟨g,k*3,none⟩=some (.int .i64 ob)/\w'.cell? ⟨g,k*3+1,none⟩=some (.int .i64 ln)/\w'.cell? ⟨g,k*3+2,none⟩=some (.slice pa Lp pc)/\w'.cell? ⟨pb,3,none⟩=some (.int .i64 x3)/\w'.cell? ⟨pb,4,none⟩=some (.int .i64 x4)) (first | go_keep|exact hkeep) (first
             | (go_at_call 95;refine(HKW.out _ ((Below.refl _ _).drew)).mono ?_;rintro e w7 ⟨rfl,hb7⟩;have hkeep:w7.cell? ⟨rb,3,none⟩=some (.slice (some ⟨g,0,none⟩) mm gc)/\w7.cell? ⟨g,k*3,none⟩=some (.int .i64 ob)/\w7.cell? ⟨g,k*3+1,none⟩=some (.int .i64 ln)/\w7.cell? ⟨g,k*3+2,none⟩=some (.slice pa Lp pc)/\w7.cell? ⟨pb,3,none⟩=some (.int .i64 x3)/\w7.cell? ⟨pb,4,none⟩=some (.int .i64 x4):=⟨by rw[hb7.cell (lt_of_cell c3)];exact c3,by rw[hb7.cell (lt_of_cell z0)];exact z0,by rw[hb7.cell (lt_of_cell z1)];exact z1,by rw[hb7.cell (lt_of_cell z2)];exact z2,by rw[hb7.cell (lt_of_cell y3)];exact y3,by rw[hb7.cell (lt_of_cell y4)];exact y4⟩))
            have hb67:=Below.undraw hb7;have HB67:Hid (Below W6.heap.size W6 w7):=hb67;have e0:w7.cell? ⟨rb,0,none⟩=some (.int .i64 (q.K:Int)):=by rw[hb67.cell (lt_of_cell d0)];exact d0
            have e1:w7.cell? ⟨rb,1,none⟩=some (.int .i64 (q.N:Int)):=by rw[hb67.cell (lt_of_cell d1)];exact d1
            have e2:w7.cell? ⟨rb,2,none⟩=some (.int .i64 (q.S:Int)):=by rw[hb67.cell (lt_of_cell d2)];exact d2
            have p2:w7.cell? ⟨pb,2,none⟩=some (.int .i64 ln):=by rw[hb67.cell (lt_of_cell y2)];exact y2
            have p3:w7.cell? ⟨pb,3,none⟩=some (.int .i64 x3):=by rw[hb67.cell (lt_of_cell y3)];exact y3
            clear hkeep hb7 hb67 c3 z0 z1 z2 y2 y3 y4 d0 d1 d2 HKW
            have HFN:Hid (∀(q':Rrv) (W8 W9:World),QKept q1 k x3 x4 (l4.drop 2) q'->RrAt W8 B rb q'->But (q.foot rb) w W8->(∀ b,q'.foot rb b->q.foot rb b∨w.heap.size<=b)->W8.heap[E]?=some (.cells #[.int .i64 0,.int .i64 0] 139 (0,0))->¬ q'.foot rb E->Below W8.heap.size W8 W9->(W9.cell? ⟨E,0,none⟩=some (.int .i64 0)/\W9.cell? ⟨E,1,none⟩=some (.int .i64 0)/\W9.frozen? ⟨E,0,none⟩=false/\W9.frozen? ⟨E,1,none⟩=false)/\((W9.setCell ⟨E,0,none⟩ (.int .i64 0)).setCell ⟨E,1,none⟩ (.int .i64 (-1))).cell? ⟨E,0,none⟩=some (.int .i64 0)/\((W9.setCell ⟨E,0,none⟩ (.int .i64 0)).setCell ⟨E,1,none⟩ (.int .i64 (-1))).cell? ⟨E,1,none⟩=some (.int .i64 (-1))/\RrHears q l B rb w (.returned (.agg #[.int .i64 0,.int .i64 (-1)])) ((W9.setCell ⟨E,0,none⟩ (.int .i64 0)).setCell ⟨E,1,none⟩ (.int .i64 (-1)))):=fun q' W8 W9 hq hR8 hb8 hft hE8 hEn hb9=>by
             have hE9:=(hb9.block E (lt_of_block hE8)).trans hE8;obtain⟨p1,p2⟩:=putE W9 E _ _ (.int .i64 0) (.int .i64 (-1)) _ hE9;have hR9:=hR8.above hb9;refine⟨twoE hE9,(twoE p1).1,(twoE p1).2.1,HGC.out _ _ (.inr (.inr ⟨rfl,?_,k,q1,q',HBG.out.beg,hq,hR9.kept (fun b z=>p2.block b (hR9.foot_lt z).2 (fun e=>hEn (e ▸ z))),hft⟩))⟩;exact(hb8.below hb9 (fun i h1 h2=>absurd (Nat.lt_of_lt_of_le h1 hb8.size) h2)).then p2 (fun i h1 h2=>by have:=HEE.out;omega)
            have hEn1:∀(q':Rrv) (W8:World),RrAt W8 B rb q'->W8.heap[E]?=some (.cells #[.int .i64 0,.int .i64 0] 139 (0,0))->¬ q'.foot rb E:=fun q' W8 hR8 hE8=>hR8.neE hE8
            have HEN:Hid (∀(q':Rrv) (W8:World),RrAt W8 B rb q'->W8.heap[E]?=some (.cells #[.int .i64 0,.int .i64 0] 139 (0,0))->¬ q'.foot rb E):=hEn1;clear hEn1 HGC HPUT;have HKP:Hid (∀ X,Below w7.heap.size w7 X->X.cell? ⟨rb,0,none⟩=some (.int .i64 (q.K:Int))/\X.cell? ⟨rb,1,none⟩=some (.int .i64 (q.N:Int))/\X.cell? ⟨rb,2,none⟩=some (.int .i64 (q.S:Int))/\X.cell? ⟨pb,2,none⟩=some (.int .i64 ln)/\X.cell? ⟨pb,3,none⟩=some (.int .i64 x3)):=fun X hX=>⟨by rw[hX.cell (lt_of_cell e0)];exact e0,by rw[hX.cell (lt_of_cell e1)];exact e1,by rw[hX.cell (lt_of_cell e2)];exact e2,by rw[hX.cell (lt_of_cell p2)];exact p2,by rw[hX.cell (lt_of_cell p3)];exact p3⟩
            by_cases hu:isb=false/\cn<sn
            ·obtain⟨hisf,hcs⟩:=hu
             subst hisf;have hlt:(cn:Int)<(sn:Int):=by omega
             have HUS:Hid ((prat q1.kn k).use q1.K q1.S x3 x4):=HUSE.out.2 ⟨fun x=>absurd (HIS.out.2 x) (by simp),hcs⟩;go_upto_region 23 with fail
             go_cut[143] from 129 to 143 (fun t wx=>t=.bool true/\Hid (Below W6.heap.size W6 wx))
             case first=>
              go_region_held3 (fun w'=>w'.cell? ⟨rb,0,none⟩=some (.int .i64 (q.K:Int))/\w'.cell? ⟨rb,1,none⟩=some (.int .i64 (q.N:Int))/\w'.cell? ⟨rb,2,none⟩=some (.int .i64 (q.S:Int))/\w'.cell? ⟨pb,2,none⟩=some (.int .i64 ln)/\w'.cell? ⟨pb,3,none⟩=some (.int .i64 x3)) (first | go_keep|exact hkeep) (first
               | (go_at_call 96;refine(HSRC.out _).mono ?_;rintro e w8 ⟨rfl,hb8⟩;(have hbX:Below w7.heap.size w7 w8:=by first | exact Below.undraw hb8|exact hb8);have hkeep:=HKP.out w8 hbX))
              all_goals
               have HBZ:Hid (Below W6.heap.size W6 w8):=HB67.out.trans (hbX.mono HB67.out.size);clear hkeep e0 e1 e2 p2 p3;go_wp2_with fail
               go_meet
               exact⟨rfl,HBZ⟩
             case rest=>
              obtain⟨ht,hb68⟩:=hcut;subst ht;obtain⟨w8,rfl⟩:∃ x,x=wc:=⟨wc,rfl⟩;have hb68:=hb68.out;clear e0 e1 e2 p2 p3 HKP HSRC HIS HUSE hlt hcs hcl hs8';have hR8:=HBG.out.at_.above hb68;have hP8:=(hb68.block _ (lt_of_block HBG.out.pkt)).trans HBG.out.pkt;have hE8:=(hb68.block _ (lt_of_block HBG.out.err)).trans HBG.out.err;have hrow8:=own_of_block HBG.out.row (fun g hg=>hb68.block g (HBG.out.row.lt g hg).2);have hbw8:But (q.foot rb) w w8:=HBG.out.but.below hb68 (fun i h1 h2=>absurd (Nat.lt_of_lt_of_le h1 HBG.out.but.size) h2);obtain⟨i0,i1,i2,i3,i4,i5,i6⟩:=pk7 hP8;obtain⟨iK,hiK,hiK0,hiK1,hiK2⟩:=Tryz.pkt_parts;obtain⟨g',gc',hkv',-,-,z2⟩:=hR8.known HBG.out.lt;rw[HGV.out]at hkv';simp only[Value.slice.injEq,Option.some.injEq,Addr.mk.injEq]at hkv';obtain⟨⟨rfl,-⟩,-,-⟩:=hkv';rw[HPV.out]at z2;have c3:w8.cell? ⟨rb,3,none⟩=some (.slice (some ⟨g,0,none⟩) mm gc):=by rw[<- HGV.out];exact cell_of_row w8 _ 3 _ _ _ hR8.blk
              have hOp:w8.ownsRow B 60 7 (.slice pa Lp pc) Lp ((prat q1.kn k).ps.flatMap (pkCells ob ln)):=by
               have:=hR8.pown k HBG.out.lt;rw[HPV.out,<- HLP.out,HBG.out.part.1,HBG.out.part.2]at this;exact this
              have hOk:w8.ownsRow B 204 3 (.slice (some ⟨g,0,none⟩) mm gc) mm (q1.kn.flatMap Prt.cells):=by
               have:=hR8.kown;rw[HGV.out,<- HMM.out]at this;exact this
              obtain⟨gcs,hgb⟩:=own_block hOk (g:=g) rfl;have hgl:=lt_of_block hgb;have hrl:=lt_of_block hR8.blk;have hBB:B<=w8.heap.size:=Nat.le_trans hR8.low (Nat.le_of_lt hrl);have hLp:Lp<=1000:=by rw[HLP.out];exact(HBG.out.fit.ok.part k HBG.out.lt).2.2
              have HMK:Hid (∀ o,(w8.alloc o).drew.ownsRow B 60 7 (.slice pa Lp pc) Lp ((prat q1.kn k).ps.flatMap (pkCells ob ln))):=fun o=>hOp.alloc o
              have HM3:Hid (∀ o,B<=(w8.alloc o).drew.heap.size):=fun o=>by simp;omega
              have hmo:∀ u ∈ [Value.int .i64 ((1:Nat):Int),.int .i64 ob,.int .i64 ln,.int .i64 x3,.int .i64 x4,.slice (some ⟨dg,0,none⟩) q.S c5,.slice none 0 0],u.oneCell'=true:=by intro u hu;simp only[List.mem_cons,List.not_mem_nil,or_false]at hu;rcases hu with rfl|rfl|rfl|rfl|rfl|rfl|rfl<;>rfl
              have hm1:Lp+1<=maxLen:=by unfold maxLen;omega
              have hm2:(Lp+1)*88<=140737488355328:=by omega
              have hbn3:g≠w8.heap.size:=Nat.ne_of_lt hgl
              have HSE:Hid (∀ o w4,(w8.alloc o).drew.grownBy w4 (Value.slice pa Lp pc).ownBlock->w4.cell? ⟨g,k*3+2,none⟩=some (.slice pa Lp pc)/\w4.frozen? ⟨g,k*3+2,none⟩=false/\w4.cell? ⟨rb,3,none⟩=some (.slice (some ⟨g,0,none⟩) mm gc)):=fun o w4 hg=>by
               have hk':w4.heap[g]?=w8.heap[g]?:=by
                rw[grown_block hg (by simp;omega) (fun q'=>own_ne hOp q' hgb (by decide) rfl)];exact Below.heap_alloc w8 o g hgl
               have hblk4:=hk'.trans hgb
               have hk9:w4.heap[rb]?=w8.heap[rb]?:=by
                rw[grown_block hg (by simp;omega) (fun q'=>own_ne hOp q' hR8.blk (by decide) rfl)];exact Below.heap_alloc w8 o rb hrl
               have hblk9:=hk9.trans hR8.blk;exact⟨by rw[cell_of_row w4 _ _ _ _ _ hblk4,<- cell_of_row w8 _ _ _ _ _ hgb];exact z2,frozen_of_row w4 g _ _ _ hblk4,by rw[cell_of_row w4 _ 3 _ _ _ hblk9,<- cell_of_row w8 _ 3 _ _ _ hR8.blk];exact c3⟩
              have HPA:Hid (∀ w4 pv,But (fun b=>(Value.slice pa Lp pc).ownBlock=some b) w8 w4->w4.ownsRow B 60 7 pv (Lp+1) ((prat q1.kn k).ps.flatMap (pkCells ob ln)++[Value.int .i64 ((1:Nat):Int),.int .i64 ob,.int .i64 ln,.int .i64 x3,.int .i64 x4,.slice (some ⟨dg,0,none⟩) q.S c5,.slice none 0 0])->(∀ g',pv.ownBlock=some g'->(Value.slice pa Lp pc).ownBlock=some g'∨w8.heap.size<=g')->HAdd q q1 k x3 x4 dg c5 (l4.drop 2) pv w (w4.setCell ⟨g,k*3+2,none⟩ pv) B rb E):=fun w4 pv hb4 hown4 hpvn=>by
               have hgk:w4.heap[g]?=w8.heap[g]?:=hb4.block g hgl (fun z=>own_ne hOp z hgb (by decide) rfl);have hb5:But (fun b=>q1.kv.ownBlock=some b∨(prat q1.kn k).pv.ownBlock=some b) w8 (w4.setCell ⟨g,k*3+2,none⟩ pv):=But.setCell (hb4.wide (fun b _ z=>.inr (by rw[HPV.out];exact z))) (p:=⟨g,k*3+2,none⟩) (.inl (.inl (by rw[HGV.out];rfl))) _
               have hOk4:w4.ownsRow B 204 3 (.slice (some ⟨g,0,none⟩) mm gc) mm (q1.kn.flatMap Prt.cells):=own_of_block hOk (fun g' hg'=>by
                have e:g=g':=by simpa [Value.ownBlock] using hg'
                subst e;exact hgk)
               have hkn:=own_setN (i:=k*3+2) (u:=pv) hOk4;rw[<- flat_setP HBG.out.lt (p:=⟨x3,x4,⟨dg,0,c5,l4.drop 2⟩⟩) (pv:=pv)]at hkn;have hpv5:=own_of_block hown4 (fun g' hg'=>Below.heap_setCell w4 ⟨g,k*3+2,none⟩ pv g' (own_ne hown4 hg' (hgk.trans hgb) (by decide)));have hfx:=HBG.out.fit.part k HBG.out.lt;have hdg:w.heap.size<=dg/\dg<w8.heap.size:=hrow8.lt dg rfl;obtain⟨dcs,hdcs⟩:=own_block hrow8 (g:=dg) rfl
               have hnu8:∀ {x:Nat} {cs:Array Value} {t:TypeId},w8.heap[x]?=some (.cells cs t (0,0))->t≠60->t≠204->(w4.setCell ⟨g,k*3+2,none⟩ pv).heap[x]?=w8.heap[x]?:=fun hx h1 h2=>hb5.block _ (lt_of_block hx) (fun z=>by
                rcases z with z|z
                ·exact own_ne hR8.kown z hx (fun x=>h2 x.symm) rfl
                ·exact own_ne (hR8.pown k HBG.out.lt) z hx (fun x=>h1 x.symm) rfl)
               have hBr:BRow (w4.setCell ⟨g,k*3+2,none⟩ pv) B ⟨dg,0,c5,l4.drop 2⟩:=by
                refine⟨by have h1:=HH0.out.low;have h2:=lt_of_block HH0.out.blk;show B<=dg;omega,⟨dcs,(hnu8 hdcs (by decide) (by decide)).trans hdcs⟩,bs_block (own_bs hrow8 HBK.out.2) (hnu8 hdcs (by decide) (by decide))⟩
               have hR9:=hR8.add (p:=⟨x3,x4,⟨dg,0,c5,l4.drop 2⟩⟩) HBG.out.lt hb5 (by rw[HGV.out,<- HMM.out];exact hkn) (by
                rw[<- HLP.out,HBG.out.part.1,HBG.out.part.2,List.flatMap_append]
                have e:([(⟨x3,x4,⟨dg,0,c5,l4.drop 2⟩⟩:Pk)].flatMap (pkCells ob ln))=[Value.int .i64 ((1:Nat):Int),.int .i64 ob,.int .i64 ln,.int .i64 x3,.int .i64 x4,.slice (some ⟨dg,0,none⟩) q.S c5,.slice none 0 0]:=by
                 simp[pkCells,Row.val,HBK.out.2]
                rw[e];exact hpv5) hBr (fun g' hg'=>(hpvn g' hg').imp (fun z=>by rw[HPV.out];exact z) id)
               refine⟨hR9,?_,fun b z=>?_,(hnu8 hE8 (by decide) (by decide)).trans hE8⟩
               ·exact hbw8.then hb5 (fun b hlt z=>by
                 have hq1:q1.foot rb b:=by
                  rcases z with z|z
                  ·exact .inr (.inl z)
                  ·exact .inr (.inr (.inr (.inr (.inr ⟨k,HBG.out.lt,.inl z⟩))))
                 rcases HBG.out.feet b hq1 with x|x
                 ·exact x
                 ·omega)
               ·rcases Rrv.add_foot (H:=w.heap.size) HBG.out.lt (fun g' hg'=>(hpvn g' hg').imp (fun x=>by rw[HPV.out];exact x) (fun x=>Nat.le_trans hbw8.size x)) hdg.1 z with x|x
                ·exact HBG.out.feet b x
                ·exact .inr x
              have HUP:Hid (∀ wx pv,HAdd q q1 k x3 x4 dg c5 (l4.drop 2) pv w wx B rb E->Calls Tryz.prog 137 #[.pointer (some ⟨rb,0,none⟩),.int .i64 k] wx fun e w'=>e=.returned (.tuple #[])/\∃ q',QKept q1 k x3 x4 (l4.drop 2) q'/\RrAt w' B rb q'/\But (q.foot rb) w w'/\(∀ b,q'.foot rb b->q.foot rb b∨w.heap.size<=b)/\w'.heap[E]?=some (.cells #[.int .i64 0,.int .i64 0] 139 (0,0))):=fun wx pv hA=>by
               have hfit2:(q1.add k ⟨x3,x4,⟨dg,0,c5,l4.drop 2⟩⟩ pv).Fit:=fit_add HBG.out.fit HBG.out.lt ⟨by show x3<_;rw[HBG.out.cfg.1,HBG.out.cfg.2.2,HBG.out.part.2];exact HBK.out.1,hx4,by show(l4.drop 2).length=_;rw[HBG.out.cfg.2.2];exact HBK.out.2⟩ HUS.out;refine(rtake_any hA.at_ hfit2 (by show k<(q1.kn.set k _).length;rw[List.length_set];exact HBG.out.lt)).mono ?_;rintro e w' ⟨rfl,q',hqt,hR',hb',hft'⟩;refine⟨rfl,q',.inr ⟨HUS.out,_,pv,rfl,hqt⟩,hR',hA.but.then hb' (fun b hlt z=>?_),fun b z=>?_,(hb'.block E (lt_of_block hA.err) (fun z=>HEN.out _ _ hA.at_ hA.err (Rrv.book_foot z))).trans hA.err⟩
               ·rcases hA.feet b (Rrv.book_foot z)with x|x
                ·exact x
                ·omega
               ·rcases hft' b z with x|x
                ·exact hA.feet b x
                ·exact .inr (Nat.le_trans hA.but.size x)
              clear hOp hOk hgb hR8 hP8 hE8 hrow8 hbw8 hb68;go_upto_region 24 with fail
              go_cut[] from 144 to 161 (fun wx=>∃ pv,Hid (HAdd q q1 k x3 x4 dg c5 (l4.drop 2) pv w wx B rb E))
              case first=>
               go_region_law ((refine step_append_lies _ (by rfl) _ _ _ (by rfl) B 60 iK (.agg #[.int .i64 0,.int .i64 0,.int .i64 0,.int .i64 0,.int .i64 0,.slice none 0 0,.slice none 0 0]) 7 88 Tryz.underlying202 hiK hiK0 hiK1 hiK2 rfl (by omega) (.slice pa Lp pc) Lp ((prat q1.kn k).ps.flatMap (pkCells ob ln)) (by rfl) (HMK.out _) ⟨w8.heap.size,0,none⟩ 1 1 [Value.int .i64 ((1:Nat):Int),.int .i64 ob,.int .i64 ln,.int .i64 x3,.int .i64 x4,.slice (some ⟨dg,0,none⟩) q.S c5,.slice none 0 0] (by rfl) rfl (cell_seven_at w8 _ _ _ _ _ _ _ _ _ rfl) hmo Nat.one_pos hm1 hm2 (HM3.out _) (w8.heap.size+1) (by simp) ?_;intro g2 cap2 w4 hown4 hgr4 hlie4 hlt4;have hf64:=(HSE.out _ _ hgr4).2.1;have hc64:=(HSE.out _ _ hgr4).1;have hc65:=(HSE.out _ _ hgr4).2.2))
               all_goals
                have hb4:But (fun b=>(Value.slice pa Lp pc).ownBlock=some b) w8 w4:=((But.refl _ w8).alloc _).drew.grown hgr4 (fun k hk=>.inl hk)
                have HAD:Hid (HAdd q q1 k x3 x4 dg c5 (l4.drop 2) (.slice (some ⟨g2,0,none⟩) (Lp+1) cap2) w (w4.setCell ⟨g,k*3+2,none⟩ (.slice (some ⟨g2,0,none⟩) (Lp+1) cap2)) B rb E):=HPA.out w4 _ hb4 hown4 (fun g' hg'=>by
                 have e:g2=g':=by simpa [Value.ownBlock] using hg'
                 subst e;rcases hlie4 with z|z
                 ·exact .inl z
                 ·exact .inr (by omega))
                clear hown4 hgr4 hlie4 hlt4 hb4;go_wp2_with fail
                go_meet
                exact⟨_,HAD⟩
              case rest=>
               obtain⟨pv,hAD⟩:=hcut;obtain⟨w10,rfl⟩:∃ x,x=wc:=⟨wc,rfl⟩;have HTK:=HUP.out w10 pv hAD.out;clear HMK HM3 hmo hm1 hm2 hbn3 HSE HPA HUP c3 z2 i0 i1 i2 i3 i4 i5 i6;go_wp2_with fail;refine HTK.mono ?_;rintro e w11 ⟨rfl,q',hqk,hR11,hb11,hft11,hE11⟩;go_wp2_with fail;refine(none_err _).mono ?_;rintro e w12 ⟨rfl,hb12⟩;obtain⟨⟨f0,f1,f2,f3⟩,r0,r1,hfin⟩:=HFN.out q' w11 w12 hqk hR11 hb11 hft11 hE11 (HEN.out _ _ hR11 hE11) hb12;go_wp2_with fail;exact bodyPost_ret (v:=.agg #[.int .i64 0,.int .i64 (-1)]) (by simp[results,Tryz.results121,go_sem,r0,r1]) rfl hfin
            ·have HNU:Hid (¬(prat q1.kn k).use q1.K q1.S x3 x4):=fun x=>hu (by
              obtain⟨u1,u2⟩:=HUSE.out.1 x;refine⟨?_,u2⟩;cases hb:isb
              ·rfl
              ·exact absurd (HIS.out.1 hb) u1)
             cases isb with
             | true=>
              go_upto_region 23 with fail
              go_quiet (fail)
              go_upto_region 26 with fail;obtain⟨W8,hW8⟩:∃ x,x=w7.drewN nq:=⟨_,rfl⟩;rw[<- hW8];have hb78:Below w7.heap.size w7 W8:=below_drew hW8;clear hW8 e0 e1 e2 p2 p3;go_wp2_with fail;refine(none_err _).mono ?_;rintro e w9 ⟨rfl,hb9⟩;obtain⟨⟨f0,f1,f2,f3⟩,r0,r1,hfin⟩:=HFN.out q1 W6 w9 (.inl ⟨HNU.out,rfl⟩) HBG.out.at_ HBG.out.but HBG.out.feet HBG.out.err (HEN.out _ _ HBG.out.at_ HBG.out.err) ((HB67.out.trans (hb78.mono HB67.out.size)).trans (hb9.mono (Nat.le_trans HB67.out.size hb78.size)));go_wp2_with fail;exact bodyPost_ret (v:=.agg #[.int .i64 0,.int .i64 (-1)]) (by simp[results,Tryz.results121,go_sem,r0,r1]) rfl hfin
             | false=>
              have hlt:¬(cn:Int)<(sn:Int):=fun x=>hu ⟨rfl,by omega⟩
              go_upto_region 23 with fail
              go_region_held3 (fun w'=>w'.cell? ⟨rb,0,none⟩=some (.int .i64 (q.K:Int))/\w'.cell? ⟨rb,1,none⟩=some (.int .i64 (q.N:Int))/\w'.cell? ⟨rb,2,none⟩=some (.int .i64 (q.S:Int))/\w'.cell? ⟨pb,2,none⟩=some (.int .i64 ln)/\w'.cell? ⟨pb,3,none⟩=some (.int .i64 x3)) (first | go_keep|exact hkeep) (first
               | (go_at_call 96;refine(HSRC.out _).mono ?_;rintro e w8 ⟨rfl,hb8⟩;(have hbX:Below w7.heap.size w7 w8:=by first | exact Below.undraw hb8|exact hb8);have hkeep:=HKP.out w8 hbX))
              all_goals
               clear hkeep e0 e1 e2 p2 p3;go_upto_region 26 with fail;go_wp2_with fail;refine(none_err _).mono ?_;rintro e w9 ⟨rfl,hb9⟩;obtain⟨⟨f0,f1,f2,f3⟩,r0,r1,hfin⟩:=HFN.out q1 W6 w9 (.inl ⟨HNU.out,rfl⟩) HBG.out.at_ HBG.out.but HBG.out.feet HBG.out.err (HEN.out _ _ HBG.out.at_ HBG.out.err) ((HB67.out.trans (hbX.mono HB67.out.size)).trans (hb9.mono (Nat.le_trans HB67.out.size hbX.size)));go_wp2_with fail;exact bodyPost_ret (v:=.agg #[.int .i64 0,.int .i64 (-1)]) (by simp[results,Tryz.results121,go_sem,r0,r1]) rfl hfin
section
variable {A:Nat->Addr}{B0:Nat}{own0:Nat->Nat}{W0 W W':World}{hb t i:Nat}{hs:HS}{es:List Ent}{ps:List Pr}{qs:List Rp}{os:List Ent}{a:Option Addr}{b o n c:Nat}{l:List Gf.F}
theorem rwhear{G:Nat}{v1:Value}(h:PhG A B0 (RJ hb qs os) own0 W0 hb hs es ps G v1 W)(hi:i<qs.length)(hrp:RpOk (rpat qs i))(hO:OpB own0 W0 a b o n c l)(hL:Lent W G v1 [⟨.slice a n c,l⟩] [G] 1):
 Calls Tryz.prog 21 #[.pointer (some ⟨(rpat qs i).rb,0,none⟩),.slice (some ⟨G,0,none⟩) n (n+2)] W fun e W'=>
  ∃ v r',e=.returned v/\VSays A W' v (rhearZ (rpat qs i).r l)/\HStep (rpat qs i).r l r'/\r'.Ok/\PhG A B0 (RJ hb (qs.set i {rpat qs i with r:=r'}) os) own0 W0 hb hs es ps G v1 W'/\Lent W' G v1 [⟨.slice a n c,l⟩] [G] 1:=by
 have h':=h;obtain⟨own,hJ,hF,hX⟩:=h';have hG:Blk W G (marked l):=hL.blk 0 (by omega);have hlt:=hJ.hands.lt;have htl:=hJ.typLow;have hfew:=hO.few;have hR:=hJ.rest.now;obtain⟨hRc,hok⟩:=hR.rcv i hi;have hun:(rpat qs i).r.shut=false->(rpat qs i).r.tk.getD (bt l 1) false=false->bt l 1<16->(rpat qs i).r.un.length<16:=fun hs ht h16=>(hrp.sim.live hs).fewer h16 ht
 refine(rcvHear_full hRc hok hJ.errs hJ.typ (by omega) hO.len (by omega) (by omega) (by omega) (fun _=>rfl) (marked_bs9 hG) (fun _=>hG.lt) hun).mono ?_;rintro e W' ⟨v,r',rfl,hv,hRc',hok',hbu,hft,hst⟩;obtain⟨h1,h2⟩:=h.stepP hL hi hbu hRc' hok' hft;exact⟨v,r',rfl,hv,hst,hok',h1,h2⟩
theorem rwrhear{v:Value}{z:Int×Int}{r':Rcv}(h:PhB A B0 (RJ hb (qs.set i {rpat qs i with r:=r'}) os) own0 W0 hb hs es ps W)(hi:i<qs.length)(ok:(rpat qs i).r.Ok)(hrp:RpOk (rpat qs i))(hst:HStep (rpat qs i).r l r')(hO:OpB own0 W0 a b o n c l)(hv:VSays A W v z):
 Calls Tryz.prog 121 #[.pointer (some ⟨(rpat qs i).qb,0,none⟩),.slice a n c] W fun e W'=>
  e=.returned (.agg #[.int .i64 (rhearZ (rpat qs i).r l).1,.int .i64 (rhearZ (rpat qs i).r l).2])/\VSays A W' v z/\∃ q',PhB A B0 (RJ hb ((qs.set i {rpat qs i with r:=r'}).set i {rpat (qs.set i {rpat qs i with r:=r'}) i with q:=q'}) os) own0 W0 hb hs es ps W'/\SimR r' q':=by
 have h':=h;obtain⟨own,hJ,hF⟩:=h';have hOW:=hO.fr hF;have hfew:=hO.few;have hi1:i<(qs.set i {rpat qs i with r:=r'}).length:=by simpa using hi
 have hpr:rpat (qs.set i {rpat qs i with r:=r'}) i={rpat qs i with r:=r'}:=by rw[rpat_set hi,if_pos rfl]
 have hR:RrAt W (hb+1) (rpat qs i).qb (rpat qs i).q:=by
  have:=hJ.rest.now.rrv i hi1;rw[hpr]at this;exact this
 refine(rrHear_any hR hrp.sim.fit hO.len hO.cap (by omega) hO.adr hOW.bs (fun h0=>(hOW.free h0).1)).mono ?_;intro e W' hG';obtain⟨rfl,q',hR',hbu,hft,hs'⟩:=hG'.one hR ok hrp.sim;refine⟨rfl,hv.kept (fun pb cs hp=>hbu.block pb (lt_of_block hp) (hR.neB hp)),q',?_,hs' r' hst⟩;exact h.stepD hi1 (by rw[hpr];exact hbu) (by rw[hpr];exact hR') (fun b q=>by rw[hpr]at q ⊢;exact hft b q)
theorem rpat_set2{r':Rcv}{q':Rrv}(hi:i<qs.length)(j:Nat):
 rpat ((qs.set i {rpat qs i with r:=r'}).set i {rpat (qs.set i {rpat qs i with r:=r'}) i with q:=q'}) j=if i=j then {rpat qs i with r:=r',q:=q'} else rpat qs j:=by
 rw[rpat_set (by simpa using hi),rpat_set hi,if_pos rfl];split
 ·rfl
 ·rename_i e;rw[rpat_set hi,if_neg e]
theorem XI.phase{own:Nat->Nat}{w:World}{r':Rcv}{q':Rrv}(hI:XI A B0 own w hb t hs es ps qs os)(hi:i<qs.length)(hF0:Fr own w own0 W0)(h:PhB A B0 (RJ hb ((qs.set i {rpat qs i with r:=r'}).set i {rpat (qs.set i {rpat qs i with r:=r'}) i with q:=q'}) os) own0 W0 hb hs es ps W)(ha:r'.apartG/\∀ u ∈ r'.un,u.l.length<=255)(sim:SimR r' q'):XStay A B0 own w hb t hs.sv ps qs W:=by
 obtain⟨own',hJ,hF⟩:=h;refine⟨own',hs,es,ps,_,os,⟨⟨hJ,hI.sim,hI.n,hI.fewE,hI.fewP,hI.nil⟩,fun j hj=>?_,by simpa using hI.fewQ,hI.fewO⟩,SamePs.refl _,⟨by simp,fun j=>?_⟩,rfl,hF0.trans hF⟩
 ·rw[rpat_set2 hi]
  split
  ·exact⟨sim,ha.1,ha.2⟩
  ·exact hI.rp j (by simpa using hj)
 ·rw[rpat_set2 hi]
  split
  ·rename_i e;subst e;exact⟨rfl,rfl⟩
  ·exact⟨rfl,rfl⟩
end
theorem xhear_any{A:Nat->Addr}{B0:Nat}{own:Nat->Nat}{w:World}{hb t i:Nat}{hs:HS}{es:List Ent}{ps:List Pr}{qs:List Rp}{os:List Ent}{a:Option Addr}{b o n c:Nat}{l:List Gf.F}(hI:XI A B0 own w hb t hs es ps qs os)(hi:i<qs.length)(hOw:OpB own w a b o n c l):
 Calls Tryz.prog 86 #[.pointer (some ⟨hb,0,none⟩),.agg #[.pointer (some ⟨(rpat qs i).rb,0,none⟩),.pointer (some ⟨(rpat qs i).qb,0,none⟩)],.slice a n c] w fun e w'=>e=.returned (.bool true)/\XStay A B0 own w hb t hs.sv ps qs w':=by
 have hbe:Below w.heap.size w (w.alloc (.cells #[.pointer (some ⟨(rpat qs i).rb,0,none⟩),.pointer (some ⟨(rpat qs i).qb,0,none⟩)] 93)):=(Below.refl _ _).alloc (Nat.le_refl _) _;have hJ0:=hI.toWJ.above 1 hbe;have hF0:Fr own w (ownN own w.heap.size 1) _:=Fr.above 1 hbe;have hX0:=heap_alloc_new w (.cells #[.pointer (some ⟨(rpat qs i).rb,0,none⟩),.pointer (some ⟨(rpat qs i).qb,0,none⟩)] 93);have hO0:ownN own w.heap.size 1 w.heap.size=1:=ownN_new (Nat.le_refl _);go_enter Tryz.func86,Tryz.ntmps86;go_upto_region 1 with fail;generalize w.alloc (.cells #[.pointer (some ⟨(rpat qs i).rb,0,none⟩),.pointer (some ⟨(rpat qs i).qb,0,none⟩)] 93)=W0 at *;generalize ownN own w.heap.size 1=own0 at *;have hO:=hOw.fr hF0;have hP0:PhB A B0 (RJ hb qs os) own0 W0 hb hs es ps W0:=⟨own0,hJ0,Fr.refl _ _⟩;have HI:Hid (XI A B0 own w hb t hs es ps qs os):=hI;have HF0:Hid (Fr own w own0 W0):=hF0;have hbl:hb<W0.heap.size:=Nat.lt_of_lt_of_le hI.hands.lt hF0.size
 have HBX:Hid (∀(hs:HS) (R:Rst) W,PhB A B0 R own0 W0 hb hs es ps W->W.cell? ⟨w.heap.size,0,none⟩=some (.pointer (some ⟨(rpat qs i).rb,0,none⟩))/\W.cell? ⟨w.heap.size,1,none⟩=some (.pointer (some ⟨(rpat qs i).qb,0,none⟩))):=fun hs R W h=>by
  have:=(h.block (lt_of_block hX0) hO0).trans hX0;exact⟨(twoE this).1,(twoE this).2.1⟩
 obtain⟨x0,x1⟩:=HBX.out _ _ _ hP0;have hok:=(hI.rest.now.rcv i hi).2;have hrp:=hI.rp i hi;have HBY:Hid (∀ W,PhB A B0 (RJ hb qs os) own0 W0 hb hs es ps W->Calls Tryz.prog 81 #[.pointer (some ⟨hb,2,none⟩),.slice a n c] W fun e W'=>∃ G v1,e=.returned (.slice (some ⟨G,0,none⟩) n (n+2))/\PhG A B0 (RJ hb qs os) own0 W0 hb hs es ps G v1 W'/\Lent W' G v1 [⟨.slice a n c,l⟩] [G] 1/\W0.heap.size<=G/\LowH hs es G):=fun W h=>wbytes h hI.nil.in0 hO
 have HHR:Hid (∀ W G v1,PhG A B0 (RJ hb qs os) own0 W0 hb hs es ps G v1 W->Lent W G v1 [⟨.slice a n c,l⟩] [G] 1->Calls Tryz.prog 21 #[.pointer (some ⟨(rpat qs i).rb,0,none⟩),.slice (some ⟨G,0,none⟩) n (n+2)] W fun e W'=>∃ v r',e=.returned v/\VSays A W' v (rhearZ (rpat qs i).r l)/\HStep (rpat qs i).r l r'/\r'.Ok/\PhG A B0 (RJ hb (qs.set i {rpat qs i with r:=r'}) os) own0 W0 hb hs es ps G v1 W'/\Lent W' G v1 [⟨.slice a n c,l⟩] [G] 1):=fun W G v1 h hL=>rwhear h hi hrp hO hL
 have hP0d:PhB A B0 (RJ hb qs os) own0 W0 hb hs es ps W0.drew:=hP0.above ((Below.refl _ _).drew);have HRH:Hid (∀ W v z r',PhB A B0 (RJ hb (qs.set i {rpat qs i with r:=r'}) os) own0 W0 hb hs es ps W->HStep (rpat qs i).r l r'->VSays A W v z->Calls Tryz.prog 121 #[.pointer (some ⟨(rpat qs i).qb,0,none⟩),.slice a n c] W fun e W'=>e=.returned (.agg #[.int .i64 (rhearZ (rpat qs i).r l).1,.int .i64 (rhearZ (rpat qs i).r l).2])/\VSays A W' v z/\∃ q',PhB A B0 (RJ hb ((qs.set i {rpat qs i with r:=r'}).set i {rpat (qs.set i {rpat qs i with r:=r'}) i with q:=q'}) os) own0 W0 hb hs es ps W'/\SimR r' q'):=fun W v z r' h hst hv=>rwrhear h hi hok hrp hst hO hv
 have HAG:Hid (∀ r',HStep (rpat qs i).r l r'->r'.apartG/\∀ u ∈ r'.un,u.l.length<=255):=fun r' h=>⟨h.apartG hrp.apart,h.short hrp.short⟩
 clear hX0 hO0 hJ0 hI hbe hF0 hrp hok
 go_cut[7] (fun v wx=>∃ G v1 r',VSays A wx v (rhearZ (rpat qs i).r l)/\HStep (rpat qs i).r l r'/\PhG A B0 (RJ hb (qs.set i {rpat qs i with r:=r'}) os) own0 W0 hb hs es ps G v1 wx/\Lent wx G v1 [⟨.slice a n c,l⟩] [G] 1/\W0.heap.size<=G/\LowH hs es G)
 case first=>
  go_region_with (first
   | (go_at_call 81;refine(HBY.out _ hP0d).mono ?_;rintro e w1 ⟨G,v1,rfl,hG1,hL1,hle1,hlow1⟩;obtain⟨x0',x1'⟩:=HBX.out _ _ _ hG1.b)
   | (go_at_call 21;refine(HHR.out _ _ _ hG1 hL1).mono ?_;rintro e w2 ⟨v,r',rfl,hv,hst,hok',hG2,hL2⟩))
  all_goals go_wp2_with fail
  all_goals go_meet
  all_goals exact⟨G,v1,r',hv,hst,hG2,hL2,hle1,hlow1⟩
 case rest=>
  obtain⟨G,v1,r',hv,hst,hG,hL,hle,hlow⟩:=hcut;have HST:Hid (HStep (rpat qs i).r l r'):=hst;have HBK:Hid (Calls Tryz.prog 82 #[.pointer (some ⟨hb,2,none⟩),.slice none 0 0] wc fun e W'=>e=.returned (.bool true)/\PhB A B0 (RJ hb (qs.set i {rpat qs i with r:=r'}) os) own0 W0 hb hs es ps W'/\But (fun b=>b=hb∨b=G) wc W'):=wback _ hG HI.out.nil hO hL hle hlow hbl;clear x0 x1 hst;go_wp2_with fail;refine HBK.out.mono ?_;rintro e w3 ⟨rfl,hP3,hb3⟩
  have hv3:VSays A w3 u7 (rhearZ (rpat qs i).r l):=hv.kept (fun pb cs hp=>hb3.block pb (lt_of_block hp) (fun q=>by
   obtain⟨_,hJ,_⟩:=hG;rcases q with q|q
   ·exact ne_typ hp hJ.hands (by decide) q
   ·exact ne_typ hp (hL.blk 0 (by omega)) (by decide) q))
  have HTD:Hid (∀ W,VSays A W u7 (rhearZ (rpat qs i).r l)->Errs A B0 W->Calls Tryz.prog 56 #[u7] W fun e w'=>e=.returned (.agg #[.int .i64 (rhearZ (rpat qs i).r l).1,.int .i64 (rhearZ (rpat qs i).r l).2])/\Below W.heap.size W w'):=fun W h1 h2=>told_says h2 h1
  have HRH':Hid (∀ W v z,PhB A B0 (RJ hb (qs.set i {rpat qs i with r:=r'}) os) own0 W0 hb hs es ps W->VSays A W v z->Calls Tryz.prog 121 #[.pointer (some ⟨(rpat qs i).qb,0,none⟩),.slice a n c] W fun e W'=>e=.returned (.agg #[.int .i64 (rhearZ (rpat qs i).r l).1,.int .i64 (rhearZ (rpat qs i).r l).2])/\VSays A W' v z/\∃ q',PhB A B0 (RJ hb ((qs.set i {rpat qs i with r:=r'}).set i {rpat (qs.set i {rpat qs i with r:=r'}) i with q:=q'}) os) own0 W0 hb hs es ps W'/\SimR r' q'):=fun W v z h hv=>HRH.out W v z r' h HST.out hv
  have HFIN:Hid (∀ q' W,PhB A B0 (RJ hb ((qs.set i {rpat qs i with r:=r'}).set i {rpat (qs.set i {rpat qs i with r:=r'}) i with q:=q'}) os) own0 W0 hb hs es ps W->SimR r' q'->XStay A B0 own w hb t hs.sv ps qs W):=fun q' W h hs'=>HI.out.phase hi HF0.out h (HAG.out r' HST.out) hs'
  clear hv hG hL hle hlow HBK hb3 HRH;go_upto_region 3 with fail;have hP3d:PhB A B0 (RJ hb (qs.set i {rpat qs i with r:=r'}) os) own0 W0 hb hs es ps w3.drew:=hP3.above ((Below.refl _ _).drew);have hv3d:VSays A w3.drew u7 (rhearZ (rpat qs i).r l):=hv3.below ((Below.refl _ _).drew);obtain⟨x0,x1⟩:=HBX.out _ _ _ hP3;generalize rhearZ (rpat qs i).r l=Z at *;obtain⟨z0,z1⟩:=Z;simp only at *
  go_region_with (first
   | (go_at_call 56;first
    | (refine(HTD.out _ hv5 hP5.errs).mono ?_;rintro e w6 ⟨rfl,hb6⟩)
    | (refine(HTD.out _ hv3d hP3d.errs).mono ?_;rintro e w4 ⟨rfl,hb4⟩;have hP4:=hP3d.above hb4;have hv4:=hv3d.below hb4;obtain⟨x0',x1'⟩:=HBX.out _ _ _ hP4))
   | (go_at_call 121;first
    | (refine(HRH'.out _ _ _ hP4 hv4).mono ?_;rintro e w5 ⟨rfl,hv5,q',hP5,hs5⟩)
    | (refine(HRH'.out _ _ _ hP3d hv3d).mono ?_;rintro e w5 ⟨rfl,hv5,q',hP5,hs5⟩)))
  all_goals go_wp2_with fail
  all_goals go_ret
  all_goals first
   | exact⟨rfl,HFIN.out _ _ (hP5.above hb6) hs5⟩
   | exact⟨rfl,HFIN.out _ _ hP5 hs5⟩
theorem own_opb{own:Nat->Nat}{w:World}{B n c:Nat}{a:Option Addr}{l:List Gf.F}(h:w.ownsRow B 5 1 (.slice a n c) n (encL l))(hl:l.length=n)(hn:n<=1000)(ho:∀ b,B<=b->b<w.heap.size->own b=1):∃ b,OpB own w a b 0 n c l:=by
 rcases h.2 with⟨h1,h2⟩|⟨g,cap,cur,h1,hB,hh,h4,h5,_,_⟩
 ·simp only[Value.slice.injEq]at h1
  obtain⟨rfl,_,rfl⟩:=h1;subst h2;have:l=[]:=List.eq_nil_of_length_eq_zero hl;subst this;exact⟨0,OpB.nil _ _⟩
 ·simp only[Value.slice.injEq]at h1
  obtain⟨rfl,_,rfl⟩:=h1;have hlt:=lt_of_block hh;exact⟨g,hl,h4,by unfold maxLen at h5;omega,by omega,fun _=>rfl,own_bs h hl,fun _=>⟨hlt,ho g hB hlt⟩⟩
theorem xask_any{A:Nat->Addr}{B0:Nat}{own:Nat->Nat}{w:World}{hb t i:Nat}{hs:HS}{es:List Ent}{ps:List Pr}{qs:List Rp}{os:List Ent}(hI:XI A B0 own w hb t hs es ps qs os)(hi:i<qs.length)(ht:t<=200000000):
 Calls Tryz.prog 29 #[.pointer (some ⟨hb,0,none⟩),.agg #[.pointer (some ⟨(rpat qs i).rb,0,none⟩),.pointer (some ⟨(rpat qs i).qb,0,none⟩)]] w fun e w'=>∃ a b o n c l,e=.returned (.tuple #[.slice a n c,.bool true])/\∃ own' hs' es',XI A B0 own' w' hb (t+1) hs' es' ps qs os/\Fr own w own' w'/\OpB own' w' a b o n c l:=by
 have hbe:Below w.heap.size w (w.alloc (.cells #[.pointer (some ⟨(rpat qs i).rb,0,none⟩),.pointer (some ⟨(rpat qs i).qb,0,none⟩)] 93)):=(Below.refl _ _).alloc (Nat.le_refl _) _;have hI0:=hI.above 1 hbe;have hF0:Fr own w (ownN own w.heap.size 1) _:=Fr.above 1 hbe;have hX0:=heap_alloc_new w (.cells #[.pointer (some ⟨(rpat qs i).rb,0,none⟩),.pointer (some ⟨(rpat qs i).qb,0,none⟩)] 93);obtain⟨N,hN,hN2⟩:=hI.n;have hfE:=hI.fewE;have hlt:=hI.hands.lt;have hrp:=hI.rp i hi;go_enter Tryz.func29,Tryz.ntmps29;go_upto_region 1 with fail;generalize w.alloc (.cells #[.pointer (some ⟨(rpat qs i).rb,0,none⟩),.pointer (some ⟨(rpat qs i).qb,0,none⟩)] 93)=W0 at *;generalize ownN own w.heap.size 1=own0 at *;have HI:Hid (XI A B0 own w hb t hs es ps qs os):=hI;have HF0:Hid (Fr own w own0 W0):=hF0;obtain⟨hRc,hok⟩:=hI0.rest.now.rcv i hi;have hRq:=hI0.rest.now.rrv i hi;obtain⟨x0,x1,_,_⟩:=twoE hX0;have HAK:Hid (Calls Tryz.prog 15 #[.pointer (some ⟨(rpat qs i).rb,0,none⟩)] W0 (AskTells A (rpat qs i).r W0)):=ask_any hRc hok hI0.errs;clear hI hF0 hbe;go_wp2_with fail;refine HAK.out.mono ?_;intro e w1 hG;obtain⟨v,ev,l,z,rfl,hv,hlz,hown,hb1⟩:=hG.one;have hsm:=hlz.small hok;clear HAK hG x0 x1;have hI1:=hI0.above 0 hb1;have hF1:Fr own0 W0 (ownN own0 W0.heap.size 0) w1:=Fr.above 0 hb1;have hX1:=(hb1.block _ (lt_of_block hX0)).trans hX0;obtain⟨x0,x1,_,_⟩:=twoE hX1;have HRA:Hid (Calls Tryz.prog 55 #[.pointer (some ⟨(rpat qs i).qb,0,none⟩)] w1 (RAskGives (rpat qs i).q w1)):=rask_any (hRq.above hb1) hrp.sim.fit.ok;obtain⟨av,ac,hvv,_⟩:=own_form2 hown;subst hvv;go_wp2_with fail;refine HRA.out.mono ?_;intro e w2 hG2;obtain⟨a2,c2,rfl,hown2,hb2⟩:=hG2.one hok hrp.sim hlz;clear HRA hG2 x0 x1;obtain⟨z0,z1⟩:=z;simp only at *;have hI2:=hI1.above 1 hb2;have hF2:Fr (ownN own0 W0.heap.size 0) w1 (ownN (ownN own0 W0.heap.size 0) w1.heap.size 1) w2:=Fr.above 1 hb2;have hs1:=hb1.size;have hs2:=hb2.size;have hown':w2.ownsRow W0.heap.size 5 1 (.slice av l.length ac) l.length (encL l):=own_of_block hown (fun g hg=>hb2.block g (hown.lt g hg).2);obtain⟨b2,hOB⟩:=own_opb (own:=ownN (ownN own0 W0.heap.size 0) w1.heap.size 1) hown2 rfl (by omega) (fun b h1 _=>ownN_new h1);have hv2:=hv.below hb2;have hb3:Below w2.heap.size w2 (w2.alloc (.cells #[.int .i64 z0,.int .i64 z1] 139)):=(Below.refl _ _).alloc (Nat.le_refl _) _;have hE3:=heap_alloc_new w2 (.cells #[.int .i64 z0,.int .i64 z1] 139);go_upto_region 3 with fail;generalize w2.alloc (.cells #[.int .i64 z0,.int .i64 z1] 139)=W3 at *;have hI3:=hI2.above 1 hb3;have hF3:Fr (ownN (ownN own0 W0.heap.size 0) w1.heap.size 1) w2 (ownN (ownN (ownN own0 W0.heap.size 0) w1.heap.size 1) w2.heap.size 1) W3:=Fr.above 1 hb3;have hv3:=hv2.below hb3;have hown3:W3.ownsRow W0.heap.size 5 1 (.slice av l.length ac) l.length (encL l):=own_of_block hown' (fun g hg=>hb3.block g (hown'.lt g hg).2);have hown23:W3.ownsRow w1.heap.size 5 1 (.slice a2 l.length c2) l.length (encL l):=own_of_block hown2 (fun g hg=>hb3.block g (hown2.lt g hg).2);have hOB3:=hOB.fr hF3;obtain⟨eb,heb⟩:∃ x,x=w2.heap.size:=⟨_,rfl⟩;rw[<- heb]at hE3 ⊢;obtain⟨e0,e1,_,_⟩:=twoE hE3;have hq1:(convert 33 9 (.slice av l.length ac)).run Tryz.prog W3.drew=.ok (.string (str l)) W3.drew:=(own_raw9 (own_of_block (w':=W3.drew) hown3 (fun _ _=>rfl)) rfl).conv 0;have hq2:(convert 33 9 (.slice a2 l.length c2)).run Tryz.prog W3.drew=.ok (.string (str l)) W3.drew:=(own_raw9 (own_of_block (w':=W3.drew) hown23 (fun _ _=>rfl)) rfl).conv 0;have hss:((str l).toList==(str l).toList)=true:=by rw[beq_iff_eq]
 have HE7:Hid (∀ w7,Below W3.heap.size W3 w7->w7.cell? ⟨eb,0,none⟩=some (.int .i64 z0)/\w7.cell? ⟨eb,1,none⟩=some (.int .i64 z1)):=fun w7 hb7=>⟨by rw[hb7.cell (lt_of_cell e0)];exact e0,by rw[hb7.cell (lt_of_cell e1)];exact e1⟩
 have HTD:Hid (∀ W,Below W3.heap.size W3 W->Calls Tryz.prog 56 #[ev] W fun e w'=>e=.returned (.agg #[.int .i64 z0,.int .i64 z1])/\Below W.heap.size W w'):=fun W hW=>told_says (z:=(z0,z1)) (hI3.errs.below (hW.mono (by have:=hI3.low;have:=hI3.hands.lt;omega))) (hv3.below hW)
 have hdr:Below W3.heap.size W3 W3.drew:=(Below.refl _ _).drew;have HI3:Hid (XI A B0 (ownN (ownN (ownN own0 W0.heap.size 0) w1.heap.size 1) w2.heap.size 1) W3 hb t hs es ps qs os):=hI3;have hS13:w1.heap.size<=W3.heap.size:=Nat.le_trans hs2 hb3.size;have HOW:Hid (W3.ownsRow W0.heap.size 5 1 (.slice av l.length ac) l.length (encL l)):=hown3;have HO2:Hid (W3.ownsRow w1.heap.size 5 1 (.slice a2 l.length c2) l.length (encL l)):=hown23;have HOB:Hid (OpB (ownN (ownN (ownN own0 W0.heap.size 0) w1.heap.size 1) w2.heap.size 1) W3 a2 b2 0 l.length c2 l):=hOB3;have HFF:Hid (Fr own w (ownN (ownN (ownN own0 W0.heap.size 0) w1.heap.size 1) w2.heap.size 1) W3):=((HF0.out.trans hF1).trans hF2).trans hF3
 have HLO:Hid (∀ b,(Value.slice av l.length ac).ownBlock=some b->ownN (ownN (ownN own0 W0.heap.size 0) w1.heap.size 1) w2.heap.size 1 b=0/\b<w1.heap.size/\W0.heap.size<=b):=fun b hb'=>by
  obtain⟨h1,h2⟩:=hown.lt b hb';exact⟨by rw[ownN_old (by omega),ownN_old h2,ownN_new h1],h2,h1⟩
 have HES:Hid (∀ e ∈ es,∀ b,e.v.ownBlock=some b->b<W0.heap.size):=fun e he b hg=>hI0.ltE he hg
 clear heb hE3 hb3 hI2 hI1 hI0 hI3 hown hown' hown2 hown3 hown23 hOB hOB3 hv hv2 hb1 hb2 hX0 hX1 hF1 hF2 hF3 hRc hRq hlz;obtain⟨ln,hln⟩:∃ x,x=l.length:=⟨_,rfl⟩;have HLN:Hid (ln=l.length):=hln;rw[<- hln]at hq1 hq2 HOW HOB HO2 HLO hsm ⊢;clear hln;generalize ownN (ownN (ownN own0 W0.heap.size 0) w1.heap.size 1) w2.heap.size 1=own3 at *
 have hsz3:w1.heap.size<=W3.heap.size:=by
  have:=hS13;omega
 have HCV:Hid (∀ w7,Below W3.heap.size W3 w7->(convert 33 9 (.slice av ln ac)).run Tryz.prog w7=.ok (.string (str l)) w7/\(convert 33 9 (.slice a2 ln c2)).run Tryz.prog w7=.ok (.string (str l)) w7):=fun w7 hb7=>⟨(own_raw9 (own_of_block HOW.out (fun g hg=>hb7.block g (HOW.out.lt g hg).2)) HLN.out.symm).conv 0,(own_raw9 (own_of_block HO2.out (fun g hg=>hb7.block g (HO2.out.lt g hg).2)) HLN.out.symm).conv 0⟩
 have hkeepD:W3.drew.cell? ⟨eb,0,none⟩=some (.int .i64 z0)/\W3.drew.cell? ⟨eb,1,none⟩=some (.int .i64 z1)/\(convert 33 9 (.slice av ln ac)).run Tryz.prog W3.drew=.ok (.string (str l)) W3.drew/\(convert 33 9 (.slice a2 ln c2)).run Tryz.prog W3.drew=.ok (.string (str l)) W3.drew:=⟨(HE7.out _ hdr).1,(HE7.out _ hdr).2,(HCV.out _ hdr).1,(HCV.out _ hdr).2⟩;clear hq1 hq2
 go_region_held3 (fun w'=>w'.cell? ⟨eb,0,none⟩=some (.int .i64 z0)/\w'.cell? ⟨eb,1,none⟩=some (.int .i64 z1)/\(convert 33 9 (.slice av ln ac)).run Tryz.prog w'=.ok (.string (str l)) w'/\(convert 33 9 (.slice a2 ln c2)).run Tryz.prog w'=.ok (.string (str l)) w') (first | exact hkeepD|go_keep|exact hkeep) (first
  | (go_at_call 56;refine(HTD.out _ hdr).mono ?_;rintro e w7 ⟨rfl,hb7⟩;(have hbX:Below W3.heap.size W3 w7:=by first | exact Below.undraw hb7|exact hb7);have hkeep:w7.cell? ⟨eb,0,none⟩=some (.int .i64 z0)/\w7.cell? ⟨eb,1,none⟩=some (.int .i64 z1)/\(convert 33 9 (.slice av ln ac)).run Tryz.prog w7=.ok (.string (str l)) w7/\(convert 33 9 (.slice a2 ln c2)).run Tryz.prog w7=.ok (.string (str l)) w7:=⟨(HE7.out w7 hbX).1,(HE7.out w7 hbX).2,(HCV.out w7 hbX).1,(HCV.out w7 hbX).2⟩;obtain⟨y0',y1',_,_⟩:=hkeep))
 all_goals
  have hI7:=HI3.out.above 1 hbX;have hF7:Fr own3 W3 (ownN own3 W3.heap.size 1) w7:=Fr.above 1 hbX;have hown7:w7.ownsRow W0.heap.size 5 1 (.slice av ln ac) ln (encL l):=own_of_block HOW.out (fun g hg=>hbX.block g (HOW.out.lt g hg).2);have hs7:=hbX.size
  have HK:Hid (Calls Tryz.prog 54 #[.pointer (some ⟨hb,2,none⟩),.slice av ln ac] w7 fun e w'=>e=.returned (.tuple #[])/\∃ es' vo vm,WJ A B0 (RJ hb qs os) (ownN (ownN own3 W3.heap.size 1) w7.heap.size 0) w' hb {hs with n:=(N:Int)+1,out:=vo,marks:=vm} (es++es') ps/\es'.length=4/\Fr (ownN own3 W3.heap.size 1) w7 (ownN (ownN own3 W3.heap.size 1) w7.heap.size 0) w'):=wkeep hI7.toWJ hN hN2 ht hfE (by omega) hown7 (by omega) (fun e he k hk q=>by
   have h1:=HES.out e he k q;have h2:=(HLO.out k hk).2.2;omega) (fun b hb'=>by
   obtain⟨h1,h2,_⟩:=HLO.out b hb';rw[ownN_old (by omega)];exact h1)
  go_wp2_with fail;refine HK.out.mono ?_;rintro e w8 ⟨rfl,es',vo,vm,hJ8,h4,hF8⟩;go_wp2_with fail;go_ret2;have hX7:=HI3.out;exact⟨a2,b2,0,ln,c2,l,rfl,_,_,_,⟨⟨hJ8,fun j hj=>(hX7.sim j hj).more (by omega),⟨N+1,by push_cast;rfl,by omega⟩,by simp;omega,by have:=hX7.fewP;omega,⟨hX7.nil.in0,hX7.nil.rows0,hX7.nil.ints0,hX7.nil.want0,hX7.nil.outer0,hX7.nil.omarks0,hX7.nil.lacks0⟩⟩,hX7.rp,by have:=hX7.fewQ;omega,by have:=hX7.fewO;omega⟩,(HFF.out.trans hF7).trans hF8,(HOB.out.fr hF7).fr hF8⟩
structure KeptOb(w w':World)(hb B N:Nat)(s:HS)(es es':List Ent)(v vo vm:Value):Prop where
 hands:HAt w' hb {s with n:=(N:Int)+1,objs:=vo,bmarks:=vm}
 obs:Obs w' B vo vm (es++es')
 four:es'.length=4
 objsAt:∀ b,vo.ownBlock=some b->s.objs.ownBlock=some b∨w.heap.size<=b
 marksAt:∀ b,vm.ownBlock=some b->s.bmarks.ownBlock=some b∨w.heap.size<=b
 newAt:∀ e ∈ es',∀ b,e.v.ownBlock=some b->v.ownBlock=some b∨w.heap.size<=b
 but:But (fun b=>b=hb∨s.objs.ownBlock=some b∨s.bmarks.ownBlock=some b∨v.ownBlock=some b) w w'
theorem KSO.sees{w wr w4:World}{hb B Bv N n M:Nat}{s:HS}{es:List Ent}{v lv vo vm:Value}{eo em:List Ent}{k:Nat}{o:Obj}(h:KSO w wr hb B Bv N n M s es v lv vo vm eo em k)(hg:(wr.alloc o).drew.grownBy w4 vm.ownBlock):
 w4.cell? ⟨hb,14,none⟩=some vm/\w4.cell? ⟨hb,6,none⟩=some (.int .i64 ((N:Int)+1))/\w4.frozen? ⟨hb,14,none⟩=false:=by
 have hk:w4.heap[hb]?=wr.heap[hb]?:=by
  rw[grown_block hg (by have:=h.hands.lt;simp;omega) (fun q=>own_ne h.marks q h.hands (by decide) rfl)];exact Below.heap_alloc wr o hb h.hands.lt
 have hH:=h.hands.kept hk;exact⟨hH.cell 12,hH.cell 4,hH.frozen 14⟩
theorem own_set2{w:World}{B g n c i:Nat}{e:TypeId}{xs:List Value}{u u':Value}(h:w.ownsRow B e 2 (.slice (some ⟨g,0,none⟩) n c) n xs):((w.setCell ⟨g,i,none⟩ u).setCell ⟨g,i+1,none⟩ u').ownsRow B e 2 (.slice (some ⟨g,0,none⟩) n c) n ((xs.set i u).set (i+1) u'):=by
 have hl:=h.1;rcases h.2 with⟨h1,_⟩|⟨g',cap,cur,h1,h2,h3,h4,h5,h6,h7⟩
 ·cases h1
 ·simp only[Value.slice.injEq,Option.some.injEq,Addr.mk.injEq]at h1
  obtain⟨⟨rfl,_⟩,_,rfl⟩:=h1;refine⟨by simpa using hl,.inr ⟨g,c,(cur.setIfInBounds i u).setIfInBounds (i+1) u',rfl,h2,heap_setCell_same _ _ _ _ _ _ (heap_setCell_same _ _ _ _ _ _ h3),h4,h5,by simpa using h6,?_⟩⟩;rw[<- h7,Array.toList_setIfInBounds,Array.toList_setIfInBounds,List.take_set,List.take_set]
theorem obFill_step(m:Nat)(xs:List Value)(i n:Nat)(hl:xs.length=n*2)(hi:i<n):((obRow m i++xs.drop (i*2)).set (i*2) (.int .i64 (-(m:Int)))).set (i*2+1) (.slice none 0 0)=obRow m (i+1)++xs.drop ((i+1)*2):=by
 have hr:=obRow_length m i
 obtain⟨a,b,r,hd⟩:∃ a b r,xs.drop (i*2)=a :: b :: r:=by
  have:(xs.drop (i*2)).length ≥ 2:=by simp;omega
  match hx:xs.drop (i*2),this with
  | a :: b :: r,_=>exact⟨a,b,r,rfl⟩
 have hr2:xs.drop ((i+1)*2)=r:=by
  rw[show(i+1)*2=i*2+2 by omega,<- List.drop_drop,hd];rfl
 rw[hd,hr2,List.set_append_right _ _ (by omega),hr,Nat.sub_self,List.set_cons_zero,List.set_append_right _ _ (by omega),hr,show i*2+1 - i*2=1 by omega,obRow,List.append_assoc];rfl
theorem obFill_at(m:Nat)(xs:List Value)(i n:Nat)(hl:xs.length=n*2)(hi:i<n):(∃ x,(obRow m i++xs.drop (i*2))[i*2]?=some x)/\∃ x,(obRow m i++xs.drop (i*2))[i*2+1]?=some x:=by
 have hr:=obRow_length m i;exact⟨⟨_,List.getElem?_eq_getElem (by simp[hr];omega)⟩,⟨_,List.getElem?_eq_getElem (by simp[hr];omega)⟩⟩
theorem own_cell2{w:World}{B n sz:Nat}{e:TypeId}{v:Value}{xs:List Value}(h:w.ownsRow B e sz v n xs){g:Nat}(hg:v.ownBlock=some g){j:Nat}{x:Value}(hx:xs[j]?=some x):w.cell? ⟨g,j,none⟩=some x:=own_cell h hg hx
theorem Tryz.info_objs:(Tryz.prog.info? 65).map (fun i=>(i.zero,i.size,i.bytes))=some (some (.slice none 0 0),1,24):=by kernel_rfl
theorem Tryz.objs_parts:∃ i,Tryz.prog.info? 65=some i/\i.zero=some (.slice none 0 0)/\i.size=1/\i.bytes=24:=by
 have h:=Tryz.info_objs
 cases hi:Tryz.prog.info? 65 with
 | none=>rw[hi]at h;simp at h
 | some i=>rw[hi]at h;simp at h;exact⟨i,rfl,h.1,h.2.1,h.2.2⟩
structure ObPre(hb B Bv N n:Nat)(os:List Ent)(v:Value)(us:List Un)(P:Nat->World->HS->Prop):Prop where
 at_:∀ i w s,P i w s->HAt w hb s/\s.n=((N+i:Nat):Int)/\Obs w B s.objs s.bmarks os/\w.ownsRow Bv 136 2 v n (flat2 (unVals us))/\B<=w.heap.size/\Bv<=w.heap.size
 step:∀ i w s,i<n->P i w s->Calls Tryz.prog 54 #[.pointer (some ⟨hb,2,none⟩),(unVals us).getD i (.int .i64 0,.int .i64 0) |>.2] w fun e w'=>e=.returned (.tuple #[])/\∃ s',P (i+1) w' s'
theorem un_cell{w:World}{Bv n g c i:Nat}{us:List Un}(h:w.ownsRow Bv 136 2 (.slice (some ⟨g,0,none⟩) n c) n (flat2 (unVals us)))(hl:us.length=n)(hi:i<n):∃(u:Un),us[i]?=some u/\(unVals us).getD i (.int .i64 0,.int .i64 0)=(.int .i64 (u.n:Int),.slice (some ⟨u.g,0,none⟩) u.l.length u.l.length)/\w.cell? ⟨g,i*2,none⟩=some (.int .i64 (u.n:Int))/\w.cell? ⟨g,i*2+1,none⟩=some (.slice (some ⟨u.g,0,none⟩) u.l.length u.l.length):=by
 obtain⟨u,hu⟩:∃ u,us[i]?=some u:=⟨us[i],List.getElem?_eq_getElem (by omega)⟩;have hv:(unVals us)[i]?=some (.int .i64 (u.n:Int),.slice (some ⟨u.g,0,none⟩) u.l.length u.l.length):=by unfold unVals;rw[List.getElem?_map,hu];rfl
 have e0:(flat2 (unVals us))[i*2]?=some (.int .i64 (u.n:Int)):=by rw[Nat.mul_comm,flat2_get0,hv];rfl
 have e1:(flat2 (unVals us))[i*2+1]?=some (.slice (some ⟨u.g,0,none⟩) u.l.length u.l.length):=by rw[Nat.mul_comm,flat2_get1,hv];rfl
 exact⟨u,hu,by rw[List.getD_eq_getElem?_getD,hv];rfl,own_cell h rfl e0,own_cell h rfl e1⟩
theorem keepObjects_any(hb B Bv N n:Nat)(s:HS)(es:List Ent)(v:Value)(us:List Un)(P:Nat->World->HS->Prop)(w:World)(hP:ObPre hb B Bv N n es v us P)(h0:P 0 w s)(hul:us.length=n)(hN2:N+n<=1000000000)(hes:es.length<=10000000000)(hn:n<=1000000)
 (hfar:∀ e ∈ es,∀ g,v.ownBlock=some g->e.v.ownBlock≠some g):
 Calls Tryz.prog 58 #[.pointer (some ⟨hb,2,none⟩),v] w fun e w'=>
  e=.returned (.tuple #[])/\∃ w1 s1,P n w1 s1/\∃ es' vo vm,KeptOb w1 w' hb B (N+n) s1 es es' v vo vm:=by
 obtain⟨_,_,_,hv00,_,_⟩:=hP.at_ 0 w s h0;obtain⟨a,c,hva⟩:∃ a c,v=.slice a n c:=by obtain⟨a,c,h,_⟩:=own_form2 hv00;exact⟨a,c,h⟩
 have HV:Hid (v=.slice a n c):=hva;have HPA:Hid (ObPre hb B Bv N n es v us P):=hP;have HP0:Hid (P 0 w s):=h0;have HFAR0:Hid (∀ e ∈ es,∀ g,v.ownBlock=some g->e.v.ownBlock≠some g):=hfar;have HUL:Hid (us.length=n):=hul;clear hP h0 hfar hv00 hul;rw[hva];clear hva;go_enter Tryz.func58,Tryz.ntmps58;go_wp2_with fail
 go_loopw[4] (fun t wr=>∃(i:Nat) (s':HS),i<=n/\t=.int .i64 i/\Hid (P i wr s')) (fun t _=>n - (intOf t).toNat)
 case atStart=>exact⟨0,s,by omega,rfl,HP0⟩
 case round=>
  clear HP0;obtain⟨i,s',hi,rfl,HPi⟩:=hrel;by_cases hlt2:i<n
  ·have hin:(i:Int)<(n:Int):=by omega
   have hi0:(0:Int)<=(i:Int):=by omega
   obtain⟨_,_,_,hvi,_,_⟩:=HPA.out.at_ i wr s' HPi.out;rw[HV.out]at hvi;obtain⟨g,c',hvg,_,_⟩:=hvi.form (by omega);simp only[Value.slice.injEq]at hvg;obtain⟨rfl,-,rfl⟩:=hvg;obtain⟨u,_,hu2,c0,c1⟩:=un_cell hvi HUL.out hlt2
   have HST:Hid (Calls Tryz.prog 54 #[.pointer (some ⟨hb,2,none⟩),.slice (some ⟨u.g,0,none⟩) u.l.length u.l.length] wr fun e w'=>e=.returned (.tuple #[])/\∃ s',P (i+1) w' s'):=by
    have:=HPA.out.step i wr s' hlt2 HPi.out;rw[hu2]at this;exact this
   obtain⟨ul,hul⟩:∃ x,x=u.l.length:=⟨_,rfl⟩;rw[<- hul]at c1 HST;clear hvi hu2 hul;go_wp2_with fail;refine HST.out.mono ?_;rintro e w2 ⟨rfl,s2,hp2⟩;have HP2:Hid (P (i+1) w2 s2):=hp2;clear hp2 HST c0 c1;go_wp2_with fail
   go_roundw
   case rel=>exact⟨i+1,s2,by omega,by go_num,HP2⟩
   case measure=>simp[intOf];omega
  ·obtain rfl:n=i:=by omega
   have hin:¬(n:Int)<(n:Int):=by omega
   obtain⟨wZ,rfl⟩:∃ x,x=wr:=⟨wr,rfl⟩;obtain⟨sZ,hsZ⟩:∃ x,x=s':=⟨_,rfl⟩;rw[<- hsZ]at HPi;clear hsZ;obtain⟨hH,hN,hO,hv,hB,hBv⟩:=HPA.out.at_ n wZ sZ HPi.out;obtain⟨NZ,hNZ⟩:∃ x,x=N+n:=⟨_,rfl⟩;have HNZ:Hid (NZ=N+n):=hNZ;rw[<- hNZ]at hN hN2;clear hNZ;have hc4:wZ.cell? ⟨hb,6,none⟩=some (.int .i64 NZ):=by rw[hH.cell 4,<- hN];rfl
   have hf:=hH.frozen;have HH:Hid (HAt wZ hb sZ):=hH;have hlt:=hH.lt;obtain⟨M,hM⟩:∃ M:Nat,M=NZ+1:=⟨_,rfl⟩;have hMi:(NZ:Int)+1=(M:Int):=by omega
   have hM3:M<=1000000001:=by omega
   have HM:Hid (M=NZ+1):=hM;obtain⟨xs,hxs⟩:∃ x,x=flat2 (unVals us):=⟨_,rfl⟩;rw[<- hxs]at hv;clear hM hN hH hxs;go_wp2_with fail;have hOne:∀ g,v.ownBlock=some g->g≠hb:=fun g hg=>own_ne hv hg HH.out (by decide)
   have HH1:Hid (HAt (wZ.setCell ⟨hb,6,none⟩ (.int .i64 M)) hb {sZ with n:=(NZ:Int)+1}):=by rw[hMi];exact HH.out.set4 _
   have hb1:But (fun b=>b=hb) wZ (wZ.setCell ⟨hb,6,none⟩ (.int .i64 M)):=(But.refl _ _).setCell (S:=fun b=>b=hb) (.inl rfl) _;have hO1:=hO.but hb1 (fun g hg q=>own_ne hO.own hg HH.out (by decide) q) (fun g hg q=>own_ne hO.marks hg HH.out (by decide) q) (fun e he g hg q=>(hO.each e he).1.ne_hands HH.out g hg q);have hv1:=hb1.own hv hOne;have hbS:But (fun b=>b=hb∨sZ.objs.ownBlock=some b∨sZ.bmarks.ownBlock=some b∨v.ownBlock=some b) wZ (wZ.setCell ⟨hb,6,none⟩ (.int .i64 M)):=hb1.wide (fun b _ q=>.inl q);have HXL:Hid (xs.length=n*2):=hv.1;have HFAR:=HFAR0;have HMI:Hid ((NZ:Int)+1=(M:Int)):=hMi;clear hO hv hb1
   go_loopw[5] (fun t wr=>∃(i:Nat),i<=n/\t=.int .i64 i/\Hid (HAt wr hb {sZ with n:=(NZ:Int)+1})/\Obs wr B sZ.objs sZ.bmarks es/\wr.ownsRow Bv 136 2 v n (obRow M i++xs.drop (i*2))/\But (fun b=>b=hb∨sZ.objs.ownBlock=some b∨sZ.bmarks.ownBlock=some b∨v.ownBlock=some b) wZ wr) (fun t _=>n - (intOf t).toNat)
   case atStart=>exact⟨0,by omega,rfl,HH1,hO1,by simpa [obRow] using hv1,hbS⟩
   case round=>
    clear HH1 hO1 hv1 hbS hc4 hf hMi;obtain⟨i,hi,rfl,HHr,hOr,hvr,hbr⟩:=hrel;have hc4:wr.cell? ⟨hb,6,none⟩=some (.int .i64 M):=by rw[HHr.out.cell 4,<- HMI.out];rfl
    by_cases hlt2:i<n
    ·obtain⟨g,c',hvg⟩:∃ g c',v=.slice (some ⟨g,0,none⟩) n c':=by
      rcases hvr.2 with⟨_,h2⟩|⟨g,cap,cur,h1,_⟩
      ·omega
      ·exact⟨g,cap,h1⟩
     have e1:(Value.slice a n c)=.slice (some ⟨g,0,none⟩) n c':=by rw[<- HV.out,hvg]
     simp only[Value.slice.injEq]at e1;obtain⟨rfl,_,rfl⟩:=e1;obtain⟨⟨x,hx⟩,⟨x',hx'⟩⟩:=obFill_at M xs i n HXL.out hlt2;have hcx:wr.cell? ⟨g,i*2,none⟩=some x:=own_cell2 hvr (by rw[hvg];rfl) hx;have hcx':wr.cell? ⟨g,i*2+1,none⟩=some x':=own_cell2 hvr (by rw[hvg];rfl) hx';have hfx:=own_frozen hvr (g:=g) (by rw[hvg];rfl) (i*2);have hfx':=own_frozen hvr (g:=g) (by rw[hvg];rfl) (i*2+1);have hin:(i:Int)<(n:Int):=by omega
     have hgh:g≠hb:=hOne g (by rw[hvg];rfl);have hbx:But (fun b=>v.ownBlock=some b) wr ((wr.setCell ⟨g,i*2,none⟩ (.int .i64 (-(M:Int)))).setCell ⟨g,i*2+1,none⟩ (.slice none 0 0)):=((But.refl _ _).setCell (S:=fun b=>v.ownBlock=some b) (.inl (by rw[hvg];rfl)) _).setCell (S:=fun b=>v.ownBlock=some b) (p:=⟨g,i*2+1,none⟩) (.inl (by rw[hvg];rfl)) _;have HH6:Hid (HAt ((wr.setCell ⟨g,i*2,none⟩ (.int .i64 (-(M:Int)))).setCell ⟨g,i*2+1,none⟩ (.slice none 0 0)) hb {sZ with n:=(NZ:Int)+1}):=HHr.out.kept (hbx.block hb HHr.out.lt (fun q=>by rw[hvg]at q;simp[Value.ownBlock]at q;exact hgh q));have hO6:=hOr.but hbx (own_own_ne hOr.own hvr (by decide)) (own_own_ne hOr.marks hvr (by decide)) (fun e he g' hg' q=>HFAR.out e he g' q hg')
     have hv6:((wr.setCell ⟨g,i*2,none⟩ (.int .i64 (-(M:Int)))).setCell ⟨g,i*2+1,none⟩ (.slice none 0 0)).ownsRow Bv 136 2 v n (obRow M (i+1)++xs.drop ((i+1)*2)):=by
      rw[<- obFill_step M xs i n HXL.out hlt2];rw[hvg]at hvr ⊢;exact own_set2 hvr
     have hb6:=hbr.then hbx (fun b _ q=>.inr (.inr (.inr q)));clear hvg hbx hvr hOr hbr hx hx';go_wp2_with fail;exact⟨⟨i+1,by omega,by go_num,HH6,hO6,hv6,hb6⟩,by simp[intOf];omega⟩
    ·obtain rfl:i=n:=by omega
     have hks:KSO wZ wr hb B Bv NZ i M sZ es v v sZ.objs sZ.bmarks es es 0:=
      ⟨HHr.out,hOr.own,hOr.marks,hOr.each,by
       have:=hvr;rw[List.drop_of_length_le (by rw[HXL.out];exact Nat.le_refl _),List.append_nil]at this;exact this,fun b q=>.inl q,fun b q=>.inl q,fun b q=>.inl q,⟨[],by simp,fun e he=>by simp at he⟩,fun e he g h1 h2=>absurd h1 (HFAR.out e he g h2),hbr⟩
     obtain⟨iB,hiB,hiB0,hiB1,hiB2⟩:=Tryz.objs_parts;obtain⟨iI,hiI,hiI0,hiI1,hiI2⟩:=Tryz.int_parts;obtain⟨iU,hiU,hiU0,hiU1,hiU2⟩:=Tryz.objZ_parts;clear HHr hOr hvr hbr hc4;go_wp2_with fail
     go_loopw[1,6] (fun t1 t6 wr=>∃(k:Nat) (eo:List Ent) (vo vm:Value),k<=4/\t6=.int .i64 k/\Hid (eo.length=es.length+k)/\KSO wZ wr hb B Bv NZ i M sZ es v t1 vo vm eo eo k) (fun _ t _=>4 - (intOf t).toNat)
     case atStart=>exact⟨0,es,sZ.objs,sZ.bmarks,by omega,rfl,rfl,by rw[<- HV.out];exact hks⟩
     case round=>
      clear hks;obtain⟨k,eo,vo,vm,hk,rfl,HEL,hK⟩:=hrel;by_cases hlt4:k<4
      ·obtain⟨wA,rfl⟩:∃ x,x=wr:=⟨wr,rfl⟩
       obtain⟨la,lc,rfl,_⟩:=own_form2 hK.row;have hk4:(k:Int)<4:=by omega
       have hlen:eo.length<=10000000010:=by rw[HEL.out];omega
       have hsz:=hK.but.size;have hc5:wA.cell? ⟨hb,13,none⟩=some vo:=hK.hands.cell 11;go_wp2_with (at_builtin;refine wpList_append_lies _ rfl _ _ _ rfl B 65 iB (.slice none 0 0) 1 24 Tryz.underlying77 hiB hiB0 hiB1 hiB2 rfl (by omega) vo eo.length (eo.map (·.v)) rfl (hK.own.alloc _) ⟨wA.heap.size,0,none⟩ 1 1 [.slice la (i+k) lc] rfl rfl ?c1 ?c2 (by omega) ?c3 ?c4 ?c5 (wA.heap.size+1) ?c6 ?_)
       case c1=>exact cell_one_at _ _ _ _ rfl
       case c2=>intro u hu;simp at hu;subst hu;rfl
       case c3=>unfold maxLen;omega
       case c4=>omega
       case c5=>simp;omega
       case c6=>simp
       intro g1 cap1 w2 hown2 hgr2 hlie2 hlt2';have hb2:But (fun b=>vo.ownBlock=some b) wA w2:=((But.refl _ wA).alloc _).grown hgr2 (fun k hk=>.inl hk)
       have hK3:=hK.pushOut hM3 (by omega) hb2 hown2 (fun b hq=>by
        have e:g1=b:=by simpa [Value.ownBlock] using hq
        subst e;rcases hlie2 with q|q
        ·exact .inl q
        ·right;omega)
       have hH2:HAt w2 hb {sZ with n:=(NZ:Int)+1,objs:=vo,bmarks:=vm}:=hK.hands.kept (hb2.block hb hK.hands.lt (fun q=>own_ne hK.own q hK.hands (by decide) rfl));have hc52:w2.cell? ⟨hb,13,none⟩=some vo:=hH2.cell 11;have hf52:=hH2.frozen 13;clear hown2 hgr2 hlie2 hb2 hK hc5;go_upto_region 13 with fail;obtain⟨w3,hw3⟩:∃ x,x=w2.setCell ⟨hb,13,none⟩ (.slice (some ⟨g1,0,none⟩) (eo.length+1) cap1):=⟨_,rfl⟩;rw[<- hw3]at hK3;rw[<- hw3];clear hw3 hc52 hf52 hH2;have hc6:w3.cell? ⟨hb,14,none⟩=some vm:=hK3.hands.cell 12;have hc4:w3.cell? ⟨hb,6,none⟩=some (.int .i64 M):=by rw[hK3.hands.cell 4,<- HMI.out];rfl
       have hf6:=hK3.hands.frozen 14;have hsz3:=hK3.but.size;have hmo:∀ u ∈ [Value.int .i64 (-(M:Int))],u.oneCell'=true:=by intro u hu;simp at hu;subst hu;rfl
       have hm1:eo.length+1<=maxLen:=by unfold maxLen;omega
       have hm2:(eo.length+1)*8<=140737488355328:=by omega
       have HM3:Hid (∀ o,B<=(w3.alloc o).drew.heap.size):=fun o=>by simp;omega
       have HMK:Hid (∀ o,(w3.alloc o).drew.ownsRow B 3 1 vm eo.length (eo.map fun e=>.int .i64 (-(e.m:Int)))):=fun o=>hK3.marks.alloc o
       have hbl3:hb<w3.heap.size:=hK3.hands.lt;have hbn3:hb≠w3.heap.size:=Nat.ne_of_lt hbl3;have hneg:IntKind.i64.wrap (-(M:Int))=-(M:Int):=by rw[IntKind.wrap_i64];omega
       go_cut[] from 43 to 79 (fun wx=>∃(vm':Value) (e:Ent),KSO wZ wx hb B Bv NZ i M sZ es v (.slice la (i+k) lc) (.slice (some ⟨g1,0,none⟩) (eo.length+1) cap1) vm' (eo++[e]) (eo++[e]) k)
       case first=>
        go_region_law ((refine step_append_lies _ (by rfl) _ _ _ (by rfl) B 3 iI (.int .i64 0) 1 8 Tryz.underlying75 hiI hiI0 hiI1 hiI2 rfl Nat.one_pos vm eo.length (eo.map fun e=>.int .i64 (-(e.m:Int))) (by rfl) (HMK.out _) ⟨w3.heap.size,0,none⟩ 1 1 [.int .i64 (-(M:Int))] (by rfl) rfl (cell_one_at w3 _ _ _ rfl) hmo Nat.one_pos hm1 hm2 (HM3.out _) (w3.heap.size+1) (by simp) ?_;intro g2 cap2 w4 hown4 hgr4 hlie4 hlt4;have hf64:=(hK3.sees hgr4).2.2;have hc64:=(hK3.sees hgr4).1))
        all_goals
         have hb4:But (fun b=>vm.ownBlock=some b) w3 w4:=((But.refl _ w3).alloc _).drew.grown hgr4 (fun k hk=>.inl hk)
         have hK5:=hK3.pushMark ⟨.slice la (i+k) lc,i+k,M⟩ rfl hb4 hown4 (fun b hq=>by
          have e:g2=b:=by simpa [Value.ownBlock] using hq
          subst e;rcases hlie4 with q|q
          ·exact .inl q
          ·right;omega)
         go_wp2_with fail
         go_meet
         exact⟨_,_,hK5⟩
       case rest=>
        obtain⟨vm5,e5,hK5⟩:=hcut;obtain⟨w5,rfl⟩:∃ x,x=wc:=⟨wc,rfl⟩;clear hK3 HM3 HMK hc6 hc4 hf6 hmo hm1 hm2 hbl3 hbn3;have hc45:w5.cell? ⟨hb,6,none⟩=some (.int .i64 M):=by rw[hK5.hands.cell 4,<- HMI.out];rfl
        have hsz5:=hK5.but.size;obtain⟨XR,hXR⟩:∃ XR,XR=obRow M (i+k):=⟨_,rfl⟩;have hrow5:=hK5.row;rw[<- hXR]at hrow5;have HXR:Hid (XR=obRow M (i+k)):=hXR;clear hXR;go_wp2_with (at_builtin;refine wpList_append_apart rfl _ _ _ rfl Bv 136 iU (.agg #[.int .i64 0,.slice none 0 0]) 2 32 Tryz.underlying65 hiU hiU0 hiU1 hiU2 rfl (by omega) (.slice la (i+k) lc) (i+k) XR rfl (hrow5.alloc _) ⟨w5.heap.size,0,none⟩ 1 1 [.int .i64 (-(M:Int)),.slice none 0 0] rfl rfl ?c1 ?c2 (by omega) ?c3 ?c4 ?c5 ?c6 ?_)
        case c1=>exact cell_two_at _ _ _ _ _ rfl
        case c2=>intro u hu;simp at hu;rcases hu with rfl|rfl<;>rfl
        case c3=>unfold maxLen;omega
        case c4=>omega
        case c5=>omega
        case c6=>simp;omega
        intro g6 cap6 w6 hown6 hgr6 hlie6 hlt6;have hb6:But (fun b=>(Value.slice la (i+k) lc).ownBlock=some b) w5 w6:=((But.refl _ w5).alloc _).grown hgr6 (fun k hk=>.inl hk)
        have hK7:=hK5.more hb6 (by rw[<- HXR.out];exact hown6) (by
         rcases hlie6 with q|⟨q,hall⟩
         ·exact .inl q
         ·have q':g6=w5.heap.size+1:=by simpa using q
          exact .inr ⟨by omega,fun j hj=>by rw[hall j (by omega),Below.heap_alloc _ _ _ hj]⟩)
        clear hown6 hgr6 hlie6 hb6 hK5 hrow5;go_wp2_with fail
        go_roundw
        case rel=>
         have HEL7:Hid ((eo++[e5]).length=es.length+(k+1)):=by show _=_;simp[HEL.out];omega
         exact⟨k+1,_,_,_,by omega,by go_num,HEL7,hK7⟩
        case measure=>simp[intOf];omega
      ·obtain rfl:k=4:=by omega
       go_wp2_with fail
       go_end0
       obtain⟨es',h1,h2⟩:=hK.newAt;have h3:es'.length=4:=by have:=HEL.out;rw[h1,List.length_append]at this;omega
       refine⟨rfl,wZ,sZ,HPi.out,es',vo,vm,?_⟩;rw[<- HV.out,<- HNZ.out];exact⟨hK.hands,⟨by rw[<- h1];exact hK.own,by rw[<- h1];exact hK.marks,by rw[<- h1];exact hK.each⟩,h3,hK.objsAt,hK.marksAt,h2,hK.but⟩
end Go.Proofs.YtjabhnhejbhgjaaGreatDoor
