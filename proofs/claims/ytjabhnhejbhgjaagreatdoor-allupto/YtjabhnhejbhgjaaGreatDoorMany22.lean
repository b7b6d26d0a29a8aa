import Derived.Test.YtjabhnhejbhgjaaGreatDoorMany21
import Derived.Test.YtjabhnhejbhgjaaGreatDoorMany14
import Derived.Test.YtjabhnhejbhgjaaGreatDoorMany20
import Derived.Test.YtjabhnhejbhgjaaGreatDoorMany18
import Derived.Deep.DeepCutAuto
set_option maxRecDepth 100000
set_option maxHeartbeats 8000000
namespace Go.Proofs.YtjabhnhejbhgjaaGreatDoor
open Go.RowKit
def rsn0(K N S:Nat):Rsn:=⟨K,N,S,[],.slice none 0 0,.slice none 0 0,0⟩
theorem sim0(K N S:Nat):Sim (snd0 K N S) (rsn0 K N S) 0:=
 ⟨rfl,rfl,rfl,rfl,fun i hi=>by simp[snd0]at hi,fun i hi=>by simp[snd0]at hi,fun i q hi=>by simp[snd0]at hi,rfl⟩
theorem twoE{W:World}{g:Nat}{v0 v1:Value}{t:TypeId}(h:W.heap[g]?=some (.cells #[v0,v1] t (0,0))):W.cell? ⟨g,0,none⟩=some v0/\W.cell? ⟨g,1,none⟩=some v1/\W.frozen? ⟨g,0,none⟩=false/\W.frozen? ⟨g,1,none⟩=false:=
 ⟨cell_of_row W _ 0 _ _ _ h,cell_of_row W _ 1 _ _ _ h,frozen_of_row W _ 0 _ _ h,frozen_of_row W _ 1 _ _ h⟩
theorem putE(W:World)(g:Nat)(v0 v1 u0 u1:Value)(t:TypeId)(h:W.heap[g]?=some (.cells #[v0,v1] t (0,0))):
 ((W.setCell ⟨g,0,none⟩ u0).setCell ⟨g,1,none⟩ u1).heap[g]?=some (.cells #[u0,u1] t (0,0))/\But (fun b=>b=g) W ((W.setCell ⟨g,0,none⟩ u0).setCell ⟨g,1,none⟩ u1):=by
 have h0:(W.setCell ⟨g,0,none⟩ u0).heap[g]?=some (.cells #[u0,v1] t (0,0)):=heap_setCell_same _ g 0 _ _ u0 h;have h1:((W.setCell ⟨g,0,none⟩ u0).setCell ⟨g,1,none⟩ u1).heap[g]?=some (.cells #[u0,u1] t (0,0)):=heap_setCell_same _ g 1 _ _ u1 h0;exact⟨h1,But.setCell (But.setCell (S:=fun b=>b=g) (But.refl _ W) (p:=⟨g,0,none⟩) (.inl rfl) u0) (p:=⟨g,1,none⟩) (.inl rfl) u1⟩
theorem rnewSender_ok(K N S:Nat)(hcb:cfgB (K:Int) (N:Int) (S:Int)=true)(w:World):
 Calls Tryz.prog 79 #[.agg #[.int .i64 K,.int .i64 N,.int .i64 S]] w fun e w'=>
  ∃ rb,e=.returned (.tuple #[.pointer (some ⟨rb,0,none⟩),.agg #[.int .i64 0,.int .i64 (-1)]])/\RAt w' w.heap.size rb (rsn0 K N S)/\Below w.heap.size w w':=by
 have hic:=fun W=>right_any (K:Int) (N:Int) (S:Int) W
 rw[hcb]at hic;have hC:=CfgAt.start w K N S;go_enter Tryz.func79,Tryz.ntmps79;go_upto_region 1 with fail;have hE0:=heap_alloc_new (w.alloc (.cells #[.int .i64 K,.int .i64 N,.int .i64 S] 30)) (.cells #[.int .i64 0,.int .i64 0] 139);have hC0:=hC.then ((Below.refl _ _).alloc (Nat.le_refl _) (.cells #[.int .i64 0,.int .i64 0] 139));have esz:(w.alloc (.cells #[.int .i64 K,.int .i64 N,.int .i64 S] 30)).heap.size=w.heap.size+1:=by simp
 rw[esz]at hE0;generalize (w.alloc (.cells #[.int .i64 K,.int .i64 N,.int .i64 S] 30)).alloc (.cells #[.int .i64 0,.int .i64 0] 139)=W at *;clear hC esz;generalize hEq:w.heap.size+1=E at *;have HEQ:Hid (E=w.heap.size+1):=hEq.symm;clear hEq;obtain⟨x0,x1,x2⟩:=hC0.cells;go_wp2_with fail;refine(hic _).mono ?_;rintro e w1 ⟨rfl,hb1⟩;have hC1:=hC0.then hb1;have hE1:=(hb1.block _ (lt_of_block hE0)).trans hE0;clear x0 x1 x2 hC0 hE0 hb1 hic;obtain⟨x0,x1,x2⟩:=hC1.cells;go_upto_region 4 with fail;have hn1:¬ w.heap.size=w1.heap.size:=Nat.ne_of_lt hC1.lt;have hn2:¬ E=w1.heap.size:=Nat.ne_of_lt (lt_of_block hE1)
 have HFIN:Hid (∀(W2:World) (rb:Nat),Below w1.heap.size w1 W2->W2.heap[rb]?=some (.cells #[.int .i64 K,.int .i64 N,.int .i64 S,.slice none 0 0,.slice none 0 0,.int .i64 0] 191 (0,0))->w1.heap.size<=rb->
  RAt ((W2.setCell ⟨E,0,none⟩ (.int .i64 0)).setCell ⟨E,1,none⟩ (.int .i64 (-1))) w.heap.size rb (rsn0 K N S)/\Below w.heap.size w ((W2.setCell ⟨E,0,none⟩ (.int .i64 0)).setCell ⟨E,1,none⟩ (.int .i64 (-1)))/\((W2.setCell ⟨E,0,none⟩ (.int .i64 0)).setCell ⟨E,1,none⟩ (.int .i64 (-1))).heap[E]?=some (.cells #[.int .i64 0,.int .i64 (-1)] 139 (0,0))):=fun W2 rb hb hrb hle=>by
  have hE2:=(hb.block _ (lt_of_block hE1)).trans hE1;obtain⟨p1,p2⟩:=putE W2 (E) _ _ (.int .i64 0) (.int .i64 (-1)) _ hE2;have hlow:Below w.heap.size w W2:=hC1.low.trans (hb.mono hC1.low.size);have h1:=lt_of_block hE1;have h2:=hC1.low.size;refine⟨⟨by omega,?_,World.ownsRow_nil ..,World.ownsRow_nil ..,fun i hi=>by simp[rsn0]at hi,fun i hi=>by simp[rsn0]at hi,fun i j hi=>by simp[rsn0]at hi⟩,hlow.trans (p2.toBelow hlow.size (fun k hk q=>by have:=HEQ.out;omega)),p1⟩;exact(p2.block rb (lt_of_block hrb) (by have:=HEQ.out;omega)).trans hrb
 have hEl:=lt_of_block hE1;have HE:Hid (∀ W2,Below w1.heap.size w1 W2->W2.heap[E]?=some (.cells #[.int .i64 0,.int .i64 0] 139 (0,0))):=fun W2 hb=>(hb.block _ hEl).trans hE1
 have HC:Hid (∀ W2,Below w1.heap.size w1 W2->CfgAt w W2 K N S):=fun W2 hb=>hC1.then hb
 obtain⟨y0,y1,f0,f1⟩:=twoE hE1
 go_region_with (first
  | (go_at_call 93;refine(none_err _).mono ?_;rintro e w2 ⟨rfl,hb2⟩;(have hbX:Below w1.heap.size w1 w2:=by first | exact Below.undraw hb2|exact(((Below.refl _ w1).alloc (Nat.le_refl _) _).drew).trans (hb2.mono (by simp))|exact((Below.refl _ w1).alloc (Nat.le_refl _) _).trans (hb2.mono (by simp)));have hk9:=(HC.out w2 hbX).cells;obtain⟨y0',y1',f0',f1'⟩:=twoE (HE.out w2 hbX);have hn3:¬ w.heap.size=w2.heap.size:=Nat.ne_of_lt (HC.out w2 hbX).lt;have hn4:¬ E=w2.heap.size:=Nat.ne_of_lt (lt_of_block (HE.out w2 hbX));obtain⟨ya,yb,fa,fb⟩:=twoE ((Below.heap_alloc w2 (.cells #[.int .i64 K,.int .i64 N,.int .i64 S,.slice none 0 0,.slice none 0 0,.int .i64 0] 191) E (lt_of_block (HE.out w2 hbX))).trans (HE.out w2 hbX))))
 all_goals go_wp2_with fail
 all_goals first
  | (obtain⟨hR,hB,hX⟩:=HFIN.out w2 w1.heap.size hbX ((hb2.block _ (by simp)).trans (heap_alloc_new w1 _)) (Nat.le_refl _);obtain⟨q0,q1,_,_⟩:=twoE hX;exact bodyPost_ret (v:=.tuple #[.pointer (some ⟨w1.heap.size,0,none⟩),.agg #[.int .i64 0,.int .i64 (-1)]]) (by simp[results,Tryz.results79,go_sem,q0,q1]) rfl ⟨_,rfl,hR,hB⟩)
  | (obtain⟨hR,hB,hX⟩:=HFIN.out (w2.alloc (.cells #[.int .i64 K,.int .i64 N,.int .i64 S,.slice none 0 0,.slice none 0 0,.int .i64 0] 191)) w2.heap.size (hbX.alloc hbX.size _) (heap_alloc_new w2 _) hbX.size;obtain⟨q0,q1,_,_⟩:=twoE hX;exact bodyPost_ret (v:=.tuple #[.pointer (some ⟨w2.heap.size,0,none⟩),.agg #[.int .i64 0,.int .i64 (-1)]]) (by simp[results,Tryz.results79,go_sem,q0,q1]) rfl ⟨_,rfl,hR,hB⟩)
theorem rnewSender_no(K N S:Int)(hcb:cfgB K N S=false)(w:World):
 Calls Tryz.prog 79 #[.agg #[.int .i64 K,.int .i64 N,.int .i64 S]] w fun e w'=>
  e=.returned (.tuple #[.pointer none,.agg #[.int .i64 1,.int .i64 (-1)]])/\Below w.heap.size w w':=by
 have hic:=fun W=>right_any K N S W
 rw[hcb]at hic;go_enter Tryz.func79,Tryz.ntmps79;go_upto_region 1 with fail;have hb0:Below w.heap.size w ((w.alloc (.cells #[.int .i64 K,.int .i64 N,.int .i64 S] 30)).alloc (.cells #[.int .i64 0,.int .i64 0] 139)):=((Below.refl _ _).alloc (Nat.le_refl _) _).alloc (by simp) _;have hE0:=heap_alloc_new (w.alloc (.cells #[.int .i64 K,.int .i64 N,.int .i64 S] 30)) (.cells #[.int .i64 0,.int .i64 0] 139);have hC0:((w.alloc (.cells #[.int .i64 K,.int .i64 N,.int .i64 S] 30)).alloc (.cells #[.int .i64 0,.int .i64 0] 139)).heap[w.heap.size]?=some (.cells #[.int .i64 K,.int .i64 N,.int .i64 S] 30 (0,0)):=(Below.heap_alloc _ _ _ (by simp)).trans (heap_alloc_new w _);have esz:(w.alloc (.cells #[.int .i64 K,.int .i64 N,.int .i64 S] 30)).heap.size=w.heap.size+1:=by simp
 rw[esz]at hE0;generalize (w.alloc (.cells #[.int .i64 K,.int .i64 N,.int .i64 S] 30)).alloc (.cells #[.int .i64 0,.int .i64 0] 139)=W at *;clear esz;generalize hEq:w.heap.size+1=E at *;have HEQ:Hid (E=w.heap.size+1):=hEq.symm;clear hEq;have x0:W.cell? ⟨w.heap.size,0,none⟩=some (.int .i64 K):=cell_of_row W _ 0 _ _ _ hC0;have x1:W.cell? ⟨w.heap.size,1,none⟩=some (.int .i64 N):=cell_of_row W _ 1 _ _ _ hC0;have x2:W.cell? ⟨w.heap.size,2,none⟩=some (.int .i64 S):=cell_of_row W _ 2 _ _ _ hC0;go_wp2_with fail;refine(hic _).mono ?_;rintro e w1 ⟨rfl,hb1⟩;have hE1:=(hb1.block _ (lt_of_block hE0)).trans hE0;have hbw1:Below w.heap.size w w1:=hb0.trans (hb1.mono hb0.size);clear x0 x1 x2 hC0 hE0 hb1 hic hb0;go_wp2_with fail;refine(plain_err 1 _).mono ?_;rintro e w2 ⟨rfl,hb2⟩;have hE2:=(hb2.block _ (lt_of_block hE1)).trans hE1;obtain⟨y0,y1,f0,f1⟩:=twoE hE2;obtain⟨p1,p2⟩:=putE w2 E _ _ (.int .i64 1) (.int .i64 (-1)) _ hE2;obtain⟨q0,q1,_,_⟩:=twoE p1;have hbw2:Below w.heap.size w w2:=hbw1.trans (hb2.mono hbw1.size);have hfin:Below w.heap.size w _:=hbw2.trans (p2.toBelow hbw2.size (fun k hk q=>by have:=HEQ.out;omega));go_wp2_with fail;exact bodyPost_ret (v:=.tuple #[.pointer none,.agg #[.int .i64 1,.int .i64 (-1)]]) (by simp[results,Tryz.results79,go_sem,q0,q1]) rfl ⟨rfl,hfin⟩
theorem SAt.lower{w:World}{B B' sb:Nat}{s:Snd}(h:SAt w B sb s)(hB:B'<=B):SAt w B' sb s:=
 ⟨Nat.le_trans hB h.low,h.blk,own_base2 h.own hB,fun i hi=>own_base2 (h.bytes i hi) hB,fun i hi=>⟨Nat.le_trans hB (h.debts i hi).1,(h.debts i hi).2⟩,h.apart⟩
theorem RAt.lower{w:World}{B B' rb:Nat}{r:Rsn}(h:RAt w B rb r)(hB:B'<=B):RAt w B' rb r:=
 ⟨Nat.le_trans hB h.low,h.blk,own_base2 h.own hB,own_base2 h.ownB hB,fun i hi=>own_base2 (h.bytes i hi) hB,fun i hi=>⟨Nat.le_trans hB (h.debts i hi).1,(h.debts i hi).2⟩,h.apart⟩
structure Pr where
 s:Snd
 sb:Nat
 r:Rsn
 rb:Nat
def prVals(ps:List Pr):List (Value×Value):=ps.map fun p=>(.pointer (some ⟨p.sb,0,none⟩),.pointer (some ⟨p.rb,0,none⟩))
def pat(ps:List Pr)(i:Nat):Pr:=ps.getD i ⟨snd0 0 0 0,0,rsn0 0 0 0,0⟩
theorem pat_some{ps:List Pr}{i:Nat}(h:i<ps.length):ps[i]?=some (pat ps i):=by simp[pat,List.getD,h]
theorem pat_set{ps:List Pr}{i:Nat}(hi:i<ps.length)(p:Pr)(j:Nat):pat (ps.set i p) j=if i=j then p else pat ps j:=by
 unfold pat;rw[List.getD_eq_getElem?_getD,List.getD_eq_getElem?_getD,List.getElem?_set];split
 ·rename_i e;subst e;simp
 ·rfl
theorem pat_push(ps:List Pr)(p:Pr)(i:Nat)(h:i<ps.length):pat (ps++[p]) i=pat ps i:=by simp[pat,List.getD,List.getElem?_append_left h]
theorem pat_last(ps:List Pr)(p:Pr):pat (ps++[p]) ps.length=p:=by simp[pat,List.getD]
theorem prVals_set{ps:List Pr}{i:Nat}(hi:i<ps.length){p:Pr}(h1:p.sb=(pat ps i).sb)(h2:p.rb=(pat ps i).rb):prVals (ps.set i p)=prVals ps:=by
 unfold prVals;refine List.ext_getElem? (fun j=>?_);rw[List.getElem?_map,List.getElem?_map,List.getElem?_set];split
 ·rename_i e;subst e
  rw[pat_some hi];simp[h1,h2]
 ·rfl
abbrev Rst:=Value->Value->Value->(Nat->Nat)->World->Prop
def xtra(n:Nat):Prop:=4<=n/\(n%4=0∨n%4=1)
def Stays(X:(Nat->Nat)->World->Prop)(own:Nat->Nat)(w:World):Prop:=∀ own' w',w.heap.size<=w'.heap.size->(∀ b,b<w.heap.size->xtra (own b)->own' b=own b/\w'.heap[b]?=w.heap[b]?)->X own' w'
theorem Stays.now{X:(Nat->Nat)->World->Prop}{own:Nat->Nat}{w:World}(h:Stays X own w):X own w:=h own w (Nat.le_refl _) (fun _ _ _=>⟨rfl,rfl⟩)
theorem Stays.but{X:(Nat->Nat)->World->Prop}{own:Nat->Nat}{w w':World}{S:Nat->Prop}{k:Nat}(h:Stays X own w)(hbu:But S w w')(hS:∀ b,b<w.heap.size->S b->¬ xtra (own b)):Stays X (ownN own w.heap.size k) w':=fun own'' w'' hsz hk=>h own'' w'' (Nat.le_trans hbu.size hsz) (fun b hb hx=>by
 have e:=hk b (Nat.lt_of_lt_of_le hb hbu.size) (by rw[ownN_old hb];exact hx);rw[ownN_old hb]at e;exact⟨e.1,e.2.trans (hbu.block b hb (fun q=>hS b hb q hx))⟩)
structure WJ(A:Nat->Addr)(B0:Nat)(R:Rst)(own:Nat->Nat)(w:World)(hb:Nat)(hs:HS)(es:List Ent)(ps:List Pr):Prop where
 errs:Errs A B0 w
 typ:ErrType w
 typLow:8<hb
 low:B0<=hb
 hands:HAt w hb hs
 outs:Outs w (hb+1) hs.out hs.marks es
 sown:w.ownsRow (hb+1) 89 2 hs.sv ps.length (flat2 (prVals ps))
 snd:∀ i,i<ps.length->SAt w (hb+1) (pat ps i).sb (pat ps i).s/\(pat ps i).s.Ok
 rsn:∀ i,i<ps.length->RAt w (hb+1) (pat ps i).rb (pat ps i).r
 oF:∀ b,b<hb->own b=1
 oH:own hb=0
 oV:∀ b,hs.sv.ownBlock=some b->own b=0
 oO:∀ b,hs.out.ownBlock=some b->own b=0
 oM:∀ b,hs.marks.ownBlock=some b->own b=0
 oE:∀ e ∈ es,∀ b,e.v.ownBlock=some b->own b=0
 oS:∀ i b,i<ps.length->(pat ps i).s.foot (pat ps i).sb b->own b=4*i+2
 oR:∀ i b,i<ps.length->(pat ps i).r.foot (pat ps i).rb b->own b=4*i+3
 rest:Stays (R hs.rv hs.objs hs.bmarks) own w
section
variable {A:Nat->Addr}{B0:Nat}{R:Rst}{own:Nat->Nat}{w w':World}{hb:Nat}{hs hs':HS}{es es':List Ent}{ps:List Pr}
theorem WJ.butLow(h:WJ A B0 R own w hb hs es ps){S:Nat->Prop}(hbu:But S w w')(hS:∀ b,b<w.heap.size->S b->own b≠1):Below hb w w':=
 hbu.toBelow (Nat.le_of_lt h.hands.lt) (fun k hk q=>hS k (Nat.lt_trans hk h.hands.lt) q (h.oF k hk))
theorem WJ.errs'(h:WJ A B0 R own w hb hs es ps){S:Nat->Prop}(hbu:But S w w')(hS:∀ b,b<w.heap.size->S b->own b≠1):Errs A B0 w'/\ErrType w':=
 ⟨h.errs.below ((h.butLow hbu hS).mono h.low),h.typ.below (h.butLow hbu hS) h.typLow⟩
theorem WJ.ltS(h:WJ A B0 R own w hb hs es ps){i b:Nat}(hi:i<ps.length)(hf:(pat ps i).s.foot (pat ps i).sb b):b<w.heap.size:=((h.snd i hi).1.foot_lt hf).2
theorem WJ.ltR(h:WJ A B0 R own w hb hs es ps){i b:Nat}(hi:i<ps.length)(hf:(pat ps i).r.foot (pat ps i).rb b):b<w.heap.size:=((h.rsn i hi).foot_lt hf).2
theorem WJ.ltE(h:WJ A B0 R own w hb hs es ps){e:Ent}(he:e ∈ es){b:Nat}(hg:e.v.ownBlock=some b):b<w.heap.size:=((h.outs.each e he).1.lt hg).1
theorem WJ.stepS(h:WJ A B0 R own w hb hs es ps){i k:Nat}(hi:i<ps.length){s':Snd}(hbu:But ((pat ps i).s.foot (pat ps i).sb) w w')(hS:SAt w' (hb+1) (pat ps i).sb s')(ok:s'.Ok)(hf:∀ b,s'.foot (pat ps i).sb b->ownN own w.heap.size k b=4*i+2):
 WJ A B0 R (ownN own w.heap.size k) w' hb hs es (ps.set i {pat ps i with s:=s'}):=by
 have hne:∀ b,b<w.heap.size->(pat ps i).s.foot (pat ps i).sb b->own b=4*i+2:=fun b _ q=>h.oS i b hi q
 have hn:∀ b,own b≠4*i+2->¬(pat ps i).s.foot (pat ps i).sb b:=fun b hb' q=>hb' (h.oS i b hi q)
 obtain⟨h1,h2⟩:=h.errs' hbu (fun b hb' q=>by rw[hne b hb' q];omega);have hl:(ps.set i {pat ps i with s:=s'}).length=ps.length:=by simp
 have hhl:=h.hands.lt
 refine⟨h1,h2,h.typLow,h.low,h.hands.kept (hbu.block hb hhl (hn hb (by rw[h.oH];omega))),
  h.outs.but hbu (fun g hg=>hn g (by rw[h.oO g hg];omega)) (fun g hg=>hn g (by rw[h.oM g hg];omega)) (fun e he g hg=>hn g (by rw[h.oE e he g hg];omega)),?_,fun j hj=>?_,fun j hj=>?_,
  fun b hb'=>by rw[ownN_old (by omega)];exact h.oF b hb',by rw[ownN_old hhl];exact h.oH,fun b hg=>by rw[ownN_old (h.sown.lt b hg).2];exact h.oV b hg,fun b hg=>by rw[ownN_old (h.outs.own.lt b hg).2];exact h.oO b hg,fun b hg=>by rw[ownN_old (h.outs.marks.lt b hg).2];exact h.oM b hg,fun e he b hg=>by rw[ownN_old (h.ltE he hg)];exact h.oE e he b hg,fun j b hj q=>?_,fun j b hj q=>?_,h.rest.but hbu (fun b hb' q x=>by rw[hne b hb' q]at x;unfold xtra at x;omega)⟩
 ·rw[hl,prVals_set (p:={pat ps i with s:=s'}) hi rfl rfl]
  exact hbu.own h.sown (fun g hg=>hn g (by rw[h.oV g hg];omega))
 ·rw[hl]at hj
  rw[pat_set hi];split
  ·rename_i e;subst e;exact⟨hS,ok⟩
  ·rename_i e
   exact⟨(h.snd j hj).1.kept (fun b q=>hbu.block b (h.ltS hj q) (hn b (by rw[h.oS j b hj q];omega))),(h.snd j hj).2⟩
 ·rw[hl]at hj
  have hk:=(h.rsn j hj).kept (fun b q=>hbu.block b (h.ltR hj q) (hn b (by rw[h.oR j b hj q];omega)));rw[pat_set hi];split
  ·rename_i e;subst e;exact hk
  ·exact hk
 ·rw[hl]at hj
  rw[pat_set hi]at q;split at q
  ·rename_i e;subst e;exact hf b q
  ·rw[ownN_old (h.ltS hj q)];exact h.oS j b hj q
 ·rw[hl]at hj
  have q':(pat ps j).r.foot (pat ps j).rb b:=by
   rw[pat_set hi]at q;split at q
   ·rename_i e;subst e;exact q
   ·exact q
  rw[ownN_old (h.ltR hj q')];exact h.oR j b hj q'
theorem WJ.stepR(h:WJ A B0 R own w hb hs es ps){i k:Nat}(hi:i<ps.length){r':Rsn}(hbu:But ((pat ps i).r.foot (pat ps i).rb) w w')(hS:RAt w' (hb+1) (pat ps i).rb r')(hf:∀ b,r'.foot (pat ps i).rb b->ownN own w.heap.size k b=4*i+3):
 WJ A B0 R (ownN own w.heap.size k) w' hb hs es (ps.set i {pat ps i with r:=r'}):=by
 have hne:∀ b,b<w.heap.size->(pat ps i).r.foot (pat ps i).rb b->own b=4*i+3:=fun b _ q=>h.oR i b hi q
 have hn:∀ b,own b≠4*i+3->¬(pat ps i).r.foot (pat ps i).rb b:=fun b hb' q=>hb' (h.oR i b hi q)
 obtain⟨h1,h2⟩:=h.errs' hbu (fun b hb' q=>by rw[hne b hb' q];omega);have hl:(ps.set i {pat ps i with r:=r'}).length=ps.length:=by simp
 have hhl:=h.hands.lt
 refine⟨h1,h2,h.typLow,h.low,h.hands.kept (hbu.block hb hhl (hn hb (by rw[h.oH];omega))),
  h.outs.but hbu (fun g hg=>hn g (by rw[h.oO g hg];omega)) (fun g hg=>hn g (by rw[h.oM g hg];omega)) (fun e he g hg=>hn g (by rw[h.oE e he g hg];omega)),?_,fun j hj=>?_,fun j hj=>?_,
  fun b hb'=>by rw[ownN_old (by omega)];exact h.oF b hb',by rw[ownN_old hhl];exact h.oH,fun b hg=>by rw[ownN_old (h.sown.lt b hg).2];exact h.oV b hg,fun b hg=>by rw[ownN_old (h.outs.own.lt b hg).2];exact h.oO b hg,fun b hg=>by rw[ownN_old (h.outs.marks.lt b hg).2];exact h.oM b hg,fun e he b hg=>by rw[ownN_old (h.ltE he hg)];exact h.oE e he b hg,fun j b hj q=>?_,fun j b hj q=>?_,h.rest.but hbu (fun b hb' q x=>by rw[hne b hb' q]at x;unfold xtra at x;omega)⟩
 ·rw[hl,prVals_set (p:={pat ps i with r:=r'}) hi rfl rfl]
  exact hbu.own h.sown (fun g hg=>hn g (by rw[h.oV g hg];omega))
 ·rw[hl]at hj
  have hk:=(h.snd j hj).1.kept (fun b q=>hbu.block b (h.ltS hj q) (hn b (by rw[h.oS j b hj q];omega)));have hk2:=(h.snd j hj).2;rw[pat_set hi];split
  ·rename_i e;subst e;exact⟨hk,hk2⟩
  ·exact⟨hk,hk2⟩
 ·rw[hl]at hj
  rw[pat_set hi];split
  ·rename_i e;subst e;exact hS
  ·rename_i e
   exact(h.rsn j hj).kept (fun b q=>hbu.block b (h.ltR hj q) (hn b (by rw[h.oR j b hj q];omega)))
 ·rw[hl]at hj
  have q':(pat ps j).s.foot (pat ps j).sb b:=by
   rw[pat_set hi]at q;split at q
   ·rename_i e;subst e;exact q
   ·exact q
  rw[ownN_old (h.ltS hj q')];exact h.oS j b hj q'
 ·rw[hl]at hj
  rw[pat_set hi]at q;split at q
  ·rename_i e;subst e;exact hf b q
  ·rw[ownN_old (h.ltR hj q)];exact h.oR j b hj q
theorem WJ.stepH(h:WJ A B0 R own w hb hs es ps){S:Nat->Prop}{k:Nat}(hbu:But S w w')(hS:∀ b,b<w.heap.size->S b->own b=0)(hH:HAt w' hb hs')(hO:Outs w' (hb+1) hs'.out hs'.marks es')(hV:hs'.sv=hs.sv)(hX:hs'.rv=hs.rv/\hs'.objs=hs.objs/\hs'.bmarks=hs.bmarks)(hVn:∀ b,hs.sv.ownBlock=some b->¬ S b)
 (hoO:∀ b,hs'.out.ownBlock=some b->ownN own w.heap.size k b=0) (hoM:∀ b,hs'.marks.ownBlock=some b->ownN own w.heap.size k b=0) (hoE:∀ e ∈ es',∀ b,e.v.ownBlock=some b->ownN own w.heap.size k b=0):
 WJ A B0 R (ownN own w.heap.size k) w' hb hs' es' ps:=by
 have hn:∀ b,b<w.heap.size->own b≠0->¬ S b:=fun b hb' q p=>q (hS b hb' p)
 obtain⟨h1,h2⟩:=h.errs' hbu (fun b hb' q=>by rw[hS b hb' q];omega);have hhl:=h.hands.lt
 refine⟨h1,h2,h.typLow,h.low,hH,hO,?_,fun j hj=>⟨(h.snd j hj).1.kept (fun b q=>hbu.block b (h.ltS hj q) (hn b (h.ltS hj q) (by rw[h.oS j b hj q];omega))),(h.snd j hj).2⟩,
  fun j hj=>(h.rsn j hj).kept (fun b q=>hbu.block b (h.ltR hj q) (hn b (h.ltR hj q) (by rw[h.oR j b hj q];omega))),
  fun b hb'=>by rw[ownN_old (by omega)];exact h.oF b hb',by rw[ownN_old hhl];exact h.oH,fun b hg=>?_,hoO,hoM,hoE,fun j b hj q=>by rw[ownN_old (h.ltS hj q)];exact h.oS j b hj q,fun j b hj q=>by rw[ownN_old (h.ltR hj q)];exact h.oR j b hj q,by rw[hX.1,hX.2.1,hX.2.2];exact h.rest.but hbu (fun b hb' q x=>by rw[hS b hb' q]at x;unfold xtra at x;omega)⟩
 ·rw[hV]
  exact hbu.own h.sown hVn
 ·rw[hV]at hg
  rw[ownN_old (h.sown.lt b hg).2];exact h.oV b hg
theorem WJ.above(h:WJ A B0 R own w hb hs es ps)(k:Nat)(hbe:Below w.heap.size w w'):WJ A B0 R (ownN own w.heap.size k) w' hb hs es ps:=by
 have hbu:But (fun _=>False) w w':=Below.but hbe _ (fun i hi q=>absurd hi q);have hhl:=h.hands.lt;exact h.stepH hbu (fun b _ q=>q.elim) (h.hands.kept (hbe.block hb hhl)) (h.outs.but hbu (fun _ _ q=>q) (fun _ _ q=>q) (fun _ _ _ _ q=>q)) rfl ⟨rfl,rfl,rfl⟩ (fun _ _ q=>q) (fun b hg=>by rw[ownN_old (h.outs.own.lt b hg).2];exact h.oO b hg) (fun b hg=>by rw[ownN_old (h.outs.marks.lt b hg).2];exact h.oM b hg) (fun e he b hg=>by rw[ownN_old (h.ltE he hg)];exact h.oE e he b hg)
theorem WJ.stepK(h:WJ A B0 R own w hb hs es ps){N:Nat}{v vo vm:Value}(hK:KeptAs w w' hb (hb+1) N hs es es' v vo vm)(hv:∀ b,v.ownBlock=some b->own b=0)(hvs:∀ b,v.ownBlock=some b->hs.sv.ownBlock≠some b):
 WJ A B0 R (ownN own w.heap.size 0) w' hb {hs with n:=(N:Int)+1,out:=vo,marks:=vm} (es++es') ps:=by
 have h0:∀ b,own b=0∨w.heap.size<=b->ownN own w.heap.size 0 b=0:=fun b q=>by
  by_cases e:b<w.heap.size
  ·rw[ownN_old e];rcases q with q|q;exact q;omega
  ·exact ownN_new (by omega)
 refine h.stepH hK.but (fun b _ q=>?_) hK.hands hK.outs rfl ⟨rfl,rfl,rfl⟩ (fun b hg q=>?_) (fun b hg=>h0 b ?_) (fun b hg=>h0 b ?_) (fun e he b hg=>h0 b ?_)
 ·rcases q with rfl|q|q|q
  ·exact h.oH
  ·exact h.oO b q
  ·exact h.oM b q
  ·exact hv b q
 ·rcases q with q|q|q|q
  ·exact own_ne h.sown hg h.hands (by decide) q
  ·exact own2_ne h.sown h.outs.own (by decide) b hg q
  ·exact own2_ne h.sown h.outs.marks (by decide) b hg q
  ·exact hvs b q hg
 ·rcases hK.outAt b hg with q|q
  ·exact .inl (h.oO b q)
  ·exact .inr q
 ·rcases hK.marksAt b hg with q|q
  ·exact .inl (h.oM b q)
  ·exact .inr q
 ·rcases List.mem_append.1 he with he|he
  ·exact .inl (h.oE e he b hg)
  ·rcases hK.newAt e he b hg with q|q
   ·exact .inl (hv b q)
   ·exact .inr q
theorem Fr.stepK(h:WJ A B0 R own w hb hs es ps){N:Nat}{v vo vm:Value}(hK:KeptAs w w' hb (hb+1) N hs es es' v vo vm)(hv:∀ b,v.ownBlock=some b->own b=0):Fr own w (ownN own w.heap.size 0) w':=
 Fr.but hK.but (fun b _ q=>by
  rcases q with rfl|q|q|q
  ·rw[h.oH];omega
  ·rw[h.oO b q];omega
  ·rw[h.oM b q];omega
  ·rw[hv b q];omega)
theorem WJ.push(h:WJ A B0 R own w hb hs es ps){p:Pr}{sv:Value}{S:Nat->Prop}(hbu:But S w w')(hS:∀ b,b<w.heap.size->S b->b=hb∨hs.sv.ownBlock=some b)(hH:HAt w' hb {hs with sv:=sv})
 (hV:w'.ownsRow (hb+1) 89 2 sv (ps.length+1) (flat2 (prVals ps)++[.pointer (some ⟨p.sb,0,none⟩),.pointer (some ⟨p.rb,0,none⟩)])) (hVn:∀ b,sv.ownBlock=some b->hs.sv.ownBlock=some b∨w.heap.size<=b)
 (hs1:SAt w (hb+1) p.sb p.s) (ok:p.s.Ok) (hr1:RAt w (hb+1) p.rb p.r) (hos:∀ b,p.s.foot p.sb b->own b=4*ps.length+2) (hor:∀ b,p.r.foot p.rb b->own b=4*ps.length+3):
 WJ A B0 R (ownN own w.heap.size 0) w' hb {hs with sv:=sv} es (ps++[p]):=by
 have h00:∀ b,b<w.heap.size->S b->own b=0:=fun b hb' q=>by
  rcases hS b hb' q with rfl|q
  ·exact h.oH
  ·exact h.oV b q
 have hn:∀ b,b<w.heap.size->own b≠0->¬ S b:=fun b hb' q p=>q (h00 b hb' p)
 obtain⟨h1,h2⟩:=h.errs' hbu (fun b hb' q=>by rw[h00 b hb' q];omega);have hhl:=h.hands.lt;have hl:(ps++[p]).length=ps.length+1:=by simp
 have hnT:∀ {B n sz:Nat} {e:TypeId} {v:Value} {xs:List Value},w.ownsRow B e sz v n xs->e≠81->e≠89->∀ g,v.ownBlock=some g->¬ S g:=fun hown e1 e2 g hg q=>by
  rcases hS g (hown.lt g hg).2 q with q|q
  ·exact own_ne hown hg h.hands e1 q
  ·exact own2_ne hown h.sown e2 g hg q
 have hnE:∀ e ∈ es,∀ g,e.v.ownBlock=some g->¬ S g:=fun e he g hg q=>by
  rcases hS g (h.ltE he hg) q with q|q
  ·exact(h.outs.each e he).1.ne_hands h.hands g hg q
  ·exact(h.outs.each e he).1.ne_own h.sown (by decide) g hg q
 refine⟨h1,h2,h.typLow,h.low,hH,h.outs.but hbu (hnT h.outs.own (by decide) (by decide)) (hnT h.outs.marks (by decide) (by decide)) hnE,?_,fun j hj=>?_,fun j hj=>?_,
  fun b hb'=>by rw[ownN_old (by omega)];exact h.oF b hb',by rw[ownN_old hhl];exact h.oH,fun b hg=>?_,fun b hg=>by rw[ownN_old (h.outs.own.lt b hg).2];exact h.oO b hg,fun b hg=>by rw[ownN_old (h.outs.marks.lt b hg).2];exact h.oM b hg,fun e he b hg=>by rw[ownN_old (h.ltE he hg)];exact h.oE e he b hg,fun j b hj q=>?_,fun j b hj q=>?_,h.rest.but hbu (fun b hb' q x=>by rw[h00 b hb' q]at x;unfold xtra at x;omega)⟩
 ·rw[hl]
  have:prVals (ps++[p])=prVals ps++[(.pointer (some ⟨p.sb,0,none⟩),.pointer (some ⟨p.rb,0,none⟩))]:=by simp[prVals]
  rw[this,flat2_append];exact hV
 ·by_cases e:j<ps.length
  ·rw[pat_push ps p j e]
   exact⟨(h.snd j e).1.kept (fun b q=>hbu.block b (h.ltS e q) (hn b (h.ltS e q) (by rw[h.oS j b e q];omega))),(h.snd j e).2⟩
  ·obtain rfl:j=ps.length:=by omega
   rw[pat_last];exact⟨hs1.kept (fun b q=>hbu.block b (hs1.foot_lt q).2 (hn b (hs1.foot_lt q).2 (by rw[hos b q];omega))),ok⟩
 ·by_cases e:j<ps.length
  ·rw[pat_push ps p j e]
   exact(h.rsn j e).kept (fun b q=>hbu.block b (h.ltR e q) (hn b (h.ltR e q) (by rw[h.oR j b e q];omega)))
  ·obtain rfl:j=ps.length:=by omega
   rw[pat_last];exact hr1.kept (fun b q=>hbu.block b (hr1.foot_lt q).2 (hn b (hr1.foot_lt q).2 (by rw[hor b q];omega)))
 ·rcases hVn b hg with q|q
  ·rw[ownN_old (h.sown.lt b q).2];exact h.oV b q
  ·exact ownN_new q
 ·by_cases e:j<ps.length
  ·rw[pat_push ps p j e]at q
   rw[ownN_old (h.ltS e q)];exact h.oS j b e q
  ·obtain rfl:j=ps.length:=by omega
   rw[pat_last]at q;rw[ownN_old (hs1.foot_lt q).2];exact hos b q
 ·by_cases e:j<ps.length
  ·rw[pat_push ps p j e]at q
   rw[ownN_old (h.ltR e q)];exact h.oR j b e q
  ·obtain rfl:j=ps.length:=by omega
   rw[pat_last]at q;rw[ownN_old (hr1.foot_lt q).2];exact hor b q
end
structure HS.Nil(hs:HS):Prop where
 in0:hs.in_=.slice none 0 0
 rows0:hs.rows=.slice none 0 0
 ints0:hs.ints=.slice none 0 0
 want0:hs.iwant=.slice none 0 0
 outer0:hs.outer=.slice none 0 0
 omarks0:hs.omarks=.slice none 0 0
 lacks0:hs.lacks=.slice none 0 0
structure WI(A:Nat->Addr)(B0:Nat)(R:Rst)(own:Nat->Nat)(w:World)(hb t:Nat)(hs:HS)(es:List Ent)(ps:List Pr):Prop extends WJ A B0 R own w hb hs es ps where
 sim:∀ i,i<ps.length->Sim (pat ps i).s (pat ps i).r t
 n:∃ N:Nat,hs.n=(N:Int)/\N<=t
 fewE:es.length<=4*t
 fewP:ps.length<=t
 nil:hs.Nil
theorem WI.more{A:Nat->Addr}{B0:Nat}{R:Rst}{own:Nat->Nat}{w:World}{hb t t':Nat}{hs:HS}{es:List Ent}{ps:List Pr}(h:WI A B0 R own w hb t hs es ps)(ht:t<=t'):WI A B0 R own w hb t' hs es ps:=by
 obtain⟨N,h1,h2⟩:=h.n;have:=h.fewE;have:=h.fewP;exact⟨h.toWJ,fun i hi=>(h.sim i hi).more ht,⟨N,h1,by omega⟩,by omega,by omega,h.nil⟩
theorem WI.above{A:Nat->Addr}{B0:Nat}{R:Rst}{own:Nat->Nat}{w w':World}{hb t:Nat}{hs:HS}{es:List Ent}{ps:List Pr}(h:WI A B0 R own w hb t hs es ps)(k:Nat)(hbe:Below w.heap.size w w'):WI A B0 R (ownN own w.heap.size k) w' hb t hs es ps:=
 ⟨h.toWJ.above k hbe,h.sim,h.n,h.fewE,h.fewP,h.nil⟩
theorem pat_set2{ps:List Pr}{i:Nat}(hi:i<ps.length)(s':Snd)(r':Rsn)(j:Nat):
 pat ((ps.set i {pat ps i with s:=s'}).set i {pat (ps.set i {pat ps i with s:=s'}) i with r:=r'}) j=if i=j then {pat ps i with s:=s',r:=r'} else pat ps j:=by
 rw[pat_set (by simpa using hi),pat_set hi,if_pos rfl];split
 ·rfl
 ·rename_i e;rw[pat_set hi,if_neg e]
theorem WI.pair{A:Nat->Addr}{B0:Nat}{R:Rst}{own own':Nat->Nat}{w w':World}{hb t i:Nat}{hs hs':HS}{es es':List Ent}{ps:List Pr}(h:WI A B0 R own w hb t hs es ps)(hi:i<ps.length){s':Snd}{r':Rsn}
 (hJ:WJ A B0 R own' w' hb hs' es' ((ps.set i {pat ps i with s:=s'}).set i {pat (ps.set i {pat ps i with s:=s'}) i with r:=r'})) (hsim:Sim s' r' (t+1)) (hn:∃ N:Nat,hs'.n=(N:Int)/\N<=t+1) (hes:es'.length<=4*(t+1)) (hnil:hs'.Nil):
 WI A B0 R own' w' hb (t+1) hs' es' ((ps.set i {pat ps i with s:=s'}).set i {pat (ps.set i {pat ps i with s:=s'}) i with r:=r'}):=by
 refine⟨hJ,fun j hj=>?_,hn,hes,by have:=h.fewP;simp;omega,hnil⟩;rw[pat_set2 hi];split
 ·exact hsim
 ·exact(h.sim j (by simpa using hj)).more (by omega)
def WStep(A:Nat->Addr)(B0:Nat)(R:Rst)(own:Nat->Nat)(w:World)(hb t n:Nat)(w':World):Prop:=∃ own' hs' es' ps',WI A B0 R own' w' hb t hs' es' ps'/\ps'.length=n/\Fr own w own' w'
structure OpB(own:Nat->Nat)(w:World)(a:Option Addr)(b o n c:Nat)(l:List Gf.F):Prop where
 len:l.length=n
 cap:n<=c
 cap2:c<=9223372036854775807
 few:n<=140737488351232
 adr:0<n->a=some ⟨b,o,none⟩
 bs:Bs w b o l
 free:0<n->b<w.heap.size/\own b=1
theorem OpB.fr{own own':Nat->Nat}{w w':World}{a:Option Addr}{b o n c:Nat}{l:List Gf.F}(h:OpB own w a b o n c l)(hf:Fr own w own' w'):OpB own' w' a b o n c l:=by
 refine⟨h.len,h.cap,h.cap2,h.few,h.adr,fun i hi=>?_,fun h0=>?_⟩
 ·have h0:0<n:=by have:=h.len;omega
  obtain⟨h1,h2⟩:=h.free h0;have hk:=(hf.keep b h1 h2).2;have hc:w'.cell? ⟨b,o+i,none⟩=w.cell? ⟨b,o+i,none⟩:=World.cell?_of_block (w:=w) (a:=⟨b,o+i,none⟩) hk;rw[hc];exact h.bs i hi
 ·obtain⟨h1,h2⟩:=h.free h0
  exact⟨Nat.lt_of_lt_of_le h1 hf.size,(hf.keep b h1 h2).1⟩
theorem OpB.nil(own:Nat->Nat)(w:World):OpB own w none 0 0 0 0 []:=⟨rfl,Nat.le_refl _,by omega,by omega,fun h=>by omega,fun i hi=>by simp at hi,fun h=>by omega⟩
def SamePs(ps ps':List Pr):Prop:=ps'.length=ps.length/\∀ j,(pat ps' j).sb=(pat ps j).sb/\(pat ps' j).rb=(pat ps j).rb
theorem SamePs.refl(ps:List Pr):SamePs ps ps:=⟨rfl,fun _=>⟨rfl,rfl⟩⟩
theorem SamePs.trans{a b c:List Pr}(h:SamePs a b)(k:SamePs b c):SamePs a c:=⟨k.1.trans h.1,fun j=>⟨(k.2 j).1.trans (h.2 j).1,(k.2 j).2.trans (h.2 j).2⟩⟩
theorem SamePs.two{ps:List Pr}{i:Nat}(hi:i<ps.length)(s':Snd)(r':Rsn):SamePs ps ((ps.set i {pat ps i with s:=s'}).set i {pat (ps.set i {pat ps i with s:=s'}) i with r:=r'}):=
 ⟨by simp,fun j=>by
  rw[pat_set2 hi];split
  ·rename_i e;subst e;exact⟨rfl,rfl⟩
  ·exact⟨rfl,rfl⟩⟩
def Rsn.enq(r:Rsn)(o:Ob)(va vb:Value):Rsn:={r with os:=r.os++[o],va:=va,vb:=vb}
theorem push_key{os:List Ob}(o:Ob):∀ i,i<os.length+1->(i<os.length/\oat (os++[o]) i=oat os i)∨(i=os.length/\oat (os++[o]) i=o):=fun i hi=>by
 by_cases e:i<os.length
 ·exact .inl ⟨e,oat_push _ _ _ e⟩
 ·have:i=os.length:=by omega
  subst this;exact .inr ⟨rfl,oat_last _ _⟩
theorem RAt.enq{w w':World}{B rb:Nat}{r:Rsn}(h:RAt w B rb r){o:Ob}{va vb:Value}(hb:But (fun b=>b=rb∨r.va.ownBlock=some b∨r.vb.ownBlock=some b) w w')(hB:B<=w.heap.size)
 (hk:w'.heap[rb]?=some (.cells #[.int .i64 (r.K:Int),.int .i64 (r.N:Int),.int .i64 (r.S:Int),va,vb,.int .i64 (r.sent:Int)] 191 (0,0)))
 (ho:w'.ownsRow B 33 1 va (r.os.length+1) (r.os.map Ob.bv++[o.bv]))
 (hp:w'.ownsRow B 193 1 vb (r.os.length+1) (r.os.map Ob.dv++[o.dv]))
 (hy:w'.ownsRow B 5 1 o.bv o.l.length (encL o.l)) (hd:w'.heap[o.dg]?=some (.cells (flat2 (debtVals o.ds)).toArray 196 (0,0))) (hdg:w.heap.size<=o.dg):RAt w' B rb (r.enq o va vb):=by
 have hlen:(r.enq o va vb).os.length=r.os.length+1:=by simp[Rsn.enq]
 have key:=push_key (os:=r.os) o;refine⟨h.low,hk,?_,?_,fun i hi=>?_,fun i hi=>?_,fun i j hi hj e=>?_⟩
 ·rw[hlen]
  have:(r.enq o va vb).os.map Ob.bv=r.os.map Ob.bv++[o.bv]:=by simp[Rsn.enq]
  rw[this];exact ho
 ·rw[hlen]
  have:(r.enq o va vb).os.map Ob.dv=r.os.map Ob.dv++[o.dv]:=by simp[Rsn.enq]
  rw[this];exact hp
 ·rw[hlen]at hi
  show w'.ownsRow B _ 1 (oat (r.os++[o]) i).bv (oat (r.os++[o]) i).l.length (encL (oat (r.os++[o]) i).l);rcases key i hi with⟨h1,h2⟩|⟨_,h2⟩<;>rw[h2]
  ·refine hb.own (h.bytes i h1) (fun g hg q=>?_)
   rcases q with q|q|q
   ·exact own_ne (h.bytes i h1) hg h.blk (by decide) q
   ·exact own2_ne (h.bytes i h1) h.own (by decide) g hg q
   ·exact own2_ne (h.bytes i h1) h.ownB (by decide) g hg q
  ·exact hy
 ·rw[hlen]at hi
  show B<=(oat (r.os++[o]) i).dg/\w'.heap[(oat (r.os++[o]) i).dg]?=some (.cells (flat2 (debtVals (oat (r.os++[o]) i).ds)).toArray _ (0,0));rcases key i hi with⟨h1,h2⟩|⟨_,h2⟩<;>rw[h2]
  ·refine⟨(h.debts i h1).1,(hb.block _ (lt_of_block (h.debts i h1).2) (fun q=>?_)).trans (h.debts i h1).2⟩
   rcases q with q|q|q
   ·have hb2:=h.blk
    rw[<- q,(h.debts i h1).2]at hb2;simp only[Option.some.injEq,Obj.cells.injEq]at hb2;exact absurd hb2.2.1 (by decide)
   ·exact own_ne h.own q (h.debts i h1).2 (by decide) rfl
   ·exact own_ne h.ownB q (h.debts i h1).2 (by decide) rfl
  ·exact⟨by omega,hd⟩
 ·rw[hlen]at hi hj
  have e':(oat (r.os++[o]) i).dg=(oat (r.os++[o]) j).dg:=e;rcases key i hi with⟨h1,h2⟩|⟨h1,h2⟩<;>rcases key j hj with⟨h3,h4⟩|⟨h3,h4⟩<;>rw[h2,h4]at e'
  ·exact h.apart i j h1 h3 e'
  ·have:=lt_of_block (h.debts i h1).2
   omega
  ·have:=lt_of_block (h.debts j h3).2
   omega
  ·omega
theorem Sim.enq{s:Snd}{r:Rsn}{c:Nat}(h:Sim s r c)(ok:s.Ok){o o':Ob}{vo va vb:Value}(hl:o'.l=o.l)(hd:o'.ds=debts0 (partsN (symN s.S o.l.length) s.K))(hd2:o.ds=debts0 (partsN (symN s.S o.l.length) s.K)):Sim (s.enq o vo) (r.enq o' va vb) c:=by
 have hlen:(s.enq o vo).os.length=s.os.length+1:=by simp[Snd.enq]
 have hlen2:(r.enq o' va vb).os.length=r.os.length+1:=by simp[Rsn.enq]
 have kT:∀ i,i<s.os.length->(s.enq o vo).T i=s.T i:=fun i hi=>by unfold Snd.T;rw[show oat (s.enq o vo).os i=oat s.os i from oat_push _ _ _ hi];rfl
 have kTl:(s.enq o vo).T s.os.length=symN s.S o.l.length:=by unfold Snd.T;rw[show oat (s.enq o vo).os s.os.length=o from oat_last _ _];rfl
 have kQ:∀ i,i<s.os.length->(s.enq o vo).Q i=s.Q i:=fun i hi=>by unfold Snd.Q;rw[kT i hi];rfl
 have kR:∀ i q,i<s.os.length->(s.enq o vo).R i q=s.R i q:=fun i q hi=>by unfold Snd.R;rw[kT i hi];rfl
 have kr:∀ i,i<s.os.length->oat (r.enq o' va vb).os i=oat r.os i:=fun i hi=>oat_push _ _ _ (by rw[h.len];exact hi)
 have krl:oat (r.enq o' va vb).os s.os.length=o':=by rw[<- h.len];exact oat_last _ _
 have ks:∀ i,i<s.os.length->oat (s.enq o vo).os i=oat s.os i:=fun i hi=>oat_push _ _ _ hi
 have ksl:oat (s.enq o vo).os s.os.length=o:=oat_last _ _;refine⟨h.K,h.N,h.S,by rw[hlen,hlen2,h.len],fun i hi=>?_,fun i hi=>?_,fun i q hi hq=>?_,?_⟩
 ·rw[hlen]at hi
  by_cases e:i<s.os.length
  ·rw[kr i e,ks i e];exact h.l i e
  ·obtain rfl:i=s.os.length:=by omega
   rw[krl,ksl,hl]
 ·rw[hlen]at hi
  by_cases e:i<s.os.length
  ·rw[kr i e,kQ i e];exact h.dl i e
  ·obtain rfl:i=s.os.length:=by omega
   rw[krl,hd];unfold Snd.Q;rw[kTl];simp[debts0];rfl
 ·rw[hlen]at hi
  by_cases e:i<s.os.length
  ·rw[kQ i e]at hq
   rw[kr i e,ks i e,kR i q e];exact h.d i q e hq
  ·obtain rfl:i=s.os.length:=by omega
   rw[krl,ksl,hd,hd2,debts0_at];exact⟨rfl,Nat.zero_mod _,Nat.zero_le _⟩
 ·show r.sent=(s.enq o vo).sumT s.no+s.ns
  rw[Snd.sumT_congr s.no (fun i hi=>kT i (by have:=ok.next;omega))];exact h.sent
def REnqGives(r:Rsn)(l:List Gf.F)(B rb:Nat)(w:World)(e:Ending)(w':World):Prop:=
 (255<l.length/\e=.returned (.tuple #[.int .i64 0,.agg #[.int .i64 2,.int .i64 (-1)]])/\Below w.heap.size w w')∨
 (l.length<=255/\r.os.length=16/\e=.returned (.tuple #[.int .i64 0,.agg #[.int .i64 3,.int .i64 (-1)]])/\Below w.heap.size w w')∨
 (l.length<=255/\r.os.length<16/\e=.returned (.tuple #[.int .i64 (r.os.length:Int),.agg #[.int .i64 0,.int .i64 (-1)]])/\∃ o va vb,o.l=l/\o.ds=debts0 (partsN (symN r.S l.length) r.K)/\RAt w' B rb (r.enq o va vb)/\But (r.foot rb) w w'/\∀ b,(r.enq o va vb).foot rb b->r.foot rb b∨w.heap.size<=b)
theorem Tryz.info_rblock:(Tryz.prog.info? 196).map (fun i=>(i.zero,i.size,i.bytes))=some (some (.agg #[.int .i64 0,.int .i64 0]),2,16):=by kernel_rfl
theorem make_rblocks(n:Nat)(hn:n<=1000)(W:World):(Instr.makeSlice 193 (.int .i64 n) (.int .i64 n)).run Tryz.prog W=.ok (.slice (some ⟨W.heap.size,0,none⟩) n n) (W.alloc (.cells (flat2 (debtVals (debts0 n))).toArray 196)):=by
 have h:=Tryz.info_rblock
 cases hi:Tryz.prog.info? 196 with
 | none=>rw[hi]at h;simp at h
 | some i=>
  rw[hi]at h;simp at h;obtain⟨h1,h2,h3⟩:=h;have:=run_make (P:=Tryz.prog) W 193 196 i (.agg #[.int .i64 0,.int .i64 0]) Tryz.underlying193 hi h1 .i64 .i64 (n:Int) (n:Int) (by omega) (by omega) (by rw[h3];omega) (by omega);rw[h2]at this;simp only[Int.toNat_natCast]at this;rw[this];show Result.ok _ (W.alloc (.cells (madeCells #[.int .i64 0,.int .i64 0] (n*2)) _))=_;rw[made2]
theorem Tryz.info_rblocks:(Tryz.prog.info? 193).map (fun i=>(i.zero,i.size,i.bytes))=some (some (.slice none 0 0),1,24):=by kernel_rfl
theorem Tryz.rblocks_parts:∃ i,Tryz.prog.info? 193=some i/\i.zero=some (.slice none 0 0)/\i.size=1/\i.bytes=24:=by
 obtain⟨i,hi,h⟩:=Option.map_eq_some_iff.1 Tryz.info_rblocks;simp only[Prod.mk.injEq]at h;exact⟨i,hi,h.1,h.2.1,h.2.2⟩
theorem Tryz.app0nil(a:Option Addr)(c:Nat)(w:World):(Builtin.append_ #[33,33] 33 #[.slice none 0 0,.slice a 0 c]).run Tryz.prog w=.ok (.slice none 0 0) w:=by
 cases a
 ·kernel_rfl
 ·kernel_rfl
theorem RAt.ne{w:World}{B rb E:Nat}{r:Rsn}{cs:Array Value}(h:RAt w B rb r)(hE:w.heap[E]?=some (.cells cs 139 (0,0))):∀ b,r.foot rb b->¬ b=E:=by
 intro b hb q;subst q;rcases hb with q|q|q|⟨i,hi,q|q⟩
 ·have hk:=h.blk
  rw[<- q,hE]at hk;simp only[Option.some.injEq,Obj.cells.injEq]at hk;exact absurd hk.2.1 (by decide)
 ·exact own_ne h.own q hE (by decide) rfl
 ·exact own_ne h.ownB q hE (by decide) rfl
 ·have hk:=(h.debts i hi).2
  rw[<- q,hE]at hk;simp only[Option.some.injEq,Obj.cells.injEq]at hk;exact absurd hk.2.1 (by decide)
 ·exact own_ne (h.bytes i hi) q hE (by decide) rfl
structure REq(r:Rsn)(l:List Gf.F)(B rb E:Nat)(w W:World)(o:Ob)(va vb:Value):Prop where
 lst:o.l=l
 ds:o.ds=debts0 (partsN (symN r.S l.length) r.K)
 at_:RAt W B rb (r.enq o va vb)
 but:But (r.foot rb) w W
 foot:∀ b,(r.enq o va vb).foot rb b->r.foot rb b∨w.heap.size<=b
 err:W.heap[E]?=some (.cells #[.int .i64 0,.int .i64 0] 139 (0,0))
 new:w.heap.size<=E
structure REa(r:Rsn)(l:List Gf.F)(B rb E:Nat)(w W:World)(X va:Value):Prop where
 blk:W.heap[rb]?=some (.cells #[.int .i64 (r.K:Int),.int .i64 (r.N:Int),.int .i64 (r.S:Int),va,r.vb,.int .i64 (r.sent:Int)] 191 (0,0))
 own:W.ownsRow B 33 1 va (r.os.length+1) (r.os.map Ob.bv++[X])
 ownB:W.ownsRow B 193 1 r.vb r.os.length (r.os.map Ob.dv)
 x:W.ownsRow w.heap.size 5 1 X l.length (encL l)
 but:But (fun b=>b=rb∨r.va.ownBlock=some b∨r.vb.ownBlock=some b) w W
 err:W.heap[E]?=some (.cells #[.int .i64 0,.int .i64 0] 139 (0,0))
 new:w.heap.size<=E
 vaAt:∀ b,va.ownBlock=some b->r.va.ownBlock=some b∨w.heap.size<=b
theorem REa.above{r:Rsn}{l:List Gf.F}{B rb E:Nat}{w W W':World}{X va:Value}(h:REa r l B rb E w W X va)(hb:Below W.heap.size W W'):REa r l B rb E w W' X va:=
 ⟨(hb.block _ (lt_of_block h.blk)).trans h.blk,own_of_block h.own (fun g hg=>hb.block g (h.own.lt g hg).2),own_of_block h.ownB (fun g hg=>hb.block g (h.ownB.lt g hg).2),own_of_block h.x (fun g hg=>hb.block g (h.x.lt g hg).2),h.but.below hb (fun _ hi q=>absurd (Nat.lt_of_lt_of_le hi h.but.size) q),(hb.block _ (lt_of_block h.err)).trans h.err,h.new,h.vaAt⟩
theorem REa.of{r:Rsn}{l:List Gf.F}{B rb E g cap:Nat}{w W0 wx w7:World}{X:Value}{ob:Obj}(h:RAt w B rb r)(hb0:Below w.heap.size w W0)(hE:W0.heap[E]?=some (.cells #[.int .i64 0,.int .i64 0] 139 (0,0)))(hEn:w.heap.size<=E)
 (hbx:Below W0.heap.size W0 wx) (hX:wx.ownsRow w.heap.size 5 1 X l.length (encL l)) (hg:(wx.alloc ob).grownBy w7 r.va.ownBlock) (hown:w7.ownsRow B 33 1 (.slice (some ⟨g,0,none⟩) (r.os.length+1) cap) (r.os.length+1) (r.os.map Ob.bv++[X])) (hlie:r.va.ownBlock=some g∨g=wx.heap.size+1):
 REa r l B rb E w (w7.setCell ⟨rb,3,none⟩ (.slice (some ⟨g,0,none⟩) (r.os.length+1) cap)) X (.slice (some ⟨g,0,none⟩) (r.os.length+1) cap):=by
 have hbw:Below w.heap.size w wx:=hb0.trans (hbx.mono hb0.size);have hsz:=hbw.size;have h1:=h.above hbw;have hEx:=(hbx.block _ (lt_of_block hE)).trans hE;have keep:∀ k cs t,wx.heap[k]?=some (Obj.cells cs t (0,0))->t≠33->w7.heap[k]?=wx.heap[k]?:=fun k cs t hk ht=>(grown_block hg (by have:=lt_of_block hk;simp;omega) (fun q=>own_ne h1.own q hk (fun e=>ht e.symm) rfl)).trans (Below.heap_alloc wx ob k (lt_of_block hk))
 have hblk:=(keep rb _ _ h1.blk (by decide)).trans h1.blk;have hO:=But.setCell (S:=fun b=>b=rb) (But.refl _ w7) (p:=⟨rb,3,none⟩) (.inl rfl) (.slice (some ⟨g,0,none⟩) (r.os.length+1) cap);have hne:∀ {B' n sz:Nat} {e:TypeId} {v:Value} {xs:List Value},w7.ownsRow B' e sz v n xs->e≠191->∀ g,v.ownBlock=some g->¬ g=rb:=fun h' he g hg q=>own_ne h' hg hblk he q
 have hB7:w7.ownsRow B 193 1 r.vb r.os.length (r.os.map Ob.dv):=own_of_block h1.ownB (fun k hk=>by
  obtain⟨cur,hc⟩:=own_block h1.ownB hk;exact keep k cur _ hc (by decide))
 have hX7:w7.ownsRow w.heap.size 5 1 X l.length (encL l):=own_of_block hX (fun k hk=>by
  obtain⟨cur,hc⟩:=own_block hX hk;exact keep k cur _ hc (by decide))
 have hE7:=(keep E _ _ hEx (by decide)).trans hEx;have hrb:=lt_of_block h.blk;refine⟨heap_setCell_same w7 rb 3 _ _ _ hblk,hO.own hown (hne hown (by decide)),hO.own hB7 (hne hB7 (by decide)),hO.own hX7 (hne hX7 (by decide)),?_,(hO.block E (lt_of_block hE7) (by omega)).trans hE7,hEn,fun b hb=>?_⟩
 ·exact(((Below.but hbw (fun b=>b=rb∨r.va.ownBlock=some b∨r.vb.ownBlock=some b) (fun i hi q=>absurd hi q)).alloc ob).grown hg (fun k hk=>.inl (.inr (.inl hk)))).setCell (p:=⟨rb,3,none⟩) (.inl (.inl rfl)) _
 ·have hb':g=b:=by simpa [Value.ownBlock] using hb
  subst hb';rcases hlie with q|q
  ·exact .inl q
  ·exact .inr (by omega)
theorem REq.of{r:Rsn}{l:List Gf.F}{B rb E d Q g cap n xc:Nat}{w W w9 w11:World}{xa:Option Addr}{va:Value}{ob:Obj}(h:RAt w B rb r)(hB:B<=w.heap.size)(hn:l.length=n)(hA:REa r l B rb E w W (.slice xa n xc) va)(hb9:Below W.heap.size W w9)(hQ:Q=partsN (symN r.S l.length) r.K)(hd:d=w9.heap.size)
 (hg:((w9.alloc (.cells (flat2 (debtVals (debts0 Q))).toArray 196)).alloc ob).grownBy w11 r.vb.ownBlock) (hown:w11.ownsRow B 193 1 (.slice (some ⟨g,0,none⟩) (r.os.length+1) cap) (r.os.length+1) (r.os.map Ob.dv++[.slice (some ⟨d,0,none⟩) Q Q])) (hlie:r.vb.ownBlock=some g∨g=w9.heap.size+2):
 ∃ o vb,REq r l B rb E w (w11.setCell ⟨rb,4,none⟩ (.slice (some ⟨g,0,none⟩) (r.os.length+1) cap)) o va vb:=by
 have h9:=hA.above hb9;have hD:=heap_alloc_new w9 (.cells (flat2 (debtVals (debts0 Q))).toArray 196);rw[<- hd]at hD;have hsz:=h9.but.size;have keep:∀ k cs t,w9.heap[k]?=some (Obj.cells cs t (0,0))->t≠193->w11.heap[k]?=w9.heap[k]?:=fun k cs t hk ht=>(grown_block hg (by have:=lt_of_block hk;simp;omega) (fun q=>own_ne h9.ownB q hk (fun e=>ht e.symm) rfl)).trans ((Below.heap_alloc _ ob k (by have:=lt_of_block hk;simp;omega)).trans (Below.heap_alloc w9 _ k (lt_of_block hk)))
 have hblk:=(keep rb _ _ h9.blk (by decide)).trans h9.blk;have hO:=But.setCell (S:=fun b=>b=rb) (But.refl _ w11) (p:=⟨rb,4,none⟩) (.inl rfl) (.slice (some ⟨g,0,none⟩) (r.os.length+1) cap);have hne:∀ {B' n sz:Nat} {e:TypeId} {v:Value} {xs:List Value},w11.ownsRow B' e sz v n xs->e≠191->∀ g,v.ownBlock=some g->¬ g=rb:=fun h' he g hg q=>own_ne h' hg hblk he q
 have hA11:w11.ownsRow B 33 1 va (r.os.length+1) (r.os.map Ob.bv++[.slice xa n xc]):=own_of_block h9.own (fun k hk=>by
  obtain⟨cur,hc⟩:=own_block h9.own hk;exact keep k cur _ hc (by decide))
 have hX11:w11.ownsRow w.heap.size 5 1 (.slice xa n xc) l.length (encL l):=own_of_block h9.x (fun k hk=>by
  obtain⟨cur,hc⟩:=own_block h9.x hk;exact keep k cur _ hc (by decide))
 have hE11:=(keep E _ _ h9.err (by decide)).trans h9.err;have hrb:=lt_of_block h.blk
 have hD11:w11.heap[d]?=some (.cells (flat2 (debtVals (debts0 Q))).toArray 196 (0,0)):=by
  refine((grown_block hg (by simp;omega) (fun q=>?_)).trans (Below.heap_alloc _ ob d (by simp;omega))).trans hD;have:=(h9.ownB.lt d q).2;omega
 have hlen0:(debts0 Q).length=Q:=by simp[debts0]
 have hbut:But (fun b=>b=rb∨r.va.ownBlock=some b∨r.vb.ownBlock=some b) w (w11.setCell ⟨rb,4,none⟩ (.slice (some ⟨g,0,none⟩) (r.os.length+1) cap)):=(((h9.but.alloc _).alloc ob).grown hg (fun k hk=>.inl (.inr (.inr hk)))).setCell (p:=⟨rb,4,none⟩) (.inl (.inl rfl)) _;have hdne:¬ d=rb:=by omega
 refine⟨⟨l,debts0 Q,xa,xc,d⟩,.slice (some ⟨g,0,none⟩) (r.os.length+1) cap,rfl,by show debts0 Q=_;rw[hQ],?_,hbut.wide (fun k _ q=>?_),fun b hb=>?_,(hO.block E (lt_of_block hE11) (by have:=h9.new;omega)).trans hE11,h9.new⟩
 ·subst hn
  refine h.enq hbut hB (heap_setCell_same w11 rb 4 _ _ _ hblk) (hO.own hA11 (hne hA11 (by decide))) ?_ (own_base2 (hO.own hX11 (hne hX11 (by decide))) hB) ((hO.block d (lt_of_block hD11) hdne).trans hD11) (by show _<=d;omega);show World.ownsRow _ B _ 1 _ _ (r.os.map Ob.dv++[Value.slice (some ⟨d,0,none⟩) (debts0 Q).length (debts0 Q).length]);rw[hlen0];exact hO.own hown (hne hown (by decide))
 ·rcases q with q|q|q
  ·exact .inl q
  ·exact .inr (.inl q)
  ·exact .inr (.inr (.inl q))
 ·rcases hb with q|q|q|⟨i,hi,q⟩
  ·exact .inl (.inl q)
  ·rcases h9.vaAt b q with q|q
   ·exact .inl (.inr (.inl q))
   ·exact .inr q
  ·have hb':g=b:=by simpa [Rsn.enq,Value.ownBlock] using q
   subst hb';rcases hlie with q|q
   ·exact .inl (.inr (.inr (.inl q)))
   ·exact .inr (by omega)
  ·have hi':i<r.os.length+1:=by simpa [Rsn.enq] using hi
   have q':b=(oat (r.os++[⟨l,debts0 Q,xa,xc,d⟩]) i).dg∨(oat (r.os++[⟨l,debts0 Q,xa,xc,d⟩]) i).bv.ownBlock=some b:=q;rcases push_key (os:=r.os) ⟨l,debts0 Q,xa,xc,d⟩ i hi' with⟨h1,h2⟩|⟨_,h2⟩<;>rw[h2]at q'
   ·exact .inl (.inr (.inr (.inr ⟨i,h1,q'⟩)))
   ·rcases q' with q'|q'
    ·have:b=d:=q'
     exact .inr (by omega)
    ·have q2:(Value.slice xa l.length xc).ownBlock=some b:=q'
     rw[hn]at q2;exact .inr (h9.x.lt b q2).1
theorem renqueue_any{B rb b o n c:Nat}{a:Option Addr}{l:List Gf.F}{r:Rsn}{w:World}(h:RAt w B rb r)(hB0:B<=w.heap.size)(hcf:Cfg r.K r.N r.S)(hfew:r.os.length<=16)(hl:l.length=n)(hn:n<=140737488355328)(ha:0<n->a=some ⟨b,o,none⟩)(hB:Bs w b o l):
 Calls Tryz.prog 83 #[.pointer (some ⟨rb,0,none⟩),.slice a n c] w (REnqGives r l B rb w):=by
 have HCF:Hid (Cfg r.K r.N r.S):=hcf;obtain⟨k1,k8,kn,n16,s1,s8⟩:=hcf;have hE0:=heap_alloc_new w (.cells #[.int .i64 0,.int .i64 0] 139);have hb0:Below w.heap.size w (w.alloc (.cells #[.int .i64 0,.int .i64 0] 139)):=(Below.refl _ _).alloc (Nat.le_refl _) _;obtain⟨va,vc,hva,_⟩:=own_form2 h.own;obtain⟨vb,vd,hvb,_⟩:=own_form2 h.ownB;have hrl:=lt_of_block h.blk;have hrne:¬ rb=w.heap.size:=Nat.ne_of_lt hrl;by_cases hq:255<n
 ·have hq1:(255:Int)<(n:Int):=by omega
  go_enter Tryz.func83,Tryz.ntmps83;go_wp2_with fail;refine(plain_err 2 _).mono ?_;rintro e w1 ⟨rfl,hb1⟩;have hE1:=(hb1.block _ (lt_of_block hE0)).trans hE0;obtain⟨y0,y1,f0,f1⟩:=twoE hE1;obtain⟨p1,p2⟩:=putE w1 w.heap.size _ _ (.int .i64 2) (.int .i64 (-1)) _ hE1;obtain⟨q0,q1,_,_⟩:=twoE p1;have hbw1:Below w.heap.size w w1:=hb0.trans (hb1.mono hb0.size);have hfin:Below w.heap.size w _:=hbw1.trans (p2.toBelow hbw1.size (fun k hk q=>by omega));go_wp2_with fail;exact bodyPost_ret (v:=.tuple #[.int .i64 0,.agg #[.int .i64 2,.int .i64 (-1)]]) (by simp[results,Tryz.results83,go_sem,q0,q1]) rfl (.inl ⟨by omega,rfl,hfin⟩)
 ·have hq1:¬(255:Int)<(n:Int):=by omega
  have hr0:=h.above hb0;obtain⟨_,_,_,c3,_,_⟩:=hr0.cells;rw[hva]at c3;by_cases h16:r.os.length=16
  ·have h161:(r.os.length:Int)=16:=by omega
   go_enter Tryz.func83,Tryz.ntmps83;go_upto_region 1 with fail;generalize w.alloc (.cells #[.int .i64 0,.int .i64 0] 139)=W0 at *;go_wp2_with fail;refine(plain_err 3 _).mono ?_;rintro e w1 ⟨rfl,hb1⟩;have hE1:=(hb1.block _ (lt_of_block hE0)).trans hE0;obtain⟨y0,y1,f0,f1⟩:=twoE hE1;obtain⟨p1,p2⟩:=putE w1 w.heap.size _ _ (.int .i64 3) (.int .i64 (-1)) _ hE1;obtain⟨q0,q1,_,_⟩:=twoE p1;have hbw1:Below w.heap.size w w1:=hb0.trans (hb1.mono hb0.size);have hfin:Below w.heap.size w _:=hbw1.trans (p2.toBelow hbw1.size (fun k hk q=>by omega));go_wp2_with fail;exact bodyPost_ret (v:=.tuple #[.int .i64 0,.agg #[.int .i64 3,.int .i64 (-1)]]) (by simp[results,Tryz.results83,go_sem,q0,q1]) rfl (.inr (.inl ⟨by omega,h16,rfl,hfin⟩))
  ·have h161:¬(r.os.length:Int)=16:=by omega
   obtain⟨iU,hiU,hiU0,hiU1,hiU2⟩:=Tryz.u8_parts;obtain⟨iB,hiB,hiB0,hiB1,hiB2⟩:=Tryz.bytes_parts;obtain⟨iT,hiT,hiT0,hiT1,hiT2⟩:=Tryz.rblocks_parts;obtain⟨E,hEe⟩:∃ x,x=w.heap.size:=⟨_,rfl⟩;have hE0':(w.alloc (.cells #[.int .i64 0,.int .i64 0] 139)).heap[E]?=some (.cells #[.int .i64 0,.int .i64 0] 139 (0,0)):=by rw[hEe];exact hE0
   have hBW:Bs (w.alloc (.cells #[.int .i64 0,.int .i64 0] 139)) b o l:=fun i hi=>by rw[hb0.cell (lt_of_cell (hB i hi))];exact hB i hi
   have HVA:Hid (r.va=.slice va r.os.length vc):=hva;have HVB:Hid (r.vb=.slice vb r.os.length vd):=hvb;go_enter Tryz.func83,Tryz.ntmps83;go_upto_region 1 with fail;generalize w.alloc (.cells #[.int .i64 0,.int .i64 0] 139)=W0 at *;rw[<- hEe];have HEE:Hid (E=w.heap.size):=hEe;clear hE0 hEe;go_upto_region 6 with fail;have hsz0:=hb0.size
   go_cut[6] (fun x wx=>∃ xa xc,x=.slice xa n xc/\wx.ownsRow w.heap.size 5 1 (.slice xa n xc) n (encL l)/\Below W0.heap.size W0 wx)
   case first=>
    by_cases h1:1<=n
    ·obtain rfl:=ha h1
     have HC:Hid (∀ j u,(encL l)[j]?=some u->W0.cell? ((⟨b,o,none⟩:Addr).add j)=some u):=hBW.cells;have HD1:Hid ((encL l).length=n*1):=by show _=_;simp[encL,hl]
     have HMX:Hid (0+n<=maxLen):=by show _<=_;unfold maxLen;omega
     go_wp2_with (at_builtin;refine wpList_append_lies _ rfl _ _ _ rfl W0.heap.size 5 iU (.int .u8 0) 1 1 Tryz.underlying33 hiU hiU0 hiU1 hiU2 rfl (by omega) (.slice none 0 0) 0 [] rfl (World.ownsRow_nil ..) ⟨b,o,none⟩ n c (encL l) rfl HD1.out HC.out (encL_one l) h1 HMX.out (by omega) (Nat.le_refl _) W0.heap.size rfl ?_);intro g6 cap6 w6 hown6 hgr6 hlie6 hlt6;go_wp2_with fail
     go_meet
     exact⟨_,cap6,rfl,own_base2 hown6 hsz0,(Below.refl _ _).grown hgr6 (Nat.le_refl _) (fun t ht=>by simp[Value.ownBlock]at ht)⟩
    ·have h0:n=0:=by omega
     subst h0;obtain rfl:l=[]:=List.length_eq_zero_iff.1 hl
     cases a with
     | none=>
      have happ:=Tryz.app0nil none c;go_wp2_with fail
      go_meet
      exact⟨none,0,rfl,World.ownsRow_nil ..,Below.refl _ _⟩
     | some ad=>
      have happ:=Tryz.app0nil (some ad) c;go_wp2_with fail
      go_meet
      exact⟨none,0,rfl,World.ownsRow_nil ..,Below.refl _ _⟩
   case rest=>
    obtain⟨xa,xc,rfl,hX,hbx⟩:=hcut;have hbw:Below w.heap.size w wc:=hb0.trans (hbx.mono hsz0);have h1:=h.above hbw;have hszx:=hbw.size;clear c3;obtain⟨_,_,_,c3,_,_⟩:=h1.cells;rw[HVA.out]at c3;have hrl1:=lt_of_cell c3;have hrn1:¬ rb=wc.heap.size:=Nat.ne_of_lt hrl1
    have HOW:Hid (∀ ob:Obj,(wc.alloc ob).ownsRow B 33 1 (.slice va r.os.length vc) r.os.length (r.os.map Ob.bv)):=fun ob=>by
     have:=h1.own;rw[HVA.out]at this;exact this.alloc ob
    have HMX:Hid (r.os.length+1<=maxLen):=by show _<=_;unfold maxLen;omega
    have HK7:Hid (∀ ob w7,(wc.alloc ob).grownBy w7 (Value.slice va r.os.length vc).ownBlock->w7.cell? ⟨rb,3,none⟩=some (.slice va r.os.length vc)/\w7.frozen? ⟨rb,3,none⟩=false):=fun ob w7 hg=>by
     have hk:w7.heap[rb]?=wc.heap[rb]?:=(grown_block hg (by simp;omega) (fun q=>by rw[<- HVA.out]at q;exact own_ne h1.own q h1.blk (by decide) rfl)).trans (Below.heap_alloc wc ob rb hrl1);have hblk:=hk.trans h1.blk;exact⟨by rw[cell_of_row w7 rb 3 _ _ _ hblk];show some r.va=_;rw[HVA.out],frozen_of_row w7 rb 3 _ _ hblk⟩
    go_wp2_with (at_builtin;refine wpList_append_lies _ rfl _ _ _ rfl B 33 iB (.slice none 0 0) 1 24 Tryz.underlying40 hiB hiB0 hiB1 hiB2 rfl (by omega) (.slice va r.os.length vc) r.os.length (r.os.map Ob.bv) rfl (HOW.out _) ⟨wc.heap.size,0,none⟩ 1 1 [.slice xa n xc] rfl rfl (cell_one_at wc _ _ _ rfl) (fun u hu=>by simp at hu;subst hu;rfl) (by omega) HMX.out (by omega) (by simp;omega) (wc.heap.size+1) (by simp) ?_);intro g7 cap7 w7 hown7 hgr7 hlie7 hlt7;obtain⟨k7,f7⟩:=HK7.out _ _ hgr7;go_upto_region 8 with fail;have hA:REa r l B rb E w (w7.setCell ⟨rb,3,none⟩ (.slice (some ⟨g7,0,none⟩) (r.os.length+1) cap7)) (.slice xa n xc) (.slice (some ⟨g7,0,none⟩) (r.os.length+1) cap7):=REa.of (X:=.slice xa n xc) h hb0 hE0' (Nat.le_of_eq HEE.out.symm) hbx (by rw[hl];exact hX) (by rw[HVA.out];exact hgr7) hown7 (by rw[HVA.out];exact hlie7);generalize w7.setCell ⟨rb,3,none⟩ (.slice (some ⟨g7,0,none⟩) (r.os.length+1) cap7)=W8 at *;clear k7 f7 hown7 hgr7 hlie7 hlt7 c3 HOW HK7 hX hbx hBW h1 hr0;have hQl:=partsN_le (a:=symN r.S n) k1;have hTr:=symN_range (S:=r.S) (len:=n) s1;obtain⟨Q,hQ⟩:∃ x,x=partsN (symN r.S n) r.K:=⟨_,rfl⟩;have hQ9:Q<=1000:=by rw[hQ];omega
    have HQ:Hid (Q=partsN (symN r.S n) r.K):=hQ
    have HBK:Hid (∀ W,Calls Tryz.prog 94 #[.agg #[.int .i64 (r.K:Int),.int .i64 (r.N:Int),.int .i64 (r.S:Int)],.int .i64 n] W fun e w'=>e=.returned (.int .i64 Q)/\Below W.heap.size W w'):=fun W=>by
     rw[hQ];exact rblocks_any r.K r.N r.S n HCF.out (by omega) W
    clear hQ hQl hTr;have c0:W8.cell? ⟨rb,0,none⟩=some (.int .i64 (r.K:Int)):=cell_of_row W8 _ 0 _ _ _ hA.blk;have c1:W8.cell? ⟨rb,1,none⟩=some (.int .i64 (r.N:Int)):=cell_of_row W8 _ 1 _ _ _ hA.blk;have c2:W8.cell? ⟨rb,2,none⟩=some (.int .i64 (r.S:Int)):=cell_of_row W8 _ 2 _ _ _ hA.blk;have c4:W8.cell? ⟨rb,4,none⟩=some (.slice vb r.os.length vd):=by rw[cell_of_row W8 _ 4 _ _ _ hA.blk];show some r.vb=_;rw[HVB.out]
    have hrl8:rb<W8.heap.size:=lt_of_cell c4;have hrn8:¬ rb=W8.heap.size:=Nat.ne_of_lt hrl8;have hBW8:B<=W8.heap.size:=Nat.le_trans hB0 hA.but.size
    have HOW:Hid (∀ w9,Below W8.drew.heap.size W8.drew w9->∀ ob ob':Obj,((w9.alloc ob).alloc ob').ownsRow B 193 1 (.slice vb r.os.length vd) r.os.length (r.os.map Ob.dv)):=fun w9 hb9 ob ob'=>by
     have:=(hA.above (Below.undraw hb9)).ownB;rw[HVB.out]at this;exact(this.alloc ob).alloc ob'
    have HBL:Hid (∀ w9,Below W8.drew.heap.size W8.drew w9->∀ ob ob':Obj,B<=((w9.alloc ob).alloc ob').heap.size):=fun w9 hb9 ob ob'=>by
     have h1:W8.heap.size<=w9.heap.size:=hb9.size;simp;omega
    have HMB:Hid ((r.os.length+1)*24<=140737488355328):=by show _<=_;omega
    have HK9:Hid (∀ w9,Below W8.drew.heap.size W8.drew w9->w9.cell? ⟨rb,0,none⟩=some (.int .i64 (r.K:Int))/\w9.cell? ⟨rb,1,none⟩=some (.int .i64 (r.N:Int))/\w9.cell? ⟨rb,2,none⟩=some (.int .i64 (r.S:Int))/\w9.cell? ⟨rb,4,none⟩=some (.slice vb r.os.length vd)/\¬ rb=w9.heap.size/\¬ rb=w9.heap.size+1/\(∀ ob:Obj,(w9.alloc ob).cell? ⟨rb,4,none⟩=some (.slice vb r.os.length vd))/\∀ ob ob':Obj,((w9.alloc ob).alloc ob').cell? ⟨rb,4,none⟩=some (.slice vb r.os.length vd)):=fun w9 hb9=>by
     have hb9':=Below.undraw hb9;have h1:=hb9'.size;exact⟨by rw[hb9'.cell (lt_of_cell c0)];exact c0,by rw[hb9'.cell (lt_of_cell c1)];exact c1,by rw[hb9'.cell (lt_of_cell c2)];exact c2,by rw[hb9'.cell (lt_of_cell c4)];exact c4,by omega,by omega,fun ob=>by rw[((Below.refl w9.heap.size w9).alloc (Nat.le_refl _) ob).cell (p:=⟨rb,4,none⟩) (by show rb<_;omega),hb9'.cell (lt_of_cell c4)];exact c4,fun ob ob'=>by rw[(((Below.refl w9.heap.size w9).alloc (Nat.le_refl _) ob).alloc (by simp) ob').cell (p:=⟨rb,4,none⟩) (by show rb<_;omega),hb9'.cell (lt_of_cell c4)];exact c4⟩
    have HK11:Hid (∀ w9 ob ob' w11,Below W8.drew.heap.size W8.drew w9->((w9.alloc ob).alloc ob').grownBy w11 (Value.slice vb r.os.length vd).ownBlock->w11.cell? ⟨rb,4,none⟩=some (.slice vb r.os.length vd)/\w11.frozen? ⟨rb,4,none⟩=false):=fun w9 ob ob' w11 hb9 hg=>by
     have h9:=hA.above (Below.undraw hb9);have hs9:=lt_of_block h9.blk;have hk:w11.heap[rb]?=w9.heap[rb]?:=((grown_block hg (by simp;omega) (fun q=>by rw[<- HVB.out]at q;exact own_ne h9.ownB q h9.blk (by decide) rfl)).trans (Below.heap_alloc _ ob' rb (by simp;omega))).trans (Below.heap_alloc w9 ob rb hs9);have hblk:=hk.trans h9.blk;exact⟨by rw[cell_of_row w11 rb 4 _ _ _ hblk];show some r.vb=_;rw[HVB.out],frozen_of_row w11 rb 4 _ _ hblk⟩
    have HNW:Hid (∀ x,∀ u ∈ [Value.slice (some ⟨x,0,none⟩) Q Q],u.oneCell'=true):=fun x u hu=>by simp at hu;subst hu;rfl
    have HA:Hid (REa r l B rb E w W8 (.slice xa n xc) (.slice (some ⟨g7,0,none⟩) (r.os.length+1) cap7)):=hA;have HB:Hid (RAt w B rb r):=h;clear hA h
    go_cut[6] (fun _ wx=>∃ o vb',REq r l B rb E w wx o (.slice (some ⟨g7,0,none⟩) (r.os.length+1) cap7) vb')
    case first=>
     go_region_law ((first
      | (refine step_append_lies _ (by rfl) _ _ _ (by rfl) B 193 iT (.slice none 0 0) 1 24 Tryz.underlying189 hiT hiT0 hiT1 hiT2 rfl (by omega) (.slice vb r.os.length vd) r.os.length (r.os.map Ob.dv) (by rfl) (HOW.out _ hb9 _ _) ⟨w9.heap.size+1,0,none⟩ 1 1 [.slice (some ⟨w9.heap.size,0,none⟩) Q Q] (by rfl) rfl (cell_one_at _ _ _ _ (by simp)) (HNW.out _) (by omega) HMX.out HMB.out (HBL.out _ hb9 _ _) (w9.heap.size+2) (by simp) ?_;intro g11 cap11 w11 hown11 hgr11 hlie11 hlt11;obtain⟨k11,f11⟩:=HK11.out _ _ _ _ hb9 hgr11)
      | (go_simp;go_at_call 94;refine(HBK.out _).mono ?_;rintro e w9 ⟨rfl,hb9⟩;obtain⟨d0,d1,d2,d4,n9,n9',da,db⟩:=HK9.out w9 hb9;have da':=da (.cells (flat2 (debtVals (debts0 Q))).toArray 196);have db':=db (.cells (flat2 (debtVals (debts0 Q))).toArray 196) (.cells #[.slice (some ⟨w9.heap.size,0,none⟩) Q Q] 193);have hmk:=make_rblocks Q hQ9 w9)))
     all_goals go_wp2_with fail
     all_goals go_meet
     all_goals exact REq.of HB.out hB0 hl HA.out (Below.undraw hb9) (by rw[hl];exact HQ.out) rfl (by rw[HVB.out];exact hgr11) hown11 (by rw[HVB.out];exact hlie11)
    case rest=>
     obtain⟨o',vb',hq⟩:=hcut;have k3:wc.cell? ⟨rb,3,none⟩=some (.slice (some ⟨g7,0,none⟩) (r.os.length+1) cap7):=hq.at_.cells.2.2.2.1;obtain⟨y0,y1,f0,f1⟩:=twoE hq.err;have HN:Hid (∀ w2,Below wc.heap.size wc w2->w2.cell? ⟨rb,3,none⟩=some (.slice (some ⟨g7,0,none⟩) (r.os.length+1) cap7)/\w2.heap[E]?=some (.cells #[.int .i64 0,.int .i64 0] 139 (0,0))):=fun w2 hb2=>⟨by rw[hb2.cell (lt_of_cell k3)];exact k3,(hb2.block E (lt_of_block hq.err)).trans hq.err⟩
     have HFIN:Hid (∀ w2,Below wc.heap.size wc w2->((w2.setCell ⟨E,0,none⟩ (.int .i64 0)).setCell ⟨E,1,none⟩ (.int .i64 (-1))).heap[E]?=some (.cells #[.int .i64 0,.int .i64 (-1)] 139 (0,0))/\REnqGives r l B rb w (.returned (.tuple #[.int .i64 (r.os.length:Int),.agg #[.int .i64 0,.int .i64 (-1)]])) ((w2.setCell ⟨E,0,none⟩ (.int .i64 0)).setCell ⟨E,1,none⟩ (.int .i64 (-1)))):=fun w2 hb2=>by
      have hE2:=(HN.out w2 hb2).2;obtain⟨p1,p2⟩:=putE w2 E _ _ (.int .i64 0) (.int .i64 (-1)) _ hE2;have hR2:=hq.at_.above hb2;have hbu2:=hq.but.below hb2 (fun _ hi q=>absurd (Nat.lt_of_lt_of_le hi hq.but.size) q);refine⟨p1,.inr (.inr ⟨by omega,by omega,rfl,o',_,vb',hq.lst,hq.ds,hR2.kept (fun b hb'=>p2.block b (hR2.foot_lt hb').2 (hR2.ne hE2 b hb')),hbu2.then p2 (fun i hi q=>?_),hq.foot⟩)⟩;have:=hq.new;omega
     have hlen1:((r.os.length+1:Nat):Int) - 1=(r.os.length:Int):=by omega
     have hlen2:(r.os.length:Int)+1 - 1=(r.os.length:Int):=by omega
     have hwr:IntKind.i64.wrap (r.os.length:Int)=(r.os.length:Int):=by rw[IntKind.wrap_i64];omega
     clear hq;go_upto_region 9 with fail
     go_region_with (first
      | (go_at_call 93;refine(none_err _).mono ?_;rintro e w2 ⟨rfl,hb2⟩;(have hbX:Below wc.heap.size wc w2:=by first | exact Below.undraw hb2|exact hb2);obtain⟨k3',hE2⟩:=HN.out w2 hbX;obtain⟨y0',y1',f0',f1'⟩:=twoE hE2))
     all_goals go_wp2_with fail
     all_goals (obtain⟨p1,hG⟩:=HFIN.out w2 hbX;obtain⟨q0,q1,_,_⟩:=twoE p1;exact bodyPost_ret (v:=.tuple #[.int .i64 (r.os.length:Int),.agg #[.int .i64 0,.int .i64 (-1)]]) (by simp[results,Tryz.results83,go_sem,q0,q1]) rfl hG)
theorem Snd.asksQ{s:Snd}(ok:s.Ok){l:List Gf.F}(hp:parseE s.K s.N s.S l=none)(h2:lenOf l=(oat s.os (bt l 1)).l.length)(h3:¬ bt l 0=1):∀ k,k<bt (l.drop 4) 0->bt (l.drop 4) (1+2*k)<s.Q (bt l 1)/\bt (l.drop 4) (1+2*k+1)<=8:=by
 intro k hk;obtain⟨_,_,_,h9⟩:=parse_asks hp h3;have h9:=h9 k hk;have hT9:symN s.S (lenOf l)=s.T (bt l 1):=by unfold Snd.T;rw[h2]
 rw[hT9]at h9;obtain⟨k1,k8,kn,n16,s1,s8⟩:=ok.cfg;have:srcN s.K (s.T (bt l 1)) (bt (l.drop 4) (1+2*k))<=8:=by unfold srcN;omega
 exact⟨h9.1,by omega⟩
def hearZ(s:Snd)(l:List Gf.F):Int×Int:=
 match parseE s.K s.N s.S l with
 | some (c,k)=>((c:Int),(k:Int))
 | none=>if s.os.length<=bt l 1 then(6,1) else if lenOf l≠(oat s.os (bt l 1)).l.length then(6,2) else if bt l 0=1 then(5,0) else(0,-1)
def hearS(s:Snd)(l:List Gf.F):Snd:=
 match parseE s.K s.N s.S l with
 | some _=>s
 | none=>if s.os.length<=bt l 1 then s else if lenOf l≠(oat s.os (bt l 1)).l.length then s else if bt l 0=1 then s else s.askN (bt l 1) (l.drop 4) (bt (l.drop 4) 0)
def VSays(A:Nat->Addr)(w':World)(v:Value)(z:Int×Int):Prop:=
 (z=(0,-1)/\v=.nilIface)∨(∃ i:Nat,i<8/\z=((i:Int)+1,-1)/\v=E A (i+1))∨∃(i pb:Nat),i<8/\z.1=(i:Int)+1/\v=.iface 166 (.pointer (some ⟨pb,0,none⟩))/\w'.heap[pb]?=some (.cells #[.int .i64 z.2,E A (i+1)] 168 (0,0))
theorem VSays.kept{A:Nat->Addr}{w w':World}{v:Value}{z:Int×Int}(h:VSays A w v z)(hk:∀(pb:Nat) (cs:Array Value),w.heap[pb]?=some (Obj.cells cs 168 (0,0))->w'.heap[pb]?=w.heap[pb]?):VSays A w' v z:=by
 rcases h with h|h|⟨i,pb,hi,h1,h3,h2⟩
 ·exact .inl h
 ·exact .inr (.inl h)
 ·exact .inr (.inr ⟨i,pb,hi,h1,h3,(hk pb _ h2).trans h2⟩)
theorem VSays.below{A:Nat->Addr}{w w':World}{v:Value}{z:Int×Int}(h:VSays A w v z)(hb:Below w.heap.size w w'):VSays A w' v z:=h.kept (fun pb _ hp=>hb.block pb (lt_of_block hp))
theorem Wr.says{A:Nat->Addr}{w w':World}{v:Value}{z:Int}{i:Nat}(hi:i<8)(h:Wr w w' v z (E A (i+1))):VSays A w' v ((i:Int)+1,z):=by
 obtain⟨pb,rfl,_,hblk⟩:=h;exact .inr (.inr ⟨i,pb,hi,rfl,rfl,hblk⟩)
theorem HearGives.one{A:Nat->Addr}{s:Snd}{l:List Gf.F}{B sb:Nat}{w w':World}{e:Ending}(h:HearGives A s l B sb w e w')(hS:SAt w B sb s)(ok:s.Ok):
 ∃ v,e=.returned v/\VSays A w' v (hearZ s l)/\SAt w' B sb (hearS s l)/\(hearS s l).Ok/\But (s.foot sb) w w'/\∀ b,(hearS s l).foot sb b↔s.foot sb b:=by
 unfold HearGives at h;unfold hearZ hearS;have hbb:∀ {w':World},Below w.heap.size w w'->But (s.foot sb) w w':=fun hb=>Below.but hb _ (fun i hi q=>absurd hi q)
 cases hp:parseE s.K s.N s.S l with
 | some ep=>
  obtain⟨c,k⟩:=ep;rw[hp]at h;obtain⟨v,rfl,hw,hb⟩:=h;obtain⟨i,hi,rfl⟩:=parseE_code hp;refine⟨v,rfl,?_,hS.above hb,ok,hbb hb,fun b=>Iff.rfl⟩;have:=Wr.says (i:=i) hi hw;simpa using this
 | none=>
  rw[hp]at h;simp only at h ⊢;by_cases h1:s.os.length<=bt l 1
  ·rw[if_pos h1]at h ⊢
   rw[if_pos h1];obtain⟨v,rfl,hw,hb⟩:=h;exact⟨v,rfl,Wr.says (i:=5) (by omega) hw,hS.above hb,ok,hbb hb,fun b=>Iff.rfl⟩
  ·rw[if_neg h1]at h ⊢
   rw[if_neg h1];by_cases h2:lenOf l≠(oat s.os (bt l 1)).l.length
   ·rw[if_pos h2]at h ⊢
    rw[if_pos h2];obtain⟨v,rfl,hw,hb⟩:=h;exact⟨v,rfl,Wr.says (i:=5) (by omega) hw,hS.above hb,ok,hbb hb,fun b=>Iff.rfl⟩
   ·rw[if_neg h2]at h ⊢
    rw[if_neg h2];by_cases h3:bt l 0=1
    ·rw[if_pos h3]at h ⊢
     rw[if_pos h3];obtain⟨v,rfl,hw,hb⟩:=h;exact⟨v,rfl,Wr.says (i:=4) (by omega) hw,hS.above hb,ok,hbb hb,fun b=>Iff.rfl⟩
    ·rw[if_neg h3]at h ⊢
     rw[if_neg h3];obtain⟨rfl,hA,hbu⟩:=h;have hi:bt l 1<s.os.length:=by omega
     refine⟨_,rfl,.inl ⟨rfl,rfl⟩,hA,?_,hbu,fun b=>Snd.foot_askN hi _ sb b _⟩;exact(Snd.askN_ok ok hi (Snd.asksQ ok hp (by simpa using h2) h3) _ (Nat.le_refl _)).1
theorem put2(W:World)(re:Nat)(t:TypeId)(y0 y1 u0 u1:Value)(h:W.heap[re]?=some (.cells #[y0,y1] t (0,0))):
 ((W.setCell ⟨re,0,none⟩ u0).setCell ⟨re,1,none⟩ u1).heap[re]?=some (.cells #[u0,u1] t (0,0))/\But (fun g=>g=re) W ((W.setCell ⟨re,0,none⟩ u0).setCell ⟨re,1,none⟩ u1):=by
 have h0:(W.setCell ⟨re,0,none⟩ u0).heap[re]?=some (.cells #[u0,y1] t (0,0)):=heap_setCell_same _ re 0 _ _ u0 h;have h1:((W.setCell ⟨re,0,none⟩ u0).setCell ⟨re,1,none⟩ u1).heap[re]?=some (.cells #[u0,u1] t (0,0)):=heap_setCell_same _ re 1 _ _ u1 h0;have b0:=But.setCell (S:=fun g=>g=re) (But.refl _ W) (p:=⟨re,0,none⟩) (.inl rfl) u0;exact⟨h1,But.setCell b0 (p:=⟨re,1,none⟩) (.inl rfl) u1⟩
theorem put9(W:World)(rp re:Nat)(x0 x1 x2 x3 x4 x5 x6 y0 y1 v0 v1 v2 v3 v4 v5 v6 u0 u1:Value)(h:W.heap[rp]?=some (.cells #[x0,x1,x2,x3,x4,x5,x6] 60 (0,0)))(he:W.heap[re]?=some (.cells #[y0,y1] 139 (0,0)))(hne:rp≠re):
 (((((((((W.setCell ⟨rp,0,none⟩ v0).setCell ⟨rp,1,none⟩ v1).setCell ⟨rp,2,none⟩ v2).setCell ⟨rp,3,none⟩ v3).setCell ⟨rp,4,none⟩ v4).setCell ⟨rp,5,none⟩ v5).setCell ⟨rp,6,none⟩ v6).setCell ⟨re,0,none⟩ u0).setCell ⟨re,1,none⟩ u1).heap[rp]?=some (.cells #[v0,v1,v2,v3,v4,v5,v6] 60 (0,0))/\(((((((((W.setCell ⟨rp,0,none⟩ v0).setCell ⟨rp,1,none⟩ v1).setCell ⟨rp,2,none⟩ v2).setCell ⟨rp,3,none⟩ v3).setCell ⟨rp,4,none⟩ v4).setCell ⟨rp,5,none⟩ v5).setCell ⟨rp,6,none⟩ v6).setCell ⟨re,0,none⟩ u0).setCell ⟨re,1,none⟩ u1).heap[re]?=some (.cells #[u0,u1] 139 (0,0))/\But (fun g=>g=rp∨g=re) W (((((((((W.setCell ⟨rp,0,none⟩ v0).setCell ⟨rp,1,none⟩ v1).setCell ⟨rp,2,none⟩ v2).setCell ⟨rp,3,none⟩ v3).setCell ⟨rp,4,none⟩ v4).setCell ⟨rp,5,none⟩ v5).setCell ⟨rp,6,none⟩ v6).setCell ⟨re,0,none⟩ u0).setCell ⟨re,1,none⟩ u1):=by
 obtain⟨h7,b7⟩:=put7 W rp x0 x1 x2 x3 x4 x5 x6 v0 v1 v2 v3 v4 v5 v6 h;generalize (((((((W.setCell ⟨rp,0,none⟩ v0).setCell ⟨rp,1,none⟩ v1).setCell ⟨rp,2,none⟩ v2).setCell ⟨rp,3,none⟩ v3).setCell ⟨rp,4,none⟩ v4).setCell ⟨rp,5,none⟩ v5).setCell ⟨rp,6,none⟩ v6)=W1 at *;have he1:W1.heap[re]?=some (.cells #[y0,y1] 139 (0,0)):=by rw[b7.block _ (lt_of_block he) (Ne.symm hne)];exact he
 obtain⟨h2,b2⟩:=put2 W1 re _ y0 y1 u0 u1 he1;exact⟨by rw[b2.block _ (lt_of_block h7) hne];exact h7,h2,(b7.wide (fun _ _ q=>.inl q)).trans (b2.wide (fun _ _ q=>.inr q))⟩
theorem put9b(W:World)(rp re:Nat)(x0 x1 x2 x3 x4 x5 x6 y0 y1 v0 v1 v2 v3 v4 v5 v6 u0 u1:Value)(h:W.heap[rp]?=some (.cells #[x0,x1,x2,x3,x4,x5,x6] 60 (0,0)))(he:W.heap[re]?=some (.cells #[y0,y1] 139 (0,0)))(hne:rp≠re):
 (((((((((W.setCell ⟨re,0,none⟩ u0).setCell ⟨re,1,none⟩ u1).setCell ⟨rp,0,none⟩ v0).setCell ⟨rp,1,none⟩ v1).setCell ⟨rp,2,none⟩ v2).setCell ⟨rp,3,none⟩ v3).setCell ⟨rp,4,none⟩ v4).setCell ⟨rp,5,none⟩ v5).setCell ⟨rp,6,none⟩ v6).heap[rp]?=some (.cells #[v0,v1,v2,v3,v4,v5,v6] 60 (0,0))/\(((((((((W.setCell ⟨re,0,none⟩ u0).setCell ⟨re,1,none⟩ u1).setCell ⟨rp,0,none⟩ v0).setCell ⟨rp,1,none⟩ v1).setCell ⟨rp,2,none⟩ v2).setCell ⟨rp,3,none⟩ v3).setCell ⟨rp,4,none⟩ v4).setCell ⟨rp,5,none⟩ v5).setCell ⟨rp,6,none⟩ v6).heap[re]?=some (.cells #[u0,u1] 139 (0,0))/\But (fun g=>g=rp∨g=re) W (((((((((W.setCell ⟨re,0,none⟩ u0).setCell ⟨re,1,none⟩ u1).setCell ⟨rp,0,none⟩ v0).setCell ⟨rp,1,none⟩ v1).setCell ⟨rp,2,none⟩ v2).setCell ⟨rp,3,none⟩ v3).setCell ⟨rp,4,none⟩ v4).setCell ⟨rp,5,none⟩ v5).setCell ⟨rp,6,none⟩ v6):=by
 obtain⟨h2,b2⟩:=put2 W re _ y0 y1 u0 u1 he;generalize (W.setCell ⟨re,0,none⟩ u0).setCell ⟨re,1,none⟩ u1=W1 at *;have h1:W1.heap[rp]?=some (.cells #[x0,x1,x2,x3,x4,x5,x6] 60 (0,0)):=by rw[b2.block _ (lt_of_block h) hne];exact h
 obtain⟨h7,b7⟩:=put7 W1 rp x0 x1 x2 x3 x4 x5 x6 v0 v1 v2 v3 v4 v5 v6 h1;exact⟨h7,by rw[b7.block _ (lt_of_block h2) (Ne.symm hne)];exact h2,(b2.wide (fun _ _ q=>.inr q)).trans (b7.wide (fun _ _ q=>.inl q))⟩
structure RSt(w W:World)(K N S:Nat)(y0 y1 y2 y3 y4 y5 y6:Value):Prop where
 low:Below w.heap.size w W
 cfg:W.heap[w.heap.size]?=some (.cells #[.int .i64 K,.int .i64 N,.int .i64 S] 30 (0,0))
 pk:W.heap[w.heap.size+1]?=some (.cells #[y0,y1,y2,y3,y4,y5,y6] 60 (0,0))
 res:W.heap[w.heap.size+2]?=some (.cells #[.int .i64 0,.int .i64 0,.int .i64 0,.int .i64 0,.int .i64 0,.slice none 0 0,.slice none 0 0] 60 (0,0))
 err:W.heap[w.heap.size+3]?=some (.cells #[.int .i64 0,.int .i64 0] 139 (0,0))
theorem RSt.start(w:World)(K N S:Nat)(y0 y1 y2 y3 y4 y5 y6:Value):RSt w ((((w.alloc (.cells #[.int .i64 K,.int .i64 N,.int .i64 S] 30)).alloc (.cells #[y0,y1,y2,y3,y4,y5,y6] 60)).alloc (.cells #[.int .i64 0,.int .i64 0,.int .i64 0,.int .i64 0,.int .i64 0,.slice none 0 0,.slice none 0 0] 60)).alloc (.cells #[.int .i64 0,.int .i64 0] 139)) K N S y0 y1 y2 y3 y4 y5 y6:=by
 have e1:=heap_alloc_new (w.alloc (.cells #[.int .i64 K,.int .i64 N,.int .i64 S] 30)) (.cells #[y0,y1,y2,y3,y4,y5,y6] 60);have e2:=heap_alloc_new ((w.alloc (.cells #[.int .i64 K,.int .i64 N,.int .i64 S] 30)).alloc (.cells #[y0,y1,y2,y3,y4,y5,y6] 60)) (.cells #[.int .i64 0,.int .i64 0,.int .i64 0,.int .i64 0,.int .i64 0,.slice none 0 0,.slice none 0 0] 60);have e3:=heap_alloc_new (((w.alloc (.cells #[.int .i64 K,.int .i64 N,.int .i64 S] 30)).alloc (.cells #[y0,y1,y2,y3,y4,y5,y6] 60)).alloc (.cells #[.int .i64 0,.int .i64 0,.int .i64 0,.int .i64 0,.int .i64 0,.slice none 0 0,.slice none 0 0] 60)) (.cells #[.int .i64 0,.int .i64 0] 139);rw[World.size_alloc]at e1;rw[World.size_alloc,World.size_alloc]at e2;rw[World.size_alloc,World.size_alloc,World.size_alloc]at e3;refine⟨((((Below.refl _ _).alloc (Nat.le_refl _) _).alloc (by simp) _).alloc (by simp;omega) _).alloc (by simp;omega) _,?_,?_,?_,e3⟩
 ·rw[Below.heap_alloc _ _ _ (by simp<;>omega),Below.heap_alloc _ _ _ (by simp<;>omega),Below.heap_alloc _ _ _ (by simp)];exact heap_alloc_new w _
 ·rw[Below.heap_alloc _ _ _ (by simp<;>omega),Below.heap_alloc _ _ _ (by simp)];exact e1
 ·rw[Below.heap_alloc _ _ _ (by simp)];exact e2
theorem RSt.above{w W W':World}{K N S:Nat}{y0 y1 y2 y3 y4 y5 y6:Value}(h:RSt w W K N S y0 y1 y2 y3 y4 y5 y6)(hb:Below (w.heap.size+4) W W'):RSt w W' K N S y0 y1 y2 y3 y4 y5 y6:=
 ⟨h.low.trans (hb.mono (by omega)),by rw[hb.block _ (by omega)];exact h.cfg,by rw[hb.block _ (by omega)];exact h.pk,by rw[hb.block _ (by omega)];exact h.res,by rw[hb.block _ (by omega)];exact h.err⟩
theorem RSt.lt{w W:World}{K N S:Nat}{y0 y1 y2 y3 y4 y5 y6:Value}(h:RSt w W K N S y0 y1 y2 y3 y4 y5 y6):w.heap.size+4<=W.heap.size:=by have:=lt_of_block h.err;omega
theorem RSt.turn{w W W':World}{K N S:Nat}{y0 y1 y2 y3 y4 y5 y6 z0 z1 z2 z3 z4 z5 z6:Value}(h:RSt w W K N S y0 y1 y2 y3 y4 y5 y6)(hb:But (fun g=>g=w.heap.size+1) W W')(hp:W'.heap[w.heap.size+1]?=some (.cells #[z0,z1,z2,z3,z4,z5,z6] 60 (0,0))):RSt w W' K N S z0 z1 z2 z3 z4 z5 z6:=
 ⟨h.low.trans (hb.toBelow (by have:=h.low.size;omega) (fun k hk q=>by omega)),by rw[hb.block _ (lt_of_block h.cfg) (by omega)];exact h.cfg,hp,by rw[hb.block _ (lt_of_block h.res) (by omega)];exact h.res,by rw[hb.block _ (lt_of_block h.err) (by omega)];exact h.err⟩
theorem RSt.cfgs{w W:World}{K N S:Nat}{y0 y1 y2 y3 y4 y5 y6:Value}(h:RSt w W K N S y0 y1 y2 y3 y4 y5 y6):W.cell? ⟨w.heap.size,0,none⟩=some (.int .i64 K)/\W.cell? ⟨w.heap.size,1,none⟩=some (.int .i64 N)/\W.cell? ⟨w.heap.size,2,none⟩=some (.int .i64 S):=
 ⟨cell_of_row W _ 0 _ _ _ h.cfg,cell_of_row W _ 1 _ _ _ h.cfg,cell_of_row W _ 2 _ _ _ h.cfg⟩
section
variable {K N S T:Nat}{m:List Gf.F}
theorem dataB_0(h1:¬ m.length<1)(h:winB (bt m 0:Int) 0 ((partsN T K:Int) - 1)=false):dataB K N S T m=some (6,0):=by unfold dataB;rw[if_neg h1,if_pos h]
theorem dataB_1(h1:¬ m.length<1)(h:winB (bt m 0:Int) 0 ((partsN T K:Int) - 1)=true)(h2:m.length<2):dataB K N S T m=some (4,m.length):=by unfold dataB;rw[if_neg h1,if_neg (by rw[h];decide),if_pos h2]
theorem dataB_2(h1:¬ m.length<1)(h:winB (bt m 0:Int) 0 ((partsN T K:Int) - 1)=true)(h2:¬ m.length<2)(h3:plcN K N T (bt m 0) (bt m 1)=false):dataB K N S T m=some (6,1):=by unfold dataB;rw[if_neg h1,if_neg (by rw[h];decide),if_neg h2,if_pos h3]
theorem dataB_3(h1:¬ m.length<1)(h:winB (bt m 0:Int) 0 ((partsN T K:Int) - 1)=true)(h2:¬ m.length<2)(h3:plcN K N T (bt m 0) (bt m 1)=true)(h4:m.length<2+S):dataB K N S T m=some (4,m.length):=by unfold dataB;rw[if_neg h1,if_neg (by rw[h];decide),if_neg h2,if_neg (by rw[h3];decide),if_pos h4]
theorem dataB_4(h1:¬ m.length<1)(h:winB (bt m 0:Int) 0 ((partsN T K:Int) - 1)=true)(h2:¬ m.length<2)(h3:plcN K N T (bt m 0) (bt m 1)=true)(h4:¬ m.length<2+S)(h5:2+S<m.length):dataB K N S T m=some (7,2+S):=by unfold dataB;rw[if_neg h1,if_neg (by rw[h];decide),if_neg h2,if_neg (by rw[h3];decide),if_neg h4,if_pos h5]
theorem dataB_5(h1:¬ m.length<1)(h:winB (bt m 0:Int) 0 ((partsN T K:Int) - 1)=true)(h2:¬ m.length<2)(h3:plcN K N T (bt m 0) (bt m 1)=true)(h4:¬ m.length<2+S)(h5:¬ 2+S<m.length):dataB K N S T m=none:=by unfold dataB;rw[if_neg h1,if_neg (by rw[h];decide),if_neg h2,if_neg (by rw[h3];decide),if_neg h4,if_neg h5]
end
def RDGives(K N S T:Nat)(l:List Gf.F)(x0 x1 L:Nat)(w:World)(e:Ending)(w':World):Prop:=
 (match dataB K N S T (l.drop 4) with
 | some (c,k)=>e=.returned (.tuple #[.agg #[.int .i64 0,.int .i64 0,.int .i64 0,.int .i64 0,.int .i64 0,.slice none 0 0,.slice none 0 0],.agg #[.int .i64 c,.int .i64 ((k+4:Nat):Int)]])
 | none=>∃ a c1,e=.returned (.tuple #[.agg #[.int .i64 x0,.int .i64 x1,.int .i64 L,.int .i64 (bt (l.drop 4) 0:Int),.int .i64 (bt (l.drop 4) 1:Int),.slice a S c1,.slice none 0 0],.agg #[.int .i64 0,.int .i64 (-1)]])/\w'.ownsRow w.heap.size 5 1 (.slice a S c1) S (encL ((l.drop 4).drop 2)))/\Below w.heap.size w w'
theorem RDGives.bad{K N S T x0 x1 L c k:Nat}{kk:Int}{l:List Gf.F}{w w':World}(h:dataB K N S T (l.drop 4)=some (c,k))(hk:kk=((k+4:Nat):Int))(hb:Below w.heap.size w w'):
 RDGives K N S T l x0 x1 L w (.returned (.tuple #[.agg #[.int .i64 0,.int .i64 0,.int .i64 0,.int .i64 0,.int .i64 0,.slice none 0 0,.slice none 0 0],.agg #[.int .i64 c,.int .i64 kk]])) w':=by
 unfold RDGives;rw[h,hk];exact⟨rfl,hb⟩
theorem rdata_any(b o n c K N S L T x0 x1:Nat)(l:List Gf.F)(w:World)(hcfg:Cfg K N S)(hL:L<=65535)(hTe:T=symN S L)(hl:l.length=n)(hn:n<=c)(hn2:n<=140737488355328)(hn5:5<=n)(hB:Bs w b o l)(hbl:b<w.heap.size):
 Calls Tryz.prog 146 #[.agg #[.int .i64 K,.int .i64 N,.int .i64 S],.slice (some ⟨b,o,none⟩) n c,.agg #[.int .i64 x0,.int .i64 x1,.int .i64 L,.int .i64 0,.int .i64 0,.slice none 0 0,.slice none 0 0]] w (RDGives K N S T l x0 x1 L w):=by
 have HCF:Hid (Cfg K N S):=hcfg;have hs8:=hcfg.s8;have hs1:=hcfg.s1;have HK1:Hid (1<=K):=hcfg.k1;have HKN:Hid (K<=N):=hcfg.kn;clear hcfg;have hm:(l.drop 4).length=n - 4:=by simp[hl]
 have hb40:bt l 4=bt (l.drop 4) 0:=by simp[bt,at_,List.getD]
 have hb41:bt l 5=bt (l.drop 4) 1:=by simp[bt,at_,List.getD]
 obtain⟨P4,hP4⟩:∃ P4,P4=bt (l.drop 4) 0:=⟨_,rfl⟩;obtain⟨P5,hP5⟩:∃ P5,P5=bt (l.drop 4) 1:=⟨_,rfl⟩;have h256:=bt_lt (l.drop 4) 0;have h256b:=bt_lt (l.drop 4) 1;rw[<- hP4]at h256;rw[<- hP5]at h256b;have HP4:Hid (P4=bt (l.drop 4) 0):=hP4;have HP5:Hid (P5=bt (l.drop 4) 1):=hP5;have HTE:Hid (T=symN S L):=hTe;have hTr:=symN_range (S:=S) (len:=L) hs1;rw[<- hTe]at hTr;have hst:=RSt.start w K N S (.int .i64 x0) (.int .i64 x1) (.int .i64 L) (.int .i64 0) (.int .i64 0) (.slice none 0 0) (.slice none 0 0);have hin:∀ {W:World},Below w.heap.size w W->∀ i,i<n->W.cell? ⟨b,o+i,none⟩=some (.int .u8 (bt l i:Int)):=fun hb i hi=>by rw[hb.cell (p:=⟨b,o+i,none⟩) hbl];exact hB i (by omega)
 have HIN:Hid (∀ {W:World},Below w.heap.size w W->∀ i,i<n->W.cell? ⟨b,o+i,none⟩=some (.int .u8 (bt l i:Int))):=hin;have HB40:Hid (bt l 4=bt (l.drop 4) 0):=hb40;have HB41:Hid (bt l 5=bt (l.drop 4) 1):=hb41;clear hin hTe hP4 hP5 hb40 hb41;go_enter Tryz.func146,Tryz.ntmps146;go_upto_region 1 with fail;generalize ((((w.alloc (.cells #[.int .i64 K,.int .i64 N,.int .i64 S] 30)).alloc (.cells #[.int .i64 x0,.int .i64 x1,.int .i64 L,.int .i64 0,.int .i64 0,.slice none 0 0,.slice none 0 0] 60)).alloc (.cells #[.int .i64 0,.int .i64 0,.int .i64 0,.int .i64 0,.int .i64 0,.slice none 0 0,.slice none 0 0] 60)).alloc (.cells #[.int .i64 0,.int .i64 0] 139))=W at *;have i4:W.cell? ⟨b,o+4,none⟩=some (.int .u8 (P4:Int)):=by rw[HP4.out,<- HB40.out];exact HIN.out hst.low 4 (by omega)
 have q3:W.cell? ⟨w.heap.size+1,3,none⟩=some (.int .i64 0):=cell_of_row W _ 3 _ _ _ hst.pk;have qf3:=frozen_of_row W _ 3 _ _ hst.pk;have hst2:=hst.turn (But.setCell (S:=fun g=>g=w.heap.size+1) (But.refl _ W) (p:=⟨w.heap.size+1,3,none⟩) (.inl rfl) (.int .i64 P4)) (heap_setCell_same _ _ 3 _ _ _ hst.pk);go_upto_region 2 with fail;generalize W.setCell ⟨w.heap.size+1,3,none⟩ (.int .i64 P4)=W2 at hst2 ⊢;rw[show w.heap.size+1+1+1=w.heap.size+3 from rfl,show w.heap.size+1+1=w.heap.size+2 from rfl];clear i4 q3 qf3 hst;have hst2':RSt w W2 K N S (.int .i64 x0) (.int .i64 x1) (.int .i64 L) (.int .i64 P4) (.int .i64 0) (.slice none 0 0) (.slice none 0 0):=hst2;obtain⟨k0,k1,k2⟩:=hst2.cfgs;have q2:W2.cell? ⟨w.heap.size+1,2,none⟩=some (.int .i64 L):=cell_of_row W2 _ 2 _ _ _ hst2.pk;have q3:W2.cell? ⟨w.heap.size+1,3,none⟩=some (.int .i64 P4):=cell_of_row W2 _ 3 _ _ _ hst2.pk;have hlt2:=hst2.lt;obtain⟨Bn,hBn⟩:∃ Bn,Bn=partsN T K:=⟨_,rfl⟩;have HBN:Hid (Bn=partsN T K):=hBn;have hBl:Bn<=70000:=by rw[hBn];have:=partsN_le (a:=T) HK1.out;omega
 have hblk:∀ W,Calls Tryz.prog 94 #[.agg #[.int .i64 K,.int .i64 N,.int .i64 S],.int .i64 L] W fun e w'=>e=.returned (.int .i64 Bn)/\Below W.heap.size W w':=fun W=>by rw[hBn,HTE.out];exact rblocks_any K N S L HCF.out hL W
 clear hBn
 go_cut[21] (fun t wx=>t=.bool (decide (Bn<=P4))/\RSt w wx K N S (.int .i64 x0) (.int .i64 x1) (.int .i64 L) (.int .i64 P4) (.int .i64 0) (.slice none 0 0) (.slice none 0 0))
 case first=>
  go_region_with (go_at_call 94;refine(hblk _).mono ?_;rintro e W3 ⟨rfl,hb3⟩;have hst3:=hst2'.above ((Below.undrew hb3).mono hlt2);have p3:W3.cell? ⟨w.heap.size+1,3,none⟩=some (.int .i64 P4):=(row7 hst3.pk).2.2.2.1)
  all_goals (go_wp2_with fail;go_meet;exact⟨rfl,hst3⟩)
 case rest=>
  obtain⟨rfl,hst3⟩:=hcut;clear hst2 hst2' k0 k1 k2 q2 q3 hblk;obtain⟨W3,rfl⟩:∃ x,x=wc:=⟨wc,rfl⟩;have hlt3:=hst3.lt;by_cases hq0:Bn<=P4
  ·have hq0':(Bn:Int)<=(P4:Int):=by omega
   obtain⟨c0,c1,c2,c3,c4,c5,c6⟩:=row7 hst3.res;have e0:W3.cell? ⟨w.heap.size+3,0,none⟩=some (.int .i64 0):=cell_of_row W3 _ 0 _ _ _ hst3.err;have e1:W3.cell? ⟨w.heap.size+3,1,none⟩=some (.int .i64 0):=cell_of_row W3 _ 1 _ _ _ hst3.err;have f0:=frozen_of_row W3 _ 0 _ _ hst3.res;have f1:=frozen_of_row W3 _ 1 _ _ hst3.res;have f2:=frozen_of_row W3 _ 2 _ _ hst3.res;have f3:=frozen_of_row W3 _ 3 _ _ hst3.res;have f4:=frozen_of_row W3 _ 4 _ _ hst3.res;have f5:=frozen_of_row W3 _ 5 _ _ hst3.res;have f6:=frozen_of_row W3 _ 6 _ _ hst3.res;have g0:=frozen_of_row W3 _ 0 _ _ hst3.err;have g1:=frozen_of_row W3 _ 1 _ _ hst3.err;have hne9:¬ w.heap.size+2=w.heap.size+3:=by omega
   have hp:=put9 W3 (w.heap.size+2) (w.heap.size+3) (.int .i64 0) (.int .i64 0) (.int .i64 0) (.int .i64 0) (.int .i64 0) (.slice none 0 0) (.slice none 0 0) (.int .i64 0) (.int .i64 0) (.int .i64 0) (.int .i64 0) (.int .i64 0) (.int .i64 0) (.int .i64 0) (.slice none 0 0) (.slice none 0 0) (.int .i64 6) (.int .i64 4) hst3.res hst3.err (by omega);go_wp2_with fail;generalize (((((((((W3.setCell ⟨w.heap.size+2,0,none⟩ (.int .i64 0)).setCell ⟨w.heap.size+2,1,none⟩ (.int .i64 0)).setCell ⟨w.heap.size+2,2,none⟩ (.int .i64 0)).setCell ⟨w.heap.size+2,3,none⟩ (.int .i64 0)).setCell ⟨w.heap.size+2,4,none⟩ (.int .i64 0)).setCell ⟨w.heap.size+2,5,none⟩ (.slice none 0 0)).setCell ⟨w.heap.size+2,6,none⟩ (.slice none 0 0)).setCell ⟨w.heap.size+3,0,none⟩ (.int .i64 6)).setCell ⟨w.heap.size+3,1,none⟩ (.int .i64 4))=W9 at hp ⊢;obtain⟨hp1,hp2,hp3⟩:=hp;obtain⟨d0,d1,d2,d3,d4,d5,d6⟩:=row7 (show W9.heap[w.heap.size+2]?=_ from hp1);have d7:W9.cell? ⟨w.heap.size+3,0,none⟩=some (.int .i64 6):=cell_of_row _ _ 0 _ _ _ (show W9.heap[w.heap.size+3]?=_ from hp2);have d8:W9.cell? ⟨w.heap.size+3,1,none⟩=some (.int .i64 4):=cell_of_row _ _ 1 _ _ _ (show W9.heap[w.heap.size+3]?=_ from hp2);clear c0 c1 c2 c3 c4 c5 c6 f0 f1 f2 f3 f4 f5 f6 g0 g1 e0 e1;exact bodyPost_ret (v:=.tuple #[.agg #[.int .i64 0,.int .i64 0,.int .i64 0,.int .i64 0,.int .i64 0,.slice none 0 0,.slice none 0 0],.agg #[.int .i64 6,.int .i64 4]]) (by simp[results,Tryz.results146,go_sem,d0,d1,d2,d3,d4,d5,d6,d7,d8]) rfl (RDGives.bad (c:=6) (k:=0) (dataB_0 (by rw[hm];omega) (winB_no (by rw[<- HBN.out,<- HP4.out];omega))) rfl (hst3.low.trans (hp3.toBelow (by have:=hst3.low.size;omega) (fun k hk q=>by omega))))
  ·have hq0':¬(Bn:Int)<=(P4:Int):=by omega
   have hwin:winB (bt (l.drop 4) 0:Int) 0 ((partsN T K:Int) - 1)=true:=winB_iff.2 ⟨by omega,by rw[<- HBN.out,<- HP4.out];omega⟩;have HWIN:Hid (winB (bt (l.drop 4) 0:Int) 0 ((partsN T K:Int) - 1)=true):=hwin;have hbK:P4*K<T:=by rw[HP4.out];exact partsN_mul HK1.out (by rw[<- HBN.out,<- HP4.out];omega)
   clear hwin;by_cases hq1:n<6
   ·have hq1':(n:Int)<6:=by omega
    obtain⟨c0,c1,c2,c3,c4,c5,c6⟩:=row7 hst3.res;have e0:W3.cell? ⟨w.heap.size+3,0,none⟩=some (.int .i64 0):=cell_of_row W3 _ 0 _ _ _ hst3.err;have e1:W3.cell? ⟨w.heap.size+3,1,none⟩=some (.int .i64 0):=cell_of_row W3 _ 1 _ _ _ hst3.err;have f0:=frozen_of_row W3 _ 0 _ _ hst3.res;have f1:=frozen_of_row W3 _ 1 _ _ hst3.res;have f2:=frozen_of_row W3 _ 2 _ _ hst3.res;have f3:=frozen_of_row W3 _ 3 _ _ hst3.res;have f4:=frozen_of_row W3 _ 4 _ _ hst3.res;have f5:=frozen_of_row W3 _ 5 _ _ hst3.res;have f6:=frozen_of_row W3 _ 6 _ _ hst3.res;have g0:=frozen_of_row W3 _ 0 _ _ hst3.err;have g1:=frozen_of_row W3 _ 1 _ _ hst3.err;have hne9:¬ w.heap.size+2=w.heap.size+3:=by omega
    have hp:=put9 W3 (w.heap.size+2) (w.heap.size+3) (.int .i64 0) (.int .i64 0) (.int .i64 0) (.int .i64 0) (.int .i64 0) (.slice none 0 0) (.slice none 0 0) (.int .i64 0) (.int .i64 0) (.int .i64 0) (.int .i64 0) (.int .i64 0) (.int .i64 0) (.int .i64 0) (.slice none 0 0) (.slice none 0 0) (.int .i64 4) (.int .i64 n) hst3.res hst3.err (by omega);go_wp2_with fail;generalize (((((((((W3.setCell ⟨w.heap.size+2,0,none⟩ (.int .i64 0)).setCell ⟨w.heap.size+2,1,none⟩ (.int .i64 0)).setCell ⟨w.heap.size+2,2,none⟩ (.int .i64 0)).setCell ⟨w.heap.size+2,3,none⟩ (.int .i64 0)).setCell ⟨w.heap.size+2,4,none⟩ (.int .i64 0)).setCell ⟨w.heap.size+2,5,none⟩ (.slice none 0 0)).setCell ⟨w.heap.size+2,6,none⟩ (.slice none 0 0)).setCell ⟨w.heap.size+3,0,none⟩ (.int .i64 4)).setCell ⟨w.heap.size+3,1,none⟩ (.int .i64 n))=W9 at hp ⊢;obtain⟨hp1,hp2,hp3⟩:=hp;obtain⟨d0,d1,d2,d3,d4,d5,d6⟩:=row7 (show W9.heap[w.heap.size+2]?=_ from hp1);have d7:W9.cell? ⟨w.heap.size+3,0,none⟩=some (.int .i64 4):=cell_of_row _ _ 0 _ _ _ (show W9.heap[w.heap.size+3]?=_ from hp2);have d8:W9.cell? ⟨w.heap.size+3,1,none⟩=some (.int .i64 n):=cell_of_row _ _ 1 _ _ _ (show W9.heap[w.heap.size+3]?=_ from hp2);clear c0 c1 c2 c3 c4 c5 c6 f0 f1 f2 f3 f4 f5 f6 g0 g1 e0 e1;exact bodyPost_ret (v:=.tuple #[.agg #[.int .i64 0,.int .i64 0,.int .i64 0,.int .i64 0,.int .i64 0,.slice none 0 0,.slice none 0 0],.agg #[.int .i64 4,.int .i64 n]]) (by simp[results,Tryz.results146,go_sem,d0,d1,d2,d3,d4,d5,d6,d7,d8]) rfl (RDGives.bad (c:=4) (k:=(l.drop 4).length) (dataB_1 (by rw[hm];omega) HWIN.out (by rw[hm];omega)) (by rw[hm];omega) (hst3.low.trans (hp3.toBelow (by have:=hst3.low.size;omega) (fun k hk q=>by omega))))
   ·have hq1':¬(n:Int)<6:=by omega
    have i5:W3.cell? ⟨b,o+5,none⟩=some (.int .u8 (P5:Int)):=by rw[HP5.out,<- HB41.out];exact HIN.out hst3.low 5 (by omega)
    have q4:W3.cell? ⟨w.heap.size+1,4,none⟩=some (.int .i64 0):=(row7 hst3.pk).2.2.2.2.1;have qf4:=frozen_of_row W3 _ 4 _ _ hst3.pk;have hst4:RSt w (W3.setCell ⟨w.heap.size+1,4,none⟩ (.int .i64 P5)) K N S (.int .i64 x0) (.int .i64 x1) (.int .i64 L) (.int .i64 P4) (.int .i64 P5) (.slice none 0 0) (.slice none 0 0):=hst3.turn (But.setCell (S:=fun g=>g=w.heap.size+1) (But.refl _ W3) (p:=⟨w.heap.size+1,4,none⟩) (.inl rfl) (.int .i64 P5)) (heap_setCell_same _ _ 4 _ _ _ hst3.pk);go_upto_region 7 with fail;generalize W3.setCell ⟨w.heap.size+1,4,none⟩ (.int .i64 P5)=W4 at hst4 ⊢;clear i5 q4 qf4 hst3;obtain⟨k0,k1,k2⟩:=hst4.cfgs;obtain⟨y0,y1,y2,y3,y4,y5,y6⟩:=row7 hst4.pk;have hlt4:=hst4.lt;go_wp2_with fail;refine(order_any K N S L P4 HCF.out hL (by rw[<- HTE.out];exact hbK) W4).mono ?_;rintro e W5 ⟨og,oc,rfl,hZ,hb5⟩;rw[<- HTE.out]at hZ ⊢;have hst5:=hst4.above (hb5.mono hlt4);have hhas:=has_any og oc (N - K+srcN K T P4) (ordL K N (srcN K T P4)) (P5:Int) W5 (ordL_length ..) (by have:=HCF.out.n16;have:srcN K T P4<=8:=by {unfold srcN;have:=HCF.out.k8;omega};omega) hZ;rw[ordL_has K N (srcN K T P4) P5 HKN.out]at hhas;have HPL:Hid (plcN K N T P4 P5=decide (P5<srcN K T P4∨(K<=P5/\P5<N))):=rfl;rw[<- HPL.out]at hhas;clear k0 k1 k2 y0 y1 y2 y3 y4 y5 y6 hst4 hZ;have y4:W5.cell? ⟨w.heap.size+1,4,none⟩=some (.int .i64 P5):=(row7 hst5.pk).2.2.2.2.1;go_wp2_with fail;refine hhas.mono ?_;rintro e W5' ⟨rfl,hW5⟩;rw[hW5];clear hW5 W5';have hlt5:=hst5.lt;clear hhas y4;cases hk1:plcN K N T P4 P5
    ·skip
     obtain⟨c0,c1,c2,c3,c4,c5,c6⟩:=row7 hst5.res;have e0:W5.cell? ⟨w.heap.size+3,0,none⟩=some (.int .i64 0):=cell_of_row W5 _ 0 _ _ _ hst5.err;have e1:W5.cell? ⟨w.heap.size+3,1,none⟩=some (.int .i64 0):=cell_of_row W5 _ 1 _ _ _ hst5.err;have f0:=frozen_of_row W5 _ 0 _ _ hst5.res;have f1:=frozen_of_row W5 _ 1 _ _ hst5.res;have f2:=frozen_of_row W5 _ 2 _ _ hst5.res;have f3:=frozen_of_row W5 _ 3 _ _ hst5.res;have f4:=frozen_of_row W5 _ 4 _ _ hst5.res;have f5:=frozen_of_row W5 _ 5 _ _ hst5.res;have f6:=frozen_of_row W5 _ 6 _ _ hst5.res;have g0:=frozen_of_row W5 _ 0 _ _ hst5.err;have g1:=frozen_of_row W5 _ 1 _ _ hst5.err;have hne9:¬ w.heap.size+2=w.heap.size+3:=by omega
     have hp:=put9 W5 (w.heap.size+2) (w.heap.size+3) (.int .i64 0) (.int .i64 0) (.int .i64 0) (.int .i64 0) (.int .i64 0) (.slice none 0 0) (.slice none 0 0) (.int .i64 0) (.int .i64 0) (.int .i64 0) (.int .i64 0) (.int .i64 0) (.int .i64 0) (.int .i64 0) (.slice none 0 0) (.slice none 0 0) (.int .i64 6) (.int .i64 5) hst5.res hst5.err (by omega);go_wp2_with fail;generalize (((((((((W5.setCell ⟨w.heap.size+2,0,none⟩ (.int .i64 0)).setCell ⟨w.heap.size+2,1,none⟩ (.int .i64 0)).setCell ⟨w.heap.size+2,2,none⟩ (.int .i64 0)).setCell ⟨w.heap.size+2,3,none⟩ (.int .i64 0)).setCell ⟨w.heap.size+2,4,none⟩ (.int .i64 0)).setCell ⟨w.heap.size+2,5,none⟩ (.slice none 0 0)).setCell ⟨w.heap.size+2,6,none⟩ (.slice none 0 0)).setCell ⟨w.heap.size+3,0,none⟩ (.int .i64 6)).setCell ⟨w.heap.size+3,1,none⟩ (.int .i64 5))=W9 at hp ⊢;obtain⟨hp1,hp2,hp3⟩:=hp;obtain⟨d0,d1,d2,d3,d4,d5,d6⟩:=row7 (show W9.heap[w.heap.size+2]?=_ from hp1);have d7:W9.cell? ⟨w.heap.size+3,0,none⟩=some (.int .i64 6):=cell_of_row _ _ 0 _ _ _ (show W9.heap[w.heap.size+3]?=_ from hp2);have d8:W9.cell? ⟨w.heap.size+3,1,none⟩=some (.int .i64 5):=cell_of_row _ _ 1 _ _ _ (show W9.heap[w.heap.size+3]?=_ from hp2);clear c0 c1 c2 c3 c4 c5 c6 f0 f1 f2 f3 f4 f5 f6 g0 g1 e0 e1;exact bodyPost_ret (v:=.tuple #[.agg #[.int .i64 0,.int .i64 0,.int .i64 0,.int .i64 0,.int .i64 0,.slice none 0 0,.slice none 0 0],.agg #[.int .i64 6,.int .i64 5]]) (by simp[results,Tryz.results146,go_sem,d0,d1,d2,d3,d4,d5,d6,d7,d8]) rfl (RDGives.bad (c:=6) (k:=1) (dataB_2 (by rw[hm];omega) HWIN.out (by rw[hm];omega) (by rw[<- HP4.out,<- HP5.out];exact hk1)) rfl (hst5.low.trans (hp3.toBelow (by have:=hst5.low.size;omega) (fun k hk q=>by omega))))
    ·have HPLC:Hid (plcN K N T (bt (l.drop 4) 0) (bt (l.drop 4) 1)=true):=by show _=_;rw[<- HP4.out,<- HP5.out];exact hk1
     obtain⟨k0,k1,k2⟩:=hst5.cfgs;by_cases hq2:n<6+S
     ·have hq2':(n:Int)<6+(S:Int):=by omega
      obtain⟨c0,c1,c2,c3,c4,c5,c6⟩:=row7 hst5.res;have e0:W5.cell? ⟨w.heap.size+3,0,none⟩=some (.int .i64 0):=cell_of_row W5 _ 0 _ _ _ hst5.err;have e1:W5.cell? ⟨w.heap.size+3,1,none⟩=some (.int .i64 0):=cell_of_row W5 _ 1 _ _ _ hst5.err;have f0:=frozen_of_row W5 _ 0 _ _ hst5.res;have f1:=frozen_of_row W5 _ 1 _ _ hst5.res;have f2:=frozen_of_row W5 _ 2 _ _ hst5.res;have f3:=frozen_of_row W5 _ 3 _ _ hst5.res;have f4:=frozen_of_row W5 _ 4 _ _ hst5.res;have f5:=frozen_of_row W5 _ 5 _ _ hst5.res;have f6:=frozen_of_row W5 _ 6 _ _ hst5.res;have g0:=frozen_of_row W5 _ 0 _ _ hst5.err;have g1:=frozen_of_row W5 _ 1 _ _ hst5.err;have hne9:¬ w.heap.size+2=w.heap.size+3:=by omega
      have hp:=put9 W5 (w.heap.size+2) (w.heap.size+3) (.int .i64 0) (.int .i64 0) (.int .i64 0) (.int .i64 0) (.int .i64 0) (.slice none 0 0) (.slice none 0 0) (.int .i64 0) (.int .i64 0) (.int .i64 0) (.int .i64 0) (.int .i64 0) (.int .i64 0) (.int .i64 0) (.slice none 0 0) (.slice none 0 0) (.int .i64 4) (.int .i64 n) hst5.res hst5.err (by omega);go_wp2_with fail;generalize (((((((((W5.setCell ⟨w.heap.size+2,0,none⟩ (.int .i64 0)).setCell ⟨w.heap.size+2,1,none⟩ (.int .i64 0)).setCell ⟨w.heap.size+2,2,none⟩ (.int .i64 0)).setCell ⟨w.heap.size+2,3,none⟩ (.int .i64 0)).setCell ⟨w.heap.size+2,4,none⟩ (.int .i64 0)).setCell ⟨w.heap.size+2,5,none⟩ (.slice none 0 0)).setCell ⟨w.heap.size+2,6,none⟩ (.slice none 0 0)).setCell ⟨w.heap.size+3,0,none⟩ (.int .i64 4)).setCell ⟨w.heap.size+3,1,none⟩ (.int .i64 n))=W9 at hp ⊢;obtain⟨hp1,hp2,hp3⟩:=hp;obtain⟨d0,d1,d2,d3,d4,d5,d6⟩:=row7 (show W9.heap[w.heap.size+2]?=_ from hp1);have d7:W9.cell? ⟨w.heap.size+3,0,none⟩=some (.int .i64 4):=cell_of_row _ _ 0 _ _ _ (show W9.heap[w.heap.size+3]?=_ from hp2);have d8:W9.cell? ⟨w.heap.size+3,1,none⟩=some (.int .i64 n):=cell_of_row _ _ 1 _ _ _ (show W9.heap[w.heap.size+3]?=_ from hp2);clear c0 c1 c2 c3 c4 c5 c6 f0 f1 f2 f3 f4 f5 f6 g0 g1 e0 e1;exact bodyPost_ret (v:=.tuple #[.agg #[.int .i64 0,.int .i64 0,.int .i64 0,.int .i64 0,.int .i64 0,.slice none 0 0,.slice none 0 0],.agg #[.int .i64 4,.int .i64 n]]) (by simp[results,Tryz.results146,go_sem,d0,d1,d2,d3,d4,d5,d6,d7,d8]) rfl (RDGives.bad (c:=4) (k:=(l.drop 4).length) (dataB_3 (by rw[hm];omega) HWIN.out (by rw[hm];omega) HPLC.out (by rw[hm];omega)) (by rw[hm];omega) (hst5.low.trans (hp3.toBelow (by have:=hst5.low.size;omega) (fun k hk q=>by omega))))
     ·have hq2':¬(n:Int)<6+(S:Int):=by omega
      by_cases hq3:6+S<n
      ·have hq3':(n:Int) > 6+(S:Int):=by omega
       have hpk:w.heap.size≠w.heap.size+2:=by omega
       have hpk2:w.heap.size≠w.heap.size+3:=by omega
       obtain⟨c0,c1,c2,c3,c4,c5,c6⟩:=row7 hst5.res;have e0:W5.cell? ⟨w.heap.size+3,0,none⟩=some (.int .i64 0):=cell_of_row W5 _ 0 _ _ _ hst5.err;have e1:W5.cell? ⟨w.heap.size+3,1,none⟩=some (.int .i64 0):=cell_of_row W5 _ 1 _ _ _ hst5.err;have f0:=frozen_of_row W5 _ 0 _ _ hst5.res;have f1:=frozen_of_row W5 _ 1 _ _ hst5.res;have f2:=frozen_of_row W5 _ 2 _ _ hst5.res;have f3:=frozen_of_row W5 _ 3 _ _ hst5.res;have f4:=frozen_of_row W5 _ 4 _ _ hst5.res;have f5:=frozen_of_row W5 _ 5 _ _ hst5.res;have f6:=frozen_of_row W5 _ 6 _ _ hst5.res;have g0:=frozen_of_row W5 _ 0 _ _ hst5.err;have g1:=frozen_of_row W5 _ 1 _ _ hst5.err;have hne9:¬ w.heap.size+2=w.heap.size+3:=by omega
       have hp:=put9 W5 (w.heap.size+2) (w.heap.size+3) (.int .i64 0) (.int .i64 0) (.int .i64 0) (.int .i64 0) (.int .i64 0) (.slice none 0 0) (.slice none 0 0) (.int .i64 0) (.int .i64 0) (.int .i64 0) (.int .i64 0) (.int .i64 0) (.int .i64 0) (.int .i64 0) (.slice none 0 0) (.slice none 0 0) (.int .i64 7) (.int .i64 (6+(S:Int))) hst5.res hst5.err (by omega);have hq:=put9b W5 (w.heap.size+2) (w.heap.size+3) (.int .i64 0) (.int .i64 0) (.int .i64 0) (.int .i64 0) (.int .i64 0) (.slice none 0 0) (.slice none 0 0) (.int .i64 0) (.int .i64 0) (.int .i64 0) (.int .i64 0) (.int .i64 0) (.int .i64 0) (.int .i64 0) (.slice none 0 0) (.slice none 0 0) (.int .i64 7) (.int .i64 (6+(S:Int))) hst5.res hst5.err (by omega);go_wp2_with fail
       go_region
       all_goals
        first
         | generalize (((((((((W5.setCell ⟨w.heap.size+2,0,none⟩ (.int .i64 0)).setCell ⟨w.heap.size+2,1,none⟩ (.int .i64 0)).setCell ⟨w.heap.size+2,2,none⟩ (.int .i64 0)).setCell ⟨w.heap.size+2,3,none⟩ (.int .i64 0)).setCell ⟨w.heap.size+2,4,none⟩ (.int .i64 0)).setCell ⟨w.heap.size+2,5,none⟩ (.slice none 0 0)).setCell ⟨w.heap.size+2,6,none⟩ (.slice none 0 0)).setCell ⟨w.heap.size+3,0,none⟩ (.int .i64 7)).setCell ⟨w.heap.size+3,1,none⟩ (.int .i64 (6+(S:Int))))=W9 at hp ⊢
         | (replace hp:=hq;generalize (((((((((W5.setCell ⟨w.heap.size+3,0,none⟩ (.int .i64 7)).setCell ⟨w.heap.size+3,1,none⟩ (.int .i64 (6+(S:Int)))).setCell ⟨w.heap.size+2,0,none⟩ (.int .i64 0)).setCell ⟨w.heap.size+2,1,none⟩ (.int .i64 0)).setCell ⟨w.heap.size+2,2,none⟩ (.int .i64 0)).setCell ⟨w.heap.size+2,3,none⟩ (.int .i64 0)).setCell ⟨w.heap.size+2,4,none⟩ (.int .i64 0)).setCell ⟨w.heap.size+2,5,none⟩ (.slice none 0 0)).setCell ⟨w.heap.size+2,6,none⟩ (.slice none 0 0))=W9 at hp ⊢)
        clear hq;obtain⟨hp1,hp2,hp3⟩:=hp;obtain⟨d0,d1,d2,d3,d4,d5,d6⟩:=row7 (show W9.drew.heap[w.heap.size+2]?=_ from hp1);have d7:W9.drew.cell? ⟨w.heap.size+3,0,none⟩=some (.int .i64 7):=cell_of_row _ _ 0 _ _ _ (show W9.drew.heap[w.heap.size+3]?=_ from hp2);have d8:W9.drew.cell? ⟨w.heap.size+3,1,none⟩=some (.int .i64 (6+(S:Int))):=cell_of_row _ _ 1 _ _ _ (show W9.drew.heap[w.heap.size+3]?=_ from hp2);clear c0 c1 c2 c3 c4 c5 c6 f0 f1 f2 f3 f4 f5 f6 g0 g1 e0 e1;have hp4:But (fun g=>g=w.heap.size+2∨g=w.heap.size+3) W5 W9.drew:=hp3.drew
        replace hp3:=hp4
        clear hp4 hp1 hp2;generalize W9.drew=W10 at *;go_wp2_with fail;exact bodyPost_ret (v:=.tuple #[.agg #[.int .i64 0,.int .i64 0,.int .i64 0,.int .i64 0,.int .i64 0,.slice none 0 0,.slice none 0 0],.agg #[.int .i64 7,.int .i64 (6+(S:Int))]]) (by simp[results,Tryz.results146,go_sem,d0,d1,d2,d3,d4,d5,d6,d7,d8]) rfl (RDGives.bad (c:=7) (k:=2+S) (dataB_4 (by rw[hm];omega) HWIN.out (by rw[hm];omega) HPLC.out (by rw[hm];omega) (by rw[hm];omega)) (by omega) (hst5.low.trans (hp3.toBelow (by have:=hst5.low.size;omega) (fun k hk q=>by omega))))
      ·have hq3':¬(n:Int) > 6+(S:Int):=by omega
       obtain rfl:n=6+S:=by omega
       obtain⟨y0,y1,y2,y3,y4,y5,y6⟩:=row7 hst5.pk;have qf5:=frozen_of_row W5 _ 5 _ _ hst5.pk;have hc6:¬ c=6:=by omega
       have hc62:¬ c - 6=0:=by omega
       obtain⟨iU,hiU,hiU0,hiU1,hiU2⟩:=Tryz.u8_parts
       have h6:Bs W5 b (o+6) (l.drop 6):=fun i hi=>by
        have h1:=hB (6+i) (by rw[hl];simp[hl]at hi;omega);rw[hst5.low.cell (p:=⟨b,o+6+i,none⟩) hbl,show o+6+i=o+(6+i) by omega,h1];simp[at_,List.getD]
       have HNW:Hid (∀ j v,(encL (l.drop 6))[j]?=some v->W5.drew.cell? ((⟨b,o+6,none⟩:Addr).add j)=some v):=fun j v hj=>h6.cells_at j v hj
       have HE1:Hid (∀ u ∈ encL (l.drop 6),u.oneCell'=true):=encL_one _;have HLE:Hid ((encL (l.drop 6)).length=S*1):=by show _=_;simp[encL,hl]
       have HOW:Hid (W5.drew.ownsRow (w.heap.size+4) 5 1 (.slice none 0 0) 0 []):=World.ownsRow_nil ..;have HSZ:Hid (w.heap.size+4<=W5.drew.heap.size):=hlt5;have HM1:Hid (0+S<=maxLen):=by unfold maxLen;show _<=_;omega
       have HSEE:Hid (∀ w6,W5.drew.grownBy w6 (Value.slice none 0 0).ownBlock->RSt w w6 K N S (.int .i64 x0) (.int .i64 x1) (.int .i64 L) (.int .i64 P4) (.int .i64 P5) (.slice none 0 0) (.slice none 0 0)):=fun w6 hg=>hst5.above (Below.undrew ((Below.refl _ W5.drew).grown hg (show w.heap.size+4<=W5.drew.heap.size from hlt5) (fun k hk=>by simp[Value.ownBlock]at hk)))
       have HM2:Hid (((0+S)+(0+S)/4+192)*1<=281474976710656):=by show _<=_;omega
       have HM3:Hid ((0+S)*1<=140737488355328):=by show _<=_;omega
       have h66:(6:Int)<=6+(S:Int):=by omega
       go_upto_region 15 with fail
       go_cut[] (fun wx=>∃ a c1,RSt w wx K N S (.int .i64 x0) (.int .i64 x1) (.int .i64 L) (.int .i64 P4) (.int .i64 P5) (.slice a S c1) (.slice none 0 0)/\wx.ownsRow (w.heap.size+4) 5 1 (.slice a S c1) S (encL (l.drop 6)))
       case first=>
        go_region_law ((refine step_append_apart (by rfl) _ _ _ (by rfl) (w.heap.size+4) 5 iU (.int .u8 0) 1 1 Tryz.underlying33 hiU hiU0 hiU1 hiU2 rfl Nat.one_pos (.slice none 0 0) 0 [] (by rfl) HOW.out ⟨b,o+6,none⟩ S (c - 6) (encL (l.drop 6)) (by rfl) HLE.out HNW.out HE1.out hs1 HM1.out HM2.out HM3.out HSZ.out ?_;intro g6 cap6 w6 hown6 hgr6 hlie6 hlt6;have hs6:=HSEE.out _ hgr6;have r5:w6.cell? ⟨w.heap.size+1,5,none⟩=some (.slice none 0 0):=(row7 hs6.pk).2.2.2.2.2.1;have rf5:=frozen_of_row w6 _ 5 _ _ hs6.pk))
        all_goals
         have hs7:=hs6.turn (But.setCell (S:=fun g=>g=w.heap.size+1) (But.refl _ w6) (p:=⟨w.heap.size+1,5,none⟩) (.inl rfl) (.slice (some ⟨g6,0,none⟩) (0+S) cap6)) (heap_setCell_same _ _ 5 _ _ _ hs6.pk);have hown7:=own_of_block hown6 (fun g hg=>Below.heap_setCell w6 ⟨w.heap.size+1,5,none⟩ (.slice (some ⟨g6,0,none⟩) (0+S) cap6) g (by have:=(hown6.lt g hg).1;show g≠w.heap.size+1;omega));go_wp2_with fail
         go_meet
         rw[Nat.zero_add]at hs7 hown7;exact⟨_,_,hs7,by simpa using hown7⟩
       case rest=>
        obtain⟨za,zc,hst6,hown6⟩:=hcut;obtain⟨W6,rfl⟩:∃ x,x=wc:=⟨wc,rfl⟩;clear HSEE HSZ HOW HNW h6 hst5 y0 y1 y2 y3 y4 y5 y6 qf5 k0 k1 k2;obtain⟨y0,y1,y2,y3,y4,y5,y6⟩:=row7 hst6.pk;have hlt6:=hst6.lt;have hn12:w.heap.size+1≠w.heap.size+2:=by omega
        have hn13:w.heap.size+1≠w.heap.size+3:=by omega
        have hno:∀ X,Calls Tryz.prog 93 #[] X fun e w1=>e=.returned (.agg #[.int .i64 0,.int .i64 (-1)])/\Below X.heap.size X w1:=none_err
        go_upto_region 16 with fail
        go_region_with (go_at_call 93;refine(hno _).mono ?_;rintro e W7 ⟨rfl,hb7⟩;have hst7:=hst6.above ((Below.undrew hb7).mono hlt6);obtain⟨z0,z1,z2,z3,z4,z5,z6⟩:=row7 hst7.pk;obtain⟨c0,c1,c2,c3,c4,c5,c6⟩:=row7 hst7.res;have e0:W7.cell? ⟨w.heap.size+3,0,none⟩=some (.int .i64 0):=cell_of_row W7 _ 0 _ _ _ hst7.err;have e1:W7.cell? ⟨w.heap.size+3,1,none⟩=some (.int .i64 0):=cell_of_row W7 _ 1 _ _ _ hst7.err;have f0:=frozen_of_row W7 _ 0 _ _ hst7.res;have f1:=frozen_of_row W7 _ 1 _ _ hst7.res;have f2:=frozen_of_row W7 _ 2 _ _ hst7.res;have f3:=frozen_of_row W7 _ 3 _ _ hst7.res;have f4:=frozen_of_row W7 _ 4 _ _ hst7.res;have f5:=frozen_of_row W7 _ 5 _ _ hst7.res;have f6:=frozen_of_row W7 _ 6 _ _ hst7.res;have g0:=frozen_of_row W7 _ 0 _ _ hst7.err;have g1:=frozen_of_row W7 _ 1 _ _ hst7.err)
        all_goals
         have hp:=put9 W7 (w.heap.size+2) (w.heap.size+3) (.int .i64 0) (.int .i64 0) (.int .i64 0) (.int .i64 0) (.int .i64 0) (.slice none 0 0) (.slice none 0 0) (.int .i64 0) (.int .i64 0) (.int .i64 x0) (.int .i64 x1) (.int .i64 L) (.int .i64 P4) (.int .i64 P5) (.slice za S zc) (.slice none 0 0) (.int .i64 0) (.int .i64 (-1)) hst7.res hst7.err (by omega);generalize (((((((((W7.setCell ⟨w.heap.size+2,0,none⟩ (.int .i64 x0)).setCell ⟨w.heap.size+2,1,none⟩ (.int .i64 x1)).setCell ⟨w.heap.size+2,2,none⟩ (.int .i64 L)).setCell ⟨w.heap.size+2,3,none⟩ (.int .i64 P4)).setCell ⟨w.heap.size+2,4,none⟩ (.int .i64 P5)).setCell ⟨w.heap.size+2,5,none⟩ (.slice za S zc)).setCell ⟨w.heap.size+2,6,none⟩ (.slice none 0 0)).setCell ⟨w.heap.size+3,0,none⟩ (.int .i64 0)).setCell ⟨w.heap.size+3,1,none⟩ (.int .i64 (-1)))=W9 at hp ⊢;obtain⟨hp1,hp2,hp3⟩:=hp;obtain⟨d0,d1,d2,d3,d4,d5,d6⟩:=row7 (show W9.heap[w.heap.size+2]?=_ from hp1);have d7:W9.cell? ⟨w.heap.size+3,0,none⟩=some (.int .i64 0):=cell_of_row _ _ 0 _ _ _ (show W9.heap[w.heap.size+3]?=_ from hp2);have d8:W9.cell? ⟨w.heap.size+3,1,none⟩=some (.int .i64 (-1)):=cell_of_row _ _ 1 _ _ _ (show W9.heap[w.heap.size+3]?=_ from hp2);clear c0 c1 c2 c3 c4 c5 c6 f0 f1 f2 f3 f4 f5 f6 g0 g1 e0 e1 z0 z1 z2 z3 z4 z5 z6 y0 y1 y2 y3 y4 y5 y6;go_wp2_with fail
         exact bodyPost_ret (v:=.tuple #[.agg #[.int .i64 x0,.int .i64 x1,.int .i64 L,.int .i64 P4,.int .i64 P5,.slice za S zc,.slice none 0 0],.agg #[.int .i64 0,.int .i64 (-1)]]) (by simp[results,Tryz.results146,go_sem,d0,d1,d2,d3,d4,d5,d6,d7,d8]) rfl (by
          refine⟨?_,hst7.low.trans (hp3.toBelow (by have:=hst7.low.size;omega) (fun k hk q=>by omega))⟩;rw[dataB_5 (by rw[hm];omega) HWIN.out (by rw[hm];omega) HPLC.out (by rw[hm];omega) (by rw[hm];omega)];refine⟨za,zc,by rw[<- HP4.out,<- HP5.out],?_⟩;have h1:=own_of_block hown6 (fun g hg=>(Below.undrew hb7).block g (hown6.lt g hg).2);have h2:=hp3.own h1 (fun g hg q=>by have:=(h1.lt g hg).1;omega);rw[List.drop_drop];exact own_base2 h2 (by omega))
end Go.Proofs.YtjabhnhejbhgjaaGreatDoor
