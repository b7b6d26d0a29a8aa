import Derived.Test.YtjabhnhejbhgjaaGreatDoorSendKnown
import Derived.Test.YtjabhnhejbhgjaaGreatDoorMany33
set_option maxRecDepth 100000
set_option maxHeartbeats 8000000
namespace Go.Proofs.YtjabhnhejbhgjaaGreatDoor
open Go.RowKit
theorem known_int(Z i:Nat)(h:i<9):(qat (knownOps Z) i).kd<=10/\I64 (qat (knownOps Z) i).tt/\I64 (qat (knownOps Z) i).a:=by
 have h0:I64 0:=by unfold I64;omega
 have h1:I64 1:=by unfold I64;omega
 have h2:I64 2:=by unfold I64;omega
 rcases nine_cases h with rfl|rfl|rfl|rfl|rfl|rfl|rfl|rfl|rfl
 ·exact⟨(show(1:Int)<=10 by decide),h0,h0⟩
 ·exact⟨(show(2:Int)<=10 by decide),h0,h0⟩
 ·exact⟨(show(5:Int)<=10 by decide),h0,h0⟩
 ·exact⟨(show(7:Int)<=10 by decide),h0,h2⟩
 ·exact⟨(show(4:Int)<=10 by decide),h0,h0⟩
 ·exact⟨(show(3:Int)<=10 by decide),h0,h0⟩
 ·exact⟨(show(8:Int)<=10 by decide),h0,h1⟩
 ·exact⟨(show(7:Int)<=10 by decide),h0,h1⟩
 ·exact⟨(show(9:Int)<=10 by decide),h0,h0⟩
theorem xknown_any{A:Nat->Addr}{B0:Nat}{own:Nat->Nat}{w:World}{hb:Nat}{hs:HS}{es:List Ent}(hI:XI A B0 own w hb 0 hs es [] [] []):
 Calls Tryz.prog 25 #[.pointer (some ⟨hb,0,none⟩),.int .i64 10] w fun e w'=>e=.returned (.bool true)/\∃ m,XStep A B0 own w hb 180 1 m w'/\1+m<=9:=by
 have hcv:(convert 33 33 (.slice (some ⟨w.heap.size+1,0,none⟩) 4 4)).run Tryz.prog ((w.alloc (.cells #[.int .i64 2,.int .i64 4,.int .i64 3] 30)).alloc (.cells #[.int .u8 97,.int .u8 98,.int .u8 99,.int .u8 100] 5))=.ok (.slice (some ⟨w.heap.size+1,0,none⟩) 4 4) ((w.alloc (.cells #[.int .i64 2,.int .i64 4,.int .i64 3] 30)).alloc (.cells #[.int .u8 97,.int .u8 98,.int .u8 99,.int .u8 100] 5 (4,5))):=by
  have h:=Lib.run_convert_bytes_const (P:=Tryz.prog) (w.alloc (.cells #[.int .i64 2,.int .i64 4,.int .i64 3] 30)) 33 5 #[.int .u8 97,.int .u8 98,.int .u8 99,.int .u8 100] 4 4 Tryz.underlying33 Tryz.underlying5;rw[show(w.alloc (.cells #[.int .i64 2,.int .i64 4,.int .i64 3] 30)).heap.size=w.heap.size+1 by simp]at h;exact h
 go_enter Tryz.func25,Tryz.ntmps25;go_upto_region 3 with fail;have hcell:=known_cells w.heap.size;rw[hcell];obtain⟨hbe,k1,k2,k3,k4⟩:=five w (.cells #[.int .i64 2,.int .i64 4,.int .i64 3] 30) (.cells #[.int .u8 97,.int .u8 98,.int .u8 99,.int .u8 100] 5 (4,5)) (.cells #[.int .u8 1] 5) (.cells #[.int .u8 2,.int .u8 0,.int .u8 0,.int .u8 4,.int .u8 1,.int .u8 0,.int .u8 1] 5) (.cells ((knownOps w.heap.size).flatMap fun q=>q.cells.toList).toArray 83);generalize (((((w.alloc (.cells #[.int .i64 2,.int .i64 4,.int .i64 3] 30)).alloc (.cells #[.int .u8 97,.int .u8 98,.int .u8 99,.int .u8 100] 5 (4,5))).alloc (.cells #[.int .u8 1] 5)).alloc (.cells #[.int .u8 2,.int .u8 0,.int .u8 0,.int .u8 4,.int .u8 1,.int .u8 0,.int .u8 1] 5)).alloc (.cells ((knownOps w.heap.size).flatMap fun q=>q.cells.toList).toArray 83))=W at *;clear hcell hcv;have hI1:=hI.above 1 hbe;have hF1:Fr own w (ownN own w.heap.size 1) W:=Fr.above 1 hbe;have hOps:OpsAt (ownN own w.heap.size 1) W (w.heap.size+1+1+1+1) 0 (knownOps w.heap.size):=known_ops k1 k2 k3 k4 (fun b hb'=>ownN_new hb');generalize ownN own w.heap.size 1=own1 at *;obtain⟨lb,hlb⟩:∃ x,x=w.heap.size+1+1+1+1:=⟨_,rfl⟩;rw[<- hlb]at hOps ⊢;have HLEN:Hid ((knownOps w.heap.size).length=9):=rfl;have HMORE:Hid (∀ i,i<9->(qat (knownOps w.heap.size) i).more (if i=0 then 0 else 1)=1):=fun i hi=>known_more _ i hi
 have HINT:Hid (∀ i,i<9->(qat (knownOps w.heap.size) i).kd<=10/\I64 (qat (knownOps w.heap.size) i).tt/\I64 (qat (knownOps w.heap.size) i).a):=fun i hi=>known_int _ i hi
 generalize knownOps w.heap.size=qs at *;have HF1:Hid (Fr own w own1 W):=hF1;have HOP:Hid (OpsAt own1 W lb 0 qs):=hOps;clear k1 k2 k3 k4 hbe hlb hF1 hOps hI;go_wp2_with fail
 go_loopw[7,8] (fun t _ wr=>∃ i:Nat,i<=9/\t=.int .i64 i/\∃ own' hs' es' ps' qs' os',XI A B0 own' wr hb (20*i) hs' es' ps' qs' os'/\ps'.length=(if i=0 then 0 else 1)/\ps'.length+qs'.length<=i/\Fr own1 W own' wr) (fun t _ _=>9 - (intOf t).toNat)
 case atStart=>exact⟨0,by omega,rfl,own1,hs,es,[],[],[],hI1,rfl,by simp,Fr.refl _ _⟩
 case round=>
  obtain⟨i,hi,rfl,own',hs',es',ps',qs',os',hIi,hlen,hcnt,hFi⟩:=hrel;have HIi:Hid (XI A B0 own' wr hb (20*i) hs' es' ps' qs' os'):=hIi;by_cases hlt:i<9
  ·have hlt1:(i:Int)<9:=by omega
   have hlt0:(0:Int)<=(i:Int):=by omega
   have hOi:=HOP.out.fr hFi;have hiq:i<qs.length:=by rw[HLEN.out];exact hlt
   have hc:=hOi.cell i hiq;have hbytes:=hOi.bytes i hiq;have hon:=hOi.on i hiq;have HM:=HMORE.out i hlt;have HIN:=HINT.out i hlt;obtain⟨⟨⟨kd,on,tt,qa,K,N,S,p,n,c⟩,b,o,l⟩,hq⟩:∃ x,x=qat qs i:=⟨_,rfl⟩;rw[<- hq]at hc hbytes hon HM HIN;have c0:wr.cell? ⟨lb,i*8,none⟩=some (.int .i64 kd):=by have:=hc 0 (by omega);rw[Nat.zero_add,Nat.add_zero]at this;exact this
   have c1:wr.cell? ⟨lb,i*8+1,none⟩=some (.int .i64 on):=by have:=hc 1 (by omega);rw[Nat.zero_add]at this;exact this
   have c2:wr.cell? ⟨lb,i*8+2,none⟩=some (.int .i64 tt):=by have:=hc 2 (by omega);rw[Nat.zero_add]at this;exact this
   have c3:wr.cell? ⟨lb,i*8+3,none⟩=some (.int .i64 qa):=by have:=hc 3 (by omega);rw[Nat.zero_add]at this;exact this
   have c4:wr.cell? ⟨lb,i*8+4,none⟩=some (.int .i64 K):=by have:=hc 4 (by omega);rw[Nat.zero_add]at this;exact this
   have c5:wr.cell? ⟨lb,i*8+5,none⟩=some (.int .i64 N):=by have:=hc 5 (by omega);rw[Nat.zero_add]at this;exact this
   have c6:wr.cell? ⟨lb,i*8+6,none⟩=some (.int .i64 S):=by have:=hc 6 (by omega);rw[Nat.zero_add]at this;exact this
   have c7:wr.cell? ⟨lb,i*8+7,none⟩=some (.slice p n c):=by have:=hc 7 (by omega);rw[Nat.zero_add]at this;exact this
   clear hc hq hOi;obtain⟨hk10,htt,hqa⟩:=HIN
   have HPL:Hid (Calls Tryz.prog 26 #[.pointer (some ⟨hb,0,none⟩),.agg #[.int .i64 kd,.int .i64 on,.int .i64 tt,.int .i64 qa,.int .i64 K,.int .i64 N,.int .i64 S,.slice p n c]] wr fun e w'=>e=.returned (.bool true)/\∃ m,XStep A B0 own' wr hb (20*(i+1)) 1 m w'/\1+m<=i+1):=by
    have:=xplays_any (q:=⟨kd,on,tt,qa,K,N,S,p,n,c⟩) HIi.out hk10 (by omega) hon htt hqa hbytes;rw[hlen,HM]at this;refine this.mono ?_;rintro e w' ⟨h1,m,h2,h3⟩;exact⟨h1,m,h2.from (Fr.refl _ _) (by omega),by rw[hlen]at hcnt;omega⟩
   have hkd:kd<=10:=hk10;clear hIi HM hlen hbytes hon htt hqa hk10 hcnt;go_wp2_with fail;refine HPL.out.mono ?_;rintro e w' ⟨rfl,m,⟨own2,hs2,es2,ps2,qs2,os2,hI2,hl2,hm2,hF2⟩,hcn⟩;go_wp2_with fail
   go_roundw
   case rel=>exact⟨i+1,by omega,by go_num,own2,hs2,es2,ps2,qs2,os2,hI2,by rw[hl2,if_neg (by omega)],by omega,hFi.trans hF2⟩
   case measure=>simp[intOf];omega
  ·obtain rfl:i=9:=by omega
   rw[if_neg (by omega)]at hlen;obtain⟨va,vc,hva,_⟩:=own_form2 hIi.sown;have c0:wr.cell? ⟨hb,0,none⟩=some (.slice va 1 vc):=by rw[cell_of_row wr hb 0 _ _ _ hIi.hands];show some hs'.sv=_;rw[hva,hlen]
   clear hIi hva;go_wp2_with fail;go_ret;exact⟨rfl,qs'.length,⟨own',hs',es',ps',qs',os',HIi.out,hlen,rfl,HF1.out.trans hFi⟩,by omega⟩
def hs0:HS:=⟨.slice none 0 0,.slice none 0 0,.slice none 0 0,.slice none 0 0,.slice none 0 0,.slice none 0 0,0,.slice none 0 0,.slice none 0 0,.slice none 0 0,.slice none 0 0,.slice none 0 0,.slice none 0 0,.slice none 0 0,.slice none 0 0⟩
theorem RJ.start(hb:Nat)(own:Nat->Nat)(w:World):RJ hb [] [] (.slice none 0 0) (.slice none 0 0) (.slice none 0 0) own w:=
 ⟨World.ownsRow_nil ..,fun i hi=>by simp at hi,fun i hi=>by simp at hi,⟨World.ownsRow_nil ..,World.ownsRow_nil ..,fun e he=>by simp at he⟩,fun b hb=>by simp[Value.ownBlock]at hb,fun i b hi=>by simp at hi,fun i b hi=>by simp at hi,fun b hb=>by simp[Value.ownBlock]at hb,fun b hb=>by simp[Value.ownBlock]at hb,fun e he=>by simp at he⟩
theorem XI.start{A:Nat->Addr}{w:World}(hE:Errs A w.heap.size w)(hT:ErrType w)(hTl:8<w.heap.size):XI A w.heap.size (ownN (fun _=>1) w.heap.size 0) (w.alloc (.cells hs0.cells 81)) w.heap.size 0 hs0 [] [] [] []:=by
 have hbe:Below w.heap.size w (w.alloc (.cells hs0.cells 81)):=(Below.refl _ _).alloc (Nat.le_refl _) _;exact⟨⟨⟨hE.below hbe,hT.below hbe hTl,hTl,Nat.le_refl _,heap_alloc_new w _,⟨World.ownsRow_nil ..,World.ownsRow_nil ..,fun e he=>by simp at he⟩,World.ownsRow_nil ..,fun i hi=>by simp at hi,fun i hi=>by simp at hi,fun b hb=>by rw[ownN_old hb],ownN_new (Nat.le_refl _),fun b hb=>by simp[hs0,Value.ownBlock]at hb,fun b hb=>by simp[hs0,Value.ownBlock]at hb,fun b hb=>by simp[hs0,Value.ownBlock]at hb,fun e he=>by simp at he,fun i b hi=>by simp at hi,fun i b hi=>by simp at hi,(RJ.start _ _ _).stays⟩,fun i hi=>by simp at hi,⟨0,rfl,Nat.le_refl _⟩,by simp,by simp,⟨rfl,rfl,rfl,rfl,rfl,rfl,rfl⟩⟩,fun i hi=>by simp at hi,by simp,by simp⟩
theorem xholds{A:Nat->Addr}{B0:Nat}{own:Nat->Nat}{w:World}{hb t:Nat}{hs:HS}{es:List Ent}{ps:List Pr}{qs:List Rp}{os:List Ent}(hI:XI A B0 own w hb t hs es ps qs os)(ht:t<=200000000):
 Calls Tryz.prog 27 #[.pointer (some ⟨hb,2,none⟩)] w fun e w'=>e=.returned (.bool true)/\∃ own',XI A B0 own' w' hb t hs es ps qs os/\Fr own w own' w':=by
 refine(holdsO_any hb (hb+1) hs es os w hI.hands hI.outs hI.rest.now.obs (by have:=hI.fewE;omega) (by have:=hI.fewO;omega) hI.nil.outer0 hI.nil.lacks0).mono ?_;rintro e w' ⟨rfl,nq,hw⟩;have hb':Below w.heap.size w w':=below_drew hw;exact⟨rfl,_,hI.above 0 hb',Fr.above 0 hb'⟩
theorem xnext{A:Nat->Addr}{B0:Nat}{own:Nat->Nat}{w:World}{hb t i:Nat}{hs:HS}{es:List Ent}{ps:List Pr}{qs:List Rp}{os:List Ent}(hI:XI A B0 own w hb t hs es ps qs os)(hi:i<ps.length)(ht:t<=200000000):
 Calls Tryz.prog 28 #[.pointer (some ⟨hb,0,none⟩),.agg #[.pointer (some ⟨(pat ps i).sb,0,none⟩),.pointer (some ⟨(pat ps i).rb,0,none⟩)]] w fun e w'=>∃ v,e=.returned (.tuple #[v,.bool true])/\XStep A B0 own w hb (t+1) ps.length qs.length w':=
 (wnext_any hI.toWI hi ht).mono fun _ _ ⟨v,h1,h2⟩=>⟨v,h1,hI.sent (by omega) h2⟩
theorem xrun_any{A:Nat->Addr}{w:World}{a:Option Addr}{L c lb lo:Nat}{qs:List Opb}(hE:Errs A w.heap.size w)(hT:ErrType w)(hTl:8<w.heap.size)(hq:OpsAt (fun _=>1) w lb lo qs)(hqx:∀ i,i<qs.length->I64 (qat qs i).tt/\I64 (qat qs i).a)(hL:qs.length=L)(hL2:L<=2000000)(ha:0<L->a=some ⟨lb,lo,none⟩):
 Calls Tryz.prog 10 #[.slice a L c,.int .i64 10] w fun e w'=>e=.returned (.bool true)/\Below w.heap.size w w':=by
 have hI0:=XI.start hE hT hTl;have hbe:Below w.heap.size w (w.alloc (.cells hs0.cells 81)):=(Below.refl _ _).alloc (Nat.le_refl _) _;have hF0:Fr (fun _=>1) w (ownN (fun _=>1) w.heap.size 0) (w.alloc (.cells hs0.cells 81)):=Fr.above 0 hbe;have hq0:=hq.fr hF0
 have HFIN:Hid (∀ own' w',Fr (ownN (fun _=>1) w.heap.size 0) (w.alloc (.cells hs0.cells 81)) own' w'->Below w.heap.size w w'):=fun own' w' hF=>by
  have h:=hF0.trans hF;exact⟨h.os,h.tape,h.output,h.size,fun k hk=>(h.keep k hk rfl).2⟩
 have ecells:hs0.cells=#[.slice none 0 0,.slice none 0 0,.slice none 0 0,.slice none 0 0,.slice none 0 0,.slice none 0 0,.int .i64 0,.slice none 0 0,.slice none 0 0,.slice none 0 0,.slice none 0 0,.slice none 0 0,.slice none 0 0,.slice none 0 0,.slice none 0 0]:=rfl;rw[ecells]at hI0 hF0 hq0 HFIN hbe;go_enter Tryz.func10,Tryz.ntmps10;go_upto_region 2 with fail;generalize (w.alloc (.cells #[.slice none 0 0,.slice none 0 0,.slice none 0 0,.slice none 0 0,.slice none 0 0,.slice none 0 0,.int .i64 0,.slice none 0 0,.slice none 0 0,.slice none 0 0,.slice none 0 0,.slice none 0 0,.slice none 0 0,.slice none 0 0,.slice none 0 0] 81))=W0 at *;generalize ownN (fun _=>1) w.heap.size 0=own0 at *;obtain⟨hb,hhb⟩:∃ x,x=w.heap.size:=⟨_,rfl⟩;rw[<- hhb]at hI0 ⊢;have HQ:Hid (OpsAt own0 W0 lb lo qs):=hq0;have HQX:Hid (∀ i,i<qs.length->I64 (qat qs i).tt/\I64 (qat qs i).a):=hqx;clear hE hT hTl hq hqx hF0 hq0 hbe hhb ecells;have HKN:Hid (Calls Tryz.prog 25 #[.pointer (some ⟨hb,0,none⟩),.int .i64 10] W0 fun e w'=>e=.returned (.bool true)/\∃ m,XStep A hb own0 W0 hb 180 1 m w'/\1+m<=9):=xknown_any hI0;clear hI0;go_wp2_with fail;refine HKN.out.mono ?_;rintro e w1 ⟨rfl,m1,⟨own1,hs1,es1,ps1,qs1,os1,hI1,hl1,hm1,hF1⟩,hc1⟩;clear HKN;go_wp2_with fail
 go_loopw[6,7] (fun okv t wr=>okv=.bool true/\∃ i:Nat,i<=L/\t=.int .i64 i/\∃ own' hs' es' ps' qs' os',XI A hb own' wr hb (180+20*i) hs' es' ps' qs' os'/\ps'.length+qs'.length<=9+i/\Fr own0 W0 own' wr) (fun _ t _=>L - (intOf t).toNat)
 case atStart=>exact⟨rfl,0,by omega,rfl,own1,hs1,es1,ps1,qs1,os1,hI1,by omega,hF1⟩
 case round=>
  clear hI1 hl1 hF1 hm1 hc1;obtain⟨rfl,i,hi,rfl,own',hs',es',ps',qs',os',hIi,hcnt,hFi⟩:=hrel;have HIi:Hid (XI A hb own' wr hb (180+20*i) hs' es' ps' qs' os'):=hIi;clear hIi;by_cases hlt:i<L
  ·have hlt1:(i:Int)<(L:Int):=by omega
   have hlt0:(0:Int)<=(i:Int):=by omega
   obtain rfl:=ha (by omega);have hOi:=HQ.out.fr hFi;have hiq:i<qs.length:=by omega
   have hc:=hOi.cell i hiq;have hbytes:=hOi.bytes i hiq;have hon:=hOi.on i hiq;have hxx:=HQX.out i hiq;obtain⟨⟨⟨kd,on,tt,qa,K,N,S,p,n,cc⟩,b,o,l⟩,hqe⟩:∃ x,x=qat qs i:=⟨_,rfl⟩;rw[<- hqe]at hc hbytes hon hxx;have c0:wr.cell? ⟨lb,lo+i*8,none⟩=some (.int .i64 kd):=hc 0 (by omega);have c1:wr.cell? ⟨lb,lo+i*8+1,none⟩=some (.int .i64 on):=hc 1 (by omega);have c2:wr.cell? ⟨lb,lo+i*8+2,none⟩=some (.int .i64 tt):=hc 2 (by omega);have c3:wr.cell? ⟨lb,lo+i*8+3,none⟩=some (.int .i64 qa):=hc 3 (by omega);have c4:wr.cell? ⟨lb,lo+i*8+4,none⟩=some (.int .i64 K):=hc 4 (by omega);have c5:wr.cell? ⟨lb,lo+i*8+5,none⟩=some (.int .i64 N):=hc 5 (by omega);have c6:wr.cell? ⟨lb,lo+i*8+6,none⟩=some (.int .i64 S):=hc 6 (by omega);have c7:wr.cell? ⟨lb,lo+i*8+7,none⟩=some (.slice p n cc):=hc 7 (by omega);clear hc hqe hOi;by_cases hk4:kd<=10
   ·have HPL:Hid (Calls Tryz.prog 26 #[.pointer (some ⟨hb,0,none⟩),.agg #[.int .i64 kd,.int .i64 on,.int .i64 tt,.int .i64 qa,.int .i64 K,.int .i64 N,.int .i64 S,.slice p n cc]] wr fun e w'=>e=.returned (.bool true)/\∃ m1 m2,XStep A hb own' wr hb (180+20*(i+1)) m1 m2 w'/\m1+m2<=9+(i+1)):=(xplays_any (q:=⟨kd,on,tt,qa,K,N,S,p,n,cc⟩) HIi.out hk4 (by omega) hon hxx.1 hxx.2 hbytes).mono (fun e w' ⟨h1,m,h2,h3⟩=>⟨h1,_,_,h2.from (Fr.refl _ _) (by omega),by omega⟩)
    clear hbytes hon hxx;go_wp2_with fail;refine HPL.out.mono ?_;rintro e w2 ⟨rfl,m1,m2,⟨own2,hs2,es2,ps2,qs2,os2,hI2,hl2,hm2,hF2⟩,hc2⟩;have HHD:Hid (Calls Tryz.prog 27 #[.pointer (some ⟨hb,2,none⟩)] w2 fun e w'=>e=.returned (.bool true)/\∃ own',XI A hb own' w' hb (180+20*(i+1)) hs2 es2 ps2 qs2 os2/\Fr own2 w2 own' w'):=xholds hI2 (by omega);clear HPL hI2 c0 c1 c2 c3 c4 c5 c6 c7;go_wp2_with fail;refine HHD.out.mono ?_;rintro e w3 ⟨rfl,own3,hI3,hF3⟩;clear HHD;go_wp2_with fail
    go_roundw
    case rel=>exact⟨rfl,i+1,by omega,by go_num,own3,hs2,es2,ps2,qs2,os2,hI3,by omega,(hFi.trans hF2).trans hF3⟩
    case measure=>simp[intOf];omega
   ·have HHD:Hid (Calls Tryz.prog 27 #[.pointer (some ⟨hb,2,none⟩)] wr fun e w'=>e=.returned (.bool true)/\∃ own2,XI A hb own2 w' hb (180+20*i) hs' es' ps' qs' os'/\Fr own' wr own2 w'):=xholds HIi.out (by omega)
    clear hbytes hon hxx;go_wp2_with fail;refine HHD.out.mono ?_;rintro e w3 ⟨rfl,own3,hI3,hF3⟩;clear HHD c0 c1 c2 c3 c4 c5 c6 c7;go_wp2_with fail
    go_roundw
    case rel=>exact⟨rfl,i+1,by omega,by go_num,own3,hs',es',ps',qs',os',hI3.more (by omega),by omega,hFi.trans hF3⟩
    case measure=>simp[intOf];omega
  ·obtain rfl:i=L:=by omega
   have hlt1:¬(i:Int)<(i:Int):=by omega
   obtain⟨m,hm⟩:∃ x,x=ps'.length:=⟨_,rfl⟩;obtain⟨r,hr⟩:∃ x,x=qs'.length:=⟨_,rfl⟩;have hm2:m+r<=9+i:=by rw[hm,hr];exact hcnt
   clear hcnt;go_wp2_with fail
   go_loopw[6,8,9] (fun okv t _ wq=>okv=.bool true/\∃ j:Nat,j<=m/\t=.int .i64 j/\∃ own2 hs2 es2 ps2 qs2 os2,XI A hb own2 wq hb (180+20*i+8*j) hs2 es2 ps2 qs2 os2/\ps2.length=m/\qs2.length=r/\Fr own0 W0 own2 wq) (fun _ t _ _=>m - (intOf t).toNat)
   case atStart=>exact⟨rfl,0,by omega,rfl,own',hs',es',ps',qs',os',HIi.out,hm.symm,hr.symm,hFi⟩
   case round=>
    clear HIi hFi hm hr;obtain⟨rfl,j,hj,rfl,own2,hs2,es2,ps2,qs2,os2,hI2,hl2,hr2,hF2⟩:=hrel;obtain⟨va,vc,hva,_⟩:=own_form2 hI2.sown;have c0:wr.cell? ⟨hb,0,none⟩=some (.slice va m vc):=by rw[cell_of_row wr hb 0 _ _ _ hI2.hands];show some hs2.sv=_;rw[hva,hl2]
    have HI2:Hid (XI A hb own2 wr hb (180+20*i+8*j) hs2 es2 ps2 qs2 os2):=hI2;clear hI2 hva;by_cases hjlt:j<m
    ·have hj1:(j:Int)<(m:Int):=by omega
     have hj0:(0:Int)<=(j:Int):=by omega
     go_wp2_with fail;clear c0
     go_loopw[6,9] (fun okv t wq=>okv=.bool true/\∃ k:Nat,k<=8/\t=.int .i64 k/\∃ own2 hs2 es2 ps2 qs2 os2,XI A hb own2 wq hb (180+20*i+8*j+k) hs2 es2 ps2 qs2 os2/\ps2.length=m/\qs2.length=r/\Fr own0 W0 own2 wq) (fun _ t _=>8 - (intOf t).toNat)
     case atStart=>exact⟨rfl,0,by omega,rfl,own2,hs2,es2,ps2,qs2,os2,HI2.out,hl2,hr2,hF2⟩
     case round=>
      clear HI2 hF2 hl2 hr2;obtain⟨rfl,k,hk,rfl,own3,hs3,es3,ps3,qs3,os3,hI3,hl3,hr3,hF3⟩:=hrel;have HI3:Hid (XI A hb own3 wr hb (180+20*i+8*j+k) hs3 es3 ps3 qs3 os3):=hI3;by_cases hk8:k<8
      ·have hk1:(k:Int)<8:=by omega
       obtain⟨g,gc,hsv,hsc⟩:=sender_cells hI3.toWJ (by omega);obtain⟨t0,t1⟩:=hsc j (by omega);have c0:wr.cell? ⟨hb,0,none⟩=some (.slice (some ⟨g,0,none⟩) m gc):=by rw[cell_of_row wr hb 0 _ _ _ hI3.hands];show some hs3.sv=_;rw[hsv,hl3]
       have HNX:Hid (Calls Tryz.prog 28 #[.pointer (some ⟨hb,0,none⟩),.agg #[.pointer (some ⟨(pat ps3 j).sb,0,none⟩),.pointer (some ⟨(pat ps3 j).rb,0,none⟩)]] wr fun e w'=>∃ v,e=.returned (.tuple #[v,.bool true])/\XStep A hb own3 wr hb (180+20*i+8*j+k+1) m r w'):=by
        have:=xnext HI3.out (i:=j) (by omega) (by omega);rw[hl3,hr3]at this;exact this
       clear hI3 hsv hsc;go_wp2_with fail;refine HNX.out.mono ?_;rintro e w5 ⟨v,rfl,own5,hs5,es5,ps5,qs5,os5,hI5,hl5,hr5,hF5⟩;clear HNX c0 t0 t1;go_wp2_with fail
       go_roundw
       case rel=>exact⟨rfl,k+1,by omega,by go_num,own5,hs5,es5,ps5,qs5,os5,hI5,hl5,hr5,hF3.trans hF5⟩
       case measure=>simp[intOf];omega
      ·obtain rfl:k=8:=by omega
       clear hI3;go_wp2_with fail
       go_roundw
       case rel=>exact⟨rfl,j+1,by omega,by go_num,own3,hs3,es3,ps3,qs3,os3,HI3.out.more (by omega),hl3,hr3,hF3⟩
       case measure=>simp[intOf];omega
    ·obtain rfl:j=m:=by omega
     have hj1:¬(j:Int)<(j:Int):=by omega
     go_wp2_with fail;clear c0
     go_loopw[6,10] (fun okv t wq=>okv=.bool true/\∃ k:Nat,k<=r/\t=.int .i64 k/\∃ own2 hs2 es2 ps2 qs2 os2,XI A hb own2 wq hb (180+20*i+8*j+18*k) hs2 es2 ps2 qs2 os2/\qs2.length=r/\Fr own0 W0 own2 wq) (fun _ t _=>r - (intOf t).toNat)
     case atStart=>exact⟨rfl,0,by omega,rfl,own2,hs2,es2,ps2,qs2,os2,HI2.out,hr2,hF2⟩
     case round=>
      clear HI2 hF2 hl2 hr2;obtain⟨rfl,k,hk,rfl,own3,hs3,es3,ps3,qs3,os3,hI3,hr3,hF3⟩:=hrel;obtain⟨va,vc,hva,_⟩:=own_form2 hI3.rest.now.rown;have c1:wr.cell? ⟨hb,1,none⟩=some (.slice va r vc):=by rw[cell_of_row wr hb 1 _ _ _ hI3.hands];show some hs3.rv=_;rw[hva,hr3]
      have HI3:Hid (XI A hb own3 wr hb (180+20*i+8*j+18*k) hs3 es3 ps3 qs3 os3):=hI3;by_cases hkr:k<r
      ·have hk1:(k:Int)<(r:Int):=by omega
       have hk0:(0:Int)<=(k:Int):=by omega
       obtain⟨g,gc,hsv,hsc⟩:=receiver_cells hI3.toWJ (by omega);rw[hva]at hsv;simp only[Value.slice.injEq]at hsv;obtain⟨rfl,-,-⟩:=hsv;obtain⟨t0,t1⟩:=hsc k (by omega);have HAK:Hid (Calls Tryz.prog 29 #[.pointer (some ⟨hb,0,none⟩),.agg #[.pointer (some ⟨(rpat qs3 k).rb,0,none⟩),.pointer (some ⟨(rpat qs3 k).qb,0,none⟩)]] wr fun e w'=>∃ a b o n c l,e=.returned (.tuple #[.slice a n c,.bool true])/\∃ own' hs' es',XI A hb own' w' hb (180+20*i+8*j+18*k+1) hs' es' ps3 qs3 os3/\Fr own3 wr own' w'/\OpB own' w' a b o n c l):=xask_any HI3.out (by omega) (by omega);clear hI3 hva hsc;go_wp2_with fail;refine HAK.out.mono ?_;rintro e w5 ⟨a5,b5,o5,n5,c5,l5,rfl,own5,hs5,es5,hI5,hF5,-⟩;clear HAK c1 t0 t1;obtain⟨va,vc,hva,_⟩:=own_form2 hI5.rest.now.rown;obtain⟨g5,gc5,hsv,hsc⟩:=receiver_cells hI5.toWJ (by omega);have c1:w5.cell? ⟨hb,1,none⟩=some (.slice (some ⟨g5,0,none⟩) r gc5):=by rw[cell_of_row w5 hb 1 _ _ _ hI5.hands];show some hs5.rv=_;rw[hsv,hr3]
       obtain⟨t0,t1⟩:=hsc k (by omega);have HTK:Hid (Calls Tryz.prog 30 #[.pointer (some ⟨hb,0,none⟩),.agg #[.pointer (some ⟨(rpat qs3 k).rb,0,none⟩),.pointer (some ⟨(rpat qs3 k).qb,0,none⟩)]] w5 fun e w'=>e=.returned (.bool true)/\∃ m2,XStep A hb own5 w5 hb (180+20*i+8*j+18*(k+1)) m2 r w'):=(xtaken_any hI5 (by omega) (by omega)).mono (fun e w' ⟨h1,h2⟩=>⟨h1,_,by rw[hr3]at h2;exact h2.from (Fr.refl _ _) (by omega)⟩);clear hI5 hva hsv hsc HI3;go_wp2_with fail;refine HTK.out.mono ?_;rintro e w6 ⟨rfl,m6,own6,hs6,es6,ps6,qs6,os6,hI6,hl6,hr6,hF6⟩;clear HTK c1 t0 t1;go_wp2_with fail
       go_roundw
       case rel=>exact⟨rfl,k+1,by omega,by go_num,own6,hs6,es6,ps6,qs6,os6,hI6,hr6,(hF3.trans hF5).trans hF6⟩
       case measure=>simp[intOf];omega
      ·obtain rfl:k=r:=by omega
       have hk1:¬(k:Int)<(k:Int):=by omega
       clear hI3 hva;go_wp2_with fail;go_ret;exact⟨rfl,HFIN.out _ _ hF3⟩
end Go.Proofs.YtjabhnhejbhgjaaGreatDoor
