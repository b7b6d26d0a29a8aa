import Derived.Test.YtjabhnhejbhgjaaGreatDoorMany29
import Derived.Test.YtjabhnhejbhgjaaGreatDoorMany28
import Derived.Test.YtjabhnhejbhgjaaGreatDoorMany14
import Derived.Test.YtjabhnhejbhgjaaGreatDoorMany24
set_option maxRecDepth 100000
set_option maxHeartbeats 8000000
namespace Go.Proofs.YtjabhnhejbhgjaaGreatDoor
open Go.RowKit
def bestP(kn:List Prt):Nat->Option Nat
 | 0=>none
 | i+1=>match bestP kn i with
  | none=>some i
  | some b=>if(prat kn i).n<(prat kn b).n then some i else some b
def bestV:Option Nat->Value
 | none=>.int .i64 (-1)
 | some b=>.int .i64 b
theorem bestP_lt(kn:List Prt):∀ i b,bestP kn i=some b->b<i
 | 0,b,h=>by simp[bestP]at h
 | i+1,b,h=>by
  rw[bestP]at h
  cases e:bestP kn i with
  | none=>rw[e]at h;simp at h;omega
  | some b'=>
   rw[e]at h;have:=bestP_lt kn i b' e;simp only at h;split at h<;>simp at h<;>omega
theorem bestP_none(kn:List Prt):∀ i,bestP kn i=none->i=0
 | 0,_=>rfl
 | i+1,h=>by
  rw[bestP]at h
  cases e:bestP kn i with
  | none=>rw[e]at h;simp at h
  | some b'=>rw[e]at h;simp only at h;split at h<;>simp at h
def Prt.lk(x:Prt)(K S b:Nat):Nat:=srcN K (symN S x.len) b - cntP x.ps b x.ps.length
def Prt.lks(x:Prt)(K S:Nat):Nat->List (Nat×Nat)
 | 0=>[]
 | b+1=>if 0<x.lk K S b then x.lks K S b++[(b,x.lk K S b)] else x.lks K S b
theorem Prt.lks_le(x:Prt)(K S:Nat):∀ n,(x.lks K S n).length<=n
 | 0=>Nat.le_refl _
 | n+1=>by
  have:=x.lks_le K S n;rw[Prt.lks];split
  ·rw[List.length_append];simp;omega
  ·omega
structure Rrv.Ok(r:Rrv):Prop where
 cfg:Cfg r.K r.N r.S
 few:r.kn.length<=1000
 part:∀ i,i<r.kn.length->(prat r.kn i).n<256/\(prat r.kn i).len<=255/\(prat r.kn i).ps.length<=1000
theorem RrAt.known{w:World}{B rb:Nat}{r:Rrv}(h:RrAt w B rb r){i:Nat}(hi:i<r.kn.length):∃ g c,r.kv=.slice (some ⟨g,0,none⟩) r.kn.length c/\w.cell? ⟨g,i*3,none⟩=some (.int .i64 ((prat r.kn i).n:Int))/\w.cell? ⟨g,i*3+1,none⟩=some (.int .i64 ((prat r.kn i).len:Int))/\w.cell? ⟨g,i*3+2,none⟩=some (prat r.kn i).pv:=by
 obtain⟨g,c,hv,_,_⟩:=h.kown.form (by omega);have eadd:∀ j,(⟨g,0,none⟩:Addr).add j=⟨g,j,none⟩:=fun j=>by unfold Addr.add;split<;>simp_all
 have hk:∀ k,k<3->(r.kn.flatMap Prt.cells)[i*3+k]?=(prat r.kn i).cells[k]?:=fun k hk=>by
  rw[flat_get Prt.cells 3 (fun _=>rfl) r.kn i k hk,prat_some hi];rfl
 have hc:∀ k v,k<3->(prat r.kn i).cells[k]?=some v->w.cell? ⟨g,i*3+k,none⟩=some v:=fun k v hk' hv'=>by
  have:=h.kown.cells (g:=g) (by rw[hv];rfl) (i*3+k) v (by rw[hk k hk'];exact hv')
  rwa [eadd]at this
 exact⟨g,c,hv,hc 0 _ (by omega) rfl,hc 1 _ (by omega) rfl,hc 2 _ (by omega) rfl⟩
theorem pair_len:∀ X:List (Nat×Nat),(X.flatMap (fun d=>[by8 d.1,by8 d.2])).length=2*X.length
 | []=>rfl
 | x :: xs=>by rw[List.flatMap_cons,List.length_append,pair_len xs];simp;omega
theorem five_own(w1:World){xn xl M:Nat}(hn:xn<256)(hl:xl<65536)(z:Int)(hz:z=((by8 M).toNat:Int)):(w1.alloc (.cells #[.int .u8 2,.int .u8 (xn:Int),.int .u8 ((xl:Int)/256),.int .u8 ((xl:Int)%256),.int .u8 z] 5)).ownsRow w1.heap.size 5 1 (.slice (some ⟨w1.heap.size,0,none⟩) 5 5) 5 (encL ([by8 2,by8 xn,by8 (xl/256),by8 xl]++[by8 M])):=by
 have hB:Blk (w1.alloc (.cells #[.int .u8 2,.int .u8 (xn:Int),.int .u8 ((xl:Int)/256),.int .u8 ((xl:Int)%256),.int .u8 z] 5)) w1.heap.size ([by8 2,by8 xn,by8 (xl/256),by8 xl]++[by8 M]):=by
  unfold Blk;rw[heap_alloc_new];have h1:((by8 2).toNat:Int)=2:=by decide
  have h2:((by8 xn).toNat:Int)=(xn:Int):=by unfold by8;rw[BitVec.toNat_ofNat];omega
  have h3:((by8 (xl/256)).toNat:Int)=(xl:Int)/256:=by unfold by8;rw[BitVec.toNat_ofNat];omega
  have h4:((by8 xl).toNat:Int)=(xl:Int)%256:=by unfold by8;rw[BitVec.toNat_ofNat];omega
  simp[enc,h1,h2,h3,h4,hz]
 exact blk_own (l:=[by8 2,by8 xn,by8 (xl/256),by8 xl]++[by8 M]) hB (Nat.le_refl _) (by simp)
def RAskGives(r:Rrv)(w:World)(e:Ending)(w':World):Prop:=
 (r.shut=true/\e=.returned (.tuple #[.slice none 0 0,.agg #[.int .i64 8,.int .i64 (-1)]])/\Below w.heap.size w w')∨
 (r.shut=false/\bestP r.kn r.kn.length=none/\e=.returned (.tuple #[.slice none 0 0,.agg #[.int .i64 0,.int .i64 (-1)]])/\Below w.heap.size w w')∨
 (r.shut=false/\∃ b g n cap,bestP r.kn r.kn.length=some b/\e=.returned (.tuple #[.slice (some ⟨g,0,none⟩) n cap,.agg #[.int .i64 0,.int .i64 (-1)]])/\w'.ownsRow w.heap.size 5 1 (.slice (some ⟨g,0,none⟩) n cap) n (encL (askOf (prat r.kn b).n (prat r.kn b).len ((prat r.kn b).lks r.K r.S (partsN (symN r.S (prat r.kn b).len) r.K))))/\Below w.heap.size w w')
theorem rask_any{B rb:Nat}{r:Rrv}{w:World}(h:RrAt w B rb r)(ok:r.Ok):
 Calls Tryz.prog 55 #[.pointer (some ⟨rb,0,none⟩)] w (RAskGives r w):=by
 have hE0:=heap_alloc_new w (.cells #[.int .i64 0,.int .i64 0] 139);have hb0:=(Below.refl w.heap.size w).alloc (Nat.le_refl _) (.cells #[.int .i64 0,.int .i64 0] 139);have hrl:=lt_of_block h.blk;obtain⟨ka,kc,hkv,_⟩:=own_form2 h.kown;have HOK:Hid r.Ok:=ok;have hfew:=ok.few;clear ok;go_enter Tryz.func55,Tryz.ntmps55;go_upto_region 1 with fail;generalize w.alloc (.cells #[.int .i64 0,.int .i64 0] 139)=W at *;have hW:=h.above hb0;obtain⟨_,_,_,c3,_,_,c6⟩:=hW.cells;rw[hkv]at c3
 have HKN:Hid (∀ i,i<r.kn.length->∃ g,ka=some ⟨g,0,none⟩/\W.cell? ⟨g,i*3,none⟩=some (.int .i64 ((prat r.kn i).n:Int))/\W.cell? ⟨g,i*3+1,none⟩=some (.int .i64 ((prat r.kn i).len:Int))/\W.cell? ⟨g,i*3+2,none⟩=some (prat r.kn i).pv):=fun i hi=>by
  obtain⟨g,c,hv,q⟩:=hW.known hi;rw[hkv]at hv;simp only[Value.slice.injEq]at hv;exact⟨g,hv.1,q⟩
 have HW:Hid (RrAt W B rb r):=hW;have HB0:Hid (Below w.heap.size w W):=hb0;have HE0:Hid (W.heap[w.heap.size]?=some (.cells #[.int .i64 0,.int .i64 0] 139 (0,0))):=hE0;clear hkv h hW hb0 hE0
 cases hs:r.shut with
 | true=>
  rw[hs]at c6;go_wp2_with fail;refine(plain_err 8 _).mono ?_;rintro e w2 ⟨rfl,hb2⟩;have hE2:=(hb2.block _ (lt_of_block HE0.out)).trans HE0.out;obtain⟨y0,y1,f0,f1⟩:=twoE hE2;obtain⟨p1,p2⟩:=putE w2 w.heap.size _ _ (.int .i64 8) (.int .i64 (-1)) _ hE2;obtain⟨q0,q1,_,_⟩:=twoE p1;have hbw2:Below w.heap.size w w2:=HB0.out.trans (hb2.mono HB0.out.size);have hfin:Below w.heap.size w _:=hbw2.trans (p2.toBelow hbw2.size (fun k hk q=>by omega));clear c6 c3;go_wp2_with fail;exact bodyPost_ret (v:=.tuple #[.slice none 0 0,.agg #[.int .i64 8,.int .i64 (-1)]]) (by simp[results,Tryz.results55,go_sem,q0,q1]) rfl (.inl ⟨by first | trivial|exact hs,rfl,hfin⟩)
 | false=>
  rw[hs]at c6;have HS:Hid (r.shut=false):=hs;clear hs;obtain⟨m,hm⟩:∃ m,m=r.kn.length:=⟨_,rfl⟩;have HM:Hid (m=r.kn.length):=hm;rw[<- hm]at HKN c3 hfew;clear hm;go_wp2_with fail;clear c6
  go_loopw[4,5] (fun tb ti wr=>∃ i nq:Nat,i<=m/\ti=.int .i64 i/\tb=bestV (bestP r.kn i)/\wr=W.drewN nq) (fun _ ti _=>m - (intOf ti).toNat)
  case atStart=>exact⟨0,0,by omega,rfl,rfl,rfl⟩
  case round=>
   obtain⟨i,nq,hi,rfl,rfl,rfl⟩:=hrel;by_cases hlt:i<m
   ·have hlt1:(i:Int)<(m:Int):=by omega
    have hlt0:(0:Int)<=(i:Int):=by omega
    obtain⟨g,rfl,z0,_,_⟩:=HKN.out i hlt
    cases hb:bestP r.kn i with
    | none=>
     have HN:Hid (bestP r.kn (i+1)=some i):=by show _=_;rw[bestP,hb]
     clear hb;unfold bestV;simp only;go_upto_region 7 with fail
     go_quiet (fail)
     go_wp2_with fail
     go_roundw
     case rel=>exact⟨i+1,_,by omega,by go_num,by rw[HN.out],rfl⟩
     case measure=>simp[intOf];omega
    | some b=>
     have hbl:=bestP_lt _ _ _ hb;have hb0:(0:Int)<=(b:Int):=by omega
     have hb1:(b:Int)<(m:Int):=by omega
     have hb2:¬(b:Int)<0:=by omega
     obtain⟨g2,hg2,z1,_,_⟩:=HKN.out b (by omega);simp only[Option.some.injEq,Addr.mk.injEq]at hg2;obtain⟨rfl,-,-⟩:=hg2;have HN:Hid (bestP r.kn (i+1)=if(prat r.kn i).n<(prat r.kn b).n then some i else some b):=by show _=_;rw[bestP,hb]
     clear hb;obtain⟨ni,hni⟩:∃ x,x=(prat r.kn i).n:=⟨_,rfl⟩;obtain⟨nb,hnb⟩:∃ x,x=(prat r.kn b).n:=⟨_,rfl⟩;rw[<- hni]at z0 HN;rw[<- hnb]at z1 HN;clear hni hnb;unfold bestV;simp only;by_cases hc:ni<nb
     ·have hc1:(ni:Int)<(nb:Int):=by omega
      go_upto_region 7 with fail
      go_quiet (fail)
      go_wp2_with fail
      go_roundw
      case rel=>exact⟨i+1,_,by omega,by go_num,by rw[HN.out,if_pos hc],rfl⟩
      case measure=>simp[intOf];omega
     ·have hc1:¬(ni:Int)<(nb:Int):=by omega
      go_upto_region 7 with fail
      go_quiet (fail)
      go_wp2_with fail
      go_roundw
      case rel=>exact⟨i+1,_,by omega,by go_num,by rw[HN.out,if_neg hc],rfl⟩
      case measure=>simp[intOf];omega
   ·obtain rfl:i=m:=by omega
    have hlt1:¬(i:Int)<(i:Int):=by omega
    have hbd:Below w.heap.size w (W.drewN nq):=HB0.out.trans ((below_drew rfl).mono HB0.out.size);have hE1:(W.drewN nq).heap[w.heap.size]?=some (.cells #[.int .i64 0,.int .i64 0] 139 (0,0)):=HE0.out
    cases hb:bestP r.kn i with
    | none=>
     rw[HM.out]at hb;have HBN:Hid (bestP r.kn r.kn.length=none):=hb;clear hb;unfold bestV;simp only;go_upto_region 10 with fail;generalize W.drewN nq=W1 at *;go_wp2_with fail;refine(none_err _).mono ?_;rintro e w2 ⟨rfl,hb2⟩;have hE2:=(hb2.block _ (lt_of_block hE1)).trans hE1;obtain⟨y0,y1,f0,f1⟩:=twoE hE2;obtain⟨p1,p2⟩:=putE w2 w.heap.size _ _ (.int .i64 0) (.int .i64 (-1)) _ hE2;obtain⟨q0,q1,_,_⟩:=twoE p1;have hbw2:Below w.heap.size w w2:=hbd.trans (hb2.mono hbd.size);have hfin:Below w.heap.size w _:=hbw2.trans (p2.toBelow hbw2.size (fun k hk q=>by omega));clear c3;go_wp2_with fail;exact bodyPost_ret (v:=.tuple #[.slice none 0 0,.agg #[.int .i64 0,.int .i64 (-1)]]) (by simp[results,Tryz.results55,go_sem,q0,q1]) rfl (.inr (.inl ⟨HS.out,HBN.out,rfl,hfin⟩))
    | some b=>
     rw[HM.out]at hb;have HBS:Hid (bestP r.kn r.kn.length=some b):=hb;have hbl:b<i:=by have:=bestP_lt _ _ _ hb;have:=HM.out;omega
     clear hb;have hb0:(0:Int)<=(b:Int):=by omega
     have hb1:(b:Int)<(i:Int):=by omega
     have hb2:¬(b:Int)<0:=by omega
     obtain⟨g,rfl,z0,z1,z2⟩:=HKN.out b hbl;have hW1:RrAt (W.drewN nq) B rb r:=HW.out.kept (fun _ _=>rfl);obtain⟨pa,pc,hpv,_⟩:=own_form2 (HW.out.pown b (by have:=HM.out;omega));obtain⟨hn2,hlen2,hps2⟩:=HOK.out.part b (by have:=HM.out;omega);obtain⟨k1,k8,kn,n16,s1,s8⟩:=HOK.out.cfg;have hTr:=symN_range (S:=r.S) (len:=(prat r.kn b).len) s1;have hQl:=partsN_le (a:=symN r.S (prat r.kn b).len) k1;have HBL:Hid (∀ W,Calls Tryz.prog 94 #[.agg #[.int .i64 (r.K:Int),.int .i64 (r.N:Int),.int .i64 (r.S:Int)],.int .i64 ((prat r.kn b).len:Int)] W fun e w'=>e=.returned (.int .i64 (partsN (symN r.S (prat r.kn b).len) r.K:Int))/\Below W.heap.size W w'):=fun W=>rblocks_any r.K r.N r.S _ HOK.out.cfg (by omega) W
     have HSR:Hid (∀(W:World) (q:Nat),q<partsN (symN r.S (prat r.kn b).len) r.K->Calls Tryz.prog 96 #[.agg #[.int .i64 (r.K:Int),.int .i64 (r.N:Int),.int .i64 (r.S:Int)],.int .i64 ((prat r.kn b).len:Int),.int .i64 q] W fun e w'=>e=.returned (.int .i64 (srcN r.K (symN r.S (prat r.kn b).len) q:Int))/\Below W.heap.size W w'):=fun W q hq=>rsources_any r.K r.N r.S _ q HOK.out.cfg (by omega) (partsN_mul k1 hq) W
     have HKW:Hid (∀(W:World) (q:Nat),q<=1000->RrAt W B rb r->Calls Tryz.prog 95 #[.agg #[.int .i64 ((prat r.kn b).n:Int),.int .i64 ((prat r.kn b).len:Int),(prat r.kn b).pv],.int .i64 q,.int .i64 (-1)] W fun e w'=>e=.returned (.tuple #[.int .i64 (cntP (prat r.kn b).ps q (prat r.kn b).ps.length:Int),.bool (hasP (prat r.kn b).ps q (-1) (prat r.kn b).ps.length)])/\Below W.heap.size W w'):=fun W q hq hW=>knows_any (hW.pown b (by have:=HM.out;omega)) rfl hps2 hq
     have HS8:Hid (∀ q,srcN r.K (symN r.S (prat r.kn b).len) q<=8):=fun q=>by unfold srcN;omega
     have HCL:Hid (∀ q,cntP (prat r.kn b).ps q (prat r.kn b).ps.length<=1000):=fun q=>Nat.le_trans (cntP_le _ _ _) hps2
     have HLE:Hid (∀ n,((prat r.kn b).lks r.K r.S n).length<=n):=(prat r.kn b).lks_le r.K r.S;have HLS:Hid (∀ q,(prat r.kn b).lks r.K r.S (q+1)=if 0<srcN r.K (symN r.S (prat r.kn b).len) q - cntP (prat r.kn b).ps q (prat r.kn b).ps.length then(prat r.kn b).lks r.K r.S q++[(q,srcN r.K (symN r.S (prat r.kn b).len) q - cntP (prat r.kn b).ps q (prat r.kn b).ps.length)] else(prat r.kn b).lks r.K r.S q):=fun q=>rfl
     have hQ2:partsN (symN r.S (prat r.kn b).len) r.K<=256:=by omega
     have HCS:Hid (∀ X,RrAt X B rb r->X.cell? ⟨rb,0,none⟩=some (.int .i64 (r.K:Int))/\X.cell? ⟨rb,1,none⟩=some (.int .i64 (r.N:Int))/\X.cell? ⟨rb,2,none⟩=some (.int .i64 (r.S:Int))):=fun X hX=>by
      obtain⟨q0,q1,q2,_⟩:=hX.cells;exact⟨q0,q1,q2⟩
     rw[hpv]at z2 HKW;have c3':(W.drewN nq).cell? ⟨rb,3,none⟩=some (.slice (some ⟨g,0,none⟩) i kc):=c3;have z0':(W.drewN nq).cell? ⟨g,b*3,none⟩=some (.int .i64 ((prat r.kn b).n:Int)):=z0;have z1':(W.drewN nq).cell? ⟨g,b*3+1,none⟩=some (.int .i64 ((prat r.kn b).len:Int)):=z1;have z2':(W.drewN nq).cell? ⟨g,b*3+2,none⟩=some (.slice pa (prat r.kn b).ps.length pc):=z2;clear z0 z1 z2 c3 hpv hTr hQl;unfold bestV;simp only;go_upto_region 11 with fail;have HRG:Hid (RAskGives r w=RAskGives r w):=rfl;generalize W.drewN nq=W1 at *;obtain⟨xn,hxn⟩:∃ x,x=(prat r.kn b).n:=⟨_,rfl⟩;obtain⟨xl,hxl⟩:∃ x,x=(prat r.kn b).len:=⟨_,rfl⟩;obtain⟨L,hL⟩:∃ x,x=(prat r.kn b).ps.length:=⟨_,rfl⟩;have HXN:Hid (xn=(prat r.kn b).n):=hxn;have HXL:Hid (xl=(prat r.kn b).len):=hxl;rw[<- hxn]at z0' HKW hn2;rw[<- hxl]at z1' HKW HBL HSR HS8 HLS hlen2 hQ2;rw[<- hL]at z2' HKW HCL HLS hps2;clear hxn hxl hL;obtain⟨Q,hQ⟩:∃ x,x=partsN (symN r.S xl) r.K:=⟨_,rfl⟩;have HQ:Hid (Q=partsN (symN r.S xl) r.K):=hQ;rw[<- hQ]at HBL HSR hQ2;clear hQ;have hX:=heap_alloc_new W1 (.cells #[.int .i64 xn,.int .i64 xl,.slice pa L pc] 204);have hbX:=(Below.refl W1.heap.size W1).alloc (Nat.le_refl _) (.cells #[.int .i64 xn,.int .i64 xl,.slice pa L pc] 204);go_upto_region 12 with fail;generalize W1.alloc (.cells #[.int .i64 xn,.int .i64 xl,.slice pa L pc] 204)=W2 at *;have h2:=hW1.above hbX;have hE2:=(hbX.block _ (lt_of_block hE1)).trans hE1;have hB2:=hbd.trans (hbX.mono hbd.size);have HH2:Hid (RrAt W2 B rb r):=h2;have HX:Hid (W2.heap[W1.heap.size]?=some (.cells #[.int .i64 xn,.int .i64 xl,.slice pa L pc] 204 (0,0))):=hX;have HE2:Hid (W2.heap[w.heap.size]?=some (.cells #[.int .i64 0,.int .i64 0] 139 (0,0))):=hE2;have HB2:Hid (Below w.heap.size w W2):=hB2;generalize W1.heap.size=xb at *;clear c3' z0' z1' z2' hX hbX h2 hE2 hB2 hW1 hE1 hbd hb0 hb1 hb2 HW HB0 HE0 HKN;obtain⟨iU,hiU,hiU0,hiU1,hiU2⟩:=Tryz.u8_parts;go_wp2_with fail
     go_loopw[7,8,9,10,11,12] (fun tn v t _ _ _ wr=>∃ q:Nat,q<=Q/\t=.int .i64 q/\tn=.int .i64 (((prat r.kn b).lks r.K r.S q).length:Int)/\wr.ownsRow W2.heap.size 5 1 v (2*((prat r.kn b).lks r.K r.S q).length) (encL (((prat r.kn b).lks r.K r.S q).flatMap (fun d=>[by8 d.1,by8 d.2])))/\Below W2.heap.size W2 wr/\((prat r.kn b).lks r.K r.S q=[]->v=.slice none 0 0)) (fun _ _ t _ _ _ _=>Q - (intOf t).toNat)
     case atStart=>exact⟨0,by omega,rfl,rfl,World.ownsRow_nil ..,Below.refl _ _,fun _=>rfl⟩
     case round=>
      obtain⟨q,hq,rfl,rfl,hown,hbr,hnl⟩:=hrel;have hr:=HH2.out.above hbr;obtain⟨y0,y1,y2⟩:=HCS.out wr hr;have hXr:=(hbr.block _ (lt_of_block HX.out)).trans HX.out;have x1:wr.cell? ⟨xb,1,none⟩=some (.int .i64 xl):=cell_of_row wr _ 1 _ _ _ hXr;obtain⟨X,hX⟩:∃ x,x=(prat r.kn b).lks r.K r.S q:=⟨_,rfl⟩;have hle:=HLE.out q;have HLQ:=HLS.out q;have HXX:Hid (X=(prat r.kn b).lks r.K r.S q):=hX;rw[<- hX]at hown hle HLQ hnl;rw[<- hX];have HLQ:Hid _:=HLQ;clear hX;obtain⟨va,vc,hvv,_⟩:=own_form2 hown;obtain⟨wA,hwA⟩:∃ x,x=wr:=⟨wr,rfl⟩;subst hwA;obtain rfl:=hvv;have HNL:Hid (X=[]->Value.slice va (2*X.length) vc=.slice none 0 0):=hnl;clear hnl;have HXr:Hid (wA.heap[xb]?=some (.cells #[.int .i64 xn,.int .i64 xl,.slice pa L pc] 204 (0,0))):=hXr;have HHr:Hid (RrAt wA B rb r):=hr;have HBR:Hid (Below W2.heap.size W2 wA):=hbr;have HOW:Hid (wA.ownsRow W2.heap.size 5 1 (.slice va (2*X.length) vc) (2*X.length) (encL (X.flatMap (fun d=>[by8 d.1,by8 d.2])))):=hown;clear hXr hr hbr hown;go_upto_region 15 with fail
      go_region_held3 (fun w'=>w'.cell? ⟨rb,0,none⟩=some (.int .i64 (r.K:Int))/\w'.cell? ⟨rb,1,none⟩=some (.int .i64 (r.N:Int))/\w'.cell? ⟨rb,2,none⟩=some (.int .i64 (r.S:Int))/\w'.cell? ⟨xb,1,none⟩=some (.int .i64 xl)) (first | go_keep|exact hkeep) (first
       | (go_at_call 94;refine(HBL.out _).mono ?_;rintro e w1 ⟨rfl,hb1⟩;have hkeep:w1.cell? ⟨rb,0,none⟩=some (.int .i64 (r.K:Int))/\w1.cell? ⟨rb,1,none⟩=some (.int .i64 (r.N:Int))/\w1.cell? ⟨rb,2,none⟩=some (.int .i64 (r.S:Int))/\w1.cell? ⟨xb,1,none⟩=some (.int .i64 xl):=⟨by rw[hb1.cell (lt_of_cell y0)];exact y0,by rw[hb1.cell (lt_of_cell y1)];exact y1,by rw[hb1.cell (lt_of_cell y2)];exact y2,by rw[hb1.cell (lt_of_cell x1)];exact x1⟩))
      have hb1':=Below.undraw hb1;have HB1:Hid (Below W2.heap.size W2 w1):=HBR.out.trans (hb1'.mono HBR.out.size);have HX1:Hid (w1.heap[xb]?=some (.cells #[.int .i64 xn,.int .i64 xl,.slice pa L pc] 204 (0,0))):=(hb1'.block _ (lt_of_block HXr.out)).trans HXr.out;have HH1:Hid (RrAt w1 B rb r):=HHr.out.above hb1';have HO1:Hid (w1.ownsRow W2.heap.size 5 1 (.slice va (2*X.length) vc) (2*X.length) (encL (X.flatMap (fun d=>[by8 d.1,by8 d.2])))):=own_of_block HOW.out (fun g hg=>hb1'.block g (HOW.out.lt g hg).2);clear y0 y1 y2 x1 hkeep hb1 hb1' HBR HXr HHr HOW;by_cases hlt:q<Q
      ·have hlt1:(q:Int)<(Q:Int):=by omega
       have x0:w1.cell? ⟨xb,0,none⟩=some (.int .i64 xn):=cell_of_row w1 _ 0 _ _ _ HX1.out;have x1:w1.cell? ⟨xb,1,none⟩=some (.int .i64 xl):=cell_of_row w1 _ 1 _ _ _ HX1.out;have x2:w1.cell? ⟨xb,2,none⟩=some (.slice pa L pc):=cell_of_row w1 _ 2 _ _ _ HX1.out;go_wp2_with fail;refine(HKW.out _ q (by omega) HH1.out).mono ?_;rintro e w2 ⟨rfl,hb2⟩;have HB2':Hid (Below W2.heap.size W2 w2):=HB1.out.trans (hb2.mono HB1.out.size);have HX2:Hid (w2.heap[xb]?=some (.cells #[.int .i64 xn,.int .i64 xl,.slice pa L pc] 204 (0,0))):=(hb2.block _ (lt_of_block HX1.out)).trans HX1.out;have HHh2:Hid (RrAt w2 B rb r):=HH1.out.above hb2;have HO2:Hid (w2.ownsRow W2.heap.size 5 1 (.slice va (2*X.length) vc) (2*X.length) (encL (X.flatMap (fun d=>[by8 d.1,by8 d.2])))):=own_of_block HO1.out (fun g hg=>hb2.block g (HO1.out.lt g hg).2);clear x0 x1 x2 hb2 HB1 HX1 HH1 HO1;obtain⟨y0,y1,y2⟩:=HCS.out w2 HHh2.out;have x1:w2.cell? ⟨xb,1,none⟩=some (.int .i64 xl):=cell_of_row w2 _ 1 _ _ _ HX2.out;have HSQ:=HSR.out;have hs8:=HS8.out q;have hcl:=HCL.out q;obtain⟨sn,hsn⟩:∃ x,x=srcN r.K (symN r.S xl) q:=⟨_,rfl⟩;obtain⟨cn,hcn⟩:∃ x,x=cntP (prat r.kn b).ps q L:=⟨_,rfl⟩;have HSQ:Hid (∀ W:World,Calls Tryz.prog 96 #[.agg #[.int .i64 (r.K:Int),.int .i64 (r.N:Int),.int .i64 (r.S:Int)],.int .i64 xl,.int .i64 q] W fun e w'=>e=.returned (.int .i64 sn)/\Below W.heap.size W w'):=fun W=>by rw[hsn];exact HSR.out W q hlt
       rw[<- hsn]at hs8 HLQ;rw[<- hcn]at hcl HLQ;rw[<- hcn];clear hsn hcn;generalize hasP (prat r.kn b).ps q (-1) L=hp;have hwm:IntKind.i64.wrap ((sn:Int) - (cn:Int))=(sn:Int) - (cn:Int):=by rw[IntKind.wrap_i64];omega
       go_upto_region 18 with fail
       go_region_held3 (fun w'=>w'.cell? ⟨rb,0,none⟩=some (.int .i64 (r.K:Int))/\w'.cell? ⟨rb,1,none⟩=some (.int .i64 (r.N:Int))/\w'.cell? ⟨rb,2,none⟩=some (.int .i64 (r.S:Int))/\w'.cell? ⟨xb,1,none⟩=some (.int .i64 xl)) (first | go_keep|exact hkeep) (first
        | (go_at_call 96;refine(HSQ.out _).mono ?_;rintro e w3 ⟨rfl,hb3⟩;have hkeep:w3.cell? ⟨rb,0,none⟩=some (.int .i64 (r.K:Int))/\w3.cell? ⟨rb,1,none⟩=some (.int .i64 (r.N:Int))/\w3.cell? ⟨rb,2,none⟩=some (.int .i64 (r.S:Int))/\w3.cell? ⟨xb,1,none⟩=some (.int .i64 xl):=⟨by rw[hb3.cell (lt_of_cell y0)];exact y0,by rw[hb3.cell (lt_of_cell y1)];exact y1,by rw[hb3.cell (lt_of_cell y2)];exact y2,by rw[hb3.cell (lt_of_cell x1)];exact x1⟩))
       have hb3':=Below.undraw hb3;have HB3:Hid (Below W2.heap.size W2 w3):=HB2'.out.trans (hb3'.mono HB2'.out.size);have HO3:Hid (w3.ownsRow W2.heap.size 5 1 (.slice va (2*X.length) vc) (2*X.length) (encL (X.flatMap (fun d=>[by8 d.1,by8 d.2])))):=own_of_block HO2.out (fun g hg=>hb3'.block g (HO2.out.lt g hg).2);clear y0 y1 y2 x1 hkeep hb3 hb3' HB2' HX2 HHh2 HO2;by_cases hc:cn<sn
       ·obtain⟨d,hd⟩:∃ d:Nat,sn=cn+d:=⟨sn - cn,by omega⟩
        have hd0:0<d:=by omega
        have hd8:d<=8:=by omega
        have HLR:Hid ((prat r.kn b).lks r.K r.S (q+1)=X++[(q,d)]):=by
         show _=_;rw[HLQ.out,if_pos (by omega),show sn - cn=d by omega]
        have hdd:(sn:Int) - (cn:Int)=(d:Int):=by omega
        rw[hdd]at hwm;clear HLQ;have hpos1:(0:Int)<(d:Int):=by omega
        have HMX:Hid (2*X.length+2<=maxLen):=by show _<=_;unfold maxLen;omega
        have HEN:Hid (encL (X.flatMap (fun d=>[by8 d.1,by8 d.2]))++[Value.int .u8 (q:Int),Value.int .u8 (d:Int)]=encL ((X++[(q,d)]).flatMap (fun d=>[by8 d.1,by8 d.2]))):=by
         show _=_;rw[<- by8_int (x:=q) (by omega),<- by8_int (x:=d) (by omega)];simp[encL]
        have hown:=HO3.out;generalize encL (X.flatMap (fun d=>[by8 d.1,by8 d.2]))=E0 at hown HEN HO3;have hs3:=HB3.out.size;obtain⟨Xl,hXl⟩:∃ x,x=X.length:=⟨_,rfl⟩;have HXl:Hid (Xl=X.length):=hXl;rw[<- hXl]at hown HMX hle HO3;rw[<- hXl];clear hXl hd;simp only[hdd];go_wp2_with (at_builtin;refine wpList_append_lies _ rfl _ _ _ rfl W2.heap.size 5 iU (.int .u8 0) 1 1 Tryz.underlying33 hiU hiU0 hiU1 hiU2 rfl (by omega) (.slice va (2*Xl) vc) (2*Xl) E0 rfl (hown.alloc _) ⟨w3.heap.size,0,none⟩ 2 2 [.int .u8 (q:Int),.int .u8 (d:Int)] rfl rfl (cell_two_at w3 _ _ _ _ rfl) (by intro u hu;simp at hu;rcases hu with rfl|rfl<;>rfl) (by omega) HMX.out (by omega) (by simp;omega) _ rfl ?_);intro g6 cap6 w6 hown6 hgr6 hlie6 hlt6;go_wp2_with fail
        go_roundw
        case rel=>
         refine⟨q+1,by omega,by go_num,by rw[HLR.out,List.length_append,<- HXl.out];go_num,?_,((HB3.out.alloc hs3 _).grown hgr6 (by simp;omega) (fun t ht=>(hown.lt t ht).1)),fun h=>by rw[HLR.out]at h;simp at h⟩;rw[HLR.out,<- HEN.out,List.length_append,<- HXl.out];exact hown6
        case measure=>simp[intOf];omega
       ·have HLR:Hid ((prat r.kn b).lks r.K r.S (q+1)=X):=by
         show _=_;rw[HLQ.out,if_neg (by omega)]
        clear HLQ;have hpos1:¬(0:Int)<(sn:Int) - (cn:Int):=by omega
        go_wp2_with fail
        go_roundw
        case rel=>
         refine⟨q+1,by omega,by go_num,by rw[HLR.out],?_,HB3.out,fun h=>HNL.out (by rw[HLR.out]at h;exact h)⟩;rw[HLR.out];exact HO3.out
        case measure=>simp[intOf];omega
      ·obtain rfl:q=Q:=by omega
       have hlt1:¬(q:Int)<(q:Int):=by omega
       have x0:w1.cell? ⟨xb,0,none⟩=some (.int .i64 xn):=cell_of_row w1 _ 0 _ _ _ HX1.out;have x1:w1.cell? ⟨xb,1,none⟩=some (.int .i64 xl):=cell_of_row w1 _ 1 _ _ _ HX1.out;clear HLQ;have hE1:=(HB1.out.block _ (lt_of_block HE2.out)).trans HE2.out;have hBw1:=HB2.out.trans (HB1.out.mono HB2.out.size);have hsw1:=hBw1.size;have HGO:Hid (∀(g n cap:Nat) (w9:World),w9.ownsRow w.heap.size 5 1 (.slice (some ⟨g,0,none⟩) n cap) n (encL (askOf xn xl X))->Below w.heap.size w w9->RAskGives r w (.returned (.tuple #[.slice (some ⟨g,0,none⟩) n cap,.agg #[.int .i64 0,.int .i64 (-1)]])) w9):=fun g n cap w9 ho hb=>.inr (.inr ⟨HS.out,b,g,n,cap,HBS.out,rfl,by rw[<- HXN.out,<- HXL.out,<- HQ.out,<- HXX.out];exact ho,hb⟩)
       by_cases hX0:X=[]
       ·have hv0:=HNL.out hX0
        have HGO':Hid (∀(g n cap:Nat) (w9:World),w9.ownsRow w.heap.size 5 1 (.slice (some ⟨g,0,none⟩) n cap) n (encL ([by8 2,by8 xn,by8 (xl/256),by8 xl]++[by8 0]))->Below w.heap.size w w9->RAskGives r w (.returned (.tuple #[.slice (some ⟨g,0,none⟩) n cap,.agg #[.int .i64 0,.int .i64 (-1)]])) w9):=fun g n cap w9 ho hb=>HGO.out g n cap w9 (by rw[hX0];exact ho) hb
        subst hX0;simp only[Value.slice.injEq]at hv0;obtain⟨rfl,-,rfl⟩:=hv0;have hO5:=five_own w1 (xl:=xl) (M:=0) hn2 (by omega) 0 (by decide);have hb5:Below w1.heap.size w1 (w1.alloc (.cells #[.int .u8 2,.int .u8 (xn:Int),.int .u8 ((xl:Int)/256),.int .u8 ((xl:Int)%256),.int .u8 0] 5)):=(Below.refl _ _).alloc (Nat.le_refl _) _;go_upto_region 23 with fail;generalize w1.alloc (.cells #[.int .u8 2,.int .u8 (xn:Int),.int .u8 ((xl:Int)/256),.int .u8 ((xl:Int)%256),.int .u8 0] 5)=w5 at *;have hE5:=(hb5.block _ (lt_of_block hE1)).trans hE1;have hBw5:=hBw1.trans (hb5.mono hBw1.size);have hO5:=own_base2 hO5 hsw1;have hE1l:=lt_of_block hE1;generalize w1.heap.size=g5 at *;clear x0 x1 hb5;go_wp2_with fail;refine(none_err _).mono ?_;rintro e w6 ⟨rfl,hb6⟩;have hE6:=(hb6.block _ (lt_of_block hE5)).trans hE5;obtain⟨y0,y1,f0,f1⟩:=twoE hE6;obtain⟨p1,p2⟩:=putE w6 w.heap.size _ _ (.int .i64 0) (.int .i64 (-1)) _ hE6;obtain⟨q0,q1,_,_⟩:=twoE p1;have hbw6:Below w.heap.size w w6:=hBw5.trans (hb6.mono hBw5.size);have hfin:Below w.heap.size w _:=hbw6.trans (p2.toBelow hbw6.size (fun k hk q=>by omega));have hO6:=own_of_block hO5 (fun g hg=>hb6.block g (hO5.lt g hg).2);have hO7:((w6.setCell ⟨w.heap.size,0,none⟩ (.int .i64 0)).setCell ⟨w.heap.size,1,none⟩ (.int .i64 (-1))).ownsRow w.heap.size 5 1 (.slice (some ⟨g5,0,none⟩) 5 5) 5 (encL ([by8 2,by8 xn,by8 (xl/256),by8 xl]++[by8 0])):=own_of_block hO6 (fun g hg=>p2.block g (hO6.lt g hg).2 (fun z=>by have e:g5=g:=(by simpa [Value.ownBlock] using hg);omega));go_wp2_with fail;exact bodyPost_ret (v:=.tuple #[.slice (some ⟨g5,0,none⟩) 5 5,.agg #[.int .i64 0,.int .i64 (-1)]]) (by simp[results,Tryz.results55,go_sem,q0,q1]) rfl (HGO'.out g5 5 5 _ hO7 hfin)
       ·have hXp:1<=X.length:=by
         cases X with
         | nil=>exact absurd rfl hX0
         | cons=>simp
        have hown:=HO1.out;obtain⟨ga,ca,hv6,_,_⟩:=hown.form (by omega);simp only[Value.slice.injEq]at hv6;obtain⟨rfl,-,rfl⟩:=hv6;obtain⟨M,hM⟩:∃ x,x=X.length:=⟨_,rfl⟩;have HGO':Hid (∀(g n cap:Nat) (w9:World),w9.ownsRow w.heap.size 5 1 (.slice (some ⟨g,0,none⟩) n cap) n (encL ([by8 2,by8 xn,by8 (xl/256),by8 xl]++[by8 M])++encL (X.flatMap (fun d=>[by8 d.1,by8 d.2])))->Below w.heap.size w w9->RAskGives r w (.returned (.tuple #[.slice (some ⟨g,0,none⟩) n cap,.agg #[.int .i64 0,.int .i64 (-1)]])) w9):=fun g n cap w9 ho hb=>HGO.out g n cap w9 (by unfold askOf;rw[<- hM];simpa [encL] using ho) hb
        have HE:Hid (∀ u ∈ encL (X.flatMap (fun d=>[by8 d.1,by8 d.2])),u.oneCell'=true):=encL_one _;have hL2:(X.flatMap (fun d=>[by8 d.1,by8 d.2])).length=2*M:=by rw[hM];exact pair_len X
        have HLE2:Hid ((encL (X.flatMap (fun d=>[by8 d.1,by8 d.2]))).length=(2*M)*1):=by show _=_;simp only[encL,List.length_map];omega
        have HCE:Hid (∀ X':World,Below w1.heap.size w1 X'->∀ j v,(encL (X.flatMap (fun d=>[by8 d.1,by8 d.2])))[j]?=some v->X'.cell? ((⟨ga,0,none⟩:Addr).add j)=some v):=fun X' hb j v hj=>by
         have h1:=hown.cells (g:=ga) rfl j v hj;rw[hb.cell (lt_of_cell h1)];exact h1
        have hO5:=five_own w1 (xl:=xl) (M:=M) hn2 (by omega) ((M:Int)%256) (by unfold by8;rw[BitVec.toNat_ofNat];omega);have hb5:Below w1.heap.size w1 (w1.alloc (.cells #[.int .u8 2,.int .u8 (xn:Int),.int .u8 ((xl:Int)/256),.int .u8 ((xl:Int)%256),.int .u8 ((M:Int)%256)] 5)):=(Below.refl _ _).alloc (Nat.le_refl _) _;rw[<- hM]at hXp hle;rw[<- hM];clear hM hown hX0;have hM2:M<=256:=by omega
        generalize encL (X.flatMap (fun d=>[by8 d.1,by8 d.2]))=EX at *;go_upto_region 23 with fail;generalize w1.alloc (.cells #[.int .u8 2,.int .u8 (xn:Int),.int .u8 ((xl:Int)/256),.int .u8 ((xl:Int)%256),.int .u8 ((M:Int)%256)] 5)=w5 at *;have HC5:=HCE.out w5 hb5;have HC5:Hid _:=HC5;have hE5:=(hb5.block _ (lt_of_block hE1)).trans hE1;have hBw5:=hBw1.trans (hb5.mono hBw1.size);have hs15:=hb5.size;have hE1l:=lt_of_block hE1;have hMX:5+2*M<=maxLen:=by unfold maxLen;omega
        have HMX:Hid (5+2*M<=maxLen):=hMX;generalize encL ([by8 2,by8 xn,by8 (xl/256),by8 xl]++[by8 M])=E5 at *;have hga:w5.heap.size=w5.heap.size:=rfl;generalize w1.heap.size=g5 at *;clear x0 x1 hb5 hMX;go_wp2_with (at_builtin;refine wpList_append_lies _ rfl _ _ _ rfl g5 5 iU (.int .u8 0) 1 1 Tryz.underlying33 hiU hiU0 hiU1 hiU2 rfl (by omega) (.slice (some ⟨g5,0,none⟩) 5 5) 5 E5 rfl hO5 ⟨ga,0,none⟩ (2*M) vc EX rfl HLE2.out HC5.out HE.out (by omega) HMX.out (by omega) (by omega) _ rfl ?_);intro g6 cap6 w6 hown6 hgr6 hlie6 hlt6;have hown6:=own_base2 hown6 hsw1
        have hg6:¬ g6=w.heap.size:=by
         rcases hlie6 with q|q
         ·simp[Value.ownBlock]at q;omega
         ·omega
        have hE6:w6.heap[w.heap.size]?=some (.cells #[.int .i64 0,.int .i64 0] 139 (0,0)):=(grown_block hgr6 (by omega) (by simp[Value.ownBlock];omega)).trans hE5;have hBw6:Below w.heap.size w w6:=hBw5.grown hgr6 (by omega) (fun t ht=>by simp[Value.ownBlock]at ht;omega);clear hgr6 hlie6 hlt6 hO5 HC5 HCE HE HLE2;go_wp2_with fail;refine(none_err _).mono ?_;rintro e w7 ⟨rfl,hb7⟩;have hE7:=(hb7.block _ (lt_of_block hE6)).trans hE6;obtain⟨y0,y1,f0,f1⟩:=twoE hE7;obtain⟨p1,p2⟩:=putE w7 w.heap.size _ _ (.int .i64 0) (.int .i64 (-1)) _ hE7;obtain⟨q0,q1,_,_⟩:=twoE p1;have hbw7:Below w.heap.size w w7:=hBw6.trans (hb7.mono hBw6.size);have hfin:Below w.heap.size w _:=hbw7.trans (p2.toBelow hbw7.size (fun k hk q=>by omega));have hO7:=own_of_block hown6 (fun g hg=>hb7.block g (hown6.lt g hg).2);have hO8:((w7.setCell ⟨w.heap.size,0,none⟩ (.int .i64 0)).setCell ⟨w.heap.size,1,none⟩ (.int .i64 (-1))).ownsRow w.heap.size 5 1 (.slice (some ⟨g6,0,none⟩) (5+2*M) cap6) (5+2*M) (E5++EX):=own_of_block hO7 (fun g hg=>p2.block g (hO7.lt g hg).2 (fun z=>by have e:g6=g:=(by simpa [Value.ownBlock] using hg);omega));go_wp2_with fail;exact bodyPost_ret (v:=.tuple #[.slice (some ⟨g6,0,none⟩) (5+2*M) cap6,.agg #[.int .i64 0,.int .i64 (-1)]]) (by simp[results,Tryz.results55,go_sem,q0,q1]) rfl (HGO'.out g6 _ _ _ hO8 hfin)
def Rrv.begin(r:Rrv)(m len:Nat)(kv:Value):Rrv:={r with kn:=r.kn++[⟨m,len,[],.slice none 0 0⟩],kv:=kv}
def Prt.more(x:Prt)(p:Pk)(pv:Value):Prt:={x with ps:=x.ps++[p],pv:=pv}
def Rrv.add(r:Rrv)(k:Nat)(p:Pk)(pv:Value):Rrv:={r with kn:=r.kn.set k ((prat r.kn k).more p pv)}
def Rrv.took(r:Rrv)(k:Nat)(t:Tn)(tv wv kv:Value):Rrv:={r with kn:=r.kn.eraseIdx k,kv:=kv,wh:=r.wh++[t.n],wv:=wv,tk:=r.tk++[t],tv:=tv}
theorem prat_push(kn:List Prt)(x:Prt)(i:Nat)(h:i<kn.length):prat (kn++[x]) i=prat kn i:=by simp[prat,List.getD,List.getElem?_append_left h]
theorem prat_last(kn:List Prt)(x:Prt):prat (kn++[x]) kn.length=x:=by simp[prat,List.getD]
theorem prat_erase(kn:List Prt)(k i:Nat):prat (kn.eraseIdx k) i=prat kn (if i<k then i else i+1):=by
 unfold prat;rw[List.getD_eq_getElem?_getD,List.getD_eq_getElem?_getD,List.getElem?_eraseIdx];split<;>rfl
def Rrv.book(r:Rrv)(rb b:Nat):Prop:=b=rb∨r.kv.ownBlock=some b∨r.wv.ownBlock=some b∨r.tv.ownBlock=some b∨∃ i,i<r.kn.length/\(prat r.kn i).pv.ownBlock=some b
theorem Rrv.book_foot{r:Rrv}{rb b:Nat}(h:r.book rb b):r.foot rb b:=by
 rcases h with h|h|h|h|⟨i,hi,h⟩
 ·exact .inl h
 ·exact .inr (.inl h)
 ·exact .inr (.inr (.inl h))
 ·exact .inr (.inr (.inr (.inl h)))
 ·exact .inr (.inr (.inr (.inr (.inr ⟨i,hi,.inl h⟩))))
theorem RrAt.notBook{w:World}{B rb b:Nat}{r:Rrv}{cs:Array Value}(h:RrAt w B rb r)(hb:w.heap[b]?=some (.cells cs 5 (0,0))):¬ r.book rb b:=by
 intro q;rcases q with q|q|q|q|⟨i,hi,q⟩
 ·have hk:=h.blk
  rw[<- q,hb]at hk;simp only[Option.some.injEq,Obj.cells.injEq]at hk;exact absurd hk.2.1 (by decide)
 ·exact own_ne h.kown q hb (by decide) rfl
 ·exact own_ne h.wown q hb (by decide) rfl
 ·exact own_ne h.town q hb (by decide) rfl
 ·exact own_ne (h.pown i hi) q hb (by decide) rfl
def BRow(w:World)(B:Nat)(d:Row):Prop:=B<=d.b/\(∃ cs,w.heap[d.b]?=some (.cells cs 5 (0,0)))/\Bs w d.b d.o d.l
theorem BRow.but{w w':World}{B rb:Nat}{r:Rrv}{d:Row}(hR:RrAt w B rb r)(hb:But (r.book rb) w w')(h:BRow w B d):BRow w' B d:=by
 obtain⟨q1,⟨cs,q2⟩,q3⟩:=h;have he:=hb.block _ (lt_of_block q2) (hR.notBook q2);exact⟨q1,⟨cs,he.trans q2⟩,bs_block q3 he⟩
theorem RrAt.begin{w w':World}{B rb m len:Nat}{r:Rrv}{kv:Value}(h:RrAt w B rb r)(hb:But (fun b=>b=rb∨r.kv.ownBlock=some b) w w')
 (hblk:w'.heap[rb]?=some (.cells #[.int .i64 (r.K:Int),.int .i64 (r.N:Int),.int .i64 (r.S:Int),kv,r.wv,r.tv,.bool r.shut] 200 (0,0)))
 (hk:w'.ownsRow B 204 3 kv (r.kn.length+1) (r.kn.flatMap Prt.cells++[.int .i64 m,.int .i64 len,.slice none 0 0])):RrAt w' B rb (r.begin m len kv):=by
 have hne:∀ {n sz:Nat} {e:TypeId} {v:Value} {xs:List Value},w.ownsRow B e sz v n xs->e≠200->e≠204->w'.ownsRow B e sz v n xs:=fun ho he he2=>hb.own ho (fun g hg q=>by
  rcases q with q|q
  ·exact own_ne ho hg h.blk he q
  ·exact own2_ne ho h.kown he2 g hg q)
 have hbb:But (r.book rb) w w':=hb.wide (fun b _ q=>q.elim .inl (fun q=>.inr (.inl q)));have hl:(r.begin m len kv).kn.length=r.kn.length+1:=by simp[Rrv.begin]
 have hat:∀ i,i<r.kn.length+1->(i<r.kn.length/\prat (r.begin m len kv).kn i=prat r.kn i)∨(i=r.kn.length/\prat (r.begin m len kv).kn i=⟨m,len,[],.slice none 0 0⟩):=fun i hi=>by
  by_cases e:i<r.kn.length
  ·exact .inl ⟨e,prat_push _ _ _ e⟩
  ·obtain rfl:i=r.kn.length:=by omega
   exact .inr ⟨rfl,prat_last _ _⟩
 refine⟨h.low,hblk,?_,fun i hi=>?_,fun i hi p hp=>?_,hne h.wown (by decide) (by decide),hne h.town (by decide) (by decide),fun t ht=>(show BRow w B t.r from h.objs t ht).but h hbb,fun i j hi hj g h1 h2=>?_⟩
 ·rw[hl]
  have e:(r.begin m len kv).kn.flatMap Prt.cells=r.kn.flatMap Prt.cells++[.int .i64 m,.int .i64 len,.slice none 0 0]:=by
   unfold Rrv.begin;simp only[List.flatMap_append];rfl
  rw[e];exact hk
 ·rw[hl]at hi
  rcases hat i hi with⟨e,q⟩|⟨e,q⟩
  ·rw[q];exact hne (h.pown i e) (by decide) (by decide)
  ·rw[q];exact World.ownsRow_nil ..
 ·rw[hl]at hi
  rcases hat i hi with⟨e,q⟩|⟨e,q⟩
  ·rw[q]at hp;exact(show BRow w B p.d from h.rows i e p hp).but h hbb
  ·rw[q]at hp;simp at hp
 ·rw[hl]at hi hj
  rcases hat i hi with⟨e,q⟩|⟨e,q⟩
  ·rcases hat j hj with⟨e',q'⟩|⟨e',q'⟩
   ·rw[q]at h1;rw[q']at h2;exact h.apart i j e e' g h1 h2
   ·rw[q']at h2;simp[Value.ownBlock]at h2
  ·rw[q]at h1;simp[Value.ownBlock]at h1
theorem Rrv.begin_foot{r:Rrv}{rb m len b H:Nat}{kv:Value}(hk:∀ g,kv.ownBlock=some g->r.kv.ownBlock=some g∨H<=g)(h:(r.begin m len kv).foot rb b):r.foot rb b∨H<=b:=by
 rcases h with h|h|h|h|h|⟨i,hi,h⟩
 ·exact .inl (.inl h)
 ·exact(hk b h).imp (fun q=>.inr (.inl q)) id
 ·exact .inl (.inr (.inr (.inl h)))
 ·exact .inl (.inr (.inr (.inr (.inl h))))
 ·exact .inl (.inr (.inr (.inr (.inr (.inl h)))))
 ·have hi':i<r.kn.length+1:=by simpa [Rrv.begin] using hi
  by_cases e:i<r.kn.length
  ·have q:prat (r.begin m len kv).kn i=prat r.kn i:=prat_push _ _ _ e
   rw[q]at h;exact .inl (.inr (.inr (.inr (.inr (.inr ⟨i,e,h⟩)))))
  ·obtain rfl:i=r.kn.length:=by omega
   have q:prat (r.begin m len kv).kn r.kn.length=⟨m,len,[],.slice none 0 0⟩:=prat_last _ _;rw[q]at h;simp[Value.ownBlock]at h
theorem RrAt.add{w w':World}{B rb k:Nat}{r:Rrv}{p:Pk}{pv:Value}(h:RrAt w B rb r)(hk:k<r.kn.length)(hb:But (fun b=>r.kv.ownBlock=some b∨(prat r.kn k).pv.ownBlock=some b) w w')
 (hkn:w'.ownsRow B 204 3 r.kv r.kn.length ((r.kn.set k ((prat r.kn k).more p pv)).flatMap Prt.cells))
 (hpv:w'.ownsRow B 60 7 pv ((prat r.kn k).ps.length+1) (((prat r.kn k).ps++[p]).flatMap (pkCells (prat r.kn k).n (prat r.kn k).len))) (hp:BRow w' B p.d)
 (hpn:∀ g,pv.ownBlock=some g->(prat r.kn k).pv.ownBlock=some g∨w.heap.size<=g):RrAt w' B rb (r.add k p pv):=by
 have hne:∀ {n sz:Nat} {e:TypeId} {v:Value} {xs:List Value},w.ownsRow B e sz v n xs->e≠60->e≠204->w'.ownsRow B e sz v n xs:=fun ho he he2=>hb.own ho (fun g hg q=>by
  rcases q with q|q
  ·exact own2_ne ho h.kown he2 g hg q
  ·exact own2_ne ho (h.pown k hk) he g hg q)
 have hbb:But (r.book rb) w w':=hb.wide (fun b _ q=>q.elim (fun q=>.inr (.inl q)) (fun q=>.inr (.inr (.inr (.inr ⟨k,hk,q⟩)))));have hl:(r.add k p pv).kn.length=r.kn.length:=by simp[Rrv.add]
 have hat:∀ i,prat (r.add k p pv).kn i=if k=i then(prat r.kn k).more p pv else prat r.kn i:=fun i=>prat_set hk _ i
 have hrb:w'.heap[rb]?=w.heap[rb]?:=hb.block rb (lt_of_block h.blk) (fun q=>by
  rcases q with q|q
  ·exact own_ne h.kown q h.blk (by decide) rfl
  ·exact own_ne (h.pown k hk) q h.blk (by decide) rfl)
 have hlt:∀ i,i<r.kn.length->∀ g,(prat r.kn i).pv.ownBlock=some g->g<w.heap.size:=fun i hi g hg=>((h.pown i hi).lt g hg).2
 refine⟨h.low,hrb.trans h.blk,?_,fun i hi=>?_,fun i hi q hq=>?_,hne h.wown (by decide) (by decide),hne h.town (by decide) (by decide),fun t ht=>(show BRow w B t.r from h.objs t ht).but h hbb,fun i j hi hj g h1 h2=>?_⟩
 ·rw[hl];exact hkn
 ·rw[hl]at hi
  rw[hat];split
  ·rename_i e;subst e
   have:((prat r.kn k).more p pv).ps.length=(prat r.kn k).ps.length+1:=by simp[Prt.more]
   rw[this];exact hpv
  ·rename_i e
   exact hb.own (h.pown i hi) (fun g hg q=>by
    rcases q with q|q
    ·exact own2_ne (h.pown i hi) h.kown (by decide) g hg q
    ·exact e (h.apart k i hk hi g q hg))
 ·rw[hl]at hi
  rw[hat]at hq;split at hq
  ·rename_i e;subst e
   rcases List.mem_append.1 hq with hq|hq
   ·exact(show BRow w B q.d from h.rows k hk q hq).but h hbb
   ·rw[List.mem_singleton.1 hq];exact hp
  ·exact(show BRow w B q.d from h.rows i hi q hq).but h hbb
 ·rw[hl]at hi hj
  rw[hat]at h1 h2;split at h1
  ·rename_i e;subst e
   split at h2
   ·rename_i e;exact e
   ·rename_i e
    rcases hpn g h1 with q|q
    ·exact absurd (h.apart k j hk hj g q h2) e
    ·have:=hlt j hj g h2;omega
  ·rename_i e1
   split at h2
   ·rename_i e;subst e
    rcases hpn g h2 with q|q
    ·exact absurd (h.apart k i hk hi g q h1) e1
    ·have:=hlt i hi g h1;omega
   ·exact h.apart i j hi hj g h1 h2
theorem Rrv.add_foot{r:Rrv}{rb k b H:Nat}{p:Pk}{pv:Value}(hk:k<r.kn.length)(hpn:∀ g,pv.ownBlock=some g->(prat r.kn k).pv.ownBlock=some g∨H<=g)(hp:H<=p.d.b)(h:(r.add k p pv).foot rb b):r.foot rb b∨H<=b:=by
 rcases h with h|h|h|h|h|⟨i,hi,h⟩
 ·exact .inl (.inl h)
 ·exact .inl (.inr (.inl h))
 ·exact .inl (.inr (.inr (.inl h)))
 ·exact .inl (.inr (.inr (.inr (.inl h))))
 ·exact .inl (.inr (.inr (.inr (.inr (.inl h)))))
 ·have hi':i<r.kn.length:=by simpa [Rrv.add] using hi
  have hat:prat (r.add k p pv).kn i=if k=i then(prat r.kn k).more p pv else prat r.kn i:=prat_set hk _ i;rw[hat]at h;split at h
  ·rename_i e;subst e
   rcases h with h|⟨q,hq,h⟩
   ·exact(hpn b h).imp (fun z=>.inr (.inr (.inr (.inr (.inr ⟨k,hk,.inl z⟩))))) id
   ·rcases List.mem_append.1 hq with hq|hq
    ·exact .inl (.inr (.inr (.inr (.inr (.inr ⟨k,hk,.inr ⟨q,hq,h⟩⟩)))))
    ·rw[List.mem_singleton.1 hq]at h
     exact .inr (by omega)
  ·exact .inl (.inr (.inr (.inr (.inr (.inr ⟨i,hi',h⟩)))))
theorem Rrv.took_foot{r:Rrv}{rb k b H:Nat}{t:Tn}{tv wv kv:Value}(hk:k<r.kn.length)(h1:∀ g,kv.ownBlock=some g->r.kv.ownBlock=some g∨H<=g)(h2:∀ g,wv.ownBlock=some g->r.wv.ownBlock=some g∨H<=g)(h3:∀ g,tv.ownBlock=some g->r.tv.ownBlock=some g∨H<=g)(h4:H<=t.r.b)(h:(r.took k t tv wv kv).foot rb b):r.foot rb b∨H<=b:=by
 rcases h with h|h|h|h|⟨u,hu,h⟩|⟨i,hi,h⟩
 ·exact .inl (.inl h)
 ·exact(h1 b h).imp (fun q=>.inr (.inl q)) id
 ·exact(h2 b h).imp (fun q=>.inr (.inr (.inl q))) id
 ·exact(h3 b h).imp (fun q=>.inr (.inr (.inr (.inl q)))) id
 ·rcases List.mem_append.1 hu with hu|hu
  ·exact .inl (.inr (.inr (.inr (.inr (.inl ⟨u,hu,h⟩)))))
  ·rw[List.mem_singleton.1 hu]at h
   exact .inr (by omega)
 ·have hl:(r.took k t tv wv kv).kn.length=r.kn.length - 1:=by simp[Rrv.took,List.length_eraseIdx,hk]
  rw[hl]at hi;have e:prat (r.took k t tv wv kv).kn i=prat r.kn (if i<k then i else i+1):=prat_erase _ _ _;rw[e]at h;exact .inl (.inr (.inr (.inr (.inr (.inr ⟨_,by split<;>omega,h⟩)))))
def Rrv.pushT(r:Rrv)(t:Tn)(tv:Value):Rrv:={r with tk:=r.tk++[t],tv:=tv}
def Rrv.pushW(r:Rrv)(n:Nat)(wv:Value):Rrv:={r with wh:=r.wh++[n],wv:=wv}
theorem RrAt.pushT{w w':World}{B rb:Nat}{r:Rrv}{t:Tn}{tv:Value}(h:RrAt w B rb r)(hb:But (fun b=>b=rb∨r.tv.ownBlock=some b) w w')
 (hblk:w'.heap[rb]?=some (.cells #[.int .i64 (r.K:Int),.int .i64 (r.N:Int),.int .i64 (r.S:Int),r.kv,r.wv,tv,.bool r.shut] 200 (0,0)))
 (htv:w'.ownsRow B 136 2 tv (r.tk.length+1) (flat2 (tnVals r.tk)++[.int .i64 (t.n:Int),t.r.val])) (ht:BRow w' B t.r):RrAt w' B rb (r.pushT t tv):=by
 have hne:∀ {n sz:Nat} {e:TypeId} {v:Value} {xs:List Value},w.ownsRow B e sz v n xs->e≠200->e≠136->w'.ownsRow B e sz v n xs:=fun ho he he2=>hb.own ho (fun g hg q=>by
  rcases q with q|q
  ·exact own_ne ho hg h.blk he q
  ·exact own2_ne ho h.town he2 g hg q)
 have hbb:But (r.book rb) w w':=hb.wide (fun b _ q=>q.elim .inl (fun q=>.inr (.inr (.inr (.inl q)))));refine⟨h.low,hblk,hne h.kown (by decide) (by decide),fun i hi=>hne (h.pown i hi) (by decide) (by decide),fun i hi p hp=>(show BRow w B p.d from h.rows i hi p hp).but h hbb,hne h.wown (by decide) (by decide),?_,fun u hu=>?_,h.apart⟩
 ·show World.ownsRow _ _ _ _ tv (r.tk++[t]).length (flat2 (tnVals (r.tk++[t])))
  have e:flat2 (tnVals (r.tk++[t]))=flat2 (tnVals r.tk)++[.int .i64 (t.n:Int),t.r.val]:=by simp[tnVals,flat2_append];rfl
  rw[e,List.length_append];exact htv
 ·rcases List.mem_append.1 hu with hu|hu
  ·exact(show BRow w B u.r from h.objs u hu).but h hbb
  ·rw[List.mem_singleton.1 hu];exact ht
theorem RrAt.pushW{w w':World}{B rb n:Nat}{r:Rrv}{wv:Value}(h:RrAt w B rb r)(hb:But (fun b=>b=rb∨r.wv.ownBlock=some b) w w')
 (hblk:w'.heap[rb]?=some (.cells #[.int .i64 (r.K:Int),.int .i64 (r.N:Int),.int .i64 (r.S:Int),r.kv,wv,r.tv,.bool r.shut] 200 (0,0)))
 (hwv:w'.ownsRow B 3 1 wv (r.wh.length+1) ((r.wh.map fun n:Nat=>Value.int .i64 n)++[.int .i64 n])):RrAt w' B rb (r.pushW n wv):=by
 have hne:∀ {n sz:Nat} {e:TypeId} {v:Value} {xs:List Value},w.ownsRow B e sz v n xs->e≠200->e≠3->w'.ownsRow B e sz v n xs:=fun ho he he2=>hb.own ho (fun g hg q=>by
  rcases q with q|q
  ·exact own_ne ho hg h.blk he q
  ·exact own2_ne ho h.wown he2 g hg q)
 have hbb:But (r.book rb) w w':=hb.wide (fun b _ q=>q.elim .inl (fun q=>.inr (.inr (.inl q))));refine⟨h.low,hblk,hne h.kown (by decide) (by decide),fun i hi=>hne (h.pown i hi) (by decide) (by decide),fun i hi p hp=>(show BRow w B p.d from h.rows i hi p hp).but h hbb,?_,hne h.town (by decide) (by decide),fun u hu=>(show BRow w B u.r from h.objs u hu).but h hbb,h.apart⟩;show World.ownsRow _ _ _ _ wv (r.wh++[n]).length ((r.wh++[n]).map fun n:Nat=>Value.int .i64 n);rw[List.length_append,List.map_append];exact hwv
theorem RrAt.drop{w w':World}{B rb k:Nat}{r:Rrv}{kv:Value}(h:RrAt w B rb r)(hk:k<r.kn.length)(hb:But (fun b=>b=rb) w w')
 (hblk:w'.heap[rb]?=some (.cells #[.int .i64 (r.K:Int),.int .i64 (r.N:Int),.int .i64 (r.S:Int),kv,r.wv,r.tv,.bool r.shut] 200 (0,0)))
 (hkv:w'.ownsRow B 204 3 kv (r.kn.length - 1) ((r.kn.eraseIdx k).flatMap Prt.cells)):RrAt w' B rb {r with kn:=r.kn.eraseIdx k,kv:=kv}:=by
 have hne:∀ {n sz:Nat} {e:TypeId} {v:Value} {xs:List Value},w.ownsRow B e sz v n xs->e≠200->w'.ownsRow B e sz v n xs:=fun ho he=>hb.own ho (fun g hg q=>own_ne ho hg h.blk he q)
 have hbb:But (r.book rb) w w':=hb.wide (fun b _ q=>.inl q);have hl:(r.kn.eraseIdx k).length=r.kn.length - 1:=by simp[List.length_eraseIdx,hk]
 have hat:∀ i,i<r.kn.length - 1->prat (r.kn.eraseIdx k) i=prat r.kn (if i<k then i else i+1)/\(if i<k then i else i+1)<r.kn.length:=fun i hi=>⟨prat_erase _ _ _,by split<;>omega⟩
 refine⟨h.low,hblk,?_,fun i hi=>?_,fun i hi q hq=>?_,hne h.wown (by decide),hne h.town (by decide),fun u hu=>(show BRow w B u.r from h.objs u hu).but h hbb,fun i j hi hj g h1 h2=>?_⟩
 ·show World.ownsRow _ _ _ _ kv (r.kn.eraseIdx k).length _
  rw[hl];exact hkv
 ·change i<(r.kn.eraseIdx k).length at hi
  rw[hl]at hi;obtain⟨e,hlt⟩:=hat i hi;show World.ownsRow _ _ _ _ (prat (r.kn.eraseIdx k) i).pv (prat (r.kn.eraseIdx k) i).ps.length _;rw[e];exact hne (h.pown _ hlt) (by decide)
 ·change i<(r.kn.eraseIdx k).length at hi
  rw[hl]at hi;obtain⟨e,hlt⟩:=hat i hi
  change q ∈(prat (r.kn.eraseIdx k) i).ps at hq
  rw[e]at hq;exact(show BRow w B q.d from h.rows _ hlt q hq).but h hbb
 ·change i<(r.kn.eraseIdx k).length at hi
  change j<(r.kn.eraseIdx k).length at hj
  rw[hl]at hi hj;obtain⟨e1,l1⟩:=hat i hi;obtain⟨e2,l2⟩:=hat j hj
  change (prat (r.kn.eraseIdx k) i).pv.ownBlock=some g at h1
  change (prat (r.kn.eraseIdx k) j).pv.ownBlock=some g at h2
  rw[e1]at h1;rw[e2]at h2;have:=h.apart _ _ l1 l2 g h1 h2;by_cases a:i<k<;>by_cases c:j<k<;>simp only[a,c,if_true,if_false]at this<;>omega
theorem nodup_get{α:Type}{l:List α}(h:l.Nodup){i j:Nat}(hij:i<j)(hj:j<l.length):l[i]?≠l[j]?:=by
 have:=List.pairwise_iff_getElem.1 h i j (by omega) hj hij;rw[List.getElem?_eq_getElem (by omega),List.getElem?_eq_getElem hj];intro q;exact this (Option.some.inj q)
def ofB(ps:List Pk)(b:Nat):List Pk:=ps.filter fun p=>decide (p.blk=b)
theorem ofB_snoc(ps:List Pk)(p:Pk)(b:Nat):ofB (ps++[p]) b=ofB ps b++(if p.blk=b then [p] else []):=by
 unfold ofB;rw[List.filter_append];congr 1;by_cases h:p.blk=b<;>simp[h]
theorem ofB_mem{ps:List Pk}{b:Nat}{p:Pk}(h:p ∈ ofB ps b):p ∈ ps/\p.blk=b:=by
 unfold ofB at h;simpa using List.mem_filter.1 h
theorem take_pk{ps:List Pk}{i:Nat}(hi:i<ps.length):ps.take (i+1)=ps.take i++[pkat ps i]:=by
 rw[List.take_add_one,pkat_some hi];rfl
theorem cntP_ofB(ps:List Pk)(b:Nat):∀ i,i<=ps.length->cntP ps b i=(ofB (ps.take i) b).length
 | 0,_=>by simp[cntP,ofB]
 | i+1,h=>by
  rw[cntP,take_pk (by omega),ofB_snoc,List.length_append,cntP_ofB ps b i (by omega)];split<;>rfl
theorem cntP_all(ps:List Pk)(b:Nat):cntP ps b ps.length=(ofB ps b).length:=by rw[cntP_ofB ps b _ (Nat.le_refl _),List.take_length]
theorem hasP_ofB(ps:List Pk)(b:Nat)(pl:Nat):∀ i,i<=ps.length->(hasP ps b (pl:Int) i=true↔pl ∈(ofB (ps.take i) b).map Pk.plc)
 | 0,_=>by simp[hasP,ofB]
 | i+1,h=>by
  rw[hasP,take_pk (by omega),ofB_snoc,List.map_append,List.mem_append,Bool.or_eq_true,hasP_ofB ps b pl i (by omega)];refine or_congr Iff.rfl ?_;by_cases e:(pkat ps i).blk=b
  ·rw[if_pos e]
   simp only[e,decide_true,Bool.true_and,decide_eq_true_eq,List.map_cons,List.map_nil,List.mem_singleton];omega
  ·rw[if_neg e]
   simp[e]
theorem hasP_all(ps:List Pk)(b:Nat)(pl:Nat):hasP ps b (pl:Int) ps.length=true↔pl ∈(ofB ps b).map Pk.plc:=by rw[hasP_ofB ps b pl _ (Nat.le_refl _),List.take_length]
def sumN(f:Nat->Nat):Nat->Nat
 | 0=>0
 | n+1=>sumN f n+f n
theorem sumN_bump(f:Nat->Nat)(c:Nat):∀ n,sumN (fun b=>f b+if c=b then 1 else 0) n=sumN f n+if c<n then 1 else 0
 | 0=>rfl
 | n+1=>by
  rw[sumN,sumN,sumN_bump f c n];by_cases e:c=n
  ·subst e
   simp;omega
  ·by_cases q:c<n
   ·rw[if_pos q,if_neg e,if_pos (by omega)];omega
   ·rw[if_neg q,if_neg e,if_neg (by omega)];omega
theorem sumN_congr{f g:Nat->Nat}:∀ n,(∀ b,b<n->f b=g b)->sumN f n=sumN g n
 | 0,_=>rfl
 | n+1,h=>by rw[sumN,sumN,sumN_congr n (fun b hb=>h b (by omega)),h n (by omega)]
theorem sumN_le{f g:Nat->Nat}:∀ n,(∀ b,b<n->f b<=g b)->sumN f n<=sumN g n
 | 0,_=>Nat.le_refl _
 | n+1,h=>by
  have:=sumN_le (f:=f) (g:=g) n (fun b hb=>h b (by omega));have:=h n (by omega);rw[sumN,sumN];omega
theorem sumN_eq{f g:Nat->Nat}:∀ n,(∀ b,b<n->f b<=g b)->sumN g n<=sumN f n->∀ b,b<n->f b=g b
 | 0,_,_=>fun b hb=>by omega
 | n+1,h,he=>fun b hb=>by
  have h1:=sumN_le (f:=f) (g:=g) n (fun b hb=>h b (by omega));have h2:=h n (by omega);rw[sumN,sumN]at he;by_cases e:b=n
  ·subst e;omega
  ·exact sumN_eq n (fun b hb=>h b (by omega)) (by omega) b (by omega)
theorem sum_ofB(Q:Nat):∀ ps:List Pk,(∀ p ∈ ps,p.blk<Q)->sumN (fun b=>(ofB ps b).length) Q=ps.length
 | [],_=>by
  have:∀ n,sumN (fun b=>(ofB [] b).length) n=0:=fun n=>by
   induction n with
   | zero=>rfl
   | succ n ih=>rw[sumN,ih];rfl
  exact this Q
 | p :: ps,h=>by
  have e:∀ b,b<Q->(ofB (p :: ps) b).length=(ofB ps b).length+if p.blk=b then 1 else 0:=fun b _=>by
   unfold ofB;rw[List.filter_cons];by_cases q:p.blk=b<;>simp[q]
  rw[sumN_congr Q e,sumN_bump,sum_ofB Q ps (fun q hq=>h q (List.mem_cons_of_mem _ hq)),if_pos (h p (List.mem_cons_self ..)),List.length_cons]
theorem sum_src(K T:Nat):∀ n,sumN (srcN K T) n=min (n*K) T
 | 0=>by simp[sumN]
 | n+1=>by
  rw[sumN,sum_src K T n,Nat.succ_mul];unfold srcN;omega
structure Prt.Fit(x:Prt)(K S:Nat):Prop where
 num:x.n<16
 len:x.len<=255
 each:∀ p ∈ x.ps,p.blk<partsN (symN S x.len) K/\p.plc<256/\p.d.l.length=S
 few:∀ b,b<partsN (symN S x.len) K->(ofB x.ps b).length<=srcN K (symN S x.len) b
 nd:∀ b,((ofB x.ps b).map Pk.plc).Nodup
theorem Prt.Fit.total{x:Prt}{K S:Nat}(h:x.Fit K S)(hK:1<=K):x.ps.length<=symN S x.len/\(symN S x.len<=x.ps.length->∀ b,b<partsN (symN S x.len) K->(ofB x.ps b).length=srcN K (symN S x.len) b):=by
 have h1:=sum_ofB (partsN (symN S x.len) K) x.ps (fun p hp=>(h.each p hp).1);have h2:=sum_src K (symN S x.len) (partsN (symN S x.len) K);rw[Nat.min_eq_right (parts_cover _ hK)]at h2;have h3:=sumN_le (f:=fun b=>(ofB x.ps b).length) (g:=srcN K (symN S x.len)) _ h.few;exact⟨by omega,fun hw=>sumN_eq _ h.few (by omega)⟩
theorem Prt.Fit.whole{x:Prt}{K S:Nat}(h:x.Fit K S)(hK:1<=K)(hw:∀ b,b<partsN (symN S x.len) K->(ofB x.ps b).length=srcN K (symN S x.len) b):symN S x.len<=x.ps.length:=by
 have h1:=sum_ofB (partsN (symN S x.len) K) x.ps (fun p hp=>(h.each p hp).1);have h2:=sum_src K (symN S x.len) (partsN (symN S x.len) K);rw[Nat.min_eq_right (parts_cover _ hK)]at h2;have h3:=sumN_congr (f:=fun b=>(ofB x.ps b).length) (g:=srcN K (symN S x.len)) _ hw;omega
theorem fit0{m len K S:Nat}{v:Value}(hm:m<16)(hl:len<=255):(⟨m,len,[],v⟩:Prt).Fit K S:=
 ⟨hm,hl,fun p hp=>by simp at hp,fun b _=>by simp[ofB],fun b=>by simp[ofB]⟩
theorem Prt.Fit.more{x:Prt}{K S:Nat}(h:x.Fit K S){p:Pk}{pv:Value}(hp:p.blk<partsN (symN S x.len) K/\p.plc<256/\p.d.l.length=S)(hu:(ofB x.ps p.blk).length<srcN K (symN S x.len) p.blk)(hn:¬ p.plc ∈(ofB x.ps p.blk).map Pk.plc):(x.more p pv).Fit K S:=by
 refine⟨h.num,h.len,fun q hq=>?_,fun b hb=>?_,fun b=>?_⟩
 ·rcases List.mem_append.1 hq with hq|hq
  ·exact h.each q hq
  ·rw[List.mem_singleton.1 hq];exact hp
 ·show(ofB (x.ps++[p]) b).length<=_
  rw[ofB_snoc,List.length_append];split
  ·rename_i e;subst e
   exact hu
  ·exact h.few b hb
 ·show((ofB (x.ps++[p]) b).map Pk.plc).Nodup
  rw[ofB_snoc,List.map_append];split
  ·rename_i e;subst e
   rw[List.nodup_append];refine⟨h.nd _,by simp,fun a ha c hc=>?_⟩;simp only[List.map_cons,List.map_nil,List.mem_singleton]at hc;rw[hc];exact fun q=>hn (q ▸ ha)
  ·simpa using h.nd b
structure Rrv.Fit(r:Rrv):Prop where
 cfg:Cfg r.K r.N r.S
 few:r.kn.length<=4
 part:∀ i,i<r.kn.length->(prat r.kn i).Fit r.K r.S
 wh:r.wh.length<=1000
 tk:r.tk.length<=1000
theorem Rrv.Fit.ok{r:Rrv}(h:r.Fit):r.Ok:=by
 obtain⟨k1,k8,kn,n16,s1,s8⟩:=h.cfg;have h4:=h.few;refine⟨h.cfg,by omega,fun i hi=>?_⟩;have hf:=h.part i hi;have h1:=(hf.total k1).1;have h2:=symN_range (S:=r.S) (len:=(prat r.kn i).len) s1;have h3:=hf.num;have h5:=hf.len;exact⟨by omega,h5,by omega⟩
def plcZ(ps:List Pk):List Int:=ps.map fun p=>(p.plc:Int)
def rawP(ps:List Pk):List Raw:=ps.map fun p=>⟨p.d.val,p.d.l⟩
def Prt.sy(x:Prt)(S b t:Nat):List Gf.F:=symR (plcZ (ofB x.ps b)) (rawP (ofB x.ps b)) (ofB x.ps b).length (by8 t) S
def Prt.part(x:Prt)(S b:Nat):Nat->List Gf.F
 | 0=>[]
 | t+1=>x.part S b t++x.sy S b t
def Prt.cat(x:Prt)(K S:Nat):Nat->List Gf.F
 | 0=>[]
 | b+1=>x.cat K S b++x.part S b (ofB x.ps b).length
theorem Prt.sy_len(x:Prt)(S b t:Nat):(x.sy S b t).length=S:=symR_length ..
theorem Prt.part_len(x:Prt)(S b:Nat):∀ t,(x.part S b t).length=t*S
 | 0=>by simp[Prt.part]
 | t+1=>by rw[Prt.part,List.length_append,x.part_len S b t,x.sy_len,Nat.succ_mul]
theorem Prt.cat_len(x:Prt)(K S:Nat):∀ b,(x.cat K S b).length=sumN (fun b=>(ofB x.ps b).length) b*S
 | 0=>by simp[Prt.cat,sumN]
 | b+1=>by rw[Prt.cat,List.length_append,x.cat_len K S b,x.part_len,sumN,Nat.add_mul]
theorem plcZ_at(ps:List Pk)(i:Nat)(hi:i<ps.length):zat (plcZ ps) i=((pkat ps i).plc:Int):=by simp[zat,plcZ,pkat,List.getD,hi]
theorem rawP_at(ps:List Pk)(i:Nat)(hi:i<ps.length):wat (rawP ps) i=⟨(pkat ps i).d.val,(pkat ps i).d.l⟩:=by simp[wat,rawP,pkat,List.getD,hi]
theorem plcs_fit{x:Prt}{K S:Nat}(h:x.Fit K S)(b:Nat):placesB (plcZ (ofB x.ps b)) (ofB x.ps b).length=true:=by
 rw[placesB_iff];intro i hi;have hm:pkat (ofB x.ps b) i ∈ ofB x.ps b:=List.mem_of_getElem? (pkat_some hi);have h1:=(h.each _ (ofB_mem hm).1).2.1;refine⟨decide_eq_true (by rw[plcZ_at _ _ hi];omega),?_⟩;rw[<- Bool.not_eq_true,hasB_iff];rintro⟨j,hj,e⟩;rw[plcZ_at _ _ hi,plcZ_at _ _ (by omega)]at e;have hnd:=h.nd b;refine nodup_get hnd hj (by simpa using hi) ?_;rw[List.getElem?_map,List.getElem?_map,pkat_some hi,pkat_some (by omega)];simp only[Option.map_some,Option.some.injEq];omega
def findP(kn:List Prt)(m:Nat):Nat->Option Nat
 | 0=>none
 | i+1=>if(prat kn i).n=m then some i else findP kn m i
theorem findP_some{kn:List Prt}{m:Nat}:∀ {n i:Nat},findP kn m n=some i->i<n/\(prat kn i).n=m
 | 0,i,h=>by simp[findP]at h
 | n+1,i,h=>by
  rw[findP]at h;split at h
  ·rename_i e
   simp only[Option.some.injEq]at h;subst h;exact⟨Nat.lt_succ_self _,e⟩
  ·have:=findP_some h
   exact⟨by omega,this.2⟩
theorem findP_none{kn:List Prt}{m:Nat}:∀ {n:Nat},findP kn m n=none->∀ i,i<n->(prat kn i).n≠m
 | 0,_,i,hi=>by omega
 | n+1,h,i,hi=>by
  rw[findP]at h;split at h
  ·cases h
  ·rename_i e
   by_cases q:i=n
   ·subst q;exact e
   ·exact findP_none h i (by omega)
def Prt.use(x:Prt)(K S bl pl:Nat):Prop:=¬ pl ∈(ofB x.ps bl).map Pk.plc/\(ofB x.ps bl).length<srcN K (symN S x.len) bl
def QTook(q:Rrv)(k:Nat)(q':Rrv):Prop:=
 ((prat q.kn k).ps.length<symN q.S (prat q.kn k).len/\q'=q)∨
 (symN q.S (prat q.kn k).len<=(prat q.kn k).ps.length/\∃ g c tv wv kv,q'=q.took k ⟨(prat q.kn k).n,⟨g,0,c,((prat q.kn k).cat q.K q.S (partsN (symN q.S (prat q.kn k).len) q.K)).take (prat q.kn k).len⟩⟩ tv wv kv)
def QBegun(q:Rrv)(m len k:Nat)(q1:Rrv):Prop:=
 (findP q.kn m q.kn.length=some k/\(prat q.kn k).len=len/\q1=q)∨(findP q.kn m q.kn.length=none/\q.kn.length≠4/\k=q.kn.length/\∃ kv,q1=q.begin m len kv)
def QKept(q1:Rrv)(k bl pl:Nat)(d:List Gf.F)(q':Rrv):Prop:=
 (¬(prat q1.kn k).use q1.K q1.S bl pl/\q'=q1)∨((prat q1.kn k).use q1.K q1.S bl pl/\∃(row:Row) (pv:Value),row.l=d/\QTook (q1.add k ⟨bl,pl,row⟩ pv) k q')
def RrHears(q:Rrv)(l:List Gf.F)(B rb:Nat)(w:World)(e:Ending)(w':World):Prop:=
 if q.shut=true then e=.returned (.agg #[.int .i64 8,.int .i64 (-1)])/\Below w.heap.size w w' else
 match parseE q.K q.N q.S l with
 | some (c,k)=>e=.returned (.agg #[.int .i64 c,.int .i64 k])/\Below w.heap.size w w'
 | none=>if ¬ bt l 0=1∨bt l 1 ∈ q.wh then e=.returned (.agg #[.int .i64 0,.int .i64 (-1)])/\Below w.heap.size w w'
  else(∃ k,findP q.kn (bt l 1) q.kn.length=some k/\(prat q.kn k).len≠lenOf l/\e=.returned (.agg #[.int .i64 6,.int .i64 2])/\Below w.heap.size w w')∨
   (findP q.kn (bt l 1) q.kn.length=none/\q.kn.length=4/\e=.returned (.agg #[.int .i64 3,.int .i64 (-1)])/\Below w.heap.size w w')∨
   (e=.returned (.agg #[.int .i64 0,.int .i64 (-1)])/\But (q.foot rb) w w'/\∃ k q1 q',QBegun q (bt l 1) (lenOf l) k q1/\QKept q1 k (bt (l.drop 4) 0) (bt (l.drop 4) 1) ((l.drop 4).drop 2) q'/\RrAt w' B rb q'/\∀ b,q'.foot rb b->q.foot rb b∨w.heap.size<=b)
structure PSim(k:Kn)(x:Prt):Prop where
 len:k.len=x.len
 ps:∀ b,b<k.ts.length->(gpt k.ts b).ps=(ofB x.ps b).map fun p=>by8 p.plc
 rs:∀ b,b<k.ts.length->(gpt k.ts b).rs.map Row.l=(ofB x.ps b).map fun p=>p.d.l
structure SimO(r:Rcv)(q:Rrv):Prop where
 tk:∀ m,m<16->(r.tk.getD m false=true↔m ∈ q.wh)
 nums:(q.kn.map Prt.n).Nodup
 num:∀ i,i<q.kn.length->∃ kb k,r.kf (prat q.kn i).n=some (kb,k)/\PSim k (prat q.kn i)
 all:∀ m kb k,m<16->r.kf m=some (kb,k)->∃ i,i<q.kn.length/\(prat q.kn i).n=m
 un:r.un.map (fun u=>(u.n,u.l))=q.tk.map (fun t=>(t.n,t.r.l))
 unA:(r.un.map Un.n).Nodup
 unT:∀ u ∈ r.un,u.n<16/\r.tk.getD u.n false=true
 whA:q.wh.Nodup/\∀ m ∈ q.wh,m<16
structure SimR(r:Rcv)(q:Rrv):Prop where
 K:q.K=r.K
 N:q.N=r.N
 S:q.S=r.S
 shut:q.shut=r.shut
 live:r.shut=false->SimO r q
 fit:q.Fit
 nw:r.shut=false->∀ m kb k,m<16->r.kf m=some (kb,k)->¬ k.whole
theorem PSim.cnt{k:Kn}{x:Prt}(h:PSim k x){b:Nat}(hb:b<k.ts.length):(gpt k.ts b).rs.length=(ofB x.ps b).length:=by
 have:=congrArg List.length (h.rs b hb);simpa using this
theorem PSim.lk{k:Kn}{x:Prt}(h:PSim k x){b:Nat}(hb:b<k.ts.length):x.lk k.K k.S b=k.lk b:=by
 unfold Prt.lk Kn.lk Kn.T;rw[cntP_all,h.cnt hb,h.len]
theorem PSim.lks{k:Kn}{x:Prt}(h:PSim k x):∀ n,n<=k.ts.length->x.lks k.K k.S n=k.lks n
 | 0,_=>rfl
 | n+1,hn=>by rw[Prt.lks,Kn.lks,h.lks n (by omega),h.lk (by omega)]
theorem PSim.fit{k:Kn}{x:Prt}(h:PSim k x)(ok:k.Ok)(hx:x.Fit k.K k.S):k.whole↔symN k.S x.len<=x.ps.length:=by
 obtain⟨k1,_⟩:=ok.cfg;have hbl:=ok.blocks;have hT:k.T=symN k.S x.len:=by unfold Kn.T;rw[h.len]
 rw[hT]at hbl;constructor
 ·intro hw
  refine hx.whole k1 (fun b hb=>?_);rw[<- hbl]at hb;rw[<- h.cnt hb,hw b hb,hT]
 ·intro hw b hb
  rw[h.cnt hb,(hx.total k1).2 hw b (by rw[<- hbl];exact hb),hT]
theorem PSim.sy{k:Kn}{x:Prt}(h:PSim k x)(ok:k.Ok){b:Nat}(hb:b<k.ts.length)(t:Nat):x.sy k.S b t=k.sy b t:=by
 have hc:=h.cnt hb;have hps:(gpt k.ts b).ps.length=(ofB x.ps b).length:=by rw[ok.same b hb,hc]
 unfold Prt.sy Kn.sy;refine list_ext (by rw[symOf_length,symR_length]) (fun i hi=>?_);rw[symR_length]at hi;rw[symOf_at _ _ _ _ _ hi,symR_at _ _ _ _ _ _ hi,hps];refine Gf.lag_congr (fun j hj=>?_) (fun j hj=>?_) _
 ·rw[plcZ_at _ _ hj]
  have:at_ (gpt k.ts b).ps j=by8 (pkat (ofB x.ps b) j).plc:=by
   unfold at_;rw[h.ps b hb,List.getD_eq_getElem?_getD,List.getElem?_map,pkat_some hj];rfl
  rw[this];rfl
 ·rw[rawP_at _ _ hj]
  have hj':j<(gpt k.ts b).rs.length:=by omega
  have e:((gpt k.ts b).rs.map Row.l)[j]?=some (pkat (ofB x.ps b) j).d.l:=by rw[h.rs b hb,List.getElem?_map,pkat_some hj];rfl
  rw[List.getElem?_map]at e;have e2:(gpt k.ts b).rs[j]?=some (rat (gpt k.ts b).rs j):=by simp[rat,List.getD,hj']
  rw[e2]at e;simp only[Option.map_some,Option.some.injEq]at e;show at_ (pkat (ofB x.ps b) j).d.l i=_;rw[e]
theorem PSim.part{k:Kn}{x:Prt}(h:PSim k x)(ok:k.Ok){b:Nat}(hb:b<k.ts.length):∀ t,x.part k.S b t=k.part b t
 | 0=>rfl
 | t+1=>by rw[Prt.part,Kn.part,h.part ok hb t,h.sy ok hb]
theorem PSim.cat{k:Kn}{x:Prt}(h:PSim k x)(ok:k.Ok)(hw:k.whole):∀ n,n<=k.ts.length->x.cat k.K k.S n=k.cat n
 | 0,_=>rfl
 | n+1,hn=>by
  have hb:n<k.ts.length:=by omega
  rw[Prt.cat,Kn.cat,h.cat ok hw n (by omega),h.part ok hb,<- h.cnt hb,hw n hb]
theorem PSim.add{k:Kn}{x:Prt}(h:PSim k x){i:Nat}(hi:i<k.ts.length){r d:Row}{pv sv pv':Value}{pl:Nat}(hr:r.l=d.l):PSim (k.add i (by8 pl) r pv sv) (x.more ⟨i,pl,d⟩ pv'):=by
 refine⟨h.len,fun b hb=>?_,fun b hb=>?_⟩
 ·have hb':b<k.ts.length:=by simpa [Kn.add,Kn.setT] using hb
  show(gpt (k.setT i _).ts b).ps=(ofB (x.ps++[⟨i,pl,d⟩]) b).map _;rw[Kn.setT_at hi,ofB_snoc];split
  ·rename_i e;subst e
   rw[List.map_append,<- h.ps i hi];simp
  ·rename_i e
   simpa [e] using h.ps b hb'
 ·have hb':b<k.ts.length:=by simpa [Kn.add,Kn.setT] using hb
  show(gpt (k.setT i _).ts b).rs.map Row.l=(ofB (x.ps++[⟨i,pl,d⟩]) b).map _;rw[Kn.setT_at hi,ofB_snoc];split
  ·rename_i e;subst e
   rw[List.map_append,List.map_append,<- h.rs i hi];simp[hr]
  ·rename_i e
   simpa [e] using h.rs b hb'
theorem kn0_not{K N S len bg:Nat}(hc:Cfg K N S):¬(kn0 K N S len bg).whole:=by
 intro h;obtain⟨k1,k8,kn,n16,s1,s8⟩:=hc;have hT:=symN_range (S:=S) (len:=len) s1;have hc:=parts_cover (symN S len) k1
 have hp:0<partsN (symN S len) K:=by
  rcases Nat.eq_zero_or_pos (partsN (symN S len) K)with e|e
  ·rw[e]at hc;omega
  ·exact e
 have h0:=h 0 (by show 0<(List.replicate _ _).length;simpa using hp);unfold kn0 Kn.T at h0;simp only at h0;rw[gpt0]at h0;simp[pt0,srcN]at h0;omega
theorem psim0(K N S m len bg:Nat)(v:Value):PSim (kn0 K N S len bg) ⟨m,len,[],v⟩:=by
 refine⟨rfl,fun b hb=>?_,fun b hb=>?_⟩
 ·unfold kn0
  simp only;rw[gpt0];simp[pt0,ofB]
 ·unfold kn0
  simp only;rw[gpt0];simp[pt0,ofB]
def obRow(m:Nat):Nat->List Value
 | 0=>[]
 | k+1=>obRow m k++[.int .i64 (-(m:Int)),.slice none 0 0]
theorem obRow_length(m:Nat):∀ k,(obRow m k).length=k*2
 | 0=>rfl
 | k+1=>by simp[obRow,obRow_length m k];omega
theorem obRow_at(m:Nat):∀ k j,j<k->(obRow m k)[j*2]?=some (.int .i64 (-(m:Int)))/\(obRow m k)[j*2+1]?=some (.slice none 0 0)
 | 0,j,h=>by omega
 | k+1,j,h=>by
  have hl:=obRow_length m k;by_cases e:j<k
  ·obtain⟨h1,h2⟩:=obRow_at m k j e
   exact⟨by rw[obRow,List.getElem?_append_left (by omega)];exact h1,by rw[obRow,List.getElem?_append_left (by omega)];exact h2⟩
  ·obtain rfl:j=k:=by omega
   exact⟨by rw[obRow,List.getElem?_append_right (by omega),hl,Nat.sub_self];rfl,by rw[obRow,List.getElem?_append_right (by omega),hl,show j*2+1 - j*2=1 by omega];rfl⟩
def ObOk(w:World)(v:Value)(n m:Nat):Prop:=
 (∃ c,v=.slice none 0 c/\n=0)∨(∃ g c cs,v=.slice (some ⟨g,0,none⟩) n c/\w.heap[g]?=some (.cells cs 136 (0,0))/\∀ j,j<n->cs[j*2]?=some (.int .i64 (-(m:Int)))/\cs[j*2+1]?=some (.slice none 0 0))
theorem ObOk.but{w w':World}{v:Value}{n m:Nat}{S:Nat->Prop}(h:ObOk w v n m)(hb:But S w w')(hn:∀ g,v.ownBlock=some g->¬ S g):ObOk w' v n m:=by
 rcases h with h|⟨g,c,cs,h1,h2,h3⟩
 ·exact .inl h
 ·exact .inr ⟨g,c,cs,h1,by rw[hb.block g (Array.getElem?_eq_some_iff.1 h2).1 (hn g (by rw[h1];rfl))];exact h2,h3⟩
theorem ObOk.kept{w w':World}{v:Value}{n m:Nat}(h:ObOk w v n m)(hk:∀ g,v.ownBlock=some g->w'.heap[g]?=w.heap[g]?):ObOk w' v n m:=by
 rcases h with h|⟨g,c,cs,h1,h2,h3⟩
 ·exact .inl h
 ·exact .inr ⟨g,c,cs,h1,by rw[hk g (by rw[h1];rfl)];exact h2,h3⟩
theorem ObOk.lt{w:World}{v:Value}{n m g:Nat}(h:ObOk w v n m)(hg:v.ownBlock=some g):g<w.heap.size/\∃ cs,w.heap[g]?=some (.cells cs 136 (0,0)):=by
 rcases h with⟨c,h1,_⟩|⟨g',c,cs,h1,h2,h3⟩
 ·rw[h1]at hg;simp[Value.ownBlock]at hg
 ·rw[h1]at hg
  simp[Value.ownBlock]at hg;subst hg;exact⟨(Array.getElem?_eq_some_iff.1 h2).1,cs,h2⟩
theorem own_ob{w:World}{B n m:Nat}{v:Value}(h:w.ownsRow B 136 2 v n (obRow m n)):ObOk w v n m:=by
 rcases h.2 with⟨h1,h2⟩|⟨g,cap,cur,h1,_,h2,h3,_,h4,h5⟩
 ·exact .inl ⟨0,h1,h2⟩
 ·refine .inr ⟨g,cap,cur,h1,h2,fun j hj=>?_⟩
  obtain⟨q1,q2⟩:=obRow_at m n j hj;rw[<- h5]at q1 q2;rw[List.getElem?_take,if_pos (by omega)]at q1 q2;exact⟨by simpa using q1,by simpa using q2⟩
theorem own_ob_less{w:World}{B n k m g c:Nat}{v:Value}(h:w.ownsRow B 136 2 v n (obRow m n))(hg:v.ownBlock=some g)(hk:k<=n):ObOk w (.slice (some ⟨g,0,none⟩) k c) k m:=by
 rcases own_ob h with⟨c',h1,_⟩|⟨g',c',cs,h1,h2,h3⟩
 ·rw[h1]at hg;simp[Value.ownBlock]at hg
 ·rw[h1]at hg
  simp[Value.ownBlock]at hg;subst hg;exact .inr ⟨g',c,cs,rfl,h2,fun j hj=>h3 j (by omega)⟩
theorem HAt.set11{w:World}{hb:Nat}{s:HS}(h:HAt w hb s)(v:Value):HAt (w.setCell ⟨hb,13,none⟩ v) hb {s with objs:=v}:=by unfold HAt;rw[heap_setCell_same w hb 13 _ _ _ h];rfl
theorem HAt.set12{w:World}{hb:Nat}{s:HS}(h:HAt w hb s)(v:Value):HAt (w.setCell ⟨hb,14,none⟩ v) hb {s with bmarks:=v}:=by unfold HAt;rw[heap_setCell_same w hb 14 _ _ _ h];rfl
structure Obs(w:World)(B:Nat)(vo vm:Value)(es:List Ent):Prop where
 own:w.ownsRow B 65 1 vo es.length (es.map (·.v))
 marks:w.ownsRow B 3 1 vm es.length (es.map fun e=>.int .i64 (-(e.m:Int)))
 each:∀ e ∈ es,ObOk w e.v e.n e.m/\e.m<=1000000001/\e.n<=140737488355328
theorem Obs.but{w w':World}{B:Nat}{vo vm:Value}{es:List Ent}{S:Nat->Prop}(h:Obs w B vo vm es)(hb:But S w w')(h1:∀ g,vo.ownBlock=some g->¬ S g)(h2:∀ g,vm.ownBlock=some g->¬ S g)(h3:∀ e ∈ es,∀ g,e.v.ownBlock=some g->¬ S g):Obs w' B vo vm es:=
 ⟨hb.own h.own h1,hb.own h.marks h2,fun e he=>⟨(h.each e he).1.but hb (h3 e he),(h.each e he).2⟩⟩
theorem ObOk.ne_own{w:World}{v:Value}{n m:Nat}(h:ObOk w v n m){B n' sz':Nat}{e':TypeId}{v':Value}{xs':List Value}(h':w.ownsRow B e' sz' v' n' xs')(hne:e'≠136):∀ g,v.ownBlock=some g->v'.ownBlock≠some g:=by
 intro g hg hg';obtain⟨_,cs,hc⟩:=h.lt hg;exact own_ne h' hg' hc hne rfl
theorem ObOk.ne_hands{w:World}{v:Value}{n m hb:Nat}{s:HS}(h:ObOk w v n m)(hH:HAt w hb s):∀ g,v.ownBlock=some g->g≠hb:=by
 intro g hg q;obtain⟨_,cs,hc⟩:=h.lt hg;unfold HAt at hH;rw[q,hH]at hc;simp only[Option.some.injEq,Obj.cells.injEq]at hc;exact absurd hc.2.1 (by decide)
structure KSO(w wr:World)(hb B Bv N n M:Nat)(s:HS)(es:List Ent)(v lv vo vm:Value)(eo em:List Ent)(k:Nat):Prop where
 hands:HAt wr hb {s with n:=(N:Int)+1,objs:=vo,bmarks:=vm}
 own:wr.ownsRow B 65 1 vo eo.length (eo.map (·.v))
 marks:wr.ownsRow B 3 1 vm em.length (em.map fun e=>.int .i64 (-(e.m:Int)))
 each:∀ e ∈ eo,ObOk wr e.v e.n e.m/\e.m<=1000000001/\e.n<=140737488355328
 row:wr.ownsRow Bv 136 2 lv (n+k) (obRow M (n+k))
 objsAt:∀ b,vo.ownBlock=some b->s.objs.ownBlock=some b∨w.heap.size<=b
 marksAt:∀ b,vm.ownBlock=some b->s.bmarks.ownBlock=some b∨w.heap.size<=b
 lvAt:∀ b,lv.ownBlock=some b->v.ownBlock=some b∨w.heap.size<=b
 newAt:∃ es',eo=es++es'/\∀ e ∈ es',∀ b,e.v.ownBlock=some b->v.ownBlock=some b∨w.heap.size<=b
 same:∀ e ∈ eo,∀ g,e.v.ownBlock=some g->lv.ownBlock=some g->e.m=M/\e.n<=n+k
 but:But (fun b=>b=hb∨s.objs.ownBlock=some b∨s.bmarks.ownBlock=some b∨v.ownBlock=some b) w wr
theorem KSO.pushOut{w wr w2:World}{hb B Bv N n M:Nat}{s:HS}{es:List Ent}{v lv vo vm vo':Value}{eo em:List Ent}{k:Nat}(h:KSO w wr hb B Bv N n M s es v lv vo vm eo em k)(hM:M<=1000000001)(hnk:n+k<=140737488355328)
 (hb2:But (fun b=>vo.ownBlock=some b) wr w2) (ho2:w2.ownsRow B 65 1 vo' (eo.length+1) (eo.map (·.v)++[lv])) (hat:∀ b,vo'.ownBlock=some b->vo.ownBlock=some b∨wr.heap.size<=b):
 KSO w (w2.setCell ⟨hb,13,none⟩ vo') hb B Bv N n M s es v lv vo' vm (eo++[⟨lv,n+k,M⟩]) em k:=by
 have hs:=h.but.size;have hvo:∀ b,vo.ownBlock=some b->b≠hb:=fun b hq=>own_ne h.own hq h.hands (by decide)
 have hb3:But (fun b=>vo.ownBlock=some b∨b=hb) wr (w2.setCell ⟨hb,13,none⟩ vo'):=(hb2.wide (fun _ _ q=>.inl q)).setCell (.inl (.inr rfl)) _;have hH2:HAt w2 hb {s with n:=(N:Int)+1,objs:=vo,bmarks:=vm}:=h.hands.kept (hb2.block hb h.hands.lt (fun q=>hvo hb q rfl))
 have farK:∀ u a b,ObOk wr u a b->∀ g,u.ownBlock=some g->¬(vo.ownBlock=some g∨g=hb):=fun u a b hu g hg q=>by
  rcases q with q|q
  ·exact hu.ne_own h.own (by decide) g hg q
  ·exact hu.ne_hands h.hands g hg q
 have hrow:(w2.setCell ⟨hb,13,none⟩ vo').ownsRow Bv 136 2 lv (n+k) (obRow M (n+k)):=hb3.own h.row (farK _ _ _ (own_ob h.row));refine⟨hH2.set11 _,?_,hb3.own h.marks (fun g hg q=>?_),fun e he=>?_,hrow,fun b hq=>?_,h.marksAt,h.lvAt,?_,fun e he=>?_,h.but.then hb3 (fun b hlt q=>?_)⟩
 ·have:=own_of_block ho2 (fun b hq=>Below.heap_setCell w2 ⟨hb,13,none⟩ vo' b (own_ne ho2 hq hH2 (by decide)))
  simpa using this
 ·rcases q with q|q
  ·exact own_own_ne h.marks h.own (by decide) g hg q
  ·exact own_ne h.marks hg h.hands (by decide) q
 ·rcases List.mem_append.1 he with he|he
  ·exact⟨(h.each e he).1.but hb3 (farK _ _ _ (h.each e he).1),(h.each e he).2⟩
  ·obtain rfl:=List.mem_singleton.1 he
   exact⟨own_ob hrow,hM,hnk⟩
 ·rcases hat b hq with q|q
  ·exact h.objsAt b q
  ·right;omega
 ·obtain⟨es',q1,q2⟩:=h.newAt
  refine⟨es'++[⟨lv,n+k,M⟩],by rw[q1,List.append_assoc],fun e he=>?_⟩;rcases List.mem_append.1 he with he|he
  ·exact q2 e he
  ·obtain rfl:=List.mem_singleton.1 he
   exact h.lvAt
 ·rcases List.mem_append.1 he with he|he
  ·exact h.same e he
  ·obtain rfl:=List.mem_singleton.1 he
   exact fun g _ _=>⟨rfl,Nat.le_refl _⟩
 ·rcases q with q|q
  ·rcases h.objsAt b q with q|q
   ·exact .inr (.inl q)
   ·omega
  ·exact .inl q
theorem KSO.pushMark{w wr w2:World}{hb B Bv N n M:Nat}{s:HS}{es:List Ent}{v lv vo vm vm':Value}{eo em:List Ent}{k:Nat}(h:KSO w wr hb B Bv N n M s es v lv vo vm eo em k)(e0:Ent)(he0:e0.m=M)
 (hb2:But (fun b=>vm.ownBlock=some b) wr w2) (ho2:w2.ownsRow B 3 1 vm' (em.length+1) (em.map (fun e=>.int .i64 (-(e.m:Int)))++[.int .i64 (-(M:Int))])) (hat:∀ b,vm'.ownBlock=some b->vm.ownBlock=some b∨wr.heap.size<=b):
 KSO w (w2.setCell ⟨hb,14,none⟩ vm') hb B Bv N n M s es v lv vo vm' eo (em++[e0]) k:=by
 have hs:=h.but.size;have hvm:∀ b,vm.ownBlock=some b->b≠hb:=fun b hq=>own_ne h.marks hq h.hands (by decide)
 have hb3:But (fun b=>vm.ownBlock=some b∨b=hb) wr (w2.setCell ⟨hb,14,none⟩ vm'):=(hb2.wide (fun _ _ q=>.inl q)).setCell (.inl (.inr rfl)) _;have hH2:HAt w2 hb {s with n:=(N:Int)+1,objs:=vo,bmarks:=vm}:=h.hands.kept (hb2.block hb h.hands.lt (fun q=>hvm hb q rfl))
 have farK:∀ u a b,ObOk wr u a b->∀ g,u.ownBlock=some g->¬(vm.ownBlock=some g∨g=hb):=fun u a b hu g hg q=>by
  rcases q with q|q
  ·exact hu.ne_own h.marks (by decide) g hg q
  ·exact hu.ne_hands h.hands g hg q
 refine⟨hH2.set12 _,hb3.own h.own (fun g hg q=>?_),?_,fun e he=>⟨(h.each e he).1.but hb3 (farK _ _ _ (h.each e he).1),(h.each e he).2⟩,hb3.own h.row (farK _ _ _ (own_ob h.row)),h.objsAt,fun b hq=>?_,h.lvAt,h.newAt,h.same,h.but.then hb3 (fun b hlt q=>?_)⟩
 ·rcases q with q|q
  ·exact own_own_ne h.own h.marks (by decide) g hg q
  ·exact own_ne h.own hg h.hands (by decide) q
 ·have:=own_of_block ho2 (fun b hq=>Below.heap_setCell w2 ⟨hb,14,none⟩ vm' b (own_ne ho2 hq hH2 (by decide)))
  simpa [he0] using this
 ·rcases hat b hq with q|q
  ·exact h.marksAt b q
  ·right;omega
 ·rcases q with q|q
  ·rcases h.marksAt b q with q|q
   ·exact .inr (.inr (.inl q))
   ·omega
  ·exact .inl q
theorem KSO.more{w wr w2:World}{hb B Bv N n M g cap:Nat}{s:HS}{es:List Ent}{v lv vo vm:Value}{eo em:List Ent}{k:Nat}(h:KSO w wr hb B Bv N n M s es v lv vo vm eo em k)
 (hb2:But (fun b=>lv.ownBlock=some b) wr w2) (ho2:w2.ownsRow Bv 136 2 (.slice (some ⟨g,0,none⟩) (n+k+1) cap) (n+k+1) (obRow M (n+k)++[.int .i64 (-(M:Int)),.slice none 0 0]))
 (hat:lv.ownBlock=some g∨wr.heap.size<=g/\∀ j,j<wr.heap.size->w2.heap[j]?=wr.heap[j]?):
 KSO w w2 hb B Bv N n M s es v (.slice (some ⟨g,0,none⟩) (n+k+1) cap) vo vm eo em (k+1):=by
 have hs:=h.but.size;have hrep:obRow M (n+k)++[.int .i64 (-(M:Int)),.slice none 0 0]=obRow M (n+(k+1)):=rfl;rw[hrep]at ho2;have hlv:=own_ob h.row;refine⟨h.hands.kept (hb2.block hb h.hands.lt (fun q=>hlv.ne_hands h.hands hb q rfl)),hb2.own h.own (own_own_ne h.own h.row (by decide)),hb2.own h.marks (own_own_ne h.marks h.row (by decide)),fun e he=>?_,ho2,h.objsAt,h.marksAt,fun b hq=>?_,h.newAt,fun e he g' hg' hl=>?_,h.but.then hb2 (fun b hlt q=>?_)⟩
 ·obtain⟨h1,h2⟩:=h.each e he
  refine⟨?_,h2⟩;rcases hat with q|⟨q,hall⟩
  ·by_cases p:e.v.ownBlock=some g
   ·obtain⟨e1,e2⟩:=h.same e he g p q
    rcases h1 with⟨c,q1,q2⟩|⟨g',c,cs,q1,q2,q3⟩
    ·rw[q1]at p;simp[Value.ownBlock]at p
    ·have e3:g'=g:=by rw[q1]at p;simpa [Value.ownBlock] using p
     subst e3;rw[q1,e1];exact own_ob_less ho2 (by rfl) (by omega)
   ·exact h1.but hb2 (fun g' hg' r=>p (by rw[hg',<- q,r]))
  ·exact h1.kept (fun g' hg'=>hall g' (h1.lt hg').1)
 ·have e:g=b:=by simpa [Value.ownBlock] using hq
  subst e;rcases hat with q|⟨q,_⟩
  ·exact h.lvAt g q
  ·right;omega
 ·have e3:g=g':=by simpa [Value.ownBlock] using hl
  subst e3;rcases hat with q|⟨q,_⟩
  ·obtain⟨e1,e2⟩:=h.same e he g hg' q
   exact⟨e1,by omega⟩
  ·have:=((h.each e he).1.lt hg').1;omega
 ·rcases h.lvAt b q with q|q
  ·exact .inr (.inr (.inr q))
  ·omega
structure Rp where
 r:Rcv
 rb:Nat
 q:Rrv
 qb:Nat
def rpVals(qs:List Rp):List (Value×Value):=qs.map fun p=>(.pointer (some ⟨p.rb,0,none⟩),.pointer (some ⟨p.qb,0,none⟩))
def rpat(qs:List Rp)(i:Nat):Rp:=qs.getD i ⟨rcv0 0 0 0 0 0,0,rrv0 0 0 0,0⟩
theorem rpat_some{qs:List Rp}{i:Nat}(h:i<qs.length):qs[i]?=some (rpat qs i):=by simp[rpat,List.getD,h]
theorem rpat_set{qs:List Rp}{i:Nat}(hi:i<qs.length)(p:Rp)(j:Nat):rpat (qs.set i p) j=if i=j then p else rpat qs j:=by
 unfold rpat;rw[List.getD_eq_getElem?_getD,List.getD_eq_getElem?_getD,List.getElem?_set];split
 ·rename_i e;subst e;simp
 ·rfl
theorem rpat_push(qs:List Rp)(p:Rp)(i:Nat)(h:i<qs.length):rpat (qs++[p]) i=rpat qs i:=by simp[rpat,List.getD,List.getElem?_append_left h]
theorem rpat_last(qs:List Rp)(p:Rp):rpat (qs++[p]) qs.length=p:=by simp[rpat,List.getD]
theorem rpVals_set{qs:List Rp}{i:Nat}(hi:i<qs.length){p:Rp}(h1:p.rb=(rpat qs i).rb)(h2:p.qb=(rpat qs i).qb):rpVals (qs.set i p)=rpVals qs:=by
 unfold rpVals;refine List.ext_getElem? (fun j=>?_);rw[List.getElem?_map,List.getElem?_map,List.getElem?_set];split
 ·rename_i e;subst e
  rw[rpat_some hi];simp[h1,h2]
 ·rfl
theorem RcAt.lower{w:World}{B B' rb:Nat}{r:Rcv}(h:RcAt w B rb r)(hB:B'<=B):RcAt w B' rb r:=
 ⟨⟨Nat.le_trans hB h.low.1,Nat.le_trans hB h.low.2.1,Nat.le_trans hB h.low.2.2⟩,h.blk,h.chan,h.map,own_base2 h.own hB,fun u hu=>⟨Nat.le_trans hB (h.objs u hu).1,(h.objs u hu).2⟩,fun m kb k hm hk=>(h.known m kb k hm hk).base hB,h.apart,h.apartU⟩
theorem RrAt.lower{w:World}{B B' rb:Nat}{r:Rrv}(h:RrAt w B rb r)(hB:B'<=B):RrAt w B' rb r:=
 ⟨Nat.le_trans hB h.low,h.blk,own_base2 h.kown hB,fun i hi=>own_base2 (h.pown i hi) hB,fun i hi p hp=>⟨Nat.le_trans hB (h.rows i hi p hp).1,(h.rows i hi p hp).2⟩,own_base2 h.wown hB,own_base2 h.town hB,fun t ht=>⟨Nat.le_trans hB (h.objs t ht).1,(h.objs t ht).2⟩,h.apart⟩
structure RJ(hb:Nat)(qs:List Rp)(os:List Ent)(rv objs bm:Value)(own:Nat->Nat)(w:World):Prop where
 rown:w.ownsRow (hb+1) 93 2 rv qs.length (flat2 (rpVals qs))
 rcv:∀ i,i<qs.length->RcAt w (hb+1) (rpat qs i).rb (rpat qs i).r/\(rpat qs i).r.Ok
 rrv:∀ i,i<qs.length->RrAt w (hb+1) (rpat qs i).qb (rpat qs i).q
 obs:Obs w (hb+1) objs bm os
 oV:∀ b,rv.ownBlock=some b->own b=4
 oP:∀ i b,i<qs.length->(rpat qs i).r.foot (rpat qs i).rb b->own b=4*i+8
 oD:∀ i b,i<qs.length->(rpat qs i).q.foot (rpat qs i).qb b->own b=4*i+9
 oO:∀ b,objs.ownBlock=some b->own b=5
 oM:∀ b,bm.ownBlock=some b->own b=5
 oE:∀ e ∈ os,∀ b,e.v.ownBlock=some b->own b=5
section
variable {hb:Nat}{qs:List Rp}{os:List Ent}{rv objs bm:Value}{own own':Nat->Nat}{w w':World}
theorem RJ.ltP(h:RJ hb qs os rv objs bm own w){i b:Nat}(hi:i<qs.length)(hf:(rpat qs i).r.foot (rpat qs i).rb b):b<w.heap.size:=((h.rcv i hi).1.foot_lt hf).2
theorem RJ.ltD(h:RJ hb qs os rv objs bm own w){i b:Nat}(hi:i<qs.length)(hf:(rpat qs i).q.foot (rpat qs i).qb b):b<w.heap.size:=((h.rrv i hi).foot_lt hf).2
theorem RJ.ltE(h:RJ hb qs os rv objs bm own w){e:Ent}(he:e ∈ os){b:Nat}(hg:e.v.ownBlock=some b):b<w.heap.size:=((h.obs.each e he).1.lt hg).1
theorem RJ.stays(h:RJ hb qs os rv objs bm own w):Stays (RJ hb qs os rv objs bm) own w:=fun own' w' hsz hk=>by
 have x4:∀ {b},own b=4->xtra (own b):=fun e=>by rw[e];exact⟨by omega,by omega⟩
 have x5:∀ {b},own b=5->xtra (own b):=fun e=>by rw[e];exact⟨by omega,by omega⟩
 have xP:∀ {b i},own b=4*i+8->xtra (own b):=fun e=>by rw[e];exact⟨by omega,by omega⟩
 have xD:∀ {b i},own b=4*i+9->xtra (own b):=fun e=>by rw[e];exact⟨by omega,by omega⟩
 refine⟨own_of_block h.rown (fun g hg=>(hk g (h.rown.lt g hg).2 (x4 (h.oV g hg))).2),fun i hi=>⟨(h.rcv i hi).1.kept (fun b q=>(hk b (h.ltP hi q) (xP (h.oP i b hi q))).2),(h.rcv i hi).2⟩,fun i hi=>(h.rrv i hi).kept (fun b q=>(hk b (h.ltD hi q) (xD (h.oD i b hi q))).2),
  ⟨own_of_block h.obs.own (fun g hg=>(hk g (h.obs.own.lt g hg).2 (x5 (h.oO g hg))).2),own_of_block h.obs.marks (fun g hg=>(hk g (h.obs.marks.lt g hg).2 (x5 (h.oM g hg))).2),fun e he=>⟨(h.obs.each e he).1.kept (fun g hg=>(hk g (h.ltE he hg) (x5 (h.oE e he g hg))).2),(h.obs.each e he).2⟩⟩,
  fun b hg=>by rw[(hk b (h.rown.lt b hg).2 (x4 (h.oV b hg))).1];exact h.oV b hg,fun i b hi q=>by rw[(hk b (h.ltP hi q) (xP (h.oP i b hi q))).1];exact h.oP i b hi q,fun i b hi q=>by rw[(hk b (h.ltD hi q) (xD (h.oD i b hi q))).1];exact h.oD i b hi q,
  fun b hg=>by rw[(hk b (h.obs.own.lt b hg).2 (x5 (h.oO b hg))).1];exact h.oO b hg,fun b hg=>by rw[(hk b (h.obs.marks.lt b hg).2 (x5 (h.oM b hg))).1];exact h.oM b hg,fun e he b hg=>by rw[(hk b (h.ltE he hg) (x5 (h.oE e he b hg))).1];exact h.oE e he b hg⟩
theorem RJ.stepP(h:RJ hb qs os rv objs bm own w){i k:Nat}(hi:i<qs.length){r':Rcv}(hbu:But ((rpat qs i).r.foot (rpat qs i).rb) w w')(hS:RcAt w' (hb+1) (rpat qs i).rb r')(ok:r'.Ok)(hf:∀ b,r'.foot (rpat qs i).rb b->ownN own w.heap.size k b=4*i+8):
 RJ hb (qs.set i {rpat qs i with r:=r'}) os rv objs bm (ownN own w.heap.size k) w':=by
 have hn:∀ b,own b≠4*i+8->¬(rpat qs i).r.foot (rpat qs i).rb b:=fun b hb' q=>hb' (h.oP i b hi q)
 have hl:(qs.set i {rpat qs i with r:=r'}).length=qs.length:=by simp
 refine⟨?_,fun j hj=>?_,fun j hj=>?_,h.obs.but hbu (fun g hg=>hn g (by rw[h.oO g hg];omega)) (fun g hg=>hn g (by rw[h.oM g hg];omega)) (fun e he g hg=>hn g (by rw[h.oE e he g hg];omega)),
  fun b hg=>by rw[ownN_old (h.rown.lt b hg).2];exact h.oV b hg,fun j b hj q=>?_,fun j b hj q=>?_,fun b hg=>by rw[ownN_old (h.obs.own.lt b hg).2];exact h.oO b hg,fun b hg=>by rw[ownN_old (h.obs.marks.lt b hg).2];exact h.oM b hg,fun e he b hg=>by rw[ownN_old (h.ltE he hg)];exact h.oE e he b hg⟩
 ·rw[hl,rpVals_set (p:={rpat qs i with r:=r'}) hi rfl rfl]
  exact hbu.own h.rown (fun g hg=>hn g (by rw[h.oV g hg];omega))
 ·rw[hl]at hj
  rw[rpat_set hi];split
  ·rename_i e;subst e;exact⟨hS,ok⟩
  ·rename_i e
   exact⟨(h.rcv j hj).1.kept (fun b q=>hbu.block b (h.ltP hj q) (hn b (by rw[h.oP j b hj q];omega))),(h.rcv j hj).2⟩
 ·rw[hl]at hj
  have hk:=(h.rrv j hj).kept (fun b q=>hbu.block b (h.ltD hj q) (hn b (by rw[h.oD j b hj q];omega)));rw[rpat_set hi];split
  ·rename_i e;subst e;exact hk
  ·exact hk
 ·rw[hl]at hj
  rw[rpat_set hi]at q;split at q
  ·rename_i e;subst e;exact hf b q
  ·rw[ownN_old (h.ltP hj q)];exact h.oP j b hj q
 ·rw[hl]at hj
  have q':(rpat qs j).q.foot (rpat qs j).qb b:=by
   rw[rpat_set hi]at q;split at q
   ·rename_i e;subst e;exact q
   ·exact q
  rw[ownN_old (h.ltD hj q')];exact h.oD j b hj q'
theorem RJ.stepD(h:RJ hb qs os rv objs bm own w){i k:Nat}(hi:i<qs.length){q':Rrv}(hbu:But ((rpat qs i).q.foot (rpat qs i).qb) w w')(hS:RrAt w' (hb+1) (rpat qs i).qb q')(hf:∀ b,q'.foot (rpat qs i).qb b->ownN own w.heap.size k b=4*i+9):
 RJ hb (qs.set i {rpat qs i with q:=q'}) os rv objs bm (ownN own w.heap.size k) w':=by
 have hn:∀ b,own b≠4*i+9->¬(rpat qs i).q.foot (rpat qs i).qb b:=fun b hb' q=>hb' (h.oD i b hi q)
 have hl:(qs.set i {rpat qs i with q:=q'}).length=qs.length:=by simp
 refine⟨?_,fun j hj=>?_,fun j hj=>?_,h.obs.but hbu (fun g hg=>hn g (by rw[h.oO g hg];omega)) (fun g hg=>hn g (by rw[h.oM g hg];omega)) (fun e he g hg=>hn g (by rw[h.oE e he g hg];omega)),
  fun b hg=>by rw[ownN_old (h.rown.lt b hg).2];exact h.oV b hg,fun j b hj q=>?_,fun j b hj q=>?_,fun b hg=>by rw[ownN_old (h.obs.own.lt b hg).2];exact h.oO b hg,fun b hg=>by rw[ownN_old (h.obs.marks.lt b hg).2];exact h.oM b hg,fun e he b hg=>by rw[ownN_old (h.ltE he hg)];exact h.oE e he b hg⟩
 ·rw[hl,rpVals_set (p:={rpat qs i with q:=q'}) hi rfl rfl]
  exact hbu.own h.rown (fun g hg=>hn g (by rw[h.oV g hg];omega))
 ·rw[hl]at hj
  have hk:=(h.rcv j hj).1.kept (fun b q=>hbu.block b (h.ltP hj q) (hn b (by rw[h.oP j b hj q];omega)));have hk2:=(h.rcv j hj).2;rw[rpat_set hi];split
  ·rename_i e;subst e;exact⟨hk,hk2⟩
  ·exact⟨hk,hk2⟩
 ·rw[hl]at hj
  rw[rpat_set hi];split
  ·rename_i e;subst e;exact hS
  ·rename_i e
   exact(h.rrv j hj).kept (fun b q=>hbu.block b (h.ltD hj q) (hn b (by rw[h.oD j b hj q];omega)))
 ·rw[hl]at hj
  have q':(rpat qs j).r.foot (rpat qs j).rb b:=by
   rw[rpat_set hi]at q;split at q
   ·rename_i e;subst e;exact q
   ·exact q
  rw[ownN_old (h.ltP hj q')];exact h.oP j b hj q'
 ·rw[hl]at hj
  rw[rpat_set hi]at q;split at q
  ·rename_i e;subst e;exact hf b q
  ·rw[ownN_old (h.ltD hj q)];exact h.oD j b hj q
end
theorem WJ.stepX{A:Nat->Addr}{B0:Nat}{R R':Rst}{own own':Nat->Nat}{w w':World}{hb:Nat}{hs hs':HS}{es:List Ent}{ps:List Pr}{S:Nat->Prop}(h:WJ A B0 R own w hb hs es ps)(hbu:But S w w')(hS:∀ b,b<w.heap.size->S b->b=hb∨xtra (own b))(ho:∀ b,b<w.heap.size->¬ xtra (own b)->own' b=own b)
 (hH:HAt w' hb hs') (h1:hs'.sv=hs.sv/\hs'.out=hs.out/\hs'.marks=hs.marks) (hX:Stays (R' hs'.rv hs'.objs hs'.bmarks) own' w'):WJ A B0 R' own' w' hb hs' es ps:=by
 have hnx:∀ b,∀ n,own b=n->¬ xtra n->¬ xtra (own b):=fun b n e hx=>by rw[e];exact hx
 have x0:¬ xtra 0:=fun q=>by unfold xtra at q;omega
 have x1:¬ xtra 1:=fun q=>by unfold xtra at q;omega
 have xS:∀ i,¬ xtra (4*i+2):=fun i q=>by unfold xtra at q;omega
 have xR:∀ i,¬ xtra (4*i+3):=fun i q=>by unfold xtra at q;omega
 have hn:∀ b,b<w.heap.size->b≠hb->¬ xtra (own b)->¬ S b:=fun b hlt hne hx q=>(hS b hlt q).elim hne hx
 have hhl:=h.hands.lt;have hlow:Below hb w w':=hbu.toBelow (Nat.le_of_lt hhl) (fun k hk q=>(hS k (by omega) q).elim (fun e=>by omega) (hnx k 1 (h.oF k hk) x1));have hown:∀ {B n sz:Nat} {e:TypeId} {v:Value} {xs:List Value},w.ownsRow B e sz v n xs->e≠81->(∀ b,v.ownBlock=some b->own b=0)->∀ g,v.ownBlock=some g->¬ S g:=fun ho' e1 h0 g hg=>hn g (ho'.lt g hg).2 (own_ne ho' hg h.hands e1) (hnx g 0 (h0 g hg) x0)
 have hneS:∀ j b,j<ps.length->(pat ps j).s.foot (pat ps j).sb b->b≠hb:=fun j b hj q e=>by have:=h.oS j b hj q;rw[e,h.oH]at this;omega
 have hneR:∀ j b,j<ps.length->(pat ps j).r.foot (pat ps j).rb b->b≠hb:=fun j b hj q e=>by have:=h.oR j b hj q;rw[e,h.oH]at this;omega
 refine⟨h.errs.below (hlow.mono h.low),h.typ.below hlow h.typLow,h.typLow,h.low,hH,?_,?_,fun j hj=>⟨(h.snd j hj).1.kept (fun b q=>hbu.block b (h.ltS hj q) (hn b (h.ltS hj q) (hneS j b hj q) (hnx b _ (h.oS j b hj q) (xS j)))),(h.snd j hj).2⟩,
  fun j hj=>(h.rsn j hj).kept (fun b q=>hbu.block b (h.ltR hj q) (hn b (h.ltR hj q) (hneR j b hj q) (hnx b _ (h.oR j b hj q) (xR j)))),
  fun b hb'=>by rw[ho b (by omega) (hnx b 1 (h.oF b hb') x1)];exact h.oF b hb',by rw[ho hb hhl (hnx hb 0 h.oH x0)];exact h.oH,fun b hg=>?_,fun b hg=>?_,fun b hg=>?_,fun e he b hg=>by rw[ho b (h.ltE he hg) (hnx b 0 (h.oE e he b hg) x0)];exact h.oE e he b hg,
  fun j b hj q=>by rw[ho b (h.ltS hj q) (hnx b _ (h.oS j b hj q) (xS j))];exact h.oS j b hj q,fun j b hj q=>by rw[ho b (h.ltR hj q) (hnx b _ (h.oR j b hj q) (xR j))];exact h.oR j b hj q,hX⟩
 ·rw[h1.2.1,h1.2.2]
  exact h.outs.but hbu (hown h.outs.own (by decide) h.oO) (hown h.outs.marks (by decide) h.oM) (fun e he g hg=>hn g (h.ltE he hg) ((h.outs.each e he).1.ne_hands h.hands g hg) (hnx g 0 (h.oE e he g hg) x0))
 ·rw[h1.1]
  exact hbu.own h.sown (hown h.sown (by decide) h.oV)
 ·rw[h1.1]at hg
  rw[ho b (h.sown.lt b hg).2 (hnx b 0 (h.oV b hg) x0)];exact h.oV b hg
 ·rw[h1.2.1]at hg
  rw[ho b (h.outs.own.lt b hg).2 (hnx b 0 (h.oO b hg) x0)];exact h.oO b hg
 ·rw[h1.2.2]at hg
  rw[ho b (h.outs.marks.lt b hg).2 (hnx b 0 (h.oM b hg) x0)];exact h.oM b hg
abbrev XJ(A:Nat->Addr)(B0:Nat)(own:Nat->Nat)(w:World)(hb:Nat)(hs:HS)(es:List Ent)(ps:List Pr)(qs:List Rp)(os:List Ent):Prop:=WJ A B0 (RJ hb qs os) own w hb hs es ps
section
variable {A:Nat->Addr}{B0:Nat}{own:Nat->Nat}{w w':World}{hb:Nat}{hs:HS}{es:List Ent}{ps:List Pr}{qs:List Rp}{os:List Ent}
theorem XJ.stepP(h:XJ A B0 own w hb hs es ps qs os){i k:Nat}(hi:i<qs.length){r':Rcv}(hbu:But ((rpat qs i).r.foot (rpat qs i).rb) w w')(hS:RcAt w' (hb+1) (rpat qs i).rb r')(ok:r'.Ok)(hf:∀ b,r'.foot (rpat qs i).rb b->ownN own w.heap.size k b=4*i+8):
 XJ A B0 (ownN own w.heap.size k) w' hb hs es ps (qs.set i {rpat qs i with r:=r'}) os:=by
 have hR:=h.rest.now;have hx:∀ b,(rpat qs i).r.foot (rpat qs i).rb b->xtra (own b):=fun b q=>by rw[hR.oP i b hi q];exact⟨by omega,by omega⟩
 have hnb:¬(rpat qs i).r.foot (rpat qs i).rb hb:=fun q=>by have:=hR.oP i hb hi q;rw[h.oH]at this;omega
 exact WJ.stepX (R':=RJ hb (qs.set i {rpat qs i with r:=r'}) os) h hbu (fun b _ q=>.inr (hx b q)) (fun b hlt _=>ownN_old hlt) (h.hands.kept (hbu.block hb h.hands.lt hnb)) ⟨rfl,rfl,rfl⟩ (hR.stepP hi hbu hS ok hf).stays
theorem XJ.stepD(h:XJ A B0 own w hb hs es ps qs os){i k:Nat}(hi:i<qs.length){q':Rrv}(hbu:But ((rpat qs i).q.foot (rpat qs i).qb) w w')(hS:RrAt w' (hb+1) (rpat qs i).qb q')(hf:∀ b,q'.foot (rpat qs i).qb b->ownN own w.heap.size k b=4*i+9):
 XJ A B0 (ownN own w.heap.size k) w' hb hs es ps (qs.set i {rpat qs i with q:=q'}) os:=by
 have hR:=h.rest.now;have hx:∀ b,(rpat qs i).q.foot (rpat qs i).qb b->xtra (own b):=fun b q=>by rw[hR.oD i b hi q];exact⟨by omega,by omega⟩
 have hnb:¬(rpat qs i).q.foot (rpat qs i).qb hb:=fun q=>by have:=hR.oD i hb hi q;rw[h.oH]at this;omega
 exact WJ.stepX (R':=RJ hb (qs.set i {rpat qs i with q:=q'}) os) h hbu (fun b _ q=>.inr (hx b q)) (fun b hlt _=>ownN_old hlt) (h.hands.kept (hbu.block hb h.hands.lt hnb)) ⟨rfl,rfl,rfl⟩ (hR.stepD hi hbu hS hf).stays
end
theorem prat_num{kn:List Prt}{i:Nat}(hi:i<kn.length):(kn.map Prt.n)[i]?=some (prat kn i).n:=by rw[List.getElem?_map,prat_some hi];rfl
theorem num_inj{kn:List Prt}(h:(kn.map Prt.n).Nodup){i j:Nat}(hi:i<kn.length)(hj:j<kn.length)(e:(prat kn i).n=(prat kn j).n):i=j:=by
 rcases Nat.lt_trichotomy i j with q|q|q
 ·exact absurd (by rw[prat_num hi,prat_num hj,e]) (nodup_get h q (by simpa using hj))
 ·exact q
 ·exact absurd (by rw[prat_num hi,prat_num hj,e]) (nodup_get h q (by simpa using hi))
theorem SimO.hit{r:Rcv}{q:Rrv}(h:SimO r q){m kb:Nat}{k:Kn}(hm:m<16)(hk:r.kf m=some (kb,k)):∃ i,findP q.kn m q.kn.length=some i/\i<q.kn.length/\(prat q.kn i).n=m/\PSim k (prat q.kn i):=by
 obtain⟨j,hj,e⟩:=h.all m kb k hm hk
 cases hf:findP q.kn m q.kn.length with
 | none=>exact absurd e (findP_none hf j hj)
 | some i=>
  obtain⟨h1,h2⟩:=findP_some hf;obtain⟨kb',k',h3,h4⟩:=h.num i h1;rw[h2,hk]at h3;cases h3;exact⟨i,rfl,h1,h2,h4⟩
theorem SimO.miss{r:Rcv}{q:Rrv}(h:SimO r q){m:Nat}(hk:r.kf m=none):findP q.kn m q.kn.length=none:=by
 cases hf:findP q.kn m q.kn.length with
 | none=>rfl
 | some i=>
  obtain⟨h1,h2⟩:=findP_some hf;obtain⟨kb',k',h3,h4⟩:=h.num i h1;rw[h2,hk]at h3;cases h3
theorem cntF_filter{α:Type}(f:Nat->Option α):∀ n,cntF f n=((List.range n).filter fun m=>(f m).isSome).length
 | 0=>rfl
 | n+1=>by
  rw[cntF,cntF_filter f n,List.range_succ,List.filter_append,List.length_append];cases h:(f n).isSome<;>simp[h]
theorem SimO.count{r:Rcv}{q:Rrv}(h:SimO r q)(hn:∀ i,i<q.kn.length->(prat q.kn i).n<16):cntF r.kf 16=q.kn.length:=by
 rw[cntF_filter];have e:q.kn.length=(q.kn.map Prt.n).length:=by simp
 rw[e];apply List.Perm.length_eq;rw[List.perm_ext_iff_of_nodup (List.Pairwise.filter _ List.nodup_range) h.nums];intro m;rw[List.mem_filter,List.mem_range];constructor
 ·rintro⟨h1,h2⟩
  obtain⟨⟨kb,k⟩,h3⟩:=Option.isSome_iff_exists.1 h2;obtain⟨i,hi,e⟩:=h.all m kb k h1 h3;rw[<- e];exact List.mem_of_getElem? (prat_num hi)
 ·intro h1
  obtain⟨i,hi⟩:=List.mem_iff_getElem?.1 h1
  have hil:i<q.kn.length:=by
   have:=(List.getElem?_eq_some_iff.1 hi).1;simpa using this
  rw[prat_num hil]at hi;simp only[Option.some.injEq]at hi;obtain⟨kb,k,h3,_⟩:=h.num i hil;rw[hi]at h3;exact⟨by rw[<- hi];exact hn i hil,by rw[h3];rfl⟩
theorem SimO.begin{r:Rcv}{q:Rrv}(h:SimO r q){m kb len bg:Nat}{kv:Value}(hn:r.kf m=Option.none):SimO (r.put m kb (kn0 r.K r.N r.S len bg)) (q.begin m len kv):=by
 have hfn:=findP_none (h.miss hn);have hl:(q.begin m len kv).kn.length=q.kn.length+1:=by simp[Rrv.begin]
 have hat:∀ i,i<q.kn.length->prat (q.begin m len kv).kn i=prat q.kn i:=fun i hi=>prat_push _ _ _ hi
 have hla:prat (q.begin m len kv).kn q.kn.length=⟨m,len,[],.slice Option.none 0 0⟩:=prat_last _ _;refine⟨h.tk,?_,fun i hi=>?_,fun m' kb' k' hm' hk'=>?_,h.un,h.unA,h.unT,h.whA⟩
 ·show((q.kn++[_]).map Prt.n).Nodup
  rw[List.map_append,List.nodup_append];refine⟨h.nums,by simp,fun a ha b hb e=>?_⟩;simp only[List.map_cons,List.map_nil,List.mem_singleton]at hb;obtain⟨i,hi⟩:=List.mem_iff_getElem?.1 ha
  have hil:i<q.kn.length:=by
   have:=(List.getElem?_eq_some_iff.1 hi).1;simpa using this
  rw[prat_num hil]at hi;simp only[Option.some.injEq]at hi;exact hfn i hil (by rw[hi,e,hb])
 ·rw[hl]at hi
  by_cases e:i<q.kn.length
  ·rw[hat i e]
   obtain⟨kb',k',h1,h2⟩:=h.num i e;refine⟨kb',k',?_,h2⟩;show updF r.kf m _ _=_;rw[updF_other _ _ (hfn i e)];exact h1
  ·obtain rfl:i=q.kn.length:=by omega
   rw[hla];exact⟨kb,_,updF_same _ _ _,psim0 ..⟩
 ·change updF r.kf m _ m'=_ at hk'
  rw[hl];by_cases e:m'=m
  ·subst e
   exact⟨q.kn.length,by omega,by rw[hla]⟩
  ·rw[updF_other _ _ e]at hk'
   obtain⟨i,hi,h1⟩:=h.all m' kb' k' hm' hk';exact⟨i,by omega,by rw[hat i hi];exact h1⟩
theorem SimO.add{r:Rcv}{q:Rrv}(h:SimO r q){m kb i:Nat}{k k':Kn}{p:Pk}{pv:Value}(hk:r.kf m=Option.some (kb,k))(hi:i<q.kn.length)(hm:(prat q.kn i).n=m)(hs:PSim k' ((prat q.kn i).more p pv)):SimO (r.know m kb k') (q.add i p pv):=by
 have hl:(q.add i p pv).kn.length=q.kn.length:=by simp[Rrv.add]
 have hat:∀ j,prat (q.add i p pv).kn j=if i=j then(prat q.kn i).more p pv else prat q.kn j:=fun j=>prat_set hi _ j
 have hnum:∀ j,(prat (q.add i p pv).kn j).n=(prat q.kn j).n:=fun j=>by
  rw[hat];split
  ·rename_i e;subst e;rfl
  ·rfl
 refine⟨h.tk,?_,fun j hj=>?_,fun m' kb' k'' hm' hk'=>?_,h.un,h.unA,h.unT,h.whA⟩
 ·have e:(q.add i p pv).kn.map Prt.n=q.kn.map Prt.n:=by
   refine List.ext_getElem? (fun j=>?_);by_cases hj:j<q.kn.length
   ·rw[prat_num (by omega),prat_num hj,hnum]
   ·rw[List.getElem?_eq_none (by simp[hl];omega),List.getElem?_eq_none (by simp;omega)]
  rw[e];exact h.nums
 ·rw[hl]at hj
  rw[hnum];by_cases e:i=j
  ·subst e
   rw[hm,hat,if_pos rfl];exact⟨kb,k',updF_same _ _ _,hs⟩
  ·rw[hat,if_neg e]
   obtain⟨kb',k'',h1,h2⟩:=h.num j hj;refine⟨kb',k'',?_,h2⟩;show updF r.kf m _ _=_;rw[updF_other _ _ (fun q'=>e (num_inj h.nums hi hj (by rw[hm,q'])))];exact h1
 ·change updF r.kf m _ m'=_ at hk'
  rw[hl];by_cases e:m'=m
  ·subst e
   exact⟨i,hi,by rw[hnum];exact hm⟩
  ·rw[updF_other _ _ e]at hk'
   obtain⟨j,hj,h1⟩:=h.all m' kb' k'' hm' hk';exact⟨j,hj,by rw[hnum];exact h1⟩
theorem SimO.took{r:Rcv}{q:Rrv}(h:SimO r q)(htl:r.tk.length=16){m kb i g:Nat}{k:Kn}{d:Row}{l:List Gf.F}{v tv wv kv:Value}(hm16:m<16)(hk:r.kf m=Option.some (kb,k))(hi:i<q.kn.length)(hm:(prat q.kn i).n=m)(ht:r.tk.getD m false=false)(hl:d.l=l):SimO (r.done ⟨m,g,l⟩ v) (q.took i ⟨m,d⟩ tv wv kv):=by
 have hlen:(q.took i ⟨m,d⟩ tv wv kv).kn.length=q.kn.length - 1:=by simp[Rrv.took,List.length_eraseIdx,hi]
 have hat:∀ j,prat (q.took i ⟨m,d⟩ tv wv kv).kn j=prat q.kn (if j<i then j else j+1):=fun j=>prat_erase _ _ _
 have hget:∀ m',(r.tk.set m true).getD m' false=if m'=m then true else r.tk.getD m' false:=fun m'=>by
  rw[List.getD_eq_getElem?_getD,List.getD_eq_getElem?_getD,List.getElem?_set];by_cases e:m=m'
  ·subst e
   simp[htl,hm16]
  ·rw[if_neg e,if_neg (fun q=>e q.symm)]
 have hmw:¬ m ∈ q.wh:=fun x=>by have:=(h.tk m hm16).2 x;rw[ht]at this;cases this
 refine⟨fun m' hm'=>?_,?_,fun j hj=>?_,fun m' kb' k' hm' hk'=>?_,?_,?_,fun u hu=>?_,?_⟩
 ·show(r.tk.set m true).getD m' false=true↔m' ∈ q.wh++[m]
  rw[hget,List.mem_append,List.mem_singleton];by_cases e:m'=m
  ·simp[e]
  ·rw[if_neg e,h.tk m' hm']
   simp[e]
 ·show((q.kn.eraseIdx i).map Prt.n).Nodup
  exact List.Nodup.sublist (List.Sublist.map _ (List.eraseIdx_sublist _ _)) h.nums
 ·rw[hlen]at hj
  rw[hat];have hj':(if j<i then j else j+1)<q.kn.length:=by split<;>omega
  have hne:(if j<i then j else j+1)≠i:=by split<;>omega
  obtain⟨kb',k',h1,h2⟩:=h.num _ hj';refine⟨kb',k',?_,h2⟩;show updF r.kf m Option.none _=_;rw[updF_other _ _ (fun q'=>hne (num_inj h.nums hj' hi (by rw[hm,q'])))];exact h1
 ·change updF r.kf m Option.none m'=_ at hk'
  by_cases e:m'=m
  ·subst e
   rw[updF_same]at hk';cases hk'
  ·rw[updF_other _ _ e]at hk'
   obtain⟨j,hj,h1⟩:=h.all m' kb' k' hm' hk';have hji:j≠i:=fun q'=>e (by rw[<- h1,q',hm])
   rw[hlen];by_cases q':j<i
   ·exact⟨j,by omega,by rw[hat,if_pos q'];exact h1⟩
   ·exact⟨j - 1,by omega,by rw[hat,if_neg (by omega),show j - 1+1=j by omega];exact h1⟩
 ·show(r.un++[_]).map _=(q.tk++[_]).map _
  rw[List.map_append,List.map_append,h.un];simp[hl]
 ·show((r.un++[_]).map Un.n).Nodup
  rw[List.map_append,List.nodup_append];refine⟨h.unA,by simp,fun a ha b hb e=>?_⟩;simp only[List.map_cons,List.map_nil,List.mem_singleton]at hb;obtain⟨u,hu,rfl⟩:=List.mem_map.1 ha;have:=(h.unT u hu).2;rw[e,hb,ht]at this;cases this
 ·change u ∈ r.un++[_]at hu
  show u.n<16/\(r.tk.set m true).getD u.n false=true;rw[hget];rcases List.mem_append.1 hu with hu|hu
  ·refine⟨(h.unT u hu).1,?_⟩
   split
   ·rfl
   ·exact(h.unT u hu).2
  ·rw[List.mem_singleton.1 hu]
   exact⟨hm16,by simp⟩
 ·show(q.wh++[m]).Nodup/\∀ m' ∈ q.wh++[m],m'<16
  refine⟨?_,fun m' hm'=>?_⟩
  ·rw[List.nodup_append]
   refine⟨h.whA.1,by simp,fun a ha b hb e=>?_⟩;rw[List.mem_singleton.1 hb]at e;exact hmw (e ▸ ha)
  ·rcases List.mem_append.1 hm' with q'|q'
   ·exact h.whA.2 m' q'
   ·rw[List.mem_singleton.1 q'];exact hm16
theorem SimO.fewer{r:Rcv}{q:Rrv}(h:SimO r q){m:Nat}(hm:m<16)(ht:r.tk.getD m false=false):r.un.length<16:=by
 have h1:(m :: r.un.map Un.n).Nodup:=by
  rw[List.nodup_cons];refine⟨fun x=>?_,h.unA⟩;obtain⟨u,hu,e⟩:=List.mem_map.1 x;have:=(h.unT u hu).2;rw[e,ht]at this;cases this
 have h2:=List.Nodup.length_le_of_subset h1 (l₂:=List.range 16) (fun x hx=>by
  rw[List.mem_range];rcases List.mem_cons.1 hx with e|e
  ·rw[e];exact hm
  ·obtain⟨u,hu,rfl⟩:=List.mem_map.1 e
   exact(h.unT u hu).1)
 simp at h2;omega
end Go.Proofs.YtjabhnhejbhgjaaGreatDoor
namespace Go.Proofs.YtjabhnhejbhgjaaGreatDoor
open Go.RowKit Go.Maps
def dataZ(r:Rcv)(l:List Gf.F):Int×Int:=
 match r.kf (bt l 1) with
 | some (_,k)=>if k.len=lenOf l then(0,-1) else(6,2)
 | none=>if cntF r.kf 16=4 then(3,-1) else(0,-1)
def rhearZ(r:Rcv)(l:List Gf.F):Int×Int:=
 if r.shut=true then(8,-1) else
 match parseE r.K r.N r.S l with
 | some (c,k)=>((c:Int),(k:Int))
 | none=>if ¬ bt l 0=1∨r.tk.getD (bt l 1) false=true then(0,-1) else dataZ r l
def HStep(r:Rcv)(l:List Gf.F)(r':Rcv):Prop:=
 (rhearZ r l≠(0,-1)/\r'=r)∨(r.shut=false/\parseE r.K r.N r.S l=none/\(¬ bt l 0=1∨r.tk.getD (bt l 1) false=true)/\r'=r)∨
 (r.shut=false/\parseE r.K r.N r.S l=none/\bt l 0=1/\r.tk.getD (bt l 1) false=false/\rhearZ r l=(0,-1)/\∃ kb k r1 k',Begun r (bt l 1) (lenOf l) kb k r1/\Kept k (bt (l.drop 4) 0) (at_ (l.drop 4) 1) ((l.drop 4).drop 2) k'/\
  ((¬ k'.whole/\r'=r1.know (bt l 1) kb k')∨(k'.whole/\∃ g v,(∀ u ∈ r.un,u.g≠g)/\r'=(r1.know (bt l 1) kb k').done ⟨bt l 1,g,(k'.cat k'.ts.length).take k'.len⟩ v)))
theorem RcvHears.one{A:Nat->Addr}{r:Rcv}{l:List Gf.F}{B rb:Nat}{w w':World}{e:Ending}(h:RcvHears A r l B rb w e w')(hR:RcAt w B rb r)(ok:r.Ok)(hun:r.tk.getD (bt l 1) false=false->bt l 1<16->r.un.length<16):
 ∃ v r',e=.returned v/\VSays A w' v (rhearZ r l)/\RcAt w' B rb r'/\r'.Ok/\But (r.foot rb) w w'/\(∀ b,r'.foot rb b->r.foot rb b∨w.heap.size<=b)/\HStep r l r':=by
 have hkeep:∀ w',Below w.heap.size w w'->But (r.foot rb) w w':=fun w' hb=>Below.but hb _ (fun i h1 h2=>absurd h1 h2)
 unfold RcvHears at h;by_cases hs:r.shut=true
 ·rw[if_pos hs]at h
  obtain⟨rfl,rfl⟩:=h;have hz:rhearZ r l=(8,-1):=by unfold rhearZ;rw[if_pos hs]
  refine⟨_,r,rfl,?_,hR,ok,But.refl _ _,fun b q=>.inl q,.inl ⟨by rw[hz];simp,rfl⟩⟩;rw[hz];exact .inr (.inl ⟨7,by omega,rfl,rfl⟩)
 ·rw[if_neg hs]at h
  have hs':r.shut=false:=by simpa using hs
  cases hp:parseE r.K r.N r.S l with
  | some p=>
   obtain⟨c,k⟩:=p;rw[hp]at h;obtain⟨v,rfl,hw,hb⟩:=h;have hz:rhearZ r l=((c:Int),(k:Int)):=by unfold rhearZ;rw[if_neg hs,hp]
   refine⟨v,r,rfl,?_,hR.above hb,ok,hkeep _ hb,fun b q=>.inl q,.inl ⟨by rw[hz];obtain⟨i,hi,rfl⟩:=parseE_code hp;intro q;injection q with q1 q2;omega,rfl⟩⟩;rw[hz];obtain⟨i,hi,rfl⟩:=parseE_code hp;have:=Wr.says (i:=i) hi hw;simpa using this
  | none=>
   rw[hp]at h;simp only at h;by_cases hk:¬ bt l 0=1∨r.tk.getD (bt l 1) false=true
   ·rw[if_pos hk]at h
    obtain⟨rfl,hb⟩:=h;have hz:rhearZ r l=(0,-1):=by unfold rhearZ;rw[if_neg hs,hp];simp only;rw[if_pos hk]
    refine⟨_,r,rfl,?_,hR.above hb,ok,hkeep _ hb,fun b q=>.inl q,.inr (.inl ⟨hs',hp,hk,rfl⟩)⟩;rw[hz];exact .inl ⟨rfl,rfl⟩
   ·rw[if_neg hk]at h
    have hk1:bt l 0=1:=Classical.byContradiction fun q=>hk (.inl q)
    have htk:r.tk.getD (bt l 1) false=false:=by
     cases ht:r.tk.getD (bt l 1) false with
     | false=>rfl
     | true=>exact absurd (.inr ht) hk
    obtain⟨_,hle,hob⟩:=parse_head hp;obtain⟨hblk,hdl⟩:=parse_dataE hp hk1;have hz:rhearZ r l=dataZ r l:=by unfold rhearZ;rw[if_neg hs,hp];simp only;rw[if_neg hk]
    unfold dataZ at hz;rcases h with⟨kb,k,v,he,hl,rfl,hw,hb⟩|⟨he,hc,rfl,hb⟩|⟨rfl,hbu,kb,k,r1,k',hbg,hkept,hend⟩
    ·rw[he]at hz
     simp only[if_neg hl]at hz;refine⟨v,r,rfl,?_,hR.above hb,ok,hkeep _ hb,fun b q=>.inl q,.inl ⟨by rw[hz];simp,rfl⟩⟩;rw[hz];exact Wr.says (i:=5) (by omega) hw
    ·rw[he]at hz
     simp only[if_pos hc]at hz;refine⟨_,r,rfl,?_,hR.above hb,ok,hkeep _ hb,fun b q=>.inl q,.inl ⟨by rw[hz];simp,rfl⟩⟩;rw[hz];exact .inr (.inl ⟨2,by omega,rfl,rfl⟩)
    ·have hz':rhearZ r l=(0,-1):=by
      rw[hz];rcases hbg with⟨h1,h2,_⟩|⟨h1,h2,_⟩
      ·rw[h1];simp[h2]
      ·rw[h1];simp only;rw[if_neg (by omega)]
     obtain⟨f1,f2,f3,f4,f5,f6,f7⟩:=hbg.facts
     have hk1':r1.kf (bt l 1)=some (kb,k)/\k.Ok/\k.K=r.K/\k.N=r.N/\k.S=r.S/\r1.Ok:=by
      rcases hbg with⟨he,hl,rfl⟩|⟨he,hc,⟨bg,rfl⟩,rfl⟩
      ·obtain⟨o1,o2,o3,o4⟩:=ok.known _ kb k hob he
       exact⟨he,o1,o2,o3,o4,ok⟩
      ·have okn:(kn0 r.K r.N r.S (lenOf l) bg).Ok:=kn0_ok ok.cfg hle
       exact⟨updF_same _ _ _,okn,rfl,rfl,rfl,Rcv.put_ok ok hob he hc ⟨okn,rfl,rfl,rfl⟩⟩
     obtain⟨q1,q2,q3,q4,q5,q6⟩:=hk1'
     have hlt:bt (l.drop 4) 0<k.ts.length:=by
      rw[q2.blocks];unfold Kn.T;rw[q3,q5,f1];exact hblk
     have hko':k'.Ok/\k'.K=r.K/\k'.N=r.N/\k'.S=r.S:=by
      rcases hkept with⟨_,rfl⟩|⟨hu,rw_,pv,sv,hd,ho,rfl⟩
      ·exact⟨q2,q3,q4,q5⟩
      ·exact⟨Kn.add_ok q2 hlt hu.1 ⟨by rw[hd,hdl,q5],ho⟩,q3,q4,q5⟩
     have ok2:(r1.know (bt l 1) kb k').Ok:=Rcv.know_ok q6 hob q1 ⟨hko'.1,by rw[hko'.2.1,f2],by rw[hko'.2.2.1,f3],by rw[hko'.2.2.2,f4]⟩;rcases hend with⟨hnw,hRn,hft⟩|⟨hw,g,v,hgn,hRn,hft⟩
     ·refine⟨_,_,rfl,?_,hRn,ok2,hbu,hft,.inr (.inr ⟨hs',hp,hk1,htk,hz',kb,k,r1,k',hbg,hkept,.inl ⟨hnw,rfl⟩⟩)⟩
      rw[hz'];exact .inl ⟨rfl,rfl⟩
     ·refine⟨_,_,rfl,?_,hRn,Rcv.done_ok ok2 (by show r1.un.length<16;rw[f5];exact hun htk hob) hob,hbu,hft,.inr (.inr ⟨hs',hp,hk1,htk,hz',kb,k,r1,k',hbg,hkept,.inr ⟨hw,g,v,fun u hu q=>?_,rfl⟩⟩)⟩
      ·rw[hz']
       exact .inl ⟨rfl,rfl⟩
      ·obtain⟨_,⟨cs,h2⟩,_⟩:=hR.objs u hu
       have:=lt_of_block h2;omega
theorem rcvHear_full{A:Nat->Addr}{B0 B rb b o n c:Nat}{a:Option Addr}{l:List Gf.F}{r:Rcv}{w:World}(h:RcAt w B rb r)(ok:r.Ok)(hE:Errs A B0 w)(hET:ErrType w)(hB9:8<w.heap.size)(hl:l.length=n)(hn:n<=c)(hc:c<=9223372036854775807)(hn2:n<=140737488355328)(ha:0<n->a=some ⟨b,o,none⟩)(hB:Bs w b o l)(hb:0<n->b<w.heap.size)
 (hun:r.shut=false->r.tk.getD (bt l 1) false=false->bt l 1<16->r.un.length<16):
 Calls Tryz.prog 21 #[.pointer (some ⟨rb,0,none⟩),.slice a n c] w fun e w'=>∃ v r',e=.returned v/\VSays A w' v (rhearZ r l)/\RcAt w' B rb r'/\r'.Ok/\But (r.foot rb) w w'/\(∀ b,r'.foot rb b->r.foot rb b∨w.heap.size<=b)/\HStep r l r':=by
 by_cases hs:r.shut=true
 ·refine(rcvHear_shut h hE hs).mono ?_
  intro e w' z;have hz:rhearZ r l=(8,-1):=by unfold rhearZ;rw[if_pos hs]
  obtain⟨rfl,rfl⟩:=z;refine⟨_,r,rfl,?_,h,ok,But.refl _ _,fun b q=>.inl q,.inl ⟨by rw[hz];simp,rfl⟩⟩;rw[hz];exact .inr (.inl ⟨7,by omega,rfl,rfl⟩)
 ·have hs':r.shut=false:=by simpa using hs
  cases hp:parseE r.K r.N r.S l with
  | some p=>
   obtain⟨ec,ek⟩:=p;refine(rcvHear_bad h ok hE hET hB9 hl hn hc hn2 ha hB hb hs' hp).mono ?_;intro e w' z;refine RcvHears.one (B:=B) (rb:=rb) ?_ h ok (hun hs');unfold RcvHears;rw[if_neg hs,hp];exact z
  | none=>
   obtain⟨_,_,hob⟩:=parse_head hp;by_cases hk:¬ bt l 0=1∨r.tk.getD (bt l 1) false=true
   ·refine(rcvHear_skip h ok hE hET hB9 hl hn hc hn2 ha hB hb hs' hp hk).mono ?_
    intro e w' z;refine RcvHears.one (B:=B) (rb:=rb) ?_ h ok (hun hs');unfold RcvHears;rw[if_neg hs,hp];show if _ then _ else _;rw[if_pos hk];exact z
   ·have htk:r.tk.getD (bt l 1) false=false:=by
     cases ht:r.tk.getD (bt l 1) false with
     | false=>rfl
     | true=>exact absurd (.inr ht) hk
    refine(rcvHear_any h ok hE hET hB9 hl hn hc hn2 ha hB hb (hun hs' htk hob)).mono ?_;intro e w' z;exact z.one h ok (hun hs')
end Go.Proofs.YtjabhnhejbhgjaaGreatDoor
