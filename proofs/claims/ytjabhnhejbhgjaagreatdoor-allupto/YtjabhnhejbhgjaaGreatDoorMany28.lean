import Derived.Test.YtjabhnhejbhgjaaGreatDoorRcvShut
import Derived.Maps.OwnSet
set_option maxRecDepth 100000
set_option maxHeartbeats 8000000
namespace Go.Proofs.YtjabhnhejbhgjaaGreatDoor
open Go.RowKit Go.Maps
def ptrElem(v:Value):Option (DataW Unit×List MemPlace):=
 match v with
 | .pointer none=>some (.nil,[])
 | .pointer (some ⟨b,0,none⟩)=>some (.lit (.int .i64 b),[])
 | _=>none
theorem ptrElem_some(b:Nat):ptrElem (.pointer (some ⟨b,0,none⟩))=some (.lit (.int .i64 b),[]):=rfl
theorem ptrElem_nil:ptrElem (.pointer none)=some (.nil,[]):=rfl
theorem ptrElem_inv{v:Value}{ps:List MemPlace}:(ptrElem v=some (.nil,ps)->v=.pointer none)/\(∀ b:Nat,ptrElem v=some (.lit (.int .i64 b),ps)->v=.pointer (some ⟨b,0,none⟩)):=by
 unfold ptrElem;refine⟨fun h=>?_,fun b h=>?_⟩
 ·split at h
  ·rfl
  ·simp at h
  ·cases h
 ·split at h
  ·simp at h
  ·simp at h
   obtain⟨h,_⟩:=h;have h':=Int.ofNat.inj h;subst h';rfl
  ·cases h
theorem Tryz.intKeyed:Keyed Tryz.prog 3:=int_keyed Tryz.underlying3
theorem int_wf{z:Int}(h:-9223372036854775808<=z/\z<=9223372036854775807):(Lit.int .i64 z).wf=true:=by
 simp[Lit.wf,IntKind.min,IntKind.max,IntKind.signed,IntKind.bits];omega
theorem World.ownsMap.tight{w:World}{b n:Nat}{D:DataW Unit}(h:w.ownsMap Tryz.prog 3 ptrElem b n D):w.ownsMap Tryz.prog 3 ptrElem b (Maps.size D) D:=by
 obtain⟨es,clock,h1,h2,_,h4⟩:=h;refine⟨es,clock,h1,h2,?_,h4⟩;rw[h4,size_eq,length_read];exact Nat.le_refl _
structure Un where
 n:Nat
 g:Nat
 l:List Gf.F
def unVals(us:List Un):List (Value×Value):=us.map fun u=>(.int .i64 (u.n:Int),.slice (some ⟨u.g,0,none⟩) u.l.length u.l.length)
def cntF{α:Type}(f:Nat->Option α):Nat->Nat
 | 0=>0
 | n+1=>cntF f n+(if(f n).isSome then 1 else 0)
structure Rcv where
 K:Nat
 N:Nat
 S:Nat
 d:Nat
 mb:Nat
 kf:Nat->Option (Nat×Kn)
 tk:List Bool
 un:List Un
 uv:Value
 shut:Bool
def Rcv.cells(r:Rcv):List Value:=[.int .i64 (r.K:Int),.int .i64 (r.N:Int),.int .i64 (r.S:Int),.chan (some r.d),.map (some r.mb)]++r.tk.map Value.bool++[r.uv]
def Rcv.foot(r:Rcv)(rb b:Nat):Prop:=b=rb∨b=r.d∨b=r.mb∨r.uv.ownBlock=some b∨(∃ u ∈ r.un,b=u.g)∨∃ m kb k,m<16/\r.kf m=some (kb,k)/\k.foot kb b
def kfData(x:Option (Nat×Kn)):DataW Unit:=match x with
 | some (kb,_)=>.lit (.int .i64 kb)
 | none=>.nil
structure MapIs(D:DataW Unit)(kf:Nat->Option (Nat×Kn)):Prop where
 has:∀ m:Nat,m<16->Maps.has D (.int .i64 m)=(kf m).isSome
 at_:∀ m:Nat,m<16->D.atKey (.int .i64 m) .nil=kfData (kf m)
 size:Maps.size D=cntF kf 16
structure RcAt(w:World)(B rb:Nat)(r:Rcv):Prop where
 low:B<=rb/\B<=r.d/\B<=r.mb
 blk:w.heap[rb]?=some (.cells r.cells.toArray 108 (0,0))
 chan:w.heap[r.d]?=some (.chan 0 #[] r.shut 0 0 false)
 map:∃ n D,w.ownsMap Tryz.prog 3 ptrElem r.mb n D/\MapIs D r.kf
 own:w.ownsRow B 136 2 r.uv r.un.length (flat2 (unVals r.un))
 objs:∀ u ∈ r.un,B<=u.g/\(∃ cs,w.heap[u.g]?=some (.cells cs 5 (0,0)))/\Bs w u.g 0 u.l
 known:∀ m kb k,m<16->r.kf m=some (kb,k)->KAt w B kb k
 apart:∀ m m' kb k kb' k',m<16->m'<16->m≠m'->r.kf m=some (kb,k)->r.kf m'=some (kb',k')->∀ b,k.foot kb b->¬ k'.foot kb' b
 apartU:∀ u ∈ r.un,∀ m kb k,m<16->r.kf m=some (kb,k)->¬ k.foot kb u.g
structure Rcv.Ok(r:Rcv):Prop where
 cfg:Cfg r.K r.N r.S
 tk:r.tk.length=16
 un:r.un.length<=16
 known:∀ m kb k,m<16->r.kf m=some (kb,k)->k.Ok/\k.K=r.K/\k.N=r.N/\k.S=r.S
 few:cntF r.kf 16<=4
theorem mapLt{w:World}{b n:Nat}{D:DataW Unit}(h:w.ownsMap Tryz.prog 3 ptrElem b n D):b<w.heap.size:=by
 obtain⟨es,clock,hb,_⟩:=h;exact(Array.getElem?_eq_some_iff.1 hb).1
theorem RcAt.foot_lt{w:World}{B rb:Nat}{r:Rcv}(h:RcAt w B rb r){b:Nat}(hb:r.foot rb b):B<=b/\b<w.heap.size:=by
 rcases hb with rfl|rfl|rfl|hb|⟨u,hu,rfl⟩|⟨m,kb,k,hm,hk,hb⟩
 ·exact⟨h.low.1,lt_of_block h.blk⟩
 ·exact⟨h.low.2.1,(Array.getElem?_eq_some_iff.1 h.chan).1⟩
 ·obtain⟨n,D,hD,_⟩:=h.map
  exact⟨h.low.2.2,mapLt hD⟩
 ·exact h.own.lt b hb
 ·obtain⟨h1,⟨cs,h2⟩,_⟩:=h.objs u hu
  exact⟨h1,lt_of_block h2⟩
 ·exact(h.known m kb k hm hk).foot_lt hb
theorem RcAt.kept{w w':World}{B rb:Nat}{r:Rcv}(h:RcAt w B rb r)(hk:∀ b,r.foot rb b->w'.heap[b]?=w.heap[b]?):RcAt w' B rb r:=by
 refine⟨h.low,(hk rb (.inl rfl)).trans h.blk,(hk _ (.inr (.inl rfl))).trans h.chan,?_,own_of_block h.own (fun g hg=>hk g (.inr (.inr (.inr (.inl hg))))),fun u hu=>?_,fun m kb k hm he=>(h.known m kb k hm he).kept (fun b q=>hk b (.inr (.inr (.inr (.inr (.inr ⟨m,kb,k,hm,he,q⟩)))))),h.apart,h.apartU⟩
 ·obtain⟨n,D,⟨es,clock,hb,hr⟩,hM⟩:=h.map
  exact⟨n,D,⟨es,clock,(hk _ (.inr (.inr (.inl rfl)))).trans hb,hr⟩,hM⟩
 ·obtain⟨h1,⟨cs,h2⟩,h3⟩:=h.objs u hu
  have he:=hk u.g (.inr (.inr (.inr (.inr (.inl ⟨u,hu,rfl⟩)))));refine⟨h1,⟨cs,he.trans h2⟩,fun i hi=>?_⟩;have hc:w'.cell? ⟨u.g,0+i,none⟩=w.cell? ⟨u.g,0+i,none⟩:=World.cell?_of_block (w:=w) (a:=⟨u.g,0+i,none⟩) he;rw[hc];exact h3 i hi
theorem RcAt.above{w w':World}{B rb:Nat}{r:Rcv}(h:RcAt w B rb r)(hb:Below w.heap.size w w'):RcAt w' B rb r:=h.kept (fun b q=>hb.block b (h.foot_lt q).2)
theorem RcAt.cell{w:World}{B rb:Nat}{r:Rcv}(h:RcAt w B rb r)(i:Nat):w.cell? ⟨rb,i,none⟩=r.cells[i]?:=by
 rw[cell_of_row w _ _ _ _ _ h.blk,List.getElem?_toArray]
theorem RcAt.head{w:World}{B rb:Nat}{r:Rcv}(h:RcAt w B rb r):w.cell? ⟨rb,0,none⟩=some (.int .i64 (r.K:Int))/\w.cell? ⟨rb,1,none⟩=some (.int .i64 (r.N:Int))/\w.cell? ⟨rb,2,none⟩=some (.int .i64 (r.S:Int))/\w.cell? ⟨rb,3,none⟩=some (.chan (some r.d))/\w.cell? ⟨rb,4,none⟩=some (.map (some r.mb)):=
 ⟨h.cell 0,h.cell 1,h.cell 2,h.cell 3,h.cell 4⟩
theorem RcAt.taken{w:World}{B rb m:Nat}{r:Rcv}(h:RcAt w B rb r)(hm:m<r.tk.length):w.cell? ⟨rb,5+m,none⟩=some (.bool (r.tk.getD m false)):=by
 rw[h.cell];unfold Rcv.cells;rw[List.append_assoc,List.getElem?_append_right (by simp),List.getElem?_append_left (by simp;omega)];simp[hm,List.getD]
theorem RcAt.last{w:World}{B rb:Nat}{r:Rcv}(h:RcAt w B rb r)(ht:r.tk.length=16):w.cell? ⟨rb,21,none⟩=some r.uv:=by
 rw[h.cell];unfold Rcv.cells;rw[List.getElem?_append_right (by simp[ht])];simp[ht]
theorem RcAt.isClosed{w:World}{B rb:Nat}{r:Rcv}(h:RcAt w B rb r):
 Calls Tryz.prog 36 #[.pointer (some ⟨rb,0,none⟩)] w fun e w'=>e=.returned (.bool r.shut)/\w'=w:=by
 have hc:=h.chan;obtain⟨_,_,_,c3,_⟩:=h.head
 cases hs:r.shut with
 | false=>rw[hs]at hc;exact isClosed_no c3 hc
 | true=>rw[hs]at hc;exact isClosed_yes c3 hc
def rcv0(K N S d mb:Nat):Rcv:=⟨K,N,S,d,mb,fun _=>none,List.replicate 16 false,[],.slice none 0 0,false⟩
theorem cnt0:∀ n,cntF (fun _=>(none:Option (Nat×Kn))) n=0
 | 0=>rfl
 | n+1=>by rw[cntF,cnt0 n];rfl
theorem rcv0_ok{K N S d mb:Nat}(hc:Cfg K N S):(rcv0 K N S d mb).Ok:=⟨hc,rfl,by simp[rcv0],fun m kb k hm h=>by simp[rcv0]at h,by show cntF _ 16<=4;rw[show(rcv0 K N S d mb).kf=fun _=>none from rfl,cnt0];omega⟩
theorem mapIs0:MapIs (.map []) (fun _=>none):=⟨fun m hm=>rfl,fun m hm=>rfl,by rw[cnt0];rfl⟩
theorem Tryz.info_unit:(Tryz.prog.info? 151).map (·.bytes)=some 0:=by kernel_rfl
theorem mkChan(w:World):(Instr.makeChan 104 (.int .i64 0)).run Tryz.prog w=.ok (.chan (some w.heap.size)) (w.alloc (.chan 0 #[] false 0 0 false)):=by
 obtain⟨i,hi,hb⟩:=Option.map_eq_some_iff.1 Tryz.info_unit;simpa using Conc.run_makeChan (P:=Tryz.prog) (w:=w) Tryz.underlying104 hi .i64 0 (by omega) (by rw[hb];omega)
theorem alloc_newK(w:World)(o:Obj):(w.alloc o).heap[w.heap.size]?=some o:=by simp[World.alloc,-World.alloc_eq]
theorem threeK(w:World)(A B C:Obj):Below w.heap.size w (((w.alloc A).alloc B).alloc C)/\(((w.alloc A).alloc B).alloc C).heap[w.heap.size]?=some A/\(((w.alloc A).alloc B).alloc C).heap[w.heap.size+1]?=some B/\(((w.alloc A).alloc B).alloc C).heap[w.heap.size+1+1]?=some C:=by
 have s1:(w.alloc A).heap.size=w.heap.size+1:=by simp
 have s2:((w.alloc A).alloc B).heap.size=w.heap.size+1+1:=by simp
 have b1:Below w.heap.size w (w.alloc A):=(Below.refl _ w).alloc (Nat.le_refl _) _;have b2:=b1.alloc (by rw[s1];omega) B;have b3:=b2.alloc (by rw[s2];omega) C;have h2:=alloc_newK (w.alloc A) B;have h3:=alloc_newK ((w.alloc A).alloc B) C;rw[s1]at h2;rw[s2]at h3;refine⟨b3,?_,?_,h3⟩
 ·rw[Below.heap_alloc _ C _ (by rw[s2];omega),Below.heap_alloc _ B _ (by rw[s1];omega)]
  exact alloc_newK w A
 ·rw[Below.heap_alloc _ C _ (by rw[s2];omega)]
  exact h2
theorem rcv0_at{K N S rb d mb B:Nat}{W:World}(h1:B<=rb/\B<=d/\B<=mb)(hr:W.heap[rb]?=some (.cells (rcv0 K N S d mb).cells.toArray 108 (0,0)))(hd:W.heap[d]?=some (.chan 0 #[] false 0 0 false))(hm:W.heap[mb]?=some (.map #[] 0)):RcAt W B rb (rcv0 K N S d mb):=by
 refine⟨h1,hr,hd,⟨0,.map [],?_,mapIs0⟩,World.ownsRow_nil ..,fun u hu=>by simp[rcv0]at hu,fun m kb k hm h=>by simp[rcv0]at h,fun m m' kb k kb' k' _ _ _ h=>by simp[rcv0]at h,fun u hu=>by simp[rcv0]at hu⟩;exact⟨#[],0,hm,⟨by simp,Go.MapKept.stamped_empty 0,by simp⟩,Nat.le_refl _,rfl⟩
theorem newReceiver_ok(K N S:Nat)(hcb:cfgB (K:Int) (N:Int) (S:Int)=true)(w:World):
 Calls Tryz.prog 34 #[.agg #[.int .i64 K,.int .i64 N,.int .i64 S]] w fun e w'=>
  ∃ rb d mb,e=.returned (.tuple #[.pointer (some ⟨rb,0,none⟩),.nilIface])/\RcAt w' w.heap.size rb (rcv0 K N S d mb)/\Below w.heap.size w w':=by
 have hic:=fun W=>isConfig_any (K:Int) (N:Int) (S:Int) W
 rw[hcb]at hic;have hmc:=mkChan;have hmm:=@run_makeMap Tryz.prog;go_enter Tryz.func34,Tryz.ntmps34;go_wp2_with fail;refine(hic _).mono ?_;rintro e w1 ⟨rfl,hb1⟩;have hX:=heap_alloc_new w (.cells #[.int .i64 K,.int .i64 N,.int .i64 S] 30);have hX1:=(hb1.block _ (lt_of_block hX)).trans hX;have x0:w1.cell? ⟨w.heap.size,0,none⟩=some (.int .i64 K):=cell_of_row w1 _ 0 _ _ _ hX1;have x1:w1.cell? ⟨w.heap.size,1,none⟩=some (.int .i64 N):=cell_of_row w1 _ 1 _ _ _ hX1;have x2:w1.cell? ⟨w.heap.size,2,none⟩=some (.int .i64 S):=cell_of_row w1 _ 2 _ _ _ hX1;have hbw:Below w.heap.size w w1:=((Below.refl _ w).alloc (Nat.le_refl _) _).trans (hb1.mono (by simp));have hn:¬ w.heap.size=w1.heap.size:=Nat.ne_of_lt (lt_of_cell x0);have hal:∀ {W:World} {a:Addr} {v:Value},W.cell? a=some v->∀ o:Obj,(W.alloc o).cell? a=some v:=fun {W a v} h o=>by rw[((Below.refl W.heap.size W).alloc (Nat.le_refl _) o).cell (lt_of_cell h)];exact h
 have q0:(w1.alloc (.chan 0 #[] false 0 0 false)).cell? ⟨w.heap.size,0,none⟩=some (.int .i64 K):=hal x0 _;have q1:(w1.alloc (.chan 0 #[] false 0 0 false)).cell? ⟨w.heap.size,1,none⟩=some (.int .i64 N):=hal x1 _;have q2:(w1.alloc (.chan 0 #[] false 0 0 false)).cell? ⟨w.heap.size,2,none⟩=some (.int .i64 S):=hal x2 _;have q3:(w1.alloc (.map #[] 0)).cell? ⟨w.heap.size,0,none⟩=some (.int .i64 K):=hal x0 _;have q4:(w1.alloc (.map #[] 0)).cell? ⟨w.heap.size,1,none⟩=some (.int .i64 N):=hal x1 _;have q5:(w1.alloc (.map #[] 0)).cell? ⟨w.heap.size,2,none⟩=some (.int .i64 S):=hal x2 _;have q6:((w1.alloc (.chan 0 #[] false 0 0 false)).alloc (.map #[] 0)).cell? ⟨w.heap.size,0,none⟩=some (.int .i64 K):=(hal (hal x0 _) _);have q7:((w1.alloc (.chan 0 #[] false 0 0 false)).alloc (.map #[] 0)).cell? ⟨w.heap.size,1,none⟩=some (.int .i64 N):=(hal (hal x1 _) _);have q8:((w1.alloc (.chan 0 #[] false 0 0 false)).alloc (.map #[] 0)).cell? ⟨w.heap.size,2,none⟩=some (.int .i64 S):=(hal (hal x2 _) _);have q9:((w1.alloc (.map #[] 0)).alloc (.chan 0 #[] false 0 0 false)).cell? ⟨w.heap.size,0,none⟩=some (.int .i64 K):=(hal (hal x0 _) _);have q10:((w1.alloc (.map #[] 0)).alloc (.chan 0 #[] false 0 0 false)).cell? ⟨w.heap.size,1,none⟩=some (.int .i64 N):=(hal (hal x1 _) _);have q11:((w1.alloc (.map #[] 0)).alloc (.chan 0 #[] false 0 0 false)).cell? ⟨w.heap.size,2,none⟩=some (.int .i64 S):=(hal (hal x2 _) _);clear hX hX1 hb1 hic hal;go_upto_region 3 with fail
 go_region
 all_goals go_wp2_with fail
 all_goals go_ret2
 all_goals have hbs:=hbw.size
 ·obtain⟨b,h1,h2,h3⟩:=threeK w1 (.chan 0 #[] false 0 0 false) (.map #[] 0) (.cells (rcv0 K N S w1.heap.size (w1.heap.size+1)).cells.toArray 108)
  exact⟨_,w1.heap.size,w1.heap.size+1,rfl,rcv0_at ⟨by omega,hbw.size,by omega⟩ h3 h1 h2,(hbw.trans (b.mono hbw.size)).drew⟩
 ·obtain⟨b,h1,h2,h3⟩:=threeK w1 (.map #[] 0) (.chan 0 #[] false 0 0 false) (.cells (rcv0 K N S (w1.heap.size+1) w1.heap.size).cells.toArray 108)
  exact⟨_,w1.heap.size+1,w1.heap.size,rfl,rcv0_at ⟨by omega,by omega,hbw.size⟩ h3 h2 h1,(hbw.trans (b.mono hbw.size)).drew⟩
theorem newReceiver_no(A:Nat->Addr)(B0:Nat)(K N S:Int)(hcb:cfgB K N S=false)(w:World)(hE:Errs A B0 w):
 Calls Tryz.prog 34 #[.agg #[.int .i64 K,.int .i64 N,.int .i64 S]] w fun e w'=>
  e=.returned (.tuple #[.pointer none,E A 1])/\Below w.heap.size w w':=by
 have hic:=fun W=>isConfig_any K N S W
 rw[hcb]at hic;go_enter Tryz.func34,Tryz.ntmps34;go_wp2_with fail;refine(hic _).mono ?_;rintro e w1 ⟨rfl,hb1⟩;have hbw:Below w.heap.size w w1:=((Below.refl _ w).alloc (Nat.le_refl _) _).trans (hb1.mono (by simp));have hE1:=hE.shrink _ hbw;have g0:w1.cell? ⟨4,0,none⟩=some (.iface 269 (.pointer (some (A 0)))):=hE1.cell 0 (by omega);clear hb1 hic;go_wp2_with fail
 go_quiet (fail)
 go_wp2_with fail;go_ret2;exact⟨rfl,hbw.trans ((below_drew rfl).mono hbw.size)⟩
theorem KAt.notRcv{w:World}{B kb rb:Nat}{k:Kn}{cs:Array Value}(h:KAt w B kb k)(hr:w.heap[rb]?=some (.cells cs 108 (0,0))):¬ k.foot kb rb:=by
 intro q;rcases q with q|q|⟨i,hi,q|q|⟨r,hr',q⟩⟩
 ·have hk:=h.blk
  rw[<- q,hr]at hk;simp only[Option.some.injEq,Obj.cells.injEq]at hk;exact absurd hk.2.1 (by decide)
 ·have hk:=h.row
  rw[<- q,hr]at hk;simp only[Option.some.injEq,Obj.cells.injEq]at hk;exact absurd hk.2.1 (by decide)
 ·exact own_ne (h.places i hi) q hr (by decide) rfl
 ·exact own_ne (h.syms i hi) q hr (by decide) rfl
 ·exact own_ne (h.bytes i hi r hr').2 (g:=r.b) (r.own.2 trivial) hr (by decide) q
def Rcv.told(r:Rcv):Rcv:={r with un:=[],uv:=.slice none 0 0}
theorem RcAt.told{w:World}{B rb:Nat}{r:Rcv}(h:RcAt w B rb r)(ht:r.tk.length=16):RcAt (w.setCell ⟨rb,21,none⟩ (.slice none 0 0)) B rb r.told/\But (fun b=>b=rb) w (w.setCell ⟨rb,21,none⟩ (.slice none 0 0)):=by
 have hb:=But.setCell (S:=fun b=>b=rb) (But.refl _ w) (p:=⟨rb,21,none⟩) (.inl rfl) (.slice none 0 0);refine⟨⟨h.low,?_,?_,?_,World.ownsRow_nil ..,fun u hu=>by simp[Rcv.told]at hu,fun m kb k hm he=>?_,h.apart,fun u hu=>by simp[Rcv.told]at hu⟩,hb⟩
 ·rw[heap_setCell_same w rb 21 _ _ _ h.blk,List.setIfInBounds_toArray]
  have e:r.cells.set 21 (.slice none 0 0)=r.told.cells:=by
   unfold Rcv.cells Rcv.told;rw[List.set_append_right _ _ (by simp[ht])];simp[ht]
  rw[e]
 ·refine(hb.block _ (Array.getElem?_eq_some_iff.1 h.chan).1 (fun q=>?_)).trans h.chan
  have:=h.chan;rw[q,h.blk]at this;cases this
 ·obtain⟨n,D,⟨es,clock,hm,hr⟩,hM⟩:=h.map
  refine⟨n,D,⟨es,clock,(hb.block _ (Array.getElem?_eq_some_iff.1 hm).1 (fun q=>?_)).trans hm,hr⟩,hM⟩;rw[q,h.blk]at hm;cases hm
 ·exact(h.known m kb k hm he).kept (fun b q=>hb.block b ((h.known m kb k hm he).foot_lt q).2 (fun e=>(h.known m kb k hm he).notRcv h.blk (by rw[<- e];exact q)))
theorem taken_any{A:Nat->Addr}{B0 B rb:Nat}{r:Rcv}{w:World}(h:RcAt w B rb r)(ok:r.Ok)(hE:Errs A B0 w):
 Calls Tryz.prog 24 #[.pointer (some ⟨rb,0,none⟩)] w fun e w'=>
  (r.shut=true/\e=.returned (.tuple #[.slice none 0 0,E A 8])/\Below w.heap.size w w')∨(r.shut=false/\e=.returned (.tuple #[r.uv,.nilIface])/\RcAt w' B rb r.told/\But (fun b=>b=rb) w w'):=by
 have HC:=h.isClosed;have c21:=h.last ok.tk;have f21:w.frozen? ⟨rb,21,none⟩=false:=frozen_of_row w rb 21 _ _ h.blk;have g7:w.cell? ⟨0,0,none⟩=some (.iface 269 (.pointer (some (A 7)))):=hE.cell 7 (by omega);have HT:Hid _:=h.told ok.tk;obtain⟨ua,uc,huv,_⟩:=own_form2 h.own;have HU:Hid (r.uv=.slice ua r.un.length uc):=huv;rw[huv]at c21;clear h huv
 cases hs:r.shut with
 | true=>
  rw[hs]at HC;go_enter Tryz.func24,Tryz.ntmps24;go_wp2_with fail;refine HC.mono ?_;rintro e w1 ⟨rfl,rfl⟩;go_wp2_with fail
  go_quiet (fail)
  go_wp2_with fail;go_ret2;exact .inl ⟨by first | trivial|exact hs,rfl,below_drew rfl⟩
 | false=>
  rw[hs]at HC;go_enter Tryz.func24,Tryz.ntmps24;go_wp2_with fail;refine HC.mono ?_;rintro e w1 ⟨rfl,rfl⟩;go_wp2_with fail;go_ret2;exact .inr ⟨by first | trivial|exact hs,by rw[HU.out];rfl,HT.out.1,HT.out.2⟩
end Go.Proofs.YtjabhnhejbhgjaaGreatDoor
