import Derived.Test.YtjabhnhejbhgjaaGreatDoorMany20
import Derived.Test.YtjabhnhejbhgjaaGreatDoorMany18
set_option maxRecDepth 100000
set_option maxHeartbeats 8000000
namespace Go.Proofs.YtjabhnhejbhgjaaGreatDoor
open Go.RowKit
theorem Tryz.app0(g:Nat)(ad:Addr)(c:Nat)(w:World):(Builtin.append_ #[33,33] 33 #[.slice (some ⟨g,0,none⟩) 0 0,.slice (some ad) 0 c]).run Tryz.prog w=.ok (.slice (some ⟨g,0,none⟩) 0 0) w:=by kernel_rfl
theorem Tryz.nilIsNil(w:World):(binOp BinOp.eql 33 (.slice none 0 0) (.slice none 0 0)).run Tryz.prog w=.ok (.bool true) w:=by kernel_rfl
theorem clone_all(a:Option Addr)(b o n c:Nat)(l:List Gf.F)(w:World)(hl:l.length=n)(hn2:n<=100000)(ha:a=some ⟨b,o,none⟩∨a=none/\n=0/\c=0)(hB:Bs w b o l):
 Calls Tryz.prog 62 #[.slice a n c] w fun e w'=>∃ a' c',e=.returned (.slice a' n c')/\w'.ownsRow w.heap.size 5 1 (.slice a' n c') n (encL l)/\Below w.heap.size w w':=by
 by_cases h0:1<=n
 ·obtain rfl:a=some ⟨b,o,none⟩:=by rcases ha with h|⟨_,h,_⟩;exact h;omega
  exact clone_any b o n c l w hl h0 hn2 hB
 ·obtain rfl:n=0:=by omega
  obtain rfl:l=[]:=List.length_eq_zero_iff.1 hl;rcases ha with rfl|⟨rfl,_,rfl⟩
  ·have happ:=Tryz.app0
   have hnil:=Tryz.someNotNil;have hown:(w.alloc (.cells #[] 5)).ownsRow w.heap.size 5 1 (.slice (some ⟨w.heap.size,0,none⟩) 0 0) 0 []:=⟨rfl,.inr ⟨w.heap.size,0,#[],rfl,Nat.le_refl _,heap_alloc_new w _,Nat.le_refl _,by unfold maxLen;omega,rfl,rfl⟩⟩;go_enter Tryz.func62,Tryz.ntmps62;go_wp2_with fail;go_ret;exact⟨_,_,rfl,hown,(Below.refl _ _).alloc (Nat.le_refl _) _⟩
  ·have hnil:=Tryz.nilIsNil
   go_enter Tryz.func62,Tryz.ntmps62;go_wp2_with fail;go_ret;exact⟨_,_,rfl,World.ownsRow_nil ..,Below.refl _ _⟩
def snd0(K N S:Nat):Snd:=⟨K,N,S,[],.slice none 0 0,0,0⟩
theorem snd0_ok{K N S:Nat}(hc:Cfg K N S):(snd0 K N S).Ok:=
 ⟨⟨hc,by simp[snd0],fun i hi=>by simp[snd0]at hi⟩,fun i hi=>by simp[snd0]at hi,fun i q hi=>by simp[snd0]at hi,by simp[snd0],fun h=>by simp[snd0]at h,fun _=>rfl⟩
theorem newSender_ok(K N S:Nat)(hcb:cfgB (K:Int) (N:Int) (S:Int)=true)(w:World):
 Calls Tryz.prog 32 #[.agg #[.int .i64 K,.int .i64 N,.int .i64 S]] w fun e w'=>
  ∃ sb,e=.returned (.tuple #[.pointer (some ⟨sb,0,none⟩),.nilIface])/\SAt w' w.heap.size sb (snd0 K N S)/\Below w.heap.size w w':=by
 have hic:=fun W=>isConfig_any (K:Int) (N:Int) (S:Int) W
 rw[hcb]at hic;go_enter Tryz.func32,Tryz.ntmps32;go_wp2_with fail;refine(hic _).mono ?_;rintro e w1 ⟨rfl,hb1⟩;have hX:=heap_alloc_new w (.cells #[.int .i64 K,.int .i64 N,.int .i64 S] 30);have hX1:=(hb1.block _ (lt_of_block hX)).trans hX;have x0:w1.cell? ⟨w.heap.size,0,none⟩=some (.int .i64 K):=cell_of_row w1 _ 0 _ _ _ hX1;have x1:w1.cell? ⟨w.heap.size,1,none⟩=some (.int .i64 N):=cell_of_row w1 _ 1 _ _ _ hX1;have x2:w1.cell? ⟨w.heap.size,2,none⟩=some (.int .i64 S):=cell_of_row w1 _ 2 _ _ _ hX1;have hbw:Below w.heap.size w w1:=((Below.refl _ w).alloc (Nat.le_refl _) _).trans (hb1.mono (by simp));have hsz:=hbw.size;clear hX hX1 hb1 hic;go_wp2_with fail;go_ret2;exact⟨w1.heap.size,rfl,⟨hsz,heap_alloc_new w1 _,World.ownsRow_nil ..,fun i hi=>by simp[snd0]at hi,fun i hi=>by simp[snd0]at hi,fun i j hi=>by simp[snd0]at hi⟩,hbw.alloc hsz _⟩
theorem newSender_no(A:Nat->Addr)(B0:Nat)(K N S:Int)(hcb:cfgB K N S=false)(w:World)(hE:Errs A B0 w):
 Calls Tryz.prog 32 #[.agg #[.int .i64 K,.int .i64 N,.int .i64 S]] w fun e w'=>
  e=.returned (.tuple #[.pointer none,E A 1])/\Below w.heap.size w w':=by
 have hic:=fun W=>isConfig_any K N S W
 rw[hcb]at hic;go_enter Tryz.func32,Tryz.ntmps32;go_wp2_with fail;refine(hic _).mono ?_;rintro e w1 ⟨rfl,hb1⟩;have hbw:Below w.heap.size w w1:=((Below.refl _ w).alloc (Nat.le_refl _) _).trans (hb1.mono (by simp));have hE1:=hE.shrink _ hbw;have g0:w1.cell? ⟨4,0,none⟩=some (.iface 269 (.pointer (some (A 0)))):=hE1.cell 0 (by omega);clear hb1 hic;go_wp2_with fail
 go_quiet (fail)
 go_wp2_with fail;go_ret2;exact⟨rfl,hbw.trans ((below_drew rfl).mono hbw.size)⟩
def debts0(n:Nat):List (Nat×Nat):=List.replicate n (0,0)
theorem debts0_at(n i:Nat):dat (debts0 n) i=(0,0):=by
 unfold dat debts0;rw[List.getD_eq_getElem?_getD,List.getElem?_replicate];split<;>rfl
theorem flat0:∀ n,flat2 (debtVals (debts0 n))=List.replicate (2*n) (.int .i64 0)
 | 0=>rfl
 | n+1=>by
  have e:debtVals (debts0 (n+1))=(.int .i64 0,.int .i64 0) :: debtVals (debts0 n):=rfl;rw[e,flat2_cons,flat0 n,show 2*(n+1)=2*n+1+1 by omega];rfl
theorem made2(n:Nat):madeCells #[.int .i64 0,.int .i64 0] (n*2)=(flat2 (debtVals (debts0 n))).toArray:=by
 apply Array.ext';rw[flat0];apply List.ext_getElem
 ·simp[madeCells];omega
 ·intro i h1 h2
  have h3:i%2=0∨i%2=1:=by omega
  simp only[madeCells,Array.toList_map,Array.toList_range,List.getElem_map,List.getElem_range,List.getElem_replicate];rcases h3 with h3|h3
  ·show(#[Value.int IntKind.i64 0,Value.int IntKind.i64 0])[i%2]! = _
   rw[h3];rfl
  ·show(#[Value.int IntKind.i64 0,Value.int IntKind.i64 0])[i%2]! = _
   rw[h3];rfl
theorem Tryz.info_debt:(Tryz.prog.info? 125).map (fun i=>(i.zero,i.size,i.bytes))=some (some (.agg #[.int .i64 0,.int .i64 0]),2,16):=by kernel_rfl
theorem make_debts(n:Nat)(hn:n<=1000)(W:World):(Instr.makeSlice 118 (.int .i64 n) (.int .i64 n)).run Tryz.prog W=.ok (.slice (some ⟨W.heap.size,0,none⟩) n n) (W.alloc (.cells (flat2 (debtVals (debts0 n))).toArray 125)):=by
 have h:=Tryz.info_debt
 cases hi:Tryz.prog.info? 125 with
 | none=>rw[hi]at h;simp at h
 | some i=>
  rw[hi]at h;simp at h;obtain⟨h1,h2,h3⟩:=h;have:=run_make (P:=Tryz.prog) W 118 125 i (.agg #[.int .i64 0,.int .i64 0]) Tryz.underlying118 hi h1 .i64 .i64 (n:Int) (n:Int) (by omega) (by omega) (by rw[h3];omega) (by omega);rw[h2]at this;simp only[Int.toNat_natCast]at this;rw[this];show Result.ok _ (W.alloc (.cells (madeCells #[.int .i64 0,.int .i64 0] (n*2)) _))=_;rw[made2]
def Snd.enq(s:Snd)(o:Ob)(vo:Value):Snd:={s with os:=s.os++[o],vo:=vo}
theorem oat_push(os:List Ob)(o:Ob)(i:Nat)(h:i<os.length):oat (os++[o]) i=oat os i:=by simp[oat,List.getD,List.getElem?_append_left h]
theorem oat_last(os:List Ob)(o:Ob):oat (os++[o]) os.length=o:=by simp[oat,List.getD]
theorem Snd.enq_ok{s:Snd}(ok:s.Ok){o:Ob}{vo:Value}(h16:s.os.length<16)(hl:o.l.length<=255)(hd:o.ds=debts0 (partsN (symN s.S o.l.length) s.K)):(s.enq o vo).Ok:=by
 obtain⟨k1,k8,kn,n16,s1,s8⟩:=ok.cfg;have hlen:(s.enq o vo).os.length=s.os.length+1:=by simp[Snd.enq]
 have key:∀ i,i<s.os.length+1->(i<s.os.length/\oat (s.enq o vo).os i=oat s.os i)∨(i=s.os.length/\oat (s.enq o vo).os i=o):=fun i hi=>by
  by_cases e:i<s.os.length
  ·exact .inl ⟨e,oat_push _ _ _ e⟩
  ·have:i=s.os.length:=by omega
   subst this;exact .inr ⟨rfl,oat_last _ _⟩
 have kT:∀ i,i<s.os.length->(s.enq o vo).T i=s.T i:=fun i hi=>by unfold Snd.T;rw[show oat (s.enq o vo).os i=oat s.os i from oat_push _ _ _ hi];rfl
 have kTl:(s.enq o vo).T s.os.length=symN s.S o.l.length:=by unfold Snd.T;rw[show oat (s.enq o vo).os s.os.length=o from oat_last _ _];rfl
 have hnx:=ok.next;refine⟨⟨ok.cfg,by rw[hlen];omega,fun i hi=>?_⟩,fun i hi=>?_,fun i q hi hq=>?_,by rw[hlen];show s.no<=_;omega,fun _=>?_,fun h=>?_⟩
 ·rw[hlen]at hi
  rcases key i hi with⟨h1,h2⟩|⟨_,h2⟩<;>rw[h2]
  ·exact ok.len i h1
  ·exact hl
 ·rw[hlen]at hi
  unfold Snd.Q;rcases key i hi with⟨h1,h2⟩|⟨h1,h2⟩<;>rw[h2]
  ·rw[kT i h1];exact ok.blocks i h1
  ·subst h1;rw[kTl,hd];simp[debts0];rfl
 ·rw[hlen]at hi
  unfold Snd.Q at hq;unfold Snd.R;rcases key i hi with⟨h1,h2⟩|⟨h1,h2⟩<;>rw[h2]
  ·rw[kT i h1]at hq ⊢
   exact ok.debt i q h1 hq
  ·subst h1
   rw[kTl]at hq ⊢;rw[hd,debts0_at];have:=partsN_mul k1 hq;refine⟨by omega,?_⟩;show 0<(s.N - s.K)+srcN s.K _ q;unfold srcN;omega
 ·show s.ns<(s.enq o vo).T s.no
  by_cases e:s.no<s.os.length
  ·rw[kT _ e];exact ok.sym e
  ·have e2:s.no=s.os.length:=by omega
   rw[ok.done e2,e2,kTl];have:=(symN_range (S:=s.S) (len:=o.l.length) s1).1;omega
 ·rw[hlen]at h
  have h2:s.no=s.os.length+1:=h;omega
theorem own2_ne{w:World}{B B' n n' sz sz':Nat}{e e':TypeId}{v v':Value}{xs xs':List Value}(h:w.ownsRow B e sz v n xs)(h':w.ownsRow B' e' sz' v' n' xs')(hne:e≠e'):∀ g,v.ownBlock=some g->v'.ownBlock≠some g:=by
 intro g hg hg';obtain⟨cur,hc⟩:=own_block h' hg';exact own_ne h hg hc hne rfl
theorem Tryz.info_told:(Tryz.prog.info? 120).map (fun i=>(i.zero,i.size,i.bytes))=some (some (.agg #[.slice none 0 0,.slice none 0 0]),2,48):=by kernel_rfl
theorem Tryz.told_parts:∃ i,Tryz.prog.info? 120=some i/\i.zero=some (.agg #[.slice none 0 0,.slice none 0 0])/\i.size=2/\i.bytes=48:=by
 have h:=Tryz.info_told
 cases hi:Tryz.prog.info? 120 with
 | none=>rw[hi]at h;simp at h
 | some i=>rw[hi]at h;simp at h;exact⟨i,rfl,h.1,h.2.1,h.2.2⟩
theorem SAt.enq{w w':World}{B sb:Nat}{s:Snd}(h:SAt w B sb s){o:Ob}{vo:Value}(hb:But (fun b=>b=sb∨s.vo.ownBlock=some b) w w')(hB:B<=w.heap.size)
 (hk:w'.heap[sb]?=some (.cells #[.int .i64 (s.K:Int),.int .i64 (s.N:Int),.int .i64 (s.S:Int),vo,.int .i64 (s.no:Int),.int .i64 (s.ns:Int)] 116 (0,0)))
 (ho:w'.ownsRow B 120 2 vo (s.os.length+1) (flat2 (objVals s.os)++[o.bv,o.dv]))
 (hy:w'.ownsRow B 5 1 o.bv o.l.length (encL o.l)) (hd:w'.heap[o.dg]?=some (.cells (flat2 (debtVals o.ds)).toArray 125 (0,0))) (hdg:w.heap.size<=o.dg):SAt w' B sb (s.enq o vo):=by
 have hlen:(s.enq o vo).os.length=s.os.length+1:=by simp[Snd.enq]
 have key:∀ i,i<s.os.length+1->(i<s.os.length/\oat (s.enq o vo).os i=oat s.os i)∨(i=s.os.length/\oat (s.enq o vo).os i=o):=fun i hi=>by
  by_cases e:i<s.os.length
  ·exact .inl ⟨e,oat_push _ _ _ e⟩
  ·have:i=s.os.length:=by omega
   subst this;exact .inr ⟨rfl,oat_last _ _⟩
 refine⟨h.low,hk,?_,fun i hi=>?_,fun i hi=>?_,fun i j hi hj e=>?_⟩
 ·rw[hlen]
  have:objVals (s.enq o vo).os=objVals s.os++[(o.bv,o.dv)]:=by simp[objVals,Snd.enq]
  rw[this,flat2_append];exact ho
 ·rw[hlen]at hi
  rcases key i hi with⟨h1,h2⟩|⟨_,h2⟩<;>rw[h2]
  ·refine hb.own (h.bytes i h1) (fun g hg q=>?_)
   rcases q with q|q
   ·exact own_ne (h.bytes i h1) hg h.blk (by decide) q
   ·exact own2_ne (h.bytes i h1) h.own (by decide) g hg q
  ·exact hy
 ·rw[hlen]at hi
  rcases key i hi with⟨h1,h2⟩|⟨_,h2⟩<;>rw[h2]
  ·refine⟨(h.debts i h1).1,(hb.block _ (lt_of_block (h.debts i h1).2) (fun q=>?_)).trans (h.debts i h1).2⟩
   rcases q with q|q
   ·have hb2:=h.blk
    rw[<- q,(h.debts i h1).2]at hb2;simp only[Option.some.injEq,Obj.cells.injEq]at hb2;exact absurd hb2.2.1 (by decide)
   ·exact own_ne h.own q (h.debts i h1).2 (by decide) rfl
  ·exact⟨by omega,hd⟩
 ·rw[hlen]at hi hj
  rcases key i hi with⟨h1,h2⟩|⟨h1,h2⟩<;>rcases key j hj with⟨h3,h4⟩|⟨h3,h4⟩<;>rw[h2,h4]at e
  ·exact h.apart i j h1 h3 e
  ·have:=lt_of_block (h.debts i h1).2
   omega
  ·have:=lt_of_block (h.debts j h3).2
   omega
  ·omega
def EnqGives(A:Nat->Addr)(s:Snd)(l:List Gf.F)(B sb:Nat)(w:World)(e:Ending)(w':World):Prop:=
 (255<l.length/\e=.returned (.tuple #[.int .i64 0,E A 2])/\Below w.heap.size w w')∨
 (l.length<=255/\s.os.length=16/\e=.returned (.tuple #[.int .i64 0,E A 3])/\Below w.heap.size w w')∨
 (l.length<=255/\s.os.length<16/\e=.returned (.tuple #[.int .i64 (s.os.length:Int),.nilIface])/\∃ o vo,o.l=l/\o.ds=debts0 (partsN (symN s.S l.length) s.K)/\SAt w' B sb (s.enq o vo)/\But (s.foot sb) w w'/\∀ b,(s.enq o vo).foot sb b->s.foot sb b∨w.heap.size<=b)
theorem enq_end{A:Nat->Addr}{B sb vc d Q c4 g6 cap6:Nat}{va a4:Option Addr}{l:List Gf.F}{s:Snd}{w W3 w4 w6:World}{ob:Obj}(h:SAt w B sb s)(hB:B<=w.heap.size)(hV:s.vo=.slice va s.os.length vc)(hQ:Q=partsN (symN s.S l.length) s.K)(hll:l.length<=255)(h16:s.os.length<16)
 (hb3:Below w.heap.size w W3) (hD:W3.heap[d]?=some (.cells (flat2 (debtVals (debts0 Q))).toArray 125 (0,0))) (hd:w.heap.size<=d) (hown4:w4.ownsRow W3.heap.size 5 1 (.slice a4 l.length c4) l.length (encL l)) (hb4:Below W3.heap.size W3 w4)
 (hown6:w6.ownsRow B 120 2 (.slice (some ⟨g6,0,none⟩) (s.os.length+1) cap6) (s.os.length+1) (flat2 (objVals s.os)++[.slice a4 l.length c4,.slice (some ⟨d,0,none⟩) Q Q])) (hgr6:(w4.alloc ob).grownBy w6 (Value.slice va s.os.length vc).ownBlock) (hlie:(Value.slice va s.os.length vc).ownBlock=some g6∨g6=w4.heap.size+1):
 EnqGives A s l B sb w (.returned (.tuple #[.int .i64 (s.os.length:Int),.nilIface])) (w6.setCell ⟨sb,3,none⟩ (.slice (some ⟨g6,0,none⟩) (s.os.length+1) cap6)):=by
 have hs3:=hb3.size;have hs4:=hb4.size;have hbl:Below w.heap.size w w4:=hb3.trans (hb4.mono hs3);have h4:=h.above hbl;have hne:∀ {B' n sz:Nat} {e:TypeId} {v:Value} {xs:List Value},w6.ownsRow B' e sz v n xs->∀ {cs:Array Value},w6.heap[sb]?=some (.cells cs 116 (0,0))->e≠116->∀ g,v.ownBlock=some g->¬ g=sb:=fun h' _ hc he g hg q=>own_ne h' hg hc he q
 have hb6:But (fun b=>b=sb∨s.vo.ownBlock=some b) w w6:=(((Below.but hbl (fun b=>b=sb∨s.vo.ownBlock=some b) (fun i hi q=>absurd hi q)).alloc ob).grown hgr6 (fun k hk=>.inl (.inr (by rw[hV];exact hk))))
 have hsb6:w6.heap[sb]?=w.heap[sb]?:=by
  have hk:w6.heap[sb]?=w4.heap[sb]?:=(grown_block hgr6 (by have:=lt_of_block h4.blk;simp;omega) (fun q=>by rw[<- hV]at q;exact own_ne h4.own q h4.blk (by decide) rfl)).trans (Below.heap_alloc w4 ob sb (lt_of_block h4.blk));exact hk.trans (hbl.block sb (lt_of_block h.blk))
 have hblk6:=hsb6.trans h.blk;have hb9:=hb6.setCell (p:=⟨sb,3,none⟩) (.inl (.inl rfl)) (.slice (some ⟨g6,0,none⟩) (s.os.length+1) cap6);have hO:=But.setCell (S:=fun b=>b=sb) (But.refl _ w6) (p:=⟨sb,3,none⟩) (.inl rfl) (.slice (some ⟨g6,0,none⟩) (s.os.length+1) cap6);have hkeep4:∀ g cs t,w4.heap[g]?=some (Obj.cells cs t (0,0))->t≠120->w6.heap[g]?=w4.heap[g]?:=fun g cs t hg ht=>(grown_block hgr6 (by have:=lt_of_block hg;simp;omega) (fun q=>by rw[<- hV]at q;exact own_ne h4.own q hg (fun e=>ht e.symm) rfl)).trans (Below.heap_alloc w4 ob g (lt_of_block hg))
 have hD4:=(hb4.block _ (lt_of_block hD)).trans hD;have hD6:=(hkeep4 _ _ _ hD4 (by decide)).trans hD4;have hdne:¬ d=sb:=by have:=lt_of_block h.blk;omega
 have hown46:w6.ownsRow W3.heap.size 5 1 (.slice a4 l.length c4) l.length (encL l):=own_of_block hown4 (fun g hg=>by
  obtain⟨cur,hc⟩:=own_block hown4 hg;exact hkeep4 g cur _ hc (by decide))
 have hlen0:(debts0 Q).length=Q:=by simp[debts0]
 refine .inr (.inr ⟨hll,h16,rfl,⟨l,debts0 Q,a4,c4,d⟩,.slice (some ⟨g6,0,none⟩) (s.os.length+1) cap6,rfl,by show debts0 Q=_;rw[hQ],?_,?_,?_⟩)
 ·refine h.enq hb9 hB (heap_setCell_same w6 sb 3 _ _ _ hblk6) (hO.own ?_ (hne hown6 hblk6 (by decide))) (own_base2 (hO.own hown46 (hne hown46 hblk6 (by decide))) (by omega)) ((hO.block d (lt_of_block hD6) hdne).trans hD6) hd
  show w6.ownsRow B _ 2 _ _ (flat2 (objVals s.os)++[Value.slice a4 l.length c4,Value.slice (some ⟨d,0,none⟩) (debts0 Q).length (debts0 Q).length]);rw[hlen0];exact hown6
 ·refine hb9.wide (fun k _ q=>?_)
  rcases q with q|q
  ·exact .inl q
  ·exact .inr (.inl q)
 ·intro x hx
  rcases hx with hx|hx|⟨i,hi,hx⟩
  ·exact .inl (.inl hx)
  ·have hx':g6=x:=by simpa [Snd.enq,Value.ownBlock] using hx
   subst hx';rcases hlie with q|q
   ·exact .inl (.inr (.inl (by rw[hV];exact q)))
   ·exact .inr (by omega)
  ·have hi':i<s.os.length+1:=by simpa [Snd.enq] using hi
   by_cases e:i<s.os.length
   ·rw[show oat (s.enq ⟨l,debts0 Q,a4,c4,d⟩ (.slice (some ⟨g6,0,none⟩) (s.os.length+1) cap6)).os i=oat s.os i from oat_push _ _ _ e]at hx
    exact .inl (.inr (.inr ⟨i,e,hx⟩))
   ·have e2:i=s.os.length:=by omega
    subst e2;rw[show oat (s.enq ⟨l,debts0 Q,a4,c4,d⟩ (.slice (some ⟨g6,0,none⟩) (s.os.length+1) cap6)).os s.os.length=⟨l,debts0 Q,a4,c4,d⟩ from oat_last _ _]at hx;rcases hx with hx|hx
    ·have:x=d:=hx
     exact .inr (by omega)
    ·have:=(hown4.lt x hx).1
     exact .inr (by omega)
theorem enqueue_any{A:Nat->Addr}{B0 B sb b o n c:Nat}{a:Option Addr}{l:List Gf.F}{s:Snd}{w:World}(h:SAt w B sb s)(ok:s.Ok)(hE:Errs A B0 w)(hl:l.length=n)(hn:n<=140737488355328)(ha:a=some ⟨b,o,none⟩∨a=none/\n=0/\c=0)(hB:Bs w b o l):
 Calls Tryz.prog 35 #[.pointer (some ⟨sb,0,none⟩),.slice a n c] w (EnqGives A s l B sb w):=by
 have g1:w.cell? ⟨5,0,none⟩=some (.iface 269 (.pointer (some (A 1)))):=hE.cell 1 (by omega);have g2:w.cell? ⟨1,0,none⟩=some (.iface 269 (.pointer (some (A 2)))):=hE.cell 2 (by omega);obtain⟨c0,c1,c2,c3,_,_⟩:=h.cells;obtain⟨va,vc,hvo,_⟩:=own_form2 h.own;rw[hvo]at c3;have hfew:=ok.few;obtain⟨k1,k8,kn,n16,s1,s8⟩:=ok.cfg;by_cases hq:255<n
 ·have hq1:(255:Int)<(n:Int):=by omega
  clear c0 c1 c2 c3 hvo;go_enter Tryz.func35,Tryz.ntmps35;go_wp2_with fail
  go_quiet (fail)
  go_wp2_with fail;go_ret2;exact .inl ⟨by omega,rfl,below_drew rfl⟩
 ·have hq1:¬(255:Int)<(n:Int):=by omega
  by_cases h16:s.os.length=16
  ·have h161:(s.os.length:Int)=16:=by omega
   go_enter Tryz.func35,Tryz.ntmps35;go_wp2_with fail
   go_quiet (fail)
   go_wp2_with fail;go_ret2;exact .inr (.inl ⟨by omega,h16,rfl,below_drew rfl⟩)
  ·have h161:¬(s.os.length:Int)=16:=by omega
   go_enter Tryz.func35,Tryz.ntmps35;go_wp2_with fail;refine(of_any s.K s.N s.S n ok.cfg (by omega) w).mono ?_;rintro e w1 ⟨rfl,hb1⟩;have hTr:=symN_range (S:=s.S) (len:=n) s1;clear c0 c1 c2 c3 g1 g2;go_wp2_with fail;refine(blocks_any s.K s.N s.S (symN s.S n) k1 k8 (by omega) w1).mono ?_;rintro e w2 ⟨rfl,hb2⟩;have hQl:=partsN_le (a:=symN s.S n) k1;obtain⟨Q,hQ⟩:∃ x,x=partsN (symN s.S n) s.K:=⟨_,rfl⟩;rw[<- hQ]at hQl ⊢;have HQ:Hid (Q=partsN (symN s.S n) s.K):=hQ;clear hQ;have hmk:=make_debts Q (by omega) w2;have hbw2:Below w.heap.size w w2:=hb1.trans (hb2.mono hb1.size);go_upto_region 7 with fail;clear hmk hb1 hb2;have hb3:Below w2.heap.size w2 (w2.alloc (.cells (flat2 (debtVals (debts0 Q))).toArray 125)):=(Below.refl _ _).alloc (Nat.le_refl _) _;have hD3:=heap_alloc_new w2 (.cells (flat2 (debtVals (debts0 Q))).toArray 125);generalize w2.alloc (.cells (flat2 (debtVals (debts0 Q))).toArray 125)=W3 at *;have hbw3:Below w.heap.size w W3:=hbw2.trans (hb3.mono hbw2.size);have h3:=h.above hbw3;have hsz3:=hbw3.size;have hsz2:=hbw2.size;have hD3l:=lt_of_block hD3;have hB3:Bs W3 b o l:=fun i hi=>by rw[hbw3.cell (lt_of_cell (hB i hi))];exact hB i hi
   have hB3d:Bs W3.drew b o l:=hB3;obtain⟨_,_,_,c3,_,_⟩:=h3.cells;rw[hvo]at c3;have hBl:=h.foot_lt (b:=sb) (.inl rfl);obtain⟨iT,hiT,hiT0,hiT1,hiT2⟩:=Tryz.told_parts;have HV:Hid (s.vo=.slice va s.os.length vc):=hvo
   have HOW:Hid (∀ w4,Below W3.drew.heap.size W3.drew w4->∀ ob:Obj,(w4.alloc ob).ownsRow B 120 2 (.slice va s.os.length vc) s.os.length (flat2 (objVals s.os))):=fun w4 hb4 ob=>by
    have:=(h3.above (Below.undraw hb4)).own;rw[HV.out]at this;exact this.alloc ob
   have HBL:Hid (∀ w4,Below W3.drew.heap.size W3.drew w4->∀ ob:Obj,B<=(w4.alloc ob).heap.size):=fun w4 hb4 ob=>by
    have h1:W3.heap.size<=w4.heap.size:=hb4.size;simp;omega
   have HML:Hid (s.os.length+1<=maxLen):=by show _<=_;unfold maxLen;omega
   have HMB:Hid ((s.os.length+1)*48<=140737488355328):=by show _<=_;omega
   have HK6:Hid (∀ w4 ob w6,Below W3.drew.heap.size W3.drew w4->(w4.alloc ob).grownBy w6 (Value.slice va s.os.length vc).ownBlock->w6.cell? ⟨sb,3,none⟩=some (.slice va s.os.length vc)/\w6.frozen? ⟨sb,3,none⟩=false):=fun w4 ob w6 hb4 hg=>by
    have h4:=h3.above (Below.undraw hb4);have hs4:=lt_of_block h4.blk;have hk:w6.heap[sb]?=w4.heap[sb]?:=(grown_block hg (by simp;omega) (fun q=>by rw[<- HV.out]at q;exact own_ne h4.own q h4.blk (by decide) rfl)).trans (Below.heap_alloc w4 ob sb hs4);have hblk:=hk.trans h4.blk;exact⟨by rw[cell_of_row w6 sb 3 _ _ _ hblk];show some s.vo=_;rw[HV.out],frozen_of_row w6 sb 3 _ _ hblk⟩
   clear hvo
   go_region_law ((first
    | (refine step_append_lies _ (by rfl) _ _ _ (by rfl) B 120 iT (.agg #[.slice none 0 0,.slice none 0 0]) 2 48 Tryz.underlying112 hiT hiT0 hiT1 hiT2 rfl (by omega) (.slice va s.os.length vc) s.os.length (flat2 (objVals s.os)) (by rfl) (HOW.out _ hb4 _) ⟨w4.heap.size,0,none⟩ 1 1 [.slice a4 n c4,.slice (some ⟨w2.heap.size,0,none⟩) Q Q] (by rfl) rfl (cell_two_at w4 _ _ _ _ rfl) HNW.out (by omega) HML.out HMB.out (HBL.out _ hb4 _) (w4.heap.size+1) (by simp) ?_;intro g6 cap6 w6 hown6 hgr6 hlie6 hlt6;obtain⟨k6,f6⟩:=HK6.out _ _ _ hb4 hgr6)
    | (go_simp;go_at_call 62;refine(clone_all a b o n c l W3.drew hl (by omega) ha hB3d).mono ?_;rintro e w4 ⟨a4,c4,rfl,hown4,hb4⟩;have HNW:Hid (∀ u ∈ [Value.slice a4 n c4,.slice (some ⟨w2.heap.size,0,none⟩) Q Q],u.oneCell'=true):=(fun u hu=>by simp at hu;rcases hu with rfl|rfl<;>rfl);(have k3:w4.cell? ⟨sb,3,none⟩=some (.slice va s.os.length vc):=by rw[hb4.cell (lt_of_cell c3)];exact c3);have hl4:=lt_of_cell k3;have hn4:¬ sb=w4.heap.size:=Nat.ne_of_lt hl4)))
   all_goals go_wp2_with fail
   all_goals go_ret2
   all_goals subst hl
   all_goals exact enq_end h (by omega) HV.out HQ.out (by omega) (by omega) hbw3 hD3 hsz2 hown4 (Below.undraw hb4) hown6 hgr6 hlie6
theorem asks_valid{K T:Nat}{m:List Gf.F}:∀ r i least,asksFrom K T m r i least=none->∀ k,k<r->bt m (1+2*(i+k))<partsN T K/\1<=bt m (1+2*(i+k)+1)/\bt m (1+2*(i+k)+1)<=srcN K T (bt m (1+2*(i+k)))
 | 0,_,_,_,k,hk=>by omega
 | r+1,i,least,h,k,hk=>by
  unfold asksFrom at h
  cases hl:lackB K T m (1+2*i) least with
  | some e=>rw[hl]at h;cases h
  | none=>
   rw[hl]at h;by_cases e:k=0
   ·subst e
    unfold lackB at hl;split at hl
    ·cases hl
    split at hl
    ·cases hl
    split at hl
    ·cases hl
    split at hl
    ·cases hl
    rename_i h1 h2 h3 h4;simp only[Bool.not_eq_false]at h2 h4;have h2':=h2;have h4':=h4;simp[blkB]at h2';simp[manyB]at h4';have h5:=winB_iff.1 h2'.2;rw[Nat.add_zero];exact⟨by omega,h4'.1,h4'.2⟩
   ·have:=asks_valid r (i+1) _ h (k - 1) (by omega)
    rw[show i+1+(k - 1)=i+k by omega]at this;exact this
theorem parse_asks{K N S:Nat}{l:List Gf.F}(h:parseE K N S l=none)(hk:¬ bt l 0=1):bt l 0=2/\lenOf l<=255/\bt l 1<16/\∀ k,k<bt (l.drop 4) 0->bt (l.drop 4) (1+2*k)<partsN (symN S (lenOf l)) K/\1<=bt (l.drop 4) (1+2*k+1)/\bt (l.drop 4) (1+2*k+1)<=srcN K (symN S (lenOf l)) (bt (l.drop 4) (1+2*k)):=by
 unfold parseE at h
 cases hh:headE l with
 | some e=>rw[hh]at h;cases h
 | none=>
  rw[hh]at h;simp only[if_neg hk,Option.map_eq_none_iff]at h;unfold headE at hh;split at hh
  ·cases hh
  split at hh
  ·cases hh
  split at hh
  ·cases hh
  split at hh
  ·cases hh
  split at hh
  ·cases hh
  split at hh
  ·cases hh
  rename_i _ h2 _ h4 _ h6;simp[kindB]at h2;simp[objB]at h4;simp[lenB]at h6;unfold asksB at h;split at h
  ·cases h
  split at h
  ·cases h
  refine⟨?_,h6,h4,fun k hk'=>?_⟩
  ·exact h2 hk
  ·have:=asks_valid _ 0 0 h k hk'
   rw[Nat.zero_add]at this;exact this
def Snd.askN(s:Snd)(i:Nat)(m:List Gf.F):Nat->Snd
 | 0=>s
 | k+1=>(s.askN i m k).setD i (bt m (1+2*k)) (max (dat (oat (s.askN i m k).os i).ds (bt m (1+2*k))).1 (bt m (1+2*k+1)),(dat (oat (s.askN i m k).os i).ds (bt m (1+2*k))).2)
theorem askN_len(s:Snd)(i:Nat)(m:List Gf.F):∀ k,(s.askN i m k).os.length=s.os.length
 | 0=>rfl
 | k+1=>by unfold Snd.askN;rw[Snd.setD_len];exact askN_len s i m k
theorem askN_dg{s:Snd}{i:Nat}(hi:i<s.os.length)(m:List Gf.F):∀ k,(oat (s.askN i m k).os i).dg=(oat s.os i).dg
 | 0=>rfl
 | k+1=>by unfold Snd.askN;rw[dg_setD (by rw[askN_len];exact hi)];exact askN_dg hi m k
theorem askN_dl{s:Snd}{i:Nat}(hi:i<s.os.length)(m:List Gf.F):∀ k,(oat (s.askN i m k).os i).ds.length=(oat s.os i).ds.length
 | 0=>rfl
 | k+1=>by unfold Snd.askN;rw[len_setD (by rw[askN_len];exact hi)];exact askN_dl hi m k
theorem lackCells_get(m:List Gf.F):∀ k j,j<k->(lackCells m k)[j*2]?=some (.int .i64 (bt m (1+2*j):Int))/\(lackCells m k)[j*2+1]?=some (.int .i64 (bt m (1+2*j+1):Int))
 | 0,j,h=>by omega
 | k+1,j,h=>by
  have hl:=lackCells_length m k;by_cases e:j<k
  ·obtain⟨h1,h2⟩:=lackCells_get m k j e
   exact⟨by rw[lackCells,List.getElem?_append_left (by omega)];exact h1,by rw[lackCells,List.getElem?_append_left (by omega)];exact h2⟩
  ·obtain rfl:j=k:=by omega
   exact⟨by rw[lackCells,List.getElem?_append_right (by omega),hl,Nat.sub_self];rfl,by rw[lackCells,List.getElem?_append_right (by omega),hl,show j*2+1 - j*2=1 by omega];rfl⟩
theorem askN_debt{s:Snd}(ok:s.Ok){i:Nat}(hi:i<s.os.length){m:List Gf.F}{M:Nat}(hv:∀ k,k<M->bt m (1+2*k)<s.Q i/\bt m (1+2*k+1)<=8):∀ k,k<=M->∀ q,q<s.Q i->(dat (oat (s.askN i m k).os i).ds q).1<=8/\(dat (oat (s.askN i m k).os i).ds q).2=(dat (oat s.os i).ds q).2
 | 0,_,q,hq=>⟨(ok.debt i q hi hq).1,rfl⟩
 | k+1,hk,q,hq=>by
  have ih:=askN_debt ok hi hv k (by omega) q hq;have h8:=hv k (by omega);have ih2:=askN_debt ok hi hv k (by omega) _ h8.1;have hi':i<(s.askN i m k).os.length:=by rw[askN_len];exact hi
  by_cases e:q=bt m (1+2*k)
  ·subst e
   unfold Snd.askN;rw[dat_setD hi' (by rw[askN_dl hi,ok.blocks i hi];exact hq)];exact⟨by show max _ _<=8;omega,ih.2⟩
  ·have h9:dat (oat (s.askN i m (k+1)).os i).ds q=dat (oat (s.askN i m k).os i).ds q:=by
    show dat (oat ((s.askN i m k).setD i (bt m (1+2*k)) _).os i).ds q=_;rw[Snd.setD_at hi',if_pos rfl];simp[dat,Ob.setD,List.getD,Ne.symm e]
   rw[h9];exact ih
def HearGives(A:Nat->Addr)(s:Snd)(l:List Gf.F)(B sb:Nat)(w:World)(e:Ending)(w':World):Prop:=
 match parseE s.K s.N s.S l with
 | some (c,k)=>∃ v,e=.returned v/\Wr w w' v (k:Int) (E A c)/\Below w.heap.size w w'
 | none=>
  if s.os.length<=bt l 1 then ∃ v,e=.returned v/\Wr w w' v 1 (E A 6)/\Below w.heap.size w w'
  else if lenOf l≠(oat s.os (bt l 1)).l.length then ∃ v,e=.returned v/\Wr w w' v 2 (E A 6)/\Below w.heap.size w w'
  else if bt l 0=1 then ∃ v,e=.returned v/\Wr w w' v 0 (E A 5)/\Below w.heap.size w w'
  else e=.returned .nilIface/\SAt w' B sb (s.askN (bt l 1) (l.drop 4) (bt (l.drop 4) 0))/\But (s.foot sb) w w'
theorem ParseGives.packet{A:Nat->Addr}{K N S:Nat}{l:List Gf.F}{w w':World}{e:Ending}(h:ParseGives A K N S l w e w')(hp:parseE K N S l=none):
 ∃(x3 x4 M c6 n5 c5:Nat) (a5 a6:Option Addr),e=.returned (.tuple #[.agg #[.int .i64 (bt l 0:Int),.int .i64 (bt l 1:Int),.int .i64 (lenOf l:Int),.int .i64 x3,.int .i64 x4,.slice a5 n5 c5,.slice a6 M c6],.nilIface])/\
  (¬ bt l 0=1->M=bt (l.drop 4) 0/\w'.ownsRow w.heap.size 122 2 (.slice a6 M c6) M (lackCells (l.drop 4) M))/\Below w.heap.size w w':=by
 obtain⟨h1,hb⟩:=h;rw[hp]at h1;by_cases hk:bt l 0=1
 ·simp only[if_pos hk]at h1
  obtain⟨a,c1,he,_⟩:=h1;exact⟨_,_,0,0,_,_,a,none,he,fun h=>absurd hk h,hb⟩
 ·simp only[if_neg hk]at h1
  obtain⟨a,c1,he,ho⟩:=h1;exact⟨0,0,_,c1,0,0,none,a,he,fun _=>⟨rfl,ho⟩,hb⟩
theorem parse_head{K N S:Nat}{l:List Gf.F}(h:parseE K N S l=none):(bt l 0=1∨bt l 0=2)/\lenOf l<=255/\bt l 1<16:=by
 unfold parseE at h
 cases hh:headE l with
 | some e=>rw[hh]at h;cases h
 | none=>
  unfold headE at hh;split at hh
  ·cases hh
  split at hh
  ·cases hh
  split at hh
  ·cases hh
  split at hh
  ·cases hh
  split at hh
  ·cases hh
  split at hh
  ·cases hh
  rename_i _ h2 _ h4 _ h6;simp[kindB]at h2;simp[objB]at h4;simp[lenB]at h6;exact⟨by omega,h6,h4⟩
theorem hear_any{A:Nat->Addr}{B0 B sb b o n c:Nat}{a:Option Addr}{l:List Gf.F}{s:Snd}{w:World}(h:SAt w B sb s)(ok:s.Ok)(hE:Errs A B0 w)(hET:ErrType w)(hB9:8<w.heap.size)(hl:l.length=n)(hn:n<=c)(hc:c<=9223372036854775807)(hn2:n<=140737488355328)(ha:0<n->a=some ⟨b,o,none⟩)(hB:Bs w b o l)(hb:0<n->b<w.heap.size):
 Calls Tryz.prog 16 #[.pointer (some ⟨sb,0,none⟩),.slice a n c] w (HearGives A s l B sb w):=by
 obtain⟨c0,c1,c2,_,_,_⟩:=h.cells;have hP:=parse_any A B0 a b o n c s.K s.N s.S l w hE hET hB9 ok.cfg hl hn hc hn2 ha hB hb
 cases hpe:parseE s.K s.N s.S l with
 | some ep=>
  obtain⟨ec,ek⟩:=ep;go_enter Tryz.func16,Tryz.ntmps16;go_wp2_with fail;refine hP.mono ?_;intro e w1 hG;obtain⟨h1,hb1⟩:=hG;rw[hpe]at h1;obtain⟨v,rfl,pb,rfl,hpb,hblk⟩:=h1;clear hP c0 c1 c2;go_wp2_with fail;go_ret;unfold HearGives;rw[hpe];exact⟨_,rfl,⟨pb,rfl,hpb,(Below.heap_alloc w1 _ pb (lt_of_block hblk)).trans hblk⟩,hb1.alloc hb1.size _⟩
 | none=>
  obtain⟨hkd,hle,hob⟩:=parse_head hpe;go_enter Tryz.func16,Tryz.ntmps16;go_wp2_with fail;refine hP.mono ?_;intro e w1 hG;obtain⟨x3,x4,M,c6,n5,c5,a5,a6,rfl,hask,hb1⟩:=hG.packet hpe;clear hP c0 c1 c2 hG;go_upto_region 4 with fail;have hb2:Below w.heap.size w (w1.alloc (.cells #[.int .i64 (bt l 0:Int),.int .i64 (bt l 1:Int),.int .i64 (lenOf l:Int),.int .i64 x3,.int .i64 x4,.slice a5 n5 c5,.slice a6 M c6] 60)):=hb1.alloc hb1.size _;have hP2:=heap_alloc_new w1 (.cells #[.int .i64 (bt l 0:Int),.int .i64 (bt l 1:Int),.int .i64 (lenOf l:Int),.int .i64 x3,.int .i64 x4,.slice a5 n5 c5,.slice a6 M c6] 60);have hbA:Below w1.heap.size w1 (w1.alloc (.cells #[.int .i64 (bt l 0:Int),.int .i64 (bt l 1:Int),.int .i64 (lenOf l:Int),.int .i64 x3,.int .i64 x4,.slice a5 n5 c5,.slice a6 M c6] 60)):=(Below.refl _ _).alloc (Nat.le_refl _) _;generalize w1.alloc (.cells #[.int .i64 (bt l 0:Int),.int .i64 (bt l 1:Int),.int .i64 (lenOf l:Int),.int .i64 x3,.int .i64 x4,.slice a5 n5 c5,.slice a6 M c6] 60)=W2 at *;have h2:=h.above hb2;have hs1:=hb1.size;have hs2:=hb2.size;have hE2:=hE.shrink _ hb2;obtain⟨y0,y1,y2,_,_,_,y6⟩:=pk7 hP2;obtain⟨_,_,_,c3,_,_⟩:=h2.cells;obtain⟨va,vc,hvo,_⟩:=own_form2 h2.own;have HV:Hid (s.vo=.slice va s.os.length vc):=hvo;rw[hvo]at c3;have hfew:=ok.few;have g5:=hE2.cell 5 (by omega);have g4:=hE2.cell 4 (by omega);have g5':W2.cell? ⟨2,0,none⟩=some (.iface 269 (.pointer (some (A 5)))):=g5;have g4':W2.cell? ⟨3,0,none⟩=some (.iface 269 (.pointer (some (A 4)))):=g4;clear g5 g4 hvo
  have HG:Hid (∀(e:Ending) (w':World),HearGives A s l B sb w e w'=(if s.os.length<=bt l 1 then ∃ v,e=.returned v/\Wr w w' v 1 (E A 6)/\Below w.heap.size w w'
   else if lenOf l≠(oat s.os (bt l 1)).l.length then ∃ v,e=.returned v/\Wr w w' v 2 (E A 6)/\Below w.heap.size w w'
   else if bt l 0=1 then ∃ v,e=.returned v/\Wr w w' v 0 (E A 5)/\Below w.heap.size w w'
   else e=.returned .nilIface/\SAt w' B sb (s.askN (bt l 1) (l.drop 4) (bt (l.drop 4) 0))/\But (s.foot sb) w w')):=fun e w'=>by
   unfold HearGives;rw[hpe]
  have HWR:Hid (∀(W:World) (z:Int) (k:Nat),Below w.heap.size w W->Wr w (W.alloc (.cells #[.int .i64 z,.iface 269 (.pointer (some (A k)))] 168)) (.iface 166 (.pointer (some ⟨W.heap.size,0,none⟩))) z (E A (k+1))/\Below w.heap.size w (W.alloc (.cells #[.int .i64 z,.iface 269 (.pointer (some (A k)))] 168))):=fun W z k hW=>⟨⟨W.heap.size,rfl,hW.size,heap_alloc_new W _⟩,hW.alloc hW.size _⟩
  obtain⟨kd,hkde⟩:∃ x,x=bt l 0:=⟨_,rfl⟩;obtain⟨ob,hobe⟩:∃ x,x=bt l 1:=⟨_,rfl⟩;obtain⟨ln,hlne⟩:∃ x,x=lenOf l:=⟨_,rfl⟩;rw[<- hkde]at y0 hkd hask HG ⊢;rw[<- hobe]at y1 hob HG ⊢;rw[<- hlne]at y2 hle HG ⊢;have HKD:Hid (kd=bt l 0):=hkde;have HOB:Hid (ob=bt l 1):=hobe;have HLN:Hid (ln=lenOf l):=hlne;have HVAL:Hid (¬ kd=1->∀ k,k<bt (l.drop 4) 0->bt (l.drop 4) (1+2*k)<partsN (symN s.S ln) s.K/\1<=bt (l.drop 4) (1+2*k+1)/\bt (l.drop 4) (1+2*k+1)<=srcN s.K (symN s.S ln) (bt (l.drop 4) (1+2*k))):=fun hk=>by rw[hkde]at hk;rw[hlne];exact(parse_asks hpe hk).2.2.2
  clear hkde hobe hlne hpe;by_cases hA:s.os.length<=ob
  ·have hA1:(s.os.length:Int)<=(ob:Int):=by omega
   go_quiet (fail)
   go_wp2_with (go_at_call 41;refine(wrong_any _ _ _ _).mono ?_;rintro e w' ⟨rfl,rfl⟩);go_ret;have hbq:Below w.heap.size w (W2.drewN nq):=hb2.trans ((below_drew (w:=W2) (nq:=nq) rfl).mono hs2);rw[HG.out,if_pos hA];exact⟨_,rfl,(HWR.out _ 1 5 hbq).1,(HWR.out _ 1 5 hbq).2⟩
  ·have hA1:¬(s.os.length:Int)<=(ob:Int):=by omega
   have hobl:ob<s.os.length:=by omega
   go_quiet (fail)
   go_upto_region 6 with fail;obtain⟨W3,hW3⟩:∃ x,x=W2.drewN nq:=⟨_,rfl⟩;rw[<- hW3];have hb23:Below W2.heap.size W2 W3:=below_drew hW3;have hb3:=hb2.trans (hb23.mono hs2);have h3:=h2.above hb23;have hP3:=(hb23.block _ (lt_of_block hP2)).trans hP2;have hE3:=hE2.shrink _ hb23;have z5:W3.cell? ⟨2,0,none⟩=some (.iface 269 (.pointer (some (A 5)))):=hE3.cell 5 (by omega);have z4:W3.cell? ⟨3,0,none⟩=some (.iface 269 (.pointer (some (A 4)))):=hE3.cell 4 (by omega);clear hW3 y0 y1 y2 y6 c3 g5' g4';rw[<- HKD.out,<- HOB.out,<- HLN.out]at hP3;obtain⟨y0,y1,y2,_,_,_,y6⟩:=pk7 hP3;obtain⟨_,_,_,c3,_,_⟩:=h3.cells;obtain⟨g,cp,hv,hcp,hl2⟩:=h3.list (by omega);obtain⟨t0,t1⟩:=hl2 ob hobl;rw[hv]at c3;unfold Ob.bv at t0;unfold Ob.dv at t1;obtain⟨oa,hoa⟩:∃ x,x=(oat s.os ob).a:=⟨_,rfl⟩;obtain⟨ol,hol⟩:∃ x,x=(oat s.os ob).l.length:=⟨_,rfl⟩;obtain⟨oc,hoc⟩:∃ x,x=(oat s.os ob).c:=⟨_,rfl⟩;obtain⟨dg,hdg⟩:∃ x,x=(oat s.os ob).dg:=⟨_,rfl⟩;obtain⟨dn,hdn⟩:∃ x,x=(oat s.os ob).ds.length:=⟨_,rfl⟩;rw[<- hoa,<- hol,<- hoc]at t0;rw[<- hdg,<- hdn]at t1;have HOL:Hid (ol=(oat s.os ob).l.length):=hol;have HDG:Hid (dg=(oat s.os ob).dg):=hdg;have HDN:Hid (dn=(oat s.os ob).ds.length):=hdn;have hol2:ol<=255:=by rw[hol];exact ok.len ob hobl
   have hgl:=lt_of_cell t0;have hpl:=lt_of_cell y1;have hsl:=lt_of_cell c3;have hn1:¬ sb=W3.heap.size:=Nat.ne_of_lt hsl;have hn2':¬ g=W3.heap.size:=Nat.ne_of_lt hgl;have hn3:¬ w1.heap.size=W3.heap.size:=Nat.ne_of_lt hpl;have hlt1:(0:Int)<=(ob:Int):=by omega
   have hlt2:(ob:Int)<(s.os.length:Int):=by omega
   clear hl2 hv hoa hol hoc hdg hdn HV
   go_cut[7] (fun t wx=>∃ tb,t=.pointer (some ⟨tb,0,none⟩)/\wx.heap[tb]?=some (.cells #[.slice oa ol oc,.slice (some ⟨dg,0,none⟩) dn dn] 120 (0,0))/\W3.heap.size<=tb/\Below W3.heap.size W3 wx)
   case first=>
    go_region_held3 (fun w'=>w'.cell? ⟨sb,3,none⟩=some (.slice (some ⟨g,0,none⟩) s.os.length cp)/\w'.cell? ⟨w1.heap.size,1,none⟩=some (.int .i64 ob)/\w'.cell? ⟨g,ob*2,none⟩=some (.slice oa ol oc)/\w'.cell? ⟨g,ob*2+1,none⟩=some (.slice (some ⟨dg,0,none⟩) dn dn)) (go_keep) (fail)
    all_goals go_wp2_with fail
    all_goals go_meet
    all_goals exact⟨W3.heap.size,rfl,heap_alloc_new W3 _,Nat.le_refl _,((Below.refl _ _).alloc (Nat.le_refl _) _).drew⟩
   case rest=>
    obtain⟨tb,rfl,hT,htb,hbx⟩:=hcut;have hs3:=hb3.size;have hb4:=hb3.trans (hbx.mono hs3);have h4:=h3.above hbx;have hP4:=(hbx.block _ (lt_of_block hP3)).trans hP3;have hE4:=hE3.shrink _ hbx;have z5':wc.cell? ⟨2,0,none⟩=some (.iface 269 (.pointer (some (A 5)))):=hE4.cell 5 (by omega);have z4':wc.cell? ⟨3,0,none⟩=some (.iface 269 (.pointer (some (A 4)))):=hE4.cell 4 (by omega);clear y0 y1 y2 y6 c3 t0 t1 z5 z4;obtain⟨y0,y1,y2,_,_,_,y6⟩:=pk7 hP4;have u0:wc.cell? ⟨tb,0,none⟩=some (.slice oa ol oc):=cell_of_row wc _ 0 _ _ _ hT;have u1:wc.cell? ⟨tb,1,none⟩=some (.slice (some ⟨dg,0,none⟩) dn dn):=cell_of_row wc _ 1 _ _ _ hT;by_cases hL:ln=ol
    ·have hL1:¬((ln:Int) != (ol:Int))=true:=by simp[hL]
     have hL2:(ln:Int)=(ol:Int):=by omega
     rcases hkd with hkd|hkd
     ·have hk2:¬(kd:Int)=2:=by omega
      go_wp2_with (go_at_call 41;refine(wrong_any _ _ _ _).mono ?_;rintro e w' ⟨rfl,rfl⟩);go_ret;rw[HG.out,if_neg (by omega),if_neg (by rw[<- HOL.out];omega),if_pos hkd];exact⟨_,rfl,(HWR.out _ 0 4 hb4).1,(HWR.out _ 0 4 hb4).2⟩
     ·have hk2:(kd:Int)=2:=by omega
      obtain⟨hM,hrow⟩:=hask (by omega);have hrow4:wc.ownsRow w.heap.size 122 2 (.slice a6 M c6) M (lackCells (l.drop 4) M):=own_of_block hrow (fun x hx=>((hbx.block _ (Nat.lt_of_lt_of_le (Nat.lt_of_lt_of_le (hrow.lt x hx).2 hbA.size) hb23.size)).trans (hb23.block _ (Nat.lt_of_lt_of_le (hrow.lt x hx).2 hbA.size))).trans (hbA.block _ (hrow.lt x hx).2));have hM2:M<256:=by rw[hM];exact bt_lt _ _
      have HVA:Hid (∀ k,k<M->bt (l.drop 4) (1+2*k)<s.Q ob/\bt (l.drop 4) (1+2*k+1)<=8):=fun k hk=>by
       have h9:=HVAL.out (by omega) k (by rw[<- hM];exact hk);have hT9:symN s.S ln=s.T ob:=by unfold Snd.T;rw[hL,HOL.out]
       rw[hT9]at h9;obtain⟨k1,k8,kn,n16,s1,s8⟩:=ok.cfg;have:srcN s.K (s.T ob) (bt (l.drop 4) (1+2*k))<=8:=by unfold srcN;omega
       exact⟨h9.1,by omega⟩
      have HM:Hid (M=bt (l.drop 4) 0):=hM;have HDQ:Hid (dn=s.Q ob):=by show _=_;rw[HDN.out];exact ok.blocks ob hobl
      generalize l.drop 4=m at *;clear hM hask hrow;go_wp2_with fail
      go_loopw[57] (fun t wr=>∃ k:Nat,k<=M/\t=.int .i64 k/\SAt wr B sb (s.askN ob m k)/\But (s.foot sb) w wr/\Hid (wr.heap[tb]?=some (.cells #[.slice oa ol oc,.slice (some ⟨dg,0,none⟩) dn dn] 120 (0,0)))/\Hid (wr.ownsRow w.heap.size 122 2 (.slice a6 M c6) M (lackCells m M))) (fun t _=>M - (intOf t).toNat)
      case atStart=>exact⟨0,by omega,rfl,h4,Below.but hb4 (s.foot sb) (fun k hk q=>absurd hk q),hT,hrow4⟩
      case round=>
       obtain⟨k,hkM,rfl,hSA,hBu,hTr,hRr⟩:=hrel;by_cases hlt:k<M
       ·have hi':ob<(s.askN ob m k).os.length:=by rw[askN_len];exact hobl
        obtain⟨hvq,hvy⟩:=HVA.out k hlt;have hqd:bt m (1+2*k)<(oat (s.askN ob m k).os ob).ds.length:=by rw[askN_dl hobl,<- HDN.out,HDQ.out];exact hvq
        obtain⟨e0,_⟩:=hSA.debt hi' hqd;have ho8:=(askN_debt ok hobl HVA.out k hkM _ hvq).1;have hdgk:(oat (s.askN ob m k).os ob).dg=dg:=by rw[askN_dg hobl,HDG.out]
        rw[hdgk]at e0;have hqn:bt m (1+2*k)<dn:=by rw[HDQ.out];exact hvq
        have hdn2:dn<=256:=by
         obtain⟨k1,k8,kn,n16,s1,s8⟩:=ok.cfg;have h7:=partsN_le (a:=s.T ob) k1;have h8:=symN_range (S:=s.S) (len:=(oat s.os ob).l.length) s1;have h9:=ok.len ob hobl;rw[HDQ.out];show partsN (s.T ob) s.K<=256;have:s.T ob=symN s.S (oat s.os ob).l.length:=rfl;omega
        obtain⟨ga,ca,hv6,_,_⟩:=hRr.out.form (by omega);simp only[Value.slice.injEq]at hv6;obtain⟨rfl,-,-⟩:=hv6;have eadd:∀ j,(⟨ga,0,none⟩:Addr).add j=⟨ga,j,none⟩:=fun j=>by unfold Addr.add;split<;>simp_all
        have x0:=hRr.out.cells (g:=ga) rfl (k*2) _ (lackCells_get m M k hlt).1;have x1:=hRr.out.cells (g:=ga) rfl (k*2+1) _ (lackCells_get m M k hlt).2;rw[eadd]at x0 x1;have u1r:wr.cell? ⟨tb,1,none⟩=some (.slice (some ⟨dg,0,none⟩) dn dn):=cell_of_row wr _ 1 _ _ _ hTr.out
        have HSO:Hid (∀ W,SAt W B sb (s.askN ob m k)->SAt (W.setCell ⟨dg,bt m (1+2*k)*2,none⟩ (.int .i64 ((max (dat (oat (s.askN ob m k).os ob).ds (bt m (1+2*k))).1 (bt m (1+2*k+1)):Nat):Int))) B sb (s.askN ob m (k+1))/\But (fun b=>b=dg) W (W.setCell ⟨dg,bt m (1+2*k)*2,none⟩ (.int .i64 ((max (dat (oat (s.askN ob m k).os ob).ds (bt m (1+2*k))).1 (bt m (1+2*k+1)):Nat):Int)))):=fun W hW=>by
         have:=hW.owed hi' hqd (max (dat (oat (s.askN ob m k).os ob).ds (bt m (1+2*k))).1 (bt m (1+2*k+1)));rw[hdgk]at this;exact this
        have HFZ:Hid (∀ W,SAt W B sb (s.askN ob m k)->W.frozen? ⟨dg,bt m (1+2*k)*2,none⟩=false):=fun W hW=>by
         have:=hW.frozenD hi' (bt m (1+2*k)*2);rw[hdgk]at this;exact this
        have hy256:=bt_lt m (1+2*k+1);obtain⟨od,hod⟩:∃ x,x=(dat (oat (s.askN ob m k).os ob).ds (bt m (1+2*k))).1:=⟨_,rfl⟩;rw[<- hod]at e0 ho8 HSO;obtain⟨qb,hqb⟩:∃ x,x=bt m (1+2*k):=⟨_,rfl⟩;obtain⟨yb,hyb⟩:∃ x,x=bt m (1+2*k+1):=⟨_,rfl⟩;rw[<- hqb]at e0 x0 hqn HSO HFZ;rw[<- hyb]at x1 hvy hy256 HSO;clear hod hqb hyb hqd hdgk hvq eadd y0 y1 y2 y6 u0 u1;have hlt3:(0:Int)<=(qb:Int):=by omega
        have hlt4:(qb:Int)<(dn:Int):=by omega
        have na:¬ tb=wr.heap.size:=Nat.ne_of_lt (lt_of_cell u1r);have nb:¬ dg=wr.heap.size:=Nat.ne_of_lt (lt_of_cell e0);have nc:¬ ga=wr.heap.size:=Nat.ne_of_lt (lt_of_cell x0);go_upto_region 14 with fail;have hb5:Below wr.heap.size wr (wr.alloc (.cells #[.int .i64 qb,.int .i64 yb] 122)):=(Below.refl _ _).alloc (Nat.le_refl _) _;have hL5:=heap_alloc_new wr (.cells #[.int .i64 qb,.int .i64 yb] 122);generalize wr.alloc (.cells #[.int .i64 qb,.int .i64 yb] 122)=W5 at *;have h5:=hSA.above hb5;have l0:W5.cell? ⟨wr.heap.size,0,none⟩=some (.int .i64 qb):=cell_of_row W5 _ 0 _ _ _ hL5;have l1:W5.cell? ⟨wr.heap.size,1,none⟩=some (.int .i64 yb):=cell_of_row W5 _ 1 _ _ _ hL5;have u1s:W5.cell? ⟨tb,1,none⟩=some (.slice (some ⟨dg,0,none⟩) dn dn):=by rw[hb5.cell (lt_of_cell u1r)];exact u1r
        have e0s:W5.cell? ⟨dg,qb*2,none⟩=some (.int .i64 od):=by rw[hb5.cell (lt_of_cell e0)];exact e0
        have fzs:=HFZ.out W5 h5;have hd5:SAt W5.drew B sb (s.askN ob m k):=h5.kept (fun _ _=>rfl);obtain⟨hS6,hB6⟩:=HSO.out W5.drew hd5;have hT5:Hid (W5.heap[tb]?=some (.cells #[.slice oa ol oc,.slice (some ⟨dg,0,none⟩) dn dn] 120 (0,0))):=(hb5.block _ (lt_of_block hTr.out)).trans hTr.out;have hR5:Hid (W5.ownsRow w.heap.size 122 2 (.slice (some ⟨ga,0,none⟩) M c6) M (lackCells m M)):=own_of_block hRr.out (fun x hx=>hb5.block _ (hRr.out.lt x hx).2);clear x0 x1 u1r e0 na nb nc hRr hTr;have hdgw:dg<w.heap.size:=by rw[HDG.out];exact lt_of_block (h.debts ob hobl).2
        have hB5:But (s.foot sb) w W5.drew:=(hBu.below hb5 (fun i hi q=>absurd (Nat.lt_of_lt_of_le hi hBu.size) q)).drew
        have FIN:Hid (∀ W6,SAt W6 B sb (s.askN ob m (k+1))->But (fun b=>b=dg) W5.drew W6->SAt W6 B sb (s.askN ob m (k+1))/\But (s.foot sb) w W6/\Hid (W6.heap[tb]?=some (.cells #[.slice oa ol oc,.slice (some ⟨dg,0,none⟩) dn dn] 120 (0,0)))/\Hid (W6.ownsRow w.heap.size 122 2 (.slice (some ⟨ga,0,none⟩) M c6) M (lackCells m M))):=fun W6 hS hB=>
         ⟨hS,hB5.trans (hB.wide (fun x _ q=>.inr (.inr ⟨ob,hobl,.inl (q.trans HDG.out)⟩))),(hB.block tb (lt_of_block hT5.out) (by omega)).trans hT5.out,hB.own (show W5.drew.ownsRow _ _ _ _ _ _ from hR5.out) (fun x hx q=>by have:=(hR5.out.lt x hx).1;omega)⟩
        by_cases hmx:yb<=od
        ·have hm1:max od yb=od:=by omega
         have hm2:¬(od:Int)<(yb:Int):=by omega
         have hm3:(yb:Int)<=(od:Int):=by omega
         rw[hm1]at hS6 hB6;obtain⟨f1,f2,f3,f4⟩:=FIN.out _ hS6 hB6;go_wp2_with fail
         go_region
         all_goals go_wp2_with fail
         all_goals go_roundw
         case rel=>
          exact⟨k+1,by omega,by go_num,f1,f2,f3,f4⟩
         case measure=>simp[intOf];omega
        ·have hm1:max od yb=yb:=by omega
         have hm2:(od:Int)<(yb:Int):=by omega
         have hm3:¬(yb:Int)<=(od:Int):=by omega
         rw[hm1]at hS6 hB6;obtain⟨f1,f2,f3,f4⟩:=FIN.out _ hS6 hB6;go_wp2_with fail
         go_region
         all_goals go_wp2_with fail
         all_goals go_roundw
         case rel=>
          exact⟨k+1,by omega,by go_num,f1,f2,f3,f4⟩
         case measure=>simp[intOf];omega
       ·obtain rfl:k=M:=by omega
        go_wp2_with fail;go_ret;rw[HG.out,if_neg (by omega),if_neg (by rw[<- HOL.out];omega),if_neg (by omega)];refine⟨rfl,?_,hBu⟩;rw[<- HM.out];exact hSA
    ·have hL2:¬(ln:Int)=(ol:Int):=by omega
     go_wp2_with (go_at_call 41;refine(wrong_any _ _ _ _).mono ?_;rintro e w' ⟨rfl,rfl⟩);go_ret;rw[HG.out,if_neg (by omega),if_pos (by rw[<- HOL.out];exact hL)];exact⟨_,rfl,(HWR.out _ 2 5 hb4).1,(HWR.out _ 2 5 hb4).2⟩
theorem Snd.T_pos{s:Snd}(ok:s.Ok0)(i:Nat):1<=s.T i:=(symN_range (S:=s.S) (len:=(oat s.os i).l.length) ok.cfg.s1).1
theorem Snd.step_ok{s:Snd}(ok:s.Ok)(hn:s.no<s.os.length):s.step.Ok:=by
 have hsym:=ok.sym hn;unfold Snd.step;split
 ·refine⟨⟨ok.cfg,ok.few,ok.len⟩,ok.blocks,ok.debt,hn,fun _=>?_,fun _=>rfl⟩
  exact s.T_pos ok.toOk0 (s.no+1)
 ·refine⟨⟨ok.cfg,ok.few,ok.len⟩,ok.blocks,ok.debt,ok.next,fun _=>?_,fun h=>?_⟩
  ·show s.ns+1<s.T s.no
   omega
  ·have h':s.no=s.os.length:=h
   omega
theorem Snd.setD_ok{s:Snd}(ok:s.Ok){i q:Nat}(hi:i<s.os.length)(hq:q<s.Q i){d:Nat×Nat}(h1:d.1<=8)(h2:d.2<s.R i q):(s.setD i q d).Ok:=by
 have kT:∀ j,(s.setD i q d).T j=s.T j:=s.setD_T hi q d;have kQ:∀ j,(s.setD i q d).Q j=s.Q j:=fun j=>by unfold Snd.Q;rw[kT];rfl
 have kR:∀ j r,(s.setD i q d).R j r=s.R j r:=fun j r=>by unfold Snd.R;rw[kT];rfl
 refine⟨s.setD_ok0 ok.toOk0 hi q d,fun j hj=>?_,fun j r hj hr=>?_,by rw[s.setD_len];exact ok.next,fun h=>?_,fun h=>?_⟩
 ·rw[s.setD_len]at hj
  rw[kQ,s.setD_at hi];split
  ·rename_i e;subst e
   simp[Ob.setD];exact ok.blocks i hi
  ·exact ok.blocks j hj
 ·rw[s.setD_len]at hj
  rw[kQ]at hr;rw[kR,s.setD_at hi];split
  ·rename_i e;subst e
   by_cases e:r=q
   ·subst e
    have:dat ((oat s.os i).setD r d).ds r=d:=by simp[dat,Ob.setD,List.getD,(ok.blocks i hi).symm ▸ hr]
    rw[this];exact⟨h1,h2⟩
   ·have:dat ((oat s.os i).setD q d).ds r=dat (oat s.os i).ds r:=by simp[dat,Ob.setD,List.getD,Ne.symm e]
    rw[this];exact ok.debt i r hi hr
  ·exact ok.debt j r hj hr
 ·rw[s.setD_len]at h
  rw[kT];exact ok.sym h
 ·rw[s.setD_len]at h
  exact ok.done h
theorem Snd.R_pos{s:Snd}(ok:s.Ok){i q:Nat}(hi:i<s.os.length)(hq:q<s.Q i):1<=s.R i q:=by
 have:=(ok.debt i q hi hq).2;omega
theorem Snd.pay_ok{s:Snd}(ok:s.Ok){i q:Nat}(ho:s.owes i q):(s.pay i q).Ok:=
 s.setD_ok ok ho.1 ho.2.1 (by have:=(ok.debt i q ho.1 ho.2.1).1;show _ - 1<=8;omega) (Nat.mod_lt _ (s.R_pos ok ho.1 ho.2.1))
theorem NextIs.ok{s s':Snd}{l:List Gf.F}(h:NextIs s l s')(ok:s.Ok):s'.Ok:=by
 rcases h with⟨h,rfl,rfl⟩|⟨_,i,q,ho,_,rfl,rfl⟩
 ·exact s.step_ok ok h
 ·exact s.pay_ok ok ho
theorem Snd.askN_ok{s:Snd}(ok:s.Ok){i:Nat}(hi:i<s.os.length){m:List Gf.F}{M:Nat}(hv:∀ k,k<M->bt m (1+2*k)<s.Q i/\bt m (1+2*k+1)<=8):∀ k,k<=M->(s.askN i m k).Ok/\(∀ j,(s.askN i m k).Q j=s.Q j)
 | 0,_=>⟨ok,fun _=>rfl⟩
 | k+1,hk=>by
  obtain⟨ih,ihQ⟩:=askN_ok ok hi hv k (by omega);have hi':i<(s.askN i m k).os.length:=by rw[askN_len];exact hi
  have h8:=hv k (by omega);have hq':bt m (1+2*k)<(s.askN i m k).Q i:=by rw[ihQ];exact h8.1
  have hd:=ih.debt i _ hi' hq';refine⟨Snd.setD_ok ih hi' hq' (by show max _ _<=8;omega) hd.2,fun j=>?_⟩;show((s.askN i m k).setD i _ _).Q j=_;unfold Snd.Q;rw[Snd.setD_T hi'];exact ihQ j
theorem Snd.foot_setD{s:Snd}{i:Nat}(hi:i<s.os.length)(q:Nat)(d:Nat×Nat)(sb b:Nat):(s.setD i q d).foot sb b↔s.foot sb b:=by
 have key:∀ j,(oat (s.setD i q d).os j).dg=(oat s.os j).dg/\(oat (s.setD i q d).os j).bv=(oat s.os j).bv:=fun j=>by
  rw[s.setD_at hi];split
  ·rename_i e;subst e;exact⟨rfl,rfl⟩
  ·exact⟨rfl,rfl⟩
 unfold Snd.foot;rw[s.setD_len];constructor
 ·rintro(h|h|⟨j,hj,h⟩)
  ·exact .inl h
  ·exact .inr (.inl h)
  ·exact .inr (.inr ⟨j,hj,by rw[(key j).1,(key j).2]at h;exact h⟩)
 ·rintro(h|h|⟨j,hj,h⟩)
  ·exact .inl h
  ·exact .inr (.inl h)
  ·exact .inr (.inr ⟨j,hj,by rw[(key j).1,(key j).2];exact h⟩)
theorem Snd.foot_askN{s:Snd}{i:Nat}(hi:i<s.os.length)(m:List Gf.F)(sb b:Nat):∀ k,(s.askN i m k).foot sb b↔s.foot sb b
 | 0=>Iff.rfl
 | k+1=>(Snd.foot_setD (by rw[askN_len];exact hi) _ _ sb b).trans (Snd.foot_askN hi m sb b k)
theorem Snd.foot_step(s:Snd)(sb b:Nat):s.step.foot sb b↔s.foot sb b:=by
 unfold Snd.step;split<;>exact Iff.rfl
theorem NextIs.foot{s s':Snd}{l:List Gf.F}(h:NextIs s l s')(sb b:Nat):s'.foot sb b↔s.foot sb b:=by
 rcases h with⟨_,rfl,rfl⟩|⟨_,i,q,ho,_,rfl,rfl⟩
 ·exact s.foot_step sb b
 ·exact Snd.foot_setD ho.1 _ _ sb b
def cutF(l:List Gf.F)(p k:Nat):List Gf.F:=(List.range k).map fun t=>at_ l (p+t)
theorem cutF_succ(l:List Gf.F)(p k:Nat):cutF l p (k+1)=cutF l p k++[at_ l (p+k)]:=by simp[cutF,List.range_succ]
theorem cutF_length(l:List Gf.F)(p k:Nat):(cutF l p k).length=k:=by simp[cutF]
theorem symAt_cut(S:Nat)(l:List Gf.F)(i:Nat):symAt S l i=cutF l (i*S) S:=by
 refine list_ext (by rw[symAt_length,cutF_length]) (fun t ht=>?_);rw[symAt_length]at ht;have e1:at_ (cutF l (i*S) S) t=at_ l (i*S+t):=by simp[cutF,at_,List.getD,ht]
 rw[e1];unfold symAt padS at_;rw[List.getD_eq_getElem?_getD,List.getD_eq_getElem?_getD];by_cases h:i*S+t<l.length
 ·rw[List.getElem?_append_left (by simp;omega),List.getElem?_take,if_pos ht,List.getElem?_drop]
 ·rw[List.getElem?_append_right (by simp;omega),List.getElem?_eq_none (l:=l) (by omega),List.getElem?_replicate]
  split<;>rfl
theorem at_past(l:List Gf.F)(i:Nat)(h:l.length<=i):at_ l i=0:=by
 unfold at_;rw[List.getD_eq_getElem?_getD,List.getElem?_eq_none h];rfl
structure OutS(w:World)(B S:Nat)(f:Nat->List Gf.F)(v:Value)(k:Nat)(vs:List Value):Prop where
 len:vs.length=k
 own:w.ownsRow B 33 1 v k vs
 each:∀ t,t<k->∃ u,vs[t]?=some u/\w.ownsRow B 5 1 u S (encL (f t))
theorem OutS.nil(w:World)(B S:Nat)(f:Nat->List Gf.F):OutS w B S f (.slice none 0 0) 0 []:=⟨rfl,World.ownsRow_nil ..,fun t ht=>by omega⟩
theorem OutS.kept{w w':World}{B S k:Nat}{f:Nat->List Gf.F}{v:Value}{vs:List Value}(h:OutS w B S f v k vs)(hk:∀ j,j<w.heap.size->w'.heap[j]?=w.heap[j]?):OutS w' B S f v k vs:=
 ⟨h.len,own_of_block h.own (fun g hg=>hk g (h.own.lt g hg).2),fun t ht=>by
  obtain⟨u,h1,h2⟩:=h.each t ht;exact⟨u,h1,own_of_block h2 (fun g hg=>hk g (h2.lt g hg).2)⟩⟩
theorem OutS.step{w w':World}{B S k g c:Nat}{f:Nat->List Gf.F}{v u:Value}{vs:List Value}{o:Obj}(h:OutS w B S f v k vs)(hu:w.ownsRow B 5 1 u S (encL (f k)))
 (hown:w'.ownsRow B 33 1 (.slice (some ⟨g,0,none⟩) (k+1) c) (k+1) (vs++[u])) (hgr:(w.alloc o).grownBy w' v.ownBlock):OutS w' B S f (.slice (some ⟨g,0,none⟩) (k+1) c) (k+1) (vs++[u]):=by
 have far:∀(x:Value) (xs:List Value),w.ownsRow B 5 1 x S xs->w'.ownsRow B 5 1 x S xs:=fun x xs hx=>own_of_block hx (fun b hb=>by
  rw[grown_block hgr (by have:=(hx.lt b hb).2;simp;omega) (own2_ne hx h.own (by decide) b hb),Below.heap_alloc _ _ _ (hx.lt b hb).2])
 refine⟨by simp[h.len],hown,fun t ht=>?_⟩;by_cases e:t<k
 ·obtain⟨x,h1,h2⟩:=h.each t e
  exact⟨x,by rw[List.getElem?_append_left (by rw[h.len];exact e)];exact h1,far _ _ h2⟩
 ·obtain rfl:t=k:=by omega
  exact⟨u,by rw[List.getElem?_append_right (by rw[h.len];exact Nat.le_refl _),h.len,Nat.sub_self];rfl,far _ _ hu⟩
theorem own_form1{w:World}{B n:Nat}{e:TypeId}{v:Value}{xs:List Value}(h:w.ownsRow B e 1 v n xs):∃ a c,v=.slice a n c:=by
 rcases h.2 with⟨h1,h2⟩|⟨g,cap,cur,h1,_⟩
 ·exact⟨none,0,by rw[h1,h2]⟩
 ·exact⟨_,_,h1⟩
theorem rsource_any(K N S b o n c q:Nat)(a:Option Addr)(l:List Gf.F)(w:World)(hcf:Cfg K N S)(hq:q*K<symN S n)(hl:l.length=n)(hn:n<=255)(ha:0<n->a=some ⟨b,o,none⟩)(hB:Bs w b o l):
 Calls Tryz.prog 122 #[.agg #[.int .i64 K,.int .i64 N,.int .i64 S],.slice a n c,.int .i64 q] w fun e w'=>
  ∃ v vs,e=.returned v/\OutS w' w.heap.size S (fun t=>symAt S l (q*K+t)) v (srcN K (symN S n) q) vs/\Below w.heap.size w w':=by
 have hsr:=fun W=>rsources_any K N S n q hcf (by omega) hq W
 obtain⟨k1,k8,kn,n16,s1,s8⟩:=hcf;have hTr:=symN_range (S:=S) (len:=n) s1;have hm8:srcN K (symN S n) q<=8:=by unfold srcN;omega
 have hqT:q*K+srcN K (symN S n) q<=symN S n:=by unfold srcN;omega
 obtain⟨qk,hqk⟩:∃ x:Nat,x=q*K:=⟨_,rfl⟩;have hqi:(q:Int)*(K:Int)=(qk:Int):=by rw[hqk];push_cast;rfl
 rw[<- hqk]at hqT hq ⊢;clear hqk;generalize srcN K (symN S n) q=m at *;have hqk2:qk<=256:=by omega
 have HL:Hid (l.length=n):=hl
 have HB:Hid (∀ W,Below w.heap.size w W->∀ p,p<n->∃ b',a=some ⟨b',o,none⟩/\W.cell? ⟨b',o+p,none⟩=some (.int .u8 ((at_ l p).toNat:Int))):=fun W hW p hp=>⟨b,ha (by omega),by
  have:=hB p (by omega);rw[hW.cell (lt_of_cell this)];exact this⟩
 obtain⟨iu,hiu,hu0,hu1,hu2⟩:=Tryz.u8_parts;obtain⟨ib,hib,hb0,hb1,hb2'⟩:=Tryz.bytes_parts;have hC0:=CfgAt.start w K N S;have HSY:Hid (∀ i,symAt S l i=cutF l (i*S) S):=fun i=>symAt_cut S l i
 have HPAST:Hid (∀ i,n<=i->at_ l i=0):=fun i hi=>at_past l i (by rw[hl];exact hi)
 clear hl hB hTr ha;go_enter Tryz.func122,Tryz.ntmps122;go_wp2_with fail
 go_loopw[7,8] (fun v t wr=>∃(i:Nat) (vs:List Value),i<=m/\t=.int .i64 i/\OutS wr w.heap.size S (fun t=>symAt S l (qk+t)) v i vs/\CfgAt w wr K N S) (fun _ t _=>m - (intOf t).toNat)
 case atStart=>exact⟨0,[],by omega,rfl,OutS.nil ..,hC0⟩
 case round=>
  obtain⟨i,vs,hi,rfl,hO,hC⟩:=hrel;obtain⟨x0,x1,x2⟩:=hC.cells;have hsz:=hC.low.size;obtain⟨wA,hwA⟩:∃ x,x=wr:=⟨wr,rfl⟩;subst hwA;go_wp2_with fail;refine(hsr _).mono ?_;rintro e w1 ⟨rfl,hbw1⟩;have hC1:=hC.then hbw1;have hO1:=hO.kept (fun j hj=>hbw1.block j hj);clear x0 x1 x2;by_cases hlt:i<m
  ·have hlt1:(i:Int)<(m:Int):=by omega
   obtain⟨pS,hpS⟩:∃ x:Nat,x=(qk+i)*S:=⟨_,rfl⟩;have hpi:((qk:Int)+(i:Int))*(S:Int)=(pS:Int):=by rw[hpS];push_cast;rfl
   have hpb:pS<=2200:=by
    rw[hpS];have:(qk+i)*S<=(qk+i)*8:=Nat.mul_le_mul_left _ s8;omega
   have HPS:Hid (pS=(qk+i)*S):=hpS;clear hpS;go_wp2_with fail
   go_loopw[9,10] (fun v t wr=>∃ k:Nat,k<=S/\t=.int .i64 k/\wr.ownsRow w1.heap.size 5 1 v k (encL (cutF l pS k))/\Below w1.heap.size w1 wr) (fun _ t _=>S - (intOf t).toNat)
   case atStart=>exact⟨0,by omega,rfl,World.ownsRow_nil ..,Below.refl _ _⟩
   case round=>
    obtain⟨k,hk,rfl,hX,hb2⟩:=hrel;have hC2:=hC1.then hb2;obtain⟨y0,y1,y2⟩:=hC2.cells;have hsz2:=hb2.size;have hsz1:=hC1.low.size;by_cases hlk:k<S
    ·have hlk1:(k:Int)<(S:Int):=by omega
     obtain⟨xx,hxx⟩:∃ x,x=at_ l (pS+k):=⟨_,rfl⟩;have HXX:Hid (xx=at_ l (pS+k)):=hxx
     have FIN:Hid (∀ ga ca W6,W6.ownsRow w1.heap.size 5 1 (.slice (some ⟨ga,0,none⟩) (k+1) ca) (k+1) (encL (cutF l pS k)++[.int .u8 (xx.toNat:Int)])->(wr.alloc (.cells #[.int .u8 (xx.toNat:Int)] 5)).grownBy W6 u9.ownBlock->
      W6.ownsRow w1.heap.size 5 1 (.slice (some ⟨ga,0,none⟩) (k+1) ca) (k+1) (encL (cutF l pS (k+1)))/\Below w1.heap.size w1 W6):=fun ga ca W6 hown hgr=>by
      have e:encL (cutF l pS k)++[.int .u8 (xx.toNat:Int)]=encL (cutF l pS (k+1)):=by rw[cutF_succ,<- HXX.out];simp[encL]
      rw[e]at hown;exact⟨hown,(hb2.alloc hsz2 _).grown hgr (by simp;omega) (fun t ht=>(hX.lt t ht).1)⟩
     clear hxx;by_cases hin:pS+k<n
     ·obtain⟨b',rfl,hcl⟩:=HB.out wr hC2.low (pS+k) hin
      rw[<- HXX.out]at hcl;have hin1:(pS:Int)+(k:Int)<(n:Int):=by omega
      have hin2:(0:Int)<=(pS:Int)+(k:Int):=by omega
      go_wp2_with (at_builtin;refine wpList_append_lies _ rfl _ _ _ rfl w1.heap.size 5 iu (.int .u8 0) 1 1 Tryz.underlying33 hiu hu0 hu1 hu2 rfl (by omega) u9 k (encL (cutF l pS k)) rfl (hX.alloc _) ⟨wr.heap.size,0,none⟩ 1 1 [.int .u8 (xx.toNat:Int)] rfl rfl ?c1 ?c2 (by omega) ?c3 (by omega) ?c4 (wr.heap.size+1) ?c5 ?_)
      case c1=>exact cell_one_new _ _ _
      case c2=>intro u hu;simp at hu;subst hu;rfl
      case c3=>unfold maxLen;omega
      case c4=>simp;omega
      case c5=>simp
      intro ga ca w6 hown6 hgr6 hlie6 hlt6;obtain⟨f1,f2⟩:=FIN.out _ _ _ hown6 hgr6;clear hown6 hgr6 hlie6 hlt6;go_wp2_with fail
      go_roundw
      case rel=>exact⟨k+1,by omega,by go_num,f1,f2⟩
      case measure=>simp[intOf];omega
     ·have hin1:¬(pS:Int)+(k:Int)<(n:Int):=by omega
      obtain rfl:xx=0:=by rw[HXX.out];exact HPAST.out _ (by omega)
      have HONE:Hid (∀ u ∈ [Value.int .u8 0],u.oneCell'=true):=fun u hu=>by simp at hu;subst hu;rfl
      have HMX:Hid (k+1<=maxLen):=by show _<=_;unfold maxLen;omega
      have HAL:Hid (∀ ob:Obj,w1.heap.size<=(wr.alloc ob).heap.size):=fun ob=>by simp;omega
      have HAS:Hid (∀ ob:Obj,(wr.alloc ob).heap.size=wr.heap.size+1):=fun ob=>by simp
      go_wp2_with (at_builtin;refine wpList_append_lies _ rfl _ _ _ rfl w1.heap.size 5 iu (.int .u8 0) 1 1 Tryz.underlying33 hiu hu0 hu1 hu2 rfl (by omega) u9 k (encL (cutF l pS k)) rfl (hX.alloc _) ⟨wr.heap.size,0,none⟩ 1 1 [.int .u8 0] rfl rfl (cell_one_new _ _ _) HONE.out (by omega) HMX.out (by omega) (HAL.out _) (wr.heap.size+1) (HAS.out _) ?_);intro ga ca w6 hown6 hgr6 hlie6 hlt6;obtain⟨f1,f2⟩:=FIN.out _ _ _ hown6 hgr6;clear hown6 hgr6 hlie6 hlt6;go_wp2_with fail
      go_roundw
      case rel=>exact⟨k+1,by omega,by go_num,f1,f2⟩
      case measure=>simp[intOf];omega
    ·obtain rfl:k=S:=by omega
     have hlk1:¬(k:Int)<(k:Int):=by omega
     rw[HPS.out,<- HSY.out]at hX;obtain⟨au,cu,rfl⟩:=own_form1 hX;have hO2:=hO1.kept (fun j hj=>hb2.block j hj);have hX2:=own_base hX hsz1;have HONE:Hid (∀ u ∈ [Value.slice au k cu],u.oneCell'=true):=fun u hu=>by simp at hu;subst hu;rfl
     have HMX:Hid (i+1<=maxLen):=by show _<=_;unfold maxLen;omega
     have HAL:Hid (∀ ob:Obj,w.heap.size<=(wr.alloc ob).heap.size):=fun ob=>by simp;omega
     have HAS:Hid (∀ ob:Obj,(wr.alloc ob).heap.size=wr.heap.size+1):=fun ob=>by simp
     go_wp2_with (at_builtin;refine wpList_append_lies _ rfl _ _ _ rfl w.heap.size 33 ib (.slice none 0 0) 1 24 Tryz.underlying40 hib hb0 hb1 hb2' rfl (by omega) u7 i vs rfl (hO2.own.alloc _) ⟨wr.heap.size,0,none⟩ 1 1 [.slice au k cu] rfl rfl (cell_one_new _ _ _) HONE.out (by omega) HMX.out (by omega) (HAL.out _) (wr.heap.size+1) (HAS.out _) ?_);intro ga ca w6 hown6 hgr6 hlie6 hlt6;have hO6:=hO2.step (f:=fun t=>symAt k l (qk+t)) hX2 hown6 hgr6
     have hC6:CfgAt w w6 K N k:=⟨(hC2.low.alloc (by omega) _).grown hgr6 (by simp;omega) (fun t ht=>(hO2.own.lt t ht).1),by
      rw[grown_block hgr6 (by have:=hC2.lt;simp;omega) (fun q=>own_ne hO2.own q hC2.blk (by decide) rfl),Below.heap_alloc _ _ _ hC2.lt];exact hC2.blk⟩
     clear hown6 hgr6 hlie6 hlt6;go_wp2_with fail
     go_roundw
     case rel=>exact⟨i+1,_,by omega,by go_num,hO6,hC6⟩
     case measure=>simp[intOf];omega
  ·obtain rfl:i=m:=by omega
   have hlt1:¬(i:Int)<(i:Int):=by omega
   go_wp2_with fail;go_ret;exact⟨u7,vs,rfl,hO1,hC1.low⟩
structure Rsn where
 K:Nat
 N:Nat
 S:Nat
 os:List Ob
 va:Value
 vb:Value
 sent:Nat
def Rsn.foot(r:Rsn)(rb b:Nat):Prop:=b=rb∨r.va.ownBlock=some b∨r.vb.ownBlock=some b∨∃ i,i<r.os.length/\(b=(oat r.os i).dg∨(oat r.os i).bv.ownBlock=some b)
structure RAt(w:World)(B rb:Nat)(r:Rsn):Prop where
 low:B<=rb
 blk:w.heap[rb]?=some (.cells #[.int .i64 (r.K:Int),.int .i64 (r.N:Int),.int .i64 (r.S:Int),r.va,r.vb,.int .i64 (r.sent:Int)] 191 (0,0))
 own:w.ownsRow B 33 1 r.va r.os.length (r.os.map Ob.bv)
 ownB:w.ownsRow B 193 1 r.vb r.os.length (r.os.map Ob.dv)
 bytes:∀ i,i<r.os.length->w.ownsRow B 5 1 (oat r.os i).bv (oat r.os i).l.length (encL (oat r.os i).l)
 debts:∀ i,i<r.os.length->B<=(oat r.os i).dg/\w.heap[(oat r.os i).dg]?=some (.cells (flat2 (debtVals (oat r.os i).ds)).toArray 196 (0,0))
 apart:∀ i j,i<r.os.length->j<r.os.length->(oat r.os i).dg=(oat r.os j).dg->i=j
theorem RAt.foot_lt{w:World}{B rb:Nat}{r:Rsn}(h:RAt w B rb r){b:Nat}(hb:r.foot rb b):B<=b/\b<w.heap.size:=by
 rcases hb with rfl|hb|hb|⟨i,hi,rfl|hb⟩
 ·exact⟨h.low,lt_of_block h.blk⟩
 ·exact h.own.lt b hb
 ·exact h.ownB.lt b hb
 ·exact⟨(h.debts i hi).1,lt_of_block (h.debts i hi).2⟩
 ·exact(h.bytes i hi).lt b hb
theorem RAt.kept{w w':World}{B rb:Nat}{r:Rsn}(h:RAt w B rb r)(hk:∀ b,r.foot rb b->w'.heap[b]?=w.heap[b]?):RAt w' B rb r:=
 ⟨h.low,(hk rb (.inl rfl)).trans h.blk,own_of_block h.own (fun g hg=>hk g (.inr (.inl hg))),own_of_block h.ownB (fun g hg=>hk g (.inr (.inr (.inl hg)))),
  fun i hi=>own_of_block (h.bytes i hi) (fun g hg=>hk g (.inr (.inr (.inr ⟨i,hi,.inr hg⟩)))),
  fun i hi=>⟨(h.debts i hi).1,(hk _ (.inr (.inr (.inr ⟨i,hi,.inl rfl⟩)))).trans (h.debts i hi).2⟩,h.apart⟩
theorem RAt.above{w w':World}{B rb:Nat}{r:Rsn}(h:RAt w B rb r)(hb:Below w.heap.size w w'):RAt w' B rb r:=h.kept (fun b q=>hb.block b (h.foot_lt q).2)
theorem RAt.cells{w:World}{B rb:Nat}{r:Rsn}(h:RAt w B rb r):
 w.cell? ⟨rb,0,none⟩=some (.int .i64 (r.K:Int))/\w.cell? ⟨rb,1,none⟩=some (.int .i64 (r.N:Int))/\w.cell? ⟨rb,2,none⟩=some (.int .i64 (r.S:Int))/\w.cell? ⟨rb,3,none⟩=some r.va/\w.cell? ⟨rb,4,none⟩=some r.vb/\w.cell? ⟨rb,5,none⟩=some (.int .i64 (r.sent:Int)):=
 ⟨cell_of_row w _ 0 _ _ _ h.blk,cell_of_row w _ 1 _ _ _ h.blk,cell_of_row w _ 2 _ _ _ h.blk,cell_of_row w _ 3 _ _ _ h.blk,cell_of_row w _ 4 _ _ _ h.blk,cell_of_row w _ 5 _ _ _ h.blk⟩
theorem RAt.frozen{w:World}{B rb:Nat}{r:Rsn}(h:RAt w B rb r)(i:Nat):w.frozen? ⟨rb,i,none⟩=false:=frozen_of_row w rb i _ _ h.blk
theorem RAt.frozenD{w:World}{B rb i:Nat}{r:Rsn}(h:RAt w B rb r)(hi:i<r.os.length)(j:Nat):w.frozen? ⟨(oat r.os i).dg,j,none⟩=false:=frozen_of_row w _ j _ _ (h.debts i hi).2
theorem list_cells{w:World}{B n:Nat}{e:TypeId}{v:Value}{xs:List Value}(h:w.ownsRow B e 1 v n xs)(h0:0<n):∃ g c,v=.slice (some ⟨g,0,none⟩) n c/\n<=c/\∀(i:Nat) u,xs[i]?=some u->w.cell? ⟨g,i,none⟩=some u:=by
 obtain⟨g,c,hv,hc⟩:∃ g c,v=.slice (some ⟨g,0,none⟩) n c/\n<=c:=by
  rcases h.2 with⟨_,h2⟩|⟨g,cap,cur,h1,_,_,h4,_⟩
  ·omega
  ·exact⟨g,cap,h1,h4⟩
 refine⟨g,c,hv,hc,fun i u hu=>?_⟩;have e:∀ j,(⟨g,0,none⟩:Addr).add j=⟨g,j,none⟩:=fun j=>by unfold Addr.add;split<;>simp_all
 have h0:=h.cells (g:=g) (by rw[hv];rfl) i u hu
 rwa [e]at h0
theorem RAt.list{w:World}{B rb:Nat}{r:Rsn}(h:RAt w B rb r)(h0:0<r.os.length):∃ g c,r.va=.slice (some ⟨g,0,none⟩) r.os.length c/\r.os.length<=c/\∀ i,i<r.os.length->w.cell? ⟨g,i,none⟩=some (oat r.os i).bv:=by
 obtain⟨g,c,h1,h2,h3⟩:=list_cells h.own h0;exact⟨g,c,h1,h2,fun i hi=>h3 i _ (by rw[List.getElem?_map,oat_some hi];rfl)⟩
theorem RAt.listB{w:World}{B rb:Nat}{r:Rsn}(h:RAt w B rb r)(h0:0<r.os.length):∃ g c,r.vb=.slice (some ⟨g,0,none⟩) r.os.length c/\r.os.length<=c/\∀ i,i<r.os.length->w.cell? ⟨g,i,none⟩=some (oat r.os i).dv:=by
 obtain⟨g,c,h1,h2,h3⟩:=list_cells h.ownB h0;exact⟨g,c,h1,h2,fun i hi=>h3 i _ (by rw[List.getElem?_map,oat_some hi];rfl)⟩
theorem RAt.debt{w:World}{B rb:Nat}{r:Rsn}(h:RAt w B rb r){i q:Nat}(hi:i<r.os.length)(hq:q<(oat r.os i).ds.length):
 w.cell? ⟨(oat r.os i).dg,q*2,none⟩=some (.int .i64 ((dat (oat r.os i).ds q).1:Int))/\w.cell? ⟨(oat r.os i).dg,q*2+1,none⟩=some (.int .i64 ((dat (oat r.os i).ds q).2:Int)):=by
 have hd:=(h.debts i hi).2;refine⟨?_,?_⟩
 ·rw[cell_of_row w _ _ _ _ _ hd,Nat.mul_comm q 2]
  rw[List.getElem?_toArray,flat2_get0,debtVals,List.getElem?_map,dat_some hq];rfl
 ·rw[cell_of_row w _ _ _ _ _ hd,Nat.mul_comm q 2]
  rw[List.getElem?_toArray,flat2_get1,debtVals,List.getElem?_map,dat_some hq];rfl
def rawsOf(vs:List Value)(f:Nat->List Gf.F):List Raw:=(List.range vs.length).map fun t=>⟨vs.getD t (.slice none 0 0),f t⟩
theorem rawsOf_length(vs:List Value)(f:Nat->List Gf.F):(rawsOf vs f).length=vs.length:=by simp[rawsOf]
theorem rawsOf_at(vs:List Value)(f:Nat->List Gf.F)(t:Nat)(ht:t<vs.length):wat (rawsOf vs f) t=⟨vs.getD t (.slice none 0 0),f t⟩:=by simp[wat,rawsOf,List.getD,ht]
theorem OutS.ws{w:World}{B S k:Nat}{f:Nat->List Gf.F}{v:Value}{vs:List Value}(h:OutS w B S f v k vs)(hk:0<k)(hf:∀ t,(f t).length=S):∃ g c,v=.slice (some ⟨g,0,none⟩) k c/\Ws w g 0 (rawsOf vs f):=by
 obtain⟨g,c,h1,h2,h3⟩:=list_cells h.own hk;refine⟨g,c,h1,fun i hi=>?_⟩;rw[rawsOf_length,h.len]at hi;obtain⟨u,hu,ho⟩:=h.each i hi;rw[rawsOf_at vs f i (by rw[h.len];exact hi)];have e:vs.getD i (.slice none 0 0)=u:=by rw[List.getD_eq_getElem?_getD,hu];rfl
 rw[e];refine⟨by rw[Nat.zero_add];exact h3 i u hu,?_⟩;obtain⟨a,c',rfl,hx⟩:=own_form ho;refine⟨a,c',by rw[hf],fun h0=>?_⟩;obtain⟨g',rfl,_⟩:=hx (by rw[<- hf i];exact h0);exact⟨g',0,rfl,own_bs ho (hf i)⟩
theorem symR_symPl(K S:Nat)(l:List Gf.F)(q pl:Nat)(vs:List Value)(hl:vs.length=srcN K (symN S l.length) q):
 symR (frontZ (srcN K (symN S l.length) q)) (rawsOf vs (fun t=>symAt S l (q*K+t))) (srcN K (symN S l.length) q) (byteOf (pl:Int)) S=symPl K S l q pl:=by
 unfold symPl;generalize srcN K (symN S l.length) q=k at *;refine list_ext (by rw[symOf_length,symR_length]) (fun i hi=>?_);rw[symR_length]at hi;rw[symOf_at _ _ _ _ _ hi,symR_at _ _ _ _ _ _ hi,front_length];exact Gf.lag_congr (fun j hj=>by rw[front_at k j hj,frontZ_at k j hj];rfl) (fun j hj=>by rw[srcRows_at _ _ _ _ _ hj,rawsOf_at vs _ j (by rw[hl];exact hj)]) _
def Rsn.pkt(r:Rsn)(i q pl:Nat):List Gf.F:=dataOf i (oat r.os i).l.length q pl (symPl r.K r.S (oat r.os i).l q pl)
theorem rpacket_any{B rb i q:Nat}{r:Rsn}{w:World}(pl:Nat)(h:RAt w B rb r)(hcf:Cfg r.K r.N r.S)(hi:i<r.os.length)(hi2:r.os.length<=16)(hlen:(oat r.os i).l.length<=255)(hq:q<partsN (symN r.S (oat r.os i).l.length) r.K)(hpl:pl<256):
 Calls Tryz.prog 90 #[.pointer (some ⟨rb,0,none⟩),.int .i64 i,.int .i64 q,.int .i64 pl] w fun e w'=>
  ∃ g cap,e=.returned (.slice (some ⟨g,0,none⟩) (6+r.S) cap)/\w'.ownsRow w.heap.size 5 1 (.slice (some ⟨g,0,none⟩) (6+r.S) cap) (6+r.S) (encL (r.pkt i q pl))/\Below w.heap.size w w':=by
 obtain⟨k1,k8,kn,n16,s1,s8⟩:=hcf;obtain⟨b,ha,hlc,hcap,hB,hbl⟩:=Ob.form (h.bytes i hi);have hTr:=symN_range (S:=r.S) (len:=(oat r.os i).l.length) s1;have hqK:q*r.K<symN r.S (oat r.os i).l.length:=partsN_mul k1 hq;have hQl:=partsN_le (a:=symN r.S (oat r.os i).l.length) k1;have hq2:q<256:=by omega
 obtain⟨c0,c1,c2,c3,_,_⟩:=h.cells;obtain⟨g,cp,hv,hcp,hl⟩:=h.list (by omega);have t0:=hl i hi;have HPK:Hid (r.pkt i q pl=dataOf i (oat r.os i).l.length q pl (symPl r.K r.S (oat r.os i).l q pl)):=rfl;have HSR:Hid (∀ vs:List Value,vs.length=srcN r.K (symN r.S (oat r.os i).l.length) q->symR (frontZ (srcN r.K (symN r.S (oat r.os i).l.length) q)) (rawsOf vs (fun t=>symAt r.S (oat r.os i).l (q*r.K+t))) (srcN r.K (symN r.S (oat r.os i).l.length) q) (byteOf (pl:Int)) r.S=symPl r.K r.S (oat r.os i).l q pl):=fun vs hvs=>symR_symPl _ _ _ _ _ vs hvs
 have HSRC:Hid (∀ W,Below w.heap.size w W->Calls Tryz.prog 122 #[.agg #[.int .i64 (r.K:Int),.int .i64 (r.N:Int),.int .i64 (r.S:Int)],.slice (oat r.os i).a (oat r.os i).l.length (oat r.os i).c,.int .i64 q] W fun e w'=>
  ∃ v vs,e=.returned v/\OutS w' W.heap.size r.S (fun t=>symAt r.S (oat r.os i).l (q*r.K+t)) v (srcN r.K (symN r.S (oat r.os i).l.length) q) vs/\Below W.heap.size W w'):=fun W hW=>
  rsource_any r.K r.N r.S b 0 (oat r.os i).l.length (oat r.os i).c q (oat r.os i).a (oat r.os i).l W ⟨k1,k8,kn,n16,s1,s8⟩ hqK rfl hlen (fun h0=>by rcases ha with h|⟨_,h,_⟩;exact h;omega) (fun j hj=>by have:=hB j hj;rw[hW.cell (lt_of_cell this)];exact this)
 have HSL:Hid (∀ t,(symAt r.S (oat r.os i).l (q*r.K+t)).length=r.S):=fun t=>symAt_length _ _ _
 have hk1:1<=srcN r.K (symN r.S (oat r.os i).l.length) q:=by unfold srcN;omega
 have hk8:srcN r.K (symN r.S (oat r.os i).l.length) q<=8:=by unfold srcN;omega
 unfold Ob.bv at t0;rw[hv]at c3;have hlt1:(0:Int)<=(i:Int):=by omega
 have hlt2:(i:Int)<(r.os.length:Int):=by omega
 obtain⟨f,hf⟩:∃ x,x=(fun t=>symAt r.S (oat r.os i).l (q*r.K+t)):=⟨_,rfl⟩;rw[<- hf]at HSR HSRC;have HSL':Hid (∀ t,(f t).length=r.S):=fun t=>by rw[hf];exact HSL.out t
 clear hf HSL;generalize srcN r.K (symN r.S (oat r.os i).l.length) q=k at *;generalize hD:symPl r.K r.S (oat r.os i).l q pl=D at *;have HDL:Hid (D.length=r.S):=by show _=_;rw[<- hD];exact symPl_length ..
 generalize hL:(oat r.os i).l.length=len at *;generalize (oat r.os i).a=va at *;generalize (oat r.os i).c=vc at *;clear hL hD hl hv ha hTr hqK hQl hlc hB hbl;obtain⟨iU,hiU,hiU0,hiU1,hiU2⟩:=Tryz.u8_parts;go_enter Tryz.func90,Tryz.ntmps90;go_wp2_with fail;refine(HSRC.out w (Below.refl _ _)).mono ?_;rintro e w1 ⟨v,vs,rfl,hO,hb1⟩;obtain⟨g1,cp1,rfl,hW1⟩:=hO.ws (by omega) HSL'.out;have hvl:Hid (vs.length=k):=hO.len;clear c0 c1 c2 c3 t0
 have e6:Hid (∀ W:World,(W.alloc (.cells #[.int .u8 1,.int .u8 (i:Int),.int .u8 ((len:Int)/256),.int .u8 ((len:Int)%256),.int .u8 (q:Int),.int .u8 (pl:Int)] 5)).ownsRow W.heap.size 5 1 (.slice (some ⟨W.heap.size,0,none⟩) 6 6) 6 (encL [by8 1,by8 i,by8 (len/256),by8 len,by8 q,by8 pl])):=fun W=>by
  have hX:=heap_alloc_new W (.cells #[.int .u8 1,.int .u8 (i:Int),.int .u8 ((len:Int)/256),.int .u8 ((len:Int)%256),.int .u8 (q:Int),.int .u8 (pl:Int)] 5);have e1:((by8 i).toNat:Int)=(i:Int):=by8_int (by omega);have e2:((by8 (len/256)).toNat:Int)=(len:Int)/256:=by unfold by8;rw[BitVec.toNat_ofNat];omega
  have e3:((by8 len).toNat:Int)=(len:Int)%256:=by unfold by8;rw[BitVec.toNat_ofNat];omega
  have e4:((by8 q).toNat:Int)=(q:Int):=by8_int hq2;have e5:((by8 pl).toNat:Int)=(pl:Int):=by8_int hpl;have e0:((by8 1).toNat:Int)=1:=rfl;refine blk_own (l:=[by8 1,by8 i,by8 (len/256),by8 len,by8 q,by8 pl]) ?_ (Nat.le_refl _) (by simp);unfold Blk;rw[hX];simp[enc,e0,e1,e2,e3,e4,e5]
 go_wp2_with fail;have hb2:Below w1.heap.size w1 (w1.alloc (.cells #[.int .u8 1,.int .u8 (i:Int),.int .u8 ((len:Int)/256),.int .u8 ((len:Int)%256),.int .u8 (q:Int),.int .u8 (pl:Int)] 5)):=(Below.refl _ _).alloc (Nat.le_refl _) _;have hX2:=e6.out w1;generalize w1.alloc (.cells #[.int .u8 1,.int .u8 (i:Int),.int .u8 ((len:Int)/256),.int .u8 ((len:Int)%256),.int .u8 (q:Int),.int .u8 (pl:Int)] 5)=W2 at *;have hW2:=hW1.below hb2;refine(front_any k W2 (by omega) hk8).mono ?_;rintro e w3 ⟨g3,c3,rfl,hF3,hb3⟩;have hW3:=hW2.below hb3
 have hZ3:Zs w3 g3 0 (frontZ k):=by
  intro j hj;rw[frontZ_length]at hj;have:=hF3.cells (g:=g3) rfl j _ (by simp[encZ,frontZ,hj];rfl);have e:∀ j,(⟨g3,0,none⟩:Addr).add j=⟨g3,j,none⟩:=fun j=>by unfold Addr.add;split<;>simp_all
  rw[e]at this;rw[Nat.zero_add,this,frontZ_at k j hj]
 go_wp2_with fail;refine(at_any g3 0 c3 g1 0 cp1 k r.S (frontZ k) (rawsOf vs f) (pl:Int) w3 (frontZ_length k) (by rw[rawsOf_length];exact hvl.out) (by omega) hk8 (frontZ_places k hk8) ⟨by omega,by omega⟩ (fun j hj=>by rw[rawsOf_at vs f j (by rw[hvl.out];exact hj)];exact HSL'.out j) (by omega) hZ3 hW3).mono ?_;rintro e w4 ⟨v4,rfl,hO4,hb4⟩;rw[HSR.out vs hvl.out]at hO4;obtain⟨a4,c4,rfl,hx4⟩:=own_form hO4;obtain⟨g4,rfl,_⟩:=hx4 s1;have hX4:w4.ownsRow w.heap.size 5 1 (.slice (some ⟨w1.heap.size,0,none⟩) 6 6) 6 (encL [by8 1,by8 i,by8 (len/256),by8 len,by8 q,by8 pl]):=own_base2 (own_of_block hX2 (fun x hx=>(hb4.block _ (Nat.lt_of_lt_of_le (hX2.lt x hx).2 hb3.size)).trans (hb3.block _ (hX2.lt x hx).2))) hb1.size;have hbw4:Below w.heap.size w w4:=((hb1.trans (hb2.mono hb1.size)).trans (hb3.mono (Nat.le_trans hb1.size hb2.size))).trans (hb4.mono (Nat.le_trans (Nat.le_trans hb1.size hb2.size) hb3.size));have hsz:=hbw4.size;have HC:Hid (∀ j u,(encL D)[j]?=some u->w4.cell? ((⟨g4,0,none⟩:Addr).add j)=some u):=fun j u hj=>hO4.cells (g:=g4) rfl j u hj
 have HMX:Hid (6+r.S<=maxLen):=by show _<=_;unfold maxLen;omega
 have HD1:Hid ((encL D).length=r.S*1):=by show _=_;simp[encL,HDL.out]
 clear hX2 hO hW1 hW2 hW3 hZ3 hF3 hx4;go_wp2_with (at_builtin;refine wpList_append_lies _ rfl _ _ _ rfl w.heap.size 5 iU (.int .u8 0) 1 1 Tryz.underlying33 hiU hiU0 hiU1 hiU2 rfl (by omega) (.slice (some ⟨w1.heap.size,0,none⟩) 6 6) 6 (encL [by8 1,by8 i,by8 (len/256),by8 len,by8 q,by8 pl]) rfl hX4 ⟨g4,0,none⟩ r.S c4 (encL D) rfl HD1.out HC.out (encL_one D) (by omega) HMX.out (by omega) hsz w4.heap.size rfl ?_);intro g6 cap6 w6 hown6 hgr6 hlie6 hlt6;go_wp2_with fail;go_ret;refine⟨g6,cap6,rfl,?_,hbw4.grown hgr6 hsz (fun t ht=>(hX4.lt t ht).1)⟩;rw[HPK.out];have e:encL (dataOf i len q pl D)=encL [by8 1,by8 i,by8 (len/256),by8 len,by8 q,by8 pl]++encL D:=by simp[encL,dataOf]
 rw[e];exact hown6
def Rsn.setD(r:Rsn)(i q:Nat)(d:Nat×Nat):Rsn:={r with os:=r.os.set i ((oat r.os i).setD q d)}
theorem Rsn.setD_len(r:Rsn)(i q:Nat)(d:Nat×Nat):(r.setD i q d).os.length=r.os.length:=by simp[Rsn.setD]
theorem Rsn.setD_at{r:Rsn}{i:Nat}(hi:i<r.os.length)(q:Nat)(d:Nat×Nat)(j:Nat):oat (r.setD i q d).os j=if i=j then(oat r.os i).setD q d else oat r.os j:=oat_set hi
theorem Rsn.setD_keeps{r:Rsn}{i:Nat}(hi:i<r.os.length)(q:Nat)(d:Nat×Nat)(j:Nat):(oat (r.setD i q d).os j).l=(oat r.os j).l/\(oat (r.setD i q d).os j).dg=(oat r.os j).dg/\(oat (r.setD i q d).os j).bv=(oat r.os j).bv/\(oat (r.setD i q d).os j).dv=(oat r.os j).dv/\(oat (r.setD i q d).os j).ds.length=(oat r.os j).ds.length:=by
 rw[r.setD_at hi];split
 ·rename_i e;subst e;exact⟨rfl,rfl,rfl,Ob.setD_dv ..,by simp[Ob.setD]⟩
 ·exact⟨rfl,rfl,rfl,rfl,rfl⟩
theorem map_oat(os:List Ob)(f:Ob->Value):os.map f=(List.range os.length).map fun j=>f (oat os j):=by
 refine List.ext_getElem? (fun j=>?_);rw[List.getElem?_map,List.getElem?_map];by_cases h:j<os.length
 ·rw[oat_some h,List.getElem?_range h];rfl
 ·rw[List.getElem?_eq_none (by omega),List.getElem?_eq_none (by simp;omega)];rfl
theorem Rsn.setD_bvs{r:Rsn}{i:Nat}(hi:i<r.os.length)(q:Nat)(d:Nat×Nat):(r.setD i q d).os.map Ob.bv=r.os.map Ob.bv:=by
 rw[map_oat,map_oat,r.setD_len];exact List.map_congr_left (fun j _=>(r.setD_keeps hi q d j).2.2.1)
theorem Rsn.setD_dvs{r:Rsn}{i:Nat}(hi:i<r.os.length)(q:Nat)(d:Nat×Nat):(r.setD i q d).os.map Ob.dv=r.os.map Ob.dv:=by
 rw[map_oat,map_oat,r.setD_len];exact List.map_congr_left (fun j _=>(r.setD_keeps hi q d j).2.2.2.1)
theorem RAt.debtSet{w w':World}{B rb i:Nat}{r:Rsn}(h:RAt w B rb r)(hi:i<r.os.length)(q:Nat)(d:Nat×Nat)(hb:But (fun b=>b=(oat r.os i).dg) w w')
 (hk:w'.heap[(oat r.os i).dg]?=some (.cells (flat2 (debtVals ((oat r.os i).ds.set q d))).toArray 196 (0,0))):RAt w' B rb (r.setD i q d):=by
 have hd:=(h.debts i hi).2;have hne:∀ {B' n sz:Nat} {e:TypeId} {v:Value} {xs:List Value},w.ownsRow B' e sz v n xs->e≠196->∀ g,v.ownBlock=some g->¬ g=(oat r.os i).dg:=fun h' he g hg e=>own_ne h' hg (by rw[<- e]at hd;exact hd) he rfl
 refine⟨h.low,?_,?_,?_,fun j hj=>?_,fun j hj=>?_,fun j k hj hk' e=>?_⟩
 ·refine(hb.block rb (lt_of_block h.blk) (fun e=>?_)).trans h.blk
  have:=h.blk;rw[e,hd]at this;simp only[Option.some.injEq,Obj.cells.injEq]at this;exact absurd this.2.1 (by decide)
 ·rw[r.setD_len,r.setD_bvs hi]
  exact hb.own h.own (hne h.own (by decide))
 ·rw[r.setD_len,r.setD_dvs hi]
  exact hb.own h.ownB (hne h.ownB (by decide))
 ·rw[r.setD_len]at hj
  rw[(r.setD_keeps hi q d j).2.2.1,(r.setD_keeps hi q d j).1];exact hb.own (h.bytes j hj) (hne (h.bytes j hj) (by decide))
 ·rw[r.setD_len]at hj
  rw[r.setD_at hi];split
  ·rename_i e;subst e
   exact⟨(h.debts i hi).1,hk⟩
  ·rename_i e
   refine⟨(h.debts j hj).1,(hb.block _ (lt_of_block (h.debts j hj).2) (fun q'=>e (h.apart i j hi hj q'.symm))).trans (h.debts j hj).2⟩
 ·rw[r.setD_len]at hj hk'
  rw[(r.setD_keeps hi q d j).2.1,(r.setD_keeps hi q d k).2.1]at e;exact h.apart j k hj hk' e
theorem RAt.owed{w:World}{B rb i q:Nat}{r:Rsn}(h:RAt w B rb r)(hi:i<r.os.length)(hq:q<(oat r.os i).ds.length)(x:Nat):
 RAt (w.setCell ⟨(oat r.os i).dg,q*2,none⟩ (.int .i64 x)) B rb (r.setD i q (x,(dat (oat r.os i).ds q).2))/\But (fun b=>b=(oat r.os i).dg) w (w.setCell ⟨(oat r.os i).dg,q*2,none⟩ (.int .i64 x)):=by
 have hb:=But.setCell (S:=fun b=>b=(oat r.os i).dg) (But.refl _ w) (p:=⟨(oat r.os i).dg,q*2,none⟩) (.inl rfl) (.int .i64 x);refine⟨h.debtSet hi q _ hb ?_,hb⟩;rw[heap_setCell_same w _ (q*2) _ _ _ (h.debts i hi).2,List.setIfInBounds_toArray,Nat.mul_comm q 2,flat2_set0 _ _ _ _ (debtVals_some hq),debtVals_set]
theorem RAt.turn{w:World}{B rb i q:Nat}{r:Rsn}(h:RAt w B rb r)(hi:i<r.os.length)(hq:q<(oat r.os i).ds.length)(x:Nat):
 RAt (w.setCell ⟨(oat r.os i).dg,q*2+1,none⟩ (.int .i64 x)) B rb (r.setD i q ((dat (oat r.os i).ds q).1,x))/\But (fun b=>b=(oat r.os i).dg) w (w.setCell ⟨(oat r.os i).dg,q*2+1,none⟩ (.int .i64 x)):=by
 have hb:=But.setCell (S:=fun b=>b=(oat r.os i).dg) (But.refl _ w) (p:=⟨(oat r.os i).dg,q*2+1,none⟩) (.inl rfl) (.int .i64 x);refine⟨h.debtSet hi q _ hb ?_,hb⟩;rw[heap_setCell_same w _ (q*2+1) _ _ _ (h.debts i hi).2,List.setIfInBounds_toArray,Nat.mul_comm q 2,flat2_set1 _ _ _ _ (debtVals_some hq),debtVals_set]
theorem Rsn.setD_setD{r:Rsn}{i q:Nat}(hi:i<r.os.length)(d d':Nat×Nat):(r.setD i q d).setD i q d'=r.setD i q d':=by
 have h1:oat (r.setD i q d).os i=(oat r.os i).setD q d:=by rw[r.setD_at hi,if_pos rfl]
 show {r.setD i q d with os:=(r.setD i q d).os.set i ((oat (r.setD i q d).os i).setD q d')}=_;rw[h1];simp[Rsn.setD,Ob.setD]
theorem Rsn.dat_setD{r:Rsn}{i q:Nat}(hi:i<r.os.length)(hq:q<(oat r.os i).ds.length)(d:Nat×Nat):dat (oat (r.setD i q d).os i).ds q=d:=by
 rw[r.setD_at hi,if_pos rfl];simp[dat,Ob.setD,List.getD,hq]
theorem Rsn.foot_setD{r:Rsn}{i:Nat}(hi:i<r.os.length)(q:Nat)(d:Nat×Nat)(rb b:Nat):(r.setD i q d).foot rb b↔r.foot rb b:=by
 have key:∀ j,(oat (r.setD i q d).os j).dg=(oat r.os j).dg/\(oat (r.setD i q d).os j).bv=(oat r.os j).bv:=fun j=>⟨(r.setD_keeps hi q d j).2.1,(r.setD_keeps hi q d j).2.2.1⟩
 unfold Rsn.foot;rw[r.setD_len];constructor
 ·rintro(h|h|h|⟨j,hj,h⟩)
  ·exact .inl h
  ·exact .inr (.inl h)
  ·exact .inr (.inr (.inl h))
  ·exact .inr (.inr (.inr ⟨j,hj,by rw[(key j).1,(key j).2]at h;exact h⟩))
 ·rintro(h|h|h|⟨j,hj,h⟩)
  ·exact .inl h
  ·exact .inr (.inl h)
  ·exact .inr (.inr (.inl h))
  ·exact .inr (.inr (.inr ⟨j,hj,by rw[(key j).1,(key j).2];exact h⟩))
def Rsn.went(r:Rsn)(n:Nat):Rsn:={r with sent:=n}
theorem RAt.setSent{w:World}{B rb:Nat}{r:Rsn}(h:RAt w B rb r)(x:Nat):RAt (w.setCell ⟨rb,5,none⟩ (.int .i64 x)) B rb (r.went x)/\But (fun b=>b=rb) w (w.setCell ⟨rb,5,none⟩ (.int .i64 x)):=by
 have hb:=But.setCell (S:=fun b=>b=rb) (But.refl _ w) (p:=⟨rb,5,none⟩) (.inl rfl) (.int .i64 x);have hne:∀ {B' n sz:Nat} {e:TypeId} {v:Value} {xs:List Value},w.ownsRow B' e sz v n xs->e≠191->∀ g,v.ownBlock=some g->¬ g=rb:=fun h' he g hg q=>own_ne h' hg (by rw[<- q]at h;exact h.blk) he (by rw[q])
 refine⟨⟨h.low,heap_setCell_same w rb 5 _ _ _ h.blk,hb.own h.own (hne h.own (by decide)),hb.own h.ownB (hne h.ownB (by decide)),fun i hi=>hb.own (h.bytes i hi) (hne (h.bytes i hi) (by decide)),fun i hi=>⟨(h.debts i hi).1,?_⟩,h.apart⟩,hb⟩;have hd:=(h.debts i hi).2;refine(hb.block _ (lt_of_block hd) (fun q=>?_)).trans hd;have hb2:=h.blk;rw[<- q]at hb2;rw[hd]at hb2;simp only[Option.some.injEq,Obj.cells.injEq]at hb2;exact absurd hb2.2.1 (by decide)
def Snd.sumT(s:Snd):Nat->Nat
 | 0=>0
 | k+1=>s.sumT k+s.T k
theorem Snd.sumT_mono(s:Snd):∀ {a b:Nat},a<=b->s.sumT a<=s.sumT b
 | a,0,h=>by
  obtain rfl:a=0:=by omega
  exact Nat.le_refl _
 | a,b+1,h=>by
  by_cases e:a=b+1
  ·subst e;exact Nat.le_refl _
  ·exact Nat.le_trans (s.sumT_mono (show a<=b by omega)) (Nat.le_add_right _ _)
theorem Snd.sumT_congr{s s':Snd}(k:Nat)(h:∀ i,i<k->s'.T i=s.T i):s'.sumT k=s.sumT k:=by
 induction k with
 | zero=>rfl
 | succ k ih=>show s'.sumT k+s'.T k=s.sumT k+s.T k;rw[ih (fun i hi=>h i (by omega)),h k (by omega)]
structure Sim(s:Snd)(r:Rsn)(c:Nat):Prop where
 K:r.K=s.K
 N:r.N=s.N
 S:r.S=s.S
 len:r.os.length=s.os.length
 l:∀ i,i<s.os.length->(oat r.os i).l=(oat s.os i).l
 dl:∀ i,i<s.os.length->(oat r.os i).ds.length=s.Q i
 d:∀ i q,i<s.os.length->q<s.Q i->(dat (oat r.os i).ds q).1=(dat (oat s.os i).ds q).1/\(dat (oat r.os i).ds q).2%s.R i q=(dat (oat s.os i).ds q).2/\(dat (oat r.os i).ds q).2<=c
 sent:r.sent=s.sumT s.no+s.ns
theorem Sim.more{s:Snd}{r:Rsn}{c c':Nat}(h:Sim s r c)(hc:c<=c'):Sim s r c':=⟨h.K,h.N,h.S,h.len,h.l,h.dl,fun i q hi hq=>⟨(h.d i q hi hq).1,(h.d i q hi hq).2.1,by have:=(h.d i q hi hq).2.2;omega⟩,h.sent⟩
theorem Sim.step{s:Snd}{r:Rsn}{c:Nat}(h:Sim s r c):Sim s.step (r.went (r.sent+1)) c:=by
 have hs:=h.sent;unfold Snd.step;split
 ·rename_i e
  refine⟨h.K,h.N,h.S,h.len,h.l,h.dl,h.d,?_⟩;have e1:(s.at (s.no+1) 0).sumT (s.no+1)=s.sumT (s.no+1):=Snd.sumT_congr _ (fun _ _=>rfl);show r.sent+1=(s.at (s.no+1) 0).sumT (s.no+1)+0;rw[e1];show r.sent+1=(s.sumT s.no+s.T s.no)+0;omega
 ·refine⟨h.K,h.N,h.S,h.len,h.l,h.dl,h.d,?_⟩
  have e1:(s.at s.no (s.ns+1)).sumT s.no=s.sumT s.no:=Snd.sumT_congr _ (fun _ _=>rfl);show r.sent+1=(s.at s.no (s.ns+1)).sumT s.no+(s.ns+1);rw[e1];omega
theorem Sim.setD{s:Snd}{r:Rsn}{c c' i q:Nat}(h:Sim s r c)(ok:s.Ok)(hi:i<s.os.length)(hq:q<s.Q i){d d':Nat×Nat}(h1:d'.1=d.1)(h2:d'.2%s.R i q=d.2)(h3:d'.2<=c')(hc:c<=c'):Sim (s.setD i q d) (r.setD i q d') c':=by
 have hi':i<r.os.length:=by rw[h.len];exact hi
 have kT:∀ j,(s.setD i q d).T j=s.T j:=s.setD_T hi q d;have kQ:∀ j,(s.setD i q d).Q j=s.Q j:=fun j=>by unfold Snd.Q;rw[kT];rfl
 have kR:∀ j t,(s.setD i q d).R j t=s.R j t:=fun j t=>by unfold Snd.R;rw[kT];rfl
 refine⟨h.K,h.N,h.S,by rw[s.setD_len,r.setD_len];exact h.len,fun j hj=>?_,fun j hj=>?_,fun j t hj ht=>?_,?_⟩
 ·rw[s.setD_len]at hj
  rw[(r.setD_keeps hi' q d' j).1,s.setD_l hi];exact h.l j hj
 ·rw[s.setD_len]at hj
  rw[(r.setD_keeps hi' q d' j).2.2.2.2,kQ];exact h.dl j hj
 ·rw[s.setD_len]at hj
  rw[kQ]at ht;rw[kR,s.setD_at hi,r.setD_at hi'];split
  ·rename_i e;subst e
   by_cases e:t=q
   ·subst e
    have e1:dat ((oat s.os i).setD t d).ds t=d:=by simp[dat,Ob.setD,List.getD,(ok.blocks i hi).symm ▸ hq]
    have e2:dat ((oat r.os i).setD t d').ds t=d':=by simp[dat,Ob.setD,List.getD,(h.dl i hi).symm ▸ hq]
    rw[e1,e2];exact⟨h1,h2,h3⟩
   ·have e1:dat ((oat s.os i).setD q d).ds t=dat (oat s.os i).ds t:=by simp[dat,Ob.setD,List.getD,Ne.symm e]
    have e2:dat ((oat r.os i).setD q d').ds t=dat (oat r.os i).ds t:=by simp[dat,Ob.setD,List.getD,Ne.symm e]
    rw[e1,e2];have:=h.d i t hi ht;exact⟨this.1,this.2.1,by omega⟩
  ·have:=h.d j t hj ht
   exact⟨this.1,this.2.1,by omega⟩
 ·show r.sent=(s.setD i q d).sumT s.no+s.ns
  rw[Snd.sumT_congr s.no (fun j _=>kT j)];exact h.sent
theorem Sim.pay{s:Snd}{r:Rsn}{c i q:Nat}(h:Sim s r c)(ok:s.Ok)(ho:s.owes i q):Sim (s.pay i q) (r.setD i q ((dat (oat r.os i).ds q).1 - 1,(dat (oat r.os i).ds q).2+1)) (c+1):=by
 obtain⟨h1,h2,h3⟩:=h.d i q ho.1 ho.2.1;refine h.setD ok ho.1 ho.2.1 (by show _ - 1=_ - 1;rw[h1]) ?_ (by show _+1<=_;omega) (by omega);show(_+1)%_=(_+1)%_;rw[<- h2,Nat.mod_add_mod]
theorem NextIs.det{s s1 s2:Snd}{l1 l2:List Gf.F}(h1:NextIs s l1 s1)(h2:NextIs s l2 s2):l1=l2/\s1=s2:=by
 rcases h1 with⟨h,rfl,rfl⟩|⟨e,i,q,ho,hf,rfl,rfl⟩
 ·rcases h2 with⟨_,rfl,rfl⟩|⟨e,_⟩
  ·exact⟨rfl,rfl⟩
  ·omega
 ·rcases h2 with⟨h,_⟩|⟨_,i',q',ho',hf',rfl,rfl⟩
  ·omega
  ·have e1:i=i'/\q=q':=by
    rcases Nat.lt_trichotomy i i' with h|h|h
    ·exact absurd ho (hf' i q (.inl h))
    ·refine⟨h,?_⟩
     rcases Nat.lt_trichotomy q q' with h5|h5|h5
     ·exact absurd ho (hf' i q (.inr ⟨h,h5⟩))
     ·exact h5
     ·exact absurd ho' (hf i' q' (.inr ⟨h.symm,h5⟩))
    ·exact absurd ho' (hf i' q' (.inl h))
   obtain⟨rfl,rfl⟩:=e1;exact⟨rfl,rfl⟩
theorem ordL_at(K N q t:Nat)(ht:t<N - K+q):zat (ordL K N q) t=((plcAt K N t:Nat):Int):=by
 unfold plcAt;by_cases h:t<N - K
 ·rw[if_pos h]
  simp[zat,ordL,ordA,List.getD,List.getElem?_append_left,h]
 ·rw[if_neg h]
  obtain⟨u,rfl⟩:∃ u,t=N - K+u:=⟨t - (N - K),by omega⟩;have hu:u<q:=by omega
  have e:N - K+u - (N - K)=u:=by omega
  rw[e];simp[zat,ordL,ordA,frontZ,List.getD,hu]
def RNextGives(s:Snd)(r:Rsn)(c B rb:Nat)(w:World)(e:Ending)(w':World):Prop:=
 (∃ g cap l s' r',e=.returned (.tuple #[.slice (some ⟨g,0,none⟩) (6+s.S) cap,.bool true])/\w'.ownsRow w.heap.size 5 1 (.slice (some ⟨g,0,none⟩) (6+s.S) cap) (6+s.S) (encL l)/\NextIs s l s'/\RAt w' B rb r'/\Sim s' r' (c+1)/\But (r.foot rb) w w'/\(∀ b,r'.foot rb b↔r.foot rb b))∨
 (e=.returned (.tuple #[.slice none 0 0,.bool false])/\s.no=s.os.length/\(∀ i q,¬ s.owes i q)/\Below w.heap.size w w')
theorem Sim.pkt{s:Snd}{r:Rsn}{c:Nat}(h:Sim s r c){i:Nat}(hi:i<s.os.length)(q pl:Nat):r.pkt i q pl=s.pkt i q pl:=by
 unfold Rsn.pkt Snd.pkt;rw[h.l i hi,h.K,h.S]
theorem rnext_any{B rb c:Nat}{s:Snd}{r:Rsn}{w:World}(h:RAt w B rb r)(ok:s.Ok)(sim:Sim s r c)(hc:c<=1000000000000):
 Calls Tryz.prog 53 #[.pointer (some ⟨rb,0,none⟩)] w (RNextGives s r c B rb w):=by
 obtain⟨k1,k8,kn,n16,s1,s8⟩:=ok.cfg;have hfew:=ok.few;have hnx:=ok.next;have hlen:=sim.len;have hcf:Cfg r.K r.N r.S:=by rw[sim.K,sim.N,sim.S];exact ok.cfg
 obtain⟨_,_,_,c3,_,c5⟩:=h.cells;obtain⟨va,vc,hva,_⟩:=own_form2 h.own;obtain⟨vb,vd,hvb,_⟩:=own_form2 h.ownB
 have hT256:∀ i,i<s.os.length->1<=s.T i/\s.T i<=256:=fun i hi=>by
  have h1:=symN_range (S:=s.S) (len:=(oat s.os i).l.length) s1;have h2:=ok.len i hi;unfold Snd.T;omega
 have hsum:∀ k,k<=s.os.length->s.sumT k<=256*k:=fun k=>by
  induction k with
  | zero=>intro _;exact Nat.le_refl _
  | succ k ih=>intro hk;have:=ih (by omega);have:=hT256 k (by omega);show s.sumT k+s.T k<=_;omega
 have hsent:=sim.sent
 have hsent2:r.sent<=5000:=by
  have h1:=hsum s.no hnx;by_cases e:s.no<s.os.length
  ·have:=hT256 s.no e;have:=ok.sym e;omega
  ·have:=ok.done (by omega);omega
 have HOK:Hid s.Ok:=ok;have HSIM:Hid (Sim s r c):=sim;have HT:Hid (∀ i,i<s.os.length->1<=s.T i/\s.T i<=256):=hT256;have HSENT:Hid (r.sent=s.sumT s.no+s.ns):=hsent
 have HCS:Hid (∀ W,RAt W B rb r->W.cell? ⟨rb,0,none⟩=some (.int .i64 (s.K:Int))/\W.cell? ⟨rb,1,none⟩=some (.int .i64 (s.N:Int))/\W.cell? ⟨rb,2,none⟩=some (.int .i64 (s.S:Int))/\W.cell? ⟨rb,3,none⟩=some (.slice va s.os.length vc)/\W.cell? ⟨rb,4,none⟩=some (.slice vb s.os.length vd)):=fun W hW=>by
  obtain⟨q0,q1,q2,q3,q4,_⟩:=hW.cells;rw[sim.K]at q0;rw[sim.N]at q1;rw[sim.S]at q2;rw[hva,sim.len]at q3;rw[hvb,sim.len]at q4;exact⟨q0,q1,q2,q3,q4⟩
 have HLA:Hid (∀ W,RAt W B rb r->∀ a,a<s.os.length->∃ g,va=some ⟨g,0,none⟩/\W.cell? ⟨g,a,none⟩=some (.slice (oat r.os a).a (oat s.os a).l.length (oat r.os a).c)):=fun W hW a ha=>by
  obtain⟨g,cp,hv,_,hl⟩:=hW.list (by omega);have t0:=hl a (by omega);unfold Ob.bv at t0;rw[sim.l a ha]at t0;rw[hva]at hv;simp only[Value.slice.injEq]at hv;exact⟨g,hv.1,t0⟩
 have HLB:Hid (∀ W,RAt W B rb r->∀ a,a<s.os.length->∃ g,vb=some ⟨g,0,none⟩/\W.cell? ⟨g,a,none⟩=some (.slice (some ⟨(oat r.os a).dg,0,none⟩) (s.Q a) (s.Q a))):=fun W hW a ha=>by
  obtain⟨g,cp,hv,_,hl⟩:=hW.listB (by omega);have t0:=hl a (by omega);unfold Ob.dv at t0;rw[sim.dl a ha]at t0;rw[hvb]at hv;simp only[Value.slice.injEq]at hv;exact⟨g,hv.1,t0⟩
 rw[hva]at c3;clear hva hvb hT256 hsum hsent sim ok hcf;go_enter Tryz.func53,Tryz.ntmps53;go_wp2_with fail;clear c3 c5
 go_loopw[4,5] (fun kv t wr=>∃ a k:Nat,a<=s.no/\a<=s.os.length/\t=.int .i64 a/\kv=.int .i64 k/\s.sumT a+k=r.sent/\Below w.heap.size w wr) (fun _ t _=>s.os.length - (intOf t).toNat)
 case atStart=>exact⟨0,r.sent,by omega,by omega,rfl,rfl,by show 0+_=_;omega,Below.refl _ _⟩
 case round=>
  obtain⟨a,k,hano,hale,rfl,rfl,hsum,hbr⟩:=hrel;have hr:=h.above hbr;obtain⟨y0,y1,y2,y3,y4⟩:=HCS.out wr hr;by_cases hlt:a<s.os.length
  ·have hlt1:(a:Int)<(s.os.length:Int):=by omega
   have hlt0:(0:Int)<=(a:Int):=by omega
   obtain⟨g,rfl,z0⟩:=HLA.out wr hr a hlt;have hl255:=HOK.out.len a hlt;have hTa:=HT.out a hlt;have HSYM:Hid (∀ W,Calls Tryz.prog 89 #[.agg #[.int .i64 (s.K:Int),.int .i64 (s.N:Int),.int .i64 (s.S:Int)],.int .i64 ((oat s.os a).l.length:Int)] W fun e w'=>e=.returned (.int .i64 (s.T a:Int))/\Below W.heap.size W w'):=fun W=>rsymbols_any s.K s.N s.S (oat s.os a).l.length s1 s8 (by omega) W
   have HTS:Hid (s.sumT (a+1)=s.sumT a+s.T a):=rfl
   have HTK:Hid (k<s.T a↔a=s.no):=by
    show _↔_;constructor
    ·intro hk
     by_cases e:a=s.no
     ·exact e
     ·have h1:=s.sumT_mono (show a+1<=s.no by omega)
      rw[HTS.out]at h1;have:=HSENT.out;omega
    ·intro e
     have h1:=HOK.out.sym (by omega);have:=HSENT.out;subst e;omega
   generalize hTn:s.T a=T at *;generalize hLn:(oat s.os a).l.length=len at *;generalize (oat r.os a).a=oa at *;generalize (oat r.os a).c=oc at *;clear hLn;obtain⟨wA,hwA⟩:∃ x,x=wr:=⟨wr,rfl⟩;subst hwA;go_upto_region 5 with fail
   go_region_held3 (fun w'=>w'.cell? ⟨rb,0,none⟩=some (.int .i64 (s.K:Int))/\w'.cell? ⟨rb,1,none⟩=some (.int .i64 (s.N:Int))/\w'.cell? ⟨rb,2,none⟩=some (.int .i64 (s.S:Int))/\w'.cell? ⟨rb,3,none⟩=some (.slice (some ⟨g,0,none⟩) s.os.length vc)/\w'.cell? ⟨g,a,none⟩=some (.slice oa len oc)) (first | go_keep|exact hkeep) (first
    | (go_at_call 89;refine(HSYM.out _).mono ?_;rintro e w1 ⟨rfl,hb1⟩;have hkeep:w1.cell? ⟨rb,0,none⟩=some (.int .i64 (s.K:Int))/\w1.cell? ⟨rb,1,none⟩=some (.int .i64 (s.N:Int))/\w1.cell? ⟨rb,2,none⟩=some (.int .i64 (s.S:Int))/\w1.cell? ⟨rb,3,none⟩=some (.slice (some ⟨g,0,none⟩) s.os.length vc)/\w1.cell? ⟨g,a,none⟩=some (.slice oa len oc):=⟨by rw[hb1.cell (lt_of_cell y0)];exact y0,by rw[hb1.cell (lt_of_cell y1)];exact y1,by rw[hb1.cell (lt_of_cell y2)];exact y2,by rw[hb1.cell (lt_of_cell y3)];exact y3,by rw[hb1.cell (lt_of_cell z0)];exact z0⟩))
   have hb1':=Below.undraw hb1;have hbw1:Below w.heap.size w w1:=hbr.trans (hb1'.mono hbr.size);have h1:=hr.above hb1';clear y0 y1 y2 y3 y4 z0 hkeep hb1;by_cases hk:k<T
   ·have hk1:(k:Int)<(T:Int):=by omega
    have hea:a=s.no:=HTK.out.1 hk;obtain⟨p0,p1,p2,p3,p4,p5⟩:=h1.cells;have f5:=h1.frozen 5;obtain⟨h2,hbu2⟩:=h1.setSent (r.sent+1);rw[show((r.sent+1:Nat):Int)=(r.sent:Int)+1 by push_cast;rfl]at h2 hbu2;go_upto_region 8 with fail;generalize w1.setCell ⟨rb,5,none⟩ (.int .i64 ((r.sent:Int)+1))=W2 at *;clear p0 p1 p2 p3 p4 p5 f5;obtain⟨p0,_⟩:=h2.cells;have p0':W2.cell? ⟨rb,0,none⟩=some (.int .i64 (s.K:Int)):=by rw[p0];show some (Value.int .i64 (r.K:Int))=_;rw[HSIM.out.K]
    clear p0;obtain⟨qq,hqq⟩:∃ x:Nat,x=k/s.K:=⟨_,rfl⟩;obtain⟨rr,hrr⟩:∃ x:Nat,x=k%s.K:=⟨_,rfl⟩;have hdiv:(k:Int)/(s.K:Int)=(qq:Int):=by rw[hqq];push_cast;rfl
    have hmod:(k:Int)%(s.K:Int)=(rr:Int):=by rw[hrr];push_cast;rfl
    have htd:(k:Int).tdiv (s.K:Int)=(qq:Int):=by rw[Int.tdiv_eq_ediv_of_nonneg (by omega)];exact hdiv
    have htm:(k:Int).tmod (s.K:Int)=(rr:Int):=by rw[Int.tmod_eq_emod_of_nonneg (by omega)];exact hmod
    have hqX0:qq<partsN T s.K:=by rw[hqq];exact div_parts k1 hk
    have hrX0:rr<256:=by rw[hrr];exact Nat.lt_of_lt_of_le (Nat.mod_lt _ (by omega)) (by omega)
    have hqb:qq<=256:=by have:=partsN_le (a:=T) k1;omega
    have hwq:IntKind.i64.wrap (qq:Int)=(qq:Int):=by rw[IntKind.wrap_i64];omega
    have hK0:¬ s.K=0:=by omega
    have HKNS:Hid (k=s.ns):=by
     show _=_;have:=HSENT.out;subst hea;omega
    have HPK:Hid ((r.went (r.sent+1)).pkt a qq rr=s.pkt s.no (s.ns/s.K) (s.ns%s.K)):=by
     show r.pkt a qq rr=_;rw[HSIM.out.pkt hlt,hqq,hrr,HKNS.out,hea]
    have HPC:Hid (∀ W,RAt W B rb (r.went (r.sent+1))->Calls Tryz.prog 90 #[.pointer (some ⟨rb,0,none⟩),.int .i64 a,.int .i64 qq,.int .i64 rr] W fun e w'=>
     ∃ g cap,e=.returned (.slice (some ⟨g,0,none⟩) (6+s.S) cap)/\w'.ownsRow W.heap.size 5 1 (.slice (some ⟨g,0,none⟩) (6+s.S) cap) (6+s.S) (encL (s.pkt s.no (s.ns/s.K) (s.ns%s.K)))/\Below W.heap.size W w'):=fun W hW=>by
     have hsi:=HSIM.out;have hx:=rpacket_any (i:=a) (q:=qq) rr hW (by show Cfg r.K r.N r.S;rw[hsi.K,hsi.N,hsi.S];exact HOK.out.cfg) (by show a<r.os.length;omega) (by show r.os.length<=16;omega) (by show(oat r.os a).l.length<=255;rw[hsi.l a hlt];exact HOK.out.len a hlt) (by show qq<partsN (symN r.S (oat r.os a).l.length) r.K;rw[hsi.l a hlt,hsi.K,hsi.S];have:=hTn;unfold Snd.T at this;rw[this];exact hqX0) hrX0;rw[HPK.out]at hx;have e:(r.went (r.sent+1)).S=s.S:=hsi.S;rw[e]at hx;exact hx
    have h2d:RAt W2.drew B rb (r.went (r.sent+1)):=h2.kept (fun _ _=>rfl);have hnoL:s.no<s.os.length:=by omega
    clear hqq hrr hqX0 hea hsum hTn hlen hk1 hk
    go_region_held3 (fun w'=>w'.cell? ⟨rb,0,none⟩=some (.int .i64 (s.K:Int))) (first | go_keep|exact hk9) (first
     | (go_at_call 90;refine(HPC.out _ h2d).mono ?_;rintro e w5 ⟨g5,cap5,rfl,hown5,hb5⟩;(have hk9:w5.cell? ⟨rb,0,none⟩=some (.int .i64 (s.K:Int)):=by rw[hb5.cell (lt_of_cell p0')];exact p0')))
    all_goals go_wp2_with fail
    all_goals go_ret2
    have hb5':=Below.undraw hb5;have hbW2:But (r.foot rb) w W2:=(Below.but hbw1 (r.foot rb) (fun x hx q=>absurd hx q)).trans (hbu2.wide (fun x _ q=>.inl q));refine .inl ⟨g5,cap5,_,_,r.went (r.sent+1),rfl,own_base2 hown5 hbW2.size,.source hnoL,h2.above hb5',HSIM.out.step.more (by omega),hbW2.below hb5' (fun x hx q=>absurd (Nat.lt_of_lt_of_le hx hbW2.size) q),fun b=>Iff.rfl⟩
   ·have hk1:¬(k:Int)<(T:Int):=by omega
    have hea:¬ a=s.no:=fun e=>hk (HTK.out.2 e)
    go_wp2_with fail
    go_roundw
    case rel=>exact⟨a+1,k - T,by omega,by omega,by go_num,by go_num,by rw[HTS.out];omega,hbw1⟩
    case measure=>simp[intOf];omega
  ·have hlt1:¬(a:Int)<(s.os.length:Int):=by omega
   have hno:s.no=s.os.length:=by omega
   have hno2:a=s.os.length:=by omega
   clear hano hsum;obtain⟨wA,hwA⟩:∃ x,x=wr:=⟨wr,rfl⟩;subst hwA;go_wp2_with fail;clear y0 y1 y2 y3 y4 hr
   go_loopw[7] (fun t wr=>∃ a:Nat,a<=s.os.length/\t=.int .i64 a/\Below w.heap.size w wr/\Hid (∀ j q,j<a->¬ s.owes j q)) (fun t _=>s.os.length - (intOf t).toNat)
   case atStart=>exact⟨0,by omega,rfl,hbr,fun j q hj=>by omega⟩
   case round=>
    clear hbr hlt hlt1 hno2 hale;obtain⟨n,hnle,rfl,hbr,hno1⟩:=hrel;have hr:=h.above hbr;obtain⟨y0,y1,y2,y3,y4⟩:=HCS.out wr hr;by_cases hlt:n<s.os.length
    ·have hlt1:(n:Int)<(s.os.length:Int):=by omega
     have hlt0:(0:Int)<=(n:Int):=by omega
     have hl255:=HOK.out.len n hlt;have hTa:=HT.out n hlt;have hQl:=partsN_le (a:=s.T n) k1;obtain⟨Q,hQ⟩:∃ x,x=s.Q n:=⟨_,rfl⟩;have hQ2:Q<=256:=by rw[hQ];unfold Snd.Q;omega
     have HQ:Hid (Q=s.Q n):=hQ;obtain⟨dg,hdg⟩:∃ x,x=(oat r.os n).dg:=⟨_,rfl⟩;have HDG:Hid (dg=(oat r.os n).dg):=hdg;clear hQ hdg hQl;obtain⟨wB,hwB⟩:∃ x,x=wr:=⟨wr,rfl⟩;subst hwB;go_wp2_with fail;clear y0 y1 y2 y3 y4 hr
     go_loopw[8] (fun t wq=>∃ b:Nat,b<=Q/\t=.int .i64 b/\Below w.heap.size w wq/\Hid (∀ q,q<b->¬ s.owes n q)) (fun t _=>Q - (intOf t).toNat)
     case atStart=>exact⟨0,by omega,rfl,hbr,fun q hq=>by omega⟩
     case round=>
      obtain⟨b,hble,rfl,hbq,hno2⟩:=hrel;have hq:=h.above hbq;obtain⟨y0,y1,y2,y3,y4⟩:=HCS.out wr hq;obtain⟨gb,rfl,z4⟩:=HLB.out wr hq n hlt;rw[<- HQ.out,<- HDG.out]at z4;by_cases hltb:b<Q
      ·have hltb1:(b:Int)<(Q:Int):=by omega
       have hltb0:(0:Int)<=(b:Int):=by omega
       have hbQ:b<s.Q n:=by rw[<- HQ.out];exact hltb
       have hnr:n<r.os.length:=by omega
       have hbd:b<(oat r.os n).ds.length:=by rw[HSIM.out.dl n hlt];exact hbQ
       obtain⟨e0,e1⟩:=hq.debt hnr hbd;obtain⟨sd1,sd2,sd3⟩:=HSIM.out.d n b hlt hbQ;have hod8:=(HOK.out.debt n b hlt hbQ).1;have htr:=(HOK.out.debt n b hlt hbQ).2;rw[<- sd1]at hod8;rw[<- sd2]at htr
       have HOW:Hid (s.owes n b↔1<=(dat (oat r.os n).ds b).1):=by
        show _↔_;rw[sd1];exact⟨fun ho=>ho.2.2,fun ho=>⟨hlt,hbQ,ho⟩⟩
       have HTN:Hid (∀ W,RAt W B rb r->Hid (∀ x:Nat,RAt (W.setCell ⟨dg,b*2+1,none⟩ (.int .i64 x)) B rb (r.setD n b ((dat (oat r.os n).ds b).1,x))/\But (fun k=>k=dg) W (W.setCell ⟨dg,b*2+1,none⟩ (.int .i64 ((x:Nat):Int))))):=fun W hW x=>by
        have:=hW.turn hnr hbd x;rw[<- HDG.out]at this;exact this
       have HON:Hid (∀ W d,RAt W B rb (r.setD n b d)->Hid (∀ x:Nat,RAt (W.setCell ⟨dg,b*2,none⟩ (.int .i64 x)) B rb (r.setD n b (x,d.2))/\But (fun k=>k=dg) W (W.setCell ⟨dg,b*2,none⟩ (.int .i64 ((x:Nat):Int)))/\W.cell? ⟨dg,b*2,none⟩=some (.int .i64 (d.1:Int))/\W.frozen? ⟨dg,b*2,none⟩=false)):=fun W d hW x=>by
        have hn':n<(r.setD n b d).os.length:=by rw[r.setD_len];exact hnr
        have hd':b<(oat (r.setD n b d).os n).ds.length:=by rw[(r.setD_keeps hnr b d n).2.2.2.2];exact hbd
        have h1:=hW.owed hn' hd' x;have h2:=(hW.debt hn' hd').1;have h3:=hW.frozenD hn' (b*2);rw[(r.setD_keeps hnr b d n).2.1,<- HDG.out]at h1 h2 h3;rw[Rsn.dat_setD hnr hbd,Rsn.setD_setD hnr]at h1;rw[Rsn.dat_setD hnr hbd]at h2;exact⟨h1.1,h1.2,h2,h3⟩
       have HSIM2:Hid (s.owes n b->Sim (s.pay n b) (r.setD n b ((dat (oat r.os n).ds b).1 - 1,(dat (oat r.os n).ds b).2+1)) (c+1)):=fun ho=>HSIM.out.pay HOK.out ho
       have HPL:Hid (s.owedPkt n b=s.pkt n b (plcAt s.K s.N ((dat (oat r.os n).ds b).2%s.R n b))):=by show _=_;rw[sd2];rfl
       rw[<- HDG.out]at e0 e1;have fz1:wr.frozen? ⟨dg,b*2+1,none⟩=false:=by rw[HDG.out];exact hq.frozenD hnr _
       have hRe:s.R n b=s.N - s.K+srcN s.K (s.T n) b:=rfl;generalize (dat (oat r.os n).ds b).1=od at *;generalize (dat (oat r.os n).ds b).2=sd at *;have hc2:sd<=1000000000000:=by omega
       clear sd1 sd2 sd3 hbd;by_cases how:1<=od
       ·have how1:(0:Int)<(od:Int):=by omega
        obtain⟨g,rfl,z0⟩:=HLA.out wr hq n hlt;have hqK:b*s.K<s.T n:=partsN_mul k1 hbQ;have hm8:srcN s.K (s.T n) b<=8:=by unfold srcN;omega
        have hm1:1<=srcN s.K (s.T n) b:=by unfold srcN;omega
        obtain⟨R,hR⟩:∃ x,x=s.N - s.K+srcN s.K (s.T n) b:=⟨_,rfl⟩;have hR1:1<=R:=by omega
        have hR2:R<=24:=by omega
        obtain⟨tm,htm⟩:∃ x:Nat,x=sd%R:=⟨_,rfl⟩;have htR:tm<R:=by rw[htm];exact Nat.mod_lt _ hR1
        have hmod:(sd:Int)%(R:Int)=(tm:Int):=by rw[htm];push_cast;rfl
        have htmd:(sd:Int).tmod (R:Int)=(tm:Int):=by rw[Int.tmod_eq_emod_of_nonneg (by omega)];exact hmod
        have hwt:IntKind.i64.wrap (tm:Int)=(tm:Int):=by rw[IntKind.wrap_i64];omega
        obtain⟨pl,hpl⟩:∃ x,x=plcAt s.K s.N tm:=⟨_,rfl⟩;have hpl2:pl<256:=by rw[hpl];unfold plcAt;split<;>omega
        have HORD:Hid (∀ W,Calls Tryz.prog 91 #[.agg #[.int .i64 (s.K:Int),.int .i64 (s.N:Int),.int .i64 (s.S:Int)],.int .i64 ((oat s.os n).l.length:Int),.int .i64 b] W fun e w'=>∃ g c,e=.returned (.slice (some ⟨g,0,none⟩) R c)/\w'.cell? ⟨g,tm,none⟩=some (.int .i64 pl)/\Below W.heap.size W w'):=fun W=>by
         refine(order_any s.K s.N s.S (oat s.os n).l.length b HOK.out.cfg (by omega) hqK W).mono ?_;rintro e w' ⟨go,co,rfl,hZ,hb⟩;refine⟨go,co,by rw[hR];rfl,?_,hb⟩;have h1:=hZ tm (by rw[ordL_length];show tm<s.N - s.K+srcN s.K (s.T n) b;rw[<- hR];exact htR);rw[Nat.zero_add]at h1;rw[h1];have h2:=ordL_at s.K s.N (srcN s.K (s.T n) b) tm (by rw[<- hR];exact htR);show some (Value.int .i64 (zat (ordL s.K s.N (srcN s.K (s.T n) b)) tm))=_;rw[h2,hpl]
        have HPK2:Hid (s.owedPkt n b=s.pkt n b pl):=by show _=_;rw[HPL.out,hpl,htm,hR];rfl
        have HPC:Hid (∀ W d,RAt W B rb (r.setD n b d)->Calls Tryz.prog 90 #[.pointer (some ⟨rb,0,none⟩),.int .i64 n,.int .i64 b,.int .i64 pl] W fun e w'=>
         ∃ g cap,e=.returned (.slice (some ⟨g,0,none⟩) (6+s.S) cap)/\w'.ownsRow W.heap.size 5 1 (.slice (some ⟨g,0,none⟩) (6+s.S) cap) (6+s.S) (encL (s.owedPkt n b))/\Below W.heap.size W w'):=fun W d hW=>by
         have hsi:=HSIM.out;have hkl:=(r.setD_keeps hnr b d n).1;have hx:=rpacket_any (i:=n) (q:=b) pl hW (by show Cfg r.K r.N r.S;rw[hsi.K,hsi.N,hsi.S];exact HOK.out.cfg) (by rw[r.setD_len];exact hnr) (by rw[r.setD_len];omega) (by rw[hkl,hsi.l n hlt];exact HOK.out.len n hlt) (by rw[hkl,hsi.l n hlt];show b<partsN (symN r.S (oat s.os n).l.length) r.K;rw[hsi.K,hsi.S];exact hbQ) hpl2;have e:(r.setD n b d).S=s.S:=hsi.S
         have e2:(r.setD n b d).pkt n b pl=s.owedPkt n b:=by
          rw[HPK2.out,<- hsi.pkt hlt];unfold Rsn.pkt;rw[hkl];rfl
         rw[e,e2]at hx;exact hx
        have hOwes:Hid (s.owes n b):=HOW.out.2 how;clear hR htm hpl hRe hqK hm8 hm1 htr;generalize (oat s.os n).l.length=len at *;generalize (oat r.os n).a=oa at *;generalize (oat r.os n).c=oc at *;have hR0:¬ R=0:=by omega
        clear hlen;go_upto_region 18 with fail
        go_region_held3 (fun w'=>w'.cell? ⟨rb,0,none⟩=some (.int .i64 (s.K:Int))/\w'.cell? ⟨rb,1,none⟩=some (.int .i64 (s.N:Int))/\w'.cell? ⟨rb,2,none⟩=some (.int .i64 (s.S:Int))/\w'.cell? ⟨rb,3,none⟩=some (.slice (some ⟨g,0,none⟩) s.os.length vc)/\w'.cell? ⟨g,n,none⟩=some (.slice oa len oc)) (first | go_keep|exact hkeep) (first
         | (go_at_call 91;refine(HORD.out _).mono ?_;rintro e w1 ⟨go,co,rfl,hgo,hb1⟩;have hkeep:w1.cell? ⟨rb,0,none⟩=some (.int .i64 (s.K:Int))/\w1.cell? ⟨rb,1,none⟩=some (.int .i64 (s.N:Int))/\w1.cell? ⟨rb,2,none⟩=some (.int .i64 (s.S:Int))/\w1.cell? ⟨rb,3,none⟩=some (.slice (some ⟨g,0,none⟩) s.os.length vc)/\w1.cell? ⟨g,n,none⟩=some (.slice oa len oc):=⟨by rw[hb1.cell (lt_of_cell y0)];exact y0,by rw[hb1.cell (lt_of_cell y1)];exact y1,by rw[hb1.cell (lt_of_cell y2)];exact y2,by rw[hb1.cell (lt_of_cell y3)];exact y3,by rw[hb1.cell (lt_of_cell z0)];exact z0⟩))
        have hb1':=Below.undraw hb1;have hbw1:Below w.heap.size w w1:=hbq.trans (hb1'.mono hbq.size);have h1:=hq.above hb1';have e1':w1.cell? ⟨dg,b*2+1,none⟩=some (.int .i64 sd):=by rw[hb1'.cell (lt_of_cell e1)];exact e1
        have fz1':w1.frozen? ⟨dg,b*2+1,none⟩=false:=by rw[HDG.out];exact h1.frozenD hnr _
        clear y0 y1 y2 y3 y4 z0 z4 hkeep hb1 e0 e1 fz1 hq;obtain⟨h2,hbu2⟩:=(HTN.out w1 h1).out (sd+1);rw[show((sd+1:Nat):Int)=(sd:Int)+1 by push_cast;rfl]at h2 hbu2;have htR1:(tm:Int)<(R:Int):=by omega
        have htR0:(0:Int)<=(tm:Int):=by omega
        go_upto_region 21 with fail;generalize w1.setCell ⟨dg,b*2+1,none⟩ (.int .i64 ((sd:Int)+1))=W2 at *;clear e1' fz1' hgo;obtain⟨h3,hbu3,e0,fz0⟩:=(HON.out W2 _ h2).out (od - 1);rw[show((od - 1:Nat):Int)=(od:Int) - 1 by omega]at h3 hbu3;go_upto_region 22 with fail;generalize W2.setCell ⟨dg,b*2,none⟩ (.int .i64 ((od:Int) - 1))=W3 at *;clear e0 fz0;go_wp2_with fail;refine(HPC.out W3 _ h3).mono ?_;rintro e w5 ⟨g5,cap5,rfl,hown5,hb5⟩;go_wp2_with fail;go_ret2;have hdgf:r.foot rb dg:=.inr (.inr (.inr ⟨n,hnr,.inl HDG.out⟩));have hbW3:But (r.foot rb) w W3:=((Below.but hbw1 (r.foot rb) (fun x hx q=>absurd hx q)).trans (hbu2.wide (fun x _ q=>by rw[q];exact hdgf))).trans (hbu3.wide (fun x _ q=>by rw[q];exact hdgf));refine .inl ⟨g5,cap5,_,_,_,rfl,own_base2 hown5 hbW3.size,.owed hno n b hOwes.out (fun j q hjq=>?_),h3.above hb5,HSIM2.out hOwes.out,hbW3.below hb5 (fun x hx q=>absurd (Nat.lt_of_lt_of_le hx hbW3.size) q),fun x=>Rsn.foot_setD hnr _ _ _ _⟩;rcases hjq with hj|⟨rfl,hr⟩
        ·exact hno1.out j q hj
        ·exact hno2.out q hr
       ·have how1:¬(0:Int)<(od:Int):=by omega
        have hNot:Hid (¬ s.owes n b):=fun ho=>how (HOW.out.1 ho)
        go_wp2_with fail
        go_roundw
        case rel=>exact⟨b+1,by omega,by go_num,hbq,fun q hq'=>by
         by_cases e:q=b
         ·subst e;exact hNot.out
         ·exact hno2.out q (by omega)⟩
        case measure=>simp[intOf];omega
      ·obtain rfl:b=Q:=by omega
       have hltb1:¬(b:Int)<(b:Int):=by omega
       go_wp2_with fail
       go_roundw
       case rel=>exact⟨n+1,by omega,by go_num,hbq,fun j q hj=>by
        by_cases e:j=n
        ·subst e;exact fun ho=>hno2.out q (by rw[HQ.out];exact ho.2.1) ho
        ·exact hno1.out j q (by omega)⟩
       case measure=>simp[intOf];omega
    ·have hlt1:¬(n:Int)<(s.os.length:Int):=by omega
     have hne:n=s.os.length:=by omega
     go_wp2_with fail;go_ret2;exact .inr ⟨rfl,hno,fun i q ho=>hno1.out i q (by have:=ho.1;omega) ho,hbr⟩
end Go.Proofs.YtjabhnhejbhgjaaGreatDoor
