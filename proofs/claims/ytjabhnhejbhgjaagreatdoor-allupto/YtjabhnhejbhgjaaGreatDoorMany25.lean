import Derived.Test.YtjabhnhejbhgjaaGreatDoorMany24
import Derived.Test.YtjabhnhejbhgjaaGreatDoorMany18
import Derived.Test.YtjabhnhejbhgjaaGreatDoorMany21
import Derived.Test.YtjabhnhejbhgjaaGreatDoorMany14
set_option maxRecDepth 100000
set_option maxHeartbeats 8000000
namespace Go.Proofs.YtjabhnhejbhgjaaGreatDoor
open Go.RowKit
theorem gwhole_any{w:World}{B kb:Nat}{k:Kn}(h:KAt w B kb k)(ok:k.Ok):
 Calls Tryz.prog 47 #[.pointer (some ⟨kb,0,none⟩)] w fun e w'=>e=.returned (.bool (decide ((k.lks k.ts.length).length=0)))/\Below w.heap.size w w':=by
 go_enter Tryz.func47,Tryz.ntmps47;go_wp2_with fail;refine(glacks_any h ok).mono ?_;rintro e w1 ⟨v,rfl,hown,hb1⟩;obtain⟨xa,xc,hxv,_⟩:=own_form2 hown;obtain rfl:=hxv;obtain⟨m,hm0⟩:∃ x,x=(k.lks k.ts.length).length:=⟨_,rfl⟩;rw[<- hm0]at hown;have HM0:Hid (m=(k.lks k.ts.length).length):=hm0;clear hm0;by_cases hm:m=0
 ·have hm1:(m:Int)=0:=by omega
  go_wp2_with fail;go_ret;exact⟨ret_bool (by rw[<- HM0.out];simp[hm]),hb1⟩
 ·have hm1:¬(m:Int)=0:=by omega
  go_wp2_with fail;go_ret;exact⟨ret_bool (by rw[<- HM0.out];simp[hm]),hb1⟩
def kn0(K N S len bg:Nat):Kn:=⟨len,K,N,S,List.replicate (partsN (symN S len) K) pt0,bg⟩
theorem gpt0(n i:Nat):gpt (List.replicate n pt0) i=pt0:=by
 unfold gpt;rw[List.getD_eq_getElem?_getD,List.getElem?_replicate];split<;>rfl
theorem kn0_ok{K N S len bg:Nat}(hc:Cfg K N S)(hl:len<=255):(kn0 K N S len bg).Ok:=
 ⟨hc,hl,by simp[kn0];rfl,fun i hi=>by unfold kn0;rw[gpt0];exact Nat.zero_le _,fun i hi=>by unfold kn0;rw[gpt0];rfl,fun i hi r hr=>by unfold kn0 at hr;rw[gpt0]at hr;simp[pt0]at hr⟩
theorem flatP0:∀ n,flat2 (ptVals (List.replicate n pt0))=List.replicate (2*n) (.slice none 0 0)
 | 0=>rfl
 | n+1=>by
  have e:ptVals (List.replicate (n+1) pt0)=(.slice none 0 0,.slice none 0 0) :: ptVals (List.replicate n pt0):=rfl;rw[e,flat2_cons,flatP0 n,show 2*(n+1)=2*n+1+1 by omega];rfl
theorem madeP(n:Nat):madeCells #[.slice none 0 0,.slice none 0 0] (n*2)=(flat2 (ptVals (List.replicate n pt0))).toArray:=by
 apply Array.ext';rw[flatP0];apply List.ext_getElem
 ·simp[madeCells];omega
 ·intro i h1 h2
  have h3:i%2=0∨i%2=1:=by omega
  simp only[madeCells,Array.toList_map,Array.toList_range,List.getElem_map,List.getElem_range,List.getElem_replicate];rcases h3 with h3|h3
  ·show(#[Value.slice none 0 0,Value.slice none 0 0])[i%2]! = _
   rw[h3];rfl
  ·show(#[Value.slice none 0 0,Value.slice none 0 0])[i%2]! = _
   rw[h3];rfl
theorem Tryz.info_part:(Tryz.prog.info? 174).map (fun i=>(i.zero,i.size,i.bytes))=some (some (.agg #[.slice none 0 0,.slice none 0 0]),2,48):=by kernel_rfl
theorem make_parts(n:Nat)(hn:n<=1000)(W:World):(Instr.makeSlice 153 (.int .i64 n) (.int .i64 n)).run Tryz.prog W=.ok (.slice (some ⟨W.heap.size,0,none⟩) n n) (W.alloc (.cells (flat2 (ptVals (List.replicate n pt0))).toArray 174)):=by
 have h:=Tryz.info_part
 cases hi:Tryz.prog.info? 174 with
 | none=>rw[hi]at h;simp at h
 | some i=>
  rw[hi]at h;simp at h;obtain⟨h1,h2,h3⟩:=h;have:=run_make (P:=Tryz.prog) W 153 174 i (.agg #[.slice none 0 0,.slice none 0 0]) Tryz.underlying153 hi h1 .i64 .i64 (n:Int) (n:Int) (by omega) (by omega) (by rw[h3];omega) (by omega);rw[h2]at this;simp only[Int.toNat_natCast]at this;rw[this];show Result.ok _ (W.alloc (.cells (madeCells #[.slice none 0 0,.slice none 0 0] (n*2)) _))=_;rw[madeP]
theorem kn0_at{K N S len:Nat}{w w9:World}(hb:Below w.heap.size w w9):
 KAt ((w9.alloc (.cells (flat2 (ptVals (List.replicate (partsN (symN S len) K) pt0))).toArray 174)).alloc (.cells #[.int .i64 len,.int .i64 K,.int .i64 N,.int .i64 S,.int .i64 (symN S len:Int),.slice (some ⟨w9.heap.size,0,none⟩) (partsN (symN S len) K) (partsN (symN S len) K)] 155)) w.heap.size (w9.heap.size+1) (kn0 K N S len w9.heap.size)/\Below w.heap.size w ((w9.alloc (.cells (flat2 (ptVals (List.replicate (partsN (symN S len) K) pt0))).toArray 174)).alloc (.cells #[.int .i64 len,.int .i64 K,.int .i64 N,.int .i64 S,.int .i64 (symN S len:Int),.slice (some ⟨w9.heap.size,0,none⟩) (partsN (symN S len) K) (partsN (symN S len) K)] 155)):=by
 have hs:=hb.size;have hl:(kn0 K N S len w9.heap.size).ts.length=partsN (symN S len) K:=by simp[kn0]
 refine⟨⟨by omega,?_,hs,?_,fun i hi=>?_,fun i hi=>?_,fun i hi r hr=>?_,fun i j hi hj g hg=>?_,fun i j hi hj g hg=>?_,fun i j hi hj g hg=>?_⟩,(hb.alloc hs _).alloc (by simp;omega) _⟩
 ·have h:=heap_alloc_new (w9.alloc (.cells (flat2 (ptVals (List.replicate (partsN (symN S len) K) pt0))).toArray 174)) (.cells #[.int .i64 len,.int .i64 K,.int .i64 N,.int .i64 S,.int .i64 (symN S len:Int),.slice (some ⟨w9.heap.size,0,none⟩) (partsN (symN S len) K) (partsN (symN S len) K)] 155)
  rw[show(w9.alloc (.cells (flat2 (ptVals (List.replicate (partsN (symN S len) K) pt0))).toArray 174)).heap.size=w9.heap.size+1 by simp]at h;rw[hl];exact h
 ·exact(Below.heap_alloc _ _ _ (by show w9.heap.size<_;simp)).trans (heap_alloc_new w9 _)
 ·unfold kn0;rw[gpt0];exact World.ownsRow_nil ..
 ·unfold kn0;rw[gpt0];exact World.ownsRow_nil ..
 ·unfold kn0 at hr;rw[gpt0]at hr;simp[pt0]at hr
 ·unfold kn0 at hg;rw[gpt0]at hg;simp[pt0,Value.ownBlock]at hg
 ·unfold kn0 at hg;rw[gpt0]at hg;simp[pt0,Value.ownBlock]at hg
 ·unfold kn0 at hg;rw[gpt0]at hg;simp[pt0,Value.ownBlock]at hg
theorem gof_any(K N S len:Nat)(hc:Cfg K N S)(hlen:len<=255)(w:World):
 Calls Tryz.prog 75 #[.agg #[.int .i64 K,.int .i64 N,.int .i64 S],.int .i64 len] w fun e w'=>
  ∃ kb bg,e=.returned (.pointer (some ⟨kb,0,none⟩))/\KAt w' w.heap.size kb (kn0 K N S len bg)/\Below w.heap.size w w':=by
 have hC:=CfgAt.start w K N S;obtain⟨k1,k8,kn,n16,s1,s8⟩:=hc;have hTr:=symN_range (S:=S) (len:=len) s1;have hQl:=partsN_le (a:=symN S len) k1;have HOF:Hid (∀ W,Calls Tryz.prog 60 #[.agg #[.int .i64 K,.int .i64 N,.int .i64 S],.int .i64 len] W fun e w'=>e=.returned (.agg #[.int .i64 K,.int .i64 N,.int .i64 S,.int .i64 (symN S len:Int)])/\Below W.heap.size W w'):=fun W=>of_any K N S len ⟨k1,k8,kn,n16,s1,s8⟩ (by omega) W
 have HBK:Hid (∀ W,Calls Tryz.prog 61 #[.agg #[.int .i64 K,.int .i64 N,.int .i64 S,.int .i64 (symN S len:Int)]] W fun e w'=>e=.returned (.int .i64 (partsN (symN S len) K:Int))/\Below W.heap.size W w'):=fun W=>blocks_any K N S (symN S len) k1 k8 (by omega) W
 have HMK:Hid (∀ W:World,(Instr.makeSlice 153 (.int .i64 (partsN (symN S len) K:Int)) (.int .i64 (partsN (symN S len) K:Int))).run Tryz.prog W=.ok (.slice (some ⟨W.heap.size,0,none⟩) (partsN (symN S len) K) (partsN (symN S len) K)) (W.alloc (.cells (flat2 (ptVals (List.replicate (partsN (symN S len) K) pt0))).toArray 174))):=fun W=>make_parts _ (by omega) W
 have HAT:Hid (∀ w9,Below w.heap.size w w9->_):=fun w9 hb=>kn0_at (K:=K) (N:=N) (S:=S) (len:=len) hb
 have hQ9:partsN (symN S len) K<=1000:=by omega
 generalize partsN (symN S len) K=Q at *;generalize symN S len=T at *;go_enter Tryz.func75,Tryz.ntmps75;go_upto_region 1 with fail;generalize w.alloc (.cells #[.int .i64 K,.int .i64 N,.int .i64 S] 30)=W0 at *;obtain⟨x0,x1,x2⟩:=hC.cells;go_wp2_with fail;refine(HOF.out _).mono ?_;rintro e w1 ⟨rfl,hb1⟩;have hbw1:Below w.heap.size w w1:=hC.low.trans (hb1.mono hC.low.size);clear x0 x1 x2 hC;go_upto_region 2 with fail;have hX2:=heap_alloc_new w1 (.cells #[.int .i64 K,.int .i64 N,.int .i64 S,.int .i64 T] 148);have hbw2:Below w.heap.size w (w1.alloc (.cells #[.int .i64 K,.int .i64 N,.int .i64 S,.int .i64 T] 148)):=hbw1.alloc hbw1.size _;generalize w1.alloc (.cells #[.int .i64 K,.int .i64 N,.int .i64 S,.int .i64 T] 148)=W2 at *;obtain⟨pb,hpb⟩:∃ x,x=w1.heap.size:=⟨_,rfl⟩;rw[<- hpb]at hX2 ⊢;clear hpb hb1 hbw1;have p0:W2.cell? ⟨pb,0,none⟩=some (.int .i64 K):=cell_of_row W2 _ 0 _ _ _ hX2;have p1:W2.cell? ⟨pb,1,none⟩=some (.int .i64 N):=cell_of_row W2 _ 1 _ _ _ hX2;have p2:W2.cell? ⟨pb,2,none⟩=some (.int .i64 S):=cell_of_row W2 _ 2 _ _ _ hX2;have p3:W2.cell? ⟨pb,3,none⟩=some (.int .i64 T):=cell_of_row W2 _ 3 _ _ _ hX2
 have HK9:Hid (∀ w9,Below W2.heap.size W2 w9->(w9.cell? ⟨pb,0,none⟩=some (.int .i64 K)/\w9.cell? ⟨pb,1,none⟩=some (.int .i64 N)/\w9.cell? ⟨pb,2,none⟩=some (.int .i64 S)/\w9.cell? ⟨pb,3,none⟩=some (.int .i64 T))/\¬ pb=w9.heap.size/\Below w.heap.size w w9/\∀ ob:Obj,(w9.alloc ob).cell? ⟨pb,0,none⟩=some (.int .i64 K)/\(w9.alloc ob).cell? ⟨pb,1,none⟩=some (.int .i64 N)/\(w9.alloc ob).cell? ⟨pb,2,none⟩=some (.int .i64 S)/\(w9.alloc ob).cell? ⟨pb,3,none⟩=some (.int .i64 T)):=fun w9 hb9=>by
  have h1:=lt_of_block hX2;have h2:=hb9.size;exact⟨⟨by rw[hb9.cell (lt_of_cell p0)];exact p0,by rw[hb9.cell (lt_of_cell p1)];exact p1,by rw[hb9.cell (lt_of_cell p2)];exact p2,by rw[hb9.cell (lt_of_cell p3)];exact p3⟩,by omega,hbw2.trans (hb9.mono hbw2.size),fun ob=>⟨by rw[((Below.refl w9.heap.size w9).alloc (Nat.le_refl _) ob).cell (p:=⟨pb,0,none⟩) (by show pb<_;omega),hb9.cell (lt_of_cell p0)];exact p0,by rw[((Below.refl w9.heap.size w9).alloc (Nat.le_refl _) ob).cell (p:=⟨pb,1,none⟩) (by show pb<_;omega),hb9.cell (lt_of_cell p1)];exact p1,by rw[((Below.refl w9.heap.size w9).alloc (Nat.le_refl _) ob).cell (p:=⟨pb,2,none⟩) (by show pb<_;omega),hb9.cell (lt_of_cell p2)];exact p2,by rw[((Below.refl w9.heap.size w9).alloc (Nat.le_refl _) ob).cell (p:=⟨pb,3,none⟩) (by show pb<_;omega),hb9.cell (lt_of_cell p3)];exact p3⟩⟩
 clear hX2 hbw2
 go_region_law ((first
  | (go_simp;go_at_call 61;refine(HBK.out _).mono ?_;rintro e w9 ⟨rfl,hb9⟩;(have hbX:Below W2.heap.size W2 w9:=by first | exact Below.undraw hb9|exact hb9);obtain⟨⟨d0,d1,d2,d3⟩,n9,hbw9,hal⟩:=HK9.out w9 hbX;obtain⟨a0,a1,a2,a3⟩:=hal (.cells (flat2 (ptVals (List.replicate Q pt0))).toArray 174);have hmk:=HMK.out w9)))
 all_goals go_wp2_with fail
 all_goals go_ret
 all_goals exact⟨_,_,rfl,(HAT.out w9 hbw9).1,(HAT.out w9 hbw9).2⟩
theorem mem_take{l:List Gf.F}{x:Gf.F}{i:Nat}(hi:i<l.length):x ∈ l.take (i+1)↔(x ∈ l.take i∨at_ l i=x):=by
 have e:at_ l i=l[i]:=by simp[at_,List.getD,hi]
 rw[List.take_succ_eq_append_getElem hi,List.mem_append,List.mem_singleton,e];exact⟨fun h=>h.elim .inl (fun q=>.inr q.symm),fun h=>h.elim .inl (fun q=>.inr q.symm)⟩
theorem byte_eq{x y:Gf.F}:((x.toNat:Int)=(y.toNat:Int))↔x=y:=⟨fun h=>BitVec.eq_of_toNat_eq (by omega),fun h=>by rw[h]⟩
theorem sindex_any{w:World}{B n:Nat}{v:Value}{l:List Gf.F}{x:Gf.F}(h:w.ownsRow B 5 1 v n (encL l))(hl:l.length=n)(hn:n<=1000):
 Calls Tryz.prog 118 #[v,.int .u8 (x.toNat:Int)] w fun e w'=>∃ z:Int,e=.returned (.int .i64 z)/\(0<=z↔x ∈ l)/\Below w.heap.size w w':=by
 obtain⟨a,c,rfl,hx⟩:=own_form h
 have HB:Hid (∀ i,i<n->∃ g,a=some ⟨g,0,none⟩/\w.cell? ⟨g,i,none⟩=some (.int .u8 ((at_ l i).toNat:Int))):=fun i hi=>by
  obtain⟨g,rfl,_⟩:=hx (by omega);have:=own_bs h hl i (by omega);rw[Nat.zero_add]at this;exact⟨g,rfl,this⟩
 have HL:Hid (l.length=n):=hl;clear h hl hx;go_enter Tryz.func118,Tryz.ntmps118;go_wp2_with fail
 go_loopw[5,8] (fun _ t wr=>∃ i:Nat,i<=n/\t=.int .i64 i/\¬ x ∈ l.take i/\wr=w) (fun _ t _=>n - (intOf t).toNat)
 case atStart=>exact⟨0,by omega,rfl,by simp,rfl⟩
 case round=>
  obtain⟨i,hi,rfl,hno,rfl⟩:=hrel;by_cases hlt:i<n
  ·have hlt1:(i:Int)<(n:Int):=by omega
   have hlt0:(0:Int)<=(i:Int):=by omega
   obtain⟨g,rfl,c0⟩:=HB.out i hlt;have HM:Hid (x ∈ l.take (i+1)↔(x ∈ l.take i∨at_ l i=x)):=mem_take (by rw[HL.out];exact hlt);have HNO:Hid (¬ x ∈ l.take i):=hno;have HIN:Hid (at_ l i=x->x ∈ l):=fun e=>List.mem_of_mem_take (HM.out.2 (.inr e))
   have hbe:((x.toNat:Int)=((at_ l i).toNat:Int))↔at_ l i=x:=byte_eq.trans ⟨Eq.symm,Eq.symm⟩;clear hno;generalize at_ l i=y at *;by_cases he:(x.toNat:Int)=(y.toNat:Int)
   ·have hyx:=hbe.1 he
    clear hbe;go_wp2_with fail;go_ret;exact⟨(i:Int),rfl,⟨fun _=>HIN.out hyx,fun _=>by omega⟩,Below.refl _ _⟩
   ·have hyx:¬ y=x:=fun q=>he (hbe.2 q)
    clear hbe;go_wp2_with fail
    go_roundw
    case rel=>exact⟨i+1,by omega,by go_num,fun q=>(HM.out.1 q).elim HNO.out hyx,by first | rfl|trivial⟩
    case measure=>simp[intOf];omega
  ·obtain rfl:i=n:=by omega
   have hlt1:¬(i:Int)<(i:Int):=by omega
   have HNO:Hid (¬ x ∈ l):=by
    show ¬ _;rw[List.take_of_length_le (by rw[HL.out];exact Nat.le_refl _)]at hno;exact hno
   clear hno;go_wp2_with fail;go_ret;exact⟨-1,rfl,⟨fun q=>by omega,fun q=>absurd q HNO.out⟩,Below.refl _ _⟩
theorem scontains_any{w:World}{B n:Nat}{v:Value}{l:List Gf.F}{x:Gf.F}(h:w.ownsRow B 5 1 v n (encL l))(hl:l.length=n)(hn:n<=1000):
 Calls Tryz.prog 76 #[v,.int .u8 (x.toNat:Int)] w fun e w'=>e=.returned (.bool (decide (x ∈ l)))/\Below w.heap.size w w':=by
 have HX:=sindex_any (x:=x) h hl hn;clear h hl;go_enter Tryz.func76,Tryz.ntmps76;go_wp2_with fail;refine HX.mono ?_;rintro e w1 ⟨z,rfl,hz,hb1⟩;clear HX;by_cases h0:0<=z
 ·have hm:=hz.1 h0
  clear hz;go_wp2_with fail;go_ret;exact⟨ret_bool (by simp[hm]),hb1⟩
 ·have hm:¬ x ∈ l:=fun q=>h0 (hz.2 q)
  have h01:z<0:=by omega
  clear hz;go_wp2_with fail;go_ret;exact⟨ret_bool (by simp[hm];omega),hb1⟩
def Kn.setT(k:Kn)(i:Nat)(p:Pt):Kn:={k with ts:=k.ts.set i p}
theorem Kn.setT_len(k:Kn)(i:Nat)(p:Pt):(k.setT i p).ts.length=k.ts.length:=by simp[Kn.setT]
theorem Kn.setT_at{k:Kn}{i:Nat}(hi:i<k.ts.length)(p:Pt)(j:Nat):gpt (k.setT i p).ts j=if i=j then p else gpt k.ts j:=gpt_set hi p j
theorem ptVals_get{ts:List Pt}{i:Nat}(hi:i<ts.length):(ptVals ts)[i]?=some ((gpt ts i).pv,(gpt ts i).sv):=by unfold ptVals;rw[List.getElem?_map,gpt_some hi];rfl
theorem ptVals_set(ts:List Pt)(i:Nat)(p:Pt):ptVals (ts.set i p)=(ptVals ts).set i (p.pv,p.sv):=by simp[ptVals,List.map_set]
theorem KAt.setPart{w w':World}{B kb i:Nat}{k:Kn}(h:KAt w B kb k)(hi:i<k.ts.length)(p:Pt)(hb:But (fun b=>b=k.bg∨(gpt k.ts i).pv.ownBlock=some b∨(gpt k.ts i).sv.ownBlock=some b) w w')
 (hrow:w'.heap[k.bg]?=some (.cells (flat2 (ptVals (k.ts.set i p))).toArray 174 (0,0))) (hp:w'.ownsRow B 5 1 p.pv p.ps.length (encL p.ps)) (hs:w'.ownsRow B 33 1 p.sv p.rs.length (p.rs.map Row.val))
 (hr:∀ r ∈ p.rs,B<=r.b/\w'.ownsRow B 5 1 r.val r.l.length (encL r.l)) (hpn:∀ g,p.pv.ownBlock=some g->(gpt k.ts i).pv.ownBlock=some g∨w.heap.size<=g) (hsn:∀ g,p.sv.ownBlock=some g->(gpt k.ts i).sv.ownBlock=some g∨w.heap.size<=g)
 (hrn:∀ r ∈ p.rs,r.b<w.heap.size/\∀ j,j<k.ts.length->∀ g,(gpt k.ts j).pv.ownBlock=some g->r.b≠g):KAt w' B kb (k.setT i p):=by
 have hne:∀ {cs:Array Value} {t:TypeId} {g:Nat},w.heap[g]?=some (Obj.cells cs t (0,0))->t≠174->t≠5->t≠33->¬(g=k.bg∨(gpt k.ts i).pv.ownBlock=some g∨(gpt k.ts i).sv.ownBlock=some g):=fun {cs t g} hg e1 e2 e3 q=>by
  rcases q with q|q|q
  ·have hk:=h.row
   rw[<- q,hg]at hk;simp only[Option.some.injEq,Obj.cells.injEq]at hk;exact e1 hk.2.1
  ·exact own_ne (h.places i hi) q hg (fun e=>e2 e.symm) rfl
  ·exact own_ne (h.syms i hi) q hg (fun e=>e3 e.symm) rfl
 refine⟨h.low,?_,h.low2,hrow,fun j hj=>?_,fun j hj=>?_,fun j hj r hr'=>?_,fun a b ha hb' g h1 h2=>?_,fun a b ha hb' g h1 h2=>?_,fun a b ha hb' g h1 r h2=>?_⟩
 ·rw[k.setT_len]
  exact(hb.block kb (lt_of_block h.blk) (hne h.blk (by decide) (by decide) (by decide))).trans h.blk
 ·rw[k.setT_len]at hj
  rw[k.setT_at hi];split
  ·exact hp
  ·rename_i e
   refine hb.own (h.places j hj) (fun g hg q=>?_);rcases q with q|q|q
   ·exact own_ne (h.places j hj) hg h.row (by decide) q
   ·exact e (h.apartP i j hi hj g q hg)
   ·exact own2_ne (h.places j hj) (h.syms i hi) (by decide) g hg q
 ·rw[k.setT_len]at hj
  rw[k.setT_at hi];split
  ·exact hs
  ·rename_i e
   refine hb.own (h.syms j hj) (fun g hg q=>?_);rcases q with q|q|q
   ·exact own_ne (h.syms j hj) hg h.row (by decide) q
   ·exact own2_ne (h.syms j hj) (h.places i hi) (by decide) g hg q
   ·exact e (h.apartS i j hi hj g q hg)
 ·rw[k.setT_len]at hj
  rw[k.setT_at hi]at hr';split at hr'
  ·exact hr r hr'
  ·rename_i e
   obtain⟨q1,q2⟩:=h.bytes j hj r hr';refine⟨q1,hb.own q2 (fun g hg q=>?_)⟩;have hg':r.b=g:=by simpa [Row.val,Value.ownBlock] using hg
   rcases q with q|q|q
   ·exact own_ne q2 hg h.row (by decide) q
   ·exact h.apartR i j hi hj g q r hr' hg'
   ·exact own2_ne q2 (h.syms i hi) (by decide) g hg q
 ·rw[k.setT_len]at ha hb'
  rw[k.setT_at hi]at h1 h2;split at h1<;>split at h2
  ·rename_i e1 e2;omega
  ·rename_i e1 e2;subst e1
   rcases hpn g h1 with q|q
   ·exact h.apartP i b hi hb' g q h2
   ·have:=((h.places b hb').lt g h2).2;omega
  ·rename_i e1 e2;subst e2
   rcases hpn g h2 with q|q
   ·exact h.apartP a i ha hi g h1 q
   ·have:=((h.places a ha).lt g h1).2;omega
  ·exact h.apartP a b ha hb' g h1 h2
 ·rw[k.setT_len]at ha hb'
  rw[k.setT_at hi]at h1 h2;split at h1<;>split at h2
  ·rename_i e1 e2;omega
  ·rename_i e1 e2;subst e1
   rcases hsn g h1 with q|q
   ·exact h.apartS i b hi hb' g q h2
   ·have:=((h.syms b hb').lt g h2).2;omega
  ·rename_i e1 e2;subst e2
   rcases hsn g h2 with q|q
   ·exact h.apartS a i ha hi g h1 q
   ·have:=((h.syms a ha).lt g h1).2;omega
  ·exact h.apartS a b ha hb' g h1 h2
 ·rw[k.setT_len]at ha hb'
  rw[k.setT_at hi]at h1 h2;split at h1<;>split at h2
  ·rcases hpn g h1 with q|q
   ·exact(hrn r h2).2 i hi g q
   ·have:=(hrn r h2).1;omega
  ·rename_i e1 e2;subst e1
   rcases hpn g h1 with q|q
   ·exact h.apartR i b hi hb' g q r h2
   ·obtain⟨_,q2⟩:=h.bytes b hb' r h2
    have:=(q2.lt r.b (r.own.2 trivial)).2;omega
  ·exact(hrn r h2).2 a ha g h1
  ·exact h.apartR a b ha hb' g h1 r h2
def Kn.add(k:Kn)(i:Nat)(x:Gf.F)(r:Row)(pv sv:Value):Kn:=k.setT i ⟨(gpt k.ts i).ps++[x],pv,(gpt k.ts i).rs++[r],sv⟩
def Kn.use(k:Kn)(i:Nat)(x:Gf.F):Prop:=0<k.lk i/\¬ x ∈(gpt k.ts i).ps
theorem Kn.add_ok{k:Kn}(ok:k.Ok){i:Nat}(hi:i<k.ts.length){x:Gf.F}{r:Row}{pv sv:Value}(hu:0<k.lk i)(hr:r.l.length=k.S/\r.o=0):(k.add i x r pv sv).Ok:=by
 have hl:(k.add i x r pv sv).ts.length=k.ts.length:=k.setT_len i _;have hf:=ok.few i hi;unfold Kn.lk at hu;refine⟨ok.cfg,ok.len,hl.trans ok.blocks,fun j hj=>?_,fun j hj=>?_,fun j hj r' hr'=>?_⟩
 ·rw[hl]at hj
  show(gpt (k.setT i _).ts j).rs.length<=srcN k.K k.T j;rw[k.setT_at hi];split
  ·rename_i e;subst e
   simp;omega
  ·exact ok.few j hj
 ·rw[hl]at hj
  show(gpt (k.setT i _).ts j).ps.length=(gpt (k.setT i _).ts j).rs.length;rw[k.setT_at hi];split
  ·rename_i e;subst e
   simp[ok.same i hi]
  ·exact ok.same j hj
 ·rw[hl]at hj
  have hr2:r' ∈(gpt (k.setT i ⟨(gpt k.ts i).ps++[x],pv,(gpt k.ts i).rs++[r],sv⟩).ts j).rs:=hr';rw[k.setT_at hi]at hr2;split at hr2
  ·rename_i e;subst e
   rcases List.mem_append.1 hr2 with q|q
   ·exact ok.size i hi r' q
   ·rw[List.mem_singleton.1 q];exact hr
  ·exact ok.size j hj r' hr2
theorem KAt.add{w w2 w4:World}{B kb i g gc s sc:Nat}{k:Kn}{x:Gf.F}{r:Row}{ob ob':Obj}(h:KAt w B kb k)(hi:i<k.ts.length)(hr:B<=r.b/\w.ownsRow B 5 1 r.val r.l.length (encL r.l))(hrn:∀ j,j<k.ts.length->∀ q,(gpt k.ts j).pv.ownBlock=some q->r.b≠q)
 (hg:(w.alloc ob).grownBy w2 (gpt k.ts i).pv.ownBlock) (hown:w2.ownsRow B 5 1 (.slice (some ⟨g,0,none⟩) ((gpt k.ts i).ps.length+1) gc) ((gpt k.ts i).ps.length+1) (encL (gpt k.ts i).ps++[.int .u8 (x.toNat:Int)])) (hlie:(gpt k.ts i).pv.ownBlock=some g∨g=w.heap.size+1)
 (hg':((w2.setCell ⟨k.bg,i*2,none⟩ (.slice (some ⟨g,0,none⟩) ((gpt k.ts i).ps.length+1) gc)).alloc ob').grownBy w4 (gpt k.ts i).sv.ownBlock) (hown':w4.ownsRow B 33 1 (.slice (some ⟨s,0,none⟩) ((gpt k.ts i).rs.length+1) sc) ((gpt k.ts i).rs.length+1) ((gpt k.ts i).rs.map Row.val++[r.val])) (hlie':(gpt k.ts i).sv.ownBlock=some s∨w.heap.size<=s):
 KAt (w4.setCell ⟨k.bg,i*2+1,none⟩ (.slice (some ⟨s,0,none⟩) ((gpt k.ts i).rs.length+1) sc)) B kb (k.add i x r (.slice (some ⟨g,0,none⟩) ((gpt k.ts i).ps.length+1) gc) (.slice (some ⟨s,0,none⟩) ((gpt k.ts i).rs.length+1) sc))/\
 But (k.foot kb) w (w4.setCell ⟨k.bg,i*2+1,none⟩ (.slice (some ⟨s,0,none⟩) ((gpt k.ts i).rs.length+1) sc)):=by
 obtain⟨pv',hpv'⟩:∃ x,x=Value.slice (some ⟨g,0,none⟩) ((gpt k.ts i).ps.length+1) gc:=⟨_,rfl⟩;obtain⟨sv',hsv'⟩:∃ x,x=Value.slice (some ⟨s,0,none⟩) ((gpt k.ts i).rs.length+1) sc:=⟨_,rfl⟩;rw[<- hpv']at hown hg' ⊢;rw[<- hsv']at hown' ⊢;have hpo:∀ q,pv'.ownBlock=some q->q=g:=fun q hq=>by rw[hpv']at hq;simpa [Value.ownBlock,eq_comm] using hq
 have hso:∀ q,sv'.ownBlock=some q->q=s:=fun q hq=>by rw[hsv']at hq;simpa [Value.ownBlock,eq_comm] using hq
 have hrow2:w2.heap[k.bg]?=w.heap[k.bg]?:=(grown_block hg (by have:=lt_of_block h.row;simp;omega) (fun q=>own_ne (h.places i hi) q h.row (by decide) rfl)).trans (Below.heap_alloc w ob _ (lt_of_block h.row));have hr2:=hrow2.trans h.row;have hr3:=heap_setCell_same w2 k.bg (i*2) _ _ pv' hr2;have hb3:=But.setCell (S:=fun b=>b=k.bg) (But.refl _ w2) (p:=⟨k.bg,i*2,none⟩) (.inl rfl) pv';have hs2:=hg.size;have hs3:=hb3.size;have hsv2:w2.ownsRow B 33 1 (gpt k.ts i).sv (gpt k.ts i).rs.length ((gpt k.ts i).rs.map Row.val):=own_of_block (h.syms i hi) (fun q hq=>(grown_block hg (by have:=((h.syms i hi).lt q hq).2;simp;omega) (fun q'=>own2_ne (h.syms i hi) (h.places i hi) (by decide) q hq q')).trans (Below.heap_alloc w ob q ((h.syms i hi).lt q hq).2));have hsv3:=hb3.own hsv2 (fun q hq e=>own_ne hsv2 hq hr2 (by decide) e);have hown3:=hb3.own hown (fun q hq e=>own_ne hown hq hr2 (by decide) e);have hr4:w4.heap[k.bg]?=_:=((grown_block hg' (by have:=lt_of_block hr2;simp;omega) (fun q=>own_ne hsv3 q hr3 (by decide) rfl)).trans (Below.heap_alloc _ ob' _ (lt_of_block hr3))).trans hr3;have hown4:w4.ownsRow B 5 1 pv' ((gpt k.ts i).ps.length+1) (encL (gpt k.ts i).ps++[.int .u8 (x.toNat:Int)]):=own_of_block hown3 (fun q hq=>(grown_block hg' (by have:=(hown.lt q hq).2;simp;omega) (fun q'=>own2_ne hown3 hsv3 (by decide) q hq q')).trans (Below.heap_alloc _ ob' q (hown3.lt q hq).2));have hr5:=heap_setCell_same w4 k.bg (i*2+1) _ _ sv' hr4;have hb5:=But.setCell (S:=fun b=>b=k.bg) (But.refl _ w4) (p:=⟨k.bg,i*2+1,none⟩) (.inl rfl) sv';have hbu:But (fun b=>b=k.bg∨(gpt k.ts i).pv.ownBlock=some b∨(gpt k.ts i).sv.ownBlock=some b) w (w4.setCell ⟨k.bg,i*2+1,none⟩ sv'):=((((((But.refl _ w).alloc ob).grown hg (fun q hq=>.inl (.inr (.inl hq)))).setCell (p:=⟨k.bg,i*2,none⟩) (.inl (.inl rfl)) pv').alloc ob').grown hg' (fun q hq=>.inl (.inr (.inr hq)))).setCell (p:=⟨k.bg,i*2+1,none⟩) (.inl (.inl rfl)) sv'
 have hkeep:∀ r':Row,w.ownsRow B 5 1 r'.val r'.l.length (encL r'.l)->(∀ q,(gpt k.ts i).pv.ownBlock=some q->r'.b≠q)->(w4.setCell ⟨k.bg,i*2+1,none⟩ sv').ownsRow B 5 1 r'.val r'.l.length (encL r'.l):=fun r' ho hn=>hbu.own ho (fun q hq e=>by
  have hq':r'.b=q:=by simpa [Row.val,Value.ownBlock] using hq
  rcases e with e|e|e
  ·exact own_ne ho hq h.row (by decide) e
  ·exact hn q e hq'
  ·exact own2_ne ho (h.syms i hi) (by decide) q hq e)
 refine⟨?_,hbu.wide (fun b _ q=>?_)⟩
 ·refine h.setPart hi ⟨(gpt k.ts i).ps++[x],pv',(gpt k.ts i).rs++[r],sv'⟩ hbu ?_ ?_ ?_ (fun r' hr'=>?_) (fun q hq=>?_) (fun q hq=>?_) (fun r' hr'=>?_)
  ·rw[hr5,List.setIfInBounds_toArray,List.setIfInBounds_toArray,Nat.mul_comm i 2,flat2_set0 _ _ _ _ (ptVals_get hi),flat2_set1 _ _ _ (pv',(gpt k.ts i).sv) (by rw[List.getElem?_set,if_pos rfl,if_pos (by simpa [ptVals] using hi)]),ptVals_set,List.set_set]
  ·have e:encL ((gpt k.ts i).ps++[x])=encL (gpt k.ts i).ps++[.int .u8 (x.toNat:Int)]:=by simp[encL]
   show World.ownsRow _ B _ 1 pv' ((gpt k.ts i).ps++[x]).length (encL ((gpt k.ts i).ps++[x]));rw[e,List.length_append];exact hb5.own hown4 (fun q hq e=>own_ne hown4 hq hr4 (by decide) e)
  ·show World.ownsRow _ B _ 1 sv' ((gpt k.ts i).rs++[r]).length (((gpt k.ts i).rs++[r]).map Row.val)
   rw[List.length_append,List.map_append];exact hb5.own hown' (fun q hq e=>own_ne hown' hq hr4 (by decide) e)
  ·rcases List.mem_append.1 hr' with q|q
   ·exact⟨(h.bytes i hi r' q).1,hkeep r' (h.bytes i hi r' q).2 (fun g' hg''=>h.apartR i i hi hi g' hg'' r' q)⟩
   ·rw[List.mem_singleton.1 q]
    exact⟨hr.1,hkeep r hr.2 (fun g' hg''=>hrn i hi g' hg'')⟩
  ·rw[hpo q hq]
   rcases hlie with e|e
   ·exact .inl e
   ·exact .inr (by omega)
  ·rw[hso q hq]
   exact hlie'
  ·rcases List.mem_append.1 hr' with q|q
   ·exact⟨((h.bytes i hi r' q).2.lt r'.b (r'.own.2 trivial)).2,fun j hj g' hg''=>h.apartR j i hj hi g' hg'' r' q⟩
   ·rw[List.mem_singleton.1 q]
    exact⟨(hr.2.lt r.b (r.own.2 trivial)).2,fun j hj g' hg''=>hrn j hj g' hg''⟩
 ·rcases q with q|q|q
  ·exact .inr (.inl q)
  ·exact .inr (.inr ⟨i,hi,.inl q⟩)
  ·exact .inr (.inr ⟨i,hi,.inr (.inl q)⟩)
def AddGives(k:Kn)(i:Nat)(x:Gf.F)(r:Row)(B kb:Nat)(w:World)(e:Ending)(w':World):Prop:=
 e=.returned (.tuple #[])/\((¬ k.use i x/\Below w.heap.size w w')∨
  (k.use i x/\∃ pv sv,KAt w' B kb (k.add i x r pv sv)/\But (k.foot kb) w w'/\∀ b,(k.add i x r pv sv).foot kb b->k.foot kb b∨w.heap.size<=b∨b=r.b))
theorem gadd_any{w:World}{B kb i:Nat}{k:Kn}{x:Gf.F}{r:Row}(h:KAt w B kb k)(hB:B<=w.heap.size)(ok:k.Ok)(hi:i<k.ts.length)(hr:B<=r.b/\w.ownsRow B 5 1 r.val r.l.length (encL r.l))(hrn:∀ j,j<k.ts.length->∀ q,(gpt k.ts j).pv.ownBlock=some q->r.b≠q):
 Calls Tryz.prog 46 #[.pointer (some ⟨kb,0,none⟩),.int .i64 i,.int .i64 (x.toNat:Int),r.val] w (AddGives k i x r B kb w):=by
 obtain⟨_,_,_,_,_,c5⟩:=h.cells;obtain⟨k1,k8,kn,n16,s1,s8⟩:=ok.cfg;have hTr:=symN_range (S:=k.S) (len:=k.len) s1;have hTe:k.T=symN k.S k.len:=rfl;have hlen:=ok.len;have hQl:=partsN_le (a:=k.T) k1;have hbl:=ok.blocks;have hfew:=ok.few i hi;have hsame:=ok.same i hi;have hsr:srcN k.K k.T i<=8:=by unfold srcN;omega
 have HLK:Hid (Calls Tryz.prog 64 #[.pointer (some ⟨kb,0,none⟩),.int .i64 i] w fun e w'=>e=.returned (.int .i64 (k.lk i:Int))/\Below w.heap.size w w'):=glack_any h ok hi;have hl8:k.lk i<=8:=by unfold Kn.lk;omega
 have hrl:(gpt k.ts i).rs.length<=8:=by omega
 have hpl:(gpt k.ts i).ps.length<=8:=by omega
 obtain⟨pa,pc,hpv,_⟩:=own_form2 (h.places i hi);obtain⟨sa,sc,hsv,_⟩:=own_form2 (h.syms i hi);have HPV:Hid ((gpt k.ts i).pv=.slice pa (gpt k.ts i).ps.length pc):=hpv;have HSV:Hid ((gpt k.ts i).sv=.slice sa (gpt k.ts i).rs.length sc):=hsv;obtain⟨m,hm⟩:∃ y,y=k.ts.length:=⟨_,rfl⟩;rw[<- hm]at c5;have hlt1:(0:Int)<=(i:Int):=by omega
 have hlt2:(i:Int)<(m:Int):=by omega
 have hm2:m<=1000:=by omega
 have HCT:Hid (∀ W,Below w.heap.size w W->Calls Tryz.prog 76 #[.slice pa (gpt k.ts i).ps.length pc,.int .u8 (x.toNat:Int)] W fun e w'=>e=.returned (.bool (decide (x ∈(gpt k.ts i).ps)))/\Below W.heap.size W w'):=fun W hW=>by
  have:=(h.above hW).places i hi;rw[HPV.out]at this;exact scontains_any this rfl (by omega)
 have HUSE:Hid (k.use i x↔0<k.lk i/\¬ x ∈(gpt k.ts i).ps):=Iff.rfl;have hxl:x.toNat<256:=x.isLt;have hcx:(x.toNat:Int)%256=(x.toNat:Int):=by omega
 obtain⟨iU,hiU,hiU0,hiU1,hiU2⟩:=Tryz.u8_parts;obtain⟨iB,hiB,hiB0,hiB1,hiB2⟩:=Tryz.bytes_parts
 have HP1:Hid (∀ W,Below w.heap.size w W->W.cell? ⟨k.bg,i*2,none⟩=some (.slice pa (gpt k.ts i).ps.length pc)/\W.frozen? ⟨k.bg,i*2,none⟩=false):=fun W hW=>by
  have hK:=h.above hW;exact⟨by rw[(hK.part hi).1,HPV.out],frozen_of_row W _ _ _ _ hK.row⟩
 have HK:Hid (KAt w B kb k):=h;clear hpv hsv hbl hQl hTe hTr hsr h hsame;generalize hd:k.lk i=d at *;have HD:Hid (k.lk i=d):=hd;clear hd;have HV:Hid (r.val=.slice (some ⟨r.b,r.o,none⟩) r.l.length r.c):=rfl;rw[HV.out];clear hm;go_enter Tryz.func46,Tryz.ntmps46;go_wp2_with fail;refine HLK.out.mono ?_;rintro e w1 ⟨rfl,hb1⟩;clear c5 HLK;by_cases h0:d=0
 ·subst h0
  go_wp2_with fail;exact bodyPost_ret (v:=.tuple #[]) (by simp[results,Tryz.results46,go_sem]) rfl ⟨rfl,.inl ⟨fun hu=>by have:=hu.1;rw[HD.out]at this;omega,hb1⟩⟩
 ·have h01:¬(d:Int)=0:=by omega
  obtain⟨p1,fz1⟩:=HP1.out w1 hb1;go_wp2_with fail;refine(HCT.out w1 hb1).mono ?_;rintro e w2 ⟨rfl,hb2⟩;have hb12:Below w.heap.size w w2:=hb1.trans (hb2.mono hb1.size);clear p1 fz1;by_cases hin:x ∈(gpt k.ts i).ps
  ·rw[decide_eq_true hin]
   go_wp2_with fail;exact bodyPost_ret (v:=.tuple #[]) (by simp[results,Tryz.results46,go_sem]) rfl ⟨rfl,.inl ⟨fun hu=>hu.2 hin,hb12⟩⟩
  ·rw[decide_eq_false hin]
   obtain⟨p1,fz1⟩:=HP1.out w2 hb12;have hK2:=HK.out.above hb12;have hs2:=hb12.size
   have HOW:Hid (∀ ob:Obj,(w2.alloc ob).ownsRow B 5 1 (.slice pa (gpt k.ts i).ps.length pc) (gpt k.ts i).ps.length (encL (gpt k.ts i).ps)):=fun ob=>by
    have:=hK2.places i hi;rw[HPV.out]at this;exact this.alloc ob
   have HMX:Hid ((gpt k.ts i).ps.length+1<=maxLen):=by show _<=_;unfold maxLen;omega
   have HMY:Hid ((gpt k.ts i).rs.length+1<=maxLen):=by show _<=_;unfold maxLen;omega
   have HK3:Hid (∀ ob w3,(w2.alloc ob).grownBy w3 (Value.slice pa (gpt k.ts i).ps.length pc).ownBlock->w3.cell? ⟨k.bg,i*2,none⟩=some (.slice pa (gpt k.ts i).ps.length pc)/\w3.frozen? ⟨k.bg,i*2,none⟩=false/\w3.heap[k.bg]?=w2.heap[k.bg]?/\w2.heap.size+1<=w3.heap.size/\w3.ownsRow B 33 1 (.slice sa (gpt k.ts i).rs.length sc) (gpt k.ts i).rs.length ((gpt k.ts i).rs.map Row.val)):=fun ob w3 hg=>by
    have hlr:=lt_of_block hK2.row;have hk:w3.heap[k.bg]?=w2.heap[k.bg]?:=(grown_block hg (by simp;omega) (fun q=>by rw[<- HPV.out]at q;exact own_ne (hK2.places i hi) q hK2.row (by decide) rfl)).trans (Below.heap_alloc w2 ob _ hlr);have hblk:=hk.trans hK2.row;have hsz:(w2.alloc ob).heap.size<=w3.heap.size:=hg.size;have hss:w3.ownsRow B 33 1 (gpt k.ts i).sv (gpt k.ts i).rs.length ((gpt k.ts i).rs.map Row.val):=own_of_block (hK2.syms i hi) (fun q hq=>(grown_block hg (by have:=((hK2.syms i hi).lt q hq).2;simp;omega) (fun q'=>by rw[<- HPV.out]at q';exact own2_ne (hK2.syms i hi) (hK2.places i hi) (by decide) q hq q')).trans (Below.heap_alloc w2 ob q ((hK2.syms i hi).lt q hq).2));rw[HSV.out]at hss;refine⟨?_,frozen_of_row w3 _ _ _ _ hblk,hk,by simpa using hsz,hss⟩;rw[cell_of_row w3 _ _ _ _ _ hblk,<- cell_of_row w2 _ _ _ _ _ hK2.row];exact p1
   go_wp2_with (at_builtin;refine wpList_append_lies _ rfl _ _ _ rfl B 5 iU (.int .u8 0) 1 1 Tryz.underlying33 hiU hiU0 hiU1 hiU2 rfl (by omega) (.slice pa (gpt k.ts i).ps.length pc) (gpt k.ts i).ps.length (encL (gpt k.ts i).ps) rfl (HOW.out _) ⟨w2.heap.size,0,none⟩ 1 1 [.int .u8 (x.toNat:Int)] rfl rfl (cell_one_at w2 _ _ _ rfl) (fun u hu=>by simp at hu;subst hu;rfl) (by omega) HMX.out (by omega) (by simp;omega) (w2.heap.size+1) (by simp) ?_);intro g3 gc3 w3 hown3 hgr3 hlie3 hlt3;obtain⟨k3,f3,hbk3,hsz3,hss3⟩:=HK3.out _ _ hgr3;go_upto_region 3 with fail;have hr3:=hbk3.trans hK2.row;have hr4:=heap_setCell_same w3 k.bg (i*2) _ _ (.slice (some ⟨g3,0,none⟩) ((gpt k.ts i).ps.length+1) gc3) hr3;have hb34:=But.setCell (S:=fun b=>b=k.bg) (But.refl _ w3) (p:=⟨k.bg,i*2,none⟩) (.inl rfl) (.slice (some ⟨g3,0,none⟩) ((gpt k.ts i).ps.length+1) gc3);have hs4:=hb34.size
   have t1:(w3.setCell ⟨k.bg,i*2,none⟩ (.slice (some ⟨g3,0,none⟩) ((gpt k.ts i).ps.length+1) gc3)).cell? ⟨k.bg,i*2+1,none⟩=some (.slice sa (gpt k.ts i).rs.length sc):=by
    rw[cell_of_row _ _ _ _ _ _ hr4,Array.getElem?_setIfInBounds_ne (by omega),<- cell_of_row w2 _ _ _ _ _ hK2.row,(hK2.part hi).2,HSV.out]
   have hss4:=hb34.own hss3 (fun q hq e=>own_ne hss3 hq hr3 (by decide) e)
   have HFIN:Hid (∀(w4:World) (ob':Obj) (s4 sc4:Nat),((w3.setCell ⟨k.bg,i*2,none⟩ (.slice (some ⟨g3,0,none⟩) ((gpt k.ts i).ps.length+1) gc3)).alloc ob').grownBy w4 (Value.slice sa (gpt k.ts i).rs.length sc).ownBlock->w4.ownsRow B 33 1 (.slice (some ⟨s4,0,none⟩) ((gpt k.ts i).rs.length+1) sc4) ((gpt k.ts i).rs.length+1) ((gpt k.ts i).rs.map Row.val++[.slice (some ⟨r.b,r.o,none⟩) r.l.length r.c])->((Value.slice sa (gpt k.ts i).rs.length sc).ownBlock=some s4∨w2.heap.size<=s4)->
    AddGives k i x r B kb w (.returned (.tuple #[])) (w4.setCell ⟨k.bg,i*2+1,none⟩ (.slice (some ⟨s4,0,none⟩) ((gpt k.ts i).rs.length+1) sc4))):=fun w4 ob' s4 sc4 q1 q2 q3=>by
    have hr2:B<=r.b/\w2.ownsRow B 5 1 r.val r.l.length (encL r.l):=⟨hr.1,own_of_block hr.2 (fun q hq=>hb12.block q (hr.2.lt q hq).2)⟩;obtain⟨m1,m2⟩:=hK2.add (x:=x) hi hr2 hrn (by rw[HPV.out];exact hgr3) hown3 (by rw[HPV.out];exact hlie3) (by rw[HSV.out];exact q1) q2 (by rw[HSV.out];exact q3);refine⟨rfl,.inr ⟨HUSE.out.2 ⟨by omega,hin⟩,_,_,m1,(Below.but hb12 (k.foot kb) (fun _ h1 h2=>absurd h1 h2)).trans m2,fun b hb'=>?_⟩⟩;rcases hb' with e|e|⟨j,hj,e⟩
    ·exact .inl (.inl e)
    ·exact .inl (.inr (.inl e))
    ·have hj':j<k.ts.length:=by have:=k.setT_len i ⟨(gpt k.ts i).ps++[x],.slice (some ⟨g3,0,none⟩) ((gpt k.ts i).ps.length+1) gc3,(gpt k.ts i).rs++[r],.slice (some ⟨s4,0,none⟩) ((gpt k.ts i).rs.length+1) sc4⟩;rw[<- this];exact hj
     have e':(gpt (k.setT i ⟨(gpt k.ts i).ps++[x],.slice (some ⟨g3,0,none⟩) ((gpt k.ts i).ps.length+1) gc3,(gpt k.ts i).rs++[r],.slice (some ⟨s4,0,none⟩) ((gpt k.ts i).rs.length+1) sc4⟩).ts j).pv.ownBlock=some b∨(gpt (k.setT i ⟨(gpt k.ts i).ps++[x],.slice (some ⟨g3,0,none⟩) ((gpt k.ts i).ps.length+1) gc3,(gpt k.ts i).rs++[r],.slice (some ⟨s4,0,none⟩) ((gpt k.ts i).rs.length+1) sc4⟩).ts j).sv.ownBlock=some b∨∃ r' ∈(gpt (k.setT i ⟨(gpt k.ts i).ps++[x],.slice (some ⟨g3,0,none⟩) ((gpt k.ts i).ps.length+1) gc3,(gpt k.ts i).rs++[r],.slice (some ⟨s4,0,none⟩) ((gpt k.ts i).rs.length+1) sc4⟩).ts j).rs,r'.b=b:=e;rw[k.setT_at hi]at e';split at e'
     ·rename_i ej;subst ej
      rcases e' with e'|e'|⟨r',hr',rfl⟩
      ·have eb:g3=b:=by simpa [Value.ownBlock] using e'
       subst eb;rcases hlie3 with q|q
       ·exact .inl (.inr (.inr ⟨i,hi,.inl (by rw[HPV.out];exact q)⟩))
       ·exact .inr (.inl (by omega))
      ·have eb:s4=b:=by simpa [Value.ownBlock] using e'
       subst eb;rcases q3 with q|q
       ·exact .inl (.inr (.inr ⟨i,hi,.inr (.inl (by rw[HSV.out];exact q))⟩))
       ·exact .inr (.inl (by omega))
      ·rcases List.mem_append.1 hr' with q|q
       ·exact .inl (.inr (.inr ⟨i,hi,.inr (.inr ⟨r',q,rfl⟩)⟩))
       ·rw[List.mem_singleton.1 q];exact .inr (.inr rfl)
     ·exact .inl (.inr (.inr ⟨j,hj',e'⟩))
   generalize w3.setCell ⟨k.bg,i*2,none⟩ (.slice (some ⟨g3,0,none⟩) ((gpt k.ts i).ps.length+1) gc3)=W4 at *;have hl4:=lt_of_block hr4;have hn4:¬ k.bg=W4.heap.size:=Nat.ne_of_lt hl4
   have HK5:Hid (∀ ob w5,(W4.alloc ob).grownBy w5 (Value.slice sa (gpt k.ts i).rs.length sc).ownBlock->w5.cell? ⟨k.bg,i*2+1,none⟩=some (.slice sa (gpt k.ts i).rs.length sc)/\w5.frozen? ⟨k.bg,i*2+1,none⟩=false):=fun ob w5 hg=>by
    have hk:w5.heap[k.bg]?=W4.heap[k.bg]?:=(grown_block hg (by simp;omega) (fun q=>own_ne hss4 q hr4 (by decide) rfl)).trans (Below.heap_alloc W4 ob _ hl4);have hblk:=hk.trans hr4;refine⟨?_,frozen_of_row w5 _ _ _ _ hblk⟩;rw[cell_of_row w5 _ _ _ _ _ hblk,<- cell_of_row W4 _ _ _ _ _ hr4];exact t1
   have HOS:Hid (∀ ob:Obj,(W4.alloc ob).ownsRow B 33 1 (.slice sa (gpt k.ts i).rs.length sc) (gpt k.ts i).rs.length ((gpt k.ts i).rs.map Row.val)):=fun ob=>hss4.alloc ob
   have hs24:w2.heap.size<=W4.heap.size:=by omega
   clear hr3 hr4 hb34 hss4 hown3 hgr3 hlie3 hlt3 k3 f3 hbk3 hss3 p1 fz1;go_wp2_with (at_builtin;refine wpList_append_lies _ rfl _ _ _ rfl B 33 iB (.slice none 0 0) 1 24 Tryz.underlying40 hiB hiB0 hiB1 hiB2 rfl (by omega) (.slice sa (gpt k.ts i).rs.length sc) (gpt k.ts i).rs.length ((gpt k.ts i).rs.map Row.val) rfl (HOS.out _) ⟨W4.heap.size,0,none⟩ 1 1 [.slice (some ⟨r.b,r.o,none⟩) r.l.length r.c] rfl rfl (cell_one_at W4 _ _ _ rfl) (fun u hu=>by simp at hu;subst hu;rfl) (by omega) HMY.out (by omega) (by simp;omega) (W4.heap.size+1) (by simp) ?_);intro s5 sc5 w5 hown5 hgr5 hlie5 hlt5;obtain⟨k5,f5⟩:=HK5.out _ _ hgr5;have hG:=HFIN.out w5 _ s5 sc5 hgr5 hown5 (hlie5.imp id (fun e=>by omega));clear hown5 hgr5 hlie5 hlt5;go_wp2_with fail
   go_end0
   exact hG
def Kn.sy(k:Kn)(i t:Nat):List Gf.F:=symOf (gpt k.ts i).ps (gpt k.ts i).rs (BitVec.ofNat 8 t) k.S
def Kn.part(k:Kn)(i:Nat):Nat->List Gf.F
 | 0=>[]
 | t+1=>k.part i t++k.sy i t
def Kn.cat(k:Kn):Nat->List Gf.F
 | 0=>[]
 | i+1=>k.cat i++k.part i (srcN k.K k.T i)
theorem Kn.sy_len(k:Kn)(i t:Nat):(k.sy i t).length=k.S:=symOf_length _ _ _ _
theorem Kn.part_len(k:Kn)(i:Nat):∀ t,(k.part i t).length=t*k.S
 | 0=>by simp[Kn.part]
 | t+1=>by rw[Kn.part,List.length_append,k.part_len i t,k.sy_len,Nat.succ_mul]
theorem Kn.cat_len(k:Kn):∀ i,i*k.K<=k.T+k.K->(k.cat i).length=min (i*k.K) k.T*k.S
 | 0,_=>by simp[Kn.cat]
 | i+1,h=>by
  have h':i*k.K<=k.T+k.K:=by rw[Nat.succ_mul]at h;omega
  rw[Kn.cat,List.length_append,k.cat_len i h',k.part_len,<- Nat.add_mul];congr 1;rw[Nat.succ_mul]at h ⊢;unfold srcN;omega
theorem list_cellsK{w:World}{B n:Nat}{e:TypeId}{v:Value}{xs:List Value}(h:w.ownsRow B e 1 v n xs)(h0:0<n):∃ g c,v=.slice (some ⟨g,0,none⟩) n c/\n<=c/\∀(i:Nat) u,xs[i]?=some u->w.cell? ⟨g,i,none⟩=some u:=by
 obtain⟨g,c,hv,hc⟩:∃ g c,v=.slice (some ⟨g,0,none⟩) n c/\n<=c:=by
  rcases h.2 with⟨_,h2⟩|⟨g,cap,cur,h1,_,_,h4,_⟩
  ·omega
  ·exact⟨g,cap,h1,h4⟩
 refine⟨g,c,hv,hc,fun i u hu=>?_⟩;have e:∀ j,(⟨g,0,none⟩:Addr).add j=⟨g,j,none⟩:=fun j=>by unfold Addr.add;split<;>simp_all
 have h0:=h.cells (g:=g) (by rw[hv];rfl) i u hu
 rwa [e]at h0
theorem parts_cover(a:Nat){s:Nat}(hs:1<=s):a<=partsN a s*s:=by
 unfold partsN;have h1:=Nat.div_add_mod (a+s - 1) s;have h2:=Nat.mod_lt (a+s - 1) (show 0<s by omega);rw[Nat.mul_comm]at h1;omega
def Kn.whole(k:Kn):Prop:=∀ i,i<k.ts.length->(gpt k.ts i).rs.length=srcN k.K k.T i
theorem KAt.rows{w:World}{B kb i:Nat}{k:Kn}(h:KAt w B kb k)(ok:k.Ok)(hi:i<k.ts.length)(h0:0<(gpt k.ts i).rs.length):
 ∃ pg pc sg sc,(gpt k.ts i).pv=.slice (some ⟨pg,0,none⟩) (gpt k.ts i).rs.length pc/\(gpt k.ts i).sv=.slice (some ⟨sg,0,none⟩) (gpt k.ts i).rs.length sc/\Bs w pg 0 (gpt k.ts i).ps/\Rs w sg 0 (gpt k.ts i).rs/\(∀ t,t<(gpt k.ts i).rs.length->(rat (gpt k.ts i).rs t).l.length=k.S)/\∀ t,t<(gpt k.ts i).rs.length->(rat (gpt k.ts i).rs t).b<w.heap.size:=by
 have hsm:=ok.same i hi;have hpl:=h.places i hi;obtain⟨pg,pc,hpv,_,_⟩:=hpl.form (by omega);obtain⟨sg,sc,hsv,_,hsc⟩:=list_cellsK (h.syms i hi) h0;rw[hsm]at hpv
 have hmem:∀ t,t<(gpt k.ts i).rs.length->rat (gpt k.ts i).rs t ∈(gpt k.ts i).rs:=fun t ht=>by
  have:rat (gpt k.ts i).rs t=(gpt k.ts i).rs[t]:=by simp[rat,List.getD,ht]
  rw[this];exact List.getElem_mem ht
 refine⟨pg,pc,sg,sc,hpv,hsv,?_,fun t ht=>⟨?_,?_⟩,fun t ht=>(ok.size i hi _ (hmem t ht)).1,fun t ht=>?_⟩
 ·have hp2:=hpl
  rw[hpv,<- hsm]at hp2;exact own_bs hp2 rfl
 ·rw[Nat.zero_add]
  refine hsc t _ ?_;rw[List.getElem?_map];have:(gpt k.ts i).rs[t]?=some (rat (gpt k.ts i).rs t):=by simp[rat,List.getD,ht]
  rw[this];rfl
 ·obtain⟨_,hb⟩:=h.bytes i hi _ (hmem t ht)
  have ho:=(ok.size i hi _ (hmem t ht)).2;unfold Row.val at hb;rw[ho]at hb ⊢;exact own_bs hb rfl
 ·obtain⟨_,hb⟩:=h.bytes i hi _ (hmem t ht)
  exact(hb.lt _ ((rat (gpt k.ts i).rs t).own.2 trivial)).2
theorem gbytes_any{w:World}{B kb:Nat}{k:Kn}(h:KAt w B kb k)(ok:k.Ok)(hw:k.whole):
 Calls Tryz.prog 49 #[.pointer (some ⟨kb,0,none⟩)] w fun e w'=>
  ∃ g cs,e=.returned (.slice (some ⟨g,0,none⟩) k.len k.len)/\w.heap.size<=g/\w'.heap[g]?=some (.cells cs 5 (0,0))/\Bs w' g 0 ((k.cat k.ts.length).take k.len)/\Below w.heap.size w w':=by
 obtain⟨c0,_,_,_,_,c5⟩:=h.cells;obtain⟨k1,k8,kn,n16,s1,s8⟩:=ok.cfg;have hTr:=symN_range (S:=k.S) (len:=k.len) s1;have hTe:k.T=symN k.S k.len:=rfl;have hlen:=ok.len;have hQl:=partsN_le (a:=k.T) k1;have hbl:=ok.blocks;obtain⟨Q,hQ⟩:∃ x,x=k.ts.length:=⟨_,rfl⟩;have hQ2:Q<=300:=by omega
 rw[<- hQ]at c5 ⊢
 have HSR:Hid (∀ i,i<Q->1<=srcN k.K k.T i/\srcN k.K k.T i<=8):=fun i hi=>by
  have:i*k.K<k.T:=partsN_mul k1 (by omega);unfold srcN;omega
 have HLEN:Hid (∀ i,i<=Q->(k.cat i).length<=3000):=fun i hi=>by
  have h1:i*k.K<=k.T+k.K:=by
   by_cases e:i=0
   ·subst e;omega
   ·obtain⟨j,rfl⟩:∃ j,i=j+1:=⟨i - 1,by omega⟩
    have:=partsN_mul k1 (show j<partsN k.T k.K by omega);rw[Nat.succ_mul];omega
  rw[k.cat_len i h1];have h2:min (i*k.K) k.T<=256:=by omega
  exact Nat.le_trans (Nat.mul_le_mul h2 s8) (by omega)
 have HCOV:Hid (k.len<=(k.cat Q).length/\1<=(k.cat Q).length):=by
  show _/\_;have h1:=parts_cover k.T k1;have h2:=parts_cover k.len s1;have h3:partsN k.len k.S<=k.T:=by rw[hTe];unfold symN;omega
  have h4:Q*k.K<=k.T+k.K:=by
   obtain⟨j,hj⟩:∃ j,Q=j+1:=⟨Q - 1,by
    have:1<=partsN k.T k.K:=by
     by_cases e:partsN k.T k.K=0
     ·rw[e]at h1;omega
     ·omega
    omega⟩
   have:=partsN_mul k1 (show j<partsN k.T k.K by omega);rw[hj,Nat.succ_mul];omega
  have h5:k.T<=Q*k.K:=by rw[hQ,hbl];exact h1
  rw[k.cat_len Q h4,Nat.min_eq_right h5];have h6:k.len<=k.T*k.S:=Nat.le_trans h2 (Nat.mul_le_mul_right _ h3);have h7:1*1<=k.T*k.S:=Nat.mul_le_mul (by omega) s1;exact⟨h6,by omega⟩
 have HK:Hid (KAt w B kb k):=h;have HOK:Hid k.Ok:=ok;have HWH:Hid (∀ i,i<Q->(gpt k.ts i).rs.length=srcN k.K k.T i):=fun i hi=>hw i (by omega)
 have HQ:Hid (Q=k.ts.length):=hQ;obtain⟨iU,hiU,hiU0,hiU1,hiU2⟩:=Tryz.u8_parts;clear h ok hw hQ hbl hQl hTe hTr;go_enter Tryz.func49,Tryz.ntmps49;go_wp2_with fail;clear c0 c5
 go_loopw[3,5,7,13] (fun v _ _ t wr=>∃ i:Nat,i<=Q/\t=.int .i64 i/\wr.ownsRow w.heap.size 5 1 v (k.cat i).length (encL (k.cat i))/\Below w.heap.size w wr) (fun _ _ _ t _=>Q - (intOf t).toNat)
 case atStart=>exact⟨0,by omega,rfl,World.ownsRow_nil ..,Below.refl _ _⟩
 case round=>
  obtain⟨i,hi,rfl,hown,hbr⟩:=hrel;have hKr:=HK.out.above hbr;have hcl:=HLEN.out i hi;by_cases hlt:i<Q
  ·have hlt1:(i:Int)<(Q:Int):=by omega
   have hlt0:(0:Int)<=(i:Int):=by omega
   obtain⟨hn1,hn8⟩:=HSR.out i hlt;have hiq:i<k.ts.length:=by rw[<- HQ.out];exact hlt
   have hwh:=HWH.out i hlt;obtain⟨n,hn⟩:∃ x,x=srcN k.K k.T i:=⟨_,rfl⟩;rw[<- hn]at hn1 hn8 hwh;obtain⟨pg,pc,sg,sc,hpv,hsv,_⟩:=hKr.rows HOK.out hiq (by omega);obtain⟨t0,t1⟩:=hKr.part hiq;rw[hpv,hwh]at t0;rw[hsv,hwh]at t1
   have HSRC:Hid (∀ W,Below wr.heap.size wr W->Calls Tryz.prog 77 #[.slice (some ⟨pg,0,none⟩) n pc,.slice (some ⟨sg,0,none⟩) n sc] W fun e w'=>e=.returned (.slice (some ⟨W.heap.size,0,none⟩) n n)/\w'.heap[W.heap.size]?=some (.cells (srcCells (W.heap.size+1) k.S n n) 33 (0,0))/\(∀ t,t<n->Blk w' (W.heap.size+1+t) (k.sy i t))/\w'.heap.size=W.heap.size+1+n/\Below W.heap.size W w'):=fun W hW=>by
    obtain⟨pg',pc',sg',sc',hpv',hsv',hP,hR,hl1,hl2⟩:=(hKr.above hW).rows HOK.out hiq (by omega);rw[hpv]at hpv';rw[hsv]at hsv';simp only[Value.slice.injEq,Option.some.injEq,Addr.mk.injEq]at hpv' hsv';obtain⟨⟨rfl,_⟩,_,rfl⟩:=hpv';obtain⟨⟨rfl,_⟩,_,rfl⟩:=hsv';have:=source_any pg 0 pc sg 0 sc k.S n (gpt k.ts i).ps (gpt k.ts i).rs W (by rw[HOK.out.same i hiq];exact hwh) hwh (by omega) hn8 (by omega) hP hR hl1 hl2;exact this
   have HCAT:Hid (k.cat (i+1)=k.cat i++k.part i n):=by show _=_;rw[hn];rfl
   have HPL:Hid (∀ t,(k.part i t).length=t*k.S):=k.part_len i;clear hpv hsv hn;obtain⟨wA,hwA⟩:∃ x,x=wr:=⟨wr,rfl⟩;subst hwA;obtain⟨v0,hv0⟩:∃ x,x=u3:=⟨u3,rfl⟩;subst hv0;have hn0:¬ k.bg=wA.heap.size:=Nat.ne_of_lt (lt_of_cell t0);go_upto_region 5 with fail;have hX4:=heap_alloc_new wA (.cells #[.slice (some ⟨pg,0,none⟩) n pc,.slice (some ⟨sg,0,none⟩) n sc] 174);have hb4:Below wA.heap.size wA (wA.alloc (.cells #[.slice (some ⟨pg,0,none⟩) n pc,.slice (some ⟨sg,0,none⟩) n sc] 174)):=(Below.refl _ _).alloc (Nat.le_refl _) _;generalize wA.alloc (.cells #[.slice (some ⟨pg,0,none⟩) n pc,.slice (some ⟨sg,0,none⟩) n sc] 174)=W4 at *;obtain⟨pb,hpb⟩:∃ x,x=wA.heap.size:=⟨_,rfl⟩;rw[<- hpb]at hX4 ⊢;have x0:W4.cell? ⟨pb,0,none⟩=some (.slice (some ⟨pg,0,none⟩) n pc):=cell_of_row W4 _ 0 _ _ _ hX4;have x1:W4.cell? ⟨pb,1,none⟩=some (.slice (some ⟨sg,0,none⟩) n sc):=cell_of_row W4 _ 1 _ _ _ hX4;clear t0 t1 hn0 hX4 hpb;go_wp2_with fail;refine(HSRC.out W4 hb4).mono ?_;rintro e w5 ⟨rfl,hR5,hB5,hs5,hb5⟩;have hown5:w5.ownsRow w.heap.size 5 1 v0 (k.cat i).length (encL (k.cat i)):=own_of_block hown (fun q hq=>(hb5.block q (Nat.lt_of_lt_of_le (hown.lt q hq).2 hb4.size)).trans (hb4.block q (hown.lt q hq).2));have hbw5:Below w.heap.size w w5:=(hbr.trans (hb4.mono hbr.size)).trans (hb5.mono (Nat.le_trans hbr.size hb4.size));have HV0:Hid (∀ b,v0.ownBlock=some b->b<W4.heap.size):=fun b hb'=>Nat.lt_of_lt_of_le (hown.lt b hb').2 hb4.size
   have HV1:Hid (∀ b,v0.ownBlock=some b->w.heap.size<=b):=fun b hb'=>(hown.lt b hb').1
   obtain⟨RB,hRB⟩:∃ x,x=W4.heap.size:=⟨_,rfl⟩;rw[<- hRB]at hR5 hB5 hs5 HV0 ⊢;have HRW:Hid (w5.heap[RB]?=some (.cells (srcCells (RB+1) k.S n n) 33 (0,0))/\∀ t,t<n->Blk w5 (RB+1+t) (k.sy i t)):=⟨hR5,hB5⟩;have HS5:Hid (w5.heap.size=RB+1+n):=hs5;have HBW:Hid (Below w.heap.size w w5):=hbw5;have HCL:Hid ((k.cat i).length<=3000):=hcl;clear x0 x1 hb5 hb4 HSRC hRB hR5 hB5 hs5 hown hbr hKr hbw5 hcl;go_wp2_with fail
   go_loopw[3,7,23] (fun v _ t wq=>∃ j:Nat,j<=n/\t=.int .i64 j/\wq.ownsRow w.heap.size 5 1 v (k.cat i++k.part i j).length (encL (k.cat i++k.part i j))/\But (fun b=>v0.ownBlock=some b) w5 wq/\Hid (∀ b,v.ownBlock=some b->v0.ownBlock=some b∨w5.heap.size<=b)) (fun _ _ t _=>n - (intOf t).toNat)
   case atStart=>exact⟨0,by omega,rfl,by simp only[Kn.part,List.append_nil];exact hown5,But.refl _ _,fun b hb'=>.inl hb'⟩
   case round=>
    clear hown5;obtain⟨j,hj,rfl,hown,hBu,hvb⟩:=hrel;have HSUB:Hid (But (fun b=>v0.ownBlock=some b) w5 wr):=hBu;have hszq:=hBu.size;have hszw:=HBW.out.size;by_cases hjn:j<n
    ·have hjn1:(j:Int)<(n:Int):=by omega
     have hjn0:(0:Int)<=(j:Int):=by omega
     have hs5':=HS5.out;have hrow:wr.heap[RB]?=some (.cells (srcCells (RB+1) k.S n n) 33 (0,0)):=(hBu.block RB (by omega) (fun q=>by have:=HV0.out RB q;omega)).trans HRW.out.1;have c0:wr.cell? ⟨RB,j,none⟩=some (.slice (some ⟨RB+1+j,0,none⟩) k.S k.S):=by rw[cell_of_row wr _ _ _ _ _ hrow,srcCells_at _ _ _ _ _ hjn hjn]
     have hblk:Blk wr (RB+1+j) (k.sy i j):=(HRW.out.2 j hjn).kept (hBu.block _ (by omega) (fun q=>by have:=HV0.out _ q;omega));have HC:Hid (∀ q u,(encL (k.sy i j))[q]?=some u->wr.cell? ((⟨RB+1+j,0,none⟩:Addr).add q)=some u):=hblk.bs.cells;have HD1:Hid ((encL (k.sy i j)).length=k.S*1):=by show _=_;simp[encL,k.sy_len]
     have HXL:Hid ((k.cat i++k.part i j).length+k.S<=4000):=by
      show _<=_;rw[List.length_append,HPL.out];have h1:j*k.S<=8*8:=Nat.mul_le_mul (by omega) s8;have:=HCL.out;omega
     have HNX:Hid (k.cat i++k.part i (j+1)=(k.cat i++k.part i j)++k.sy i j):=by show _=_;rw[Kn.part,List.append_assoc]
     obtain⟨X,hX⟩:∃ x,x=k.cat i++k.part i j:=⟨_,rfl⟩;rw[<- hX]at hown HXL HNX;clear hX hblk hrow;have hxl:=HXL.out;have HMX:Hid (X.length+k.S<=maxLen):=by show _<=_;unfold maxLen;omega
     have hone:=encL_one (k.sy i j);obtain⟨xa,xc,hxv,_⟩:=own_form2 hown;obtain rfl:=hxv;go_wp2_with (at_builtin;refine wpList_append_lies _ rfl _ _ _ rfl w.heap.size 5 iU (.int .u8 0) 1 1 Tryz.underlying33 hiU hiU0 hiU1 hiU2 rfl (by omega) (.slice xa X.length xc) X.length (encL X) rfl hown ⟨RB+1+j,0,none⟩ k.S k.S (encL (k.sy i j)) rfl HD1.out HC.out hone (by omega) HMX.out (by omega) (by omega) wr.heap.size rfl ?_);intro g6 cap6 w6 hown6 hgr6 hlie6 hlt6;go_wp2_with fail
     go_roundw
     case rel=>
      refine⟨j+1,by omega,by go_num,?_,HSUB.out.grown hgr6 (fun q hq=>hvb.out q hq),fun b hb'=>?_⟩
      ·rw[HNX.out]
       have e:encL (X++k.sy i j)=encL X++encL (k.sy i j):=by simp[encL]
       rw[e,List.length_append,k.sy_len];exact hown6
      ·have hb2:g6=b:=by simpa [Value.ownBlock] using hb'
       subst hb2;rcases hlie6 with q|q
       ·exact hvb.out g6 q
       ·exact .inr (by omega)
     case measure=>simp[intOf];omega
    ·obtain rfl:j=n:=by omega
     have hjn1:¬(j:Int)<(j:Int):=by omega
     go_wp2_with fail
     go_roundw
     case rel=>
      refine⟨i+1,by omega,by go_num,?_,?_⟩
      ·rw[HCAT.out];exact hown
      ·refine HBW.out.trans (hBu.toBelow HBW.out.size (fun q hq e=>?_))
       have:=HV1.out q e;omega
     case measure=>simp[intOf];omega
  ·obtain rfl:i=Q:=by omega
   have hlt1:¬(i:Int)<(i:Int):=by omega
   obtain⟨hc1,hc2⟩:=HCOV.out;obtain⟨c0,_,_,_,_,_⟩:=hKr.cells;obtain⟨g,gc,hv,hgc,hcell⟩:=list_cellsK hown (by omega);have hgl:=(hown.lt g (by rw[hv];rfl)).1;obtain⟨cur,hcur⟩:=own_block hown (g:=g) (by rw[hv];rfl)
   have HBS:Hid (Bs wr g 0 ((k.cat i).take k.len)):=fun t ht=>by
    have ht':t<k.len:=by simp at ht;omega
    have hb:=own_bs (by rw[hv]at hown;exact hown) rfl t (by omega);rw[hb];congr 3;simp[at_,List.getD,ht']
   obtain⟨X,hX⟩:∃ x,x=(k.cat i).length:=⟨_,rfl⟩;rw[<- hX]at hv hgc hc1 hc2 hcl;clear hX hown hcell;obtain rfl:=hv;have hm1:(k.len:Int)<=(gc:Int):=by omega
   have hm0:(0:Int)<=(k.len:Int):=by omega
   go_wp2_with fail
   go_quiet (fail)
   go_wp2_with fail;go_ret;have hbd:Below wr.heap.size wr (wr.drewN nq):=below_drew rfl;exact⟨g,cur,rfl,hgl,(hbd.block g (lt_of_block hcur)).trans hcur,fun t ht=>by rw[hbd.cell (lt_of_cell (HBS.out t ht))];exact HBS.out t ht,hbr.trans (hbd.mono hbr.size)⟩
end Go.Proofs.YtjabhnhejbhgjaaGreatDoor
