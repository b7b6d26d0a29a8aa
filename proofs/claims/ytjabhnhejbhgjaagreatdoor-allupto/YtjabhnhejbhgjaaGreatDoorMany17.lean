import Derived.Test.YtjabhnhejbhgjaaGreatDoorHeadWalk
import Derived.Test.YtjabhnhejbhgjaaGreatDoorCutWalks
import Derived.Test.YtjabhnhejbhgjaaGreatDoorMany14
import Derived.Test.YtjabhnhejbhgjaaGreatDoorMany8
import Derived.Test.YtjabhnhejbhgjaaGreatDoorMany12
set_option maxRecDepth 100000
set_option maxHeartbeats 8000000
namespace Go.Proofs.YtjabhnhejbhgjaaGreatDoor
open Go.RowKit
theorem Bs.cells_at{w:World}{b o:Nat}{l:List Gf.F}(h:Bs w b o l):∀ j v,(encL l)[j]?=some v->w.cell? ((⟨b,o,none⟩:Addr).add j)=some v:=by
 intro j v hj;have hl:j<l.length:=by have:=(List.getElem?_eq_some_iff.1 hj).1;simpa [encL] using this
 have e:(⟨b,o,none⟩:Addr).add j=⟨b,o+j,none⟩:=by unfold Addr.add;split<;>simp_all
 rw[e,h j hl];simp[encL,at_,List.getD,hl]at hj ⊢;exact hj
theorem Tryz.someNotNil(b o n c:Nat)(w:World):(binOp BinOp.eql 33 (.slice (some ⟨b,o,none⟩) n c) (.slice none 0 0)).run Tryz.prog w=.ok (.bool false) w:=by kernel_rfl
theorem clone_any(b o n c:Nat)(l:List Gf.F)(w:World)(hl:l.length=n)(hn:1<=n)(hn2:n<=100000)(hB:Bs w b o l):
 Calls Tryz.prog 62 #[.slice (some ⟨b,o,none⟩) n c] w fun e w'=>∃ a c',e=.returned (.slice a n c')/\w'.ownsRow w.heap.size 5 1 (.slice a n c') n (encL l)/\Below w.heap.size w w':=by
 obtain⟨iU,hiU,hiU0,hiU1,hiU2⟩:=Tryz.u8_parts;have hown:(w.alloc (.cells #[] 5)).ownsRow w.heap.size 5 1 (.slice (some ⟨w.heap.size,0,none⟩) 0 0) 0 []:=⟨rfl,.inr ⟨w.heap.size,0,#[],rfl,Nat.le_refl _,heap_alloc_new w _,Nat.le_refl _,by unfold maxLen;omega,rfl,rfl⟩⟩
 have HB:Hid (∀ j v,(encL l)[j]?=some v->(w.alloc (.cells #[] 5)).cell? ((⟨b,o,none⟩:Addr).add j)=some v):=fun j v hj=>by
  have h1:=hB.cells_at j v hj;rw[World.cell?_alloc_lt _ _ _ (lt_of_cell h1)];exact h1
 have HE:Hid (∀ u ∈ encL l,u.oneCell'=true):=encL_one l;have HLE:Hid ((encL l).length=n*1):=by show _=_;simp[encL,hl]
 clear hB;have hnil:=Tryz.someNotNil;go_enter Tryz.func62,Tryz.ntmps62;go_wp2_with (at_builtin;refine wpList_append_apart rfl _ _ _ rfl w.heap.size 5 iU (.int .u8 0) 1 1 Tryz.underlying33 hiU hiU0 hiU1 hiU2 rfl (by omega) (.slice (some ⟨w.heap.size,0,none⟩) 0 0) 0 [] rfl hown ⟨b,o,none⟩ n c (encL l) rfl HLE.out HB.out HE.out (by omega) ?c3 ?c4 ?c5 ?c6 ?_)
 case c3=>unfold maxLen;omega
 case c4=>omega
 case c5=>omega
 case c6=>simp
 intro g6 cap6 w6 hown6 hgr6 hlie6 hlt6;have hb6:Below w.heap.size w w6:=((Below.refl _ w).alloc (Nat.le_refl _) _).grown hgr6 (by simp) (fun t ht=>by simp[Value.ownBlock]at ht;omega);clear hgr6 hlie6 hlt6;go_wp2_with fail;go_ret;exact⟨_,_,rfl,by simpa using hown6,hb6⟩
theorem place_any(pb bb K N S T b p:Nat)(hc:Cfg K N S)(hT:T<=70000)(hb:b*K<T)(w:World)(hp:w.heap[pb]?=some (.cells #[.int .i64 K,.int .i64 N,.int .i64 S,.int .i64 T] 148 (0,0)))(hv:w.cell? ⟨bb,0,none⟩=some (.int .i64 b)):
 Calls Tryz.prog 109 #[.int .i64 p,.pointer (some ⟨pb,0,none⟩),.pointer (some ⟨bb,0,none⟩)] w fun e w'=>e=.returned (.bool (plcN K N T b p))/\Below w.heap.size w w':=by
 have c0:w.cell? ⟨pb,0,none⟩=some (.int .i64 K):=cell_of_row w _ 0 _ _ _ hp;have c1:w.cell? ⟨pb,1,none⟩=some (.int .i64 N):=cell_of_row w _ 1 _ _ _ hp;have c2:w.cell? ⟨pb,2,none⟩=some (.int .i64 S):=cell_of_row w _ 2 _ _ _ hp;have c3:w.cell? ⟨pb,3,none⟩=some (.int .i64 T):=cell_of_row w _ 3 _ _ _ hp;have hP:=fun w=>hasPlace_any K N S T b p hc hT hb w
 clear hp;go_enter Tryz.func109,Tryz.ntmps109;go_wp2_with fail;refine(hP _).mono ?_;rintro e w1 ⟨rfl,hb1⟩;go_wp2_with fail;go_ret;exact⟨rfl,hb1⟩
theorem calls_enters_place(args:Array Value)(w:World):(callFunc 109 args).run Tryz.prog w=.ok (.enter 109 args) w:=enters_of Tryz.func109 (by kernel_rfl) rfl args w
theorem calls_enters_hasBlock(args:Array Value)(w:World):(callFunc 108 args).run Tryz.prog w=.ok (.enter 108 args) w:=enters_of Tryz.func108 (by kernel_rfl) rfl args w
def dataB(K N S T:Nat)(m:List Gf.F):Option (Nat×Nat):=
 if m.length<1 then some (4,m.length) else if winB (bt m 0:Int) 0 ((partsN T K:Int) - 1)=false then some (6,0) else if m.length<2 then some (4,m.length) else if plcN K N T (bt m 0) (bt m 1)=false then some (6,1)
 else if m.length<2+S then some (4,m.length) else if 2+S<m.length then some (7,2+S) else none
def DataGives(A:Nat->Addr)(K N S T rb:Nat)(m:List Gf.F)(w:World)(e:Ending)(w':World):Prop:=
 (match dataB K N S T m with
 | some (c,k)=>∃(x y:Int) (a:Option Addr) (n1 c1:Nat) (v:Value),e=.returned (.tuple #[.int .i64 x,.int .i64 y,.slice a n1 c1,v])/\Wr w w' v (k:Int) (E A c)
 | none=>∃(a:Option Addr) (c1:Nat),e=.returned (.tuple #[.int .i64 (bt m 0:Int),.int .i64 (bt m 1:Int),.slice a S c1,.nilIface])/\w'.ownsRow w.heap.size 5 1 (.slice a S c1) S (encL (m.drop 2)))/\But (fun g=>g=rb) w w'
structure DataSt(w W:World)(K N S T rb:Nat)(v:Value)(k:Nat)(z:Int):Prop where
 but:But (fun g=>g=rb) w W
 plan:W.heap[w.heap.size]?=some (.cells #[.int .i64 K,.int .i64 N,.int .i64 S,.int .i64 T] 148 (0,0))
 res:W.heap[w.heap.size+1]?=some (.cells #[.int .i64 z] 3 (0,0))
 rdr:Rdr W rb v k
 low:rb<w.heap.size
theorem DataSt.start{w:World}{K N S T rb k:Nat}{v:Value}(h:Rdr w rb v k):DataSt w ((w.alloc (.cells #[.int .i64 K,.int .i64 N,.int .i64 S,.int .i64 T] 148)).alloc (.cells #[.int .i64 0] 3)) K N S T rb v k 0:=by
 have hl:=h.lt;refine⟨((But.refl _ w).alloc _).alloc _,?_,?_,h.kept ?_,hl⟩
 ·rw[Below.heap_alloc _ _ _ (by simp)];exact heap_alloc_new w _
 ·have:=heap_alloc_new (w.alloc (.cells #[.int .i64 K,.int .i64 N,.int .i64 S,.int .i64 T] 148)) (.cells #[.int .i64 0] 3)
  rw[World.size_alloc]at this;exact this
 ·rw[Below.heap_alloc _ _ _ (by simp;omega),Below.heap_alloc _ _ _ hl]
theorem DataSt.next{w W W':World}{K N S T rb k k':Nat}{v:Value}{z:Int}(h:DataSt w W K N S T rb v k z)(hb:But (fun g=>g=rb) W W')(hr:Rdr W' rb v k'):DataSt w W' K N S T rb v k' z:=
 ⟨h.but.trans hb,by rw[hb.block _ (lt_of_block h.plan) (by have:=h.low;omega)];exact h.plan,by rw[hb.block _ (lt_of_block h.res) (by have:=h.low;omega)];exact h.res,hr,h.low⟩
theorem DataSt.set{w W:World}{K N S T rb k:Nat}{v:Value}{z:Int}(h:DataSt w W K N S T rb v k z)(y:Int):DataSt w (W.setCell ⟨w.heap.size+1,0,none⟩ (.int .i64 y)) K N S T rb v k y:=
 ⟨h.but.setCell (.inr (by show w.heap.size<=w.heap.size+1;omega)) _,by rw[Below.heap_setCell W ⟨w.heap.size+1,0,none⟩ _ w.heap.size (by show w.heap.size≠w.heap.size+1;omega)];exact h.plan,heap_setCell_same _ _ 0 _ _ _ h.res,h.rdr.kept (Below.heap_setCell W ⟨w.heap.size+1,0,none⟩ _ rb (by have:=h.low;show rb≠w.heap.size+1;omega)),h.low⟩
theorem DataSt.grow{w W W':World}{K N S T rb k:Nat}{v:Value}{z:Int}(h:DataSt w W K N S T rb v k z)(hb:Below W.heap.size W W'):DataSt w W' K N S T rb v k z:=
 h.next (Below.but hb _ (fun _ hi h=>absurd hi h)) (h.rdr.kept (hb.block _ h.rdr.lt))
def padS(S:Nat)(x:List Gf.F):List Gf.F:=x++List.replicate (S - x.length) 0
def symAt(S:Nat)(l:List Gf.F)(i:Nat):List Gf.F:=padS S ((l.drop (i*S)).take S)
theorem symAt_length(S:Nat)(l:List Gf.F)(i:Nat):(symAt S l i).length=S:=by
 simp[symAt,padS];omega
theorem splice_pad(x:List Gf.F)(S:Nat):splice (enc (List.replicate S 0#8)).toList 0 (encL x)=(enc (padS S x)).toList:=by
 have e:(encL x).length=x.length:=by simp[encL]
 have e1:(enc (List.replicate S 0#8)).toList=List.replicate S (Value.int .u8 0):=by simp[enc]
 unfold splice;rw[e,e1,List.drop_replicate,List.take_zero,List.nil_append,Nat.zero_add];simp[encL,enc,padS]
theorem drop_bs{w:World}{b o n S:Nat}{l:List Gf.F}(h:Bs w b o l):Bs w b (o+n) ((l.drop n).take S):=fun i hi=>by
 have hi1:i<S/\n+i<l.length:=by simp at hi;omega
 have h1:=h (n+i) hi1.2;have e:at_ ((l.drop n).take S) i=at_ l (n+i):=by simp[at_,List.getD,hi1.1]
 rw[e,Nat.add_assoc];exact h1
theorem planSym_any(K N S T b o n c i:Nat)(a:Option Addr)(l:List Gf.F)(w:World)(hs1:1<=S)(hs8:S<=8)(hl:l.length=n)(hn:n<=255)(hnc:n<=c)(hc:c<=9223372036854775807)(hi:i*S<n∨n=0/\i=0)(ha:a=some ⟨b,o,none⟩∨a=none/\n=0/\c=0)(hB:Bs w b o l):
 Calls Tryz.prog 134 #[.agg #[.int .i64 K,.int .i64 N,.int .i64 S,.int .i64 T],.slice a n c,.int .i64 i] w fun e w'=>
  e=.returned (.slice (some ⟨w.heap.size+1,0,none⟩) S S)/\Blk w' (w.heap.size+1) (symAt S l i)/\Below w.heap.size w w':=by
 have hmk:=fun W=>run_make_row' (P:=Tryz.prog) 33 5 (.int .u8 0) 1 Tryz.underlying33 Tryz.info_u8 rfl .i64 .i64 S (by omega) (by omega) W
 obtain⟨f,hf⟩:∃ f:Nat,f=i*S:=⟨_,rfl⟩;have hfi:(i:Int)*(S:Int)=(f:Int):=by rw[hf];push_cast;rfl
 have HF:Hid (f=i*S):=hf
 have hi':f<n∨n=0/\f=0:=by
  rcases hi with h|⟨h,rfl⟩
  ·exact .inl (by omega)
  ·exact .inr ⟨h,by rw[hf];simp⟩
 have hil:i<=255:=by
  rcases hi with h|⟨h,rfl⟩
  ·have:i*1<=i*S:=Nat.mul_le_mul_left i hs1
   omega
  ·omega
 clear hf hi;obtain⟨X,hX⟩:∃ X,X=encL ((l.drop f).take S):=⟨_,rfl⟩;have HX:Hid (X=encL ((l.drop f).take S)):=hX;have hxl:X.length=min S (n - f):=by rw[hX];simp[encL];omega
 have HXL:Hid (X.length=min S (n - f)):=hxl
 have HSY:Hid (splice (enc (List.replicate S 0#8)).toList 0 X=(enc (symAt S l i)).toList):=by
  show _=_;rw[hX,splice_pad];unfold symAt;rw[<- HF.out]
 clear hX hxl;have HB:Hid (Bs w b o l):=hB;have HL:Hid (l.length=n):=hl;clear hB hl;go_enter Tryz.func134,Tryz.ntmps134;go_upto_region 3 with fail;have hbW:Below w.heap.size w ((w.alloc (.cells #[.int .i64 K,.int .i64 N,.int .i64 S,.int .i64 T] 148)).alloc (.cells (madeCells #[.int .u8 0] S) 5)):=((Below.refl _ _).alloc (Nat.le_refl _) _).alloc (by simp) _
 have hMD:Blk ((w.alloc (.cells #[.int .i64 K,.int .i64 N,.int .i64 S,.int .i64 T] 148)).alloc (.cells (madeCells #[.int .u8 0] S) 5)) (w.heap.size+1) (List.replicate S 0):=by
  have:=Blk.made (w:=w.alloc (.cells #[.int .i64 K,.int .i64 N,.int .i64 S,.int .i64 T] 148)) S;have e:(w.alloc (.cells #[.int .i64 K,.int .i64 N,.int .i64 S,.int .i64 T] 148)).heap.size=w.heap.size+1:=by simp
  rw[e]at this;exact this
 have hPL:((w.alloc (.cells #[.int .i64 K,.int .i64 N,.int .i64 S,.int .i64 T] 148)).alloc (.cells (madeCells #[.int .u8 0] S) 5)).heap[w.heap.size]?=some (.cells #[.int .i64 K,.int .i64 N,.int .i64 S,.int .i64 T] 148 (0,0)):=(Below.heap_alloc _ _ _ (by simp)).trans (heap_alloc_new w _);generalize (w.alloc (.cells #[.int .i64 K,.int .i64 N,.int .i64 S,.int .i64 T] 148)).alloc (.cells (madeCells #[.int .u8 0] S) 5)=W at *;have hp2:W.cell? ⟨w.heap.size,2,none⟩=some (.int .i64 S):=cell_of_row W _ 2 _ _ _ hPL;have HBW:Hid (Below w.heap.size w W):=hbW;have HMD:Hid (Blk W (w.heap.size+1) (List.replicate S 0)):=hMD;clear hbW hMD hPL hmk
 have key:∀ w2,Hid (w2.heap[w.heap.size+1]?=some (Obj.cells (splice (enc (List.replicate S 0#8)).toList 0 X).toArray 5 (0,0)))->Blk w2 (w.heap.size+1) (symAt S l i):=fun w2 h=>by
  have:=h.out;rw[HSY.out]at this;exact this
 rcases hi' with hfn|⟨rfl,rfl⟩
 ·obtain rfl:a=some ⟨b,o,none⟩:=by rcases ha with h|⟨_,h,_⟩;exact h;omega
  clear ha
  have HRD:Hid (∀ j v,X[j]?=some v->W.cell? ⟨b,o+f+j,none⟩=some v):=fun j v hj=>by
   rw[HX.out]at hj;have:=((drop_bs (n:=f) (S:=S) HB.out).below HBW.out (lt_of_cell (HB.out 0 (by rw[HL.out];omega)))).cells j v hj;have e:(⟨b,o+f,none⟩:Addr).add j=⟨b,o+f+j,none⟩:=by unfold Addr.add;split<;>simp_all
   rw[e]at this;exact this
  by_cases hq:f+S<=n
  ·have hq1:(f:Int)+(S:Int)<=(n:Int):=by omega
   go_wp2_with (refine wpList_copy_splice rfl _ _ _ _ rfl 5 Tryz.underlying33 Tryz.size_u8 (some ⟨w.heap.size+1,0,none⟩) _ S S _ _ rfl rfl (w.heap.size+1) 0 (enc (List.replicate S 0#8)).toList 5 ?g1 X ?g2 ?g3 ?g4 ?g5 w.heap.size w ?g6 (by omega) ?_)
   case g1=>exact HMD.out
   case g2=>rw[HXL.out];show min S (n - f)=min (f+S - f) S;omega
   case g3=>intro _;(first | exact⟨rfl,_,rfl,HRD.out⟩|exact⟨_,rfl,HRD.out⟩|exact HRD.out)
   case g4=>rw[HXL.out];simp[enc];omega
   case g5=>rw[HX.out];exact encL_one _
   case g6=>exact HBW.out
   intro w2 HG2 hB2;have hG2:=key w2 HG2;clear HG2;go_wp2_with fail;go_ret;exact⟨rfl,hG2,hB2⟩
  ·have hq1:¬(f:Int)+(S:Int)<=(n:Int):=by omega
   go_wp2_with (refine wpList_copy_splice rfl _ _ _ _ rfl 5 Tryz.underlying33 Tryz.size_u8 (some ⟨w.heap.size+1,0,none⟩) (some ⟨b,o+f,none⟩) S S (n - f) (c - f) rfl rfl (w.heap.size+1) 0 (enc (List.replicate S 0#8)).toList 5 ?g1 X ?g2 ?g3 ?g4 ?g5 w.heap.size w ?g6 (by omega) ?_)
   case g1=>exact HMD.out
   case g2=>rw[HXL.out];exact Nat.min_comm _ _
   case g3=>intro _;(first | exact⟨rfl,_,rfl,HRD.out⟩|exact⟨_,rfl,HRD.out⟩|exact HRD.out)
   case g4=>rw[HXL.out];simp[enc];omega
   case g5=>rw[HX.out];exact encL_one _
   case g6=>exact HBW.out
   intro w2 HG2 hB2;have hG2:=key w2 HG2;clear HG2;go_wp2_with fail;go_ret;exact⟨rfl,hG2,hB2⟩
 ·have hX0:X.length=0:=by have:=HXL.out;omega
  have hq1:¬(S:Int)<=0:=by omega
  have HX0:Hid (X=[]):=List.length_eq_zero_iff.1 hX0;clear hX0;rcases ha with rfl|⟨rfl,_,rfl⟩
  ·rcases Nat.eq_zero_or_pos c with rfl|hcp
   ·go_wp2_with (refine wpList_copy_splice rfl _ _ _ _ rfl 5 Tryz.underlying33 Tryz.size_u8 (some ⟨w.heap.size+1,0,none⟩) _ S S _ _ rfl rfl (w.heap.size+1) 0 (enc (List.replicate S 0#8)).toList 5 ?g1 X ?g2 ?g3 ?g4 ?g5 w.heap.size w ?g6 (by omega) ?_)
    case g1=>exact HMD.out
    case g2=>first | exact HX0.out|(rw[HX0.out];simp)
    case g3=>rw[HX0.out];simp
    case g4=>rw[HX0.out];simp
    case g5=>rw[HX0.out];simp
    case g6=>exact HBW.out
    intro w2 HG2 hB2;have hG2:=key w2 HG2;clear HG2;go_wp2_with fail;go_ret;exact⟨rfl,hG2,hB2⟩
   ·have hc0:¬ c=0:=by omega
    go_wp2_with (refine wpList_copy_splice rfl _ _ _ _ rfl 5 Tryz.underlying33 Tryz.size_u8 (some ⟨w.heap.size+1,0,none⟩) (some ⟨b,o,none⟩) S S 0 c rfl rfl (w.heap.size+1) 0 (enc (List.replicate S 0#8)).toList 5 ?g1 X ?g2 ?g3 ?g4 ?g5 w.heap.size w ?g6 (by omega) ?_)
    case g1=>exact HMD.out
    case g2=>first | exact HX0.out|(rw[HX0.out];simp)
    case g3=>rw[HX0.out];simp
    case g4=>rw[HX0.out];simp
    case g5=>rw[HX0.out];simp
    case g6=>exact HBW.out
    intro w2 HG2 hB2;have hG2:=key w2 HG2;clear HG2;go_wp2_with fail;go_ret;exact⟨rfl,hG2,hB2⟩
  ·go_wp2_with (refine wpList_copy_splice rfl _ _ _ _ rfl 5 Tryz.underlying33 Tryz.size_u8 (some ⟨w.heap.size+1,0,none⟩) none S S 0 0 rfl rfl (w.heap.size+1) 0 (enc (List.replicate S 0#8)).toList 5 ?g1 X ?g2 ?g3 ?g4 ?g5 w.heap.size w ?g6 (by omega) ?_)
   case g1=>exact HMD.out
   case g2=>first | exact HX0.out|(rw[HX0.out];simp)
   case g3=>rw[HX0.out];try simp
   case g4=>rw[HX0.out];simp
   case g5=>rw[HX0.out];simp
   case g6=>exact HBW.out
   intro w2 HG2 hB2;have hG2:=key w2 HG2;clear HG2;go_wp2_with fail;go_ret;exact⟨rfl,hG2,hB2⟩
def rsCells(rs:List Row)(n:Nat):Array Value:=((List.range n).map fun i=>if i<rs.length then(rat rs i).val else Value.slice none 0 0).toArray
theorem rsCells_zero(n:Nat):madeCells #[.slice none 0 0] n=rsCells [] n:=by
 apply Array.ext';rw[toList_madeCells_one];simp only[rsCells];apply List.ext_getElem
 ·simp
 ·intro i h1 h2;simp
theorem rat_push(rs:List Row)(r:Row)(i:Nat)(h:i<rs.length):rat (rs++[r]) i=rat rs i:=by simp[rat,List.getD,List.getElem?_append_left h]
theorem rat_last(rs:List Row)(r:Row):rat (rs++[r]) rs.length=r:=by simp[rat,List.getD]
theorem rsCells_push(rs:List Row)(r:Row)(n:Nat):(rsCells rs n).setIfInBounds rs.length r.val=rsCells (rs++[r]) n:=by
 apply Array.ext';simp only[rsCells,List.setIfInBounds_toArray];apply List.ext_getElem
 ·simp
 ·intro i h1 h2
  simp only[List.getElem_set,List.getElem_map,List.getElem_range,List.length_append,List.length_singleton];by_cases e:rs.length=i
  ·subst e
   rw[if_pos rfl,if_pos (by omega),rat_last]
  ·rw[if_neg e]
   by_cases h:i<rs.length
   ·rw[if_pos h,if_pos (by omega),rat_push _ _ _ h]
   ·rw[if_neg h,if_neg (by omega)]
theorem rsCells_at(rs:List Row)(n i:Nat)(hi:i<n)(h:i<rs.length):(rsCells rs n)[i]?=some (rat rs i).val:=by
 simp[rsCells,hi,h]
theorem rsCells_rest(rs:List Row)(n i:Nat)(hi:i<n)(h:¬ i<rs.length):(rsCells rs n)[i]?=some (.slice none 0 0):=by
 simp[rsCells,hi,h]
structure NewRows(w:World)(B:Nat)(rs:List Row):Prop where
 blk:∀ i,i<rs.length->Blk w (rat rs i).b (rat rs i).l
 off:∀ i,i<rs.length->(rat rs i).o=0
 low:∀ i,i<rs.length->B<=(rat rs i).b
theorem NewRows.below{w w':World}{B:Nat}{rs:List Row}(h:NewRows w B rs)(hb:Below w.heap.size w w'):NewRows w' B rs:=
 ⟨fun i hi=>(h.blk i hi).below hb (h.blk i hi).lt,h.off,h.low⟩
theorem NewRows.onlyAt{w w':World}{B g:Nat}{rs:List Row}(h:NewRows w B rs)(ho:OnlyAt g w w')(hg:g<B):NewRows w' B rs:=
 ⟨fun i hi=>(h.blk i hi).onlyAt ho (by have:=h.low i hi;omega),h.off,h.low⟩
theorem NewRows.push{w:World}{B:Nat}{rs:List Row}{r:Row}(h:NewRows w B rs)(h1:Blk w r.b r.l)(h2:r.o=0)(h3:B<=r.b):NewRows w B (rs++[r]):=by
 have key:∀ i,i<(rs++[r]).length->(i<rs.length/\rat (rs++[r]) i=rat rs i)∨rat (rs++[r]) i=r:=fun i hi=>by
  by_cases e:i<rs.length
  ·exact .inl ⟨e,rat_push _ _ _ e⟩
  ·have:i=rs.length:=by simp at hi;omega
   subst this;exact .inr (rat_last _ _)
 refine⟨fun i hi=>?_,fun i hi=>?_,fun i hi=>?_⟩<;>rcases key i hi with⟨h4,e⟩|e<;>rw[e]
 ·exact h.blk i h4
 ·exact h1
 ·exact h.off i h4
 ·exact h2
 ·exact h.low i h4
 ·exact h3
theorem NewRows.rs{w:World}{B S n:Nat}{rs:List Row}(h:NewRows w B rs)(hn:rs.length=n)(hS:w.heap[S]?=some (.cells (rsCells rs n) 33 (0,0))):Rs w S 0 rs:=fun i hi=>by
 refine⟨?_,?_⟩
 ·rw[Nat.zero_add,cell_of_row _ _ _ _ _ _ hS];exact rsCells_at rs n i (by omega) hi
 ·rw[h.off i hi];exact(h.blk i hi).bs
theorem planSource_any(K N S T b o n c q:Nat)(a:Option Addr)(l:List Gf.F)(w:World)(hcf:Cfg K N S)(hT:T=symN S n)(hq:q*K<T)(hl:l.length=n)(hn:n<=255)(hnc:n<=c)(hc:c<=9223372036854775807)(ha:a=some ⟨b,o,none⟩∨a=none/\n=0/\c=0)(hB:Bs w b o l)(hbl:0<n->b<w.heap.size):
 Calls Tryz.prog 116 #[.agg #[.int .i64 K,.int .i64 N,.int .i64 S,.int .i64 T],.slice a n c,.int .i64 q] w fun e w'=>
  ∃ g rs,e=.returned (.slice (some ⟨g,0,none⟩) (srcN K T q) (srcN K T q))/\rs.length=srcN K T q/\w'.heap[g]?=some (.cells (rsCells rs (srcN K T q)) 33 (0,0))/\w.heap.size<=g/\NewRows w' (g+1) rs/\(∀ i,i<rs.length->(rat rs i).l=symAt S l (q*K+i))/\Below w.heap.size w w':=by
 obtain⟨k1,k8,kn,n16,s1,s8⟩:=hcf;have hTr:=symN_range (S:=S) (len:=n) s1;have hsrc:=fun W=>sources_any K N S T q (by omega) hq W
 have hm8:srcN K T q<=8:=by unfold srcN;omega
 have hmT:q*K+srcN K T q<=T:=by unfold srcN;omega
 obtain⟨qk,hqk⟩:∃ x:Nat,x=q*K:=⟨_,rfl⟩;have hqi:(q:Int)*(K:Int)=(qk:Int):=by rw[hqk];push_cast;rfl
 rw[<- hqk]at hmT hq ⊢;clear hqk;generalize srcN K T q=m at *;have hmk:=fun W=>run_make_row' (P:=Tryz.prog) 40 33 (.slice none 0 0) 24 Tryz.underlying40 Tryz.info_bytes rfl .i64 .i64 m (by omega) (by omega) W
 have HSY:Hid (∀(i:Nat) W,Below w.heap.size w W->i<m->Calls Tryz.prog 134 #[.agg #[.int .i64 K,.int .i64 N,.int .i64 S,.int .i64 T],.slice a n c,.int .i64 ((qk:Int)+(i:Int))] W fun e w'=>
  e=.returned (.slice (some ⟨W.heap.size+1,0,none⟩) S S)/\Blk w' (W.heap.size+1) (symAt S l (qk+i))/\Below W.heap.size W w'):=fun i W hb hi=>by
  have hii:(qk+i)*S<n∨n=0/\qk+i=0:=by
   have h1:qk+i<symN S n:=by omega
   by_cases h0:n=0
   ·right
    refine⟨h0,?_⟩;subst h0;have:symN S 0=1:=by unfold symN partsN;rw[Nat.div_eq_of_lt (by omega)];rfl
    omega
   ·left
    have h2:qk+i<partsN n S:=by
     unfold symN at h1;by_cases h3:1<=partsN n S
     ·omega
     ·have h4:1<=partsN n S:=by unfold partsN;exact(Nat.one_le_div_iff (by omega)).2 (by omega)
      omega
    exact partsN_mul s1 h2
  have:=planSym_any K N S T b o n c (qk+i) a l W s1 s8 hl hn hnc hc hii ha (by
   by_cases h0:0<n
   ·exact hB.below hb (hbl h0)
   ·intro j hj;omega)
  push_cast at this;exact this
 have hT2:T<=256:=by omega
 clear hB hbl ha hl hT hTr;go_enter Tryz.func116,Tryz.ntmps116;go_wp2_with fail;refine(hsrc _).mono ?_;rintro e w1 ⟨rfl,hb1⟩;have hP0:=heap_alloc_new w (.cells #[.int .i64 K,.int .i64 N,.int .i64 S,.int .i64 T] 148);have hP1:=(hb1.block _ (lt_of_block hP0)).trans hP0;have hbw1:Below w.heap.size w w1:=((Below.refl _ w).alloc (Nat.le_refl _) _).trans (hb1.mono (by simp));have hl1:=lt_of_block hP1;clear hP0 hb1 hsrc;have hmk1:=hmk w1;go_upto_region 2 with fail;generalize hW2:w1.alloc (Obj.cells _ _)=w2;have hb2:Below w1.heap.size w1 w2:=by rw[<- hW2];exact(Below.refl _ _).alloc (Nat.le_refl _) _
 have hl2:Hid (w2.heap[w1.heap.size]?=some (.cells (rsCells [] m) 33 (0,0))):=by show _=_;rw[<- hW2,<- rsCells_zero];exact heap_alloc_new _ _
 have hz2:w1.heap.size<w2.heap.size:=by rw[<- hW2];simp
 clear hW2 hmk1 hmk;have hP2:Hid (w2.heap[w.heap.size]?=some (.cells #[.int .i64 K,.int .i64 N,.int .i64 S,.int .i64 T] 148 (0,0))):=(hb2.block _ hl1).trans hP1;have hbw2:Below w.heap.size w w2:=hbw1.trans (hb2.mono (by omega));clear hb2 hP1;go_wp2_with fail
 go_loopw[15] (fun t wr=>∃(k:Nat) (rs:List Row),k<=m/\t=.int .i64 k/\Hid (rs.length=k)/\Hid (wr.heap[w1.heap.size]?=some (.cells (rsCells rs m) 33 (0,0)))/\NewRows wr (w1.heap.size+1) rs/\Hid (∀ i,i<rs.length->(rat rs i).l=symAt S l (qk+i))/\
  Hid (wr.heap[w.heap.size]?=some (.cells #[.int .i64 K,.int .i64 N,.int .i64 S,.int .i64 T] 148 (0,0)))/\Below w.heap.size w wr/\w1.heap.size<wr.heap.size) (fun t _=>m - (intOf t).toNat)
 case atStart=>exact⟨0,[],by omega,rfl,rfl,hl2,⟨fun i hi=>by simp at hi,fun i hi=>by simp at hi,fun i hi=>by simp at hi⟩,fun i hi=>by simp at hi,hP2,hbw2,hz2⟩
 case round=>
  obtain⟨k,rs,hk,rfl,hrl,hlr,hNR,hsy,hPr,hbr,hzr⟩:=hrel;clear hl2 hP2 hbw2 hz2;by_cases hlt:k<m
  ·have p0:wr.cell? ⟨w.heap.size,0,none⟩=some (.int .i64 K):=cell_of_row wr _ 0 _ _ _ hPr.out
   have p1:wr.cell? ⟨w.heap.size,1,none⟩=some (.int .i64 N):=cell_of_row wr _ 1 _ _ _ hPr.out;have p2:wr.cell? ⟨w.heap.size,2,none⟩=some (.int .i64 S):=cell_of_row wr _ 2 _ _ _ hPr.out;have p3:wr.cell? ⟨w.heap.size,3,none⟩=some (.int .i64 T):=cell_of_row wr _ 3 _ _ _ hPr.out;go_wp2_with fail;refine(HSY.out k wr hbr hlt).mono ?_;rintro e w5 ⟨rfl,hG5,hb5⟩;have hs5:=hb5.size;have hl5:w5.heap[w1.heap.size]?=some (.cells (rsCells rs m) 33 (0,0)):=by rw[hb5.block _ hzr];exact hlr.out
   have hc5:w5.cell? ⟨w1.heap.size,k,none⟩=some (.slice none 0 0):=by rw[cell_of_row _ _ _ _ _ _ hl5];exact rsCells_rest _ _ _ hlt (by rw[hrl.out];omega)
   have hf5:=frozen_of_row w5 w1.heap.size k _ _ hl5;have HL5:Hid (w5.heap[w1.heap.size]?=some (.cells (rsCells rs m) 33 (0,0))):=hl5;clear hl5;go_wp2_with fail;have hO:OnlyAt w1.heap.size w5 (w5.setCell ⟨w1.heap.size,k,none⟩ (.slice (some ⟨wr.heap.size+1,0,none⟩) S S)):=(OnlyAt.refl _ _).setCell k _;have hG6:=hG5.onlyAt hO (show wr.heap.size+1≠w1.heap.size by omega)
   have hrv:(⟨wr.heap.size+1,0,S,symAt S l (qk+k)⟩:Row).val=.slice (some ⟨wr.heap.size+1,0,none⟩) S S:=by
    show Value.slice _ (symAt S l (qk+k)).length S=_;rw[symAt_length]
   go_roundw
   case rel=>
    refine⟨k+1,rs++[⟨wr.heap.size+1,0,S,symAt S l (qk+k)⟩],by omega,by go_num,?_,?_,?_,?_,?_,?_,?_⟩
    ·show _=_
     simp[hrl.out]
    ·show _=_
     rw[heap_setCell_same _ _ _ _ _ _ HL5.out,<- hrv,<- hrl.out,rsCells_push]
    ·exact((hNR.below hb5).onlyAt hO (by omega)).push hG6 rfl (by show _<=wr.heap.size+1;omega)
    ·show ∀ i,_
     intro i hi;by_cases e:i<rs.length
     ·rw[rat_push _ _ _ e];exact hsy.out i e
     ·have e2:i=rs.length:=by simp at hi;omega
      subst e2;rw[rat_last,hrl.out]
    ·show _=_
     rw[hO.rest _ (by omega),hb5.block _ (lt_of_block hPr.out)];exact hPr.out
    ·exact(hbr.trans (hb5.mono (by omega))).trans (hO.below.mono (by omega))
    ·rw[hO.size];omega
   case measure=>simp[intOf];omega
  ·obtain rfl:k=m:=by omega
   go_wp2_with fail;go_ret;exact⟨w1.heap.size,rs,rfl,hrl.out,hlr.out,by omega,hNR,hsy.out,hbr⟩
theorem DataGives.bad{A:Nat->Addr}{K N S T rb c k n1 c1:Nat}{m:List Gf.F}{w w':World}{v:Value}{x y:Int}{a:Option Addr}(h:dataB K N S T m=some (c,k))(hw:Wr w w' v (k:Int) (E A c))(hb:But (fun g=>g=rb) w w'):
 DataGives A K N S T rb m w (.returned (.tuple #[.int .i64 x,.int .i64 y,.slice a n1 c1,v])) w':=by
 unfold DataGives;rw[h];exact⟨⟨x,y,a,n1,c1,v,rfl,hw⟩,hb⟩
theorem Below.undraw{B:Nat}{w w':World}(h:Below B w.drew w'):Below B w w':=⟨h.os,h.tape,h.output,h.size,h.block⟩
theorem below_drew{w w':World}{nq:Nat}(h:w'=w.drewN nq):Below w.heap.size w w':=by rw[h];exact⟨rfl,rfl,rfl,Nat.le_refl _,fun _ _=>rfl⟩
theorem DataSt.errs{A:Nat->Addr}{B0:Nat}{w W:World}{K N S T rb k:Nat}{v:Value}{z:Int}(h:DataSt w W K N S T rb v k z)(hE:Errs A B0 w)(hB:B0<=rb):Errs A B0 W:=hE.below (h.but.toBelow hE.size (fun k hk q=>by omega))
theorem data_any(A:Nat->Addr)(B0:Nat)(a:Option Addr)(b o n c rb K N S T:Nat)(m:List Gf.F)(w:World)(hE:Errs A B0 w)(hB0:B0<=rb)(hcfg:Cfg K N S)(hT:T<=70000)(hR:Rdr w rb (.slice a n c) 0)(hm:m.length=n)(hn:n<=c)(hc:c<=9223372036854775807)(hn2:n<=140737488355328)(ha:0<n->a=some ⟨b,o,none⟩)(hB:Bs w b o m)(hb:0<n->b≠rb/\b<w.heap.size):
 Calls Tryz.prog 66 #[.agg #[.int .i64 K,.int .i64 N,.int .i64 S,.int .i64 T],.int .i64 S,.pointer (some ⟨rb,0,none⟩)] w (DataGives A K N S T rb m w):=by
 have hmf:∀(fn:Fn) (first cap:Array Value) (w:World),(Instr.makeFunc fn first cap).run Tryz.prog w=.ok (.func fn first cap) w:=fun _ _ _ _=>rfl
 have hs1:=hcfg.s1;have hs8:=hcfg.s8;have HK1:Hid (1<=K/\K<=8):=⟨hcfg.k1,hcfg.k8⟩;have HCF:Hid (Cfg K N S):=hcfg;clear hcfg;have hst:=DataSt.start (K:=K) (N:=N) (S:=S) (T:=T) hR;clear hR;go_enter Tryz.func66,Tryz.ntmps66;go_upto_region 1 with fail;generalize ((w.alloc (.cells #[.int .i64 K,.int .i64 N,.int .i64 S,.int .i64 T] 148)).alloc (.cells #[.int .i64 0] 3))=W at *;have hE0:=hst.errs hE hB0;have s0:W.cell? ⟨6,0,none⟩=some (.iface 269 (.pointer (some (A 3)))):=hE0.cell 3 (by omega);have g0:W.cell? ⟨2,0,none⟩=some (.iface 269 (.pointer (some (A 5)))):=hE0.cell 5 (by omega);have p0:W.cell? ⟨w.heap.size,0,none⟩=some (.int .i64 K):=cell_of_row W _ 0 _ _ _ hst.plan;have p1:W.cell? ⟨w.heap.size,1,none⟩=some (.int .i64 N):=cell_of_row W _ 1 _ _ _ hst.plan;have p2:W.cell? ⟨w.heap.size,2,none⟩=some (.int .i64 S):=cell_of_row W _ 2 _ _ _ hst.plan;have p3:W.cell? ⟨w.heap.size,3,none⟩=some (.int .i64 T):=cell_of_row W _ 3 _ _ _ hst.plan;have r0:W.cell? ⟨w.heap.size+1,0,none⟩=some (.int .i64 0):=cell_of_row W _ 0 _ _ _ hst.res;have rf0:=frozen_of_row W _ 0 _ _ hst.res;by_cases hq0:n<1
 ·go_wp2_with fail
  refine(number_short a rb n c 0 1 _ _ _ _ _ W hst.rdr hn2 (by omega) (by omega) (by omega) s0).mono ?_;rintro e X1 ⟨v,rfl,⟨pb,rfl,hpb,hblk⟩,hbX⟩;have hstX:=hst.grow hbX;have dz:X1.cell? ⟨w.heap.size+1,0,none⟩=some (.int .i64 _):=cell_of_row X1 _ 0 _ _ _ hstX.res;have fz:=frozen_of_row X1 _ 0 _ _ hstX.res;go_wp2_with fail;have hs8:=hstX.set 0;have hblk8:(X1.setCell ⟨w.heap.size+1,0,none⟩ (.int .i64 0)).heap[pb]?=_:=(Below.heap_setCell X1 ⟨w.heap.size+1,0,none⟩ (.int .i64 0) pb (by have:=lt_of_block hst.res;show pb≠w.heap.size+1;omega)).trans hblk;generalize X1.setCell ⟨w.heap.size+1,0,none⟩ (.int .i64 0)=W8 at hs8 hblk8 ⊢;have hst9:=hs8.set 0;have hblk9:(W8.setCell ⟨w.heap.size+1,0,none⟩ (.int .i64 0)).heap[pb]?=_:=(Below.heap_setCell W8 ⟨w.heap.size+1,0,none⟩ (.int .i64 0) pb (by have:=lt_of_block hst.res;show pb≠w.heap.size+1;omega)).trans hblk8;generalize W8.setCell ⟨w.heap.size+1,0,none⟩ (.int .i64 0)=W9 at hst9 hblk9 ⊢;have d9:W9.cell? ⟨w.heap.size+1,0,none⟩=some (.int .i64 0):=cell_of_row W9 _ 0 _ _ _ hst9.res;exact bodyPost_ret (v:=.tuple #[.int .i64 0,.int .i64 0,.slice none 0 0,.iface 166 (.pointer (some ⟨pb,0,none⟩))]) (by simp[results,Tryz.results66,go_sem,d9]) rfl (DataGives.bad (c:=4) (k:=n) (by simp[dataB,hm,hq0]) ⟨pb,rfl,by have:=hst.but.size;omega,hblk9⟩ hst9.but)
 ·obtain rfl:=ha (by omega)
  obtain⟨hbr,hbl⟩:=hb (by omega);have hB1:Bs W b o m:=fun i hi=>by rw[World.cell?_of_block (hst.but.block b hbl hbr)];exact hB i hi
  go_wp2_with fail
  refine(number_all rb b o n c 0 1 m _ _ 108 #[.agg #[.int .i64 K,.int .i64 N,.int .i64 S,.int .i64 T]] #[] (winB (bt m 0:Int) 0 ((partsN T K:Int) - 1)) W calls_enters_hasBlock hst.rdr hm hn hc (by omega) (by omega) (by omega) hn2 hB1 hbr (fun V _=>by
   rw[numAt_one];exact hasBlock_any K N S T (bt m 0:Int) HK1.out.1 HK1.out.2 hT V)).mono ?_
  rintro e W1 ⟨he,hr1,hb1⟩;have hst1:=hst.next hb1 hr1;clear p0 p1 p2 p3 r0 rf0 s0 g0 hB1;cases hk0:winB (bt m 0:Int) 0 ((partsN T K:Int) - 1)
  ·rw[hk0]at he
   simp only[Bool.false_eq_true,if_false]at he;obtain⟨v,rfl,⟨pb,rfl,hpb,hblk⟩⟩:=he;have dz:W1.cell? ⟨w.heap.size+1,0,none⟩=some (.int .i64 _):=cell_of_row W1 _ 0 _ _ _ hst1.res;have fz:=frozen_of_row W1 _ 0 _ _ hst1.res;go_wp2_with fail;have hs8:=hst1.set 0;have hblk8:(W1.setCell ⟨w.heap.size+1,0,none⟩ (.int .i64 0)).heap[pb]?=_:=(Below.heap_setCell W1 ⟨w.heap.size+1,0,none⟩ (.int .i64 0) pb (by have:=lt_of_block hst.res;show pb≠w.heap.size+1;omega)).trans hblk;generalize W1.setCell ⟨w.heap.size+1,0,none⟩ (.int .i64 0)=W8 at hs8 hblk8 ⊢;have hst9:=hs8.set 0;have hblk9:(W8.setCell ⟨w.heap.size+1,0,none⟩ (.int .i64 0)).heap[pb]?=_:=(Below.heap_setCell W8 ⟨w.heap.size+1,0,none⟩ (.int .i64 0) pb (by have:=lt_of_block hst.res;show pb≠w.heap.size+1;omega)).trans hblk8;generalize W8.setCell ⟨w.heap.size+1,0,none⟩ (.int .i64 0)=W9 at hst9 hblk9 ⊢;have d9:W9.cell? ⟨w.heap.size+1,0,none⟩=some (.int .i64 0):=cell_of_row W9 _ 0 _ _ _ hst9.res;exact bodyPost_ret (v:=.tuple #[.int .i64 0,.int .i64 0,.slice none 0 0,.iface 166 (.pointer (some ⟨pb,0,none⟩))]) (by simp[results,Tryz.results66,go_sem,d9]) rfl (DataGives.bad (c:=6) (k:=0) (by simp[dataB,hm,hq0,hk0]) ⟨pb,rfl,by have:=hst.but.size;omega,hblk9⟩ hst9.but)
  ·rw[hk0]at he
   simp only[if_true,numAt_one]at he;subst he;have hbK:bt m 0*K<T:=partsN_mul HK1.out.1 (by have:=winB_iff.1 hk0;omega);have dz:W1.cell? ⟨w.heap.size+1,0,none⟩=some (.int .i64 0):=cell_of_row W1 _ 0 _ _ _ hst1.res;have fz:=frozen_of_row W1 _ 0 _ _ hst1.res;have hst2:=hst1.set (bt m 0:Int);go_upto_region 4 with fail;generalize W1.setCell ⟨w.heap.size+1,0,none⟩ (.int .i64 (bt m 0:Int))=W2 at hst2 ⊢;clear dz fz hst1 hst hb1 hr1;have hE2:=hst2.errs hE hB0;have s2:W2.cell? ⟨6,0,none⟩=some (.iface 269 (.pointer (some (A 3)))):=hE2.cell 3 (by omega);have g2:W2.cell? ⟨2,0,none⟩=some (.iface 269 (.pointer (some (A 5)))):=hE2.cell 5 (by omega);by_cases hq1:n<2
   ·go_wp2_with fail
    refine(number_short (some ⟨b,o,none⟩) rb n c 1 1 _ _ _ _ _ W2 hst2.rdr hn2 (by omega) (by omega) (by omega) s2).mono ?_;rintro e X1 ⟨v,rfl,⟨pb,rfl,hpb,hblk⟩,hbX⟩;have hstX:=hst2.grow hbX;have dz:X1.cell? ⟨w.heap.size+1,0,none⟩=some (.int .i64 _):=cell_of_row X1 _ 0 _ _ _ hstX.res;have fz:=frozen_of_row X1 _ 0 _ _ hstX.res;go_wp2_with fail;have hst9:=hstX.set 0;have hblk9:(X1.setCell ⟨w.heap.size+1,0,none⟩ (.int .i64 0)).heap[pb]?=_:=(Below.heap_setCell X1 ⟨w.heap.size+1,0,none⟩ (.int .i64 0) pb (by have:=lt_of_block hst2.res;show pb≠w.heap.size+1;omega)).trans hblk;generalize X1.setCell ⟨w.heap.size+1,0,none⟩ (.int .i64 0)=W9 at hst9 hblk9 ⊢;have d9:W9.cell? ⟨w.heap.size+1,0,none⟩=some (.int .i64 0):=cell_of_row W9 _ 0 _ _ _ hst9.res;exact bodyPost_ret (v:=.tuple #[.int .i64 0,.int .i64 0,.slice none 0 0,.iface 166 (.pointer (some ⟨pb,0,none⟩))]) (by simp[results,Tryz.results66,go_sem,d9]) rfl (DataGives.bad (c:=4) (k:=n) (by simp[dataB,hm,hq0,hk0,hq1]) ⟨pb,rfl,by have:=hst2.but.size;omega,hblk9⟩ hst9.but)
   ·have hB2:Bs W2 b o m:=fun i hi=>by rw[World.cell?_of_block (hst2.but.block b hbl hbr)];exact hB i hi
    go_wp2_with fail
    refine(number_all rb b o n c 1 1 m _ _ 109 #[] #[.pointer (some ⟨w.heap.size,0,none⟩),.pointer (some ⟨w.heap.size+1,0,none⟩)] (plcN K N T (bt m 0) (bt m 1)) W2 calls_enters_place hst2.rdr hm hn hc (by omega) (by omega) (by omega) hn2 hB2 hbr (fun V hV=>by
     rw[numAt_one];have hl:=hst2.low;exact place_any w.heap.size (w.heap.size+1) K N S T (bt m 0) (bt m 1) HCF.out hT hbK V (by rw[hV.block _ (lt_of_block hst2.plan) (by omega)];exact hst2.plan) (cell_of_row V _ 0 _ _ _ (by rw[hV.block _ (lt_of_block hst2.res) (by omega)];exact hst2.res)))).mono ?_
    rintro e W3 ⟨he,hr3,hb3⟩;have hst3:=hst2.next hb3 hr3;clear s2 g2 hB2 hE2;cases hk1:plcN K N T (bt m 0) (bt m 1)
    ·rw[hk1]at he
     simp only[Bool.false_eq_true,if_false]at he;obtain⟨v,rfl,⟨pb,rfl,hpb,hblk⟩⟩:=he;have dz:W3.cell? ⟨w.heap.size+1,0,none⟩=some (.int .i64 _):=cell_of_row W3 _ 0 _ _ _ hst3.res;have fz:=frozen_of_row W3 _ 0 _ _ hst3.res;go_wp2_with fail;have hst9:=hst3.set 0;have hblk9:(W3.setCell ⟨w.heap.size+1,0,none⟩ (.int .i64 0)).heap[pb]?=_:=(Below.heap_setCell W3 ⟨w.heap.size+1,0,none⟩ (.int .i64 0) pb (by have:=lt_of_block hst2.res;show pb≠w.heap.size+1;omega)).trans hblk;generalize W3.setCell ⟨w.heap.size+1,0,none⟩ (.int .i64 0)=W9 at hst9 hblk9 ⊢;have d9:W9.cell? ⟨w.heap.size+1,0,none⟩=some (.int .i64 0):=cell_of_row W9 _ 0 _ _ _ hst9.res;exact bodyPost_ret (v:=.tuple #[.int .i64 0,.int .i64 0,.slice none 0 0,.iface 166 (.pointer (some ⟨pb,0,none⟩))]) (by simp[results,Tryz.results66,go_sem,d9]) rfl (DataGives.bad (c:=6) (k:=1) (by simp[dataB,hm,hq0,hk0,hq1,hk1]) ⟨pb,rfl,by have:=hst2.but.size;omega,hblk9⟩ hst9.but)
    ·rw[hk1]at he
     simp only[if_true,numAt_one]at he;subst he;clear hst2 hb3 hr3;have hE3:=hst3.errs hE hB0;have s3:W3.cell? ⟨6,0,none⟩=some (.iface 269 (.pointer (some (A 3)))):=hE3.cell 3 (by omega);by_cases hq2:n<2+S
     ·go_wp2_with fail
      refine(next_short (some ⟨b,o,none⟩) rb n c 2 S _ _ W3 hst3.rdr hn2 (by omega) (by omega) (by omega) s3).mono ?_;rintro e X1 ⟨v,rfl,⟨pb,rfl,hpb,hblk⟩,hbX⟩;have hstX:=hst3.grow hbX;have dz:X1.cell? ⟨w.heap.size+1,0,none⟩=some (.int .i64 _):=cell_of_row X1 _ 0 _ _ _ hstX.res;have fz:=frozen_of_row X1 _ 0 _ _ hstX.res;go_wp2_with fail;have hst9:=hstX.set 0;have hblk9:(X1.setCell ⟨w.heap.size+1,0,none⟩ (.int .i64 0)).heap[pb]?=_:=(Below.heap_setCell X1 ⟨w.heap.size+1,0,none⟩ (.int .i64 0) pb (by have:=lt_of_block hst3.res;show pb≠w.heap.size+1;omega)).trans hblk;generalize X1.setCell ⟨w.heap.size+1,0,none⟩ (.int .i64 0)=W9 at hst9 hblk9 ⊢;have d9:W9.cell? ⟨w.heap.size+1,0,none⟩=some (.int .i64 0):=cell_of_row W9 _ 0 _ _ _ hst9.res;exact bodyPost_ret (v:=.tuple #[.int .i64 0,.int .i64 0,.slice none 0 0,.iface 166 (.pointer (some ⟨pb,0,none⟩))]) (by simp[results,Tryz.results66,go_sem,d9]) rfl (DataGives.bad (c:=4) (k:=n) (by simp[dataB,hm,hq0,hk0,hq1,hk1,hq2]) ⟨pb,rfl,by have:=hst3.but.size;omega,hblk9⟩ hst9.but)
     ·go_wp2_with fail
      refine(next_ok rb b o n c 2 S W3 hst3.rdr hn hc hs1 (by omega) hn2).mono ?_;rintro e W4 ⟨rfl,hr4,hb4⟩;have hst4:=hst3.next hb4 hr4;clear hst3 hb4 hr4 s3 hE3
      have hB4:Bs W4 b (o+2) ((m.drop 2).take S):=fun i hi=>by
       have hi':i<S:=by simp at hi;omega
       have h1:=hB (2+i) (by rw[hm];omega);rw[World.cell?_of_block (hst4.but.block b hbl hbr),show o+2+i=o+(2+i) by omega];have e:at_ ((m.drop 2).take S) i=at_ m (2+i):=by simp[at_,List.getD,hi']
       rw[e];exact h1
      have hlS:((m.drop 2).take S).length=S:=by simp;omega
      have hE4:=hst4.errs hE hB0;have l4:W4.cell? ⟨7,0,none⟩=some (.iface 269 (.pointer (some (A 6)))):=hE4.cell 6 (by omega);have dz:W4.cell? ⟨w.heap.size+1,0,none⟩=some (.int .i64 (bt m 0:Int)):=cell_of_row W4 _ 0 _ _ _ hst4.res;have fz:=frozen_of_row W4 _ 0 _ _ hst4.res;have hres4:=hst4.res;go_upto_region 10 with fail;by_cases hq3:2+S<n
      ·go_region_with (first
        | (go_at_call 62;refine(clone_any b (o+2) S (c - 2) ((m.drop 2).take S) W4.drew hlS hs1 (by omega) (by exact hB4)).mono ?_;rintro e Y1 ⟨za,zc,rfl,hz1,hy1⟩;have hst5:=hst4.grow (Below.undraw hy1);have l5:Y1.cell? ⟨7,0,none⟩=some (.iface 269 (.pointer (some (A 6)))):=(hst5.errs hE hB0).cell 6 (by omega);have d5:Y1.cell? ⟨w.heap.size+1,0,none⟩=some (.int .i64 (bt m 0:Int)):=cell_of_row Y1 _ 0 _ _ _ hst5.res)
        | (go_at_call 112;refine(end_long A B0 rb b o n c (2+S) _ (hst5.errs hE hB0) hst5.rdr (by omega) hn hc hn2).mono ?_;rintro e Y2 ⟨v,rfl,hw2,hy2⟩;have hst6:=hst5.grow hy2;have d6:Y2.cell? ⟨w.heap.size+1,0,none⟩=some (.int .i64 (bt m 0:Int)):=cell_of_row Y2 _ 0 _ _ _ hst6.res;have f6:=frozen_of_row Y2 _ 0 _ _ hst6.res))
       all_goals go_wp2_with fail
       all_goals
        have hst9:=hst6.set (bt m 0:Int);obtain⟨pb,rfl,hpb,hblk⟩:=hw2;have hsz:=hst4.but.size;have hsz1:=hy1.size;have hl5:=lt_of_block hst5.res;have hblk9:(Y2.setCell ⟨w.heap.size+1,0,none⟩ (.int .i64 (bt m 0:Int))).heap[pb]?=_:=(Below.heap_setCell Y2 ⟨w.heap.size+1,0,none⟩ (.int .i64 (bt m 0:Int)) pb (by show pb≠w.heap.size+1;omega)).trans hblk;generalize Y2.setCell ⟨w.heap.size+1,0,none⟩ (.int .i64 (bt m 0:Int))=W9 at hst9 hblk9 ⊢;have d9:W9.cell? ⟨w.heap.size+1,0,none⟩=some (.int .i64 (bt m 0:Int)):=cell_of_row W9 _ 0 _ _ _ hst9.res;have hsz5:=hst5.but.size;exact bodyPost_ret (v:=.tuple #[.int .i64 (bt m 0:Int),.int .i64 (bt m 1:Int),.slice za S zc,.iface 166 (.pointer (some ⟨pb,0,none⟩))]) (by simp[results,Tryz.results66,go_sem,d9]) rfl (DataGives.bad (c:=7) (k:=2+S) (by simp[dataB,hm,hq0,hk0,hq1,hk1,hq2,hq3]) ⟨pb,rfl,by omega,hblk9⟩ hst9.but)
      ·obtain rfl:n=2+S:=by omega
       go_region_with (first
        | (go_at_call 62;refine(clone_any b (o+2) S (c - 2) ((m.drop 2).take S) W4.drew hlS hs1 (by omega) (by exact hB4)).mono ?_;rintro e Y1 ⟨za,zc,rfl,hz1,hy1⟩;have hst5:=hst4.grow (Below.undraw hy1);have l5:Y1.cell? ⟨7,0,none⟩=some (.iface 269 (.pointer (some (A 6)))):=(hst5.errs hE hB0).cell 6 (by omega);have d5:Y1.cell? ⟨w.heap.size+1,0,none⟩=some (.int .i64 (bt m 0:Int)):=cell_of_row Y1 _ 0 _ _ _ hst5.res)
        | (go_at_call 112;refine(end_ok A B0 (some ⟨b,o,none⟩) rb (2+S) c _ (hst5.errs hE hB0) hst5.rdr hn2).mono ?_;rintro e Y2 ⟨rfl,hy2⟩;have hst6:=hst5.grow hy2;have d6:Y2.cell? ⟨w.heap.size+1,0,none⟩=some (.int .i64 (bt m 0:Int)):=cell_of_row Y2 _ 0 _ _ _ hst6.res;have f6:=frozen_of_row Y2 _ 0 _ _ hst6.res))
       all_goals go_wp2_with fail
       all_goals
        have hst9:=hst6.set (bt m 0:Int);have hsz:=hst4.but.size;have hl4:=lt_of_block hst4.res;have hz2:=own_of_block hz1 (fun g hg=>hy2.block g (hz1.lt g hg).2);have hz9:(Y2.setCell ⟨w.heap.size+1,0,none⟩ (.int .i64 (bt m 0:Int))).ownsRow W4.heap.size 5 1 (.slice za S zc) S (encL ((m.drop 2).take S)):=own_of_block hz2 (fun g hg=>Below.heap_setCell Y2 ⟨w.heap.size+1,0,none⟩ (.int .i64 (bt m 0:Int)) g (by have h9:W4.heap.size<=g:=(hz2.lt g hg).1;show g≠w.heap.size+1;omega));generalize Y2.setCell ⟨w.heap.size+1,0,none⟩ (.int .i64 (bt m 0:Int))=W9 at hst9 hz9 ⊢;have d9:W9.cell? ⟨w.heap.size+1,0,none⟩=some (.int .i64 (bt m 0:Int)):=cell_of_row W9 _ 0 _ _ _ hst9.res
        exact bodyPost_ret (v:=.tuple #[.int .i64 (bt m 0:Int),.int .i64 (bt m 1:Int),.slice za S zc,.nilIface]) (by simp[results,Tryz.results66,go_sem,d9]) rfl ⟨by
         rw[show dataB K N S T m=none by simp[dataB,hm,hq0,hk0,hq1,hk1,hq2]];rw[show(m.drop 2).take S=m.drop 2 from List.take_of_length_le (by simp;omega)]at hz9;exact⟨za,zc,rfl,own_base hz9 hsz⟩,hst9.but⟩
def blkB(K T least x:Nat):Bool:=decide (least<=x) && winB (x:Int) 0 ((partsN T K:Int) - 1)
def manyB(q x:Nat):Bool:=decide (1<=x/\x<=q)
theorem manyB_yes{q x:Nat}(h:1<=x/\x<=q):manyB q x=true:=decide_eq_true h
theorem manyB_no{q x:Nat}(h:¬(1<=x/\x<=q)):manyB q x=false:=decide_eq_false h
def lackB(K T:Nat)(m:List Gf.F)(k least:Nat):Option (Nat×Nat):=
 if m.length<k+1 then some (4,m.length) else if blkB K T least (bt m k)=false then some (6,k) else if m.length<k+2 then some (4,m.length) else if manyB (srcN K T (bt m k)) (bt m (k+1))=false then some (6,k+1) else none
def LackGives(A:Nat->Addr)(K T rb:Nat)(u:Value)(m:List Gf.F)(k least:Nat)(w:World)(e:Ending)(w':World):Prop:=
 (match lackB K T m k least with
 | some (c,p)=>∃ v,e=.returned (.tuple #[.agg #[.int .i64 0,.int .i64 0],v])/\Wr w w' v (p:Int) (E A c)
 | none=>e=.returned (.tuple #[.agg #[.int .i64 (bt m k:Int),.int .i64 (bt m (k+1):Int)],.nilIface])/\Rdr w' rb u (k+2))/\But (fun g=>g=rb) w w'
theorem LackGives.bad{A:Nat->Addr}{K T rb c p k least:Nat}{u:Value}{m:List Gf.F}{w w':World}{v:Value}(h:lackB K T m k least=some (c,p))(hw:Wr w w' v (p:Int) (E A c))(hb:But (fun g=>g=rb) w w'):
 LackGives A K T rb u m k least w (.returned (.tuple #[.agg #[.int .i64 0,.int .i64 0],v])) w':=by
 unfold LackGives;rw[h];exact⟨⟨v,rfl,hw⟩,hb⟩
structure LackSt(w W:World)(K N S T rb:Nat)(v:Value)(k least:Nat)(x y:Int):Prop where
 but:But (fun g=>g=rb) w W
 plan:W.heap[w.heap.size]?=some (.cells #[.int .i64 K,.int .i64 N,.int .i64 S,.int .i64 T] 148 (0,0))
 lst:W.heap[w.heap.size+1]?=some (.cells #[.int .i64 least] 3 (0,0))
 res:W.heap[w.heap.size+2]?=some (.cells #[.int .i64 x,.int .i64 y] 122 (0,0))
 rdr:Rdr W rb v k
 low:rb<w.heap.size
theorem LackSt.start{w:World}{K N S T rb k least:Nat}{v:Value}(h:Rdr w rb v k):LackSt w (((w.alloc (.cells #[.int .i64 K,.int .i64 N,.int .i64 S,.int .i64 T] 148)).alloc (.cells #[.int .i64 least] 3)).alloc (.cells #[.int .i64 0,.int .i64 0] 122)) K N S T rb v k least 0 0:=by
 have hl:=h.lt;have e1:=heap_alloc_new (w.alloc (.cells #[.int .i64 K,.int .i64 N,.int .i64 S,.int .i64 T] 148)) (.cells #[.int .i64 least] 3);have e2:=heap_alloc_new ((w.alloc (.cells #[.int .i64 K,.int .i64 N,.int .i64 S,.int .i64 T] 148)).alloc (.cells #[.int .i64 least] 3)) (.cells #[.int .i64 0,.int .i64 0] 122);rw[World.size_alloc]at e1;rw[World.size_alloc,World.size_alloc]at e2;refine⟨(((But.refl _ w).alloc _).alloc _).alloc _,?_,?_,e2,h.kept ?_,hl⟩
 ·rw[Below.heap_alloc _ _ _ (by simp;omega),Below.heap_alloc _ _ _ (by simp)];exact heap_alloc_new w _
 ·rw[Below.heap_alloc _ _ _ (by simp)];exact e1
 ·rw[Below.heap_alloc _ _ _ (by simp;omega),Below.heap_alloc _ _ _ (by simp;omega),Below.heap_alloc _ _ _ hl]
theorem LackSt.next{w W W':World}{K N S T rb k k' least:Nat}{v:Value}{x y:Int}(h:LackSt w W K N S T rb v k least x y)(hb:But (fun g=>g=rb) W W')(hr:Rdr W' rb v k'):LackSt w W' K N S T rb v k' least x y:=
 ⟨h.but.trans hb,by rw[hb.block _ (lt_of_block h.plan) (by have:=h.low;omega)];exact h.plan,by rw[hb.block _ (lt_of_block h.lst) (by have:=h.low;omega)];exact h.lst,by rw[hb.block _ (lt_of_block h.res) (by have:=h.low;omega)];exact h.res,hr,h.low⟩
theorem LackSt.grow{w W W':World}{K N S T rb k least:Nat}{v:Value}{x y:Int}(h:LackSt w W K N S T rb v k least x y)(hb:Below W.heap.size W W'):LackSt w W' K N S T rb v k least x y:=
 h.next (Below.but hb _ (fun _ hi h=>absurd hi h)) (h.rdr.kept (hb.block _ h.rdr.lt))
theorem LackSt.set{w W:World}{K N S T rb k least:Nat}{v:Value}{x y:Int}(h:LackSt w W K N S T rb v k least x y)(x' y':Int):LackSt w ((W.setCell ⟨w.heap.size+2,0,none⟩ (.int .i64 x')).setCell ⟨w.heap.size+2,1,none⟩ (.int .i64 y')) K N S T rb v k least x' y':=by
 have hl:=h.low;have hk:∀ g,g≠w.heap.size+2->((W.setCell ⟨w.heap.size+2,0,none⟩ (.int .i64 x')).setCell ⟨w.heap.size+2,1,none⟩ (.int .i64 y')).heap[g]?=W.heap[g]?:=fun g hg=>(Below.heap_setCell _ ⟨w.heap.size+2,1,none⟩ _ g hg).trans (Below.heap_setCell W ⟨w.heap.size+2,0,none⟩ _ g hg)
 have r1:(W.setCell ⟨w.heap.size+2,0,none⟩ (.int .i64 x')).heap[w.heap.size+2]?=some (.cells #[.int .i64 x',.int .i64 y] 122 (0,0)):=heap_setCell_same _ _ 0 _ _ _ h.res;exact⟨(h.but.setCell (.inr (by show w.heap.size<=w.heap.size+2;omega)) _).setCell (.inr (by show w.heap.size<=w.heap.size+2;omega)) _,by rw[hk _ (by omega)];exact h.plan,by rw[hk _ (by omega)];exact h.lst,heap_setCell_same _ _ 1 _ _ _ r1,h.rdr.kept (hk _ (by omega)),hl⟩
theorem LackSt.errs{A:Nat->Addr}{B0:Nat}{w W:World}{K N S T rb k least:Nat}{v:Value}{x y:Int}(h:LackSt w W K N S T rb v k least x y)(hE:Errs A B0 w)(hB:B0<=rb):Errs A B0 W:=hE.below (h.but.toBelow hE.size (fun k hk q=>by omega))
theorem lblock_any(pb bb K N S T least x:Nat)(hk:1<=K)(hk8:K<=8)(hT:T<=70000)(w:World)(hp:w.heap[pb]?=some (.cells #[.int .i64 K,.int .i64 N,.int .i64 S,.int .i64 T] 148 (0,0)))(hv:w.cell? ⟨bb,0,none⟩=some (.int .i64 least)):
 Calls Tryz.prog 128 #[.int .i64 x,.pointer (some ⟨bb,0,none⟩),.pointer (some ⟨pb,0,none⟩)] w fun e w'=>e=.returned (.bool (blkB K T least x))/\Below w.heap.size w w':=by
 have c0:w.cell? ⟨pb,0,none⟩=some (.int .i64 K):=cell_of_row w _ 0 _ _ _ hp;have c1:w.cell? ⟨pb,1,none⟩=some (.int .i64 N):=cell_of_row w _ 1 _ _ _ hp;have c2:w.cell? ⟨pb,2,none⟩=some (.int .i64 S):=cell_of_row w _ 2 _ _ _ hp;have c3:w.cell? ⟨pb,3,none⟩=some (.int .i64 T):=cell_of_row w _ 3 _ _ _ hp;have hP:=fun w=>hasBlock_any K N S T (x:Int) hk hk8 hT w
 have HQ:Hid (blkB K T least x=(decide (least<=x) && winB (x:Int) 0 ((partsN T K:Int) - 1))):=rfl;clear hp;by_cases h1:least<=x
 ·have h1':(least:Int)<=(x:Int):=by omega
  go_enter Tryz.func128,Tryz.ntmps128;go_wp2_with fail;refine(hP _).mono ?_;rintro e w1 ⟨rfl,hb1⟩;go_wp2_with fail;go_ret;exact⟨ret_bool (by rw[HQ.out,decide_eq_true h1];rfl),hb1⟩
 ·have h1':¬(least:Int)<=(x:Int):=by omega
  go_enter Tryz.func128,Tryz.ntmps128;go_wp2_with fail;go_ret;exact⟨ret_bool (by rw[HQ.out,decide_eq_false h1];rfl),Below.refl _ _⟩
theorem lmany_any(pb bb K N S T b x:Nat)(hT:T<=70000)(hb:b*K<T)(w:World)(hp:w.heap[pb]?=some (.cells #[.int .i64 K,.int .i64 N,.int .i64 S,.int .i64 T] 148 (0,0)))(hv:w.cell? ⟨bb,0,none⟩=some (.int .i64 b)):
 Calls Tryz.prog 129 #[.int .i64 x,.pointer (some ⟨pb,0,none⟩),.pointer (some ⟨bb,0,none⟩)] w fun e w'=>e=.returned (.bool (manyB (srcN K T b) x))/\Below w.heap.size w w':=by
 have c0:w.cell? ⟨pb,0,none⟩=some (.int .i64 K):=cell_of_row w _ 0 _ _ _ hp;have c1:w.cell? ⟨pb,1,none⟩=some (.int .i64 N):=cell_of_row w _ 1 _ _ _ hp;have c2:w.cell? ⟨pb,2,none⟩=some (.int .i64 S):=cell_of_row w _ 2 _ _ _ hp;have c3:w.cell? ⟨pb,3,none⟩=some (.int .i64 T):=cell_of_row w _ 3 _ _ _ hp;have hP:=fun w=>sources_any K N S T b hT hb w
 generalize srcN K T b=q at *;clear hp;by_cases h1:1<=x
 ·have h1':(1:Int)<=(x:Int):=by omega
  by_cases h2:x<=q
  ·have h2':(x:Int)<=(q:Int):=by omega
   go_enter Tryz.func129,Tryz.ntmps129;go_wp2_with fail;refine(hP _).mono ?_;rintro e w1 ⟨rfl,hb1⟩;go_wp2_with fail;go_ret;exact⟨ret_bool (manyB_yes ⟨h1,h2⟩).symm,hb1⟩
  ·have h2':¬(x:Int)<=(q:Int):=by omega
   go_enter Tryz.func129,Tryz.ntmps129;go_wp2_with fail;refine(hP _).mono ?_;rintro e w1 ⟨rfl,hb1⟩;go_wp2_with fail;go_ret;exact⟨ret_bool (manyB_no (by omega)).symm,hb1⟩
 ·have h1':¬(1:Int)<=(x:Int):=by omega
  go_enter Tryz.func129,Tryz.ntmps129;go_wp2_with fail;go_ret;exact⟨ret_bool (manyB_no (by omega)).symm,Below.refl _ _⟩
theorem calls_enters_lblock(args:Array Value)(w:World):(callFunc 128 args).run Tryz.prog w=.ok (.enter 128 args) w:=enters_of Tryz.func128 (by kernel_rfl) rfl args w
theorem calls_enters_lmany(args:Array Value)(w:World):(callFunc 129 args).run Tryz.prog w=.ok (.enter 129 args) w:=enters_of Tryz.func129 (by kernel_rfl) rfl args w
theorem lack_any(A:Nat->Addr)(B0:Nat)(b o n c rb K N S T k least:Nat)(m:List Gf.F)(w:World)(hE:Errs A B0 w)(hB0:B0<=rb)(hcfg:Cfg K N S)(hT:T<=70000)(hR:Rdr w rb (.slice (some ⟨b,o,none⟩) n c) k)(hk:k<=n)(hm:m.length=n)(hn:n<=c)(hc:c<=9223372036854775807)(hn2:n<=140737488355328)(hB:Bs w b o m)(hbr:b≠rb)(hbl:b<w.heap.size):
 Calls Tryz.prog 114 #[.agg #[.int .i64 K,.int .i64 N,.int .i64 S,.int .i64 T],.int .i64 least,.pointer (some ⟨rb,0,none⟩)] w (LackGives A K T rb (.slice (some ⟨b,o,none⟩) n c) m k least w):=by
 have hmf:∀(fn:Fn) (first cap:Array Value) (w:World),(Instr.makeFunc fn first cap).run Tryz.prog w=.ok (.func fn first cap) w:=fun _ _ _ _=>rfl
 have HK1:Hid (1<=K/\K<=8):=⟨hcfg.k1,hcfg.k8⟩;clear hcfg;have hst:=LackSt.start (K:=K) (N:=N) (S:=S) (T:=T) (least:=least) hR;clear hR;go_enter Tryz.func114,Tryz.ntmps114;go_upto_region 1 with fail;generalize (((w.alloc (.cells #[.int .i64 K,.int .i64 N,.int .i64 S,.int .i64 T] 148)).alloc (.cells #[.int .i64 least] 3)).alloc (.cells #[.int .i64 0,.int .i64 0] 122))=W at *;have hE0:=hst.errs hE hB0;have s0:W.cell? ⟨6,0,none⟩=some (.iface 269 (.pointer (some (A 3)))):=hE0.cell 3 (by omega);have g0:W.cell? ⟨2,0,none⟩=some (.iface 269 (.pointer (some (A 5)))):=hE0.cell 5 (by omega);by_cases hq0:n<k+1
 ·go_wp2_with fail
  refine(number_short (some ⟨b,o,none⟩) rb n c k 1 _ _ _ _ _ W hst.rdr hn2 (by omega) (by omega) (by omega) s0).mono ?_;rintro e X1 ⟨v,rfl,⟨pb,rfl,hpb,hblk⟩,hbX⟩;have hsX:=(hst.grow hbX).but.size;have hlX:=lt_of_block (hst.grow hbX).res;have hstX:=(hst.grow hbX).grow ((Below.refl X1.heap.size X1).alloc (Nat.le_refl _) (.cells #[.int .i64 0] 3));have hblk2:(X1.alloc (.cells #[.int .i64 0] 3)).heap[pb]?=_:=(Below.heap_alloc X1 _ pb (lt_of_block hblk)).trans hblk;go_upto_region 3 with fail;generalize X1.alloc (.cells #[.int .i64 0] 3)=X2 at hstX hblk2 ⊢
  replace hblk:=hblk2
  clear hblk2;have d0:X2.cell? ⟨w.heap.size+2,0,none⟩=some (.int .i64 0):=cell_of_row X2 _ 0 _ _ _ hstX.res;have d1:X2.cell? ⟨w.heap.size+2,1,none⟩=some (.int .i64 0):=cell_of_row X2 _ 1 _ _ _ hstX.res;have f0:=frozen_of_row X2 _ 0 _ _ hstX.res;have f1:=frozen_of_row X2 _ 1 _ _ hstX.res;have hst9:=hstX.set 0 0;have hblk9:((X2.setCell ⟨w.heap.size+2,0,none⟩ (.int .i64 0)).setCell ⟨w.heap.size+2,1,none⟩ (.int .i64 0)).heap[pb]?=_:=((Below.heap_setCell _ ⟨w.heap.size+2,1,none⟩ (.int .i64 0) pb (by have:=lt_of_block hst.res;show pb≠w.heap.size+2;omega)).trans (Below.heap_setCell X2 ⟨w.heap.size+2,0,none⟩ (.int .i64 0) pb (by have:=lt_of_block hst.res;show pb≠w.heap.size+2;omega))).trans hblk;go_wp2_with fail;generalize (X2.setCell ⟨w.heap.size+2,0,none⟩ (.int .i64 0)).setCell ⟨w.heap.size+2,1,none⟩ (.int .i64 0)=W9 at hst9 hblk9 ⊢;have c0:W9.cell? ⟨w.heap.size+2,0,none⟩=some (.int .i64 0):=cell_of_row W9 _ 0 _ _ _ hst9.res;have c1:W9.cell? ⟨w.heap.size+2,1,none⟩=some (.int .i64 0):=cell_of_row W9 _ 1 _ _ _ hst9.res;exact bodyPost_ret (v:=.tuple #[.agg #[.int .i64 0,.int .i64 0],.iface 166 (.pointer (some ⟨pb,0,none⟩))]) (by simp[results,Tryz.results114,go_sem,c0,c1]) rfl (LackGives.bad (c:=4) (p:=n) (by simp[lackB,hm,hq0]) ⟨pb,rfl,by have:=hst.but.size;omega,hblk9⟩ hst9.but)
 ·have hB1:Bs W b o m:=fun i hi=>by rw[World.cell?_of_block (hst.but.block b hbl hbr)];exact hB i hi
  go_wp2_with fail
  refine(number_all rb b o n c k 1 m _ _ 128 #[] #[.pointer (some ⟨w.heap.size+1,0,none⟩),.pointer (some ⟨w.heap.size,0,none⟩)] (blkB K T least (bt m k)) W calls_enters_lblock hst.rdr hm hn hc (by omega) (by omega) (by omega) hn2 hB1 hbr (fun V hV=>by
   rw[numAt_one];have hl:=hst.low;exact lblock_any w.heap.size (w.heap.size+1) K N S T least (bt m k) HK1.out.1 HK1.out.2 hT V (by rw[hV.block _ (lt_of_block hst.plan) (by omega)];exact hst.plan) (cell_of_row V _ 0 _ _ _ (by rw[hV.block _ (lt_of_block hst.lst) (by omega)];exact hst.lst)))).mono ?_
  rintro e W1 ⟨he,hr1,hb1⟩;have hst1:=hst.next hb1 hr1;clear s0 g0 hB1;cases hk0:blkB K T least (bt m k)
  ·rw[hk0]at he
   simp only[Bool.false_eq_true,if_false]at he;obtain⟨v,rfl,⟨pb,rfl,hpb,hblk⟩⟩:=he;have hstX:=hst1.grow ((Below.refl W1.heap.size W1).alloc (Nat.le_refl _) (.cells #[.int .i64 0] 3));have hblk2:(W1.alloc (.cells #[.int .i64 0] 3)).heap[pb]?=_:=(Below.heap_alloc W1 _ pb (lt_of_block hblk)).trans hblk;go_upto_region 3 with fail;generalize W1.alloc (.cells #[.int .i64 0] 3)=X2 at hstX hblk2 ⊢
   replace hblk:=hblk2
   clear hblk2;have d0:X2.cell? ⟨w.heap.size+2,0,none⟩=some (.int .i64 0):=cell_of_row X2 _ 0 _ _ _ hstX.res;have d1:X2.cell? ⟨w.heap.size+2,1,none⟩=some (.int .i64 0):=cell_of_row X2 _ 1 _ _ _ hstX.res;have f0:=frozen_of_row X2 _ 0 _ _ hstX.res;have f1:=frozen_of_row X2 _ 1 _ _ hstX.res;have hst9:=hstX.set 0 0;have hblk9:((X2.setCell ⟨w.heap.size+2,0,none⟩ (.int .i64 0)).setCell ⟨w.heap.size+2,1,none⟩ (.int .i64 0)).heap[pb]?=_:=((Below.heap_setCell _ ⟨w.heap.size+2,1,none⟩ (.int .i64 0) pb (by have:=lt_of_block hst.res;show pb≠w.heap.size+2;omega)).trans (Below.heap_setCell X2 ⟨w.heap.size+2,0,none⟩ (.int .i64 0) pb (by have:=lt_of_block hst.res;show pb≠w.heap.size+2;omega))).trans hblk;go_wp2_with fail;generalize (X2.setCell ⟨w.heap.size+2,0,none⟩ (.int .i64 0)).setCell ⟨w.heap.size+2,1,none⟩ (.int .i64 0)=W9 at hst9 hblk9 ⊢;have c0:W9.cell? ⟨w.heap.size+2,0,none⟩=some (.int .i64 0):=cell_of_row W9 _ 0 _ _ _ hst9.res;have c1:W9.cell? ⟨w.heap.size+2,1,none⟩=some (.int .i64 0):=cell_of_row W9 _ 1 _ _ _ hst9.res;exact bodyPost_ret (v:=.tuple #[.agg #[.int .i64 0,.int .i64 0],.iface 166 (.pointer (some ⟨pb,0,none⟩))]) (by simp[results,Tryz.results114,go_sem,c0,c1]) rfl (LackGives.bad (c:=6) (p:=k) (by simp[lackB,hm,hq0,hk0]) ⟨pb,rfl,by have:=hst.but.size;omega,hblk9⟩ hst9.but)
  ·rw[hk0]at he
   simp only[if_true,numAt_one]at he;subst he
   have hbK:bt m k*K<T:=partsN_mul HK1.out.1 (by
    unfold blkB at hk0;simp only[Bool.and_eq_true]at hk0;have:=winB_iff.1 hk0.2;omega)
   have hst2:=hst1.grow ((Below.refl W1.heap.size W1).alloc (Nat.le_refl _) (.cells #[.int .i64 (bt m k:Int)] 3));have hbv:(W1.alloc (.cells #[.int .i64 (bt m k:Int)] 3)).heap[W1.heap.size]?=some (.cells #[.int .i64 (bt m k:Int)] 3 (0,0)):=heap_alloc_new W1 _;have hW1r:rb<W1.heap.size:=hst1.rdr.lt;have hW1s:w.heap.size+2<W1.heap.size:=lt_of_block hst1.res;go_upto_region 4 with fail;generalize W1.alloc (.cells #[.int .i64 (bt m k:Int)] 3)=W2 at hst2 hbv ⊢;generalize hbb:W1.heap.size=bb at hbv hW1r hW1s ⊢;clear hst1 hst hb1 hr1 hbb;have hE2:=hst2.errs hE hB0;have s2:W2.cell? ⟨6,0,none⟩=some (.iface 269 (.pointer (some (A 3)))):=hE2.cell 3 (by omega);have g2:W2.cell? ⟨2,0,none⟩=some (.iface 269 (.pointer (some (A 5)))):=hE2.cell 5 (by omega);by_cases hq1:n<k+2
   ·go_wp2_with fail
    refine(number_short (some ⟨b,o,none⟩) rb n c (k+1) 1 _ _ _ _ _ W2 hst2.rdr hn2 (by omega) (by omega) (by omega) s2).mono ?_;rintro e X1 ⟨v,rfl,⟨pb,rfl,hpb,hblk⟩,hbX⟩;have hstX:=hst2.grow hbX;have d0:X1.cell? ⟨w.heap.size+2,0,none⟩=some (.int .i64 0):=cell_of_row X1 _ 0 _ _ _ hstX.res;have d1:X1.cell? ⟨w.heap.size+2,1,none⟩=some (.int .i64 0):=cell_of_row X1 _ 1 _ _ _ hstX.res;have f0:=frozen_of_row X1 _ 0 _ _ hstX.res;have f1:=frozen_of_row X1 _ 1 _ _ hstX.res;have hst9:=hstX.set 0 0;have hblk9:((X1.setCell ⟨w.heap.size+2,0,none⟩ (.int .i64 0)).setCell ⟨w.heap.size+2,1,none⟩ (.int .i64 0)).heap[pb]?=_:=((Below.heap_setCell _ ⟨w.heap.size+2,1,none⟩ (.int .i64 0) pb (by have:=lt_of_block hst2.res;show pb≠w.heap.size+2;omega)).trans (Below.heap_setCell X1 ⟨w.heap.size+2,0,none⟩ (.int .i64 0) pb (by have:=lt_of_block hst2.res;show pb≠w.heap.size+2;omega))).trans hblk;go_wp2_with fail;generalize (X1.setCell ⟨w.heap.size+2,0,none⟩ (.int .i64 0)).setCell ⟨w.heap.size+2,1,none⟩ (.int .i64 0)=W9 at hst9 hblk9 ⊢;have c0:W9.cell? ⟨w.heap.size+2,0,none⟩=some (.int .i64 0):=cell_of_row W9 _ 0 _ _ _ hst9.res;have c1:W9.cell? ⟨w.heap.size+2,1,none⟩=some (.int .i64 0):=cell_of_row W9 _ 1 _ _ _ hst9.res;exact bodyPost_ret (v:=.tuple #[.agg #[.int .i64 0,.int .i64 0],.iface 166 (.pointer (some ⟨pb,0,none⟩))]) (by simp[results,Tryz.results114,go_sem,c0,c1]) rfl (LackGives.bad (c:=4) (p:=n) (by simp[lackB,hm,hq0,hk0,hq1]) ⟨pb,rfl,by have:=hst2.but.size;omega,hblk9⟩ hst9.but)
   ·have hB2:Bs W2 b o m:=fun i hi=>by rw[World.cell?_of_block (hst2.but.block b hbl hbr)];exact hB i hi
    go_wp2_with fail
    refine(number_all rb b o n c (k+1) 1 m _ _ 129 #[] #[.pointer (some ⟨w.heap.size,0,none⟩),.pointer (some ⟨bb,0,none⟩)] (manyB (srcN K T (bt m k)) (bt m (k+1))) W2 calls_enters_lmany hst2.rdr hm hn hc (by omega) (by omega) (by omega) hn2 hB2 hbr (fun V hV=>by
     rw[numAt_one];have hl:=hst2.low;exact lmany_any w.heap.size bb K N S T (bt m k) (bt m (k+1)) hT hbK V (by rw[hV.block _ (lt_of_block hst2.plan) (by omega)];exact hst2.plan) (cell_of_row V _ 0 _ _ _ (by rw[hV.block _ (lt_of_block hbv) (by omega)];exact hbv)))).mono ?_
    rintro e W3 ⟨he,hr3,hb3⟩;have hst3:=hst2.next hb3 hr3;have hbv3:W3.heap[bb]?=some (.cells #[.int .i64 (bt m k:Int)] 3 (0,0)):=by rw[hb3.block _ (lt_of_block hbv) (by omega)];exact hbv
    clear s2 g2 hB2 hE2;cases hk1:manyB (srcN K T (bt m k)) (bt m (k+1))
    ·rw[hk1]at he
     simp only[Bool.false_eq_true,if_false]at he;obtain⟨v,rfl,⟨pb,rfl,hpb,hblk⟩⟩:=he;have d0:W3.cell? ⟨w.heap.size+2,0,none⟩=some (.int .i64 0):=cell_of_row W3 _ 0 _ _ _ hst3.res;have d1:W3.cell? ⟨w.heap.size+2,1,none⟩=some (.int .i64 0):=cell_of_row W3 _ 1 _ _ _ hst3.res;have f0:=frozen_of_row W3 _ 0 _ _ hst3.res;have f1:=frozen_of_row W3 _ 1 _ _ hst3.res;have hst9:=hst3.set 0 0;have hblk9:((W3.setCell ⟨w.heap.size+2,0,none⟩ (.int .i64 0)).setCell ⟨w.heap.size+2,1,none⟩ (.int .i64 0)).heap[pb]?=_:=((Below.heap_setCell _ ⟨w.heap.size+2,1,none⟩ (.int .i64 0) pb (by have:=lt_of_block hst2.res;show pb≠w.heap.size+2;omega)).trans (Below.heap_setCell W3 ⟨w.heap.size+2,0,none⟩ (.int .i64 0) pb (by have:=lt_of_block hst2.res;show pb≠w.heap.size+2;omega))).trans hblk;go_wp2_with fail;generalize (W3.setCell ⟨w.heap.size+2,0,none⟩ (.int .i64 0)).setCell ⟨w.heap.size+2,1,none⟩ (.int .i64 0)=W9 at hst9 hblk9 ⊢;have c0:W9.cell? ⟨w.heap.size+2,0,none⟩=some (.int .i64 0):=cell_of_row W9 _ 0 _ _ _ hst9.res;have c1:W9.cell? ⟨w.heap.size+2,1,none⟩=some (.int .i64 0):=cell_of_row W9 _ 1 _ _ _ hst9.res;exact bodyPost_ret (v:=.tuple #[.agg #[.int .i64 0,.int .i64 0],.iface 166 (.pointer (some ⟨pb,0,none⟩))]) (by simp[results,Tryz.results114,go_sem,c0,c1]) rfl (LackGives.bad (c:=6) (p:=k+1) (by simp[lackB,hm,hq0,hk0,hq1,hk1]) ⟨pb,rfl,by have:=hst2.but.size;omega,hblk9⟩ hst9.but)
    ·rw[hk1]at he
     simp only[if_true,numAt_one]at he;subst he;clear hst2 hb3 hr3;have cb:W3.cell? ⟨bb,0,none⟩=some (.int .i64 (bt m k:Int)):=cell_of_row W3 _ 0 _ _ _ hbv3;have d0:W3.cell? ⟨w.heap.size+2,0,none⟩=some (.int .i64 0):=cell_of_row W3 _ 0 _ _ _ hst3.res;have d1:W3.cell? ⟨w.heap.size+2,1,none⟩=some (.int .i64 0):=cell_of_row W3 _ 1 _ _ _ hst3.res;have f0:=frozen_of_row W3 _ 0 _ _ hst3.res;have f1:=frozen_of_row W3 _ 1 _ _ hst3.res;have hst9:=hst3.set (bt m k:Int) (bt m (k+1):Int);go_wp2_with fail;generalize (W3.setCell ⟨w.heap.size+2,0,none⟩ (.int .i64 (bt m k:Int))).setCell ⟨w.heap.size+2,1,none⟩ (.int .i64 (bt m (k+1):Int))=W9 at hst9 ⊢;have c0:W9.cell? ⟨w.heap.size+2,0,none⟩=some (.int .i64 (bt m k:Int)):=cell_of_row W9 _ 0 _ _ _ hst9.res;have c1:W9.cell? ⟨w.heap.size+2,1,none⟩=some (.int .i64 (bt m (k+1):Int)):=cell_of_row W9 _ 1 _ _ _ hst9.res
     exact bodyPost_ret (v:=.tuple #[.agg #[.int .i64 (bt m k:Int),.int .i64 (bt m (k+1):Int)],.nilIface]) (by simp[results,Tryz.results114,go_sem,c0,c1]) rfl ⟨by
      rw[show lackB K T m k least=none by simp[lackB,hm,hq0,hk0,hq1,hk1]];exact⟨rfl,hst9.rdr⟩,hst9.but⟩
def asksFrom(K T:Nat)(m:List Gf.F):Nat->Nat->Nat->Option (Nat×Nat)
 | 0,i,_=>if 1+2*i<m.length then some (7,1+2*i) else none
 | r+1,i,least=>match lackB K T m (1+2*i) least with | some e=>some e|none=>asksFrom K T m r (i+1) (bt m (1+2*i)+1)
def asksB(K T:Nat)(m:List Gf.F):Option (Nat×Nat):=
 if m.length<1 then some (4,m.length) else if manyB (partsN T K) (bt m 0)=false then some (6,0) else asksFrom K T m (bt m 0) 0 0
def lackCells(m:List Gf.F):Nat->List Value
 | 0=>[]
 | i+1=>lackCells m i++[.int .i64 (bt m (1+2*i):Int),.int .i64 (bt m (1+2*i+1):Int)]
theorem lackCells_length(m:List Gf.F):∀ i,(lackCells m i).length=i*2
 | 0=>rfl
 | i+1=>by simp[lackCells,lackCells_length m i];omega
def AsksGives(A:Nat->Addr)(K T rb:Nat)(m:List Gf.F)(w:World)(e:Ending)(w':World):Prop:=
 (match asksB K T m with
 | some (c,p)=>∃(a:Option Addr) (n1 c1:Nat) (v:Value),e=.returned (.tuple #[.slice a n1 c1,v])/\Wr w w' v (p:Int) (E A c)
 | none=>∃(a:Option Addr) (c1:Nat),e=.returned (.tuple #[.slice a (bt m 0) c1,.nilIface])/\w'.ownsRow w.heap.size 122 2 (.slice a (bt m 0) c1) (bt m 0) (lackCells m (bt m 0)))/\But (fun g=>g=rb) w w'
theorem AsksGives.bad{A:Nat->Addr}{K T rb c p n1 c1:Nat}{a:Option Addr}{m:List Gf.F}{w w':World}{v:Value}(h:asksB K T m=some (c,p))(hw:Wr w w' v (p:Int) (E A c))(hb:But (fun g=>g=rb) w w'):
 AsksGives A K T rb m w (.returned (.tuple #[.slice a n1 c1,v])) w':=by
 unfold AsksGives;rw[h];exact⟨⟨a,n1,c1,v,rfl,hw⟩,hb⟩
structure AskSt(w W:World)(K N S T rb:Nat)(v:Value)(k:Nat):Prop where
 but:But (fun g=>g=rb) w W
 plan:W.heap[w.heap.size]?=some (.cells #[.int .i64 K,.int .i64 N,.int .i64 S,.int .i64 T] 148 (0,0))
 rdr:Rdr W rb v k
 low:rb<w.heap.size
theorem AskSt.start{w:World}{K N S T rb k:Nat}{v:Value}(h:Rdr w rb v k):AskSt w (w.alloc (.cells #[.int .i64 K,.int .i64 N,.int .i64 S,.int .i64 T] 148)) K N S T rb v k:=
 ⟨(But.refl _ w).alloc _,heap_alloc_new w _,h.kept (Below.heap_alloc _ _ _ h.lt),h.lt⟩
theorem AskSt.next{w W W':World}{K N S T rb k k':Nat}{v:Value}(h:AskSt w W K N S T rb v k)(hb:But (fun g=>g=rb) W W')(hr:Rdr W' rb v k'):AskSt w W' K N S T rb v k':=
 ⟨h.but.trans hb,by rw[hb.block _ (lt_of_block h.plan) (by have:=h.low;omega)];exact h.plan,hr,h.low⟩
theorem AskSt.grow{w W W':World}{K N S T rb k:Nat}{v:Value}(h:AskSt w W K N S T rb v k)(hb:Below W.heap.size W W'):AskSt w W' K N S T rb v k:=
 h.next (Below.but hb _ (fun _ hi h=>absurd hi h)) (h.rdr.kept (hb.block _ h.rdr.lt))
theorem AskSt.above{w W W':World}{K N S T rb k:Nat}{v:Value}(h:AskSt w W K N S T rb v k)(hb:Below (w.heap.size+1) W W'):AskSt w W' K N S T rb v k:=
 ⟨h.but.below hb (fun i hi q=>by omega),by rw[hb.block _ (by omega)];exact h.plan,h.rdr.kept (hb.block _ (by have:=h.low;omega)),h.low⟩
theorem AskSt.errs{A:Nat->Addr}{B0:Nat}{w W:World}{K N S T rb k:Nat}{v:Value}(h:AskSt w W K N S T rb v k)(hE:Errs A B0 w)(hB:B0<=rb):Errs A B0 W:=hE.below (h.but.toBelow hE.size (fun k hk q=>by omega))
theorem AskSt.cells{w W:World}{K N S T rb k:Nat}{v:Value}(h:AskSt w W K N S T rb v k):W.cell? ⟨w.heap.size,0,none⟩=some (.int .i64 K)/\W.cell? ⟨w.heap.size,1,none⟩=some (.int .i64 N)/\W.cell? ⟨w.heap.size,2,none⟩=some (.int .i64 S)/\W.cell? ⟨w.heap.size,3,none⟩=some (.int .i64 T):=
 ⟨cell_of_row W _ 0 _ _ _ h.plan,cell_of_row W _ 1 _ _ _ h.plan,cell_of_row W _ 2 _ _ _ h.plan,cell_of_row W _ 3 _ _ _ h.plan⟩
theorem amany_any(pb K N S T x:Nat)(hk:1<=K)(hk8:K<=8)(hT:T<=70000)(w:World)(hp:w.heap[pb]?=some (.cells #[.int .i64 K,.int .i64 N,.int .i64 S,.int .i64 T] 148 (0,0))):
 Calls Tryz.prog 113 #[.int .i64 x,.pointer (some ⟨pb,0,none⟩)] w fun e w'=>e=.returned (.bool (manyB (partsN T K) x))/\Below w.heap.size w w':=by
 have c0:w.cell? ⟨pb,0,none⟩=some (.int .i64 K):=cell_of_row w _ 0 _ _ _ hp;have c1:w.cell? ⟨pb,1,none⟩=some (.int .i64 N):=cell_of_row w _ 1 _ _ _ hp;have c2:w.cell? ⟨pb,2,none⟩=some (.int .i64 S):=cell_of_row w _ 2 _ _ _ hp;have c3:w.cell? ⟨pb,3,none⟩=some (.int .i64 T):=cell_of_row w _ 3 _ _ _ hp;have hP:=fun w=>blocks_any K N S T hk hk8 hT w
 generalize partsN T K=q at *;clear hp;by_cases h1:1<=x
 ·have h1':(1:Int)<=(x:Int):=by omega
  by_cases h2:x<=q
  ·have h2':(x:Int)<=(q:Int):=by omega
   go_enter Tryz.func113,Tryz.ntmps113;go_wp2_with fail;refine(hP _).mono ?_;rintro e w1 ⟨rfl,hb1⟩;go_wp2_with fail;go_ret;exact⟨ret_bool (manyB_yes ⟨h1,h2⟩).symm,hb1⟩
  ·have h2':¬(x:Int)<=(q:Int):=by omega
   go_enter Tryz.func113,Tryz.ntmps113;go_wp2_with fail;refine(hP _).mono ?_;rintro e w1 ⟨rfl,hb1⟩;go_wp2_with fail;go_ret;exact⟨ret_bool (manyB_no (by omega)).symm,hb1⟩
 ·have h1':¬(1:Int)<=(x:Int):=by omega
  go_enter Tryz.func113,Tryz.ntmps113;go_wp2_with fail;go_ret;exact⟨ret_bool (manyB_no (by omega)).symm,Below.refl _ _⟩
theorem calls_enters_amany(args:Array Value)(w:World):(callFunc 113 args).run Tryz.prog w=.ok (.enter 113 args) w:=enters_of Tryz.func113 (by kernel_rfl) rfl args w
theorem Tryz.info_lack:(Tryz.prog.info? 122).map (fun i=>(i.zero,i.size,i.bytes))=some (some (.agg #[.int .i64 0,.int .i64 0]),2,16):=by kernel_rfl
theorem Tryz.lack_parts:∃ i,Tryz.prog.info? 122=some i/\i.zero=some (.agg #[.int .i64 0,.int .i64 0])/\i.size=2/\i.bytes=16:=by
 have h:=Tryz.info_lack
 cases hi:Tryz.prog.info? 122 with
 | none=>rw[hi]at h;simp at h
 | some i=>rw[hi]at h;simp at h;exact⟨i,rfl,h.1,h.2.1,h.2.2⟩
theorem cell_two_at(w:World)(u v:Value)(t:TypeId)(H:Nat)(hH:H=w.heap.size):∀ j x,[u,v][j]?=some x->(w.alloc (.cells #[u,v] t)).cell? ((⟨H,0,none⟩:Addr).add j)=some x:=by
 intro j x hj;subst hH;have e:(⟨w.heap.size,0,none⟩:Addr).add j=⟨w.heap.size,j,none⟩:=by unfold Addr.add;split<;>simp_all
 rw[e,World.cell?_alloc_at _ _ _ _ rfl]
 match j,hj with
 | 0,h=>simpa using h
 | 1,h=>simpa using h
theorem own_form2{w:World}{B sz:Nat}{e:TypeId}{n:Nat}{v:Value}{xs:List Value}(h:w.ownsRow B e sz v n xs):∃ a c,v=.slice a n c/\True:=by
 obtain⟨h1,h2⟩:=h;rcases h2 with⟨rfl,rfl⟩|⟨g,cap,cur,rfl,_⟩
 ·exact⟨none,0,rfl,trivial⟩
 ·exact⟨_,_,rfl,trivial⟩
theorem own_base2{w:World}{B B' n sz:Nat}{e:TypeId}{v:Value}{xs:List Value}(h:w.ownsRow B e sz v n xs)(hB:B'<=B):w.ownsRow B' e sz v n xs:=by
 obtain⟨h1,h2⟩:=h;refine⟨h1,?_⟩;rcases h2 with h2|⟨g',cap,cur,h3,h4,h5⟩
 ·exact .inl h2
 ·exact .inr ⟨g',cap,cur,h3,Nat.le_trans hB h4,h5⟩
theorem asks_any(A:Nat->Addr)(B0:Nat)(a:Option Addr)(b o n c rb K N S T:Nat)(m:List Gf.F)(w:World)(hE:Errs A B0 w)(hB0:B0<=rb)(hcfg:Cfg K N S)(hT:T<=70000)(hR:Rdr w rb (.slice a n c) 0)(hm:m.length=n)(hn:n<=c)(hc:c<=9223372036854775807)(hn2:n<=140737488355328)(ha:0<n->a=some ⟨b,o,none⟩)(hB:Bs w b o m)(hb:0<n->b≠rb/\b<w.heap.size):
 Calls Tryz.prog 67 #[.agg #[.int .i64 K,.int .i64 N,.int .i64 S,.int .i64 T],.pointer (some ⟨rb,0,none⟩)] w (AsksGives A K T rb m w):=by
 have hmf:∀(fn:Fn) (first cap:Array Value) (w:World),(Instr.makeFunc fn first cap).run Tryz.prog w=.ok (.func fn first cap) w:=fun _ _ _ _=>rfl
 have HK1:Hid (1<=K/\K<=8):=⟨hcfg.k1,hcfg.k8⟩;have HCF:Hid (Cfg K N S):=hcfg;clear hcfg;obtain⟨iL,hiL,hiL0,hiL1,hiL2⟩:=Tryz.lack_parts;have hst:=AskSt.start (K:=K) (N:=N) (S:=S) (T:=T) hR;clear hR;go_enter Tryz.func67,Tryz.ntmps67;go_upto_region 1 with fail;generalize w.alloc (.cells #[.int .i64 K,.int .i64 N,.int .i64 S,.int .i64 T] 148)=W at *;have hE0:=hst.errs hE hB0;have s0:W.cell? ⟨6,0,none⟩=some (.iface 269 (.pointer (some (A 3)))):=hE0.cell 3 (by omega);have g0:W.cell? ⟨2,0,none⟩=some (.iface 269 (.pointer (some (A 5)))):=hE0.cell 5 (by omega);by_cases hq0:n<1
 ·go_wp2_with fail
  refine(number_short a rb n c 0 1 _ _ _ _ _ W hst.rdr hn2 (by omega) (by omega) (by omega) s0).mono ?_;rintro e X1 ⟨v,rfl,⟨pb,rfl,hpb,hblk⟩,hbX⟩;have hstX:=hst.grow hbX;go_wp2_with fail;go_ret2;exact AsksGives.bad (c:=4) (p:=n) (by simp[asksB,hm,hq0]) ⟨pb,rfl,by have:=hst.but.size;omega,hblk⟩ hstX.but
 ·obtain rfl:=ha (by omega)
  obtain⟨hbr,hbl⟩:=hb (by omega);have hB1:Bs W b o m:=fun i hi=>by rw[World.cell?_of_block (hst.but.block b hbl hbr)];exact hB i hi
  go_wp2_with fail
  refine(number_all rb b o n c 0 1 m _ _ 113 #[] #[.pointer (some ⟨w.heap.size,0,none⟩)] (manyB (partsN T K) (bt m 0)) W calls_enters_amany hst.rdr hm hn hc (by omega) (by omega) (by omega) hn2 hB1 hbr (fun V hV=>by
   rw[numAt_one];have hl:=hst.low;exact amany_any w.heap.size K N S T (bt m 0) HK1.out.1 HK1.out.2 hT V (by rw[hV.block _ (lt_of_block hst.plan) (by omega)];exact hst.plan))).mono ?_
  rintro e W1 ⟨he,hr1,hb1⟩;have hst1:=hst.next hb1 hr1;clear s0 g0 hB1;cases hk0:manyB (partsN T K) (bt m 0)
  ·rw[hk0]at he
   simp only[Bool.false_eq_true,if_false]at he;obtain⟨v,rfl,⟨pb,rfl,hpb,hblk⟩⟩:=he;go_wp2_with fail;go_ret2;exact AsksGives.bad (c:=6) (p:=0) (by simp[asksB,hm,hq0,hk0]) ⟨pb,rfl,by have:=hst.but.size;omega,hblk⟩ hst1.but
  ·rw[hk0]at he
   simp only[if_true,numAt_one]at he;subst he;have HAB:Hid (asksB K T m=asksFrom K T m (bt m 0) 0 0):=by show _=_;simp[asksB,hm,hq0,hk0]
   have hmany:=bt_lt m 0
   have hmany1:1<=bt m 0:=by
    rcases Nat.eq_zero_or_pos (bt m 0)with h|h
    ·rw[h]at hk0;cases hk0
    ·exact h
   have HMO:Hid (∀ i,bt m i<256):=bt_lt m;obtain⟨M,hM⟩:∃ M,M=bt m 0:=⟨_,rfl⟩;rw[<- hM]at HAB hmany hmany1 ⊢;have HM:Hid (M=bt m 0):=hM;clear hM hb1 hr1 hst hk0;have hs1:=lt_of_block hst1.plan;go_wp2_with (at_make;refine wpList_make_own _ rfl _ _ 58 rfl (w.heap.size+1) 122 iL (.agg #[.int .i64 0,.int .i64 0]) 2 Tryz.underlying58 hiL hiL0 hiL1 _ _ _ M rfl rfl rfl ?b2 ?b3 (by omega) ?_)
   case b2=>rw[hiL2];omega
   case b3=>unfold maxLen;omega
   intro w2 hown2 hgr2;have hst2:=hst1.above (k:=1) ((Below.refl _ W1).grown hgr2 (by omega) (fun k h=>by cases h));clear hgr2 hst1 hs1;go_wp2_with fail
   go_loopw[8,9,25] (fun t8 t9 t25 wr=>∃(i least:Nat),i<=M/\t25=.int .i64 i/\t9=.int .i64 least/\least<=256/\wr.ownsRow (w.heap.size+1) 122 2 t8 i (lackCells m i)/\AskSt w wr K N S T rb (.slice (some ⟨b,o,none⟩) n c) (1+2*i)/\Hid (asksB K T m=asksFrom K T m (M - i) i least)/\Hid (1+2*i<=n)) (fun _ _ t _=>M - (intOf t).toNat)
   case atStart=>exact⟨0,0,by omega,rfl,rfl,by omega,hown2,hst2,HAB,by show _<=_;omega⟩
   case round=>
    clear hown2 hst2;obtain⟨i,least,hi,rfl,rfl,hle,hown,hst,HF,HN⟩:=hrel;obtain⟨c0,c1,c2,c3⟩:=hst.cells;have hlp:=lt_of_block hst.plan;by_cases hlt:i<M
    ·have hlt':(i:Int)<(M:Int):=by omega
     have hB2:Bs wr b o m:=fun i hi=>by rw[World.cell?_of_block (hst.but.block b hbl hbr)];exact hB i hi
     have hE2:=hst.errs hE hB0;have hl2:=hst.low;go_wp2_with fail;refine(lack_any A B0 b o n c rb K N S T (1+2*i) least m wr hE2 hB0 HCF.out hT hst.rdr HN.out hm hn hc hn2 hB2 hbr (by have:=hst.but.size;omega)).mono ?_;intro e w1 hL;obtain⟨hL1,hL2⟩:=hL
     have hFs:asksFrom K T m (M - i) i least=match lackB K T m (1+2*i) least with | some e=>some e|none=>asksFrom K T m (M - (i+1)) (i+1) (bt m (1+2*i)+1):=by
      rw[show M - i=(M - (i+1))+1 by omega];rfl
     cases hlk:lackB K T m (1+2*i) least with
     | some ep=>
      obtain⟨ec,ep⟩:=ep;rw[hlk]at hL1 hFs;obtain⟨v,rfl,⟨pb,rfl,hpb,hblk⟩⟩:=hL1;have hbut:But (fun g=>g=rb) w (w1.alloc (.cells #[.int .i64 0,.int .i64 0] 122)):=(hst.but.trans hL2).alloc _;have hblk2:(w1.alloc (.cells #[.int .i64 0,.int .i64 0] 122)).heap[pb]?=_:=(Below.heap_alloc w1 _ pb (lt_of_block hblk)).trans hblk;have hsz:=hst.but.size;have HBAD:Hid (asksB K T m=some (ec,ep)):=by show _=_;rw[HF.out,hFs]
      clear hFs hlk hL2 hblk hown;go_wp2_with fail;go_ret2;exact AsksGives.bad HBAD.out ⟨pb,rfl,by omega,hblk2⟩ hbut
     | none=>
      rw[hlk]at hL1 hFs;obtain⟨rfl,hr1⟩:=hL1;have hst1:=hst.next hL2 hr1;have hown1:=own_of_block hown (fun g hg=>hL2.block g (hown.lt g hg).2 (by have:=(hown.lt g hg).1;omega))
      have hlk2:1+2*i+2<=n:=by
       unfold lackB at hlk;rw[hm]at hlk;by_cases h1:n<1+2*i+1
       ·rw[if_pos h1]at hlk;cases hlk
       ·rw[if_neg h1]at hlk
        split at hlk
        ·cases hlk
        ·by_cases h2:n<1+2*i+2
         ·rw[if_pos h2]at hlk;cases hlk
         ·omega
      have hx:=HMO.out (1+2*i);have hy:=HMO.out (1+2*i+1);have HF2:Hid (asksB K T m=asksFrom K T m (M - (i+1)) (i+1) (bt m (1+2*i)+1)):=by show _=_;rw[HF.out,hFs]
      have HLC:Hid (lackCells m (i+1)=lackCells m i++[.int .i64 (bt m (1+2*i):Int),.int .i64 (bt m (1+2*i+1):Int)]):=rfl;have hl1:=lt_of_block hst1.plan;obtain⟨x,hxe⟩:∃ x,x=bt m (1+2*i):=⟨_,rfl⟩;obtain⟨y,hye⟩:∃ y,y=bt m (1+2*i+1):=⟨_,rfl⟩;rw[<- hxe,<- hye]at HLC;rw[<- hxe]at HF2 hx;rw[<- hye]at hy;rw[<- hxe,<- hye];clear hFs hlk hL2 hr1 hst hown c0 c1 c2 c3 hxe hye;go_wp2_with (at_builtin;refine wpList_append_lies _ rfl _ _ _ rfl (w.heap.size+1) 122 iL (.agg #[.int .i64 0,.int .i64 0]) 2 16 Tryz.underlying58 hiL hiL0 hiL1 hiL2 rfl (by omega) u8 i (lackCells m i) rfl ((hown1.alloc _).alloc _) ⟨w1.heap.size+1,0,none⟩ 1 1 [.int .i64 x,.int .i64 y] rfl rfl ?c1 ?c2 (by omega) ?c3 (by omega) ?c4 (w1.heap.size+2) ?c5 ?_)
      case c1=>exact cell_two_at (w1.alloc _) _ _ _ _ (by simp)
      case c2=>intro u hu;simp at hu;rcases hu with rfl|rfl<;>rfl
      case c3=>unfold maxLen;omega
      case c4=>simp;omega
      case c5=>simp
      intro g6 cap6 w6 hown6 hgr6 hlie6 hlt6;have hb6:Below (w.heap.size+1) w1 w6:=(((Below.refl _ w1).alloc (by omega) _).alloc (by simp;omega) _).grown hgr6 (by simp;omega) (fun t ht=>(own_lt hown1 ht).1);have hst6:=hst1.above hb6
      have hcx:w6.cell? ⟨w1.heap.size,0,none⟩=some (.int .i64 x):=by
       have h1:w6.heap[w1.heap.size]?=some (.cells #[.int .i64 x,.int .i64 y] 122 (0,0)):=by
        rw[grown_block hgr6 (by simp;omega) (fun p=>by have:=(hown1.lt _ p).2;omega),Below.heap_alloc _ _ _ (by simp)];exact heap_alloc_new w1 _
       exact cell_of_row w6 _ 0 _ _ _ h1
      rw[<- HLC.out]at hown6;clear hgr6 hlie6 hb6 hst1 hown1;go_wp2_with fail
      go_roundw
      case rel=>exact⟨i+1,x+1,by omega,by go_num,by go_num,by omega,hown6,hst6,HF2,by show _<=_;omega⟩
      case measure=>simp[intOf];omega
    ·obtain rfl:i=M:=by omega
     have hii:¬(i:Int)<(i:Int):=by omega
     have hE2:=hst.errs hE hB0;have l2:wr.cell? ⟨7,0,none⟩=some (.iface 269 (.pointer (some (A 6)))):=hE2.cell 6 (by omega);have HF2:Hid (asksB K T m=if 1+2*i<n then some (7,1+2*i) else none):=by show _=_;rw[HF.out,Nat.sub_self,<- hm];rfl
     obtain⟨a8,c8,rfl,_⟩:=own_form2 hown;by_cases hq1:1+2*i<n
     ·go_wp2_with fail
      refine(end_long A B0 rb b o n c (1+2*i) _ hE2 hst.rdr hq1 hn hc hn2).mono ?_;rintro e Y2 ⟨v,rfl,⟨pb,rfl,hpb,hblk⟩,hy2⟩;have hst9:=hst.grow hy2;go_wp2_with fail;go_ret2;exact AsksGives.bad (c:=7) (p:=1+2*i) (by rw[HF2.out,if_pos hq1]) ⟨pb,rfl,by have:=hst.but.size;omega,hblk⟩ hst9.but
     ·obtain rfl:n=1+2*i:=by have:=HN.out;omega
      go_wp2_with fail;refine(end_ok A B0 (some ⟨b,o,none⟩) rb (1+2*i) c _ hE2 hst.rdr hn2).mono ?_;rintro e Y2 ⟨rfl,hy2⟩;have hst9:=hst.grow hy2;have hown9:=own_of_block hown (fun g hg=>hy2.block g (hown.lt g hg).2);go_wp2_with fail;go_ret2;refine⟨?_,hst9.but⟩;rw[HF2.out,if_neg hq1];rw[HM.out]at hown9 ⊢;exact⟨a8,c8,rfl,own_base2 hown9 (by omega)⟩
end Go.Proofs.YtjabhnhejbhgjaaGreatDoor
