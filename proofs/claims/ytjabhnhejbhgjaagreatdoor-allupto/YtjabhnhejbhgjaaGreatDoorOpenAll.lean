import Derived.Test.YtjabhnhejbhgjaaGreatDoorMany34
import Derived.Test.YtjabhnhejbhgjaaGreatDoorBulk
import Derived.Test.YtjabhnhejbhgjaaGreatDoorNineLaid
import Derived.ProofKit
import Derived.OpenShut
import Derived.LaidHandle
import Derived.Deep.Slices
set_option maxRecDepth 100000
set_option maxHeartbeats 8000000
namespace Go.Proofs.YtjabhnhejbhgjaaGreatDoor
open Go.ChangeShapes Go.WideShapes Go.ChangeAt Go.RowKit
theorem ob_plain{w:World}{x:Addr}{v:Value}(h:w.cell? (x.add 0)=some v):x=⟨x.block,x.off,none⟩:=by
 obtain⟨b,off,spot⟩:=x;have hspot:spot=none:=by simpa [Addr.add] using World.cell?_spot h
 subst hspot;rfl
theorem ob_add(b o i:Nat):(⟨b,o,none⟩:Addr).add i=⟨b,o+i,none⟩:=by unfold Addr.add;split<;>simp_all
theorem ob_wf{z:Int}(h:(Lit.int .u8 z).wf=true):0<=z/\z<=255:=by
 simp[Lit.wf,IntKind.min,IntKind.max,IntKind.signed,IntKind.bits]at h;omega
theorem ob_back{z:Int}(h:0<=z/\z<=255):(((BitVec.ofInt 8 z:Gf.F).toNat:Nat):Int)=z:=by
 rw[BitVec.toNat_ofInt];omega
theorem Tryz.cellsU8:Tryz.prog.cellsOf 5=1:=by kernel_rfl
theorem ob_at{Z:List Int}{L j:Nat}(hL:L<=Z.length)(hj:j<L)(hw:∀ n ∈ Z,(Lit.int .u8 n).wf=true):((at_ ((Z.take L).map (BitVec.ofInt 8:Int->Gf.F)) j).toNat:Int)=Z.getD j 0:=by
 have hj':j<Z.length:=by omega
 have e:at_ ((Z.take L).map (BitVec.ofInt 8:Int->Gf.F)) j=BitVec.ofInt 8 (Z.getD j 0):=by
  simp[at_,List.getD,hj,hj']
 rw[e];refine ob_back (ob_wf (hw _ ?_));rw[List.getD_eq_getElem?_getD,List.getElem?_eq_getElem hj'];exact List.getElem_mem hj'
theorem Tryz.cellsI:Tryz.prog.cellsOf 3=1:=by kernel_rfl
theorem Tryz.cellsSl:Tryz.prog.cellsOf 33=1:=by kernel_rfl
theorem Tryz.cellsCf:Tryz.prog.cellsOf 30=3:=by kernel_rfl
theorem Tryz.cellsOp:Tryz.prog.cellsOf 83=8:=by kernel_rfl
theorem op_wf{z:Int}(h:(Lit.int .i64 z).wf=true):-9223372036854775808<=z/\z<=9223372036854775807:=by
 simp[Lit.wf,IntKind.min,IntKind.max,IntKind.signed,IntKind.bits]at h;omega
theorem bulk_agg{H:Type}(ds:List (DataW H)):Rows.uptoBulkAll ds<=Rows.uptoBulk (.agg ds):=by
 rw[Rows.uptoBulk];omega
theorem op_bytes{H:Type}{enc:TypeId×Value->H}{W:World}{fuel:Nat}{v:Value}{x:DataW H×List MemPlace}(h:DataW.trod enc Tryz.prog W 0 (fun _=>true) true fuel 33 [v]=some x)(hb:Rows.uptoBulk x.1<=1048576):
 ∃ p n c b o l,v=.slice p n c/\OpB (fun _=>1) W p b o n c l:=by
 rcases open_ints Tryz.underlying33 Tryz.underlying5 Tryz.cellsU8 h with⟨hcs,_⟩|⟨x',l,c,zs,hcs,_,hl,hm,hz,hx,hcell,hwz⟩
 ·simp at hcs
  subst hcs;exact⟨none,0,0,0,0,[],rfl,OpB.nil _ _⟩
 ·simp at hcs
  subst hcs;obtain⟨d,pl⟩:=x;simp only[Prod.mk.injEq]at hx;obtain⟨rfl,_⟩:=hx;simp only[if_true]at hz;have hb1:=bulk_slice (H:=H) (lits .u8 (zs.take l)) (lits .u8 (zs.drop l));have hb2:=bulk_count (H:=H) (lits .u8 (zs.take l));simp only[lits,List.length_map,List.length_take]at hb2;simp only[lits]at hb1 hb;have hfew:l<=1048576:=by omega
  have hm':c<=9223372036854775807:=by unfold maxLen at hm;omega
  by_cases hz0:l=0
  ·subst hz0
   exact⟨some x',0,c,0,0,[],rfl,rfl,by omega,hm',by omega,fun h=>by omega,fun i hi=>by simp at hi,fun h=>by omega⟩
  have hxp:x'=⟨x'.block,x'.off,none⟩:=ob_plain (hcell 0 (by omega));refine⟨some x',l,c,x'.block,x'.off,(zs.take l).map (BitVec.ofInt 8:Int->Gf.F),rfl,by simp;omega,hl,hm',by omega,fun _=>by rw[<- hxp],fun i hi=>?_,fun _=>⟨?_,rfl⟩⟩
  ·have hi':i<l:=by simp at hi;omega
   rw[ob_at (by omega) hi' hwz,<- ob_add,<- hxp];exact hcell i (by omega)
  ·have q:=hcell 0 (by omega)
   rw[hxp,ob_add]at q;exact lt_of_cell (a:=⟨x'.block,x'.off+0,none⟩) q
theorem op_step{H:Type}{enc:TypeId×Value->H}{W:World}{fuel:Nat}{cs:List Value}{x:DataW H×List MemPlace}(h:DataW.trod enc Tryz.prog W 0 (fun _=>true) true fuel 83 cs=some x)(hb:Rows.uptoBulk x.1<=1048576):
 ∃ q:Opb,cs=q.cells.toList/\OpB (fun _=>1) W q.p q.b q.o q.n q.c q.l/\I64 q.on/\I64 q.tt/\I64 q.a:=by
 obtain⟨xs,k,hk,hxy,hlen,hxl,hf⟩:=DataW.trod_struct Tryz.underlying83 h;rw[Tryz.cellsOp]at hlen
 match xs,hxl,cs,hlen with
 | [y0,y1,y2,y3,y4,y5],_,[v0,v1,v2,v3,v4,v5,v6,v7],_=>
  have g0:=hf 0 _ rfl;have g1:=hf 1 _ rfl;have g2:=hf 2 _ rfl;have g3:=hf 3 _ rfl;have g4:=hf 4 _ rfl;have g5:=hf 5 _ rfl;simp[Tryz.cellsI,Tryz.cellsSl,Tryz.cellsCf]at g0 g1 g2 g3 g4 g5;obtain⟨z0,e0,_,_⟩:=DataW.trod_int Tryz.underlying3 g0;obtain⟨z1,e1,_,w1⟩:=DataW.trod_int Tryz.underlying3 g1;obtain⟨z2,e2,_,w2⟩:=DataW.trod_int Tryz.underlying3 g2;obtain⟨z3,e3,_,w3⟩:=DataW.trod_int Tryz.underlying3 g3;obtain⟨ys,k4,hk4,hxy4,hlen4,hxl4,hf4⟩:=DataW.trod_struct Tryz.underlying30 g4;have i0:=hf4 0 _ rfl;have i1:=hf4 1 _ rfl;have i2:=hf4 2 _ rfl
  match ys,hxl4 with
  | [u0,u1,u2],_=>
   simp[Tryz.cellsI]at i0 i1 i2;obtain⟨z4,e4,_,_⟩:=DataW.trod_int Tryz.underlying3 i0;obtain⟨z5,e5,_,_⟩:=DataW.trod_int Tryz.underlying3 i1;obtain⟨z6,e6,_,_⟩:=DataW.trod_int Tryz.underlying3 i2;obtain⟨d,pl⟩:=x;simp only[Prod.mk.injEq]at hxy;obtain⟨rfl,_⟩:=hxy;have hb5:Rows.uptoBulk y5.1<=1048576:=Nat.le_trans (bulk_of_mem (by simp)) (Nat.le_trans (bulk_agg _) hb);obtain⟨p,n,c,b,o,l,e7,hO⟩:=op_bytes g5 hb5;simp at e0 e1 e2 e3 e4 e5 e6;subst e0 e1 e2 e3 e4 e5 e6 e7;exact⟨⟨⟨z0,z1,z2,z3,z4,z5,z6,p,n,c⟩,b,o,l⟩,rfl,hO,op_wf w1,op_wf w2,op_wf w3⟩
theorem came_ops{H:Type}{enc:TypeId×Value->H}{W:World}{a0:Option Addr}{l0 c0:Nat}{d:DataW H}{ps:List MemPlace}(h:DataW.Trod enc Tryz.prog W 0 (fun _=>true) true 22 (.slice a0 l0 c0) d ps)(hbulk:Rows.uptoBulk d<=1048576):
 ∃ lb lo qs,OpsAt (fun _=>1) W lb lo qs/\(∀ i,i<qs.length->I64 (qat qs i).tt/\I64 (qat qs i).a)/\qs.length=l0/\l0<=1048576/\(0<l0->a0=some ⟨lb,lo,none⟩):=by
 obtain⟨fuel,hf⟩:=h;rcases Deep.open_slice Tryz.underlying22 hf with⟨hcs,_⟩|⟨a,len,cap,m,n,D,Pl,hcs,_,hl,hm,hmm,hx,hrow⟩
 ·simp[Value.cells]at hcs
  obtain⟨rfl,rfl,rfl⟩:=hcs;exact⟨0,0,[],⟨fun i hi=>by simp at hi,fun i hi=>by simp at hi,fun i hi=>by simp at hi,fun h=>by simp at h⟩,fun i hi=>by simp at hi,rfl,by omega,fun h=>by omega⟩
 ·simp[Value.cells]at hcs
  obtain⟨rfl,rfl,rfl⟩:=hcs;simp only[Prod.mk.injEq]at hx;obtain⟨rfl,_⟩:=hx;simp only[if_true]at hmm;have hb1:=bulk_slice (H:=H) ((List.range l0).map D) ((List.range (m - l0)).map fun j=>D (l0+j))
  have hfew:l0<=1048576:=by
   have:=bulk_count (H:=H) ((List.range l0).map D);simp only[List.length_map,List.length_range]at this;omega
  by_cases hz:l0=0
  ·subst hz
   exact⟨0,0,[],⟨fun i hi=>by simp at hi,fun i hi=>by simp at hi,fun i hi=>by simp at hi,fun h=>by simp at h⟩,fun i hi=>by simp at hi,rfl,by omega,fun h=>by omega⟩
  have each:∀ i,i<l0->∃ q:Opb,(∀ k,k<8->W.cell? (a.add (i*8+k))=q.cells[k]?)/\OpB (fun _=>1) W q.p q.b q.o q.n q.c q.l/\I64 q.on/\I64 q.tt/\I64 q.a:=fun i hi=>by
   obtain⟨cs',h1,h2⟩:=hrow i (by omega);rw[Tryz.cellsOp]at h1;obtain⟨_,hlen,hcell⟩:=World.cells?_some h1;have hmem:D i ∈(List.range l0).map D:=List.mem_map.2 ⟨i,List.mem_range.2 hi,rfl⟩;obtain⟨q,rfl,hO,hon⟩:=op_step h2 (Nat.le_trans (bulk_of_mem hmem) (Nat.le_trans hb1 hbulk));refine⟨q,fun k hk=>?_,hO,hon⟩;have:=hcell k hk;rw[Deep.add_add]at this;rw[this];simp
  haveI:Inhabited Opb:=⟨⟨⟨0,0,0,0,0,0,0,none,0,0⟩,0,0,[]⟩⟩;obtain⟨f,hf'⟩:=Deep.choose_lt each
  have hap:a=⟨a.block,a.off,none⟩:=by
   have:=(hf' 0 (by omega)).1 0 (by omega);exact ob_plain (v:=.int .i64 (f 0).kd) this
  have hat:∀ i,i<l0->qat ((List.range l0).map f) i=f i:=fun i hi=>by simp[qat,List.getD,hi]
  have hrl:((List.range l0).map f).length=l0:=by simp
  refine⟨a.block,a.off,(List.range l0).map f,⟨fun i hi k hk=>?_,fun i hi=>?_,fun i hi=>?_,fun _=>⟨?_,rfl⟩⟩,fun i hi=>?_,hrl,hfew,fun _=>by rw[<- hap]⟩
  ·rw[hrl]at hi
   rw[hat i hi,<- (hf' i hi).1 k hk,Nat.add_assoc,<- ob_add,<- hap]
  ·rw[hrl]at hi
   rw[hat i hi];exact(hf' i hi).2.1
  ·rw[hrl]at hi
   rw[hat i hi];exact(hf' i hi).2.2.1
  ·have q:=(hf' 0 (by omega)).1 0 (by omega)
   rw[hap,ob_add]at q;exact lt_of_cell (a:=⟨a.block,a.off+(0*8+0),none⟩) (v:=.int .i64 (f 0).kd) q
  ·rw[hrl]at hi
   rw[hat i hi];exact(hf' i hi).2.2.2
end Go.Proofs.YtjabhnhejbhgjaaGreatDoor
