import Derived.Test.YtjabhnhejbhgjaaGreatDoorMany24
import Derived.Lib.SlBytesConst
set_option maxRecDepth 100000
set_option maxHeartbeats 8000000
namespace Go.Proofs.YtjabhnhejbhgjaaGreatDoor
open Go.RowKit
theorem flat8:∀(qs:List Opb) (i k:Nat),i<qs.length->k<8->(qs.flatMap fun q=>q.cells.toList)[i*8+k]?=(qat qs i).cells[k]?
 | [],i,k,hi,hk=>by simp at hi
 | q :: qs,0,k,hi,hk=>by
  have e:(q :: qs).flatMap (fun q=>q.cells.toList)=q.cells.toList++qs.flatMap fun q=>q.cells.toList:=rfl
  rw[e,List.getElem?_append_left (by show 0*8+k<8;omega)];show q.cells.toList[0*8+k]?=q.cells[k]?;rw[Nat.zero_mul,Nat.zero_add];simp
 | q :: qs,i+1,k,hi,hk=>by
  have e:(q :: qs).flatMap (fun q=>q.cells.toList)=q.cells.toList++qs.flatMap fun q=>q.cells.toList:=rfl
  have e8:q.cells.toList.length=8:=rfl;rw[e,List.getElem?_append_right (by omega),e8,show(i+1)*8+k - 8=i*8+k by omega];exact flat8 qs i k (by simpa using hi) hk
def abcdL:List Gf.F:=[97#8,98#8,99#8,100#8]
def askL:List Gf.F:=[2#8,0#8,0#8,4#8,1#8,0#8,1#8]
def knownOps(Z:Nat):List Opb:=
 [⟨⟨1,0,0,0,2,4,3,none,0,0⟩,0,0,[]⟩,⟨⟨2,0,0,0,0,0,0,some ⟨Z+1,0,none⟩,4,4⟩,Z+1,0,abcdL⟩,⟨⟨5,0,0,0,2,4,3,none,0,0⟩,0,0,[]⟩,
  ⟨⟨7,0,0,2,0,0,0,some ⟨Z+1+1,0,none⟩,1,1⟩,Z+1+1,0,[1#8]⟩,⟨⟨4,0,0,0,0,0,0,some ⟨Z+1+1+1,0,none⟩,7,7⟩,Z+1+1+1,0,askL⟩,⟨⟨3,0,0,0,0,0,0,none,0,0⟩,0,0,[]⟩,
  ⟨⟨8,0,0,1,0,0,0,none,0,0⟩,0,0,[]⟩,⟨⟨7,0,0,1,0,0,0,none,0,0⟩,0,0,[]⟩,⟨⟨9,0,0,0,0,0,0,none,0,0⟩,0,0,[]⟩]
theorem nine_cases{i:Nat}(h:i<9):i=0∨i=1∨i=2∨i=3∨i=4∨i=5∨i=6∨i=7∨i=8:=by omega
theorem known_more(Z i:Nat)(h:i<9):(qat (knownOps Z) i).more (if i=0 then 0 else 1)=1:=by
 rcases nine_cases h with rfl|rfl|rfl|rfl|rfl|rfl|rfl|rfl|rfl<;>rfl
theorem known_ops{own:Nat->Nat}{w:World}{Z:Nat}{f1 f2 f3 f4:Nat×Nat}(h1:w.heap[Z+1]?=some (.cells #[.int .u8 97,.int .u8 98,.int .u8 99,.int .u8 100] 5 f1))(h2:w.heap[Z+1+1]?=some (.cells #[.int .u8 1] 5 f2))
 (h3:w.heap[Z+1+1+1]?=some (.cells #[.int .u8 2,.int .u8 0,.int .u8 0,.int .u8 4,.int .u8 1,.int .u8 0,.int .u8 1] 5 f3)) (h4:w.heap[Z+1+1+1+1]?=some (.cells ((knownOps Z).flatMap fun q=>q.cells.toList).toArray 83 f4))
 (o1:∀ b,Z<=b->own b=1):OpsAt own w (Z+1+1+1+1) 0 (knownOps Z):=by
 refine⟨fun i hi k hk=>?_,fun i hi=>?_,fun i hi=>?_,fun _=>⟨lt_of_block h4,o1 _ (by omega)⟩⟩
 ·rw[Nat.zero_add,cell_of_row w _ _ _ _ _ h4,List.getElem?_toArray]
  exact flat8 _ i k hi hk
 ·have hb1:OpB own w (some ⟨Z+1,0,none⟩) (Z+1) 0 4 4 abcdL:=⟨rfl,Nat.le_refl _,by omega,by omega,fun _=>rfl,fun i hi=>by
   have hi':i<4:=hi;rw[Nat.zero_add,cell_of_row w _ _ _ _ _ h1];rcases(show i=0∨i=1∨i=2∨i=3 by omega)with rfl|rfl|rfl|rfl<;>rfl,fun _=>⟨lt_of_block h1,o1 _ (by omega)⟩⟩
  have hb2:OpB own w (some ⟨Z+1+1,0,none⟩) (Z+1+1) 0 1 1 [1#8]:=⟨rfl,Nat.le_refl _,by omega,by omega,fun _=>rfl,fun i hi=>by
   have hi':i<1:=hi;obtain rfl:i=0:=by omega
   rw[Nat.zero_add,cell_of_row w _ _ _ _ _ h2];rfl,fun _=>⟨lt_of_block h2,o1 _ (by omega)⟩⟩
  have hb3:OpB own w (some ⟨Z+1+1+1,0,none⟩) (Z+1+1+1) 0 7 7 askL:=⟨rfl,by omega,by omega,by omega,fun _=>rfl,fun i hi=>by
   have hi':i<7:=hi;rw[Nat.zero_add,cell_of_row w _ _ _ _ _ h3];rcases(show i=0∨i=1∨i=2∨i=3∨i=4∨i=5∨i=6 by omega)with rfl|rfl|rfl|rfl|rfl|rfl|rfl<;>rfl,fun _=>⟨lt_of_block h3,o1 _ (by omega)⟩⟩
  have hn:=OpB.nil own w;have hi':i<9:=hi;rcases nine_cases hi' with rfl|rfl|rfl|rfl|rfl|rfl|rfl|rfl|rfl
  ·exact hn
  ·exact hb1
  ·exact hn
  ·exact hb2
  ·exact hb3
  ·exact hn
  ·exact hn
  ·exact hn
  ·exact hn
 ·have hi':i<9:=hi
  rcases nine_cases hi' with rfl|rfl|rfl|rfl|rfl|rfl|rfl|rfl|rfl<;>exact⟨(show(-9223372036854775808:Int)<=0 by decide),(show(0:Int)<=9223372036854775807 by decide)⟩
theorem known_cells(Z:Nat):(#[.int .i64 1,.int .i64 0,.int .i64 0,.int .i64 0,.int .i64 2,.int .i64 4,.int .i64 3,.slice none 0 0,.int .i64 2,.int .i64 0,.int .i64 0,.int .i64 0,.int .i64 0,.int .i64 0,.int .i64 0,.slice (some ⟨Z+1,0,none⟩) 4 4,.int .i64 5,.int .i64 0,.int .i64 0,.int .i64 0,.int .i64 2,.int .i64 4,.int .i64 3,.slice none 0 0,.int .i64 7,.int .i64 0,.int .i64 0,.int .i64 2,.int .i64 0,.int .i64 0,.int .i64 0,.slice (some ⟨Z+1+1,0,none⟩) 1 1,.int .i64 4,.int .i64 0,.int .i64 0,.int .i64 0,.int .i64 0,.int .i64 0,.int .i64 0,.slice (some ⟨Z+1+1+1,0,none⟩) 7 7,.int .i64 3,.int .i64 0,.int .i64 0,.int .i64 0,.int .i64 0,.int .i64 0,.int .i64 0,.slice none 0 0,.int .i64 8,.int .i64 0,.int .i64 0,.int .i64 1,.int .i64 0,.int .i64 0,.int .i64 0,.slice none 0 0,.int .i64 7,.int .i64 0,.int .i64 0,.int .i64 1,.int .i64 0,.int .i64 0,.int .i64 0,.slice none 0 0,.int .i64 9,.int .i64 0,.int .i64 0,.int .i64 0,.int .i64 0,.int .i64 0,.int .i64 0,.slice none 0 0]:Array Value)=((knownOps Z).flatMap fun q=>q.cells.toList).toArray:=rfl
theorem heap_new(w:World)(o:Obj):(w.alloc o).heap[w.heap.size]?=some o:=by simp[World.alloc,-World.alloc_eq]
theorem five(w:World)(A B C D E:Obj):Below w.heap.size w (((((w.alloc A).alloc B).alloc C).alloc D).alloc E)/\(((((w.alloc A).alloc B).alloc C).alloc D).alloc E).heap[w.heap.size+1]?=some B/\(((((w.alloc A).alloc B).alloc C).alloc D).alloc E).heap[w.heap.size+1+1]?=some C/\(((((w.alloc A).alloc B).alloc C).alloc D).alloc E).heap[w.heap.size+1+1+1]?=some D/\(((((w.alloc A).alloc B).alloc C).alloc D).alloc E).heap[w.heap.size+1+1+1+1]?=some E:=by
 have s1:(w.alloc A).heap.size=w.heap.size+1:=by simp
 have s2:((w.alloc A).alloc B).heap.size=w.heap.size+1+1:=by simp
 have s3:(((w.alloc A).alloc B).alloc C).heap.size=w.heap.size+1+1+1:=by simp
 have s4:((((w.alloc A).alloc B).alloc C).alloc D).heap.size=w.heap.size+1+1+1+1:=by simp
 have b1:Below w.heap.size w (w.alloc A):=(Below.refl _ w).alloc (Nat.le_refl _) _;have b2:=b1.alloc (by rw[s1];omega) B;have b3:=b2.alloc (by rw[s2];omega) C;have b4:=b3.alloc (by rw[s3];omega) D;have b5:=b4.alloc (by rw[s4];omega) E;have h1:=heap_new (w.alloc A) B;have h2:=heap_new ((w.alloc A).alloc B) C;have h3:=heap_new (((w.alloc A).alloc B).alloc C) D;have h4:=heap_new ((((w.alloc A).alloc B).alloc C).alloc D) E;rw[s1]at h1;rw[s2]at h2;rw[s3]at h3;rw[s4]at h4;refine⟨b5,?_,?_,?_,h4⟩
 ·rw[Below.heap_alloc _ E _ (by rw[s4];omega),Below.heap_alloc _ D _ (by rw[s3];omega),Below.heap_alloc _ C _ (by rw[s2];omega)]
  exact h1
 ·rw[Below.heap_alloc _ E _ (by rw[s4];omega),Below.heap_alloc _ D _ (by rw[s3];omega)]
  exact h2
 ·rw[Below.heap_alloc _ E _ (by rw[s4];omega)]
  exact h3
end Go.Proofs.YtjabhnhejbhgjaaGreatDoor
