import Derived.Test.YtjabhnhejbhgjaaGreatDoorMany3
import Derived.Test.YtjabhnhejbhgjaaGreatDoorMany1
import Derived.WalkKit
import Derived.WalkSpells
import Derived.WalkLawsBesides
set_option maxRecDepth 100000
set_option maxHeartbeats 8000000
namespace Go.Proofs.YtjabhnhejbhgjaaGreatDoor
open Go.RowKit
def at_(l:List Gf.F)(i:Nat):Gf.F:=l.getD i 0
def zat(l:List Int)(i:Nat):Int:=l.getD i 0
def Bs(w:World)(b o:Nat)(l:List Gf.F):Prop:=∀ i,i<l.length->w.cell? ⟨b,o+i,none⟩=some (.int .u8 ((at_ l i).toNat:Int))
def Zs(w:World)(b o:Nat)(l:List Int):Prop:=∀ i,i<l.length->w.cell? ⟨b,o+i,none⟩=some (.int .i64 (zat l i))
structure OnlyAt(g:Nat)(w w':World):Prop where
 os:w'.os=w.os
 tape:w'.tape=w.tape
 output:w'.output=w.output
 size:w'.heap.size=w.heap.size
 rest:∀ k,k≠g->w'.heap[k]?=w.heap[k]?
theorem OnlyAt.refl(g:Nat)(w:World):OnlyAt g w w:=⟨rfl,rfl,rfl,rfl,fun _ _=>rfl⟩
theorem OnlyAt.below{g:Nat}{w w':World}(h:OnlyAt g w w'):Below g w w':=
 ⟨h.os,h.tape,h.output,Nat.le_of_eq h.size.symm,fun k hk=>h.rest k (Nat.ne_of_lt hk)⟩
theorem OnlyAt.cell{g:Nat}{w w':World}(h:OnlyAt g w w'){p:Addr}(hp:p.block≠g):w'.cell? p=w.cell? p:=World.cell?_of_block (w:=w) (h.rest p.block hp)
theorem OnlyAt.setCell{g:Nat}{w w':World}(h:OnlyAt g w w')(i:Nat)(v:Value):OnlyAt g w (w'.setCell ⟨g,i,none⟩ v):=
 ⟨h.os,h.tape,h.output,by rw[<- h.size];simp,fun k hk=>by rw[heap_setCell_other _ _ _ _ hk];exact h.rest k hk⟩
theorem OnlyAt.drew{g:Nat}{w w':World}(h:OnlyAt g w w'):OnlyAt g w w'.drew:=⟨h.os,h.tape,h.output,h.size,h.rest⟩
structure Row where
 b:Nat
 o:Nat
 c:Nat
 l:List Gf.F
def Row.val(r:Row):Value:=.slice (some ⟨r.b,r.o,none⟩) r.l.length r.c
def row0:Row:=⟨0,0,0,[]⟩
def rat(rs:List Row)(i:Nat):Row:=rs.getD i row0
def Rs(w:World)(b o:Nat)(rs:List Row):Prop:=∀ i,i<rs.length->w.cell? ⟨b,o+i,none⟩=some (rat rs i).val/\Bs w (rat rs i).b (rat rs i).o (rat rs i).l
theorem Bs.below{w w':World}{B b o:Nat}{l:List Gf.F}(h:Bs w b o l)(hb:Below B w w')(hB:b<B):Bs w' b o l:=
 fun i hi=>by rw[hb.cell (p:=⟨b,o+i,none⟩) hB];exact h i hi
theorem Zs.below{w w':World}{B b o:Nat}{l:List Int}(h:Zs w b o l)(hb:Below B w w')(hB:b<B):Zs w' b o l:=
 fun i hi=>by rw[hb.cell (p:=⟨b,o+i,none⟩) hB];exact h i hi
theorem Rs.below{w w':World}{B b o:Nat}{rs:List Row}(h:Rs w b o rs)(hb:Below B w w')(hB:b<B)(hrs:∀ i,i<rs.length->(rat rs i).b<B):Rs w' b o rs:=
 fun i hi=>⟨by rw[hb.cell (p:=⟨b,o+i,none⟩) hB];exact(h i hi).1,(h i hi).2.below hb (hrs i hi)⟩
theorem lt_of_cell{w:World}{a:Addr}{v:Value}(h:w.cell? a=some v):a.block<w.heap.size:=block_lt_of_cell h
theorem Bs.lt{w:World}{b o:Nat}{l:List Gf.F}(h:Bs w b o l)(hl:0<l.length):b<w.heap.size:=lt_of_cell (h 0 hl)
theorem Zs.lt{w:World}{b o:Nat}{l:List Int}(h:Zs w b o l)(hl:0<l.length):b<w.heap.size:=lt_of_cell (h 0 hl)
theorem Rs.lt{w:World}{b o:Nat}{rs:List Row}(h:Rs w b o rs)(hl:0<rs.length):b<w.heap.size:=lt_of_cell (h 0 hl).1
def enc(l:List Gf.F):Array Value:=(l.map fun x=>Value.int .u8 (x.toNat:Int)).toArray
def Blk(w:World)(g:Nat)(l:List Gf.F):Prop:=w.heap[g]?=some (.cells (enc l) 5 (0,0))
theorem Blk.bs{w:World}{g:Nat}{l:List Gf.F}(h:Blk w g l):Bs w g 0 l:=by
 intro i hi;rw[cell_of_row w g (0+i) _ _ _ h];simp[enc,at_,List.getD,hi]
theorem Blk.frozen{w:World}{g:Nat}{l:List Gf.F}(h:Blk w g l)(i:Nat):w.frozen? ⟨g,i,none⟩=false:=frozen_of_row w g i _ _ h
theorem Blk.set{w:World}{g:Nat}{l:List Gf.F}(h:Blk w g l)(i:Nat)(x:Gf.F):Blk (w.setCell ⟨g,i,none⟩ (.int .u8 (x.toNat:Int))) g (l.set i x):=by
 unfold Blk;rw[heap_setCell_same w g i _ _ _ h];simp[enc,List.map_set]
theorem Blk.setNat{w:World}{g:Nat}{l:List Gf.F}(h:Blk w g l)(i k:Nat)(hk:k<256):Blk (w.setCell ⟨g,i,none⟩ (.int .u8 (k:Int))) g (l.set i (BitVec.ofNat 8 k)):=by
 have:=h.set i (BitVec.ofNat 8 k);rw[BitVec.toNat_ofNat,Nat.mod_eq_of_lt (by omega)]at this;exact this
theorem Blk.lt{w:World}{g:Nat}{l:List Gf.F}(h:Blk w g l):g<w.heap.size:=(Array.getElem?_eq_some_iff.1 h).1
theorem Blk.below{w w':World}{B g:Nat}{l:List Gf.F}(h:Blk w g l)(hb:Below B w w')(hB:g<B):Blk w' g l:=by
 unfold Blk;rw[hb.block g hB];exact h
theorem Blk.onlyAt{w w':World}{g s:Nat}{l:List Gf.F}(h:Blk w g l)(ho:OnlyAt s w w')(hne:g≠s):Blk w' g l:=by
 unfold Blk;rw[ho.rest g hne];exact h
theorem Blk.made{w:World}(n:Nat):Blk (w.alloc (.cells (madeCells #[.int .u8 0] n) 5)) w.heap.size (List.replicate n 0):=by
 unfold Blk;rw[heap_alloc_new]
 have:madeCells #[.int .u8 0] n=enc (List.replicate n 0):=by
  apply Array.ext';rw[toList_madeCells_one];simp[enc]
 rw[this]
theorem Blk.drew{w:World}{g:Nat}{l:List Gf.F}(h:Blk w g l):Blk w.drew g l:=h
end Go.Proofs.YtjabhnhejbhgjaaGreatDoor
