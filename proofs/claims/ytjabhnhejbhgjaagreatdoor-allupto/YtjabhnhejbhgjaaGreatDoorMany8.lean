import Derived.Test.YtjabhnhejbhgjaaGreatDoorMany7
import Derived.BigQuiet
import Derived.Deep.QuietTactic
set_option maxRecDepth 100000
set_option maxHeartbeats 8000000
namespace Go.Proofs.YtjabhnhejbhgjaaGreatDoor
open Go.RowKit
def placesB(l:List Int)(n:Nat):Bool:=(List.range n).all fun i=>plcB (zat l i) && !hasB l i (zat l i)
theorem placesB_iff(l:List Int)(n:Nat):placesB l n=true↔∀ i,i<n->plcB (zat l i)=true/\hasB l i (zat l i)=false:=by
 simp[placesB,List.all_eq_true]
theorem plcB_range{z:Int}(h:plcB z=true):0<=z/\z<=255:=of_decide_eq_true h
theorem placesB_range{l:List Int}{n:Nat}(h:placesB l n=true)(i:Nat)(hi:i<n):0<=zat l i/\zat l i<=255:=plcB_range ((placesB_iff l n).1 h i hi).1
theorem placesB_apart{l:List Int}{n:Nat}(h:placesB l n=true)(i j:Nat)(hi:i<n)(hj:j<n)(e:zat l i=zat l j):i=j:=by
 rcases Nat.lt_trichotomy i j with q|q|q
 ·have:=((placesB_iff l n).1 h j hj).2
  have h2:hasB l j (zat l j)=true:=(hasB_iff l j _).2 ⟨i,q,e⟩;rw[h2]at this;exact absurd this (by decide)
 ·exact q
 ·have:=((placesB_iff l n).1 h i hi).2
  have h2:hasB l i (zat l i)=true:=(hasB_iff l i _).2 ⟨j,q,e.symm⟩;rw[h2]at this;exact absurd this (by decide)
theorem byteOf_toNat{z:Int}(h:0<=z/\z<=255):z=((byteOf z).toNat:Int):=by
 unfold byteOf;rw[BitVec.toNat_ofNat,Nat.mod_eq_of_lt (by omega)];omega
theorem blockSymbol_z(pb po pc sb so sc m n:Nat)(X:List Gf.F)(rs:List Row)(z:Int)(p:Gf.F)(w:World)(hz:z=(p.toNat:Int))(hXn:X.length=n)(hrn:rs.length=n)(hn:0<n)(hn8:n<=8)(hm:m<=281474976710656)
 (hP:Bs w pb po X) (hR:Rs w sb so rs) (hlen:∀ i,i<rs.length->(rat rs i).l.length=m) (hlow:∀ i,i<rs.length->(rat rs i).b<w.heap.size):
 Calls Tryz.prog 101 #[.slice (some ⟨pb,po,none⟩) n pc,.slice (some ⟨sb,so,none⟩) n sc,.int .u8 z] w fun e w'=>
  e=.returned (.slice (some ⟨w.heap.size,0,none⟩) m m)/\Blk w' w.heap.size (symOf X rs p m)/\Below w.heap.size w w'/\w'.heap.size=w.heap.size+1:=by
 subst hz;have:=blockSymbol_any pb po pc sb so sc m X rs p w (by omega) (by omega) (by omega) hm hP hR hlen hlow;rw[hXn,hrn]at this;exact this
def srcCells(base m n k:Nat):Array Value:=((List.range n).map fun i=>if i<k then Value.slice (some ⟨base+i,0,none⟩) m m else Value.slice none 0 0).toArray
theorem srcCells_zero(base m n:Nat):madeCells #[.slice none 0 0] n=srcCells base m n 0:=by
 apply Array.ext';rw[toList_madeCells_one];simp only[srcCells];apply List.ext_getElem
 ·simp
 ·intro i h1 h2;simp
theorem srcCells_succ(base m n k:Nat):(srcCells base m n k).setIfInBounds k (.slice (some ⟨base+k,0,none⟩) m m)=srcCells base m n (k+1):=by
 apply Array.ext';simp only[srcCells,List.setIfInBounds_toArray];apply List.ext_getElem
 ·simp
 ·intro i h1 h2
  simp only[List.getElem_set,List.getElem_map,List.getElem_range];by_cases e:k=i
  ·subst e;simp
  ·rw[if_neg e]
   by_cases h:i<k
   ·rw[if_pos h,if_pos (by omega)]
   ·rw[if_neg h,if_neg (by omega)]
theorem srcCells_at(base m n k i:Nat)(hi:i<n)(hk:i<k):(srcCells base m n k)[i]?=some (.slice (some ⟨base+i,0,none⟩) m m):=by
 simp[srcCells,hi,hk]
theorem srcCells_rest(base m n k i:Nat)(hi:i<n)(hk:¬ i<k):(srcCells base m n k)[i]?=some (.slice none 0 0):=by
 simp[srcCells,hi,hk]
theorem Tryz.info_bytes:(Tryz.prog.info? 33).map (fun i=>(i.zero,i.size,i.bytes))=some (some (.slice none 0 0),1,24):=by kernel_rfl
theorem source_any(pb po pc sb so sc m n:Nat)(X:List Gf.F)(rs:List Row)(w:World)(hXn:X.length=n)(hrn:rs.length=n)(hn:0<n)(hn8:n<=8)(hm:m<=281474976710656)
 (hP:Bs w pb po X) (hR:Rs w sb so rs) (hlen:∀ i,i<rs.length->(rat rs i).l.length=m) (hlow:∀ i,i<rs.length->(rat rs i).b<w.heap.size):
 Calls Tryz.prog 77 #[.slice (some ⟨pb,po,none⟩) n pc,.slice (some ⟨sb,so,none⟩) n sc] w fun e w'=>
  e=.returned (.slice (some ⟨w.heap.size,0,none⟩) n n)/\w'.heap[w.heap.size]?=some (.cells (srcCells (w.heap.size+1) m n n) 33 (0,0))/\(∀ i,i<n->Blk w' (w.heap.size+1+i) (symOf X rs (BitVec.ofNat 8 i) m))/\
  w'.heap.size=w.heap.size+1+n/\Below w.heap.size w w':=by
 have hmk:=fun W=>run_make_row' (P:=Tryz.prog) 40 33 (.slice none 0 0) 24 Tryz.underlying40 Tryz.info_bytes rfl .i64 .i64 n (by omega) (by omega) W
 have HR:Hid (rs.length=n):=hrn;have HX:Hid (X.length=n):=hXn;have hpl:=hP.lt (by omega);have hsl:=hR.lt (by omega);clear hrn hXn;have HM:Hid (∀ i,i<rs.length->(rat rs i).l.length=m):=hlen;have HLOW:Hid (∀ i,i<rs.length->(rat rs i).b<w.heap.size):=hlow;clear hlow hlen;have hmk2:=hmk w;go_enter Tryz.func77,Tryz.ntmps77;go_wp2_with fail;clear hmk2 hmk;generalize hW:w.alloc (Obj.cells _ _)=w3;have hb3:Below w.heap.size w w3:=by rw[<- hW];exact(Below.refl _ _).alloc (Nat.le_refl _) _
 have HZ3:Hid (w3.heap.size=w.heap.size+1):=by rw[<- hW];show _=_;simp
 have hl3:w3.heap[w.heap.size]?=some (.cells (srcCells (w.heap.size+1) m n 0) 33 (0,0)):=by rw[<- hW,<- srcCells_zero];exact heap_alloc_new _ _
 have HL3:Hid (w3.heap[w.heap.size]?=some (.cells (srcCells (w.heap.size+1) m n 0) 33 (0,0))):=hl3;clear hW hl3
 go_loopw[12] (fun t wr=>∃ k:Nat,k<=n/\t=.int .i64 k/\Hid (wr.heap[w.heap.size]?=some (.cells (srcCells (w.heap.size+1) m n k) 33 (0,0)))/\
  (∀ i,i<k->Blk wr (w.heap.size+1+i) (symOf X rs (BitVec.ofNat 8 i) m))/\Below w.heap.size w wr/\Hid (wr.heap.size=w.heap.size+1+k)) (fun t _=>n - (intOf t).toNat)
 case atStart=>exact⟨0,by omega,rfl,HL3,fun i hi=>by omega,hb3,HZ3⟩
 case round=>
  obtain⟨k,hk,rfl,hlr,hGs,hbr,hzr⟩:=hrel;clear HL3;by_cases hlt:k<n
  ·have hRr:=hR.below hbr hsl HLOW.out
   have hPr:=hP.below hbr hpl;have hsz:w.heap.size+1<=wr.heap.size:=by rw[hzr.out];omega
   have hk8:k<8:=by omega
   go_wp2_with fail;refine(blockSymbol_z pb po pc sb so sc m n X rs _ (BitVec.ofNat 8 k) _ ?hz HX.out HR.out (by omega) (by omega) hm hPr hRr HM.out (fun i hi=>Nat.lt_of_lt_of_le (HLOW.out i hi) (by omega))).mono ?_
   case hz=>rw[BitVec.toNat_ofNat];omega
   rintro e w5 ⟨rfl,hG5,hb5,hz5⟩;have HZ5:Hid (w5.heap.size=wr.heap.size+1):=hz5;clear hz5;have hl5:w5.heap[w.heap.size]?=some (.cells (srcCells (w.heap.size+1) m n k) 33 (0,0)):=by rw[hb5.block _ (by omega)];exact hlr.out
   have hc5:w5.cell? ⟨w.heap.size,k,none⟩=some (.slice none 0 0):=by rw[cell_of_row _ _ _ _ _ _ hl5];exact srcCells_rest _ _ _ _ _ hlt (by omega)
   have hf5:=frozen_of_row w5 w.heap.size k _ _ hl5;have HL5:Hid (w5.heap[w.heap.size]?=some (.cells (srcCells (w.heap.size+1) m n k) 33 (0,0))):=hl5;clear hl5;go_wp2_with fail;have hO:OnlyAt w.heap.size w5 (w5.setCell ⟨w.heap.size,k,none⟩ (.slice (some ⟨wr.heap.size,0,none⟩) m m)):=(OnlyAt.refl _ _).setCell k _
   go_roundw
   case rel=>
    refine⟨k+1,by omega,by go_num,?_,?_,?_,?_⟩
    ·show _=_
     rw[heap_setCell_same _ _ _ _ _ _ HL5.out,hzr.out,srcCells_succ]
    ·intro i hi
     by_cases e:i=k
     ·subst e
      have h5:Blk w5 (w.heap.size+1+i) (symOf X rs (BitVec.ofNat 8 i) m):=by rw[<- hzr.out];exact hG5
      exact h5.onlyAt hO (by omega)
     ·exact((hGs i (by omega)).below hb5 (by rw[hzr.out];omega)).onlyAt hO (by omega)
    ·exact(hbr.trans (hb5.mono (by omega))).trans (hO.below.mono (by omega))
    ·show _=_
     rw[hO.size,HZ5.out,hzr.out];omega
   case measure=>simp[intOf];omega
  ·obtain rfl:k=n:=by omega
   go_wp2_with fail;go_ret;exact⟨rfl,hlr.out,hGs,hzr.out,hbr⟩
theorem list_ext{l l':List Gf.F}(h:l.length=l'.length)(e:∀ i,i<l.length->at_ l i=at_ l' i):l=l':=by
 apply List.ext_getElem h;intro i h1 h2;have:=e i h1;simpa [at_,List.getD,h1,h2] using this
theorem byteOf_inj{a b:Int}(ha:0<=a/\a<=255)(hb:0<=b/\b<=255)(h:byteOf a=byteOf b):a=b:=by
 rw[byteOf_toNat ha,byteOf_toNat hb,h]
theorem symOf_congr{X:List Gf.F}{rs rs':List Row}{p:Gf.F}{m:Nat}(h:∀ j,j<X.length->(rat rs j).l=(rat rs' j).l):symOf X rs p m=symOf X rs' p m:=by
 refine list_ext (by rw[symOf_length,symOf_length]) (fun b hb=>?_);rw[symOf_length]at hb;rw[symOf_at _ _ _ _ _ hb,symOf_at _ _ _ _ _ hb];exact Gf.lag_congr (fun _ _=>rfl) (fun j hj=>by rw[h j hj]) p
end Go.Proofs.YtjabhnhejbhgjaaGreatDoor
